import PyProof.Rows.All
import Wide.All
import OpenK.AllK
import Wide.FinOn
import Lean
import PyProof.EqAt
import PyProof.EqKinds
import PyProof.TupleCall
import PySem.Challenge.RW_momentwright_k79_crowds_put_together
set_option compiler.extract_closed false
local macro_rules | `(tactic| walk_at "o") => `(tactic| first | lia | omega)
set_option Elab.async false
set_option linter.all false
set_option maxRecDepth 100000
namespace L2
open PySem PySem.Spec PyProof.Rows

abbrev Key := Sum Int Str
def keyIs : Key → Value → Bool
  | .inl k, v => Value.isInt k v
  | .inr x, v => Value.isStrOf x v
def keyH (w : World) : Key → Int
  | .inl k => hashInt k
  | .inr x => hashStr w x
theorem keyIs_shape : ∀ {k : Key} {v : Value}, keyIs k v = true → (∃ i t, k = Sum.inl i ∧ v = Value.int i t) ∨ (∃ x t, k = Sum.inr x ∧ v = Value.str x t)
  | .inl i, v, h => by
    obtain ⟨t, e⟩ := Value.isInt_shape (k := i) (v := v) h
    exact .inl ⟨i, t, rfl, e⟩
  | .inr x, v, h => by
    obtain ⟨t, e⟩ := Value.isStrOf_shape (x := x) (v := v) h
    exact .inr ⟨x, t, rfl, e⟩
theorem keyIs_int (i : Int) (t : Tok) : keyIs (.inl i) (.int i t) = true := by simp [keyIs, Value.isInt]
theorem keyIs_str (x : Str) (t : Tok) : keyIs (.inr x) (.str x t) = true := by simp [keyIs, Value.isStrOf]
theorem key_ll (a b : Int) : decide ((Sum.inl a : Key) = Sum.inl b) = (a == b) := by
  by_cases e : a = b
  · subst e; simp
  · have h : ¬ (Sum.inl a : Key) = Sum.inl b := fun q => e (Sum.inl.inj q)
    rw [decide_eq_false h]
    exact (beq_eq_false_iff_ne.mpr e).symm
theorem key_rr (a b : Str) : decide ((Sum.inr a : Key) = Sum.inr b) = decide (a = b) := by
  by_cases e : a = b
  · subst e; simp
  · have h : ¬ (Sum.inr a : Key) = Sum.inr b := fun q => e (Sum.inr.inj q)
    rw [decide_eq_false h, decide_eq_false e]
theorem key_lr (a : Int) (b : Str) : decide ((Sum.inl a : Key) = Sum.inr b) = false := decide_eq_false (fun q => nomatch q)
theorem key_rl (a : Str) (b : Int) : decide ((Sum.inr a : Key) = Sum.inl b) = false := decide_eq_false (fun q => nomatch q)

def mixKind (prog : Program) (w : World) : PySem.KeyKind prog w Key where
  is := keyIs
  hash := keyH w
  inj := fun v a b ha hb => by
    rcases keyIs_shape ha with ⟨i, t, rfl, rfl⟩ | ⟨x, t, rfl, rfl⟩
    · rcases keyIs_shape hb with ⟨j, u, rfl, e⟩ | ⟨y, u, rfl, e⟩
      · injection e with e1 _; rw [e1]
      · exact nomatch e
    · rcases keyIs_shape hb with ⟨j, u, rfl, e⟩ | ⟨y, u, rfl, e⟩
      · exact nomatch e
      · injection e with e1 _; rw [e1]
  byValue := fun k v h => by
    rcases keyIs_shape h with ⟨i, t, rfl, rfl⟩ | ⟨x, t, rfl, rfl⟩ <;> rfl
  pyHash := fun hv h => by
    rcases keyIs_shape hv with ⟨i, t, rfl, rfl⟩ | ⟨x, t, rfl, rfl⟩
    · exact wpAny_pyHash_int h
    · exact wpAny_pyHash_str h
  eqBool := fun hu hv h => by
    rcases keyIs_shape hu with ⟨i, t, rfl, rfl⟩ | ⟨x, t, rfl, rfl⟩
    · rcases keyIs_shape hv with ⟨j, u, rfl, rfl⟩ | ⟨y, u, rfl, rfl⟩
      · rw [key_ll] at h; exact wpAny_eqBool_int h
      · rw [key_lr] at h; exact SeqAt.EqAt.int_str i t y u _ _ _ _ h
    · rcases keyIs_shape hv with ⟨j, u, rfl, rfl⟩ | ⟨y, u, rfl, rfl⟩
      · rw [key_rl] at h; exact SeqAt.EqAt.str_int x t j u _ _ _ _ h
      · rw [key_rr] at h; exact wpAny_eqBool_str h
  «strs» := fun k x t v h => by
    rcases keyIs_shape h with ⟨i, u, rfl, e⟩ | ⟨y, u, rfl, e⟩
    · exact nomatch e
    · injection e with e1 _
      subst e1
      cases v <;> rfl

theorem mixKind_int (prog : Program) (w : World) (i : Int) (t : Tok) : (mixKind prog w).is (.inl i) (.int i t) = true := keyIs_int i t
theorem mixKind_str (prog : Program) (w : World) (x : Str) (t : Tok) : (mixKind prog w).is (.inr x) (.str x t) = true := keyIs_str x t
end L2

namespace L2
open PySem PySem.Spec PyProof.Rows

inductive V where
  | non | bl (b : Bool) | int (i : Int) | str (x : Str) | byt (b : Array UInt8) | flt (b : UInt64) | ref (a : Addr) | ty (n : String)
  deriving DecidableEq

def RelV : V → Value → Prop
  | .non, u => u = Value.none
  | .bl b, u => u = Value.bool b
  | .int i, u => ∃ t, u = Value.int i t
  | .str x, u => ∃ t, u = Value.str x t
  | .byt b, u => ∃ t, u = Value.bytes b t
  | .flt b, u => ∃ t, u = Value.float b t
  | .ref a, u => u = Value.ref a
  | .ty n, u => u = Value.type n

abbrev Vals : List V → List Value → Prop := Paired RelV
theorem Vals.length {xs : List V} {us : List Value} (r : Vals xs us) : xs.length = us.length := Paired.length r
theorem Vals.get : ∀ {xs : List V} {us : List Value} {i : Nat} {x : V}, Vals xs us → xs[i]? = some x → ∃ u, us[i]? = some u ∧ RelV x u
  | _, _, _, _, .nil, e => by simp at e
  | _, _, 0, _, .cons r _, e => by simp at e; subst e; exact ⟨_, rfl, r⟩
  | _, _, i + 1, x, .cons _ t, e => by
    obtain ⟨u, h1, h2⟩ := Vals.get (i := i) (x := x) t (by simpa using e)
    exact ⟨u, by simpa using h1, h2⟩
theorem Vals.set {x : V} {u : Value} (r : RelV x u) : ∀ {xs : List V} {us : List Value} (i : Nat), Vals xs us → Vals (xs.set i x) (us.set i u)
  | _, _, _, .nil => .nil
  | _, _, 0, .cons _ t => .cons r t
  | _, _, i + 1, .cons q t => .cons q (Vals.set r i t)
theorem Vals.append : ∀ {xs ys : List V} {us ws : List Value}, Vals xs us → Vals ys ws → Vals (xs ++ ys) (us ++ ws)
  | _, _, _, _, .nil, s => s
  | _, _, _, _, .cons r t, s => .cons r (Vals.append t s)
theorem Vals.take : ∀ {xs : List V} {us : List Value} (n : Nat), Vals xs us → Vals (xs.take n) (us.take n)
  | _, _, 0, _ => .nil
  | _, _, _ + 1, .nil => .nil
  | _, _, n + 1, .cons r t => .cons r (Vals.take n t)
theorem Vals.drop : ∀ {xs : List V} {us : List Value} (n : Nat), Vals xs us → Vals (xs.drop n) (us.drop n)
  | _, _, 0, r => r
  | _, _, _ + 1, .nil => .nil
  | _, _, n + 1, .cons _ t => Vals.drop n t
def RelO : Option V → Option Value → Prop
  | some v, some u => RelV v u
  | none, none => True
  | _, _ => False
def KV {κ : Type} : List (κ × V) → List (κ × Value) → Prop := Paired fun (p : κ × V) (q : κ × Value) => p.1 = q.1 ∧ RelV p.2 q.2

def kV : Key → V
  | .inl i => .int i
  | .inr x => .str x

inductive HO where
  /-- a list -/
  | lst (xs : List V)
  /-- a tuple (never changes) -/
  | tup (xs : List V)
  /-- a dict whose keys are ints and texts; one whose keys are tuples of ints and texts (the empty one is both) -/
  | dK (kvs : List (Key × V)) | dT (kvs : List (List Key × V))
  /-- a set of ints: its members, its size -/
  | set (S : Int → Bool) (n : Nat)
  /-- an instance of the class at C, its dict at dx, its attributes -/
  | ins (C dx : Addr) (fs : List (Str × V))
  /-- the dict of the instance at x -/
  | own (x : Addr)
  /-- the dict of an exception -/
  | xd (fs : List (Str × V))
  /-- a bound method, f of x -/
  | met (f x : Addr)
  /-- a range object lo, lo + 1, .. below hi -/
  | rng (lo hi : Int)
  /-- a thing that is known to the object (the script; a dict while a loop walks it): read, never written while it is so -/
  | frz (o : Obj) (u : HO)
  /-- a code object's table -/
  | tbl (ps : Array Value)
  /-- any other thing, by what is true of its one object (a def of one's own: SetO a S n := HO.ext fun h => ..) -/
  | ext (φ : Heap → Prop)

abbrev Hp := Addr → Option HO
def upd (H : Hp) (a : Addr) (o : HO) : Hp := fun b => if b = a then some o else H b
theorem upd_same {H : Hp} {a : Addr} {o : HO} : upd H a o a = some o := by unfold upd; rw [if_pos rfl]
theorem upd_ne {H : Hp} {a b : Addr} {o : HO} (h : b ≠ a) : upd H a o b = H b := by unfold upd; rw [if_neg h]
theorem ne_of {H : Hp} {a b : Addr} {o u : HO} (h : H a = some o) (h' : H b = some u) (d : o ≠ u) : a ≠ b := by
  intro e; subst e; rw [h] at h'; exact d (Option.some.inj h')
theorem ne_of_none {H : Hp} {a b : Addr} {o : HO} (h : H a = some o) (h' : H b = none) : a ≠ b := by
  intro e; subst e; rw [h] at h'; cases h'

section
variable (P : Program) (w : World)
def ObjOk (H : Hp) (h : Heap) (a : Addr) : HO → Prop
  | .lst xs => xs.length ≤ sizeLine ∧ ∃ (its : List Value) (n : Nat), Vals xs its ∧ h.get? a = some { cls := .type "list", data := .seq its.toArray n }
  | .tup xs => xs.length ≤ sizeLine ∧ ∃ its : List Value, Vals xs its ∧ IsTup h a its.toArray
  | .dK kvs => kvs.length ≤ sizeLine ∧ (a == sysModules) = false ∧ ∃ vs, KV kvs vs ∧ h.DictOf (mixKind P w) a vs
  | .dT kvs => kvs.length ≤ sizeLine ∧ (a == sysModules) = false ∧ ∃ xs : List (List Key × Addr × Value),
      Paired (fun (p : List Key × V) (q : List Key × Addr × Value) => p.1 = q.1 ∧ H q.2.1 = some (.tup (p.1.map kV)) ∧ RelV p.2 q.2.2) kvs xs ∧
      ∃ o es ep, h.get? a = some o ∧ o.ExactDict ∧ o.data = .dict es ep ∧ es.toList = xs.map (entryOfKey (tupleKind (mixKind P w))) ∧ (xs.map (·.1)).Nodup
  | .set S n => h.SetOf (intKind P w) a S n
  | .ins C dx fs => H dx = some (.own a) ∧ fs.length ≤ 1000 ∧ dx ≠ a ∧ h.get? a = some (PySem.W.instObj C dx) ∧
      ∃ mA, h.Ns1 dx mA ∧ (∀ f, RelO (fs.lookup f) (mA f)) ∧ PySem.Within mA (fs.map (·.1))
  | .own _ => ∃ o, h.get? a = some o
  | .xd fs => ∃ mA, h.Ns1 a mA ∧ ∀ f, RelO (fs.lookup f) (mA f)
  | .rng lo hi => ∃ t u v, h.get? a = some { cls := .type "range", data := .fields #[.int lo t, .int hi u, .int 1 v] }
  | .frz o u => h.get? a = some o ∧ ObjOk H h a u
  | .tbl ps => h.get? a = some { cls := .none, data := .fields ps }
  | .met f x => h.get? a = some (PySem.W.methodObj (.ref f) (.ref x))
  | .ext φ => φ h ∧ (∃ o, h.get? a = some o) ∧ ∀ h1 h2 : Heap, φ h1 → (∀ o, h1.get? a = some o → h2.get? a = some o) → φ h2
def HOk (H : Hp) (h : Heap) : Prop := ∀ a o, H a = some o → ObjOk P w H h a o
end

section
variable {P : Program} {w : World} {H H' : Hp} {h h' : Heap} {a : Addr} {o : HO}
theorem ObjOk.lt (x : ObjOk P w H h a o) : a < h.objs.size := by
  cases o with
  | lst xs => obtain ⟨_, _, _, _, e⟩ := x; exact Heap.lt_size e
  | tup xs => obtain ⟨_, _, _, p⟩ := x; exact p.lt
  | dK kvs => obtain ⟨_, _, _, _, o, _, _, e, _⟩ := x; exact Heap.lt_size e
  | dT kvs => obtain ⟨_, _, _, _, o, _, _, e, _⟩ := x; exact Heap.lt_size e
  | set S n => obtain ⟨o, _, _, _, e, _⟩ := x; exact Heap.lt_size e
  | ins C dx fs => obtain ⟨_, _, _, e, _⟩ := x; exact Heap.lt_size e
  | own y => obtain ⟨_, e⟩ := x; exact Heap.lt_size e
  | xd fs => obtain ⟨_, ⟨_, _, _, e, _⟩, _⟩ := x; exact Heap.lt_size e
  | rng lo hi => obtain ⟨_, _, _, e⟩ := x; exact Heap.lt_size e
  | frz ob u => obtain ⟨e, _⟩ := x; exact Heap.lt_size e
  | tbl ps => exact Heap.lt_size (show h.get? a = some _ from x)
  | met f y => exact Heap.lt_size (show h.get? a = some _ from x)
  | ext φ => obtain ⟨_, ⟨_, e⟩, _⟩ := x; exact Heap.lt_size e
theorem Paired.mapP {α β : Type} {F G : α → β → Prop} : ∀ {l₁ : List α} {l₂ : List β}, Paired F l₁ l₂ → (∀ a b, F a b → G a b) → Paired G l₁ l₂
  | _, _, .nil, _ => .nil
  | _, _, .cons r t, f => .cons (f _ _ r) (Paired.mapP t f)
theorem ObjOk.stay (x : ObjOk P w H h a o) (k : ∀ b u, (b = a ∨ H b = some (.own a)) → h.get? b = some u → h'.get? b = some u)
    (ho : ∀ b, H b = some (.own a) → H' b = some (.own a)) (ht : ∀ b xs, H b = some (.tup xs) → H' b = some (.tup xs)) : ObjOk P w H' h' a o := by
  induction o with
  | lst xs => obtain ⟨z, its, n, r, e⟩ := x; exact ⟨z, its, n, r, k _ _ (.inl rfl) e⟩
  | tup xs => obtain ⟨z, its, r, ob, e, c⟩ := x; exact ⟨z, its, r, ob, k _ _ (.inl rfl) e, c⟩
  | dK kvs => obtain ⟨z, y, vs, r, ob, es, ep, e, c⟩ := x; exact ⟨z, y, vs, r, ob, es, ep, k _ _ (.inl rfl) e, c⟩
  | dT kvs =>
    obtain ⟨z, y, xs, r, ob, es, ep, e, c⟩ := x
    exact ⟨z, y, xs, Paired.mapP r fun p q z => ⟨z.1, ht _ _ z.2.1, z.2.2⟩, ob, es, ep, k _ _ (.inl rfl) e, c⟩
  | set S n => obtain ⟨ob, es, ep, t, e, c⟩ := x; exact ⟨ob, es, ep, t, k _ _ (.inl rfl) e, c⟩
  | ins C dx fs =>
    obtain ⟨d, z, ne, e, mA, ⟨od, es, ep, e2, c⟩, r⟩ := x
    exact ⟨ho _ d, z, ne, k _ _ (.inl rfl) e, mA, ⟨od, es, ep, k _ _ (.inr d) e2, c⟩, r⟩
  | own y => obtain ⟨ob, e⟩ := x; exact ⟨ob, k _ _ (.inl rfl) e⟩
  | xd fs => obtain ⟨mA, ⟨od, es, ep, e, c⟩, r⟩ := x; exact ⟨mA, ⟨od, es, ep, k _ _ (.inl rfl) e, c⟩, r⟩
  | rng lo hi => obtain ⟨t, u, v, e⟩ := x; exact ⟨t, u, v, k _ _ (.inl rfl) e⟩
  | frz ob u ih => obtain ⟨e, q⟩ := x; exact ⟨k _ _ (.inl rfl) e, ih q⟩
  | tbl ps =>
    have e : h.get? a = some { cls := .none, data := .fields ps } := x
    show h'.get? a = some { cls := .none, data := .fields ps }
    exact k a _ (.inl rfl) e
  | met f y =>
    have e : h.get? a = some (PySem.W.methodObj (.ref f) (.ref y)) := x
    show h'.get? a = some (PySem.W.methodObj (.ref f) (.ref y))
    exact k a _ (.inl rfl) e
  | ext φ => obtain ⟨p, ⟨o, e⟩, st⟩ := x; exact ⟨st _ _ p fun o q => k _ _ (.inl rfl) q, ⟨o, k _ _ (.inl rfl) e⟩, st⟩
theorem HOk.lt (x : HOk P w H h) (e : H a = some o) : a < h.objs.size := (x a o e).lt
theorem HOk.fresh (x : HOk P w H h) (e : h.objs.size ≤ a) : H a = none := by
  cases q : H a with
  | none => rfl
  | some u => exact absurd (Nat.lt_of_lt_of_le (x.lt q) e) (Nat.lt_irrefl _)
theorem HOk.kept (x : HOk P w H h) (k : ∀ b u, h.get? b = some u → h'.get? b = some u) : HOk P w H h' := fun a o e =>
  (x a o e).stay (fun b u _ q => k b u q) (fun _ q => q) fun _ _ q => q
theorem HOk.laid (x : HOk P w H h) (k : ∀ b u, h.get? b = some u → h'.get? b = some u) (hp : h.objs.size ≤ a) (new : ObjOk P w (upd H a o) h' a o) : HOk P w (upd H a o) h' := fun b u e => by
  have hn := x.fresh hp
  by_cases hb : b = a
  · subst hb; rw [upd_same] at e; cases e; exact new
  · rw [upd_ne hb] at e
    exact (x b u e).stay (fun c v _ q => k c v q) (fun c q => by rw [upd_ne (ne_of_none q hn)]; exact q) fun c xs q => by rw [upd_ne (ne_of_none q hn)]; exact q
end

def Rd (H : Hp) (a : Addr) (u : HO) : Prop := H a = some u ∨ ∃ o, H a = some (.frz o u)
theorem Rd.ok {P : Program} {w : World} {H : Hp} {h : Heap} {a : Addr} {u : HO} (r : Rd H a u) (x : HOk P w H h) : ObjOk P w H h a u := by
  rcases r with r | ⟨o, r⟩
  · exact x a u r
  · obtain ⟨_, q⟩ := x a _ r
    exact q
def Mut : Option HO → Prop
  | some (.lst _) => True
  | some (.dK _) => True
  | some (.dT _) => True
  | some (.set _ _) => True
  | some (.ins _ _ _) => True
  | some (.ext _) => True
  | _ => False
section
variable {P : Program} {w : World} {H : Hp} {h h' : Heap} {x e : Addr} {o' : HO}
theorem HOk.write (ok : HOk P w H h) (mu : Mut (H x)) (he : e = x ∨ H e = some (.own x)) (k : ∀ b u, b ≠ e → h.get? b = some u → h'.get? b = some u) (heo : ∃ u, h'.get? e = some u)
    (new : ObjOk P w (upd H x o') h' x o') : HOk P w (upd H x o') h' := fun b u q => by
  have nown : ∀ c y, H c = some (.own y) → c ≠ x := fun c y r z => by subst z; rw [r] at mu; exact mu
  have ntup : ∀ c xs, H c = some (.tup xs) → c ≠ x := fun c xs r z => by subst z; rw [r] at mu; exact mu
  by_cases hb : b = x
  · subst hb; rw [upd_same] at q; cases q; exact new
  · rw [upd_ne hb] at q
    by_cases hbe : b = e
    · have q' : H b = some (.own x) := by
        rcases he with z | z
        · exact absurd (hbe.trans z) hb
        · rw [hbe]; exact z
      rw [q] at q'; cases q'
      obtain ⟨v, hv⟩ := heo
      exact ⟨v, by rw [hbe]; exact hv⟩
    · refine (ok b u q).stay (fun c v hc r => k c v ?_ r) (fun c r => by rw [upd_ne (nown c b r)]; exact r) fun c xs r => by rw [upd_ne (ntup c xs r)]; exact r
      rcases hc with rfl | hc
      · exact hbe
      · rintro rfl
        rcases he with z | z
        · exact nown c b hc z
        · rw [hc] at z; cases z; exact hb rfl
end

structure Un (fs ex : List Addr) (H H' : Hp) (h h' : Heap) : Prop where
  keep : ∀ b o, h.get? b = some o → H b = none → b ∉ fs → b ∉ ex → h'.get? b = some o
  slot : ∀ b o, h.get? b = some o → H b = none → b ∈ fs → b ∉ ex → ∃ sl, h'.get? b = some { o with slots := sl }
  free : ∀ b o, h.get? b = some o → H b = none → b ∉ ex → H' b = none
  there : ∀ b o, h.get? b = some o → b ∉ ex → ∃ o', h'.get? b = some o'
  tups : ∀ b xs, H b = some (.tup xs) → H' b = some (.tup xs)
  frzs : ∀ b o u, H b = some (.frz o u) → H' b = some (.frz o u)
  tbls : ∀ b ps, H b = some (.tbl ps) → ∃ more, H' b = some (.tbl (ps ++ more))
section
variable {fs fs' ex ex' : List Addr} {H H1 H2 : Hp} {h h1 h2 h' : Heap} {a x e : Addr} {o : HO}
theorem Un.any (u : Un fs ex H H1 h h1) {b : Addr} {ob : Obj} (q : h.get? b = some ob) (n : H b = none) (hx : b ∉ ex) : ∃ sl, h1.get? b = some { ob with slots := sl } := by
  by_cases hb : b ∈ fs
  · exact u.slot b ob q n hb hx
  · exact ⟨ob.slots, u.keep b ob q n hb hx⟩
theorem Un.kept (k : ∀ b u, h.get? b = some u → h'.get? b = some u) : Un fs ex H H h h' :=
  ⟨fun b ob q _ _ _ => k b ob q, fun b ob q _ _ _ => ⟨ob.slots, k b ob q⟩, fun _ _ _ n _ => n, fun b ob q _ => ⟨ob, k b ob q⟩, fun _ _ q => q, fun _ _ _ q => q, fun _ ps q => ⟨#[], by rw [q]; simp⟩⟩
theorem Un.refl : Un fs ex H H h h := Un.kept fun _ _ q => q
theorem Un.laid (k : ∀ b u, h.get? b = some u → h'.get? b = some u) (hp : h.objs.size ≤ a) (hn : H a = none) : Un fs ex H (upd H a o) h h' where
  keep := fun b u q _ _ _ => k b u q
  slot := fun b u q _ _ _ => ⟨u.slots, k b u q⟩
  free := fun b u q n _ => by rw [upd_ne (Nat.ne_of_lt (Nat.lt_of_lt_of_le (Heap.lt_size q) hp))]; exact n
  there := fun b u q _ => ⟨u, k b u q⟩
  tups := fun b xs q => by rw [upd_ne (ne_of_none q hn)]; exact q
  frzs := fun b u xs q => by rw [upd_ne (ne_of_none q hn)]; exact q
  tbls := fun b ps q => ⟨#[], by rw [upd_ne (ne_of_none q hn), q]; simp⟩
theorem Un.write (mu : Mut (H x)) (he : e = x ∨ H e = some (.own x)) (k : ∀ b u, b ≠ e → h.get? b = some u → h'.get? b = some u) (heo : ∃ u, h'.get? e = some u) : Un fs ex H (upd H x o) h h' := by
  have hx : ∀ b, H b = none → b ≠ x := fun b n z => by subst z; rw [n] at mu; exact mu
  have hb : ∀ b, H b = none → b ≠ e := fun b n z => by
    subst z
    rcases he with r | r
    · exact hx b n r
    · rw [n] at r; cases r
  have hm : ∀ b u, H b = some u → ¬ Mut (some u) → b ≠ x := fun b u q nm z => by subst z; rw [q] at mu; exact nm mu
  refine ⟨fun b u q n _ _ => k b u (hb b n) q, fun b u q n _ _ => ⟨u.slots, k b u (hb b n) q⟩, fun b u q n _ => by rw [upd_ne (hx b n)]; exact n, fun b u q _ => ?_,
    fun b xs q => by rw [upd_ne (hm b _ q fun z => z)]; exact q, fun b u xs q => by rw [upd_ne (hm b _ q fun z => z)]; exact q, fun b ps q => ⟨#[], by rw [upd_ne (hm b _ q fun z => z), q]; simp⟩⟩
  by_cases hbe : b = e
  · subst hbe; exact heo
  · exact ⟨u, k b u hbe q⟩
end

def trk (h : Heap) (H : Hp) : List Addr := (List.range h.objs.size).filter fun a => (H a).isSome
def hidT (h : Heap) (H : Hp) : Heap := PySem.W.hideAll h (trk h H)
theorem hidT_size (h : Heap) (H : Hp) : (hidT h H).objs.size = h.objs.size := PySem.W.hideAll_size _ _
theorem hidT_get {h : Heap} {H : Hp} {b : Addr} {o : Obj} (e : h.get? b = some o) (n : H b = none) : (hidT h H).get? b = some o :=
  PySem.W.hideAll_get _ e fun hm => by
    have q : (H b).isSome = true := (List.mem_filter.mp hm).2
    rw [n] at q; simp at q
theorem of_hidT {h : Heap} {H : Hp} {b : Addr} {o : Obj} (e : (hidT h H).get? b = some o) : h.get? b = some o ∧ H b = none := by
  have e' : h.get? b = some o := PySem.W.of_hideAll (trk h H) e
  refine ⟨e', ?_⟩
  cases q : H b with
  | none => rfl
  | some x =>
    have hm : b ∈ trk h H := List.mem_filter.mpr ⟨List.mem_range.mpr (Heap.lt_size e'), by simp [q]⟩
    have z : (hidT h H).get? b = none := PySem.W.hideAll_none (trk h H) hm
    rw [z] at e; cases e

def allNews (g h : Heap) (L : Addr) : List (Addr × Obj) := (List.range h.objs.size).filterMap fun a => if a = L ∨ (g.get? a).isSome = true then none else (h.get? a).map fun o => (a, o)
def rest (g h : Heap) (L d : Addr) : List (Addr × Obj) := (allNews g h L).filter fun p => decide (p.1 ≠ d)
end L2

namespace L2
open PySem PySem.Spec PyProof.Rows

structure Mod (K : PySem.W.Frag) (mg : Str → Option Value) (base : Heap) : Prop where
  kin : K.In base
  glob : base.Ns mainGlobals mg
  blt : ∃ mb, base.Ns builtinsNs mb ∧ ∀ x : Str, x ≠ "__name__" → mb x = bootBuiltins x
  nolimit : base.NoLimit

structure Cx where
  prog : Program
  w : World
  K : PySem.W.Frag
  mg : Str → Option Value
  base : Heap
  A : Around
  N : List Str
  s₀ : Shared
  H₀ : Hp
  env : Env
  outer : List Env
  stack : List Env
  ex : List Addr
  fn : Str → Bool
  calm : Bool
  pn : List (Addr × Obj)
  xe : Value → Shared → Prop
def frs (l : List Env) : List Addr := l.filterMap (·.frame)
abbrev Cx.fs (X : Cx) : List Addr := frs X.outer

def Vis (sc : Scope) (x : Str) : Prop := sc.names.lookup x = some .local ∨ sc.names.lookup x = some .cell ∨ sc.names.lookup x = some .free
def Loc (sc : Scope) (x : Str) : Prop := sc.names.lookup x = some .local ∨ sc.names.lookup x = some .cell
def Look (env : Env) (h : Heap) (m : Str → Option Value) (x : Str) (u : Value) : Prop :=
  (env.kindOf x = some .local ∧ m x = some u) ∨ ((env.kindOf x = some .cell ∨ env.kindOf x = some .free) ∧ ∃ c, env.cells.lookup x = some c ∧ h.IsCell c (some u))

structure Cx.Ok (X : Cx) : Prop where
  mod : Mod X.K X.mg X.base
  kind : X.env.scope.kind = .function
  glob : X.env.globals = mainGlobals
  blt : X.env.builtins = builtinsNs
  above : X.s₀.heap.objs.size ≤ X.env.locals
  inj : ∀ x y c, X.env.cells.lookup x = some c → X.env.cells.lookup y = some c → x = y
  has : ∀ x, (X.env.kindOf x = some .cell ∨ X.env.kindOf x = some .free) → ∃ c, X.env.cells.lookup x = some c
  cab : ∀ x c, X.fn x = true → X.env.cells.lookup x = some c → X.s₀.heap.objs.size ≤ c
  hd : X.calm = true → X.A.handled = none
  frames : X.A.frames = some X.stack
  stk : X.stack = X.outer ∨ (X.stack = X.env :: X.outer ∧ X.env.frame = some X.env.locals)
  exf : ∀ b ∈ X.ex, b ≠ X.env.locals ∧ ∀ x c, X.env.cells.lookup x = some c → c ≠ b
  bs : ∀ b o, X.base.get? b = some o → X.s₀.heap.get? b = some o ∧ X.H₀ b = none
  bsz : X.base.objs.size ≤ X.s₀.heap.objs.size
  noex : ∀ b o, X.base.get? b = some o → b ∉ X.ex
  exfs : ∀ b ∈ X.ex, b ∉ X.fs
  funs : X.s₀.heap.FunFrames X.base X.outer
  frf : ∀ b ∈ X.fs, X.H₀ b = none

structure Inv (X : Cx) (pins : List (Addr × Obj)) (σ : List (Option V)) (H : Hp) (s : Shared) : Prop where
  ok : X.Ok
  os : s.os = X.s₀.os
  bare : AllBare s.gens
  base : Un X.fs X.ex X.H₀ H X.s₀.heap s.heap
  loc : ∃ m, s.heap.Ns X.env.locals m ∧ ∀ (i : Nat) (x : Str) (v : V), X.N[i]? = some x → σ[i]? = some (some v) → Vis X.env.scope x → ∃ u, RelV v u ∧ Look X.env s.heap m x u
  cell : ∀ x c, X.env.cells.lookup x = some c → ∃ v, s.heap.IsCell c v
  free : H X.env.locals = none
  freeC : ∀ x c, X.env.cells.lookup x = some c → H c = none
  pin : ∀ p ∈ X.pn ++ pins, s.heap.get? p.1 = some p.2 ∧ H p.1 = none ∧ p.1 ≠ X.env.locals ∧ p.1 ∉ X.fs ∧ ∀ v, p.2.data ≠ .cell v
  hok : HOk X.prog X.w H s.heap
  len : σ.length = X.N.length

section
variable {X : Cx} {pins : List (Addr × Obj)} {σ : List (Option V)} {H H' : Hp} {s : Shared} {h' : Heap}

theorem Cx.Ok.nofr (ok : X.Ok) {b : Addr} {o : Obj} (e : X.base.get? b = some o) : b ∉ X.fs := fun hb => by
  have := (ok.funs.mem hb).1
  rw [e] at this; cases this
theorem Inv.bs (I : Inv X pins σ H s) : ∀ b o, X.base.get? b = some o → s.heap.get? b = some o ∧ H b = none := fun b o e =>
  ⟨I.base.keep b o (I.ok.bs b o e).1 (I.ok.bs b o e).2 (I.ok.nofr e) (I.ok.noex b o e), I.base.free b o (I.ok.bs b o e).1 (I.ok.bs b o e).2 (I.ok.noex b o e)⟩
theorem Inv.bk (I : Inv X pins σ H s) : ∀ b o, X.base.get? b = some o → s.heap.get? b = some o := fun b o e => (I.bs b o e).1
theorem Inv.mod (I : Inv X pins σ H s) : Mod X.K X.mg X.base := I.ok.mod
theorem Inv.kIn (I : Inv X pins σ H s) : X.K.In s.heap := I.ok.mod.kin.keeps I.bk
theorem Inv.lt (I : Inv X pins σ H s) : X.env.locals < s.heap.objs.size := let ⟨_, hn, _⟩ := I.loc; hn.lt
theorem Inv.sz (I : Inv X pins σ H s) : X.s₀.heap.objs.size ≤ s.heap.objs.size := Nat.le_trans I.ok.above (Nat.le_of_lt I.lt)
theorem Inv.nofs (I : Inv X pins σ H s) {a : Addr} (h : s.heap.objs.size ≤ a) : a ∉ X.fs := fun hb => by
  obtain ⟨_, o, ho, _⟩ := I.ok.funs.mem hb
  exact absurd (Nat.lt_of_lt_of_le (Heap.lt_size ho) (Nat.le_trans I.sz h)) (Nat.lt_irrefl _)
theorem Inv.cne (I : Inv X pins σ H s) : ∀ x c, X.env.cells.lookup x = some c → c ≠ X.env.locals := fun x c e z => by
  obtain ⟨v, o, ho, hd⟩ := I.cell x c e
  obtain ⟨m, ⟨o', es, ep, ho', hd', _⟩, _⟩ := I.loc
  rw [z, ho'] at ho; cases ho; rw [hd'] at hd; cases hd
theorem Inv.funs (I : Inv X pins σ H s) : s.heap.FunFrames X.base X.outer := by
  have all : ∀ (l : List Env), (∀ b ∈ frs l, b ∈ X.fs) → X.s₀.heap.FunFrames X.base l → s.heap.FunFrames X.base l := by
    intro l
    induction l with
    | nil => intro _ _; trivial
    | cons env r ih =>
      intro hs hl
      obtain ⟨hk, ⟨L, o, hf, hn, ho, hd⟩, hr⟩ := hl
      have hL : L ∈ X.fs := hs L (by unfold frs; rw [List.filterMap_cons, hf]; exact List.mem_cons_self)
      obtain ⟨sl, e⟩ := I.base.slot L o ho (I.ok.frf L hL) hL fun z => I.ok.exfs L z hL
      exact ⟨hk, ⟨L, _, hf, hn, e, hd⟩, ih (fun b hb => hs b (by unfold frs; rw [List.filterMap_cons, hf]; exact List.mem_cons_of_mem _ hb)) hr⟩
  exact all X.outer (fun _ hb => hb) I.ok.funs

theorem Inv.stack (I : Inv X pins σ H s) : s.heap.FunFrames X.base X.stack := by
  rcases I.ok.stk with e | ⟨e, hf⟩
  · rw [e]; exact I.funs
  · rw [e]
    obtain ⟨m, hn, _⟩ := I.loc
    refine .cons (by rw [I.ok.kind]; decide) hf hn ?_ I.funs
    exact Heap.get?_none_of_le (Nat.le_trans I.ok.bsz I.ok.above)
theorem Inv.stkSub (I : Inv X pins σ H s) : ∀ b ∈ frs X.stack, b ∈ X.env.locals :: X.fs := fun b hb => by
  rcases I.ok.stk with e | ⟨e, hf⟩
  · rw [e] at hb; exact List.mem_cons_of_mem _ hb
  · rw [e] at hb
    unfold frs at hb
    rw [List.filterMap_cons, hf] at hb
    exact hb
theorem Inv.stkFree (I : Inv X pins σ H s) : ∀ b ∈ frs X.stack, H b = none := fun b hb => by
  rcases List.mem_cons.mp (I.stkSub b hb) with e | hb
  · rw [e]; exact I.free
  · obtain ⟨_, o, ho, _⟩ := I.ok.funs.mem hb
    exact I.base.free b o ho (I.ok.frf b hb) fun z => I.ok.exfs b z hb

theorem Inv.step {g' : Array GenState} {t' : Nat} {d' : Drawn} {ch : List Addr} (I : Inv X pins σ H s)
    (hch : ∀ b ∈ ch, (b ∈ X.ex ∨ X.s₀.heap.objs.size ≤ b) ∧ b ≠ X.env.locals ∧ (∀ x c, X.env.cells.lookup x = some c → c ≠ b) ∧ ∀ p ∈ X.pn ++ pins, p.1 ≠ b)
    (keep : ∀ b o, b ≠ X.env.locals → b ∉ X.fs → b ∉ ch → s.heap.get? b = some o → H b = none → h'.get? b = some o)
    (slot : ∀ b o, b ≠ X.env.locals → b ∈ X.fs → b ∉ ch → s.heap.get? b = some o → H b = none → ∃ sl, h'.get? b = some { o with slots := sl }) (free : ∀ b o, b ∉ ch → s.heap.get? b = some o → H b = none → H' b = none)
    (there : ∀ b o, b ∉ ch → s.heap.get? b = some o → ∃ o', h'.get? b = some o')
    (tups : ∀ b xs, H b = some (.tup xs) → H' b = some (.tup xs)) (frzs : ∀ b o u, H b = some (.frz o u) → H' b = some (.frz o u)) (tbls : ∀ b ps, H b = some (.tbl ps) → ∃ more, H' b = some (.tbl (ps ++ more)))
    (ns : ∀ m, s.heap.Ns X.env.locals m → h'.Ns X.env.locals m) (hok : HOk X.prog X.w H' h') (hg : AllBare g') :
    Inv X pins σ H' { s with heap := h', gens := g', drawn := d', toks := t' } := by
  have neL : ∀ b o, X.s₀.heap.get? b = some o → b ≠ X.env.locals := fun b o e => Nat.ne_of_lt (Nat.lt_of_lt_of_le (Heap.lt_size e) I.ok.above)
  have neC : ∀ b o, X.s₀.heap.get? b = some o → b ∉ X.ex → b ∉ ch := fun b o e hx hb => by
    rcases (hch b hb).1 with z | z
    · exact hx z
    · exact absurd (Nat.lt_of_lt_of_le (Heap.lt_size e) z) (Nat.lt_irrefl _)
  have cellK : ∀ x c, X.env.cells.lookup x = some c → ∀ v, s.heap.IsCell c v → h'.IsCell c v := fun x c e v ⟨o, ho, hd⟩ => by
    have nch : c ∉ ch := fun z => (hch c z).2.2.1 x c e rfl
    by_cases hc : c ∈ X.fs
    · obtain ⟨sl, q⟩ := slot c o (I.cne x c e) hc nch ho (I.freeC x c e)
      exact ⟨_, q, hd⟩
    · exact ⟨o, keep c o (I.cne x c e) hc nch ho (I.freeC x c e), hd⟩
  refine ⟨I.ok, I.os, hg, ⟨fun b o e n hb hx => ?_, fun b o e n hb hx => ?_, fun b o e n hx => ?_, fun b o e hx => ?_, fun b xs e => tups b xs (I.base.tups b xs e), fun b o xs e => frzs b o xs (I.base.frzs b o xs e), fun b ps e => ?_⟩, ?_, fun x c e => ?_, ?_, fun x c e => ?_, fun p hp => ?_, hok, I.len⟩
  · exact keep b o (neL b o e) hb (neC b o e hx) (I.base.keep b o e n hb hx) (I.base.free b o e n hx)
  · obtain ⟨sl, e1⟩ := I.base.slot b o e n hb hx
    obtain ⟨sl', e2⟩ := slot b _ (neL b o e) hb (neC b o e hx) e1 (I.base.free b o e n hx)
    exact ⟨sl', e2⟩
  · obtain ⟨o', e1⟩ := I.base.there b o e hx
    exact free b o' (neC b o e hx) e1 (I.base.free b o e n hx)
  · obtain ⟨o', e1⟩ := I.base.there b o e hx
    exact there b o' (neC b o e hx) e1
  · obtain ⟨m1, e1⟩ := I.base.tbls b ps e
    obtain ⟨m2, e2⟩ := tbls b _ e1
    exact ⟨m1 ++ m2, by rw [e2, Array.append_assoc]⟩
  · obtain ⟨m, hn, hl⟩ := I.loc
    refine ⟨m, ns m hn, fun i x v e1 e2 e3 => ?_⟩
    obtain ⟨u, r, l⟩ := hl i x v e1 e2 e3
    refine ⟨u, r, ?_⟩
    rcases l with l | ⟨k, c, e, z⟩
    · exact .inl l
    · exact .inr ⟨k, c, e, cellK x c e _ z⟩
  · obtain ⟨v, z⟩ := I.cell x c e
    exact ⟨v, cellK x c e v z⟩
  · obtain ⟨m, ⟨o, _, _, ho, _⟩, _⟩ := I.loc
    exact free _ o (fun z => (hch _ z).2.1 rfl) ho I.free
  · obtain ⟨v, o, ho, hd⟩ := I.cell x c e
    exact free c o (fun z => (hch c z).2.2.1 x c e rfl) ho (I.freeC x c e)
  · obtain ⟨e, n, ne, nf, d⟩ := I.pin p hp
    have nch : p.1 ∉ ch := fun z => (hch p.1 z).2.2.2 p hp rfl
    exact ⟨keep p.1 p.2 ne nf nch e n, free p.1 p.2 nch e n, ne, nf, d⟩
theorem Inv.un {t' : Nat} (I : Inv X pins σ H s) (u : Un X.fs [] H H' s.heap h') (hok : HOk X.prog X.w H' h') : Inv X pins σ H' { s with heap := h', toks := t' } := by
  obtain ⟨m, ⟨o, es, ep, ho, r⟩, _⟩ := id I.loc
  obtain ⟨sl, hL⟩ := u.any ho I.free (by simp)
  exact I.step (g' := s.gens) (d' := s.drawn) (ch := []) (fun _ z => nomatch z) (fun b o _ hb _ e n => u.keep b o e n hb (by simp)) (fun b o _ hb _ e n => u.slot b o e n hb (by simp)) (fun b o _ e n => u.free b o e n (by simp)) (fun b o _ e => u.there b o e (by simp)) u.tups u.frzs u.tbls (fun m' hm => by
    obtain ⟨o', es', ep', ho', r'⟩ := hm
    rw [ho] at ho'; cases ho'
    exact ⟨_, es', ep', hL, r'⟩) hok I.bare
theorem Inv.call {g' : Array GenState} {t' : Nat} {d' : Drawn} {ch : List Addr} (I : Inv X pins σ H s) (u : Un (frs X.stack) ch H H' s.heap h') (hok : HOk X.prog X.w H' h') (hg : AllBare g')
    (hch : ∀ b ∈ ch, (b ∈ X.ex ∨ X.s₀.heap.objs.size ≤ b) ∧ b ≠ X.env.locals ∧ (∀ x c, X.env.cells.lookup x = some c → c ≠ b) ∧ ∀ p ∈ X.pn ++ pins, p.1 ≠ b) :
    Inv X pins σ H' { s with heap := h', gens := g', drawn := d', toks := t' } := by
  obtain ⟨m, ⟨o, es, ep, ho, r⟩, _⟩ := id I.loc
  obtain ⟨sl, hL⟩ := u.any ho I.free fun z => (hch _ z).2.1 rfl
  exact I.step (ch := ch) hch (fun b o hL hb hc e n => u.keep b o e n (fun z => (List.mem_cons.mp (I.stkSub b z)).elim hL hb) hc) (fun b o _ _ hc e n => u.any e n hc) (fun b o hc e n => u.free b o e n hc) (fun b o hc e => u.there b o e hc) u.tups u.frzs u.tbls (fun m' hm => by
    obtain ⟨o', es', ep', ho', r'⟩ := hm
    rw [ho] at ho'; cases ho'
    exact ⟨_, es', ep', hL, r'⟩) hok hg
theorem Inv.turned {t' : Nat} {it : Addr} (I : Inv X pins σ H s) (k : ∀ b o, b ≠ it → s.heap.get? b = some o → h'.get? b = some o) (hn : H it = none) (hL : it ≠ X.env.locals)
    (h1 : it ∈ X.ex ∨ X.s₀.heap.objs.size ≤ it) (h2 : ∀ x c, X.env.cells.lookup x = some c → c ≠ it) (h3 : ∀ p ∈ X.pn ++ pins, p.1 ≠ it) : Inv X pins σ H { s with heap := h', toks := t' } := by
  have nit : ∀ b u, H b = some u → b ≠ it := fun b u e z => by rw [z, hn] at e; cases e
  refine I.step (g' := s.gens) (d' := s.drawn) (ch := [it]) (fun b hb => ?_) (fun b o _ _ hc e _ => k b o (fun z => hc (by simp [z])) e) (fun b o _ _ hc e _ => ⟨o.slots, k b o (fun z => hc (by simp [z])) e⟩) (fun _ _ _ _ n => n)
    (fun b o hc e => ⟨o, k b o (fun z => hc (by simp [z])) e⟩) (fun _ _ e => e) (fun _ _ _ e => e) (fun b ps e => ⟨#[], by rw [e]; simp⟩) (fun m hm => ?_) (fun b u e => ?_) I.bare
  · have e : b = it := by simpa using hb
    subst e
    exact ⟨h1, hL, h2, h3⟩
  · obtain ⟨o, es, ep, ho, r⟩ := hm
    exact ⟨o, es, ep, k _ o (Ne.symm hL) ho, r⟩
  · refine (I.hok b u e).stay (fun c v hc q => k c v ?_ q) (fun _ q => q) fun _ _ q => q
    rcases hc with z | z
    · rw [z]; exact nit b u e
    · exact nit c _ z
theorem Inv.tok (I : Inv X pins σ H s) (t : Nat) : Inv X pins σ H { s with toks := t } := I.un (h' := s.heap) (t' := t) Un.refl I.hok
theorem Inv.kept {t' : Nat} (I : Inv X pins σ H s) (k : ∀ b u, s.heap.get? b = some u → h'.get? b = some u) : Inv X pins σ H { s with heap := h', toks := t' } := I.un (Un.kept k) (I.hok.kept k)
theorem Inv.laid {a : Addr} {o : HO} {t' : Nat} (I : Inv X pins σ H s) (k : ∀ b u, s.heap.get? b = some u → h'.get? b = some u) (hp : s.heap.objs.size ≤ a) (new : ObjOk X.prog X.w (upd H a o) h' a o) :
    Inv X pins σ (upd H a o) { s with heap := h', toks := t' } := I.un (Un.laid k hp (I.hok.fresh hp)) (I.hok.laid k hp new)
theorem Inv.write {x e : Addr} {o : HO} {t' : Nat} (I : Inv X pins σ H s) (mu : Mut (H x)) (he : e = x ∨ H e = some (.own x)) (k : ∀ b u, b ≠ e → s.heap.get? b = some u → h'.get? b = some u) (heo : ∃ u, h'.get? e = some u)
    (new : ObjOk X.prog X.w (upd H x o) h' x o) : Inv X pins σ (upd H x o) { s with heap := h', toks := t' } := I.un (Un.write mu he k heo) (I.hok.write mu he k heo new)
theorem Inv.pins_of {pins' : List (Addr × Obj)} (I : Inv X pins σ H s) (h : ∀ p ∈ pins', s.heap.get? p.1 = some p.2 ∧ H p.1 = none ∧ p.1 ≠ X.env.locals ∧ p.1 ∉ X.fs ∧ ∀ v, p.2.data ≠ .cell v) : Inv X pins' σ H s :=
  ⟨I.ok, I.os, I.bare, I.base, I.loc, I.cell, I.free, I.freeC, fun p hp => (List.mem_append.mp hp).elim (fun z => I.pin p (List.mem_append_left _ z)) (h p), I.hok, I.len⟩

theorem nodup_ix {N : List Str} (hN : N.Nodup) {i j : Nat} {x : Str} (a : N[i]? = some x) (b : N[j]? = some x) : i = j := by
  obtain ⟨h1, e1⟩ := List.getElem?_eq_some_iff.mp a
  obtain ⟨h2, e2⟩ := List.getElem?_eq_some_iff.mp b
  exact (List.getElem_inj hN).mp (e1.trans e2.symm)

theorem store_ok2 {M : Model} {A : Around} {E : Value → Shared → Prop} {i : Nat} {x : Str} {v : V} {u : Value} {Q : Unit → Shared → Prop} (I : Inv X pins σ H s) (hN : X.N.Nodup) (hi : X.N[i]? = some x) (hx : Loc X.env.scope x) (r : RelV v u)
    (h : ∀ s', Inv X pins (σ.set i (some v)) H s' → (∃ a, Heap.SameBut a s.heap s'.heap ∧ (a = X.env.locals ∨ X.env.cells.lookup x = some a)) → Q () s') (hf : X.fn x = true ∨ X.env.scope.names.lookup x = some .local := by first | exact .inl rfl | exact .inr rfl | assumption) : wpAny M A (storeName X.env x u) Q E s := by
  obtain ⟨m, hn, hl⟩ := id I.loc
  have hcls : (X.env.scope.kind == .class || (X.env.scope.kind == .module && X.env.locals != X.env.globals)) = false := by rw [I.ok.kind]; rfl
  have hiσ : i < σ.length := by rw [I.len]; exact (List.getElem?_eq_some_iff.mp hi).1
  have cne := I.cne
  have tracked : ∀ {a : Addr} {h' : Heap}, (∃ o, s.heap.get? a = some o ∧ H a = none) → Heap.SameBut a s.heap h' → HOk X.prog X.w H h' := fun {a h'} ha hs b ob e => by
    obtain ⟨_, _, hfree⟩ := ha
    refine (I.hok b ob e).stay (fun c w' hc q => (hs.2 c ?_).trans q) (fun _ q => q) fun _ _ q => q
    rintro rfl
    rcases hc with rfl | hc
    · rw [hfree] at e; cases e
    · rw [hfree] at hc; cases hc
  rcases hx with hk | hk
  · refine wpAny_storeName_local hk hn (fun h' hn' hs => ?_) hcls
    obtain ⟨oL, _, _, hoL, _⟩ := id hn
    refine h _ ⟨I.ok, I.os, I.bare, ⟨fun b o e n hb hx => ?_, fun b o e n hb hx => ?_, I.base.free, fun b o e hx => ?_, I.base.tups, I.base.frzs, I.base.tbls⟩, ⟨_, hn', fun j y v' e1 e2 e3 => ?_⟩, fun y c e => ?_, I.free, I.freeC, fun p hp => ?_, tracked ⟨oL, hoL, I.free⟩ hs, by simpa using I.len⟩ ⟨_, hs, .inl rfl⟩
    · exact (hs.2 b (Nat.ne_of_lt (Nat.lt_of_lt_of_le (Heap.lt_size e) I.ok.above))).trans (I.base.keep b o e n hb hx)
    · obtain ⟨sl, e1⟩ := I.base.slot b o e n hb hx
      exact ⟨sl, (hs.2 b (Nat.ne_of_lt (Nat.lt_of_lt_of_le (Heap.lt_size e) I.ok.above))).trans e1⟩
    · obtain ⟨o', e1⟩ := I.base.there b o e hx
      exact ⟨o', (hs.2 b (Nat.ne_of_lt (Nat.lt_of_lt_of_le (Heap.lt_size e) I.ok.above))).trans e1⟩
    · by_cases hj : j = i
      · subst hj
        rw [hi] at e1; cases e1
        rw [List.getElem?_set_self hiσ] at e2
        cases e2
        exact ⟨u, r, .inl ⟨hk, by simp⟩⟩
      · rw [List.getElem?_set_ne (Ne.symm hj)] at e2
        obtain ⟨u', r', q⟩ := hl j y v' e1 e2 e3
        refine ⟨u', r', ?_⟩
        rcases q with ⟨k, e⟩ | ⟨k, c, e, z⟩
        · refine .inl ⟨k, ?_⟩
          have : y ≠ x := fun e => hj (nodup_ix hN e1 (e ▸ hi))
          simp [this, e]
        · exact .inr ⟨k, c, e, z.sameBut hs (cne y c e)⟩
    · obtain ⟨w', z⟩ := I.cell y c e
      exact ⟨w', z.sameBut hs (cne y c e)⟩
    · obtain ⟨e, n, ne, nf, d⟩ := I.pin p hp
      exact ⟨(hs.2 p.1 ne).trans e, n, ne, nf, d⟩
  · have hfn : X.fn x = true := by
      rcases hf with z | z
      · exact z
      · rw [z] at hk; cases hk
    obtain ⟨c, hc⟩ := I.ok.has x (.inl hk)
    obtain ⟨w', z⟩ := I.cell x c hc
    refine wpAny_storeName_cell I.ok.kind hk hc z (fun h' hc' hs => ?_)
    obtain ⟨oc, hoc, hocd⟩ := id z
    refine h { s with heap := h' } ⟨I.ok, I.os, I.bare, ⟨fun b o e n hb hx => ?_, fun b o e n hb hx => ?_, I.base.free, fun b o e hx => ?_, I.base.tups, I.base.frzs, I.base.tbls⟩, ⟨m, hn.sameBut hs (Ne.symm (cne x c hc)), fun j y v' e1 e2 e3 => ?_⟩, fun y c' e => ?_, I.free, I.freeC, fun p hp => ?_, tracked ⟨oc, hoc, I.freeC x c hc⟩ hs, by simpa using I.len⟩ ⟨c, hs, .inr hc⟩
    · exact (hs.2 b (Nat.ne_of_lt (Nat.lt_of_lt_of_le (Heap.lt_size e) (I.ok.cab x c hfn hc)))).trans (I.base.keep b o e n hb hx)
    · obtain ⟨sl, e1⟩ := I.base.slot b o e n hb hx
      exact ⟨sl, (hs.2 b (Nat.ne_of_lt (Nat.lt_of_lt_of_le (Heap.lt_size e) (I.ok.cab x c hfn hc)))).trans e1⟩
    · obtain ⟨o', e1⟩ := I.base.there b o e hx
      exact ⟨o', (hs.2 b (Nat.ne_of_lt (Nat.lt_of_lt_of_le (Heap.lt_size e) (I.ok.cab x c hfn hc)))).trans e1⟩
    · by_cases hj : j = i
      · subst hj
        rw [hi] at e1; cases e1
        rw [List.getElem?_set_self hiσ] at e2
        cases e2
        exact ⟨u, r, .inr ⟨.inl hk, c, hc, hc'⟩⟩
      · rw [List.getElem?_set_ne (Ne.symm hj)] at e2
        obtain ⟨u', r', q⟩ := hl j y v' e1 e2 e3
        refine ⟨u', r', ?_⟩
        rcases q with q | ⟨k, c', e, z'⟩
        · exact .inl q
        · refine .inr ⟨k, c', e, z'.sameBut hs ?_⟩
          rintro rfl
          exact hj (nodup_ix hN e1 (I.ok.inj _ _ _ e hc ▸ hi))
    · by_cases hcc : c' = c
      · subst hcc; exact ⟨_, hc'⟩
      · obtain ⟨w2, z2⟩ := I.cell y c' e
        exact ⟨w2, z2.sameBut hs hcc⟩
    · obtain ⟨e, n, ne, nf, d⟩ := I.pin p hp
      refine ⟨(hs.2 p.1 ?_).trans e, n, ne, nf, d⟩
      intro q
      rw [q, hoc] at e
      have q' : oc = p.2 := Option.some.inj e
      exact d w' (by rw [← q']; exact hocd)
theorem store_ok {M : Model} {A : Around} {E : Value → Shared → Prop} {i : Nat} {x : Str} {v : V} {u : Value} {Q : Unit → Shared → Prop} (I : Inv X pins σ H s) (hN : X.N.Nodup) (hi : X.N[i]? = some x) (hx : Loc X.env.scope x) (r : RelV v u)
    (h : ∀ s', Inv X pins (σ.set i (some v)) H s' → Q () s') (hf : X.fn x = true ∨ X.env.scope.names.lookup x = some .local := by first | exact .inl rfl | exact .inr rfl | assumption) : wpAny M A (storeName X.env x u) Q E s :=
  store_ok2 I hN hi hx r (fun s' I' _ => h s' I') hf
theorem Inv.call' {s' : Shared} {ch : List Addr} (I : Inv X pins σ H s) (ho : s'.os = s.os) (u : Un (frs X.stack) ch H H' s.heap s'.heap) (hok : HOk X.prog X.w H' s'.heap) (hg : AllBare s'.gens)
    (hch : ∀ b ∈ ch, (b ∈ X.ex ∨ X.s₀.heap.objs.size ≤ b) ∧ b ≠ X.env.locals ∧ (∀ x c, X.env.cells.lookup x = some c → c ≠ b) ∧ ∀ p ∈ X.pn ++ pins, p.1 ≠ b) : Inv X pins σ H' s' := by
  obtain ⟨h', g', d', t', o'⟩ := s'
  have e : o' = s.os := ho
  subst e
  exact I.call (g' := g') (t' := t') (d' := d') u hok hg hch
end

abbrev XK := Value → Option Addr → Hp → Prop
abbrev St := List (Option V)
abbrev VK := V → Hp → Prop
abbrev TE := St → Hp → VK → Prop
abbrev TT := St → Hp → (Bool → Hp → Prop) → Prop
abbrev TA := St → Hp → (List V → Hp → Prop) → Prop
structure Ends where
  nx : St → Hp → Prop
  rt : VK
  bk : St → Hp → Prop := fun _ _ => False
  ct : St → Hp → Prop := fun _ _ => False
abbrev TS := Ends → St → Hp → Prop

def EP (X : Cx) (pins : List (Addr × Obj)) (σ : St) (Q : VK) (u : Value) (s' : Shared) : Prop := ∃ v H', Inv X pins σ H' s' ∧ RelV v u ∧ Q v H'
def TP (X : Cx) (pins : List (Addr × Obj)) (σ : St) (Q : Bool → Hp → Prop) (b : Bool) (s' : Shared) : Prop := ∃ H', Inv X pins σ H' s' ∧ Q b H'
def AP (X : Cx) (pins : List (Addr × Obj)) (σ : St) (Q : List V → Hp → Prop) (us : List Value) (s' : Shared) : Prop := ∃ vs H', Inv X pins σ H' s' ∧ Vals vs us ∧ Q vs H'
def SP (X : Cx) (pins : List (Addr × Obj)) (D : Ends) (f : Flow) (s' : Shared) : Prop :=
  match f with
  | .next => ∃ σ' H', Inv X pins σ' H' s' ∧ D.nx σ' H'
  | .brk => ∃ σ' H', Inv X pins σ' H' s' ∧ D.bk σ' H'
  | .cont => ∃ σ' H', Inv X pins σ' H' s' ∧ D.ct σ' H'
  | .ret u => ∃ v σ' H', Inv X pins σ' H' s' ∧ RelV v u ∧ D.rt v H'

def PE (X : Cx) (e : Expr) (t : TE) : Prop :=
  ∀ (pins : List (Addr × Obj)) (s : Shared) (σ : St) (H : Hp) (Q : VK), Inv X pins σ H s → t σ H Q → wpAny (model X.prog X.w) X.A (eval e X.env) (EP X pins σ Q) X.xe s
def PT (X : Cx) (e : Expr) (t : TT) : Prop :=
  ∀ (pins : List (Addr × Obj)) (s : Shared) (σ : St) (H : Hp) (Q : Bool → Hp → Prop), Inv X pins σ H s → t σ H Q → wpAny (model X.prog X.w) X.A (isTrue e X.env (eval e X.env)) (TP X pins σ Q) X.xe s
def PW (X : Cx) (e : Expr) (t : TT) : Prop :=
  ∀ (whole : Sem Value) (pins : List (Addr × Obj)) (s : Shared) (σ : St) (H : Hp) (Q : Bool → Hp → Prop), Inv X pins σ H s → t σ H Q → wpAny (model X.prog X.w) X.A (isTrue e X.env whole) (TP X pins σ Q) X.xe s
theorem PW.pt {X : Cx} {e : Expr} {t : TT} (h : PW X e t) : PT X e t := h _
def PA (X : Cx) (es : List Expr) (t : TA) : Prop :=
  ∀ (pos : Pos) (pins : List (Addr × Obj)) (s : Shared) (σ : St) (H : Hp) (Q : List V → Hp → Prop), Inv X pins σ H s → t σ H Q → wpAny (model X.prog X.w) X.A (spliced (backTo pos (starEach es X.env))) (AP X pins σ Q) X.xe s
def PS (X : Cx) (st : Stmt) (t : TS) : Prop :=
  ∀ (pins : List (Addr × Obj)) (s : Shared) (σ : St) (H : Hp) (D : Ends), Inv X pins σ H s → t D σ H → wpAny (model X.prog X.w) X.A (exec st X.env) (SP X pins D) X.xe s
def PSs (X : Cx) (st : List Stmt) (t : TS) : Prop :=
  ∀ (pins : List (Addr × Obj)) (s : Shared) (σ : St) (H : Hp) (D : Ends), Inv X pins σ H s → t D σ H → wpAny (model X.prog X.w) X.A (execs st X.env) (SP X pins D) X.xe s
theorem thn {α : Type} {t : Sem α} {Q Q' : α → Shared → Prop} {M : Model} {A : Around} {E : Value → Shared → Prop} {s : Shared} (h : wpAny M A t Q E s) (hQ : ∀ a s, Q a s → Q' a s) : wpAny M A t Q' E s := wpAny_mono h hQ fun _ _ x => x
end L2

namespace L2
open PySem PySem.Spec PyProof.Rows
section
variable {X : Cx}

def tVar (i : Nat) : TE := fun σ H Q => ∃ v, σ[i]? = some (some v) ∧ Q v H
def tC (v : V) : TE := fun _ H Q => Q v H
theorem pe_var {i : Nat} {x : Str} {pos : Pos} (hN : X.N[i]? = some x) (hv : Vis X.env.scope x) (hd : (x == ("__debug__" : Str)) = false := by decide) (hcd : (x == ("__classdict__" : Str)) = false := by decide) : PE X (.Name x pos) (tVar i) := by
  intro pins s σ H Q I h
  obtain ⟨v, e, h⟩ := h
  obtain ⟨m, hn, hl⟩ := I.loc
  obtain ⟨u, r, l⟩ := hl i x v hN e hv
  have fin : EP X pins σ Q u s := ⟨v, H, I, r, h⟩
  rcases l with ⟨hk, hm⟩ | ⟨hk, c, hc, hcell⟩
  · exact wpAny_Name (wpAny_loadName_local I.ok.kind hk hn hm fin) hd
  · rcases hk with hk | hk
    · exact wpAny_Name (wpAny_loadName_cell I.ok.kind hk hc hcell fin) hd
    · exact wpAny_Name (wpAny_loadName_free I.ok.kind hk hc hcell fin hcd) hd
theorem pe_int {i j pos} : PE X (.Constant (.int i) j pos) (tC (.int i)) := fun _ _ _ H _ I h => wpAny_Constant_int ⟨.int i, H, I.tok _, ⟨_, rfl⟩, h⟩
theorem pe_bl {b j pos} : PE X (.Constant (.bool b) j pos) (tC (.bl b)) := fun _ _ _ H _ I h => Constant_bool ⟨.bl b, H, I, rfl, h⟩
def Gl (X : Cx) (x : Str) : Prop := X.env.kindOf x = some .globalImplicit
theorem ld_glob {E : Value → Shared → Prop} {pins : List (Addr × Obj)} {s : Shared} {σ : St} {H : Hp} {x : Str} {u : Value} {pos : Pos} {Q : Value → Shared → Prop} (I : Inv X pins σ H s) (hg : Gl X x) (hm : X.mg x = some u) (h : Q u s)
    (hd : (x == ("__debug__" : Str)) = false := by decide) : wpAny (model X.prog X.w) X.A (eval (.Name x pos) X.env) Q E s :=
  Calls.Name_function_global I.ok.kind hg (Calls.loadGlobal_global (by rw [I.ok.glob]; exact I.mod.glob.keeps I.bk) hm h) hd
theorem ld_blt {E : Value → Shared → Prop} {pins : List (Addr × Obj)} {s : Shared} {σ : St} {H : Hp} {x : Str} {u : Value} {pos : Pos} {Q : Value → Shared → Prop} (I : Inv X pins σ H s) (hg : Gl X x) (hm : X.mg x = none) (hv : bootBuiltins x = some u) (h : Q u s)
    (hn : x ≠ "__name__" := by decide) (hd : (x == ("__debug__" : Str)) = false := by decide) : wpAny (model X.prog X.w) X.A (eval (.Name x pos) X.env) Q E s := by
  obtain ⟨mb, h1, h2⟩ := I.mod.blt
  exact Calls.Name_function_global I.ok.kind hg (Calls.loadGlobal_builtin (by rw [I.ok.glob]; exact I.mod.glob.keeps I.bk) hm (by rw [I.ok.blt]; exact h1.keeps I.bk) ((h2 x hn).trans hv) h) hd
theorem pe_glob {x : Str} {v : V} {u : Value} {pos : Pos} (hg : Gl X x) (hm : X.mg x = some u) (r : RelV v u) (hd : (x == ("__debug__" : Str)) = false := by decide) : PE X (.Name x pos) (tC v) :=
  fun _ _ _ H _ I h => ld_glob I hg hm ⟨v, H, I, r, h⟩ hd
theorem pe_bltn {x : Str} {v : V} {u : Value} {pos : Pos} (hg : Gl X x) (hm : X.mg x = none) (hv : bootBuiltins x = some u) (r : RelV v u) (hn : x ≠ "__name__" := by decide) (hd : (x == ("__debug__" : Str)) = false := by decide) : PE X (.Name x pos) (tC v) :=
  fun _ _ _ H _ I h => ld_blt I hg hm hv ⟨v, H, I, r, h⟩ hn hd

variable {a b : Expr} {ta tb : TE} {pos : Pos}
def tB (t : TE) : TT := fun σ H Q => t σ H fun x H1 => ∃ c, x = .bl c ∧ Q c H1
theorem pt_val {e : Expr} {t : TE} (h : PE X e t) (he : ∀ whole, isTrue e X.env whole = (do let v ← whole; standAt e.pos; holding [v] (truthy v)) := by intro _; rfl) : PT X e (tB t) := by
  intro pins s σ H Q I hw
  refine isTrue_plain (thn (h pins s σ H _ I hw) fun v s1 ⟨x, H1, I1, r1, q1⟩ => ?_) (he _)
  obtain ⟨d, rfl, q⟩ := q1
  cases r1
  exact wpAny_truthy_bool ⟨H1, I1, q⟩

variable {tA tB' : TT} {rest : List Expr}
def tAnd (t u : TT) : TT := fun σ H Q => t σ H fun c H1 => if c = true then u σ H1 Q else Q false H1
def tOr (t u : TT) : TT := fun σ H Q => t σ H fun c H1 => if c = true then Q true H1 else u σ H1 Q
def tNot (t : TT) : TT := fun σ H Q => t σ H fun c H1 => Q (!c) H1
theorem pw_and1 (ha : PT X a tA) : PW X (.BoolOp .And [a] pos) tA := by
  intro wh pins s σ H Q I h
  refine isTrue_and (thn (ha pins s σ H Q I h) fun c s1 e => ?_)
  cases c with
  | true => exact isTrue_and_nil e
  | false => exact e
theorem pw_or1 (ha : PT X a tA) : PW X (.BoolOp .Or [a] pos) tA := by
  intro wh pins s σ H Q I h
  refine isTrue_or (thn (ha pins s σ H Q I h) fun c s1 e => ?_)
  cases c with
  | false => exact isTrue_or_nil e
  | true => exact e
theorem pw_and (ha : PT X a tA) (hb : PW X (.BoolOp .And (b :: rest) pos) tB') : PW X (.BoolOp .And (a :: b :: rest) pos) (tAnd tA tB') := by
  intro wh pins s σ H Q I h
  refine isTrue_and (thn (ha pins s σ H _ I h) fun c s1 ⟨H1, I1, q1⟩ => ?_)
  cases c with
  | true => exact hb wh pins s1 σ H1 Q I1 q1
  | false => exact ⟨H1, I1, q1⟩
theorem pw_or (ha : PT X a tA) (hb : PW X (.BoolOp .Or (b :: rest) pos) tB') : PW X (.BoolOp .Or (a :: b :: rest) pos) (tOr tA tB') := by
  intro wh pins s σ H Q I h
  refine isTrue_or (thn (ha pins s σ H _ I h) fun c s1 ⟨H1, I1, q1⟩ => ?_)
  cases c with
  | true => exact ⟨H1, I1, q1⟩
  | false => exact hb wh pins s1 σ H1 Q I1 q1
theorem pt_not (ha : PT X a tA) : PT X (.UnaryOp .Not a pos) (tNot tA) := by
  intro pins s σ H Q I h
  exact isTrue_not (ha pins s σ H (fun c H1 => Q (!c) H1) I h)
def tAndV (ta tb : TE) : TE := fun σ H Q => ta σ H fun x H1 => ∃ c, x = .bl c ∧ if c = true then tb σ H1 Q else Q (.bl false) H1
def tOrV (ta tb : TE) : TE := fun σ H Q => ta σ H fun x H1 => ∃ c, x = .bl c ∧ if c = true then Q (.bl true) H1 else tb σ H1 Q
def tNotV (ta : TE) : TE := fun σ H Q => ta σ H fun x H1 => ∃ c, x = .bl c ∧ Q (.bl (!c)) H1
theorem pe_one {op} {t : TE} (h : PE X a t) : PE X (.BoolOp op [a] pos) t := fun pins s σ H Q I hw => BoolOp_one (h pins s σ H Q I hw)
theorem pe_and (ha : PE X a ta) (hb : PE X (.BoolOp .And (b :: rest) pos) tb) : PE X (.BoolOp .And (a :: b :: rest) pos) (tAndV ta tb) := by
  intro pins s σ H Q I h
  refine BoolOp_and (thn (ha pins s σ H _ I h) fun v s1 ⟨x, H1, I1, r1, q1⟩ => ?_)
  obtain ⟨c, rfl, q1⟩ := q1
  cases r1
  refine wpAny_truthy_bool ?_
  cases c with
  | true => exact hb pins s1 σ H1 Q I1 q1
  | false => exact ⟨.bl false, H1, I1, rfl, q1⟩
def tIf (t : TT) (ta tb : TE) : TE := fun σ H Q => t σ H fun c H1 => if c = true then ta σ H1 Q else tb σ H1 Q
theorem pe_ifExp {c : Expr} (hc : PT X c tA) (ha : PE X a ta) (hb : PE X b tb) : PE X (.IfExp c a b pos) (tIf tA ta tb) := by
  intro pins s σ H Q I h
  refine wpAny_IfExp (thn (hc pins s σ H _ I h) fun d s1 ⟨H1, I1, q1⟩ => ?_)
  cases d with
  | true => exact ha pins s1 σ H1 Q I1 q1
  | false => exact hb pins s1 σ H1 Q I1 q1
end
end L2

namespace L2
open PySem PySem.Spec PyProof.Rows

def SqL (K : PySem.W.Frag) (H : Hp) (a : Addr) (xs : List V) : Prop :=
  Rd H a (.lst xs) ∨
    ∃ (o : Obj) (its : Array Value) (n : Nat), K.lookup a = some o ∧ o.cls = .type "list" ∧ o.dict = none ∧ o.data = .seq its n ∧ its.size ≤ sizeLine ∧ Vals xs its.toList
def SqT (K : PySem.W.Frag) (H : Hp) (a : Addr) (xs : List V) : Prop :=
  Rd H a (.tup xs) ∨
    ∃ (o : Obj) (its : Array Value) (n : Nat), K.lookup a = some o ∧ o.cls = .type "tuple" ∧ o.data = .seq its n ∧ its.size ≤ sizeLine ∧ Vals xs its.toList
def absV : Value → Option V
  | .none => some .non
  | .bool b => some (.bl b)
  | .int i _ => some (.int i)
  | .str x _ => some (.str x)
  | .bytes b _ => some (.byt b)
  | .float b _ => some (.flt b)
  | .ref a => some (.ref a)
  | .type n => some (.ty n)
  | _ => none
theorem RelV.abs {x : V} {u : Value} (r : RelV x u) : absV u = some x := by
  cases x with
  | non => cases r; rfl
  | bl _ => cases r; rfl
  | int _ => obtain ⟨t, rfl⟩ := r; rfl
  | str _ => obtain ⟨t, rfl⟩ := r; rfl
  | byt _ => obtain ⟨t, rfl⟩ := r; rfl
  | flt _ => obtain ⟨t, rfl⟩ := r; rfl
  | ref _ => cases r; rfl
  | ty _ => cases r; rfl
theorem RelV.inj {x y : V} {u : Value} (r : RelV x u) (q : RelV y u) : x = y := Option.some.inj (r.abs.symm.trans q.abs)
theorem Vals.inj : ∀ {xs ys : List V} {us : List Value}, Vals xs us → Vals ys us → xs = ys
  | _, _, _, .nil, .nil => rfl
  | _, _, _, .cons r t, .cons r' t' => by rw [r.inj r', Vals.inj t t']
section
variable {X : Cx} {pins : List (Addr × Obj)} {σ : St} {H : Hp} {s : Shared} {a : Addr} {xs ys : List V}
theorem SqL.of {K : PySem.W.Frag} (h : H a = some (.lst xs)) : SqL K H a xs := .inl (.inl h)
theorem SqT.of {K : PySem.W.Frag} (h : H a = some (.tup xs)) : SqT K H a xs := .inl (.inl h)
theorem Inv.list (I : Inv X pins σ H s) (h : SqL X.K H a xs) : ∃ its : List Value, Vals xs its ∧ PlainL s.heap a its.toArray ∧ xs.length ≤ sizeLine := by
  rcases h with h | ⟨o, its, n, hk, hc, hd, hs, hz, r⟩
  · obtain ⟨z, its, n, r, e⟩ := h.ok I.hok
    exact ⟨its, r, ⟨_, n, e, rfl, rfl, rfl⟩, z⟩
  · refine ⟨its.toList, r, ⟨o, n, I.kIn a o hk, hc, hd, by simpa using hs⟩, ?_⟩
    have e := r.length
    simp only [Array.length_toList] at e
    walk_at "o"
theorem Inv.tuple (I : Inv X pins σ H s) (h : SqT X.K H a xs) : ∃ its : List Value, Vals xs its ∧ IsTup s.heap a its.toArray ∧ xs.length ≤ sizeLine := by
  rcases h with h | ⟨o, its, n, hk, hc, hs, hz, r⟩
  · obtain ⟨z, its, r, p⟩ := h.ok I.hok
    exact ⟨its, r, p, z⟩
  · refine ⟨its.toList, r, ⟨o, I.kIn a o hk, hc, n, by simpa using hs⟩, ?_⟩
    have e := r.length
    simp only [Array.length_toList] at e
    walk_at "o"
theorem Inv.list_inj (I : Inv X pins σ H s) (h : SqL X.K H a xs) (h' : SqL X.K H a ys) : xs = ys := by
  obtain ⟨its, r, ⟨o, n, e, _, _, d⟩, _⟩ := I.list h
  obtain ⟨its', r', ⟨o', n', e', _, _, d'⟩, _⟩ := I.list h'
  rw [e] at e'; cases e'
  rw [d] at d'
  injection d' with d1 _
  have : its = its' := by simpa using congrArg Array.toList d1
  subst this
  exact r.inj r'
end

abbrev Cx.wish (X : Cx) (E : Value → Shared → Prop) : Cx := { X with xe := E }
abbrev Cx.nox (X : Cx) : Cx := X.wish fun _ _ => False
theorem Cx.Ok.wish {X : Cx} (ok : X.Ok) (E : Value → Shared → Prop) : (X.wish E).Ok :=
  ⟨ok.mod, ok.kind, ok.glob, ok.blt, ok.above, ok.inj, ok.has, ok.cab, ok.hd, ok.frames, ok.stk, ok.exf, ok.bs, ok.bsz, ok.noex, ok.exfs, ok.funs, ok.frf⟩
theorem Cx.Ok.unwish {X : Cx} {E : Value → Shared → Prop} (ok : (X.wish E).Ok) : X.Ok :=
  ⟨ok.mod, ok.kind, ok.glob, ok.blt, ok.above, ok.inj, ok.has, ok.cab, ok.hd, ok.frames, ok.stk, ok.exf, ok.bs, ok.bsz, ok.noex, ok.exfs, ok.funs, ok.frf⟩
section
variable {X : Cx} {pins : List (Addr × Obj)} {σ : St} {H : Hp} {s : Shared} {E : Value → Shared → Prop}
theorem Inv.wish (I : Inv X pins σ H s) (E : Value → Shared → Prop) : Inv (X.wish E) pins σ H s := ⟨I.ok.wish E, I.os, I.bare, I.base, I.loc, I.cell, I.free, I.freeC, I.pin, I.hok, I.len⟩
theorem Inv.unwish (I : Inv (X.wish E) pins σ H s) : Inv X pins σ H s := ⟨I.ok.unwish, I.os, I.bare, I.base, I.loc, I.cell, I.free, I.freeC, I.pin, I.hok, I.len⟩
theorem SP.unwish {D : Ends} {f : Flow} {s' : Shared} (h : SP (X.wish E) pins D f s') : SP X pins D f s' := by
  cases f with
  | next => obtain ⟨σ', H', I, q⟩ := h; exact ⟨σ', H', I.unwish, q⟩
  | brk => obtain ⟨σ', H', I, q⟩ := h; exact ⟨σ', H', I.unwish, q⟩
  | cont => obtain ⟨σ', H', I, q⟩ := h; exact ⟨σ', H', I.unwish, q⟩
  | ret u => obtain ⟨v, σ', H', I, r, q⟩ := h; exact ⟨v, σ', H', I.unwish, r, q⟩
theorem PSs.nox {st : List Stmt} {t : TS} (h : PSs X.nox st t) : PSs X st t := fun pins s σ H D I hw =>
  wpAny_mono (h pins s σ H D (I.wish _) hw) (fun _ _ q => q.unwish) fun _ _ z => False.elim z
end

section
variable {X : Cx} {st : Stmt} {rest : List Stmt} {t u : TS} {e : Expr} {te : TE} {pos : Pos}
def tNext : TS := fun D σ H => D.nx σ H
def tSeq (t u : TS) : TS := fun D σ H => t { D with nx := u D } σ H
theorem pss_nil : PSs X [] tNext := fun _ _ σ H _ I h => wpAny_execs_nil ⟨σ, H, I, h⟩
theorem pss_cons (h1 : PS X st t) (h2 : PSs X rest u) : PSs X (st :: rest) (tSeq t u) := by
  intro pins s σ H D I h
  refine wpAny_execs_cons (thn (h1 pins s σ H { D with nx := u D } I h) fun f s1 q => ?_)
  cases f with
  | next =>
    obtain ⟨σ', H', I', q⟩ := q
    exact h2 pins s1 σ' H' D I' q
  | ret v => exact q
  | brk => exact q
  | cont => exact q
theorem pss_one (h1 : PS X st t) : PSs X [st] t := by
  intro pins s σ H D I h
  refine wpAny_execs_cons (thn (h1 pins s σ H D I h) fun f s1 q => ?_)
  cases f with
  | next => exact wpAny_execs_nil q
  | ret v => exact q
  | brk => exact q
  | cont => exact q
theorem Inv.quiet {pins : List (Addr × Obj)} {σ : St} {H : Hp} {s : Shared} (I : Inv X pins σ H s) : interactive X.env = false := by simp [interactive, I.ok.kind]
def tDrop (te : TE) : TS := fun D σ H => te σ H fun _ H1 => D.nx σ H1
theorem ps_expr (he : PE X e te) (hs : swapsWith e none pos.line X.env = pure false := by rfl) : PS X (.Expr e pos) (tDrop te) := by
  intro pins s σ H D I h
  exact wpAny_Expr_any (thn (he pins s σ H _ I h) fun v s1 ⟨x, H1, I1, r1, q1⟩ => ⟨σ, H1, I1, q1⟩) I.quiet hs
def tRet (te : TE) : TS := fun D σ H => te σ H D.rt
theorem ps_ret (he : PE X e te) : PS X (.Return (some e) pos) (tRet te) := by
  intro pins s σ H D I h
  exact wpAny_Return_some (thn (he pins s σ H _ I h) fun v s1 ⟨x, H1, I1, r1, q1⟩ => ⟨x, σ, H1, I1, r1, q1⟩)
def tRetN : TS := fun D _ H => D.rt .non H
def tIfS (c : TT) (t u : TS) : TS := fun D σ H => c σ H fun b H1 => if b = true then t D σ H1 else u D σ H1
theorem ps_if {c : Expr} {a b : List Stmt} {tc : TT} (hc : PT X c tc) (ha : PSs X a t) (hb : PSs X b u) : PS X (.If c a b pos) (tIfS tc t u) := by
  intro pins s σ H D I h
  refine wpAny_If (thn (hc pins s σ H _ I h) fun d s1 ⟨H1, I1, q1⟩ => ?_)
  cases d with
  | true => exact ha pins s1 σ H1 D I1 q1
  | false => exact hb pins s1 σ H1 D I1 q1
def tNever : TS := fun _ _ _ => False
theorem ps_never : PS X st tNever := fun _ _ _ _ _ _ h => h.elim
end

abbrev TG := V → St → Hp → (St → Hp → Prop) → Prop
abbrev TGs := List V → St → Hp → (St → Hp → Prop) → Prop
def PG (X : Cx) (target : Expr) (t : TG) : Prop :=
  ∀ (pins : List (Addr × Obj)) (s : Shared) (σ : St) (H : Hp) (v : V) (u : Value) (Q : St → Hp → Prop), Inv X pins σ H s → RelV v u → t v σ H Q →
    wpAny (model X.prog X.w) X.A (assign target X.env u) (fun _ s' => ∃ σ' H', Inv X pins σ' H' s' ∧ Q σ' H') X.xe s
def PGs (X : Cx) (ts : List Expr) (t : TGs) : Prop :=
  ∀ (pins : List (Addr × Obj)) (s : Shared) (σ : St) (H : Hp) (vs : List V) (us : List Value) (Q : St → Hp → Prop), Inv X pins σ H s → Vals vs us → t vs σ H Q →
    wpAny (model X.prog X.w) X.A (assignInOrder ((assignEach ts X.env).map (·.2)) us) (fun _ s' => ∃ σ' H', Inv X pins σ' H' s' ∧ Q σ' H') X.xe s
abbrev TSet := V → V → V → Hp → (Hp → Prop) → Prop
def PSet (X : Cx) (t : TSet) : Prop :=
  ∀ (pins : List (Addr × Obj)) (s : Shared) (σ : St) (H : Hp) (o i v : V) (ov iv u : Value) (Q : Hp → Prop), Inv X pins σ H s → RelV o ov → RelV i iv → RelV v u → t o i v H Q →
    wpAny (model X.prog X.w) X.A (setItem ov iv u) (fun _ s' => ∃ H', Inv X pins σ H' s' ∧ Q H') X.xe s
abbrev TIp := V → V → Hp → VK → Prop
def PIp (X : Cx) (op : Operator) (t : TIp) : Prop :=
  ∀ (pins : List (Addr × Obj)) (s : Shared) (σ : St) (H : Hp) (x y : V) (v u : Value) (Q : VK), Inv X pins σ H s → RelV x v → RelV y u → t x y H Q →
    wpAny (model X.prog X.w) X.A (inplaceOp op v u) (EP X pins σ Q) X.xe s
section
variable {X : Cx} {pos : Pos}
def gName (i : Nat) : TG := fun v σ H Q => Q (σ.set i (some v)) H
theorem pg_name {i : Nat} {x : Str} (hN : X.N.Nodup) (hi : X.N[i]? = some x) (hx : Loc X.env.scope x) (hf : X.fn x = true ∨ X.env.scope.names.lookup x = some .local := by first | exact .inl rfl | exact .inr rfl | assumption) : PG X (.Name x pos) (gName i) := by
  intro pins s σ H v u Q I r h
  exact wpAny_assign_Name (store_ok I hN hi hx r (fun s' I' => ⟨_, H, I', h⟩) hf)
def gNil : TGs := fun vs σ H Q => vs = [] ∧ Q σ H
def gCons (t : TG) (u : TGs) : TGs := fun vs σ H Q => ∃ v r, vs = v :: r ∧ t v σ H fun σ' H' => u r σ' H' Q
theorem pgs_nil : PGs X [] gNil := by
  intro pins s σ H vs us Q I r h
  obtain ⟨e, h⟩ := h
  subst e
  cases r
  exact assignInOrder_nil ⟨σ, H, I, h⟩
theorem pgs_cons {e : Expr} {es : List Expr} {t : TG} {u : TGs} (h1 : PG X e t) (h2 : PGs X es u)
    (hs : (assignEach (e :: es) X.env).map (·.2) = assign e X.env :: (assignEach es X.env).map (·.2) := by rfl) : PGs X (e :: es) (gCons t u) := by
  intro pins s σ H vs us Q I r h
  obtain ⟨v, vr, e1, h⟩ := h
  subst e1
  cases r with
  | cons r rr =>
    rw [hs]
    refine assignInOrder_cons (thn (h1 pins s σ H _ _ _ I r h) fun _ s1 ⟨σ1, H1, I1, q1⟩ => ?_)
    exact h2 pins s1 σ1 H1 _ _ Q I1 rr q1
def gTup (K : PySem.W.Frag) (n : Nat) (t : TGs) : TG := fun v σ H Q => ∃ a xs, v = .ref a ∧ SqT K H a xs ∧ xs.length = n ∧ t xs σ H Q
theorem pg_tup {es : List Expr} {k : Nat} {t : TGs} {n : Nat} (hc : X.calm = true) (h : PGs X es t)
    (hn : (assignEach es X.env).length = n := by rfl) (hst : (assignEach es X.env).findIdx? (·.1) = none := by rfl) : PG X (.Tuple es k pos) (gTup X.K n t) := by
  intro pins s σ H v u Q I r hw
  obtain ⟨a, xs, e1, hq, hl, hw⟩ := hw
  subst e1
  cases r
  obtain ⟨its, rv, ht, hz⟩ := I.tuple hq
  refine assign_Tuple_tuple (I.ok.hd hc) ht (by simp [hn, ← hl, rv.length]) hst fun h' hx => ?_
  have I1 : Inv X pins σ H { s with heap := h' } := I.kept (t' := s.toks) fun b o e => hx b o (Nat.ne_of_lt (Heap.lt_size e)) e
  exact h pins _ σ H xs _ Q I1 (by simpa using rv) hw
def gSub (to ti : TE) (t : TSet) : TG := fun v σ H Q => to σ H fun o H1 => ti σ H1 fun i H2 => t o i v H2 fun H3 => Q σ H3
theorem pg_sub {o i : Expr} {to ti : TE} {t : TSet} (ho : PE X o to) (hi : PE X i ti) (hs : PSet X t)
    (ha : ∀ v, assign (.Subscript o i pos) X.env v = (do
      let ov ← holding [v] (eval o X.env)
      let iv ← holding [v, ov] (eval i X.env)
      standAt pos
      holding [v, ov, iv] (setItem ov iv v)
      release [v, ov, iv] []) := by intro _; rfl) : PG X (.Subscript o i pos) (gSub to ti t) := by
  intro pins s σ H v u Q I r h
  rw [ha]
  refine wpAny_bind (wpAny_holding (thn (ho pins s σ H _ I h) fun ov s1 ⟨x, H1, I1, r1, q1⟩ => ?_))
  refine wpAny_bind (wpAny_holding (thn (hi pins s1 σ H1 _ I1 q1) fun iv s2 ⟨y, H2, I2, r2, q2⟩ => ?_))
  refine wpAny_bind (wpAny_standAt (wpAny_bind (wpAny_holding (thn (hs pins s2 σ H2 x y v ov iv u _ I2 r1 r2 r q2) fun _ s3 ⟨H3, I3, q3⟩ => ?_))))
  exact wpAny_release ⟨σ, H3, I3, q3⟩
def tAsg (te : TE) (g : TG) : TS := fun D σ H => te σ H fun x H1 => g x σ H1 D.nx
theorem ps_asg {tg e : Expr} {te : TE} {g : TG} (he : PE X e te) (hg : PG X tg g) (hs : swapsWithSole [tg] e pos.line X.env = pure false := by rfl) (hw : swappedStores [tg] e X.env = pure none := by rfl)
    (h1 : (assignEach [tg] X.env).map (·.2) = [assign tg X.env] := by rfl) : PS X (.Assign [tg] e pos) (tAsg te g) := by
  intro pins s σ H D I h
  refine wpAny_Assign_stores (thn (he pins s σ H _ I h) fun v s1 ⟨x, H1, I1, r1, q1⟩ => ?_) hs hw
  rw [h1]
  exact thn (hg pins s1 σ H1 x v _ I1 r1 q1) fun _ s2 q => q
theorem ps_set {i : Nat} {x : Str} {e : Expr} {te : TE} {pos' : Pos} (hN : X.N.Nodup) (hi : X.N[i]? = some x) (hx : Loc X.env.scope x) (he : PE X e te) (hs : swapsWith e (some (.Name x pos')) pos.line X.env = pure false := by rfl) (hf : X.fn x = true ∨ X.env.scope.names.lookup x = some .local := by first | exact .inl rfl | exact .inr rfl | assumption) :
    PS X (.Assign [.Name x pos'] e pos) (tAsg te (gName i)) := by
  intro pins s σ H D I h
  refine wpAny_Assign_Name (thn (he pins s σ H _ I h) fun v s1 ⟨y, H1, I1, r1, q1⟩ => ?_) hs
  exact store_ok I1 hN hi hx r1 (fun s2 I2 => ⟨_, H1, I2, q1⟩) hf
def tPar (i j : Nat) (ta : TA) : TS := fun D σ H => ta σ H fun vs H1 => ∃ v w, vs = [v, w] ∧ D.nx ((σ.set i (some v)).set j (some w)) H1
theorem ps_par {i j : Nat} {x y : Str} {a b : Expr} {ta : TA} {px py pt : Pos} {kt k2 pt2} (hc : X.calm = true) (hN : X.N.Nodup) (hi : X.N[i]? = some x) (hj : X.N[j]? = some y) (hij : i ≠ j)
    (hx : X.env.scope.names.lookup x = some .local) (hy : X.env.scope.names.lookup y = some .local) (ha : PA X [a, b] ta)
    (hw : swappedStores [.Tuple [.Name x px, .Name y py] kt pt] (.Tuple [a, b] k2 pt2) X.env = pure (some [x, y]))
    (hs : swapsWithSole [.Tuple [.Name x px, .Name y py] kt pt] (.Tuple [a, b] k2 pt2) pos.line X.env = pure false := by rfl) :
    PS X (.Assign [.Tuple [.Name x px, .Name y py] kt pt] (.Tuple [a, b] k2 pt2) pos) (tPar i j ta) := by
  intro pins s σ H D I h
  rw [exec_Assign_arm]
  refine wpAny_bind (wpAny_standAt ?_)
  rw [hs]
  refine wpAny_bind (wpAny_pure ?_)
  rw [if_neg (by decide)]
  refine wpAny_bind (Tuple_ (thn (ha _ pins s σ H _ I h) fun us s1 ⟨vs, H1, I1, r1, q1⟩ => ?_))
  obtain ⟨v, w, e1, q1⟩ := q1
  subst e1
  obtain ⟨u1, u2, rfl, rv, rw'⟩ : ∃ u1 u2, us = [u1, u2] ∧ RelV v u1 ∧ RelV w u2 := by
    cases r1 with
    | cons p q =>
      cases q with
      | cons p' q' =>
        cases q'
        exact ⟨_, _, rfl, p, p'⟩
  refine wpAny_newObj_type ?_ (by show 2 ≤ sizeLine; decide)
  have I2 : Inv X pins σ H1 { s1 with heap := s1.heap.push { cls := .type "tuple", data := .seq [u1, u2].toArray } } := I1.kept (t' := s1.toks) fun b o e => Heap.get?_push_of_some _ e
  rw [hw]
  refine wpAny_bind (wpAny_pure ?_)
  show wpAny (model X.prog X.w) X.A (do rule "assign.swapped-stores"; let items ← unpackItems (.ref s1.heap.objs.size) 2 none; assignInOrder [fun v => bindName X.env y v, fun v => bindName X.env x v] items.reverse; pure Flow.next) _ _ _
  refine wpAny_bind (wpAny_rule (wpAny_bind (unpackItems_tuple (items := #[u1, u2]) (I.ok.hd hc) (IsTup.new s1.heap _) fun h' hx' => ?_)))
  have I3 := I2.kept (h' := h') (t' := s1.toks) fun b o e => hx' b o (Nat.ne_of_lt (Heap.lt_size e)) e
  show wpAny _ _ (assignInOrder [fun v => bindName X.env y v, fun v => bindName X.env x v] [u2, u1] >>= fun _ => pure Flow.next) _ _ _
  refine wpAny_bind (assignInOrder_cons (wpAny_bindName (store_ok I3 hN hj (.inl hy) rw' (fun s2 I4 => ?_) (.inr hy))))
  refine assignInOrder_cons (wpAny_bindName (store_ok I4 hN hi (.inl hx) rv (fun s3 I5 => assignInOrder_nil (wpAny_pure ?_)) (.inr hx)))
  rw [List.set_comm _ _ (Ne.symm hij)] at I5
  exact ⟨_, H1, I5, q1⟩
def tAug (i : Nat) (te : TE) (ti : TIp) : TS := fun D σ H => ∃ x, σ[i]? = some (some x) ∧ te σ H fun y H1 => ti x y H1 fun z H2 => D.nx (σ.set i (some z)) H2
theorem ps_aug {i : Nat} {x : Str} {e : Expr} {te : TE} {op : Operator} {ti : TIp} {pos' : Pos} (hN : X.N.Nodup) (hi : X.N[i]? = some x) (hx : Loc X.env.scope x) (he : PE X e te) (ho : PIp X op ti) (hf : X.fn x = true ∨ X.env.scope.names.lookup x = some .local := by first | exact .inl rfl | exact .inr rfl | assumption) :
    PS X (.AugAssign (.Name x pos') op e pos) (tAug i te ti) := by
  intro pins s σ H D I h
  obtain ⟨v, e1, h⟩ := h
  obtain ⟨m, hn, hl⟩ := I.loc
  have vis : Vis X.env.scope x := by rcases hx with k | k; exact .inl k; exact .inr (.inl k)
  obtain ⟨u, r, l⟩ := hl i x v hi e1 vis
  refine wpAny_AugAssign_Name ?_
  have go : wpAny (model X.prog X.w) X.A (eval e X.env) (fun w s₂ => wpAny (model X.prog X.w) X.A (inplaceOp op u w) (fun r s₃ => wpAny (model X.prog X.w) X.A (storeName X.env x r) (fun _ => SP X pins D .next) X.xe s₃) X.xe s₂) X.xe s := by
    refine thn (he pins s σ H _ I h) fun w s1 ⟨y, H1, I1, r1, q1⟩ => ?_
    refine thn (ho pins s1 σ H1 v y u w _ I1 r r1 q1) fun z s2 ⟨zv, H2, I2, r2, q2⟩ => ?_
    exact store_ok I2 hN hi hx r2 (fun s3 I3 => ⟨_, H2, I3, q2⟩) hf
  rcases l with ⟨hk, hm⟩ | ⟨hk, c, hc, hcell⟩
  · exact wpAny_loadName_local I.ok.kind hk hn hm go
  · rcases hk with hk | hk
    · exact wpAny_loadName_cell I.ok.kind hk hc hcell go
    · rcases hx with k | k
      · have : X.env.scope.names.lookup x = some .free := hk
        rw [k] at this; cases this
      · have : X.env.scope.names.lookup x = some .free := hk
        rw [k] at this; cases this
end

section
variable {X : Cx} {pos : Pos}
def tWhile (c : TT) (tb : TS) : TS := fun D σ H => ∃ W : Nat → St → Hp → Prop, (∃ m, W m σ H) ∧ ∀ m σ H, W m σ H →
  c σ H fun b H1 => if b = true then ∃ N : St → Hp → Prop, (∀ σ' H', N σ' H' → ∃ m', m' < m ∧ W m' σ' H') ∧ tb { D with nx := N, ct := N, bk := D.nx } σ H1 else D.nx σ H1
theorem ps_while {c : Expr} {body : List Stmt} {tc : TT} {tb : TS} (hp : PassesOwn (model X.prog X.w) X.A X.env X.xe) (hc : PT X c tc) (hb : PSs X body tb) : PS X (.While c body [] pos) (tWhile tc tb) := by
  intro pins s σ H D I h
  obtain ⟨W, ⟨m0, w0⟩, turn⟩ := h
  refine wpAny_While (codeAny_whileLoop (fun n s' => ∃ σ' H', Inv X pins σ' H' s' ∧ W n σ' H') ?_ m0 ⟨σ, H, I, w0⟩)
  rintro n s1 ⟨σ1, H1, I1, w1⟩
  refine wpAny_passesOwn hp (thn (hc pins s1 σ1 H1 _ I1 (turn n σ1 H1 w1)) fun b s2 ⟨H2, I2, q2⟩ => ?_)
  cases b with
  | true =>
    obtain ⟨N, hN, q2⟩ := q2
    rw [if_pos rfl]
    refine wpAny_passesOwn hp (thn (hb pins s2 σ1 H2 _ I2 q2) fun f s3 q3 => ?_)
    cases f with
    | next =>
      obtain ⟨σ3, H3, I3, n3⟩ := q3
      obtain ⟨m', hm, w3⟩ := hN σ3 H3 n3
      exact ⟨m', hm, σ3, H3, I3, w3⟩
    | cont =>
      obtain ⟨σ3, H3, I3, n3⟩ := q3
      obtain ⟨m', hm, w3⟩ := hN σ3 H3 n3
      exact ⟨m', hm, σ3, H3, I3, w3⟩
    | brk => exact q3
    | ret v => exact q3
  | false =>
    rw [if_neg Bool.false_ne_true]
    exact wpAny_execs_nil ⟨σ1, H2, I2, q2⟩
end

structure It where
  go : Nat → Hp → Prop
  yld : Nat → Hp → V → Hp → Prop
  stop : Nat → Hp → Prop
def FpOk (X : Cx) (pins : List (Addr × Obj)) (H : Hp) (b : Addr) : Prop :=
  H b = none ∧ b ≠ X.env.locals ∧ b ∉ X.fs ∧ (b ∈ X.ex ∨ X.s₀.heap.objs.size ≤ b) ∧ (∀ x c, X.env.cells.lookup x = some c → c ≠ b) ∧ ∀ p ∈ X.pn ++ pins, p.1 ≠ b
theorem Inv.fpOk {X : Cx} {pins : List (Addr × Obj)} {σ : St} {H H' : Hp} {s : Shared} {b : Addr} (I : Inv X pins σ H s) (hb : s.heap.objs.size ≤ b) (hn : H' b = none) : FpOk X pins H' b := by
  refine ⟨hn, Nat.ne_of_gt (Nat.lt_of_lt_of_le I.lt hb), I.nofs hb, .inr (Nat.le_trans I.sz hb), fun x c e z => ?_, fun p hp z => ?_⟩
  · obtain ⟨v, q⟩ := I.cell x c e
    exact absurd (Nat.lt_of_lt_of_le q.lt (by rw [z]; exact hb)) (Nat.lt_irrefl _)
  · exact absurd (Nat.lt_of_lt_of_le (Heap.lt_size (I.pin p hp).1) (by rw [z]; exact hb)) (Nat.lt_irrefl _)
structure Turn (P : Program) (w : World) (K : PySem.W.Frag) (tg : Expr) (J : It) (fp : List Addr) (it : Addr) (tn : Nat → Heap → Prop) : Prop where
  mem : it ∈ fp
  obj : ∀ i h, tn i h → ∀ b ∈ fp, ∃ o, h.get? b = some o ∧ ∀ v, o.data ≠ .cell v
  keep : ∀ i h h', tn i h → (∀ b ∈ fp, ∀ o, h.get? b = some o → h'.get? b = some o) → tn i h'
  item : ∀ (X : Cx), X.prog = P → X.w = w → X.K = K → X.calm = true → ∀ (i : Nat) (pins : List (Addr × Obj)) (s : Shared) (σ : St) (H : Hp) (E : Value → Shared → Prop), Inv X pins σ H s → (∀ b ∈ fp, FpOk X pins H b) → tn i s.heap → J.go i H →
    wpAny (model P w) X.A (pyNext (.ref it)) (fun r s1 => ∃ u, r = some u ∧
      wpAny (model P w) X.A (letOwnedTupleGo tg (.ref it) u) (fun _ s2 => ∃ x H', Inv X pins σ H' s2 ∧ RelV x u ∧ J.yld i H x H' ∧ tn (i + 1) s2.heap ∧ ∀ b ∈ fp, H' b = none) E s1) E s
  done : ∀ (X : Cx), X.prog = P → X.w = w → X.K = K → X.calm = true → ∀ (i : Nat) (pins : List (Addr × Obj)) (s : Shared) (σ : St) (H : Hp) (E : Value → Shared → Prop), Inv X pins σ H s → (∀ b ∈ fp, FpOk X pins H b) → tn i s.heap → J.stop i H →
    wpAny (model P w) X.A (pyNext (.ref it)) (fun r s1 => r = none ∧ Inv X pins σ H s1) E s
  self : ∀ (A : Around) (i : Nat) (s : Shared) (Q : Value → Shared → Prop) (E : Value → Shared → Prop), tn i s.heap → Q (.ref it) s → wpAny (model P w) A (pyIter (.ref it)) Q E s
abbrev TI := St → Hp → (It → Hp → Prop) → Prop
def PIE (X : Cx) (pins : List (Addr × Obj)) (σ : St) (tg : Expr) (R : It → Hp → Prop) (itv : Value) (s2 : Shared) : Prop :=
  ∃ (it : Addr) (fp : List Addr) (tn : Nat → Heap → Prop) (J : It) (H' : Hp), itv = .ref it ∧ Inv X pins σ H' s2 ∧ Turn X.prog X.w X.K tg J fp it tn ∧ tn 0 s2.heap ∧ (∀ b ∈ fp, FpOk X pins H' b) ∧ R J H'
def PI (X : Cx) (tg iter : Expr) (wi : TI) : Prop :=
  ∀ (pins : List (Addr × Obj)) (s : Shared) (σ : St) (H : Hp) (R : It → Hp → Prop), Inv X pins σ H s → wi σ H R →
    wpAny (model X.prog X.w) X.A (eval iter X.env) (fun v s1 => wpAny (model X.prog X.w) X.A (pyIter v) (PIE X pins σ tg R) X.xe s1) X.xe s

theorem go_of {M : Model} {A : Around} {E : Value → Shared → Prop} {s : Shared} {tg : Expr} {it : Addr} {u : Value} {o : Obj} {n : String} {vs : Array Value} {Q : Unit → Shared → Prop} (ho : s.heap.get? it = some o) (hc : o.cls = .type n) (hd : o.data = .fields vs)
    (hn : ["enumerate", "zip", "dict_itemiterator", "dict_reverseitemiterator", "odict_iterator", "itertools.zip_longest", "itertools.pairwise"].contains n = false) (hQ : Q () s) : wpAny M A (letOwnedTupleGo tg (.ref it) u) Q E s := by
  unfold letOwnedTupleGo
  cases tg <;> first
    | exact wpAny_pure hQ
    | (cases u <;> first
        | exact wpAny_pure hQ
        | (refine wpAny_bind (wpAny_load ho ?_)
           rw [hc, hd]
           show wpAny M A (if (["enumerate", "zip", "dict_itemiterator", "dict_reverseitemiterator", "odict_iterator", "itertools.zip_longest", "itertools.pairwise"].contains n && vs[0]? == some (rawInt _)) = true then _ else _) Q E s
           rw [if_neg (by intro h; rw [hn, Bool.false_and] at h; cases h)]
           exact wpAny_pure hQ))

def Itl (K : PySem.W.Frag) (a : Addr) : It :=
  ⟨fun i H => ∃ xs x, SqL K H a xs ∧ xs[i]? = some x, fun i H x H' => H' = H ∧ ∀ xs, SqL K H a xs → xs[i]? = some x, fun i H => ∃ xs, SqL K H a xs ∧ xs.length ≤ i⟩
def Itt (K : PySem.W.Frag) (a : Addr) : It :=
  ⟨fun i H => ∃ xs x, SqT K H a xs ∧ xs[i]? = some x, fun i H x H' => H' = H ∧ ∀ xs, SqT K H a xs → xs[i]? = some x, fun i H => ∃ xs, SqT K H a xs ∧ xs.length ≤ i⟩
def Itr (lo : Int) (n : Nat) : It := ⟨fun i _ => i < n, fun i H x H' => H' = H ∧ x = .int (lo + i), fun i _ => n ≤ i⟩
theorem turn_list {P : Program} {w : World} {K : PySem.W.Frag} {tg : Expr} (a it : Addr) : Turn P w K tg (Itl K a) [it] it (fun i h => h.IsListIter it a i) where
  mem := by simp
  obj := fun i h st b hb => by
    have e : b = it := by simpa using hb
    subst e
    obtain ⟨o, e, c, d⟩ := st
    exact ⟨o, e, fun v z => by rw [d] at z; cases z⟩
  keep := fun i h h' st k => st.at fun o e => k it (by simp) o e
  item := by
    intro X hP hw hK hc i pins s σ H E I hf st hg
    subst hP hw hK
    obtain ⟨xs, x, hq, hx⟩ := hg
    obtain ⟨its, rv, p, hz⟩ := I.list hq
    obtain ⟨u, hu, ru⟩ := rv.get hx
    obtain ⟨f0, f1, f2, f3, f4, f5⟩ := hf it (by simp)
    refine wpAny_pyNext_list_item st p.isList (x := u) (by simpa using hu) fun h' st' sb => ?_
    have I1 : Inv X pins σ H { s with heap := h' } := I.turned (t' := s.toks) (fun b o hb e => (sb.2 b hb).trans e) f0 f1 f3 f4 f5
    obtain ⟨o, e, c, d⟩ := id st'
    exact ⟨u, rfl, go_of (s := { s with heap := h' }) e c d (by decide) ⟨x, H, I1, ru, ⟨rfl, fun ys hy => by rw [I.list_inj hy hq]; exact hx⟩, st', fun b hb => (hf b hb).1⟩⟩
  done := by
    intro X hP hw hK hc i pins s σ H E I hf st hg
    subst hP hw hK
    obtain ⟨xs, hq, hx⟩ := hg
    obtain ⟨its, rv, p, hz⟩ := I.list hq
    obtain ⟨f0, f1, f2, f3, f4, f5⟩ := hf it (by simp)
    have hl := rv.length
    exact wpAny_pyNext_list_end (I.ok.hd hc) st p.isList (by simp; walk_at "o") fun h' eb => ⟨rfl, I.turned (t' := s.toks) (fun b o hb e => eb b o hb e) f0 f1 f3 f4 f5⟩
  self := fun _ _ _ _ _ st h => wpAny_pyIter_listiter st h
theorem turn_range {P : Program} {w : World} {K : PySem.W.Frag} {tg : Expr} (it : Addr) (lo : Int) (n : Nat) : Turn P w K tg (Itr lo n) [it] it (fun i h => IsRangeIter h it (lo + (i : Nat) * 1) ((n : Int) - (i : Nat)) 1) where
  mem := by simp
  obj := fun i h st b hb => by
    have e : b = it := by simpa using hb
    subst e
    exact ⟨_, st, fun v z => by
      have z' : Data.fields _ = Data.cell v := z
      cases z'⟩
  keep := fun i h h' st k => k it (by simp) _ st
  item := by
    intro X hP hw hK hc i pins s σ H E I hf st hg
    subst hP hw hK
    obtain ⟨f0, f1, f2, f3, f4, f5⟩ := hf it (by simp)
    have W := Walks.range (prog := X.prog) (w := X.w) (I.ok.hd hc) it lo 1 n
    refine W.item i s _ _ hg st fun v h' tk hv st' kk => ?_
    obtain ⟨t, rfl⟩ := hv
    have I1 : Inv X pins σ H { s with heap := h', toks := tk } := I.turned (fun b o hb e => kk b o (by simpa using hb) e) f0 f1 f3 f4 f5
    refine ⟨_, rfl, go_of (s := { s with heap := h', toks := tk }) (n := "range_iterator") st' rfl rfl (by decide) ⟨.int (lo + i), H, I1, ⟨t, ?_⟩, ⟨rfl, rfl⟩, st', fun b hb => (hf b hb).1⟩⟩
    rw [Int.mul_one]
  done := by
    intro X hP hw hK hc i pins s σ H E I hf st hg
    subst hP hw hK
    obtain ⟨f0, f1, f2, f3, f4, f5⟩ := hf it (by simp)
    exact wpAny_pyNext_range_end (I.ok.hd hc) st (by have : n ≤ i := hg; walk_at "o") fun h' eb => ⟨rfl, I.turned (t' := s.toks) (fun b o hb e => eb b o hb e) f0 f1 f3 f4 f5⟩
  self := fun _ _ _ _ _ st h => wpAny_pyIter_rangeiter st h
end L2

namespace L2
open PySem PySem.Spec PyProof.Rows
section
variable {X : Cx} {tg : Expr}
def iList (K : PySem.W.Frag) (tl : TE) : TI := fun σ H R => tl σ H fun x H1 => ∃ a, x = .ref a ∧ (∃ xs, SqL K H1 a xs) ∧ R (Itl K a) H1
def iTup (K : PySem.W.Frag) (tl : TE) : TI := fun σ H R => tl σ H fun x H1 => ∃ a, x = .ref a ∧ (∃ xs, SqT K H1 a xs) ∧ R (Itt K a) H1
theorem pi_list {l : Expr} {tl : TE} (hl : PE X l tl) : PI X tg l (iList X.K tl) := by
  intro pins s σ H R I h
  refine thn (hl pins s σ H _ I h) fun v s1 ⟨x, H1, I1, r1, q1⟩ => ?_
  obtain ⟨a, e, ⟨xs, hq⟩, q⟩ := q1
  subst e
  cases r1
  obtain ⟨its, rv, p, hz⟩ := I1.list hq
  refine wpAny_pyIter_list p.isList ?_
  refine ⟨s1.heap.objs.size, [s1.heap.objs.size], _, _, H1, rfl, I1.kept (t' := s1.toks) fun b o e => Heap.get?_push_of_some _ e, turn_list a _, ⟨_, Heap.get?_push_size _ rfl, rfl, rfl⟩, fun b hb => ?_, q⟩
  have e : b = s1.heap.objs.size := by simpa using hb
  subst e
  exact I1.fpOk (Nat.le_refl _) (I1.hok.fresh (Nat.le_refl _))
theorem range_it {pins : List (Addr × Obj)} {σ : St} {H : Hp} {s : Shared} {R : It → Hp → Prop} {E : Value → Shared → Prop} {lo hi : Int} {t u v : Tok} {tk : Nat} (I : Inv X pins σ H s) (h1 : -(2 ^ 62) ≤ lo) (h2 : lo < 2 ^ 62) (h3 : -(2 ^ 62) ≤ hi) (h4 : hi < 2 ^ 62)
    (q : R (Itr lo (hi - lo).toNat) H) : wpAny (model X.prog X.w) X.A (pyIter (.ref s.heap.objs.size)) (PIE X pins σ tg R) E { s with heap := s.heap.push { cls := .type "range", data := .fields #[.int lo t, .int hi u, .int 1 v] }, toks := tk } := by
  refine wpAny_pyIter_range (IsRange.new ..) (small_one h1 h2 h3 h4) ?_
  have I1 : Inv X pins σ H { s with heap := s.heap.push { cls := .type "range", data := .fields #[.int lo t, .int hi u, .int 1 v] }, toks := tk } := I.kept fun b o e => Heap.get?_push_of_some _ e
  refine ⟨(s.heap.push { cls := .type "range", data := .fields #[.int lo t, .int hi u, .int 1 v] }).objs.size, [(s.heap.push { cls := .type "range", data := .fields #[.int lo t, .int hi u, .int 1 v] }).objs.size], _, _, H, rfl,
    I1.kept (t' := tk) fun b o e => Heap.get?_push_of_some _ e, turn_range _ lo (hi - lo).toNat, ?_, fun b hb => ?_, q⟩
  · have e1 : lo + ((0 : Nat) : Int) * 1 = lo := by simp
    have e2 : (((hi - lo).toNat : Nat) : Int) - ((0 : Nat) : Int) = Builtin.Range.rangeSize lo hi 1 := by rw [rangeSize_one]; split <;> walk_at "o"
    show IsRangeIter _ _ (lo + ((0 : Nat) : Int) * 1) ((((hi - lo).toNat : Nat) : Int) - ((0 : Nat) : Int)) 1
    rw [e1, e2]
    exact Heap.get?_push_size _ rfl
  · have e : b = (s.heap.push { cls := .type "range", data := .fields #[.int lo t, .int hi u, .int 1 v] }).objs.size := by simpa using hb
    subst e
    exact I1.fpOk (Nat.le_refl _) (I1.hok.fresh (Nat.le_refl _))
def iRng1 (ta : TA) : TI := fun σ H R => ta σ H fun vs H1 => ∃ j : Int, vs = [.int j] ∧ -(2 ^ 62) ≤ j ∧ j < 2 ^ 62 ∧ R (Itr 0 j.toNat) H1
def iRng2 (ta : TA) : TI := fun σ H R => ta σ H fun vs H1 => ∃ i j : Int, vs = [.int i, .int j] ∧ (-(2 ^ 62) ≤ i ∧ i < 2 ^ 62 ∧ -(2 ^ 62) ≤ j ∧ j < 2 ^ 62) ∧ R (Itr i (j - i).toNat) H1
theorem pi_range1 {a : Expr} {ta : TA} {p pos : Pos} (hg : Gl X "range") (hm : X.mg "range" = none) (ha : PA X [a] ta) (hs : starEach [a] X.env = [(false, eval a X.env)] := by rfl) : PI X tg (.Call (.Name "range" p) [a] [] pos) (iRng1 ta) := by
  intro pins s σ H R I h
  refine Call_ (ld_blt I hg hm boot_range (PyProof.Rows.callWith_type1 (thn (ha pos pins s σ H _ I h) fun us s1 ⟨vs, H1, I1, r1, q1⟩ => ?_) hs rfl))
  obtain ⟨j, e, q1, q2, q⟩ := q1
  subst e
  cases r1 with
  | cons r rr =>
    cases rr
    obtain ⟨t, rfl⟩ := r
    exact call_range_1 (range_it I1 (by walk_at "o") (by walk_at "o") q1 q2 (by simpa using q))
def tFor (wi : TI) (g : TG) (tb : TS) : TS := fun D σ H => wi σ H fun J H1 => ∃ W : Nat → Nat → St → Hp → Prop, (∃ m, W 0 m σ H1) ∧ ∀ i m σ H, W i m σ H →
  (J.stop i H ∧ D.nx σ H) ∨ (J.go i H ∧ ∃ N : St → Hp → Prop, (∀ σ' H', N σ' H' → ∃ m', m' < m ∧ W (i + 1) m' σ' H') ∧ ∀ x H', J.yld i H x H' → g x σ H' fun σ2 H2 => tb { D with nx := N, ct := N, bk := D.nx } σ2 H2)
def pinsAt (fp : List Addr) (h : Heap) : List (Addr × Obj) := fp.filterMap fun b => (h.get? b).map fun o => (b, o)
theorem mem_pinsAt {fp : List Addr} {h : Heap} {b : Addr} {o : Obj} (hb : b ∈ fp) (e : h.get? b = some o) : (b, o) ∈ pinsAt fp h := List.mem_filterMap.mpr ⟨b, hb, by rw [e]; rfl⟩
theorem of_pinsAt {fp : List Addr} {h : Heap} {p : Addr × Obj} (hp : p ∈ pinsAt fp h) : p.1 ∈ fp ∧ h.get? p.1 = some p.2 := by
  obtain ⟨b, hb, e⟩ := List.mem_filterMap.mp hp
  cases q : h.get? b with
  | none => rw [q] at e; cases e
  | some o =>
    rw [q] at e
    have e' : (b, o) = p := Option.some.inj e
    subst e'
    exact ⟨hb, q⟩
theorem Inv.pinned {pins : List (Addr × Obj)} {σ : St} {H : Hp} {s : Shared} {fp : List Addr} (I : Inv X pins σ H s) (hf : ∀ b ∈ fp, FpOk X pins H b) (ho : ∀ b ∈ fp, ∃ o, s.heap.get? b = some o ∧ ∀ v, o.data ≠ .cell v) : Inv X (pins ++ pinsAt fp s.heap) σ H s :=
  I.pins_of fun p hp => (List.mem_append.mp hp).elim (fun z => I.pin p (List.mem_append_right _ z)) fun z => by
    obtain ⟨hb, e⟩ := of_pinsAt z
    obtain ⟨f0, f1, f2, _⟩ := hf p.1 hb
    obtain ⟨o, e', d⟩ := ho p.1 hb
    rw [e] at e'; cases e'
    exact ⟨e, f0, f1, f2, d⟩
theorem Inv.unpinned {pins pl : List (Addr × Obj)} {σ : St} {H : Hp} {s : Shared} (I : Inv X (pins ++ pl) σ H s) : Inv X pins σ H s := I.pins_of fun p hp => I.pin p (List.mem_append_right _ (List.mem_append_left _ hp))
theorem ps_for {iter : Expr} {body : List Stmt} {wi : TI} {g : TG} {tb : TS} {pos : Pos} (hp : PassesOwn (model X.prog X.w) X.A X.env X.xe) (hc : X.calm = true) (hi : PI X tg iter wi) (hg : PG X tg g) (hb : PSs X body tb)
    (hs : ∀ x, foldedSetIterable iter X.env x = pure x := by intro _; rfl) : PS X (.For tg iter body [] pos) (tFor wi g tb) := by
  intro pins s σ H D I h
  refine wpAny_For (thn (hi pins s σ H _ I h) fun v s1 h1 => thn h1 fun itv s2 h2 => ?_) hs
  obtain ⟨it, fp, tn, J, H2, e, I2, T, st2, f2, W, ⟨m0, w0⟩, turn⟩ := h2
  subst e
  -- what stays true of the iterator's objects through the loop
  have stat : ∀ {H' : Hp}, (∀ b ∈ fp, H' b = none) → ∀ b ∈ fp, FpOk X pins H' b := fun hn b hb => ⟨hn b hb, (f2 b hb).2⟩
  refine codeAny_forLoop_any (fun n s' => ∃ i σ' H', Inv X pins σ' H' s' ∧ tn i s'.heap ∧ (∀ b ∈ fp, H' b = none) ∧ W i n σ' H') ?_ m0 ⟨0, σ, H2, I2, st2, fun b hb => (f2 b hb).1, w0⟩
  rintro n s3 ⟨i, σ3, H3, I3, st3, fr3, w3⟩
  rcases turn i n σ3 H3 w3 with ⟨stop, qn⟩ | ⟨go, N, hN, step⟩
  · refine wpAny_passesOwn hp (thn (T.done X rfl rfl rfl hc i pins s3 σ3 H3 X.xe I3 (stat fr3) st3 stop) fun r s4 ⟨hr, I4⟩ => ?_)
    subst hr
    exact wpAny_execs_nil ⟨σ3, H3, I4, qn⟩
  · refine wpAny_passesOwn hp (thn (T.item X rfl rfl rfl hc i pins s3 σ3 H3 X.xe I3 (stat fr3) st3 go) fun r s4 ⟨u, hr, h4⟩ => ?_)
    subst hr
    refine wpAny_passesOwn hp (thn h4 fun _ s5 ⟨x, H5, I5, r5, y5, st5, fr5⟩ => ?_)
    have I5' := I5.pinned (stat fr5) (T.obj _ _ st5)
    refine wpAny_passesOwn hp (thn (hg _ s5 σ3 H5 x u _ I5' r5 (step x H5 y5)) fun _ s6 ⟨σ6, H6, I6, q6⟩ => ?_)
    refine wpAny_passesOwn hp (thn (hb _ s6 σ6 H6 _ I6 q6) fun f s7 q7 => ?_)
    have again : ∀ {σ7 : St} {H7 : Hp}, Inv X (pins ++ pinsAt fp s5.heap) σ7 H7 s7 → N σ7 H7 → ∃ m, m < n ∧ ∃ i σ' H', Inv X pins σ' H' s7 ∧ tn i s7.heap ∧ (∀ b ∈ fp, H' b = none) ∧ W i m σ' H' := fun {σ7 H7} I7 n7 => by
      obtain ⟨m', hm, w7⟩ := hN σ7 H7 n7
      refine ⟨m', hm, i + 1, σ7, H7, I7.unpinned, T.keep _ _ _ st5 fun b hb o e => (I7.pin (b, o) (List.mem_append_right _ (List.mem_append_right _ (mem_pinsAt hb e)))).1, fun b hb => ?_, w7⟩
      obtain ⟨o, e, d⟩ := T.obj _ _ st5 b hb
      exact (I7.pin (b, o) (List.mem_append_right _ (List.mem_append_right _ (mem_pinsAt hb e)))).2.1
    cases f with
    | next => obtain ⟨σ7, H7, I7, n7⟩ := q7; exact again I7 n7
    | cont => obtain ⟨σ7, H7, I7, n7⟩ := q7; exact again I7 n7
    | brk => obtain ⟨σ7, H7, I7, q7⟩ := q7; exact ⟨σ7, H7, I7.unpinned, q7⟩
    | ret v => obtain ⟨x7, σ7, H7, I7, r7, q7⟩ := q7; exact ⟨x7, σ7, H7, I7.unpinned, r7, q7⟩
end

end L2

namespace L2
open PySem PySem.Spec PyProof.Rows

abbrev R2 := V → V → Hp → VK → Prop
def OpR (X : Cx) (f : Value → Value → Sem Value) (r : R2) : Prop :=
  ∀ (pins : List (Addr × Obj)) (s : Shared) (σ : St) (H : Hp) (x y : V) (v u : Value) (Q : VK), Inv X pins σ H s → RelV x v → RelV y u → r x y H Q →
    wpAny (model X.prog X.w) X.A (f v u) (EP X pins σ Q) X.xe s
def UnR (X : Cx) (f : Value → Sem Value) (r : V → Hp → VK → Prop) : Prop :=
  ∀ (pins : List (Addr × Obj)) (s : Shared) (σ : St) (H : Hp) (x : V) (v : Value) (Q : VK), Inv X pins σ H s → RelV x v → r x H Q →
    wpAny (model X.prog X.w) X.A (f v) (EP X pins σ Q) X.xe s
def CallR (X : Cx) (f : Value) (r : List V → Hp → VK → Prop) : Prop :=
  ∀ (pins : List (Addr × Obj)) (s : Shared) (σ : St) (H : Hp) (xs : List V) (us : List Value) (Q : VK), Inv X pins σ H s → Vals xs us → r xs H Q →
    wpAny (model X.prog X.w) X.A (call f us) (EP X pins σ Q) X.xe s
def TruR (X : Cx) (r : V → Hp → (Bool → Hp → Prop) → Prop) : Prop :=
  ∀ (pins : List (Addr × Obj)) (s : Shared) (σ : St) (H : Hp) (x : V) (v : Value) (Q : Bool → Hp → Prop), Inv X pins σ H s → RelV x v → r x H Q →
    wpAny (model X.prog X.w) X.A (truthy v) (TP X pins σ Q) X.xe s

def tOp (r : R2) (ta tb : TE) : TE := fun σ H Q => ta σ H fun x H1 => tb σ H1 fun y H2 => r x y H2 Q
def tUn (r : V → Hp → VK → Prop) (ta : TE) : TE := fun σ H Q => ta σ H fun x H1 => r x H1 Q
def rI (C : Int → Int → Prop) (g : Int → Int → V) : R2 := fun x y H Q => ∃ i j, x = .int i ∧ y = .int j ∧ C i j ∧ Q (g i j) H
def rI0 (g : Int → Int → V) : R2 := fun x y H Q => ∃ i j, x = .int i ∧ y = .int j ∧ Q (g i j) H
def rU (g : Int → V) : V → Hp → VK → Prop := fun x H Q => ∃ i, x = .int i ∧ Q (g i) H

section
variable {X : Cx} {a b c : Expr} {ta tb tc : TE} {pos : Pos}

theorem binT (ha : PE X a ta) (hb : PE X b tb) {pins : List (Addr × Obj)} {s : Shared} {σ : St} {H : Hp} {R : V → V → Hp → Prop} (I : Inv X pins σ H s)
    (h : ta σ H fun x H1 => tb σ H1 fun y H2 => R x y H2) {Q : Value → Shared → Prop} {f : Value → Value → Sem Value}
    (hf : ∀ v u s2 x y H2, Inv X pins σ H2 s2 → RelV x v → RelV y u → R x y H2 → wpAny (model X.prog X.w) X.A (f v u) Q X.xe s2) :
    wpAny (model X.prog X.w) X.A (eval a X.env) (fun v s₁ => wpAny (model X.prog X.w) X.A (eval b X.env) (fun u s₂ => wpAny (model X.prog X.w) X.A (f v u) Q X.xe s₂) X.xe s₁) X.xe s := by
  refine thn (ha pins s σ H _ I h) fun v s1 ⟨x, H1, I1, r1, q1⟩ => ?_
  refine thn (hb pins s1 σ H1 _ I1 q1) fun u s2 ⟨y, H2, I2, r2, q2⟩ => ?_
  exact hf v u s2 x y H2 I2 r1 r2 q2

theorem pe_op {op : Operator} {r : R2} (ho : OpR X (binaryOp op) r) (ha : PE X a ta) (hb : PE X b tb) : PE X (.BinOp a op b pos) (tOp r ta tb) := by
  intro pins s σ H Q I h
  exact wpAny_BinOp (binT ha hb I h fun v u s2 x y H2 I2 rx ry q => ho pins s2 σ H2 x y v u Q I2 rx ry q)
theorem pe_un {op : UnaryOp} {r : V → Hp → VK → Prop} (ho : UnR X (unaryOp op) r) (ha : PE X a ta) : PE X (.UnaryOp op a pos) (tUn r ta) := by
  intro pins s σ H Q I h
  exact UnaryOp_ (thn (ha pins s σ H _ I h) fun v s1 ⟨x, H1, I1, r1, q1⟩ => ho pins s1 σ H1 x v Q I1 r1 q1)
theorem opI {f : Value → Value → Sem Value} {C : Int → Int → Prop} {g : Int → Int → Int}
    (rule : ∀ (i j : Int) (t u : Tok) (s : Shared) (Q : Value → Shared → Prop) (E : Value → Shared → Prop), C i j → Q (.int (g i j) s.toks) { s with toks := s.toks + 1 } → wpAny (model X.prog X.w) X.A (f (.int i t) (.int j u)) Q E s) :
    OpR X f (rI C fun i j => .int (g i j)) := by
  intro pins s σ H x y v u Q I rx ry h
  obtain ⟨i, j, rfl, rfl, hc, q⟩ := h
  obtain ⟨t, rfl⟩ := rx
  obtain ⟨t', rfl⟩ := ry
  exact rule i j t t' s _ _ hc ⟨.int (g i j), H, I.tok _, ⟨_, rfl⟩, q⟩
theorem opI0 {f : Value → Value → Sem Value} {g : Int → Int → Int}
    (rule : ∀ (i j : Int) (t u : Tok) (s : Shared) (Q : Value → Shared → Prop) (E : Value → Shared → Prop), Q (.int (g i j) s.toks) { s with toks := s.toks + 1 } → wpAny (model X.prog X.w) X.A (f (.int i t) (.int j u)) Q E s) :
    OpR X f (rI0 fun i j => .int (g i j)) := by
  intro pins s σ H x y v u Q I rx ry h
  obtain ⟨i, j, rfl, rfl, q⟩ := h
  obtain ⟨t, rfl⟩ := rx
  obtain ⟨t', rfl⟩ := ry
  exact rule i j t t' s _ _ ⟨.int (g i j), H, I.tok _, ⟨_, rfl⟩, q⟩
theorem opB0 {f : Value → Value → Sem Value} {g : Int → Int → Bool}
    (rule : ∀ (i j : Int) (t u : Tok) (s : Shared) (Q : Value → Shared → Prop) (E : Value → Shared → Prop), Q (.bool (g i j)) s → wpAny (model X.prog X.w) X.A (f (.int i t) (.int j u)) Q E s) :
    OpR X f (rI0 fun i j => .bl (g i j)) := by
  intro pins s σ H x y v u Q I rx ry h
  obtain ⟨i, j, rfl, rfl, q⟩ := h
  obtain ⟨t, rfl⟩ := rx
  obtain ⟨t', rfl⟩ := ry
  exact rule i j t t' s _ _ ⟨.bl (g i j), H, I, rfl, q⟩

def CPow (i j : Int) : Prop := 0 ≤ j ∧ j ≤ 1000000 ∧ i.natAbs < 2 ^ 64
theorem op_add : OpR X (binaryOp .Add) (rI0 fun i j => .int (i + j)) := opI0 fun _ _ _ _ _ _ _ q => add_int q
theorem op_sub : OpR X (binaryOp .Sub) (rI0 fun i j => .int (i - j)) := opI0 fun _ _ _ _ _ _ _ q => sub_int q
theorem op_modN : OpR X (binaryOp .Mod) (rI (fun _ j => j ≠ 0) fun i j => .int (i.fmod j)) := opI fun _ _ _ _ _ _ _ hc q => mod_int' hc q
theorem op_pow : OpR X (binaryOp .Pow) (rI CPow fun i j => .int (i ^ j.toNat)) := opI fun _ _ _ _ _ _ _ hc q => pow_int_small hc.1 hc.2.1 hc.2.2 q
theorem unI {f : Value → Sem Value} {g : Int → Int}
    (rule : ∀ (i : Int) (t : Tok) (s : Shared) (Q : Value → Shared → Prop) (E : Value → Shared → Prop), Q (.int (g i) s.toks) { s with toks := s.toks + 1 } → wpAny (model X.prog X.w) X.A (f (.int i t)) Q E s) :
    UnR X f (rU fun i => .int (g i)) := by
  intro pins s σ H x v Q I rx h
  obtain ⟨i, rfl, q⟩ := h
  obtain ⟨t, rfl⟩ := rx
  exact rule i t s _ _ ⟨.int (g i), H, I.tok _, ⟨_, rfl⟩, q⟩
theorem un_neg : UnR X (unaryOp .USub) (rU fun i => .int (-i)) := unI fun _ _ _ _ _ q => neg_int q
end

def scal : V → V → Bool
  | .non, .non => true | .non, .int _ => true | .int _, .non => true | .non, .bl _ => true | .bl _, .non => true | .non, .str _ => true | .str _, .non => true
  | .int _, .int _ => true | .bl _, .bl _ => true | .str _, .str _ => true | .byt _, .byt _ => true
  | .int _, .str _ => true | .str _, .int _ => true | .bl _, .str _ => true | .str _, .bl _ => true
  | _, _ => false
def rEq : R2 := fun x y H Q => scal x y = true ∧ Q (.bl (decide (x = y))) H
def rNe : R2 := fun x y H Q => scal x y = true ∧ Q (.bl (!decide (x = y))) H

theorem dec_int {i j : Int} : decide (V.int i = V.int j) = (i == j) := by
  rw [Bool.eq_iff_iff]
  simp
theorem dec_bl {i j : Bool} : decide (V.bl i = V.bl j) = (i == j) := by
  rw [Bool.eq_iff_iff]
  simp
theorem dec_str {i j : Str} : decide (V.str i = V.str j) = (i == j) := by
  rw [Bool.eq_iff_iff]
  simp
theorem dec_byt {i j : Array UInt8} : decide (V.byt i = V.byt j) = (i.toList == j.toList) := by
  rw [Bool.eq_iff_iff]
  cases i
  cases j
  simp

section
variable {X : Cx} {a b c : Expr} {ta tb tc : TE} {pos : Pos}
theorem fin_bl {pins : List (Addr × Obj)} {σ : St} {H : Hp} {s : Shared} {Q : VK} {k k' : Bool} (I : Inv X pins σ H s) (q : Q (.bl k) H) (e : k = k') : EP X pins σ Q (.bool k') s := by
  subst e
  exact ⟨.bl k, H, I, rfl, q⟩
theorem op_eq : OpR X (compareOp .Eq) rEq := by
  intro pins s σ H x y v u Q I rx ry h
  obtain ⟨hs, q⟩ := h
  cases x with
  | non =>
    cases rx
    cases y with
    | non => cases ry; exact PySem.EqNone.eq_none_none (fin_bl I q (by simp))
    | bl j => cases ry; exact PySem.EqNone.eq_none_bool (fin_bl I q (by simp))
    | int j => obtain ⟨t', rfl⟩ := ry; exact PySem.EqNone.eq_none_int (fin_bl I q (by simp))
    | str j => obtain ⟨t', rfl⟩ := ry; exact PySem.EqNone.eq_none_str (fin_bl I q (by simp))
    | _ => exact absurd (show false = true from hs) Bool.false_ne_true
  | bl i =>
    cases rx
    cases y with
    | non => cases ry; exact PySem.EqNone.eq_bool_none (fin_bl I q (by simp))
    | bl j => cases ry; exact eq_bool (fin_bl I q dec_bl)
    | str j => obtain ⟨t', rfl⟩ := ry; exact PySem.EqMixed.eq_bool_str (fin_bl I q (by simp))
    | _ => exact absurd (show false = true from hs) Bool.false_ne_true
  | int i =>
    obtain ⟨t, rfl⟩ := rx
    cases y with
    | non => cases ry; exact PySem.EqNone.eq_int_none (fin_bl I q (by simp))
    | int j => obtain ⟨t', rfl⟩ := ry; exact eq_int (fin_bl I q dec_int)
    | str j => obtain ⟨t', rfl⟩ := ry; exact PySem.EqMixed.eq_int_str (fin_bl I q (by simp))
    | _ => exact absurd (show false = true from hs) Bool.false_ne_true
  | str i =>
    obtain ⟨t, rfl⟩ := rx
    cases y with
    | non => cases ry; exact PySem.EqNone.eq_str_none (fin_bl I q (by simp))
    | bl j => cases ry; exact PySem.EqMixed.eq_str_bool (fin_bl I q (by simp))
    | int j => obtain ⟨t', rfl⟩ := ry; exact PySem.EqMixed.eq_str_int (fin_bl I q (by simp))
    | str j => obtain ⟨t', rfl⟩ := ry; exact eq_str (fin_bl I q dec_str)
    | _ => exact absurd (show false = true from hs) Bool.false_ne_true
  | byt i =>
    obtain ⟨t, rfl⟩ := rx
    cases y with
    | byt j => obtain ⟨t', rfl⟩ := ry; exact PySem.W.eq_bytes (fin_bl I q dec_byt)
    | _ => exact absurd (show false = true from hs) Bool.false_ne_true
  | _ => cases y <;> exact absurd (show false = true from hs) Bool.false_ne_true
theorem op_ne : OpR X (compareOp .NotEq) rNe := by
  intro pins s σ H x y v u Q I rx ry h
  obtain ⟨hs, q⟩ := h
  cases x with
  | non =>
    cases rx
    cases y with
    | non => cases ry; exact PySem.EqNone.ne_none_none (fin_bl I q (by simp))
    | bl j => cases ry; exact PySem.EqNone.ne_none_bool (fin_bl I q (by simp))
    | int j => obtain ⟨t', rfl⟩ := ry; exact PySem.EqNone.ne_none_int (fin_bl I q (by simp))
    | str j => obtain ⟨t', rfl⟩ := ry; exact PySem.EqNone.ne_none_str (fin_bl I q (by simp))
    | _ => exact absurd (show false = true from hs) Bool.false_ne_true
  | bl i =>
    cases rx
    cases y with
    | non => cases ry; exact PySem.EqNone.ne_bool_none (fin_bl I q (by simp))
    | bl j => cases ry; exact ne_bool (fin_bl I q (congrArg not dec_bl))
    | str j => obtain ⟨t', rfl⟩ := ry; exact PySem.EqMixed.ne_bool_str (fin_bl I q (by simp))
    | _ => exact absurd (show false = true from hs) Bool.false_ne_true
  | int i =>
    obtain ⟨t, rfl⟩ := rx
    cases y with
    | non => cases ry; exact PySem.EqNone.ne_int_none (fin_bl I q (by simp))
    | int j => obtain ⟨t', rfl⟩ := ry; exact ne_int (fin_bl I q (congrArg not dec_int))
    | str j => obtain ⟨t', rfl⟩ := ry; exact PySem.EqMixed.ne_int_str (fin_bl I q (by simp))
    | _ => exact absurd (show false = true from hs) Bool.false_ne_true
  | str i =>
    obtain ⟨t, rfl⟩ := rx
    cases y with
    | non => cases ry; exact PySem.EqNone.ne_str_none (fin_bl I q (by simp))
    | bl j => cases ry; exact PySem.EqMixed.ne_str_bool (fin_bl I q (by simp))
    | int j => obtain ⟨t', rfl⟩ := ry; exact PySem.EqMixed.ne_str_int (fin_bl I q (by simp))
    | str j => obtain ⟨t', rfl⟩ := ry; exact ne_str (fin_bl I q (congrArg not dec_str))
    | _ => exact absurd (show false = true from hs) Bool.false_ne_true
  | byt i =>
    obtain ⟨t, rfl⟩ := rx
    cases y with
    | byt j => obtain ⟨t', rfl⟩ := ry; exact PySem.W.ne_bytes (fin_bl I q (congrArg not dec_byt))
    | _ => exact absurd (show false = true from hs) Bool.false_ne_true
  | _ => cases y <;> exact absurd (show false = true from hs) Bool.false_ne_true

theorem op_lt : OpR X (compareOp .Lt) (rI0 fun i j => .bl (decide (i < j))) := opB0 fun _ _ _ _ _ _ _ q => lt_int q
theorem op_ge : OpR X (compareOp .GtE) (rI0 fun i j => .bl (decide (j ≤ i))) := opB0 fun _ _ _ _ _ _ _ q => ge_int q
theorem OpR.or {f : Value → Value → Sem Value} {r r' : R2} (h : OpR X f r) (h' : OpR X f r') : OpR X f (fun x y H Q => r x y H Q ∨ r' x y H Q) := by
  intro pins s σ H x y v u Q I rx ry q
  rcases q with q | q
  · exact h pins s σ H x y v u Q I rx ry q
  · exact h' pins s σ H x y v u Q I rx ry q

theorem nomark (b : Expr) {op : CmpOp} (h : op ≠ .In := by decide) (h2 : op ≠ .NotIn := by decide) : behindInMarks op b = false := by
  have e1 : (op == CmpOp.In) = false := by cases op <;> first | rfl | exact absurd rfl h
  have e2 : (op == CmpOp.NotIn) = false := by cases op <;> first | rfl | exact absurd rfl h2
  cases b <;> simp [behindInMarks, e1, e2]
theorem pe_cmpR {op : CmpOp} {r : R2} (ho : OpR X (compareOp op) r) (ha : PE X a ta) (hb : PE X b tb) (hm : behindInMarks op b = false) : PE X (.Compare a [op] [b] pos) (tOp r ta tb) := by
  intro pins s σ H Q I h
  exact wpAny_Compare1 (binT ha hb I h fun v u s2 x y H2 I2 rx ry q => ho pins s2 σ H2 x y v u Q I2 rx ry q) hm
def tTest (t : TE) : TT := fun σ H Q => t σ H fun x H' => ∃ k, x = .bl k ∧ Q k H'
theorem pt_cmpR {op : CmpOp} {r : R2} (ho : OpR X (compareOp op) r) (ha : PE X a ta) (hb : PE X b tb) (hm : behindInMarks op b = false) : PT X (.Compare a [op] [b] pos) (tTest (tOp r ta tb)) := by
  intro pins s σ H Q I h
  refine wpAny_isTrue_Compare1 (thn (ha pins s σ H _ I h) fun v s1 ⟨x, H1, I1, r1, q1⟩ => thn (hb pins s1 σ H1 _ I1 q1) fun u s2 ⟨y, H2, I2, r2, q2⟩ =>
    thn (ho pins s2 σ H2 x y v u _ I2 r1 r2 q2) fun c s3 ⟨z, H3, I3, r3, k, e, q3⟩ => ?_) hm
  subst e
  cases r3
  exact wpAny_truthy_bool ⟨H3, I3, q3⟩
def TruV (K : PySem.W.Frag) (x : V) (H : Hp) (k : Bool) : Prop :=
  match x with
  | .non => k = false
  | .bl b => k = b
  | .int i => k = (i != 0)
  | .str y => y.length ≤ sizeLine ∧ k = ((y.length : Int) != 0)
  | .byt y => y.size ≤ sizeLine ∧ k = ((y.size : Int) != 0)
  | .ref p => (∃ xs, SqL K H p xs ∧ k = !xs.isEmpty) ∨ (∃ xs, SqT K H p xs ∧ k = !xs.isEmpty) ∨ ∃ kvs, H p = some (.dK kvs) ∧ k = !kvs.isEmpty
  | _ => False
theorem isEmpty_kv {κ : Type} {kvs : List (κ × V)} {vs : List (κ × Value)} (r : KV kvs vs) : (!vs.isEmpty) = !kvs.isEmpty := by
  cases r <;> rfl
theorem isEmpty_of {xs : List V} {its : List Value} (r : Vals xs its) : (!its.toArray.isEmpty) = !xs.isEmpty := by
  cases r <;> simp
theorem line63 : (sizeLine : Nat) < 2 ^ 63 := by rw [sizeLine_eq]; decide
theorem tru_ok : TruR X (fun x H Q => ∃ k, TruV X.K x H k ∧ Q k H) := by
  intro pins s σ H x v Q I rx h
  obtain ⟨k, e, q⟩ := h
  have hl := line63
  have hs : sizeLine = 16777216 := sizeLine_eq
  cases x with
  | non =>
    cases rx
    have e' : k = false := e
    subst e'
    exact truthy_none ⟨H, I, q⟩
  | bl b =>
    cases rx
    have e' : k = b := e
    subst e'
    exact wpAny_truthy_bool ⟨H, I, q⟩
  | int i =>
    obtain ⟨t, rfl⟩ := rx
    have e' : k = (i != 0) := e
    subst e'
    exact PySem.P.truthy_int ⟨H, I, q⟩
  | str y =>
    obtain ⟨t, rfl⟩ := rx
    obtain ⟨hy, e'⟩ : y.length ≤ sizeLine ∧ k = ((y.length : Int) != 0) := e
    subst e'
    exact PySem.P.truthy_str (by walk_at "o") ⟨H, I.tok _, q⟩
  | byt y =>
    obtain ⟨t, rfl⟩ := rx
    obtain ⟨hy, e'⟩ : y.size ≤ sizeLine ∧ k = ((y.size : Int) != 0) := e
    subst e'
    exact PySem.W.truthy_bytes (by walk_at "o") ⟨H, I.tok _, q⟩
  | ref p =>
    cases rx
    have e' : (∃ xs, SqL X.K H p xs ∧ k = !xs.isEmpty) ∨ (∃ xs, SqT X.K H p xs ∧ k = !xs.isEmpty) ∨ ∃ kvs, H p = some (.dK kvs) ∧ k = !kvs.isEmpty := e
    rcases e' with ⟨xs, hx, e'⟩ | ⟨xs, hx, e'⟩ | ⟨kvs, hx, e'⟩
    · subst e'
      obtain ⟨its, r, pl, hz⟩ := I.list hx
      have hlen := r.length
      exact wpAny_truthy_list pl.isList (by simp only [List.size_toArray]; walk_at "o") ⟨H, I.tok _, by rw [isEmpty_of r]; exact q⟩
    · subst e'
      obtain ⟨its, r, pl, hz⟩ := I.tuple hx
      have hlen := r.length
      exact truthy_tuple pl (by simp only [List.size_toArray]; walk_at "o") ⟨H, I.tok _, by rw [isEmpty_of r]; exact q⟩
    · subst e'
      obtain ⟨hz, hS, vs, r, m⟩ : kvs.length ≤ sizeLine ∧ (p == sysModules) = false ∧ ∃ vs, KV kvs vs ∧ s.heap.DictOf (mixKind X.prog X.w) p vs := I.hok p _ hx
      have hlen : kvs.length = vs.length := Paired.length r
      exact wpAny_truthy_dict hS m (by walk_at "o") ⟨H, I.tok _, by rw [isEmpty_kv r]; exact q⟩
  | _ => exact (show False from e).elim
theorem pt_truth (ha : PE X a ta) (he : ∀ whole, isTrue a X.env whole = (do let v ← whole; standAt a.pos; holding [v] (truthy v))) :
    PT X a (fun σ H Q => ta σ H fun x H' => ∃ k, TruV X.K x H' k ∧ Q k H') := by
  intro pins s σ H Q I h
  exact isTrue_plain (thn (ha pins s σ H _ I h) fun v s1 ⟨x, H1, I1, r1, q1⟩ => tru_ok pins s1 σ H1 x v Q I1 r1 q1) (he _)

theorem vals1 {x : V} {us : List Value} (r : Vals [x] us) : ∃ u, us = [u] ∧ RelV x u := by
  cases r with
  | cons r1 r2 => cases r2; exact ⟨_, rfl, r1⟩
theorem vals2 {x y : V} {us : List Value} (r : Vals [x, y] us) : ∃ u w', us = [u, w'] ∧ RelV x u ∧ RelV y w' := by
  cases r with
  | cons r1 r2 =>
    cases r2 with
    | cons r3 r4 => cases r4; exact ⟨_, _, rfl, r1, r3⟩
theorem call_abs : CallR X (.builtin "abs") (fun xs H Q => ∃ i, xs = [.int i] ∧ Q (.int (if i < 0 then -i else i)) H) := by
  intro pins s σ H xs us Q I r h
  obtain ⟨i, rfl, q⟩ := h
  obtain ⟨u, rfl, t, rfl⟩ := vals1 r
  exact call_abs_int fun u tk => ⟨.int (if i < 0 then -i else i), H, I.tok _, ⟨_, rfl⟩, q⟩
theorem call_max2 (hc : X.calm = true) : CallR X (.builtin "max") (fun xs H Q => ∃ i j, xs = [.int i, .int j] ∧ Q (.int (if j > i then j else i)) H) := by
  intro pins s σ H xs us Q I r h
  obtain ⟨i, j, rfl, q⟩ := h
  obtain ⟨u, w', rfl, ⟨t, rfl⟩, ⟨t', rfl⟩⟩ := vals2 r
  refine max_two_ints (I.ok.hd hc) fun h' tk k => ⟨_, H, I.kept k, ?_, q⟩
  by_cases hj : j > i
  · rw [if_pos hj, if_pos hj]; exact ⟨_, rfl⟩
  · rw [if_neg hj, if_neg hj]; exact ⟨_, rfl⟩
theorem call_min2 (hc : X.calm = true) : CallR X (.builtin "min") (fun xs H Q => ∃ i j, xs = [.int i, .int j] ∧ Q (.int (if j < i then j else i)) H) := by
  intro pins s σ H xs us Q I r h
  obtain ⟨i, j, rfl, q⟩ := h
  obtain ⟨u, w', rfl, ⟨t, rfl⟩, ⟨t', rfl⟩⟩ := vals2 r
  refine min_two_ints (I.ok.hd hc) fun h' tk k => ⟨_, H, I.kept k, ?_, q⟩
  by_cases hj : j < i
  · rw [if_pos hj, if_pos hj]; exact ⟨_, rfl⟩
  · rw [if_neg hj, if_neg hj]; exact ⟨_, rfl⟩
theorem call_int1 : CallR X (.type "int") (fun xs H Q => (∃ i, xs = [.int i] ∧ Q (.int i) H) ∨ ∃ k, xs = [.bl k] ∧ Q (.int (if k then 1 else 0)) H) := by
  intro pins s σ H xs us Q I r h
  rcases h with ⟨i, rfl, q⟩ | ⟨k, rfl, q⟩
  · obtain ⟨u, rfl, t, rfl⟩ := vals1 r
    exact call_int_int ⟨.int i, H, I, ⟨_, rfl⟩, q⟩
  · obtain ⟨u, rfl, r1⟩ := vals1 r
    cases r1
    exact call_int_bool ⟨.int (if k then 1 else 0), H, I.tok _, ⟨_, rfl⟩, q⟩
end
end L2

namespace L2
open PySem PySem.Spec PyProof.Rows

structure ObjM (h : Heap) (x dx C : Addr) (mA : Str → Option Value) : Prop where
  obj : h.get? x = some (PySem.W.instObj C dx)
  ns : h.Ns1 dx mA
  ne : dx ≠ x

theorem lookIn_ns {h : Heap} {dx : Addr} {mA : Str → Option Value} (n : h.Ns1 dx mA) : ∃ od, h.get? dx = some od ∧ ∀ name, PySem.W.lookIn name od = some (mA name) := by
  obtain ⟨o, es, ep, ho, hd, hk, _, hm⟩ := n
  refine ⟨o, ho, fun name => ?_⟩
  have e := hm name
  unfold nsFind findBy at e
  rw [← Array.find?_toList] at e
  unfold PySem.W.lookIn
  rw [hd]
  dsimp only
  split
  · rename_i y q
    rw [q] at e
    exact congrArg some e
  · rename_i q
    rw [q] at e
    have a : es.toList.any (·.refKey) = false := by
      rw [List.any_eq_false]
      intro y hy
      obtain ⟨z, t, hkey⟩ := hk y (Array.mem_toList_iff.mp hy)
      simp [DictEntry.refKey, hkey]
    have a' : ¬ es.toList.any (·.refKey) = true := by rw [a]; exact Bool.false_ne_true
    rw [if_neg a']
    exact congrArg some e

theorem ObjM.look {h : Heap} {x dx C : Addr} {mA : Str → Option Value} (I : ObjM h x dx C mA) : ∃ od, PySem.W.InstAt h x (PySem.W.instObj C dx) C (some od) ∧ ∀ name, PySem.W.lookIn name od = some (mA name) :=
  let ⟨od, ho, hl⟩ := lookIn_ns I.ns
  ⟨od, ⟨I.obj, rfl, rfl, ho⟩, hl⟩

section
variable {prog : Program} {w : World} {A : Around} {E : Value → Shared → Prop} {s : Shared} {K : PySem.W.Frag} {x dx C f : Addr} {mA : Str → Option Value} {name : Str} {v : Value}

end

section
variable {P : Program} {w : World} {H H' : Hp} {h h' : Heap} {a C dx : Addr} {fs fs' : List (Str × V)}
theorem ins_get (hok : HOk P w H h) (e : H a = some (.ins C dx fs)) : ∃ mA, ObjM h a dx C mA ∧ (∀ f, RelO (fs.lookup f) (mA f)) ∧ PySem.Within mA (fs.map (·.1)) ∧ fs.length ≤ 1000 ∧ H dx = some (.own a) := by
  obtain ⟨d, z, ne, ob, mA, n, r, q⟩ := (show ObjOk P w H h a (.ins C dx fs) from hok a _ e)
  exact ⟨mA, ⟨ob, n, ne⟩, r, q, z, d⟩
end

structure Cls (K : PySem.W.Frag) (C : Addr) : Prop where
  pg : PySem.W.plainGet K C Str.empty = true
  hd : PySem.W.hasDictIn K C = true
  po : PySem.W.plainOver K C = true
  sa : PySem.W.findIn K (.ref C) "__setattr__" = some (some (.builtin "object.__setattr__"))
theorem Cls.get {K : PySem.W.Frag} {C : Addr} (c : Cls K C) (f : Str) : PySem.W.plainGet K C f = true := c.pg
section
variable {X : Cx} {pins : List (Addr × Obj)} {σ : St} {H : Hp} {s : Shared} {a C dx : Addr} {fs : List (Str × V)} {f : Str} {v : V} {A : Around} {E : Value → Shared → Prop}

end

section
variable {X : Cx} {o e value : Expr} {f : Str} {pos pos' tpos : Pos} {ta tv : TE}
end

section
variable {X : Cx} {pins : List (Addr × Obj)} {σ : St} {H : Hp} {s : Shared} {A : Around} {E : Value → Shared → Prop} {Q : Value → Shared → Prop} {c : Value} {b : Bool}
inductive TyOf (K : PySem.W.Frag) (H : Hp) : V → Value → Prop where
  | non : TyOf K H .non (.type "NoneType")
  | bl (x : Bool) : TyOf K H (.bl x) (.type "bool")
  | int (i : Int) : TyOf K H (.int i) (.type "int")
  | str (x : Str) : TyOf K H (.str x) (.type "str")
  | flt (x : UInt64) : TyOf K H (.flt x) (.type "float")
  | lst {a : Addr} {xs : List V} (e : H a = some (.lst xs)) : TyOf K H (.ref a) (.type "list")
  | frz {a : Addr} {o : Obj} {xs : List V} (e : H a = some (.frz o (.lst xs))) : TyOf K H (.ref a) (.type "list")
  | tup {a : Addr} {xs : List V} (e : H a = some (.tup xs)) : TyOf K H (.ref a) (.type "tuple")
  | dK {a : Addr} {kvs : List (Key × V)} (e : H a = some (.dK kvs)) : TyOf K H (.ref a) (.type "dict")
  | dT {a : Addr} {kvs : List (List Key × V)} (e : H a = some (.dT kvs)) : TyOf K H (.ref a) (.type "dict")
  | ins {a C dx : Addr} {fs : List (Str × V)} (e : H a = some (.ins C dx fs)) (cl : Cls K C) (ha : PySem.W.findIn K (.ref C) "__class__" = some (some (.builtin "object.__class__")))
      (hn : PySem.W.specialIn K (.builtin "object.__class__") "__get__" = some (some (.builtin "getset_descriptor.__get__"))) (htk : PySem.W.takesIn K (.builtin "object.__class__") = some true)
      (hm : PySem.W.mroIn K C (.type "object") = some true) : TyOf K H (.ref a) (.ref C)
theorem isinst_ok {x : V} {u t : Value} (I : Inv X pins σ H s) (rx : RelV x u) (ty : TyOf X.K H x t) (e : PySem.W.kitOne X.K t c = some b) (h : ∀ tk, Q (.bool b) { s with toks := tk }) :
    wpAny (model X.prog X.w) A (call (.builtin "isinstance") [u, c]) Q E s := by
  cases ty with
  | non => cases (show u = Value.none from rx); exact PySem.W.kia_one PySem.W.kitx_none I.kIn True.intro e (fun z => nomatch z) h
  | bl y => cases (show u = Value.bool y from rx); exact PySem.W.kia_one PySem.W.kitx_bool I.kIn True.intro e (fun z => nomatch z) h
  | int i => obtain ⟨t, q⟩ := (show ∃ t, u = Value.int i t from rx); cases q; exact PySem.W.kia_one PySem.W.kitx_int I.kIn True.intro e (fun z => nomatch z) h
  | str y => obtain ⟨t, q⟩ := (show ∃ t, u = Value.str y t from rx); cases q; exact PySem.W.kia_one PySem.W.kitx_str I.kIn True.intro e (fun z => nomatch z) h
  | flt y => obtain ⟨t, q⟩ := (show ∃ t, u = Value.float y t from rx); cases q; exact PySem.W.kia_one PySem.W.kitx_float I.kIn True.intro e (fun z => nomatch z) h
  | @lst a xs ea =>
    cases (show u = Value.ref a from rx)
    obtain ⟨_, _, n, _, h1⟩ := (show ObjOk X.prog X.w H s.heap a (.lst xs) from I.hok a _ ea)
    exact PySem.W.kia_one PySem.W.kitx_list I.kIn ⟨_, h1, rfl⟩ e (fun z => nomatch z) h
  | @frz a ob xs ea =>
    cases (show u = Value.ref a from rx)
    obtain ⟨_, _, _, n, _, h1⟩ := (show ObjOk X.prog X.w H s.heap a (.frz ob (.lst xs)) from I.hok a _ ea)
    exact PySem.W.kia_one PySem.W.kitx_list I.kIn ⟨_, h1, rfl⟩ e (fun z => nomatch z) h
  | @tup a xs ea =>
    cases (show u = Value.ref a from rx)
    obtain ⟨_, _, _, p⟩ := (show ObjOk X.prog X.w H s.heap a (.tup xs) from I.hok a _ ea)
    obtain ⟨o, h1, h2, _⟩ := p
    exact PySem.W.kia_one PySem.W.kitx_tuple I.kIn ⟨o, h1, h2⟩ e (fun z => nomatch z) h
  | @dK a kvs ea =>
    cases (show u = Value.ref a from rx)
    obtain ⟨_, _, vs, _, p⟩ := (show ObjOk X.prog X.w H s.heap a (.dK kvs) from I.hok a _ ea)
    obtain ⟨o, es, ep, h1, h2, _⟩ := p
    exact PySem.W.kia_one PySem.W.kitx_dict I.kIn ⟨o, h1, h2.1⟩ e (fun z => nomatch z) h
  | @dT a kvs ea =>
    cases (show u = Value.ref a from rx)
    obtain ⟨_, _, xs, _, o, es, ep, h1, h2, _⟩ := (show ObjOk X.prog X.w H s.heap a (.dT kvs) from I.hok a _ ea)
    exact PySem.W.kia_one PySem.W.kitx_dict I.kIn ⟨o, h1, h2.1⟩ e (fun z => nomatch z) h
  | @ins a C dx fs ea cl ha hn htk hm =>
    cases (show u = Value.ref a from rx)
    obtain ⟨mA, O, _⟩ := ins_get I.hok ea
    obtain ⟨od, J, _⟩ := O.look
    exact PySem.W.kia_one (PySem.W.kitx_own (cl.get _) cl.hd ha hn htk hm) I.kIn J e (fun z => nomatch z) h
end
end L2

namespace L2
open PySem PySem.Spec PyProof.Rows

structure Room (k : Nat) (A : Around) : Prop where
  hd : A.handled = none
  dp : A.depth + 3 * k + 5 < recursionLimit
  un : A.units + 16 * k + 200 < cLine
theorem Room.mono {j k : Nat} {A : Around} (r : Room k A) (h : j ≤ k) : Room j A := ⟨r.hd, by have := r.dp; walk_at "o", by have := r.un; walk_at "o"⟩
theorem Room.deeper {k : Nat} {A : Around} (r : Room (k + 1) A) (env : Env) : Room k (A.deeper env) :=
  ⟨r.hd, by have := r.dp; show A.depth + 1 + 3 * k + 5 < _; walk_at "o", by have := r.un; show A.units + 3 + 16 * k + 200 < _; walk_at "o"⟩
theorem Room.depth {k : Nat} {A : Around} (r : Room k A) : A.depth < recursionLimit := by have := r.dp; walk_at "o"
def tNil : TA := fun _ H Q => Q [] H
def tCons (ta : TE) (tr : TA) : TA := fun σ H Q => ta σ H fun x H1 => tr σ H1 fun xs H2 => Q (x :: xs) H2
section
variable {X : Cx} {e : Expr} {es : List Expr} {te : TE} {t : TA} {pos : Pos}
theorem pa_nil : PA X [] tNil := fun _ _ _ _ H Q I h => Calls.spliced_nil ⟨[], H, I, .nil, h⟩
theorem pa_cons (ha : PE X e te) (hr : PA X es t) (hs : starEach (e :: es) X.env = (false, eval e X.env) :: starEach es X.env := by rfl) : PA X (e :: es) (tCons te t) := by
  intro pos pins s σ H Q I h
  rw [hs]
  show wpAny _ _ (spliced ((false, eval e X.env) :: backTo pos (starEach es X.env))) _ _ s
  refine Calls.spliced_cons (thn (ha pins s σ H _ I h) fun u s1 ⟨x, H1, I1, r1, q1⟩ => ?_)
  exact thn (hr pos pins s1 σ H1 _ I1 q1) fun us s2 ⟨xs, H2, I2, r2, q2⟩ => ⟨x :: xs, H2, I2, .cons r1 r2, q2⟩

end

abbrev Sp := List V → Hp → VK → XK → Prop
abbrev CXT := List Env → Hp → Shared → XK → Value → Shared → Prop

structure Env0 (P : Program) (w : World) (K : PySem.W.Frag) (mg : Str → Option Value) (base : Heap) (A : Around) (outer : List Env) (s : Shared) (H : Hp) : Prop where
  frames : A.frames = some outer
  mod : Mod K mg base
  bs : ∀ b o, base.get? b = some o → s.heap.get? b = some o ∧ H b = none
  bsz : base.objs.size ≤ s.heap.objs.size
  funs : s.heap.FunFrames base outer
  frf : ∀ b ∈ frs outer, H b = none
  hok : HOk P w H s.heap
  bare : AllBare s.gens
def CE (outer : List Env) (P : Program) (w : World) (H : Hp) (s : Shared) (Q : VK) (u : Value) (s' : Shared) : Prop :=
  ∃ v H', s'.os = s.os ∧ AllBare s'.gens ∧ Un (frs outer) [] H H' s.heap s'.heap ∧ HOk P w H' s'.heap ∧ RelV v u ∧ Q v H'
def CR (CX : CXT) (outer : List Env) (P : Program) (w : World) (H : Hp) (s : Shared) (Q : VK) (E : XK) (r : Result) (s' : Shared) : Prop :=
  match r with
  | .ok (.ret u) => CE outer P w H s Q u s'
  | .ok _ => False
  | .error e => CX outer H s E e s'
structure FnOk (P : Program) (w : World) (K : PySem.W.Frag) (mg : Str → Option Value) (base : Heap) (CX : CXT) (k : Nat) (f : Addr) (fd : FuncData) (ps : List Str) (sp : Sp) : Prop where
  len : ∀ vs H Q E, sp vs H Q E → vs.length = ps.length
  run : ∀ (A : Around) (outer : List Env) (s : Shared) (H : Hp) (args : Args) (us : List Value) (vs : List V) (Q : VK) (E : XK), Room k A → Env0 P w K mg base A outer s H → BindsTo s fd args (ps.zip us) → Vals vs us → sp vs H Q E →
    codeAny (model P w) A (.call (.ref f) args) (CR CX outer P w H s Q E) s
section
variable {X : Cx} {pins : List (Addr × Obj)} {σ : St} {H : Hp} {s s' : Shared}
theorem Inv.env0 (I : Inv X pins σ H s) : Env0 X.prog X.w X.K X.mg X.base X.A X.stack s H :=
  ⟨I.ok.frames, I.ok.mod, I.bs, Nat.le_trans I.ok.bsz I.sz, I.stack, I.stkFree, I.hok, I.bare⟩
theorem Inv.after {Q : VK} {u : Value} (I : Inv X pins σ H s) (h : CE X.stack X.prog X.w H s Q u s') : EP X pins σ Q u s' := by
  obtain ⟨v, H', os, bare, un, hok, r, q⟩ := h
  obtain ⟨hh, g, d, t, os'⟩ := s'
  obtain rfl : os' = s.os := os
  exact ⟨v, H', I.call (h' := hh) (g' := g) (d' := d) (t' := t) (ch := []) un hok bare (fun b z => absurd z (by simp)), r, q⟩
end

def tCall (sp : Sp) (dvs : List V) (E : XK) (t : TA) : TE := fun σ H Q => t σ H fun vs H1 => sp (vs ++ dvs) H1 Q E
def Binds (K : PySem.W.Frag) (fd : FuncData) (ps : List Str) (ds : List Value) : Prop :=
  ∀ (s : Shared) (us : List Value), K.In s.heap → (us ++ ds).length = ps.length → BindsTo s fd ⟨us, []⟩ (ps.zip (us ++ ds))
theorem Binds.all {K : PySem.W.Frag} {fd : FuncData} {ps : List Str} (h : ∀ us : List Value, us.length = ps.length → bindArgs fd ⟨us, []⟩ = pure (ps.zip us)) : Binds K fd ps [] := fun s us _ hl => by
  rw [List.append_nil] at hl ⊢
  exact .of_eq (h us hl)

def Passes (CX : CXT) (X : Cx) (E : XK) : Prop := ∀ (pins : List (Addr × Obj)) (σ : St) (H : Hp) (s : Shared) (e : Value) (s' : Shared), Inv X pins σ H s → CX X.stack H s E e s' → X.xe e s'

section
variable {X : Cx} {CX : CXT} {k : Nat} {f C : Addr} {fd : FuncData} {ps : List Str} {sp : Sp} {dvs : List V} {ds : List Value} {E : XK} {x m : Str} {p pos apos : Pos} {e o : Expr} {es : List Expr} {ta : TE} {t : TA}

theorem run_fn {pins : List (Addr × Obj)} {σ : St} {H : Hp} {s : Shared} {Q : VK} {us : List Value} {vs : List V} (F : FnOk X.prog X.w X.K X.mg X.base CX k f fd ps sp) (hr : Room k X.A) (hb : Binds X.K fd ps ds) (hd : Vals dvs ds) (hx : Passes CX X E)
    (I : Inv X pins σ H s) (r : Vals vs us) (h : sp (vs ++ dvs) H Q E) : wpAny (model X.prog X.w) X.A (call (.ref f) us) (EP X pins σ Q) X.xe s := by
  have r2 : Vals (vs ++ dvs) (us ++ ds) := r.append hd
  have hl : (us ++ ds).length = ps.length := by rw [← r2.length]; exact F.len _ _ _ _ h
  refine wpAny_call (codeAny_mono (F.run X.A X.stack s H ⟨us, []⟩ (us ++ ds) (vs ++ dvs) Q E hr I.env0 (hb s us I.kIn hl) r2 h) fun r s' hq => ?_)
  cases r with
  | error e => exact hx pins σ H s e s' I hq
  | ok fl =>
    cases fl with
    | ret u => exact I.after hq
    | next => exact False.elim hq
    | brk => exact False.elim hq
    | cont => exact False.elim hq

theorem pe_call (F : FnOk X.prog X.w X.K X.mg X.base CX k f fd ps sp) (hr : Room k X.A) (hg : Gl X x) (hm : X.mg x = some (.ref f)) (hk : PySem.W.keepIn X.K (.ref f) = true) (hb : Binds X.K fd ps ds) (hd : Vals dvs ds) (hx : Passes CX X E)
    (ha : PA X (e :: es) t) (hdb : (x == ("__debug__" : Str)) = false := by decide) (he : starEach (e :: es) X.env = (false, eval e X.env) :: starEach es X.env := by rfl) (hpl : (backTo pos (starEach es X.env)).any (·.1) = false := by rfl) :
    PE X (.Call (.Name x p) (e :: es) [] pos) (tCall sp dvs E t) := by
  intro pins s σ H Q I h
  refine wpAny_Call_Name_kw (ld_glob I hg hm ?_ hdb)
  refine PySem.W.callWith_K (h₀ := X.base) I.ok.mod.kin hk (thn (ha pos pins s σ H _ I h) fun us s1 ⟨vs, H1, I1, r, q⟩ => ⟨I1.kIn, ?_⟩) he hpl
  exact run_fn F hr hb hd hx I1 r q
end

section
variable {X : Cx} {CX : CXT} {k : Nat} {f C : Addr} {fd : FuncData} {ps ks : List Str} {sp : Sp} {E : XK} {x m : Str} {p pos apos kpos : Pos} {e o : Expr} {es : List Expr} {kws : List Keyword} {te ta : TE} {t tk : TA} {nm : Option Str}
variable {g : List Value → List Value → List Value} {gV : List V → List V → List V}
end

structure FnScope (N P : List Str) (sc : Scope) : Prop where
  kind : sc.kind = .function
  co : sc.isCoroutine = false
  gen : sc.isGenerator = false
  nd : N.Nodup
  pre : N.take P.length = P
  par : ∀ x ∈ P, sc.names.lookup x = some .local ∨ sc.names.lookup x = some .cell
  nofree : ∀ y ∈ sc.names, y.2 ≠ .free

theorem bindL_out {kindOf : Str → Option NameKind} {x : Str} : ∀ {binds : List (Str × Value)} {m : Str → Option Value}, (∀ v, (x, v) ∉ binds) → bindL kindOf binds m x = m x
  | [], _, _ => rfl
  | (n, v) :: r, m, h => by
    unfold bindL
    rw [bindL_out fun w hw => h w (List.mem_cons_of_mem _ hw)]
    split
    · have : x ≠ n := by rintro rfl; exact h v List.mem_cons_self
      simp [this]
    · rfl
theorem bindC_out {kindOf : Str → Option NameKind} {x : Str} : ∀ {binds : List (Str × Value)} {m : Str → Option Value}, (∀ v, (x, v) ∉ binds) → bindC kindOf binds m x = m x
  | [], _, _ => rfl
  | (n, v) :: r, m, h => by
    unfold bindC
    rw [bindC_out fun w hw => h w (List.mem_cons_of_mem _ hw)]
    split
    · rfl
    · have : x ≠ n := by rintro rfl; exact h v List.mem_cons_self
      simp [this]
theorem bindL_get {kindOf : Str → Option NameKind} {x : Str} {v : Value} : ∀ {P : List Str} {vs : List Value} {i : Nat} {m : Str → Option Value}, P.Nodup → P[i]? = some x → vs[i]? = some v → kindOf x = some .local →
    bindL kindOf (P.zip vs) m x = some v
  | [], _, _, _, _, h, _, _ => by simp at h
  | _ :: _, [], _, _, _, _, h, _ => by simp at h
  | p :: P, w :: vs, 0, m, nd, h1, h2, hk => by
    simp at h1 h2; subst h1; subst h2
    show bindL kindOf ((p, w) :: P.zip vs) m p = _
    unfold bindL
    rw [bindL_out fun v hv => (List.nodup_cons.mp nd).1 (List.of_mem_zip hv).1, if_pos hk]
    simp
  | p :: P, w :: vs, i + 1, m, nd, h1, h2, hk => by
    show bindL kindOf ((p, w) :: P.zip vs) m x = _
    unfold bindL
    exact bindL_get (i := i) (List.nodup_cons.mp nd).2 (by simpa using h1) (by simpa using h2) hk
theorem bindC_get {kindOf : Str → Option NameKind} {x : Str} {v : Value} : ∀ {P : List Str} {vs : List Value} {i : Nat} {m : Str → Option Value}, P.Nodup → P[i]? = some x → vs[i]? = some v → kindOf x ≠ some .local →
    bindC kindOf (P.zip vs) m x = some v
  | [], _, _, _, _, h, _, _ => by simp at h
  | _ :: _, [], _, _, _, _, h, _ => by simp at h
  | p :: P, w :: vs, 0, m, nd, h1, h2, hk => by
    simp at h1 h2; subst h1; subst h2
    show bindC kindOf ((p, w) :: P.zip vs) m p = _
    unfold bindC
    rw [bindC_out fun v hv => (List.nodup_cons.mp nd).1 (List.of_mem_zip hv).1, if_neg hk]
    simp
  | p :: P, w :: vs, i + 1, m, nd, h1, h2, hk => by
    show bindC kindOf ((p, w) :: P.zip vs) m x = _
    unfold bindC
    exact bindC_get (i := i) (List.nodup_cons.mp nd).2 (by simpa using h1) (by simpa using h2) hk

def start (N : List Str) (vs : List V) : St := vs.map some ++ List.replicate (N.length - vs.length) none

def cxOf (CX : CXT) (P : Program) (w : World) (K : PySem.W.Frag) (mg : Str → Option Value) (base : Heap) (N : List Str) (qual : Str) (scope : Scope) (f : Addr) (cd : Value) (A : Around) (outer : List Env) (s : Shared) (H : Hp) (E : XK) : Cx where
  prog := P
  w := w
  K := K
  mg := mg
  base := base
  A := A.deeper (envOfC qual scope s.heap.objs.size f cd)
  N := N
  s₀ := s
  H₀ := H
  env := envOfC qual scope s.heap.objs.size f cd
  outer := outer
  stack := envOfC qual scope s.heap.objs.size f cd :: outer
  ex := []
  calm := true
  fn := fun _ => true
  pn := []
  xe := fun e s' => wpAny (model P w) (A.deeper (envOfC qual scope s.heap.objs.size f cd)) (leaving (envOfC qual scope s.heap.objs.size f cd) e) (fun _ s'' => CX outer H s E e s'') (fun e' s'' => CX outer H s E e' s'') s'

theorem cell_has {sc : Scope} {n : Nat} {x : Str} (h : sc.names.lookup x = some .cell) : ∃ c, (cellsFrom n sc.names []).lookup x = some c := by
  have q := PySem.W.cellsFrom_some sc.names n [] (.inl h)
  exact Option.isSome_iff_exists.mp q

theorem inv_start {CX : CXT} {P : Program} {w : World} {K : PySem.W.Frag} {mg : Str → Option Value} {base : Heap} {N ps : List Str} {qual : Str} {scope : Scope} {f : Addr} {cd : Value} {A : Around} {outer : List Env} {s s1 : Shared} {H : Hp} {E : XK} {us : List Value} {vs : List V}
    (S : FnScope N ps scope) (hd : A.handled = none) (e0 : Env0 P w K mg base A outer s H) (hl : vs.length = ps.length) (r : Vals vs us)
    (x : InCallC s s.heap.objs.size (bindL (envOfC qual scope s.heap.objs.size f cd).kindOf (ps.zip us) fun _ => none) (cellsFrom (s.heap.objs.size + 1) scope.names []) (bindC (envOfC qual scope s.heap.objs.size f cd).kindOf (ps.zip us) fun _ => none) s1) :
    Inv (cxOf CX P w K mg base N qual scope f cd A outer s H E) [] (start N vs) H s1 := by
  have hpl : ps.length ≤ N.length := by have := congrArg List.length S.pre; rw [List.length_take] at this; walk_at "o"
  obtain ⟨h1, tk, rfl, hk⟩ := x.done
  have noA : ∀ b : Addr, b ∉ (cxOf CX P w K mg base N qual scope f cd A outer s H E).ex := fun b z => absurd (show b ∈ ([] : List Addr) from z) (by simp)
  refine ⟨⟨e0.mod, S.kind, rfl, rfl, Nat.le_refl _, fun y z c h1 h2 => ?_, fun y hy => ?_, fun y c _ h => ?_, fun _ => hd, Around.frames_deeper e0.frames, .inr ⟨rfl, rfl⟩, fun b z => absurd z (noA b), e0.bs, e0.bsz, fun b _ _ => noA b, fun b z => absurd z (noA b), e0.funs, e0.frf⟩,
    rfl, e0.bare, Un.kept hk, ⟨_, x.toInCall.ns, fun i y v h1 h2 h3 => ?_⟩, fun y c h => ⟨_, x.cell y c h⟩, e0.hok.fresh (Nat.le_refl _), fun y c h => ?_, fun p hp => absurd (show p ∈ ([] : List (Addr × Obj)) from hp) (by simp), e0.hok.kept hk, ?_⟩
  · exact name_of_addr x.apart (PySem.mem_of_lookup h1) (PySem.mem_of_lookup h2)
  · have hy : scope.names.lookup y = some .cell ∨ scope.names.lookup y = some .free := hy
    rcases hy with hy | hy
    · exact cell_has hy
    · exact absurd rfl (S.nofree _ (PySem.mem_of_lookup hy))
  · exact Nat.le_of_lt (x.above y c (PySem.mem_of_lookup h))
  · have hi : i < vs.length := by
      unfold start at h2
      by_cases hi : i < vs.length
      · exact hi
      · rw [List.getElem?_append_right (by simpa using hi)] at h2
        rw [List.getElem?_replicate] at h2
        split at h2 <;> cases h2
    have ha : vs[i]? = some v := by
      unfold start at h2
      rw [List.getElem?_append_left (by simpa using hi), List.getElem?_map] at h2
      cases e : vs[i]? with
      | none => rw [e] at h2; cases h2
      | some a => rw [e] at h2; cases h2; rfl
    obtain ⟨u, hu, rv⟩ := r.get ha
    have hp : ps[i]? = some y := by
      rw [← S.pre, List.getElem?_take_of_lt (by walk_at "o")]; exact h1
    have ndP : ps.Nodup := by rw [← S.pre]; exact S.nd.sublist (List.take_sublist _ _)
    refine ⟨u, rv, ?_⟩
    rcases S.par y (List.mem_of_getElem? hp) with k | k
    · exact .inl ⟨k, bindL_get ndP hp hu k⟩
    · obtain ⟨c, e⟩ := cell_has (n := s.heap.objs.size + 1) k
      refine .inr ⟨.inl k, c, e, ?_⟩
      have q := x.cell y c e
      rw [bindC_get ndP hp hu (by show scope.names.lookup y ≠ _; rw [k]; decide)] at q
      exact q
  · exact e0.hok.fresh (Nat.le_of_lt (x.above y c (PySem.mem_of_lookup h)))
  · unfold start
    show _ = N.length
    rw [List.length_append, List.length_map, List.length_replicate]
    walk_at "o"

theorem fn_of {CX : CXT} {P : Program} {w : World} {K : PySem.W.Frag} {mg : Str → Option Value} {base : Heap} {k : Nat} {f : Addr} {name qual : Str} {params : Arguments} {body : List Stmt} {scope : Scope} {dV kV doc pm cdv ct oc : Value} {an od : Option Addr}
    {osl : Array (Option Value)} {N ps : List Str} {sp : Sp} (lk : K.lookup f = some ⟨oc, od, .func (PySem.W.fnOf name qual params body scope dV kV doc pm an cdv ct), osl⟩) (hcd : PySem.W.codeIn K cdv qual = true) (S : FnScope N ps scope)
    (len : ∀ vs H Q E, sp vs H Q E → vs.length = ps.length)
    (hbody : ∀ (A : Around) (outer : List Env) (s : Shared) (H : Hp) (vs : List V) (Q : VK) (E : XK), Room k (A.deeper (envOfC qual scope s.heap.objs.size f cdv)) → sp vs H Q E →
      ∃ t, PSs (cxOf CX P w K mg base N qual scope f cdv A outer s H E) body t ∧ t { nx := fun _ H' => Q .non H', rt := Q } (start N vs) H) :
    FnOk P w K mg base CX (k + 1) f (PySem.W.fnOf name qual params body scope dV kV doc pm an cdv ct) ps sp := by
  refine ⟨len, fun A outer s H args us vs Q E hr e0 hb r hsp => ?_⟩
  have hl := len _ _ _ _ hsp
  have KX : K.In s.heap := e0.mod.kin.keeps fun b o e => (e0.bs b o e).1
  have lim : s.heap.NoLimit := e0.mod.nolimit.keeps fun b o e => (e0.bs b o e).1
  have hkind : ∀ y ∈ ps.zip us, scope.names.lookup y.1 = some .local ∨ (scope.names.lookup y.1 = some .cell ∧ ((cellsFrom (s.heap.objs.size + 1) scope.names []).lookup y.1).isSome = true) := fun ⟨n, v⟩ hy => by
    rcases S.par n (List.of_mem_zip hy).1 with q | q
    · exact .inl q
    · exact .inr ⟨q, PySem.W.cellsFrom_some _ _ _ (.inl q)⟩
  refine codeAny_call_function hr.depth (KX _ _ lk) rfl S.co S.gen rfl (PySem.W.codeRec_of KX hcd) (hb _ _ _ _ ?_)
  refine wpAny_newFunctionEnv_cells S.kind hkind fun env he s1 x => ?_
  subst he
  refine ⟨lim.keeps x.toInCall.keep, codeAny_func ?_⟩
  obtain ⟨t, ht, hq⟩ := hbody A outer s H vs Q E (hr.deeper _) hsp
  have I : Inv (cxOf CX P w K mg base N qual scope f cdv A outer s H E) [] (start N vs) H s1 := inv_start S hr.hd e0 hl r x
  refine wpAny_mono (ht [] s1 (start N vs) H _ I hq) (fun fl s' hs => ?_) fun e s' hs => hs
  have fin : ∀ {σ' : St} {H' : Hp} {v : V} {u : Value}, Inv (cxOf CX P w K mg base N qual scope f cdv A outer s H E) [] σ' H' s' → RelV v u → Q v H' → CE outer P w H s Q u s' :=
    fun {σ' H' v u} J rv q => ⟨v, H', J.os, J.bare, J.base, J.hok, rv, q⟩
  cases fl with
  | ret u =>
    obtain ⟨v, σ', H', J, rv, q⟩ := hs
    exact fin J rv q
  | next =>
    obtain ⟨σ', H', J, q⟩ := hs
    exact fin (v := V.non) (u := Value.none) J rfl q
  | brk =>
    obtain ⟨_, _, _, q⟩ := hs
    exact False.elim q
  | cont =>
    obtain ⟨_, _, _, q⟩ := hs
    exact False.elim q
end L2

namespace L2
open PySem PySem.Spec PyProof.Rows
section
variable {X : Cx} {x : Str} {p pos : Pos} {e : Expr} {es : List Expr} {t : TA} {id T : String} {r : List V → Hp → VK → Prop}

def tCB (r : List V → Hp → VK → Prop) (t : TA) : TE := fun σ H Q => t σ H fun vs H1 => r vs H1 Q
theorem pe_callB (hc : CallR X (.builtin id) r) (hg : Gl X x) (hm : X.mg x = none) (hv : bootBuiltins x = some (.builtin id)) (ha : PA X (e :: es) t) (hn : x ≠ "__name__" := by decide) (hdb : (x == ("__debug__" : Str)) = false := by decide)
    (he : starEach (e :: es) X.env = (false, eval e X.env) :: starEach es X.env := by rfl) (hpl : (backTo pos (starEach es X.env)).any (·.1) = false := by rfl) : PE X (.Call (.Name x p) (e :: es) [] pos) (tCB r t) := by
  intro pins s σ H Q I h
  refine wpAny_Call_Name_kw (ld_blt I hg hm hv ?_ hn hdb)
  exact PyProof.Rows.callWith_builtin1 (thn (ha pos pins s σ H _ I h) fun us s1 ⟨vs, H1, I1, r1, q1⟩ => hc pins s1 σ H1 vs us Q I1 r1 q1) he hpl
theorem pe_callTy (hc : CallR X (.type T) r) (hg : Gl X x) (hm : X.mg x = none) (hv : bootBuiltins x = some (.type T)) (ha : PA X (e :: es) t) (hn : x ≠ "__name__" := by decide) (hdb : (x == ("__debug__" : Str)) = false := by decide)
    (he : starEach (e :: es) X.env = (false, eval e X.env) :: starEach es X.env := by rfl) (hpl : (backTo pos (starEach es X.env)).any (·.1) = false := by rfl) : PE X (.Call (.Name x p) (e :: es) [] pos) (tCB r t) := by
  intro pins s σ H Q I h
  refine wpAny_Call_Name_kw (ld_blt I hg hm hv ?_ hn hdb)
  exact PyProof.Rows.callWith_type1 (thn (ha pos pins s σ H _ I h) fun us s1 ⟨vs, H1, I1, r1, q1⟩ => hc pins s1 σ H1 vs us Q I1 r1 q1) he hpl
end
end L2

namespace HT
open PySem PyProof.Rows

section
open PySem.SeqAt
open PySem.AutoSeq1 (wpAny_loadPart')
open PySem.MeetsSeq PySem.MeetsSeq2 PySem.MeetsSeq3

end

section
variable {prog : Program} {w : World} {A : Around} {E : Value → Shared → Prop} {s : Shared}

def sIx (n d : Nat) : Option Int → Nat
  | none => d
  | some v => if v < 0 then (v + (n : Int)).toNat else min v.toNat n
theorem sIx_nat (n d k : Nat) : sIx n d (some (k : Int)) = min k n := by
  show (if (k : Int) < 0 then ((k : Int) + (n : Int)).toNat else min (k : Int).toNat n) = min k n
  rw [if_neg (by walk_at "o"), Int.toNat_natCast]
end
end HT

namespace L2
open PySem PySem.Spec PyProof.Rows

abbrev TO := St → Hp → (Option Int → Hp → Prop) → Prop
def PO (X : Cx) (e : Option Expr) (t : TO) : Prop :=
  ∀ (pins : List (Addr × Obj)) (s : Shared) (σ : St) (H : Hp) (Q : Option Int → Hp → Prop), Inv X pins σ H s → t σ H Q →
    wpAny (model X.prog X.w) X.A (evalPart e X.env) (fun u s' => ∃ o H', Inv X pins σ H' s' ∧ IsPart u o ∧ Q o H') X.xe s
def tNoPart : TO := fun _ H Q => Q none H
def tPart (t : TE) : TO := fun σ H Q => t σ H fun x H1 => ∃ i, x = .int i ∧ Q (some i) H1

section
variable {X : Cx} {e : Expr} {te : TE} {lo hi : Option Expr} {tl th : TO} {pos p2 : Pos}

theorem po_none : PO X none tNoPart := by
  intro pins s σ H Q I h
  rw [evalPart_none]
  exact wpAny_pure ⟨none, H, I, .none, h⟩
theorem po_some (h : PE X e te) : PO X (some e) (tPart te) := by
  intro pins s σ H Q I hw
  rw [evalPart_some]
  refine thn (h pins s σ H _ I hw) fun u s1 ⟨x, H1, I1, r1, q1⟩ => ?_
  obtain ⟨i, rfl, q⟩ := q1
  obtain ⟨t, rfl⟩ := r1
  exact ⟨some i, H1, I1, .int i t, q⟩

def SlR (X : Cx) (r : V → Option Int → Option Int → Hp → VK → Prop) : Prop :=
  ∀ (pins : List (Addr × Obj)) (s : Shared) (σ : St) (H : Hp) (x : V) (v vl vu : Value) (lo hi : Option Int) (sl : Addr) (Q : VK), Inv X pins σ H s → RelV x v → s.heap.IsSliceOf sl vl vu .none → IsPart vl lo → IsPart vu hi → r x lo hi H Q →
    ∃ T id, typeLookup (.type T) "__getitem__" = pure (some (.builtin id)) ∧ s.TypeIs v T ∧ wpAny (model X.prog X.w) X.A (getItem v (.ref sl)) (EP X pins σ Q) X.xe s
def tSl (r : V → Option Int → Option Int → Hp → VK → Prop) (te : TE) (tl th : TO) : TE := fun σ H Q => te σ H fun x H1 => tl σ H1 fun l H2 => th σ H2 fun u H3 => r x l u H3 Q
theorem pe_slice {r : V → Option Int → Option Int → Hp → VK → Prop} (hr : SlR X r) (he : PE X e te) (hl : PO X lo tl) (hu : PO X hi th) : PE X (.Subscript e (.Slice lo hi none p2) pos) (tSl r te tl th) := by
  intro pins s σ H Q I h
  refine Subscript_ (thn (he pins s σ H _ I h) fun v s1 ⟨x, H1, I1, r1, q1⟩ => ?_)
  refine wpAny_Slice (thn (hl pins s1 σ H1 _ I1 q1) fun vl s2 ⟨l, H2, I2, pl, q2⟩ => thn (hu pins s2 σ H2 _ I2 q2) fun vu s3 ⟨u, H3, I3, pu, q3⟩ => ?_)
  rw [evalPart_none]
  refine wpAny_pure ?_
  have I4 : Inv X pins σ H3 { s3 with heap := s3.heap.push { cls := .type "slice", data := .fields #[vl, vu, .none] } } := I3.kept (t' := s3.toks) fun b ob q => Heap.get?_push_of_some _ q
  obtain ⟨T, id, hT, ht, hg⟩ := hr pins { s3 with heap := s3.heap.push { cls := .type "slice", data := .fields #[vl, vu, .none] } } σ H3 x v vl vu l u s3.heap.objs.size Q I4 r1 (Heap.IsSliceOf.new ..) pl pu q3
  show wpAny (model X.prog X.w) X.A (subscriptTail e (.Slice lo hi none p2) v (.ref s3.heap.objs.size)) (EP X pins σ Q) X.xe { s3 with heap := s3.heap.push { cls := .type "slice", data := .fields #[vl, vu, .none] } }
  exact tail_any (ops := [.ref s3.heap.objs.size, v]) ht hT hg (by with_unfolding_all rfl)

def cutV (xs : List V) (lo hi : Option Int) : List V := (xs.drop (HT.sIx xs.length 0 lo)).take (HT.sIx xs.length xs.length hi - HT.sIx xs.length 0 lo)
theorem cutV_length (xs : List V) (lo hi : Option Int) : (cutV xs lo hi).length ≤ xs.length := by
  unfold cutV
  rw [List.length_take, List.length_drop]
  walk_at "o"
end
end L2

namespace L2
open PySem PySem.Spec PyProof.Rows

def ixN (n : Nat) (i : Int) : Option Nat := if 0 ≤ i then (if i < n then some i.toNat else none) else if -(n : Int) ≤ i then some (i + n).toNat else none
def atI {α : Type} (xs : List α) (i : Int) : Option α := (ixN xs.length i).bind fun j => xs[j]?
theorem ixN_seq {n : Nat} {i : Int} {j : Nat} (h : ixN n i = some j) : seqIndex? i n = some j ∧ j < n ∧ -(n : Int) ≤ i ∧ i < n := by
  unfold ixN at h
  by_cases h0 : 0 ≤ i
  · rw [if_pos h0] at h
    by_cases h1 : i < n
    · rw [if_pos h1] at h
      have e : i.toNat = j := Option.some.inj h
      exact ⟨by rw [seqIndex_of h0 h1, e], by walk_at "o", by walk_at "o", h1⟩
    · rw [if_neg h1] at h; cases h
  · rw [if_neg h0] at h
    by_cases h1 : -(n : Int) ≤ i
    · rw [if_pos h1] at h
      have e : (i + n).toNat = j := Option.some.inj h
      exact ⟨by rw [seqIndex_neg (by walk_at "o") h1, e], by walk_at "o", h1, by walk_at "o"⟩
    · rw [if_neg h1] at h; cases h
theorem atI_get {α : Type} {xs : List α} {i : Int} {v : α} (h : atI xs i = some v) : ∃ j, seqIndex? i xs.length = some j ∧ xs[j]? = some v ∧ j < xs.length ∧ -(xs.length : Int) ≤ i ∧ i < xs.length := by
  unfold atI at h
  cases e : ixN xs.length i with
  | none => rw [e] at h; cases h
  | some j =>
    rw [e] at h
    obtain ⟨h1, h2, h3, h4⟩ := ixN_seq e
    exact ⟨j, h1, h, h2, h3, h4⟩
theorem atI_nat {α : Type} {xs : List α} {j : Nat} {v : α} (h : xs[j]? = some v) : atI xs (j : Int) = some v := by
  have hj : j < xs.length := (List.getElem?_eq_some_iff.mp h).1
  have e : ixN xs.length (j : Int) = some j := by
    unfold ixN
    rw [if_pos (by walk_at "o"), if_pos (by walk_at "o")]; simp
  unfold atI; rw [e]; exact h
def PlainIx (b : Expr) : Prop := ∀ o i, subscripted b false o i = operate [o, i] (getItem o i)
def IxR (X : Cx) (r : R2) : Prop :=
  ∀ (value slice : Expr) (pins : List (Addr × Obj)) (s : Shared) (σ : St) (H : Hp) (x y : V) (v u : Value) (Q : VK), Inv X pins σ H s → RelV x v → RelV y u → r x y H Q →
    subscripted slice false v u = operate [v, u] (getItem v u) → wpAny (model X.prog X.w) X.A (subscriptTail value slice v u) (EP X pins σ Q) X.xe s
def MtR (X : Cx) (id : String) (r : V → List V → Hp → VK → Prop) : Prop :=
  ∀ (pins : List (Addr × Obj)) (s : Shared) (σ : St) (H : Hp) (x : V) (xs : List V) (v : Value) (us : List Value) (Q : VK), Inv X pins σ H s → RelV x v → Vals xs us → r x xs H Q →
    wpAny (model X.prog X.w) X.A (call (.builtin id) (v :: us)) (EP X pins σ Q) X.xe s
section
variable {X : Cx} {a b : Expr} {ta tb : TE} {pos : Pos}
theorem pe_ix {r : R2} (hr : IxR X r) (ha : PE X a ta) (hb : PE X b tb) (hs : PlainIx b) : PE X (.Subscript a b pos) (tOp r ta tb) := by
  intro pins s σ H Q I h
  exact Subscript_ (binT ha hb I h fun v u s2 x y H2 I2 rx ry q => hr a b pins s2 σ H2 x y v u Q I2 rx ry q (hs _ _))

def rIxL (K : PySem.W.Frag) : R2 := fun x y H Q => ∃ p xs i v, x = .ref p ∧ y = .int i ∧ SqL K H p xs ∧ atI xs i = some v ∧ Q v H
def rIxT (K : PySem.W.Frag) : R2 := fun x y H Q => ∃ p xs i v, x = .ref p ∧ y = .int i ∧ SqT K H p xs ∧ atI xs i = some v ∧ Q v H
theorem ix_list : IxR X (rIxL X.K) := by
  intro value slice pins s σ H x y v u Q I rx ry h hs
  obtain ⟨p, xs, i, z, rfl, rfl, hq, he, q⟩ := h
  cases rx
  obtain ⟨t, rfl⟩ := ry
  obtain ⟨its, r, pl, hz⟩ := I.list hq
  obtain ⟨j, h1, h2, h3, h4, h5⟩ := atI_get he
  obtain ⟨w, ew, rw'⟩ := r.get h2
  have hl := r.length
  have hn := line63
  have fin : EP X pins σ Q w s := ⟨z, H, I, rw', q⟩
  by_cases h0 : 0 ≤ i
  · have hj : i.toNat = j := by
      rw [seqIndex_of h0 h5] at h1
      exact Option.some.inj h1
    exact item_listR pl.isList h0 (by walk_at "o") (by rw [hj]; simpa using ew) fin hs
  · have hj : (i + (its.toArray.size : Int)).toNat = j := by
      rw [seqIndex_neg (by walk_at "o") h4] at h1
      rw [List.size_toArray, ← hl]
      exact Option.some.inj h1
    exact subscriptTail_builtinR (x := w) pl.isList.typeIs slot_list_getitem.lookup
      (wpAny_getItem_list_neg (Q := fun r s' => r = w ∧ EP X pins σ Q r s') pl.isList (by walk_at "o") (by rw [List.size_toArray] <;> walk_at "o") (by walk_at "o") (by rw [hj]; simpa using ew) ⟨rfl, fin⟩) hs
theorem ix_tup : IxR X (rIxT X.K) := by
  intro value slice pins s σ H x y v u Q I rx ry h hs
  obtain ⟨p, xs, i, z, rfl, rfl, hq, he, q⟩ := h
  cases rx
  obtain ⟨t, rfl⟩ := ry
  obtain ⟨its, r, pl, hz⟩ := I.tuple hq
  obtain ⟨j, h1, h2, h3, h4, h5⟩ := atI_get he
  obtain ⟨w, ew, rw'⟩ := r.get h2
  have hl := r.length
  have hn := line63
  have fin : EP X pins σ Q w s := ⟨z, H, I, rw', q⟩
  exact subscriptTail_builtinR (x := w) pl.typeIs slot_tuple_getitem.lookup
    (getItem_tuple (j := j) (Q := fun r s' => r = w ∧ EP X pins σ Q r s') pl (by walk_at "o") (by walk_at "o") (by rw [List.size_toArray, ← hl]; exact h1) (by simpa using ew) ⟨rfl, fin⟩) hs
theorem mapSeq_set (its : List Value) (n j : Nat) (u : Value) : Obj.mapSeq (·.setIfInBounds j u) { cls := .type "list", data := .seq its.toArray n } = { cls := .type "list", data := .seq (its.set j u).toArray n } := by
  simp [Obj.mapSeq]
theorem Inv.lst {pins : List (Addr × Obj)} {σ : St} {H : Hp} {s : Shared} {p : Addr} {xs : List V} (I : Inv X pins σ H s) (h : H p = some (.lst xs)) :
    ∃ (its : List Value) (n : Nat), Vals xs its ∧ s.heap.get? p = some { cls := .type "list", data := .seq its.toArray n } ∧ xs.length ≤ sizeLine := by
  obtain ⟨z, its, n, r, e⟩ := I.hok p _ h
  exact ⟨its, n, r, e, z⟩
theorem Inv.lstUpd {pins : List (Addr × Obj)} {σ : St} {H : Hp} {s : Shared} {p : Addr} {xs ys : List V} {its its' : List Value} {n n' : Nat} {f : Obj → Obj} (I : Inv X pins σ H s) (h : H p = some (.lst xs))
    (ho : s.heap.get? p = some { cls := .type "list", data := .seq its.toArray n }) (hf : f { cls := .type "list", data := .seq its.toArray n } = { cls := .type "list", data := .seq its'.toArray n' }) (r : Vals ys its') (hz : ys.length ≤ sizeLine) (t : Nat) :
    Inv X pins σ (upd H p (.lst ys)) { s with heap := s.heap.update p f, toks := t } := by
  have e : (s.heap.update p f).get? p = some { cls := .type "list", data := .seq its'.toArray n' } := by
    rw [Heap.get?_update_self f ho (by rw [hf] <;> rfl), hf]
  refine I.write (x := p) (e := p) (by rw [h]; trivial) (.inl rfl) (fun b u hb q => (Heap.get?_update_other _ _ (Ne.symm hb)).trans q) ⟨_, e⟩ ?_
  exact ⟨hz, its', n', r, e⟩
def rSetL : V → V → V → Hp → (Hp → Prop) → Prop := fun o i v H Q => ∃ p xs k j, o = .ref p ∧ i = .int k ∧ H p = some (.lst xs) ∧ ixN xs.length k = some j ∧ Q (upd H p (.lst (xs.set j v)))
theorem set_list : PSet X rSetL := by
  intro pins s σ H o i v ov iv u Q I ro ri rv h
  obtain ⟨p, xs, k, j, rfl, rfl, hp, hj, q⟩ := h
  cases ro
  obtain ⟨t, rfl⟩ := ri
  obtain ⟨its, n, r, ho, hz⟩ := I.lst hp
  obtain ⟨h1, h2, h3, h4⟩ := ixN_seq hj
  have hl := r.length
  have hn := line63
  have I' : Inv X pins σ (upd H p (.lst (xs.set j v))) { s with heap := s.heap.update p (Obj.mapSeq (·.setIfInBounds j u)) } :=
    I.lstUpd hp ho (mapSeq_set its n j u) (r.set rv j) (by rw [List.length_set]; exact hz) s.toks
  by_cases h0 : 0 ≤ k
  · have hk : k.toNat = j := by
      rw [seqIndex_of h0 h4] at h1
      exact Option.some.inj h1
    exact PySem.W.ki_setAt ho h0 (by walk_at "o") (by rw [List.size_toArray, ← hl]; exact h4) (by rw [hk]; exact ⟨_, I', q⟩)
  · have hk : (k + (its.toArray.size : Int)).toNat = j := by
      rw [seqIndex_neg (by walk_at "o") h3] at h1
      rw [List.size_toArray, ← hl]
      exact Option.some.inj h1
    exact PySem.W.ki_setBack ho (by walk_at "o") (by rw [List.size_toArray, ← hl]; exact h3) (by walk_at "o") (by rw [hk]; exact ⟨_, I', q⟩)

theorem slice_bounds (lo hi : Option Int) (n : Nat) : (sliceBounds lo hi none n).1 = ((HT.sIx n 0 lo : Nat) : Int) ∧ (sliceBounds lo hi none n).2.1 = ((HT.sIx n n hi : Nat) : Int) ∧ (sliceBounds lo hi none n).2.2 = 1 := by
  refine ⟨?_, ?_, rfl⟩
  · cases lo with
    | none => simp [sliceBounds, HT.sIx]
    | some i =>
      simp only [sliceBounds, HT.sIx, Option.getD_none, show (1 : Int) > 0 by decide, if_true]
      by_cases h : i < 0
      · simp only [h, if_true] <;> walk_at "o"
      · simp only [h, if_false] <;> walk_at "o"
  · cases hi with
    | none => simp [sliceBounds, HT.sIx]
    | some i =>
      simp only [sliceBounds, HT.sIx, Option.getD_none, show (1 : Int) > 0 by decide, if_true]
      by_cases h : i < 0
      · simp only [h, if_true] <;> walk_at "o"
      · simp only [h, if_false] <;> walk_at "o"
theorem slicePick_cut (its : List Value) (lo hi : Option Int) : slicePick its.toArray lo hi none = ((its.drop (HT.sIx its.length 0 lo)).take (HT.sIx its.length its.length hi - HT.sIx its.length 0 lo)).toArray := by
  obtain ⟨h1, h2, h3⟩ := slice_bounds lo hi its.toArray.size
  unfold slicePick
  rw [h1, h2, h3]
  simp only [sliceRange_one, pick_run, List.size_toArray] <;> rfl
def rSlL (K : PySem.W.Frag) : V → Option Int → Option Int → Hp → VK → Prop := fun x lo hi H Q => ∃ a xs, x = .ref a ∧ SqL K H a xs ∧ ∀ p, H p = none → Q (.ref p) (upd H p (.lst (cutV xs lo hi)))
theorem sl_list : SlR X (rSlL X.K) := by
  intro pins s σ H x v vl vu lo hi sl Q I rx hs pl pu h
  obtain ⟨a, xs, rfl, hx, q⟩ := h
  cases rx
  obtain ⟨its, r, ht, hz⟩ := I.list hx
  have hlen := r.length
  refine ⟨"list", _, slot_list_getitem.lookup, ht.isList.typeIs, ?_⟩
  refine wpAny_getItem_list_slice ht.isList hs pl pu .none (by simp) ?_ (by rw [List.size_toArray] <;> walk_at "o")
  rw [slicePick_cut, ← hlen]
  refine ⟨.ref s.heap.objs.size, _, I.laid (t' := s.toks) (o := .lst (cutV xs lo hi)) (fun b ob q => Heap.get?_push_of_some _ q) (Nat.le_refl _) ?_, rfl, q _ (I.hok.fresh (Nat.le_refl _))⟩
  exact ⟨Nat.le_trans (cutV_length xs lo hi) hz, _, 0, (r.drop (HT.sIx xs.length 0 lo)).take (HT.sIx xs.length xs.length hi - HT.sIx xs.length 0 lo), Heap.get?_push_size _ rfl⟩

theorem call_len_seq : CallR X (.builtin "len") (fun xs H Q => ∃ p ys, xs = [.ref p] ∧ (SqL X.K H p ys ∨ SqT X.K H p ys) ∧ Q (.int ys.length) H) := by
  intro pins s σ H xs us Q I r h
  obtain ⟨p, ys, rfl, hq, q⟩ := h
  obtain ⟨u, rfl, rx⟩ := vals1 r
  cases rx
  have hn := line63
  rcases hq with hq | hq
  · obtain ⟨its, r', pl, hz⟩ := I.list hq
    have hlen := r'.length
    exact Calls.call_len_list pl.isList (by simp only [List.size_toArray] <;> walk_at "o") ⟨.int ys.length, H, I.tok _, ⟨s.toks + 1, by rw [List.size_toArray, hlen]⟩, q⟩
  · obtain ⟨its, r', pl, hz⟩ := I.tuple hq
    have hlen := r'.length
    exact len_tuple pl (by simp only [List.size_toArray] <;> walk_at "o") ⟨.int ys.length, H, I.tok _, ⟨s.toks + 1, by rw [List.size_toArray, hlen]⟩, q⟩
theorem call_list_of : CallR X (.type "list") (fun xs H Q => ∃ p ys, xs = [.ref p] ∧ (SqL X.K H p ys ∨ SqT X.K H p ys) ∧ ∀ l, H l = none → Q (.ref l) (upd H l (.lst ys))) := by
  intro pins s σ H xs us Q I r h
  obtain ⟨p, ys, rfl, hq, q⟩ := h
  obtain ⟨u, rfl, rx⟩ := vals1 r
  cases rx
  have fin : ∀ (its : List Value), Vals ys its → ys.length ≤ sizeLine → ∀ (h' : Heap) (c' : Nat), (∀ b o', s.heap.get? b = some o' → h'.get? b = some o') →
      h'.get? s.heap.objs.size = some { cls := .type "list", dict := none, data := .seq its.toArray c', slots := #[] } → EP X pins σ Q (.ref s.heap.objs.size) { s with heap := h' } := fun its r' hz h' c' kp e =>
    ⟨.ref s.heap.objs.size, _, I.laid (t' := s.toks) kp (Nat.le_refl _) (show ObjOk X.prog X.w _ h' _ (.lst ys) from ⟨hz, its, c', r', e⟩), rfl, q _ (I.hok.fresh (Nat.le_refl _))⟩
  rcases hq with hq | hq
  · obtain ⟨its, r', pl, hz⟩ := I.list hq
    have hlen := r'.length
    obtain ⟨o, ho, hc, n, hd⟩ := pl.isList
    exact call_list_seq p (.inl rfl) ho hc hd (fun h' c' kp e => fin its r' hz h' c' kp e) (by simp only [List.size_toArray] <;> walk_at "o")
  · obtain ⟨its, r', pl, hz⟩ := I.tuple hq
    have hlen := r'.length
    obtain ⟨o, ho, hc, n, hd⟩ := pl
    exact call_list_seq p (.inr rfl) ho hc hd (fun h' c' kp e => fin its r' hz h' c' kp e) (by simp only [List.size_toArray] <;> walk_at "o")
def tyV (K : PySem.W.Frag) (T : String) (x : V) (H : Hp) : Prop := match x with
  | .str _ => T = "str"
  | .int _ => T = "int"
  | .ref p => (T = "list" ∧ ∃ xs, SqL K H p xs) ∨ (T = "tuple" ∧ ∃ o, K.lookup p = some o ∧ o.cls = .type "tuple" ∧ o.dict = none) ∨
      (T = "dict" ∧ ((∃ kvs, H p = some (.dK kvs)) ∨ ∃ kvs, H p = some (.dT kvs))) ∨ (T = "set" ∧ ∃ S n, H p = some (.set S n))
  | _ => False
theorem tyV_is {pins : List (Addr × Obj)} {σ : St} {H : Hp} {s : Shared} {T : String} {x : V} {v : Value} (I : Inv X pins σ H s) (r : RelV x v) (ty : tyV X.K T x H) :
    s.TypeIs v T ∧ ∀ a, v = .ref a → ∃ ob, s.heap.get? a = some ob ∧ ob.dict = none := by
  cases x with
  | str z =>
    obtain ⟨t, rfl⟩ := r
    cases (show T = "str" from ty)
    exact ⟨typeIs_str s z t, fun _ e => nomatch e⟩
  | int i =>
    obtain ⟨t, rfl⟩ := r
    cases (show T = "int" from ty)
    exact ⟨typeIs_int s i t, fun _ e => nomatch e⟩
  | ref p =>
    cases r
    rcases ty with ⟨rfl, xs, hq⟩ | ⟨rfl, o, hk, hc, hd⟩ | ⟨rfl, hk⟩ | ⟨rfl, S, n, hk⟩
    · obtain ⟨its, _, pl, _⟩ := I.list hq
      refine ⟨pl.isList.typeIs, fun a e => ?_⟩
      cases e
      obtain ⟨o, n, e, c, hd, _⟩ := pl
      exact ⟨o, e, hd⟩
    · refine ⟨⟨o, I.kIn p o hk, hc⟩, fun a e => ?_⟩
      cases e
      exact ⟨o, I.kIn _ o hk, hd⟩
    · have z : ∃ o, s.heap.get? p = some o ∧ o.ExactDict := by
        rcases hk with ⟨kvs, hk⟩ | ⟨kvs, hk⟩
        · obtain ⟨_, _, _, _, o, _, _, e, ex, _⟩ := I.hok p _ hk
          exact ⟨o, e, ex⟩
        · obtain ⟨_, _, _, _, o, _, _, e, ex, _⟩ := I.hok p _ hk
          exact ⟨o, e, ex⟩
      obtain ⟨o, e, ex⟩ := z
      refine ⟨⟨o, e, ex.1⟩, fun a e2 => ?_⟩
      cases e2
      exact ⟨o, e, ex.2.1⟩
    · obtain ⟨o, _, _, _, e, ex, _⟩ := I.hok p _ hk
      refine ⟨⟨o, e, ex.1⟩, fun a e2 => ?_⟩
      cases e2
      exact ⟨o, e, ex.2.1⟩
  | _ => exact False.elim ty
def tBM0 (K : PySem.W.Frag) (T : String) (r : V → List V → Hp → VK → Prop) (to : TE) : TE := fun σ H Q => to σ H fun x H1 => tyV K T x H1 ∧ r x [] H1 Q
def tBM (K : PySem.W.Frag) (T : String) (r : V → List V → Hp → VK → Prop) (to : TE) (t : TA) : TE := fun σ H Q => to σ H fun x H1 => tyV K T x H1 ∧ t σ H1 fun xs H2 => r x xs H2 Q
variable {o e : Expr} {es : List Expr} {to : TE} {t : TA} {name : Str} {apos cpos : Pos} {T id : String} {r : V → List V → Hp → VK → Prop}
theorem pe_bm (pa : PlainAttrs T) (slot : Slot T name id) (hty : typeOf (.builtin id) = pure (.type "method_descriptor")) (hm : MtR X id r) (ho : PE X o to) (ha : PA X (e :: es) t)
    (hbase : attributeBase o name X.env (eval o X.env) = eval o X.env := by rfl)
    (hfew : ((backTo cpos (starEach (e :: es) X.env)).all (fun x => !x.1) && (backToKw cpos (keywordEach [] X.env)).all (fun x => x.1.isSome)
      && decide ((e :: es).length + ([] : List Keyword).length + (if ([] : List Keyword).isEmpty then 0 else 1) < 30)) = true := by rfl)
    (hline : (apos.endLine == cpos.line) = true := by rfl) (hs : starEach (e :: es) X.env = (false, eval e X.env) :: starEach es X.env := by rfl) (hplain : (backTo cpos (starEach es X.env)).any (·.1) = false := by rfl) :
    PE X (.Call (.Attribute o name apos) (e :: es) [] cpos) (tBM X.K T r to t) := by
  intro pins s σ H Q I h
  refine wpAny_Call_method_late hbase hfew hline rfl (thn (ho pins s σ H _ I h) fun v s1 ⟨x, H1, I1, r1, ty, q1⟩ => ?_)
  obtain ⟨h1, h2⟩ := tyV_is I1 r1 ty
  refine ⟨T, id, pa, slot, hty, h1, h2, ?_⟩
  have hA := ha cpos pins s1 σ H1 _ I1 q1
  rw [hs] at hA ⊢
  refine Calls.callWith_builtin (by show (false || (backTo cpos (starEach es X.env)).any (·.1)) = false; rw [hplain] <;> rfl) (Calls.evalArgs_plain ?_)
  exact thn hA fun us s2 ⟨vs, H2, I2, r2, q2⟩ => hm pins s2 σ H2 x vs v us Q I2 r1 r2 q2
end
end L2

namespace L2
open PySem PySem.Spec PyProof.Rows

def MtM (X : Cx) (id : String) (r : V → List V → Hp → VK → Prop) : Prop :=
  ∀ (pins : List (Addr × Obj)) (s : Shared) (σ : St) (H : Hp) (x : V) (xs : List V) (v : Value) (us : List Value) (Q : VK), Inv X pins σ H s → RelV x v → Vals xs us → r x xs H Q →
    wpAny (model X.prog X.w) X.A (call (.builtin id) (v :: us)) (EP X pins σ Q) X.xe s

theorem Vals.one : ∀ {x : V} {us : List Value}, Vals [x] us → ∃ u, us = [u] ∧ RelV x u
  | _, _, .cons r .nil => ⟨_, rfl, r⟩
theorem Vals.rep {xs : List V} {us : List Value} (h : Vals xs us) : ∀ k : Nat, Vals (List.replicate k xs).flatten (List.replicate k us).flatten
  | 0 => .nil
  | k + 1 => by
    rw [List.replicate_succ, List.replicate_succ, List.flatten_cons, List.flatten_cons]
    exact Vals.append h (Vals.rep h k)
theorem foldl_rep (its : List Value) : ∀ (k : Nat) (acc : List Value),
    List.foldl (fun x1 x2 => x1 ++ x2) acc.toArray (List.replicate k its.toArray) = (acc ++ (List.replicate k its).flatten).toArray
  | 0, acc => by simp
  | k + 1, acc => by
    have e : acc.toArray ++ its.toArray = (acc ++ its).toArray := by simp
    have e2 : (acc ++ its) ++ (List.replicate k its).flatten = acc ++ (List.replicate (k + 1) its).flatten := by
      rw [List.replicate_succ, List.flatten_cons, List.append_assoc]
    rw [← e2, ← foldl_rep its k (acc ++ its), ← e, List.replicate_succ, List.foldl_cons]

section
variable {X : Cx} {pins : List (Addr × Obj)} {σ : St} {H : Hp} {s : Shared} {l b : Addr} {xs ys zs : List V}

theorem Inv.lset {its its' : List Value} {n : Nat} {f : Array Value → Array Value} {t' : Nat} (I : Inv X pins σ H s) (hH : H l = some (.lst xs))
    (e : s.heap.get? l = some { cls := .type "list", data := .seq its.toArray n }) (hf : f its.toArray = its'.toArray) (hv : Vals ys its') (hz : ys.length ≤ sizeLine) :
    Inv X pins σ (upd H l (.lst ys)) { s with heap := s.heap.update l (Obj.mapSeq f), toks := t' } := by
  have q := PySem.IsL.update e f
  rw [hf] at q
  refine I.write (x := l) (e := l) (by rw [hH]; exact trivial) (.inl rfl) (fun b' u hb hu => (Heap.get?_update_other s.heap (Obj.mapSeq f) (Ne.symm hb)).trans hu) ⟨_, q⟩ ?_
  exact ⟨hz, its', _, hv, q⟩
theorem Inv.lnew {its : List Value} {t' : Nat} (I : Inv X pins σ H s) (hv : Vals ys its) (hz : ys.length ≤ sizeLine) :
    Inv X pins σ (upd H s.heap.objs.size (.lst ys)) { s with heap := s.heap.push { cls := .type "list", data := .seq its.toArray }, toks := t' } :=
  I.laid (fun _ _ q => Heap.get?_push_of_some _ q) (Nat.le_refl _) ⟨hz, its, 0, hv, Heap.get?_push_size _ rfl⟩
theorem Inv.fresh (I : Inv X pins σ H s) : H s.heap.objs.size = none := I.hok.fresh (Nat.le_refl _)
theorem Inv.lstM (I : Inv X pins σ H s) (hH : H l = some (.lst xs)) : xs.length ≤ sizeLine ∧ ∃ (its : List Value) (n : Nat), Vals xs its ∧ xs.length = its.length ∧ s.heap.get? l = some { cls := .type "list", data := .seq its.toArray n } := by
  obtain ⟨z, its, n, r, e⟩ := I.hok l _ hH
  exact ⟨z, its, n, r, r.length, e⟩

theorem notLongL {n : Nat} (h : n ≤ sizeLine) : Builtin.List.listTooLong n = false := by
  unfold Builtin.List.listTooLong
  exact decide_eq_false (by walk_at "o")
end

section
variable {X : Cx}

def rAppend : V → List V → Hp → VK → Prop := fun x vs H Q => ∃ l xs y, x = .ref l ∧ vs = [y] ∧ H l = some (.lst xs) ∧ xs.length < sizeLine ∧ Q .non (upd H l (.lst (xs ++ [y])))
theorem mt_append : MtM X "list.append" rAppend := by
  intro pins s σ H x vs v us Q I rx rv h
  obtain ⟨l, xs, y, rfl, rfl, hH, hz, q⟩ := h
  cases rx
  obtain ⟨u, rfl, ru⟩ := rv.one
  obtain ⟨z, its, n, r, hl, e⟩ := I.lstM hH
  refine call_meets F.slot_list_append ⟨_, e, rfl⟩ F.entry_list_append (F.args_list_append_2 _ _) (PySem.list_append l its.toArray n u (by rw [List.size_toArray]; walk_at "o")) ⟨e, ?_⟩
  refine ⟨.non, _, I.lset (its' := its ++ [u]) hH e (by simp) (r.append (.cons ru .nil)) ?_, rfl, q⟩
  rw [List.length_append, List.length_singleton]
  walk_at "o"

def rCat : R2 := fun x y H Q => ∃ l b xs zs, x = .ref l ∧ y = .ref b ∧ H l = some (.lst xs) ∧ H b = some (.lst zs) ∧ xs.length + zs.length ≤ sizeLine ∧ ∀ p, H p = none → Q (.ref p) (upd H p (.lst (xs ++ zs)))
theorem op_cat : OpR X (binaryOp .Add) rCat := by
  intro pins s σ H x y v u Q I rx ry h
  obtain ⟨l, b, xs, zs, rfl, rfl, hH, hB, hz, q⟩ := h
  cases rx
  cases ry
  obtain ⟨z, its, n, r, hl, e⟩ := I.lstM hH
  obtain ⟨z2, its2, n2, r2, hl2, e2⟩ := I.lstM hB
  refine PySem.P.add_list e e2 ?_ (by rw [List.size_toArray, List.size_toArray]; walk_at "o")
  have ea : its.toArray ++ its2.toArray = (its ++ its2).toArray := by simp
  rw [ea]
  exact ⟨.ref _, _, I.lnew (t' := s.toks) (r.append r2) (by rw [List.length_append]; walk_at "o"), rfl, q _ I.fresh⟩
def rRep : R2 := fun x y H Q => ∃ l k xs, x = .ref l ∧ y = .int k ∧ H l = some (.lst xs) ∧ -(2 ^ 63) ≤ k ∧ k < 2 ^ 63 ∧ xs.length * k.toNat ≤ sizeLine ∧
  ∀ p, H p = none → Q (.ref p) (upd H p (.lst (List.replicate k.toNat xs).flatten))
theorem len_rep {α : Type} (xs : List α) (k : Nat) : (List.replicate k xs).flatten.length = k * xs.length := by
  induction k with
  | zero => simp
  | succ k ih => rw [List.replicate_succ, List.flatten_cons, List.length_append, ih, Nat.succ_mul, Nat.add_comm]
theorem op_rep : OpR X (binaryOp .Mult) rRep := by
  intro pins s σ H x y v u Q I rx ry h
  obtain ⟨l, k, xs, rfl, rfl, hH, h1, h2, hz, q⟩ := h
  cases rx
  obtain ⟨t, rfl⟩ := ry
  obtain ⟨z, its, n, r, hl, e⟩ := I.lstM hH
  have hlen : its.toArray.size * k.toNat ≤ sizeLine := by rw [List.size_toArray, ← hl]; exact hz
  have hcap : ¬ its.toArray.size * k.toNat > (2 ^ 63 - 1) / 8 := by
    have : (sizeLine : Nat) ≤ (2 ^ 63 - 1) / 8 := by decide
    walk_at "o"
  have hfit : ¬ (!Builtin.List.listFitsIndex k) = true := by
    rw [fitsIndex_both h1 h2]
    exact Bool.false_ne_true
  have hlong : ¬ Builtin.List.listTooLong (its.toArray.size * k.toNat) = true := by
    rw [notLongL hlen]
    exact Bool.false_ne_true
  have hnew : List.foldl (fun x1 x2 => x1 ++ x2) #[] (List.replicate (if its.toArray.isEmpty = true then 0 else k.toNat) its.toArray) = (List.replicate k.toNat its).flatten.toArray := by
    have f0 : ∀ m : Nat, List.foldl (fun x1 x2 => x1 ++ x2) #[] (List.replicate m its.toArray) = (List.replicate m its).flatten.toArray := fun m => by
      have := foldl_rep its m []
      rw [List.nil_append] at this
      exact this
    rw [f0]
    cases its with
    | nil => simp
    | cons a r' => rw [if_neg (by simp)]
  refine wpAny_binaryOp_repeat_ref (T := "list") (U := "int") (by decide) ⟨_, e, rfl⟩ (fun s' => typeIs_int s' k t) noFill_list_mul F.fills_int_mul F.slot_int_rmul repeat_list F.slot_int_index.lookup
    (call_meets F.slot_int_rmul (typeIs_int s k t) F.entry_int_rmul (F.args_int_rmul_2 _ _) (int___rmul___int_list k t l its.toArray n)
      ⟨e, rfl, ⟨_, e, rfl⟩, call_meets F.slot_list_mul ⟨_, e, rfl⟩ F.entry_list_mul (F.args_list_mul_2 _ _) (AutoListH.list___mul___list_int_3 l its.toArray n k t hfit hcap hlong) ⟨e, ?_⟩⟩)
  rw [hnew]
  exact ⟨.ref _, _, I.lnew (t' := s.toks) (r.rep k.toNat) (by rw [len_rep, Nat.mul_comm]; exact hz), rfl, q _ I.fresh⟩

end

section
variable {prog : Program} {w : World} {A : Around} {E : Value → Shared → Prop} {s : Shared}
end

section
variable {X : Cx}
end
end L2

namespace Att
open PySem PySem.W PySem.Calls PyProof.Rows

theorem ints_of_wellAll {P : Params} {h : Heap} : ∀ (ns : List Int) (vs : List Value), WellAll P h vs (ns.map WData.int) → IntsAre vs ns := by
  intro ns
  induction ns with
  | nil =>
    intro vs w
    rw [List.map_nil] at w
    cases w
    exact .nil
  | cons n ns ih =>
    intro vs w
    rw [List.map_cons] at w
    cases w with
    | cons a b =>
      cases a
      exact .cons _ _ (ih _ b)

theorem script_of {l : OpenLaw} {n : Nat} (hn : l.most = some n) {P : Params} {h : Heap} {args : List WData} {vals : List Value}
    (hpre : l.row.toRowW.claim.pre args = true) (hwl : WellAll P h vals args) :
    ∃ a vs ns, vals = [Value.ref a] ∧ args = [WData.list (ns.map WData.int)] ∧ h.get? a = some { cls := .type "list", data := .seq vs.toArray } ∧ IntsAre vs ns ∧ ns.length ≤ n := by
  have hsh : WShape.hasAll [] args [.list .int] = true := (pre_splitW hpre).1
  have hc : l.pre.holds [] { args := args } = true := (pre_splitW hpre).2
  obtain ⟨d, r, rfl, h1, h2⟩ := hasAllW_cons hsh
  obtain rfl := hasAllW_nil h2
  obtain ⟨xs, rfl, h3⟩ := hasW_list h1
  obtain ⟨ns, rfl⟩ := items_int h3
  have hlen : ns.length ≤ n := by
    unfold OpenLaw.pre at hc
    have h4 : (WTm.not (.lt (.lit (.int (n : Int))) (.len (.arg 0)))).holds [] { args := [.list (ns.map .int)] } = true := by
      have h4 := (holds_andW hc).1
      rw [hn] at h4
      exact h4
    have h5 := condW_of h4 (w_not (w_lt w_lit (w_len_list (w_arg rfl))))
    rw [List.length_map] at h5
    refine Nat.le_of_not_lt fun q => ?_
    have q' : (n : Int) < ((ns.length : Nat) : Int) := by walk_at "o"
    first
      | (rw [decide_eq_true q'] at h5; exact absurd h5 (by decide))
      | (simp at h5; walk_at "o")
  cases hwl with
  | cons w1 w2 =>
    cases w2
    cases w1 with
    | list ho hall => exact ⟨_, _, ns, rfl, rfl, ho, ints_of_wellAll ns _ hall, hlen⟩

theorem post_true (l : OpenLaw) (args : List WData) : l.row.toRowW.claim.post args (.bool true) args = true :=
  postW_of (r := l.row.toRowW) (X := (true == true))
    (show WShape.has [] (.bool true) .bool = true by first | rfl | decide | simp [WShape.has, WShape.arms, WShape.armsAll])
    (show (WTm.eq .res (.lit (.bool true))).value [] { args := args, res := some (.bool true), after := args } = some (.bool (true == true)) from w_eq_bool (w_res rfl) w_lit) rfl

theorem attach_call {l : OpenLaw} {n : Nat} {q : Program} {loose : List Str} {XP : (Str → Option Value) → Heap → Prop} {YP : World → Heap → Prop} {d : DefRec}
    (hn : l.most = some n) (hdf : d.params.defaults = [])
    (call : ∀ (w : World) (s₀ s₁ : Shared) (mg mb : Str → Option Value) (fa : Addr) (o : Obj) (pm cd doc : Value) (a : Addr) (vs : List Value) (ns : List Int),
      Ground q loose [] XP w s₀ mg mb s₁.heap → YP w s₁.heap →
      s₁.heap.get? fa = some o → o.data = .func (docDef d.name d.params d.body d.scope pm cd doc) → s₁.heap.CodeRec cd d.name → mg d.name = some (.ref fa) →
      s₁.heap.get? a = some { cls := .type "list", data := .seq vs.toArray } → IntsAre vs ns → ns.length ≤ n → s₁.gens = #[] →
      codeAny (model l.prog w) callerA (.call (.ref fa) ⟨[.ref a], []⟩) (fun r s' => r = .ok (.ret (.bool true)) ∧ OldK s₁.heap s'.heap ∧ s'.os = s₁.os ∧ AllBare s'.gens) s₁) :
    WalkO q loose XP YP l.row.toRowW d [] (fun f vs => PySem.call f vs) := by
  intro w s₀ s₁ mg mb G Y fa o pm cd doc dV kV ho hd hcd hD hmg hg args vals as hpre hlay hrd hwl hlo
  obtain rfl : dV = .none := Dflts.none hD hdf
  obtain rfl : kV = .none := Dflts.noKw hD
  obtain ⟨a, vs, ns, rfl, rfl, hobj, hints, hlen⟩ := script_of hn hpre hwl
  refine enter_call (codeAny_mono (call w s₀ s₁ mg mb fa o pm cd doc a vs ns G Y ho (fd_plain hd) hcd hmg hobj hints hlen hg) fun r s' hq => ?_)
  obtain ⟨rfl, h2, h3, h4⟩ := hq
  exact ⟨.inl ⟨.bool true, .bool true, [], rfl, fun _ => rfl, .bool true, post_true l _, fun _ => ⟨List.Pairwise.nil, fun _ hm => (nomatch hm)⟩⟩, h2, h3, h4⟩

section
variable {prog : Program} {w : World} {A : Around} {E : Value → Shared → Prop} {s : Shared} {K : Frag}

end
end Att

namespace L2
open PySem PySem.Spec PyProof.Rows

theorem vals_ints : ∀ {vs : List Value} {ns : List Int}, IntsAre vs ns → Vals (ns.map V.int) vs
  | _, _, .nil => .nil
  | _, _, .cons n t h => .cons ⟨t, rfl⟩ (vals_ints h)

end L2

namespace L2
open PySem PySem.Spec PyProof.Rows

end L2

namespace L2
open PySem PySem.Spec PyProof.Rows

def defArgs (s : Stmt) : Arguments := match s with
  | .FunctionDef _ a _ _ _ _ _ _ _ _ => a
  | _ => { posonlyargs := [], args := [], vararg := none, kwonlyargs := [], kw_defaults := [], kwarg := none, defaults := [] }
def defBody (s : Stmt) : List Stmt := match s with
  | .FunctionDef _ _ b _ _ _ _ _ _ _ => b
  | _ => []
def defScope (s : Stmt) : Scope := match s with
  | .FunctionDef _ _ _ _ _ _ sc _ _ _ => sc
  | _ => { kind := .function, names := [], isGenerator := false, isCoroutine := false }

abbrev CX0 : CXT := fun _ _ _ _ _ _ => False
abbrev E0 : XK := fun _ _ _ => False
theorem pass0 {X : Cx} : Passes CX0 X E0 := fun _ _ _ _ _ _ _ h => h.elim

structure Fun (K : PySem.W.Frag) (x qual : Str) (st : Stmt) (f : Addr) (fd : FuncData) : Prop where
  ex : ∃ (oc : Value) (od : Option Addr) (kV doc pm : Value) (an : Option Addr) (cdv ct : Value) (osl : Array (Option Value)),
    fd = PySem.W.fnOf x qual (defArgs st) (defBody st) (defScope st) .none kV doc pm an cdv ct ∧ K.lookup f = some ⟨oc, od, .func fd, osl⟩ ∧ PySem.W.codeIn K cdv qual = true
  kp : PySem.W.keepIn K (.ref f) = true
section
variable {P : Program} {w : World} {K : PySem.W.Frag} {mg : Str → Option Value} {base : Heap}
theorem Fun.ok {x qual : Str} {st : Stmt} {f : Addr} {fd : FuncData} {N ps : List Str} {k : Nat} {sp : Sp} (F : Fun K x qual st f fd) (S : FnScope N ps (defScope st)) (len : ∀ vs H Q E, sp vs H Q E → vs.length = ps.length)
    (hbody : ∀ (cdv : Value) (A : Around) (outer : List Env) (s : Shared) (H : Hp) (vs : List V) (Q : VK) (E : XK), Room k (A.deeper (envOfC qual (defScope st) s.heap.objs.size f cdv)) → sp vs H Q E →
      ∃ t, PSs (cxOf CX0 P w K mg base N qual (defScope st) f cdv A outer s H E).nox (defBody st) t ∧ t { nx := fun _ H' => Q .non H', rt := Q } (start N vs) H) : FnOk P w K mg base CX0 (k + 1) f fd ps sp := by
  obtain ⟨oc, od, kV, doc, pm, an, cdv, ct, osl, rfl, lk, hcd⟩ := F.ex
  refine fn_of lk hcd S len fun A outer s H vs Q E hr hsp => ?_
  obtain ⟨t, h, q⟩ := hbody cdv A outer s H vs Q E hr hsp
  exact ⟨t, h.nox, q⟩
theorem Fun.binds {x qual : Str} {st : Stmt} {f : Addr} {fd : FuncData} {ps : List Str} (F : Fun K x qual st f fd)
    (h : ∀ (kV doc pm : Value) (an : Option Addr) (cdv ct : Value) (us : List Value), us.length = ps.length → bindArgs (PySem.W.fnOf x qual (defArgs st) (defBody st) (defScope st) .none kV doc pm an cdv ct) ⟨us, []⟩ = pure (ps.zip us)) : Binds K fd ps [] := by
  obtain ⟨oc, od, kV, doc, pm, an, cdv, ct, osl, rfl, lk, hcd⟩ := F.ex
  exact .all (h kV doc pm an cdv ct)
theorem fun_mk {x qual : Str} {st : Stmt} {f : Addr} {oc : Value} {od an : Option Addr} {osl : Array (Option Value)} {kV doc pm cdv ct : Value} (l : K.lookup f = some ⟨oc, od, .func (PySem.W.fnOf x qual (defArgs st) (defBody st) (defScope st) .none kV doc pm an cdv ct), osl⟩)
    (c : PySem.W.codeIn K cdv qual = true) (k : PySem.W.keepIn K (.ref f) = true) : Fun K x qual st f (PySem.W.fnOf x qual (defArgs st) (defBody st) (defScope st) .none kV doc pm an cdv ct) := ⟨⟨oc, od, kV, doc, pm, an, cdv, ct, osl, rfl, l, c⟩, k⟩
end
section
variable {X : Cx}
theorem pv (i : Nat) {x : Str} {pos : Pos} (hN : X.N[i]? = some x := by rfl) (hv : Vis X.env.scope x := by first | exact Or.inl rfl | exact Or.inr (Or.inl rfl) | exact Or.inr (Or.inr rfl)) (hd : (x == ("__debug__" : Str)) = false := by decide)
    (hcd : (x == ("__classdict__" : Str)) = false := by decide) : PE X (.Name x pos) (tVar i) := pe_var hN hv hd hcd
end

theorem ite2 {c A B : Prop} [Decidable c] (h1 : c → A) (h2 : ¬ c → B) : if c then A else B := by
  by_cases h : c
  · rw [if_pos h]
    exact h1 h
  · rw [if_neg h]
    exact h2 h
def Same (H H' : Hp) : Prop := ∀ b o, H b = some o → H' b = some o
theorem Same.trans {H H1 H2 : Hp} (a : Same H H1) (b : Same H1 H2) : Same H H2 := fun c o h => b c o (a c o h)
end L2

set_option Elab.async false
set_option linter.all false
set_option maxRecDepth 100000
namespace L2
open PySem PySem.Spec PyProof.Rows
structure Cal (P : Program) (w : World) (K : PySem.W.Frag) (mg : Str → Option Value) (base : Heap) (x : Str) (ps : List Str) (k : Nat) (sp : Sp) : Prop where
  ex : ∃ f fd, FnOk P w K mg base CX0 k f fd ps sp ∧ mg x = some (.ref f) ∧ PySem.W.keepIn K (.ref f) = true ∧ Binds K fd ps []
section
variable {X : Cx} {x : Str} {p pos : Pos} {e : Expr} {es : List Expr} {t : TA} {ps : List Str} {k : Nat} {sp : Sp}
def tCal (sp : Sp) (t : TA) : TE := fun σ H Q => t σ H fun vs H1 => sp vs H1 Q E0
theorem pe_cal (C : Cal X.prog X.w X.K X.mg X.base x ps k sp) (hr : Room k X.A) (hg : Gl X x) (ha : PA X (e :: es) t) (hdb : (x == ("__debug__" : Str)) = false := by decide)
    (he : starEach (e :: es) X.env = (false, eval e X.env) :: starEach es X.env := by rfl) (hpl : (backTo pos (starEach es X.env)).any (·.1) = false := by rfl) :
    PE X (.Call (.Name x p) (e :: es) [] pos) (tCal sp t) := by
  obtain ⟨f, fd, F, hm, hk, hb⟩ := C.ex
  intro pins s σ H Q I h
  refine pe_call (E := E0) (dvs := []) F hr hg hm hk hb .nil pass0 ha hdb he hpl pins s σ H Q I ?_
  show t σ H fun vs H1 => sp (vs ++ []) H1 Q E0
  have e : (fun (vs : List V) H1 => sp (vs ++ []) H1 Q E0) = fun vs H1 => sp vs H1 Q E0 := by
    funext vs H1
    rw [List.append_nil]
  rw [e]
  exact h
end

section
variable {X : Cx}
theorem op_mulX : OpR X (binaryOp .Mult) (rI IntMulOk fun i j => .int (i * j)) := opI fun _ _ _ _ _ _ _ hc q => mul_int q hc
def CDivX (_ j : Int) : Prop := j ≠ 0 ∧ j.natAbs.log2 < 9000
theorem op_fdivX : OpR X (binaryOp .FloorDiv) (rI CDivX fun i j => .int (i.fdiv j)) := opI fun _ _ _ _ _ _ _ hc q => floordiv_int hc.1 q (.inl (PyProof.noPylong_of_log2 hc.2))
theorem op_modX : OpR X (binaryOp .Mod) (rI (fun _ j => j ≠ 0) fun i j => .int (i.fmod j)) := op_modN
end

theorem cxOf_K {CX : CXT} {P : Program} {w : World} {K : PySem.W.Frag} {mg : Str → Option Value} {base : Heap} {N : List Str} {qual : Str} {scope : Scope} {f : Addr} {cd : Value} {A : Around} {outer : List Env} {s : Shared} {H : Hp} {E : XK} :
    (cxOf CX P w K mg base N qual scope f cd A outer s H E).K = K := rfl

def absL : List Value → Option (List V)
  | [] => some []
  | u :: us => match absV u, absL us with
    | some x, some xs => some (x :: xs)
    | _, _ => none
theorem absL_vals : ∀ {us : List Value} {xs : List V}, absL us = some xs → Vals xs us
  | [], xs, h => by cases h; exact .nil
  | u :: us, xs, h => by
    unfold absL at h
    split at h
    · rename_i x ys e1 e2
      cases h
      refine .cons ?_ (absL_vals e2)
      cases u <;> first | (cases e1; first | exact rfl | exact ⟨_, rfl⟩) | cases e1
    · cases h
def kobj (o : Obj) : Option HO := match o.data with
  | .seq its _ => if o.cls = .type "tuple" ∧ its.size ≤ sizeLine then (absL its.toList).map HO.tup else none
  | _ => none
def vw (K : PySem.W.Frag) (H : Hp) : Hp := fun a => match K.lookup a with
  | some o => kobj o
  | none => H a
theorem kobj_tup {o : Obj} {u : HO} (h : kobj o = some u) : ∃ xs, u = .tup xs := by
  unfold kobj at h
  split at h
  · split at h
    · cases e : absL _ with
      | none => rw [e] at h; cases h
      | some xs => rw [e] at h; cases h; exact ⟨xs, rfl⟩
    · cases h
  · cases h
theorem vw_new {K : PySem.W.Frag} {H : Hp} {a : Addr} (hk : K.lookup a = none) : vw K H a = H a := by
  unfold vw
  rw [hk]
theorem vw_tup {K : PySem.W.Frag} {H : Hp} {a : Addr} {xs : List V} (h : vw K H a = some (.tup xs)) : SqT K H a xs := by
  unfold vw at h
  split at h
  · rename_i o ho
    unfold kobj at h
    split at h
    · rename_i its n hd
      split at h
      · rename_i hc
        cases e : absL its.toList with
        | none => rw [e] at h; cases h
        | some ys =>
          rw [e] at h
          cases h
          exact .inr ⟨o, its, n, ho, hc.1, hd, hc.2, absL_vals e⟩
      · cases h
    · cases h
  · exact .of h
theorem vw_get {K : PySem.W.Frag} {H : Hp} {a : Addr} {u : HO} (h : vw K H a = some u) (hu : ∀ xs, u ≠ .tup xs) : H a = some u := by
  unfold vw at h
  split at h
  · obtain ⟨xs, rfl⟩ := kobj_tup h
    exact absurd rfl (hu xs)
  · exact h
theorem vw_lst {K : PySem.W.Frag} {H : Hp} {a : Addr} {xs : List V} (h : vw K H a = some (.lst xs)) : H a = some (.lst xs) := vw_get h fun _ e => by cases e
theorem vw_same {K : PySem.W.Frag} {H H' : Hp} (S : Same H H') : Same (vw K H) (vw K H') := fun b o e => by
  unfold vw at e ⊢
  split at e
  · exact e
  · exact S _ _ e
def But (l : Addr) (H H' : Hp) : Prop := ∀ b o, b ≠ l → H b = some o → H' b = some o
theorem vw_but {K : PySem.W.Frag} {l : Addr} {H H' : Hp} (S : But l H H') : But l (vw K H) (vw K H') := fun b o hb e => by
  unfold vw at e ⊢
  split at e
  · exact e
  · exact S _ _ hb e
theorem Inv.noK {X : Cx} {pins : List (Addr × Obj)} {σ : St} {H : Hp} {s : Shared} {p : Addr} {o : HO} (I : Inv X pins σ H s) (h : H p = some o) : X.K.lookup p = none := by
  cases e : X.K.lookup p with
  | none => rfl
  | some ob =>
    have := (I.bs p ob (I.mod.kin p ob e)).2
    rw [h] at this
    cases this
theorem Inv.newK {X : Cx} {pins : List (Addr × Obj)} {σ : St} {H : Hp} {s : Shared} {p : Addr} (I : Inv X pins σ H s) (hp : s.heap.objs.size ≤ p) : X.K.lookup p = none := by
  cases e : X.K.lookup p with
  | none => rfl
  | some o => exact absurd (Nat.lt_of_lt_of_le (Heap.lt_size (I.kIn p o e)) hp) (Nat.lt_irrefl _)
def Kf (K : PySem.W.Frag) (v : V) (H : Hp) : Prop := ∀ p o, v = .ref p → H p = some o → K.lookup p = none
section
variable {X : Cx}
theorem OpR.kf {f : Value → Value → Sem Value} {r : R2} (h : OpR X f r) : OpR X f (fun x y H Q => r x y H fun v H' => Kf X.K v H' → Q v H') := fun pins s σ H x y v u Q I rx ry q =>
  thn (h pins s σ H x y v u _ I rx ry q) fun u' s' ⟨v', H', I', r', q'⟩ => ⟨v', H', I', r', q' fun p o _ hp => I'.noK hp⟩
theorem CallR.kf {f : Value} {r : List V → Hp → VK → Prop} (h : CallR X f r) : CallR X f (fun xs H Q => r xs H fun v H' => Kf X.K v H' → Q v H') := fun pins s σ H xs us Q I rs q =>
  thn (h pins s σ H xs us _ I rs q) fun u' s' ⟨v', H', I', r', q'⟩ => ⟨v', H', I', r', q' fun p o _ hp => I'.noK hp⟩
theorem SlR.kf {r : V → Option Int → Option Int → Hp → VK → Prop} (h : SlR X r) : SlR X (fun x a b H Q => r x a b H fun v H' => Kf X.K v H' → Q v H') := by
  intro pins s σ H x v vl vu lo hi sl Q I rx hs pl pu q
  obtain ⟨T, id, e1, e2, e3⟩ := h pins s σ H x v vl vu lo hi sl _ I rx hs pl pu q
  exact ⟨T, id, e1, e2, thn e3 fun u' s' ⟨v', H', I', r', q'⟩ => ⟨v', H', I', r', q' fun p o _ hp => I'.noK hp⟩⟩
end
theorem Same.upd {H : Hp} {p : Addr} {o : HO} (hp : H p = none) : Same H (upd H p o) := fun b u e => by
  rw [upd_ne (ne_of_none e hp)]
  exact e
theorem But.upd {H : Hp} {l : Addr} {o : HO} : But l H (upd H l o) := fun b u hb e => by
  rw [upd_ne hb]
  exact e
theorem Same.but {H H' : Hp} (h : Same H H') (l : Addr) : But l H H' := fun b o _ e => h b o e
theorem But.trans {l : Addr} {H H1 H2 : Hp} (a : But l H H1) (b : But l H1 H2) : But l H H2 := fun c o hc h => b c o hc (a c o hc h)
theorem Inv.big {X : Cx} {pins : List (Addr × Obj)} {σ : St} {H : Hp} {s : Shared} (I : Inv X pins σ H s) : sysModules < s.heap.objs.size := by
  have h : mainGlobals < s.heap.objs.size := (I.mod.glob.keeps I.bk).lt
  exact Nat.lt_trans (by decide) h
def tyN (H : Hp) : V → Option String
  | .non => some "NoneType"
  | .bl _ => some "bool"
  | .int _ => some "int"
  | .str _ => some "str"
  | .ref a => match H a with
    | some (.lst _) => some "list"
    | some (.frz _ (.lst _)) => some "list"
    | some (.tup _) => some "tuple"
    | some (.dK _) => some "dict"
    | _ => none
  | _ => none
def instN (n c : String) : Bool := n == c || (n == "bool" && c == "int")
def TyName (n : String) : Prop := n = "NoneType" ∨ n = "bool" ∨ n = "int" ∨ n = "str" ∨ n = "list" ∨ n = "tuple" ∨ n = "dict"
def TyAsk (c : String) : Prop := c = "bool" ∨ c = "int" ∨ c = "list" ∨ c = "tuple" ∨ c = "str" ∨ c = "dict"
theorem kit_names {K : PySem.W.Frag} {n c : String} (hn : TyName n) (hc : TyAsk c) : PySem.W.kitOne K (.type n) (.type c) = some (instN n c) := by
  rcases hn with rfl | rfl | rfl | rfl | rfl | rfl | rfl <;> rcases hc with rfl | rfl | rfl | rfl | rfl | rfl <;> rfl
section
variable {X : Cx}
theorem call_isinst : CallR X (.builtin "isinstance") (fun xs H Q => ∃ x c n, xs = [x, .ty c] ∧ TyAsk c ∧ tyN (vw X.K H) x = some n ∧ Q (.bl (instN n c)) H) := by
  intro pins s σ H xs us Q I r h
  obtain ⟨x, c, n, rfl, hc, hn, q⟩ := h
  obtain ⟨u, w', rfl, rx, ry⟩ := vals2 r
  cases ry
  have fin : ∀ tk, EP X pins σ Q (.bool (instN n c)) { s with toks := tk } := fun tk => ⟨.bl _, H, I.tok tk, rfl, q⟩
  cases x with
  | non => cases hn; exact isinst_ok I rx .non (kit_names (.inl rfl) hc) fin
  | bl b => cases hn; exact isinst_ok I rx (.bl b) (kit_names (.inr (.inl rfl)) hc) fin
  | int b => cases hn; exact isinst_ok I rx (.int b) (kit_names (.inr (.inr (.inl rfl))) hc) fin
  | str b => cases hn; exact isinst_ok I rx (.str b) (kit_names (.inr (.inr (.inr (.inl rfl)))) hc) fin
  | flt b => cases hn
  | byt b => cases hn
  | ty b => cases hn
  | ref a =>
    unfold tyN at hn
    dsimp only at hn
    split at hn
    · rename_i e; cases hn; exact isinst_ok I rx (.lst (vw_lst e)) (kit_names (.inr (.inr (.inr (.inr (.inl rfl))))) hc) fin
    · rename_i e; cases hn; exact isinst_ok I rx (.frz (vw_get e fun _ z => by cases z)) (kit_names (.inr (.inr (.inr (.inr (.inl rfl))))) hc) fin
    · rename_i ys e
      cases hn
      cases (show u = Value.ref a from rx)
      obtain ⟨its, rv, p, hz⟩ := I.tuple (vw_tup e)
      obtain ⟨o, h1, h2, _⟩ := p
      exact PySem.W.kia_one PySem.W.kitx_tuple I.kIn ⟨o, h1, h2⟩ (kit_names (.inr (.inr (.inr (.inr (.inr (.inl rfl)))))) hc) (fun z => nomatch z) fin
    · rename_i e; cases hn; exact isinst_ok I rx (.dK (vw_get e fun _ z => by cases z)) (kit_names (.inr (.inr (.inr (.inr (.inr (.inr rfl)))))) hc) fin
    · cases hn
end
theorem ask_int : TyAsk "int" := .inr (.inl rfl)
theorem ask_bool : TyAsk "bool" := .inl rfl
theorem ask_list : TyAsk "list" := .inr (.inr (.inl rfl))
theorem ask_tuple : TyAsk "tuple" := .inr (.inr (.inr (.inl rfl)))
theorem bt_abs : bootBuiltins "abs" = some (.builtin "abs") := by decide +kernel
theorem bt_len : bootBuiltins "len" = some (.builtin "len") := by decide +kernel
theorem bt_isinstance : bootBuiltins "isinstance" = some (.builtin "isinstance") := by decide +kernel
theorem bt_max : bootBuiltins "max" = some (.builtin "max") := by decide +kernel
theorem bt_min : bootBuiltins "min" = some (.builtin "min") := by decide +kernel
theorem bt_all : bootBuiltins "all" = some (.builtin "all") := by decide +kernel
theorem bt_int : bootBuiltins "int" = some (.type "int") := by decide +kernel
theorem bt_bool : bootBuiltins "bool" = some (.type "bool") := by decide +kernel
theorem bt_list : bootBuiltins "list" = some (.type "list") := by decide +kernel
theorem bt_tuple : bootBuiltins "tuple" = some (.type "tuple") := by decide +kernel
theorem bt_zip : bootBuiltins "zip" = some (.type "zip") := by decide +kernel

section
variable {X : Cx}
theorem IxR.imp {r r' : R2} (h : IxR X r) (hi : ∀ x y H Q, r' x y H Q → r x y H Q) : IxR X r' := fun v sl pins s σ H x y vv u Q I rx ry q hs => h v sl pins s σ H x y vv u Q I rx ry (hi _ _ _ _ q) hs
theorem CallR.imp {f : Value} {r r' : List V → Hp → VK → Prop} (h : CallR X f r) (hi : ∀ xs H Q, r' xs H Q → r xs H Q) : CallR X f r' := fun pins s σ H xs us Q I rs q => h pins s σ H xs us Q I rs (hi _ _ _ q)
def rIxH (K : PySem.W.Frag) : R2 := fun x y H Q => ∃ p i, x = .ref p ∧ y = .int i ∧ ∃ xs, vw K H p = some (.lst xs) ∧ ∃ v, atI xs i = some v ∧ Q v H
def rIxU (K : PySem.W.Frag) : R2 := fun x y H Q => ∃ p i, x = .ref p ∧ y = .int i ∧ ∃ xs, vw K H p = some (.tup xs) ∧ ∃ v, atI xs i = some v ∧ Q v H
theorem ix_h : IxR X (rIxH X.K) := ix_list.imp fun _ _ _ _ ⟨p, i, e1, e2, xs, e3, v, e4, q⟩ => ⟨p, xs, i, v, e1, e2, .of (vw_lst e3), e4, q⟩
theorem ix_u : IxR X (rIxU X.K) := ix_tup.imp fun _ _ _ _ ⟨p, i, e1, e2, xs, e3, v, e4, q⟩ => ⟨p, xs, i, v, e1, e2, vw_tup e3, e4, q⟩
def lenH (H : Hp) (p : Addr) : Option Nat := match H p with
  | some (.lst xs) => some xs.length
  | some (.frz _ (.lst xs)) => some xs.length
  | some (.tup xs) => some xs.length
  | _ => none
theorem call_lenH : CallR X (.builtin "len") (fun xs H Q => ∃ p, xs = [.ref p] ∧ ∃ n : Nat, lenH (vw X.K H) p = some n ∧ Q (.int n) H) := call_len_seq.imp fun xs H Q ⟨p, e, n, hn, q⟩ => by
  unfold lenH at hn
  split at hn
  · rename_i ys hp
    cases hn
    exact ⟨p, ys, e, .inl (.of (vw_lst hp)), q⟩
  · rename_i o ys hp
    cases hn
    exact ⟨p, ys, e, .inl (.inl (.inr ⟨o, vw_get hp fun _ z => by cases z⟩)), q⟩
  · rename_i ys hp
    cases hn
    exact ⟨p, ys, e, .inr (vw_tup hp), q⟩
  · cases hn
def gTupH (K : PySem.W.Frag) (n : Nat) (t : TGs) : TG := fun v σ H Q => ∃ a, v = .ref a ∧ ∃ xs, vw K H a = some (.tup xs) ∧ xs.length = n ∧ t xs σ H Q
theorem pg_tupH {es : List Expr} {k : Nat} {t : TGs} {n : Nat} {pos : Pos} (hc : X.calm = true) (h : PGs X es t)
    (hn : (assignEach es X.env).length = n := by rfl) (hst : (assignEach es X.env).findIdx? (·.1) = none := by rfl) : PG X (.Tuple es k pos) (gTupH X.K n t) :=
  fun pins s σ H v u Q I r ⟨a, e, xs, hx, hl, q⟩ => pg_tup hc h hn hst pins s σ H v u Q I r ⟨a, xs, e, vw_tup hx, hl, q⟩
theorem atI_0 {α : Type} {x : α} {xs : List α} : atI (x :: xs) 0 = some x := atI_nat (j := 0) rfl
theorem atI_1 {α : Type} {x y : α} {xs : List α} : atI (x :: y :: xs) 1 = some y := atI_nat (j := 1) rfl
theorem atI_2 {α : Type} {x y z : α} {xs : List α} : atI (x :: y :: z :: xs) 2 = some z := atI_nat (j := 2) rfl
theorem atI_mem {α : Type} {xs : List α} {r : Int} (h0 : 0 ≤ r) (h1 : r < xs.length) : ∃ v, atI xs r = some v ∧ v ∈ xs := by
  have h2 : r.toNat < xs.length := by walk_at "o"
  refine ⟨xs[r.toNat], ?_, List.getElem_mem h2⟩
  have e := atI_nat (xs := xs) (j := r.toNat) (v := xs[r.toNat]) (List.getElem?_eq_getElem h2)
  rw [show ((r.toNat : Nat) : Int) = r by walk_at "o"] at e
  exact e
theorem Same.but_trans {H H1 H2 : Hp} {st : Addr} (s : Same H H1) (hn : H st = none) (b : But st H1 H2) : Same H H2 := fun c o e => b c o (ne_of_none e hn) (s c o e)
theorem But.same_trans {H H1 H2 : Hp} {st : Addr} (b : But st H H1) (s : Same H1 H2) : But st H H2 := b.trans (s.but st)
theorem ixN_2_0 : ixN 2 0 = some 0 := rfl
theorem TruV_bl {K : PySem.W.Frag} {b k : Bool} {H : Hp} : TruV K (.bl b) H k = (k = b) := rfl
theorem TruV_int {K : PySem.W.Frag} {i : Int} {k : Bool} {H : Hp} : TruV K (.int i) H k = (k = (i != 0)) := rfl
theorem CPow_of {i j : Int} (h : 0 ≤ j ∧ j ≤ 1000000 ∧ i.natAbs < 2 ^ 64) : CPow i j := h
end

def Nw (K : PySem.W.Frag) (H : Hp) (o : HO) (Q : VK) : Prop := ∀ p H2, vw K H p = none → Same (vw K H) (vw K H2) → vw K H2 p = some o → Q (.ref p) H2
theorem Nw.ok {K : PySem.W.Frag} {H : Hp} {o : HO} {Q : VK} (h : Nw K H o Q) {p : Addr} (hk : K.lookup p = none) (hp : H p = none) : Q (.ref p) (upd H p o) :=
  h p _ (by rw [vw_new hk]; exact hp) (vw_same (Same.upd hp)) (by rw [vw_new hk]; exact upd_same)
theorem Nw.al {K : PySem.W.Frag} {H : Hp} {o : HO} {Q : VK} (h : Nw K H o Q) : ∀ p, H p = none → Kf K (.ref p) (upd H p o) → Q (.ref p) (upd H p o) := fun p hp hk => h.ok (hk p _ rfl upd_same) hp
def tTupS (K : PySem.W.Frag) (t : TA) : TE := fun σ H Q => t σ H fun xs H1 => xs.length ≤ sizeLine ∧ Nw K H1 (.tup xs) Q
def tLstS (K : PySem.W.Frag) (t : TA) : TE := fun σ H Q => t σ H fun xs H1 => xs.length ≤ sizeLine ∧ Nw K H1 (.lst xs) Q
def tDctS (K : PySem.W.Frag) : TE := fun _ H Q => Nw K H (.dK []) Q
section
variable {X : Cx} {es : List Expr} {t : TA} {pos : Pos}
theorem pe_tupS {x1} (h : PA X es t) : PE X (.Tuple es x1 pos) (tTupS X.K t) := by
  intro pins s σ H Q I hq
  refine wpAny_Tuple_spliced (thn (h pos pins s σ H _ I hq) fun us s1 ⟨xs, H1, I1, r, z, q⟩ => ⟨by rw [← r.length]; exact z, ?_⟩)
  have hf : H1 s1.heap.objs.size = none := I1.hok.fresh (Nat.le_refl _)
  refine ⟨.ref s1.heap.objs.size, upd H1 s1.heap.objs.size (.tup xs), I1.laid (t' := s1.toks) (fun b u e => Heap.get?_push_of_some _ e) (Nat.le_refl _) ?_, rfl, q.ok (I1.newK (Nat.le_refl _)) hf⟩
  exact ⟨z, us, r, ⟨_, Heap.get?_push_size _ rfl, rfl, _, rfl⟩⟩
theorem pe_lstS (h : PA X es t) : PE X (.List es pos) (tLstS X.K t) := by
  intro pins s σ H Q I hq
  refine wpAny_List_spliced (thn (h pos pins s σ H _ I hq) fun us s1 ⟨xs, H1, I1, r, z, q⟩ => ⟨by rw [← r.length]; exact z, ?_⟩)
  have hf : H1 s1.heap.objs.size = none := I1.hok.fresh (Nat.le_refl _)
  refine ⟨.ref s1.heap.objs.size, upd H1 s1.heap.objs.size (.lst xs), I1.laid (t' := s1.toks) (fun b u e => Heap.get?_push_of_some _ e) (Nat.le_refl _) ?_, rfl, q.ok (I1.newK (Nat.le_refl _)) hf⟩
  exact ⟨z, us, 0, r, Heap.get?_push_size _ rfl⟩
theorem OpR.imp {f : Value → Value → Sem Value} {r r' : R2} (h : OpR X f r) (hi : ∀ x y H Q, r' x y H Q → r x y H Q) : OpR X f r' := fun pins s σ H x y v u Q I rx ry q => h pins s σ H x y v u Q I rx ry (hi _ _ _ _ q)
def rCatS (K : PySem.W.Frag) : R2 := fun x y H Q => ∃ l b, x = .ref l ∧ y = .ref b ∧ ∃ xs, vw K H l = some (.lst xs) ∧ ∃ zs, vw K H b = some (.lst zs) ∧ xs.length + zs.length ≤ sizeLine ∧ Nw K H (.lst (xs ++ zs)) Q
theorem op_catS : OpR X (binaryOp .Add) (rCatS X.K) := op_cat.kf.imp fun _ _ _ _ ⟨l, b, e1, e2, xs, h1, zs, h2, z, q⟩ => ⟨l, b, xs, zs, e1, e2, vw_lst h1, vw_lst h2, z, q.al⟩
def rRepS (K : PySem.W.Frag) : R2 := fun x y H Q => ∃ l k, x = .ref l ∧ y = .int k ∧ ∃ xs, vw K H l = some (.lst xs) ∧ -(2 ^ 63) ≤ k ∧ k < 2 ^ 63 ∧ xs.length * k.toNat ≤ sizeLine ∧ Nw K H (.lst (List.replicate k.toNat xs).flatten) Q
theorem op_repS : OpR X (binaryOp .Mult) (rRepS X.K) := op_rep.kf.imp fun _ _ _ _ ⟨l, k, e1, e2, xs, h1, z1, z2, z3, q⟩ => ⟨l, k, xs, e1, e2, vw_lst h1, z1, z2, z3, q.al⟩
def rMul (K : PySem.W.Frag) : R2 := fun x y H Q => rI IntMulOk (fun i j => .int (i * j)) x y H Q ∨ rRepS K x y H Q
def rPlus (K : PySem.W.Frag) : R2 := fun x y H Q => rI0 (fun i j => .int (i + j)) x y H Q ∨ rCatS K x y H Q
theorem op_Mul : OpR X (binaryOp .Mult) (rMul X.K) := op_mulX.or op_repS
theorem op_Plus : OpR X (binaryOp .Add) (rPlus X.K) := op_add.or op_catS
theorem rMul_int {K : PySem.W.Frag} {i j : Int} {H : Hp} {Q : VK} : rMul K (.int i) (.int j) H Q = (IntMulOk i j ∧ Q (.int (i * j)) H) := by
  simp [rMul, rI, rRepS]
theorem rMul_rep {K : PySem.W.Frag} {l : Addr} {j : Int} {H : Hp} {Q : VK} : rMul K (.ref l) (.int j) H Q = ∃ xs, vw K H l = some (.lst xs) ∧ -(2 ^ 63) ≤ j ∧ j < 2 ^ 63 ∧ xs.length * j.toNat ≤ sizeLine ∧ Nw K H (.lst (List.replicate j.toNat xs).flatten) Q := by
  simp [rMul, rI, rRepS]
theorem rPlus_int {K : PySem.W.Frag} {i j : Int} {H : Hp} {Q : VK} : rPlus K (.int i) (.int j) H Q = Q (.int (i + j)) H := by
  simp [rPlus, rI0, rCatS]
theorem rPlus_cat {K : PySem.W.Frag} {l b : Addr} {H : Hp} {Q : VK} : rPlus K (.ref l) (.ref b) H Q = ∃ xs, vw K H l = some (.lst xs) ∧ ∃ zs, vw K H b = some (.lst zs) ∧ xs.length + zs.length ≤ sizeLine ∧ Nw K H (.lst (xs ++ zs)) Q := by
  simp [rPlus, rI0, rCatS]
theorem call_listS : CallR X (.type "list") (fun xs H Q => ∃ p, xs = [.ref p] ∧ ∃ ys, vw X.K H p = some (.lst ys) ∧ Nw X.K H (.lst ys) Q) := call_list_of.kf.imp fun _ _ _ ⟨p, e, ys, h, q⟩ => ⟨p, ys, e, .inl (.of (vw_lst h)), q.al⟩
theorem SlR.imp {r r' : V → Option Int → Option Int → Hp → VK → Prop} (h : SlR X r) (hi : ∀ x a b H Q, r' x a b H Q → r x a b H Q) : SlR X r' := by
  intro value p2 pins s σ H x lo hi' v vl vh sl Q
  intros
  apply h <;> first | assumption | (apply hi; assumption)
def rSlS (K : PySem.W.Frag) : V → Option Int → Option Int → Hp → VK → Prop := fun x lo hi H Q => ∃ a, x = .ref a ∧ ∃ xs, vw K H a = some (.lst xs) ∧ Nw K H (.lst (cutV xs lo hi)) Q
theorem sl_listS : SlR X (rSlS X.K) := sl_list.kf.imp fun _ _ _ _ _ ⟨a, e, xs, h, q⟩ => ⟨a, xs, e, .of (vw_lst h), q.al⟩
def Chg (K : PySem.W.Frag) (H : Hp) (l : Addr) (o : HO) (Q : Hp → Prop) : Prop := ∀ H2, But l (vw K H) (vw K H2) → vw K H2 l = some o → Q H2
theorem Chg.ok {K : PySem.W.Frag} {H : Hp} {l : Addr} {o : HO} {Q : Hp → Prop} (h : Chg K H l o Q) (hk : K.lookup l = none) : Q (upd H l o) := h _ (vw_but But.upd) (by rw [vw_new hk]; exact upd_same)
def rSetS (K : PySem.W.Frag) : V → V → V → Hp → (Hp → Prop) → Prop := fun o i v H Q => ∃ p k, o = .ref p ∧ i = .int k ∧ ∃ xs, vw K H p = some (.lst xs) ∧ ∃ j, ixN xs.length k = some j ∧ Chg K H p (.lst (xs.set j v)) Q
theorem set_listS : PSet X (rSetS X.K) := fun pins s σ H o i v ov iv u Q I ro ri rv ⟨p, k, e1, e2, xs, h, j, e3, q⟩ => set_list pins s σ H o i v ov iv u Q I ro ri rv ⟨p, xs, k, j, e1, e2, vw_lst h, e3, q.ok (I.noK (vw_lst h))⟩
def rAppS (K : PySem.W.Frag) : V → List V → Hp → VK → Prop := fun x vs H Q => ∃ l y, x = .ref l ∧ vs = [y] ∧ ∃ xs, vw K H l = some (.lst xs) ∧ xs.length < sizeLine ∧ Chg K H l (.lst (xs ++ [y])) (Q .non)
theorem mt_appendS : MtM X "list.append" (rAppS X.K) := fun pins s σ H x vs v us Q I rx rv ⟨l, y, e1, e2, xs, h, z, q⟩ => mt_append pins s σ H x vs v us Q I rx rv ⟨l, xs, y, e1, e2, vw_lst h, z, q.ok (I.noK (vw_lst h))⟩
def rPopS (K : PySem.W.Frag) : V → List V → Hp → VK → Prop := fun x vs H Q => ∃ l, x = .ref l ∧ vs = [] ∧ ∃ xs, vw K H l = some (.lst xs) ∧ ∃ y, xs[xs.length - 1]? = some y ∧ Chg K H l (.lst xs.dropLast) (Q y)
end

def ForOK (J : It) (g : TG) (tb : TS) (D : Ends) (σ : St) (H1 : Hp) : Prop := ∃ W : Nat → Nat → St → Hp → Prop, (∃ m, W 0 m σ H1) ∧ ∀ i m σ H, W i m σ H →
  (J.stop i H ∧ D.nx σ H) ∨ (J.go i H ∧ ∃ N : St → Hp → Prop, (∀ σ' H', N σ' H' → ∃ m', m' < m ∧ W (i + 1) m' σ' H') ∧ ∀ x H', J.yld i H x H' → g x σ H' fun σ2 H2 => tb { D with nx := N, ct := N, bk := D.nx } σ2 H2)
theorem tFor_eq (wi : TI) (g : TG) (tb : TS) (D : Ends) (σ : St) (H : Hp) : tFor wi g tb D σ H = wi σ H fun J H1 => ForOK J g tb D σ H1 := rfl

end L2

set_option Elab.async false
set_option linter.all false
set_option maxRecDepth 100000
namespace L2
open PySem PySem.Spec PyProof.Rows
inductive D where
  | non | bl (b : Bool) | int (i : Int) | str (x : Str) | dict | tup (ds : List D) | lst (ds : List D)
mutual
def Rep (H : Hp) : D → V → Prop
  | .non, v => v = .non
  | .bl b, v => v = .bl b
  | .int i, v => v = .int i
  | .str x, v => v = .str x
  | .dict, v => ∃ a kvs, v = .ref a ∧ H a = some (.dK kvs)
  | .tup ds, v => ∃ a xs, v = .ref a ∧ H a = some (.tup xs) ∧ Reps H ds xs
  | .lst ds, v => ∃ a xs, v = .ref a ∧ H a = some (.lst xs) ∧ Reps H ds xs
def Reps (H : Hp) : List D → List V → Prop
  | [], xs => xs = []
  | d :: ds, xs => ∃ x r, xs = x :: r ∧ Rep H d x ∧ Reps H ds r
end
mutual
theorem Rep.same {H H' : Hp} (S : Same H H') : ∀ (d : D) (v : V), Rep H d v → Rep H' d v
  | .non, v, h => by unfold Rep at h ⊢; exact h
  | .bl b, v, h => by unfold Rep at h ⊢; exact h
  | .int i, v, h => by unfold Rep at h ⊢; exact h
  | .str x, v, h => by unfold Rep at h ⊢; exact h
  | .dict, v, h => by
    unfold Rep at h ⊢
    obtain ⟨a, kvs, e, h⟩ := h
    exact ⟨a, kvs, e, S _ _ h⟩
  | .tup ds, v, h => by
    unfold Rep at h ⊢
    obtain ⟨a, xs, e, h, r⟩ := h
    exact ⟨a, xs, e, S _ _ h, Reps.same S ds xs r⟩
  | .lst ds, v, h => by
    unfold Rep at h ⊢
    obtain ⟨a, xs, e, h, r⟩ := h
    exact ⟨a, xs, e, S _ _ h, Reps.same S ds xs r⟩
theorem Reps.same {H H' : Hp} (S : Same H H') : ∀ (ds : List D) (xs : List V), Reps H ds xs → Reps H' ds xs
  | [], xs, h => by unfold Reps at h ⊢; exact h
  | d :: ds, xs, h => by
    unfold Reps at h ⊢
    obtain ⟨x, r, e, h1, h2⟩ := h
    exact ⟨x, r, e, Rep.same S d x h1, Reps.same S ds r h2⟩
end
theorem Reps.get {H : Hp} : ∀ {ds : List D} {xs : List V} {i : Nat} {x : V}, Reps H ds xs → xs[i]? = some x → ∃ d, ds[i]? = some d ∧ Rep H d x
  | [], xs, i, x, h, e => by
    unfold Reps at h
    subst h
    simp at e
  | d :: ds, xs, i, x, h, e => by
    unfold Reps at h
    obtain ⟨y, r, rfl, h1, h2⟩ := h
    cases i with
    | zero =>
      have e' : y = x := by simpa using e
      subst e'
      exact ⟨d, by simp, h1⟩
    | succ i =>
      obtain ⟨d', e1, e2⟩ := Reps.get (i := i) h2 (by simpa using e)
      exact ⟨d', by simpa using e1, e2⟩
theorem Reps.length {H : Hp} : ∀ {ds : List D} {xs : List V}, Reps H ds xs → xs.length = ds.length
  | [], xs, h => by
    unfold Reps at h
    subst h
    rfl
  | d :: ds, xs, h => by
    unfold Reps at h
    obtain ⟨y, r, rfl, _, h2⟩ := h
    simp [Reps.length h2]
def D.ty : D → String
  | .non => "NoneType" | .bl _ => "bool" | .int _ => "int" | .str _ => "str" | .dict => "dict" | .tup _ => "tuple" | .lst _ => "list"
theorem Rep.ty {H : Hp} {d : D} {v : V} (h : Rep H d v) : tyN H v = some d.ty := by
  cases d <;> unfold Rep at h
  · subst h; rfl
  · subst h; rfl
  · subst h; rfl
  · subst h; rfl
  · obtain ⟨a, kvs, rfl, h⟩ := h
    simp only [tyN, h, D.ty]
  · obtain ⟨a, xs, rfl, h, _⟩ := h
    simp only [tyN, h, D.ty]
  · obtain ⟨a, xs, rfl, h, _⟩ := h
    simp only [tyN, h, D.ty]

theorem gcd_fmod (a b : Int) : Int.gcd b (a.fmod b) = Int.gcd a b := by
  rw [Int.fmod_def, Int.gcd_comm a b]
  have : a - b * a.fdiv b = a + b * (- a.fdiv b) := by rw [Int.mul_neg]; walk_at "o"
  rw [this]
  simp
theorem fmod_lt (a : Int) {b : Int} (hb : b ≠ 0) : (a.fmod b).natAbs < b.natAbs := by
  rcases Int.lt_or_gt_of_ne hb with h | h
  · obtain ⟨n, rfl⟩ : ∃ n : Nat, b = Int.negSucc n := ⟨(-b - 1).toNat, by walk_at "o"⟩
    cases a with
    | ofNat m =>
      cases m with
      | zero => simp [Int.fmod]
      | succ m =>
        show (Int.subNatNat (m % (n + 1)) n).natAbs < n + 1
        have := Nat.mod_lt m (show 0 < n + 1 by walk_at "o")
        rw [Int.subNatNat_eq_coe]
        generalize m % (n + 1) = z at *
        walk_at "o"
    | negSucc m =>
      show (-((((m + 1) % (n + 1) : Nat)) : Int)).natAbs < n + 1
      have := Nat.mod_lt (m + 1) (show 0 < n + 1 by walk_at "o")
      generalize (m + 1) % (n + 1) = z at *
      walk_at "o"
  · have h1 := Int.fmod_nonneg_of_pos a h
    have h2 := Int.fmod_lt_of_pos a h
    walk_at "o"
def lg (a b : Int) : Int := if b < 0 then -(Int.gcd a b : Int) else (Int.gcd a b : Int)
def lo (a b : Int) : Int × Int := (a.fdiv (lg a b), b.fdiv (lg a b))
def fr (q : Int × Int) : D := .tup [.int q.1, .int q.2]
def Fq (q : Int × Int) : Prop := 0 < q.2 ∧ Int.gcd q.1 q.2 = 1
theorem lg_ne {a b : Int} (hb : b ≠ 0) : lg a b ≠ 0 := by
  have h : Int.gcd a b ≠ 0 := fun e => hb (Int.gcd_eq_zero_iff.mp e).2
  unfold lg
  split <;> walk_at "o"
theorem lg_dvd_left (a b : Int) : lg a b ∣ a := by
  unfold lg
  split
  · exact Int.neg_dvd.mpr (Int.gcd_dvd_left ..)
  · exact Int.gcd_dvd_left ..
theorem lg_dvd_right (a b : Int) : lg a b ∣ b := by
  unfold lg
  split
  · exact Int.neg_dvd.mpr (Int.gcd_dvd_right ..)
  · exact Int.gcd_dvd_right ..
theorem lo_mul_left {a b : Int} (hb : b ≠ 0) : (lo a b).1 * lg a b = a := by
  show a.fdiv (lg a b) * lg a b = a
  exact Int.fdiv_mul_cancel (lg_dvd_left a b)
theorem lo_mul_right {a b : Int} (hb : b ≠ 0) : (lo a b).2 * lg a b = b := by
  show b.fdiv (lg a b) * lg a b = b
  exact Int.fdiv_mul_cancel (lg_dvd_right a b)
theorem lg_natAbs (a b : Int) : (lg a b).natAbs = Int.gcd a b := by
  unfold lg
  split <;> walk_at "o"
theorem lo_Fq {a b : Int} (hb : b ≠ 0) : Fq (lo a b) := by
  have h1 := lo_mul_left (a := a) hb
  have h2 := lo_mul_right (a := a) hb
  have hg : 0 < Int.gcd a b := Nat.pos_of_ne_zero fun e => hb (Int.gcd_eq_zero_iff.mp e).2
  constructor
  · by_cases hn : b < 0
    · have e : lg a b = -(Int.gcd a b : Int) := if_pos hn
      rw [e] at h2
      rcases Int.lt_trichotomy (lo a b).2 0 with h | h | h
      · have := Int.mul_nonneg_of_nonpos_of_nonpos (Int.le_of_lt h) (show -(Int.gcd a b : Int) ≤ 0 by walk_at "o")
        walk_at "o"
      · rw [h] at h2; walk_at "o"
      · exact h
    · have e : lg a b = (Int.gcd a b : Int) := if_neg hn
      rw [e] at h2
      rcases Int.lt_trichotomy (lo a b).2 0 with h | h | h
      · have := Int.mul_nonpos_of_nonpos_of_nonneg (Int.le_of_lt h) (show 0 ≤ (Int.gcd a b : Int) by walk_at "o")
        walk_at "o"
      · rw [h] at h2; walk_at "o"
      · exact h
  · have e : Int.gcd ((lo a b).1 * lg a b) ((lo a b).2 * lg a b) = Int.gcd (lo a b).1 (lo a b).2 * (lg a b).natAbs := Int.gcd_mul_right ..
    rw [h1, h2, lg_natAbs] at e
    have : 1 * Int.gcd a b = Int.gcd (lo a b).1 (lo a b).2 * Int.gcd a b := by walk_at "o"
    exact (Nat.eq_of_mul_eq_mul_right hg this).symm

mutual
def D.noSt : D → Bool
  | .lst [.int _, .bl _] => false
  | .lst ds => D.noSts ds
  | .tup ds => D.noSts ds
  | _ => true
def D.noSts : List D → Bool
  | [] => true
  | d :: ds => d.noSt && D.noSts ds
end
def StOk (H : Hp) (st : Addr) : Prop := ∃ x b, H st = some (.lst [.int x, .bl b]) ∧ (b = false → 0 ≤ x ∧ x < 2147483647)
theorem noSt_lst {ds : List D} (h : D.noSt (.lst ds) = true) : D.noSts ds = true ∧ ∀ i b, ds ≠ [.int i, .bl b] := by
  unfold D.noSt at h
  split at h
  · cases h
  · rename_i hne e
    cases e
    exact ⟨h, fun i b z => hne i b (by rw [z])⟩
  · rename_i e; cases e
  · rename_i e _; exact (e _ rfl).elim
theorem Rep.lst_st {H : Hp} {ds : List D} {x : Int} {b : Bool} (h : Reps H ds [.int x, .bl b]) : ds = [.int x, .bl b] := by
  match ds with
  | [] => unfold Reps at h; cases h
  | [d] =>
    unfold Reps at h
    obtain ⟨_, _, e, _, h⟩ := h
    unfold Reps at h
    subst h
    cases e
  | d1 :: d2 :: d3 :: r =>
    have := Reps.length h
    simp at this
  | [d1, d2] =>
    unfold Reps at h
    obtain ⟨_, _, e, h1, h⟩ := h
    cases e
    unfold Reps at h
    obtain ⟨_, _, e, h2, h⟩ := h
    cases e
    have e1 : d1 = .int x := by
      cases d1 <;> unfold Rep at h1 <;> first | (cases h1; rfl) | (obtain ⟨_, _, e, _⟩ := h1; cases e) | cases h1
    have e2 : d2 = .bl b := by
      cases d2 <;> unfold Rep at h2 <;> first | (cases h2; rfl) | (obtain ⟨_, _, e, _⟩ := h2; cases e) | cases h2
    rw [e1, e2]
mutual
theorem Rep.but {H H' : Hp} {st : Addr} (S : But st H H') (hst : StOk H st) : ∀ (d : D) (v : V), d.noSt = true → Rep H d v → Rep H' d v
  | .non, v, _, h => by unfold Rep at h ⊢; exact h
  | .bl b, v, _, h => by unfold Rep at h ⊢; exact h
  | .int i, v, _, h => by unfold Rep at h ⊢; exact h
  | .str x, v, _, h => by unfold Rep at h ⊢; exact h
  | .dict, v, _, h => by
    unfold Rep at h ⊢
    obtain ⟨a, kvs, e, h⟩ := h
    obtain ⟨_, _, hs, _⟩ := hst
    exact ⟨a, kvs, e, S _ _ (ne_of h hs (by intro z; cases z)) h⟩
  | .tup ds, v, hn, h => by
    unfold Rep at h ⊢
    obtain ⟨a, xs, e, h, r⟩ := h
    obtain ⟨x, b, hs, hb⟩ := id hst
    exact ⟨a, xs, e, S _ _ (ne_of h hs (by intro z; cases z)) h, Reps.but S hst ds xs (by unfold D.noSt at hn; exact hn) r⟩
  | .lst ds, v, hn, h => by
    unfold Rep at h ⊢
    obtain ⟨a, xs, e, h, r⟩ := h
    obtain ⟨x, b, hs, hb⟩ := id hst
    obtain ⟨hn1, hn2⟩ := noSt_lst hn
    refine ⟨a, xs, e, S _ _ (ne_of h hs fun z => ?_) h, Reps.but S hst ds xs hn1 r⟩
    cases z
    exact hn2 _ _ (Rep.lst_st r)
theorem Reps.but {H H' : Hp} {st : Addr} (S : But st H H') (hst : StOk H st) : ∀ (ds : List D) (xs : List V), D.noSts ds = true → Reps H ds xs → Reps H' ds xs
  | [], xs, _, h => by unfold Reps at h ⊢; exact h
  | d :: ds, xs, hn, h => by
    unfold D.noSts at hn
    rw [Bool.and_eq_true] at hn
    unfold Reps at h ⊢
    obtain ⟨x, r, e, h1, h2⟩ := h
    exact ⟨x, r, e, Rep.but S hst d x hn.1 h1, Reps.but S hst ds r hn.2 h2⟩
end

theorem StOk.same {H H' : Hp} {st : Addr} (h : StOk H st) (S : Same H H') : StOk H' st := by
  obtain ⟨x, b, e, k⟩ := h
  exact ⟨x, b, S _ _ e, k⟩
theorem StOk.ne {H : Hp} {st p : Addr} (h : StOk H st) (hp : H p = none) : p ≠ st := by
  obtain ⟨x, b, e, k⟩ := h
  exact (ne_of_none e hp).symm
theorem Rep.tup_at {H : Hp} {ds : List D} {v : V} (h : Rep H (.tup ds) v) : ∃ a xs, v = .ref a ∧ H a = some (.tup xs) ∧ Reps H ds xs := by
  unfold Rep at h
  exact h
theorem Rep.lst_at {H : Hp} {ds : List D} {v : V} (h : Rep H (.lst ds) v) : ∃ a xs, v = .ref a ∧ H a = some (.lst xs) ∧ Reps H ds xs := by
  unfold Rep at h
  exact h
theorem Reps.nil_at {H : Hp} {xs : List V} (h : Reps H [] xs) : xs = [] := by
  unfold Reps at h
  exact h
theorem Reps.cons_at {H : Hp} {d : D} {ds : List D} {xs : List V} (h : Reps H (d :: ds) xs) : ∃ x r, xs = x :: r ∧ Rep H d x ∧ Reps H ds r := by
  unfold Reps at h
  exact h
theorem Rep.int_at {H : Hp} {i : Int} {v : V} (h : Rep H (.int i) v) : v = .int i := by
  unfold Rep at h
  exact h
theorem Reps.pair {H : Hp} {ds : List D} {xs : List V} (h : Reps H ds xs) (hl : xs.length = 2) : ∃ d1 d2 x1 x2, ds = [d1, d2] ∧ xs = [x1, x2] ∧ Rep H d1 x1 ∧ Rep H d2 x2 := by
  have e := h.length
  match ds, e with
  | [], e => rw [hl] at e; cases e
  | [_], e => rw [hl] at e; cases e
  | _ :: _ :: _ :: _, e => rw [hl] at e; cases e
  | [d1, d2], _ =>
    obtain ⟨x1, r, rfl, h1, h⟩ := h.cons_at
    obtain ⟨x2, r, rfl, h2, h⟩ := h.cons_at
    cases h.nil_at
    exact ⟨_, _, _, _, rfl, rfl, h1, h2⟩
theorem Rep.mk_int {H : Hp} (i : Int) : Rep H (.int i) (.int i) := by unfold Rep; rfl
theorem Reps.mk_nil {H : Hp} : Reps H [] [] := by unfold Reps; rfl
theorem Reps.mk_cons {H : Hp} {d : D} {ds : List D} {x : V} {xs : List V} (h1 : Rep H d x) (h2 : Reps H ds xs) : Reps H (d :: ds) (x :: xs) := by unfold Reps; exact ⟨_, _, rfl, h1, h2⟩
theorem Rep.mk_tup {H : Hp} {a : Addr} {ds : List D} {xs : List V} (h : H a = some (.tup xs)) (r : Reps H ds xs) : Rep H (.tup ds) (.ref a) := by unfold Rep; exact ⟨_, _, rfl, h, r⟩
theorem Rep.mk_lst {H : Hp} {a : Addr} {ds : List D} {xs : List V} (h : H a = some (.lst xs)) (r : Reps H ds xs) : Rep H (.lst ds) (.ref a) := by unfold Rep; exact ⟨_, _, rfl, h, r⟩
theorem Rep.fr_at {H : Hp} {q : Int × Int} {v : V} (h : Rep H (fr q) v) : ∃ a, v = .ref a ∧ H a = some (.tup [.int q.1, .int q.2]) := by
  obtain ⟨a, xs, e, ha, r⟩ := h.tup_at
  obtain ⟨x1, r1, rfl, h1, r⟩ := r.cons_at
  obtain ⟨x2, r2, rfl, h2, r⟩ := r.cons_at
  cases r.nil_at
  rw [h1.int_at, h2.int_at] at ha
  exact ⟨a, e, ha⟩
abbrev Bt (n : Nat) (x : Int) : Prop := x.natAbs < 2 ^ n
theorem Bt.ib {n : Nat} {x : Int} (h : Bt n x) : Builtin.Int.intBits x ≤ n := by
  unfold Builtin.Int.intBits
  split
  · exact Nat.zero_le _
  · rename_i h0
    have h1 : x.natAbs ≠ 0 := by
      intro e
      apply h0
      have : x = 0 := by walk_at "o"
      rw [this]
      rfl
    have := (Nat.log2_lt h1).mpr h
    walk_at "o"
theorem mulOk {m n : Nat} {x y : Int} (hx : Bt m x) (hy : Bt n y) (h : m + n ≤ 134217728 := by decide) : IntMulOk x y := PySem.IntMulOk.of_le hx.ib hy.ib h
theorem Bt.mono {m n : Nat} {x : Int} (hx : Bt m x) (h : m ≤ n) : Bt n x := Nat.lt_of_lt_of_le hx (Nat.pow_le_pow_right (by decide) h)
theorem Bt.mul {m n : Nat} {x y : Int} (hx : Bt m x) (hy : Bt n y) : Bt (m + n) (x * y) := by
  unfold Bt
  rw [Int.natAbs_mul, Nat.pow_add]
  exact Nat.mul_lt_mul'' hx hy
theorem Bt.add {m n : Nat} {x y : Int} (hx : Bt m x) (hy : Bt n y) : Bt (max m n + 1) (x + y) := by
  have h1 := hx.mono (Nat.le_max_left m n)
  have h2 := hy.mono (Nat.le_max_right m n)
  unfold Bt at *
  rw [Nat.pow_succ]
  have := Int.natAbs_add_le x y
  walk_at "o"
theorem divX {x y : Int} (h : y ≠ 0) (hb : Bt 9000 y) : CDivX x y := ⟨h, by
  by_cases h0 : y.natAbs = 0
  · rw [h0]; decide +kernel
  · exact (Nat.log2_lt h0).mpr hb⟩
theorem bt_fmod {x k : Int} {n : Nat} (hk : 0 < k) (h : k.natAbs ≤ 2 ^ n) : Bt n (x.fmod k) := by
  have h1 := Int.fmod_nonneg_of_pos x hk
  have h2 := Int.fmod_lt_of_pos x hk
  unfold Bt
  walk_at "o"
theorem mulOk_l {x y : Int} (hx : Bt 64 x) : IntMulOk x y := .of_left hx.ib
theorem mulOk_r {x y : Int} (hy : Bt 64 y) : IntMulOk x y := .of_right hy.ib
theorem log2_of_lt {y : Int} (h : y.natAbs < 2 ^ 9000) : y.natAbs.log2 < 9000 := by
  by_cases h0 : y.natAbs = 0
  · rw [h0]; decide +kernel
  · exact (Nat.log2_lt h0).mpr h
end L2
namespace L2
theorem iteP {c A B : Prop} [Decidable c] (hc : c) (h : A) : if c then A else B := by rw [if_pos hc]; exact h
theorem iteN {c A B : Prop} [Decidable c] (hc : ¬ c) (h : B) : if c then A else B := by rw [if_neg hc]; exact h
end L2
namespace L2
end L2
namespace L2
open PySem
mutual
def D.ib : D → Bool
  | .int i => decide (i.natAbs < 2 ^ 200)
  | .tup ds => D.ibs ds
  | .lst ds => D.ibs ds
  | _ => true
def D.ibs : List D → Bool
  | [] => true
  | d :: ds => d.ib && D.ibs ds
end
end L2

set_option Elab.async false
set_option linter.all false
set_option maxRecDepth 100000
namespace L2
open PySem PySem.Spec PyProof.Rows
section
variable {prog : Program} {w : World} {A : Around} {R : Result → Shared → Prop} {s : Shared}
theorem compLoop_any {elt target iter : Expr} {ifs : List Expr} {scope : Scope} {pos : Pos} {it acc : Value} {env : Env} {EE : Value → Shared → Prop} (hEE : EE = notedBy (model prog w) A env fun e s' => R (.error e) s') (Iv : Nat → Shared → Prop)
    (turn : ∀ n s, Iv n s → wpAny (model prog w) A (pyNext it) (fun r s1 => match r with
      | none => R (.ok .next) s1
      | some v => wpAny (model prog w) A (letOwnedTupleGo target it v) (fun _ s2 => wpAny (model prog w) A (assign target env v) (fun _ s3 =>
          wpAny (model prog w) A (forIn ifs true fun c r => if r = true then do let ok ← isTrue c env (eval c env); pure (ForInStep.yield ok) else pure (ForInStep.yield r)) (fun ok s4 =>
            if ok = true then wpAny (model prog w) A (eval elt env) (fun x s5 => wpAny (model prog w) A (call (.builtin "list.append") [acc, x]) (fun _ s6 => ∃ m, m < n ∧ Iv m s6) EE s5) EE s4
            else ∃ m, m < n ∧ Iv m s4) EE s3) EE s2) EE s1) EE s)
    (n : Nat) (h : Iv n s) : codeAny (model prog w) A (.compLoop (.ListComp elt [⟨target, iter, ifs, 0⟩] scope pos) 0 it acc env) R s := by
  subst hEE
  refine codeAny_loop rfl Iv (fun n s hI => ?_) n h
  show wpAny _ A ((compTurn (.ListComp elt [⟨target, iter, ifs, 0⟩] scope pos) 0 it acc env).onRaise (fun x => do noteFrame x env; theTreesLotGoes x)) _ _ s
  refine wpAny_noted ?_
  rw [compTurn_list]
  refine wpAny_bind (wpAny_standAt (wpAny_bind (wpAny_mono (turn n s hI) (fun r s1 h1 => ?_) fun _ _ h' => h')))
  cases r with
  | none => exact wpAny_pure h1
  | some v =>
    refine wpAny_bind (wpAny_mono h1 (fun _ s2 h2 => ?_) fun _ _ h' => h')
    refine wpAny_bind (wpAny_mono h2 (fun _ s3 h3 => wpAny_bind (wpAny_mono h3 (fun ok s4 h4 => ?_) fun _ _ h' => h')) fun _ _ h' => h')
    cases ok with
    | false => exact wpAny_pure ⟨rfl, h4⟩
    | true => exact wpAny_bind (wpAny_bind (wpAny_mono h4 (fun x s5 h5 => wpAny_bind (wpAny_mono h5 (fun _ s6 h6 => wpAny_pure (wpAny_pure ⟨rfl, h6⟩)) fun _ _ h' => h')) fun _ _ h' => h'))
end

def cxC (X : Cx) (scope : Scope) (cl : List (Str × Addr)) (N : List Str) (C : Addr) (s : Shared) (H : Hp) (ex : List Addr) : Cx :=
  { X with N := N, s₀ := s, H₀ := H, env := compEnvC scope cl C X.env, outer := X.stack, ex := ex, fn := fun _ => false, pn := [], xe := fun _ _ => False }
def Outs (X : Cx) (scope : Scope) (cl : List (Str × Addr)) : List Str → List Nat → Prop
  | [], [] => True
  | x :: xs, j :: js => (X.N[j]? = some x ∧ X.env.kindOf x = some .cell ∧ (relabel scope X.env).names.lookup x = some .cell ∧ (∃ c, cl.lookup x = some c)) ∧ Outs X scope cl xs js
  | _, _ => False
theorem Outs.length {X : Cx} {scope : Scope} {cl : List (Str × Addr)} : ∀ {xs : List Str} {js : List Nat}, Outs X scope cl xs js → js.length = xs.length
  | [], [], _ => rfl
  | _ :: _, _ :: _, h => by simp [Outs.length h.2]
  | [], _ :: _, h => h.elim
  | _ :: _, [], h => h.elim
theorem Outs.get {X : Cx} {scope : Scope} {cl : List (Str × Addr)} : ∀ {xs : List Str} {js : List Nat} {k j : Nat} {x : Str}, Outs X scope cl xs js → xs[k]? = some x → js[k]? = some j →
    X.N[j]? = some x ∧ X.env.kindOf x = some .cell ∧ (relabel scope X.env).names.lookup x = some .cell ∧ ∃ c, cl.lookup x = some c
  | [], _, _, _, _, _, e, _ => by simp at e
  | _ :: _, [], _, _, _, _, _, e => by simp at e
  | x :: xs, j :: js, 0, _, _, h, e1, e2 => by
    simp at e1 e2
    subst e1
    subst e2
    exact h.1
  | x :: xs, j :: js, k + 1, _, _, h, e1, e2 => Outs.get (k := k) h.2 (by simpa using e1) (by simpa using e2)
def CellsOk (X : Cx) : List (Str × Addr) → Prop
  | [] => True
  | p :: r => X.env.cells.lookup p.1 = some p.2 ∧ CellsOk X r
theorem CellsOk.mem {X : Cx} : ∀ {cl : List (Str × Addr)}, CellsOk X cl → ∀ p ∈ cl, X.env.cells.lookup p.1 = some p.2
  | [], _, p, hp => by cases hp
  | q :: r, h, p, hp => by
    rcases List.mem_cons.mp hp with rfl | hp
    · exact h.1
    · exact CellsOk.mem h.2 p hp
structure CompSc (X : Cx) (scope : Scope) (cl : List (Str × Addr)) (own outs : List Str) (ixs : List Nat) : Prop where
  nocell : (scope.names.all fun y => y.2 != .cell) = true
  kind : scope.kind = .function
  names : (scope.names.all fun y => y.2 != .local || scope.names.lookup y.1 == some .local) = true
  cells : CellsOk X cl
  has : ((relabel scope X.env).names.all fun y => !(y.2 == .cell || y.2 == .free) || (cl.lookup y.1).isSome) = true
  outs : Outs X scope cl outs ixs
def PF (X : Cx) (ifs : List Expr) (t : TT) : Prop :=
  ∀ (pins : List (Addr × Obj)) (s : Shared) (σ : St) (H : Hp) (Q : Bool → Hp → Prop), Inv X pins σ H s → t σ H Q →
    wpAny (model X.prog X.w) X.A (forIn ifs true fun c r => if r = true then do let ok ← isTrue c X.env (eval c X.env); pure (ForInStep.yield ok) else pure (ForInStep.yield r)) (TP X pins σ Q) X.xe s
def tYes : TT := fun _ H Q => Q true H
theorem pf_nil {X : Cx} : PF X [] tYes := fun _ _ _ H _ I h => wpAny_tests_nil ⟨H, I, h⟩
theorem pf_one {X : Cx} {c : Expr} {t : TT} (h : PT X c t) : PF X [c] t := fun pins s σ H Q I q => wpAny_tests_one (h pins s σ H Q I q)
def CompOK (K : PySem.W.Frag) (J : It) (g : TG) (tif : TT) (te : TE) (a : Addr) (σ0 : St) (H0 : Hp) (Q : Hp → Prop) : Prop := ∃ W : Nat → Nat → St → Hp → Prop, (∃ m, W 0 m σ0 H0) ∧ ∀ i m σ H, W i m σ H →
  (J.stop i H ∧ Q H) ∨ (J.go i H ∧ ∃ N : St → Hp → Prop, (∀ σ' H', N σ' H' → ∃ m', m' < m ∧ W (i + 1) m' σ' H') ∧ ∀ x H', J.yld i H x H' → g x σ H' fun σ2 H2 => tif σ2 H2 fun b H3 => if b = true then te σ2 H3 fun v H4 => ∃ xs, vw K H4 a = some (.lst xs) ∧ xs.length < sizeLine ∧
    ∀ H5, But a (vw K H4) (vw K H5) → vw K H5 a = some (.lst (xs ++ [v])) → N σ2 H5 else N σ2 H3)
def outV (σ : St) (ixs : List Nat) : St := ixs.map fun j => (σ[j]?).join
def tComp (K : PySem.W.Frag) (wi : TI) (n : Nat) (ixs : List Nat) (g : TG) (tif : TT) (te : TE) : TE := fun σ H Q => wi σ H fun J H1 => ∀ a H2, vw K H1 a = none → Same (vw K H1) (vw K H2) → vw K H2 a = some (.lst []) → CompOK K J g tif te a (List.replicate n none ++ outV σ ixs) H2 (Q (.ref a))
section
variable {X : Cx}
theorem comp_core {tg iter elt : Expr} {ifs : List Expr} {scope : Scope} {pos ipos : Pos} {wi : TI} {g : TG} {tif : TT} {te : TE} {cl : List (Str × Addr)} {own outs : List Str} {ixs : List Nat} {use : Option (Value → Sem Unit)} {Qv : Value → Shared → Prop}
    (hc : X.calm = true) (hi : PI X tg iter wi) (hclos : closureFor scope X.env = pure cl) (S : CompSc X scope cl own outs ixs)
    {G : Shared → Hp → List Addr → Prop} (hb : ∀ C s H ex, G s H ex → PG (cxC X scope cl (own ++ outs) C s H ex) tg g ∧ PF (cxC X scope cl (own ++ outs) C s H ex) ifs tif ∧ PE (cxC X scope cl (own ++ outs) C s H ex) elt te)
    (hs : ∀ x, foldedSetIterable iter X.env x = pure x) {pins : List (Addr × Obj)} {s : Shared} {σ : St} {H : Hp} (hG : ∀ s2 H1 H2 fp, Inv X pins σ H2 s2 → (∀ b ∈ fp, FpOk X pins H1 b) → G s2 H2 fp) (I : Inv X pins σ H s) (Qd : Addr → Hp → Prop)
    (hfin : ∀ (a C : Addr) (H' : Hp) (s4 : Shared) (m : Str → Option Value), Inv X pins σ H' s4 → FpOk X pins H' C → s4.heap.Ns C m → Qd a H' → compPost (model X.prog X.w) X.A X.xe use Qv (.ref a) C (.ok .next) s4)
    (h : wi σ H fun J H1 => ∀ a H2, vw X.K H1 a = none → Same (vw X.K H1) (vw X.K H2) → vw X.K H2 a = some (.lst []) → CompOK X.K J g tif te a (List.replicate own.length none ++ outV σ ixs) H2 (Qd a)) :
    wpAny (model X.prog X.w) X.A (comprehension (.ListComp elt [⟨tg, iter, ifs, 0⟩] scope pos) scope X.env ipos (newList []) false (eval iter X.env) use) Qv X.xe s := by
  have Snc : ∀ y ∈ scope.names, y.2 ≠ .cell := fun y hy z => by
    have := List.all_eq_true.mp S.nocell y hy
    rw [z] at this
    cases this
  have Snm : ∀ y ∈ scope.names, y.2 = .local → scope.names.lookup y.1 = some .local := fun y hy z => by
    have := List.all_eq_true.mp S.names y hy
    rw [z] at this
    simpa using this
  have Shs : ∀ y ∈ (relabel scope X.env).names, (y.2 = .cell ∨ y.2 = .free) → (cl.lookup y.1).isSome = true := fun y hy z => by
    have := List.all_eq_true.mp S.has y hy
    rcases z with z | z
    · rw [z] at this
      simpa using this
    · rw [z] at this
      simpa using this
  refine wpAny_comprehension_free (use := use) rfl hs hclos S.kind Snm (wpAny_mono (hi pins s σ H _ I h) (fun xv s1 h1 => wpAny_mono h1 (fun itv s2 h2 => ?_) fun _ _ e => e) fun _ _ e => e)
  obtain ⟨it, fp, tn, J, H1, rfl, I1, T, st1, f1, q⟩ := h2
  refine wpAny_newObj_type (wpAny_newFunctionEnv Snc (by intro y hy; simp at hy) (fun h₁ hns₁ hsb₁ => ?_) S.kind)
  dsimp only at hns₁ hsb₁ ⊢
  have I2 : Inv X pins σ (upd H1 s2.heap.objs.size (.lst [])) { s2 with heap := s2.heap.push { cls := .type "list", dict := none, data := .seq ([] : List Value).toArray } } := I1.lnew (t' := s2.toks) .nil (Nat.zero_le _)
  have q2 := q s2.heap.objs.size (upd H1 s2.heap.objs.size (.lst [])) (by rw [vw_new (I1.newK (Nat.le_refl _))]; exact I1.fresh) (vw_same (Same.upd I1.fresh)) (by rw [vw_new (I1.newK (Nat.le_refl _))]; exact upd_same)
  have fr2 : ∀ b ∈ fp, (upd H1 s2.heap.objs.size (.lst [])) b = none := fun b hb => by
    obtain ⟨o, ho, _⟩ := T.obj _ _ st1 b hb
    rw [upd_ne (Nat.ne_of_lt (Heap.lt_size ho))]
    exact (f1 b hb).1
  generalize hH2 : upd H1 s2.heap.objs.size (.lst []) = H2 at I2 q2 fr2
  generalize hs3 : s2.heap.push { cls := .type "list", dict := none, data := .seq ([] : List Value).toArray } = hp3 at I2 hns₁ hsb₁ ⊢
  have old23 : ∀ b o, s2.heap.get? b = some o → hp3.get? b = some o := fun b o e => hs3 ▸ Heap.get?_push_of_some _ e
  have ltC : ∀ {b : Addr} {o : Obj}, hp3.get? b = some o → b ≠ hp3.objs.size := fun e => Nat.ne_of_lt (Heap.lt_size e)
  have old : ∀ b o, hp3.get? b = some o → h₁.get? b = some o := fun b o e => hsb₁.extBut b o (ltC e) (Heap.get?_push_of_some _ e)
  have clc : ∀ x c, cl.lookup x = some c → X.env.cells.lookup x = some c := fun x c e => S.cells.mem (x, c) (PySem.mem_of_lookup e)
  obtain ⟨W, ⟨m0, w0⟩, turn⟩ := q2
  -- the block's context
  have fpo : ∀ b ∈ fp, ∃ o, hp3.get? b = some o := fun b hb => by
    obtain ⟨o, ho, _⟩ := T.obj _ _ st1 b hb
    exact ⟨o, old23 b o ho⟩
  have ok : (cxC X scope cl (own ++ outs) hp3.objs.size { s2 with heap := hp3 } H2 fp).Ok := by
    refine ⟨I.ok.mod, S.kind, I.ok.glob, I.ok.blt, Nat.le_refl _, fun x y c e1 e2 => I.ok.inj x y c (clc x c e1) (clc y c e2), fun x hx => ?_, fun x c hf _ => (by cases hf), I.ok.hd, I.ok.frames, .inl rfl, fun b hb => ⟨?_, fun x c e => ?_⟩, I2.bs, Nat.le_trans I.ok.bsz I2.sz, fun b o e hb => ?_, fun b hb hz => ?_, I2.stack, I2.stkFree⟩
    · have hx' : (relabel scope X.env).names.lookup x = some .cell ∨ (relabel scope X.env).names.lookup x = some .free := hx
      have : (cl.lookup x).isSome = true := by
        rcases hx' with e | e
        · exact Shs _ (PySem.mem_of_lookup e) (.inl rfl)
        · exact Shs _ (PySem.mem_of_lookup e) (.inr rfl)
      exact Option.isSome_iff_exists.mp this
    · obtain ⟨o, ho⟩ := fpo b hb
      exact ltC ho
    · exact (f1 b hb).2.2.2.2.1 x c (clc x c e)
    · rcases (f1 b hb).2.2.2.1 with z | z
      · exact I.ok.noex b o e z
      · exact absurd (Nat.lt_of_lt_of_le (Heap.lt_size e) (Nat.le_trans I.ok.bsz z)) (Nat.lt_irrefl _)
    · rcases List.mem_cons.mp (I2.stkSub b hz) with z | z
      · exact (f1 b hb).2.1 z
      · exact (f1 b hb).2.2.1 z
  have I4 : Inv (cxC X scope cl (own ++ outs) hp3.objs.size { s2 with heap := hp3 } H2 fp) [] (List.replicate own.length none ++ outV σ ixs) H2 { s2 with heap := h₁, toks := s2.toks + ([] : List (Str × Value)).length } := by
    refine ⟨ok, rfl, I2.bare, Un.kept old, ⟨_, hns₁, fun i x v e1 e2 e3 => ?_⟩, fun x c e => ?_, I2.hok.fresh (Nat.le_refl _), fun x c e => I2.freeC x c (clc x c e), fun p hp => by simp [cxC] at hp, I2.hok.kept old, ?_⟩
    · have e1' : (own ++ outs)[i]? = some x := e1
      have hi' : own.length ≤ i := by
        by_cases hlt : i < own.length
        · rw [List.getElem?_append_left (by simpa using hlt), List.getElem?_replicate, if_pos hlt] at e2
          cases e2
        · walk_at "o"
      rw [List.getElem?_append_right (by simpa using hi')] at e2
      rw [List.getElem?_append_right hi'] at e1'
      rw [List.length_replicate] at e2
      unfold outV at e2
      rw [List.getElem?_map] at e2
      cases ej : ixs[i - own.length]? with
      | none => rw [ej] at e2; cases e2
      | some j =>
        rw [ej] at e2
        obtain ⟨hN, hk, hr, c, hcl⟩ := S.outs.get e1' ej
        have e4 : (σ[j]?).join = some v := Option.some.inj e2
        have e5 : σ[j]? = some (some v) := by
          cases es : σ[j]? with
          | none => rw [es] at e4; cases e4
          | some o => rw [es] at e4; exact congrArg some e4
        obtain ⟨m, hn, hl⟩ := I2.loc
        obtain ⟨u, ru, l⟩ := hl j x v hN e5 (.inr (.inl hk))
        refine ⟨u, ru, .inr ⟨.inl hr, c, hcl, ?_⟩⟩
        rcases l with ⟨z, _⟩ | ⟨_, c', hc', cell⟩
        · rw [hk] at z; cases z
        · rw [clc x c hcl] at hc'
          cases hc'
          obtain ⟨o, ho, hd⟩ := cell
          exact ⟨o, old _ _ ho, hd⟩
    · obtain ⟨v, o, ho, hd⟩ := I2.cell x c (clc x c e)
      exact ⟨v, o, old _ _ ho, hd⟩
    · show (List.replicate own.length none ++ outV σ ixs).length = (own ++ outs).length
      unfold outV
      rw [List.length_append, List.length_append, List.length_replicate, List.length_map, S.outs.length]
  obtain ⟨hg, hf, he⟩ := hb hp3.objs.size { s2 with heap := hp3 } H2 fp (hG _ _ _ _ I2 f1)
  have stat : ∀ {H' : Hp}, (∀ b ∈ fp, H' b = none) → ∀ b ∈ fp, FpOk (cxC X scope cl (own ++ outs) hp3.objs.size { s2 with heap := hp3 } H2 fp) [] H' b := fun hn b hb =>
    ⟨hn b hb, (ok.exf b hb).1, ok.exfs b hb, .inl hb, (ok.exf b hb).2, fun p hp => by simp [cxC] at hp⟩
  have noE : ∀ {α : Type} {t : Sem α} {Q' : α → Shared → Prop} {s' : Shared} {E' : Value → Shared → Prop}, wpAny (model X.prog X.w) X.A t Q' (fun _ _ => False) s' → wpAny (model X.prog X.w) X.A t Q' E' s' := fun h => wpAny_mono h (fun _ _ z => z) fun _ _ z => z.elim
  have loop : codeAny (model X.prog X.w) X.A (.compLoop (.ListComp elt [⟨tg, iter, ifs, 0⟩] scope pos) 0 (.ref it) (.ref s2.heap.objs.size) (compEnvC scope cl hp3.objs.size X.env))
      (compPost (model X.prog X.w) X.A X.xe use Qv (.ref s2.heap.objs.size) hp3.objs.size) { s2 with heap := h₁, toks := s2.toks + ([] : List (Str × Value)).length } := by
    refine compLoop_any rfl (fun n s' => ∃ i σ' H', Inv (cxC X scope cl (own ++ outs) hp3.objs.size { s2 with heap := hp3 } H2 fp) [] σ' H' s' ∧ tn i s'.heap ∧ (∀ b ∈ fp, H' b = none) ∧ W i n σ' H') ?_ m0
      ⟨0, _, H2, I4, T.keep _ _ _ st1 fun b hb o e => old b o (old23 b o e), fr2, w0⟩
    rintro n s' ⟨i, σ', H', I', st', fr', w'⟩
    rcases turn i n σ' H' w' with ⟨stop, qn⟩ | ⟨go, N, hN, step⟩
    · refine thn (T.done (cxC X scope cl (own ++ outs) hp3.objs.size { s2 with heap := hp3 } H2 fp) rfl rfl rfl hc i [] s' σ' H' _ I' (stat fr') st' stop) fun r s4 ⟨hr, I4'⟩ => ?_
      subst hr
      obtain ⟨m, hn, _⟩ := I4'.loc
      have kC : ∀ b o, b ≠ hp3.objs.size → s4.heap.get? b = some o → s4.heap.get? b = some o := fun b o hb e => e
      have tC : ∀ b u, H' b = some u → b ≠ hp3.objs.size := fun b u e z => by
        have := I4'.free
        rw [z] at e
        rw [show H' hp3.objs.size = none from this] at e
        cases e
      have base := I4'.base
      have un : Un (frs X.stack) fp H2 H' hp3 s4.heap := ⟨fun b o e n1 hb hx => kC b o (ltC e) (base.keep b o e n1 hb hx), fun b o e n1 hb hx => by
          obtain ⟨sl, z⟩ := base.slot b o e n1 hb hx
          exact ⟨sl, kC b _ (ltC e) z⟩, base.free, fun b o e hx => by
          obtain ⟨o', z⟩ := base.there b o e hx
          exact ⟨o', kC b o' (ltC e) z⟩, base.tups, base.frzs, base.tbls⟩
      exact hfin _ _ H' s4 m (I2.call' (s' := s4) (ch := fp) I4'.os un I4'.hok I4'.bare (fun b hb => ⟨(f1 b hb).2.2.2.1, (f1 b hb).2.1, (f1 b hb).2.2.2.2.1, (f1 b hb).2.2.2.2.2⟩)) (I2.fpOk (Nat.le_refl _) I4'.free) hn qn
    · refine thn (T.item (cxC X scope cl (own ++ outs) hp3.objs.size { s2 with heap := hp3 } H2 fp) rfl rfl rfl hc i [] s' σ' H' _ I' (stat fr') st' go) fun r s4 ⟨u, hr, h4⟩ => ?_
      subst hr
      refine thn h4 fun _ s5 ⟨x, H5, I5, r5, y5, st5, fr5⟩ => ?_
      have I5' := I5.pinned (stat fr5) (T.obj _ _ st5)
      have back : ∀ {σ7 : St} {H7 : Hp} {s7 : Shared}, Inv (cxC X scope cl (own ++ outs) hp3.objs.size { s2 with heap := hp3 } H2 fp) ([] ++ pinsAt fp s5.heap) σ7 H7 s7 → ∀ m', m' < n → W (i + 1) m' σ7 H7 →
          ∃ m, m < n ∧ ∃ i σ' H', Inv (cxC X scope cl (own ++ outs) hp3.objs.size { s2 with heap := hp3 } H2 fp) [] σ' H' s7 ∧ tn i s7.heap ∧ (∀ b ∈ fp, H' b = none) ∧ W i m σ' H' := fun {σ7 H7 s7} I7 m' hm w7 => by
        refine ⟨m', hm, i + 1, σ7, H7, I7.unpinned, T.keep _ _ _ st5 fun b hb o e => (I7.pin (b, o) (List.mem_append_right _ (List.mem_append_right _ (mem_pinsAt hb e)))).1, fun b hb => ?_, w7⟩
        obtain ⟨o, e, d⟩ := T.obj _ _ st5 b hb
        exact (I7.pin (b, o) (List.mem_append_right _ (List.mem_append_right _ (mem_pinsAt hb e)))).2.1
      refine thn (noE (hg _ s5 σ' H5 x u _ I5' r5 (step x H5 y5))) fun _ s6 ⟨σ6, H6, I6, q6⟩ => ?_
      refine thn (noE (hf _ s6 σ6 H6 _ I6 q6)) fun ok s7 ⟨H7, I7, q7⟩ => ?_
      cases ok with
      | false =>
        rw [if_neg Bool.false_ne_true] at q7 ⊢
        obtain ⟨m', hm, w7⟩ := hN _ _ q7
        exact back I7 m' hm w7
      | true =>
        rw [if_pos rfl] at q7 ⊢
        refine thn (noE (he _ s7 σ6 H7 _ I7 q7)) fun v s8 ⟨xv, H8, I8, r8, q8⟩ => ?_
        obtain ⟨xs, hxs, hz, q8⟩ := q8
        refine thn (noE (mt_append _ s8 σ6 H8 (.ref s2.heap.objs.size) [xv] _ [v] (fun _ H9 => N σ6 H9) I8 rfl (.cons r8 .nil) ⟨_, xs, xv, rfl, rfl, vw_lst hxs, hz, q8 _ (vw_but But.upd) ((vw_new (show X.K.lookup _ = none from I8.noK (vw_lst hxs))).trans upd_same)⟩)) fun _ s9 ⟨_, H9, I9, _, n9⟩ => ?_
        obtain ⟨m', hm, w9⟩ := hN _ _ n9
        exact back I9 m' hm w9
  exact codeAny_compStart_list loop (T.self _ 0 _ _ _ (T.keep _ _ _ st1 fun b hb o e => old b o (old23 b o e)) loop)
theorem pe_comp {tg iter elt : Expr} {ifs : List Expr} {scope : Scope} {pos : Pos} {wi : TI} {g : TG} {tif : TT} {te : TE} {cl : List (Str × Addr)} {own outs : List Str} {ixs : List Nat}
    (hc : X.calm = true) (hi : PI X tg iter wi) (hclos : closureFor scope X.env = pure cl) (S : CompSc X scope cl own outs ixs)
    (hb : ∀ C s H ex, PG (cxC X scope cl (own ++ outs) C s H ex) tg g ∧ PF (cxC X scope cl (own ++ outs) C s H ex) ifs tif ∧ PE (cxC X scope cl (own ++ outs) C s H ex) elt te)
    (hs : ∀ x, foldedSetIterable iter X.env x = pure x := by intro _; rfl) :
    PE X (.ListComp elt [⟨tg, iter, ifs, 0⟩] scope pos) (tComp X.K wi own.length ixs g tif te) := by
  intro pins s σ H Q I h
  rw [eval_ListComp]
  refine comp_core (G := fun _ _ _ => True) hc hi hclos S (fun C s H ex _ => hb C s H ex) hs (fun _ _ _ _ _ _ => trivial) I (fun a H' => Q (.ref a) H') (fun a C H' s4 m J4 fC hn q => ⟨m, hn, fun h' hsb => ?_⟩) h
  obtain ⟨f0, f1, f2, f3, f4, f5⟩ := fC
  exact ⟨.ref a, H', J4.turned (t' := s4.toks) (fun b o hb e => hsb.extBut b o hb e) f0 f1 f3 f4 f5, rfl, q⟩
theorem ps_setC {tg iter elt : Expr} {ifs : List Expr} {scope : Scope} {pos spos py : Pos} {y : Str} {i : Nat} {wi : TI} {g : TG} {tif : TT} {te : TE} {cl : List (Str × Addr)} {own outs : List Str} {ixs : List Nat}
    (hN : X.N.Nodup) (hy : X.N[i]? = some y) (hx : Loc X.env.scope y) (hc : X.calm = true) (hi : PI X tg iter wi) (hclos : closureFor scope X.env = pure cl) (S : CompSc X scope cl own outs ixs)
    (hb : ∀ C s H ex, PG (cxC X scope cl (own ++ outs) C s H ex) tg g ∧ PF (cxC X scope cl (own ++ outs) C s H ex) ifs tif ∧ PE (cxC X scope cl (own ++ outs) C s H ex) elt te)
    (hsw : swapsWith (.ListComp elt [⟨tg, iter, ifs, 0⟩] scope pos) (some (.Name y py)) spos.line X.env = pure true := by rfl)
    (hs : ∀ x, foldedSetIterable iter X.env x = pure x := by intro _; rfl) (hf : X.fn y = true ∨ X.env.scope.names.lookup y = some .local := by first | exact .inl rfl | exact .inr rfl | assumption) :
    PS X (.Assign [.Name y py] (.ListComp elt [⟨tg, iter, ifs, 0⟩] scope pos) spos) (tAsg (tComp X.K wi own.length ixs g tif te) (gName i)) := by
  intro pins s σ H D I h
  rw [exec_Assign_Name_used _ _ _ _ hsw]
  refine wpAny_bind (wpAny_standAt (wpAny_bind ?_))
  show wpAny _ X.A (do let _ ← comprehension (.ListComp elt [⟨tg, iter, ifs, 0⟩] scope pos) scope X.env _ (newList []) false (eval iter X.env) (some (assign (.Name y py) X.env))) _ _ s
  refine wpAny_bind (wpAny_mono (comp_core (use := some (assign (.Name y py) X.env)) (Qv := fun _ s' => SP X pins D .next s') (G := fun _ _ _ => True) hc hi hclos S (fun C s H ex _ => hb C s H ex) hs (fun _ _ _ _ _ _ => trivial) I (fun a H' => D.nx (σ.set i (some (.ref a))) H') (fun a C H' s4 m J4 fC hn q => ?_) h) (fun _ s' hq => wpAny_pure (wpAny_pure hq)) fun _ _ e => e)
  obtain ⟨f0, f1, f2, f3, f4, f5⟩ := fC
  refine wpAny_assign_Name (store_ok2 J4 hN hy hx (v := .ref a) rfl (fun s5 I5 hsame => ?_) hf)
  obtain ⟨b, sb, hb'⟩ := hsame
  have nb : C ≠ b := fun e => by
    rcases hb' with z | z
    · exact f1 (e.trans z)
    · exact f4 _ _ z e.symm
  exact ⟨m, hn.sameBut sb nb, fun h' hsb => ⟨_, H', I5.turned (t' := s5.toks) (fun b o hb e => hsb.extBut b o hb e) f0 f1 f3 f4 f5, q⟩⟩
end
theorem cxC_K {X : Cx} {scope : Scope} {cl : List (Str × Addr)} {N : List Str} {C : Addr} {s : Shared} {H : Hp} {ex : List Addr} : (cxC X scope cl N C s H ex).K = X.K := rfl

mutual
def D.py : D → PyData
  | .non => .none
  | .bl b => .bool b
  | .int i => .int i
  | .str x => .str x
  | .dict => .dict []
  | .tup ds => .tuple (D.pys ds)
  | .lst ds => .list (D.pys ds)
def D.pys : List D → List PyData
  | [] => []
  | d :: ds => d.py :: D.pys ds
end
def D.cmp (d : D) : Prop := d.py.canLay0 = true ∧ d.py.depth ≤ 30
def peq (d e : D) : Bool := PyData.eqv d.py e.py
section
variable {X : Cx} {pins : List (Addr × Obj)} {σ : St} {H : Hp} {s : Shared}
mutual
theorem Rep.reads (I : Inv X pins σ H s) : ∀ (d : D) (v : V) (u : Value), Rep (vw X.K H) d v → RelV v u → d.py.canLay0 = true → ∃ as, Reads s.heap u d.py as
  | .non, v, u, h, r, _ => by
    unfold Rep at h; subst h; cases r
    exact ⟨_, by unfold D.py; exact .none⟩
  | .bl b, v, u, h, r, _ => by
    unfold Rep at h; subst h; cases r
    exact ⟨_, by unfold D.py; exact .bool b⟩
  | .int i, v, u, h, r, _ => by
    unfold Rep at h; subst h; obtain ⟨t, rfl⟩ := r
    exact ⟨_, by unfold D.py; exact .int i t⟩
  | .str x, v, u, h, r, _ => by
    unfold Rep at h; subst h; obtain ⟨t, rfl⟩ := r
    exact ⟨_, by unfold D.py; exact .str x t⟩
  | .dict, v, u, h, r, hc => by
    unfold D.py PyData.canLay0 at hc
    cases hc
  | .tup ds, v, u, h, r, hc => by
    obtain ⟨a, xs, rfl, ha, rs⟩ := h.tup_at
    cases r
    unfold D.py at hc ⊢
    obtain ⟨its, rv, p, hz⟩ := I.tuple (vw_tup ha)
    obtain ⟨o, h1, h2, n, h3⟩ := p
    obtain ⟨as, ra⟩ := Reps.reads I ds xs its rs rv (by unfold PyData.canLay0 at hc; exact hc)
    exact ⟨_, .tuple h1 h2 h3 (by simpa using ra)⟩
  | .lst ds, v, u, h, r, hc => by
    obtain ⟨a, xs, rfl, ha, rs⟩ := h.lst_at
    cases r
    unfold D.py at hc ⊢
    obtain ⟨its, rv, p, hz⟩ := I.list (SqL.of (K := X.K) (vw_lst ha))
    obtain ⟨o, n, h1, h2, h3, h4⟩ := p
    obtain ⟨as, ra⟩ := Reps.reads I ds xs its rs rv (by unfold PyData.canLay0 at hc; exact hc)
    exact ⟨_, .list h1 h2 h4 (by simpa using ra)⟩
theorem Reps.reads (I : Inv X pins σ H s) : ∀ (ds : List D) (xs : List V) (us : List Value), Reps (vw X.K H) ds xs → Vals xs us → PyData.canLayAll0 (D.pys ds) = true → ∃ as, ReadsAll s.heap us (D.pys ds) as
  | [], xs, us, h, r, _ => by
    cases h.nil_at
    cases r
    exact ⟨_, by unfold D.pys; exact .nil⟩
  | d :: ds, xs, us, h, r, hc => by
    obtain ⟨x, ys, rfl, h1, h2⟩ := h.cons_at
    cases r with
    | cons r1 r2 =>
      unfold D.pys PyData.canLayAll0 at hc
      rw [Bool.and_eq_true] at hc
      obtain ⟨as, ra⟩ := Rep.reads I d x _ h1 r1 hc.1
      obtain ⟨bs, rb⟩ := Reps.reads I ds ys _ h2 r2 hc.2
      exact ⟨_, by unfold D.pys; exact .cons ra rb⟩
end
end
def rEqD (K : PySem.W.Frag) (neg : Bool) : R2 := fun x y H Q => ∃ d e, Rep (vw K H) d x ∧ Rep (vw K H) e y ∧ d.cmp ∧ e.cmp ∧ Q (.bl (if neg then !peq d e else peq d e)) H
section
variable {X : Cx}
theorem op_eqD (hu : X.A.units + 64 < cLine) : OpR X (compareOp .Eq) (rEqD X.K false) := by
  intro pins s σ H x y v u Q I rx ry h
  obtain ⟨d, e, h1, h2, c1, c2, q⟩ := h
  obtain ⟨as, r1⟩ := Rep.reads I d x v h1 rx c1.1
  obtain ⟨bs, r2⟩ := Rep.reads I e y u h2 ry c2.1
  exact SeqAt.compareEq_reads r1 r2 c1.1 c2.1 (by have := c1.2; walk_at "o") ⟨.bl _, H, I, rfl, q⟩
theorem op_neD (hu : X.A.units + 64 < cLine) : OpR X (compareOp .NotEq) (rEqD X.K true) := by
  intro pins s σ H x y v u Q I rx ry h
  obtain ⟨d, e, h1, h2, c1, c2, q⟩ := h
  obtain ⟨as, r1⟩ := Rep.reads I d x v h1 rx c1.1
  obtain ⟨bs, r2⟩ := Rep.reads I e y u h2 ry c2.1
  exact SeqAt.compareNe_reads r1 r2 c1.1 c2.1 (by have := c1.2; walk_at "o") ⟨.bl _, H, I, rfl, q⟩
end
def ScrOk (K : PySem.W.Frag) (H : Hp) (a : Addr) (xs : List V) : Prop := (K.lookup a = none ∧ Rd H a (.lst xs)) ∨
  ∃ (o : Obj) (its : Array Value) (n : Nat), K.lookup a = some o ∧ o.cls = .type "list" ∧ o.dict = none ∧ o.data = .seq its n ∧ its.size ≤ sizeLine ∧ Vals xs its.toList
theorem ScrOk.sq {K : PySem.W.Frag} {H : Hp} {a : Addr} {xs : List V} (h : ScrOk K H a xs) : SqL K H a xs := h.imp (fun z => z.2) fun z => z
theorem ScrOk.of {K : PySem.W.Frag} {H : Hp} {a : Addr} {xs : List V} (h : SqL K H a xs) (hk : H a ≠ none → K.lookup a = none) : ScrOk K H a xs := by
  rcases h with h | h
  · refine .inl ⟨hk ?_, h⟩
    rcases h with h | ⟨o, h⟩ <;> rw [h] <;> simp
  · exact .inr h
end L2

set_option Elab.async false
set_option linter.all false
set_option maxRecDepth 100000
namespace L2
open PySem PySem.Spec PyProof.Rows
mutual
def D.flat : D → Bool
  | .lst _ => false
  | .tup ds => D.flats ds
  | _ => true
def D.flats : List D → Bool
  | [] => true
  | d :: ds => d.flat && D.flats ds
end
section
variable {H H' : Hp} {l : Addr} {xs : List V}
mutual
theorem Rep.flat_but (hl : H l = some (.lst xs)) (S : But l H H') : ∀ (d : D) (v : V), d.flat = true → Rep H d v → Rep H' d v
  | .non, v, _, h => by unfold Rep at h ⊢; exact h
  | .bl b, v, _, h => by unfold Rep at h ⊢; exact h
  | .int i, v, _, h => by unfold Rep at h ⊢; exact h
  | .str x, v, _, h => by unfold Rep at h ⊢; exact h
  | .dict, v, _, h => by
    unfold Rep at h ⊢
    obtain ⟨a, kvs, rfl, h⟩ := h
    exact ⟨a, kvs, rfl, S _ _ (fun e => by rw [e, hl] at h; cases h) h⟩
  | .tup ds, v, hf, h => by
    obtain ⟨a, ys, rfl, h, rs⟩ := h.tup_at
    unfold D.flat at hf
    exact .mk_tup (S _ _ (fun e => by rw [e, hl] at h; cases h) h) (Reps.flat_but hl S ds ys hf rs)
  | .lst ds, v, hf, h => by unfold D.flat at hf; cases hf
theorem Reps.flat_but (hl : H l = some (.lst xs)) (S : But l H H') : ∀ (ds : List D) (ys : List V), D.flats ds = true → Reps H ds ys → Reps H' ds ys
  | [], ys, _, h => by cases h.nil_at; exact .mk_nil
  | d :: ds, ys, hf, h => by
    obtain ⟨y, r, rfl, h1, h2⟩ := h.cons_at
    unfold D.flats at hf
    rw [Bool.and_eq_true] at hf
    exact .mk_cons (Rep.flat_but hl S d y hf.1 h1) (Reps.flat_but hl S ds r hf.2 h2)
end
end
theorem fr_flat (q : Int × Int) : (fr q).flat = true := by simp [fr, D.flat, D.flats]
theorem Reps.app {H : Hp} : ∀ {ds es : List D} {xs ys : List V}, Reps H ds xs → Reps H es ys → Reps H (ds ++ es) (xs ++ ys)
  | [], es, xs, ys, h, g => by cases h.nil_at; exact g
  | d :: ds, es, xs, ys, h, g => by
    obtain ⟨x, r, rfl, h1, h2⟩ := h.cons_at
    exact .mk_cons h1 (Reps.app h2 g)
theorem Reps.snoc {H : Hp} {ds : List D} {xs : List V} {d : D} {x : V} (h : Reps H ds xs) (g : Rep H d x) : Reps H (ds ++ [d]) (xs ++ [x]) := h.app (.mk_cons g .mk_nil)
theorem Reps.at {H : Hp} {ds : List D} {xs : List V} (h : Reps H ds xs) {i : Nat} {d : D} (hd : ds[i]? = some d) : ∃ x, xs[i]? = some x ∧ Rep H d x := by
  have hi : i < ds.length := (List.getElem?_eq_some_iff.mp hd).1
  have hi' : i < xs.length := by rw [h.length]; exact hi
  obtain ⟨d', e, r⟩ := h.get (List.getElem?_eq_getElem hi')
  rw [hd] at e
  cases e
  exact ⟨_, List.getElem?_eq_getElem hi', r⟩
theorem Reps.take {H : Hp} : ∀ {ds : List D} {xs : List V} (n : Nat), Reps H ds xs → Reps H (ds.take n) (xs.take n)
  | ds, xs, 0, h => by simp; exact .mk_nil
  | [], xs, n + 1, h => by cases h.nil_at; exact .mk_nil
  | d :: ds, xs, n + 1, h => by
    obtain ⟨x, r, rfl, h1, h2⟩ := h.cons_at
    exact .mk_cons h1 (h2.take n)
theorem Reps.drop {H : Hp} : ∀ {ds : List D} {xs : List V} (n : Nat), Reps H ds xs → Reps H (ds.drop n) (xs.drop n)
  | ds, xs, 0, h => h
  | [], xs, n + 1, h => by cases h.nil_at; exact .mk_nil
  | d :: ds, xs, n + 1, h => by
    obtain ⟨x, r, rfl, h1, h2⟩ := h.cons_at
    exact h2.drop n
def LsAt (G : Hp) (a : Addr) (qs : List (Int × Int)) : Prop := ∃ xs, G a = some (.lst xs) ∧ Reps G (qs.map fr) xs
section
variable {G G' : Hp} {a l : Addr} {qs : List (Int × Int)} {xs : List V}
theorem StOk.but {st : Addr} (h : StOk G st) (hl : G l = some (.lst xs)) (hn : st ≠ l) (S : But l G G') : StOk G' st := by
  obtain ⟨x, b, h3, h4⟩ := h
  exact ⟨x, b, S _ _ hn h3, h4⟩
end
theorem cxOf_noxK {CX : CXT} {P : Program} {w : World} {K : PySem.W.Frag} {mg : Str → Option Value} {base : Heap} {N : List Str} {qual : Str} {scope : Scope} {f : Addr} {cd : Value} {A : Around} {outer : List Env} {s : Shared} {H : Hp} {E : XK} :
    (cxOf CX P w K mg base N qual scope f cd A outer s H E).nox.K = K := rfl
def tCut (t u : TS) : TS := fun D σ H => ∃ R : St → Hp → Prop, (∀ σ' H', R σ' H' → u D σ' H') ∧ t { D with nx := R } σ H
theorem tCut.mk {t u : TS} {D : Ends} {σ : St} {H : Hp} (R : St → Hp → Prop) (h1 : t { D with nx := R } σ H) (h2 : ∀ σ' H', R σ' H' → u D σ' H') : tCut t u D σ H := ⟨R, h2, h1⟩
theorem pss_cut {X : Cx} {st : Stmt} {rest : List Stmt} {t u : TS} (h1 : PS X st t) (h2 : PSs X rest u) : PSs X (st :: rest) (tCut t u) := by
  rintro pins s σ H D I ⟨R, hR, h⟩
  refine wpAny_execs_cons (thn (h1 pins s σ H { D with nx := R } I h) fun f s1 q => ?_)
  cases f with
  | next =>
    obtain ⟨σ', H', I', q⟩ := q
    exact h2 pins s1 σ' H' D I' (hR _ _ q)
  | ret v => exact q
  | brk => exact q
  | cont => exact q
def Items (J : It) (H : Hp) (its : List V) : Prop := (∀ i, i < its.length → J.go i H) ∧ (∀ i x H', i < its.length → J.yld i H x H' → H' = H ∧ its[i]? = some x) ∧ J.stop its.length H
def iots (lo : Int) (n : Nat) : List V := (List.range n).map fun (k : Nat) => V.int (lo + k)
theorem items_range {lo : Int} {n : Nat} {H : Hp} : Items (Itr lo n) H (iots lo n) := by
  refine ⟨fun i hi => by show i < n; simpa [iots] using hi, fun i x H' hi y => ⟨y.1, ?_⟩, by show n ≤ (iots lo n).length; simp [iots]⟩
  have hi' : i < n := by simpa [iots] using hi
  rw [y.2]
  simp [iots, hi']
theorem items_list {K : PySem.W.Frag} {H : Hp} {a : Addr} {xs : List V} (h : vw K H a = some (.lst xs)) : Items (Itl K a) H xs :=
  ⟨fun i hi => ⟨xs, xs[i], .of (vw_lst h), by simp [hi]⟩, fun i x H' _ y => ⟨y.1, y.2 xs (.of (vw_lst h))⟩, ⟨xs, .of (vw_lst h), Nat.le_refl _⟩⟩
theorem for_items {J : It} {its : List V} {g : TG} {tb : TS} {D : Ends} {σ : St} {H : Hp} (Pv : Nat → St → Hp → Prop) (hl : ∀ i σ H, i ≤ its.length → Pv i σ H → Items J H its) (h0 : Pv 0 σ H)
    (hs : ∀ i x σ H, i < its.length → its[i]? = some x → Pv i σ H → g x σ H fun σ2 H2 => tb { D with nx := Pv (i + 1), ct := Pv (i + 1), bk := D.nx } σ2 H2) (hd : ∀ σ H, Pv its.length σ H → D.nx σ H) : ForOK J g tb D σ H := by
  refine ⟨fun i m σ H => m = its.length - i ∧ i ≤ its.length ∧ Pv i σ H, ⟨its.length, by simp, Nat.zero_le _, h0⟩, ?_⟩
  rintro i m σ H ⟨rfl, hi, p⟩
  obtain ⟨q1, q2, q3⟩ := hl i σ H hi p
  by_cases hlt : i < its.length
  · refine .inr ⟨q1 i hlt, Pv (i + 1), fun σ' H' p' => ⟨its.length - (i + 1), by walk_at "o", rfl, hlt, p'⟩, fun x H' y => ?_⟩
    obtain ⟨e, y2⟩ := q2 i x H' hlt y
    subst e
    exact hs i x σ _ hlt y2 p
  · have e : i = its.length := by walk_at "o"
    subst e
    exact .inl ⟨q3, hd σ H p⟩
def CEl (K : PySem.W.Frag) (a : Addr) (N : Hp → Prop) : V → Hp → Prop := fun v H4 => ∃ xs, vw K H4 a = some (.lst xs) ∧ xs.length < sizeLine ∧ ∀ H5, But a (vw K H4) (vw K H5) → vw K H5 a = some (.lst (xs ++ [v])) → N H5
theorem iots_at {lo : Int} {n i : Nat} {x : V} (h : (iots lo n)[i]? = some x) : i < n ∧ x = .int (lo + i) := by
  have hi : i < n := by simpa [iots] using (List.getElem?_eq_some_iff.mp h).1
  simp [iots, hi] at h
  exact ⟨hi, h.symm⟩
theorem iots_len {lo : Int} {n : Nat} : (iots lo n).length = n := by simp [iots]
theorem sIx_nat {n d : Nat} {k : Nat} (h : k ≤ n) : HT.sIx n d (some (k : Int)) = k := by
  unfold HT.sIx
  simp only [Int.toNat_natCast]
  rw [if_neg (by walk_at "o")]
  walk_at "o"
theorem cut_from {xs : List V} {k : Nat} (h : k ≤ xs.length) : cutV xs (some (k : Int)) none = xs.drop k := by
  unfold cutV
  rw [sIx_nat h]
  simp [HT.sIx]
  rw [List.take_of_length_le]
  simp
def rNil (K : PySem.W.Frag) (neg : Bool) : R2 := fun x y H Q => ∃ p q, x = .ref p ∧ y = .ref q ∧ ∃ xs, vw K H p = some (.lst xs) ∧ vw K H q = some (.lst []) ∧ Q (.bl (if neg then !xs.isEmpty else xs.isEmpty)) H
section
variable {X : Cx}
theorem op_neNil (hu : X.A.units < cLine) : OpR X (compareOp .NotEq) (rNil X.K true) := by
  intro pins s σ H x y v u Q I rx ry h
  obtain ⟨p, q, rfl, rfl, xs, h1, h2, k⟩ := h
  cases rx
  cases ry
  obtain ⟨its, r, ⟨o, n, e1, e2, e3, e4⟩, _⟩ := I.list (SqL.of (K := X.K) (vw_lst h1))
  obtain ⟨its2, r2, ⟨o2, n2, f1, f2, f3, f4⟩, _⟩ := I.list (SqL.of (K := X.K) (vw_lst h2))
  cases r2
  have fin : EP X pins σ Q (.bool !xs.isEmpty) s := ⟨.bl _, H, I, rfl, k⟩
  cases xs with
  | nil =>
    cases r
    exact SeqAt.RcNeAt.lists (e := fun _ => true) ⟨_, e1, e2, _, e4⟩ ⟨_, f1, f2, _, f4⟩ rfl hu (fun j h1 => absurd h1 (by simp)) _ _ _ _ fin
  | cons x xs =>
    cases r
    exact SeqAt.RcNeAt.lists_lengths ⟨_, e1, e2, _, e4⟩ ⟨_, f1, f2, _, f4⟩ (by simp) hu _ _ _ _ fin
end
theorem Room.ul {k : Nat} {A : Around} (r : Room k A) : A.units < cLine := by have := r.un; walk_at "o"
theorem Room.u64 {k : Nat} {A : Around} (r : Room k A) : A.units + 64 < cLine := by have := r.un; walk_at "o"
theorem peq_fr (p q : Int × Int) : peq (fr p) (fr q) = decide (p = q) := by
  unfold peq fr D.py D.pys D.pys D.pys D.py
  simp only [PyData.eqv, PyData.eqvAll]
  rw [Bool.eq_iff_iff]
  simp [Prod.ext_iff]
theorem cmp_fr (q : Int × Int) : (fr q).cmp := by
  unfold D.cmp fr D.py D.pys D.pys D.pys D.py
  exact ⟨rfl, Nat.le_of_ble_eq_true rfl⟩
theorem rep_pair {H : Hp} {a : Addr} {i j : Int} (h : H a = some (.tup [.int i, .int j])) : Rep H (fr (i, j)) (.ref a) := .mk_tup h (.mk_cons (.mk_int _) (.mk_cons (.mk_int _) .mk_nil))
end L2

set_option Elab.async false
set_option linter.all false
set_option maxRecDepth 100000
namespace L2
open PySem PySem.Spec PyProof.Rows
theorem Same.rfl {H : Hp} : Same H H := fun _ _ z => z
section
variable {K : PySem.W.Frag} {σ : St} {H0 : Hp} {t u : TE} {ta : TA} {b c : Bool} {m n : Nat}
end
end L2

set_option Elab.async false
set_option linter.all false
set_option maxRecDepth 100000
set_option autoImplicit true
namespace L2
open PySem PySem.Spec PyProof.Rows
structure QE (X : Cx) (e : Expr) (t : TE) : Prop where
  h : PE X e t
structure QT (X : Cx) (e : Expr) (t : TT) : Prop where
  h : PT X e t
structure QW (X : Cx) (e : Expr) (t : TT) : Prop where
  h : PW X e t
structure QA (X : Cx) (e : List Expr) (t : TA) : Prop where
  h : PA X e t
structure QS (X : Cx) (e : Stmt) (t : TS) : Prop where
  h : PS X e t
structure QSs (X : Cx) (e : List Stmt) (t : TS) : Prop where
  h : PSs X e t
structure QG (X : Cx) (e : Expr) (t : TG) : Prop where
  h : PG X e t
structure QGs (X : Cx) (e : List Expr) (t : TGs) : Prop where
  h : PGs X e t
structure QF (X : Cx) (e : List Expr) (t : TT) : Prop where
  h : PF X e t
structure QO (X : Cx) (e : Option Expr) (t : TO) : Prop where
  h : PO X e t
structure QI (X : Cx) (tg e : Expr) (t : TI) : Prop where
  h : PI X tg e t
section
variable {X : Cx} {pos p p2 apos cpos pos' : Pos} {a b e o l : Expr} {es rest : List Expr} {te ta tb to : TE} {tA tB' : TT} {st : Stmt} {rest' : List Stmt} {lo hi : Option Expr} {id : String}
theorem qe_bl {b j pos} : QE X (.Constant (.bool b) j pos) (tC (.bl b)) := ⟨pe_bl ⟩
theorem qe_int {i j pos} : QE X (.Constant (.int i) j pos) (tC (.int i)) := ⟨pe_int ⟩
theorem qe_bltn {x : Str} {v : V} {u : Value} {pos : Pos} (hg : Gl X x) (hm : X.mg x = none) (hv : bootBuiltins x = some u) (r : RelV v u) (hn : x ≠ "__name__" := by decide) (hd : (x == ("__debug__" : Str)) = false := by decide) : QE X (.Name x pos) (tC v) := ⟨pe_bltn (hg := hg) (hm := hm) (hv := hv) (r := r) (hn := hn) (hd := hd)⟩
theorem qe_op {op : Operator} {r : R2} (ho : OpR X (binaryOp op) r) (ha : QE X a ta) (hb : QE X b tb) : QE X (.BinOp a op b pos) (tOp r ta tb) := ⟨pe_op (ho := ho) (ha := ha.h) (hb := hb.h)⟩
theorem qe_un {op : UnaryOp} {r : V → Hp → VK → Prop} (ho : UnR X (unaryOp op) r) (ha : QE X a ta) : QE X (.UnaryOp op a pos) (tUn r ta) := ⟨pe_un (ho := ho) (ha := ha.h)⟩
theorem qe_and (ha : QE X a ta) (hb : QE X (.BoolOp .And (b :: rest) pos) tb) : QE X (.BoolOp .And (a :: b :: rest) pos) (tAndV ta tb) := ⟨pe_and (ha := ha.h) (hb := hb.h)⟩
theorem qe_one {op} {t : TE} (h : QE X a t) : QE X (.BoolOp op [a] pos) t := ⟨pe_one (h := h.h)⟩
theorem qe_cmpR {op : CmpOp} {r : R2} (ho : OpR X (compareOp op) r) (ha : QE X a ta) (hb : QE X b tb) (hm : behindInMarks op b = false) : QE X (.Compare a [op] [b] pos) (tOp r ta tb) := ⟨pe_cmpR (ho := ho) (ha := ha.h) (hb := hb.h) (hm := hm)⟩
theorem qe_ifExp {c : Expr} (hc : QT X c tA) (ha : QE X a ta) (hb : QE X b tb) : QE X (.IfExp c a b pos) (tIf tA ta tb) := ⟨pe_ifExp (hc := hc.h) (ha := ha.h) (hb := hb.h)⟩
theorem qe_tupS {x1} (h : QA X es t) : QE X (.Tuple es x1 pos) (tTupS X.K t) := ⟨pe_tupS (h := h.h)⟩
theorem qe_lstS (h : QA X es t) : QE X (.List es pos) (tLstS X.K t) := ⟨pe_lstS (h := h.h)⟩
theorem qe_slice {r : V → Option Int → Option Int → Hp → VK → Prop} (hr : SlR X r) (he : QE X e te) (hl : QO X lo tl) (hu : QO X hi th) : QE X (.Subscript e (.Slice lo hi none p2) pos) (tSl r te tl th) := ⟨pe_slice (hr := hr) (he := he.h) (hl := hl.h) (hu := hu.h)⟩
theorem qo_none  : QO X none tNoPart := ⟨po_none ⟩
theorem qo_some (h : QE X e te) : QO X (some e) (tPart te) := ⟨po_some (h := h.h)⟩
theorem qe_ix {r : R2} (hr : IxR X r) (ha : QE X a ta) (hb : QE X b tb) (hs : PlainIx b) : QE X (.Subscript a b pos) (tOp r ta tb) := ⟨pe_ix (hr := hr) (ha := ha.h) (hb := hb.h) (hs := hs)⟩
theorem qe_cal (C : Cal X.prog X.w X.K X.mg X.base x ps k sp) (hr : Room k X.A) (hg : Gl X x) (ha : QA X (e :: es) t) (hdb : (x == ("__debug__" : Str)) = false := by decide) (he : starEach (e :: es) X.env = (false, eval e X.env) :: starEach es X.env := by rfl) (hpl : (backTo pos (starEach es X.env)).any (·.1) = false := by rfl) :
    QE X (.Call (.Name x p) (e :: es) [] pos) (tCal sp t) := ⟨pe_cal (C := C) (hr := hr) (hg := hg) (ha := ha.h) (hdb := hdb) (he := he) (hpl := hpl)⟩
theorem qe_callB (hc : CallR X (.builtin id) r) (hg : Gl X x) (hm : X.mg x = none) (hv : bootBuiltins x = some (.builtin id)) (ha : QA X (e :: es) t) (hn : x ≠ "__name__" := by decide) (hdb : (x == ("__debug__" : Str)) = false := by decide) (he : starEach (e :: es) X.env = (false, eval e X.env) :: starEach es X.env := by rfl) (hpl : (backTo pos (starEach es X.env)).any (·.1) = false := by rfl) : QE X (.Call (.Name x p) (e :: es) [] pos) (tCB r t) := ⟨pe_callB (hc := hc) (hg := hg) (hm := hm) (hv := hv) (ha := ha.h) (hn := hn) (hdb := hdb) (he := he) (hpl := hpl)⟩
theorem qe_callTy (hc : CallR X (.type T) r) (hg : Gl X x) (hm : X.mg x = none) (hv : bootBuiltins x = some (.type T)) (ha : QA X (e :: es) t) (hn : x ≠ "__name__" := by decide) (hdb : (x == ("__debug__" : Str)) = false := by decide) (he : starEach (e :: es) X.env = (false, eval e X.env) :: starEach es X.env := by rfl) (hpl : (backTo pos (starEach es X.env)).any (·.1) = false := by rfl) : QE X (.Call (.Name x p) (e :: es) [] pos) (tCB r t) := ⟨pe_callTy (hc := hc) (hg := hg) (hm := hm) (hv := hv) (ha := ha.h) (hn := hn) (hdb := hdb) (he := he) (hpl := hpl)⟩
theorem qe_bm (pa : PlainAttrs T) (slot : Slot T name id) (hty : typeOf (.builtin id) = pure (.type "method_descriptor")) (hm : MtR X id r) (ho : QE X o to) (ha : QA X (e :: es) t) (hbase : attributeBase o name X.env (eval o X.env) = eval o X.env := by rfl) (hfew : ((backTo cpos (starEach (e :: es) X.env)).all (fun x => !x.1) && (backToKw cpos (keywordEach [] X.env)).all (fun x => x.1.isSome)
      && decide ((e :: es).length + ([] : List Keyword).length + (if ([] : List Keyword).isEmpty then 0 else 1) < 30)) = true := by rfl) (hline : (apos.endLine == cpos.line) = true := by rfl) (hs : starEach (e :: es) X.env = (false, eval e X.env) :: starEach es X.env := by rfl) (hplain : (backTo cpos (starEach es X.env)).any (·.1) = false := by rfl) :
    QE X (.Call (.Attribute o name apos) (e :: es) [] cpos) (tBM X.K T r to t) := ⟨pe_bm (pa := pa) (slot := slot) (hty := hty) (hm := hm) (ho := ho.h) (ha := ha.h) (hbase := hbase) (hfew := hfew) (hline := hline) (hs := hs) (hplain := hplain)⟩
theorem qa_nil  : QA X [] tNil := ⟨pa_nil ⟩
theorem qa_cons (ha : QE X e te) (hr : QA X es t) (hs : starEach (e :: es) X.env = (false, eval e X.env) :: starEach es X.env := by rfl) : QA X (e :: es) (tCons te t) := ⟨pa_cons (ha := ha.h) (hr := hr.h) (hs := hs)⟩
theorem qt_cmpR {op : CmpOp} {r : R2} (ho : OpR X (compareOp op) r) (ha : QE X a ta) (hb : QE X b tb) (hm : behindInMarks op b = false) : QT X (.Compare a [op] [b] pos) (tTest (tOp r ta tb)) := ⟨pt_cmpR (ho := ho) (ha := ha.h) (hb := hb.h) (hm := hm)⟩
theorem qt_not (ha : QT X a tA) : QT X (.UnaryOp .Not a pos) (tNot tA) := ⟨pt_not (ha := ha.h)⟩
theorem QW.pt {X : Cx} {e : Expr} {t : TT} (h : QW X e t) : QT X e t := ⟨PW.pt (h := h.h)⟩
theorem qw_and1 (ha : QT X a tA) : QW X (.BoolOp .And [a] pos) tA := ⟨pw_and1 (ha := ha.h)⟩
theorem qw_and (ha : QT X a tA) (hb : QW X (.BoolOp .And (b :: rest) pos) tB') : QW X (.BoolOp .And (a :: b :: rest) pos) (tAnd tA tB') := ⟨pw_and (ha := ha.h) (hb := hb.h)⟩
theorem qw_or1 (ha : QT X a tA) : QW X (.BoolOp .Or [a] pos) tA := ⟨pw_or1 (ha := ha.h)⟩
theorem qw_or (ha : QT X a tA) (hb : QW X (.BoolOp .Or (b :: rest) pos) tB') : QW X (.BoolOp .Or (a :: b :: rest) pos) (tOr tA tB') := ⟨pw_or (ha := ha.h) (hb := hb.h)⟩
theorem qt_truth (ha : QE X a ta) (he : ∀ whole, isTrue a X.env whole = (do let v ← whole; standAt a.pos; holding [v] (truthy v))) :
    QT X a (fun σ H Q => ta σ H fun x H' => ∃ k, TruV X.K x H' k ∧ Q k H') := ⟨pt_truth (ha := ha.h) (he := he)⟩
theorem qt_val {e : Expr} {t : TE} (h : QE X e t) (he : ∀ whole, isTrue e X.env whole = (do let v ← whole; standAt e.pos; holding [v] (truthy v)) := by intro _; rfl) : QT X e (tB t) := ⟨pt_val (h := h.h) (he := he)⟩
theorem qg_name {i : Nat} {x : Str} (hN : X.N.Nodup) (hi : X.N[i]? = some x) (hx : Loc X.env.scope x) (hf : X.fn x = true ∨ X.env.scope.names.lookup x = some .local := by first | exact .inl rfl | exact .inr rfl | assumption) : QG X (.Name x pos) (gName i) := ⟨pg_name (hN := hN) (hi := hi) (hx := hx) (hf := hf)⟩
theorem qg_tupH {es : List Expr} {k : Nat} {t : TGs} {n : Nat} {pos : Pos} (hc : X.calm = true) (h : QGs X es t) (hn : (assignEach es X.env).length = n := by rfl) (hst : (assignEach es X.env).findIdx? (·.1) = none := by rfl) : QG X (.Tuple es k pos) (gTupH X.K n t) := ⟨pg_tupH (hc := hc) (h := h.h) (hn := hn) (hst := hst)⟩
theorem qgs_nil  : QGs X [] gNil := ⟨pgs_nil ⟩
theorem qgs_cons {e : Expr} {es : List Expr} {t : TG} {u : TGs} (h1 : QG X e t) (h2 : QGs X es u) (hs : (assignEach (e :: es) X.env).map (·.2) = assign e X.env :: (assignEach es X.env).map (·.2) := by rfl) : QGs X (e :: es) (gCons t u) := ⟨pgs_cons (h1 := h1.h) (h2 := h2.h) (hs := hs)⟩
theorem qg_sub {o i : Expr} {to ti : TE} {t : TSet} (ho : QE X o to) (hi : QE X i ti) (hs : PSet X t) (ha : ∀ v, assign (.Subscript o i pos) X.env v = (do
      let ov ← holding [v] (eval o X.env)
      let iv ← holding [v, ov] (eval i X.env)
      standAt pos
      holding [v, ov, iv] (setItem ov iv v)
      release [v, ov, iv] []) := by intro _; rfl) : QG X (.Subscript o i pos) (gSub to ti t) := ⟨pg_sub (ho := ho.h) (hi := hi.h) (hs := hs) (ha := ha)⟩
theorem qi_range1 {a : Expr} {ta : TA} {p pos : Pos} (hg : Gl X "range") (hm : X.mg "range" = none) (ha : QA X [a] ta) (hs : starEach [a] X.env = [(false, eval a X.env)] := by rfl) : QI X tg (.Call (.Name "range" p) [a] [] pos) (iRng1 ta) := ⟨pi_range1 (hg := hg) (hm := hm) (ha := ha.h) (hs := hs)⟩
theorem qi_list {l : Expr} {tl : TE} (hl : QE X l tl) : QI X tg l (iList X.K tl) := ⟨pi_list (hl := hl.h)⟩
theorem qs_ret (he : QE X e te) : QS X (.Return (some e) pos) (tRet te) := ⟨ps_ret (he := he.h)⟩
theorem qs_expr (he : QE X e te) (hs : swapsWith e none pos.line X.env = pure false := by rfl) : QS X (.Expr e pos) (tDrop te) := ⟨ps_expr (he := he.h) (hs := hs)⟩
theorem qs_if {c : Expr} {a b : List Stmt} {tc : TT} (hc : QT X c tc) (ha : QSs X a t) (hb : QSs X b u) : QS X (.If c a b pos) (tIfS tc t u) := ⟨ps_if (hc := hc.h) (ha := ha.h) (hb := hb.h)⟩
theorem qs_while {c : Expr} {body : List Stmt} {tc : TT} {tb : TS} (hp : PassesOwn (model X.prog X.w) X.A X.env X.xe) (hc : QT X c tc) (hb : QSs X body tb) : QS X (.While c body [] pos) (tWhile tc tb) := ⟨ps_while (hp := hp) (hc := hc.h) (hb := hb.h)⟩
theorem qs_for {iter : Expr} {body : List Stmt} {wi : TI} {g : TG} {tb : TS} {pos : Pos} (hp : PassesOwn (model X.prog X.w) X.A X.env X.xe) (hc : X.calm = true) (hi : QI X tg iter wi) (hg : QG X tg g) (hb : QSs X body tb) (hs : ∀ x, foldedSetIterable iter X.env x = pure x := by intro _; rfl) : QS X (.For tg iter body [] pos) (tFor wi g tb) := ⟨ps_for (hp := hp) (hc := hc) (hi := hi.h) (hg := hg.h) (hb := hb.h) (hs := hs)⟩
theorem qs_set {i : Nat} {x : Str} {e : Expr} {te : TE} {pos' : Pos} (hN : X.N.Nodup) (hi : X.N[i]? = some x) (hx : Loc X.env.scope x) (he : QE X e te) (hs : swapsWith e (some (.Name x pos')) pos.line X.env = pure false := by rfl) (hf : X.fn x = true ∨ X.env.scope.names.lookup x = some .local := by first | exact .inl rfl | exact .inr rfl | assumption) :
    QS X (.Assign [.Name x pos'] e pos) (tAsg te (gName i)) := ⟨ps_set (hN := hN) (hi := hi) (hx := hx) (he := he.h) (hs := hs) (hf := hf)⟩
theorem qs_par {i j : Nat} {x y : Str} {a b : Expr} {ta : TA} {px py pt : Pos} {kt k2 pt2} (hc : X.calm = true) (hN : X.N.Nodup) (hi : X.N[i]? = some x) (hj : X.N[j]? = some y) (hij : i ≠ j) (hx : X.env.scope.names.lookup x = some .local) (hy : X.env.scope.names.lookup y = some .local) (ha : QA X [a, b] ta) (hw : swappedStores [.Tuple [.Name x px, .Name y py] kt pt] (.Tuple [a, b] k2 pt2) X.env = pure (some [x, y])) (hs : swapsWithSole [.Tuple [.Name x px, .Name y py] kt pt] (.Tuple [a, b] k2 pt2) pos.line X.env = pure false := by rfl) :
    QS X (.Assign [.Tuple [.Name x px, .Name y py] kt pt] (.Tuple [a, b] k2 pt2) pos) (tPar i j ta) := ⟨ps_par (hc := hc) (hN := hN) (hi := hi) (hj := hj) (hij := hij) (hx := hx) (hy := hy) (ha := ha.h) (hw := hw) (hs := hs)⟩
theorem qs_asg {tg e : Expr} {te : TE} {g : TG} (he : QE X e te) (hg : QG X tg g) (hs : swapsWithSole [tg] e pos.line X.env = pure false := by rfl) (hw : swappedStores [tg] e X.env = pure none := by rfl) (h1 : (assignEach [tg] X.env).map (·.2) = [assign tg X.env] := by rfl) : QS X (.Assign [tg] e pos) (tAsg te g) := ⟨ps_asg (he := he.h) (hg := hg.h) (hs := hs) (hw := hw) (h1 := h1)⟩
theorem qs_aug {i : Nat} {x : Str} {e : Expr} {te : TE} {op : Operator} {ti : TIp} {pos' : Pos} (hN : X.N.Nodup) (hi : X.N[i]? = some x) (hx : Loc X.env.scope x) (he : QE X e te) (ho : PIp X op ti) (hf : X.fn x = true ∨ X.env.scope.names.lookup x = some .local := by first | exact .inl rfl | exact .inr rfl | assumption) :
    QS X (.AugAssign (.Name x pos') op e pos) (tAug i te ti) := ⟨ps_aug (hN := hN) (hi := hi) (hx := hx) (he := he.h) (ho := ho) (hf := hf)⟩
theorem qss_nil  : QSs X [] tNext := ⟨pss_nil ⟩
theorem qss_one (h1 : QS X st t) : QSs X [st] t := ⟨pss_one (h1 := h1.h)⟩
theorem qss_cons (h1 : QS X st t) (h2 : QSs X rest' u) : QSs X (st :: rest') (tSeq t u) := ⟨pss_cons (h1 := h1.h) (h2 := h2.h)⟩
theorem qss_cut {X : Cx} {st : Stmt} {rest' : List Stmt} {t u : TS} (h1 : QS X st t) (h2 : QSs X rest' u) : QSs X (st :: rest') (tCut t u) := ⟨pss_cut (h1 := h1.h) (h2 := h2.h)⟩
theorem qf_nil {X : Cx} : QF X [] tYes := ⟨pf_nil ⟩
theorem qf_one {X : Cx} {c : Expr} {t : TT} (h : QT X c t) : QF X [c] t := ⟨pf_one (h := h.h)⟩
theorem qv (i : Nat) {x : Str} {pos : Pos} (hN : X.N[i]? = some x := by rfl) (hv : Vis X.env.scope x := by first | exact Or.inl rfl | exact Or.inr (Or.inl rfl) | exact Or.inr (Or.inr rfl)) (hd : (x == ("__debug__" : Str)) = false := by decide) (hcd : (x == ("__classdict__" : Str)) = false := by decide) : QE X (.Name x pos) (tVar i) := ⟨pv (i := i) (hN := hN) (hv := hv) (hd := hd) (hcd := hcd)⟩
theorem qe_comp {tg iter elt : Expr} {ifs : List Expr} {scope : Scope} {wi : TI} {g : TG} {tif : TT} {te : TE} {cl : List (Str × Addr)} {own outs : List Str} {ixs : List Nat}
    (hc : X.calm = true) (hi : QI X tg iter wi) (hclos : closureFor scope X.env = pure cl) (S : CompSc X scope cl own outs ixs)
    (hb : ∀ C s H ex, QG (cxC X scope cl (own ++ outs) C s H ex) tg g ∧ QF (cxC X scope cl (own ++ outs) C s H ex) ifs tif ∧ QE (cxC X scope cl (own ++ outs) C s H ex) elt te)
    (hs : ∀ x, foldedSetIterable iter X.env x = pure x := by intro _; rfl) : QE X (.ListComp elt [⟨tg, iter, ifs, 0⟩] scope pos) (tComp X.K wi own.length ixs g tif te) :=
  ⟨pe_comp hc hi.h hclos S (fun C s H ex => ⟨(hb C s H ex).1.h, (hb C s H ex).2.1.h, (hb C s H ex).2.2.h⟩) hs⟩
theorem qs_setC {tg iter elt : Expr} {ifs : List Expr} {scope : Scope} {spos py : Pos} {y : Str} {i : Nat} {wi : TI} {g : TG} {tif : TT} {te : TE} {cl : List (Str × Addr)} {own outs : List Str} {ixs : List Nat}
    (hN : X.N.Nodup) (hy : X.N[i]? = some y) (hx : Loc X.env.scope y) (hc : X.calm = true) (hi : QI X tg iter wi) (hclos : closureFor scope X.env = pure cl) (S : CompSc X scope cl own outs ixs)
    (hb : ∀ C s H ex, QG (cxC X scope cl (own ++ outs) C s H ex) tg g ∧ QF (cxC X scope cl (own ++ outs) C s H ex) ifs tif ∧ QE (cxC X scope cl (own ++ outs) C s H ex) elt te)
    (hsw : swapsWith (.ListComp elt [⟨tg, iter, ifs, 0⟩] scope pos) (some (.Name y py)) spos.line X.env = pure true := by rfl)
    (hs : ∀ x, foldedSetIterable iter X.env x = pure x := by intro _; rfl) (hf : X.fn y = true ∨ X.env.scope.names.lookup y = some .local := by first | exact .inl rfl | exact .inr rfl | assumption) :
    QS X (.Assign [.Name y py] (.ListComp elt [⟨tg, iter, ifs, 0⟩] scope pos) spos) (tAsg (tComp X.K wi own.length ixs g tif te) (gName i)) :=
  ⟨ps_setC hN hy hx hc hi.h hclos S (fun C s H ex => ⟨(hb C s H ex).1.h, (hb C s H ex).2.1.h, (hb C s H ex).2.2.h⟩) hsw hs hf⟩
end
section
variable {P : Program} {w : World} {K : PySem.W.Frag} {mg : Str → Option Value} {base : Heap}
theorem Fun.okQ {x qual : Str} {st : Stmt} {f : Addr} {fd : FuncData} {N ps : List Str} {k : Nat} {sp : Sp} (F : Fun K x qual st f fd) (S : FnScope N ps (defScope st)) (len : ∀ vs H Q E, sp vs H Q E → vs.length = ps.length)
    (hbody : ∀ (cdv : Value) (A : Around) (outer : List Env) (s : Shared) (H : Hp) (vs : List V) (Q : VK) (E : XK), Room k (A.deeper (envOfC qual (defScope st) s.heap.objs.size f cdv)) → sp vs H Q E →
      ∃ t, QSs (cxOf CX0 P w K mg base N qual (defScope st) f cdv A outer s H E).nox (defBody st) t ∧ t { nx := fun _ H' => Q .non H', rt := Q } (start N vs) H) : FnOk P w K mg base CX0 (k + 1) f fd ps sp :=
  F.ok S len fun cdv A outer s H vs Q E hr h => (hbody cdv A outer s H vs Q E hr h).imp fun t z => ⟨z.1.h, z.2⟩
end
end L2

set_option Elab.async false
set_option linter.all false
set_option maxRecDepth 100000
namespace L2
open PySem PySem.Spec PyProof.Rows
section
variable {X : Cx} {pins : List (Addr × Obj)} {σ : St} {H : Hp} {s : Shared} {h' : Heap}
theorem Inv.turnT {t' : Nat} {ch : List Addr} {T : Addr} {xs : List V} {its : List Value} (I : Inv X pins σ H s) (k : ∀ b o, b ∉ ch → s.heap.get? b = some o → h'.get? b = some o) (hf : ∀ b ∈ ch, FpOk X pins H b)
    (hT : s.heap.objs.size ≤ T) (hz : xs.length ≤ sizeLine) (rv : Vals xs its) (ht : IsTup h' T its.toArray) : Inv X pins σ (upd H T (.tup xs)) { s with heap := h', toks := t' } := by
  have hn : H T = none := I.hok.fresh hT
  have nT : ∀ b o, s.heap.get? b = some o → b ≠ T := fun b o e => Nat.ne_of_lt (Nat.lt_of_lt_of_le (Heap.lt_size e) hT)
  refine I.step (g' := s.gens) (d' := s.drawn) (ch := ch) (fun b hb => ?_) (fun b o _ _ hc e _ => k b o hc e) (fun b o _ _ hc e _ => ⟨o.slots, k b o hc e⟩) (fun b o _ e n => ?_)
    (fun b o hc e => ⟨o, k b o hc e⟩) (fun b ys e => ?_) (fun b o u e => ?_) (fun b ps e => ⟨#[], ?_⟩) (fun m hm => ?_) (fun b u e => ?_) I.bare
  · obtain ⟨_, f1, _, f3, f4, f5⟩ := hf b hb
    exact ⟨f3, f1, f4, f5⟩
  · rw [upd_ne (nT b o e)]
    exact n
  · rw [upd_ne (ne_of_none e hn)]
    exact e
  · rw [upd_ne (ne_of_none e hn)]
    exact e
  · rw [upd_ne (ne_of_none e hn), e]
    simp
  · obtain ⟨o, es, ep, ho, r⟩ := hm
    exact ⟨o, es, ep, k _ o (fun z => (hf _ z).2.1 rfl) ho, r⟩
  · by_cases hb : b = T
    · subst hb
      rw [upd_same] at e
      cases e
      exact ⟨hz, its, rv, ht⟩
    · rw [upd_ne hb] at e
      have nch : ∀ c v, H c = some v → c ∉ ch := fun c v z hc => by
        rw [(hf c hc).1] at z
        cases z
      refine (I.hok b u e).stay (fun c v hc q => k c v ?_ q) (fun c q => ?_) fun c ys q => ?_
      · rcases hc with z | z
        · rw [z]
          exact nch b u e
        · exact nch c _ z
      · rw [upd_ne (ne_of_none q hn)]
        exact q
      · rw [upd_ne (ne_of_none q hn)]
        exact q
end
def ItP (K : PySem.W.Frag) (R : Hp → List (List V) → Prop) : It :=
  ⟨fun i H => ∃ ys t, R H ys ∧ ys[i]? = some t, fun i H x H' => ∃ p t, x = .ref p ∧ vw K H p = none ∧ Same (vw K H) (vw K H') ∧ vw K H' p = some (.tup t) ∧ ∀ ys, R H ys → ys[i]? = some t, fun i H => ∃ ys, R H ys ∧ ys.length = i⟩
end L2

set_option Elab.async false
set_option linter.all false
set_option maxRecDepth 100000
namespace L2
open PySem PySem.Spec PyProof.Rows
def Bq (n : Nat) (q : Int × Int) : Prop := Bt n q.1 ∧ Bt n q.2
theorem Bq.mono {m n : Nat} {q : Int × Int} (h : Bq m q) (hl : m ≤ n) : Bq n q := ⟨h.1.mono hl, h.2.mono hl⟩
def ltq (p q : Int × Int) : Bool := decide (p.1 * q.2 < q.1 * p.2)
def addq (p q : Int × Int) : Int × Int := lo (p.1 * q.2 + q.1 * p.2) (p.2 * q.2)
theorem lg_pos {a b : Int} (hb : 0 < b) : 0 < lg a b := by
  unfold lg
  rw [if_neg (by walk_at "o")]
  have : Int.gcd a b ≠ 0 := fun e => by
    have := (Int.gcd_eq_zero_iff.mp e).2
    walk_at "o"
  walk_at "o"
theorem bt_lo {a b : Int} {n : Nat} (hb : b ≠ 0) (h1 : Bt n a) (h2 : Bt n b) : Bq n (lo a b) := by
  have e1 := lo_mul_left (a := a) hb
  have e2 := lo_mul_right (a := a) hb
  have hl : 0 < (lg a b).natAbs := by have := lg_ne (a := a) hb; walk_at "o"
  constructor
  · unfold Bt at *
    have := Int.natAbs_mul (lo a b).1 (lg a b)
    rw [e1] at this
    have := Nat.le_mul_of_pos_right (lo a b).1.natAbs hl
    walk_at "o"
  · unfold Bt at *
    have := Int.natAbs_mul (lo a b).2 (lg a b)
    rw [e2] at this
    have := Nat.le_mul_of_pos_right (lo a b).2.natAbs hl
    walk_at "o"
theorem addq_Fq {p q : Int × Int} (hp : Fq p) (hq : Fq q) : Fq (addq p q) := lo_Fq (by have := Int.mul_pos hp.1 hq.1; walk_at "o")
theorem addq_lt {p q : Int × Int} (hp : Fq p) (hq : Fq q) (h0 : 0 < q.1) : ltq p (addq p q) = true := by
  have hd : 0 < p.2 * q.2 := Int.mul_pos hp.1 hq.1
  have hb : p.2 * q.2 ≠ 0 := by walk_at "o"
  have e1 := lo_mul_left (a := p.1 * q.2 + q.1 * p.2) hb
  have e2 := lo_mul_right (a := p.1 * q.2 + q.1 * p.2) hb
  have hg := lg_pos (a := p.1 * q.2 + q.1 * p.2) hd
  unfold ltq addq
  generalize lo (p.1 * q.2 + q.1 * p.2) (p.2 * q.2) = r at *
  generalize lg (p.1 * q.2 + q.1 * p.2) (p.2 * q.2) = g at *
  apply decide_eq_true
  apply Int.lt_of_mul_lt_mul_right _ (Int.le_of_lt hg)
  have z1 : p.1 * r.2 * g = p.1 * (p.2 * q.2) := by rw [Int.mul_assoc, e2]
  have z2 : r.1 * p.2 * g = (p.1 * q.2 + q.1 * p.2) * p.2 := by rw [← e1]; rw [Int.mul_right_comm]
  rw [z1, z2]
  have hq2 : 0 < q.1 * p.2 * p.2 := Int.mul_pos (Int.mul_pos h0 hp.1) hp.1
  have z3 : (p.1 * q.2 + q.1 * p.2) * p.2 = p.1 * (p.2 * q.2) + q.1 * p.2 * p.2 := by
    rw [Int.add_mul, Int.mul_assoc p.1 q.2 p.2, Int.mul_comm q.2 p.2]
  walk_at "o"
theorem addq_Bq {p q : Int × Int} {m n : Nat} (hp : Fq p) (hq : Fq q) (h1 : Bq m p) (h2 : Bq n q) : Bq (m + n + 1) (addq p q) := by
  refine bt_lo (by have := Int.mul_pos hp.1 hq.1; walk_at "o") ?_ ?_
  · have := (h1.1.mul h2.2).add (h2.1.mul h1.2)
    exact this.mono (by walk_at "o")
  · exact (h1.2.mul h2.2).mono (by walk_at "o")
def FlAt (G : Hp) (a : Addr) (ds : List D) : Prop := ∃ xs, G a = some (.lst xs) ∧ Reps G ds xs
section
variable {G G' : Hp} {a l : Addr} {ds : List D} {xs : List V}
theorem FlAt.same (h : FlAt G a ds) (S : Same G G') : FlAt G' a ds := by
  obtain ⟨ys, h1, h2⟩ := h
  exact ⟨ys, S _ _ h1, h2.same S⟩
theorem FlAt.but (h : FlAt G a ds) (hf : D.flats ds = true) (hl : G l = some (.lst xs)) (hn : a ≠ l) (S : But l G G') : FlAt G' a ds := by
  obtain ⟨ys, h1, h2⟩ := h
  exact ⟨ys, S _ _ hn h1, Reps.flat_but hl S _ _ hf h2⟩
theorem FlAt.rep (h : FlAt G a ds) : Rep G (.lst ds) (.ref a) := by
  obtain ⟨ys, h1, h2⟩ := h
  exact .mk_lst h1 h2
theorem FlAt.ne_st {st : Addr} (h : FlAt G a ds) (hd : ∀ i b, ds ≠ [.int i, .bl b]) (hst : StOk G st) : a ≠ st := by
  rintro rfl
  obtain ⟨ys, h1, h2⟩ := h
  obtain ⟨x, b, h3, _⟩ := hst
  rw [h1] at h3
  cases h3
  exact hd _ _ (Rep.lst_st h2)
theorem FlAt.stBut {st : Addr} (h : FlAt G a ds) (hf : D.flats ds = true) (hd : ∀ i b, ds ≠ [.int i, .bl b]) (hst : StOk G st) (S : But st G G') : FlAt G' a ds := by
  obtain ⟨x, b, h3, h4⟩ := id hst
  exact h.but hf h3 (h.ne_st hd hst) S
end
theorem ty_lst {K : PySem.W.Frag} {H : Hp} {p : Addr} {xs : List V} (h : vw K H p = some (.lst xs)) : tyV K "list" (.ref p) H := .inl ⟨rfl, xs, .of (vw_lst h)⟩
theorem FlAt.ty {K : PySem.W.Frag} {H : Hp} {p : Addr} {ds : List D} (h : FlAt (vw K H) p ds) : tyV K "list" (.ref p) H := by
  obtain ⟨xs, h, _⟩ := h
  exact ty_lst h
abbrev Spt := (Int × Int) × (Int × Int)
def spt (c : Spt) : D := .tup [fr c.1, fr c.2]
theorem spt_flats : ∀ (cs : List Spt), D.flats (cs.map spt) = true
  | [] => by simp [D.flats]
  | c :: cs => by
    rw [List.map_cons]
    unfold D.flats
    rw [spt_flats cs]
    simp [spt, D.flat, D.flats, fr_flat]
theorem spt_no (cs : List Spt) : ∀ i b, cs.map spt ≠ [.int i, .bl b] := fun i b e => by
  cases cs with
  | nil => cases e
  | cons c cs =>
    rw [List.map_cons] at e
    have := (List.cons.inj e).1
    unfold spt at this
    cases this
theorem Rep.spt_at {H : Hp} {c : Spt} {v : V} (h : Rep H (spt c) v) : ∃ a x y, v = .ref a ∧ H a = some (.tup [x, y]) ∧ Rep H (fr c.1) x ∧ Rep H (fr c.2) y := by
  obtain ⟨a, xs, rfl, ha, r⟩ := h.tup_at
  obtain ⟨d1, d2, x1, x2, e1, rfl, r1, r2⟩ := r.pair (by rw [r.length]; rfl)
  cases e1
  exact ⟨a, x1, x2, rfl, ha, r1, r2⟩
theorem Rep.mk_spt {H : Hp} {c : Spt} {a : Addr} {x y : V} (h : H a = some (.tup [x, y])) (h1 : Rep H (fr c.1) x) (h2 : Rep H (fr c.2) y) : Rep H (spt c) (.ref a) := .mk_tup h (.mk_cons h1 (.mk_cons h2 .mk_nil))
end L2

set_option Elab.async false
set_option linter.all false
set_option maxRecDepth 100000
namespace L2
open PySem PySem.Spec PyProof.Rows
section
variable {K : PySem.W.Frag} {σ : St} {H0 : Hp} {t u : TE} {ta : TA} {b c : Bool} {m n : Nat}
variable {st : Addr}
end
end L2

set_option Elab.async false
set_option linter.all false
set_option maxRecDepth 100000
namespace L2
open PySem PySem.Spec PyProof.Rows
section
variable {prog : Program} {w : World} {A : Around} {E : Value → Shared → Prop} {s : Shared}
theorem next_tup {it t : Addr} {i : Nat} {its : Array Value} {x : Value} {Q : Value → Shared → Prop} (a : s.heap.IsTupleIter it t i) (b : s.heap.IsTuple t its) (c : its[i]? = some x)
    (q : ∀ g, g.IsTupleIter it t (i + 1) → Heap.SameBut it s.heap g → Q x { s with heap := g }) : wpAny (model prog w) A (Builtin.SmallTypes.nextOf (.ref it)) Q E s := by
  obtain ⟨u, a1, a2, a3⟩ := id a
  obtain ⟨v, b1, _, bn, b2⟩ := b
  unfold Builtin.SmallTypes.nextOf
  refine wpAny_bind (wpAny_callSpecial?_slot (name := Str.ofString "__next__") a.typeIs F.slot_tuple_iterator_next (wpAny_call_entry F.slot_tuple_iterator_next a.typeIs F.entry_tuple_iterator_next ?_ (F.args_tuple_iterator_next_1 _)))
  show wpAny _ _ (field (.ref it) 0 >>= _) _ _ s; refine wpAny_bind (wpAny_field a1 a3 (x := .ref t) rfl ?_)
  show wpAny _ _ (if (Value.ref t == Value.none) = true then _ else _) _ _ s; rw [if_neg (show ¬ ((Value.ref t == Value.none) = true) from Bool.false_ne_true)]
  show wpAny _ _ (field (.ref it) 1 >>= _) _ _ s; refine wpAny_bind (wpAny_field a1 a3 (x := .int i 0) rfl ?_)
  show wpAny _ _ (seqItems? (.ref t) >>= _) _ _ s; refine wpAny_bind (wpAny_seqItems b1 b2 ?_)
  simp only [Int.toNat_natCast, c]
  refine wpAny_bind (wpAny_setField a1 a3 (by simp) (wpAny_pure ⟨x, rfl, wpAny_pure (q _ ?_ (Heap.SameBut.update ..))⟩))
  exact ⟨_, Heap.get?_update_self _ a1 (Obj.isFreed_of_fields (Obj.data_mapFields a3 _)), (Obj.cls_mapFields ..).trans a2, by rw [Obj.data_mapFields a3]; simp [rawInt]⟩
theorem next_tup_end {it t : Addr} {i : Nat} {its : Array Value} {Q : Value → Shared → Prop} (hh : A.handled = none) (a : s.heap.IsTupleIter it t i) (b : s.heap.IsTuple t its) (c : its[i]? = none)
    (q : ∀ g e, Heap.ExtBut it s.heap g → (∃ o, g.get? e = some o ∧ o.cls = .type "StopIteration") → E (.ref e) { s with heap := g }) : wpAny (model prog w) A (Builtin.SmallTypes.nextOf (.ref it)) Q E s := by
  obtain ⟨u, a1, a2, a3⟩ := id a
  obtain ⟨v, b1, _, bn, b2⟩ := b
  unfold Builtin.SmallTypes.nextOf
  refine wpAny_bind (wpAny_callSpecial?_slot (name := Str.ofString "__next__") a.typeIs F.slot_tuple_iterator_next (wpAny_call_entry F.slot_tuple_iterator_next a.typeIs F.entry_tuple_iterator_next ?_ (F.args_tuple_iterator_next_1 _)))
  show wpAny _ _ (field (.ref it) 0 >>= _) _ _ s; refine wpAny_bind (wpAny_field a1 a3 (x := .ref t) rfl ?_)
  show wpAny _ _ (if (Value.ref t == Value.none) = true then _ else _) _ _ s; rw [if_neg (show ¬ ((Value.ref t == Value.none) = true) from Bool.false_ne_true)]
  show wpAny _ _ (field (.ref it) 1 >>= _) _ _ s; refine wpAny_bind (wpAny_field a1 a3 (x := .int i 0) rfl ?_)
  show wpAny _ _ (seqItems? (.ref t) >>= _) _ _ s; refine wpAny_bind (wpAny_seqItems b1 b2 ?_)
  simp only [Int.toNat_natCast, c]
  refine wpAny_bind (wpAny_rule (wpAny_bind (wpAny_setField a1 a3 (by simp) ?_))); show wpAny _ _ (newExc (.type "StopIteration") [] >>= _) _ _ _
  refine wpAny_bind ?_; simp only [newExc, newTuple]; refine wpAny_bind (wpAny_newObj_type ?_ (by size_fits))
  refine wpAny_bind (m := firstArgMember _ _) (wpAny_of_eq (a := Value.none) (by first | rfl | (simp only [firstArgMember]; rfl)) ?_); refine wpAny_newObj_type ?_ (by size_fits)
  simp only [raiseNew]; refine wpAny_bind (wpAny_handled ?_)
  (first | rw [show A.in1.handled = none from hh] | rw [hh]); refine wpAny_bind (wpAny_pure (wpAny_throw ?_))
  exact q _ _ (((Heap.SameBut.update ..).extBut.push _).push _) ⟨_, Heap.get?_push_size _ rfl, rfl⟩
end
theorem draws_tup {prog : Program} {w : World} {A : Around} (hh : A.handled = none) (it l : Addr) (hne : l ≠ it) (its : Array Value) :
    Draws prog w A it [it, l] its.size (fun i v => its[i]? = some v) (fun i h => h.IsTupleIter it l i ∧ h.IsTuple l its) where
  live := fun _ _ st => let ⟨o, ho, _⟩ := st.1; ⟨o, ho⟩
  frame := fun _ _ _ st hk => ⟨(let ⟨o, ho, r⟩ := st.1; ⟨o, hk it (by simp) o ho, r⟩), (let ⟨o, ho, r⟩ := st.2; ⟨o, hk l (by simp) o ho, r⟩)⟩
  item := fun i s Q E hi st q => next_tup st.1 st.2 (x := its[i]) (by simp [hi]) fun g a b => q _ g s.toks (by simp [hi]) ⟨a, st.2.extBut b.extBut hne⟩ b
  done := fun s Q E st q => next_tup_end hh st.1 st.2 (by simp) q
section
variable {prog : Program} {w : World} {A : Around} {E : Value → Shared → Prop} {s : Shared} {z TI TO i1 i2 : Addr} {f1 f2 : List Addr} {n1 n2 k : Nat} {P1 P2 : Nat → Value → Prop} {T1 T2 : Nat → Heap → Prop} {a b : Value}
structure ZApart (z TI TO i1 i2 : Addr) (f1 f2 : List Addr) : Prop where
  tiz : TI ≠ z
  toz : TO ≠ z
  tito : TI ≠ TO
  ti1 : TI ≠ i1
  ti2 : TI ≠ i2
  to1 : TO ≠ i1
  to2 : TO ≠ i2
  z1 : z ≠ i1
  z2 : z ≠ i2
  n12 : i1 ≠ i2
  zf1 : z ∉ f1
  zf2 : z ∉ f2
  tf1 : TO ∉ f1
  tf2 : TO ∉ f2
  if1 : i2 ∉ f1
  if2 : i1 ∉ f2
theorem zipD_item {Q : Value → Shared → Prop} (D1 : Draws prog w A i1 f1 n1 P1 T1) (D2 : Draws prog w A i2 f2 n2 P2 T2) (Z : ZApart z TI TO i1 i2 f1 f2) (hz : IsZip s.heap z TI TO .none) (hTI : IsPair s.heap TI (.ref i1) (.ref i2)) (hTO : IsPair s.heap TO a b)
    (h1 : T1 k s.heap) (h2 : T2 k s.heap) (k1 : k < n1) (k2 : k < n2)
    (hQ : ∀ x y g tk, P1 k x → P2 k y → IsZip g z TI TO (rawInt s.heap.objs.size) → IsPair g TO x y → T1 (k + 1) g → T2 (k + 1) g → IsPair g s.heap.objs.size x y → g.objs.size = s.heap.objs.size + 1 →
      (∀ c o, c ∉ [z, TO, i1, i2] → s.heap.get? c = some o → g.get? c = some o) → Q (.ref s.heap.objs.size) { s with heap := g, toks := tk }) :
    wpAny (model prog w) A (Builtin.«zip.__next__» ⟨[.ref z], []⟩) (fun fin s' => ∃ v, fin = .done (.ret v) ∧ Q v s') E s := by
  show wpAny _ _ (field (.ref z) 2 >>= _) _ _ _; refine wpAny_bind (wpAny_field hz rfl (x := .bool false) rfl ?_)
  show wpAny _ _ (field (.ref z) 3 >>= _) _ _ _; refine wpAny_bind (wpAny_field hz rfl (x := .ref TI) rfl ?_)
  refine wpAny_bind (wpAny_seqItems hTI rfl ?_); show wpAny _ _ (Builtin.SmallTypes.ownedTupleIsFree (.ref z) >>= _) _ _ _
  refine wpAny_bind ?_; unfold Builtin.SmallTypes.ownedTupleIsFree
  refine wpAny_bind (wpAny_field hz rfl (x := .none) rfl (wpAny_pure ?_)); simp only [if_true]
  refine wpAny_bind (wpAny_rule ?_); refine wpAny_bind (wpAny_field hz rfl (x := .ref TO) rfl ?_)
  refine wpAny_bind (wpAny_setField_rec hz (by simp) fun g1 hz1 s1 => ?_)
  replace hz1 : IsZip g1 z TI TO .ellipsis := hz1
  refine wpAny_bind ?_; simp only [List.zipIdx_cons, List.zipIdx_nil, List.forIn_cons, List.forIn_nil]
  refine wpAny_bind (wpAny_bind (wpAny_onRaise ?_)); show wpAny _ _ (Builtin.SmallTypes.nextOf (.ref i1) >>= _) _ _ _
  refine wpAny_bind (D1.item k _ _ _ k1 (D1.frame k _ _ h1 fun c hc o e => s1.extBut _ _ (fun z' => Z.zf1 (z' ▸ hc)) e) fun x g2 tk2 p1 t1 s2 => wpAny_pure ?_)
  replace s2 : Heap.SameBut i1 g1 g2 := s2
  have hTO2 : IsPair g2 TO a b := s2.extBut _ _ Z.to1 (s1.extBut _ _ Z.toz hTO)
  refine wpAny_bind (wpAny_seqItems hTO2 rfl ?_); refine wpAny_bind (wpAny_updateSeq_pair hTO2 fun g3 hTO3 s3 => ?_)
  replace hTO3 : IsPair g3 TO x b := hTO3
  replace s3 : Heap.SameBut TO g2 g3 := s3
  refine wpAny_bind (wpAny_letGo (wpAny_pure ?_)); refine wpAny_bind (wpAny_bind (wpAny_onRaise ?_))
  show wpAny _ _ (Builtin.SmallTypes.nextOf (.ref i2) >>= _) _ _ _
  have t2' : T2 k g3 := D2.frame k _ _ h2 fun c hc o e => s3.extBut _ _ (fun z' => Z.tf2 (z' ▸ hc)) (s2.extBut _ _ (fun z' => Z.if2 (z' ▸ hc)) (s1.extBut _ _ (fun z' => Z.zf2 (z' ▸ hc)) e))
  refine wpAny_bind (D2.item k _ _ _ k2 t2' fun y g4 tk4 p2 t2 s4 => wpAny_pure ?_)
  replace s4 : Heap.SameBut i2 g3 g4 := s4
  have hTO4 : IsPair g4 TO x b := s4.extBut _ _ Z.to2 hTO3
  refine wpAny_bind (wpAny_seqItems hTO4 rfl ?_); refine wpAny_bind (wpAny_updateSeq_pair hTO4 fun g5 hTO5 s5 => ?_)
  replace hTO5 : IsPair g5 TO x y := hTO5
  replace s5 : Heap.SameBut TO g4 g5 := s5
  refine wpAny_bind (wpAny_letGo (wpAny_pure (wpAny_pure ?_))); refine wpAny_bind (wpAny_seqItems hTO5 rfl ?_)
  refine wpAny_bind (wpAny_newTuple ?_)
  have hsz : g5.objs.size = s.heap.objs.size := by rw [s5.1, s4.1, s3.1, s2.1, s1.1]
  have hz5 : IsZip g5 z TI TO .ellipsis := s5.extBut _ _ Z.toz.symm (s4.extBut _ _ Z.z2 (s3.extBut _ _ Z.toz.symm (s2.extBut _ _ Z.z1 hz1)))
  have k5 : ∀ c o, c ∉ [z, TO, i1, i2] → s.heap.get? c = some o → g5.get? c = some o := fun c o hc e => by
    simp only [List.mem_cons, List.not_mem_nil, or_false, not_or] at hc
    exact s5.extBut _ _ hc.2.1 (s4.extBut _ _ hc.2.2.2 (s3.extBut _ _ hc.2.1 (s2.extBut _ _ hc.2.2.1 (s1.extBut _ _ hc.1 e))))
  have t15 : T1 (k + 1) g5 := D1.frame _ _ _ t1 fun c hc o e => s5.extBut _ _ (fun z' => Z.tf1 (z' ▸ hc)) (s4.extBut _ _ (fun z' => Z.if1 (z' ▸ hc)) (s3.extBut _ _ (fun z' => Z.tf1 (z' ▸ hc)) e))
  have t25 : T2 (k + 1) g5 := D2.frame _ _ _ t2 fun c hc o e => s5.extBut _ _ (fun z' => Z.tf2 (z' ▸ hc)) e
  have zlt : z < g5.objs.size := Heap.lt_size hz5
  show wpAny _ _ (Builtin.SmallTypes.ownedTupleHandOut (.ref z) (.ref g5.objs.size) >>= _) _ _ _; refine wpAny_bind ?_
  unfold Builtin.SmallTypes.ownedTupleHandOut
  have hz6 : IsZip (g5.push { cls := .type "tuple", data := .seq #[x, y] }) z TI TO .ellipsis := Heap.get?_push_of_some _ hz5
  refine wpAny_bind (wpAny_setField_rec hz6 (by simp) fun g7 hz7 s7 => ?_)
  replace hz7 : IsZip g7 z TI TO (rawInt g5.objs.size) := hz7
  refine wpAny_setField_rec hz7 (by simp) fun g8 hz8 s8 => ?_
  replace hz8 : IsZip g8 z TI TO (rawInt g5.objs.size) := hz8
  have up : ∀ c o, c ≠ z → g5.get? c = some o → g8.get? c = some o := fun c o hc e => s8.extBut _ _ hc (s7.extBut _ _ hc (Heap.get?_push_of_some _ e))
  have hT8 : IsPair g8 g5.objs.size x y := s8.extBut _ _ (Nat.ne_of_gt zlt) (s7.extBut _ _ (Nat.ne_of_gt zlt) (Heap.get?_push_size _ rfl))
  have hn8 : g8.objs.size = g5.objs.size + 1 := by rw [s8.1, s7.1, Heap.size_push]
  rw [hsz] at hz8 hT8 hn8
  refine wpAny_pure ⟨_, rfl, ?_⟩; show Q (.ref g5.objs.size) _; rw [hsz]
  exact hQ x y g8 _ p1 p2 hz8 (up _ _ Z.toz hTO5) (D1.frame _ _ _ t15 fun c hc o e => up c o (fun z' => Z.zf1 (z' ▸ hc)) e) (D2.frame _ _ _ t25 fun c hc o e => up c o (fun z' => Z.zf2 (z' ▸ hc)) e) hT8 hn8
    fun c o hc e => up c o (fun z' => hc (by simp [z'])) (k5 c o hc e)
theorem zipD_end {Q : Fin → Shared → Prop} (D1 : Draws prog w A i1 f1 n1 P1 T1) (D2 : Draws prog w A i2 f2 n2 P2 T2) (Z : ZApart z TI TO i1 i2 f1 f2) (hz : IsZip s.heap z TI TO .none) (hTI : IsPair s.heap TI (.ref i1) (.ref i2)) (hTO : IsPair s.heap TO a b)
    (h1 : T1 k s.heap) (h2 : T2 k s.heap) (hk : k = n1 ∨ (k < n1 ∧ k = n2))
    (hE : ∀ g tk e, (∀ c o, c ∉ [z, TO, i1, i2] → s.heap.get? c = some o → g.get? c = some o) → (∃ o, g.get? e = some o ∧ o.cls = .type "StopIteration") → E (.ref e) { s with heap := g, toks := tk }) :
    wpAny (model prog w) A (Builtin.«zip.__next__» ⟨[.ref z], []⟩) Q E s := by
  show wpAny _ _ (field (.ref z) 2 >>= _) _ _ _; refine wpAny_bind (wpAny_field hz rfl (x := .bool false) rfl ?_)
  show wpAny _ _ (field (.ref z) 3 >>= _) _ _ _; refine wpAny_bind (wpAny_field hz rfl (x := .ref TI) rfl ?_)
  refine wpAny_bind (wpAny_seqItems hTI rfl ?_); show wpAny _ _ (Builtin.SmallTypes.ownedTupleIsFree (.ref z) >>= _) _ _ _
  refine wpAny_bind ?_; unfold Builtin.SmallTypes.ownedTupleIsFree
  refine wpAny_bind (wpAny_field hz rfl (x := .none) rfl (wpAny_pure ?_)); simp only [if_true]
  refine wpAny_bind (wpAny_rule ?_); refine wpAny_bind (wpAny_field hz rfl (x := .ref TO) rfl ?_)
  refine wpAny_bind (wpAny_setField_rec hz (by simp) fun g1 hz1 s1 => ?_)
  replace hz1 : IsZip g1 z TI TO .ellipsis := hz1
  refine wpAny_bind ?_; simp only [List.zipIdx_cons, List.zipIdx_nil, List.forIn_cons, List.forIn_nil]
  refine wpAny_bind (wpAny_bind (wpAny_onRaise ?_)); show wpAny _ _ (Builtin.SmallTypes.nextOf (.ref i1) >>= _) _ _ _
  have t1' : T1 k g1 := D1.frame k _ _ h1 fun c hc o e => s1.extBut _ _ (fun z' => Z.zf1 (z' ▸ hc)) e
  rcases hk with rfl | ⟨k1, rfl⟩
  · refine wpAny_bind (D1.done _ _ _ t1' fun g2 e s2 he => ?_)
    obtain ⟨oe, he1, he2⟩ := he
    have hz2 : IsZip g2 z TI TO .ellipsis := s2 _ _ Z.z1 hz1
    have hez : e ≠ z := fun x => by subst x; rw [hz2] at he1; cases he1; simp at he2
    refine wpAny_setField_rec hz2 (by simp) fun g3 _ s3 => hE g3 _ e (fun c o hc x => ?_) ⟨oe, s3.extBut _ _ hez he1, he2⟩
    simp only [List.mem_cons, List.not_mem_nil, or_false, not_or] at hc
    exact s3.extBut _ _ hc.1 (s2 _ _ hc.2.2.1 (s1.extBut _ _ hc.1 x))
  · refine wpAny_bind (D1.item k _ _ _ k1 t1' fun x g2 tk2 p1 t1 s2 => wpAny_pure ?_)
    replace s2 : Heap.SameBut i1 g1 g2 := s2
    have hTO2 : IsPair g2 TO a b := s2.extBut _ _ Z.to1 (s1.extBut _ _ Z.toz hTO)
    refine wpAny_bind (wpAny_seqItems hTO2 rfl ?_); refine wpAny_bind (wpAny_updateSeq_pair hTO2 fun g3 hTO3 s3 => ?_)
    replace s3 : Heap.SameBut TO g2 g3 := s3
    refine wpAny_bind (wpAny_letGo (wpAny_pure ?_)); refine wpAny_bind (wpAny_bind (wpAny_onRaise ?_))
    show wpAny _ _ (Builtin.SmallTypes.nextOf (.ref i2) >>= _) _ _ _
    have t2' : T2 k g3 := D2.frame k _ _ h2 fun c hc o e => s3.extBut _ _ (fun z' => Z.tf2 (z' ▸ hc)) (s2.extBut _ _ (fun z' => Z.if2 (z' ▸ hc)) (s1.extBut _ _ (fun z' => Z.zf2 (z' ▸ hc)) e))
    refine wpAny_bind (D2.done _ _ _ t2' fun g4 e s4 he => ?_)
    obtain ⟨oe, he1, he2⟩ := he
    have hz4 : IsZip g4 z TI TO .ellipsis := s4 _ _ Z.z2 (s3.extBut _ _ Z.toz.symm (s2.extBut _ _ Z.z1 hz1))
    have hez : e ≠ z := fun x => by subst x; rw [hz4] at he1; cases he1; simp at he2
    refine wpAny_setField_rec hz4 (by simp) fun g5 _ s5 => hE g5 _ e (fun c o hc x => ?_) ⟨oe, s5.extBut _ _ hez he1, he2⟩
    simp only [List.mem_cons, List.not_mem_nil, or_false, not_or] at hc
    exact s5.extBut _ _ hc.1 (s4 _ _ hc.2.2.2 (s3.extBut _ _ hc.2.1 (s2.extBut _ _ hc.2.2.1 (s1.extBut _ _ hc.1 x))))
end
def ItAt : Bool → Heap → Addr → Addr → Nat → Prop
  | true, h, it, l, i => h.IsListIter it l i
  | false, h, it, l, i => h.IsTupleIter it l i
def SrcAt : Bool → Heap → Addr → Array Value → Prop
  | true, h, l, its => h.IsList l its
  | false, h, l, its => h.IsTuple l its
def SrcH (K : PySem.W.Frag) (b : Bool) (H : Hp) (l : Addr) (xs : List V) : Prop := vw K H l = some (if b = true then .lst xs else .tup xs)
theorem draws_src {prog : Program} {w : World} {A : Around} (hh : A.handled = none) (b : Bool) (it l : Addr) (hne : l ≠ it) (its : Array Value) :
    Draws prog w A it [it, l] its.size (fun i v => its[i]? = some v) (fun i h => ItAt b h it l i ∧ SrcAt b h l its) := by
  cases b with
  | true => exact Draws.list hh it l hne its
  | false => exact draws_tup hh it l hne its
theorem ItAt.at {b : Bool} {h h' : Heap} {it l : Addr} {i : Nat} (x : ItAt b h it l i) (e : ∀ o, h.get? it = some o → h'.get? it = some o) : ItAt b h' it l i := by
  cases b with
  | true => obtain ⟨o, ho, r⟩ := x; exact ⟨o, e o ho, r⟩
  | false => obtain ⟨o, ho, r⟩ := x; exact ⟨o, e o ho, r⟩
theorem ItAt.obj {b : Bool} {h : Heap} {it l : Addr} {i : Nat} (x : ItAt b h it l i) : ∃ o, h.get? it = some o ∧ ∀ v, o.data ≠ .cell v := by
  cases b with
  | true => obtain ⟨o, ho, _, d⟩ := x; exact ⟨o, ho, fun v z => by rw [d] at z; cases z⟩
  | false => obtain ⟨o, ho, _, d⟩ := x; exact ⟨o, ho, fun v z => by rw [d] at z; cases z⟩
theorem SrcAt.obj {b : Bool} {h : Heap} {l : Addr} {its : Array Value} (x : SrcAt b h l its) : ∃ o, h.get? l = some o := by
  cases b with
  | true => obtain ⟨o, ho, _⟩ := x; exact ⟨o, ho⟩
  | false => obtain ⟨o, ho, _⟩ := x; exact ⟨o, ho⟩
theorem Inv.src {X : Cx} {pins : List (Addr × Obj)} {σ : St} {H : Hp} {s : Shared} (I : Inv X pins σ H s) {b : Bool} {l : Addr} {xs : List V} (h : SrcH X.K b H l xs) : ∃ its : List Value, Vals xs its ∧ SrcAt b s.heap l its.toArray ∧ xs.length ≤ sizeLine := by
  cases b with
  | true =>
    obtain ⟨its, rv, p, hz⟩ := I.list (SqL.of (K := X.K) (vw_lst h))
    exact ⟨its, rv, p.isList, hz⟩
  | false =>
    obtain ⟨its, rv, p, hz⟩ := I.tuple (vw_tup h)
    exact ⟨its, rv, p, hz⟩
theorem SrcH.inj {K : PySem.W.Frag} {b : Bool} {H : Hp} {l : Addr} {xs ys : List V} (h : SrcH K b H l xs) (g : SrcH K b H l ys) : xs = ys := by
  unfold SrcH at h g
  rw [h] at g
  cases b <;> cases g <;> rfl
def zipR (K : PySem.W.Frag) (b1 b2 : Bool) (l1 l2 : Addr) : Hp → List (List V) → Prop := fun H ys => ∃ xs zs, SrcH K b1 H l1 xs ∧ SrcH K b2 H l2 zs ∧ ys = List.zipWith (fun x z => [x, z]) xs zs
end L2

set_option Elab.async false
set_option linter.all false
set_option maxRecDepth 100000
namespace L2
open PySem PySem.Spec PyProof.Rows
section
variable {prog : Program} {w : World} {A : Around} {E : Value → Shared → Prop} {s : Shared} {z TI TO i1 i2 l1 l2 : Addr} {k : Nat} {b1 b2 : Bool} {u1 u2 : Array Value} {a b : Value}
theorem zap {n : Nat} (h1 : @LT.lt Nat _ l1 n) (h2 : @LT.lt Nat _ l2 n) : ZApart (n + 4) (n + 2) (n + 3) n (n + 1) [n, l1] [n + 1, l2] := by
  constructor <;> (try simp only [List.mem_cons, List.not_mem_nil, or_false, not_or]) <;> (try constructor) <;> (intro e; have e' : (_ : Nat) = _ := e; walk_at "o")
theorem nextZ_item {Q : Option Value → Shared → Prop} (hh : A.handled = none) (Z : ZApart z TI TO i1 i2 [i1, l1] [i2, l2]) (n1 : l1 ≠ i1) (n2 : l2 ≠ i2) (hz : IsZip s.heap z TI TO .none) (hTI : IsPair s.heap TI (.ref i1) (.ref i2)) (hTO : IsPair s.heap TO a b)
    (h1 : ItAt b1 s.heap i1 l1 k) (h2 : ItAt b2 s.heap i2 l2 k) (p1 : SrcAt b1 s.heap l1 u1) (p2 : SrcAt b2 s.heap l2 u2) (k1 : k < u1.size) (k2 : k < u2.size)
    (hQ : ∀ x y g tk, u1[k]? = some x → u2[k]? = some y → IsZip g z TI TO (rawInt s.heap.objs.size) → IsPair g TO x y → ItAt b1 g i1 l1 (k + 1) → ItAt b2 g i2 l2 (k + 1) → IsPair g s.heap.objs.size x y → g.objs.size = s.heap.objs.size + 1 →
      (∀ c o, c ∉ [z, TO, i1, i2] → s.heap.get? c = some o → g.get? c = some o) → Q (some (.ref s.heap.objs.size)) { s with heap := g, toks := tk }) : wpAny (model prog w) A (pyNext (.ref z)) Q E s := by
  have hT : s.TypeIs (.ref z) "zip" := ⟨_, hz, rfl⟩
  unfold pyNext
  refine wpAny_bind (wpAny_attempt (wpAny_callSpecial?_slot (name := Str.ofString "__next__") hT F.slot_zip_next (wpAny_call_entry F.slot_zip_next hT F.entry_zip_next ?_ (F.args_zip_next_1 _))))
  have D1 : Draws prog w A.in1 i1 [i1, l1] u1.size _ _ := draws_src (A := A.in1) hh b1 i1 l1 n1 u1
  have D2 : Draws prog w A.in1 i2 [i2, l2] u2.size _ _ := draws_src (A := A.in1) hh b2 i2 l2 n2 u2
  exact zipD_item D1 D2 Z hz hTI hTO ⟨h1, p1⟩ ⟨h2, p2⟩ k1 k2 fun x y g tk e1 e2 c1 c2 c3 c4 c5 c6 c7 => wpAny_pure (hQ x y g tk e1 e2 c1 c2 c3.1 c4.1 c5 c6 c7)
theorem nextZ_end {Q : Option Value → Shared → Prop} (hh : A.handled = none) (Z : ZApart z TI TO i1 i2 [i1, l1] [i2, l2]) (n1 : l1 ≠ i1) (n2 : l2 ≠ i2) (hz : IsZip s.heap z TI TO .none) (hTI : IsPair s.heap TI (.ref i1) (.ref i2)) (hTO : IsPair s.heap TO a b)
    (h1 : ItAt b1 s.heap i1 l1 k) (h2 : ItAt b2 s.heap i2 l2 k) (p1 : SrcAt b1 s.heap l1 u1) (p2 : SrcAt b2 s.heap l2 u2) (hk : k = u1.size ∨ (k < u1.size ∧ k = u2.size))
    (hQ : ∀ g tk, (∀ c o, c ∉ [z, TO, i1, i2] → s.heap.get? c = some o → g.get? c = some o) → Q none { s with heap := g, toks := tk }) : wpAny (model prog w) A (pyNext (.ref z)) Q E s := by
  have hT : s.TypeIs (.ref z) "zip" := ⟨_, hz, rfl⟩
  unfold pyNext
  refine wpAny_bind (wpAny_attempt (wpAny_callSpecial?_slot (name := Str.ofString "__next__") hT F.slot_zip_next (wpAny_call_entry F.slot_zip_next hT F.entry_zip_next ?_ (F.args_zip_next_1 _))))
  have D1 : Draws prog w A.in1 i1 [i1, l1] u1.size _ _ := draws_src (A := A.in1) hh b1 i1 l1 n1 u1
  have D2 : Draws prog w A.in1 i2 [i2, l2] u2.size _ _ := draws_src (A := A.in1) hh b2 i2 l2 n2 u2
  refine zipD_end D1 D2 Z hz hTI hTO ⟨h1, p1⟩ ⟨h2, p2⟩ hk fun g tk e hk he => ?_
  obtain ⟨o, ho, hc⟩ := he
  refine wpAny_bind (wpAny_isInstance (T := "StopIteration") (b := true) ⟨o, ho, hc⟩ isSubtype_stop (wpAny_pure (hQ _ _ hk)))
end
theorem Inv.turnL {X : Cx} {pins : List (Addr × Obj)} {σ : St} {H : Hp} {s : Shared} {h' : Heap} {t' : Nat} {ch : List Addr} (I : Inv X pins σ H s) (k : ∀ b o, b ∉ ch → s.heap.get? b = some o → h'.get? b = some o) (hf : ∀ b ∈ ch, FpOk X pins H b) : Inv X pins σ H { s with heap := h', toks := t' } := by
  have nch : ∀ c v, H c = some v → c ∉ ch := fun c v z hc => by
    rw [(hf c hc).1] at z
    cases z
  refine I.step (g' := s.gens) (d' := s.drawn) (ch := ch) (fun b hb => ?_) (fun b o _ _ hc e _ => k b o hc e) (fun b o _ _ hc e _ => ⟨o.slots, k b o hc e⟩) (fun b o _ e n => n)
    (fun b o hc e => ⟨o, k b o hc e⟩) (fun b ys e => e) (fun b o u e => e) (fun b ps e => ⟨#[], by rw [e]; simp⟩) (fun m hm => ?_) (fun b u e => ?_) I.bare
  · obtain ⟨_, f1, _, f3, f4, f5⟩ := hf b hb
    exact ⟨f3, f1, f4, f5⟩
  · obtain ⟨o, es, ep, ho, r⟩ := hm
    exact ⟨o, es, ep, k _ o (fun z => (hf _ z).2.1 rfl) ho, r⟩
  · refine (I.hok b u e).stay (fun c v hc q => k c v ?_ q) (fun c q => q) fun c ys q => q
    rcases hc with z | z
    · rw [z]
      exact nch b u e
    · exact nch c _ z
theorem turn_zip {P : Program} {w : World} {K : PySem.W.Frag} {elts : List Expr} {x1 : Nat} {pos : Pos} {b1 b2 : Bool} (z TI TO i1 i2 l1 l2 : Addr) (Z : ZApart z TI TO i1 i2 [i1, l1] [i2, l2]) (n1 : l1 ≠ i1) (n2 : l2 ≠ i2) :
    Turn P w K (.Tuple elts x1 pos) (ItP K (zipR K b1 b2 l1 l2)) [z, TO, i1, i2, TI] z (fun i h => IsZip h z TI TO .none ∧ IsPair h TI (.ref i1) (.ref i2) ∧ (∃ a b, IsPair h TO a b) ∧ ItAt b1 h i1 l1 i ∧ ItAt b2 h i2 l2 i) where
  mem := by simp
  obj := fun i h st b hb => by
    obtain ⟨h1, h2, ⟨a, c, h3⟩, h4, h5⟩ := st
    simp only [List.mem_cons, List.not_mem_nil, or_false] at hb
    rcases hb with rfl | rfl | rfl | rfl | rfl
    · exact ⟨_, h1, fun v e => by cases e⟩
    · exact ⟨_, h3, fun v e => by cases e⟩
    · exact h4.obj
    · exact h5.obj
    · exact ⟨_, h2, fun v e => by cases e⟩
  keep := fun i h h' st k => by
    obtain ⟨h1, h2, ⟨a, c, h3⟩, h4, h5⟩ := st
    exact ⟨k z (by simp) _ h1, k TI (by simp) _ h2, ⟨a, c, k TO (by simp) _ h3⟩, h4.at fun o e => k i1 (by simp) o e, h5.at fun o e => k i2 (by simp) o e⟩
  item := by
    intro X hP hw hK hc i pins s σ H E I hf st hg
    subst hP hw hK
    obtain ⟨h1, h2, ⟨a, c, h3⟩, h4, h5⟩ := st
    obtain ⟨ys, t, ⟨xs, zs, q1, q2, rfl⟩, ht⟩ := hg
    have hlt : i < xs.length ∧ i < zs.length := by
      have := (List.getElem?_eq_some_iff.mp ht).1
      simp at this
      walk_at "o"
    obtain ⟨u1, r1, p1, z1⟩ := I.src q1
    obtain ⟨u2, r2, p2, z2⟩ := I.src q2
    have e1 := r1.length
    have e2 := r2.length
    have tx : t = [xs[i]'hlt.1, zs[i]'hlt.2] := by
      rw [List.getElem?_zipWith, List.getElem?_eq_getElem hlt.1, List.getElem?_eq_getElem hlt.2] at ht
      exact (Option.some.inj ht).symm
    refine nextZ_item (I.ok.hd hc) Z n1 n2 h1 h2 h3 h4 h5 p1 p2 (by simp; walk_at "o") (by simp; walk_at "o") fun x y g tk ex ey c1 c2 c3 c4 c5 c6 c7 => ⟨_, rfl, ?_⟩
    refine wpAny_letOwnedTupleGo_zip (s := { s with heap := g, toks := tk }) c1 fun g2 d1 d2 => ?_
    replace d2 : Heap.SameBut z g g2 := d2
    have zs' : z < s.heap.objs.size := Heap.lt_size h1
    have rx : RelV (xs[i]'hlt.1) x := by
      obtain ⟨u, hu, ru⟩ := r1.get (List.getElem?_eq_getElem hlt.1)
      rw [List.getElem?_toArray, hu] at ex
      cases ex
      exact ru
    have ry : RelV (zs[i]'hlt.2) y := by
      obtain ⟨u, hu, ru⟩ := r2.get (List.getElem?_eq_getElem hlt.2)
      rw [List.getElem?_toArray, hu] at ey
      cases ey
      exact ru
    have hf4 : ∀ b ∈ [z, TO, i1, i2], FpOk X pins H b := fun b hb => hf b (by simp only [List.mem_cons, List.not_mem_nil, or_false] at hb ⊢; rcases hb with e | e | e | e <;> simp [e])
    have I4 : Inv X pins σ (upd H s.heap.objs.size (.tup t)) { s with heap := g2, toks := tk } := by
      rw [tx]
      exact I.turnT (its := [x, y]) (fun b o hb e => d2.extBut _ _ (fun e' => hb (by simp [e'])) (c7 b o hb e)) hf4 (Nat.le_refl _) (show 2 ≤ sizeLine by decide) (.cons rx (.cons ry .nil)) ⟨_, d2.extBut _ _ (Nat.ne_of_gt zs') c5, rfl, _, rfl⟩
    have fr := I.hok.fresh (Nat.le_refl s.heap.objs.size)
    have nk := I.newK (Nat.le_refl s.heap.objs.size)
    have hTI2 : IsPair g2 TI (.ref i1) (.ref i2) := d2.extBut _ _ Z.tiz (c7 TI _ (by simp [Z.tiz, Z.tito, Z.ti1, Z.ti2]) h2)
    refine ⟨.ref s.heap.objs.size, _, I4, rfl, ⟨_, _, rfl, by rw [vw_new nk]; exact fr, vw_same (Same.upd fr), by rw [vw_new nk]; exact upd_same, ?_⟩, ⟨d1, hTI2, ⟨_, _, d2.extBut _ _ Z.toz c2⟩, c3.at fun o e => d2.extBut _ _ Z.z1.symm e, c4.at fun o e => d2.extBut _ _ Z.z2.symm e⟩, fun b hb => ?_⟩
    · rintro ys ⟨xs', zs', q1', q2', rfl⟩
      cases q1.inj q1'
      cases q2.inj q2'
      exact ht
    · have : b < s.heap.objs.size := by
        simp only [List.mem_cons, List.not_mem_nil, or_false] at hb
        rcases hb with rfl | rfl | rfl | rfl | rfl
        · exact zs'
        · exact Heap.lt_size h3
        · obtain ⟨_, e, _⟩ := h4.obj; exact Heap.lt_size e
        · obtain ⟨_, e, _⟩ := h5.obj; exact Heap.lt_size e
        · exact Heap.lt_size h2
      rw [upd_ne (Nat.ne_of_lt this)]
      exact (hf b hb).1
  done := by
    intro X hP hw hK hc i pins s σ H E I hf st hg
    subst hP hw hK
    obtain ⟨h1, h2, ⟨a, c, h3⟩, h4, h5⟩ := st
    obtain ⟨ys, ⟨xs, zs, q1, q2, rfl⟩, hl⟩ := hg
    obtain ⟨u1, r1, p1, z1⟩ := I.src q1
    obtain ⟨u2, r2, p2, z2⟩ := I.src q2
    have e1 := r1.length
    have e2 := r2.length
    have hk : i = u1.toArray.size ∨ (i < u1.toArray.size ∧ i = u2.toArray.size) := by
      rw [List.length_zipWith] at hl
      simp only [List.size_toArray]
      walk_at "o"
    have hf4 : ∀ b ∈ [z, TO, i1, i2], FpOk X pins H b := fun b hb => hf b (by simp only [List.mem_cons, List.not_mem_nil, or_false] at hb ⊢; rcases hb with e | e | e | e <;> simp [e])
    exact nextZ_end (I.ok.hd hc) Z n1 n2 h1 h2 h3 h4 h5 p1 p2 hk fun g tk k => ⟨rfl, I.turnL k hf4⟩
  self := fun _ _ _ _ _ st h => wpAny_pyIter_zip st.1 h
end L2

set_option Elab.async false
set_option linter.all false
set_option maxRecDepth 100000
namespace L2
open PySem PySem.Spec PyProof.Rows
def itO (b : Bool) (l : Addr) : Obj := match b with
  | true => { cls := .type "list_iterator", data := .fields #[.ref l, .int 0 0] }
  | false => { cls := .type "tuple_iterator", data := .fields #[.ref l, .int 0 0] }
section
variable {prog : Program} {w : World} {A : Around} {E : Value → Shared → Prop} {s : Shared}
theorem iterSrc {b : Bool} {l : Addr} {u : Array Value} {Q : Value → Shared → Prop} (h : SrcAt b s.heap l u) (q : Q (.ref s.heap.objs.size) { s with heap := s.heap.push (itO b l) }) : wpAny (model prog w) A (pyIter (.ref l)) Q E s := by
  cases b with
  | true => exact wpAny_pyIter_list h q
  | false => exact wpAny_pyIter_tuple h q
end
theorem SrcAt.push {b : Bool} {h : Heap} {l : Addr} {u : Array Value} (x : SrcAt b h l u) (o : Obj) : SrcAt b (h.push o) l u := by
  cases b with
  | true => obtain ⟨v, e, r⟩ := x; exact ⟨v, Heap.get?_push_of_some _ e, r⟩
  | false => obtain ⟨v, e, r⟩ := x; exact ⟨v, Heap.get?_push_of_some _ e, r⟩
theorem ItAt.new {b : Bool} {h : Heap} {it l : Addr} (e : h.get? it = some (itO b l)) : ItAt b h it l 0 := by
  cases b with
  | true => exact ⟨_, e, rfl, rfl⟩
  | false => exact ⟨_, e, rfl, rfl⟩
abbrev zh1 (h : Heap) (b1 : Bool) (l1 : Addr) : Heap := h.push (itO b1 l1)
abbrev zh2 (h : Heap) (b1 b2 : Bool) (l1 l2 : Addr) : Heap := (zh1 h b1 l1).push (itO b2 l2)
abbrev zh3 (h : Heap) (b1 b2 : Bool) (l1 l2 : Addr) : Heap := (zh2 h b1 b2 l1 l2).push { cls := .type "tuple", data := .seq #[.ref h.objs.size, .ref (zh1 h b1 l1).objs.size] }
abbrev zh4 (h : Heap) (b1 b2 : Bool) (l1 l2 : Addr) : Heap := (zh3 h b1 b2 l1 l2).push { cls := .type "tuple", data := .seq #[.none, .none] }
abbrev zh5 (h : Heap) (b1 b2 : Bool) (l1 l2 : Addr) : Heap := (zh4 h b1 b2 l1 l2).push { cls := .type "zip", data := .fields #[.none, .bool false, .bool false, .ref (zh2 h b1 b2 l1 l2).objs.size, .ref (zh3 h b1 b2 l1 l2).objs.size] }
theorem meets_zipS (b1 b2 : Bool) (l1 l2 : Addr) (u1 u2 : Array Value) :
    Meets (Builtin.«zip.__new__» ⟨[.type "zip", .ref l1, .ref l2], []⟩) (fun _ R s => SrcAt b1 s.heap l1 u1 ∧ SrcAt b2 s.heap l2 u2 ∧ R (.ok (.ret (.ref (zh4 s.heap b1 b2 l1 l2).objs.size))) { s with heap := zh5 s.heap b1 b2 l1 l2 }) :=
  .of_wp fun prog w A R s h => by
    obtain ⟨hp, g, d, tk, os⟩ := s; obtain ⟨q1, q2, h⟩ := h
    have hsub := sub_zip
    have y1 : SrcAt b1 (Shared.heap ⟨hp, g, d, tk, os⟩) l1 u1 := q1
    have y2 : SrcAt b2 (Shared.heap ⟨hp.push (itO b1 l1), g, d, tk, os⟩) l2 u2 := SrcAt.push q2 _
    wp_walk using iterSrc y1, iterSrc y2
    exact ⟨_, rfl, h⟩
section
variable {prog : Program} {w : World} {A : Around} {E : Value → Shared → Prop} {s : Shared}
theorem callZ {b1 b2 : Bool} {l1 l2 : Addr} {u1 u2 : Array Value} {Q : Value → Shared → Prop} (q1 : SrcAt b1 s.heap l1 u1) (q2 : SrcAt b2 s.heap l2 u2)
    (h : ∀ g, IsZip g (s.heap.objs.size + 4) (s.heap.objs.size + 2) (s.heap.objs.size + 3) .none → IsPair g (s.heap.objs.size + 2) (.ref s.heap.objs.size) (.ref (s.heap.objs.size + 1)) → IsPair g (s.heap.objs.size + 3) .none .none →
      ItAt b1 g s.heap.objs.size l1 0 → ItAt b2 g (s.heap.objs.size + 1) l2 0 → (∀ c o, s.heap.get? c = some o → g.get? c = some o) → Q (.ref (s.heap.objs.size + 4)) { s with heap := g }) :
    wpAny (model prog w) A (call (.type "zip") [.ref l1, .ref l2]) Q E s := by
  refine callType_new F.called_zip (by decide) (F.typeCall_zip_2 _ _) (F.newCall_zip_2 _ _) (fun obj => F.args_object_init_3 obj _ _) F.entry_zip_new (meets_zipS b1 b2 l1 l2 u1 u2) ⟨q1, q2, ?_⟩
  have v1 : (zh1 s.heap b1 l1).objs.size = s.heap.objs.size + 1 := Heap.size_push ..
  have v2 : (zh2 s.heap b1 b2 l1 l2).objs.size = s.heap.objs.size + 2 := by rw [Heap.size_push, v1]
  have v3 : (zh3 s.heap b1 b2 l1 l2).objs.size = s.heap.objs.size + 3 := by rw [Heap.size_push, v2]
  have v4 : (zh4 s.heap b1 b2 l1 l2).objs.size = s.heap.objs.size + 4 := by rw [Heap.size_push, v3]
  have g5 : (zh5 s.heap b1 b2 l1 l2).get? (zh4 s.heap b1 b2 l1 l2).objs.size = some _ := Heap.get?_push_size _ rfl
  have g4 : (zh5 s.heap b1 b2 l1 l2).get? (zh3 s.heap b1 b2 l1 l2).objs.size = some _ := Heap.get?_push_of_some _ (Heap.get?_push_size _ rfl)
  have g3 : (zh5 s.heap b1 b2 l1 l2).get? (zh2 s.heap b1 b2 l1 l2).objs.size = some _ := Heap.get?_push_of_some _ (Heap.get?_push_of_some _ (Heap.get?_push_size _ rfl))
  have nf : ∀ b l, (itO b l).isFreed = false := fun b l => by cases b <;> rfl
  have g2 : (zh5 s.heap b1 b2 l1 l2).get? (zh1 s.heap b1 l1).objs.size = some (itO b2 l2) := Heap.get?_push_of_some _ (Heap.get?_push_of_some _ (Heap.get?_push_of_some _ (Heap.get?_push_size _ (nf _ _))))
  have g1 : (zh5 s.heap b1 b2 l1 l2).get? s.heap.objs.size = some (itO b1 l1) := Heap.get?_push_of_some _ (Heap.get?_push_of_some _ (Heap.get?_push_of_some _ (Heap.get?_push_of_some _ (Heap.get?_push_size _ (nf _ _)))))
  show _ ∧ _
  rw [v2, v3, v4] at g5
  rw [v1, v2] at g3
  rw [v3] at g4
  rw [v1] at g2
  rw [v4]
  exact ⟨⟨_, g5, rfl⟩, h _ g5 g3 g4 (.new g1) (.new g2) fun c o x => Heap.get?_push_of_some _ (Heap.get?_push_of_some _ (Heap.get?_push_of_some _ (Heap.get?_push_of_some _ (Heap.get?_push_of_some _ x))))⟩
end
def iZip (K : PySem.W.Frag) (ta : TA) : TI := fun σ H R => ta σ H fun vs H1 => ∃ a b, vs = [.ref a, .ref b] ∧ ∃ c d, (∃ xs, SrcH K c H1 a xs) ∧ (∃ ys, SrcH K d H1 b ys) ∧ R (ItP K (zipR K c d a b)) H1
theorem pi_zip {X : Cx} {elts : List Expr} {x1 : Nat} {tp p pos : Pos} {a b : Expr} {ta : TA} (hg : Gl X "zip") (hm : X.mg "zip" = none) (ha : PA X [a, b] ta) (hs : starEach [a, b] X.env = [(false, eval a X.env), (false, eval b X.env)] := by rfl) (hs2 : starEach [b] X.env = [(false, eval b X.env)] := by rfl) :
    PI X (.Tuple elts x1 tp) (.Call (.Name "zip" p) [a, b] [] pos) (iZip X.K ta) := by
  intro pins s σ H R I h
  refine Call_ (ld_blt I hg hm bt_zip (PyProof.Rows.callWith_type1 (thn (ha pos pins s σ H _ I h) fun us s1 ⟨vs, H1, I1, r1, q1⟩ => ?_) (by rw [hs, hs2]) (by rw [hs2]; rfl)))
  obtain ⟨l1, l2, e, c, d, ⟨xs, hx⟩, ⟨ys, hy⟩, q⟩ := q1
  subst e
  cases r1 with
  | cons r rr =>
    cases rr with
    | cons r' rr =>
      cases rr
      cases r
      cases r'
      obtain ⟨u1, t1, p1, _⟩ := I1.src hx
      obtain ⟨u2, t2, p2, _⟩ := I1.src hy
      refine callZ p1 p2 fun g c1 c2 c3 c4 c5 k => ?_
      refine wpAny_pyIter_zip (s := { s1 with heap := g }) c1 ?_
      have m1 : l1 < s1.heap.objs.size := by obtain ⟨_, e⟩ := p1.obj; exact Heap.lt_size e
      have m2 : l2 < s1.heap.objs.size := by obtain ⟨_, e⟩ := p2.obj; exact Heap.lt_size e
      refine ⟨_, _, _, _, H1, rfl, I1.kept (t' := s1.toks) k, turn_zip _ _ _ _ _ l1 l2 (zap m1 m2) (Nat.ne_of_lt m1) (Nat.ne_of_lt (Nat.lt_succ_of_lt m2)), ⟨c1, c2, ⟨_, _, c3⟩, c4, c5⟩, fun f hf => ?_, q⟩
      have hf' : s1.heap.objs.size ≤ f := by
        simp only [List.mem_cons, List.not_mem_nil, or_false] at hf
        rcases hf with z | z | z | z | z <;> rw [z]
        · exact Nat.le_add_right _ 4
        · exact Nat.le_add_right _ 3
        · exact Nat.le_refl _
        · exact Nat.le_add_right _ 1
        · exact Nat.le_add_right _ 2
      exact I1.fpOk hf' (I1.hok.fresh hf')
theorem qi_zip {X : Cx} {elts : List Expr} {x1 : Nat} {tp p pos : Pos} {a b : Expr} {ta : TA} (hg : Gl X "zip") (hm : X.mg "zip" = none) (ha : QA X [a, b] ta) (hs : starEach [a, b] X.env = [(false, eval a X.env), (false, eval b X.env)] := by rfl) (hs2 : starEach [b] X.env = [(false, eval b X.env)] := by rfl) :
    QI X (.Tuple elts x1 tp) (.Call (.Name "zip" p) [a, b] [] pos) (iZip X.K ta) := ⟨pi_zip hg hm ha.h hs hs2⟩
end L2

set_option Elab.async false
set_option linter.all false
set_option maxRecDepth 100000
namespace L2
open PySem PySem.Spec PyProof.Rows
section
variable {X : Cx} {pins : List (Addr × Obj)} {σ : St} {H : Hp} {s : Shared}
theorem Inv.kitx (I : Inv X pins σ H s) {x : V} {u : Value} {n : String} (rx : RelV x u) (hn : tyN (vw X.K H) x = some n) :
    ∃ G : Heap → Prop, PySem.W.KitX X.K u (.type n) G ∧ G s.heap ∧ u ≠ .builtin "__main__.__loader__#opaque" ∧ TyName n := by
  cases x with
  | non => cases hn; cases (show u = Value.none from rx); exact ⟨_, PySem.W.kitx_none, True.intro, (fun z => nomatch z), .inl rfl⟩
  | bl b => cases hn; cases (show u = Value.bool b from rx); exact ⟨_, PySem.W.kitx_bool, True.intro, (fun z => nomatch z), .inr (.inl rfl)⟩
  | int b => cases hn; obtain ⟨t, q⟩ := (show ∃ t, u = Value.int b t from rx); cases q; exact ⟨_, PySem.W.kitx_int, True.intro, (fun z => nomatch z), .inr (.inr (.inl rfl))⟩
  | str b => cases hn; obtain ⟨t, q⟩ := (show ∃ t, u = Value.str b t from rx); cases q; exact ⟨_, PySem.W.kitx_str, True.intro, (fun z => nomatch z), .inr (.inr (.inr (.inl rfl)))⟩
  | flt b => cases hn
  | byt b => cases hn
  | ty b => cases hn
  | ref a =>
    cases (show u = Value.ref a from rx)
    unfold tyN at hn
    dsimp only at hn
    split at hn
    · rename_i xs e
      cases hn
      obtain ⟨_, _, k, _, h1⟩ := (show ObjOk X.prog X.w H s.heap a (.lst xs) from I.hok a _ (vw_lst e))
      exact ⟨_, PySem.W.kitx_list, ⟨_, h1, rfl⟩, (fun z => nomatch z), .inr (.inr (.inr (.inr (.inl rfl))))⟩
    · rename_i o xs e
      cases hn
      obtain ⟨h0, h1⟩ := (show ObjOk X.prog X.w H s.heap a (.frz o (.lst xs)) from I.hok a _ (vw_get e fun _ z => by cases z))
      obtain ⟨_, _, k, _, h1⟩ := h1
      exact ⟨_, PySem.W.kitx_list, ⟨_, h1, rfl⟩, (fun z => nomatch z), .inr (.inr (.inr (.inr (.inl rfl))))⟩
    · rename_i ys e
      cases hn
      obtain ⟨its, rv, ⟨o, h1, h2, _⟩, hz⟩ := I.tuple (vw_tup e)
      exact ⟨_, PySem.W.kitx_tuple, ⟨o, h1, h2⟩, (fun z => nomatch z), .inr (.inr (.inr (.inr (.inr (.inl rfl)))))⟩
    · rename_i kvs e
      cases hn
      obtain ⟨_, _, vs, _, d⟩ := (show ObjOk X.prog X.w H s.heap a (.dK kvs) from I.hok a _ (vw_get e fun _ z => by cases z))
      obtain ⟨o, es, ep, h1, h2, _⟩ := d
      exact ⟨_, PySem.W.kitx_dict, ⟨o, h1, h2.1⟩, (fun z => nomatch z), .inr (.inr (.inr (.inr (.inr (.inr rfl)))))⟩
    · cases hn
theorem kit_tl {K : PySem.W.Frag} {n : String} (hn : TyName n) : PySem.W.kitAny K (.type n) [.type "tuple", .type "list"] = some (instN n "tuple" || instN n "list") := by
  rcases hn with rfl | rfl | rfl | rfl | rfl | rfl | rfl <;> rfl
theorem call_isinstTL : CallR X (.builtin "isinstance") (fun xs H Q => ∃ x n p, xs = [x, .ref p] ∧ vw X.K H p = some (.tup [.ty "tuple", .ty "list"]) ∧ tyN (vw X.K H) x = some n ∧ Q (.bl (instN n "tuple" || instN n "list")) H) := by
  intro pins s σ H xs us Q I r h
  obtain ⟨x, n, p, rfl, hp, hn, q⟩ := h
  obtain ⟨u, w', rfl, rx, ry⟩ := vals2 r
  cases ry
  obtain ⟨G, Z, g, hu, tn⟩ := I.kitx rx hn
  obtain ⟨its, rv, ⟨o, h1, h2, k, h3⟩, hz⟩ := I.tuple (vw_tup hp)
  obtain ⟨oc, od, odt, osl⟩ := o
  dsimp only at h2 h3
  subst h2 h3
  cases rv with
  | cons r1 rv =>
    cases rv with
    | cons r2 rv =>
      cases rv
      cases r1
      cases r2
      exact PySem.W.kia_tup Z I.kIn g h1 (kit_tl tn) hu fun tk => ⟨.bl _, H, I.tok tk, rfl, q⟩
theorem vals_bl : ∀ {bs : List Bool} {us : List Value}, Vals (bs.map V.bl) us → us = bs.map Value.bool
  | [], us, h => by cases h; rfl
  | b :: bs, us, h => by
    cases h with
    | cons r rr =>
      cases r
      rw [vals_bl rr]
      rfl
theorem all_range {bs : List Bool} : (List.range bs.length).all (fun i => bs.getD i true) = bs.all id := by
  induction bs with
  | nil => rfl
  | cons b bs ih =>
    rw [List.length_cons, List.range_succ_eq_map, List.all_cons, List.all_cons, List.all_map]
    have e : ((fun i => (b :: bs).getD i true) ∘ Nat.succ) = fun i => bs.getD i true := by
      funext i
      simp
    rw [e, ih]
    rfl
theorem call_allB (hh : X.calm = true) : CallR X (.builtin "all") (fun xs H Q => ∃ p, xs = [.ref p] ∧ ∃ bs : List Bool, vw X.K H p = some (.lst (bs.map V.bl)) ∧ Q (.bl (bs.all id)) H) := by
  intro pins s σ H xs us Q I r h
  obtain ⟨p, rfl, bs, hp, q⟩ := h
  cases r with
  | cons r1 rr =>
    cases rr
    cases r1
    obtain ⟨its, rv, pl, hz⟩ := I.list (SqL.of (K := X.K) (vw_lst hp))
    have e := vals_bl rv
    subst e
    have hlt : p < s.heap.objs.size := by obtain ⟨o, n, e1, _⟩ := pl; exact Heap.lt_size e1
    refine call_all_walk (wpAny_pyIter_list pl.isList ⟨s.heap.objs.size, _, _, _, _, _, fun i => bs.getD i true, rfl, Walks.list (show X.A.in1.handled = none from I.ok.hd hh) _ p (Nat.ne_of_lt hlt) _, ⟨⟨_, Heap.get?_push_size _ rfl, rfl, rfl⟩, pl.isList.push _⟩, ?_, fun h' tk hk => ?_⟩)
    · intro i v s' Q' E' hv hq
      have hv' : (bs.map Value.bool)[i]? = some v := by simpa using hv
      rw [List.getElem?_map] at hv'
      cases hb : bs[i]? with
      | none => rw [hb] at hv'; cases hv'
      | some b =>
        rw [hb] at hv'
        cases hv'
        replace hq : Q' (bs.getD i true) s' := hq
        rw [List.getD_eq_getElem?_getD, hb] at hq
        exact wpAny_truthy_bool hq
    · rw [List.size_toArray, List.length_map, all_range]
      refine ⟨.bl _, H, I.kept fun b o e => hk b o (fun z => ?_) (Heap.get?_push_of_some _ e), rfl, q⟩
      rw [List.mem_singleton.mp z] at e
      exact absurd (Heap.lt_size e) (Nat.lt_irrefl _)
end
def CN2 (K : PySem.W.Frag) (a : Addr) (σr : St) (Pv : List V → Hp → Prop) : St → Hp → Prop := fun σ H => (∃ y z, σ = y :: z :: σr) ∧ ∃ xs, vw K H a = some (.lst xs) ∧ Pv xs H
theorem comp_rows {K : PySem.W.Frag} {R : Hp → List (List V) → Prop} {ps : List (V × V)} {tif : TT} {te : TE} {a : Addr} {x0 x1 : Option V} {σr : St} {H0 : Hp} {Q : Hp → Prop} (Pv : Nat → List V → Hp → Prop)
    (hl : ∀ i xs H, i ≤ ps.length → vw K H a = some (.lst xs) → Pv i xs H → R H (ps.map fun p => [p.1, p.2])) (ha : vw K H0 a = some (.lst [])) (h0 : Pv 0 [] H0)
    (hs : ∀ i x y xs H H', i < ps.length → ps[i]? = some (x, y) → vw K H' a = some (.lst xs) → Pv i xs H → Same (vw K H) (vw K H') → tif (some x :: some y :: σr) H' fun b H3 => if b = true then te (some x :: some y :: σr) H3 (CEl K a (CN2 K a σr (Pv (i + 1)) (some x :: some y :: σr))) else CN2 K a σr (Pv (i + 1)) (some x :: some y :: σr) H3)
    (hd : ∀ xs H, vw K H a = some (.lst xs) → Pv ps.length xs H → Q H) : CompOK K (ItP K R) (gTupH K 2 (gCons (gName 0) (gCons (gName 1) gNil))) tif te a (x0 :: x1 :: σr) H0 Q := by
  refine ⟨fun i m σ H => m = ps.length - i ∧ i ≤ ps.length ∧ CN2 K a σr (Pv i) σ H, ⟨ps.length, by simp, Nat.zero_le _, ⟨_, _, rfl⟩, _, ha, h0⟩, ?_⟩
  rintro i m σ H ⟨rfl, hi, ⟨y, z, rfl⟩, xs, hxs, p⟩
  have q := hl i xs H hi hxs p
  by_cases hlt : i < ps.length
  · refine .inr ⟨⟨_, _, q, by rw [List.getElem?_map, List.getElem?_eq_getElem hlt]; rfl⟩, CN2 K a σr (Pv (i + 1)), fun σ' H' p' => ⟨ps.length - (i + 1), by walk_at "o", rfl, hlt, p'⟩, fun x H' y => ?_⟩
    obtain ⟨b, t, rfl, y1, y2, y3, y4⟩ := y
    have e := y4 _ q
    rw [List.getElem?_map, List.getElem?_eq_getElem hlt] at e
    cases e
    exact ⟨b, rfl, _, y3, rfl, _, _, rfl, _, _, rfl, rfl, hs i _ _ xs H H' hlt (List.getElem?_eq_getElem hlt) (y2 _ _ hxs) p y2⟩
  · have e : i = ps.length := by walk_at "o"
    subst e
    exact .inl ⟨⟨_, q, by simp⟩, hd xs H hxs p⟩
theorem CEl.mk2 {K : PySem.W.Frag} {a : Addr} {σr : St} {Pv : List V → Hp → Prop} {x y : Option V} {v : V} {H : Hp} {xs : List V} (h : vw K H a = some (.lst xs)) (hz : xs.length < sizeLine)
    (q : ∀ H5, But a (vw K H) (vw K H5) → vw K H5 a = some (.lst (xs ++ [v])) → Pv (xs ++ [v]) H5) : CEl K a (CN2 K a σr Pv (x :: y :: σr)) v H := ⟨xs, h, hz, fun H5 B h5 => ⟨⟨_, _, rfl⟩, _, h5, q H5 B h5⟩⟩
theorem zip_rows {xs ys : List V} : List.zipWith (fun x z => [x, z]) xs ys = (xs.zip ys).map fun p => [p.1, p.2] := by
  rw [List.zip, List.map_zipWith]
def D.sm : Nat → D → Bool
  | 0, _ => false
  | n + 1, .tup ds => decide (ds.length ≤ 1000) && ds.all (D.sm n)
  | n + 1, .lst ds => decide (ds.length ≤ 1000) && ds.all (D.sm n)
  | _ + 1, .dict => false
  | _ + 1, _ => true
theorem sm_zip {H : Hp} {ds : List D} {xs ys : List V} (r1 : Reps H ds xs) (r2 : Reps H ds ys) {i : Nat} {x y : V} (h : (xs.zip ys)[i]? = some (x, y)) : ∃ d, d ∈ ds ∧ Rep H d x ∧ Rep H d y := by
  rw [List.getElem?_zip_eq_some] at h
  obtain ⟨d, e1, q1⟩ := r1.get h.1
  obtain ⟨d', e2, q2⟩ := r2.get h.2
  rw [e1] at e2
  cases e2
  exact ⟨d, List.mem_of_getElem? e1, q1, q2⟩
end L2

set_option Elab.async false
set_option linter.all false
set_option maxRecDepth 100000
namespace L2
open PySem PySem.Spec PyProof.Rows
def wv (q : Int × Int) : Rat := (q.1 : Rat) / (q.2 : Rat)
theorem cast_ne {b : Int} (h : b ≠ 0) : (b : Rat) ≠ 0 := by simpa using h
theorem wv_lo {a b : Int} (hb : b ≠ 0) : wv (lo a b) = (a : Rat) / (b : Rat) := by
  have e1 := lo_mul_left (a := a) hb
  have e2 := lo_mul_right (a := a) hb
  have hg := cast_ne (lg_ne (a := a) hb)
  have hd : (lo a b).2 ≠ 0 := by have := (lo_Fq (a := a) hb).1; walk_at "o"
  have hd' := cast_ne hd
  have c1 : ((lo a b).1 : Rat) * (lg a b : Rat) = (a : Rat) := by
    have := congrArg (fun i : Int => (i : Rat)) e1
    simpa using this
  have c2 : ((lo a b).2 : Rat) * (lg a b : Rat) = (b : Rat) := by
    have := congrArg (fun i : Int => (i : Rat)) e2
    simpa using this
  unfold wv
  rw [← c1, ← c2]
  grind
theorem dvd_cop {a b c : Int} (h : b ∣ a * c) (hg : Int.gcd a b = 1) : b ∣ c := by
  have h1 : b.natAbs ∣ a.natAbs * c.natAbs := by
    rw [← Int.natAbs_mul]
    exact Int.natAbs_dvd_natAbs.mpr h
  have h2 : Nat.Coprime b.natAbs a.natAbs := by
    unfold Nat.Coprime
    rw [Nat.gcd_comm]
    exact hg
  exact Int.natAbs_dvd_natAbs.mp (Nat.Coprime.dvd_of_dvd_mul_left h2 h1)
theorem wv_inj {p q : Int × Int} (hp : Fq p) (hq : Fq q) (h : wv p = wv q) : p = q := by
  have h1 := cast_ne (show p.2 ≠ 0 by have := hp.1; walk_at "o")
  have h2 := cast_ne (show q.2 ≠ 0 by have := hq.1; walk_at "o")
  have e : p.1 * q.2 = q.1 * p.2 := by
    unfold wv at h
    have : (p.1 : Rat) * (q.2 : Rat) = (q.1 : Rat) * (p.2 : Rat) := by grind
    have h3 : ((p.1 * q.2 : Int) : Rat) = ((q.1 * p.2 : Int) : Rat) := by simpa using this
    exact Rat.intCast_inj.mp h3
  have d1 : p.2 ∣ q.2 := by
    have : p.2 ∣ p.1 * q.2 := ⟨q.1, by rw [e, Int.mul_comm]⟩
    exact dvd_cop this hp.2
  have d2 : q.2 ∣ p.2 := by
    have : q.2 ∣ q.1 * p.2 := ⟨p.1, by rw [← e, Int.mul_comm]⟩
    exact dvd_cop this hq.2
  have e2 : p.2 = q.2 := Int.dvd_antisymm (Int.le_of_lt hp.1) (Int.le_of_lt hq.1) d1 d2
  rw [e2] at e
  have e1 : p.1 = q.1 := Int.eq_of_mul_eq_mul_right (by have := hq.1; walk_at "o") e
  exact Prod.ext e1 e2
theorem wv_add {p q : Int × Int} (hp : p.2 ≠ 0) (hq : q.2 ≠ 0) : wv (addq p q) = wv p + wv q := by
  unfold addq
  rw [wv_lo (Int.mul_ne_zero hp hq)]
  unfold wv
  have h1 := cast_ne hp
  have h2 := cast_ne hq
  simp only [Rat.intCast_add, Rat.intCast_mul]
  grind
def mulq (p q : Int × Int) : Int × Int := lo (p.1 * q.1) (p.2 * q.2)
theorem mulq_Fq {p q : Int × Int} (hp : Fq p) (hq : Fq q) : Fq (mulq p q) := lo_Fq (by have := Int.mul_pos hp.1 hq.1; walk_at "o")
theorem mulq_Bq {p q : Int × Int} {m n : Nat} (hp : Fq p) (hq : Fq q) (h1 : Bq m p) (h2 : Bq n q) : Bq (m + n) (mulq p q) := bt_lo (by have := Int.mul_pos hp.1 hq.1; walk_at "o") (h1.1.mul h2.1) (h1.2.mul h2.2)
section
variable {X : Cx}
theorem ip_mulX : PIp X .Mult (fun x y H Q => ∃ i j, x = .int i ∧ y = .int j ∧ IntMulOk i j ∧ Q (.int (i * j)) H) := by
  intro pins s σ H x y v u Q I r1 r2 h
  obtain ⟨i, j, rfl, rfl, m, q⟩ := h
  obtain ⟨t, rfl⟩ := r1
  obtain ⟨t', rfl⟩ := r2
  exact imul_int ⟨.int _, H, I.tok _, ⟨_, rfl⟩, q⟩ m
theorem qs_never {st : Stmt} : QS X st tNever := ⟨ps_never⟩
end
theorem comp_pairs {K : PySem.W.Frag} {J : It} {its : List V} {ps : List (V × V)} {tif : TT} {te : TE} {a : Addr} {x0 x1 : Option V} {σr : St} {H0 : Hp} {Q : Hp → Prop} (Pv : Nat → List V → Hp → Prop) (hlen : its.length = ps.length)
    (hl : ∀ i xs H, i ≤ its.length → vw K H a = some (.lst xs) → Pv i xs H → Items J H its ∧ ∀ (j : Nat) (x y : V), ps[j]? = some (x, y) → ∃ p : Addr, its[j]? = some (V.ref p) ∧ vw K H p = some (HO.tup [x, y])) (ha : vw K H0 a = some (.lst [])) (h0 : Pv 0 [] H0)
    (hs : ∀ i x y xs H, i < ps.length → ps[i]? = some (x, y) → vw K H a = some (.lst xs) → Pv i xs H → tif (some x :: some y :: σr) H fun b H3 => if b = true then te (some x :: some y :: σr) H3 (CEl K a (CN2 K a σr (Pv (i + 1)) (some x :: some y :: σr))) else CN2 K a σr (Pv (i + 1)) (some x :: some y :: σr) H3)
    (hd : ∀ xs H, vw K H a = some (.lst xs) → Pv ps.length xs H → Q H) : CompOK K J (gTupH K 2 (gCons (gName 0) (gCons (gName 1) gNil))) tif te a (x0 :: x1 :: σr) H0 Q := by
  refine ⟨fun i m σ H => m = ps.length - i ∧ i ≤ ps.length ∧ CN2 K a σr (Pv i) σ H, ⟨ps.length, by simp, Nat.zero_le _, ⟨_, _, rfl⟩, _, ha, h0⟩, ?_⟩
  rintro i m σ H ⟨rfl, hi, ⟨y, z, rfl⟩, xs, hxs, p⟩
  obtain ⟨⟨q1, q2, q3⟩, q4⟩ := hl i xs H (by walk_at "o") hxs p
  by_cases hlt : i < ps.length
  · refine .inr ⟨q1 i (by walk_at "o"), CN2 K a σr (Pv (i + 1)), fun σ' H' p' => ⟨ps.length - (i + 1), by walk_at "o", rfl, hlt, p'⟩, fun x H' y => ?_⟩
    obtain ⟨e, y2⟩ := q2 i x H' (by walk_at "o") y
    subst e
    obtain ⟨b, e1, e2⟩ := q4 i _ _ (List.getElem?_eq_getElem hlt)
    rw [e1] at y2
    cases y2
    exact ⟨b, rfl, _, e2, rfl, _, _, rfl, _, _, rfl, rfl, hs i _ _ xs _ hlt (List.getElem?_eq_getElem hlt) hxs p⟩
  · have e : i = ps.length := by walk_at "o"
    subst e
    exact .inl ⟨hlen ▸ q3, hd xs H hxs p⟩
theorem fdiv_mul {g q : Int} (hg : g ≠ 0) (h : g ∣ q) : q.fdiv g * g = q := by
  obtain ⟨m, rfl⟩ := h
  rw [Int.mul_comm g m, Int.mul_fdiv_cancel m hg]
theorem le_mul1 {a b : Int} (ha : 0 ≤ a) (hb : 1 ≤ b) : a ≤ a * b := by
  have := Int.mul_le_mul_of_nonneg_left hb ha
  walk_at "o"
theorem lcm_step {b q : Int} (hb : 0 < b) (hq : 0 < q) : 0 < q.fdiv (Int.gcd b q : Int) ∧ q.fdiv (Int.gcd b q : Int) ≤ q ∧ q ∣ b * q.fdiv (Int.gcd b q : Int) ∧ (Int.gcd b q : Int) ≠ 0 ∧ (Int.gcd b q : Int) ≤ q := by
  have hg : (Int.gcd b q : Int) ≠ 0 := by
    have : Int.gcd b q ≠ 0 := fun e => by
      have := (Int.gcd_eq_zero_iff.mp e).2
      walk_at "o"
    walk_at "o"
  have hg0 : 0 < (Int.gcd b q : Int) := by walk_at "o"
  have e := fdiv_mul hg (Int.gcd_dvd_right b q)
  have hle : (Int.gcd b q : Int) ≤ q := Int.le_of_dvd hq (Int.gcd_dvd_right b q)
  generalize q.fdiv (Int.gcd b q : Int) = c at e
  obtain ⟨m, hm⟩ := Int.gcd_dvd_left b q
  have hc : 0 < c := by
    refine Int.pos_of_mul_pos_left ?_ hg0
    rw [e]
    exact hq
  refine ⟨hc, ?_, ⟨m, ?_⟩, hg, hle⟩
  · rw [← e]
    exact le_mul1 (by walk_at "o") (by walk_at "o")
  · rw [← e]
    generalize (Int.gcd b q : Int) = g at *
    rw [hm]
    rw [Int.mul_right_comm, Int.mul_comm c g]
theorem Bt.le {n : Nat} {x y : Int} (h : Bt n y) (h0 : 0 ≤ x) (hl : x ≤ y) : Bt n x := by
  unfold Bt at *
  walk_at "o"
theorem clear_at {q : Int × Int} {D : Int} {m n : Nat} (hq : Fq q) (hd : q.2 ∣ D) (hD : 0 < D) (b1 : Bt m D) (b2 : Bt n q.1) : ((q.1 * D.fdiv q.2 : Int) : Rat) = wv q * (D : Rat) ∧ Bt (m + n) (q.1 * D.fdiv q.2) ∧ Bt m (D.fdiv q.2) := by
  have h2 : q.2 ≠ 0 := by have := hq.1; walk_at "o"
  have e := fdiv_mul h2 hd
  have hp : 0 < D.fdiv q.2 := by
    refine Int.pos_of_mul_pos_left ?_ hq.1
    rw [e]
    exact hD
  have hle : D.fdiv q.2 ≤ D := by
    have := le_mul1 (Int.le_of_lt hp) (show 1 ≤ q.2 by have := hq.1; walk_at "o")
    rw [e] at this
    exact this
  have bm := b1.le (Int.le_of_lt hp) hle
  refine ⟨?_, (b2.mul bm).mono (by walk_at "o"), bm⟩
  generalize D.fdiv q.2 = c at *
  have h3 := cast_ne h2
  rw [← e]
  unfold wv
  simp only [Rat.intCast_mul]
  grind
end L2

set_option Elab.async false
set_option linter.all false
set_option maxRecDepth 100000
namespace L2
open PySem PySem.Spec PyProof.Rows
end L2
namespace L2
open PySem PySem.Spec PyProof.Rows
end L2
namespace L2
open PySem PySem.Spec PyProof.Rows
theorem spt_py (c : Spt) : (spt c).py = .tuple [.tuple [.int c.1.1, .int c.1.2], .tuple [.int c.2.1, .int c.2.2]] := by
  unfold spt fr
  simp only [D.py, D.pys]
theorem spts_py : ∀ (cs : List Spt), PyData.canLayAll0 (D.pys (cs.map spt)) = true ∧ PyData.depthAll (D.pys (cs.map spt)) ≤ 5
  | [] => by
    simp only [List.map_nil, D.pys]
    exact ⟨rfl, by simp [PyData.depthAll]⟩
  | c :: cs => by
    obtain ⟨h1, h2⟩ := spts_py cs
    simp only [List.map_cons, D.pys, spt_py, PyData.canLayAll0, PyData.canLay0, h1, PyData.depthAll, PyData.depth]
    refine ⟨by decide, ?_⟩
    walk_at "o"
theorem peq_self {d : D} (h : d.cmp) : peq d d = true := SeqAt.eqv_refl _ h.1
end L2

set_option Elab.async false
set_option linter.all false
set_option maxRecDepth 100000
namespace L2
open PySem PySem.Spec PyProof.Rows
end L2

set_option Elab.async false
set_option linter.all false
set_option maxRecDepth 100000
namespace L2
open PySem PySem.Spec PyProof.Rows
theorem Fq.ne {q : Int × Int} (h : Fq q) : q.2 ≠ 0 := by have := h.1; walk_at "o"
end L2
namespace L2
open PySem PySem.Spec PyProof.Rows
end L2

set_option Elab.async false
set_option linter.all false
set_option maxRecDepth 100000
namespace L2
open PySem PySem.Spec PyProof.Rows
def lz {α : Type} (n : Nat) (h : Nat → α) : List α := (List.range n).map h
theorem Reps.set {H : Hp} : ∀ {ds : List D} {xs : List V} (i : Nat) {d : D} {x : V}, Reps H ds xs → Rep H d x → Reps H (ds.set i d) (xs.set i x)
  | [], xs, i, d, x, h, g => by
    cases h.nil_at
    exact .mk_nil
  | d0 :: ds, xs, i, d, x, h, g => by
    obtain ⟨x0, r, rfl, h1, h2⟩ := h.cons_at
    cases i with
    | zero => exact .mk_cons g h2
    | succ i => exact .mk_cons h1 (h2.set i g)
theorem ixN_nat {n k : Nat} (h : k < n) : ixN n (k : Int) = some k := by
  unfold ixN
  simp
  walk_at "o"
end L2
namespace L2
open PySem PySem.Spec PyProof.Rows
end L2

set_option Elab.async false
set_option linter.all false
set_option maxRecDepth 100000
namespace L2
open PySem PySem.Spec PyProof.Rows
theorem Same.none {G G' : Hp} {c : Addr} (S : Same G G') (h : G' c = none) : G c = none := by
  cases e : G c with
  | none => rfl
  | some o => rw [S _ _ e] at h; cases h
end L2
namespace L2
open PySem PySem.Spec PyProof.Rows
end L2
namespace L2
open PySem PySem.Spec PyProof.Rows
end L2

set_option Elab.async false
set_option linter.all false
set_option maxRecDepth 100000
namespace L2
open PySem PySem.Spec PyProof.Rows
section
variable {X : Cx} {pins : List (Addr × Obj)} {σ : St} {H H' : Hp} {s s' : Shared}
end
end L2

set_option Elab.async false
set_option linter.all false
set_option maxRecDepth 100000
namespace L2
open PySem PySem.Spec PyProof.Rows
section
variable {P : Program} {w : World} {K : PySem.W.Frag} {mg : Str → Option Value} {base : Heap} {N : List Str} {qual : Str} {scope : Scope} {f : Addr} {cd : Value} {A : Around} {outer : List Env} {s₀ : Shared} {H₀ : Hp} {E : XK} {C : Addr}
end
end L2

set_option Elab.async false
set_option linter.all false
set_option maxRecDepth 100000
namespace L2
open PySem PySem.Spec PySem.Calls PyProof.Rows PySem.W PySem.Builtin PySem.Builtin.ObjectAttr PySem.Builtin.Getset_descriptor
section
variable {prog : Program} {w : World} {A : Around} {E : Value → Shared → Prop} {K : Frag} {x C : Addr} {ob : Obj} {hh : Heap} {g : Array GenState} {d : Drawn} {t : Nat} {os : OsState}
end
end L2

set_option Elab.async false
set_option linter.all false
set_option maxRecDepth 100000
namespace L2
open PySem PySem.Spec PyProof.Rows
section
variable {X : Cx} {pins : List (Addr × Obj)} {σ : St} {H H' : Hp} {s s' : Shared}
end
end L2

set_option Elab.async false
set_option linter.all false
set_option maxRecDepth 100000
namespace L2
open PySem PySem.Spec PyProof.Rows
section
variable {X : Cx}
end
end L2

set_option Elab.async false
set_option linter.all false
set_option maxRecDepth 100000
namespace L2
open PySem PySem.Spec PyProof.Rows
theorem fn_run {CX : CXT} {P : Program} {w : World} {K : PySem.W.Frag} {mg : Str → Option Value} {base : Heap} {k : Nat} {f : Addr} {name qual : Str} {params : Arguments} {body : List Stmt} {scope : Scope} {dV kV doc pm cdv ct oc : Value} {an od : Option Addr}
    {osl : Array (Option Value)} {N ps : List Str} {A : Around} {outer : List Env} {s : Shared} {H : Hp} {args : Args} {us : List Value} {vs : List V} {Q : VK} {E : XK}
    (lk : K.lookup f = some ⟨oc, od, .func (PySem.W.fnOf name qual params body scope dV kV doc pm an cdv ct), osl⟩) (hcd : PySem.W.codeIn K cdv qual = true) (S : FnScope N ps scope)
    (hr : Room (k + 1) A) (e0 : Env0 P w K mg base A outer s H) (hb : BindsTo s (PySem.W.fnOf name qual params body scope dV kV doc pm an cdv ct) args (ps.zip us)) (r : Vals vs us) (hl : vs.length = ps.length)
    (hbody : Room k (A.deeper (envOfC qual scope s.heap.objs.size f cdv)) → ∃ t, PSs (cxOf CX P w K mg base N qual scope f cdv A outer s H E) body t ∧ t { nx := fun _ H' => Q .non H', rt := Q } (start N vs) H) :
    codeAny (model P w) A (.call (.ref f) args) (CR CX outer P w H s Q E) s := by
  have KX : K.In s.heap := e0.mod.kin.keeps fun b o e => (e0.bs b o e).1
  have lim : s.heap.NoLimit := e0.mod.nolimit.keeps fun b o e => (e0.bs b o e).1
  have hkind : ∀ y ∈ ps.zip us, scope.names.lookup y.1 = some .local ∨ (scope.names.lookup y.1 = some .cell ∧ ((cellsFrom (s.heap.objs.size + 1) scope.names []).lookup y.1).isSome = true) := fun ⟨n, v⟩ hy => by
    rcases S.par n (List.of_mem_zip hy).1 with q | q
    · exact .inl q
    · exact .inr ⟨q, PySem.W.cellsFrom_some _ _ _ (.inl q)⟩
  refine codeAny_call_function hr.depth (KX _ _ lk) rfl S.co S.gen rfl (PySem.W.codeRec_of KX hcd) (hb _ _ _ _ ?_)
  refine wpAny_newFunctionEnv_cells S.kind hkind fun env he s1 x => ?_
  subst he
  refine ⟨lim.keeps x.toInCall.keep, codeAny_func ?_⟩
  obtain ⟨t, ht, hq⟩ := hbody (hr.deeper _)
  have I : Inv (cxOf CX P w K mg base N qual scope f cdv A outer s H E) [] (start N vs) H s1 := inv_start S hr.hd e0 hl r x
  refine wpAny_mono (ht [] s1 (start N vs) H _ I hq) (fun fl s' hs => ?_) fun e s' hs => hs
  have fin : ∀ {σ' : St} {H' : Hp} {v : V} {u : Value}, Inv (cxOf CX P w K mg base N qual scope f cdv A outer s H E) [] σ' H' s' → RelV v u → Q v H' → CE outer P w H s Q u s' :=
    fun {σ' H' v u} J rv q => ⟨v, H', J.os, J.bare, J.base, J.hok, rv, q⟩
  cases fl with
  | ret u =>
    obtain ⟨v, σ', H', J, rv, q⟩ := hs
    exact fin J rv q
  | next =>
    obtain ⟨σ', H', J, q⟩ := hs
    exact fin (v := V.non) (u := Value.none) J rfl q
  | brk =>
    obtain ⟨_, _, _, q⟩ := hs
    exact False.elim q
  | cont =>
    obtain ⟨_, _, _, q⟩ := hs
    exact False.elim q
end L2

set_option Elab.async false
set_option linter.all false
set_option maxRecDepth 100000
namespace L2
open PySem PySem.Spec PyProof.Rows
def CodeO (c : Addr) (qual : Str) : HO := .ext (fun h => h.CodeRec (.ref c) qual)
def TabOk (H : Hp) (P : Addr) (qual : Str) : Prop := ∃ ps, H P = some (.tbl ps) ∧ TriplesOk ps.toList ∧ ∀ pos cv, codeAmong pos ps.toList = some cv → ∃ c, cv = .ref c ∧ H c = some (CodeO c qual)
theorem codeAmong_end {pos : Pos} {a b : Int} {c cv : Value} (l : List Value) (h : TriplesOk l) (z : codeAmong pos (l ++ [rawInt a, rawInt b, c]) = some cv) : codeAmong pos l = some cv ∨ cv = c := by
  fun_induction TriplesOk l with
  | case1 =>
    simp only [List.nil_append, codeAmong, rawInt] at z
    split at z
    · exact .inr (Option.some.inj z).symm
    · cases z
  | case2 a' t b' u x rest ih =>
    simp only [List.cons_append, codeAmong] at z ⊢
    by_cases hh : (a' == (pos.line : Int) && b' == (pos.col : Int)) = true
    · rw [if_pos hh] at z ⊢
      exact .inl z
    · rw [if_neg hh] at z ⊢
      exact ih h z
  | case3 l h1 h2 => exact h.elim
theorem Inv.tabbed {X : Cx} {pins : List (Addr × Obj)} {σ : St} {H : Hp} {s : Shared} {P c' : Addr} {qual : Str} {ps more : Array Value} {h2 : Heap} {t' : Nat} (I : Inv X pins σ H s) (hP : H P = some (.tbl ps)) (hx : Heap.ExtBut P s.heap h2) (hc : s.heap.objs.size ≤ c')
    (hr : h2.CodeRec (.ref c') qual) (hP2 : h2.get? P = some { cls := .none, data := .fields (ps ++ more) }) : Inv X pins σ (upd (upd H P (.tbl (ps ++ more))) c' (CodeO c' qual)) { s with heap := h2, toks := t' } := by
  have nc : H c' = none := I.hok.fresh hc
  have cP : c' ≠ P := fun z => by rw [z, hP] at nc; cases nc
  have nP : ∀ b, H b = none → b ≠ P := fun b n z => by rw [z, hP] at n; cases n
  have old : ∀ b o, s.heap.get? b = some o → b ≠ c' := fun b o e z => by rw [z] at e; exact absurd (Nat.lt_of_lt_of_le (Heap.lt_size e) hc) (Nat.lt_irrefl _)
  have oth : ∀ b u, H b = some u → (∀ q, u ≠ .tbl q) → upd (upd H P (.tbl (ps ++ more))) c' (CodeO c' qual) b = some u := fun b u e nt => by
    rw [upd_ne (ne_of_none e nc), upd_ne (fun z => by rw [z, hP] at e; cases e; exact nt _ rfl)]
    exact e
  refine I.step (h' := h2) (g' := s.gens) (d' := s.drawn) (t' := t') (ch := []) (fun _ z => nomatch z) (fun b o _ _ _ e n => hx b o (nP b n) e) (fun b o _ _ _ e n => ⟨o.slots, hx b o (nP b n) e⟩) (fun b o _ e n => ?_) (fun b o _ e => ?_)
    (fun b xs e => oth b _ e (fun _ z => by cases z)) (fun b o u e => oth b _ e (fun _ z => by cases z)) (fun b qs e => ?_) (fun m hm => ?_) (fun b u e => ?_) I.bare
  · rw [upd_ne (old b o e), upd_ne (nP b n)]
    exact n
  · by_cases hb : b = P
    · exact ⟨_, by rw [hb]; exact hP2⟩
    · exact ⟨o, hx b o hb e⟩
  · by_cases hb : b = P
    · subst hb
      rw [hP] at e
      cases e
      exact ⟨more, by rw [upd_ne (Ne.symm cP), upd_same]⟩
    · exact ⟨#[], by rw [upd_ne (ne_of_none e nc), upd_ne hb, e]; simp⟩
  · obtain ⟨o, es, ep, ho, r⟩ := hm
    exact ⟨o, es, ep, hx _ o (nP _ I.free) ho, r⟩
  · by_cases hb : b = c'
    · subst hb
      rw [upd_same] at e
      cases e
      obtain ⟨c2, oc, vs, t, e1, e2, e3⟩ := id hr
      cases e1
      exact ⟨hr, ⟨_, e2⟩, fun ha hb ⟨c3, o3, v3, t3, q1, q2, q3⟩ k => by cases q1; exact ⟨_, o3, v3, t3, rfl, k o3 q2, q3⟩⟩
    · rw [upd_ne hb] at e
      by_cases hp : b = P
      · subst hp
        rw [upd_same] at e
        cases e
        exact hP2
      · rw [upd_ne hp] at e
        refine (I.hok b u e).stay (fun c v hc' q => hx c v (fun z => ?_) q) (fun c q => oth c _ q fun _ z => by cases z) fun c xs q => oth c _ q fun _ z => by cases z
        rcases hc' with z2 | z2
        · exact hp (z2.symm.trans z)
        · rw [z, hP] at z2; cases z2
theorem clos_ex {env : Env} : ∀ (l : List (Str × NameKind)) (acc : List (Str × Addr)), (∀ q ∈ l, q.2 = .free → ∃ c, env.cells.lookup q.1 = some c) → (∀ x ∈ acc, env.cells.lookup x.1 = some x.2) →
    ∃ r, (forIn l acc (fun (x : Str × NameKind) (cs : List (Str × Addr)) => (if (x.2 == NameKind.free) = true then do let c ← cellOf env x.1; pure (ForInStep.yield ((x.1, c) :: cs)) else pure (ForInStep.yield cs) : Sem (ForInStep (List (Str × Addr))))) : Sem (List (Str × Addr))) = pure r ∧
      (∀ x ∈ r, env.cells.lookup x.1 = some x.2) ∧ (∀ q ∈ l, q.2 = .free → ∃ c, (q.1, c) ∈ r) ∧ ∀ x ∈ acc, x ∈ r
  | [], acc, _, ha => ⟨acc, rfl, ha, by simp, fun _ z => z⟩
  | q :: l, acc, h, ha => by
    obtain ⟨n, kd⟩ := q
    rw [List.forIn_cons]
    by_cases hk : kd = .free
    · subst hk
      obtain ⟨c, hc⟩ := h (n, .free) (by simp) rfl
      obtain ⟨r, e1, e2, e3, e4⟩ := clos_ex (env := env) l ((n, c) :: acc) (fun q hq => h q (by simp [hq])) (fun x hx => by
        rcases List.mem_cons.mp hx with z | z
        · rw [z]; exact hc
        · exact ha x z)
      refine ⟨r, ?_, e2, fun q hq hf => ?_, fun x hx => e4 x (by simp [hx])⟩
      · simp only [cellOf, hc, pure_bind, beq_self_eq_true, if_true]
        exact e1
      · rcases List.mem_cons.mp hq with z | z
        · rw [z]; exact ⟨c, e4 _ (by simp)⟩
        · exact e3 q z hf
    · obtain ⟨r, e1, e2, e3, e4⟩ := clos_ex (env := env) l acc (fun q hq => h q (by simp [hq])) ha
      refine ⟨r, ?_, e2, fun q hq hf => ?_, e4⟩
      · have : (kd == NameKind.free) = false := by simpa using hk
        simp only [this, Bool.false_eq_true, if_false, pure_bind]
        exact e1
      · rcases List.mem_cons.mp hq with z | z
        · rw [z] at hf; exact absurd hf hk
        · exact e3 q z hf
theorem clos_of {env : Env} {scope : Scope} (h : ∀ q ∈ scope.names, q.2 = .free → ∃ c, env.cells.lookup q.1 = some c) : ∃ r, closureFor scope env = pure r ∧ (∀ x ∈ r, env.cells.lookup x.1 = some x.2) ∧ (∀ q ∈ scope.names, q.2 = .free → ∃ c, (q.1, c) ∈ r) := by
  obtain ⟨r, e1, e2, e3, _⟩ := clos_ex (env := env) scope.names [] h (by simp)
  refine ⟨r, ?_, e2, e3⟩
  unfold closureFor
  have e1' := e1
  first
    | (rw [← e1]; simp; done)
    | (simp only [bind_pure]; rw [← e1]; rfl)
    | (show (forIn scope.names [] _ >>= pure) = _; rw [bind_pure]; rw [← e1]; rfl)
end L2

set_option Elab.async false
set_option linter.all false
set_option maxRecDepth 100000
namespace L2
open PySem PySem.Spec PyProof.Rows
structure Maker (X : Cx) (c P : Addr) : Prop where
  code : X.env.code = .ref c
  hd : PySem.W.CodeHd X.base c P
  bi : ∃ bm o, X.mg "__builtins__" = some (.ref bm) ∧ bm ≠ builtinsNs ∧ bm ≠ mainGlobals ∧ X.base.get? bm = some o ∧ o.cls = .type "module" ∧ o.dict = some builtinsNs ∧ o.data = .plain
abbrev lamQ (X : Cx) : Str := X.env.qual ++ "<lambda>"
theorem lam_eval {X : Cx} {pins : List (Addr × Obj)} {σ : St} {H : Hp} {s : Shared} {params : Arguments} {body : Expr} {scope : Scope} {pos : Pos} {c P : Addr} {M' : Model} {A' : Around} {Q : Value → Shared → Prop} {E : Value → Shared → Prop}
    (M : Maker X c P) (hdef : defaultsOf params X.env = ([], [])) (I : Inv X pins σ H s) (hT : TabOk H P (lamQ X)) (hfree : ∀ q ∈ scope.names, q.2 = .free → X.env.kindOf q.1 = some .cell)
    (k : ∀ (p c' : Addr) (pm ctv : Value) (clos : List (Str × Addr)) (H1 : Hp) (s1 : Shared), (∀ x ∈ clos, X.env.cells.lookup x.1 = some x.2) → (∀ q ∈ scope.names, q.2 = .free → ∃ c, (q.1, c) ∈ clos) → Inv X pins σ H1 s1 → But P H H1 → TabOk H1 P (lamQ X) →
      s1.heap.get? p = some (PySem.W.kla_obj "<lambda>" (lamQ X) params body scope clos pm c' ctv) → H1 p = none → s.heap.objs.size ≤ p → H1 c' = some (CodeO c' (lamQ X)) → Q (.ref p) s1) :
    wpAny M' A' (eval (.Lambda params body scope pos) X.env) Q E s := by
  obtain ⟨clos, hcl, hc1, hc2⟩ := clos_of (env := X.env) (scope := scope) fun q hq hf => I.ok.has q.1 (.inl (hfree q hq hf))
  refine PySem.W.kla_eval hdef ?_
  obtain ⟨ps, hP, ht, hall⟩ := hT
  have oP : s.heap.get? P = some (PySem.W.tabObj ps) := I.hok P _ hP
  obtain ⟨bm, o, b1, b2, b3, b4, b5, b6, b7⟩ := M.bi
  have bP : bm ≠ P := fun z => by
    have := (I.bs bm o b4).2
    rw [z, hP] at this; cases this
  have gP : mainGlobals ≠ P := fun z => by
    obtain ⟨og, _, _, eg, _⟩ := I.mod.glob
    have := (I.bs _ og eg).2
    rw [z, hP] at this; cases this
  have hb : s.heap.BuiltinsAt X.mg P := ⟨bm, o, b1, b2, b3, bP, I.bk _ _ b4, b5, b6, b7⟩
  cases hh : codeAmong pos ps.toList with
  | none =>
    refine PySem.W.kla_makeFunction hcl I.ok.glob (I.mod.glob.keeps I.bk) M.code (M.hd.keeps I.bk) oP ht hh gP hb fun c' ctv h' tk hx hge hlt hrec htb => ?_
    have I1 := I.tabbed (t' := tk) hP hx hge hrec htb
    have I2 := I1.kept (t' := tk) (h' := h'.push (PySem.W.kla_obj "<lambda>" (lamQ X) params body scope clos ((X.mg "__name__").getD .none) c' ctv)) fun b o e => Heap.get?_push_of_some _ e
    have nc : H c' = none := I.hok.fresh hge
    have cP : c' ≠ P := fun z => by rw [z, hP] at nc; cases nc
    have hle : s.heap.objs.size ≤ h'.objs.size := Nat.le_trans hge (Nat.le_of_lt hlt)
    refine k _ c' _ ctv clos _ _ hc1 hc2 I2 (fun b o hb e => ?_) ⟨_, by rw [upd_ne (Ne.symm cP), upd_same], ?_, fun pos' cv z => ?_⟩ (Heap.get?_push_size _ rfl) (I1.hok.fresh (Nat.le_refl _)) hle upd_same
    · rw [upd_ne (ne_of_none e nc), upd_ne hb]
      exact e
    · rw [Array.toList_append]
      exact TriplesOk_snoc _ _ _ _ ht
    · rw [Array.toList_append] at z
      rcases codeAmong_end _ ht z with q | q
      · obtain ⟨c2, e2, e3⟩ := hall pos' cv q
        refine ⟨c2, e2, ?_⟩
        rw [upd_ne (ne_of_none e3 nc), upd_ne (fun z => by rw [z, hP] at e3; cases e3)]
        exact e3
      · exact ⟨c', q, upd_same⟩
  | some cv =>
    obtain ⟨c', rfl, hcO⟩ := hall pos cv hh
    refine PySem.W.kla_makeFunctionHit hcl I.ok.glob (I.mod.glob.keeps I.bk) M.code (M.hd.keeps I.bk) oP ht hh hb fun ctv h' tk hk hsz => ?_
    have I1 := I.kept (t' := tk) (h' := h') hk
    have I2 := I1.kept (t' := tk) (h' := h'.push (PySem.W.kla_obj "<lambda>" (lamQ X) params body scope clos ((X.mg "__name__").getD .none) c' ctv)) fun b o e => Heap.get?_push_of_some _ e
    exact k _ c' _ ctv clos _ _ hc1 hc2 I2 (fun b o _ e => e) ⟨ps, hP, ht, hall⟩ (Heap.get?_push_size _ rfl) (I1.hok.fresh (Nat.le_refl _)) hsz hcO
def lamCx (P : Program) (w : World) (K : PySem.W.Frag) (mg : Str → Option Value) (base : Heap) (N : List Str) (qual : Str) (scope : Scope) (p : Addr) (cd : Value) (cl : List (Str × Addr)) (A : Around) (outer : List Env) (s : Shared) (H : Hp) : Cx where
  prog := P
  w := w
  K := K
  mg := mg
  base := base
  A := A.deeper (PySem.W.envX qual scope s.heap.objs.size p cd cl)
  N := N
  s₀ := s
  H₀ := H
  env := PySem.W.envX qual scope s.heap.objs.size p cd cl
  outer := outer
  stack := PySem.W.envX qual scope s.heap.objs.size p cd cl :: outer
  ex := []
  fn := fun _ => false
  calm := true
  pn := []
  xe := fun _ _ => False
theorem lookup_of_mem {cl : List (Str × Addr)} {f : Str → Option Addr} (h : ∀ x ∈ cl, f x.1 = some x.2) {n : Str} {c : Addr} (hm : (n, c) ∈ cl) : cl.lookup n = some c := by
  induction cl with
  | nil => cases hm
  | cons q r ih =>
    obtain ⟨m, d⟩ := q
    rw [List.lookup_cons]
    by_cases e : n = m
    · subst e
      have h1 := h (n, d) (by simp)
      have h2 := h (n, c) hm
      rw [h1] at h2
      cases h2
      simp
    · have : (n == m) = false := by simpa using e
      rw [this]
      refine ih (fun x hx => h x (by simp [hx])) ?_
      rcases List.mem_cons.mp hm with z | z
      · cases z; exact absurd rfl e
      · exact z
theorem mem_of_lookup' {cl : List (Str × Addr)} {n : Str} {c : Addr} (h : cl.lookup n = some c) : (n, c) ∈ cl := by
  induction cl with
  | nil => cases h
  | cons q r ih =>
    obtain ⟨m, d⟩ := q
    rw [List.lookup_cons] at h
    by_cases e : (n == m) = true
    · rw [e] at h
      cases h
      rw [eq_of_beq e]
      simp
    · have : (n == m) = false := by simpa using e
      rw [this] at h
      exact List.mem_cons_of_mem _ (ih h)
end L2

set_option Elab.async false
set_option linter.all false
set_option maxRecDepth 100000
namespace L2
open PySem PySem.Spec PyProof.Rows
theorem inv_lam {P : Program} {w : World} {K : PySem.W.Frag} {mg : Str → Option Value} {base : Heap} {N : List Str} {qual : Str} {scope : Scope} {p : Addr} {cd : Value} {cl : List (Str × Addr)} {A : Around} {outer : List Env} {s : Shared} {H : Hp} {σ : St} {h1 : Heap} {t : Nat} {g : Str → Option Addr}
    (hk : scope.kind = .function) (hh : A.handled = none) (e0 : Env0 P w K mg base A outer s H) (hg : ∀ x ∈ cl, g x.1 = some x.2) (hinj : ∀ x y c, g x = some c → g y = some c → x = y) (hfr : ∀ q ∈ scope.names, q.2 = .free → ∃ c, (q.1, c) ∈ cl) (hnc : ∀ q ∈ scope.names, q.2 ≠ .cell)
    (hns : h1.Ns s.heap.objs.size (fun _ => none)) (keep : ∀ b o, s.heap.get? b = some o → h1.get? b = some o) (hcell : ∀ x c, cl.lookup x = some c → H c = none ∧ ∃ v, s.heap.IsCell c v)
    (hloc : ∀ (i : Nat) (x : Str) (v : V), N[i]? = some x → σ[i]? = some (some v) → scope.names.lookup x = some .free ∧ ∃ u c, RelV v u ∧ cl.lookup x = some c ∧ s.heap.IsCell c (some u)) (hlen : σ.length = N.length) :
    Inv (lamCx P w K mg base N qual scope p cd cl A outer s H) [] σ H { s with heap := h1, toks := t } := by
  have noA : ∀ b : Addr, b ∉ (lamCx P w K mg base N qual scope p cd cl A outer s H).ex := fun b z => absurd (show b ∈ ([] : List Addr) from z) (by simp)
  refine ⟨⟨e0.mod, hk, rfl, rfl, Nat.le_refl _, fun x y c h1 h2 => ?_, fun x hx => ?_, (fun x c h => nomatch h), fun _ => hh, Around.frames_deeper e0.frames, .inr ⟨rfl, rfl⟩, fun b z => absurd z (noA b), e0.bs, e0.bsz, fun b _ _ => noA b, fun b z => absurd z (noA b), e0.funs, e0.frf⟩,
    rfl, e0.bare, Un.kept keep, ⟨_, hns, fun i x v h1 h2 h3 => ?_⟩, fun x c h => ?_, e0.hok.fresh (Nat.le_refl _), fun x c h => (hcell x c h).1, fun q hq => absurd (show q ∈ ([] : List (Addr × Obj)) from hq) (by simp), e0.hok.kept keep, hlen⟩
  · exact hinj x y c (hg _ (mem_of_lookup' h1)) (hg _ (mem_of_lookup' h2))
  · have hx' : scope.names.lookup x = some .cell ∨ scope.names.lookup x = some .free := hx
    rcases hx' with z | z
    · exact absurd rfl (hnc _ (PySem.mem_of_lookup z))
    · obtain ⟨c, hc⟩ := hfr _ (PySem.mem_of_lookup z) rfl
      exact ⟨c, lookup_of_mem hg hc⟩
  · obtain ⟨hf, u, c, r, hc, o, ho, hd⟩ := hloc i x v h1 h2
    exact ⟨u, r, .inr ⟨.inr hf, c, hc, o, keep _ _ ho, hd⟩⟩
  · obtain ⟨_, v, o, ho, hd⟩ := hcell x c h
    exact ⟨v, o, keep _ _ ho, hd⟩
end L2

set_option Elab.async false
set_option linter.all false
set_option maxRecDepth 100000
namespace L2
open PySem PySem.Spec PyProof.Rows
theorem Inv.vwT {X : Cx} {pins : List (Addr × Obj)} {σ : St} {H : Hp} {s : Shared} {b : Addr} {o : HO} (I : Inv X pins σ H s) (e : H b = some o) : vw X.K H b = some o := by
  have hk : X.K.lookup b = none := by
    cases z : X.K.lookup b with
    | none => rfl
    | some ob =>
      have := (I.bs b ob (I.ok.mod.kin b ob z)).2
      rw [e] at this; cases this
  rw [vw_new hk]
  exact e
theorem TabOk.raw {K : PySem.W.Frag} {H : Hp} {P : Addr} {qual : Str} (h : TabOk (vw K H) P qual) : TabOk H P qual := by
  obtain ⟨ps, h1, h2, h3⟩ := h
  refine ⟨ps, vw_get h1 (fun _ z => by cases z), h2, fun pos cv z => ?_⟩
  obtain ⟨c, e1, e2⟩ := h3 pos cv z
  exact ⟨c, e1, vw_get e2 (fun _ z => by cases z)⟩
theorem Inv.tabV {X : Cx} {pins : List (Addr × Obj)} {σ : St} {H : Hp} {s : Shared} {P : Addr} {qual : Str} (I : Inv X pins σ H s) (h : TabOk H P qual) : TabOk (vw X.K H) P qual := by
  obtain ⟨ps, h1, h2, h3⟩ := h
  refine ⟨ps, I.vwT h1, h2, fun pos cv z => ?_⟩
  obtain ⟨c, e1, e2⟩ := h3 pos cv z
  exact ⟨c, e1, I.vwT e2⟩
def SmT (G G' : Hp) : Prop := ∀ b o, G b = some o → (∀ ps, o ≠ .tbl ps) → G' b = some o
theorem SmT.of {G G' : Hp} (S : Same G G') : SmT G G' := fun b o e _ => S b o e
theorem SmT.trans {G G1 G2 : Hp} (a : SmT G G1) (b : SmT G1 G2) : SmT G G2 := fun c o e n => b c o (a c o e n) n
theorem SmT.rfl {G : Hp} : SmT G G := fun _ _ e _ => e
theorem SmT.but {G G' : Hp} {P : Addr} {ps : Array Value} (h : G P = some (.tbl ps)) (B : But P G G') : SmT G G' := fun b o e n => B b o (fun z => by rw [z, h] at e; cases e; exact n _ _root_.rfl) e
theorem TabOk.same {G G' : Hp} {P : Addr} {qual : Str} (h : TabOk G P qual) (S : Same G G') : TabOk G' P qual := by
  obtain ⟨ps, h1, h2, h3⟩ := h
  refine ⟨ps, S _ _ h1, h2, fun pos cv z => ?_⟩
  obtain ⟨c, e1, e2⟩ := h3 pos cv z
  exact ⟨c, e1, S _ _ e2⟩
theorem TabOk.start {G : Hp} {P : Addr} {qual : Str} (h : G P = some (.tbl #[])) : TabOk G P qual := ⟨#[], h, trivial, fun pos cv z => by cases z⟩
mutual
theorem Rep.smT {H H' : Hp} (S : SmT H H') : ∀ (d : D) (v : V), Rep H d v → Rep H' d v
  | .non, v, h => by unfold Rep at *; exact h
  | .bl _, v, h => by unfold Rep at *; exact h
  | .int _, v, h => by unfold Rep at *; exact h
  | .str _, v, h => by unfold Rep at *; exact h
  | .tup ds, v, h => by
    obtain ⟨a, xs, rfl, ha, r⟩ := h.tup_at
    exact .mk_tup (S _ _ ha (fun _ z => by cases z)) (Reps.smT S ds xs r)
  | .lst ds, v, h => by
    obtain ⟨a, xs, rfl, ha, r⟩ := h.lst_at
    exact .mk_lst (S _ _ ha (fun _ z => by cases z)) (Reps.smT S ds xs r)
  | .dict, v, h => by
    unfold Rep at *
    obtain ⟨a, kvs, e, ha⟩ := h
    exact ⟨a, kvs, e, S _ _ ha (fun _ z => by cases z)⟩
theorem Reps.smT {H H' : Hp} (S : SmT H H') : ∀ (ds : List D) (xs : List V), Reps H ds xs → Reps H' ds xs
  | [], xs, h => by cases h.nil_at; exact .mk_nil
  | d :: ds, xs, h => by
    obtain ⟨x, r, rfl, h1, h2⟩ := h.cons_at
    exact .mk_cons (Rep.smT S d x h1) (Reps.smT S ds r h2)
end
end L2
namespace L2
open PySem PySem.Spec PyProof.Rows
theorem ScrOk.smT {K : PySem.W.Frag} {H H' : Hp} {a : Addr} {xs : List V} (h : ScrOk K H a xs) (S : SmT (vw K H) (vw K H')) : ScrOk K H' a xs := by
  rcases h with ⟨hk, h⟩ | h
  · refine .inl ⟨hk, ?_⟩
    rcases h with h | ⟨o, h⟩
    · have := S a _ (by rw [vw_new hk]; exact h) (fun _ z => by cases z)
      rw [vw_new hk] at this
      exact .inl this
    · have := S a _ (by rw [vw_new hk]; exact h) (fun _ z => by cases z)
      rw [vw_new hk] at this
      exact .inr ⟨o, this⟩
  · exact .inr h
structure MkF (K : PySem.W.Frag) (mg : Str → Option Value) (base : Heap) (fd : FuncData) (c P : Addr) : Prop where
  code : fd.code = .ref c
  hd : PySem.W.CodeHd base c P
  bi : ∃ bm o, mg "__builtins__" = some (.ref bm) ∧ bm ≠ builtinsNs ∧ bm ≠ mainGlobals ∧ base.get? bm = some o ∧ o.cls = .type "module" ∧ o.dict = some builtinsNs ∧ o.data = .plain
theorem maker_of {P : Program} {w : World} {K : PySem.W.Frag} {mg : Str → Option Value} {base : Heap} {N : List Str} {qual : Str} {scope : Scope} {f : Addr} {cdv : Value} {A : Around} {outer : List Env} {s : Shared} {H : Hp} {E : XK} {fd : FuncData} {c Pt : Addr} (h : fd.code = cdv) (k : MkF K mg base fd c Pt) :
    Maker ((cxOf CX0 P w K mg base N qual scope f cdv A outer s H E).nox) c Pt := ⟨h ▸ k.code, k.hd, k.bi⟩
end L2

set_option Elab.async false
set_option linter.all false
set_option maxRecDepth 100000
namespace L2
open PySem PySem.Spec PyProof.Rows
section
variable {P : Program} {w : World} {K : PySem.W.Frag} {mg : Str → Option Value} {base : Heap}
end
section
variable {X : Cx}
end
end L2

set_option Elab.async false
set_option linter.all false
set_option maxRecDepth 100000
namespace L2
open PySem PySem.Spec PyProof.Rows
def BltB (mg : Str → Option Value) (base : Heap) : Prop := ∃ bm o, mg "__builtins__" = some (.ref bm) ∧ bm ≠ builtinsNs ∧ bm ≠ mainGlobals ∧ base.get? bm = some o ∧ o.cls = .type "module" ∧ o.dict = some builtinsNs ∧ o.data = .plain
def OnlyT (ts : List (Addr × Addr)) (H : Hp) : Prop := ∀ b, H b = none ∨ (∃ o xs, H b = some (.frz o (.lst xs))) ∨ (H b = some (.tbl #[]) ∧ ∃ q ∈ ts, q.2 = b)
theorem law_callM {P : Program} {w : World} {K : PySem.W.Frag} {mg mb : Str → Option Value} {CX : CXT} {k : Nat} {fa a : Addr} {fd : FuncData} {x : Str} {sp : Sp} {s₁ : Shared} {vs : List Value} {ns : List Int} {ts : List (Addr × Addr)}
    (KX : K.In s₁.heap) (hns : s₁.heap.Ns mainGlobals mg) (hb : s₁.heap.Ns builtinsNs mb) (hbb : ∀ x : Str, x ≠ "__name__" → mb x = bootBuiltins x) (hlim : s₁.heap.NoLimit) (hg : s₁.gens = #[])
    (ha : s₁.heap.get? a = some { cls := .type "list", data := .seq vs.toArray }) (hi : IntsAre vs ns) (hl : ns.length ≤ sizeLine) (hr : Room k callerA) (hT : ∀ q ∈ ts, PySem.W.codeHdIn K q.1 q.2 = true ∧ K.lookup q.2 = none ∧ s₁.heap.get? q.2 = some (PySem.W.tabObj #[]))
    (hB : BltB mg s₁.heap) (F : ∀ base : Heap, K.In base → base.Ns mainGlobals mg → BltB mg base → FnOk P w K mg base CX k fa fd [x] sp) (hbind : ∀ (s : Shared) (u : Value), BindsTo s fd ⟨[u], []⟩ [(x, u)])
    (hsp : ∀ H : Hp, (∀ q ∈ ts, vw K H q.2 = some (.tbl #[])) → (H a ≠ none → K.lookup a = none) → SqL K H a (ns.map V.int) → sp [.ref a] H (fun v _ => v = .bl true) fun _ _ _ => False)
    (hCX : ∀ H e s', CX [] H s₁ (fun _ _ _ => False) e s' → False) :
    codeAny (model P w) callerA (.call (.ref fa) ⟨[.ref a], []⟩) (fun r s' => r = .ok (.ret (.bool true)) ∧ OldK s₁.heap s'.heap ∧ s'.os = s₁.os ∧ AllBare s'.gens) s₁ := by
  have rv := vals_ints hi
  have lenV := hi.length
  have na : ∀ q ∈ ts, q.2 ≠ a := fun q hq z => by
    have := (hT q hq).2.2
    rw [z, ha] at this
    cases this
  have core : ∀ H : Hp, OnlyT ts H → (∀ q ∈ ts, H q.2 = some (.tbl #[])) → SqL K H a (ns.map V.int) → HOk P w H s₁.heap → (∀ b, H b ≠ none → b = a ∨ ∃ q ∈ ts, q.2 = b) → (H a ≠ none → K.lookup a = none) →
      codeAny (model P w) callerA (.call (.ref fa) ⟨[.ref a], []⟩) (fun r s' => r = .ok (.ret (.bool true)) ∧ OldK s₁.heap s'.heap ∧ s'.os = s₁.os ∧ AllBare s'.gens) s₁ := by
    intro H hO hTT hS hok hA hK
    have base_of : ∀ {b : Addr} {o : Obj}, s₁.heap.get? b = some o → H b = none → (hidT s₁.heap H).get? b = some o := fun e n => hidT_get e n
    have noA : ∀ {b : Addr} {o : Obj} {es : Array DictEntry} {ep : Nat}, s₁.heap.get? b = some o → o.data = .dict es ep → H b = none := fun {b o es ep} e d => by
      cases q : H b with
      | none => rfl
      | some u =>
        rcases hA b (by rw [q]; simp) with e' | ⟨y, hy, e'⟩
        · subst e'
          rw [ha] at e; cases e
          have d' : Data.seq vs.toArray _ = Data.dict es ep := d
          cases d'
        · subst e'
          rw [(hT y hy).2.2] at e; cases e
          have d' : Data.fields (#[] : Array Value) = Data.dict es ep := d
          cases d'
    have nsK : ∀ {b : Addr} {m : Str → Option Value}, s₁.heap.Ns b m → (hidT s₁.heap H).Ns b m := fun {b m} ⟨o, es, ep, e, d, r⟩ => ⟨o, es, ep, base_of e (noA e d), d, r⟩
    have hKb : K.In (hidT s₁.heap H) := fun b o e => base_of (KX b o e) (by
      cases q : H b with
      | none => rfl
      | some u =>
        rcases hA b (by rw [q]; simp) with e' | ⟨y, hy, e'⟩
        · subst e'
          rw [hK (by rw [q]; simp)] at e; cases e
        · subst e'
          rw [(hT y hy).2.1] at e; cases e)
    have hM : Mod K mg (hidT s₁.heap H) := ⟨hKb, nsK hns, ⟨mb, nsK hb, hbb⟩, let ⟨mc, h1, h2⟩ := hlim; ⟨mc, nsK h1, h2⟩⟩
    have e0 : Env0 P w K mg (hidT s₁.heap H) callerA [] s₁ H := ⟨rfl, hM, fun b o e => of_hidT e, Nat.le_of_eq (hidT_size _ _), trivial, fun b hb => absurd (show b ∈ ([] : List Addr) from hb) (by simp), hok, .of_eq hg⟩
    have hBb : BltB mg (hidT s₁.heap H) := by
      obtain ⟨bm, ob, b1, b2, b3, b4, b5, b6, b7⟩ := hB
      refine ⟨bm, ob, b1, b2, b3, base_of b4 ?_, b5, b6, b7⟩
      cases q : H bm with
      | none => rfl
      | some u =>
        rcases hA bm (by rw [q]; simp) with e' | ⟨y, hy, e'⟩
        · rw [e', ha] at b4; cases b4; simp at b5
        · rw [← e', (hT y hy).2.2] at b4; cases b4; cases b5
    refine codeAny_mono ((F _ hKb (nsK hns) hBb).run callerA [] s₁ H ⟨[.ref a], []⟩ [.ref a] [.ref a] _ _ hr e0 (hbind s₁ (.ref a)) (.cons rfl .nil) (hsp H (fun q hq => (vw_new (hT q hq).2.1).trans (hTT q hq)) hK hS)) fun r s' h => ?_
    cases r with
    | error e => exact (hCX H e s' h).elim
    | ok fl =>
      cases fl with
      | next => exact False.elim h
      | brk => exact False.elim h
      | cont => exact False.elim h
      | ret u =>
        obtain ⟨v, H', os, bare, un, hok', r', q⟩ := h
        have q' : v = .bl true := q
        subst q'
        obtain rfl : u = Value.bool true := r'
        have key : ∀ b o, s₁.heap.get? b = some o → s'.heap.get? b = some o ∨ ((∃ y ∈ ts, y.2 = b) ∧ o = PySem.W.tabObj #[] ∧ ∃ more, s'.heap.get? b = some (PySem.W.tabObj more)) := fun b o e => by
          cases q : H b with
          | none => exact .inl (un.keep b o e q (by intro z; exact absurd (show b ∈ ([] : List Addr) from z) (by simp)) (by simp))
          | some u =>
            rcases hO b with z | ⟨ob, xs, z⟩ | ⟨z, y, hy, e'⟩
            · rw [q] at z; cases z
            · have z2 := un.frzs b ob _ z
              obtain ⟨e1, _⟩ := hok b _ z
              obtain ⟨e2, _⟩ := hok' b _ z2
              rw [e] at e1; cases e1
              exact .inl e2
            · obtain ⟨more, z2⟩ := un.tbls b #[] z
              have e1 : s₁.heap.get? b = some (PySem.W.tabObj #[]) := hok b _ z
              have e2 : s'.heap.get? b = some (PySem.W.tabObj (#[] ++ more)) := hok' b _ z2
              rw [e] at e1; cases e1
              exact .inr ⟨⟨y, hy, e'⟩, rfl, _, e2⟩
        refine ⟨rfl, ⟨fun b o e => ?_, fun b o e => ?_⟩, os, bare⟩
        · rcases key b o e with z | ⟨⟨y, hy, e'⟩, z1, more, z2⟩
          · exact .inl z
          · subst z1 e'
            have cd := PySem.W.codeHd_of_K KX (hT y hy).1
            exact .inr (.inl ⟨(cd.tab (hT y hy).2.2).isCodeTable, rfl, #[], more, rfl, by rw [z2]; simp⟩)
        · rcases key b o e with z | ⟨_, _, more, z2⟩
          · exact ⟨o, z⟩
          · exact ⟨_, z2⟩
  have dec : ∀ b, Decidable (∃ q ∈ ts, q.2 = b) := fun b => Classical.propDecidable _
  have tabH : ∀ q ∈ ts, ObjOk P w (fun _ => none) s₁.heap q.2 (.tbl #[]) := fun q hq => (hT q hq).2.2
  cases hk : K.lookup a with
  | some o =>
    have e := KX a o hk
    rw [ha] at e
    cases e
    refine core (fun b => @ite _ (∃ q ∈ ts, q.2 = b) (dec b) (some (.tbl #[])) none) (fun b => ?_) (fun q hq => if_pos ⟨q, hq, rfl⟩) (.inr ⟨_, vs.toArray, _, hk, rfl, rfl, rfl, by rw [List.size_toArray, lenV]; exact hl, by simpa using rv⟩) (fun b u z => ?_) (fun b z => ?_) fun z => ?_
    · by_cases hb : ∃ q ∈ ts, q.2 = b
      · exact .inr (.inr ⟨if_pos hb, hb⟩)
      · exact .inl (if_neg hb)
    · by_cases hb : ∃ q ∈ ts, q.2 = b
      · have z' := (if_pos hb).symm.trans z
        cases z'
        obtain ⟨q, hq, rfl⟩ := hb
        exact (hT q hq).2.2
      · have z' := (if_neg hb).symm.trans z
        cases z'
    · by_cases hb : ∃ q ∈ ts, q.2 = b
      · exact .inr hb
      · exact absurd (if_neg hb) z
    · have : ¬ ∃ q ∈ ts, q.2 = a := fun ⟨q, hq, e⟩ => na q hq e
      exact absurd (if_neg this) z
  | none =>
    have ia : ¬ ∃ q ∈ ts, q.2 = a := fun ⟨q, hq, e⟩ => na q hq e
    refine core (fun b => if b = a then some (.frz { cls := .type "list", data := .seq vs.toArray } (.lst (ns.map V.int))) else @ite _ (∃ q ∈ ts, q.2 = b) (dec b) (some (.tbl #[])) none) (fun b => ?_) (fun q hq => ?_) (.inl (.inr ⟨{ cls := .type "list", data := .seq vs.toArray }, if_pos rfl⟩)) (fun b u z => ?_) (fun b z => ?_) fun _ => hk
    · by_cases hb : b = a
      · exact .inr (.inl ⟨_, _, if_pos hb⟩)
      · by_cases hb2 : ∃ q ∈ ts, q.2 = b
        · exact .inr (.inr ⟨(if_neg hb).trans (if_pos hb2), hb2⟩)
        · exact .inl ((if_neg hb).trans (if_neg hb2))
    · exact (if_neg (na q hq)).trans (if_pos ⟨q, hq, rfl⟩)
    · by_cases hb : b = a
      · have z' := (if_pos hb).symm.trans z
        cases z'
        subst hb
        exact ⟨ha, by rw [List.length_map]; exact hl, vs, _, rv, ha⟩
      · by_cases hb2 : ∃ q ∈ ts, q.2 = b
        · have z' := ((if_neg hb).trans (if_pos hb2)).symm.trans z
          cases z'
          obtain ⟨q, hq, rfl⟩ := hb2
          exact (hT q hq).2.2
        · have z' := ((if_neg hb).trans (if_neg hb2)).symm.trans z
          cases z'
    · by_cases hb : b = a
      · exact .inl hb
      · by_cases hb2 : ∃ q ∈ ts, q.2 = b
        · exact .inr hb2
        · exact absurd ((if_neg hb).trans (if_neg hb2)) z
theorem walk_ofM {l : PySem.W.OpenLaw} {n k : Nat} {q : Program} {loose : List Str} {XP : (Str → Option Value) → Heap → Prop} {YP : World → Heap → Prop} {d : DefRec} {K : Params → PySem.W.Frag} {CX : World → CXT} {sp : World → Sp} {x : Str} (ts : World → List (Addr × Addr))
    (hn : l.most = some n) (hn2 : n ≤ sizeLine) (hdf : d.params.defaults = []) (hr : Room k callerA)
    (hY : ∀ (w : World) (h : Heap), YP w h → (K w.params).In h ∧ ∀ q ∈ ts w, PySem.W.codeHdIn (K w.params) q.1 q.2 = true ∧ (K w.params).lookup q.2 = none ∧ h.get? q.2 = some (PySem.W.tabObj #[]))
    (F : ∀ (w : World) (mg : Str → Option Value) (fa : Addr) (h : Heap), (K w.params).In h → h.Ns mainGlobals mg → mg d.name = some (.ref fa) →
      ∃ fd : FuncData, (∀ (s : Shared) (u : Value), BindsTo s fd ⟨[u], []⟩ [(x, u)]) ∧
        ∀ base : Heap, (K w.params).In base → base.Ns mainGlobals mg → BltB mg base → FnOk l.prog w (K w.params) mg base (CX w) k fa fd [x] (sp w))
    (hsp : ∀ (w : World) (H : Hp) (a : Addr) (ns : List Int), ns.length ≤ n → (∀ q ∈ ts w, vw (K w.params) H q.2 = some (.tbl #[])) → (H a ≠ none → (K w.params).lookup a = none) → SqL (K w.params) H a (ns.map V.int) → sp w [.ref a] H (fun v _ => v = .bl true) fun _ _ _ => False)
    (hCX : ∀ (w : World) (H : Hp) (s : Shared) (e : Value) (s' : Shared), CX w [] H s (fun _ _ _ => False) e s' → False) :
    PySem.W.WalkO q loose XP YP l.row.toRowW d [] (fun f vs => PySem.call f vs) := by
  refine Att.attach_call hn hdf fun w s₀ s₁ mg mb fa o pm cd doc a vs ns G Y ho hd hcd hmg hobj hints hlen hg => ?_
  obtain ⟨KX, hT⟩ := hY w _ Y
  obtain ⟨fd, hb, hF⟩ := F w mg fa _ KX G.T.g hmg
  have hB : BltB mg s₁.heap := by
    obtain ⟨bm, ob, b1, b2, b3, b4, b5, b6⟩ := G.T.bmain
    refine ⟨bm, ob, b1, b2, fun z => ?_, b3, b4, b5, b6⟩
    obtain ⟨o, es, ep, e, hd', _⟩ := G.T.g
    rw [z, e] at b3; cases b3; rw [hd'] at b6; cases b6
  exact law_callM KX G.T.g G.T.b G.T.builtins G.T.nolimit hg hobj hints (Nat.le_trans hlen hn2) hr hT hB hF hb (fun H hTT hK hS => hsp w H a ns hlen hTT hK hS) fun H e s' => hCX w H s₁ e s'
section
variable {P : Program} {w : World} {K : PySem.W.Frag} {mg : Str → Option Value} {base : Heap}
theorem Fun.okM {x qual : Str} {st : Stmt} {f : Addr} {fd : FuncData} {N ps : List Str} {k : Nat} {sp : Sp} (F : Fun K x qual st f fd) (S : FnScope N ps (defScope st)) (len : ∀ vs H Q E, sp vs H Q E → vs.length = ps.length)
    (hbody : ∀ (cdv : Value) (A : Around) (outer : List Env) (s : Shared) (H : Hp) (vs : List V) (Q : VK) (E : XK), fd.code = cdv → Room k (A.deeper (envOfC qual (defScope st) s.heap.objs.size f cdv)) → sp vs H Q E →
      ∃ t, QSs (cxOf CX0 P w K mg base N qual (defScope st) f cdv A outer s H E).nox (defBody st) t ∧ t { nx := fun _ H' => Q .non H', rt := Q } (start N vs) H) : FnOk P w K mg base CX0 (k + 1) f fd ps sp := by
  obtain ⟨oc, od, kV, doc, pm, an, cdv, ct, osl, rfl, lk, hcd⟩ := F.ex
  refine fn_of lk hcd S len fun A outer s H vs Q E hr hsp => ?_
  obtain ⟨t, h, q⟩ := hbody cdv A outer s H vs Q E rfl hr hsp
  exact ⟨t, h.h.nox, q⟩
theorem Fun.runQ {x qual : Str} {st : Stmt} {f : Addr} {fd : FuncData} {N ps : List Str} {k : Nat} {A : Around} {outer : List Env} {s : Shared} {H : Hp} {us : List Value} {vs : List V} {Q : VK} {E : XK} (F : Fun K x qual st f fd) (S : FnScope N ps (defScope st)) (hr : Room (k + 1) A) (e0 : Env0 P w K mg base A outer s H)
    (hb : Binds K fd ps []) (r : Vals vs us) (hl : vs.length = ps.length)
    (hbody : ∀ cdv, Room k (A.deeper (envOfC qual (defScope st) s.heap.objs.size f cdv)) → ∃ t, QSs (cxOf CX0 P w K mg base N qual (defScope st) f cdv A outer s H E).nox (defBody st) t ∧ t { nx := fun _ H' => Q .non H', rt := Q } (start N vs) H) :
    codeAny (model P w) A (.call (.ref f) ⟨us, []⟩) (CR CX0 outer P w H s Q E) s := by
  obtain ⟨oc, od, kV, doc, pm, an, cdv, ct, osl, rfl, lk, hcd⟩ := F.ex
  have KX : K.In s.heap := e0.mod.kin.keeps fun b o e => (e0.bs b o e).1
  have hb' := hb s us KX (by rw [List.append_nil, ← r.length]; exact hl)
  rw [List.append_nil] at hb'
  refine fn_run lk hcd S hr e0 hb' r hl fun hr' => ?_
  obtain ⟨t, h, q⟩ := hbody cdv hr'
  exact ⟨t, h.h.nox, q⟩
end
theorem free_of {X : Cx} {scope sc : Scope} (h : X.env.scope = sc) (z : scope.names.all (fun q => q.2 != .free || sc.names.lookup q.1 == some .cell) = true) : ∀ q ∈ scope.names, q.2 = .free → X.env.kindOf q.1 = some .cell := fun q hq hf => by
  have h2 := List.all_eq_true.mp z q hq
  rw [Bool.or_eq_true] at h2
  rcases h2 with h2 | h2
  · rw [hf] at h2; cases h2
  · show X.env.scope.names.lookup q.1 = _
    rw [h]
    exact beq_iff_eq.mp h2
theorem nocell_of {scope : Scope} (z : scope.names.all (fun q => q.2 != .cell) = true) : ∀ q ∈ scope.names, q.2 ≠ .cell := fun q hq e => by
  have h2 := List.all_eq_true.mp z q hq
  rw [e] at h2
  cases h2
end L2
namespace L2
open PySem PySem.Spec PyProof.Rows
end L2
namespace L2
open PySem PySem.Spec PyProof.Rows
end L2
namespace L2
open PySem PySem.Spec PyProof.Rows
abbrev lamN (n : Str) : Str := n ++ ".<locals>." ++ "<lambda>"
end L2
namespace L2
open PySem PySem.Spec PyProof.Rows
theorem TabOk.butL {G G' : Hp} {P l : Addr} {qual : Str} {xs : List V} (h : TabOk G P qual) (hl : G l = some (.lst xs)) (B : But l G G') : TabOk G' P qual := by
  obtain ⟨ps, h1, h2, h3⟩ := h
  refine ⟨ps, B _ _ (fun z => by rw [z, hl] at h1; cases h1) h1, h2, fun pos cv z => ?_⟩
  obtain ⟨c, e1, e2⟩ := h3 pos cv z
  exact ⟨c, e1, B _ _ (fun z => by rw [z, hl] at e2; cases e2) e2⟩
theorem TabOk.smT {G G' : Hp} {P : Addr} {qual : Str} (h : TabOk G P qual) (B : But P G G') (T : TabOk G' P qual) : SmT G G' := by
  obtain ⟨ps, h1, _⟩ := h
  exact SmT.but h1 B
end L2

set_option Elab.async false
set_option linter.all false
set_option maxRecDepth 100000
namespace L2
open PySem PySem.Spec PyProof.Rows
section
variable {P : Program} {w : World} {K : PySem.W.Frag} {mg : Str → Option Value} {base : Heap}
end
def Sx (b : Nat) (q : Int × Int) : Prop := ∃ n : Int, wv q = (n : Rat) / 6 ∧ n.natAbs ≤ b
theorem Sx.mono {a b : Nat} {q : Int × Int} (h : Sx a q) (hl : a ≤ b) : Sx b q := by
  obtain ⟨n, h1, h2⟩ := h
  exact ⟨n, h1, by walk_at "o"⟩
theorem Sx.add {a b : Nat} {p q : Int × Int} (hp : p.2 ≠ 0) (hq : q.2 ≠ 0) (h1 : Sx a p) (h2 : Sx b q) : Sx (a + b) (addq p q) := by
  obtain ⟨m, e1, l1⟩ := h1
  obtain ⟨n, e2, l2⟩ := h2
  refine ⟨m + n, ?_, by walk_at "o"⟩
  rw [wv_add hp hq, e1, e2, Rat.intCast_add]
  grind
theorem Sx.lo {a z : Int} {b : Nat} (h0 : 0 ≤ z) (h3 : z < 3) (ha : 6 * a.natAbs ≤ b) : Sx b (lo a (1 + z)) := by
  have hz : 1 + z ≠ 0 := by walk_at "o"
  have c1 : ((1 : Int) : Rat) = 1 := rfl
  have c2 : ((2 : Int) : Rat) = 2 := rfl
  have c3 : ((3 : Int) : Rat) = 3 := rfl
  have c6 : ((6 : Int) : Rat) = 6 := rfl
  rcases (show z = 0 ∨ z = 1 ∨ z = 2 by walk_at "o") with rfl | rfl | rfl
  · refine ⟨6 * a, ?_, by walk_at "o"⟩
    rw [wv_lo hz, show (1 : Int) + 0 = 1 from rfl, Rat.intCast_mul, c1, c6]
    grind
  · refine ⟨3 * a, ?_, by walk_at "o"⟩
    rw [wv_lo hz, show (1 : Int) + 1 = 2 from rfl, Rat.intCast_mul, c2, c3]
    grind
  · refine ⟨2 * a, ?_, by walk_at "o"⟩
    rw [wv_lo hz, show (1 : Int) + 2 = 3 from rfl, Rat.intCast_mul, c2, c3]
    grind
end L2

set_option Elab.async false
set_option linter.all false
set_option maxRecDepth 100000
namespace L2
open PySem PySem.Spec PyProof.Rows
theorem tSeq.gen {t u : TS} {D : Ends} {σ : St} {H : Hp} (h : ∀ N : St → Hp → Prop, (∀ σ' H', u D σ' H' → N σ' H') → t { D with nx := N } σ H) : tSeq t u D σ H := h (u D) fun _ _ z => z
end L2

set_option Elab.async false
set_option linter.all false
set_option maxRecDepth 100000
namespace L2
open PySem PySem.Spec PyProof.Rows
section
variable {X : Cx} {tg : Expr}
end
end L2

set_option Elab.async false
set_option linter.all false
set_option maxRecDepth 100000
namespace L2
open PySem PySem.Spec PyProof.Rows
end L2

set_option Elab.async false
set_option linter.all false
set_option maxRecDepth 100000
namespace L2
open PySem PySem.Spec PyProof.Rows
end L2

set_option Elab.async false
set_option linter.all false
set_option maxRecDepth 100000
namespace L2
open PySem PySem.Spec PyProof.Rows
end L2

set_option Elab.async false
set_option linter.all false
set_option maxRecDepth 100000
namespace L2
open PySem PySem.Spec PyProof.Rows
end L2

set_option Elab.async false
set_option linter.all false
set_option maxRecDepth 100000
namespace L2
open PySem PySem.Spec PyProof.Rows
section
variable {X : Cx} {a b c : Expr} {ta tb tc : TE} {pos : Pos}
end
end L2
namespace L2
open PySem PySem.Spec PyProof.Rows
end L2

set_option Elab.async false
set_option linter.all false
set_option maxRecDepth 100000
namespace L2
open PySem PySem.Spec PyProof.Rows
def isBl (x : V) (P : Bool → Prop) : Prop := match x with | .bl k => P k | _ => False
def isInt (x : V) (P : Int → Prop) : Prop := match x with | .int k => P k | _ => False
def isRef (x : V) (P : Addr → Prop) : Prop := match x with | .ref k => P k | _ => False
def isVar (x : Option (Option V)) (P : V → Prop) : Prop := match x with | some (some v) => P v | _ => False
def is1 (x : List V) (P : V → Prop) : Prop := match x with | [v] => P v | _ => False
def is2 (x : List V) (P : V → V → Prop) : Prop := match x with | [v, u] => P v u | _ => False
theorem isBl_mk {k : Bool} {P : Bool → Prop} : isBl (.bl k) P = P k := rfl
theorem isInt_mk {k : Int} {P : Int → Prop} : isInt (.int k) P = P k := rfl
theorem isRef_mk {k : Addr} {P : Addr → Prop} : isRef (.ref k) P = P k := rfl
theorem isVar_mk {k : V} {P : V → Prop} : isVar (some (some k)) P = P k := rfl
theorem is1_mk {k : V} {P : V → Prop} : is1 [k] P = P k := rfl
theorem is2_mk {k l : V} {P : V → V → Prop} : is2 [k, l] P = P k l := rfl
theorem isBl_iff {x : V} {P : Bool → Prop} : isBl x P = ∃ k, x = .bl k ∧ P k := propext (by cases x <;> simp [isBl])
theorem isInt_iff {x : V} {P : Int → Prop} : isInt x P = ∃ k, x = .int k ∧ P k := propext (by cases x <;> simp [isInt])
theorem isRef_iff {x : V} {P : Addr → Prop} : isRef x P = ∃ k, x = .ref k ∧ P k := propext (by cases x <;> simp [isRef])
theorem isVar_iff {x : Option (Option V)} {P : V → Prop} : isVar x P = ∃ k, x = some (some k) ∧ P k := propext (by rcases x with _ | _ | v <;> simp [isVar])
theorem is1_iff {x : List V} {P : V → Prop} : is1 x P = ∃ k, x = [k] ∧ P k := propext (by rcases x with _ | ⟨v, _ | ⟨u, r⟩⟩ <;> simp [is1])
theorem is2_iff {x : List V} {P : V → V → Prop} : is2 x P = ∃ k l, x = [k, l] ∧ P k l := propext ⟨fun h => match x, h with | [v, u], h => ⟨v, u, rfl, h⟩, fun ⟨k, l, e, h⟩ => by subst e; exact h⟩
theorem ex2 {α β : Sort _} {A : α → Prop} {B : β → Prop} {C : α → β → Prop} : (∃ i j, A i ∧ B j ∧ C i j) = ∃ i, A i ∧ ∃ j, B j ∧ C i j := propext ⟨fun ⟨i, j, a, b, c⟩ => ⟨i, a, j, b, c⟩, fun ⟨i, a, j, b, c⟩ => ⟨i, j, a, b, c⟩⟩
def mVar (i : Nat) : TE := fun σ H Q => isVar σ[i]? fun v => Q v H
theorem tVar_m {i : Nat} : tVar i = mVar i := by funext σ H Q; exact isVar_iff.symm
def mTest (t : TE) : TT := fun σ H Q => t σ H fun x H' => isBl x fun k => Q k H'
theorem tTest_m {t : TE} : tTest t = mTest t := by
  funext σ H Q
  unfold tTest mTest
  congr 1
  funext x H'
  exact isBl_iff.symm
theorem tB_m {t : TE} : tB t = mTest t := tTest_m
def mAndV (ta tb : TE) : TE := fun σ H Q => ta σ H fun x H1 => isBl x fun c => if c = true then tb σ H1 Q else Q (.bl false) H1
theorem tAndV_m {ta tb : TE} : tAndV ta tb = mAndV ta tb := by
  funext σ H Q
  unfold tAndV mAndV
  congr 1
  funext x H'
  exact isBl_iff.symm
def mOrV (ta tb : TE) : TE := fun σ H Q => ta σ H fun x H1 => isBl x fun c => if c = true then Q (.bl true) H1 else tb σ H1 Q
theorem tOrV_m {ta tb : TE} : tOrV ta tb = mOrV ta tb := by
  funext σ H Q
  unfold tOrV mOrV
  congr 1
  funext x H'
  exact isBl_iff.symm
def mNotV (ta : TE) : TE := fun σ H Q => ta σ H fun x H1 => isBl x fun c => Q (.bl (!c)) H1
theorem tNotV_m {ta : TE} : tNotV ta = mNotV ta := by
  funext σ H Q
  unfold tNotV mNotV
  congr 1
  funext x H'
  exact isBl_iff.symm
def mI (C : Int → Int → Prop) (g : Int → Int → V) : R2 := fun x y H Q => isInt x fun i => isInt y fun j => C i j ∧ Q (g i j) H
theorem rI_m {C : Int → Int → Prop} {g : Int → Int → V} : rI C g = mI C g := by
  funext x y H Q
  unfold rI mI
  rw [isInt_iff]
  simp only [isInt_iff]
  exact ex2
def mI0 (g : Int → Int → V) : R2 := fun x y H Q => isInt x fun i => isInt y fun j => Q (g i j) H
theorem rI0_m {g : Int → Int → V} : rI0 g = mI0 g := by
  funext x y H Q
  unfold rI0 mI0
  simp only [isInt_iff]
  exact ex2
def mU (g : Int → V) : V → Hp → VK → Prop := fun x H Q => isInt x fun i => Q (g i) H
theorem rU_m {g : Int → V} : rU g = mU g := by
  funext x H Q
  exact isInt_iff.symm
theorem scal_int {i j : Int} : scal (.int i) (.int j) = true := rfl
theorem scal_bl {i j : Bool} : scal (.bl i) (.bl j) = true := rfl
def mEq : R2 := fun x y H Q => match x, y with | .int i, .int j => Q (.bl (decide (i = j))) H | _, _ => rEq x y H Q
theorem mEq_int {i j : Int} {H : Hp} {Q : VK} : mEq (.int i) (.int j) H Q = Q (.bl (decide (i = j))) H := rfl
theorem rEq_m : rEq = mEq := by
  funext x y H Q
  unfold mEq
  split
  · unfold rEq
    show (scal _ _ = true ∧ _) = _
    simp only [scal_int, V.int.injEq, true_and]
  · rfl
theorem mEq_iff {x y : V} {H : Hp} {Q : VK} : mEq x y H Q = rEq x y H Q := by rw [rEq_m]
def mNe : R2 := fun x y H Q => match x, y with | .int i, .int j => Q (.bl (!decide (i = j))) H | _, _ => rNe x y H Q
theorem mNe_int {i j : Int} {H : Hp} {Q : VK} : mNe (.int i) (.int j) H Q = Q (.bl (!decide (i = j))) H := rfl
theorem rNe_m : rNe = mNe := by
  funext x y H Q
  unfold mNe
  split
  · unfold rNe
    show (scal _ _ = true ∧ _) = _
    simp only [scal_int, V.int.injEq, true_and]
  · rfl
theorem mNe_iff {x y : V} {H : Hp} {Q : VK} : mNe x y H Q = rNe x y H Q := by rw [rNe_m]
section
variable {K : PySem.W.Frag}
def mIxH (K : PySem.W.Frag) : R2 := fun x y H Q => isRef x fun p => isInt y fun i => ∃ xs, vw K H p = some (.lst xs) ∧ ∃ v, atI xs i = some v ∧ Q v H
theorem rIxH_m : rIxH K = mIxH K := by
  funext x y H Q
  unfold rIxH mIxH
  simp only [isInt_iff, isRef_iff]
  exact ex2
def mIxU (K : PySem.W.Frag) : R2 := fun x y H Q => isRef x fun p => isInt y fun i => ∃ xs, vw K H p = some (.tup xs) ∧ ∃ v, atI xs i = some v ∧ Q v H
theorem rIxU_m : rIxU K = mIxU K := by
  funext x y H Q
  unfold rIxU mIxU
  simp only [isInt_iff, isRef_iff]
  exact ex2
def mEqD (K : PySem.W.Frag) (neg : Bool) : R2 := fun x y H Q => ∃ d, Rep (vw K H) d x ∧ ∃ e, Rep (vw K H) e y ∧ d.cmp ∧ e.cmp ∧ Q (.bl (cond neg (!peq d e) (peq d e))) H
theorem rEqD_m {neg : Bool} : rEqD K neg = mEqD K neg := by
  funext x y H Q
  unfold rEqD mEqD
  cases neg <;> exact ex2
def mNil (K : PySem.W.Frag) (neg : Bool) : R2 := fun x y H Q => isRef x fun p => isRef y fun q => ∃ xs, vw K H p = some (.lst xs) ∧ vw K H q = some (.lst []) ∧ Q (.bl (cond neg (!xs.isEmpty) xs.isEmpty)) H
theorem rNil_m {neg : Bool} : rNil K neg = mNil K neg := by
  funext x y H Q
  unfold rNil mNil
  simp only [isRef_iff]
  cases neg <;> exact ex2
def mPart (t : TE) : TO := fun σ H Q => t σ H fun x H1 => isInt x fun i => Q (some i) H1
theorem tPart_m {t : TE} : tPart t = mPart t := by
  funext σ H Q
  unfold tPart mPart
  congr 1
  funext x H'
  exact isInt_iff.symm
def mSlS (K : PySem.W.Frag) : V → Option Int → Option Int → Hp → VK → Prop := fun x lo hi H Q => isRef x fun a => ∃ xs, vw K H a = some (.lst xs) ∧ Nw K H (.lst (cutV xs lo hi)) Q
theorem rSlS_m : rSlS K = mSlS K := by
  funext x lo hi H Q
  exact isRef_iff.symm
def mAppS (K : PySem.W.Frag) : V → List V → Hp → VK → Prop := fun x vs H Q => isRef x fun l => is1 vs fun y => ∃ xs, vw K H l = some (.lst xs) ∧ xs.length < sizeLine ∧ Chg K H l (.lst (xs ++ [y])) (Q .non)
theorem rAppS_m : rAppS K = mAppS K := by
  funext x y H Q
  unfold rAppS mAppS
  simp only [isRef_iff, is1_iff]
  exact ex2
def mSetS (K : PySem.W.Frag) : V → V → V → Hp → (Hp → Prop) → Prop := fun o i v H Q => isRef o fun p => isInt i fun k => ∃ xs, vw K H p = some (.lst xs) ∧ ∃ j, ixN xs.length k = some j ∧ Chg K H p (.lst (xs.set j v)) Q
theorem rSetS_m : rSetS K = mSetS K := by
  funext x y v H Q
  unfold rSetS mSetS
  simp only [isRef_iff, isInt_iff]
  exact ex2
def mPar (i j : Nat) (ta : TA) : TS := fun D σ H => ta σ H fun vs H1 => is2 vs fun v w => D.nx ((σ.set i (some v)).set j (some w)) H1
theorem tPar_m {i j : Nat} {ta : TA} : tPar i j ta = mPar i j ta := by
  funext D σ H
  unfold tPar mPar
  congr 1
  funext x H'
  exact is2_iff.symm
def mAug (i : Nat) (te : TE) (ti : TIp) : TS := fun D σ H => isVar σ[i]? fun x => te σ H fun y H1 => ti x y H1 fun z H2 => D.nx (σ.set i (some z)) H2
theorem tAug_m {i : Nat} {te : TE} {ti : TIp} : tAug i te ti = mAug i te ti := by
  funext D σ H
  exact isVar_iff.symm
def mList (K : PySem.W.Frag) (tl : TE) : TI := fun σ H R => tl σ H fun x H1 => isRef x fun a => (∃ xs, SqL K H1 a xs) ∧ R (Itl K a) H1
theorem iList_m {tl : TE} : iList K tl = mList K tl := by
  funext σ H R
  unfold iList mList
  congr 1
  funext x H'
  exact isRef_iff.symm
def mRng1 (ta : TA) : TI := fun σ H R => ta σ H fun vs H1 => is1 vs fun x => isInt x fun j => -(2 ^ 62) ≤ j ∧ j < 2 ^ 62 ∧ R (Itr 0 j.toNat) H1
theorem iRng1_m {ta : TA} : iRng1 ta = mRng1 ta := by
  funext σ H R
  unfold iRng1 mRng1
  congr 1
  funext x H'
  simp only [is1_iff, isInt_iff]
  exact propext ⟨fun ⟨j, a, b⟩ => ⟨_, a, j, rfl, b⟩, fun ⟨_, a, j, e, b⟩ => ⟨j, by rw [a, e], b⟩⟩
def mPlus (K : PySem.W.Frag) : R2 := fun x y H Q => match x, y with
  | .int i, .int j => Q (.int (i + j)) H
  | .ref l, .ref b => ∃ xs, vw K H l = some (.lst xs) ∧ ∃ zs, vw K H b = some (.lst zs) ∧ xs.length + zs.length ≤ sizeLine ∧ Nw K H (.lst (xs ++ zs)) Q
  | _, _ => rPlus K x y H Q
theorem mPlus_int {i j : Int} {H : Hp} {Q : VK} : mPlus K (.int i) (.int j) H Q = Q (.int (i + j)) H := rfl
theorem mPlus_cat {l b : Addr} {H : Hp} {Q : VK} : mPlus K (.ref l) (.ref b) H Q = ∃ xs, vw K H l = some (.lst xs) ∧ ∃ zs, vw K H b = some (.lst zs) ∧ xs.length + zs.length ≤ sizeLine ∧ Nw K H (.lst (xs ++ zs)) Q := rfl
theorem rPlus_m : rPlus K = mPlus K := by
  funext x y H Q
  unfold mPlus
  split
  · exact rPlus_int
  · exact rPlus_cat
  · rfl
theorem mPlus_iff {x y : V} {H : Hp} {Q : VK} : mPlus K x y H Q = rPlus K x y H Q := by rw [rPlus_m]
def mMul (K : PySem.W.Frag) : R2 := fun x y H Q => match x, y with
  | .int i, .int j => IntMulOk i j ∧ Q (.int (i * j)) H
  | _, _ => rMul K x y H Q
theorem mMul_int {i j : Int} {H : Hp} {Q : VK} : mMul K (.int i) (.int j) H Q = (IntMulOk i j ∧ Q (.int (i * j)) H) := rfl
theorem rMul_m : rMul K = mMul K := by
  funext x y H Q
  unfold mMul
  split
  · exact rMul_int
  · rfl
theorem mMul_iff {x y : V} {H : Hp} {Q : VK} : mMul K x y H Q = rMul K x y H Q := by rw [rMul_m]
end
def mCR (P : Addr → Hp → VK → Prop) (t : TA) : TE := fun σ H Q => t σ H fun vs H1 => is1 vs fun x => isRef x fun p => P p H1 Q
theorem tCB_r {P : Addr → Hp → VK → Prop} {t : TA} : tCB (fun xs H Q => ∃ p, xs = [.ref p] ∧ P p H Q) t = mCR P t := by
  funext σ H Q
  unfold tCB mCR
  congr 1
  funext x H'
  simp only [is1_iff, isRef_iff]
  exact propext ⟨fun ⟨j, a, b⟩ => ⟨_, a, j, rfl, b⟩, fun ⟨_, a, j, e, b⟩ => ⟨j, by rw [a, e], b⟩⟩
def mCI (P : Int → Int → Hp → VK → Prop) (t : TA) : TE := fun σ H Q => t σ H fun vs H1 => is2 vs fun x y => isInt x fun i => isInt y fun j => P i j H1 Q
theorem tCB_i {P : Int → Int → Hp → VK → Prop} {t : TA} : tCB (fun xs H Q => ∃ i j, xs = [.int i, .int j] ∧ P i j H Q) t = mCI P t := by
  funext σ H Q
  unfold tCB mCI
  congr 1
  funext x H'
  simp only [is2_iff, isInt_iff]
  exact propext ⟨fun ⟨i, j, a, b⟩ => ⟨_, _, a, i, rfl, j, rfl, b⟩, fun ⟨_, _, a, i, e, j, e', b⟩ => ⟨i, j, by rw [a, e, e'], b⟩⟩
end L2
namespace L2
open PySem
theorem binds1 {α : Sort _} {g z : List Value → α} (us : List Value) (hl : us.length = 1) (h : ∀ a0, g [a0] = z [a0]) : g us = z us := by
  rcases us with _ | ⟨a0, _ | ⟨b, r⟩⟩
  all_goals first | exact h _ | (simp at hl; done)
theorem binds2 {α : Sort _} {g z : List Value → α} (us : List Value) (hl : us.length = 2) (h : ∀ a0 a1, g [a0, a1] = z [a0, a1]) : g us = z us := by
  rcases us with _ | ⟨a0, _ | ⟨a1, _ | ⟨b, r⟩⟩⟩
  all_goals first | exact h _ _ | (simp at hl; done)
theorem binds3 {α : Sort _} {g z : List Value → α} (us : List Value) (hl : us.length = 3) (h : ∀ a0 a1 a2, g [a0, a1, a2] = z [a0, a1, a2]) : g us = z us := by
  rcases us with _ | ⟨a0, _ | ⟨a1, _ | ⟨a2, _ | ⟨b, r⟩⟩⟩⟩
  all_goals first | exact h _ _ _ | (simp at hl; done)
theorem binds4 {α : Sort _} {g z : List Value → α} (us : List Value) (hl : us.length = 4) (h : ∀ a0 a1 a2 a3, g [a0, a1, a2, a3] = z [a0, a1, a2, a3]) : g us = z us := by
  rcases us with _ | ⟨a0, _ | ⟨a1, _ | ⟨a2, _ | ⟨a3, _ | ⟨b, r⟩⟩⟩⟩⟩
  all_goals first | exact h _ _ _ _ | (simp at hl; done)
end L2

set_option Elab.async false
set_option linter.all false
set_option maxRecDepth 100000
namespace L2
open PySem PySem.Spec PyProof.Rows
structure LamV (P : Program) (w : World) (K : PySem.W.Frag) (mg : Str → Option Value) (base : Heap) (k : Nat) (p c' : Addr) (qual : Str) (tl : TE) (σl : St) (s : Shared) (H : Hp) (outer : List Env) : Prop where
  fn : ∃ oc od fd sl, s.heap.get? p = some ⟨oc, od, .func fd, sl⟩
  free : H p = none
  nof : p ∉ frs outer
  run : ∀ (A' : Around) (outer' : List Env) (s' : Shared) (H' : Hp) (Q : VK), Room k A' → Env0 P w K mg base A' outer' s' H' → (∀ b o, s.heap.get? b = some o → H b = none → b ∉ frs outer → s'.heap.get? b = some o ∧ H' b = none) → H' c' = some (CodeO c' qual) → tl σl H' Q →
    codeAny (model P w) A' (.call (.ref p) ⟨[], []⟩) (CR CX0 outer' P w H' s' Q E0) s'
def tLamV (K : PySem.W.Frag) (i : Nat) (p c' : Addr) (qual : Str) (tl : TE) (σl : St) : TE := fun σ H Q => isVar σ[i]? fun v => v = .ref p ∧ vw K H c' = some (CodeO c' qual) ∧ tl σl H Q
theorem pe_lamV {X : Cx} {k i : Nat} {x : Str} {p c' : Addr} {qual : Str} {tl : TE} {σl : St} {p1 p2 : Pos} (hx0 : X.ex = []) (L : LamV X.prog X.w X.K X.mg X.base k p c' qual tl σl X.s₀ X.H₀ X.outer) (hr : Room k X.A) (hi : X.N[i]? = some x) (hv : Vis X.env.scope x)
    (hd : (x == ("__debug__" : Str)) = false := by decide) (hcd : (x == ("__classdict__" : Str)) = false := by decide) : PE X (.Call (.Name x p1) [] [] p2) (tLamV X.K i p c' qual tl σl) := by
  intro pins s σ H Q I h
  unfold tLamV at h
  rw [isVar_iff] at h
  obtain ⟨_, hσ, rfl, hc, ht⟩ := h
  have nx : ∀ b, b ∉ X.ex := fun b z => by rw [hx0] at z; exact absurd z (by simp)
  refine wpAny_Call_Name_kw ?_
  refine thn (pe_var (X := X) hi hv hd hcd pins s σ H (fun v H1 => v = .ref p ∧ H1 = H) I ⟨.ref p, hσ, rfl, rfl⟩) (fun u s1 z => ?_)
  obtain ⟨v, H1, I1, r, rfl, rfl⟩ := z
  cases r
  have keep : ∀ b o, X.s₀.heap.get? b = some o → X.H₀ b = none → b ∉ frs X.outer → s1.heap.get? b = some o ∧ H1 b = none := fun b o e n nf => ⟨I1.base.keep b o e n nf (nx b), I1.base.free b o e n (nx b)⟩
  obtain ⟨oc, od, fd, sl, hfn⟩ := L.fn
  refine PySem.W.callWith_F0 ⟨oc, od, fd, sl, (keep _ _ hfn L.free L.nof).1⟩ ?_
  refine wpAny_call (codeAny_mono (L.run X.A X.stack s1 H1 Q hr I1.env0 keep (vw_get hc (fun _ z => by cases z)) ht) fun r s' hq => ?_)
  cases r with
  | error e => exact False.elim hq
  | ok fl =>
    cases fl with
    | ret u => exact I1.after hq
    | next => exact False.elim hq
    | brk => exact False.elim hq
    | cont => exact False.elim hq
abbrev LSp := Addr → Str → TE → St → List V → Hp → VK → Prop
structure WithLam (P : Program) (w : World) (K : PySem.W.Frag) (mg : Str → Option Value) (base : Heap) (x : Str) (kl : Nat) (sp : LSp) : Prop where
  ex : ∃ f, mg x = some (.ref f) ∧ PySem.W.keepIn K (.ref f) = true ∧ ∀ (A : Around) (outer : List Env) (s : Shared) (H : Hp) (p c' : Addr) (qual : Str) (tl : TE) (σl : St) (us : List Value) (vs : List V) (Q : VK), Room (kl + 1) A → Env0 P w K mg base A outer s H →
    LamV P w K mg base kl p c' qual tl σl s H outer → vw K H c' = some (CodeO c' qual) → Vals vs us → sp c' qual tl σl vs H Q → codeAny (model P w) A (.call (.ref f) ⟨.ref p :: us, []⟩) (CR CX0 outer P w H s Q E0) s
end L2

set_option Elab.async false
set_option linter.all false
set_option maxRecDepth 100000
namespace L2
open PySem PySem.Spec PyProof.Rows
section
variable {X : Cx}
theorem qe_lamV {k i : Nat} {x : Str} {p c' : Addr} {qual : Str} {tl : TE} {σl : St} {p1 p2 : Pos} (hx0 : X.ex = []) (L : LamV X.prog X.w X.K X.mg X.base k p c' qual tl σl X.s₀ X.H₀ X.outer) (hr : Room k X.A) (hi : X.N[i]? = some x) (hv : Vis X.env.scope x)
    (hd : (x == ("__debug__" : Str)) = false := by decide) (hcd : (x == ("__classdict__" : Str)) = false := by decide) : QE X (.Call (.Name x p1) [] [] p2) (tLamV X.K i p c' qual tl σl) := ⟨pe_lamV hx0 L hr hi hv hd hcd⟩
end
end L2

set_option Elab.async false
set_option linter.all false
set_option maxRecDepth 100000
namespace L2
open PySem PySem.Spec PyProof.Rows
def ch : Nat → Nat → Nat
  | _, 0 => 1
  | 0, _ + 1 => 0
  | n + 1, k + 1 => ch n k + ch n (k + 1)
end L2

set_option Elab.async false
set_option linter.all false
set_option maxRecDepth 100000
namespace L2
open PySem PySem.Spec PyProof.Rows
end L2
namespace L2
open PySem PySem.Spec PyProof.Rows
section
variable {X : Cx}
end
end L2
namespace L2
end L2

set_option Elab.async false
set_option linter.all false
set_option maxRecDepth 100000
namespace L2
open PySem PySem.Spec PyProof.Rows
section
variable {P : Program} {w : World} {K : PySem.W.Frag} {mg : Str → Option Value} {base : Heap}
end
end L2
namespace L2
open PySem PySem.Spec PyProof.Rows
end L2

set_option Elab.async false
set_option linter.all false
set_option maxRecDepth 100000
namespace L2
open PySem PySem.Spec PyProof.Rows
end L2

set_option Elab.async false
set_option linter.all false
set_option maxRecDepth 100000
namespace L2
open PySem PySem.Spec PyProof.Rows
def cutH (p : Addr) (H : Hp) : Hp := fun b => if b = p then none else H b
theorem cutH_some {p b : Addr} {H : Hp} {o : HO} (h : cutH p H b = some o) : b ≠ p ∧ H b = some o := by
  unfold cutH at h
  split at h
  · cases h
  · exact ⟨by assumption, h⟩
theorem cutH_none {p b : Addr} {H : Hp} (h : H b = none) : cutH p H b = none := by
  unfold cutH
  split
  · rfl
  · exact h
def LamO (p c' : Addr) (qual : Str) (params : Arguments) (body : Expr) (scope : Scope) (cells : List (Str × Addr)) : HO :=
  .ext fun h => ∃ (clos : List (Str × Addr)) (pm ctv : Value), h.get? p = some (PySem.W.kla_obj "<lambda>" qual params body scope clos pm c' ctv) ∧ (∀ x ∈ clos, cells.lookup x.1 = some x.2) ∧ ∀ q ∈ scope.names, q.2 = .free → ∃ c, (q.1, c) ∈ clos
theorem LamO.ok {P : Program} {w : World} {H : Hp} {h : Heap} {p c' : Addr} {qual : Str} {params : Arguments} {body : Expr} {scope : Scope} {cells clos : List (Str × Addr)} {pm ctv : Value} (hp : h.get? p = some (PySem.W.kla_obj "<lambda>" qual params body scope clos pm c' ctv)) (h1 : ∀ x ∈ clos, cells.lookup x.1 = some x.2) (h2 : ∀ q ∈ scope.names, q.2 = .free → ∃ c, (q.1, c) ∈ clos) :
    ObjOk P w H h p (LamO p c' qual params body scope cells) :=
  ⟨⟨clos, pm, ctv, hp, h1, h2⟩, ⟨_, hp⟩, fun _ _ ⟨clos, pm, ctv, a, b, c⟩ k => ⟨clos, pm, ctv, k _ a, b, c⟩⟩
theorem Inv.known {X : Cx} {pins : List (Addr × Obj)} {σ : St} {H0 H : Hp} {s0 s : Shared} {p : Addr} {φ : Heap → Prop} (I0 : Inv X pins σ H0 s0) (I : Inv X pins σ H s) (hps : s0.heap.objs.size ≤ p) (hn : H p = none) (ho : ObjOk X.prog X.w (upd H p (.ext φ)) s.heap p (.ext φ)) : Inv X pins σ (upd H p (.ext φ)) s := by
  have old : ∀ b o, s0.heap.get? b = some o → b ≠ p := fun b o e z => by rw [z] at e; exact absurd (Nat.lt_of_lt_of_le (Heap.lt_size e) hps) (Nat.lt_irrefl _)
  have up : ∀ b u, H b = some u → upd H p (.ext φ) b = some u := fun b u e => by rw [upd_ne (ne_of_none e hn)]; exact e
  refine ⟨I.ok, I.os, I.bare, ⟨I.base.keep, I.base.slot, fun b o e n x => ?_, I.base.there, fun b xs e => up _ _ (I.base.tups b xs e), fun b o u e => up _ _ (I.base.frzs b o u e), fun b ps e => ?_⟩, I.loc, I.cell, ?_, fun x c e => ?_, fun q hq => ?_, fun a o e => ?_, I.len⟩
  · obtain ⟨o', e'⟩ := I0.base.there b o e x
    rw [upd_ne (old _ _ e')]
    exact I.base.free b o e n x
  · obtain ⟨more, e'⟩ := I.base.tbls b ps e
    exact ⟨more, up _ _ e'⟩
  · have nl : X.env.locals ≠ p := fun z => absurd (Nat.lt_of_lt_of_le I0.lt (z ▸ hps)) (Nat.lt_irrefl _)
    rw [upd_ne nl]
    exact I.free
  · obtain ⟨v, o, e', _⟩ := I0.cell x c e
    rw [upd_ne (old _ _ e')]
    exact I.freeC x c e
  · obtain ⟨a1, a2, a3⟩ := I.pin q hq
    rw [upd_ne (old _ _ (I0.pin q hq).1)]
    exact ⟨a1, a2, a3⟩
  · by_cases z : a = p
    · subst z
      rw [upd_same] at e
      cases e
      exact ho
    · rw [upd_ne z] at e
      exact (I.hok a o e).stay (fun b u _ q => q) (fun b q => up _ _ q) fun b xs q => up _ _ q
theorem Inv.forget {X : Cx} {pins : List (Addr × Obj)} {σ : St} {H : Hp} {s : Shared} {p : Addr} {φ : Heap → Prop} (I : Inv X pins σ H s) (hp : H p = some (.ext φ)) : Inv X pins σ (cutH p H) s := by
  have up : ∀ b u, H b = some u → (∀ ψ, u ≠ .ext ψ) → cutH p H b = some u := fun b u e n => by
    unfold cutH
    rw [if_neg (fun z => by rw [z, hp] at e; cases e; exact n _ rfl)]
    exact e
  refine ⟨I.ok, I.os, I.bare, ⟨I.base.keep, I.base.slot, fun b o e n x => cutH_none (I.base.free b o e n x), I.base.there, fun b xs e => up _ _ (I.base.tups b xs e) (fun _ z => by cases z), fun b o u e => up _ _ (I.base.frzs b o u e) (fun _ z => by cases z), fun b ps e => ?_⟩, I.loc, I.cell, cutH_none I.free, fun x c e => cutH_none (I.freeC x c e), fun q hq => ?_, fun a o e => ?_, I.len⟩
  · obtain ⟨more, e'⟩ := I.base.tbls b ps e
    exact ⟨more, up _ _ e' (fun _ z => by cases z)⟩
  · obtain ⟨a1, a2, a3⟩ := I.pin q hq
    exact ⟨a1, cutH_none a2, a3⟩
  · obtain ⟨hne, e'⟩ := cutH_some e
    exact (I.hok a o e').stay (fun b u _ q => q) (fun b q => up _ _ q (fun _ z => by cases z)) fun b xs q => up _ _ q (fun _ z => by cases z)
def tLam (K : PySem.W.Frag) (P : Addr) (qual : Str) (params : Arguments) (body : Expr) (scope : Scope) (cells : List (Str × Addr)) : TE := fun σ H Q => TabOk (vw K H) P qual ∧ ∀ H1 (p c' : Addr), But P (vw K H) (vw K H1) → TabOk (vw K H1) P qual → vw K H p = none → vw K H1 p = some (LamO p c' qual params body scope cells) → vw K H1 c' = some (CodeO c' qual) → Q (.ref p) H1
theorem qe_lam {X : Cx} {params : Arguments} {body : Expr} {scope : Scope} {c P : Addr} {lpos : Pos} (M : Maker X c P) (hdef : defaultsOf params X.env = ([], [])) (hfree : ∀ q ∈ scope.names, q.2 = .free → X.env.kindOf q.1 = some .cell) :
    QE X (.Lambda params body scope lpos) (tLam X.K P (lamQ X) params body scope X.env.cells) := ⟨by
  intro pins s σ H Q I h
  obtain ⟨hT, h⟩ := h
  refine lam_eval M hdef I (TabOk.raw hT) hfree fun p c' pm ctv clos H1 s1 hc1 hc2 I1 B1 T1 hp hpn hps hco => ?_
  have I2 : Inv X pins σ (upd H1 p (LamO p c' (lamQ X) params body scope X.env.cells)) s1 := I.known I1 hps hpn (LamO.ok hp hc1 hc2)
  have kp : X.K.lookup p = none := I2.noK upd_same
  have S : Same H1 (upd H1 p (LamO p c' (lamQ X) params body scope X.env.cells)) := fun b o e => by rw [upd_ne (ne_of_none e hpn)]; exact e
  exact ⟨.ref p, _, I2, rfl, h _ p c' (vw_but (B1.same_trans S)) (I2.tabV (T1.same S)) (by rw [vw_new kp]; exact I.hok.fresh hps) (by rw [vw_new kp, upd_same]) (I2.vwT (S _ _ hco))⟩⟩
end L2

set_option Elab.async false
set_option linter.all false
set_option maxRecDepth 100000
namespace L2
open PySem PySem.Spec PyProof.Rows
structure LamS (P : Program) (w : World) (K : PySem.W.Frag) (mg : Str → Option Value) (base : Heap) (k : Nat) (p c' : Addr) (qual : Str) (tl : TE) (σl : St) (S : List Addr) (s : Shared) : Prop where
  fn : ∃ oc od fd sl, s.heap.get? p = some ⟨oc, od, .func fd, sl⟩
  mem : p ∈ S
  run : ∀ (A' : Around) (outer' : List Env) (s' : Shared) (H' : Hp) (Q : VK), Room k A' → Env0 P w K mg base A' outer' s' H' → (∀ b ∈ S, ∀ o, s.heap.get? b = some o → s'.heap.get? b = some o ∧ H' b = none) → H' c' = some (CodeO c' qual) → tl σl H' Q →
    codeAny (model P w) A' (.call (.ref p) ⟨[], []⟩) (CR CX0 outer' P w H' s' Q E0) s'
theorem LamS.toV {P : Program} {w : World} {K : PySem.W.Frag} {mg : Str → Option Value} {base : Heap} {k : Nat} {p c' : Addr} {qual : Str} {tl : TE} {σl : St} {S : List Addr} {s s2 : Shared} {H2 : Hp} {outer2 : List Env} (L : LamS P w K mg base k p c' qual tl σl S s)
    (h : ∀ b ∈ S, ∀ o, s.heap.get? b = some o → s2.heap.get? b = some o ∧ H2 b = none ∧ b ∉ frs outer2) : LamV P w K mg base k p c' qual tl σl s2 H2 outer2 := by
  obtain ⟨oc, od, fd, sl, e⟩ := L.fn
  have z := h p L.mem _ e
  exact ⟨⟨oc, od, fd, sl, z.1⟩, z.2.1, z.2.2, fun A' outer' s' H' Q hr e0 keep hc ht => L.run A' outer' s' H' Q hr e0 (fun b hb o e => keep b o (h b hb o e).1 (h b hb o e).2.1 (h b hb o e).2.2) hc ht⟩
theorem lamS_ok {X : Cx} {pins : List (Addr × Obj)} {σ σl : St} {H : Hp} {s : Shared} {params : Arguments} {body : Expr} {scope : Scope} {qual : Str} {p c' : Addr} {pm ctv : Value} {clos : List (Str × Addr)} {Nl : List Str} {k : Nat} {tl : TE}
    (I : Inv X pins σ H s) (hc1 : ∀ x ∈ clos, X.env.cells.lookup x.1 = some x.2) (hc2 : ∀ q ∈ scope.names, q.2 = .free → ∃ c, (q.1, c) ∈ clos)
    (hp : s.heap.get? p = some (PySem.W.kla_obj "<lambda>" qual params body scope clos pm c' ctv))
    (hk : scope.kind = .function) (hnc : ∀ q ∈ scope.names, q.2 ≠ .cell) (hsc : scope.isCoroutine = false ∧ scope.isGenerator = false) (hbind : bindArgs (PySem.W.kla_fn "<lambda>" qual params body scope clos pm (.ref c') ctv) ⟨[], []⟩ = pure [])
    (hN : ∀ (i : Nat) (x : Str) (v : V), Nl[i]? = some x → σl[i]? = some (some v) → scope.names.lookup x = some .free ∧ X.env.kindOf x = some .cell ∧ ∃ j : Nat, X.N[j]? = some x ∧ σ[j]? = some (some v)) (hlen : σl.length = Nl.length)
    (hb : ∀ (A' : Around) (outer' : List Env) (s' : Shared) (H' : Hp), Room k (A'.deeper (PySem.W.envX qual scope s'.heap.objs.size p (.ref c') clos)) → PE (lamCx X.prog X.w X.K X.mg X.base Nl qual scope p (.ref c') clos A' outer' s' H') body tl) : LamS X.prog X.w X.K X.mg X.base (k + 1) p c' qual tl σl (p :: clos.map (·.2)) s := by
  have cells : ∀ x c, clos.lookup x = some c → X.env.cells.lookup x = some c := fun x c h => hc1 _ (mem_of_lookup' h)
  refine ⟨⟨_, _, _, _, hp⟩, List.mem_cons_self, fun A' outer' s' H' Q hr e0 keep hco ht => ?_⟩
  have KX : X.K.In s'.heap := e0.mod.kin.keeps fun b o e => (e0.bs b o e).1
  have lim : s'.heap.NoLimit := e0.mod.nolimit.keeps fun b o e => (e0.bs b o e).1
  have hrec : s'.heap.CodeRec (.ref c') qual := (e0.hok c' _ hco).1
  have cellAt : ∀ x c v, clos.lookup x = some c → s.heap.IsCell c v → s'.heap.IsCell c v ∧ H' c = none := fun x c v e ⟨o, ho, hd⟩ => by
    have z := keep c (List.mem_cons_of_mem _ (List.mem_map.mpr ⟨(x, c), mem_of_lookup' e, rfl⟩)) o ho
    exact ⟨⟨o, z.1, hd⟩, z.2⟩
  refine PySem.W.kla_callFunE hr.depth (keep p List.mem_cons_self _ hp).1 rfl hsc.1 hsc.2 rfl hrec ?_
  rw [hbind]
  refine wpAny_pure (wpAny_newFunctionEnv hnc (fun y hy => absurd hy (by simp)) (fun h1 hns hsb => ⟨lim.fresh _ hsb, ?_⟩) hk)
  show codeAny _ _ (.expr body (PySem.W.envX qual scope s'.heap.objs.size p (.ref c') clos)) _ _
  have kp : ∀ b o, s'.heap.get? b = some o → h1.get? b = some o := fun b o e => hsb.extBut b o (Nat.ne_of_lt (Heap.lt_size e)) (Heap.get?_push_of_some _ e)
  have J : Inv (lamCx X.prog X.w X.K X.mg X.base Nl qual scope p (.ref c') clos A' outer' s' H') [] σl H' { s' with heap := h1, toks := s'.toks + ([] : List (Str × Value)).length } := by
    refine inv_lam (g := fun x => X.env.cells.lookup x) hk hr.hd e0 hc1 (fun x y c h1 h2 => I.ok.inj x y c h1 h2) hc2 hnc (by simpa using hns) kp (fun x c e => ?_) (fun i x v e1 e2 => ?_) hlen
    · obtain ⟨v, z⟩ := I.cell x c (cells x c e)
      have w := cellAt x c v e z
      exact ⟨w.2, v, w.1⟩
    · obtain ⟨f1, f2, j, f3, f4⟩ := hN i x v e1 e2
      obtain ⟨m, hn, hl⟩ := I.loc
      obtain ⟨u, r, l⟩ := hl j x v f3 f4 (.inr (.inl f2))
      refine ⟨f1, u, ?_⟩
      rcases l with ⟨z, _⟩ | ⟨_, c, hc, hz⟩
      · rw [f2] at z; cases z
      · obtain ⟨c2, hm⟩ := hc2 _ (PySem.mem_of_lookup f1) rfl
        have l2 := lookup_of_mem (f := fun x => X.env.cells.lookup x) hc1 hm
        have e3 := cells _ _ l2
        rw [hc] at e3
        cases e3
        exact ⟨c, r, l2, (cellAt x c _ l2 hz).1⟩
  refine PySem.W.kla_codeExpr (wpAny_mono ((hb A' outer' s' H' (hr.deeper _)) [] _ σl H' Q J ht) (fun u s2 z => ?_) fun ev s2 z => z.elim)
  obtain ⟨v, H2, J2, rv, q⟩ := z
  exact ⟨v, H2, J2.os, J2.bare, J2.base, J2.hok, rv, q⟩
structure LamR where
  p : Addr
  c : Addr
  q : Str
  tl : TE
  σl : St
def tWithV (K : PySem.W.Frag) (R : List LamR) (sp : LSp) (ta : TA) : TE := fun σ H Q => ta σ H fun vs H2 => ∃ r ∈ R, ∃ vs', vs = .ref r.p :: vs' ∧ vw K H2 r.c = some (CodeO r.c r.q) ∧ sp r.c r.q r.tl r.σl vs' H2 Q
def RegOk (X : Cx) (kl : Nat) (R : List LamR) (outer : List Env) (s : Shared) (H : Hp) (ex : List Addr) : Prop := ∀ r ∈ R, ∃ S, LamS X.prog X.w X.K X.mg X.base kl r.p r.c r.q r.tl r.σl S s ∧ ∀ b ∈ S, H b = none ∧ b ∉ frs outer ∧ b ∉ ex
theorem qe_withV {X : Cx} {kl : Nat} {x : Str} {R : List LamR} {sp : LSp} {e : Expr} {es : List Expr} {ta : TA} {p1 pos : Pos} (W : WithLam X.prog X.w X.K X.mg X.base x kl sp) (hL : RegOk X kl R X.outer X.s₀ X.H₀ X.ex) (hr : Room (kl + 1) X.A) (hg : Gl X x)
    (ha : QA X (e :: es) ta) (hdb : (x == ("__debug__" : Str)) = false := by decide) (he : starEach (e :: es) X.env = (false, eval e X.env) :: starEach es X.env := by rfl) (hpl : (backTo pos (starEach es X.env)).any (·.1) = false := by rfl) :
    QE X (.Call (.Name x p1) (e :: es) [] pos) (tWithV X.K R sp ta) := ⟨by
  intro pins s σ H Q I h
  obtain ⟨f, hm, hkp, run⟩ := W.ex
  refine wpAny_Call_Name_kw (ld_glob I hg hm ?_ hdb)
  refine PySem.W.callWith_K (h₀ := X.base) I.ok.mod.kin hkp ?_ he hpl
  refine thn (ha.h pos pins s σ H _ I h) fun us s2 ⟨vs, H2, I2, r2, q2⟩ => ⟨I2.kIn, ?_⟩
  obtain ⟨r, hR, vs', rfl, hc, q⟩ := q2
  obtain ⟨S, L, hS⟩ := hL r hR
  cases r2 with
  | cons r1 rr =>
    cases r1
    have V : LamV X.prog X.w X.K X.mg X.base kl r.p r.c r.q r.tl r.σl s2 H2 X.stack := L.toV fun b hb o e => by
      obtain ⟨z1, z2, z3⟩ := hS b hb
      refine ⟨I2.base.keep b o e z1 z2 z3, I2.base.free b o e z1 z3, fun z => ?_⟩
      rcases List.mem_cons.mp (I2.stkSub b z) with w | w
      · exact absurd (Nat.lt_of_lt_of_le (Heap.lt_size e) (w ▸ I2.ok.above)) (Nat.lt_irrefl _)
      · exact z2 w
    refine wpAny_call (codeAny_mono (run X.A X.stack s2 H2 r.p r.c r.q r.tl r.σl _ vs' Q hr I2.env0 V hc rr q) fun r s' hq => ?_)
    cases r with
    | error e => exact False.elim hq
    | ok fl =>
      cases fl with
      | ret u => exact I2.after hq
      | next => exact False.elim hq
      | brk => exact False.elim hq
      | cont => exact False.elim hq⟩
end L2

set_option Elab.async false
set_option linter.all false
set_option maxRecDepth 100000
namespace L2
open PySem PySem.Spec PyProof.Rows
structure LamK where
  params : Arguments
  body : Expr
  scope : Scope
  Nl : List Str
  ixs : List Nat
  tl : TE
structure KindOk (X : Cx) (kl : Nat) (d : LamK) : Prop where
  hk : d.scope.kind = .function
  hnc : ∀ q ∈ d.scope.names, q.2 ≠ .cell
  hsc : d.scope.isCoroutine = false ∧ d.scope.isGenerator = false
  hbind : ∀ clos pm c' ctv, bindArgs (PySem.W.kla_fn "<lambda>" (lamQ X) d.params d.body d.scope clos pm (.ref c') ctv) ⟨[], []⟩ = pure []
  hfree : ∀ q ∈ d.scope.names, q.2 = .free → X.env.kindOf q.1 = some .cell
  hlen : d.ixs.length = d.Nl.length
  hNl : ∀ (j : Nat) (x : Str), d.Nl[j]? = some x → d.scope.names.lookup x = some .free ∧ ∃ l, d.ixs[j]? = some l ∧ X.N[l]? = some x
  hb : ∀ (p c' : Addr) (clos : List (Str × Addr)) (A' : Around) (outer' : List Env) (s' : Shared) (H' : Hp), Room kl (A'.deeper (PySem.W.envX (lamQ X) d.scope s'.heap.objs.size p (.ref c') clos)) → QE (lamCx X.prog X.w X.K X.mg X.base d.Nl (lamQ X) d.scope p (.ref c') clos A' outer' s' H') d.body d.tl
theorem Inv.holdOne {X : Cx} {pins : List (Addr × Obj)} {σ : St} {H : Hp} {s : Shared} {p c' : Addr} {qual : Str} {params : Arguments} {body : Expr} {scope : Scope} {cells : List (Str × Addr)} (I : Inv X pins σ H s) (hp : H p = some (LamO p c' qual params body scope cells)) :
    ∃ (clos : List (Str × Addr)) (pm ctv : Value), (∀ x ∈ clos, cells.lookup x.1 = some x.2) ∧ (∀ q ∈ scope.names, q.2 = .free → ∃ c, (q.1, c) ∈ clos) ∧ Inv X ((p, PySem.W.kla_obj "<lambda>" qual params body scope clos pm c' ctv) :: pins) σ (cutH p H) s := by
  obtain ⟨⟨clos, pm, ctv, e, h1, h2⟩, _⟩ := I.hok p _ hp
  refine ⟨clos, pm, ctv, h1, h2, ?_⟩
  have J := I.forget hp
  refine ⟨J.ok, J.os, J.bare, J.base, J.loc, J.cell, J.free, J.freeC, fun q hq => ?_, J.hok, J.len⟩
  rcases List.mem_append.mp hq with z | z
  · exact J.pin q (List.mem_append.mpr (.inl z))
  · rcases List.mem_cons.mp z with z | z
    · subst z
      refine ⟨e, ?_, fun z => ?_, fun hb => ?_, fun v z => by cases z⟩
      · unfold cutH
        rw [if_pos rfl]
      · have := I.free
        rw [← z, hp] at this
        cases this
      · obtain ⟨_, o, ho, _⟩ := I.ok.funs.mem hb
        have := I.base.free p o ho (I.ok.frf p hb) (fun hx => I.ok.exfs p hx hb)
        rw [hp] at this
        cases this
    · exact J.pin q (List.mem_append.mpr (.inr z))
def cutL : List Addr → Hp → Hp
  | [], H => H
  | p :: ps, H => cutL ps (cutH p H)
theorem cutH_ne {p b : Addr} {H : Hp} (h : b ≠ p) : cutH p H b = H b := by
  unfold cutH
  rw [if_neg h]
theorem Inv.holdAll {X : Cx} {σ : St} {s : Shared} {qual : Str} {cells : List (Str × Addr)} : ∀ (rs : List (LamK × Addr × Addr)) {pins : List (Addr × Obj)} {H : Hp}, (rs.map (·.2.1)).Nodup → Inv X pins σ H s → (∀ r ∈ rs, H r.2.1 = some (LamO r.2.1 r.2.2 qual r.1.params r.1.body r.1.scope cells)) →
    ∃ pins', Inv X pins' σ (cutL (rs.map (·.2.1)) H) s ∧ (∀ q ∈ pins, q ∈ pins') ∧ ∀ r ∈ rs, ∃ (clos : List (Str × Addr)) (pm ctv : Value), (∀ x ∈ clos, cells.lookup x.1 = some x.2) ∧ (∀ q ∈ r.1.scope.names, q.2 = .free → ∃ c, (q.1, c) ∈ clos) ∧ (r.2.1, PySem.W.kla_obj "<lambda>" qual r.1.params r.1.body r.1.scope clos pm r.2.2 ctv) ∈ pins'
  | [], pins, H, _, I, _ => ⟨pins, I, fun _ z => z, fun r z => by cases z⟩
  | r :: rs, pins, H, nd, I, h => by
    rw [List.map_cons, List.nodup_cons] at nd
    obtain ⟨clos, pm, ctv, h1, h2, J⟩ := I.holdOne (h r List.mem_cons_self)
    have hh : ∀ q ∈ rs, cutH r.2.1 H q.2.1 = some (LamO q.2.1 q.2.2 qual q.1.params q.1.body q.1.scope cells) := fun q hq => by
      have hne : q.2.1 ≠ r.2.1 := fun z => nd.1 (List.mem_map.mpr ⟨q, hq, z⟩)
      rw [cutH_ne hne]
      exact h q (List.mem_cons_of_mem _ hq)
    obtain ⟨pins', J', hp, hr⟩ := Inv.holdAll rs nd.2 J hh
    refine ⟨pins', J', fun q hq => hp q (List.mem_cons_of_mem _ hq), fun q hq => ?_⟩
    rcases List.mem_cons.mp hq with z | z
    · subst z
      exact ⟨clos, pm, ctv, h1, h2, hp _ List.mem_cons_self⟩
    · exact hr q z
def regs (qual : Str) (σ : St) (rs : List (LamK × Addr × Addr)) : List LamR := rs.map fun r => ⟨r.2.1, r.2.2, qual, r.1.tl, r.1.ixs.map fun j => (σ[j]?).join⟩
def tCompL (K : PySem.W.Frag) (Kd : LamK → Prop) (qual : Str) (cells : List (Str × Addr)) (wi : TI) (n : Nat) (ixs : List Nat) (g : TG) (tif : List LamR → TT) (te : TE) : TE := fun σ H Q => ∃ rs : List (LamK × Addr × Addr), (rs.map (·.2.1)).Nodup ∧ (∀ r ∈ rs, Kd r.1 ∧ vw K H r.2.1 = some (LamO r.2.1 r.2.2 qual r.1.params r.1.body r.1.scope cells)) ∧
  tComp K wi n ixs g (tif (regs qual σ rs)) te σ (cutL (rs.map (·.2.1)) H) Q
theorem qe_compL {X : Cx} {kl : Nat} {tg iter elt : Expr} {ifs : List Expr} {scope : Scope} {pos : Pos} {wi : TI} {g : TG} {tif : List LamR → TT} {te : TE} {cl : List (Str × Addr)} {own outs : List Str} {ixs : List Nat}
    (hfn : ∀ x, X.fn x = true) (hc : X.calm = true) (hi : QI X tg iter wi) (hclos : closureFor scope X.env = pure cl) (S : CompSc X scope cl own outs ixs)
    (hb : ∀ R C s H ex, RegOk X (kl + 1) R X.stack s H ex → QG (cxC X scope cl (own ++ outs) C s H ex) tg g ∧ QF (cxC X scope cl (own ++ outs) C s H ex) ifs (tif R) ∧ QE (cxC X scope cl (own ++ outs) C s H ex) elt te)
    (hs : ∀ x, foldedSetIterable iter X.env x = pure x := by intro _; rfl) : QE X (.ListComp elt [⟨tg, iter, ifs, 0⟩] scope pos) (tCompL X.K (KindOk X kl) (lamQ X) X.env.cells wi own.length ixs g tif te) := ⟨by
  intro pins s σ H Q I h
  obtain ⟨rs, nd, hr, h⟩ := h
  obtain ⟨pins', I', hpp, hrs⟩ := Inv.holdAll rs nd I fun r z => vw_get (hr r z).2 (fun _ z => by cases z)
  rw [eval_ListComp]
  refine comp_core (G := RegOk X (kl + 1) (regs (lamQ X) σ rs) X.stack) hc hi.h hclos S (fun C s H ex hG => ⟨(hb _ C s H ex hG).1.h, (hb _ C s H ex hG).2.1.h, (hb _ C s H ex hG).2.2.h⟩) hs (fun s2 H1 H2 fp I2 f1 => ?_) I' (fun a H' => Q (.ref a) H') (fun a C H' s4 m J4 fC hn q => ⟨m, hn, fun h' hsb => ?_⟩) h
  · intro r hr'
    obtain ⟨⟨d, p, c'⟩, hm, rfl⟩ := List.mem_map.mp hr'
    obtain ⟨clos, pm, ctv, hc1, hc2, hpin⟩ := hrs _ hm
    have KO := (hr _ hm).1
    have pin2 := I2.pin _ (List.mem_append.mpr (.inr hpin))
    refine ⟨p :: clos.map (·.2), lamS_ok (Nl := d.Nl) I2 hc1 hc2 pin2.1 KO.hk KO.hnc KO.hsc (KO.hbind clos pm c' ctv) (fun j x v e1 e2 => ?_) (by rw [List.length_map]; exact KO.hlen) (fun A' outer' s' H' hr' => (KO.hb p c' clos A' outer' s' H' hr').h), fun b hb' => ?_⟩
    · obtain ⟨a1, l, a2, a3⟩ := KO.hNl j x e1
      rw [List.getElem?_map, a2] at e2
      have e3 : (σ[l]?).join = some v := Option.some.inj e2
      refine ⟨a1, KO.hfree _ (PySem.mem_of_lookup a1) rfl, l, a3, ?_⟩
      cases e5 : σ[l]? with
      | none => rw [e5] at e3; cases e3
      | some w => rw [e5] at e3; cases w with
        | none => cases e3
        | some w => cases e3; rfl
    · rcases List.mem_cons.mp hb' with z | z
      · subst z
        refine ⟨pin2.2.1, fun z => ?_, fun z => (f1 _ z).2.2.2.2.2 _ (List.mem_append.mpr (.inr hpin)) rfl⟩
        rcases List.mem_cons.mp (I2.stkSub _ z) with w | w
        · exact pin2.2.2.1 w
        · exact pin2.2.2.2.1 w
      · obtain ⟨⟨x, c⟩, hx, rfl⟩ := List.mem_map.mp z
        have e := hc1 _ hx
        refine ⟨I2.freeC _ _ e, fun z => ?_, fun z => (f1 _ z).2.2.2.2.1 _ _ e rfl⟩
        rcases List.mem_cons.mp (I2.stkSub _ z) with q | q
        · exact I2.cne _ _ e q
        · obtain ⟨_, o, ho, _⟩ := I2.ok.funs.mem q
          exact absurd (Nat.lt_of_lt_of_le (Heap.lt_size ho) (I2.ok.cab _ _ (hfn _) e)) (Nat.lt_irrefl _)
  · obtain ⟨f0, f1, f2, f3, f4, f5⟩ := fC
    have J5 := J4.turned (t' := s4.toks) (fun b o hb e => hsb.extBut b o hb e) f0 f1 f3 f4 f5
    exact ⟨.ref a, H', ⟨J5.ok, J5.os, J5.bare, J5.base, J5.loc, J5.cell, J5.free, J5.freeC, fun q hq => by
      rcases List.mem_append.mp hq with z | z
      · exact J5.pin q (List.mem_append.mpr (.inl z))
      · exact J5.pin q (List.mem_append.mpr (.inr (hpp q z))), J5.hok, J5.len⟩, rfl, q⟩⟩
end L2

set_option Elab.async false
set_option linter.all false
set_option maxRecDepth 100000
namespace L2
open PySem PySem.Spec PyProof.Rows
theorem codeO_ne {p c' : Addr} {q qual : Str} {params : Arguments} {body : Expr} {scope : Scope} {cells : List (Str × Addr)} : CodeO p q ≠ LamO p c' qual params body scope cells := fun e => by
  have e2 := HO.ext.inj e
  obtain ⟨t⟩ : Nonempty Nat := ⟨0⟩
  obtain ⟨o, ho⟩ : ∃ o : Obj, o = { cls := .none, data := .fields #[.none, .str q t] } := ⟨_, rfl⟩
  have e3 := congrFun e2 ⟨Array.replicate (p + 1) o, {}⟩
  have hg : (Heap.mk (Array.replicate (p + 1) o) {}).get? p = some o := by
    unfold Heap.get?
    simp [Array.getElem?_replicate, ho]
  have : (Heap.mk (Array.replicate (p + 1) o) {}).CodeRec (.ref p) q := ⟨p, o, _, t, rfl, hg, by rw [ho], rfl⟩
  obtain ⟨_, _, _, z, _⟩ := e3.mp this
  rw [hg, ho] at z
  have := congrArg Obj.data (Option.some.inj z)
  cases this
def CutOf (ps : List Addr) (G G' : Hp) : Prop := (∀ p ∈ ps, ∃ φ, G p = some (.ext φ)) ∧ ∀ b o, b ∉ ps → G b = some o → G' b = some o
theorem cutL_ne {b : Addr} : ∀ {ps : List Addr} {H : Hp}, b ∉ ps → cutL ps H b = H b
  | [], _, _ => rfl
  | p :: ps, H, h => by
    show cutL ps (cutH p H) b = _
    rw [cutL_ne (fun z => h (List.mem_cons_of_mem _ z)), cutH_ne (fun z => h (by rw [z]; exact List.mem_cons_self))]
theorem cutL_vw {K : PySem.W.Frag} {ps : List Addr} {H : Hp} (h : ∀ p ∈ ps, ∃ φ, vw K H p = some (.ext φ)) : CutOf ps (vw K H) (vw K (cutL ps H)) := ⟨h, fun b o hb e => by
  unfold vw at e ⊢
  cases hk : K.lookup b with
  | none => rw [hk] at e; show cutL ps H b = _; rw [cutL_ne hb]; exact e
  | some u => rw [hk] at e; exact e⟩
theorem CutOf.get {ps : List Addr} {G G' : Hp} {b : Addr} {o : HO} (C : CutOf ps G G') (e : G b = some o) (n : ∀ φ, o ≠ .ext φ) : G' b = some o := C.2 b o (fun z => by
  obtain ⟨φ, h⟩ := C.1 b z
  rw [h] at e
  exact n φ (Option.some.inj e).symm) e
mutual
theorem Rep.cut {ps : List Addr} {H H' : Hp} (S : CutOf ps H H') : ∀ (d : D) (v : V), Rep H d v → Rep H' d v
  | .non, v, h => by unfold Rep at *; exact h
  | .bl _, v, h => by unfold Rep at *; exact h
  | .int _, v, h => by unfold Rep at *; exact h
  | .str _, v, h => by unfold Rep at *; exact h
  | .tup ds, v, h => by
    obtain ⟨a, xs, rfl, ha, r⟩ := h.tup_at
    exact .mk_tup (S.get ha (fun _ z => by cases z)) (Reps.cut S ds xs r)
  | .lst ds, v, h => by
    obtain ⟨a, xs, rfl, ha, r⟩ := h.lst_at
    exact .mk_lst (S.get ha (fun _ z => by cases z)) (Reps.cut S ds xs r)
  | .dict, v, h => by
    unfold Rep at *
    obtain ⟨a, kvs, e, ha⟩ := h
    exact ⟨a, kvs, e, S.get ha (fun _ z => by cases z)⟩
theorem Reps.cut {ps : List Addr} {H H' : Hp} (S : CutOf ps H H') : ∀ (ds : List D) (xs : List V), Reps H ds xs → Reps H' ds xs
  | [], xs, h => by cases h.nil_at; exact .mk_nil
  | d :: ds, xs, h => by
    obtain ⟨x, r, rfl, h1, h2⟩ := h.cons_at
    exact .mk_cons (Rep.cut S d x h1) (Reps.cut S ds r h2)
end
structure Cas where
  t : Addr
  p : Addr
  c : Addr
  d : Addr
  ps : Arguments
  b : Expr
  sc : Scope
  ds : List D
structure CasOk (P : Addr) (G0 : Hp) (qual : Str) (cl : List (Str × Addr)) (cs : Addr) (G : Hp) (x : Cas) : Prop where
  tup : G x.t = some (.tup [.ref x.p, .ref x.d])
  lam : G x.p = some (LamO x.p x.c qual x.ps x.b x.sc cl)
  code : G x.c = some (CodeO x.c qual)
  due : ∃ xs, G x.d = some (.lst xs) ∧ Reps G x.ds xs
  flat : D.flats x.ds = true
  ne : x.d ≠ cs
  new : G0 x.p = none
structure CasS (P : Addr) (G0 : Hp) (qual : Str) (cl : List (Str × Addr)) (cs : Addr) (G : Hp) (xs : List Cas) : Prop where
  bt : But P G0 G
  new : G0 cs = none
  tab : TabOk G P qual
  lst : G cs = some (.lst (xs.map fun x => V.ref x.t))
  nd : (xs.map (·.p)).Nodup
  ok : ∀ x ∈ xs, CasOk P G0 qual cl cs G x
section
variable {P : Addr} {G0 G G' : Hp} {qual : Str} {cl : List (Str × Addr)} {cs : Addr} {xs : List Cas} {x : Cas}
theorem TabOk.noP (h : TabOk G P qual) {b : Addr} {o : HO} (e : G b = some o) (n : ∀ q, o ≠ .tbl q) : b ≠ P := fun z => by
  obtain ⟨q, h1, _⟩ := h
  rw [z, h1] at e
  exact n q (Option.some.inj e).symm
theorem CasOk.smT (h : CasOk P G0 qual cl cs G x) (S : SmT G G') : CasOk P G0 qual cl cs G' x := by
  obtain ⟨ys, h1, h2⟩ := h.due
  exact ⟨S _ _ h.tup (fun _ z => by cases z), S _ _ h.lam (fun _ z => by cases z), S _ _ h.code (fun _ z => by cases z), ⟨ys, S _ _ h1 (fun _ z => by cases z), Reps.smT S _ _ h2⟩, h.flat, h.ne, h.new⟩
theorem CasS.lam (h : CasS P G0 qual cl cs G xs) (B : But P G G') (T : TabOk G' P qual) : CasS P G0 qual cl cs G' xs :=
  ⟨h.bt.trans B, h.new, T, B _ _ (h.tab.noP h.lst fun _ z => by cases z) h.lst, h.nd, fun x hx => (h.ok x hx).smT (h.tab.smT B T)⟩
theorem CasS.same (h : CasS P G0 qual cl cs G xs) (S : Same G G') : CasS P G0 qual cl cs G' xs :=
  ⟨h.bt.same_trans S, h.new, h.tab.same S, S _ _ h.lst, h.nd, fun x hx => (h.ok x hx).smT (.of S)⟩
theorem CasOk.but (h : CasOk P G0 qual cl cs G x) {ys : List V} (hl : G cs = some (.lst ys)) (B : But cs G G') : CasOk P G0 qual cl cs G' x := by
  obtain ⟨zs, h1, h2⟩ := h.due
  exact ⟨B _ _ (fun z => by have := h.tup; rw [z, hl] at this; cases this) h.tup, B _ _ (fun z => by have := h.lam; rw [z, hl] at this; cases this) h.lam, B _ _ (fun z => by have := h.code; rw [z, hl] at this; cases this) h.code, ⟨zs, B _ _ h.ne h1, Reps.flat_but hl B _ _ h.flat h2⟩, h.flat, h.ne, h.new⟩
theorem CasS.app (h : CasS P G0 qual cl cs G xs) (hx : CasOk P G0 qual cl cs G x) (hp : x.p ∉ xs.map (·.p)) (B : But cs G G') (hl : G' cs = some (.lst ((xs.map fun x => V.ref x.t) ++ [.ref x.t]))) : CasS P G0 qual cl cs G' (xs ++ [x]) := by
  refine ⟨fun b o hb e => B _ _ (ne_of_none e h.new) (h.bt b o hb e), h.new, h.tab.butL h.lst B, by rw [List.map_append]; exact hl, ?_, fun y hy => ?_⟩
  · rw [List.map_append, List.nodup_append]
    refine ⟨h.nd, by simp, fun a ha b hb z => ?_⟩
    rw [List.map_cons, List.map_nil, List.mem_singleton] at hb
    exact hp (hb ▸ z ▸ ha)
  · rcases List.mem_append.mp hy with z | z
    · exact (h.ok y z).but h.lst B
    · rw [List.mem_singleton] at z
      subst z
      exact hx.but h.lst B
theorem CasS.fresh (h : CasS P G0 qual cl cs G xs) {p : Addr} (hp : G p = none) : p ∉ xs.map (·.p) ∧ G0 p = none := by
  refine ⟨fun z => ?_, ?_⟩
  · obtain ⟨y, hy, rfl⟩ := List.mem_map.mp z
    rw [(h.ok y hy).lam] at hp
    cases hp
  · cases e : G0 p with
    | none => rfl
    | some o =>
      by_cases hP : p = P
      · obtain ⟨q, h1, _⟩ := h.tab
        rw [hP, h1] at hp
        cases hp
      · rw [h.bt p o hP e] at hp
        cases hp
theorem but_noneT (B : But P G0 G) (T : TabOk G P qual) {b : Addr} (h : G b = none) : G0 b = none := by
  cases e : G0 b with
  | none => rfl
  | some o =>
    by_cases hP : b = P
    · obtain ⟨q, h1, _⟩ := T
      rw [hP, h1] at h
      cases h
    · rw [B b o hP e] at h
      cases h
theorem CasS.one (B : But P G0 G) (T : TabOk G P qual) (hx : CasOk P G0 qual cl cs G x) (hcs : G0 cs = none) (hl : G cs = some (.lst [.ref x.t])) : CasS P G0 qual cl cs G [x] :=
  ⟨B, hcs, T, hl, by simp, fun y hy => by
    rw [List.mem_singleton] at hy
    subst hy
    exact hx⟩
theorem CasS.sm (h : CasS P G0 qual cl cs G xs) (T : TabOk G0 P qual) : SmT G0 G := by
  obtain ⟨q, h1, _⟩ := T
  exact SmT.but h1 h.bt
section
variable {L1 L2 L3 L4 : Hp} {p c' d t : Addr} {params : Arguments} {body : Expr} {scope : Scope} {ds : List D} {Kd : LamK → Prop} {R : List D → LamK → Prop}
theorem CasS.first (B1 : But P G0 L1) (T1 : TabOk L1 P qual) (hp : G0 p = none) (hl : L1 p = some (LamO p c' qual params body scope cl)) (hc : L1 c' = some (CodeO c' qual)) (U1 : Same L1 L2) (hd : ∃ zs, L2 d = some (.lst zs) ∧ Reps L2 ds zs) (fl : D.flats ds = true) (U2 : Same L2 L3) (h3 : L3 t = some (.tup [.ref p, .ref d]))
    (U3 : Same L3 L4) (hcs : L3 cs = none) (h4 : L4 cs = some (.lst [.ref t])) (hk : ∃ d : LamK, d.params = params ∧ d.body = body ∧ d.scope = scope ∧ Kd d ∧ R ds d) : ∃ x, (∃ d : LamK, d.params = x.ps ∧ d.body = x.b ∧ d.scope = x.sc ∧ Kd d ∧ R x.ds d) ∧ CasS P G0 qual cl cs L4 [x] := by
  have B4 := B1.same_trans (U1.trans U2)
  have T3 := T1.same (U1.trans U2)
  obtain ⟨zs, z1, z2⟩ := hd
  exact ⟨⟨t, p, c', d, params, body, scope, ds⟩, hk, CasS.one (B4.same_trans U3) (T3.same U3) ⟨U3 _ _ h3, U3 _ _ (U2 _ _ (U1 _ _ hl)), U3 _ _ (U2 _ _ (U1 _ _ hc)), ⟨zs, U3 _ _ (U2 _ _ z1), Reps.same (U2.trans U3) _ _ z2⟩, fl, ne_of_none (U2 _ _ z1) hcs, hp⟩ (but_noneT B4 T3 hcs) h4⟩
theorem CasS.next {L0 : Hp} (W : CasS P G0 qual cl cs L0 xs) (B1 : But P L0 L1) (T1 : TabOk L1 P qual) (hp : L0 p = none) (hl : L1 p = some (LamO p c' qual params body scope cl)) (hc : L1 c' = some (CodeO c' qual)) (U1 : Same L1 L2) (hdn : L1 d = none) (hd : ∃ zs, L2 d = some (.lst zs) ∧ Reps L2 ds zs) (fl : D.flats ds = true) (U2 : Same L2 L3) (h3 : L3 t = some (.tup [.ref p, .ref d]))
    (B : But cs L3 L4) (h4 : L4 cs = some (.lst ((xs.map fun x => V.ref x.t) ++ [.ref t]))) (hk : ∃ d : LamK, d.params = params ∧ d.body = body ∧ d.scope = scope ∧ Kd d ∧ R ds d) : ∃ x, (∃ d : LamK, d.params = x.ps ∧ d.body = x.b ∧ d.scope = x.sc ∧ Kd d ∧ R x.ds d) ∧ CasS P G0 qual cl cs L4 (xs ++ [x]) := by
  obtain ⟨f1, f2⟩ := W.fresh hp
  have W1 := W.lam B1 T1
  have W3 := (W1.same U1).same U2
  obtain ⟨zs, z1, z2⟩ := hd
  exact ⟨⟨t, p, c', d, params, body, scope, ds⟩, hk, W3.app (x := ⟨t, p, c', d, params, body, scope, ds⟩) ⟨h3, U2 _ _ (U1 _ _ hl), U2 _ _ (U1 _ _ hc), ⟨zs, U2 _ _ z1, Reps.same U2 _ _ z2⟩, fl, fun z => ne_of_none W1.lst hdn z.symm, f2⟩ f1 B h4⟩
end
theorem CasS.cut {K : PySem.W.Frag} {H : Hp} (h : CasS P G0 qual cl cs (vw K H) xs) : CutOf (xs.map (·.p)) (vw K H) (vw K (cutL (xs.map (·.p)) H)) := cutL_vw fun p hp => by
  obtain ⟨y, hy, rfl⟩ := List.mem_map.mp hp
  exact ⟨_, (h.ok y hy).lam⟩
theorem CasS.cutB (h : CasS P G0 qual cl cs G xs) (C : CutOf (xs.map (·.p)) G G') : But P G0 G' := fun b o hb e => C.2 b o (fun z => by
  obtain ⟨y, hy, rfl⟩ := List.mem_map.mp z
  rw [(h.ok y hy).new] at e
  cases e) (h.bt b o hb e)
theorem CasS.code_ne (h : CasS P G0 qual cl cs G xs) {c : Addr} {q : Str} (e : G c = some (CodeO c q)) : c ∉ xs.map (·.p) := fun z => by
  obtain ⟨y, hy, rfl⟩ := List.mem_map.mp z
  rw [(h.ok y hy).lam] at e
  exact codeO_ne (Option.some.inj e).symm
theorem CasS.cutT (h : CasS P G0 qual cl cs G xs) (C : CutOf (xs.map (·.p)) G G') : TabOk G' P qual := by
  obtain ⟨q, h1, h2, h3⟩ := h.tab
  refine ⟨q, C.get h1 (fun _ z => by cases z), h2, fun pos cv z => ?_⟩
  obtain ⟨c, e1, e2⟩ := h3 pos cv z
  exact ⟨c, e1, C.2 _ _ (h.code_ne e2) e2⟩
theorem CasS.cutX (h : CasS P G0 qual cl cs G xs) (C : CutOf (xs.map (·.p)) G G') (hx : x ∈ xs) : G' x.t = some (.tup [.ref x.p, .ref x.d]) ∧ G' x.c = some (CodeO x.c qual) ∧ ∃ zs, G' x.d = some (.lst zs) ∧ Reps G' x.ds zs := by
  have o := h.ok x hx
  obtain ⟨zs, h1, h2⟩ := o.due
  exact ⟨C.get o.tup (fun _ z => by cases z), C.2 _ _ (h.code_ne o.code) o.code, zs, C.get h1 (fun _ z => by cases z), Reps.cut C _ _ h2⟩
end
theorem CasS.kinds {P : Addr} {G0 G : Hp} {qual : Str} {cl : List (Str × Addr)} {cs : Addr} {Kd : LamK → Prop} {R : List D → LamK → Prop} : ∀ {xs : List Cas}, (∀ x ∈ xs, CasOk P G0 qual cl cs G x) → (∀ x ∈ xs, ∃ d : LamK, d.params = x.ps ∧ d.body = x.b ∧ d.scope = x.sc ∧ Kd d ∧ R x.ds d) →
    ∃ rs : List (LamK × Addr × Addr), rs.map (·.2.1) = xs.map (·.p) ∧ (∀ r ∈ rs, Kd r.1 ∧ G r.2.1 = some (LamO r.2.1 r.2.2 qual r.1.params r.1.body r.1.scope cl)) ∧ ∀ x ∈ xs, ∃ d, (d, x.p, x.c) ∈ rs ∧ R x.ds d
  | [], _, _ => ⟨[], rfl, (fun _ z => by cases z), (fun _ z => by cases z)⟩
  | x :: xs, h, hk => by
    obtain ⟨rs, h1, h2, h3⟩ := CasS.kinds (fun y hy => h y (List.mem_cons_of_mem _ hy)) (fun y hy => hk y (List.mem_cons_of_mem _ hy))
    obtain ⟨d, e1, e2, e3, kd, r⟩ := hk x List.mem_cons_self
    refine ⟨(d, x.p, x.c) :: rs, by rw [List.map_cons, List.map_cons, h1], fun y hy => ?_, fun y hy => ?_⟩
    · rcases List.mem_cons.mp hy with z | z
      · subst z
        refine ⟨kd, ?_⟩
        show G x.p = some (LamO x.p x.c qual d.params d.body d.scope cl)
        rw [e1, e2, e3]
        exact (h x List.mem_cons_self).lam
      · exact h2 y z
    · rcases List.mem_cons.mp hy with z | z
      · subst z
        exact ⟨d, List.mem_cons_self, r⟩
      · obtain ⟨d', m, r'⟩ := h3 y z
        exact ⟨d', List.mem_cons_of_mem _ m, r'⟩
theorem kdX {X0 X1 : Cx} {kl : Nat} {params : Arguments} {body : Expr} {scope : Scope} {G : Hp} {p c' : Addr} {qual : Str} {cl : List (Str × Addr)} (h : G p = some (LamO p c' qual params body scope cl)) (hX : X0 = X1) (Nl : List Str) (ixs : List Nat) {R : LamK → Prop} (tl : TE)
    (hk : scope.kind = .function) (hnc : ∀ q ∈ scope.names, q.2 ≠ .cell) (hsc : scope.isCoroutine = false ∧ scope.isGenerator = false)
    (hbind : ∀ clos pm c' ctv, bindArgs (PySem.W.kla_fn "<lambda>" (lamQ X0) params body scope clos pm (.ref c') ctv) ⟨[], []⟩ = pure [])
    (hfree : ∀ q ∈ scope.names, q.2 = .free → X0.env.kindOf q.1 = some .cell) (hlen : ixs.length = Nl.length)
    (hNl : ∀ (j : Nat) (x : Str), Nl[j]? = some x → scope.names.lookup x = some .free ∧ ∃ l, ixs[j]? = some l ∧ X0.N[l]? = some x)
    (hb : ∀ (p c' : Addr) (clos : List (Str × Addr)) (A' : Around) (outer' : List Env) (s' : Shared) (H' : Hp), Room kl (A'.deeper (PySem.W.envX (lamQ X0) scope s'.heap.objs.size p (.ref c') clos)) → QE (lamCx X0.prog X0.w X0.K X0.mg X0.base Nl (lamQ X0) scope p (.ref c') clos A' outer' s' H') body tl)
    (r : R ⟨params, body, scope, Nl, ixs, tl⟩) :
    ∃ d : LamK, d.params = params ∧ d.body = body ∧ d.scope = scope ∧ KindOk X1 kl d ∧ R d := ⟨⟨params, body, scope, Nl, ixs, tl⟩, rfl, rfl, rfl, hX ▸ ⟨hk, hnc, hsc, hbind, hfree, hlen, hNl, hb⟩, r⟩
end L2

set_option Elab.async false
set_option linter.all false
set_option maxRecDepth 100000
namespace L2
open PySem PySem.Spec PyProof.Rows

section
variable {κ : Type} [DecidableEq κ]
end


theorem kV_is {P : Program} {w : World} {k : Key} {u : Value} (r : RelV (kV k) u) : (mixKind P w).is k u = true := by
  cases k with
  | inl i => obtain ⟨t, e⟩ := (show ∃ t, u = Value.int i t from r); subst e; exact mixKind_int P w i t
  | inr x => obtain ⟨t, e⟩ := (show ∃ t, u = Value.str x t from r); subst e; exact mixKind_str P w x t
theorem items_are {P : Program} {w : World} : ∀ {ks : List Key} {us : List Value}, Vals (ks.map kV) us → ItemsAre (mixKind P w) ks us
  | [], _, r => by rw [List.map_nil] at r; cases r; exact .nil
  | k :: ks, _, r => by
    rw [List.map_cons] at r
    cases r with
    | cons h t => exact .cons (kV_is h) (items_are t)

section
variable {P : Program} {w : World} {H : Hp} {h : Heap} {a : Addr}
end

section
variable {X : Cx} {pins : List (Addr × Obj)} {σ : St} {H : Hp} {s : Shared} {a : Addr} {y v : V} {u r : Value} {o : Option V} {A : Around} {E : Value → Shared → Prop}

theorem d_write {h' : Heap} {t' : Nat} {ob : HO} (I : Inv X pins σ H s) (mu : Mut (H a)) (hs : Heap.SameBut a s.heap h') (he : ∃ q, h'.get? a = some q) (new : ObjOk X.prog X.w (upd H a ob) h' a ob) :
    Inv X pins σ (upd H a ob) { s with heap := h', toks := t' } :=
  I.write (x := a) (e := a) mu (.inl rfl) (fun b q hb z => (hs.2 b hb).trans z) he new
end

section
variable {X : Cx} {pins : List (Addr × Obj)} {σ : St} {H : Hp} {s : Shared} {a : Addr} {kvs : List (Key × V)} {k : Key} {u : Value} {A : Around} {E : Value → Shared → Prop}
end


def NoSl (i : Expr) : Prop := ∀ ov iv, subscripted i false ov iv = operate [ov, iv] (getItem ov iv)
theorem subD_of {prog : Program} {w : World} {A : Around} {E : Value → Shared → Prop} {s : Shared} {env : Env} {value slice : Expr} {pos : Pos} {T id : String} {Q : Value → Shared → Prop}
    (hl : typeLookup (.type T) "__getitem__" = pure (some (.builtin id))) (hs : NoSl slice)
    (h : wpAny (model prog w) A (eval value env) (fun o s₁ => wpAny (model prog w) A (eval slice env) (fun i s₂ => s₂.TypeIs o T ∧ wpAny (model prog w) A (getItem o i) Q E s₂) E s₁) E s) :
    wpAny (model prog w) A (eval (.Subscript value slice pos) env) Q E s := by
  refine Subscript_ (wpAny_mono h (fun o s₁ h₁ => wpAny_mono h₁ (fun i s₂ h₂ => ?_) fun _ _ x => x) fun _ _ x => x)
  obtain ⟨hT, h₂⟩ := h₂
  unfold subscriptTail
  refine wpAny_bind ?_
  rw [getitemInPython_of_ne hT.not_modules]
  refine wpAny_bind (wpAny_specialOf hT hl ?_)
  have fin : wpAny (model prog w) A (subscripted slice false o i) (fun r s₃ => wpAny (model prog w) A (letTemporaryGo value o r >>= fun _ => pure r) Q E s₃) E s₂ := by
    rw [hs o i]
    exact wpAny_operating (wpAny_mono h₂ (fun r s₃ h₃ => wpAny_bind (wpAny_letTemporaryGo (wpAny_pure h₃))) fun _ _ x => x)
  first
    | exact wpAny_pure (wpAny_bind fin)
    | exact wpAny_bind (wpAny_pure (wpAny_bind fin))
    | exact wpAny_bind fin

section
variable {X : Cx} {o i e value : Expr} {pos pos' tpos : Pos} {td ty tv : TE}
end


section
variable {X : Cx} {pos : Pos}
end

end L2

set_option Elab.async false
set_option linter.all false
set_option maxRecDepth 100000
namespace L2
open PySem PySem.Spec PyProof.Rows
theorem turn2o (elt t1 i1 t2 i2 : Expr) (f1 f2 : List Expr) (scope : Scope) (pos : Pos) (it acc : Value) (env : Env) : compTurn (.ListComp elt [⟨t1, i1, f1, 0⟩, ⟨t2, i2, f2, 0⟩] scope pos) 0 it acc env = (do
  standAt i1.pos; match ← pyNext it with
   | none => pure (.done .next)
   | some v =>
     letOwnedTupleGo t1 it v; assign t1 env v
     let ok ← (forIn f1 true fun c r => if r = true then do let ok ← isTrue c env (eval c env); pure (ForInStep.yield ok) else pure (ForInStep.yield r))
     if ok = true then do
       let x ← eval i2 env; standAt i2.pos; let x ← foldedSetIterable i2 env x; let _ ← runOwn (.compStart (.ListComp elt [⟨t1, i1, f1, 0⟩, ⟨t2, i2, f2, 0⟩] scope pos) 1 (← holding [x] (pyIter x)) acc env) env
       again (.compLoop (.ListComp elt [⟨t1, i1, f1, 0⟩, ⟨t2, i2, f2, 0⟩] scope pos) 0 it acc env)
     else again (.compLoop (.ListComp elt [⟨t1, i1, f1, 0⟩, ⟨t2, i2, f2, 0⟩] scope pos) 0 it acc env)) := by rfl
theorem turn2i (elt t1 i1 t2 i2 : Expr) (f1 f2 : List Expr) (scope : Scope) (pos : Pos) (it acc : Value) (env : Env) : compTurn (.ListComp elt [⟨t1, i1, f1, 0⟩, ⟨t2, i2, f2, 0⟩] scope pos) 1 it acc env = (do
  standAt i2.pos; match ← pyNext it with
   | none => pure (.done .next)
   | some v =>
     letOwnedTupleGo t2 it v; assign t2 env v
     let ok ← (forIn f2 true fun c r => if r = true then do let ok ← isTrue c env (eval c env); pure (ForInStep.yield ok) else pure (ForInStep.yield r))
     if ok then (do let _ ← call (.builtin "list.append") [acc, ← eval elt env])
     again (.compLoop (.ListComp elt [⟨t1, i1, f1, 0⟩, ⟨t2, i2, f2, 0⟩] scope pos) 1 it acc env)) := by rfl
section
variable {prog : Program} {w : World} {A : Around} {R : Result → Shared → Prop} {s : Shared}
theorem loop2i {elt t1 i1 t2 i2 : Expr} {f1 f2 : List Expr} {scope : Scope} {pos : Pos} {it acc : Value} {env : Env} {EE : Value → Shared → Prop} (hEE : EE = notedBy (model prog w) A env fun e s' => R (.error e) s') (Iv : Nat → Shared → Prop)
    (turn : ∀ n s, Iv n s → wpAny (model prog w) A (pyNext it) (fun r s1 => match r with
      | none => R (.ok .next) s1
      | some v => wpAny (model prog w) A (letOwnedTupleGo t2 it v) (fun _ s2 => wpAny (model prog w) A (assign t2 env v) (fun _ s3 =>
          wpAny (model prog w) A (forIn f2 true fun c r => if r = true then do let ok ← isTrue c env (eval c env); pure (ForInStep.yield ok) else pure (ForInStep.yield r)) (fun ok s4 =>
            if ok = true then wpAny (model prog w) A (eval elt env) (fun x s5 => wpAny (model prog w) A (call (.builtin "list.append") [acc, x]) (fun _ s6 => ∃ m, m < n ∧ Iv m s6) EE s5) EE s4
            else ∃ m, m < n ∧ Iv m s4) EE s3) EE s2) EE s1) EE s)
    (n : Nat) (h : Iv n s) : codeAny (model prog w) A (.compLoop (.ListComp elt [⟨t1, i1, f1, 0⟩, ⟨t2, i2, f2, 0⟩] scope pos) 1 it acc env) R s := by
  subst hEE
  refine codeAny_loop rfl Iv (fun n s hI => ?_) n h
  refine (show wpAny _ A ((compTurn (.ListComp elt [⟨t1, i1, f1, 0⟩, ⟨t2, i2, f2, 0⟩] scope pos) 1 it acc env).onRaise (fun x => do noteFrame x env; theTreesLotGoes x)) _ _ s from ?_)
  refine wpAny_noted ?_
  rw [turn2i]
  refine wpAny_bind (wpAny_standAt (wpAny_bind (wpAny_mono (turn n s hI) (fun r s1 h1 => ?_) fun _ _ z => z)))
  cases r with
  | none => exact wpAny_pure h1
  | some v =>
    refine wpAny_bind (wpAny_mono h1 (fun _ s2 h2 => wpAny_bind (wpAny_mono h2 (fun _ s3 h3 => wpAny_bind (wpAny_mono h3 (fun ok s4 h4 => ?_) fun _ _ z => z)) fun _ _ z => z)) fun _ _ z => z)
    cases ok with
    | false => exact wpAny_pure ⟨rfl, h4⟩
    | true => exact wpAny_bind (wpAny_bind (wpAny_mono h4 (fun x s5 h5 => wpAny_bind (wpAny_mono h5 (fun _ s6 h6 => wpAny_pure (wpAny_pure ⟨rfl, h6⟩)) fun _ _ z => z)) fun _ _ z => z))
theorem start2i {elt t1 i1 t2 i2 : Expr} {f1 f2 : List Expr} {scope : Scope} {pos : Pos} {it acc : Value} {env : Env}
    (h0 : codeAny (model prog w) A (.compLoop (.ListComp elt [⟨t1, i1, f1, 0⟩, ⟨t2, i2, f2, 0⟩] scope pos) 1 it acc env) R s)
    (h : wpAny (model prog w) A (pyIter it) (fun j s' => codeAny (model prog w) A (.compLoop (.ListComp elt [⟨t1, i1, f1, 0⟩, ⟨t2, i2, f2, 0⟩] scope pos) 1 j acc env) R s') (notedBy (model prog w) A env fun x s' => R (.error x) s') s) :
    codeAny (model prog w) A (.compStart (.ListComp elt [⟨t1, i1, f1, 0⟩, ⟨t2, i2, f2, 0⟩] scope pos) 1 it acc env) R s := by
  refine codeAny_of_tree ?_
  refine (show wpAny _ _ ((compStart (.ListComp elt [⟨t1, i1, f1, 0⟩, ⟨t2, i2, f2, 0⟩] scope pos) 1 it acc env).onRaise (fun x => do noteFrame x env; standAt theWindowsPlace)) _ _ s from wpAny_notedAt ?_)
  unfold compStart
  refine (show wpAny _ _ (ask >>= _) _ _ s from wpAny_bind (wpAny_askSetting (wpAny_ite ?_)))
  split
  · first
    | exact wpAny_pure ⟨rfl, h0⟩
    | exact wpAny_bind (wpAny_pure (wpAny_pure ⟨rfl, h0⟩))
  · refine wpAny_bind (wpAny_rule ?_)
    refine (show wpAny _ _ (standAt i2.pos >>= _) _ _ s from ?_)
    exact wpAny_bind (wpAny_standAt (wpAny_bind (wpAny_mono h (fun j s' h' => wpAny_pure ⟨rfl, h'⟩) fun _ _ x => x)))
theorem loop2o {elt t1 i1 t2 i2 : Expr} {f1 f2 : List Expr} {scope : Scope} {pos : Pos} {it acc : Value} {env : Env} {EE : Value → Shared → Prop} (hEE : EE = notedBy (model prog w) A env fun e s' => R (.error e) s') (hs : ∀ x, foldedSetIterable i2 env x = pure x) (Iv : Nat → Shared → Prop)
    (turn : ∀ n s, Iv n s → wpAny (model prog w) A (pyNext it) (fun r s1 => match r with
      | none => R (.ok .next) s1
      | some v => wpAny (model prog w) A (letOwnedTupleGo t1 it v) (fun _ s2 => wpAny (model prog w) A (assign t1 env v) (fun _ s3 =>
          wpAny (model prog w) A (forIn f1 true fun c r => if r = true then do let ok ← isTrue c env (eval c env); pure (ForInStep.yield ok) else pure (ForInStep.yield r)) (fun ok s4 =>
            if ok = true then wpAny (model prog w) A (eval i2 env) (fun x s5 => wpAny (model prog w) A (pyIter x) (fun j s6 =>
              codeAny (model prog w) A (.compStart (.ListComp elt [⟨t1, i1, f1, 0⟩, ⟨t2, i2, f2, 0⟩] scope pos) 1 j acc env) (fun r s' => ∃ f, r = .ok f ∧ ∃ m, m < n ∧ Iv m s') s6) EE s5) EE s4
            else ∃ m, m < n ∧ Iv m s4) EE s3) EE s2) EE s1) EE s)
    (n : Nat) (h : Iv n s) : codeAny (model prog w) A (.compLoop (.ListComp elt [⟨t1, i1, f1, 0⟩, ⟨t2, i2, f2, 0⟩] scope pos) 0 it acc env) R s := by
  subst hEE
  refine codeAny_loop rfl Iv (fun n s hI => ?_) n h
  refine (show wpAny _ A ((compTurn (.ListComp elt [⟨t1, i1, f1, 0⟩, ⟨t2, i2, f2, 0⟩] scope pos) 0 it acc env).onRaise (fun x => do noteFrame x env; theTreesLotGoes x)) _ _ s from ?_)
  refine wpAny_noted ?_
  rw [turn2o]
  refine wpAny_bind (wpAny_standAt (wpAny_bind (wpAny_mono (turn n s hI) (fun r s1 h1 => ?_) fun _ _ z => z)))
  cases r with
  | none => exact wpAny_pure h1
  | some v =>
    refine wpAny_bind (wpAny_mono h1 (fun _ s2 h2 => wpAny_bind (wpAny_mono h2 (fun _ s3 h3 => wpAny_bind (wpAny_mono h3 (fun ok s4 h4 => ?_) fun _ _ z => z)) fun _ _ z => z)) fun _ _ z => z)
    cases ok with
    | false => exact wpAny_pure ⟨rfl, h4⟩
    | true =>
      refine (wpAny_bind (wpAny_mono h4 (fun x s5 h5 => wpAny_bind (wpAny_standAt (wpAny_bind (wpAny_of_eq (hs x) (wpAny_bind (wpAny_holding (wpAny_mono h5 (fun j s6 h6 => wpAny_bind (wpAny_runOwn (codeAny_mono h6 fun r s7 h7 => ?_))) fun _ _ z => z))))))) fun _ _ z => z))
      obtain ⟨f, rfl, h7⟩ := h7
      exact wpAny_pure ⟨rfl, h7⟩
end
end L2

set_option Elab.async false
set_option linter.all false
set_option maxRecDepth 100000
namespace L2
open PySem PySem.Spec PyProof.Rows
def CompIn (K : PySem.W.Frag) (J : It) (g : TG) (tif : TT) (te : TE) (a : Addr) (σ0 : St) (H0 : Hp) (Q : St → Hp → Prop) : Prop := ∃ W : Nat → Nat → St → Hp → Prop, (∃ m, W 0 m σ0 H0) ∧ ∀ i m σ H, W i m σ H →
  (J.stop i H ∧ Q σ H) ∨ (J.go i H ∧ ∃ N : St → Hp → Prop, (∀ σ' H', N σ' H' → ∃ m', m' < m ∧ W (i + 1) m' σ' H') ∧ ∀ x H', J.yld i H x H' → g x σ H' fun σ2 H2 => tif σ2 H2 fun b H3 => if b = true then te σ2 H3 fun v H4 => ∃ xs, vw K H4 a = some (.lst xs) ∧ xs.length < sizeLine ∧
    ∀ H5, But a (vw K H4) (vw K H5) → vw K H5 a = some (.lst (xs ++ [v])) → N σ2 H5 else N σ2 H3)
def CompOK2 (K : PySem.W.Frag) (J : It) (g : TG) (tif : TT) (wi2 : TI) (g2 : TG) (tif2 : TT) (te : TE) (a : Addr) (σ0 : St) (H0 : Hp) (Q : Hp → Prop) : Prop := ∃ W : Nat → Nat → St → Hp → Prop, (∃ m, W 0 m σ0 H0) ∧ ∀ i m σ H, W i m σ H →
  (J.stop i H ∧ Q H) ∨ (J.go i H ∧ ∃ N : St → Hp → Prop, (∀ σ' H', N σ' H' → ∃ m', m' < m ∧ W (i + 1) m' σ' H') ∧ ∀ x H', J.yld i H x H' → g x σ H' fun σ2 H2 => tif σ2 H2 fun b H3 => if b = true then wi2 σ2 H3 (fun J2 H4 => CompIn K J2 g2 tif2 te a σ2 H4 N) else N σ2 H3)
def tComp2 (K : PySem.W.Frag) (wi : TI) (n : Nat) (ixs : List Nat) (g : TG) (tif : TT) (wi2 : TI) (g2 : TG) (tif2 : TT) (te : TE) : TE := fun σ H Q => wi σ H fun J H1 => ∀ a H2, vw K H1 a = none → Same (vw K H1) (vw K H2) → vw K H2 a = some (.lst []) → CompOK2 K J g tif wi2 g2 tif2 te a (List.replicate n none ++ outV σ ixs) H2 (Q (.ref a))
section
variable {X : Cx}
theorem comp_core2 {tg iter tg2 iter2 elt : Expr} {ifs ifs2 : List Expr} {scope : Scope} {pos ipos : Pos} {wi wi2 : TI} {g g2 : TG} {tif tif2 : TT} {te : TE} {cl : List (Str × Addr)} {own outs : List Str} {ixs : List Nat} {use : Option (Value → Sem Unit)} {Qv : Value → Shared → Prop}
    (hc : X.calm = true) (hi : PI X tg iter wi) (hclos : closureFor scope X.env = pure cl) (S : CompSc X scope cl own outs ixs)
    {G : Shared → Hp → List Addr → Prop} (hb : ∀ C s H ex, G s H ex → PG (cxC X scope cl (own ++ outs) C s H ex) tg g ∧ PF (cxC X scope cl (own ++ outs) C s H ex) ifs tif ∧ PI (cxC X scope cl (own ++ outs) C s H ex) tg2 iter2 wi2 ∧ PG (cxC X scope cl (own ++ outs) C s H ex) tg2 g2 ∧ PF (cxC X scope cl (own ++ outs) C s H ex) ifs2 tif2 ∧ PE (cxC X scope cl (own ++ outs) C s H ex) elt te)
    (hs : ∀ x, foldedSetIterable iter X.env x = pure x) (hs2 : ∀ C x, foldedSetIterable iter2 (compEnvC scope cl C X.env) x = pure x) {pins : List (Addr × Obj)} {s : Shared} {σ : St} {H : Hp} (hG : ∀ s2 H1 H2 fp, Inv X pins σ H2 s2 → (∀ b ∈ fp, FpOk X pins H1 b) → G s2 H2 fp) (I : Inv X pins σ H s) (Qd : Addr → Hp → Prop)
    (hfin : ∀ (a C : Addr) (H' : Hp) (s4 : Shared) (m : Str → Option Value), Inv X pins σ H' s4 → FpOk X pins H' C → s4.heap.Ns C m → Qd a H' → compPost (model X.prog X.w) X.A X.xe use Qv (.ref a) C (.ok .next) s4)
    (h : wi σ H fun J H1 => ∀ a H2, vw X.K H1 a = none → Same (vw X.K H1) (vw X.K H2) → vw X.K H2 a = some (.lst []) → CompOK2 X.K J g tif wi2 g2 tif2 te a (List.replicate own.length none ++ outV σ ixs) H2 (Qd a)) :
    wpAny (model X.prog X.w) X.A (comprehension (.ListComp elt [⟨tg, iter, ifs, 0⟩, ⟨tg2, iter2, ifs2, 0⟩] scope pos) scope X.env ipos (newList []) false (eval iter X.env) use) Qv X.xe s := by
  have Snc : ∀ y ∈ scope.names, y.2 ≠ .cell := fun y hy z => by
    have := List.all_eq_true.mp S.nocell y hy
    rw [z] at this
    cases this
  have Snm : ∀ y ∈ scope.names, y.2 = .local → scope.names.lookup y.1 = some .local := fun y hy z => by
    have := List.all_eq_true.mp S.names y hy
    rw [z] at this
    simpa using this
  have Shs : ∀ y ∈ (relabel scope X.env).names, (y.2 = .cell ∨ y.2 = .free) → (cl.lookup y.1).isSome = true := fun y hy z => by
    have := List.all_eq_true.mp S.has y hy
    rcases z with z | z
    · rw [z] at this
      simpa using this
    · rw [z] at this
      simpa using this
  refine wpAny_comprehension_free (use := use) rfl hs hclos S.kind Snm (wpAny_mono (hi pins s σ H _ I h) (fun xv s1 h1 => wpAny_mono h1 (fun itv s2 h2 => ?_) fun _ _ e => e) fun _ _ e => e)
  obtain ⟨it, fp, tn, J, H1, rfl, I1, T, st1, f1, q⟩ := h2
  refine wpAny_newObj_type (wpAny_newFunctionEnv Snc (by intro y hy; simp at hy) (fun h₁ hns₁ hsb₁ => ?_) S.kind)
  dsimp only at hns₁ hsb₁ ⊢
  have I2 : Inv X pins σ (upd H1 s2.heap.objs.size (.lst [])) { s2 with heap := s2.heap.push { cls := .type "list", dict := none, data := .seq ([] : List Value).toArray } } := I1.lnew (t' := s2.toks) .nil (Nat.zero_le _)
  have q2 := q s2.heap.objs.size (upd H1 s2.heap.objs.size (.lst [])) (by rw [vw_new (I1.newK (Nat.le_refl _))]; exact I1.fresh) (vw_same (Same.upd I1.fresh)) (by rw [vw_new (I1.newK (Nat.le_refl _))]; exact upd_same)
  have fr2 : ∀ b ∈ fp, (upd H1 s2.heap.objs.size (.lst [])) b = none := fun b hb => by
    obtain ⟨o, ho, _⟩ := T.obj _ _ st1 b hb
    rw [upd_ne (Nat.ne_of_lt (Heap.lt_size ho))]
    exact (f1 b hb).1
  generalize hH2 : upd H1 s2.heap.objs.size (.lst []) = H2 at I2 q2 fr2
  generalize hs3 : s2.heap.push { cls := .type "list", dict := none, data := .seq ([] : List Value).toArray } = hp3 at I2 hns₁ hsb₁ ⊢
  have old23 : ∀ b o, s2.heap.get? b = some o → hp3.get? b = some o := fun b o e => hs3 ▸ Heap.get?_push_of_some _ e
  have ltC : ∀ {b : Addr} {o : Obj}, hp3.get? b = some o → b ≠ hp3.objs.size := fun e => Nat.ne_of_lt (Heap.lt_size e)
  have old : ∀ b o, hp3.get? b = some o → h₁.get? b = some o := fun b o e => hsb₁.extBut b o (ltC e) (Heap.get?_push_of_some _ e)
  have clc : ∀ x c, cl.lookup x = some c → X.env.cells.lookup x = some c := fun x c e => S.cells.mem (x, c) (PySem.mem_of_lookup e)
  obtain ⟨W, ⟨m0, w0⟩, turn⟩ := q2
  -- the block's context
  have fpo : ∀ b ∈ fp, ∃ o, hp3.get? b = some o := fun b hb => by
    obtain ⟨o, ho, _⟩ := T.obj _ _ st1 b hb
    exact ⟨o, old23 b o ho⟩
  have ok : (cxC X scope cl (own ++ outs) hp3.objs.size { s2 with heap := hp3 } H2 fp).Ok := by
    refine ⟨I.ok.mod, S.kind, I.ok.glob, I.ok.blt, Nat.le_refl _, fun x y c e1 e2 => I.ok.inj x y c (clc x c e1) (clc y c e2), fun x hx => ?_, fun x c hf _ => (by cases hf), I.ok.hd, I.ok.frames, .inl rfl, fun b hb => ⟨?_, fun x c e => ?_⟩, I2.bs, Nat.le_trans I.ok.bsz I2.sz, fun b o e hb => ?_, fun b hb hz => ?_, I2.stack, I2.stkFree⟩
    · have hx' : (relabel scope X.env).names.lookup x = some .cell ∨ (relabel scope X.env).names.lookup x = some .free := hx
      have : (cl.lookup x).isSome = true := by
        rcases hx' with e | e
        · exact Shs _ (PySem.mem_of_lookup e) (.inl rfl)
        · exact Shs _ (PySem.mem_of_lookup e) (.inr rfl)
      exact Option.isSome_iff_exists.mp this
    · obtain ⟨o, ho⟩ := fpo b hb
      exact ltC ho
    · exact (f1 b hb).2.2.2.2.1 x c (clc x c e)
    · rcases (f1 b hb).2.2.2.1 with z | z
      · exact I.ok.noex b o e z
      · exact absurd (Nat.lt_of_lt_of_le (Heap.lt_size e) (Nat.le_trans I.ok.bsz z)) (Nat.lt_irrefl _)
    · rcases List.mem_cons.mp (I2.stkSub b hz) with z | z
      · exact (f1 b hb).2.1 z
      · exact (f1 b hb).2.2.1 z
  have I4 : Inv (cxC X scope cl (own ++ outs) hp3.objs.size { s2 with heap := hp3 } H2 fp) [] (List.replicate own.length none ++ outV σ ixs) H2 { s2 with heap := h₁, toks := s2.toks + ([] : List (Str × Value)).length } := by
    refine ⟨ok, rfl, I2.bare, Un.kept old, ⟨_, hns₁, fun i x v e1 e2 e3 => ?_⟩, fun x c e => ?_, I2.hok.fresh (Nat.le_refl _), fun x c e => I2.freeC x c (clc x c e), fun p hp => by simp [cxC] at hp, I2.hok.kept old, ?_⟩
    · have e1' : (own ++ outs)[i]? = some x := e1
      have hi' : own.length ≤ i := by
        by_cases hlt : i < own.length
        · rw [List.getElem?_append_left (by simpa using hlt), List.getElem?_replicate, if_pos hlt] at e2
          cases e2
        · walk_at "o"
      rw [List.getElem?_append_right (by simpa using hi')] at e2
      rw [List.getElem?_append_right hi'] at e1'
      rw [List.length_replicate] at e2
      unfold outV at e2
      rw [List.getElem?_map] at e2
      cases ej : ixs[i - own.length]? with
      | none => rw [ej] at e2; cases e2
      | some j =>
        rw [ej] at e2
        obtain ⟨hN, hk, hr, c, hcl⟩ := S.outs.get e1' ej
        have e4 : (σ[j]?).join = some v := Option.some.inj e2
        have e5 : σ[j]? = some (some v) := by
          cases es : σ[j]? with
          | none => rw [es] at e4; cases e4
          | some o => rw [es] at e4; exact congrArg some e4
        obtain ⟨m, hn, hl⟩ := I2.loc
        obtain ⟨u, ru, l⟩ := hl j x v hN e5 (.inr (.inl hk))
        refine ⟨u, ru, .inr ⟨.inl hr, c, hcl, ?_⟩⟩
        rcases l with ⟨z, _⟩ | ⟨_, c', hc', cell⟩
        · rw [hk] at z; cases z
        · rw [clc x c hcl] at hc'
          cases hc'
          obtain ⟨o, ho, hd⟩ := cell
          exact ⟨o, old _ _ ho, hd⟩
    · obtain ⟨v, o, ho, hd⟩ := I2.cell x c (clc x c e)
      exact ⟨v, o, old _ _ ho, hd⟩
    · show (List.replicate own.length none ++ outV σ ixs).length = (own ++ outs).length
      unfold outV
      rw [List.length_append, List.length_append, List.length_replicate, List.length_map, S.outs.length]
  obtain ⟨hg, hf, hi2, hg2, hf2, he⟩ := hb hp3.objs.size { s2 with heap := hp3 } H2 fp (hG _ _ _ _ I2 f1)
  have stat : ∀ {H' : Hp}, (∀ b ∈ fp, H' b = none) → ∀ b ∈ fp, FpOk (cxC X scope cl (own ++ outs) hp3.objs.size { s2 with heap := hp3 } H2 fp) [] H' b := fun hn b hb =>
    ⟨hn b hb, (ok.exf b hb).1, ok.exfs b hb, .inl hb, (ok.exf b hb).2, fun p hp => by simp [cxC] at hp⟩
  have noE : ∀ {α : Type} {t : Sem α} {Q' : α → Shared → Prop} {s' : Shared} {E' : Value → Shared → Prop}, wpAny (model X.prog X.w) X.A t Q' (fun _ _ => False) s' → wpAny (model X.prog X.w) X.A t Q' E' s' := fun h => wpAny_mono h (fun _ _ z => z) fun _ _ z => z.elim
  have loop : codeAny (model X.prog X.w) X.A (.compLoop (.ListComp elt [⟨tg, iter, ifs, 0⟩, ⟨tg2, iter2, ifs2, 0⟩] scope pos) 0 (.ref it) (.ref s2.heap.objs.size) (compEnvC scope cl hp3.objs.size X.env))
      (compPost (model X.prog X.w) X.A X.xe use Qv (.ref s2.heap.objs.size) hp3.objs.size) { s2 with heap := h₁, toks := s2.toks + ([] : List (Str × Value)).length } := by
    refine loop2o rfl (hs2 _) (fun n s' => ∃ i σ' H', Inv (cxC X scope cl (own ++ outs) hp3.objs.size { s2 with heap := hp3 } H2 fp) [] σ' H' s' ∧ tn i s'.heap ∧ (∀ b ∈ fp, H' b = none) ∧ W i n σ' H') ?_ m0
      ⟨0, _, H2, I4, T.keep _ _ _ st1 fun b hb o e => old b o (old23 b o e), fr2, w0⟩
    rintro n s' ⟨i, σ', H', I', st', fr', w'⟩
    rcases turn i n σ' H' w' with ⟨stop, qn⟩ | ⟨go, N, hN, step⟩
    · refine thn (T.done (cxC X scope cl (own ++ outs) hp3.objs.size { s2 with heap := hp3 } H2 fp) rfl rfl rfl hc i [] s' σ' H' _ I' (stat fr') st' stop) fun r s4 ⟨hr, I4'⟩ => ?_
      subst hr
      obtain ⟨m, hn, _⟩ := I4'.loc
      have kC : ∀ b o, b ≠ hp3.objs.size → s4.heap.get? b = some o → s4.heap.get? b = some o := fun b o hb e => e
      have tC : ∀ b u, H' b = some u → b ≠ hp3.objs.size := fun b u e z => by
        have := I4'.free
        rw [z] at e
        rw [show H' hp3.objs.size = none from this] at e
        cases e
      have base := I4'.base
      have un : Un (frs X.stack) fp H2 H' hp3 s4.heap := ⟨fun b o e n1 hb hx => kC b o (ltC e) (base.keep b o e n1 hb hx), fun b o e n1 hb hx => by
          obtain ⟨sl, z⟩ := base.slot b o e n1 hb hx
          exact ⟨sl, kC b _ (ltC e) z⟩, base.free, fun b o e hx => by
          obtain ⟨o', z⟩ := base.there b o e hx
          exact ⟨o', kC b o' (ltC e) z⟩, base.tups, base.frzs, base.tbls⟩
      exact hfin _ _ H' s4 m (I2.call' (s' := s4) (ch := fp) I4'.os un I4'.hok I4'.bare (fun b hb => ⟨(f1 b hb).2.2.2.1, (f1 b hb).2.1, (f1 b hb).2.2.2.2.1, (f1 b hb).2.2.2.2.2⟩)) (I2.fpOk (Nat.le_refl _) I4'.free) hn qn
    · refine thn (T.item (cxC X scope cl (own ++ outs) hp3.objs.size { s2 with heap := hp3 } H2 fp) rfl rfl rfl hc i [] s' σ' H' _ I' (stat fr') st' go) fun r s4 ⟨u, hr, h4⟩ => ?_
      subst hr
      refine thn h4 fun _ s5 ⟨x, H5, I5, r5, y5, st5, fr5⟩ => ?_
      have I5' := I5.pinned (stat fr5) (T.obj _ _ st5)
      have back : ∀ {σ7 : St} {H7 : Hp} {s7 : Shared}, Inv (cxC X scope cl (own ++ outs) hp3.objs.size { s2 with heap := hp3 } H2 fp) ([] ++ pinsAt fp s5.heap) σ7 H7 s7 → ∀ m', m' < n → W (i + 1) m' σ7 H7 →
          ∃ m, m < n ∧ ∃ i σ' H', Inv (cxC X scope cl (own ++ outs) hp3.objs.size { s2 with heap := hp3 } H2 fp) [] σ' H' s7 ∧ tn i s7.heap ∧ (∀ b ∈ fp, H' b = none) ∧ W i m σ' H' := fun {σ7 H7 s7} I7 m' hm w7 => by
        refine ⟨m', hm, i + 1, σ7, H7, I7.unpinned, T.keep _ _ _ st5 fun b hb o e => (I7.pin (b, o) (List.mem_append_right _ (List.mem_append_right _ (mem_pinsAt hb e)))).1, fun b hb => ?_, w7⟩
        obtain ⟨o, e, d⟩ := T.obj _ _ st5 b hb
        exact (I7.pin (b, o) (List.mem_append_right _ (List.mem_append_right _ (mem_pinsAt hb e)))).2.1
      refine thn (noE (hg _ s5 σ' H5 x u _ I5' r5 (step x H5 y5))) fun _ s6 ⟨σ6, H6, I6, q6⟩ => ?_
      refine thn (noE (hf _ s6 σ6 H6 _ I6 q6)) fun ok s7 ⟨H7, I7, q7⟩ => ?_
      cases ok with
      | false =>
        rw [if_neg Bool.false_ne_true] at q7 ⊢
        obtain ⟨m', hm, w7⟩ := hN _ _ q7
        exact back I7 m' hm w7
      | true =>
        rw [if_pos rfl] at q7 ⊢
        refine thn (noE (hi2 _ s7 σ6 H7 _ I7 q7)) fun xv s8 h8 => thn (noE h8) fun jv s9 h9 => ?_
        obtain ⟨it2, fp2, tn2, J2, H9, rfl, I9, T2, st9, f9, W2, ⟨m2, w2⟩, turn2⟩ := h9
        have stat2 : ∀ {H' : Hp}, (∀ b ∈ fp2, H' b = none) → ∀ b ∈ fp2, FpOk (cxC X scope cl (own ++ outs) hp3.objs.size { s2 with heap := hp3 } H2 fp) ([] ++ pinsAt fp s5.heap) H' b := fun hn b hb => ⟨hn b hb, (f9 b hb).2⟩
        have loop2 : codeAny (model X.prog X.w) X.A (.compLoop (.ListComp elt [⟨tg, iter, ifs, 0⟩, ⟨tg2, iter2, ifs2, 0⟩] scope pos) 1 (.ref it2) (.ref s2.heap.objs.size) (compEnvC scope cl hp3.objs.size X.env))
            (fun r s' => ∃ f, r = .ok f ∧ ∃ m, m < n ∧ ∃ i σ' H', Inv (cxC X scope cl (own ++ outs) hp3.objs.size { s2 with heap := hp3 } H2 fp) [] σ' H' s' ∧ tn i s'.heap ∧ (∀ b ∈ fp, H' b = none) ∧ W i m σ' H') s9 := by
          refine loop2i rfl (fun n2 s' => ∃ i σ' H', Inv (cxC X scope cl (own ++ outs) hp3.objs.size { s2 with heap := hp3 } H2 fp) ([] ++ pinsAt fp s5.heap) σ' H' s' ∧ tn2 i s'.heap ∧ (∀ b ∈ fp2, H' b = none) ∧ W2 i n2 σ' H') ?_ m2
            ⟨0, _, H9, I9, st9, fun b hb => (f9 b hb).1, w2⟩
          rintro n2 sa ⟨ia, σa, Ha, Ia, sta, fra, wa⟩
          rcases turn2 ia n2 σa Ha wa with ⟨stop2, qn2⟩ | ⟨go2, N2, hN2, step2⟩
          · refine thn (T2.done (cxC X scope cl (own ++ outs) hp3.objs.size { s2 with heap := hp3 } H2 fp) rfl rfl rfl hc ia _ sa σa Ha _ Ia (stat2 fra) sta stop2) fun r sb ⟨hr, Ib⟩ => ?_
            subst hr
            obtain ⟨m', hm, w7⟩ := hN _ _ qn2
            exact ⟨_, rfl, back Ib m' hm w7⟩
          · refine thn (T2.item (cxC X scope cl (own ++ outs) hp3.objs.size { s2 with heap := hp3 } H2 fp) rfl rfl rfl hc ia _ sa σa Ha _ Ia (stat2 fra) sta go2) fun r sb ⟨u2, hr, hb4⟩ => ?_
            subst hr
            refine thn hb4 fun _ sc ⟨x2, Hc, Ic, rc, yc, stc, frc⟩ => ?_
            have Ic' := Ic.pinned (stat2 frc) (T2.obj _ _ stc)
            have back2 : ∀ {σ7 : St} {H7 : Hp} {s7 : Shared}, Inv (cxC X scope cl (own ++ outs) hp3.objs.size { s2 with heap := hp3 } H2 fp) (([] ++ pinsAt fp s5.heap) ++ pinsAt fp2 sc.heap) σ7 H7 s7 → N2 σ7 H7 →
                ∃ m, m < n2 ∧ ∃ i σ' H', Inv (cxC X scope cl (own ++ outs) hp3.objs.size { s2 with heap := hp3 } H2 fp) ([] ++ pinsAt fp s5.heap) σ' H' s7 ∧ tn2 i s7.heap ∧ (∀ b ∈ fp2, H' b = none) ∧ W2 i m σ' H' := fun {σ7 H7 s7} I7 n7 => by
              obtain ⟨m', hm, w7⟩ := hN2 _ _ n7
              refine ⟨m', hm, ia + 1, σ7, H7, I7.unpinned, T2.keep _ _ _ stc fun b hb o e => (I7.pin (b, o) (List.mem_append_right _ (List.mem_append_right _ (mem_pinsAt hb e)))).1, fun b hb => ?_, w7⟩
              obtain ⟨o, e, d⟩ := T2.obj _ _ stc b hb
              exact (I7.pin (b, o) (List.mem_append_right _ (List.mem_append_right _ (mem_pinsAt hb e)))).2.1
            refine thn (noE (hg2 _ sc σa Hc x2 u2 _ Ic' rc (step2 x2 Hc yc))) fun _ sd ⟨σd, Hd, Id, qd⟩ => ?_
            refine thn (noE (hf2 _ sd σd Hd _ Id qd)) fun ok2 se ⟨He, Ie, qe⟩ => ?_
            cases ok2 with
            | false =>
              rw [if_neg Bool.false_ne_true] at qe ⊢
              exact back2 Ie qe
            | true =>
              rw [if_pos rfl] at qe ⊢
              refine thn (noE (he _ se σd He _ Ie qe)) fun v sf ⟨xv, Hf, If, rf, qf⟩ => ?_
              obtain ⟨xs, hxs, hz, qf⟩ := qf
              refine thn (noE (mt_append _ sf σd Hf (.ref s2.heap.objs.size) [xv] _ [v] (fun _ H9 => N2 σd H9) If rfl (.cons rf .nil) ⟨_, xs, xv, rfl, rfl, vw_lst hxs, hz, qf _ (vw_but But.upd) ((vw_new (show X.K.lookup _ = none from If.noK (vw_lst hxs))).trans upd_same)⟩)) fun _ sg ⟨_, Hg, Ig, _, ng⟩ => ?_
              exact back2 Ig ng
        exact start2i loop2 (T2.self _ 0 _ _ _ st9 loop2)
  exact codeAny_compStart_list loop (T.self _ 0 _ _ _ (T.keep _ _ _ st1 fun b hb o e => old b o (old23 b o e)) loop)
theorem qe_comp2 {tg iter tg2 iter2 elt : Expr} {ifs ifs2 : List Expr} {scope : Scope} {pos : Pos} {wi wi2 : TI} {g g2 : TG} {tif tif2 : TT} {te : TE} {cl : List (Str × Addr)} {own outs : List Str} {ixs : List Nat}
    (hc : X.calm = true) (hi : QI X tg iter wi) (hclos : closureFor scope X.env = pure cl) (S : CompSc X scope cl own outs ixs)
    (hb : ∀ C s H ex, QG (cxC X scope cl (own ++ outs) C s H ex) tg g ∧ QF (cxC X scope cl (own ++ outs) C s H ex) ifs tif ∧ QI (cxC X scope cl (own ++ outs) C s H ex) tg2 iter2 wi2 ∧ QG (cxC X scope cl (own ++ outs) C s H ex) tg2 g2 ∧ QF (cxC X scope cl (own ++ outs) C s H ex) ifs2 tif2 ∧ QE (cxC X scope cl (own ++ outs) C s H ex) elt te)
    (hs : ∀ x, foldedSetIterable iter X.env x = pure x := by intro _; rfl) (hs2 : ∀ C x, foldedSetIterable iter2 (compEnvC scope cl C X.env) x = pure x := by intro _ _; rfl) :
    QE X (.ListComp elt [⟨tg, iter, ifs, 0⟩, ⟨tg2, iter2, ifs2, 0⟩] scope pos) (tComp2 X.K wi own.length ixs g tif wi2 g2 tif2 te) := ⟨by
  intro pins s σ H Q I h
  rw [eval_ListComp]
  refine comp_core2 (G := fun _ _ _ => True) hc hi.h hclos S (fun C s H ex _ => ⟨(hb C s H ex).1.h, (hb C s H ex).2.1.h, (hb C s H ex).2.2.1.h, (hb C s H ex).2.2.2.1.h, (hb C s H ex).2.2.2.2.1.h, (hb C s H ex).2.2.2.2.2.h⟩) hs hs2 (fun _ _ _ _ _ _ => trivial) I (fun a H' => Q (.ref a) H') (fun a C H' s4 m J4 fC hn q => ⟨m, hn, fun h' hsb => ?_⟩) h
  obtain ⟨f0, f1, f2, f3, f4, f5⟩ := fC
  exact ⟨.ref a, H', J4.turned (t' := s4.toks) (fun b o hb e => hsb.extBut b o hb e) f0 f1 f3 f4 f5, rfl, q⟩⟩
end
end L2

set_option Elab.async false
set_option linter.all false
set_option maxRecDepth 100000
namespace L2
open PySem PySem.Spec PyProof.Rows
section
variable {X : Cx}
end
section
variable {P : Program} {w : World} {K : PySem.W.Frag} {mg : Str → Option Value} {base : Heap}
end
end L2

set_option Elab.async false
set_option linter.all false
set_option maxRecDepth 100000
namespace L2
open PySem PySem.Spec PyProof.Rows
theorem compIn_by {K : PySem.W.Frag} {J : It} {its : List V} {g : TG} {tif : TT} {te : TE} {a : Addr} {σ0 : St} {H0 : Hp} {Q : St → Hp → Prop} (Pv : Nat → St → Hp → Prop) (hl : ∀ i σ H, i ≤ its.length → Pv i σ H → Items J H its) (h0 : Pv 0 σ0 H0)
    (hs : ∀ i x σ H, i < its.length → its[i]? = some x → Pv i σ H → g x σ H fun σ2 H2 => tif σ2 H2 fun b H3 => if b = true then te σ2 H3 (CEl K a (Pv (i + 1) σ2)) else Pv (i + 1) σ2 H3)
    (hd : ∀ σ H, Pv its.length σ H → Q σ H) : CompIn K J g tif te a σ0 H0 Q := by
  refine ⟨fun i m σ H => m = its.length - i ∧ i ≤ its.length ∧ Pv i σ H, ⟨_, rfl, Nat.zero_le _, h0⟩, ?_⟩
  rintro i m σ H ⟨rfl, hi, p⟩
  obtain ⟨q1, q2, q3⟩ := hl i σ H hi p
  by_cases hlt : i < its.length
  · refine .inr ⟨q1 i hlt, Pv (i + 1), fun σ' H' p' => ⟨_, by walk_at "o", rfl, hlt, p'⟩, fun x H' y => ?_⟩
    obtain ⟨e, y2⟩ := q2 i x H' hlt y
    subst e
    exact hs i x σ _ hlt y2 p
  · have e : i = its.length := by walk_at "o"
    subst e
    exact .inl ⟨q3, hd σ H p⟩
theorem comp2_by {K : PySem.W.Frag} {J : It} {its : List V} {g g2 : TG} {tif tif2 : TT} {wi2 : TI} {te : TE} {a : Addr} {σ0 : St} {H0 : Hp} {Q : Hp → Prop} (Pv : Nat → St → Hp → Prop) (hl : ∀ i σ H, i ≤ its.length → Pv i σ H → Items J H its) (h0 : Pv 0 σ0 H0)
    (hs : ∀ i x σ H, i < its.length → its[i]? = some x → Pv i σ H → g x σ H fun σ2 H2 => tif σ2 H2 fun b H3 => if b = true then wi2 σ2 H3 (fun J2 H4 => CompIn K J2 g2 tif2 te a σ2 H4 (Pv (i + 1))) else Pv (i + 1) σ2 H3)
    (hd : ∀ σ H, Pv its.length σ H → Q H) : CompOK2 K J g tif wi2 g2 tif2 te a σ0 H0 Q := by
  refine ⟨fun i m σ H => m = its.length - i ∧ i ≤ its.length ∧ Pv i σ H, ⟨_, rfl, Nat.zero_le _, h0⟩, ?_⟩
  rintro i m σ H ⟨rfl, hi, p⟩
  obtain ⟨q1, q2, q3⟩ := hl i σ H hi p
  by_cases hlt : i < its.length
  · refine .inr ⟨q1 i hlt, Pv (i + 1), fun σ' H' p' => ⟨_, by walk_at "o", rfl, hlt, p'⟩, fun x H' y => ?_⟩
    obtain ⟨e, y2⟩ := q2 i x H' hlt y
    subst e
    exact hs i x σ _ hlt y2 p
  · have e : i = its.length := by walk_at "o"
    subst e
    exact .inl ⟨q3, hd σ H p⟩
end L2

set_option Elab.async false
set_option linter.all false
set_option maxRecDepth 100000
namespace L2
open PySem PySem.Spec PyProof.Rows PySem.W
structure Prm (n : Nat) (p : Array Nat) : Prop where
  perm : p.toList.Perm (List.range n)
theorem Prm.size {n : Nat} {p : Array Nat} (P : Prm n p) : p.size = n := by
  have := P.perm.length_eq
  rw [List.length_range, Array.length_toList] at this
  exact this
theorem Prm.of {n : Nat} {p q : Array Nat} (P : Prm n p) (h : q.Perm p) : Prm n q := ⟨h.toList.trans P.perm⟩
theorem getD_at {p : Array Nat} {i : Nat} (h : i < p.size) : p.getD i 0 = p.toList[i]'(by rw [Array.length_toList]; exact h) := by
  simp [Array.getD, h]
theorem Prm.lt {n : Nat} {p : Array Nat} (P : Prm n p) {i : Nat} (h : i < n) : p.getD i 0 < n := by
  rw [← P.size] at h
  rw [getD_at h]
  exact List.mem_range.mp (P.perm.mem_iff.mp (List.getElem_mem _))
theorem Prm.ne {n : Nat} {p : Array Nat} (P : Prm n p) {i j : Nat} (hi : i < n) (hj : j < n) (hij : i ≠ j) : p.getD i 0 ≠ p.getD j 0 := by
  rw [← P.size] at hi hj
  rw [getD_at hi, getD_at hj]
  have nd : p.toList.Nodup := P.perm.nodup_iff.mpr List.nodup_range
  rw [List.nodup_iff_pairwise_ne, List.pairwise_iff_getElem] at nd
  rcases Nat.lt_or_gt_of_ne hij with z | z
  · exact nd _ _ _ _ z
  · exact fun e => nd _ _ _ _ z e.symm
theorem getD_q (p : Array Nat) (i : Nat) : p.getD i 0 = (p[i]?).getD 0 := by simp
section
variable {cmp : Nat → Nat → (Bool → Shared → Prop) → Shared → Prop} {s : Shared} {n : Nat} {key : Nat → Int} {p : Array Nat}
def Asks (cmp : Nat → Nat → (Bool → Shared → Prop) → Shared → Prop) (s : Shared) (n : Nat) (key : Nat → Int) : Prop := ∀ (i j : Nat) (C : Bool → Shared → Prop), i < n → j < n → i ≠ j → C (decide (key i < key j)) s → cmp i j C s
def kvA (key : Nat → Int) (p : Array Nat) (i : Nat) : Int := key (p.getD i 0)
def UpTo (key : Nat → Int) (m : Nat) (p : Array Nat) : Prop := ∀ i j, i < j → j < m → kvA key p i < kvA key p j
def DownTo (key : Nat → Int) (m : Nat) (p : Array Nat) : Prop := ∀ i j, i < j → j < m → kvA key p j < kvA key p i
def InjK (key : Nat → Int) (n : Nat) : Prop := ∀ i j, i < n → j < n → key i = key j → i = j
theorem Asks.at {C : Bool → Shared → Prop} (h : Asks cmp s n key) (P : Prm n p) {i j : Nat} (hi : i < n) (hj : j < n) (hij : i ≠ j) (hC : C (decide (kvA key p i < kvA key p j)) s) : cmp (p.getD i 0) (p.getD j 0) C s :=
  h _ _ _ (P.lt hi) (P.lt hj) (P.ne hi hj hij) hC
theorem InjK.ne (h : InjK key n) (P : Prm n p) {i j : Nat} (hi : i < n) (hj : j < n) (hij : i ≠ j) : kvA key p i ≠ kvA key p j := fun e => P.ne hi hj hij (h _ _ (P.lt hi) (P.lt hj) e)
theorem up_next {m : Nat} (h : UpTo key m p) (h1 : 1 ≤ m) (hl : kvA key p (m - 1) < kvA key p m) : UpTo key (m + 1) p := by
  intro i j hij hj
  by_cases e : j = m
  · subst e
    by_cases e2 : i = j - 1
    · subst e2
      exact hl
    · exact Int.lt_trans (h i (j - 1) (by walk_at "o") (by walk_at "o")) hl
  · exact h i j hij (by walk_at "o")
theorem down_next {m : Nat} (h : DownTo key m p) (h1 : 1 ≤ m) (hl : kvA key p m < kvA key p (m - 1)) : DownTo key (m + 1) p := by
  intro i j hij hj
  by_cases e : j = m
  · subst e
    by_cases e2 : i = j - 1
    · subst e2
      exact hl
    · exact Int.lt_trans hl (h i (j - 1) (by walk_at "o") (by walk_at "o"))
  · exact h i j hij (by walk_at "o")
theorem asc_ok {Q : Nat → Shared → Prop} (hA : Asks cmp s n key) (hI : InjK key n) (P : Prm n p) : ∀ f a, 1 ≤ a → a + f ≤ n → UpTo key a p → (∀ m, a ≤ m → m ≤ a + f → UpTo key m p → (m = a + f ∨ kvA key p m < kvA key p (m - 1)) → Q m s) → (kas_asc p f a).kasWp cmp Q s
  | 0, a, h1, hn, hu, h => h a (Nat.le_refl _) (by walk_at "o") hu (.inl rfl)
  | f + 1, a, h1, hn, hu, h => by
    show cmp (p.getD a 0) (p.getD (a - 1) 0) (fun c s' => (if c = true then KasT.ret a else kas_asc p f (a + 1)).kasWp cmp Q s') s
    refine hA.at P (by walk_at "o") (by walk_at "o") (by walk_at "o") ?_
    by_cases e : kvA key p a < kvA key p (a - 1)
    · rw [decide_eq_true e]
      exact h a (Nat.le_refl _) (by walk_at "o") hu (.inr e)
    · rw [decide_eq_false e]
      have ne := hI.ne P (i := a) (j := a - 1) (by walk_at "o") (by walk_at "o") (by walk_at "o")
      refine asc_ok hA hI P f (a + 1) (by walk_at "o") (by walk_at "o") (up_next hu h1 (by walk_at "o")) fun m m1 m2 m3 m4 => h m (by walk_at "o") (by walk_at "o") m3 ?_
      rcases m4 with z | z
      · exact .inl (by walk_at "o")
      · exact .inr z
theorem desc_ok {Q : Array Nat × Nat × Nat → Shared → Prop} (hA : Asks cmp s n key) (hI : InjK key n) (P : Prm n p) : ∀ f a, 1 ≤ a → a + f ≤ n → DownTo key a p → (∀ m, a ≤ m → m ≤ a + f → DownTo key m p → Q (p, m, 0) s) → (kas_desc f p a 0).kasWp cmp Q s
  | 0, a, h1, hn, hu, h => h a (Nat.le_refl _) (by walk_at "o") hu
  | f + 1, a, h1, hn, hu, h => by
    show cmp (p.getD a 0) (p.getD (a - 1) 0) (fun c s' => (if c = true then (if 0 > 0 then kas_desc f (kas_rev p (a - (0 + 1)) a) (a + 1) 0 else kas_desc f p (a + 1) 0) else .ask (p.getD (a - 1) 0) (p.getD a 0) fun d => if d = true then .ret (p, a, 0) else kas_desc f p (a + 1) (0 + 1)).kasWp cmp Q s') s
    refine hA.at P (by walk_at "o") (by walk_at "o") (by walk_at "o") ?_
    by_cases e : kvA key p a < kvA key p (a - 1)
    · rw [decide_eq_true e]
      exact desc_ok hA hI P f (a + 1) (by walk_at "o") (by walk_at "o") (down_next hu h1 e) fun m m1 m2 m3 => h m (by walk_at "o") (by walk_at "o") m3
    · rw [decide_eq_false e]
      have ne := hI.ne P (i := a) (j := a - 1) (by walk_at "o") (by walk_at "o") (by walk_at "o")
      show cmp (p.getD (a - 1) 0) (p.getD a 0) (fun d s' => (if d = true then KasT.ret (p, a, 0) else kas_desc f p (a + 1) (0 + 1)).kasWp cmp Q s') s
      refine hA.at P (by walk_at "o") (by walk_at "o") (by walk_at "o") ?_
      rw [decide_eq_true (show kvA key p (a - 1) < kvA key p a by walk_at "o")]
      exact h a (Nat.le_refl _) (by walk_at "o") hu
theorem rev_at {m k : Nat} (hm : m ≤ p.size) : kvA key (kas_rev p 0 m) k = if k < m then kvA key p (m - 1 - k) else kvA key p k := by
  have e := getElem?_mirror_all (xs := p) (i := 0) (j := m) hm k
  unfold kvA kas_rev
  rw [getD_q, e, getD_q, getD_q]
  by_cases h : k < m
  · rw [if_pos ⟨Nat.zero_le _, h⟩, if_pos h, Nat.zero_add]
  · rw [if_neg (fun z => h z.2), if_neg h]
theorem up_rev {m : Nat} (hm : m ≤ p.size) (h : DownTo key m p) : UpTo key m (kas_rev p 0 m) := by
  intro i j hij hj
  rw [rev_at hm, rev_at hm, if_pos (by walk_at "o"), if_pos hj]
  exact h _ _ (by walk_at "o") (by walk_at "o")
theorem count_ok {Q : Nat × Array Nat → Shared → Prop} (hA : Asks cmp s n key) (hI : InjK key n) (P : Prm n p) (h1 : 1 ≤ n) (h : ∀ m q, 1 ≤ m → m ≤ n → Prm n q → UpTo key m q → Q (m, q) s) : (kas_count n p).kasWp cmp Q s := by
  unfold kas_count
  rw [KasT.kasWp_bind]
  refine asc_ok hA hI P (n - 1) 1 (Nat.le_refl _) (by walk_at "o") (fun i j _ _ => by walk_at "o") fun m m1 m2 m3 m4 => ?_
  show (if (m == n) = true then KasT.ret (m, p) else if m > 1 then .ask (p.getD 0 0) (p.getD (m - 1) 0) fun c => if c = true then .ret (m, p) else kas_descPart m n (kas_rev p 0 m) else kas_descPart m n p).kasWp cmp Q s
  by_cases e : m = n
  · rw [if_pos (by simp [e])]
    exact h m p m1 (by walk_at "o") P m3
  · rw [if_neg (by simp [e])]
    have m4' : kvA key p m < kvA key p (m - 1) := m4.resolve_left (by walk_at "o")
    by_cases e2 : m > 1
    · rw [if_pos e2]
      show cmp (p.getD 0 0) (p.getD (m - 1) 0) (fun c s' => (if c = true then KasT.ret (m, p) else kas_descPart m n (kas_rev p 0 m)).kasWp cmp Q s') s
      refine hA.at P (by walk_at "o") (by walk_at "o") (by walk_at "o") ?_
      rw [decide_eq_true (m3 0 (m - 1) (by walk_at "o") (by walk_at "o"))]
      exact h m p m1 (by walk_at "o") P m3
    · rw [if_neg e2]
      obtain rfl : m = 1 := by walk_at "o"
      unfold kas_descPart
      rw [KasT.kasWp_bind]
      refine desc_ok hA hI P _ _ (by walk_at "o") (by walk_at "o") (fun i j hij hj => by
        obtain rfl : j = 1 := by walk_at "o"
        obtain rfl : i = 0 := by walk_at "o"
        exact m4') fun r r1 r2 r3 => ?_
      show (if 0 > 0 then kas_tail3 r n (kas_rev p (r - (0 + 1)) r) else kas_tail3 r n p).kasWp cmp Q s
      rw [if_neg (by walk_at "o")]
      unfold kas_tail3
      rw [KasT.kasWp_bind]
      have P2 : Prm n (kas_rev p 0 r) := P.of (mirror_perm _ _ _ _)
      refine asc_ok hA hI P2 _ _ (by walk_at "o") (by walk_at "o") (up_rev (by rw [P.size]; walk_at "o") r3) fun m' m1' m2' m3' _ => ?_
      exact h m' _ (by walk_at "o") (by walk_at "o") P2 m3'
theorem place_ok {Q : Nat → Shared → Prop} {k : Nat} (hA : Asks cmp s n key) (hI : InjK key n) (P : Prm n p) (hk : k < n) (hu : UpTo key k p) : ∀ f l r, l ≤ r → r ≤ k → r - l ≤ f → (∀ i, i < l → kvA key p i < kvA key p k) → (∀ i, r ≤ i → i < k → kvA key p k < kvA key p i) →
    (∀ l', l' ≤ k → (∀ i, i < l' → kvA key p i < kvA key p k) → (∀ i, l' ≤ i → i < k → kvA key p k < kvA key p i) → Q l' s) → (kas_place p k f l r).kasWp cmp Q s
  | 0, l, r, h1, h2, h3, a, b, h => by
    obtain rfl : l = r := by walk_at "o"
    exact h l h2 a b
  | f + 1, l, r, h1, h2, h3, a, b, h => by
    show (if l ≥ r then KasT.ret l else .ask (p.getD k 0) (p.getD ((l + r) / 2) 0) fun c => if c = true then kas_place p k f l ((l + r) / 2) else kas_place p k f ((l + r) / 2 + 1) r).kasWp cmp Q s
    by_cases e : l ≥ r
    · rw [if_pos e]
      obtain rfl : l = r := by walk_at "o"
      exact h l h2 a b
    · rw [if_neg e]
      show cmp (p.getD k 0) (p.getD ((l + r) / 2) 0) (fun c s' => (if c = true then kas_place p k f l ((l + r) / 2) else kas_place p k f ((l + r) / 2 + 1) r).kasWp cmp Q s') s
      refine hA.at P hk (by walk_at "o") (by walk_at "o") ?_
      by_cases c : kvA key p k < kvA key p ((l + r) / 2)
      · rw [decide_eq_true c]
        refine place_ok hA hI P hk hu f l ((l + r) / 2) (by walk_at "o") (by walk_at "o") (by walk_at "o") a (fun i i1 i2 => ?_) h
        by_cases z : i = (l + r) / 2
        · rw [z]; exact c
        · exact Int.lt_trans c (hu _ _ (by walk_at "o") i2)
      · rw [decide_eq_false c]
        have ne := hI.ne P (i := k) (j := (l + r) / 2) hk (by walk_at "o") (by walk_at "o")
        have c' : kvA key p ((l + r) / 2) < kvA key p k := by walk_at "o"
        refine place_ok hA hI P hk hu f ((l + r) / 2 + 1) r (by walk_at "o") h2 (by walk_at "o") (fun i i1 => ?_) b h
        by_cases z : i = (l + r) / 2
        · rw [z]; exact c'
        · exact Int.lt_trans (hu _ _ (show i < (l + r) / 2 by walk_at "o") (by walk_at "o")) c'
theorem bub_at {k l j : Nat} (hk : k < p.size) (hl : l ≤ k) : kvA key (bubble p k (k - l)) j = if j = l then kvA key p k else if l < j ∧ j ≤ k then kvA key p (j - 1) else kvA key p j := by
  have e := getElem?_bubble hk (k - l) (by walk_at "o") j
  rw [show k - (k - l) = l by walk_at "o"] at e
  unfold kvA
  rw [getD_q, e, getD_q p k, getD_q p (j - 1), getD_q p j]
  by_cases h1 : j = l
  · rw [if_pos h1, if_pos h1]
  · rw [if_neg h1, if_neg h1]
    by_cases h2 : l < j ∧ j ≤ k
    · rw [if_pos h2, if_pos h2]
    · rw [if_neg h2, if_neg h2]
theorem bin_ok {Q : Array Nat → Shared → Prop} (hA : Asks cmp s n key) (hI : InjK key n) : ∀ f (p : Array Nat) k, k + f = n → Prm n p → UpTo key k p → (∀ q, Prm n q → UpTo key n q → Q q s) → (kas_bin f p k).kasWp cmp Q s
  | 0, p, k, e, P, hu, h => by
    obtain rfl : k = n := by walk_at "o"
    exact h p P hu
  | f + 1, p, k, e, P, hu, h => by
    show ((kas_place p k k 0 k).bind fun l => kas_bin f (bubble p k (k - l)) (k + 1)).kasWp cmp Q s
    rw [KasT.kasWp_bind]
    refine place_ok hA hI P (by walk_at "o") hu k 0 k (Nat.zero_le _) (Nat.le_refl _) (by walk_at "o") (fun i hi => by walk_at "o") (fun i h1 h2 => by walk_at "o") fun l l1 l2 l3 => ?_
    have P2 : Prm n (bubble p k (k - l)) := P.of (bubble_perm _ _ _)
    refine bin_ok hA hI f _ (k + 1) (by walk_at "o") P2 ?_ h
    intro i j hij hj
    have hk : k < p.size := by rw [P.size]; walk_at "o"
    rw [bub_at hk l1, bub_at hk l1]
    by_cases e1 : i = l
    · rw [if_pos e1, if_neg (by walk_at "o"), if_pos (by walk_at "o")]
      exact l3 _ (by walk_at "o") (by walk_at "o")
    · rw [if_neg e1]
      by_cases e2 : j = l
      · rw [if_pos e2, if_neg (by walk_at "o")]
        exact l2 _ (by walk_at "o")
      · rw [if_neg e2]
        by_cases e3 : l < i ∧ i ≤ k
        · rw [if_pos e3, if_pos (by walk_at "o")]
          exact hu _ _ (by walk_at "o") (by walk_at "o")
        · rw [if_neg e3]
          by_cases e4 : l < j ∧ j ≤ k
          · rw [if_pos e4]
            exact hu _ _ (by walk_at "o") (by walk_at "o")
          · rw [if_neg e4]
            exact hu _ _ hij (by walk_at "o")
theorem kas_sorts {Q : Array Nat → Shared → Prop} (hA : Asks cmp s n key) (hI : InjK key n) (h1 : 1 ≤ n) (h : ∀ q, Prm n q → UpTo key n q → Q q s) : (kas_sort n).kasWp cmp Q s := by
  unfold kas_sort
  rw [KasT.kasWp_bind]
  refine count_ok hA hI ⟨by simp⟩ h1 fun m q m1 m2 P hu => ?_
  show (if m < n then kas_bin (n - max m 1) q (max m 1) else KasT.ret q).kasWp cmp Q s
  by_cases e : m < n
  · rw [if_pos e, show max m 1 = m by walk_at "o"]
    exact bin_ok hA hI _ q m (by walk_at "o") P hu h
  · rw [if_neg e]
    obtain rfl : m = n := by walk_at "o"
    exact h q P hu
end
end L2

set_option Elab.async false
set_option linter.all false
set_option maxRecDepth 100000
namespace L2
open PySem PySem.Spec PyProof.Rows PySem.W
section
variable {prog : Program} {w : World} {A : Around} {E : Value → Shared → Prop} {s : Shared} {z TI TO i1 i2 T : Addr} {f1 f2 : List Addr} {n1 n2 k : Nat} {P1 P2 : Nat → Value → Prop} {T1 T2 : Nat → Heap → Prop} {bb : Bool} {oT : Obj}
def ZipB (h : Heap) (z TI TO T : Addr) (b : Bool) : Prop := h.get? z = some { cls := .type "zip", data := .fields #[rawInt T, .bool b, .bool false, .ref TI, .ref TO] }
theorem freeB {Q : Bool → Shared → Prop} (hz : ZipB s.heap z TI TO T bb) (hT : s.heap.get? T = some oT) (h : ∀ g, ZipB g z TI TO T true → Heap.SameBut z s.heap g → Q false { s with heap := g }) : wpAny (model prog w) A (Builtin.SmallTypes.ownedTupleIsFree (.ref z)) Q E s := by
  unfold Builtin.SmallTypes.ownedTupleIsFree
  refine wpAny_bind (wpAny_field hz rfl (x := rawInt T) rfl ?_); show wpAny _ _ (loadIfAlive ((T : Int).toNat) >>= _) _ _ _
  rw [Int.toNat_natCast]; refine wpAny_bind (kdx_alive hT ?_)
  simp only [Option.isNone_some, Bool.false_eq_true, if_false]; refine wpAny_bind (wpAny_field hz rfl (x := .bool bb) rfl ?_)
  cases bb with
  | true => rw [if_neg (show ¬ ((Value.bool true != Value.bool true) = true) from Bool.false_ne_true)]; exact wpAny_pure (h s.heap hz (Heap.SameBut.refl _ _))
  | false => rw [if_pos (show (Value.bool false != Value.bool true) = true from rfl)]; exact wpAny_bind (wpAny_setField_rec hz (by simp) fun g e1 e2 => wpAny_pure (h g e1 e2))
theorem zipB_item {Q : Value → Shared → Prop} (D1 : Draws prog w A i1 f1 n1 P1 T1) (D2 : Draws prog w A i2 f2 n2 P2 T2) (Z : ZApart z TI TO i1 i2 f1 f2) (hz : ZipB s.heap z TI TO T bb) (hTI : IsPair s.heap TI (.ref i1) (.ref i2)) (hT : s.heap.get? T = some oT)
    (h1 : T1 k s.heap) (h2 : T2 k s.heap) (k1 : k < n1) (k2 : k < n2)
    (hQ : ∀ x y g tk, P1 k x → P2 k y → ZipB g z TI TO T true → T1 (k + 1) g → T2 (k + 1) g → IsPair g s.heap.objs.size x y → g.objs.size = s.heap.objs.size + 1 →
      (∀ c o, c ∉ [z, i1, i2] → s.heap.get? c = some o → g.get? c = some o) → Q (.ref s.heap.objs.size) { s with heap := g, toks := tk }) :
    wpAny (model prog w) A (Builtin.«zip.__next__» ⟨[.ref z], []⟩) (fun fin s' => ∃ v, fin = .done (.ret v) ∧ Q v s') E s := by
  show wpAny _ _ (field (.ref z) 2 >>= _) _ _ _; refine wpAny_bind (wpAny_field hz rfl (x := .bool false) rfl ?_)
  show wpAny _ _ (field (.ref z) 3 >>= _) _ _ _; refine wpAny_bind (wpAny_field hz rfl (x := .ref TI) rfl ?_)
  refine wpAny_bind (wpAny_seqItems hTI rfl ?_); show wpAny _ _ (Builtin.SmallTypes.ownedTupleIsFree (.ref z) >>= _) _ _ _
  refine wpAny_bind (freeB hz hT fun g1 hz1 s1 => ?_)
  simp only [Bool.false_eq_true, if_false]
  refine wpAny_bind ?_; simp only [List.forIn_toArray, List.forIn_cons, List.forIn_nil]
  refine wpAny_bind (wpAny_bind (wpAny_holding ?_)); show wpAny _ _ (Builtin.SmallTypes.nextOf (.ref i1) >>= _) _ _ _
  refine wpAny_bind (D1.item k _ _ _ k1 (D1.frame k _ _ h1 fun c hc o e => s1.extBut _ _ (fun z' => Z.zf1 (z' ▸ hc)) e) fun x g2 tk2 p1 t1 s2 => wpAny_pure ?_)
  replace s2 : Heap.SameBut i1 g1 g2 := s2
  refine wpAny_pure (wpAny_bind (wpAny_bind (wpAny_holding ?_))); show wpAny _ _ (Builtin.SmallTypes.nextOf (.ref i2) >>= _) _ _ _
  have t2' : T2 k g2 := D2.frame k _ _ h2 fun c hc o e => s2.extBut _ _ (fun z' => Z.if2 (z' ▸ hc)) (s1.extBut _ _ (fun z' => Z.zf2 (z' ▸ hc)) e)
  refine wpAny_bind (D2.item k _ _ _ k2 t2' fun y g4 tk4 p2 t2 s4 => wpAny_pure ?_)
  replace s4 : Heap.SameBut i2 g2 g4 := s4
  refine wpAny_pure (wpAny_pure ?_)
  refine wpAny_bind (wpAny_newTuple ?_ (show 2 ≤ sizeLine by decide))
  have hsz : g4.objs.size = s.heap.objs.size := by rw [s4.1, s2.1, s1.1]
  have hz4 : ZipB g4 z TI TO T true := s4.extBut _ _ Z.z2 (s2.extBut _ _ Z.z1 hz1)
  have k5 : ∀ c o, c ∉ [z, i1, i2] → s.heap.get? c = some o → g4.get? c = some o := fun c o hc e => by
    simp only [List.mem_cons, List.not_mem_nil, or_false, not_or] at hc
    exact s4.extBut _ _ hc.2.2 (s2.extBut _ _ hc.2.1 (s1.extBut _ _ hc.1 e))
  have t15 : T1 (k + 1) g4 := D1.frame _ _ _ t1 fun c hc o e => s4.extBut _ _ (fun z' => Z.if1 (z' ▸ hc)) e
  refine wpAny_pure ⟨_, rfl, ?_⟩; show Q (.ref g4.objs.size) _; rw [hsz]
  refine hQ x y _ _ p1 p2 (Heap.get?_push_of_some _ hz4) (D1.frame _ _ _ t15 fun c _ o e => Heap.get?_push_of_some _ e) (D2.frame _ _ _ t2 fun c _ o e => Heap.get?_push_of_some _ e) ?_ ?_ fun c o hc e => Heap.get?_push_of_some _ (k5 c o hc e)
  · rw [← hsz]
    exact Heap.get?_push_size _ rfl
  · rw [Heap.size_push, hsz]
theorem zipB_end {Q : Fin → Shared → Prop} (D1 : Draws prog w A i1 f1 n1 P1 T1) (D2 : Draws prog w A i2 f2 n2 P2 T2) (Z : ZApart z TI TO i1 i2 f1 f2) (hz : ZipB s.heap z TI TO T bb) (hTI : IsPair s.heap TI (.ref i1) (.ref i2)) (hT : s.heap.get? T = some oT)
    (h1 : T1 k s.heap) (h2 : T2 k s.heap) (hk : k = n1 ∨ (k < n1 ∧ k = n2))
    (hE : ∀ g tk e, (∀ c o, c ∉ [z, i1, i2] → s.heap.get? c = some o → g.get? c = some o) → (∃ o, g.get? e = some o ∧ o.cls = .type "StopIteration") → E (.ref e) { s with heap := g, toks := tk }) :
    wpAny (model prog w) A (Builtin.«zip.__next__» ⟨[.ref z], []⟩) Q E s := by
  show wpAny _ _ (field (.ref z) 2 >>= _) _ _ _; refine wpAny_bind (wpAny_field hz rfl (x := .bool false) rfl ?_)
  show wpAny _ _ (field (.ref z) 3 >>= _) _ _ _; refine wpAny_bind (wpAny_field hz rfl (x := .ref TI) rfl ?_)
  refine wpAny_bind (wpAny_seqItems hTI rfl ?_); show wpAny _ _ (Builtin.SmallTypes.ownedTupleIsFree (.ref z) >>= _) _ _ _
  refine wpAny_bind (freeB hz hT fun g1 hz1 s1 => ?_)
  simp only [Bool.false_eq_true, if_false]
  refine wpAny_bind ?_; simp only [List.forIn_toArray, List.forIn_cons, List.forIn_nil]
  refine wpAny_bind (wpAny_bind (wpAny_holding ?_)); show wpAny _ _ (Builtin.SmallTypes.nextOf (.ref i1) >>= _) _ _ _
  have t1' : T1 k g1 := D1.frame k _ _ h1 fun c hc o e => s1.extBut _ _ (fun z' => Z.zf1 (z' ▸ hc)) e
  rcases hk with rfl | ⟨k1, rfl⟩
  · refine wpAny_bind (D1.done _ _ _ t1' fun g2 e s2 he => hE g2 _ e (fun c o hc x => ?_) he)
    simp only [List.mem_cons, List.not_mem_nil, or_false, not_or] at hc
    exact s2 _ _ hc.2.1 (s1.extBut _ _ hc.1 x)
  · refine wpAny_bind (D1.item k _ _ _ k1 t1' fun x g2 tk2 p1 t1 s2 => wpAny_pure ?_)
    replace s2 : Heap.SameBut i1 g1 g2 := s2
    refine wpAny_pure (wpAny_bind (wpAny_bind (wpAny_holding ?_))); show wpAny _ _ (Builtin.SmallTypes.nextOf (.ref i2) >>= _) _ _ _
    have t2' : T2 k g2 := D2.frame k _ _ h2 fun c hc o e => s2.extBut _ _ (fun z' => Z.if2 (z' ▸ hc)) (s1.extBut _ _ (fun z' => Z.zf2 (z' ▸ hc)) e)
    refine wpAny_bind (D2.done _ _ _ t2' fun g4 e s4 he => hE g4 _ e (fun c o hc x => ?_) he)
    simp only [List.mem_cons, List.not_mem_nil, or_false, not_or] at hc
    exact s4 _ _ hc.2.2 (s2.extBut _ _ hc.2.1 (s1.extBut _ _ hc.1 x))
variable {b1 b2 : Bool} {l1 l2 : Addr} {u1 u2 : Array Value}
theorem nextB_item {Q : Option Value → Shared → Prop} (hh : A.handled = none) (Z : ZApart z TI TO i1 i2 [i1, l1] [i2, l2]) (n1 : l1 ≠ i1) (n2 : l2 ≠ i2) (hz : ZipB s.heap z TI TO T bb) (hTI : IsPair s.heap TI (.ref i1) (.ref i2)) (hT : s.heap.get? T = some oT)
    (h1 : ItAt b1 s.heap i1 l1 k) (h2 : ItAt b2 s.heap i2 l2 k) (p1 : SrcAt b1 s.heap l1 u1) (p2 : SrcAt b2 s.heap l2 u2) (k1 : k < u1.size) (k2 : k < u2.size)
    (hQ : ∀ x y g tk, u1[k]? = some x → u2[k]? = some y → ZipB g z TI TO T true → ItAt b1 g i1 l1 (k + 1) → ItAt b2 g i2 l2 (k + 1) → IsPair g s.heap.objs.size x y → g.objs.size = s.heap.objs.size + 1 →
      (∀ c o, c ∉ [z, i1, i2] → s.heap.get? c = some o → g.get? c = some o) → Q (some (.ref s.heap.objs.size)) { s with heap := g, toks := tk }) : wpAny (model prog w) A (pyNext (.ref z)) Q E s := by
  have hy : s.TypeIs (.ref z) "zip" := ⟨_, hz, rfl⟩
  unfold pyNext
  refine wpAny_bind (wpAny_attempt (wpAny_callSpecial?_slot (name := Str.ofString "__next__") hy F.slot_zip_next (wpAny_call_entry F.slot_zip_next hy F.entry_zip_next ?_ (F.args_zip_next_1 _))))
  have D1 : Draws prog w A.in1 i1 [i1, l1] u1.size _ _ := draws_src (A := A.in1) hh b1 i1 l1 n1 u1
  have D2 : Draws prog w A.in1 i2 [i2, l2] u2.size _ _ := draws_src (A := A.in1) hh b2 i2 l2 n2 u2
  exact zipB_item D1 D2 Z hz hTI hT ⟨h1, p1⟩ ⟨h2, p2⟩ k1 k2 fun x y g tk e1 e2 c1 c3 c4 c5 c6 c7 => wpAny_pure (hQ x y g tk e1 e2 c1 c3.1 c4.1 c5 c6 c7)
theorem nextB_end {Q : Option Value → Shared → Prop} (hh : A.handled = none) (Z : ZApart z TI TO i1 i2 [i1, l1] [i2, l2]) (n1 : l1 ≠ i1) (n2 : l2 ≠ i2) (hz : ZipB s.heap z TI TO T bb) (hTI : IsPair s.heap TI (.ref i1) (.ref i2)) (hT : s.heap.get? T = some oT)
    (h1 : ItAt b1 s.heap i1 l1 k) (h2 : ItAt b2 s.heap i2 l2 k) (p1 : SrcAt b1 s.heap l1 u1) (p2 : SrcAt b2 s.heap l2 u2) (hk : k = u1.size ∨ (k < u1.size ∧ k = u2.size))
    (hQ : ∀ g tk, (∀ c o, c ∉ [z, i1, i2] → s.heap.get? c = some o → g.get? c = some o) → Q none { s with heap := g, toks := tk }) : wpAny (model prog w) A (pyNext (.ref z)) Q E s := by
  have hy : s.TypeIs (.ref z) "zip" := ⟨_, hz, rfl⟩
  unfold pyNext
  refine wpAny_bind (wpAny_attempt (wpAny_callSpecial?_slot (name := Str.ofString "__next__") hy F.slot_zip_next (wpAny_call_entry F.slot_zip_next hy F.entry_zip_next ?_ (F.args_zip_next_1 _))))
  have D1 : Draws prog w A.in1 i1 [i1, l1] u1.size _ _ := draws_src (A := A.in1) hh b1 i1 l1 n1 u1
  have D2 : Draws prog w A.in1 i2 [i2, l2] u2.size _ _ := draws_src (A := A.in1) hh b2 i2 l2 n2 u2
  refine zipB_end D1 D2 Z hz hTI hT ⟨h1, p1⟩ ⟨h2, p2⟩ hk fun g tk e hk he => ?_
  obtain ⟨o, ho, hc⟩ := he
  refine wpAny_bind (wpAny_isInstance (T := "StopIteration") (b := true) ⟨o, ho, hc⟩ isSubtype_stop (wpAny_pure (hQ _ _ hk)))
end
end L2

set_option Elab.async false
set_option linter.all false
set_option maxRecDepth 100000
namespace L2
open PySem PySem.Spec PyProof.Rows PySem.W PySem.Calls
section
variable {prog : Program} {w : World} {A : Around} {E : Value → Shared → Prop} {s : Shared}
theorem sort_by {a : Addr} {vs : List Value} {n : Nat} {key : Nat → Int} {P : PySem.Fin → Shared → Prop} (ho : s.heap.get? a = some (seqObj "list" vs.toArray n)) (h64 : vs.length < 64) (inj : InjK key vs.length)
    (hk : 2 ≤ vs.length → ∀ h', (∀ b o, b ≠ a → s.heap.get? b = some o → h'.get? b = some o) → ∃ κ, (∀ Q : SortKind → Shared → Prop, Q κ { s with heap := h' } → wpAny (model prog w) A (keyKind' vs.toArray) Q (fun _ _ => False) { s with heap := h' }) ∧ Asks (kas_ask prog w A κ vs) { s with heap := h' } vs.length key)
    (h : ∀ h' q c, Prm vs.length q → UpTo key vs.length q → (∀ b o, b ≠ a → s.heap.get? b = some o → h'.get? b = some o) → h'.get? a = some (seqObj "list" (q.toList.map fun i => vs.getD i Value.none).toArray c) → P (.done (.ret .none)) { s with heap := h' }) :
    wpAny (model prog w) A (Builtin.«list.sort» ⟨[.ref a], []⟩) P E s := by
  have ha : a < s.heap.objs.size := Heap.lt_size ho
  obtain ⟨h1, eh1⟩ : ∃ h1, s.heap.update a (Obj.mapSeq fun _ => (#[] : Array Value)) = h1 := ⟨_, rfl⟩
  obtain ⟨e1, ho1⟩ : ∃ e1, h1.get? a = some (seqObj "list" #[] e1) := ⟨_, by rw [← eh1]; exact get?_update_seq ho fun _ => #[]⟩
  have k1 : ∀ b o, b ≠ a → s.heap.get? b = some o → h1.get? b = some o := fun b o hb e => by rw [← eh1]; exact (Heap.SameBut.update ..).extBut b o hb e
  obtain ⟨h3, eh3⟩ : ∃ h3, (h1.push (seqObj "tuple" vs.toArray 0)).push (seqObj "list" #[] 0) = h3 := ⟨_, rfl⟩
  have k13 : ∀ b o, h1.get? b = some o → h3.get? b = some o := fun b o e => by rw [← eh3]; exact Heap.get?_push_of_some _ (Heap.get?_push_of_some _ e)
  have ho3 := k13 _ _ ho1
  have k3 : ∀ b o, b ≠ a → s.heap.get? b = some o → h3.get? b = some o := fun b o hb e => k13 _ _ (k1 b o hb e)
  rw [list_sort_plain]; refine wpAny_bind (listItems_at ho rfl ?_)
  refine wpAny_bind (listUpdate_at ho rfl ?_ (by rw [List.size_toArray, sizeLine_eq]; walk_at "o") (Nat.zero_le _)); rw [eh1]
  refine wpAny_bind (seqEpoch_at ho1 rfl ?_); refine wpAny_bind (wpAny_newTuple ?_ (by show vs.length ≤ _; rw [sizeLine_eq]; walk_at "o"))
  refine wpAny_bind (wpAny_newList ?_ (Nat.zero_le _)); refine wpAny_holding ?_
  show wpAny (model prog w) A _ P E { s with heap := (h1.push (seqObj "tuple" vs.toArray 0)).push (seqObj "list" #[] 0) }; rw [eh3]
  dsimp only
  have last : ∀ (q : Array Nat) (out : Array Value), Prm vs.length q → UpTo key vs.length q → out = (q.toList.map fun i => vs.getD i Value.none).toArray →
      P (.done (.ret .none)) { s with heap := h3.update a (Obj.mapSeq fun _ => out) } := fun q out hq hu eo => by
    subst eo
    exact h _ q _ hq hu (fun b o hb e => (Heap.SameBut.update ..).extBut b o hb (k3 b o hb e)) (get?_update_seq ho3 fun _ => _)
  by_cases h2 : vs.length < 2
  · rw [if_pos (by rw [List.size_toArray]; exact h2), if_pos (by rw [List.size_toArray]; exact h2)]; refine wpAny_bind (wpAny_pure ?_)
    rw [StateT.run_pure]; refine wpAny_bind (wpAny_pure ?_)
    dsimp only
    refine wpAny_bind (seqEpoch_at ho3 rfl ?_); refine wpAny_bind (listUpdate_at ho3 rfl ?_ (Nat.zero_le _) (by rw [Array.size_map]; show (pairsOf vs).size ≤ _; rw [pairsOf_size, sizeLine_eq]; walk_at "o"))
    simp only [bne_self_eq_false, Bool.false_eq_true, if_false]
    refine wpAny_pure (last (List.range vs.length).toArray _ ⟨by simp⟩ (fun i j hij hj => by walk_at "o") ?_)
    rw [kat_snds (ks := vs) (vs := vs) (p := (List.range vs.length).toArray) rfl ?_]
    have z := kas_range (vs.toArray.zip vs.toArray)
    rw [show (vs.toArray.zip vs.toArray).size = vs.length by simp] at z
    exact z.symm
  · obtain ⟨κ, hκ, hA⟩ := hk (by walk_at "o") h3 k3
    have hn2 : ¬ vs.toArray.size < 2 := by rw [List.size_toArray]; exact h2
    rw [if_neg hn2, if_neg hn2]; refine wpAny_bind (wpAny_mono (hκ (fun κ' s' => κ' = κ ∧ s' = { s with heap := h3 }) ⟨rfl, rfl⟩) (fun κ' s' hs => ?_) fun _ _ x => x.elim)
    obtain ⟨rfl, rfl⟩ := hs
    have run := kat_run (prog := prog) (w := w) (A := A) (E := E) (κ := κ') (ks := vs) (vs := vs) (s := { s with heap := h3 }) (Q := fun st' s' => s' = { s with heap := h3 } ∧ ∃ q : Array Nat, Prm vs.length q ∧ UpTo key vs.length q ∧ arrOf st' = q.map (kas_item (vs.toArray.zip vs.toArray)) ∧ failedOf st' = none) (G := fun q s' => s' = { s with heap := h3 } ∧ Prm vs.length q ∧ UpTo key vs.length q) rfl (by walk_at "o") h64
      (fun q st' s' _ a2 a3 a4 => ⟨a4.1, q, a4.2.1, a4.2.2, a2, a3⟩) (kas_sorts hA inj (by walk_at "o") fun q hq hu => ⟨rfl, hq, hu⟩)
    refine wpAny_bind (wpAny_mono run ?_ fun _ _ e => e)
    rintro ⟨⟨⟩, st'⟩ s' ⟨rfl, q, hq, hu, har, hf⟩
    dsimp only
    have hout := kat_snds rfl har
    refine wpAny_bind (seqEpoch_at ho3 rfl ?_); refine wpAny_bind (listUpdate_at ho3 rfl ?_ (Nat.zero_le _) ?_)
    · rw [hf]
      simp only [bne_self_eq_false, Bool.false_eq_true, if_false]
      exact wpAny_pure (last q _ hq hu hout)
    · rw [hout, List.size_toArray, List.length_map, Array.length_toList, hq.size, sizeLine_eq]
      walk_at "o"
theorem asks_tups {vs : List Value} {tops : List Int} (hl : vs.length = tops.length) (hv : ∀ (i : Nat) (v : Value), vs[i]? = some v → ∃ (T : Addr) (t : Tok) (x : Value) (m : Int), v = Value.ref T ∧ tops[i]? = some m ∧ ∃ (o : Obj) (n : Nat), s.heap.get? T = some o ∧ o.cls = .type "tuple" ∧ o.data = .seq #[.int m t, x] n)
    (h2 : 2 ≤ vs.length) (hd : ∀ (i j : Nat) (m : Int), tops[i]? = some m → tops[j]? = some m → i = j) :
    ∃ κ, (∀ Q : SortKind → Shared → Prop, Q κ s → wpAny (model prog w) A (keyKind' vs.toArray) Q (fun _ _ => False) s) ∧ Asks (kas_ask prog w A κ vs) s vs.length (fun i => tops.getD i 0) := by
  refine ⟨tuples' (Value.type "int" != Value.type "tuple"), fun Q q => ?_, fun i j C hi hj hij hC => ?_⟩
  · have hf : ∃ fs : List Value, KatTups s.heap vs fs ∧ fs.length = vs.length ∧ ∀ v ∈ fs, ∃ m t, v = Value.int m t := by
      clear hl h2 hd q
      induction vs generalizing tops with
      | nil => exact ⟨[], .nil, rfl, by simp⟩
      | cons v r ih =>
        obtain ⟨T, t, x, m, rfl, e, o, n, g, gc, gd⟩ := hv 0 v rfl
        obtain ⟨fs, k1, k2, k3⟩ := ih (tops := tops.tail) fun i v hv' => by
          obtain ⟨T, t, x, m, e1, e2, e3⟩ := hv (i + 1) v hv'
          exact ⟨T, t, x, m, e1, by rw [List.getElem?_tail]; exact e2, e3⟩
        exact ⟨.int m t :: fs, .cons g gc gd rfl k1, by simp [k2], fun v hv => by
          rcases List.mem_cons.mp hv with rfl | z
          · exact ⟨m, t, rfl⟩
          · exact k3 v z⟩
    obtain ⟨fs, k1, k2, k3⟩ := hf
    exact kat_kind k1 (by walk_at "o") (fun v hv => by obtain ⟨m, t, rfl⟩ := k3 v hv; exact .now) (by decide) q
  · unfold kas_ask
    obtain ⟨T, t, x, m, e1, e2, o, n, e3, _, d3⟩ := hv i vs[i] (List.getElem?_eq_getElem hi)
    obtain ⟨T', t', x', m', e1', e2', o', n', e3', _, d3'⟩ := hv j vs[j] (List.getElem?_eq_getElem hj)
    have g1 : vs.getD i Value.none = .ref T := by simp [hi, e1]
    have g2 : vs.getD j Value.none = .ref T' := by simp [hj, e1']
    have g3 : tops.getD i 0 = m := by simp [e2]
    have g4 : tops.getD j 0 = m' := by simp [e2']
    rw [g1, g2]
    replace hC : C (decide (tops.getD i 0 < tops.getD j 0)) s := hC
    rw [g3, g4] at hC
    have hm : m ≠ m' := fun e => hij (hd i j m e2 (by rw [e]; exact e2'))
    refine kat_lt e3 d3 e3' d3' (kat_cons ?_)
    refine wpAny_eqBool_int ?_
    rw [show (m == m') = false by simpa using hm]
    exact kat_no (oneLt_int hC)
end
end L2

set_option Elab.async false
set_option linter.all false
set_option maxRecDepth 100000
namespace L2
open PySem PySem.Spec PyProof.Rows PySem.W PySem.Calls
def ZSt (S : Addr) (k : Nat) (h : Heap) (z TI TO i1 i2 : Addr) : Prop := (k = 0 ∧ IsZip h z TI TO .none ∧ ∃ a b, IsPair h TO a b) ∨ ∃ T b o, ZipB h z TI TO T b ∧ h.get? T = some o ∧ T ∉ [z, TO, i1, i2, S]
section
variable {prog : Program} {w : World} {A : Around} {E : Value → Shared → Prop} {s : Shared} {z TI TO i1 i2 l1 l2 S : Addr} {k : Nat} {b1 b2 : Bool} {u1 u2 : Array Value}
theorem zst_keep {h h' : Heap} (st : ZSt S k h z TI TO i1 i2) (hz : S ≠ z) (ht : S ≠ TO) (kp : ∀ b o, b ≠ S → h.get? b = some o → h'.get? b = some o) : ZSt S k h' z TI TO i1 i2 := by
  rcases st with ⟨e, h1, a, b, h2⟩ | ⟨T, b, o, h1, h2, h3⟩
  · exact .inl ⟨e, kp _ _ hz.symm h1, a, b, kp _ _ ht.symm h2⟩
  · exact .inr ⟨T, b, o, kp _ _ hz.symm h1, kp _ _ (fun e => h3 (by simp [e])) h2, h3⟩
theorem nextA_item {Q : Option Value → Shared → Prop} (hh : A.handled = none) (Z : ZApart z TI TO i1 i2 [i1, l1] [i2, l2]) (n1 : l1 ≠ i1) (n2 : l2 ≠ i2) (st : ZSt S k s.heap z TI TO i1 i2) (hTI : IsPair s.heap TI (.ref i1) (.ref i2))
    (h1 : ItAt b1 s.heap i1 l1 k) (h2 : ItAt b2 s.heap i2 l2 k) (p1 : SrcAt b1 s.heap l1 u1) (p2 : SrcAt b2 s.heap l2 u2) (k1 : k < u1.size) (k2 : k < u2.size) (lt : ∀ b ∈ [z, TO, i1, i2, S], b < s.heap.objs.size)
    (hQ : ∀ x y g tk, u1[k]? = some x → u2[k]? = some y → ZSt S (k + 1) g z TI TO i1 i2 → ItAt b1 g i1 l1 (k + 1) → ItAt b2 g i2 l2 (k + 1) → IsPair g s.heap.objs.size x y → g.objs.size = s.heap.objs.size + 1 →
      (∀ c o, c ∉ [z, TO, i1, i2] → s.heap.get? c = some o → g.get? c = some o) → Q (some (.ref s.heap.objs.size)) { s with heap := g, toks := tk }) : wpAny (model prog w) A (pyNext (.ref z)) Q E s := by
  rcases st with ⟨e, g1, a, b, g2⟩ | ⟨T, b, o, g1, g2, g3⟩
  · refine nextZ_item hh Z n1 n2 g1 hTI g2 h1 h2 p1 p2 k1 k2 fun x y g tk ex ey c1 c2 c3 c4 c5 c6 c7 => hQ x y g tk ex ey (.inr ⟨_, false, _, c1, c5, fun hm => ?_⟩) c3 c4 c5 c6 c7
    exact Nat.lt_irrefl _ (lt _ hm)
  · have g3' := g3
    simp only [List.mem_cons, List.not_mem_nil, or_false, not_or] at g3'
    refine nextB_item hh Z n1 n2 g1 hTI g2 h1 h2 p1 p2 k1 k2 fun x y g tk ex ey c1 c3 c4 c5 c6 c7 => hQ x y g tk ex ey (.inr ⟨T, true, o, c1, c7 T o (by simp [g3'.1, g3'.2.2.1, g3'.2.2.2.1]) g2, g3⟩) c3 c4 c5 c6 fun c o hc e => c7 c o (fun hm => hc ?_) e
    simp only [List.mem_cons, List.not_mem_nil, or_false] at hm ⊢
    rcases hm with e | e | e <;> simp [e]
theorem nextA_end {Q : Option Value → Shared → Prop} (hh : A.handled = none) (Z : ZApart z TI TO i1 i2 [i1, l1] [i2, l2]) (n1 : l1 ≠ i1) (n2 : l2 ≠ i2) (st : ZSt S k s.heap z TI TO i1 i2) (hTI : IsPair s.heap TI (.ref i1) (.ref i2))
    (h1 : ItAt b1 s.heap i1 l1 k) (h2 : ItAt b2 s.heap i2 l2 k) (p1 : SrcAt b1 s.heap l1 u1) (p2 : SrcAt b2 s.heap l2 u2) (hk : k = u1.size)
    (hQ : ∀ g tk, (∀ c o, c ∉ [z, TO, i1, i2] → s.heap.get? c = some o → g.get? c = some o) → Q none { s with heap := g, toks := tk }) : wpAny (model prog w) A (pyNext (.ref z)) Q E s := by
  rcases st with ⟨e, g1, a, b, g2⟩ | ⟨T, b, o, g1, g2, g3⟩
  · exact nextZ_end hh Z n1 n2 g1 hTI g2 h1 h2 p1 p2 (.inl hk) hQ
  · refine nextB_end hh Z n1 n2 g1 hTI g2 h1 h2 p1 p2 (.inl hk) fun g tk c7 => hQ g tk fun c o hc e => c7 c o (fun hm => hc ?_) e
    simp only [List.mem_cons, List.not_mem_nil, or_false] at hm ⊢
    rcases hm with e | e | e <;> simp [e]
end
def PAt (K : PySem.W.Frag) (H : Hp) (xs zs ys : List V) : Prop := ∀ (j : Nat) (y : V), ys[j]? = some y → ∃ (T : Addr) (a b : V), y = .ref T ∧ xs[j]? = some a ∧ zs[j]? = some b ∧ vw K H T = some (.tup [a, b])
theorem PAt.same {K : PySem.W.Frag} {H H' : Hp} {xs zs ys : List V} (h : PAt K H xs zs ys) (S : Same (vw K H) (vw K H')) : PAt K H' xs zs ys := fun j y e => by
  obtain ⟨T, a, b, h1, h2, h3, h4⟩ := h j y e
  exact ⟨T, a, b, h1, h2, h3, S _ _ h4⟩
theorem loopZ {X : Cx} {pins : List (Addr × Obj)} {σ : St} {R : Result → Shared → Prop} {A : Around} {z TI TO i1 i2 l1 l2 S : Addr} {xs1 xs2 : List V} {n : Nat} (hh : A.handled = none) (Z : ZApart z TI TO i1 i2 [i1, l1] [i2, l2]) (n1 : l1 ≠ i1) (n2 : l2 ≠ i2)
    (hS : S ∉ [z, TI, TO, i1, i2]) (e1 : xs1.length = n) (e2 : xs2.length = n) (hn : n ≤ sizeLine) : ∀ (m k : Nat) (H : Hp) (s : Shared) (acc : List Value) (ys : List V) (c : Nat), m + k = n → Inv X pins σ H s → (∀ b ∈ [z, TO, i1, i2, S, TI], FpOk X pins H b) →
    SrcH X.K true H l1 xs1 → SrcH X.K true H l2 xs2 → ItAt true s.heap i1 l1 k → ItAt true s.heap i2 l2 k → IsPair s.heap TI (.ref i1) (.ref i2) → ZSt S k s.heap z TI TO i1 i2 → (∀ b ∈ [z, TO, i1, i2, S], b < s.heap.objs.size) → s.heap.get? S = some (seqObj "list" acc.toArray c) → Vals ys acc → ys.length = k → PAt X.K H xs1 xs2 ys →
    (∀ H' s' acc' ys' c', Inv X pins σ H' s' → Same (vw X.K H) (vw X.K H') → s'.heap.get? S = some (seqObj "list" acc'.toArray c') → Vals ys' acc' → ys'.length = n → PAt X.K H' xs1 xs2 ys' → R (.ok (.ret (.ref S))) s') →
    codeAny (model X.prog X.w) A (.builtin "list.extend.loop" ⟨[.ref S, .ref z, .ref S], []⟩) R s := by
  simp only [List.mem_cons, List.not_mem_nil, or_false, not_or] at hS
  intro m
  induction m with
  | zero =>
    intro k H s acc ys c hk I hf s1 s2 t1 t2 hTI st lt hl rv ly pa hR
    obtain ⟨u1, r1, p1, _⟩ := I.src s1
    obtain ⟨u2, r2, p2, _⟩ := I.src s2
    have lu := r1.length
    refine codeAny_builtin F.entry_extend_loop ?_; rw [Around.under_plainId F.plain_extend_loop _]
    show wpAny _ A.in1 (pyNext (.ref z) >>= _) _ _ s; refine wpAny_bind (nextA_end (A := A.in1) hh Z n1 n2 st hTI t1 t2 p1 p2 (by rw [List.size_toArray]; walk_at "o") fun g tk kp => ?_)
    refine wpAny_pure (hR H _ acc ys c (I.turnL (ch := [z, TO, i1, i2]) kp fun b hb => hf b ?_) .rfl (kp _ _ (by simp [hS]) hl) rv (by walk_at "o") pa)
    simp only [List.mem_cons, List.not_mem_nil, or_false] at hb ⊢
    rcases hb with e | e | e | e <;> simp [e]
  | succ m ih =>
    intro k H s acc ys c hk I hf s1 s2 t1 t2 hTI st lt hl rv ly pa hR
    obtain ⟨u1, r1, p1, _⟩ := I.src s1
    obtain ⟨u2, r2, p2, _⟩ := I.src s2
    have lu := r1.length
    have lu2 := r2.length
    have la := rv.length
    refine codeAny_builtin F.entry_extend_loop ?_; rw [Around.under_plainId F.plain_extend_loop _]
    show wpAny _ A.in1 (pyNext (.ref z) >>= _) _ _ s; refine wpAny_bind (nextA_item (A := A.in1) hh Z n1 n2 st hTI t1 t2 p1 p2 (by rw [List.size_toArray]; walk_at "o") (by rw [List.size_toArray]; walk_at "o") lt fun x y g tk ex ey st' t1' t2' hT hsz kp => ?_)
    have hl' : g.get? S = some (seqObj "list" acc.toArray c) := kp _ _ (by simp [hS]) hl
    show wpAny _ A.in1 (updateSeq S (·.push (.ref s.heap.objs.size)) >>= _) _ _ _
    refine wpAny_bind (wpAny_updateSeq hl' rfl (wpAny_pure ⟨plainId_quiet F.plain_extend_loop _, ?_⟩) (by rw [List.size_toArray]; walk_at "o") (by show (acc.toArray.push _).size ≤ sizeLine + 1; rw [Array.size_push, List.size_toArray]; walk_at "o"))
    obtain ⟨g2, hg2⟩ : ∃ g2, g.update S (Obj.mapSeq (·.push (.ref s.heap.objs.size))) = g2 := ⟨_, rfl⟩
    obtain ⟨c2, hl2⟩ : ∃ c2, g2.get? S = some (seqObj "list" (acc ++ [Value.ref s.heap.objs.size]).toArray c2) := by
      have e := get?_update_seq hl' (·.push (.ref s.heap.objs.size))
      rw [hg2, show acc.toArray.push (Value.ref s.heap.objs.size) = (acc ++ [Value.ref s.heap.objs.size]).toArray by simp] at e
      exact ⟨_, e⟩
    have kp2 : ∀ b o, b ≠ S → g.get? b = some o → g2.get? b = some o := fun b o hb e => by rw [← hg2]; exact (Heap.SameBut.update ..).extBut b o hb e
    have sz2 : g2.objs.size = s.heap.objs.size + 1 := by rw [← hg2, Heap.size_update, hsz]
    have ltS : ∀ b ∈ [z, TO, i1, i2, S], b ≠ s.heap.objs.size := fun b hb => Nat.ne_of_lt (lt b hb)
    have hT2 : IsPair g2 s.heap.objs.size x y := kp2 _ _ (ltS S (by simp)).symm hT
    have hTIlt : TI ≠ s.heap.objs.size := Nat.ne_of_lt (Heap.lt_size hTI)
    have k1 : k < xs1.length := by walk_at "o"
    have k2 : k < xs2.length := by walk_at "o"
    have rx : RelV xs1[k] x := by
      obtain ⟨u, hu, ru⟩ := r1.get (List.getElem?_eq_getElem k1)
      rw [List.getElem?_toArray, hu] at ex
      cases ex
      exact ru
    have ry : RelV xs2[k] y := by
      obtain ⟨u, hu, ru⟩ := r2.get (List.getElem?_eq_getElem k2)
      rw [List.getElem?_toArray, hu] at ey
      cases ey
      exact ru
    have I2 : Inv X pins σ (upd H s.heap.objs.size (.tup [xs1[k], xs2[k]])) { s with heap := g2, toks := tk } := by
      refine I.turnT (its := [x, y]) (ch := [z, TO, i1, i2, S]) (fun b o hb e => ?_) (fun b hb => hf b ?_) (Nat.le_refl _) (show 2 ≤ sizeLine by decide) (.cons rx (.cons ry .nil)) ⟨_, hT2, rfl, _, rfl⟩
      · simp only [List.mem_cons, List.not_mem_nil, or_false, not_or] at hb
        exact kp2 _ _ hb.2.2.2.2 (kp b o (by simp [hb]) e)
      · simp only [List.mem_cons, List.not_mem_nil, or_false] at hb ⊢
        rcases hb with e | e | e | e | e <;> simp [e]
    have fr := I.hok.fresh (Nat.le_refl s.heap.objs.size)
    have nk := I.newK (Nat.le_refl s.heap.objs.size)
    have S2 : Same (vw X.K H) (vw X.K (upd H s.heap.objs.size (.tup [xs1[k], xs2[k]]))) := vw_same (Same.upd fr)
    rw [hg2]
    refine ih (k + 1) _ _ (acc ++ [Value.ref s.heap.objs.size]) (ys ++ [V.ref s.heap.objs.size]) c2 (by walk_at "o") I2 (fun b hb => ?_) (S2 _ _ s1) (S2 _ _ s2) (t1'.at fun o e => kp2 _ _ (fun z' => hS.2.2.2.1 z'.symm) e) (t2'.at fun o e => kp2 _ _ (fun z' => hS.2.2.2.2 z'.symm) e) (kp2 _ _ (fun z' => hS.2.1 z'.symm) (kp _ _ (by simp [Z.tiz, Z.tito, Z.ti1, Z.ti2]) hTI))
      (zst_keep st' hS.1 hS.2.2.1 kp2) (fun b hb => by rw [sz2]; exact Nat.lt_succ_of_lt (lt b hb)) hl2 (Vals.append rv (.cons (show RelV (V.ref s.heap.objs.size) (Value.ref s.heap.objs.size) from rfl) .nil)) (by simp [ly]) ?_ fun H' s' acc' ys' c' I' S' a1 a2 a3 a4 => hR H' s' acc' ys' c' I' (S2.trans S') a1 a2 a3 a4
    · have f := hf b hb
      refine ⟨?_, f.2⟩
      rw [upd_ne]
      · exact f.1
      · simp only [List.mem_cons, List.not_mem_nil, or_false] at hb
        rcases hb with e | e | e | e | e | e
        · exact ltS b (by simp [e])
        · exact ltS b (by simp [e])
        · exact ltS b (by simp [e])
        · exact ltS b (by simp [e])
        · exact ltS b (by simp [e])
        · rw [e]; exact hTIlt
    · intro j y' e
      by_cases hj : j < ys.length
      · rw [List.getElem?_append_left hj] at e
        exact (pa.same S2) j y' e
      · rw [List.getElem?_append_right (by walk_at "o")] at e
        have hj' : j = k := by
          have := (List.getElem?_eq_some_iff.mp e).1
          simp at this
          walk_at "o"
        subst hj'
        rw [ly, Nat.sub_self] at e
        cases e
        exact ⟨_, _, _, rfl, List.getElem?_eq_getElem k1, List.getElem?_eq_getElem k2, by rw [vw_new nk]; exact upd_same⟩
theorem zip_no_len : typeLookup (.type "zip") "__len__" = pure none := by rw [typeLookup_type, builtinLookup_eq_fast]; kernel_rfl
theorem zip_no_hint : typeLookup (.type "zip") "__length_hint__" = pure none := by rw [typeLookup_type, builtinLookup_eq_fast]; kernel_rfl
end L2

set_option Elab.async false
set_option linter.all false
set_option maxRecDepth 100000
namespace L2
open PySem PySem.Spec PyProof.Rows PySem.W PySem.Calls
theorem bt_sorted : bootBuiltins "sorted" = some (.builtin "sorted") := by decide +kernel
theorem vals_getD : ∀ {ys : List V} {acc : List Value}, Vals ys acc → ∀ i : Nat, RelV (ys.getD i .non) (acc.getD i Value.none)
  | _, _, .nil, _ => rfl
  | _, _, .cons r _, 0 => r
  | _, _, .cons _ t, i + 1 => by simpa using vals_getD t i
theorem vals_perm {ys : List V} {acc : List Value} (r : Vals ys acc) : ∀ q : List Nat, Vals (q.map fun i => ys.getD i .non) (q.map fun i => acc.getD i Value.none)
  | [] => .nil
  | i :: q => .cons (vals_getD r i) (vals_perm r q)
def tSortZ (K : PySem.W.Frag) (ta : TA) : TE := fun σ H Q => ta σ H fun vs H1 => ∃ a b, vs = [.ref a, .ref b] ∧ ∃ (tops : List Int) (ys : List V), vw K H1 a = some (.lst (tops.map V.int)) ∧ vw K H1 b = some (.lst ys) ∧ tops.length = ys.length ∧ tops.length < 64 ∧ (∀ (i j : Nat) (m : Int), tops[i]? = some m → tops[j]? = some m → i = j) ∧
  ∀ (q : Array Nat) (p : Addr) (zs : List V) H2, Prm tops.length q → UpTo (fun i => tops.getD i 0) tops.length q → Same (vw K H1) (vw K H2) → vw K H1 p = none → vw K H2 p = some (.lst zs) → zs.length = tops.length →
    (∀ (i : Nat) (v : V), zs[i]? = some v → ∃ (T : Addr) (m : Int) (y : V), v = .ref T ∧ tops[q.getD i 0]? = some m ∧ ys[q.getD i 0]? = some y ∧ vw K H2 T = some (.tup [.int m, y])) → Q (.ref p) H2
theorem sortZ_run {X : Cx} {pins : List (Addr × Obj)} {s : Shared} {σ : St} {H : Hp} {Q : VK} {l1 l2 : Addr} {tops : List Int} {ys : List V} (hc : X.calm = true) (I : Inv X pins σ H s) (h1 : vw X.K H l1 = some (.lst (tops.map V.int))) (h2 : vw X.K H l2 = some (.lst ys)) (hl : tops.length = ys.length) (h64 : tops.length < 64)
    (hd : ∀ (i j : Nat) (m : Int), tops[i]? = some m → tops[j]? = some m → i = j)
    (h : ∀ (q : Array Nat) (p : Addr) (zs : List V) H2, Prm tops.length q → UpTo (fun i => tops.getD i 0) tops.length q → Same (vw X.K H) (vw X.K H2) → vw X.K H p = none → vw X.K H2 p = some (.lst zs) → zs.length = tops.length →
      (∀ (i : Nat) (v : V), zs[i]? = some v → ∃ (T : Addr) (m : Int) (y : V), v = .ref T ∧ tops[q.getD i 0]? = some m ∧ ys[q.getD i 0]? = some y ∧ vw X.K H2 T = some (.tup [.int m, y])) → Q (.ref p) H2) :
    wpAny (model X.prog X.w) X.A (call (.type "zip") [.ref l1, .ref l2]) (fun u s2 => wpAny (model X.prog X.w) X.A (call (.builtin "sorted") [u]) (EP X pins σ Q) X.xe s2) X.xe s := by
  have s1 : SrcH X.K true H l1 (tops.map V.int) := h1
  have s2 : SrcH X.K true H l2 ys := h2
  obtain ⟨u1, t1, p1, _⟩ := I.src s1
  obtain ⟨u2, t2, p2, _⟩ := I.src s2
  refine callZ p1 p2 fun g c1 c2 c3 c4 c5 k => ?_
  have m1 : l1 < s.heap.objs.size := by obtain ⟨_, e⟩ := p1.obj; exact Heap.lt_size e
  have m2 : l2 < s.heap.objs.size := by obtain ⟨_, e⟩ := p2.obj; exact Heap.lt_size e
  have gs : s.heap.objs.size + 4 < g.objs.size := Heap.lt_size c1
  obtain ⟨N, hN⟩ : ∃ N : Nat, s.heap.objs.size = N := ⟨_, rfl⟩
  have nk0 : ∀ b : Nat, N ≤ b → H b = none := fun b hb => I.hok.fresh (by rw [hN]; exact hb)
  have hf0 : ∀ b : Nat, N ≤ b → FpOk X pins H b := fun b hb => I.fpOk (by rw [hN]; exact hb) (nk0 b hb)
  rw [hN] at c1 c2 c3 c4 c5 m1 m2 gs ⊢
  have I1 : Inv X pins σ H { s with heap := g } := I.kept (t' := s.toks) k
  have Z := zap m1 m2
  have hh : X.A.handled = none := I.ok.hd hc
  refine Calls.call_function_entry kind_sorted plain_sorted entry_sorted (args_sorted1 _) ?_
  unfold Builtin.«sorted»
  refine wpAny_bind (m := checkCount "sorted" 1 1 _) (wpAny_pure ?_); refine wpAny_bind ?_
  unfold collect
  refine wpAny_bind (wpAny_runValue (codeAny_builtin F.entry_proto_collect ?_)); rw [Around.under_plainId F.plain_proto_collect _]
  obtain ⟨S, hS⟩ : ∃ S : Nat, g.objs.size = S := ⟨_, rfl⟩
  rw [hS] at gs
  obtain ⟨g1, hg1⟩ : ∃ g1, g.push { cls := .type "list", data := .seq ([] : List Value).toArray } = g1 := ⟨_, rfl⟩
  have k1 : ∀ b o, g.get? b = some o → g1.get? b = some o := fun b o e => by rw [← hg1]; exact Heap.get?_push_of_some _ e
  have hS1 : g1.get? S = some { cls := .type "list", data := .seq ([] : List Value).toArray } := by rw [← hg1, ← hS]; exact Heap.get?_push_size _ rfl
  have sz1 : g1.objs.size = S + 1 := by rw [← hg1, Heap.size_push, hS]
  show wpAny _ _ (newList [] >>= fun l => again (.builtin "list.__iadd__" ⟨[l, .ref (N + 4)], []⟩)) _ _ { s with heap := g }
  refine wpAny_bind (wpAny_newObj_type ?_); refine wpAny_pure ⟨plainId_quiet F.plain_list_iadd _, codeAny_builtin F.entry_list_iadd ?_⟩
  rw [Around.under_plainId F.plain_list_iadd _]
  show wpAny _ _ (Builtin.List.listExtendWith (.ref g.objs.size) (.ref (N + 4)) (.ref g.objs.size)) _ _ { s with heap := g.push { cls := .type "list", data := .seq ([] : List Value).toArray } }
  rw [hg1, hS]
  unfold Builtin.List.listExtendWith
  have c1' : IsZip g1 (N + 4) (N + 2) (N + 3) .none := k1 _ _ c1
  have hTy : Shared.TypeIs { s with heap := g1 } (.ref (N + 4)) "zip" := ⟨_, c1', rfl⟩
  refine wpAny_bind (wpAny_typeOf hTy ?_)
  have q1 : Builtin.List.listSameRef (.ref S) (.ref (N + 4)) = false := by
    have ne : ¬ (S = N + 4) := by walk_at "o"
    simpa [Builtin.List.listSameRef] using ne
  have q2 : (Value.type "zip" == Value.type "list") = false := by decide
  have q3 : (Value.type "zip" == Value.type "tuple") = false := by decide
  simp only [q1, q2, q3, Bool.or_false, Bool.false_eq_true, if_false]
  refine wpAny_bind (wpAny_pyIter_zip (s := { s with heap := g1 }) c1' ?_); refine wpAny_bind (wpAny_holding ?_)
  unfold Builtin.List.listLengthHint
  refine wpAny_bind (wpAny_specialOf hTy zip_no_len ?_); show wpAny _ _ (specialOf (Value.ref (N + 4)) (Str.ofString "__length_hint__") >>= _) _ _ _
  refine wpAny_bind (wpAny_specialOf hTy zip_no_hint ?_); refine wpAny_pure ?_
  show wpAny _ _ (rule "list.extend.makes-room" >>= fun _ => Builtin.List.listTouch (.ref S) >>= fun _ => again (.builtin "list.extend.loop" ⟨[.ref S, .ref (N + 4), .ref S], []⟩)) _ _ _
  refine wpAny_bind (wpAny_rule ?_); refine wpAny_bind ?_
  show wpAny _ _ (updateSeq S (·.push .none) >>= fun _ => updateSeq S (·.pop)) _ _ _
  refine wpAny_bind (wpAny_updateSeq hS1 rfl ?_)
  have hS2 := Heap.get?_update_self (Obj.mapSeq (·.push Value.none)) hS1 rfl
  refine wpAny_updateSeq hS2 rfl ?_
  have hS3 := Heap.get?_update_self (Obj.mapSeq (·.pop)) hS2 rfl
  obtain ⟨g3, hg3⟩ : ∃ g3, (g1.update S (Obj.mapSeq (·.push Value.none))).update S (Obj.mapSeq (·.pop)) = g3 := ⟨_, rfl⟩
  have k3 : ∀ b o, b ≠ S → g1.get? b = some o → g3.get? b = some o := fun b o hb e => by rw [← hg3]; exact (Heap.get?_update_other _ _ (Ne.symm hb)).trans ((Heap.get?_update_other _ _ (Ne.symm hb)).trans e)
  have sz3 : g3.objs.size = S + 1 := by rw [← hg3, Heap.size_update, Heap.size_update, sz1]
  rw [hg3] at hS3
  replace hS3 : ∃ c, g3.get? S = some (seqObj "list" ([] : List Value).toArray c) := ⟨_, hS3⟩
  obtain ⟨c0, hS3⟩ := hS3
  show wpAny _ _ (again (.builtin "list.extend.loop" ⟨[.ref S, .ref (N + 4), .ref S], []⟩)) _ _ { s with heap := (g1.update S (Obj.mapSeq (·.push Value.none))).update S (Obj.mapSeq (·.pop)) }
  rw [hg3]
  have kg : ∀ b o, g.get? b = some o → g3.get? b = some o := fun b o e => k3 b o (fun z => by have := Heap.lt_size e; rw [z, hS] at this; exact Nat.lt_irrefl _ this) (k1 b o e)
  have I3 : Inv X pins σ H { s with heap := g3 } := I1.kept (t' := s.toks) kg
  refine wpAny_pure ⟨plainId_quiet F.plain_extend_loop _, ?_⟩
  refine loopZ (X := X) (A := X.A.in1) (pins := pins) (σ := σ) (z := N + 4) (TI := N + 2) (TO := N + 3) (i1 := N) (i2 := N + 1) (l1 := l1) (l2 := l2) (S := S) (xs1 := tops.map V.int) (xs2 := ys) (n := tops.length) hh Z (Nat.ne_of_lt m1) (Nat.ne_of_lt (Nat.lt_succ_of_lt m2)) ?_ (by simp) hl.symm (by rw [sizeLine_eq]; walk_at "o") tops.length 0 H _ [] [] c0 (by walk_at "o") I3 ?_ s1 s2 (c4.at fun o e => kg _ _ e) (c5.at fun o e => kg _ _ e) (kg _ _ c2) (.inl ⟨rfl, kg _ _ c1, _, _, kg _ _ c3⟩) ?_ hS3 .nil rfl (fun j y e => by simp at e) fun H' s' acc' ys' c' I' S' a1 a2 a3 a4 => ?_
  · simp only [List.mem_cons, List.not_mem_nil, or_false, not_or]
    refine ⟨?_, ?_, ?_, ?_, ?_⟩ <;> (intro e; have e' : (_ : Nat) = _ := e; walk_at "o")
  · intro b hb
    refine hf0 b ?_
    simp only [List.mem_cons, List.not_mem_nil, or_false] at hb
    rcases hb with e | e | e | e | e | e <;> (have e' : (_ : Nat) = _ := e; walk_at "o")
  · intro b hb
    show b < g3.objs.size
    rw [sz3]
    simp only [List.mem_cons, List.not_mem_nil, or_false] at hb
    rcases hb with e | e | e | e | e <;> (have e' : (_ : Nat) = _ := e; show (_ : Nat) < _; walk_at "o")
  · show wpAny _ _ (load S >>= _) _ _ s'
    refine wpAny_bind (wpAny_load a1 ?_); refine wpAny_pure ?_
    show wpAny _ _ _ _ _ s'
    rw [show (acc'.toArray).toList = acc' by simp]
    have la : acc'.length = tops.length := by rw [← a2.length]; exact a3
    refine wpAny_bind (wpAny_newList ?_ (by rw [sizeLine_eq]; walk_at "o"))
    have hoL : (s'.heap.push (seqObj "list" acc'.toArray 0)).get? s'.heap.objs.size = some (seqObj "list" acc'.toArray 0) := Heap.get?_push_size _ rfl
    refine wpAny_bind (wpAny_holding (wpAny_call_entry slot_list_sort ⟨_, hoL, rfl⟩ entry_list_sort ?_ (args_list_sort _)))
    refine sort_by (key := fun i => tops.getD i 0) (s := { s' with heap := s'.heap.push (seqObj "list" acc'.toArray 0) }) hoL (by walk_at "o") (fun i j hi hj e => ?_) (fun h2 h' kp => ?_) fun h' q c hq hu kp hfin => ?_
    · rw [la] at hi hj
      refine hd i j (tops.getD i 0) ?_ ?_
      · rw [List.getD_eq_getElem?_getD, List.getElem?_eq_getElem hi]; rfl
      · show tops[j]? = some (tops.getD i 0)
        rw [show tops.getD i 0 = tops.getD j 0 from e, List.getD_eq_getElem?_getD, List.getElem?_eq_getElem hj]; rfl
    · refine asks_tups (s := { s' with heap := h' }) (tops := tops) la (fun i v e => ?_) h2 hd
      have hi := (List.getElem?_eq_some_iff.mp e).1
      obtain ⟨T, a, b, e1, e2, e3, e4⟩ := a4 i (ys'[i]'(by rw [a3]; walk_at "o")) (List.getElem?_eq_getElem _)
      obtain ⟨u, hu, ru⟩ := a2.get (i := i) (List.getElem?_eq_getElem (by rw [a3]; walk_at "o"))
      rw [e] at hu
      cases hu
      rw [e1] at ru
      cases ru
      rw [List.getElem?_map, List.getElem?_eq_getElem (by walk_at "o")] at e2
      cases e2
      obtain ⟨its, rt, ⟨o, g1', g2', n', g3'⟩, _⟩ := I'.tuple (vw_tup e4)
      cases rt with
      | cons r rr =>
        cases rr with
        | cons r' rr' =>
          cases rr'
          obtain ⟨t, rfl⟩ := r
          exact ⟨T, t, _, _, rfl, List.getElem?_eq_getElem (by walk_at "o"), o, n', kp _ _ (fun z => by have := Heap.lt_size g1'; rw [z] at this; exact Nat.lt_irrefl _ this) (Heap.get?_push_of_some _ g1'), g2', g3'⟩
    · rw [la] at hq hu
      have kfin : ∀ b o, s'.heap.get? b = some o → h'.get? b = some o := fun b o e => kp b o (fun z => by have := Heap.lt_size e; rw [z] at this; exact Nat.lt_irrefl _ this) (Heap.get?_push_of_some _ e)
      have fr := I'.hok.fresh (Nat.le_refl s'.heap.objs.size)
      have nk := I'.newK (Nat.le_refl s'.heap.objs.size)
      have ql : q.toList.length = tops.length := by rw [Array.length_toList, hq.size]
      have I4 : Inv X pins σ (upd H' s'.heap.objs.size (.lst (q.toList.map fun i => ys'.getD i .non))) { s' with heap := h' } :=
        I'.laid (t' := s'.toks) kfin (Nat.le_refl _) ⟨by rw [List.length_map, ql, sizeLine_eq]; walk_at "o", _, _, vals_perm a2 q.toList, hfin⟩
      have S4 : Same (vw X.K H') (vw X.K (upd H' s'.heap.objs.size (.lst (q.toList.map fun i => ys'.getD i .non)))) := vw_same (Same.upd fr)
      refine ⟨_, rfl, wpAny_pure ⟨_, rfl, ?_⟩⟩
      refine ⟨.ref s'.heap.objs.size, _, I4, rfl, h q _ _ _ hq hu (S'.trans S4) (S'.none (by rw [vw_new nk]; exact fr)) (by rw [vw_new nk]; exact upd_same) (by rw [List.length_map, ql]) fun i v e => ?_⟩
      rw [List.getElem?_map] at e
      have hi : i < tops.length := by
        rw [← ql]
        cases e' : q.toList[i]? with
        | none => rw [e'] at e; cases e
        | some x => exact (List.getElem?_eq_some_iff.mp e').1
      have hqi : i < q.size := by rw [hq.size]; exact hi
      have e5 : q.toList[i]? = some (q.getD i 0) := by rw [getD_at hqi, List.getElem?_eq_getElem]
      have e6 := hq.lt hi
      rw [e5] at e
      cases e
      obtain ⟨T, a, b, e1, e2, e3, e4⟩ := a4 (q.getD i 0) (ys'[q.getD i 0]'(by rw [a3]; walk_at "o")) (List.getElem?_eq_getElem _)
      rw [List.getElem?_map, List.getElem?_eq_getElem e6] at e2
      cases e2
      refine ⟨T, _, b, ?_, List.getElem?_eq_getElem e6, e3, S4 _ _ e4⟩
      rw [← e1]
      show ys'.getD (q.getD i 0) .non = _
      rw [List.getD_eq_getElem?_getD, List.getElem?_eq_getElem (by rw [a3]; walk_at "o")]
      rfl
theorem qe_sortZ {X : Cx} {p1 p2 pos pos2 : Pos} {a b : Expr} {ta : TA} (hc : X.calm = true) (hg1 : Gl X "sorted") (hm1 : X.mg "sorted" = none) (hg2 : Gl X "zip") (hm2 : X.mg "zip" = none) (ha : QA X [a, b] ta) (hs : starEach [a, b] X.env = [(false, eval a X.env), (false, eval b X.env)] := by rfl) (hs2 : starEach [b] X.env = [(false, eval b X.env)] := by rfl)
    (hs3 : starEach [.Call (.Name "zip" p2) [a, b] [] pos2] X.env = [(false, eval (.Call (.Name "zip" p2) [a, b] [] pos2) X.env)] := by rfl) : QE X (.Call (.Name "sorted" p1) [.Call (.Name "zip" p2) [a, b] [] pos2] [] pos) (tSortZ X.K ta) := ⟨by
  intro pins s σ H Q I h
  refine wpAny_Call_Name_kw (ld_blt I hg1 hm1 bt_sorted ?_ (by decide) (by decide))
  refine PyProof.Rows.callWith_builtin1 ?_ (by rw [hs3]; rfl) (by rfl)
  rw [hs3]
  show wpAny _ _ (spliced ((false, eval (.Call (.Name "zip" p2) [a, b] [] pos2) X.env) :: backTo pos [])) _ _ s
  refine Calls.spliced_cons (Call_ (ld_blt I hg2 hm2 bt_zip (PyProof.Rows.callWith_type1 (thn (ha.h pos2 pins s σ H _ I h) fun us s1 ⟨vs, H1, I1, r1, q1⟩ => ?_) (by rw [hs, hs2]) (by rw [hs2]; rfl)) (by decide) (by decide)))
  obtain ⟨l1, l2, e, tops, ys, h1, h2, hl, h64, hd, q⟩ := q1
  subst e
  cases r1 with
  | cons r rr =>
    cases rr with
    | cons r' rr =>
      cases rr
      cases r
      cases r'
      exact thn (sortZ_run hc I1 h1 h2 hl h64 hd q) fun u s2 hu => Calls.spliced_nil hu⟩
end L2

set_option Elab.async false
set_option linter.all false
set_option maxRecDepth 100000
namespace L2
open PySem PySem.Spec PyProof.Rows PySem.W PySem.Calls
abbrev TKs := List (List Key × Addr × Value)
def dX (P : Program) (w : World) (a : Addr) (xs : TKs) : HO := .ext fun h => xs.length ≤ sizeLine ∧ (a == sysModules) = false ∧ (xs.map (·.1)).Nodup ∧ ∃ o es ep, h.get? a = some o ∧ o.ExactDict ∧ o.data = .dict es ep ∧ es.toList = xs.map (entryOfKey (tupleKind (mixKind P w)))
def KyAt (K : PySem.W.Frag) (H : Hp) (xs : TKs) : Prop := ∀ x ∈ xs, vw K H x.2.1 = some (.tup (x.1.map kV))
section
variable {X : Cx} {pins : List (Addr × Obj)} {σ : St} {H : Hp} {s : Shared} {a b : Addr} {xs : TKs} {k : List Key}
theorem key_vw (I : Inv X pins σ H s) (e : vw X.K H b = some (.tup (k.map kV))) : (tupleKind (mixKind X.prog X.w)).is s.heap k b := by
  obtain ⟨its, r, ⟨o, h1, h2, n, h3⟩, _⟩ := I.tuple (vw_tup e)
  exact ⟨o, its.toArray, n, h1, h2, h3, by simpa using items_are r⟩
theorem dX_at (I : Inv X pins σ H s) (e : vw X.K H a = some (dX X.prog X.w a xs)) (hk : KyAt X.K H xs) : xs.length ≤ sizeLine ∧ (a == sysModules) = false ∧ s.heap.DictOfH (tupleKind (mixKind X.prog X.w)) a xs := by
  have e' : H a = some (dX X.prog X.w a xs) := vw_get e fun _ z => by cases z
  obtain ⟨⟨z, hd, nd, o, es, ep, h1, h2, h3, h4⟩, _, _⟩ := I.hok a _ e'
  exact ⟨z, hd, o, es, ep, h1, h2, h3, h4, fun x hx => key_vw I (hk x hx), nd⟩
theorem dX_new {H' : Hp} {h' : Heap} (z : xs.length ≤ sizeLine) (hd : (a == sysModules) = false) (nd : (xs.map (·.1)).Nodup) {o : Obj} {es : Array DictEntry} {ep : Nat} (h1 : h'.get? a = some o) (h2 : o.ExactDict) (h3 : o.data = .dict es ep) (h4 : es.toList = xs.map (entryOfKey (tupleKind (mixKind X.prog X.w)))) : ObjOk X.prog X.w H' h' a (dX X.prog X.w a xs) :=
  ⟨⟨z, hd, nd, o, es, ep, h1, h2, h3, h4⟩, ⟨o, h1⟩, fun g1 g2 ⟨z', hd', nd', o', es', ep', q1, q2, q3, q4⟩ kp => ⟨z', hd', nd', o', es', ep', kp _ q1, q2, q3, q4⟩⟩
end
section
variable {X : Cx}
def tDNewX (K : PySem.W.Frag) (P : Program) (w : World) : TE := fun _ H Q => ∀ p H2, vw K H p = none → Same (vw K H) (vw K H2) → vw K H2 p = some (dX P w p []) → Q (.ref p) H2
theorem qe_dnewX {pos : Pos} : QE X (.Dict [] [] pos) (tDNewX X.K X.prog X.w) := ⟨fun pins s σ H Q I h => by
  have fr := I.hok.fresh (Nat.le_refl s.heap.objs.size)
  have nk := I.newK (Nat.le_refl s.heap.objs.size)
  refine wpAny_Dict_empty ⟨.ref s.heap.objs.size, upd H s.heap.objs.size (dX X.prog X.w s.heap.objs.size []), I.laid (t' := s.toks) (fun _ _ q => Heap.get?_push_of_some _ q) (Nat.le_refl _) ?_, rfl, h _ _ (by rw [vw_new nk]; exact fr) (vw_same (Same.upd fr)) (by rw [vw_new nk]; exact upd_same)⟩
  refine dX_new (Nat.zero_le _) ?_ List.nodup_nil (Heap.get?_push_size _ rfl) ⟨rfl, rfl, rfl⟩ rfl rfl
  have := I.big
  simp only [beq_eq_false_iff_ne, ne_eq]
  intro e
  rw [e] at this
  exact Nat.lt_irrefl _ this⟩
def rInX (K : PySem.W.Frag) (P : Program) (w : World) : R2 := fun x y H Q => ∃ a b, x = .ref b ∧ y = .ref a ∧ ∃ xs k, vw K H a = some (dX P w a xs) ∧ KyAt K H xs ∧ vw K H b = some (.tup (k.map kV)) ∧ Q (.bl (atKey xs k).isSome) H
theorem op_inX (hu : X.A.units + 64 < cLine) : OpR X (compareOp .In) (rInX X.K X.prog X.w) := fun pins s σ H x y v u Q I rx ry h => by
  obtain ⟨a, b, rfl, rfl, xs, k, h1, h2, h3, q⟩ := h
  cases rx
  cases ry
  obtain ⟨z, hd, dd⟩ := dX_at I h1 h2
  exact wpAny_in_heap (tupleKind_room_in1 (by walk_at "o")) (key_vw I h3) hd dd ⟨.bl _, H, I.tok _, rfl, q⟩
def tDGetX (K : PySem.W.Frag) (P : Program) (w : World) (td ty : TE) : TE := fun σ H Q => td σ H fun x H1 => ty σ H1 fun y H2 => ∃ a b, x = .ref a ∧ y = .ref b ∧ ∃ xs k, vw K H2 a = some (dX P w a xs) ∧ KyAt K H2 xs ∧ vw K H2 b = some (.tup (k.map kV)) ∧ ∃ c u, atKey xs k = some (c, .ref u) ∧ Q (.ref u) H2
theorem qe_dgetX {o i : Expr} {pos : Pos} {td ty : TE} (hu : X.A.units + 64 < cLine) (ho : QE X o td) (hi : QE X i ty) (hs : NoSl i) : QE X (.Subscript o i pos) (tDGetX X.K X.prog X.w td ty) := ⟨by
  intro pins s σ H Q I h
  refine subD_of PySem.F.slot_dict_getitem.lookup hs (thn (ho.h pins s σ H _ I h) fun u s1 ⟨x, H1, I1, rx, q1⟩ => thn (hi.h pins s1 σ H1 _ I1 q1) fun iv s2 ⟨y, H2, I2, ry, a, b, ex, ey, xs, k, h1, h2, h3, c, v, h4, q⟩ => ?_)
  subst ex ey
  cases rx
  cases ry
  obtain ⟨z, hd, dd⟩ := dX_at I2 h1 h2
  exact ⟨dd.typeIs, wpAny_getItem_heap (tupleKind_room_in1 (by walk_at "o")) (key_vw I2 h3) dd h4 ⟨.ref v, H2, I2.tok _, rfl, q⟩⟩⟩
def rSetX (K : PySem.W.Frag) (P : Program) (w : World) : V → V → V → Hp → (Hp → Prop) → Prop := fun o i v H Q => ∃ a b c, o = .ref a ∧ i = .ref b ∧ v = .ref c ∧ ∃ xs k, vw K H a = some (dX P w a xs) ∧ KyAt K H xs ∧ vw K H b = some (.tup (k.map kV)) ∧ xs.length < sizeLine ∧
  Chg K H a (dX P w a (storedH xs k b (.ref c))) Q
theorem set_dX (hu : X.A.units + 64 < cLine) : PSet X (rSetX X.K X.prog X.w) := fun pins s σ H o i v ov iv u Q I ro ri rv ⟨a, b, c, e1, e2, e3, xs, k, h1, h2, h3, z, q⟩ => by
  subst e1 e2 e3
  cases ro
  cases ri
  cases rv
  obtain ⟨_, hd, dd⟩ := dX_at I h1 h2
  have e' : H a = some (dX X.prog X.w a xs) := vw_get h1 fun _ z => by cases z
  refine wpAny_setItem_heap (hsz := Nat.le_of_lt z) (tupleKind_room_in1 (by walk_at "o")) (key_vw I h3) dd fun h' dd' hs => ?_
  obtain ⟨o, es, ep, g1, g2, g3, g4, _, g5⟩ := dd'
  refine ⟨_, d_write (ob := dX X.prog X.w a (storedH xs k b (.ref c))) I (by rw [e']; exact True.intro) hs ⟨o, g1⟩ (dX_new ?_ hd g5 g1 g2 g3 g4), q.ok (I.noK e')⟩
  unfold storedH
  split
  · rw [List.length_map]; walk_at "o"
  · rw [List.length_append]; exact z
end
def Ents (es : Array DictEntry) (ep : Nat) (d : Addr) (h : Heap) : Prop := ∃ o, h.get? d = some o ∧ o.ExactDict ∧ o.data = .dict es ep
section
variable {prog : Program} {w : World} {A : Around} {E : Value → Shared → Prop} {s : Shared} {d it : Addr} {es : Array DictEntry} {ep i : Nat}
theorem Ents.ty (h : Ents es ep d s.heap) : s.TypeIs (.ref d) "dict" := let ⟨o, h1, h2, _⟩ := h; ⟨o, h1, h2.1⟩
theorem ents_iter {Q : Value → Shared → Prop} (hd : (d == sysModules) = false) (hm : Ents es ep d s.heap) (hQ : Q (.ref s.heap.objs.size) { s with heap := s.heap.push { cls := .type "dict_keyiterator", data := .fields #[.ref d, .int 0 0, .int es.size 0, .int ep 0] } }) :
    wpAny (model prog w) A (pyIter (.ref d)) Q E s := by
  obtain ⟨o, ho, hc, hdat⟩ := id hm
  refine wpAny_pyIter_slot hm.ty F.slot_dict_iter (wpAny_call_entry F.slot_dict_iter hm.ty F.entry_dict_iter ?_ (F.args_dict_iter_1 _)); unfold Builtin.«dict.__iter__»
  refine wpAny_bind ?_; unfold Builtin.Dict.dictSlotNone
  refine wpAny_bind (wpAny_notOrdered_dict hm.ty ?_); show wpAny _ _ (pure (Value.ref d)) _ _ s
  refine wpAny_pure ?_; show wpAny _ _ (Builtin.Dict.showsAll d >>= _) _ _ s
  unfold Builtin.Dict.showsAll; rw [if_neg (by rw [hd]; exact Bool.false_ne_true)]
  refine wpAny_bind (wpAny_pure ?_); refine wpAny_bind (wpAny_dictEntries ho hdat ?_); refine wpAny_bind (wpAny_dictEpoch ho hdat ?_)
  refine wpAny_bind (wpAny_newObj_type (wpAny_pure ⟨_, rfl, "dict_keyiterator", _, ⟨_, Heap.get?_push_size _ rfl, rfl⟩, F.slot_dict_keyiterator_next.lookup, ?_⟩)); simpa [rawInt] using hQ
theorem ents_next {Q : Option Value → Shared → Prop} (hit : s.heap.IsKeyIter it d i es.size ep) (hm : Ents es ep d s.heap) (hx : i < es.size)
    (hQ : ∀ h', h'.IsKeyIter it d (i + 1) es.size ep → Heap.SameBut it s.heap h' → Q (some es[i].key) { s with heap := h' }) : wpAny (model prog w) A (pyNext (.ref it)) Q E s := by
  obtain ⟨o, ho, hc, hd⟩ := id hit
  obtain ⟨od, hod, hcd, hdd⟩ := id hm
  unfold pyNext
  refine wpAny_bind (wpAny_attempt (wpAny_callSpecial?_slot (name := Str.ofString "__next__") hit.typeIs F.slot_dict_keyiterator_next (wpAny_call_entry F.slot_dict_keyiterator_next hit.typeIs F.entry_dict_keyiterator_next ?_ (F.args_dict_keyiterator_next_1 _))))
  refine wpAny_bind (wpAny_pure ?_); refine wpAny_bind ?_; refine wpAny_bind ?_
  (first | refine wpAny_bind (wpAny_typeNameOfWhole_keyiter hit.typeIs (wpAny_pure ?_)) | refine wpAny_bind (wpAny_typeNameOf_keyiter hit.typeIs (wpAny_pure ?_))); refine wpAny_bind (wpAny_fieldsOf ho hd ?_)
  have own : Builtin.Dict_items.ownsTuple "dict_keyiterator" = false := by decide
  simp only [own, Bool.false_eq_true, if_false]; show wpAny _ _ (if (Value.ref d == Value.none) = true then _ else _) _ _ s
  rw [if_neg (show ¬ ((Value.ref d == Value.none) = true) from Bool.false_ne_true)]; refine wpAny_bind (wpAny_pure ?_); refine wpAny_bind (wpAny_dictEntries hod hdd ?_)
  rw [if_neg (by simp)]; refine wpAny_bind (wpAny_pure ?_); refine wpAny_bind (wpAny_dictEpoch hod hdd ?_)
  rw [if_neg (by simp)]; refine wpAny_pure ?_
  simp only [show ¬ ((i : Int) < 0) from by walk_at "o", if_false, Int.toNat_natCast, Array.getElem?_eq_getElem hx]; refine wpAny_bind ?_
  (first | refine wpAny_bind (wpAny_typeNameOfWhole_keyiter hit.typeIs (wpAny_pure ?_)) | refine wpAny_bind (wpAny_typeNameOf_keyiter hit.typeIs (wpAny_pure ?_))); refine wpAny_bind (wpAny_isOneOf_keyiter hit.typeIs ?_)
  show wpAny _ _ (setField (.ref it) 1 (rawInt ((i : Int) + 1)) >>= _) _ _ s; refine wpAny_bind (wpAny_setField ho hd (by simp) ?_)
  have hit2 : (s.heap.update it (Obj.mapFields (·.setIfInBounds 1 (rawInt ((i : Int) + 1))))).IsKeyIter it d (i + 1) es.size ep := ⟨_, Heap.get?_update_self _ ho (Obj.isFreed_of_fields (Obj.data_mapFields hd _)), (Obj.cls_mapFields ..).trans hc, by rw [Obj.data_mapFields hd]; simp [rawInt]⟩
  refine wpAny_bind (wpAny_holding ?_); refine wpAny_bind (wpAny_isOneOf_keyiter (s := { s with heap := s.heap.update it (Obj.mapFields (·.setIfInBounds 1 (rawInt ((i : Int) + 1)))) }) hit2.typeIs ?_)
  show wpAny _ _ (pure es[i].key) _ _ _; exact wpAny_pure (wpAny_pure ⟨_, rfl, wpAny_pure (hQ _ hit2 (Heap.SameBut.update ..))⟩)
theorem ents_end {Q : Option Value → Shared → Prop} (hh : A.handled = none) (hit : s.heap.IsKeyIter it d es.size es.size ep) (hm : Ents es ep d s.heap) (hQ : ∀ h', Heap.ExtBut it s.heap h' → Q none { s with heap := h' }) : wpAny (model prog w) A (pyNext (.ref it)) Q E s := by
  obtain ⟨o, ho, hc, hd⟩ := id hit
  obtain ⟨od, hod, hcd, hdd⟩ := id hm
  unfold pyNext
  refine wpAny_bind (wpAny_attempt (wpAny_callSpecial?_slot (name := Str.ofString "__next__") hit.typeIs F.slot_dict_keyiterator_next (wpAny_call_entry F.slot_dict_keyiterator_next hit.typeIs F.entry_dict_keyiterator_next ?_ (F.args_dict_keyiterator_next_1 _))))
  refine wpAny_bind (wpAny_pure ?_); refine wpAny_bind ?_; refine wpAny_bind ?_
  (first | refine wpAny_bind (wpAny_typeNameOfWhole_keyiter hit.typeIs (wpAny_pure ?_)) | refine wpAny_bind (wpAny_typeNameOf_keyiter hit.typeIs (wpAny_pure ?_))); refine wpAny_bind (wpAny_fieldsOf ho hd ?_)
  have own : Builtin.Dict_items.ownsTuple "dict_keyiterator" = false := by decide
  simp only [own, Bool.false_eq_true, if_false]; show wpAny _ _ (if (Value.ref d == Value.none) = true then _ else _) _ _ s
  rw [if_neg (show ¬ ((Value.ref d == Value.none) = true) from Bool.false_ne_true)]; refine wpAny_bind (wpAny_pure ?_); refine wpAny_bind (wpAny_dictEntries hod hdd ?_)
  rw [if_neg (by simp)]; refine wpAny_bind (wpAny_pure ?_); refine wpAny_bind (wpAny_dictEpoch hod hdd ?_)
  rw [if_neg (by simp)]; refine wpAny_pure ?_
  simp only [show ¬ ((es.size : Int) < 0) from by walk_at "o", if_false, Int.toNat_natCast, Array.getElem?_eq_none (Nat.le_refl _)]; refine wpAny_bind ?_
  (first | refine wpAny_bind (wpAny_typeNameOfWhole_keyiter hit.typeIs (wpAny_pure ?_)) | refine wpAny_bind (wpAny_typeNameOf_keyiter hit.typeIs (wpAny_pure ?_)))
  show wpAny _ _ (setField (.ref it) 0 .none >>= _) _ _ s; refine wpAny_bind (wpAny_setField ho hd (by simp) ?_)
  show wpAny _ _ (newExc (.type "StopIteration") [] >>= _) _ _ _; refine wpAny_bind ?_
  simp only [newExc, newTuple]; refine wpAny_bind (wpAny_newObj_type ?_ (by size_fits))
  refine wpAny_bind (m := firstArgMember _ _) (wpAny_of_eq (a := Value.none) (by first | rfl | (simp only [firstArgMember]; rfl)) ?_); refine wpAny_newObj_type ?_ (by size_fits)
  simp only [raiseNew]; refine wpAny_bind (wpAny_handled ?_); rw [show A.in1.handled = none from hh]
  refine wpAny_bind (wpAny_pure (wpAny_throw ?_)); refine wpAny_bind (wpAny_isInstance (T := "StopIteration") (b := true) ⟨_, Heap.get?_push_size _ rfl, rfl⟩ isSubtype_stop ?_)
  exact wpAny_pure (hQ _ (((Heap.SameBut.update ..).extBut.push _).push _))
theorem ents_walks (hh : A.handled = none) (hne : d ≠ it) : Walks prog w A it [it, d] [it] es.size (fun i v => ∃ e, es[i]? = some e ∧ v = e.key) (fun i h => h.IsKeyIter it d i es.size ep ∧ Ents es ep d h) where
  sub := fun b hb => by simp at hb; simp [hb]
  frame := fun _ _ _ st hk => ⟨st.1.at fun o e => hk it (by simp) o e, let ⟨o, e, r⟩ := st.2; ⟨o, hk d (by simp) o e, r⟩⟩
  item := fun i s Q E hi st hQ => ents_next st.1 st.2 hi fun h' a b => hQ _ h' s.toks ⟨_, Array.getElem?_eq_getElem hi, rfl⟩ ⟨a, let ⟨o, e, r⟩ := st.2; ⟨o, b.extBut _ _ hne e, r⟩⟩ fun c o hc e => b.extBut c o (fun z => hc (by simp [z])) e
  done := fun s Q E st hQ => ents_end hh st.1 st.2 fun h' he => hQ h' s.toks fun c o hc e => he c o (fun z => hc (by simp [z])) e
  self := fun _ _ _ _ st hQ => wpAny_pyIter_keyiter st.1 hQ
theorem ents_src (lo : (d == sysModules) = false) : KdlSrc prog w "dict" d d es.size (fun i v => ∃ e, es[i]? = some e ∧ v = e.key) (Ents es ep d) where
  type := fun s hm => hm.ty
  there := fun _ ⟨_, e, _⟩ => ⟨Heap.lt_size e, Heap.lt_size e⟩
  keep := fun _ _ ⟨o, e, r⟩ hk => ⟨o, hk d (.inl rfl) o e, r⟩
  notList := by decide
  notTuple := by decide
  hint := fun _ _ _ _ hm hq => kdl_hint_dict hm.ty hq
  iter := fun A s hh hm => ⟨_, _, (fun _ _ hq => ents_iter lo hm hq), ents_walks hh (by obtain ⟨o, e, _⟩ := hm; exact Nat.ne_of_lt (Heap.lt_size e)), ⟨⟨_, Heap.get?_push_size _ rfl, rfl, rfl⟩, let ⟨o, e, r⟩ := hm; ⟨o, Heap.get?_push_of_some _ e, r⟩⟩⟩
end
theorem vals_refs : ∀ {α : Type} (f : α → Addr) (xs : List α), Vals (xs.map fun x => V.ref (f x)) (xs.map fun x => Value.ref (f x))
  | _, _, [] => .nil
  | _, f, _ :: r => .cons rfl (vals_refs f r)
def rListX (K : PySem.W.Frag) (P : Program) (w : World) : List V → Hp → VK → Prop := fun vs H Q => ∃ a, vs = [.ref a] ∧ ∃ xs, vw K H a = some (dX P w a xs) ∧ Nw K H (.lst (xs.map fun x => V.ref x.2.1)) Q
theorem call_listX {X : Cx} (hc : X.calm = true) : CallR X (.type "list") (rListX X.K X.prog X.w) := fun pins s σ H vs us Q I rv h => by
  obtain ⟨a, rfl, xs, h1, q⟩ := h
  obtain ⟨u, rfl, ru⟩ := rv.one
  cases ru
  have e' : H a = some (dX X.prog X.w a xs) := vw_get h1 fun _ z => by cases z
  obtain ⟨⟨z, hd, nd, o, es, ep, g1, g2, g3, g4⟩, _, _⟩ := I.hok a _ e'
  have hz : es.size = xs.length := by rw [← Array.length_toList, g4, List.length_map]
  refine kdl_call (ents_src (es := es) (ep := ep) hd) (I.ok.hd hc) ⟨o, g1, g2, g3⟩ (by rw [hz]; exact z) fun h' tk acc' c' hk hl hi => ?_
  have ea : acc'.toList = xs.map fun x => Value.ref x.2.1 := by
    apply List.ext_getElem?
    intro j
    by_cases hj : j < xs.length
    · have h1 : j < acc'.size := by rw [hi.1, hz]; exact hj
      obtain ⟨e, he, hv⟩ := hi.2 j acc'[j] (Array.getElem?_eq_getElem h1)
      rw [← Array.getElem?_toList, g4, List.getElem?_map, List.getElem?_eq_getElem hj] at he
      cases he
      rw [Array.getElem?_toList, Array.getElem?_eq_getElem h1, List.getElem?_map, List.getElem?_eq_getElem hj, hv]
      rfl
    · rw [List.getElem?_eq_none (by rw [Array.length_toList, hi.1, hz]; walk_at "o"), List.getElem?_eq_none (by rw [List.length_map]; walk_at "o")]
  have fr := I.hok.fresh (Nat.le_refl s.heap.objs.size)
  refine ⟨.ref s.heap.objs.size, upd H s.heap.objs.size (.lst (xs.map fun x => V.ref x.2.1)), I.laid (t' := tk) hk (Nat.le_refl _) ⟨by rw [List.length_map]; exact z, _, c', vals_refs (fun x => x.2.1) xs, ?_⟩, rfl, q.ok (I.newK (Nat.le_refl _)) fr⟩
  rw [hl, ← ea, Array.toArray_toList]
def insV (xs : List V) (k : Nat) (y : V) : List V := xs.take k ++ y :: xs.drop k
def rInsS (K : PySem.W.Frag) : V → List V → Hp → VK → Prop := fun x vs H Q => ∃ l k y, x = .ref l ∧ vs = [.int k, y] ∧ ∃ xs, vw K H l = some (.lst xs) ∧ xs.length < sizeLine ∧ 0 ≤ k ∧ k.toNat ≤ xs.length ∧ Chg K H l (.lst (insV xs k.toNat y)) (Q .non)
theorem vals_take : ∀ {ys : List V} {acc : List Value}, Vals ys acc → ∀ k : Nat, Vals (ys.take k) (acc.take k)
  | _, _, .nil, k => by simp; exact .nil
  | _, _, .cons _ _, 0 => .nil
  | _, _, .cons r t, k + 1 => .cons r (vals_take t k)
theorem vals_drop : ∀ {ys : List V} {acc : List Value}, Vals ys acc → ∀ k : Nat, Vals (ys.drop k) (acc.drop k)
  | _, _, .nil, k => by simp; exact .nil
  | _, _, .cons r t, 0 => .cons r t
  | _, _, .cons _ t, k + 1 => vals_drop t k
theorem mt_insertS {X : Cx} : MtM X "list.insert" (rInsS X.K) := by
  intro pins s σ H x vs v us Q I rx rv h
  obtain ⟨l, k, y, rfl, rfl, xs, h1, hz, k0, k1, q⟩ := h
  have e' : H l = some (.lst xs) := vw_get h1 fun _ z => by cases z
  cases rx
  cases rv with
  | cons r rr =>
    cases rr with
    | @cons _ u _ _ ru rr' =>
      cases rr'
      obtain ⟨t, rfl⟩ := r
      obtain ⟨z, its, n, rr, hl, e⟩ := I.lstM e'
      have sl : xs.length < 2 ^ 62 := Nat.lt_of_lt_of_le hz (by decide)
      refine call_meets F.slot_list_insert ⟨_, e, rfl⟩ F.entry_list_insert (F.args_list_insert_3 _ _ _) (PySem.AutoSeq1.list_insert_list_int_val_1 l its.toArray n k t u ?_ (by rw [List.size_toArray]; walk_at "o")) ⟨e, ?_⟩
      · have a1 : decide (-(2 ^ 63 : Int) ≤ k) = true := decide_eq_true (by walk_at "o")
        have a2 : decide (k < (2 ^ 63 : Int)) = true := decide_eq_true (by walk_at "o")
        simp [Builtin.List.listFitsIndex]
        walk_at "o"
      · refine ⟨.non, _, I.lset (its' := its.take k.toNat ++ u :: its.drop k.toNat) e' e ?_ (Vals.append (vals_take rr k.toNat) (.cons ru (vals_drop rr k.toNat))) ?_, rfl, q.ok (I.noK e')⟩
        · show (its.toArray.extract 0 (if k < 0 then (k + (its.toArray.size : Int)).toNat else min k.toNat its.toArray.size)).push u ++ its.toArray.extract (if k < 0 then (k + (its.toArray.size : Int)).toNat else min k.toNat its.toArray.size) = _
          rw [if_neg (by walk_at "o"), Nat.min_eq_left (by rw [List.size_toArray]; walk_at "o")]
          exact kl_ins_eq its k.toNat u
        · rw [List.length_append, List.length_cons, List.length_take, List.length_drop]; walk_at "o"
def tPick (K : PySem.W.Frag) (sp1 sp2 : Sp) (ti : TE) (t : TA) : TE := fun σ H Q => ∀ f1 f2 p H0, vw K H p = none → Same (vw K H) (vw K H0) → vw K H0 p = some (.lst [.ref f1, .ref f2]) → ti σ H0 fun y H1 => rIxH K (.ref p) y H1 fun v H2 => (v = .ref f1 ∧ t σ H2 fun vs H3 => sp1 vs H3 Q E0) ∨ (v = .ref f2 ∧ t σ H2 fun vs H3 => sp2 vs H3 Q E0)
theorem qe_pick {X : Cx} {x1 x2 : Str} {p1 p2 p3 p4 pos : Pos} {i e : Expr} {es : List Expr} {ti : TE} {t : TA} {ps1 ps2 : List Str} {k : Nat} {sp1 sp2 : Sp} (C1 : Cal X.prog X.w X.K X.mg X.base x1 ps1 k sp1) (C2 : Cal X.prog X.w X.K X.mg X.base x2 ps2 k sp2) (hr : Room k X.A) (hg1 : Gl X x1) (hg2 : Gl X x2) (hi : QE X i ti) (hs : PlainIx i) (ha : QA X (e :: es) t)
    (hd1 : (x1 == ("__debug__" : Str)) = false := by decide) (hd2 : (x2 == ("__debug__" : Str)) = false := by decide) (he : starEach (e :: es) X.env = (false, eval e X.env) :: starEach es X.env := by rfl) (hpl : (backTo pos (starEach es X.env)).any (·.1) = false := by rfl)
    (hst1 : starEach [.Name x1 p1, .Name x2 p2] X.env = (false, eval (.Name x1 p1) X.env) :: starEach [.Name x2 p2] X.env := by rfl) (hst2 : starEach [.Name x2 p2] X.env = (false, eval (.Name x2 p2) X.env) :: starEach [] X.env := by rfl)
    (hcall : eval (.Call (.Subscript (.List [.Name x1 p1, .Name x2 p2] p3) i p4) (e :: es) [] pos) X.env = (do callWith pos (← eval (.Subscript (.List [.Name x1 p1, .Name x2 p2] p3) i p4) X.env) [] (backTo pos (starEach (e :: es) X.env)) (backToKw pos (keywordEach [] X.env))) := by rfl) :
    QE X (.Call (.Subscript (.List [.Name x1 p1, .Name x2 p2] p3) i p4) (e :: es) [] pos) (tPick X.K sp1 sp2 ti t) := ⟨by
  obtain ⟨f1, fd1, F1, hm1, hk1, hb1⟩ := C1.ex
  obtain ⟨f2, fd2, F2, hm2, hk2, hb2⟩ := C2.ex
  intro pins s σ H Q I h
  have hsub : QE X (.Subscript (.List [.Name x1 p1, .Name x2 p2] p3) i p4) (tOp (rIxH X.K) (tLstS X.K (tCons (tC (V.ref f1)) (tCons (tC (V.ref f2)) tNil))) ti) := qe_ix ix_h (qe_lstS ⟨pa_cons (pe_glob hg1 hm1 rfl hd1) (pa_cons (pe_glob hg2 hm2 rfl hd2) pa_nil hst2) hst1⟩) hi hs
  refine Call_ (thn (hsub.h pins s σ H (fun v H1 => (v = .ref f1 ∧ t σ H1 fun vs H2 => sp1 vs H2 Q E0) ∨ (v = .ref f2 ∧ t σ H1 fun vs H2 => sp2 vs H2 Q E0)) I ?_) fun u s1 ⟨v, H1, I1, r, q⟩ => ?_) hcall
  · show _ ≤ sizeLine ∧ Nw X.K H (.lst [V.ref f1, V.ref f2]) _
    exact ⟨show 2 ≤ sizeLine by decide, fun p H0 hp S0 h0 => h f1 f2 p H0 hp S0 h0⟩
  · rcases q with ⟨rfl, q⟩ | ⟨rfl, q⟩
    · cases r
      refine PySem.W.callWith_K (h₀ := X.base) I1.ok.mod.kin hk1 (thn (ha.h pos pins s1 σ H1 _ I1 q) fun us s2 ⟨vs, H2, I2, r2, q2⟩ => ⟨I2.kIn, ?_⟩) he hpl
      exact run_fn F1 hr hb1 .nil pass0 I2 r2 (by rw [List.append_nil]; exact q2)
    · cases r
      refine PySem.W.callWith_K (h₀ := X.base) I1.ok.mod.kin hk2 (thn (ha.h pos pins s1 σ H1 _ I1 q) fun us s2 ⟨vs, H2, I2, r2, q2⟩ => ⟨I2.kIn, ?_⟩) he hpl
      exact run_fn F2 hr hb2 .nil pass0 I2 r2 (by rw [List.append_nil]; exact q2)⟩
end L2

set_option Elab.async false
set_option linter.all false
set_option maxRecDepth 100000
namespace L2
open PySem PySem.Spec PyProof.Rows
theorem ltq_iff {p q : Int × Int} : ltq p q = true ↔ p.1 * q.2 < q.1 * p.2 := by
  unfold ltq
  exact decide_eq_true_iff
theorem ltq_trans {p q r : Int × Int} (hp : 0 < p.2) (hq : 0 < q.2) (hr : 0 < r.2) (h1 : ltq p q = true) (h2 : ltq q r = true) : ltq p r = true := by
  rw [ltq_iff] at h1 h2 ⊢
  have a := Int.mul_lt_mul_of_pos_right h1 hr
  have b := Int.mul_lt_mul_of_pos_right h2 hp
  have c : p.1 * q.2 * r.2 < r.1 * q.2 * p.2 := Int.lt_trans a (by rw [show q.1 * p.2 * r.2 = q.1 * r.2 * p.2 by rw [Int.mul_assoc, Int.mul_comm p.2, ← Int.mul_assoc]]; exact b)
  rw [show p.1 * q.2 * r.2 = p.1 * r.2 * q.2 by rw [Int.mul_assoc, Int.mul_comm q.2, ← Int.mul_assoc], show r.1 * q.2 * p.2 = r.1 * p.2 * q.2 by rw [Int.mul_assoc, Int.mul_comm q.2, ← Int.mul_assoc]] at c
  exact Int.lt_of_mul_lt_mul_right c (Int.le_of_lt hq)
theorem ltq_irr (p : Int × Int) : ltq p p = false := by
  unfold ltq
  exact decide_eq_false (Int.lt_irrefl _)
theorem ltq_asym {p q : Int × Int} (h : ltq p q = true) : ltq q p = false := by
  rw [ltq_iff] at h
  unfold ltq
  exact decide_eq_false (by walk_at "o")
theorem ltq_total {p q : Int × Int} (hp : Fq p) (hq : Fq q) (h1 : ltq p q = false) (h2 : ltq q p = false) : p = q := by
  unfold ltq at h1 h2
  have a := of_decide_eq_false h1
  have b := of_decide_eq_false h2
  have e : p.1 * q.2 = q.1 * p.2 := by walk_at "o"
  refine wv_inj hp hq ?_
  unfold wv
  have n1 := cast_ne hp.ne
  have n2 := cast_ne hq.ne
  have e' : (p.1 : Rat) * (q.2 : Rat) = (q.1 : Rat) * (p.2 : Rat) := by
    rw [← Rat.intCast_mul, ← Rat.intCast_mul, e]
  grind
def Ris (cs : List Spt) : Prop := cs.Pairwise fun c d => ltq c.1 d.1 = true
def Fqs (cs : List Spt) : Prop := ∀ c ∈ cs, Fq c.1 ∧ Fq c.2
def updS (p : Spt) (c : Spt) : Spt := if c.1 = p.1 then (p.1, addq c.2 p.2) else c
def atS (fs : List Spt) (q : Int × Int) : Nat := (fs.filter fun c => ltq c.1 q).length
def gstep (fs : List Spt) (p : Spt) : List Spt := if (∃ c, fs[atS fs p.1]? = some c ∧ c.1 = p.1) then fs.map (updS p) else fs.take (atS fs p.1) ++ p :: fs.drop (atS fs p.1)
def dstep (ds : List Spt) (p : Spt) : List Spt := if (∃ c ∈ ds, c.1 = p.1) then ds.map (updS p) else ds ++ [p]
theorem at_le (fs : List Spt) (q : Int × Int) : atS fs q ≤ fs.length := List.length_filter_le _ _
theorem at_split : ∀ {fs : List Spt} {q : Int × Int}, Ris fs → Fqs fs → Fq q → (∀ c ∈ fs.take (atS fs q), ltq c.1 q = true) ∧ (∀ c ∈ fs.drop (atS fs q), ltq c.1 q = false)
  | [], q, _, _, _ => ⟨by simp, by simp⟩
  | c :: fs, q, hr, hf, hq => by
    have hr' := List.pairwise_cons.mp hr
    have ih := at_split (fs := fs) (q := q) hr'.2 (fun d hd => hf d (List.mem_cons_of_mem _ hd)) hq
    cases e : ltq c.1 q with
    | true =>
      have ea : atS (c :: fs) q = atS fs q + 1 := by simp [atS, List.filter_cons, e]
      rw [ea, List.take_succ_cons, List.drop_succ_cons]
      refine ⟨fun d hd => ?_, ih.2⟩
      rcases List.mem_cons.mp hd with rfl | z
      · exact e
      · exact ih.1 d z
    | false =>
      have all : ∀ d ∈ fs, ltq d.1 q = false := fun d hd => by
        cases e2 : ltq d.1 q with
        | false => rfl
        | true =>
          have := ltq_trans (hf c (List.mem_cons_self)).1.1 (hf d (List.mem_cons_of_mem _ hd)).1.1 hq.1 (hr'.1 d hd) e2
          rw [e] at this
          cases this
      have ea : atS (c :: fs) q = 0 := by
        simp only [atS, List.length_eq_zero_iff, List.filter_eq_nil_iff]
        intro d hd
        rcases List.mem_cons.mp hd with rfl | z
        · simp [e]
        · simp [all d z]
      rw [ea]
      refine ⟨by simp, fun d hd => ?_⟩
      rw [List.drop_zero] at hd
      rcases List.mem_cons.mp hd with rfl | z
      · exact e
      · exact all d z
theorem Ris.inj {cs : List Spt} (h : Ris cs) {c d : Spt} (hc : c ∈ cs) (hd : d ∈ cs) (e : c.1 = d.1) : c = d := by
  induction cs with
  | nil => cases hc
  | cons x r ih =>
    have h' := List.pairwise_cons.mp h
    rcases List.mem_cons.mp hc with rfl | z1
    · rcases List.mem_cons.mp hd with rfl | z2
      · rfl
      · have := h'.1 d z2
        rw [e, ltq_irr] at this
        cases this
    · rcases List.mem_cons.mp hd with rfl | z2
      · have := h'.1 c z1
        rw [e, ltq_irr] at this
        cases this
      · exact ih h'.2 z1 z2
theorem at_there {fs : List Spt} {q : Int × Int} (hr : Ris fs) (hf : Fqs fs) (hq : Fq q) : (∃ c, fs[atS fs q]? = some c ∧ c.1 = q) ↔ ∃ c ∈ fs, c.1 = q := by
  obtain ⟨s1, s2⟩ := at_split hr hf hq
  constructor
  · rintro ⟨c, e, ec⟩
    exact ⟨c, List.mem_of_getElem? e, ec⟩
  · rintro ⟨c, hc, rfl⟩
    rw [← List.take_append_drop (atS fs c.1) fs] at hc
    rcases List.mem_append.mp hc with z | z
    · have := s1 c z
      rw [ltq_irr] at this
      cases this
    · cases e : fs.drop (atS fs c.1) with
      | nil => rw [e] at z; cases z
      | cons d r =>
        have ed : fs[atS fs c.1]? = some d := by
          have := List.getElem?_drop (xs := fs) (i := atS fs c.1) (j := 0)
          rw [e, Nat.add_zero] at this
          exact this.symm
        refine ⟨d, ed, ?_⟩
        have hdm : d ∈ fs := List.mem_of_getElem? ed
        have hcm : c ∈ fs := by
          rw [← List.take_append_drop (atS fs c.1) fs]
          exact List.mem_append_right _ (by rw [e]; exact e ▸ z)
        rw [e] at z
        rcases List.mem_cons.mp z with rfl | z'
        · rfl
        · have hd2 : ltq d.1 c.1 = false := s2 d (by rw [e]; exact List.mem_cons_self)
          have hp : Ris (fs.drop (atS fs c.1)) := List.Pairwise.sublist (List.drop_sublist _ _) hr
          rw [e] at hp
          have := (List.pairwise_cons.mp hp).1 c z'
          rw [hd2] at this
          cases this
theorem upd_fst (p c : Spt) : (updS p c).1 = c.1 := by
  unfold updS
  split
  · rename_i e; exact e.symm
  · rfl
theorem ris_map {fs : List Spt} (p : Spt) (h : Ris fs) : Ris (fs.map (updS p)) := by
  unfold Ris
  rw [List.pairwise_map]
  exact List.Pairwise.imp (fun {a b} e => by rw [upd_fst, upd_fst]; exact e) h
theorem fqs_map {fs : List Spt} {p : Spt} (h : Fqs fs) (hp : Fq p.1 ∧ Fq p.2) : Fqs (fs.map (updS p)) := by
  intro c hc
  obtain ⟨d, hd, rfl⟩ := List.mem_map.mp hc
  unfold updS
  split
  · exact ⟨hp.1, addq_Fq (h d hd).2 hp.2⟩
  · exact h d hd
theorem gstep_ris {fs : List Spt} {p : Spt} (hr : Ris fs) (hf : Fqs fs) (hp : Fq p.1 ∧ Fq p.2) : Ris (gstep fs p) ∧ Fqs (gstep fs p) := by
  unfold gstep
  split
  · exact ⟨ris_map p hr, fqs_map hf hp⟩
  · rename_i hn
    rw [at_there hr hf hp.1] at hn
    obtain ⟨s1, s2⟩ := at_split hr hf hp.1
    refine ⟨?_, ?_⟩
    · unfold Ris
      rw [List.pairwise_append, List.pairwise_cons]
      refine ⟨List.Pairwise.sublist (List.take_sublist _ _) hr, ⟨fun d hd => ?_, List.Pairwise.sublist (List.drop_sublist _ _) hr⟩, fun c hc d hd => ?_⟩
      · have hdm := List.mem_of_mem_drop hd
        cases e : ltq p.1 d.1 with
        | true => rfl
        | false => exact (hn ⟨d, hdm, (ltq_total hp.1 (hf d hdm).1 e (s2 d hd)).symm⟩).elim
      · have h1 := s1 c hc
        rcases List.mem_cons.mp hd with rfl | z
        · exact h1
        · have hdm := List.mem_of_mem_drop z
          have hcm := List.mem_of_mem_take hc
          have e : ltq p.1 d.1 = true := by
            cases e : ltq p.1 d.1 with
            | true => rfl
            | false => exact (hn ⟨d, hdm, (ltq_total hp.1 (hf d hdm).1 e (s2 d z)).symm⟩).elim
          exact ltq_trans (hf c hcm).1.1 hp.1.1 (hf d hdm).1.1 h1 e
    · intro c hc
      rcases List.mem_append.mp hc with z | z
      · exact hf c (List.mem_of_mem_take z)
      · rcases List.mem_cons.mp z with rfl | z
        · exact hp
        · exact hf c (List.mem_of_mem_drop z)
theorem step_perm {fs ds : List Spt} {p : Spt} (hr : Ris fs) (hf : Fqs fs) (hp : Fq p.1 ∧ Fq p.2) (h : fs.Perm ds) : (gstep fs p).Perm (dstep ds p) := by
  unfold gstep dstep
  have e : (∃ c, fs[atS fs p.1]? = some c ∧ c.1 = p.1) ↔ ∃ c ∈ ds, c.1 = p.1 := by
    rw [at_there hr hf hp.1]
    exact ⟨fun ⟨c, hc, e⟩ => ⟨c, h.mem_iff.mp hc, e⟩, fun ⟨c, hc, e⟩ => ⟨c, h.mem_iff.mpr hc, e⟩⟩
  by_cases c : ∃ c ∈ ds, c.1 = p.1
  · rw [if_pos (e.mpr c), if_pos c]
    exact h.map _
  · rw [if_neg (fun z => c (e.mp z)), if_neg c]
    refine List.Perm.trans List.perm_middle ?_
    rw [List.take_append_drop]
    exact List.Perm.trans (List.Perm.cons _ h) (List.perm_append_singleton _ _).symm
def gath (ps : List Spt) : List Spt := ps.foldl gstep []
def dgath (ps : List Spt) : List Spt := ps.foldl dstep []
theorem gath_all : ∀ (ps fs ds : List Spt), Fqs ps → Ris fs → Fqs fs → fs.Perm ds → Ris (ps.foldl gstep fs) ∧ Fqs (ps.foldl gstep fs) ∧ (ps.foldl gstep fs).Perm (ps.foldl dstep ds)
  | [], fs, ds, _, hr, hf, h => ⟨hr, hf, h⟩
  | p :: ps, fs, ds, hp, hr, hf, h => by
    have hp' := hp p List.mem_cons_self
    obtain ⟨a, b⟩ := gstep_ris hr hf hp'
    exact gath_all ps _ _ (fun c hc => hp c (List.mem_cons_of_mem _ hc)) a b (step_perm hr hf hp' h)
theorem gath_ok {ps : List Spt} (h : Fqs ps) : Ris (gath ps) ∧ Fqs (gath ps) ∧ (gath ps).Perm (dgath ps) := gath_all ps [] [] h List.Pairwise.nil (by intro c hc; cases hc) (List.Perm.refl _)
theorem ris_uniq {a b : List Spt} (ha : Ris a) (hb : Ris b) (h : a.Perm b) : a = b := by
  refine List.Perm.eq_of_pairwise (le := fun c d => ltq c.1 d.1 = true ∨ c = d) (fun c d _ _ h1 h2 => ?_) (ha.imp fun z => .inl z) (hb.imp fun z => .inl z) h
  rcases h1 with h1 | rfl
  · rcases h2 with h2 | rfl
    · have := ltq_asym h1
      rw [h2] at this
      cases this
    · rfl
  · rfl
theorem gath_self {cs : List Spt} (hr : Ris cs) (hf : Fqs cs) : gath cs = cs := by
  obtain ⟨a, b, c⟩ := gath_ok hf
  refine ris_uniq a hr (c.trans ?_)
  have : ∀ (l r : List Spt), Ris (l ++ r) → r.foldl dstep l = l ++ r := by
    intro l r
    induction r generalizing l with
    | nil => intro _; simp
    | cons x r ih =>
      intro h
      have hx : ¬ ∃ c ∈ l, c.1 = x.1 := by
        rintro ⟨c, hc, e⟩
        have := (List.pairwise_append.mp h).2.2 c hc x List.mem_cons_self
        rw [e, ltq_irr] at this
        cases this
      show r.foldl dstep (dstep l x) = _
      rw [show dstep l x = l ++ [x] by unfold dstep; rw [if_neg hx]]
      rw [ih (l ++ [x]) (by rw [List.append_assoc]; exact h), List.append_assoc]
      rfl
  unfold dgath
  rw [this [] cs hr]
  exact List.Perm.refl _
theorem length_dstep (ds : List Spt) (p : Spt) : (dstep ds p).length ≤ ds.length + 1 := by
  unfold dstep
  split
  · rw [List.length_map]; walk_at "o"
  · rw [List.length_append]; simp
theorem length_gstep (ds : List Spt) (p : Spt) : (gstep ds p).length ≤ ds.length + 1 := by
  unfold gstep
  split
  · rw [List.length_map]; walk_at "o"
  · rw [List.length_append, List.length_cons, List.length_take, List.length_drop]; walk_at "o"
end L2

set_option Elab.async false
set_option linter.all false
set_option maxRecDepth 100000
namespace L2
open PySem PySem.Spec PyProof.Rows
def fk (q : Int × Int) : List Key := [.inl q.1, .inl q.2]
theorem fk_inj {p q : Int × Int} (h : fk p = fk q) : p = q := by
  unfold fk at h
  injection h with h1 h2
  injection h2 with h2 _
  injection h1 with h1
  injection h2 with h2
  exact Prod.ext h1 h2
def tupF (q : Int × Int) : HO := .tup [.int q.1, .int q.2]
def Dx (G : Hp) (xs : TKs) (ds : List Spt) : Prop := Paired (fun (x : List Key × Addr × Value) (c : Spt) => x.1 = fk c.1 ∧ G x.2.1 = some (tupF c.1) ∧ ∃ u : Addr, x.2.2 = Value.ref u ∧ G u = some (tupF c.2)) xs ds
section
variable {G G' : Hp} {xs : TKs} {ds : List Spt}
theorem Dx.keep (h : Dx G xs ds) (k : ∀ (u : Addr) (q : Int × Int), G u = some (tupF q) → G' u = some (tupF q)) : Dx G' xs ds := Paired.mapP h fun x c ⟨e1, e2, u, e3, e4⟩ => ⟨e1, k _ _ e2, u, e3, k _ _ e4⟩
theorem Dx.len (h : Dx G xs ds) : xs.length = ds.length := Paired.length h
theorem Dx.ky {K : PySem.W.Frag} {H : Hp} (h : Dx (vw K H) xs ds) : KyAt K H xs := by
  unfold Dx at h
  induction h with
  | nil => intro x hx; cases hx
  | cons r t ih =>
    intro x hx
    rcases List.mem_cons.mp hx with rfl | z
    · rw [r.1]; exact r.2.1
    · exact ih x z
theorem Dx.get (h : Dx G xs ds) (q : Int × Int) : ((¬ ∃ c ∈ ds, c.1 = q) ∧ atKey xs (fk q) = none) ∨ ∃ c ∈ ds, c.1 = q ∧ ∃ (a u : Addr), atKey xs (fk q) = some (a, Value.ref u) ∧ G u = some (tupF c.2) := by
  unfold Dx at h
  induction h with
  | nil => exact .inl ⟨fun ⟨c, hc, _⟩ => (by cases hc), rfl⟩
  | @cons x c xs ds r t ih =>
    obtain ⟨e1, e2, u, e3, e4⟩ := r
    by_cases e : c.1 = q
    · refine .inr ⟨c, List.mem_cons_self, e, x.2.1, u, ?_, e4⟩
      unfold atKey
      rw [List.find?_cons, show decide (x.1 = fk q) = true from decide_eq_true (by rw [e1, e])]
      simp [← e3]
    · have ex : atKey (x :: xs) (fk q) = atKey xs (fk q) := by
        unfold atKey
        rw [List.find?_cons, show decide (x.1 = fk q) = false from decide_eq_false (fun z => e (fk_inj (e1.symm.trans z)))]
      rw [ex]
      rcases ih with ⟨h1, h2⟩ | ⟨d, hd, h1, h2⟩
      · refine .inl ⟨fun ⟨d, hd, ed⟩ => ?_, h2⟩
        rcases List.mem_cons.mp hd with rfl | z
        · exact e ed
        · exact h1 ⟨d, z, ed⟩
      · exact .inr ⟨d, List.mem_cons_of_mem _ hd, h1, h2⟩
theorem Dx.new {b v : Addr} {p : Spt} (h : Dx G xs ds) (hn : ¬ ∃ c ∈ ds, c.1 = p.1) (hb : G b = some (tupF p.1)) (hv : G v = some (tupF p.2)) : Dx G (storedH xs (fk p.1) b (.ref v)) (dstep ds p) := by
  rcases h.get p.1 with ⟨_, e⟩ | ⟨c, hc, ec, _⟩
  · rw [storedH_new e]
    unfold dstep
    rw [if_neg hn]
    exact Paired.snoc h ⟨rfl, hb, v, rfl, hv⟩
  · exact (hn ⟨c, hc, ec⟩).elim
theorem Dx.old {b v : Addr} {p c : Spt} (h : Dx G xs ds) (hc : c ∈ ds) (ec : c.1 = p.1) (uq : ∀ d ∈ ds, d.1 = p.1 → d = c) (hv : G v = some (tupF (addq c.2 p.2))) : Dx G (storedH xs (fk p.1) b (.ref v)) (dstep ds p) := by
  rcases h.get p.1 with ⟨e, _⟩ | ⟨c', hc', ec', a, u, e, _⟩
  · exact (e ⟨c, hc, ec⟩).elim
  · rw [storedH_old e]
    unfold dstep
    rw [if_pos ⟨c, hc, ec⟩]
    clear e
    unfold Dx at h ⊢
    clear hc hc'
    induction h with
    | nil => exact .nil
    | @cons x d xs ds r t ih =>
      obtain ⟨e1, e2, w, e3, e4⟩ := r
      rw [List.map_cons, List.map_cons]
      refine .cons ?_ (ih fun d hd => uq d (List.mem_cons_of_mem _ hd))
      unfold putAt updS
      by_cases z : d.1 = p.1
      · have ed := uq d List.mem_cons_self z
        subst ed
        rw [if_pos (by rw [e1, z]), if_pos z]
        exact ⟨e1.trans (by rw [z]), by rw [← z]; exact e2, v, rfl, hv⟩
      · rw [if_neg (fun q => z (fk_inj (e1.symm.trans q))), if_neg z]
        exact ⟨e1, e2, w, e3, e4⟩
end
theorem Dx.spots {G : Hp} {xs : TKs} {ds : List Spt} (h : Dx G xs ds) : Reps G ((ds.map fun c => c.1).map fr) (xs.map fun x => V.ref x.2.1) := by
  unfold Dx at h
  induction h with
  | nil => exact .mk_nil
  | cons r t ih => exact .mk_cons (rep_pair r.2.1) ih
def Bws (m n : Nat) (cs : List Spt) : Prop := ∀ c ∈ cs, Bq m c.1 ∧ Bq n c.2
theorem Bws.mono {m n k : Nat} {cs : List Spt} (h : Bws m n cs) (e : n ≤ k) : Bws m k cs := fun c hc => ⟨(h c hc).1, (h c hc).2.mono e⟩
theorem bws_dstep {m n k : Nat} {ds : List Spt} {p : Spt} (h : Bws m n ds) (hf : Fqs ds) (hp : Fq p.1 ∧ Fq p.2) (hb : Bq m p.1 ∧ Bq k p.2) (hk : k ≤ n) : Bws m (n + k + 1) (dstep ds p) ∧ Fqs (dstep ds p) := by
  unfold dstep
  split
  · refine ⟨fun c hc => ?_, fqs_map hf hp⟩
    obtain ⟨d, hd, rfl⟩ := List.mem_map.mp hc
    unfold updS
    split
    · exact ⟨hb.1, addq_Bq (hf d hd).2 hp.2 (h d hd).2 hb.2⟩
    · exact ⟨(h d hd).1, (h d hd).2.mono (by walk_at "o")⟩
  · refine ⟨fun c hc => ?_, fun c hc => ?_⟩
    · rcases List.mem_append.mp hc with z | z
      · exact ⟨(h c z).1, (h c z).2.mono (by walk_at "o")⟩
      · cases List.mem_singleton.mp z
        exact ⟨hb.1, hb.2.mono (by walk_at "o")⟩
    · rcases List.mem_append.mp hc with z | z
      · exact hf c z
      · cases List.mem_singleton.mp z
        exact hp
theorem bws_gstep {m n k : Nat} {ds : List Spt} {p : Spt} (h : Bws m n ds) (hf : Fqs ds) (hp : Fq p.1 ∧ Fq p.2) (hb : Bq m p.1 ∧ Bq k p.2) (hk : k ≤ n) : Bws m (n + k + 1) (gstep ds p) := by
  unfold gstep
  split
  · intro c hc
    obtain ⟨d, hd, rfl⟩ := List.mem_map.mp hc
    unfold updS
    split
    · exact ⟨hb.1, addq_Bq (hf d hd).2 hp.2 (h d hd).2 hb.2⟩
    · exact ⟨(h d hd).1, (h d hd).2.mono (by walk_at "o")⟩
  · intro c hc
    rcases List.mem_append.mp hc with z | z
    · exact ⟨(h c (List.mem_of_mem_take z)).1, (h c (List.mem_of_mem_take z)).2.mono (by walk_at "o")⟩
    · rcases List.mem_cons.mp z with rfl | z
      · exact ⟨hb.1, hb.2.mono (by walk_at "o")⟩
      · exact ⟨(h c (List.mem_of_mem_drop z)).1, (h c (List.mem_of_mem_drop z)).2.mono (by walk_at "o")⟩
theorem dgath_take {ps : List Spt} {i : Nat} {p : Spt} (h : ps[i]? = some p) : dgath (ps.take (i + 1)) = dstep (dgath (ps.take i)) p := by
  unfold dgath
  rw [List.take_add_one, h, List.foldl_append]
  rfl
theorem gath_take {ps : List Spt} {i : Nat} {p : Spt} (h : ps[i]? = some p) : gath (ps.take (i + 1)) = gstep (gath (ps.take i)) p := by
  unfold gath
  rw [List.take_add_one, h, List.foldl_append]
  rfl
theorem dgath_uq {ps : List Spt} (h : Fqs ps) {c d : Spt} (hc : c ∈ dgath ps) (hd : d ∈ dgath ps) (e : c.1 = d.1) : c = d := by
  obtain ⟨a, b, p⟩ := gath_ok h
  exact a.inj (p.mem_iff.mpr hc) (p.mem_iff.mpr hd) e
theorem dgath_nd {ps : List Spt} (h : Fqs ps) {i j : Nat} {c d : Spt} (hc : (dgath ps)[i]? = some c) (hd : (dgath ps)[j]? = some d) (e : c.1 = d.1) : i = j := by
  obtain ⟨a, b, p⟩ := gath_ok h
  have n1 : ((gath ps).map fun c => c.1).Nodup := by
    rw [List.nodup_iff_pairwise_ne, List.pairwise_map]
    exact List.Pairwise.imp (fun {x y} z q => by rw [q, ltq_irr] at z; cases z) a
  have n2 : ((dgath ps).map fun c => c.1).Nodup := (p.map _).nodup_iff.mp n1
  rw [List.nodup_iff_pairwise_ne, List.pairwise_iff_getElem] at n2
  obtain ⟨hi, rfl⟩ := List.getElem?_eq_some_iff.mp hc
  obtain ⟨hj, rfl⟩ := List.getElem?_eq_some_iff.mp hd
  rcases Nat.lt_trichotomy i j with z | z | z
  · exact (n2 i j (by simpa using hi) (by simpa using hj) z (by simpa using e)).elim
  · exact z
  · exact (n2 j i (by simpa using hj) (by simpa using hi) z (by simpa using e.symm)).elim
theorem Dx.at {G : Hp} {xs : TKs} {ds : List Spt} (h : Dx G xs ds) : ∀ {j : Nat} {c : Spt}, ds[j]? = some c → ∃ ka v, (xs.map fun x => V.ref x.2.1)[j]? = some (V.ref ka) ∧ xs[j]? = some (fk c.1, ka, v) ∧ G ka = some (tupF c.1) := by
  unfold Dx at h
  induction h with
  | nil => intro j c e; simp at e
  | @cons x d xs ds r t ih =>
    intro j c e
    cases j with
    | zero =>
      simp only [List.getElem?_cons_zero, Option.some.injEq] at e
      subst e
      exact ⟨x.2.1, x.2.2, rfl, by rw [← r.1]; rfl, r.2.1⟩
    | succ j => exact ih e
theorem fqs_take {ps : List Spt} (h : Fqs ps) (i : Nat) : Fqs (ps.take i) := fun c hc => h c (List.mem_of_mem_take hc)
theorem len_dgath (ps : List Spt) : (dgath ps).length ≤ ps.length := by
  have : ∀ (r l : List Spt), (r.foldl dstep l).length ≤ l.length + r.length := by
    intro r
    induction r with
    | nil => intro l; simp
    | cons x r ih =>
      intro l
      have := ih (dstep l x)
      have := length_dstep l x
      simp only [List.foldl_cons, List.length_cons]
      walk_at "o"
  have := this ps []
  simpa [dgath] using this
theorem len_gath (ps : List Spt) : (gath ps).length ≤ ps.length := by
  have : ∀ (r l : List Spt), (r.foldl gstep l).length ≤ l.length + r.length := by
    intro r
    induction r with
    | nil => intro l; simp
    | cons x r ih =>
      intro l
      have := ih (gstep l x)
      have := length_gstep l x
      simp only [List.foldl_cons, List.length_cons]
      walk_at "o"
  have := this ps []
  simpa [gath] using this
theorem sorted_gath {ps : List Spt} {tops : List Int} {q : Array Nat} {D : Int} (hf : Fqs ps) (hD : 0 < D) (hl : tops.length = (dgath ps).length) (ht : ∀ (i : Nat) (n : Int) (c : Spt), tops[i]? = some n → (dgath ps)[i]? = some c → (n : Rat) = wv c.1 * (D : Rat))
    (hq : Prm tops.length q) (hu : UpTo (fun i => tops.getD i 0) tops.length q) : (q.toList.map fun i => (dgath ps).getD i ((0, 1), (0, 1))) = gath ps := by
  obtain ⟨a, b, p⟩ := gath_ok hf
  have pm : (q.toList.map fun i => (dgath ps).getD i ((0, 1), (0, 1))).Perm (dgath ps) := by
    refine (hq.perm.map _).trans ?_
    rw [hl]
    have : (List.range (dgath ps).length).map (fun i => (dgath ps).getD i ((0, 1), (0, 1))) = dgath ps := by
      apply List.ext_getElem?
      intro j
      rw [List.getElem?_map]
      by_cases hj : j < (dgath ps).length
      · rw [List.getElem?_range hj, Option.map_some, List.getD_eq_getElem?_getD, List.getElem?_eq_getElem hj]
        rfl
      · rw [List.getElem?_eq_none (by rw [List.length_range]; walk_at "o"), List.getElem?_eq_none (by walk_at "o")]
        rfl
    rw [this]
  refine ris_uniq ?_ a (pm.trans p.symm)
  unfold Ris
  rw [List.pairwise_iff_getElem]
  intro i j hi hj hij
  rw [List.length_map, Array.length_toList, hq.size] at hi hj
  rw [List.getElem_map, List.getElem_map]
  have e1 : q.toList[i]'(by rw [Array.length_toList, hq.size]; exact hi) = q.getD i 0 := (getD_at (by rw [hq.size]; exact hi)).symm
  have e2 : q.toList[j]'(by rw [Array.length_toList, hq.size]; exact hj) = q.getD j 0 := (getD_at (by rw [hq.size]; exact hj)).symm
  rw [e1, e2]
  have l1 := hq.lt hi
  have l2 := hq.lt hj
  have lt := hu i j hij hj
  unfold kvA at lt
  have g1 : tops.getD (q.getD i 0) 0 = tops[q.getD i 0] := by rw [List.getD_eq_getElem?_getD, List.getElem?_eq_getElem l1]; rfl
  have g2 : tops.getD (q.getD j 0) 0 = tops[q.getD j 0] := by rw [List.getD_eq_getElem?_getD, List.getElem?_eq_getElem l2]; rfl
  replace lt : tops.getD (q.getD i 0) 0 < tops.getD (q.getD j 0) 0 := lt
  rw [g1, g2] at lt
  have d1 : (dgath ps).getD (q.getD i 0) ((0, 1), (0, 1)) = (dgath ps)[q.getD i 0]'(by walk_at "o") := by
    rw [List.getD_eq_getElem?_getD, List.getElem?_eq_getElem (by walk_at "o")]; rfl
  have d2 : (dgath ps).getD (q.getD j 0) ((0, 1), (0, 1)) = (dgath ps)[q.getD j 0]'(by walk_at "o") := by
    rw [List.getD_eq_getElem?_getD, List.getElem?_eq_getElem (by walk_at "o")]; rfl
  rw [d1, d2]
  have t1 := ht _ _ _ (List.getElem?_eq_getElem l1) (List.getElem?_eq_getElem (by walk_at "o"))
  have t2 := ht _ _ _ (List.getElem?_eq_getElem l2) (List.getElem?_eq_getElem (by walk_at "o"))
  have f1 := b _ (p.mem_iff.mpr (List.getElem_mem (show q.getD i 0 < (dgath ps).length by walk_at "o")))
  have f2 := b _ (p.mem_iff.mpr (List.getElem_mem (show q.getD j 0 < (dgath ps).length by walk_at "o")))
  generalize (dgath ps)[q.getD i 0]'(by walk_at "o") = c at *
  generalize (dgath ps)[q.getD j 0]'(by walk_at "o") = d at *
  generalize tops[q.getD i 0] = m at *
  generalize tops[q.getD j 0] = n at *
  rw [ltq_iff]
  unfold wv at t1 t2
  have n1 := cast_ne f1.1.ne
  have n2 := cast_ne f2.1.ne
  have k1 : m * c.1.2 = c.1.1 * D := by
    have : (m : Rat) * (c.1.2 : Rat) = (c.1.1 : Rat) * (D : Rat) := by rw [t1]; grind
    rw [← Rat.intCast_mul, ← Rat.intCast_mul] at this
    exact Rat.intCast_inj.mp this
  have k2 : n * d.1.2 = d.1.1 * D := by
    have : (n : Rat) * (d.1.2 : Rat) = (d.1.1 : Rat) * (D : Rat) := by rw [t2]; grind
    rw [← Rat.intCast_mul, ← Rat.intCast_mul] at this
    exact Rat.intCast_inj.mp this
  have h1 : m * (c.1.2 * d.1.2) < n * (c.1.2 * d.1.2) := Int.mul_lt_mul_of_pos_right lt (Int.mul_pos f1.1.1 f2.1.1)
  refine Int.lt_of_mul_lt_mul_right (a := D) ?_ (Int.le_of_lt hD)
  calc c.1.1 * d.1.2 * D = m * (c.1.2 * d.1.2) := by rw [← Int.mul_assoc, k1]; rw [Int.mul_assoc, Int.mul_assoc, Int.mul_comm D]
    _ < n * (c.1.2 * d.1.2) := h1
    _ = d.1.1 * c.1.2 * D := by rw [Int.mul_comm c.1.2, ← Int.mul_assoc, k2, Int.mul_assoc, Int.mul_assoc, Int.mul_comm D]
end L2

set_option Elab.async false
set_option linter.all false
set_option maxRecDepth 100000
namespace L2
open PySem PySem.Spec PyProof.Rows
theorem spt_flat1 (c : Spt) : (spt c).flat = true := by simp [spt, fr, D.flat, D.flats]
theorem comp_spt {K : PySem.W.Frag} {a c : Addr} {cs : List Spt} {op : Spt → Spt} {te : TE} {σr : St} {x0 x1 : Option V} {H H1 : Hp} {Q : Hp → Prop}
    (hte : ∀ (x y : V) (d : Spt) (H' : Hp) (Q' : VK), d ∈ cs → Same (vw K H) (vw K H') → Rep (vw K H') (fr d.1) x → Rep (vw K H') (fr d.2) y → (∀ p H'', Same (vw K H') (vw K H'') → Rep (vw K H'') (spt (op d)) (.ref p) → Q' (.ref p) H'') → te (some x :: some y :: σr) H' Q')
    (ha : FlAt (vw K H) a (cs.map spt)) (lc : cs.length ≤ 40) (hc : vw K H c = none) (S1 : Same (vw K H) (vw K H1)) (h1 : vw K H1 c = some (.lst []))
    (h : ∀ H', Same (vw K H) (vw K H') → FlAt (vw K H') c ((cs.map op).map spt) → Q H') : CompOK K (Itl K a) (gTupH K 2 (gCons (gName 0) (gCons (gName 1) gNil))) tYes te c (x0 :: x1 :: σr) H1 Q := by
  obtain ⟨xs, hxs, rxs⟩ := id ha
  have lx : xs.length = cs.length := by rw [rxs.length, List.length_map]
  have ex : ∀ (j : Nat) (d : Spt), cs[j]? = some d → ∃ p u v, xs[j]? = some (.ref p) ∧ vw K H p = some (.tup [u, v]) ∧ Rep (vw K H) (fr d.1) u ∧ Rep (vw K H) (fr d.2) v := fun j d e => by
    obtain ⟨x, e3, r⟩ := rxs.at (i := j) (d := spt d) (by rw [List.getElem?_map, e]; rfl)
    obtain ⟨p, u, v, rfl, h1, h2, h3⟩ := r.spt_at
    exact ⟨p, u, v, e3, h1, h2, h3⟩
  obtain ⟨qs, lq, hq⟩ : ∃ qs : List (V × V), qs.length = cs.length ∧ ∀ (j : Nat) (d : Spt), cs[j]? = some d → ∃ p u v, qs[j]? = some (u, v) ∧ xs[j]? = some (.ref p) ∧ vw K H p = some (.tup [u, v]) ∧ Rep (vw K H) (fr d.1) u ∧ Rep (vw K H) (fr d.2) v := by
    clear h hte ha lc lx rxs hxs
    induction cs generalizing xs with
    | nil => exact ⟨[], rfl, fun j d e => by simp at e⟩
    | cons d r ih =>
      obtain ⟨p, u, v, e1, e2, e3, e4⟩ := ex 0 d rfl
      obtain ⟨qs, l, hq⟩ := ih xs.tail (fun j d e => by
        obtain ⟨p, u, v, e1, e2⟩ := ex (j + 1) d e
        exact ⟨p, u, v, by rw [List.getElem?_tail]; exact e1, e2⟩)
      refine ⟨(u, v) :: qs, by simp [l], fun j d' e => ?_⟩
      cases j with
      | zero => cases e; exact ⟨p, u, v, rfl, e1, e2, e3, e4⟩
      | succ j =>
        obtain ⟨p, u, v, f1, f2, f3⟩ := hq j d' e
        exact ⟨p, u, v, f1, by rw [List.getElem?_tail] at f2; exact f2, f3⟩
  refine comp_pairs (its := xs) (ps := qs) (fun i ys H' => Same (vw K H) (vw K H') ∧ ys.length = i ∧ Reps (vw K H') (((cs.take i).map op).map spt) ys) (by walk_at "o") (fun i ys H' _ _ p => ⟨items_list (p.1 _ _ hxs), fun j u v e => ?_⟩) h1 ⟨S1, rfl, .mk_nil⟩ (fun i u v ys H2 hi huv h2 p => ?_) (fun ys H2 h2 p => ?_)
  · have hj : j < cs.length := by rw [← lq]; exact (List.getElem?_eq_some_iff.mp e).1
    obtain ⟨p', u', v', e1, e2, e3, _⟩ := hq j cs[j] (List.getElem?_eq_getElem hj)
    rw [e] at e1
    cases e1
    exact ⟨p', e2, p.1 _ _ e3⟩
  · obtain ⟨S2, ly, ry⟩ := p
    have hi' : i < cs.length := by walk_at "o"
    obtain ⟨p', u', v', e1, e2, e3, e4, e5⟩ := hq i cs[i] (List.getElem?_eq_getElem hi')
    rw [huv] at e1
    cases e1
    refine hte u v cs[i] H2 _ (List.getElem_mem hi') S2 (Rep.same S2 _ _ e4) (Rep.same S2 _ _ e5) fun p H3 S3 r3 => .mk2 (S3 _ _ h2) ?_ fun H4 B4 h4 => ⟨fun b o e => B4 _ _ (ne_of_none e hc) (S3 _ _ (S2 _ _ e)), by rw [List.length_append, ly]; rfl, ?_⟩
    · rw [ly]
      exact Nat.lt_of_lt_of_le (show i < 41 by walk_at "o") (by decide)
    · rw [List.take_add_one, List.getElem?_eq_getElem hi', List.map_append, List.map_append]
      exact (Reps.flat_but (S3 _ _ h2) B4 _ _ (spt_flats _) (ry.same S3)).snoc (Rep.flat_but (S3 _ _ h2) B4 _ _ (spt_flat1 _) r3)
  · obtain ⟨S2, ly, ry⟩ := p
    rw [lq, List.take_length] at ry
    exact h H2 S2 ⟨ys, h2, ry⟩
def eachS (op : Spt → Spt → Spt) (as bs : List Spt) : List Spt := as.flatMap fun c => bs.map (op c)
theorem each_take {op : Spt → Spt → Spt} {as bs : List Spt} {i : Nat} {c : Spt} (h : as[i]? = some c) : eachS op (as.take (i + 1)) bs = eachS op (as.take i) bs ++ bs.map (op c) := by
  unfold eachS
  rw [List.take_add_one, h, List.flatMap_append]
  simp
theorem each_len {op : Spt → Spt → Spt} {as bs : List Spt} : (eachS op as bs).length = as.length * bs.length := by
  unfold eachS
  induction as with
  | nil => simp
  | cons x r ih => rw [List.flatMap_cons, List.length_append, ih, List.length_map, List.length_cons, Nat.add_mul]; walk_at "o"
theorem each_mem {op : Spt → Spt → Spt} {as bs : List Spt} {z : Spt} (h : z ∈ eachS op as bs) : ∃ c ∈ as, ∃ d ∈ bs, z = op c d := by
  unfold eachS at h
  obtain ⟨c, hc, hz⟩ := List.mem_flatMap.mp h
  obtain ⟨d, hd, e⟩ := List.mem_map.mp hz
  exact ⟨c, hc, d, hd, e.symm⟩
theorem comp2_spt {K : PySem.W.Frag} {a b : Addr} {as bs : List Spt} {op : Spt → Spt → Spt} {te : TE} {H : Hp} {Q : VK}
    (hte : ∀ (x y u v : V) (c d : Spt) (H' : Hp) (Q' : VK), c ∈ as → d ∈ bs → Rep (vw K H') (fr c.1) x → Rep (vw K H') (fr c.2) y → Rep (vw K H') (fr d.1) u → Rep (vw K H') (fr d.2) v → (∀ p H'', Same (vw K H') (vw K H'') → Rep (vw K H'') (spt (op c d)) (.ref p) → Q' (.ref p) H'') → te [some x, some y, some u, some v, some (.ref b)] H' Q')
    (ha : FlAt (vw K H) a (as.map spt)) (hb : FlAt (vw K H) b (bs.map spt)) (la : as.length ≤ 6) (lb : bs.length ≤ 6)
    (h : ∀ (p : Addr) H', Same (vw K H) (vw K H') → vw K H p = none → FlAt (vw K H') p ((eachS op as bs).map spt) → Q (.ref p) H') :
    tComp2 K (mList K (mVar 0)) 4 [1] (gTupH K 2 (gCons (gName 0) (gCons (gName 1) gNil))) tYes (mList K (mVar 4)) (gTupH K 2 (gCons (gName 2) (gCons (gName 3) gNil))) tYes te [some (.ref a), some (.ref b)] H Q := by
  obtain ⟨xs, hxs, rxs⟩ := id ha
  obtain ⟨ys, hys, rys⟩ := id hb
  have lx : xs.length = as.length := by rw [rxs.length, List.length_map]
  have ly : ys.length = bs.length := by rw [rys.length, List.length_map]
  show (∃ zs, SqL K H a zs) ∧ _
  refine ⟨⟨_, .of (vw_lst hxs)⟩, fun c H1 hc S1 h1 => ?_⟩
  refine comp2_by (its := xs) (fun i σ H' => ∃ o0 o1 o2 o3 zs, σ = [o0, o1, o2, o3, some (.ref b)] ∧ Same (vw K H) (vw K H') ∧ vw K H' c = some (.lst zs) ∧ zs.length = i * bs.length ∧ Reps (vw K H') ((eachS op (as.take i) bs).map spt) zs) (fun i σ H' _ p => ?_) ⟨none, none, none, none, [], rfl, S1, h1, by simp, .mk_nil⟩ (fun i x σ H2 hi hx p => ?_) (fun σ H2 p => ?_)
  · obtain ⟨_, _, _, _, _, _, S2, _⟩ := p
    exact items_list (S2 _ _ hxs)
  · obtain ⟨o0, o1, o2, o3, zs, rfl, S2, h2, lz, rz⟩ := p
    have hi' : i < as.length := by walk_at "o"
    obtain ⟨d', hd', r'⟩ := rxs.get hx
    rw [List.getElem?_map, List.getElem?_eq_getElem hi'] at hd'
    cases hd'
    obtain ⟨p, u, v, rfl, hp, ru, rv⟩ := r'.spt_at
    refine ⟨p, rfl, [u, v], S2 _ _ hp, rfl, ⟨u, [v], rfl, ⟨v, [], rfl, rfl, ?_⟩⟩⟩
    simp only [tYes, if_true]
    show (∃ zs, SqL K H2 b zs) ∧ _
    refine ⟨⟨_, .of (vw_lst (S2 _ _ hys))⟩, ?_⟩
    refine compIn_by (its := ys) (fun j σ H' => ∃ o2 o3 zs, σ = [some u, some v, o2, o3, some (.ref b)] ∧ Same (vw K H) (vw K H') ∧ vw K H' c = some (.lst zs) ∧ zs.length = i * bs.length + j ∧ Reps (vw K H') ((eachS op (as.take i) bs ++ (bs.take j).map (op as[i])).map spt) zs) (fun j σ H' _ p => ?_) ⟨o2, o3, zs, rfl, S2, h2, lz, by simpa using rz⟩ (fun j y σ H3 hj hy p => ?_) (fun σ H3 p => ?_)
    · obtain ⟨_, _, _, _, S3, _⟩ := p
      exact items_list (S3 _ _ hys)
    · obtain ⟨o2, o3, zs, rfl, S3, h3, lz3, rz3⟩ := p
      have hj' : j < bs.length := by walk_at "o"
      obtain ⟨d', hd', r'⟩ := rys.get hy
      rw [List.getElem?_map, List.getElem?_eq_getElem hj'] at hd'
      cases hd'
      obtain ⟨p', u', v', rfl, hp', ru', rv'⟩ := r'.spt_at
      refine ⟨p', rfl, [u', v'], S3 _ _ hp', rfl, ⟨u', [v'], rfl, ⟨v', [], rfl, rfl, ?_⟩⟩⟩
      simp only [tYes, if_true]
      refine hte u v u' v' as[i] bs[j] H3 _ (List.getElem_mem hi') (List.getElem_mem hj') (Rep.same S3 _ _ ru) (Rep.same S3 _ _ rv) (Rep.same S3 _ _ ru') (Rep.same S3 _ _ rv') fun q H4 S4 r4 => ⟨zs, S4 _ _ h3, ?_, fun H5 B5 h5 => ⟨some u', some v', zs ++ [.ref q], rfl, fun b o e => B5 _ _ (ne_of_none e hc) (S4 _ _ (S3 _ _ e)), h5, by rw [List.length_append, lz3]; rfl, ?_⟩⟩
      · have := Nat.mul_le_mul (Nat.le_of_lt hi') (Nat.le_refl bs.length)
        have := Nat.mul_le_mul la lb
        rw [lz3]
        exact Nat.lt_of_lt_of_le (show i * bs.length + j < 50 by walk_at "o") (by decide)
      · rw [List.take_add_one, List.getElem?_eq_getElem hj', List.map_append (f := op as[i]), ← List.append_assoc, List.map_append (f := spt)]
        exact (Reps.flat_but (S4 _ _ h3) B5 _ _ (spt_flats _) (rz3.same S4)).snoc (Rep.flat_but (S4 _ _ h3) B5 _ _ (spt_flat1 _) r4)
    · obtain ⟨o2, o3, zs, rfl, S3, h3, lz3, rz3⟩ := p
      refine ⟨_, _, o2, o3, zs, rfl, S3, h3, by rw [lz3, ly, Nat.add_mul]; walk_at "o", ?_⟩
      rw [each_take (List.getElem?_eq_getElem hi')]
      rw [ly, List.take_length] at rz3
      exact rz3
  · obtain ⟨o0, o1, o2, o3, zs, rfl, S2, h2, lz, rz⟩ := p
    rw [lx, List.take_length] at rz
    exact h c H2 S2 hc ⟨zs, h2, rz⟩
theorem spt_rows {G : Hp} {a : Addr} : ∀ {cs : List Spt}, FlAt G a (cs.map spt) → ∃ (xs : List V) (qs : List (V × V)), G a = some (.lst xs) ∧ xs.length = cs.length ∧ qs.length = cs.length ∧ ∀ (j : Nat) (d : Spt), cs[j]? = some d → ∃ p u v, qs[j]? = some (u, v) ∧ xs[j]? = some (.ref p) ∧ G p = some (.tup [u, v]) ∧ Rep G (fr d.1) u ∧ Rep G (fr d.2) v := by
  intro cs ha
  obtain ⟨xs, hxs, rxs⟩ := ha
  refine ⟨xs, ?_⟩
  have lx : xs.length = cs.length := by rw [rxs.length, List.length_map]
  suffices h : ∃ qs : List (V × V), qs.length = cs.length ∧ ∀ (j : Nat) (d : Spt), cs[j]? = some d → ∃ p u v, qs[j]? = some (u, v) ∧ xs[j]? = some (.ref p) ∧ G p = some (.tup [u, v]) ∧ Rep G (fr d.1) u ∧ Rep G (fr d.2) v by
    obtain ⟨qs, h1, h2⟩ := h
    exact ⟨qs, hxs, lx, h1, h2⟩
  clear hxs lx
  induction cs generalizing xs with
  | nil => exact ⟨[], rfl, fun j d e => by simp at e⟩
  | cons d r ih =>
    obtain ⟨x, r', rfl, ru, rr⟩ := rxs.cons_at
    obtain ⟨p, u, v, rfl, h1, h2, h3⟩ := ru.spt_at
    obtain ⟨qs, l, hq⟩ := ih r' rr
    refine ⟨(u, v) :: qs, by simp [l], fun j d' e => ?_⟩
    cases j with
    | zero => cases e; exact ⟨p, u, v, rfl, rfl, h1, h2, h3⟩
    | succ j => exact hq j d' e
theorem comp_cnt {K : PySem.W.Frag} {a c : Addr} {fs : List Spt} {q : Int × Int} {tif : TT} {w : V} {x0 x1 : Option V} {H H1 : Hp} {Q : Hp → Prop}
    (htif : ∀ (x y : V) (e : Spt) (H' : Hp) (Q' : Bool → Hp → Prop), e ∈ fs → Same (vw K H) (vw K H') → Rep (vw K H') (fr e.1) x → Q' (ltq e.1 q) H' → tif [some x, some y, some w] H' Q')
    (ha : FlAt (vw K H) a (fs.map spt)) (lc : fs.length ≤ 40) (hc : vw K H c = none) (S1 : Same (vw K H) (vw K H1)) (h1 : vw K H1 c = some (.lst []))
    (h : ∀ H' zs, Same (vw K H) (vw K H') → vw K H' c = some (.lst zs) → zs.length = atS fs q → Q H') : CompOK K (Itl K a) (gTupH K 2 (gCons (gName 0) (gCons (gName 1) gNil))) tif (mVar 0) c [x0, x1, some w] H1 Q := by
  obtain ⟨xs, qs, hxs, lx, lq, hq⟩ := spt_rows ha
  refine comp_pairs (its := xs) (ps := qs) (fun i ys H' => Same (vw K H) (vw K H') ∧ ys.length = atS (fs.take i) q) (by walk_at "o") (fun i ys H' _ _ p => ⟨items_list (p.1 _ _ hxs), fun j u v e => ?_⟩) h1 ⟨S1, rfl⟩ (fun i u v ys H2 hi huv h2 p => ?_) (fun ys H2 h2 p => ?_)
  · have hj : j < fs.length := by rw [← lq]; exact (List.getElem?_eq_some_iff.mp e).1
    obtain ⟨p', u', v', e1, e2, e3, _⟩ := hq j fs[j] (List.getElem?_eq_getElem hj)
    rw [e] at e1
    cases e1
    exact ⟨p', e2, p.1 _ _ e3⟩
  · obtain ⟨S2, ly⟩ := p
    have hi' : i < fs.length := by walk_at "o"
    obtain ⟨p', u', v', e1, e2, e3, e4, e5⟩ := hq i fs[i] (List.getElem?_eq_getElem hi')
    rw [huv] at e1
    cases e1
    have ea : atS (fs.take (i + 1)) q = atS (fs.take i) q + if ltq fs[i].1 q = true then 1 else 0 := by
      unfold atS
      rw [List.take_add_one, List.getElem?_eq_getElem hi', List.filter_append, List.length_append]
      simp only [Option.toList_some, List.filter_cons, List.filter_nil]
      split <;> rfl
    have lt := at_le (fs.take i) q
    rw [List.length_take] at lt
    refine htif u v fs[i] H2 _ (List.getElem_mem hi') S2 (Rep.same S2 _ _ e4) ?_
    cases el : ltq fs[i].1 q with
    | true =>
      rw [if_pos rfl]
      refine .mk2 h2 ?_ fun H4 B4 h4 => ⟨fun b o e => B4 _ _ (ne_of_none e hc) (S2 _ _ e), by rw [List.length_append, ly, ea, el]; rfl⟩
      rw [ly]
      exact Nat.lt_of_lt_of_le (show atS (fs.take i) q < 41 by walk_at "o") (by decide)
    | false =>
      rw [if_neg Bool.false_ne_true]
      exact ⟨⟨_, _, rfl⟩, ys, h2, S2, by rw [ly, ea, el]; rfl⟩
  · obtain ⟨S2, ly⟩ := p
    rw [lq, List.take_length] at ly
    exact h H2 ys S2 h2 ly
theorem map_set {fs : List Spt} {p c : Spt} {k : Nat} (hr : Ris fs) (hk : fs[k]? = some c) (e : c.1 = p.1) : fs.map (updS p) = fs.set k (p.1, addq c.2 p.2) := by
  apply List.ext_getElem?
  intro j
  rw [List.getElem?_map, List.getElem?_set]
  obtain ⟨hk1, hk2⟩ := List.getElem?_eq_some_iff.mp hk
  by_cases z : k = j
  · subst z
    rw [if_pos rfl, if_pos hk1, hk]
    simp only [Option.map_some, updS, if_pos e]
  · rw [if_neg z]
    cases ej : fs[j]? with
    | none => rfl
    | some d =>
      have ne : d.1 ≠ p.1 := fun q => by
        have hp := List.pairwise_iff_getElem.mp hr
        obtain ⟨hj1, hj2⟩ := List.getElem?_eq_some_iff.mp ej
        rcases Nat.lt_or_gt_of_ne z with l | l
        · have := hp k j hk1 hj1 l
          rw [hk2, hj2, e, q, ltq_irr] at this
          cases this
        · have := hp j k hj1 hk1 l
          rw [hk2, hj2, e, q, ltq_irr] at this
          cases this
      simp only [Option.map_some, updS, if_neg ne]
theorem sm_spts {n : Nat} {cs : List Spt} (h : cs.length ≤ 1000) : (D.lst (cs.map spt)).sm (n + 4) = true := by
  show (decide ((cs.map spt).length ≤ 1000) && (cs.map spt).all (D.sm (n + 3))) = true
  rw [List.length_map, decide_eq_true h, Bool.true_and]
  refine List.all_eq_true.mpr fun d hd => ?_
  obtain ⟨c, _, rfl⟩ := List.mem_map.mp hd
  rfl
theorem cmp_spts2 (fs gs : List Spt) : (D.lst [.lst (fs.map spt), .lst (gs.map spt)]).cmp := by
  obtain ⟨h1, h2⟩ := spts_py fs
  obtain ⟨h3, h4⟩ := spts_py gs
  unfold D.cmp
  simp only [D.py, D.pys, PyData.canLay0, PyData.canLayAll0, PyData.depth, PyData.depthAll, h1, h3]
  exact ⟨by decide, by walk_at "o"⟩
theorem CasS.nextE {P : Addr} {G0 L0 L1 L3 L4 : Hp} {qual : Str} {cl : List (Str × Addr)} {cs : Addr} {xs : List Cas} {p c' d t : Addr} {params : Arguments} {body : Expr} {scope : Scope} {ds : List D} {Kd : LamK → Prop} {R : List D → LamK → Prop} (W : CasS P G0 qual cl cs L0 xs) (B1 : But P L0 L1) (T1 : TabOk L1 P qual) (hp : L0 p = none) (hl : L1 p = some (LamO p c' qual params body scope cl)) (hc : L1 c' = some (CodeO c' qual)) (hne : d ≠ cs) (hd : ∃ zs, L1 d = some (.lst zs) ∧ Reps L1 ds zs) (fl : D.flats ds = true) (U2 : Same L1 L3) (h3 : L3 t = some (.tup [.ref p, .ref d]))
    (B : But cs L3 L4) (h4 : L4 cs = some (.lst ((xs.map fun x => V.ref x.t) ++ [.ref t]))) (hk : ∃ d : LamK, d.params = params ∧ d.body = body ∧ d.scope = scope ∧ Kd d ∧ R ds d) : ∃ x, (∃ d : LamK, d.params = x.ps ∧ d.body = x.b ∧ d.scope = x.sc ∧ Kd d ∧ R x.ds d) ∧ CasS P G0 qual cl cs L4 (xs ++ [x]) := by
  obtain ⟨f1, f2⟩ := W.fresh hp
  have W3 := (W.lam B1 T1).same U2
  obtain ⟨zs, z1, z2⟩ := hd
  exact ⟨⟨t, p, c', d, params, body, scope, ds⟩, hk, W3.app (x := ⟨t, p, c', d, params, body, scope, ds⟩) ⟨h3, U2 _ _ hl, U2 _ _ hc, ⟨zs, U2 _ _ z1, Reps.same U2 _ _ z2⟩, fl, hne, f2⟩ f1 B h4⟩
theorem ltq_wv {p q : Int × Int} (hp : 0 < p.2) (hq : 0 < q.2) (h : ltq p q = true) : wv p < wv q := by
  rw [ltq_iff] at h
  have h' : (p.1 : Rat) * (q.2 : Rat) < (q.1 : Rat) * (p.2 : Rat) := by
    rw [← Rat.intCast_mul, ← Rat.intCast_mul]
    exact Rat.intCast_lt_intCast.mpr h
  have b : (0 : Rat) < (p.2 : Rat) := Rat.intCast_pos.mpr hp
  have d : (0 : Rat) < (q.2 : Rat) := Rat.intCast_pos.mpr hq
  have bd : (0 : Rat) < ((p.2 : Rat) * (q.2 : Rat))⁻¹ := Rat.inv_pos.mpr (Rat.mul_pos b d)
  have m := Rat.mul_lt_mul_of_pos_right h' bd
  have nb : (p.2 : Rat) ≠ 0 := fun e => by rw [e] at b; exact absurd b (by decide)
  have nd : (q.2 : Rat) ≠ 0 := fun e => by rw [e] at d; exact absurd d (by decide)
  have e1 : (p.1 : Rat) * (q.2 : Rat) * ((p.2 : Rat) * (q.2 : Rat))⁻¹ = wv p := by unfold wv; grind
  have e2 : (q.1 : Rat) * (p.2 : Rat) * ((p.2 : Rat) * (q.2 : Rat))⁻¹ = wv q := by unfold wv; grind
  rw [e1, e2] at m
  exact m
theorem wv_ltq {p q : Int × Int} (hp : Fq p) (hq : Fq q) (h : wv p < wv q) : ltq p q = true := by
  cases e : ltq p q with
  | true => rfl
  | false =>
    cases e2 : ltq q p with
    | true =>
      have h2 := ltq_wv hq.1 hp.1 e2
      grind
    | false =>
      rw [ltq_total hp hq e e2] at h
      exact absurd h (by rw [Rat.not_lt]; exact Rat.le_refl)
theorem ris_moved {cs : List Spt} {q : Int × Int} (hf : Fqs cs) (fq : Fq q) (h : Ris cs) : Ris (cs.map fun c : Spt => ((addq c.1 q, c.2) : Spt)) := by
  unfold Ris
  rw [List.pairwise_map]
  refine List.Pairwise.imp_of_mem (fun {c d} hc hd z => ?_) h
  refine wv_ltq (addq_Fq (hf c hc).1 fq) (addq_Fq (hf d hd).1 fq) ?_
  show wv (addq c.1 q) < wv (addq d.1 q)
  rw [wv_add (hf c hc).1.ne fq.ne, wv_add (hf d hd).1.ne fq.ne]
  exact Rat.add_lt_add_right.mpr (ltq_wv (hf c hc).1.1 (hf d hd).1.1 z)
theorem ris_of {cs : List Spt} (hf : Fqs cs) (h : ∀ i c d, cs[i]? = some c → cs[i + 1]? = some d → ltq c.1 d.1 = true) : Ris cs := by
  induction cs with
  | nil => exact List.Pairwise.nil
  | cons x r ih =>
    have ih' := ih (fun c hc => hf c (List.mem_cons_of_mem _ hc)) fun i c d e1 e2 => h (i + 1) c d e1 e2
    refine List.Pairwise.cons (fun d hd => ?_) ih'
    cases r with
    | nil => cases hd
    | cons y r =>
      have xy := h 0 x y rfl rfl
      rcases List.mem_cons.mp hd with rfl | z
      · exact xy
      · exact ltq_trans (hf x List.mem_cons_self).1.1 (hf y (by simp)).1.1 (hf d (by simp [z])).1.1 xy ((List.pairwise_cons.mp ih').1 d z)
theorem cut_one {xs : List V} : cutV xs (some 1) none = xs.drop 1 := by
  cases xs with
  | nil =>
    have := cutV_length [] (some 1) none
    exact List.eq_nil_of_length_eq_zero (by simpa using this)
  | cons x r => exact cut_from (k := 1) (by simp)
theorem FlAt.smT {G G' : Hp} {a : Addr} {ds : List D} (h : FlAt G a ds) (S : SmT G G') : FlAt G' a ds := by
  obtain ⟨xs, h1, h2⟩ := h
  exact ⟨xs, S _ _ h1 (fun _ z => by cases z), Reps.smT S _ _ h2⟩
end L2

set_option Elab.async false
set_option linter.all false
set_option maxRecDepth 100000
set_option maxHeartbeats 8000000
namespace M
open PySem L2
def top (i : Nat) : Stmt := PySem.Challenge.pw_momentwright_k79_crowds_put_together.main.body.getD i (.Pass ⟨0, 0, 0, 0⟩)
abbrev s_greatest_divisor : Stmt := top 4
theorem sc_greatest_divisor : FnScope ["one", "other"] ["one", "other"] (defScope s_greatest_divisor) := ⟨rfl, rfl, rfl, by decide +kernel, rfl, by decide +kernel, by decide +kernel⟩
abbrev s_ratio : Stmt := top 6
theorem sc_ratio : FnScope ["top", "bottom", "divisor"] ["top", "bottom"] (defScope s_ratio) := ⟨rfl, rfl, rfl, by decide +kernel, rfl, by decide +kernel, by decide +kernel⟩
abbrev s_plus : Stmt := top 7
theorem sc_plus : FnScope ["one", "other"] ["one", "other"] (defScope s_plus) := ⟨rfl, rfl, rfl, by decide +kernel, rfl, by decide +kernel, by decide +kernel⟩
abbrev s_times : Stmt := top 8
theorem sc_times : FnScope ["one", "other"] ["one", "other"] (defScope s_times) := ⟨rfl, rfl, rfl, by decide +kernel, rfl, by decide +kernel, by decide +kernel⟩
abbrev s_cleared : Stmt := top 10
theorem sc_cleared : FnScope ["f", "bottom", "number"] ["f"] (defScope s_cleared) := ⟨rfl, rfl, rfl, by decide +kernel, rfl, by decide +kernel, by decide +kernel⟩
abbrev s_together : Stmt := top 12
theorem sc_together : FnScope ["pairs", "weights", "spot", "weight", "spots"] ["pairs"] (defScope s_together) := ⟨rfl, rfl, rfl, by decide +kernel, rfl, by decide +kernel, by decide +kernel⟩
abbrev s_crowd_moved : Stmt := top 13
theorem sc_crowd_moved : FnScope ["crowd", "by"] ["crowd", "by"] (defScope s_crowd_moved) := ⟨rfl, rfl, rfl, by decide +kernel, rfl, by decide +kernel, by decide +kernel⟩
abbrev s_crowd_grown : Stmt := top 14
theorem sc_crowd_grown : FnScope ["crowd", "by"] ["crowd", "by"] (defScope s_crowd_grown) := ⟨rfl, rfl, rfl, by decide +kernel, rfl, by decide +kernel, by decide +kernel⟩
abbrev s_crowd_weighted : Stmt := top 15
theorem sc_crowd_weighted : FnScope ["crowd", "by"] ["crowd", "by"] (defScope s_crowd_weighted) := ⟨rfl, rfl, rfl, by decide +kernel, rfl, by decide +kernel, by decide +kernel⟩
abbrev s_crowd_poured : Stmt := top 16
theorem sc_crowd_poured : FnScope ["one", "other"] ["one", "other"] (defScope s_crowd_poured) := ⟨rfl, rfl, rfl, by decide +kernel, rfl, by decide +kernel, by decide +kernel⟩
abbrev s_crowd_added : Stmt := top 17
theorem sc_crowd_added : FnScope ["one", "other"] ["one", "other"] (defScope s_crowd_added) := ⟨rfl, rfl, rfl, by decide +kernel, rfl, by decide +kernel, by decide +kernel⟩
abbrev s_crowd_multiplied : Stmt := top 18
theorem sc_crowd_multiplied : FnScope ["one", "other"] ["one", "other"] (defScope s_crowd_multiplied) := ⟨rfl, rfl, rfl, by decide +kernel, rfl, by decide +kernel, by decide +kernel⟩
abbrev s__law_less : Stmt := top 20
theorem sc__law_less : FnScope ["_law_one", "_law_other"] ["_law_one", "_law_other"] (defScope s__law_less) := ⟨rfl, rfl, rfl, by decide +kernel, rfl, by decide +kernel, by decide +kernel⟩
abbrev s__law_divisor : Stmt := top 21
theorem sc__law_divisor : FnScope ["_law_one", "_law_other"] ["_law_one", "_law_other"] (defScope s__law_divisor) := ⟨rfl, rfl, rfl, by decide +kernel, rfl, by decide +kernel, by decide +kernel⟩
abbrev s__law_low : Stmt := top 22
theorem sc__law_low : FnScope ["_law_top", "_law_bottom", "_law_by"] ["_law_top", "_law_bottom"] (defScope s__law_low) := ⟨rfl, rfl, rfl, by decide +kernel, rfl, by decide +kernel, by decide +kernel⟩
abbrev s__law_plus : Stmt := top 23
theorem sc__law_plus : FnScope ["_law_one", "_law_other"] ["_law_one", "_law_other"] (defScope s__law_plus) := ⟨rfl, rfl, rfl, by decide +kernel, rfl, by decide +kernel, by decide +kernel⟩
abbrev s__law_times : Stmt := top 24
theorem sc__law_times : FnScope ["_law_one", "_law_other"] ["_law_one", "_law_other"] (defScope s__law_times) := ⟨rfl, rfl, rfl, by decide +kernel, rfl, by decide +kernel, by decide +kernel⟩
abbrev s__law_same : Stmt := top 25
theorem sc__law_same : FnScope ["_law_found", "_law_due"] ["_law_found", "_law_due"] (defScope s__law_same) := ⟨rfl, rfl, rfl, by decide +kernel, rfl, by decide +kernel, by decide +kernel⟩
abbrev s__law_cell_at : Stmt := top 26
theorem sc__law_cell_at : FnScope ["_law_script", "_law_k"] ["_law_script", "_law_k"] (defScope s__law_cell_at) := ⟨rfl, rfl, rfl, by decide +kernel, rfl, by decide +kernel, by decide +kernel⟩
abbrev s__law_state : Stmt := top 27
theorem sc__law_state : FnScope ["_law_script", "_law_k", "_law_cell"] ["_law_script", "_law_k"] (defScope s__law_state) := ⟨rfl, rfl, rfl, by decide +kernel, rfl, by decide +kernel, by decide +kernel⟩
abbrev s__law_take : Stmt := top 28
theorem sc__law_take : FnScope ["_law_state_here", "_law_many", "_law_found", "_law_mixed"] ["_law_state_here", "_law_many"] (defScope s__law_take) := ⟨rfl, rfl, rfl, by decide +kernel, rfl, by decide +kernel, by decide +kernel⟩
abbrev s__law_small : Stmt := top 29
theorem sc__law_small : FnScope ["_law_state_here"] ["_law_state_here"] (defScope s__law_small) := ⟨rfl, rfl, rfl, by decide +kernel, rfl, by decide +kernel, by decide +kernel⟩
abbrev s__law_above : Stmt := top 30
theorem sc__law_above : FnScope ["_law_state_here"] ["_law_state_here"] (defScope s__law_above) := ⟨rfl, rfl, rfl, by decide +kernel, rfl, by decide +kernel, by decide +kernel⟩
abbrev s__law_crowd : Stmt := top 31
theorem sc__law_crowd : FnScope ["_law_state_here", "_law_most", "_law_found", "_law_spot", "_law_turn"] ["_law_state_here", "_law_most"] (defScope s__law_crowd) := ⟨rfl, rfl, rfl, by decide +kernel, rfl, by decide +kernel, by decide +kernel⟩
abbrev s__law_gathered : Stmt := top 32
theorem sc__law_gathered : FnScope ["_law_pairs", "_law_found", "_law_spot", "_law_weight", "_law_at"] ["_law_pairs"] (defScope s__law_gathered) := ⟨rfl, rfl, rfl, by decide +kernel, rfl, by decide +kernel, by decide +kernel⟩
abbrev s__law_each : Stmt := top 33
theorem sc__law_each : FnScope ["_law_one", "_law_other", "_law_way", "_law_found", "_law_spot", "_law_weight", "_law_more", "_law_also"] ["_law_one", "_law_other", "_law_way"] (defScope s__law_each) := ⟨rfl, rfl, rfl, by decide +kernel, rfl, by decide +kernel, by decide +kernel⟩
abbrev s__law_right : Stmt := top 34
theorem sc__law_right : FnScope ["_law_call", "_law_due", "_law_handed", "_law_kept", "_law_found"] ["_law_call", "_law_due", "_law_handed", "_law_kept"] (defScope s__law_right) := ⟨rfl, rfl, rfl, by decide +kernel, rfl, by decide +kernel, by decide +kernel⟩
abbrev s_law : Stmt := top 35
theorem sc_law : FnScope ["_law_script", "_law_k", "_law_state_here", "_law_one", "_law_other", "_law_by", "_law_times_so", "_law_kept", "_law_handed", "_law_cases", "_law_due"] ["_law_script"] (defScope s_law) := ⟨rfl, rfl, rfl, by decide +kernel, rfl, by decide +kernel, by decide +kernel⟩
structure Txt (K : PySem.W.Frag) (mg : Str → Option Value) : Prop where
  non : True
  b_abs : mg "abs" = none
  b_sorted : mg "sorted" = none
  b_zip : mg "zip" = none
  b_list : mg "list" = none
  b_isinstance : mg "isinstance" = none
  b_bool : mg "bool" = none
  b_tuple : mg "tuple" = none
  b_all : mg "all" = none
  b_len : mg "len" = none
  b_range : mg "range" = none
  b_max : mg "max" = none
  b_min : mg "min" = none
  b_int : mg "int" = none
set_option compiler.extract_closed false
local macro_rules | `(tactic| walk_at "m") => `(tactic| try simp only [L2.start, List.map_cons, List.map_nil, List.cons_append, List.nil_append, List.replicate_succ, List.replicate_zero, List.length_cons, List.length_nil, Nat.reduceSub, Nat.reduceAdd, Nat.zero_add, cxOf_K, cxOf_noxK, tVar_m, tTest_m, tB_m, tAndV_m, tOrV_m, tNotV_m, rI_m, rI0_m, rU_m, rEq_m, rNe_m, rIxH_m, rIxU_m, rEqD_m, rNil_m, tPart_m, rSlS_m, rAppS_m, rSetS_m, tPar_m, tAug_m, iList_m, iRng1_m, rPlus_m, rMul_m, tCB_r, tCB_i])
local macro_rules | `(tactic| walk_at "d") => `(tactic| try dsimp only [tSeq, tNever, tNext, tIfS, tRet, tRetN, tDrop, tAsg, gName, gTup, gCons, gNil, gSub, tC, tOp, tUn, tCal, tCB, tBM, tBM0, tCons, tNil, tAnd, tOr, tNot, tIf, tTupS, tComp, tYes, outV, id, tSl, tNoPart, tLstS, tDctS, cxOf_K, cxC_K, upd_same, tFor_eq, List.getElem?_cons_zero, List.getElem?_cons_succ, List.set_cons_zero, List.set_cons_succ, L2.start, Option.join, Option.bind, List.map_cons, List.map_nil, List.replicate_succ, List.replicate_zero, List.cons_append, List.nil_append, List.length_cons, List.length_nil, Nat.reduceSub, Nat.reduceAdd, Nat.zero_add, mVar, mTest, mAndV, mOrV, mNotV, mI, mI0, mU, mEq_int, mNe_int, mIxH, mIxU, mEqD, mNil, mPart, mSlS, mAppS, mSetS, mPar, mAug, mList, mRng1, mPlus_int, mPlus_cat, mMul_int, mCR, mCI, isBl_mk, isInt_mk, isRef_mk, isVar_mk, is1_mk, is2_mk, cond])
local macro_rules | `(tactic| walk_at "s") => `(tactic| try simp only [scal_int, scal_bl, List.map_cons, List.map_nil, List.cons_append, List.nil_append, List.replicate_succ, List.replicate_zero, Option.join, Option.bind, upd_same, rIxL, rIxT, rI, rU, isBl_iff, isInt_iff, isRef_iff, isVar_iff, is1_iff, is2_iff, mEq_iff, mNe_iff, mPlus_iff, mMul_iff, gCons, gNil, rI0, rEq, rNe, rMul_int, rMul_rep, rPlus_int, rPlus_cat, rPopS, gTupH, atI_0, atI_1, atI_2, ixN_2_0, HO.lst.injEq, HO.tup.injEq, TruV_bl, TruV_int, iTup, iRng2, exists_eq_left, exists_eq_left', exists_and_left, exists_and_right, V.int.injEq, V.bl.injEq, V.ref.injEq, V.str.injEq, V.ty.injEq, List.cons.injEq, and_true, true_and, and_self, List.getElem?_cons_zero, List.getElem?_cons_succ, Option.some.injEq, List.set_cons_zero, List.set_cons_succ, reduceCtorEq, or_false, false_or, false_and, and_false, exists_false, exists_eq, exists_eq', and_assoc, List.length_cons, List.length_nil, Nat.reduceSub, Nat.reduceAdd, Nat.zero_add, Bool.not_eq_true', decide_eq_false_iff_not, decide_eq_true_eq, ask_int, ask_bool, ask_list, ask_tuple, ne_eq, not_true_eq_false, not_false_eq_true, ite_true, ite_false, if_true, if_false, Bool.false_eq_true, Bool.not_true, Bool.not_false, Bool.true_eq_false])
local macro_rules | `(tactic| walk_at "vc") => `(tactic| (walk_at "d"; walk_at "s"; walk_at "d"; walk_at "s"; walk_at "d"; walk_at "s"))
local macro_rules | `(tactic| walk_at "vc*") => `(tactic| (walk_at "vc"; (repeat (simp only [*]; walk_at "vc"))))

section
variable {P : Program} {w : World} {K : PySem.W.Frag} {mg : Str → Option Value} {base : Heap} {f : Addr} {fd : FuncData}
def sp_greatest_divisor (K : PySem.W.Frag) : Sp := fun vs H Q _ => ∃ a b : Int, vs = [.int a, .int b] ∧ Q (.int (Int.gcd a b)) H
theorem ok_greatest_divisor (F : Fun K "greatest_divisor" "greatest_divisor" s_greatest_divisor f fd) (T : Txt K mg) : FnOk P w K mg base CX0 1 f fd ["one", "other"] (sp_greatest_divisor K) := by
  have scN := sc_greatest_divisor.nd
  refine F.okQ sc_greatest_divisor (fun vs H Q E h => ?_) (fun cdv A outer s H vs Q E hr h => ?_)
  · obtain ⟨a, b, rfl, _⟩ := h
    rfl
  · obtain ⟨a, b, rfl, h⟩ := h
    refine ⟨_, (qss_cons (qs_par (i := 0) (j := 1) rfl scN rfl rfl (by decide) rfl rfl (qa_cons (qe_callB call_abs (by rfl) T.b_abs bt_abs (qa_cons (qv 0) qa_nil)) (qa_cons (qe_callB call_abs (by rfl) T.b_abs bt_abs (qa_cons (qv 1) qa_nil)) qa_nil)) rfl)
      (qss_cons (qs_while PassesOwn.never (qt_cmpR op_ne (qv 1) qe_int (nomark _)) (qss_one (qs_par (i := 0) (j := 1) rfl scN rfl rfl (by decide) rfl rfl (qa_cons (qv 1) (qa_cons (qe_op op_modX (qv 0) (qv 1)) qa_nil)) rfl)))
      (qss_one (qs_ret (qv 0))))), ?_⟩
    walk_at "m"
    walk_at "vc"
    refine ⟨fun m σ H' => H' = H ∧ ∃ x y : Int, σ = [some (.int x), some (.int y)] ∧ Int.gcd x y = Int.gcd a b ∧ 0 ≤ x ∧ 0 ≤ y ∧ m = y.natAbs, ⟨_, rfl, _, _, rfl, ?_, ?_, ?_, rfl⟩, ?_⟩
    · split <;> split <;> simp
    · split <;> walk_at "o"
    · split <;> walk_at "o"
    · rintro m σ H' ⟨rfl, x, y, rfl, hg, hx, hy, rfl⟩
      walk_at "vc"
      refine ite2 (fun hy0 => ?_) (fun hy0 => ?_)
      · refine ⟨_, fun σ' H' h => h, ?_⟩
        walk_at "vc"
        exact ⟨hy0, _, fmod_lt x hy0, by rw [gcd_fmod, hg], hy, Int.fmod_nonneg_of_pos x (by walk_at "o"), rfl⟩
      · walk_at "vc"
        have e : ((Int.gcd a b : Nat) : Int) = x := by
          rw [← hg, show y = 0 by walk_at "o"]
          simp
          walk_at "o"
        rw [← e]
        exact h
def sp_ratio (K : PySem.W.Frag) : Sp := fun vs H Q _ => ∃ a b : Int, vs = [.int a, .int b] ∧ b ≠ 0 ∧ Bt 9000 b ∧ ∀ v H', Same (vw K H) (vw K H') → Rep (vw K H') (fr (lo a b)) v → Q v H'
theorem ok_ratio (F : Fun K "ratio" "ratio" s_ratio f fd) (T : Txt K mg) (C_greatest_divisor : Cal P w K mg base "greatest_divisor" ["one", "other"] 1 (sp_greatest_divisor K)) : FnOk P w K mg base CX0 2 f fd ["top", "bottom"] (sp_ratio K) := by
  have scN := sc_ratio.nd
  refine F.okQ sc_ratio (fun vs H Q E h => ?_) (fun cdv A outer s H vs Q E hr h => ?_)
  · obtain ⟨a, b, rfl, _⟩ := h
    rfl
  · obtain ⟨a, b, rfl, hb, hbb, h⟩ := h
    refine ⟨_, (qss_cons (qs_if (qt_cmpR op_eq (qv 1) qe_int (nomark _)) (qss_one qs_never) qss_nil)
      (qss_cons (qs_set (i := 2) scN rfl (by first | exact Or.inl rfl | exact Or.inr rfl) (qe_cal C_greatest_divisor (hr.mono (by first | decide | walk_at "o")) rfl (qa_cons (qv 0) (qa_cons (qv 1) qa_nil))))
      (qss_cons (qs_if (qt_cmpR op_lt (qv 1) qe_int (nomark _)) (qss_one (qs_set (i := 2) scN rfl (by first | exact Or.inl rfl | exact Or.inr rfl) (qe_un un_neg (qv 2)))) qss_nil)
      (qss_one (qs_ret (qe_tupS (qa_cons (qe_op op_fdivX (qv 0) (qv 2)) (qa_cons (qe_op op_fdivX (qv 1) (qv 2)) qa_nil)))))))), ?_⟩
    walk_at "m"
    walk_at "vc"
    simp only [sp_greatest_divisor]
    refine iteN hb ?_
    walk_at "vc"
    have hlg : (Int.gcd a b).log2 < 9000 := by
      have h1 : Int.gcd a b ≤ b.natAbs := Nat.le_of_dvd (by walk_at "o") (Int.gcd_dvd_natAbs_right a b)
      exact log2_of_lt (y := (Int.gcd a b : Int)) (by unfold Bt at hbb; walk_at "o")
    have hgn : Int.gcd a b ≠ 0 := fun e => hb (Int.gcd_eq_zero_iff.mp e).2
    have e1 : lg a b = if b < 0 then -(Int.gcd a b : Int) else (Int.gcd a b : Int) := rfl
    have d1 : CDivX a (-(Int.gcd a b : Int)) := ⟨by walk_at "o", by rw [show (-(Int.gcd a b : Int)).natAbs = Int.gcd a b by walk_at "o"]; exact hlg⟩
    have d2 : CDivX a (Int.gcd a b : Int) := ⟨by walk_at "o", by simpa using hlg⟩
    refine ite2 (fun hn => ?_) (fun hn => ?_)
    · rw [if_pos hn] at e1
      refine ⟨d1, d1, by decide, fun p H2 hp S hp2 => h _ H2 S ?_⟩
      rw [← e1] at hp2
      exact rep_pair hp2
    · rw [if_neg hn] at e1
      refine ⟨d2, d2, by decide, fun p H2 hp S hp2 => h _ H2 S ?_⟩
      rw [← e1] at hp2
      exact rep_pair hp2
def sp_plus (K : PySem.W.Frag) : Sp := fun vs H Q _ => ∃ x y p q, vs = [x, y] ∧ Rep (vw K H) (fr p) x ∧ Rep (vw K H) (fr q) y ∧ p.2 ≠ 0 ∧ q.2 ≠ 0 ∧ Bq 20000 p ∧ Bq 20000 q ∧ Bt 9000 (p.2 * q.2) ∧ ∀ v H', Same (vw K H) (vw K H') → Rep (vw K H') (fr (addq p q)) v → Q v H'
theorem ok_plus (F : Fun K "plus" "plus" s_plus f fd) (T : Txt K mg) (C_ratio : Cal P w K mg base "ratio" ["top", "bottom"] 2 (sp_ratio K)) : FnOk P w K mg base CX0 3 f fd ["one", "other"] (sp_plus K) := by
  have scN := sc_plus.nd
  refine F.okQ sc_plus (fun vs H Q E h => ?_) (fun cdv A outer s H vs Q E hr h => ?_)
  · obtain ⟨_, _, _, _, rfl, _⟩ := h
    rfl
  · obtain ⟨x, y, p, q, rfl, hx, hy, np, nq, bp, bq, bb, h⟩ := h
    refine ⟨_, (qss_one (qs_ret (qe_cal C_ratio (hr.mono (by first | decide | walk_at "o")) rfl (qa_cons (qe_op op_Plus (qe_op op_Mul (qe_ix ix_u (qv 0) qe_int (fun _ _ => rfl)) (qe_ix ix_u (qv 1) qe_int (fun _ _ => rfl))) (qe_op op_Mul (qe_ix ix_u (qv 1) qe_int (fun _ _ => rfl)) (qe_ix ix_u (qv 0) qe_int (fun _ _ => rfl)))) (qa_cons (qe_op op_Mul (qe_ix ix_u (qv 0) qe_int (fun _ _ => rfl)) (qe_ix ix_u (qv 1) qe_int (fun _ _ => rfl))) qa_nil))))), ?_⟩
    walk_at "m"
    obtain ⟨a, rfl, ha⟩ := hx.fr_at
    obtain ⟨b, rfl, hb⟩ := hy.fr_at
    walk_at "vc*"
    simp only [sp_ratio]
    walk_at "vc*"
    exact ⟨mulOk bp.1 bq.2 (by decide), mulOk bq.1 bp.2 (by decide), mulOk bp.2 bq.2 (by decide), Int.mul_ne_zero np nq, h⟩
def sp_times (K : PySem.W.Frag) : Sp := fun vs H Q _ => ∃ x y p q, vs = [x, y] ∧ Rep (vw K H) (fr p) x ∧ Rep (vw K H) (fr q) y ∧ p.2 ≠ 0 ∧ q.2 ≠ 0 ∧ Bq 20000 p ∧ Bq 20000 q ∧ Bt 9000 (p.2 * q.2) ∧ ∀ v H', Same (vw K H) (vw K H') → Rep (vw K H') (fr (mulq p q)) v → Q v H'
theorem ok_times (F : Fun K "times" "times" s_times f fd) (T : Txt K mg) (C_ratio : Cal P w K mg base "ratio" ["top", "bottom"] 2 (sp_ratio K)) : FnOk P w K mg base CX0 3 f fd ["one", "other"] (sp_times K) := by
  have scN := sc_times.nd
  refine F.okQ sc_times (fun vs H Q E h => ?_) (fun cdv A outer s H vs Q E hr h => ?_)
  · obtain ⟨_, _, _, _, rfl, _⟩ := h
    rfl
  · obtain ⟨x, y, p, q, rfl, hx, hy, np, nq, bp, bq, bb, h⟩ := h
    refine ⟨_, (qss_one (qs_ret (qe_cal C_ratio (hr.mono (by first | decide | walk_at "o")) rfl (qa_cons (qe_op op_Mul (qe_ix ix_u (qv 0) qe_int (fun _ _ => rfl)) (qe_ix ix_u (qv 1) qe_int (fun _ _ => rfl))) (qa_cons (qe_op op_Mul (qe_ix ix_u (qv 0) qe_int (fun _ _ => rfl)) (qe_ix ix_u (qv 1) qe_int (fun _ _ => rfl))) qa_nil))))), ?_⟩
    walk_at "m"
    obtain ⟨a, rfl, ha⟩ := hx.fr_at
    obtain ⟨b, rfl, hb⟩ := hy.fr_at
    walk_at "vc*"
    simp only [sp_ratio]
    walk_at "vc*"
    exact ⟨mulOk bp.1 bq.1 (by decide), mulOk bp.2 bq.2 (by decide), Int.mul_ne_zero np nq, h⟩
def sp_cleared (K : PySem.W.Frag) : Sp := fun vs H Q _ => ∃ (a : Addr) (qs : List (Int × Int)) (B : Nat), vs = [.ref a] ∧ LsAt (vw K H) a qs ∧ qs.length ≤ 40 ∧ B ≤ 8000 ∧ (∀ q ∈ qs, Fq q ∧ Bq B q) ∧
  ∀ p b H' (D : Int) (ns : List Int), Same (vw K H) (vw K H') → vw K H' p = some (.tup [.ref b, .int D]) → vw K H' b = some (.lst (ns.map V.int)) → vw K H b = none → 0 < D → Bt (1 + qs.length * B) D → ns.length = qs.length →
    (∀ (i : Nat) (n : Int) (q : Int × Int), ns[i]? = some n → qs[i]? = some q → (n : Rat) = wv q * (D : Rat) ∧ Bt (1 + qs.length * B + B) n) → Q (.ref p) H'
theorem ok_cleared (F : Fun K "cleared" "cleared" s_cleared f fd) (T : Txt K mg) (C_greatest_divisor : Cal P w K mg base "greatest_divisor" ["one", "other"] 1 (sp_greatest_divisor K)) : FnOk P w K mg base CX0 2 f fd ["f"] (sp_cleared K) := by
  have scN := sc_cleared.nd
  refine F.okQ sc_cleared (fun vs H Q E h => ?_) (fun cdv A outer s H vs Q E hr h => ?_)
  · obtain ⟨a, _, _, rfl, _⟩ := h
    rfl
  · obtain ⟨a, qs, B, rfl, ha, hql, hB, hq, h⟩ := h
    refine ⟨_, (qss_cons (qs_set (i := 1) scN rfl (by first | exact Or.inl rfl | exact Or.inr rfl) qe_int)
      (qss_cons (qs_for PassesOwn.never rfl (qi_list (qv 0)) (qg_name (i := 2) scN rfl (by first | exact Or.inl rfl | exact Or.inr rfl)) (qss_one (qs_aug (i := 1) scN rfl (by first | exact Or.inl rfl | exact Or.inr rfl) (qe_op op_fdivX (qe_ix ix_u (qv 2) qe_int (fun _ _ => rfl)) (qe_cal C_greatest_divisor (hr.mono (by first | decide | walk_at "o")) rfl (qa_cons (qv 1) (qa_cons (qe_ix ix_u (qv 2) qe_int (fun _ _ => rfl)) qa_nil)))) ip_mulX)))
      (qss_one (qs_ret (qe_tupS (qa_cons (qe_comp (own := ["top", "own"]) (outs := ["bottom"]) (ixs := [1]) rfl (qi_list (qv 0)) rfl ⟨rfl, rfl, rfl, ⟨rfl, trivial⟩, rfl, ⟨⟨rfl, rfl, rfl, _, rfl⟩, trivial⟩⟩ (fun _ _ _ _ => ⟨(show QG _ _ (gTupH K 2 _) from qg_tupH (n := 2) rfl (qgs_cons (qg_name (i := 0) (show (["top", "own", "bottom"] : List Str).Nodup by decide +kernel) rfl (by first | exact Or.inl rfl | exact Or.inr rfl)) (qgs_cons (qg_name (i := 1) (show (["top", "own", "bottom"] : List Str).Nodup by decide +kernel) rfl (by first | exact Or.inl rfl | exact Or.inr rfl)) qgs_nil))), qf_nil, (qe_op (show OpR _ _ (rMul K) from op_Mul) (qv 0) (qe_op op_fdivX (qv 2) (qv 1)))⟩)) (qa_cons (qv 1) qa_nil))))))), ?_⟩
    walk_at "m"
    walk_at "vc"
    obtain ⟨xs, hxs, rxs⟩ := id ha
    have hlx : xs.length = qs.length := by rw [rxs.length, List.length_map]
    have hLB : ∀ i, i ≤ qs.length → i * B ≤ 320000 := fun i hi => Nat.le_trans (Nat.mul_le_mul (Nat.le_trans hi hql) hB) (by decide)
    refine ⟨⟨xs, .of (vw_lst hxs)⟩, ?_⟩
    obtain ⟨Pv, hPv⟩ : ∃ Pv : Nat → St → Hp → Prop, ∀ i σ H', Pv i σ H' ↔ H' = H ∧ ∃ b y, σ = [some (.ref a), some (.int b), y] ∧ 0 < b ∧ Bt (1 + i * B) b ∧ ∀ q ∈ qs.take i, q.2 ∣ b := ⟨_, fun _ _ _ => Iff.rfl⟩
    refine for_items (its := xs) Pv (fun i σ H' _ p => ?_) ((hPv _ _ _).mpr ⟨rfl, _, _, rfl, by decide, by rw [Nat.zero_mul]; decide, by simp⟩) (fun i x σ H1 hi hx pv => ?_) (fun σ H1 pv => ?_)
    · obtain ⟨rfl, _⟩ := (hPv _ _ _).mp p
      exact items_list hxs
    · obtain ⟨rfl, b, y, rfl, hb, bb, hd⟩ := (hPv _ _ _).mp pv
      have hi' : i < qs.length := by walk_at "o"
      obtain ⟨d, e, r⟩ := rxs.get hx
      rw [List.getElem?_map, List.getElem?_eq_getElem hi'] at e
      cases e
      obtain ⟨p, rfl, hp⟩ := r.fr_at
      obtain ⟨fq, bq⟩ := hq qs[i] (List.getElem_mem hi')
      obtain ⟨l1, l2, l3, l4, l5⟩ := lcm_step hb fq.1
      walk_at "vc"
      simp only [sp_greatest_divisor]
      walk_at "vc"
      refine ⟨_, hp, _, atI_1, _, hp, _, atI_1, _, rfl, ?_⟩
      walk_at "vc"
      have hgb : Bt B (Int.gcd b qs[i].2 : Int) := bq.2.le (by walk_at "o") l5
      have hcb : Bt B (qs[i].2.fdiv (Int.gcd b qs[i].2 : Int)) := bq.2.le (by walk_at "o") l2
      have := hLB i (by walk_at "o")
      refine ⟨divX l4 (hgb.mono (by walk_at "o")), mulOk bb hcb (by walk_at "o"), (hPv _ _ _).mpr ⟨rfl, _, _, rfl, Int.mul_pos hb l1, (bb.mul hcb).mono (by rw [Nat.add_mul]; walk_at "o"), fun q hq' => ?_⟩⟩
      rw [List.take_add_one, List.getElem?_eq_getElem hi'] at hq'
      rcases List.mem_append.mp hq' with z | z
      · exact Int.dvd_trans (hd q z) (Int.dvd_mul_right _ _)
      · cases List.mem_singleton.mp z
        exact l3
    · obtain ⟨rfl, D, y, rfl, hD, bD, hd⟩ := (hPv _ _ _).mp pv
      rw [hlx] at bD hd
      rw [List.take_length] at hd
      have hLBq := hLB qs.length (Nat.le_refl _)
      walk_at "vc"
      refine ⟨⟨xs, .of (vw_lst hxs)⟩, fun c H2 hc S2 h2 => ?_⟩
      refine comp_pairs (its := xs) (ps := qs.map fun q => (V.int q.1, V.int q.2)) (fun i ys H' => Same (vw K H1) (vw K H') ∧ ys = (qs.take i).map fun q => V.int (q.1 * D.fdiv q.2)) (by rw [List.length_map]; exact hlx) (fun i ys H' _ _ p => ⟨items_list (p.1 _ _ hxs), fun j u v e => ?_⟩) h2 ⟨S2, rfl⟩ (fun i u v ys H' hi huv h' p => ?_) (fun ys H' h' p => ?_)
      · rw [List.getElem?_map] at e
        cases e2 : qs[j]? with
        | none => rw [e2] at e; cases e
        | some q =>
          rw [e2] at e
          cases e
          obtain ⟨x, e3, r⟩ := rxs.at (i := j) (d := fr q) (by rw [List.getElem?_map, e2]; rfl)
          obtain ⟨p2, rfl, hp2⟩ := r.fr_at
          exact ⟨p2, e3, p.1 _ _ hp2⟩
      · obtain ⟨S', rfl⟩ := p
        rw [List.length_map] at hi
        rw [List.getElem?_map, List.getElem?_eq_getElem hi] at huv
        cases huv
        obtain ⟨fq, bq⟩ := hq qs[i] (List.getElem_mem hi)
        obtain ⟨c1, c2, c3⟩ := clear_at fq (hd qs[i] (List.getElem_mem hi)) hD bD bq.1
        walk_at "vc"
        refine ⟨divX (by have := fq.1; walk_at "o") (bq.2.mono (by walk_at "o")), mulOk bq.1 c3 (by walk_at "o"), .mk2 h' ?_ fun H5 B5 h5 => ⟨fun b o e => B5 _ _ (ne_of_none e hc) (S' _ _ e), ?_⟩⟩
        · rw [List.length_map, List.length_take]
          have : 1000 ≤ sizeLine := by decide
          walk_at "o"
        · rw [List.take_add_one, List.getElem?_eq_getElem hi, List.map_append]
          rfl
      · obtain ⟨S', rfl⟩ := p
        rw [List.length_map, List.take_length] at h'
        walk_at "vc"
        refine ⟨by decide, fun p5 H5 hp5 S5 h5 => h p5 c H5 D (qs.map fun q => q.1 * D.fdiv q.2) (S'.trans S5) h5 (by rw [List.map_map]; exact S5 _ _ h') hc hD bD (by rw [List.length_map]) fun i n q e1 e2 => ?_⟩
        rw [List.getElem?_map, e2] at e1
        cases e1
        have hm := List.mem_of_getElem? e2
        obtain ⟨fq, bq⟩ := hq q hm
        obtain ⟨c1, c2, c3⟩ := clear_at fq (hd q hm) hD bD bq.1
        exact ⟨c1, c2⟩
def sp_together (K : PySem.W.Frag) : Sp := fun vs H Q _ => ∃ (a : Addr) (ps : List Spt), vs = [.ref a] ∧ FlAt (vw K H) a (ps.map spt) ∧ ps.length ≤ 36 ∧ Fqs ps ∧ Bws 201 20 ps ∧ ∀ (b : Addr) H', Same (vw K H) (vw K H') → vw K H b = none → FlAt (vw K H') b ((gath ps).map spt) → Q (.ref b) H'
theorem ok_together (F : Fun K "together" "together" s_together f fd) (T : Txt K mg) (C_plus : Cal P w K mg base "plus" ["one", "other"] 3 (sp_plus K)) (C_cleared : Cal P w K mg base "cleared" ["f"] 2 (sp_cleared K)) : FnOk P w K mg base CX0 4 f fd ["pairs"] (sp_together K) := by
  have scN := sc_together.nd
  refine F.okQ sc_together (fun vs H Q E h => ?_) (fun cdv A outer s H vs Q E hr h => ?_)
  · obtain ⟨a, _, rfl, _⟩ := h
    rfl
  · obtain ⟨a, ps, rfl, ha, hl, hf, hb, h⟩ := h
    refine ⟨_, (qss_cons (qs_set (i := 1) scN rfl (by first | exact Or.inl rfl | exact Or.inr rfl) (show QE _ _ (tDNewX K P w) from qe_dnewX))
      (qss_cons (qs_for PassesOwn.never rfl (qi_list (qv 0)) (qg_tupH (n := 2) rfl (qgs_cons (qg_name (i := 2) scN rfl (by first | exact Or.inl rfl | exact Or.inr rfl)) (qgs_cons (qg_name (i := 3) scN rfl (by first | exact Or.inl rfl | exact Or.inr rfl)) qgs_nil))) (qss_one (qs_asg (qe_ifExp (qt_cmpR (show OpR _ _ (rInX K P w) from op_inX hr.u64) (qv 2) (qv 1) (by rfl)) (qe_cal C_plus (hr.mono (by first | decide | walk_at "o")) rfl (qa_cons (show QE _ _ (tDGetX K P w _ _) from qe_dgetX hr.u64 (qv 1) (qv 2) (fun _ _ => rfl)) (qa_cons (qv 3) qa_nil))) (qv 3)) (qg_sub (qv 1) (qv 2) (show PSet _ (rSetX K P w) from set_dX hr.u64)))))
      (qss_cons (qs_set (i := 4) scN rfl (by first | exact Or.inl rfl | exact Or.inr rfl) (qe_callTy (show CallR _ _ (rListX K P w) from call_listX rfl) (by rfl) T.b_list bt_list (qa_cons (qv 1) qa_nil)))
      (qss_one (qs_ret (qe_comp (own := ["top", "spot"]) (outs := ["weights"]) (ixs := [1]) rfl (qi_list (qe_sortZ rfl rfl T.b_sorted rfl T.b_zip (qa_cons (qe_ix ix_u (qe_cal C_cleared (hr.mono (by first | decide | walk_at "o")) rfl (qa_cons (qv 4) qa_nil)) qe_int (fun _ _ => rfl)) (qa_cons (qv 4) qa_nil)))) rfl ⟨rfl, rfl, rfl, ⟨rfl, trivial⟩, rfl, ⟨⟨rfl, rfl, rfl, _, rfl⟩, trivial⟩⟩ (fun _ _ _ _ => ⟨(show QG _ _ (gTupH K 2 _) from qg_tupH (n := 2) rfl (qgs_cons (qg_name (i := 0) (show (["top", "spot", "weights"] : List Str).Nodup by decide +kernel) rfl (by first | exact Or.inl rfl | exact Or.inr rfl)) (qgs_cons (qg_name (i := 1) (show (["top", "spot", "weights"] : List Str).Nodup by decide +kernel) rfl (by first | exact Or.inl rfl | exact Or.inr rfl)) qgs_nil))), qf_nil, (show QE _ _ (tTupS K _) from qe_tupS (qa_cons (qv 1) (qa_cons (show QE _ _ (tDGetX K P w _ _) from qe_dgetX hr.u64 (qv 2) (qv 1) (fun _ _ => rfl)) qa_nil)))⟩))))))), ?_⟩
    walk_at "m"
    obtain ⟨xs, hxs, rxs⟩ := id ha
    have lx : xs.length = ps.length := by rw [rxs.length, List.length_map]
    refine tSeq.gen fun N1 hN1 => ?_
    walk_at "vc"
    simp only [tDNewX]
    refine fun d H1 hd S1 h1 => hN1 _ _ ?_
    refine tSeq.gen fun N2 hN2 => ?_
    walk_at "vc"
    obtain ⟨Pv, hPv⟩ : ∃ Pv : Nat → St → Hp → Prop, ∀ i σ H', Pv i σ H' ↔ ∃ o2 o3 tx, σ = [some (.ref a), some (.ref d), o2, o3, none] ∧ Same (vw K H) (vw K H') ∧ vw K H' d = some (dX P w d tx) ∧ Dx (vw K H') tx (dgath (ps.take i)) ∧ Fqs (dgath (ps.take i)) ∧ Bws 201 (20 + 21 * i) (dgath (ps.take i)) := ⟨_, fun _ _ _ => Iff.rfl⟩
    refine ⟨⟨xs, .of (vw_lst (S1 _ _ hxs))⟩, for_items (its := xs) Pv (fun i σ H' _ p => ?_) ((hPv _ _ _).mpr ⟨_, _, [], rfl, S1, h1, .nil, (fun c hc => by cases hc), (fun c hc => by cases hc)⟩) (fun i x σ H2 hi hx pv => ?_) (fun σ H2 pv => ?_)⟩
    · obtain ⟨_, _, _, _, S2, _⟩ := (hPv _ _ _).mp p
      exact items_list (S2 _ _ hxs)
    · obtain ⟨o2, o3, tx, rfl, S2, h2, dx, fd', bd⟩ := (hPv _ _ _).mp pv
      have hi' : i < ps.length := by walk_at "o"
      obtain ⟨d', hd', r'⟩ := (rxs.same S2).get hx
      rw [List.getElem?_map, List.getElem?_eq_getElem hi'] at hd'
      cases hd'
      obtain ⟨p, u, v, rfl, hp, ru, rv⟩ := r'.spt_at
      obtain ⟨ua, rfl, hu⟩ := ru.fr_at
      obtain ⟨va, rfl, hv⟩ := rv.fr_at
      walk_at "vc"
      have pi : ps[i]? = some ps[i] := List.getElem?_eq_getElem hi'
      have fp := hf ps[i] (List.getElem_mem hi')
      have bp := hb ps[i] (List.getElem_mem hi')
      obtain ⟨bd2, fd2⟩ := bws_dstep bd fd' fp bp (by walk_at "o")
      rw [← dgath_take pi] at bd2 fd2
      have ll : tx.length < sizeLine := by
        rw [dx.len]
        have := len_dgath (ps.take i)
        rw [List.length_take] at this
        exact Nat.lt_of_lt_of_le (show (dgath (ps.take i)).length < 40 by walk_at "o") (by decide)
      have kp : ∀ {H3 : Hp}, But d (vw K H2) (vw K H3) → ∀ (u : Addr) (q : Int × Int), vw K H2 u = some (tupF q) → vw K H3 u = some (tupF q) := fun B u q e => B _ _ (ne_of e h2 (by intro z; cases z)) e
      refine ⟨_, hp, rfl, _, _, rfl, _, _, rfl, rfl, d, ua, rfl, rfl, tx, fk ps[i].1, h2, dx.ky, hu, _, rfl, ?_⟩
      rcases dx.get ps[i].1 with ⟨hn, e⟩ | ⟨c, hc, ec, ka, u, e, hcu⟩
      · refine iteN (by rw [e]; exact Bool.false_ne_true) ?_
        refine ⟨d, ua, va, rfl, rfl, rfl, tx, fk ps[i].1, h2, dx.ky, hu, ll, fun H3 B3 h3 => (hPv _ _ _).mpr ⟨_, _, _, rfl, fun b o eb => B3 _ _ (ne_of_none eb hd) (S2 _ _ eb), h3, ?_, fd2, bd2.mono (by walk_at "o")⟩⟩
        rw [dgath_take pi]
        exact (dx.keep (kp B3)).new hn (kp B3 _ _ hu) (kp B3 _ _ hv)
      · refine iteP (by rw [e]; rfl) ?_
        simp only [tDGetX]
        walk_at "vc"
        refine ⟨tx, h2, dx.ky, fk ps[i].1, hu, ka, u, e, ?_⟩
        simp only [sp_plus]
        have fc := (fd' c hc).2
        have bc := (bd c hc).2
        refine ⟨_, _, c.2, ps[i].2, rfl, rep_pair hcu, rv, fc.ne, fp.2.ne, bc.mono (by walk_at "o"), bp.2.mono (by decide), (bc.2.mul bp.2.2).mono (by walk_at "o"), fun v3 H3 S3 r3 => ?_⟩
        obtain ⟨v3, rfl, hv3⟩ := r3.fr_at
        have h23 := S3 _ _ h2
        have kp3 : ∀ {H4 : Hp}, But d (vw K H3) (vw K H4) → ∀ (u : Addr) (q : Int × Int), vw K H3 u = some (tupF q) → vw K H4 u = some (tupF q) := fun B u q e => B _ _ (ne_of e h23 (by intro z; cases z)) e
        have dx3 := dx.keep fun u q e => S3 _ _ e
        refine ⟨d, ua, v3, rfl, rfl, rfl, tx, fk ps[i].1, h23, dx3.ky, S3 _ _ hu, ll, fun H4 B4 h4 => (hPv _ _ _).mpr ⟨_, _, _, rfl, fun b o eb => B4 _ _ (ne_of_none eb hd) (S3 _ _ (S2 _ _ eb)), h4, ?_, fd2, bd2.mono (by walk_at "o")⟩⟩
        rw [dgath_take pi]
        exact (dx3.keep (kp3 B4)).old hc ec (fun z hz ez => dgath_uq (fqs_take hf i) hz hc (ez.trans ec.symm)) (kp3 B4 _ _ hv3)
    · obtain ⟨o2, o3, tx, rfl, S2, h2, dx, fd', bd⟩ := (hPv _ _ _).mp pv
      rw [lx, List.take_length] at dx fd' bd
      refine hN2 _ _ ?_
      refine tSeq.gen fun N3 hN3 => ?_
      walk_at "vc"
      simp only [rListX]
      walk_at "vc"
      refine ⟨tx, h2, fun sa H3 hsa S3 h3 => hN3 _ _ ?_⟩
      have dx3 := dx.keep fun u q e => S3 _ _ e
      have lsp : LsAt (vw K H3) sa ((dgath ps).map fun c => c.1) := ⟨_, h3, dx3.spots⟩
      walk_at "vc"
      simp only [tSortZ]
      walk_at "vc"
      simp only [sp_cleared]
      have ld := len_dgath ps
      refine ⟨sa, (dgath ps).map fun c => c.1, 201, rfl, lsp, by rw [List.length_map]; walk_at "o", by decide, fun q hq => ?_, fun p4 b4 H4 D4 ns S4 hp4 hb4 hb4n D0 D4b l4 w4 => ?_⟩
      · obtain ⟨c, hc, rfl⟩ := List.mem_map.mp hq
        exact ⟨(fd' c hc).1, (bd c hc).1⟩
      walk_at "vc"
      rw [List.length_map] at l4
      have w5 : ∀ (i : Nat) (n : Int) (c : Spt), ns[i]? = some n → (dgath ps)[i]? = some c → (n : Rat) = wv c.1 * (D4 : Rat) := fun i n c e1 e2 => (w4 i n c.1 e1 (by rw [List.getElem?_map, e2]; rfl)).1
      refine ⟨_, hp4, _, atI_0, b4, rfl, ns, hb4, _, S4 _ _ h3, by rw [List.length_map, dx.len]; exact l4, by walk_at "o", fun i j m e1 e2 => ?_, fun q rp zs H5 hq hu S5 hrp h5 lz ez => ⟨⟨zs, .of (vw_lst h5)⟩, fun c H6 hc S6 h6 => ?_⟩⟩
      · have i1 := (List.getElem?_eq_some_iff.mp e1).1
        have j1 := (List.getElem?_eq_some_iff.mp e2).1
        have g1 := List.getElem?_eq_getElem (show i < (dgath ps).length by walk_at "o")
        have g2 := List.getElem?_eq_getElem (show j < (dgath ps).length by walk_at "o")
        refine dgath_nd hf g1 g2 (wv_inj (fd' _ (List.mem_of_getElem? g1)).1 (fd' _ (List.mem_of_getElem? g2)).1 ?_)
        have a1 := w5 i m _ e1 g1
        have a2 := w5 j m _ e2 g2
        have nD := cast_ne (show D4 ≠ 0 by walk_at "o")
        rw [a1] at a2
        grind
      have S45 := S4.trans S5
      have dx5 := dx3.keep fun u q e => S45 _ _ e
      have h25 := S45 _ _ (S3 _ _ h2)
      have qn : ∀ i, i < ns.length → q.toList[i]? = some (q.getD i 0) := fun i hi => by
        have hqi : i < q.size := by rw [hq.size]; exact hi
        rw [getD_at hqi, List.getElem?_eq_getElem]
      have ql : q.toList.length = ns.length := by rw [Array.length_toList, hq.size]
      refine comp_pairs (its := zs) (ps := q.toList.map fun j => (V.int (ns.getD j 0), (tx.map fun x => V.ref x.2.1).getD j .non)) (fun i ys H' => Same (vw K H5) (vw K H') ∧ ys.length = i ∧ Reps (vw K H') (((q.toList.take i).map fun j => (dgath ps).getD j ((0, 1), (0, 1))).map spt) ys) (lz.trans (by rw [List.length_map, ql])) (fun i ys H' _ _ p => ⟨items_list (p.1 _ _ h5), fun j u v e => ?_⟩) h6 ⟨S6, rfl, .mk_nil⟩ (fun i u v ys H7 hi huv h7 p => ?_) (fun ys H7 h7 p => ?_)
      · rw [List.getElem?_map] at e
        have hj : j < ns.length := by
          cases e' : q.toList[j]? with
          | none => rw [e'] at e; cases e
          | some x =>
            have := (List.getElem?_eq_some_iff.mp e').1
            rw [Array.length_toList, hq.size] at this
            exact this
        rw [qn j hj] at e
        cases e
        obtain ⟨T', e1, m, e2, y, e3, e4⟩ := ez j zs[j] (List.getElem?_eq_getElem (by walk_at "o"))
        refine ⟨T', by rw [List.getElem?_eq_getElem (by walk_at "o"), e1], ?_⟩
        rw [List.getD_eq_getElem?_getD, e2, List.getD_eq_getElem?_getD, e3]
        exact p.1 _ _ e4
      · obtain ⟨S7, ly, ry⟩ := p
        rw [List.length_map, ql] at hi
        rw [List.getElem?_map, qn i hi] at huv
        cases huv
        have hj := hq.lt hi
        have gc := List.getElem?_eq_getElem (show q.getD i 0 < (dgath ps).length by walk_at "o")
        obtain ⟨ka, v0, k1, k2, k3⟩ := (dx5.keep fun u q e => S7 _ _ e).at gc
        have hcm := List.mem_of_getElem? gc
        have ed : (dgath ps).getD (q.getD i 0) ((0, 1), (0, 1)) = (dgath ps)[q.getD i 0]'(by walk_at "o") := by
          rw [List.getD_eq_getElem?_getD, gc]
          rfl
        generalize (dgath ps)[q.getD i 0]'(by walk_at "o") = cc at *
        have ey : (tx.map fun x => V.ref x.2.1).getD (q.getD i 0) V.non = V.ref ka := by
          rw [List.getD_eq_getElem?_getD, k1]
          rfl
        rw [ey]
        have dx7 := dx5.keep fun u q e => S7 _ _ e
        walk_at "vc"
        simp only [tDGetX]
        walk_at "vc"
        rcases dx7.get cc.1 with ⟨hn, _⟩ | ⟨c', hc', ec', a', u', e', hu'⟩
        · exact (hn ⟨cc, hcm, rfl⟩).elim
        have := dgath_uq hf hc' hcm ec'
        subst this
        refine ⟨tx, S7 _ _ h25, dx7.ky, fk c'.1, k3, a', u', e', by decide, fun p8 H8 hp8 S8 h8 => .mk2 (S8 _ _ h7) ?_ fun H9 B9 h9 => ⟨fun b o e => B9 _ _ (ne_of_none e hc) (S8 _ _ (S7 _ _ e)), by rw [List.length_append, ly]; rfl, ?_⟩⟩
        · rw [ly]
          exact Nat.lt_of_lt_of_le (show i < 40 by walk_at "o") (by decide)
        · rw [List.take_add_one, qn i hi, List.map_append, List.map_append]
          have nc : ∀ {x : Addr} {o : HO}, vw K H7 x = some o → (∀ xs, o ≠ .lst xs) → x ≠ c := fun e1 e2 => ne_of e1 h7 (e2 _)
          refine (Reps.flat_but (S8 _ _ h7) B9 _ _ (spt_flats _) (ry.same S8)).snoc ?_
          show Rep (vw K H9) (spt ((dgath ps).getD (q.getD i 0) ((0, 1), (0, 1)))) (.ref p8)
          rw [ed]
          exact .mk_spt (B9 _ _ (fun z => by rw [z, h7] at hp8; cases hp8) h8) (rep_pair (B9 _ _ (nc k3 (fun _ z => by cases z)) (S8 _ _ k3))) (rep_pair (B9 _ _ (nc hu' (fun _ z => by cases z)) (S8 _ _ hu')))
      · obtain ⟨S7, ly, ry⟩ := p
        rw [List.length_map, List.take_length, sorted_gath hf D0 l4 w5 hq hu] at ry
        exact h c H7 (S2.trans (S3.trans (S45.trans S7))) ((S2.trans (S3.trans S45)).none hc) ⟨ys, h7, ry⟩
theorem fqs_of {ps : List Spt} (h : ∀ c ∈ ps, (Fq c.1 ∧ Fq c.2) ∧ Bq 201 c.1 ∧ Bq 20 c.2) : Fqs ps ∧ Bws 201 20 ps := ⟨fun c hc => (h c hc).1, fun c hc => (h c hc).2⟩
theorem all_moved {cs : List Spt} {q : Int × Int} (hf : Fqs cs) (hb : Bws 100 10 cs) (fq : Fq q) (bq : Bq 10 q) : ∀ c ∈ cs.map (fun c : Spt => ((addq c.1 q, c.2) : Spt)), (Fq c.1 ∧ Fq c.2) ∧ Bq 201 c.1 ∧ Bq 20 c.2 := fun z hz => by
  obtain ⟨c, hc, rfl⟩ := List.mem_map.mp hz
  exact ⟨⟨addq_Fq (hf c hc).1 fq, (hf c hc).2⟩, (addq_Bq (hf c hc).1 fq (hb c hc).1 bq).mono (by decide), (hb c hc).2.mono (by decide)⟩
theorem all_grown {cs : List Spt} {q : Int × Int} (hf : Fqs cs) (hb : Bws 100 10 cs) (fq : Fq q) (bq : Bq 10 q) : ∀ c ∈ cs.map (fun c : Spt => ((mulq c.1 q, c.2) : Spt)), (Fq c.1 ∧ Fq c.2) ∧ Bq 201 c.1 ∧ Bq 20 c.2 := fun z hz => by
  obtain ⟨c, hc, rfl⟩ := List.mem_map.mp hz
  exact ⟨⟨mulq_Fq (hf c hc).1 fq, (hf c hc).2⟩, (mulq_Bq (hf c hc).1 fq (hb c hc).1 bq).mono (by decide), (hb c hc).2.mono (by decide)⟩
theorem all_poured {as bs : List Spt} (hf : Fqs as) (hb : Bws 100 10 as) (hg : Fqs bs) (hc : Bws 100 10 bs) : ∀ c ∈ as ++ bs, (Fq c.1 ∧ Fq c.2) ∧ Bq 201 c.1 ∧ Bq 20 c.2 := fun z hz => by
  rcases List.mem_append.mp hz with h | h
  · exact ⟨hf z h, (hb z h).1.mono (by decide), (hb z h).2.mono (by decide)⟩
  · exact ⟨hg z h, (hc z h).1.mono (by decide), (hc z h).2.mono (by decide)⟩
def opA (c d : Spt) : Spt := (addq c.1 d.1, mulq c.2 d.2)
def opM (c d : Spt) : Spt := (mulq c.1 d.1, mulq c.2 d.2)
theorem all_added {as bs : List Spt} (hf : Fqs as) (hb : Bws 100 10 as) (hg : Fqs bs) (hc : Bws 100 10 bs) : ∀ c ∈ eachS opA as bs, (Fq c.1 ∧ Fq c.2) ∧ Bq 201 c.1 ∧ Bq 20 c.2 := fun z hz => by
  obtain ⟨c, hc1, d, hd, rfl⟩ := each_mem hz
  exact ⟨⟨addq_Fq (hf c hc1).1 (hg d hd).1, mulq_Fq (hf c hc1).2 (hg d hd).2⟩, addq_Bq (hf c hc1).1 (hg d hd).1 (hb c hc1).1 (hc d hd).1, mulq_Bq (hf c hc1).2 (hg d hd).2 (hb c hc1).2 (hc d hd).2⟩
theorem all_multiplied {as bs : List Spt} (hf : Fqs as) (hb : Bws 100 10 as) (hg : Fqs bs) (hc : Bws 100 10 bs) : ∀ c ∈ eachS opM as bs, (Fq c.1 ∧ Fq c.2) ∧ Bq 201 c.1 ∧ Bq 20 c.2 := fun z hz => by
  obtain ⟨c, hc1, d, hd, rfl⟩ := each_mem hz
  exact ⟨⟨mulq_Fq (hf c hc1).1 (hg d hd).1, mulq_Fq (hf c hc1).2 (hg d hd).2⟩, (mulq_Bq (hf c hc1).1 (hg d hd).1 (hb c hc1).1 (hc d hd).1).mono (by decide), mulq_Bq (hf c hc1).2 (hg d hd).2 (hb c hc1).2 (hc d hd).2⟩
def sp_crowd_moved (K : PySem.W.Frag) : Sp := fun vs H Q _ => ∃ (a : Addr) (y : V) (cs : List Spt) (q : Int × Int), vs = [.ref a, y] ∧ FlAt (vw K H) a (cs.map spt) ∧ Rep (vw K H) (fr q) y ∧ Fq q ∧ Bq 10 q ∧ cs.length ≤ 6 ∧ Fqs cs ∧ Bws 100 10 cs ∧ ∀ (b : Addr) H', Same (vw K H) (vw K H') → vw K H b = none → FlAt (vw K H') b ((gath (cs.map fun c : Spt => ((addq c.1 q, c.2) : Spt))).map spt) → Q (.ref b) H'
theorem ok_crowd_moved (F : Fun K "crowd_moved" "crowd_moved" s_crowd_moved f fd) (T : Txt K mg) (C_plus : Cal P w K mg base "plus" ["one", "other"] 3 (sp_plus K)) (C_together : Cal P w K mg base "together" ["pairs"] 4 (sp_together K)) : FnOk P w K mg base CX0 5 f fd ["crowd", "by"] (sp_crowd_moved K) := by
  have scN := sc_crowd_moved.nd
  refine F.okQ sc_crowd_moved (fun vs H Q E h => ?_) (fun cdv A outer s H vs Q E hr h => ?_)
  · obtain ⟨a, _, _, _, rfl, _⟩ := h
    rfl
  · obtain ⟨a, y, cs, q, rfl, ha, ry, fq, bq, lc, hf, hb, h⟩ := h
    refine ⟨_, (qss_one (qs_ret (qe_cal C_together (hr.mono (by first | decide | walk_at "o")) rfl (qa_cons (qe_comp (own := ["spot", "weight"]) (outs := ["by"]) (ixs := [1]) rfl (qi_list (qv 0)) rfl ⟨rfl, rfl, rfl, ⟨rfl, trivial⟩, rfl, ⟨⟨rfl, rfl, rfl, _, rfl⟩, trivial⟩⟩ (fun _ _ _ _ => ⟨(show QG _ _ (gTupH K 2 _) from qg_tupH (n := 2) rfl (qgs_cons (qg_name (i := 0) (show (["spot", "weight", "by"] : List Str).Nodup by decide +kernel) rfl (by first | exact Or.inl rfl | exact Or.inr rfl)) (qgs_cons (qg_name (i := 1) (show (["spot", "weight", "by"] : List Str).Nodup by decide +kernel) rfl (by first | exact Or.inl rfl | exact Or.inr rfl)) qgs_nil))), qf_nil, (show QE _ _ (tTupS K _) from qe_tupS (qa_cons (qe_cal C_plus (hr.mono (by first | decide | walk_at "o")) rfl (qa_cons (qv 0) (qa_cons (qv 2) qa_nil))) (qa_cons (qv 1) qa_nil)))⟩)) qa_nil)))), ?_⟩
    walk_at "m"
    walk_at "vc"
    refine ⟨let ⟨_, e, _⟩ := ha; ⟨_, .of (vw_lst e)⟩, fun c H1 hc S1 h1 => comp_spt (op := fun c : Spt => ((addq c.1 q, c.2) : Spt)) (fun x z d H2 Q2 hd S2 rx rz hQ => ?_) ha (by walk_at "o") hc S1 h1 fun H2 S2 l2 => ?_⟩
    · walk_at "vc"
      simp only [sp_plus]
      refine ⟨_, _, d.1, q, rfl, rx, Rep.same S2 _ _ ry, (hf d hd).1.ne, fq.ne, (hb d hd).1.mono (by decide), bq.mono (by decide), ((hb d hd).1.2.mul bq.2).mono (by decide), fun v H3 S3 r3 => ?_⟩
      refine ⟨by decide, fun p H4 hp S4 h4 => hQ p H4 (S3.trans S4) (.mk_spt h4 (Rep.same S4 _ _ r3) (Rep.same (S3.trans S4) _ _ rz))⟩
    · simp only [sp_together]
      obtain ⟨f2, b2⟩ := fqs_of (all_moved hf hb fq bq)
      exact ⟨c, _, rfl, l2, by rw [List.length_map]; walk_at "o", f2, b2, fun b H3 S3 hb3 l3 => h b H3 (S2.trans S3) (S2.none hb3) l3⟩
def sp_crowd_grown (K : PySem.W.Frag) : Sp := fun vs H Q _ => ∃ (a : Addr) (y : V) (cs : List Spt) (q : Int × Int), vs = [.ref a, y] ∧ FlAt (vw K H) a (cs.map spt) ∧ Rep (vw K H) (fr q) y ∧ Fq q ∧ Bq 10 q ∧ cs.length ≤ 6 ∧ Fqs cs ∧ Bws 100 10 cs ∧ ∀ (b : Addr) H', Same (vw K H) (vw K H') → vw K H b = none → FlAt (vw K H') b ((gath (cs.map fun c : Spt => ((mulq c.1 q, c.2) : Spt))).map spt) → Q (.ref b) H'
theorem ok_crowd_grown (F : Fun K "crowd_grown" "crowd_grown" s_crowd_grown f fd) (T : Txt K mg) (C_times : Cal P w K mg base "times" ["one", "other"] 3 (sp_times K)) (C_together : Cal P w K mg base "together" ["pairs"] 4 (sp_together K)) : FnOk P w K mg base CX0 5 f fd ["crowd", "by"] (sp_crowd_grown K) := by
  have scN := sc_crowd_grown.nd
  refine F.okQ sc_crowd_grown (fun vs H Q E h => ?_) (fun cdv A outer s H vs Q E hr h => ?_)
  · obtain ⟨a, _, _, _, rfl, _⟩ := h
    rfl
  · obtain ⟨a, y, cs, q, rfl, ha, ry, fq, bq, lc, hf, hb, h⟩ := h
    refine ⟨_, (qss_one (qs_ret (qe_cal C_together (hr.mono (by first | decide | walk_at "o")) rfl (qa_cons (qe_comp (own := ["spot", "weight"]) (outs := ["by"]) (ixs := [1]) rfl (qi_list (qv 0)) rfl ⟨rfl, rfl, rfl, ⟨rfl, trivial⟩, rfl, ⟨⟨rfl, rfl, rfl, _, rfl⟩, trivial⟩⟩ (fun _ _ _ _ => ⟨(show QG _ _ (gTupH K 2 _) from qg_tupH (n := 2) rfl (qgs_cons (qg_name (i := 0) (show (["spot", "weight", "by"] : List Str).Nodup by decide +kernel) rfl (by first | exact Or.inl rfl | exact Or.inr rfl)) (qgs_cons (qg_name (i := 1) (show (["spot", "weight", "by"] : List Str).Nodup by decide +kernel) rfl (by first | exact Or.inl rfl | exact Or.inr rfl)) qgs_nil))), qf_nil, (show QE _ _ (tTupS K _) from qe_tupS (qa_cons (qe_cal C_times (hr.mono (by first | decide | walk_at "o")) rfl (qa_cons (qv 0) (qa_cons (qv 2) qa_nil))) (qa_cons (qv 1) qa_nil)))⟩)) qa_nil)))), ?_⟩
    walk_at "m"
    walk_at "vc"
    refine ⟨let ⟨_, e, _⟩ := ha; ⟨_, .of (vw_lst e)⟩, fun c H1 hc S1 h1 => comp_spt (op := fun c : Spt => ((mulq c.1 q, c.2) : Spt)) (fun x z d H2 Q2 hd S2 rx rz hQ => ?_) ha (by walk_at "o") hc S1 h1 fun H2 S2 l2 => ?_⟩
    · walk_at "vc"
      simp only [sp_times]
      refine ⟨_, _, d.1, q, rfl, rx, Rep.same S2 _ _ ry, (hf d hd).1.ne, fq.ne, (hb d hd).1.mono (by decide), bq.mono (by decide), ((hb d hd).1.2.mul bq.2).mono (by decide), fun v H3 S3 r3 => ?_⟩
      refine ⟨by decide, fun p H4 hp S4 h4 => hQ p H4 (S3.trans S4) (.mk_spt h4 (Rep.same S4 _ _ r3) (Rep.same (S3.trans S4) _ _ rz))⟩
    · simp only [sp_together]
      obtain ⟨f2, b2⟩ := fqs_of (all_grown hf hb fq bq)
      exact ⟨c, _, rfl, l2, by rw [List.length_map]; walk_at "o", f2, b2, fun b H3 S3 hb3 l3 => h b H3 (S2.trans S3) (S2.none hb3) l3⟩
def sp_crowd_weighted (K : PySem.W.Frag) : Sp := fun vs H Q _ => ∃ (a : Addr) (y : V) (cs : List Spt) (q : Int × Int), vs = [.ref a, y] ∧ FlAt (vw K H) a (cs.map spt) ∧ Rep (vw K H) (fr q) y ∧ Fq q ∧ Bq 10 q ∧ cs.length ≤ 6 ∧ Fqs cs ∧ Bws 100 10 cs ∧ ∀ (b : Addr) H', Same (vw K H) (vw K H') → vw K H b = none → FlAt (vw K H') b ((cs.map fun c : Spt => ((c.1, mulq c.2 q) : Spt)).map spt) → Q (.ref b) H'
theorem ok_crowd_weighted (F : Fun K "crowd_weighted" "crowd_weighted" s_crowd_weighted f fd) (T : Txt K mg) (C_times : Cal P w K mg base "times" ["one", "other"] 3 (sp_times K)) : FnOk P w K mg base CX0 4 f fd ["crowd", "by"] (sp_crowd_weighted K) := by
  have scN := sc_crowd_weighted.nd
  refine F.okQ sc_crowd_weighted (fun vs H Q E h => ?_) (fun cdv A outer s H vs Q E hr h => ?_)
  · obtain ⟨a, _, _, _, rfl, _⟩ := h
    rfl
  · obtain ⟨a, y, cs, q, rfl, ha, ry, fq, bq, lc, hf, hb, h⟩ := h
    refine ⟨_, (qss_one (qs_ret (qe_comp (own := ["spot", "weight"]) (outs := ["by"]) (ixs := [1]) rfl (qi_list (qv 0)) rfl ⟨rfl, rfl, rfl, ⟨rfl, trivial⟩, rfl, ⟨⟨rfl, rfl, rfl, _, rfl⟩, trivial⟩⟩ (fun _ _ _ _ => ⟨(show QG _ _ (gTupH K 2 _) from qg_tupH (n := 2) rfl (qgs_cons (qg_name (i := 0) (show (["spot", "weight", "by"] : List Str).Nodup by decide +kernel) rfl (by first | exact Or.inl rfl | exact Or.inr rfl)) (qgs_cons (qg_name (i := 1) (show (["spot", "weight", "by"] : List Str).Nodup by decide +kernel) rfl (by first | exact Or.inl rfl | exact Or.inr rfl)) qgs_nil))), qf_nil, (show QE _ _ (tTupS K _) from qe_tupS (qa_cons (qv 0) (qa_cons (qe_cal C_times (hr.mono (by first | decide | walk_at "o")) rfl (qa_cons (qv 1) (qa_cons (qv 2) qa_nil))) qa_nil)))⟩)))), ?_⟩
    walk_at "m"
    walk_at "vc"
    refine ⟨let ⟨_, e, _⟩ := ha; ⟨_, .of (vw_lst e)⟩, fun c H1 hc S1 h1 => comp_spt (op := fun c : Spt => ((c.1, mulq c.2 q) : Spt)) (fun x z d H2 Q2 hd S2 rx rz hQ => ?_) ha (by walk_at "o") hc S1 h1 fun H2 S2 l2 => h c H2 S2 hc l2⟩
    walk_at "vc"
    simp only [sp_times]
    refine ⟨_, _, d.2, q, rfl, rz, Rep.same S2 _ _ ry, (hf d hd).2.ne, fq.ne, (hb d hd).2.mono (by decide), bq.mono (by decide), ((hb d hd).2.2.mul bq.2).mono (by decide), fun v H3 S3 r3 => ?_⟩
    refine ⟨by decide, fun p H4 hp S4 h4 => hQ p H4 (S3.trans S4) (.mk_spt h4 (Rep.same (S3.trans S4) _ _ rx) (Rep.same S4 _ _ r3))⟩
def sp_crowd_poured (K : PySem.W.Frag) : Sp := fun vs H Q _ => ∃ (a b : Addr) (as bs : List Spt), vs = [.ref a, .ref b] ∧ FlAt (vw K H) a (as.map spt) ∧ FlAt (vw K H) b (bs.map spt) ∧ as.length ≤ 6 ∧ bs.length ≤ 6 ∧ Fqs as ∧ Bws 100 10 as ∧ Fqs bs ∧ Bws 100 10 bs ∧ ∀ (c : Addr) H', Same (vw K H) (vw K H') → vw K H c = none → FlAt (vw K H') c ((gath (as ++ bs)).map spt) → Q (.ref c) H'
theorem ok_crowd_poured (F : Fun K "crowd_poured" "crowd_poured" s_crowd_poured f fd) (T : Txt K mg) (C_together : Cal P w K mg base "together" ["pairs"] 4 (sp_together K)) : FnOk P w K mg base CX0 5 f fd ["one", "other"] (sp_crowd_poured K) := by
  have scN := sc_crowd_poured.nd
  refine F.okQ sc_crowd_poured (fun vs H Q E h => ?_) (fun cdv A outer s H vs Q E hr h => ?_)
  · obtain ⟨a, _, _, _, rfl, _⟩ := h
    rfl
  · obtain ⟨a, b, as, bs, rfl, ha, hb, la, lb, fa, ba, fb, bb, h⟩ := h
    refine ⟨_, (qss_one (qs_ret (qe_cal C_together (hr.mono (by first | decide | walk_at "o")) rfl (qa_cons (qe_op op_Plus (qv 0) (qv 1)) qa_nil)))), ?_⟩
    walk_at "m"
    walk_at "vc"
    obtain ⟨xs, hxs, rxs⟩ := id ha
    obtain ⟨ys, hys, rys⟩ := id hb
    have lx : xs.length = as.length := by rw [rxs.length, List.length_map]
    have ly : ys.length = bs.length := by rw [rys.length, List.length_map]
    refine ⟨xs, hxs, ys, hys, Nat.le_trans (show _ ≤ 20 by walk_at "o") (by decide), fun p H1 hp S1 h1 => ?_⟩
    simp only [sp_together]
    obtain ⟨f2, b2⟩ := fqs_of (all_poured fa ba fb bb)
    refine ⟨p, as ++ bs, rfl, ⟨_, h1, ?_⟩, by rw [List.length_append]; walk_at "o", f2, b2, fun c H3 S3 hb3 l3 => h c H3 (S1.trans S3) (S1.none hb3) l3⟩
    rw [List.map_append]
    exact (rxs.same S1).app (rys.same S1)
def sp_crowd_added (K : PySem.W.Frag) : Sp := fun vs H Q _ => ∃ (a b : Addr) (as bs : List Spt), vs = [.ref a, .ref b] ∧ FlAt (vw K H) a (as.map spt) ∧ FlAt (vw K H) b (bs.map spt) ∧ as.length ≤ 6 ∧ bs.length ≤ 6 ∧ Fqs as ∧ Bws 100 10 as ∧ Fqs bs ∧ Bws 100 10 bs ∧ ∀ (c : Addr) H', Same (vw K H) (vw K H') → vw K H c = none → FlAt (vw K H') c ((gath (eachS opA as bs)).map spt) → Q (.ref c) H'
theorem ok_crowd_added (F : Fun K "crowd_added" "crowd_added" s_crowd_added f fd) (T : Txt K mg) (C_plus : Cal P w K mg base "plus" ["one", "other"] 3 (sp_plus K)) (C_times : Cal P w K mg base "times" ["one", "other"] 3 (sp_times K)) (C_together : Cal P w K mg base "together" ["pairs"] 4 (sp_together K)) : FnOk P w K mg base CX0 5 f fd ["one", "other"] (sp_crowd_added K) := by
  have scN := sc_crowd_added.nd
  refine F.okQ sc_crowd_added (fun vs H Q E h => ?_) (fun cdv A outer s H vs Q E hr h => ?_)
  · obtain ⟨a, _, _, _, rfl, _⟩ := h
    rfl
  · obtain ⟨a, b, as, bs, rfl, ha, hb, la, lb, fa, ba, fb, bb, h⟩ := h
    refine ⟨_, (qss_one (qs_ret (qe_cal C_together (hr.mono (by first | decide | walk_at "o")) rfl (qa_cons (qe_comp2 (own := ["spot", "weight", "far", "by"]) (outs := ["other"]) (ixs := [1]) rfl (qi_list (qv 0)) rfl ⟨rfl, rfl, rfl, ⟨rfl, trivial⟩, rfl, ⟨⟨rfl, rfl, rfl, _, rfl⟩, trivial⟩⟩ (fun _ _ _ _ => ⟨(show QG _ _ (gTupH K 2 _) from qg_tupH (n := 2) rfl (qgs_cons (qg_name (i := 0) (show (["spot", "weight", "far", "by", "other"] : List Str).Nodup by decide +kernel) rfl (by first | exact Or.inl rfl | exact Or.inr rfl)) (qgs_cons (qg_name (i := 1) (show (["spot", "weight", "far", "by", "other"] : List Str).Nodup by decide +kernel) rfl (by first | exact Or.inl rfl | exact Or.inr rfl)) qgs_nil))), qf_nil, (show QI _ _ _ (iList K _) from (qi_list (qv 4))), (show QG _ _ (gTupH K 2 _) from qg_tupH (n := 2) rfl (qgs_cons (qg_name (i := 2) (show (["spot", "weight", "far", "by", "other"] : List Str).Nodup by decide +kernel) rfl (by first | exact Or.inl rfl | exact Or.inr rfl)) (qgs_cons (qg_name (i := 3) (show (["spot", "weight", "far", "by", "other"] : List Str).Nodup by decide +kernel) rfl (by first | exact Or.inl rfl | exact Or.inr rfl)) qgs_nil))), qf_nil, (show QE _ _ (tTupS K _) from qe_tupS (qa_cons (qe_cal C_plus (hr.mono (by first | decide | walk_at "o")) rfl (qa_cons (qv 0) (qa_cons (qv 2) qa_nil))) (qa_cons (qe_cal C_times (hr.mono (by first | decide | walk_at "o")) rfl (qa_cons (qv 1) (qa_cons (qv 3) qa_nil))) qa_nil)))⟩)) qa_nil)))), ?_⟩
    walk_at "m"
    walk_at "vc"
    refine comp2_spt (op := opA) (fun x y u v c d H' Q' hc hd rx ry ru rv hQ => ?_) ha hb la lb fun p H' S' hp l' => ?_
    · walk_at "vc"
      simp only [sp_plus]
      refine ⟨_, _, c.1, d.1, rfl, rx, ru, (fa c hc).1.ne, (fb d hd).1.ne, (ba c hc).1.mono (by decide), (bb d hd).1.mono (by decide), ((ba c hc).1.2.mul (bb d hd).1.2).mono (by decide), fun v3 H3 S3 r3 => ?_⟩
      try simp only [sp_times]
      refine ⟨_, _, c.2, d.2, rfl, Rep.same S3 _ _ ry, Rep.same S3 _ _ rv, (fa c hc).2.ne, (fb d hd).2.ne, (ba c hc).2.mono (by decide), (bb d hd).2.mono (by decide), ((ba c hc).2.2.mul (bb d hd).2.2).mono (by decide), fun v4 H4 S4 r4 => ?_⟩
      exact ⟨by decide, fun p H5 hp S5 h5 => hQ p H5 (S3.trans (S4.trans S5)) (.mk_spt h5 (Rep.same (S4.trans S5) _ _ r3) (Rep.same S5 _ _ r4))⟩
    · simp only [sp_together]
      obtain ⟨f2, b2⟩ := fqs_of (all_added fa ba fb bb)
      refine ⟨p, _, rfl, l', ?_, f2, b2, fun c H3 S3 hb3 l3 => h c H3 (S'.trans S3) (S'.none hb3) l3⟩
      rw [each_len]
      exact Nat.mul_le_mul la lb
def sp_crowd_multiplied (K : PySem.W.Frag) : Sp := fun vs H Q _ => ∃ (a b : Addr) (as bs : List Spt), vs = [.ref a, .ref b] ∧ FlAt (vw K H) a (as.map spt) ∧ FlAt (vw K H) b (bs.map spt) ∧ as.length ≤ 6 ∧ bs.length ≤ 6 ∧ Fqs as ∧ Bws 100 10 as ∧ Fqs bs ∧ Bws 100 10 bs ∧ ∀ (c : Addr) H', Same (vw K H) (vw K H') → vw K H c = none → FlAt (vw K H') c ((gath (eachS opM as bs)).map spt) → Q (.ref c) H'
theorem ok_crowd_multiplied (F : Fun K "crowd_multiplied" "crowd_multiplied" s_crowd_multiplied f fd) (T : Txt K mg) (C_times : Cal P w K mg base "times" ["one", "other"] 3 (sp_times K)) (C_together : Cal P w K mg base "together" ["pairs"] 4 (sp_together K)) : FnOk P w K mg base CX0 5 f fd ["one", "other"] (sp_crowd_multiplied K) := by
  have scN := sc_crowd_multiplied.nd
  refine F.okQ sc_crowd_multiplied (fun vs H Q E h => ?_) (fun cdv A outer s H vs Q E hr h => ?_)
  · obtain ⟨a, _, _, _, rfl, _⟩ := h
    rfl
  · obtain ⟨a, b, as, bs, rfl, ha, hb, la, lb, fa, ba, fb, bb, h⟩ := h
    refine ⟨_, (qss_one (qs_ret (qe_cal C_together (hr.mono (by first | decide | walk_at "o")) rfl (qa_cons (qe_comp2 (own := ["spot", "weight", "far", "by"]) (outs := ["other"]) (ixs := [1]) rfl (qi_list (qv 0)) rfl ⟨rfl, rfl, rfl, ⟨rfl, trivial⟩, rfl, ⟨⟨rfl, rfl, rfl, _, rfl⟩, trivial⟩⟩ (fun _ _ _ _ => ⟨(show QG _ _ (gTupH K 2 _) from qg_tupH (n := 2) rfl (qgs_cons (qg_name (i := 0) (show (["spot", "weight", "far", "by", "other"] : List Str).Nodup by decide +kernel) rfl (by first | exact Or.inl rfl | exact Or.inr rfl)) (qgs_cons (qg_name (i := 1) (show (["spot", "weight", "far", "by", "other"] : List Str).Nodup by decide +kernel) rfl (by first | exact Or.inl rfl | exact Or.inr rfl)) qgs_nil))), qf_nil, (show QI _ _ _ (iList K _) from (qi_list (qv 4))), (show QG _ _ (gTupH K 2 _) from qg_tupH (n := 2) rfl (qgs_cons (qg_name (i := 2) (show (["spot", "weight", "far", "by", "other"] : List Str).Nodup by decide +kernel) rfl (by first | exact Or.inl rfl | exact Or.inr rfl)) (qgs_cons (qg_name (i := 3) (show (["spot", "weight", "far", "by", "other"] : List Str).Nodup by decide +kernel) rfl (by first | exact Or.inl rfl | exact Or.inr rfl)) qgs_nil))), qf_nil, (show QE _ _ (tTupS K _) from qe_tupS (qa_cons (qe_cal C_times (hr.mono (by first | decide | walk_at "o")) rfl (qa_cons (qv 0) (qa_cons (qv 2) qa_nil))) (qa_cons (qe_cal C_times (hr.mono (by first | decide | walk_at "o")) rfl (qa_cons (qv 1) (qa_cons (qv 3) qa_nil))) qa_nil)))⟩)) qa_nil)))), ?_⟩
    walk_at "m"
    walk_at "vc"
    refine comp2_spt (op := opM) (fun x y u v c d H' Q' hc hd rx ry ru rv hQ => ?_) ha hb la lb fun p H' S' hp l' => ?_
    · walk_at "vc"
      simp only [sp_times]
      refine ⟨_, _, c.1, d.1, rfl, rx, ru, (fa c hc).1.ne, (fb d hd).1.ne, (ba c hc).1.mono (by decide), (bb d hd).1.mono (by decide), ((ba c hc).1.2.mul (bb d hd).1.2).mono (by decide), fun v3 H3 S3 r3 => ?_⟩
      try simp only [sp_times]
      refine ⟨_, _, c.2, d.2, rfl, Rep.same S3 _ _ ry, Rep.same S3 _ _ rv, (fa c hc).2.ne, (fb d hd).2.ne, (ba c hc).2.mono (by decide), (bb d hd).2.mono (by decide), ((ba c hc).2.2.mul (bb d hd).2.2).mono (by decide), fun v4 H4 S4 r4 => ?_⟩
      exact ⟨by decide, fun p H5 hp S5 h5 => hQ p H5 (S3.trans (S4.trans S5)) (.mk_spt h5 (Rep.same (S4.trans S5) _ _ r3) (Rep.same S5 _ _ r4))⟩
    · simp only [sp_together]
      obtain ⟨f2, b2⟩ := fqs_of (all_multiplied fa ba fb bb)
      refine ⟨p, _, rfl, l', ?_, f2, b2, fun c H3 S3 hb3 l3 => h c H3 (S'.trans S3) (S'.none hb3) l3⟩
      rw [each_len]
      exact Nat.mul_le_mul la lb
def sp__law_less (K : PySem.W.Frag) : Sp := fun vs H Q _ => ∃ x y p q, vs = [x, y] ∧ Rep (vw K H) (fr p) x ∧ Rep (vw K H) (fr q) y ∧ Bq 20000 p ∧ Bq 20000 q ∧ Q (.bl (ltq p q)) H
theorem ok__law_less (F : Fun K "_law_less" "_law_less" s__law_less f fd) (T : Txt K mg) : FnOk P w K mg base CX0 1 f fd ["_law_one", "_law_other"] (sp__law_less K) := by
  have scN := sc__law_less.nd
  refine F.okQ sc__law_less (fun vs H Q E h => ?_) (fun cdv A outer s H vs Q E hr h => ?_)
  · obtain ⟨_, _, _, _, rfl, _⟩ := h
    rfl
  · obtain ⟨x, y, p, q, rfl, hx, hy, bp, bq, h⟩ := h
    refine ⟨_, (qss_one (qs_ret (qe_cmpR op_lt (qe_op op_Mul (qe_ix ix_u (qv 0) qe_int (fun _ _ => rfl)) (qe_ix ix_u (qv 1) qe_int (fun _ _ => rfl))) (qe_op op_Mul (qe_ix ix_u (qv 1) qe_int (fun _ _ => rfl)) (qe_ix ix_u (qv 0) qe_int (fun _ _ => rfl))) (nomark _)))), ?_⟩
    walk_at "m"
    obtain ⟨a, rfl, ha⟩ := hx.fr_at
    obtain ⟨b, rfl, hb⟩ := hy.fr_at
    walk_at "vc*"
    exact ⟨mulOk bp.1 bq.2 (by decide), mulOk bq.1 bp.2 (by decide), h⟩
def sp__law_divisor (K : PySem.W.Frag) : Sp := fun vs H Q _ => ∃ a b : Int, vs = [.int a, .int b] ∧ Q (.int (Int.gcd a b)) H
theorem ok__law_divisor (F : Fun K "_law_divisor" "_law_divisor" s__law_divisor f fd) (T : Txt K mg) : FnOk P w K mg base CX0 1 f fd ["_law_one", "_law_other"] (sp__law_divisor K) := by
  have scN := sc__law_divisor.nd
  refine F.okQ sc__law_divisor (fun vs H Q E h => ?_) (fun cdv A outer s H vs Q E hr h => ?_)
  · obtain ⟨a, b, rfl, _⟩ := h
    rfl
  · obtain ⟨a, b, rfl, h⟩ := h
    refine ⟨_, (qss_cons (qs_while PassesOwn.never (qt_cmpR op_ne (qv 1) qe_int (nomark _)) (qss_one (qs_par (i := 0) (j := 1) rfl scN rfl rfl (by decide) rfl rfl (qa_cons (qv 1) (qa_cons (qe_op op_modX (qv 0) (qv 1)) qa_nil)) rfl)))
      (qss_one (qs_ret (qe_callB call_abs (by rfl) T.b_abs bt_abs (qa_cons (qv 0) qa_nil))))), ?_⟩
    walk_at "m"
    walk_at "vc"
    refine ⟨fun m σ H' => H' = H ∧ ∃ x y : Int, σ = [some (.int x), some (.int y)] ∧ Int.gcd x y = Int.gcd a b ∧ m = y.natAbs, ⟨_, rfl, _, _, rfl, rfl, rfl⟩, ?_⟩
    rintro m σ H' ⟨rfl, x, y, rfl, hg, rfl⟩
    walk_at "vc"
    refine ite2 (fun hy0 => ?_) (fun hy0 => ?_)
    · refine ⟨_, fun σ' H' h => h, ?_⟩
      walk_at "vc"
      exact ⟨hy0, _, fmod_lt x hy0, by rw [gcd_fmod, hg], rfl⟩
    · walk_at "vc"
      have e : ((Int.gcd a b : Nat) : Int) = if x < 0 then -x else x := by
        rw [← hg, show y = 0 by walk_at "o"]
        simp
        split <;> walk_at "o"
      rw [← e]
      exact h
def sp__law_low (K : PySem.W.Frag) : Sp := fun vs H Q _ => ∃ a b : Int, vs = [.int a, .int b] ∧ b ≠ 0 ∧ b.natAbs < 2 ^ 9000 ∧ ∀ v H', Same (vw K H) (vw K H') → Rep (vw K H') (fr (lo a b)) v → Q v H'
theorem ok__law_low (F : Fun K "_law_low" "_law_low" s__law_low f fd) (T : Txt K mg) (C__law_divisor : Cal P w K mg base "_law_divisor" ["_law_one", "_law_other"] 1 (sp__law_divisor K)) : FnOk P w K mg base CX0 2 f fd ["_law_top", "_law_bottom"] (sp__law_low K) := by
  have scN := sc__law_low.nd
  refine F.okQ sc__law_low (fun vs H Q E h => ?_) (fun cdv A outer s H vs Q E hr h => ?_)
  · obtain ⟨a, b, rfl, _⟩ := h
    rfl
  · obtain ⟨a, b, rfl, hb, hbb, h⟩ := h
    refine ⟨_, (qss_cons (qs_set (i := 2) scN rfl (by first | exact Or.inl rfl | exact Or.inr rfl) (qe_cal C__law_divisor (hr.mono (by first | decide | walk_at "o")) rfl (qa_cons (qv 0) (qa_cons (qv 1) qa_nil))))
      (qss_cons (qs_if (qt_cmpR op_lt (qv 1) qe_int (nomark _)) (qss_one (qs_set (i := 2) scN rfl (by first | exact Or.inl rfl | exact Or.inr rfl) (qe_op op_sub qe_int (qv 2)))) qss_nil)
      (qss_one (qs_ret (qe_tupS (qa_cons (qe_op op_fdivX (qv 0) (qv 2)) (qa_cons (qe_op op_fdivX (qv 1) (qv 2)) qa_nil))))))), ?_⟩
    walk_at "m"
    walk_at "vc"
    simp only [sp__law_divisor]
    walk_at "vc"
    have hlg : (Int.gcd a b).log2 < 9000 := by
      have h1 : Int.gcd a b ≤ b.natAbs := Nat.le_of_dvd (by walk_at "o") (Int.gcd_dvd_natAbs_right a b)
      exact log2_of_lt (y := (Int.gcd a b : Int)) (by walk_at "o")
    have hgn : Int.gcd a b ≠ 0 := fun e => hb (Int.gcd_eq_zero_iff.mp e).2
    have e1 : lg a b = if b < 0 then 0 - (Int.gcd a b : Int) else (Int.gcd a b : Int) := by
      unfold lg
      split <;> walk_at "o"
    have d1 : CDivX a (0 - (Int.gcd a b : Int)) := ⟨by walk_at "o", by rw [show (0 - (Int.gcd a b : Int)).natAbs = Int.gcd a b by walk_at "o"]; exact hlg⟩
    have d2 : CDivX a (Int.gcd a b : Int) := ⟨by walk_at "o", by simpa using hlg⟩
    refine ite2 (fun hn => ?_) (fun hn => ?_)
    · rw [if_pos hn] at e1
      refine ⟨d1, d1, by decide, fun p H2 hp S hp2 => ?_⟩
      refine h _ H2 S ?_
      rw [← e1] at hp2
      simp only [fr, lo, Rep, Reps]
      exact ⟨p, _, rfl, hp2, _, _, rfl, rfl, _, _, rfl, rfl, rfl⟩
    · rw [if_neg hn] at e1
      refine ⟨d2, d2, by decide, fun p H2 hp S hp2 => ?_⟩
      refine h _ H2 S ?_
      rw [← e1] at hp2
      simp only [fr, lo, Rep, Reps]
      exact ⟨p, _, rfl, hp2, _, _, rfl, rfl, _, _, rfl, rfl, rfl⟩
def sp__law_plus (K : PySem.W.Frag) : Sp := fun vs H Q _ => ∃ x y p q, vs = [x, y] ∧ Rep (vw K H) (fr p) x ∧ Rep (vw K H) (fr q) y ∧ p.2 ≠ 0 ∧ q.2 ≠ 0 ∧ Bq 20000 p ∧ Bq 20000 q ∧ Bt 9000 (p.2 * q.2) ∧ ∀ v H', Same (vw K H) (vw K H') → Rep (vw K H') (fr (addq p q)) v → Q v H'
theorem ok__law_plus (F : Fun K "_law_plus" "_law_plus" s__law_plus f fd) (T : Txt K mg) (C__law_low : Cal P w K mg base "_law_low" ["_law_top", "_law_bottom"] 2 (sp__law_low K)) : FnOk P w K mg base CX0 3 f fd ["_law_one", "_law_other"] (sp__law_plus K) := by
  have scN := sc__law_plus.nd
  refine F.okQ sc__law_plus (fun vs H Q E h => ?_) (fun cdv A outer s H vs Q E hr h => ?_)
  · obtain ⟨_, _, _, _, rfl, _⟩ := h
    rfl
  · obtain ⟨x, y, p, q, rfl, hx, hy, np, nq, bp, bq, bb, h⟩ := h
    refine ⟨_, (qss_one (qs_ret (qe_cal C__law_low (hr.mono (by first | decide | walk_at "o")) rfl (qa_cons (qe_op op_Plus (qe_op op_Mul (qe_ix ix_u (qv 0) qe_int (fun _ _ => rfl)) (qe_ix ix_u (qv 1) qe_int (fun _ _ => rfl))) (qe_op op_Mul (qe_ix ix_u (qv 1) qe_int (fun _ _ => rfl)) (qe_ix ix_u (qv 0) qe_int (fun _ _ => rfl)))) (qa_cons (qe_op op_Mul (qe_ix ix_u (qv 0) qe_int (fun _ _ => rfl)) (qe_ix ix_u (qv 1) qe_int (fun _ _ => rfl))) qa_nil))))), ?_⟩
    walk_at "m"
    obtain ⟨a, rfl, ha⟩ := hx.fr_at
    obtain ⟨b, rfl, hb⟩ := hy.fr_at
    walk_at "vc*"
    simp only [sp__law_low]
    walk_at "vc*"
    exact ⟨mulOk bp.1 bq.2 (by decide), mulOk bq.1 bp.2 (by decide), mulOk bp.2 bq.2 (by decide), Int.mul_ne_zero np nq, h⟩
def sp__law_times (K : PySem.W.Frag) : Sp := fun vs H Q _ => ∃ x y p q, vs = [x, y] ∧ Rep (vw K H) (fr p) x ∧ Rep (vw K H) (fr q) y ∧ p.2 ≠ 0 ∧ q.2 ≠ 0 ∧ Bq 20000 p ∧ Bq 20000 q ∧ Bt 9000 (p.2 * q.2) ∧ ∀ v H', Same (vw K H) (vw K H') → Rep (vw K H') (fr (mulq p q)) v → Q v H'
theorem ok__law_times (F : Fun K "_law_times" "_law_times" s__law_times f fd) (T : Txt K mg) (C__law_low : Cal P w K mg base "_law_low" ["_law_top", "_law_bottom"] 2 (sp__law_low K)) : FnOk P w K mg base CX0 3 f fd ["_law_one", "_law_other"] (sp__law_times K) := by
  have scN := sc__law_times.nd
  refine F.okQ sc__law_times (fun vs H Q E h => ?_) (fun cdv A outer s H vs Q E hr h => ?_)
  · obtain ⟨_, _, _, _, rfl, _⟩ := h
    rfl
  · obtain ⟨x, y, p, q, rfl, hx, hy, np, nq, bp, bq, bb, h⟩ := h
    refine ⟨_, (qss_one (qs_ret (qe_cal C__law_low (hr.mono (by first | decide | walk_at "o")) rfl (qa_cons (qe_op op_Mul (qe_ix ix_u (qv 0) qe_int (fun _ _ => rfl)) (qe_ix ix_u (qv 1) qe_int (fun _ _ => rfl))) (qa_cons (qe_op op_Mul (qe_ix ix_u (qv 0) qe_int (fun _ _ => rfl)) (qe_ix ix_u (qv 1) qe_int (fun _ _ => rfl))) qa_nil))))), ?_⟩
    walk_at "m"
    obtain ⟨a, rfl, ha⟩ := hx.fr_at
    obtain ⟨b, rfl, hb⟩ := hy.fr_at
    walk_at "vc*"
    simp only [sp__law_low]
    walk_at "vc*"
    exact ⟨mulOk bp.1 bq.1 (by decide), mulOk bp.2 bq.2 (by decide), Int.mul_ne_zero np nq, h⟩
def sp__law_same (n : Nat) (K : PySem.W.Frag) : Sp := fun vs H Q _ => ∃ x y d, vs = [x, y] ∧ Rep (vw K H) d x ∧ Rep (vw K H) d y ∧ d.sm n = true ∧ ∀ H', Same (vw K H) (vw K H') → Q (.bl true) H'
theorem ok__law_same {n : Nat} (F : Fun K "_law_same" "_law_same" s__law_same f fd) (T : Txt K mg) (C__law_same : Cal P w K mg base "_law_same" ["_law_found", "_law_due"] (n + 1) (sp__law_same n K)) : FnOk P w K mg base CX0 (n + 2) f fd ["_law_found", "_law_due"] (sp__law_same (n + 1) K) := by
  have scN := sc__law_same.nd
  refine F.okQ sc__law_same (fun vs H Q E h => ?_) (fun cdv A outer s H vs Q E hr h => ?_)
  · obtain ⟨a, _, _, rfl, _⟩ := h
    rfl
  · obtain ⟨x, y, d, rfl, hx, hy, hd, h⟩ := h
    refine ⟨_, (qss_cons (qs_if (qt_val (qe_callB call_isinstTL (by rfl) T.b_isinstance bt_isinstance (qa_cons (qv 1) (qa_cons (qe_tupS (qa_cons (qe_bltn (v := V.ty "tuple") rfl T.b_tuple bt_tuple rfl) (qa_cons (qe_bltn (v := V.ty "list") rfl T.b_list bt_list rfl) qa_nil))) qa_nil)))) (qss_cons (qs_if (QW.pt (qw_or (qt_cmpR op_ne (qe_callB call_isinst (by rfl) T.b_isinstance bt_isinstance (qa_cons (qv 0) (qa_cons (qe_bltn (v := V.ty "tuple") rfl T.b_tuple bt_tuple rfl) qa_nil))) (qe_callB call_isinst (by rfl) T.b_isinstance bt_isinstance (qa_cons (qv 1) (qa_cons (qe_bltn (v := V.ty "tuple") rfl T.b_tuple bt_tuple rfl) qa_nil))) (nomark _)) (qw_or1 (qt_cmpR op_ne (qe_callB call_isinst (by rfl) T.b_isinstance bt_isinstance (qa_cons (qv 0) (qa_cons (qe_bltn (v := V.ty "list") rfl T.b_list bt_list rfl) qa_nil))) (qe_callB call_isinst (by rfl) T.b_isinstance bt_isinstance (qa_cons (qv 1) (qa_cons (qe_bltn (v := V.ty "list") rfl T.b_list bt_list rfl) qa_nil))) (nomark _))))) (qss_one (qs_ret qe_bl)) qss_nil)
      (qss_cons (qs_if (qt_cmpR op_ne (qe_callB call_lenH (by rfl) T.b_len bt_len (qa_cons (qv 0) qa_nil)) (qe_callB call_lenH (by rfl) T.b_len bt_len (qa_cons (qv 1) qa_nil)) (nomark _)) (qss_one (qs_ret qe_bl)) qss_nil)
      (qss_one (qs_ret (qe_callB (call_allB rfl) (by rfl) T.b_all bt_all (qa_cons (qe_comp (own := ["_law_one", "_law_other"]) (outs := []) (ixs := []) rfl (qi_zip rfl T.b_zip (qa_cons (qv 0) (qa_cons (qv 1) qa_nil))) rfl ⟨rfl, rfl, rfl, trivial, rfl, trivial⟩ (fun _ _ _ _ => ⟨(show QG _ _ (gTupH K 2 _) from qg_tupH (n := 2) rfl (qgs_cons (qg_name (i := 0) (show (["_law_one", "_law_other"] : List Str).Nodup by decide +kernel) rfl (by first | exact Or.inl rfl | exact Or.inr rfl)) (qgs_cons (qg_name (i := 1) (show (["_law_one", "_law_other"] : List Str).Nodup by decide +kernel) rfl (by first | exact Or.inl rfl | exact Or.inr rfl)) qgs_nil))), qf_nil, (qe_cal C__law_same (hr.mono (by first | decide | walk_at "o")) rfl (qa_cons (qv 0) (qa_cons (qv 1) qa_nil)))⟩)) qa_nil)))))) qss_nil)
      (qss_one (qs_ret (qe_and (qe_cmpR op_eq (qv 0) (qv 1) (nomark _)) (qe_one (qe_cmpR op_eq (qe_callB call_isinst (by rfl) T.b_isinstance bt_isinstance (qa_cons (qv 0) (qa_cons (qe_bltn (v := V.ty "bool") rfl T.b_bool bt_bool rfl) qa_nil))) (qe_callB call_isinst (by rfl) T.b_isinstance bt_isinstance (qa_cons (qv 1) (qa_cons (qe_bltn (v := V.ty "bool") rfl T.b_bool bt_bool rfl) qa_nil))) (nomark _))))))), ?_⟩
    walk_at "m"
    have tx := Rep.ty hx
    have ty := Rep.ty hy
    walk_at "vc*"
    refine ⟨by decide, fun p0 H1 hp0 S1 h1 => ?_⟩
    have hx1 := Rep.same S1 _ _ hx
    have hy1 := Rep.same S1 _ _ hy
    have tx1 := Rep.ty hx1
    have ty1 := Rep.ty hy1
    refine ⟨d.ty, p0, rfl, h1, ty1, ?_⟩
    have seq : ∀ (b : Bool) (ds : List D) (p q : Addr) (xs ys : List V), SrcH K b H1 p xs → SrcH K b H1 q ys → Reps (vw K H1) ds xs → Reps (vw K H1) ds ys → ds.length ≤ 1000 → ds.all (D.sm n) = true →
        iZip K (tCons (mVar 0) (tCons (mVar 1) tNil)) [some (.ref p), some (.ref q)] H1 fun J H1 => ∀ (a : Addr) (H2 : Hp), vw K H1 a = none → Same (vw K H1) (vw K H2) → vw K H2 a = some (HO.lst []) →
          CompOK K J (gTupH K 2 (gCons (gName 0) (gCons (gName 1) gNil))) tYes (tCal (sp__law_same n K) (tCons (mVar 0) (tCons (mVar 1) tNil))) a [none, none] H2 fun H1 => ∃ bs, vw K H1 a = some (HO.lst (List.map V.bl bs)) ∧ Q (V.bl (bs.all id)) H1 := by
      intro b ds p q xs ys sp sq rx ry hl hs
      simp only [iZip]
      walk_at "vc"
      refine ⟨b, ⟨xs, sp⟩, b, ⟨ys, sq⟩, fun c H2 hc S2 h2 => ?_⟩
      have lx := rx.length
      have ly := ry.length
      refine comp_rows (ps := xs.zip ys) (fun i zs H' => Same (vw K H1) (vw K H') ∧ zs = List.replicate i (V.bl true)) (fun i zs H' _ _ pv => ⟨xs, ys, pv.1 _ _ sp, pv.1 _ _ sq, zip_rows.symm⟩) h2 ⟨S2, rfl⟩ (fun i u v zs H3 H4 hi huv h4 pv S4 => ?_) (fun zs H3 h3 pv => ?_)
      · obtain ⟨S3, rfl⟩ := pv
        obtain ⟨d', hd', r1, r2⟩ := sm_zip rx ry huv
        have S14 := S3.trans S4
        walk_at "vc"
        simp only [sp__law_same]
        walk_at "vc"
        refine ⟨d', Rep.same S14 _ _ r1, Rep.same S14 _ _ r2, List.all_eq_true.mp hs d' hd', fun H5 S5 => .mk2 (S5 _ _ h4) ?_ fun H6 B6 h6 => ⟨fun a o e => B6 _ _ (ne_of_none e hc) (S5 _ _ (S14 _ _ e)), ?_⟩⟩
        · rw [List.length_replicate]
          have : 1000 ≤ sizeLine := by decide
          simp at hi
          walk_at "o"
        · rw [← List.replicate_succ', List.replicate_succ]
      · obtain ⟨S3, rfl⟩ := pv
        refine ⟨List.replicate (xs.zip ys).length true, ?_, ?_⟩
        · rw [List.map_replicate]
          exact h3
        · have e : (List.replicate (xs.zip ys).length true).all id = true := by simp
          rw [e]
          exact h _ (S1.trans S3)
    cases d with
    | tup ds =>
      obtain ⟨p, xs, rfl, hp, rx⟩ := hx1.tup_at
      obtain ⟨q, ys, rfl, hq, ry⟩ := hy1.tup_at
      have hsm : (decide (ds.length ≤ 1000) && ds.all (D.sm n)) = true := hd
      rw [Bool.and_eq_true] at hsm
      have e : xs.length = ys.length := by rw [rx.length, ry.length]
      exact iteP (by simp [D.ty, instN]) ⟨_, tx1, _, ty1, iteN (fun z => z rfl) ⟨_, tx1, _, ty1, iteN (fun z => z rfl) ⟨p, rfl, xs.length, by simp only [lenH, hp], q, rfl, ys.length, by simp only [lenH, hq], iteN (fun z => z (by rw [e])) (seq false ds p q xs ys hp hq rx ry (of_decide_eq_true hsm.1) hsm.2)⟩⟩⟩
    | lst ds =>
      obtain ⟨p, xs, rfl, hp, rx⟩ := hx1.lst_at
      obtain ⟨q, ys, rfl, hq, ry⟩ := hy1.lst_at
      have hsm : (decide (ds.length ≤ 1000) && ds.all (D.sm n)) = true := hd
      rw [Bool.and_eq_true] at hsm
      have e : xs.length = ys.length := by rw [rx.length, ry.length]
      exact iteP (by simp [D.ty, instN]) ⟨_, tx1, _, ty1, iteN (fun z => z rfl) ⟨_, tx1, _, ty1, iteN (fun z => z rfl) ⟨p, rfl, xs.length, by simp only [lenH, hp], q, rfl, ys.length, by simp only [lenH, hq], iteN (fun z => z (by rw [e])) (seq true ds p q xs ys hp hq rx ry (of_decide_eq_true hsm.1) hsm.2)⟩⟩⟩
    | dict => cases hd
    | _ =>
      unfold Rep at hx1 hy1
      subst hx1 hy1
      refine iteN (by simp [D.ty, instN]) ⟨rfl, iteP rfl ⟨_, tx1, _, ty1, ?_⟩⟩
      have := h H1 S1
      simpa using this
theorem all__law_same (F : Fun K "_law_same" "_law_same" s__law_same f fd) (T : Txt K mg) (hm : mg "_law_same" = some (.ref f)) (hk : PySem.W.keepIn K (.ref f) = true) (hb : Binds K fd ["_law_found", "_law_due"] []) :
    ∀ n, Cal P w K mg base "_law_same" ["_law_found", "_law_due"] (n + 1) (sp__law_same n K)
  | 0 => ⟨f, fd, F.okQ sc__law_same (fun vs H Q E h => by obtain ⟨_, _, d, _, _, _, z, _⟩ := h; cases d <;> cases z) (fun cdv A outer s H vs Q E hr h => by obtain ⟨_, _, d, _, _, _, z, _⟩ := h; cases d <;> cases z), hm, hk, hb⟩
  | n + 1 => ⟨f, fd, ok__law_same F T (all__law_same F T hm hk hb n), hm, hk, hb⟩
def sp__law_cell_at (K : PySem.W.Frag) : Sp := fun vs H Q _ => ∃ (a : Addr) (ns : List Int) (k : Nat), vs = [.ref a, .int k] ∧ ScrOk K H a (ns.map V.int) ∧ ∀ x : Int, Q (.int x) H
theorem ok__law_cell_at (F : Fun K "_law_cell_at" "_law_cell_at" s__law_cell_at f fd) (T : Txt K mg) : FnOk P w K mg base CX0 1 f fd ["_law_script", "_law_k"] (sp__law_cell_at K) := by
  have scN := sc__law_cell_at.nd
  refine F.okQ sc__law_cell_at (fun vs H Q E h => ?_) (fun cdv A outer s H vs Q E hr h => ?_)
  · obtain ⟨a, ns, k, rfl, _⟩ := h
    rfl
  · obtain ⟨a, ns, k, rfl, hS, h⟩ := h
    refine ⟨_, (qss_cons (qs_if (qt_cmpR op_lt (qv 1) (qe_callB call_len_seq (by rfl) T.b_len bt_len (qa_cons (qv 0) qa_nil)) (nomark _)) (qss_one (qs_ret (qe_ix ix_list (qv 0) (qv 1) (fun _ _ => rfl)))) qss_nil)
      (qss_one (qs_ret qe_int))), ?_⟩
    walk_at "m"
    walk_at "vc"
    refine ⟨_, .inl hS.sq, ite2 (fun hk => ?_) (fun hk => h 0)⟩
    simp only [List.length_map] at hk
    have hk' : k < ns.length := by walk_at "o"
    exact ⟨_, hS.sq, _, atI_nat (by rw [List.getElem?_map, List.getElem?_eq_getElem hk']; rfl), h _⟩
def sp__law_state (K : PySem.W.Frag) : Sp := fun vs H Q _ => ∃ (a : Addr) (ns : List Int) (k : Nat), vs = [.ref a, .int k] ∧ ScrOk K H a (ns.map V.int) ∧ ∀ st H', vw K H st = none → Same (vw K H) (vw K H') → StOk (vw K H') st → Q (.ref st) H'
theorem ok__law_state (F : Fun K "_law_state" "_law_state" s__law_state f fd) (T : Txt K mg) (C__law_cell_at : Cal P w K mg base "_law_cell_at" ["_law_script", "_law_k"] 1 (sp__law_cell_at K)) : FnOk P w K mg base CX0 2 f fd ["_law_script", "_law_k"] (sp__law_state K) := by
  have scN := sc__law_state.nd
  refine F.okQ sc__law_state (fun vs H Q E h => ?_) (fun cdv A outer s H vs Q E hr h => ?_)
  · obtain ⟨a, ns, k, rfl, _⟩ := h
    rfl
  · obtain ⟨a, ns, k, rfl, hS, h⟩ := h
    refine ⟨_, (qss_cons (qs_set (i := 2) scN rfl (by first | exact Or.inl rfl | exact Or.inr rfl) (qe_cal C__law_cell_at (hr.mono (by first | decide | walk_at "o")) rfl (qa_cons (qv 0) (qa_cons (qv 1) qa_nil))))
      (qss_cons (qs_if (qt_cmpR op_ge (qv 2) (qe_op op_pow qe_int qe_int) (nomark _)) (qss_one (qs_ret (qe_lstS (qa_cons (qe_op op_sub (qv 2) (qe_op op_pow qe_int qe_int)) (qa_cons qe_bl qa_nil))))) qss_nil)
      (qss_one (qs_ret (qe_lstS (qa_cons (qe_op op_modX (qv 2) qe_int) (qa_cons qe_bl qa_nil))))))), ?_⟩
    walk_at "m"
    walk_at "vc"
    simp only [sp__law_cell_at]
    walk_at "vc"
    refine ⟨⟨k, rfl⟩, ⟨ns, hS⟩, fun x => ⟨CPow_of (by decide), ite2 (fun hx => ⟨CPow_of (by decide), by decide, fun p H2 hp S hp2 => h p H2 hp S ⟨_, _, hp2, fun z => by cases z⟩⟩) (fun hx => ⟨by decide, by decide, fun p H2 hp S hp2 => h p H2 hp S ⟨_, _, hp2, fun _ => ?_⟩⟩)⟩⟩
    exact ⟨Int.fmod_nonneg_of_pos x (by decide), Int.fmod_lt_of_pos x (by decide)⟩
def sp__law_take (K : PySem.W.Frag) : Sp := fun vs H Q _ => ∃ (st : Addr) (m : Int), vs = [.ref st, .int m] ∧ StOk (vw K H) st ∧ 0 < m ∧ m ≤ 2147483587 ∧ ∀ r H', 0 ≤ r → r < m → But st (vw K H) (vw K H') → StOk (vw K H') st → Q (.int r) H'
theorem ok__law_take (F : Fun K "_law_take" "_law_take" s__law_take f fd) (T : Txt K mg) : FnOk P w K mg base CX0 1 f fd ["_law_state_here", "_law_many"] (sp__law_take K) := by
  have scN := sc__law_take.nd
  refine F.okQ sc__law_take (fun vs H Q E h => ?_) (fun cdv A outer s H vs Q E hr h => ?_)
  · obtain ⟨a, ns, rfl, _⟩ := h
    rfl
  · obtain ⟨st, m, rfl, ⟨x, b, hst, hx⟩, hm, hm2, h⟩ := h
    refine ⟨_, (qss_cons (qs_if (qt_truth (qe_ix ix_h (qv 0) qe_int (fun _ _ => rfl)) (fun _ => rfl)) (qss_cons (qs_set (i := 2) scN rfl (by first | exact Or.inl rfl | exact Or.inr rfl) (qe_op op_modX (qe_ix ix_h (qv 0) qe_int (fun _ _ => rfl)) (qv 1)))
      (qss_cons (qs_asg (qe_op op_fdivX (qe_ix ix_h (qv 0) qe_int (fun _ _ => rfl)) (qv 1)) (qg_sub (qv 0) qe_int set_listS))
      (qss_one (qs_ret (qv 2))))) qss_nil)
      (qss_cons (qs_asg (qe_op op_modX (qe_op op_Plus (qe_op op_Mul (qe_ix ix_h (qv 0) qe_int (fun _ _ => rfl)) qe_int) qe_int) qe_int) (qg_sub (qv 0) qe_int set_listS))
      (qss_cons (qs_set (i := 3) scN rfl (by first | exact Or.inl rfl | exact Or.inr rfl) (qe_op op_modX (qe_op op_Plus (qe_op op_Plus (qe_op op_Mul (qe_ix ix_h (qv 0) qe_int (fun _ _ => rfl)) (qe_ix ix_h (qv 0) qe_int (fun _ _ => rfl))) (qe_op op_Mul qe_int (qe_ix ix_h (qv 0) qe_int (fun _ _ => rfl)))) qe_int) qe_int))
      (qss_cons (qs_set (i := 3) scN rfl (by first | exact Or.inl rfl | exact Or.inr rfl) (qe_op op_modX (qe_op op_Plus (qe_op op_Mul (qv 3) (qv 3)) (qe_op op_Mul qe_int (qv 3))) qe_int))
      (qss_one (qs_ret (qe_op op_modX (qe_op op_fdivX (qv 3) qe_int) (qv 1)))))))), ?_⟩
    walk_at "m"
    have hm0 : m ≠ 0 := by walk_at "o"
    cases b with
    | true =>
      walk_at "vc*"
      refine ⟨divX hm0 (by unfold Bt; walk_at "o"), fun H2 B h2 => h _ _ (Int.fmod_nonneg_of_pos x hm) (Int.fmod_lt_of_pos x hm) B ⟨_, _, h2, fun z => by cases z⟩⟩
    | false =>
      walk_at "vc*"
      refine ⟨mulOk_r (by decide), by decide, fun H2 B h2 => ?_⟩
      have b1 : Bt 31 ((x * 48271 + 29).fmod 2147483647) := bt_fmod (by decide) (by decide)
      have b3 : 0 ≤ (x * 48271 + 29).fmod 2147483647 ∧ (x * 48271 + 29).fmod 2147483647 < 2147483647 := ⟨Int.fmod_nonneg_of_pos _ (by decide), Int.fmod_lt_of_pos _ (by decide)⟩
      generalize (x * 48271 + 29).fmod 2147483647 = y at *
      walk_at "vc*"
      have b2 : Bt 31 ((y * y + 39373 * y + 7).fmod 2147483629) := bt_fmod (by decide) (by decide)
      generalize e2 : (y * y + 39373 * y + 7).fmod 2147483629 = z at *
      refine ⟨mulOk_l (b1.mono (by decide)), mulOk_l (by decide), by decide, mulOk_l (b2.mono (by decide)), mulOk_l (by decide), by decide, divX (by decide) (by decide), ?_⟩
      exact h _ _ (Int.fmod_nonneg_of_pos _ hm) (Int.fmod_lt_of_pos _ hm) B ⟨_, _, h2, fun _ => b3⟩
def sp__law_small (K : PySem.W.Frag) : Sp := fun vs H Q _ => ∃ st : Addr, vs = [.ref st] ∧ StOk (vw K H) st ∧ ∀ v H' q, But st (vw K H) (vw K H') → StOk (vw K H') st → Rep (vw K H') (fr q) v → Fq q → Bt 10 q.1 → Bt 10 q.2 → Sx 36 q → Q v H'
theorem ok__law_small (F : Fun K "_law_small" "_law_small" s__law_small f fd) (T : Txt K mg) (C__law_low : Cal P w K mg base "_law_low" ["_law_top", "_law_bottom"] 2 (sp__law_low K))
    (C__law_take : Cal P w K mg base "_law_take" ["_law_state_here", "_law_many"] 1 (sp__law_take K)) : FnOk P w K mg base CX0 3 f fd ["_law_state_here"] (sp__law_small K) := by
  have scN := sc__law_small.nd
  refine F.okQ sc__law_small (fun vs H Q E h => ?_) (fun cdv A outer s H vs Q E hr h => ?_)
  · obtain ⟨a, rfl, _⟩ := h
    rfl
  · obtain ⟨st, rfl, hst, h⟩ := h
    refine ⟨_, (qss_one (qs_ret (qe_cal C__law_low (hr.mono (by first | decide | walk_at "o")) rfl (qa_cons (qe_op op_sub (qe_cal C__law_take (hr.mono (by first | decide | walk_at "o")) rfl (qa_cons (qv 0) (qa_cons qe_int qa_nil))) qe_int) (qa_cons (qe_op op_Plus qe_int (qe_ix ix_h (qe_lstS (qa_cons qe_int (qa_cons qe_int (qa_cons (qe_cal C__law_take (hr.mono (by first | decide | walk_at "o")) rfl (qa_cons (qv 0) (qa_cons qe_int qa_nil))) qa_nil)))) (qe_cal C__law_take (hr.mono (by first | decide | walk_at "o")) rfl (qa_cons (qv 0) (qa_cons qe_int qa_nil))) (fun _ _ => rfl))) qa_nil))))), ?_⟩
    walk_at "m"
    walk_at "vc"
    simp only [sp__law_take, sp__law_low]
    walk_at "vc"
    refine ⟨hst, by decide, by decide, fun r1 H1 r10 r11 B1 S1 => ⟨S1, by decide, by decide, fun r2 H2 r20 r21 B2 S2 => ⟨by decide, ?_⟩⟩⟩
    intro p H3 hp S3 h3
    refine ⟨S2.same S3, by decide, by decide, fun r4 H4 r40 r41 B4 S4 => ?_⟩
    have h4 := B4 _ _ (S2.ne hp) h3
    obtain ⟨v, hv, hm⟩ := atI_mem (xs := [V.int 0, V.int 0, V.int r2]) r40 (by simpa using r41)
    obtain ⟨z, rfl, hz0, hz1⟩ : ∃ z, v = .int z ∧ 0 ≤ z ∧ z < 3 := by
      simp only [List.mem_cons, List.not_mem_nil, or_false] at hm
      rcases hm with rfl | rfl | rfl
      · exact ⟨0, rfl, by decide, by decide⟩
      · exact ⟨0, rfl, by decide, by decide⟩
      · exact ⟨r2, rfl, r20, r21⟩
    walk_at "vc"
    refine ⟨_, h4, _, hv, ?_⟩
    walk_at "vc"
    have hz : 1 + z ≠ 0 := by walk_at "o"
    have hb : (1 + z).natAbs < 2 ^ 10 := by walk_at "o"
    refine ⟨hz, Nat.lt_of_lt_of_le hb (Nat.pow_le_pow_right (by decide) (by decide)), fun v H5 S5 r5 => ?_⟩
    have q2 := lo_mul_right (a := r1 - 6) hz
    have q1 := lo_mul_left (a := r1 - 6) hz
    have hl : lg (r1 - 6) (1 + z) ≠ 0 := lg_ne hz
    refine h v H5 _ (((B1.trans B2).same_trans S3).trans (B4.same_trans S5)) (S4.same S5) r5 (lo_Fq hz) ?_ ?_ (Sx.lo hz0 hz1 (by walk_at "o"))
    · unfold Bt
      have := Int.natAbs_mul (lo (r1 - 6) (1 + z)).1 (lg (r1 - 6) (1 + z))
      rw [q1] at this
      have := Nat.le_mul_of_pos_right (lo (r1 - 6) (1 + z)).1.natAbs (show 0 < (lg (r1 - 6) (1 + z)).natAbs by walk_at "o")
      walk_at "o"
    · unfold Bt
      have := Int.natAbs_mul (lo (r1 - 6) (1 + z)).2 (lg (r1 - 6) (1 + z))
      rw [q2] at this
      have := Nat.le_mul_of_pos_right (lo (r1 - 6) (1 + z)).2.natAbs (show 0 < (lg (r1 - 6) (1 + z)).natAbs by walk_at "o")
      walk_at "o"
def sp__law_above (K : PySem.W.Frag) : Sp := fun vs H Q _ => ∃ st : Addr, vs = [.ref st] ∧ StOk (vw K H) st ∧ ∀ v H' q, But st (vw K H) (vw K H') → StOk (vw K H') st → Rep (vw K H') (fr q) v → Fq q → 0 < q.1 → Bq 10 q → Sx 36 q → Q v H'
theorem ok__law_above (F : Fun K "_law_above" "_law_above" s__law_above f fd) (T : Txt K mg) (C__law_low : Cal P w K mg base "_law_low" ["_law_top", "_law_bottom"] 2 (sp__law_low K))
    (C__law_take : Cal P w K mg base "_law_take" ["_law_state_here", "_law_many"] 1 (sp__law_take K)) : FnOk P w K mg base CX0 3 f fd ["_law_state_here"] (sp__law_above K) := by
  have scN := sc__law_above.nd
  refine F.okQ sc__law_above (fun vs H Q E h => ?_) (fun cdv A outer s H vs Q E hr h => ?_)
  · obtain ⟨a, rfl, _⟩ := h
    rfl
  · obtain ⟨st, rfl, hst, h⟩ := h
    refine ⟨_, (qss_one (qs_ret (qe_cal C__law_low (hr.mono (by first | decide | walk_at "o")) rfl (qa_cons (qe_op op_Plus qe_int (qe_cal C__law_take (hr.mono (by first | decide | walk_at "o")) rfl (qa_cons (qv 0) (qa_cons qe_int qa_nil)))) (qa_cons (qe_op op_Plus qe_int (qe_ix ix_h (qe_lstS (qa_cons qe_int (qa_cons qe_int (qa_cons (qe_cal C__law_take (hr.mono (by first | decide | walk_at "o")) rfl (qa_cons (qv 0) (qa_cons qe_int qa_nil))) qa_nil)))) (qe_cal C__law_take (hr.mono (by first | decide | walk_at "o")) rfl (qa_cons (qv 0) (qa_cons qe_int qa_nil))) (fun _ _ => rfl))) qa_nil))))), ?_⟩
    walk_at "m"
    walk_at "vc"
    simp only [sp__law_take, sp__law_low]
    walk_at "vc"
    refine ⟨hst, by decide, by decide, fun r1 H1 r10 r11 B1 S1 => ⟨S1, by decide, by decide, fun r2 H2 r20 r21 B2 S2 => ⟨by decide, ?_⟩⟩⟩
    intro p H3 hp S3 h3
    refine ⟨S2.same S3, by decide, by decide, fun r4 H4 r40 r41 B4 S4 => ?_⟩
    have h4 := B4 _ _ (S2.ne hp) h3
    obtain ⟨v, hv, hm⟩ := atI_mem (xs := [V.int 0, V.int 0, V.int r2]) r40 (by simpa using r41)
    obtain ⟨z, rfl, hz0, hz1⟩ : ∃ z, v = .int z ∧ 0 ≤ z ∧ z < 3 := by
      simp only [List.mem_cons, List.not_mem_nil, or_false] at hm
      rcases hm with rfl | rfl | rfl
      · exact ⟨0, rfl, by decide, by decide⟩
      · exact ⟨0, rfl, by decide, by decide⟩
      · exact ⟨r2, rfl, r20, r21⟩
    walk_at "vc"
    refine ⟨_, h4, _, hv, ?_⟩
    walk_at "vc"
    have hz : 1 + z ≠ 0 := by walk_at "o"
    have hb : (1 + z).natAbs < 2 ^ 10 := by walk_at "o"
    refine ⟨hz, Nat.lt_of_lt_of_le hb (Nat.pow_le_pow_right (by decide) (by decide)), fun v H5 S5 r5 => ?_⟩
    have q1 := lo_mul_left (a := 1 + r1) hz
    have hl : 0 < lg (1 + r1) (1 + z) := lg_pos (by walk_at "o")
    refine h v H5 _ (((B1.trans B2).same_trans S3).trans (B4.same_trans S5)) (S4.same S5) r5 (lo_Fq hz) ?_ (bt_lo hz (by unfold Bt; walk_at "o") hb) (Sx.lo hz0 hz1 (by walk_at "o"))
    refine Int.pos_of_mul_pos_left ?_ hl
    rw [q1]
    walk_at "o"
def sp__law_crowd (K : PySem.W.Frag) : Sp := fun vs H Q _ => ∃ (st : Addr) (m : Nat), vs = [.ref st, .int m] ∧ m ≤ 6 ∧ StOk (vw K H) st ∧ ∀ (a : Addr) (H' : Hp) (cs : List Spt), But st (vw K H) (vw K H') → StOk (vw K H') st → FlAt (vw K H') a (cs.map spt) → (∀ c ∈ cs, Fq c.1 ∧ Fq c.2 ∧ 0 < c.2.1) → (∀ c ∈ cs, Bq 100 c.1 ∧ Bq 10 c.2) → (∀ c ∈ cs, Sx 300 c.1 ∧ Sx 36 c.2) →
  (∀ i c d, cs[i]? = some c → cs[i + 1]? = some d → ltq c.1 d.1 = true) → cs.length ≤ m → vw K H a = none → Q (.ref a) H'
theorem ok__law_crowd (F : Fun K "_law_crowd" "_law_crowd" s__law_crowd f fd) (T : Txt K mg) (C__law_small : Cal P w K mg base "_law_small" ["_law_state_here"] 3 (sp__law_small K)) (C__law_above : Cal P w K mg base "_law_above" ["_law_state_here"] 3 (sp__law_above K))
    (C__law_take : Cal P w K mg base "_law_take" ["_law_state_here", "_law_many"] 1 (sp__law_take K)) (C__law_plus : Cal P w K mg base "_law_plus" ["_law_one", "_law_other"] 3 (sp__law_plus K)) : FnOk P w K mg base CX0 4 f fd ["_law_state_here", "_law_most"] (sp__law_crowd K) := by
  have scN := sc__law_crowd.nd
  refine F.okQ sc__law_crowd (fun vs H Q E h => ?_) (fun cdv A outer s H vs Q E hr h => ?_)
  · obtain ⟨a, _, rfl, _⟩ := h
    rfl
  · obtain ⟨st, m, rfl, hm, hst, h⟩ := h
    refine ⟨_, (qss_cons (qs_set (i := 2) scN rfl (by first | exact Or.inl rfl | exact Or.inr rfl) (qe_lstS qa_nil))
      (qss_cons (qs_set (i := 3) scN rfl (by first | exact Or.inl rfl | exact Or.inr rfl) (qe_cal C__law_small (hr.mono (by first | decide | walk_at "o")) rfl (qa_cons (qv 0) qa_nil)))
      (qss_cons (qs_for PassesOwn.never rfl (qi_range1 rfl T.b_range (qa_cons (qe_cal C__law_take (hr.mono (by first | decide | walk_at "o")) rfl (qa_cons (qv 0) (qa_cons (qe_op op_Plus (qv 1) qe_int) qa_nil))) qa_nil)) (qg_name (i := 4) scN rfl (by first | exact Or.inl rfl | exact Or.inr rfl)) (qss_cons (qs_expr (qe_bm PySem.F.plainAttrs_list PySem.F.slot_list_append PySem.F.type_list_append mt_appendS (qv 2) (qa_cons (qe_tupS (qa_cons (qv 3) (qa_cons (qe_cal C__law_above (hr.mono (by first | decide | walk_at "o")) rfl (qa_cons (qv 0) qa_nil)) qa_nil))) qa_nil)))
      (qss_one (qs_set (i := 3) scN rfl (by first | exact Or.inl rfl | exact Or.inr rfl) (qe_cal C__law_plus (hr.mono (by first | decide | walk_at "o")) rfl (qa_cons (qv 3) (qa_cons (qe_cal C__law_above (hr.mono (by first | decide | walk_at "o")) rfl (qa_cons (qv 0) qa_nil)) qa_nil)))))))
      (qss_one (qs_ret (qv 2)))))), ?_⟩
    walk_at "m"
    walk_at "vc"
    simp only [sp__law_take, sp__law_small]
    walk_at "vc"
    refine ⟨by decide, fun a H1 ha S1 h1 => ⟨hst.same S1, fun v H2 q B2 S2 r2 f2 c1 c2 c5 => ⟨S2, by walk_at "o", by walk_at "o", fun n H3 n0 n1 B3 S3 => ⟨by walk_at "o", by walk_at "o", ?_⟩⟩⟩⟩
    have nst : st ≠ a := ((hst.ne ha)).symm
    have h3 := B3 _ _ nst.symm (B2 _ _ nst.symm h1)
    have hr2 : Rep (vw K H3) (fr q) v := by
      obtain ⟨_, _, z, _⟩ := id S2
      exact Rep.flat_but z B3 _ _ (fr_flat q) r2
    refine for_items (its := iots 0 n.toNat) (fun i σ H' => ∃ v y q cs, σ = [some (.ref st), some (.int m), some (.ref a), some v, y] ∧ But st (vw K H) (vw K H') ∧ StOk (vw K H') st ∧ FlAt (vw K H') a (cs.map spt) ∧ cs.length = i ∧ Rep (vw K H') (fr q) v ∧ Fq q ∧ Bq (10 + 12 * i) q ∧ Sx (36 + 36 * i) q ∧ (∀ c ∈ cs, Sx 300 c.1 ∧ Sx 36 c.2) ∧
      (∀ c ∈ cs, Fq c.1 ∧ Fq c.2 ∧ 0 < c.2.1) ∧ (∀ c ∈ cs, Bq 100 c.1 ∧ Bq 10 c.2) ∧ (∀ i c d, cs[i]? = some c → cs[i + 1]? = some d → ltq c.1 d.1 = true) ∧ ∀ c, cs.getLast? = some c → ltq c.1 q = true) (fun _ _ _ _ _ => items_range)
      ⟨v, _, q, [], rfl, ((S1.but st).trans B2).trans B3, S3, ⟨[], h3, .mk_nil⟩, rfl, hr2, f2, ⟨c1, c2⟩, c5, by simp, by simp, by simp, by simp, by simp⟩ ?_ ?_
    · rintro i x σ H4 hi hx ⟨v, y, q, cs, rfl, B4, S4, l4, hl, r4, f4, b4, x4, c6, c1, c2, c3, c4⟩
      rw [iots_len] at hi
      walk_at "vc"
      simp only [sp__law_above, sp__law_plus]
      walk_at "vc"
      refine ⟨l4.ty, S4, fun w5 H5 q5 B5 S5 r5 f5 p5 b5 x5 => ⟨by decide, fun p6 H6 hp6 S6 h6 => ?_⟩⟩
      have l6 : FlAt (vw K H6) a (cs.map spt) := (l4.stBut (spt_flats cs) (spt_no cs) S4 B5).same S6
      have r46 : Rep (vw K H6) (fr q) v := by
        obtain ⟨_, _, z, _⟩ := id S4
        exact Rep.same S6 _ _ (Rep.flat_but z B5 _ _ (fr_flat q) r4)
      have r56 := Rep.same S6 _ _ r5
      obtain ⟨xs, hxs, rxs⟩ := id l6
      refine ⟨xs, hxs, ?_, fun H7 B7 h7 => ?_⟩
      · rw [rxs.length, List.length_map]
        exact Nat.lt_of_lt_of_le (show cs.length < 7 by walk_at "o") (by decide)
      have S7 : StOk (vw K H7) st := (S5.same S6).but hxs nst B7
      have r47 := Rep.flat_but hxs B7 _ _ (fr_flat q) r46
      have r57 := Rep.flat_but hxs B7 _ _ (fr_flat q5) r56
      have ne6 : p6 ≠ a := fun e => by
        obtain ⟨_, z, _⟩ := l4.stBut (spt_flats cs) (spt_no cs) S4 B5
        rw [← e, hp6] at z
        cases z
      have h67 := B7 _ _ ne6 h6
      have l7 : FlAt (vw K H7) a ((cs ++ [(q, q5)]).map spt) := by
        refine ⟨_, h7, ?_⟩
        rw [List.map_append]
        exact (Reps.flat_but hxs B7 _ _ (spt_flats cs) rxs).snoc (.mk_spt h67 r47 r57)
      have B07 : But st (vw K H) (vw K H7) := fun b o hb e => B7 _ _ (ne_of_none e ha) (S6 _ _ (B5 _ _ hb (B4 _ _ hb e)))
      refine ⟨S7, fun w8 H8 q8 B8 S8 r8 f8 p8 b8 x8 => ⟨q, ?_⟩⟩
      obtain ⟨_, _, zst, _⟩ := id S7
      have r48 := Rep.flat_but zst B8 _ _ (fr_flat q) r47
      refine ⟨r48, q8, r8, by have := f4.1; walk_at "o", by have := f8.1; walk_at "o", b4.mono (by walk_at "o"), b8.mono (by decide), (b4.2.mul b8.2).mono (by walk_at "o"), fun v9 H9 S9 r9 => ?_⟩
      refine ⟨(B07.trans B8).same_trans S9, S8.same S9, addq q q8, cs ++ [(q, q5)], (l7.stBut (spt_flats _) (spt_no _) S7 B8).same S9, by simp [hl], r9, addq_Fq f4 f8, (addq_Bq f4 f8 b4 b8).mono (by walk_at "o"), (x4.add f4.ne f8.ne x8).mono (by walk_at "o"), ?_, ?_, ?_, ?_, ?_⟩
      · intro c hc
        rcases List.mem_append.mp hc with z | z
        · exact c6 c z
        · cases List.mem_singleton.mp z
          exact ⟨x4.mono (by walk_at "o"), x5⟩
      · intro c hc
        rcases List.mem_append.mp hc with z | z
        · exact c1 c z
        · cases List.mem_singleton.mp z
          exact ⟨f4, f5, p5⟩
      · intro c hc
        rcases List.mem_append.mp hc with z | z
        · exact c2 c z
        · cases List.mem_singleton.mp z
          exact ⟨b4.mono (by walk_at "o"), b5⟩
      · intro j c d e1 e2
        by_cases hj : j + 1 < cs.length
        · rw [List.getElem?_append_left (by walk_at "o")] at e1
          rw [List.getElem?_append_left hj] at e2
          exact c3 j c d e1 e2
        · have hj2 : j + 1 = cs.length := by
            have := (List.getElem?_eq_some_iff.mp e2).1
            simp at this
            walk_at "o"
          rw [List.getElem?_append_right (by walk_at "o"), hj2, Nat.sub_self] at e2
          cases e2
          rw [List.getElem?_append_left (by walk_at "o")] at e1
          refine c4 c ?_
          rw [List.getLast?_eq_getElem?, ← hj2]
          exact e1
      · intro c hc
        rw [List.getLast?_concat] at hc
        cases hc
        exact addq_lt f4 f8 p8
    · rintro σ H4 ⟨v, y, q, cs, rfl, B4, S4, l4, hl, r4, f4, b4, x4, c6, c1, c2, c3, c4⟩
      walk_at "vc"
      exact h a H4 cs B4 S4 l4 c1 c2 c6 c3 (by rw [hl, iots_len]; walk_at "o") ha
def sp__law_gathered (K : PySem.W.Frag) : Sp := fun vs H Q _ => ∃ (a : Addr) (ps : List Spt), vs = [.ref a] ∧ FlAt (vw K H) a (ps.map spt) ∧ ps.length ≤ 36 ∧ Fqs ps ∧ Bws 201 20 ps ∧ ∀ (b : Addr) H', Same (vw K H) (vw K H') → vw K H b = none → FlAt (vw K H') b ((gath ps).map spt) → Q (.ref b) H'
theorem ok__law_gathered (F : Fun K "_law_gathered" "_law_gathered" s__law_gathered f fd) (T : Txt K mg) (C__law_plus : Cal P w K mg base "_law_plus" ["_law_one", "_law_other"] 3 (sp__law_plus K)) (C__law_less : Cal P w K mg base "_law_less" ["_law_one", "_law_other"] 1 (sp__law_less K)) : FnOk P w K mg base CX0 4 f fd ["_law_pairs"] (sp__law_gathered K) := by
  have scN := sc__law_gathered.nd
  refine F.okQ sc__law_gathered (fun vs H Q E h => ?_) (fun cdv A outer s H vs Q E hr h => ?_)
  · obtain ⟨a, _, rfl, _⟩ := h
    rfl
  · obtain ⟨a, ps, rfl, ha, hl, hf, hb, h⟩ := h
    refine ⟨_, (qss_cons (qs_set (i := 1) scN rfl (by first | exact Or.inl rfl | exact Or.inr rfl) (qe_lstS qa_nil))
      (qss_cons (qs_for PassesOwn.never rfl (qi_list (qv 0)) (qg_tupH (n := 2) rfl (qgs_cons (qg_name (i := 2) scN rfl (by first | exact Or.inl rfl | exact Or.inr rfl)) (qgs_cons (qg_name (i := 3) scN rfl (by first | exact Or.inl rfl | exact Or.inr rfl)) qgs_nil))) (qss_cons (qs_set (i := 4) scN rfl (by first | exact Or.inl rfl | exact Or.inr rfl) (qe_callB call_lenH (by rfl) T.b_len bt_len (qa_cons (qe_comp (own := ["_law_one", "_law_more"]) (outs := ["_law_spot"]) (ixs := [2]) rfl (qi_list (qv 1)) rfl ⟨rfl, rfl, rfl, ⟨rfl, trivial⟩, rfl, ⟨⟨rfl, rfl, rfl, _, rfl⟩, trivial⟩⟩ (fun _ _ _ _ => ⟨(show QG _ _ (gTupH K 2 _) from qg_tupH (n := 2) rfl (qgs_cons (qg_name (i := 0) (show (["_law_one", "_law_more", "_law_spot"] : List Str).Nodup by decide +kernel) rfl (by first | exact Or.inl rfl | exact Or.inr rfl)) (qgs_cons (qg_name (i := 1) (show (["_law_one", "_law_more", "_law_spot"] : List Str).Nodup by decide +kernel) rfl (by first | exact Or.inl rfl | exact Or.inr rfl)) qgs_nil))), (qf_one (qt_val (qe_cal C__law_less (hr.mono (by first | decide | walk_at "o")) rfl (qa_cons (qv 0) (qa_cons (qv 2) qa_nil))))), (qv 0)⟩)) qa_nil)))
      (qss_one (qs_if (QW.pt (qw_and (qt_cmpR op_lt (qv 4) (qe_callB call_lenH (by rfl) T.b_len bt_len (qa_cons (qv 1) qa_nil)) (nomark _)) (qw_and1 (qt_cmpR (op_eqD hr.u64) (qe_ix ix_u (qe_ix ix_h (qv 1) (qv 4) (fun _ _ => rfl)) qe_int (fun _ _ => rfl)) (qv 2) (nomark _))))) (qss_one (qs_asg (qe_tupS (qa_cons (qv 2) (qa_cons (qe_cal C__law_plus (hr.mono (by first | decide | walk_at "o")) rfl (qa_cons (qe_ix ix_u (qe_ix ix_h (qv 1) (qv 4) (fun _ _ => rfl)) qe_int (fun _ _ => rfl)) (qa_cons (qv 3) qa_nil))) qa_nil))) (qg_sub (qv 1) (qv 4) set_listS))) (qss_one (qs_expr (qe_bm PySem.F.plainAttrs_list PySem.F.slot_list_insert PySem.F.type_list_insert mt_insertS (qv 1) (qa_cons (qv 4) (qa_cons (qe_tupS (qa_cons (qv 2) (qa_cons (qv 3) qa_nil))) qa_nil)))))))))
      (qss_one (qs_ret (qv 1))))), ?_⟩
    walk_at "m"
    obtain ⟨xs, hxs, rxs⟩ := id ha
    have lx : xs.length = ps.length := by rw [rxs.length, List.length_map]
    refine tSeq.gen fun N1 hN1 => ?_
    walk_at "vc"
    refine ⟨by decide, fun d H1 hd S1 h1 => hN1 _ _ ?_⟩
    refine tSeq.gen fun N2 hN2 => ?_
    walk_at "vc"
    obtain ⟨Pv, hPv⟩ : ∃ Pv : Nat → St → Hp → Prop, ∀ i σ H', Pv i σ H' ↔ ∃ o2 o3 o4, σ = [some (.ref a), some (.ref d), o2, o3, o4] ∧ Same (vw K H) (vw K H') ∧ FlAt (vw K H') d ((gath (ps.take i)).map spt) ∧ Bws 201 (20 + 21 * i) (gath (ps.take i)) := ⟨_, fun _ _ _ => Iff.rfl⟩
    refine ⟨⟨xs, .of (vw_lst (S1 _ _ hxs))⟩, for_items (its := xs) Pv (fun i σ H' _ p => ?_) ((hPv _ _ _).mpr ⟨_, _, _, rfl, S1, ⟨[], h1, .mk_nil⟩, fun c hc => by cases hc⟩) (fun i x σ H2 hi hx pv => ?_) (fun σ H2 pv => ?_)⟩
    · obtain ⟨_, _, _, _, S2, _⟩ := (hPv _ _ _).mp p
      exact items_list (S2 _ _ hxs)
    · obtain ⟨o2, o3, o4, rfl, S2, l2, bd⟩ := (hPv _ _ _).mp pv
      have hi' : i < ps.length := by walk_at "o"
      obtain ⟨d', hd', r'⟩ := rxs.get hx
      rw [List.getElem?_map, List.getElem?_eq_getElem hi'] at hd'
      cases hd'
      obtain ⟨p, u, v, rfl, hp, ru, rv⟩ := r'.spt_at
      obtain ⟨ua, rfl, hu⟩ := id ru.fr_at
      obtain ⟨va, rfl, hv⟩ := id rv.fr_at
      obtain ⟨gr, gf, _⟩ := gath_ok (fqs_take hf i)
      have pi : ps[i]? = some ps[i] := List.getElem?_eq_getElem hi'
      have fp := hf ps[i] (List.getElem_mem hi')
      have bp := hb ps[i] (List.getElem_mem hi')
      have bd2 := bws_gstep bd gf fp bp (by walk_at "o")
      walk_at "vc"
      have lg := len_gath (ps.take i)
      rw [List.length_take] at lg
      refine ⟨_, S2 _ _ hp, rfl, _, _, rfl, _, _, rfl, rfl, let ⟨_, e, _⟩ := l2; ⟨_, .of (vw_lst e)⟩, fun c H3 hc S3 h3 => comp_cnt (q := ps[i].1) (fun x y e H' Q' he S' rx hQ => ?_) l2 (by walk_at "o") hc S3 h3 fun H4 zs S4 h4 lz => ?_⟩
      · walk_at "vc"
        simp only [sp__law_less]
        exact ⟨_, _, e.1, ps[i].1, rfl, rx, Rep.same (S2.trans S') _ _ ru, (bd e he).1.mono (by decide), bp.1.mono (by decide), _, rfl, hQ⟩
      have S24 := S2.trans S4
      have ru4 := Rep.same S24 _ _ ru
      have rv4 := Rep.same S24 _ _ rv
      obtain ⟨ys, hys, rys⟩ := l2.same S4
      have ly : ys.length = (gath (ps.take i)).length := by rw [rys.length, List.length_map]
      have al := at_le (gath (ps.take i)) ps[i].1
      refine ⟨_, by rw [lenH, h4], _, by rw [lenH, hys], ?_⟩
      rw [lz, ly]
      have gt := gath_take pi
      rw [← gt] at bd2
      have fd2 := bd2.mono (show 20 + 21 * i + 20 + 1 ≤ 20 + 21 * (i + 1) by walk_at "o")
      generalize hk : atS (gath (ps.take i)) ps[i].1 = k at *
      generalize hfs : gath (ps.take i) = fs at *
      have hins : (¬ ∃ c, fs[k]? = some c ∧ c.1 = ps[i].1) → ∀ x1 x2 : Option V, tyV K "list" (V.ref d) H4 ∧ 2 ≤ sizeLine ∧ Nw K H4 (HO.tup [V.ref ua, V.ref va]) fun x H1 => rInsS K (V.ref d) [V.int (k : Int), x] H1 fun _ H1 => Pv (i + 1) [some (V.ref a), some (V.ref d), x1, x2, some (V.int (k : Int))] H1 := fun hn x1 x2 => by
        refine ⟨ty_lst hys, by decide, fun p5 H5 hp5 S5 h5 => ⟨d, k, .ref p5, rfl, rfl, ys, S5 _ _ hys, Nat.lt_of_lt_of_le (show ys.length < 40 by walk_at "o") (by decide), by walk_at "o", by rw [Int.toNat_natCast]; walk_at "o", fun H6 B6 h6 => (hPv _ _ _).mpr ⟨_, _, _, rfl, fun b o e => B6 _ _ (ne_of_none e hd) (S5 _ _ (S24 _ _ e)), ?_, fd2⟩⟩⟩
        rw [Int.toNat_natCast] at h6
        refine ⟨_, h6, ?_⟩
        rw [gt]
        unfold gstep
        rw [hk, if_neg hn, List.map_append, List.map_cons, List.map_take, List.map_drop]
        have r6 := Reps.flat_but (S5 _ _ hys) B6 _ _ (spt_flats _) (rys.same S5)
        refine Reps.app (r6.take k) (.mk_cons (.mk_spt (B6 _ _ (fun z => by rw [z, hys] at hp5; cases hp5) h5) (Rep.flat_but (S5 _ _ hys) B6 _ _ (fr_flat _) (Rep.same S5 _ _ ru4)) (Rep.flat_but (S5 _ _ hys) B6 _ _ (fr_flat _) (Rep.same S5 _ _ rv4))) (r6.drop k))
      by_cases hlt : k < fs.length
      · have ek := List.getElem?_eq_getElem hlt
        obtain ⟨x, ex, rx⟩ := rys.at (i := k) (d := spt fs[k]) (by rw [List.getElem?_map, ek]; rfl)
        obtain ⟨pk, uk, vk, rfl, hpk, ruk, rvk⟩ := rx.spt_at
        refine iteP (by walk_at "o") ⟨ys, hys, _, atI_nat ex, pk, rfl, _, hpk, _, atI_0, _, ruk, _, ru4, cmp_fr _, cmp_fr _, ?_⟩
        rw [peq_fr]
        by_cases hq : fs[k].1 = ps[i].1
        · refine iteP (by rw [decide_eq_true hq]) ⟨ys, hys, _, atI_nat ex, pk, rfl, _, hpk, _, atI_1, ?_⟩
          simp only [sp__law_plus]
          have hcm := List.getElem_mem hlt
          refine ⟨_, _, fs[k].2, ps[i].2, rfl, rvk, rv4, (gf _ hcm).2.ne, fp.2.ne, (bd _ hcm).2.mono (by walk_at "o"), bp.2.mono (by decide), ((bd _ hcm).2.2.mul bp.2.2).mono (by walk_at "o"), fun v5 H5 S5 r5 => ⟨by decide, fun p6 H6 hp6 S6 h6 => ?_⟩⟩
          have h56 := (S5.trans S6) _ _ hys
          refine ⟨ys, h56, k, ixN_nat (by walk_at "o"), fun H7 B7 h7 => (hPv _ _ _).mpr ⟨_, _, _, rfl, fun b o e => B7 _ _ (ne_of_none e hd) ((S5.trans S6) _ _ (S24 _ _ e)), ⟨_, h7, ?_⟩, fd2⟩⟩
          rw [gt]
          unfold gstep
          rw [hk, if_pos ⟨_, ek, hq⟩, map_set gr ek hq, List.map_set]
          refine Reps.set k (Reps.flat_but h56 B7 _ _ (spt_flats _) (rys.same (S5.trans S6))) (.mk_spt (B7 _ _ (fun z => by rw [z] at hp6; rw [S5 _ _ hys] at hp6; cases hp6) h6) (Rep.flat_but h56 B7 _ _ (fr_flat _) (Rep.same (S5.trans S6) _ _ ru4)) (Rep.flat_but h56 B7 _ _ (fr_flat _) (Rep.same S6 _ _ r5)))
        · refine iteN (by rw [decide_eq_false hq]; exact Bool.false_ne_true) (hins (fun ⟨c, e, ec⟩ => ?_) _ _)
          rw [ek] at e
          cases e
          exact hq ec
      · refine iteN (by walk_at "o") (hins (fun ⟨c, e, _⟩ => ?_) _ _)
        rw [List.getElem?_eq_none (by walk_at "o")] at e
        cases e
    · obtain ⟨o2, o3, o4, rfl, S2, l2, bd⟩ := (hPv _ _ _).mp pv
      rw [lx, List.take_length] at l2
      refine hN2 _ _ ?_
      walk_at "vc"
      exact h d H2 S2 hd l2
def opW (wy : Int) : Spt → Spt → Spt := if wy = 0 then opA else opM
def sp__law_each (K : PySem.W.Frag) : Sp := fun vs H Q _ => ∃ (a b : Addr) (wy : Int) (as bs : List Spt), vs = [.ref a, .ref b, .int wy] ∧ (wy = 0 ∨ wy = 1) ∧ FlAt (vw K H) a (as.map spt) ∧ FlAt (vw K H) b (bs.map spt) ∧ as.length ≤ 6 ∧ bs.length ≤ 6 ∧ Fqs as ∧ Bws 100 10 as ∧ Fqs bs ∧ Bws 100 10 bs ∧ ∀ (c : Addr) H', Same (vw K H) (vw K H') → vw K H c = none → FlAt (vw K H') c ((gath (eachS (opW wy) as bs)).map spt) → Q (.ref c) H'
theorem all_each {as bs : List Spt} {wy : Int} (hf : Fqs as) (hb : Bws 100 10 as) (hg : Fqs bs) (hc : Bws 100 10 bs) : ∀ c ∈ eachS (opW wy) as bs, (Fq c.1 ∧ Fq c.2) ∧ Bq 201 c.1 ∧ Bq 20 c.2 := by
  unfold opW
  split
  · exact all_added hf hb hg hc
  · exact all_multiplied hf hb hg hc
theorem ok__law_each (F : Fun K "_law_each" "_law_each" s__law_each f fd) (T : Txt K mg) (C__law_plus : Cal P w K mg base "_law_plus" ["_law_one", "_law_other"] 3 (sp__law_plus K)) (C__law_times : Cal P w K mg base "_law_times" ["_law_one", "_law_other"] 3 (sp__law_times K)) (C__law_gathered : Cal P w K mg base "_law_gathered" ["_law_pairs"] 4 (sp__law_gathered K)) : FnOk P w K mg base CX0 5 f fd ["_law_one", "_law_other", "_law_way"] (sp__law_each K) := by
  have scN := sc__law_each.nd
  refine F.okQ sc__law_each (fun vs H Q E h => ?_) (fun cdv A outer s H vs Q E hr h => ?_)
  · obtain ⟨a, _, _, _, _, rfl, _⟩ := h
    rfl
  · obtain ⟨a, b, wy, as, bs, rfl, hw, ha, hb, la, lb, fa, ba, fb, bb, h⟩ := h
    refine ⟨_, (qss_cons (qs_set (i := 3) scN rfl (by first | exact Or.inl rfl | exact Or.inr rfl) (qe_lstS qa_nil))
      (qss_cons (qs_for PassesOwn.never rfl (qi_list (qv 0)) (qg_tupH (n := 2) rfl (qgs_cons (qg_name (i := 4) scN rfl (by first | exact Or.inl rfl | exact Or.inr rfl)) (qgs_cons (qg_name (i := 5) scN rfl (by first | exact Or.inl rfl | exact Or.inr rfl)) qgs_nil))) (qss_one (qs_for PassesOwn.never rfl (qi_list (qv 1)) (qg_tupH (n := 2) rfl (qgs_cons (qg_name (i := 6) scN rfl (by first | exact Or.inl rfl | exact Or.inr rfl)) (qgs_cons (qg_name (i := 7) scN rfl (by first | exact Or.inl rfl | exact Or.inr rfl)) qgs_nil))) (qss_one (qs_expr (qe_bm PySem.F.plainAttrs_list PySem.F.slot_list_append PySem.F.type_list_append mt_appendS (qv 3) (qa_cons (qe_tupS (qa_cons (qe_pick C__law_plus C__law_times (hr.mono (by first | decide | walk_at "o")) rfl rfl (qv 2) (fun _ _ => rfl) (qa_cons (qv 4) (qa_cons (qv 6) qa_nil))) (qa_cons (qe_cal C__law_times (hr.mono (by first | decide | walk_at "o")) rfl (qa_cons (qv 5) (qa_cons (qv 7) qa_nil))) qa_nil))) qa_nil)))))))
      (qss_one (qs_ret (qe_cal C__law_gathered (hr.mono (by first | decide | walk_at "o")) rfl (qa_cons (qv 3) qa_nil)))))), ?_⟩
    walk_at "m"
    obtain ⟨xs, hxs, rxs⟩ := id ha
    obtain ⟨ys, hys, rys⟩ := id hb
    have lx : xs.length = as.length := by rw [rxs.length, List.length_map]
    have ly : ys.length = bs.length := by rw [rys.length, List.length_map]
    refine tSeq.gen fun N1 hN1 => ?_
    walk_at "vc"
    refine ⟨by decide, fun d H1 hd S1 h1 => hN1 _ _ ?_⟩
    refine tSeq.gen fun N2 hN2 => ?_
    walk_at "vc"
    obtain ⟨Pv, hPv⟩ : ∃ Pv : Nat → St → Hp → Prop, ∀ i σ H', Pv i σ H' ↔ ∃ o4 o5 o6 o7 zs, σ = [some (.ref a), some (.ref b), some (.int wy), some (.ref d), o4, o5, o6, o7] ∧ Same (vw K H) (vw K H') ∧ vw K H' d = some (.lst zs) ∧ zs.length = i * bs.length ∧ Reps (vw K H') ((eachS (opW wy) (as.take i) bs).map spt) zs := ⟨_, fun _ _ _ => Iff.rfl⟩
    refine ⟨⟨xs, .of (vw_lst (S1 _ _ hxs))⟩, for_items (its := xs) Pv (fun i σ H' _ p => ?_) ((hPv _ _ _).mpr ⟨_, _, _, _, [], rfl, S1, h1, by simp, .mk_nil⟩) (fun i x σ H2 hi hx pv => ?_) (fun σ H2 pv => ?_)⟩
    · obtain ⟨_, _, _, _, _, _, S2, _⟩ := (hPv _ _ _).mp p
      exact items_list (S2 _ _ hxs)
    · obtain ⟨o4, o5, o6, o7, zs, rfl, S2, h2, lz, rz⟩ := (hPv _ _ _).mp pv
      have hi' : i < as.length := by walk_at "o"
      obtain ⟨d', hd', r'⟩ := rxs.get hx
      rw [List.getElem?_map, List.getElem?_eq_getElem hi'] at hd'
      cases hd'
      obtain ⟨p, u, v, rfl, hp, ru, rv⟩ := r'.spt_at
      walk_at "vc"
      refine ⟨_, S2 _ _ hp, rfl, _, _, rfl, _, _, rfl, rfl, ⟨ys, .of (vw_lst (S2 _ _ hys))⟩, ?_⟩
      obtain ⟨Pw, hPw⟩ : ∃ Pw : Nat → St → Hp → Prop, ∀ j σ H', Pw j σ H' ↔ ∃ o6 o7 zs, σ = [some (.ref a), some (.ref b), some (.int wy), some (.ref d), some u, some v, o6, o7] ∧ Same (vw K H) (vw K H') ∧ vw K H' d = some (.lst zs) ∧ zs.length = i * bs.length + j ∧ Reps (vw K H') ((eachS (opW wy) (as.take i) bs ++ (bs.take j).map (opW wy as[i])).map spt) zs := ⟨_, fun _ _ _ => Iff.rfl⟩
      refine for_items (its := ys) Pw (fun j σ H' _ p => ?_) ((hPw _ _ _).mpr ⟨_, _, zs, rfl, S2, h2, lz, by simpa using rz⟩) (fun j y σ H3 hj hy pw => ?_) (fun σ H3 pw => ?_)
      · obtain ⟨_, _, _, _, S3, _⟩ := (hPw _ _ _).mp p
        exact items_list (S3 _ _ hys)
      · obtain ⟨o6, o7, zs, rfl, S3, h3, lz3, rz3⟩ := (hPw _ _ _).mp pw
        have hj' : j < bs.length := by walk_at "o"
        obtain ⟨d', hd', r'⟩ := rys.get hy
        rw [List.getElem?_map, List.getElem?_eq_getElem hj'] at hd'
        cases hd'
        obtain ⟨p', u', v', rfl, hp', ru', rv'⟩ := r'.spt_at
        walk_at "vc"
        refine ⟨_, S3 _ _ hp', rfl, _, _, rfl, _, _, rfl, rfl, ty_lst h3, ?_⟩
        have hca := List.getElem_mem hi'
        have hdb := List.getElem_mem hj'
        have rest : ∀ (x : V) H4, Same (vw K H3) (vw K H4) → Rep (vw K H4) (fr (opW wy as[i] bs[j]).1) x → sp__law_times K [v, v'] H4 (fun x_1 H1 => 2 ≤ sizeLine ∧ Nw K H1 (HO.tup [x, x_1]) fun x H1 => ∃ xs, vw K H1 d = some (HO.lst xs) ∧ xs.length < sizeLine ∧ Chg K H1 d (HO.lst (xs ++ [x])) fun H1 =>
            Pw (j + 1) [some (V.ref a), some (V.ref b), some (V.int wy), some (V.ref d), some u, some v, some u', some v'] H1) E0 := fun x H4 S4 rx => by
          simp only [sp__law_times]
          have S04 := S3.trans S4
          refine ⟨_, _, as[i].2, bs[j].2, rfl, Rep.same S04 _ _ rv, Rep.same S04 _ _ rv', (fa _ hca).2.ne, (fb _ hdb).2.ne, (ba _ hca).2.mono (by decide), (bb _ hdb).2.mono (by decide), ((ba _ hca).2.2.mul (bb _ hdb).2.2).mono (by decide), fun v5 H5 S5 r5 => ⟨by decide, fun p6 H6 hp6 S6 h6 => ?_⟩⟩
          have h36 := (S4.trans (S5.trans S6)) _ _ h3
          refine ⟨zs, h36, ?_, fun H7 B7 h7 => (hPw _ _ _).mpr ⟨_, _, _, rfl, fun b o e => B7 _ _ (ne_of_none e hd) ((S4.trans (S5.trans S6)) _ _ (S3 _ _ e)), h7, by rw [List.length_append, lz3]; rfl, ?_⟩⟩
          · have := Nat.mul_le_mul (Nat.le_of_lt hi') (Nat.le_refl bs.length)
            have := Nat.mul_le_mul la lb
            rw [lz3]
            exact Nat.lt_of_lt_of_le (show i * bs.length + j < 50 by walk_at "o") (by decide)
          · rw [List.take_add_one, List.getElem?_eq_getElem hj', List.map_append (f := opW wy as[i]), ← List.append_assoc, List.map_append (f := spt)]
            refine (Reps.flat_but h36 B7 _ _ (spt_flats _) (rz3.same (S4.trans (S5.trans S6)))).snoc (.mk_spt (B7 _ _ (fun z => by rw [z, (S4.trans S5) _ _ h3] at hp6; cases hp6) h6) (Rep.flat_but h36 B7 _ _ (fr_flat _) (Rep.same (S5.trans S6) _ _ rx)) ?_)
            rw [show (opW wy as[i] bs[j]).2 = mulq as[i].2 bs[j].2 by unfold opW; split <;> rfl]
            exact Rep.flat_but h36 B7 _ _ (fr_flat _) (Rep.same S6 _ _ r5)
        simp only [tPick]
        intro f1 f2 p8 H8 hp8 S8 h8
        walk_at "vc"
        rcases hw with rfl | rfl
        · refine ⟨p8, 0, rfl, rfl, _, h8, _, atI_0, .inl ⟨rfl, ?_⟩⟩
          simp only [sp__law_plus]
          exact ⟨_, _, as[i].1, bs[j].1, rfl, Rep.same (S3.trans S8) _ _ ru, Rep.same (S3.trans S8) _ _ ru', (fa _ hca).1.ne, (fb _ hdb).1.ne, (ba _ hca).1.mono (by decide), (bb _ hdb).1.mono (by decide), ((ba _ hca).1.2.mul (bb _ hdb).1.2).mono (by decide), fun v9 H9 S9 r9 => rest v9 H9 (S8.trans S9) r9⟩
        · refine ⟨p8, 1, rfl, rfl, _, h8, _, atI_1, .inr ⟨rfl, ?_⟩⟩
          have rest' := rest
          simp only [sp__law_times]
          simp only [sp__law_times] at rest'
          exact ⟨_, _, as[i].1, bs[j].1, rfl, Rep.same (S3.trans S8) _ _ ru, Rep.same (S3.trans S8) _ _ ru', (fa _ hca).1.ne, (fb _ hdb).1.ne, (ba _ hca).1.mono (by decide), (bb _ hdb).1.mono (by decide), ((ba _ hca).1.2.mul (bb _ hdb).1.2).mono (by decide), fun v9 H9 S9 r9 => rest' v9 H9 (S8.trans S9) r9⟩
      · obtain ⟨o6, o7, zs, rfl, S3, h3, lz3, rz3⟩ := (hPw _ _ _).mp pw
        rw [ly] at lz3
        rw [ly, List.take_length] at rz3
        refine (hPv _ _ _).mpr ⟨_, _, _, _, zs, rfl, S3, h3, by rw [lz3, Nat.add_mul]; walk_at "o", ?_⟩
        rw [each_take (List.getElem?_eq_getElem hi')]
        exact rz3
    · obtain ⟨o4, o5, o6, o7, zs, rfl, S2, h2, lz, rz⟩ := (hPv _ _ _).mp pv
      rw [lx, List.take_length] at rz
      refine hN2 _ _ ?_
      walk_at "vc"
      simp only [sp__law_gathered]
      obtain ⟨f2, b2⟩ := fqs_of (all_each (wy := wy) fa ba fb bb)
      refine ⟨d, _, rfl, ⟨zs, h2, rz⟩, ?_, f2, b2, fun c H3 S3 hb3 l3 => h c H3 (S2.trans S3) (S2.none hb3) l3⟩
      rw [each_len]
      exact Nat.mul_le_mul la lb
def sp__law_right (K : PySem.W.Frag) : LSp := fun c' qual tl σl vs H Q => ∃ (d h s : Addr) (qs ss ts : List Spt), vs = [.ref d, .ref h, .ref s] ∧ FlAt (vw K H) d (qs.map spt) ∧ Rep (vw K H) (.lst [.lst (ss.map spt), .lst (ts.map spt)]) (.ref h) ∧ Rep (vw K H) (.lst [.lst (ss.map spt), .lst (ts.map spt)]) (.ref s) ∧ qs.length ≤ 100 ∧
  (∀ H' Q', Same (vw K H) (vw K H') → (∀ (c : Addr) H'', Same (vw K H') (vw K H'') → vw K H' c = none → FlAt (vw K H'') c (qs.map spt) → Q' (.ref c) H'') → tl σl H' Q') ∧ ∀ H', Same (vw K H) (vw K H') → Q (.bl true) H'
theorem ok__law_right (F : Fun K "_law_right" "_law_right" s__law_right f fd) (T : Txt K mg) {A : Around} {outer : List Env} {s : Shared} {H : Hp} {p c' : Addr} {qual : Str} {tl : TE} {σl : St} {us : List Value} {vs : List V} {Q : VK} (hb : Binds K fd ["_law_call", "_law_due", "_law_handed", "_law_kept"] [])
    (C__law_same : Cal P w K mg base "_law_same" ["_law_found", "_law_due"] 6 (sp__law_same 5 K)) (hr0 : Room (7 + 1) A) (e0 : Env0 P w K mg base A outer s H) (L_ : LamV P w K mg base 7 p c' qual tl σl s H outer) (hc' : vw K H c' = some (CodeO c' qual)) (r : Vals vs us) (h : sp__law_right K c' qual tl σl vs H Q) :
    codeAny (model P w) A (.call (.ref f) ⟨.ref p :: us, []⟩) (CR CX0 outer P w H s Q E0) s := by
  have scN := sc__law_right.nd
  obtain ⟨d, hd, sm, qs, ss, ts, rfl, l1, l2, l3, lq, ht, h⟩ := h
  refine F.runQ sc__law_right hr0 e0 hb (vs := [.ref p, .ref d, .ref hd, .ref sm]) (.cons rfl r) rfl fun cdv hr => ?_
  have hrL := hr
  refine ⟨_, (qss_cons (qs_set (i := 4) scN rfl (by first | exact Or.inl rfl | exact Or.inr rfl) (qe_lamV (i := 0) rfl L_ hrL rfl (by first | exact Or.inl rfl | exact Or.inr rfl)))
      (qss_cons (qs_if (QW.pt (qw_or (qt_not (qt_val (qe_cal C__law_same (hr.mono (by first | decide | walk_at "o")) rfl (qa_cons (qv 4) (qa_cons (qv 1) qa_nil))))) (qw_or1 (qt_cmpR (op_neD hr.u64) (qv 2) (qv 3) (nomark _))))) (qss_one (qs_ret qe_bl)) qss_nil)
      (qss_cons (qs_expr (qe_bm PySem.F.plainAttrs_list PySem.F.slot_list_append PySem.F.type_list_append mt_appendS (qv 4) (qa_cons (qe_tupS (qa_cons (qe_tupS (qa_cons qe_int (qa_cons qe_int qa_nil))) (qa_cons (qe_tupS (qa_cons qe_int (qa_cons qe_int qa_nil))) qa_nil))) qa_nil)))
      (qss_one (qs_ret (qe_and (qe_cmpR (op_eqD hr.u64) (qv 2) (qv 3) (nomark _)) (qe_one (qe_cal C__law_same (hr.mono (by first | decide | walk_at "o")) rfl (qa_cons (qe_lamV (i := 0) rfl L_ hrL rfl (by first | exact Or.inl rfl | exact Or.inr rfl)) (qa_cons (qv 1) qa_nil)))))))))), ?_⟩
  walk_at "m"
  refine tSeq.gen fun N1 hN1 => ?_
  walk_at "vc"
  simp only [tLamV]
  walk_at "vc"
  refine ⟨hc', ht _ _ .rfl fun c H1 S1 hc lc => hN1 _ _ ?_⟩
  refine tSeq.gen fun N2 hN2 => ?_
  walk_at "vc"
  simp only [sp__law_same]
  refine ⟨_, _, _, rfl, lc.rep, (l1.same S1).rep, sm_spts (n := 1) (by walk_at "o"), fun H2 S2 => ?_⟩
  have S12 := S1.trans S2
  walk_at "vc"
  refine ⟨_, Rep.same S12 _ _ l2, _, Rep.same S12 _ _ l3, cmp_spts2 ss ts, cmp_spts2 ss ts, iteN (by rw [peq_self (cmp_spts2 ss ts)]; decide) (hN2 _ _ ?_)⟩
  obtain ⟨tx, htx, rtx⟩ := lc.same S2
  refine tSeq.gen fun N3 hN3 => ?_
  walk_at "vc"
  refine ⟨ty_lst htx, by decide, fun p3 H3 hp3 S3 h3 => ⟨by decide, fun p4 H4 hp4 S4 h4 => ⟨by decide, fun p5 H5 hp5 S5 h5 => ⟨tx, (S3.trans (S4.trans S5)) _ _ htx, ?_, fun H6 B6 h6 => hN3 _ _ ?_⟩⟩⟩⟩
  · rw [rtx.length, List.length_map]
    exact Nat.lt_of_le_of_lt lq (Nat.lt_of_lt_of_le (show 100 < 1000 by decide) (by decide))
  have S04 : Same (vw K H) (vw K H6) := fun b o e => B6 _ _ (ne_of_none e hc) ((S3.trans (S4.trans S5)) _ _ (S12 _ _ e))
  walk_at "vc"
  refine ⟨_, Rep.same S04 _ _ l2, _, Rep.same S04 _ _ l3, cmp_spts2 ss ts, cmp_spts2 ss ts, iteP (by rw [peq_self (cmp_spts2 ss ts)]) ?_⟩
  simp only [tLamV]
  walk_at "vc"
  refine ⟨S04 _ _ hc', ht _ _ S04 fun c5 H7 S7 hc7 lc7 => ?_⟩
  simp only [sp__law_same]
  exact ⟨_, _, _, rfl, lc7.rep, (l1.same (S04.trans S7)).rep, sm_spts (n := 1) (by walk_at "o"), fun H8 S8 => h H8 (S04.trans (S7.trans S8))⟩
theorem tab_stBut {G G' : Hp} {Pt st : Addr} {qual : Str} (h : TabOk G Pt qual) (hst : StOk G st) (B : But st G G') : TabOk G' Pt qual := by
  obtain ⟨x, b, e, z⟩ := hst
  exact h.butL e B
def spLaw (K : PySem.W.Frag) : Sp := fun vs H Q _ => ∃ (a : Addr) (ns : List Int), vs = [.ref a] ∧ ScrOk K H a (ns.map V.int) ∧ ns.length ≤ 63 ∧ TabOk (vw K H) 212 (lamN "law") ∧ ∀ H', Q (.bl true) H'
theorem ok_law {c : Addr} (F : Fun K "law" "law" s_law f fd) (T : Txt K mg) (M_ : MkF K mg base fd c 212) (W_ : WithLam P w K mg base "_law_right" 7 (sp__law_right K))
    (C__law_state : Cal P w K mg base "_law_state" ["_law_script", "_law_k"] 2 (sp__law_state K)) (C__law_crowd : Cal P w K mg base "_law_crowd" ["_law_state_here", "_law_most"] 4 (sp__law_crowd K)) (C__law_small : Cal P w K mg base "_law_small" ["_law_state_here"] 3 (sp__law_small K)) (C__law_above : Cal P w K mg base "_law_above" ["_law_state_here"] 3 (sp__law_above K)) (C__law_take : Cal P w K mg base "_law_take" ["_law_state_here", "_law_many"] 1 (sp__law_take K)) (C__law_gathered : Cal P w K mg base "_law_gathered" ["_law_pairs"] 4 (sp__law_gathered K)) (C__law_each : Cal P w K mg base "_law_each" ["_law_one", "_law_other", "_law_way"] 5 (sp__law_each K)) (C__law_times : Cal P w K mg base "_law_times" ["_law_one", "_law_other"] 3 (sp__law_times K)) (C__law_plus : Cal P w K mg base "_law_plus" ["_law_one", "_law_other"] 3 (sp__law_plus K))
    (C_crowd_moved : Cal P w K mg base "crowd_moved" ["crowd", "by"] 5 (sp_crowd_moved K)) (C_crowd_grown : Cal P w K mg base "crowd_grown" ["crowd", "by"] 5 (sp_crowd_grown K)) (C_crowd_weighted : Cal P w K mg base "crowd_weighted" ["crowd", "by"] 4 (sp_crowd_weighted K)) (C_crowd_poured : Cal P w K mg base "crowd_poured" ["one", "other"] 5 (sp_crowd_poured K)) (C_crowd_added : Cal P w K mg base "crowd_added" ["one", "other"] 5 (sp_crowd_added K)) (C_crowd_multiplied : Cal P w K mg base "crowd_multiplied" ["one", "other"] 5 (sp_crowd_multiplied K)) : FnOk P w K mg base CX0 9 f fd ["_law_script"] (spLaw K) := by
  have scN := sc_law.nd
  refine F.okM sc_law (fun vs H Q E h => ?_) (fun cdv A outer s H vs Q E hcode hr h => ?_)
  · obtain ⟨a, _, rfl, _⟩ := h
    rfl
  · obtain ⟨a, ns, rfl, hS, hl, hT1, h⟩ := h
    refine ⟨_, (qss_cut (qs_for PassesOwn.never rfl (qi_range1 rfl T.b_range (qa_cons (qe_callB (call_max2 rfl) (by rfl) T.b_max bt_max (qa_cons qe_int (qa_cons (qe_callB (call_min2 rfl) (by rfl) T.b_min bt_min (qa_cons (qe_callB call_len_seq (by rfl) T.b_len bt_len (qa_cons (qv 0) qa_nil)) (qa_cons qe_int qa_nil))) qa_nil))) qa_nil)) (qg_name (i := 1) scN rfl (by first | exact Or.inl rfl | exact Or.inr rfl)) (qss_cons (qs_set (i := 2) scN rfl (by first | exact Or.inl rfl | exact Or.inr rfl) (qe_cal C__law_state (hr.mono (by first | decide | walk_at "o")) rfl (qa_cons (qv 0) (qa_cons (qv 1) qa_nil))))
      (qss_cons (qs_par (i := 3) (j := 4) rfl scN rfl rfl (by decide) rfl rfl (qa_cons (qe_cal C__law_crowd (hr.mono (by first | decide | walk_at "o")) rfl (qa_cons (qv 2) (qa_cons qe_int qa_nil))) (qa_cons (qe_cal C__law_crowd (hr.mono (by first | decide | walk_at "o")) rfl (qa_cons (qv 2) (qa_cons qe_int qa_nil))) qa_nil)) rfl)
      (qss_cons (qs_if (qt_cmpR op_eq (qe_cal C__law_take (hr.mono (by first | decide | walk_at "o")) rfl (qa_cons (qv 2) (qa_cons qe_int qa_nil))) qe_int (nomark _)) (qss_one (qs_setC (i := 4) (own := ["_law_spot", "_law_weight"]) (outs := ["_law_state_here"]) (ixs := [2]) scN rfl (by first | exact Or.inl rfl | exact Or.inr rfl) rfl (qi_list (qe_slice sl_listS (qv 3) (qo_some qe_int) qo_none)) rfl ⟨rfl, rfl, rfl, ⟨rfl, trivial⟩, rfl, ⟨⟨rfl, rfl, rfl, _, rfl⟩, trivial⟩⟩ (fun _ _ _ _ => ⟨(show QG _ _ (gTupH K 2 _) from qg_tupH (n := 2) rfl (qgs_cons (qg_name (i := 0) (show (["_law_spot", "_law_weight", "_law_state_here"] : List Str).Nodup by decide +kernel) rfl (by first | exact Or.inl rfl | exact Or.inr rfl)) (qgs_cons (qg_name (i := 1) (show (["_law_spot", "_law_weight", "_law_state_here"] : List Str).Nodup by decide +kernel) rfl (by first | exact Or.inl rfl | exact Or.inr rfl)) qgs_nil))), qf_nil, (show QE _ _ (tTupS K _) from qe_tupS (qa_cons (qv 0) (qa_cons (qe_cal C__law_above (hr.mono (by first | decide | walk_at "o")) rfl (qa_cons (qv 2) qa_nil)) qa_nil)))⟩))) qss_nil)
      (qss_cons (qs_set (i := 5) scN rfl (by first | exact Or.inl rfl | exact Or.inr rfl) (qe_ix ix_h (qe_lstS (qa_cons (qe_cal C__law_small (hr.mono (by first | decide | walk_at "o")) rfl (qa_cons (qv 2) qa_nil)) (qa_cons (qe_tupS (qa_cons qe_int (qa_cons qe_int qa_nil))) qa_nil))) (qe_callTy call_int1 (by rfl) T.b_int bt_int (qa_cons (qe_cmpR op_eq (qe_cal C__law_take (hr.mono (by first | decide | walk_at "o")) rfl (qa_cons (qv 2) (qa_cons qe_int qa_nil))) qe_int (nomark _)) qa_nil)) (fun _ _ => rfl)))
      (qss_cons (qs_set (i := 6) scN rfl (by first | exact Or.inl rfl | exact Or.inr rfl) (qe_cal C__law_above (hr.mono (by first | decide | walk_at "o")) rfl (qa_cons (qv 2) qa_nil)))
      (qss_cons (qs_set (i := 7) scN rfl (by first | exact Or.inl rfl | exact Or.inr rfl) (qe_lstS (qa_cons (qe_callTy call_listS (by rfl) T.b_list bt_list (qa_cons (qv 3) qa_nil)) (qa_cons (qe_callTy call_listS (by rfl) T.b_list bt_list (qa_cons (qv 4) qa_nil)) qa_nil))))
      (qss_cons (qs_set (i := 8) scN rfl (by first | exact Or.inl rfl | exact Or.inr rfl) (qe_lstS (qa_cons (qe_callTy call_listS (by rfl) T.b_list bt_list (qa_cons (qv 3) qa_nil)) (qa_cons (qe_callTy call_listS (by rfl) T.b_list bt_list (qa_cons (qv 4) qa_nil)) qa_nil))))
      (qss_cons (qs_set (i := 9) scN rfl (by first | exact Or.inl rfl | exact Or.inr rfl) (qe_lstS (qa_cons (qe_tupS (qa_cons (qe_lam (maker_of hcode M_) rfl (free_of (sc := defScope s_law) rfl (by decide +kernel))) (qa_cons (qe_comp (own := ["_law_spot", "_law_weight"]) (outs := ["_law_by"]) (ixs := [5]) rfl (qi_list (qv 3)) rfl ⟨rfl, rfl, rfl, ⟨rfl, trivial⟩, rfl, ⟨⟨rfl, rfl, rfl, _, rfl⟩, trivial⟩⟩ (fun _ _ _ _ => ⟨(show QG _ _ (gTupH K 2 _) from qg_tupH (n := 2) rfl (qgs_cons (qg_name (i := 0) (show (["_law_spot", "_law_weight", "_law_by"] : List Str).Nodup by decide +kernel) rfl (by first | exact Or.inl rfl | exact Or.inr rfl)) (qgs_cons (qg_name (i := 1) (show (["_law_spot", "_law_weight", "_law_by"] : List Str).Nodup by decide +kernel) rfl (by first | exact Or.inl rfl | exact Or.inr rfl)) qgs_nil))), qf_nil, (show QE _ _ (tTupS K _) from qe_tupS (qa_cons (qe_cal C__law_plus (hr.mono (by first | decide | walk_at "o")) rfl (qa_cons (qv 0) (qa_cons (qv 2) qa_nil))) (qa_cons (qv 1) qa_nil)))⟩)) qa_nil))) qa_nil)))
      (qss_cons (qs_set (i := 10) scN rfl (by first | exact Or.inl rfl | exact Or.inr rfl) (qe_cal C__law_gathered (hr.mono (by first | decide | walk_at "o")) rfl (qa_cons (qe_comp (own := ["_law_spot", "_law_weight"]) (outs := ["_law_by"]) (ixs := [5]) rfl (qi_list (qv 3)) rfl ⟨rfl, rfl, rfl, ⟨rfl, trivial⟩, rfl, ⟨⟨rfl, rfl, rfl, _, rfl⟩, trivial⟩⟩ (fun _ _ _ _ => ⟨(show QG _ _ (gTupH K 2 _) from qg_tupH (n := 2) rfl (qgs_cons (qg_name (i := 0) (show (["_law_spot", "_law_weight", "_law_by"] : List Str).Nodup by decide +kernel) rfl (by first | exact Or.inl rfl | exact Or.inr rfl)) (qgs_cons (qg_name (i := 1) (show (["_law_spot", "_law_weight", "_law_by"] : List Str).Nodup by decide +kernel) rfl (by first | exact Or.inl rfl | exact Or.inr rfl)) qgs_nil))), qf_nil, (show QE _ _ (tTupS K _) from qe_tupS (qa_cons (qe_cal C__law_times (hr.mono (by first | decide | walk_at "o")) rfl (qa_cons (qv 0) (qa_cons (qv 2) qa_nil))) (qa_cons (qv 1) qa_nil)))⟩)) qa_nil)))
      (qss_cons (qs_expr (qe_bm PySem.F.plainAttrs_list PySem.F.slot_list_append PySem.F.type_list_append mt_appendS (qv 9) (qa_cons (qe_tupS (qa_cons (qe_lam (maker_of hcode M_) rfl (free_of (sc := defScope s_law) rfl (by decide +kernel))) (qa_cons (qv 10) qa_nil))) qa_nil)))
      (qss_cons (qs_setC (i := 10) (own := ["_law_spot", "_law_weight"]) (outs := ["_law_times_so"]) (ixs := [6]) scN rfl (by first | exact Or.inl rfl | exact Or.inr rfl) rfl (qi_list (qv 3)) rfl ⟨rfl, rfl, rfl, ⟨rfl, trivial⟩, rfl, ⟨⟨rfl, rfl, rfl, _, rfl⟩, trivial⟩⟩ (fun _ _ _ _ => ⟨(show QG _ _ (gTupH K 2 _) from qg_tupH (n := 2) rfl (qgs_cons (qg_name (i := 0) (show (["_law_spot", "_law_weight", "_law_times_so"] : List Str).Nodup by decide +kernel) rfl (by first | exact Or.inl rfl | exact Or.inr rfl)) (qgs_cons (qg_name (i := 1) (show (["_law_spot", "_law_weight", "_law_times_so"] : List Str).Nodup by decide +kernel) rfl (by first | exact Or.inl rfl | exact Or.inr rfl)) qgs_nil))), qf_nil, (show QE _ _ (tTupS K _) from qe_tupS (qa_cons (qv 0) (qa_cons (qe_cal C__law_times (hr.mono (by first | decide | walk_at "o")) rfl (qa_cons (qv 1) (qa_cons (qv 2) qa_nil))) qa_nil)))⟩))
      (qss_cons (qs_expr (qe_bm PySem.F.plainAttrs_list PySem.F.slot_list_append PySem.F.type_list_append mt_appendS (qv 9) (qa_cons (qe_tupS (qa_cons (qe_lam (maker_of hcode M_) rfl (free_of (sc := defScope s_law) rfl (by decide +kernel))) (qa_cons (qv 10) qa_nil))) qa_nil)))
      (qss_cons (qs_expr (qe_bm PySem.F.plainAttrs_list PySem.F.slot_list_append PySem.F.type_list_append mt_appendS (qv 9) (qa_cons (qe_tupS (qa_cons (qe_lam (maker_of hcode M_) rfl (free_of (sc := defScope s_law) rfl (by decide +kernel))) (qa_cons (qe_cal C__law_gathered (hr.mono (by first | decide | walk_at "o")) rfl (qa_cons (qe_op op_Plus (qv 3) (qv 4)) qa_nil)) qa_nil))) qa_nil)))
      (qss_cons (qs_expr (qe_bm PySem.F.plainAttrs_list PySem.F.slot_list_append PySem.F.type_list_append mt_appendS (qv 9) (qa_cons (qe_tupS (qa_cons (qe_lam (maker_of hcode M_) rfl (free_of (sc := defScope s_law) rfl (by decide +kernel))) (qa_cons (qe_cal C__law_each (hr.mono (by first | decide | walk_at "o")) rfl (qa_cons (qv 3) (qa_cons (qv 4) (qa_cons qe_int qa_nil)))) qa_nil))) qa_nil)))
      (qss_cons (qs_expr (qe_bm PySem.F.plainAttrs_list PySem.F.slot_list_append PySem.F.type_list_append mt_appendS (qv 9) (qa_cons (qe_tupS (qa_cons (qe_lam (maker_of hcode M_) rfl (free_of (sc := defScope s_law) rfl (by decide +kernel))) (qa_cons (qe_cal C__law_each (hr.mono (by first | decide | walk_at "o")) rfl (qa_cons (qv 3) (qa_cons (qv 4) (qa_cons qe_int qa_nil)))) qa_nil))) qa_nil)))
      (qss_one (qs_if (qt_cmpR (op_neNil hr.ul) (qe_compL (kl := 6) (own := ["_law_call", "_law_due"]) (outs := ["_law_handed", "_law_kept"]) (ixs := [8, 7]) (fun _ => rfl) rfl (qi_list (qv 9)) rfl ⟨rfl, rfl, rfl, ⟨rfl, ⟨rfl, trivial⟩⟩, rfl, ⟨⟨rfl, rfl, rfl, _, rfl⟩, ⟨⟨rfl, rfl, rfl, _, rfl⟩, trivial⟩⟩⟩ (fun R _ _ _ _ hR => ⟨(show QG _ _ (gTupH K 2 _) from qg_tupH (n := 2) rfl (qgs_cons (qg_name (i := 0) (show (["_law_call", "_law_due", "_law_handed", "_law_kept"] : List Str).Nodup by decide +kernel) rfl (by first | exact Or.inl rfl | exact Or.inr rfl)) (qgs_cons (qg_name (i := 1) (show (["_law_call", "_law_due", "_law_handed", "_law_kept"] : List Str).Nodup by decide +kernel) rfl (by first | exact Or.inl rfl | exact Or.inr rfl)) qgs_nil))), (qf_one (qt_not (qt_val (show QE _ _ (tWithV K R (sp__law_right K) _) from qe_withV (kl := 7) W_ hR (hr.mono (by first | decide | walk_at "o")) rfl (qa_cons (qv 0) (qa_cons (qv 1) (qa_cons (qv 2) (qa_cons (qv 3) qa_nil)))))))), (qv 1)⟩)) (qe_lstS qa_nil) (nomark _)) (qss_one (qs_ret qe_bl)) qss_nil))))))))))))))))))
      (qss_one (qs_ret qe_bl))), ?_⟩
    walk_at "m"
    obtain ⟨X1, hX1⟩ : ∃ X1, cxOf CX0 P w K mg base ["_law_script", "_law_k", "_law_state_here", "_law_one", "_law_other", "_law_by", "_law_times_so", "_law_kept", "_law_handed", "_law_cases", "_law_due"] "law" (defScope s_law) f cdv A outer s H E = X1 := ⟨_, rfl⟩
    have hq : lamQ X1.nox = lamN "law" := by rw [← hX1]; rfl
    simp only [hX1, hq]
    obtain ⟨cl, hcl⟩ : ∃ cl, X1.env.cells = cl := ⟨_, rfl⟩
    simp only [hcl]
    refine tCut.mk (fun σ H2 => ∃ o1 o2 o3 o4 o5 o6 o7 o8 o9 o10, σ = [some (.ref a), o1, o2, o3, o4, o5, o6, o7, o8, o9, o10]) ?_ ?_
    · walk_at "vc"
      refine ⟨_, .inl hS.sq, ?_⟩
      simp only [List.length_map]
      obtain ⟨Pv, hPv⟩ : ∃ Pv : Nat → St → Hp → Prop, ∀ k σ H', Pv k σ H' ↔ ∃ o1 o2 o3 o4 o5 o6 o7 o8 o9 o10, σ = [some (.ref a), o1, o2, o3, o4, o5, o6, o7, o8, o9, o10] ∧ SmT (vw K H) (vw K H') ∧ TabOk (vw K H') 212 (lamN "law") := ⟨_, fun _ _ _ => Iff.rfl⟩
      refine ⟨by repeat' split <;> walk_at "o", by repeat' split <;> walk_at "o", for_items (its := iots 0 _) Pv (fun _ _ _ _ _ => items_range) ((hPv _ _ _).mpr ⟨_, _, _, _, _, _, _, _, _, _, rfl, .rfl, hT1⟩) (fun i x σ H1 hi hx pv => ?_) (fun σ H1 pv => ?_)⟩
      · obtain ⟨o1, o2, o3, o4, o5, o6, o7, o8, o9, o10, rfl, s1, T1⟩ := (hPv _ _ _).mp pv
        obtain ⟨hi', rfl⟩ := iots_at hx
        refine tSeq.gen fun N1 hN1 => ?_
        walk_at "vc"
        simp only [sp__law_state]
        walk_at "vc"
        refine ⟨⟨i, by simp⟩, ⟨ns, hS.smT s1⟩, fun st H2 hst0 s2 st2 => hN1 _ _ ?_⟩
        refine tSeq.gen fun N2 hN2 => ?_
        walk_at "vc"
        simp only [sp__law_crowd]
        refine ⟨st, 6, rfl, by decide, st2, fun oa H3 as B3 st3 l3 ca ba xa ra na hoa => ⟨st, 6, rfl, by decide, st3, fun ob H4 bs0 B4 st4 l4 cb bb xb rb nb hob => hN2 _ _ ?_⟩⟩
        have fa : Fqs as := fun c hc => ⟨(ca c hc).1, (ca c hc).2.1⟩
        have fb0 : Fqs bs0 := fun c hc => ⟨(cb c hc).1, (cb c hc).2.1⟩
        have ria : Ris as := ris_of fa ra
        have l34 := l3.stBut (spt_flats _) (spt_no _) st3 B4
        refine tSeq.gen fun N3 hN3 => ?_
        walk_at "vc"
        have S14 : Same (vw K H1) (vw K H4) := fun b o e => by
          have hne : b ≠ st := ne_of_none e hst0
          exact B4 _ _ hne (B3 _ _ hne (s2 _ _ e))
        have T4 : TabOk (vw K H4) 212 (lamN "law") := tab_stBut (tab_stBut (T1.same s2) st2 B3) st3 B4
        have key : ∀ (ob : Addr) (bs : List Spt) (H5 : Hp), Same (vw K H1) (vw K H5) → StOk (vw K H5) st → TabOk (vw K H5) 212 (lamN "law") → FlAt (vw K H5) oa (as.map spt) → FlAt (vw K H5) ob (bs.map spt) → Fqs bs → Bws 100 10 bs → bs.length ≤ 6 → N3 [some (.ref a), some (.int (0 + (i : Int))), some (.ref st), some (.ref oa), some (.ref ob), o5, o6, o7, o8, o9, o10] H5 := by
          intro ob bs H5 S15 st5 T5 la5 lb5 fb bb nb
          refine hN3 _ _ ?_
          clear hN3 N3
          refine tSeq.gen fun N4 hN4 => ?_
          walk_at "vc"
          simp only [sp__law_small]
          refine ⟨st, rfl, st5, fun v6 H6 q6 B6 st6 r6 fq6 b6 b6' x6 => ?_⟩
          walk_at "vc"
          refine ⟨by decide, fun p7 H7 hp7 S7 h7 => ⟨by decide, fun p8 H8 hp8 S8 h8 => ?_⟩⟩
          simp only [sp__law_take]
          have st8 := (st6.same S7).same S8
          walk_at "vc"
          refine ⟨st8, by decide, by decide, fun r9 H9 r90 r91 B9 st9 => ⟨_, B9 _ _ ((st6.same S7).ne hp8) h8, ?_⟩⟩
          have r68 := Rep.same (S7.trans S8) _ _ r6
          have by9 : ∃ (v : V) (q : Int × Int), atI [v6, V.ref p7] (if r9 = 0 then 1 else 0) = some v ∧ Rep (vw K H9) (fr q) v ∧ Fq q ∧ Bq 10 q := by
            split
            · exact ⟨_, (0, 1), atI_1, Rep.but B9 st8 _ _ rfl (rep_pair (S8 _ _ h7)), ⟨by decide, by decide⟩, ⟨by decide, by decide⟩⟩
            · exact ⟨_, q6, atI_0, Rep.but B9 st8 _ _ rfl r68, fq6, ⟨b6, b6'⟩⟩
          obtain ⟨y, q, hy, ry, fq, bq⟩ := by9
          refine ⟨y, hy, hN4 _ _ ?_⟩
          have sl := spt_flats
          have la9 := (((la5.stBut (spt_flats _) (spt_no _) st5 B6).same S7).same S8).stBut (spt_flats _) (spt_no _) st8 B9
          have lb9 := (((lb5.stBut (spt_flats _) (spt_no _) st5 B6).same S7).same S8).stBut (spt_flats _) (spt_no _) st8 B9
          have T9 := tab_stBut (((tab_stBut T5 st5 B6).same S7).same S8) st8 B9
          have S19 := (((S15.but_trans hst0 B6).trans S7).trans S8).but_trans hst0 B9
          refine tSeq.gen fun N5 hN5 => ?_
          walk_at "vc"
          simp only [sp__law_above]
          refine ⟨st, rfl, st9, fun z H10 tq B10 st10 rz ftq ptq btq xtq => hN5 _ _ ?_⟩
          have ry10 := Rep.but B10 st9 _ _ rfl ry
          have la10 := la9.stBut (spt_flats _) (spt_no _) st9 B10
          have lb10 := lb9.stBut (spt_flats _) (spt_no _) st9 B10
          have T10 := tab_stBut T9 st9 B10
          have S110 := S19.but_trans hst0 B10
          clear la9 lb9 T9 S19 ry r68 hy
          obtain ⟨xs, hxs, rxs⟩ := id la10
          obtain ⟨ys, hys, rys⟩ := id lb10
          refine tSeq.gen fun N6 hN6 => ?_
          walk_at "vc"
          refine ⟨xs, hxs, fun k1 G1 hk1 V1 d1 => ⟨ys, V1 _ _ hys, fun k2 G2 hk2 V2 d2 => ⟨by decide, fun kp G3 hkp V3 d3 => hN6 _ _ ?_⟩⟩⟩
          have V03 := V1.trans (V2.trans V3)
          refine tSeq.gen fun N7 hN7 => ?_
          walk_at "vc"
          refine ⟨xs, V03 _ _ hxs, fun h1 G4 hh1 V4 d4 => ⟨ys, (V03.trans V4) _ _ hys, fun h2 G5 hh2 V5 d5 => ⟨by decide, fun hd G6 hhd V6 d6 => hN7 _ _ ?_⟩⟩⟩
          have V36 := V4.trans (V5.trans V6)
          have V06 := V03.trans V36
          have rk : Rep (vw K G6) (.lst [.lst (as.map spt), .lst (bs.map spt)]) (.ref kp) := .mk_lst (V36 _ _ d3) (.mk_cons (.mk_lst ((V2.trans (V3.trans V36)) _ _ d1) (rxs.same V06)) (.mk_cons (.mk_lst ((V3.trans V36) _ _ d2) (rys.same V06)) .mk_nil))
          have rh : Rep (vw K G6) (.lst [.lst (as.map spt), .lst (bs.map spt)]) (.ref hd) := .mk_lst d6 (.mk_cons (.mk_lst ((V5.trans V6) _ _ d4) (rxs.same V06)) (.mk_cons (.mk_lst (V6 _ _ d5) (rys.same V06)) .mk_nil))
          have T6 := T10.same V06
          have M6 : SmT (vw K H1) (vw K G6) := SmT.of (S110.trans V06)
          have la6 := la10.same V06
          have lb6 := lb10.same V06
          have ry6 := Rep.same V06 _ _ ry10
          have rz6 := Rep.same V06 _ _ rz
          clear rxs rys hxs hys V03 V36 d1 d2 d3 d4 d5 d6 hk1 hk2 hkp hh1 hh2 hhd V1 V2 V3 V4 V5 V6 V06 la10 lb10 ry10 rz T10 S110
          obtain ⟨Rr, hRr⟩ : ∃ Rr : List D → LamK → Prop, ∀ ds d, Rr ds d ↔ ∃ qs : List Spt, ds = qs.map spt ∧ qs.length ≤ 100 ∧ ∀ (σ : St) (H' : Hp) (Q' : VK), σ[8]? = some (some (.ref hd)) → σ[5]? = some (some y) → σ[6]? = some (some z) → Rep (vw K H') (.lst [.lst (as.map spt), .lst (bs.map spt)]) (.ref hd) → Rep (vw K H') (fr q) y → Rep (vw K H') (fr tq) z →
            (∀ (c : Addr) H'', Same (vw K H') (vw K H'') → vw K H' c = none → FlAt (vw K H'') c (qs.map spt) → Q' (.ref c) H'') → d.tl (d.ixs.map fun j => (σ[j]?).join) H' Q' := ⟨_, fun _ _ => Iff.rfl⟩
          refine tSeq.gen fun N8 hN8 => ?_
          walk_at "vc"
          simp only [tLam]
          walk_at "vc"
          refine ⟨T6, fun L1 p1 c1 B1 T1' hp1 hl1 hc1 => ?_⟩
          have sm1 := T6.smT B1 T1'
          have la1 := la6.smT sm1
          have ry1 := Rep.smT sm1 _ _ ry6
          refine ⟨let ⟨_, e, _⟩ := la1; ⟨_, .of (vw_lst e)⟩, fun d1 E1 hd1 E2 h1 => comp_spt (op := fun c : Spt => ((addq c.1 q, c.2) : Spt)) (fun x u d H2 Q2 hd S2 rx rz hQ => ?_) la1 (by walk_at "o") hd1 E2 h1 fun L2 U1 ld => ?_⟩
          · walk_at "vc"
            simp only [sp__law_plus]
            refine ⟨_, _, d.1, q, rfl, rx, Rep.same S2 _ _ ry1, (fa d hd).1.ne, fq.ne, (ba d hd).1.mono (by decide), bq.mono (by decide), ((ba d hd).1.2.mul bq.2).mono (by decide), fun v H3 S3 r3 => ?_⟩
            exact ⟨by decide, fun p H4 hp S4 h4 => hQ p H4 (S3.trans S4) (.mk_spt h4 (Rep.same S4 _ _ r3) (Rep.same (S3.trans S4) _ _ rz))⟩
          refine ⟨by decide, fun t1 L3 ht1 U2 h3t => ⟨by decide, fun cs L4 hcs U3 h4 => hN8 _ _ ?_⟩⟩
          obtain ⟨x1, kx1, W1⟩ := CasS.first (Kd := KindOk X1.nox 6) (R := Rr) B1 T1' hp1 hl1 hc1 U1 ld (spt_flats _) U2 h3t U3 hcs h4 (kdX hl1 (congrArg Cx.nox hX1) ["_law_by", "_law_handed"] [5, 8] (R := Rr _) _ rfl (nocell_of (by decide +kernel)) ⟨rfl, rfl⟩ (fun _ _ _ _ => rfl) (free_of (sc := defScope s_law) rfl (by decide +kernel)) rfl (fun j x hx => by rcases j with _ | _ | j <;> first | (cases hx; exact ⟨rfl, _, rfl, rfl⟩) | cases hx) (fun _ _ _ _ _ _ _ hrl => (qe_cal C_crowd_moved (hrl.mono (by decide)) rfl (qa_cons (qe_ix (show IxR _ (rIxH K) from ix_h) (qv 1) qe_int (fun _ _ => rfl)) (qa_cons (qv 0) qa_nil)))) ((hRr _ _).mpr ⟨_, rfl, (by rw [List.length_map]; walk_at "o"), by
            intro σ H' Q' h8 h5 h6 rH rY rZ hQ
            simp only [List.map_cons, List.map_nil, h8, h5, h6, Option.join_some]
            obtain ⟨_, hv, e', hhv, rhv⟩ := rH.lst_at
            cases e'
            obtain ⟨u1, r1, rfl, ru1, r1'⟩ := rhv.cons_at
            obtain ⟨u2, r2, rfl, ru2, r2'⟩ := r1'.cons_at
            cases r2'.nil_at
            walk_at "m"
            walk_at "vc"
            obtain ⟨a1, z1, rfl, ha1, rz1⟩ := ru1.lst_at
            refine ⟨_, hhv, _, atI_0, ?_⟩
            simp only [sp_crowd_moved]
            refine ⟨_, _, as, q, rfl, ⟨_, ha1, rz1⟩, rY, fq, bq, na, fa, ba, fun b H2 S hb lb => hQ _ _ S hb (by rw [gath_self (ris_moved fa fq ria) (fqs_of (all_moved fa ba fq bq)).1] at lb; exact lb)⟩⟩))
          clear h4 hcs U3 h3t ht1 U2 U1 hl1 hc1 B1 T1' hd1 ld sm1 hN8 N8 la1 ry1 h1 E2 E1
          refine tSeq.gen fun N9 hN9 => ?_
          walk_at "vc"
          have smA := W1.sm T6
          have laA := la6.smT smA
          have ryA := Rep.smT smA _ _ ry6
          refine ⟨let ⟨_, e, _⟩ := laA; ⟨_, .of (vw_lst e)⟩, fun d1 E1 hd1 E2 h1 => comp_spt (op := fun c : Spt => ((mulq c.1 q, c.2) : Spt)) (fun x u d H2 Q2 hd S2 rx rz hQ => ?_) laA (by walk_at "o") hd1 E2 h1 fun L2 U1 ld => ?_⟩
          · walk_at "vc"
            simp only [sp__law_times]
            refine ⟨_, _, d.1, q, rfl, rx, Rep.same S2 _ _ ryA, (fa d hd).1.ne, fq.ne, (ba d hd).1.mono (by decide), bq.mono (by decide), ((ba d hd).1.2.mul bq.2).mono (by decide), fun v H3 S3 r3 => ?_⟩
            exact ⟨by decide, fun p H4 hp S4 h4 => hQ p H4 (S3.trans S4) (.mk_spt h4 (Rep.same S4 _ _ r3) (Rep.same (S3.trans S4) _ _ rz))⟩
          simp only [sp__law_gathered]
          obtain ⟨fg, bg⟩ := fqs_of (all_grown fa ba fq bq)
          refine ⟨d1, _, rfl, ld, by rw [List.length_map]; walk_at "o", fg, bg, fun d2 L5 U5 hd2 ld2 => hN9 _ _ ?_⟩
          have ne2 : d2 ≠ cs := fun e => by
            have := (W1.same U1).lst
            rw [← e, hd2] at this
            cases this
          have W1' := (W1.same U1).same U5
          clear hN9 N9 smA laA ryA h1 E2 E1 hd1 ld U1 U5 hd2 W1 d1
          refine tSeq.gen fun N10 hN10 => ?_
          walk_at "vc"
          simp only [tLam]
          walk_at "vc"
          refine ⟨ty_lst W1'.lst, W1'.tab, fun L1 p2 c2 B1 T1' hp2 hl2 hc2 => ⟨by decide, fun t2 L3 ht U2 h3t => ?_⟩⟩
          have X2 := W1'.lam B1 T1'
          refine ⟨_, (X2.same U2).lst, by show 1 < sizeLine; decide, fun L4 B4' h4 => hN10 _ _ ?_⟩
          obtain ⟨x2, kx2, W2⟩ := W1'.nextE (Kd := KindOk X1.nox 6) (R := Rr) B1 T1' hp2 hl2 hc2 ne2 (ld2.smT (W1'.tab.smT B1 T1')) (spt_flats _) U2 h3t B4' h4 (kdX hl2 (congrArg Cx.nox hX1) ["_law_by", "_law_handed"] [5, 8] (R := Rr _) _ rfl (nocell_of (by decide +kernel)) ⟨rfl, rfl⟩ (fun _ _ _ _ => rfl) (free_of (sc := defScope s_law) rfl (by decide +kernel)) rfl (fun j x hx => by rcases j with _ | _ | j <;> first | (cases hx; exact ⟨rfl, _, rfl, rfl⟩) | cases hx) (fun _ _ _ _ _ _ _ hrl => (qe_cal C_crowd_grown (hrl.mono (by decide)) rfl (qa_cons (qe_ix (show IxR _ (rIxH K) from ix_h) (qv 1) qe_int (fun _ _ => rfl)) (qa_cons (qv 0) qa_nil)))) ((hRr _ _).mpr ⟨_, rfl, (by have := len_gath (as.map fun c : Spt => ((mulq c.1 q, c.2) : Spt)); rw [List.length_map] at this; walk_at "o"), by
            intro σ H' Q' h8 h5 h6 rH rY rZ hQ
            simp only [List.map_cons, List.map_nil, h8, h5, h6, Option.join_some]
            obtain ⟨_, hv, e', hhv, rhv⟩ := rH.lst_at
            cases e'
            obtain ⟨u1, r1, rfl, ru1, r1'⟩ := rhv.cons_at
            obtain ⟨u2, r2, rfl, ru2, r2'⟩ := r1'.cons_at
            cases r2'.nil_at
            walk_at "m"
            walk_at "vc"
            obtain ⟨a1, z1, rfl, ha1, rz1⟩ := ru1.lst_at
            refine ⟨_, hhv, _, atI_0, ?_⟩
            simp only [sp_crowd_grown]
            refine ⟨_, _, as, q, rfl, ⟨_, ha1, rz1⟩, rY, fq, bq, na, fa, ba, fun b H2 S hb lb => hQ _ _ S hb lb⟩⟩))
          clear hN10 N10 hl2 hc2 h4 B4' h3t ht U2 B1 T1' X2 ld2 ne2 W1'
          refine tSeq.gen fun N11 hN11 => ?_
          walk_at "vc"
          have smA := W2.sm T6
          have laA := la6.smT smA
          have rzA := Rep.smT smA _ _ rz6
          refine ⟨let ⟨_, e, _⟩ := laA; ⟨_, .of (vw_lst e)⟩, fun d3 E1 hd3 E2 h1 => comp_spt (op := fun c : Spt => ((c.1, mulq c.2 tq) : Spt)) (fun x u d H2 Q2 hd S2 rx rz hQ => ?_) laA (by walk_at "o") hd3 E2 h1 fun L2 U1 ld => hN11 _ _ ?_⟩
          · walk_at "vc"
            simp only [sp__law_times]
            refine ⟨_, _, d.2, tq, rfl, rz, Rep.same S2 _ _ rzA, (fa d hd).2.ne, ftq.ne, (ba d hd).2.mono (by decide), btq.mono (by decide), ((ba d hd).2.2.mul btq.2).mono (by decide), fun v H3 S3 r3 => ?_⟩
            exact ⟨by decide, fun p H4 hp S4 h4 => hQ p H4 (S3.trans S4) (.mk_spt h4 (Rep.same (S3.trans S4) _ _ rx) (Rep.same S4 _ _ r3))⟩
          have ne3 : d3 ≠ cs := fun e => by
            have := W2.lst
            rw [← e, hd3] at this
            cases this
          have W2' := W2.same U1
          clear hN11 N11 smA laA rzA h1 E2 E1 hd3 U1 W2
          refine tSeq.gen fun N12 hN12 => ?_
          walk_at "vc"
          simp only [tLam]
          walk_at "vc"
          refine ⟨ty_lst W2'.lst, W2'.tab, fun L1 p3 c3 B1 T1' hp3 hl3 hc3 => ⟨by decide, fun t3 L3 ht U2 h3t => ?_⟩⟩
          have X3 := W2'.lam B1 T1'
          refine ⟨_, (X3.same U2).lst, by show 2 < sizeLine; decide, fun L4 B4' h4 => hN12 _ _ ?_⟩
          obtain ⟨x3, kx3, W3⟩ := W2'.nextE (Kd := KindOk X1.nox 6) (R := Rr) B1 T1' hp3 hl3 hc3 ne3 (ld.smT (W2'.tab.smT B1 T1')) (spt_flats _) U2 h3t B4' h4 (kdX hl3 (congrArg Cx.nox hX1) ["_law_times_so", "_law_handed"] [6, 8] (R := Rr _) _ rfl (nocell_of (by decide +kernel)) ⟨rfl, rfl⟩ (fun _ _ _ _ => rfl) (free_of (sc := defScope s_law) rfl (by decide +kernel)) rfl (fun j x hx => by rcases j with _ | _ | j <;> first | (cases hx; exact ⟨rfl, _, rfl, rfl⟩) | cases hx) (fun _ _ _ _ _ _ _ hrl => (qe_cal C_crowd_weighted (hrl.mono (by decide)) rfl (qa_cons (qe_ix (show IxR _ (rIxH K) from ix_h) (qv 1) qe_int (fun _ _ => rfl)) (qa_cons (qv 0) qa_nil)))) ((hRr _ _).mpr ⟨_, rfl, (by rw [List.length_map]; walk_at "o"), by
            intro σ H' Q' h8 h5 h6 rH rY rZ hQ
            simp only [List.map_cons, List.map_nil, h8, h5, h6, Option.join_some]
            obtain ⟨_, hv, e', hhv, rhv⟩ := rH.lst_at
            cases e'
            obtain ⟨u1, r1, rfl, ru1, r1'⟩ := rhv.cons_at
            obtain ⟨u2, r2, rfl, ru2, r2'⟩ := r1'.cons_at
            cases r2'.nil_at
            walk_at "m"
            walk_at "vc"
            obtain ⟨a1, z1, rfl, ha1, rz1⟩ := ru1.lst_at
            refine ⟨_, hhv, _, atI_0, ?_⟩
            simp only [sp_crowd_weighted]
            refine ⟨_, _, as, tq, rfl, ⟨_, ha1, rz1⟩, rZ, ftq, btq, na, fa, ba, fun b H2 S hb lb => hQ _ _ S hb lb⟩⟩))
          clear hN12 N12 hl3 hc3 h4 B4' h3t ht U2 B1 T1' X3 ld ne3 W2'
          refine tSeq.gen fun N13 hN13 => ?_
          walk_at "vc"
          simp only [tLam]
          walk_at "vc"
          refine ⟨ty_lst W3.lst, W3.tab, fun L1 p4 c4 B1 T1' hp4 hl4 hc4 => ?_⟩
          have X4 := W3.lam B1 T1'
          have sm1 := X4.sm T6
          obtain ⟨xs, hxs, rxs⟩ := la6.smT sm1
          obtain ⟨ys, hys, rys⟩ := lb6.smT sm1
          have lx : xs.length = as.length := by rw [rxs.length, List.length_map]
          have ly : ys.length = bs.length := by rw [rys.length, List.length_map]
          refine ⟨xs, hxs, ys, hys, Nat.le_trans (show _ ≤ 20 by walk_at "o") (by decide), fun pj E1 hpj E2 h1 => ?_⟩
          simp only [sp__law_gathered]
          obtain ⟨fg, bg⟩ := fqs_of (all_poured fa ba fb bb)
          refine ⟨pj, as ++ bs, rfl, ⟨_, h1, by rw [List.map_append]; exact (rxs.same E2).app (rys.same E2)⟩, by rw [List.length_append]; walk_at "o", fg, bg, fun d4 L2 U1 hd4 ld => ?_⟩
          refine ⟨by decide, fun t4 L3 ht U2 h3t => ⟨_, ((X4.same (E2.trans U1)).same U2).lst, by show 3 < sizeLine; decide, fun L4 B4' h4 => hN13 _ _ ?_⟩⟩
          obtain ⟨x4, kx4, W4⟩ := W3.next (Kd := KindOk X1.nox 6) (R := Rr) B1 T1' hp4 hl4 hc4 (E2.trans U1) (E2.none hd4) ld (spt_flats _) U2 h3t B4' h4 (kdX hl4 (congrArg Cx.nox hX1) ["_law_handed"] [8] (R := Rr _) _ rfl (nocell_of (by decide +kernel)) ⟨rfl, rfl⟩ (fun _ _ _ _ => rfl) (free_of (sc := defScope s_law) rfl (by decide +kernel)) rfl (fun j x hx => by rcases j with _ | j <;> first | (cases hx; exact ⟨rfl, _, rfl, rfl⟩) | cases hx) (fun _ _ _ _ _ _ _ hrl => (qe_cal C_crowd_poured (hrl.mono (by decide)) rfl (qa_cons (qe_ix (show IxR _ (rIxH K) from ix_h) (qv 0) qe_int (fun _ _ => rfl)) (qa_cons (qe_ix (show IxR _ (rIxH K) from ix_h) (qv 0) qe_int (fun _ _ => rfl)) qa_nil)))) ((hRr _ _).mpr ⟨_, rfl, (by have := len_gath (as ++ bs); rw [List.length_append] at this; walk_at "o"), by
            intro σ H' Q' h8 h5 h6 rH rY rZ hQ
            simp only [List.map_cons, List.map_nil, h8, h5, h6, Option.join_some]
            obtain ⟨_, hv, e', hhv, rhv⟩ := rH.lst_at
            cases e'
            obtain ⟨u1, r1, rfl, ru1, r1'⟩ := rhv.cons_at
            obtain ⟨u2, r2, rfl, ru2, r2'⟩ := r1'.cons_at
            cases r2'.nil_at
            walk_at "m"
            walk_at "vc"
            obtain ⟨a1, z1, rfl, ha1, rz1⟩ := ru1.lst_at
            obtain ⟨a2, z2, rfl, ha2, rz2⟩ := ru2.lst_at
            refine ⟨_, hhv, _, atI_0, _, hhv, _, atI_1, ?_⟩
            simp only [sp_crowd_poured]
            refine ⟨_, _, as, bs, rfl, ⟨_, ha1, rz1⟩, ⟨_, ha2, rz2⟩, na, nb, fa, ba, fb, bb, fun b H2 S hb lb => hQ _ _ S hb lb⟩⟩))
          clear hN13 N13 hl4 hc4 h4 B4' h3t ht U2 U1 hd4 ld sm1 B1 T1' X4 h1 E2 E1 hpj rxs rys hxs hys W3
          refine tSeq.gen fun N14 hN14 => ?_
          walk_at "vc"
          simp only [tLam]
          walk_at "vc"
          refine ⟨ty_lst W4.lst, W4.tab, fun L1 p5 c5 B1 T1' hp5 hl5 hc5 => ?_⟩
          have X5 := W4.lam B1 T1'
          have sm1 := X5.sm T6
          simp only [sp__law_each]
          refine ⟨_, _, 0, as, bs, rfl, .inl rfl, la6.smT sm1, lb6.smT sm1, na, nb, fa, ba, fb, bb, fun d5 L2 U1 hd5 ld => ?_⟩
          refine ⟨by decide, fun t5 L3 ht U2 h3t => ⟨_, ((X5.same U1).same U2).lst, by show 4 < sizeLine; decide, fun L4 B4' h4 => hN14 _ _ ?_⟩⟩
          obtain ⟨x5, kx5, W5⟩ := W4.next (Kd := KindOk X1.nox 6) (R := Rr) B1 T1' hp5 hl5 hc5 U1 hd5 ld (spt_flats _) U2 h3t B4' h4 (kdX hl5 (congrArg Cx.nox hX1) ["_law_handed"] [8] (R := Rr _) _ rfl (nocell_of (by decide +kernel)) ⟨rfl, rfl⟩ (fun _ _ _ _ => rfl) (free_of (sc := defScope s_law) rfl (by decide +kernel)) rfl (fun j x hx => by rcases j with _ | j <;> first | (cases hx; exact ⟨rfl, _, rfl, rfl⟩) | cases hx) (fun _ _ _ _ _ _ _ hrl => (qe_cal C_crowd_added (hrl.mono (by decide)) rfl (qa_cons (qe_ix (show IxR _ (rIxH K) from ix_h) (qv 0) qe_int (fun _ _ => rfl)) (qa_cons (qe_ix (show IxR _ (rIxH K) from ix_h) (qv 0) qe_int (fun _ _ => rfl)) qa_nil)))) ((hRr _ _).mpr ⟨_, rfl, (by have := len_gath (eachS (opW 0) as bs); rw [each_len] at this; have := Nat.mul_le_mul na nb; walk_at "o"), by
            intro σ H' Q' h8 h5 h6 rH rY rZ hQ
            simp only [List.map_cons, List.map_nil, h8, h5, h6, Option.join_some]
            obtain ⟨_, hv, e', hhv, rhv⟩ := rH.lst_at
            cases e'
            obtain ⟨u1, r1, rfl, ru1, r1'⟩ := rhv.cons_at
            obtain ⟨u2, r2, rfl, ru2, r2'⟩ := r1'.cons_at
            cases r2'.nil_at
            walk_at "m"
            walk_at "vc"
            obtain ⟨a1, z1, rfl, ha1, rz1⟩ := ru1.lst_at
            obtain ⟨a2, z2, rfl, ha2, rz2⟩ := ru2.lst_at
            refine ⟨_, hhv, _, atI_0, _, hhv, _, atI_1, ?_⟩
            simp only [sp_crowd_added]
            refine ⟨_, _, as, bs, rfl, ⟨_, ha1, rz1⟩, ⟨_, ha2, rz2⟩, na, nb, fa, ba, fb, bb, fun b H2 S hb lb => hQ _ _ S hb lb⟩⟩))
          clear hN14 N14 hl5 hc5 h4 B4' h3t ht U2 U1 hd5 ld sm1 B1 T1' X5 W4
          refine tSeq.gen fun N15 hN15 => ?_
          walk_at "vc"
          simp only [tLam]
          walk_at "vc"
          refine ⟨ty_lst W5.lst, W5.tab, fun L1 p6 c6 B1 T1' hp6 hl6 hc6 => ?_⟩
          have X6 := W5.lam B1 T1'
          have sm1 := X6.sm T6
          simp only [sp__law_each]
          refine ⟨_, _, 1, as, bs, rfl, .inr rfl, la6.smT sm1, lb6.smT sm1, na, nb, fa, ba, fb, bb, fun d6 L2 U1 hd6 ld => ?_⟩
          refine ⟨by decide, fun t6 L3 ht U2 h3t => ⟨_, ((X6.same U1).same U2).lst, by show 5 < sizeLine; decide, fun L4 B4' h4 => hN15 _ _ ?_⟩⟩
          obtain ⟨x6, kx6, W6⟩ := W5.next (Kd := KindOk X1.nox 6) (R := Rr) B1 T1' hp6 hl6 hc6 U1 hd6 ld (spt_flats _) U2 h3t B4' h4 (kdX hl6 (congrArg Cx.nox hX1) ["_law_handed"] [8] (R := Rr _) _ rfl (nocell_of (by decide +kernel)) ⟨rfl, rfl⟩ (fun _ _ _ _ => rfl) (free_of (sc := defScope s_law) rfl (by decide +kernel)) rfl (fun j x hx => by rcases j with _ | j <;> first | (cases hx; exact ⟨rfl, _, rfl, rfl⟩) | cases hx) (fun _ _ _ _ _ _ _ hrl => (qe_cal C_crowd_multiplied (hrl.mono (by decide)) rfl (qa_cons (qe_ix (show IxR _ (rIxH K) from ix_h) (qv 0) qe_int (fun _ _ => rfl)) (qa_cons (qe_ix (show IxR _ (rIxH K) from ix_h) (qv 0) qe_int (fun _ _ => rfl)) qa_nil)))) ((hRr _ _).mpr ⟨_, rfl, (by have := len_gath (eachS (opW 1) as bs); rw [each_len] at this; have := Nat.mul_le_mul na nb; walk_at "o"), by
            intro σ H' Q' h8 h5 h6 rH rY rZ hQ
            simp only [List.map_cons, List.map_nil, h8, h5, h6, Option.join_some]
            obtain ⟨_, hv, e', hhv, rhv⟩ := rH.lst_at
            cases e'
            obtain ⟨u1, r1, rfl, ru1, r1'⟩ := rhv.cons_at
            obtain ⟨u2, r2, rfl, ru2, r2'⟩ := r1'.cons_at
            cases r2'.nil_at
            walk_at "m"
            walk_at "vc"
            obtain ⟨a1, z1, rfl, ha1, rz1⟩ := ru1.lst_at
            obtain ⟨a2, z2, rfl, ha2, rz2⟩ := ru2.lst_at
            refine ⟨_, hhv, _, atI_0, _, hhv, _, atI_1, ?_⟩
            simp only [sp_crowd_multiplied]
            refine ⟨_, _, as, bs, rfl, ⟨_, ha1, rz1⟩, ⟨_, ha2, rz2⟩, na, nb, fa, ba, fb, bb, fun b H2 S hb lb => hQ _ _ S hb lb⟩⟩))
          clear hN15 N15 hl6 hc6 h4 B4' h3t ht U2 U1 hd6 ld sm1 B1 T1' X6 W5
          obtain ⟨xs, hxs⟩ : ∃ xs, xs = [x1] ++ [x2] ++ [x3] ++ [x4] ++ [x5] ++ [x6] := ⟨_, rfl⟩
          have kx : ∀ x ∈ xs, ∃ d : LamK, d.params = x.ps ∧ d.body = x.b ∧ d.scope = x.sc ∧ KindOk X1.nox 6 d ∧ Rr x.ds d := fun x hx => by
            rw [hxs] at hx
            simp only [List.cons_append, List.nil_append, List.mem_cons, List.not_mem_nil, or_false] at hx
            rcases hx with rfl | rfl | rfl | rfl | rfl | rfl
            · exact kx1
            · exact kx2
            · exact kx3
            · exact kx4
            · exact kx5
            · exact kx6
          rw [← hxs] at W6
          have lxs : xs.length = 6 := by rw [hxs]; rfl
          clear kx1 kx2 kx3 kx4 kx5 kx6 hxs
          obtain ⟨rs, e1, e2, e3⟩ := CasS.kinds W6.ok kx
          walk_at "vc"
          simp only [tCompL]
          have C := W6.cut
          refine ⟨rs, by rw [e1]; exact W6.nd, e2, ?_⟩
          rw [e1]
          walk_at "vc"
          have smC : SmT (vw K G6) (vw K (cutL (xs.map fun x => x.p) L4)) := by
            obtain ⟨t, ht, _⟩ := T6
            exact SmT.but ht (W6.cutB C)
          have TC := W6.cutT C
          have lsC := C.get W6.lst (fun _ z => by cases z)
          have rkC := Rep.smT smC _ _ rk
          have rhC := Rep.smT smC _ _ rh
          have ryC := Rep.smT smC _ _ ry6
          have rzC := Rep.smT smC _ _ rz6
          have cxC := fun (x : Cas) (hx : x ∈ xs) => W6.cutX C hx
          obtain ⟨Hc, hHc⟩ : ∃ Hc, Hc = cutL (xs.map fun x => x.p) L4 := ⟨_, rfl⟩
          rw [← hHc] at smC TC lsC rkC rhC ryC rzC cxC ⊢
          refine ⟨⟨_, .of (vw_lst lsC)⟩, fun rr H2' hrr S2' h2' => ?_⟩
          refine comp_pairs (its := xs.map fun x => V.ref x.t) (ps := xs.map fun x => (V.ref x.p, V.ref x.d)) (fun i zs H' => Same (vw K Hc) (vw K H') ∧ zs = []) (by simp) (fun i zs H' _ _ p => ⟨items_list (p.1 _ _ lsC), fun j u v e => ?_⟩) h2' ⟨S2', rfl⟩ (fun i u v zs H3' hi huv h3' p => ?_) (fun zs H3' h3' p => ?_)
          · rw [List.getElem?_map] at e ⊢
            cases ex : xs[j]? with
            | none => rw [ex] at e; cases e
            | some x =>
              rw [ex] at e
              cases e
              exact ⟨x.t, rfl, p.1 _ _ (cxC x (List.mem_of_getElem? ex)).1⟩
          · obtain ⟨S3', rfl⟩ := p
            rw [List.getElem?_map] at huv
            cases ex : xs[i]? with
            | none => rw [ex] at huv; cases huv
            | some x =>
              rw [ex] at huv
              cases huv
              have hx := List.mem_of_getElem? ex
              obtain ⟨d, hm, hR⟩ := e3 x hx
              obtain ⟨qs, eds, lq, ht⟩ := (hRr _ _).mp hR
              obtain ⟨z1, z2, zs, z3, z4⟩ := cxC x hx
              rw [eds] at z4
              walk_at "vc"
              simp only [tWithV]
              walk_at "vc"
              refine ⟨_, List.mem_map.mpr ⟨(d, x.p, x.c), hm, rfl⟩, rfl, S3' _ _ z2, ?_⟩
              simp only [sp__law_right]
              refine ⟨x.d, hd, kp, qs, as, bs, rfl, ⟨zs, S3' _ _ z3, Reps.same S3' _ _ z4⟩, Rep.same S3' _ _ rhC, Rep.same S3' _ _ rkC, lq, fun H' Q' S' hQ => ht _ H' Q' rfl rfl rfl (Rep.same (S3'.trans S') _ _ rhC) (Rep.same (S3'.trans S') _ _ ryC) (Rep.same (S3'.trans S') _ _ rzC) hQ, fun H' S' => ?_⟩
              walk_at "vc"
              exact ⟨⟨_, _, rfl⟩, _, S' _ _ h3', S3'.trans S', rfl⟩
          · obtain ⟨S3', rfl⟩ := p
            refine ⟨by decide, fun k' H4' hk' S4' h4' => ⟨k', rfl, _, S4' _ _ h3', h4', ?_⟩⟩
            refine iteN (by decide) ((hPv _ _ _).mpr ⟨_, _, _, _, _, _, _, _, _, _, rfl, ?_, ?_⟩)
            · exact s1.trans (M6.trans (smC.trans (SmT.of (S3'.trans S4'))))
            · exact TC.same (S3'.trans S4')
        simp only [sp__law_take]
        refine ⟨st, 3, rfl, st4, by decide, by decide, fun r5 H5 r50 r51 B5 st5 => ⟨rfl, ?_⟩⟩
        have S15 := S14.but_trans hst0 B5
        have l35 := l34.stBut (spt_flats _) (spt_no _) st4 B5
        have l45 := l4.stBut (spt_flats _) (spt_no _) st4 B5
        have T5 := tab_stBut T4 st4 B5
        by_cases hr5 : r5 = 0
        · refine iteP (by rw [hr5]) ?_
          obtain ⟨xs, hxs, rxs⟩ := id l35
          have lx : xs.length = as.length := by rw [rxs.length, List.length_map]
          refine ⟨xs, hxs, fun k6 H6 hk6 S6 h6 => ⟨k6, rfl, ⟨_, .of (vw_lst h6)⟩, fun c7 H7 hc7 S7 h7 => ?_⟩⟩
          rw [cut_one] at h6
          have l6 : FlAt (vw K H6) k6 ((as.drop 1).map spt) := ⟨_, h6, by rw [List.map_drop]; exact (rxs.same S6).drop 1⟩
          obtain ⟨xs6, qs6, hxs6, lx6, lq6, hq6⟩ := spt_rows l6
          have nst6 : st ≠ c7 := ((st5.same S6).ne hc7).symm
          have st6 := st5.same S6
          refine comp_pairs (its := xs6) (ps := qs6) (fun i ys H' => But st (vw K H6) (vw K H') ∧ StOk (vw K H') st ∧ ∃ cs : List Spt, Reps (vw K H') (cs.map spt) ys ∧ cs.length = i ∧ Fqs cs ∧ Bws 100 10 cs) (by walk_at "o") (fun i ys H' _ _ p => ⟨items_list (p.1 _ _ (l6.ne_st (spt_no _) st6) hxs6), fun j u v e => ?_⟩) h7 ⟨S7.but st, st6.same S7, [], .mk_nil, rfl, (fun c hc => by cases hc), (fun c hc => by cases hc)⟩ (fun i u v ys H8 hi huv h8 p => ?_) (fun ys H8 h8 p => ?_)
          · have hj : j < (as.drop 1).length := by rw [← lq6]; exact (List.getElem?_eq_some_iff.mp e).1
            obtain ⟨p', u', v', e1, e2, e3, _⟩ := hq6 j _ (List.getElem?_eq_getElem hj)
            rw [e] at e1
            cases e1
            obtain ⟨_, _, est, _⟩ := st6
            exact ⟨p', e2, p.1 _ _ (ne_of e3 est (by intro z; cases z)) e3⟩
          · obtain ⟨B8, st8, cs, ry, lcs, fcs, bcs⟩ := p
            have hi'' : i < (as.drop 1).length := by walk_at "o"
            obtain ⟨p', u', v', e1, e2, e3, e4, _⟩ := hq6 i _ (List.getElem?_eq_getElem hi'')
            rw [huv] at e1
            cases e1
            have hm := List.mem_of_mem_drop (List.getElem_mem hi'')
            generalize (as.drop 1)[i] = dd at *
            obtain ⟨_, _, est6, _⟩ := id st6
            have ru8 := Rep.flat_but est6 B8 _ _ (fr_flat _) e4
            walk_at "vc"
            simp only [sp__law_above]
            refine ⟨st, rfl, st8, fun v9 H9 q9 B9 st9 r9 fq9 p9 b9 x9 => ⟨by decide, fun p10 H10 hp10 S10 h10 => ?_⟩⟩
            obtain ⟨_, _, est8, _⟩ := id st8
            have h10c := S10 _ _ (B9 _ _ nst6.symm h8)
            have ly : ys.length = cs.length := by rw [ry.length, List.length_map]
            have l1 : (as.drop 1).length = as.length - 1 := List.length_drop
            refine .mk2 h10c ?_ fun H11 B11 h11 => ⟨fun b o hb e => B11 _ _ (ne_of_none e hc7) (S10 _ _ (B9 _ _ hb (B8 _ _ hb e))), (st9.same S10).but h10c nst6 B11, cs ++ [(dd.1, q9)], ?_, by rw [List.length_append, lcs]; rfl, fun c hc => ?_, fun c hc => ?_⟩
            · rw [ly, lcs]
              exact Nat.lt_of_lt_of_le (show i < 10 by walk_at "o") (by decide)
            · rw [List.map_append]
              exact (Reps.flat_but h10c B11 _ _ (spt_flats _) ((Reps.flat_but est8 B9 _ _ (spt_flats _) ry).same S10)).snoc (.mk_spt (B11 _ _ (fun z => by rw [z, B9 _ _ nst6.symm h8] at hp10; cases hp10) h10) (Rep.flat_but h10c B11 _ _ (fr_flat _) (Rep.same S10 _ _ (Rep.flat_but est8 B9 _ _ (fr_flat _) ru8))) (Rep.flat_but h10c B11 _ _ (fr_flat _) (Rep.same S10 _ _ r9)))
            · rcases List.mem_append.mp hc with z | z
              · exact fcs c z
              · cases List.mem_singleton.mp z
                exact ⟨(fa dd hm).1, fq9⟩
            · rcases List.mem_append.mp hc with z | z
              · exact bcs c z
              · cases List.mem_singleton.mp z
                exact ⟨(ba dd hm).1, b9⟩
          · obtain ⟨B8, st8, cs, ry, lcs, fcs, bcs⟩ := p
            have l1 : (as.drop 1).length = as.length - 1 := List.length_drop
            exact key c7 cs H8 ((S15.trans S6).but_trans hst0 B8) st8 (tab_stBut (T5.same S6) st6 B8) ((l35.same S6).stBut (spt_flats _) (spt_no _) st6 B8) ⟨ys, h8, ry⟩ fcs bcs (by walk_at "o")
        · refine iteN (by rw [V.int.injEq]; exact hr5) (key ob bs0 H5 S15 st5 T5 l35 l45 fb0 bb nb)
      · obtain ⟨o1, o2, o3, o4, o5, o6, o7, o8, o9, o10, rfl, s1, T1⟩ := (hPv _ _ _).mp pv
        walk_at "vc"
    · rintro σ H2 ⟨o1, o2, o3, o4, o5, o6, o7, o8, o9, o10, rfl⟩
      walk_at "vc"
      exact h _
end
theorem all_mk {l : PySem.W.OpenLaw} {w : World} {K : PySem.W.Frag} {h : Heap} {mg : Str → Option Value} {fa f0 f1 f2 f3 f4 f5 f6 f7 f8 f9 f10 f11 f12 f13 f14 f15 f16 f17 f18 f19 f20 f21 f22 f23 f24 f25 f26 f27 : Addr} (X : K.In h) (G : h.Ns mainGlobals mg) (hfa : mg "law" = some (.ref fa))
    {od0 an0 od1 an1 od2 an2 od3 an3 od4 an4 od5 an5 od6 an6 od7 an7 od8 an8 od9 an9 od10 an10 od11 an11 od12 an12 od13 an13 od14 an14 od15 an15 od16 an16 od17 an17 od18 an18 od19 an19 od20 an20 od21 an21 od22 an22 od23 an23 od24 an24 od25 an25 od26 an26 od27 an27 : Option Addr} {sl0 sl1 sl2 sl3 sl4 sl5 sl6 sl7 sl8 sl9 sl10 sl11 sl12 sl13 sl14 sl15 sl16 sl17 sl18 sl19 sl20 sl21 sl22 sl23 sl24 sl25 sl26 sl27 : Array (Option Value)}
    {oc0 kV0 dc0 pm0 cd0 ct0 oc1 kV1 dc1 pm1 cd1 ct1 oc2 kV2 dc2 pm2 cd2 ct2 oc3 kV3 dc3 pm3 cd3 ct3 oc4 kV4 dc4 pm4 cd4 ct4 oc5 kV5 dc5 pm5 cd5 ct5 oc6 kV6 dc6 pm6 cd6 ct6 oc7 kV7 dc7 pm7 cd7 ct7 oc8 kV8 dc8 pm8 cd8 ct8 oc9 kV9 dc9 pm9 cd9 ct9 oc10 kV10 dc10 pm10 cd10 ct10 oc11 kV11 dc11 pm11 cd11 ct11 oc12 kV12 dc12 pm12 cd12 ct12 oc13 kV13 dc13 pm13 cd13 ct13 oc14 kV14 dc14 pm14 cd14 ct14 oc15 kV15 dc15 pm15 cd15 ct15 oc16 kV16 dc16 pm16 cd16 ct16 oc17 kV17 dc17 pm17 cd17 ct17 oc18 kV18 dc18 pm18 cd18 ct18 oc19 kV19 dc19 pm19 cd19 ct19 oc20 kV20 dc20 pm20 cd20 ct20 oc21 kV21 dc21 pm21 cd21 ct21 oc22 kV22 dc22 pm22 cd22 ct22 oc23 kV23 dc23 pm23 cd23 ct23 oc24 kV24 dc24 pm24 cd24 ct24 oc25 kV25 dc25 pm25 cd25 ct25 oc26 kV26 dc26 pm26 cd26 ct26 oc27 kV27 dc27 pm27 cd27 ct27 : Value}
    (a0 : PySem.W.nsIn K mainGlobals "greatest_divisor" = some (some (.ref f0))) (l0 : K.lookup f0 = some ⟨oc0, od0, .func (PySem.W.fnOf "greatest_divisor" "greatest_divisor" (defArgs s_greatest_divisor) (defBody s_greatest_divisor) (defScope s_greatest_divisor) .none kV0 dc0 pm0 an0 cd0 ct0), sl0⟩) (c0 : PySem.W.codeIn K cd0 "greatest_divisor" = true) (k0 : PySem.W.keepIn K (.ref f0) = true)
    (a1 : PySem.W.nsIn K mainGlobals "ratio" = some (some (.ref f1))) (l1 : K.lookup f1 = some ⟨oc1, od1, .func (PySem.W.fnOf "ratio" "ratio" (defArgs s_ratio) (defBody s_ratio) (defScope s_ratio) .none kV1 dc1 pm1 an1 cd1 ct1), sl1⟩) (c1 : PySem.W.codeIn K cd1 "ratio" = true) (k1 : PySem.W.keepIn K (.ref f1) = true)
    (a2 : PySem.W.nsIn K mainGlobals "plus" = some (some (.ref f2))) (l2 : K.lookup f2 = some ⟨oc2, od2, .func (PySem.W.fnOf "plus" "plus" (defArgs s_plus) (defBody s_plus) (defScope s_plus) .none kV2 dc2 pm2 an2 cd2 ct2), sl2⟩) (c2 : PySem.W.codeIn K cd2 "plus" = true) (k2 : PySem.W.keepIn K (.ref f2) = true)
    (a3 : PySem.W.nsIn K mainGlobals "times" = some (some (.ref f3))) (l3 : K.lookup f3 = some ⟨oc3, od3, .func (PySem.W.fnOf "times" "times" (defArgs s_times) (defBody s_times) (defScope s_times) .none kV3 dc3 pm3 an3 cd3 ct3), sl3⟩) (c3 : PySem.W.codeIn K cd3 "times" = true) (k3 : PySem.W.keepIn K (.ref f3) = true)
    (a4 : PySem.W.nsIn K mainGlobals "cleared" = some (some (.ref f4))) (l4 : K.lookup f4 = some ⟨oc4, od4, .func (PySem.W.fnOf "cleared" "cleared" (defArgs s_cleared) (defBody s_cleared) (defScope s_cleared) .none kV4 dc4 pm4 an4 cd4 ct4), sl4⟩) (c4 : PySem.W.codeIn K cd4 "cleared" = true) (k4 : PySem.W.keepIn K (.ref f4) = true)
    (a5 : PySem.W.nsIn K mainGlobals "together" = some (some (.ref f5))) (l5 : K.lookup f5 = some ⟨oc5, od5, .func (PySem.W.fnOf "together" "together" (defArgs s_together) (defBody s_together) (defScope s_together) .none kV5 dc5 pm5 an5 cd5 ct5), sl5⟩) (c5 : PySem.W.codeIn K cd5 "together" = true) (k5 : PySem.W.keepIn K (.ref f5) = true)
    (a6 : PySem.W.nsIn K mainGlobals "crowd_moved" = some (some (.ref f6))) (l6 : K.lookup f6 = some ⟨oc6, od6, .func (PySem.W.fnOf "crowd_moved" "crowd_moved" (defArgs s_crowd_moved) (defBody s_crowd_moved) (defScope s_crowd_moved) .none kV6 dc6 pm6 an6 cd6 ct6), sl6⟩) (c6 : PySem.W.codeIn K cd6 "crowd_moved" = true) (k6 : PySem.W.keepIn K (.ref f6) = true)
    (a7 : PySem.W.nsIn K mainGlobals "crowd_grown" = some (some (.ref f7))) (l7 : K.lookup f7 = some ⟨oc7, od7, .func (PySem.W.fnOf "crowd_grown" "crowd_grown" (defArgs s_crowd_grown) (defBody s_crowd_grown) (defScope s_crowd_grown) .none kV7 dc7 pm7 an7 cd7 ct7), sl7⟩) (c7 : PySem.W.codeIn K cd7 "crowd_grown" = true) (k7 : PySem.W.keepIn K (.ref f7) = true)
    (a8 : PySem.W.nsIn K mainGlobals "crowd_weighted" = some (some (.ref f8))) (l8 : K.lookup f8 = some ⟨oc8, od8, .func (PySem.W.fnOf "crowd_weighted" "crowd_weighted" (defArgs s_crowd_weighted) (defBody s_crowd_weighted) (defScope s_crowd_weighted) .none kV8 dc8 pm8 an8 cd8 ct8), sl8⟩) (c8 : PySem.W.codeIn K cd8 "crowd_weighted" = true) (k8 : PySem.W.keepIn K (.ref f8) = true)
    (a9 : PySem.W.nsIn K mainGlobals "crowd_poured" = some (some (.ref f9))) (l9 : K.lookup f9 = some ⟨oc9, od9, .func (PySem.W.fnOf "crowd_poured" "crowd_poured" (defArgs s_crowd_poured) (defBody s_crowd_poured) (defScope s_crowd_poured) .none kV9 dc9 pm9 an9 cd9 ct9), sl9⟩) (c9 : PySem.W.codeIn K cd9 "crowd_poured" = true) (k9 : PySem.W.keepIn K (.ref f9) = true)
    (a10 : PySem.W.nsIn K mainGlobals "crowd_added" = some (some (.ref f10))) (l10 : K.lookup f10 = some ⟨oc10, od10, .func (PySem.W.fnOf "crowd_added" "crowd_added" (defArgs s_crowd_added) (defBody s_crowd_added) (defScope s_crowd_added) .none kV10 dc10 pm10 an10 cd10 ct10), sl10⟩) (c10 : PySem.W.codeIn K cd10 "crowd_added" = true) (k10 : PySem.W.keepIn K (.ref f10) = true)
    (a11 : PySem.W.nsIn K mainGlobals "crowd_multiplied" = some (some (.ref f11))) (l11 : K.lookup f11 = some ⟨oc11, od11, .func (PySem.W.fnOf "crowd_multiplied" "crowd_multiplied" (defArgs s_crowd_multiplied) (defBody s_crowd_multiplied) (defScope s_crowd_multiplied) .none kV11 dc11 pm11 an11 cd11 ct11), sl11⟩) (c11 : PySem.W.codeIn K cd11 "crowd_multiplied" = true) (k11 : PySem.W.keepIn K (.ref f11) = true)
    (a12 : PySem.W.nsIn K mainGlobals "_law_less" = some (some (.ref f12))) (l12 : K.lookup f12 = some ⟨oc12, od12, .func (PySem.W.fnOf "_law_less" "_law_less" (defArgs s__law_less) (defBody s__law_less) (defScope s__law_less) .none kV12 dc12 pm12 an12 cd12 ct12), sl12⟩) (c12 : PySem.W.codeIn K cd12 "_law_less" = true) (k12 : PySem.W.keepIn K (.ref f12) = true)
    (a13 : PySem.W.nsIn K mainGlobals "_law_divisor" = some (some (.ref f13))) (l13 : K.lookup f13 = some ⟨oc13, od13, .func (PySem.W.fnOf "_law_divisor" "_law_divisor" (defArgs s__law_divisor) (defBody s__law_divisor) (defScope s__law_divisor) .none kV13 dc13 pm13 an13 cd13 ct13), sl13⟩) (c13 : PySem.W.codeIn K cd13 "_law_divisor" = true) (k13 : PySem.W.keepIn K (.ref f13) = true)
    (a14 : PySem.W.nsIn K mainGlobals "_law_low" = some (some (.ref f14))) (l14 : K.lookup f14 = some ⟨oc14, od14, .func (PySem.W.fnOf "_law_low" "_law_low" (defArgs s__law_low) (defBody s__law_low) (defScope s__law_low) .none kV14 dc14 pm14 an14 cd14 ct14), sl14⟩) (c14 : PySem.W.codeIn K cd14 "_law_low" = true) (k14 : PySem.W.keepIn K (.ref f14) = true)
    (a15 : PySem.W.nsIn K mainGlobals "_law_plus" = some (some (.ref f15))) (l15 : K.lookup f15 = some ⟨oc15, od15, .func (PySem.W.fnOf "_law_plus" "_law_plus" (defArgs s__law_plus) (defBody s__law_plus) (defScope s__law_plus) .none kV15 dc15 pm15 an15 cd15 ct15), sl15⟩) (c15 : PySem.W.codeIn K cd15 "_law_plus" = true) (k15 : PySem.W.keepIn K (.ref f15) = true)
    (a16 : PySem.W.nsIn K mainGlobals "_law_times" = some (some (.ref f16))) (l16 : K.lookup f16 = some ⟨oc16, od16, .func (PySem.W.fnOf "_law_times" "_law_times" (defArgs s__law_times) (defBody s__law_times) (defScope s__law_times) .none kV16 dc16 pm16 an16 cd16 ct16), sl16⟩) (c16 : PySem.W.codeIn K cd16 "_law_times" = true) (k16 : PySem.W.keepIn K (.ref f16) = true)
    (a17 : PySem.W.nsIn K mainGlobals "_law_same" = some (some (.ref f17))) (l17 : K.lookup f17 = some ⟨oc17, od17, .func (PySem.W.fnOf "_law_same" "_law_same" (defArgs s__law_same) (defBody s__law_same) (defScope s__law_same) .none kV17 dc17 pm17 an17 cd17 ct17), sl17⟩) (c17 : PySem.W.codeIn K cd17 "_law_same" = true) (k17 : PySem.W.keepIn K (.ref f17) = true)
    (a18 : PySem.W.nsIn K mainGlobals "_law_cell_at" = some (some (.ref f18))) (l18 : K.lookup f18 = some ⟨oc18, od18, .func (PySem.W.fnOf "_law_cell_at" "_law_cell_at" (defArgs s__law_cell_at) (defBody s__law_cell_at) (defScope s__law_cell_at) .none kV18 dc18 pm18 an18 cd18 ct18), sl18⟩) (c18 : PySem.W.codeIn K cd18 "_law_cell_at" = true) (k18 : PySem.W.keepIn K (.ref f18) = true)
    (a19 : PySem.W.nsIn K mainGlobals "_law_state" = some (some (.ref f19))) (l19 : K.lookup f19 = some ⟨oc19, od19, .func (PySem.W.fnOf "_law_state" "_law_state" (defArgs s__law_state) (defBody s__law_state) (defScope s__law_state) .none kV19 dc19 pm19 an19 cd19 ct19), sl19⟩) (c19 : PySem.W.codeIn K cd19 "_law_state" = true) (k19 : PySem.W.keepIn K (.ref f19) = true)
    (a20 : PySem.W.nsIn K mainGlobals "_law_take" = some (some (.ref f20))) (l20 : K.lookup f20 = some ⟨oc20, od20, .func (PySem.W.fnOf "_law_take" "_law_take" (defArgs s__law_take) (defBody s__law_take) (defScope s__law_take) .none kV20 dc20 pm20 an20 cd20 ct20), sl20⟩) (c20 : PySem.W.codeIn K cd20 "_law_take" = true) (k20 : PySem.W.keepIn K (.ref f20) = true)
    (a21 : PySem.W.nsIn K mainGlobals "_law_small" = some (some (.ref f21))) (l21 : K.lookup f21 = some ⟨oc21, od21, .func (PySem.W.fnOf "_law_small" "_law_small" (defArgs s__law_small) (defBody s__law_small) (defScope s__law_small) .none kV21 dc21 pm21 an21 cd21 ct21), sl21⟩) (c21 : PySem.W.codeIn K cd21 "_law_small" = true) (k21 : PySem.W.keepIn K (.ref f21) = true)
    (a22 : PySem.W.nsIn K mainGlobals "_law_above" = some (some (.ref f22))) (l22 : K.lookup f22 = some ⟨oc22, od22, .func (PySem.W.fnOf "_law_above" "_law_above" (defArgs s__law_above) (defBody s__law_above) (defScope s__law_above) .none kV22 dc22 pm22 an22 cd22 ct22), sl22⟩) (c22 : PySem.W.codeIn K cd22 "_law_above" = true) (k22 : PySem.W.keepIn K (.ref f22) = true)
    (a23 : PySem.W.nsIn K mainGlobals "_law_crowd" = some (some (.ref f23))) (l23 : K.lookup f23 = some ⟨oc23, od23, .func (PySem.W.fnOf "_law_crowd" "_law_crowd" (defArgs s__law_crowd) (defBody s__law_crowd) (defScope s__law_crowd) .none kV23 dc23 pm23 an23 cd23 ct23), sl23⟩) (c23 : PySem.W.codeIn K cd23 "_law_crowd" = true) (k23 : PySem.W.keepIn K (.ref f23) = true)
    (a24 : PySem.W.nsIn K mainGlobals "_law_gathered" = some (some (.ref f24))) (l24 : K.lookup f24 = some ⟨oc24, od24, .func (PySem.W.fnOf "_law_gathered" "_law_gathered" (defArgs s__law_gathered) (defBody s__law_gathered) (defScope s__law_gathered) .none kV24 dc24 pm24 an24 cd24 ct24), sl24⟩) (c24 : PySem.W.codeIn K cd24 "_law_gathered" = true) (k24 : PySem.W.keepIn K (.ref f24) = true)
    (a25 : PySem.W.nsIn K mainGlobals "_law_each" = some (some (.ref f25))) (l25 : K.lookup f25 = some ⟨oc25, od25, .func (PySem.W.fnOf "_law_each" "_law_each" (defArgs s__law_each) (defBody s__law_each) (defScope s__law_each) .none kV25 dc25 pm25 an25 cd25 ct25), sl25⟩) (c25 : PySem.W.codeIn K cd25 "_law_each" = true) (k25 : PySem.W.keepIn K (.ref f25) = true)
    (a26 : PySem.W.nsIn K mainGlobals "_law_right" = some (some (.ref f26))) (l26 : K.lookup f26 = some ⟨oc26, od26, .func (PySem.W.fnOf "_law_right" "_law_right" (defArgs s__law_right) (defBody s__law_right) (defScope s__law_right) .none kV26 dc26 pm26 an26 cd26 ct26), sl26⟩) (c26 : PySem.W.codeIn K cd26 "_law_right" = true) (k26 : PySem.W.keepIn K (.ref f26) = true)
    (a27 : PySem.W.nsIn K mainGlobals "law" = some (some (.ref f27))) (l27 : K.lookup f27 = some ⟨oc27, od27, .func (PySem.W.fnOf "law" "law" (defArgs s_law) (defBody s_law) (defScope s_law) .none kV27 dc27 pm27 an27 cd27 ct27), sl27⟩) (c27 : PySem.W.codeIn K cd27 "law" = true) (k27 : PySem.W.keepIn K (.ref f27) = true)
    (z0 : PySem.W.nsIn K mainGlobals "abs" = some none)
    (z1 : PySem.W.nsIn K mainGlobals "sorted" = some none)
    (z2 : PySem.W.nsIn K mainGlobals "zip" = some none)
    (z3 : PySem.W.nsIn K mainGlobals "list" = some none)
    (z4 : PySem.W.nsIn K mainGlobals "isinstance" = some none)
    (z5 : PySem.W.nsIn K mainGlobals "bool" = some none)
    (z6 : PySem.W.nsIn K mainGlobals "tuple" = some none)
    (z7 : PySem.W.nsIn K mainGlobals "all" = some none)
    (z8 : PySem.W.nsIn K mainGlobals "len" = some none)
    (z9 : PySem.W.nsIn K mainGlobals "range" = some none)
    (z10 : PySem.W.nsIn K mainGlobals "max" = some none)
    (z11 : PySem.W.nsIn K mainGlobals "min" = some none)
    (z12 : PySem.W.nsIn K mainGlobals "int" = some none)
    (m27 : cd27 = .ref 214) (o27 : PySem.W.codeHdIn K 214 212 = true)
    : ∃ fd : FuncData, (∀ (s : Shared) (v : Value), BindsTo s fd ⟨[v], []⟩ [("_law_script", v)]) ∧ ∀ base : Heap, K.In base → base.Ns mainGlobals mg → BltB mg base → FnOk l.prog w K mg base CX0 9 fa fd ["_law_script"] (spLaw K) := by
  have e := hfa.symm.trans (PySem.W.mg_of X G a27)
  cases e
  have T : Txt K mg := ⟨trivial, PySem.W.mg_none_of X G z0, PySem.W.mg_none_of X G z1, PySem.W.mg_none_of X G z2, PySem.W.mg_none_of X G z3, PySem.W.mg_none_of X G z4, PySem.W.mg_none_of X G z5, PySem.W.mg_none_of X G z6, PySem.W.mg_none_of X G z7, PySem.W.mg_none_of X G z8, PySem.W.mg_none_of X G z9, PySem.W.mg_none_of X G z10, PySem.W.mg_none_of X G z11, PySem.W.mg_none_of X G z12⟩
  refine ⟨PySem.W.fnOf "law" "law" (defArgs s_law) (defBody s_law) (defScope s_law) .none kV27 dc27 pm27 an27 cd27 ct27, fun s v => .of_eq rfl, fun base kb nb hB => ?_⟩
  have F_greatest_divisor := fun_mk (st := s_greatest_divisor) l0 c0 k0
  have C_greatest_divisor : Cal l.prog w K mg base "greatest_divisor" ["one", "other"] 1 (sp_greatest_divisor K) := ⟨_, _, ok_greatest_divisor F_greatest_divisor T , PySem.W.mg_of X G a0, k0, (F_greatest_divisor.binds fun _ _ _ _ _ _ us hl => binds2 (g := fun us => bindArgs _ ⟨us, []⟩) (z := fun us => pure (List.zip _ us)) us hl fun _ _ => rfl)⟩
  have F_ratio := fun_mk (st := s_ratio) l1 c1 k1
  have C_ratio : Cal l.prog w K mg base "ratio" ["top", "bottom"] 2 (sp_ratio K) := ⟨_, _, ok_ratio F_ratio T (C_greatest_divisor := C_greatest_divisor), PySem.W.mg_of X G a1, k1, (F_ratio.binds fun _ _ _ _ _ _ us hl => binds2 (g := fun us => bindArgs _ ⟨us, []⟩) (z := fun us => pure (List.zip _ us)) us hl fun _ _ => rfl)⟩
  have F_plus := fun_mk (st := s_plus) l2 c2 k2
  have C_plus : Cal l.prog w K mg base "plus" ["one", "other"] 3 (sp_plus K) := ⟨_, _, ok_plus F_plus T (C_ratio := C_ratio), PySem.W.mg_of X G a2, k2, (F_plus.binds fun _ _ _ _ _ _ us hl => binds2 (g := fun us => bindArgs _ ⟨us, []⟩) (z := fun us => pure (List.zip _ us)) us hl fun _ _ => rfl)⟩
  have F_times := fun_mk (st := s_times) l3 c3 k3
  have C_times : Cal l.prog w K mg base "times" ["one", "other"] 3 (sp_times K) := ⟨_, _, ok_times F_times T (C_ratio := C_ratio), PySem.W.mg_of X G a3, k3, (F_times.binds fun _ _ _ _ _ _ us hl => binds2 (g := fun us => bindArgs _ ⟨us, []⟩) (z := fun us => pure (List.zip _ us)) us hl fun _ _ => rfl)⟩
  have F_cleared := fun_mk (st := s_cleared) l4 c4 k4
  have C_cleared : Cal l.prog w K mg base "cleared" ["f"] 2 (sp_cleared K) := ⟨_, _, ok_cleared F_cleared T (C_greatest_divisor := C_greatest_divisor), PySem.W.mg_of X G a4, k4, (F_cleared.binds fun _ _ _ _ _ _ us hl => binds1 (g := fun us => bindArgs _ ⟨us, []⟩) (z := fun us => pure (List.zip _ us)) us hl fun _ => rfl)⟩
  have F_together := fun_mk (st := s_together) l5 c5 k5
  have C_together : Cal l.prog w K mg base "together" ["pairs"] 4 (sp_together K) := ⟨_, _, ok_together F_together T (C_cleared := C_cleared) (C_plus := C_plus), PySem.W.mg_of X G a5, k5, (F_together.binds fun _ _ _ _ _ _ us hl => binds1 (g := fun us => bindArgs _ ⟨us, []⟩) (z := fun us => pure (List.zip _ us)) us hl fun _ => rfl)⟩
  have F_crowd_moved := fun_mk (st := s_crowd_moved) l6 c6 k6
  have C_crowd_moved : Cal l.prog w K mg base "crowd_moved" ["crowd", "by"] 5 (sp_crowd_moved K) := ⟨_, _, ok_crowd_moved F_crowd_moved T (C_together := C_together) (C_plus := C_plus), PySem.W.mg_of X G a6, k6, (F_crowd_moved.binds fun _ _ _ _ _ _ us hl => binds2 (g := fun us => bindArgs _ ⟨us, []⟩) (z := fun us => pure (List.zip _ us)) us hl fun _ _ => rfl)⟩
  have F_crowd_grown := fun_mk (st := s_crowd_grown) l7 c7 k7
  have C_crowd_grown : Cal l.prog w K mg base "crowd_grown" ["crowd", "by"] 5 (sp_crowd_grown K) := ⟨_, _, ok_crowd_grown F_crowd_grown T (C_together := C_together) (C_times := C_times), PySem.W.mg_of X G a7, k7, (F_crowd_grown.binds fun _ _ _ _ _ _ us hl => binds2 (g := fun us => bindArgs _ ⟨us, []⟩) (z := fun us => pure (List.zip _ us)) us hl fun _ _ => rfl)⟩
  have F_crowd_weighted := fun_mk (st := s_crowd_weighted) l8 c8 k8
  have C_crowd_weighted : Cal l.prog w K mg base "crowd_weighted" ["crowd", "by"] 4 (sp_crowd_weighted K) := ⟨_, _, ok_crowd_weighted F_crowd_weighted T (C_times := C_times), PySem.W.mg_of X G a8, k8, (F_crowd_weighted.binds fun _ _ _ _ _ _ us hl => binds2 (g := fun us => bindArgs _ ⟨us, []⟩) (z := fun us => pure (List.zip _ us)) us hl fun _ _ => rfl)⟩
  have F_crowd_poured := fun_mk (st := s_crowd_poured) l9 c9 k9
  have C_crowd_poured : Cal l.prog w K mg base "crowd_poured" ["one", "other"] 5 (sp_crowd_poured K) := ⟨_, _, ok_crowd_poured F_crowd_poured T (C_together := C_together), PySem.W.mg_of X G a9, k9, (F_crowd_poured.binds fun _ _ _ _ _ _ us hl => binds2 (g := fun us => bindArgs _ ⟨us, []⟩) (z := fun us => pure (List.zip _ us)) us hl fun _ _ => rfl)⟩
  have F_crowd_added := fun_mk (st := s_crowd_added) l10 c10 k10
  have C_crowd_added : Cal l.prog w K mg base "crowd_added" ["one", "other"] 5 (sp_crowd_added K) := ⟨_, _, ok_crowd_added F_crowd_added T (C_together := C_together) (C_times := C_times) (C_plus := C_plus), PySem.W.mg_of X G a10, k10, (F_crowd_added.binds fun _ _ _ _ _ _ us hl => binds2 (g := fun us => bindArgs _ ⟨us, []⟩) (z := fun us => pure (List.zip _ us)) us hl fun _ _ => rfl)⟩
  have F_crowd_multiplied := fun_mk (st := s_crowd_multiplied) l11 c11 k11
  have C_crowd_multiplied : Cal l.prog w K mg base "crowd_multiplied" ["one", "other"] 5 (sp_crowd_multiplied K) := ⟨_, _, ok_crowd_multiplied F_crowd_multiplied T (C_together := C_together) (C_times := C_times), PySem.W.mg_of X G a11, k11, (F_crowd_multiplied.binds fun _ _ _ _ _ _ us hl => binds2 (g := fun us => bindArgs _ ⟨us, []⟩) (z := fun us => pure (List.zip _ us)) us hl fun _ _ => rfl)⟩
  have F__law_less := fun_mk (st := s__law_less) l12 c12 k12
  have C__law_less : Cal l.prog w K mg base "_law_less" ["_law_one", "_law_other"] 1 (sp__law_less K) := ⟨_, _, ok__law_less F__law_less T , PySem.W.mg_of X G a12, k12, (F__law_less.binds fun _ _ _ _ _ _ us hl => binds2 (g := fun us => bindArgs _ ⟨us, []⟩) (z := fun us => pure (List.zip _ us)) us hl fun _ _ => rfl)⟩
  have F__law_divisor := fun_mk (st := s__law_divisor) l13 c13 k13
  have C__law_divisor : Cal l.prog w K mg base "_law_divisor" ["_law_one", "_law_other"] 1 (sp__law_divisor K) := ⟨_, _, ok__law_divisor F__law_divisor T , PySem.W.mg_of X G a13, k13, (F__law_divisor.binds fun _ _ _ _ _ _ us hl => binds2 (g := fun us => bindArgs _ ⟨us, []⟩) (z := fun us => pure (List.zip _ us)) us hl fun _ _ => rfl)⟩
  have F__law_low := fun_mk (st := s__law_low) l14 c14 k14
  have C__law_low : Cal l.prog w K mg base "_law_low" ["_law_top", "_law_bottom"] 2 (sp__law_low K) := ⟨_, _, ok__law_low F__law_low T (C__law_divisor := C__law_divisor), PySem.W.mg_of X G a14, k14, (F__law_low.binds fun _ _ _ _ _ _ us hl => binds2 (g := fun us => bindArgs _ ⟨us, []⟩) (z := fun us => pure (List.zip _ us)) us hl fun _ _ => rfl)⟩
  have F__law_plus := fun_mk (st := s__law_plus) l15 c15 k15
  have C__law_plus : Cal l.prog w K mg base "_law_plus" ["_law_one", "_law_other"] 3 (sp__law_plus K) := ⟨_, _, ok__law_plus F__law_plus T (C__law_low := C__law_low), PySem.W.mg_of X G a15, k15, (F__law_plus.binds fun _ _ _ _ _ _ us hl => binds2 (g := fun us => bindArgs _ ⟨us, []⟩) (z := fun us => pure (List.zip _ us)) us hl fun _ _ => rfl)⟩
  have F__law_times := fun_mk (st := s__law_times) l16 c16 k16
  have C__law_times : Cal l.prog w K mg base "_law_times" ["_law_one", "_law_other"] 3 (sp__law_times K) := ⟨_, _, ok__law_times F__law_times T (C__law_low := C__law_low), PySem.W.mg_of X G a16, k16, (F__law_times.binds fun _ _ _ _ _ _ us hl => binds2 (g := fun us => bindArgs _ ⟨us, []⟩) (z := fun us => pure (List.zip _ us)) us hl fun _ _ => rfl)⟩
  have F__law_same := fun_mk (st := s__law_same) l17 c17 k17
  have C__law_same : Cal l.prog w K mg base "_law_same" ["_law_found", "_law_due"] 6 (sp__law_same 5 K) := all__law_same F__law_same T (PySem.W.mg_of X G a17) k17 (F__law_same.binds fun _ _ _ _ _ _ us hl => binds2 (g := fun us => bindArgs _ ⟨us, []⟩) (z := fun us => pure (List.zip _ us)) us hl fun _ _ => rfl) 5
  have F__law_cell_at := fun_mk (st := s__law_cell_at) l18 c18 k18
  have C__law_cell_at : Cal l.prog w K mg base "_law_cell_at" ["_law_script", "_law_k"] 1 (sp__law_cell_at K) := ⟨_, _, ok__law_cell_at F__law_cell_at T , PySem.W.mg_of X G a18, k18, (F__law_cell_at.binds fun _ _ _ _ _ _ us hl => binds2 (g := fun us => bindArgs _ ⟨us, []⟩) (z := fun us => pure (List.zip _ us)) us hl fun _ _ => rfl)⟩
  have F__law_state := fun_mk (st := s__law_state) l19 c19 k19
  have C__law_state : Cal l.prog w K mg base "_law_state" ["_law_script", "_law_k"] 2 (sp__law_state K) := ⟨_, _, ok__law_state F__law_state T (C__law_cell_at := C__law_cell_at), PySem.W.mg_of X G a19, k19, (F__law_state.binds fun _ _ _ _ _ _ us hl => binds2 (g := fun us => bindArgs _ ⟨us, []⟩) (z := fun us => pure (List.zip _ us)) us hl fun _ _ => rfl)⟩
  have F__law_take := fun_mk (st := s__law_take) l20 c20 k20
  have C__law_take : Cal l.prog w K mg base "_law_take" ["_law_state_here", "_law_many"] 1 (sp__law_take K) := ⟨_, _, ok__law_take F__law_take T , PySem.W.mg_of X G a20, k20, (F__law_take.binds fun _ _ _ _ _ _ us hl => binds2 (g := fun us => bindArgs _ ⟨us, []⟩) (z := fun us => pure (List.zip _ us)) us hl fun _ _ => rfl)⟩
  have F__law_small := fun_mk (st := s__law_small) l21 c21 k21
  have C__law_small : Cal l.prog w K mg base "_law_small" ["_law_state_here"] 3 (sp__law_small K) := ⟨_, _, ok__law_small F__law_small T (C__law_low := C__law_low) (C__law_take := C__law_take), PySem.W.mg_of X G a21, k21, (F__law_small.binds fun _ _ _ _ _ _ us hl => binds1 (g := fun us => bindArgs _ ⟨us, []⟩) (z := fun us => pure (List.zip _ us)) us hl fun _ => rfl)⟩
  have F__law_above := fun_mk (st := s__law_above) l22 c22 k22
  have C__law_above : Cal l.prog w K mg base "_law_above" ["_law_state_here"] 3 (sp__law_above K) := ⟨_, _, ok__law_above F__law_above T (C__law_low := C__law_low) (C__law_take := C__law_take), PySem.W.mg_of X G a22, k22, (F__law_above.binds fun _ _ _ _ _ _ us hl => binds1 (g := fun us => bindArgs _ ⟨us, []⟩) (z := fun us => pure (List.zip _ us)) us hl fun _ => rfl)⟩
  have F__law_crowd := fun_mk (st := s__law_crowd) l23 c23 k23
  have C__law_crowd : Cal l.prog w K mg base "_law_crowd" ["_law_state_here", "_law_most"] 4 (sp__law_crowd K) := ⟨_, _, ok__law_crowd F__law_crowd T (C__law_take := C__law_take) (C__law_plus := C__law_plus) (C__law_above := C__law_above) (C__law_small := C__law_small), PySem.W.mg_of X G a23, k23, (F__law_crowd.binds fun _ _ _ _ _ _ us hl => binds2 (g := fun us => bindArgs _ ⟨us, []⟩) (z := fun us => pure (List.zip _ us)) us hl fun _ _ => rfl)⟩
  have F__law_gathered := fun_mk (st := s__law_gathered) l24 c24 k24
  have C__law_gathered : Cal l.prog w K mg base "_law_gathered" ["_law_pairs"] 4 (sp__law_gathered K) := ⟨_, _, ok__law_gathered F__law_gathered T (C__law_plus := C__law_plus) (C__law_less := C__law_less), PySem.W.mg_of X G a24, k24, (F__law_gathered.binds fun _ _ _ _ _ _ us hl => binds1 (g := fun us => bindArgs _ ⟨us, []⟩) (z := fun us => pure (List.zip _ us)) us hl fun _ => rfl)⟩
  have F__law_each := fun_mk (st := s__law_each) l25 c25 k25
  have C__law_each : Cal l.prog w K mg base "_law_each" ["_law_one", "_law_other", "_law_way"] 5 (sp__law_each K) := ⟨_, _, ok__law_each F__law_each T (C__law_gathered := C__law_gathered) (C__law_times := C__law_times) (C__law_plus := C__law_plus), PySem.W.mg_of X G a25, k25, (F__law_each.binds fun _ _ _ _ _ _ us hl => binds3 (g := fun us => bindArgs _ ⟨us, []⟩) (z := fun us => pure (List.zip _ us)) us hl fun _ _ _ => rfl)⟩
  have F__law_right := fun_mk (st := s__law_right) l26 c26 k26
  have W_ : WithLam l.prog w K mg base "_law_right" 7 (sp__law_right K) := ⟨_, PySem.W.mg_of X G a26, k26, fun A outer s H p c' qual tl σl us vs Q hr e0 L hc r h => ok__law_right F__law_right T (F__law_right.binds fun _ _ _ _ _ _ us hl => binds4 (g := fun us => bindArgs _ ⟨us, []⟩) (z := fun us => pure (List.zip _ us)) us hl fun _ _ _ _ => rfl) (C__law_same := C__law_same) hr e0 L hc r h⟩
  have M_law : MkF K mg base (PySem.W.fnOf "law" "law" (defArgs s_law) (defBody s_law) (defScope s_law) .none kV27 dc27 pm27 an27 cd27 ct27) 214 212 := ⟨m27, PySem.W.codeHd_of_K kb o27, hB⟩
  have F_law := fun_mk (st := s_law) l27 c27 k27
  exact ok_law F_law T M_law W_ (C__law_each := C__law_each) (C_crowd_multiplied := C_crowd_multiplied) (C_crowd_added := C_crowd_added) (C__law_gathered := C__law_gathered) (C_crowd_poured := C_crowd_poured) (C_crowd_weighted := C_crowd_weighted) (C__law_times := C__law_times) (C_crowd_grown := C_crowd_grown) (C__law_plus := C__law_plus) (C_crowd_moved := C_crowd_moved) (C__law_above := C__law_above) (C__law_small := C__law_small) (C__law_take := C__law_take) (C__law_crowd := C__law_crowd) (C__law_state := C__law_state)
theorem walk {l : PySem.W.OpenLaw} {q : Program} {loose : List Str} {XP : (Str → Option Value) → Heap → Prop} {YP : World → Heap → Prop} {d : DefRec} {K : Params → PySem.W.Frag} (hn : l.most = some 63) (hdf : d.params.defaults = [])
    (hY : ∀ (w : World) (h : Heap), YP w h → (K w.params).In h ∧ ∀ q ∈ ([(214, 212)] : List (Addr × Addr)), PySem.W.codeHdIn (K w.params) q.1 q.2 = true ∧ (K w.params).lookup q.2 = none ∧ h.get? q.2 = some (PySem.W.tabObj #[]))
    (F : ∀ (w : World) (mg : Str → Option Value) (fa : Addr) (h : Heap), (K w.params).In h → h.Ns mainGlobals mg → mg d.name = some (.ref fa) →
      ∃ fd : FuncData, (∀ (s : Shared) (u : Value), BindsTo s fd ⟨[u], []⟩ [("_law_script", u)]) ∧ ∀ base : Heap, (K w.params).In base → base.Ns mainGlobals mg → BltB mg base → FnOk l.prog w (K w.params) mg base CX0 9 fa fd ["_law_script"] (spLaw (K w.params))) :
    PySem.W.WalkO q loose XP YP l.row.toRowW d [] (fun f vs => PySem.call f vs) :=
  L2.walk_ofM (ts := fun _ => [(214, 212)]) (n := 63) (k := 9) (x := "_law_script") (CX := fun _ => CX0) (sp := fun w => spLaw (K w.params)) hn (by decide) hdf ⟨rfl, by decide, by decide⟩ hY F (fun _ _ a ns hl hT hK hS => ⟨a, ns, rfl, .of hS hK, hl, .start (hT (214, 212) (by simp)), fun _ => rfl⟩) fun _ _ _ _ _ z => z
end M
open PySem PySem.W PyProof.Rows
set_option maxRecDepth 100000 in
set_option maxHeartbeats 0 in
theorem PySem.Challenge.cw_momentwright_k79_crowds_put_together_holds : PySem.Challenge.rw_momentwright_k79_crowds_put_together.Holds := by
  w_on; o_law; k_head; (case hw => w_witness2)
  k_fill
  refine M.walk (l := PySem.Challenge.rw_momentwright_k79_crowds_put_together) rfl rfl (fun w h Y => ⟨PySem.W.km_in_of Y, ?T⟩) ?F
  case T =>
    have hT := PySem.W.km_tabs_of Y
    intro q hq
    simp only [List.mem_cons, List.not_mem_nil, or_false] at hq
    rcases hq with rfl
    · exact ⟨by kernel_rfl, by kernel_rfl, hT _ (by simp)⟩
  case F =>
    intro w mg fa h KX G hmg
    refine' M.all_mk KX G hmg ?a0 ?l0 ?c0 ?k0 ?a1 ?l1 ?c1 ?k1 ?a2 ?l2 ?c2 ?k2 ?a3 ?l3 ?c3 ?k3 ?a4 ?l4 ?c4 ?k4 ?a5 ?l5 ?c5 ?k5 ?a6 ?l6 ?c6 ?k6 ?a7 ?l7 ?c7 ?k7 ?a8 ?l8 ?c8 ?k8 ?a9 ?l9 ?c9 ?k9 ?a10 ?l10 ?c10 ?k10 ?a11 ?l11 ?c11 ?k11 ?a12 ?l12 ?c12 ?k12 ?a13 ?l13 ?c13 ?k13 ?a14 ?l14 ?c14 ?k14 ?a15 ?l15 ?c15 ?k15 ?a16 ?l16 ?c16 ?k16 ?a17 ?l17 ?c17 ?k17 ?a18 ?l18 ?c18 ?k18 ?a19 ?l19 ?c19 ?k19 ?a20 ?l20 ?c20 ?k20 ?a21 ?l21 ?c21 ?k21 ?a22 ?l22 ?c22 ?k22 ?a23 ?l23 ?c23 ?k23 ?a24 ?l24 ?c24 ?k24 ?a25 ?l25 ?c25 ?k25 ?a26 ?l26 ?c26 ?k26 ?a27 ?l27 ?c27 ?k27   ?z0 ?z1 ?z2 ?z3 ?z4 ?z5 ?z6 ?z7 ?z8 ?z9 ?z10 ?z11 ?z12  ?m27 ?o27
    (case a0 => k_is); (case l0 => k_is); (case c0 => k_is); (case k0 => k_is)
    (case a1 => k_is); (case l1 => k_is); (case c1 => k_is); (case k1 => k_is)
    (case a2 => k_is); (case l2 => k_is); (case c2 => k_is); (case k2 => k_is)
    (case a3 => k_is); (case l3 => k_is); (case c3 => k_is); (case k3 => k_is)
    (case a4 => k_is); (case l4 => k_is); (case c4 => k_is); (case k4 => k_is)
    (case a5 => k_is); (case l5 => k_is); (case c5 => k_is); (case k5 => k_is)
    (case a6 => k_is); (case l6 => k_is); (case c6 => k_is); (case k6 => k_is)
    (case a7 => k_is); (case l7 => k_is); (case c7 => k_is); (case k7 => k_is)
    (case a8 => k_is); (case l8 => k_is); (case c8 => k_is); (case k8 => k_is)
    (case a9 => k_is); (case l9 => k_is); (case c9 => k_is); (case k9 => k_is)
    (case a10 => k_is); (case l10 => k_is); (case c10 => k_is); (case k10 => k_is)
    (case a11 => k_is); (case l11 => k_is); (case c11 => k_is); (case k11 => k_is)
    (case a12 => k_is); (case l12 => k_is); (case c12 => k_is); (case k12 => k_is)
    (case a13 => k_is); (case l13 => k_is); (case c13 => k_is); (case k13 => k_is)
    (case a14 => k_is); (case l14 => k_is); (case c14 => k_is); (case k14 => k_is)
    (case a15 => k_is); (case l15 => k_is); (case c15 => k_is); (case k15 => k_is)
    (case a16 => k_is); (case l16 => k_is); (case c16 => k_is); (case k16 => k_is)
    (case a17 => k_is); (case l17 => k_is); (case c17 => k_is); (case k17 => k_is)
    (case a18 => k_is); (case l18 => k_is); (case c18 => k_is); (case k18 => k_is)
    (case a19 => k_is); (case l19 => k_is); (case c19 => k_is); (case k19 => k_is)
    (case a20 => k_is); (case l20 => k_is); (case c20 => k_is); (case k20 => k_is)
    (case a21 => k_is); (case l21 => k_is); (case c21 => k_is); (case k21 => k_is)
    (case a22 => k_is); (case l22 => k_is); (case c22 => k_is); (case k22 => k_is)
    (case a23 => k_is); (case l23 => k_is); (case c23 => k_is); (case k23 => k_is)
    (case a24 => k_is); (case l24 => k_is); (case c24 => k_is); (case k24 => k_is)
    (case a25 => k_is); (case l25 => k_is); (case c25 => k_is); (case k25 => k_is)
    (case a26 => k_is); (case l26 => k_is); (case c26 => k_is); (case k26 => k_is)
    (case a27 => k_is); (case l27 => k_is); (case c27 => k_is); (case k27 => k_is)
    (case z0 => k_is)
    (case z1 => k_is)
    (case z2 => k_is)
    (case z3 => k_is)
    (case z4 => k_is)
    (case z5 => k_is)
    (case z6 => k_is)
    (case z7 => k_is)
    (case z8 => k_is)
    (case z9 => k_is)
    (case z10 => k_is)
    (case z11 => k_is)
    (case z12 => k_is)
    (case m27 => rfl)
    (case o27 => kernel_rfl)
#print axioms PySem.Challenge.cw_momentwright_k79_crowds_put_together_holds

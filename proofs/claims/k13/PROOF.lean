import PyProof.Rows.All
import Wide.All
import OpenK.AllK
import Wide.FinOn
import Lean
import PyProof.EqAt
import PyProof.EqKinds
import PyProof.TupleCall
import PySem.Challenge.RW_momentwright_k13_chains_told
set_option compiler.extract_closed false
local macro_rules | `(tactic| walk_at "o")=>`(tactic| first | lia | omega)
local macro_rules | `(tactic| walk_at "a1")=>`(tactic| first | exact Or.inl rfl | exact Or.inr rfl)
local macro_rules | `(tactic| walk_at "a2")=>`(tactic| first | decide | walk_at "o")
local macro_rules | `(tactic| walk_at "a3")=>`(tactic| exact ⟨rfl,rfl,rfl,by decide +kernel,rfl,by decide +kernel,by decide +kernel⟩)
set_option Elab.async false
set_option linter.all false
set_option maxRecDepth 100000
namespace L2
open PySem PySem.Spec PyProof.Rows
abbrev Key:=Sum Int Str
def keyIs:Key -> Value -> Bool
 | .inl k,v=>Value.isInt k v
 | .inr x,v=>Value.isStrOf x v
def keyH (w:World):Key -> Int
 | .inl k=>hashInt k
 | .inr x=>hashStr w x
theorem keyIs_shape:∀ {k:Key} {v:Value},keyIs k v = true -> (∃ i t,k = Sum.inl i /\ v = Value.int i t) \/ (∃ x t,k = Sum.inr x /\ v = Value.str x t)
 | .inl i,v,h=>by
  obtain ⟨t,e⟩:=Value.isInt_shape (k:=i) (v:=v) h
  exact .inl ⟨i,t,rfl,e⟩
 | .inr x,v,h=>by
  obtain ⟨t,e⟩:=Value.isStrOf_shape (x:=x) (v:=v) h
  exact .inr ⟨x,t,rfl,e⟩
theorem keyIs_int (i:Int) (t:Tok):keyIs (.inl i) (.int i t) = true:=by simp [keyIs,Value.isInt]
theorem keyIs_str (x:Str) (t:Tok):keyIs (.inr x) (.str x t) = true:=by simp [keyIs,Value.isStrOf]
theorem key_ll (a b:Int):decide ((Sum.inl a:Key) = Sum.inl b) = (a == b):=by
 by_cases e:a = b
 ·subst e; simp
 ·have h:¬ (Sum.inl a:Key) = Sum.inl b:=fun q=>e (Sum.inl.inj q)
  rw [decide_eq_false h]
  exact (beq_eq_false_iff_ne.mpr e).symm
theorem key_rr (a b:Str):decide ((Sum.inr a:Key) = Sum.inr b) = decide (a = b):=by
 by_cases e:a = b
 ·subst e; simp
 ·have h:¬ (Sum.inr a:Key) = Sum.inr b:=fun q=>e (Sum.inr.inj q)
  rw [decide_eq_false h,decide_eq_false e]
theorem key_lr (a:Int) (b:Str):decide ((Sum.inl a:Key) = Sum.inr b) = false:=decide_eq_false (fun q=>nomatch q)
theorem key_rl (a:Str) (b:Int):decide ((Sum.inr a:Key) = Sum.inl b) = false:=decide_eq_false (fun q=>nomatch q)
def mixKind (prog:Program) (w:World):PySem.KeyKind prog w Key where
 is:=keyIs
 hash:=keyH w
 inj:=fun v a b ha hb=>by
  rcases keyIs_shape ha with ⟨i,t,rfl,rfl⟩ | ⟨x,t,rfl,rfl⟩
  ·rcases keyIs_shape hb with ⟨j,u,rfl,e⟩ | ⟨y,u,rfl,e⟩
   ·injection e with e1 _; rw [e1]
   ·exact nomatch e
  ·rcases keyIs_shape hb with ⟨j,u,rfl,e⟩ | ⟨y,u,rfl,e⟩
   ·exact nomatch e
   ·injection e with e1 _; rw [e1]
 byValue:=fun k v h=>by
  rcases keyIs_shape h with ⟨i,t,rfl,rfl⟩ | ⟨x,t,rfl,rfl⟩ <;> rfl
 pyHash:=fun hv h=>by
  rcases keyIs_shape hv with ⟨i,t,rfl,rfl⟩ | ⟨x,t,rfl,rfl⟩
  ·exact wpAny_pyHash_int h
  ·exact wpAny_pyHash_str h
 eqBool:=fun hu hv h=>by
  rcases keyIs_shape hu with ⟨i,t,rfl,rfl⟩ | ⟨x,t,rfl,rfl⟩
  ·rcases keyIs_shape hv with ⟨j,u,rfl,rfl⟩ | ⟨y,u,rfl,rfl⟩
   ·rw [key_ll] at h; exact wpAny_eqBool_int h
   ·rw [key_lr] at h; exact SeqAt.EqAt.int_str i t y u _ _ _ _ h
  ·rcases keyIs_shape hv with ⟨j,u,rfl,rfl⟩ | ⟨y,u,rfl,rfl⟩
   ·rw [key_rl] at h; exact SeqAt.EqAt.str_int x t j u _ _ _ _ h
   ·rw [key_rr] at h; exact wpAny_eqBool_str h
 «strs»:=fun k x t v h=>by
  rcases keyIs_shape h with ⟨i,u,rfl,e⟩ | ⟨y,u,rfl,e⟩
  ·exact nomatch e
  ·injection e with e1 _
   subst e1
   cases v <;> rfl
theorem mixKind_int (prog:Program) (w:World) (i:Int) (t:Tok):(mixKind prog w).is (.inl i) (.int i t) = true:=keyIs_int i t
theorem mixKind_str (prog:Program) (w:World) (x:Str) (t:Tok):(mixKind prog w).is (.inr x) (.str x t) = true:=keyIs_str x t
end L2
namespace L2
open PySem PySem.Spec PyProof.Rows
inductive V where
 | non | bl (b:Bool) | int (i:Int) | str (x:Str) | byt (b:Array UInt8) | flt (b:UInt64) | ref (a:Addr) | ty (n:String)
 deriving DecidableEq
def RelV:V -> Value -> Prop
 | .non,u=>u = Value.none
 | .bl b,u=>u = Value.bool b
 | .int i,u=>∃ t,u = Value.int i t
 | .str x,u=>∃ t,u = Value.str x t
 | .byt b,u=>∃ t,u = Value.bytes b t
 | .flt b,u=>∃ t,u = Value.float b t
 | .ref a,u=>u = Value.ref a
 | .ty n,u=>u = Value.type n
abbrev Vals:List V -> List Value -> Prop:=Paired RelV
theorem Vals.length {xs:List V} {us:List Value} (r:Vals xs us):xs.length = us.length:=Paired.length r
theorem Vals.get:∀ {xs:List V} {us:List Value} {i:Nat} {x:V},Vals xs us -> xs[i]? = some x -> ∃ u,us[i]? = some u /\ RelV x u
 | _,_,_,_,.nil,e=>by simp at e
 | _,_,0,_,.cons r _,e=>by simp at e; subst e; exact ⟨_,rfl,r⟩
 | _,_,i + 1,x,.cons _ t,e=>by
  obtain ⟨u,h1,h2⟩:=Vals.get (i:=i) (x:=x) t (by simpa using e)
  exact ⟨u,by simpa using h1,h2⟩
theorem Vals.set {x:V} {u:Value} (r:RelV x u):∀ {xs:List V} {us:List Value} (i:Nat),Vals xs us -> Vals (xs.set i x) (us.set i u)
 | _,_,_,.nil=>.nil
 | _,_,0,.cons _ t=>.cons r t
 | _,_,i + 1,.cons q t=>.cons q (Vals.set r i t)
theorem Vals.append:∀ {xs ys:List V} {us ws:List Value},Vals xs us -> Vals ys ws -> Vals (xs ++ ys) (us ++ ws)
 | _,_,_,_,.nil,s=>s
 | _,_,_,_,.cons r t,s=>.cons r (Vals.append t s)
theorem Vals.take:∀ {xs:List V} {us:List Value} (n:Nat),Vals xs us -> Vals (xs.take n) (us.take n)
 | _,_,0,_=>.nil
 | _,_,_ + 1,.nil=>.nil
 | _,_,n + 1,.cons r t=>.cons r (Vals.take n t)
theorem Vals.drop:∀ {xs:List V} {us:List Value} (n:Nat),Vals xs us -> Vals (xs.drop n) (us.drop n)
 | _,_,0,r=>r
 | _,_,_ + 1,.nil=>.nil
 | _,_,n + 1,.cons _ t=>Vals.drop n t
def RelO:Option V -> Option Value -> Prop
 | some v,some u=>RelV v u
 | none,none=>True
 | _,_=>False
def KV {κ:Type}:List (κ × V) -> List (κ × Value) -> Prop:=Paired fun (p:κ × V) (q:κ × Value)=>p.1 = q.1 /\ RelV p.2 q.2
def kV:Key -> V
 | .inl i=>.int i
 | .inr x=>.str x
inductive HO where
 /-- a list -/
 | lst (xs:List V)
 /-- a tuple (never changes) -/
 | tup (xs:List V)
 /-- a dict whose keys are ints and texts; one whose keys are tuples of ints and texts (the empty one is both) -/
 | dK (kvs:List (Key × V)) | dT (kvs:List (List Key × V))
 /-- a set of ints: its members,its size -/
 | set (S:Int -> Bool) (n:Nat)
 /-- an instance of the class at C,its dict at dx,its attributes -/
 | ins (C dx:Addr) (fs:List (Str × V))
 /-- the dict of the instance at x -/
 | own (x:Addr)
 /-- the dict of an exception -/
 | xd (fs:List (Str × V))
 /-- a bound method,f of x -/
 | met (f x:Addr)
 /-- a range object lo,lo + 1,.. below hi -/
 | rng (lo hi:Int)
 /-- a thing that is known to the object (the script; a dict while a loop walks it): read,never written while it is so -/
 | frz (o:Obj) (u:HO)
 /-- a code object's table -/
 | tbl (ps:Array Value)
 /-- any other thing,by what is true of its one object (a def of one's own: SetO a S n:=HO.ext fun h=>..) -/
 | ext (φ:Heap -> Prop)
abbrev Hp:=Addr -> Option HO
def upd (H:Hp) (a:Addr) (o:HO):Hp:=fun b=>if b = a then some o else H b
theorem upd_same {H:Hp} {a:Addr} {o:HO}:upd H a o a = some o:=by unfold upd; rw [if_pos rfl]
theorem upd_ne {H:Hp} {a b:Addr} {o:HO} (h:b ≠ a):upd H a o b = H b:=by unfold upd; rw [if_neg h]
theorem ne_of {H:Hp} {a b:Addr} {o u:HO} (h:H a = some o) (h':H b = some u) (d:o ≠ u):a ≠ b:=by
 intro e; subst e; rw [h] at h'; exact d (Option.some.inj h')
theorem ne_of_none {H:Hp} {a b:Addr} {o:HO} (h:H a = some o) (h':H b = none):a ≠ b:=by
 intro e; subst e; rw [h] at h'; cases h'
section
variable (P:Program) (w:World)
def ObjOk (H:Hp) (h:Heap) (a:Addr):HO -> Prop
 | .lst xs=>xs.length <= sizeLine /\ ∃ (its:List Value) (n:Nat),Vals xs its /\ h.get? a = some { cls:=.type "list",data:=.seq its.toArray n }
 | .tup xs=>xs.length <= sizeLine /\ ∃ its:List Value,Vals xs its /\ IsTup h a its.toArray
 | .dK kvs=>kvs.length <= sizeLine /\ (a == sysModules) = false /\ ∃ vs,KV kvs vs /\ h.DictOf (mixKind P w) a vs
 | .dT kvs=>kvs.length <= sizeLine /\ (a == sysModules) = false /\ ∃ xs:List (List Key × Addr × Value),
   Paired (fun (p:List Key × V) (q:List Key × Addr × Value)=>p.1 = q.1 /\ H q.2.1 = some (.tup (p.1.map kV)) /\ RelV p.2 q.2.2) kvs xs /\
   ∃ o es ep,h.get? a = some o /\ o.ExactDict /\ o.data = .dict es ep /\ es.toList = xs.map (entryOfKey (tupleKind (mixKind P w))) /\ (xs.map (·.1)).Nodup
 | .set S n=>h.SetOf (intKind P w) a S n
 | .ins C dx fs=>H dx = some (.own a) /\ fs.length <= 1000 /\ dx ≠ a /\ h.get? a = some (PySem.W.instObj C dx) /\
   ∃ mA,h.Ns1 dx mA /\ (∀ f,RelO (fs.lookup f) (mA f)) /\ PySem.Within mA (fs.map (·.1))
 | .own _=>∃ o,h.get? a = some o
 | .xd fs=>∃ mA,h.Ns1 a mA /\ ∀ f,RelO (fs.lookup f) (mA f)
 | .rng lo hi=>∃ t u v,h.get? a = some { cls:=.type "range",data:=.fields #[.int lo t,.int hi u,.int 1 v] }
 | .frz o u=>h.get? a = some o /\ ObjOk H h a u
 | .tbl ps=>h.get? a = some { cls:=.none,data:=.fields ps }
 | .met f x=>h.get? a = some (PySem.W.methodObj (.ref f) (.ref x))
 | .ext φ=>φ h /\ (∃ o,h.get? a = some o) /\ ∀ h1 h2:Heap,φ h1 -> (∀ o,h1.get? a = some o -> h2.get? a = some o) -> φ h2
def HOk (H:Hp) (h:Heap):Prop:=∀ a o,H a = some o -> ObjOk P w H h a o
end
section
variable {P:Program} {w:World} {H H':Hp} {h h':Heap} {a:Addr} {o:HO}
theorem ObjOk.lt (x:ObjOk P w H h a o):a < h.objs.size:=by
 cases o with
 | lst xs=>obtain ⟨_,_,_,_,e⟩:=x; exact Heap.lt_size e
 | tup xs=>obtain ⟨_,_,_,p⟩:=x; exact p.lt
 | dK kvs=>obtain ⟨_,_,_,_,o,_,_,e,_⟩:=x; exact Heap.lt_size e
 | dT kvs=>obtain ⟨_,_,_,_,o,_,_,e,_⟩:=x; exact Heap.lt_size e
 | set S n=>obtain ⟨o,_,_,_,e,_⟩:=x; exact Heap.lt_size e
 | ins C dx fs=>obtain ⟨_,_,_,e,_⟩:=x; exact Heap.lt_size e
 | own y=>obtain ⟨_,e⟩:=x; exact Heap.lt_size e
 | xd fs=>obtain ⟨_,⟨_,_,_,e,_⟩,_⟩:=x; exact Heap.lt_size e
 | rng lo hi=>obtain ⟨_,_,_,e⟩:=x; exact Heap.lt_size e
 | frz ob u=>obtain ⟨e,_⟩:=x; exact Heap.lt_size e
 | tbl ps=>exact Heap.lt_size (show h.get? a = some _ from x)
 | met f y=>exact Heap.lt_size (show h.get? a = some _ from x)
 | ext φ=>obtain ⟨_,⟨_,e⟩,_⟩:=x; exact Heap.lt_size e
theorem Paired.mapP {α β:Type} {F G:α -> β -> Prop}:∀ {l₁:List α} {l₂:List β},Paired F l₁ l₂ -> (∀ a b,F a b -> G a b) -> Paired G l₁ l₂
 | _,_,.nil,_=>.nil
 | _,_,.cons r t,f=>.cons (f _ _ r) (Paired.mapP t f)
theorem ObjOk.stay (x:ObjOk P w H h a o) (k:∀ b u,(b = a \/ H b = some (.own a)) -> h.get? b = some u -> h'.get? b = some u)
  (ho:∀ b,H b = some (.own a) -> H' b = some (.own a)) (ht:∀ b xs,H b = some (.tup xs) -> H' b = some (.tup xs)):ObjOk P w H' h' a o:=by
 induction o with
 | lst xs=>obtain ⟨z,its,n,r,e⟩:=x; exact ⟨z,its,n,r,k _ _ (.inl rfl) e⟩
 | tup xs=>obtain ⟨z,its,r,ob,e,c⟩:=x; exact ⟨z,its,r,ob,k _ _ (.inl rfl) e,c⟩
 | dK kvs=>obtain ⟨z,y,vs,r,ob,es,ep,e,c⟩:=x; exact ⟨z,y,vs,r,ob,es,ep,k _ _ (.inl rfl) e,c⟩
 | dT kvs =>
  obtain ⟨z,y,xs,r,ob,es,ep,e,c⟩:=x
  exact ⟨z,y,xs,Paired.mapP r fun p q z=>⟨z.1,ht _ _ z.2.1,z.2.2⟩,ob,es,ep,k _ _ (.inl rfl) e,c⟩
 | set S n=>obtain ⟨ob,es,ep,t,e,c⟩:=x; exact ⟨ob,es,ep,t,k _ _ (.inl rfl) e,c⟩
 | ins C dx fs =>
  obtain ⟨d,z,ne,e,mA,⟨od,es,ep,e2,c⟩,r⟩:=x
  exact ⟨ho _ d,z,ne,k _ _ (.inl rfl) e,mA,⟨od,es,ep,k _ _ (.inr d) e2,c⟩,r⟩
 | own y=>obtain ⟨ob,e⟩:=x; exact ⟨ob,k _ _ (.inl rfl) e⟩
 | xd fs=>obtain ⟨mA,⟨od,es,ep,e,c⟩,r⟩:=x; exact ⟨mA,⟨od,es,ep,k _ _ (.inl rfl) e,c⟩,r⟩
 | rng lo hi=>obtain ⟨t,u,v,e⟩:=x; exact ⟨t,u,v,k _ _ (.inl rfl) e⟩
 | frz ob u ih=>obtain ⟨e,q⟩:=x; exact ⟨k _ _ (.inl rfl) e,ih q⟩
 | tbl ps =>
  have e:h.get? a = some { cls:=.none,data:=.fields ps }:=x
  show h'.get? a = some { cls:=.none,data:=.fields ps }
  exact k a _ (.inl rfl) e
 | met f y =>
  have e:h.get? a = some (PySem.W.methodObj (.ref f) (.ref y)):=x
  show h'.get? a = some (PySem.W.methodObj (.ref f) (.ref y))
  exact k a _ (.inl rfl) e
 | ext φ=>obtain ⟨p,⟨o,e⟩,st⟩:=x; exact ⟨st _ _ p fun o q=>k _ _ (.inl rfl) q,⟨o,k _ _ (.inl rfl) e⟩,st⟩
theorem HOk.lt (x:HOk P w H h) (e:H a = some o):a < h.objs.size:=(x a o e).lt
theorem HOk.fresh (x:HOk P w H h) (e:h.objs.size <= a):H a = none:=by
 cases q:H a with
 | none=>rfl
 | some u=>exact absurd (Nat.lt_of_lt_of_le (x.lt q) e) (Nat.lt_irrefl _)
theorem HOk.kept (x:HOk P w H h) (k:∀ b u,h.get? b = some u -> h'.get? b = some u):HOk P w H h':=fun a o e =>
 (x a o e).stay (fun b u _ q=>k b u q) (fun _ q=>q) fun _ _ q=>q
theorem HOk.laid (x:HOk P w H h) (k:∀ b u,h.get? b = some u -> h'.get? b = some u) (hp:h.objs.size <= a) (new:ObjOk P w (upd H a o) h' a o):HOk P w (upd H a o) h':=fun b u e=>by
 have hn:=x.fresh hp
 by_cases hb:b = a
 ·subst hb; rw [upd_same] at e; cases e; exact new
 ·rw [upd_ne hb] at e
  exact (x b u e).stay (fun c v _ q=>k c v q) (fun c q=>by rw [upd_ne (ne_of_none q hn)]; exact q) fun c xs q=>by rw [upd_ne (ne_of_none q hn)]; exact q
end
def Rd (H:Hp) (a:Addr) (u:HO):Prop:=H a = some u \/ ∃ o,H a = some (.frz o u)
theorem Rd.ok {P:Program} {w:World} {H:Hp} {h:Heap} {a:Addr} {u:HO} (r:Rd H a u) (x:HOk P w H h):ObjOk P w H h a u:=by
 rcases r with r | ⟨o,r⟩
 ·exact x a u r
 ·obtain ⟨_,q⟩:=x a _ r
  exact q
def Mut:Option HO -> Prop
 | some (.lst _)=>True
 | some (.dK _)=>True
 | some (.dT _)=>True
 | some (.set _ _)=>True
 | some (.ins _ _ _)=>True
 | some (.ext _)=>True
 | _=>False
section
variable {P:Program} {w:World} {H:Hp} {h h':Heap} {x e:Addr} {o':HO}
theorem HOk.write (ok:HOk P w H h) (mu:Mut (H x)) (he:e = x \/ H e = some (.own x)) (k:∀ b u,b ≠ e -> h.get? b = some u -> h'.get? b = some u) (heo:∃ u,h'.get? e = some u)
  (new:ObjOk P w (upd H x o') h' x o'):HOk P w (upd H x o') h':=fun b u q=>by
 have nown:∀ c y,H c = some (.own y) -> c ≠ x:=fun c y r z=>by subst z; rw [r] at mu; exact mu
 have ntup:∀ c xs,H c = some (.tup xs) -> c ≠ x:=fun c xs r z=>by subst z; rw [r] at mu; exact mu
 by_cases hb:b = x
 ·subst hb; rw [upd_same] at q; cases q; exact new
 ·rw [upd_ne hb] at q
  by_cases hbe:b = e
  ·have q':H b = some (.own x):=by
    rcases he with z | z
    ·exact absurd (hbe.trans z) hb
    ·rw [hbe]; exact z
   rw [q] at q'; cases q'
   obtain ⟨v,hv⟩:=heo
   exact ⟨v,by rw [hbe]; exact hv⟩
  ·refine (ok b u q).stay (fun c v hc r=>k c v ?_ r) (fun c r=>by rw [upd_ne (nown c b r)]; exact r) fun c xs r=>by rw [upd_ne (ntup c xs r)]; exact r
   rcases hc with rfl | hc
   ·exact hbe
   ·rintro rfl
    rcases he with z | z
    ·exact nown c b hc z
    ·rw [hc] at z; cases z; exact hb rfl
end
structure Un (fs ex:List Addr) (H H':Hp) (h h':Heap):Prop where
 keep:∀ b o,h.get? b = some o -> H b = none -> b ∉ fs -> b ∉ ex -> h'.get? b = some o
 slot:∀ b o,h.get? b = some o -> H b = none -> b ∈ fs -> b ∉ ex -> ∃ sl,h'.get? b = some { o with slots:=sl }
 free:∀ b o,h.get? b = some o -> H b = none -> b ∉ ex -> H' b = none
 there:∀ b o,h.get? b = some o -> b ∉ ex -> ∃ o',h'.get? b = some o'
 tups:∀ b xs,H b = some (.tup xs) -> H' b = some (.tup xs)
 frzs:∀ b o u,H b = some (.frz o u) -> H' b = some (.frz o u)
 tbls:∀ b ps,H b = some (.tbl ps) -> ∃ more,H' b = some (.tbl (ps ++ more))
section
variable {fs fs' ex ex':List Addr} {H H1 H2:Hp} {h h1 h2 h':Heap} {a x e:Addr} {o:HO}
theorem Un.any (u:Un fs ex H H1 h h1) {b:Addr} {ob:Obj} (q:h.get? b = some ob) (n:H b = none) (hx:b ∉ ex):∃ sl,h1.get? b = some { ob with slots:=sl }:=by
 by_cases hb:b ∈ fs
 ·exact u.slot b ob q n hb hx
 ·exact ⟨ob.slots,u.keep b ob q n hb hx⟩
theorem Un.kept (k:∀ b u,h.get? b = some u -> h'.get? b = some u):Un fs ex H H h h' :=
 ⟨fun b ob q _ _ _=>k b ob q,fun b ob q _ _ _=>⟨ob.slots,k b ob q⟩,fun _ _ _ n _=>n,fun b ob q _=>⟨ob,k b ob q⟩,fun _ _ q=>q,fun _ _ _ q=>q,fun _ ps q=>⟨#[],by rw [q]; simp⟩⟩
theorem Un.refl:Un fs ex H H h h:=Un.kept fun _ _ q=>q
theorem Un.laid (k:∀ b u,h.get? b = some u -> h'.get? b = some u) (hp:h.objs.size <= a) (hn:H a = none):Un fs ex H (upd H a o) h h' where
 keep:=fun b u q _ _ _=>k b u q
 slot:=fun b u q _ _ _=>⟨u.slots,k b u q⟩
 free:=fun b u q n _=>by rw [upd_ne (Nat.ne_of_lt (Nat.lt_of_lt_of_le (Heap.lt_size q) hp))]; exact n
 there:=fun b u q _=>⟨u,k b u q⟩
 tups:=fun b xs q=>by rw [upd_ne (ne_of_none q hn)]; exact q
 frzs:=fun b u xs q=>by rw [upd_ne (ne_of_none q hn)]; exact q
 tbls:=fun b ps q=>⟨#[],by rw [upd_ne (ne_of_none q hn),q]; simp⟩
theorem Un.write (mu:Mut (H x)) (he:e = x \/ H e = some (.own x)) (k:∀ b u,b ≠ e -> h.get? b = some u -> h'.get? b = some u) (heo:∃ u,h'.get? e = some u):Un fs ex H (upd H x o) h h':=by
 have hx:∀ b,H b = none -> b ≠ x:=fun b n z=>by subst z; rw [n] at mu; exact mu
 have hb:∀ b,H b = none -> b ≠ e:=fun b n z=>by
  subst z
  rcases he with r | r
  ·exact hx b n r
  ·rw [n] at r; cases r
 have hm:∀ b u,H b = some u -> ¬ Mut (some u) -> b ≠ x:=fun b u q nm z=>by subst z; rw [q] at mu; exact nm mu
 refine ⟨fun b u q n _ _=>k b u (hb b n) q,fun b u q n _ _=>⟨u.slots,k b u (hb b n) q⟩,fun b u q n _=>by rw [upd_ne (hx b n)]; exact n,fun b u q _=>?_,
  fun b xs q=>by rw [upd_ne (hm b _ q fun z=>z)]; exact q,fun b u xs q=>by rw [upd_ne (hm b _ q fun z=>z)]; exact q,fun b ps q=>⟨#[],by rw [upd_ne (hm b _ q fun z=>z),q]; simp⟩⟩
 by_cases hbe:b = e
 ·subst hbe; exact heo
 ·exact ⟨u,k b u hbe q⟩
end
def trk (h:Heap) (H:Hp):List Addr:=(List.range h.objs.size).filter fun a=>(H a).isSome
def hidT (h:Heap) (H:Hp):Heap:=PySem.W.hideAll h (trk h H)
theorem hidT_size (h:Heap) (H:Hp):(hidT h H).objs.size = h.objs.size:=PySem.W.hideAll_size _ _
theorem hidT_get {h:Heap} {H:Hp} {b:Addr} {o:Obj} (e:h.get? b = some o) (n:H b = none):(hidT h H).get? b = some o :=
 PySem.W.hideAll_get _ e fun hm=>by
  have q:(H b).isSome = true:=(List.mem_filter.mp hm).2
  rw [n] at q; simp at q
theorem of_hidT {h:Heap} {H:Hp} {b:Addr} {o:Obj} (e:(hidT h H).get? b = some o):h.get? b = some o /\ H b = none:=by
 have e':h.get? b = some o:=PySem.W.of_hideAll (trk h H) e
 refine ⟨e',?_⟩
 cases q:H b with
 | none=>rfl
 | some x =>
  have hm:b ∈ trk h H:=List.mem_filter.mpr ⟨List.mem_range.mpr (Heap.lt_size e'),by simp [q]⟩
  have z:(hidT h H).get? b = none:=PySem.W.hideAll_none (trk h H) hm
  rw [z] at e; cases e
def allNews (g h:Heap) (L:Addr):List (Addr × Obj):=(List.range h.objs.size).filterMap fun a=>if a = L \/ (g.get? a).isSome = true then none else (h.get? a).map fun o=>(a,o)
def rest (g h:Heap) (L d:Addr):List (Addr × Obj):=(allNews g h L).filter fun p=>decide (p.1 ≠ d)
end L2
namespace L2
open PySem PySem.Spec PyProof.Rows
structure Mod (K:PySem.W.Frag) (mg:Str -> Option Value) (base:Heap):Prop where
 kin:K.In base
 glob:base.Ns mainGlobals mg
 blt:∃ mb,base.Ns builtinsNs mb /\ ∀ x:Str,x ≠ "__name__" -> mb x = bootBuiltins x
 nolimit:base.NoLimit
structure Cx where
 prog:Program
 w:World
 K:PySem.W.Frag
 mg:Str -> Option Value
 base:Heap
 A:Around
 N:List Str
 s₀:Shared
 H₀:Hp
 env:Env
 outer:List Env
 stack:List Env
 ex:List Addr
 fn:Str -> Bool
 calm:Bool
 pn:List (Addr × Obj)
 xe:Value -> Shared -> Prop
def frs (l:List Env):List Addr:=l.filterMap (·.frame)
abbrev Cx.fs (X:Cx):List Addr:=frs X.outer
def Vis (sc:Scope) (x:Str):Prop:=sc.names.lookup x = some .local \/ sc.names.lookup x = some .cell \/ sc.names.lookup x = some .free
def Loc (sc:Scope) (x:Str):Prop:=sc.names.lookup x = some .local \/ sc.names.lookup x = some .cell
def Look (env:Env) (h:Heap) (m:Str -> Option Value) (x:Str) (u:Value):Prop :=
 (env.kindOf x = some .local /\ m x = some u) \/ ((env.kindOf x = some .cell \/ env.kindOf x = some .free) /\ ∃ c,env.cells.lookup x = some c /\ h.IsCell c (some u))
structure Cx.Ok (X:Cx):Prop where
 mod:Mod X.K X.mg X.base
 kind:X.env.scope.kind = .function
 glob:X.env.globals = mainGlobals
 blt:X.env.builtins = builtinsNs
 above:X.s₀.heap.objs.size <= X.env.locals
 inj:∀ x y c,X.env.cells.lookup x = some c -> X.env.cells.lookup y = some c -> x = y
 has:∀ x,(X.env.kindOf x = some .cell \/ X.env.kindOf x = some .free) -> ∃ c,X.env.cells.lookup x = some c
 cab:∀ x c,X.fn x = true -> X.env.cells.lookup x = some c -> X.s₀.heap.objs.size <= c
 hd:X.calm = true -> X.A.handled = none
 frames:X.A.frames = some X.stack
 stk:X.stack = X.outer \/ (X.stack = X.env :: X.outer /\ X.env.frame = some X.env.locals)
 exf:∀ b ∈ X.ex,b ≠ X.env.locals /\ ∀ x c,X.env.cells.lookup x = some c -> c ≠ b
 bs:∀ b o,X.base.get? b = some o -> X.s₀.heap.get? b = some o /\ X.H₀ b = none
 bsz:X.base.objs.size <= X.s₀.heap.objs.size
 noex:∀ b o,X.base.get? b = some o -> b ∉ X.ex
 exfs:∀ b ∈ X.ex,b ∉ X.fs
 funs:X.s₀.heap.FunFrames X.base X.outer
 frf:∀ b ∈ X.fs,X.H₀ b = none
structure Inv (X:Cx) (pins:List (Addr × Obj)) (σ:List (Option V)) (H:Hp) (s:Shared):Prop where
 ok:X.Ok
 os:s.os = X.s₀.os
 bare:AllBare s.gens
 base:Un X.fs X.ex X.H₀ H X.s₀.heap s.heap
 loc:∃ m,s.heap.Ns X.env.locals m /\ ∀ (i:Nat) (x:Str) (v:V),X.N[i]? = some x -> σ[i]? = some (some v) -> Vis X.env.scope x -> ∃ u,RelV v u /\ Look X.env s.heap m x u
 cell:∀ x c,X.env.cells.lookup x = some c -> ∃ v,s.heap.IsCell c v
 free:H X.env.locals = none
 freeC:∀ x c,X.env.cells.lookup x = some c -> H c = none
 pin:∀ p ∈ X.pn ++ pins,s.heap.get? p.1 = some p.2 /\ H p.1 = none /\ p.1 ≠ X.env.locals /\ p.1 ∉ X.fs /\ ∀ v,p.2.data ≠ .cell v
 hok:HOk X.prog X.w H s.heap
 len:σ.length = X.N.length
section
variable {X:Cx} {pins:List (Addr × Obj)} {σ:List (Option V)} {H H':Hp} {s:Shared} {h':Heap}
theorem Cx.Ok.nofr (ok:X.Ok) {b:Addr} {o:Obj} (e:X.base.get? b = some o):b ∉ X.fs:=fun hb=>by
 have:=(ok.funs.mem hb).1
 rw [e] at this; cases this
theorem Inv.bs (I:Inv X pins σ H s):∀ b o,X.base.get? b = some o -> s.heap.get? b = some o /\ H b = none:=fun b o e =>
 ⟨I.base.keep b o (I.ok.bs b o e).1 (I.ok.bs b o e).2 (I.ok.nofr e) (I.ok.noex b o e),I.base.free b o (I.ok.bs b o e).1 (I.ok.bs b o e).2 (I.ok.noex b o e)⟩
theorem Inv.bk (I:Inv X pins σ H s):∀ b o,X.base.get? b = some o -> s.heap.get? b = some o:=fun b o e=>(I.bs b o e).1
theorem Inv.mod (I:Inv X pins σ H s):Mod X.K X.mg X.base:=I.ok.mod
theorem Inv.kIn (I:Inv X pins σ H s):X.K.In s.heap:=I.ok.mod.kin.keeps I.bk
theorem Inv.nolimit (I:Inv X pins σ H s):s.heap.NoLimit:=I.ok.mod.nolimit.keeps I.bk
theorem Inv.lt (I:Inv X pins σ H s):X.env.locals < s.heap.objs.size:=let ⟨_,hn,_⟩:=I.loc; hn.lt
theorem Inv.sz (I:Inv X pins σ H s):X.s₀.heap.objs.size <= s.heap.objs.size:=Nat.le_trans I.ok.above (Nat.le_of_lt I.lt)
theorem Inv.nofs (I:Inv X pins σ H s) {a:Addr} (h:s.heap.objs.size <= a):a ∉ X.fs:=fun hb=>by
 obtain ⟨_,o,ho,_⟩:=I.ok.funs.mem hb
 exact absurd (Nat.lt_of_lt_of_le (Heap.lt_size ho) (Nat.le_trans I.sz h)) (Nat.lt_irrefl _)
theorem Inv.cne (I:Inv X pins σ H s):∀ x c,X.env.cells.lookup x = some c -> c ≠ X.env.locals:=fun x c e z=>by
 obtain ⟨v,o,ho,hd⟩:=I.cell x c e
 obtain ⟨m,⟨o',es,ep,ho',hd',_⟩,_⟩:=I.loc
 rw [z,ho'] at ho; cases ho; rw [hd'] at hd; cases hd
theorem Inv.funs (I:Inv X pins σ H s):s.heap.FunFrames X.base X.outer:=by
 have all:∀ (l:List Env),(∀ b ∈ frs l,b ∈ X.fs) -> X.s₀.heap.FunFrames X.base l -> s.heap.FunFrames X.base l:=by
  intro l
  induction l with
  | nil=>intro _ _; trivial
  | cons env r ih =>
   intro hs hl
   obtain ⟨hk,⟨L,o,hf,hn,ho,hd⟩,hr⟩:=hl
   have hL:L ∈ X.fs:=hs L (by unfold frs; rw [List.filterMap_cons,hf]; exact List.mem_cons_self)
   obtain ⟨sl,e⟩:=I.base.slot L o ho (I.ok.frf L hL) hL fun z=>I.ok.exfs L z hL
   exact ⟨hk,⟨L,_,hf,hn,e,hd⟩,ih (fun b hb=>hs b (by unfold frs; rw [List.filterMap_cons,hf]; exact List.mem_cons_of_mem _ hb)) hr⟩
 exact all X.outer (fun _ hb=>hb) I.ok.funs
theorem Inv.stack (I:Inv X pins σ H s):s.heap.FunFrames X.base X.stack:=by
 rcases I.ok.stk with e | ⟨e,hf⟩
 ·rw [e]; exact I.funs
 ·rw [e]
  obtain ⟨m,hn,_⟩:=I.loc
  refine .cons (by rw [I.ok.kind]; decide) hf hn ?_ I.funs
  exact Heap.get?_none_of_le (Nat.le_trans I.ok.bsz I.ok.above)
theorem Inv.stkSub (I:Inv X pins σ H s):∀ b ∈ frs X.stack,b ∈ X.env.locals :: X.fs:=fun b hb=>by
 rcases I.ok.stk with e | ⟨e,hf⟩
 ·rw [e] at hb; exact List.mem_cons_of_mem _ hb
 ·rw [e] at hb
  unfold frs at hb
  rw [List.filterMap_cons,hf] at hb
  exact hb
theorem Inv.stkFree (I:Inv X pins σ H s):∀ b ∈ frs X.stack,H b = none:=fun b hb=>by
 rcases List.mem_cons.mp (I.stkSub b hb) with e | hb
 ·rw [e]; exact I.free
 ·obtain ⟨_,o,ho,_⟩:=I.ok.funs.mem hb
  exact I.base.free b o ho (I.ok.frf b hb) fun z=>I.ok.exfs b z hb
theorem Inv.step {g':Array GenState} {t':Nat} {d':Drawn} {ch:List Addr} (I:Inv X pins σ H s)
  (hch:∀ b ∈ ch,(b ∈ X.ex \/ X.s₀.heap.objs.size <= b) /\ b ≠ X.env.locals /\ (∀ x c,X.env.cells.lookup x = some c -> c ≠ b) /\ ∀ p ∈ X.pn ++ pins,p.1 ≠ b)
  (keep:∀ b o,b ≠ X.env.locals -> b ∉ X.fs -> b ∉ ch -> s.heap.get? b = some o -> H b = none -> h'.get? b = some o)
  (slot:∀ b o,b ≠ X.env.locals -> b ∈ X.fs -> b ∉ ch -> s.heap.get? b = some o -> H b = none -> ∃ sl,h'.get? b = some { o with slots:=sl }) (free:∀ b o,b ∉ ch -> s.heap.get? b = some o -> H b = none -> H' b = none)
  (there:∀ b o,b ∉ ch -> s.heap.get? b = some o -> ∃ o',h'.get? b = some o')
  (tups:∀ b xs,H b = some (.tup xs) -> H' b = some (.tup xs)) (frzs:∀ b o u,H b = some (.frz o u) -> H' b = some (.frz o u)) (tbls:∀ b ps,H b = some (.tbl ps) -> ∃ more,H' b = some (.tbl (ps ++ more)))
  (ns:∀ m,s.heap.Ns X.env.locals m -> h'.Ns X.env.locals m) (hok:HOk X.prog X.w H' h') (hg:AllBare g') :
  Inv X pins σ H' { s with heap:=h',gens:=g',drawn:=d',toks:=t' }:=by
 have neL:∀ b o,X.s₀.heap.get? b = some o -> b ≠ X.env.locals:=fun b o e=>Nat.ne_of_lt (Nat.lt_of_lt_of_le (Heap.lt_size e) I.ok.above)
 have neC:∀ b o,X.s₀.heap.get? b = some o -> b ∉ X.ex -> b ∉ ch:=fun b o e hx hb=>by
  rcases (hch b hb).1 with z | z
  ·exact hx z
  ·exact absurd (Nat.lt_of_lt_of_le (Heap.lt_size e) z) (Nat.lt_irrefl _)
 have cellK:∀ x c,X.env.cells.lookup x = some c -> ∀ v,s.heap.IsCell c v -> h'.IsCell c v:=fun x c e v ⟨o,ho,hd⟩=>by
  have nch:c ∉ ch:=fun z=>(hch c z).2.2.1 x c e rfl
  by_cases hc:c ∈ X.fs
  ·obtain ⟨sl,q⟩:=slot c o (I.cne x c e) hc nch ho (I.freeC x c e)
   exact ⟨_,q,hd⟩
  ·exact ⟨o,keep c o (I.cne x c e) hc nch ho (I.freeC x c e),hd⟩
 refine ⟨I.ok,I.os,hg,⟨fun b o e n hb hx=>?_,fun b o e n hb hx=>?_,fun b o e n hx=>?_,fun b o e hx=>?_,fun b xs e=>tups b xs (I.base.tups b xs e),fun b o xs e=>frzs b o xs (I.base.frzs b o xs e),fun b ps e=>?_⟩,?_,fun x c e=>?_,?_,fun x c e=>?_,fun p hp=>?_,hok,I.len⟩
 ·exact keep b o (neL b o e) hb (neC b o e hx) (I.base.keep b o e n hb hx) (I.base.free b o e n hx)
 ·obtain ⟨sl,e1⟩:=I.base.slot b o e n hb hx
  obtain ⟨sl',e2⟩:=slot b _ (neL b o e) hb (neC b o e hx) e1 (I.base.free b o e n hx)
  exact ⟨sl',e2⟩
 ·obtain ⟨o',e1⟩:=I.base.there b o e hx
  exact free b o' (neC b o e hx) e1 (I.base.free b o e n hx)
 ·obtain ⟨o',e1⟩:=I.base.there b o e hx
  exact there b o' (neC b o e hx) e1
 ·obtain ⟨m1,e1⟩:=I.base.tbls b ps e
  obtain ⟨m2,e2⟩:=tbls b _ e1
  exact ⟨m1 ++ m2,by rw [e2,Array.append_assoc]⟩
 ·obtain ⟨m,hn,hl⟩:=I.loc
  refine ⟨m,ns m hn,fun i x v e1 e2 e3=>?_⟩
  obtain ⟨u,r,l⟩:=hl i x v e1 e2 e3
  refine ⟨u,r,?_⟩
  rcases l with l | ⟨k,c,e,z⟩
  ·exact .inl l
  ·exact .inr ⟨k,c,e,cellK x c e _ z⟩
 ·obtain ⟨v,z⟩:=I.cell x c e
  exact ⟨v,cellK x c e v z⟩
 ·obtain ⟨m,⟨o,_,_,ho,_⟩,_⟩:=I.loc
  exact free _ o (fun z=>(hch _ z).2.1 rfl) ho I.free
 ·obtain ⟨v,o,ho,hd⟩:=I.cell x c e
  exact free c o (fun z=>(hch c z).2.2.1 x c e rfl) ho (I.freeC x c e)
 ·obtain ⟨e,n,ne,nf,d⟩:=I.pin p hp
  have nch:p.1 ∉ ch:=fun z=>(hch p.1 z).2.2.2 p hp rfl
  exact ⟨keep p.1 p.2 ne nf nch e n,free p.1 p.2 nch e n,ne,nf,d⟩
theorem Inv.un {t':Nat} (I:Inv X pins σ H s) (u:Un X.fs [] H H' s.heap h') (hok:HOk X.prog X.w H' h'):Inv X pins σ H' { s with heap:=h',toks:=t' }:=by
 obtain ⟨m,⟨o,es,ep,ho,r⟩,_⟩:=id I.loc
 obtain ⟨sl,hL⟩:=u.any ho I.free (by simp)
 exact I.step (g':=s.gens) (d':=s.drawn) (ch:=[]) (fun _ z=>nomatch z) (fun b o _ hb _ e n=>u.keep b o e n hb (by simp)) (fun b o _ hb _ e n=>u.slot b o e n hb (by simp)) (fun b o _ e n=>u.free b o e n (by simp)) (fun b o _ e=>u.there b o e (by simp)) u.tups u.frzs u.tbls (fun m' hm=>by
  obtain ⟨o',es',ep',ho',r'⟩:=hm
  rw [ho] at ho'; cases ho'
  exact ⟨_,es',ep',hL,r'⟩) hok I.bare
theorem Inv.call {g':Array GenState} {t':Nat} {d':Drawn} {ch:List Addr} (I:Inv X pins σ H s) (u:Un (frs X.stack) ch H H' s.heap h') (hok:HOk X.prog X.w H' h') (hg:AllBare g')
  (hch:∀ b ∈ ch,(b ∈ X.ex \/ X.s₀.heap.objs.size <= b) /\ b ≠ X.env.locals /\ (∀ x c,X.env.cells.lookup x = some c -> c ≠ b) /\ ∀ p ∈ X.pn ++ pins,p.1 ≠ b) :
  Inv X pins σ H' { s with heap:=h',gens:=g',drawn:=d',toks:=t' }:=by
 obtain ⟨m,⟨o,es,ep,ho,r⟩,_⟩:=id I.loc
 obtain ⟨sl,hL⟩:=u.any ho I.free fun z=>(hch _ z).2.1 rfl
 exact I.step (ch:=ch) hch (fun b o hL hb hc e n=>u.keep b o e n (fun z=>(List.mem_cons.mp (I.stkSub b z)).elim hL hb) hc) (fun b o _ _ hc e n=>u.any e n hc) (fun b o hc e n=>u.free b o e n hc) (fun b o hc e=>u.there b o e hc) u.tups u.frzs u.tbls (fun m' hm=>by
  obtain ⟨o',es',ep',ho',r'⟩:=hm
  rw [ho] at ho'; cases ho'
  exact ⟨_,es',ep',hL,r'⟩) hok hg
theorem Inv.turned {t':Nat} {it:Addr} (I:Inv X pins σ H s) (k:∀ b o,b ≠ it -> s.heap.get? b = some o -> h'.get? b = some o) (hn:H it = none) (hL:it ≠ X.env.locals)
  (h1:it ∈ X.ex \/ X.s₀.heap.objs.size <= it) (h2:∀ x c,X.env.cells.lookup x = some c -> c ≠ it) (h3:∀ p ∈ X.pn ++ pins,p.1 ≠ it):Inv X pins σ H { s with heap:=h',toks:=t' }:=by
 have nit:∀ b u,H b = some u -> b ≠ it:=fun b u e z=>by rw [z,hn] at e; cases e
 refine I.step (g':=s.gens) (d':=s.drawn) (ch:=[it]) (fun b hb=>?_) (fun b o _ _ hc e _=>k b o (fun z=>hc (by simp [z])) e) (fun b o _ _ hc e _=>⟨o.slots,k b o (fun z=>hc (by simp [z])) e⟩) (fun _ _ _ _ n=>n)
  (fun b o hc e=>⟨o,k b o (fun z=>hc (by simp [z])) e⟩) (fun _ _ e=>e) (fun _ _ _ e=>e) (fun b ps e=>⟨#[],by rw [e]; simp⟩) (fun m hm=>?_) (fun b u e=>?_) I.bare
 ·have e:b = it:=by simpa using hb
  subst e
  exact ⟨h1,hL,h2,h3⟩
 ·obtain ⟨o,es,ep,ho,r⟩:=hm
  exact ⟨o,es,ep,k _ o (Ne.symm hL) ho,r⟩
 ·refine (I.hok b u e).stay (fun c v hc q=>k c v ?_ q) (fun _ q=>q) fun _ _ q=>q
  rcases hc with z | z
  ·rw [z]; exact nit b u e
  ·exact nit c _ z
theorem Inv.tok (I:Inv X pins σ H s) (t:Nat):Inv X pins σ H { s with toks:=t }:=I.un (h':=s.heap) (t':=t) Un.refl I.hok
theorem Inv.kept {t':Nat} (I:Inv X pins σ H s) (k:∀ b u,s.heap.get? b = some u -> h'.get? b = some u):Inv X pins σ H { s with heap:=h',toks:=t' }:=I.un (Un.kept k) (I.hok.kept k)
theorem Inv.laid {a:Addr} {o:HO} {t':Nat} (I:Inv X pins σ H s) (k:∀ b u,s.heap.get? b = some u -> h'.get? b = some u) (hp:s.heap.objs.size <= a) (new:ObjOk X.prog X.w (upd H a o) h' a o) :
  Inv X pins σ (upd H a o) { s with heap:=h',toks:=t' }:=I.un (Un.laid k hp (I.hok.fresh hp)) (I.hok.laid k hp new)
theorem Inv.write {x e:Addr} {o:HO} {t':Nat} (I:Inv X pins σ H s) (mu:Mut (H x)) (he:e = x \/ H e = some (.own x)) (k:∀ b u,b ≠ e -> s.heap.get? b = some u -> h'.get? b = some u) (heo:∃ u,h'.get? e = some u)
  (new:ObjOk X.prog X.w (upd H x o) h' x o):Inv X pins σ (upd H x o) { s with heap:=h',toks:=t' }:=I.un (Un.write mu he k heo) (I.hok.write mu he k heo new)
theorem Inv.pins_of {pins':List (Addr × Obj)} (I:Inv X pins σ H s) (h:∀ p ∈ pins',s.heap.get? p.1 = some p.2 /\ H p.1 = none /\ p.1 ≠ X.env.locals /\ p.1 ∉ X.fs /\ ∀ v,p.2.data ≠ .cell v):Inv X pins' σ H s :=
 ⟨I.ok,I.os,I.bare,I.base,I.loc,I.cell,I.free,I.freeC,fun p hp=>(List.mem_append.mp hp).elim (fun z=>I.pin p (List.mem_append_left _ z)) (h p),I.hok,I.len⟩
theorem nodup_ix {N:List Str} (hN:N.Nodup) {i j:Nat} {x:Str} (a:N[i]? = some x) (b:N[j]? = some x):i = j:=by
 obtain ⟨h1,e1⟩:=List.getElem?_eq_some_iff.mp a
 obtain ⟨h2,e2⟩:=List.getElem?_eq_some_iff.mp b
 exact (List.getElem_inj hN).mp (e1.trans e2.symm)
theorem store_ok2 {M:Model} {A:Around} {E:Value -> Shared -> Prop} {i:Nat} {x:Str} {v:V} {u:Value} {Q:Unit -> Shared -> Prop} (I:Inv X pins σ H s) (hN:X.N.Nodup) (hi:X.N[i]? = some x) (hx:Loc X.env.scope x) (r:RelV v u)
  (h:∀ s',Inv X pins (σ.set i (some v)) H s' -> (∃ a,Heap.SameBut a s.heap s'.heap /\ (a = X.env.locals \/ X.env.cells.lookup x = some a)) -> Q () s') (hf:X.fn x = true \/ X.env.scope.names.lookup x = some .local:=by first | exact .inl rfl | exact .inr rfl | assumption):wpAny M A (storeName X.env x u) Q E s:=by
 obtain ⟨m,hn,hl⟩:=id I.loc
 have hcls:(X.env.scope.kind == .class || (X.env.scope.kind == .module && X.env.locals != X.env.globals)) = false:=by rw [I.ok.kind]; rfl
 have hiσ:i < σ.length:=by rw [I.len]; exact (List.getElem?_eq_some_iff.mp hi).1
 have cne:=I.cne
 have tracked:∀ {a:Addr} {h':Heap},(∃ o,s.heap.get? a = some o /\ H a = none) -> Heap.SameBut a s.heap h' -> HOk X.prog X.w H h':=fun {a h'} ha hs b ob e=>by
  obtain ⟨_,_,hfree⟩:=ha
  refine (I.hok b ob e).stay (fun c w' hc q=>(hs.2 c ?_).trans q) (fun _ q=>q) fun _ _ q=>q
  rintro rfl
  rcases hc with rfl | hc
  ·rw [hfree] at e; cases e
  ·rw [hfree] at hc; cases hc
 rcases hx with hk | hk
 ·refine wpAny_storeName_local hk hn (fun h' hn' hs=>?_) hcls
  obtain ⟨oL,_,_,hoL,_⟩:=id hn
  refine h _ ⟨I.ok,I.os,I.bare,⟨fun b o e n hb hx=>?_,fun b o e n hb hx=>?_,I.base.free,fun b o e hx=>?_,I.base.tups,I.base.frzs,I.base.tbls⟩,⟨_,hn',fun j y v' e1 e2 e3=>?_⟩,fun y c e=>?_,I.free,I.freeC,fun p hp=>?_,tracked ⟨oL,hoL,I.free⟩ hs,by simpa using I.len⟩ ⟨_,hs,.inl rfl⟩
  ·exact (hs.2 b (Nat.ne_of_lt (Nat.lt_of_lt_of_le (Heap.lt_size e) I.ok.above))).trans (I.base.keep b o e n hb hx)
  ·obtain ⟨sl,e1⟩:=I.base.slot b o e n hb hx
   exact ⟨sl,(hs.2 b (Nat.ne_of_lt (Nat.lt_of_lt_of_le (Heap.lt_size e) I.ok.above))).trans e1⟩
  ·obtain ⟨o',e1⟩:=I.base.there b o e hx
   exact ⟨o',(hs.2 b (Nat.ne_of_lt (Nat.lt_of_lt_of_le (Heap.lt_size e) I.ok.above))).trans e1⟩
  ·by_cases hj:j = i
   ·subst hj
    rw [hi] at e1; cases e1
    rw [List.getElem?_set_self hiσ] at e2
    cases e2
    exact ⟨u,r,.inl ⟨hk,by simp⟩⟩
   ·rw [List.getElem?_set_ne (Ne.symm hj)] at e2
    obtain ⟨u',r',q⟩:=hl j y v' e1 e2 e3
    refine ⟨u',r',?_⟩
    rcases q with ⟨k,e⟩ | ⟨k,c,e,z⟩
    ·refine .inl ⟨k,?_⟩
     have:y ≠ x:=fun e=>hj (nodup_ix hN e1 (e ▸ hi))
     simp [this,e]
    ·exact .inr ⟨k,c,e,z.sameBut hs (cne y c e)⟩
  ·obtain ⟨w',z⟩:=I.cell y c e
   exact ⟨w',z.sameBut hs (cne y c e)⟩
  ·obtain ⟨e,n,ne,nf,d⟩:=I.pin p hp
   exact ⟨(hs.2 p.1 ne).trans e,n,ne,nf,d⟩
 ·have hfn:X.fn x = true:=by
   rcases hf with z | z
   ·exact z
   ·rw [z] at hk; cases hk
  obtain ⟨c,hc⟩:=I.ok.has x (.inl hk)
  obtain ⟨w',z⟩:=I.cell x c hc
  refine wpAny_storeName_cell I.ok.kind hk hc z (fun h' hc' hs=>?_)
  obtain ⟨oc,hoc,hocd⟩:=id z
  refine h { s with heap:=h' } ⟨I.ok,I.os,I.bare,⟨fun b o e n hb hx=>?_,fun b o e n hb hx=>?_,I.base.free,fun b o e hx=>?_,I.base.tups,I.base.frzs,I.base.tbls⟩,⟨m,hn.sameBut hs (Ne.symm (cne x c hc)),fun j y v' e1 e2 e3=>?_⟩,fun y c' e=>?_,I.free,I.freeC,fun p hp=>?_,tracked ⟨oc,hoc,I.freeC x c hc⟩ hs,by simpa using I.len⟩ ⟨c,hs,.inr hc⟩
  ·exact (hs.2 b (Nat.ne_of_lt (Nat.lt_of_lt_of_le (Heap.lt_size e) (I.ok.cab x c hfn hc)))).trans (I.base.keep b o e n hb hx)
  ·obtain ⟨sl,e1⟩:=I.base.slot b o e n hb hx
   exact ⟨sl,(hs.2 b (Nat.ne_of_lt (Nat.lt_of_lt_of_le (Heap.lt_size e) (I.ok.cab x c hfn hc)))).trans e1⟩
  ·obtain ⟨o',e1⟩:=I.base.there b o e hx
   exact ⟨o',(hs.2 b (Nat.ne_of_lt (Nat.lt_of_lt_of_le (Heap.lt_size e) (I.ok.cab x c hfn hc)))).trans e1⟩
  ·by_cases hj:j = i
   ·subst hj
    rw [hi] at e1; cases e1
    rw [List.getElem?_set_self hiσ] at e2
    cases e2
    exact ⟨u,r,.inr ⟨.inl hk,c,hc,hc'⟩⟩
   ·rw [List.getElem?_set_ne (Ne.symm hj)] at e2
    obtain ⟨u',r',q⟩:=hl j y v' e1 e2 e3
    refine ⟨u',r',?_⟩
    rcases q with q | ⟨k,c',e,z'⟩
    ·exact .inl q
    ·refine .inr ⟨k,c',e,z'.sameBut hs ?_⟩
     rintro rfl
     exact hj (nodup_ix hN e1 (I.ok.inj _ _ _ e hc ▸ hi))
  ·by_cases hcc:c' = c
   ·subst hcc; exact ⟨_,hc'⟩
   ·obtain ⟨w2,z2⟩:=I.cell y c' e
    exact ⟨w2,z2.sameBut hs hcc⟩
  ·obtain ⟨e,n,ne,nf,d⟩:=I.pin p hp
   refine ⟨(hs.2 p.1 ?_).trans e,n,ne,nf,d⟩
   intro q
   rw [q,hoc] at e
   have q':oc = p.2:=Option.some.inj e
   exact d w' (by rw [<- q']; exact hocd)
theorem store_ok {M:Model} {A:Around} {E:Value -> Shared -> Prop} {i:Nat} {x:Str} {v:V} {u:Value} {Q:Unit -> Shared -> Prop} (I:Inv X pins σ H s) (hN:X.N.Nodup) (hi:X.N[i]? = some x) (hx:Loc X.env.scope x) (r:RelV v u)
  (h:∀ s',Inv X pins (σ.set i (some v)) H s' -> Q () s') (hf:X.fn x = true \/ X.env.scope.names.lookup x = some .local:=by first | exact .inl rfl | exact .inr rfl | assumption):wpAny M A (storeName X.env x u) Q E s :=
 store_ok2 I hN hi hx r (fun s' I' _=>h s' I') hf
theorem Inv.call' {s':Shared} {ch:List Addr} (I:Inv X pins σ H s) (ho:s'.os = s.os) (u:Un (frs X.stack) ch H H' s.heap s'.heap) (hok:HOk X.prog X.w H' s'.heap) (hg:AllBare s'.gens)
  (hch:∀ b ∈ ch,(b ∈ X.ex \/ X.s₀.heap.objs.size <= b) /\ b ≠ X.env.locals /\ (∀ x c,X.env.cells.lookup x = some c -> c ≠ b) /\ ∀ p ∈ X.pn ++ pins,p.1 ≠ b):Inv X pins σ H' s':=by
 obtain ⟨h',g',d',t',o'⟩:=s'
 have e:o' = s.os:=ho
 subst e
 exact I.call (g':=g') (t':=t') (d':=d') u hok hg hch
end
abbrev XK:=Value -> Option Addr -> Hp -> Prop
abbrev St:=List (Option V)
abbrev VK:=V -> Hp -> Prop
abbrev TE:=St -> Hp -> VK -> Prop
abbrev TT:=St -> Hp -> (Bool -> Hp -> Prop) -> Prop
abbrev TA:=St -> Hp -> (List V -> Hp -> Prop) -> Prop
structure Ends where
 nx:St -> Hp -> Prop
 rt:VK
 bk:St -> Hp -> Prop:=fun _ _=>False
 ct:St -> Hp -> Prop:=fun _ _=>False
abbrev TS:=Ends -> St -> Hp -> Prop
def EP (X:Cx) (pins:List (Addr × Obj)) (σ:St) (Q:VK) (u:Value) (s':Shared):Prop:=∃ v H',Inv X pins σ H' s' /\ RelV v u /\ Q v H'
def TP (X:Cx) (pins:List (Addr × Obj)) (σ:St) (Q:Bool -> Hp -> Prop) (b:Bool) (s':Shared):Prop:=∃ H',Inv X pins σ H' s' /\ Q b H'
def AP (X:Cx) (pins:List (Addr × Obj)) (σ:St) (Q:List V -> Hp -> Prop) (us:List Value) (s':Shared):Prop:=∃ vs H',Inv X pins σ H' s' /\ Vals vs us /\ Q vs H'
def SP (X:Cx) (pins:List (Addr × Obj)) (D:Ends) (f:Flow) (s':Shared):Prop :=
 match f with
 | .next=>∃ σ' H',Inv X pins σ' H' s' /\ D.nx σ' H'
 | .brk=>∃ σ' H',Inv X pins σ' H' s' /\ D.bk σ' H'
 | .cont=>∃ σ' H',Inv X pins σ' H' s' /\ D.ct σ' H'
 | .ret u=>∃ v σ' H',Inv X pins σ' H' s' /\ RelV v u /\ D.rt v H'
def PE (X:Cx) (e:Expr) (t:TE):Prop :=
 ∀ (pins:List (Addr × Obj)) (s:Shared) (σ:St) (H:Hp) (Q:VK),Inv X pins σ H s -> t σ H Q -> wpAny (model X.prog X.w) X.A (eval e X.env) (EP X pins σ Q) X.xe s
def PT (X:Cx) (e:Expr) (t:TT):Prop :=
 ∀ (pins:List (Addr × Obj)) (s:Shared) (σ:St) (H:Hp) (Q:Bool -> Hp -> Prop),Inv X pins σ H s -> t σ H Q -> wpAny (model X.prog X.w) X.A (isTrue e X.env (eval e X.env)) (TP X pins σ Q) X.xe s
def PW (X:Cx) (e:Expr) (t:TT):Prop :=
 ∀ (whole:Sem Value) (pins:List (Addr × Obj)) (s:Shared) (σ:St) (H:Hp) (Q:Bool -> Hp -> Prop),Inv X pins σ H s -> t σ H Q -> wpAny (model X.prog X.w) X.A (isTrue e X.env whole) (TP X pins σ Q) X.xe s
theorem PW.pt {X:Cx} {e:Expr} {t:TT} (h:PW X e t):PT X e t:=h _
def PA (X:Cx) (es:List Expr) (t:TA):Prop :=
 ∀ (pos:Pos) (pins:List (Addr × Obj)) (s:Shared) (σ:St) (H:Hp) (Q:List V -> Hp -> Prop),Inv X pins σ H s -> t σ H Q -> wpAny (model X.prog X.w) X.A (spliced (backTo pos (starEach es X.env))) (AP X pins σ Q) X.xe s
def PS (X:Cx) (st:Stmt) (t:TS):Prop :=
 ∀ (pins:List (Addr × Obj)) (s:Shared) (σ:St) (H:Hp) (D:Ends),Inv X pins σ H s -> t D σ H -> wpAny (model X.prog X.w) X.A (exec st X.env) (SP X pins D) X.xe s
def PSs (X:Cx) (st:List Stmt) (t:TS):Prop :=
 ∀ (pins:List (Addr × Obj)) (s:Shared) (σ:St) (H:Hp) (D:Ends),Inv X pins σ H s -> t D σ H -> wpAny (model X.prog X.w) X.A (execs st X.env) (SP X pins D) X.xe s
theorem thn {α:Type} {t:Sem α} {Q Q':α -> Shared -> Prop} {M:Model} {A:Around} {E:Value -> Shared -> Prop} {s:Shared} (h:wpAny M A t Q E s) (hQ:∀ a s,Q a s -> Q' a s):wpAny M A t Q' E s:=wpAny_mono h hQ fun _ _ x=>x
end L2
namespace L2
open PySem PySem.Spec PyProof.Rows
section
variable {X:Cx}
def tVar (i:Nat):TE:=fun σ H Q=>∃ v,σ[i]? = some (some v) /\ Q v H
def tC (v:V):TE:=fun _ H Q=>Q v H
theorem pe_var {i:Nat} {x:Str} {pos:Pos} (hN:X.N[i]? = some x) (hv:Vis X.env.scope x) (hd:(x == ("__debug__" : Str)) = false:=by decide) (hcd:(x == ("__classdict__" : Str)) = false:=by decide):PE X (.Name x pos) (tVar i):=by
 intro pins s σ H Q I h
 obtain ⟨v,e,h⟩:=h
 obtain ⟨m,hn,hl⟩:=I.loc
 obtain ⟨u,r,l⟩:=hl i x v hN e hv
 have fin:EP X pins σ Q u s:=⟨v,H,I,r,h⟩
 rcases l with ⟨hk,hm⟩ | ⟨hk,c,hc,hcell⟩
 ·exact wpAny_Name (wpAny_loadName_local I.ok.kind hk hn hm fin) hd
 ·rcases hk with hk | hk
  ·exact wpAny_Name (wpAny_loadName_cell I.ok.kind hk hc hcell fin) hd
  ·exact wpAny_Name (wpAny_loadName_free I.ok.kind hk hc hcell fin hcd) hd
theorem pe_int {i j pos}:PE X (.Constant (.int i) j pos) (tC (.int i)):=fun _ _ _ H _ I h=>wpAny_Constant_int ⟨.int i,H,I.tok _,⟨_,rfl⟩,h⟩
theorem pe_bl {b j pos}:PE X (.Constant (.bool b) j pos) (tC (.bl b)):=fun _ _ _ H _ I h=>Constant_bool ⟨.bl b,H,I,rfl,h⟩
theorem pe_non {j pos}:PE X (.Constant .none j pos) (tC .non):=fun _ _ _ H _ I h=>Constant_none ⟨.non,H,I,rfl,h⟩
theorem pe_str {x j pos}:PE X (.Constant (.str x) j pos) (tC (.str x)):=fun _ _ _ H _ I h=>Calls.Constant_str ⟨.str x,H,I.tok _,⟨_,rfl⟩,h⟩
def Gl (X:Cx) (x:Str):Prop:=X.env.kindOf x = some .globalImplicit
theorem ld_glob {E:Value -> Shared -> Prop} {pins:List (Addr × Obj)} {s:Shared} {σ:St} {H:Hp} {x:Str} {u:Value} {pos:Pos} {Q:Value -> Shared -> Prop} (I:Inv X pins σ H s) (hg:Gl X x) (hm:X.mg x = some u) (h:Q u s)
  (hd:(x == ("__debug__" : Str)) = false:=by decide):wpAny (model X.prog X.w) X.A (eval (.Name x pos) X.env) Q E s :=
 Calls.Name_function_global I.ok.kind hg (Calls.loadGlobal_global (by rw [I.ok.glob]; exact I.mod.glob.keeps I.bk) hm h) hd
theorem ld_blt {E:Value -> Shared -> Prop} {pins:List (Addr × Obj)} {s:Shared} {σ:St} {H:Hp} {x:Str} {u:Value} {pos:Pos} {Q:Value -> Shared -> Prop} (I:Inv X pins σ H s) (hg:Gl X x) (hm:X.mg x = none) (hv:bootBuiltins x = some u) (h:Q u s)
  (hn:x ≠ "__name__":=by decide) (hd:(x == ("__debug__" : Str)) = false:=by decide):wpAny (model X.prog X.w) X.A (eval (.Name x pos) X.env) Q E s:=by
 obtain ⟨mb,h1,h2⟩:=I.mod.blt
 exact Calls.Name_function_global I.ok.kind hg (Calls.loadGlobal_builtin (by rw [I.ok.glob]; exact I.mod.glob.keeps I.bk) hm (by rw [I.ok.blt]; exact h1.keeps I.bk) ((h2 x hn).trans hv) h) hd
theorem pe_glob {x:Str} {v:V} {u:Value} {pos:Pos} (hg:Gl X x) (hm:X.mg x = some u) (r:RelV v u) (hd:(x == ("__debug__" : Str)) = false:=by decide):PE X (.Name x pos) (tC v) :=
 fun _ _ _ H _ I h=>ld_glob I hg hm ⟨v,H,I,r,h⟩ hd
theorem pe_bltn {x:Str} {v:V} {u:Value} {pos:Pos} (hg:Gl X x) (hm:X.mg x = none) (hv:bootBuiltins x = some u) (r:RelV v u) (hn:x ≠ "__name__":=by decide) (hd:(x == ("__debug__" : Str)) = false:=by decide):PE X (.Name x pos) (tC v) :=
 fun _ _ _ H _ I h=>ld_blt I hg hm hv ⟨v,H,I,r,h⟩ hn hd
variable {a b:Expr} {ta tb:TE} {pos:Pos}
def tB (t:TE):TT:=fun σ H Q=>t σ H fun x H1=>∃ c,x = .bl c /\ Q c H1
theorem pt_val {e:Expr} {t:TE} (h:PE X e t) (he:∀ whole,isTrue e X.env whole = (do let v <- whole; standAt e.pos; holding [v] (truthy v)):=by intro _; rfl):PT X e (tB t):=by
 intro pins s σ H Q I hw
 refine isTrue_plain (thn (h pins s σ H _ I hw) fun v s1 ⟨x,H1,I1,r1,q1⟩=>?_) (he _)
 obtain ⟨d,rfl,q⟩:=q1
 cases r1
 exact wpAny_truthy_bool ⟨H1,I1,q⟩
variable {tA tB':TT} {rest:List Expr}
def tAnd (t u:TT):TT:=fun σ H Q=>t σ H fun c H1=>if c = true then u σ H1 Q else Q false H1
def tOr (t u:TT):TT:=fun σ H Q=>t σ H fun c H1=>if c = true then Q true H1 else u σ H1 Q
def tNot (t:TT):TT:=fun σ H Q=>t σ H fun c H1=>Q (!c) H1
theorem pw_and1 (ha:PT X a tA):PW X (.BoolOp .And [a] pos) tA:=by
 intro wh pins s σ H Q I h
 refine isTrue_and (thn (ha pins s σ H Q I h) fun c s1 e=>?_)
 cases c with
 | true=>exact isTrue_and_nil e
 | false=>exact e
theorem pw_or1 (ha:PT X a tA):PW X (.BoolOp .Or [a] pos) tA:=by
 intro wh pins s σ H Q I h
 refine isTrue_or (thn (ha pins s σ H Q I h) fun c s1 e=>?_)
 cases c with
 | false=>exact isTrue_or_nil e
 | true=>exact e
theorem pw_and (ha:PT X a tA) (hb:PW X (.BoolOp .And (b :: rest) pos) tB'):PW X (.BoolOp .And (a :: b :: rest) pos) (tAnd tA tB'):=by
 intro wh pins s σ H Q I h
 refine isTrue_and (thn (ha pins s σ H _ I h) fun c s1 ⟨H1,I1,q1⟩=>?_)
 cases c with
 | true=>exact hb wh pins s1 σ H1 Q I1 q1
 | false=>exact ⟨H1,I1,q1⟩
theorem pw_or (ha:PT X a tA) (hb:PW X (.BoolOp .Or (b :: rest) pos) tB'):PW X (.BoolOp .Or (a :: b :: rest) pos) (tOr tA tB'):=by
 intro wh pins s σ H Q I h
 refine isTrue_or (thn (ha pins s σ H _ I h) fun c s1 ⟨H1,I1,q1⟩=>?_)
 cases c with
 | true=>exact ⟨H1,I1,q1⟩
 | false=>exact hb wh pins s1 σ H1 Q I1 q1
theorem pt_not (ha:PT X a tA):PT X (.UnaryOp .Not a pos) (tNot tA):=by
 intro pins s σ H Q I h
 exact isTrue_not (ha pins s σ H (fun c H1=>Q (!c) H1) I h)
def tAndV (ta tb:TE):TE:=fun σ H Q=>ta σ H fun x H1=>∃ c,x = .bl c /\ if c = true then tb σ H1 Q else Q (.bl false) H1
def tOrV (ta tb:TE):TE:=fun σ H Q=>ta σ H fun x H1=>∃ c,x = .bl c /\ if c = true then Q (.bl true) H1 else tb σ H1 Q
def tNotV (ta:TE):TE:=fun σ H Q=>ta σ H fun x H1=>∃ c,x = .bl c /\ Q (.bl (!c)) H1
theorem pe_one {op} {t:TE} (h:PE X a t):PE X (.BoolOp op [a] pos) t:=fun pins s σ H Q I hw=>BoolOp_one (h pins s σ H Q I hw)
theorem pe_and (ha:PE X a ta) (hb:PE X (.BoolOp .And (b :: rest) pos) tb):PE X (.BoolOp .And (a :: b :: rest) pos) (tAndV ta tb):=by
 intro pins s σ H Q I h
 refine BoolOp_and (thn (ha pins s σ H _ I h) fun v s1 ⟨x,H1,I1,r1,q1⟩=>?_)
 obtain ⟨c,rfl,q1⟩:=q1
 cases r1
 refine wpAny_truthy_bool ?_
 cases c with
 | true=>exact hb pins s1 σ H1 Q I1 q1
 | false=>exact ⟨.bl false,H1,I1,rfl,q1⟩
def tIf (t:TT) (ta tb:TE):TE:=fun σ H Q=>t σ H fun c H1=>if c = true then ta σ H1 Q else tb σ H1 Q
theorem pe_ifExp {c:Expr} (hc:PT X c tA) (ha:PE X a ta) (hb:PE X b tb):PE X (.IfExp c a b pos) (tIf tA ta tb):=by
 intro pins s σ H Q I h
 refine wpAny_IfExp (thn (hc pins s σ H _ I h) fun d s1 ⟨H1,I1,q1⟩=>?_)
 cases d with
 | true=>exact ha pins s1 σ H1 Q I1 q1
 | false=>exact hb pins s1 σ H1 Q I1 q1
end
end L2
namespace L2
open PySem PySem.Spec PyProof.Rows
def SqL (K:PySem.W.Frag) (H:Hp) (a:Addr) (xs:List V):Prop :=
 Rd H a (.lst xs) \/
  ∃ (o:Obj) (its:Array Value) (n:Nat),K.lookup a = some o /\ o.cls = .type "list" /\ o.dict = none /\ o.data = .seq its n /\ its.size <= sizeLine /\ Vals xs its.toList
def SqT (K:PySem.W.Frag) (H:Hp) (a:Addr) (xs:List V):Prop :=
 Rd H a (.tup xs) \/
  ∃ (o:Obj) (its:Array Value) (n:Nat),K.lookup a = some o /\ o.cls = .type "tuple" /\ o.data = .seq its n /\ its.size <= sizeLine /\ Vals xs its.toList
def absV:Value -> Option V
 | .none=>some .non
 | .bool b=>some (.bl b)
 | .int i _=>some (.int i)
 | .str x _=>some (.str x)
 | .bytes b _=>some (.byt b)
 | .float b _=>some (.flt b)
 | .ref a=>some (.ref a)
 | .type n=>some (.ty n)
 | _=>none
theorem RelV.abs {x:V} {u:Value} (r:RelV x u):absV u = some x:=by
 cases x with
 | non=>cases r; rfl
 | bl _=>cases r; rfl
 | int _=>obtain ⟨t,rfl⟩:=r; rfl
 | str _=>obtain ⟨t,rfl⟩:=r; rfl
 | byt _=>obtain ⟨t,rfl⟩:=r; rfl
 | flt _=>obtain ⟨t,rfl⟩:=r; rfl
 | ref _=>cases r; rfl
 | ty _=>cases r; rfl
theorem RelV.inj {x y:V} {u:Value} (r:RelV x u) (q:RelV y u):x = y:=Option.some.inj (r.abs.symm.trans q.abs)
theorem Vals.inj:∀ {xs ys:List V} {us:List Value},Vals xs us -> Vals ys us -> xs = ys
 | _,_,_,.nil,.nil=>rfl
 | _,_,_,.cons r t,.cons r' t'=>by rw [r.inj r',Vals.inj t t']
section
variable {X:Cx} {pins:List (Addr × Obj)} {σ:St} {H:Hp} {s:Shared} {a:Addr} {xs ys:List V}
theorem SqL.of {K:PySem.W.Frag} (h:H a = some (.lst xs)):SqL K H a xs:=.inl (.inl h)
theorem SqT.of {K:PySem.W.Frag} (h:H a = some (.tup xs)):SqT K H a xs:=.inl (.inl h)
theorem Inv.list (I:Inv X pins σ H s) (h:SqL X.K H a xs):∃ its:List Value,Vals xs its /\ PlainL s.heap a its.toArray /\ xs.length <= sizeLine:=by
 rcases h with h | ⟨o,its,n,hk,hc,hd,hs,hz,r⟩
 ·obtain ⟨z,its,n,r,e⟩:=h.ok I.hok
  exact ⟨its,r,⟨_,n,e,rfl,rfl,rfl⟩,z⟩
 ·refine ⟨its.toList,r,⟨o,n,I.kIn a o hk,hc,hd,by simpa using hs⟩,?_⟩
  have e:=r.length
  simp only [Array.length_toList] at e
  walk_at "o"
theorem Inv.tuple (I:Inv X pins σ H s) (h:SqT X.K H a xs):∃ its:List Value,Vals xs its /\ IsTup s.heap a its.toArray /\ xs.length <= sizeLine:=by
 rcases h with h | ⟨o,its,n,hk,hc,hs,hz,r⟩
 ·obtain ⟨z,its,r,p⟩:=h.ok I.hok
  exact ⟨its,r,p,z⟩
 ·refine ⟨its.toList,r,⟨o,I.kIn a o hk,hc,n,by simpa using hs⟩,?_⟩
  have e:=r.length
  simp only [Array.length_toList] at e
  walk_at "o"
theorem Inv.list_inj (I:Inv X pins σ H s) (h:SqL X.K H a xs) (h':SqL X.K H a ys):xs = ys:=by
 obtain ⟨its,r,⟨o,n,e,_,_,d⟩,_⟩:=I.list h
 obtain ⟨its',r',⟨o',n',e',_,_,d'⟩,_⟩:=I.list h'
 rw [e] at e'; cases e'
 rw [d] at d'
 injection d' with d1 _
 have:its = its':=by simpa using congrArg Array.toList d1
 subst this
 exact r.inj r'
end
abbrev Cx.wish (X:Cx) (E:Value -> Shared -> Prop):Cx:={ X with xe:=E }
abbrev Cx.nox (X:Cx):Cx:=X.wish fun _ _=>False
theorem Cx.Ok.wish {X:Cx} (ok:X.Ok) (E:Value -> Shared -> Prop):(X.wish E).Ok :=
 ⟨ok.mod,ok.kind,ok.glob,ok.blt,ok.above,ok.inj,ok.has,ok.cab,ok.hd,ok.frames,ok.stk,ok.exf,ok.bs,ok.bsz,ok.noex,ok.exfs,ok.funs,ok.frf⟩
theorem Cx.Ok.unwish {X:Cx} {E:Value -> Shared -> Prop} (ok:(X.wish E).Ok):X.Ok :=
 ⟨ok.mod,ok.kind,ok.glob,ok.blt,ok.above,ok.inj,ok.has,ok.cab,ok.hd,ok.frames,ok.stk,ok.exf,ok.bs,ok.bsz,ok.noex,ok.exfs,ok.funs,ok.frf⟩
section
variable {X:Cx} {pins:List (Addr × Obj)} {σ:St} {H:Hp} {s:Shared} {E:Value -> Shared -> Prop}
theorem Inv.wish (I:Inv X pins σ H s) (E:Value -> Shared -> Prop):Inv (X.wish E) pins σ H s:=⟨I.ok.wish E,I.os,I.bare,I.base,I.loc,I.cell,I.free,I.freeC,I.pin,I.hok,I.len⟩
theorem Inv.unwish (I:Inv (X.wish E) pins σ H s):Inv X pins σ H s:=⟨I.ok.unwish,I.os,I.bare,I.base,I.loc,I.cell,I.free,I.freeC,I.pin,I.hok,I.len⟩
theorem SP.unwish {D:Ends} {f:Flow} {s':Shared} (h:SP (X.wish E) pins D f s'):SP X pins D f s':=by
 cases f with
 | next=>obtain ⟨σ',H',I,q⟩:=h; exact ⟨σ',H',I.unwish,q⟩
 | brk=>obtain ⟨σ',H',I,q⟩:=h; exact ⟨σ',H',I.unwish,q⟩
 | cont=>obtain ⟨σ',H',I,q⟩:=h; exact ⟨σ',H',I.unwish,q⟩
 | ret u=>obtain ⟨v,σ',H',I,r,q⟩:=h; exact ⟨v,σ',H',I.unwish,r,q⟩
theorem PSs.nox {st:List Stmt} {t:TS} (h:PSs X.nox st t):PSs X st t:=fun pins s σ H D I hw =>
 wpAny_mono (h pins s σ H D (I.wish _) hw) (fun _ _ q=>q.unwish) fun _ _ z=>False.elim z
end
section
variable {X:Cx} {st:Stmt} {rest:List Stmt} {t u:TS} {e:Expr} {te:TE} {pos:Pos}
def tNext:TS:=fun D σ H=>D.nx σ H
def tSeq (t u:TS):TS:=fun D σ H=>t { D with nx:=u D } σ H
theorem pss_nil:PSs X [] tNext:=fun _ _ σ H _ I h=>wpAny_execs_nil ⟨σ,H,I,h⟩
theorem pss_cons (h1:PS X st t) (h2:PSs X rest u):PSs X (st :: rest) (tSeq t u):=by
 intro pins s σ H D I h
 refine wpAny_execs_cons (thn (h1 pins s σ H { D with nx:=u D } I h) fun f s1 q=>?_)
 cases f with
 | next =>
  obtain ⟨σ',H',I',q⟩:=q
  exact h2 pins s1 σ' H' D I' q
 | ret v=>exact q
 | brk=>exact q
 | cont=>exact q
theorem pss_one (h1:PS X st t):PSs X [st] t:=by
 intro pins s σ H D I h
 refine wpAny_execs_cons (thn (h1 pins s σ H D I h) fun f s1 q=>?_)
 cases f with
 | next=>exact wpAny_execs_nil q
 | ret v=>exact q
 | brk=>exact q
 | cont=>exact q
theorem Inv.quiet {pins:List (Addr × Obj)} {σ:St} {H:Hp} {s:Shared} (I:Inv X pins σ H s):interactive X.env = false:=by simp [interactive,I.ok.kind]
def tDrop (te:TE):TS:=fun D σ H=>te σ H fun _ H1=>D.nx σ H1
theorem ps_expr (he:PE X e te) (hs:swapsWith e none pos.line X.env = pure false:=by rfl):PS X (.Expr e pos) (tDrop te):=by
 intro pins s σ H D I h
 exact wpAny_Expr_any (thn (he pins s σ H _ I h) fun v s1 ⟨x,H1,I1,r1,q1⟩=>⟨σ,H1,I1,q1⟩) I.quiet hs
def tRet (te:TE):TS:=fun D σ H=>te σ H D.rt
theorem ps_ret (he:PE X e te):PS X (.Return (some e) pos) (tRet te):=by
 intro pins s σ H D I h
 exact wpAny_Return_some (thn (he pins s σ H _ I h) fun v s1 ⟨x,H1,I1,r1,q1⟩=>⟨x,σ,H1,I1,r1,q1⟩)
def tRetN:TS:=fun D _ H=>D.rt .non H
def tIfS (c:TT) (t u:TS):TS:=fun D σ H=>c σ H fun b H1=>if b = true then t D σ H1 else u D σ H1
theorem ps_if {c:Expr} {a b:List Stmt} {tc:TT} (hc:PT X c tc) (ha:PSs X a t) (hb:PSs X b u):PS X (.If c a b pos) (tIfS tc t u):=by
 intro pins s σ H D I h
 refine wpAny_If (thn (hc pins s σ H _ I h) fun d s1 ⟨H1,I1,q1⟩=>?_)
 cases d with
 | true=>exact ha pins s1 σ H1 D I1 q1
 | false=>exact hb pins s1 σ H1 D I1 q1
def tNever:TS:=fun _ _ _=>False
theorem ps_never:PS X st tNever:=fun _ _ _ _ _ _ h=>h.elim
theorem pss_never {sts:List Stmt}:PSs X sts tNever:=fun _ _ _ _ _ _ h=>h.elim
end
abbrev TG:=V -> St -> Hp -> (St -> Hp -> Prop) -> Prop
abbrev TGs:=List V -> St -> Hp -> (St -> Hp -> Prop) -> Prop
def PG (X:Cx) (target:Expr) (t:TG):Prop :=
 ∀ (pins:List (Addr × Obj)) (s:Shared) (σ:St) (H:Hp) (v:V) (u:Value) (Q:St -> Hp -> Prop),Inv X pins σ H s -> RelV v u -> t v σ H Q ->
  wpAny (model X.prog X.w) X.A (assign target X.env u) (fun _ s'=>∃ σ' H',Inv X pins σ' H' s' /\ Q σ' H') X.xe s
def PGs (X:Cx) (ts:List Expr) (t:TGs):Prop :=
 ∀ (pins:List (Addr × Obj)) (s:Shared) (σ:St) (H:Hp) (vs:List V) (us:List Value) (Q:St -> Hp -> Prop),Inv X pins σ H s -> Vals vs us -> t vs σ H Q ->
  wpAny (model X.prog X.w) X.A (assignInOrder ((assignEach ts X.env).map (·.2)) us) (fun _ s'=>∃ σ' H',Inv X pins σ' H' s' /\ Q σ' H') X.xe s
abbrev TSet:=V -> V -> V -> Hp -> (Hp -> Prop) -> Prop
def PSet (X:Cx) (t:TSet):Prop :=
 ∀ (pins:List (Addr × Obj)) (s:Shared) (σ:St) (H:Hp) (o i v:V) (ov iv u:Value) (Q:Hp -> Prop),Inv X pins σ H s -> RelV o ov -> RelV i iv -> RelV v u -> t o i v H Q ->
  wpAny (model X.prog X.w) X.A (setItem ov iv u) (fun _ s'=>∃ H',Inv X pins σ H' s' /\ Q H') X.xe s
abbrev TIp:=V -> V -> Hp -> VK -> Prop
def PIp (X:Cx) (op:Operator) (t:TIp):Prop :=
 ∀ (pins:List (Addr × Obj)) (s:Shared) (σ:St) (H:Hp) (x y:V) (v u:Value) (Q:VK),Inv X pins σ H s -> RelV x v -> RelV y u -> t x y H Q ->
  wpAny (model X.prog X.w) X.A (inplaceOp op v u) (EP X pins σ Q) X.xe s
section
variable {X:Cx} {pos:Pos}
def gName (i:Nat):TG:=fun v σ H Q=>Q (σ.set i (some v)) H
theorem pg_name {i:Nat} {x:Str} (hN:X.N.Nodup) (hi:X.N[i]? = some x) (hx:Loc X.env.scope x) (hf:X.fn x = true \/ X.env.scope.names.lookup x = some .local:=by first | exact .inl rfl | exact .inr rfl | assumption):PG X (.Name x pos) (gName i):=by
 intro pins s σ H v u Q I r h
 exact wpAny_assign_Name (store_ok I hN hi hx r (fun s' I'=>⟨_,H,I',h⟩) hf)
def gNil:TGs:=fun vs σ H Q=>vs = [] /\ Q σ H
def gCons (t:TG) (u:TGs):TGs:=fun vs σ H Q=>∃ v r,vs = v :: r /\ t v σ H fun σ' H'=>u r σ' H' Q
theorem pgs_nil:PGs X [] gNil:=by
 intro pins s σ H vs us Q I r h
 obtain ⟨e,h⟩:=h
 subst e
 cases r
 exact assignInOrder_nil ⟨σ,H,I,h⟩
theorem pgs_cons {e:Expr} {es:List Expr} {t:TG} {u:TGs} (h1:PG X e t) (h2:PGs X es u)
  (hs:(assignEach (e :: es) X.env).map (·.2) = assign e X.env :: (assignEach es X.env).map (·.2):=by rfl):PGs X (e :: es) (gCons t u):=by
 intro pins s σ H vs us Q I r h
 obtain ⟨v,vr,e1,h⟩:=h
 subst e1
 cases r with
 | cons r rr =>
  rw [hs]
  refine assignInOrder_cons (thn (h1 pins s σ H _ _ _ I r h) fun _ s1 ⟨σ1,H1,I1,q1⟩=>?_)
  exact h2 pins s1 σ1 H1 _ _ Q I1 rr q1
def gTup (K:PySem.W.Frag) (n:Nat) (t:TGs):TG:=fun v σ H Q=>∃ a xs,v = .ref a /\ SqT K H a xs /\ xs.length = n /\ t xs σ H Q
theorem pg_tup {es:List Expr} {k:Nat} {t:TGs} {n:Nat} (hc:X.calm = true) (h:PGs X es t)
  (hn:(assignEach es X.env).length = n:=by rfl) (hst:(assignEach es X.env).findIdx? (·.1) = none:=by rfl):PG X (.Tuple es k pos) (gTup X.K n t):=by
 intro pins s σ H v u Q I r hw
 obtain ⟨a,xs,e1,hq,hl,hw⟩:=hw
 subst e1
 cases r
 obtain ⟨its,rv,ht,hz⟩:=I.tuple hq
 refine assign_Tuple_tuple (I.ok.hd hc) ht (by simp [hn,<- hl,rv.length]) hst fun h' hx=>?_
 have I1:Inv X pins σ H { s with heap:=h' }:=I.kept (t':=s.toks) fun b o e=>hx b o (Nat.ne_of_lt (Heap.lt_size e)) e
 exact h pins _ σ H xs _ Q I1 (by simpa using rv) hw
def gSub (to ti:TE) (t:TSet):TG:=fun v σ H Q=>to σ H fun o H1=>ti σ H1 fun i H2=>t o i v H2 fun H3=>Q σ H3
theorem pg_sub {o i:Expr} {to ti:TE} {t:TSet} (ho:PE X o to) (hi:PE X i ti) (hs:PSet X t)
  (ha:∀ v,assign (.Subscript o i pos) X.env v = (do
   let ov <- holding [v] (eval o X.env)
   let iv <- holding [v,ov] (eval i X.env)
   standAt pos
   holding [v,ov,iv] (setItem ov iv v)
   release [v,ov,iv] []):=by intro _; rfl):PG X (.Subscript o i pos) (gSub to ti t):=by
 intro pins s σ H v u Q I r h
 rw [ha]
 refine wpAny_bind (wpAny_holding (thn (ho pins s σ H _ I h) fun ov s1 ⟨x,H1,I1,r1,q1⟩=>?_))
 refine wpAny_bind (wpAny_holding (thn (hi pins s1 σ H1 _ I1 q1) fun iv s2 ⟨y,H2,I2,r2,q2⟩=>?_))
 refine wpAny_bind (wpAny_standAt (wpAny_bind (wpAny_holding (thn (hs pins s2 σ H2 x y v ov iv u _ I2 r1 r2 r q2) fun _ s3 ⟨H3,I3,q3⟩=>?_))))
 exact wpAny_release ⟨σ,H3,I3,q3⟩
def tAsg (te:TE) (g:TG):TS:=fun D σ H=>te σ H fun x H1=>g x σ H1 D.nx
theorem ps_asg {tg e:Expr} {te:TE} {g:TG} (he:PE X e te) (hg:PG X tg g) (hs:swapsWithSole [tg] e pos.line X.env = pure false:=by rfl) (hw:swappedStores [tg] e X.env = pure none:=by rfl)
  (h1:(assignEach [tg] X.env).map (·.2) = [assign tg X.env]:=by rfl):PS X (.Assign [tg] e pos) (tAsg te g):=by
 intro pins s σ H D I h
 refine wpAny_Assign_stores (thn (he pins s σ H _ I h) fun v s1 ⟨x,H1,I1,r1,q1⟩=>?_) hs hw
 rw [h1]
 exact thn (hg pins s1 σ H1 x v _ I1 r1 q1) fun _ s2 q=>q
theorem ps_set {i:Nat} {x:Str} {e:Expr} {te:TE} {pos':Pos} (hN:X.N.Nodup) (hi:X.N[i]? = some x) (hx:Loc X.env.scope x) (he:PE X e te) (hs:swapsWith e (some (.Name x pos')) pos.line X.env = pure false:=by rfl) (hf:X.fn x = true \/ X.env.scope.names.lookup x = some .local:=by first | exact .inl rfl | exact .inr rfl | assumption) :
  PS X (.Assign [.Name x pos'] e pos) (tAsg te (gName i)):=by
 intro pins s σ H D I h
 refine wpAny_Assign_Name (thn (he pins s σ H _ I h) fun v s1 ⟨y,H1,I1,r1,q1⟩=>?_) hs
 exact store_ok I1 hN hi hx r1 (fun s2 I2=>⟨_,H1,I2,q1⟩) hf
def tPar (i j:Nat) (ta:TA):TS:=fun D σ H=>ta σ H fun vs H1=>∃ v w,vs = [v,w] /\ D.nx ((σ.set i (some v)).set j (some w)) H1
theorem ps_par {i j:Nat} {x y:Str} {a b:Expr} {ta:TA} {px py pt:Pos} {kt k2 pt2} (hc:X.calm = true) (hN:X.N.Nodup) (hi:X.N[i]? = some x) (hj:X.N[j]? = some y) (hij:i ≠ j)
  (hx:X.env.scope.names.lookup x = some .local) (hy:X.env.scope.names.lookup y = some .local) (ha:PA X [a,b] ta)
  (hw:swappedStores [.Tuple [.Name x px,.Name y py] kt pt] (.Tuple [a,b] k2 pt2) X.env = pure (some [x,y]))
  (hs:swapsWithSole [.Tuple [.Name x px,.Name y py] kt pt] (.Tuple [a,b] k2 pt2) pos.line X.env = pure false:=by rfl) :
  PS X (.Assign [.Tuple [.Name x px,.Name y py] kt pt] (.Tuple [a,b] k2 pt2) pos) (tPar i j ta):=by
 intro pins s σ H D I h
 rw [exec_Assign_arm]
 refine wpAny_bind (wpAny_standAt ?_)
 rw [hs]
 refine wpAny_bind (wpAny_pure ?_)
 rw [if_neg (by decide)]
 refine wpAny_bind (Tuple_ (thn (ha _ pins s σ H _ I h) fun us s1 ⟨vs,H1,I1,r1,q1⟩=>?_))
 obtain ⟨v,w,e1,q1⟩:=q1
 subst e1
 obtain ⟨u1,u2,rfl,rv,rw'⟩ : ∃ u1 u2,us = [u1,u2] /\ RelV v u1 /\ RelV w u2:=by
  cases r1 with
  | cons p q =>
   cases q with
   | cons p' q' =>
    cases q'
    exact ⟨_,_,rfl,p,p'⟩
 refine wpAny_newObj_type ?_ (by show 2 <= sizeLine; decide)
 have I2:Inv X pins σ H1 { s1 with heap:=s1.heap.push { cls:=.type "tuple",data:=.seq [u1,u2].toArray } }:=I1.kept (t':=s1.toks) fun b o e=>Heap.get?_push_of_some _ e
 rw [hw]
 refine wpAny_bind (wpAny_pure ?_)
 show wpAny (model X.prog X.w) X.A (do rule "assign.swapped-stores"; let items <- unpackItems (.ref s1.heap.objs.size) 2 none; assignInOrder [fun v=>bindName X.env y v,fun v=>bindName X.env x v] items.reverse; pure Flow.next) _ _ _
 refine wpAny_bind (wpAny_rule (wpAny_bind (unpackItems_tuple (items:=#[u1,u2]) (I.ok.hd hc) (IsTup.new s1.heap _) fun h' hx'=>?_)))
 have I3:=I2.kept (h':=h') (t':=s1.toks) fun b o e=>hx' b o (Nat.ne_of_lt (Heap.lt_size e)) e
 show wpAny _ _ (assignInOrder [fun v=>bindName X.env y v,fun v=>bindName X.env x v] [u2,u1] >>= fun _=>pure Flow.next) _ _ _
 refine wpAny_bind (assignInOrder_cons (wpAny_bindName (store_ok I3 hN hj (.inl hy) rw' (fun s2 I4=>?_) (.inr hy))))
 refine assignInOrder_cons (wpAny_bindName (store_ok I4 hN hi (.inl hx) rv (fun s3 I5=>assignInOrder_nil (wpAny_pure ?_)) (.inr hx)))
 rw [List.set_comm _ _ (Ne.symm hij)] at I5
 exact ⟨_,H1,I5,q1⟩
def tAug (i:Nat) (te:TE) (ti:TIp):TS:=fun D σ H=>∃ x,σ[i]? = some (some x) /\ te σ H fun y H1=>ti x y H1 fun z H2=>D.nx (σ.set i (some z)) H2
theorem ps_aug {i:Nat} {x:Str} {e:Expr} {te:TE} {op:Operator} {ti:TIp} {pos':Pos} (hN:X.N.Nodup) (hi:X.N[i]? = some x) (hx:Loc X.env.scope x) (he:PE X e te) (ho:PIp X op ti) (hf:X.fn x = true \/ X.env.scope.names.lookup x = some .local:=by first | exact .inl rfl | exact .inr rfl | assumption) :
  PS X (.AugAssign (.Name x pos') op e pos) (tAug i te ti):=by
 intro pins s σ H D I h
 obtain ⟨v,e1,h⟩:=h
 obtain ⟨m,hn,hl⟩:=I.loc
 have vis:Vis X.env.scope x:=by rcases hx with k | k; exact .inl k; exact .inr (.inl k)
 obtain ⟨u,r,l⟩:=hl i x v hi e1 vis
 refine wpAny_AugAssign_Name ?_
 have go:wpAny (model X.prog X.w) X.A (eval e X.env) (fun w s₂=>wpAny (model X.prog X.w) X.A (inplaceOp op u w) (fun r s₃=>wpAny (model X.prog X.w) X.A (storeName X.env x r) (fun _=>SP X pins D .next) X.xe s₃) X.xe s₂) X.xe s:=by
  refine thn (he pins s σ H _ I h) fun w s1 ⟨y,H1,I1,r1,q1⟩=>?_
  refine thn (ho pins s1 σ H1 v y u w _ I1 r r1 q1) fun z s2 ⟨zv,H2,I2,r2,q2⟩=>?_
  exact store_ok I2 hN hi hx r2 (fun s3 I3=>⟨_,H2,I3,q2⟩) hf
 rcases l with ⟨hk,hm⟩ | ⟨hk,c,hc,hcell⟩
 ·exact wpAny_loadName_local I.ok.kind hk hn hm go
 ·rcases hk with hk | hk
  ·exact wpAny_loadName_cell I.ok.kind hk hc hcell go
  ·rcases hx with k | k
   ·have:X.env.scope.names.lookup x = some .free:=hk
    rw [k] at this; cases this
   ·have:X.env.scope.names.lookup x = some .free:=hk
    rw [k] at this; cases this
def tAugS (to ti te:TE) (tget:V -> V -> Hp -> VK -> Prop) (tip:TIp) (tset:TSet):TS:=fun D σ H=>to σ H fun o H1=>ti σ H1 fun i H2=>tget o i H2 fun x H3=>te σ H3 fun y H4=>tip x y H4 fun z H5=>tset o i z H5 fun H6=>D.nx σ H6
def PGet (X:Cx) (t:V -> V -> Hp -> VK -> Prop):Prop :=
 ∀ (pins:List (Addr × Obj)) (s:Shared) (σ:St) (H:Hp) (o i:V) (ov iv:Value) (Q:VK),Inv X pins σ H s -> RelV o ov -> RelV i iv -> t o i H Q ->
  wpAny (model X.prog X.w) X.A (getItem ov iv) (EP X pins σ Q) X.xe s
theorem ps_augS {o i e:Expr} {to ti te:TE} {tget:V -> V -> Hp -> VK -> Prop} {tip:TIp} {tset:TSet} {op:Operator} {tpos:Pos} (ho:PE X o to) (hi:PE X i ti) (hg:PGet X tget) (he:PE X e te) (hp:PIp X op tip) (hs:PSet X tset)
  (ha:∀ ov iv new,augStore i ov iv new = (do holding [new,ov,iv] (setItem ov iv new); release [new,ov,iv] []; pure .next):=by intros; rfl):PS X (.AugAssign (.Subscript o i tpos) op e pos) (tAugS to ti te tget tip tset):=by
 intro pins s σ H D I h
 refine wpAny_AugAssign_SubscriptAny (thn (ho pins s σ H _ I h) fun ov s1 ⟨x1,H1,I1,r1,q1⟩=>?_) ha
 refine thn (hi pins s1 σ H1 _ I1 q1) fun iv s2 ⟨x2,H2,I2,r2,q2⟩=>?_
 refine thn (hg pins s2 σ H2 x1 x2 ov iv _ I2 r1 r2 q2) fun old s3 ⟨x3,H3,I3,r3,q3⟩=>?_
 refine thn (he pins s3 σ H3 _ I3 q3) fun v s4 ⟨x4,H4,I4,r4,q4⟩=>?_
 refine thn (hp pins s4 σ H4 x3 x4 old v _ I4 r3 r4 q4) fun new s5 ⟨x5,H5,I5,r5,q5⟩=>?_
 exact thn (hs pins s5 σ H5 x1 x2 x5 ov iv new _ I5 r1 r2 r5 q5) fun _ s6 ⟨H6,I6,q6⟩=>⟨σ,H6,I6,q6⟩
def ipI (f:Int -> Int -> Int):TIp:=fun x y H Q=>∃ i j,x = .int i /\ y = .int j /\ Q (.int (f i j)) H
theorem ip_sub:PIp X .Sub (ipI fun i j=>i - j):=by
 intro pins s σ H x y v u Q I r1 r2 h
 obtain ⟨i,j,e1,e2,q⟩:=h
 subst e1; subst e2
 obtain ⟨t,rfl⟩:=r1
 obtain ⟨t',rfl⟩:=r2
 exact isub_int ⟨.int _,H,I.tok _,⟨_,rfl⟩,q⟩
end
section
variable {X:Cx} {pos:Pos}
def tWhile (c:TT) (tb:TS):TS:=fun D σ H=>∃ W:Nat -> St -> Hp -> Prop,(∃ m,W m σ H) /\ ∀ m σ H,W m σ H ->
 c σ H fun b H1=>if b = true then ∃ N:St -> Hp -> Prop,(∀ σ' H',N σ' H' -> ∃ m',m' < m /\ W m' σ' H') /\ tb { D with nx:=N,ct:=N,bk:=D.nx } σ H1 else D.nx σ H1
theorem ps_while {c:Expr} {body:List Stmt} {tc:TT} {tb:TS} (hp:PassesOwn (model X.prog X.w) X.A X.env X.xe) (hc:PT X c tc) (hb:PSs X body tb):PS X (.While c body [] pos) (tWhile tc tb):=by
 intro pins s σ H D I h
 obtain ⟨W,⟨m0,w0⟩,turn⟩:=h
 refine wpAny_While (codeAny_whileLoop (fun n s'=>∃ σ' H',Inv X pins σ' H' s' /\ W n σ' H') ?_ m0 ⟨σ,H,I,w0⟩)
 rintro n s1 ⟨σ1,H1,I1,w1⟩
 refine wpAny_passesOwn hp (thn (hc pins s1 σ1 H1 _ I1 (turn n σ1 H1 w1)) fun b s2 ⟨H2,I2,q2⟩=>?_)
 cases b with
 | true =>
  obtain ⟨N,hN,q2⟩:=q2
  rw [if_pos rfl]
  refine wpAny_passesOwn hp (thn (hb pins s2 σ1 H2 _ I2 q2) fun f s3 q3=>?_)
  cases f with
  | next =>
   obtain ⟨σ3,H3,I3,n3⟩:=q3
   obtain ⟨m',hm,w3⟩:=hN σ3 H3 n3
   exact ⟨m',hm,σ3,H3,I3,w3⟩
  | cont =>
   obtain ⟨σ3,H3,I3,n3⟩:=q3
   obtain ⟨m',hm,w3⟩:=hN σ3 H3 n3
   exact ⟨m',hm,σ3,H3,I3,w3⟩
  | brk=>exact q3
  | ret v=>exact q3
 | false =>
  rw [if_neg Bool.false_ne_true]
  exact wpAny_execs_nil ⟨σ1,H2,I2,q2⟩
end
structure It where
 go:Nat -> Hp -> Prop
 yld:Nat -> Hp -> V -> Hp -> Prop
 stop:Nat -> Hp -> Prop
def FpOk (X:Cx) (pins:List (Addr × Obj)) (H:Hp) (b:Addr):Prop :=
 H b = none /\ b ≠ X.env.locals /\ b ∉ X.fs /\ (b ∈ X.ex \/ X.s₀.heap.objs.size <= b) /\ (∀ x c,X.env.cells.lookup x = some c -> c ≠ b) /\ ∀ p ∈ X.pn ++ pins,p.1 ≠ b
theorem Inv.fpOk {X:Cx} {pins:List (Addr × Obj)} {σ:St} {H H':Hp} {s:Shared} {b:Addr} (I:Inv X pins σ H s) (hb:s.heap.objs.size <= b) (hn:H' b = none):FpOk X pins H' b:=by
 refine ⟨hn,Nat.ne_of_gt (Nat.lt_of_lt_of_le I.lt hb),I.nofs hb,.inr (Nat.le_trans I.sz hb),fun x c e z=>?_,fun p hp z=>?_⟩
 ·obtain ⟨v,q⟩:=I.cell x c e
  exact absurd (Nat.lt_of_lt_of_le q.lt (by rw [z]; exact hb)) (Nat.lt_irrefl _)
 ·exact absurd (Nat.lt_of_lt_of_le (Heap.lt_size (I.pin p hp).1) (by rw [z]; exact hb)) (Nat.lt_irrefl _)
structure Turn (P:Program) (w:World) (K:PySem.W.Frag) (tg:Expr) (J:It) (fp:List Addr) (it:Addr) (tn:Nat -> Heap -> Prop):Prop where
 mem:it ∈ fp
 obj:∀ i h,tn i h -> ∀ b ∈ fp,∃ o,h.get? b = some o /\ ∀ v,o.data ≠ .cell v
 keep:∀ i h h',tn i h -> (∀ b ∈ fp,∀ o,h.get? b = some o -> h'.get? b = some o) -> tn i h'
 item:∀ (X:Cx),X.prog = P -> X.w = w -> X.K = K -> X.calm = true -> ∀ (i:Nat) (pins:List (Addr × Obj)) (s:Shared) (σ:St) (H:Hp) (E:Value -> Shared -> Prop),Inv X pins σ H s -> (∀ b ∈ fp,FpOk X pins H b) -> tn i s.heap -> J.go i H ->
  wpAny (model P w) X.A (pyNext (.ref it)) (fun r s1=>∃ u,r = some u /\
   wpAny (model P w) X.A (letOwnedTupleGo tg (.ref it) u) (fun _ s2=>∃ x H',Inv X pins σ H' s2 /\ RelV x u /\ J.yld i H x H' /\ tn (i + 1) s2.heap /\ ∀ b ∈ fp,H' b = none) E s1) E s
 done:∀ (X:Cx),X.prog = P -> X.w = w -> X.K = K -> X.calm = true -> ∀ (i:Nat) (pins:List (Addr × Obj)) (s:Shared) (σ:St) (H:Hp) (E:Value -> Shared -> Prop),Inv X pins σ H s -> (∀ b ∈ fp,FpOk X pins H b) -> tn i s.heap -> J.stop i H ->
  wpAny (model P w) X.A (pyNext (.ref it)) (fun r s1=>r = none /\ Inv X pins σ H s1) E s
 self:∀ (A:Around) (i:Nat) (s:Shared) (Q:Value -> Shared -> Prop) (E:Value -> Shared -> Prop),tn i s.heap -> Q (.ref it) s -> wpAny (model P w) A (pyIter (.ref it)) Q E s
abbrev TI:=St -> Hp -> (It -> Hp -> Prop) -> Prop
def PIE (X:Cx) (pins:List (Addr × Obj)) (σ:St) (tg:Expr) (R:It -> Hp -> Prop) (itv:Value) (s2:Shared):Prop :=
 ∃ (it:Addr) (fp:List Addr) (tn:Nat -> Heap -> Prop) (J:It) (H':Hp),itv = .ref it /\ Inv X pins σ H' s2 /\ Turn X.prog X.w X.K tg J fp it tn /\ tn 0 s2.heap /\ (∀ b ∈ fp,FpOk X pins H' b) /\ R J H'
def PI (X:Cx) (tg iter:Expr) (wi:TI):Prop :=
 ∀ (pins:List (Addr × Obj)) (s:Shared) (σ:St) (H:Hp) (R:It -> Hp -> Prop),Inv X pins σ H s -> wi σ H R ->
  wpAny (model X.prog X.w) X.A (eval iter X.env) (fun v s1=>wpAny (model X.prog X.w) X.A (pyIter v) (PIE X pins σ tg R) X.xe s1) X.xe s
theorem go_of {M:Model} {A:Around} {E:Value -> Shared -> Prop} {s:Shared} {tg:Expr} {it:Addr} {u:Value} {o:Obj} {n:String} {vs:Array Value} {Q:Unit -> Shared -> Prop} (ho:s.heap.get? it = some o) (hc:o.cls = .type n) (hd:o.data = .fields vs)
  (hn:["enumerate", "zip", "dict_itemiterator", "dict_reverseitemiterator", "odict_iterator", "itertools.zip_longest", "itertools.pairwise"].contains n = false) (hQ:Q () s):wpAny M A (letOwnedTupleGo tg (.ref it) u) Q E s:=by
 unfold letOwnedTupleGo
 cases tg <;> first
  | exact wpAny_pure hQ
  | (cases u <;> first
    | exact wpAny_pure hQ
    | (refine wpAny_bind (wpAny_load ho ?_)
       rw [hc,hd]
       show wpAny M A (if (["enumerate", "zip", "dict_itemiterator", "dict_reverseitemiterator", "odict_iterator", "itertools.zip_longest", "itertools.pairwise"].contains n && vs[0]? == some (rawInt _)) = true then _ else _) Q E s
       rw [if_neg (by intro h; rw [hn,Bool.false_and] at h; cases h)]
       exact wpAny_pure hQ))
def Itl (K:PySem.W.Frag) (a:Addr):It :=
 ⟨fun i H=>∃ xs x,SqL K H a xs /\ xs[i]? = some x,fun i H x H'=>H' = H /\ ∀ xs,SqL K H a xs -> xs[i]? = some x,fun i H=>∃ xs,SqL K H a xs /\ xs.length <= i⟩
def Itt (K:PySem.W.Frag) (a:Addr):It :=
 ⟨fun i H=>∃ xs x,SqT K H a xs /\ xs[i]? = some x,fun i H x H'=>H' = H /\ ∀ xs,SqT K H a xs -> xs[i]? = some x,fun i H=>∃ xs,SqT K H a xs /\ xs.length <= i⟩
def Itr (lo:Int) (n:Nat):It:=⟨fun i _=>i < n,fun i H x H'=>H' = H /\ x = .int (lo + i),fun i _=>n <= i⟩
theorem turn_list {P:Program} {w:World} {K:PySem.W.Frag} {tg:Expr} (a it:Addr):Turn P w K tg (Itl K a) [it] it (fun i h=>h.IsListIter it a i) where
 mem:=by simp
 obj:=fun i h st b hb=>by
  have e:b = it:=by simpa using hb
  subst e
  obtain ⟨o,e,c,d⟩:=st
  exact ⟨o,e,fun v z=>by rw [d] at z; cases z⟩
 keep:=fun i h h' st k=>st.at fun o e=>k it (by simp) o e
 item:=by
  intro X hP hw hK hc i pins s σ H E I hf st hg
  subst hP hw hK
  obtain ⟨xs,x,hq,hx⟩:=hg
  obtain ⟨its,rv,p,hz⟩:=I.list hq
  obtain ⟨u,hu,ru⟩:=rv.get hx
  obtain ⟨f0,f1,f2,f3,f4,f5⟩:=hf it (by simp)
  refine wpAny_pyNext_list_item st p.isList (x:=u) (by simpa using hu) fun h' st' sb=>?_
  have I1:Inv X pins σ H { s with heap:=h' }:=I.turned (t':=s.toks) (fun b o hb e=>(sb.2 b hb).trans e) f0 f1 f3 f4 f5
  obtain ⟨o,e,c,d⟩:=id st'
  exact ⟨u,rfl,go_of (s:={ s with heap:=h' }) e c d (by decide) ⟨x,H,I1,ru,⟨rfl,fun ys hy=>by rw [I.list_inj hy hq]; exact hx⟩,st',fun b hb=>(hf b hb).1⟩⟩
 done:=by
  intro X hP hw hK hc i pins s σ H E I hf st hg
  subst hP hw hK
  obtain ⟨xs,hq,hx⟩:=hg
  obtain ⟨its,rv,p,hz⟩:=I.list hq
  obtain ⟨f0,f1,f2,f3,f4,f5⟩:=hf it (by simp)
  have hl:=rv.length
  exact wpAny_pyNext_list_end (I.ok.hd hc) st p.isList (by simp; walk_at "o") fun h' eb=>⟨rfl,I.turned (t':=s.toks) (fun b o hb e=>eb b o hb e) f0 f1 f3 f4 f5⟩
 self:=fun _ _ _ _ _ st h=>wpAny_pyIter_listiter st h
theorem turn_range {P:Program} {w:World} {K:PySem.W.Frag} {tg:Expr} (it:Addr) (lo:Int) (n:Nat):Turn P w K tg (Itr lo n) [it] it (fun i h=>IsRangeIter h it (lo + (i:Nat) * 1) ((n:Int) - (i:Nat)) 1) where
 mem:=by simp
 obj:=fun i h st b hb=>by
  have e:b = it:=by simpa using hb
  subst e
  exact ⟨_,st,fun v z=>by
   have z':Data.fields _ = Data.cell v:=z
   cases z'⟩
 keep:=fun i h h' st k=>k it (by simp) _ st
 item:=by
  intro X hP hw hK hc i pins s σ H E I hf st hg
  subst hP hw hK
  obtain ⟨f0,f1,f2,f3,f4,f5⟩:=hf it (by simp)
  have W:=Walks.range (prog:=X.prog) (w:=X.w) (I.ok.hd hc) it lo 1 n
  refine W.item i s _ _ hg st fun v h' tk hv st' kk=>?_
  obtain ⟨t,rfl⟩:=hv
  have I1:Inv X pins σ H { s with heap:=h',toks:=tk }:=I.turned (fun b o hb e=>kk b o (by simpa using hb) e) f0 f1 f3 f4 f5
  refine ⟨_,rfl,go_of (s:={ s with heap:=h',toks:=tk }) (n:="range_iterator") st' rfl rfl (by decide) ⟨.int (lo + i),H,I1,⟨t,?_⟩,⟨rfl,rfl⟩,st',fun b hb=>(hf b hb).1⟩⟩
  rw [Int.mul_one]
 done:=by
  intro X hP hw hK hc i pins s σ H E I hf st hg
  subst hP hw hK
  obtain ⟨f0,f1,f2,f3,f4,f5⟩:=hf it (by simp)
  exact wpAny_pyNext_range_end (I.ok.hd hc) st (by have:n <= i:=hg; walk_at "o") fun h' eb=>⟨rfl,I.turned (t':=s.toks) (fun b o hb e=>eb b o hb e) f0 f1 f3 f4 f5⟩
 self:=fun _ _ _ _ _ st h=>wpAny_pyIter_rangeiter st h
end L2
namespace L2
open PySem PySem.Spec PyProof.Rows
section
variable {X:Cx} {tg:Expr}
def iList (K:PySem.W.Frag) (tl:TE):TI:=fun σ H R=>tl σ H fun x H1=>∃ a,x = .ref a /\ (∃ xs,SqL K H1 a xs) /\ R (Itl K a) H1
def iTup (K:PySem.W.Frag) (tl:TE):TI:=fun σ H R=>tl σ H fun x H1=>∃ a,x = .ref a /\ (∃ xs,SqT K H1 a xs) /\ R (Itt K a) H1
theorem pi_list {l:Expr} {tl:TE} (hl:PE X l tl):PI X tg l (iList X.K tl):=by
 intro pins s σ H R I h
 refine thn (hl pins s σ H _ I h) fun v s1 ⟨x,H1,I1,r1,q1⟩=>?_
 obtain ⟨a,e,⟨xs,hq⟩,q⟩:=q1
 subst e
 cases r1
 obtain ⟨its,rv,p,hz⟩:=I1.list hq
 refine wpAny_pyIter_list p.isList ?_
 refine ⟨s1.heap.objs.size,[s1.heap.objs.size],_,_,H1,rfl,I1.kept (t':=s1.toks) fun b o e=>Heap.get?_push_of_some _ e,turn_list a _,⟨_,Heap.get?_push_size _ rfl,rfl,rfl⟩,fun b hb=>?_,q⟩
 have e:b = s1.heap.objs.size:=by simpa using hb
 subst e
 exact I1.fpOk (Nat.le_refl _) (I1.hok.fresh (Nat.le_refl _))
theorem range_it {pins:List (Addr × Obj)} {σ:St} {H:Hp} {s:Shared} {R:It -> Hp -> Prop} {E:Value -> Shared -> Prop} {lo hi:Int} {t u v:Tok} {tk:Nat} (I:Inv X pins σ H s) (h1 : -(2 ^ 62) <= lo) (h2:lo < 2 ^ 62) (h3 : -(2 ^ 62) <= hi) (h4:hi < 2 ^ 62)
  (q:R (Itr lo (hi - lo).toNat) H):wpAny (model X.prog X.w) X.A (pyIter (.ref s.heap.objs.size)) (PIE X pins σ tg R) E { s with heap:=s.heap.push { cls:=.type "range",data:=.fields #[.int lo t,.int hi u,.int 1 v] },toks:=tk }:=by
 refine wpAny_pyIter_range (IsRange.new ..) (small_one h1 h2 h3 h4) ?_
 have I1:Inv X pins σ H { s with heap:=s.heap.push { cls:=.type "range",data:=.fields #[.int lo t,.int hi u,.int 1 v] },toks:=tk }:=I.kept fun b o e=>Heap.get?_push_of_some _ e
 refine ⟨(s.heap.push { cls:=.type "range",data:=.fields #[.int lo t,.int hi u,.int 1 v] }).objs.size,[(s.heap.push { cls:=.type "range",data:=.fields #[.int lo t,.int hi u,.int 1 v] }).objs.size],_,_,H,rfl,
  I1.kept (t':=tk) fun b o e=>Heap.get?_push_of_some _ e,turn_range _ lo (hi - lo).toNat,?_,fun b hb=>?_,q⟩
 ·have e1:lo + ((0:Nat):Int) * 1 = lo:=by simp
  have e2:(((hi - lo).toNat:Nat):Int) - ((0:Nat):Int) = Builtin.Range.rangeSize lo hi 1:=by rw [rangeSize_one]; split <;> walk_at "o"
  show IsRangeIter _ _ (lo + ((0:Nat):Int) * 1) ((((hi - lo).toNat:Nat):Int) - ((0:Nat):Int)) 1
  rw [e1,e2]
  exact Heap.get?_push_size _ rfl
 ·have e:b = (s.heap.push { cls:=.type "range",data:=.fields #[.int lo t,.int hi u,.int 1 v] }).objs.size:=by simpa using hb
  subst e
  exact I1.fpOk (Nat.le_refl _) (I1.hok.fresh (Nat.le_refl _))
def iRng1 (ta:TA):TI:=fun σ H R=>ta σ H fun vs H1=>∃ j:Int,vs = [.int j] /\ -(2 ^ 62) <= j /\ j < 2 ^ 62 /\ R (Itr 0 j.toNat) H1
def iRng2 (ta:TA):TI:=fun σ H R=>ta σ H fun vs H1=>∃ i j:Int,vs = [.int i,.int j] /\ (-(2 ^ 62) <= i /\ i < 2 ^ 62 /\ -(2 ^ 62) <= j /\ j < 2 ^ 62) /\ R (Itr i (j - i).toNat) H1
theorem pi_range1 {a:Expr} {ta:TA} {p pos:Pos} (hg:Gl X "range") (hm:X.mg "range" = none) (ha:PA X [a] ta) (hs:starEach [a] X.env = [(false,eval a X.env)]:=by rfl):PI X tg (.Call (.Name "range" p) [a] [] pos) (iRng1 ta):=by
 intro pins s σ H R I h
 refine Call_ (ld_blt I hg hm boot_range (PyProof.Rows.callWith_type1 (thn (ha pos pins s σ H _ I h) fun us s1 ⟨vs,H1,I1,r1,q1⟩=>?_) hs rfl))
 obtain ⟨j,e,q1,q2,q⟩:=q1
 subst e
 cases r1 with
 | cons r rr =>
  cases rr
  obtain ⟨t,rfl⟩:=r
  exact call_range_1 (range_it I1 (by walk_at "o") (by walk_at "o") q1 q2 (by simpa using q))
theorem pi_range2 {a b:Expr} {ta:TA} {p pos:Pos} (hg:Gl X "range") (hm:X.mg "range" = none) (ha:PA X [a,b] ta) (hs:starEach [a,b] X.env = [(false,eval a X.env),(false,eval b X.env)]:=by rfl) (hs2:starEach [b] X.env = [(false,eval b X.env)]:=by rfl) :
  PI X tg (.Call (.Name "range" p) [a,b] [] pos) (iRng2 ta):=by
 intro pins s σ H R I h
 refine Call_ (ld_blt I hg hm boot_range (PyProof.Rows.callWith_type1 (thn (ha pos pins s σ H _ I h) fun us s1 ⟨vs,H1,I1,r1,q1⟩=>?_) (by rw [hs,hs2]) (by rw [hs2]; rfl)))
 obtain ⟨i,j,e,⟨q1,q2,q3,q4⟩,q⟩:=q1
 subst e
 cases r1 with
 | cons r rr =>
  cases rr with
  | cons r' rr =>
   cases rr
   obtain ⟨t,rfl⟩:=r
   obtain ⟨t',rfl⟩:=r'
   exact call_range_2 (range_it I1 q1 q2 q3 q4 q)
def tFor (wi:TI) (g:TG) (tb:TS):TS:=fun D σ H=>wi σ H fun J H1=>∃ W:Nat -> Nat -> St -> Hp -> Prop,(∃ m,W 0 m σ H1) /\ ∀ i m σ H,W i m σ H ->
 (J.stop i H /\ D.nx σ H) \/ (J.go i H /\ ∃ N:St -> Hp -> Prop,(∀ σ' H',N σ' H' -> ∃ m',m' < m /\ W (i + 1) m' σ' H') /\ ∀ x H',J.yld i H x H' -> g x σ H' fun σ2 H2=>tb { D with nx:=N,ct:=N,bk:=D.nx } σ2 H2)
def pinsAt (fp:List Addr) (h:Heap):List (Addr × Obj):=fp.filterMap fun b=>(h.get? b).map fun o=>(b,o)
theorem mem_pinsAt {fp:List Addr} {h:Heap} {b:Addr} {o:Obj} (hb:b ∈ fp) (e:h.get? b = some o):(b,o) ∈ pinsAt fp h:=List.mem_filterMap.mpr ⟨b,hb,by rw [e]; rfl⟩
theorem of_pinsAt {fp:List Addr} {h:Heap} {p:Addr × Obj} (hp:p ∈ pinsAt fp h):p.1 ∈ fp /\ h.get? p.1 = some p.2:=by
 obtain ⟨b,hb,e⟩:=List.mem_filterMap.mp hp
 cases q:h.get? b with
 | none=>rw [q] at e; cases e
 | some o =>
  rw [q] at e
  have e':(b,o) = p:=Option.some.inj e
  subst e'
  exact ⟨hb,q⟩
theorem Inv.pinned {pins:List (Addr × Obj)} {σ:St} {H:Hp} {s:Shared} {fp:List Addr} (I:Inv X pins σ H s) (hf:∀ b ∈ fp,FpOk X pins H b) (ho:∀ b ∈ fp,∃ o,s.heap.get? b = some o /\ ∀ v,o.data ≠ .cell v):Inv X (pins ++ pinsAt fp s.heap) σ H s :=
 I.pins_of fun p hp=>(List.mem_append.mp hp).elim (fun z=>I.pin p (List.mem_append_right _ z)) fun z=>by
  obtain ⟨hb,e⟩:=of_pinsAt z
  obtain ⟨f0,f1,f2,_⟩:=hf p.1 hb
  obtain ⟨o,e',d⟩:=ho p.1 hb
  rw [e] at e'; cases e'
  exact ⟨e,f0,f1,f2,d⟩
theorem Inv.unpinned {pins pl:List (Addr × Obj)} {σ:St} {H:Hp} {s:Shared} (I:Inv X (pins ++ pl) σ H s):Inv X pins σ H s:=I.pins_of fun p hp=>I.pin p (List.mem_append_right _ (List.mem_append_left _ hp))
theorem ps_for {iter:Expr} {body:List Stmt} {wi:TI} {g:TG} {tb:TS} {pos:Pos} (hp:PassesOwn (model X.prog X.w) X.A X.env X.xe) (hc:X.calm = true) (hi:PI X tg iter wi) (hg:PG X tg g) (hb:PSs X body tb)
  (hs:∀ x,foldedSetIterable iter X.env x = pure x:=by intro _; rfl):PS X (.For tg iter body [] pos) (tFor wi g tb):=by
 intro pins s σ H D I h
 refine wpAny_For (thn (hi pins s σ H _ I h) fun v s1 h1=>thn h1 fun itv s2 h2=>?_) hs
 obtain ⟨it,fp,tn,J,H2,e,I2,T,st2,f2,W,⟨m0,w0⟩,turn⟩:=h2
 subst e
 have stat:∀ {H':Hp},(∀ b ∈ fp,H' b = none) -> ∀ b ∈ fp,FpOk X pins H' b:=fun hn b hb=>⟨hn b hb,(f2 b hb).2⟩
 refine codeAny_forLoop_any (fun n s'=>∃ i σ' H',Inv X pins σ' H' s' /\ tn i s'.heap /\ (∀ b ∈ fp,H' b = none) /\ W i n σ' H') ?_ m0 ⟨0,σ,H2,I2,st2,fun b hb=>(f2 b hb).1,w0⟩
 rintro n s3 ⟨i,σ3,H3,I3,st3,fr3,w3⟩
 rcases turn i n σ3 H3 w3 with ⟨stop,qn⟩ | ⟨go,N,hN,step⟩
 ·refine wpAny_passesOwn hp (thn (T.done X rfl rfl rfl hc i pins s3 σ3 H3 X.xe I3 (stat fr3) st3 stop) fun r s4 ⟨hr,I4⟩=>?_)
  subst hr
  exact wpAny_execs_nil ⟨σ3,H3,I4,qn⟩
 ·refine wpAny_passesOwn hp (thn (T.item X rfl rfl rfl hc i pins s3 σ3 H3 X.xe I3 (stat fr3) st3 go) fun r s4 ⟨u,hr,h4⟩=>?_)
  subst hr
  refine wpAny_passesOwn hp (thn h4 fun _ s5 ⟨x,H5,I5,r5,y5,st5,fr5⟩=>?_)
  have I5':=I5.pinned (stat fr5) (T.obj _ _ st5)
  refine wpAny_passesOwn hp (thn (hg _ s5 σ3 H5 x u _ I5' r5 (step x H5 y5)) fun _ s6 ⟨σ6,H6,I6,q6⟩=>?_)
  refine wpAny_passesOwn hp (thn (hb _ s6 σ6 H6 _ I6 q6) fun f s7 q7=>?_)
  have again:∀ {σ7:St} {H7:Hp},Inv X (pins ++ pinsAt fp s5.heap) σ7 H7 s7 -> N σ7 H7 -> ∃ m,m < n /\ ∃ i σ' H',Inv X pins σ' H' s7 /\ tn i s7.heap /\ (∀ b ∈ fp,H' b = none) /\ W i m σ' H':=fun {σ7 H7} I7 n7=>by
   obtain ⟨m',hm,w7⟩:=hN σ7 H7 n7
   refine ⟨m',hm,i + 1,σ7,H7,I7.unpinned,T.keep _ _ _ st5 fun b hb o e=>(I7.pin (b,o) (List.mem_append_right _ (List.mem_append_right _ (mem_pinsAt hb e)))).1,fun b hb=>?_,w7⟩
   obtain ⟨o,e,d⟩:=T.obj _ _ st5 b hb
   exact (I7.pin (b,o) (List.mem_append_right _ (List.mem_append_right _ (mem_pinsAt hb e)))).2.1
  cases f with
  | next=>obtain ⟨σ7,H7,I7,n7⟩:=q7; exact again I7 n7
  | cont=>obtain ⟨σ7,H7,I7,n7⟩:=q7; exact again I7 n7
  | brk=>obtain ⟨σ7,H7,I7,q7⟩:=q7; exact ⟨σ7,H7,I7.unpinned,q7⟩
  | ret v=>obtain ⟨x7,σ7,H7,I7,r7,q7⟩:=q7; exact ⟨x7,σ7,H7,I7.unpinned,r7,q7⟩
end
end L2
namespace L2
open PySem PySem.Spec PyProof.Rows
abbrev R2:=V -> V -> Hp -> VK -> Prop
def OpR (X:Cx) (f:Value -> Value -> Sem Value) (r:R2):Prop :=
 ∀ (pins:List (Addr × Obj)) (s:Shared) (σ:St) (H:Hp) (x y:V) (v u:Value) (Q:VK),Inv X pins σ H s -> RelV x v -> RelV y u -> r x y H Q ->
  wpAny (model X.prog X.w) X.A (f v u) (EP X pins σ Q) X.xe s
def UnR (X:Cx) (f:Value -> Sem Value) (r:V -> Hp -> VK -> Prop):Prop :=
 ∀ (pins:List (Addr × Obj)) (s:Shared) (σ:St) (H:Hp) (x:V) (v:Value) (Q:VK),Inv X pins σ H s -> RelV x v -> r x H Q ->
  wpAny (model X.prog X.w) X.A (f v) (EP X pins σ Q) X.xe s
def CallR (X:Cx) (f:Value) (r:List V -> Hp -> VK -> Prop):Prop :=
 ∀ (pins:List (Addr × Obj)) (s:Shared) (σ:St) (H:Hp) (xs:List V) (us:List Value) (Q:VK),Inv X pins σ H s -> Vals xs us -> r xs H Q ->
  wpAny (model X.prog X.w) X.A (call f us) (EP X pins σ Q) X.xe s
def TruR (X:Cx) (r:V -> Hp -> (Bool -> Hp -> Prop) -> Prop):Prop :=
 ∀ (pins:List (Addr × Obj)) (s:Shared) (σ:St) (H:Hp) (x:V) (v:Value) (Q:Bool -> Hp -> Prop),Inv X pins σ H s -> RelV x v -> r x H Q ->
  wpAny (model X.prog X.w) X.A (truthy v) (TP X pins σ Q) X.xe s
def tOp (r:R2) (ta tb:TE):TE:=fun σ H Q=>ta σ H fun x H1=>tb σ H1 fun y H2=>r x y H2 Q
def tUn (r:V -> Hp -> VK -> Prop) (ta:TE):TE:=fun σ H Q=>ta σ H fun x H1=>r x H1 Q
def rI (C:Int -> Int -> Prop) (g:Int -> Int -> V):R2:=fun x y H Q=>∃ i j,x = .int i /\ y = .int j /\ C i j /\ Q (g i j) H
def rI0 (g:Int -> Int -> V):R2:=fun x y H Q=>∃ i j,x = .int i /\ y = .int j /\ Q (g i j) H
def rU (g:Int -> V):V -> Hp -> VK -> Prop:=fun x H Q=>∃ i,x = .int i /\ Q (g i) H
section
variable {X:Cx} {a b c:Expr} {ta tb tc:TE} {pos:Pos}
theorem binT (ha:PE X a ta) (hb:PE X b tb) {pins:List (Addr × Obj)} {s:Shared} {σ:St} {H:Hp} {R:V -> V -> Hp -> Prop} (I:Inv X pins σ H s)
  (h:ta σ H fun x H1=>tb σ H1 fun y H2=>R x y H2) {Q:Value -> Shared -> Prop} {f:Value -> Value -> Sem Value}
  (hf:∀ v u s2 x y H2,Inv X pins σ H2 s2 -> RelV x v -> RelV y u -> R x y H2 -> wpAny (model X.prog X.w) X.A (f v u) Q X.xe s2) :
  wpAny (model X.prog X.w) X.A (eval a X.env) (fun v s₁=>wpAny (model X.prog X.w) X.A (eval b X.env) (fun u s₂=>wpAny (model X.prog X.w) X.A (f v u) Q X.xe s₂) X.xe s₁) X.xe s:=by
 refine thn (ha pins s σ H _ I h) fun v s1 ⟨x,H1,I1,r1,q1⟩=>?_
 refine thn (hb pins s1 σ H1 _ I1 q1) fun u s2 ⟨y,H2,I2,r2,q2⟩=>?_
 exact hf v u s2 x y H2 I2 r1 r2 q2
theorem pe_op {op:Operator} {r:R2} (ho:OpR X (binaryOp op) r) (ha:PE X a ta) (hb:PE X b tb):PE X (.BinOp a op b pos) (tOp r ta tb):=by
 intro pins s σ H Q I h
 exact wpAny_BinOp (binT ha hb I h fun v u s2 x y H2 I2 rx ry q=>ho pins s2 σ H2 x y v u Q I2 rx ry q)
theorem pe_un {op:UnaryOp} {r:V -> Hp -> VK -> Prop} (ho:UnR X (unaryOp op) r) (ha:PE X a ta):PE X (.UnaryOp op a pos) (tUn r ta):=by
 intro pins s σ H Q I h
 exact UnaryOp_ (thn (ha pins s σ H _ I h) fun v s1 ⟨x,H1,I1,r1,q1⟩=>ho pins s1 σ H1 x v Q I1 r1 q1)
theorem opI {f:Value -> Value -> Sem Value} {C:Int -> Int -> Prop} {g:Int -> Int -> Int}
  (rule:∀ (i j:Int) (t u:Tok) (s:Shared) (Q:Value -> Shared -> Prop) (E:Value -> Shared -> Prop),C i j -> Q (.int (g i j) s.toks) { s with toks:=s.toks + 1 } -> wpAny (model X.prog X.w) X.A (f (.int i t) (.int j u)) Q E s) :
  OpR X f (rI C fun i j=>.int (g i j)):=by
 intro pins s σ H x y v u Q I rx ry h
 obtain ⟨i,j,rfl,rfl,hc,q⟩:=h
 obtain ⟨t,rfl⟩:=rx
 obtain ⟨t',rfl⟩:=ry
 exact rule i j t t' s _ _ hc ⟨.int (g i j),H,I.tok _,⟨_,rfl⟩,q⟩
theorem opI0 {f:Value -> Value -> Sem Value} {g:Int -> Int -> Int}
  (rule:∀ (i j:Int) (t u:Tok) (s:Shared) (Q:Value -> Shared -> Prop) (E:Value -> Shared -> Prop),Q (.int (g i j) s.toks) { s with toks:=s.toks + 1 } -> wpAny (model X.prog X.w) X.A (f (.int i t) (.int j u)) Q E s) :
  OpR X f (rI0 fun i j=>.int (g i j)):=by
 intro pins s σ H x y v u Q I rx ry h
 obtain ⟨i,j,rfl,rfl,q⟩:=h
 obtain ⟨t,rfl⟩:=rx
 obtain ⟨t',rfl⟩:=ry
 exact rule i j t t' s _ _ ⟨.int (g i j),H,I.tok _,⟨_,rfl⟩,q⟩
theorem opB0 {f:Value -> Value -> Sem Value} {g:Int -> Int -> Bool}
  (rule:∀ (i j:Int) (t u:Tok) (s:Shared) (Q:Value -> Shared -> Prop) (E:Value -> Shared -> Prop),Q (.bool (g i j)) s -> wpAny (model X.prog X.w) X.A (f (.int i t) (.int j u)) Q E s) :
  OpR X f (rI0 fun i j=>.bl (g i j)):=by
 intro pins s σ H x y v u Q I rx ry h
 obtain ⟨i,j,rfl,rfl,q⟩:=h
 obtain ⟨t,rfl⟩:=rx
 obtain ⟨t',rfl⟩:=ry
 exact rule i j t t' s _ _ ⟨.bl (g i j),H,I,rfl,q⟩
def CPow (i j:Int):Prop:=0 <= j /\ j <= 1000000 /\ i.natAbs < 2 ^ 64
theorem op_add:OpR X (binaryOp .Add) (rI0 fun i j=>.int (i + j)):=opI0 fun _ _ _ _ _ _ _ q=>add_int q
theorem op_sub:OpR X (binaryOp .Sub) (rI0 fun i j=>.int (i - j)):=opI0 fun _ _ _ _ _ _ _ q=>sub_int q
theorem op_modN:OpR X (binaryOp .Mod) (rI (fun _ j=>j ≠ 0) fun i j=>.int (i.fmod j)):=opI fun _ _ _ _ _ _ _ hc q=>mod_int' hc q
theorem op_pow:OpR X (binaryOp .Pow) (rI CPow fun i j=>.int (i ^ j.toNat)):=opI fun _ _ _ _ _ _ _ hc q=>pow_int_small hc.1 hc.2.1 hc.2.2 q
theorem unI {f:Value -> Sem Value} {g:Int -> Int}
  (rule:∀ (i:Int) (t:Tok) (s:Shared) (Q:Value -> Shared -> Prop) (E:Value -> Shared -> Prop),Q (.int (g i) s.toks) { s with toks:=s.toks + 1 } -> wpAny (model X.prog X.w) X.A (f (.int i t)) Q E s) :
  UnR X f (rU fun i=>.int (g i)):=by
 intro pins s σ H x v Q I rx h
 obtain ⟨i,rfl,q⟩:=h
 obtain ⟨t,rfl⟩:=rx
 exact rule i t s _ _ ⟨.int (g i),H,I.tok _,⟨_,rfl⟩,q⟩
theorem un_neg:UnR X (unaryOp .USub) (rU fun i=>.int (-i)):=unI fun _ _ _ _ _ q=>neg_int q
end
def scal:V -> V -> Bool
 | .non,.non=>true | .non,.int _=>true | .int _,.non=>true | .non,.bl _=>true | .bl _,.non=>true | .non,.str _=>true | .str _,.non=>true
 | .int _,.int _=>true | .bl _,.bl _=>true | .str _,.str _=>true | .byt _,.byt _=>true
 | .int _,.str _=>true | .str _,.int _=>true | .bl _,.str _=>true | .str _,.bl _=>true
 | _,_=>false
def rEq:R2:=fun x y H Q=>scal x y = true /\ Q (.bl (decide (x = y))) H
def rNe:R2:=fun x y H Q=>scal x y = true /\ Q (.bl (!decide (x = y))) H
theorem dec_int {i j:Int}:decide (V.int i = V.int j) = (i == j):=by
 rw [Bool.eq_iff_iff]
 simp
theorem dec_bl {i j:Bool}:decide (V.bl i = V.bl j) = (i == j):=by
 rw [Bool.eq_iff_iff]
 simp
theorem dec_str {i j:Str}:decide (V.str i = V.str j) = (i == j):=by
 rw [Bool.eq_iff_iff]
 simp
theorem dec_byt {i j:Array UInt8}:decide (V.byt i = V.byt j) = (i.toList == j.toList):=by
 rw [Bool.eq_iff_iff]
 cases i
 cases j
 simp
section
variable {X:Cx} {a b c:Expr} {ta tb tc:TE} {pos:Pos}
theorem fin_bl {pins:List (Addr × Obj)} {σ:St} {H:Hp} {s:Shared} {Q:VK} {k k':Bool} (I:Inv X pins σ H s) (q:Q (.bl k) H) (e:k = k'):EP X pins σ Q (.bool k') s:=by
 subst e
 exact ⟨.bl k,H,I,rfl,q⟩
theorem op_eq:OpR X (compareOp .Eq) rEq:=by
 intro pins s σ H x y v u Q I rx ry h
 obtain ⟨hs,q⟩:=h
 cases x with
 | non =>
  cases rx
  cases y with
  | non=>cases ry; exact PySem.EqNone.eq_none_none (fin_bl I q (by simp))
  | bl j=>cases ry; exact PySem.EqNone.eq_none_bool (fin_bl I q (by simp))
  | int j=>obtain ⟨t',rfl⟩:=ry; exact PySem.EqNone.eq_none_int (fin_bl I q (by simp))
  | str j=>obtain ⟨t',rfl⟩:=ry; exact PySem.EqNone.eq_none_str (fin_bl I q (by simp))
  | _=>exact absurd (show false = true from hs) Bool.false_ne_true
 | bl i =>
  cases rx
  cases y with
  | non=>cases ry; exact PySem.EqNone.eq_bool_none (fin_bl I q (by simp))
  | bl j=>cases ry; exact eq_bool (fin_bl I q dec_bl)
  | str j=>obtain ⟨t',rfl⟩:=ry; exact PySem.EqMixed.eq_bool_str (fin_bl I q (by simp))
  | _=>exact absurd (show false = true from hs) Bool.false_ne_true
 | int i =>
  obtain ⟨t,rfl⟩:=rx
  cases y with
  | non=>cases ry; exact PySem.EqNone.eq_int_none (fin_bl I q (by simp))
  | int j=>obtain ⟨t',rfl⟩:=ry; exact eq_int (fin_bl I q dec_int)
  | str j=>obtain ⟨t',rfl⟩:=ry; exact PySem.EqMixed.eq_int_str (fin_bl I q (by simp))
  | _=>exact absurd (show false = true from hs) Bool.false_ne_true
 | str i =>
  obtain ⟨t,rfl⟩:=rx
  cases y with
  | non=>cases ry; exact PySem.EqNone.eq_str_none (fin_bl I q (by simp))
  | bl j=>cases ry; exact PySem.EqMixed.eq_str_bool (fin_bl I q (by simp))
  | int j=>obtain ⟨t',rfl⟩:=ry; exact PySem.EqMixed.eq_str_int (fin_bl I q (by simp))
  | str j=>obtain ⟨t',rfl⟩:=ry; exact eq_str (fin_bl I q dec_str)
  | _=>exact absurd (show false = true from hs) Bool.false_ne_true
 | byt i =>
  obtain ⟨t,rfl⟩:=rx
  cases y with
  | byt j=>obtain ⟨t',rfl⟩:=ry; exact PySem.W.eq_bytes (fin_bl I q dec_byt)
  | _=>exact absurd (show false = true from hs) Bool.false_ne_true
 | _=>cases y <;> exact absurd (show false = true from hs) Bool.false_ne_true
theorem op_ne:OpR X (compareOp .NotEq) rNe:=by
 intro pins s σ H x y v u Q I rx ry h
 obtain ⟨hs,q⟩:=h
 cases x with
 | non =>
  cases rx
  cases y with
  | non=>cases ry; exact PySem.EqNone.ne_none_none (fin_bl I q (by simp))
  | bl j=>cases ry; exact PySem.EqNone.ne_none_bool (fin_bl I q (by simp))
  | int j=>obtain ⟨t',rfl⟩:=ry; exact PySem.EqNone.ne_none_int (fin_bl I q (by simp))
  | str j=>obtain ⟨t',rfl⟩:=ry; exact PySem.EqNone.ne_none_str (fin_bl I q (by simp))
  | _=>exact absurd (show false = true from hs) Bool.false_ne_true
 | bl i =>
  cases rx
  cases y with
  | non=>cases ry; exact PySem.EqNone.ne_bool_none (fin_bl I q (by simp))
  | bl j=>cases ry; exact ne_bool (fin_bl I q (congrArg not dec_bl))
  | str j=>obtain ⟨t',rfl⟩:=ry; exact PySem.EqMixed.ne_bool_str (fin_bl I q (by simp))
  | _=>exact absurd (show false = true from hs) Bool.false_ne_true
 | int i =>
  obtain ⟨t,rfl⟩:=rx
  cases y with
  | non=>cases ry; exact PySem.EqNone.ne_int_none (fin_bl I q (by simp))
  | int j=>obtain ⟨t',rfl⟩:=ry; exact ne_int (fin_bl I q (congrArg not dec_int))
  | str j=>obtain ⟨t',rfl⟩:=ry; exact PySem.EqMixed.ne_int_str (fin_bl I q (by simp))
  | _=>exact absurd (show false = true from hs) Bool.false_ne_true
 | str i =>
  obtain ⟨t,rfl⟩:=rx
  cases y with
  | non=>cases ry; exact PySem.EqNone.ne_str_none (fin_bl I q (by simp))
  | bl j=>cases ry; exact PySem.EqMixed.ne_str_bool (fin_bl I q (by simp))
  | int j=>obtain ⟨t',rfl⟩:=ry; exact PySem.EqMixed.ne_str_int (fin_bl I q (by simp))
  | str j=>obtain ⟨t',rfl⟩:=ry; exact ne_str (fin_bl I q (congrArg not dec_str))
  | _=>exact absurd (show false = true from hs) Bool.false_ne_true
 | byt i =>
  obtain ⟨t,rfl⟩:=rx
  cases y with
  | byt j=>obtain ⟨t',rfl⟩:=ry; exact PySem.W.ne_bytes (fin_bl I q (congrArg not dec_byt))
  | _=>exact absurd (show false = true from hs) Bool.false_ne_true
 | _=>cases y <;> exact absurd (show false = true from hs) Bool.false_ne_true
theorem op_lt:OpR X (compareOp .Lt) (rI0 fun i j=>.bl (decide (i < j))):=opB0 fun _ _ _ _ _ _ _ q=>lt_int q
theorem op_gt:OpR X (compareOp .Gt) (rI0 fun i j=>.bl (decide (j < i))):=opB0 fun _ _ _ _ _ _ _ q=>gt_int q
theorem op_ge:OpR X (compareOp .GtE) (rI0 fun i j=>.bl (decide (j <= i))):=opB0 fun _ _ _ _ _ _ _ q=>ge_int q
theorem OpR.or {f:Value -> Value -> Sem Value} {r r':R2} (h:OpR X f r) (h':OpR X f r'):OpR X f (fun x y H Q=>r x y H Q \/ r' x y H Q):=by
 intro pins s σ H x y v u Q I rx ry q
 rcases q with q | q
 ·exact h pins s σ H x y v u Q I rx ry q
 ·exact h' pins s σ H x y v u Q I rx ry q
theorem nomark (b:Expr) {op:CmpOp} (h:op ≠ .In:=by decide) (h2:op ≠ .NotIn:=by decide):behindInMarks op b = false:=by
 have e1:(op == CmpOp.In) = false:=by cases op <;> first | rfl | exact absurd rfl h
 have e2:(op == CmpOp.NotIn) = false:=by cases op <;> first | rfl | exact absurd rfl h2
 cases b <;> simp [behindInMarks,e1,e2]
theorem pe_cmpR {op:CmpOp} {r:R2} (ho:OpR X (compareOp op) r) (ha:PE X a ta) (hb:PE X b tb) (hm:behindInMarks op b = false):PE X (.Compare a [op] [b] pos) (tOp r ta tb):=by
 intro pins s σ H Q I h
 exact wpAny_Compare1 (binT ha hb I h fun v u s2 x y H2 I2 rx ry q=>ho pins s2 σ H2 x y v u Q I2 rx ry q) hm
def tTest (t:TE):TT:=fun σ H Q=>t σ H fun x H'=>∃ k,x = .bl k /\ Q k H'
theorem pt_cmpR {op:CmpOp} {r:R2} (ho:OpR X (compareOp op) r) (ha:PE X a ta) (hb:PE X b tb) (hm:behindInMarks op b = false):PT X (.Compare a [op] [b] pos) (tTest (tOp r ta tb)):=by
 intro pins s σ H Q I h
 refine wpAny_isTrue_Compare1 (thn (ha pins s σ H _ I h) fun v s1 ⟨x,H1,I1,r1,q1⟩=>thn (hb pins s1 σ H1 _ I1 q1) fun u s2 ⟨y,H2,I2,r2,q2⟩ =>
  thn (ho pins s2 σ H2 x y v u _ I2 r1 r2 q2) fun c s3 ⟨z,H3,I3,r3,k,e,q3⟩=>?_) hm
 subst e
 cases r3
 exact wpAny_truthy_bool ⟨H3,I3,q3⟩
def TruV (K:PySem.W.Frag) (x:V) (H:Hp) (k:Bool):Prop :=
 match x with
 | .non=>k = false
 | .bl b=>k = b
 | .int i=>k = (i != 0)
 | .str y=>y.length <= sizeLine /\ k = ((y.length:Int) != 0)
 | .byt y=>y.size <= sizeLine /\ k = ((y.size:Int) != 0)
 | .ref p=>(∃ xs,SqL K H p xs /\ k = !xs.isEmpty) \/ (∃ xs,SqT K H p xs /\ k = !xs.isEmpty) \/ ∃ kvs,H p = some (.dK kvs) /\ k = !kvs.isEmpty
 | _=>False
theorem isEmpty_kv {κ:Type} {kvs:List (κ × V)} {vs:List (κ × Value)} (r:KV kvs vs):(!vs.isEmpty) = !kvs.isEmpty:=by
 cases r <;> rfl
theorem isEmpty_of {xs:List V} {its:List Value} (r:Vals xs its):(!its.toArray.isEmpty) = !xs.isEmpty:=by
 cases r <;> simp
theorem line63:(sizeLine:Nat) < 2 ^ 63:=by rw [sizeLine_eq]; decide
theorem tru_ok:TruR X (fun x H Q=>∃ k,TruV X.K x H k /\ Q k H):=by
 intro pins s σ H x v Q I rx h
 obtain ⟨k,e,q⟩:=h
 have hl:=line63
 have hs:sizeLine = 16777216:=sizeLine_eq
 cases x with
 | non =>
  cases rx
  have e':k = false:=e
  subst e'
  exact truthy_none ⟨H,I,q⟩
 | bl b =>
  cases rx
  have e':k = b:=e
  subst e'
  exact wpAny_truthy_bool ⟨H,I,q⟩
 | int i =>
  obtain ⟨t,rfl⟩:=rx
  have e':k = (i != 0):=e
  subst e'
  exact PySem.P.truthy_int ⟨H,I,q⟩
 | str y =>
  obtain ⟨t,rfl⟩:=rx
  obtain ⟨hy,e'⟩ : y.length <= sizeLine /\ k = ((y.length:Int) != 0):=e
  subst e'
  exact PySem.P.truthy_str (by walk_at "o") ⟨H,I.tok _,q⟩
 | byt y =>
  obtain ⟨t,rfl⟩:=rx
  obtain ⟨hy,e'⟩ : y.size <= sizeLine /\ k = ((y.size:Int) != 0):=e
  subst e'
  exact PySem.W.truthy_bytes (by walk_at "o") ⟨H,I.tok _,q⟩
 | ref p =>
  cases rx
  have e':(∃ xs,SqL X.K H p xs /\ k = !xs.isEmpty) \/ (∃ xs,SqT X.K H p xs /\ k = !xs.isEmpty) \/ ∃ kvs,H p = some (.dK kvs) /\ k = !kvs.isEmpty:=e
  rcases e' with ⟨xs,hx,e'⟩ | ⟨xs,hx,e'⟩ | ⟨kvs,hx,e'⟩
  ·subst e'
   obtain ⟨its,r,pl,hz⟩:=I.list hx
   have hlen:=r.length
   exact wpAny_truthy_list pl.isList (by simp only [List.size_toArray]; walk_at "o") ⟨H,I.tok _,by rw [isEmpty_of r]; exact q⟩
  ·subst e'
   obtain ⟨its,r,pl,hz⟩:=I.tuple hx
   have hlen:=r.length
   exact truthy_tuple pl (by simp only [List.size_toArray]; walk_at "o") ⟨H,I.tok _,by rw [isEmpty_of r]; exact q⟩
  ·subst e'
   obtain ⟨hz,hS,vs,r,m⟩ : kvs.length <= sizeLine /\ (p == sysModules) = false /\ ∃ vs,KV kvs vs /\ s.heap.DictOf (mixKind X.prog X.w) p vs:=I.hok p _ hx
   have hlen:kvs.length = vs.length:=Paired.length r
   exact wpAny_truthy_dict hS m (by walk_at "o") ⟨H,I.tok _,by rw [isEmpty_kv r]; exact q⟩
 | _=>exact (show False from e).elim
theorem pt_truth (ha:PE X a ta) (he:∀ whole,isTrue a X.env whole = (do let v <- whole; standAt a.pos; holding [v] (truthy v))) :
  PT X a (fun σ H Q=>ta σ H fun x H'=>∃ k,TruV X.K x H' k /\ Q k H'):=by
 intro pins s σ H Q I h
 exact isTrue_plain (thn (ha pins s σ H _ I h) fun v s1 ⟨x,H1,I1,r1,q1⟩=>tru_ok pins s1 σ H1 x v Q I1 r1 q1) (he _)
theorem vals1 {x:V} {us:List Value} (r:Vals [x] us):∃ u,us = [u] /\ RelV x u:=by
 cases r with
 | cons r1 r2=>cases r2; exact ⟨_,rfl,r1⟩
theorem vals2 {x y:V} {us:List Value} (r:Vals [x,y] us):∃ u w',us = [u,w'] /\ RelV x u /\ RelV y w':=by
 cases r with
 | cons r1 r2 =>
  cases r2 with
  | cons r3 r4=>cases r4; exact ⟨_,_,rfl,r1,r3⟩
theorem call_abs:CallR X (.builtin "abs") (fun xs H Q=>∃ i,xs = [.int i] /\ Q (.int (if i < 0 then -i else i)) H):=by
 intro pins s σ H xs us Q I r h
 obtain ⟨i,rfl,q⟩:=h
 obtain ⟨u,rfl,t,rfl⟩:=vals1 r
 exact call_abs_int fun u tk=>⟨.int (if i < 0 then -i else i),H,I.tok _,⟨_,rfl⟩,q⟩
theorem call_max2 (hc:X.calm = true):CallR X (.builtin "max") (fun xs H Q=>∃ i j,xs = [.int i,.int j] /\ Q (.int (if j > i then j else i)) H):=by
 intro pins s σ H xs us Q I r h
 obtain ⟨i,j,rfl,q⟩:=h
 obtain ⟨u,w',rfl,⟨t,rfl⟩,⟨t',rfl⟩⟩:=vals2 r
 refine max_two_ints (I.ok.hd hc) fun h' tk k=>⟨_,H,I.kept k,?_,q⟩
 by_cases hj:j > i
 ·rw [if_pos hj,if_pos hj]; exact ⟨_,rfl⟩
 ·rw [if_neg hj,if_neg hj]; exact ⟨_,rfl⟩
theorem call_min2 (hc:X.calm = true):CallR X (.builtin "min") (fun xs H Q=>∃ i j,xs = [.int i,.int j] /\ Q (.int (if j < i then j else i)) H):=by
 intro pins s σ H xs us Q I r h
 obtain ⟨i,j,rfl,q⟩:=h
 obtain ⟨u,w',rfl,⟨t,rfl⟩,⟨t',rfl⟩⟩:=vals2 r
 refine min_two_ints (I.ok.hd hc) fun h' tk k=>⟨_,H,I.kept k,?_,q⟩
 by_cases hj:j < i
 ·rw [if_pos hj,if_pos hj]; exact ⟨_,rfl⟩
 ·rw [if_neg hj,if_neg hj]; exact ⟨_,rfl⟩
end
end L2
namespace L2
open PySem PySem.Spec PyProof.Rows
structure ObjM (h:Heap) (x dx C:Addr) (mA:Str -> Option Value):Prop where
 obj:h.get? x = some (PySem.W.instObj C dx)
 ns:h.Ns1 dx mA
 ne:dx ≠ x
theorem lookIn_ns {h:Heap} {dx:Addr} {mA:Str -> Option Value} (n:h.Ns1 dx mA):∃ od,h.get? dx = some od /\ ∀ name,PySem.W.lookIn name od = some (mA name):=by
 obtain ⟨o,es,ep,ho,hd,hk,_,hm⟩:=n
 refine ⟨o,ho,fun name=>?_⟩
 have e:=hm name
 unfold nsFind findBy at e
 rw [<- Array.find?_toList] at e
 unfold PySem.W.lookIn
 rw [hd]
 dsimp only
 split
 ·rename_i y q
  rw [q] at e
  exact congrArg some e
 ·rename_i q
  rw [q] at e
  have a:es.toList.any (·.refKey) = false:=by
   rw [List.any_eq_false]
   intro y hy
   obtain ⟨z,t,hkey⟩:=hk y (Array.mem_toList_iff.mp hy)
   simp [DictEntry.refKey,hkey]
  have a':¬ es.toList.any (·.refKey) = true:=by rw [a]; exact Bool.false_ne_true
  rw [if_neg a']
  exact congrArg some e
theorem ObjM.look {h:Heap} {x dx C:Addr} {mA:Str -> Option Value} (I:ObjM h x dx C mA):∃ od,PySem.W.InstAt h x (PySem.W.instObj C dx) C (some od) /\ ∀ name,PySem.W.lookIn name od = some (mA name) :=
 let ⟨od,ho,hl⟩:=lookIn_ns I.ns
 ⟨od,⟨I.obj,rfl,rfl,ho⟩,hl⟩
section
variable {prog:Program} {w:World} {A:Around} {E:Value -> Shared -> Prop} {s:Shared} {K:PySem.W.Frag} {x dx C f:Addr} {mA:Str -> Option Value} {name:Str} {v:Value}
end
theorem RelO.some_of {v:V} {o:Option Value} (r:RelO (some v) o):∃ u,o = some u /\ RelV v u:=by
 cases o with
 | none=>exact (show False from r).elim
 | some u=>exact ⟨u,rfl,r⟩
section
variable {P:Program} {w:World} {H H':Hp} {h h':Heap} {a C dx:Addr} {fs fs':List (Str × V)}
theorem ins_get (hok:HOk P w H h) (e:H a = some (.ins C dx fs)):∃ mA,ObjM h a dx C mA /\ (∀ f,RelO (fs.lookup f) (mA f)) /\ PySem.Within mA (fs.map (·.1)) /\ fs.length <= 1000 /\ H dx = some (.own a):=by
 obtain ⟨d,z,ne,ob,mA,n,r,q⟩:=(show ObjOk P w H h a (.ins C dx fs) from hok a _ e)
 exact ⟨mA,⟨ob,n,ne⟩,r,q,z,d⟩
end
structure Cls (K:PySem.W.Frag) (C:Addr):Prop where
 pg:PySem.W.plainGet K C Str.empty = true
 hd:PySem.W.hasDictIn K C = true
 po:PySem.W.plainOver K C = true
 sa:PySem.W.findIn K (.ref C) "__setattr__" = some (some (.builtin "object.__setattr__"))
theorem Cls.get {K:PySem.W.Frag} {C:Addr} (c:Cls K C) (f:Str):PySem.W.plainGet K C f = true:=c.pg
section
variable {X:Cx} {pins:List (Addr × Obj)} {σ:St} {H:Hp} {s:Shared} {a C dx:Addr} {fs:List (Str × V)} {f:Str} {v:V} {A:Around} {E:Value -> Shared -> Prop}
end
section
variable {X:Cx} {o e value:Expr} {f:Str} {pos pos' tpos:Pos} {ta tv:TE}
end
section
variable {X:Cx} {pins:List (Addr × Obj)} {σ:St} {H:Hp} {s:Shared} {A:Around} {E:Value -> Shared -> Prop} {Q:Value -> Shared -> Prop} {c:Value} {b:Bool}
inductive TyOf (K:PySem.W.Frag) (H:Hp):V -> Value -> Prop where
 | non:TyOf K H .non (.type "NoneType")
 | bl (x:Bool):TyOf K H (.bl x) (.type "bool")
 | int (i:Int):TyOf K H (.int i) (.type "int")
 | str (x:Str):TyOf K H (.str x) (.type "str")
 | flt (x:UInt64):TyOf K H (.flt x) (.type "float")
 | lst {a:Addr} {xs:List V} (e:H a = some (.lst xs)):TyOf K H (.ref a) (.type "list")
 | frz {a:Addr} {o:Obj} {xs:List V} (e:H a = some (.frz o (.lst xs))):TyOf K H (.ref a) (.type "list")
 | tup {a:Addr} {xs:List V} (e:H a = some (.tup xs)):TyOf K H (.ref a) (.type "tuple")
 | dK {a:Addr} {kvs:List (Key × V)} (e:H a = some (.dK kvs)):TyOf K H (.ref a) (.type "dict")
 | dT {a:Addr} {kvs:List (List Key × V)} (e:H a = some (.dT kvs)):TyOf K H (.ref a) (.type "dict")
 | ins {a C dx:Addr} {fs:List (Str × V)} (e:H a = some (.ins C dx fs)) (cl:Cls K C) (ha:PySem.W.findIn K (.ref C) "__class__" = some (some (.builtin "object.__class__")))
   (hn:PySem.W.specialIn K (.builtin "object.__class__") "__get__" = some (some (.builtin "getset_descriptor.__get__"))) (htk:PySem.W.takesIn K (.builtin "object.__class__") = some true)
   (hm:PySem.W.mroIn K C (.type "object") = some true):TyOf K H (.ref a) (.ref C)
theorem isinst_ok {x:V} {u t:Value} (I:Inv X pins σ H s) (rx:RelV x u) (ty:TyOf X.K H x t) (e:PySem.W.kitOne X.K t c = some b) (h:∀ tk,Q (.bool b) { s with toks:=tk }) :
  wpAny (model X.prog X.w) A (call (.builtin "isinstance") [u,c]) Q E s:=by
 cases ty with
 | non=>cases (show u = Value.none from rx); exact PySem.W.kia_one PySem.W.kitx_none I.kIn True.intro e (fun z=>nomatch z) h
 | bl y=>cases (show u = Value.bool y from rx); exact PySem.W.kia_one PySem.W.kitx_bool I.kIn True.intro e (fun z=>nomatch z) h
 | int i=>obtain ⟨t,q⟩:=(show ∃ t,u = Value.int i t from rx); cases q; exact PySem.W.kia_one PySem.W.kitx_int I.kIn True.intro e (fun z=>nomatch z) h
 | str y=>obtain ⟨t,q⟩:=(show ∃ t,u = Value.str y t from rx); cases q; exact PySem.W.kia_one PySem.W.kitx_str I.kIn True.intro e (fun z=>nomatch z) h
 | flt y=>obtain ⟨t,q⟩:=(show ∃ t,u = Value.float y t from rx); cases q; exact PySem.W.kia_one PySem.W.kitx_float I.kIn True.intro e (fun z=>nomatch z) h
 | @lst a xs ea =>
  cases (show u = Value.ref a from rx)
  obtain ⟨_,_,n,_,h1⟩:=(show ObjOk X.prog X.w H s.heap a (.lst xs) from I.hok a _ ea)
  exact PySem.W.kia_one PySem.W.kitx_list I.kIn ⟨_,h1,rfl⟩ e (fun z=>nomatch z) h
 | @frz a ob xs ea =>
  cases (show u = Value.ref a from rx)
  obtain ⟨_,_,_,n,_,h1⟩:=(show ObjOk X.prog X.w H s.heap a (.frz ob (.lst xs)) from I.hok a _ ea)
  exact PySem.W.kia_one PySem.W.kitx_list I.kIn ⟨_,h1,rfl⟩ e (fun z=>nomatch z) h
 | @tup a xs ea =>
  cases (show u = Value.ref a from rx)
  obtain ⟨_,_,_,p⟩:=(show ObjOk X.prog X.w H s.heap a (.tup xs) from I.hok a _ ea)
  obtain ⟨o,h1,h2,_⟩:=p
  exact PySem.W.kia_one PySem.W.kitx_tuple I.kIn ⟨o,h1,h2⟩ e (fun z=>nomatch z) h
 | @dK a kvs ea =>
  cases (show u = Value.ref a from rx)
  obtain ⟨_,_,vs,_,p⟩:=(show ObjOk X.prog X.w H s.heap a (.dK kvs) from I.hok a _ ea)
  obtain ⟨o,es,ep,h1,h2,_⟩:=p
  exact PySem.W.kia_one PySem.W.kitx_dict I.kIn ⟨o,h1,h2.1⟩ e (fun z=>nomatch z) h
 | @dT a kvs ea =>
  cases (show u = Value.ref a from rx)
  obtain ⟨_,_,xs,_,o,es,ep,h1,h2,_⟩:=(show ObjOk X.prog X.w H s.heap a (.dT kvs) from I.hok a _ ea)
  exact PySem.W.kia_one PySem.W.kitx_dict I.kIn ⟨o,h1,h2.1⟩ e (fun z=>nomatch z) h
 | @ins a C dx fs ea cl ha hn htk hm =>
  cases (show u = Value.ref a from rx)
  obtain ⟨mA,O,_⟩:=ins_get I.hok ea
  obtain ⟨od,J,_⟩:=O.look
  exact PySem.W.kia_one (PySem.W.kitx_own (cl.get _) cl.hd ha hn htk hm) I.kIn J e (fun z=>nomatch z) h
end
end L2
namespace L2
open PySem PySem.Spec PyProof.Rows
structure Room (k:Nat) (A:Around):Prop where
 hd:A.handled = none
 dp:A.depth + 3 * k + 105 < recursionLimit
 un:A.units + 16 * k + 200 < cLine
theorem Room.mono {j k:Nat} {A:Around} (r:Room k A) (h:j <= k):Room j A:=⟨r.hd,by have:=r.dp; walk_at "o",by have:=r.un; walk_at "o"⟩
theorem Room.deeper {k:Nat} {A:Around} (r:Room (k + 1) A) (env:Env):Room k (A.deeper env) :=
 ⟨r.hd,by have:=r.dp; show A.depth + 1 + 3 * k + 105 < _; walk_at "o",by have:=r.un; show A.units + 3 + 16 * k + 200 < _; walk_at "o"⟩
theorem Room.depth {k:Nat} {A:Around} (r:Room k A):A.depth < recursionLimit:=by have:=r.dp; walk_at "o"
def tNil:TA:=fun _ H Q=>Q [] H
def tCons (ta:TE) (tr:TA):TA:=fun σ H Q=>ta σ H fun x H1=>tr σ H1 fun xs H2=>Q (x :: xs) H2
section
variable {X:Cx} {e:Expr} {es:List Expr} {te:TE} {t:TA} {pos:Pos}
theorem pa_nil:PA X [] tNil:=fun _ _ _ _ H Q I h=>Calls.spliced_nil ⟨[],H,I,.nil,h⟩
theorem pa_cons (ha:PE X e te) (hr:PA X es t) (hs:starEach (e :: es) X.env = (false,eval e X.env) :: starEach es X.env:=by rfl):PA X (e :: es) (tCons te t):=by
 intro pos pins s σ H Q I h
 rw [hs]
 show wpAny _ _ (spliced ((false,eval e X.env) :: backTo pos (starEach es X.env))) _ _ s
 refine Calls.spliced_cons (thn (ha pins s σ H _ I h) fun u s1 ⟨x,H1,I1,r1,q1⟩=>?_)
 exact thn (hr pos pins s1 σ H1 _ I1 q1) fun us s2 ⟨xs,H2,I2,r2,q2⟩=>⟨x :: xs,H2,I2,.cons r1 r2,q2⟩
end
abbrev Sp:=List V -> Hp -> VK -> XK -> Prop
abbrev CXT:=List Env -> Hp -> Shared -> XK -> Value -> Shared -> Prop
structure Env0 (P:Program) (w:World) (K:PySem.W.Frag) (mg:Str -> Option Value) (base:Heap) (A:Around) (outer:List Env) (s:Shared) (H:Hp):Prop where
 frames:A.frames = some outer
 mod:Mod K mg base
 bs:∀ b o,base.get? b = some o -> s.heap.get? b = some o /\ H b = none
 bsz:base.objs.size <= s.heap.objs.size
 funs:s.heap.FunFrames base outer
 frf:∀ b ∈ frs outer,H b = none
 hok:HOk P w H s.heap
 bare:AllBare s.gens
def CE (outer:List Env) (P:Program) (w:World) (H:Hp) (s:Shared) (Q:VK) (u:Value) (s':Shared):Prop :=
 ∃ v H',s'.os = s.os /\ AllBare s'.gens /\ Un (frs outer) [] H H' s.heap s'.heap /\ HOk P w H' s'.heap /\ RelV v u /\ Q v H'
def CR (CX:CXT) (outer:List Env) (P:Program) (w:World) (H:Hp) (s:Shared) (Q:VK) (E:XK) (r:Result) (s':Shared):Prop :=
 match r with
 | .ok (.ret u)=>CE outer P w H s Q u s'
 | .ok _=>False
 | .error e=>CX outer H s E e s'
structure FnOk (P:Program) (w:World) (K:PySem.W.Frag) (mg:Str -> Option Value) (base:Heap) (CX:CXT) (k:Nat) (f:Addr) (fd:FuncData) (ps:List Str) (sp:Sp):Prop where
 len:∀ vs H Q E,sp vs H Q E -> vs.length = ps.length
 run:∀ (A:Around) (outer:List Env) (s:Shared) (H:Hp) (args:Args) (us:List Value) (vs:List V) (Q:VK) (E:XK),Room k A -> Env0 P w K mg base A outer s H -> BindsTo s fd args (ps.zip us) -> Vals vs us -> sp vs H Q E ->
  codeAny (model P w) A (.call (.ref f) args) (CR CX outer P w H s Q E) s
section
variable {X:Cx} {pins:List (Addr × Obj)} {σ:St} {H:Hp} {s s':Shared}
theorem Inv.env0 (I:Inv X pins σ H s):Env0 X.prog X.w X.K X.mg X.base X.A X.stack s H :=
 ⟨I.ok.frames,I.ok.mod,I.bs,Nat.le_trans I.ok.bsz I.sz,I.stack,I.stkFree,I.hok,I.bare⟩
theorem Inv.after {Q:VK} {u:Value} (I:Inv X pins σ H s) (h:CE X.stack X.prog X.w H s Q u s'):EP X pins σ Q u s':=by
 obtain ⟨v,H',os,bare,un,hok,r,q⟩:=h
 obtain ⟨hh,g,d,t,os'⟩:=s'
 obtain rfl:os' = s.os:=os
 exact ⟨v,H',I.call (h':=hh) (g':=g) (d':=d) (t':=t) (ch:=[]) un hok bare (fun b z=>absurd z (by simp)),r,q⟩
end
def tCall (sp:Sp) (dvs:List V) (E:XK) (t:TA):TE:=fun σ H Q=>t σ H fun vs H1=>sp (vs ++ dvs) H1 Q E
def Binds (K:PySem.W.Frag) (fd:FuncData) (ps:List Str) (ds:List Value):Prop :=
 ∀ (s:Shared) (us:List Value),K.In s.heap -> (us ++ ds).length = ps.length -> BindsTo s fd ⟨us,[]⟩ (ps.zip (us ++ ds))
theorem Binds.all {K:PySem.W.Frag} {fd:FuncData} {ps:List Str} (h:∀ us:List Value,us.length = ps.length -> bindArgs fd ⟨us,[]⟩ = pure (ps.zip us)):Binds K fd ps []:=fun s us _ hl=>by
 rw [List.append_nil] at hl ⊢
 exact .of_eq (h us hl)
def Passes (CX:CXT) (X:Cx) (E:XK):Prop:=∀ (pins:List (Addr × Obj)) (σ:St) (H:Hp) (s:Shared) (e:Value) (s':Shared),Inv X pins σ H s -> CX X.stack H s E e s' -> X.xe e s'
section
variable {X:Cx} {CX:CXT} {k:Nat} {f C:Addr} {fd:FuncData} {ps:List Str} {sp:Sp} {dvs:List V} {ds:List Value} {E:XK} {x m:Str} {p pos apos:Pos} {e o:Expr} {es:List Expr} {ta:TE} {t:TA}
theorem run_fn {pins:List (Addr × Obj)} {σ:St} {H:Hp} {s:Shared} {Q:VK} {us:List Value} {vs:List V} (F:FnOk X.prog X.w X.K X.mg X.base CX k f fd ps sp) (hr:Room k X.A) (hb:Binds X.K fd ps ds) (hd:Vals dvs ds) (hx:Passes CX X E)
  (I:Inv X pins σ H s) (r:Vals vs us) (h:sp (vs ++ dvs) H Q E):wpAny (model X.prog X.w) X.A (call (.ref f) us) (EP X pins σ Q) X.xe s:=by
 have r2:Vals (vs ++ dvs) (us ++ ds):=r.append hd
 have hl:(us ++ ds).length = ps.length:=by rw [<- r2.length]; exact F.len _ _ _ _ h
 refine wpAny_call (codeAny_mono (F.run X.A X.stack s H ⟨us,[]⟩ (us ++ ds) (vs ++ dvs) Q E hr I.env0 (hb s us I.kIn hl) r2 h) fun r s' hq=>?_)
 cases r with
 | error e=>exact hx pins σ H s e s' I hq
 | ok fl =>
  cases fl with
  | ret u=>exact I.after hq
  | next=>exact False.elim hq
  | brk=>exact False.elim hq
  | cont=>exact False.elim hq
theorem pe_call (F:FnOk X.prog X.w X.K X.mg X.base CX k f fd ps sp) (hr:Room k X.A) (hg:Gl X x) (hm:X.mg x = some (.ref f)) (hk:PySem.W.keepIn X.K (.ref f) = true) (hb:Binds X.K fd ps ds) (hd:Vals dvs ds) (hx:Passes CX X E)
  (ha:PA X (e :: es) t) (hdb:(x == ("__debug__" : Str)) = false:=by decide) (he:starEach (e :: es) X.env = (false,eval e X.env) :: starEach es X.env:=by rfl) (hpl:(backTo pos (starEach es X.env)).any (·.1) = false:=by rfl) :
  PE X (.Call (.Name x p) (e :: es) [] pos) (tCall sp dvs E t):=by
 intro pins s σ H Q I h
 refine wpAny_Call_Name_kw (ld_glob I hg hm ?_ hdb)
 refine PySem.W.callWith_K (h₀:=X.base) I.ok.mod.kin hk (thn (ha pos pins s σ H _ I h) fun us s1 ⟨vs,H1,I1,r,q⟩=>⟨I1.kIn,?_⟩) he hpl
 exact run_fn F hr hb hd hx I1 r q
end
section
variable {X:Cx} {CX:CXT} {k:Nat} {f C:Addr} {fd:FuncData} {ps ks:List Str} {sp:Sp} {E:XK} {x m:Str} {p pos apos kpos:Pos} {e o:Expr} {es:List Expr} {kws:List Keyword} {te ta:TE} {t tk:TA} {nm:Option Str}
variable {g:List Value -> List Value -> List Value} {gV:List V -> List V -> List V}
end
structure FnScope (N P:List Str) (sc:Scope):Prop where
 kind:sc.kind = .function
 co:sc.isCoroutine = false
 gen:sc.isGenerator = false
 nd:N.Nodup
 pre:N.take P.length = P
 par:∀ x ∈ P,sc.names.lookup x = some .local \/ sc.names.lookup x = some .cell
 nofree:∀ y ∈ sc.names,y.2 ≠ .free
theorem bindL_out {kindOf:Str -> Option NameKind} {x:Str}:∀ {binds:List (Str × Value)} {m:Str -> Option Value},(∀ v,(x,v) ∉ binds) -> bindL kindOf binds m x = m x
 | [],_,_=>rfl
 | (n,v) :: r,m,h=>by
  unfold bindL
  rw [bindL_out fun w hw=>h w (List.mem_cons_of_mem _ hw)]
  split
  ·have:x ≠ n:=by rintro rfl; exact h v List.mem_cons_self
   simp [this]
  ·rfl
theorem bindC_out {kindOf:Str -> Option NameKind} {x:Str}:∀ {binds:List (Str × Value)} {m:Str -> Option Value},(∀ v,(x,v) ∉ binds) -> bindC kindOf binds m x = m x
 | [],_,_=>rfl
 | (n,v) :: r,m,h=>by
  unfold bindC
  rw [bindC_out fun w hw=>h w (List.mem_cons_of_mem _ hw)]
  split
  ·rfl
  ·have:x ≠ n:=by rintro rfl; exact h v List.mem_cons_self
   simp [this]
theorem bindL_get {kindOf:Str -> Option NameKind} {x:Str} {v:Value}:∀ {P:List Str} {vs:List Value} {i:Nat} {m:Str -> Option Value},P.Nodup -> P[i]? = some x -> vs[i]? = some v -> kindOf x = some .local ->
  bindL kindOf (P.zip vs) m x = some v
 | [],_,_,_,_,h,_,_=>by simp at h
 | _ :: _,[],_,_,_,_,h,_=>by simp at h
 | p :: P,w :: vs,0,m,nd,h1,h2,hk=>by
  simp at h1 h2; subst h1; subst h2
  show bindL kindOf ((p,w) :: P.zip vs) m p = _
  unfold bindL
  rw [bindL_out fun v hv=>(List.nodup_cons.mp nd).1 (List.of_mem_zip hv).1,if_pos hk]
  simp
 | p :: P,w :: vs,i + 1,m,nd,h1,h2,hk=>by
  show bindL kindOf ((p,w) :: P.zip vs) m x = _
  unfold bindL
  exact bindL_get (i:=i) (List.nodup_cons.mp nd).2 (by simpa using h1) (by simpa using h2) hk
theorem bindC_get {kindOf:Str -> Option NameKind} {x:Str} {v:Value}:∀ {P:List Str} {vs:List Value} {i:Nat} {m:Str -> Option Value},P.Nodup -> P[i]? = some x -> vs[i]? = some v -> kindOf x ≠ some .local ->
  bindC kindOf (P.zip vs) m x = some v
 | [],_,_,_,_,h,_,_=>by simp at h
 | _ :: _,[],_,_,_,_,h,_=>by simp at h
 | p :: P,w :: vs,0,m,nd,h1,h2,hk=>by
  simp at h1 h2; subst h1; subst h2
  show bindC kindOf ((p,w) :: P.zip vs) m p = _
  unfold bindC
  rw [bindC_out fun v hv=>(List.nodup_cons.mp nd).1 (List.of_mem_zip hv).1,if_neg hk]
  simp
 | p :: P,w :: vs,i + 1,m,nd,h1,h2,hk=>by
  show bindC kindOf ((p,w) :: P.zip vs) m x = _
  unfold bindC
  exact bindC_get (i:=i) (List.nodup_cons.mp nd).2 (by simpa using h1) (by simpa using h2) hk
def start (N:List Str) (vs:List V):St:=vs.map some ++ List.replicate (N.length - vs.length) none
def cxOf (CX:CXT) (P:Program) (w:World) (K:PySem.W.Frag) (mg:Str -> Option Value) (base:Heap) (N:List Str) (qual:Str) (scope:Scope) (f:Addr) (cd:Value) (A:Around) (outer:List Env) (s:Shared) (H:Hp) (E:XK):Cx where
 prog:=P
 w:=w
 K:=K
 mg:=mg
 base:=base
 A:=A.deeper (envOfC qual scope s.heap.objs.size f cd)
 N:=N
 s₀:=s
 H₀:=H
 env:=envOfC qual scope s.heap.objs.size f cd
 outer:=outer
 stack:=envOfC qual scope s.heap.objs.size f cd :: outer
 ex:=[]
 calm:=true
 fn:=fun _=>true
 pn:=[]
 xe:=fun e s'=>wpAny (model P w) (A.deeper (envOfC qual scope s.heap.objs.size f cd)) (leaving (envOfC qual scope s.heap.objs.size f cd) e) (fun _ s''=>CX outer H s E e s'') (fun e' s''=>CX outer H s E e' s'') s'
theorem cell_has {sc:Scope} {n:Nat} {x:Str} (h:sc.names.lookup x = some .cell):∃ c,(cellsFrom n sc.names []).lookup x = some c:=by
 have q:=PySem.W.cellsFrom_some sc.names n [] (.inl h)
 exact Option.isSome_iff_exists.mp q
theorem inv_start {CX:CXT} {P:Program} {w:World} {K:PySem.W.Frag} {mg:Str -> Option Value} {base:Heap} {N ps:List Str} {qual:Str} {scope:Scope} {f:Addr} {cd:Value} {A:Around} {outer:List Env} {s s1:Shared} {H:Hp} {E:XK} {us:List Value} {vs:List V}
  (S:FnScope N ps scope) (hd:A.handled = none) (e0:Env0 P w K mg base A outer s H) (hl:vs.length = ps.length) (r:Vals vs us)
  (x:InCallC s s.heap.objs.size (bindL (envOfC qual scope s.heap.objs.size f cd).kindOf (ps.zip us) fun _=>none) (cellsFrom (s.heap.objs.size + 1) scope.names []) (bindC (envOfC qual scope s.heap.objs.size f cd).kindOf (ps.zip us) fun _=>none) s1) :
  Inv (cxOf CX P w K mg base N qual scope f cd A outer s H E) [] (start N vs) H s1:=by
 have hpl:ps.length <= N.length:=by have:=congrArg List.length S.pre; rw [List.length_take] at this; walk_at "o"
 obtain ⟨h1,tk,rfl,hk⟩:=x.done
 have noA:∀ b:Addr,b ∉ (cxOf CX P w K mg base N qual scope f cd A outer s H E).ex:=fun b z=>absurd (show b ∈ ([]:List Addr) from z) (by simp)
 refine ⟨⟨e0.mod,S.kind,rfl,rfl,Nat.le_refl _,fun y z c h1 h2=>?_,fun y hy=>?_,fun y c _ h=>?_,fun _=>hd,Around.frames_deeper e0.frames,.inr ⟨rfl,rfl⟩,fun b z=>absurd z (noA b),e0.bs,e0.bsz,fun b _ _=>noA b,fun b z=>absurd z (noA b),e0.funs,e0.frf⟩,
  rfl,e0.bare,Un.kept hk,⟨_,x.toInCall.ns,fun i y v h1 h2 h3=>?_⟩,fun y c h=>⟨_,x.cell y c h⟩,e0.hok.fresh (Nat.le_refl _),fun y c h=>?_,fun p hp=>absurd (show p ∈ ([]:List (Addr × Obj)) from hp) (by simp),e0.hok.kept hk,?_⟩
 ·exact name_of_addr x.apart (PySem.mem_of_lookup h1) (PySem.mem_of_lookup h2)
 ·have hy:scope.names.lookup y = some .cell \/ scope.names.lookup y = some .free:=hy
  rcases hy with hy | hy
  ·exact cell_has hy
  ·exact absurd rfl (S.nofree _ (PySem.mem_of_lookup hy))
 ·exact Nat.le_of_lt (x.above y c (PySem.mem_of_lookup h))
 ·have hi:i < vs.length:=by
   unfold start at h2
   by_cases hi:i < vs.length
   ·exact hi
   ·rw [List.getElem?_append_right (by simpa using hi)] at h2
    rw [List.getElem?_replicate] at h2
    split at h2 <;> cases h2
  have ha:vs[i]? = some v:=by
   unfold start at h2
   rw [List.getElem?_append_left (by simpa using hi),List.getElem?_map] at h2
   cases e:vs[i]? with
   | none=>rw [e] at h2; cases h2
   | some a=>rw [e] at h2; cases h2; rfl
  obtain ⟨u,hu,rv⟩:=r.get ha
  have hp:ps[i]? = some y:=by
   rw [<- S.pre,List.getElem?_take_of_lt (by walk_at "o")]; exact h1
  have ndP:ps.Nodup:=by rw [<- S.pre]; exact S.nd.sublist (List.take_sublist _ _)
  refine ⟨u,rv,?_⟩
  rcases S.par y (List.mem_of_getElem? hp) with k | k
  ·exact .inl ⟨k,bindL_get ndP hp hu k⟩
  ·obtain ⟨c,e⟩:=cell_has (n:=s.heap.objs.size + 1) k
   refine .inr ⟨.inl k,c,e,?_⟩
   have q:=x.cell y c e
   rw [bindC_get ndP hp hu (by show scope.names.lookup y ≠ _; rw [k]; decide)] at q
   exact q
 ·exact e0.hok.fresh (Nat.le_of_lt (x.above y c (PySem.mem_of_lookup h)))
 ·unfold start
  show _ = N.length
  rw [List.length_append,List.length_map,List.length_replicate]
  walk_at "o"
theorem fn_of {CX:CXT} {P:Program} {w:World} {K:PySem.W.Frag} {mg:Str -> Option Value} {base:Heap} {k:Nat} {f:Addr} {name qual:Str} {params:Arguments} {body:List Stmt} {scope:Scope} {dV kV doc pm cdv ct oc:Value} {an od:Option Addr}
  {osl:Array (Option Value)} {N ps:List Str} {sp:Sp} (lk:K.lookup f = some ⟨oc,od,.func (PySem.W.fnOf name qual params body scope dV kV doc pm an cdv ct),osl⟩) (hcd:PySem.W.codeIn K cdv qual = true) (S:FnScope N ps scope)
  (len:∀ vs H Q E,sp vs H Q E -> vs.length = ps.length)
  (hbody:∀ (A:Around) (outer:List Env) (s:Shared) (H:Hp) (vs:List V) (Q:VK) (E:XK),Room k (A.deeper (envOfC qual scope s.heap.objs.size f cdv)) -> sp vs H Q E ->
   ∃ t,PSs (cxOf CX P w K mg base N qual scope f cdv A outer s H E) body t /\ t { nx:=fun _ H'=>Q .non H',rt:=Q } (start N vs) H) :
  FnOk P w K mg base CX (k + 1) f (PySem.W.fnOf name qual params body scope dV kV doc pm an cdv ct) ps sp:=by
 refine ⟨len,fun A outer s H args us vs Q E hr e0 hb r hsp=>?_⟩
 have hl:=len _ _ _ _ hsp
 have KX:K.In s.heap:=e0.mod.kin.keeps fun b o e=>(e0.bs b o e).1
 have lim:s.heap.NoLimit:=e0.mod.nolimit.keeps fun b o e=>(e0.bs b o e).1
 have hkind:∀ y ∈ ps.zip us,scope.names.lookup y.1 = some .local \/ (scope.names.lookup y.1 = some .cell /\ ((cellsFrom (s.heap.objs.size + 1) scope.names []).lookup y.1).isSome = true):=fun ⟨n,v⟩ hy=>by
  rcases S.par n (List.of_mem_zip hy).1 with q | q
  ·exact .inl q
  ·exact .inr ⟨q,PySem.W.cellsFrom_some _ _ _ (.inl q)⟩
 refine codeAny_call_function hr.depth (KX _ _ lk) rfl S.co S.gen rfl (PySem.W.codeRec_of KX hcd) (hb _ _ _ _ ?_)
 refine wpAny_newFunctionEnv_cells S.kind hkind fun env he s1 x=>?_
 subst he
 refine ⟨lim.keeps x.toInCall.keep,codeAny_func ?_⟩
 obtain ⟨t,ht,hq⟩:=hbody A outer s H vs Q E (hr.deeper _) hsp
 have I:Inv (cxOf CX P w K mg base N qual scope f cdv A outer s H E) [] (start N vs) H s1:=inv_start S hr.hd e0 hl r x
 refine wpAny_mono (ht [] s1 (start N vs) H _ I hq) (fun fl s' hs=>?_) fun e s' hs=>hs
 have fin:∀ {σ':St} {H':Hp} {v:V} {u:Value},Inv (cxOf CX P w K mg base N qual scope f cdv A outer s H E) [] σ' H' s' -> RelV v u -> Q v H' -> CE outer P w H s Q u s' :=
  fun {σ' H' v u} J rv q=>⟨v,H',J.os,J.bare,J.base,J.hok,rv,q⟩
 cases fl with
 | ret u =>
  obtain ⟨v,σ',H',J,rv,q⟩:=hs
  exact fin J rv q
 | next =>
  obtain ⟨σ',H',J,q⟩:=hs
  exact fin (v:=V.non) (u:=Value.none) J rfl q
 | brk =>
  obtain ⟨_,_,_,q⟩:=hs
  exact False.elim q
 | cont =>
  obtain ⟨_,_,_,q⟩:=hs
  exact False.elim q
end L2
namespace L2
open PySem PySem.Spec PyProof.Rows
section
variable {X:Cx} {x:Str} {p pos:Pos} {e:Expr} {es:List Expr} {t:TA} {id T:String} {r:List V -> Hp -> VK -> Prop}
def tCB (r:List V -> Hp -> VK -> Prop) (t:TA):TE:=fun σ H Q=>t σ H fun vs H1=>r vs H1 Q
theorem pe_callB (hc:CallR X (.builtin id) r) (hg:Gl X x) (hm:X.mg x = none) (hv:bootBuiltins x = some (.builtin id)) (ha:PA X (e :: es) t) (hn:x ≠ "__name__":=by decide) (hdb:(x == ("__debug__" : Str)) = false:=by decide)
  (he:starEach (e :: es) X.env = (false,eval e X.env) :: starEach es X.env:=by rfl) (hpl:(backTo pos (starEach es X.env)).any (·.1) = false:=by rfl):PE X (.Call (.Name x p) (e :: es) [] pos) (tCB r t):=by
 intro pins s σ H Q I h
 refine wpAny_Call_Name_kw (ld_blt I hg hm hv ?_ hn hdb)
 exact PyProof.Rows.callWith_builtin1 (thn (ha pos pins s σ H _ I h) fun us s1 ⟨vs,H1,I1,r1,q1⟩=>hc pins s1 σ H1 vs us Q I1 r1 q1) he hpl
theorem pe_callTy (hc:CallR X (.type T) r) (hg:Gl X x) (hm:X.mg x = none) (hv:bootBuiltins x = some (.type T)) (ha:PA X (e :: es) t) (hn:x ≠ "__name__":=by decide) (hdb:(x == ("__debug__" : Str)) = false:=by decide)
  (he:starEach (e :: es) X.env = (false,eval e X.env) :: starEach es X.env:=by rfl) (hpl:(backTo pos (starEach es X.env)).any (·.1) = false:=by rfl):PE X (.Call (.Name x p) (e :: es) [] pos) (tCB r t):=by
 intro pins s σ H Q I h
 refine wpAny_Call_Name_kw (ld_blt I hg hm hv ?_ hn hdb)
 exact PyProof.Rows.callWith_type1 (thn (ha pos pins s σ H _ I h) fun us s1 ⟨vs,H1,I1,r1,q1⟩=>hc pins s1 σ H1 vs us Q I1 r1 q1) he hpl
end
end L2
namespace HT
open PySem PyProof.Rows
section
open PySem.SeqAt
open PySem.AutoSeq1 (wpAny_loadPart')
open PySem.MeetsSeq PySem.MeetsSeq2 PySem.MeetsSeq3
end
section
variable {prog:Program} {w:World} {A:Around} {E:Value -> Shared -> Prop} {s:Shared}
def sIx (n d:Nat):Option Int -> Nat
 | none=>d
 | some v=>if v < 0 then (v + (n:Int)).toNat else min v.toNat n
theorem sIx_nat (n d k:Nat):sIx n d (some (k:Int)) = min k n:=by
 show (if (k:Int) < 0 then ((k:Int) + (n:Int)).toNat else min (k:Int).toNat n) = min k n
 rw [if_neg (by walk_at "o"),Int.toNat_natCast]
end
end HT
namespace L2
open PySem PySem.Spec PyProof.Rows
abbrev TO:=St -> Hp -> (Option Int -> Hp -> Prop) -> Prop
def PO (X:Cx) (e:Option Expr) (t:TO):Prop :=
 ∀ (pins:List (Addr × Obj)) (s:Shared) (σ:St) (H:Hp) (Q:Option Int -> Hp -> Prop),Inv X pins σ H s -> t σ H Q ->
  wpAny (model X.prog X.w) X.A (evalPart e X.env) (fun u s'=>∃ o H',Inv X pins σ H' s' /\ IsPart u o /\ Q o H') X.xe s
def tNoPart:TO:=fun _ H Q=>Q none H
def tPart (t:TE):TO:=fun σ H Q=>t σ H fun x H1=>∃ i,x = .int i /\ Q (some i) H1
section
variable {X:Cx} {e:Expr} {te:TE} {lo hi:Option Expr} {tl th:TO} {pos p2:Pos}
theorem po_none:PO X none tNoPart:=by
 intro pins s σ H Q I h
 rw [evalPart_none]
 exact wpAny_pure ⟨none,H,I,.none,h⟩
theorem po_some (h:PE X e te):PO X (some e) (tPart te):=by
 intro pins s σ H Q I hw
 rw [evalPart_some]
 refine thn (h pins s σ H _ I hw) fun u s1 ⟨x,H1,I1,r1,q1⟩=>?_
 obtain ⟨i,rfl,q⟩:=q1
 obtain ⟨t,rfl⟩:=r1
 exact ⟨some i,H1,I1,.int i t,q⟩
def SlR (X:Cx) (r:V -> Option Int -> Option Int -> Hp -> VK -> Prop):Prop :=
 ∀ (pins:List (Addr × Obj)) (s:Shared) (σ:St) (H:Hp) (x:V) (v vl vu:Value) (lo hi:Option Int) (sl:Addr) (Q:VK),Inv X pins σ H s -> RelV x v -> s.heap.IsSliceOf sl vl vu .none -> IsPart vl lo -> IsPart vu hi -> r x lo hi H Q ->
  ∃ T id,typeLookup (.type T) "__getitem__" = pure (some (.builtin id)) /\ s.TypeIs v T /\ wpAny (model X.prog X.w) X.A (getItem v (.ref sl)) (EP X pins σ Q) X.xe s
def tSl (r:V -> Option Int -> Option Int -> Hp -> VK -> Prop) (te:TE) (tl th:TO):TE:=fun σ H Q=>te σ H fun x H1=>tl σ H1 fun l H2=>th σ H2 fun u H3=>r x l u H3 Q
theorem pe_slice {r:V -> Option Int -> Option Int -> Hp -> VK -> Prop} (hr:SlR X r) (he:PE X e te) (hl:PO X lo tl) (hu:PO X hi th):PE X (.Subscript e (.Slice lo hi none p2) pos) (tSl r te tl th):=by
 intro pins s σ H Q I h
 refine Subscript_ (thn (he pins s σ H _ I h) fun v s1 ⟨x,H1,I1,r1,q1⟩=>?_)
 refine wpAny_Slice (thn (hl pins s1 σ H1 _ I1 q1) fun vl s2 ⟨l,H2,I2,pl,q2⟩=>thn (hu pins s2 σ H2 _ I2 q2) fun vu s3 ⟨u,H3,I3,pu,q3⟩=>?_)
 rw [evalPart_none]
 refine wpAny_pure ?_
 have I4:Inv X pins σ H3 { s3 with heap:=s3.heap.push { cls:=.type "slice",data:=.fields #[vl,vu,.none] } }:=I3.kept (t':=s3.toks) fun b ob q=>Heap.get?_push_of_some _ q
 obtain ⟨T,id,hT,ht,hg⟩:=hr pins { s3 with heap:=s3.heap.push { cls:=.type "slice",data:=.fields #[vl,vu,.none] } } σ H3 x v vl vu l u s3.heap.objs.size Q I4 r1 (Heap.IsSliceOf.new ..) pl pu q3
 show wpAny (model X.prog X.w) X.A (subscriptTail e (.Slice lo hi none p2) v (.ref s3.heap.objs.size)) (EP X pins σ Q) X.xe { s3 with heap:=s3.heap.push { cls:=.type "slice",data:=.fields #[vl,vu,.none] } }
 exact tail_any (ops:=[.ref s3.heap.objs.size,v]) ht hT hg (by with_unfolding_all rfl)
def cutV (xs:List V) (lo hi:Option Int):List V:=(xs.drop (HT.sIx xs.length 0 lo)).take (HT.sIx xs.length xs.length hi - HT.sIx xs.length 0 lo)
theorem cutV_length (xs:List V) (lo hi:Option Int):(cutV xs lo hi).length <= xs.length:=by
 unfold cutV
 rw [List.length_take,List.length_drop]
 walk_at "o"
end
end L2
namespace L2
open PySem PySem.Spec PyProof.Rows
def ixN (n:Nat) (i:Int):Option Nat:=if 0 <= i then (if i < n then some i.toNat else none) else if -(n:Int) <= i then some (i + n).toNat else none
def atI {α:Type} (xs:List α) (i:Int):Option α:=(ixN xs.length i).bind fun j=>xs[j]?
theorem ixN_seq {n:Nat} {i:Int} {j:Nat} (h:ixN n i = some j):seqIndex? i n = some j /\ j < n /\ -(n:Int) <= i /\ i < n:=by
 unfold ixN at h
 by_cases h0:0 <= i
 ·rw [if_pos h0] at h
  by_cases h1:i < n
  ·rw [if_pos h1] at h
   have e:i.toNat = j:=Option.some.inj h
   exact ⟨by rw [seqIndex_of h0 h1,e],by walk_at "o",by walk_at "o",h1⟩
  ·rw [if_neg h1] at h; cases h
 ·rw [if_neg h0] at h
  by_cases h1 : -(n:Int) <= i
  ·rw [if_pos h1] at h
   have e:(i + n).toNat = j:=Option.some.inj h
   exact ⟨by rw [seqIndex_neg (by walk_at "o") h1,e],by walk_at "o",h1,by walk_at "o"⟩
  ·rw [if_neg h1] at h; cases h
theorem atI_get {α:Type} {xs:List α} {i:Int} {v:α} (h:atI xs i = some v):∃ j,seqIndex? i xs.length = some j /\ xs[j]? = some v /\ j < xs.length /\ -(xs.length:Int) <= i /\ i < xs.length:=by
 unfold atI at h
 cases e:ixN xs.length i with
 | none=>rw [e] at h; cases h
 | some j =>
  rw [e] at h
  obtain ⟨h1,h2,h3,h4⟩:=ixN_seq e
  exact ⟨j,h1,h,h2,h3,h4⟩
theorem atI_nat {α:Type} {xs:List α} {j:Nat} {v:α} (h:xs[j]? = some v):atI xs (j:Int) = some v:=by
 have hj:j < xs.length:=(List.getElem?_eq_some_iff.mp h).1
 have e:ixN xs.length (j:Int) = some j:=by
  unfold ixN
  rw [if_pos (by walk_at "o"),if_pos (by walk_at "o")]; simp
 unfold atI; rw [e]; exact h
theorem atI_last {α:Type} (xs:List α) (v:α):atI (xs ++ [v]) (-1) = some v:=by
 have hl:(xs ++ [v]).length = xs.length + 1:=by simp
 have e:ixN (xs ++ [v]).length (-1) = some xs.length:=by
  unfold ixN
  rw [hl,if_neg (by decide),if_pos (by walk_at "o")]
  congr 1
  walk_at "o"
 unfold atI
 rw [e]
 show (xs ++ [v])[xs.length]? = some v
 simp
def PlainIx (b:Expr):Prop:=∀ o i,subscripted b false o i = operate [o,i] (getItem o i)
def IxR (X:Cx) (r:R2):Prop :=
 ∀ (value slice:Expr) (pins:List (Addr × Obj)) (s:Shared) (σ:St) (H:Hp) (x y:V) (v u:Value) (Q:VK),Inv X pins σ H s -> RelV x v -> RelV y u -> r x y H Q ->
  subscripted slice false v u = operate [v,u] (getItem v u) -> wpAny (model X.prog X.w) X.A (subscriptTail value slice v u) (EP X pins σ Q) X.xe s
def MtR (X:Cx) (id:String) (r:V -> List V -> Hp -> VK -> Prop):Prop :=
 ∀ (pins:List (Addr × Obj)) (s:Shared) (σ:St) (H:Hp) (x:V) (xs:List V) (v:Value) (us:List Value) (Q:VK),Inv X pins σ H s -> RelV x v -> Vals xs us -> r x xs H Q ->
  wpAny (model X.prog X.w) X.A (call (.builtin id) (v :: us)) (EP X pins σ Q) X.xe s
section
variable {X:Cx} {a b:Expr} {ta tb:TE} {pos:Pos}
theorem pe_ix {r:R2} (hr:IxR X r) (ha:PE X a ta) (hb:PE X b tb) (hs:PlainIx b):PE X (.Subscript a b pos) (tOp r ta tb):=by
 intro pins s σ H Q I h
 exact Subscript_ (binT ha hb I h fun v u s2 x y H2 I2 rx ry q=>hr a b pins s2 σ H2 x y v u Q I2 rx ry q (hs _ _))
def rIxL (K:PySem.W.Frag):R2:=fun x y H Q=>∃ p xs i v,x = .ref p /\ y = .int i /\ SqL K H p xs /\ atI xs i = some v /\ Q v H
def rIxT (K:PySem.W.Frag):R2:=fun x y H Q=>∃ p xs i v,x = .ref p /\ y = .int i /\ SqT K H p xs /\ atI xs i = some v /\ Q v H
theorem ix_list:IxR X (rIxL X.K):=by
 intro value slice pins s σ H x y v u Q I rx ry h hs
 obtain ⟨p,xs,i,z,rfl,rfl,hq,he,q⟩:=h
 cases rx
 obtain ⟨t,rfl⟩:=ry
 obtain ⟨its,r,pl,hz⟩:=I.list hq
 obtain ⟨j,h1,h2,h3,h4,h5⟩:=atI_get he
 obtain ⟨w,ew,rw'⟩:=r.get h2
 have hl:=r.length
 have hn:=line63
 have fin:EP X pins σ Q w s:=⟨z,H,I,rw',q⟩
 by_cases h0:0 <= i
 ·have hj:i.toNat = j:=by
   rw [seqIndex_of h0 h5] at h1
   exact Option.some.inj h1
  exact item_listR pl.isList h0 (by walk_at "o") (by rw [hj]; simpa using ew) fin hs
 ·have hj:(i + (its.toArray.size:Int)).toNat = j:=by
   rw [seqIndex_neg (by walk_at "o") h4] at h1
   rw [List.size_toArray,<- hl]
   exact Option.some.inj h1
  exact subscriptTail_builtinR (x:=w) pl.isList.typeIs slot_list_getitem.lookup
   (wpAny_getItem_list_neg (Q:=fun r s'=>r = w /\ EP X pins σ Q r s') pl.isList (by walk_at "o") (by rw [List.size_toArray] <;> walk_at "o") (by walk_at "o") (by rw [hj]; simpa using ew) ⟨rfl,fin⟩) hs
theorem ix_tup:IxR X (rIxT X.K):=by
 intro value slice pins s σ H x y v u Q I rx ry h hs
 obtain ⟨p,xs,i,z,rfl,rfl,hq,he,q⟩:=h
 cases rx
 obtain ⟨t,rfl⟩:=ry
 obtain ⟨its,r,pl,hz⟩:=I.tuple hq
 obtain ⟨j,h1,h2,h3,h4,h5⟩:=atI_get he
 obtain ⟨w,ew,rw'⟩:=r.get h2
 have hl:=r.length
 have hn:=line63
 have fin:EP X pins σ Q w s:=⟨z,H,I,rw',q⟩
 exact subscriptTail_builtinR (x:=w) pl.typeIs slot_tuple_getitem.lookup
  (getItem_tuple (j:=j) (Q:=fun r s'=>r = w /\ EP X pins σ Q r s') pl (by walk_at "o") (by walk_at "o") (by rw [List.size_toArray,<- hl]; exact h1) (by simpa using ew) ⟨rfl,fin⟩) hs
theorem mapSeq_set (its:List Value) (n j:Nat) (u:Value):Obj.mapSeq (·.setIfInBounds j u) { cls:=.type "list",data:=.seq its.toArray n } = { cls:=.type "list",data:=.seq (its.set j u).toArray n }:=by
 simp [Obj.mapSeq]
theorem Inv.lst {pins:List (Addr × Obj)} {σ:St} {H:Hp} {s:Shared} {p:Addr} {xs:List V} (I:Inv X pins σ H s) (h:H p = some (.lst xs)) :
  ∃ (its:List Value) (n:Nat),Vals xs its /\ s.heap.get? p = some { cls:=.type "list",data:=.seq its.toArray n } /\ xs.length <= sizeLine:=by
 obtain ⟨z,its,n,r,e⟩:=I.hok p _ h
 exact ⟨its,n,r,e,z⟩
theorem Inv.lstUpd {pins:List (Addr × Obj)} {σ:St} {H:Hp} {s:Shared} {p:Addr} {xs ys:List V} {its its':List Value} {n n':Nat} {f:Obj -> Obj} (I:Inv X pins σ H s) (h:H p = some (.lst xs))
  (ho:s.heap.get? p = some { cls:=.type "list",data:=.seq its.toArray n }) (hf:f { cls:=.type "list",data:=.seq its.toArray n } = { cls:=.type "list",data:=.seq its'.toArray n' }) (r:Vals ys its') (hz:ys.length <= sizeLine) (t:Nat) :
  Inv X pins σ (upd H p (.lst ys)) { s with heap:=s.heap.update p f,toks:=t }:=by
 have e:(s.heap.update p f).get? p = some { cls:=.type "list",data:=.seq its'.toArray n' }:=by
  rw [Heap.get?_update_self f ho (by rw [hf] <;> rfl),hf]
 refine I.write (x:=p) (e:=p) (by rw [h]; trivial) (.inl rfl) (fun b u hb q=>(Heap.get?_update_other _ _ (Ne.symm hb)).trans q) ⟨_,e⟩ ?_
 exact ⟨hz,its',n',r,e⟩
def rSetL:V -> V -> V -> Hp -> (Hp -> Prop) -> Prop:=fun o i v H Q=>∃ p xs k j,o = .ref p /\ i = .int k /\ H p = some (.lst xs) /\ ixN xs.length k = some j /\ Q (upd H p (.lst (xs.set j v)))
theorem set_list:PSet X rSetL:=by
 intro pins s σ H o i v ov iv u Q I ro ri rv h
 obtain ⟨p,xs,k,j,rfl,rfl,hp,hj,q⟩:=h
 cases ro
 obtain ⟨t,rfl⟩:=ri
 obtain ⟨its,n,r,ho,hz⟩:=I.lst hp
 obtain ⟨h1,h2,h3,h4⟩:=ixN_seq hj
 have hl:=r.length
 have hn:=line63
 have I':Inv X pins σ (upd H p (.lst (xs.set j v))) { s with heap:=s.heap.update p (Obj.mapSeq (·.setIfInBounds j u)) } :=
  I.lstUpd hp ho (mapSeq_set its n j u) (r.set rv j) (by rw [List.length_set]; exact hz) s.toks
 by_cases h0:0 <= k
 ·have hk:k.toNat = j:=by
   rw [seqIndex_of h0 h4] at h1
   exact Option.some.inj h1
  exact PySem.W.ki_setAt ho h0 (by walk_at "o") (by rw [List.size_toArray,<- hl]; exact h4) (by rw [hk]; exact ⟨_,I',q⟩)
 ·have hk:(k + (its.toArray.size:Int)).toNat = j:=by
   rw [seqIndex_neg (by walk_at "o") h3] at h1
   rw [List.size_toArray,<- hl]
   exact Option.some.inj h1
  exact PySem.W.ki_setBack ho (by walk_at "o") (by rw [List.size_toArray,<- hl]; exact h3) (by walk_at "o") (by rw [hk]; exact ⟨_,I',q⟩)
theorem slice_bounds (lo hi:Option Int) (n:Nat):(sliceBounds lo hi none n).1 = ((HT.sIx n 0 lo:Nat):Int) /\ (sliceBounds lo hi none n).2.1 = ((HT.sIx n n hi:Nat):Int) /\ (sliceBounds lo hi none n).2.2 = 1:=by
 refine ⟨?_,?_,rfl⟩
 ·cases lo with
  | none=>simp [sliceBounds,HT.sIx]
  | some i =>
   simp only [sliceBounds,HT.sIx,Option.getD_none,show (1:Int) > 0 by decide,if_true]
   by_cases h:i < 0
   ·simp only [h,if_true] <;> walk_at "o"
   ·simp only [h,if_false] <;> walk_at "o"
 ·cases hi with
  | none=>simp [sliceBounds,HT.sIx]
  | some i =>
   simp only [sliceBounds,HT.sIx,Option.getD_none,show (1:Int) > 0 by decide,if_true]
   by_cases h:i < 0
   ·simp only [h,if_true] <;> walk_at "o"
   ·simp only [h,if_false] <;> walk_at "o"
theorem slicePick_cut (its:List Value) (lo hi:Option Int):slicePick its.toArray lo hi none = ((its.drop (HT.sIx its.length 0 lo)).take (HT.sIx its.length its.length hi - HT.sIx its.length 0 lo)).toArray:=by
 obtain ⟨h1,h2,h3⟩:=slice_bounds lo hi its.toArray.size
 unfold slicePick
 rw [h1,h2,h3]
 simp only [sliceRange_one,pick_run,List.size_toArray] <;> rfl
def rSlL (K:PySem.W.Frag):V -> Option Int -> Option Int -> Hp -> VK -> Prop:=fun x lo hi H Q=>∃ a xs,x = .ref a /\ SqL K H a xs /\ ∀ p,H p = none -> Q (.ref p) (upd H p (.lst (cutV xs lo hi)))
theorem sl_list:SlR X (rSlL X.K):=by
 intro pins s σ H x v vl vu lo hi sl Q I rx hs pl pu h
 obtain ⟨a,xs,rfl,hx,q⟩:=h
 cases rx
 obtain ⟨its,r,ht,hz⟩:=I.list hx
 have hlen:=r.length
 refine ⟨"list",_,slot_list_getitem.lookup,ht.isList.typeIs,?_⟩
 refine wpAny_getItem_list_slice ht.isList hs pl pu .none (by simp) ?_ (by rw [List.size_toArray] <;> walk_at "o")
 rw [slicePick_cut,<- hlen]
 refine ⟨.ref s.heap.objs.size,_,I.laid (t':=s.toks) (o:=.lst (cutV xs lo hi)) (fun b ob q=>Heap.get?_push_of_some _ q) (Nat.le_refl _) ?_,rfl,q _ (I.hok.fresh (Nat.le_refl _))⟩
 exact ⟨Nat.le_trans (cutV_length xs lo hi) hz,_,0,(r.drop (HT.sIx xs.length 0 lo)).take (HT.sIx xs.length xs.length hi - HT.sIx xs.length 0 lo),Heap.get?_push_size _ rfl⟩
theorem call_len_seq:CallR X (.builtin "len") (fun xs H Q=>∃ p ys,xs = [.ref p] /\ (SqL X.K H p ys \/ SqT X.K H p ys) /\ Q (.int ys.length) H):=by
 intro pins s σ H xs us Q I r h
 obtain ⟨p,ys,rfl,hq,q⟩:=h
 obtain ⟨u,rfl,rx⟩:=vals1 r
 cases rx
 have hn:=line63
 rcases hq with hq | hq
 ·obtain ⟨its,r',pl,hz⟩:=I.list hq
  have hlen:=r'.length
  exact Calls.call_len_list pl.isList (by simp only [List.size_toArray] <;> walk_at "o") ⟨.int ys.length,H,I.tok _,⟨s.toks + 1,by rw [List.size_toArray,hlen]⟩,q⟩
 ·obtain ⟨its,r',pl,hz⟩:=I.tuple hq
  have hlen:=r'.length
  exact len_tuple pl (by simp only [List.size_toArray] <;> walk_at "o") ⟨.int ys.length,H,I.tok _,⟨s.toks + 1,by rw [List.size_toArray,hlen]⟩,q⟩
theorem call_list_of:CallR X (.type "list") (fun xs H Q=>∃ p ys,xs = [.ref p] /\ (SqL X.K H p ys \/ SqT X.K H p ys) /\ ∀ l,H l = none -> Q (.ref l) (upd H l (.lst ys))):=by
 intro pins s σ H xs us Q I r h
 obtain ⟨p,ys,rfl,hq,q⟩:=h
 obtain ⟨u,rfl,rx⟩:=vals1 r
 cases rx
 have fin:∀ (its:List Value),Vals ys its -> ys.length <= sizeLine -> ∀ (h':Heap) (c':Nat),(∀ b o',s.heap.get? b = some o' -> h'.get? b = some o') ->
   h'.get? s.heap.objs.size = some { cls:=.type "list",dict:=none,data:=.seq its.toArray c',slots:=#[] } -> EP X pins σ Q (.ref s.heap.objs.size) { s with heap:=h' }:=fun its r' hz h' c' kp e =>
  ⟨.ref s.heap.objs.size,_,I.laid (t':=s.toks) kp (Nat.le_refl _) (show ObjOk X.prog X.w _ h' _ (.lst ys) from ⟨hz,its,c',r',e⟩),rfl,q _ (I.hok.fresh (Nat.le_refl _))⟩
 rcases hq with hq | hq
 ·obtain ⟨its,r',pl,hz⟩:=I.list hq
  have hlen:=r'.length
  obtain ⟨o,ho,hc,n,hd⟩:=pl.isList
  exact call_list_seq p (.inl rfl) ho hc hd (fun h' c' kp e=>fin its r' hz h' c' kp e) (by simp only [List.size_toArray] <;> walk_at "o")
 ·obtain ⟨its,r',pl,hz⟩:=I.tuple hq
  have hlen:=r'.length
  obtain ⟨o,ho,hc,n,hd⟩:=pl
  exact call_list_seq p (.inr rfl) ho hc hd (fun h' c' kp e=>fin its r' hz h' c' kp e) (by simp only [List.size_toArray] <;> walk_at "o")
def tyV (K:PySem.W.Frag) (T:String) (x:V) (H:Hp):Prop:=match x with
 | .str _=>T = "str"
 | .int _=>T = "int"
 | .ref p=>(T = "list" /\ ∃ xs,SqL K H p xs) \/ (T = "tuple" /\ ∃ o,K.lookup p = some o /\ o.cls = .type "tuple" /\ o.dict = none) \/
   (T = "dict" /\ ((∃ kvs,H p = some (.dK kvs)) \/ ∃ kvs,H p = some (.dT kvs))) \/ (T = "set" /\ ∃ S n,H p = some (.set S n))
 | _=>False
theorem tyV_is {pins:List (Addr × Obj)} {σ:St} {H:Hp} {s:Shared} {T:String} {x:V} {v:Value} (I:Inv X pins σ H s) (r:RelV x v) (ty:tyV X.K T x H) :
  s.TypeIs v T /\ ∀ a,v = .ref a -> ∃ ob,s.heap.get? a = some ob /\ ob.dict = none:=by
 cases x with
 | str z =>
  obtain ⟨t,rfl⟩:=r
  cases (show T = "str" from ty)
  exact ⟨typeIs_str s z t,fun _ e=>nomatch e⟩
 | int i =>
  obtain ⟨t,rfl⟩:=r
  cases (show T = "int" from ty)
  exact ⟨typeIs_int s i t,fun _ e=>nomatch e⟩
 | ref p =>
  cases r
  rcases ty with ⟨rfl,xs,hq⟩ | ⟨rfl,o,hk,hc,hd⟩ | ⟨rfl,hk⟩ | ⟨rfl,S,n,hk⟩
  ·obtain ⟨its,_,pl,_⟩:=I.list hq
   refine ⟨pl.isList.typeIs,fun a e=>?_⟩
   cases e
   obtain ⟨o,n,e,c,hd,_⟩:=pl
   exact ⟨o,e,hd⟩
  ·refine ⟨⟨o,I.kIn p o hk,hc⟩,fun a e=>?_⟩
   cases e
   exact ⟨o,I.kIn _ o hk,hd⟩
  ·have z:∃ o,s.heap.get? p = some o /\ o.ExactDict:=by
    rcases hk with ⟨kvs,hk⟩ | ⟨kvs,hk⟩
    ·obtain ⟨_,_,_,_,o,_,_,e,ex,_⟩:=I.hok p _ hk
     exact ⟨o,e,ex⟩
    ·obtain ⟨_,_,_,_,o,_,_,e,ex,_⟩:=I.hok p _ hk
     exact ⟨o,e,ex⟩
   obtain ⟨o,e,ex⟩:=z
   refine ⟨⟨o,e,ex.1⟩,fun a e2=>?_⟩
   cases e2
   exact ⟨o,e,ex.2.1⟩
  ·obtain ⟨o,_,_,_,e,ex,_⟩:=I.hok p _ hk
   refine ⟨⟨o,e,ex.1⟩,fun a e2=>?_⟩
   cases e2
   exact ⟨o,e,ex.2.1⟩
 | _=>exact False.elim ty
def tBM0 (K:PySem.W.Frag) (T:String) (r:V -> List V -> Hp -> VK -> Prop) (to:TE):TE:=fun σ H Q=>to σ H fun x H1=>tyV K T x H1 /\ r x [] H1 Q
def tBM (K:PySem.W.Frag) (T:String) (r:V -> List V -> Hp -> VK -> Prop) (to:TE) (t:TA):TE:=fun σ H Q=>to σ H fun x H1=>tyV K T x H1 /\ t σ H1 fun xs H2=>r x xs H2 Q
variable {o e:Expr} {es:List Expr} {to:TE} {t:TA} {name:Str} {apos cpos:Pos} {T id:String} {r:V -> List V -> Hp -> VK -> Prop}
theorem pe_bm0 (pa:PlainAttrs T) (slot:Slot T name id) (hty:typeOf (.builtin id) = pure (.type "method_descriptor")) (hm:MtR X id r) (ho:PE X o to)
  (hbase:attributeBase o name X.env (eval o X.env) = eval o X.env:=by rfl) (hline:(apos.endLine == cpos.line) = true:=by rfl):PE X (.Call (.Attribute o name apos) [] [] cpos) (tBM0 X.K T r to):=by
 intro pins s σ H Q I h
 refine wpAny_Call_method0_late hbase hline (thn (ho pins s σ H _ I h) fun v s1 ⟨x,H1,I1,r1,ty,q1⟩=>?_)
 obtain ⟨h1,h2⟩:=tyV_is I1 r1 ty
 exact ⟨T,id,pa,slot,hty,h1,h2,Calls.callWith_builtin rfl (PySem.evalArgs_none (hm pins s1 σ H1 x [] v [] Q I1 r1 .nil q1))⟩
theorem pe_bm (pa:PlainAttrs T) (slot:Slot T name id) (hty:typeOf (.builtin id) = pure (.type "method_descriptor")) (hm:MtR X id r) (ho:PE X o to) (ha:PA X (e :: es) t)
  (hbase:attributeBase o name X.env (eval o X.env) = eval o X.env:=by rfl)
  (hfew:((backTo cpos (starEach (e :: es) X.env)).all (fun x=>!x.1) && (backToKw cpos (keywordEach [] X.env)).all (fun x=>x.1.isSome)
   && decide ((e :: es).length + ([]:List Keyword).length + (if ([]:List Keyword).isEmpty then 0 else 1) < 30)) = true:=by rfl)
  (hline:(apos.endLine == cpos.line) = true:=by rfl) (hs:starEach (e :: es) X.env = (false,eval e X.env) :: starEach es X.env:=by rfl) (hplain:(backTo cpos (starEach es X.env)).any (·.1) = false:=by rfl) :
  PE X (.Call (.Attribute o name apos) (e :: es) [] cpos) (tBM X.K T r to t):=by
 intro pins s σ H Q I h
 refine wpAny_Call_method_late hbase hfew hline rfl (thn (ho pins s σ H _ I h) fun v s1 ⟨x,H1,I1,r1,ty,q1⟩=>?_)
 obtain ⟨h1,h2⟩:=tyV_is I1 r1 ty
 refine ⟨T,id,pa,slot,hty,h1,h2,?_⟩
 have hA:=ha cpos pins s1 σ H1 _ I1 q1
 rw [hs] at hA ⊢
 refine Calls.callWith_builtin (by show (false || (backTo cpos (starEach es X.env)).any (·.1)) = false; rw [hplain] <;> rfl) (Calls.evalArgs_plain ?_)
 exact thn hA fun us s2 ⟨vs,H2,I2,r2,q2⟩=>hm pins s2 σ H2 x vs v us Q I2 r1 r2 q2
end
end L2
namespace L2
open PySem PySem.Spec PyProof.Rows
def MtM (X:Cx) (id:String) (r:V -> List V -> Hp -> VK -> Prop):Prop :=
 ∀ (pins:List (Addr × Obj)) (s:Shared) (σ:St) (H:Hp) (x:V) (xs:List V) (v:Value) (us:List Value) (Q:VK),Inv X pins σ H s -> RelV x v -> Vals xs us -> r x xs H Q ->
  wpAny (model X.prog X.w) X.A (call (.builtin id) (v :: us)) (EP X pins σ Q) X.xe s
theorem Vals.one:∀ {x:V} {us:List Value},Vals [x] us -> ∃ u,us = [u] /\ RelV x u
 | _,_,.cons r .nil=>⟨_,rfl,r⟩
theorem Vals.zero:∀ {us:List Value},Vals [] us -> us = []
 | _,.nil=>rfl
theorem Vals.dropLast {xs:List V} {us:List Value} (h:Vals xs us):Vals xs.dropLast us.dropLast:=by
 induction h with
 | nil=>exact .nil
 | cons r t ih =>
  cases t with
  | nil=>exact .nil
  | cons q t'=>exact .cons r ih
theorem Vals.rep {xs:List V} {us:List Value} (h:Vals xs us):∀ k:Nat,Vals (List.replicate k xs).flatten (List.replicate k us).flatten
 | 0=>.nil
 | k + 1=>by
  rw [List.replicate_succ,List.replicate_succ,List.flatten_cons,List.flatten_cons]
  exact Vals.append h (Vals.rep h k)
theorem erase_last {α:Type} (l:List α):l.eraseIdx (l.length - 1) = l.dropLast:=by
 induction l with
 | nil=>rfl
 | cons a r ih =>
  cases r with
  | nil=>rfl
  | cons b r =>
   have e:(a :: b :: r).length - 1 = ((b :: r).length - 1) + 1:=by
    have h1:(a :: b :: r).length = r.length + 2:=rfl
    have h2:(b :: r).length = r.length + 1:=rfl
    walk_at "o"
   rw [e,List.eraseIdx_cons_succ,ih]
   all_goals rfl
theorem foldl_rep (its:List Value):∀ (k:Nat) (acc:List Value),
  List.foldl (fun x1 x2=>x1 ++ x2) acc.toArray (List.replicate k its.toArray) = (acc ++ (List.replicate k its).flatten).toArray
 | 0,acc=>by simp
 | k + 1,acc=>by
  have e:acc.toArray ++ its.toArray = (acc ++ its).toArray:=by simp
  have e2:(acc ++ its) ++ (List.replicate k its).flatten = acc ++ (List.replicate (k + 1) its).flatten:=by
   rw [List.replicate_succ,List.flatten_cons,List.append_assoc]
  rw [<- e2,<- foldl_rep its k (acc ++ its),<- e,List.replicate_succ,List.foldl_cons]
section
variable {X:Cx} {pins:List (Addr × Obj)} {σ:St} {H:Hp} {s:Shared} {l b:Addr} {xs ys zs:List V}
theorem Inv.lset {its its':List Value} {n:Nat} {f:Array Value -> Array Value} {t':Nat} (I:Inv X pins σ H s) (hH:H l = some (.lst xs))
  (e:s.heap.get? l = some { cls:=.type "list",data:=.seq its.toArray n }) (hf:f its.toArray = its'.toArray) (hv:Vals ys its') (hz:ys.length <= sizeLine) :
  Inv X pins σ (upd H l (.lst ys)) { s with heap:=s.heap.update l (Obj.mapSeq f),toks:=t' }:=by
 have q:=PySem.IsL.update e f
 rw [hf] at q
 refine I.write (x:=l) (e:=l) (by rw [hH]; exact trivial) (.inl rfl) (fun b' u hb hu=>(Heap.get?_update_other s.heap (Obj.mapSeq f) (Ne.symm hb)).trans hu) ⟨_,q⟩ ?_
 exact ⟨hz,its',_,hv,q⟩
theorem Inv.lnew {its:List Value} {t':Nat} (I:Inv X pins σ H s) (hv:Vals ys its) (hz:ys.length <= sizeLine) :
  Inv X pins σ (upd H s.heap.objs.size (.lst ys)) { s with heap:=s.heap.push { cls:=.type "list",data:=.seq its.toArray },toks:=t' } :=
 I.laid (fun _ _ q=>Heap.get?_push_of_some _ q) (Nat.le_refl _) ⟨hz,its,0,hv,Heap.get?_push_size _ rfl⟩
theorem Inv.fresh (I:Inv X pins σ H s):H s.heap.objs.size = none:=I.hok.fresh (Nat.le_refl _)
theorem Inv.lstM (I:Inv X pins σ H s) (hH:H l = some (.lst xs)):xs.length <= sizeLine /\ ∃ (its:List Value) (n:Nat),Vals xs its /\ xs.length = its.length /\ s.heap.get? l = some { cls:=.type "list",data:=.seq its.toArray n }:=by
 obtain ⟨z,its,n,r,e⟩:=I.hok l _ hH
 exact ⟨z,its,n,r,r.length,e⟩
theorem notLongL {n:Nat} (h:n <= sizeLine):Builtin.List.listTooLong n = false:=by
 unfold Builtin.List.listTooLong
 exact decide_eq_false (by walk_at "o")
end
section
variable {X:Cx}
def rAppend:V -> List V -> Hp -> VK -> Prop:=fun x vs H Q=>∃ l xs y,x = .ref l /\ vs = [y] /\ H l = some (.lst xs) /\ xs.length < sizeLine /\ Q .non (upd H l (.lst (xs ++ [y])))
theorem mt_append:MtM X "list.append" rAppend:=by
 intro pins s σ H x vs v us Q I rx rv h
 obtain ⟨l,xs,y,rfl,rfl,hH,hz,q⟩:=h
 cases rx
 obtain ⟨u,rfl,ru⟩:=rv.one
 obtain ⟨z,its,n,r,hl,e⟩:=I.lstM hH
 refine call_meets F.slot_list_append ⟨_,e,rfl⟩ F.entry_list_append (F.args_list_append_2 _ _) (PySem.list_append l its.toArray n u (by rw [List.size_toArray]; walk_at "o")) ⟨e,?_⟩
 refine ⟨.non,_,I.lset (its':=its ++ [u]) hH e (by simp) (r.append (.cons ru .nil)) ?_,rfl,q⟩
 rw [List.length_append,List.length_singleton]
 walk_at "o"
def rPop:V -> List V -> Hp -> VK -> Prop:=fun x vs H Q=>∃ l xs y,x = .ref l /\ vs = [] /\ H l = some (.lst xs) /\ xs[xs.length - 1]? = some y /\ Q y (upd H l (.lst xs.dropLast))
theorem mt_pop:MtM X "list.pop" rPop:=by
 intro pins s σ H x vs v us Q I rx rv h
 obtain ⟨l,xs,y,rfl,rfl,hH,hy,q⟩:=h
 cases rx
 have hus:=rv.zero
 subst hus
 obtain ⟨z,its,n,r,hl,e⟩:=I.lstM hH
 obtain ⟨u,hu,ru⟩:=r.get hy
 have hy':its.toArray[its.toArray.size - 1]? = some u:=by
  show its.toArray[its.length - 1]? = some u
  rw [<- Array.getElem?_toList,<- hl]
  exact hu
 refine call_meets F.slot_list_pop ⟨_,e,rfl⟩ F.entry_list_pop (F.args_list_pop_1 _) (MeetsSeq.list_pop_last l its.toArray n u hy' (by rw [List.size_toArray]; walk_at "o")) ⟨e,?_⟩
 refine ⟨y,_,I.lset (its':=its.dropLast) hH e ?_ r.dropLast ?_,ru,q⟩
 ·show its.toArray.eraseIdxIfInBounds (its.toArray.size - 1) = its.dropLast.toArray
  rw [List.size_toArray,List.eraseIdxIfInBounds_toArray,erase_last]
 ·rw [List.length_dropLast]
  walk_at "o"
def rCat:R2:=fun x y H Q=>∃ l b xs zs,x = .ref l /\ y = .ref b /\ H l = some (.lst xs) /\ H b = some (.lst zs) /\ xs.length + zs.length <= sizeLine /\ ∀ p,H p = none -> Q (.ref p) (upd H p (.lst (xs ++ zs)))
theorem op_cat:OpR X (binaryOp .Add) rCat:=by
 intro pins s σ H x y v u Q I rx ry h
 obtain ⟨l,b,xs,zs,rfl,rfl,hH,hB,hz,q⟩:=h
 cases rx
 cases ry
 obtain ⟨z,its,n,r,hl,e⟩:=I.lstM hH
 obtain ⟨z2,its2,n2,r2,hl2,e2⟩:=I.lstM hB
 refine PySem.P.add_list e e2 ?_ (by rw [List.size_toArray,List.size_toArray]; walk_at "o")
 have ea:its.toArray ++ its2.toArray = (its ++ its2).toArray:=by simp
 rw [ea]
 exact ⟨.ref _,_,I.lnew (t':=s.toks) (r.append r2) (by rw [List.length_append]; walk_at "o"),rfl,q _ I.fresh⟩
def rRep:R2:=fun x y H Q=>∃ l k xs,x = .ref l /\ y = .int k /\ H l = some (.lst xs) /\ -(2 ^ 63) <= k /\ k < 2 ^ 63 /\ xs.length * k.toNat <= sizeLine /\
 ∀ p,H p = none -> Q (.ref p) (upd H p (.lst (List.replicate k.toNat xs).flatten))
theorem len_rep {α:Type} (xs:List α) (k:Nat):(List.replicate k xs).flatten.length = k * xs.length:=by
 induction k with
 | zero=>simp
 | succ k ih=>rw [List.replicate_succ,List.flatten_cons,List.length_append,ih,Nat.succ_mul,Nat.add_comm]
theorem op_rep:OpR X (binaryOp .Mult) rRep:=by
 intro pins s σ H x y v u Q I rx ry h
 obtain ⟨l,k,xs,rfl,rfl,hH,h1,h2,hz,q⟩:=h
 cases rx
 obtain ⟨t,rfl⟩:=ry
 obtain ⟨z,its,n,r,hl,e⟩:=I.lstM hH
 have hlen:its.toArray.size * k.toNat <= sizeLine:=by rw [List.size_toArray,<- hl]; exact hz
 have hcap:¬ its.toArray.size * k.toNat > (2 ^ 63 - 1) / 8:=by
  have:(sizeLine:Nat) <= (2 ^ 63 - 1) / 8:=by decide
  walk_at "o"
 have hfit:¬ (!Builtin.List.listFitsIndex k) = true:=by
  rw [fitsIndex_both h1 h2]
  exact Bool.false_ne_true
 have hlong:¬ Builtin.List.listTooLong (its.toArray.size * k.toNat) = true:=by
  rw [notLongL hlen]
  exact Bool.false_ne_true
 have hnew:List.foldl (fun x1 x2=>x1 ++ x2) #[] (List.replicate (if its.toArray.isEmpty = true then 0 else k.toNat) its.toArray) = (List.replicate k.toNat its).flatten.toArray:=by
  have f0:∀ m:Nat,List.foldl (fun x1 x2=>x1 ++ x2) #[] (List.replicate m its.toArray) = (List.replicate m its).flatten.toArray:=fun m=>by
   have:=foldl_rep its m []
   rw [List.nil_append] at this
   exact this
  rw [f0]
  cases its with
  | nil=>simp
  | cons a r'=>rw [if_neg (by simp)]
 refine wpAny_binaryOp_repeat_ref (T:="list") (U:="int") (by decide) ⟨_,e,rfl⟩ (fun s'=>typeIs_int s' k t) noFill_list_mul F.fills_int_mul F.slot_int_rmul repeat_list F.slot_int_index.lookup
  (call_meets F.slot_int_rmul (typeIs_int s k t) F.entry_int_rmul (F.args_int_rmul_2 _ _) (int___rmul___int_list k t l its.toArray n)
   ⟨e,rfl,⟨_,e,rfl⟩,call_meets F.slot_list_mul ⟨_,e,rfl⟩ F.entry_list_mul (F.args_list_mul_2 _ _) (AutoListH.list___mul___list_int_3 l its.toArray n k t hfit hcap hlong) ⟨e,?_⟩⟩)
 rw [hnew]
 exact ⟨.ref _,_,I.lnew (t':=s.toks) (r.rep k.toNat) (by rw [len_rep,Nat.mul_comm]; exact hz),rfl,q _ I.fresh⟩
end
section
variable {prog:Program} {w:World} {A:Around} {E:Value -> Shared -> Prop} {s:Shared}
end
section
variable {X:Cx}
end
end L2
namespace Att
open PySem PySem.W PySem.Calls PyProof.Rows
theorem ints_of_wellAll {P:Params} {h:Heap}:∀ (ns:List Int) (vs:List Value),WellAll P h vs (ns.map WData.int) -> IntsAre vs ns:=by
 intro ns
 induction ns with
 | nil =>
  intro vs w
  rw [List.map_nil] at w
  cases w
  exact .nil
 | cons n ns ih =>
  intro vs w
  rw [List.map_cons] at w
  cases w with
  | cons a b =>
   cases a
   exact .cons _ _ (ih _ b)
theorem script_of {l:OpenLaw} {n:Nat} (hn:l.most = some n) {P:Params} {h:Heap} {args:List WData} {vals:List Value}
  (hpre:l.row.toRowW.claim.pre args = true) (hwl:WellAll P h vals args) :
  ∃ a vs ns,vals = [Value.ref a] /\ args = [WData.list (ns.map WData.int)] /\ h.get? a = some { cls:=.type "list",data:=.seq vs.toArray } /\ IntsAre vs ns /\ ns.length <= n:=by
 have hsh:WShape.hasAll [] args [.list .int] = true:=(pre_splitW hpre).1
 have hc:l.pre.holds [] { args:=args } = true:=(pre_splitW hpre).2
 obtain ⟨d,r,rfl,h1,h2⟩:=hasAllW_cons hsh
 obtain rfl:=hasAllW_nil h2
 obtain ⟨xs,rfl,h3⟩:=hasW_list h1
 obtain ⟨ns,rfl⟩:=items_int h3
 have hlen:ns.length <= n:=by
  unfold OpenLaw.pre at hc
  have h4:(WTm.not (.lt (.lit (.int (n:Int))) (.len (.arg 0)))).holds [] { args:=[.list (ns.map .int)] } = true:=by
   have h4:=(holds_andW hc).1
   rw [hn] at h4
   exact h4
  have h5:=condW_of h4 (w_not (w_lt w_lit (w_len_list (w_arg rfl))))
  rw [List.length_map] at h5
  refine Nat.le_of_not_lt fun q=>?_
  have q':(n:Int) < ((ns.length:Nat):Int):=by walk_at "o"
  first
   | (rw [decide_eq_true q'] at h5; exact absurd h5 (by decide))
   | (simp at h5; walk_at "o")
 cases hwl with
 | cons w1 w2 =>
  cases w2
  cases w1 with
  | list ho hall=>exact ⟨_,_,ns,rfl,rfl,ho,ints_of_wellAll ns _ hall,hlen⟩
theorem post_true (l:OpenLaw) (args:List WData):l.row.toRowW.claim.post args (.bool true) args = true :=
 postW_of (r:=l.row.toRowW) (X:=(true == true))
  (show WShape.has [] (.bool true) .bool = true by first | rfl | decide | simp [WShape.has,WShape.arms,WShape.armsAll])
  (show (WTm.eq .res (.lit (.bool true))).value [] { args:=args,res:=some (.bool true),after:=args } = some (.bool (true == true)) from w_eq_bool (w_res rfl) w_lit) rfl
theorem attach_call {l:OpenLaw} {n:Nat} {q:Program} {loose:List Str} {XP:(Str -> Option Value) -> Heap -> Prop} {YP:World -> Heap -> Prop} {d:DefRec}
  (hn:l.most = some n) (hdf:d.params.defaults = [])
  (call:∀ (w:World) (s₀ s₁:Shared) (mg mb:Str -> Option Value) (fa:Addr) (o:Obj) (pm cd doc:Value) (a:Addr) (vs:List Value) (ns:List Int),
   Ground q loose [] XP w s₀ mg mb s₁.heap -> YP w s₁.heap ->
   s₁.heap.get? fa = some o -> o.data = .func (docDef d.name d.params d.body d.scope pm cd doc) -> s₁.heap.CodeRec cd d.name -> mg d.name = some (.ref fa) ->
   s₁.heap.get? a = some { cls:=.type "list",data:=.seq vs.toArray } -> IntsAre vs ns -> ns.length <= n -> s₁.gens = #[] ->
   codeAny (model l.prog w) callerA (.call (.ref fa) ⟨[.ref a],[]⟩) (fun r s'=>r = .ok (.ret (.bool true)) /\ OldK s₁.heap s'.heap /\ s'.os = s₁.os /\ AllBare s'.gens) s₁) :
  WalkO q loose XP YP l.row.toRowW d [] (fun f vs=>PySem.call f vs):=by
 intro w s₀ s₁ mg mb G Y fa o pm cd doc dV kV ho hd hcd hD hmg hg args vals as hpre hlay hrd hwl hlo
 obtain rfl:dV = .none:=Dflts.none hD hdf
 obtain rfl:kV = .none:=Dflts.noKw hD
 obtain ⟨a,vs,ns,rfl,rfl,hobj,hints,hlen⟩:=script_of hn hpre hwl
 refine enter_call (codeAny_mono (call w s₀ s₁ mg mb fa o pm cd doc a vs ns G Y ho (fd_plain hd) hcd hmg hobj hints hlen hg) fun r s' hq=>?_)
 obtain ⟨rfl,h2,h3,h4⟩:=hq
 exact ⟨.inl ⟨.bool true,.bool true,[],rfl,fun _=>rfl,.bool true,post_true l _,fun _=>⟨List.Pairwise.nil,fun _ hm=>(nomatch hm)⟩⟩,h2,h3,h4⟩
section
variable {prog:Program} {w:World} {A:Around} {E:Value -> Shared -> Prop} {s:Shared} {K:Frag}
end
end Att
namespace L2
open PySem PySem.Spec PyProof.Rows
theorem vals_ints:∀ {vs:List Value} {ns:List Int},IntsAre vs ns -> Vals (ns.map V.int) vs
 | _,_,.nil=>.nil
 | _,_,.cons n t h=>.cons ⟨t,rfl⟩ (vals_ints h)
end L2
namespace L2
open PySem PySem.Spec PyProof.Rows
end L2
namespace L2
open PySem PySem.Spec PyProof.Rows
def defArgs (s:Stmt):Arguments:=match s with
 | .FunctionDef _ a _ _ _ _ _ _ _ _=>a
 | _=>{ posonlyargs:=[],args:=[],vararg:=none,kwonlyargs:=[],kw_defaults:=[],kwarg:=none,defaults:=[] }
def defBody (s:Stmt):List Stmt:=match s with
 | .FunctionDef _ _ b _ _ _ _ _ _ _=>b
 | _=>[]
def defScope (s:Stmt):Scope:=match s with
 | .FunctionDef _ _ _ _ _ _ sc _ _ _=>sc
 | _=>{ kind:=.function,names:=[],isGenerator:=false,isCoroutine:=false }
abbrev CX0:CXT:=fun _ _ _ _ _ _=>False
abbrev E0:XK:=fun _ _ _=>False
theorem pass0 {X:Cx}:Passes CX0 X E0:=fun _ _ _ _ _ _ _ h=>h.elim
structure Fun (K:PySem.W.Frag) (x qual:Str) (st:Stmt) (f:Addr) (fd:FuncData):Prop where
 ex:∃ (oc:Value) (od:Option Addr) (kV doc pm:Value) (an:Option Addr) (cdv ct:Value) (osl:Array (Option Value)),
  fd = PySem.W.fnOf x qual (defArgs st) (defBody st) (defScope st) .none kV doc pm an cdv ct /\ K.lookup f = some ⟨oc,od,.func fd,osl⟩ /\ PySem.W.codeIn K cdv qual = true
 kp:PySem.W.keepIn K (.ref f) = true
section
variable {P:Program} {w:World} {K:PySem.W.Frag} {mg:Str -> Option Value} {base:Heap}
theorem Fun.ok {x qual:Str} {st:Stmt} {f:Addr} {fd:FuncData} {N ps:List Str} {k:Nat} {sp:Sp} (F:Fun K x qual st f fd) (S:FnScope N ps (defScope st)) (len:∀ vs H Q E,sp vs H Q E -> vs.length = ps.length)
  (hbody:∀ (cdv:Value) (A:Around) (outer:List Env) (s:Shared) (H:Hp) (vs:List V) (Q:VK) (E:XK),Room k (A.deeper (envOfC qual (defScope st) s.heap.objs.size f cdv)) -> sp vs H Q E ->
   ∃ t,PSs (cxOf CX0 P w K mg base N qual (defScope st) f cdv A outer s H E).nox (defBody st) t /\ t { nx:=fun _ H'=>Q .non H',rt:=Q } (start N vs) H):FnOk P w K mg base CX0 (k + 1) f fd ps sp:=by
 obtain ⟨oc,od,kV,doc,pm,an,cdv,ct,osl,rfl,lk,hcd⟩:=F.ex
 refine fn_of lk hcd S len fun A outer s H vs Q E hr hsp=>?_
 obtain ⟨t,h,q⟩:=hbody cdv A outer s H vs Q E hr hsp
 exact ⟨t,h.nox,q⟩
theorem Fun.binds {x qual:Str} {st:Stmt} {f:Addr} {fd:FuncData} {ps:List Str} (F:Fun K x qual st f fd)
  (h:∀ (kV doc pm:Value) (an:Option Addr) (cdv ct:Value) (us:List Value),us.length = ps.length -> bindArgs (PySem.W.fnOf x qual (defArgs st) (defBody st) (defScope st) .none kV doc pm an cdv ct) ⟨us,[]⟩ = pure (ps.zip us)):Binds K fd ps []:=by
 obtain ⟨oc,od,kV,doc,pm,an,cdv,ct,osl,rfl,lk,hcd⟩:=F.ex
 exact .all (h kV doc pm an cdv ct)
theorem fun_mk {x qual:Str} {st:Stmt} {f:Addr} {oc:Value} {od an:Option Addr} {osl:Array (Option Value)} {kV doc pm cdv ct:Value} (l:K.lookup f = some ⟨oc,od,.func (PySem.W.fnOf x qual (defArgs st) (defBody st) (defScope st) .none kV doc pm an cdv ct),osl⟩)
  (c:PySem.W.codeIn K cdv qual = true) (k:PySem.W.keepIn K (.ref f) = true):Fun K x qual st f (PySem.W.fnOf x qual (defArgs st) (defBody st) (defScope st) .none kV doc pm an cdv ct):=⟨⟨oc,od,kV,doc,pm,an,cdv,ct,osl,rfl,l,c⟩,k⟩
end
section
variable {X:Cx}
theorem pv (i:Nat) {x:Str} {pos:Pos} (hN:X.N[i]? = some x:=by rfl) (hv:Vis X.env.scope x:=by first | exact Or.inl rfl | exact Or.inr (Or.inl rfl) | exact Or.inr (Or.inr rfl)) (hd:(x == ("__debug__" : Str)) = false:=by decide)
  (hcd:(x == ("__classdict__" : Str)) = false:=by decide):PE X (.Name x pos) (tVar i):=pe_var hN hv hd hcd
end
theorem ite2 {c A B:Prop} [Decidable c] (h1:c -> A) (h2:¬ c -> B):if c then A else B:=by
 by_cases h:c
 ·rw [if_pos h]
  exact h1 h
 ·rw [if_neg h]
  exact h2 h
def Same (H H':Hp):Prop:=∀ b o,H b = some o -> H' b = some o
theorem Same.refl (H:Hp):Same H H:=fun _ _ h=>h
theorem Same.trans {H H1 H2:Hp} (a:Same H H1) (b:Same H1 H2):Same H H2:=fun c o h=>b c o (a c o h)
theorem Same.free {H H':Hp} (e:Same H H') {l:Addr} (h:H' l = Option.none):H l = Option.none:=by
 cases q:H l with
 | none=>rfl
 | some o =>
  rw [e l o q] at h
  cases h
end L2
namespace L2
open PySem PySem.Spec PyProof.Rows
structure Cal (P:Program) (w:World) (K:PySem.W.Frag) (mg:Str -> Option Value) (base:Heap) (x:Str) (ps:List Str) (k:Nat) (sp:Sp):Prop where
 ex:∃ f fd,FnOk P w K mg base CX0 k f fd ps sp /\ mg x = some (.ref f) /\ PySem.W.keepIn K (.ref f) = true /\ Binds K fd ps []
section
variable {X:Cx} {x:Str} {p pos:Pos} {e:Expr} {es:List Expr} {t:TA} {ps:List Str} {k:Nat} {sp:Sp}
def tCal (sp:Sp) (t:TA):TE:=fun σ H Q=>t σ H fun vs H1=>sp vs H1 Q E0
theorem pe_cal (C:Cal X.prog X.w X.K X.mg X.base x ps k sp) (hr:Room k X.A) (hg:Gl X x) (ha:PA X (e :: es) t) (hdb:(x == ("__debug__" : Str)) = false:=by decide)
  (he:starEach (e :: es) X.env = (false,eval e X.env) :: starEach es X.env:=by rfl) (hpl:(backTo pos (starEach es X.env)).any (·.1) = false:=by rfl) :
  PE X (.Call (.Name x p) (e :: es) [] pos) (tCal sp t):=by
 obtain ⟨f,fd,F,hm,hk,hb⟩:=C.ex
 intro pins s σ H Q I h
 refine pe_call (E:=E0) (dvs:=[]) F hr hg hm hk hb .nil pass0 ha hdb he hpl pins s σ H Q I ?_
 show t σ H fun vs H1=>sp (vs ++ []) H1 Q E0
 have e:(fun (vs:List V) H1=>sp (vs ++ []) H1 Q E0) = fun vs H1=>sp vs H1 Q E0:=by
  funext vs H1
  rw [List.append_nil]
 rw [e]
 exact h
end
section
variable {X:Cx}
theorem op_mulX:OpR X (binaryOp .Mult) (rI IntMulOk fun i j=>.int (i * j)):=opI fun _ _ _ _ _ _ _ hc q=>mul_int q hc
def CDivX (_ j:Int):Prop:=j ≠ 0 /\ j.natAbs.log2 < 9000
theorem op_fdivX:OpR X (binaryOp .FloorDiv) (rI CDivX fun i j=>.int (i.fdiv j)):=opI fun _ _ _ _ _ _ _ hc q=>floordiv_int hc.1 q (.inl (PyProof.noPylong_of_log2 hc.2))
theorem op_modX:OpR X (binaryOp .Mod) (rI (fun _ j=>j ≠ 0) fun i j=>.int (i.fmod j)):=op_modN
end
theorem cxOf_K {CX:CXT} {P:Program} {w:World} {K:PySem.W.Frag} {mg:Str -> Option Value} {base:Heap} {N:List Str} {qual:Str} {scope:Scope} {f:Addr} {cd:Value} {A:Around} {outer:List Env} {s:Shared} {H:Hp} {E:XK} :
  (cxOf CX P w K mg base N qual scope f cd A outer s H E).K = K:=rfl
def absL:List Value -> Option (List V)
 | []=>some []
 | u :: us=>match absV u,absL us with
  | some x,some xs=>some (x :: xs)
  | _,_=>none
theorem absL_vals:∀ {us:List Value} {xs:List V},absL us = some xs -> Vals xs us
 | [],xs,h=>by cases h; exact .nil
 | u :: us,xs,h=>by
  unfold absL at h
  split at h
  ·rename_i x ys e1 e2
   cases h
   refine .cons ?_ (absL_vals e2)
   cases u <;> first | (cases e1; first | exact rfl | exact ⟨_,rfl⟩) | cases e1
  ·cases h
def kobj (o:Obj):Option HO:=match o.data with
 | .seq its _=>if o.cls = .type "tuple" /\ its.size <= sizeLine then (absL its.toList).map HO.tup else none
 | _=>none
def vw (K:PySem.W.Frag) (H:Hp):Hp:=fun a=>match K.lookup a with
 | some o=>kobj o
 | none=>H a
theorem kobj_tup {o:Obj} {u:HO} (h:kobj o = some u):∃ xs,u = .tup xs:=by
 unfold kobj at h
 split at h
 ·split at h
  ·cases e:absL _ with
   | none=>rw [e] at h; cases h
   | some xs=>rw [e] at h; cases h; exact ⟨xs,rfl⟩
  ·cases h
 ·cases h
theorem vw_new {K:PySem.W.Frag} {H:Hp} {a:Addr} (hk:K.lookup a = none):vw K H a = H a:=by
 unfold vw
 rw [hk]
theorem vw_tup {K:PySem.W.Frag} {H:Hp} {a:Addr} {xs:List V} (h:vw K H a = some (.tup xs)):SqT K H a xs:=by
 unfold vw at h
 split at h
 ·rename_i o ho
  unfold kobj at h
  split at h
  ·rename_i its n hd
   split at h
   ·rename_i hc
    cases e:absL its.toList with
    | none=>rw [e] at h; cases h
    | some ys =>
     rw [e] at h
     cases h
     exact .inr ⟨o,its,n,ho,hc.1,hd,hc.2,absL_vals e⟩
   ·cases h
  ·cases h
 ·exact .of h
theorem vw_get {K:PySem.W.Frag} {H:Hp} {a:Addr} {u:HO} (h:vw K H a = some u) (hu:∀ xs,u ≠ .tup xs):H a = some u:=by
 unfold vw at h
 split at h
 ·obtain ⟨xs,rfl⟩:=kobj_tup h
  exact absurd rfl (hu xs)
 ·exact h
theorem vw_lst {K:PySem.W.Frag} {H:Hp} {a:Addr} {xs:List V} (h:vw K H a = some (.lst xs)):H a = some (.lst xs):=vw_get h fun _ e=>by cases e
theorem vw_same {K:PySem.W.Frag} {H H':Hp} (S:Same H H'):Same (vw K H) (vw K H'):=fun b o e=>by
 unfold vw at e ⊢
 split at e
 ·exact e
 ·exact S _ _ e
def But (l:Addr) (H H':Hp):Prop:=∀ b o,b ≠ l -> H b = some o -> H' b = some o
theorem vw_but {K:PySem.W.Frag} {l:Addr} {H H':Hp} (S:But l H H'):But l (vw K H) (vw K H'):=fun b o hb e=>by
 unfold vw at e ⊢
 split at e
 ·exact e
 ·exact S _ _ hb e
theorem Inv.noK {X:Cx} {pins:List (Addr × Obj)} {σ:St} {H:Hp} {s:Shared} {p:Addr} {o:HO} (I:Inv X pins σ H s) (h:H p = some o):X.K.lookup p = none:=by
 cases e:X.K.lookup p with
 | none=>rfl
 | some ob =>
  have:=(I.bs p ob (I.mod.kin p ob e)).2
  rw [h] at this
  cases this
theorem Inv.newK {X:Cx} {pins:List (Addr × Obj)} {σ:St} {H:Hp} {s:Shared} {p:Addr} (I:Inv X pins σ H s) (hp:s.heap.objs.size <= p):X.K.lookup p = none:=by
 cases e:X.K.lookup p with
 | none=>rfl
 | some o=>exact absurd (Nat.lt_of_lt_of_le (Heap.lt_size (I.kIn p o e)) hp) (Nat.lt_irrefl _)
def Kf (K:PySem.W.Frag) (v:V) (H:Hp):Prop:=∀ p o,v = .ref p -> H p = some o -> K.lookup p = none
section
variable {X:Cx}
theorem OpR.kf {f:Value -> Value -> Sem Value} {r:R2} (h:OpR X f r):OpR X f (fun x y H Q=>r x y H fun v H'=>Kf X.K v H' -> Q v H'):=fun pins s σ H x y v u Q I rx ry q =>
 thn (h pins s σ H x y v u _ I rx ry q) fun u' s' ⟨v',H',I',r',q'⟩=>⟨v',H',I',r',q' fun p o _ hp=>I'.noK hp⟩
theorem CallR.kf {f:Value} {r:List V -> Hp -> VK -> Prop} (h:CallR X f r):CallR X f (fun xs H Q=>r xs H fun v H'=>Kf X.K v H' -> Q v H'):=fun pins s σ H xs us Q I rs q =>
 thn (h pins s σ H xs us _ I rs q) fun u' s' ⟨v',H',I',r',q'⟩=>⟨v',H',I',r',q' fun p o _ hp=>I'.noK hp⟩
theorem SlR.kf {r:V -> Option Int -> Option Int -> Hp -> VK -> Prop} (h:SlR X r):SlR X (fun x a b H Q=>r x a b H fun v H'=>Kf X.K v H' -> Q v H'):=by
 intro pins s σ H x v vl vu lo hi sl Q I rx hs pl pu q
 obtain ⟨T,id,e1,e2,e3⟩:=h pins s σ H x v vl vu lo hi sl _ I rx hs pl pu q
 exact ⟨T,id,e1,e2,thn e3 fun u' s' ⟨v',H',I',r',q'⟩=>⟨v',H',I',r',q' fun p o _ hp=>I'.noK hp⟩⟩
end
theorem Same.upd {H:Hp} {p:Addr} {o:HO} (hp:H p = none):Same H (upd H p o):=fun b u e=>by
 rw [upd_ne (ne_of_none e hp)]
 exact e
theorem But.upd {H:Hp} {l:Addr} {o:HO}:But l H (upd H l o):=fun b u hb e=>by
 rw [upd_ne hb]
 exact e
theorem Same.but {H H':Hp} (h:Same H H') (l:Addr):But l H H':=fun b o _ e=>h b o e
theorem But.trans {l:Addr} {H H1 H2:Hp} (a:But l H H1) (b:But l H1 H2):But l H H2:=fun c o hc h=>b c o hc (a c o hc h)
theorem Inv.big {X:Cx} {pins:List (Addr × Obj)} {σ:St} {H:Hp} {s:Shared} (I:Inv X pins σ H s):sysModules < s.heap.objs.size:=by
 have h:mainGlobals < s.heap.objs.size:=(I.mod.glob.keeps I.bk).lt
 exact Nat.lt_trans (by decide) h
theorem dk_empty {P:Program} {w:World} {H:Hp} (h:Heap) (hb:sysModules < h.objs.size):ObjOk P w H (h.push { cls:=.type "dict",data:=.dict #[] }) h.objs.size (.dK []) :=
 ⟨Nat.zero_le _,beq_eq_false_iff_ne.mpr (Ne.symm (Nat.ne_of_lt hb)),[],.nil,Heap.DictOf.new h⟩
def tyN (H:Hp):V -> Option String
 | .non=>some "NoneType"
 | .bl _=>some "bool"
 | .int _=>some "int"
 | .str _=>some "str"
 | .ref a=>match H a with
  | some (.lst _)=>some "list"
  | some (.frz _ (.lst _))=>some "list"
  | some (.tup _)=>some "tuple"
  | some (.dK _)=>some "dict"
  | _=>none
 | _=>none
def instN (n c:String):Bool:=n == c || (n == "bool" && c == "int")
def TyName (n:String):Prop:=n = "NoneType" \/ n = "bool" \/ n = "int" \/ n = "str" \/ n = "list" \/ n = "tuple" \/ n = "dict"
def TyAsk (c:String):Prop:=c = "bool" \/ c = "int" \/ c = "list" \/ c = "tuple" \/ c = "str" \/ c = "dict"
theorem kit_names {K:PySem.W.Frag} {n c:String} (hn:TyName n) (hc:TyAsk c):PySem.W.kitOne K (.type n) (.type c) = some (instN n c):=by
 rcases hn with rfl | rfl | rfl | rfl | rfl | rfl | rfl <;> rcases hc with rfl | rfl | rfl | rfl | rfl | rfl <;> rfl
section
variable {X:Cx}
theorem call_isinst:CallR X (.builtin "isinstance") (fun xs H Q=>∃ x c n,xs = [x,.ty c] /\ TyAsk c /\ tyN (vw X.K H) x = some n /\ Q (.bl (instN n c)) H):=by
 intro pins s σ H xs us Q I r h
 obtain ⟨x,c,n,rfl,hc,hn,q⟩:=h
 obtain ⟨u,w',rfl,rx,ry⟩:=vals2 r
 cases ry
 have fin:∀ tk,EP X pins σ Q (.bool (instN n c)) { s with toks:=tk }:=fun tk=>⟨.bl _,H,I.tok tk,rfl,q⟩
 cases x with
 | non=>cases hn; exact isinst_ok I rx .non (kit_names (.inl rfl) hc) fin
 | bl b=>cases hn; exact isinst_ok I rx (.bl b) (kit_names (.inr (.inl rfl)) hc) fin
 | int b=>cases hn; exact isinst_ok I rx (.int b) (kit_names (.inr (.inr (.inl rfl))) hc) fin
 | str b=>cases hn; exact isinst_ok I rx (.str b) (kit_names (.inr (.inr (.inr (.inl rfl)))) hc) fin
 | flt b=>cases hn
 | byt b=>cases hn
 | ty b=>cases hn
 | ref a =>
  unfold tyN at hn
  dsimp only at hn
  split at hn
  ·rename_i e; cases hn; exact isinst_ok I rx (.lst (vw_lst e)) (kit_names (.inr (.inr (.inr (.inr (.inl rfl))))) hc) fin
  ·rename_i e; cases hn; exact isinst_ok I rx (.frz (vw_get e fun _ z=>by cases z)) (kit_names (.inr (.inr (.inr (.inr (.inl rfl))))) hc) fin
  ·rename_i ys e
   cases hn
   cases (show u = Value.ref a from rx)
   obtain ⟨its,rv,p,hz⟩:=I.tuple (vw_tup e)
   obtain ⟨o,h1,h2,_⟩:=p
   exact PySem.W.kia_one PySem.W.kitx_tuple I.kIn ⟨o,h1,h2⟩ (kit_names (.inr (.inr (.inr (.inr (.inr (.inl rfl)))))) hc) (fun z=>nomatch z) fin
  ·rename_i e; cases hn; exact isinst_ok I rx (.dK (vw_get e fun _ z=>by cases z)) (kit_names (.inr (.inr (.inr (.inr (.inr (.inr rfl)))))) hc) fin
  ·cases hn
end
theorem ask_int:TyAsk "int":=.inr (.inl rfl)
theorem ask_bool:TyAsk "bool":=.inl rfl
theorem ask_list:TyAsk "list":=.inr (.inr (.inl rfl))
theorem ask_tuple:TyAsk "tuple":=.inr (.inr (.inr (.inl rfl)))
theorem bt_abs:bootBuiltins "abs" = some (.builtin "abs"):=by decide +kernel
theorem bt_len:bootBuiltins "len" = some (.builtin "len"):=by decide +kernel
theorem bt_isinstance:bootBuiltins "isinstance" = some (.builtin "isinstance"):=by decide +kernel
theorem bt_max:bootBuiltins "max" = some (.builtin "max"):=by decide +kernel
theorem bt_min:bootBuiltins "min" = some (.builtin "min"):=by decide +kernel
theorem bt_all:bootBuiltins "all" = some (.builtin "all"):=by decide +kernel
theorem bt_bool:bootBuiltins "bool" = some (.type "bool"):=by decide +kernel
theorem bt_list:bootBuiltins "list" = some (.type "list"):=by decide +kernel
theorem bt_tuple:bootBuiltins "tuple" = some (.type "tuple"):=by decide +kernel
theorem bt_zip:bootBuiltins "zip" = some (.type "zip"):=by decide +kernel
section
variable {X:Cx}
theorem IxR.imp {r r':R2} (h:IxR X r) (hi:∀ x y H Q,r' x y H Q -> r x y H Q):IxR X r':=fun v sl pins s σ H x y vv u Q I rx ry q hs=>h v sl pins s σ H x y vv u Q I rx ry (hi _ _ _ _ q) hs
theorem CallR.imp {f:Value} {r r':List V -> Hp -> VK -> Prop} (h:CallR X f r) (hi:∀ xs H Q,r' xs H Q -> r xs H Q):CallR X f r':=fun pins s σ H xs us Q I rs q=>h pins s σ H xs us Q I rs (hi _ _ _ q)
def rIxH (K:PySem.W.Frag):R2:=fun x y H Q=>∃ p i,x = .ref p /\ y = .int i /\ ∃ xs,vw K H p = some (.lst xs) /\ ∃ v,atI xs i = some v /\ Q v H
def rIxU (K:PySem.W.Frag):R2:=fun x y H Q=>∃ p i,x = .ref p /\ y = .int i /\ ∃ xs,vw K H p = some (.tup xs) /\ ∃ v,atI xs i = some v /\ Q v H
theorem ix_h:IxR X (rIxH X.K):=ix_list.imp fun _ _ _ _ ⟨p,i,e1,e2,xs,e3,v,e4,q⟩=>⟨p,xs,i,v,e1,e2,.of (vw_lst e3),e4,q⟩
theorem ix_u:IxR X (rIxU X.K):=ix_tup.imp fun _ _ _ _ ⟨p,i,e1,e2,xs,e3,v,e4,q⟩=>⟨p,xs,i,v,e1,e2,vw_tup e3,e4,q⟩
def lenH (H:Hp) (p:Addr):Option Nat:=match H p with
 | some (.lst xs)=>some xs.length
 | some (.frz _ (.lst xs))=>some xs.length
 | some (.tup xs)=>some xs.length
 | _=>none
theorem call_lenH:CallR X (.builtin "len") (fun xs H Q=>∃ p,xs = [.ref p] /\ ∃ n:Nat,lenH (vw X.K H) p = some n /\ Q (.int n) H):=call_len_seq.imp fun xs H Q ⟨p,e,n,hn,q⟩=>by
 unfold lenH at hn
 split at hn
 ·rename_i ys hp
  cases hn
  exact ⟨p,ys,e,.inl (.of (vw_lst hp)),q⟩
 ·rename_i o ys hp
  cases hn
  exact ⟨p,ys,e,.inl (.inl (.inr ⟨o,vw_get hp fun _ z=>by cases z⟩)),q⟩
 ·rename_i ys hp
  cases hn
  exact ⟨p,ys,e,.inr (vw_tup hp),q⟩
 ·cases hn
def gTupH (K:PySem.W.Frag) (n:Nat) (t:TGs):TG:=fun v σ H Q=>∃ a,v = .ref a /\ ∃ xs,vw K H a = some (.tup xs) /\ xs.length = n /\ t xs σ H Q
theorem pg_tupH {es:List Expr} {k:Nat} {t:TGs} {n:Nat} {pos:Pos} (hc:X.calm = true) (h:PGs X es t)
  (hn:(assignEach es X.env).length = n:=by rfl) (hst:(assignEach es X.env).findIdx? (·.1) = none:=by rfl):PG X (.Tuple es k pos) (gTupH X.K n t) :=
 fun pins s σ H v u Q I r ⟨a,e,xs,hx,hl,q⟩=>pg_tup hc h hn hst pins s σ H v u Q I r ⟨a,xs,e,vw_tup hx,hl,q⟩
theorem atI_0 {α:Type} {x:α} {xs:List α}:atI (x :: xs) 0 = some x:=atI_nat (j:=0) rfl
theorem atI_1 {α:Type} {x y:α} {xs:List α}:atI (x :: y :: xs) 1 = some y:=atI_nat (j:=1) rfl
theorem atI_2 {α:Type} {x y z:α} {xs:List α}:atI (x :: y :: z :: xs) 2 = some z:=atI_nat (j:=2) rfl
theorem atI_mem {α:Type} {xs:List α} {r:Int} (h0:0 <= r) (h1:r < xs.length):∃ v,atI xs r = some v /\ v ∈ xs:=by
 have h2:r.toNat < xs.length:=by walk_at "o"
 refine ⟨xs[r.toNat],?_,List.getElem_mem h2⟩
 have e:=atI_nat (xs:=xs) (j:=r.toNat) (v:=xs[r.toNat]) (List.getElem?_eq_getElem h2)
 rw [show ((r.toNat:Nat):Int) = r by walk_at "o"] at e
 exact e
theorem Same.but_trans {H H1 H2:Hp} {st:Addr} (s:Same H H1) (hn:H st = none) (b:But st H1 H2):Same H H2:=fun c o e=>b c o (ne_of_none e hn) (s c o e)
theorem But.same_trans {H H1 H2:Hp} {st:Addr} (b:But st H H1) (s:Same H1 H2):But st H H2:=b.trans (s.but st)
theorem ixN_2_0:ixN 2 0 = some 0:=rfl
theorem TruV_bl {K:PySem.W.Frag} {b k:Bool} {H:Hp}:TruV K (.bl b) H k = (k = b):=rfl
theorem TruV_int {K:PySem.W.Frag} {i:Int} {k:Bool} {H:Hp}:TruV K (.int i) H k = (k = (i != 0)):=rfl
theorem CPow_of {i j:Int} (h:0 <= j /\ j <= 1000000 /\ i.natAbs < 2 ^ 64):CPow i j:=h
end
def Nw (K:PySem.W.Frag) (H:Hp) (o:HO) (Q:VK):Prop:=∀ p H2,vw K H p = none -> Same (vw K H) (vw K H2) -> vw K H2 p = some o -> Q (.ref p) H2
theorem Nw.ok {K:PySem.W.Frag} {H:Hp} {o:HO} {Q:VK} (h:Nw K H o Q) {p:Addr} (hk:K.lookup p = none) (hp:H p = none):Q (.ref p) (upd H p o) :=
 h p _ (by rw [vw_new hk]; exact hp) (vw_same (Same.upd hp)) (by rw [vw_new hk]; exact upd_same)
theorem Nw.al {K:PySem.W.Frag} {H:Hp} {o:HO} {Q:VK} (h:Nw K H o Q):∀ p,H p = none -> Kf K (.ref p) (upd H p o) -> Q (.ref p) (upd H p o):=fun p hp hk=>h.ok (hk p _ rfl upd_same) hp
def tTupS (K:PySem.W.Frag) (t:TA):TE:=fun σ H Q=>t σ H fun xs H1=>xs.length <= sizeLine /\ Nw K H1 (.tup xs) Q
def tLstS (K:PySem.W.Frag) (t:TA):TE:=fun σ H Q=>t σ H fun xs H1=>xs.length <= sizeLine /\ Nw K H1 (.lst xs) Q
def tDctS (K:PySem.W.Frag):TE:=fun _ H Q=>Nw K H (.dK []) Q
section
variable {X:Cx} {es:List Expr} {t:TA} {pos:Pos}
theorem pe_tupS {x1} (h:PA X es t):PE X (.Tuple es x1 pos) (tTupS X.K t):=by
 intro pins s σ H Q I hq
 refine wpAny_Tuple_spliced (thn (h pos pins s σ H _ I hq) fun us s1 ⟨xs,H1,I1,r,z,q⟩=>⟨by rw [<- r.length]; exact z,?_⟩)
 have hf:H1 s1.heap.objs.size = none:=I1.hok.fresh (Nat.le_refl _)
 refine ⟨.ref s1.heap.objs.size,upd H1 s1.heap.objs.size (.tup xs),I1.laid (t':=s1.toks) (fun b u e=>Heap.get?_push_of_some _ e) (Nat.le_refl _) ?_,rfl,q.ok (I1.newK (Nat.le_refl _)) hf⟩
 exact ⟨z,us,r,⟨_,Heap.get?_push_size _ rfl,rfl,_,rfl⟩⟩
theorem pe_lstS (h:PA X es t):PE X (.List es pos) (tLstS X.K t):=by
 intro pins s σ H Q I hq
 refine wpAny_List_spliced (thn (h pos pins s σ H _ I hq) fun us s1 ⟨xs,H1,I1,r,z,q⟩=>⟨by rw [<- r.length]; exact z,?_⟩)
 have hf:H1 s1.heap.objs.size = none:=I1.hok.fresh (Nat.le_refl _)
 refine ⟨.ref s1.heap.objs.size,upd H1 s1.heap.objs.size (.lst xs),I1.laid (t':=s1.toks) (fun b u e=>Heap.get?_push_of_some _ e) (Nat.le_refl _) ?_,rfl,q.ok (I1.newK (Nat.le_refl _)) hf⟩
 exact ⟨z,us,0,r,Heap.get?_push_size _ rfl⟩
theorem OpR.imp {f:Value -> Value -> Sem Value} {r r':R2} (h:OpR X f r) (hi:∀ x y H Q,r' x y H Q -> r x y H Q):OpR X f r':=fun pins s σ H x y v u Q I rx ry q=>h pins s σ H x y v u Q I rx ry (hi _ _ _ _ q)
def rCatS (K:PySem.W.Frag):R2:=fun x y H Q=>∃ l b,x = .ref l /\ y = .ref b /\ ∃ xs,vw K H l = some (.lst xs) /\ ∃ zs,vw K H b = some (.lst zs) /\ xs.length + zs.length <= sizeLine /\ Nw K H (.lst (xs ++ zs)) Q
theorem op_catS:OpR X (binaryOp .Add) (rCatS X.K):=op_cat.kf.imp fun _ _ _ _ ⟨l,b,e1,e2,xs,h1,zs,h2,z,q⟩=>⟨l,b,xs,zs,e1,e2,vw_lst h1,vw_lst h2,z,q.al⟩
def rRepS (K:PySem.W.Frag):R2:=fun x y H Q=>∃ l k,x = .ref l /\ y = .int k /\ ∃ xs,vw K H l = some (.lst xs) /\ -(2 ^ 63) <= k /\ k < 2 ^ 63 /\ xs.length * k.toNat <= sizeLine /\ Nw K H (.lst (List.replicate k.toNat xs).flatten) Q
theorem op_repS:OpR X (binaryOp .Mult) (rRepS X.K):=op_rep.kf.imp fun _ _ _ _ ⟨l,k,e1,e2,xs,h1,z1,z2,z3,q⟩=>⟨l,k,xs,e1,e2,vw_lst h1,z1,z2,z3,q.al⟩
def rMul (K:PySem.W.Frag):R2:=fun x y H Q=>rI IntMulOk (fun i j=>.int (i * j)) x y H Q \/ rRepS K x y H Q
def rPlus (K:PySem.W.Frag):R2:=fun x y H Q=>rI0 (fun i j=>.int (i + j)) x y H Q \/ rCatS K x y H Q
theorem op_Mul:OpR X (binaryOp .Mult) (rMul X.K):=op_mulX.or op_repS
theorem op_Plus:OpR X (binaryOp .Add) (rPlus X.K):=op_add.or op_catS
theorem rMul_int {K:PySem.W.Frag} {i j:Int} {H:Hp} {Q:VK}:rMul K (.int i) (.int j) H Q = (IntMulOk i j /\ Q (.int (i * j)) H):=by
 simp [rMul,rI,rRepS]
theorem rMul_rep {K:PySem.W.Frag} {l:Addr} {j:Int} {H:Hp} {Q:VK}:rMul K (.ref l) (.int j) H Q = ∃ xs,vw K H l = some (.lst xs) /\ -(2 ^ 63) <= j /\ j < 2 ^ 63 /\ xs.length * j.toNat <= sizeLine /\ Nw K H (.lst (List.replicate j.toNat xs).flatten) Q:=by
 simp [rMul,rI,rRepS]
theorem rPlus_int {K:PySem.W.Frag} {i j:Int} {H:Hp} {Q:VK}:rPlus K (.int i) (.int j) H Q = Q (.int (i + j)) H:=by
 simp [rPlus,rI0,rCatS]
theorem rPlus_cat {K:PySem.W.Frag} {l b:Addr} {H:Hp} {Q:VK}:rPlus K (.ref l) (.ref b) H Q = ∃ xs,vw K H l = some (.lst xs) /\ ∃ zs,vw K H b = some (.lst zs) /\ xs.length + zs.length <= sizeLine /\ Nw K H (.lst (xs ++ zs)) Q:=by
 simp [rPlus,rI0,rCatS]
theorem call_listS:CallR X (.type "list") (fun xs H Q=>∃ p,xs = [.ref p] /\ ∃ ys,vw X.K H p = some (.lst ys) /\ Nw X.K H (.lst ys) Q):=call_list_of.kf.imp fun _ _ _ ⟨p,e,ys,h,q⟩=>⟨p,ys,e,.inl (.of (vw_lst h)),q.al⟩
theorem SlR.imp {r r':V -> Option Int -> Option Int -> Hp -> VK -> Prop} (h:SlR X r) (hi:∀ x a b H Q,r' x a b H Q -> r x a b H Q):SlR X r':=by
 intro value p2 pins s σ H x lo hi' v vl vh sl Q
 intros
 apply h <;> first | assumption | (apply hi; assumption)
def rSlS (K:PySem.W.Frag):V -> Option Int -> Option Int -> Hp -> VK -> Prop:=fun x lo hi H Q=>∃ a,x = .ref a /\ ∃ xs,vw K H a = some (.lst xs) /\ Nw K H (.lst (cutV xs lo hi)) Q
theorem sl_listS:SlR X (rSlS X.K):=sl_list.kf.imp fun _ _ _ _ _ ⟨a,e,xs,h,q⟩=>⟨a,xs,e,.of (vw_lst h),q.al⟩
def Chg (K:PySem.W.Frag) (H:Hp) (l:Addr) (o:HO) (Q:Hp -> Prop):Prop:=∀ H2,But l (vw K H) (vw K H2) -> vw K H2 l = some o -> Q H2
theorem Chg.ok {K:PySem.W.Frag} {H:Hp} {l:Addr} {o:HO} {Q:Hp -> Prop} (h:Chg K H l o Q) (hk:K.lookup l = none):Q (upd H l o):=h _ (vw_but But.upd) (by rw [vw_new hk]; exact upd_same)
def rSetS (K:PySem.W.Frag):V -> V -> V -> Hp -> (Hp -> Prop) -> Prop:=fun o i v H Q=>∃ p k,o = .ref p /\ i = .int k /\ ∃ xs,vw K H p = some (.lst xs) /\ ∃ j,ixN xs.length k = some j /\ Chg K H p (.lst (xs.set j v)) Q
theorem set_listS:PSet X (rSetS X.K):=fun pins s σ H o i v ov iv u Q I ro ri rv ⟨p,k,e1,e2,xs,h,j,e3,q⟩=>set_list pins s σ H o i v ov iv u Q I ro ri rv ⟨p,xs,k,j,e1,e2,vw_lst h,e3,q.ok (I.noK (vw_lst h))⟩
def rAppS (K:PySem.W.Frag):V -> List V -> Hp -> VK -> Prop:=fun x vs H Q=>∃ l y,x = .ref l /\ vs = [y] /\ ∃ xs,vw K H l = some (.lst xs) /\ xs.length < sizeLine /\ Chg K H l (.lst (xs ++ [y])) (Q .non)
theorem mt_appendS:MtM X "list.append" (rAppS X.K):=fun pins s σ H x vs v us Q I rx rv ⟨l,y,e1,e2,xs,h,z,q⟩=>mt_append pins s σ H x vs v us Q I rx rv ⟨l,xs,y,e1,e2,vw_lst h,z,q.ok (I.noK (vw_lst h))⟩
def rPopS (K:PySem.W.Frag):V -> List V -> Hp -> VK -> Prop:=fun x vs H Q=>∃ l,x = .ref l /\ vs = [] /\ ∃ xs,vw K H l = some (.lst xs) /\ ∃ y,xs[xs.length - 1]? = some y /\ Chg K H l (.lst xs.dropLast) (Q y)
theorem mt_popS:MtM X "list.pop" (rPopS X.K):=fun pins s σ H x vs v us Q I rx rv ⟨l,e1,e2,xs,h,y,e3,q⟩=>mt_pop pins s σ H x vs v us Q I rx rv ⟨l,xs,y,e1,e2,vw_lst h,e3,q.ok (I.noK (vw_lst h))⟩
end
def ForOK (J:It) (g:TG) (tb:TS) (D:Ends) (σ:St) (H1:Hp):Prop:=∃ W:Nat -> Nat -> St -> Hp -> Prop,(∃ m,W 0 m σ H1) /\ ∀ i m σ H,W i m σ H ->
 (J.stop i H /\ D.nx σ H) \/ (J.go i H /\ ∃ N:St -> Hp -> Prop,(∀ σ' H',N σ' H' -> ∃ m',m' < m /\ W (i + 1) m' σ' H') /\ ∀ x H',J.yld i H x H' -> g x σ H' fun σ2 H2=>tb { D with nx:=N,ct:=N,bk:=D.nx } σ2 H2)
theorem tFor_eq (wi:TI) (g:TG) (tb:TS) (D:Ends) (σ:St) (H:Hp):tFor wi g tb D σ H = wi σ H fun J H1=>ForOK J g tb D σ H1:=rfl
end L2
namespace L2
open PySem PySem.Spec PyProof.Rows
inductive D where
 | non | bl (b:Bool) | int (i:Int) | str (x:Str) | dict | tup (ds:List D) | lst (ds:List D)
mutual
def Rep (H:Hp):D -> V -> Prop
 | .non,v=>v = .non
 | .bl b,v=>v = .bl b
 | .int i,v=>v = .int i
 | .str x,v=>v = .str x
 | .dict,v=>∃ a kvs,v = .ref a /\ H a = some (.dK kvs)
 | .tup ds,v=>∃ a xs,v = .ref a /\ H a = some (.tup xs) /\ Reps H ds xs
 | .lst ds,v=>∃ a xs,v = .ref a /\ H a = some (.lst xs) /\ Reps H ds xs
def Reps (H:Hp):List D -> List V -> Prop
 | [],xs=>xs = []
 | d :: ds,xs=>∃ x r,xs = x :: r /\ Rep H d x /\ Reps H ds r
end
mutual
theorem Rep.same {H H':Hp} (S:Same H H'):∀ (d:D) (v:V),Rep H d v -> Rep H' d v
 | .non,v,h=>by unfold Rep at h ⊢; exact h
 | .bl b,v,h=>by unfold Rep at h ⊢; exact h
 | .int i,v,h=>by unfold Rep at h ⊢; exact h
 | .str x,v,h=>by unfold Rep at h ⊢; exact h
 | .dict,v,h=>by
  unfold Rep at h ⊢
  obtain ⟨a,kvs,e,h⟩:=h
  exact ⟨a,kvs,e,S _ _ h⟩
 | .tup ds,v,h=>by
  unfold Rep at h ⊢
  obtain ⟨a,xs,e,h,r⟩:=h
  exact ⟨a,xs,e,S _ _ h,Reps.same S ds xs r⟩
 | .lst ds,v,h=>by
  unfold Rep at h ⊢
  obtain ⟨a,xs,e,h,r⟩:=h
  exact ⟨a,xs,e,S _ _ h,Reps.same S ds xs r⟩
theorem Reps.same {H H':Hp} (S:Same H H'):∀ (ds:List D) (xs:List V),Reps H ds xs -> Reps H' ds xs
 | [],xs,h=>by unfold Reps at h ⊢; exact h
 | d :: ds,xs,h=>by
  unfold Reps at h ⊢
  obtain ⟨x,r,e,h1,h2⟩:=h
  exact ⟨x,r,e,Rep.same S d x h1,Reps.same S ds r h2⟩
end
theorem Reps.get {H:Hp}:∀ {ds:List D} {xs:List V} {i:Nat} {x:V},Reps H ds xs -> xs[i]? = some x -> ∃ d,ds[i]? = some d /\ Rep H d x
 | [],xs,i,x,h,e=>by
  unfold Reps at h
  subst h
  simp at e
 | d :: ds,xs,i,x,h,e=>by
  unfold Reps at h
  obtain ⟨y,r,rfl,h1,h2⟩:=h
  cases i with
  | zero =>
   have e':y = x:=by simpa using e
   subst e'
   exact ⟨d,by simp,h1⟩
  | succ i =>
   obtain ⟨d',e1,e2⟩:=Reps.get (i:=i) h2 (by simpa using e)
   exact ⟨d',by simpa using e1,e2⟩
theorem Reps.length {H:Hp}:∀ {ds:List D} {xs:List V},Reps H ds xs -> xs.length = ds.length
 | [],xs,h=>by
  unfold Reps at h
  subst h
  rfl
 | d :: ds,xs,h=>by
  unfold Reps at h
  obtain ⟨y,r,rfl,_,h2⟩:=h
  simp [Reps.length h2]
def D.ty:D -> String
 | .non=>"NoneType" | .bl _=>"bool" | .int _=>"int" | .str _=>"str" | .dict=>"dict" | .tup _=>"tuple" | .lst _=>"list"
theorem Rep.ty {H:Hp} {d:D} {v:V} (h:Rep H d v):tyN H v = some d.ty:=by
 cases d <;> unfold Rep at h
 ·subst h; rfl
 ·subst h; rfl
 ·subst h; rfl
 ·subst h; rfl
 ·obtain ⟨a,kvs,rfl,h⟩:=h
  simp only [tyN,h,D.ty]
 ·obtain ⟨a,xs,rfl,h,_⟩:=h
  simp only [tyN,h,D.ty]
 ·obtain ⟨a,xs,rfl,h,_⟩:=h
  simp only [tyN,h,D.ty]
theorem gcd_fmod (a b:Int):Int.gcd b (a.fmod b) = Int.gcd a b:=by
 rw [Int.fmod_def,Int.gcd_comm a b]
 have:a - b * a.fdiv b = a + b * (- a.fdiv b):=by rw [Int.mul_neg]; walk_at "o"
 rw [this]
 simp
theorem fmod_lt (a:Int) {b:Int} (hb:b ≠ 0):(a.fmod b).natAbs < b.natAbs:=by
 rcases Int.lt_or_gt_of_ne hb with h | h
 ·obtain ⟨n,rfl⟩ : ∃ n:Nat,b = Int.negSucc n:=⟨(-b - 1).toNat,by walk_at "o"⟩
  cases a with
  | ofNat m =>
   cases m with
   | zero=>simp [Int.fmod]
   | succ m =>
    show (Int.subNatNat (m % (n + 1)) n).natAbs < n + 1
    have:=Nat.mod_lt m (show 0 < n + 1 by walk_at "o")
    rw [Int.subNatNat_eq_coe]
    generalize m % (n + 1) = z at *
    walk_at "o"
  | negSucc m =>
   show (-((((m + 1) % (n + 1):Nat)):Int)).natAbs < n + 1
   have:=Nat.mod_lt (m + 1) (show 0 < n + 1 by walk_at "o")
   generalize (m + 1) % (n + 1) = z at *
   walk_at "o"
 ·have h1:=Int.fmod_nonneg_of_pos a h
  have h2:=Int.fmod_lt_of_pos a h
  walk_at "o"
def lg (a b:Int):Int:=if b < 0 then -(Int.gcd a b:Int) else (Int.gcd a b:Int)
def lo (a b:Int):Int × Int:=(a.fdiv (lg a b),b.fdiv (lg a b))
def fr (q:Int × Int):D:=.tup [.int q.1,.int q.2]
def Fq (q:Int × Int):Prop:=0 < q.2 /\ Int.gcd q.1 q.2 = 1
theorem lg_ne {a b:Int} (hb:b ≠ 0):lg a b ≠ 0:=by
 have h:Int.gcd a b ≠ 0:=fun e=>hb (Int.gcd_eq_zero_iff.mp e).2
 unfold lg
 split <;> walk_at "o"
theorem lg_dvd_left (a b:Int):lg a b ∣ a:=by
 unfold lg
 split
 ·exact Int.neg_dvd.mpr (Int.gcd_dvd_left ..)
 ·exact Int.gcd_dvd_left ..
theorem lg_dvd_right (a b:Int):lg a b ∣ b:=by
 unfold lg
 split
 ·exact Int.neg_dvd.mpr (Int.gcd_dvd_right ..)
 ·exact Int.gcd_dvd_right ..
theorem lo_mul_left {a b:Int} (hb:b ≠ 0):(lo a b).1 * lg a b = a:=by
 show a.fdiv (lg a b) * lg a b = a
 exact Int.fdiv_mul_cancel (lg_dvd_left a b)
theorem lo_mul_right {a b:Int} (hb:b ≠ 0):(lo a b).2 * lg a b = b:=by
 show b.fdiv (lg a b) * lg a b = b
 exact Int.fdiv_mul_cancel (lg_dvd_right a b)
theorem lg_natAbs (a b:Int):(lg a b).natAbs = Int.gcd a b:=by
 unfold lg
 split <;> walk_at "o"
theorem lo_Fq {a b:Int} (hb:b ≠ 0):Fq (lo a b):=by
 have h1:=lo_mul_left (a:=a) hb
 have h2:=lo_mul_right (a:=a) hb
 have hg:0 < Int.gcd a b:=Nat.pos_of_ne_zero fun e=>hb (Int.gcd_eq_zero_iff.mp e).2
 constructor
 ·by_cases hn:b < 0
  ·have e:lg a b = -(Int.gcd a b:Int):=if_pos hn
   rw [e] at h2
   rcases Int.lt_trichotomy (lo a b).2 0 with h | h | h
   ·have:=Int.mul_nonneg_of_nonpos_of_nonpos (Int.le_of_lt h) (show -(Int.gcd a b:Int) <= 0 by walk_at "o")
    walk_at "o"
   ·rw [h] at h2; walk_at "o"
   ·exact h
  ·have e:lg a b = (Int.gcd a b:Int):=if_neg hn
   rw [e] at h2
   rcases Int.lt_trichotomy (lo a b).2 0 with h | h | h
   ·have:=Int.mul_nonpos_of_nonpos_of_nonneg (Int.le_of_lt h) (show 0 <= (Int.gcd a b:Int) by walk_at "o")
    walk_at "o"
   ·rw [h] at h2; walk_at "o"
   ·exact h
 ·have e:Int.gcd ((lo a b).1 * lg a b) ((lo a b).2 * lg a b) = Int.gcd (lo a b).1 (lo a b).2 * (lg a b).natAbs:=Int.gcd_mul_right ..
  rw [h1,h2,lg_natAbs] at e
  have:1 * Int.gcd a b = Int.gcd (lo a b).1 (lo a b).2 * Int.gcd a b:=by walk_at "o"
  exact (Nat.eq_of_mul_eq_mul_right hg this).symm
mutual
def D.noSt:D -> Bool
 | .lst [.int _,.bl _]=>false
 | .lst ds=>D.noSts ds
 | .tup ds=>D.noSts ds
 | _=>true
def D.noSts:List D -> Bool
 | []=>true
 | d :: ds=>d.noSt && D.noSts ds
end
def StOk (H:Hp) (st:Addr):Prop:=∃ x b,H st = some (.lst [.int x,.bl b]) /\ (b = false -> 0 <= x /\ x < 2147483647)
theorem Rep.lst_st {H:Hp} {ds:List D} {x:Int} {b:Bool} (h:Reps H ds [.int x,.bl b]):ds = [.int x,.bl b]:=by
 match ds with
 | []=>unfold Reps at h; cases h
 | [d] =>
  unfold Reps at h
  obtain ⟨_,_,e,_,h⟩:=h
  unfold Reps at h
  subst h
  cases e
 | d1 :: d2 :: d3 :: r =>
  have:=Reps.length h
  simp at this
 | [d1,d2] =>
  unfold Reps at h
  obtain ⟨_,_,e,h1,h⟩:=h
  cases e
  unfold Reps at h
  obtain ⟨_,_,e,h2,h⟩:=h
  cases e
  have e1:d1 = .int x:=by
   cases d1 <;> unfold Rep at h1 <;> first | (cases h1; rfl) | (obtain ⟨_,_,e,_⟩:=h1; cases e) | cases h1
  have e2:d2 = .bl b:=by
   cases d2 <;> unfold Rep at h2 <;> first | (cases h2; rfl) | (obtain ⟨_,_,e,_⟩:=h2; cases e) | cases h2
  rw [e1,e2]
theorem StOk.same {H H':Hp} {st:Addr} (h:StOk H st) (S:Same H H'):StOk H' st:=by
 obtain ⟨x,b,e,k⟩:=h
 exact ⟨x,b,S _ _ e,k⟩
theorem StOk.ne {H:Hp} {st p:Addr} (h:StOk H st) (hp:H p = none):p ≠ st:=by
 obtain ⟨x,b,e,k⟩:=h
 exact (ne_of_none e hp).symm
theorem Rep.tup_at {H:Hp} {ds:List D} {v:V} (h:Rep H (.tup ds) v):∃ a xs,v = .ref a /\ H a = some (.tup xs) /\ Reps H ds xs:=by
 unfold Rep at h
 exact h
theorem Rep.lst_at {H:Hp} {ds:List D} {v:V} (h:Rep H (.lst ds) v):∃ a xs,v = .ref a /\ H a = some (.lst xs) /\ Reps H ds xs:=by
 unfold Rep at h
 exact h
theorem Reps.nil_at {H:Hp} {xs:List V} (h:Reps H [] xs):xs = []:=by
 unfold Reps at h
 exact h
theorem Reps.cons_at {H:Hp} {d:D} {ds:List D} {xs:List V} (h:Reps H (d :: ds) xs):∃ x r,xs = x :: r /\ Rep H d x /\ Reps H ds r:=by
 unfold Reps at h
 exact h
theorem Rep.int_at {H:Hp} {i:Int} {v:V} (h:Rep H (.int i) v):v = .int i:=by
 unfold Rep at h
 exact h
theorem Rep.mk_int {H:Hp} (i:Int):Rep H (.int i) (.int i):=by unfold Rep; rfl
theorem Rep.mk_str {H:Hp} (i:Str):Rep H (.str i) (.str i):=by unfold Rep; rfl
theorem Reps.mk_nil {H:Hp}:Reps H [] []:=by unfold Reps; rfl
theorem Reps.mk_cons {H:Hp} {d:D} {ds:List D} {x:V} {xs:List V} (h1:Rep H d x) (h2:Reps H ds xs):Reps H (d :: ds) (x :: xs):=by unfold Reps; exact ⟨_,_,rfl,h1,h2⟩
theorem Rep.mk_tup {H:Hp} {a:Addr} {ds:List D} {xs:List V} (h:H a = some (.tup xs)) (r:Reps H ds xs):Rep H (.tup ds) (.ref a):=by unfold Rep; exact ⟨_,_,rfl,h,r⟩
theorem Rep.mk_lst {H:Hp} {a:Addr} {ds:List D} {xs:List V} (h:H a = some (.lst xs)) (r:Reps H ds xs):Rep H (.lst ds) (.ref a):=by unfold Rep; exact ⟨_,_,rfl,h,r⟩
theorem Rep.fr_at {H:Hp} {q:Int × Int} {v:V} (h:Rep H (fr q) v):∃ a,v = .ref a /\ H a = some (.tup [.int q.1,.int q.2]):=by
 obtain ⟨a,xs,e,ha,r⟩:=h.tup_at
 obtain ⟨x1,r1,rfl,h1,r⟩:=r.cons_at
 obtain ⟨x2,r2,rfl,h2,r⟩:=r.cons_at
 cases r.nil_at
 rw [h1.int_at,h2.int_at] at ha
 exact ⟨a,e,ha⟩
abbrev Bt (n:Nat) (x:Int):Prop:=x.natAbs < 2 ^ n
theorem Bt.ib {n:Nat} {x:Int} (h:Bt n x):Builtin.Int.intBits x <= n:=by
 unfold Builtin.Int.intBits
 split
 ·exact Nat.zero_le _
 ·rename_i h0
  have h1:x.natAbs ≠ 0:=by
   intro e
   apply h0
   have:x = 0:=by walk_at "o"
   rw [this]
   rfl
  have:=(Nat.log2_lt h1).mpr h
  walk_at "o"
theorem mulOk {m n:Nat} {x y:Int} (hx:Bt m x) (hy:Bt n y) (h:m + n <= 134217728:=by decide):IntMulOk x y:=PySem.IntMulOk.of_le hx.ib hy.ib h
theorem Bt.mono {m n:Nat} {x:Int} (hx:Bt m x) (h:m <= n):Bt n x:=Nat.lt_of_lt_of_le hx (Nat.pow_le_pow_right (by decide) h)
theorem Bt.mul {m n:Nat} {x y:Int} (hx:Bt m x) (hy:Bt n y):Bt (m + n) (x * y):=by
 unfold Bt
 rw [Int.natAbs_mul,Nat.pow_add]
 exact Nat.mul_lt_mul'' hx hy
theorem Bt.add {m n:Nat} {x y:Int} (hx:Bt m x) (hy:Bt n y):Bt (max m n + 1) (x + y):=by
 have h1:=hx.mono (Nat.le_max_left m n)
 have h2:=hy.mono (Nat.le_max_right m n)
 unfold Bt at *
 rw [Nat.pow_succ]
 have:=Int.natAbs_add_le x y
 walk_at "o"
theorem divX {x y:Int} (h:y ≠ 0) (hb:Bt 9000 y):CDivX x y:=⟨h,by
 by_cases h0:y.natAbs = 0
 ·rw [h0]; decide +kernel
 ·exact (Nat.log2_lt h0).mpr hb⟩
theorem bt_fmod {x k:Int} {n:Nat} (hk:0 < k) (h:k.natAbs <= 2 ^ n):Bt n (x.fmod k):=by
 have h1:=Int.fmod_nonneg_of_pos x hk
 have h2:=Int.fmod_lt_of_pos x hk
 unfold Bt
 walk_at "o"
theorem mulOk_l {x y:Int} (hx:Bt 64 x):IntMulOk x y:=.of_left hx.ib
theorem mulOk_r {x y:Int} (hy:Bt 64 y):IntMulOk x y:=.of_right hy.ib
end L2
namespace L2
theorem iteP {c A B:Prop} [Decidable c] (hc:c) (h:A):if c then A else B:=by rw [if_pos hc]; exact h
theorem iteN {c A B:Prop} [Decidable c] (hc:¬ c) (h:B):if c then A else B:=by rw [if_neg hc]; exact h
end L2
namespace L2
end L2
namespace L2
open PySem
mutual
def D.ib:D -> Bool
 | .int i=>decide (i.natAbs < 2 ^ 200)
 | .tup ds=>D.ibs ds
 | .lst ds=>D.ibs ds
 | _=>true
def D.ibs:List D -> Bool
 | []=>true
 | d :: ds=>d.ib && D.ibs ds
end
end L2
namespace L2
open PySem PySem.Spec PyProof.Rows
section
variable {prog:Program} {w:World} {A:Around} {R:Result -> Shared -> Prop} {s:Shared}
theorem compLoop_any {elt target iter:Expr} {ifs:List Expr} {scope:Scope} {pos:Pos} {it acc:Value} {env:Env} {EE:Value -> Shared -> Prop} (hEE:EE = notedBy (model prog w) A env fun e s'=>R (.error e) s') (Iv:Nat -> Shared -> Prop)
  (turn:∀ n s,Iv n s -> wpAny (model prog w) A (pyNext it) (fun r s1=>match r with
   | none=>R (.ok .next) s1
   | some v=>wpAny (model prog w) A (letOwnedTupleGo target it v) (fun _ s2=>wpAny (model prog w) A (assign target env v) (fun _ s3 =>
     wpAny (model prog w) A (forIn ifs true fun c r=>if r = true then do let ok <- isTrue c env (eval c env); pure (ForInStep.yield ok) else pure (ForInStep.yield r)) (fun ok s4 =>
      if ok = true then wpAny (model prog w) A (eval elt env) (fun x s5=>wpAny (model prog w) A (call (.builtin "list.append") [acc,x]) (fun _ s6=>∃ m,m < n /\ Iv m s6) EE s5) EE s4
      else ∃ m,m < n /\ Iv m s4) EE s3) EE s2) EE s1) EE s)
  (n:Nat) (h:Iv n s):codeAny (model prog w) A (.compLoop (.ListComp elt [⟨target,iter,ifs,0⟩] scope pos) 0 it acc env) R s:=by
 subst hEE
 refine codeAny_loop rfl Iv (fun n s hI=>?_) n h
 show wpAny _ A ((compTurn (.ListComp elt [⟨target,iter,ifs,0⟩] scope pos) 0 it acc env).onRaise (fun x=>do noteFrame x env; theTreesLotGoes x)) _ _ s
 refine wpAny_noted ?_
 rw [compTurn_list]
 refine wpAny_bind (wpAny_standAt (wpAny_bind (wpAny_mono (turn n s hI) (fun r s1 h1=>?_) fun _ _ h'=>h')))
 cases r with
 | none=>exact wpAny_pure h1
 | some v =>
  refine wpAny_bind (wpAny_mono h1 (fun _ s2 h2=>?_) fun _ _ h'=>h')
  refine wpAny_bind (wpAny_mono h2 (fun _ s3 h3=>wpAny_bind (wpAny_mono h3 (fun ok s4 h4=>?_) fun _ _ h'=>h')) fun _ _ h'=>h')
  cases ok with
  | false=>exact wpAny_pure ⟨rfl,h4⟩
  | true=>exact wpAny_bind (wpAny_bind (wpAny_mono h4 (fun x s5 h5=>wpAny_bind (wpAny_mono h5 (fun _ s6 h6=>wpAny_pure (wpAny_pure ⟨rfl,h6⟩)) fun _ _ h'=>h')) fun _ _ h'=>h'))
end
def cxC (X:Cx) (scope:Scope) (cl:List (Str × Addr)) (N:List Str) (C:Addr) (s:Shared) (H:Hp) (ex:List Addr):Cx :=
 { X with N:=N,s₀:=s,H₀:=H,env:=compEnvC scope cl C X.env,outer:=X.stack,ex:=ex,fn:=fun _=>false,pn:=[],xe:=fun _ _=>False }
def Outs (X:Cx) (scope:Scope) (cl:List (Str × Addr)):List Str -> List Nat -> Prop
 | [],[]=>True
 | x :: xs,j :: js=>(X.N[j]? = some x /\ X.env.kindOf x = some .cell /\ (relabel scope X.env).names.lookup x = some .cell /\ (∃ c,cl.lookup x = some c)) /\ Outs X scope cl xs js
 | _,_=>False
theorem Outs.length {X:Cx} {scope:Scope} {cl:List (Str × Addr)}:∀ {xs:List Str} {js:List Nat},Outs X scope cl xs js -> js.length = xs.length
 | [],[],_=>rfl
 | _ :: _,_ :: _,h=>by simp [Outs.length h.2]
 | [],_ :: _,h=>h.elim
 | _ :: _,[],h=>h.elim
theorem Outs.get {X:Cx} {scope:Scope} {cl:List (Str × Addr)}:∀ {xs:List Str} {js:List Nat} {k j:Nat} {x:Str},Outs X scope cl xs js -> xs[k]? = some x -> js[k]? = some j ->
  X.N[j]? = some x /\ X.env.kindOf x = some .cell /\ (relabel scope X.env).names.lookup x = some .cell /\ ∃ c,cl.lookup x = some c
 | [],_,_,_,_,_,e,_=>by simp at e
 | _ :: _,[],_,_,_,_,_,e=>by simp at e
 | x :: xs,j :: js,0,_,_,h,e1,e2=>by
  simp at e1 e2
  subst e1
  subst e2
  exact h.1
 | x :: xs,j :: js,k + 1,_,_,h,e1,e2=>Outs.get (k:=k) h.2 (by simpa using e1) (by simpa using e2)
def CellsOk (X:Cx):List (Str × Addr) -> Prop
 | []=>True
 | p :: r=>X.env.cells.lookup p.1 = some p.2 /\ CellsOk X r
theorem CellsOk.mem {X:Cx}:∀ {cl:List (Str × Addr)},CellsOk X cl -> ∀ p ∈ cl,X.env.cells.lookup p.1 = some p.2
 | [],_,p,hp=>by cases hp
 | q :: r,h,p,hp=>by
  rcases List.mem_cons.mp hp with rfl | hp
  ·exact h.1
  ·exact CellsOk.mem h.2 p hp
structure CompSc (X:Cx) (scope:Scope) (cl:List (Str × Addr)) (own outs:List Str) (ixs:List Nat):Prop where
 nocell:(scope.names.all fun y=>y.2 != .cell) = true
 kind:scope.kind = .function
 names:(scope.names.all fun y=>y.2 != .local || scope.names.lookup y.1 == some .local) = true
 cells:CellsOk X cl
 has:((relabel scope X.env).names.all fun y=>!(y.2 == .cell || y.2 == .free) || (cl.lookup y.1).isSome) = true
 outs:Outs X scope cl outs ixs
def PF (X:Cx) (ifs:List Expr) (t:TT):Prop :=
 ∀ (pins:List (Addr × Obj)) (s:Shared) (σ:St) (H:Hp) (Q:Bool -> Hp -> Prop),Inv X pins σ H s -> t σ H Q ->
  wpAny (model X.prog X.w) X.A (forIn ifs true fun c r=>if r = true then do let ok <- isTrue c X.env (eval c X.env); pure (ForInStep.yield ok) else pure (ForInStep.yield r)) (TP X pins σ Q) X.xe s
def tYes:TT:=fun _ H Q=>Q true H
theorem pf_nil {X:Cx}:PF X [] tYes:=fun _ _ _ H _ I h=>wpAny_tests_nil ⟨H,I,h⟩
theorem pf_one {X:Cx} {c:Expr} {t:TT} (h:PT X c t):PF X [c] t:=fun pins s σ H Q I q=>wpAny_tests_one (h pins s σ H Q I q)
def CompOK (K:PySem.W.Frag) (J:It) (g:TG) (tif:TT) (te:TE) (a:Addr) (σ0:St) (H0:Hp) (Q:Hp -> Prop):Prop:=∃ W:Nat -> Nat -> St -> Hp -> Prop,(∃ m,W 0 m σ0 H0) /\ ∀ i m σ H,W i m σ H ->
 (J.stop i H /\ Q H) \/ (J.go i H /\ ∃ N:St -> Hp -> Prop,(∀ σ' H',N σ' H' -> ∃ m',m' < m /\ W (i + 1) m' σ' H') /\ ∀ x H',J.yld i H x H' -> g x σ H' fun σ2 H2=>tif σ2 H2 fun b H3=>if b = true then te σ2 H3 fun v H4=>∃ xs,vw K H4 a = some (.lst xs) /\ xs.length < sizeLine /\
  ∀ H5,But a (vw K H4) (vw K H5) -> vw K H5 a = some (.lst (xs ++ [v])) -> N σ2 H5 else N σ2 H3)
def outV (σ:St) (ixs:List Nat):St:=ixs.map fun j=>(σ[j]?).join
def tComp (K:PySem.W.Frag) (wi:TI) (n:Nat) (ixs:List Nat) (g:TG) (tif:TT) (te:TE):TE:=fun σ H Q=>wi σ H fun J H1=>∀ a H2,vw K H1 a = none -> Same (vw K H1) (vw K H2) -> vw K H2 a = some (.lst []) -> CompOK K J g tif te a (List.replicate n none ++ outV σ ixs) H2 (Q (.ref a))
section
variable {X:Cx}
theorem comp_core {tg iter elt:Expr} {ifs:List Expr} {scope:Scope} {pos ipos:Pos} {wi:TI} {g:TG} {tif:TT} {te:TE} {cl:List (Str × Addr)} {own outs:List Str} {ixs:List Nat} {use:Option (Value -> Sem Unit)} {Qv:Value -> Shared -> Prop}
  (hc:X.calm = true) (hi:PI X tg iter wi) (hclos:closureFor scope X.env = pure cl) (S:CompSc X scope cl own outs ixs)
  {G:Shared -> Hp -> List Addr -> Prop} (hb:∀ C s H ex,G s H ex -> PG (cxC X scope cl (own ++ outs) C s H ex) tg g /\ PF (cxC X scope cl (own ++ outs) C s H ex) ifs tif /\ PE (cxC X scope cl (own ++ outs) C s H ex) elt te)
  (hs:∀ x,foldedSetIterable iter X.env x = pure x) {pins:List (Addr × Obj)} {s:Shared} {σ:St} {H:Hp} (hG:∀ s2 H1 H2 fp,Inv X pins σ H2 s2 -> (∀ b ∈ fp,FpOk X pins H1 b) -> G s2 H2 fp) (I:Inv X pins σ H s) (Qd:Addr -> Hp -> Prop)
  (hfin:∀ (a C:Addr) (H':Hp) (s4:Shared) (m:Str -> Option Value),Inv X pins σ H' s4 -> FpOk X pins H' C -> s4.heap.Ns C m -> Qd a H' -> compPost (model X.prog X.w) X.A X.xe use Qv (.ref a) C (.ok .next) s4)
  (h:wi σ H fun J H1=>∀ a H2,vw X.K H1 a = none -> Same (vw X.K H1) (vw X.K H2) -> vw X.K H2 a = some (.lst []) -> CompOK X.K J g tif te a (List.replicate own.length none ++ outV σ ixs) H2 (Qd a)) :
  wpAny (model X.prog X.w) X.A (comprehension (.ListComp elt [⟨tg,iter,ifs,0⟩] scope pos) scope X.env ipos (newList []) false (eval iter X.env) use) Qv X.xe s:=by
 have Snc:∀ y ∈ scope.names,y.2 ≠ .cell:=fun y hy z=>by
  have:=List.all_eq_true.mp S.nocell y hy
  rw [z] at this
  cases this
 have Snm:∀ y ∈ scope.names,y.2 = .local -> scope.names.lookup y.1 = some .local:=fun y hy z=>by
  have:=List.all_eq_true.mp S.names y hy
  rw [z] at this
  simpa using this
 have Shs:∀ y ∈ (relabel scope X.env).names,(y.2 = .cell \/ y.2 = .free) -> (cl.lookup y.1).isSome = true:=fun y hy z=>by
  have:=List.all_eq_true.mp S.has y hy
  rcases z with z | z
  ·rw [z] at this
   simpa using this
  ·rw [z] at this
   simpa using this
 refine wpAny_comprehension_free (use:=use) rfl hs hclos S.kind Snm (wpAny_mono (hi pins s σ H _ I h) (fun xv s1 h1=>wpAny_mono h1 (fun itv s2 h2=>?_) fun _ _ e=>e) fun _ _ e=>e)
 obtain ⟨it,fp,tn,J,H1,rfl,I1,T,st1,f1,q⟩:=h2
 refine wpAny_newObj_type (wpAny_newFunctionEnv Snc (by intro y hy; simp at hy) (fun h₁ hns₁ hsb₁=>?_) S.kind)
 dsimp only at hns₁ hsb₁ ⊢
 have I2:Inv X pins σ (upd H1 s2.heap.objs.size (.lst [])) { s2 with heap:=s2.heap.push { cls:=.type "list",dict:=none,data:=.seq ([]:List Value).toArray } }:=I1.lnew (t':=s2.toks) .nil (Nat.zero_le _)
 have q2:=q s2.heap.objs.size (upd H1 s2.heap.objs.size (.lst [])) (by rw [vw_new (I1.newK (Nat.le_refl _))]; exact I1.fresh) (vw_same (Same.upd I1.fresh)) (by rw [vw_new (I1.newK (Nat.le_refl _))]; exact upd_same)
 have fr2:∀ b ∈ fp,(upd H1 s2.heap.objs.size (.lst [])) b = none:=fun b hb=>by
  obtain ⟨o,ho,_⟩:=T.obj _ _ st1 b hb
  rw [upd_ne (Nat.ne_of_lt (Heap.lt_size ho))]
  exact (f1 b hb).1
 generalize hH2:upd H1 s2.heap.objs.size (.lst []) = H2 at I2 q2 fr2
 generalize hs3:s2.heap.push { cls:=.type "list",dict:=none,data:=.seq ([]:List Value).toArray } = hp3 at I2 hns₁ hsb₁ ⊢
 have old23:∀ b o,s2.heap.get? b = some o -> hp3.get? b = some o:=fun b o e=>hs3 ▸ Heap.get?_push_of_some _ e
 have ltC:∀ {b:Addr} {o:Obj},hp3.get? b = some o -> b ≠ hp3.objs.size:=fun e=>Nat.ne_of_lt (Heap.lt_size e)
 have old:∀ b o,hp3.get? b = some o -> h₁.get? b = some o:=fun b o e=>hsb₁.extBut b o (ltC e) (Heap.get?_push_of_some _ e)
 have clc:∀ x c,cl.lookup x = some c -> X.env.cells.lookup x = some c:=fun x c e=>S.cells.mem (x,c) (PySem.mem_of_lookup e)
 obtain ⟨W,⟨m0,w0⟩,turn⟩:=q2
 have fpo:∀ b ∈ fp,∃ o,hp3.get? b = some o:=fun b hb=>by
  obtain ⟨o,ho,_⟩:=T.obj _ _ st1 b hb
  exact ⟨o,old23 b o ho⟩
 have ok:(cxC X scope cl (own ++ outs) hp3.objs.size { s2 with heap:=hp3 } H2 fp).Ok:=by
  refine ⟨I.ok.mod,S.kind,I.ok.glob,I.ok.blt,Nat.le_refl _,fun x y c e1 e2=>I.ok.inj x y c (clc x c e1) (clc y c e2),fun x hx=>?_,fun x c hf _=>(by cases hf),I.ok.hd,I.ok.frames,.inl rfl,fun b hb=>⟨?_,fun x c e=>?_⟩,I2.bs,Nat.le_trans I.ok.bsz I2.sz,fun b o e hb=>?_,fun b hb hz=>?_,I2.stack,I2.stkFree⟩
  ·have hx':(relabel scope X.env).names.lookup x = some .cell \/ (relabel scope X.env).names.lookup x = some .free:=hx
   have:(cl.lookup x).isSome = true:=by
    rcases hx' with e | e
    ·exact Shs _ (PySem.mem_of_lookup e) (.inl rfl)
    ·exact Shs _ (PySem.mem_of_lookup e) (.inr rfl)
   exact Option.isSome_iff_exists.mp this
  ·obtain ⟨o,ho⟩:=fpo b hb
   exact ltC ho
  ·exact (f1 b hb).2.2.2.2.1 x c (clc x c e)
  ·rcases (f1 b hb).2.2.2.1 with z | z
   ·exact I.ok.noex b o e z
   ·exact absurd (Nat.lt_of_lt_of_le (Heap.lt_size e) (Nat.le_trans I.ok.bsz z)) (Nat.lt_irrefl _)
  ·rcases List.mem_cons.mp (I2.stkSub b hz) with z | z
   ·exact (f1 b hb).2.1 z
   ·exact (f1 b hb).2.2.1 z
 have I4:Inv (cxC X scope cl (own ++ outs) hp3.objs.size { s2 with heap:=hp3 } H2 fp) [] (List.replicate own.length none ++ outV σ ixs) H2 { s2 with heap:=h₁,toks:=s2.toks + ([]:List (Str × Value)).length }:=by
  refine ⟨ok,rfl,I2.bare,Un.kept old,⟨_,hns₁,fun i x v e1 e2 e3=>?_⟩,fun x c e=>?_,I2.hok.fresh (Nat.le_refl _),fun x c e=>I2.freeC x c (clc x c e),fun p hp=>by simp [cxC] at hp,I2.hok.kept old,?_⟩
  ·have e1':(own ++ outs)[i]? = some x:=e1
   have hi':own.length <= i:=by
    by_cases hlt:i < own.length
    ·rw [List.getElem?_append_left (by simpa using hlt),List.getElem?_replicate,if_pos hlt] at e2
     cases e2
    ·walk_at "o"
   rw [List.getElem?_append_right (by simpa using hi')] at e2
   rw [List.getElem?_append_right hi'] at e1'
   rw [List.length_replicate] at e2
   unfold outV at e2
   rw [List.getElem?_map] at e2
   cases ej:ixs[i - own.length]? with
   | none=>rw [ej] at e2; cases e2
   | some j =>
    rw [ej] at e2
    obtain ⟨hN,hk,hr,c,hcl⟩:=S.outs.get e1' ej
    have e4:(σ[j]?).join = some v:=Option.some.inj e2
    have e5:σ[j]? = some (some v):=by
     cases es:σ[j]? with
     | none=>rw [es] at e4; cases e4
     | some o=>rw [es] at e4; exact congrArg some e4
    obtain ⟨m,hn,hl⟩:=I2.loc
    obtain ⟨u,ru,l⟩:=hl j x v hN e5 (.inr (.inl hk))
    refine ⟨u,ru,.inr ⟨.inl hr,c,hcl,?_⟩⟩
    rcases l with ⟨z,_⟩ | ⟨_,c',hc',cell⟩
    ·rw [hk] at z; cases z
    ·rw [clc x c hcl] at hc'
     cases hc'
     obtain ⟨o,ho,hd⟩:=cell
     exact ⟨o,old _ _ ho,hd⟩
  ·obtain ⟨v,o,ho,hd⟩:=I2.cell x c (clc x c e)
   exact ⟨v,o,old _ _ ho,hd⟩
  ·show (List.replicate own.length none ++ outV σ ixs).length = (own ++ outs).length
   unfold outV
   rw [List.length_append,List.length_append,List.length_replicate,List.length_map,S.outs.length]
 obtain ⟨hg,hf,he⟩:=hb hp3.objs.size { s2 with heap:=hp3 } H2 fp (hG _ _ _ _ I2 f1)
 have stat:∀ {H':Hp},(∀ b ∈ fp,H' b = none) -> ∀ b ∈ fp,FpOk (cxC X scope cl (own ++ outs) hp3.objs.size { s2 with heap:=hp3 } H2 fp) [] H' b:=fun hn b hb =>
  ⟨hn b hb,(ok.exf b hb).1,ok.exfs b hb,.inl hb,(ok.exf b hb).2,fun p hp=>by simp [cxC] at hp⟩
 have noE:∀ {α:Type} {t:Sem α} {Q':α -> Shared -> Prop} {s':Shared} {E':Value -> Shared -> Prop},wpAny (model X.prog X.w) X.A t Q' (fun _ _=>False) s' -> wpAny (model X.prog X.w) X.A t Q' E' s':=fun h=>wpAny_mono h (fun _ _ z=>z) fun _ _ z=>z.elim
 have loop:codeAny (model X.prog X.w) X.A (.compLoop (.ListComp elt [⟨tg,iter,ifs,0⟩] scope pos) 0 (.ref it) (.ref s2.heap.objs.size) (compEnvC scope cl hp3.objs.size X.env))
   (compPost (model X.prog X.w) X.A X.xe use Qv (.ref s2.heap.objs.size) hp3.objs.size) { s2 with heap:=h₁,toks:=s2.toks + ([]:List (Str × Value)).length }:=by
  refine compLoop_any rfl (fun n s'=>∃ i σ' H',Inv (cxC X scope cl (own ++ outs) hp3.objs.size { s2 with heap:=hp3 } H2 fp) [] σ' H' s' /\ tn i s'.heap /\ (∀ b ∈ fp,H' b = none) /\ W i n σ' H') ?_ m0
   ⟨0,_,H2,I4,T.keep _ _ _ st1 fun b hb o e=>old b o (old23 b o e),fr2,w0⟩
  rintro n s' ⟨i,σ',H',I',st',fr',w'⟩
  rcases turn i n σ' H' w' with ⟨stop,qn⟩ | ⟨go,N,hN,step⟩
  ·refine thn (T.done (cxC X scope cl (own ++ outs) hp3.objs.size { s2 with heap:=hp3 } H2 fp) rfl rfl rfl hc i [] s' σ' H' _ I' (stat fr') st' stop) fun r s4 ⟨hr,I4'⟩=>?_
   subst hr
   obtain ⟨m,hn,_⟩:=I4'.loc
   have kC:∀ b o,b ≠ hp3.objs.size -> s4.heap.get? b = some o -> s4.heap.get? b = some o:=fun b o hb e=>e
   have tC:∀ b u,H' b = some u -> b ≠ hp3.objs.size:=fun b u e z=>by
    have:=I4'.free
    rw [z] at e
    rw [show H' hp3.objs.size = none from this] at e
    cases e
   have base:=I4'.base
   have un:Un (frs X.stack) fp H2 H' hp3 s4.heap:=⟨fun b o e n1 hb hx=>kC b o (ltC e) (base.keep b o e n1 hb hx),fun b o e n1 hb hx=>by
     obtain ⟨sl,z⟩:=base.slot b o e n1 hb hx
     exact ⟨sl,kC b _ (ltC e) z⟩,base.free,fun b o e hx=>by
     obtain ⟨o',z⟩:=base.there b o e hx
     exact ⟨o',kC b o' (ltC e) z⟩,base.tups,base.frzs,base.tbls⟩
   exact hfin _ _ H' s4 m (I2.call' (s':=s4) (ch:=fp) I4'.os un I4'.hok I4'.bare (fun b hb=>⟨(f1 b hb).2.2.2.1,(f1 b hb).2.1,(f1 b hb).2.2.2.2.1,(f1 b hb).2.2.2.2.2⟩)) (I2.fpOk (Nat.le_refl _) I4'.free) hn qn
  ·refine thn (T.item (cxC X scope cl (own ++ outs) hp3.objs.size { s2 with heap:=hp3 } H2 fp) rfl rfl rfl hc i [] s' σ' H' _ I' (stat fr') st' go) fun r s4 ⟨u,hr,h4⟩=>?_
   subst hr
   refine thn h4 fun _ s5 ⟨x,H5,I5,r5,y5,st5,fr5⟩=>?_
   have I5':=I5.pinned (stat fr5) (T.obj _ _ st5)
   have back:∀ {σ7:St} {H7:Hp} {s7:Shared},Inv (cxC X scope cl (own ++ outs) hp3.objs.size { s2 with heap:=hp3 } H2 fp) ([] ++ pinsAt fp s5.heap) σ7 H7 s7 -> ∀ m',m' < n -> W (i + 1) m' σ7 H7 ->
     ∃ m,m < n /\ ∃ i σ' H',Inv (cxC X scope cl (own ++ outs) hp3.objs.size { s2 with heap:=hp3 } H2 fp) [] σ' H' s7 /\ tn i s7.heap /\ (∀ b ∈ fp,H' b = none) /\ W i m σ' H':=fun {σ7 H7 s7} I7 m' hm w7=>by
    refine ⟨m',hm,i + 1,σ7,H7,I7.unpinned,T.keep _ _ _ st5 fun b hb o e=>(I7.pin (b,o) (List.mem_append_right _ (List.mem_append_right _ (mem_pinsAt hb e)))).1,fun b hb=>?_,w7⟩
    obtain ⟨o,e,d⟩:=T.obj _ _ st5 b hb
    exact (I7.pin (b,o) (List.mem_append_right _ (List.mem_append_right _ (mem_pinsAt hb e)))).2.1
   refine thn (noE (hg _ s5 σ' H5 x u _ I5' r5 (step x H5 y5))) fun _ s6 ⟨σ6,H6,I6,q6⟩=>?_
   refine thn (noE (hf _ s6 σ6 H6 _ I6 q6)) fun ok s7 ⟨H7,I7,q7⟩=>?_
   cases ok with
   | false =>
    rw [if_neg Bool.false_ne_true] at q7 ⊢
    obtain ⟨m',hm,w7⟩:=hN _ _ q7
    exact back I7 m' hm w7
   | true =>
    rw [if_pos rfl] at q7 ⊢
    refine thn (noE (he _ s7 σ6 H7 _ I7 q7)) fun v s8 ⟨xv,H8,I8,r8,q8⟩=>?_
    obtain ⟨xs,hxs,hz,q8⟩:=q8
    refine thn (noE (mt_append _ s8 σ6 H8 (.ref s2.heap.objs.size) [xv] _ [v] (fun _ H9=>N σ6 H9) I8 rfl (.cons r8 .nil) ⟨_,xs,xv,rfl,rfl,vw_lst hxs,hz,q8 _ (vw_but But.upd) ((vw_new (show X.K.lookup _ = none from I8.noK (vw_lst hxs))).trans upd_same)⟩)) fun _ s9 ⟨_,H9,I9,_,n9⟩=>?_
    obtain ⟨m',hm,w9⟩:=hN _ _ n9
    exact back I9 m' hm w9
 exact codeAny_compStart_list loop (T.self _ 0 _ _ _ (T.keep _ _ _ st1 fun b hb o e=>old b o (old23 b o e)) loop)
theorem pe_comp {tg iter elt:Expr} {ifs:List Expr} {scope:Scope} {pos:Pos} {wi:TI} {g:TG} {tif:TT} {te:TE} {cl:List (Str × Addr)} {own outs:List Str} {ixs:List Nat}
  (hc:X.calm = true) (hi:PI X tg iter wi) (hclos:closureFor scope X.env = pure cl) (S:CompSc X scope cl own outs ixs)
  (hb:∀ C s H ex,PG (cxC X scope cl (own ++ outs) C s H ex) tg g /\ PF (cxC X scope cl (own ++ outs) C s H ex) ifs tif /\ PE (cxC X scope cl (own ++ outs) C s H ex) elt te)
  (hs:∀ x,foldedSetIterable iter X.env x = pure x:=by intro _; rfl) :
  PE X (.ListComp elt [⟨tg,iter,ifs,0⟩] scope pos) (tComp X.K wi own.length ixs g tif te):=by
 intro pins s σ H Q I h
 rw [eval_ListComp]
 refine comp_core (G:=fun _ _ _=>True) hc hi hclos S (fun C s H ex _=>hb C s H ex) hs (fun _ _ _ _ _ _=>trivial) I (fun a H'=>Q (.ref a) H') (fun a C H' s4 m J4 fC hn q=>⟨m,hn,fun h' hsb=>?_⟩) h
 obtain ⟨f0,f1,f2,f3,f4,f5⟩:=fC
 exact ⟨.ref a,H',J4.turned (t':=s4.toks) (fun b o hb e=>hsb.extBut b o hb e) f0 f1 f3 f4 f5,rfl,q⟩
theorem ps_setC {tg iter elt:Expr} {ifs:List Expr} {scope:Scope} {pos spos py:Pos} {y:Str} {i:Nat} {wi:TI} {g:TG} {tif:TT} {te:TE} {cl:List (Str × Addr)} {own outs:List Str} {ixs:List Nat}
  (hN:X.N.Nodup) (hy:X.N[i]? = some y) (hx:Loc X.env.scope y) (hc:X.calm = true) (hi:PI X tg iter wi) (hclos:closureFor scope X.env = pure cl) (S:CompSc X scope cl own outs ixs)
  (hb:∀ C s H ex,PG (cxC X scope cl (own ++ outs) C s H ex) tg g /\ PF (cxC X scope cl (own ++ outs) C s H ex) ifs tif /\ PE (cxC X scope cl (own ++ outs) C s H ex) elt te)
  (hsw:swapsWith (.ListComp elt [⟨tg,iter,ifs,0⟩] scope pos) (some (.Name y py)) spos.line X.env = pure true:=by rfl)
  (hs:∀ x,foldedSetIterable iter X.env x = pure x:=by intro _; rfl) (hf:X.fn y = true \/ X.env.scope.names.lookup y = some .local:=by first | exact .inl rfl | exact .inr rfl | assumption) :
  PS X (.Assign [.Name y py] (.ListComp elt [⟨tg,iter,ifs,0⟩] scope pos) spos) (tAsg (tComp X.K wi own.length ixs g tif te) (gName i)):=by
 intro pins s σ H D I h
 rw [exec_Assign_Name_used _ _ _ _ hsw]
 refine wpAny_bind (wpAny_standAt (wpAny_bind ?_))
 show wpAny _ X.A (do let _ <- comprehension (.ListComp elt [⟨tg,iter,ifs,0⟩] scope pos) scope X.env _ (newList []) false (eval iter X.env) (some (assign (.Name y py) X.env))) _ _ s
 refine wpAny_bind (wpAny_mono (comp_core (use:=some (assign (.Name y py) X.env)) (Qv:=fun _ s'=>SP X pins D .next s') (G:=fun _ _ _=>True) hc hi hclos S (fun C s H ex _=>hb C s H ex) hs (fun _ _ _ _ _ _=>trivial) I (fun a H'=>D.nx (σ.set i (some (.ref a))) H') (fun a C H' s4 m J4 fC hn q=>?_) h) (fun _ s' hq=>wpAny_pure (wpAny_pure hq)) fun _ _ e=>e)
 obtain ⟨f0,f1,f2,f3,f4,f5⟩:=fC
 refine wpAny_assign_Name (store_ok2 J4 hN hy hx (v:=.ref a) rfl (fun s5 I5 hsame=>?_) hf)
 obtain ⟨b,sb,hb'⟩:=hsame
 have nb:C ≠ b:=fun e=>by
  rcases hb' with z | z
  ·exact f1 (e.trans z)
  ·exact f4 _ _ z e.symm
 exact ⟨m,hn.sameBut sb nb,fun h' hsb=>⟨_,H',I5.turned (t':=s5.toks) (fun b o hb e=>hsb.extBut b o hb e) f0 f1 f3 f4 f5,q⟩⟩
end
theorem cxC_K {X:Cx} {scope:Scope} {cl:List (Str × Addr)} {N:List Str} {C:Addr} {s:Shared} {H:Hp} {ex:List Addr}:(cxC X scope cl N C s H ex).K = X.K:=rfl
mutual
def D.py:D -> PyData
 | .non=>.none
 | .bl b=>.bool b
 | .int i=>.int i
 | .str x=>.str x
 | .dict=>.dict []
 | .tup ds=>.tuple (D.pys ds)
 | .lst ds=>.list (D.pys ds)
def D.pys:List D -> List PyData
 | []=>[]
 | d :: ds=>d.py :: D.pys ds
end
def D.cmp (d:D):Prop:=d.py.canLay0 = true /\ d.py.depth <= 30
def peq (d e:D):Bool:=PyData.eqv d.py e.py
section
variable {X:Cx} {pins:List (Addr × Obj)} {σ:St} {H:Hp} {s:Shared}
mutual
theorem Rep.reads (I:Inv X pins σ H s):∀ (d:D) (v:V) (u:Value),Rep (vw X.K H) d v -> RelV v u -> d.py.canLay0 = true -> ∃ as,Reads s.heap u d.py as
 | .non,v,u,h,r,_=>by
  unfold Rep at h; subst h; cases r
  exact ⟨_,by unfold D.py; exact .none⟩
 | .bl b,v,u,h,r,_=>by
  unfold Rep at h; subst h; cases r
  exact ⟨_,by unfold D.py; exact .bool b⟩
 | .int i,v,u,h,r,_=>by
  unfold Rep at h; subst h; obtain ⟨t,rfl⟩:=r
  exact ⟨_,by unfold D.py; exact .int i t⟩
 | .str x,v,u,h,r,_=>by
  unfold Rep at h; subst h; obtain ⟨t,rfl⟩:=r
  exact ⟨_,by unfold D.py; exact .str x t⟩
 | .dict,v,u,h,r,hc=>by
  unfold D.py PyData.canLay0 at hc
  cases hc
 | .tup ds,v,u,h,r,hc=>by
  obtain ⟨a,xs,rfl,ha,rs⟩:=h.tup_at
  cases r
  unfold D.py at hc ⊢
  obtain ⟨its,rv,p,hz⟩:=I.tuple (vw_tup ha)
  obtain ⟨o,h1,h2,n,h3⟩:=p
  obtain ⟨as,ra⟩:=Reps.reads I ds xs its rs rv (by unfold PyData.canLay0 at hc; exact hc)
  exact ⟨_,.tuple h1 h2 h3 (by simpa using ra)⟩
 | .lst ds,v,u,h,r,hc=>by
  obtain ⟨a,xs,rfl,ha,rs⟩:=h.lst_at
  cases r
  unfold D.py at hc ⊢
  obtain ⟨its,rv,p,hz⟩:=I.list (SqL.of (K:=X.K) (vw_lst ha))
  obtain ⟨o,n,h1,h2,h3,h4⟩:=p
  obtain ⟨as,ra⟩:=Reps.reads I ds xs its rs rv (by unfold PyData.canLay0 at hc; exact hc)
  exact ⟨_,.list h1 h2 h4 (by simpa using ra)⟩
theorem Reps.reads (I:Inv X pins σ H s):∀ (ds:List D) (xs:List V) (us:List Value),Reps (vw X.K H) ds xs -> Vals xs us -> PyData.canLayAll0 (D.pys ds) = true -> ∃ as,ReadsAll s.heap us (D.pys ds) as
 | [],xs,us,h,r,_=>by
  cases h.nil_at
  cases r
  exact ⟨_,by unfold D.pys; exact .nil⟩
 | d :: ds,xs,us,h,r,hc=>by
  obtain ⟨x,ys,rfl,h1,h2⟩:=h.cons_at
  cases r with
  | cons r1 r2 =>
   unfold D.pys PyData.canLayAll0 at hc
   rw [Bool.and_eq_true] at hc
   obtain ⟨as,ra⟩:=Rep.reads I d x _ h1 r1 hc.1
   obtain ⟨bs,rb⟩:=Reps.reads I ds ys _ h2 r2 hc.2
   exact ⟨_,by unfold D.pys; exact .cons ra rb⟩
end
end
def rEqD (K:PySem.W.Frag) (neg:Bool):R2:=fun x y H Q=>∃ d e,Rep (vw K H) d x /\ Rep (vw K H) e y /\ d.cmp /\ e.cmp /\ Q (.bl (if neg then !peq d e else peq d e)) H
section
variable {X:Cx}
theorem op_eqD (hu:X.A.units + 64 < cLine):OpR X (compareOp .Eq) (rEqD X.K false):=by
 intro pins s σ H x y v u Q I rx ry h
 obtain ⟨d,e,h1,h2,c1,c2,q⟩:=h
 obtain ⟨as,r1⟩:=Rep.reads I d x v h1 rx c1.1
 obtain ⟨bs,r2⟩:=Rep.reads I e y u h2 ry c2.1
 exact SeqAt.compareEq_reads r1 r2 c1.1 c2.1 (by have:=c1.2; walk_at "o") ⟨.bl _,H,I,rfl,q⟩
theorem op_neD (hu:X.A.units + 64 < cLine):OpR X (compareOp .NotEq) (rEqD X.K true):=by
 intro pins s σ H x y v u Q I rx ry h
 obtain ⟨d,e,h1,h2,c1,c2,q⟩:=h
 obtain ⟨as,r1⟩:=Rep.reads I d x v h1 rx c1.1
 obtain ⟨bs,r2⟩:=Rep.reads I e y u h2 ry c2.1
 exact SeqAt.compareNe_reads r1 r2 c1.1 c2.1 (by have:=c1.2; walk_at "o") ⟨.bl _,H,I,rfl,q⟩
end
def ScrOk (K:PySem.W.Frag) (H:Hp) (a:Addr) (xs:List V):Prop:=(K.lookup a = none /\ Rd H a (.lst xs)) \/
 ∃ (o:Obj) (its:Array Value) (n:Nat),K.lookup a = some o /\ o.cls = .type "list" /\ o.dict = none /\ o.data = .seq its n /\ its.size <= sizeLine /\ Vals xs its.toList
theorem ScrOk.sq {K:PySem.W.Frag} {H:Hp} {a:Addr} {xs:List V} (h:ScrOk K H a xs):SqL K H a xs:=h.imp (fun z=>z.2) fun z=>z
theorem ScrOk.of {K:PySem.W.Frag} {H:Hp} {a:Addr} {xs:List V} (h:SqL K H a xs) (hk:H a ≠ none -> K.lookup a = none):ScrOk K H a xs:=by
 rcases h with h | h
 ·refine .inl ⟨hk ?_,h⟩
  rcases h with h | ⟨o,h⟩ <;> rw [h] <;> simp
 ·exact .inr h
end L2
namespace L2
open PySem PySem.Spec PyProof.Rows
mutual
def D.flat:D -> Bool
 | .lst _=>false
 | .tup ds=>D.flats ds
 | _=>true
def D.flats:List D -> Bool
 | []=>true
 | d :: ds=>d.flat && D.flats ds
end
section
variable {H H':Hp} {l:Addr} {xs:List V}
mutual
theorem Rep.flat_but (hl:H l = some (.lst xs)) (S:But l H H'):∀ (d:D) (v:V),d.flat = true -> Rep H d v -> Rep H' d v
 | .non,v,_,h=>by unfold Rep at h ⊢; exact h
 | .bl b,v,_,h=>by unfold Rep at h ⊢; exact h
 | .int i,v,_,h=>by unfold Rep at h ⊢; exact h
 | .str x,v,_,h=>by unfold Rep at h ⊢; exact h
 | .dict,v,_,h=>by
  unfold Rep at h ⊢
  obtain ⟨a,kvs,rfl,h⟩:=h
  exact ⟨a,kvs,rfl,S _ _ (fun e=>by rw [e,hl] at h; cases h) h⟩
 | .tup ds,v,hf,h=>by
  obtain ⟨a,ys,rfl,h,rs⟩:=h.tup_at
  unfold D.flat at hf
  exact .mk_tup (S _ _ (fun e=>by rw [e,hl] at h; cases h) h) (Reps.flat_but hl S ds ys hf rs)
 | .lst ds,v,hf,h=>by unfold D.flat at hf; cases hf
theorem Reps.flat_but (hl:H l = some (.lst xs)) (S:But l H H'):∀ (ds:List D) (ys:List V),D.flats ds = true -> Reps H ds ys -> Reps H' ds ys
 | [],ys,_,h=>by cases h.nil_at; exact .mk_nil
 | d :: ds,ys,hf,h=>by
  obtain ⟨y,r,rfl,h1,h2⟩:=h.cons_at
  unfold D.flats at hf
  rw [Bool.and_eq_true] at hf
  exact .mk_cons (Rep.flat_but hl S d y hf.1 h1) (Reps.flat_but hl S ds r hf.2 h2)
end
end
theorem fr_flat (q:Int × Int):(fr q).flat = true:=by simp [fr,D.flat,D.flats]
theorem flats_fr:∀ (qs:List (Int × Int)),D.flats (qs.map fr) = true
 | []=>by simp [D.flats]
 | q :: qs=>by
  rw [List.map_cons]
  unfold D.flats
  rw [fr_flat,flats_fr qs]
  rfl
theorem Reps.app {H:Hp}:∀ {ds es:List D} {xs ys:List V},Reps H ds xs -> Reps H es ys -> Reps H (ds ++ es) (xs ++ ys)
 | [],es,xs,ys,h,g=>by cases h.nil_at; exact g
 | d :: ds,es,xs,ys,h,g=>by
  obtain ⟨x,r,rfl,h1,h2⟩:=h.cons_at
  exact .mk_cons h1 (Reps.app h2 g)
theorem Reps.snoc {H:Hp} {ds:List D} {xs:List V} {d:D} {x:V} (h:Reps H ds xs) (g:Rep H d x):Reps H (ds ++ [d]) (xs ++ [x]):=h.app (.mk_cons g .mk_nil)
theorem Reps.at {H:Hp} {ds:List D} {xs:List V} (h:Reps H ds xs) {i:Nat} {d:D} (hd:ds[i]? = some d):∃ x,xs[i]? = some x /\ Rep H d x:=by
 have hi:i < ds.length:=(List.getElem?_eq_some_iff.mp hd).1
 have hi':i < xs.length:=by rw [h.length]; exact hi
 obtain ⟨d',e,r⟩:=h.get (List.getElem?_eq_getElem hi')
 rw [hd] at e
 cases e
 exact ⟨_,List.getElem?_eq_getElem hi',r⟩
theorem Reps.take {H:Hp}:∀ {ds:List D} {xs:List V} (n:Nat),Reps H ds xs -> Reps H (ds.take n) (xs.take n)
 | ds,xs,0,h=>by simp; exact .mk_nil
 | [],xs,n + 1,h=>by cases h.nil_at; exact .mk_nil
 | d :: ds,xs,n + 1,h=>by
  obtain ⟨x,r,rfl,h1,h2⟩:=h.cons_at
  exact .mk_cons h1 (h2.take n)
def LsAt (G:Hp) (a:Addr) (qs:List (Int × Int)):Prop:=∃ xs,G a = some (.lst xs) /\ Reps G (qs.map fr) xs
section
variable {G G':Hp} {a l:Addr} {qs:List (Int × Int)} {xs:List V}
theorem LsAt.same (h:LsAt G a qs) (S:Same G G'):LsAt G' a qs:=by
 obtain ⟨ys,h1,h2⟩:=h
 exact ⟨ys,S _ _ h1,h2.same S⟩
theorem LsAt.but (h:LsAt G a qs) (hl:G l = some (.lst xs)) (hn:a ≠ l) (S:But l G G'):LsAt G' a qs:=by
 obtain ⟨ys,h1,h2⟩:=h
 exact ⟨ys,S _ _ hn h1,Reps.flat_but hl S _ _ (flats_fr qs) h2⟩
theorem LsAt.rep (h:LsAt G a qs):Rep G (.lst (qs.map fr)) (.ref a):=by
 obtain ⟨ys,h1,h2⟩:=h
 exact .mk_lst h1 h2
theorem LsAt.len (h:LsAt G a qs):lenH G a = some qs.length:=by
 obtain ⟨ys,h1,h2⟩:=h
 unfold lenH
 rw [h1]
 simp only [h2.length,List.length_map]
theorem LsAt.ne_st {st:Addr} (h:LsAt G a qs) (hst:StOk G st):a ≠ st:=by
 rintro rfl
 obtain ⟨ys,h1,h2⟩:=h
 obtain ⟨x,b,h3,_⟩:=hst
 rw [h1] at h3
 cases h3
 cases qs with
 | nil=>cases h2.nil_at
 | cons q qs =>
  obtain ⟨y,r,e,h4,h5⟩:=Reps.cons_at h2
  cases e
  obtain ⟨c,e,_⟩:=h4.fr_at
  cases e
theorem LsAt.stBut {st:Addr} (h:LsAt G a qs) (hst:StOk G st) (S:But st G G'):LsAt G' a qs:=by
 obtain ⟨x,b,h3,_⟩:=hst
 exact h.but h3 (h.ne_st ⟨x,b,h3,by assumption⟩) S
theorem StOk.but {st:Addr} (h:StOk G st) (hl:G l = some (.lst xs)) (hn:st ≠ l) (S:But l G G'):StOk G' st:=by
 obtain ⟨x,b,h3,h4⟩:=h
 exact ⟨x,b,S _ _ hn h3,h4⟩
end
theorem cxOf_noxK {CX:CXT} {P:Program} {w:World} {K:PySem.W.Frag} {mg:Str -> Option Value} {base:Heap} {N:List Str} {qual:Str} {scope:Scope} {f:Addr} {cd:Value} {A:Around} {outer:List Env} {s:Shared} {H:Hp} {E:XK} :
  (cxOf CX P w K mg base N qual scope f cd A outer s H E).nox.K = K:=rfl
def tCut (t u:TS):TS:=fun D σ H=>∃ R:St -> Hp -> Prop,(∀ σ' H',R σ' H' -> u D σ' H') /\ t { D with nx:=R } σ H
theorem tCut.mk {t u:TS} {D:Ends} {σ:St} {H:Hp} (R:St -> Hp -> Prop) (h1:t { D with nx:=R } σ H) (h2:∀ σ' H',R σ' H' -> u D σ' H'):tCut t u D σ H:=⟨R,h2,h1⟩
theorem pss_cut {X:Cx} {st:Stmt} {rest:List Stmt} {t u:TS} (h1:PS X st t) (h2:PSs X rest u):PSs X (st :: rest) (tCut t u):=by
 rintro pins s σ H D I ⟨R,hR,h⟩
 refine wpAny_execs_cons (thn (h1 pins s σ H { D with nx:=R } I h) fun f s1 q=>?_)
 cases f with
 | next =>
  obtain ⟨σ',H',I',q⟩:=q
  exact h2 pins s1 σ' H' D I' (hR _ _ q)
 | ret v=>exact q
 | brk=>exact q
 | cont=>exact q
def Items (J:It) (H:Hp) (its:List V):Prop:=(∀ i,i < its.length -> J.go i H) /\ (∀ i x H',i < its.length -> J.yld i H x H' -> H' = H /\ its[i]? = some x) /\ J.stop its.length H
def iots (lo:Int) (n:Nat):List V:=(List.range n).map fun (k:Nat)=>V.int (lo + k)
theorem items_range {lo:Int} {n:Nat} {H:Hp}:Items (Itr lo n) H (iots lo n):=by
 refine ⟨fun i hi=>by show i < n; simpa [iots] using hi,fun i x H' hi y=>⟨y.1,?_⟩,by show n <= (iots lo n).length; simp [iots]⟩
 have hi':i < n:=by simpa [iots] using hi
 rw [y.2]
 simp [iots,hi']
theorem items_list {K:PySem.W.Frag} {H:Hp} {a:Addr} {xs:List V} (h:vw K H a = some (.lst xs)):Items (Itl K a) H xs :=
 ⟨fun i hi=>⟨xs,xs[i],.of (vw_lst h),by simp [hi]⟩,fun i x H' _ y=>⟨y.1,y.2 xs (.of (vw_lst h))⟩,⟨xs,.of (vw_lst h),Nat.le_refl _⟩⟩
theorem for_items {J:It} {its:List V} {g:TG} {tb:TS} {D:Ends} {σ:St} {H:Hp} (Pv:Nat -> St -> Hp -> Prop) (hl:∀ i σ H,i <= its.length -> Pv i σ H -> Items J H its) (h0:Pv 0 σ H)
  (hs:∀ i x σ H,i < its.length -> its[i]? = some x -> Pv i σ H -> g x σ H fun σ2 H2=>tb { D with nx:=Pv (i + 1),ct:=Pv (i + 1),bk:=D.nx } σ2 H2) (hd:∀ σ H,Pv its.length σ H -> D.nx σ H):ForOK J g tb D σ H:=by
 refine ⟨fun i m σ H=>m = its.length - i /\ i <= its.length /\ Pv i σ H,⟨its.length,by simp,Nat.zero_le _,h0⟩,?_⟩
 rintro i m σ H ⟨rfl,hi,p⟩
 obtain ⟨q1,q2,q3⟩:=hl i σ H hi p
 by_cases hlt:i < its.length
 ·refine .inr ⟨q1 i hlt,Pv (i + 1),fun σ' H' p'=>⟨its.length - (i + 1),by walk_at "o",rfl,hlt,p'⟩,fun x H' y=>?_⟩
  obtain ⟨e,y2⟩:=q2 i x H' hlt y
  subst e
  exact hs i x σ _ hlt y2 p
 ·have e:i = its.length:=by walk_at "o"
  subst e
  exact .inl ⟨q3,hd σ H p⟩
def CN (K:PySem.W.Frag) (a:Addr) (σr:St) (Pv:List V -> Hp -> Prop):St -> Hp -> Prop:=fun σ H=>(∃ y,σ = y :: σr) /\ ∃ xs,vw K H a = some (.lst xs) /\ Pv xs H
def CEl (K:PySem.W.Frag) (a:Addr) (N:Hp -> Prop):V -> Hp -> Prop:=fun v H4=>∃ xs,vw K H4 a = some (.lst xs) /\ xs.length < sizeLine /\ ∀ H5,But a (vw K H4) (vw K H5) -> vw K H5 a = some (.lst (xs ++ [v])) -> N H5
theorem comp_items {K:PySem.W.Frag} {J:It} {its:List V} {tif:TT} {te:TE} {a:Addr} {x0:Option V} {σr:St} {H0:Hp} {Q:Hp -> Prop} (Pv:Nat -> List V -> Hp -> Prop)
  (hl:∀ i xs H,i <= its.length -> vw K H a = some (.lst xs) -> Pv i xs H -> Items J H its) (ha:vw K H0 a = some (.lst [])) (h0:Pv 0 [] H0)
  (hs:∀ i x xs H,i < its.length -> its[i]? = some x -> vw K H a = some (.lst xs) -> Pv i xs H -> tif (some x :: σr) H fun b H3=>if b = true then te (some x :: σr) H3 (CEl K a (CN K a σr (Pv (i + 1)) (some x :: σr))) else CN K a σr (Pv (i + 1)) (some x :: σr) H3)
  (hd:∀ xs H,vw K H a = some (.lst xs) -> Pv its.length xs H -> Q H):CompOK K J (gName 0) tif te a (x0 :: σr) H0 Q:=by
 refine ⟨fun i m σ H=>m = its.length - i /\ i <= its.length /\ CN K a σr (Pv i) σ H,⟨its.length,by simp,Nat.zero_le _,⟨_,rfl⟩,_,ha,h0⟩,?_⟩
 rintro i m σ H ⟨rfl,hi,⟨y,rfl⟩,xs,hxs,p⟩
 obtain ⟨q1,q2,q3⟩:=hl i xs H hi hxs p
 by_cases hlt:i < its.length
 ·refine .inr ⟨q1 i hlt,CN K a σr (Pv (i + 1)),fun σ' H' p'=>⟨its.length - (i + 1),by walk_at "o",rfl,hlt,p'⟩,fun x H' y=>?_⟩
  obtain ⟨e,y2⟩:=q2 i x H' hlt y
  subst e
  exact hs i x xs _ hlt y2 hxs p
 ·have e:i = its.length:=by walk_at "o"
  subst e
  exact .inl ⟨q3,hd xs H hxs p⟩
theorem CEl.mk {K:PySem.W.Frag} {a:Addr} {σr:St} {Pv:List V -> Hp -> Prop} {x:Option V} {v:V} {H:Hp} {xs:List V} (h:vw K H a = some (.lst xs)) (hz:xs.length < sizeLine)
  (q:∀ H5,But a (vw K H) (vw K H5) -> vw K H5 a = some (.lst (xs ++ [v])) -> Pv (xs ++ [v]) H5):CEl K a (CN K a σr Pv (x :: σr)) v H:=⟨xs,h,hz,fun H5 B h5=>⟨⟨_,rfl⟩,_,h5,q H5 B h5⟩⟩
theorem iots_at {lo:Int} {n i:Nat} {x:V} (h:(iots lo n)[i]? = some x):i < n /\ x = .int (lo + i):=by
 have hi:i < n:=by simpa [iots] using (List.getElem?_eq_some_iff.mp h).1
 simp [iots,hi] at h
 exact ⟨hi,h.symm⟩
theorem iots_len {lo:Int} {n:Nat}:(iots lo n).length = n:=by simp [iots]
theorem sIx_nat {n d:Nat} {k:Nat} (h:k <= n):HT.sIx n d (some (k:Int)) = k:=by
 unfold HT.sIx
 simp only [Int.toNat_natCast]
 rw [if_neg (by walk_at "o")]
 walk_at "o"
theorem cut_to {xs:List V} {k:Nat} (h:k <= xs.length):cutV xs none (some (k:Int)) = xs.take k:=by
 unfold cutV
 rw [sIx_nat h]
 simp [HT.sIx]
theorem atI_end {α:Type} {xs:List α} {x:α} (h:xs.getLast? = some x):atI xs (-1) = some x:=by
 obtain ⟨ys,rfl⟩:=List.getLast?_eq_some_iff.mp h
 exact atI_last ys x
def rNil (K:PySem.W.Frag) (neg:Bool):R2:=fun x y H Q=>∃ p q,x = .ref p /\ y = .ref q /\ ∃ xs,vw K H p = some (.lst xs) /\ vw K H q = some (.lst []) /\ Q (.bl (if neg then !xs.isEmpty else xs.isEmpty)) H
section
variable {X:Cx}
theorem op_eqNil (hu:X.A.units < cLine):OpR X (compareOp .Eq) (rNil X.K false):=by
 intro pins s σ H x y v u Q I rx ry h
 obtain ⟨p,q,rfl,rfl,xs,h1,h2,k⟩:=h
 cases rx
 cases ry
 obtain ⟨its,r,⟨o,n,e1,e2,e3,e4⟩,_⟩:=I.list (SqL.of (K:=X.K) (vw_lst h1))
 obtain ⟨its2,r2,⟨o2,n2,f1,f2,f3,f4⟩,_⟩:=I.list (SqL.of (K:=X.K) (vw_lst h2))
 cases r2
 have fin:EP X pins σ Q (.bool xs.isEmpty) s:=⟨.bl _,H,I,rfl,k⟩
 cases xs with
 | nil =>
  cases r
  exact SeqAt.RcAt.lists (e:=fun _=>true) ⟨_,e1,e2,_,e4⟩ ⟨_,f1,f2,_,f4⟩ rfl hu (fun j h1=>absurd h1 (by simp)) _ _ _ _ fin
 | cons x xs =>
  cases r
  exact SeqAt.RcAt.lists_lengths ⟨_,e1,e2,_,e4⟩ ⟨_,f1,f2,_,f4⟩ (by simp) hu _ _ _ _ fin
theorem op_neNil (hu:X.A.units < cLine):OpR X (compareOp .NotEq) (rNil X.K true):=by
 intro pins s σ H x y v u Q I rx ry h
 obtain ⟨p,q,rfl,rfl,xs,h1,h2,k⟩:=h
 cases rx
 cases ry
 obtain ⟨its,r,⟨o,n,e1,e2,e3,e4⟩,_⟩:=I.list (SqL.of (K:=X.K) (vw_lst h1))
 obtain ⟨its2,r2,⟨o2,n2,f1,f2,f3,f4⟩,_⟩:=I.list (SqL.of (K:=X.K) (vw_lst h2))
 cases r2
 have fin:EP X pins σ Q (.bool !xs.isEmpty) s:=⟨.bl _,H,I,rfl,k⟩
 cases xs with
 | nil =>
  cases r
  exact SeqAt.RcNeAt.lists (e:=fun _=>true) ⟨_,e1,e2,_,e4⟩ ⟨_,f1,f2,_,f4⟩ rfl hu (fun j h1=>absurd h1 (by simp)) _ _ _ _ fin
 | cons x xs =>
  cases r
  exact SeqAt.RcNeAt.lists_lengths ⟨_,e1,e2,_,e4⟩ ⟨_,f1,f2,_,f4⟩ (by simp) hu _ _ _ _ fin
end
theorem Room.ul {k:Nat} {A:Around} (r:Room k A):A.units < cLine:=by have:=r.un; walk_at "o"
theorem Room.u64 {k:Nat} {A:Around} (r:Room k A):A.units + 64 < cLine:=by have:=r.un; walk_at "o"
theorem peq_fr (p q:Int × Int):peq (fr p) (fr q) = decide (p = q):=by
 unfold peq fr D.py D.pys D.pys D.pys D.py
 simp only [PyData.eqv,PyData.eqvAll]
 rw [Bool.eq_iff_iff]
 simp [Prod.ext_iff]
theorem cmp_fr (q:Int × Int):(fr q).cmp:=by
 unfold D.cmp fr D.py D.pys D.pys D.pys D.py
 exact ⟨rfl,Nat.le_of_ble_eq_true rfl⟩
def GT (K:PySem.W.Frag) (mg:Str -> Option Value) (x:Str) (xs:List V):Prop:=∃ a,mg x = some (.ref a) /\ ∀ H,vw K H a = some (.tup xs)
theorem GT.mk {K:PySem.W.Frag} {mg:Str -> Option Value} {x:Str} {a:Addr} {o:Obj} {xs:List V} (h:mg x = some (.ref a)) (hl:K.lookup a = some o) (hk:kobj o = some (.tup xs)):GT K mg x xs :=
 ⟨a,h,fun H=>by unfold vw; rw [hl]; exact hk⟩
theorem rep_pair {H:Hp} {a:Addr} {i j:Int} (h:H a = some (.tup [.int i,.int j])):Rep H (fr (i,j)) (.ref a):=.mk_tup h (.mk_cons (.mk_int _) (.mk_cons (.mk_int _) .mk_nil))
end L2
namespace L2
open PySem PySem.Spec PyProof.Rows
theorem Reps.repl {H:Hp} {d:D} {x:V} (h:Rep H d x):∀ n,Reps H (List.replicate n d) (List.replicate n x)
 | 0=>.mk_nil
 | n + 1=>.mk_cons h (Reps.repl h n)
section
variable {K:PySem.W.Frag} {σ:St} {H0:Hp} {t u:TE} {ta:TA} {b c:Bool} {m n:Nat}
end
end L2
set_option autoImplicit true
namespace L2
open PySem PySem.Spec PyProof.Rows
structure QE (X:Cx) (e:Expr) (t:TE):Prop where
 h:PE X e t
structure QT (X:Cx) (e:Expr) (t:TT):Prop where
 h:PT X e t
structure QW (X:Cx) (e:Expr) (t:TT):Prop where
 h:PW X e t
structure QA (X:Cx) (e:List Expr) (t:TA):Prop where
 h:PA X e t
structure QS (X:Cx) (e:Stmt) (t:TS):Prop where
 h:PS X e t
structure QSs (X:Cx) (e:List Stmt) (t:TS):Prop where
 h:PSs X e t
structure QG (X:Cx) (e:Expr) (t:TG):Prop where
 h:PG X e t
structure QGs (X:Cx) (e:List Expr) (t:TGs):Prop where
 h:PGs X e t
structure QF (X:Cx) (e:List Expr) (t:TT):Prop where
 h:PF X e t
structure QO (X:Cx) (e:Option Expr) (t:TO):Prop where
 h:PO X e t
structure QI (X:Cx) (tg e:Expr) (t:TI):Prop where
 h:PI X tg e t
section
variable {X:Cx} {pos p p2 apos cpos pos':Pos} {a b e o l:Expr} {es rest:List Expr} {te ta tb to:TE} {tA tB':TT} {st:Stmt} {rest':List Stmt} {lo hi:Option Expr} {id:String}
theorem qe_bl {b j pos}:QE X (.Constant (.bool b) j pos) (tC (.bl b)):=⟨pe_bl ⟩
theorem qe_int {i j pos}:QE X (.Constant (.int i) j pos) (tC (.int i)):=⟨pe_int ⟩
theorem qe_non {j pos}:QE X (.Constant .none j pos) (tC .non):=⟨pe_non ⟩
theorem qe_str {x j pos}:QE X (.Constant (.str x) j pos) (tC (.str x)):=⟨pe_str ⟩
theorem qe_glob {x:Str} {v:V} {u:Value} {pos:Pos} (hg:Gl X x) (hm:X.mg x = some u) (r:RelV v u) (hd:(x == ("__debug__" : Str)) = false:=by decide):QE X (.Name x pos) (tC v):=⟨pe_glob (hg:=hg) (hm:=hm) (r:=r) (hd:=hd)⟩
theorem qe_bltn {x:Str} {v:V} {u:Value} {pos:Pos} (hg:Gl X x) (hm:X.mg x = none) (hv:bootBuiltins x = some u) (r:RelV v u) (hn:x ≠ "__name__":=by decide) (hd:(x == ("__debug__" : Str)) = false:=by decide):QE X (.Name x pos) (tC v):=⟨pe_bltn (hg:=hg) (hm:=hm) (hv:=hv) (r:=r) (hn:=hn) (hd:=hd)⟩
theorem qe_op {op:Operator} {r:R2} (ho:OpR X (binaryOp op) r) (ha:QE X a ta) (hb:QE X b tb):QE X (.BinOp a op b pos) (tOp r ta tb):=⟨pe_op (ho:=ho) (ha:=ha.h) (hb:=hb.h)⟩
theorem qe_un {op:UnaryOp} {r:V -> Hp -> VK -> Prop} (ho:UnR X (unaryOp op) r) (ha:QE X a ta):QE X (.UnaryOp op a pos) (tUn r ta):=⟨pe_un (ho:=ho) (ha:=ha.h)⟩
theorem qe_and (ha:QE X a ta) (hb:QE X (.BoolOp .And (b :: rest) pos) tb):QE X (.BoolOp .And (a :: b :: rest) pos) (tAndV ta tb):=⟨pe_and (ha:=ha.h) (hb:=hb.h)⟩
theorem qe_one {op} {t:TE} (h:QE X a t):QE X (.BoolOp op [a] pos) t:=⟨pe_one (h:=h.h)⟩
theorem qe_cmpR {op:CmpOp} {r:R2} (ho:OpR X (compareOp op) r) (ha:QE X a ta) (hb:QE X b tb) (hm:behindInMarks op b = false):QE X (.Compare a [op] [b] pos) (tOp r ta tb):=⟨pe_cmpR (ho:=ho) (ha:=ha.h) (hb:=hb.h) (hm:=hm)⟩
theorem qe_ifExp {c:Expr} (hc:QT X c tA) (ha:QE X a ta) (hb:QE X b tb):QE X (.IfExp c a b pos) (tIf tA ta tb):=⟨pe_ifExp (hc:=hc.h) (ha:=ha.h) (hb:=hb.h)⟩
theorem qe_tupS {x1} (h:QA X es t):QE X (.Tuple es x1 pos) (tTupS X.K t):=⟨pe_tupS (h:=h.h)⟩
theorem qe_lstS (h:QA X es t):QE X (.List es pos) (tLstS X.K t):=⟨pe_lstS (h:=h.h)⟩
theorem qe_slice {r:V -> Option Int -> Option Int -> Hp -> VK -> Prop} (hr:SlR X r) (he:QE X e te) (hl:QO X lo tl) (hu:QO X hi th):QE X (.Subscript e (.Slice lo hi none p2) pos) (tSl r te tl th):=⟨pe_slice (hr:=hr) (he:=he.h) (hl:=hl.h) (hu:=hu.h)⟩
theorem qo_none  : QO X none tNoPart:=⟨po_none ⟩
theorem qo_some (h:QE X e te):QO X (some e) (tPart te):=⟨po_some (h:=h.h)⟩
theorem qe_ix {r:R2} (hr:IxR X r) (ha:QE X a ta) (hb:QE X b tb) (hs:PlainIx b):QE X (.Subscript a b pos) (tOp r ta tb):=⟨pe_ix (hr:=hr) (ha:=ha.h) (hb:=hb.h) (hs:=hs)⟩
theorem qe_cal (C:Cal X.prog X.w X.K X.mg X.base x ps k sp) (hr:Room k X.A) (hg:Gl X x) (ha:QA X (e :: es) t) (hdb:(x == ("__debug__" : Str)) = false:=by decide) (he:starEach (e :: es) X.env = (false,eval e X.env) :: starEach es X.env:=by rfl) (hpl:(backTo pos (starEach es X.env)).any (·.1) = false:=by rfl) :
  QE X (.Call (.Name x p) (e :: es) [] pos) (tCal sp t):=⟨pe_cal (C:=C) (hr:=hr) (hg:=hg) (ha:=ha.h) (hdb:=hdb) (he:=he) (hpl:=hpl)⟩
theorem qe_callB (hc:CallR X (.builtin id) r) (hg:Gl X x) (hm:X.mg x = none) (hv:bootBuiltins x = some (.builtin id)) (ha:QA X (e :: es) t) (hn:x ≠ "__name__":=by decide) (hdb:(x == ("__debug__" : Str)) = false:=by decide) (he:starEach (e :: es) X.env = (false,eval e X.env) :: starEach es X.env:=by rfl) (hpl:(backTo pos (starEach es X.env)).any (·.1) = false:=by rfl):QE X (.Call (.Name x p) (e :: es) [] pos) (tCB r t):=⟨pe_callB (hc:=hc) (hg:=hg) (hm:=hm) (hv:=hv) (ha:=ha.h) (hn:=hn) (hdb:=hdb) (he:=he) (hpl:=hpl)⟩
theorem qe_callTy (hc:CallR X (.type T) r) (hg:Gl X x) (hm:X.mg x = none) (hv:bootBuiltins x = some (.type T)) (ha:QA X (e :: es) t) (hn:x ≠ "__name__":=by decide) (hdb:(x == ("__debug__" : Str)) = false:=by decide) (he:starEach (e :: es) X.env = (false,eval e X.env) :: starEach es X.env:=by rfl) (hpl:(backTo pos (starEach es X.env)).any (·.1) = false:=by rfl):QE X (.Call (.Name x p) (e :: es) [] pos) (tCB r t):=⟨pe_callTy (hc:=hc) (hg:=hg) (hm:=hm) (hv:=hv) (ha:=ha.h) (hn:=hn) (hdb:=hdb) (he:=he) (hpl:=hpl)⟩
theorem qe_bm (pa:PlainAttrs T) (slot:Slot T name id) (hty:typeOf (.builtin id) = pure (.type "method_descriptor")) (hm:MtR X id r) (ho:QE X o to) (ha:QA X (e :: es) t) (hbase:attributeBase o name X.env (eval o X.env) = eval o X.env:=by rfl) (hfew:((backTo cpos (starEach (e :: es) X.env)).all (fun x=>!x.1) && (backToKw cpos (keywordEach [] X.env)).all (fun x=>x.1.isSome)
   && decide ((e :: es).length + ([]:List Keyword).length + (if ([]:List Keyword).isEmpty then 0 else 1) < 30)) = true:=by rfl) (hline:(apos.endLine == cpos.line) = true:=by rfl) (hs:starEach (e :: es) X.env = (false,eval e X.env) :: starEach es X.env:=by rfl) (hplain:(backTo cpos (starEach es X.env)).any (·.1) = false:=by rfl) :
  QE X (.Call (.Attribute o name apos) (e :: es) [] cpos) (tBM X.K T r to t):=⟨pe_bm (pa:=pa) (slot:=slot) (hty:=hty) (hm:=hm) (ho:=ho.h) (ha:=ha.h) (hbase:=hbase) (hfew:=hfew) (hline:=hline) (hs:=hs) (hplain:=hplain)⟩
theorem qe_bm0 (pa:PlainAttrs T) (slot:Slot T name id) (hty:typeOf (.builtin id) = pure (.type "method_descriptor")) (hm:MtR X id r) (ho:QE X o to) (hbase:attributeBase o name X.env (eval o X.env) = eval o X.env:=by rfl) (hline:(apos.endLine == cpos.line) = true:=by rfl):QE X (.Call (.Attribute o name apos) [] [] cpos) (tBM0 X.K T r to):=⟨pe_bm0 (pa:=pa) (slot:=slot) (hty:=hty) (hm:=hm) (ho:=ho.h) (hbase:=hbase) (hline:=hline)⟩
theorem qa_nil  : QA X [] tNil:=⟨pa_nil ⟩
theorem qa_cons (ha:QE X e te) (hr:QA X es t) (hs:starEach (e :: es) X.env = (false,eval e X.env) :: starEach es X.env:=by rfl):QA X (e :: es) (tCons te t):=⟨pa_cons (ha:=ha.h) (hr:=hr.h) (hs:=hs)⟩
theorem qt_cmpR {op:CmpOp} {r:R2} (ho:OpR X (compareOp op) r) (ha:QE X a ta) (hb:QE X b tb) (hm:behindInMarks op b = false):QT X (.Compare a [op] [b] pos) (tTest (tOp r ta tb)):=⟨pt_cmpR (ho:=ho) (ha:=ha.h) (hb:=hb.h) (hm:=hm)⟩
theorem qt_not (ha:QT X a tA):QT X (.UnaryOp .Not a pos) (tNot tA):=⟨pt_not (ha:=ha.h)⟩
theorem QW.pt {X:Cx} {e:Expr} {t:TT} (h:QW X e t):QT X e t:=⟨PW.pt (h:=h.h)⟩
theorem qw_and1 (ha:QT X a tA):QW X (.BoolOp .And [a] pos) tA:=⟨pw_and1 (ha:=ha.h)⟩
theorem qw_and (ha:QT X a tA) (hb:QW X (.BoolOp .And (b :: rest) pos) tB'):QW X (.BoolOp .And (a :: b :: rest) pos) (tAnd tA tB'):=⟨pw_and (ha:=ha.h) (hb:=hb.h)⟩
theorem qw_or1 (ha:QT X a tA):QW X (.BoolOp .Or [a] pos) tA:=⟨pw_or1 (ha:=ha.h)⟩
theorem qw_or (ha:QT X a tA) (hb:QW X (.BoolOp .Or (b :: rest) pos) tB'):QW X (.BoolOp .Or (a :: b :: rest) pos) (tOr tA tB'):=⟨pw_or (ha:=ha.h) (hb:=hb.h)⟩
theorem qt_truth (ha:QE X a ta) (he:∀ whole,isTrue a X.env whole = (do let v <- whole; standAt a.pos; holding [v] (truthy v))) :
  QT X a (fun σ H Q=>ta σ H fun x H'=>∃ k,TruV X.K x H' k /\ Q k H'):=⟨pt_truth (ha:=ha.h) (he:=he)⟩
theorem qt_val {e:Expr} {t:TE} (h:QE X e t) (he:∀ whole,isTrue e X.env whole = (do let v <- whole; standAt e.pos; holding [v] (truthy v)):=by intro _; rfl):QT X e (tB t):=⟨pt_val (h:=h.h) (he:=he)⟩
theorem qg_name {i:Nat} {x:Str} (hN:X.N.Nodup) (hi:X.N[i]? = some x) (hx:Loc X.env.scope x) (hf:X.fn x = true \/ X.env.scope.names.lookup x = some .local:=by first | exact .inl rfl | exact .inr rfl | assumption):QG X (.Name x pos) (gName i):=⟨pg_name (hN:=hN) (hi:=hi) (hx:=hx) (hf:=hf)⟩
theorem qg_tupH {es:List Expr} {k:Nat} {t:TGs} {n:Nat} {pos:Pos} (hc:X.calm = true) (h:QGs X es t) (hn:(assignEach es X.env).length = n:=by rfl) (hst:(assignEach es X.env).findIdx? (·.1) = none:=by rfl):QG X (.Tuple es k pos) (gTupH X.K n t):=⟨pg_tupH (hc:=hc) (h:=h.h) (hn:=hn) (hst:=hst)⟩
theorem qgs_nil  : QGs X [] gNil:=⟨pgs_nil ⟩
theorem qgs_cons {e:Expr} {es:List Expr} {t:TG} {u:TGs} (h1:QG X e t) (h2:QGs X es u) (hs:(assignEach (e :: es) X.env).map (·.2) = assign e X.env :: (assignEach es X.env).map (·.2):=by rfl):QGs X (e :: es) (gCons t u):=⟨pgs_cons (h1:=h1.h) (h2:=h2.h) (hs:=hs)⟩
theorem qg_sub {o i:Expr} {to ti:TE} {t:TSet} (ho:QE X o to) (hi:QE X i ti) (hs:PSet X t) (ha:∀ v,assign (.Subscript o i pos) X.env v = (do
   let ov <- holding [v] (eval o X.env)
   let iv <- holding [v,ov] (eval i X.env)
   standAt pos
   holding [v,ov,iv] (setItem ov iv v)
   release [v,ov,iv] []):=by intro _; rfl):QG X (.Subscript o i pos) (gSub to ti t):=⟨pg_sub (ho:=ho.h) (hi:=hi.h) (hs:=hs) (ha:=ha)⟩
theorem qi_range1 {a:Expr} {ta:TA} {p pos:Pos} (hg:Gl X "range") (hm:X.mg "range" = none) (ha:QA X [a] ta) (hs:starEach [a] X.env = [(false,eval a X.env)]:=by rfl):QI X tg (.Call (.Name "range" p) [a] [] pos) (iRng1 ta):=⟨pi_range1 (hg:=hg) (hm:=hm) (ha:=ha.h) (hs:=hs)⟩
theorem qi_range2 {a b:Expr} {ta:TA} {p pos:Pos} (hg:Gl X "range") (hm:X.mg "range" = none) (ha:QA X [a,b] ta) (hs:starEach [a,b] X.env = [(false,eval a X.env),(false,eval b X.env)]:=by rfl) (hs2:starEach [b] X.env = [(false,eval b X.env)]:=by rfl) :
  QI X tg (.Call (.Name "range" p) [a,b] [] pos) (iRng2 ta):=⟨pi_range2 (hg:=hg) (hm:=hm) (ha:=ha.h) (hs:=hs) (hs2:=hs2)⟩
theorem qi_list {l:Expr} {tl:TE} (hl:QE X l tl):QI X tg l (iList X.K tl):=⟨pi_list (hl:=hl.h)⟩
theorem qs_ret (he:QE X e te):QS X (.Return (some e) pos) (tRet te):=⟨ps_ret (he:=he.h)⟩
theorem qs_expr (he:QE X e te) (hs:swapsWith e none pos.line X.env = pure false:=by rfl):QS X (.Expr e pos) (tDrop te):=⟨ps_expr (he:=he.h) (hs:=hs)⟩
theorem qs_if {c:Expr} {a b:List Stmt} {tc:TT} (hc:QT X c tc) (ha:QSs X a t) (hb:QSs X b u):QS X (.If c a b pos) (tIfS tc t u):=⟨ps_if (hc:=hc.h) (ha:=ha.h) (hb:=hb.h)⟩
theorem qs_while {c:Expr} {body:List Stmt} {tc:TT} {tb:TS} (hp:PassesOwn (model X.prog X.w) X.A X.env X.xe) (hc:QT X c tc) (hb:QSs X body tb):QS X (.While c body [] pos) (tWhile tc tb):=⟨ps_while (hp:=hp) (hc:=hc.h) (hb:=hb.h)⟩
theorem qs_for {iter:Expr} {body:List Stmt} {wi:TI} {g:TG} {tb:TS} {pos:Pos} (hp:PassesOwn (model X.prog X.w) X.A X.env X.xe) (hc:X.calm = true) (hi:QI X tg iter wi) (hg:QG X tg g) (hb:QSs X body tb) (hs:∀ x,foldedSetIterable iter X.env x = pure x:=by intro _; rfl):QS X (.For tg iter body [] pos) (tFor wi g tb):=⟨ps_for (hp:=hp) (hc:=hc) (hi:=hi.h) (hg:=hg.h) (hb:=hb.h) (hs:=hs)⟩
theorem qs_set {i:Nat} {x:Str} {e:Expr} {te:TE} {pos':Pos} (hN:X.N.Nodup) (hi:X.N[i]? = some x) (hx:Loc X.env.scope x) (he:QE X e te) (hs:swapsWith e (some (.Name x pos')) pos.line X.env = pure false:=by rfl) (hf:X.fn x = true \/ X.env.scope.names.lookup x = some .local:=by first | exact .inl rfl | exact .inr rfl | assumption) :
  QS X (.Assign [.Name x pos'] e pos) (tAsg te (gName i)):=⟨ps_set (hN:=hN) (hi:=hi) (hx:=hx) (he:=he.h) (hs:=hs) (hf:=hf)⟩
theorem qs_par {i j:Nat} {x y:Str} {a b:Expr} {ta:TA} {px py pt:Pos} {kt k2 pt2} (hc:X.calm = true) (hN:X.N.Nodup) (hi:X.N[i]? = some x) (hj:X.N[j]? = some y) (hij:i ≠ j) (hx:X.env.scope.names.lookup x = some .local) (hy:X.env.scope.names.lookup y = some .local) (ha:QA X [a,b] ta) (hw:swappedStores [.Tuple [.Name x px,.Name y py] kt pt] (.Tuple [a,b] k2 pt2) X.env = pure (some [x,y])) (hs:swapsWithSole [.Tuple [.Name x px,.Name y py] kt pt] (.Tuple [a,b] k2 pt2) pos.line X.env = pure false:=by rfl) :
  QS X (.Assign [.Tuple [.Name x px,.Name y py] kt pt] (.Tuple [a,b] k2 pt2) pos) (tPar i j ta):=⟨ps_par (hc:=hc) (hN:=hN) (hi:=hi) (hj:=hj) (hij:=hij) (hx:=hx) (hy:=hy) (ha:=ha.h) (hw:=hw) (hs:=hs)⟩
theorem qs_asg {tg e:Expr} {te:TE} {g:TG} (he:QE X e te) (hg:QG X tg g) (hs:swapsWithSole [tg] e pos.line X.env = pure false:=by rfl) (hw:swappedStores [tg] e X.env = pure none:=by rfl) (h1:(assignEach [tg] X.env).map (·.2) = [assign tg X.env]:=by rfl):QS X (.Assign [tg] e pos) (tAsg te g):=⟨ps_asg (he:=he.h) (hg:=hg.h) (hs:=hs) (hw:=hw) (h1:=h1)⟩
theorem qs_aug {i:Nat} {x:Str} {e:Expr} {te:TE} {op:Operator} {ti:TIp} {pos':Pos} (hN:X.N.Nodup) (hi:X.N[i]? = some x) (hx:Loc X.env.scope x) (he:QE X e te) (ho:PIp X op ti) (hf:X.fn x = true \/ X.env.scope.names.lookup x = some .local:=by first | exact .inl rfl | exact .inr rfl | assumption) :
  QS X (.AugAssign (.Name x pos') op e pos) (tAug i te ti):=⟨ps_aug (hN:=hN) (hi:=hi) (hx:=hx) (he:=he.h) (ho:=ho) (hf:=hf)⟩
theorem qs_augS {o i e:Expr} {to ti te:TE} {tget:V -> V -> Hp -> VK -> Prop} {tip:TIp} {tset:TSet} {op:Operator} {tpos:Pos} (ho:QE X o to) (hi:QE X i ti) (hg:PGet X tget) (he:QE X e te) (hp:PIp X op tip) (hs:PSet X tset) (ha:∀ ov iv new,augStore i ov iv new = (do holding [new,ov,iv] (setItem ov iv new); release [new,ov,iv] []; pure .next):=by intros; rfl):QS X (.AugAssign (.Subscript o i tpos) op e pos) (tAugS to ti te tget tip tset):=⟨ps_augS (ho:=ho.h) (hi:=hi.h) (hg:=hg) (he:=he.h) (hp:=hp) (hs:=hs) (ha:=ha)⟩
theorem qss_nil  : QSs X [] tNext:=⟨pss_nil ⟩
theorem qss_one (h1:QS X st t):QSs X [st] t:=⟨pss_one (h1:=h1.h)⟩
theorem qss_cons (h1:QS X st t) (h2:QSs X rest' u):QSs X (st :: rest') (tSeq t u):=⟨pss_cons (h1:=h1.h) (h2:=h2.h)⟩
theorem qss_cut {X:Cx} {st:Stmt} {rest':List Stmt} {t u:TS} (h1:QS X st t) (h2:QSs X rest' u):QSs X (st :: rest') (tCut t u):=⟨pss_cut (h1:=h1.h) (h2:=h2.h)⟩
theorem qf_nil {X:Cx}:QF X [] tYes:=⟨pf_nil ⟩
theorem qf_one {X:Cx} {c:Expr} {t:TT} (h:QT X c t):QF X [c] t:=⟨pf_one (h:=h.h)⟩
theorem qv (i:Nat) {x:Str} {pos:Pos} (hN:X.N[i]? = some x:=by rfl) (hv:Vis X.env.scope x:=by first | exact Or.inl rfl | exact Or.inr (Or.inl rfl) | exact Or.inr (Or.inr rfl)) (hd:(x == ("__debug__" : Str)) = false:=by decide) (hcd:(x == ("__classdict__" : Str)) = false:=by decide):QE X (.Name x pos) (tVar i):=⟨pv (i:=i) (hN:=hN) (hv:=hv) (hd:=hd) (hcd:=hcd)⟩
theorem qe_comp {tg iter elt:Expr} {ifs:List Expr} {scope:Scope} {wi:TI} {g:TG} {tif:TT} {te:TE} {cl:List (Str × Addr)} {own outs:List Str} {ixs:List Nat}
  (hc:X.calm = true) (hi:QI X tg iter wi) (hclos:closureFor scope X.env = pure cl) (S:CompSc X scope cl own outs ixs)
  (hb:∀ C s H ex,QG (cxC X scope cl (own ++ outs) C s H ex) tg g /\ QF (cxC X scope cl (own ++ outs) C s H ex) ifs tif /\ QE (cxC X scope cl (own ++ outs) C s H ex) elt te)
  (hs:∀ x,foldedSetIterable iter X.env x = pure x:=by intro _; rfl):QE X (.ListComp elt [⟨tg,iter,ifs,0⟩] scope pos) (tComp X.K wi own.length ixs g tif te) :=
 ⟨pe_comp hc hi.h hclos S (fun C s H ex=>⟨(hb C s H ex).1.h,(hb C s H ex).2.1.h,(hb C s H ex).2.2.h⟩) hs⟩
theorem qs_setC {tg iter elt:Expr} {ifs:List Expr} {scope:Scope} {spos py:Pos} {y:Str} {i:Nat} {wi:TI} {g:TG} {tif:TT} {te:TE} {cl:List (Str × Addr)} {own outs:List Str} {ixs:List Nat}
  (hN:X.N.Nodup) (hy:X.N[i]? = some y) (hx:Loc X.env.scope y) (hc:X.calm = true) (hi:QI X tg iter wi) (hclos:closureFor scope X.env = pure cl) (S:CompSc X scope cl own outs ixs)
  (hb:∀ C s H ex,QG (cxC X scope cl (own ++ outs) C s H ex) tg g /\ QF (cxC X scope cl (own ++ outs) C s H ex) ifs tif /\ QE (cxC X scope cl (own ++ outs) C s H ex) elt te)
  (hsw:swapsWith (.ListComp elt [⟨tg,iter,ifs,0⟩] scope pos) (some (.Name y py)) spos.line X.env = pure true:=by rfl)
  (hs:∀ x,foldedSetIterable iter X.env x = pure x:=by intro _; rfl) (hf:X.fn y = true \/ X.env.scope.names.lookup y = some .local:=by first | exact .inl rfl | exact .inr rfl | assumption) :
  QS X (.Assign [.Name y py] (.ListComp elt [⟨tg,iter,ifs,0⟩] scope pos) spos) (tAsg (tComp X.K wi own.length ixs g tif te) (gName i)) :=
 ⟨ps_setC hN hy hx hc hi.h hclos S (fun C s H ex=>⟨(hb C s H ex).1.h,(hb C s H ex).2.1.h,(hb C s H ex).2.2.h⟩) hsw hs hf⟩
end
section
variable {P:Program} {w:World} {K:PySem.W.Frag} {mg:Str -> Option Value} {base:Heap}
theorem Fun.okQ {x qual:Str} {st:Stmt} {f:Addr} {fd:FuncData} {N ps:List Str} {k:Nat} {sp:Sp} (F:Fun K x qual st f fd) (S:FnScope N ps (defScope st)) (len:∀ vs H Q E,sp vs H Q E -> vs.length = ps.length)
  (hbody:∀ (cdv:Value) (A:Around) (outer:List Env) (s:Shared) (H:Hp) (vs:List V) (Q:VK) (E:XK),Room k (A.deeper (envOfC qual (defScope st) s.heap.objs.size f cdv)) -> sp vs H Q E ->
   ∃ t,QSs (cxOf CX0 P w K mg base N qual (defScope st) f cdv A outer s H E).nox (defBody st) t /\ t { nx:=fun _ H'=>Q .non H',rt:=Q } (start N vs) H):FnOk P w K mg base CX0 (k + 1) f fd ps sp :=
 F.ok S len fun cdv A outer s H vs Q E hr h=>(hbody cdv A outer s H vs Q E hr h).imp fun t z=>⟨z.1.h,z.2⟩
end
end L2
namespace L2
open PySem PySem.Spec PyProof.Rows
section
variable {X:Cx} {pins:List (Addr × Obj)} {σ:St} {H:Hp} {s:Shared} {h':Heap}
theorem Inv.turnT {t':Nat} {ch:List Addr} {T:Addr} {xs:List V} {its:List Value} (I:Inv X pins σ H s) (k:∀ b o,b ∉ ch -> s.heap.get? b = some o -> h'.get? b = some o) (hf:∀ b ∈ ch,FpOk X pins H b)
  (hT:s.heap.objs.size <= T) (hz:xs.length <= sizeLine) (rv:Vals xs its) (ht:IsTup h' T its.toArray):Inv X pins σ (upd H T (.tup xs)) { s with heap:=h',toks:=t' }:=by
 have hn:H T = none:=I.hok.fresh hT
 have nT:∀ b o,s.heap.get? b = some o -> b ≠ T:=fun b o e=>Nat.ne_of_lt (Nat.lt_of_lt_of_le (Heap.lt_size e) hT)
 refine I.step (g':=s.gens) (d':=s.drawn) (ch:=ch) (fun b hb=>?_) (fun b o _ _ hc e _=>k b o hc e) (fun b o _ _ hc e _=>⟨o.slots,k b o hc e⟩) (fun b o _ e n=>?_)
  (fun b o hc e=>⟨o,k b o hc e⟩) (fun b ys e=>?_) (fun b o u e=>?_) (fun b ps e=>⟨#[],?_⟩) (fun m hm=>?_) (fun b u e=>?_) I.bare
 ·obtain ⟨_,f1,_,f3,f4,f5⟩:=hf b hb
  exact ⟨f3,f1,f4,f5⟩
 ·rw [upd_ne (nT b o e)]
  exact n
 ·rw [upd_ne (ne_of_none e hn)]
  exact e
 ·rw [upd_ne (ne_of_none e hn)]
  exact e
 ·rw [upd_ne (ne_of_none e hn),e]
  simp
 ·obtain ⟨o,es,ep,ho,r⟩:=hm
  exact ⟨o,es,ep,k _ o (fun z=>(hf _ z).2.1 rfl) ho,r⟩
 ·by_cases hb:b = T
  ·subst hb
   rw [upd_same] at e
   cases e
   exact ⟨hz,its,rv,ht⟩
  ·rw [upd_ne hb] at e
   have nch:∀ c v,H c = some v -> c ∉ ch:=fun c v z hc=>by
    rw [(hf c hc).1] at z
    cases z
   refine (I.hok b u e).stay (fun c v hc q=>k c v ?_ q) (fun c q=>?_) fun c ys q=>?_
   ·rcases hc with z | z
    ·rw [z]
     exact nch b u e
    ·exact nch c _ z
   ·rw [upd_ne (ne_of_none q hn)]
    exact q
   ·rw [upd_ne (ne_of_none q hn)]
    exact q
end
def ItP (K:PySem.W.Frag) (R:Hp -> List (List V) -> Prop):It :=
 ⟨fun i H=>∃ ys t,R H ys /\ ys[i]? = some t,fun i H x H'=>∃ p t,x = .ref p /\ vw K H p = none /\ Same (vw K H) (vw K H') /\ vw K H' p = some (.tup t) /\ ∀ ys,R H ys -> ys[i]? = some t,fun i H=>∃ ys,R H ys /\ ys.length = i⟩
end L2
namespace L2
open PySem PySem.Spec PyProof.Rows
def Bq (n:Nat) (q:Int × Int):Prop:=Bt n q.1 /\ Bt n q.2
theorem Bq.mono {m n:Nat} {q:Int × Int} (h:Bq m q) (hl:m <= n):Bq n q:=⟨h.1.mono hl,h.2.mono hl⟩
def addq (p q:Int × Int):Int × Int:=lo (p.1 * q.2 + q.1 * p.2) (p.2 * q.2)
theorem bt_lo {a b:Int} {n:Nat} (hb:b ≠ 0) (h1:Bt n a) (h2:Bt n b):Bq n (lo a b):=by
 have e1:=lo_mul_left (a:=a) hb
 have e2:=lo_mul_right (a:=a) hb
 have hl:0 < (lg a b).natAbs:=by have:=lg_ne (a:=a) hb; walk_at "o"
 constructor
 ·unfold Bt at *
  have:=Int.natAbs_mul (lo a b).1 (lg a b)
  rw [e1] at this
  have:=Nat.le_mul_of_pos_right (lo a b).1.natAbs hl
  walk_at "o"
 ·unfold Bt at *
  have:=Int.natAbs_mul (lo a b).2 (lg a b)
  rw [e2] at this
  have:=Nat.le_mul_of_pos_right (lo a b).2.natAbs hl
  walk_at "o"
theorem addq_Fq {p q:Int × Int} (hp:Fq p) (hq:Fq q):Fq (addq p q):=lo_Fq (by have:=Int.mul_pos hp.1 hq.1; walk_at "o")
theorem addq_Bq {p q:Int × Int} {m n:Nat} (hp:Fq p) (hq:Fq q) (h1:Bq m p) (h2:Bq n q):Bq (m + n + 1) (addq p q):=by
 refine bt_lo (by have:=Int.mul_pos hp.1 hq.1; walk_at "o") ?_ ?_
 ·have:=(h1.1.mul h2.2).add (h2.1.mul h1.2)
  exact this.mono (by walk_at "o")
 ·exact (h1.2.mul h2.2).mono (by walk_at "o")
def FlAt (G:Hp) (a:Addr) (ds:List D):Prop:=∃ xs,G a = some (.lst xs) /\ Reps G ds xs
section
variable {G G':Hp} {a l:Addr} {ds:List D} {xs:List V}
theorem FlAt.same (h:FlAt G a ds) (S:Same G G'):FlAt G' a ds:=by
 obtain ⟨ys,h1,h2⟩:=h
 exact ⟨ys,S _ _ h1,h2.same S⟩
theorem FlAt.but (h:FlAt G a ds) (hf:D.flats ds = true) (hl:G l = some (.lst xs)) (hn:a ≠ l) (S:But l G G'):FlAt G' a ds:=by
 obtain ⟨ys,h1,h2⟩:=h
 exact ⟨ys,S _ _ hn h1,Reps.flat_but hl S _ _ hf h2⟩
theorem FlAt.ne_st {st:Addr} (h:FlAt G a ds) (hd:∀ i b,ds ≠ [.int i,.bl b]) (hst:StOk G st):a ≠ st:=by
 rintro rfl
 obtain ⟨ys,h1,h2⟩:=h
 obtain ⟨x,b,h3,_⟩:=hst
 rw [h1] at h3
 cases h3
 exact hd _ _ (Rep.lst_st h2)
theorem FlAt.stBut {st:Addr} (h:FlAt G a ds) (hf:D.flats ds = true) (hd:∀ i b,ds ≠ [.int i,.bl b]) (hst:StOk G st) (S:But st G G'):FlAt G' a ds:=by
 obtain ⟨x,b,h3,h4⟩:=id hst
 exact h.but hf h3 (h.ne_st hd hst) S
end
theorem ty_lst {K:PySem.W.Frag} {H:Hp} {p:Addr} {xs:List V} (h:vw K H p = some (.lst xs)):tyV K "list" (.ref p) H:=.inl ⟨rfl,xs,.of (vw_lst h)⟩
theorem FlAt.ty {K:PySem.W.Frag} {H:Hp} {p:Addr} {ds:List D} (h:FlAt (vw K H) p ds):tyV K "list" (.ref p) H:=by
 obtain ⟨xs,h,_⟩:=h
 exact ty_lst h
abbrev Spt:=(Int × Int) × (Int × Int)
end L2
namespace L2
open PySem PySem.Spec PyProof.Rows
section
variable {K:PySem.W.Frag} {σ:St} {H0:Hp} {t u:TE} {ta:TA} {b c:Bool} {m n:Nat}
variable {st:Addr}
end
end L2
namespace L2
open PySem PySem.Spec PyProof.Rows
section
variable {prog:Program} {w:World} {A:Around} {E:Value -> Shared -> Prop} {s:Shared}
theorem next_tup {it t:Addr} {i:Nat} {its:Array Value} {x:Value} {Q:Value -> Shared -> Prop} (a:s.heap.IsTupleIter it t i) (b:s.heap.IsTuple t its) (c:its[i]? = some x)
  (q:∀ g,g.IsTupleIter it t (i + 1) -> Heap.SameBut it s.heap g -> Q x { s with heap:=g }):wpAny (model prog w) A (Builtin.SmallTypes.nextOf (.ref it)) Q E s:=by
 obtain ⟨u,a1,a2,a3⟩:=id a
 obtain ⟨v,b1,_,bn,b2⟩:=b
 unfold Builtin.SmallTypes.nextOf
 refine wpAny_bind (wpAny_callSpecial?_slot (name:=Str.ofString "__next__") a.typeIs F.slot_tuple_iterator_next (wpAny_call_entry F.slot_tuple_iterator_next a.typeIs F.entry_tuple_iterator_next ?_ (F.args_tuple_iterator_next_1 _)))
 show wpAny _ _ (field (.ref it) 0 >>= _) _ _ s; refine wpAny_bind (wpAny_field a1 a3 (x:=.ref t) rfl ?_)
 show wpAny _ _ (if (Value.ref t == Value.none) = true then _ else _) _ _ s; rw [if_neg (show ¬ ((Value.ref t == Value.none) = true) from Bool.false_ne_true)]
 show wpAny _ _ (field (.ref it) 1 >>= _) _ _ s; refine wpAny_bind (wpAny_field a1 a3 (x:=.int i 0) rfl ?_)
 show wpAny _ _ (seqItems? (.ref t) >>= _) _ _ s; refine wpAny_bind (wpAny_seqItems b1 b2 ?_)
 simp only [Int.toNat_natCast,c]
 refine wpAny_bind (wpAny_setField a1 a3 (by simp) (wpAny_pure ⟨x,rfl,wpAny_pure (q _ ?_ (Heap.SameBut.update ..))⟩))
 exact ⟨_,Heap.get?_update_self _ a1 (Obj.isFreed_of_fields (Obj.data_mapFields a3 _)),(Obj.cls_mapFields ..).trans a2,by rw [Obj.data_mapFields a3]; simp [rawInt]⟩
theorem next_tup_end {it t:Addr} {i:Nat} {its:Array Value} {Q:Value -> Shared -> Prop} (hh:A.handled = none) (a:s.heap.IsTupleIter it t i) (b:s.heap.IsTuple t its) (c:its[i]? = none)
  (q:∀ g e,Heap.ExtBut it s.heap g -> (∃ o,g.get? e = some o /\ o.cls = .type "StopIteration") -> E (.ref e) { s with heap:=g }):wpAny (model prog w) A (Builtin.SmallTypes.nextOf (.ref it)) Q E s:=by
 obtain ⟨u,a1,a2,a3⟩:=id a
 obtain ⟨v,b1,_,bn,b2⟩:=b
 unfold Builtin.SmallTypes.nextOf
 refine wpAny_bind (wpAny_callSpecial?_slot (name:=Str.ofString "__next__") a.typeIs F.slot_tuple_iterator_next (wpAny_call_entry F.slot_tuple_iterator_next a.typeIs F.entry_tuple_iterator_next ?_ (F.args_tuple_iterator_next_1 _)))
 show wpAny _ _ (field (.ref it) 0 >>= _) _ _ s; refine wpAny_bind (wpAny_field a1 a3 (x:=.ref t) rfl ?_)
 show wpAny _ _ (if (Value.ref t == Value.none) = true then _ else _) _ _ s; rw [if_neg (show ¬ ((Value.ref t == Value.none) = true) from Bool.false_ne_true)]
 show wpAny _ _ (field (.ref it) 1 >>= _) _ _ s; refine wpAny_bind (wpAny_field a1 a3 (x:=.int i 0) rfl ?_)
 show wpAny _ _ (seqItems? (.ref t) >>= _) _ _ s; refine wpAny_bind (wpAny_seqItems b1 b2 ?_)
 simp only [Int.toNat_natCast,c]
 refine wpAny_bind (wpAny_rule (wpAny_bind (wpAny_setField a1 a3 (by simp) ?_))); show wpAny _ _ (newExc (.type "StopIteration") [] >>= _) _ _ _
 refine wpAny_bind ?_; simp only [newExc,newTuple]; refine wpAny_bind (wpAny_newObj_type ?_ (by size_fits))
 refine wpAny_bind (m:=firstArgMember _ _) (wpAny_of_eq (a:=Value.none) (by first | rfl | (simp only [firstArgMember]; rfl)) ?_); refine wpAny_newObj_type ?_ (by size_fits)
 simp only [raiseNew]; refine wpAny_bind (wpAny_handled ?_)
 (first | rw [show A.in1.handled = none from hh] | rw [hh]); refine wpAny_bind (wpAny_pure (wpAny_throw ?_))
 exact q _ _ (((Heap.SameBut.update ..).extBut.push _).push _) ⟨_,Heap.get?_push_size _ rfl,rfl⟩
end
theorem draws_tup {prog:Program} {w:World} {A:Around} (hh:A.handled = none) (it l:Addr) (hne:l ≠ it) (its:Array Value) :
  Draws prog w A it [it,l] its.size (fun i v=>its[i]? = some v) (fun i h=>h.IsTupleIter it l i /\ h.IsTuple l its) where
 live:=fun _ _ st=>let ⟨o,ho,_⟩:=st.1; ⟨o,ho⟩
 frame:=fun _ _ _ st hk=>⟨(let ⟨o,ho,r⟩:=st.1; ⟨o,hk it (by simp) o ho,r⟩),(let ⟨o,ho,r⟩:=st.2; ⟨o,hk l (by simp) o ho,r⟩)⟩
 item:=fun i s Q E hi st q=>next_tup st.1 st.2 (x:=its[i]) (by simp [hi]) fun g a b=>q _ g s.toks (by simp [hi]) ⟨a,st.2.extBut b.extBut hne⟩ b
 done:=fun s Q E st q=>next_tup_end hh st.1 st.2 (by simp) q
section
variable {prog:Program} {w:World} {A:Around} {E:Value -> Shared -> Prop} {s:Shared} {z TI TO i1 i2:Addr} {f1 f2:List Addr} {n1 n2 k:Nat} {P1 P2:Nat -> Value -> Prop} {T1 T2:Nat -> Heap -> Prop} {a b:Value}
structure ZApart (z TI TO i1 i2:Addr) (f1 f2:List Addr):Prop where
 tiz:TI ≠ z
 toz:TO ≠ z
 tito:TI ≠ TO
 ti1:TI ≠ i1
 ti2:TI ≠ i2
 to1:TO ≠ i1
 to2:TO ≠ i2
 z1:z ≠ i1
 z2:z ≠ i2
 n12:i1 ≠ i2
 zf1:z ∉ f1
 zf2:z ∉ f2
 tf1:TO ∉ f1
 tf2:TO ∉ f2
 if1:i2 ∉ f1
 if2:i1 ∉ f2
theorem zipD_item {Q:Value -> Shared -> Prop} (D1:Draws prog w A i1 f1 n1 P1 T1) (D2:Draws prog w A i2 f2 n2 P2 T2) (Z:ZApart z TI TO i1 i2 f1 f2) (hz:IsZip s.heap z TI TO .none) (hTI:IsPair s.heap TI (.ref i1) (.ref i2)) (hTO:IsPair s.heap TO a b)
  (h1:T1 k s.heap) (h2:T2 k s.heap) (k1:k < n1) (k2:k < n2)
  (hQ:∀ x y g tk,P1 k x -> P2 k y -> IsZip g z TI TO (rawInt s.heap.objs.size) -> IsPair g TO x y -> T1 (k + 1) g -> T2 (k + 1) g -> IsPair g s.heap.objs.size x y -> g.objs.size = s.heap.objs.size + 1 ->
   (∀ c o,c ∉ [z,TO,i1,i2] -> s.heap.get? c = some o -> g.get? c = some o) -> Q (.ref s.heap.objs.size) { s with heap:=g,toks:=tk }) :
  wpAny (model prog w) A (Builtin.«zip.__next__» ⟨[.ref z],[]⟩) (fun fin s'=>∃ v,fin = .done (.ret v) /\ Q v s') E s:=by
 show wpAny _ _ (field (.ref z) 2 >>= _) _ _ _; refine wpAny_bind (wpAny_field hz rfl (x:=.bool false) rfl ?_)
 show wpAny _ _ (field (.ref z) 3 >>= _) _ _ _; refine wpAny_bind (wpAny_field hz rfl (x:=.ref TI) rfl ?_)
 refine wpAny_bind (wpAny_seqItems hTI rfl ?_); show wpAny _ _ (Builtin.SmallTypes.ownedTupleIsFree (.ref z) >>= _) _ _ _
 refine wpAny_bind ?_; unfold Builtin.SmallTypes.ownedTupleIsFree
 refine wpAny_bind (wpAny_field hz rfl (x:=.none) rfl (wpAny_pure ?_)); simp only [if_true]
 refine wpAny_bind (wpAny_rule ?_); refine wpAny_bind (wpAny_field hz rfl (x:=.ref TO) rfl ?_)
 refine wpAny_bind (wpAny_setField_rec hz (by simp) fun g1 hz1 s1=>?_)
 replace hz1:IsZip g1 z TI TO .ellipsis:=hz1
 refine wpAny_bind ?_; simp only [List.zipIdx_cons,List.zipIdx_nil,List.forIn_cons,List.forIn_nil]
 refine wpAny_bind (wpAny_bind (wpAny_onRaise ?_)); show wpAny _ _ (Builtin.SmallTypes.nextOf (.ref i1) >>= _) _ _ _
 refine wpAny_bind (D1.item k _ _ _ k1 (D1.frame k _ _ h1 fun c hc o e=>s1.extBut _ _ (fun z'=>Z.zf1 (z' ▸ hc)) e) fun x g2 tk2 p1 t1 s2=>wpAny_pure ?_)
 replace s2:Heap.SameBut i1 g1 g2:=s2
 have hTO2:IsPair g2 TO a b:=s2.extBut _ _ Z.to1 (s1.extBut _ _ Z.toz hTO)
 refine wpAny_bind (wpAny_seqItems hTO2 rfl ?_); refine wpAny_bind (wpAny_updateSeq_pair hTO2 fun g3 hTO3 s3=>?_)
 replace hTO3:IsPair g3 TO x b:=hTO3
 replace s3:Heap.SameBut TO g2 g3:=s3
 refine wpAny_bind (wpAny_letGo (wpAny_pure ?_)); refine wpAny_bind (wpAny_bind (wpAny_onRaise ?_))
 show wpAny _ _ (Builtin.SmallTypes.nextOf (.ref i2) >>= _) _ _ _
 have t2':T2 k g3:=D2.frame k _ _ h2 fun c hc o e=>s3.extBut _ _ (fun z'=>Z.tf2 (z' ▸ hc)) (s2.extBut _ _ (fun z'=>Z.if2 (z' ▸ hc)) (s1.extBut _ _ (fun z'=>Z.zf2 (z' ▸ hc)) e))
 refine wpAny_bind (D2.item k _ _ _ k2 t2' fun y g4 tk4 p2 t2 s4=>wpAny_pure ?_)
 replace s4:Heap.SameBut i2 g3 g4:=s4
 have hTO4:IsPair g4 TO x b:=s4.extBut _ _ Z.to2 hTO3
 refine wpAny_bind (wpAny_seqItems hTO4 rfl ?_); refine wpAny_bind (wpAny_updateSeq_pair hTO4 fun g5 hTO5 s5=>?_)
 replace hTO5:IsPair g5 TO x y:=hTO5
 replace s5:Heap.SameBut TO g4 g5:=s5
 refine wpAny_bind (wpAny_letGo (wpAny_pure (wpAny_pure ?_))); refine wpAny_bind (wpAny_seqItems hTO5 rfl ?_)
 refine wpAny_bind (wpAny_newTuple ?_)
 have hsz:g5.objs.size = s.heap.objs.size:=by rw [s5.1,s4.1,s3.1,s2.1,s1.1]
 have hz5:IsZip g5 z TI TO .ellipsis:=s5.extBut _ _ Z.toz.symm (s4.extBut _ _ Z.z2 (s3.extBut _ _ Z.toz.symm (s2.extBut _ _ Z.z1 hz1)))
 have k5:∀ c o,c ∉ [z,TO,i1,i2] -> s.heap.get? c = some o -> g5.get? c = some o:=fun c o hc e=>by
  simp only [List.mem_cons,List.not_mem_nil,or_false,not_or] at hc
  exact s5.extBut _ _ hc.2.1 (s4.extBut _ _ hc.2.2.2 (s3.extBut _ _ hc.2.1 (s2.extBut _ _ hc.2.2.1 (s1.extBut _ _ hc.1 e))))
 have t15:T1 (k + 1) g5:=D1.frame _ _ _ t1 fun c hc o e=>s5.extBut _ _ (fun z'=>Z.tf1 (z' ▸ hc)) (s4.extBut _ _ (fun z'=>Z.if1 (z' ▸ hc)) (s3.extBut _ _ (fun z'=>Z.tf1 (z' ▸ hc)) e))
 have t25:T2 (k + 1) g5:=D2.frame _ _ _ t2 fun c hc o e=>s5.extBut _ _ (fun z'=>Z.tf2 (z' ▸ hc)) e
 have zlt:z < g5.objs.size:=Heap.lt_size hz5
 show wpAny _ _ (Builtin.SmallTypes.ownedTupleHandOut (.ref z) (.ref g5.objs.size) >>= _) _ _ _; refine wpAny_bind ?_
 unfold Builtin.SmallTypes.ownedTupleHandOut
 have hz6:IsZip (g5.push { cls:=.type "tuple",data:=.seq #[x,y] }) z TI TO .ellipsis:=Heap.get?_push_of_some _ hz5
 refine wpAny_bind (wpAny_setField_rec hz6 (by simp) fun g7 hz7 s7=>?_)
 replace hz7:IsZip g7 z TI TO (rawInt g5.objs.size):=hz7
 refine wpAny_setField_rec hz7 (by simp) fun g8 hz8 s8=>?_
 replace hz8:IsZip g8 z TI TO (rawInt g5.objs.size):=hz8
 have up:∀ c o,c ≠ z -> g5.get? c = some o -> g8.get? c = some o:=fun c o hc e=>s8.extBut _ _ hc (s7.extBut _ _ hc (Heap.get?_push_of_some _ e))
 have hT8:IsPair g8 g5.objs.size x y:=s8.extBut _ _ (Nat.ne_of_gt zlt) (s7.extBut _ _ (Nat.ne_of_gt zlt) (Heap.get?_push_size _ rfl))
 have hn8:g8.objs.size = g5.objs.size + 1:=by rw [s8.1,s7.1,Heap.size_push]
 rw [hsz] at hz8 hT8 hn8
 refine wpAny_pure ⟨_,rfl,?_⟩; show Q (.ref g5.objs.size) _; rw [hsz]
 exact hQ x y g8 _ p1 p2 hz8 (up _ _ Z.toz hTO5) (D1.frame _ _ _ t15 fun c hc o e=>up c o (fun z'=>Z.zf1 (z' ▸ hc)) e) (D2.frame _ _ _ t25 fun c hc o e=>up c o (fun z'=>Z.zf2 (z' ▸ hc)) e) hT8 hn8
  fun c o hc e=>up c o (fun z'=>hc (by simp [z'])) (k5 c o hc e)
theorem zipD_end {Q:Fin -> Shared -> Prop} (D1:Draws prog w A i1 f1 n1 P1 T1) (D2:Draws prog w A i2 f2 n2 P2 T2) (Z:ZApart z TI TO i1 i2 f1 f2) (hz:IsZip s.heap z TI TO .none) (hTI:IsPair s.heap TI (.ref i1) (.ref i2)) (hTO:IsPair s.heap TO a b)
  (h1:T1 k s.heap) (h2:T2 k s.heap) (hk:k = n1 \/ (k < n1 /\ k = n2))
  (hE:∀ g tk e,(∀ c o,c ∉ [z,TO,i1,i2] -> s.heap.get? c = some o -> g.get? c = some o) -> (∃ o,g.get? e = some o /\ o.cls = .type "StopIteration") -> E (.ref e) { s with heap:=g,toks:=tk }) :
  wpAny (model prog w) A (Builtin.«zip.__next__» ⟨[.ref z],[]⟩) Q E s:=by
 show wpAny _ _ (field (.ref z) 2 >>= _) _ _ _; refine wpAny_bind (wpAny_field hz rfl (x:=.bool false) rfl ?_)
 show wpAny _ _ (field (.ref z) 3 >>= _) _ _ _; refine wpAny_bind (wpAny_field hz rfl (x:=.ref TI) rfl ?_)
 refine wpAny_bind (wpAny_seqItems hTI rfl ?_); show wpAny _ _ (Builtin.SmallTypes.ownedTupleIsFree (.ref z) >>= _) _ _ _
 refine wpAny_bind ?_; unfold Builtin.SmallTypes.ownedTupleIsFree
 refine wpAny_bind (wpAny_field hz rfl (x:=.none) rfl (wpAny_pure ?_)); simp only [if_true]
 refine wpAny_bind (wpAny_rule ?_); refine wpAny_bind (wpAny_field hz rfl (x:=.ref TO) rfl ?_)
 refine wpAny_bind (wpAny_setField_rec hz (by simp) fun g1 hz1 s1=>?_)
 replace hz1:IsZip g1 z TI TO .ellipsis:=hz1
 refine wpAny_bind ?_; simp only [List.zipIdx_cons,List.zipIdx_nil,List.forIn_cons,List.forIn_nil]
 refine wpAny_bind (wpAny_bind (wpAny_onRaise ?_)); show wpAny _ _ (Builtin.SmallTypes.nextOf (.ref i1) >>= _) _ _ _
 have t1':T1 k g1:=D1.frame k _ _ h1 fun c hc o e=>s1.extBut _ _ (fun z'=>Z.zf1 (z' ▸ hc)) e
 rcases hk with rfl | ⟨k1,rfl⟩
 ·refine wpAny_bind (D1.done _ _ _ t1' fun g2 e s2 he=>?_)
  obtain ⟨oe,he1,he2⟩:=he
  have hz2:IsZip g2 z TI TO .ellipsis:=s2 _ _ Z.z1 hz1
  have hez:e ≠ z:=fun x=>by subst x; rw [hz2] at he1; cases he1; simp at he2
  refine wpAny_setField_rec hz2 (by simp) fun g3 _ s3=>hE g3 _ e (fun c o hc x=>?_) ⟨oe,s3.extBut _ _ hez he1,he2⟩
  simp only [List.mem_cons,List.not_mem_nil,or_false,not_or] at hc
  exact s3.extBut _ _ hc.1 (s2 _ _ hc.2.2.1 (s1.extBut _ _ hc.1 x))
 ·refine wpAny_bind (D1.item k _ _ _ k1 t1' fun x g2 tk2 p1 t1 s2=>wpAny_pure ?_)
  replace s2:Heap.SameBut i1 g1 g2:=s2
  have hTO2:IsPair g2 TO a b:=s2.extBut _ _ Z.to1 (s1.extBut _ _ Z.toz hTO)
  refine wpAny_bind (wpAny_seqItems hTO2 rfl ?_); refine wpAny_bind (wpAny_updateSeq_pair hTO2 fun g3 hTO3 s3=>?_)
  replace s3:Heap.SameBut TO g2 g3:=s3
  refine wpAny_bind (wpAny_letGo (wpAny_pure ?_)); refine wpAny_bind (wpAny_bind (wpAny_onRaise ?_))
  show wpAny _ _ (Builtin.SmallTypes.nextOf (.ref i2) >>= _) _ _ _
  have t2':T2 k g3:=D2.frame k _ _ h2 fun c hc o e=>s3.extBut _ _ (fun z'=>Z.tf2 (z' ▸ hc)) (s2.extBut _ _ (fun z'=>Z.if2 (z' ▸ hc)) (s1.extBut _ _ (fun z'=>Z.zf2 (z' ▸ hc)) e))
  refine wpAny_bind (D2.done _ _ _ t2' fun g4 e s4 he=>?_)
  obtain ⟨oe,he1,he2⟩:=he
  have hz4:IsZip g4 z TI TO .ellipsis:=s4 _ _ Z.z2 (s3.extBut _ _ Z.toz.symm (s2.extBut _ _ Z.z1 hz1))
  have hez:e ≠ z:=fun x=>by subst x; rw [hz4] at he1; cases he1; simp at he2
  refine wpAny_setField_rec hz4 (by simp) fun g5 _ s5=>hE g5 _ e (fun c o hc x=>?_) ⟨oe,s5.extBut _ _ hez he1,he2⟩
  simp only [List.mem_cons,List.not_mem_nil,or_false,not_or] at hc
  exact s5.extBut _ _ hc.1 (s4 _ _ hc.2.2.2 (s3.extBut _ _ hc.2.1 (s2.extBut _ _ hc.2.2.1 (s1.extBut _ _ hc.1 x))))
end
def ItAt:Bool -> Heap -> Addr -> Addr -> Nat -> Prop
 | true,h,it,l,i=>h.IsListIter it l i
 | false,h,it,l,i=>h.IsTupleIter it l i
def SrcAt:Bool -> Heap -> Addr -> Array Value -> Prop
 | true,h,l,its=>h.IsList l its
 | false,h,l,its=>h.IsTuple l its
def SrcH (K:PySem.W.Frag) (b:Bool) (H:Hp) (l:Addr) (xs:List V):Prop:=vw K H l = some (if b = true then .lst xs else .tup xs)
theorem draws_src {prog:Program} {w:World} {A:Around} (hh:A.handled = none) (b:Bool) (it l:Addr) (hne:l ≠ it) (its:Array Value) :
  Draws prog w A it [it,l] its.size (fun i v=>its[i]? = some v) (fun i h=>ItAt b h it l i /\ SrcAt b h l its):=by
 cases b with
 | true=>exact Draws.list hh it l hne its
 | false=>exact draws_tup hh it l hne its
theorem ItAt.at {b:Bool} {h h':Heap} {it l:Addr} {i:Nat} (x:ItAt b h it l i) (e:∀ o,h.get? it = some o -> h'.get? it = some o):ItAt b h' it l i:=by
 cases b with
 | true=>obtain ⟨o,ho,r⟩:=x; exact ⟨o,e o ho,r⟩
 | false=>obtain ⟨o,ho,r⟩:=x; exact ⟨o,e o ho,r⟩
theorem ItAt.obj {b:Bool} {h:Heap} {it l:Addr} {i:Nat} (x:ItAt b h it l i):∃ o,h.get? it = some o /\ ∀ v,o.data ≠ .cell v:=by
 cases b with
 | true=>obtain ⟨o,ho,_,d⟩:=x; exact ⟨o,ho,fun v z=>by rw [d] at z; cases z⟩
 | false=>obtain ⟨o,ho,_,d⟩:=x; exact ⟨o,ho,fun v z=>by rw [d] at z; cases z⟩
theorem SrcAt.obj {b:Bool} {h:Heap} {l:Addr} {its:Array Value} (x:SrcAt b h l its):∃ o,h.get? l = some o:=by
 cases b with
 | true=>obtain ⟨o,ho,_⟩:=x; exact ⟨o,ho⟩
 | false=>obtain ⟨o,ho,_⟩:=x; exact ⟨o,ho⟩
theorem Inv.src {X:Cx} {pins:List (Addr × Obj)} {σ:St} {H:Hp} {s:Shared} (I:Inv X pins σ H s) {b:Bool} {l:Addr} {xs:List V} (h:SrcH X.K b H l xs):∃ its:List Value,Vals xs its /\ SrcAt b s.heap l its.toArray /\ xs.length <= sizeLine:=by
 cases b with
 | true =>
  obtain ⟨its,rv,p,hz⟩:=I.list (SqL.of (K:=X.K) (vw_lst h))
  exact ⟨its,rv,p.isList,hz⟩
 | false =>
  obtain ⟨its,rv,p,hz⟩:=I.tuple (vw_tup h)
  exact ⟨its,rv,p,hz⟩
theorem SrcH.inj {K:PySem.W.Frag} {b:Bool} {H:Hp} {l:Addr} {xs ys:List V} (h:SrcH K b H l xs) (g:SrcH K b H l ys):xs = ys:=by
 unfold SrcH at h g
 rw [h] at g
 cases b <;> cases g <;> rfl
def zipR (K:PySem.W.Frag) (b1 b2:Bool) (l1 l2:Addr):Hp -> List (List V) -> Prop:=fun H ys=>∃ xs zs,SrcH K b1 H l1 xs /\ SrcH K b2 H l2 zs /\ ys = List.zipWith (fun x z=>[x,z]) xs zs
end L2
namespace L2
open PySem PySem.Spec PyProof.Rows
section
variable {prog:Program} {w:World} {A:Around} {E:Value -> Shared -> Prop} {s:Shared} {z TI TO i1 i2 l1 l2:Addr} {k:Nat} {b1 b2:Bool} {u1 u2:Array Value} {a b:Value}
theorem zap {n:Nat} (h1 : @LT.lt Nat _ l1 n) (h2 : @LT.lt Nat _ l2 n):ZApart (n + 4) (n + 2) (n + 3) n (n + 1) [n,l1] [n + 1,l2]:=by
 constructor <;> (try simp only [List.mem_cons,List.not_mem_nil,or_false,not_or]) <;> (try constructor) <;> (intro e; have e':(_:Nat) = _:=e; walk_at "o")
theorem nextZ_item {Q:Option Value -> Shared -> Prop} (hh:A.handled = none) (Z:ZApart z TI TO i1 i2 [i1,l1] [i2,l2]) (n1:l1 ≠ i1) (n2:l2 ≠ i2) (hz:IsZip s.heap z TI TO .none) (hTI:IsPair s.heap TI (.ref i1) (.ref i2)) (hTO:IsPair s.heap TO a b)
  (h1:ItAt b1 s.heap i1 l1 k) (h2:ItAt b2 s.heap i2 l2 k) (p1:SrcAt b1 s.heap l1 u1) (p2:SrcAt b2 s.heap l2 u2) (k1:k < u1.size) (k2:k < u2.size)
  (hQ:∀ x y g tk,u1[k]? = some x -> u2[k]? = some y -> IsZip g z TI TO (rawInt s.heap.objs.size) -> IsPair g TO x y -> ItAt b1 g i1 l1 (k + 1) -> ItAt b2 g i2 l2 (k + 1) -> IsPair g s.heap.objs.size x y -> g.objs.size = s.heap.objs.size + 1 ->
   (∀ c o,c ∉ [z,TO,i1,i2] -> s.heap.get? c = some o -> g.get? c = some o) -> Q (some (.ref s.heap.objs.size)) { s with heap:=g,toks:=tk }):wpAny (model prog w) A (pyNext (.ref z)) Q E s:=by
 have hT:s.TypeIs (.ref z) "zip":=⟨_,hz,rfl⟩
 unfold pyNext
 refine wpAny_bind (wpAny_attempt (wpAny_callSpecial?_slot (name:=Str.ofString "__next__") hT F.slot_zip_next (wpAny_call_entry F.slot_zip_next hT F.entry_zip_next ?_ (F.args_zip_next_1 _))))
 have D1:Draws prog w A.in1 i1 [i1,l1] u1.size _ _:=draws_src (A:=A.in1) hh b1 i1 l1 n1 u1
 have D2:Draws prog w A.in1 i2 [i2,l2] u2.size _ _:=draws_src (A:=A.in1) hh b2 i2 l2 n2 u2
 exact zipD_item D1 D2 Z hz hTI hTO ⟨h1,p1⟩ ⟨h2,p2⟩ k1 k2 fun x y g tk e1 e2 c1 c2 c3 c4 c5 c6 c7=>wpAny_pure (hQ x y g tk e1 e2 c1 c2 c3.1 c4.1 c5 c6 c7)
theorem nextZ_end {Q:Option Value -> Shared -> Prop} (hh:A.handled = none) (Z:ZApart z TI TO i1 i2 [i1,l1] [i2,l2]) (n1:l1 ≠ i1) (n2:l2 ≠ i2) (hz:IsZip s.heap z TI TO .none) (hTI:IsPair s.heap TI (.ref i1) (.ref i2)) (hTO:IsPair s.heap TO a b)
  (h1:ItAt b1 s.heap i1 l1 k) (h2:ItAt b2 s.heap i2 l2 k) (p1:SrcAt b1 s.heap l1 u1) (p2:SrcAt b2 s.heap l2 u2) (hk:k = u1.size \/ (k < u1.size /\ k = u2.size))
  (hQ:∀ g tk,(∀ c o,c ∉ [z,TO,i1,i2] -> s.heap.get? c = some o -> g.get? c = some o) -> Q none { s with heap:=g,toks:=tk }):wpAny (model prog w) A (pyNext (.ref z)) Q E s:=by
 have hT:s.TypeIs (.ref z) "zip":=⟨_,hz,rfl⟩
 unfold pyNext
 refine wpAny_bind (wpAny_attempt (wpAny_callSpecial?_slot (name:=Str.ofString "__next__") hT F.slot_zip_next (wpAny_call_entry F.slot_zip_next hT F.entry_zip_next ?_ (F.args_zip_next_1 _))))
 have D1:Draws prog w A.in1 i1 [i1,l1] u1.size _ _:=draws_src (A:=A.in1) hh b1 i1 l1 n1 u1
 have D2:Draws prog w A.in1 i2 [i2,l2] u2.size _ _:=draws_src (A:=A.in1) hh b2 i2 l2 n2 u2
 refine zipD_end D1 D2 Z hz hTI hTO ⟨h1,p1⟩ ⟨h2,p2⟩ hk fun g tk e hk he=>?_
 obtain ⟨o,ho,hc⟩:=he
 refine wpAny_bind (wpAny_isInstance (T:="StopIteration") (b:=true) ⟨o,ho,hc⟩ isSubtype_stop (wpAny_pure (hQ _ _ hk)))
end
theorem Inv.turnL {X:Cx} {pins:List (Addr × Obj)} {σ:St} {H:Hp} {s:Shared} {h':Heap} {t':Nat} {ch:List Addr} (I:Inv X pins σ H s) (k:∀ b o,b ∉ ch -> s.heap.get? b = some o -> h'.get? b = some o) (hf:∀ b ∈ ch,FpOk X pins H b):Inv X pins σ H { s with heap:=h',toks:=t' }:=by
 have nch:∀ c v,H c = some v -> c ∉ ch:=fun c v z hc=>by
  rw [(hf c hc).1] at z
  cases z
 refine I.step (g':=s.gens) (d':=s.drawn) (ch:=ch) (fun b hb=>?_) (fun b o _ _ hc e _=>k b o hc e) (fun b o _ _ hc e _=>⟨o.slots,k b o hc e⟩) (fun b o _ e n=>n)
  (fun b o hc e=>⟨o,k b o hc e⟩) (fun b ys e=>e) (fun b o u e=>e) (fun b ps e=>⟨#[],by rw [e]; simp⟩) (fun m hm=>?_) (fun b u e=>?_) I.bare
 ·obtain ⟨_,f1,_,f3,f4,f5⟩:=hf b hb
  exact ⟨f3,f1,f4,f5⟩
 ·obtain ⟨o,es,ep,ho,r⟩:=hm
  exact ⟨o,es,ep,k _ o (fun z=>(hf _ z).2.1 rfl) ho,r⟩
 ·refine (I.hok b u e).stay (fun c v hc q=>k c v ?_ q) (fun c q=>q) fun c ys q=>q
  rcases hc with z | z
  ·rw [z]
   exact nch b u e
  ·exact nch c _ z
theorem turn_zip {P:Program} {w:World} {K:PySem.W.Frag} {elts:List Expr} {x1:Nat} {pos:Pos} {b1 b2:Bool} (z TI TO i1 i2 l1 l2:Addr) (Z:ZApart z TI TO i1 i2 [i1,l1] [i2,l2]) (n1:l1 ≠ i1) (n2:l2 ≠ i2) :
  Turn P w K (.Tuple elts x1 pos) (ItP K (zipR K b1 b2 l1 l2)) [z,TO,i1,i2,TI] z (fun i h=>IsZip h z TI TO .none /\ IsPair h TI (.ref i1) (.ref i2) /\ (∃ a b,IsPair h TO a b) /\ ItAt b1 h i1 l1 i /\ ItAt b2 h i2 l2 i) where
 mem:=by simp
 obj:=fun i h st b hb=>by
  obtain ⟨h1,h2,⟨a,c,h3⟩,h4,h5⟩:=st
  simp only [List.mem_cons,List.not_mem_nil,or_false] at hb
  rcases hb with rfl | rfl | rfl | rfl | rfl
  ·exact ⟨_,h1,fun v e=>by cases e⟩
  ·exact ⟨_,h3,fun v e=>by cases e⟩
  ·exact h4.obj
  ·exact h5.obj
  ·exact ⟨_,h2,fun v e=>by cases e⟩
 keep:=fun i h h' st k=>by
  obtain ⟨h1,h2,⟨a,c,h3⟩,h4,h5⟩:=st
  exact ⟨k z (by simp) _ h1,k TI (by simp) _ h2,⟨a,c,k TO (by simp) _ h3⟩,h4.at fun o e=>k i1 (by simp) o e,h5.at fun o e=>k i2 (by simp) o e⟩
 item:=by
  intro X hP hw hK hc i pins s σ H E I hf st hg
  subst hP hw hK
  obtain ⟨h1,h2,⟨a,c,h3⟩,h4,h5⟩:=st
  obtain ⟨ys,t,⟨xs,zs,q1,q2,rfl⟩,ht⟩:=hg
  have hlt:i < xs.length /\ i < zs.length:=by
   have:=(List.getElem?_eq_some_iff.mp ht).1
   simp at this
   walk_at "o"
  obtain ⟨u1,r1,p1,z1⟩:=I.src q1
  obtain ⟨u2,r2,p2,z2⟩:=I.src q2
  have e1:=r1.length
  have e2:=r2.length
  have tx:t = [xs[i]'hlt.1,zs[i]'hlt.2]:=by
   rw [List.getElem?_zipWith,List.getElem?_eq_getElem hlt.1,List.getElem?_eq_getElem hlt.2] at ht
   exact (Option.some.inj ht).symm
  refine nextZ_item (I.ok.hd hc) Z n1 n2 h1 h2 h3 h4 h5 p1 p2 (by simp; walk_at "o") (by simp; walk_at "o") fun x y g tk ex ey c1 c2 c3 c4 c5 c6 c7=>⟨_,rfl,?_⟩
  refine wpAny_letOwnedTupleGo_zip (s:={ s with heap:=g,toks:=tk }) c1 fun g2 d1 d2=>?_
  replace d2:Heap.SameBut z g g2:=d2
  have zs':z < s.heap.objs.size:=Heap.lt_size h1
  have rx:RelV (xs[i]'hlt.1) x:=by
   obtain ⟨u,hu,ru⟩:=r1.get (List.getElem?_eq_getElem hlt.1)
   rw [List.getElem?_toArray,hu] at ex
   cases ex
   exact ru
  have ry:RelV (zs[i]'hlt.2) y:=by
   obtain ⟨u,hu,ru⟩:=r2.get (List.getElem?_eq_getElem hlt.2)
   rw [List.getElem?_toArray,hu] at ey
   cases ey
   exact ru
  have hf4:∀ b ∈ [z,TO,i1,i2],FpOk X pins H b:=fun b hb=>hf b (by simp only [List.mem_cons,List.not_mem_nil,or_false] at hb ⊢; rcases hb with e | e | e | e <;> simp [e])
  have I4:Inv X pins σ (upd H s.heap.objs.size (.tup t)) { s with heap:=g2,toks:=tk }:=by
   rw [tx]
   exact I.turnT (its:=[x,y]) (fun b o hb e=>d2.extBut _ _ (fun e'=>hb (by simp [e'])) (c7 b o hb e)) hf4 (Nat.le_refl _) (show 2 <= sizeLine by decide) (.cons rx (.cons ry .nil)) ⟨_,d2.extBut _ _ (Nat.ne_of_gt zs') c5,rfl,_,rfl⟩
  have fr:=I.hok.fresh (Nat.le_refl s.heap.objs.size)
  have nk:=I.newK (Nat.le_refl s.heap.objs.size)
  have hTI2:IsPair g2 TI (.ref i1) (.ref i2):=d2.extBut _ _ Z.tiz (c7 TI _ (by simp [Z.tiz,Z.tito,Z.ti1,Z.ti2]) h2)
  refine ⟨.ref s.heap.objs.size,_,I4,rfl,⟨_,_,rfl,by rw [vw_new nk]; exact fr,vw_same (Same.upd fr),by rw [vw_new nk]; exact upd_same,?_⟩,⟨d1,hTI2,⟨_,_,d2.extBut _ _ Z.toz c2⟩,c3.at fun o e=>d2.extBut _ _ Z.z1.symm e,c4.at fun o e=>d2.extBut _ _ Z.z2.symm e⟩,fun b hb=>?_⟩
  ·rintro ys ⟨xs',zs',q1',q2',rfl⟩
   cases q1.inj q1'
   cases q2.inj q2'
   exact ht
  ·have:b < s.heap.objs.size:=by
    simp only [List.mem_cons,List.not_mem_nil,or_false] at hb
    rcases hb with rfl | rfl | rfl | rfl | rfl
    ·exact zs'
    ·exact Heap.lt_size h3
    ·obtain ⟨_,e,_⟩:=h4.obj; exact Heap.lt_size e
    ·obtain ⟨_,e,_⟩:=h5.obj; exact Heap.lt_size e
    ·exact Heap.lt_size h2
   rw [upd_ne (Nat.ne_of_lt this)]
   exact (hf b hb).1
 done:=by
  intro X hP hw hK hc i pins s σ H E I hf st hg
  subst hP hw hK
  obtain ⟨h1,h2,⟨a,c,h3⟩,h4,h5⟩:=st
  obtain ⟨ys,⟨xs,zs,q1,q2,rfl⟩,hl⟩:=hg
  obtain ⟨u1,r1,p1,z1⟩:=I.src q1
  obtain ⟨u2,r2,p2,z2⟩:=I.src q2
  have e1:=r1.length
  have e2:=r2.length
  have hk:i = u1.toArray.size \/ (i < u1.toArray.size /\ i = u2.toArray.size):=by
   rw [List.length_zipWith] at hl
   simp only [List.size_toArray]
   walk_at "o"
  have hf4:∀ b ∈ [z,TO,i1,i2],FpOk X pins H b:=fun b hb=>hf b (by simp only [List.mem_cons,List.not_mem_nil,or_false] at hb ⊢; rcases hb with e | e | e | e <;> simp [e])
  exact nextZ_end (I.ok.hd hc) Z n1 n2 h1 h2 h3 h4 h5 p1 p2 hk fun g tk k=>⟨rfl,I.turnL k hf4⟩
 self:=fun _ _ _ _ _ st h=>wpAny_pyIter_zip st.1 h
end L2
namespace L2
open PySem PySem.Spec PyProof.Rows
def itO (b:Bool) (l:Addr):Obj:=match b with
 | true=>{ cls:=.type "list_iterator",data:=.fields #[.ref l,.int 0 0] }
 | false=>{ cls:=.type "tuple_iterator",data:=.fields #[.ref l,.int 0 0] }
section
variable {prog:Program} {w:World} {A:Around} {E:Value -> Shared -> Prop} {s:Shared}
theorem iterSrc {b:Bool} {l:Addr} {u:Array Value} {Q:Value -> Shared -> Prop} (h:SrcAt b s.heap l u) (q:Q (.ref s.heap.objs.size) { s with heap:=s.heap.push (itO b l) }):wpAny (model prog w) A (pyIter (.ref l)) Q E s:=by
 cases b with
 | true=>exact wpAny_pyIter_list h q
 | false=>exact wpAny_pyIter_tuple h q
end
theorem SrcAt.push {b:Bool} {h:Heap} {l:Addr} {u:Array Value} (x:SrcAt b h l u) (o:Obj):SrcAt b (h.push o) l u:=by
 cases b with
 | true=>obtain ⟨v,e,r⟩:=x; exact ⟨v,Heap.get?_push_of_some _ e,r⟩
 | false=>obtain ⟨v,e,r⟩:=x; exact ⟨v,Heap.get?_push_of_some _ e,r⟩
theorem ItAt.new {b:Bool} {h:Heap} {it l:Addr} (e:h.get? it = some (itO b l)):ItAt b h it l 0:=by
 cases b with
 | true=>exact ⟨_,e,rfl,rfl⟩
 | false=>exact ⟨_,e,rfl,rfl⟩
abbrev zh1 (h:Heap) (b1:Bool) (l1:Addr):Heap:=h.push (itO b1 l1)
abbrev zh2 (h:Heap) (b1 b2:Bool) (l1 l2:Addr):Heap:=(zh1 h b1 l1).push (itO b2 l2)
abbrev zh3 (h:Heap) (b1 b2:Bool) (l1 l2:Addr):Heap:=(zh2 h b1 b2 l1 l2).push { cls:=.type "tuple",data:=.seq #[.ref h.objs.size,.ref (zh1 h b1 l1).objs.size] }
abbrev zh4 (h:Heap) (b1 b2:Bool) (l1 l2:Addr):Heap:=(zh3 h b1 b2 l1 l2).push { cls:=.type "tuple",data:=.seq #[.none,.none] }
abbrev zh5 (h:Heap) (b1 b2:Bool) (l1 l2:Addr):Heap:=(zh4 h b1 b2 l1 l2).push { cls:=.type "zip",data:=.fields #[.none,.bool false,.bool false,.ref (zh2 h b1 b2 l1 l2).objs.size,.ref (zh3 h b1 b2 l1 l2).objs.size] }
theorem meets_zipS (b1 b2:Bool) (l1 l2:Addr) (u1 u2:Array Value) :
  Meets (Builtin.«zip.__new__» ⟨[.type "zip",.ref l1,.ref l2],[]⟩) (fun _ R s=>SrcAt b1 s.heap l1 u1 /\ SrcAt b2 s.heap l2 u2 /\ R (.ok (.ret (.ref (zh4 s.heap b1 b2 l1 l2).objs.size))) { s with heap:=zh5 s.heap b1 b2 l1 l2 }) :=
 .of_wp fun prog w A R s h=>by
  obtain ⟨hp,g,d,tk,os⟩:=s; obtain ⟨q1,q2,h⟩:=h
  have hsub:=sub_zip
  have y1:SrcAt b1 (Shared.heap ⟨hp,g,d,tk,os⟩) l1 u1:=q1
  have y2:SrcAt b2 (Shared.heap ⟨hp.push (itO b1 l1),g,d,tk,os⟩) l2 u2:=SrcAt.push q2 _
  wp_walk using iterSrc y1,iterSrc y2
  exact ⟨_,rfl,h⟩
section
variable {prog:Program} {w:World} {A:Around} {E:Value -> Shared -> Prop} {s:Shared}
theorem callZ {b1 b2:Bool} {l1 l2:Addr} {u1 u2:Array Value} {Q:Value -> Shared -> Prop} (q1:SrcAt b1 s.heap l1 u1) (q2:SrcAt b2 s.heap l2 u2)
  (h:∀ g,IsZip g (s.heap.objs.size + 4) (s.heap.objs.size + 2) (s.heap.objs.size + 3) .none -> IsPair g (s.heap.objs.size + 2) (.ref s.heap.objs.size) (.ref (s.heap.objs.size + 1)) -> IsPair g (s.heap.objs.size + 3) .none .none ->
   ItAt b1 g s.heap.objs.size l1 0 -> ItAt b2 g (s.heap.objs.size + 1) l2 0 -> (∀ c o,s.heap.get? c = some o -> g.get? c = some o) -> Q (.ref (s.heap.objs.size + 4)) { s with heap:=g }) :
  wpAny (model prog w) A (call (.type "zip") [.ref l1,.ref l2]) Q E s:=by
 refine callType_new F.called_zip (by decide) (F.typeCall_zip_2 _ _) (F.newCall_zip_2 _ _) (fun obj=>F.args_object_init_3 obj _ _) F.entry_zip_new (meets_zipS b1 b2 l1 l2 u1 u2) ⟨q1,q2,?_⟩
 have v1:(zh1 s.heap b1 l1).objs.size = s.heap.objs.size + 1:=Heap.size_push ..
 have v2:(zh2 s.heap b1 b2 l1 l2).objs.size = s.heap.objs.size + 2:=by rw [Heap.size_push,v1]
 have v3:(zh3 s.heap b1 b2 l1 l2).objs.size = s.heap.objs.size + 3:=by rw [Heap.size_push,v2]
 have v4:(zh4 s.heap b1 b2 l1 l2).objs.size = s.heap.objs.size + 4:=by rw [Heap.size_push,v3]
 have g5:(zh5 s.heap b1 b2 l1 l2).get? (zh4 s.heap b1 b2 l1 l2).objs.size = some _:=Heap.get?_push_size _ rfl
 have g4:(zh5 s.heap b1 b2 l1 l2).get? (zh3 s.heap b1 b2 l1 l2).objs.size = some _:=Heap.get?_push_of_some _ (Heap.get?_push_size _ rfl)
 have g3:(zh5 s.heap b1 b2 l1 l2).get? (zh2 s.heap b1 b2 l1 l2).objs.size = some _:=Heap.get?_push_of_some _ (Heap.get?_push_of_some _ (Heap.get?_push_size _ rfl))
 have nf:∀ b l,(itO b l).isFreed = false:=fun b l=>by cases b <;> rfl
 have g2:(zh5 s.heap b1 b2 l1 l2).get? (zh1 s.heap b1 l1).objs.size = some (itO b2 l2):=Heap.get?_push_of_some _ (Heap.get?_push_of_some _ (Heap.get?_push_of_some _ (Heap.get?_push_size _ (nf _ _))))
 have g1:(zh5 s.heap b1 b2 l1 l2).get? s.heap.objs.size = some (itO b1 l1):=Heap.get?_push_of_some _ (Heap.get?_push_of_some _ (Heap.get?_push_of_some _ (Heap.get?_push_of_some _ (Heap.get?_push_size _ (nf _ _)))))
 show _ /\ _
 rw [v2,v3,v4] at g5
 rw [v1,v2] at g3
 rw [v3] at g4
 rw [v1] at g2
 rw [v4]
 exact ⟨⟨_,g5,rfl⟩,h _ g5 g3 g4 (.new g1) (.new g2) fun c o x=>Heap.get?_push_of_some _ (Heap.get?_push_of_some _ (Heap.get?_push_of_some _ (Heap.get?_push_of_some _ (Heap.get?_push_of_some _ x))))⟩
end
def iZip (K:PySem.W.Frag) (ta:TA):TI:=fun σ H R=>ta σ H fun vs H1=>∃ a b,vs = [.ref a,.ref b] /\ ∃ c d,(∃ xs,SrcH K c H1 a xs) /\ (∃ ys,SrcH K d H1 b ys) /\ R (ItP K (zipR K c d a b)) H1
theorem pi_zip {X:Cx} {elts:List Expr} {x1:Nat} {tp p pos:Pos} {a b:Expr} {ta:TA} (hg:Gl X "zip") (hm:X.mg "zip" = none) (ha:PA X [a,b] ta) (hs:starEach [a,b] X.env = [(false,eval a X.env),(false,eval b X.env)]:=by rfl) (hs2:starEach [b] X.env = [(false,eval b X.env)]:=by rfl) :
  PI X (.Tuple elts x1 tp) (.Call (.Name "zip" p) [a,b] [] pos) (iZip X.K ta):=by
 intro pins s σ H R I h
 refine Call_ (ld_blt I hg hm bt_zip (PyProof.Rows.callWith_type1 (thn (ha pos pins s σ H _ I h) fun us s1 ⟨vs,H1,I1,r1,q1⟩=>?_) (by rw [hs,hs2]) (by rw [hs2]; rfl)))
 obtain ⟨l1,l2,e,c,d,⟨xs,hx⟩,⟨ys,hy⟩,q⟩:=q1
 subst e
 cases r1 with
 | cons r rr =>
  cases rr with
  | cons r' rr =>
   cases rr
   cases r
   cases r'
   obtain ⟨u1,t1,p1,_⟩:=I1.src hx
   obtain ⟨u2,t2,p2,_⟩:=I1.src hy
   refine callZ p1 p2 fun g c1 c2 c3 c4 c5 k=>?_
   refine wpAny_pyIter_zip (s:={ s1 with heap:=g }) c1 ?_
   have m1:l1 < s1.heap.objs.size:=by obtain ⟨_,e⟩:=p1.obj; exact Heap.lt_size e
   have m2:l2 < s1.heap.objs.size:=by obtain ⟨_,e⟩:=p2.obj; exact Heap.lt_size e
   refine ⟨_,_,_,_,H1,rfl,I1.kept (t':=s1.toks) k,turn_zip _ _ _ _ _ l1 l2 (zap m1 m2) (Nat.ne_of_lt m1) (Nat.ne_of_lt (Nat.lt_succ_of_lt m2)),⟨c1,c2,⟨_,_,c3⟩,c4,c5⟩,fun f hf=>?_,q⟩
   have hf':s1.heap.objs.size <= f:=by
    simp only [List.mem_cons,List.not_mem_nil,or_false] at hf
    rcases hf with z | z | z | z | z <;> rw [z]
    ·exact Nat.le_add_right _ 4
    ·exact Nat.le_add_right _ 3
    ·exact Nat.le_refl _
    ·exact Nat.le_add_right _ 1
    ·exact Nat.le_add_right _ 2
   exact I1.fpOk hf' (I1.hok.fresh hf')
theorem qi_zip {X:Cx} {elts:List Expr} {x1:Nat} {tp p pos:Pos} {a b:Expr} {ta:TA} (hg:Gl X "zip") (hm:X.mg "zip" = none) (ha:QA X [a,b] ta) (hs:starEach [a,b] X.env = [(false,eval a X.env),(false,eval b X.env)]:=by rfl) (hs2:starEach [b] X.env = [(false,eval b X.env)]:=by rfl) :
  QI X (.Tuple elts x1 tp) (.Call (.Name "zip" p) [a,b] [] pos) (iZip X.K ta):=⟨pi_zip hg hm ha.h hs hs2⟩
end L2
namespace L2
open PySem PySem.Spec PyProof.Rows
section
variable {X:Cx} {pins:List (Addr × Obj)} {σ:St} {H:Hp} {s:Shared}
theorem Inv.kitx (I:Inv X pins σ H s) {x:V} {u:Value} {n:String} (rx:RelV x u) (hn:tyN (vw X.K H) x = some n) :
  ∃ G:Heap -> Prop,PySem.W.KitX X.K u (.type n) G /\ G s.heap /\ u ≠ .builtin "__main__.__loader__#opaque" /\ TyName n:=by
 cases x with
 | non=>cases hn; cases (show u = Value.none from rx); exact ⟨_,PySem.W.kitx_none,True.intro,(fun z=>nomatch z),.inl rfl⟩
 | bl b=>cases hn; cases (show u = Value.bool b from rx); exact ⟨_,PySem.W.kitx_bool,True.intro,(fun z=>nomatch z),.inr (.inl rfl)⟩
 | int b=>cases hn; obtain ⟨t,q⟩:=(show ∃ t,u = Value.int b t from rx); cases q; exact ⟨_,PySem.W.kitx_int,True.intro,(fun z=>nomatch z),.inr (.inr (.inl rfl))⟩
 | str b=>cases hn; obtain ⟨t,q⟩:=(show ∃ t,u = Value.str b t from rx); cases q; exact ⟨_,PySem.W.kitx_str,True.intro,(fun z=>nomatch z),.inr (.inr (.inr (.inl rfl)))⟩
 | flt b=>cases hn
 | byt b=>cases hn
 | ty b=>cases hn
 | ref a =>
  cases (show u = Value.ref a from rx)
  unfold tyN at hn
  dsimp only at hn
  split at hn
  ·rename_i xs e
   cases hn
   obtain ⟨_,_,k,_,h1⟩:=(show ObjOk X.prog X.w H s.heap a (.lst xs) from I.hok a _ (vw_lst e))
   exact ⟨_,PySem.W.kitx_list,⟨_,h1,rfl⟩,(fun z=>nomatch z),.inr (.inr (.inr (.inr (.inl rfl))))⟩
  ·rename_i o xs e
   cases hn
   obtain ⟨h0,h1⟩:=(show ObjOk X.prog X.w H s.heap a (.frz o (.lst xs)) from I.hok a _ (vw_get e fun _ z=>by cases z))
   obtain ⟨_,_,k,_,h1⟩:=h1
   exact ⟨_,PySem.W.kitx_list,⟨_,h1,rfl⟩,(fun z=>nomatch z),.inr (.inr (.inr (.inr (.inl rfl))))⟩
  ·rename_i ys e
   cases hn
   obtain ⟨its,rv,⟨o,h1,h2,_⟩,hz⟩:=I.tuple (vw_tup e)
   exact ⟨_,PySem.W.kitx_tuple,⟨o,h1,h2⟩,(fun z=>nomatch z),.inr (.inr (.inr (.inr (.inr (.inl rfl)))))⟩
  ·rename_i kvs e
   cases hn
   obtain ⟨_,_,vs,_,d⟩:=(show ObjOk X.prog X.w H s.heap a (.dK kvs) from I.hok a _ (vw_get e fun _ z=>by cases z))
   obtain ⟨o,es,ep,h1,h2,_⟩:=d
   exact ⟨_,PySem.W.kitx_dict,⟨o,h1,h2.1⟩,(fun z=>nomatch z),.inr (.inr (.inr (.inr (.inr (.inr rfl)))))⟩
  ·cases hn
theorem kit_tl {K:PySem.W.Frag} {n:String} (hn:TyName n):PySem.W.kitAny K (.type n) [.type "tuple",.type "list"] = some (instN n "tuple" || instN n "list"):=by
 rcases hn with rfl | rfl | rfl | rfl | rfl | rfl | rfl <;> rfl
theorem call_isinstTL:CallR X (.builtin "isinstance") (fun xs H Q=>∃ x n p,xs = [x,.ref p] /\ vw X.K H p = some (.tup [.ty "tuple",.ty "list"]) /\ tyN (vw X.K H) x = some n /\ Q (.bl (instN n "tuple" || instN n "list")) H):=by
 intro pins s σ H xs us Q I r h
 obtain ⟨x,n,p,rfl,hp,hn,q⟩:=h
 obtain ⟨u,w',rfl,rx,ry⟩:=vals2 r
 cases ry
 obtain ⟨G,Z,g,hu,tn⟩:=I.kitx rx hn
 obtain ⟨its,rv,⟨o,h1,h2,k,h3⟩,hz⟩:=I.tuple (vw_tup hp)
 obtain ⟨oc,od,odt,osl⟩:=o
 dsimp only at h2 h3
 subst h2 h3
 cases rv with
 | cons r1 rv =>
  cases rv with
  | cons r2 rv =>
   cases rv
   cases r1
   cases r2
   exact PySem.W.kia_tup Z I.kIn g h1 (kit_tl tn) hu fun tk=>⟨.bl _,H,I.tok tk,rfl,q⟩
theorem vals_bl:∀ {bs:List Bool} {us:List Value},Vals (bs.map V.bl) us -> us = bs.map Value.bool
 | [],us,h=>by cases h; rfl
 | b :: bs,us,h=>by
  cases h with
  | cons r rr =>
   cases r
   rw [vals_bl rr]
   rfl
theorem all_range {bs:List Bool}:(List.range bs.length).all (fun i=>bs.getD i true) = bs.all id:=by
 induction bs with
 | nil=>rfl
 | cons b bs ih =>
  rw [List.length_cons,List.range_succ_eq_map,List.all_cons,List.all_cons,List.all_map]
  have e:((fun i=>(b :: bs).getD i true) ∘ Nat.succ) = fun i=>bs.getD i true:=by
   funext i
   simp
  rw [e,ih]
  rfl
theorem call_allB (hh:X.calm = true):CallR X (.builtin "all") (fun xs H Q=>∃ p,xs = [.ref p] /\ ∃ bs:List Bool,vw X.K H p = some (.lst (bs.map V.bl)) /\ Q (.bl (bs.all id)) H):=by
 intro pins s σ H xs us Q I r h
 obtain ⟨p,rfl,bs,hp,q⟩:=h
 cases r with
 | cons r1 rr =>
  cases rr
  cases r1
  obtain ⟨its,rv,pl,hz⟩:=I.list (SqL.of (K:=X.K) (vw_lst hp))
  have e:=vals_bl rv
  subst e
  have hlt:p < s.heap.objs.size:=by obtain ⟨o,n,e1,_⟩:=pl; exact Heap.lt_size e1
  refine call_all_walk (wpAny_pyIter_list pl.isList ⟨s.heap.objs.size,_,_,_,_,_,fun i=>bs.getD i true,rfl,Walks.list (show X.A.in1.handled = none from I.ok.hd hh) _ p (Nat.ne_of_lt hlt) _,⟨⟨_,Heap.get?_push_size _ rfl,rfl,rfl⟩,pl.isList.push _⟩,?_,fun h' tk hk=>?_⟩)
  ·intro i v s' Q' E' hv hq
   have hv':(bs.map Value.bool)[i]? = some v:=by simpa using hv
   rw [List.getElem?_map] at hv'
   cases hb:bs[i]? with
   | none=>rw [hb] at hv'; cases hv'
   | some b =>
    rw [hb] at hv'
    cases hv'
    replace hq:Q' (bs.getD i true) s':=hq
    rw [List.getD_eq_getElem?_getD,hb] at hq
    exact wpAny_truthy_bool hq
  ·rw [List.size_toArray,List.length_map,all_range]
   refine ⟨.bl _,H,I.kept fun b o e=>hk b o (fun z=>?_) (Heap.get?_push_of_some _ e),rfl,q⟩
   rw [List.mem_singleton.mp z] at e
   exact absurd (Heap.lt_size e) (Nat.lt_irrefl _)
end
def CN2 (K:PySem.W.Frag) (a:Addr) (σr:St) (Pv:List V -> Hp -> Prop):St -> Hp -> Prop:=fun σ H=>(∃ y z,σ = y :: z :: σr) /\ ∃ xs,vw K H a = some (.lst xs) /\ Pv xs H
theorem comp_rows {K:PySem.W.Frag} {R:Hp -> List (List V) -> Prop} {ps:List (V × V)} {tif:TT} {te:TE} {a:Addr} {x0 x1:Option V} {σr:St} {H0:Hp} {Q:Hp -> Prop} (Pv:Nat -> List V -> Hp -> Prop)
  (hl:∀ i xs H,i <= ps.length -> vw K H a = some (.lst xs) -> Pv i xs H -> R H (ps.map fun p=>[p.1,p.2])) (ha:vw K H0 a = some (.lst [])) (h0:Pv 0 [] H0)
  (hs:∀ i x y xs H H',i < ps.length -> ps[i]? = some (x,y) -> vw K H' a = some (.lst xs) -> Pv i xs H -> Same (vw K H) (vw K H') -> tif (some x :: some y :: σr) H' fun b H3=>if b = true then te (some x :: some y :: σr) H3 (CEl K a (CN2 K a σr (Pv (i + 1)) (some x :: some y :: σr))) else CN2 K a σr (Pv (i + 1)) (some x :: some y :: σr) H3)
  (hd:∀ xs H,vw K H a = some (.lst xs) -> Pv ps.length xs H -> Q H):CompOK K (ItP K R) (gTupH K 2 (gCons (gName 0) (gCons (gName 1) gNil))) tif te a (x0 :: x1 :: σr) H0 Q:=by
 refine ⟨fun i m σ H=>m = ps.length - i /\ i <= ps.length /\ CN2 K a σr (Pv i) σ H,⟨ps.length,by simp,Nat.zero_le _,⟨_,_,rfl⟩,_,ha,h0⟩,?_⟩
 rintro i m σ H ⟨rfl,hi,⟨y,z,rfl⟩,xs,hxs,p⟩
 have q:=hl i xs H hi hxs p
 by_cases hlt:i < ps.length
 ·refine .inr ⟨⟨_,_,q,by rw [List.getElem?_map,List.getElem?_eq_getElem hlt]; rfl⟩,CN2 K a σr (Pv (i + 1)),fun σ' H' p'=>⟨ps.length - (i + 1),by walk_at "o",rfl,hlt,p'⟩,fun x H' y=>?_⟩
  obtain ⟨b,t,rfl,y1,y2,y3,y4⟩:=y
  have e:=y4 _ q
  rw [List.getElem?_map,List.getElem?_eq_getElem hlt] at e
  cases e
  exact ⟨b,rfl,_,y3,rfl,_,_,rfl,_,_,rfl,rfl,hs i _ _ xs H H' hlt (List.getElem?_eq_getElem hlt) (y2 _ _ hxs) p y2⟩
 ·have e:i = ps.length:=by walk_at "o"
  subst e
  exact .inl ⟨⟨_,q,by simp⟩,hd xs H hxs p⟩
theorem CEl.mk2 {K:PySem.W.Frag} {a:Addr} {σr:St} {Pv:List V -> Hp -> Prop} {x y:Option V} {v:V} {H:Hp} {xs:List V} (h:vw K H a = some (.lst xs)) (hz:xs.length < sizeLine)
  (q:∀ H5,But a (vw K H) (vw K H5) -> vw K H5 a = some (.lst (xs ++ [v])) -> Pv (xs ++ [v]) H5):CEl K a (CN2 K a σr Pv (x :: y :: σr)) v H:=⟨xs,h,hz,fun H5 B h5=>⟨⟨_,_,rfl⟩,_,h5,q H5 B h5⟩⟩
theorem zip_rows {xs ys:List V}:List.zipWith (fun x z=>[x,z]) xs ys = (xs.zip ys).map fun p=>[p.1,p.2]:=by
 rw [List.zip,List.map_zipWith]
def D.sm:Nat -> D -> Bool
 | 0,_=>false
 | n + 1,.tup ds=>decide (ds.length <= 1000) && ds.all (D.sm n)
 | n + 1,.lst ds=>decide (ds.length <= 1000) && ds.all (D.sm n)
 | _ + 1,.dict=>false
 | _ + 1,_=>true
theorem sm_fr {n:Nat} {q:Int × Int}:(fr q).sm (n + 2) = true:=rfl
theorem sm_frs {n:Nat} {qs:List (Int × Int)} (h:qs.length <= 1000):(D.lst (qs.map fr)).sm (n + 3) = true:=by
 show (decide ((qs.map fr).length <= 1000) && (qs.map fr).all (D.sm (n + 2))) = true
 rw [List.length_map,decide_eq_true h,Bool.true_and]
 refine List.all_eq_true.mpr fun d hd=>?_
 obtain ⟨q,_,rfl⟩:=List.mem_map.mp hd
 exact sm_fr
theorem sm_zip {H:Hp} {ds:List D} {xs ys:List V} (r1:Reps H ds xs) (r2:Reps H ds ys) {i:Nat} {x y:V} (h:(xs.zip ys)[i]? = some (x,y)):∃ d,d ∈ ds /\ Rep H d x /\ Rep H d y:=by
 rw [List.getElem?_zip_eq_some] at h
 obtain ⟨d,e1,q1⟩:=r1.get h.1
 obtain ⟨d',e2,q2⟩:=r2.get h.2
 rw [e1] at e2
 cases e2
 exact ⟨d,List.mem_of_getElem? e1,q1,q2⟩
end L2
namespace L2
open PySem PySem.Spec PyProof.Rows
def wv (q:Int × Int):Rat:=(q.1:Rat) / (q.2:Rat)
theorem cast_ne {b:Int} (h:b ≠ 0):(b:Rat) ≠ 0:=by simpa using h
theorem wv_lo {a b:Int} (hb:b ≠ 0):wv (lo a b) = (a:Rat) / (b:Rat):=by
 have e1:=lo_mul_left (a:=a) hb
 have e2:=lo_mul_right (a:=a) hb
 have hg:=cast_ne (lg_ne (a:=a) hb)
 have hd:(lo a b).2 ≠ 0:=by have:=(lo_Fq (a:=a) hb).1; walk_at "o"
 have hd':=cast_ne hd
 have c1:((lo a b).1:Rat) * (lg a b:Rat) = (a:Rat):=by
  have:=congrArg (fun i:Int=>(i:Rat)) e1
  simpa using this
 have c2:((lo a b).2:Rat) * (lg a b:Rat) = (b:Rat):=by
  have:=congrArg (fun i:Int=>(i:Rat)) e2
  simpa using this
 unfold wv
 rw [<- c1,<- c2]
 grind
theorem dvd_cop {a b c:Int} (h:b ∣ a * c) (hg:Int.gcd a b = 1):b ∣ c:=by
 have h1:b.natAbs ∣ a.natAbs * c.natAbs:=by
  rw [<- Int.natAbs_mul]
  exact Int.natAbs_dvd_natAbs.mpr h
 have h2:Nat.Coprime b.natAbs a.natAbs:=by
  unfold Nat.Coprime
  rw [Nat.gcd_comm]
  exact hg
 exact Int.natAbs_dvd_natAbs.mp (Nat.Coprime.dvd_of_dvd_mul_left h2 h1)
theorem wv_inj {p q:Int × Int} (hp:Fq p) (hq:Fq q) (h:wv p = wv q):p = q:=by
 have h1:=cast_ne (show p.2 ≠ 0 by have:=hp.1; walk_at "o")
 have h2:=cast_ne (show q.2 ≠ 0 by have:=hq.1; walk_at "o")
 have e:p.1 * q.2 = q.1 * p.2:=by
  unfold wv at h
  have:(p.1:Rat) * (q.2:Rat) = (q.1:Rat) * (p.2:Rat):=by grind
  have h3:((p.1 * q.2:Int):Rat) = ((q.1 * p.2:Int):Rat):=by simpa using this
  exact Rat.intCast_inj.mp h3
 have d1:p.2 ∣ q.2:=by
  have:p.2 ∣ p.1 * q.2:=⟨q.1,by rw [e,Int.mul_comm]⟩
  exact dvd_cop this hp.2
 have d2:q.2 ∣ p.2:=by
  have:q.2 ∣ q.1 * p.2:=⟨p.1,by rw [<- e,Int.mul_comm]⟩
  exact dvd_cop this hq.2
 have e2:p.2 = q.2:=Int.dvd_antisymm (Int.le_of_lt hp.1) (Int.le_of_lt hq.1) d1 d2
 rw [e2] at e
 have e1:p.1 = q.1:=Int.eq_of_mul_eq_mul_right (by have:=hq.1; walk_at "o") e
 exact Prod.ext e1 e2
theorem wv_add {p q:Int × Int} (hp:p.2 ≠ 0) (hq:q.2 ≠ 0):wv (addq p q) = wv p + wv q:=by
 unfold addq
 rw [wv_lo (Int.mul_ne_zero hp hq)]
 unfold wv
 have h1:=cast_ne hp
 have h2:=cast_ne hq
 simp only [Rat.intCast_add,Rat.intCast_mul]
 grind
def mulq (p q:Int × Int):Int × Int:=lo (p.1 * q.1) (p.2 * q.2)
theorem mulq_Fq {p q:Int × Int} (hp:Fq p) (hq:Fq q):Fq (mulq p q):=lo_Fq (by have:=Int.mul_pos hp.1 hq.1; walk_at "o")
theorem mulq_Bq {p q:Int × Int} {m n:Nat} (hp:Fq p) (hq:Fq q) (h1:Bq m p) (h2:Bq n q):Bq (m + n) (mulq p q):=bt_lo (by have:=Int.mul_pos hp.1 hq.1; walk_at "o") (h1.1.mul h2.1) (h1.2.mul h2.2)
theorem wv_mul {p q:Int × Int} (hp:p.2 ≠ 0) (hq:q.2 ≠ 0):wv (mulq p q) = wv p * wv q:=by
 unfold mulq
 rw [wv_lo (Int.mul_ne_zero hp hq)]
 unfold wv
 have h1:=cast_ne hp
 have h2:=cast_ne hq
 simp only [Rat.intCast_mul]
 grind
section
variable {X:Cx}
theorem ip_mulX:PIp X .Mult (fun x y H Q=>∃ i j,x = .int i /\ y = .int j /\ IntMulOk i j /\ Q (.int (i * j)) H):=by
 intro pins s σ H x y v u Q I r1 r2 h
 obtain ⟨i,j,rfl,rfl,m,q⟩:=h
 obtain ⟨t,rfl⟩:=r1
 obtain ⟨t',rfl⟩:=r2
 exact imul_int ⟨.int _,H,I.tok _,⟨_,rfl⟩,q⟩ m
theorem qs_never {st:Stmt}:QS X st tNever:=⟨ps_never⟩
end
theorem comp_pairs {K:PySem.W.Frag} {J:It} {its:List V} {ps:List (V × V)} {tif:TT} {te:TE} {a:Addr} {x0 x1:Option V} {σr:St} {H0:Hp} {Q:Hp -> Prop} (Pv:Nat -> List V -> Hp -> Prop) (hlen:its.length = ps.length)
  (hl:∀ i xs H,i <= its.length -> vw K H a = some (.lst xs) -> Pv i xs H -> Items J H its /\ ∀ (j:Nat) (x y:V),ps[j]? = some (x,y) -> ∃ p:Addr,its[j]? = some (V.ref p) /\ vw K H p = some (HO.tup [x,y])) (ha:vw K H0 a = some (.lst [])) (h0:Pv 0 [] H0)
  (hs:∀ i x y xs H,i < ps.length -> ps[i]? = some (x,y) -> vw K H a = some (.lst xs) -> Pv i xs H -> tif (some x :: some y :: σr) H fun b H3=>if b = true then te (some x :: some y :: σr) H3 (CEl K a (CN2 K a σr (Pv (i + 1)) (some x :: some y :: σr))) else CN2 K a σr (Pv (i + 1)) (some x :: some y :: σr) H3)
  (hd:∀ xs H,vw K H a = some (.lst xs) -> Pv ps.length xs H -> Q H):CompOK K J (gTupH K 2 (gCons (gName 0) (gCons (gName 1) gNil))) tif te a (x0 :: x1 :: σr) H0 Q:=by
 refine ⟨fun i m σ H=>m = ps.length - i /\ i <= ps.length /\ CN2 K a σr (Pv i) σ H,⟨ps.length,by simp,Nat.zero_le _,⟨_,_,rfl⟩,_,ha,h0⟩,?_⟩
 rintro i m σ H ⟨rfl,hi,⟨y,z,rfl⟩,xs,hxs,p⟩
 obtain ⟨⟨q1,q2,q3⟩,q4⟩:=hl i xs H (by walk_at "o") hxs p
 by_cases hlt:i < ps.length
 ·refine .inr ⟨q1 i (by walk_at "o"),CN2 K a σr (Pv (i + 1)),fun σ' H' p'=>⟨ps.length - (i + 1),by walk_at "o",rfl,hlt,p'⟩,fun x H' y=>?_⟩
  obtain ⟨e,y2⟩:=q2 i x H' (by walk_at "o") y
  subst e
  obtain ⟨b,e1,e2⟩:=q4 i _ _ (List.getElem?_eq_getElem hlt)
  rw [e1] at y2
  cases y2
  exact ⟨b,rfl,_,e2,rfl,_,_,rfl,_,_,rfl,rfl,hs i _ _ xs _ hlt (List.getElem?_eq_getElem hlt) hxs p⟩
 ·have e:i = ps.length:=by walk_at "o"
  subst e
  exact .inl ⟨hlen ▸ q3,hd xs H hxs p⟩
theorem fdiv_mul {g q:Int} (hg:g ≠ 0) (h:g ∣ q):q.fdiv g * g = q:=by
 obtain ⟨m,rfl⟩:=h
 rw [Int.mul_comm g m,Int.mul_fdiv_cancel m hg]
theorem le_mul1 {a b:Int} (ha:0 <= a) (hb:1 <= b):a <= a * b:=by
 have:=Int.mul_le_mul_of_nonneg_left hb ha
 walk_at "o"
theorem lcm_step {b q:Int} (hb:0 < b) (hq:0 < q):0 < q.fdiv (Int.gcd b q:Int) /\ q.fdiv (Int.gcd b q:Int) <= q /\ q ∣ b * q.fdiv (Int.gcd b q:Int) /\ (Int.gcd b q:Int) ≠ 0 /\ (Int.gcd b q:Int) <= q:=by
 have hg:(Int.gcd b q:Int) ≠ 0:=by
  have:Int.gcd b q ≠ 0:=fun e=>by
   have:=(Int.gcd_eq_zero_iff.mp e).2
   walk_at "o"
  walk_at "o"
 have hg0:0 < (Int.gcd b q:Int):=by walk_at "o"
 have e:=fdiv_mul hg (Int.gcd_dvd_right b q)
 have hle:(Int.gcd b q:Int) <= q:=Int.le_of_dvd hq (Int.gcd_dvd_right b q)
 generalize q.fdiv (Int.gcd b q:Int) = c at e
 obtain ⟨m,hm⟩:=Int.gcd_dvd_left b q
 have hc:0 < c:=by
  refine Int.pos_of_mul_pos_left ?_ hg0
  rw [e]
  exact hq
 refine ⟨hc,?_,⟨m,?_⟩,hg,hle⟩
 ·rw [<- e]
  exact le_mul1 (by walk_at "o") (by walk_at "o")
 ·rw [<- e]
  generalize (Int.gcd b q:Int) = g at *
  rw [hm]
  rw [Int.mul_right_comm,Int.mul_comm c g]
theorem Bt.le {n:Nat} {x y:Int} (h:Bt n y) (h0:0 <= x) (hl:x <= y):Bt n x:=by
 unfold Bt at *
 walk_at "o"
theorem clear_at {q:Int × Int} {D:Int} {m n:Nat} (hq:Fq q) (hd:q.2 ∣ D) (hD:0 < D) (b1:Bt m D) (b2:Bt n q.1):((q.1 * D.fdiv q.2:Int):Rat) = wv q * (D:Rat) /\ Bt (m + n) (q.1 * D.fdiv q.2) /\ Bt m (D.fdiv q.2):=by
 have h2:q.2 ≠ 0:=by have:=hq.1; walk_at "o"
 have e:=fdiv_mul h2 hd
 have hp:0 < D.fdiv q.2:=by
  refine Int.pos_of_mul_pos_left ?_ hq.1
  rw [e]
  exact hD
 have hle:D.fdiv q.2 <= D:=by
  have:=le_mul1 (Int.le_of_lt hp) (show 1 <= q.2 by have:=hq.1; walk_at "o")
  rw [e] at this
  exact this
 have bm:=b1.le (Int.le_of_lt hp) hle
 refine ⟨?_,(b2.mul bm).mono (by walk_at "o"),bm⟩
 generalize D.fdiv q.2 = c at *
 have h3:=cast_ne h2
 rw [<- e]
 unfold wv
 simp only [Rat.intCast_mul]
 grind
end L2
namespace L2
open PySem PySem.Spec PyProof.Rows
end L2
namespace L2
open PySem PySem.Spec PyProof.Rows
end L2
namespace L2
open PySem PySem.Spec PyProof.Rows
theorem peq_self {d:D} (h:d.cmp):peq d d = true:=SeqAt.eqv_refl _ h.1
end L2
namespace L2
open PySem PySem.Spec PyProof.Rows
def divq (p q:Int × Int):Int × Int:=lo (p.1 * q.2) (p.2 * q.1)
theorem divq_Fq {p q:Int × Int} (hp:Fq p) (h0:q.1 ≠ 0):Fq (divq p q):=lo_Fq (Int.mul_ne_zero (by have:=hp.1; walk_at "o") h0)
theorem divq_Bq {p q:Int × Int} {m n:Nat} (hp:Fq p) (h0:q.1 ≠ 0) (h1:Bq m p) (h2:Bq n q):Bq (m + n) (divq p q):=bt_lo (Int.mul_ne_zero (by have:=hp.1; walk_at "o") h0) (h1.1.mul h2.2) (h1.2.mul h2.1)
theorem wv_div {p q:Int × Int} (hp:p.2 ≠ 0) (hq:q.2 ≠ 0) (h0:q.1 ≠ 0):wv (divq p q) = wv p / wv q:=by
 unfold divq
 rw [wv_lo (Int.mul_ne_zero hp h0)]
 unfold wv
 have h1:=cast_ne hp
 have h2:=cast_ne hq
 have h3:=cast_ne h0
 simp only [Rat.intCast_mul]
 grind
theorem wv_zero {q:Int × Int} (hq:q.2 ≠ 0):wv q = 0 ↔ q.1 = 0:=by
 have h2:=cast_ne hq
 unfold wv
 constructor
 ·intro h
  have:(q.1:Rat) = 0:=by grind
  simpa using this
 ·intro h
  have:(q.1:Rat) = 0:=by rw [h]; rfl
  rw [this]
  grind
end L2
namespace L2
open PySem PySem.Spec PyProof.Rows
def cf (qs:List (Int × Int)) (k:Nat):Rat:=match qs[k]? with
 | some q=>wv q
 | none=>0
def PolyOk (qs:List (Int × Int)):Prop:=(∀ q ∈ qs,Fq q) /\ ∀ q,qs.getLast? = some q -> q.1 ≠ 0
theorem Fq.ne {q:Int × Int} (h:Fq q):q.2 ≠ 0:=by have:=h.1; walk_at "o"
theorem cf_some {qs:List (Int × Int)} {k:Nat} {q:Int × Int} (h:qs[k]? = some q):cf qs k = wv q:=by unfold cf; rw [h]
theorem cf_none {qs:List (Int × Int)} {k:Nat} (h:qs.length <= k):cf qs k = 0:=by unfold cf; rw [List.getElem?_eq_none h]
theorem cf_nil (k:Nat):cf [] k = 0:=rfl
theorem poly_len {as bs:List (Int × Int)} (ha:PolyOk as) (h:∀ k,cf as k = cf bs k):as.length <= bs.length:=by
 by_cases hl:as.length <= bs.length
 ·exact hl
 ·have hn:0 < as.length:=by walk_at "o"
  have e1:as[as.length - 1]? = some (as[as.length - 1]'(by walk_at "o")):=List.getElem?_eq_getElem (by walk_at "o")
  have e2:=h (as.length - 1)
  rw [cf_some e1,cf_none (by walk_at "o")] at e2
  have f:=ha.1 _ (List.getElem_mem (l:=as) (n:=as.length - 1) (by walk_at "o"))
  exact absurd ((wv_zero f.ne).mp e2) (ha.2 _ (by rw [List.getLast?_eq_getElem?]; exact e1))
theorem poly_ext {as bs:List (Int × Int)} (ha:PolyOk as) (hb:PolyOk bs) (h:∀ k,cf as k = cf bs k):as = bs:=by
 have hl:as.length = bs.length:=Nat.le_antisymm (poly_len ha h) (poly_len hb fun k=>(h k).symm)
 apply List.ext_getElem?
 intro i
 by_cases hi:i < as.length
 ·have e1:=List.getElem?_eq_getElem hi
  have e2:=List.getElem?_eq_getElem (show i < bs.length by walk_at "o")
  have:=h i
  rw [cf_some e1,cf_some e2] at this
  rw [e1,e2,wv_inj (ha.1 _ (List.getElem_mem hi)) (hb.1 _ (List.getElem_mem _)) this]
 ·rw [List.getElem?_eq_none (by walk_at "o"),List.getElem?_eq_none (by walk_at "o")]
theorem cf_take {qs:List (Int × Int)} {n:Nat} (hF:∀ q ∈ qs,Fq q) (hz:∀ q ∈ qs.drop n,q.1 = 0) (k:Nat):cf (qs.take n) k = cf qs k:=by
 by_cases hk:k < n
 ·unfold cf
  rw [List.getElem?_take,if_pos hk]
 ·unfold cf
  rw [List.getElem?_take,if_neg hk]
  cases e:qs[k]? with
  | none=>rfl
  | some q =>
   have hm:q ∈ qs.drop n:=List.mem_of_getElem? (i:=k - n) (by rw [List.getElem?_drop,show n + (k - n) = k by walk_at "o"]; exact e)
   exact ((wv_zero (hF q (List.mem_of_getElem? e)).ne).mpr (hz q hm)).symm
theorem Fq_zero {q:Int × Int} (h:Fq q):q = (0,1) ↔ q.1 = 0:=by
 constructor
 ·rintro rfl; rfl
 ·intro e
  obtain ⟨h1,h2⟩:=h
  rw [e] at h2
  have:q.2.natAbs = 1:=by simpa using h2
  exact Prod.ext e (by show q.2 = 1; walk_at "o")
end L2
namespace L2
open PySem PySem.Spec PyProof.Rows
def evR:List Int -> Rat -> Rat
 | [],_=>0
 | n :: ns,x=>(n:Rat) + x * evR ns x
end L2
namespace L2
open PySem PySem.Spec PyProof.Rows
def pz (f g:Nat -> Int):Nat -> Nat -> Int
 | 0,_=>0
 | j + 1,k=>pz f g j k + if j <= k then f j * g (k - j) else 0
def pr (f g:Nat -> Rat):Nat -> Nat -> Rat
 | 0,_=>0
 | j + 1,k=>pr f g j k + if j <= k then f j * g (k - j) else 0
theorem pz_cast {f g:Nat -> Int} {F G:Nat -> Rat} {c d:Rat} (hf:∀ i,(f i:Rat) = F i * c) (hg:∀ i,(g i:Rat) = G i * d):∀ j k,((pz f g j k:Int):Rat) = pr F G j k * (c * d)
 | 0,k=>by
  show ((0:Int):Rat) = 0 * (c * d)
  grind
 | j + 1,k=>by
  show (((pz f g j k + if j <= k then f j * g (k - j) else 0:Int)):Rat) = (pr F G j k + if j <= k then F j * G (k - j) else 0) * (c * d)
  rw [Rat.intCast_add,pz_cast hf hg j k]
  split
  ·rw [Rat.intCast_mul,hf,hg]
   grind
  ·grind
theorem bt_zero {n:Nat}:Bt n 0:=by
 show (0:Int).natAbs < 2 ^ n
 exact Nat.two_pow_pos n
def qr (f g:Nat -> Rat) (j l k:Nat):Rat:=pr f g j k + if j <= k /\ k - j < l then f j * g (k - j) else 0
theorem qr_0 (f g:Nat -> Rat) (j k:Nat):qr f g j 0 k = pr f g j k:=by
 unfold qr
 rw [if_neg (by walk_at "o")]
 grind
theorem qr_at (f g:Nat -> Rat) (j l k:Nat):qr f g j (l + 1) k = if k = j + l then qr f g j l (j + l) + f j * g l else qr f g j l k:=by
 by_cases h:k = j + l
 ·subst h
  rw [if_pos rfl]
  unfold qr
  rw [if_pos (by walk_at "o"),if_neg (by walk_at "o"),show j + l - j = l by walk_at "o"]
  grind
 ·rw [if_neg h]
  unfold qr
  by_cases h2:j <= k /\ k - j < l
  ·rw [if_pos h2,if_pos (by walk_at "o")]
  ·rw [if_neg h2,if_neg (by walk_at "o")]
theorem qr_end {f g:Nat -> Rat} {n:Nat} (hg:∀ i,n <= i -> g i = 0) (j k:Nat):qr f g j n k = pr f g (j + 1) k:=by
 show _ = pr f g j k + if j <= k then f j * g (k - j) else 0
 unfold qr
 by_cases h:j <= k
 ·rw [if_pos h]
  by_cases h2:k - j < n
  ·rw [if_pos ⟨h,h2⟩]
  ·rw [if_neg (by walk_at "o"),hg _ (by walk_at "o")]
   grind
 ·rw [if_neg h,if_neg (by walk_at "o")]
theorem pr_high {f g:Nat -> Rat} {n:Nat} (hg:∀ i,n <= i -> g i = 0):∀ (j k:Nat),j + n <= k + 1 -> pr f g j k = 0
 | 0,k,_=>rfl
 | j + 1,k,h=>by
  show pr f g j k + (if j <= k then f j * g (k - j) else 0) = 0
  rw [pr_high hg j k (by walk_at "o")]
  by_cases h1:j <= k
  ·rw [if_pos h1,hg _ (by walk_at "o")]
   grind
  ·rw [if_neg h1]
   grind
def lz {α:Type} (n:Nat) (h:Nat -> α):List α:=(List.range n).map h
theorem lz_get {α:Type} {n:Nat} {h:Nat -> α} {i:Nat} (hi:i < n):(lz n h)[i]? = some (h i):=by simp [lz,hi]
def nz (ns:List Int) (k:Nat):Int:=ns.getD k 0
theorem nz_get {ns:List Int} {k:Nat} {n:Int} (h:ns[k]? = some n):nz ns k = n:=by simp [nz,List.getD_eq_getElem?_getD,h]
theorem nz_out {ns:List Int} {k:Nat} (h:ns.length <= k):nz ns k = 0:=by simp [nz,List.getD_eq_getElem?_getD,List.getElem?_eq_none h]
theorem nz_bt {ns:List Int} {m:Nat} (h:∀ n ∈ ns,Bt m n) (k:Nat):Bt m (nz ns k):=by
 cases e:ns[k]? with
 | none=>rw [nz_out (List.getElem?_eq_none_iff.mp e)]; exact bt_zero
 | some n=>rw [nz_get e]; exact h n (List.mem_of_getElem? e)
theorem nz_clear {qs:List (Int × Int)} {ns:List Int} {D:Rat} (hl:ns.length = qs.length) (h:∀ (i:Nat) (n:Int) (q:Int × Int),ns[i]? = some n -> qs[i]? = some q -> (n:Rat) = wv q * D) (i:Nat):((nz ns i:Int):Rat) = cf qs i * D:=by
 by_cases hi:i < qs.length
 ·have e1:=List.getElem?_eq_getElem hi
  have e2:=List.getElem?_eq_getElem (show i < ns.length by walk_at "o")
  rw [nz_get e2,cf_some e1]
  exact h i _ _ e2 e1
 ·rw [nz_out (by walk_at "o"),cf_none (by walk_at "o")]
  show ((0:Int):Rat) = 0 * D
  grind
theorem Reps.set {H:Hp}:∀ {ds:List D} {xs:List V} (i:Nat) {d:D} {x:V},Reps H ds xs -> Rep H d x -> Reps H (ds.set i d) (xs.set i x)
 | [],xs,i,d,x,h,g=>by
  cases h.nil_at
  exact .mk_nil
 | d0 :: ds,xs,i,d,x,h,g=>by
  obtain ⟨x0,r,rfl,h1,h2⟩:=h.cons_at
  cases i with
  | zero=>exact .mk_cons g h2
  | succ i=>exact .mk_cons h1 (h2.set i g)
theorem cf_setv {qs:List (Int × Int)} {i k:Nat} {q:Int × Int} (hi:i < qs.length):cf (qs.set i q) k = if k = i then wv q else cf qs k:=by
 by_cases h:k = i
 ·subst h
  rw [if_pos rfl,cf_some (List.getElem?_set_self hi)]
 ·rw [if_neg h]
  unfold cf
  rw [List.getElem?_set_ne (Ne.symm h)]
theorem ixN_nat {n k:Nat} (h:k < n):ixN n (k:Int) = some k:=by
 unfold ixN
 simp
 walk_at "o"
end L2
namespace L2
open PySem PySem.Spec PyProof.Rows
theorem get_listH {X:Cx}:PGet X (fun o i H Q=>∃ p k,o = .ref p /\ i = .int k /\ ∃ xs,vw X.K H p = some (.lst xs) /\ ∃ v,atI xs k = some v /\ Q v H):=by
 intro pins s σ H x y v u Q I rx ry h
 obtain ⟨p,k,rfl,rfl,xs,hx,z,he,q⟩:=h
 cases rx
 obtain ⟨t,rfl⟩:=ry
 obtain ⟨its,r,pl,hz⟩:=I.list (SqL.of (K:=X.K) (vw_lst hx))
 obtain ⟨j,h1,h2,h3,h4,h5⟩:=atI_get he
 obtain ⟨w,ew,rw'⟩:=r.get h2
 have hl:=r.length
 have hn:=line63
 have fin:EP X pins σ Q w s:=⟨z,H,I,rw',q⟩
 by_cases h0:0 <= k
 ·have hj:k.toNat = j:=by
   rw [seqIndex_of h0 h5] at h1
   exact Option.some.inj h1
  exact wpAny_getItem_list pl.isList h0 (by walk_at "o") (by rw [hj]; simpa using ew) fin
 ·have hj:(k + (its.toArray.size:Int)).toNat = j:=by
   rw [seqIndex_neg (by walk_at "o") h4] at h1
   rw [List.size_toArray,<- hl]
   exact Option.some.inj h1
  exact wpAny_getItem_list_neg pl.isList (by walk_at "o") (by rw [List.size_toArray] <;> walk_at "o") (by walk_at "o") (by rw [hj]; simpa using ew) fin
theorem tru_lst {K:PySem.W.Frag} {H:Hp} {p:Addr} {xs:List V} (h:vw K H p = some (.lst xs)):TruV K (.ref p) H (!xs.isEmpty):=.inl ⟨xs,.of (vw_lst h),rfl⟩
end L2
namespace L2
open PySem PySem.Spec PyProof.Rows
theorem Same.none {G G':Hp} {c:Addr} (S:Same G G') (h:G' c = none):G c = none:=by
 cases e:G c with
 | none=>rfl
 | some o=>rw [S _ _ e] at h; cases h
theorem Fq_01:Fq (0,1):=⟨by decide,by decide⟩
theorem Bq_01 {n:Nat} (h:1 <= n):Bq n (0,1):=Bq.mono (m:=1) (q:=(0,1)) ⟨by decide,by decide⟩ h
theorem wv_01:wv (0,1) = 0:=(wv_zero (q:=(0,1)) (by decide)).mpr rfl
theorem cf_pad (fs:List (Int × Int)) (m k:Nat):cf (fs ++ List.replicate m (0,1)) k = cf fs k:=by
 by_cases h:k < fs.length
 ·unfold cf
  rw [List.getElem?_append_left h]
 ·rw [cf_none (qs:=fs) (by walk_at "o")]
  unfold cf
  rw [List.getElem?_append_right (by walk_at "o")]
  by_cases h2:k - fs.length < m
  ·rw [List.getElem?_replicate_of_lt h2]
   exact wv_01
  ·rw [List.getElem?_eq_none (by simp; walk_at "o")]
theorem rep_flat {α:Type} (n:Nat) (x:α):(List.replicate n [x]).flatten = List.replicate n x:=by simp
theorem map_rep {α β:Type} (f:α -> β) (n:Nat) (x:α):(List.replicate n x).map f = List.replicate n (f x):=by simp
theorem clean_ok {qs:List (Int × Int)} {n:Nat} (hF:∀ q ∈ qs,Fq q) (hz:∀ q,(qs.take n).getLast? = some q -> q.1 ≠ 0):PolyOk (qs.take n):=⟨fun q hq=>hF q (List.mem_of_mem_take hq),hz⟩
theorem LsAt.chg {G G':Hp} {e:Addr} {qs:List (Int × Int)} {xs:List V} {i:Nat} {q:Int × Int} {v:V} (h:G e = some (.lst xs)) (r:Reps G (qs.map fr) xs) (rv:Rep G (fr q) v) (B:But e G G') (h':G' e = some (.lst (xs.set i v))):LsAt G' e (qs.set i q):=by
 refine ⟨_,h',?_⟩
 have r':=Reps.flat_but h B _ _ (flats_fr qs) r
 have:=r'.set i (Rep.flat_but h B _ _ (fr_flat q) rv)
 rw [List.map_set]
 exact this
end L2
namespace L2
open PySem PySem.Spec PyProof.Rows
theorem fr_py (q:Int × Int):(fr q).py = .tuple [.int q.1,.int q.2]:=by
 unfold fr
 simp only [D.py,D.pys]
theorem frs_py:∀ (qs:List (Int × Int)),PyData.canLayAll0 (D.pys (qs.map fr)) = true /\ PyData.depthAll (D.pys (qs.map fr)) <= 4
 | []=>by
  simp only [List.map_nil,D.pys]
  exact ⟨rfl,by simp [PyData.depthAll]⟩
 | c :: cs=>by
  obtain ⟨h1,h2⟩:=frs_py cs
  simp only [List.map_cons,D.pys,fr_py,PyData.canLayAll0,PyData.canLay0,h1,PyData.depthAll,PyData.depth]
  refine ⟨by decide,?_⟩
  walk_at "o"
theorem cmp_frs (fs:List (Int × Int)):(D.lst (fs.map fr)).cmp:=by
 obtain ⟨h1,h2⟩:=frs_py fs
 unfold D.cmp
 simp only [D.py,PyData.canLay0,PyData.depth]
 exact ⟨h1,by walk_at "o"⟩
end L2
namespace L2
open PySem PySem.Spec PyProof.Rows
end L2
namespace L2
open PySem PySem.Spec PyProof.Rows
structure FlyB (outer:List Env) (H H':Hp) (h:Heap) (B:Heap):Prop where
 b1:∀ b,H' b ≠ none -> ∃ o,B.get? b = some o
 b2:∀ b o,h.get? b = some o -> H b = none -> b ∉ frs outer -> B.get? b = some o
 b3:∀ b o,h.get? b = some o -> b ∉ frs outer -> ∃ o',B.get? b = some o'
def CX1 (P:Program) (w:World):CXT:=fun outer H s E e s' =>
 ∃ (a C:Addr) (a0:Value) (B:Heap) (H':Hp),e = .ref a /\ s'.os = s.os /\ AllBare s'.gens /\ Un (frs outer) [] H H' s.heap s'.heap /\ HOk P w H' s'.heap /\
  Heap.FlyingW B outer a (.ref C) a0 s'.heap /\ FlyB outer H H' s.heap B /\ E (.ref C) none H'
theorem ObjOk.there {P:Program} {w:World} {H:Hp} {h:Heap} {a:Addr} {o:HO} (x:ObjOk P w H h a o):∃ ob,h.get? a = some ob:=by
 cases o with
 | lst xs=>obtain ⟨_,_,_,_,e⟩:=x; exact ⟨_,e⟩
 | tup xs=>obtain ⟨_,_,_,_,e,_⟩:=x; exact ⟨_,e⟩
 | dK kvs=>obtain ⟨_,_,_,_,o,_,_,e,_⟩:=x; exact ⟨_,e⟩
 | dT kvs=>obtain ⟨_,_,_,_,o,_,_,e,_⟩:=x; exact ⟨_,e⟩
 | set S n=>obtain ⟨o,_,_,_,e,_⟩:=x; exact ⟨_,e⟩
 | ins C dx fs=>obtain ⟨_,_,_,e,_⟩:=x; exact ⟨_,e⟩
 | own y=>obtain ⟨_,e⟩:=x; exact ⟨_,e⟩
 | xd fs=>obtain ⟨_,⟨_,_,_,e,_⟩,_⟩:=x; exact ⟨_,e⟩
 | rng lo hi=>obtain ⟨_,_,_,e⟩:=x; exact ⟨_,e⟩
 | frz ob u=>obtain ⟨e,_⟩:=x; exact ⟨_,e⟩
 | tbl ps=>exact ⟨_,show h.get? a = some _ from x⟩
 | met f y=>exact ⟨_,show h.get? a = some _ from x⟩
 | ext φ=>obtain ⟨_,e,_⟩:=x; exact e
theorem hok_tracked {P:Program} {w:World} {H:Hp} {h h':Heap} (x:HOk P w H h) (k:∀ b u,H b ≠ none -> h.get? b = some u -> h'.get? b = some u):HOk P w H h':=fun a o e =>
 (x a o e).stay (fun b u hb q=>k b u (by
  rcases hb with rfl | z
  ·rw [e]; simp
  ·rw [z]; simp) q) (fun _ q=>q) fun _ _ q=>q
section
variable {X:Cx} {pins:List (Addr × Obj)} {σ:St} {H H':Hp} {s s':Shared}
theorem Inv.nofrs (I:Inv X pins σ H s) {b:Addr} (h:H b ≠ none):b ∉ frs X.stack:=fun z=>h (I.stkFree b z)
theorem Inv.flyB (I:Inv X pins σ H s) (hx:X.ex = []) (hs:X.stack = X.env :: X.outer) (hfr:X.env.frame = some X.env.locals) {B:Heap} (F:FlyB X.stack H H' s.heap B):FlyB X.outer X.H₀ H' X.s₀.heap B:=by
 have nL:∀ b o,X.s₀.heap.get? b = some o -> b ∉ frs X.outer -> b ∉ frs X.stack:=fun b o e n z=>by
  rcases List.mem_cons.mp (I.stkSub b z) with q | q
  ·exact absurd (Nat.lt_of_lt_of_le (Heap.lt_size e) (q ▸ I.ok.above)) (Nat.lt_irrefl _)
  ·exact n q
 have nx:∀ b,b ∉ X.ex:=fun b z=>by rw [hx] at z; exact absurd z (by simp)
 refine ⟨F.b1,fun b o e n nb=>?_,fun b o e nb=>?_⟩
 ·exact F.b2 b o (I.base.keep b o e n nb (nx b)) (I.base.free b o e n (nx b)) (nL b o e nb)
 ·obtain ⟨o',e'⟩:=I.base.there b o e (nx b)
  exact F.b3 b o' e' (nL b o e nb)
theorem Inv.flyUn (I:Inv X pins σ H s) (hx:X.ex = []) (hs:X.stack = X.env :: X.outer) (hfr:X.env.frame = some X.env.locals) {B h h':Heap} (F:FlyB X.stack H H' s.heap B) (u:Un (frs X.stack) [] H H' s.heap h) (hB:B.StaysIn h') (up:h.UpToSlots h'):Un (frs X.outer) [] X.H₀ H' X.s₀.heap h':=by
 have FB:=I.flyB hx hs hfr F
 have nx:∀ b,b ∉ X.ex:=fun b z=>by rw [hx] at z; exact absurd z (by simp)
 have n0:∀ b:Addr,b ∉ ([]:List Addr):=fun b z=>absurd z (by simp)
 have frame:∀ b,b ∈ frs X.outer -> ∀ o,X.s₀.heap.get? b = some o -> ∃ sl,h'.get? b = some { o with slots:=sl }:=fun b hb o e=>by
  have hfree:=I.ok.frf b hb
  obtain ⟨sl,e1⟩:=I.base.slot b o e hfree hb (nx b)
  have h1:=I.base.free b o e hfree (nx b)
  obtain ⟨sl2,e2⟩:=u.any e1 h1 (n0 b)
  obtain ⟨_,o',e3,hd⟩:=I.ok.funs.mem hb
  rw [e] at e3; cases e3
  obtain ⟨sl3,e4⟩:=up b _ e2 hd
  exact ⟨sl3,e4⟩
 refine ⟨fun b o e n nb _=>hB b o (FB.b2 b o e n nb),fun b o e n nb _=>frame b nb o e,fun b o e n _=>?_,fun b o e _=>?_,fun b xs e=>u.tups b xs (I.base.tups b xs e),fun b o v e=>u.frzs b o v (I.base.frzs b o v e),fun b ps e=>?_⟩
 ·obtain ⟨o',e1⟩:=I.base.there b o e (nx b)
  exact u.free b o' e1 (I.base.free b o e n (nx b)) (n0 b)
 ·by_cases hb:b ∈ frs X.outer
  ·obtain ⟨sl,q⟩:=frame b hb o e
   exact ⟨_,q⟩
  ·obtain ⟨o',q⟩:=FB.b3 b o e hb
   exact ⟨o',hB b o' q⟩
 ·obtain ⟨m1,e1⟩:=I.base.tbls b ps e
  obtain ⟨m2,e2⟩:=u.tbls b _ e1
  exact ⟨m1 ++ m2,by rw [e2,Array.append_assoc]⟩
theorem Inv.raised {E:XK} {e C:Addr} {vs:List Value} {h':Heap} {Q':Value -> Shared -> Prop} {M:Model} (I:Inv X pins σ H s) (hx:X.ex = []) (hs:X.stack = X.env :: X.outer) (hfr:X.env.frame = some X.env.locals)
  (hm:Heap.MadeExcOf s.heap h' e (.ref C) vs) (hE:E (.ref C) none H) {g:Array GenState} {d:Drawn} {t:Tok} {os:OsState} (hos:os = s.os) (hg:AllBare g) :
  wpAny M X.A (leaving X.env (.ref e)) (fun _ s''=>CX1 X.prog X.w X.outer X.H₀ X.s₀ E (.ref e) s'') Q' ⟨h',g,d,t,os⟩:=by
 have hfr':X.A.frames = some (X.env :: X.outer):=by rw [I.ok.frames,hs]
 have hin:∀ env ∈ X.stack,∀ b,env.frame = some b -> b ∈ frs X.stack:=fun env he b hb=>List.mem_filterMap.mpr ⟨env,he,hb⟩
 have st:=I.stack
 have FF:=PySem.W.funFrames_hide st hin
 have hkb:(PySem.W.hideAll s.heap (frs X.stack)).StaysIn s.heap:=fun b o q=>PySem.W.of_hideAll _ q
 have FF2:s.heap.FunFrames (PySem.W.hideAll s.heap (frs X.stack)) (X.env :: X.outer):=by
  have z:=FF
  rw [show X.stack = X.env :: X.outer from hs] at z ⊢
  exact z
 refine wpAny_leaves_madeW (s:=⟨h',g,d,t,os⟩) hfr' hfr hkb FF2 hm fun h2 t2 fl tup nt up=>?_
 have up2:s.heap.UpToSlots h2:=(Heap.UpToSlots.of_keeps hm.keeps).trans up
 have getB:∀ b o,s.heap.get? b = some o -> b ∉ frs X.stack -> (PySem.W.hideAll s.heap (frs X.stack)).get? b = some o:=fun b o e n=>PySem.W.hideAll_get _ e n
 have F:FlyB X.stack H H s.heap (PySem.W.hideAll s.heap (frs X.stack)):=⟨fun b hb=>by
  cases q:H b with
  | none=>exact absurd q hb
  | some u =>
   obtain ⟨o,ho⟩:=(I.hok b u q).there
   exact ⟨o,getB b o ho (I.nofrs hb)⟩,fun b o e _ nb=>getB b o e nb,fun b o e nb=>⟨o,getB b o e nb⟩⟩
 refine ⟨e,C,.ref t2,_,H,rfl,?_,?_,?_,?_,fl,I.flyB hx hs hfr F,hE⟩
 ·show os = _
  rw [hos]; exact I.os
 ·exact hg
 ·exact I.flyUn hx hs hfr F (h:=s.heap) ⟨fun _ _ q _ _ _=>q,fun _ o q _ _ _=>⟨o.slots,q⟩,fun _ _ _ q _=>q,fun _ o q _=>⟨o,q⟩,fun _ _ q=>q,fun _ _ _ q=>q,fun b ps q=>⟨#[],by rw [q]; simp⟩⟩ fl.1 up2
 ·exact hok_tracked I.hok fun b u hb q=>fl.1 b u (getB b u q (I.nofrs hb))
theorem Inv.passed {E E':XK} {e:Value} {Q':Value -> Shared -> Prop} {M:Model} (I:Inv X pins σ H s) (hx:X.ex = []) (hs:X.stack = X.env :: X.outer) (hfr:X.env.frame = some X.env.locals)
  (h:CX1 X.prog X.w X.stack H s E e s') (hE:∀ c o H',E c o H' -> E' c o H'):wpAny M X.A (leaving X.env e) (fun _ s''=>CX1 X.prog X.w X.outer X.H₀ X.s₀ E' e s'') Q' s':=by
 obtain ⟨a,C,a0,B,H',rfl,os,gb,un,hok,fl,F,q⟩:=h
 have hfr':X.A.frames = some (X.env :: X.outer):=by rw [I.ok.frames,hs]
 rw [hs] at fl
 refine wpAny_leaves_onW hfr' hfr fl fun h2 fl2 up=>?_
 refine ⟨a,C,a0,B,H',rfl,os.trans I.os,gb,I.flyUn hx hs hfr F un fl2.1 up,hok_tracked hok fun b u hb z=>?_,fl2,I.flyB hx hs hfr F,hE _ _ _ q⟩
 obtain ⟨o,ho⟩:=F.b1 b hb
 have e1:=fl.1 b o ho
 rw [z] at e1; cases e1
 exact fl2.1 b _ ho
end
end L2
namespace L2
open PySem PySem.Spec PyProof.Rows
abbrev veMro:List Value:=[.type "ValueError",.type "Exception",.type "BaseException",.type "object"]
def OwnX (K:PySem.W.Frag) (C:Addr):Prop:=PySem.W.excIn K C veMro "ValueError.__new__" = true
theorem OwnX.obj {K:PySem.W.Frag} {h:Heap} {C:Addr} (KX:K.In h) (z:OwnX K C):∃ tl N nm qn bs y1 sn sb ab cl dd j0 j1 j2 j3 j5 mN,
  h.get? C = some (excClassObj nm qn C N bs tl y1 sn sb ab cl dd j0 j1 j2 j3 j5 "ValueError.__new__") /\ h.Ns N mN /\ mN "__init__" = none /\ OwnTail h veMro tl:=by
 unfold OwnX PySem.W.excIn at z
 split at z
 case h_2=>cases z
 case h_1 ob dct cdt sls look =>
  split at z
  case h_2=>cases z
  case h_1 C2 tl j0 j1 j2 j3 nid j5 hmro hsls =>
   rw [Bool.and_eq_true,Bool.and_eq_true,Bool.and_eq_true,Bool.and_eq_true,Bool.and_eq_true] at z
   obtain ⟨⟨⟨⟨⟨z1,z2⟩,z3⟩,z4⟩,z5⟩,z6⟩:=z
   have c1:=beq_iff_eq.mp z1
   have c2:=beq_iff_eq.mp z2
   have c6:=beq_iff_eq.mp z6
   subst c1 c2
   have c3:cdt.hasDel = false:=by simpa using z3
   have c7:sls = #[j0,j1,j2,j3,some (.builtin "ValueError.__new__"),j5]:=by
    cases sls with
    | mk l=>exact congrArg Array.mk hsls
   have G:=KX _ _ look
   cases cdt with
   | mk nm bs mro ns qn hd sn sb ab cl del =>
    cases hmro
    cases c3
    rw [c7] at G
    exact ⟨tl,ns,nm,qn,bs,hd,sn,sb,ab,cl,dct,j0,j1,j2,j3,j5,_,G,.of_isNs (PySem.W.isNs_of_in KX z5),PySem.W.nsMap_none_of_in KX z5 c6,PySem.W.tail_of_in KX z4⟩
def tRaise (E:XK) (C:Addr) (t:TA):TS:=fun _ σ H=>t σ H fun vs H1=>vs.length <= 1000 /\ E (.ref C) none H1
section
variable {P:Program} {w:World} {K:PySem.W.Frag} {mg:Str -> Option Value} {base:Heap} {N:List Str} {qual:Str} {scope:Scope} {f:Addr} {cd:Value} {A:Around} {outer:List Env} {s₀:Shared} {H₀:Hp} {E:XK} {C:Addr}
theorem ps_raise {x:Str} {np cpos pos:Pos} {e:Expr} {es:List Expr} {t:TA} (z:OwnX K C) (hg:Gl (cxOf (CX1 P w) P w K mg base N qual scope f cd A outer s₀ H₀ E) x) (hm:mg x = some (.ref C))
  (ha:PA (cxOf (CX1 P w) P w K mg base N qual scope f cd A outer s₀ H₀ E) (e :: es) t) (hdb:(x == ("__debug__" : Str)) = false:=by decide)
  (he:starEach (e :: es) (envOfC qual scope s₀.heap.objs.size f cd) = (false,eval e (envOfC qual scope s₀.heap.objs.size f cd)) :: starEach es (envOfC qual scope s₀.heap.objs.size f cd):=by rfl) (hpl:(backTo cpos (starEach es (envOfC qual scope s₀.heap.objs.size f cd))).any (·.1) = false:=by rfl) :
  PS (cxOf (CX1 P w) P w K mg base N qual scope f cd A outer s₀ H₀ E) (.Raise (some (.Call (.Name x np) (e :: es) [] cpos)) none pos) (tRaise E C t):=by
 intro pins s σ H D I h
 obtain ⟨tl,N',nm,qn,bs,y1,sn,sb,ab,cl,dd,j0,j1,j2,j3,j5,mN,hC,hN,hni,T⟩:=z.obj I.ok.mod.kin
 refine wpAny_Raise_call_subU (nm:=nm) (q:=qn) (C:=C) (N:=N') (bs:=bs) (bm:=tl) (hdct:=y1) (sn:=sn) (sub:=sb) (ab:=ab) (col:=cl) (dd:=dd) (k0:=j0) (k1:=j1) (k2:=j2) (k3:=j3) (k5:=j5)
  PySem.F.excBase_ValueError (by decide) PySem.F.excBase_ValueError (mN:=mN) (T.hasType (by decide)) (I.ok.hd rfl) ?_ hni (ld_glob I hg hm ⟨rfl,?_⟩ hdb)
 ·show (backTo cpos (starEach (e :: es) (envOfC qual scope s₀.heap.objs.size f cd))).any (·.1) = false
  rw [he]
  show (false || (backTo cpos (starEach es (envOfC qual scope s₀.heap.objs.size f cd))).any (·.1)) = false
  rw [hpl]
  rfl
 ·have go:=ha cpos pins s σ H _ I h
  show wpAny _ _ (evalArgs (.ref C) true (backTo cpos (starEach (e :: es) (envOfC qual scope s₀.heap.objs.size f cd))) []) _ _ _
  have go':wpAny (model P w) (A.deeper (envOfC qual scope s₀.heap.objs.size f cd)) (spliced (backTo cpos (starEach (e :: es) (envOfC qual scope s₀.heap.objs.size f cd)))) _ _ s:=go
  rw [he] at go' ⊢
  refine Calls.evalArgs_plain (thn go' fun us s1 ⟨vs,H1,I1,r,q⟩=>?_)
  obtain ⟨hl,q⟩:=q
  refine ⟨rfl,?_,I1.bk _ _ hC,hN.keeps I1.bk,T.keeps I1.bk,fun h' ea hm'=>?_⟩
  ·show us.length <= sizeLine
   rw [<- r.length]
   exact Nat.le_trans hl (by decide)
  ·exact I1.raised rfl rfl rfl hm' q rfl I1.bare
end
end L2
namespace L2
open PySem PySem.Spec PySem.Calls PyProof.Rows PySem.W PySem.Builtin PySem.Builtin.ObjectAttr PySem.Builtin.Getset_descriptor
section
variable {prog:Program} {w:World} {A:Around} {E:Value -> Shared -> Prop} {K:Frag} {x C:Addr} {ob:Obj} {hh:Heap} {g:Array GenState} {d:Drawn} {t:Nat} {os:OsState}
structure XCls (K:Frag) (C:Addr):Prop where
 ga:findIn K (.ref C) "__getattribute__" = some (some (.builtin "BaseException.__getattribute__"))
 gt:findIn K (.ref C) "__getattr__" = some none
 cl:findIn K (.ref C) "__class__" = some (some (.builtin "object.__class__"))
 mo:mroIn K C (.type "object") = some true
 mb:mroIn K C (.type "BaseException") = some true
 ic:(clsIn K C).isSome = true
theorem xc_get {R:Result -> Shared -> Prop} {tp:Value} (Z:XCls K C) (X:K.In hh) (hx:hh.get? x = some ob) (hc:ob.cls = .ref C)
  (h:R (.ok (.ret (.ref C))) ⟨hh,g,d,t,os⟩):codeAny (model prog w) A (.call (.builtin "getset_descriptor.__get__") ⟨[.builtin "object.__class__",.ref x,tp],[]⟩) R ⟨hh,g,d,t,os⟩:=by
 have L0:Looks (model prog w) hh (typeOf (.ref x)) (.ref C):=hc ▸ (Looks.ld hx).andThen .now
 have L1:=looks_mroIn (M:=model prog w) X Z.mo
 refine codeAny_call_builtin KF.slot_gs.plain KF.entry_gs (KF.slot_gs.check _ _ _ _ _ _ _ _ KF.type_class (KF.args_gs _ _ _) ?_)
 unfold Builtin.«getset_descriptor.__get__»; unfold descrGet
 rw [dga_obj]
 refine wpAny_bind (wpAny_pure ?_)
 unfold descrGetter; unfold descrCheckInstance; unfold descrNameAndClass; unfold isInstance
 simp only [KF.owner_class]
 repeat lk
 refine And.intro (Code.quiet_builtin _ (by decide +kernel)) (codeAny_builtin KF.entry_class ?_)
 unfold Builtin.«object.__class__»; unfold shownTypeOf
 repeat lk
 exact h
theorem xc_entry {tk:Tok} {Q:Fin -> Shared -> Prop} (Z:XCls K C) (X:K.In hh) (hx:hh.get? x = some ob) (hc:ob.cls = .ref C) (hq:Q (.done (.ret (.ref C))) ⟨hh,g,d,t,os⟩) :
  wpAny (model prog w) A (Builtin.«object.__getattribute__» ⟨[.ref x,.str "__class__" tk],[]⟩) Q E ⟨hh,g,d,t,os⟩:=by
 have hT5:(⟨hh,g,d,t,os⟩ : Shared).TypeIs (.builtin "object.__class__") "getset_descriptor":=F.typeOf_object_class
 have f5:=F.typeOf_object_class
 have f6:=F.slot_gs_get.lookup
 have f7:=F.slot_gs_set.lookup
 have L0:Looks (model prog w) hh (typeOf (.ref x)) (.ref C):=hc ▸ (Looks.ld hx).andThen .now
 have L2:=looks_findIn (M:=model prog w) X Z.cl
 repeat (any_goals (first | assumption | (with_reducible refine L0.at ?_) | (with_reducible refine L2.at ?_) | (with_reducible refine wpAny_loadPart_at hx ?_; rw [hc]) | wp_step))
 refine xc_get Z X hx hc ?_
 repeat (any_goals (first | assumption | wp_step))
theorem xc_check {M:Model} {nv:Value} {Q:Unit -> Shared -> Prop} (Z:XCls K C) (X:K.In hh) (hx:hh.get? x = some ob) (hc:ob.cls = .ref C) (hq:Q () ⟨hh,g,d,t,os⟩) :
  wpAny M A (checkBuiltinCall "BaseException.__getattribute__" ⟨[.ref x,nv],[]⟩) Q E ⟨hh,g,d,t,os⟩:=by
 have b1:splitId "BaseException.__getattribute__" = some ("BaseException", "__getattribute__") /\ builtinKind "BaseException.__getattribute__" = some .slot:=⟨by decide +kernel,by decide +kernel⟩
 have b3:=F.args_bexc_ga (.ref x) nv
 have L0:Looks M hh (typeOf (.ref x)) (.ref C):=hc ▸ (Looks.ld hx).andThen .now
 have L1:=looks_mroIn (M:=M) X Z.mb
 have LI:Looks M hh (isInstance (.ref x) (.type "BaseException")) true:=L0.andThen L1
 simp only [checkBuiltinCall,b1.1,b1.2]
 refine wpAny_bind (LI.at ?_)
 repeat (any_goals (first | assumption | wp_step))
theorem xc_call {tk:Tok} {R:Result -> Shared -> Prop} (Z:XCls K C) (X:K.In hh) (hx:hh.get? x = some ob) (hc:ob.cls = .ref C) (h:R (.ok (.ret (.ref C))) ⟨hh,g,d,t,os⟩) :
  codeAny (model prog w) A (.call (.builtin "BaseException.__getattribute__") ⟨[.ref x,.str "__class__" tk],[]⟩) R ⟨hh,g,d,t,os⟩ :=
 codeAny_call_builtin F.attr_ValueError.ga.plain F.entry_bexc_ga (xc_check Z X hx hc (xc_entry Z X hx hc h))
theorem xc_by {tk:Tok} {Q:Value -> Shared -> Prop} (Z:XCls K C) (X:K.In hh) (hx:hh.get? x = some ob) (hc:ob.cls = .ref C) (hq:Q (.ref C) ⟨hh,g,d,t,os⟩) :
  wpAny (model prog w) A (getAttrBy (.ref x) (.str "__class__" tk) false) Q E ⟨hh,g,d,t,os⟩:=by
 have b3:=F.attr_ValueError.ga.bind (.ref x)
 have y2:(Value.builtin "BaseException.__getattribute__" == Value.builtin "object.__getattribute__") = false:=by decide +kernel
 have y1:(onTheHeap (Value.ref C) && (Value.builtin "BaseException.__getattribute__" == Value.builtin "object.__getattribute__")) = false:=by rw [y2,Bool.and_false]
 have L0:Looks (model prog w) hh (typeOf (.ref x)) (.ref C):=hc ▸ (Looks.ld hx).andThen .now
 have L1:=looks_findIn (M:=model prog w) X Z.ga
 have L2:=looks_findIn (M:=model prog w) X Z.gt
 unfold getAttrBy
 refine wpAny_holding (wpAny_bind (L0.at (wpAny_bind (L1.at ?_))))
 show wpAny _ _ (if (onTheHeap (Value.ref C) && (Value.builtin "BaseException.__getattribute__" == Value.builtin "object.__getattribute__")) = true then _ else getAttrByItsOwn _ _ _ _ _ _) _ _ _
 rw [if_neg (by rw [y1]; simp)]
 unfold getAttrByItsOwn hookBefore
 rw [if_pos (show onTheHeap (Value.ref C) = true from rfl)]
 refine wpAny_bind (L2.at ?_)
 unfold callGetattribute boundAndCalled
 repeat (any_goals (first | assumption | wp_step))
 refine xc_call Z X hx hc ?_
 repeat (any_goals (first | assumption | wp_step))
theorem xc_attr {Q:Option Value -> Shared -> Prop} (Z:XCls K C) (X:K.In hh) (hx:hh.get? x = some ob) (hc:ob.cls = .ref C) (hq:Q (some (.ref C)) ⟨hh,g,d,t + 1,os⟩) :
  wpAny (model prog w) A (getAttr? (.ref x) "__class__") Q E ⟨hh,g,d,t,os⟩:=by
 unfold getAttr?; unfold getAttrBy?
 refine wpAny_bind (wpAny_mkText (wpAny_bind (wpAny_attempt (xc_by Z X hx hc ?_))))
 exact wpAny_pure hq
def ExcIs (x C:Addr) (h:Heap):Prop:=∃ ob,h.get? x = some ob /\ ob.cls = .ref C
theorem kitx_exc (Z:XCls K C):KitX K (.ref x) (.ref C) (ExcIs x C) where
 ty:=fun _ _ _ ⟨_,h1,h2⟩=>h2 ▸ (Looks.ld h1).andThen .now
 it:=fun M h X _=>by
  have z:=Z.ic
  cases e:clsIn K C with
  | none=>rw [e] at z; cases z
  | some cd =>
   unfold clsIn at e
   split at e
   ·rename_i look
    intro A1 Q1 E1 s1 k1 q1
    unfold isType; unfold loadHead
    refine wpAny_bind (wpAny_loadPart (k1 _ _ (X _ _ look)) (wpAny_pure ?_))
    exact q1
   ·cases e
 ne:=fun h tp dd its n sl X htp=>by
  rw [Bool.eq_false_iff]
  intro q
  have e1:C = tp:=by
   have:=beq_iff_eq.mp q
   cases this
   rfl
  subst e1
  have z:=Z.ic
  unfold clsIn at z
  split at z
  ·rename_i look
   have e2:=X _ _ look
   rw [htp] at e2
   cases e2
  ·cases z
 ca:=fun {_ _ _ _ _ s} X ⟨_,h1,h2⟩ k=>by
  obtain ⟨hp,g1,d1,t1,os1⟩:=s
  exact xc_attr Z X h1 h2 k
end
end L2
namespace L2
open PySem PySem.Spec PyProof.Rows
def PX (X:Cx) (e:Expr) (t:St -> Hp -> XK -> Prop):Prop :=
 ∀ (pins:List (Addr × Obj)) (s:Shared) (σ:St) (H:Hp) (E:XK),Inv X pins σ H s -> t σ H E -> wpAny (model X.prog X.w) X.A (eval e X.env) (fun _ _=>False) (fun ev s'=>∃ s1 H1,Inv X pins σ H1 s1 /\ CX1 X.prog X.w X.stack H1 s1 E ev s') s
def ExO (x C:Addr):HO:=.ext (ExcIs x C)
section
variable {X:Cx} {pins:List (Addr × Obj)} {σ:St} {H H':Hp} {s s':Shared}
theorem Inv.landed {B h:Heap} (I:Inv X pins σ H s) (F:FlyB X.stack H H' s.heap B) (u:Un (frs X.stack) [] H H' s.heap s'.heap) (hok:HOk X.prog X.w H' s'.heap) (hs':B.StaysIn s'.heap) (hB:B.StaysIn h) (up:s'.heap.UpToSlots h) (hos:s'.os = s.os) (hg:AllBare s'.gens) :
  Inv X pins σ H' { s' with heap:=h }:=by
 obtain ⟨h1,g1,d1,t1,os1⟩:=s'
 have e0:os1 = s.os:=hos
 subst e0
 have n0:∀ b:Addr,b ∉ ([]:List Addr):=fun b z=>absurd z (by simp)
 have slots:∀ b,b ∈ frs X.stack -> ∀ o,s.heap.get? b = some o -> H b = none -> ∃ sl,h.get? b = some { o with slots:=sl }:=fun b hb o e n=>by
  obtain ⟨sl,e1⟩:=u.any e n (n0 b)
  obtain ⟨_,o',e3,hd⟩:=I.stack.mem hb
  rw [e] at e3; cases e3
  obtain ⟨sl2,e2⟩:=up b _ e1 hd
  exact ⟨sl2,e2⟩
 have nst:∀ b,b ≠ X.env.locals -> b ∉ X.fs -> b ∉ frs X.stack:=fun b h1 h2 z=>(List.mem_cons.mp (I.stkSub b z)).elim h1 h2
 have hfin:HOk X.prog X.w H' h:=hok_tracked hok fun b v hb z=>by
  obtain ⟨o,ho⟩:=F.b1 b hb
  have e1:=hs' b o ho
  have e2:h1.get? b = some v:=z
  rw [e2] at e1; cases e1
  exact hB b _ ho
 have key:=I.step (h':=h) (g':=g1) (d':=d1) (t':=t1) (ch:=[]) (fun _ z=>nomatch z) (fun b o hL hf _ e n=>hB b o (F.b2 b o e n (nst b hL hf)))
  (fun b o hL hf _ e n=>?_) (fun b o _ e n=>u.free b o e n (n0 b)) (fun b o _ e=>?_) u.tups u.frzs u.tbls (fun m hm=>?_) hfin hg
 ·exact key
 ·by_cases hb:b ∈ frs X.stack
  ·exact slots b hb o e n
  ·exact ⟨o.slots,hB b o (F.b2 b o e n hb)⟩
 ·by_cases hb:b ∈ frs X.stack
  ·obtain ⟨sl,q⟩:=slots b hb o e (I.stkFree b hb)
   exact ⟨_,q⟩
  ·obtain ⟨o',q⟩:=F.b3 b o e hb
   exact ⟨o',hB b o' q⟩
 ·obtain ⟨o,es,ep,ho,hd,r⟩:=hm
  by_cases hb:X.env.locals ∈ frs X.stack
  ·obtain ⟨sl,q⟩:=slots _ hb o ho I.free
   exact ⟨_,es,ep,q,hd,r⟩
  ·exact ⟨o,es,ep,hB _ o (F.b2 _ o ho I.free hb),hd,r⟩
theorem Inv.track {a:Addr} {o:HO} (I:Inv X pins σ H s) (ha:H a = none) (h0:X.s₀.heap.get? a = none) (hL:a ≠ X.env.locals) (hc:∀ x c,X.env.cells.lookup x = some c -> c ≠ a) (hp:∀ p ∈ X.pn ++ pins,p.1 ≠ a)
  (new:ObjOk X.prog X.w (upd H a o) s.heap a o):Inv X pins σ (upd H a o) s:=by
 have ne:∀ b u,H b = some u -> b ≠ a:=fun b u e z=>by rw [z,ha] at e; cases e
 refine ⟨I.ok,I.os,I.bare,⟨I.base.keep,I.base.slot,fun b ob e n hx=>?_,I.base.there,fun b xs e=>?_,fun b ob v e=>?_,fun b ps e=>?_⟩,I.loc,I.cell,?_,fun x c e=>?_,fun p hp'=>?_,fun b u e=>?_,I.len⟩
 ·have:b ≠ a:=fun z=>by rw [z,h0] at e; cases e
  rw [upd_ne this]
  exact I.base.free b ob e n hx
 ·have q:=I.base.tups b xs e
  rw [upd_ne (ne b _ q)]
  exact q
 ·have q:=I.base.frzs b ob v e
  rw [upd_ne (ne b _ q)]
  exact q
 ·obtain ⟨m,q⟩:=I.base.tbls b ps e
  exact ⟨m,by rw [upd_ne (ne b _ q)]; exact q⟩
 ·rw [upd_ne (Ne.symm hL)]
  exact I.free
 ·rw [upd_ne (hc x c e)]
  exact I.freeC x c e
 ·obtain ⟨q1,q2,q3⟩:=I.pin p hp'
  exact ⟨q1,by rw [upd_ne (hp p hp')]; exact q2,q3⟩
 ·by_cases hb:b = a
  ·subst hb
   rw [upd_same] at e
   cases e
   exact new
  ·rw [upd_ne hb] at e
   exact (I.hok b u e).stay (fun _ _ _ q=>q) (fun c q=>by rw [upd_ne (ne c _ q)]; exact q) fun c xs q=>by rw [upd_ne (ne c _ q)]; exact q
abbrev Cx.marked (X:Cx) (v:Value):Cx:={ X with A:=X.A.mark (some v),calm:=false,xe:=fun _ _=>False }
theorem Inv.mark (I:Inv X pins σ H s) (v:Value):Inv (X.marked v) pins σ H s :=
 ⟨⟨I.ok.mod,I.ok.kind,I.ok.glob,I.ok.blt,I.ok.above,I.ok.inj,I.ok.has,I.ok.cab,(fun z=>nomatch z),I.ok.frames,I.ok.stk,I.ok.exf,I.ok.bs,I.ok.bsz,I.ok.noex,I.ok.exfs,I.ok.funs,I.ok.frf⟩,I.os,I.bare,I.base,I.loc,I.cell,I.free,I.freeC,I.pin,I.hok,I.len⟩
theorem Inv.unmark {v:Value} (I:Inv (X.marked v) pins σ H s) (ok:X.Ok):Inv X pins σ H s:=⟨ok,I.os,I.bare,I.base,I.loc,I.cell,I.free,I.freeC,I.pin,I.hok,I.len⟩
theorem Inv.unset {i:Nat} {n:Str} {h:Heap} {v:Option Value} {m:Str -> Option Value} {t:Tok} (I:Inv X pins σ H s) (hN:X.N.Nodup) (hi:X.N[i]? = some n)
  (hm:s.heap.Ns X.env.locals m) (hl:∀ (j:Nat) (x:Str) (w:V),X.N[j]? = some x -> σ[j]? = some (some w) -> Vis X.env.scope x -> ∃ u,RelV w u /\ Look X.env s.heap m x u)
  (hn:h.Ns X.env.locals (fun x=>if x = n then v else m x)) (hs:Heap.SameBut X.env.locals s.heap h):Inv X pins (σ.set i none) H { s with heap:=h,toks:=t }:=by
 have sm:∀ b o,b ≠ X.env.locals -> s.heap.get? b = some o -> h.get? b = some o:=fun b o hb e=>(hs.2 b hb).trans e
 have cellK:∀ x c,X.env.cells.lookup x = some c -> ∀ w,s.heap.IsCell c w -> h.IsCell c w:=fun x c e w ⟨o,ho,hd⟩=>⟨o,sm c o (I.cne x c e) ho,hd⟩
 refine ⟨I.ok,I.os,I.bare,⟨fun b o e n' hb hx=>?_,fun b o e n' hb hx=>?_,I.base.free,fun b o e hx=>?_,I.base.tups,I.base.frzs,I.base.tbls⟩,⟨_,hn,fun j x w e1 e2 e3=>?_⟩,fun x c e=>?_,I.free,I.freeC,fun p hp=>?_,fun b u e=>?_,by rw [List.length_set]; exact I.len⟩
 ·have neL:b ≠ X.env.locals:=Nat.ne_of_lt (Nat.lt_of_lt_of_le (Heap.lt_size e) I.ok.above)
  exact sm b o neL (I.base.keep b o e n' hb hx)
 ·have neL:b ≠ X.env.locals:=Nat.ne_of_lt (Nat.lt_of_lt_of_le (Heap.lt_size e) I.ok.above)
  obtain ⟨sl,q⟩:=I.base.slot b o e n' hb hx
  exact ⟨sl,sm b _ neL q⟩
 ·have neL:b ≠ X.env.locals:=Nat.ne_of_lt (Nat.lt_of_lt_of_le (Heap.lt_size e) I.ok.above)
  obtain ⟨o',q⟩:=I.base.there b o e hx
  exact ⟨o',sm b _ neL q⟩
 ·have hij:j ≠ i:=fun z=>by
   subst z
   rw [List.getElem?_set_self (by rw [I.len]; exact (List.getElem?_eq_some_iff.mp hi).1)] at e2
   cases e2
  rw [List.getElem?_set_ne (Ne.symm hij)] at e2
  have hxn:x ≠ n:=fun z=>by
   subst z
   exact hij ((List.getElem?_inj (List.getElem?_eq_some_iff.mp e1).1 hN).mp (e1.trans hi.symm))
  obtain ⟨u,r,l⟩:=hl j x w e1 e2 e3
  refine ⟨u,r,?_⟩
  rcases l with ⟨k,q⟩ | ⟨k,c,q,z⟩
  ·exact .inl ⟨k,(if_neg hxn).trans q⟩
  ·exact .inr ⟨k,c,q,cellK x c q _ z⟩
 ·obtain ⟨w,z⟩:=I.cell x c e
  exact ⟨w,cellK x c e w z⟩
 ·obtain ⟨q1,q2,q3,q4,q5⟩:=I.pin p hp
  exact ⟨sm _ _ q3 q1,q2,q3,q4,q5⟩
 ·refine (I.hok b u e).stay (fun c w hc q=>sm c w (fun z=>?_) q) (fun _ q=>q) fun _ _ q=>q
  subst z
  rcases hc with z | z
  ·rw [<- z,I.free] at e; cases e
  ·rw [I.free] at z; cases z
end
end L2
namespace L2
open PySem PySem.Spec PyProof.Rows
def tTry (K:PySem.W.Frag) (C0:Addr) (i:Nat) (tb:St -> Hp -> XK -> Prop) (ts:TS):TS:=fun D σ H =>
 tb σ H fun c _ H1=>∃ C,c = .ref C /\ PySem.W.exmOne K (.ref C) (.ref C0) = some true /\ ∀ a H2,vw K H1 a = none -> Same (vw K H1) (vw K H2) -> vw K H2 a = some (ExO a C) -> ts { nx:=fun σ2 H2=>D.nx (σ2.set i none) H2,rt:=fun _ _=>False } (σ.set i (some (.ref a))) H2
section
variable {X:Cx}
theorem ps_try {e:Expr} {cls n:Str} {b0:Stmt} {suite:List Stmt} {p1 np hp pos:Pos} {C0:Addr} {i:Nat} {tb:St -> Hp -> XK -> Prop} {ts:TS} (hx0:X.ex = []) (hs:X.stack = X.env :: X.outer) (hfr:X.env.frame = some X.env.locals)
  (hb:PX X e tb) (hN:X.N.Nodup) (hi:X.N[i]? = some n) (hloc:X.env.scope.names.lookup n = some .local) (hg:Gl X cls) (hm:X.mg cls = some (.ref C0)) (hsu:∀ v,PSs (X.marked v) (b0 :: suite) ts)
  (hdb:(cls == ("__debug__" : Str)) = false:=by decide) (hsw:swapsWith e none p1.line X.env = pure false:=by rfl) :
  PS X (.Try [.Expr e p1] [.ExceptHandler (some (.Name cls np)) (some n) (b0 :: suite) hp] [] [] pos) (tTry X.K C0 i tb ts):=by
 intro pins s σ H D I h
 obtain ⟨E1,hE1⟩ : ∃ E1:XK,E1 = fun c _ H1=>∃ C,c = .ref C /\ PySem.W.exmOne X.K (.ref C) (.ref C0) = some true /\ ∀ a H2,vw X.K H1 a = none -> Same (vw X.K H1) (vw X.K H2) -> vw X.K H2 a = some (ExO a C) -> ts { nx:=fun σ2 H2=>D.nx (σ2.set i none) H2,rt:=fun _ _=>False } (σ.set i (some (.ref a))) H2:=⟨_,rfl⟩
 have h':tb σ H E1:=by rw [hE1]; exact h
 refine wpAny_Try_except (wpAny_mono (Q:=fun _ _=>False) (E:=fun ev s'=>∃ s1 H1,Inv X pins σ H1 s1 /\ CX1 X.prog X.w X.stack H1 s1 E1 ev s') ?_ (fun _ _ z=>z.elim) fun ev s' hx=>?_)
 ·refine wpAny_execs_cons (wpAny_Expr_any (thn (hb pins s σ H E1 I h') fun _ _ z=>z.elim) I.quiet hsw)
 ·obtain ⟨s1,H1,I1,a,C,a0,B,H',rfl,os,gb,un,hok,fl,F,q⟩:=hx
  rw [hE1] at q
  obtain ⟨C',ec,hex,q⟩:=q
  cases ec
  have hfr':X.A.frames = some (X.env :: X.outer):=by rw [I1.ok.frames,hs]
  have fl0:=fl
  rw [hs] at fl
  have nB:B.get? a = none:=fl0.2.1
  obtain ⟨oa,va,ga,ca,da,_⟩:=fl0.first
  have n1:s1.heap.get? a = none:=by
   cases z:s1.heap.get? a with
   | none=>rfl
   | some o =>
    by_cases hf:a ∈ frs X.stack
    ·obtain ⟨_,o',e3,hd⟩:=fl0.2.2.1.mem hf
     rw [ga] at e3; cases e3
     exact absurd da (hd _)
    ·obtain ⟨o',q'⟩:=F.b3 a o z hf
     rw [nB] at q'; cases q'
  have n0:X.s₀.heap.get? a = none:=by
   cases z:X.s₀.heap.get? a with
   | none=>rfl
   | some o =>
    obtain ⟨o',q'⟩:=I1.base.there a o z (by rw [hx0]; simp)
    rw [n1] at q'; cases q'
  have nH:H' a = none:=by
   cases z:H' a with
   | none=>rfl
   | some u =>
    obtain ⟨o',q'⟩:=F.b1 a (by rw [z]; simp)
    rw [nB] at q'; cases q'
  have nL:a ≠ X.env.locals:=fun z=>by
   obtain ⟨m,⟨o,_,_,ho,_⟩,_⟩:=I1.loc
   rw [<- z,n1] at ho; cases ho
  have nC:∀ x c,X.env.cells.lookup x = some c -> c ≠ a:=fun x c e' z=>by
   obtain ⟨v,o,ho,_⟩:=I1.cell x c e'
   rw [z,n1] at ho; cases ho
  have nP:∀ p ∈ X.pn ++ pins,p.1 ≠ a:=fun p hp' z=>by
   have ho:=(I1.pin p hp').1
   rw [z,n1] at ho; cases ho
  refine wpAny_looks_onW hfr' hfr fl fun h4 held4 up4=>?_
  refine wpAny_landsW held4 fun h5 fl5 up5=>?_
  have up45:=up4.trans up5
  have I5:=I1.landed F un hok fl0.1 fl5.1 up45 os gb
  refine wpAny_handleBy_cons (codeAny_handlers_test ?_) (by intro z; cases z)
  refine ld_glob (X:=X.marked (.ref a)) (I5.mark (.ref a)) hg hm ?_ hdb
  obtain ⟨o5,g5,c5⟩:=fl5.there
  have LT:PySem.W.Looks (model X.prog X.w) h5 (typeOf (.ref a)) (.ref C):=c5 ▸ (PySem.W.Looks.ld g5).andThen .now
  refine (PySem.W.exm_one I5.kIn LT hex).here ?_
  refine codeAny_handlers_suite_as ?_
  refine lands_againW fl5 fun h6 fl6 up6=>?_
  have I6:=I1.landed F un hok fl0.1 fl6.1 (up45.trans up6) os gb
  obtain ⟨o6,g6,c6⟩:=fl6.there
  have I7:=I6.track (a:=a) (o:=ExO a C) nH n0 nL nC nP ⟨⟨o6,g6,c6⟩,⟨o6,g6⟩,fun ha hb ⟨o,e1,e2⟩ k=>⟨o,k o e1,e2⟩⟩
  have hKa:X.K.lookup a = none:=by
   cases z:X.K.lookup a with
   | none=>rfl
   | some ob =>
    have e1:=I1.bk a ob (I1.ok.mod.kin a ob z)
    rw [n1] at e1; cases e1
  have hv1:vw X.K H' a = none:=(vw_new hKa).trans nH
  have hv2:vw X.K (upd H' a (ExO a C)) a = some (ExO a C):=(vw_new hKa).trans upd_same
  refine store_ok I7 hN hi (.inl hloc) (v:=.ref a) rfl (fun s8 I8=>?_) (.inr hloc)
  refine wpAny_mono ((hsu (.ref a)) pins s8 _ _ _ (I8.mark (.ref a)) (q a _ hv1 (vw_same (Same.upd nH)) hv2)) (fun f s9 z=>?_) fun _ _ z=>z.elim
  cases f with
  | next =>
   obtain ⟨σ9,H9,I9,q9⟩:=z
   have I9':=I9.unmark I.ok
   obtain ⟨m,hn,hl⟩:=id I9'.loc
   refine wpAny_nameGoes_keeps hloc hn (by rw [I.ok.kind]; rfl) fun h10 v10 hn10 hs10=>?_
   exact ⟨_,H9,I9'.unset hN hi hn hl hn10 hs10,q9⟩
  | brk=>obtain ⟨_,_,_,z⟩:=z; exact z.elim
  | cont=>obtain ⟨_,_,_,z⟩:=z; exact z.elim
  | ret u=>obtain ⟨_,_,_,_,_,z⟩:=z; exact z.elim
end
end L2
namespace L2
open PySem PySem.Spec PyProof.Rows
theorem CX1.imp {P:Program} {w:World} {outer:List Env} {H:Hp} {s s':Shared} {E E':XK} {e:Value} (h:CX1 P w outer H s E e s') (k:∀ c o H',E c o H' -> E' c o H'):CX1 P w outer H s E' e s':=by
 obtain ⟨a,C,a0,B,H',h1,h2,h3,h4,h5,h6,h7,h8⟩:=h
 exact ⟨a,C,a0,B,H',h1,h2,h3,h4,h5,h6,h7,k _ _ _ h8⟩
structure Lam (P:Program) (w:World) (K:PySem.W.Frag) (mg:Str -> Option Value) (base:Heap) (k:Nat) (p C:Addr) (s:Shared) (H:Hp) (outer:List Env):Prop where
 fn:∃ oc od fd sl,s.heap.get? p = some ⟨oc,od,.func fd,sl⟩
 free:H p = none
 nof:p ∉ frs outer
 run:∀ (A':Around) (outer':List Env) (s':Shared),Room k A' -> Env0 P w K mg base A' outer' s' H -> (∀ b o,s.heap.get? b = some o -> H b = none -> b ∉ frs outer -> s'.heap.get? b = some o) ->
  codeAny (model P w) A' (.call (.ref p) ⟨[],[]⟩) (CR (CX1 P w) outer' P w H s' (fun _ _=>False) (fun c o H'=>c = .ref C /\ o = none /\ Same (vw K H) (vw K H'))) s'
theorem px_lam {X:Cx} {k i:Nat} {x:Str} {p C:Addr} {p1 p2:Pos} (hx0:X.ex = []) (L:Lam X.prog X.w X.K X.mg X.base k p C X.s₀ X.H₀ X.outer) (hr:Room k X.A) (hi:X.N[i]? = some x) (hv:Vis X.env.scope x)
  (hd:(x == ("__debug__" : Str)) = false:=by decide) (hcd:(x == ("__classdict__" : Str)) = false:=by decide) :
  PX X (.Call (.Name x p1) [] [] p2) (fun σ H E=>H = X.H₀ /\ σ[i]? = some (some (.ref p)) /\ ∀ H',Same (vw X.K X.H₀) (vw X.K H') -> E (.ref C) none H'):=by
 intro pins s σ H E I h
 obtain ⟨rfl,hσ,hE⟩:=h
 have nx:∀ b,b ∉ X.ex:=fun b z=>by rw [hx0] at z; exact absurd z (by simp)
 refine wpAny_Call_Name_kw ?_
 refine thn (pe_var (X:=X.wish fun ev s'=>∃ s1 H1,Inv X pins σ H1 s1 /\ CX1 X.prog X.w X.stack H1 s1 E ev s') hi hv hd hcd pins s σ X.H₀ (fun v H1=>v = .ref p /\ H1 = X.H₀) (I.wish _) ⟨.ref p,hσ,rfl,rfl⟩) (fun u s1 z=>?_)
 obtain ⟨v,H1,I1,r,rfl,rfl⟩:=z
 have I1:=I1.unwish
 cases r
 have keep:∀ b o,X.s₀.heap.get? b = some o -> X.H₀ b = none -> b ∉ frs X.outer -> s1.heap.get? b = some o:=fun b o e n nf=>I1.base.keep b o e n nf (nx b)
 obtain ⟨oc,od,fd,sl,hfn⟩:=L.fn
 refine PySem.W.callWith_F0 ⟨oc,od,fd,sl,keep _ _ hfn L.free L.nof⟩ ?_
 refine wpAny_call (codeAny_mono (L.run X.A X.stack s1 hr I1.env0 keep) fun r s' hq=>?_)
 cases r with
 | error e =>
  have hq':CX1 X.prog X.w X.stack X.H₀ s1 (fun c o H'=>c = .ref C /\ o = none /\ Same (vw X.K X.H₀) (vw X.K H')) e s':=hq
  exact ⟨s1,X.H₀,I1,hq'.imp fun c o H' ⟨q1,q2,q3⟩=>by subst q1 q2; exact hE H' q3⟩
 | ok fl =>
  cases fl with
  | ret u=>obtain ⟨_,_,_,_,_,_,_,z⟩:=hq; exact z.elim
  | next=>exact False.elim hq
  | brk=>exact False.elim hq
  | cont=>exact False.elim hq
theorem fn_run {CX:CXT} {P:Program} {w:World} {K:PySem.W.Frag} {mg:Str -> Option Value} {base:Heap} {k:Nat} {f:Addr} {name qual:Str} {params:Arguments} {body:List Stmt} {scope:Scope} {dV kV doc pm cdv ct oc:Value} {an od:Option Addr}
  {osl:Array (Option Value)} {N ps:List Str} {A:Around} {outer:List Env} {s:Shared} {H:Hp} {args:Args} {us:List Value} {vs:List V} {Q:VK} {E:XK}
  (lk:K.lookup f = some ⟨oc,od,.func (PySem.W.fnOf name qual params body scope dV kV doc pm an cdv ct),osl⟩) (hcd:PySem.W.codeIn K cdv qual = true) (S:FnScope N ps scope)
  (hr:Room (k + 1) A) (e0:Env0 P w K mg base A outer s H) (hb:BindsTo s (PySem.W.fnOf name qual params body scope dV kV doc pm an cdv ct) args (ps.zip us)) (r:Vals vs us) (hl:vs.length = ps.length)
  (hbody:Room k (A.deeper (envOfC qual scope s.heap.objs.size f cdv)) -> ∃ t,PSs (cxOf CX P w K mg base N qual scope f cdv A outer s H E) body t /\ t { nx:=fun _ H'=>Q .non H',rt:=Q } (start N vs) H) :
  codeAny (model P w) A (.call (.ref f) args) (CR CX outer P w H s Q E) s:=by
 have KX:K.In s.heap:=e0.mod.kin.keeps fun b o e=>(e0.bs b o e).1
 have lim:s.heap.NoLimit:=e0.mod.nolimit.keeps fun b o e=>(e0.bs b o e).1
 have hkind:∀ y ∈ ps.zip us,scope.names.lookup y.1 = some .local \/ (scope.names.lookup y.1 = some .cell /\ ((cellsFrom (s.heap.objs.size + 1) scope.names []).lookup y.1).isSome = true):=fun ⟨n,v⟩ hy=>by
  rcases S.par n (List.of_mem_zip hy).1 with q | q
  ·exact .inl q
  ·exact .inr ⟨q,PySem.W.cellsFrom_some _ _ _ (.inl q)⟩
 refine codeAny_call_function hr.depth (KX _ _ lk) rfl S.co S.gen rfl (PySem.W.codeRec_of KX hcd) (hb _ _ _ _ ?_)
 refine wpAny_newFunctionEnv_cells S.kind hkind fun env he s1 x=>?_
 subst he
 refine ⟨lim.keeps x.toInCall.keep,codeAny_func ?_⟩
 obtain ⟨t,ht,hq⟩:=hbody (hr.deeper _)
 have I:Inv (cxOf CX P w K mg base N qual scope f cdv A outer s H E) [] (start N vs) H s1:=inv_start S hr.hd e0 hl r x
 refine wpAny_mono (ht [] s1 (start N vs) H _ I hq) (fun fl s' hs=>?_) fun e s' hs=>hs
 have fin:∀ {σ':St} {H':Hp} {v:V} {u:Value},Inv (cxOf CX P w K mg base N qual scope f cdv A outer s H E) [] σ' H' s' -> RelV v u -> Q v H' -> CE outer P w H s Q u s' :=
  fun {σ' H' v u} J rv q=>⟨v,H',J.os,J.bare,J.base,J.hok,rv,q⟩
 cases fl with
 | ret u =>
  obtain ⟨v,σ',H',J,rv,q⟩:=hs
  exact fin J rv q
 | next =>
  obtain ⟨σ',H',J,q⟩:=hs
  exact fin (v:=V.non) (u:=Value.none) J rfl q
 | brk =>
  obtain ⟨_,_,_,q⟩:=hs
  exact False.elim q
 | cont =>
  obtain ⟨_,_,_,q⟩:=hs
  exact False.elim q
end L2
namespace L2
open PySem PySem.Spec PyProof.Rows
def CodeO (c:Addr) (qual:Str):HO:=.ext (fun h=>h.CodeRec (.ref c) qual)
def TabOk (H:Hp) (P:Addr) (qual:Str):Prop:=∃ ps,H P = some (.tbl ps) /\ TriplesOk ps.toList /\ ∀ pos cv,codeAmong pos ps.toList = some cv -> ∃ c,cv = .ref c /\ H c = some (CodeO c qual)
theorem codeAmong_end {pos:Pos} {a b:Int} {c cv:Value} (l:List Value) (h:TriplesOk l) (z:codeAmong pos (l ++ [rawInt a,rawInt b,c]) = some cv):codeAmong pos l = some cv \/ cv = c:=by
 fun_induction TriplesOk l with
 | case1 =>
  simp only [List.nil_append,codeAmong,rawInt] at z
  split at z
  ·exact .inr (Option.some.inj z).symm
  ·cases z
 | case2 a' t b' u x rest ih =>
  simp only [List.cons_append,codeAmong] at z ⊢
  by_cases hh:(a' == (pos.line:Int) && b' == (pos.col:Int)) = true
  ·rw [if_pos hh] at z ⊢
   exact .inl z
  ·rw [if_neg hh] at z ⊢
   exact ih h z
 | case3 l h1 h2=>exact h.elim
theorem Inv.tabbed {X:Cx} {pins:List (Addr × Obj)} {σ:St} {H:Hp} {s:Shared} {P c':Addr} {qual:Str} {ps more:Array Value} {h2:Heap} {t':Nat} (I:Inv X pins σ H s) (hP:H P = some (.tbl ps)) (hx:Heap.ExtBut P s.heap h2) (hc:s.heap.objs.size <= c')
  (hr:h2.CodeRec (.ref c') qual) (hP2:h2.get? P = some { cls:=.none,data:=.fields (ps ++ more) }):Inv X pins σ (upd (upd H P (.tbl (ps ++ more))) c' (CodeO c' qual)) { s with heap:=h2,toks:=t' }:=by
 have nc:H c' = none:=I.hok.fresh hc
 have cP:c' ≠ P:=fun z=>by rw [z,hP] at nc; cases nc
 have nP:∀ b,H b = none -> b ≠ P:=fun b n z=>by rw [z,hP] at n; cases n
 have old:∀ b o,s.heap.get? b = some o -> b ≠ c':=fun b o e z=>by rw [z] at e; exact absurd (Nat.lt_of_lt_of_le (Heap.lt_size e) hc) (Nat.lt_irrefl _)
 have oth:∀ b u,H b = some u -> (∀ q,u ≠ .tbl q) -> upd (upd H P (.tbl (ps ++ more))) c' (CodeO c' qual) b = some u:=fun b u e nt=>by
  rw [upd_ne (ne_of_none e nc),upd_ne (fun z=>by rw [z,hP] at e; cases e; exact nt _ rfl)]
  exact e
 refine I.step (h':=h2) (g':=s.gens) (d':=s.drawn) (t':=t') (ch:=[]) (fun _ z=>nomatch z) (fun b o _ _ _ e n=>hx b o (nP b n) e) (fun b o _ _ _ e n=>⟨o.slots,hx b o (nP b n) e⟩) (fun b o _ e n=>?_) (fun b o _ e=>?_)
  (fun b xs e=>oth b _ e (fun _ z=>by cases z)) (fun b o u e=>oth b _ e (fun _ z=>by cases z)) (fun b qs e=>?_) (fun m hm=>?_) (fun b u e=>?_) I.bare
 ·rw [upd_ne (old b o e),upd_ne (nP b n)]
  exact n
 ·by_cases hb:b = P
  ·exact ⟨_,by rw [hb]; exact hP2⟩
  ·exact ⟨o,hx b o hb e⟩
 ·by_cases hb:b = P
  ·subst hb
   rw [hP] at e
   cases e
   exact ⟨more,by rw [upd_ne (Ne.symm cP),upd_same]⟩
  ·exact ⟨#[],by rw [upd_ne (ne_of_none e nc),upd_ne hb,e]; simp⟩
 ·obtain ⟨o,es,ep,ho,r⟩:=hm
  exact ⟨o,es,ep,hx _ o (nP _ I.free) ho,r⟩
 ·by_cases hb:b = c'
  ·subst hb
   rw [upd_same] at e
   cases e
   obtain ⟨c2,oc,vs,t,e1,e2,e3⟩:=id hr
   cases e1
   exact ⟨hr,⟨_,e2⟩,fun ha hb ⟨c3,o3,v3,t3,q1,q2,q3⟩ k=>by cases q1; exact ⟨_,o3,v3,t3,rfl,k o3 q2,q3⟩⟩
  ·rw [upd_ne hb] at e
   by_cases hp:b = P
   ·subst hp
    rw [upd_same] at e
    cases e
    exact hP2
   ·rw [upd_ne hp] at e
    refine (I.hok b u e).stay (fun c v hc' q=>hx c v (fun z=>?_) q) (fun c q=>oth c _ q fun _ z=>by cases z) fun c xs q=>oth c _ q fun _ z=>by cases z
    rcases hc' with z2 | z2
    ·exact hp (z2.symm.trans z)
    ·rw [z,hP] at z2; cases z2
theorem clos_ex {env:Env}:∀ (l:List (Str × NameKind)) (acc:List (Str × Addr)),(∀ q ∈ l,q.2 = .free -> ∃ c,env.cells.lookup q.1 = some c) -> (∀ x ∈ acc,env.cells.lookup x.1 = some x.2) ->
  ∃ r,(forIn l acc (fun (x:Str × NameKind) (cs:List (Str × Addr))=>(if (x.2 == NameKind.free) = true then do let c <- cellOf env x.1; pure (ForInStep.yield ((x.1,c) :: cs)) else pure (ForInStep.yield cs):Sem (ForInStep (List (Str × Addr))))):Sem (List (Str × Addr))) = pure r /\
   (∀ x ∈ r,env.cells.lookup x.1 = some x.2) /\ (∀ q ∈ l,q.2 = .free -> ∃ c,(q.1,c) ∈ r) /\ ∀ x ∈ acc,x ∈ r
 | [],acc,_,ha=>⟨acc,rfl,ha,by simp,fun _ z=>z⟩
 | q :: l,acc,h,ha=>by
  obtain ⟨n,kd⟩:=q
  rw [List.forIn_cons]
  by_cases hk:kd = .free
  ·subst hk
   obtain ⟨c,hc⟩:=h (n,.free) (by simp) rfl
   obtain ⟨r,e1,e2,e3,e4⟩:=clos_ex (env:=env) l ((n,c) :: acc) (fun q hq=>h q (by simp [hq])) (fun x hx=>by
    rcases List.mem_cons.mp hx with z | z
    ·rw [z]; exact hc
    ·exact ha x z)
   refine ⟨r,?_,e2,fun q hq hf=>?_,fun x hx=>e4 x (by simp [hx])⟩
   ·simp only [cellOf,hc,pure_bind,beq_self_eq_true,if_true]
    exact e1
   ·rcases List.mem_cons.mp hq with z | z
    ·rw [z]; exact ⟨c,e4 _ (by simp)⟩
    ·exact e3 q z hf
  ·obtain ⟨r,e1,e2,e3,e4⟩:=clos_ex (env:=env) l acc (fun q hq=>h q (by simp [hq])) ha
   refine ⟨r,?_,e2,fun q hq hf=>?_,e4⟩
   ·have:(kd == NameKind.free) = false:=by simpa using hk
    simp only [this,Bool.false_eq_true,if_false,pure_bind]
    exact e1
   ·rcases List.mem_cons.mp hq with z | z
    ·rw [z] at hf; exact absurd hf hk
    ·exact e3 q z hf
theorem clos_of {env:Env} {scope:Scope} (h:∀ q ∈ scope.names,q.2 = .free -> ∃ c,env.cells.lookup q.1 = some c):∃ r,closureFor scope env = pure r /\ (∀ x ∈ r,env.cells.lookup x.1 = some x.2) /\ (∀ q ∈ scope.names,q.2 = .free -> ∃ c,(q.1,c) ∈ r):=by
 obtain ⟨r,e1,e2,e3,_⟩:=clos_ex (env:=env) scope.names [] h (by simp)
 refine ⟨r,?_,e2,e3⟩
 unfold closureFor
 have e1':=e1
 first
  | (rw [<- e1]; simp; done)
  | (simp only [bind_pure]; rw [<- e1]; rfl)
  | (show (forIn scope.names [] _ >>= pure) = _; rw [bind_pure]; rw [<- e1]; rfl)
end L2
namespace L2
open PySem PySem.Spec PyProof.Rows
structure Maker (X:Cx) (c P:Addr):Prop where
 code:X.env.code = .ref c
 hd:PySem.W.CodeHd X.base c P
 bi:∃ bm o,X.mg "__builtins__" = some (.ref bm) /\ bm ≠ builtinsNs /\ bm ≠ mainGlobals /\ X.base.get? bm = some o /\ o.cls = .type "module" /\ o.dict = some builtinsNs /\ o.data = .plain
abbrev lamQ (X:Cx):Str:=X.env.qual ++ "<lambda>"
theorem lam_eval {X:Cx} {pins:List (Addr × Obj)} {σ:St} {H:Hp} {s:Shared} {params:Arguments} {body:Expr} {scope:Scope} {pos:Pos} {c P:Addr} {M':Model} {A':Around} {Q:Value -> Shared -> Prop} {E:Value -> Shared -> Prop}
  (M:Maker X c P) (hdef:defaultsOf params X.env = ([],[])) (I:Inv X pins σ H s) (hT:TabOk H P (lamQ X)) (hfree:∀ q ∈ scope.names,q.2 = .free -> X.env.kindOf q.1 = some .cell)
  (k:∀ (p c':Addr) (pm ctv:Value) (clos:List (Str × Addr)) (H1:Hp) (s1:Shared),(∀ x ∈ clos,X.env.cells.lookup x.1 = some x.2) -> (∀ q ∈ scope.names,q.2 = .free -> ∃ c,(q.1,c) ∈ clos) -> Inv X pins σ H1 s1 -> But P H H1 -> TabOk H1 P (lamQ X) ->
   s1.heap.get? p = some (PySem.W.kla_obj "<lambda>" (lamQ X) params body scope clos pm c' ctv) -> H1 p = none -> s.heap.objs.size <= p -> H1 c' = some (CodeO c' (lamQ X)) -> Q (.ref p) s1) :
  wpAny M' A' (eval (.Lambda params body scope pos) X.env) Q E s:=by
 obtain ⟨clos,hcl,hc1,hc2⟩:=clos_of (env:=X.env) (scope:=scope) fun q hq hf=>I.ok.has q.1 (.inl (hfree q hq hf))
 refine PySem.W.kla_eval hdef ?_
 obtain ⟨ps,hP,ht,hall⟩:=hT
 have oP:s.heap.get? P = some (PySem.W.tabObj ps):=I.hok P _ hP
 obtain ⟨bm,o,b1,b2,b3,b4,b5,b6,b7⟩:=M.bi
 have bP:bm ≠ P:=fun z=>by
  have:=(I.bs bm o b4).2
  rw [z,hP] at this; cases this
 have gP:mainGlobals ≠ P:=fun z=>by
  obtain ⟨og,_,_,eg,_⟩:=I.mod.glob
  have:=(I.bs _ og eg).2
  rw [z,hP] at this; cases this
 have hb:s.heap.BuiltinsAt X.mg P:=⟨bm,o,b1,b2,b3,bP,I.bk _ _ b4,b5,b6,b7⟩
 cases hh:codeAmong pos ps.toList with
 | none =>
  refine PySem.W.kla_makeFunction hcl I.ok.glob (I.mod.glob.keeps I.bk) M.code (M.hd.keeps I.bk) oP ht hh gP hb fun c' ctv h' tk hx hge hlt hrec htb=>?_
  have I1:=I.tabbed (t':=tk) hP hx hge hrec htb
  have I2:=I1.kept (t':=tk) (h':=h'.push (PySem.W.kla_obj "<lambda>" (lamQ X) params body scope clos ((X.mg "__name__").getD .none) c' ctv)) fun b o e=>Heap.get?_push_of_some _ e
  have nc:H c' = none:=I.hok.fresh hge
  have cP:c' ≠ P:=fun z=>by rw [z,hP] at nc; cases nc
  have hle:s.heap.objs.size <= h'.objs.size:=Nat.le_trans hge (Nat.le_of_lt hlt)
  refine k _ c' _ ctv clos _ _ hc1 hc2 I2 (fun b o hb e=>?_) ⟨_,by rw [upd_ne (Ne.symm cP),upd_same],?_,fun pos' cv z=>?_⟩ (Heap.get?_push_size _ rfl) (I1.hok.fresh (Nat.le_refl _)) hle upd_same
  ·rw [upd_ne (ne_of_none e nc),upd_ne hb]
   exact e
  ·rw [Array.toList_append]
   exact TriplesOk_snoc _ _ _ _ ht
  ·rw [Array.toList_append] at z
   rcases codeAmong_end _ ht z with q | q
   ·obtain ⟨c2,e2,e3⟩:=hall pos' cv q
    refine ⟨c2,e2,?_⟩
    rw [upd_ne (ne_of_none e3 nc),upd_ne (fun z=>by rw [z,hP] at e3; cases e3)]
    exact e3
   ·exact ⟨c',q,upd_same⟩
 | some cv =>
  obtain ⟨c',rfl,hcO⟩:=hall pos cv hh
  refine PySem.W.kla_makeFunctionHit hcl I.ok.glob (I.mod.glob.keeps I.bk) M.code (M.hd.keeps I.bk) oP ht hh hb fun ctv h' tk hk hsz=>?_
  have I1:=I.kept (t':=tk) (h':=h') hk
  have I2:=I1.kept (t':=tk) (h':=h'.push (PySem.W.kla_obj "<lambda>" (lamQ X) params body scope clos ((X.mg "__name__").getD .none) c' ctv)) fun b o e=>Heap.get?_push_of_some _ e
  exact k _ c' _ ctv clos _ _ hc1 hc2 I2 (fun b o _ e=>e) ⟨ps,hP,ht,hall⟩ (Heap.get?_push_size _ rfl) (I1.hok.fresh (Nat.le_refl _)) hsz hcO
def lamCx (P:Program) (w:World) (K:PySem.W.Frag) (mg:Str -> Option Value) (base:Heap) (N:List Str) (qual:Str) (scope:Scope) (p:Addr) (cd:Value) (cl:List (Str × Addr)) (A:Around) (outer:List Env) (s:Shared) (H:Hp):Cx where
 prog:=P
 w:=w
 K:=K
 mg:=mg
 base:=base
 A:=A.deeper (PySem.W.envX qual scope s.heap.objs.size p cd cl)
 N:=N
 s₀:=s
 H₀:=H
 env:=PySem.W.envX qual scope s.heap.objs.size p cd cl
 outer:=outer
 stack:=PySem.W.envX qual scope s.heap.objs.size p cd cl :: outer
 ex:=[]
 fn:=fun _=>false
 calm:=true
 pn:=[]
 xe:=fun _ _=>False
theorem lookup_of_mem {cl:List (Str × Addr)} {f:Str -> Option Addr} (h:∀ x ∈ cl,f x.1 = some x.2) {n:Str} {c:Addr} (hm:(n,c) ∈ cl):cl.lookup n = some c:=by
 induction cl with
 | nil=>cases hm
 | cons q r ih =>
  obtain ⟨m,d⟩:=q
  rw [List.lookup_cons]
  by_cases e:n = m
  ·subst e
   have h1:=h (n,d) (by simp)
   have h2:=h (n,c) hm
   rw [h1] at h2
   cases h2
   simp
  ·have:(n == m) = false:=by simpa using e
   rw [this]
   refine ih (fun x hx=>h x (by simp [hx])) ?_
   rcases List.mem_cons.mp hm with z | z
   ·cases z; exact absurd rfl e
   ·exact z
theorem mem_of_lookup' {cl:List (Str × Addr)} {n:Str} {c:Addr} (h:cl.lookup n = some c):(n,c) ∈ cl:=by
 induction cl with
 | nil=>cases h
 | cons q r ih =>
  obtain ⟨m,d⟩:=q
  rw [List.lookup_cons] at h
  by_cases e:(n == m) = true
  ·rw [e] at h
   cases h
   rw [eq_of_beq e]
   simp
  ·have:(n == m) = false:=by simpa using e
   rw [this] at h
   exact List.mem_cons_of_mem _ (ih h)
end L2
namespace L2
open PySem PySem.Spec PyProof.Rows
theorem inv_lam {P:Program} {w:World} {K:PySem.W.Frag} {mg:Str -> Option Value} {base:Heap} {N:List Str} {qual:Str} {scope:Scope} {p:Addr} {cd:Value} {cl:List (Str × Addr)} {A:Around} {outer:List Env} {s:Shared} {H:Hp} {σ:St} {h1:Heap} {t:Nat} {g:Str -> Option Addr}
  (hk:scope.kind = .function) (hh:A.handled = none) (e0:Env0 P w K mg base A outer s H) (hg:∀ x ∈ cl,g x.1 = some x.2) (hinj:∀ x y c,g x = some c -> g y = some c -> x = y) (hfr:∀ q ∈ scope.names,q.2 = .free -> ∃ c,(q.1,c) ∈ cl) (hnc:∀ q ∈ scope.names,q.2 ≠ .cell)
  (hns:h1.Ns s.heap.objs.size (fun _=>none)) (keep:∀ b o,s.heap.get? b = some o -> h1.get? b = some o) (hcell:∀ x c,cl.lookup x = some c -> H c = none /\ ∃ v,s.heap.IsCell c v)
  (hloc:∀ (i:Nat) (x:Str) (v:V),N[i]? = some x -> σ[i]? = some (some v) -> scope.names.lookup x = some .free /\ ∃ u c,RelV v u /\ cl.lookup x = some c /\ s.heap.IsCell c (some u)) (hlen:σ.length = N.length) :
  Inv (lamCx P w K mg base N qual scope p cd cl A outer s H) [] σ H { s with heap:=h1,toks:=t }:=by
 have noA:∀ b:Addr,b ∉ (lamCx P w K mg base N qual scope p cd cl A outer s H).ex:=fun b z=>absurd (show b ∈ ([]:List Addr) from z) (by simp)
 refine ⟨⟨e0.mod,hk,rfl,rfl,Nat.le_refl _,fun x y c h1 h2=>?_,fun x hx=>?_,(fun x c h=>nomatch h),fun _=>hh,Around.frames_deeper e0.frames,.inr ⟨rfl,rfl⟩,fun b z=>absurd z (noA b),e0.bs,e0.bsz,fun b _ _=>noA b,fun b z=>absurd z (noA b),e0.funs,e0.frf⟩,
  rfl,e0.bare,Un.kept keep,⟨_,hns,fun i x v h1 h2 h3=>?_⟩,fun x c h=>?_,e0.hok.fresh (Nat.le_refl _),fun x c h=>(hcell x c h).1,fun q hq=>absurd (show q ∈ ([]:List (Addr × Obj)) from hq) (by simp),e0.hok.kept keep,hlen⟩
 ·exact hinj x y c (hg _ (mem_of_lookup' h1)) (hg _ (mem_of_lookup' h2))
 ·have hx':scope.names.lookup x = some .cell \/ scope.names.lookup x = some .free:=hx
  rcases hx' with z | z
  ·exact absurd rfl (hnc _ (PySem.mem_of_lookup z))
  ·obtain ⟨c,hc⟩:=hfr _ (PySem.mem_of_lookup z) rfl
   exact ⟨c,lookup_of_mem hg hc⟩
 ·obtain ⟨hf,u,c,r,hc,o,ho,hd⟩:=hloc i x v h1 h2
  exact ⟨u,r,.inr ⟨.inr hf,c,hc,o,keep _ _ ho,hd⟩⟩
 ·obtain ⟨_,v,o,ho,hd⟩:=hcell x c h
  exact ⟨v,o,keep _ _ ho,hd⟩
theorem lam_ok {X:Cx} {pins:List (Addr × Obj)} {σ σl:St} {H:Hp} {s:Shared} {params:Arguments} {body:Expr} {scope:Scope} {qual:Str} {p c' C:Addr} {pm ctv:Value} {clos:List (Str × Addr)} {Nl:List Str} {k:Nat} {tl:St -> Hp -> XK -> Prop}
  (hfn:∀ x,X.fn x = true) (I:Inv X pins σ H s) (hc1:∀ x ∈ clos,X.env.cells.lookup x.1 = some x.2) (hc2:∀ q ∈ scope.names,q.2 = .free -> ∃ c,(q.1,c) ∈ clos)
  (hp:s.heap.get? p = some (PySem.W.kla_obj "<lambda>" qual params body scope clos pm c' ctv)) (hpn:H p = none) (hpf:p ∉ frs X.stack) (hco:H c' = some (CodeO c' qual))
  (hk:scope.kind = .function) (hnc:∀ q ∈ scope.names,q.2 ≠ .cell) (hsc:scope.isCoroutine = false /\ scope.isGenerator = false) (hbind:bindArgs (PySem.W.kla_fn "<lambda>" qual params body scope clos pm (.ref c') ctv) ⟨[],[]⟩ = pure [])
  (hN:∀ (i:Nat) (x:Str) (v:V),Nl[i]? = some x -> σl[i]? = some (some v) -> scope.names.lookup x = some .free /\ X.env.kindOf x = some .cell /\ ∃ j:Nat,X.N[j]? = some x /\ σ[j]? = some (some v)) (hlen:σl.length = Nl.length)
  (hb:∀ (A':Around) (outer':List Env) (s':Shared),Room k (A'.deeper (PySem.W.envX qual scope s'.heap.objs.size p (.ref c') clos)) -> PX (lamCx X.prog X.w X.K X.mg X.base Nl qual scope p (.ref c') clos A' outer' s' H) body tl)
  (ht:tl σl H fun c o H'=>c = .ref C /\ o = none /\ Same (vw X.K H) (vw X.K H')):Lam X.prog X.w X.K X.mg X.base (k + 1) p C s H X.stack:=by
 have cells:∀ x c,clos.lookup x = some c -> X.env.cells.lookup x = some c:=fun x c h=>hc1 _ (mem_of_lookup' h)
 have cfree:∀ x c,X.env.cells.lookup x = some c -> c ∉ frs X.stack:=fun x c e z=>by
  rcases List.mem_cons.mp (I.stkSub c z) with q | q
  ·exact I.cne x c e q
  ·obtain ⟨_,o,ho,_⟩:=I.ok.funs.mem q
   exact absurd (Nat.lt_of_lt_of_le (Heap.lt_size ho) (I.ok.cab x c (hfn x) e)) (Nat.lt_irrefl _)
 refine ⟨⟨_,_,_,_,hp⟩,hpn,hpf,fun A' outer' s' hr e0 keep=>?_⟩
 have KX:X.K.In s'.heap:=e0.mod.kin.keeps fun b o e=>(e0.bs b o e).1
 have lim:s'.heap.NoLimit:=e0.mod.nolimit.keeps fun b o e=>(e0.bs b o e).1
 have hrec:s'.heap.CodeRec (.ref c') qual:=(e0.hok c' _ hco).1
 have cellAt:∀ x c v,X.env.cells.lookup x = some c -> s.heap.IsCell c v -> s'.heap.IsCell c v:=fun x c v e ⟨o,ho,hd⟩=>⟨o,keep c o ho (I.freeC x c e) (cfree x c e),hd⟩
 refine PySem.W.kla_callFunE hr.depth (keep _ _ hp hpn hpf) rfl hsc.1 hsc.2 rfl hrec ?_
 rw [hbind]
 refine wpAny_pure (wpAny_newFunctionEnv hnc (fun y hy=>absurd hy (by simp)) (fun h1 hns hsb=>⟨lim.fresh _ hsb,?_⟩) hk)
 show codeAny _ _ (.expr body (PySem.W.envX qual scope s'.heap.objs.size p (.ref c') clos)) _ _
 have kp:∀ b o,s'.heap.get? b = some o -> h1.get? b = some o:=fun b o e=>hsb.extBut b o (Nat.ne_of_lt (Heap.lt_size e)) (Heap.get?_push_of_some _ e)
 have J:Inv (lamCx X.prog X.w X.K X.mg X.base Nl qual scope p (.ref c') clos A' outer' s' H) [] σl H { s' with heap:=h1,toks:=s'.toks + ([]:List (Str × Value)).length }:=by
  refine inv_lam (g:=fun x=>X.env.cells.lookup x) hk hr.hd e0 hc1 (fun x y c h1 h2=>I.ok.inj x y c h1 h2) hc2 hnc (by simpa using hns) kp (fun x c e=>⟨I.freeC x c (cells x c e),?_⟩) (fun i x v e1 e2=>?_) hlen
  ·obtain ⟨v,z⟩:=I.cell x c (cells x c e)
   exact ⟨v,cellAt x c v (cells x c e) z⟩
  ·obtain ⟨f1,f2,j,f3,f4⟩:=hN i x v e1 e2
   obtain ⟨m,hn,hl⟩:=I.loc
   obtain ⟨u,r,l⟩:=hl j x v f3 f4 (.inr (.inl f2))
   refine ⟨f1,u,?_⟩
   rcases l with ⟨z,_⟩ | ⟨_,c,hc,hz⟩
   ·rw [f2] at z; cases z
   ·obtain ⟨c2,hm⟩:=hc2 _ (PySem.mem_of_lookup f1) rfl
    have l2:=lookup_of_mem (f:=fun x=>X.env.cells.lookup x) hc1 hm
    have e3:=cells _ _ l2
    rw [hc] at e3
    cases e3
    exact ⟨c,r,l2,cellAt x c _ hc hz⟩
 refine PySem.W.kla_codeExpr (wpAny_mono ((hb A' outer' s' (hr.deeper _)) [] _ σl H _ J ht) (fun _ _ z=>z.elim) fun ev s2 z=>?_)
 obtain ⟨s3,H3,J3,z⟩:=z
 exact J3.passed rfl rfl rfl z fun _ _ _ q=>q
end L2
namespace L2
open PySem PySem.Spec PyProof.Rows
def ClsV:V -> Value -> Prop
 | .ref a,u=>u = .ref a
 | .ty n,u=>u = .type n
 | _,_=>False
theorem call_isinstX {X:Cx}:CallR X (.builtin "isinstance") (fun xs H Q=>∃ p c,xs = [.ref p,c] /\ ∃ C,vw X.K H p = some (ExO p C) /\ XCls X.K C /\ ∃ cv,ClsV c cv /\ ∃ b,PySem.W.kitOne X.K (.ref C) cv = some b /\ Q (.bl b) H):=by
 intro pins s σ H xs us Q I r h
 obtain ⟨p,c,rfl,C,hp,Z,cv,hc,b,hk,q⟩:=h
 obtain ⟨u,w',rfl,rx,ry⟩:=vals2 r
 cases rx
 have e1:w' = cv:=by
  cases c with
  | ref a=>exact (show w' = Value.ref a from ry).trans hc.symm
  | ty n=>exact (show w' = Value.type n from ry).trans hc.symm
  | non=>exact hc.elim
  | bl _=>exact hc.elim
  | int _=>exact hc.elim
  | str _=>exact hc.elim
  | byt _=>exact hc.elim
  | flt _=>exact hc.elim
 subst e1
 have hx:ExcIs p C s.heap:=(I.hok p _ (vw_get hp (fun _ z=>by cases z))).1
 exact PySem.W.kia_one (kitx_exc Z) I.kIn hx hk (by intro z; cases z) fun tk=>⟨.bl b,H,I.tok tk,rfl,q⟩
def excNames:List Str:=["NoFraction", "NoPolynomial", "NoSums", "NoFlock", "NoWalk", "NoSum", "NoDeed", "NoText", "NoRow"]
structure XIdx (K:PySem.W.Frag) (mg:Str -> Option Value) (C:Addr) (i:Nat):Prop where
 cls:XCls K C
 kinds:∀ (j:Nat) (n:Str),excNames[j]? = some n -> ∃ c,mg n = some (.ref c) /\ PySem.W.kitOne K (.ref C) (.ref c) = some (decide (j = i))
 mom:∃ c,mg "MomentError" = some (.ref c) /\ PySem.W.exmOne K (.ref C) (.ref c) = some true
 ve:PySem.W.kitOne K (.ref C) (.type "ValueError") = some true
structure RefOk (P:Program) (w:World) (K:PySem.W.Frag) (mg:Str -> Option Value) (base:Heap) (kl:Nat):Prop where
 ex:∃ f,mg "_law_refused" = some (.ref f) /\ PySem.W.keepIn K (.ref f) = true /\ ∀ (A:Around) (outer:List Env) (s:Shared) (H:Hp) (p C:Addr) (i:Nat) (Q:VK),Room (kl + 1) A -> Env0 P w K mg base A outer s H -> Lam P w K mg base kl p C s H outer -> XIdx K mg C i -> i < 9 ->
  (∀ q H',Same (vw K H) (vw K H') -> vw K H q = none -> vw K H' q = some (.lst [.int i]) -> Q (.ref q) H') -> codeAny (model P w) A (.call (.ref f) ⟨[.ref p],[]⟩) (CR CX0 outer P w H s Q E0) s
theorem Inv.vwT {X:Cx} {pins:List (Addr × Obj)} {σ:St} {H:Hp} {s:Shared} {b:Addr} {o:HO} (I:Inv X pins σ H s) (e:H b = some o):vw X.K H b = some o:=by
 have hk:X.K.lookup b = none:=by
  cases z:X.K.lookup b with
  | none=>rfl
  | some ob =>
   have:=(I.bs b ob (I.ok.mod.kin b ob z)).2
   rw [e] at this; cases this
 rw [vw_new hk]
 exact e
theorem TabOk.raw {K:PySem.W.Frag} {H:Hp} {P:Addr} {qual:Str} (h:TabOk (vw K H) P qual):TabOk H P qual:=by
 obtain ⟨ps,h1,h2,h3⟩:=h
 refine ⟨ps,vw_get h1 (fun _ z=>by cases z),h2,fun pos cv z=>?_⟩
 obtain ⟨c,e1,e2⟩:=h3 pos cv z
 exact ⟨c,e1,vw_get e2 (fun _ z=>by cases z)⟩
theorem Inv.tabV {X:Cx} {pins:List (Addr × Obj)} {σ:St} {H:Hp} {s:Shared} {P:Addr} {qual:Str} (I:Inv X pins σ H s) (h:TabOk H P qual):TabOk (vw X.K H) P qual:=by
 obtain ⟨ps,h1,h2,h3⟩:=h
 refine ⟨ps,I.vwT h1,h2,fun pos cv z=>?_⟩
 obtain ⟨c,e1,e2⟩:=h3 pos cv z
 exact ⟨c,e1,I.vwT e2⟩
def tRefd (K:PySem.W.Frag) (P:Addr) (qual:Str) (ixs:List Nat) (C:Addr) (i:Nat) (tl:St -> Hp -> XK -> Prop):TE:=fun σ H Q=>TabOk (vw K H) P qual /\ ∀ H1,But P (vw K H) (vw K H1) -> TabOk (vw K H1) P qual -> ∃ σl:St,σl = ixs.map (fun j=>(σ[j]?).join) /\ tl σl H1 (fun c o H'=>c = .ref C /\ o = none /\ Same (vw K H1) (vw K H')) /\
 ∀ q H',Same (vw K H1) (vw K H') -> vw K H1 q = none -> vw K H' q = some (.lst [.int i]) -> Q (.ref q) H'
theorem pe_refd {X:Cx} {params:Arguments} {body:Expr} {scope:Scope} {c P C:Addr} {kl i:Nat} {p1 lpos pos:Pos} {Nl:List Str} {ixs:List Nat} {tl:St -> Hp -> XK -> Prop}
  (R:RefOk X.prog X.w X.K X.mg X.base (kl + 1)) (M:Maker X c P) (hr:Room (kl + 2) X.A) (hg:Gl X "_law_refused") (Z:XIdx X.K X.mg C i) (hi:i < 9) (hfn:∀ x,X.fn x = true) (hdef:defaultsOf params X.env = ([],[]))
  (hfree:∀ q ∈ scope.names,q.2 = .free -> X.env.kindOf q.1 = some .cell) (hk:scope.kind = .function) (hnc:∀ q ∈ scope.names,q.2 ≠ .cell) (hsc:scope.isCoroutine = false /\ scope.isGenerator = false)
  (hbind:∀ clos pm c' ctv,bindArgs (PySem.W.kla_fn "<lambda>" (lamQ X) params body scope clos pm (.ref c') ctv) ⟨[],[]⟩ = pure []) (hlen:ixs.length = Nl.length) (hNl:∀ (j:Nat) (x:Str),Nl[j]? = some x -> scope.names.lookup x = some .free /\ ∃ l,ixs[j]? = some l /\ X.N[l]? = some x)
  (hb:∀ (p c':Addr) (clos:List (Str × Addr)) (H1:Hp) (A':Around) (outer':List Env) (s':Shared),Room kl (A'.deeper (PySem.W.envX (lamQ X) scope s'.heap.objs.size p (.ref c') clos)) -> PX (lamCx X.prog X.w X.K X.mg X.base Nl (lamQ X) scope p (.ref c') clos A' outer' s' H1) body tl)
  (he:starEach [Expr.Lambda params body scope lpos] X.env = [(false,eval (.Lambda params body scope lpos) X.env)]:=by rfl) :
  PE X (.Call (.Name "_law_refused" p1) [.Lambda params body scope lpos] [] pos) (tRefd X.K P (lamQ X) ixs C i tl):=by
 intro pins s σ H Q I h
 obtain ⟨hT,h⟩:=h
 obtain ⟨f,hm,hkp,run⟩:=R.ex
 refine wpAny_Call_Name_kw (ld_glob I hg hm ?_ (by decide))
 refine PySem.W.callWith_K (h₀:=X.base) I.ok.mod.kin hkp ?_ he rfl
 rw [he]
 show wpAny _ _ (spliced [(false,eval (.Lambda params body scope lpos) X.env)]) _ _ s
 refine Calls.spliced_cons (lam_eval M hdef I (TabOk.raw hT) hfree fun p c' pm ctv clos H1 s1 hc1 hc2 I1 B1 T1 hp hpn hps hco=>?_)
 refine Calls.spliced_nil ⟨I1.kIn,?_⟩
 obtain ⟨σl,eσ,ht,fin⟩:=h H1 (vw_but B1) (I1.tabV T1)
 have hpf:p ∉ frs X.stack:=fun z=>by
  rcases List.mem_cons.mp (I.stkSub p z) with q | q
  ·exact absurd (Nat.lt_of_lt_of_le I.lt (q ▸ hps)) (Nat.lt_irrefl _)
  ·exact I.nofs hps q
 have L:Lam X.prog X.w X.K X.mg X.base (kl + 1) p C s1 H1 X.stack:=by
  refine lam_ok (σl:=σl) (Nl:=Nl) hfn I1 hc1 hc2 hp hpn hpf hco hk hnc hsc (hbind clos pm c' ctv) (fun j x v e1 e2=>?_) (by rw [eσ,List.length_map]; exact hlen) (fun A' outer' s' hr'=>hb p c' clos H1 A' outer' s' hr') ht
  obtain ⟨a1,l,a2,a3⟩:=hNl j x e1
  rw [eσ,List.getElem?_map,a2] at e2
  have e3:(σ[l]?).join = some v:=by
   have e4:some ((σ[l]?).join) = some (some v):=e2
   exact Option.some.inj e4
  refine ⟨a1,hfree _ (PySem.mem_of_lookup a1) rfl,l,a3,?_⟩
  cases e5:σ[l]? with
  | none=>rw [e5] at e3; cases e3
  | some w=>rw [e5] at e3; cases w with
   | none=>cases e3
   | some w=>cases e3; rfl
 refine wpAny_call (codeAny_mono (run X.A X.stack s1 H1 p C i Q hr I1.env0 L Z hi fin) fun r s' hq=>?_)
 cases r with
 | error e=>exact False.elim hq
 | ok fl =>
  cases fl with
  | ret u=>exact I1.after hq
  | next=>exact False.elim hq
  | brk=>exact False.elim hq
  | cont=>exact False.elim hq
def SmT (G G':Hp):Prop:=∀ b o,G b = some o -> (∀ ps,o ≠ .tbl ps) -> G' b = some o
theorem SmT.of {G G':Hp} (S:Same G G'):SmT G G':=fun b o e _=>S b o e
theorem SmT.trans {G G1 G2:Hp} (a:SmT G G1) (b:SmT G1 G2):SmT G G2:=fun c o e n=>b c o (a c o e n) n
theorem SmT.rfl {G:Hp}:SmT G G:=fun _ _ e _=>e
theorem SmT.but {G G':Hp} {P:Addr} {ps:Array Value} (h:G P = some (.tbl ps)) (B:But P G G'):SmT G G':=fun b o e n=>B b o (fun z=>by rw [z,h] at e; cases e; exact n _ _root_.rfl) e
theorem TabOk.same {G G':Hp} {P:Addr} {qual:Str} (h:TabOk G P qual) (S:Same G G'):TabOk G' P qual:=by
 obtain ⟨ps,h1,h2,h3⟩:=h
 refine ⟨ps,S _ _ h1,h2,fun pos cv z=>?_⟩
 obtain ⟨c,e1,e2⟩:=h3 pos cv z
 exact ⟨c,e1,S _ _ e2⟩
theorem TabOk.start {G:Hp} {P:Addr} {qual:Str} (h:G P = some (.tbl #[])):TabOk G P qual:=⟨#[],h,trivial,fun pos cv z=>by cases z⟩
mutual
theorem Rep.smT {H H':Hp} (S:SmT H H'):∀ (d:D) (v:V),Rep H d v -> Rep H' d v
 | .non,v,h=>by unfold Rep at *; exact h
 | .bl _,v,h=>by unfold Rep at *; exact h
 | .int _,v,h=>by unfold Rep at *; exact h
 | .str _,v,h=>by unfold Rep at *; exact h
 | .tup ds,v,h=>by
  obtain ⟨a,xs,rfl,ha,r⟩:=h.tup_at
  exact .mk_tup (S _ _ ha (fun _ z=>by cases z)) (Reps.smT S ds xs r)
 | .lst ds,v,h=>by
  obtain ⟨a,xs,rfl,ha,r⟩:=h.lst_at
  exact .mk_lst (S _ _ ha (fun _ z=>by cases z)) (Reps.smT S ds xs r)
 | .dict,v,h=>by
  unfold Rep at *
  obtain ⟨a,kvs,e,ha⟩:=h
  exact ⟨a,kvs,e,S _ _ ha (fun _ z=>by cases z)⟩
theorem Reps.smT {H H':Hp} (S:SmT H H'):∀ (ds:List D) (xs:List V),Reps H ds xs -> Reps H' ds xs
 | [],xs,h=>by cases h.nil_at; exact .mk_nil
 | d :: ds,xs,h=>by
  obtain ⟨x,r,rfl,h1,h2⟩:=h.cons_at
  exact .mk_cons (Rep.smT S d x h1) (Reps.smT S ds r h2)
end
theorem LsAt.smT {G G':Hp} {a:Addr} {qs:List (Int × Int)} (h:LsAt G a qs) (S:SmT G G'):LsAt G' a qs:=by
 obtain ⟨xs,e,r⟩:=h
 exact ⟨xs,S _ _ e (fun _ z=>by cases z),Reps.smT S _ _ r⟩
end L2
namespace L2
open PySem PySem.Spec PyProof.Rows
theorem ScrOk.smT {K:PySem.W.Frag} {H H':Hp} {a:Addr} {xs:List V} (h:ScrOk K H a xs) (S:SmT (vw K H) (vw K H')):ScrOk K H' a xs:=by
 rcases h with ⟨hk,h⟩ | h
 ·refine .inl ⟨hk,?_⟩
  rcases h with h | ⟨o,h⟩
  ·have:=S a _ (by rw [vw_new hk]; exact h) (fun _ z=>by cases z)
   rw [vw_new hk] at this
   exact .inl this
  ·have:=S a _ (by rw [vw_new hk]; exact h) (fun _ z=>by cases z)
   rw [vw_new hk] at this
   exact .inr ⟨o,this⟩
 ·exact .inr h
structure MkF (K:PySem.W.Frag) (mg:Str -> Option Value) (base:Heap) (fd:FuncData) (c P:Addr):Prop where
 code:fd.code = .ref c
 hd:PySem.W.CodeHd base c P
 bi:∃ bm o,mg "__builtins__" = some (.ref bm) /\ bm ≠ builtinsNs /\ bm ≠ mainGlobals /\ base.get? bm = some o /\ o.cls = .type "module" /\ o.dict = some builtinsNs /\ o.data = .plain
theorem maker_of {P:Program} {w:World} {K:PySem.W.Frag} {mg:Str -> Option Value} {base:Heap} {N:List Str} {qual:Str} {scope:Scope} {f:Addr} {cdv:Value} {A:Around} {outer:List Env} {s:Shared} {H:Hp} {E:XK} {fd:FuncData} {c Pt:Addr} (h:fd.code = cdv) (k:MkF K mg base fd c Pt) :
  Maker ((cxOf CX0 P w K mg base N qual scope f cdv A outer s H E).nox) c Pt:=⟨h ▸ k.code,k.hd,k.bi⟩
end L2
namespace L2
open PySem PySem.Spec PyProof.Rows
structure CalX (P:Program) (w:World) (K:PySem.W.Frag) (mg:Str -> Option Value) (base:Heap) (x:Str) (ps:List Str) (k:Nat) (sp:Sp):Prop where
 ex:∃ f fd,FnOk P w K mg base (CX1 P w) k f fd ps sp /\ mg x = some (.ref f) /\ PySem.W.keepIn K (.ref f) = true /\ Binds K fd ps []
structure QX (X:Cx) (e:Expr) (t:St -> Hp -> XK -> Prop):Prop where
 h:PX X e t
def tCalX (sp:Sp) (t:TA):St -> Hp -> XK -> Prop:=fun σ H E=>t σ H fun vs H1=>sp vs H1 (fun _ _=>False) E
theorem qx_cal {X:Cx} {x:Str} {p pos:Pos} {e:Expr} {es:List Expr} {t:TA} {ps:List Str} {k:Nat} {sp:Sp} (C:CalX X.prog X.w X.K X.mg X.base x ps k sp) (hr:Room k X.A) (hg:Gl X x) (ha:∀ E,QA (X.wish E) (e :: es) t) (hdb:(x == ("__debug__" : Str)) = false:=by decide)
  (he:starEach (e :: es) X.env = (false,eval e X.env) :: starEach es X.env:=by rfl) (hpl:(backTo pos (starEach es X.env)).any (·.1) = false:=by rfl) :
  QX X (.Call (.Name x p) (e :: es) [] pos) (tCalX sp t):=⟨by
 obtain ⟨f,fd,F,hm,hk,hb⟩:=C.ex
 intro pins s σ H E I h
 refine wpAny_Call_Name_kw (ld_glob I hg hm ?_ hdb)
 have ha':=(ha fun ev s'=>∃ s1 H1,Inv X pins σ H1 s1 /\ CX1 X.prog X.w X.stack H1 s1 E ev s').h pos pins s σ H _ (I.wish _) h
 refine PySem.W.callWith_K (h₀:=X.base) I.ok.mod.kin hk (thn ha' fun us s1 ⟨vs,H1,I1,r,q⟩=>⟨I1.kIn,?_⟩) he hpl
 have I1:=I1.unwish
 have hl:us.length = ps.length:=by rw [<- r.length]; exact F.len _ _ _ _ q
 have hb':=hb s1 us I1.kIn (by simpa using hl)
 rw [List.append_nil] at hb'
 refine wpAny_call (codeAny_mono (F.run X.A X.stack s1 H1 ⟨us,[]⟩ us vs _ E hr I1.env0 hb' r q) fun r s' hq=>?_)
 cases r with
 | error e=>exact ⟨s1,H1,I1,hq⟩
 | ok fl =>
  cases fl with
  | ret u=>obtain ⟨_,_,_,_,_,_,_,z⟩:=hq; exact z.elim
  | next=>exact False.elim hq
  | brk=>exact False.elim hq
  | cont=>exact False.elim hq⟩
section
variable {P:Program} {w:World} {K:PySem.W.Frag} {mg:Str -> Option Value} {base:Heap}
theorem Fun.okX {x qual:Str} {st:Stmt} {f:Addr} {fd:FuncData} {N ps:List Str} {k:Nat} {sp:Sp} (F:Fun K x qual st f fd) (S:FnScope N ps (defScope st)) (len:∀ vs H Q E,sp vs H Q E -> vs.length = ps.length)
  (hbody:∀ (cdv:Value) (A:Around) (outer:List Env) (s:Shared) (H:Hp) (vs:List V) (Q:VK) (E:XK),Room k (A.deeper (envOfC qual (defScope st) s.heap.objs.size f cdv)) -> sp vs H Q E ->
   ∃ t,QSs (cxOf (CX1 P w) P w K mg base N qual (defScope st) f cdv A outer s H E) (defBody st) t /\ t { nx:=fun _ H'=>Q .non H',rt:=Q } (start N vs) H):FnOk P w K mg base (CX1 P w) (k + 1) f fd ps sp:=by
 obtain ⟨oc,od,kV,doc,pm,an,cdv,ct,osl,rfl,lk,hcd⟩:=F.ex
 refine fn_of lk hcd S len fun A outer s H vs Q E hr hsp=>?_
 obtain ⟨t,h,q⟩:=hbody cdv A outer s H vs Q E hr hsp
 exact ⟨t,h.h,q⟩
theorem qs_raise {N:List Str} {qual:Str} {scope:Scope} {f:Addr} {cd:Value} {A:Around} {outer:List Env} {s₀:Shared} {H₀:Hp} {E:XK} {C:Addr} {x:Str} {np cpos pos:Pos} {e:Expr} {es:List Expr} {t:TA} (z:OwnX K C) (hg:Gl (cxOf (CX1 P w) P w K mg base N qual scope f cd A outer s₀ H₀ E) x) (hm:mg x = some (.ref C))
  (ha:QA (cxOf (CX1 P w) P w K mg base N qual scope f cd A outer s₀ H₀ E) (e :: es) t) (hdb:(x == ("__debug__" : Str)) = false:=by decide)
  (he:starEach (e :: es) (envOfC qual scope s₀.heap.objs.size f cd) = (false,eval e (envOfC qual scope s₀.heap.objs.size f cd)) :: starEach es (envOfC qual scope s₀.heap.objs.size f cd):=by rfl) (hpl:(backTo cpos (starEach es (envOfC qual scope s₀.heap.objs.size f cd))).any (·.1) = false:=by rfl) :
  QS (cxOf (CX1 P w) P w K mg base N qual scope f cd A outer s₀ H₀ E) (.Raise (some (.Call (.Name x np) (e :: es) [] cpos)) none pos) (tRaise E C t):=⟨ps_raise z hg hm ha.h hdb he hpl⟩
end
section
variable {X:Cx}
theorem qs_try {e:Expr} {cls n:Str} {b0:Stmt} {suite:List Stmt} {p1 np hp pos:Pos} {C0:Addr} {i:Nat} {tb:St -> Hp -> XK -> Prop} {ts:TS} (hx0:X.ex = []) (hs:X.stack = X.env :: X.outer) (hfr:X.env.frame = some X.env.locals)
  (hb:PX X e tb) (hN:X.N.Nodup) (hi:X.N[i]? = some n) (hloc:X.env.scope.names.lookup n = some .local) (hg:Gl X cls) (hm:X.mg cls = some (.ref C0)) (hsu:∀ v,QSs (X.marked v) (b0 :: suite) ts)
  (hdb:(cls == ("__debug__" : Str)) = false:=by decide) (hsw:swapsWith e none p1.line X.env = pure false:=by rfl) :
  QS X (.Try [.Expr e p1] [.ExceptHandler (some (.Name cls np)) (some n) (b0 :: suite) hp] [] [] pos) (tTry X.K C0 i tb ts):=⟨ps_try hx0 hs hfr hb hN hi hloc hg hm (fun v=>(hsu v).h) hdb hsw⟩
theorem qe_refd {params:Arguments} {body:Expr} {scope:Scope} {c P C:Addr} {kl i:Nat} {p1 lpos pos:Pos} {Nl:List Str} {ixs:List Nat} {tl:St -> Hp -> XK -> Prop}
  (R:RefOk X.prog X.w X.K X.mg X.base (kl + 1)) (M:Maker X c P) (hr:Room (kl + 2) X.A) (hg:Gl X "_law_refused") (Z:XIdx X.K X.mg C i) (hi:i < 9) (hfn:∀ x,X.fn x = true) (hdef:defaultsOf params X.env = ([],[]))
  (hfree:∀ q ∈ scope.names,q.2 = .free -> X.env.kindOf q.1 = some .cell) (hk:scope.kind = .function) (hnc:∀ q ∈ scope.names,q.2 ≠ .cell) (hsc:scope.isCoroutine = false /\ scope.isGenerator = false)
  (hbind:∀ clos pm c' ctv,bindArgs (PySem.W.kla_fn "<lambda>" (lamQ X) params body scope clos pm (.ref c') ctv) ⟨[],[]⟩ = pure []) (hlen:ixs.length = Nl.length) (hNl:∀ (j:Nat) (x:Str),Nl[j]? = some x -> scope.names.lookup x = some .free /\ ∃ l,ixs[j]? = some l /\ X.N[l]? = some x)
  (hb:∀ (p c':Addr) (clos:List (Str × Addr)) (H1:Hp) (A':Around) (outer':List Env) (s':Shared),Room kl (A'.deeper (PySem.W.envX (lamQ X) scope s'.heap.objs.size p (.ref c') clos)) -> QX (lamCx X.prog X.w X.K X.mg X.base Nl (lamQ X) scope p (.ref c') clos A' outer' s' H1) body tl)
  (he:starEach [Expr.Lambda params body scope lpos] X.env = [(false,eval (.Lambda params body scope lpos) X.env)]:=by rfl) :
  QE X (.Call (.Name "_law_refused" p1) [.Lambda params body scope lpos] [] pos) (tRefd X.K P (lamQ X) ixs C i tl) :=
 ⟨pe_refd R M hr hg Z hi hfn hdef hfree hk hnc hsc hbind hlen hNl (fun p c' clos H1 A' outer' s' hr'=>(hb p c' clos H1 A' outer' s' hr').h) he⟩
end
end L2
namespace L2
open PySem PySem.Spec PyProof.Rows
def BltB (mg:Str -> Option Value) (base:Heap):Prop:=∃ bm o,mg "__builtins__" = some (.ref bm) /\ bm ≠ builtinsNs /\ bm ≠ mainGlobals /\ base.get? bm = some o /\ o.cls = .type "module" /\ o.dict = some builtinsNs /\ o.data = .plain
def OnlyT (ts:List (Addr × Addr)) (H:Hp):Prop:=∀ b,H b = none \/ (∃ o xs,H b = some (.frz o (.lst xs))) \/ (H b = some (.tbl #[]) /\ ∃ q ∈ ts,q.2 = b)
theorem law_callM {P:Program} {w:World} {K:PySem.W.Frag} {mg mb:Str -> Option Value} {CX:CXT} {k:Nat} {fa a:Addr} {fd:FuncData} {x:Str} {sp:Sp} {s₁:Shared} {vs:List Value} {ns:List Int} {ts:List (Addr × Addr)}
  (KX:K.In s₁.heap) (hns:s₁.heap.Ns mainGlobals mg) (hb:s₁.heap.Ns builtinsNs mb) (hbb:∀ x:Str,x ≠ "__name__" -> mb x = bootBuiltins x) (hlim:s₁.heap.NoLimit) (hg:s₁.gens = #[])
  (ha:s₁.heap.get? a = some { cls:=.type "list",data:=.seq vs.toArray }) (hi:IntsAre vs ns) (hl:ns.length <= sizeLine) (hr:Room k callerA) (hT:∀ q ∈ ts,PySem.W.codeHdIn K q.1 q.2 = true /\ K.lookup q.2 = none /\ s₁.heap.get? q.2 = some (PySem.W.tabObj #[]))
  (hB:BltB mg s₁.heap) (hSr:s₁.heap.NoSeer) (F:∀ base:Heap,K.In base -> base.Ns mainGlobals mg -> BltB mg base -> base.NoSeer -> FnOk P w K mg base CX k fa fd [x] sp) (hbind:∀ (s:Shared) (u:Value),BindsTo s fd ⟨[u],[]⟩ [(x,u)])
  (hsp:∀ H:Hp,(∀ q ∈ ts,vw K H q.2 = some (.tbl #[])) -> (H a ≠ none -> K.lookup a = none) -> SqL K H a (ns.map V.int) -> sp [.ref a] H (fun v _=>v = .bl true) fun _ _ _=>False)
  (hCX:∀ H e s',CX [] H s₁ (fun _ _ _=>False) e s' -> False) :
  codeAny (model P w) callerA (.call (.ref fa) ⟨[.ref a],[]⟩) (fun r s'=>r = .ok (.ret (.bool true)) /\ OldK s₁.heap s'.heap /\ s'.os = s₁.os /\ AllBare s'.gens) s₁:=by
 have rv:=vals_ints hi
 have lenV:=hi.length
 have na:∀ q ∈ ts,q.2 ≠ a:=fun q hq z=>by
  have:=(hT q hq).2.2
  rw [z,ha] at this
  cases this
 have core:∀ H:Hp,OnlyT ts H -> (∀ q ∈ ts,H q.2 = some (.tbl #[])) -> SqL K H a (ns.map V.int) -> HOk P w H s₁.heap -> (∀ b,H b ≠ none -> b = a \/ ∃ q ∈ ts,q.2 = b) -> (H a ≠ none -> K.lookup a = none) ->
   codeAny (model P w) callerA (.call (.ref fa) ⟨[.ref a],[]⟩) (fun r s'=>r = .ok (.ret (.bool true)) /\ OldK s₁.heap s'.heap /\ s'.os = s₁.os /\ AllBare s'.gens) s₁:=by
  intro H hO hTT hS hok hA hK
  have base_of:∀ {b:Addr} {o:Obj},s₁.heap.get? b = some o -> H b = none -> (hidT s₁.heap H).get? b = some o:=fun e n=>hidT_get e n
  have noA:∀ {b:Addr} {o:Obj} {es:Array DictEntry} {ep:Nat},s₁.heap.get? b = some o -> o.data = .dict es ep -> H b = none:=fun {b o es ep} e d=>by
   cases q:H b with
   | none=>rfl
   | some u =>
    rcases hA b (by rw [q]; simp) with e' | ⟨y,hy,e'⟩
    ·subst e'
     rw [ha] at e; cases e
     have d':Data.seq vs.toArray _ = Data.dict es ep:=d
     cases d'
    ·subst e'
     rw [(hT y hy).2.2] at e; cases e
     have d':Data.fields (#[]:Array Value) = Data.dict es ep:=d
     cases d'
  have nsK:∀ {b:Addr} {m:Str -> Option Value},s₁.heap.Ns b m -> (hidT s₁.heap H).Ns b m:=fun {b m} ⟨o,es,ep,e,d,r⟩=>⟨o,es,ep,base_of e (noA e d),d,r⟩
  have hKb:K.In (hidT s₁.heap H):=fun b o e=>base_of (KX b o e) (by
   cases q:H b with
   | none=>rfl
   | some u =>
    rcases hA b (by rw [q]; simp) with e' | ⟨y,hy,e'⟩
    ·subst e'
     rw [hK (by rw [q]; simp)] at e; cases e
    ·subst e'
     rw [(hT y hy).2.1] at e; cases e)
  have hM:Mod K mg (hidT s₁.heap H):=⟨hKb,nsK hns,⟨mb,nsK hb,hbb⟩,let ⟨mc,h1,h2⟩:=hlim; ⟨mc,nsK h1,h2⟩⟩
  have e0:Env0 P w K mg (hidT s₁.heap H) callerA [] s₁ H:=⟨rfl,hM,fun b o e=>of_hidT e,Nat.le_of_eq (hidT_size _ _),trivial,fun b hb=>absurd (show b ∈ ([]:List Addr) from hb) (by simp),hok,.of_eq hg⟩
  have hBb:BltB mg (hidT s₁.heap H):=by
   obtain ⟨bm,ob,b1,b2,b3,b4,b5,b6,b7⟩:=hB
   refine ⟨bm,ob,b1,b2,b3,base_of b4 ?_,b5,b6,b7⟩
   cases q:H bm with
   | none=>rfl
   | some u =>
    rcases hA bm (by rw [q]; simp) with e' | ⟨y,hy,e'⟩
    ·rw [e',ha] at b4; cases b4; simp at b5
    ·rw [<- e',(hT y hy).2.2] at b4; cases b4; cases b5
  have hSb:(hidT s₁.heap H).NoSeer:=by
   refine ⟨let ⟨mc,a,b⟩:=hSr.statics; ⟨mc,nsK a,b⟩,let ⟨mm,a,b⟩:=hSr.mods; ⟨mm,nsK a,b⟩,let ⟨mb,a,b⟩:=hSr.imp; ⟨mb,nsK a,b⟩,?_⟩
   obtain ⟨mg',bm,ob,b1,b2,b4,b5,b6⟩:=hSr.main
   refine ⟨mg',bm,ob,nsK b1,b2,base_of b4 ?_,b5,b6⟩
   cases q:H bm with
   | none=>rfl
   | some u =>
    rcases hA bm (by rw [q]; simp) with e' | ⟨y,hy,e'⟩
    ·rw [e',ha] at b4; cases b4; simp at b5
    ·rw [<- e',(hT y hy).2.2] at b4; cases b4; cases b5
  refine codeAny_mono ((F _ hKb (nsK hns) hBb hSb).run callerA [] s₁ H ⟨[.ref a],[]⟩ [.ref a] [.ref a] _ _ hr e0 (hbind s₁ (.ref a)) (.cons rfl .nil) (hsp H (fun q hq=>(vw_new (hT q hq).2.1).trans (hTT q hq)) hK hS)) fun r s' h=>?_
  cases r with
  | error e=>exact (hCX H e s' h).elim
  | ok fl =>
   cases fl with
   | next=>exact False.elim h
   | brk=>exact False.elim h
   | cont=>exact False.elim h
   | ret u =>
    obtain ⟨v,H',os,bare,un,hok',r',q⟩:=h
    have q':v = .bl true:=q
    subst q'
    obtain rfl:u = Value.bool true:=r'
    have key:∀ b o,s₁.heap.get? b = some o -> s'.heap.get? b = some o \/ ((∃ y ∈ ts,y.2 = b) /\ o = PySem.W.tabObj #[] /\ ∃ more,s'.heap.get? b = some (PySem.W.tabObj more)):=fun b o e=>by
     cases q:H b with
     | none=>exact .inl (un.keep b o e q (by intro z; exact absurd (show b ∈ ([]:List Addr) from z) (by simp)) (by simp))
     | some u =>
      rcases hO b with z | ⟨ob,xs,z⟩ | ⟨z,y,hy,e'⟩
      ·rw [q] at z; cases z
      ·have z2:=un.frzs b ob _ z
       obtain ⟨e1,_⟩:=hok b _ z
       obtain ⟨e2,_⟩:=hok' b _ z2
       rw [e] at e1; cases e1
       exact .inl e2
      ·obtain ⟨more,z2⟩:=un.tbls b #[] z
       have e1:s₁.heap.get? b = some (PySem.W.tabObj #[]):=hok b _ z
       have e2:s'.heap.get? b = some (PySem.W.tabObj (#[] ++ more)):=hok' b _ z2
       rw [e] at e1; cases e1
       exact .inr ⟨⟨y,hy,e'⟩,rfl,_,e2⟩
    refine ⟨rfl,⟨fun b o e=>?_,fun b o e=>?_⟩,os,bare⟩
    ·rcases key b o e with z | ⟨⟨y,hy,e'⟩,z1,more,z2⟩
     ·exact .inl z
     ·subst z1 e'
      have cd:=PySem.W.codeHd_of_K KX (hT y hy).1
      exact .inr (.inl ⟨(cd.tab (hT y hy).2.2).isCodeTable,rfl,#[],more,rfl,by rw [z2]; simp⟩)
    ·rcases key b o e with z | ⟨_,_,more,z2⟩
     ·exact ⟨o,z⟩
     ·exact ⟨_,z2⟩
 have dec:∀ b,Decidable (∃ q ∈ ts,q.2 = b):=fun b=>Classical.propDecidable _
 have tabH:∀ q ∈ ts,ObjOk P w (fun _=>none) s₁.heap q.2 (.tbl #[]):=fun q hq=>(hT q hq).2.2
 cases hk:K.lookup a with
 | some o =>
  have e:=KX a o hk
  rw [ha] at e
  cases e
  refine core (fun b=>@ite _ (∃ q ∈ ts,q.2 = b) (dec b) (some (.tbl #[])) none) (fun b=>?_) (fun q hq=>if_pos ⟨q,hq,rfl⟩) (.inr ⟨_,vs.toArray,_,hk,rfl,rfl,rfl,by rw [List.size_toArray,lenV]; exact hl,by simpa using rv⟩) (fun b u z=>?_) (fun b z=>?_) fun z=>?_
  ·by_cases hb:∃ q ∈ ts,q.2 = b
   ·exact .inr (.inr ⟨if_pos hb,hb⟩)
   ·exact .inl (if_neg hb)
  ·by_cases hb:∃ q ∈ ts,q.2 = b
   ·have z':=(if_pos hb).symm.trans z
    cases z'
    obtain ⟨q,hq,rfl⟩:=hb
    exact (hT q hq).2.2
   ·have z':=(if_neg hb).symm.trans z
    cases z'
  ·by_cases hb:∃ q ∈ ts,q.2 = b
   ·exact .inr hb
   ·exact absurd (if_neg hb) z
  ·have:¬ ∃ q ∈ ts,q.2 = a:=fun ⟨q,hq,e⟩=>na q hq e
   exact absurd (if_neg this) z
 | none =>
  have ia:¬ ∃ q ∈ ts,q.2 = a:=fun ⟨q,hq,e⟩=>na q hq e
  refine core (fun b=>if b = a then some (.frz { cls:=.type "list",data:=.seq vs.toArray } (.lst (ns.map V.int))) else @ite _ (∃ q ∈ ts,q.2 = b) (dec b) (some (.tbl #[])) none) (fun b=>?_) (fun q hq=>?_) (.inl (.inr ⟨{ cls:=.type "list",data:=.seq vs.toArray },if_pos rfl⟩)) (fun b u z=>?_) (fun b z=>?_) fun _=>hk
  ·by_cases hb:b = a
   ·exact .inr (.inl ⟨_,_,if_pos hb⟩)
   ·by_cases hb2:∃ q ∈ ts,q.2 = b
    ·exact .inr (.inr ⟨(if_neg hb).trans (if_pos hb2),hb2⟩)
    ·exact .inl ((if_neg hb).trans (if_neg hb2))
  ·exact (if_neg (na q hq)).trans (if_pos ⟨q,hq,rfl⟩)
  ·by_cases hb:b = a
   ·have z':=(if_pos hb).symm.trans z
    cases z'
    subst hb
    exact ⟨ha,by rw [List.length_map]; exact hl,vs,_,rv,ha⟩
   ·by_cases hb2:∃ q ∈ ts,q.2 = b
    ·have z':=((if_neg hb).trans (if_pos hb2)).symm.trans z
     cases z'
     obtain ⟨q,hq,rfl⟩:=hb2
     exact (hT q hq).2.2
    ·have z':=((if_neg hb).trans (if_neg hb2)).symm.trans z
     cases z'
  ·by_cases hb:b = a
   ·exact .inl hb
   ·by_cases hb2:∃ q ∈ ts,q.2 = b
    ·exact .inr hb2
    ·exact absurd ((if_neg hb).trans (if_neg hb2)) z
theorem walk_ofM {l:PySem.W.OpenLaw} {n k:Nat} {q:Program} {loose:List Str} {XP:(Str -> Option Value) -> Heap -> Prop} {YP:World -> Heap -> Prop} {d:DefRec} {K:Params -> PySem.W.Frag} {CX:World -> CXT} {sp:World -> Sp} {x:Str} (ts:World -> List (Addr × Addr))
  (hn:l.most = some n) (hn2:n <= sizeLine) (hdf:d.params.defaults = []) (hr:Room k callerA) (hi:importsNone q = true)
  (hY:∀ (w:World) (h:Heap),YP w h -> (K w.params).In h /\ ∀ q ∈ ts w,PySem.W.codeHdIn (K w.params) q.1 q.2 = true /\ (K w.params).lookup q.2 = none /\ h.get? q.2 = some (PySem.W.tabObj #[]))
  (F:∀ (w:World) (mg:Str -> Option Value) (fa:Addr) (h:Heap),(K w.params).In h -> h.Ns mainGlobals mg -> mg d.name = some (.ref fa) ->
   ∃ fd:FuncData,(∀ (s:Shared) (u:Value),BindsTo s fd ⟨[u],[]⟩ [(x,u)]) /\
    ∀ base:Heap,(K w.params).In base -> base.Ns mainGlobals mg -> BltB mg base -> base.NoSeer -> FnOk l.prog w (K w.params) mg base (CX w) k fa fd [x] (sp w))
  (hsp:∀ (w:World) (H:Hp) (a:Addr) (ns:List Int),ns.length <= n -> (∀ q ∈ ts w,vw (K w.params) H q.2 = some (.tbl #[])) -> (H a ≠ none -> (K w.params).lookup a = none) -> SqL (K w.params) H a (ns.map V.int) -> sp w [.ref a] H (fun v _=>v = .bl true) fun _ _ _=>False)
  (hCX:∀ (w:World) (H:Hp) (s:Shared) (e:Value) (s':Shared),CX w [] H s (fun _ _ _=>False) e s' -> False) :
  PySem.W.WalkO q loose XP YP l.row.toRowW d [] (fun f vs=>PySem.call f vs):=by
 refine Att.attach_call hn hdf fun w s₀ s₁ mg mb fa o pm cd doc a vs ns G Y ho hd hcd hmg hobj hints hlen hg=>?_
 obtain ⟨KX,hT⟩:=hY w _ Y
 obtain ⟨fd,hb,hF⟩:=F w mg fa _ KX G.T.g hmg
 have hB:BltB mg s₁.heap:=by
  obtain ⟨bm,ob,b1,b2,b3,b4,b5,b6⟩:=G.T.bmain
  refine ⟨bm,ob,b1,b2,fun z=>?_,b3,b4,b5,b6⟩
  obtain ⟨o,es,ep,e,hd',_⟩:=G.T.g
  rw [z,e] at b3; cases b3; rw [hd'] at b6; cases b6
 exact law_callM KX G.T.g G.T.b G.T.builtins G.T.nolimit hg hobj hints (Nat.le_trans hlen hn2) hr hT hB (G.T.seer hi) hF hb (fun H hTT hK hS=>hsp w H a ns hlen hTT hK hS) fun H e s'=>hCX w H s₁ e s'
section
variable {P:Program} {w:World} {K:PySem.W.Frag} {mg:Str -> Option Value} {base:Heap}
theorem Fun.okM {x qual:Str} {st:Stmt} {f:Addr} {fd:FuncData} {N ps:List Str} {k:Nat} {sp:Sp} (F:Fun K x qual st f fd) (S:FnScope N ps (defScope st)) (len:∀ vs H Q E,sp vs H Q E -> vs.length = ps.length)
  (hbody:∀ (cdv:Value) (A:Around) (outer:List Env) (s:Shared) (H:Hp) (vs:List V) (Q:VK) (E:XK),fd.code = cdv -> Room k (A.deeper (envOfC qual (defScope st) s.heap.objs.size f cdv)) -> sp vs H Q E ->
   ∃ t,QSs (cxOf CX0 P w K mg base N qual (defScope st) f cdv A outer s H E).nox (defBody st) t /\ t { nx:=fun _ H'=>Q .non H',rt:=Q } (start N vs) H):FnOk P w K mg base CX0 (k + 1) f fd ps sp:=by
 obtain ⟨oc,od,kV,doc,pm,an,cdv,ct,osl,rfl,lk,hcd⟩:=F.ex
 refine fn_of lk hcd S len fun A outer s H vs Q E hr hsp=>?_
 obtain ⟨t,h,q⟩:=hbody cdv A outer s H vs Q E rfl hr hsp
 exact ⟨t,h.h.nox,q⟩
theorem Fun.runQ {x qual:Str} {st:Stmt} {f:Addr} {fd:FuncData} {N ps:List Str} {k:Nat} {A:Around} {outer:List Env} {s:Shared} {H:Hp} {us:List Value} {vs:List V} {Q:VK} {E:XK} (F:Fun K x qual st f fd) (S:FnScope N ps (defScope st)) (hr:Room (k + 1) A) (e0:Env0 P w K mg base A outer s H)
  (hb:Binds K fd ps []) (r:Vals vs us) (hl:vs.length = ps.length)
  (hbody:∀ cdv,Room k (A.deeper (envOfC qual (defScope st) s.heap.objs.size f cdv)) -> ∃ t,QSs (cxOf CX0 P w K mg base N qual (defScope st) f cdv A outer s H E).nox (defBody st) t /\ t { nx:=fun _ H'=>Q .non H',rt:=Q } (start N vs) H) :
  codeAny (model P w) A (.call (.ref f) ⟨us,[]⟩) (CR CX0 outer P w H s Q E) s:=by
 obtain ⟨oc,od,kV,doc,pm,an,cdv,ct,osl,rfl,lk,hcd⟩:=F.ex
 have KX:K.In s.heap:=e0.mod.kin.keeps fun b o e=>(e0.bs b o e).1
 have hb':=hb s us KX (by rw [List.append_nil,<- r.length]; exact hl)
 rw [List.append_nil] at hb'
 refine fn_run lk hcd S hr e0 hb' r hl fun hr'=>?_
 obtain ⟨t,h,q⟩:=hbody cdv hr'
 exact ⟨t,h.h.nox,q⟩
end
theorem free_of {X:Cx} {scope sc:Scope} (h:X.env.scope = sc) (z:scope.names.all (fun q=>q.2 != .free || sc.names.lookup q.1 == some .cell) = true):∀ q ∈ scope.names,q.2 = .free -> X.env.kindOf q.1 = some .cell:=fun q hq hf=>by
 have h2:=List.all_eq_true.mp z q hq
 rw [Bool.or_eq_true] at h2
 rcases h2 with h2 | h2
 ·rw [hf] at h2; cases h2
 ·show X.env.scope.names.lookup q.1 = _
  rw [h]
  exact beq_iff_eq.mp h2
theorem nocell_of {scope:Scope} (z:scope.names.all (fun q=>q.2 != .cell) = true):∀ q ∈ scope.names,q.2 ≠ .cell:=fun q hq e=>by
 have h2:=List.all_eq_true.mp z q hq
 rw [e] at h2
 cases h2
end L2
namespace L2
open PySem PySem.Spec PyProof.Rows
theorem bt_ValueError:bootBuiltins "ValueError" = some (.type "ValueError"):=by decide +kernel
end L2
namespace L2
open PySem PySem.Spec PyProof.Rows
def tTru (K:PySem.W.Frag) (ta:TE):TT:=fun σ H Q=>ta σ H fun x H'=>∃ k,TruV K x H' k /\ Q k H'
end L2
namespace L2
open PySem PySem.Spec PyProof.Rows
abbrev lamN (n:Str):Str:=n ++ ".<locals>." ++ "<lambda>"
theorem cmp_int1 (i:Int):(D.lst [.int i]).cmp:=by
 unfold D.cmp D.py D.pys D.pys D.py
 exact ⟨rfl,Nat.le_of_ble_eq_true rfl⟩
end L2
namespace L2
open PySem PySem.Spec PyProof.Rows
theorem TabOk.butL {G G':Hp} {P l:Addr} {qual:Str} {xs:List V} (h:TabOk G P qual) (hl:G l = some (.lst xs)) (B:But l G G'):TabOk G' P qual:=by
 obtain ⟨ps,h1,h2,h3⟩:=h
 refine ⟨ps,B _ _ (fun z=>by rw [z,hl] at h1; cases h1) h1,h2,fun pos cv z=>?_⟩
 obtain ⟨c,e1,e2⟩:=h3 pos cv z
 exact ⟨c,e1,B _ _ (fun z=>by rw [z,hl] at e2; cases e2) e2⟩
theorem TabOk.smT {G G':Hp} {P:Addr} {qual:Str} (h:TabOk G P qual) (B:But P G G') (T:TabOk G' P qual):SmT G G':=by
 obtain ⟨ps,h1,_⟩:=h
 exact SmT.but h1 B
end L2
namespace L2
open PySem PySem.Spec PyProof.Rows
section
variable {P:Program} {w:World} {K:PySem.W.Frag} {mg:Str -> Option Value} {base:Heap}
def tRetX (E:XK) (t:St -> Hp -> XK -> Prop):TS:=fun _ σ H=>t σ H E
end
def Sx (b:Nat) (q:Int × Int):Prop:=∃ n:Int,wv q = (n:Rat) / 6 /\ n.natAbs <= b
theorem Sx.lo {a z:Int} {b:Nat} (h0:0 <= z) (h3:z < 3) (ha:6 * a.natAbs <= b):Sx b (lo a (1 + z)):=by
 have hz:1 + z ≠ 0:=by walk_at "o"
 have c1:((1:Int):Rat) = 1:=rfl
 have c2:((2:Int):Rat) = 2:=rfl
 have c3:((3:Int):Rat) = 3:=rfl
 have c6:((6:Int):Rat) = 6:=rfl
 rcases (show z = 0 \/ z = 1 \/ z = 2 by walk_at "o") with rfl | rfl | rfl
 ·refine ⟨6 * a,?_,by walk_at "o"⟩
  rw [wv_lo hz,show (1:Int) + 0 = 1 from rfl,Rat.intCast_mul,c1,c6]
  grind
 ·refine ⟨3 * a,?_,by walk_at "o"⟩
  rw [wv_lo hz,show (1:Int) + 1 = 2 from rfl,Rat.intCast_mul,c2,c3]
  grind
 ·refine ⟨2 * a,?_,by walk_at "o"⟩
  rw [wv_lo hz,show (1:Int) + 2 = 3 from rfl,Rat.intCast_mul,c2,c3]
  grind
end L2
namespace L2
open PySem PySem.Spec PyProof.Rows
theorem tSeq.gen {t u:TS} {D:Ends} {σ:St} {H:Hp} (h:∀ N:St -> Hp -> Prop,(∀ σ' H',u D σ' H' -> N σ' H') -> t { D with nx:=N } σ H):tSeq t u D σ H:=h (u D) fun _ _ z=>z
end L2
namespace L2
open PySem PySem.Spec PyProof.Rows
theorem rangeSize_dn (a b:Int):Builtin.Range.rangeSize a b (-1) = if b < a then a - b else 0:=by
 unfold Builtin.Range.rangeSize
 simp only [show ¬ ((-1:Int) > 0) by decide,if_false,Int.neg_neg,Int.ediv_one]
 split <;> (try split) <;> walk_at "o"
theorem small_dn {a b:Int} (ha : -(2 ^ 61) <= a) (ha':a < 2 ^ 61) (hb : -(2 ^ 61) <= b) (hb':b < 2 ^ 61):Builtin.Range.small a b (-1) = true:=by
 unfold Builtin.Range.small
 rw [rangeSize_dn]
 simp only [Builtin.Range.rangeFitsLong,Bool.and_eq_true,Bool.or_eq_true,decide_eq_true_eq,beq_iff_eq,show ¬ ((-1:Int) > 0) by decide,if_false]
 split <;> walk_at "o"
def Itd (lo:Int) (n:Nat):It:=⟨fun i _=>i < n,fun i H x H'=>H' = H /\ x = .int (lo - i),fun i _=>n <= i⟩
theorem turn_dn {P:Program} {w:World} {K:PySem.W.Frag} {tg:Expr} (it:Addr) (lo:Int) (n:Nat):Turn P w K tg (Itd lo n) [it] it (fun j hp=>IsRangeIter hp it (lo + (j:Nat) * (-1)) ((n:Int) - (j:Nat)) (-1)) where
 mem:=List.mem_singleton.mpr rfl
 obj:=fun j hp st b hb=>by
  cases List.mem_singleton.mp hb
  refine ⟨_,st,fun v z=>?_⟩
  exact Data.noConfusion (show Data.fields _ = Data.cell v from z)
 keep:=fun _ _ _ st k=>k it (List.mem_singleton.mpr rfl) _ st
 item:=by
  intro Y hP hw hK hc j pins s σ H E J hf st hg
  subst hP hw hK
  obtain ⟨g0,g1,g2,g3,g4,g5⟩:=hf it (List.mem_singleton.mpr rfl)
  refine (Walks.range (prog:=Y.prog) (w:=Y.w) (J.ok.hd hc) it lo (-1) n).item j s _ _ hg st fun v hp tk hv st1 kk=>?_
  obtain ⟨t,rfl⟩:=hv
  have J1:Inv Y pins σ H { s with heap:=hp,toks:=tk }:=J.turned (fun b o hb e=>kk b o (fun z=>hb (List.mem_singleton.mp z)) e) g0 g1 g3 g4 g5
  refine ⟨_,rfl,go_of (s:={ s with heap:=hp,toks:=tk }) (n:="range_iterator") st1 rfl rfl (by decide) ⟨.int (lo - j),H,J1,⟨t,?_⟩,⟨rfl,rfl⟩,st1,fun b hb=>(hf b hb).1⟩⟩
  rw [show lo + (j:Nat) * (-1) = lo - (j:Int) by walk_at "o"]
 done:=by
  intro Y hP hw hK hc j pins s σ H E J hf st hg
  subst hP hw hK
  obtain ⟨g0,g1,g2,g3,g4,g5⟩:=hf it (List.mem_singleton.mpr rfl)
  have hj:n <= j:=hg
  exact wpAny_pyNext_range_end (J.ok.hd hc) st (by walk_at "o") fun hp eb=>⟨rfl,J.turned (t':=s.toks) (fun b o hb e=>eb b o hb e) g0 g1 g3 g4 g5⟩
 self:=fun _ _ _ _ _ st h=>wpAny_pyIter_rangeiter st h
section
variable {X:Cx} {tg:Expr}
def iRng3 (ta:TA):TI:=fun σ H R=>ta σ H fun vs H1=>∃ i j:Int,vs = [.int i,.int j,.int (-1)] /\ (-(2 ^ 61) <= i /\ i < 2 ^ 61 /\ -(2 ^ 61) <= j /\ j < 2 ^ 61) /\ R (Itd i (i - j).toNat) H1
theorem pi_range3 {a b c:Expr} {ta:TA} {p pos:Pos} (hg:Gl X "range") (hm:X.mg "range" = none) (ha:PA X [a,b,c] ta) (hs:starEach [a,b,c] X.env = [(false,eval a X.env),(false,eval b X.env),(false,eval c X.env)]:=by rfl)
  (hs2:starEach [b,c] X.env = [(false,eval b X.env),(false,eval c X.env)]:=by rfl):PI X tg (.Call (.Name "range" p) [a,b,c] [] pos) (iRng3 ta):=by
 intro pins s σ H R I h
 refine Call_ (ld_blt I hg hm boot_range (PyProof.Rows.callWith_type1 (thn (ha pos pins s σ H _ I h) fun us s1 ⟨vs,H1,I1,r1,q1⟩=>?_) (by rw [hs,hs2]) (by rw [hs2]; rfl)))
 obtain ⟨i,j,e,⟨q1,q2,q3,q4⟩,q⟩:=q1
 subst e
 cases r1 with
 | cons ri rr =>
  cases rr with
  | cons rj rr =>
   cases rr with
   | cons rk rr =>
    cases rr
    obtain ⟨t1,rfl⟩:=ri
    obtain ⟨t2,rfl⟩:=rj
    obtain ⟨t3,rfl⟩:=rk
    refine call_range_3 (by decide) ?_ (.inl (PyProof.noPylong_of_log2 (by decide +kernel)))
    refine wpAny_pyIter_range (IsRange.new ..) (small_dn q1 q2 q3 q4) ?_
    have J:Inv X pins σ H1 { s1 with heap:=s1.heap.push { cls:=.type "range",data:=.fields #[.int i t1,.int j t2,.int (-1) t3] },toks:=s1.toks }:=I1.kept fun b o e=>Heap.get?_push_of_some _ e
    obtain ⟨a1,ha1⟩ : ∃ a1,a1 = (s1.heap.push { cls:=.type "range",data:=.fields #[.int i t1,.int j t2,.int (-1) t3] }).objs.size:=⟨_,rfl⟩
    refine ⟨_,[_],_,_,H1,rfl,J.kept (t':=s1.toks) fun b o e=>Heap.get?_push_of_some _ e,turn_dn _ i (i - j).toNat,?_,fun b hb=>?_,q⟩
    ·have e1:i + ((0:Nat):Int) * (-1) = i:=by simp
     have e2:(((i - j).toNat:Nat):Int) - ((0:Nat):Int) = Builtin.Range.rangeSize i j (-1):=by rw [rangeSize_dn]; split <;> walk_at "o"
     show IsRangeIter _ _ (i + ((0:Nat):Int) * (-1)) ((((i - j).toNat:Nat):Int) - ((0:Nat):Int)) (-1)
     rw [e1,e2]
     exact Heap.get?_push_size _ rfl
    ·cases List.mem_singleton.mp hb
     exact J.fpOk (Nat.le_refl _) (J.hok.fresh (Nat.le_refl _))
theorem qi_range3 {a b c:Expr} {ta:TA} {p pos:Pos} (hg:Gl X "range") (hm:X.mg "range" = none) (ha:QA X [a,b,c] ta) (hs:starEach [a,b,c] X.env = [(false,eval a X.env),(false,eval b X.env),(false,eval c X.env)]:=by rfl)
  (hs2:starEach [b,c] X.env = [(false,eval b X.env),(false,eval c X.env)]:=by rfl):QI X tg (.Call (.Name "range" p) [a,b,c] [] pos) (iRng3 ta):=⟨pi_range3 hg hm ha.h hs hs2⟩
theorem ip_fdivX:PIp X .FloorDiv (fun x y H Q=>∃ i j,x = .int i /\ y = .int j /\ CDivX i j /\ Q (.int (i.fdiv j)) H):=by
 intro pins s σ H x y v u Q I r1 r2 h
 obtain ⟨i,j,rfl,rfl,m,q⟩:=h
 obtain ⟨t,rfl⟩:=r1
 obtain ⟨t',rfl⟩:=r2
 exact ifloordiv_int m.1 ⟨.int _,H,I.tok _,⟨_,rfl⟩,q⟩ (.inl (PyProof.noPylong_of_log2 m.2))
end
def idn (lo:Int) (n:Nat):List V:=(List.range n).map fun (k:Nat)=>V.int (lo - k)
theorem idn_len {lo:Int} {n:Nat}:(idn lo n).length = n:=by simp [idn]
theorem idn_at {lo:Int} {n i:Nat} {x:V} (h:(idn lo n)[i]? = some x):i < n /\ x = .int (lo - i):=by
 have hi:i < n:=by
  have:=(List.getElem?_eq_some_iff.mp h).1
  simpa [idn] using this
 refine ⟨hi,?_⟩
 simp [idn,hi] at h
 exact h.symm
theorem items_dn {lo:Int} {n:Nat} {H:Hp}:Items (Itd lo n) H (idn lo n):=by
 refine ⟨fun i hi=>by show i < n; simpa [idn] using hi,fun i x H' hi y=>⟨y.1,?_⟩,by show n <= (idn lo n).length; simp [idn]⟩
 have hi':i < n:=by simpa [idn] using hi
 obtain ⟨_,rfl⟩:=y
 simp [idn,hi']
end L2
namespace L2
open PySem PySem.Spec PyProof.Rows
theorem pr_at {f g:Nat -> Rat} {d i:Nat} (hg:∀ j,d < j -> g j = 0) (hf:∀ j,i < j -> f j = 0):∀ n,pr f g n (i + d) = if i < n then f i * g d else 0
 | 0=>by simp [pr]
 | n + 1=>by
  have ih:=pr_at hg hf n
  show pr f g n (i + d) + (if n <= i + d then f n * g (i + d - n) else 0) = _
  rw [ih]
  rcases Nat.lt_trichotomy i n with h | h | h
  ·rw [hf n h,if_pos h,if_pos (show i < n + 1 by walk_at "o")]
   split <;> grind
  ·subst h
   rw [if_neg (by walk_at "o"),if_pos (by walk_at "o"),if_pos (by walk_at "o"),show i + d - i = d by walk_at "o"]
   grind
  ·rw [if_neg (by walk_at "o"),if_pos (by walk_at "o"),if_neg (by walk_at "o"),hg _ (by walk_at "o")]
   grind
theorem pr_sub {f f' g:Nat -> Rat}:∀ n k,pr (fun i=>f i - f' i) g n k = pr f g n k - pr f' g n k
 | 0,_=>by
  show (0:Rat) = 0 - 0
  grind
 | n + 1,k=>by
  show pr _ g n k + (if n <= k then (f n - f' n) * g (k - n) else 0) = (pr f g n k + if n <= k then f n * g (k - n) else 0) - (pr f' g n k + if n <= k then f' n * g (k - n) else 0)
  rw [pr_sub n k]
  split <;> grind
theorem pr_more {f g:Nat -> Rat} {n:Nat} (hf:∀ i,n <= i -> f i = 0):∀ m k,pr f g (n + m) k = pr f g n k
 | 0,_=>rfl
 | m + 1,k=>by
  show pr f g (n + m) k + (if n + m <= k then f (n + m) * g (k - (n + m)) else 0) = _
  rw [pr_more hf m k,hf (n + m) (by walk_at "o")]
  split <;> grind
theorem div_zero {e g r:Nat -> Rat} {n d:Nat} (he:∀ i,n <= i -> e i = 0) (hg:∀ j,d < j -> g j = 0) (hd:g d ≠ 0) (hr:∀ k,d <= k -> r k = 0) (h:∀ k,pr e g n k = r k):∀ i,e i = 0:=by
 have step:∀ m i,n <= i + m -> e i = 0:=by
  intro m
  induction m with
  | zero=>intro i hi; exact he i hi
  | succ m ih =>
   intro i hi
   by_cases hin:n <= i
   ·exact he i hin
   have hab:∀ j,i < j -> e j = 0:=fun j hj=>ih j (by walk_at "o")
   have e1:=pr_at hg hab n
   rw [if_pos (by walk_at "o"),h,hr _ (by walk_at "o")] at e1
   rcases Rat.mul_eq_zero.mp e1.symm with z | z
   ·exact z
   ·exact absurd z hd
 intro i
 exact step n i (by walk_at "o")
theorem div_unique {q q' g r r':Nat -> Rat} {n n' d:Nat} (hq:∀ i,n <= i -> q i = 0) (hq':∀ i,n' <= i -> q' i = 0) (hg:∀ j,d < j -> g j = 0) (hd:g d ≠ 0) (hr:∀ k,d <= k -> r k = 0) (hr':∀ k,d <= k -> r' k = 0)
  (h:∀ k,pr q g n k + r k = pr q' g n' k + r' k):(∀ i,q i = q' i) /\ ∀ k,r k = r' k:=by
 have a:∀ k,pr q g (n + n') k = pr q g n k:=fun k=>pr_more hq n' k
 have b:∀ k,pr q' g (n + n') k = pr q' g n' k:=fun k=>by rw [Nat.add_comm]; exact pr_more hq' n k
 have z:=div_zero (e:=fun i=>q i - q' i) (g:=g) (r:=fun k=>r' k - r k) (n:=n + n') (d:=d) (fun i hi=>by
  show q i - q' i = 0
  rw [hq i (by walk_at "o"),hq' i (by walk_at "o")]
  grind) hg hd (fun k hk=>by
  show r' k - r k = 0
  rw [hr k hk,hr' k hk]
  grind) (fun k=>by
  rw [pr_sub,a,b]
  have:=h k
  grind)
 have e:∀ i,q i = q' i:=fun i=>by
  have:q i - q' i = 0:=z i
  grind
 refine ⟨e,fun k=>?_⟩
 have e2:pr q g n k = pr q' g n' k:=by
  rw [<- a,<- b,show q = q' from funext e]
 have:=h k
 grind
end L2
namespace L2
open PySem PySem.Spec PyProof.Rows
theorem len_le {rs:List (Int × Int)} (h:PolyOk rs) {m:Nat} (hz:∀ k,m <= k -> cf rs k = 0):rs.length <= m:=by
 refine Nat.le_of_not_lt fun hm=>?_
 have hl:rs.length - 1 < rs.length:=by walk_at "o"
 have e:rs.getLast? = some rs[rs.length - 1]:=by rw [List.getLast?_eq_getElem?,List.getElem?_eq_getElem hl]
 have z:=hz (rs.length - 1) (by walk_at "o")
 rw [cf_some (List.getElem?_eq_getElem hl)] at z
 exact h.2 _ e ((wv_zero (h.1 _ (List.getElem_mem hl)).ne).mp z)
theorem cf_shift (s:Nat) (gs:List (Int × Int)) (k:Nat):cf (List.replicate s (0,1) ++ gs) k = if k < s then 0 else cf gs (k - s):=by
 unfold cf
 by_cases h:k < s
 ·rw [if_pos h,List.getElem?_append_left (by simpa using h),List.getElem?_replicate,if_pos h]
  exact wv_01
 ·rw [if_neg h,List.getElem?_append_right (by simp; walk_at "o"),List.length_replicate]
theorem pr_set {f g:Nat -> Rat} {i:Nat} {c:Rat} (h0:f i = 0):∀ n k,pr (fun j=>if j = i then c else f j) g n k = pr f g n k + if i < n /\ i <= k then c * g (k - i) else 0
 | 0,k=>by
  show (0:Rat) = 0 + _
  rw [if_neg (by walk_at "o")]
  grind
 | n + 1,k=>by
  show pr _ g n k + (if n <= k then (if n = i then c else f n) * g (k - n) else 0) = (pr f g n k + if n <= k then f n * g (k - n) else 0) + _
  rw [pr_set h0 n k]
  rcases Nat.lt_trichotomy n i with h | h | h
  ·rw [if_neg (show ¬ (i < n /\ i <= k) by walk_at "o"),if_neg (show ¬ n = i by walk_at "o"),if_neg (show ¬ (i < n + 1 /\ i <= k) by walk_at "o")]
   try grind
  ·subst h
   rw [if_neg (show ¬ (n < n /\ n <= k) by walk_at "o"),if_pos rfl,h0]
   by_cases hk:n <= k
   ·simp only [if_pos hk,if_pos (show n < n + 1 /\ n <= k from ⟨by walk_at "o",hk⟩)]
    grind
   ·simp only [if_neg hk,if_neg (show ¬ (n < n + 1 /\ n <= k) by walk_at "o")]
    try grind
  ·rw [if_neg (show ¬ n = i by walk_at "o")]
   by_cases hk:i <= k
   ·simp only [if_pos (show i < n /\ i <= k from ⟨h,hk⟩),if_pos (show i < n + 1 /\ i <= k from ⟨by walk_at "o",hk⟩)]
    grind
   ·simp only [if_neg (show ¬ (i < n /\ i <= k) by walk_at "o"),if_neg (show ¬ (i < n + 1 /\ i <= k) by walk_at "o")]
    grind
theorem peq_int (m n:Int):peq (.int m) (.int n) = decide (m = n):=by
 unfold peq D.py
 simp only [PyData.eqv]
 rw [Bool.eq_iff_iff]
 simp
theorem cmp_int (i:Int):(D.int i).cmp:=by
 unfold D.cmp D.py
 exact ⟨rfl,Nat.le_of_ble_eq_true rfl⟩
theorem nz_take {ns:List Int} {m:Nat} (h:∀ n ∈ ns.drop m,n = 0) (k:Nat):nz (ns.take m) k = nz ns k:=by
 unfold nz
 rw [List.getD_eq_getElem?_getD,List.getD_eq_getElem?_getD,List.getElem?_take]
 by_cases hk:k < m
 ·rw [if_pos hk]
 ·rw [if_neg hk]
  cases e:ns[k]? with
  | none=>rfl
  | some n =>
   have:n ∈ ns.drop m:=by
    have e2:(ns.drop m)[k - m]? = some n:=by rw [List.getElem?_drop,show m + (k - m) = k by walk_at "o"]; exact e
    exact List.mem_of_getElem? e2
   rw [h n this]
   rfl
def Dv (D:Int) (b:Nat) (qs:List (Int × Int)):Prop:=∃ F:Nat -> Int,(∀ k,cf qs k = (F k:Rat) / (D:Rat)) /\ ∀ k,Bt b (F k)
theorem Dv.bq {D:Int} {b n:Nat} {qs:List (Int × Int)} (h:Dv D b qs) (hD:D ≠ 0) (bD:Bt n D) (hb:b <= n) (hF:∀ q ∈ qs,Fq q):∀ q ∈ qs,Bq n q:=by
 obtain ⟨F,h1,h2⟩:=h
 intro q hq
 obtain ⟨k,hk⟩:=List.getElem?_of_mem hq
 have e:=h1 k
 rw [cf_some hk] at e
 have:q = lo (F k) D:=wv_inj (hF q hq) (lo_Fq hD) (by rw [wv_lo hD,e])
 rw [this]
 exact bt_lo hD ((h2 k).mono hb) bD
end L2
namespace L2
open PySem PySem.Spec PyProof.Rows
theorem pz_set {f g:Nat -> Int} {i:Nat} {c:Int} (h0:f i = 0):∀ n k,pz (fun j=>if j = i then c else f j) g n k = pz f g n k + if i < n /\ i <= k then c * g (k - i) else 0
 | 0,k=>by
  show (0:Int) = 0 + _
  rw [if_neg (by walk_at "o")]
  rfl
 | n + 1,k=>by
  show pz _ g n k + (if n <= k then (if n = i then c else f n) * g (k - n) else 0) = (pz f g n k + if n <= k then f n * g (k - n) else 0) + _
  rw [pz_set h0 n k]
  rcases Nat.lt_trichotomy n i with h | h | h
  ·simp only [if_neg (show ¬ (i < n /\ i <= k) by walk_at "o"),if_neg (show ¬ n = i by walk_at "o"),if_neg (show ¬ (i < n + 1 /\ i <= k) by walk_at "o")]
   walk_at "o"
  ·subst h
   rw [h0]
   by_cases hk:n <= k
   ·simp only [if_pos hk,if_pos (show n < n + 1 /\ n <= k from ⟨by walk_at "o",hk⟩),if_neg (show ¬ (n < n /\ n <= k) by walk_at "o"),Int.zero_mul,if_true]
    try walk_at "o"
   ·simp only [if_neg hk,if_neg (show ¬ (n < n + 1 /\ n <= k) by walk_at "o"),if_neg (show ¬ (n < n /\ n <= k) by walk_at "o")]
  ·simp only [if_neg (show ¬ n = i by walk_at "o")]
   by_cases hk:i <= k
   ·simp only [if_pos (show i < n /\ i <= k from ⟨h,hk⟩),if_pos (show i < n + 1 /\ i <= k from ⟨by walk_at "o",hk⟩)]
    walk_at "o"
   ·simp only [if_neg (show ¬ (i < n /\ i <= k) by walk_at "o"),if_neg (show ¬ (i < n + 1 /\ i <= k) by walk_at "o")]
    walk_at "o"
theorem pz_mul {f g:Nat -> Int} {c:Int}:∀ n k,pz (fun j=>c * f j) g n k = c * pz f g n k
 | 0,_=>by show (0:Int) = c * 0; walk_at "o"
 | n + 1,k=>by
  show pz _ g n k + (if n <= k then c * f n * g (k - n) else 0) = c * (pz f g n k + if n <= k then f n * g (k - n) else 0)
  rw [pz_mul n k]
  split
  ·rw [Int.mul_add,Int.mul_assoc]
  ·simp
theorem pz_zero {f g:Nat -> Int} (h:∀ i,f i = 0):∀ n k,pz f g n k = 0
 | 0,_=>rfl
 | n + 1,k=>by
  show pz f g n k + (if n <= k then f n * g (k - n) else 0) = 0
  rw [pz_zero h n k,h n]
  simp
theorem nz_setv {ns:List Int} {i k:Nat} {v:Int} (hi:i < ns.length):nz (ns.set i v) k = if k = i then v else nz ns k:=by
 unfold nz
 rw [List.getD_eq_getElem?_getD,List.getD_eq_getElem?_getD,List.getElem?_set]
 by_cases h:i = k
 ·subst h
  simp [hi]
 ·rw [if_neg h,if_neg (fun z=>h z.symm)]
theorem nz_mapc {ns:List Int} {c:Int} (k:Nat):nz (ns.map fun x=>c * x) k = c * nz ns k:=by
 unfold nz
 rw [List.getD_eq_getElem?_getD,List.getD_eq_getElem?_getD,List.getElem?_map]
 cases ns[k]? <;> simp
theorem nz_dropLast {ns:List Int} (k:Nat):nz ns.dropLast k = if k = ns.length - 1 then 0 else nz ns k:=by
 unfold nz
 rw [List.getD_eq_getElem?_getD,List.getD_eq_getElem?_getD,List.getElem?_dropLast]
 by_cases h:k < ns.length - 1
 ·rw [if_pos h,if_neg (by walk_at "o")]
 ·rw [if_neg h]
  by_cases h2:k = ns.length - 1
  ·rw [if_pos h2]
   rfl
  ·rw [if_neg h2,List.getElem?_eq_none (by walk_at "o")]
theorem part_step {ms:Nat -> Int} {S P:Int} {Q Q' N R R1 R2:Nat -> Int} {n p l:Nat} (h:∀ k,S * ms k = pz Q N n k + R k) (h0:Q p = 0) (hQ:∀ k,Q' k = if k = p then P else Q k) (hp:p < n) (hN:∀ j,l < j -> N j = 0)
  (ht:R (p + l) = P * N l) (h1:∀ k,R1 k = if k = p + l then 0 else R k) (h2:∀ k,R2 k = R1 k - if p <= k /\ k < p + l then P * N (k - p) else 0):∀ k,S * ms k = pz Q' N n k + R2 k:=by
 intro k
 rw [show Q' = fun j=>if j = p then P else Q j from funext hQ,pz_set h0,h k,h2 k,h1 k]
 by_cases a:p <= k
 ·rw [if_pos ⟨hp,a⟩]
  rcases Nat.lt_trichotomy k (p + l) with b | b | b
  ·rw [if_neg (show ¬ k = p + l by walk_at "o"),if_pos ⟨a,b⟩]
   walk_at "o"
  ·subst b
   rw [if_pos rfl,if_neg (by walk_at "o"),ht,show p + l - p = l by walk_at "o"]
   walk_at "o"
  ·rw [if_neg (show ¬ k = p + l by walk_at "o"),if_neg (by walk_at "o"),hN _ (show l < k - p by walk_at "o")]
   walk_at "o"
 ·rw [if_neg (by walk_at "o"),if_neg (show ¬ k = p + l by walk_at "o"),if_neg (by walk_at "o")]
  walk_at "o"
end L2
namespace L2
open PySem PySem.Spec PyProof.Rows
end L2
namespace L2
open PySem PySem.Spec PyProof.Rows
section
variable {X:Cx} {a b c:Expr} {ta tb tc:TE} {pos:Pos}
end
end L2
namespace L2
open PySem PySem.Spec PyProof.Rows
end L2
namespace L2
open PySem PySem.Spec PyProof.Rows
def isInt (x:V) (P:Int -> Prop):Prop:=match x with | .int k=>P k | _=>False
section
variable {K:PySem.W.Frag}
end
end L2
namespace L2
open PySem
end L2
namespace L2
open PySem PySem.Spec PyProof.Rows
end L2
namespace L2
open PySem PySem.Spec PyProof.Rows
section
variable {X:Cx}
end
end L2
namespace L2
open PySem PySem.Spec PyProof.Rows
def ch:Nat -> Nat -> Nat
 | _,0=>1
 | 0,_ + 1=>0
 | n + 1,k + 1=>ch n k + ch n (k + 1)
end L2
namespace L2
open PySem PySem.Spec PyProof.Rows
end L2
namespace L2
open PySem PySem.Spec PyProof.Rows
section
variable {X:Cx}
end
end L2
namespace L2
end L2
namespace L2
open PySem PySem.Spec PyProof.Rows
section
variable {P:Program} {w:World} {K:PySem.W.Frag} {mg:Str -> Option Value} {base:Heap}
theorem qs_exprX {N:List Str} {qual:Str} {scope:Scope} {f:Addr} {cd:Value} {A:Around} {outer:List Env} {s₀:Shared} {H₀:Hp} {E:XK} {e:Expr} {pos:Pos} {t:St -> Hp -> XK -> Prop}
  (hb:QX (cxOf (CX1 P w) P w K mg base N qual scope f cd A outer s₀ H₀ E) e t) (hsw:swapsWith e none pos.line (cxOf (CX1 P w) P w K mg base N qual scope f cd A outer s₀ H₀ E).env = pure false:=by rfl):QS (cxOf (CX1 P w) P w K mg base N qual scope f cd A outer s₀ H₀ E) (.Expr e pos) (tRetX E t):=⟨by
 intro pins s σ H D I h
 refine wpAny_Expr_any (wpAny_mono (hb.h pins s σ H E I h) (fun _ _ z=>z.elim) fun ev s' z=>?_) I.quiet hsw
 obtain ⟨s1,H1,I1,z⟩:=z
 exact I1.passed rfl rfl rfl z fun _ _ _ q=>q⟩
end
end L2
namespace L2
open PySem PySem.Spec PyProof.Rows
end L2
namespace L2
open PySem PySem.Spec PyProof.Rows
def tAsg2 (te:TE) (g1 g2:TG):TS:=fun D σ H=>te σ H fun v H1=>g1 v σ H1 fun σ1 H2=>g2 v σ1 H2 D.nx
theorem qs_asg2 {X:Cx} {t1 t2 e:Expr} {te:TE} {g1 g2:TG} {pos:Pos} (he:QE X e te) (h1:QG X t1 g1) (h2:QG X t2 g2)
  (hz:(assignEach [t1,t2] X.env).map (·.2) = [assign t1 X.env,assign t2 X.env]:=by rfl) (hw:swappedStores [t1,t2] e X.env = pure none:=by rfl):QS X (.Assign [t1,t2] e pos) (tAsg2 te g1 g2):=⟨by
 intro pins s σ H D I h
 refine wpAny_Assign_two (thn (he.h pins s σ H _ I h) fun v s1 ⟨x,H1,I1,r1,q1⟩=>?_) hz hw
 refine thn (h1.h pins s1 σ H1 x v _ I1 r1 q1) fun _ s2 ⟨σ2,H2,I2,q2⟩=>?_
 exact thn (h2.h pins s2 σ2 H2 x v _ I2 r1 q2) fun _ s3 q=>q⟩
end L2
namespace L2
open PySem PySem.Spec PyProof.Rows
end L2
namespace L2
open PySem PySem.Spec PyProof.Rows
end L2
namespace L2
open PySem PySem.Spec PyProof.Rows
structure LamK where
 params:Arguments
 body:Expr
 scope:Scope
 Nl:List Str
 ixs:List Nat
 tl:TE
end L2
namespace L2
open PySem PySem.Spec PyProof.Rows
structure Cas where
 t:Addr
 p:Addr
 c:Addr
 d:Addr
 ps:Arguments
 b:Expr
 sc:Scope
 ds:List D
section
variable {P:Addr} {G0 G G':Hp} {qual:Str} {cl:List (Str × Addr)} {cs:Addr} {xs:List Cas} {x:Cas}
section
variable {L1 L2 L3 L4:Hp} {p c' d t:Addr} {params:Arguments} {body:Expr} {scope:Scope} {ds:List D} {Kd:LamK -> Prop} {R:List D -> LamK -> Prop}
end
end
end L2
namespace L2
open PySem PySem.Spec PyProof.Rows
def Ob (D:Int) (B:Nat) (f:Nat -> Rat):Prop:=∀ k,∃ n:Int,f k = (n:Rat) / (D:Rat) /\ Bt B n
section
variable {D E:Int} {a b e:Nat} {f g:Nat -> Rat}
theorem btz {n:Nat}:Bt n 0:=Nat.two_pow_pos n
theorem Ob.mono (h:Ob D a f) (hl:a <= b):Ob D b f:=fun k=>by
 obtain ⟨n,e1,h1⟩:=h k
 exact ⟨n,e1,h1.mono hl⟩
theorem Ob.congr (h:Ob D a f) (e:∀ k,g k = f k):Ob D a g:=fun k=>by
 rw [e k]
 exact h k
theorem Ob.bq {qs:List (Int × Int)} (h:Ob D a (cf qs)) (hD:D ≠ 0) (hb:Bt a D) (hF:∀ q ∈ qs,Fq q):∀ q ∈ qs,Bq a q:=fun q hq=>by
 obtain ⟨k,hk,rfl⟩:=List.getElem_of_mem hq
 obtain ⟨n,e1,h1⟩:=h k
 rw [cf_some (List.getElem?_eq_getElem hk)] at e1
 rw [wv_inj (hF _ hq) (lo_Fq hD) (by rw [wv_lo hD,e1])]
 exact bt_lo hD h1 hb
theorem Ob.add (h1:Ob D a f) (h2:Ob D b g):Ob D (max a b + 1) (fun k=>f k + g k):=fun k=>by
 obtain ⟨m,e1,b1⟩:=h1 k
 obtain ⟨n,e2,b2⟩:=h2 k
 refine ⟨m + n,?_,b1.add b2⟩
 show f k + g k = _
 rw [e1,e2,Rat.intCast_add]
 grind
theorem Ob.pr (hD:D ≠ 0) (hE:E ≠ 0) (h1:Ob D a f) (h2:Ob E b g):∀ n,Ob (D * E) (a + b + n) (fun k=>pr f g n k)
 | 0=>fun k=>⟨0,by
  show (0:Rat) = ((0:Int):Rat) / _
  have c0:((0:Int):Rat) = 0:=rfl
  rw [c0]
  grind,btz⟩
 | n + 1=>fun k=>by
  obtain ⟨m,e1,b1⟩:=Ob.pr hD hE h1 h2 n k
  show ∃ m,L2.pr f g n k + (if n <= k then f n * g (k - n) else 0) = _ /\ _
  have e1:L2.pr f g n k = (m:Rat) / ((D * E:Int):Rat):=e1
  split
  ·obtain ⟨x,e2,b2⟩:=h1 n
   obtain ⟨y,e3,b3⟩:=h2 (k - n)
   refine ⟨m + x * y,?_,(b1.add (b2.mul b3)).mono (by walk_at "o")⟩
   have:=cast_ne hD
   have:=cast_ne hE
   rw [e1,e2,e3,Rat.intCast_add,Rat.intCast_mul,Rat.intCast_mul]
   grind
  ·refine ⟨m,?_,b1.mono (by walk_at "o")⟩
   rw [e1]
   grind
def Pb (a:Nat) (f:Nat -> Rat):Prop:=∃ D:Int,D ≠ 0 /\ Bt a D /\ Ob D a f
theorem Pb.mono (h:Pb a f) (hl:a <= b):Pb b f:=by
 obtain ⟨D,h1,h2,h3⟩:=h
 exact ⟨D,h1,h2.mono hl,h3.mono hl⟩
theorem Pb.congr (h:Pb a f) (e:∀ k,g k = f k):Pb a g:=by
 obtain ⟨D,h1,h2,h3⟩:=h
 exact ⟨D,h1,h2,h3.congr e⟩
theorem Pb.bq {qs:List (Int × Int)} (h:Pb a (cf qs)) (hF:∀ q ∈ qs,Fq q):∀ q ∈ qs,Bq a q:=by
 obtain ⟨D,h1,h2,h3⟩:=h
 exact h3.bq h1 h2 hF
theorem Pb.pr (h1:Pb a f) (h2:Pb b g) (n:Nat):Pb (a + b + n) (fun k=>L2.pr f g n k):=by
 obtain ⟨D,d1,d2,d3⟩:=h1
 obtain ⟨E,e1,e2,e3⟩:=h2
 exact ⟨D * E,Int.mul_ne_zero d1 e1,(d2.mul e2).mono (by walk_at "o"),Ob.pr d1 e1 d3 e3 n⟩
end
theorem pb_nil {a:Nat} (h:1 <= a):Pb a (cf []):=⟨1,by decide,Bt.mono (m:=1) (by decide) h,fun k=>⟨0,by
  show (0:Rat) = ((0:Int):Rat) / _
  have c0:((0:Int):Rat) = 0:=rfl
  rw [c0]
  grind,btz⟩⟩
def lin (p q:Rat) (f:Nat -> Rat):Nat -> Rat
 | 0=>f 0 * p
 | k + 1=>f (k + 1) * p + f k * q
end L2
namespace L2
open PySem PySem.Spec PyProof.Rows
theorem dvd_copr {a b c:Int} (h:Int.gcd a b = 1) (hd:a ∣ b * c):a ∣ c:=by
 rw [<- Int.natAbs_dvd_natAbs] at hd ⊢
 rw [Int.natAbs_mul] at hd
 exact Nat.Coprime.dvd_of_dvd_mul_left h hd
theorem lcm_min {b q E:Int} (hb:0 < b) (hq:0 < q) (h1:b ∣ E) (h2:q ∣ E):b * q.fdiv (Int.gcd b q:Int) ∣ E:=by
 obtain ⟨_,_,_,hg,_⟩:=lcm_step hb hq
 have e:=fdiv_mul hg (Int.gcd_dvd_right b q)
 obtain ⟨m,hm⟩:=Int.gcd_dvd_left b q
 obtain ⟨g,hgg⟩ : ∃ g:Nat,g = Int.gcd b q:=⟨_,rfl⟩
 generalize hc:q.fdiv (Int.gcd b q:Int) = c at e
 rw [<- hgg] at hg e hm
 have hcop:Int.gcd c m = 1:=by
  have z:Int.gcd b q = g * Int.gcd m c:=by
   rw [hm,<- e,Int.mul_comm c,Int.gcd_mul_left]
   simp
  rw [<- hgg] at z
  have g0:0 < g:=by walk_at "o"
  have:Int.gcd m c = 1:=by
   have:g * 1 = g * Int.gcd m c:=by walk_at "o"
   exact (Nat.eq_of_mul_eq_mul_left g0 this).symm
  rw [Int.gcd_comm]
  exact this
 obtain ⟨u,hu⟩:=h1
 obtain ⟨v,hv⟩:=h2
 have:c ∣ m * u:=by
  refine ⟨v,?_⟩
  have z:(g:Int) * (m * u) = (g:Int) * (c * v):=by
   rw [<- Int.mul_assoc,<- hm,<- hu,hv,<- e]
   rw [Int.mul_comm c,Int.mul_assoc]
  exact Int.eq_of_mul_eq_mul_left hg z
 obtain ⟨t,ht⟩:=dvd_copr hcop this
 exact ⟨t,by rw [hu,ht,Int.mul_assoc]⟩
theorem frac_dvd {q:Int × Int} {n E:Int} (h:Fq q) (hE:E ≠ 0) (e:wv q = (n:Rat) / (E:Rat)):q.2 ∣ E:=by
 unfold wv at e
 have c1:=cast_ne h.ne
 have c2:=cast_ne hE
 have e1:(q.1:Rat) * (E:Rat) = (n:Rat) * (q.2:Rat):=by grind
 have e2:q.1 * E = n * q.2:=by
  rw [<- Rat.intCast_mul,<- Rat.intCast_mul] at e1
  exact Rat.intCast_inj.mp e1
 refine dvd_copr (b:=q.1) (by rw [Int.gcd_comm]; exact h.2) ⟨n,by rw [e2,Int.mul_comm]⟩
theorem cleared_bt {a:Nat} {qs:List (Int × Int)} {D:Int} {ns:List Int} (h:Pb a (cf qs)) (hF:∀ q ∈ qs,Fq q) (hD:0 < D) (hm:∀ E:Int,(∀ q ∈ qs,q.2 ∣ E) -> D ∣ E) (hl:ns.length = qs.length) (hn:∀ (i:Nat) (n:Int) (q:Int × Int),ns[i]? = some n -> qs[i]? = some q -> (n:Rat) = wv q * (D:Rat)):Bt a D /\ ∀ n ∈ ns,Bt a n:=by
 obtain ⟨E,hE,bE,oE⟩:=h
 obtain ⟨t,ht⟩:=hm E fun q hq=>by
  obtain ⟨k,hk,rfl⟩:=List.getElem_of_mem hq
  obtain ⟨n,e,_⟩:=oE k
  rw [cf_some (List.getElem?_eq_getElem hk)] at e
  exact frac_dvd (hF _ hq) hE e
 have t0:t ≠ 0:=fun z=>hE (by rw [ht,z,Int.mul_zero])
 have le:∀ x:Int,x.natAbs <= (x * t).natAbs:=fun x=>by
  rw [Int.natAbs_mul]
  exact Nat.le_mul_of_pos_right _ (by walk_at "o")
 refine ⟨?_,fun n hn'=>?_⟩
 ·unfold Bt at *
  have:=le D
  rw [<- ht] at this
  walk_at "o"
 ·obtain ⟨i,hi,rfl⟩:=List.getElem_of_mem hn'
  have hi':i < qs.length:=by walk_at "o"
  have e1:=hn i _ _ (List.getElem?_eq_getElem hi) (List.getElem?_eq_getElem hi')
  obtain ⟨m,e2,bm⟩:=oE i
  rw [cf_some (List.getElem?_eq_getElem hi')] at e2
  have c1:=cast_ne hE
  have e3:((ns[i] * t:Int):Rat) = (m:Rat):=by
   rw [Rat.intCast_mul,e1,e2]
   have:(E:Rat) = (D:Rat) * (t:Rat):=by rw [ht,Rat.intCast_mul]
   have c2:(D:Rat) ≠ 0:=cast_ne (by walk_at "o")
   have c3:(t:Rat) ≠ 0:=cast_ne t0
   rw [this]
   grind
  have e4:=Rat.intCast_inj.mp e3
  unfold Bt at *
  have:=le ns[i]
  rw [e4] at this
  walk_at "o"
end L2
namespace L2
open PySem PySem.Spec PyProof.Rows
def sps (cs:List Spt):List Rat:=cs.map fun c=>wv c.1
def oth (cs:List Spt) (i:Nat):List Rat:=(sps cs).take i ++ (sps cs).drop (i + 1)
end L2
namespace L2
open PySem PySem.Spec PyProof.Rows
end L2
namespace L2
open PySem PySem.Spec PyProof.Rows
end L2
namespace L2
open PySem PySem.Spec PyProof.Rows
section
variable {X:Cx}
end
end L2
namespace L2
open PySem
abbrev Om:=List Bool -> Int
def wg:Nat -> (Nat -> Int) -> Om -> Om
 | 0,_,_=>fun _=>0
 | m + 1,v,o=>fun l=>match l with
  | []=>0
  | false :: l=>wg m v (fun k=>o (false :: k)) l
  | true :: l=>v m * o (false :: l) - wg m v (fun k=>o (true :: k)) l
theorem wg_f {m:Nat} {v:Nat -> Int} {o:Om} {l:List Bool}:wg (m + 1) v o (false :: l) = wg m v (fun k=>o (false :: k)) l:=rfl
theorem wg_t {m:Nat} {v:Nat -> Int} {o:Om} {l:List Bool}:wg (m + 1) v o (true :: l) = v m * o (false :: l) - wg m v (fun k=>o (true :: k)) l:=rfl
theorem wg_lin {v:Nat -> Int} {a b:Int}:∀ (m:Nat) (o p:Om) (l:List Bool),wg m v (fun k=>a * o k + b * p k) l = a * wg m v o l + b * wg m v p l
 | 0,o,p,l=>by show (0:Int) = a * 0 + b * 0; rw [Int.mul_zero,Int.mul_zero]; rfl
 | m + 1,o,p,[]=>by show (0:Int) = a * 0 + b * 0; rw [Int.mul_zero,Int.mul_zero]; rfl
 | m + 1,o,p,false :: l=>by
  rw [wg_f,wg_f,wg_f]
  exact wg_lin m _ _ l
 | m + 1,o,p,true :: l=>by
  rw [wg_t,wg_t,wg_t,wg_lin m (fun k=>o (true :: k)) (fun k=>p (true :: k)) l]
  grind
theorem wg_zero {v:Nat -> Int}:∀ (m:Nat) (o:Om) (l:List Bool),(∀ k,o k = 0) -> wg m v o l = 0
 | 0,o,l,h=>rfl
 | m + 1,o,[],h=>rfl
 | m + 1,o,false :: l,h=>by rw [wg_f]; exact wg_zero m _ l fun k=>h _
 | m + 1,o,true :: l,h=>by rw [wg_t,h,wg_zero m _ l fun k=>h _]; walk_at "o"
theorem wg_congr {v:Nat -> Int} {m:Nat} {o p:Om} (h:∀ k,o k = p k) (l:List Bool):wg m v o l = wg m v p l:=by
 have:o = p:=funext h
 rw [this]
theorem wg_row {u v:Nat -> Int} {a b:Int}:∀ (m:Nat) (o:Om) (l:List Bool),wg m (fun i=>a * u i + b * v i) o l = a * wg m u o l + b * wg m v o l
 | 0,o,l=>by show (0:Int) = a * 0 + b * 0; rw [Int.mul_zero,Int.mul_zero]; rfl
 | m + 1,o,[]=>by show (0:Int) = a * 0 + b * 0; rw [Int.mul_zero,Int.mul_zero]; rfl
 | m + 1,o,false :: l=>by
  rw [wg_f,wg_f,wg_f]
  exact wg_row m _ l
 | m + 1,o,true :: l=>by
  rw [wg_t,wg_t,wg_t,wg_row m _ l]
  grind
theorem wg_none {v:Nat -> Int}:∀ (m:Nat) (o:Om) (l:List Bool),(∀ i,i < m -> v i = 0) -> wg m v o l = 0
 | 0,o,l,h=>rfl
 | m + 1,o,[],h=>rfl
 | m + 1,o,false :: l,h=>by rw [wg_f]; exact wg_none m _ l fun i hi=>h i (by walk_at "o")
 | m + 1,o,true :: l,h=>by rw [wg_t,h m (by walk_at "o"),wg_none m _ l fun i hi=>h i (by walk_at "o")]; walk_at "o"
theorem wg_swap {u v:Nat -> Int}:∀ (m:Nat) (o:Om) (l:List Bool),wg m u (wg m v o) l = - wg m v (wg m u o) l
 | 0,o,l=>rfl
 | m + 1,o,[]=>rfl
 | m + 1,o,false :: l=>by
  rw [wg_f,wg_f]
  exact wg_swap m (fun k=>o (false :: k)) l
 | m + 1,o,true :: l=>by
  rw [wg_t,wg_t,wg_f,wg_f]
  have e1:=wg_lin (v:=u) (a:=v m) (b:=-1) m (fun k=>o (false :: k)) (wg m v fun k=>o (true :: k)) l
  have e2:=wg_lin (v:=v) (a:=u m) (b:=-1) m (fun k=>o (false :: k)) (wg m u fun k=>o (true :: k)) l
  have f1:wg m u (fun k=>wg (m + 1) v o (true :: k)) l = wg m u (fun k=>v m * o (false :: k) + -1 * wg m v (fun k=>o (true :: k)) k) l:=wg_congr (fun k=>by rw [wg_t]; walk_at "o") l
  have f2:wg m v (fun k=>wg (m + 1) u o (true :: k)) l = wg m v (fun k=>u m * o (false :: k) + -1 * wg m u (fun k=>o (true :: k)) k) l:=wg_congr (fun k=>by rw [wg_t]; walk_at "o") l
  have s:=wg_swap (u:=u) (v:=v) m (fun k=>o (true :: k)) l
  rw [f1,f2,e1,e2]
  grind
theorem wg_same {v:Nat -> Int} (m:Nat) (o:Om) (l:List Bool):wg m v (wg m v o) l = 0:=by
 have:=wg_swap (u:=v) (v:=v) m o l
 walk_at "o"
section
variable (W:Nat -> Int)
def hrow (i:Nat):Nat -> Int:=fun j=>W (i + j)
def one0:Om:=fun l=>if l.all (fun b=>!b) then 1 else 0
def om (m:Nat):Nat -> Om
 | 0=>one0
 | k + 1=>wg m (hrow W k) (om m k)
def trs:Nat -> List Bool
 | 0=>[]
 | m + 1=>true :: trs m
def dl1 (j:Nat):Nat -> Int:=fun i=>if i = j then 1 else 0
def Dk (k:Nat):Int:=om W k k (trs k)
end
variable {W:Nat -> Int}
def sumN (f:Nat -> Int):Nat -> Int
 | 0=>0
 | n + 1=>sumN f n + f n
theorem sumN_congr {f g:Nat -> Int}:∀ n,(∀ i,i < n -> f i = g i) -> sumN f n = sumN g n
 | 0,_=>rfl
 | n + 1,h=>by
  show sumN f n + f n = sumN g n + g n
  rw [sumN_congr n fun i hi=>h i (by walk_at "o"),h n (by walk_at "o")]
theorem sumN_zero {f:Nat -> Int}:∀ n,(∀ i,i < n -> f i = 0) -> sumN f n = 0
 | 0,_=>rfl
 | n + 1,h=>by
  show sumN f n + f n = 0
  rw [sumN_zero n fun i hi=>h i (by walk_at "o"),h n (by walk_at "o")]
  rfl
theorem sumN_one {f:Nat -> Int} {j:Nat}:∀ n,(∀ i,i < n -> i ≠ j -> f i = 0) -> j < n -> sumN f n = f j
 | 0,_,h=>by walk_at "o"
 | n + 1,h,hj=>by
  show sumN f n + f n = f j
  by_cases e:j = n
  ·rw [sumN_zero n fun i hi=>h i (by walk_at "o") (by walk_at "o"),e]
   walk_at "o"
  ·rw [sumN_one n (fun i hi hn=>h i (by walk_at "o") hn) (by walk_at "o"),h n (by walk_at "o") (by walk_at "o")]
   walk_at "o"
theorem wg_places {v:Nat -> Int} {M:Nat} {o:Om} {l:List Bool}:∀ n,wg M (fun i=>sumN (fun j=>v j * dl1 j i) n) o l = sumN (fun j=>v j * wg M (dl1 j) o l) n
 | 0=>wg_none _ _ _ fun i _=>rfl
 | n + 1=>by
  have e:=wg_row (u:=fun i=>sumN (fun j=>v j * dl1 j i) n) (v:=dl1 n) (a:=1) (b:=v n) M o l
  have f:(fun i=>sumN (fun j=>v j * dl1 j i) (n + 1)) = fun i=>1 * sumN (fun j=>v j * dl1 j i) n + v n * dl1 n i:=funext fun i=>by
   show sumN _ n + v n * dl1 n i = _
   rw [Int.one_mul]
  rw [f,e,wg_places n]
  show _ = sumN _ n + v n * _
  rw [Int.one_mul]
end L2
namespace L2
open PySem
variable {W:Nat -> Int}
theorem wg_abs {v:Nat -> Int} {B C:Nat} (hv:∀ i,(v i).natAbs <= B):∀ (m:Nat) (o:Om) (l:List Bool),(∀ k,(o k).natAbs <= C) -> (wg m v o l).natAbs <= m * (B * C)
 | 0,o,l,h=>by simp [wg]
 | m + 1,o,[],h=>by simp [wg]
 | m + 1,o,false :: l,h=>by
  rw [wg_f]
  have:=wg_abs hv m (fun k=>o (false :: k)) l fun k=>h _
  rw [Nat.add_mul]
  walk_at "o"
 | m + 1,o,true :: l,h=>by
  rw [wg_t]
  have h1:=wg_abs hv m (fun k=>o (true :: k)) l fun k=>h _
  have h2:(v m * o (false :: l)).natAbs <= B * C:=by rw [Int.natAbs_mul]; exact Nat.mul_le_mul (hv m) (h _)
  have h3:=Int.natAbs_sub_le (v m * o (false :: l)) (wg m v (fun k=>o (true :: k)) l)
  rw [Nat.add_mul]
  walk_at "o"
end L2
namespace L2
open PySem PySem.Spec PyProof.Rows
end L2
namespace L2
open PySem PySem.Spec PyProof.Rows
theorem bq_of {D n:Int} {a:Nat} {q:Int × Int} (hq:Fq q) (e:wv q = (n:Rat) / (D:Rat)) (hD:D ≠ 0) (h1:Bt a n) (h2:Bt a D):Bq a q:=by
 rw [wv_inj hq (lo_Fq hD) (by rw [wv_lo hD,e])]
 exact bt_lo hD h1 h2
theorem ob_qr {D E:Int} {a b:Nat} {f g:Nat -> Rat} (hD:D ≠ 0) (hE:E ≠ 0) (h1:Ob D a f) (h2:Ob E b g) (j l:Nat):Ob (D * E) (a + b + j + 1) (fun k=>qr f g j l k):=by
 have hp:=Ob.pr hD hE h1 h2 j
 have hx:Ob (D * E) (a + b) (fun k=>if j <= k /\ k - j < l then f j * g (k - j) else 0):=fun k=>by
  by_cases hc:j <= k /\ k - j < l
  ·obtain ⟨m,e1,b1⟩:=h1 j
   obtain ⟨n,e2,b2⟩:=h2 (k - j)
   refine ⟨m * n,?_,b1.mul b2⟩
   show (if _ then _ else _) = _
   rw [if_pos hc,e1,e2,Rat.intCast_mul,Rat.intCast_mul]
   have n1:(D:Rat) ≠ 0:=cast_ne hD
   have n2:(E:Rat) ≠ 0:=cast_ne hE
   grind
  ·refine ⟨0,?_,by unfold Bt; exact Nat.pow_pos (by decide)⟩
   show (if _ then _ else _) = _
   rw [if_neg hc]
   have:((0:Int):Rat) = 0:=rfl
   rw [this]
   grind
 exact (Ob.add hp hx).mono (by walk_at "o")
end L2
namespace L2
open PySem PySem.Spec PyProof.Rows
section
variable {W:Nat -> Int} {B:Int} {k:Nat} {P S:Nat -> Rat}
end
end L2
namespace L2
open PySem PySem.Spec PyProof.Rows
section
variable {S:Nat -> Rat} {P:Nat -> Nat -> Rat} {h:Nat -> Rat} {M n:Nat}
end
section
variable {W:Nat -> Int} {B:Int} {S:Nat -> Rat}
end
end L2
namespace L2
open PySem PySem.Spec PyProof.Rows
section
variable {W:Nat -> Int} {B:Int} {cs:List Spt}
end
end L2
namespace L2
open PySem PySem.Spec PyProof.Rows
theorem pb_list {b:Nat}:∀ {fs:List (Int × Int)},(∀ q ∈ fs,Fq q /\ Bq b q) -> Pb (b * fs.length + 1) (cf fs)
 | [],_=>(pb_nil (a:=1) (by decide)).mono (by simp)
 | q :: qs,h=>by
  obtain ⟨D,d0,bD,o⟩:=pb_list (b:=b) (fs:=qs) fun q hq=>h q (by simp [hq])
  obtain ⟨f,bt,bb⟩:=h q (by simp)
  have c1:=cast_ne f.ne
  have c2:=cast_ne d0
  have e:b * (q :: qs).length + 1 = b + (b * qs.length + 1):=by rw [List.length_cons,Nat.mul_add]; walk_at "o"
  rw [e]
  refine ⟨q.2 * D,Int.mul_ne_zero f.ne d0,bb.mul bD,fun k=>?_⟩
  cases k with
  | zero =>
   refine ⟨q.1 * D,?_,bt.mul bD⟩
   rw [cf_some (q:=q) rfl,Rat.intCast_mul,Rat.intCast_mul]
   unfold wv
   grind
  | succ k =>
   obtain ⟨n,en,bn⟩:=o k
   refine ⟨q.2 * n,?_,bb.mul bn⟩
   have:cf (q :: qs) (k + 1) = cf qs k:=rfl
   rw [this,en,Rat.intCast_mul,Rat.intCast_mul]
   grind
end L2
namespace L2
open PySem PySem.Spec PyProof.Rows
section
variable {W:Nat -> Int} {B:Int} {S:Nat -> Rat} {M:Nat}
end
end L2
namespace L2
open PySem PySem.Spec PyProof.Rows
end L2
namespace L2
open PySem PyProof.Rows
section
variable {X:Cx}
end
end L2
namespace L2
open PySem PySem.Spec PyProof.Rows
section
variable {W:Nat -> Int} {k:Nat}
end
end L2
namespace L2
open PySem PySem.Spec PyProof.Rows
section
variable {P:Program} {w:World} {K:PySem.W.Frag} {mg:Str -> Option Value} {base:Heap}
end
end L2
namespace L2
open PySem PySem.Spec PyProof.Rows
section
variable {X:Cx} {a b:Expr} {pos:Pos} {t:St -> Hp -> XK -> Prop}
end
section
variable {P:Program} {w:World} {K:PySem.W.Frag} {mg:Str -> Option Value} {base:Heap}
end
end L2
namespace L2
open PySem PySem.Spec PyProof.Rows
structure Lm where
 p:Addr
 c:Addr
 ps:Arguments
 b:Expr
 sc:Scope
section
variable {P:Addr} {G0 G G' L0 L1 L3:Hp} {qual:Str} {cl:List (Str × Addr)} {cs p c':Addr} {xs:List Lm} {params:Arguments} {body:Expr} {scope:Scope}
end
end L2
namespace L2
open PySem PySem.Spec PyProof.Rows
structure Seer (P:Program) (base:Heap):Prop where
 seer:base.NoSeer
 tree:P.given.tree = none
def CNz (_ j:Int):Prop:=j ≠ 0
theorem op_fdivP {X:Cx} {k:Nat} (N:Seer X.prog X.base) (hr:Room k X.A) (hst:X.stack = X.env :: X.outer) (hgen:X.env.scope.isGenerator = false) (hco:X.env.scope.isCoroutine = false) :
  OpR X (binaryOp .FloorDiv) (rI CNz fun i j=>.int (i.fdiv j)):=by
 intro pins s σ H x y v u Q I rx ry h
 obtain ⟨i,j,rfl,rfl,hc,q⟩:=h
 obtain ⟨t,rfl⟩:=rx
 obtain ⟨t',rfl⟩:=ry
 refine floordiv_int hc ⟨.int (i.fdiv j),H,I.tok _,⟨_,rfl⟩,q⟩ (.inr ?_)
 refine PySem.PylongRoom.of I.nolimit ?_ (PySem.SeerAt.of (N.seer.keeps I.bk) N.tree (I.ok.frames.trans (congrArg some hst)) hgen hco I.ok.blt I.ok.glob)
 have:=hr.dp
 show X.A.depth + 100 < recursionLimit
 walk_at "o"
end L2
namespace L2
open PySem
def hR (W:Nat -> Int) (B:Int) (k:Nat):Rat:=((Dk W (k + 1):Int):Rat) / ((Dk W k * B:Int):Rat)
section
variable {W:Nat -> Int} {B:Int} {x:Rat} {m:Nat}
end
def tb:Nat -> Nat
 | 0=>1
 | k + 1=>tb k + (360 * k + 280)
end L2
namespace L2
open PySem
def dw (M:Nat):List (Nat -> Int) -> Om
 | []=>one0
 | r :: rs=>wg M r (dw M rs)
def dt (M:Nat) (rows:List (Nat -> Int)):Int:=dw M rows (trs M)
theorem wg_neg {v:Nat -> Int} {m:Nat} {o p:Om} (h:∀ k,o k = - p k) (l:List Bool):wg m v o l = - wg m v p l:=by
 have e:=wg_lin (v:=v) (a:=-1) (b:=0) m p p l
 rw [<- wg_congr (o:=o) (p:=fun k=>-1 * p k + 0 * p k) (fun k=>by rw [h]; walk_at "o") l] at e
 walk_at "o"
theorem wg_scal {v:Nat -> Int} {a:Int} {m:Nat} {o p:Om} (h:∀ k,o k = a * p k) (l:List Bool):wg m v o l = a * wg m v p l:=by
 have e:=wg_lin (v:=v) (a:=a) (b:=0) m p p l
 rw [<- wg_congr (o:=o) (p:=fun k=>a * p k + 0 * p k) (fun k=>by rw [h]; walk_at "o") l] at e
 walk_at "o"
theorem wg_ext {u v:Nat -> Int} {m:Nat} {o:Om} {l:List Bool} (h:∀ i,i < m -> u i = v i):wg m u o l = wg m v o l:=by
 have e:=wg_row (u:=u) (v:=v) (a:=1) (b:=-1) m o l
 rw [wg_none m o l fun i hi=>by rw [h i hi]; walk_at "o"] at e
 walk_at "o"
def Pm (x y:Int):Prop:=x = y \/ x = -y
theorem Pm.rfl' {x:Int}:Pm x x:=.inl rfl
theorem Pm.symm {x y:Int} (h:Pm x y):Pm y x:=by rcases h with e | e <;> unfold Pm <;> walk_at "o"
theorem Pm.trans {x y z:Int} (h:Pm x y) (g:Pm y z):Pm x z:=by rcases h with e | e <;> rcases g with f | f <;> unfold Pm <;> walk_at "o"
theorem Pm.mul {x y:Int} (h:Pm x y) (a:Int):Pm (a * x) (a * y):=by
 rcases h with e | e
 ·exact .inl (by rw [e])
 ·exact .inr (by rw [e,Int.mul_neg])
theorem Pm.of_mul {a x y:Int} (h:Pm (a * x) (a * y)) (ha:a ≠ 0):Pm x y:=by
 rcases h with e | e
 ·exact .inl (Int.eq_of_mul_eq_mul_left ha e)
 ·exact .inr (Int.eq_of_mul_eq_mul_left ha (by rw [e,Int.mul_neg]))
theorem dw_mem {M:Nat} {x:Nat -> Int}:∀ {rows:List (Nat -> Int)},x ∈ rows -> ∀ l,wg M x (dw M rows) l = 0
 | [],h,_=>by cases h
 | y :: rs,h,l=>by
  show wg M x (wg M y (dw M rs)) l = 0
  rcases List.mem_cons.mp h with rfl | z
  ·exact wg_same M _ l
  ·rw [wg_swap,wg_zero M _ l fun k=>dw_mem z k]
   rfl
theorem dw_perm {M:Nat} {a b:List (Nat -> Int)} (h:a.Perm b):(∀ l,dw M a l = dw M b l) \/ ∀ l,dw M a l = - dw M b l:=by
 induction h with
 | nil=>exact .inl fun _=>rfl
 | cons x _ ih =>
  rcases ih with e | e
  ·exact .inl fun l=>wg_congr e l
  ·exact .inr fun l=>wg_neg e l
 | swap x y l=>exact .inr fun k=>wg_swap M _ k
 | trans _ _ ih1 ih2 =>
  rcases ih1 with e | e <;> rcases ih2 with f | f
  ·exact .inl fun l=>by rw [e,f]
  ·exact .inr fun l=>by rw [e,f]
  ·exact .inr fun l=>by rw [e,f]
  ·exact .inl fun l=>by rw [e,f]; walk_at "o"
theorem dt_perm {M:Nat} {a b:List (Nat -> Int)} (h:a.Perm b):Pm (dt M a) (dt M b):=by
 rcases dw_perm (M:=M) h with e | e
 ·exact .inl (e _)
 ·exact .inr (e _)
theorem dw_false {m:Nat}:∀ (rs:List (Nat -> Int)) (l:List Bool),dw (m + 1) rs (false :: l) = dw m rs l
 | [],l=>by simp [dw,one0]
 | r :: rs,l=>by
  show wg (m + 1) r (dw (m + 1) rs) (false :: l) = wg m r (dw m rs) l
  rw [wg_f]
  exact wg_congr (fun k=>dw_false rs k) l
theorem dw_true {m:Nat}:∀ {rs:List (Nat -> Int)},(∀ r ∈ rs,r m = 0) -> ∀ l,dw (m + 1) rs (true :: l) = 0
 | [],_,l=>by simp [dw,one0]
 | r :: rs,h,l=>by
  show wg (m + 1) r (dw (m + 1) rs) (true :: l) = 0
  rw [wg_t,h r List.mem_cons_self,wg_zero m _ l fun k=>dw_true (fun x hx=>h x (List.mem_cons_of_mem _ hx)) k]
  walk_at "o"
theorem dt_top {m:Nat} {r:Nat -> Int} {rs:List (Nat -> Int)} (h:∀ x ∈ rs,x m = 0):dt (m + 1) (r :: rs) = r m * dt m rs:=by
 show wg (m + 1) r (dw (m + 1) rs) (true :: trs m) = r m * dw m rs (trs m)
 rw [wg_t,dw_false,wg_zero m _ _ fun k=>dw_true h k]
 walk_at "o"
def st (g:Nat -> Nat -> Int) (lo:Nat):Nat -> List (Nat -> Int)
 | 0=>[]
 | n + 1=>g (lo + n) :: st g lo n
theorem st_mem {g:Nat -> Nat -> Int} {lo:Nat} {x:Nat -> Int}:∀ {n:Nat},x ∈ st g lo n -> ∃ i,i < n /\ x = g (lo + i)
 | 0,h=>by cases h
 | n + 1,h=>by
  rcases List.mem_cons.mp h with rfl | z
  ·exact ⟨n,by walk_at "o",rfl⟩
  ·obtain ⟨i,hi,e⟩:=st_mem z
   exact ⟨i,by walk_at "o",e⟩
theorem mem_st {g:Nat -> Nat -> Int} {lo i:Nat}:∀ {n:Nat},i < n -> g (lo + i) ∈ st g lo n
 | 0,h=>by walk_at "o"
 | n + 1,h=>by
  by_cases e:i = n
  ·rw [e]; exact List.mem_cons_self
  ·exact List.mem_cons_of_mem _ (mem_st (by walk_at "o"))
theorem st_app (g:Nat -> Nat -> Int) (lo n:Nat):∀ m,st g lo (n + m) = st g (lo + n) m ++ st g lo n
 | 0=>rfl
 | m + 1=>by
  show g (lo + (n + m)) :: st g lo (n + m) = g (lo + n + m) :: (st g (lo + n) m ++ st g lo n)
  rw [st_app g lo n m,Nat.add_assoc]
theorem dt_stair {g:Nat -> Nat -> Int} {c:Int} {d0 lo:Nat} {X:List (Nat -> Int)} (h1:∀ i,g i (d0 + i) = c) (h2:∀ i k,d0 + i < k -> g i k = 0) (hX:∀ x ∈ X,∀ k,d0 + lo <= k -> x k = 0):∀ n,dt (d0 + lo + n) (st g lo n ++ X) = c ^ n * dt (d0 + lo) X
 | 0=>by show dt (d0 + lo) X = c ^ 0 * _; rw [Int.pow_zero,Int.one_mul]
 | n + 1=>by
  show dt (d0 + lo + n + 1) (g (lo + n) :: (st g lo n ++ X)) = _
  rw [dt_top,dt_stair h1 h2 hX n,show d0 + lo + n = d0 + (lo + n) by walk_at "o",h1,Int.pow_succ,Int.mul_comm (c ^ n) c,Int.mul_assoc]
  intro x hx
  rcases List.mem_append.mp hx with z | z
  ·obtain ⟨i,hi,rfl⟩:=st_mem z
   exact h2 _ _ (by walk_at "o")
  ·exact hX x z _ (by walk_at "o")
def Spn (M:Nat) (X:List (Nat -> Int)) (v:Nat -> Int):Prop:=∀ rows:List (Nat -> Int),(∀ x ∈ X,x ∈ rows) -> ∀ l,wg M v (dw M rows) l = 0
theorem Spn.mem {M:Nat} {X:List (Nat -> Int)} {v:Nat -> Int} (h:v ∈ X):Spn M X v:=fun rows hr l=>dw_mem (hr v h) l
theorem Spn.zero {M:Nat} {X:List (Nat -> Int)}:Spn M X fun _=>0:=fun rows _ l=>wg_none M _ l fun _ _=>rfl
theorem Spn.lin {M:Nat} {X:List (Nat -> Int)} {u v:Nat -> Int} {a b:Int} (hu:Spn M X u) (hv:Spn M X v):Spn M X fun k=>a * u k + b * v k:=fun rows hr l=>by
 rw [wg_row,hu rows hr l,hv rows hr l]
 walk_at "o"
theorem Spn.sum {M:Nat} {X:List (Nat -> Int)} {q:Nat -> Int} {g:Nat -> Nat -> Int}:∀ n,(∀ i,i < n -> g i ∈ X) -> Spn M X fun k=>sumN (fun i=>q i * g i k) n
 | 0,_=>Spn.zero
 | n + 1,h=>by
  have e:=Spn.lin (a:=1) (b:=q n) (Spn.sum (q:=q) n fun i hi=>h i (by walk_at "o")) (Spn.mem (M:=M) (h n (by walk_at "o")))
  have f:(fun k=>1 * sumN (fun i=>q i * g i k) n + q n * g n k) = fun k=>sumN (fun i=>q i * g i k) (n + 1):=by
   funext k
   show 1 * _ + _ = sumN _ n + q n * g n k
   walk_at "o"
  rw [f] at e
  exact e
theorem dw_rep {M:Nat} {f r:Nat -> Nat -> Int} {c b:Int} {X:List (Nat -> Int)}:∀ n,(∀ i,i < n -> ∃ v,Spn M X v /\ ∀ k,c * f i k = b * r i k + v k) -> ∀ l,c ^ n * dw M (st f 0 n ++ X) l = b ^ n * dw M (st r 0 n ++ X) l
 | 0,_,l=>by rw [Int.pow_zero,Int.pow_zero]; rfl
 | n + 1,h,l=>by
  have ih:=dw_rep n fun i hi=>h i (by walk_at "o")
  obtain ⟨v,hv,e⟩:=h n (by walk_at "o")
  show c ^ (n + 1) * wg M (f (0 + n)) (dw M (st f 0 n ++ X)) l = b ^ (n + 1) * wg M (r (0 + n)) (dw M (st r 0 n ++ X)) l
  rw [Nat.zero_add]
  have e1:c ^ n * wg M (f n) (dw M (st f 0 n ++ X)) l = b ^ n * wg M (f n) (dw M (st r 0 n ++ X)) l:=by
   rw [<- wg_scal (o:=fun k=>c ^ n * dw M (st f 0 n ++ X) k) (fun _=>rfl) l,<- wg_scal (o:=fun k=>b ^ n * dw M (st r 0 n ++ X) k) (fun _=>rfl) l]
   exact wg_congr ih l
  have e2:c * wg M (f n) (dw M (st r 0 n ++ X)) l = b * wg M (r n) (dw M (st r 0 n ++ X)) l:=by
   have a1:=wg_row (u:=f n) (v:=f n) (a:=c) (b:=0) M (dw M (st r 0 n ++ X)) l
   have a2:=wg_row (u:=r n) (v:=v) (a:=b) (b:=1) M (dw M (st r 0 n ++ X)) l
   rw [hv _ (fun x hx=>List.mem_append_right _ hx) l] at a2
   have a3:(fun i=>c * f n i + 0 * f n i) = fun i=>b * r n i + 1 * v i:=by
    funext k
    have:=e k
    walk_at "o"
   rw [a3,a2] at a1
   walk_at "o"
  rw [Int.pow_succ,Int.pow_succ,Int.mul_comm (c ^ n) c,Int.mul_assoc,e1,Int.mul_left_comm,e2,Int.mul_assoc]
theorem dt_rep {M:Nat} {f r:Nat -> Nat -> Int} {c b:Int} {X:List (Nat -> Int)} (n:Nat) (h:∀ i,i < n -> ∃ v,Spn M X v /\ ∀ k,c * f i k = b * r i k + v k):c ^ n * dt M (st f 0 n ++ X) = b ^ n * dt M (st r 0 n ++ X):=dw_rep n h _
def sh (f:Nat -> Int) (i k:Nat):Int:=if i <= k then f (k - i) else 0
def Ej (j k:Nat):List (Nat -> Int):=((List.range (j + 1)).filter fun i=>decide (i ≠ k)).map dl1
theorem Ej_van {j k:Nat} {x:Nat -> Int} (h:x ∈ Ej j k) {m:Nat} (hm:j < m):x m = 0:=by
 obtain ⟨i,hi,rfl⟩:=List.mem_map.mp h
 have:=List.mem_range.mp (List.mem_filter.mp hi).1
 exact if_neg (by walk_at "o")
theorem st_dl1:∀ n,st dl1 0 n = ((List.range n).reverse).map dl1
 | 0=>rfl
 | n + 1=>by
  rw [List.range_succ,List.reverse_append]
  show dl1 (0 + n) :: st dl1 0 n = dl1 n :: _
  rw [st_dl1 n,Nat.zero_add]
  rfl
theorem dt_unit (n:Nat):dt n (st dl1 0 n) = 1:=by
 have e:=dt_stair (g:=dl1) (c:=1) (d0:=0) (lo:=0) (X:=[]) (fun i=>by rw [Nat.zero_add]; exact if_pos rfl) (fun i k h=>if_neg (by walk_at "o")) (fun x hx=>by cases hx) n
 rw [List.append_nil,Int.one_pow,Nat.zero_add,Nat.zero_add] at e
 rw [e]
 rfl
theorem Ej_perm {j k:Nat} (h:k <= j):(dl1 k :: Ej j k).Perm (st dl1 0 (j + 1)):=by
 rw [st_dl1]
 show (List.map dl1 (k :: (List.range (j + 1)).filter fun i=>decide (i ≠ k))).Perm _
 refine List.Perm.map _ (List.Perm.trans ?_ (List.reverse_perm _).symm)
 have nd:(List.range (j + 1)).Nodup:=List.nodup_range
 have e:(List.range (j + 1)).filter (fun i=>decide (i ≠ k)) = (List.range (j + 1)).erase k:=by
  rw [nd.erase_eq_filter]
  congr 1
  funext i
  by_cases z:i = k
  ·simp [z]
  ·simp [z]
 rw [e]
 exact (List.perm_cons_erase (List.mem_range.mpr (by walk_at "o"))).symm
theorem dt_one {j k:Nat} {R:Nat -> Int} (h:k <= j):Pm (dt (j + 1) (R :: Ej j k)) (R k):=by
 have e:dt (j + 1) (R :: Ej j k) = R k * dt (j + 1) (dl1 k :: Ej j k):=by
  show wg (j + 1) R (dw (j + 1) (Ej j k)) (trs (j + 1)) = R k * wg (j + 1) (dl1 k) (dw (j + 1) (Ej j k)) (trs (j + 1))
  have e1:wg (j + 1) R (dw (j + 1) (Ej j k)) (trs (j + 1)) = wg (j + 1) (fun i=>sumN (fun a=>R a * dl1 a i) (j + 1)) (dw (j + 1) (Ej j k)) (trs (j + 1)):=wg_ext fun i hi=>by
   rw [sumN_one (j:=i) (j + 1) (fun a _ ha=>by rw [show dl1 a i = 0 from if_neg (fun z=>ha z.symm)]; walk_at "o") hi,show dl1 i i = 1 from if_pos rfl]
   walk_at "o"
  rw [e1,wg_places]
  refine sumN_one (j + 1) (fun i hi hn=>?_) (by walk_at "o")
  have z:dl1 i ∈ Ej j k:=List.mem_map.mpr ⟨i,List.mem_filter.mpr ⟨List.mem_range.mpr hi,decide_eq_true hn⟩,rfl⟩
  rw [dw_mem z]
  walk_at "o"
 rw [e]
 have p:=(dt_perm (M:=j + 1) (Ej_perm h)).mul (R k)
 rw [dt_unit,Int.mul_one] at p
 exact p
end L2
namespace L2
open PySem
def SR (f g:Nat -> Int) (a b j k:Nat):Int:=dt (a + b - j) (st (sh f) 0 (b - j) ++ (st (sh g) 0 (a - j) ++ Ej j k))
theorem sh_top {f:Nat -> Int} {a i:Nat}:sh f i (a + i) = f a:=by
 unfold sh
 rw [if_pos (by walk_at "o"),show a + i - i = a by walk_at "o"]
theorem sh_van {f:Nat -> Int} {a:Nat} (h:∀ k,a < k -> f k = 0) {i k:Nat} (hk:a + i < k):sh f i k = 0:=by
 unfold sh
 rw [if_pos (by walk_at "o")]
 exact h _ (by walk_at "o")
def cv (q g:Nat -> Int) (n k:Nat):Int:=sumN (fun t=>q t * sh g t k) n
theorem sh_sum {q g:Nat -> Int} {i n:Nat}:∀ k,sh (cv q g n) i k = sumN (fun t=>q t * sh g (i + t) k) n:=fun k=>by
 unfold sh
 by_cases h:i <= k
 ·rw [if_pos h]
  refine sumN_congr n fun t _=>?_
  show q t * (if t <= k - i then g (k - i - t) else 0) = q t * (if i + t <= k then g (k - (i + t)) else 0)
  by_cases z:t <= k - i
  ·rw [if_pos z,if_pos (by walk_at "o"),show k - i - t = k - (i + t) by walk_at "o"]
  ·rw [if_neg z,if_neg (by walk_at "o")]
 ·rw [if_neg h]
  refine (sumN_zero n fun t _=>?_).symm
  rw [if_neg (by walk_at "o")]
  exact Int.mul_zero _
theorem sr_rep {f g q r:Nat -> Int} {a b j k:Nat} {γ β:Int} (ab:b <= a) (jb:j <= b) (e:∀ k,γ * f k = cv q g (a - b + 1) k + β * r k) :
  γ ^ (b - j) * SR f g a b j k = β ^ (b - j) * dt (a + b - j) (st (sh r) 0 (b - j) ++ (st (sh g) 0 (a - j) ++ Ej j k)):=by
 refine dt_rep (b - j) fun i hi=>⟨fun k=>sumN (fun t=>q t * sh g (i + t) k) (a - b + 1),Spn.sum (g:=fun t=>sh g (i + t)) _ fun t ht=>List.mem_append_left _ ?_,fun k=>?_⟩
 ·have:=mem_st (g:=sh g) (lo:=0) (i:=i + t) (n:=a - j) (by walk_at "o")
  rwa [Nat.zero_add] at this
 ·show γ * sh f i k = β * sh r i k + sumN (fun t=>q t * sh g (i + t) k) (a - b + 1)
  rw [<- sh_sum]
  unfold sh
  by_cases h:i <= k
  ·rw [if_pos h,if_pos h,if_pos h,e]
   walk_at "o"
  ·rw [if_neg h,if_neg h,if_neg h]
   walk_at "o"
theorem sr_step {f g q r:Nat -> Int} {a b d j k:Nat} {γ β c:Int} (ab:b <= a) (db:d < b) (jd:j <= d) (hg:g b = c) (g0:∀ k,b < k -> g k = 0) (r0:∀ k,d < k -> r k = 0) (e:∀ k,γ * f k = cv q g (a - b + 1) k + β * r k) :
  Pm (γ ^ (b - j) * SR f g a b j k) (β ^ (b - j) * (c ^ (a - d) * SR g r b d j k)):=by
 rw [sr_rep ab (by walk_at "o") e]
 refine Pm.mul ?_ _
 have p:(st (sh r) 0 (b - j) ++ (st (sh g) 0 (a - j) ++ Ej j k)).Perm (st (sh g) (d - j) (a - d) ++ (st (sh g) 0 (d - j) ++ (st (sh r) 0 (b - j) ++ Ej j k))):=by
  have s:=st_app (sh g) 0 (d - j) (a - d)
  rw [show d - j + (a - d) = a - j by walk_at "o",Nat.zero_add] at s
  rw [s,<- List.append_assoc,<- List.append_assoc,<- List.append_assoc,<- List.append_assoc]
  refine List.Perm.append_right _ ?_
  rw [List.append_assoc,List.append_assoc]
  exact (List.perm_append_comm).trans (by rw [List.append_assoc])
 refine (dt_perm p).trans ?_
 rw [show a + b - j = b + (d - j) + (a - d) by walk_at "o",dt_stair (d0:=b) (c:=c) (fun i=>by rw [sh_top]; exact hg) (fun i k h=>sh_van g0 h) ?_ (a - d)]
 ·rw [show b + (d - j) = b + d - j by walk_at "o"]
  exact Pm.rfl'
 ·intro x hx k hk
  rcases List.mem_append.mp hx with z | z
  ·obtain ⟨i,hi,rfl⟩:=st_mem z
   exact sh_van g0 (by walk_at "o")
  ·rcases List.mem_append.mp z with z | z
   ·obtain ⟨i,hi,rfl⟩:=st_mem z
    exact sh_van r0 (by walk_at "o")
   ·exact Ej_van z (by walk_at "o")
theorem ipow1 (x:Int):x ^ 1 = x:=by rw [Int.pow_succ,Int.pow_zero,Int.one_mul]
theorem sr_rest {f g q r:Nat -> Int} {a b k:Nat} {c:Int} (ab:b <= a) (hb:1 <= b) (hk:k < b) (hg:g b = c) (hc:c ≠ 0) (g0:∀ k,b < k -> g k = 0) (r0:∀ k,b <= k -> r k = 0) (e:∀ k,c ^ (a - b + 1) * f k = cv q g (a - b + 1) k + r k) :
  Pm (SR f g a b (b - 1) k) (r k):=by
 refine Pm.of_mul (a:=c ^ (a - b + 1)) ?_ (Int.pow_ne_zero hc)
 have s:=sr_rep (j:=b - 1) (k:=k) (q:=q) (g:=g) (f:=f) (γ:=c ^ (a - b + 1)) (β:=1) ab (by walk_at "o") (r:=r) (fun k=>by rw [e k]; walk_at "o")
 rw [show b - (b - 1) = 1 by walk_at "o",ipow1,ipow1,Int.one_mul] at s
 rw [s,show a + b - (b - 1) = b + 0 + (a - b + 1) by walk_at "o",show a - (b - 1) = a - b + 1 by walk_at "o"]
 have p:(st (sh r) 0 1 ++ (st (sh g) 0 (a - b + 1) ++ Ej (b - 1) k)).Perm (st (sh g) 0 (a - b + 1) ++ (sh r 0 :: Ej (b - 1) k)):=by
  show (sh r (0 + 0) :: (st (sh g) 0 (a - b + 1) ++ Ej (b - 1) k)).Perm _
  exact List.perm_middle.symm
 refine (dt_perm p).trans ?_
 rw [dt_stair (d0:=b) (c:=c) (fun i=>by rw [sh_top]; exact hg) (fun i k h=>sh_van g0 h) ?_ (a - b + 1)]
 ·refine Pm.mul ?_ _
  have d:=dt_one (j:=b - 1) (k:=k) (R:=sh r 0) (by walk_at "o")
  rw [show b - 1 + 1 = b + 0 by walk_at "o"] at d
  refine d.trans (.inl ?_)
  show sh r 0 k = r k
  unfold sh
  rw [if_pos (by walk_at "o"),Nat.sub_zero]
 ·intro x hx m hm
  rcases List.mem_cons.mp hx with rfl | z
  ·unfold sh
   rw [if_pos (by walk_at "o")]
   exact r0 _ (by walk_at "o")
  ·exact Ej_van z (by walk_at "o")
theorem sr_high {f g:Nat -> Int} {a b:Nat} {c:Int} (ab:b < a) (hg:g b = c) (g0:∀ k,b < k -> g k = 0):Pm (SR f g a b b b) (c ^ (a - b)):=by
 unfold SR
 rw [show b - b = 0 by walk_at "o"]
 show Pm (dt (a + b - b) (st (sh g) 0 (a - b) ++ Ej b b)) _
 obtain ⟨n,hn⟩ : ∃ n,a - b = n + 1:=⟨a - b - 1,by walk_at "o"⟩
 have s:=st_app (sh g) 0 1 n
 rw [show 1 + n = n + 1 by walk_at "o"] at s
 rw [hn,s,show a + b - b = b + 1 + n by walk_at "o",List.append_assoc,dt_stair (d0:=b) (lo:=1) (c:=c) (fun i=>by rw [sh_top]; exact hg) (fun i k h=>sh_van g0 h) ?_ n]
 ·rw [Int.pow_succ]
  refine Pm.mul ?_ _
  have d:=dt_one (j:=b) (k:=b) (R:=sh g 0) (by walk_at "o")
  have e:sh g 0 b = c:=by
   unfold sh
   rw [if_pos (by walk_at "o"),Nat.sub_zero,hg]
  rw [e] at d
  exact d
 ·intro x hx m hm
  rcases List.mem_append.mp hx with z | z
  ·obtain ⟨i,hi,rfl⟩:=st_mem z
   exact sh_van g0 (by walk_at "o")
  ·exact Ej_van z (by walk_at "o")
theorem dw_abs {M C:Nat} (hM:1 <= M * C):∀ {rows:List (Nat -> Int)},(∀ r ∈ rows,∀ i,(r i).natAbs <= C) -> ∀ l,(dw M rows l).natAbs <= (M * C) ^ rows.length
 | [],_,l=>by
  show (one0 l).natAbs <= 1
  unfold one0
  split <;> decide
 | r :: rs,h,l=>by
  have ih:=dw_abs hM (fun x hx=>h x (List.mem_cons_of_mem _ hx))
  have:=wg_abs (h r List.mem_cons_self) M (dw M rs) l ih
  show (wg M r (dw M rs) l).natAbs <= (M * C) ^ (rs.length + 1)
  rw [Nat.pow_succ,Nat.mul_comm _ (M * C),Nat.mul_assoc]
  exact this
theorem st_len {g:Nat -> Nat -> Int} {lo:Nat}:∀ n,(st g lo n).length = n
 | 0=>rfl
 | n + 1=>by
  show (st g lo n).length + 1 = n + 1
  rw [st_len n]
theorem Ej_len {j k:Nat} (h:k <= j):(Ej j k).length = j:=by
 have:=(Ej_perm h).length_eq
 rw [st_len] at this
 simp at this
 exact this
theorem sh_abs {f:Nat -> Int} {C:Nat} (h:∀ i,(f i).natAbs <= C) (i k:Nat):(sh f i k).natAbs <= C:=by
 unfold sh
 split
 ·exact h _
 ·exact Nat.zero_le _
end L2
namespace L2
open PySem
theorem ipa (a:Int) (m n:Nat):a ^ (m + n) = a ^ m * a ^ n:=Int.pow_add a m n
theorem imp (a b:Int) (n:Nat):(a * b) ^ n = a ^ n * b ^ n:=Int.mul_pow
theorem ipm (a:Int) (m n:Nat):(a ^ m) ^ n = a ^ (m * n):=Int.pow_mul.symm
theorem pows {h h' c:Int} {e m:Nat} (H:h' * h ^ e = c ^ (e + 1)):h ^ ((e + 1) * (m + 1)) * c ^ (e + 1 + (m + 1)) * h' ^ m = c ^ ((e + 2) * (m + 1)) * h ^ (e + 1 + m):=by
 have k:h' ^ m * h ^ (e * m) = c ^ ((e + 1) * m):=by rw [<- ipm,<- imp,H,ipm]
 have e1:(e + 1) * (m + 1) = e * m + (e + 1 + m):=by simp only [Nat.mul_add,Nat.add_mul]; walk_at "o"
 have e2:(e + 2) * (m + 1) = (e + 1) * m + (e + 1 + (m + 1)):=by simp only [Nat.mul_add,Nat.add_mul]; walk_at "o"
 rw [e1,e2,ipa h,ipa c ((e + 1) * m),<- k]
 generalize h ^ (e * m) = u
 generalize h ^ (e + 1 + m) = v
 generalize c ^ (e + 1 + (m + 1)) = w
 generalize h' ^ m = z
 grind
structure SInv (S1:Nat -> Nat -> Int) (F G:Nat -> Int) (A B:Nat) (x h:Int):Prop where
 ba:B <= A
 x0:x ≠ 0
 h0:h ≠ 0
 one:A = B -> h = 1
 main:∀ j k,j <= B -> k <= j -> Pm (SR F G A B j k) (x ^ (B - j) * (h ^ (A - j - 1) * S1 j k))
theorem SInv.first {F G:Nat -> Int} {A B:Nat} (h:B <= A):SInv (SR F G A B) F G A B 1 1:=⟨h,by decide,by decide,fun _=>rfl,fun j k _ _=>.inl (by rw [Int.one_pow,Int.one_pow,Int.one_mul,Int.one_mul])⟩
section
variable {S1:Nat -> Nat -> Int} {F G q R r:Nat -> Int} {A B d:Nat} {x h c h':Int}
theorem SInv.rest (I:SInv S1 F G A B x h) (hg:G B = c) (hc:c ≠ 0) (g0:∀ k,B < k -> G k = 0) (r0:∀ k,B <= k -> R k = 0) (e:∀ k,c ^ (A - B + 1) * F k = cv q G (A - B + 1) k + R k) (k:Nat) (hk:k < B):Pm (R k) (x * h ^ (A - B) * S1 (B - 1) k):=by
 have s:=(sr_rest I.ba (by walk_at "o") hk hg hc g0 r0 e).symm.trans (I.main (B - 1) k (by walk_at "o") (by walk_at "o"))
 rw [show B - (B - 1) = 1 by walk_at "o",ipow1,show A - (B - 1) - 1 = A - B by have:=I.ba; walk_at "o",<- Int.mul_assoc] at s
 exact s
theorem SInv.high (I:SInv S1 F G A B x h) (hg:G B = c) (g0:∀ k,B < k -> G k = 0) (ab:B < A):Pm (c ^ (A - B)) (h ^ (A - B - 1) * S1 B B):=by
 have s:=(sr_high (f:=F) ab hg g0).symm.trans (I.main B B (by walk_at "o") (by walk_at "o"))
 rw [show B - B = 0 by walk_at "o",Int.pow_zero,Int.one_mul] at s
 exact s
theorem SInv.step (I:SInv S1 F G A B x h) (hg:G B = c) (hc:c ≠ 0) (g0:∀ k,B < k -> G k = 0) (e:∀ k,c ^ (A - B + 1) * F k = cv q G (A - B + 1) k + x * h ^ (A - B) * r k) (r0:∀ k,d < k -> r k = 0) (hd:d < B) (n0:h' ≠ 0) (hh:A = B /\ h' = h \/ B < A /\ h' * h ^ (A - B - 1) = c ^ (A - B)):SInv S1 G r B d c h':=by
 refine ⟨by walk_at "o",hc,n0,fun z=>by walk_at "o",fun j k hj hk=>?_⟩
 have ab:=I.ba
 have s:=sr_step (k:=k) I.ba hd hj hg g0 r0 e
 have m:=(I.main j k (by walk_at "o") hk).mul ((c ^ (A - B + 1)) ^ (B - j))
 have p:=s.symm.trans m
 refine Pm.of_mul (a:=(x * h ^ (A - B)) ^ (B - j) * c ^ (A - d)) ?_ (Int.mul_ne_zero (Int.pow_ne_zero (Int.mul_ne_zero I.x0 (Int.pow_ne_zero I.h0))) (Int.pow_ne_zero hc))
 rw [Int.mul_assoc]
 refine p.trans (.inl ?_)
 obtain ⟨n,hn⟩ : ∃ n,B - j = n + 1:=⟨B - j - 1,by walk_at "o"⟩
 rw [show B - j - 1 = n by walk_at "o",hn,imp,ipm,ipm,show A - j - 1 = A - B + n by walk_at "o"]
 have key:h ^ ((A - B) * (n + 1)) * c ^ (A - d) * (c ^ (d - j) * h' ^ n) = c ^ ((A - B + 1) * (n + 1)) * h ^ (A - B + n):=by
  have e1:c ^ (A - d) * c ^ (d - j) = c ^ (A - B + (n + 1)):=by rw [<- ipa]; congr 1; walk_at "o"
  rw [Int.mul_assoc,<- Int.mul_assoc (c ^ (A - d)),e1,<- Int.mul_assoc]
  rcases hh with ⟨z1,z2⟩ | ⟨z1,z2⟩
  ·have h1:=I.one z1
   rw [z2,h1,Int.one_pow,Int.one_pow,Int.one_pow,show A - B = 0 by walk_at "o",Int.one_mul,Int.mul_one,Int.mul_one]
   congr 1
   walk_at "o"
  ·obtain ⟨e',he⟩ : ∃ e',A - B = e' + 1:=⟨A - B - 1,by walk_at "o"⟩
   rw [show A - B - 1 = e' by walk_at "o",he] at z2
   rw [he]
   exact pows z2
 generalize h ^ ((A - B) * (n + 1)) = u at *
 generalize h ^ (A - B + n) = v at *
 generalize c ^ ((A - B + 1) * (n + 1)) = w at *
 generalize c ^ (A - d) = y at *
 generalize c ^ (d - j) = y' at *
 generalize h' ^ n = z at *
 generalize x ^ (n + 1) = t at *
 generalize S1 j k = S at *
 have k2:t * (u * y * (y' * z)) * S = t * (w * v) * S:=by rw [key]
 grind
end
end L2
namespace L2
open PySem
theorem pr_congr {f f' g:Nat -> Rat}:∀ n,(∀ i,i < n -> f i = f' i) -> ∀ k,pr f g n k = pr f' g n k
 | 0,_,_=>rfl
 | n + 1,h,k=>by
  show pr f g n k + (if n <= k then f n * g (k - n) else 0) = pr f' g n k + (if n <= k then f' n * g (k - n) else 0)
  rw [pr_congr n (fun i hi=>h i (by walk_at "o")) k,h n (by walk_at "o")]
theorem pr_scal {f g:Nat -> Rat} {c d:Rat}:∀ n k,pr (fun i=>c * f i) (fun i=>d * g i) n k = c * d * pr f g n k
 | 0,_=>by show (0:Rat) = c * d * 0; grind
 | n + 1,k=>by
  show pr _ _ n k + (if n <= k then c * f n * (d * g (k - n)) else 0) = c * d * (pr f g n k + if n <= k then f n * g (k - n) else 0)
  rw [pr_scal n k]
  split <;> grind
theorem rest_unique {q q' g r r':Nat -> Rat} {n n' d:Nat} (hg:∀ j,d < j -> g j = 0) (hd:g d ≠ 0) (hr:∀ k,d <= k -> r k = 0) (hr':∀ k,d <= k -> r' k = 0)
  (h:∀ k,pr q g n k + r k = pr q' g n' k + r' k):∀ k,r k = r' k :=
 (div_unique (q:=fun i=>if i < n then q i else 0) (q':=fun i=>if i < n' then q' i else 0) (n:=n) (n':=n') (fun i hi=>if_neg (by walk_at "o")) (fun i hi=>if_neg (by walk_at "o")) hg hd hr hr' fun k=>by
  rw [pr_congr n (f':=q) (fun i hi=>if_pos hi),pr_congr n' (f':=q') (fun i hi=>if_pos hi)]
  exact h k).2
end L2
namespace L2
open PySem
theorem cv_pz {q g:Nat -> Int} {k:Nat}:∀ n,cv q g n k = pz q g n k
 | 0=>rfl
 | n + 1=>by
  show cv q g n k + q n * sh g n k = pz q g n k + if n <= k then q n * g (k - n) else 0
  rw [cv_pz n]
  unfold sh
  split
  ·rfl
  ·rw [Int.mul_zero]
theorem Bt.pm {n:Nat} {x y:Int} (h:Bt n x) (p:Pm y x):Bt n y:=by
 unfold Bt at *
 rcases p with e | e <;> walk_at "o"
theorem Bt.pow {b:Nat} {x:Int} (h:Bt b x):∀ n,1 <= n -> Bt (b * n) (x ^ n)
 | 0,h0=>by walk_at "o"
 | 1,_=>by rw [ipow1,Nat.mul_one]; exact h
 | n + 2,_=>by
  rw [Int.pow_succ,Nat.mul_succ]
  exact (Bt.pow h (n + 1) (by walk_at "o")).mul h
theorem Bt.pow1 {b:Nat} {x:Int} (h:Bt b x) (n:Nat):Bt (b * n + 1) (x ^ n):=by
 cases n with
 | zero=>rw [Int.pow_zero]; exact Bt.mono (m:=1) (by decide) (by walk_at "o")
 | succ n=>exact (Bt.pow h (n + 1) (by walk_at "o")).mono (by walk_at "o")
section
variable {Z:Nat} {S1:Nat -> Nat -> Int} {F G q R:Nat -> Int} {A B:Nat} {x h:Int}
end
theorem pz_rat {q g:Nat -> Int} {n k:Nat}:((pz q g n k:Int):Rat) = pr (fun i=>(q i:Rat)) (fun i=>(g i:Rat)) n k:=by
 rw [pz_cast (F:=fun i=>(q i:Rat)) (G:=fun i=>(g i:Rat)) (c:=1) (d:=1) (fun i=>by grind) (fun i=>by grind)]
 grind
theorem Dv.stepQ {D L:Int} {ρ:Rat} {b c s l:Nat} {rs gs rs':List (Int × Int)} {G:Nat -> Int} (h:Dv D b rs) (hD:D ≠ 0) (hg:∀ k,cf gs k = ρ * (G k:Rat)) (bG:∀ k,Bt c (G k)) (hρ:ρ ≠ 0) (hL:G l = L) (hL0:L ≠ 0) {m:Nat}
  (e:∀ k,cf rs' k = cf rs k - (cf rs m / cf gs l) * (if k < s then 0 else cf gs (k - s))):Dv (D * L) (b + c + 1) rs':=by
 obtain ⟨F,h1,h2⟩:=h
 refine ⟨fun k=>F k * L - (if k < s then 0 else F m * G (k - s)),fun k=>?_,fun k=>?_⟩
 ·have n1:(D:Rat) ≠ 0:=cast_ne hD
  have n3:(L:Rat) ≠ 0:=cast_ne hL0
  show _ = ((F k * L - (if k < s then 0 else F m * G (k - s)):Int):Rat) / ((D * L:Int):Rat)
  rw [e k,h1 k,h1 m,hg l,hL]
  by_cases hk:k < s
  ·rw [if_pos hk,if_pos hk,Rat.intCast_sub,Rat.intCast_mul,Rat.intCast_mul]
   have c0:((0:Int):Rat) = 0:=rfl
   rw [c0]
   grind
  ·rw [if_neg hk,if_neg hk,hg,Rat.intCast_sub,Rat.intCast_mul,Rat.intCast_mul,Rat.intCast_mul]
   grind
 ·have b1:Bt (b + c) (F k * L):=(h2 k).mul (hL ▸ bG l)
  have b2:Bt (b + c) (if k < s then 0 else F m * G (k - s)):=by
   split
   ·exact bt_zero
   ·exact (h2 m).mul (bG _)
  unfold Bt at b1 b2 ⊢
  have e2:2 ^ (b + c + 1) = 2 * 2 ^ (b + c):=by rw [Nat.pow_succ]; walk_at "o"
  rw [e2]
  show (F k * L - (if k < s then 0 else F m * G (k - s))).natAbs < _
  walk_at "o"
end L2
namespace L2
open PySem
end L2
namespace L2
open PySem
end L2
namespace L2
open PySem PySem.Spec PyProof.Rows
theorem op_fdivQ {X:Cx} {k:Nat} {env:Env} {l:List Env} (N:Seer X.prog X.base) (hr:Room k X.A) (hst:X.stack = env :: l) (hgen:env.scope.isGenerator = false) (hco:env.scope.isCoroutine = false) (hb:env.builtins = builtinsNs) (hg:env.globals = mainGlobals) :
  OpR X (binaryOp .FloorDiv) (rI CNz fun i j=>.int (i.fdiv j)):=by
 intro pins s σ H x y v u Q I rx ry h
 obtain ⟨i,j,rfl,rfl,hc,q⟩:=h
 obtain ⟨t,rfl⟩:=rx
 obtain ⟨t',rfl⟩:=ry
 refine floordiv_int hc ⟨.int (i.fdiv j),H,I.tok _,⟨_,rfl⟩,q⟩ (.inr ?_)
 refine PySem.PylongRoom.of I.nolimit ?_ (PySem.SeerAt.of (N.seer.keeps I.bk) N.tree (I.ok.frames.trans (congrArg some hst)) hgen hco hb hg)
 have:=hr.dp
 show X.A.depth + 100 < recursionLimit
 walk_at "o"
theorem SR_abs8 {f g:Nat -> Int} {a b j k B:Nat} (ha:a <= 8) (hb:b <= a) (jb:j <= b) (kj:k <= j) (hB:1 <= B) (hf:∀ i,(f i).natAbs < 2 ^ B) (hg:∀ i,(g i).natAbs < 2 ^ B):(SR f g a b j k).natAbs < 2 ^ (65 + 16 * B):=by
 by_cases h0:a + b - j = 0
 ·have:SR f g a b j k = 1:=by
   unfold SR
   rw [h0,show b - j = 0 by walk_at "o",show a - j = 0 by walk_at "o"]
   have:Ej j k = []:=List.length_eq_zero_iff.mp (by rw [Ej_len kj]; walk_at "o")
   rw [show st (sh f) 0 0 ++ (st (sh g) 0 0 ++ Ej j k) = Ej j k from rfl,this]
   rfl
  rw [this]
  exact Nat.one_lt_two_pow (by walk_at "o")
 obtain ⟨C,hC⟩ : ∃ C,C = 2 ^ B:=⟨_,rfl⟩
 have c1:1 <= C:=hC ▸ Nat.one_le_two_pow
 have r:=dw_abs (M:=a + b - j) (C:=C) (rows:=st (sh f) 0 (b - j) ++ (st (sh g) 0 (a - j) ++ Ej j k)) (Nat.mul_pos (by walk_at "o") c1) (fun r hr i=>by
  rcases List.mem_append.mp hr with z | z
  ·obtain ⟨i',_,rfl⟩:=st_mem z
   exact sh_abs (fun i=>by have:=hf i; walk_at "o") _ _
  ·rcases List.mem_append.mp z with z | z
   ·obtain ⟨i',_,rfl⟩:=st_mem z
    exact sh_abs (fun i=>by have:=hg i; walk_at "o") _ _
   ·obtain ⟨i',_,rfl⟩:=List.mem_map.mp z
    unfold dl1
    split <;> simp <;> walk_at "o") (trs (a + b - j))
 have hl:(st (sh f) 0 (b - j) ++ (st (sh g) 0 (a - j) ++ Ej j k)).length = a + b - j:=by
  rw [List.length_append,List.length_append,st_len,st_len,Ej_len kj]
  walk_at "o"
 rw [hl] at r
 have e1:((a + b - j) * C) ^ (a + b - j) <= (16 * C) ^ 16:=Nat.le_trans (Nat.pow_le_pow_left (Nat.mul_le_mul_right _ (by walk_at "o")) _) (Nat.pow_le_pow_right (by walk_at "o") (by walk_at "o"))
 have e2:(16 * C) ^ 16 < 2 ^ (65 + 16 * B):=by
  rw [Nat.mul_pow,hC,<- Nat.pow_mul,Nat.pow_add,Nat.mul_comm B 16]
  exact Nat.mul_lt_mul_of_pos_right (by decide) Nat.one_le_two_pow
 unfold SR dt
 walk_at "o"
structure Gst8 (Z:Nat) (S1:Nat -> Nat -> Int) (F G:Nat -> Int) (A B:Nat) (x h:Int):Prop where
 inv:SInv S1 F G A B x h
 a6:A <= 8
 bS:∀ j k,j <= B -> k <= j -> Bt Z (S1 j k)
 bF:∀ k,Bt Z (F k)
 bG:∀ k,Bt Z (G k)
 bx:Bt Z x
 bh:Bt Z h
 g1:G B ≠ 0
 g0:∀ k,B < k -> G k = 0
 f0:∀ k,A < k -> F k = 0
theorem Gst8.first {F G:Nat -> Int} {A B b:Nat} (h:B <= A) (ha:A <= 8) (hb:1 <= b) (bF:∀ k,Bt b (F k)) (bG:∀ k,Bt b (G k)) (g1:G B ≠ 0) (g0:∀ k,B < k -> G k = 0) (f0:∀ k,A < k -> F k = 0):Gst8 (65 + 16 * b) (SR F G A B) F G A B 1 1 :=
 ⟨.first h,ha,fun j k hj hk=>SR_abs8 ha h hj hk hb bF bG,fun k=>(bF k).mono (by walk_at "o"),fun k=>(bG k).mono (by walk_at "o"),Bt.mono (m:=1) (by decide) (by walk_at "o"),Bt.mono (m:=1) (by decide) (by walk_at "o"),g1,g0,f0⟩
section
variable {Z:Nat} {S1:Nat -> Nat -> Int} {F G q R:Nat -> Int} {A B:Nat} {x h:Int}
theorem Gst8.rest (I:Gst8 Z S1 F G A B x h) (r0:∀ k,B <= k -> R k = 0) (e:∀ k,G B ^ (A - B + 1) * F k = pz q G (A - B + 1) k + R k) :
  ∃ (r:Nat -> Int) (h':Int),(∀ k,R k = x * h ^ (A - B) * r k) /\ (∀ k,Bt Z (r k)) /\ (∀ k,B <= k -> r k = 0) /\ h' ≠ 0 /\ Bt Z h' /\ (A = B /\ h' = h \/ B < A /\ h' * h ^ (A - B - 1) = G B ^ (A - B)) /\
   ∀ d,d < B -> r d ≠ 0 -> (∀ k,d < k -> r k = 0) -> Gst8 Z S1 G r B d (G B) h':=by
 have e':∀ k,G B ^ (A - B + 1) * F k = cv q G (A - B + 1) k + R k:=fun k=>by rw [cv_pz]; exact e k
 have dv:∀ k,∃ y:Int,R k = x * h ^ (A - B) * y /\ Bt Z y /\ (B <= k -> y = 0):=fun k=>by
  by_cases hk:k < B
  ·have p:=I.inv.rest rfl I.g1 I.g0 r0 e' k hk
   have b:=I.bS (B - 1) k (by walk_at "o") (by walk_at "o")
   rcases p with z | z
   ·exact ⟨_,z,b,fun _=>by walk_at "o"⟩
   ·exact ⟨- S1 (B - 1) k,by rw [z,Int.mul_neg],b.pm (.inr rfl),fun _=>by walk_at "o"⟩
  ·exact ⟨0,by rw [r0 k (by walk_at "o"),Int.mul_zero],bt_zero,fun _=>rfl⟩
 have hi:∃ h':Int,h' ≠ 0 /\ Bt Z h' /\ (A = B /\ h' = h \/ B < A /\ h' * h ^ (A - B - 1) = G B ^ (A - B)):=by
  by_cases ab:A = B
  ·exact ⟨h,I.inv.h0,I.bh,.inl ⟨ab,rfl⟩⟩
  ·have ba:=I.inv.ba
   have p:=I.inv.high rfl I.g0 (by walk_at "o")
   have b:=I.bS B B (by walk_at "o") (by walk_at "o")
   have nz:G B ^ (A - B) ≠ 0:=Int.pow_ne_zero I.g1
   rcases p with z | z
   ·exact ⟨S1 B B,fun y=>nz (by rw [z,y,Int.mul_zero]),b,.inr ⟨by walk_at "o",by rw [z,Int.mul_comm]⟩⟩
   ·exact ⟨- S1 B B,fun y=>nz (by rw [z,show S1 B B = 0 by walk_at "o",Int.mul_zero]; rfl),b.pm (.inr rfl),.inr ⟨by walk_at "o",by rw [z,Int.neg_mul,Int.mul_comm]⟩⟩
 obtain ⟨h',n0,bh',hh⟩:=hi
 refine ⟨fun k=>(dv k).choose,h',fun k=>(dv k).choose_spec.1,fun k=>(dv k).choose_spec.2.1,fun k hk=>(dv k).choose_spec.2.2 hk,n0,bh',hh,fun d hd rd rz=>?_⟩
 refine ⟨I.inv.step (q:=q) rfl I.g1 I.g0 (fun k=>?_) rz hd n0 hh,Nat.le_trans I.inv.ba I.a6,fun j k hj hk=>I.bS j k (by walk_at "o") hk,I.bG,fun k=>(dv k).choose_spec.2.1,I.bG B,bh',rd,rz,I.g0⟩
 rw [<- (dv k).choose_spec.1]
 exact e' k
end
def IntL9 (b:Nat) (ns:List Int):Prop:=ns.length <= 9 /\ (∀ x ∈ ns,Bt b x) /\ (ns ≠ [] -> nz ns (ns.length - 1) ≠ 0)
theorem IntL9.up {b c:Nat} {l:List Int} (h:IntL9 b l) (bc:b <= c):IntL9 c l:=⟨h.1,fun x hx=>(h.2.1 x hx).mono bc,h.2.2⟩
inductive Rst:List Int -> List Int -> List (List Int × List Int × Int × Int) -> Prop
 | nought {F:List Int}:Rst F [] []
 | last {F G Q:List Int} {S:Int}:G ≠ [] -> nz G (G.length - 1) ≠ 0 -> S ≠ 0 -> (∀ k,S * nz F k = pz (nz Q) (nz G) Q.length k) -> Rst F G []
 | more {F G R Q:List Int} {T S:Int} {rows:List (List Int × List Int × Int × Int)}:G ≠ [] -> nz G (G.length - 1) ≠ 0 -> S ≠ 0 -> T ≠ 0 -> R ≠ [] -> nz R (R.length - 1) ≠ 0 -> R.length < G.length -> (∀ k,S * nz F k = pz (nz Q) (nz G) Q.length k + T * nz R k) -> Rst G R rows -> Rst F G ((R,Q,T,S) :: rows)
end L2
namespace L2
open PySem PySem.Spec PyProof.Rows
inductive Chn:List (Int × Int) -> List (Int × Int) -> List (List (Int × Int)) -> Prop
 | nought {p:List (Int × Int)}:Chn p [] []
 | last {p q:List (Int × Int)} {u:Nat -> Rat} {n:Nat}:q ≠ [] -> (∀ k,cf p k = pr u (cf q) n k) -> Chn p q []
 | more {p q r:List (Int × Int)} {u:Nat -> Rat} {n:Nat} {rs:List (List (Int × Int))}:q ≠ [] -> r ≠ [] -> PolyOk r -> r.length < q.length -> (∀ k,cf p k = pr u (cf q) n k - cf r k) -> Chn q r rs -> Chn p q (r :: rs)
theorem poly_lead {q:List (Int × Int)} (h:PolyOk q) (n:q ≠ []):cf q (q.length - 1) ≠ 0:=by
 have hl:0 < q.length:=List.length_pos_iff.mpr n
 have e:q[q.length - 1]? = some (q[q.length - 1]'(by walk_at "o")):=List.getElem?_eq_getElem (by walk_at "o")
 rw [cf_some e]
 intro z
 refine h.2 _ (by rw [List.getLast?_eq_getElem?,e]) ?_
 exact (wv_zero (h.1 _ (List.getElem_mem _)).ne).mp z
def ab (a b:Rat):List (List Int × List Int × Int × Int) -> Nat -> Rat × Rat
 | _,0=>(a,b)
 | [],_ + 1=>(a,b)
 | row :: rows,n + 1=>ab b (-(a * (row.2.2.1:Rat)) / (row.2.2.2:Rat)) rows n
theorem ab_step {rows:List (List Int × List Int × Int × Int)} {row:List Int × List Int × Int × Int}:∀ {a b:Rat} {i:Nat},rows[i]? = some row -> ab a b rows (i + 1) = ((ab a b rows i).2,-((ab a b rows i).1 * (row.2.2.1:Rat)) / (row.2.2.2:Rat)):=by
 induction rows with
 | nil=>intro a b i h; cases h
 | cons x xs ih =>
  intro a b i h
  cases i with
  | zero =>
   cases h
   cases xs <;> rfl
  | succ i=>exact ih (a:=b) h
theorem Rst.chn {F G:List Int} {rows:List (List Int × List Int × Int × Int)} (h:Rst F G rows):∀ {p q:List (Int × Int)} {rs:List (List (Int × Int))} {a b:Rat},a ≠ 0 -> b ≠ 0 -> (∀ k,cf p k = a * (nz F k:Rat)) -> (∀ k,cf q k = b * (nz G k:Rat)) -> PolyOk q -> rs.length = rows.length -> (∀ (j:Nat) r row,rs[j]? = some r -> rows[j]? = some row -> PolyOk r /\ ∀ k,cf r k = (ab a b rows (j + 1)).2 * (nz row.1 k:Rat)) -> Chn p q rs:=by
 induction h with
 | @nought F =>
  intro p q rs a b a0 b0 hp hq oq l hr
  have:rs = []:=List.length_eq_zero_iff.mp l
  subst this
  have:q = []:=by
   by_cases z:q = []
   ·exact z
   ·have:=poly_lead oq z
    rw [hq,show nz [] (q.length - 1) = 0 from nz_out (by simp)] at this
    exact absurd (by show b * ((0:Int):Rat) = 0; grind) this
  subst this
  exact .nought
 | @last F G Q S g0 g1 s0 e =>
  intro p q rs a b a0 b0 hp hq oq l hr
  have:rs = []:=List.length_eq_zero_iff.mp l
  subst this
  have s0':(S:Rat) ≠ 0:=cast_ne s0
  have g1':((nz G (G.length - 1):Int):Rat) ≠ 0:=cast_ne g1
  have q0:q ≠ []:=fun z=>by
   subst z
   have:=hq (G.length - 1)
   rw [cf_nil] at this
   grind
  refine .last (u:=fun i=>a / ((S:Rat) * b) * (nz Q i:Rat)) (n:=Q.length) q0 fun k=>?_
  have e1:((S * nz F k:Int):Rat) = ((pz (nz Q) (nz G) Q.length k:Int):Rat):=by rw [e k]
  rw [pz_rat,Rat.intCast_mul] at e1
  rw [hp k,show cf q = (fun i=>b * (nz G i:Rat)) from funext hq,pr_scal,<- e1]
  grind
 | @more F G R Q T S rows g0 g1 s0 t0 r0 r1 lr e _ ih =>
  intro p q rs a b a0 b0 hp hq oq l hr
  cases rs with
  | nil=>cases l
  | cons r rs =>
  have s0':(S:Rat) ≠ 0:=cast_ne s0
  have t0':(T:Rat) ≠ 0:=cast_ne t0
  have g1':((nz G (G.length - 1):Int):Rat) ≠ 0:=cast_ne g1
  have r1':((nz R (R.length - 1):Int):Rat) ≠ 0:=cast_ne r1
  have q0:q ≠ []:=fun z=>by
   subst z
   have:=hq (G.length - 1)
   rw [cf_nil] at this
   grind
  obtain ⟨pr',er⟩:=hr 0 r _ rfl rfl
  have ec:∀ k,cf r k = -(a * (T:Rat)) / (S:Rat) * (nz R k:Rat):=fun k=>by
   rw [er k]
   cases rows <;> rfl
  have c0 : -(a * (T:Rat)) / (S:Rat) ≠ 0:=by
   intro z
   have:a * (T:Rat) = 0:=by grind
   rcases Rat.mul_eq_zero.mp this with y | y
   ·exact a0 y
   ·exact t0' y
  have r0':r ≠ []:=fun z=>by
   subst z
   have:=ec (R.length - 1)
   rw [cf_nil] at this
   grind
  have lq:G.length <= q.length:=by
   have gl:0 < G.length:=List.length_pos_iff.mpr g0
   by_cases z:G.length <= q.length
   ·exact z
   ·have:=hq (G.length - 1)
    rw [cf_none (by walk_at "o")] at this
    grind
  have lr':r.length <= R.length:=by
   have rl:0 < r.length:=List.length_pos_iff.mpr r0'
   by_cases z:r.length <= R.length
   ·exact z
   ·have:=poly_lead pr' r0'
    rw [ec,nz_out (by walk_at "o")] at this
    exact absurd (by show -(a * (T:Rat)) / (S:Rat) * ((0:Int):Rat) = 0; grind) this
  refine .more (u:=fun i=>a / ((S:Rat) * b) * (nz Q i:Rat)) (n:=Q.length) q0 r0' pr' (by walk_at "o") (fun k=>?_) (ih b0 c0 hq ec pr' (by simpa using l) fun j r' row h1 h2=>hr (j + 1) r' row h1 h2)
  have e1:((S * nz F k:Int):Rat) = ((pz (nz Q) (nz G) Q.length k + T * nz R k:Int):Rat):=by rw [e k]
  rw [Rat.intCast_add,pz_rat,Rat.intCast_mul,Rat.intCast_mul] at e1
  rw [hp k,ec k,show cf q = (fun i=>b * (nz G i:Rat)) from funext hq,pr_scal]
  have e2:pr (fun i=>(nz Q i:Rat)) (fun i=>(nz G i:Rat)) Q.length k = (S:Rat) * (nz F k:Rat) - (T:Rat) * (nz R k:Rat):=by grind
  rw [e2]
  grind
theorem Rst.ne {F G:List Int} {rows:List (List Int × List Int × Int × Int)} (h:Rst F G rows):∀ row ∈ rows,row.2.2.1 ≠ 0 /\ row.2.2.2 ≠ 0:=by
 induction h with
 | nought=>intro row h; cases h
 | last _ _ _ _=>intro row h; cases h
 | more _ _ s0 t0 _ _ _ _ _ ih =>
  intro row h
  rcases List.mem_cons.mp h with z | z
  ·subst z
   exact ⟨t0,s0⟩
  ·exact ih row z
theorem Rst.nil {F:List Int} {rows:List (List Int × List Int × Int × Int)} (h:Rst F [] rows):rows = []:=by
 cases h with
 | nought=>rfl
 | last n _ _ _=>exact absurd rfl n
 | more n _ _ _ _ _ _ _ _=>exact absurd rfl n
theorem lat_wv {p:Int × Int} {T S:Int} (p0:p.2 ≠ 0) (s0:S ≠ 0):wv (lo (-p.1 * T) (p.2 * S)) = -(wv p * (T:Rat)) / (S:Rat):=by
 have p2':(p.2:Rat) ≠ 0:=cast_ne p0
 have s2':(S:Rat) ≠ 0:=cast_ne s0
 rw [wv_lo (Int.mul_ne_zero p0 s0),Rat.intCast_mul,Rat.intCast_mul,Rat.intCast_neg]
 unfold wv
 generalize (p.1:Rat) = a at *
 generalize (p.2:Rat) = b at *
 generalize (S:Rat) = c at *
 generalize (T:Rat) = d at *
 rw [Rat.div_def,Rat.div_def,Rat.div_def,Rat.inv_mul_rev]
 grind
theorem lat_cf {q:Int × Int} {n:Int}:((q.1 * n:Int):Rat) / (q.2:Rat) = wv q * (n:Rat):=by
 rw [Rat.intCast_mul]
 unfold wv
 generalize (q.1:Rat) = a at *
 generalize (q.2:Rat) = b at *
 rw [Rat.div_def,Rat.div_def]
 grind
theorem one_over {c D:Rat} (D0:D ≠ 0):c = 1 / D * (c * D):=by grind
theorem one_over2 {c D k:Rat} (D0:D ≠ 0):k * c = 1 / D * (k * (c * D)):=by grind
theorem one_over0 {D:Rat} (D0:D ≠ 0):1 / D ≠ 0:=by
 intro z
 have:D * (1 / D) = 1:=by grind
 rw [z] at this
 grind
theorem Chn.next {p q r0:List (Int × Int)} {rem:List (List (Int × Int))} {u:Nat -> Rat} {n:Nat} (h:Chn p q rem) (hq:PolyOk q) (q0:q ≠ []) (l:r0.length < q.length) (e:∀ k,cf p k = pr u (cf q) n k + cf r0 k) :
  (rem = [] /\ ∀ k,cf r0 k = 0) \/ ∃ r rem',rem = r :: rem' /\ r ≠ [] /\ PolyOk r /\ r.length < q.length /\ (∀ k,cf r0 k = - cf r k) /\ Chn q r rem':=by
 have g1:=poly_lead hq q0
 have hl:0 < q.length:=List.length_pos_iff.mpr q0
 have z0:∀ k,q.length - 1 <= k -> cf r0 k = 0:=fun k hk=>cf_none (by walk_at "o")
 cases h with
 | nought=>exact absurd rfl q0
 | @last _ _ u' n' _ e' =>
  refine .inl ⟨rfl,rest_unique (q:=u) (q':=u') (g:=cf q) (r:=cf r0) (r':=fun _=>0) (n:=n) (n':=n') (d:=q.length - 1) (fun j hj=>cf_none (by walk_at "o")) g1 z0 (fun _ _=>rfl) fun k=>?_⟩
  have a:=e k
  have b:=e' k
  grind
 | @more _ _ r u' n' rs _ r0' pr' lr e' c =>
  refine .inr ⟨r,rs,rfl,r0',pr',lr,rest_unique (q:=u) (q':=u') (g:=cf q) (r:=cf r0) (r':=fun k=>- cf r k) (n:=n) (n':=n') (d:=q.length - 1) (fun j hj=>cf_none (by walk_at "o")) g1 z0 (fun k hk=>?_) fun k=>?_,c⟩
  ·show - cf r k = 0
   rw [cf_none (by walk_at "o")]
   rfl
  ·have a:=e k
   have b:=e' k
   grind
theorem Pb.dv {a:Nat} {qs:List (Int × Int)} (h:Pb a (cf qs)):∃ D:Int,D ≠ 0 /\ Bt a D /\ Dv D a qs:=by
 obtain ⟨D,h0,h1,h2⟩:=h
 exact ⟨D,h0,h1,fun k=>(h2 k).choose,fun k=>(h2 k).choose_spec.1,fun k=>(h2 k).choose_spec.2⟩
theorem Pb.sc {a:Nat} {qs:List (Int × Int)} (h:Pb a (cf qs)):∃ (ρ:Rat) (G:Nat -> Int),ρ ≠ 0 /\ (∀ k,cf qs k = ρ * (G k:Rat)) /\ ∀ k,Bt a (G k):=by
 obtain ⟨D,h0,h1,h2⟩:=h
 refine ⟨1 / (D:Rat),fun k=>(h2 k).choose,one_over0 (cast_ne h0),fun k=>?_,fun k=>(h2 k).choose_spec.2⟩
 have e:=(h2 k).choose_spec.1
 have d:=cast_ne h0
 rw [e]
 show ((h2 k).choose:Rat) / (D:Rat) = 1 / (D:Rat) * ((h2 k).choose:Rat)
 generalize (((h2 k).choose:Int):Rat) = x
 rw [Rat.div_def,Rat.div_def]
 grind
theorem Pb.neg {a:Nat} {f g:Nat -> Rat} (h:Pb a f) (e:∀ k,g k = - f k):Pb a g:=by
 obtain ⟨D,h0,h1,h2⟩:=h
 refine ⟨D,h0,h1,fun k=>?_⟩
 obtain ⟨n,e1,b1⟩:=h2 k
 refine ⟨-n,?_,?_⟩
 ·rw [e k,e1,Rat.intCast_neg,Rat.div_def,Rat.div_def]
  grind
 ·unfold Bt at *
  walk_at "o"
theorem Pb.slope {a:Nat} {fs gs:List (Int × Int)} (h:Pb a (cf fs)) (hl:fs.length <= 9) (e:∀ k,cf gs k = ((k + 1:Nat):Int) * cf fs (k + 1)):Pb (a + 4) (cf gs):=by
 obtain ⟨D,h0,h1,h2⟩:=h
 refine ⟨D,h0,h1.mono (by walk_at "o"),fun k=>?_⟩
 by_cases hk:k + 1 < 16
 ·obtain ⟨n,e1,b1⟩:=h2 (k + 1)
  refine ⟨((k + 1:Nat):Int) * n,?_,?_⟩
  ·rw [e k,e1,Rat.intCast_mul,Rat.div_def,Rat.div_def]
   grind
  ·have:Bt 4 ((k + 1:Nat):Int):=by
    show (((k + 1:Nat):Int)).natAbs < 2 ^ 4
    walk_at "o"
   exact (this.mul b1).mono (by walk_at "o")
 ·refine ⟨0,?_,bt_zero⟩
  rw [e k,cf_none (by walk_at "o")]
  have c0:((0:Int):Rat) = 0:=rfl
  rw [c0]
  have d:=cast_ne h0
  grind
end L2
namespace L2
open PySem PySem.Spec PyProof.Rows
section
variable {κ:Type} [DecidableEq κ]
def valV (kvs:List (κ × V)) (k:κ):Option V:=(kvs.find? fun kv=>decide (kv.1 = k)).map (·.2)
def putK (kvs:List (κ × V)) (k:κ) (v:V):List (κ × V) :=
 if (kvs.any fun kv=>decide (kv.1 = k)) = true then kvs.map (fun kv=>if kv.1 = k then (kv.1,v) else kv) else kvs ++ [(k,v)]
theorem valV_pos {p:κ × V} {r:List (κ × V)} {k:κ} (e:p.1 = k):valV (p :: r) k = some p.2:=by simp [valV,List.find?_cons,e]
theorem valV_neg {p:κ × V} {r:List (κ × V)} {k:κ} (e:¬ p.1 = k):valV (p :: r) k = valV r k:=by simp [valV,List.find?_cons,e]
theorem length_putK (kvs:List (κ × V)) (k:κ) (v:V):(putK kvs k v).length <= kvs.length + 1:=by
 unfold putK
 split
 ·rw [List.length_map]; walk_at "o"
 ·rw [List.length_append,List.length_cons,List.length_nil]; walk_at "o"
theorem KV.val {kvs:List (κ × V)} {vs:List (κ × Value)} (r:KV kvs vs) (k:κ):RelO (valV kvs k) (valueAt vs k):=by
 unfold KV at r
 induction r with
 | nil=>exact True.intro
 | @cons p q ps qs h t ih =>
  obtain ⟨h1,h2⟩:=h
  by_cases e:p.1 = k
  ·have e':q.1 = k:=h1.symm.trans e
   have b:valueAt (q :: qs) k = some q.2:=by simp [valueAt,List.find?_cons,e']
   rw [valV_pos e,b]; exact h2
  ·have e':¬ q.1 = k:=fun z=>e (h1.trans z)
   have b:valueAt (q :: qs) k = valueAt qs k:=by simp [valueAt,List.find?_cons,e']
   rw [valV_neg e,b]; exact ih
theorem KV.any {kvs:List (κ × V)} {vs:List (κ × Value)} (r:KV kvs vs) (k:κ):(kvs.any fun kv=>decide (kv.1 = k)) = vs.any fun kv=>decide (kv.1 = k):=by
 unfold KV at r
 induction r with
 | nil=>rfl
 | cons h t ih=>rw [List.any_cons,List.any_cons,ih,h.1]
theorem KV.repl {kvs:List (κ × V)} {vs:List (κ × Value)} (r:KV kvs vs) (k:κ) {y:V} {u:Value} (ry:RelV y u) :
  KV (kvs.map fun kv=>if kv.1 = k then (kv.1,y) else kv) (vs.map fun kv=>if kv.1 = k then (kv.1,u) else kv):=by
 unfold KV at r ⊢
 induction r with
 | nil=>exact .nil
 | @cons p q ps qs h t ih =>
  rw [List.map_cons,List.map_cons]
  refine .cons ?_ ih
  obtain ⟨h1,h2⟩:=h
  by_cases e:p.1 = k
  ·rw [if_pos e,if_pos (h1.symm.trans e)]; exact ⟨h1,ry⟩
  ·rw [if_neg e,if_neg (fun z=>e (h1.trans z))]; exact ⟨h1,h2⟩
theorem KV.put {kvs:List (κ × V)} {vs:List (κ × Value)} (r:KV kvs vs) (k:κ) {y:V} {u:Value} (ry:RelV y u):KV (putK kvs k y) (stored vs k u):=by
 unfold putK stored
 rw [r.any k]
 by_cases e:(vs.any fun kv=>decide (kv.1 = k)) = true
 ·rw [if_pos e,if_pos e]; exact r.repl k ry
 ·rw [if_neg e,if_neg e]; exact Paired.snoc r ⟨rfl,ry⟩
end
theorem kV_is {P:Program} {w:World} {k:Key} {u:Value} (r:RelV (kV k) u):(mixKind P w).is k u = true:=by
 cases k with
 | inl i=>obtain ⟨t,e⟩:=(show ∃ t,u = Value.int i t from r); subst e; exact mixKind_int P w i t
 | inr x=>obtain ⟨t,e⟩:=(show ∃ t,u = Value.str x t from r); subst e; exact mixKind_str P w x t
theorem items_are {P:Program} {w:World}:∀ {ks:List Key} {us:List Value},Vals (ks.map kV) us -> ItemsAre (mixKind P w) ks us
 | [],_,r=>by rw [List.map_nil] at r; cases r; exact .nil
 | k :: ks,_,r=>by
  rw [List.map_cons] at r
  cases r with
  | cons h t=>exact .cons (kV_is h) (items_are t)
abbrev KT (H:Hp):List (List Key × V) -> List (List Key × Addr × Value) -> Prop:=Paired fun p q=>p.1 = q.1 /\ H q.2.1 = some (.tup (p.1.map kV)) /\ RelV p.2 q.2.2
theorem KT.val {H:Hp} {kvs:List (List Key × V)} {xs:List (List Key × Addr × Value)} (r:KT H kvs xs) (k:List Key):RelO (valV kvs k) ((atKey xs k).map (·.2)):=by
 induction r with
 | nil=>exact True.intro
 | @cons p q ps qs h t ih =>
  obtain ⟨h1,_,h2⟩:=h
  by_cases e:p.1 = k
  ·have e':q.1 = k:=h1.symm.trans e
   have b:atKey (q :: qs) k = some q.2:=by simp [atKey,List.find?_cons,e']
   rw [valV_pos e,b]; exact h2
  ·have e':¬ q.1 = k:=fun z=>e (h1.trans z)
   have b:atKey (q :: qs) k = atKey qs k:=by simp [atKey,List.find?_cons,e']
   rw [valV_neg e,b]; exact ih
section
variable {P:Program} {w:World} {H:Hp} {h:Heap} {a:Addr}
theorem rd_of {u:HO} (ok:HOk P w H h) (e:Rd H a u):ObjOk P w H h a u:=e.ok ok
theorem dk_rd {kvs:List (Key × V)} (ok:HOk P w H h) (e:Rd H a (.dK kvs)):kvs.length <= sizeLine /\ (a == sysModules) = false /\ ∃ vs,KV kvs vs /\ h.DictOf (mixKind P w) a vs :=
 show ObjOk P w H h a (.dK kvs) from rd_of ok e
theorem dk_of {kvs:List (Key × V)} (ok:HOk P w H h) (e:H a = some (.dK kvs)):kvs.length <= sizeLine /\ (a == sysModules) = false /\ ∃ vs,KV kvs vs /\ h.DictOf (mixKind P w) a vs:=dk_rd ok (.inl e)
theorem key_of {ks:List Key} (ok:HOk P w H h) (e:H a = some (.tup (ks.map kV))):(tupleKind (mixKind P w)).is h ks a:=by
 obtain ⟨_,its,r,o,h1,h2,n,h3⟩:=(show ObjOk P w H h a (.tup (ks.map kV)) from ok a _ e)
 exact ⟨o,its.toArray,n,h1,h2,h3,by simpa using items_are r⟩
theorem dt_rd {kvs:List (List Key × V)} (ok:HOk P w H h) (e:Rd H a (.dT kvs)):kvs.length <= sizeLine /\ (a == sysModules) = false /\
  ∃ xs,KT H kvs xs /\ h.DictOfH (tupleKind (mixKind P w)) a xs:=by
 obtain ⟨z,y,xs,r,o,es,ep,h1,h2,h3,h4,h5⟩:=(show ObjOk P w H h a (.dT kvs) from rd_of ok e)
 refine ⟨z,y,xs,r,o,es,ep,h1,h2,h3,h4,fun x hx=>?_,h5⟩
 have all:∀ {l:List (List Key × V)} {m:List (List Key × Addr × Value)},KT H l m -> ∀ x ∈ m,(tupleKind (mixKind P w)).is h x.1 x.2.1:=by
  intro l m q
  induction q with
  | nil=>intro x hx; exact nomatch hx
  | @cons p q ps qs hq t ih =>
   intro x hx
   rcases List.mem_cons.mp hx with e | hx
   ·subst e
    exact key_of ok (by rw [<- hq.1]; exact hq.2.1)
   ·exact ih x hx
 exact all r x hx
end
def DGet (H:Hp) (a:Addr) (y:V) (r:Option V):Prop :=
 (∃ kvs k,Rd H a (.dK kvs) /\ y = kV k /\ r = valV kvs k) \/ ∃ kvs k b,Rd H a (.dT kvs) /\ y = .ref b /\ H b = some (.tup (k.map kV)) /\ r = valV kvs k
section
variable {X:Cx} {pins:List (Addr × Obj)} {σ:St} {H:Hp} {s:Shared} {a:Addr} {y v:V} {u r:Value} {o:Option V} {A:Around} {E:Value -> Shared -> Prop}
theorem d_getItem {Q:Value -> Shared -> Prop} (hu:A.units + 1 < cLine) (I:Inv X pins σ H s) (g:DGet H a y (some v)) (ry:RelV y u) (h:∀ w' s',Inv X pins σ H s' -> RelV v w' -> Q w' s') :
  wpAny (model X.prog X.w) A (getItem (.ref a) u) Q E s:=by
 rcases g with ⟨kvs,k,e,ey,l⟩ | ⟨kvs,k,b,e,ey,eb,l⟩
 ·subst ey
  obtain ⟨z,hd,vs,rel,dd⟩:=dk_rd I.hok e
  obtain ⟨w',hw,rw'⟩:=RelO.some_of (v:=v) (o:=valueAt vs k) (by rw [l]; exact rel.val k)
  exact wpAny_getItem_of (kV_is ry) dd.mapOf hw (h w' _ (I.tok _) rw')
 ·subst ey
  cases (show u = Value.ref b from ry)
  obtain ⟨z,hd,xs,rel,dd⟩:=dt_rd I.hok e
  obtain ⟨w',hw,rw'⟩:=RelO.some_of (v:=v) (o:=(atKey xs k).map (·.2)) (by rw [l]; exact rel.val k)
  obtain ⟨p,hp,hp2⟩:=Option.map_eq_some_iff.mp hw
  refine wpAny_getItem_heap (tupleKind_room_in1 hu) (key_of I.hok eb) dd hp ?_
  rw [hp2]
  exact h w' _ (I.tok _) rw'
theorem d_write {h':Heap} {t':Nat} {ob:HO} (I:Inv X pins σ H s) (mu:Mut (H a)) (hs:Heap.SameBut a s.heap h') (he:∃ q,h'.get? a = some q) (new:ObjOk X.prog X.w (upd H a ob) h' a ob) :
  Inv X pins σ (upd H a ob) { s with heap:=h',toks:=t' } :=
 I.write (x:=a) (e:=a) mu (.inl rfl) (fun b q hb z=>(hs.2 b hb).trans z) he new
theorem dk_new {P:Program} {w:World} {H':Hp} {h':Heap} {kvs:List (Key × V)} {vs:List (Key × Value)} (z:kvs.length <= sizeLine) (hd:(a == sysModules) = false) (rel:KV kvs vs) (dd:h'.DictOf (mixKind P w) a vs) :
  ObjOk P w H' h' a (.dK kvs):=⟨z,hd,vs,rel,dd⟩
end
section
variable {X:Cx} {pins:List (Addr × Obj)} {σ:St} {H:Hp} {s:Shared} {a:Addr} {kvs:List (Key × V)} {k:Key} {u:Value} {A:Around} {E:Value -> Shared -> Prop}
end
def NoSl (i:Expr):Prop:=∀ ov iv,subscripted i false ov iv = operate [ov,iv] (getItem ov iv)
theorem subD_of {prog:Program} {w:World} {A:Around} {E:Value -> Shared -> Prop} {s:Shared} {env:Env} {value slice:Expr} {pos:Pos} {T id:String} {Q:Value -> Shared -> Prop}
  (hl:typeLookup (.type T) "__getitem__" = pure (some (.builtin id))) (hs:NoSl slice)
  (h:wpAny (model prog w) A (eval value env) (fun o s₁=>wpAny (model prog w) A (eval slice env) (fun i s₂=>s₂.TypeIs o T /\ wpAny (model prog w) A (getItem o i) Q E s₂) E s₁) E s) :
  wpAny (model prog w) A (eval (.Subscript value slice pos) env) Q E s:=by
 refine Subscript_ (wpAny_mono h (fun o s₁ h₁=>wpAny_mono h₁ (fun i s₂ h₂=>?_) fun _ _ x=>x) fun _ _ x=>x)
 obtain ⟨hT,h₂⟩:=h₂
 unfold subscriptTail
 refine wpAny_bind ?_
 rw [getitemInPython_of_ne hT.not_modules]
 refine wpAny_bind (wpAny_specialOf hT hl ?_)
 have fin:wpAny (model prog w) A (subscripted slice false o i) (fun r s₃=>wpAny (model prog w) A (letTemporaryGo value o r >>= fun _=>pure r) Q E s₃) E s₂:=by
  rw [hs o i]
  exact wpAny_operating (wpAny_mono h₂ (fun r s₃ h₃=>wpAny_bind (wpAny_letTemporaryGo (wpAny_pure h₃))) fun _ _ x=>x)
 first
  | exact wpAny_pure (wpAny_bind fin)
  | exact wpAny_bind (wpAny_pure (wpAny_bind fin))
  | exact wpAny_bind fin
theorem dict_typeIs {X:Cx} {pins:List (Addr × Obj)} {σ:St} {H:Hp} {s:Shared} {a:Addr} {y:V} {o:Option V} (I:Inv X pins σ H s) (g:DGet H a y o):s.TypeIs (.ref a) "dict":=by
 rcases g with ⟨kvs,k,e,_,_⟩ | ⟨kvs,k,b,e,_,_,_⟩
 ·obtain ⟨_,_,vs,_,dd⟩:=dk_rd I.hok e
  exact dd.typeIs
 ·obtain ⟨_,_,xs,_,dd⟩:=dt_rd I.hok e
  exact dd.typeIs
section
variable {X:Cx} {o i e value:Expr} {pos pos' tpos:Pos} {td ty tv:TE}
end
section
variable {X:Cx} {pos:Pos}
end
def tPairs:List (TE × TE) -> St -> Hp -> (List (V × V) -> Hp -> Prop) -> Prop
 | [],_,H,Q=>Q [] H
 | (tk,tv) :: r,σ,H,Q=>tk σ H fun x H1=>tv σ H1 fun y H2=>tPairs r σ H2 fun ps H3=>Q ((x,y) :: ps) H3
abbrev VV:List (V × V) -> List (Value × Value) -> Prop:=Paired fun p q=>RelV p.1 q.1 /\ RelV p.2 q.2
def PPs (X:Cx) (pos:Pos) (keys:List (Option Expr)) (values:List Expr) (trs:List (TE × TE)):Prop :=
 ∀ (pins:List (Addr × Obj)) (s:Shared) (σ:St) (H:Hp) (Q:List (V × V) -> Hp -> Prop),Inv X pins σ H s -> tPairs trs σ H Q ->
  wpAny (model X.prog X.w) X.A (evalPairs (pairTrees keys values X.env pos)) (fun vs s'=>∃ ps H',Inv X pins σ H' s' /\ VV ps vs /\ Q ps H') X.xe s
theorem pps_nil {X:Cx} {pos:Pos}:PPs X pos [] [] []:=fun pins s σ H Q I h=>pairTrees_nil_walk ⟨[],H,I,.nil,h⟩
theorem pps_cons {X:Cx} {pos:Pos} {k v:Expr} {ks:List (Option Expr)} {vs:List Expr} {tk tv:TE} {trs:List (TE × TE)} (hk:PE X k tk) (hv:PE X v tv) (hr:PPs X pos ks vs trs) :
  PPs X pos (some k :: ks) (v :: vs) ((tk,tv) :: trs):=fun pins s σ H Q I h =>
 pairTrees_cons_walk (thn (hk pins s σ H _ I h) fun u s1 ⟨x,H1,I1,rx,q1⟩=>thn (hv pins s1 σ H1 _ I1 q1) fun w2 s2 ⟨y,H2,I2,ry,q2⟩ =>
  thn (hr pins s2 σ H2 _ I2 q2) fun ws s3 ⟨ps,H3,I3,rel,q3⟩=>⟨(x,y) :: ps,H3,I3,.cons ⟨rx,ry⟩ rel,q3⟩)
def mergeK (kvs more:List (Key × V)):List (Key × V):=more.foldl (fun acc kv=>putK acc kv.1 kv.2) kvs
theorem KV.merge:∀ {more:List (Key × V)} {rs:List (Key × Value)} {kvs:List (Key × V)} {vs:List (Key × Value)},KV more rs -> KV kvs vs -> KV (mergeK kvs more) (merged vs rs):=by
 intro more rs kvs vs r
 unfold KV at r
 induction r generalizing kvs vs with
 | nil=>intro q; exact q
 | @cons p q ps qs h t ih =>
  intro r0
  have e:KV (putK kvs p.1 p.2) (stored vs q.1 q.2):=by
   have:=r0.put p.1 h.2
   rw [<- h.1]; exact this
  exact ih e
theorem length_mergeK:∀ (more kvs:List (Key × V)),(mergeK kvs more).length <= kvs.length + more.length
 | [],kvs=>by show kvs.length <= kvs.length + 0; walk_at "o"
 | p :: r,kvs=>by
  have h1:=length_mergeK r (putK kvs p.1 p.2)
  have h2:=length_putK kvs p.1 p.2
  show (mergeK (putK kvs p.1 p.2) r).length <= _
  rw [List.length_cons]; walk_at "o"
theorem carries_of {P:Program} {w:World}:∀ {kvs:List (Key × V)} {ws:List (Value × Value)},VV (kvs.map fun kv=>(kV kv.1,kv.2)) ws -> ∃ rs,Carries (mixKind P w) ws rs /\ KV kvs rs
 | [],_,r=>by rw [List.map_nil] at r; cases r; exact ⟨[],True.intro,.nil⟩
 | p :: kvs,_,r=>by
  rw [List.map_cons] at r
  cases r with
  | @cons a b as bs h t =>
   obtain ⟨rs,c,q⟩:=carries_of (P:=P) (w:=w) t
   obtain ⟨b1,b2⟩:=b
   exact ⟨(p.1,b2) :: rs,⟨kV_is h.1,rfl,c⟩,.cons ⟨rfl,h.2⟩ q⟩
end L2
namespace L2
open PySem PySem.Spec PyProof.Rows
section
variable {prog:Program} {w:World} {A:Around} {R:Result -> Shared -> Prop} {s:Shared}
end
end L2
namespace L2
open PySem PySem.Spec PyProof.Rows
section
variable {X:Cx}
end
end L2
namespace L2
open PySem PySem.Spec PyProof.Rows
section
variable {X:Cx}
def tDispS (K:PySem.W.Frag) (trs:List (TE × TE)):TE:=fun σ H Q=>∀ p H1,vw K H p = none -> Same (vw K H) (vw K H1) -> vw K H1 p = some (.dK []) -> tPairs trs σ H1 fun ps H2=>vw K H2 p = some (.dK []) /\ ∃ kvs:List (Key × V),ps = kvs.map (fun kv=>(kV kv.1,kv.2)) /\ kvs.length <= 15 /\
 ∀ H3,But p (vw K H2) (vw K H3) -> vw K H3 p = some (.dK (mergeK [] kvs)) -> Q (.ref p) H3
structure QPs (X:Cx) (pos:Pos) (keys:List (Option Expr)) (values:List Expr) (trs:List (TE × TE)):Prop where
 h:PPs X pos keys values trs
theorem qps_nil {pos:Pos}:QPs X pos [] [] []:=⟨pps_nil⟩
theorem qps_cons {pos:Pos} {k v:Expr} {ks:List (Option Expr)} {vs:List Expr} {tk tv:TE} {trs:List (TE × TE)} (hk:QE X k tk) (hv:QE X v tv) (hr:QPs X pos ks vs trs):QPs X pos (some k :: ks) (v :: vs) ((tk,tv) :: trs):=⟨pps_cons hk.h hv.h hr.h⟩
theorem qe_disp {pos:Pos} {keys:List (Option Expr)} {values:List Expr} {trs:List (TE × TE)} (h:QPs X pos keys values trs) (hall:keys.all (·.isSome) = true) (hl:keys.length = values.length) (h0:keys ≠ [])
  (h15:keys.length <= 15):QE X (.Dict keys values pos) (tDispS X.K trs):=⟨by
 intro pins s σ H Q I q
 have hn:=I.hok.fresh (Nat.le_refl s.heap.objs.size)
 have hk:=I.newK (Nat.le_refl s.heap.objs.size)
 have I1:=I.laid (a:=s.heap.objs.size) (o:=.dK []) (h':=s.heap.push { cls:=.type "dict",data:=.dict #[] }) (t':=s.toks) (fun _ _ q=>Heap.get?_push_of_some _ q) (Nat.le_refl _) (dk_empty s.heap I.big)
 have q1:=q _ _ (by rw [vw_new hk]; exact hn) (vw_same (Same.upd (o:=.dK []) hn)) (by rw [vw_new hk]; exact upd_same)
 refine wpAny_Dict_walk (knd:=mixKind X.prog X.w) hall hl h0 h15 (thn (h.h pins _ σ _ _ I1 q1) fun ws s2 ⟨ps,H2,I2,rel,e,kvs,ep,lk,q2⟩=>?_)
 subst ep
 have e':H2 s.heap.objs.size = some (.dK []):=(vw_new hk).symm.trans e
 obtain ⟨rs,c,rk⟩:=carries_of (P:=X.prog) (w:=X.w) rel
 obtain ⟨z,hd,vs0,r0,dd⟩:=dk_of I2.hok e'
 cases r0
 refine ⟨rs,c,dd,fun h' dd' hs=>⟨.ref s.heap.objs.size,_,?_,rfl,q2 _ (vw_but But.upd) (by rw [vw_new hk]; exact upd_same)⟩⟩
 have hz:(mergeK [] kvs).length <= sizeLine:=by
  have h1:=length_mergeK kvs []
  rw [List.length_nil] at h1
  rw [sizeLine_eq]; walk_at "o"
 have he:∃ q,h'.get? s.heap.objs.size = some q:=let ⟨q,_,_,hq,_⟩:=dd'; ⟨q,hq⟩
 exact d_write I2 (by rw [e']; exact True.intro) hs he (dk_new hz hd (rk.merge .nil) dd')⟩
def tDGetS (K:PySem.W.Frag) (td ty:TE):TE:=fun σ H Q=>td σ H fun x H1=>ty σ H1 fun y H2=>∃ a,x = .ref a /\ ∃ kvs k,vw K H2 a = some (.dK kvs) /\ y = kV k /\ ∃ v,valV kvs k = some v /\ Q v H2
theorem qe_dget {o i:Expr} {pos:Pos} {td ty:TE} (hu:X.A.units + 64 < cLine) (ho:QE X o td) (hi:QE X i ty) (hs:NoSl i):QE X (.Subscript o i pos) (tDGetS X.K td ty):=⟨by
 intro pins s σ H Q I h
 refine subD_of PySem.F.slot_dict_getitem.lookup hs (thn (ho.h pins s σ H _ I h) fun u s1 ⟨x,H1,I1,rx,q1⟩=>thn (hi.h pins s1 σ H1 _ I1 q1) fun iv s2 ⟨y,H2,I2,ry,a,ex,kvs,k,ha,ey,v,hv,q2⟩=>?_)
 subst ex
 obtain rfl:u = Value.ref a:=rx
 have g:DGet H2 a y (some v):=.inl ⟨kvs,k,.inl (vw_get ha fun _ z=>by cases z),ey,hv.symm⟩
 exact ⟨dict_typeIs I2 g,d_getItem (by walk_at "o") I2 g ry fun w' s3 I3 rw'=>⟨v,H2,I3,rw',q2⟩⟩⟩
end
section
variable {P:Program} {w:World} {K:PySem.W.Frag} {mg:Str -> Option Value} {base:Heap}
end
end L2
set_option maxHeartbeats 8000000
namespace M
open PySem L2
def top (i:Nat):Stmt:=PySem.Challenge.pw_momentwright_k13_chains_told.main.body.getD i (.Pass ⟨0,0,0,0⟩)
abbrev s_greatest_divisor:Stmt:=top 12
theorem sc_greatest_divisor:FnScope ["one", "other"] ["one", "other"] (defScope s_greatest_divisor):=by walk_at "a3"
abbrev s_power:Stmt:=top 13
theorem sc_power:FnScope ["base", "many", "product", "turn"] ["base", "many"] (defScope s_power):=by walk_at "a3"
abbrev s_trimmed:Stmt:=top 14
theorem sc_trimmed:FnScope ["numbers", "zero", "many"] ["numbers", "zero"] (defScope s_trimmed):=by walk_at "a3"
abbrev s_wholes_slope:Stmt:=top 15
theorem sc_wholes_slope:FnScope ["wholes"] ["wholes"] (defScope s_wholes_slope):=by walk_at "a3"
abbrev s_wholes_parted:Stmt:=top 16
theorem sc_wholes_parted:FnScope ["one", "other", "last", "rest", "quotient", "scale", "place", "part", "k"] ["one", "other"] (defScope s_wholes_parted):=by walk_at "a3"
abbrev s_wholes_rests:Stmt:=top 17
theorem sc_wholes_rests:FnScope ["one", "other", "told", "lead", "height", "gap", "bottom", "quotient", "rest", "scale", "top", "lack"] ["one", "other"] (defScope s_wholes_rests):=by walk_at "a3"
abbrev s_ratio:Stmt:=top 19
theorem sc_ratio:FnScope ["top", "bottom", "divisor"] ["top", "bottom"] (defScope s_ratio):=by walk_at "a3"
abbrev s_times:Stmt:=top 20
theorem sc_times:FnScope ["one", "other"] ["one", "other"] (defScope s_times):=by walk_at "a3"
abbrev s_cleared:Stmt:=top 23
theorem sc_cleared:FnScope ["f", "bottom", "number"] ["f"] (defScope s_cleared):=by walk_at "a3"
abbrev s_divided:Stmt:=top 24
theorem sc_divided:FnScope ["wholes", "bottom"] ["wholes", "bottom"] (defScope s_divided):=by walk_at "a3"
abbrev s_slope:Stmt:=top 25
theorem sc_slope:FnScope ["f"] ["f"] (defScope s_slope):=by walk_at "a3"
abbrev s_refuse_nought:Stmt:=top 27
theorem sc_refuse_nought:FnScope ["f"] ["f"] (defScope s_refuse_nought):=by walk_at "a3"
abbrev s_chain:Stmt:=top 28
theorem sc_chain:FnScope ["f", "wholes", "bottom", "told", "former", "latter", "rest", "quotient", "top", "scale"] ["f"] (defScope s_chain):=by walk_at "a3"
abbrev zTcell_at:Stmt:=top 30
theorem zUcell_at:FnScope ["_law_script", "_law_k"] ["_law_script", "_law_k"] (defScope zTcell_at):=by walk_at "a3"
abbrev zTstate:Stmt:=top 31
theorem zUstate:FnScope ["_law_script", "_law_k", "_law_cell"] ["_law_script", "_law_k"] (defScope zTstate):=by walk_at "a3"
abbrev zTtake:Stmt:=top 32
theorem zUtake:FnScope ["_law_state_here", "_law_many", "_law_found", "_law_stirred"] ["_law_state_here", "_law_many"] (defScope zTtake):=by walk_at "a3"
abbrev zTdivisor:Stmt:=top 33
theorem zUdivisor:FnScope ["_law_one", "_law_other"] ["_law_one", "_law_other"] (defScope zTdivisor):=by walk_at "a3"
abbrev zTlow:Stmt:=top 34
theorem zUlow:FnScope ["_law_top", "_law_bottom", "_law_by"] ["_law_top", "_law_bottom"] (defScope zTlow):=by walk_at "a3"
abbrev zTsmall:Stmt:=top 35
theorem zUsmall:FnScope ["_law_state_here"] ["_law_state_here"] (defScope zTsmall):=by walk_at "a3"
abbrev zTclean:Stmt:=top 36
theorem zUclean:FnScope ["_law_numbers", "_law_many"] ["_law_numbers"] (defScope zTclean):=by walk_at "a3"
abbrev zTpolynomial:Stmt:=top 37
theorem zUpolynomial:FnScope ["_law_state_here", "_law_most"] ["_law_state_here", "_law_most"] (defScope zTpolynomial):=by walk_at "a3"
abbrev zTfactors:Stmt:=top 38
theorem zUfactors:FnScope ["_law_state_here", "_law_most", "_law_found", "_law_near", "_law_turn", "_law_number", "_law_kind", "_law_many", "_law_by"] ["_law_state_here", "_law_most"] (defScope zTfactors):=by walk_at "a3"
abbrev zTplus:Stmt:=top 39
theorem zUplus:FnScope ["_law_one", "_law_other"] ["_law_one", "_law_other"] (defScope zTplus):=by walk_at "a3"
abbrev zTtimes:Stmt:=top 40
theorem zUtimes:FnScope ["_law_one", "_law_other"] ["_law_one", "_law_other"] (defScope zTtimes):=by walk_at "a3"
abbrev zTmultiplied:Stmt:=top 41
theorem zUmultiplied:FnScope ["_law_f", "_law_g", "_law_found", "_law_i", "_law_j"] ["_law_f", "_law_g"] (defScope zTmultiplied):=by walk_at "a3"
abbrev zTof_factors:Stmt:=top 42
theorem zUof_factors:FnScope ["_law_factors_here", "_law_found", "_law_kind", "_law_number", "_law_many", "_law_lesser", "_law_one", "_law_turn"] ["_law_factors_here"] (defScope zTof_factors):=by walk_at "a3"
abbrev zTslope:Stmt:=top 43
theorem zUslope:FnScope ["_law_f"] ["_law_f"] (defScope zTslope):=by walk_at "a3"
abbrev zTsummed:Stmt:=top 44
theorem zUsummed:FnScope ["_law_f", "_law_g", "_law_by", "_law_found", "_law_place"] ["_law_f", "_law_g", "_law_by"] (defScope zTsummed):=by walk_at "a3"
abbrev zTover:Stmt:=top 45
theorem zUover:FnScope ["_law_one", "_law_other"] ["_law_one", "_law_other"] (defScope zTover):=by walk_at "a3"
abbrev zTparted:Stmt:=top 46
theorem zUparted:FnScope ["_law_f", "_law_g", "_law_rest", "_law_quotient", "_law_by", "_law_shift"] ["_law_f", "_law_g"] (defScope zTparted):=by walk_at "a3"
abbrev zTsame:Stmt:=top 47
theorem zUsame:FnScope ["_law_found", "_law_due_here"] ["_law_found", "_law_due_here"] (defScope zTsame):=by walk_at "a3"
abbrev zTrefused:Stmt:=top 48
theorem zUrefused:FnScope ["_law_call", "_law_error", "e", "_law_kinds"] ["_law_call"] (defScope zTrefused):=by walk_at "a3"
abbrev zTdue:Stmt:=top 49
theorem zUdue:FnScope ["_law_f", "_law_found", "_law_more"] ["_law_f"] (defScope zTdue):=by walk_at "a3"
abbrev s_law:Stmt:=top 50
theorem sc_law:FnScope ["_law_script", "_law_k", "_law_state_here", "_law_f", "_law_handed", "_law_found"] ["_law_script"] (defScope s_law):=by walk_at "a3"
structure Txt (K:PySem.W.Frag) (mg:Str -> Option Value):Prop where
 non:True
 g_ZERO:GT K mg "ZERO" [V.int (0),V.int (1)]
 b_abs:mg "abs" = none
 b_range:mg "range" = none
 b_len:mg "len" = none
 b_max:mg "max" = none
 b_list:mg "list" = none
 b_min:mg "min" = none
 b_isinstance:mg "isinstance" = none
 b_bool:mg "bool" = none
 b_tuple:mg "tuple" = none
 b_all:mg "all" = none
 b_zip:mg "zip" = none
 b_ValueError:mg "ValueError" = none
local macro_rules | `(tactic| walk_at "vc")=>`(tactic| try simp only [tSeq,tNever,tNext,tIfS,tRet,tRetN,tDrop,tAsg,tPar,tAug,gName,gTup,gCons,gNil,gSub,tVar,tC,tOp,tUn,tCal,tCB,tBM,tBM0,tCons,tNil,tTest,tB,tAnd,tOr,tNot,tAndV,tOrV,tNotV,tIf,rI,rI0,rU,rEq,rNe,rIxL,rIxT,scal,rMul_int,rMul_rep,rPlus_int,rPlus_cat,tTupS,tComp,tYes,outV,rEqD,rNil,id,tSl,tNoPart,tPart,rPopS,tLstS,tDctS,rSetS,rAppS,rSlS,cxOf_K,cxC_K,rIxH,rIxU,gTupH,atI_0,atI_1,atI_2,ixN_2_0,upd_same,HO.lst.injEq,HO.tup.injEq,TruV_bl,TruV_int,tFor_eq,iList,iTup,iRng1,iRng2,
 exists_eq_left,exists_eq_left',exists_and_left,exists_and_right,V.int.injEq,V.bl.injEq,V.ref.injEq,V.str.injEq,V.ty.injEq,List.cons.injEq,and_true,true_and,and_self,List.getElem?_cons_zero,List.getElem?_cons_succ,Option.some.injEq,List.set_cons_zero,List.set_cons_succ,reduceCtorEq,or_false,false_or,false_and,and_false,exists_false,exists_eq,exists_eq',and_assoc,List.length_cons,List.length_nil,L2.start,Option.join,Option.bind,List.map_cons,List.map_cons,List.map_nil,List.replicate_succ,List.replicate_zero,List.cons_append,List.nil_append,Nat.reduceSub,Nat.reduceAdd,Nat.zero_add,
 Bool.not_eq_true',decide_eq_false_iff_not,decide_eq_true_eq,ask_int,ask_bool,ask_list,ask_tuple,ne_eq,not_true_eq_false,not_false_eq_true,ite_true,ite_false,if_true,if_false,Bool.false_eq_true,Bool.not_true,Bool.not_false,Bool.true_eq_false])
local macro_rules | `(tactic| walk_at "vc*")=>`(tactic| try simp only [*,tSeq,tNever,tNext,tIfS,tRet,tRetN,tDrop,tAsg,tPar,tAug,gName,gTup,gCons,gNil,gSub,tVar,tC,tOp,tUn,tCal,tCB,tBM,tBM0,tCons,tNil,tTest,tB,tAnd,tOr,tNot,tAndV,tOrV,tNotV,tIf,rI,rI0,rU,rEq,rNe,rIxL,rIxT,scal,rMul_int,rMul_rep,rPlus_int,rPlus_cat,tTupS,tComp,tYes,outV,rEqD,rNil,id,tSl,tNoPart,tPart,rPopS,tLstS,tDctS,rSetS,rAppS,rSlS,cxOf_K,cxC_K,rIxH,rIxU,gTupH,atI_0,atI_1,atI_2,ixN_2_0,upd_same,HO.lst.injEq,HO.tup.injEq,TruV_bl,TruV_int,tFor_eq,iList,iTup,iRng1,iRng2,
 exists_eq_left,exists_eq_left',exists_and_left,exists_and_right,V.int.injEq,V.bl.injEq,V.ref.injEq,V.str.injEq,V.ty.injEq,List.cons.injEq,and_true,true_and,and_self,List.getElem?_cons_zero,List.getElem?_cons_succ,Option.some.injEq,List.set_cons_zero,List.set_cons_succ,reduceCtorEq,or_false,false_or,false_and,and_false,exists_false,exists_eq,exists_eq',and_assoc,List.length_cons,List.length_nil,L2.start,Option.join,Option.bind,List.map_cons,List.map_cons,List.map_nil,List.replicate_succ,List.replicate_zero,List.cons_append,List.nil_append,Nat.reduceSub,Nat.reduceAdd,Nat.zero_add,
 Bool.not_eq_true',decide_eq_false_iff_not,decide_eq_true_eq,ask_int,ask_bool,ask_list,ask_tuple,ne_eq,not_true_eq_false,not_false_eq_true,ite_true,ite_false,if_true,if_false,Bool.false_eq_true,Bool.not_true,Bool.not_false,Bool.true_eq_false])
section
variable {P:Program} {w:World} {K:PySem.W.Frag} {mg:Str -> Option Value} {base:Heap} {f:Addr} {fd:FuncData}
def sp_greatest_divisor (K:PySem.W.Frag):Sp:=fun vs H Q _=>∃ a b:Int,vs = [.int a,.int b] /\ Q (.int (Int.gcd a b)) H
theorem ok_greatest_divisor (F:Fun K "greatest_divisor" "greatest_divisor" s_greatest_divisor f fd) (T:Txt K mg):FnOk P w K mg base CX0 1 f fd ["one", "other"] (sp_greatest_divisor K):=by
 have scN:=sc_greatest_divisor.nd
 refine F.okQ sc_greatest_divisor (fun vs H Q E h=>?_) (fun cdv A outer s H vs Q E hr h=>?_)
 ·obtain ⟨a,b,rfl,_⟩:=h
  rfl
 ·obtain ⟨a,b,rfl,h⟩:=h
  refine ⟨_,(qss_cons (qs_par (i:=0) (j:=1) rfl scN rfl rfl (by decide) rfl rfl (qa_cons (qe_callB call_abs (by rfl) T.b_abs bt_abs (qa_cons (qv 0) qa_nil)) (qa_cons (qe_callB call_abs (by rfl) T.b_abs bt_abs (qa_cons (qv 1) qa_nil)) qa_nil)) rfl)
   (qss_cons (qs_while PassesOwn.never (qt_cmpR op_ne (qv 1) qe_int (nomark _)) (qss_one (qs_par (i:=0) (j:=1) rfl scN rfl rfl (by decide) rfl rfl (qa_cons (qv 1) (qa_cons (qe_op op_modX (qv 0) (qv 1)) qa_nil)) rfl)))
   (qss_one (qs_ret (qv 0))))),?_⟩
  walk_at "vc"
  refine ⟨fun m σ H'=>H' = H /\ ∃ x y:Int,σ = [some (.int x),some (.int y)] /\ Int.gcd x y = Int.gcd a b /\ 0 <= x /\ 0 <= y /\ m = y.natAbs,⟨_,rfl,_,_,rfl,?_,?_,?_,rfl⟩,?_⟩
  ·split <;> split <;> simp
  ·split <;> walk_at "o"
  ·split <;> walk_at "o"
  ·rintro m σ H' ⟨rfl,x,y,rfl,hg,hx,hy,rfl⟩
   walk_at "vc"
   refine ite2 (fun hy0=>?_) (fun hy0=>?_)
   ·refine ⟨_,fun σ' H' h=>h,?_⟩
    walk_at "vc"
    exact ⟨hy0,_,fmod_lt x hy0,by rw [gcd_fmod,hg],hy,Int.fmod_nonneg_of_pos x (by walk_at "o"),rfl⟩
   ·walk_at "vc"
    have e:((Int.gcd a b:Nat):Int) = x:=by
     rw [<- hg,show y = 0 by walk_at "o"]
     simp
     walk_at "o"
    rw [<- e]
    exact h
def sp_ratio (K:PySem.W.Frag):Sp:=fun vs H Q _=>∃ a b:Int,vs = [.int a,.int b] /\ b ≠ 0 /\ Bt 4000000 b /\ ∀ v H',Same (vw K H) (vw K H') -> Rep (vw K H') (fr (lo a b)) v -> Q v H'
theorem ok_ratio (F:Fun K "ratio" "ratio" s_ratio f fd) (T:Txt K mg) (N_:Seer P base) (C_greatest_divisor:Cal P w K mg base "greatest_divisor" ["one", "other"] 1 (sp_greatest_divisor K)):FnOk P w K mg base CX0 2 f fd ["top", "bottom"] (sp_ratio K):=by
 have scN:=sc_ratio.nd
 refine F.okQ sc_ratio (fun vs H Q E h=>?_) (fun cdv A outer s H vs Q E hr h=>?_)
 ·obtain ⟨a,b,rfl,_⟩:=h
  rfl
 ·obtain ⟨a,b,rfl,hb,hbb,h⟩:=h
  refine ⟨_,(qss_cons (qs_if (qt_cmpR op_eq (qv 1) qe_int (nomark _)) (qss_one qs_never) qss_nil)
   (qss_cons (qs_set (i:=2) scN rfl (by walk_at "a1") (qe_cal C_greatest_divisor (hr.mono (by walk_at "a2")) rfl (qa_cons (qv 0) (qa_cons (qv 1) qa_nil))))
   (qss_cons (qs_if (qt_cmpR op_lt (qv 1) qe_int (nomark _)) (qss_one (qs_set (i:=2) scN rfl (by walk_at "a1") (qe_un un_neg (qv 2)))) qss_nil)
   (qss_one (qs_ret (qe_tupS (qa_cons (qe_op (op_fdivP N_ hr rfl rfl rfl) (qv 0) (qv 2)) (qa_cons (qe_op (op_fdivP N_ hr rfl rfl rfl) (qv 1) (qv 2)) qa_nil)))))))),?_⟩
  walk_at "vc"
  simp only [sp_greatest_divisor]
  refine iteN hb ?_
  walk_at "vc"
  have hgn:Int.gcd a b ≠ 0:=fun e=>hb (Int.gcd_eq_zero_iff.mp e).2
  have e1:lg a b = if b < 0 then -(Int.gcd a b:Int) else (Int.gcd a b:Int):=rfl
  have d1:CNz a (-(Int.gcd a b:Int)):=by unfold CNz; walk_at "o"
  have d2:CNz a (Int.gcd a b:Int):=by unfold CNz; walk_at "o"
  refine ite2 (fun hn=>?_) (fun hn=>?_)
  ·rw [if_pos hn] at e1
   refine ⟨d1,d1,by decide,fun p H2 hp S hp2=>h _ H2 S ?_⟩
   rw [<- e1] at hp2
   exact rep_pair hp2
  ·rw [if_neg hn] at e1
   refine ⟨d2,d2,by decide,fun p H2 hp S hp2=>h _ H2 S ?_⟩
   rw [<- e1] at hp2
   exact rep_pair hp2
def sp_times (K:PySem.W.Frag):Sp:=fun vs H Q _=>∃ x y p q,vs = [x,y] /\ Rep (vw K H) (fr p) x /\ Rep (vw K H) (fr q) y /\ p.2 ≠ 0 /\ q.2 ≠ 0 /\ Bq 1000000 p /\ Bq 1000000 q /\ Bt 4000000 (p.2 * q.2) /\ ∀ v H',Same (vw K H) (vw K H') -> Rep (vw K H') (fr (mulq p q)) v -> Q v H'
theorem ok_times (F:Fun K "times" "times" s_times f fd) (T:Txt K mg) (C_ratio:Cal P w K mg base "ratio" ["top", "bottom"] 2 (sp_ratio K)):FnOk P w K mg base CX0 3 f fd ["one", "other"] (sp_times K):=by
 have scN:=sc_times.nd
 refine F.okQ sc_times (fun vs H Q E h=>?_) (fun cdv A outer s H vs Q E hr h=>?_)
 ·obtain ⟨_,_,_,_,rfl,_⟩:=h
  rfl
 ·obtain ⟨x,y,p,q,rfl,hx,hy,np,nq,bp,bq,bb,h⟩:=h
  refine ⟨_,(qss_one (qs_ret (qe_cal C_ratio (hr.mono (by walk_at "a2")) rfl (qa_cons (qe_op op_Mul (qe_ix ix_u (qv 0) qe_int (fun _ _=>rfl)) (qe_ix ix_u (qv 1) qe_int (fun _ _=>rfl))) (qa_cons (qe_op op_Mul (qe_ix ix_u (qv 0) qe_int (fun _ _=>rfl)) (qe_ix ix_u (qv 1) qe_int (fun _ _=>rfl))) qa_nil))))),?_⟩
  obtain ⟨a,rfl,ha⟩:=hx.fr_at
  obtain ⟨b,rfl,hb⟩:=hy.fr_at
  walk_at "vc*"
  simp only [sp_ratio]
  walk_at "vc*"
  exact ⟨mulOk bp.1 bq.1 (by decide),mulOk bp.2 bq.2 (by decide),Int.mul_ne_zero np nq,h⟩
def sp_cleared (K:PySem.W.Frag):Sp:=fun vs H Q _=>∃ (a:Addr) (qs:List (Int × Int)) (B:Nat),vs = [.ref a] /\ LsAt (vw K H) a qs /\ qs.length <= 40 /\ B <= 8000 /\ (∀ q ∈ qs,Fq q /\ Bq B q) /\
 ∀ p b H' (D:Int) (ns:List Int),Same (vw K H) (vw K H') -> vw K H' p = some (.tup [.ref b,.int D]) -> vw K H' b = some (.lst (ns.map V.int)) -> vw K H b = none -> 0 < D -> Bt (1 + qs.length * B) D -> ns.length = qs.length ->
  (∀ (i:Nat) (n:Int) (q:Int × Int),ns[i]? = some n -> qs[i]? = some q -> (n:Rat) = wv q * (D:Rat) /\ Bt (1 + qs.length * B + B) n) -> (∀ E:Int,(∀ q ∈ qs,q.2 ∣ E) -> D ∣ E) -> Q (.ref p) H'
theorem ok_cleared (F:Fun K "cleared" "cleared" s_cleared f fd) (T:Txt K mg) (C_greatest_divisor:Cal P w K mg base "greatest_divisor" ["one", "other"] 1 (sp_greatest_divisor K)):FnOk P w K mg base CX0 2 f fd ["f"] (sp_cleared K):=by
 have scN:=sc_cleared.nd
 refine F.okQ sc_cleared (fun vs H Q E h=>?_) (fun cdv A outer s H vs Q E hr h=>?_)
 ·obtain ⟨a,_,_,rfl,_⟩:=h
  rfl
 ·obtain ⟨a,qs,B,rfl,ha,hql,hB,hq,h⟩:=h
  refine ⟨_,(qss_cons (qs_set (i:=1) scN rfl (by walk_at "a1") qe_int)
   (qss_cons (qs_for PassesOwn.never rfl (qi_list (qv 0)) (qg_name (i:=2) scN rfl (by walk_at "a1")) (qss_one (qs_aug (i:=1) scN rfl (by walk_at "a1") (qe_op op_fdivX (qe_ix ix_u (qv 2) qe_int (fun _ _=>rfl)) (qe_cal C_greatest_divisor (hr.mono (by walk_at "a2")) rfl (qa_cons (qv 1) (qa_cons (qe_ix ix_u (qv 2) qe_int (fun _ _=>rfl)) qa_nil)))) ip_mulX)))
   (qss_one (qs_ret (qe_tupS (qa_cons (qe_comp (own:=["top", "own"]) (outs:=["bottom"]) (ixs:=[1]) rfl (qi_list (qv 0)) rfl ⟨rfl,rfl,rfl,⟨rfl,trivial⟩,rfl,⟨⟨rfl,rfl,rfl,_,rfl⟩,trivial⟩⟩ (fun _ _ _ _=>⟨(show QG _ _ (gTupH K 2 _) from qg_tupH (n:=2) rfl (qgs_cons (qg_name (i:=0) (show (["top", "own", "bottom"]:List Str).Nodup by decide +kernel) rfl (by walk_at "a1")) (qgs_cons (qg_name (i:=1) (show (["top", "own", "bottom"]:List Str).Nodup by decide +kernel) rfl (by walk_at "a1")) qgs_nil))),qf_nil,(qe_op (show OpR _ _ (rMul K) from op_Mul) (qv 0) (qe_op op_fdivX (qv 2) (qv 1)))⟩)) (qa_cons (qv 1) qa_nil))))))),?_⟩
  walk_at "vc"
  obtain ⟨xs,hxs,rxs⟩:=id ha
  have hlx:xs.length = qs.length:=by rw [rxs.length,List.length_map]
  have hLB:∀ i,i <= qs.length -> i * B <= 320000:=fun i hi=>Nat.le_trans (Nat.mul_le_mul (Nat.le_trans hi hql) hB) (by decide)
  refine ⟨⟨xs,.of (vw_lst hxs)⟩,?_⟩
  obtain ⟨Pv,hPv⟩ : ∃ Pv:Nat -> St -> Hp -> Prop,∀ i σ H',Pv i σ H' ↔ H' = H /\ ∃ b y,σ = [some (.ref a),some (.int b),y] /\ 0 < b /\ Bt (1 + i * B) b /\ (∀ q ∈ qs.take i,q.2 ∣ b) /\ ∀ E:Int,(∀ q ∈ qs.take i,q.2 ∣ E) -> b ∣ E:=⟨_,fun _ _ _=>Iff.rfl⟩
  refine for_items (its:=xs) Pv (fun i σ H' _ p=>?_) ((hPv _ _ _).mpr ⟨rfl,_,_,rfl,by decide,by rw [Nat.zero_mul]; decide,(by simp),fun E _=>Int.one_dvd E⟩) (fun i x σ H1 hi hx pv=>?_) (fun σ H1 pv=>?_)
  ·obtain ⟨rfl,_⟩:=(hPv _ _ _).mp p
   exact items_list hxs
  ·obtain ⟨rfl,b,y,rfl,hb,bb,hd,hm⟩:=(hPv _ _ _).mp pv
   have hi':i < qs.length:=by walk_at "o"
   obtain ⟨d,e,r⟩:=rxs.get hx
   rw [List.getElem?_map,List.getElem?_eq_getElem hi'] at e
   cases e
   obtain ⟨p,rfl,hp⟩:=r.fr_at
   obtain ⟨fq,bq⟩:=hq qs[i] (List.getElem_mem hi')
   obtain ⟨l1,l2,l3,l4,l5⟩:=lcm_step hb fq.1
   walk_at "vc"
   simp only [sp_greatest_divisor]
   walk_at "vc"
   refine ⟨_,hp,_,atI_1,_,hp,_,atI_1,_,rfl,?_⟩
   walk_at "vc"
   have hgb:Bt B (Int.gcd b qs[i].2:Int):=bq.2.le (by walk_at "o") l5
   have hcb:Bt B (qs[i].2.fdiv (Int.gcd b qs[i].2:Int)):=bq.2.le (by walk_at "o") l2
   have:=hLB i (by walk_at "o")
   refine ⟨divX l4 (hgb.mono (by walk_at "o")),mulOk bb hcb (by walk_at "o"),(hPv _ _ _).mpr ⟨rfl,_,_,rfl,Int.mul_pos hb l1,(bb.mul hcb).mono (by rw [Nat.add_mul]; walk_at "o"),fun q hq'=>?_,fun E hE=>?_⟩⟩
   ·rw [List.take_add_one,List.getElem?_eq_getElem hi'] at hq'
    rcases List.mem_append.mp hq' with z | z
    ·exact Int.dvd_trans (hd q z) (Int.dvd_mul_right _ _)
    ·cases List.mem_singleton.mp z
     exact l3
   ·rw [List.take_add_one,List.getElem?_eq_getElem hi'] at hE
    exact lcm_min hb fq.1 (hm E fun q z=>hE q (List.mem_append.mpr (.inl z))) (hE _ (List.mem_append.mpr (.inr (List.mem_singleton.mpr rfl))))
  ·obtain ⟨rfl,D,y,rfl,hD,bD,hd,hmin⟩:=(hPv _ _ _).mp pv
   rw [hlx] at bD hd hmin
   rw [List.take_length] at hd hmin
   have hLBq:=hLB qs.length (Nat.le_refl _)
   walk_at "vc"
   refine ⟨⟨xs,.of (vw_lst hxs)⟩,fun c H2 hc S2 h2=>?_⟩
   refine comp_pairs (its:=xs) (ps:=qs.map fun q=>(V.int q.1,V.int q.2)) (fun i ys H'=>Same (vw K H1) (vw K H') /\ ys = (qs.take i).map fun q=>V.int (q.1 * D.fdiv q.2)) (by rw [List.length_map]; exact hlx) (fun i ys H' _ _ p=>⟨items_list (p.1 _ _ hxs),fun j u v e=>?_⟩) h2 ⟨S2,rfl⟩ (fun i u v ys H' hi huv h' p=>?_) (fun ys H' h' p=>?_)
   ·rw [List.getElem?_map] at e
    cases e2:qs[j]? with
    | none=>rw [e2] at e; cases e
    | some q =>
     rw [e2] at e
     cases e
     obtain ⟨x,e3,r⟩:=rxs.at (i:=j) (d:=fr q) (by rw [List.getElem?_map,e2]; rfl)
     obtain ⟨p2,rfl,hp2⟩:=r.fr_at
     exact ⟨p2,e3,p.1 _ _ hp2⟩
   ·obtain ⟨S',rfl⟩:=p
    rw [List.length_map] at hi
    rw [List.getElem?_map,List.getElem?_eq_getElem hi] at huv
    cases huv
    obtain ⟨fq,bq⟩:=hq qs[i] (List.getElem_mem hi)
    obtain ⟨c1,c2,c3⟩:=clear_at fq (hd qs[i] (List.getElem_mem hi)) hD bD bq.1
    walk_at "vc"
    refine ⟨divX (by have:=fq.1; walk_at "o") (bq.2.mono (by walk_at "o")),mulOk bq.1 c3 (by walk_at "o"),.mk2 h' ?_ fun H5 B5 h5=>⟨fun b o e=>B5 _ _ (ne_of_none e hc) (S' _ _ e),?_⟩⟩
    ·rw [List.length_map,List.length_take]
     have:1000 <= sizeLine:=by decide
     walk_at "o"
    ·rw [List.take_add_one,List.getElem?_eq_getElem hi,List.map_append]
     rfl
   ·obtain ⟨S',rfl⟩:=p
    rw [List.length_map,List.take_length] at h'
    walk_at "vc"
    refine ⟨by decide,fun p5 H5 hp5 S5 h5=>h p5 c H5 D (qs.map fun q=>q.1 * D.fdiv q.2) (S'.trans S5) h5 (by rw [List.map_map]; exact S5 _ _ h') hc hD bD (by rw [List.length_map]) (fun i n q e1 e2=>?_) hmin⟩
    rw [List.getElem?_map,e2] at e1
    cases e1
    have hm:=List.mem_of_getElem? e2
    obtain ⟨fq,bq⟩:=hq q hm
    obtain ⟨c1,c2,c3⟩:=clear_at fq (hd q hm) hD bD bq.1
    exact ⟨c1,c2⟩
def spZ_trimmed (K:PySem.W.Frag):Sp:=fun vs H Q _=>∃ (a:Addr) (ns:List Int),vs = [.ref a,.int 0] /\ vw K H a = some (.lst (ns.map V.int)) /\
 ∀ b H' (ms:List Int),Same (vw K H) (vw K H') -> vw K H' b = some (.lst (ms.map V.int)) -> vw K H b = none -> (∀ k,nz ms k = nz ns k) -> ms.length <= ns.length -> (ms.length ≠ 0 -> nz ms (ms.length - 1) ≠ 0) -> Q (.ref b) H'
def sp_trimmed (K:PySem.W.Frag):Sp:=fun vs H Q E=>(∃ (a z:Addr) (qs:List (Int × Int)),vs = [.ref a,.ref z] /\ LsAt (vw K H) a qs /\ vw K H z = some (.tup [.int 0,.int 1]) /\ (∀ q ∈ qs,Fq q) /\
 ∀ b H' (rs:List (Int × Int)),Same (vw K H) (vw K H') -> LsAt (vw K H') b rs -> vw K H b = none -> PolyOk rs -> (∀ k,cf rs k = cf qs k) -> rs.length <= qs.length -> (∀ q ∈ rs,q ∈ qs) -> Q (.ref b) H') \/ spZ_trimmed K vs H Q E
theorem ok_trimmed (F:Fun K "trimmed" "trimmed" s_trimmed f fd) (T:Txt K mg):FnOk P w K mg base CX0 1 f fd ["numbers", "zero"] (sp_trimmed K):=by
 have scN:=sc_trimmed.nd
 refine F.okQ sc_trimmed (fun vs H Q E h=>?_) (fun cdv A outer s H vs Q E hr h=>?_)
 ·rcases h with ⟨a,_,_,rfl,_⟩ | ⟨a,_,rfl,_⟩ <;> rfl
 rcases h with ⟨a,z,qs,rfl,ha,hz,hF,h⟩ | ⟨a,ns,rfl,ha,h⟩
 ·skip
  refine ⟨_,(qss_cons (qs_set (i:=2) scN rfl (by walk_at "a1") (qe_callB call_lenH (by rfl) T.b_len bt_len (qa_cons (qv 0) qa_nil)))
   (qss_cons (qs_while PassesOwn.never (QW.pt (qw_and (qt_cmpR op_gt (qv 2) qe_int (nomark _)) (qw_and1 (qt_cmpR (op_eqD hr.u64) (qe_ix ix_h (qv 0) (qe_op op_sub (qv 2) qe_int) (fun _ _=>rfl)) (qv 1) (nomark _))))) (qss_one (qs_aug (i:=2) scN rfl (by walk_at "a1") qe_int ip_sub)))
   (qss_one (qs_ret (qe_slice sl_listS (qv 0) qo_none (qo_some (qv 2))))))),?_⟩
  walk_at "vc"
  refine ⟨_,ha.len,fun m σ H'=>H' = H /\ m <= qs.length /\ (∀ q ∈ qs.drop m,q.1 = 0) /\ σ = [some (.ref a),some (.ref z),some (.int m)],⟨_,rfl,Nat.le_refl _,by simp,rfl⟩,?_⟩
  rintro k σ H' ⟨rfl,hk,hdr,rfl⟩
  obtain ⟨xs,hax,rx⟩:=ha
  have hlx:xs.length = qs.length:=by rw [rx.length,List.length_map]
  have fin:(∀ q,(qs.take k).getLast? = some q -> q.1 ≠ 0) -> Nw K H' (HO.lst (cutV xs none (some (k:Int)))) Q:=fun hq p H2 hp S2 h2=>by
   rw [cut_to (by walk_at "o")] at h2
   refine h p H2 (qs.take k) S2 ⟨_,h2,?_⟩ hp ⟨fun q hq'=>hF q (List.mem_of_mem_take hq'),hq⟩ (cf_take hF hdr) (by rw [List.length_take]; walk_at "o") fun q hq'=>List.mem_of_mem_take hq'
   rw [List.map_take]
   exact (rx.take k).same S2
  walk_at "vc"
  refine ite2 (fun h0=>?_) (fun h0=>?_)
  ·have hk1:k - 1 < qs.length:=by walk_at "o"
   obtain ⟨x,hx,r⟩:=rx.at (i:=k - 1) (d:=fr qs[k - 1]) (by rw [List.getElem?_map,List.getElem?_eq_getElem hk1]; rfl)
   have e1:((k:Int) - 1) = ((k - 1:Nat):Int):=by walk_at "o"
   have fq:=hF qs[k - 1] (List.getElem_mem hk1)
   refine ⟨_,hax,_,by rw [e1]; exact atI_nat hx,_,r,fr (0,1),rep_pair hz,cmp_fr _,cmp_fr _,?_⟩
   rw [peq_fr]
   refine ite2 (fun hq=>?_) (fun hq=>?_)
   ·have hq0:qs[k - 1].1 = 0:=(Fq_zero fq).mp (of_decide_eq_true hq)
    refine ⟨_,fun σ' H'' z=>z,?_⟩
    refine ⟨_,_,rfl,rfl,k - 1,by walk_at "o",rfl,by walk_at "o",fun q' hq'=>?_,by rw [<- e1]⟩
    rw [List.drop_eq_getElem_cons hk1,show k - 1 + 1 = k by walk_at "o"] at hq'
    rcases List.mem_cons.mp hq' with z | z
    ·rw [z]
     exact hq0
    ·exact hdr q' z
   ·refine ⟨_,hax,fin fun q hq2=>?_⟩
    have:(qs.take k).getLast? = some qs[k - 1]:=by
     rw [List.getLast?_eq_getElem?,List.length_take,List.getElem?_take]
     rw [if_pos (by walk_at "o"),show min k qs.length - 1 = k - 1 by walk_at "o",List.getElem?_eq_getElem hk1]
    rw [this] at hq2
    cases hq2
    exact fun e=>hq (decide_eq_true ((Fq_zero fq).mpr e))
  ·refine ⟨_,hax,fin fun q hq=>?_⟩
   rw [show k = 0 by walk_at "o"] at hq
   cases hq
 ·refine ⟨_,(qss_cons (qs_set (i:=2) scN rfl (by walk_at "a1") (qe_callB call_lenH (by rfl) T.b_len bt_len (qa_cons (qv 0) qa_nil)))
   (qss_cons (qs_while PassesOwn.never (QW.pt (qw_and (qt_cmpR op_gt (qv 2) qe_int (nomark _)) (qw_and1 (qt_cmpR (op_eqD hr.u64) (qe_ix ix_h (qv 0) (qe_op op_sub (qv 2) qe_int) (fun _ _=>rfl)) (qv 1) (nomark _))))) (qss_one (qs_aug (i:=2) scN rfl (by walk_at "a1") qe_int ip_sub)))
   (qss_one (qs_ret (qe_slice sl_listS (qv 0) qo_none (qo_some (qv 2))))))),?_⟩
  walk_at "vc"
  have hln:lenH (vw K H) a = some ns.length:=by simp only [lenH,ha,List.length_map]
  refine ⟨_,hln,fun m σ H'=>H' = H /\ m <= ns.length /\ (∀ q ∈ ns.drop m,q = 0) /\ σ = [some (.ref a),some (.int 0),some (.int m)],⟨_,rfl,Nat.le_refl _,by simp,rfl⟩,?_⟩
  rintro k σ H' ⟨rfl,hk,hdr,rfl⟩
  have fin:(k ≠ 0 -> nz ns (k - 1) ≠ 0) -> Nw K H' (HO.lst (cutV (ns.map V.int) none (some (k:Int)))) Q:=fun hz p H2 hp S2 h2=>by
   rw [cut_to (by simpa using hk),<- List.map_take] at h2
   exact h p H2 (ns.take k) S2 h2 hp (nz_take hdr) (by rw [List.length_take]; walk_at "o") (by rw [List.length_take,Nat.min_eq_left hk,nz_take hdr]; exact hz)
  walk_at "vc"
  refine ite2 (fun h0=>?_) (fun h0=>?_)
  ·have hk1:k - 1 < ns.length:=by walk_at "o"
   have e1:((k:Int) - 1) = ((k - 1:Nat):Int):=by walk_at "o"
   have hx:(ns.map V.int)[k - 1]? = some (V.int ns[k - 1]):=by rw [List.getElem?_map,List.getElem?_eq_getElem hk1]; rfl
   refine ⟨_,ha,_,by rw [e1]; exact atI_nat hx,_,.mk_int _,.int 0,.mk_int _,cmp_int _,cmp_int _,?_⟩
   rw [peq_int]
   refine ite2 (fun hq=>?_) (fun hq=>?_)
   ·have hq0:ns[k - 1] = 0:=of_decide_eq_true hq
    refine ⟨_,fun σ' H'' z=>z,?_⟩
    refine ⟨_,_,rfl,rfl,k - 1,by walk_at "o",rfl,by walk_at "o",fun q' hq'=>?_,by rw [<- e1]⟩
    rw [List.drop_eq_getElem_cons hk1,show k - 1 + 1 = k by walk_at "o"] at hq'
    rcases List.mem_cons.mp hq' with z | z
    ·rw [z]
     exact hq0
    ·exact hdr q' z
   ·exact ⟨_,ha,fin fun _=>by rw [nz_get (List.getElem?_eq_getElem hk1)]; exact fun e=>hq (decide_eq_true e)⟩
  ·exact ⟨_,ha,fin fun z=>by walk_at "o"⟩
def sp_wholes_parted (K:PySem.W.Frag):Sp:=fun vs H Q _=>∃ (a b:Addr) (ms ns:List Int) (m c:Nat),vs = [.ref a,.ref b] /\ vw K H a = some (.lst (ms.map V.int)) /\ vw K H b = some (.lst (ns.map V.int)) /\ 0 < ns.length /\ nz ns (ns.length - 1) ≠ 0 /\ ms.length <= 9 /\ ns.length <= 9 /\ m <= 4000 /\ c <= 4000 /\ (∀ x ∈ ms,Bt m x) /\ (∀ x ∈ ns,Bt c x) /\
 ∀ (p qa ra:Addr) (S:Int) (qs rs:List Int) (H':Hp),Same (vw K H) (vw K H') -> vw K H' p = some (.tup [.ref qa,.ref ra,.int S]) -> vw K H' qa = some (.lst (qs.map V.int)) -> vw K H' ra = some (.lst (rs.map V.int)) -> vw K H ra = none -> qs.length = ms.length + 1 - ns.length -> rs.length < ns.length -> (∃ e,e <= ms.length + 1 - ns.length /\ S = nz ns (ns.length - 1) ^ e) -> Bt 40000 S -> (∀ x ∈ qs,Bt 45000 x) -> (∀ x ∈ rs,Bt 45000 x) -> (rs.length ≠ 0 -> nz rs (rs.length - 1) ≠ 0) -> (∀ k,S * nz ms k = pz (nz qs) (nz ns) qs.length k + nz rs k) -> Q (.ref p) H'
theorem ok_wholes_parted (F:Fun K "wholes_parted" "wholes_parted" s_wholes_parted f fd) (T:Txt K mg) (C_trimmed:Cal P w K mg base "trimmed" ["numbers", "zero"] 1 (sp_trimmed K)):FnOk P w K mg base CX0 2 f fd ["one", "other"] (sp_wholes_parted K):=by
 have scN:=sc_wholes_parted.nd
 refine F.okQ sc_wholes_parted (fun vs H Q E h=>?_) (fun cdv A outer s H vs Q E hr h=>?_)
 ·obtain ⟨a,_,_,_,_,_,rfl,_⟩:=h
  rfl
 ·obtain ⟨a,b,ms,ns,m,c,rfl,ha,hb,ln0,hL,lm,ln,hm,hc,bm,bn,h⟩:=h
  refine ⟨_,(qss_cons (qs_set (i:=2) scN rfl (by walk_at "a1") (qe_ix ix_h (qv 1) (qe_un un_neg qe_int) (fun _ _=>rfl)))
   (qss_cons (qs_set (i:=3) scN rfl (by walk_at "a1") (qe_callTy call_listS (by rfl) T.b_list bt_list (qa_cons (qv 0) qa_nil)))
   (qss_cons (qs_set (i:=4) scN rfl (by walk_at "a1") (qe_op op_Mul (qe_lstS (qa_cons qe_int qa_nil)) (qe_callB (call_max2 rfl) (by rfl) T.b_max bt_max (qa_cons qe_int (qa_cons (qe_op op_Plus (qe_op op_sub (qe_callB call_lenH (by rfl) T.b_len bt_len (qa_cons (qv 0) qa_nil)) (qe_callB call_lenH (by rfl) T.b_len bt_len (qa_cons (qv 1) qa_nil))) qe_int) qa_nil)))))
   (qss_cons (qs_set (i:=5) scN rfl (by walk_at "a1") qe_int)
   (qss_cons (qs_for PassesOwn.never rfl (qi_range3 rfl T.b_range (qa_cons (qe_op op_sub (qe_callB call_lenH (by rfl) T.b_len bt_len (qa_cons (qv 0) qa_nil)) (qe_callB call_lenH (by rfl) T.b_len bt_len (qa_cons (qv 1) qa_nil))) (qa_cons (qe_un un_neg qe_int) (qa_cons (qe_un un_neg qe_int) qa_nil)))) (qg_name (i:=6) scN rfl (by walk_at "a1")) (qss_cons (qs_set (i:=7) scN rfl (by walk_at "a1") (qe_bm0 PySem.F.plainAttrs_list PySem.F.slot_list_pop PySem.F.type_list_pop mt_popS (qv 3)))
   (qss_cons (qs_if (qt_cmpR op_eq (qe_op op_modX (qv 7) (qv 2)) qe_int (nomark _)) (qss_one (qs_aug (i:=7) scN rfl (by walk_at "a1") (qv 2) ip_fdivX)) (qss_cons (qs_aug (i:=5) scN rfl (by walk_at "a1") (qv 2) ip_mulX)
   (qss_cons (qs_setC (i:=4) (own:=["whole"]) (outs:=["last"]) (ixs:=[2]) scN rfl (by walk_at "a1") rfl (qi_list (qv 4)) rfl ⟨rfl,rfl,rfl,⟨rfl,trivial⟩,rfl,⟨⟨rfl,rfl,rfl,_,rfl⟩,trivial⟩⟩ (fun _ _ _ _=>⟨(qg_name (i:=0) (show (["whole", "last"]:List Str).Nodup by decide +kernel) rfl (by walk_at "a1")),qf_nil,(qe_op (show OpR _ _ (rMul K) from op_Mul) (qv 1) (qv 0))⟩))
   (qss_one (qs_setC (i:=3) (own:=["whole"]) (outs:=["last"]) (ixs:=[2]) scN rfl (by walk_at "a1") rfl (qi_list (qv 3)) rfl ⟨rfl,rfl,rfl,⟨rfl,trivial⟩,rfl,⟨⟨rfl,rfl,rfl,_,rfl⟩,trivial⟩⟩ (fun _ _ _ _=>⟨(qg_name (i:=0) (show (["whole", "last"]:List Str).Nodup by decide +kernel) rfl (by walk_at "a1")),qf_nil,(qe_op (show OpR _ _ (rMul K) from op_Mul) (qv 1) (qv 0))⟩))))))
   (qss_cons (qs_asg (qv 7) (qg_sub (qv 4) (qv 6) set_listS))
   (qss_one (qs_for PassesOwn.never rfl (qi_range1 rfl T.b_range (qa_cons (qe_op op_sub (qe_callB call_lenH (by rfl) T.b_len bt_len (qa_cons (qv 1) qa_nil)) qe_int) qa_nil)) (qg_name (i:=8) scN rfl (by walk_at "a1")) (qss_one (qs_augS (qv 3) (qe_op op_Plus (qv 6) (qv 8)) get_listH (qe_op op_Mul (qv 7) (qe_ix ix_h (qv 1) (qv 8) (fun _ _=>rfl))) ip_sub set_listS))))))))
   (qss_one (qs_ret (qe_tupS (qa_cons (qv 4) (qa_cons (qe_cal C_trimmed (hr.mono (by walk_at "a2")) rfl (qa_cons (qv 3) (qa_cons qe_int qa_nil))) (qa_cons (qv 5) qa_nil))))))))))),?_⟩
  simp only [cxOf_K,cxOf_noxK]
  obtain ⟨L,hLd⟩ : ∃ L,L = nz ns (ns.length - 1):=⟨_,rfl⟩
  have hgl:ns.length - 1 < ns.length:=by walk_at "o"
  have nl:ns[ns.length - 1] = L:=by rw [hLd,nz_get (List.getElem?_eq_getElem hgl)]
  have bL:Bt c L:=nl ▸ bn _ (List.getElem_mem hgl)
  rw [<- hLd] at hL
  have xl:(ns.map V.int).getLast? = some (.int L):=by
   rw [List.getLast?_eq_getElem?,List.length_map,List.getElem?_map,List.getElem?_eq_getElem hgl,nl]
   rfl
  refine tSeq.gen fun N1 hN1=>?_
  walk_at "vc"
  refine ⟨_,hb,_,atI_end xl,hN1 _ _ ?_⟩
  refine tSeq.gen fun N2 hN2=>?_
  walk_at "vc"
  refine ⟨_,ha,fun r1 H1 hr1 S1 h1=>hN2 _ _ ?_⟩
  refine tSeq.gen fun N3 hN3=>?_
  walk_at "vc"
  have lena:∀ {H':Hp},Same (vw K H) (vw K H') -> lenH (vw K H') a = some ms.length:=fun S=>by simp only [lenH,S _ _ ha,List.length_map]
  have lenb:∀ {H':Hp},Same (vw K H) (vw K H') -> lenH (vw K H') b = some ns.length:=fun S=>by simp only [lenH,S _ _ hb,List.length_map]
  refine ⟨by decide,fun p2 H2 hp2 S2 h2=>?_⟩
  have S02:=S1.trans S2
  refine ⟨_,lena S02,_,lenb S02,?_⟩
  obtain ⟨n,hn,hnn⟩ : ∃ n:Nat,(if (ms.length:Int) - (ns.length:Int) + 1 > 0 then (ms.length:Int) - (ns.length:Int) + 1 else 0) = (n:Int) /\ n = ms.length + 1 - ns.length:=by
   refine ⟨ms.length + 1 - ns.length,?_,rfl⟩
   split <;> walk_at "o"
  rw [hn,rMul_rep]
  refine ⟨_,h2,by walk_at "o",by walk_at "o",?_,fun q1 H3 hq1 S3 h3=>hN3 _ _ ?_⟩
  ·have:1000 <= sizeLine:=by decide
   simp
   walk_at "o"
  rw [show ((n:Nat):Int).toNat = n by walk_at "o",rep_flat] at h3
  have S03:=S02.trans S3
  refine tSeq.gen fun N4 hN4=>?_
  walk_at "vc"
  refine hN4 _ _ ?_
  refine tSeq.gen fun N5 hN5=>?_
  walk_at "vc"
  simp only [iRng3]
  walk_at "vc"
  refine ⟨_,lena S03,_,lenb S03,by walk_at "o",by walk_at "o",by decide,by decide,?_⟩
  rw [show ((ms.length:Int) - (ns.length:Int) - -1).toNat = n by walk_at "o"]
  have nr1:vw K H r1 = none:=hr1
  have nq1:vw K H q1 = none:=S02.none hq1
  obtain ⟨Pv,hPv⟩ : ∃ Pv:Nat -> St -> Hp -> Prop,∀ i σ H',Pv i σ H' ↔ ∃ (ra qa:Addr) (rs qs:List Int) (S:Int) (o6 o7 o8:Option V),σ = [some (.ref a),some (.ref b),some (.int L),some (.ref ra),some (.ref qa),some (.int S),o6,o7,o8] /\ Same (vw K H) (vw K H') /\
    vw K H' ra = some (.lst (rs.map V.int)) /\ vw K H' qa = some (.lst (qs.map V.int)) /\ vw K H ra = none /\ vw K H qa = none /\ ra ≠ qa /\ rs.length + i = ms.length /\ qs.length = n /\ (∃ e,e <= i /\ S = L ^ e) /\ Bt (1 + c * i) S /\ (∀ x ∈ rs,Bt (m + (c + 1) * i) x) /\ (∀ x ∈ qs,Bt (m + (c + 1) * i) x) /\
    (∀ k,k + i + ns.length <= ms.length -> nz qs k = 0) /\ (∀ k,S * nz ms k = pz (nz qs) (nz ns) n k + nz rs k):=⟨_,fun _ _ _=>Iff.rfl⟩
  refine for_items (its:=idn ((ms.length:Int) - (ns.length:Int)) n) Pv (fun _ _ _ _ _=>items_dn) ((hPv _ _ _).mpr ⟨r1,q1,ms,List.replicate n 0,1,_,_,_,rfl,S03,(S2.trans S3) _ _ h1,?_,nr1,nq1,?_,by walk_at "o",by simp,⟨0,by walk_at "o",(Int.pow_zero _).symm⟩,?_,fun x hx=>(bm x hx).mono (by walk_at "o"),fun x hx=>?_,fun k _=>?_,fun k=>?_⟩) (fun i x σ H4 hi hx pv=>?_) (fun σ H4 pv=>?_)
  ·rw [h3,map_rep]
  ·exact ne_of_none (S2 _ _ h1) hq1
  ·exact Bt.mono (m:=1) (by decide) (by walk_at "o")
  ·rw [(List.mem_replicate.mp hx).2]
   exact bt_zero
  ·unfold nz
   rw [List.getD_eq_getElem?_getD,List.getElem?_replicate]
   split <;> rfl
  ·rw [pz_zero (f:=nz (List.replicate n 0)) (fun i=>by
    unfold nz
    rw [List.getD_eq_getElem?_getD,List.getElem?_replicate]
    split <;> rfl)]
   walk_at "o"
  ·obtain ⟨ra,qa,rs,qs,S,o6,o7,o8,rfl,S4,hra,hqa,nra,nqa,nrq,lrs,lqs,nS,bS,br,bq,zq,ev⟩:=(hPv _ _ _).mp pv
   obtain ⟨hi',rfl⟩:=idn_at hx
   obtain ⟨p,hp⟩ : ∃ p:Nat,(ms.length:Int) - (ns.length:Int) - (i:Int) = (p:Int):=⟨ms.length - ns.length - i,by walk_at "o"⟩
   have hpi:p + i + ns.length = ms.length:=by walk_at "o"
   have hrl:rs.length - 1 < rs.length:=by walk_at "o"
   obtain ⟨Pt,hPt⟩ : ∃ Pt,Pt = rs[rs.length - 1]:=⟨_,rfl⟩
   have hi9:i <= 8:=by walk_at "o"
   have hci:(c + 1) * i <= 4001 * 8:=Nat.mul_le_mul (by walk_at "o") hi9
   have hci2:c * i <= 4000 * 8:=Nat.mul_le_mul hc hi9
   rw [hp]
   simp only [gName]
   refine tSeq.gen fun M1 hM1=>?_
   walk_at "vc"
   have xp:(rs.map V.int)[(rs.map V.int).length - 1]? = some (.int Pt):=by
    rw [List.length_map,List.getElem?_map,List.getElem?_eq_getElem hrl,hPt]
    rfl
   refine ⟨ty_lst hra,_,hra,_,xp,fun H5 B5 h5=>hM1 _ _ ?_⟩
   rw [<- List.map_dropLast] at h5
   have S5:Same (vw K H) (vw K H5):=fun y o e=>B5 _ _ (ne_of_none e nra) (S4 _ _ e)
   have hqa5:=B5 _ _ nrq.symm hqa
   have bP:Bt (m + (c + 1) * i) Pt:=hPt ▸ br _ (List.getElem_mem hrl)
   have top:rs.length - 1 = p + (ns.length - 1):=by walk_at "o"
   have nP:nz rs (p + (ns.length - 1)) = Pt:=by rw [<- top,nz_get (List.getElem?_eq_getElem hrl),hPt]
   have ldl:rs.dropLast.length + (i + 1) = ms.length:=by rw [List.length_dropLast]; walk_at "o"
   refine tSeq.gen fun M2 hM2=>?_
   have key:∀ (ra' qa':Addr) (R:Nat -> Int) (rs1 qs1:List Int) (S1 part:Int) (H':Hp),Same (vw K H) (vw K H') -> vw K H' ra' = some (.lst (rs1.map V.int)) -> vw K H' qa' = some (.lst (qs1.map V.int)) -> vw K H ra' = none -> vw K H qa' = none -> ra' ≠ qa' -> rs1.length + (i + 1) = ms.length -> qs1.length = n -> (∃ e,e <= i + 1 /\ S1 = L ^ e) -> Bt (1 + c * (i + 1)) S1 ->
     (∀ x ∈ rs1,Bt (m + (c + 1) * i + c) x) -> (∀ x ∈ qs1,Bt (m + (c + 1) * i + c) x) -> Bt (m + (c + 1) * i) part -> (∀ k,k + i + ns.length <= ms.length -> nz qs1 k = 0) -> (∀ k,S1 * nz ms k = pz (nz qs1) (nz ns) n k + R k) -> R (p + (ns.length - 1)) = part * L -> (∀ k,nz rs1 k = if k = p + (ns.length - 1) then 0 else R k) ->
     M2 [some (.ref a),some (.ref b),some (.int L),some (.ref ra'),some (.ref qa'),some (.int S1),some (.int p),some (.int part),o8] H':=by
    intro ra' qa' R rs1 qs1 S1 part H' Sx hr' hq' nr' nq' ne' l1 l2 n1 b1 b2 b3 b4 z1 e1 e2 e3
    refine hM2 _ _ ?_
    refine tSeq.gen fun M3 hM3=>?_
    walk_at "vc"
    refine ⟨_,hq',p,ixN_nat (by rw [List.length_map]; walk_at "o"),fun H7 B7 h7=>hM3 _ _ ?_⟩
    rw [<- List.map_set] at h7
    have S7:Same (vw K H) (vw K H7):=fun y o e=>B7 _ _ (ne_of_none e nq') (Sx _ _ e)
    have hr7:=B7 _ _ ne' hr'
    walk_at "vc"
    refine ⟨_,lenb S7,by walk_at "o",by walk_at "o",?_⟩
    rw [show ((ns.length:Int) - 1).toNat = ns.length - 1 by walk_at "o"]
    obtain ⟨Pw,hPw⟩ : ∃ Pw:Nat -> St -> Hp -> Prop,∀ l σ H',Pw l σ H' ↔ ∃ (rs2:List Int) (o8:Option V),σ = [some (.ref a),some (.ref b),some (.int L),some (.ref ra'),some (.ref qa'),some (.int S1),some (.int p),some (.int part),o8] /\ Same (vw K H) (vw K H') /\ vw K H' ra' = some (.lst (rs2.map V.int)) /\ vw K H' qa' = some (.lst ((qs1.set p part).map V.int)) /\ rs2.length = rs1.length /\
      (∀ x ∈ rs2,Bt (m + (c + 1) * (i + 1)) x) /\ ∀ k,nz rs2 k = nz rs1 k - if p <= k /\ k < p + l then part * nz ns (k - p) else 0:=⟨_,fun _ _ _=>Iff.rfl⟩
    have more:(c + 1) * (i + 1) = (c + 1) * i + (c + 1):=by rw [Nat.mul_add]; walk_at "o"
    refine for_items (its:=iots 0 (ns.length - 1)) Pw (fun _ _ _ _ _=>items_range) ((hPw _ _ _).mpr ⟨rs1,_,rfl,S7,hr7,h7,rfl,fun x hx=>(b2 x hx).mono (by walk_at "o"),fun k=>by rw [if_neg (by walk_at "o")]; walk_at "o"⟩) (fun l x σ H8 hl hx pw=>?_) (fun σ H8 pw=>?_)
    ·obtain ⟨rs2,o8',rfl,S8,hr8,hq8,l8,b8,e8⟩:=(hPw _ _ _).mp pw
     obtain ⟨hl',rfl⟩:=iots_at hx
     have hpl:p + l < rs2.length:=by walk_at "o"
     have hln:l < ns.length:=by walk_at "o"
     simp only [tAugS,ipI]
     walk_at "vc"
     have xr:(rs2.map V.int)[p + l]? = some (.int rs2[p + l]):=by rw [List.getElem?_map,List.getElem?_eq_getElem hpl]; rfl
     have xn:(ns.map V.int)[l]? = some (.int ns[l]):=by rw [List.getElem?_map,List.getElem?_eq_getElem hln]; rfl
     have epl:(p:Int) + (0 + (l:Int)) = ((p + l:Nat):Int):=by walk_at "o"
     have vr:rs2[p + l] = nz rs1 (p + l):=by
      have:=e8 (p + l)
      rw [nz_get (List.getElem?_eq_getElem hpl),if_neg (by walk_at "o")] at this
      walk_at "o"
     have vn:ns[l] = nz ns l:=(nz_get (List.getElem?_eq_getElem hln)).symm
     refine ⟨_,hr8,_,by rw [epl]; exact atI_nat xr,_,S8 _ _ hb,_,by rw [Int.zero_add]; exact atI_nat xn,?_⟩
     rw [rMul_int]
     refine ⟨mulOk b4 (bn _ (List.getElem_mem hln)) (by walk_at "o"),_,rfl,_,rfl,_,hr8,p + l,by rw [epl]; exact ixN_nat (by rw [List.length_map]; exact hpl),fun H9 B9 h9=>?_⟩
     rw [<- List.map_set] at h9
     refine (hPw _ _ _).mpr ⟨rs2.set (p + l) (rs2[p + l] - part * ns[l]),_,rfl,fun y o e=>B9 _ _ (ne_of_none e nr') (S8 _ _ e),h9,B9 _ _ ne'.symm hq8,by rw [List.length_set]; exact l8,fun x hx=>?_,fun k=>?_⟩
     ·rcases List.mem_or_eq_of_mem_set hx with z | rfl
      ·exact b8 x z
      ·have y1:Bt (m + (c + 1) * i + c) rs2[p + l]:=by rw [vr]; exact nz_bt b2 _
       have y2:Bt (m + (c + 1) * i + c) (part * ns[l]):=b4.mul (bn _ (List.getElem_mem hln))
       unfold Bt at y1 y2 ⊢
       rw [more,show m + ((c + 1) * i + (c + 1)) = (m + (c + 1) * i + c) + 1 by walk_at "o",Nat.pow_succ]
       walk_at "o"
     ·rw [nz_setv hpl,e8 k]
      by_cases hk:k = p + l
      ·subst hk
       rw [if_pos rfl,if_pos (by walk_at "o"),show p + l - p = l by walk_at "o",vr,vn]
      ·rw [if_neg hk]
       by_cases hk2:p <= k /\ k < p + l
       ·rw [if_pos hk2,if_pos (by walk_at "o")]
       ·rw [if_neg hk2,if_neg (by walk_at "o")]
    ·obtain ⟨rs2,o8',rfl,S8,hr8,hq8,l8,b8,e8⟩:=(hPw _ _ _).mp pw
     rw [iots_len] at e8
     refine (hPv _ _ _).mpr ⟨ra',qa',rs2,qs1.set p part,S1,_,_,_,rfl,S8,hr8,hq8,nr',nq',ne',by walk_at "o",by rw [List.length_set]; exact l2,n1,b1,b8,fun x hx=>?_,fun k hk=>?_,?_⟩
     ·rcases List.mem_or_eq_of_mem_set hx with z | rfl
      ·exact (b3 x z).mono (by walk_at "o")
      ·exact b4.mono (by walk_at "o")
     ·rw [nz_setv (by walk_at "o"),if_neg (by walk_at "o")]
      exact z1 k (by walk_at "o")
     ·exact part_step (l:=ns.length - 1) e1 (z1 p (by walk_at "o")) (fun k=>nz_setv (by walk_at "o")) (by walk_at "o") (fun j hj=>nz_out (by walk_at "o")) (by rw [e2,hLd]) e3 e8
   walk_at "vc"
   refine ⟨hL,ite2 (fun e0=>?_) (fun e0=>?_)⟩
   ·have dv:L ∣ Pt:=Int.dvd_of_fmod_eq_zero e0
    have em:Pt.fdiv L * L = Pt:=fdiv_mul hL dv
    have bd:Bt (m + (c + 1) * i) (Pt.fdiv L):=by
     unfold Bt at bP ⊢
     have e1:(Pt.fdiv L).natAbs * L.natAbs = Pt.natAbs:=by rw [<- Int.natAbs_mul,em]
     have e2:(Pt.fdiv L).natAbs * 1 <= (Pt.fdiv L).natAbs * L.natAbs:=Nat.mul_le_mul_left _ (by walk_at "o")
     walk_at "o"
    refine ⟨⟨hL,?_⟩,key ra qa (nz rs) rs.dropLast qs S (Pt.fdiv L) H5 S5 h5 hqa5 nra nqa nrq ldl lqs (nS.elim fun e z=>⟨e,by walk_at "o",z.2⟩) (bS.mono (by rw [Nat.mul_add]; walk_at "o")) (fun x hx=>(br x ((List.dropLast_sublist _).subset hx)).mono (by walk_at "o")) (fun x hx=>(bq x hx).mono (by walk_at "o")) bd zq ev (by rw [nP,em]) (fun k=>by rw [nz_dropLast,top])⟩
    exact (Nat.log2_lt (by walk_at "o")).mpr (Nat.lt_of_lt_of_le bL (Nat.pow_le_pow_right (by decide) (by walk_at "o")))
   ·refine ⟨mulOk bS bL (by walk_at "o"),⟨_,.of (vw_lst hqa5)⟩,fun q6 H6 hq6 S6 h6=>?_⟩
    refine comp_items (its:=qs.map V.int) (fun j zs H'=>Same (vw K H5) (vw K H') /\ zs = ((qs.take j).map fun x=>L * x).map V.int) (fun j zs H' _ _ z=>items_list (z.1 _ _ hqa5)) h6 ⟨S6,rfl⟩ (fun j x zs H' hj hx h' z=>?_) (fun zs H7 h7 z=>?_)
    ·obtain ⟨z1,rfl⟩:=z
     rw [List.length_map] at hj
     rw [List.getElem?_map,List.getElem?_eq_getElem hj] at hx
     cases hx
     walk_at "vc"
     refine ⟨mulOk bL (bq _ (List.getElem_mem hj)) (by walk_at "o"),.mk h' ?_ fun H8 B8 h8=>⟨fun y o e=>B8 _ _ (ne_of_none e hq6) (z1 _ _ e),?_⟩⟩
     ·rw [List.length_map,List.length_map,List.length_take]
      have:1000 <= sizeLine:=by decide
      walk_at "o"
     ·rw [List.take_add_one,List.getElem?_eq_getElem hj,List.map_append,List.map_append]
      rfl
    obtain ⟨S57,rfl⟩:=z
    rw [List.length_map,List.take_length] at h7
    have h57:=S57 _ _ h5
    refine ⟨⟨_,.of (vw_lst h57)⟩,fun r8 H8 hr8 S8 h8=>?_⟩
    refine comp_items (its:=rs.dropLast.map V.int) (fun j zs H'=>Same (vw K H7) (vw K H') /\ zs = ((rs.dropLast.take j).map fun x=>L * x).map V.int) (fun j zs H' _ _ z=>items_list (z.1 _ _ h57)) h8 ⟨S8,rfl⟩ (fun j x zs H' hj hx h' z=>?_) (fun zs H9 h9 z=>?_)
    ·obtain ⟨z1,rfl⟩:=z
     rw [List.length_map] at hj
     rw [List.getElem?_map,List.getElem?_eq_getElem hj] at hx
     cases hx
     walk_at "vc"
     refine ⟨mulOk bL (br _ ((List.dropLast_sublist _).subset (List.getElem_mem hj))) (by walk_at "o"),.mk h' ?_ fun H8 B8 h8=>⟨fun y o e=>B8 _ _ (ne_of_none e hr8) (z1 _ _ e),?_⟩⟩
     ·rw [List.length_map,List.length_map,List.length_take]
      have:1000 <= sizeLine:=by decide
      walk_at "o"
     ·rw [List.take_add_one,List.getElem?_eq_getElem hj,List.map_append,List.map_append]
      rfl
    obtain ⟨S79,rfl⟩:=z
    rw [List.length_map,List.take_length] at h9
    have S07:=S5.trans S57
    refine key r8 q6 (fun k=>L * nz rs k) _ _ (S * L) Pt H9 (S07.trans S79) h9 (S79 _ _ h7) (S07.none hr8) (S5.none hq6) (ne_of_none h7 hr8).symm (by rw [List.length_map]; exact ldl) (by rw [List.length_map]; exact lqs) (nS.elim fun e z=>⟨e + 1,by walk_at "o",by rw [z.2,Int.pow_succ]⟩) ((bS.mul bL).mono (by rw [Nat.mul_add]; walk_at "o")) (fun x hx=>?_) (fun x hx=>?_) bP (fun k hk=>?_) (fun k=>?_) ?_ (fun k=>?_)
    ·obtain ⟨y,hy,rfl⟩:=List.mem_map.mp hx
     exact (bL.mul (br y ((List.dropLast_sublist _).subset hy))).mono (by walk_at "o")
    ·obtain ⟨y,hy,rfl⟩:=List.mem_map.mp hx
     exact (bL.mul (bq y hy)).mono (by walk_at "o")
    ·rw [nz_mapc,zq k hk]
     walk_at "o"
    ·rw [show nz (qs.map fun x=>L * x) = fun k=>L * nz qs k from funext fun k=>nz_mapc k,pz_mul,<- Int.mul_add,<- ev k,Int.mul_comm S L,Int.mul_assoc]
    ·show L * nz rs (p + (ns.length - 1)) = Pt * L
     rw [nP,Int.mul_comm]
    ·rw [nz_mapc,nz_dropLast,top]
     split <;> simp
  ·obtain ⟨ra,qa,rs,qs,S,o6,o7,o8,rfl,S4,hra,hqa,nra,nqa,nrq,lrs,lqs,nS,bS,br,bq,zq,ev⟩:=(hPv _ _ _).mp pv
   rw [idn_len] at lrs nS bS br bq zq
   refine hN5 _ _ ?_
   walk_at "vc"
   simp only [sp_trimmed]
   refine .inr ?_
   simp only [spZ_trimmed]
   walk_at "vc"
   refine ⟨rs,hra,fun d H5 ts S5 hd nd e5 l5 z5=>⟨by decide,fun p6 H6 hp6 S6 h6=>?_⟩⟩
   have n9:n <= 9:=by walk_at "o"
   have k1:c * n <= 4000 * 9:=Nat.mul_le_mul hc n9
   have k2:(c + 1) * n <= 4001 * 9:=Nat.mul_le_mul (by walk_at "o") n9
   refine h p6 qa d S qs ts H6 (S4.trans (S5.trans S6)) h6 ((S5.trans S6) _ _ hqa) (S6 _ _ hd) (S4.none nd) (by walk_at "o") (by walk_at "o") (nS.elim fun e z=>⟨e,by walk_at "o",z.2.trans (by rw [hLd])⟩) (bS.mono (by walk_at "o")) (fun x hx=>(bq x hx).mono (by walk_at "o")) (fun x hx=>?_) z5 (fun k=>?_)
   ·obtain ⟨k,hk⟩:=List.getElem?_of_mem hx
    have e:=e5 k
    rw [nz_get hk] at e
    rw [e]
    exact (nz_bt br k).mono (by walk_at "o")
   ·rw [lqs,e5 k]
    exact ev k
def sp_power (K:PySem.W.Frag):Sp:=fun vs H Q _=>∃ (x:Int) (n b:Nat),vs = [.int x,.int n] /\ n <= 20 /\ b <= 4000 /\ Bt b x /\ Q (.int (x ^ n)) H
theorem ok_power (F:Fun K "power" "power" s_power f fd) (T:Txt K mg):FnOk P w K mg base CX0 1 f fd ["base", "many"] (sp_power K):=by
 have scN:=sc_power.nd
 refine F.okQ sc_power (fun vs H Q E h=>?_) (fun cdv A outer s H vs Q E hr h=>?_)
 ·obtain ⟨_,_,_,rfl,_⟩:=h
  rfl
 ·obtain ⟨x,n,b,rfl,hn,hb,bx,h⟩:=h
  refine ⟨_,(qss_cons (qs_set (i:=2) scN rfl (by walk_at "a1") qe_int)
   (qss_cons (qs_for PassesOwn.never rfl (qi_range1 rfl T.b_range (qa_cons (qv 1) qa_nil)) (qg_name (i:=3) scN rfl (by walk_at "a1")) (qss_one (qs_aug (i:=2) scN rfl (by walk_at "a1") (qv 0) ip_mulX)))
   (qss_one (qs_ret (qv 2))))),?_⟩
  walk_at "vc"
  refine ⟨by walk_at "o",by walk_at "o",?_⟩
  rw [show ((n:Nat):Int).toNat = n by walk_at "o"]
  obtain ⟨Pv,hPv⟩ : ∃ Pv:Nat -> St -> Hp -> Prop,∀ i σ H',Pv i σ H' ↔ H' = H /\ ∃ o,σ = [some (.int x),some (.int n),some (.int (x ^ i)),o]:=⟨_,fun _ _ _=>Iff.rfl⟩
  refine for_items (its:=iots 0 n) Pv (fun _ _ _ _ _=>items_range) ((hPv _ _ _).mpr ⟨rfl,_,by rw [Int.pow_zero]⟩) (fun i y σ H1 hi hy pv=>?_) (fun σ H1 pv=>?_)
  ·obtain ⟨rfl,o,rfl⟩:=(hPv _ _ _).mp pv
   obtain ⟨hi',rfl⟩:=iots_at hy
   walk_at "vc"
   have b1:=bx.pow1 i
   have:b * i <= 4000 * 20:=Nat.mul_le_mul hb (by walk_at "o")
   refine ⟨mulOk b1 bx (by walk_at "o"),(hPv _ _ _).mpr ⟨rfl,_,by rw [Int.pow_succ]⟩⟩
  ·obtain ⟨rfl,o,rfl⟩:=(hPv _ _ _).mp pv
   rw [iots_len]
   walk_at "vc"
   exact h
def RowsR (G:Hp) (t:Addr) (tv:List V) (rows:List (List Int × List Int × Int × Int)):Prop:=tv.length = rows.length /\ ∀ (k:Nat) row,rows[k]? = some row -> ∃ p ra qa:Addr,tv[k]? = some (.ref p) /\ G p = some (.tup [.ref ra,.ref qa,.int row.2.2.1,.int row.2.2.2]) /\ G ra = some (.lst (row.1.map V.int)) /\ G qa = some (.lst (row.2.1.map V.int)) /\ ra ≠ t /\ qa ≠ t
theorem RowsR.same {G G':Hp} {t:Addr} {tv:List V} {rows:List (List Int × List Int × Int × Int)} (h:RowsR G t tv rows) (S:Same G G'):RowsR G' t tv rows:=⟨h.1,fun k row e=>by
 obtain ⟨p,ra,qa,a,b,c,d,n⟩:=h.2 k row e
 exact ⟨p,ra,qa,a,S _ _ b,S _ _ c,S _ _ d,n⟩⟩
def RowB (row:List Int × List Int × Int × Int):Prop:=row.1.length <= 9 /\ (∀ x ∈ row.1,Bt 3600 x) /\ Bt 40000 row.2.2.1 /\ Bt 40000 row.2.2.2
def sp_wholes_rests (K:PySem.W.Frag):Sp:=fun vs H Q _=>∃ (a b:Addr) (ms ns:List Int),vs = [.ref a,.ref b] /\ vw K H a = some (.lst (ms.map V.int)) /\ vw K H b = some (.lst (ns.map V.int)) /\ ms ≠ [] /\ ns.length <= ms.length /\ IntL9 220 ms /\ IntL9 220 ns /\
 ∀ (d:Addr) (H':Hp) (tv:List V) rows,Same (vw K H) (vw K H') -> vw K H' d = some (.lst tv) -> RowsR (vw K H') d tv rows -> Rst ms ns rows -> rows.length <= 9 -> (∀ row ∈ rows,RowB row) -> Q (.ref d) H'
theorem ok_wholes_rests (F:Fun K "wholes_rests" "wholes_rests" s_wholes_rests f fd) (T:Txt K mg) (N_:Seer P base) (C_power:Cal P w K mg base "power" ["base", "many"] 1 (sp_power K)) (C_wholes_parted:Cal P w K mg base "wholes_parted" ["one", "other"] 2 (sp_wholes_parted K)):FnOk P w K mg base CX0 3 f fd ["one", "other"] (sp_wholes_rests K):=by
 have scN:=sc_wholes_rests.nd
 refine F.okQ sc_wholes_rests (fun vs H Q E h=>?_) (fun cdv A outer s H vs Q E hr h=>?_)
 ·obtain ⟨_,_,_,_,rfl,_⟩:=h
  rfl
 ·obtain ⟨a,b,ms,ns,rfl,ha,hb,m0,lmn,im,il,h⟩:=h
  refine ⟨_,(qss_cons (qs_set (i:=2) scN rfl (by walk_at "a1") (qe_lstS qa_nil))
   (qss_cons (qs_asg (qe_tupS (qa_cons qe_int (qa_cons qe_int qa_nil))) (qg_tupH (n:=2) rfl (qgs_cons (qg_name (i:=3) scN rfl (by walk_at "a1")) (qgs_cons (qg_name (i:=4) scN rfl (by walk_at "a1")) qgs_nil))))
   (qss_cons (qs_while PassesOwn.never (qt_truth (qv 1) (fun _=>rfl)) (qss_cons (qs_set (i:=5) scN rfl (by walk_at "a1") (qe_op op_sub (qe_callB call_lenH (by rfl) T.b_len bt_len (qa_cons (qv 0) qa_nil)) (qe_callB call_lenH (by rfl) T.b_len bt_len (qa_cons (qv 1) qa_nil))))
   (qss_cons (qs_set (i:=6) scN rfl (by walk_at "a1") (qe_cal C_power (hr.mono (by walk_at "a2")) rfl (qa_cons (qe_ix ix_h (qv 1) (qe_un un_neg qe_int) (fun _ _=>rfl)) (qa_cons (qe_op op_Plus (qv 5) qe_int) qa_nil))))
   (qss_cons (qs_asg (qe_cal C_wholes_parted (hr.mono (by walk_at "a2")) rfl (qa_cons (qv 0) (qa_cons (qv 1) qa_nil))) (qg_tupH (n:=3) rfl (qgs_cons (qg_name (i:=7) scN rfl (by walk_at "a1")) (qgs_cons (qg_name (i:=8) scN rfl (by walk_at "a1")) (qgs_cons (qg_name (i:=9) scN rfl (by walk_at "a1")) qgs_nil)))))
   (qss_cons (qs_set (i:=10) scN rfl (by walk_at "a1") (qe_op op_Mul (qv 3) (qe_cal C_power (hr.mono (by walk_at "a2")) rfl (qa_cons (qv 4) (qa_cons (qv 5) qa_nil)))))
   (qss_cons (qs_if (qt_truth (qv 8) (fun _=>rfl)) (qss_cons (qs_set (i:=11) scN rfl (by walk_at "a1") (qe_op (op_fdivP N_ hr rfl rfl rfl) (qv 6) (qv 9)))
   (qss_cons (qs_setC (i:=8) (own:=["whole"]) (outs:=["top", "lack"]) (ixs:=[10,11]) scN rfl (by walk_at "a1") rfl (qi_list (qv 8)) rfl ⟨rfl,rfl,rfl,⟨rfl,⟨rfl,trivial⟩⟩,rfl,⟨⟨rfl,rfl,rfl,_,rfl⟩,⟨⟨rfl,rfl,rfl,_,rfl⟩,trivial⟩⟩⟩ (fun _ _ _ _=>⟨(qg_name (i:=0) (show (["whole", "top", "lack"]:List Str).Nodup by decide +kernel) rfl (by walk_at "a1")),qf_nil,(qe_op (op_fdivQ N_ hr rfl rfl rfl rfl rfl) (qe_op (show OpR _ _ (rMul K) from op_Mul) (qv 2) (qv 0)) (qv 1))⟩))
   (qss_one (qs_expr (qe_bm PySem.F.plainAttrs_list PySem.F.slot_list_append PySem.F.type_list_append mt_appendS (qv 2) (qa_cons (qe_tupS (qa_cons (qv 8) (qa_cons (qe_comp (own:=["whole"]) (outs:=["lack"]) (ixs:=[11]) rfl (qi_list (qv 7)) rfl ⟨rfl,rfl,rfl,⟨rfl,trivial⟩,rfl,⟨⟨rfl,rfl,rfl,_,rfl⟩,trivial⟩⟩ (fun _ _ _ _=>⟨(qg_name (i:=0) (show (["whole", "lack"]:List Str).Nodup by decide +kernel) rfl (by walk_at "a1")),qf_nil,(qe_op (show OpR _ _ (rMul K) from op_Mul) (qv 1) (qv 0))⟩)) (qa_cons (qv 10) (qa_cons (qv 6) qa_nil))))) qa_nil)))))) qss_nil)
   (qss_cons (qs_par (i:=0) (j:=1) rfl scN rfl rfl (by decide) rfl rfl (qa_cons (qv 1) (qa_cons (qv 8) qa_nil)) rfl)
   (qss_cons (qs_set (i:=3) scN rfl (by walk_at "a1") (qe_ix ix_h (qv 0) (qe_un un_neg qe_int) (fun _ _=>rfl)))
   (qss_one (qs_if (qt_cmpR op_gt (qv 5) qe_int (nomark _)) (qss_one (qs_set (i:=4) scN rfl (by walk_at "a1") (qe_op (op_fdivP N_ hr rfl rfl rfl) (qe_cal C_power (hr.mono (by walk_at "a2")) rfl (qa_cons (qv 3) (qa_cons (qv 5) qa_nil))) (qe_cal C_power (hr.mono (by walk_at "a2")) rfl (qa_cons (qv 4) (qa_cons (qe_op op_sub (qv 5) qe_int) qa_nil)))))) qss_nil))))))))))
   (qss_one (qs_ret (qv 2)))))),?_⟩
  simp only [cxOf_K,cxOf_noxK]
  refine tSeq.gen fun N1 hN1=>?_
  walk_at "vc"
  refine ⟨by decide,fun t H1 ht S1 h1=>hN1 _ _ ?_⟩
  refine tSeq.gen fun N2 hN2=>?_
  walk_at "vc"
  refine ⟨by decide,fun p2 H2 hp2 S2 h2=>⟨_,rfl,_,h2,rfl,_,_,rfl,_,_,rfl,rfl,hN2 _ _ ?_⟩⟩
  refine tSeq.gen fun N3 hN3=>?_
  walk_at "vc"
  have nt:vw K H t = none:=ht
  have S02:=S1.trans S2
  obtain ⟨W,hW⟩ : ∃ W:Nat -> St -> Hp -> Prop,∀ m σ H',W m σ H' ↔ ∃ (oa ra:Addr) (Fs Gs:List Int) (tv:List V) (rows:List (List Int × List Int × Int × Int)) (x g:Int) (o5 o6 o7 o8 o9 o10 o11:Option V),σ = [some (.ref oa),some (.ref ra),some (.ref t),some (.int x),some (.int g),o5,o6,o7,o8,o9,o10,o11] /\ m = Gs.length /\ Same (vw K H) (vw K H') /\ vw K H' t = some (.lst tv) /\ vw K H' oa = some (.lst (Fs.map V.int)) /\ vw K H' ra = some (.lst (Gs.map V.int)) /\ oa ≠ t /\ ra ≠ t /\
    Fs ≠ [] /\ tv.length + Gs.length <= 9 /\ Gs.length <= Fs.length /\ IntL9 3585 Fs /\ IntL9 3585 Gs /\ (∀ r,Rst Fs Gs r -> Rst ms ns (rows ++ r)) /\ (Gs ≠ [] -> ∃ S1,Gst8 3585 S1 (nz Fs) (nz Gs) (Fs.length - 1) (Gs.length - 1) x g) /\
    RowsR (vw K H') t tv rows /\ ∀ row ∈ rows,RowB row:=⟨_,fun _ _ _=>Iff.rfl⟩
  have btn:∀ {n:Nat} {l:List Int},IntL9 n l -> ∀ k,Bt n (nz l k):=fun i k=>nz_bt i.2.1 k
  have up:∀ {l:List Int},IntL9 220 l -> IntL9 3585 l:=fun i=>i.up (by decide)
  have lp:∀ {l:List Int},l ≠ [] -> 0 < l.length:=fun h=>List.length_pos_iff.mpr h
  refine ⟨W,⟨_,(hW _ _ _).mpr ⟨a,b,ms,ns,[],[],1,1,_,_,_,_,_,_,_,rfl,rfl,S02,S2 _ _ h1,S02 _ _ ha,S02 _ _ hb,ne_of_none ha nt,ne_of_none hb nt,m0,by have:=il.1; simp; walk_at "o",lmn,up im,up il,fun r z=>z,fun n0=>⟨_,Gst8.first (b:=220) (by walk_at "o") (by have:=im.1; walk_at "o") (by decide) (btn im) (btn il) (il.2.2 n0) (fun k hk=>nz_out (by have:=lp n0; walk_at "o")) (fun k hk=>nz_out (by have:=lp m0; walk_at "o"))⟩,⟨rfl,by simp⟩,by simp⟩⟩,fun m σ H3 hw=>?_⟩
  obtain ⟨oa,ra,Fs,Gs,tv,rows,x,g,o5,o6,o7,o8,o9,o10,o11,rfl,rfl,S3,ht3,hF,hG,noa,nra,f0,lt7,lGF,iF,iG,gc,gs,rt,rwb⟩:=(hW _ _ _).mp hw
  refine ⟨_,rfl,_,tru_lst hG,ite2 (fun hc=>⟨_,fun σ' H' z=>z,?_⟩) (fun hc=>hN3 _ _ ?_)⟩
  ·have g0:Gs ≠ []:=fun z=>by rw [z] at hc; cases hc
   obtain ⟨Sx,I⟩:=gs g0
   have lg:=lp g0
   obtain ⟨δ,hδ⟩ : ∃ δ,δ = Fs.length - Gs.length:=⟨_,rfl⟩
   have hδ2:Fs.length - 1 - (Gs.length - 1) = δ:=by walk_at "o"
   have hgl:Gs.length - 1 < Gs.length:=by walk_at "o"
   obtain ⟨c,hcd⟩ : ∃ c,c = nz Gs (Gs.length - 1):=⟨_,rfl⟩
   have hce:Gs[Gs.length - 1] = c:=by rw [hcd,nz_get (List.getElem?_eq_getElem hgl)]
   have bc:Bt 3585 c:=hcd ▸ btn iG _
   have c0:c ≠ 0:=hcd ▸ iG.2.2 g0
   have xl:(Gs.map V.int).getLast? = some (.int c):=by
    rw [List.getLast?_eq_getElem?,List.length_map,List.getElem?_map,List.getElem?_eq_getElem hgl,hce]
    rfl
   have lF7:=iF.1
   refine tSeq.gen fun M1 hM1=>?_
   walk_at "vc"
   refine ⟨Fs.length,by simp only [lenH,hF,List.length_map],Gs.length,by simp only [lenH,hG,List.length_map],hM1 _ _ ?_⟩
   rw [show (Fs.length:Int) - (Gs.length:Int) = (δ:Int) by walk_at "o"]
   refine tSeq.gen fun M2 hM2=>?_
   walk_at "vc"
   refine ⟨_,hG,_,atI_end xl,⟨c,δ + 1,3585,rfl,by walk_at "o",by decide,bc,hM2 _ _ ?_⟩⟩
   refine tSeq.gen fun M3 hM3=>?_
   walk_at "vc"
   simp only [sp_wholes_parted]
   refine ⟨oa,ra,Fs,Gs,3585,3585,rfl,hF,hG,lg,iG.2.2 g0,by walk_at "o",by walk_at "o",by decide,by decide,iF.2.1,iG.2.1,fun p4 qa rb S qs rs H4 S4 h4 hqa hrb nrb lq lr hSe bS bq br lrz ev=>⟨_,rfl,_,h4,rfl,_,_,rfl,_,_,rfl,_,_,rfl,rfl,hM3 _ _ ?_⟩⟩
   obtain ⟨e,he,hS⟩:=hSe
   rw [<- hcd] at hS
   have lq2:qs.length = δ + 1:=by walk_at "o"
   have S0:S ≠ 0:=by rw [hS]; exact Int.pow_ne_zero c0
   obtain ⟨lack,hlack⟩ : ∃ lack,lack = c ^ (δ + 1 - e):=⟨_,rfl⟩
   have elk:c ^ (δ + 1) = lack * S:=by rw [hlack,hS,<- ipa,show δ + 1 - e + e = δ + 1 by walk_at "o"]
   obtain ⟨top,htop⟩ : ∃ top,top = x * g ^ δ:=⟨_,rfl⟩
   have top0:top ≠ 0:=by rw [htop]; exact Int.mul_ne_zero I.inv.x0 (Int.pow_ne_zero I.inv.h0)
   have δ6:3585 * δ <= 3585 * 8:=Nat.mul_le_mul_left _ (by walk_at "o")
   have btop:Bt 40000 top:=by rw [htop]; exact (I.bx.mul (I.bh.pow1 δ)).mono (by walk_at "o")
   have black:Bt 40000 lack:=by
    rw [hlack]
    refine (bc.pow1 _).mono ?_
    have:3585 * (δ + 1 - e) <= 3585 * 9:=Nat.mul_le_mul_left _ (by walk_at "o")
    walk_at "o"
   have bgam:Bt 40000 (c ^ (δ + 1)):=by
    refine (bc.pow1 _).mono ?_
    have:3585 * (δ + 1) <= 3585 * 9:=Nat.mul_le_mul_left _ (by walk_at "o")
    walk_at "o"
   refine tSeq.gen fun M4 hM4=>?_
   walk_at "vc"
   simp only [sp_power]
   refine ⟨g,δ,3585,rfl,by walk_at "o",by decide,I.bh,?_⟩
   rw [rMul_int]
   refine ⟨mulOk I.bx (I.bh.pow1 δ) (by walk_at "o"),hM4 _ _ ?_⟩
   rw [<- htop]
   have ev2:∀ k,c ^ (δ + 1) * nz Fs k = pz (fun i=>lack * nz qs i) (nz Gs) (δ + 1) k + lack * nz rs k:=fun k=>by
    rw [pz_mul,<- Int.mul_add,<- lq2,<- ev k,<- Int.mul_assoc,<- elk,lq2]
   obtain ⟨r,g',hR,bR,r0,ng',bg',hh,next⟩:=I.rest (q:=fun i=>lack * nz qs i) (R:=fun k=>lack * nz rs k) (fun k hk=>by rw [nz_out (by walk_at "o"),Int.mul_zero]) (fun k=>by rw [<- hcd,hδ2]; exact ev2 k)
   rw [hδ2,<- htop] at hR
   rw [<- hcd,hδ2] at hh
   rw [<- hcd] at next
   have key:∀ (rc:Addr) (Rs:List Int) (tv':List V) (rows':List (List Int × List Int × Int × Int)) (H':Hp) (u7 u11:Option V),Same (vw K H) (vw K H') -> vw K H' t = some (.lst tv') -> vw K H' ra = some (.lst (Gs.map V.int)) -> vw K H' rc = some (.lst (Rs.map V.int)) -> rc ≠ t -> Rs.length < Gs.length -> tv'.length + Rs.length <= 9 -> (∀ k,nz Rs k = r k) -> IntL9 3585 Rs -> (∀ r,Rst Gs Rs r -> Rst ms ns (rows' ++ r)) -> RowsR (vw K H') t tv' rows' -> (∀ row ∈ rows',RowB row) ->
     tSeq (tPar 0 1 (tCons (tVar 1) (tCons (tVar 8) tNil))) (tSeq (tAsg (tOp (rIxH K) (tVar 0) (tUn (rU fun i=>V.int (-i)) (tC (V.int 1)))) (gName 3)) (tIfS (tTest (tOp (rI0 fun i j=>V.bl (decide (j < i))) (tVar 5) (tC (V.int 0)))) (tAsg (tOp (rI CNz fun i j=>V.int (i.fdiv j)) (tCal (sp_power K) (tCons (tVar 3) (tCons (tVar 5) tNil))) (tCal (sp_power K) (tCons (tVar 4) (tCons (tOp (rI0 fun i j=>V.int (i - j)) (tVar 5) (tC (V.int 1))) tNil)))) (gName 4)) tNext))
      { nx:=fun σ' H'=>∃ m',m' < Gs.length /\ W m' σ' H',rt:=Q } [some (.ref oa),some (.ref ra),some (.ref t),some (.int x),some (.int g),some (.int δ),some (.int (c ^ (δ + 1))),u7,some (.ref rc),some (.int S),some (.int top),u11] H':=by
    intro rc Rs tv' rows' H' u7 u11 Sx' ht' hG' hR' nrc lR lt' eR iR gc' rt' rb'
    have fin:∀ u7 u11:Option V,∃ m',m' < Gs.length /\ W m' [some (.ref ra),some (.ref rc),some (.ref t),some (.int c),some (.int g'),some (.int δ),some (.int (c ^ (δ + 1))),u7,some (.ref rc),some (.int S),some (.int top),u11] H':=fun u7 u11=>by
     refine ⟨Rs.length,lR,(hW _ _ _).mpr ⟨ra,rc,Gs,Rs,tv',rows',c,g',_,_,_,_,_,_,_,rfl,rfl,Sx',ht',hG',hR',nra,nrc,g0,lt',by walk_at "o",iG,iR,gc',fun z=>?_,rt',rb'⟩⟩
     have lz:=lp z
     have e1:r = nz Rs:=funext fun k=>(eR k).symm
     have nx:=next (Rs.length - 1) (by walk_at "o") (by rw [<- eR]; exact iR.2.2 z) (fun k hk=>by rw [<- eR]; exact nz_out (by walk_at "o"))
     rw [e1] at nx
     exact ⟨_,nx⟩
    walk_at "vc"
    refine ⟨_,hG',_,atI_end xl,ite2 (fun h0=>?_) (fun h0=>?_)⟩
    ·rcases hh with ⟨z,_⟩ | ⟨_,z2⟩
     ·walk_at "o"
     have δ5:3585 * (δ - 1) <= 3585 * 8:=Nat.mul_le_mul_left _ (by walk_at "o")
     have u0:g ^ (δ - 1) ≠ 0:=Int.pow_ne_zero I.inv.h0
     refine ⟨c,δ,3585,rfl,by walk_at "o",by decide,bc,⟨g,δ - 1,3585,by rw [show ((δ:Int) - 1) = ((δ - 1:Nat):Int) by walk_at "o"],by walk_at "o",by decide,I.bh,_,rfl,_,rfl,u0,?_⟩⟩
     have e1:(c ^ δ).fdiv (g ^ (δ - 1)) = g':=Int.eq_of_mul_eq_mul_right u0 (by rw [fdiv_mul u0 ⟨g',by rw [<- z2,Int.mul_comm]⟩,z2])
     rw [e1]
     exact fin u7 u11
    ·rcases hh with ⟨_,z⟩ | ⟨z,_⟩
     ·rw [<- z]
      exact fin u7 u11
     ·walk_at "o"
   have nt4:t ≠ rb:=ne_of_none ht3 nrb
   refine tSeq.gen fun M5 hM5=>?_
   walk_at "vc"
   refine ⟨_,tru_lst hrb,ite2 (fun hc2=>?_) (fun hc2=>hM5 _ _ ?_)⟩
   ·have ef:(c ^ (δ + 1)).fdiv S = lack:=Int.eq_of_mul_eq_mul_right S0 (by rw [fdiv_mul S0 ⟨lack,by rw [elk,Int.mul_comm]⟩,elk])
    rw [ef]
    have rs0:rs ≠ []:=fun z=>by rw [z] at hc2; cases hc2
    have lrs:=lp rs0
    refine ⟨S0,⟨_,.of (vw_lst hrb)⟩,fun d6 H6 hd6 S6 h6=>?_⟩
    refine comp_items (its:=rs.map V.int) (fun j zs H'=>Same (vw K H4) (vw K H') /\ zs = ((rs.take j).map fun y=>(lack * y).fdiv top).map V.int) (fun j zs H' _ _ z=>items_list (z.1 _ _ hrb)) h6 ⟨S6,rfl⟩ (fun j y zs H' hj hy h' z=>?_) (fun zs H7 h7 z=>?_)
    ·obtain ⟨z1,rfl⟩:=z
     rw [List.length_map] at hj
     rw [List.getElem?_map,List.getElem?_eq_getElem hj] at hy
     cases hy
     walk_at "vc"
     refine ⟨mulOk black (br _ (List.getElem_mem hj)) (by walk_at "o"),top0,.mk h' ?_ fun H8 B8 h8=>⟨fun y o e=>B8 _ _ (ne_of_none e hd6) (z1 _ _ e),?_⟩⟩
     ·rw [List.length_map,List.length_map,List.length_take]
      have:1000 <= sizeLine:=by decide
      walk_at "o"
     ·rw [List.take_add_one,List.getElem?_eq_getElem hj,List.map_append,List.map_append]
      rfl
    obtain ⟨S47,rfl⟩:=z
    rw [List.length_map,List.take_length] at h7
    refine ⟨ty_lst (S47 _ _ (S4 _ _ ht3)),⟨_,.of (vw_lst (S47 _ _ hqa))⟩,fun d8 H8 hd8 S8 h8=>?_⟩
    refine comp_items (its:=qs.map V.int) (fun j zs H'=>Same (vw K H7) (vw K H') /\ zs = ((qs.take j).map fun y=>lack * y).map V.int) (fun j zs H' _ _ z=>items_list (z.1 _ _ (S47 _ _ hqa))) h8 ⟨S8,rfl⟩ (fun j y zs H' hj hy h' z=>?_) (fun zs H9 h9 z=>?_)
    ·obtain ⟨z1,rfl⟩:=z
     rw [List.length_map] at hj
     rw [List.getElem?_map,List.getElem?_eq_getElem hj] at hy
     cases hy
     walk_at "vc"
     refine ⟨mulOk black (bq _ (List.getElem_mem hj)) (by walk_at "o"),.mk h' ?_ fun H8 B8 h8=>⟨fun y o e=>B8 _ _ (ne_of_none e hd8) (z1 _ _ e),?_⟩⟩
     ·rw [List.length_map,List.length_map,List.length_take]
      have:1000 <= sizeLine:=by decide
      walk_at "o"
     ·rw [List.take_add_one,List.getElem?_eq_getElem hj,List.map_append,List.map_append]
      rfl
    obtain ⟨S79,rfl⟩:=z
    have S49:=S47.trans S79
    refine ⟨by decide,fun p10 H10 hp10 S10 h10=>?_⟩
    have ht10:=S10 _ _ (S49 _ _ (S4 _ _ ht3))
    refine ⟨tv,ht10,?_,fun H11 B11 h11=>hM5 _ _ ?_⟩
    ·have:1000 <= sizeLine:=by decide
     walk_at "o"
    have nt6:t ≠ d6:=ne_of_none (S4 _ _ ht3) hd6
    have nt10:p10 ≠ t:=(ne_of_none (S49 _ _ (S4 _ _ ht3)) hp10).symm
    have S410:=S49.trans S10
    have hd7:=(S79.trans S10) _ _ h7
    have lRs:(rs.map fun y=>(lack * y).fdiv top).length = rs.length:=List.length_map _
    have eR:∀ k,nz (rs.map fun y=>(lack * y).fdiv top) k = r k:=fun k=>by
     have q1:=hR k
     cases ek:rs[k]? with
     | none =>
      have l:=List.getElem?_eq_none_iff.mp ek
      rw [nz_out l,Int.mul_zero] at q1
      rw [nz_out (by rw [lRs]; exact l)]
      rcases Int.mul_eq_zero.mp q1.symm with z | z
      ·exact absurd z top0
      ·exact z.symm
     | some y =>
      rw [nz_get ek] at q1
      rw [nz_get (n:=(lack * y).fdiv top) (by rw [List.getElem?_map,ek]; rfl)]
      exact Int.eq_of_mul_eq_mul_right top0 (by rw [fdiv_mul top0 ⟨_,q1⟩,q1,Int.mul_comm])
    have R0:(rs.map fun y=>(lack * y).fdiv top) ≠ []:=fun z=>rs0 (List.map_eq_nil_iff.mp z)
    have Rl0:nz (rs.map fun y=>(lack * y).fdiv top) ((rs.map fun y=>(lack * y).fdiv top).length - 1) ≠ 0:=by
     rw [lRs,eR]
     intro z
     have q1:=hR (rs.length - 1)
     rw [z,Int.mul_zero] at q1
     rcases Int.mul_eq_zero.mp q1 with y | y
     ·exact Int.pow_ne_zero c0 (hlack ▸ y)
     ·exact lrz (by walk_at "o") y
    have Rb:∀ x ∈ (rs.map fun y=>(lack * y).fdiv top),Bt 3585 x:=fun x hx=>by
     obtain ⟨k,hk⟩:=List.getElem?_of_mem hx
     rw [<- nz_get hk,eR]
     exact bR k
    have nzq:∀ i,nz (qs.map fun y=>lack * y) i = lack * nz qs i:=fun i=>by
     cases ek:qs[i]? with
     | none =>
      have l:=List.getElem?_eq_none_iff.mp ek
      rw [nz_out l,nz_out (by rw [List.length_map]; exact l),Int.mul_zero]
     | some y=>rw [nz_get ek,nz_get (n:=lack * y) (by rw [List.getElem?_map,ek]; rfl)]
    have evR:∀ k,c ^ (δ + 1) * nz Fs k = pz (nz (qs.map fun y=>lack * y)) (nz Gs) (qs.map fun y=>lack * y).length k + top * nz (rs.map fun y=>(lack * y).fdiv top) k:=fun k=>by
     rw [show nz (qs.map fun y=>lack * y) = fun i=>lack * nz qs i from funext nzq,List.length_map,lq2,ev2 k,eR,hR k]
    rw [List.length_map,List.take_length] at h9
    have hq10:=S10 _ _ h9
    have nt8:d8 ≠ t:=(ne_of_none ((S47) _ _ (S4 _ _ ht3)) hd8).symm
    refine key d6 _ (tv ++ [.ref p10]) (rows ++ [(rs.map fun y=>(lack * y).fdiv top,qs.map fun y=>lack * y,top,c ^ (δ + 1))]) H11 _ _ (fun y o e=>B11 _ _ (ne_of_none e nt) ((S3.trans (S4.trans S410)) _ _ e)) h11 (B11 _ _ nra ((S4.trans S410) _ _ hG)) (B11 _ _ nt6.symm hd7) nt6.symm (by rw [lRs]; exact lr) (by rw [lRs,List.length_append]; simp; walk_at "o") eR ⟨by rw [lRs]; walk_at "o",Rb,fun _=>Rl0⟩ (fun r' z=>?_) ⟨by simp [rt.1],fun k row e=>?_⟩ (fun row hrow=>?_)
    ·rw [List.append_assoc]
     exact gc _ (.more g0 (iG.2.2 g0) (Int.pow_ne_zero c0) top0 R0 Rl0 (by rw [lRs]; exact lr) evR z)
    ·by_cases hk:k < rows.length
     ·rw [List.getElem?_append_left hk] at e
      obtain ⟨p,ra',qa',a1,a2,a3,a4,a5,a6⟩:=rt.2 k row e
      have S3z:=S4.trans S410
      exact ⟨p,ra',qa',by rw [List.getElem?_append_left (by rw [rt.1]; exact hk)]; exact a1,B11 _ _ (fun z=>by rw [z,ht3] at a2; cases a2) (S3z _ _ a2),B11 _ _ a5 (S3z _ _ a3),B11 _ _ a6 (S3z _ _ a4),a5,a6⟩
     ·have hk2:k = rows.length:=by
       have:=(List.getElem?_eq_some_iff.mp e).1
       simp at this
       walk_at "o"
      subst hk2
      rw [List.getElem?_append_right (by walk_at "o"),Nat.sub_self] at e
      cases e
      exact ⟨p10,d6,d8,by rw [List.getElem?_append_right (by rw [rt.1]; walk_at "o"),rt.1,Nat.sub_self]; rfl,B11 _ _ nt10 h10,B11 _ _ nt6.symm hd7,B11 _ _ nt8 hq10,nt6.symm,nt8⟩
    ·rcases List.mem_append.mp hrow with z | z
     ·exact rwb row z
     ·cases List.mem_singleton.mp z
      exact ⟨by rw [lRs]; walk_at "o",fun x hx=>(Rb x hx).mono (by decide),btop,bgam⟩
   ·have r1:rs = []:=by
     cases rs with
     | nil=>rfl
     | cons _ _=>exact absurd rfl hc2
    subst r1
    refine key rb [] tv rows H4 _ _ (S3.trans S4) (S4 _ _ ht3) (S4 _ _ hG) hrb nt4.symm (by simp; walk_at "o") (by simp; walk_at "o") (fun k=>?_) ⟨by simp,by simp,fun z=>absurd rfl z⟩ (fun r' z=>?_) (rt.same S4) rwb
    ·have:=hR k
     rw [show nz [] k = 0 from nz_out (by simp),Int.mul_zero] at this
     rcases Int.mul_eq_zero.mp this.symm with z | z
     ·exact absurd z top0
     ·rw [show nz [] k = 0 from nz_out (by simp),z]
    ·have er:r' = []:=by
      cases z with
      | nought=>rfl
      | last h _ _ _=>exact absurd rfl h
      | more h _ _ _ _ _ _ _ _=>exact absurd rfl h
     subst er
     refine gc _ (.last g0 (iG.2.2 g0) S0 (Q:=qs) fun k=>?_)
     rw [ev k,show nz [] k = 0 from nz_out (by simp)]
     walk_at "o"
  ·have g1:Gs = []:=by
    cases Gs with
    | nil=>rfl
    | cons _ _=>exact absurd rfl hc
   subst g1
   walk_at "vc"
   have:=gc [] .nought
   rw [List.append_nil] at this
   exact h t H3 tv rows S3 ht3 rt this (by rw [<- rt.1]; walk_at "o") rwb
def sp_wholes_slope (K:PySem.W.Frag):Sp:=fun vs H Q _=>∃ (a:Addr) (ns:List Int),vs = [.ref a] /\ vw K H a = some (.lst (ns.map V.int)) /\ ns.length <= 9 /\ (∀ x ∈ ns,Bt 200 x) /\
 ∀ d H' (ms:List Int),Same (vw K H) (vw K H') -> vw K H' d = some (.lst (ms.map V.int)) -> vw K H d = none -> ms.length = ns.length - 1 -> (∀ k,nz ms k = ((k + 1:Nat):Int) * nz ns (k + 1)) -> (∀ x ∈ ms,Bt 220 x) -> Q (.ref d) H'
theorem ok_wholes_slope (F:Fun K "wholes_slope" "wholes_slope" s_wholes_slope f fd) (T:Txt K mg):FnOk P w K mg base CX0 1 f fd ["wholes"] (sp_wholes_slope K):=by
 have scN:=sc_wholes_slope.nd
 refine F.okQ sc_wholes_slope (fun vs H Q E h=>?_) (fun cdv A outer s H vs Q E hr h=>?_)
 ·obtain ⟨a,_,rfl,_⟩:=h
  rfl
 ·obtain ⟨a,ns,rfl,ha,lf,hf,h⟩:=h
  refine ⟨_,(qss_one (qs_ret (qe_comp (own:=["k"]) (outs:=["wholes"]) (ixs:=[0]) rfl (qi_range2 rfl T.b_range (qa_cons qe_int (qa_cons (qe_callB call_lenH (by rfl) T.b_len bt_len (qa_cons (qv 0) qa_nil)) qa_nil))) rfl ⟨rfl,rfl,rfl,⟨rfl,trivial⟩,rfl,⟨⟨rfl,rfl,rfl,_,rfl⟩,trivial⟩⟩ (fun _ _ _ _=>⟨(qg_name (i:=0) (show (["k", "wholes"]:List Str).Nodup by decide +kernel) rfl (by walk_at "a1")),qf_nil,(qe_op (show OpR _ _ (rMul K) from op_Mul) (qv 0) (qe_ix (show IxR _ (rIxH K) from ix_h) (qv 1) (qv 0) (fun _ _=>rfl)))⟩)))),?_⟩
  walk_at "vc"
  refine ⟨ns.length,by simp only [lenH,ha,List.length_map],by walk_at "o",by walk_at "o",by walk_at "o",by walk_at "o",fun d H1 hd S1 h1=>?_⟩
  rw [show ((ns.length:Int) - 1).toNat = ns.length - 1 by walk_at "o"]
  refine comp_items (its:=iots 1 (ns.length - 1)) (fun i zs H'=>Same (vw K H) (vw K H') /\ ∃ ms:List Int,ms.length = i /\ zs = ms.map V.int /\ (∀ x ∈ ms,Bt 220 x) /\ ∀ (j:Nat) (x:Int),ms[j]? = some x -> x = ((j + 1:Nat):Int) * nz ns (j + 1))
   (fun _ _ _ _ _ _=>items_range) h1 ⟨S1,[],rfl,rfl,by simp,by simp⟩ (fun i x zs H2 hi hx h2 p=>?_) (fun zs H2 h2 p=>?_)
  ·obtain ⟨S2,ms,lv,rfl,bv,hv⟩:=p
   obtain ⟨hi',rfl⟩:=iots_at hx
   rw [show (1:Int) + (i:Int) = ((i + 1:Nat):Int) by walk_at "o"]
   have hi2:i + 1 < ns.length:=by walk_at "o"
   have bi:Bt 5 ((i + 1:Nat):Int):=by
    show (((i + 1:Nat):Int)).natAbs < 2 ^ 5
    walk_at "o"
   have bn:=hf ns[i + 1] (List.getElem_mem hi2)
   walk_at "vc"
   refine ⟨_,S2 _ _ ha,V.int ns[i + 1],atI_nat (by rw [List.getElem?_map,List.getElem?_eq_getElem hi2]; rfl),?_⟩
   rw [rMul_int]
   refine ⟨mulOk bi bn (by decide),.mk h2 ?_ fun H5 B5 h5=>⟨fun b o e=>B5 _ _ (ne_of_none e hd) (S2 _ _ e),ms ++ [((i + 1:Nat):Int) * ns[i + 1]],by simp [lv],by simp,fun q hq=>?_,fun j q e=>?_⟩⟩
   ·rw [List.length_map,lv]
    have:1000 <= sizeLine:=by decide
    walk_at "o"
   ·rcases List.mem_append.mp hq with z | z
    ·exact bv q z
    ·cases List.mem_singleton.mp z
     exact (bi.mul bn).mono (by decide)
   ·by_cases hj:j < ms.length
    ·rw [List.getElem?_append_left hj] at e
     exact hv j q e
    ·have hj2:j = i:=by
      have:=(List.getElem?_eq_some_iff.mp e).1
      simp at this
      walk_at "o"
     subst hj2
     rw [List.getElem?_append_right (by walk_at "o"),lv,Nat.sub_self] at e
     cases e
     rw [nz_get (List.getElem?_eq_getElem hi2)]
  ·obtain ⟨S2,ms,lv,rfl,bv,hv⟩:=p
   rw [iots_len] at lv
   refine h d H2 ms S2 h2 hd lv (fun k=>?_) bv
   by_cases hk:k < ms.length
   ·rw [nz_get (List.getElem?_eq_getElem hk)]
    exact hv k _ (List.getElem?_eq_getElem hk)
   ·rw [nz_out (by walk_at "o"),nz_out (by walk_at "o"),Int.mul_zero]
def sp_slope (K:PySem.W.Frag):Sp:=fun vs H Q _=>∃ (a:Addr) (fs:List (Int × Int)),vs = [.ref a] /\ LsAt (vw K H) a fs /\ fs.length <= 40 /\ (∀ q ∈ fs,Fq q /\ Bq 400 q) /\ PolyOk fs /\
 ∀ d H' (rs:List (Int × Int)),Same (vw K H) (vw K H') -> LsAt (vw K H') d rs -> vw K H d = none -> PolyOk rs -> (∀ k,cf rs k = ((k + 1:Nat):Int) * cf fs (k + 1)) -> rs.length = fs.length - 1 -> Q (.ref d) H'
theorem ok_slope (F:Fun K "slope" "slope" s_slope f fd) (T:Txt K mg) (C_times:Cal P w K mg base "times" ["one", "other"] 3 (sp_times K)):FnOk P w K mg base CX0 4 f fd ["f"] (sp_slope K):=by
 have scN:=sc_slope.nd
 refine F.okQ sc_slope (fun vs H Q E h=>?_) (fun cdv A outer s H vs Q E hr h=>?_)
 ·obtain ⟨a,_,rfl,_⟩:=h
  rfl
 ·obtain ⟨a,fs,rfl,ha,lf,hf,pf,h⟩:=h
  refine ⟨_,(qss_one (qs_ret (qe_comp (own:=["k"]) (outs:=["f"]) (ixs:=[0]) rfl (qi_range2 rfl T.b_range (qa_cons qe_int (qa_cons (qe_callB call_lenH (by rfl) T.b_len bt_len (qa_cons (qv 0) qa_nil)) qa_nil))) rfl ⟨rfl,rfl,rfl,⟨rfl,trivial⟩,rfl,⟨⟨rfl,rfl,rfl,_,rfl⟩,trivial⟩⟩ (fun _ _ _ _=>⟨(qg_name (i:=0) (show (["k", "f"]:List Str).Nodup by decide +kernel) rfl (by walk_at "a1")),qf_nil,(qe_cal C_times (hr.mono (by walk_at "a2")) rfl (qa_cons (show QE _ _ (tTupS K _) from qe_tupS (qa_cons (qv 0) (qa_cons qe_int qa_nil))) (qa_cons (qe_ix (show IxR _ (rIxH K) from ix_h) (qv 1) (qv 0) (fun _ _=>rfl)) qa_nil)))⟩)))),?_⟩
  walk_at "vc"
  obtain ⟨xs,hxs,rxs⟩:=id ha
  have hlx:xs.length = fs.length:=by rw [rxs.length,List.length_map]
  refine ⟨_,ha.len,by walk_at "o",by walk_at "o",by walk_at "o",by walk_at "o",fun d H1 hd S1 h1=>?_⟩
  rw [show ((fs.length:Int) - 1).toNat = fs.length - 1 by walk_at "o"]
  have f1:∀ k:Nat,Fq (((k:Nat):Int),1):=fun k=>⟨Int.one_pos,by simp⟩
  refine comp_items (its:=iots 1 (fs.length - 1)) (fun i zs H'=>Same (vw K H) (vw K H') /\ ∃ vs:List (Int × Int),vs.length = i /\ Reps (vw K H') (vs.map fr) zs /\ (∀ q ∈ vs,Fq q) /\ ∀ (j:Nat) (q:Int × Int),vs[j]? = some q -> wv q = ((j + 1:Nat):Int) * cf fs (j + 1))
   (fun _ _ _ _ _ _=>items_range) h1 ⟨S1,[],rfl,.mk_nil,by simp,by simp⟩ (fun i x zs H2 hi hx h2 p=>?_) (fun zs H2 h2 p=>?_)
  ·obtain ⟨S2,vs,lv,rv,fv,hv⟩:=p
   obtain ⟨hi',rfl⟩:=iots_at hx
   rw [show (1:Int) + (i:Int) = ((i + 1:Nat):Int) by walk_at "o"]
   have hi2:i + 1 < fs.length:=by walk_at "o"
   obtain ⟨x2,e2,r2⟩:=rxs.at (i:=i + 1) (d:=fr fs[i + 1]) (by rw [List.getElem?_map,List.getElem?_eq_getElem hi2]; rfl)
   obtain ⟨k1,k2⟩:=hf fs[i + 1] (List.getElem_mem hi2)
   have bi:Bq 10 (((i + 1:Nat):Int),1):=by
    refine ⟨?_,(by decide:Bt 10 1)⟩
    show (((i + 1:Nat):Int)).natAbs < 2 ^ 10
    walk_at "o"
   walk_at "vc"
   refine ⟨by decide,fun p3 H3 hp3 S3 h3=>⟨xs,S3 _ _ (S2 _ _ hxs),x2,atI_nat e2,?_⟩⟩
   simp only [sp_times]
   walk_at "vc"
   refine ⟨_,rep_pair h3,_,Rep.same (S2.trans S3) _ _ r2,(f1 (i + 1)).ne,k1.ne,bi.mono (by decide),k2.mono (by decide),(bi.2.mul k2.2).mono (by decide),fun v4 H4 S4 r4=>.mk ((S3.trans S4) _ _ h2) ?_ fun H5 B5 h5=>⟨fun b o e=>B5 _ _ (ne_of_none e hd) (S4 _ _ (S3 _ _ (S2 _ _ e))),vs ++ [mulq (((i + 1:Nat):Int),1) fs[i + 1]],by simp [lv],?_,fun q hq=>?_,fun j q e=>?_⟩⟩
   ·rw [rv.length,List.length_map,lv]
    have:1000 <= sizeLine:=by decide
    walk_at "o"
   ·rw [List.map_append]
    exact (Reps.flat_but ((S3.trans S4) _ _ h2) B5 _ _ (flats_fr vs) (rv.same (S3.trans S4))).snoc (Rep.flat_but ((S3.trans S4) _ _ h2) B5 _ _ (fr_flat _) r4)
   ·rcases List.mem_append.mp hq with z | z
    ·exact fv q z
    ·cases List.mem_singleton.mp z
     exact mulq_Fq (f1 (i + 1)) k1
   ·by_cases hj:j < vs.length
    ·rw [List.getElem?_append_left hj] at e
     exact hv j q e
    ·have hj2:j = i:=by
      have:=(List.getElem?_eq_some_iff.mp e).1
      simp at this
      walk_at "o"
     subst hj2
     rw [List.getElem?_append_right (by walk_at "o"),lv,Nat.sub_self] at e
     cases e
     rw [wv_mul (f1 (j + 1)).ne k1.ne,cf_some (List.getElem?_eq_getElem hi2)]
     have e1:wv (((j + 1:Nat):Int),1) = ((j + 1:Nat):Int):=by
      show (((j + 1:Nat):Int):Rat) / ((1:Int):Rat) = _
      have:((1:Int):Rat) = 1:=rfl
      rw [this]
      grind
     rw [e1]
  ·obtain ⟨S2,vs,lv,rv,fv,hv⟩:=p
   rw [iots_len] at lv
   refine h d H2 vs S2 ⟨zs,h2,rv⟩ hd ⟨fv,fun q hq=>?_⟩ (fun k=>?_) lv
   ·intro e0
    have hl:0 < vs.length:=by
     cases vs with
     | nil=>cases hq
     | cons _ _=>simp
    rw [List.getLast?_eq_getElem?] at hq
    have e1:=hv _ q hq
    rw [(wv_zero (fv q (List.mem_of_getElem? hq)).ne).mpr e0] at e1
    have e2:fs[vs.length - 1 + 1]? = some (fs[vs.length - 1 + 1]'(by walk_at "o")):=List.getElem?_eq_getElem (by walk_at "o")
    rw [cf_some e2] at e1
    have e3:fs.getLast? = some (fs[vs.length - 1 + 1]'(by walk_at "o")):=by
     rw [List.getLast?_eq_getElem?,<- e2]
     congr 1
     walk_at "o"
    have e4:=pf.2 _ e3
    have e5:wv (fs[vs.length - 1 + 1]'(by walk_at "o")) ≠ 0:=fun z=>e4 ((wv_zero (pf.1 _ (List.getElem_mem _)).ne).mp z)
    have e6:(((vs.length - 1 + 1:Nat):Int):Rat) ≠ 0:=cast_ne (by walk_at "o")
    grind
   ·by_cases hk:k < vs.length
    ·rw [cf_some (List.getElem?_eq_getElem hk)]
     exact hv k _ (List.getElem?_eq_getElem hk)
    ·rw [cf_none (by walk_at "o"),cf_none (qs:=fs) (by walk_at "o")]
     grind
def sp_refuse_nought (K:PySem.W.Frag):Sp:=fun vs H Q _=>∃ (a:Addr) (xs:List V),vs = [.ref a] /\ vw K H a = some (.lst xs) /\ xs ≠ [] /\ ∀ H',Same (vw K H) (vw K H') -> Q .non H'
theorem ok_refuse_nought (F:Fun K "refuse_nought" "refuse_nought" s_refuse_nought f fd) (T:Txt K mg):FnOk P w K mg base CX0 1 f fd ["f"] (sp_refuse_nought K):=by
 have scN:=sc_refuse_nought.nd
 refine F.okQ sc_refuse_nought (fun vs H Q E h=>?_) (fun cdv A outer s H vs Q E hr h=>?_)
 ·obtain ⟨_,_,rfl,_⟩:=h
  rfl
 ·obtain ⟨a,xs,rfl,ha,x0,h⟩:=h
  refine ⟨_,(qss_one (qs_if (qt_not (qt_truth (qv 0) (fun _=>rfl))) (qss_one qs_never) qss_nil)),?_⟩
  walk_at "vc"
  refine ⟨_,tru_lst ha,?_⟩
  exact iteN (by cases xs with | nil=>exact absurd rfl x0 | cons _ _=>simp) (h H (Same.refl _))
def spx_refuse_nought (C:Addr) (K:PySem.W.Frag):Sp:=fun vs H _ E=>∃ (a:Addr),vs = [.ref a] /\ vw K H a = some (.lst []) /\ ∀ H',Same (vw K H) (vw K H') -> E (.ref C) none H'
theorem okx_refuse_nought {C:Addr} (F:Fun K "refuse_nought" "refuse_nought" s_refuse_nought f fd) (T:Txt K mg) (zx_NoPolynomial:OwnX K C) (hgx_NoPolynomial:mg "NoPolynomial" = some (.ref C)):FnOk P w K mg base (CX1 P w) 1 f fd ["f"] (spx_refuse_nought C K):=by
 have scN:=sc_refuse_nought.nd
 refine F.okX sc_refuse_nought (fun vs H Q E h=>?_) (fun cdv A outer s H vs Q E hr h=>?_)
 ·obtain ⟨_,rfl,_⟩:=h
  rfl
 ·obtain ⟨a,rfl,ha,h⟩:=h
  refine ⟨_,(qss_one (qs_if (qt_not (qt_truth (qv 0) (fun _=>rfl))) (qss_one (qs_raise zx_NoPolynomial rfl hgx_NoPolynomial (qa_cons qe_str qa_nil))) qss_nil)),?_⟩
  walk_at "vc"
  refine ⟨_,tru_lst ha,?_⟩
  refine iteP rfl ?_
  simp only [tRaise]
  walk_at "vc"
  exact ⟨by decide,h H (Same.refl _)⟩
def sp_divided (K:PySem.W.Frag):Sp:=fun vs H Q _=>∃ (a:Addr) (ns:List Int) (d:Int),vs = [.ref a,.int d] /\ vw K H a = some (.lst (ns.map V.int)) /\ ns.length <= 100 /\ d ≠ 0 /\ Bt 3000000 d /\
 ∀ c H' (rs:List (Int × Int)),Same (vw K H) (vw K H') -> LsAt (vw K H') c rs -> vw K H c = none -> PolyOk rs -> (∀ k,cf rs k = ((nz ns k:Int):Rat) / (d:Rat)) -> rs.length <= ns.length -> (∀ q ∈ rs,∃ n ∈ ns,q = lo n d) -> Q (.ref c) H'
theorem ok_divided (F:Fun K "divided" "divided" s_divided f fd) (T:Txt K mg) (C_trimmed:Cal P w K mg base "trimmed" ["numbers", "zero"] 1 (sp_trimmed K)) (C_ratio:Cal P w K mg base "ratio" ["top", "bottom"] 2 (sp_ratio K)):FnOk P w K mg base CX0 3 f fd ["wholes", "bottom"] (sp_divided K):=by
 have scN:=sc_divided.nd
 refine F.okQ sc_divided (fun vs H Q E h=>?_) (fun cdv A outer s H vs Q E hr h=>?_)
 ·obtain ⟨a,_,_,rfl,_⟩:=h
  rfl
 ·obtain ⟨a,ns,d,rfl,ha,ln,nd,bd,h⟩:=h
  obtain ⟨z_ZERO,hg_ZERO,hv_ZERO⟩:=T.g_ZERO
  refine ⟨_,(qss_one (qs_ret (qe_cal C_trimmed (hr.mono (by walk_at "a2")) rfl (qa_cons (qe_comp (own:=["whole"]) (outs:=["bottom"]) (ixs:=[1]) rfl (qi_list (qv 0)) rfl ⟨rfl,rfl,rfl,⟨rfl,trivial⟩,rfl,⟨⟨rfl,rfl,rfl,_,rfl⟩,trivial⟩⟩ (fun _ _ _ _=>⟨(qg_name (i:=0) (show (["whole", "bottom"]:List Str).Nodup by decide +kernel) rfl (by walk_at "a1")),qf_nil,(qe_cal C_ratio (hr.mono (by walk_at "a2")) rfl (qa_cons (qv 0) (qa_cons (qv 1) qa_nil)))⟩)) (qa_cons (qe_glob (v:=V.ref z_ZERO) rfl hg_ZERO rfl) qa_nil))))),?_⟩
  walk_at "vc"
  refine ⟨⟨_,.of (vw_lst ha)⟩,fun e H1 he S1 h1=>?_⟩
  refine comp_items (its:=ns.map V.int) (fun i zs H'=>Same (vw K H) (vw K H') /\ Reps (vw K H') (((ns.take i).map fun n=>lo n d).map fr) zs)
   (fun _ _ H' _ _ p=>items_list (p.1 _ _ ha)) h1 ⟨S1,.mk_nil⟩ (fun i x zs H2 hi hx h2 p=>?_) (fun zs H2 h2 p=>?_)
  ·obtain ⟨S2,rv⟩:=p
   rw [List.length_map] at hi
   rw [List.getElem?_map,List.getElem?_eq_getElem hi] at hx
   cases hx
   walk_at "vc"
   simp only [sp_ratio]
   walk_at "vc"
   refine ⟨nd,bd.mono (by decide),fun v3 H3 S3 r3=>.mk (S3 _ _ h2) ?_ fun H4 B4 h4=>⟨fun b o e'=>B4 _ _ (ne_of_none e' he) (S3 _ _ (S2 _ _ e')),?_⟩⟩
   ·rw [rv.length,List.length_map,List.length_map,List.length_take]
    have:1000 <= sizeLine:=by decide
    walk_at "o"
   ·rw [List.take_add_one,List.getElem?_eq_getElem hi,List.map_append,List.map_append]
    exact (Reps.flat_but (S3 _ _ h2) B4 _ _ (flats_fr _) (rv.same S3)).snoc (Rep.flat_but (S3 _ _ h2) B4 _ _ (fr_flat _) r3)
  ·obtain ⟨S2,rv⟩:=p
   rw [List.length_map,List.take_length] at rv
   walk_at "vc"
   simp only [sp_trimmed]
   refine .inl ?_
   walk_at "vc"
   refine ⟨_,⟨zs,h2,rv⟩,hv_ZERO _,fun q hq=>?_,fun c H3 rs S3 l3 n3 p3 c3 e3 m3=>h c H3 rs (S2.trans S3) l3 ?_ p3 (fun k=>?_) ?_ fun q hq=>?_⟩
   ·obtain ⟨n,_,rfl⟩:=List.mem_map.mp hq
    exact lo_Fq nd
   ·cases e':vw K H c with
    | none=>rfl
    | some o=>rw [S2 _ _ e'] at n3; cases n3
   ·rw [c3 k]
    by_cases hk:k < ns.length
    ·rw [nz_get (List.getElem?_eq_getElem hk),cf_some (q:=lo ns[k] d) (by rw [List.getElem?_map,List.getElem?_eq_getElem hk]; rfl)]
     exact wv_lo nd
    ·rw [cf_none (by rw [List.length_map]; walk_at "o"),nz_out (by walk_at "o")]
     show 0 = ((0:Int):Rat) / (d:Rat)
     grind
   ·rw [List.length_map] at e3
    exact e3
   ·obtain ⟨n,h1,h2⟩:=List.mem_map.mp (m3 q hq)
    exact ⟨n,h1,h2.symm⟩
def CmAt (G:Hp) (t:Addr) (pss:List (List (Int × Int))) (Pr:Addr -> Prop):Prop:=∃ xs,G t = some (.lst xs) /\ xs.length = pss.length /\ ∀ (k:Nat) ps,pss[k]? = some ps -> ∃ l:Addr,xs[k]? = some (.ref l) /\ LsAt G l ps /\ Pr l
theorem CmAt.same {G G':Hp} {t:Addr} {pss:List (List (Int × Int))} {Pr:Addr -> Prop} (h:CmAt G t pss Pr) (S:Same G G'):CmAt G' t pss Pr:=by
 obtain ⟨xs,a,b,c⟩:=h
 refine ⟨xs,S _ _ a,b,fun k ps e=>?_⟩
 obtain ⟨l,e1,e2,e3⟩:=c k ps e
 exact ⟨l,e1,e2.same S,e3⟩
theorem CmAt.snoc {G G':Hp} {t l:Addr} {xs:List V} {pss:List (List (Int × Int))} {ps:List (Int × Int)} {Pr:Addr -> Prop} (h:CmAt G t pss (fun l=>Pr l /\ l ≠ t)) (hx:G t = some (.lst xs)) (B:But t G G') (hl:LsAt G l ps) (pl:Pr l) (nl:l ≠ t) (e:G' t = some (.lst (xs ++ [.ref l]))):CmAt G' t (pss ++ [ps]) (fun l=>Pr l /\ l ≠ t):=by
 obtain ⟨ys,a,b,c⟩:=h
 rw [hx] at a
 cases a
 have up:∀ {m:Addr} {qs:List (Int × Int)},m ≠ t -> LsAt G m qs -> LsAt G' m qs:=fun nm lm=>by
  obtain ⟨zs,hz,rz⟩:=lm
  exact ⟨zs,B _ _ nm hz,Reps.flat_but hx B _ _ (flats_fr _) rz⟩
 refine ⟨_,e,by simp [b],fun k qs ek=>?_⟩
 by_cases hk:k < pss.length
 ·rw [List.getElem?_append_left hk] at ek
  obtain ⟨m,e1,e2,e3⟩:=c k qs ek
  exact ⟨m,by rw [List.getElem?_append_left (by walk_at "o")]; exact e1,up e3.2 e2,e3⟩
 ·have hk2:k = pss.length:=by
   have:=(List.getElem?_eq_some_iff.mp ek).1
   simp at this
   walk_at "o"
  subst hk2
  rw [List.getElem?_append_right (by walk_at "o"),Nat.sub_self] at ek
  cases ek
  exact ⟨l,by rw [List.getElem?_append_right (by walk_at "o"),b,Nat.sub_self]; rfl,up nl hl,pl,nl⟩
def chl (fs gs:List (Int × Int)) (rs:List (List (Int × Int))):List (List (Int × Int)):=if gs = [] then [fs] else fs :: gs :: rs
def sp_chain (K:PySem.W.Frag):Sp:=fun vs H Q _=>∃ (a:Addr) (fs:List (Int × Int)),vs = [.ref a] /\ LsAt (vw K H) a fs /\ fs ≠ [] /\ fs.length <= 9 /\ PolyOk fs /\ Pb 185 (cf fs) /\
 ∀ (t:Addr) H' gs rs,Same (vw K H) (vw K H') -> vw K H t = none -> CmAt (vw K H') t (chl fs gs rs) (fun l=>vw K H l = none /\ l ≠ t) -> PolyOk gs -> (∀ k,cf gs k = ((k + 1:Nat):Int) * cf fs (k + 1)) -> gs.length = fs.length - 1 -> Chn fs gs rs -> rs.length <= 9 -> (∀ r ∈ rs,r.length <= 9 /\ Pb 400000 (cf r)) -> Q (.ref t) H'
theorem ok_chain (F:Fun K "chain" "chain" s_chain f fd) (T:Txt K mg) (C_refuse_nought:Cal P w K mg base "refuse_nought" ["f"] 1 (sp_refuse_nought K)) (C_cleared:Cal P w K mg base "cleared" ["f"] 2 (sp_cleared K)) (C_slope:Cal P w K mg base "slope" ["f"] 4 (sp_slope K)) (C_wholes_rests:Cal P w K mg base "wholes_rests" ["one", "other"] 3 (sp_wholes_rests K)) (C_wholes_slope:Cal P w K mg base "wholes_slope" ["wholes"] 1 (sp_wholes_slope K)) (C_ratio:Cal P w K mg base "ratio" ["top", "bottom"] 2 (sp_ratio K)) (C_divided:Cal P w K mg base "divided" ["wholes", "bottom"] 3 (sp_divided K)):FnOk P w K mg base CX0 5 f fd ["f"] (sp_chain K):=by
 have scN:=sc_chain.nd
 refine F.okQ sc_chain (fun vs H Q E h=>?_) (fun cdv A outer s H vs Q E hr h=>?_)
 ·obtain ⟨_,_,rfl,_⟩:=h
  rfl
 ·obtain ⟨a,fs,rfl,ha,f0,lf,pf,bf,h⟩:=h
  refine ⟨_,(qss_cons (qs_expr (qe_cal C_refuse_nought (hr.mono (by walk_at "a2")) rfl (qa_cons (qv 0) qa_nil)))
   (qss_cons (qs_asg (qe_cal C_cleared (hr.mono (by walk_at "a2")) rfl (qa_cons (qv 0) qa_nil)) (qg_tupH (n:=2) rfl (qgs_cons (qg_name (i:=1) scN rfl (by walk_at "a1")) (qgs_cons (qg_name (i:=2) scN rfl (by walk_at "a1")) qgs_nil))))
   (qss_cons (qs_set (i:=3) scN rfl (by walk_at "a1") (qe_lstS (qa_cons (qe_callTy call_listS (by rfl) T.b_list bt_list (qa_cons (qv 0) qa_nil)) qa_nil)))
   (qss_cons (qs_if (qt_cmpR op_gt (qe_callB call_lenH (by rfl) T.b_len bt_len (qa_cons (qv 0) qa_nil)) qe_int (nomark _)) (qss_one (qs_expr (qe_bm PySem.F.plainAttrs_list PySem.F.slot_list_append PySem.F.type_list_append mt_appendS (qv 3) (qa_cons (qe_cal C_slope (hr.mono (by walk_at "a2")) rfl (qa_cons (qv 0) qa_nil)) qa_nil)))) qss_nil)
   (qss_cons (qs_asg2 (qe_tupS (qa_cons qe_int (qa_cons (qv 2) qa_nil))) (qg_name (i:=4) scN rfl (by walk_at "a1")) (qg_name (i:=5) scN rfl (by walk_at "a1")))
   (qss_cons (qs_for PassesOwn.never rfl (qi_list (qe_cal C_wholes_rests (hr.mono (by walk_at "a2")) rfl (qa_cons (qv 1) (qa_cons (qe_cal C_wholes_slope (hr.mono (by walk_at "a2")) rfl (qa_cons (qv 1) qa_nil)) qa_nil)))) (qg_tupH (n:=4) rfl (qgs_cons (qg_name (i:=6) scN rfl (by walk_at "a1")) (qgs_cons (qg_name (i:=7) scN rfl (by walk_at "a1")) (qgs_cons (qg_name (i:=8) scN rfl (by walk_at "a1")) (qgs_cons (qg_name (i:=9) scN rfl (by walk_at "a1")) qgs_nil))))) (qss_cons (qs_asg (qe_tupS (qa_cons (qv 5) (qa_cons (qe_cal C_ratio (hr.mono (by walk_at "a2")) rfl (qa_cons (qe_op op_Mul (qe_un un_neg (qe_ix ix_u (qv 4) qe_int (fun _ _=>rfl))) (qv 8)) (qa_cons (qe_op op_Mul (qe_ix ix_u (qv 4) qe_int (fun _ _=>rfl)) (qv 9)) qa_nil))) qa_nil))) (qg_tupH (n:=2) rfl (qgs_cons (qg_name (i:=4) scN rfl (by walk_at "a1")) (qgs_cons (qg_name (i:=5) scN rfl (by walk_at "a1")) qgs_nil))))
   (qss_one (qs_expr (qe_bm PySem.F.plainAttrs_list PySem.F.slot_list_append PySem.F.type_list_append mt_appendS (qv 3) (qa_cons (qe_cal C_divided (hr.mono (by walk_at "a2")) rfl (qa_cons (qe_comp (own:=["whole"]) (outs:=["latter"]) (ixs:=[5]) rfl (qi_list (qv 6)) rfl ⟨rfl,rfl,rfl,⟨rfl,trivial⟩,rfl,⟨⟨rfl,rfl,rfl,_,rfl⟩,trivial⟩⟩ (fun _ _ _ _=>⟨(qg_name (i:=0) (show (["whole", "latter"]:List Str).Nodup by decide +kernel) rfl (by walk_at "a1")),qf_nil,(qe_op (show OpR _ _ (rMul K) from op_Mul) (qe_ix (show IxR _ (rIxU K) from ix_u) (qv 1) qe_int (fun _ _=>rfl)) (qv 0))⟩)) (qa_cons (qe_ix ix_u (qv 5) qe_int (fun _ _=>rfl)) qa_nil))) qa_nil))))))
   (qss_one (qs_ret (qv 3))))))))),?_⟩
  obtain ⟨xs,hxs,rxs⟩:=id ha
  have lx:xs.length = fs.length:=by rw [rxs.length,List.length_map]
  have x0:xs ≠ []:=fun z=>f0 (List.length_eq_zero_iff.mp (by rw [<- lx,z]; rfl))
  refine tSeq.gen fun N1 hN1=>?_
  walk_at "vc"
  simp only [sp_refuse_nought]
  refine ⟨a,xs,rfl,hxs,x0,fun H1 S1=>hN1 _ _ ?_⟩
  refine tSeq.gen fun N2 hN2=>?_
  walk_at "vc"
  simp only [sp_cleared]
  have bq:=bf.bq pf.1
  refine ⟨a,fs,185,rfl,ha.same S1,by walk_at "o",by decide,fun q z=>⟨pf.1 q z,bq q z⟩,fun p b H2 D ns S2 h2 hb nb hD _ ln hn hm=>⟨p,rfl,_,h2,rfl,_,_,rfl,_,_,rfl,rfl,hN2 _ _ ?_⟩⟩
  have hc2:=cleared_bt bf pf.1 hD hm ln fun i n q e1 e2=>(hn i n q e1 e2).1
  have cl:=nz_clear ln fun i n q e1 e2=>(hn i n q e1 e2).1
  refine tSeq.gen fun N3 hN3=>?_
  walk_at "vc"
  refine ⟨xs,(S1.trans S2) _ _ hxs,fun c H3 hc S3 h3=>⟨by decide,fun t H4 ht S4 h4=>hN3 _ _ ?_⟩⟩
  refine tSeq.gen fun N4 hN4=>?_
  walk_at "vc"
  have S02:=S1.trans S2
  have S04:=S02.trans (S3.trans S4)
  have ht0:vw K H t = none:=(S02.trans S3).none ht
  have hc0:vw K H c = none:=S02.none hc
  have nct:c ≠ t:=ne_of_none h3 ht
  have nbt:b ≠ t:=ne_of_none (S3 _ _ hb) ht
  have c1:CmAt (vw K H4) t [fs] (fun l=>vw K H l = none /\ l ≠ t):=by
   refine ⟨_,h4,rfl,fun k ps e=>?_⟩
   cases k with
   | zero =>
    cases e
    exact ⟨c,rfl,⟨xs,S4 _ _ h3,rxs.same S04⟩,hc0,nct⟩
   | succ k=>simp at e
  have key:∀ (gs:List (Int × Int)) (H5:Hp),Same (vw K H) (vw K H5) -> vw K H5 b = some (.lst (ns.map V.int)) -> CmAt (vw K H5) t (chl fs gs []) (fun l=>vw K H l = none /\ l ≠ t) -> PolyOk gs -> (∀ k,cf gs k = ((k + 1:Nat):Int) * cf fs (k + 1)) -> gs.length = fs.length - 1 -> N4 [some (.ref a),some (.ref b),some (.int D),some (.ref t),none,none,none,none,none,none] H5:=by
   intro gs H5 S5 hb5 cm5 pg cg lg'
   refine hN4 _ _ ?_
   refine tSeq.gen fun N5 hN5=>?_
   simp only [tAsg2]
   walk_at "vc"
   refine ⟨by decide,fun x0' H6 hx0 S6 h6=>hN5 _ _ ?_⟩
   refine tSeq.gen fun N6 hN6=>?_
   walk_at "vc"
   simp only [sp_wholes_slope]
   refine ⟨b,ns,rfl,S6 _ _ hb5,by walk_at "o",fun x z=>(hc2.2 x z).mono (by decide),fun e H7 ms S7 h7 ne' lm cm bm=>?_⟩
   simp only [sp_wholes_rests]
   have D0:(D:Rat) ≠ 0:=cast_ne (by walk_at "o")
   have lfp:0 < fs.length:=List.length_pos_iff.mpr f0
   have nl:nz ns (ns.length - 1) ≠ 0:=fun z=>by
    have q1:=cl (ns.length - 1)
    have q2:=poly_lead pf f0
    rw [z,ln] at q1
    have:cf fs (fs.length - 1) * (D:Rat) = 0:=q1.symm
    rcases Rat.mul_eq_zero.mp this with y | y
    ·exact q2 y
    ·exact D0 y
   have ml:ms ≠ [] -> nz ms (ms.length - 1) ≠ 0:=fun z=>by
    have:=List.length_pos_iff.mpr z
    rw [cm,show ms.length - 1 + 1 = ns.length - 1 by walk_at "o"]
    exact Int.mul_ne_zero (by walk_at "o") nl
   refine ⟨b,e,ns,ms,rfl,S7 _ _ (S6 _ _ hb5),h7,fun z=>by rw [z] at ln; simp at ln; walk_at "o",by walk_at "o",⟨by walk_at "o",fun x z=>(hc2.2 x z).mono (by decide),fun _=>nl⟩,⟨by walk_at "o",bm,ml⟩,fun d H8 tv rows S8 h8 rr rst lrw rb=>?_⟩
   walk_at "vc"
   have S58:=S6.trans (S7.trans S8)
   have S08:=S5.trans S58
   have cm8:=cm5.same S58
   obtain ⟨ys,hys,lys,cys⟩:=id cm8
   have h0:(chl fs gs [])[0]? = some fs:=by
    unfold chl
    split <;> rfl
   obtain ⟨l0,y0,⟨zs0,hz0,_⟩,_⟩:=cys 0 fs h0
   have ndt:d ≠ t:=fun z=>by
    subst z
    rw [h8] at hys
    cases hys
    have:0 < tv.length:=(List.getElem?_eq_some_iff.mp y0).1
    have hr0:0 < rows.length:=by rw [<- rr.1]; exact this
    obtain ⟨p',_,_,q1,q2,_⟩:=rr.2 0 _ (List.getElem?_eq_getElem hr0)
    rw [q1] at y0
    cases y0
    rw [hz0] at q2
    cases q2
   have nint:∀ (l:Addr) (is:List Int),vw K H8 l = some (.lst (is.map V.int)) -> l ≠ t:=fun l is e z=>by
    subst z
    rw [hys] at e
    cases e
    rw [List.getElem?_map] at y0
    cases q:is[0]? with
    | none=>rw [q] at y0; cases y0
    | some _=>rw [q] at y0; cases y0
   have ntup:∀ (l:Addr) us,vw K H8 l = some (.tup us) -> l ≠ t:=fun l us e z=>by
    subst z
    rw [hys] at e
    cases e
   obtain ⟨Pv,hPv⟩ : ∃ Pv:Nat -> St -> Hp -> Prop,∀ i σ H',Pv i σ H' ↔ ∃ (o6 o7 o8 o9:Option V) (x y:V) (p q:Int × Int) (rs:List (List (Int × Int))),σ = [some (.ref a),some (.ref b),some (.int D),some (.ref t),some x,some y,o6,o7,o8,o9] /\ But t (vw K H8) (vw K H') /\ CmAt (vw K H') t (chl fs gs [] ++ rs) (fun l=>vw K H l = none /\ l ≠ t) /\ rs.length = i /\ Rep (vw K H') (fr p) x /\ Rep (vw K H') (fr q) y /\ Fq p /\ Fq q /\ Bq (200 + 40000 * i) p /\ Bq (200 + 40000 * i) q /\ (wv p,wv q) = ab (1 / (D:Rat)) (1 / (D:Rat)) rows i /\
    ∀ (j:Nat) r row,rs[j]? = some r -> rows[j]? = some row -> (PolyOk r /\ ∀ k,cf r k = (ab (1 / (D:Rat)) (1 / (D:Rat)) rows (j + 1)).2 * (nz row.1 k:Rat)) /\ r.length <= 9 /\ Pb 400000 (cf r):=⟨_,fun _ _ _=>Iff.rfl⟩
   have r1:Rep (vw K H8) (fr (1,D)) (.ref x0'):=rep_pair (S8 _ _ (S7 _ _ h6))
   have f1:Fq (1,D):=⟨by walk_at "o",by simp⟩
   have b1:Bq (200 + 40000 * 0) (1,D):=⟨Bt.mono (m:=1) (show Bt 1 1 by decide) (by decide),hc2.1.mono (by decide)⟩
   have e1:wv (1,D) = 1 / (D:Rat):=rfl
   refine ⟨⟨_,.of (vw_lst h8)⟩,for_items (its:=tv) Pv (fun i σ H' _ q=>?_) ((hPv _ _ _).mpr ⟨_,_,_,_,_,_,(1,D),(1,D),[],rfl,fun _ _ _ z=>z,by rw [List.append_nil]; exact cm8,rfl,r1,r1,f1,f1,b1,b1,by rw [e1]; cases rows <;> rfl,fun j r row e _=>by simp at e⟩) (fun i x σ H9 hi hx pv=>?_) (fun σ H9 pv=>?_)⟩
   ·obtain ⟨_,_,_,_,_,_,_,_,_,_,B',_⟩:=(hPv _ _ _).mp q
    exact items_list (B' _ _ ndt h8)
   ·obtain ⟨o6,o7,o8,o9,x',y,p,q,rs,rfl,B9,cm9,lrs,rp,rq,fp,fq,bp,bqq,eab,hrs⟩:=(hPv _ _ _).mp pv
    have hir:i < rows.length:=by rw [<- rr.1]; exact hi
    obtain ⟨row,hrow⟩ : ∃ row,rows[i]? = some row:=⟨_,List.getElem?_eq_getElem hir⟩
    obtain ⟨p',ra,qa,t1,t2,t3,t4,_,_⟩:=rr.2 i row hrow
    rw [t1] at hx
    cases hx
    have hmem:=List.mem_of_getElem? hrow
    obtain ⟨rl,rbt,bT,bS⟩:=rb row hmem
    obtain ⟨T0,S0⟩:=rst.ne row hmem
    obtain ⟨px,rfl,hpx⟩:=rp.fr_at
    obtain ⟨qx,rfl,hqx⟩:=rq.fr_at
    have B9':∀ {l:Addr} {o:HO},l ≠ t -> vw K H8 l = some o -> vw K H9 l = some o:=fun n e=>B9 _ _ n e
    have i9:i <= 8:=by walk_at "o"
    have i4:40000 * i <= 320000:=by walk_at "o"
    walk_at "vc"
    refine ⟨_,B9' (ntup _ _ t2) t2,rfl,_,_,rfl,_,_,rfl,_,_,rfl,_,_,rfl,rfl,?_⟩
    refine ⟨_,hpx,_,rfl,_,rfl,?_⟩
    rw [rMul_int]
    have np1:Bt (200 + 40000 * i) (-p.1):=by
     have:=bp.1
     unfold Bt at *
     walk_at "o"
    refine ⟨mulOk np1 bT (by walk_at "o"),_,hpx,_,rfl,?_⟩
    rw [rMul_int]
    have p20:p.2 ≠ 0:=fp.ne
    have bm0:p.2 * row.2.2.2 ≠ 0:=Int.mul_ne_zero p20 S0
    have bb:=(bp.2.mul bS)
    obtain ⟨q',hq'⟩ : ∃ q',q' = lo (-p.1 * row.2.2.1) (p.2 * row.2.2.2):=⟨_,rfl⟩
    have fq':Fq q':=hq' ▸ lo_Fq bm0
    have bq':Bq (200 + 40000 * (i + 1)) q':=by
     rw [hq']
     exact bt_lo bm0 ((np1.mul bT).mono (by walk_at "o")) (bb.mono (by walk_at "o"))
    refine ⟨mulOk bp.2 bS (by walk_at "o"),_,_,rfl,bm0,bb.mono (by walk_at "o"),fun v Ha Sa rv=>⟨by decide,fun u Hb hu Sb hub=>⟨u,rfl,_,hub,rfl,_,_,rfl,_,_,rfl,rfl,?_⟩⟩⟩
    rw [<- hq'] at rv
    obtain ⟨va,rfl,hva⟩:=rv.fr_at
    have S9b:=Sa.trans Sb
    obtain ⟨ws,hws,lws,cws⟩:=id cm9
    have hra:vw K Hb ra = some (.lst (row.1.map V.int)):=S9b _ _ (B9' (nint _ _ t3) t3)
    refine ⟨ty_lst (S9b _ _ hws),ra,rfl,⟨_,.of (vw_lst hra)⟩,fun d2 Hc hd2 Sc hdc=>?_⟩
    refine comp_items (its:=row.1.map V.int) (fun j zs H'=>Same (vw K Hb) (vw K H') /\ zs = ((row.1.take j).map fun y=>q'.1 * y).map V.int) (fun j zs H' _ _ z=>items_list (z.1 _ _ hra)) hdc ⟨Sc,rfl⟩ (fun j y zs H' hj hy h' z=>?_) (fun zs Hd hdd z=>?_)
    ·obtain ⟨z1,rfl⟩:=z
     rw [List.length_map] at hj
     rw [List.getElem?_map,List.getElem?_eq_getElem hj] at hy
     cases hy
     walk_at "vc"
     refine ⟨_,z1 _ _ (Sb _ _ hva),_,rfl,?_⟩
     rw [rMul_int]
     refine ⟨mulOk bq'.1 (rbt _ (List.getElem_mem hj)) (by walk_at "o"),.mk h' ?_ fun H8 B8 h8=>⟨fun y o e=>B8 _ _ (ne_of_none e hd2) (z1 _ _ e),?_⟩⟩
     ·rw [List.length_map,List.length_map,List.length_take]
      have:1000 <= sizeLine:=by decide
      walk_at "o"
     ·rw [List.take_add_one,List.getElem?_eq_getElem hj,List.map_append,List.map_append]
      rfl
    obtain ⟨Sbd,rfl⟩:=z
    rw [List.length_map,List.take_length] at hdd
    walk_at "vc"
    refine ⟨_,Sbd _ _ (Sb _ _ hva),_,rfl,?_⟩
    simp only [sp_divided]
    refine ⟨d2,_,q'.2,rfl,hdd,by rw [List.length_map]; walk_at "o",fq'.ne,bq'.2.mono (by walk_at "o"),fun c' He r Se lc nc pr' cr lr _=>?_⟩
    have S09:Same (vw K H) (vw K H9):=fun y o e=>B9 _ _ (ne_of_none e ht0) (S08 _ _ e)
    have S9d:=S9b.trans Sbd
    have S9e:=S9d.trans Se
    have nct':c' ≠ t:=(ne_of_none (S9d _ _ hws) nc).symm
    have lch:(chl fs gs []).length <= 2:=by
     unfold chl
     split <;> simp
    refine ⟨ws,S9e _ _ hws,?_,fun Hf Bf hf=>(hPv _ _ _).mpr ⟨_,_,_,_,_,_,q,q',rs ++ [r],rfl,(B9.same_trans S9e).trans Bf,?_,by simp [lrs],?_,?_,fq,fq',⟨bqq.1.mono (by walk_at "o"),bqq.2.mono (by walk_at "o")⟩,bq',?_,fun j r' row' e1 e2=>?_⟩⟩
    ·rw [lws,List.length_append,lrs]
     have:1000 <= sizeLine:=by decide
     walk_at "o"
    ·rw [<- List.append_assoc]
     exact (cm9.same S9e).snoc (S9e _ _ hws) Bf lc ((S09.trans S9d).none nc) nct' hf
    ·exact Rep.flat_but (S9e _ _ hws) Bf _ _ (fr_flat _) (Rep.same S9e _ _ rq)
    ·exact Rep.flat_but (S9e _ _ hws) Bf _ _ (fr_flat _) (Rep.same (Sb.trans (Sbd.trans Se)) _ _ rv)
    ·rw [ab_step hrow,<- eab]
     refine Prod.ext rfl ?_
     show wv q' = -(wv p * (row.2.2.1:Rat)) / (row.2.2.2:Rat)
     rw [hq',lat_wv p20 S0]
    ·by_cases hj:j < rs.length
     ·rw [List.getElem?_append_left hj] at e1
      exact hrs j r' row' e1 e2
     ·have hj2:j = i:=by
       have:=(List.getElem?_eq_some_iff.mp e1).1
       simp at this
       walk_at "o"
      subst hj2
      rw [List.getElem?_append_right (by walk_at "o"),lrs,Nat.sub_self] at e1
      cases e1
      rw [hrow] at e2
      cases e2
      have ab2:(ab (1 / (D:Rat)) (1 / (D:Rat)) rows (j + 1)).2 = wv q':=by
       rw [ab_step hrow,<- eab]
       show -(wv p * (row.2.2.1:Rat)) / (row.2.2.2:Rat) = wv q'
       rw [hq',lat_wv p20 S0]
      refine ⟨⟨pr',fun k=>?_⟩,by rw [List.length_map] at lr; walk_at "o",⟨q'.2,fq'.ne,bq'.2.mono (by walk_at "o"),fun k=>⟨q'.1 * nz row.1 k,?_,(bq'.1.mul (nz_bt rbt k)).mono (by walk_at "o")⟩⟩⟩
      ·rw [cr k,nz_mapc,ab2,lat_cf]
      ·rw [cr k,nz_mapc]
   ·obtain ⟨o6,o7,o8,o9,x',y,p,q,rs,rfl,B9,cm9,lrs,rp,rq,fp,fq,bp,bqq,eab,hrs⟩:=(hPv _ _ _).mp pv
    refine hN6 _ _ ?_
    walk_at "vc"
    have dd:=one_over0 D0
    have lrr:rs.length = rows.length:=by rw [lrs,rr.1]
    have ch:Chn fs gs rs:=rst.chn dd dd (fun k=>by rw [cl k]; exact one_over D0) (fun k=>by rw [cg k,cm k,Rat.intCast_mul,cl (k + 1)]; exact one_over2 D0) pg lrr fun j r row e1 e2=>(hrs j r row e1 e2).1
    have e0:chl fs gs [] ++ rs = chl fs gs rs:=by
     unfold chl
     by_cases g0:gs = []
     ·subst g0
      have:ms = []:=List.length_eq_zero_iff.mp (by rw [lm,ln,<- lg']; rfl)
      subst this
      have:=rst.nil
      subst this
      have:rs = []:=List.length_eq_zero_iff.mp lrr
      subst this
      rfl
     ·rw [if_neg g0,if_neg g0]
      rfl
    rw [e0] at cm9
    refine h t H9 gs rs (fun y o e=>B9 _ _ (ne_of_none e ht0) (S08 _ _ e)) ht0 cm9 pg cg lg' ch (by walk_at "o") fun r hr=>?_
    obtain ⟨j,hj,rfl⟩:=List.getElem_of_mem hr
    obtain ⟨row,hrow⟩ : ∃ row,rows[j]? = some row:=⟨_,List.getElem?_eq_getElem (by walk_at "o")⟩
    exact (hrs j _ row (List.getElem?_eq_getElem hj) hrow).2
  refine ⟨_,(ha.same S04).len,ite2 (fun hc1=>?_) (fun hc1=>?_)⟩
  ·refine ⟨ty_lst h4,a,fs,rfl,ha.same S04,by walk_at "o",fun q z=>⟨pf.1 q z,(bq q z).mono (by decide)⟩,pf,fun d H5 gs S5 ld nd pg cg lg'=>⟨_,S5 _ _ h4,show 1 < sizeLine by decide,fun H6 B6 h6=>key gs H6 (fun y o e=>B6 _ _ (ne_of_none e ht0) (S5 _ _ (S04 _ _ e))) (B6 _ _ nbt (S5 _ _ ((S3.trans S4) _ _ hb))) ?_ pg cg lg'⟩⟩
   have g0:gs ≠ []:=fun z=>by rw [z] at lg'; simp at lg'; walk_at "o"
   have:=(c1.same S5).snoc (S5 _ _ h4) B6 ld (S04.none nd) (ne_of_none h4 nd).symm h6
   unfold chl
   rw [if_neg g0]
   exact this
  ·refine key [] H4 S04 ((S3.trans S4) _ _ hb) (by unfold chl; rw [if_pos rfl]; exact c1) ⟨by simp,by simp⟩ (fun k=>?_) (by simp; walk_at "o")
   rw [cf_nil,cf_none (qs:=fs) (by walk_at "o")]
   grind
theorem qss_never {X:Cx} {sts:List Stmt}:QSs X sts tNever:=⟨pss_never⟩
def spx_chain (C:Addr) (K:PySem.W.Frag):Sp:=fun vs H _ E=>∃ (a:Addr),vs = [.ref a] /\ vw K H a = some (.lst []) /\ ∀ H',Same (vw K H) (vw K H') -> E (.ref C) none H'
theorem okx_chain {C:Addr} (F:Fun K "chain" "chain" s_chain f fd) (T:Txt K mg) (zx_NoPolynomial:OwnX K C) (hgx_NoPolynomial:mg "NoPolynomial" = some (.ref C)) (C_refuse_nought:Cal P w K mg base "refuse_nought" ["f"] 1 (sp_refuse_nought K)) (C_cleared:Cal P w K mg base "cleared" ["f"] 2 (sp_cleared K)) (C_slope:Cal P w K mg base "slope" ["f"] 4 (sp_slope K)) (C_wholes_rests:Cal P w K mg base "wholes_rests" ["one", "other"] 3 (sp_wholes_rests K)) (C_wholes_slope:Cal P w K mg base "wholes_slope" ["wholes"] 1 (sp_wholes_slope K)) (C_ratio:Cal P w K mg base "ratio" ["top", "bottom"] 2 (sp_ratio K)) (C_divided:Cal P w K mg base "divided" ["wholes", "bottom"] 3 (sp_divided K))
  (CX_refuse_nought:CalX P w K mg base "refuse_nought" ["f"] 1 (spx_refuse_nought C K)):FnOk P w K mg base (CX1 P w) 5 f fd ["f"] (spx_chain C K):=by
 have scN:=sc_chain.nd
 refine F.okX sc_chain (fun vs H Q E h=>?_) (fun cdv A outer s H vs Q E hr h=>?_)
 ·obtain ⟨_,rfl,_⟩:=h
  rfl
 ·obtain ⟨a,rfl,ha,h⟩:=h
  refine ⟨_,(qss_cons (qs_exprX (qx_cal CX_refuse_nought (hr.mono (by decide)) rfl (fun _=>(qa_cons (qv 0) qa_nil))))
   qss_never),?_⟩
  refine tSeq.gen fun N1 hN1=>?_
  simp only [tRetX,tCalX]
  walk_at "vc"
  simp only [spx_refuse_nought]
  exact ⟨a,rfl,ha,h⟩
def zPdivisor (K:PySem.W.Frag):Sp:=fun vs H Q _=>∃ a b:Int,vs = [.int a,.int b] /\ Q (.int (Int.gcd a b)) H
theorem zOdivisor (F:Fun K "_law_divisor" "_law_divisor" zTdivisor f fd) (T:Txt K mg):FnOk P w K mg base CX0 1 f fd ["_law_one", "_law_other"] (zPdivisor K):=by
 have scN:=zUdivisor.nd
 refine F.okQ zUdivisor (fun vs H Q E h=>?_) (fun cdv A outer s H vs Q E hr h=>?_)
 ·obtain ⟨a,b,rfl,_⟩:=h
  rfl
 ·obtain ⟨a,b,rfl,h⟩:=h
  refine ⟨_,(qss_cons (qs_while PassesOwn.never (qt_cmpR op_ne (qv 1) qe_int (nomark _)) (qss_one (qs_par (i:=0) (j:=1) rfl scN rfl rfl (by decide) rfl rfl (qa_cons (qv 1) (qa_cons (qe_op op_modX (qv 0) (qv 1)) qa_nil)) rfl)))
   (qss_one (qs_ret (qe_callB call_abs (by rfl) T.b_abs bt_abs (qa_cons (qv 0) qa_nil))))),?_⟩
  walk_at "vc"
  refine ⟨fun m σ H'=>H' = H /\ ∃ x y:Int,σ = [some (.int x),some (.int y)] /\ Int.gcd x y = Int.gcd a b /\ m = y.natAbs,⟨_,rfl,_,_,rfl,rfl,rfl⟩,?_⟩
  rintro m σ H' ⟨rfl,x,y,rfl,hg,rfl⟩
  walk_at "vc"
  refine ite2 (fun hy0=>?_) (fun hy0=>?_)
  ·refine ⟨_,fun σ' H' h=>h,?_⟩
   walk_at "vc"
   exact ⟨hy0,_,fmod_lt x hy0,by rw [gcd_fmod,hg],rfl⟩
  ·walk_at "vc"
   have e:((Int.gcd a b:Nat):Int) = if x < 0 then -x else x:=by
    rw [<- hg,show y = 0 by walk_at "o"]
    simp
    split <;> walk_at "o"
   rw [<- e]
   exact h
def zPlow (K:PySem.W.Frag):Sp:=fun vs H Q _=>∃ a b:Int,vs = [.int a,.int b] /\ b ≠ 0 /\ b.natAbs < 2 ^ 40000000 /\ ∀ v H',Same (vw K H) (vw K H') -> Rep (vw K H') (fr (lo a b)) v -> Q v H'
theorem zOlow (F:Fun K "_law_low" "_law_low" zTlow f fd) (T:Txt K mg) (N_:Seer P base) (zCdivisor:Cal P w K mg base "_law_divisor" ["_law_one", "_law_other"] 1 (zPdivisor K)):FnOk P w K mg base CX0 2 f fd ["_law_top", "_law_bottom"] (zPlow K):=by
 have scN:=zUlow.nd
 refine F.okQ zUlow (fun vs H Q E h=>?_) (fun cdv A outer s H vs Q E hr h=>?_)
 ·obtain ⟨a,b,rfl,_⟩:=h
  rfl
 ·obtain ⟨a,b,rfl,hb,hbb,h⟩:=h
  refine ⟨_,(qss_cons (qs_set (i:=2) scN rfl (by walk_at "a1") (qe_cal zCdivisor (hr.mono (by walk_at "a2")) rfl (qa_cons (qv 0) (qa_cons (qv 1) qa_nil))))
   (qss_cons (qs_if (qt_cmpR op_lt (qv 1) qe_int (nomark _)) (qss_one (qs_set (i:=2) scN rfl (by walk_at "a1") (qe_op op_sub qe_int (qv 2)))) qss_nil)
   (qss_one (qs_ret (qe_tupS (qa_cons (qe_op (op_fdivP N_ hr rfl rfl rfl) (qv 0) (qv 2)) (qa_cons (qe_op (op_fdivP N_ hr rfl rfl rfl) (qv 1) (qv 2)) qa_nil))))))),?_⟩
  walk_at "vc"
  simp only [zPdivisor]
  walk_at "vc"
  have hgn:Int.gcd a b ≠ 0:=fun e=>hb (Int.gcd_eq_zero_iff.mp e).2
  have e1:lg a b = if b < 0 then 0 - (Int.gcd a b:Int) else (Int.gcd a b:Int):=by
   unfold lg
   split <;> walk_at "o"
  have d1:CNz a (0 - (Int.gcd a b:Int)):=by unfold CNz; walk_at "o"
  have d2:CNz a (Int.gcd a b:Int):=by unfold CNz; walk_at "o"
  refine ite2 (fun hn=>?_) (fun hn=>?_)
  ·rw [if_pos hn] at e1
   refine ⟨d1,d1,by decide,fun p H2 hp S hp2=>?_⟩
   refine h _ H2 S ?_
   rw [<- e1] at hp2
   simp only [fr,lo,Rep,Reps]
   exact ⟨p,_,rfl,hp2,_,_,rfl,rfl,_,_,rfl,rfl,rfl⟩
  ·rw [if_neg hn] at e1
   refine ⟨d2,d2,by decide,fun p H2 hp S hp2=>?_⟩
   refine h _ H2 S ?_
   rw [<- e1] at hp2
   simp only [fr,lo,Rep,Reps]
   exact ⟨p,_,rfl,hp2,_,_,rfl,rfl,_,_,rfl,rfl,rfl⟩
def zPclean (K:PySem.W.Frag):Sp:=fun vs H Q _=>∃ (a:Addr) (qs:List (Int × Int)),vs = [.ref a] /\ LsAt (vw K H) a qs /\
 ∀ b H' n,n <= qs.length -> (∀ q,(qs.take n).getLast? = some q -> q.1 ≠ 0) -> (∀ q ∈ qs.drop n,q.1 = 0) -> vw K H b = none -> Same (vw K H) (vw K H') -> LsAt (vw K H') b (qs.take n) -> Q (.ref b) H'
theorem zOclean (F:Fun K "_law_clean" "_law_clean" zTclean f fd) (T:Txt K mg):FnOk P w K mg base CX0 1 f fd ["_law_numbers"] (zPclean K):=by
 have scN:=zUclean.nd
 refine F.okQ zUclean (fun vs H Q E h=>?_) (fun cdv A outer s H vs Q E hr h=>?_)
 ·obtain ⟨a,_,rfl,_⟩:=h
  rfl
 ·obtain ⟨a,qs,rfl,ha,h⟩:=h
  refine ⟨_,(qss_cons (qs_set (i:=1) scN rfl (by walk_at "a1") (qe_callB call_lenH (by rfl) T.b_len bt_len (qa_cons (qv 0) qa_nil)))
   (qss_cons (qs_while PassesOwn.never (QW.pt (qw_and (qt_cmpR op_gt (qv 1) qe_int (nomark _)) (qw_and1 (qt_cmpR op_eq (qe_ix ix_u (qe_ix ix_h (qv 0) (qe_op op_sub (qv 1) qe_int) (fun _ _=>rfl)) qe_int (fun _ _=>rfl)) qe_int (nomark _))))) (qss_one (qs_set (i:=1) scN rfl (by walk_at "a1") (qe_op op_sub (qv 1) qe_int))))
   (qss_one (qs_ret (qe_callTy call_listS (by rfl) T.b_list bt_list (qa_cons (qe_slice sl_listS (qv 0) qo_none (qo_some (qv 1))) qa_nil)))))),?_⟩
  walk_at "vc"
  refine ⟨_,ha.len,fun m σ H'=>H' = H /\ m <= qs.length /\ (∀ q ∈ qs.drop m,q.1 = 0) /\ σ = [some (.ref a),some (.int m)],⟨_,rfl,Nat.le_refl _,by simp,rfl⟩,?_⟩
  rintro k σ H' ⟨rfl,hk,hdr,rfl⟩
  obtain ⟨xs,hax,rx⟩:=ha
  have hlx:xs.length = qs.length:=by rw [rx.length,List.length_map]
  have fin:(∀ q,(qs.take k).getLast? = some q -> q.1 ≠ 0) -> Nw K H' (HO.lst (cutV xs none (some (k:Int)))) fun x H1=>∃ p,x = V.ref p /\ ∃ ys,vw K H1 p = some (HO.lst ys) /\ Nw K H1 (HO.lst ys) Q:=fun hq p H2 hp S2 h2=>by
   rw [cut_to (by walk_at "o")] at h2
   refine ⟨p,rfl,_,h2,fun p2 H3 hp2 S3 h3=>h p2 H3 k hk hq hdr ?_ (S2.trans S3) ⟨_,h3,?_⟩⟩
   ·cases e:vw K H' p2 with
    | none=>rfl
    | some o=>rw [S2 _ _ e] at hp2; cases hp2
   ·rw [List.map_take]
    exact (rx.take k).same (S2.trans S3)
  walk_at "vc"
  refine ite2 (fun h0=>?_) (fun h0=>?_)
  ·have hk1:k - 1 < qs.length:=by walk_at "o"
   obtain ⟨x,hx,r⟩:=rx.at (i:=k - 1) (d:=fr qs[k - 1]) (by rw [List.getElem?_map,List.getElem?_eq_getElem hk1]; rfl)
   obtain ⟨p,rfl,hp⟩:=r.fr_at
   have e1:((k:Int) - 1) = ((k - 1:Nat):Int):=by walk_at "o"
   refine ⟨_,hax,_,by rw [e1]; exact atI_nat hx,p,rfl,_,hp,_,atI_0,?_⟩
   walk_at "vc"
   refine ite2 (fun hq=>?_) (fun hq=>?_)
   ·refine ⟨_,fun σ' H'' z=>z,k - 1,by walk_at "o",rfl,by walk_at "o",fun q' hq'=>?_,by rw [e1]⟩
    rw [List.drop_eq_getElem_cons hk1,show k - 1 + 1 = k by walk_at "o"] at hq'
    rcases List.mem_cons.mp hq' with z | z
    ·rw [z]
     exact hq
    ·exact hdr q' z
   ·refine ⟨_,hax,fin fun q hq2=>?_⟩
    have:(qs.take k).getLast? = some qs[k - 1]:=by
     rw [List.getLast?_eq_getElem?,List.length_take,List.getElem?_take]
     rw [if_pos (by walk_at "o"),show min k qs.length - 1 = k - 1 by walk_at "o",List.getElem?_eq_getElem hk1]
    rw [this] at hq2
    cases hq2
    exact hq
  ·refine ⟨_,hax,fin fun q hq=>?_⟩
   rw [show k = 0 by walk_at "o"] at hq
   cases hq
def zPplus (K:PySem.W.Frag):Sp:=fun vs H Q _=>∃ x y p q,vs = [x,y] /\ Rep (vw K H) (fr p) x /\ Rep (vw K H) (fr q) y /\ p.2 ≠ 0 /\ q.2 ≠ 0 /\ Bq 10000000 p /\ Bq 10000000 q /\ Bt 40000000 (p.2 * q.2) /\ ∀ v H',Same (vw K H) (vw K H') -> Rep (vw K H') (fr (addq p q)) v -> Q v H'
theorem zOplus (F:Fun K "_law_plus" "_law_plus" zTplus f fd) (T:Txt K mg) (zClow:Cal P w K mg base "_law_low" ["_law_top", "_law_bottom"] 2 (zPlow K)):FnOk P w K mg base CX0 3 f fd ["_law_one", "_law_other"] (zPplus K):=by
 have scN:=zUplus.nd
 refine F.okQ zUplus (fun vs H Q E h=>?_) (fun cdv A outer s H vs Q E hr h=>?_)
 ·obtain ⟨_,_,_,_,rfl,_⟩:=h
  rfl
 ·obtain ⟨x,y,p,q,rfl,hx,hy,np,nq,bp,bq,bb,h⟩:=h
  refine ⟨_,(qss_one (qs_ret (qe_cal zClow (hr.mono (by walk_at "a2")) rfl (qa_cons (qe_op op_Plus (qe_op op_Mul (qe_ix ix_u (qv 0) qe_int (fun _ _=>rfl)) (qe_ix ix_u (qv 1) qe_int (fun _ _=>rfl))) (qe_op op_Mul (qe_ix ix_u (qv 1) qe_int (fun _ _=>rfl)) (qe_ix ix_u (qv 0) qe_int (fun _ _=>rfl)))) (qa_cons (qe_op op_Mul (qe_ix ix_u (qv 0) qe_int (fun _ _=>rfl)) (qe_ix ix_u (qv 1) qe_int (fun _ _=>rfl))) qa_nil))))),?_⟩
  obtain ⟨a,rfl,ha⟩:=hx.fr_at
  obtain ⟨b,rfl,hb⟩:=hy.fr_at
  walk_at "vc*"
  simp only [zPlow]
  walk_at "vc*"
  exact ⟨mulOk bp.1 bq.2 (by decide),mulOk bq.1 bp.2 (by decide),mulOk bp.2 bq.2 (by decide),Int.mul_ne_zero np nq,h⟩
def zPtimes (K:PySem.W.Frag):Sp:=fun vs H Q _=>∃ x y p q,vs = [x,y] /\ Rep (vw K H) (fr p) x /\ Rep (vw K H) (fr q) y /\ p.2 ≠ 0 /\ q.2 ≠ 0 /\ Bq 10000000 p /\ Bq 10000000 q /\ Bt 40000000 (p.2 * q.2) /\ ∀ v H',Same (vw K H) (vw K H') -> Rep (vw K H') (fr (mulq p q)) v -> Q v H'
theorem zOtimes (F:Fun K "_law_times" "_law_times" zTtimes f fd) (T:Txt K mg) (zClow:Cal P w K mg base "_law_low" ["_law_top", "_law_bottom"] 2 (zPlow K)):FnOk P w K mg base CX0 3 f fd ["_law_one", "_law_other"] (zPtimes K):=by
 have scN:=zUtimes.nd
 refine F.okQ zUtimes (fun vs H Q E h=>?_) (fun cdv A outer s H vs Q E hr h=>?_)
 ·obtain ⟨_,_,_,_,rfl,_⟩:=h
  rfl
 ·obtain ⟨x,y,p,q,rfl,hx,hy,np,nq,bp,bq,bb,h⟩:=h
  refine ⟨_,(qss_one (qs_ret (qe_cal zClow (hr.mono (by walk_at "a2")) rfl (qa_cons (qe_op op_Mul (qe_ix ix_u (qv 0) qe_int (fun _ _=>rfl)) (qe_ix ix_u (qv 1) qe_int (fun _ _=>rfl))) (qa_cons (qe_op op_Mul (qe_ix ix_u (qv 0) qe_int (fun _ _=>rfl)) (qe_ix ix_u (qv 1) qe_int (fun _ _=>rfl))) qa_nil))))),?_⟩
  obtain ⟨a,rfl,ha⟩:=hx.fr_at
  obtain ⟨b,rfl,hb⟩:=hy.fr_at
  walk_at "vc*"
  simp only [zPlow]
  walk_at "vc*"
  exact ⟨mulOk bp.1 bq.1 (by decide),mulOk bp.2 bq.2 (by decide),Int.mul_ne_zero np nq,h⟩
def zPover (K:PySem.W.Frag):Sp:=fun vs H Q _=>∃ x y p q,vs = [x,y] /\ Rep (vw K H) (fr p) x /\ Rep (vw K H) (fr q) y /\ p.2 ≠ 0 /\ q.2 ≠ 0 /\ q.1 ≠ 0 /\ Bq 10000000 p /\ Bq 10000000 q /\ Bt 40000000 (p.2 * q.1) /\ ∀ v H',Same (vw K H) (vw K H') -> Rep (vw K H') (fr (divq p q)) v -> Q v H'
theorem zOover (F:Fun K "_law_over" "_law_over" zTover f fd) (T:Txt K mg) (zClow:Cal P w K mg base "_law_low" ["_law_top", "_law_bottom"] 2 (zPlow K)):FnOk P w K mg base CX0 3 f fd ["_law_one", "_law_other"] (zPover K):=by
 have scN:=zUover.nd
 refine F.okQ zUover (fun vs H Q E h=>?_) (fun cdv A outer s H vs Q E hr h=>?_)
 ·obtain ⟨_,_,_,_,rfl,_⟩:=h
  rfl
 ·obtain ⟨x,y,p,q,rfl,hx,hy,np,nq,n0,bp,bq,bb,h⟩:=h
  refine ⟨_,(qss_one (qs_ret (qe_cal zClow (hr.mono (by walk_at "a2")) rfl (qa_cons (qe_op op_Mul (qe_ix ix_u (qv 0) qe_int (fun _ _=>rfl)) (qe_ix ix_u (qv 1) qe_int (fun _ _=>rfl))) (qa_cons (qe_op op_Mul (qe_ix ix_u (qv 0) qe_int (fun _ _=>rfl)) (qe_ix ix_u (qv 1) qe_int (fun _ _=>rfl))) qa_nil))))),?_⟩
  obtain ⟨a,rfl,ha⟩:=hx.fr_at
  obtain ⟨b,rfl,hb⟩:=hy.fr_at
  walk_at "vc*"
  simp only [zPlow]
  walk_at "vc*"
  exact ⟨mulOk bp.1 bq.2 (by decide),mulOk bp.2 bq.1 (by decide),Int.mul_ne_zero np n0,h⟩
def zPslope (K:PySem.W.Frag):Sp:=fun vs H Q _=>∃ (a:Addr) (fs:List (Int × Int)),vs = [.ref a] /\ LsAt (vw K H) a fs /\ fs.length <= 40 /\ (∀ q ∈ fs,Fq q /\ Bq 400 q) /\
 ∀ d H' (rs:List (Int × Int)),Same (vw K H) (vw K H') -> LsAt (vw K H') d rs -> vw K H d = none -> PolyOk rs -> (∀ k,cf rs k = ((k + 1:Nat):Int) * cf fs (k + 1)) -> rs.length <= fs.length -> Q (.ref d) H'
theorem zOslope (F:Fun K "_law_slope" "_law_slope" zTslope f fd) (T:Txt K mg) (zCclean:Cal P w K mg base "_law_clean" ["_law_numbers"] 1 (zPclean K)) (zCtimes:Cal P w K mg base "_law_times" ["_law_one", "_law_other"] 3 (zPtimes K)):FnOk P w K mg base CX0 4 f fd ["_law_f"] (zPslope K):=by
 have scN:=zUslope.nd
 refine F.okQ zUslope (fun vs H Q E h=>?_) (fun cdv A outer s H vs Q E hr h=>?_)
 ·obtain ⟨a,_,rfl,_⟩:=h
  rfl
 ·obtain ⟨a,fs,rfl,ha,lf,hf,h⟩:=h
  refine ⟨_,(qss_one (qs_ret (qe_cal zCclean (hr.mono (by walk_at "a2")) rfl (qa_cons (qe_comp (own:=["_law_place"]) (outs:=["_law_f"]) (ixs:=[0]) rfl (qi_range2 rfl T.b_range (qa_cons qe_int (qa_cons (qe_callB call_lenH (by rfl) T.b_len bt_len (qa_cons (qv 0) qa_nil)) qa_nil))) rfl ⟨rfl,rfl,rfl,⟨rfl,trivial⟩,rfl,⟨⟨rfl,rfl,rfl,_,rfl⟩,trivial⟩⟩ (fun _ _ _ _=>⟨(qg_name (i:=0) (show (["_law_place", "_law_f"]:List Str).Nodup by decide +kernel) rfl (by walk_at "a1")),qf_nil,(qe_cal zCtimes (hr.mono (by walk_at "a2")) rfl (qa_cons (qe_ix (show IxR _ (rIxH K) from ix_h) (qv 1) (qv 0) (fun _ _=>rfl)) (qa_cons (show QE _ _ (tTupS K _) from qe_tupS (qa_cons (qv 0) (qa_cons qe_int qa_nil))) qa_nil)))⟩)) qa_nil)))),?_⟩
  walk_at "vc"
  obtain ⟨xs,hxs,rxs⟩:=id ha
  have hlx:xs.length = fs.length:=by rw [rxs.length,List.length_map]
  refine ⟨_,ha.len,by walk_at "o",by walk_at "o",by walk_at "o",by walk_at "o",fun d H1 hd S1 h1=>?_⟩
  rw [show ((fs.length:Int) - 1).toNat = fs.length - 1 by walk_at "o"]
  have f1:∀ k:Nat,Fq (((k:Nat):Int),1):=fun k=>⟨Int.one_pos,by simp⟩
  refine comp_items (its:=iots 1 (fs.length - 1)) (fun i zs H'=>Same (vw K H) (vw K H') /\ ∃ vs:List (Int × Int),vs.length = i /\ Reps (vw K H') (vs.map fr) zs /\ (∀ q ∈ vs,Fq q) /\ ∀ (j:Nat) (q:Int × Int),vs[j]? = some q -> wv q = ((j + 1:Nat):Int) * cf fs (j + 1))
   (fun _ _ _ _ _ _=>items_range) h1 ⟨S1,[],rfl,.mk_nil,by simp,by simp⟩ (fun i x zs H2 hi hx h2 p=>?_) (fun zs H2 h2 p=>?_)
  ·obtain ⟨S2,vs,lv,rv,fv,hv⟩:=p
   obtain ⟨hi',rfl⟩:=iots_at hx
   rw [show (1:Int) + (i:Int) = ((i + 1:Nat):Int) by walk_at "o"]
   have hi2:i + 1 < fs.length:=by walk_at "o"
   obtain ⟨x2,e2,r2⟩:=rxs.at (i:=i + 1) (d:=fr fs[i + 1]) (by rw [List.getElem?_map,List.getElem?_eq_getElem hi2]; rfl)
   obtain ⟨k1,k2⟩:=hf fs[i + 1] (List.getElem_mem hi2)
   have bi:Bq 10 (((i + 1:Nat):Int),1):=by
    refine ⟨?_,(by decide:Bt 10 1)⟩
    show (((i + 1:Nat):Int)).natAbs < 2 ^ 10
    walk_at "o"
   walk_at "vc"
   refine ⟨xs,S2 _ _ hxs,x2,atI_nat e2,by decide,fun p3 H3 hp3 S3 h3=>?_⟩
   simp only [zPtimes]
   walk_at "vc"
   refine ⟨_,Rep.same (S2.trans S3) _ _ r2,_,rep_pair h3,k1.ne,(f1 (i + 1)).ne,k2.mono (by decide),bi.mono (by decide),(k2.2.mul bi.2).mono (by decide),fun v4 H4 S4 r4=>.mk ((S3.trans S4) _ _ h2) ?_ fun H5 B5 h5=>⟨fun b o e=>B5 _ _ (ne_of_none e hd) (S4 _ _ (S3 _ _ (S2 _ _ e))),vs ++ [mulq fs[i + 1] (((i + 1:Nat):Int),1)],by simp [lv],?_,fun q hq=>?_,fun j q e=>?_⟩⟩
   ·rw [rv.length,List.length_map,lv]
    have:1000 <= sizeLine:=by decide
    walk_at "o"
   ·rw [List.map_append]
    exact (Reps.flat_but ((S3.trans S4) _ _ h2) B5 _ _ (flats_fr vs) (rv.same (S3.trans S4))).snoc (Rep.flat_but ((S3.trans S4) _ _ h2) B5 _ _ (fr_flat _) r4)
   ·rcases List.mem_append.mp hq with z | z
    ·exact fv q z
    ·cases List.mem_singleton.mp z
     exact mulq_Fq k1 (f1 (i + 1))
   ·by_cases hj:j < vs.length
    ·rw [List.getElem?_append_left hj] at e
     exact hv j q e
    ·have hj2:j = i:=by
      have:=(List.getElem?_eq_some_iff.mp e).1
      simp at this
      walk_at "o"
     subst hj2
     rw [List.getElem?_append_right (by walk_at "o"),lv,Nat.sub_self] at e
     cases e
     rw [wv_mul k1.ne (f1 (j + 1)).ne,cf_some (List.getElem?_eq_getElem hi2)]
     have e1:wv (((j + 1:Nat):Int),1) = ((j + 1:Nat):Int):=by
      show (((j + 1:Nat):Int):Rat) / ((1:Int):Rat) = _
      have:((1:Int):Rat) = 1:=rfl
      rw [this]
      grind
     rw [e1]
     grind
  ·obtain ⟨S2,vs,lv,rv,fv,hv⟩:=p
   rw [iots_len] at lv
   walk_at "vc"
   simp only [zPclean]
   walk_at "vc"
   refine ⟨vs,⟨zs,h2,rv⟩,fun e H7 n' hn' hz hd' hnd S7 l7=>h e H7 (vs.take n') (S2.trans S7) l7 (S2.none hnd) (clean_ok fv hz) (fun k=>?_) (by rw [List.length_take]; walk_at "o")⟩
   rw [cf_take fv hd' k]
   by_cases hk:k < vs.length
   ·rw [cf_some (List.getElem?_eq_getElem hk)]
    exact hv k _ (List.getElem?_eq_getElem hk)
   ·rw [cf_none (by walk_at "o"),cf_none (qs:=fs) (by walk_at "o")]
    grind
def zPsummed (K:PySem.W.Frag):Sp:=fun vs H Q _=>∃ (a b:Addr) (y:V) (fs gs:List (Int × Int)) (c:Int × Int) (B1 B2 B3:Nat),vs = [.ref a,.ref b,y] /\ LsAt (vw K H) a fs /\ LsAt (vw K H) b gs /\ Rep (vw K H) (fr c) y /\ fs.length <= 40 /\ gs.length <= 40 /\ 1 <= B1 /\ B1 + B2 + B3 <= 9500000 /\ (∀ q ∈ fs,Fq q /\ Bq B1 q) /\ (∀ q ∈ gs,Fq q /\ Bq B2 q) /\ Fq c /\ Bq B3 c /\
 ∀ d H' (rs:List (Int × Int)),Same (vw K H) (vw K H') -> LsAt (vw K H') d rs -> vw K H d = none -> PolyOk rs -> (∀ k,cf rs k = cf fs k + cf gs k * wv c) -> rs.length <= max fs.length gs.length -> (∀ q ∈ rs,Bq (B1 + (B2 + B3) + 1) q) -> Q (.ref d) H'
theorem zOsummed (F:Fun K "_law_summed" "_law_summed" zTsummed f fd) (T:Txt K mg) (zCclean:Cal P w K mg base "_law_clean" ["_law_numbers"] 1 (zPclean K)) (zCplus:Cal P w K mg base "_law_plus" ["_law_one", "_law_other"] 3 (zPplus K)) (zCtimes:Cal P w K mg base "_law_times" ["_law_one", "_law_other"] 3 (zPtimes K)):FnOk P w K mg base CX0 4 f fd ["_law_f", "_law_g", "_law_by"] (zPsummed K):=by
 have scN:=zUsummed.nd
 refine F.okQ zUsummed (fun vs H Q E h=>?_) (fun cdv A outer s H vs Q E hr h=>?_)
 ·obtain ⟨a,_,_,_,_,_,_,_,_,rfl,_⟩:=h
  rfl
 ·obtain ⟨a,b,y,fs,gs,c,B1,B2,B3,rfl,ha,hb,hy,lf,lg',hB0,hB,hf,hg,fc,bc,h⟩:=h
  refine ⟨_,(qss_cons (qs_set (i:=3) scN rfl (by walk_at "a1") (qe_op op_Plus (qe_callTy call_listS (by rfl) T.b_list bt_list (qa_cons (qv 0) qa_nil)) (qe_op op_Mul (qe_lstS (qa_cons (qe_tupS (qa_cons qe_int (qa_cons qe_int qa_nil))) qa_nil)) (qe_callB (call_max2 rfl) (by rfl) T.b_max bt_max (qa_cons qe_int (qa_cons (qe_op op_sub (qe_callB call_lenH (by rfl) T.b_len bt_len (qa_cons (qv 1) qa_nil)) (qe_callB call_lenH (by rfl) T.b_len bt_len (qa_cons (qv 0) qa_nil))) qa_nil))))))
   (qss_cons (qs_for PassesOwn.never rfl (qi_range1 rfl T.b_range (qa_cons (qe_callB call_lenH (by rfl) T.b_len bt_len (qa_cons (qv 1) qa_nil)) qa_nil)) (qg_name (i:=4) scN rfl (by walk_at "a1")) (qss_one (qs_asg (qe_cal zCplus (hr.mono (by walk_at "a2")) rfl (qa_cons (qe_ix ix_h (qv 3) (qv 4) (fun _ _=>rfl)) (qa_cons (qe_cal zCtimes (hr.mono (by walk_at "a2")) rfl (qa_cons (qe_ix ix_h (qv 1) (qv 4) (fun _ _=>rfl)) (qa_cons (qv 2) qa_nil))) qa_nil))) (qg_sub (qv 3) (qv 4) set_listS))))
   (qss_one (qs_ret (qe_cal zCclean (hr.mono (by walk_at "a2")) rfl (qa_cons (qv 3) qa_nil)))))),?_⟩
  walk_at "vc"
  obtain ⟨xs,hxs,rxs⟩:=id ha
  obtain ⟨ys,hys,rys⟩:=id hb
  refine ⟨xs,hxs,fun p1 H1 hp1 S1 h1=>⟨by decide,fun p2 H2 hp2 S2 h2=>⟨by decide,fun p3 H3 hp3 S3 h3=>?_⟩⟩⟩
  have S03:=S1.trans (S2.trans S3)
  refine ⟨_,(hb.same S03).len,_,(ha.same S03).len,?_⟩
  obtain ⟨m,hm,hmm⟩ : ∃ m:Nat,(if (gs.length:Int) - (fs.length:Int) > 0 then (gs.length:Int) - (fs.length:Int) else 0) = (m:Int) /\ fs.length + m = max fs.length gs.length:=by
   refine ⟨gs.length - fs.length,?_,by walk_at "o"⟩
   split <;> walk_at "o"
  rw [hm,rMul_rep]
  refine ⟨_,h3,by walk_at "o",by walk_at "o",?_,fun p4 H4 hp4 S4 h4=>?_⟩
  ·have:1000 <= sizeLine:=by decide
   simp
   walk_at "o"
  rw [show ((m:Nat):Int).toNat = m by walk_at "o",rep_flat] at h4
  rw [rPlus_cat]
  have S14:=S2.trans (S3.trans S4)
  refine ⟨_,S14 _ _ h1,_,h4,?_,fun e H5 he S5 h5=>?_⟩
  ·have:1000 <= sizeLine:=by decide
   rw [rxs.length]
   simp
   walk_at "o"
  have S04:=S1.trans S14
  have S05:=S04.trans S5
  have r2:Rep (vw K H5) (fr (0,1)) (.ref p2):=rep_pair ((S3.trans (S4.trans S5)) _ _ h2)
  have ne:vw K H e = none:=S04.none he
  refine ⟨_,(hb.same S05).len,by walk_at "o",by walk_at "o",?_⟩
  obtain ⟨Pv,hPv⟩ : ∃ Pv:Nat -> St -> Hp -> Prop,∀ i σ H',Pv i σ H' ↔ ∃ o4,σ = [some (.ref a),some (.ref b),some y,some (.ref e),o4] /\ Same (vw K H) (vw K H') /\ ∃ qs,LsAt (vw K H') e qs /\ qs.length = max fs.length gs.length /\ (∀ q ∈ qs,Fq q /\ Bq (B1 + (B2 + B3) + 1) q) /\ (∀ k,cf qs k = cf fs k + if k < i then cf gs k * wv c else 0) /\ (∀ k q,i <= k -> qs[k]? = some q -> Bq B1 q):=⟨_,fun _ _ _=>Iff.rfl⟩
  have hq0:∀ q ∈ fs ++ List.replicate m (0,1),Fq q /\ Bq B1 q:=fun q hq=>by
   rcases List.mem_append.mp hq with z | z
   ·exact hf q z
   ·rw [(List.mem_replicate.mp z).2]
    exact ⟨Fq_01,Bq_01 hB0⟩
  refine for_items (its:=iots 0 gs.length) Pv (fun _ _ _ _ _=>items_range) ((hPv _ _ _).mpr ⟨_,rfl,S05,fs ++ List.replicate m (0,1),⟨_,h5,?_⟩,by simp; walk_at "o",fun q hq=>⟨(hq0 q hq).1,(hq0 q hq).2.mono (by walk_at "o")⟩,fun k=>?_,fun k q _ e'=>(hq0 q (List.mem_of_getElem? e')).2⟩) (fun i x σ H6 hi hx pv=>?_) (fun σ H6 pv=>?_)
  ·rw [List.map_append,map_rep]
   exact (rxs.same S05).app (Reps.repl r2 m)
  ·rw [cf_pad,if_neg (by walk_at "o")]
   grind
  ·obtain ⟨o4,rfl,S6,qs,l6,n6,f6,c6,b6⟩:=(hPv _ _ _).mp pv
   obtain ⟨hi',rfl⟩:=iots_at hx
   rw [Int.zero_add]
   obtain ⟨zs,hzs,rzs⟩:=id l6
   have hiq:i < qs.length:=by walk_at "o"
   obtain ⟨x1,e1,r1⟩:=rzs.at (i:=i) (d:=fr qs[i]) (by rw [List.getElem?_map,List.getElem?_eq_getElem hiq]; rfl)
   obtain ⟨x2,e2,r2⟩:=rys.at (i:=i) (d:=fr gs[i]) (by rw [List.getElem?_map,List.getElem?_eq_getElem hi']; rfl)
   obtain ⟨k1,k2⟩:=f6 qs[i] (List.getElem_mem hiq)
   have k3:=b6 i qs[i] (Nat.le_refl _) (List.getElem?_eq_getElem hiq)
   obtain ⟨g1,g2⟩:=hg gs[i] (List.getElem_mem hi')
   walk_at "vc"
   refine ⟨zs,hzs,x1,atI_nat e1,ys,S6 _ _ hys,x2,atI_nat e2,?_⟩
   simp only [zPtimes]
   walk_at "vc"
   refine ⟨_,Rep.same S6 _ _ r2,c,Rep.same S6 _ _ hy,g1.ne,fc.ne,g2.mono (by walk_at "o"),bc.mono (by walk_at "o"),(g2.2.mul bc.2).mono (by walk_at "o"),fun v3 H7 S7 r3=>?_⟩
   have f3:=mulq_Fq g1 fc
   have b3:=mulq_Bq g1 fc g2 bc
   simp only [zPplus]
   walk_at "vc"
   refine ⟨_,Rep.same S7 _ _ r1,_,r3,k1.ne,f3.ne,k3.mono (by walk_at "o"),b3.mono (by walk_at "o"),(k3.2.mul b3.2).mono (by walk_at "o"),fun v4 H8 S8 r4=>?_⟩
   have f4:=addq_Fq k1 f3
   have b4:=addq_Bq k1 f3 k3 b3
   have S68:=S7.trans S8
   have hlz:zs.length = qs.length:=by rw [rzs.length,List.length_map]
   refine ⟨zs,S68 _ _ hzs,i,by rw [hlz]; exact ixN_nat hiq,fun H9 B9 h9=>(hPv _ _ _).mpr ⟨_,rfl,fun x o e'=>B9 _ _ (ne_of_none e' ne) (S68 _ _ (S6 _ _ e')),qs.set i (addq qs[i] (mulq gs[i] c)),LsAt.chg (S68 _ _ hzs) (rzs.same S68) r4 B9 h9,by rw [List.length_set]; exact n6,fun q hq=>?_,fun k=>?_,fun k q hk e'=>?_⟩⟩
   ·rcases List.mem_or_eq_of_mem_set hq with z | z
    ·exact f6 q z
    ·rw [z]
     exact ⟨f4,b4.mono (by walk_at "o")⟩
   ·rw [cf_setv hiq]
    by_cases hk:k = i
    ·subst hk
     rw [if_pos rfl,if_pos (by walk_at "o"),wv_add k1.ne f3.ne,wv_mul g1.ne fc.ne,<- cf_some (List.getElem?_eq_getElem hiq),<- cf_some (List.getElem?_eq_getElem hi'),c6 k,if_neg (by walk_at "o")]
     grind
    ·rw [if_neg hk,c6 k]
     by_cases hk2:k < i
     ·rw [if_pos hk2,if_pos (by walk_at "o")]
     ·rw [if_neg hk2,if_neg (by walk_at "o")]
   ·rw [List.getElem?_set_ne (by walk_at "o")] at e'
    exact b6 k q (by walk_at "o") e'
  ·obtain ⟨o4,rfl,S6,qs,l6,n6,f6,c6,b6⟩:=(hPv _ _ _).mp pv
   rw [iots_len] at c6
   walk_at "vc"
   simp only [zPclean]
   walk_at "vc"
   have hF:∀ q ∈ qs,Fq q:=fun q hq=>(f6 q hq).1
   refine ⟨qs,l6,fun d H7 n hn hz hd hnd S7 l7=>h d H7 (qs.take n) (S6.trans S7) l7 (S6.none hnd) (clean_ok hF hz) (fun k=>?_) (by rw [List.length_take]; walk_at "o") fun q hq=>(f6 q (List.mem_of_mem_take hq)).2⟩
   rw [cf_take hF hd k,c6 k]
   by_cases hk:k < gs.length
   ·rw [if_pos hk]
   ·rw [if_neg hk,cf_none (qs:=gs) (by walk_at "o")]
    grind
def zPparted (K:PySem.W.Frag):Sp:=fun vs H Q _=>∃ (a b:Addr) (fs gs:List (Int × Int)) (D:Int) (dB cB gB:Nat) (ρ:Rat) (G:Nat -> Int),vs = [.ref a,.ref b] /\ LsAt (vw K H) a fs /\ LsAt (vw K H) b gs /\ PolyOk fs /\ PolyOk gs /\ gs ≠ [] /\ fs.length <= 9 /\ gs.length <= 9 /\ D ≠ 0 /\ Bt dB D /\ Dv D dB fs /\ ρ ≠ 0 /\ (∀ k,cf gs k = ρ * (G k:Rat)) /\ (∀ k,Bt cB (G k)) /\ (∀ q ∈ gs,Bq gB q) /\ 1 <= dB /\ 1 <= gB /\ 2 * (dB + (cB + 1) * (fs.length + 1 - gs.length) + gB) <= 9500000 /\
 ∀ (p c d:Addr) (H':Hp) (qs rs:List (Int × Int)),Same (vw K H) (vw K H') -> vw K H' p = some (.tup [.ref c,.ref d]) -> LsAt (vw K H') c qs -> LsAt (vw K H') d rs -> PolyOk qs -> PolyOk rs -> rs.length < gs.length -> qs.length <= fs.length -> (∀ k,cf fs k = pr (cf qs) (cf gs) qs.length k + cf rs k) -> Q (.ref p) H'
theorem zOparted (F:Fun K "_law_parted" "_law_parted" zTparted f fd) (T:Txt K mg) (zCclean:Cal P w K mg base "_law_clean" ["_law_numbers"] 1 (zPclean K)) (zCover:Cal P w K mg base "_law_over" ["_law_one", "_law_other"] 3 (zPover K)) (zCsummed:Cal P w K mg base "_law_summed" ["_law_f", "_law_g", "_law_by"] 4 (zPsummed K)):FnOk P w K mg base CX0 5 f fd ["_law_f", "_law_g"] (zPparted K):=by
 have scN:=zUparted.nd
 refine F.okQ zUparted (fun vs H Q E h=>?_) (fun cdv A outer s H vs Q E hr h=>?_)
 ·obtain ⟨a,_,_,_,_,_,_,_,_,_,rfl,_⟩:=h
  rfl
 ·obtain ⟨a,b,fs,gs,D0,dB,cB,gB,ρ,G,rfl,ha,hb,pf,pg,g0,lf,lg',hD0,bD0,vf,ρ0,hG,bG,bg,dB1,gB1,hbnd,h⟩:=h
  obtain ⟨R,hR⟩ : ∃ R,R = dB + (cB + 1) * (fs.length + 1 - gs.length):=⟨_,rfl⟩
  rw [<- hR] at hbnd
  refine ⟨_,(qss_cons (qs_set (i:=2) scN rfl (by walk_at "a1") (qe_callTy call_listS (by rfl) T.b_list bt_list (qa_cons (qv 0) qa_nil)))
   (qss_cons (qs_set (i:=3) scN rfl (by walk_at "a1") (qe_op op_Mul (qe_lstS (qa_cons (qe_tupS (qa_cons qe_int (qa_cons qe_int qa_nil))) qa_nil)) (qe_callB (call_max2 rfl) (by rfl) T.b_max bt_max (qa_cons qe_int (qa_cons (qe_op op_Plus (qe_op op_sub (qe_callB call_lenH (by rfl) T.b_len bt_len (qa_cons (qv 0) qa_nil)) (qe_callB call_lenH (by rfl) T.b_len bt_len (qa_cons (qv 1) qa_nil))) qe_int) qa_nil)))))
   (qss_cons (qs_while PassesOwn.never (qt_cmpR op_ge (qe_callB call_lenH (by rfl) T.b_len bt_len (qa_cons (qv 2) qa_nil)) (qe_callB call_lenH (by rfl) T.b_len bt_len (qa_cons (qv 1) qa_nil)) (nomark _)) (qss_cons (qs_set (i:=4) scN rfl (by walk_at "a1") (qe_cal zCover (hr.mono (by walk_at "a2")) rfl (qa_cons (qe_ix ix_h (qv 2) (qe_un un_neg qe_int) (fun _ _=>rfl)) (qa_cons (qe_ix ix_h (qv 1) (qe_un un_neg qe_int) (fun _ _=>rfl)) qa_nil))))
   (qss_cons (qs_set (i:=5) scN rfl (by walk_at "a1") (qe_op op_sub (qe_callB call_lenH (by rfl) T.b_len bt_len (qa_cons (qv 2) qa_nil)) (qe_callB call_lenH (by rfl) T.b_len bt_len (qa_cons (qv 1) qa_nil))))
   (qss_cons (qs_asg (qv 4) (qg_sub (qv 3) (qv 5) set_listS))
   (qss_one (qs_set (i:=2) scN rfl (by walk_at "a1") (qe_cal zCsummed (hr.mono (by walk_at "a2")) rfl (qa_cons (qv 2) (qa_cons (qe_op op_Plus (qe_op op_Mul (qe_lstS (qa_cons (qe_tupS (qa_cons qe_int (qa_cons qe_int qa_nil))) qa_nil)) (qv 5)) (qv 1)) (qa_cons (qe_tupS (qa_cons (qe_op op_sub qe_int (qe_ix ix_u (qv 4) qe_int (fun _ _=>rfl))) (qa_cons (qe_ix ix_u (qv 4) qe_int (fun _ _=>rfl)) qa_nil))) qa_nil))))))))))
   (qss_one (qs_ret (qe_tupS (qa_cons (qe_cal zCclean (hr.mono (by walk_at "a2")) rfl (qa_cons (qv 3) qa_nil)) (qa_cons (qv 2) qa_nil)))))))),?_⟩
  simp only [cxOf_K,cxOf_noxK]
  obtain ⟨xs,hxs,rxs⟩:=id ha
  obtain ⟨ys,hys,rys⟩:=id hb
  refine tSeq.gen fun N1 hN1=>?_
  walk_at "vc"
  refine ⟨xs,hxs,fun p1 H1 hp1 S1 h1=>hN1 _ _ ?_⟩
  refine tSeq.gen fun N2 hN2=>?_
  walk_at "vc"
  refine ⟨by decide,fun p2 H2 hp2 S2 h2=>⟨by decide,fun p3 H3 hp3 S3 h3=>?_⟩⟩
  have S03:=S1.trans (S2.trans S3)
  refine ⟨_,(ha.same S03).len,_,(hb.same S03).len,?_⟩
  have lg0:0 < gs.length:=List.length_pos_iff.mpr g0
  obtain ⟨n,hn,hnn⟩ : ∃ n:Nat,(if (fs.length:Int) - (gs.length:Int) + 1 > 0 then (fs.length:Int) - (gs.length:Int) + 1 else 0) = (n:Int) /\ n = fs.length + 1 - gs.length:=by
   refine ⟨fs.length + 1 - gs.length,?_,rfl⟩
   split <;> walk_at "o"
  rw [hn,rMul_rep]
  refine ⟨_,h3,by walk_at "o",by walk_at "o",?_,fun qa H4 hqa S4 h4=>hN2 _ _ ?_⟩
  ·have:1000 <= sizeLine:=by decide
   simp
   walk_at "o"
  rw [show ((n:Nat):Int).toNat = n by walk_at "o",rep_flat] at h4
  have S04:=S03.trans S4
  have r2:Rep (vw K H4) (fr (0,1)) (.ref p2):=rep_pair ((S3.trans S4) _ _ h2)
  have nqa:vw K H qa = none:=S03.none hqa
  have hgl:gs.length - 1 < gs.length:=by walk_at "o"
  have gl:gs.getLast? = some gs[gs.length - 1]:=by rw [List.getLast?_eq_getElem?,List.getElem?_eq_getElem hgl]
  have g1:gs[gs.length - 1].1 ≠ 0:=pg.2 _ gl
  have wl:cf gs (gs.length - 1) = wv gs[gs.length - 1]:=cf_some (List.getElem?_eq_getElem hgl)
  have hL0:G (gs.length - 1) ≠ 0:=fun z=>by
   have e:=hG (gs.length - 1)
   rw [wl,z] at e
   refine g1 ((wv_zero (pg.1 _ (List.getElem_mem hgl)).ne).mp ?_)
   rw [e]
   have c0:((0:Int):Rat) = 0:=rfl
   rw [c0]
   grind
  refine tSeq.gen fun N3 hN3=>?_
  walk_at "vc"
  obtain ⟨W,hW⟩ : ∃ W:Nat -> St -> Hp -> Prop,∀ m σ H',W m σ H' ↔ ∃ (ra:Addr) (rs qs:List (Int × Int)) (o4 o5:Option V),σ = [some (.ref a),some (.ref b),some (.ref ra),some (.ref qa),o4,o5] /\ Same (vw K H) (vw K H') /\ LsAt (vw K H') ra rs /\ ra ≠ qa /\ LsAt (vw K H') qa qs /\ PolyOk rs /\ rs.length = m /\ qs.length = n /\ (∀ q ∈ qs,Fq q /\ Bq (R + gB) q) /\
    (∀ k,k + gs.length <= rs.length -> cf qs k = 0) /\ (∀ k,cf fs k = pr (cf qs) (cf gs) n k + cf rs k) /\ ∃ (j:Nat) (D:Int),j + rs.length <= fs.length /\ D ≠ 0 /\ Bt (dB + (cB + 1) * j) D /\ Dv D (dB + (cB + 1) * j) rs:=⟨_,fun _ _ _=>Iff.rfl⟩
  refine ⟨W,⟨_,(hW _ _ _).mpr ⟨p1,fs,List.replicate n (0,1),_,_,rfl,S04,⟨_,(S2.trans (S3.trans S4)) _ _ h1,rxs.same S04⟩,?_,⟨_,h4,?_⟩,pf,rfl,by simp,fun q hq=>?_,fun k _=>?_,fun k=>?_,0,D0,by walk_at "o",hD0,by rw [Nat.mul_zero]; exact bD0,by rw [Nat.mul_zero]; exact vf⟩⟩,?_⟩
  ·exact ne_of_none ((S2.trans S3) _ _ h1) hqa
  ·rw [map_rep]
   exact Reps.repl r2 n
  ·rw [(List.mem_replicate.mp hq).2]
   exact ⟨Fq_01,Bq_01 (by walk_at "o")⟩
  ·have:=cf_pad [] n k
   rw [List.nil_append,cf_nil] at this
   exact this
  ·have z:∀ i,cf (List.replicate n (0,1)) i = 0:=fun i=>by
    have:=cf_pad [] n i
    rw [List.nil_append,cf_nil] at this
    exact this
   have z2:pr (cf (List.replicate n (0,1))) (cf gs) n k = 0:=by
    have:=pr_more (f:=cf (List.replicate n (0,1))) (g:=cf gs) (n:=0) (fun i _=>z i) n k
    rw [Nat.zero_add] at this
    exact this
   rw [z2]
   grind
  rintro m σ H5 w5
  obtain ⟨ra,rs,qs,o4,o5,rfl,S5,lr5,nrq,lq5,pr5,rfl,nq5,fq5,zq5,ev5,j,D,hj,hD,bD,vr5⟩:=(hW _ _ _).mp w5
  obtain ⟨rx,hrx,rrx⟩:=id lr5
  have hlr:rx.length = rs.length:=by rw [rrx.length,List.length_map]
  have hb5:=hb.same S5
  walk_at "vc"
  refine ⟨_,lr5.len,_,hb5.len,?_⟩
  refine ite2 (fun h0=>?_) (fun h0=>?_)
  ·have hle:gs.length <= rs.length:=by walk_at "o"
   have hrl:rs.length - 1 < rs.length:=by walk_at "o"
   obtain ⟨s,hs⟩ : ∃ s,s = rs.length - gs.length:=⟨_,rfl⟩
   obtain ⟨v1,e1,r1⟩:=rrx.at (i:=rs.length - 1) (d:=fr rs[rs.length - 1]) (by rw [List.getElem?_map,List.getElem?_eq_getElem hrl]; rfl)
   have x1:rx.getLast? = some v1:=by rw [List.getLast?_eq_getElem?,hlr]; exact e1
   obtain ⟨yy,hyy,ryy⟩:=id hb5
   have hly:yy.length = gs.length:=by rw [ryy.length,List.length_map]
   obtain ⟨v2,e2,r2'⟩:=ryy.at (i:=gs.length - 1) (d:=fr gs[gs.length - 1]) (by rw [List.getElem?_map,List.getElem?_eq_getElem hgl]; rfl)
   have x2:yy.getLast? = some v2:=by rw [List.getLast?_eq_getElem?,hly]; exact e2
   have hjR:dB + (cB + 1) * j <= R:=by
    rw [hR]
    exact Nat.add_le_add_left (Nat.mul_le_mul_left _ (by walk_at "o")) _
   have br:∀ q ∈ rs,Bq R q:=vr5.bq (n:=R) hD (bD.mono hjR) hjR pr5.1
   have fr1:=pr5.1 _ (List.getElem_mem hrl)
   have fg1:=pg.1 _ (List.getElem_mem hgl)
   have br1:=br _ (List.getElem_mem hrl)
   have bg1:=bg _ (List.getElem_mem hgl)
   refine ⟨_,fun σ' H' z=>z,rx,hrx,v1,atI_end x1,yy,hyy,v2,atI_end x2,?_⟩
   simp only [zPover]
   walk_at "vc"
   refine ⟨_,r1,_,r2',fr1.ne,fg1.ne,g1,br1.mono (by walk_at "o"),bg1.mono (by walk_at "o"),(br1.2.mul bg1.1).mono (by walk_at "o"),fun v6 H6 S6 r6=>?_⟩
   obtain ⟨y,hy⟩ : ∃ y,y = divq rs[rs.length - 1] gs[gs.length - 1]:=⟨_,rfl⟩
   rw [<- hy] at r6
   have fy:Fq y:=by rw [hy]; exact divq_Fq fr1 g1
   have by_:Bq (R + gB) y:=by rw [hy]; exact divq_Bq fr1 g1 br1 bg1
   have wy:wv y = cf rs (rs.length - 1) / cf gs (gs.length - 1):=by
    rw [hy,wv_div fr1.ne fg1.ne g1,cf_some (List.getElem?_eq_getElem hrl),wl]
   obtain ⟨bp,rfl,hbp⟩:=id r6.fr_at
   obtain ⟨qx,hqx,rqx⟩:=id (lq5.same S6)
   have hlq:qx.length = n:=by rw [rqx.length,List.length_map,nq5]
   have hsn:s < n:=by walk_at "o"
   have S06:=S5.trans S6
   refine ⟨_,(lr5.same S6).len,_,(hb5.same S6).len,?_⟩
   rw [show (rs.length:Int) - (gs.length:Int) = (s:Int) by walk_at "o"]
   refine ⟨qx,hqx,s,ixN_nat (by walk_at "o"),fun H7 B7 h7=>?_⟩
   have nbq:b ≠ qa:=ne_of_none hys nqa
   have S07:Same (vw K H) (vw K H7):=fun x o e=>B7 _ _ (ne_of_none e nqa) (S06 _ _ e)
   have lr7:=(lr5.same S6).but hqx nrq B7
   have hyy7:=B7 _ _ nbq (S6 _ _ hyy)
   have lq7:LsAt (vw K H7) qa (qs.set s y):=LsAt.chg hqx rqx r6 B7 h7
   have hbp7:=B7 _ _ (ne_of hbp hqx (by intro z; cases z)) hbp
   walk_at "vc"
   refine ⟨by decide,fun p8 H8 hp8 S8 h8=>⟨by decide,fun p9 H9 hp9 S9 h9=>?_⟩⟩
   show rMul K (.ref p9) (.int _) H9 _
   rw [rMul_rep]
   refine ⟨_,h9,by walk_at "o",by walk_at "o",?_,fun p10 H10 hp10 S10 h10=>?_⟩
   ·have:1000 <= sizeLine:=by decide
    simp
    walk_at "o"
   rw [show ((s:Nat):Int).toNat = s by walk_at "o",rep_flat] at h10
   have S710:=S8.trans (S9.trans S10)
   show rPlus K (.ref p10) (.ref b) H10 _
   rw [rPlus_cat]
   refine ⟨_,h10,yy,S710 _ _ hyy7,?_,fun p11 H11 hp11 S11 h11=>?_⟩
   ·have:1000 <= sizeLine:=by decide
    simp [hly]
    walk_at "o"
   have S711:=S710.trans S11
   have lp11:LsAt (vw K H11) p11 (List.replicate s (0,1) ++ gs):=by
    obtain ⟨zz,z1,z2⟩:=hb.same (S07.trans S711)
    rw [S711 _ _ hyy7] at z1
    cases z1
    refine ⟨_,h11,?_⟩
    rw [List.map_append,map_rep]
    exact (Reps.repl (rep_pair ((S9.trans (S10.trans S11)) _ _ h8)) s).app z2
   walk_at "vc"
   refine ⟨_,S711 _ _ hbp7,_,atI_0,_,rfl,_,S711 _ _ hbp7,_,atI_1,by decide,fun p12 H12 hp12 S12 h12=>?_⟩
   have S712:=S711.trans S12
   have fc:Fq (0 - y.1,y.2):=⟨fy.1,by have:=fy.2; rw [Int.zero_sub,Int.neg_gcd]; exact this⟩
   have wc:wv (0 - y.1,y.2) = - wv y:=by
    unfold wv
    show ((0 - y.1:Int):Rat) / (y.2:Rat) = _
    rw [Rat.intCast_sub]
    have c0:((0:Int):Rat) = 0:=rfl
    rw [c0]
    grind
   have bc:Bq (R + gB) (0 - y.1,y.2):=⟨by have:=by_.1; unfold Bt at this ⊢; show (0 - y.1).natAbs < _; walk_at "o",by_.2⟩
   simp only [zPsummed]
   refine ⟨_,_,_,rs,_,(0 - y.1,y.2),R,gB,R + gB,rfl,lr7.same S712,lp11.same S12,rep_pair h12,by walk_at "o",by simp; walk_at "o",by walk_at "o",by walk_at "o",fun q hq=>⟨pr5.1 q hq,br q hq⟩,fun q hq=>?_,fc,bc,fun d H13 ts S13 l13 nd13 p13 w13 n13 _=>?_⟩
   ·rcases List.mem_append.mp hq with z | z
    ·rw [(List.mem_replicate.mp z).2]
     exact ⟨Fq_01,Bq_01 gB1⟩
    ·exact ⟨pg.1 q z,bg q z⟩
   have ng:cf gs (gs.length - 1) ≠ 0:=by
    rw [wl]
    exact fun z=>g1 ((wv_zero fg1.ne).mp z)
   have w':∀ k,cf ts k = cf rs k - (cf rs (rs.length - 1) / cf gs (gs.length - 1)) * (if k < s then 0 else cf gs (k - s)):=fun k=>by
    rw [w13 k,cf_shift,wc,wy]
    grind
   have lt1:ts.length <= rs.length - 1:=len_le p13 fun k hk=>by
    rw [w' k]
    by_cases hk2:k = rs.length - 1
    ·rw [hk2,if_neg (by walk_at "o"),show rs.length - 1 - s = gs.length - 1 by walk_at "o"]
     grind
    ·rw [cf_none (show rs.length <= k by walk_at "o"),if_neg (by walk_at "o"),cf_none (show gs.length <= k - s by walk_at "o")]
     grind
   have S713:=S712.trans S13
   have cq:∀ k,cf (qs.set s y) k = if k = s then wv y else cf qs k:=fun k=>cf_setv (by walk_at "o")
   have z0:cf qs s = 0:=zq5 s (by walk_at "o")
   refine ⟨_,by walk_at "o",(hW ts.length _ _).mpr ⟨d,ts,qs.set s y,_,_,rfl,S07.trans S713,l13,?_,lq7.same S713,p13,rfl,by rw [List.length_set]; exact nq5,fun q hq=>?_,fun k hk=>?_,fun k=>?_,j + 1,D * G (gs.length - 1),by walk_at "o",Int.mul_ne_zero hD hL0,(bD.mul (bG _)).mono (by rw [Nat.mul_succ]; walk_at "o"),?_⟩⟩
   ·exact ne_of_none (S712 _ _ h7) nd13 |>.symm
   ·rcases List.mem_or_eq_of_mem_set hq with z | rfl
    ·exact fq5 q z
    ·exact ⟨fy,by_⟩
   ·rw [cq,if_neg (by walk_at "o")]
    exact zq5 k (by walk_at "o")
   ·rw [show cf (qs.set s y) = fun k=>if k = s then wv y else cf qs k from funext cq,pr_set z0,ev5 k,w' k,wy]
    by_cases hk:k < s
    ·rw [if_neg (by walk_at "o"),if_pos hk]
     grind
    ·rw [if_pos ⟨hsn,by walk_at "o"⟩,if_neg hk]
     grind
   ·have:=vr5.stepQ hD hG bG ρ0 rfl hL0 w'
    obtain ⟨F',q1,q2⟩:=this
    exact ⟨F',q1,fun k=>(q2 k).mono (by rw [Nat.mul_succ]; walk_at "o")⟩
  ·have hlt:rs.length < gs.length:=by walk_at "o"
   refine hN3 _ _ ?_
   walk_at "vc"
   simp only [zPclean]
   walk_at "vc"
   refine ⟨qs,lq5,fun c H6 m hm hz hdr hc S6 l6=>⟨by decide,fun p7 H7 hp7 S7 h7=>?_⟩⟩
   have hFq:∀ q ∈ qs,Fq q:=fun q z=>(fq5 q z).1
   have ct:∀ k,cf (qs.take m) k = cf qs k:=cf_take hFq hdr
   have S67:=S6.trans S7
   have lt:(qs.take m).length = m:=by rw [List.length_take]; walk_at "o"
   refine h p7 c ra H7 (qs.take m) rs (S5.trans S67) h7 (l6.same S7) (lr5.same S67) (clean_ok hFq hz) pr5 hlt (by walk_at "o") (fun k=>?_)
   ·rw [ev5 k,lt,show cf (qs.take m) = cf qs from funext ct]
    have:=pr_more (f:=cf qs) (g:=cf gs) (n:=m) (fun i hi=>by rw [<- ct i]; exact cf_none (by walk_at "o")) (n - m) k
    rw [show m + (n - m) = n by walk_at "o"] at this
    rw [this]
theorem wv_m1:wv (-1,1) = -1:=by
 show ((-1:Int):Rat) / ((1:Int):Rat) = -1
 have e1:((1:Int):Rat) = 1:=rfl
 have e2:((-1:Int):Rat) = -1:=by
  rw [Rat.intCast_neg]
  rfl
 rw [e1,e2]
 grind
theorem atI_end2 {α:Type} {xs:List α} {x:α} {n:Nat} (hl:xs.length = n + 2) (h:xs[n]? = some x):atI xs (-2) = some x:=by
 unfold atI
 have:ixN xs.length (-2) = some n:=by
  rw [hl]
  unfold ixN
  simp
  try walk_at "o"
 rw [this]
 exact h
def zPdue (K:PySem.W.Frag):Sp:=fun vs H Q _=>∃ (a:Addr) (fs gs:List (Int × Int)) (rs:List (List (Int × Int))),vs = [.ref a] /\ LsAt (vw K H) a fs /\ fs ≠ [] /\ fs.length <= 9 /\ PolyOk fs /\ Pb 185 (cf fs) /\ PolyOk gs /\ (∀ k,cf gs k = ((k + 1:Nat):Int) * cf fs (k + 1)) /\ gs.length = fs.length - 1 /\ Chn fs gs rs /\ rs.length <= 9 /\ (∀ r ∈ rs,r.length <= 9 /\ Pb 400000 (cf r)) /\
 ∀ (t:Addr) H',Same (vw K H) (vw K H') -> vw K H t = none -> CmAt (vw K H') t (chl fs gs rs) (fun _=>True) -> Q (.ref t) H'
theorem zOdue (F:Fun K "_law_due" "_law_due" zTdue f fd) (T:Txt K mg) (zCslope:Cal P w K mg base "_law_slope" ["_law_f"] 4 (zPslope K)) (zCsummed:Cal P w K mg base "_law_summed" ["_law_f", "_law_g", "_law_by"] 4 (zPsummed K)) (zCparted:Cal P w K mg base "_law_parted" ["_law_f", "_law_g"] 5 (zPparted K)):FnOk P w K mg base CX0 6 f fd ["_law_f"] (zPdue K):=by
 have scN:=zUdue.nd
 refine F.okQ zUdue (fun vs H Q E h=>?_) (fun cdv A outer s H vs Q E hr h=>?_)
 ·obtain ⟨_,_,_,_,rfl,_⟩:=h
  rfl
 ·obtain ⟨a,fs,gs,rs,rfl,ha,f0,lf,pf,bf,pg,cg,lg',ch,lrs,brs,h⟩:=h
  refine ⟨_,(qss_cons (qs_set (i:=1) scN rfl (by walk_at "a1") (qe_lstS (qa_cons (qv 0) qa_nil)))
   (qss_cons (qs_set (i:=2) scN rfl (by walk_at "a1") (qe_cal zCslope (hr.mono (by walk_at "a2")) rfl (qa_cons (qv 0) qa_nil)))
   (qss_cons (qs_while PassesOwn.never (qt_cmpR (op_neNil hr.ul) (qv 2) (qe_lstS qa_nil) (nomark _)) (qss_cons (qs_expr (qe_bm PySem.F.plainAttrs_list PySem.F.slot_list_append PySem.F.type_list_append mt_appendS (qv 1) (qa_cons (qv 2) qa_nil)))
   (qss_one (qs_set (i:=2) scN rfl (by walk_at "a1") (qe_cal zCsummed (hr.mono (by walk_at "a2")) rfl (qa_cons (qe_lstS qa_nil) (qa_cons (qe_ix ix_u (qe_cal zCparted (hr.mono (by walk_at "a2")) rfl (qa_cons (qe_ix ix_h (qv 1) (qe_un un_neg qe_int) (fun _ _=>rfl)) (qa_cons (qv 2) qa_nil))) qe_int (fun _ _=>rfl)) (qa_cons (qe_tupS (qa_cons (qe_un un_neg qe_int) (qa_cons qe_int qa_nil))) qa_nil))))))))
   (qss_one (qs_ret (qv 1)))))),?_⟩
  simp only [cxOf_K,cxOf_noxK]
  refine tSeq.gen fun N1 hN1=>?_
  walk_at "vc"
  refine ⟨by decide,fun t H1 ht S1 h1=>hN1 _ _ ?_⟩
  refine tSeq.gen fun N2 hN2=>?_
  walk_at "vc"
  simp only [zPslope]
  have bq:=bf.bq pf.1
  refine ⟨a,fs,rfl,ha.same S1,by walk_at "o",fun q z=>⟨pf.1 q z,(bq q z).mono (by decide)⟩,fun d H2 gs' S2 ld nd pg' cg' lg2=>hN2 _ _ ?_⟩
  have eg:gs' = gs:=poly_ext pg' pg fun k=>by rw [cg' k,cg k]
  subst eg
  refine tSeq.gen fun N3 hN3=>?_
  walk_at "vc"
  have ht0:vw K H t = none:=ht
  have S02:=S1.trans S2
  have nat':a ≠ t:=by
   obtain ⟨xs,hxs,_⟩:=id ha
   exact ne_of_none hxs ht
  have lch:(chl fs gs' rs).length <= 11:=by
   unfold chl
   split <;> simp <;> walk_at "o"
  obtain ⟨W,hW⟩ : ∃ W:Nat -> St -> Hp -> Prop,∀ m σ H',W m σ H' ↔ ∃ (e:Addr) (p q:List (Int × Int)) (pss rem:List (List (Int × Int))),σ = [some (.ref a),some (.ref t),some (.ref e)] /\ m = q.length /\ Same (vw K H) (vw K H') /\ CmAt (vw K H') t (pss ++ [p]) (fun l=>True /\ l ≠ t) /\ LsAt (vw K H') e q /\ e ≠ t /\ PolyOk p /\ PolyOk q /\ p.length <= 9 /\ q.length <= 9 /\ Pb 400000 (cf p) /\ Pb 400000 (cf q) /\ Chn p q rem /\ (∀ r ∈ rem,r.length <= 9 /\ Pb 400000 (cf r)) /\ (pss ++ [p]) ++ (if q = [] then [] else q :: rem) = chl fs gs' rs:=⟨_,fun _ _ _=>Iff.rfl⟩
  refine ⟨W,⟨_,(hW _ _ _).mpr ⟨d,fs,gs',[],rs,rfl,rfl,S02,⟨_,S2 _ _ h1,rfl,fun k ps e=>?_⟩,ld,(ne_of_none h1 nd).symm,pf,pg,lf,by walk_at "o",bf.mono (by decide),(bf.slope lf cg).mono (by decide),ch,brs,?_⟩⟩,fun m σ H3 hw=>?_⟩
  ·cases k with
   | zero =>
    cases e
    exact ⟨a,rfl,ha.same S02,trivial,nat'⟩
   | succ k=>simp at e
  ·unfold chl
   split <;> rfl
  obtain ⟨e,p,q,pss,rem,rfl,rfl,S3,cm3,le,net,pp,pq,lp,lq,bp,bq',ch3,brem,fin⟩:=(hW _ _ _).mp hw
  walk_at "vc"
  obtain ⟨xe,hxe,rxe⟩:=id le
  have lxe:xe.length = q.length:=by rw [rxe.length,List.length_map]
  refine ⟨Nat.zero_le _,fun n1 H4 hn1 S4 h4=>⟨n1,rfl,xe,S4 _ _ hxe,h4,ite2 (fun hc=>⟨_,fun σ' H' z=>z,?_⟩) (fun hc=>hN3 _ _ ?_)⟩⟩
  ·have q0:q ≠ []:=fun z=>by
    rw [z] at lxe
    rw [List.length_eq_zero_iff.mp lxe] at hc
    cases hc
   rw [if_neg q0] at fin
   have lfin:(pss ++ [p]).length + (rem.length + 1) <= 11:=by
    have:=congrArg List.length fin
    rw [List.length_append] at this
    simp only [List.length_cons] at this
    walk_at "o"
   obtain ⟨ts,hts,lts,cts⟩:=id (cm3.same S4)
   refine ⟨ty_lst hts,ts,hts,?_,fun H5 B5 h5=>⟨Nat.zero_le _,fun n2 H6 hn2 S6 h6=>⟨_,S6 _ _ h5,?_⟩⟩⟩
   ·have:1000 <= sizeLine:=by decide
    walk_at "o"
   have cm5:=(cm3.same S4).snoc hts B5 (le.same S4) trivial net h5
   have cm6:=cm5.same S6
   have S46:Same (vw K H) (vw K H6):=fun y o e=>S6 _ _ (B5 _ _ (ne_of_none e ht0) (S4 _ _ (S3 _ _ e)))
   obtain ⟨us,hus,lus,cus⟩:=id cm6
   rw [S6 _ _ h5] at hus
   cases hus
   obtain ⟨pa,ep,lpa,_⟩:=cus pss.length p (by rw [List.append_assoc,List.getElem?_append_right (by walk_at "o"),Nat.sub_self]; rfl)
   have le6:LsAt (vw K H6) e q:=(LsAt.but (le.same S4) hts net B5).same S6
   refine ⟨_,atI_end2 (n:=pss.length) (by rw [lus]; simp) ep,?_⟩
   simp only [zPparted]
   obtain ⟨D,hD,bD,vD⟩:=bp.dv
   obtain ⟨ρ,G,hρ,eG,bG⟩:=bq'.sc
   have lqp:0 < q.length:=List.length_pos_iff.mpr q0
   refine ⟨pa,e,p,q,D,400000,400000,400000,ρ,G,rfl,lpa,le6,pp,pq,q0,lp,lq,hD,bD,vD,hρ,eG,bG,bq'.bq pq.1,by decide,by decide,?_,fun u c d' H7 qs r0 S7 h7 lc ld' _ pr0 lr0 _ ev=>?_⟩
   ·have:(400000 + 1) * (p.length + 1 - q.length) <= (400000 + 1) * 9:=Nat.mul_le_mul_left _ (by walk_at "o")
    walk_at "o"
   refine ⟨u,rfl,_,h7,_,atI_1,by decide,fun v H8 hv S8 h8=>?_⟩
   simp only [zPsummed]
   have nx:=ch3.next pq q0 lr0 ev
   have key:∀ q' rem',(∀ k,cf q' k = - cf r0 k) -> PolyOk q' -> q'.length < q.length -> Pb 400000 (cf q') -> Chn q q' rem' -> (∀ r ∈ rem',r.length <= 9 /\ Pb 400000 (cf r)) -> ((pss ++ [p]) ++ [q]) ++ (if q' = [] then [] else q' :: rem') = chl fs gs' rs -> zPsummed K [.ref n2,.ref d',.ref v] H8 (fun x H1=>∃ m',m' < q.length /\ W m' [some (.ref a),some (.ref t),some x] H1) E0:=by
    intro q' rem' e1 pq' lq' bq2 ch' br' fin'
    have br0:Pb 400000 (cf r0):=bq2.neg fun k=>by rw [e1 k]; exact (Rat.neg_neg _).symm
    have f1:Fq (-1,1):=⟨by decide,by decide⟩
    refine ⟨n2,d',.ref v,[],r0,(-1,1),1,400000,1,rfl,⟨[],(S7.trans S8) _ _ h6,.mk_nil⟩,ld'.same S8,rep_pair h8,by simp,by walk_at "o",by decide,by decide,by simp,fun x z=>⟨pr0.1 x z,br0.bq pr0.1 x z⟩,f1,⟨by decide,by decide⟩,fun x H9 ts' S9 l9 nd9 p9 c9 _ _=>?_⟩
    have et:ts' = q':=poly_ext p9 pq' fun k=>by
     rw [c9 k,e1 k,cf_nil,wv_m1]
     grind
    subst et
    have S69:=S7.trans (S8.trans S9)
    refine ⟨_,lq',(hW _ _ _).mpr ⟨x,q,ts',pss ++ [p],rem',rfl,rfl,S46.trans S69,cm6.same S69,l9,?_,pq,pq',lq,by walk_at "o",bq',bq2,ch',br',fin'⟩⟩
    exact (ne_of_none ((S7.trans S8) _ _ (S6 _ _ h5)) nd9).symm
   rcases nx with ⟨er,ez⟩ | ⟨r,rem',er,r0',pr',lr',ez,ch'⟩
   ·subst er
    refine key [] [] (fun k=>?_) ⟨by simp,by simp⟩ (by simpa using lqp) (pb_nil (by decide)) .nought (by simp) ?_
    ·rw [ez k,cf_nil]
     rfl
    ·rw [if_pos rfl,List.append_nil]
     exact fin
   ·subst er
    obtain ⟨b1,b2⟩:=brem r (List.mem_cons_self ..)
    refine key r rem' (fun k=>?_) pr' lr' b2 ch' (fun y z=>brem y (List.mem_cons_of_mem _ z)) ?_
    ·rw [ez k]
     exact (Rat.neg_neg _).symm
    ·rw [if_neg r0',List.append_assoc]
     exact fin
  ·have q1:q = []:=by
    cases q with
    | nil=>rfl
    | cons x y =>
     cases xe with
     | nil=>cases lxe
     | cons _ _=>exact absurd rfl hc
   subst q1
   rw [if_pos rfl,List.append_nil] at fin
   walk_at "vc"
   rw [fin] at cm3
   obtain ⟨ts,hts,lts,cts⟩:=cm3.same S4
   exact h t H4 (S3.trans S4) ht0 ⟨ts,hts,lts,fun k ps e'=>by
    obtain ⟨l,z1,z2,_⟩:=cts k ps e'
    exact ⟨l,z1,z2,trivial⟩⟩
def zPcell_at (K:PySem.W.Frag):Sp:=fun vs H Q _=>∃ (a:Addr) (ns:List Int) (k:Nat),vs = [.ref a,.int k] /\ ScrOk K H a (ns.map V.int) /\ ∀ x:Int,Q (.int x) H
theorem zOcell_at (F:Fun K "_law_cell_at" "_law_cell_at" zTcell_at f fd) (T:Txt K mg):FnOk P w K mg base CX0 1 f fd ["_law_script", "_law_k"] (zPcell_at K):=by
 have scN:=zUcell_at.nd
 refine F.okQ zUcell_at (fun vs H Q E h=>?_) (fun cdv A outer s H vs Q E hr h=>?_)
 ·obtain ⟨a,ns,k,rfl,_⟩:=h
  rfl
 ·obtain ⟨a,ns,k,rfl,hS,h⟩:=h
  refine ⟨_,(qss_cons (qs_if (qt_cmpR op_lt (qv 1) (qe_callB call_len_seq (by rfl) T.b_len bt_len (qa_cons (qv 0) qa_nil)) (nomark _)) (qss_one (qs_ret (qe_ix ix_list (qv 0) (qv 1) (fun _ _=>rfl)))) qss_nil)
   (qss_one (qs_ret qe_int))),?_⟩
  walk_at "vc"
  refine ⟨_,.inl hS.sq,ite2 (fun hk=>?_) (fun hk=>h 0)⟩
  simp only [List.length_map] at hk
  have hk':k < ns.length:=by walk_at "o"
  exact ⟨_,hS.sq,_,atI_nat (by rw [List.getElem?_map,List.getElem?_eq_getElem hk']; rfl),h _⟩
def zPstate (K:PySem.W.Frag):Sp:=fun vs H Q _=>∃ (a:Addr) (ns:List Int) (k:Nat),vs = [.ref a,.int k] /\ ScrOk K H a (ns.map V.int) /\ ∀ st H',vw K H st = none -> Same (vw K H) (vw K H') -> StOk (vw K H') st -> Q (.ref st) H'
theorem zOstate (F:Fun K "_law_state" "_law_state" zTstate f fd) (T:Txt K mg) (zCcell_at:Cal P w K mg base "_law_cell_at" ["_law_script", "_law_k"] 1 (zPcell_at K)):FnOk P w K mg base CX0 2 f fd ["_law_script", "_law_k"] (zPstate K):=by
 have scN:=zUstate.nd
 refine F.okQ zUstate (fun vs H Q E h=>?_) (fun cdv A outer s H vs Q E hr h=>?_)
 ·obtain ⟨a,ns,k,rfl,_⟩:=h
  rfl
 ·obtain ⟨a,ns,k,rfl,hS,h⟩:=h
  refine ⟨_,(qss_cons (qs_set (i:=2) scN rfl (by walk_at "a1") (qe_cal zCcell_at (hr.mono (by walk_at "a2")) rfl (qa_cons (qv 0) (qa_cons (qv 1) qa_nil))))
   (qss_cons (qs_if (qt_cmpR op_ge (qv 2) (qe_op op_pow qe_int qe_int) (nomark _)) (qss_one (qs_ret (qe_lstS (qa_cons (qe_op op_sub (qv 2) (qe_op op_pow qe_int qe_int)) (qa_cons qe_bl qa_nil))))) qss_nil)
   (qss_one (qs_ret (qe_lstS (qa_cons (qe_op op_modX (qv 2) qe_int) (qa_cons qe_bl qa_nil))))))),?_⟩
  walk_at "vc"
  simp only [zPcell_at]
  walk_at "vc"
  refine ⟨⟨k,rfl⟩,⟨ns,hS⟩,fun x=>⟨CPow_of (by decide),ite2 (fun hx=>⟨CPow_of (by decide),by decide,fun p H2 hp S hp2=>h p H2 hp S ⟨_,_,hp2,fun z=>by cases z⟩⟩) (fun hx=>⟨by decide,by decide,fun p H2 hp S hp2=>h p H2 hp S ⟨_,_,hp2,fun _=>?_⟩⟩)⟩⟩
  exact ⟨Int.fmod_nonneg_of_pos x (by decide),Int.fmod_lt_of_pos x (by decide)⟩
def zPtake (K:PySem.W.Frag):Sp:=fun vs H Q _=>∃ (st:Addr) (m:Int),vs = [.ref st,.int m] /\ StOk (vw K H) st /\ 0 < m /\ m <= 2147483587 /\ ∀ r H',0 <= r -> r < m -> But st (vw K H) (vw K H') -> StOk (vw K H') st -> Q (.int r) H'
theorem zOtake (F:Fun K "_law_take" "_law_take" zTtake f fd) (T:Txt K mg):FnOk P w K mg base CX0 1 f fd ["_law_state_here", "_law_many"] (zPtake K):=by
 have scN:=zUtake.nd
 refine F.okQ zUtake (fun vs H Q E h=>?_) (fun cdv A outer s H vs Q E hr h=>?_)
 ·obtain ⟨a,ns,rfl,_⟩:=h
  rfl
 ·obtain ⟨st,m,rfl,⟨x,b,hst,hx⟩,hm,hm2,h⟩:=h
  refine ⟨_,(qss_cons (qs_if (qt_truth (qe_ix ix_h (qv 0) qe_int (fun _ _=>rfl)) (fun _=>rfl)) (qss_cons (qs_set (i:=2) scN rfl (by walk_at "a1") (qe_op op_modX (qe_ix ix_h (qv 0) qe_int (fun _ _=>rfl)) (qv 1)))
   (qss_cons (qs_asg (qe_op op_fdivX (qe_ix ix_h (qv 0) qe_int (fun _ _=>rfl)) (qv 1)) (qg_sub (qv 0) qe_int set_listS))
   (qss_one (qs_ret (qv 2))))) qss_nil)
   (qss_cons (qs_asg (qe_op op_modX (qe_op op_Plus (qe_op op_Mul (qe_ix ix_h (qv 0) qe_int (fun _ _=>rfl)) qe_int) qe_int) qe_int) (qg_sub (qv 0) qe_int set_listS))
   (qss_cons (qs_set (i:=3) scN rfl (by walk_at "a1") (qe_op op_modX (qe_op op_Plus (qe_op op_Plus (qe_op op_Mul (qe_ix ix_h (qv 0) qe_int (fun _ _=>rfl)) (qe_ix ix_h (qv 0) qe_int (fun _ _=>rfl))) (qe_op op_Mul qe_int (qe_ix ix_h (qv 0) qe_int (fun _ _=>rfl)))) qe_int) qe_int))
   (qss_cons (qs_set (i:=3) scN rfl (by walk_at "a1") (qe_op op_modX (qe_op op_Plus (qe_op op_Mul (qv 3) (qv 3)) (qe_op op_Mul qe_int (qv 3))) qe_int))
   (qss_one (qs_ret (qe_op op_modX (qe_op op_fdivX (qv 3) qe_int) (qv 1)))))))),?_⟩
  have hm0:m ≠ 0:=by walk_at "o"
  cases b with
  | true =>
   walk_at "vc*"
   refine ⟨divX hm0 (by unfold Bt; walk_at "o"),fun H2 B h2=>h _ _ (Int.fmod_nonneg_of_pos x hm) (Int.fmod_lt_of_pos x hm) B ⟨_,_,h2,fun z=>by cases z⟩⟩
  | false =>
   walk_at "vc*"
   refine ⟨mulOk_r (by decide),by decide,fun H2 B h2=>?_⟩
   have b1:Bt 31 ((x * 48271 + 29).fmod 2147483647):=bt_fmod (by decide) (by decide)
   have b3:0 <= (x * 48271 + 29).fmod 2147483647 /\ (x * 48271 + 29).fmod 2147483647 < 2147483647:=⟨Int.fmod_nonneg_of_pos _ (by decide),Int.fmod_lt_of_pos _ (by decide)⟩
   generalize (x * 48271 + 29).fmod 2147483647 = y at *
   walk_at "vc*"
   have b2:Bt 31 ((y * y + 39373 * y + 7).fmod 2147483629):=bt_fmod (by decide) (by decide)
   generalize e2:(y * y + 39373 * y + 7).fmod 2147483629 = z at *
   refine ⟨mulOk_l (b1.mono (by decide)),mulOk_l (by decide),by decide,mulOk_l (b2.mono (by decide)),mulOk_l (by decide),by decide,divX (by decide) (by decide),?_⟩
   exact h _ _ (Int.fmod_nonneg_of_pos _ hm) (Int.fmod_lt_of_pos _ hm) B ⟨_,_,h2,fun _=>b3⟩
def zPsmall (K:PySem.W.Frag):Sp:=fun vs H Q _=>∃ st:Addr,vs = [.ref st] /\ StOk (vw K H) st /\ ∀ v H' q,But st (vw K H) (vw K H') -> StOk (vw K H') st -> Rep (vw K H') (fr q) v -> Fq q -> Bt 10 q.1 -> Bt 10 q.2 -> Sx 36 q -> Q v H'
theorem zOsmall (F:Fun K "_law_small" "_law_small" zTsmall f fd) (T:Txt K mg) (zClow:Cal P w K mg base "_law_low" ["_law_top", "_law_bottom"] 2 (zPlow K))
  (zCtake:Cal P w K mg base "_law_take" ["_law_state_here", "_law_many"] 1 (zPtake K)):FnOk P w K mg base CX0 3 f fd ["_law_state_here"] (zPsmall K):=by
 have scN:=zUsmall.nd
 refine F.okQ zUsmall (fun vs H Q E h=>?_) (fun cdv A outer s H vs Q E hr h=>?_)
 ·obtain ⟨a,rfl,_⟩:=h
  rfl
 ·obtain ⟨st,rfl,hst,h⟩:=h
  refine ⟨_,(qss_one (qs_ret (qe_cal zClow (hr.mono (by walk_at "a2")) rfl (qa_cons (qe_op op_sub (qe_cal zCtake (hr.mono (by walk_at "a2")) rfl (qa_cons (qv 0) (qa_cons qe_int qa_nil))) qe_int) (qa_cons (qe_op op_Plus qe_int (qe_ix ix_h (qe_lstS (qa_cons qe_int (qa_cons qe_int (qa_cons (qe_cal zCtake (hr.mono (by walk_at "a2")) rfl (qa_cons (qv 0) (qa_cons qe_int qa_nil))) qa_nil)))) (qe_cal zCtake (hr.mono (by walk_at "a2")) rfl (qa_cons (qv 0) (qa_cons qe_int qa_nil))) (fun _ _=>rfl))) qa_nil))))),?_⟩
  walk_at "vc"
  simp only [zPtake,zPlow]
  walk_at "vc"
  refine ⟨hst,by decide,by decide,fun r1 H1 r10 r11 B1 S1=>⟨S1,by decide,by decide,fun r2 H2 r20 r21 B2 S2=>⟨by decide,?_⟩⟩⟩
  intro p H3 hp S3 h3
  refine ⟨S2.same S3,by decide,by decide,fun r4 H4 r40 r41 B4 S4=>?_⟩
  have h4:=B4 _ _ (S2.ne hp) h3
  obtain ⟨v,hv,hm⟩:=atI_mem (xs:=[V.int 0,V.int 0,V.int r2]) r40 (by simpa using r41)
  obtain ⟨z,rfl,hz0,hz1⟩ : ∃ z,v = .int z /\ 0 <= z /\ z < 3:=by
   simp only [List.mem_cons,List.not_mem_nil,or_false] at hm
   rcases hm with rfl | rfl | rfl
   ·exact ⟨0,rfl,by decide,by decide⟩
   ·exact ⟨0,rfl,by decide,by decide⟩
   ·exact ⟨r2,rfl,r20,r21⟩
  walk_at "vc"
  refine ⟨_,h4,_,hv,?_⟩
  walk_at "vc"
  have hz:1 + z ≠ 0:=by walk_at "o"
  have hb:(1 + z).natAbs < 2 ^ 10:=by walk_at "o"
  refine ⟨hz,Nat.lt_of_lt_of_le hb (Nat.pow_le_pow_right (by decide) (by decide)),fun v H5 S5 r5=>?_⟩
  have q2:=lo_mul_right (a:=r1 - 6) hz
  have q1:=lo_mul_left (a:=r1 - 6) hz
  have hl:lg (r1 - 6) (1 + z) ≠ 0:=lg_ne hz
  refine h v H5 _ (((B1.trans B2).same_trans S3).trans (B4.same_trans S5)) (S4.same S5) r5 (lo_Fq hz) ?_ ?_ (Sx.lo hz0 hz1 (by walk_at "o"))
  ·unfold Bt
   have:=Int.natAbs_mul (lo (r1 - 6) (1 + z)).1 (lg (r1 - 6) (1 + z))
   rw [q1] at this
   have:=Nat.le_mul_of_pos_right (lo (r1 - 6) (1 + z)).1.natAbs (show 0 < (lg (r1 - 6) (1 + z)).natAbs by walk_at "o")
   walk_at "o"
  ·unfold Bt
   have:=Int.natAbs_mul (lo (r1 - 6) (1 + z)).2 (lg (r1 - 6) (1 + z))
   rw [q2] at this
   have:=Nat.le_mul_of_pos_right (lo (r1 - 6) (1 + z)).2.natAbs (show 0 < (lg (r1 - 6) (1 + z)).natAbs by walk_at "o")
   walk_at "o"
def zPpolynomial (K:PySem.W.Frag):Sp:=fun vs H Q _=>∃ (st:Addr) (m:Nat),vs = [.ref st,.int m] /\ m <= 20 /\ StOk (vw K H) st /\ ∀ a H' qs,But st (vw K H) (vw K H') -> StOk (vw K H') st -> LsAt (vw K H') a qs -> (∀ q ∈ qs,Fq q /\ Bt 10 q.1 /\ Bt 10 q.2 /\ Sx 36 q) -> qs.length <= m -> (∀ q,qs.getLast? = some q -> q.1 ≠ 0) -> vw K H a = none -> Q (.ref a) H'
theorem zOpolynomial (F:Fun K "_law_polynomial" "_law_polynomial" zTpolynomial f fd) (T:Txt K mg) (zCsmall:Cal P w K mg base "_law_small" ["_law_state_here"] 3 (zPsmall K))
  (zCtake:Cal P w K mg base "_law_take" ["_law_state_here", "_law_many"] 1 (zPtake K)) (zCclean:Cal P w K mg base "_law_clean" ["_law_numbers"] 1 (zPclean K)):FnOk P w K mg base CX0 4 f fd ["_law_state_here", "_law_most"] (zPpolynomial K):=by
 have scN:=zUpolynomial.nd
 refine F.okQ zUpolynomial (fun vs H Q E h=>?_) (fun cdv A outer s H vs Q E hr h=>?_)
 ·obtain ⟨a,_,rfl,_⟩:=h
  rfl
 ·obtain ⟨st,m,rfl,hm,hst,h⟩:=h
  refine ⟨_,(qss_one (qs_ret (qe_cal zCclean (hr.mono (by walk_at "a2")) rfl (qa_cons (qe_comp (own:=["_law_place"]) (outs:=["_law_state_here"]) (ixs:=[0]) rfl (qi_range1 rfl T.b_range (qa_cons (qe_cal zCtake (hr.mono (by walk_at "a2")) rfl (qa_cons (qv 0) (qa_cons (qe_op op_Plus (qv 1) qe_int) qa_nil))) qa_nil)) rfl ⟨rfl,rfl,rfl,⟨rfl,trivial⟩,rfl,⟨⟨rfl,rfl,rfl,_,rfl⟩,trivial⟩⟩ (fun _ _ _ _=>⟨(qg_name (i:=0) (show (["_law_place", "_law_state_here"]:List Str).Nodup by decide +kernel) rfl (by walk_at "a1")),qf_nil,(qe_cal zCsmall (hr.mono (by walk_at "a2")) rfl (qa_cons (qv 1) qa_nil))⟩)) qa_nil)))),?_⟩
  walk_at "vc"
  simp only [zPtake]
  walk_at "vc"
  refine ⟨hst,by walk_at "o",by walk_at "o",fun r H1 r0 r1 B1 S1=>⟨by walk_at "o",by walk_at "o",fun a H2 ha S2 h2=>?_⟩⟩
  have nst:st ≠ a:=(S1.ne ha).symm
  refine comp_items (its:=iots 0 r.toNat) (fun i xs H'=>But st (vw K H1) (vw K H') /\ StOk (vw K H') st /\ ∃ qs,qs.length = i /\ Reps (vw K H') (qs.map fr) xs /\ ∀ q ∈ qs,Fq q /\ Bt 10 q.1 /\ Bt 10 q.2 /\ Sx 36 q) (fun i xs H' _ _ _=>items_range) h2 ⟨S2.but st,S1.same S2,[],rfl,.mk_nil,by simp⟩ (fun i x xs H' hi hx h' p=>?_) (fun xs H' h' p=>?_)
  ·obtain ⟨B',S',qs,hl,rq,hq⟩:=p
   walk_at "vc"
   simp only [zPsmall]
   walk_at "vc"
   refine ⟨S',fun v H3 q B3 S3 r3 f3 b1 b2 x3=>.mk (B3 _ _ nst.symm h') ?_ fun H5 B5 h5=>?_⟩
   ·rw [rq.length,List.length_map,hl]
    rw [iots_len] at hi
    have:(r.toNat:Nat) <= 20:=by walk_at "o"
    exact Nat.lt_of_lt_of_le (Nat.lt_of_lt_of_le hi this) (by decide)
   ·have h3:=B3 _ _ nst.symm h'
    obtain ⟨xx,bb,e,_⟩:=id S'
    refine ⟨?_,S3.but h3 nst B5,qs ++ [q],by simp [hl],?_,?_⟩
    ·intro b o hb e
     have hba:=ne_of_none e ha
     exact B5 _ _ hba (B3 _ _ hb (B' _ _ hb e))
    ·rw [List.map_append]
     exact (Reps.flat_but h3 B5 _ _ (flats_fr qs) (Reps.flat_but e B3 _ _ (flats_fr qs) rq)).snoc (Rep.flat_but h3 B5 _ _ (fr_flat q) r3)
    ·intro q' hq'
     rcases List.mem_append.mp hq' with z | z
     ·exact hq q' z
     ·cases List.mem_singleton.mp z
      exact ⟨f3,b1,b2,x3⟩
  ·obtain ⟨B',S',qs,hl,rq,hq⟩:=p
   refine ⟨a,qs,rfl,⟨xs,h',rq⟩,fun b H3 n hn hz _ hb S3 l3=>h b H3 _ (B1.trans (B'.same_trans S3)) (S'.same S3) l3 (fun q z=>hq q (List.mem_of_mem_take z)) ?_ hz ?_⟩
   ·rw [List.length_take,hl,iots_len]
    walk_at "o"
   ·cases e:vw K H b with
    | none=>rfl
    | some o =>
     by_cases hbs:b = st
     ·subst hbs
      obtain ⟨_,_,z,_⟩:=S'
      rw [z] at hb
      cases hb
     ·rw [B' _ _ hbs (B1 _ _ hbs e)] at hb
      cases hb
def zPmultiplied (K:PySem.W.Frag):Sp:=fun vs H Q _=>∃ (a b:Addr) (fs gs:List (Int × Int)) (A B:Nat),vs = [.ref a,.ref b] /\ LsAt (vw K H) a fs /\ LsAt (vw K H) b gs /\ fs.length <= 40 /\ gs.length <= 40 /\ A + B <= 400000 /\ (∀ q ∈ fs,Fq q) /\ (∀ q ∈ gs,Fq q) /\ Pb A (cf fs) /\ Pb B (cf gs) /\
 ∀ d H' (rs:List (Int × Int)),Same (vw K H) (vw K H') -> LsAt (vw K H') d rs -> vw K H d = none -> PolyOk rs -> (∀ k,cf rs k = pr (cf fs) (cf gs) fs.length k) -> rs.length <= fs.length + gs.length -> Q (.ref d) H'
theorem zOmultiplied (F:Fun K "_law_multiplied" "_law_multiplied" zTmultiplied f fd) (T:Txt K mg) (zCclean:Cal P w K mg base "_law_clean" ["_law_numbers"] 1 (zPclean K)) (zCplus:Cal P w K mg base "_law_plus" ["_law_one", "_law_other"] 3 (zPplus K)) (zCtimes:Cal P w K mg base "_law_times" ["_law_one", "_law_other"] 3 (zPtimes K)):FnOk P w K mg base CX0 4 f fd ["_law_f", "_law_g"] (zPmultiplied K):=by
 have scN:=zUmultiplied.nd
 refine F.okQ zUmultiplied (fun vs H Q E h=>?_) (fun cdv A outer s H vs Q E hr h=>?_)
 ·obtain ⟨a,_,_,_,_,_,rfl,_⟩:=h
  rfl
 ·obtain ⟨a,b,fs,gs,A',B,rfl,ha,hb,lf,lg',hAB,hf,hg,⟨D1,d1,d2,d3⟩,⟨E1,e1',e2',e3'⟩,h⟩:=h
  have bf:=Ob.bq d3 d1 d2 hf
  have bg:=Ob.bq e3' e1' e2' hg
  have hX:=Int.mul_ne_zero d1 e1'
  have bX:=d2.mul e2'
  refine ⟨_,(qss_cons (qs_set (i:=2) scN rfl (by walk_at "a1") (qe_op op_Mul (qe_lstS (qa_cons (qe_tupS (qa_cons qe_int (qa_cons qe_int qa_nil))) qa_nil)) (qe_op op_Plus (qe_callB call_lenH (by rfl) T.b_len bt_len (qa_cons (qv 0) qa_nil)) (qe_callB call_lenH (by rfl) T.b_len bt_len (qa_cons (qv 1) qa_nil)))))
   (qss_cons (qs_for PassesOwn.never rfl (qi_range1 rfl T.b_range (qa_cons (qe_callB call_lenH (by rfl) T.b_len bt_len (qa_cons (qv 0) qa_nil)) qa_nil)) (qg_name (i:=3) scN rfl (by walk_at "a1")) (qss_one (qs_for PassesOwn.never rfl (qi_range1 rfl T.b_range (qa_cons (qe_callB call_lenH (by rfl) T.b_len bt_len (qa_cons (qv 1) qa_nil)) qa_nil)) (qg_name (i:=4) scN rfl (by walk_at "a1")) (qss_one (qs_asg (qe_cal zCplus (hr.mono (by walk_at "a2")) rfl (qa_cons (qe_ix ix_h (qv 2) (qe_op op_Plus (qv 3) (qv 4)) (fun _ _=>rfl)) (qa_cons (qe_cal zCtimes (hr.mono (by walk_at "a2")) rfl (qa_cons (qe_ix ix_h (qv 0) (qv 3) (fun _ _=>rfl)) (qa_cons (qe_ix ix_h (qv 1) (qv 4) (fun _ _=>rfl)) qa_nil))) qa_nil))) (qg_sub (qv 2) (qe_op op_Plus (qv 3) (qv 4)) set_listS))))))
   (qss_one (qs_ret (qe_cal zCclean (hr.mono (by walk_at "a2")) rfl (qa_cons (qv 2) qa_nil)))))),?_⟩
  walk_at "vc"
  obtain ⟨xs,hxs,rxs⟩:=id ha
  obtain ⟨ys,hys,rys⟩:=id hb
  refine ⟨by decide,fun p2 H2 hp2 S2 h2=>⟨by decide,fun p3 H3 hp3 S3 h3=>?_⟩⟩
  have S03:=S2.trans S3
  refine ⟨_,(ha.same S03).len,_,(hb.same S03).len,?_⟩
  rw [show (fs.length:Int) + (gs.length:Int) = ((fs.length + gs.length:Nat):Int) by walk_at "o",rMul_rep]
  refine ⟨_,h3,by walk_at "o",by walk_at "o",?_,fun e H5 he S5 h5=>?_⟩
  ·have:1000 <= sizeLine:=by decide
   simp
   walk_at "o"
  rw [show ((fs.length + gs.length:Nat):Int).toNat = fs.length + gs.length by walk_at "o",rep_flat] at h5
  have S05:=S03.trans S5
  have r2:Rep (vw K H5) (fr (0,1)) (.ref p2):=rep_pair ((S3.trans S5) _ _ h2)
  have ne:vw K H e = none:=S03.none he
  refine ⟨_,(ha.same S05).len,by walk_at "o",by walk_at "o",?_⟩
  obtain ⟨n,hn⟩ : ∃ n,n = fs.length + gs.length:=⟨_,rfl⟩
  rw [<- hn] at h5
  obtain ⟨Pv,hPv⟩ : ∃ Pv:Nat -> St -> Hp -> Prop,∀ i σ H',Pv i σ H' ↔ ∃ o3 o4,σ = [some (.ref a),some (.ref b),some (.ref e),o3,o4] /\ Same (vw K H) (vw K H') /\ ∃ qs,LsAt (vw K H') e qs /\ qs.length = n /\ (∀ q ∈ qs,Fq q) /\ (∀ k,k < n -> cf qs k = pr (cf fs) (cf gs) i k):=⟨_,fun _ _ _=>Iff.rfl⟩
  refine for_items (its:=iots 0 fs.length) Pv (fun _ _ _ _ _=>items_range) ((hPv _ _ _).mpr ⟨_,_,rfl,S05,List.replicate n (0,1),⟨_,h5,?_⟩,by simp,fun q hq=>?_,fun k hk=>?_⟩) (fun i x σ H6 hi hx pv=>?_) (fun σ H6 pv=>?_)
  ·rw [map_rep]
   exact Reps.repl r2 n
  ·rw [(List.mem_replicate.mp hq).2]
   exact Fq_01
  ·rw [cf_some (List.getElem?_replicate_of_lt hk),wv_01]
   rfl
  ·obtain ⟨o3,o4,rfl,S6,qs,l6,n6,f6,c6⟩:=(hPv _ _ _).mp pv
   obtain ⟨hi',rfl⟩:=iots_at hx
   rw [Int.zero_add]
   walk_at "vc"
   refine ⟨_,(hb.same S6).len,by walk_at "o",by walk_at "o",?_⟩
   obtain ⟨Pw,hPw⟩ : ∃ Pw:Nat -> St -> Hp -> Prop,∀ j σ H',Pw j σ H' ↔ ∃ o4,σ = [some (.ref a),some (.ref b),some (.ref e),some (.int i),o4] /\ Same (vw K H) (vw K H') /\ ∃ qs,LsAt (vw K H') e qs /\ qs.length = n /\ (∀ q ∈ qs,Fq q) /\ (∀ k,k < n -> cf qs k = qr (cf fs) (cf gs) i j k):=⟨_,fun _ _ _=>Iff.rfl⟩
   refine for_items (its:=iots 0 gs.length) Pw (fun _ _ _ _ _=>items_range) ((hPw _ _ _).mpr ⟨_,rfl,S6,qs,l6,n6,f6,fun k hk=>?_⟩) (fun j x σ H7 hj hx pw=>?_) (fun σ H7 pw=>?_)
   ·rw [qr_0]
    exact c6 k hk
   ·obtain ⟨o4,rfl,S7,ps,l7,n7,f7,c7⟩:=(hPw _ _ _).mp pw
    obtain ⟨hj',rfl⟩:=iots_at hx
    rw [Int.zero_add]
    obtain ⟨zs,hzs,rzs⟩:=id l7
    have hiq:i + j < ps.length:=by walk_at "o"
    obtain ⟨x0,e0,r0⟩:=rzs.at (i:=i + j) (d:=fr ps[i + j]) (by rw [List.getElem?_map,List.getElem?_eq_getElem hiq]; rfl)
    obtain ⟨x1,e1,r1⟩:=rxs.at (i:=i) (d:=fr fs[i]) (by rw [List.getElem?_map,List.getElem?_eq_getElem hi']; rfl)
    obtain ⟨x2,e2,r2'⟩:=rys.at (i:=j) (d:=fr gs[j]) (by rw [List.getElem?_map,List.getElem?_eq_getElem hj']; rfl)
    have k1:=f7 ps[i + j] (List.getElem_mem hiq)
    have k3:Bq (A' + B + 100) ps[i + j]:=by
     obtain ⟨m,em,bm⟩:=ob_qr d1 e1' d3 e3' i j (i + j)
     have em':qr (cf fs) (cf gs) i j (i + j) = _:=em
     refine bq_of k1 (n:=m) (by rw [<- em',<- c7 (i + j) (by walk_at "o"),cf_some (List.getElem?_eq_getElem hiq)]) hX (bm.mono (by walk_at "o")) (bX.mono (by walk_at "o"))
    have g1:=hg gs[j] (List.getElem_mem hj')
    have g2:=bg gs[j] (List.getElem_mem hj')
    have u1:=hf fs[i] (List.getElem_mem hi')
    have u2:=bf fs[i] (List.getElem_mem hi')
    walk_at "vc"
    rw [show (i:Int) + (j:Int) = ((i + j:Nat):Int) by walk_at "o"]
    refine ⟨zs,hzs,x0,atI_nat e0,xs,S7 _ _ hxs,x1,atI_nat e1,ys,S7 _ _ hys,x2,atI_nat e2,?_⟩
    simp only [zPtimes]
    walk_at "vc"
    refine ⟨_,Rep.same S7 _ _ r1,_,Rep.same S7 _ _ r2',u1.ne,g1.ne,u2.mono (by walk_at "o"),g2.mono (by walk_at "o"),(u2.2.mul g2.2).mono (by walk_at "o"),fun v3 H8 S8 r3=>?_⟩
    have f3:=mulq_Fq u1 g1
    have b3:=mulq_Bq u1 g1 u2 g2
    simp only [zPplus]
    walk_at "vc"
    refine ⟨_,Rep.same S8 _ _ r0,_,r3,k1.ne,f3.ne,k3.mono (by walk_at "o"),b3.mono (by walk_at "o"),(k3.2.mul b3.2).mono (by walk_at "o"),fun v4 H9 S9 r4=>?_⟩
    have f4:=addq_Fq k1 f3
    have S79:=S8.trans S9
    have hlz:zs.length = ps.length:=by rw [rzs.length,List.length_map]
    refine ⟨zs,S79 _ _ hzs,i + j,by rw [hlz]; exact ixN_nat hiq,fun H10 B10 h10=>(hPw _ _ _).mpr ⟨_,rfl,fun x o e'=>B10 _ _ (ne_of_none e' ne) (S79 _ _ (S7 _ _ e')),ps.set (i + j) (addq ps[i + j] (mulq fs[i] gs[j])),LsAt.chg (S79 _ _ hzs) (rzs.same S79) r4 B10 h10,by rw [List.length_set]; exact n7,fun q hq=>?_,fun k hk=>?_⟩⟩
    ·rcases List.mem_or_eq_of_mem_set hq with z | z
     ·exact f7 q z
     ·rw [z]
      exact f4
    ·rw [cf_setv hiq,qr_at]
     by_cases hk:k = i + j
     ·rw [if_pos hk,if_pos hk,wv_add k1.ne f3.ne,wv_mul u1.ne g1.ne,<- cf_some (List.getElem?_eq_getElem hiq),<- cf_some (List.getElem?_eq_getElem hi'),<- cf_some (List.getElem?_eq_getElem hj'),c7 (i + j) (by walk_at "o")]
     ·rw [if_neg hk,if_neg hk,c7 k (by assumption)]
   ·obtain ⟨o4,rfl,S7,ps,l7,n7,f7,c7⟩:=(hPw _ _ _).mp pw
    rw [iots_len] at c7
    refine (hPv _ _ _).mpr ⟨_,_,rfl,S7,ps,l7,n7,f7,fun k hk=>?_⟩
    rw [c7 k hk,qr_end fun i hi=>cf_none hi]
  ·obtain ⟨o3,o4,rfl,S6,qs,l6,n6,f6,c6⟩:=(hPv _ _ _).mp pv
   rw [iots_len] at c6
   walk_at "vc"
   simp only [zPclean]
   walk_at "vc"
   have hF:∀ q ∈ qs,Fq q:=f6
   refine ⟨qs,l6,fun d H7 n' hn' hz hd hnd S7 l7=>h d H7 (qs.take n') (S6.trans S7) l7 (S6.none hnd) (clean_ok hF hz) (fun k=>?_) (by rw [List.length_take]; walk_at "o")⟩
   rw [cf_take hF hd k]
   by_cases hk:k < n
   ·exact c6 k hk
   ·rw [cf_none (by walk_at "o"),pr_high (n:=gs.length) (fun i hi=>cf_none hi) _ _ (by walk_at "o")]
def zPsame (n:Nat) (K:PySem.W.Frag):Sp:=fun vs H Q _=>∃ x y d,vs = [x,y] /\ Rep (vw K H) d x /\ Rep (vw K H) d y /\ d.sm n = true /\ ∀ H',Same (vw K H) (vw K H') -> Q (.bl true) H'
theorem zOsame {n:Nat} (F:Fun K "_law_same" "_law_same" zTsame f fd) (T:Txt K mg) (zCsame:Cal P w K mg base "_law_same" ["_law_found", "_law_due_here"] (n + 1) (zPsame n K)):FnOk P w K mg base CX0 (n + 2) f fd ["_law_found", "_law_due_here"] (zPsame (n + 1) K):=by
 have scN:=zUsame.nd
 refine F.okQ zUsame (fun vs H Q E h=>?_) (fun cdv A outer s H vs Q E hr h=>?_)
 ·obtain ⟨a,_,_,rfl,_⟩:=h
  rfl
 ·obtain ⟨x,y,d,rfl,hx,hy,hd,h⟩:=h
  refine ⟨_,(qss_cons (qs_if (qt_val (qe_callB call_isinstTL (by rfl) T.b_isinstance bt_isinstance (qa_cons (qv 1) (qa_cons (qe_tupS (qa_cons (qe_bltn (v:=V.ty "tuple") rfl T.b_tuple bt_tuple rfl) (qa_cons (qe_bltn (v:=V.ty "list") rfl T.b_list bt_list rfl) qa_nil))) qa_nil)))) (qss_cons (qs_if (QW.pt (qw_or (qt_cmpR op_ne (qe_callB call_isinst (by rfl) T.b_isinstance bt_isinstance (qa_cons (qv 0) (qa_cons (qe_bltn (v:=V.ty "tuple") rfl T.b_tuple bt_tuple rfl) qa_nil))) (qe_callB call_isinst (by rfl) T.b_isinstance bt_isinstance (qa_cons (qv 1) (qa_cons (qe_bltn (v:=V.ty "tuple") rfl T.b_tuple bt_tuple rfl) qa_nil))) (nomark _)) (qw_or1 (qt_cmpR op_ne (qe_callB call_isinst (by rfl) T.b_isinstance bt_isinstance (qa_cons (qv 0) (qa_cons (qe_bltn (v:=V.ty "list") rfl T.b_list bt_list rfl) qa_nil))) (qe_callB call_isinst (by rfl) T.b_isinstance bt_isinstance (qa_cons (qv 1) (qa_cons (qe_bltn (v:=V.ty "list") rfl T.b_list bt_list rfl) qa_nil))) (nomark _))))) (qss_one (qs_ret qe_bl)) qss_nil)
   (qss_cons (qs_if (qt_cmpR op_ne (qe_callB call_lenH (by rfl) T.b_len bt_len (qa_cons (qv 0) qa_nil)) (qe_callB call_lenH (by rfl) T.b_len bt_len (qa_cons (qv 1) qa_nil)) (nomark _)) (qss_one (qs_ret qe_bl)) qss_nil)
   (qss_one (qs_ret (qe_callB (call_allB rfl) (by rfl) T.b_all bt_all (qa_cons (qe_comp (own:=["_law_one", "_law_other"]) (outs:=[]) (ixs:=[]) rfl (qi_zip rfl T.b_zip (qa_cons (qv 0) (qa_cons (qv 1) qa_nil))) rfl ⟨rfl,rfl,rfl,trivial,rfl,trivial⟩ (fun _ _ _ _=>⟨(show QG _ _ (gTupH K 2 _) from qg_tupH (n:=2) rfl (qgs_cons (qg_name (i:=0) (show (["_law_one", "_law_other"]:List Str).Nodup by decide +kernel) rfl (by walk_at "a1")) (qgs_cons (qg_name (i:=1) (show (["_law_one", "_law_other"]:List Str).Nodup by decide +kernel) rfl (by walk_at "a1")) qgs_nil))),qf_nil,(qe_cal zCsame (hr.mono (by walk_at "a2")) rfl (qa_cons (qv 0) (qa_cons (qv 1) qa_nil)))⟩)) qa_nil)))))) qss_nil)
   (qss_one (qs_ret (qe_and (qe_cmpR op_eq (qv 0) (qv 1) (nomark _)) (qe_one (qe_cmpR op_eq (qe_callB call_isinst (by rfl) T.b_isinstance bt_isinstance (qa_cons (qv 0) (qa_cons (qe_bltn (v:=V.ty "bool") rfl T.b_bool bt_bool rfl) qa_nil))) (qe_callB call_isinst (by rfl) T.b_isinstance bt_isinstance (qa_cons (qv 1) (qa_cons (qe_bltn (v:=V.ty "bool") rfl T.b_bool bt_bool rfl) qa_nil))) (nomark _))))))),?_⟩
  have tx:=Rep.ty hx
  have ty:=Rep.ty hy
  walk_at "vc*"
  refine ⟨by decide,fun p0 H1 hp0 S1 h1=>?_⟩
  have hx1:=Rep.same S1 _ _ hx
  have hy1:=Rep.same S1 _ _ hy
  have tx1:=Rep.ty hx1
  have ty1:=Rep.ty hy1
  refine ⟨d.ty,p0,rfl,h1,ty1,?_⟩
  have seq:∀ (b:Bool) (ds:List D) (p q:Addr) (xs ys:List V),SrcH K b H1 p xs -> SrcH K b H1 q ys -> Reps (vw K H1) ds xs -> Reps (vw K H1) ds ys -> ds.length <= 1000 -> ds.all (D.sm n) = true ->
    iZip K (tCons (tVar 0) (tCons (tVar 1) tNil)) [some (.ref p),some (.ref q)] H1 fun J H1=>∀ (a:Addr) (H2:Hp),vw K H1 a = none -> Same (vw K H1) (vw K H2) -> vw K H2 a = some (HO.lst []) ->
     CompOK K J (gTupH K 2 (gCons (gName 0) (gCons (gName 1) gNil))) tYes (tCal (zPsame n K) (tCons (tVar 0) (tCons (tVar 1) tNil))) a [none,none] H2 fun H1=>∃ bs,vw K H1 a = some (HO.lst (List.map V.bl bs)) /\ Q (V.bl (bs.all id)) H1:=by
   intro b ds p q xs ys sp sq rx ry hl hs
   simp only [iZip]
   walk_at "vc"
   refine ⟨b,⟨xs,sp⟩,b,⟨ys,sq⟩,fun c H2 hc S2 h2=>?_⟩
   have lx:=rx.length
   have ly:=ry.length
   refine comp_rows (ps:=xs.zip ys) (fun i zs H'=>Same (vw K H1) (vw K H') /\ zs = List.replicate i (V.bl true)) (fun i zs H' _ _ pv=>⟨xs,ys,pv.1 _ _ sp,pv.1 _ _ sq,zip_rows.symm⟩) h2 ⟨S2,rfl⟩ (fun i u v zs H3 H4 hi huv h4 pv S4=>?_) (fun zs H3 h3 pv=>?_)
   ·obtain ⟨S3,rfl⟩:=pv
    obtain ⟨d',hd',r1,r2⟩:=sm_zip rx ry huv
    have S14:=S3.trans S4
    walk_at "vc"
    simp only [zPsame]
    walk_at "vc"
    refine ⟨d',Rep.same S14 _ _ r1,Rep.same S14 _ _ r2,List.all_eq_true.mp hs d' hd',fun H5 S5=>.mk2 (S5 _ _ h4) ?_ fun H6 B6 h6=>⟨fun a o e=>B6 _ _ (ne_of_none e hc) (S5 _ _ (S14 _ _ e)),?_⟩⟩
    ·rw [List.length_replicate]
     have:1000 <= sizeLine:=by decide
     simp at hi
     walk_at "o"
    ·rw [<- List.replicate_succ',List.replicate_succ]
   ·obtain ⟨S3,rfl⟩:=pv
    refine ⟨List.replicate (xs.zip ys).length true,?_,?_⟩
    ·rw [List.map_replicate]
     exact h3
    ·have e:(List.replicate (xs.zip ys).length true).all id = true:=by simp
     rw [e]
     exact h _ (S1.trans S3)
  cases d with
  | tup ds =>
   obtain ⟨p,xs,rfl,hp,rx⟩:=hx1.tup_at
   obtain ⟨q,ys,rfl,hq,ry⟩:=hy1.tup_at
   have hsm:(decide (ds.length <= 1000) && ds.all (D.sm n)) = true:=hd
   rw [Bool.and_eq_true] at hsm
   have e:xs.length = ys.length:=by rw [rx.length,ry.length]
   exact iteP (by simp [D.ty,instN]) ⟨_,tx1,_,ty1,iteN (fun z=>z rfl) ⟨_,tx1,_,ty1,iteN (fun z=>z rfl) ⟨p,rfl,xs.length,by simp only [lenH,hp],q,rfl,ys.length,by simp only [lenH,hq],iteN (fun z=>z (by rw [e])) (seq false ds p q xs ys hp hq rx ry (of_decide_eq_true hsm.1) hsm.2)⟩⟩⟩
  | lst ds =>
   obtain ⟨p,xs,rfl,hp,rx⟩:=hx1.lst_at
   obtain ⟨q,ys,rfl,hq,ry⟩:=hy1.lst_at
   have hsm:(decide (ds.length <= 1000) && ds.all (D.sm n)) = true:=hd
   rw [Bool.and_eq_true] at hsm
   have e:xs.length = ys.length:=by rw [rx.length,ry.length]
   exact iteP (by simp [D.ty,instN]) ⟨_,tx1,_,ty1,iteN (fun z=>z rfl) ⟨_,tx1,_,ty1,iteN (fun z=>z rfl) ⟨p,rfl,xs.length,by simp only [lenH,hp],q,rfl,ys.length,by simp only [lenH,hq],iteN (fun z=>z (by rw [e])) (seq true ds p q xs ys hp hq rx ry (of_decide_eq_true hsm.1) hsm.2)⟩⟩⟩
  | dict=>cases hd
  | _ =>
   unfold Rep at hx1 hy1
   subst hx1 hy1
   refine iteN (by simp [D.ty,instN]) ⟨rfl,iteP rfl ⟨_,tx1,_,ty1,?_⟩⟩
   have:=h H1 S1
   simpa using this
theorem all__law_same (F:Fun K "_law_same" "_law_same" zTsame f fd) (T:Txt K mg) (hm:mg "_law_same" = some (.ref f)) (hk:PySem.W.keepIn K (.ref f) = true) (hb:Binds K fd ["_law_found", "_law_due_here"] []) :
  ∀ n,Cal P w K mg base "_law_same" ["_law_found", "_law_due_here"] (n + 1) (zPsame n K)
 | 0=>⟨f,fd,F.okQ zUsame (fun vs H Q E h=>by obtain ⟨_,_,d,_,_,_,z,_⟩:=h; cases d <;> cases z) (fun cdv A outer s H vs Q E hr h=>by obtain ⟨_,_,d,_,_,_,z,_⟩:=h; cases d <;> cases z),hm,hk,hb⟩
 | n + 1=>⟨f,fd,zOsame F T (all__law_same F T hm hk hb n),hm,hk,hb⟩
theorem zOrefused (F:Fun K "_law_refused" "_law_refused" zTrefused f fd) (T:Txt K mg) {A:Around} {outer:List Env} {s:Shared} {H:Hp} {p C:Addr} {i kl:Nat} {Q:VK} (hb:Binds K fd ["_law_call"] []) (hr0:Room (kl + 1) A) (e0:Env0 P w K mg base A outer s H) (L_:Lam P w K mg base kl p C s H outer) (Z:XIdx K mg C i) (hi:i < 9)
  (h:∀ q H',Same (vw K H) (vw K H') -> vw K H q = none -> vw K H' q = some (.lst [.int i]) -> Q (.ref q) H'):codeAny (model P w) A (.call (.ref f) ⟨[.ref p],[]⟩) (CR CX0 outer P w H s Q E0) s:=by
 have scN:=zUrefused.nd
 refine F.runQ zUrefused hr0 e0 hb (vs:=[.ref p]) (.cons rfl .nil) rfl fun cdv hr=>?_
 have hrL:=hr
 obtain ⟨z_NoFraction,hg_NoFraction,k0⟩:=Z.kinds 0 _ rfl
 obtain ⟨z_NoPolynomial,hg_NoPolynomial,k1⟩:=Z.kinds 1 _ rfl
 obtain ⟨z_NoSums,hg_NoSums,k2⟩:=Z.kinds 2 _ rfl
 obtain ⟨z_NoFlock,hg_NoFlock,k3⟩:=Z.kinds 3 _ rfl
 obtain ⟨z_NoWalk,hg_NoWalk,k4⟩:=Z.kinds 4 _ rfl
 obtain ⟨z_NoSum,hg_NoSum,k5⟩:=Z.kinds 5 _ rfl
 obtain ⟨z_NoDeed,hg_NoDeed,k6⟩:=Z.kinds 6 _ rfl
 obtain ⟨z_NoText,hg_NoText,k7⟩:=Z.kinds 7 _ rfl
 obtain ⟨z_NoRow,hg_NoRow,k8⟩:=Z.kinds 8 _ rfl
 obtain ⟨cM,hg_MomentError,kM⟩:=Z.mom
 refine ⟨_,(qss_cons (qs_set (i:=1) scN rfl (by walk_at "a1") qe_non)
   (qss_cons (qs_try (i:=2) rfl rfl rfl (px_lam (i:=0) rfl L_ hrL rfl (Or.inl rfl)) scN rfl rfl rfl hg_MomentError (fun _=>(qss_one (qs_set (i:=1) scN rfl (by walk_at "a1") (qv 2)))))
   (qss_cons (qs_set (i:=3) scN rfl (by walk_at "a1") (qe_lstS (qa_cons (qe_callB call_isinstX (by rfl) T.b_isinstance bt_isinstance (qa_cons (qv 1) (qa_cons (qe_glob (v:=V.ref z_NoFraction) rfl hg_NoFraction rfl) qa_nil))) (qa_cons (qe_callB call_isinstX (by rfl) T.b_isinstance bt_isinstance (qa_cons (qv 1) (qa_cons (qe_glob (v:=V.ref z_NoPolynomial) rfl hg_NoPolynomial rfl) qa_nil))) (qa_cons (qe_callB call_isinstX (by rfl) T.b_isinstance bt_isinstance (qa_cons (qv 1) (qa_cons (qe_glob (v:=V.ref z_NoSums) rfl hg_NoSums rfl) qa_nil))) qa_nil)))))
   (qss_cons (qs_set (i:=3) scN rfl (by walk_at "a1") (qe_op op_Plus (qv 3) (qe_lstS (qa_cons (qe_callB call_isinstX (by rfl) T.b_isinstance bt_isinstance (qa_cons (qv 1) (qa_cons (qe_glob (v:=V.ref z_NoFlock) rfl hg_NoFlock rfl) qa_nil))) (qa_cons (qe_callB call_isinstX (by rfl) T.b_isinstance bt_isinstance (qa_cons (qv 1) (qa_cons (qe_glob (v:=V.ref z_NoWalk) rfl hg_NoWalk rfl) qa_nil))) (qa_cons (qe_callB call_isinstX (by rfl) T.b_isinstance bt_isinstance (qa_cons (qv 1) (qa_cons (qe_glob (v:=V.ref z_NoSum) rfl hg_NoSum rfl) qa_nil))) qa_nil))))))
   (qss_cons (qs_set (i:=3) scN rfl (by walk_at "a1") (qe_op op_Plus (qv 3) (qe_lstS (qa_cons (qe_callB call_isinstX (by rfl) T.b_isinstance bt_isinstance (qa_cons (qv 1) (qa_cons (qe_glob (v:=V.ref z_NoDeed) rfl hg_NoDeed rfl) qa_nil))) (qa_cons (qe_callB call_isinstX (by rfl) T.b_isinstance bt_isinstance (qa_cons (qv 1) (qa_cons (qe_glob (v:=V.ref z_NoText) rfl hg_NoText rfl) qa_nil))) (qa_cons (qe_callB call_isinstX (by rfl) T.b_isinstance bt_isinstance (qa_cons (qv 1) (qa_cons (qe_glob (v:=V.ref z_NoRow) rfl hg_NoRow rfl) qa_nil))) qa_nil))))))
   (qss_cons (qs_if (qt_not (qt_val (qe_callB call_isinstX (by rfl) T.b_isinstance bt_isinstance (qa_cons (qv 1) (qa_cons (qe_bltn (v:=V.ty "ValueError") rfl T.b_ValueError bt_ValueError rfl) qa_nil))))) (qss_one (qs_ret qe_non)) qss_nil)
   (qss_one (qs_ret (qe_comp (own:=["_law_k"]) (outs:=["_law_kinds"]) (ixs:=[3]) rfl (qi_range1 rfl T.b_range (qa_cons qe_int qa_nil)) rfl ⟨rfl,rfl,rfl,⟨rfl,trivial⟩,rfl,⟨⟨rfl,rfl,rfl,_,rfl⟩,trivial⟩⟩ (fun _ _ _ _=>⟨(qg_name (i:=0) (show (["_law_k", "_law_kinds"]:List Str).Nodup by decide +kernel) rfl (by walk_at "a1")),(qf_one (show QT _ _ (tTru K _) from qt_truth (qe_ix (show IxR _ (rIxH K) from ix_h) (qv 1) (qv 0) (fun _ _=>rfl)) (fun _=>rfl))),(qv 0)⟩)))))))))),?_⟩
 walk_at "vc"
 simp only [tTry]
 refine ⟨rfl,rfl,fun H1 S1=>⟨C,rfl,kM,fun a H2 hna S2 hx=>?_⟩⟩
 walk_at "vc"
 refine ⟨C,hx,Z.cls,_,rfl,_,k0,C,hx,Z.cls,_,rfl,_,k1,C,hx,Z.cls,_,rfl,_,k2,by decide,fun p3 H3 _ S3 h3=>?_⟩
 have hx3:=S3 _ _ hx
 walk_at "vc"
 refine ⟨C,hx3,Z.cls,_,rfl,_,k3,C,hx3,Z.cls,_,rfl,_,k4,C,hx3,Z.cls,_,rfl,_,k5,by decide,fun p4 H4 _ S4 h4=>?_⟩
 walk_at "vc"
 refine ⟨_,S4 _ _ h3,_,h4,(show 6 <= sizeLine by decide),fun p5 H5 _ S5 h5=>?_⟩
 have hx5:=S5 _ _ (S4 _ _ hx3)
 walk_at "vc"
 refine ⟨C,hx5,Z.cls,_,rfl,_,k6,C,hx5,Z.cls,_,rfl,_,k7,C,hx5,Z.cls,_,rfl,_,k8,by decide,fun p6 H6 _ S6 h6=>?_⟩
 walk_at "vc"
 refine ⟨_,S6 _ _ h5,_,h6,(show 9 <= sizeLine by decide),fun p7 H7 _ S7 h7=>?_⟩
 have hx7:=S7 _ _ (S6 _ _ hx5)
 walk_at "vc"
 refine ⟨C,hx7,Z.cls,_,rfl,_,Z.ve,?_⟩
 walk_at "vc"
 have e9:vw K H7 p7 = some (.lst (lz 9 fun j=>V.bl (decide (j = i)))):=h7
 have S07:Same (vw K H) (vw K H7):=S1.trans (S2.trans (S3.trans (S4.trans (S5.trans (S6.trans S7)))))
 refine ⟨by decide,by decide,fun c H8 hc S8 h8=>?_⟩
 refine comp_items (its:=iots 0 9) (fun j zs H'=>Same (vw K H7) (vw K H') /\ zs = if i < j then [V.int i] else []) (fun _ _ _ _ _ _=>items_range) h8 ⟨S8,by rw [if_neg (by walk_at "o")]⟩ (fun j x zs H9 hj hx' h9 pv=>?_) (fun zs H9 h9 pv=>?_)
 ·obtain ⟨S9,rfl⟩:=pv
  obtain ⟨hj',rfl⟩:=iots_at hx'
  rw [Int.zero_add]
  simp only [tTru]
  walk_at "vc"
  refine ⟨_,S9 _ _ e9,_,atI_nat (lz_get hj'),_,rfl,?_⟩
  refine ite2 (fun e=>?_) (fun e=>?_)
  ·have eji:j = i:=of_decide_eq_true e
   subst eji
   rw [if_neg (by walk_at "o")] at h9
   refine .mk h9 (by decide) fun H10 B10 h10=>⟨fun b o e'=>B10 _ _ (ne_of_none e' hc) (S9 _ _ e'),?_⟩
   rw [if_pos (by walk_at "o")]
   rfl
  ·have eji:j ≠ i:=fun z=>e (decide_eq_true z)
   refine ⟨⟨_,rfl⟩,_,h9,S9,?_⟩
   by_cases hij:i < j
   ·rw [if_pos hij,if_pos (by walk_at "o")]
   ·rw [if_neg hij,if_neg (by walk_at "o")]
 ·obtain ⟨S9,rfl⟩:=pv
  rw [iots_len,if_pos (by walk_at "o")] at h9
  exact h c H9 (S07.trans S9) (S07.free hc) h9
def kS:Nat -> Str
 | 0=>"line"
 | 1=>"root"
 | _=>"none"
abbrev Itm:=Nat × (Int × Int) × Nat × Nat
def itD (c:Itm):D:=.tup [.str (kS c.1),fr c.2.1,.int c.2.2.1]
def itOk (c:Itm):Prop:=c.1 <= 2 /\ Fq c.2.1 /\ Bq c.2.2.2 c.2.1
def dgI (c:Itm):Nat:=(if c.1 = 0 then 1 else 2) * c.2.2.1
def csI (c:Itm):Nat:=(c.2.2.2 + 8) * c.2.2.1
theorem it_flats:∀ (cs:List Itm),D.flats (cs.map itD) = true
 | []=>by simp [D.flats]
 | c :: cs=>by
  have:=it_flats cs
  simp [D.flats,itD,D.flat,fr,this]
theorem it_no (cs:List Itm):∀ i b,cs.map itD ≠ [.int i,.bl b]:=fun i b e=>by
 cases cs with
 | nil=>cases e
 | cons c cs =>
  rw [List.map_cons] at e
  cases (List.cons.inj e).1
theorem sx_bq {q:Int × Int} (f:Fq q) (h:Sx 36 q):Bq 6 q:=by
 obtain ⟨n,e,hn⟩:=h
 refine bq_of (D:=6) (n:=n) f e (by decide) ?_ (by decide)
 unfold Bt
 walk_at "o"
def zPfactors (K:PySem.W.Frag):Sp:=fun vs H Q _=>∃ (st:Addr),vs = [.ref st,.int 2] /\ StOk (vw K H) st /\
 ∀ (p t:Addr) (v:V) H' (its:List Itm) (q:Int × Int),But st (vw K H) (vw K H') -> StOk (vw K H') st -> vw K H' p = some (.tup [.ref t,v]) -> FlAt (vw K H') t (its.map itD) -> vw K H t = none -> Rep (vw K H') (fr q) v -> Fq q -> q.1 ≠ 0 -> Bq 6 q -> (∀ c ∈ its,itOk c) -> (its.map dgI).sum <= 8 -> (its.map csI).sum <= 174 -> its.length <= 4 -> Q (.ref p) H'
theorem zOfactors (F:Fun K "_law_factors" "_law_factors" zTfactors f fd) (T:Txt K mg) (zCtake:Cal P w K mg base "_law_take" ["_law_state_here", "_law_many"] 1 (zPtake K)) (zCsmall:Cal P w K mg base "_law_small" ["_law_state_here"] 3 (zPsmall K)) (zCplus:Cal P w K mg base "_law_plus" ["_law_one", "_law_other"] 3 (zPplus K)):FnOk P w K mg base CX0 4 f fd ["_law_state_here", "_law_most"] (zPfactors K):=by
 have scN:=zUfactors.nd
 refine F.okQ zUfactors (fun vs H Q E h=>?_) (fun cdv A outer s H vs Q E hr h=>?_)
 ·obtain ⟨_,rfl,_⟩:=h
  rfl
 ·obtain ⟨st,rfl,hst,h⟩:=h
  refine ⟨_,(qss_cons (qs_set (i:=2) scN rfl (by walk_at "a1") (qe_lstS qa_nil))
   (qss_cons (qs_set (i:=3) scN rfl (by walk_at "a1") (qe_cmpR op_eq (qe_cal zCtake (hr.mono (by walk_at "a2")) rfl (qa_cons (qv 0) (qa_cons qe_int qa_nil))) qe_int (nomark _)))
   (qss_cons (qs_for PassesOwn.never rfl (qi_range1 rfl T.b_range (qa_cons (qe_cal zCtake (hr.mono (by walk_at "a2")) rfl (qa_cons (qv 0) (qa_cons (qe_op op_Plus (qv 1) qe_int) qa_nil))) qa_nil)) (qg_name (i:=4) scN rfl (by walk_at "a1")) (qss_cons (qs_set (i:=5) scN rfl (by walk_at "a1") (qe_ix ix_h (qe_lstS (qa_cons (qe_tupS (qa_cons qe_int (qa_cons qe_int qa_nil))) (qa_cons (qe_tupS (qa_cons qe_int (qa_cons qe_int qa_nil))) (qa_cons (qe_tupS (qa_cons qe_int (qa_cons qe_int qa_nil))) (qa_cons (qe_tupS (qa_cons qe_int (qa_cons qe_int qa_nil))) (qa_cons (qe_tupS (qa_cons qe_int (qa_cons qe_int qa_nil))) (qa_cons (qe_tupS (qa_cons qe_int (qa_cons qe_int qa_nil))) (qa_cons (qe_tupS (qa_cons qe_int (qa_cons qe_int qa_nil))) qa_nil)))))))) (qe_cal zCtake (hr.mono (by walk_at "a2")) rfl (qa_cons (qv 0) (qa_cons qe_int qa_nil))) (fun _ _=>rfl)))
   (qss_cons (qs_set (i:=6) scN rfl (by walk_at "a1") (qe_ix ix_h (qe_lstS (qa_cons qe_str (qa_cons qe_str (qa_cons qe_str (qa_cons qe_str qa_nil))))) (qe_cal zCtake (hr.mono (by walk_at "a2")) rfl (qa_cons (qv 0) (qa_cons qe_int qa_nil))) (fun _ _=>rfl)))
   (qss_cons (qs_set (i:=7) scN rfl (by walk_at "a1") (qe_op op_Plus qe_int (qe_ix ix_h (qe_lstS (qa_cons qe_int (qa_cons qe_int (qa_cons qe_int (qa_cons qe_int (qa_cons qe_int (qa_cons qe_int qa_nil))))))) (qe_cal zCtake (hr.mono (by walk_at "a2")) rfl (qa_cons (qv 0) (qa_cons qe_int qa_nil))) (fun _ _=>rfl))))
   (qss_cons (qs_if (qt_cmpR op_eq (qv 6) qe_str (nomark _)) (qss_one (qs_set (i:=5) scN rfl (by walk_at "a1") (qe_cal zCsmall (hr.mono (by walk_at "a2")) rfl (qa_cons (qv 0) qa_nil)))) qss_nil)
   (qss_cons (qs_expr (qe_bm PySem.F.plainAttrs_list PySem.F.slot_list_append PySem.F.type_list_append mt_appendS (qv 2) (qa_cons (qe_tupS (qa_cons (qv 6) (qa_cons (qv 5) (qa_cons (qe_ifExp (qt_cmpR op_eq (qv 6) qe_str (nomark _)) (qv 7) (qe_callB (call_min2 rfl) (by rfl) T.b_min bt_min (qa_cons (qv 7) (qa_cons qe_int qa_nil)))) qa_nil)))) qa_nil)))
   (qss_one (qs_if (QW.pt (qw_and (qt_truth (qv 3) (fun _=>rfl)) (qw_and1 (qt_cmpR op_eq (qv 6) qe_str (nomark _))))) (qss_cons (qs_expr (qe_bm PySem.F.plainAttrs_list PySem.F.slot_list_append PySem.F.type_list_append mt_appendS (qv 2) (qa_cons (qe_tupS (qa_cons (qv 6) (qa_cons (qe_cal zCplus (hr.mono (by walk_at "a2")) rfl (qa_cons (qv 5) (qa_cons (qe_tupS (qa_cons qe_int (qa_cons (qe_op op_pow qe_int qe_int) qa_nil))) qa_nil))) (qa_cons qe_int qa_nil)))) qa_nil)))
   (qss_one (qs_set (i:=3) scN rfl (by walk_at "a1") qe_bl))) qss_nil))))))))
   (qss_cons (qs_set (i:=8) scN rfl (by walk_at "a1") (qe_cal zCsmall (hr.mono (by walk_at "a2")) rfl (qa_cons (qv 0) qa_nil)))
   (qss_one (qs_ret (qe_tupS (qa_cons (qv 2) (qa_cons (qe_ifExp (qt_cmpR op_ne (qe_ix ix_u (qv 8) qe_int (fun _ _=>rfl)) qe_int (nomark _)) (qv 8) (qe_tupS (qa_cons (qe_un un_neg qe_int) (qa_cons qe_int qa_nil)))) qa_nil))))))))),?_⟩
  simp only [cxOf_K,cxOf_noxK]
  refine tSeq.gen fun N1 hN1=>?_
  walk_at "vc"
  refine ⟨by decide,fun t H1 ht S1 h1=>hN1 _ _ ?_⟩
  have nst:st ≠ t:=(hst.ne ht).symm
  refine tSeq.gen fun N2 hN2=>?_
  walk_at "vc"
  simp only [zPtake]
  refine ⟨st,4,rfl,hst.same S1,by decide,by decide,fun r2 H2 _ _ B2 S2=>⟨trivial,hN2 _ _ ?_⟩⟩
  refine tSeq.gen fun N3 hN3=>?_
  walk_at "vc"
  refine ⟨st,3,rfl,S2,by decide,by decide,fun n H3 n0 n1 B3 S3=>⟨n,rfl,by walk_at "o",by walk_at "o",?_⟩⟩
  have h3:=B3 _ _ nst.symm (B2 _ _ nst.symm h1)
  have B03:But st (vw K H) (vw K H3):=((S1.but st).trans B2).trans B3
  obtain ⟨Pv,hPv⟩ : ∃ Pv:Nat -> St -> Hp -> Prop,∀ i σ H',Pv i σ H' ↔ ∃ (b:Bool) (o4 o5 o6 o7 o8:Option V) (its:List Itm),σ = [some (.ref st),some (.int 2),some (.ref t),some (.bl b),o4,o5,o6,o7,o8] /\ But st (vw K H) (vw K H') /\ StOk (vw K H') st /\ FlAt (vw K H') t (its.map itD) /\ (∀ c ∈ its,itOk c) /\ (its.map dgI).sum <= 4 * i /\ (its.map csI).sum <= 87 * i /\ its.length <= 2 * i:=⟨_,fun _ _ _=>Iff.rfl⟩
  refine for_items (its:=iots 0 n.toNat) Pv (fun _ _ _ _ _=>items_range) ((hPv _ _ _).mpr ⟨_,_,_,_,_,_,[],rfl,B03,S3,⟨[],h3,.mk_nil⟩,by simp,by simp,by simp,by simp⟩) (fun i x σ H4 hi hx pv=>?_) (fun σ H4 pv=>?_)
  ·obtain ⟨b,o4,o5,o6,o7,o8,its,rfl,B4,S4,l4,ok4,dg4,cs4,ln4⟩:=(hPv _ _ _).mp pv
   rw [iots_len] at hi
   refine tSeq.gen fun M1 hM1=>?_
   walk_at "vc"
   refine ⟨by decide,fun p1 G1 hp1 T1 g1=>⟨by decide,fun p2 G2 hp2 T2 g2=>⟨by decide,fun p3 G3 hp3 T3 g3=>⟨by decide,fun p4 G4 hp4 T4 g4=>⟨by decide,fun p5 G5 hp5 T5 g5=>⟨by decide,fun p6 G6 hp6 T6 g6=>⟨by decide,fun p7 G7 hp7 T7 g7=>⟨by decide,fun l8 G8 hp8 T8 g8=>?_⟩⟩⟩⟩⟩⟩⟩⟩
   have T68:=T7.trans T8
   have T58:=T6.trans T68
   have T48:=T5.trans T58
   have T38:=T4.trans T48
   have T28:=T3.trans T38
   have T18:=T2.trans T28
   have T08:=T1.trans T18
   have st8:=S4.same T08
   refine ⟨st,7,rfl,st8,by decide,by decide,fun r5 H5 q0 q1 B5 S5=>⟨l8,rfl,r5,rfl,_,B5 _ _ (S4.same (T1.trans (T2.trans (T3.trans (T4.trans (T5.trans (T6.trans T7))))) ) |>.ne hp8) g8,?_⟩⟩
   obtain ⟨_,_,z8,_⟩:=id st8
   have rr:∀ {p:Addr} {q:Int × Int},vw K G8 p = some (.tup [.int q.1,.int q.2]) -> Rep (vw K H5) (fr q) (.ref p):=fun e=>Rep.flat_but z8 B5 _ _ (fr_flat _) (rep_pair e)
   obtain ⟨v5,nb5,e5,r5',f5,b5⟩ : ∃ (v5:V) (nb5:Int × Int),atI [V.ref p1,V.ref p2,V.ref p3,V.ref p4,V.ref p5,V.ref p6,V.ref p7] r5 = some v5 /\ Rep (vw K H5) (fr nb5) v5 /\ Fq nb5 /\ Bq 6 nb5:=by
    have:r5 = 0 \/ r5 = 1 \/ r5 = 2 \/ r5 = 3 \/ r5 = 4 \/ r5 = 5 \/ r5 = 6:=by walk_at "o"
    rcases this with rfl | rfl | rfl | rfl | rfl | rfl | rfl
    ·exact ⟨_,(2,1),rfl,rr (T18 _ _ g1),⟨by decide,by decide⟩,⟨by decide,by decide⟩⟩
    ·exact ⟨_,(3,1),rfl,rr (T28 _ _ g2),⟨by decide,by decide⟩,⟨by decide,by decide⟩⟩
    ·exact ⟨_,(5,1),rfl,rr (T38 _ _ g3),⟨by decide,by decide⟩,⟨by decide,by decide⟩⟩
    ·exact ⟨_,(6,1),rfl,rr (T48 _ _ g4),⟨by decide,by decide⟩,⟨by decide,by decide⟩⟩
    ·exact ⟨_,(1,2),rfl,rr (T58 _ _ g5),⟨by decide,by decide⟩,⟨by decide,by decide⟩⟩
    ·exact ⟨_,(7,4),rfl,rr (T68 _ _ g6),⟨by decide,by decide⟩,⟨by decide,by decide⟩⟩
    ·exact ⟨_,(3,4),rfl,rr (T8 _ _ g7),⟨by decide,by decide⟩,⟨by decide,by decide⟩⟩
   refine ⟨v5,e5,hM1 _ _ ?_⟩
   have B45:But st (vw K H4) (vw K H5):=(T08.but st).trans B5
   have l5:=(l4.same T08).stBut (it_flats _) (it_no _) st8 B5
   refine tSeq.gen fun M2 hM2=>?_
   walk_at "vc"
   refine ⟨by decide,fun l9 G9 hp9 T9 g9=>⟨st,4,rfl,S5.same T9,by decide,by decide,fun r6 H6 u0 u1 B6 S6=>⟨l9,rfl,r6,rfl,_,B6 _ _ (S5.ne hp9) g9,?_⟩⟩⟩
   obtain ⟨kd,hkd,e6⟩ : ∃ kd:Nat,kd <= 2 /\ atI [V.str (Str.ofString "line"),V.str (Str.ofString "line"),V.str (Str.ofString "root"),V.str (Str.ofString "none")] r6 = some (.str (kS kd)):=by
    have:r6 = 0 \/ r6 = 1 \/ r6 = 2 \/ r6 = 3:=by walk_at "o"
    rcases this with rfl | rfl | rfl | rfl
    ·exact ⟨0,by decide,rfl⟩
    ·exact ⟨0,by decide,rfl⟩
    ·exact ⟨1,by decide,rfl⟩
    ·exact ⟨2,by decide,rfl⟩
   refine ⟨_,e6,hM2 _ _ ?_⟩
   have B46:But st (vw K H4) (vw K H6):=(B45.same_trans T9).trans B6
   have l6:=(l5.same T9).stBut (it_flats _) (it_no _) (S5.same T9) B6
   have r6':Rep (vw K H6) (fr nb5) v5:=by
    obtain ⟨_,_,z,_⟩:=id (S5.same T9)
    exact Rep.flat_but z B6 _ _ (fr_flat _) (Rep.same T9 _ _ r5')
   refine tSeq.gen fun M3 hM3=>?_
   walk_at "vc"
   refine ⟨by decide,fun l10 G10 hp10 T10 g10=>⟨st,6,rfl,S6.same T10,by decide,by decide,fun r7 H7 w0 w1 B7 S7=>⟨l10,rfl,r7,rfl,_,B7 _ _ (S6.ne hp10) g10,?_⟩⟩⟩
   obtain ⟨mn,m1,m3,e7⟩ : ∃ mn:Nat,1 <= mn /\ mn <= 3 /\ atI [V.int 0,V.int 0,V.int 0,V.int 1,V.int 1,V.int 2] r7 = some (.int ((mn:Int) - 1)):=by
    have:r7 = 0 \/ r7 = 1 \/ r7 = 2 \/ r7 = 3 \/ r7 = 4 \/ r7 = 5:=by walk_at "o"
    rcases this with rfl | rfl | rfl | rfl | rfl | rfl
    ·exact ⟨1,by decide,by decide,rfl⟩
    ·exact ⟨1,by decide,by decide,rfl⟩
    ·exact ⟨1,by decide,by decide,rfl⟩
    ·exact ⟨2,by decide,by decide,rfl⟩
    ·exact ⟨2,by decide,by decide,rfl⟩
    ·exact ⟨3,by decide,by decide,rfl⟩
   refine ⟨_,e7,?_⟩
   rw [rPlus_int,show (1:Int) + ((mn:Int) - 1) = (mn:Int) by walk_at "o"]
   refine hM3 _ _ ?_
   have B47:But st (vw K H4) (vw K H7):=(B46.same_trans T10).trans B7
   have l7:=(l6.same T10).stBut (it_flats _) (it_no _) (S6.same T10) B7
   have r7':Rep (vw K H7) (fr nb5) v5:=by
    obtain ⟨_,_,z,_⟩:=id (S6.same T10)
    exact Rep.flat_but z B7 _ _ (fr_flat _) (Rep.same T10 _ _ r6')
   refine tSeq.gen fun M4 hM4=>?_
   have kline:kS kd = Str.ofString "line" ↔ kd = 0:=by
    have:kd = 0 \/ kd = 1 \/ kd = 2:=by walk_at "o"
    rcases this with rfl | rfl | rfl
    ·exact ⟨fun _=>rfl,fun _=>rfl⟩
    ·exact ⟨fun z=>absurd z (by decide),fun z=>by cases z⟩
    ·exact ⟨fun z=>absurd z (by decide),fun z=>by cases z⟩
   have key:∀ (v:V) (nb:Int × Int) (H8:Hp),But st (vw K H4) (vw K H8) -> StOk (vw K H8) st -> FlAt (vw K H8) t (its.map itD) -> Rep (vw K H8) (fr nb) v -> Fq nb -> Bq 6 nb -> M4 [some (.ref st),some (.int 2),some (.ref t),some (.bl b),some x,some v,some (.str (kS kd)),some (.int mn),o8] H8:=by
    intro v nb H8 B48 S8 l8 r8 f8 b8
    refine hM4 _ _ ?_
    refine tSeq.gen fun M5 hM5=>?_
    have app:∀ mm:Nat,mm <= 3 -> (kd ≠ 0 -> mm <= 2) -> (3 <= sizeLine /\ Nw K H8 (.tup [.str (kS kd),v,.int mm]) fun x1 H1=>∃ xs,vw K H1 t = some (.lst xs) /\ xs.length < sizeLine /\ Chg K H1 t (.lst (xs ++ [x1])) fun H1=>M5 [some (.ref st),some (.int 2),some (.ref t),some (.bl b),some x,some v,some (.str (kS kd)),some (.int mn),o8] H1):=by
     intro mm mm3 mm2
     refine ⟨by decide,fun p9 H9 hp9 S9 h9=>?_⟩
     obtain ⟨xs,hxs,rxs⟩:=id (l8.same S9)
     have lxs:xs.length = its.length:=by rw [rxs.length,List.length_map]
     refine ⟨xs,hxs,?_,fun Ha Ba ha=>hM5 _ _ ?_⟩
     ·have:1000 <= sizeLine:=by decide
      walk_at "o"
     have np:p9 ≠ t:=fun e=>by rw [e,hxs] at h9; cases h9
     have Sa:StOk (vw K Ha) st:=(S8.same S9).but hxs nst Ba
     have ra:Rep (vw K Ha) (fr nb) v:=Rep.flat_but hxs Ba _ _ (fr_flat _) (Rep.same S9 _ _ r8)
     have la:FlAt (vw K Ha) t ((its ++ [(kd,nb,mm,6)]).map itD):=by
      refine ⟨_,ha,?_⟩
      rw [List.map_append]
      exact (Reps.flat_but hxs Ba _ _ (it_flats its) rxs).snoc (.mk_tup (Ba _ _ np h9) (.mk_cons (.mk_str _) (.mk_cons ra (.mk_cons (.mk_int _) .mk_nil))))
     have B0a:But st (vw K H) (vw K Ha):=fun c o hc e=>Ba _ _ (ne_of_none e ht) (S9 _ _ (B48 _ _ hc (B4 _ _ hc e)))
     have ok':∀ c ∈ its ++ [(kd,nb,mm,6)],itOk c:=fun c hc=>by
      rcases List.mem_append.mp hc with z | z
      ·exact ok4 c z
      ·cases List.mem_singleton.mp z
       exact ⟨hkd,f8,b8⟩
     have d0:dgI (kd,nb,mm,6) <= if kd = 0 then 3 else 4:=by
      unfold dgI
      show (if kd = 0 then 1 else 2) * mm <= _
      by_cases z:kd = 0
      ·rw [if_pos z,if_pos z]
       walk_at "o"
      ·rw [if_neg z,if_neg z]
       have:=mm2 z
       walk_at "o"
     have c0:csI (kd,nb,mm,6) <= 42:=by
      show (6 + 8) * mm <= 42
      walk_at "o"
     walk_at "vc"
     have sm:∀ (g:Itm -> Nat) (xs:List Itm) (c:Itm),((xs ++ [c]).map g).sum = (xs.map g).sum + g c:=fun g xs c=>by simp
     have fin:∀ b':Bool,Pv (i + 1) [some (.ref st),some (.int 2),some (.ref t),some (.bl b'),some x,some v,some (.str (kS kd)),some (.int mn),o8] Ha:=fun b'=>by
      refine (hPv _ _ _).mpr ⟨b',_,_,_,_,_,its ++ [(kd,nb,mm,6)],rfl,B0a,Sa,la,ok',?_,?_,by simp; walk_at "o"⟩
      ·rw [sm]
       have:(if kd = 0 then 3 else 4) <= 4:=by split <;> walk_at "o"
       walk_at "o"
      ·rw [sm]
       walk_at "o"
     refine ite2 (fun zb=>ite2 (fun zk=>?_) (fun _=>fin b)) (fun _=>fin b)
     have k0:kd = 0:=kline.mp zk
     rw [if_pos k0] at d0
     refine ⟨la.ty,⟨by decide,by decide⟩,by decide,fun pb Hb hpb Sb hb=>?_⟩
     have fN:Fq (1,10 ^ Int.toNat 9):=⟨by decide,by decide⟩
     have bN:Bq 30 (1,10 ^ Int.toNat 9):=⟨by decide,by decide⟩
     simp only [zPplus]
     refine ⟨v,.ref pb,nb,(1,10 ^ Int.toNat 9),rfl,Rep.same Sb _ _ ra,rep_pair hb,f8.ne,fN.ne,b8.mono (by decide),bN.mono (by decide),(b8.2.mul bN.2).mono (by decide),fun v2 Hc Sc rc=>⟨by decide,fun pd Hd hpd Sd hd=>?_⟩⟩
     have S1d:=Sb.trans (Sc.trans Sd)
     obtain ⟨ys,hys,rys⟩:=id (la.same S1d)
     have lys:ys.length = its.length + 1:=by rw [rys.length,List.length_map,List.length_append]; rfl
     refine ⟨ys,hys,?_,fun He Be he=>?_⟩
     ·have:1000 <= sizeLine:=by decide
      walk_at "o"
     have npd:pd ≠ t:=fun e=>by rw [e,hys] at hd; cases hd
     have Se:StOk (vw K He) st:=(Sa.same S1d).but hys nst Be
     have rce:Rep (vw K He) (fr (addq nb (1,10 ^ Int.toNat 9))) v2:=Rep.flat_but hys Be _ _ (fr_flat _) (Rep.same Sd _ _ rc)
     have le:FlAt (vw K He) t ((its ++ [(kd,nb,mm,6)] ++ [(kd,addq nb (1,10 ^ Int.toNat 9),1,37)]).map itD):=by
      refine ⟨_,he,?_⟩
      rw [List.map_append]
      exact (Reps.flat_but hys Be _ _ (it_flats _) rys).snoc (.mk_tup (Be _ _ npd hd) (.mk_cons (.mk_str _) (.mk_cons rce (.mk_cons (.mk_int _) .mk_nil))))
     have B0e:But st (vw K H) (vw K He):=fun c o hc e=>Be _ _ (ne_of_none e ht) (S1d _ _ (B0a _ _ hc e))
     refine (hPv _ _ _).mpr ⟨false,_,_,_,_,_,_,rfl,B0e,Se,le,fun c hc=>?_,?_,?_,by simp; walk_at "o"⟩
     ·rcases List.mem_append.mp hc with z | z
      ·exact ok' c z
      ·cases List.mem_singleton.mp z
       exact ⟨hkd,addq_Fq f8 fN,(addq_Bq f8 fN b8 bN).mono (Nat.le_refl 37)⟩
     ·rw [sm,sm]
      have:dgI (kd,addq nb (1,10 ^ Int.toNat 9),1,37) = 1:=by
       unfold dgI
       rw [if_pos k0]
       rfl
      walk_at "o"
     ·rw [sm,sm]
      have:csI (kd,addq nb (1,10 ^ Int.toNat 9),1,37) = 45:=rfl
      walk_at "o"
    walk_at "vc"
    refine ⟨l8.ty,ite2 (fun z=>app mn m3 (fun k0=>absurd (kline.mp z) k0)) (fun z=>?_)⟩
    by_cases h2:(2:Int) < (mn:Int)
    ·rw [if_pos h2]
     exact app 2 (by decide) (fun _=>by decide)
    ·rw [if_neg h2]
     exact app mn m3 (fun _=>by walk_at "o")
   walk_at "vc"
   refine ite2 (fun z=>?_) (fun z=>key v5 nb5 H7 B47 S7 l7 r7' f5 b5)
   simp only [zPsmall]
   exact ⟨st,rfl,S7,fun v H8 q B8 S8 r8 f8 _ _ x8=>key v q H8 (B47.trans B8) S8 (l7.stBut (it_flats _) (it_no _) S7 B8) r8 f8 (sx_bq f8 x8)⟩
  ·obtain ⟨b,o4,o5,o6,o7,o8,its,rfl,B4,S4,l4,ok4,dg4,cs4,ln4⟩:=(hPv _ _ _).mp pv
   rw [iots_len] at dg4 cs4 ln4
   refine hN3 _ _ ?_
   walk_at "vc"
   simp only [zPsmall]
   refine ⟨st,rfl,S4,fun v H5 q B5 S5 r5 f5 c1 c2 x5=>?_⟩
   obtain ⟨a5,rfl,h5⟩:=r5.fr_at
   have l5:=l4.stBut (it_flats _) (it_no _) S4 B5
   have B05:=B4.trans B5
   refine ⟨a5,rfl,_,h5,_,atI_0,rfl,?_⟩
   refine ite2 (fun z=>⟨by decide,fun p H6 hp S6 h6=>h p t (.ref a5) H6 its q (B05.same_trans S6) (S5.same S6) h6 (l5.same S6) ht (Rep.same S6 _ _ r5) f5 (fun e=>z (by rw [e])) (sx_bq f5 x5) ok4 (by walk_at "o") (by walk_at "o") (by walk_at "o")⟩) (fun z=>⟨by decide,fun p6 H6 hp6 S6 h6=>⟨by decide,fun p H7 hp S7 h7=>h p t (.ref p6) H7 its (-3,2) (B05.same_trans (S6.trans S7)) (S5.same (S6.trans S7)) h7 (l5.same (S6.trans S7)) ht (rep_pair (S7 _ _ h6)) ⟨by decide,by decide⟩ (by decide) ⟨by decide,by decide⟩ ok4 (by walk_at "o") (by walk_at "o") (by walk_at "o")⟩⟩)
theorem q0_of {D:Int} (h:D ≠ 0):(0:Rat) = ((0:Int):Rat) / (D:Rat):=by
 have c0:((0:Int):Rat) = 0:=rfl
 have:=cast_ne h
 rw [c0,Rat.div_def]
 grind
theorem q1_of {D:Int} (h:D ≠ 0):wv (1,1) = (D:Rat) / (D:Rat):=by
 show ((1:Int):Rat) / ((1:Int):Rat) = _
 have c1:((1:Int):Rat) = 1:=rfl
 have:=cast_ne h
 rw [c1,Rat.div_def,Rat.div_def]
 grind
theorem one_top:wv (1,1) ≠ 0:=by
 show ((1:Int):Rat) / ((1:Int):Rat) ≠ 0
 have c1:((1:Int):Rat) = 1:=rfl
 rw [c1]
 grind
theorem wv_01:wv (0,1) = 0:=by
 show ((0:Int):Rat) / ((1:Int):Rat) = 0
 have c1:((1:Int):Rat) = 1:=rfl
 have c0:((0:Int):Rat) = 0:=rfl
 rw [c1,c0]
 grind
theorem one2 {y:Int × Int} {b:Nat} (fy:Fq y) (hb:Bq b y):PolyOk [y,(1,1)] /\ Pb b (cf [y,(1,1)]):=by
 refine ⟨⟨fun q hq=>?_,fun q hq=>?_⟩,y.2,fy.ne,hb.2,fun k=>?_⟩
 ·rcases List.mem_cons.mp hq with rfl | z
  ·exact fy
  ·cases List.mem_singleton.mp z
   exact ⟨by decide,by decide⟩
 ·cases hq
  exact Int.one_ne_zero
 ·match k with
  | 0=>exact ⟨y.1,rfl,hb.1⟩
  | 1=>exact ⟨y.2,q1_of fy.ne,hb.2⟩
  | k + 2=>exact ⟨0,by rw [cf_none (by simp)]; exact q0_of fy.ne,bt_zero⟩
theorem one3 {y:Int × Int} {b:Nat} (fy:Fq y) (hb:Bq b y):PolyOk [y,(0,1),(1,1)] /\ Pb b (cf [y,(0,1),(1,1)]):=by
 refine ⟨⟨fun q hq=>?_,fun q hq=>?_⟩,y.2,fy.ne,hb.2,fun k=>?_⟩
 ·rcases List.mem_cons.mp hq with rfl | z
  ·exact fy
  ·rcases List.mem_cons.mp z with rfl | z
   ·exact Fq_01
   ·cases List.mem_singleton.mp z
    exact ⟨by decide,by decide⟩
 ·cases hq
  exact Int.one_ne_zero
 ·match k with
  | 0=>exact ⟨y.1,rfl,hb.1⟩
  | 1=>exact ⟨0,wv_01.trans (q0_of fy.ne),bt_zero⟩
  | 2=>exact ⟨y.2,q1_of fy.ne,hb.2⟩
  | k + 3=>exact ⟨0,by rw [cf_none (by simp)]; exact q0_of fy.ne,bt_zero⟩
def zPof_factors (K:PySem.W.Frag):Sp:=fun vs H Q _=>∃ (p t:Addr) (v:V) (its:List Itm) (q:Int × Int),vs = [.ref p] /\ vw K H p = some (.tup [.ref t,v]) /\ FlAt (vw K H) t (its.map itD) /\ Rep (vw K H) (fr q) v /\ Fq q /\ q.1 ≠ 0 /\ Bq 6 q /\ (∀ c ∈ its,itOk c) /\ (its.map dgI).sum <= 8 /\ (its.map csI).sum <= 174 /\ its.length <= 4 /\
 ∀ d H' (fs:List (Int × Int)),Same (vw K H) (vw K H') -> vw K H d = none -> LsAt (vw K H') d fs -> fs ≠ [] -> fs.length <= 9 -> PolyOk fs -> Pb 185 (cf fs) -> Q (.ref d) H'
theorem zOof_factors (F:Fun K "_law_of_factors" "_law_of_factors" zTof_factors f fd) (T:Txt K mg) (zCmultiplied:Cal P w K mg base "_law_multiplied" ["_law_f", "_law_g"] 4 (zPmultiplied K)):FnOk P w K mg base CX0 5 f fd ["_law_factors_here"] (zPof_factors K):=by
 have scN:=zUof_factors.nd
 refine F.okQ zUof_factors (fun vs H Q E h=>?_) (fun cdv A outer s H vs Q E hr h=>?_)
 ·obtain ⟨_,_,_,_,_,rfl,_⟩:=h
  rfl
 ·obtain ⟨p,t,v,its,q,rfl,hp,ht,rv,fq,q0,bq,ok,dg,cs,ln,h⟩:=h
  refine ⟨_,(qss_cons (qs_set (i:=1) scN rfl (by walk_at "a1") (qe_lstS (qa_cons (qe_ix ix_u (qv 0) qe_int (fun _ _=>rfl)) qa_nil)))
   (qss_cons (qs_for PassesOwn.never rfl (qi_list (qe_ix ix_u (qv 0) qe_int (fun _ _=>rfl))) (qg_tupH (n:=3) rfl (qgs_cons (qg_name (i:=2) scN rfl (by walk_at "a1")) (qgs_cons (qg_name (i:=3) scN rfl (by walk_at "a1")) (qgs_cons (qg_name (i:=4) scN rfl (by walk_at "a1")) qgs_nil)))) (qss_cons (qs_set (i:=5) scN rfl (by walk_at "a1") (qe_tupS (qa_cons (qe_op op_sub qe_int (qe_ix ix_u (qv 3) qe_int (fun _ _=>rfl))) (qa_cons (qe_ix ix_u (qv 3) qe_int (fun _ _=>rfl)) qa_nil))))
   (qss_cons (qs_set (i:=6) scN rfl (by walk_at "a1") (qe_dget hr.u64 (qe_disp (qps_cons qe_str (qe_lstS (qa_cons (qv 5) (qa_cons (qe_tupS (qa_cons qe_int (qa_cons qe_int qa_nil))) qa_nil))) (qps_cons qe_str (qe_lstS (qa_cons (qv 5) (qa_cons (qe_tupS (qa_cons qe_int (qa_cons qe_int qa_nil))) (qa_cons (qe_tupS (qa_cons qe_int (qa_cons qe_int qa_nil))) qa_nil)))) (qps_cons qe_str (qe_lstS (qa_cons (qv 3) (qa_cons (qe_tupS (qa_cons qe_int (qa_cons qe_int qa_nil))) (qa_cons (qe_tupS (qa_cons qe_int (qa_cons qe_int qa_nil))) qa_nil)))) qps_nil))) rfl rfl (by decide) (by decide)) (qv 2) (fun _ _=>rfl)))
   (qss_one (qs_for PassesOwn.never rfl (qi_range1 rfl T.b_range (qa_cons (qv 4) qa_nil)) (qg_name (i:=7) scN rfl (by walk_at "a1")) (qss_one (qs_set (i:=1) scN rfl (by walk_at "a1") (qe_cal zCmultiplied (hr.mono (by walk_at "a2")) rfl (qa_cons (qv 1) (qa_cons (qv 6) qa_nil))))))))))
   (qss_one (qs_ret (qv 1))))),?_⟩
  simp only [cxOf_K,cxOf_noxK]
  refine tSeq.gen fun N1 hN1=>?_
  walk_at "vc"
  refine ⟨_,hp,_,atI_1,by decide,fun d0 H1 hd0 S1 h1=>hN1 _ _ ?_⟩
  refine tSeq.gen fun N2 hN2=>?_
  walk_at "vc"
  obtain ⟨ts,hts,rts⟩:=id ht
  refine ⟨_,S1 _ _ hp,_,atI_0,t,rfl,⟨_,.of (vw_lst (S1 _ _ hts))⟩,?_⟩
  obtain ⟨Pv,hPv⟩ : ∃ Pv:Nat -> St -> Hp -> Prop,∀ i σ H',Pv i σ H' ↔ ∃ (d:Addr) (o2 o3 o4 o5 o6 o7:Option V) (fs:List (Int × Int)),σ = [some (.ref p),some (.ref d),o2,o3,o4,o5,o6,o7] /\ Same (vw K H) (vw K H') /\ vw K H d = none /\ LsAt (vw K H') d fs /\ fs ≠ [] /\ PolyOk fs /\ fs.length <= 1 + ((its.take i).map dgI).sum /\ Pb (6 + ((its.take i).map csI).sum) (cf fs):=⟨_,fun _ _ _=>Iff.rfl⟩
  refine for_items (its:=ts) Pv (fun i σ H' _ z=>?_) ((hPv _ _ _).mpr ⟨d0,_,_,_,_,_,_,[q],rfl,S1,hd0,⟨_,h1,.mk_cons (Rep.same S1 _ _ rv) .mk_nil⟩,by simp,⟨by simpa using fq,by simpa using q0⟩,by simp,?_⟩) (fun i x σ H2 hi hx pv=>?_) (fun σ H2 pv=>?_)
  ·obtain ⟨_,_,_,_,_,_,_,_,_,S',_⟩:=(hPv _ _ _).mp z
   exact items_list (S' _ _ hts)
  ·refine ⟨q.2,fq.ne,bq.2.mono (by walk_at "o"),fun k=>?_⟩
   cases k with
   | zero=>exact ⟨q.1,rfl,bq.1.mono (by walk_at "o")⟩
   | succ k =>
    refine ⟨0,?_,bt_zero⟩
    rw [cf_none (by simp)]
    have c0:((0:Int):Rat) = 0:=rfl
    have:=cast_ne fq.ne
    rw [c0,Rat.div_def]
    grind
  ·obtain ⟨d,o2,o3,o4,o5,o6,o7,fs,rfl,S2,nd,ld,f0,pf,lf,bf⟩:=(hPv _ _ _).mp pv
   have hi':i < its.length:=by rw [<- List.length_map (f:=itD),<- rts.length]; exact hi
   obtain ⟨c,hc⟩ : ∃ c,its[i]? = some c:=⟨_,List.getElem?_eq_getElem hi'⟩
   obtain ⟨x',ex,rx⟩:=rts.at (i:=i) (d:=itD c) (by rw [List.getElem?_map,hc]; rfl)
   rw [hx] at ex
   cases ex
   obtain ⟨kd,nb,mn,b⟩:=c
   obtain ⟨hk,fn,bn⟩:=ok _ (List.mem_of_getElem? hc)
   obtain ⟨xa,us,rfl,hxa,rus⟩:=Rep.tup_at (Rep.same S2 _ _ rx)
   obtain ⟨u1,us1,rfl,ru1,rus1⟩ : ∃ x r,us = x :: r /\ Rep (vw K H2) (.str (kS kd)) x /\ Reps (vw K H2) [fr nb,.int mn] r:=by
    unfold Reps at rus
    exact rus
   obtain ⟨u2,us2,rfl,ru2,rus2⟩ : ∃ x r,us1 = x :: r /\ Rep (vw K H2) (fr nb) x /\ Reps (vw K H2) [.int mn] r:=by
    unfold Reps at rus1
    exact rus1
   obtain ⟨u3,us3,rfl,ru3,rus3⟩ : ∃ x r,us2 = x :: r /\ Rep (vw K H2) (.int mn) x /\ Reps (vw K H2) [] r:=by
    unfold Reps at rus2
    exact rus2
   have:us3 = []:=by
    unfold Reps at rus3
    exact rus3
   subst this
   obtain ⟨na,rfl,hna⟩:=ru2.fr_at
   have:u1 = .str (kS kd):=by
    unfold Rep at ru1
    exact ru1
   subst this
   have:u3 = .int mn:=ru3.int_at
   subst this
   walk_at "vc"
   refine ⟨_,hxa,rfl,_,_,rfl,_,_,rfl,_,_,rfl,rfl,na,rfl,_,hna,_,atI_0,_,rfl,na,rfl,_,hna,_,atI_1,by decide,fun la H3 hla S3 h3=>?_⟩
   simp only [tDGetS,tDispS,tPairs]
   walk_at "vc"
   intro pd G1 hpd T1 g1
   refine ⟨by decide,fun a1 G2 k2 T2 g2=>⟨by decide,fun l1 G3 k3 T3 g3=>⟨by decide,fun a2 G4 k4 T4 g4=>⟨by decide,fun a3 G5 k5 T5 g5=>⟨by decide,fun l2 G6 k6 T6 g6=>⟨by decide,fun a4 G7 k7 T7 g7=>⟨by decide,fun a5 G8 k8 T8 g8=>⟨by decide,fun l3 G9 k9 T9 g9=>?_⟩⟩⟩⟩⟩⟩⟩⟩
   have U8:=T9
   have U7:=T8.trans U8
   have U6:=T7.trans U7
   have U5:=T6.trans U6
   have U4:=T5.trans U5
   have U3:=T4.trans U4
   have U2:=T3.trans U3
   have U1:=T2.trans U2
   refine ⟨U1 _ _ g1,[(Sum.inr "line",.ref l1),(Sum.inr "root",.ref l2),(Sum.inr "none",.ref l3)],rfl,(show 3 <= 15 by decide),fun H4 B4 h4=>⟨_,h4,Sum.inr (kS kd),rfl,?_⟩⟩
   have S24:Same (vw K H2) (vw K H4):=fun y o e=>B4 _ _ (ne_of_none (S3 _ _ e) hpd) (U1 _ _ (T1 _ _ (S3 _ _ e)))
   have nd3:∀ {y:Addr} {xs:List V},vw K G9 y = some (.tup xs) -> vw K H4 y = some (.tup xs):=fun e=>B4 _ _ (fun z=>by rw [z,U1 _ _ g1] at e; cases e) e
   have ndl:∀ {y:Addr} {xs:List V},vw K G9 y = some (.lst xs) -> vw K H4 y = some (.lst xs):=fun e=>B4 _ _ (fun z=>by rw [z,U1 _ _ g1] at e; cases e) e
   have fl:Fq (0 - nb.1,nb.2):=⟨fn.1,by have:=fn.2; rw [Int.zero_sub,Int.neg_gcd]; exact this⟩
   have bl:Bq b (0 - nb.1,nb.2):=⟨by have z:Bt b nb.1:=bn.1; unfold Bt at z ⊢; show (0 - nb.1).natAbs < _; walk_at "o",bn.2⟩
   have rla:Rep (vw K H4) (fr (0 - nb.1,nb.2)) (.ref la):=rep_pair (nd3 (U1 _ _ (T1 _ _ h3)))
   have rna:Rep (vw K H4) (fr nb) (.ref na):=rep_pair (nd3 (U1 _ _ (T1 _ _ (S3 _ _ hna))))
   obtain ⟨oa,one,eo,lo',po,bo,ln1,tp⟩ : ∃ (oa:Addr) (one:List (Int × Int)),valV (mergeK [] [((Sum.inr "line" : Key),V.ref l1),(Sum.inr "root",.ref l2),(Sum.inr "none",.ref l3)]) (Sum.inr (kS kd)) = some (.ref oa) /\ LsAt (vw K H4) oa one /\ PolyOk one /\ Pb b (cf one) /\ one.length = 1 + (if kd = 0 then 1 else 2) /\ cf one (one.length - 1) ≠ 0:=by
    have:kd = 0 \/ kd = 1 \/ kd = 2:=by
     have:kd <= 2:=hk
     walk_at "o"
    rcases this with rfl | rfl | rfl
    ·exact ⟨l1,[(0 - nb.1,nb.2),(1,1)],rfl,⟨_,ndl (U3 _ _ g3),.mk_cons rla (.mk_cons (rep_pair (nd3 (U2 _ _ g2))) .mk_nil)⟩,(one2 fl bl).1,(one2 fl bl).2,rfl,one_top⟩
    ·exact ⟨l2,[(0 - nb.1,nb.2),(0,1),(1,1)],rfl,⟨_,ndl (U6 _ _ g6),.mk_cons rla (.mk_cons (rep_pair (nd3 (U4 _ _ g4))) (.mk_cons (rep_pair (nd3 (U5 _ _ g5))) .mk_nil))⟩,(one3 fl bl).1,(one3 fl bl).2,rfl,one_top⟩
    ·exact ⟨l3,[nb,(0,1),(1,1)],rfl,⟨_,ndl g9,.mk_cons rna (.mk_cons (rep_pair (nd3 (U7 _ _ g7))) (.mk_cons (rep_pair (nd3 (U8 _ _ g8))) .mk_nil))⟩,(one3 fn bn).1,(one3 fn bn).2,rfl,one_top⟩
   refine ⟨_,eo,?_⟩
   have smd:∀ g:Itm -> Nat,((its.take (i + 1)).map g).sum = ((its.take i).map g).sum + g (kd,nb,mn,b):=fun g=>by
    rw [List.take_add_one,hc]
    simp
   have tot:∀ g:Itm -> Nat,((its.take (i + 1)).map g).sum <= (its.map g).sum:=fun g=>by
    have:=congrArg (fun l=>(l.map g).sum) (List.take_append_drop (i + 1) its)
    simp only [List.map_append,List.sum_append] at this
    walk_at "o"
   have d1:=smd dgI
   have c1:=smd csI
   have d2:=tot dgI
   have c2:=tot csI
   have ed:dgI (kd,nb,mn,b) = (if kd = 0 then 1 else 2) * mn:=rfl
   have ec:csI (kd,nb,mn,b) = (b + 8) * mn:=rfl
   obtain ⟨un,hun⟩ : ∃ un,un = (if kd = 0 then 1 else 2):=⟨_,rfl⟩
   rw [<- hun] at ed ln1
   have m174:mn <= 174:=by
    have:mn <= (b + 8) * mn:=Nat.le_mul_of_pos_left _ (by walk_at "o")
    walk_at "o"
   refine ⟨by walk_at "o",by walk_at "o",?_⟩
   obtain ⟨Pw,hPw⟩ : ∃ Pw:Nat -> St -> Hp -> Prop,∀ j σ H',Pw j σ H' ↔ ∃ (d:Addr) (o7:Option V) (fs:List (Int × Int)),σ = [some (.ref p),some (.ref d),some (.str (kS kd)),some (.ref na),some (.int mn),some (.ref la),some (.ref oa),o7] /\ Same (vw K H4) (vw K H') /\ vw K H d = none /\ LsAt (vw K H') d fs /\ fs ≠ [] /\ PolyOk fs /\ fs.length <= 1 + ((its.take i).map dgI).sum + un * j /\ Pb (6 + ((its.take i).map csI).sum + (b + 8) * j) (cf fs):=⟨_,fun _ _ _=>Iff.rfl⟩
   have S04:=S2.trans S24
   refine for_items (its:=iots 0 mn) Pw (fun _ _ _ _ _=>items_range) ((hPw _ _ _).mpr ⟨d,_,fs,rfl,fun _ _ z=>z,nd,ld.same S24,f0,pf,by rw [Nat.mul_zero]; walk_at "o",by rw [Nat.mul_zero]; exact bf⟩) (fun j x σ H5 hj hx pw=>?_) (fun σ H5 pw=>?_)
   ·obtain ⟨d',o7',fs',rfl,S5,nd',ld',f0',pf',lf',bf'⟩:=(hPw _ _ _).mp pw
    rw [iots_len] at hj
    have j1:un * (j + 1) <= un * mn:=Nat.mul_le_mul_left _ hj
    have j2:(b + 8) * (j + 1) <= (b + 8) * mn:=Nat.mul_le_mul_left _ hj
    have j3:un * (j + 1) = un * j + un:=Nat.mul_succ _ _
    have j4:(b + 8) * (j + 1) = (b + 8) * j + (b + 8):=Nat.mul_succ _ _
    have un1:1 <= un:=by rw [hun]; split <;> walk_at "o"
    walk_at "vc"
    simp only [zPmultiplied]
    refine ⟨d',oa,fs',one,_,b,rfl,ld',lo'.same S5,by walk_at "o",by walk_at "o",by walk_at "o",pf'.1,po.1,bf',bo,fun e H6 rs S6 le ne' pr' cr _=>(hPw _ _ _).mpr ⟨e,_,rs,rfl,S5.trans S6,(S04.trans S5).none ne',le,?_,pr',?_,?_⟩⟩
    ·intro z
     have l1:0 < fs'.length:=List.length_pos_iff.mpr f0'
     have q1:=pr_at (f:=cf fs') (g:=cf one) (d:=one.length - 1) (i:=fs'.length - 1) (fun j hj=>cf_none (by walk_at "o")) (fun j hj=>cf_none (by walk_at "o")) fs'.length
     rw [<- cr,z,cf_nil,if_pos (by walk_at "o")] at q1
     rcases Rat.mul_eq_zero.mp q1.symm with y | y
     ·exact poly_lead pf' f0' y
     ·exact tp y
    ·have:rs.length <= fs'.length + one.length - 1:=len_le pr' fun k hk=>by
      rw [cr k]
      exact pr_high (n:=one.length) (fun i hi=>cf_none hi) _ _ (by walk_at "o")
     walk_at "o"
    ·exact ((bf'.pr bo fs'.length).congr cr).mono (by walk_at "o")
   ·obtain ⟨d',o7',fs',rfl,S5,nd',ld',f0',pf',lf',bf'⟩:=(hPw _ _ _).mp pw
    rw [iots_len] at lf' bf'
    exact (hPv _ _ _).mpr ⟨d',_,_,_,_,_,_,fs',rfl,S04.trans S5,nd',ld',f0',pf',by rw [d1,ed]; walk_at "o",bf'.mono (by rw [c1,ec]; walk_at "o")⟩
  ·obtain ⟨d,o2,o3,o4,o5,o6,o7,fs,rfl,S2,nd,ld,f0,pf,lf,bf⟩:=(hPv _ _ _).mp pv
   have e1:its.take ts.length = its:=List.take_of_length_le (by rw [rts.length,List.length_map]; walk_at "o")
   rw [e1] at lf bf
   refine hN2 _ _ ?_
   walk_at "vc"
   exact h d H2 fs S2 nd ld f0 (by walk_at "o") pf (bf.mono (by walk_at "o"))
theorem reps_of {G:Hp} {pss:List (List (Int × Int))}:∀ {xs:List V},xs.length = pss.length -> (∀ (k:Nat) ps,pss[k]? = some ps -> ∃ l:Addr,xs[k]? = some (.ref l) /\ LsAt G l ps) -> Reps G (pss.map fun ps=>D.lst (ps.map fr)) xs:=by
 induction pss with
 | nil =>
  intro xs l _
  rw [List.length_eq_zero_iff.mp l]
  exact .mk_nil
 | cons p pss ih =>
  intro xs l h
  cases xs with
  | nil=>cases l
  | cons x xs =>
   obtain ⟨a,e,la⟩:=h 0 p rfl
   cases e
   exact .mk_cons la.rep (ih (by simpa using l) fun k ps e=>h (k + 1) ps e)
theorem CmAt.rep {G:Hp} {t:Addr} {pss:List (List (Int × Int))} {Pr:Addr -> Prop} (h:CmAt G t pss Pr):Rep G (.lst (pss.map fun ps=>D.lst (ps.map fr))) (.ref t):=by
 obtain ⟨xs,a,b,c⟩:=h
 exact .mk_lst a (reps_of b fun k ps e=>by
  obtain ⟨l,e1,e2,_⟩:=c k ps e
  exact ⟨l,e1,e2⟩)
theorem sm_chl {pss:List (List (Int × Int))} (h:pss.length <= 1000) (h2:∀ ps ∈ pss,ps.length <= 1000):(D.lst (pss.map fun ps=>D.lst (ps.map fr))).sm 5 = true:=by
 unfold D.sm
 simp only [List.length_map,Bool.and_eq_true,decide_eq_true_eq,List.all_eq_true]
 refine ⟨h,fun d hd=>?_⟩
 obtain ⟨ps,hp,rfl⟩:=List.mem_map.mp hd
 exact sm_frs (n:=1) (h2 ps hp)
theorem tab_stB {G G':Hp} {Pt st:Addr} {qual:Str} (h:TabOk G Pt qual) (hst:StOk G st) (B:But st G G'):TabOk G' Pt qual:=by
 obtain ⟨x,b,e,z⟩:=hst
 exact h.butL e B
def spLaw (K:PySem.W.Frag):Sp:=fun vs H Q _=>∃ (a:Addr) (ns:List Int),vs = [.ref a] /\ ScrOk K H a (ns.map V.int) /\ ns.length <= 63 /\ TabOk (vw K H) 347 (lamN "law") /\ ∀ H',Q (.bl true) H'
theorem ok_law {c CF:Addr} (F:Fun K "law" "law" s_law f fd) (T:Txt K mg) (M_:MkF K mg base fd c 347) (R_:RefOk P w K mg base 8) (Z_:XIdx K mg CF 1)
  (zCstate:Cal P w K mg base "_law_state" ["_law_script", "_law_k"] 2 (zPstate K)) (zCpolynomial:Cal P w K mg base "_law_polynomial" ["_law_state_here", "_law_most"] 4 (zPpolynomial K)) (zCof_factors:Cal P w K mg base "_law_of_factors" ["_law_factors_here"] 5 (zPof_factors K)) (zCfactors:Cal P w K mg base "_law_factors" ["_law_state_here", "_law_most"] 4 (zPfactors K)) (C_chain:Cal P w K mg base "chain" ["f"] 5 (sp_chain K)) (CX_chain:CalX P w K mg base "chain" ["f"] 5 (spx_chain CF K)) (zCsame:Cal P w K mg base "_law_same" ["_law_found", "_law_due_here"] 6 (zPsame 5 K)) (zCdue:Cal P w K mg base "_law_due" ["_law_f"] 6 (zPdue K)):FnOk P w K mg base CX0 10 f fd ["_law_script"] (spLaw K):=by
 have scN:=sc_law.nd
 refine F.okM sc_law (fun vs H Q E h=>?_) (fun cdv A outer s H vs Q E hcode hr h=>?_)
 ·obtain ⟨a,_,rfl,_⟩:=h
  rfl
 ·obtain ⟨a,ns,rfl,hS,hl,hT1,h⟩:=h
  refine ⟨_,(qss_cut (qs_for PassesOwn.never rfl (qi_range1 rfl T.b_range (qa_cons (qe_callB (call_max2 rfl) (by rfl) T.b_max bt_max (qa_cons qe_int (qa_cons (qe_callB (call_min2 rfl) (by rfl) T.b_min bt_min (qa_cons (qe_callB call_len_seq (by rfl) T.b_len bt_len (qa_cons (qv 0) qa_nil)) (qa_cons qe_int qa_nil))) qa_nil))) qa_nil)) (qg_name (i:=1) scN rfl (by walk_at "a1")) (qss_cons (qs_set (i:=2) scN rfl (by walk_at "a1") (qe_cal zCstate (hr.mono (by walk_at "a2")) rfl (qa_cons (qv 0) (qa_cons (qv 1) qa_nil))))
   (qss_one (qs_for PassesOwn.never rfl (qi_list (qe_lstS (qa_cons (qe_cal zCpolynomial (hr.mono (by walk_at "a2")) rfl (qa_cons (qv 2) (qa_cons qe_int qa_nil))) (qa_cons (qe_cal zCof_factors (hr.mono (by walk_at "a2")) rfl (qa_cons (qe_cal zCfactors (hr.mono (by walk_at "a2")) rfl (qa_cons (qv 2) (qa_cons qe_int qa_nil))) qa_nil)) qa_nil)))) (qg_name (i:=3) scN rfl (by walk_at "a1")) (qss_cons (qs_set (i:=4) scN rfl (by walk_at "a1") (qe_callTy call_listS (by rfl) T.b_list bt_list (qa_cons (qv 3) qa_nil)))
   (qss_one (qs_if (qt_cmpR (op_eqNil hr.ul) (qv 3) (qe_lstS qa_nil) (nomark _)) (qss_one (qs_if (qt_cmpR (op_neD hr.u64) (qe_refd (Nl:=["_law_handed"]) (ixs:=[4]) (kl:=7) R_ (maker_of hcode M_) (hr.mono (by walk_at "a2")) rfl Z_ (by decide) (fun _=>rfl) rfl (free_of (sc:=defScope s_law) rfl (by decide +kernel)) rfl (nocell_of (by decide +kernel)) ⟨rfl,rfl⟩ (fun _ _ _ _=>rfl) rfl (fun j x hx=>by rcases j with _ | j <;> first | (cases hx; exact ⟨rfl,_,rfl,rfl⟩) | cases hx) (fun _ _ _ _ _ _ _ hrl=>qx_cal CX_chain (hrl.mono (by decide)) rfl (fun _=>(qa_cons (qv 0) qa_nil)))) (qe_lstS (qa_cons qe_int qa_nil)) (nomark _)) (qss_one (qs_ret qe_bl)) qss_nil)) (qss_cons (qs_set (i:=5) scN rfl (by walk_at "a1") (qe_cal C_chain (hr.mono (by walk_at "a2")) rfl (qa_cons (qv 4) qa_nil)))
   (qss_cons (qs_if (QW.pt (qw_or (qt_not (qt_val (qe_cal zCsame (hr.mono (by walk_at "a2")) rfl (qa_cons (qv 5) (qa_cons (qe_cal zCdue (hr.mono (by walk_at "a2")) rfl (qa_cons (qv 3) qa_nil)) qa_nil))))) (qw_or1 (qt_cmpR (op_neD hr.u64) (qv 4) (qv 3) (nomark _))))) (qss_one (qs_ret qe_bl)) qss_nil)
   (qss_cons (qs_expr (qe_bm PySem.F.plainAttrs_list PySem.F.slot_list_append PySem.F.type_list_append mt_appendS (qe_ix ix_h (qv 5) qe_int (fun _ _=>rfl)) (qa_cons (qe_tupS (qa_cons qe_int (qa_cons qe_int qa_nil))) qa_nil)))
   (qss_one (qs_if (QW.pt (qw_or (qt_cmpR (op_neD hr.u64) (qv 4) (qv 3) (nomark _)) (qw_or1 (qt_not (qt_val (qe_cal zCsame (hr.mono (by walk_at "a2")) rfl (qa_cons (qe_cal C_chain (hr.mono (by walk_at "a2")) rfl (qa_cons (qv 4) qa_nil)) (qa_cons (qe_cal zCdue (hr.mono (by walk_at "a2")) rfl (qa_cons (qv 3) qa_nil)) qa_nil)))))))) (qss_one (qs_ret qe_bl)) qss_nil))))))))))))
   (qss_one (qs_ret (qe_cmpR (op_eqD hr.u64) (qe_refd (Nl:=[]) (ixs:=[]) (kl:=7) R_ (maker_of hcode M_) (hr.mono (by walk_at "a2")) rfl Z_ (by decide) (fun _=>rfl) rfl (free_of (sc:=defScope s_law) rfl (by decide +kernel)) rfl (nocell_of (by decide +kernel)) ⟨rfl,rfl⟩ (fun _ _ _ _=>rfl) rfl (fun j x hx=>by rcases j with j <;> first | (cases hx; exact ⟨rfl,_,rfl,rfl⟩) | cases hx) (fun _ _ _ _ _ _ _ hrl=>qx_cal CX_chain (hrl.mono (by decide)) rfl (fun _=>(qa_cons (show QE _ _ (tLstS K _) from qe_lstS qa_nil) qa_nil)))) (qe_lstS (qa_cons qe_int qa_nil)) (nomark _))))),?_⟩
  obtain ⟨X1,hX1⟩ : ∃ X1,cxOf CX0 P w K mg base ["_law_script", "_law_k", "_law_state_here", "_law_f", "_law_handed", "_law_found"] "law" (defScope s_law) f cdv A outer s H E = X1:=⟨_,rfl⟩
  have hq:lamQ X1.nox = lamN "law":=by rw [<- hX1]; rfl
  simp only [cxOf_K,cxOf_noxK]
  refine tCut.mk (fun σ H2=>∃ o1 o2 o3 o4 o5,σ = [some (.ref a),o1,o2,o3,o4,o5] /\ TabOk (vw K H2) 347 (lamN "law")) ?_ ?_
  ·walk_at "vc"
   refine ⟨_,.inl hS.sq,?_⟩
   simp only [List.length_map]
   obtain ⟨Pv,hPv⟩ : ∃ Pv:Nat -> St -> Hp -> Prop,∀ k σ H',Pv k σ H' ↔ ∃ o1 o2 o3 o4 o5,σ = [some (.ref a),o1,o2,o3,o4,o5] /\ SmT (vw K H) (vw K H') /\ TabOk (vw K H') 347 (lamN "law"):=⟨_,fun _ _ _=>Iff.rfl⟩
   refine ⟨by repeat' split <;> walk_at "o",by repeat' split <;> walk_at "o",for_items (its:=iots 0 _) Pv (fun _ _ _ _ _=>items_range) ((hPv _ _ _).mpr ⟨_,_,_,_,_,rfl,.rfl,hT1⟩) (fun i x σ H1 hi hx pv=>?_) (fun σ H1 pv=>?_)⟩
   ·obtain ⟨o1,o2,o3,o4,o5,rfl,s1,T1⟩:=(hPv _ _ _).mp pv
    obtain ⟨hi',rfl⟩:=iots_at hx
    refine tSeq.gen fun N1 hN1=>?_
    walk_at "vc"
    simp only [zPstate]
    walk_at "vc"
    refine ⟨⟨i,by simp⟩,⟨ns,hS.smT s1⟩,fun st H2 hst0 s2 st2=>hN1 _ _ ?_⟩
    walk_at "vc"
    simp only [zPpolynomial]
    refine ⟨st,7,rfl,by decide,st2,fun a3 H3 qs B3 st3 l3 q3 ln3 nz3 na3=>?_⟩
    simp only [zPfactors]
    refine ⟨st,rfl,st3,fun p4 t4 v4 H4 its q4 B4 st4 h4 l4 nt4 r4 f4 q40 bq4 ok4 dg4 cs4 ln4=>?_⟩
    simp only [zPof_factors]
    refine ⟨p4,t4,v4,its,q4,rfl,h4,l4,r4,f4,q40,bq4,ok4,dg4,cs4,ln4,fun d5 H5 fs5 S5 nd5 l5 f50 lf5 pf5 bf5=>⟨by decide,fun pl H6 hpl S6 h6=>⟨pl,rfl,⟨_,.of (vw_lst h6)⟩,?_⟩⟩⟩
    have pq3:PolyOk qs:=⟨fun q z=>(q3 q z).1,nz3⟩
    have bq3:Pb 185 (cf qs):=(pb_list (b:=10) fun q z=>⟨(q3 q z).1,(q3 q z).2.1,(q3 q z).2.2.1⟩).mono (by walk_at "o")
    have S46:=S5.trans S6
    have T6:TabOk (vw K H6) 347 (lamN "law"):=(tab_stB (tab_stB (T1.same s2) st2 B3) st3 B4).same S46
    have l36:LsAt (vw K H6) a3 qs:=(l3.stBut st3 B4).same S46
    have l56:LsAt (vw K H6) d5 fs5:=l5.same S6
    have s6:SmT (vw K H) (vw K H6):=s1.trans (SmT.of ((s2.but_trans hst0 (B3.trans B4)).trans S46))
    obtain ⟨Pw,hPw⟩ : ∃ Pw:Nat -> St -> Hp -> Prop,∀ j σ H',Pw j σ H' ↔ ∃ o3 o4 o5,σ = [some (.ref a),some (.int (0 + i)),some (.ref st),o3,o4,o5] /\ SmT (vw K H6) (vw K H') /\ TabOk (vw K H') 347 (lamN "law"):=⟨_,fun _ _ _=>Iff.rfl⟩
    refine for_items (its:=[.ref a3,.ref d5]) Pw (fun j σ H' _ z=>?_) ((hPw _ _ _).mpr ⟨_,_,_,rfl,.rfl,T6⟩) (fun j x σ H7 hj hx pw=>?_) (fun σ H7 pw=>?_)
    ·obtain ⟨_,_,_,_,s',_⟩:=(hPw _ _ _).mp z
     exact items_list (s' _ _ h6 (fun _ z=>by cases z))
    ·obtain ⟨o3,o4,o5,rfl,s7,T7⟩:=(hPw _ _ _).mp pw
     obtain ⟨fa,fs,rfl,l7,pf,lf,bf⟩ : ∃ (fa:Addr) (fs:List (Int × Int)),x = .ref fa /\ LsAt (vw K H7) fa fs /\ PolyOk fs /\ fs.length <= 9 /\ Pb 185 (cf fs):=by
      match j,hx with
      | 0,hx=>cases hx; exact ⟨a3,qs,rfl,l36.smT s7,pq3,by walk_at "o",bq3⟩
      | 1,hx=>cases hx; exact ⟨d5,fs5,rfl,l56.smT s7,pf5,lf5,bf5⟩
     obtain ⟨xs,hxs,rxs⟩:=id l7
     refine tSeq.gen fun M1 hM1=>?_
     walk_at "vc"
     refine ⟨xs,hxs,fun hd H8 hhd S8 h8=>hM1 _ _ ?_⟩
     walk_at "vc"
     refine ⟨Nat.zero_le _,fun n9 H9 hn9 S9 h9=>?_⟩
     have S79:=S8.trans S9
     have T9:=T7.same S79
     have hd9:LsAt (vw K H9) hd fs:=⟨xs,S9 _ _ h8,rxs.same S79⟩
     have s9:SmT (vw K H6) (vw K H9):=s7.trans (SmT.of S79)
     refine ⟨n9,rfl,xs,S79 _ _ hxs,h9,ite2 (fun hc=>?_) (fun hc=>?_)⟩
     ·have x0:xs = []:=by
       cases xs with
       | nil=>rfl
       | cons _ _=>cases hc
      subst x0
      simp only [tRefd,tCalX]
      refine ⟨T9,fun H3 B3 T3=>⟨_,rfl,?_,fun c4 H4 S4 hn4 h4=>?_⟩⟩
      ·have sm:=T9.smT B3 T3
       walk_at "vc"
       simp only [spx_chain]
       exact ⟨hd,rfl,sm _ _ (S9 _ _ h8) (fun _ z=>by cases z),fun H' S'=>⟨trivial,trivial,S'⟩⟩
      ·refine ⟨by decide,fun c5 H5 hn5 S5 h5=>?_⟩
       have d1:Rep (vw K H5) (.lst [.int 1]) (.ref c4):=.mk_lst (S5 _ _ h4) (.mk_cons (.mk_int _) .mk_nil)
       have d2:Rep (vw K H5) (.lst [.int 1]) (.ref c5):=.mk_lst h5 (.mk_cons (.mk_int _) .mk_nil)
       refine ⟨_,d1,_,d2,cmp_int1 1,cmp_int1 1,?_⟩
       rw [peq_self (cmp_int1 1)]
       exact iteN (by decide) ((hPw _ _ _).mpr ⟨_,_,_,rfl,(s9.trans (T9.smT B3 T3)).trans (SmT.of (S4.trans S5)),T3.same (S4.trans S5)⟩)
     ·have f0:fs ≠ []:=fun z=>by
       subst z
       have:xs = []:=List.length_eq_zero_iff.mp (by rw [rxs.length]; rfl)
       rw [this] at hc
       exact hc rfl
      simp only [sp_chain]
      refine ⟨hd,fs,rfl,hd9,f0,lf,pf,bf,fun t Hc gs rs Sc ntc cmc pg cg lg' ch lrs brs=>?_⟩
      have lfa:LsAt (vw K Hc) fa fs:=l7.same (S79.trans Sc)
      have smc:∀ {gs:List (Int × Int)} {rs:List (List (Int × Int))},gs.length = fs.length - 1 -> rs.length <= 9 -> (∀ r ∈ rs,r.length <= 9 /\ Pb 400000 (cf r)) -> (D.lst ((chl fs gs rs).map fun ps=>D.lst (ps.map fr))).sm 5 = true:=by
       intro gs rs lg' lrs brs
       refine sm_chl ?_ fun ps hp=>?_
       ·unfold chl
        split <;> simp <;> walk_at "o"
       ·unfold chl at hp
        split at hp
        ·cases List.mem_singleton.mp hp
         walk_at "o"
        ·rcases List.mem_cons.mp hp with rfl | hp
         ·walk_at "o"
         ·rcases List.mem_cons.mp hp with rfl | hp
          ·walk_at "o"
          ·have:=(brs ps hp).1
           walk_at "o"
      simp only [zPdue]
      refine ⟨fa,fs,gs,rs,rfl,lfa,f0,lf,pf,bf,pg,cg,lg',ch,lrs,brs,fun t2 Hd Sd nt2 cm2=>?_⟩
      simp only [zPsame]
      refine ⟨_,_,_,rfl,(cmc.same Sd).rep,cm2.rep,smc lg' lrs brs,fun He Se=>⟨true,rfl,iteN (by decide) ?_⟩⟩
      have Sce:=Sd.trans Se
      have S9e:=Sc.trans Sce
      refine ⟨_,(hd9.same S9e).rep,_,(lfa.same Sce).rep,cmp_frs fs,cmp_frs fs,?_⟩
      rw [peq_self (cmp_frs fs)]
      refine iteN (by decide) ?_
      obtain ⟨ys,hys,lys,cys⟩:=id (cmc.same Sce)
      obtain ⟨l0,y0,ll0,nl0,_⟩:=cys 0 fs (by unfold chl; split <;> rfl)
      obtain ⟨zs,hzs,rzs⟩:=id ll0
      have nhd:hd ≠ l0:=by
       obtain ⟨us,hus,_⟩:=id hd9
       exact ne_of_none hus nl0
      have nfa:fa ≠ l0:=by
       obtain ⟨us,hus,_⟩:=id (l7.same S79)
       exact ne_of_none hus nl0
      refine ⟨t,rfl,ys,hys,_,atI_nat (j:=0) y0,ty_lst hzs,by decide,fun pf' Hf hpf Sf hf=>⟨l0,rfl,zs,Sf _ _ hzs,?_,fun Hg Bg hg=>?_⟩⟩
      ·rw [rzs.length,List.length_map]
       have:1000 <= sizeLine:=by decide
       walk_at "o"
      have S9f:=S9e.trans Sf
      have hzf:=Sf _ _ hzs
      have hdg:LsAt (vw K Hg) hd fs:=(hd9.same S9f).but hzf nhd Bg
      have lfag:LsAt (vw K Hg) fa fs:=(lfa.same (Sce.trans Sf)).but hzf nfa Bg
      have Tg:=(T9.same S9f).butL hzf Bg
      have s9g:SmT (vw K H9) (vw K Hg):=fun b o e _=>Bg _ _ (ne_of_none e nl0) (S9f _ _ e)
      refine ⟨_,hdg.rep,_,lfag.rep,cmp_frs fs,cmp_frs fs,?_⟩
      rw [peq_self (cmp_frs fs)]
      refine iteN (by decide) ?_
      refine ⟨hd,fs,rfl,hdg,f0,lf,pf,bf,fun t3 Hh gs3 rs3 Sh nt3 cm3 pg3 cg3 lg3 ch3 lrs3 brs3=>⟨fa,fs,gs3,rs3,rfl,lfag.same Sh,f0,lf,pf,bf,pg3,cg3,lg3,ch3,lrs3,brs3,fun t4 Hi Si nt4 cm4=>⟨_,_,_,rfl,(cm3.same Si).rep,cm4.rep,smc lg3 lrs3 brs3,fun Hj Sj=>⟨true,rfl,iteN (by decide) ((hPw _ _ _).mpr ⟨_,_,_,rfl,(s9.trans s9g).trans (SmT.of (Sh.trans (Si.trans Sj))),Tg.same (Sh.trans (Si.trans Sj))⟩)⟩⟩⟩⟩
    ·obtain ⟨o3,o4,o5,rfl,s7,T7⟩:=(hPw _ _ _).mp pw
     exact (hPv _ _ _).mpr ⟨_,_,_,_,_,rfl,s6.trans s7,T7⟩
   ·obtain ⟨o1,o2,o3,o4,o5,rfl,s1,T1⟩:=(hPv _ _ _).mp pv
    exact ⟨⟨o1,o2,o3,o4,o5,rfl⟩,T1⟩
  ·rintro σ H2 ⟨o1,o2,o3,o4,o5,rfl,T2⟩
   walk_at "vc"
   simp only [tRefd,tCalX]
   refine ⟨T2,fun H3 B3 T3=>⟨_,rfl,?_,fun c4 H4 S4 hn4 h4=>?_⟩⟩
   ·walk_at "vc"
    simp only [spx_chain]
    exact ⟨by decide,fun n5 H5 hn5 S5 h5=>⟨n5,rfl,h5,fun H' S'=>⟨trivial,trivial,S5.trans S'⟩⟩⟩
   ·refine ⟨by decide,fun c5 H5 hn5 S5 h5=>?_⟩
    have d1:Rep (vw K H5) (.lst [.int 1]) (.ref c4):=.mk_lst (S5 _ _ h4) (.mk_cons (.mk_int _) .mk_nil)
    have d2:Rep (vw K H5) (.lst [.int 1]) (.ref c5):=.mk_lst h5 (.mk_cons (.mk_int _) .mk_nil)
    refine ⟨_,d1,_,d2,cmp_int1 1,cmp_int1 1,?_⟩
    rw [peq_self (cmp_int1 1)]
    exact h H5
end
theorem all_mk {l:PySem.W.OpenLaw} {w:World} {K:PySem.W.Frag} {h:Heap} {mg:Str -> Option Value} {fa f0 f1 f2 f3 f4 f5 f6 f7 f8 f9 f10 f11 f12 f13 f14 f15 f16 f17 f18 f19 f20 f21 f22 f23 f24 f25 f26 f27 f28 f29 f30 f31 f32 f33:Addr} (X:K.In h) (G:h.Ns mainGlobals mg) (hfa:mg "law" = some (.ref fa)) (hst:l.prog.given.tree = none)
  {od0 an0 od1 an1 od2 an2 od3 an3 od4 an4 od5 an5 od6 an6 od7 an7 od8 an8 od9 an9 od10 an10 od11 an11 od12 an12 od13 an13 od14 an14 od15 an15 od16 an16 od17 an17 od18 an18 od19 an19 od20 an20 od21 an21 od22 an22 od23 an23 od24 an24 od25 an25 od26 an26 od27 an27 od28 an28 od29 an29 od30 an30 od31 an31 od32 an32 od33 an33:Option Addr} {sl0 sl1 sl2 sl3 sl4 sl5 sl6 sl7 sl8 sl9 sl10 sl11 sl12 sl13 sl14 sl15 sl16 sl17 sl18 sl19 sl20 sl21 sl22 sl23 sl24 sl25 sl26 sl27 sl28 sl29 sl30 sl31 sl32 sl33:Array (Option Value)}
  {oc0 kV0 dc0 pm0 cd0 ct0 oc1 kV1 dc1 pm1 cd1 ct1 oc2 kV2 dc2 pm2 cd2 ct2 oc3 kV3 dc3 pm3 cd3 ct3 oc4 kV4 dc4 pm4 cd4 ct4 oc5 kV5 dc5 pm5 cd5 ct5 oc6 kV6 dc6 pm6 cd6 ct6 oc7 kV7 dc7 pm7 cd7 ct7 oc8 kV8 dc8 pm8 cd8 ct8 oc9 kV9 dc9 pm9 cd9 ct9 oc10 kV10 dc10 pm10 cd10 ct10 oc11 kV11 dc11 pm11 cd11 ct11 oc12 kV12 dc12 pm12 cd12 ct12 oc13 kV13 dc13 pm13 cd13 ct13 oc14 kV14 dc14 pm14 cd14 ct14 oc15 kV15 dc15 pm15 cd15 ct15 oc16 kV16 dc16 pm16 cd16 ct16 oc17 kV17 dc17 pm17 cd17 ct17 oc18 kV18 dc18 pm18 cd18 ct18 oc19 kV19 dc19 pm19 cd19 ct19 oc20 kV20 dc20 pm20 cd20 ct20 oc21 kV21 dc21 pm21 cd21 ct21 oc22 kV22 dc22 pm22 cd22 ct22 oc23 kV23 dc23 pm23 cd23 ct23 oc24 kV24 dc24 pm24 cd24 ct24 oc25 kV25 dc25 pm25 cd25 ct25 oc26 kV26 dc26 pm26 cd26 ct26 oc27 kV27 dc27 pm27 cd27 ct27 oc28 kV28 dc28 pm28 cd28 ct28 oc29 kV29 dc29 pm29 cd29 ct29 oc30 kV30 dc30 pm30 cd30 ct30 oc31 kV31 dc31 pm31 cd31 ct31 oc32 kV32 dc32 pm32 cd32 ct32 oc33 kV33 dc33 pm33 cd33 ct33:Value}
  (a0:PySem.W.nsIn K mainGlobals "greatest_divisor" = some (some (.ref f0))) (l0:K.lookup f0 = some ⟨oc0,od0,.func (PySem.W.fnOf "greatest_divisor" "greatest_divisor" (defArgs s_greatest_divisor) (defBody s_greatest_divisor) (defScope s_greatest_divisor) .none kV0 dc0 pm0 an0 cd0 ct0),sl0⟩) (c0:PySem.W.codeIn K cd0 "greatest_divisor" = true) (k0:PySem.W.keepIn K (.ref f0) = true)
  (a1:PySem.W.nsIn K mainGlobals "power" = some (some (.ref f1))) (l1:K.lookup f1 = some ⟨oc1,od1,.func (PySem.W.fnOf "power" "power" (defArgs s_power) (defBody s_power) (defScope s_power) .none kV1 dc1 pm1 an1 cd1 ct1),sl1⟩) (c1:PySem.W.codeIn K cd1 "power" = true) (k1:PySem.W.keepIn K (.ref f1) = true)
  (a2:PySem.W.nsIn K mainGlobals "trimmed" = some (some (.ref f2))) (l2:K.lookup f2 = some ⟨oc2,od2,.func (PySem.W.fnOf "trimmed" "trimmed" (defArgs s_trimmed) (defBody s_trimmed) (defScope s_trimmed) .none kV2 dc2 pm2 an2 cd2 ct2),sl2⟩) (c2:PySem.W.codeIn K cd2 "trimmed" = true) (k2:PySem.W.keepIn K (.ref f2) = true)
  (a3:PySem.W.nsIn K mainGlobals "wholes_slope" = some (some (.ref f3))) (l3:K.lookup f3 = some ⟨oc3,od3,.func (PySem.W.fnOf "wholes_slope" "wholes_slope" (defArgs s_wholes_slope) (defBody s_wholes_slope) (defScope s_wholes_slope) .none kV3 dc3 pm3 an3 cd3 ct3),sl3⟩) (c3:PySem.W.codeIn K cd3 "wholes_slope" = true) (k3:PySem.W.keepIn K (.ref f3) = true)
  (a4:PySem.W.nsIn K mainGlobals "wholes_parted" = some (some (.ref f4))) (l4:K.lookup f4 = some ⟨oc4,od4,.func (PySem.W.fnOf "wholes_parted" "wholes_parted" (defArgs s_wholes_parted) (defBody s_wholes_parted) (defScope s_wholes_parted) .none kV4 dc4 pm4 an4 cd4 ct4),sl4⟩) (c4:PySem.W.codeIn K cd4 "wholes_parted" = true) (k4:PySem.W.keepIn K (.ref f4) = true)
  (a5:PySem.W.nsIn K mainGlobals "wholes_rests" = some (some (.ref f5))) (l5:K.lookup f5 = some ⟨oc5,od5,.func (PySem.W.fnOf "wholes_rests" "wholes_rests" (defArgs s_wholes_rests) (defBody s_wholes_rests) (defScope s_wholes_rests) .none kV5 dc5 pm5 an5 cd5 ct5),sl5⟩) (c5:PySem.W.codeIn K cd5 "wholes_rests" = true) (k5:PySem.W.keepIn K (.ref f5) = true)
  (a6:PySem.W.nsIn K mainGlobals "ratio" = some (some (.ref f6))) (l6:K.lookup f6 = some ⟨oc6,od6,.func (PySem.W.fnOf "ratio" "ratio" (defArgs s_ratio) (defBody s_ratio) (defScope s_ratio) .none kV6 dc6 pm6 an6 cd6 ct6),sl6⟩) (c6:PySem.W.codeIn K cd6 "ratio" = true) (k6:PySem.W.keepIn K (.ref f6) = true)
  (a7:PySem.W.nsIn K mainGlobals "times" = some (some (.ref f7))) (l7:K.lookup f7 = some ⟨oc7,od7,.func (PySem.W.fnOf "times" "times" (defArgs s_times) (defBody s_times) (defScope s_times) .none kV7 dc7 pm7 an7 cd7 ct7),sl7⟩) (c7:PySem.W.codeIn K cd7 "times" = true) (k7:PySem.W.keepIn K (.ref f7) = true)
  (a8:PySem.W.nsIn K mainGlobals "cleared" = some (some (.ref f8))) (l8:K.lookup f8 = some ⟨oc8,od8,.func (PySem.W.fnOf "cleared" "cleared" (defArgs s_cleared) (defBody s_cleared) (defScope s_cleared) .none kV8 dc8 pm8 an8 cd8 ct8),sl8⟩) (c8:PySem.W.codeIn K cd8 "cleared" = true) (k8:PySem.W.keepIn K (.ref f8) = true)
  (a9:PySem.W.nsIn K mainGlobals "divided" = some (some (.ref f9))) (l9:K.lookup f9 = some ⟨oc9,od9,.func (PySem.W.fnOf "divided" "divided" (defArgs s_divided) (defBody s_divided) (defScope s_divided) .none kV9 dc9 pm9 an9 cd9 ct9),sl9⟩) (c9:PySem.W.codeIn K cd9 "divided" = true) (k9:PySem.W.keepIn K (.ref f9) = true)
  (a10:PySem.W.nsIn K mainGlobals "slope" = some (some (.ref f10))) (l10:K.lookup f10 = some ⟨oc10,od10,.func (PySem.W.fnOf "slope" "slope" (defArgs s_slope) (defBody s_slope) (defScope s_slope) .none kV10 dc10 pm10 an10 cd10 ct10),sl10⟩) (c10:PySem.W.codeIn K cd10 "slope" = true) (k10:PySem.W.keepIn K (.ref f10) = true)
  (a11:PySem.W.nsIn K mainGlobals "refuse_nought" = some (some (.ref f11))) (l11:K.lookup f11 = some ⟨oc11,od11,.func (PySem.W.fnOf "refuse_nought" "refuse_nought" (defArgs s_refuse_nought) (defBody s_refuse_nought) (defScope s_refuse_nought) .none kV11 dc11 pm11 an11 cd11 ct11),sl11⟩) (c11:PySem.W.codeIn K cd11 "refuse_nought" = true) (k11:PySem.W.keepIn K (.ref f11) = true)
  (a12:PySem.W.nsIn K mainGlobals "chain" = some (some (.ref f12))) (l12:K.lookup f12 = some ⟨oc12,od12,.func (PySem.W.fnOf "chain" "chain" (defArgs s_chain) (defBody s_chain) (defScope s_chain) .none kV12 dc12 pm12 an12 cd12 ct12),sl12⟩) (c12:PySem.W.codeIn K cd12 "chain" = true) (k12:PySem.W.keepIn K (.ref f12) = true)
  (a13:PySem.W.nsIn K mainGlobals "_law_cell_at" = some (some (.ref f13))) (l13:K.lookup f13 = some ⟨oc13,od13,.func (PySem.W.fnOf "_law_cell_at" "_law_cell_at" (defArgs zTcell_at) (defBody zTcell_at) (defScope zTcell_at) .none kV13 dc13 pm13 an13 cd13 ct13),sl13⟩) (c13:PySem.W.codeIn K cd13 "_law_cell_at" = true) (k13:PySem.W.keepIn K (.ref f13) = true)
  (a14:PySem.W.nsIn K mainGlobals "_law_state" = some (some (.ref f14))) (l14:K.lookup f14 = some ⟨oc14,od14,.func (PySem.W.fnOf "_law_state" "_law_state" (defArgs zTstate) (defBody zTstate) (defScope zTstate) .none kV14 dc14 pm14 an14 cd14 ct14),sl14⟩) (c14:PySem.W.codeIn K cd14 "_law_state" = true) (k14:PySem.W.keepIn K (.ref f14) = true)
  (a15:PySem.W.nsIn K mainGlobals "_law_take" = some (some (.ref f15))) (l15:K.lookup f15 = some ⟨oc15,od15,.func (PySem.W.fnOf "_law_take" "_law_take" (defArgs zTtake) (defBody zTtake) (defScope zTtake) .none kV15 dc15 pm15 an15 cd15 ct15),sl15⟩) (c15:PySem.W.codeIn K cd15 "_law_take" = true) (k15:PySem.W.keepIn K (.ref f15) = true)
  (a16:PySem.W.nsIn K mainGlobals "_law_divisor" = some (some (.ref f16))) (l16:K.lookup f16 = some ⟨oc16,od16,.func (PySem.W.fnOf "_law_divisor" "_law_divisor" (defArgs zTdivisor) (defBody zTdivisor) (defScope zTdivisor) .none kV16 dc16 pm16 an16 cd16 ct16),sl16⟩) (c16:PySem.W.codeIn K cd16 "_law_divisor" = true) (k16:PySem.W.keepIn K (.ref f16) = true)
  (a17:PySem.W.nsIn K mainGlobals "_law_low" = some (some (.ref f17))) (l17:K.lookup f17 = some ⟨oc17,od17,.func (PySem.W.fnOf "_law_low" "_law_low" (defArgs zTlow) (defBody zTlow) (defScope zTlow) .none kV17 dc17 pm17 an17 cd17 ct17),sl17⟩) (c17:PySem.W.codeIn K cd17 "_law_low" = true) (k17:PySem.W.keepIn K (.ref f17) = true)
  (a18:PySem.W.nsIn K mainGlobals "_law_small" = some (some (.ref f18))) (l18:K.lookup f18 = some ⟨oc18,od18,.func (PySem.W.fnOf "_law_small" "_law_small" (defArgs zTsmall) (defBody zTsmall) (defScope zTsmall) .none kV18 dc18 pm18 an18 cd18 ct18),sl18⟩) (c18:PySem.W.codeIn K cd18 "_law_small" = true) (k18:PySem.W.keepIn K (.ref f18) = true)
  (a19:PySem.W.nsIn K mainGlobals "_law_clean" = some (some (.ref f19))) (l19:K.lookup f19 = some ⟨oc19,od19,.func (PySem.W.fnOf "_law_clean" "_law_clean" (defArgs zTclean) (defBody zTclean) (defScope zTclean) .none kV19 dc19 pm19 an19 cd19 ct19),sl19⟩) (c19:PySem.W.codeIn K cd19 "_law_clean" = true) (k19:PySem.W.keepIn K (.ref f19) = true)
  (a20:PySem.W.nsIn K mainGlobals "_law_polynomial" = some (some (.ref f20))) (l20:K.lookup f20 = some ⟨oc20,od20,.func (PySem.W.fnOf "_law_polynomial" "_law_polynomial" (defArgs zTpolynomial) (defBody zTpolynomial) (defScope zTpolynomial) .none kV20 dc20 pm20 an20 cd20 ct20),sl20⟩) (c20:PySem.W.codeIn K cd20 "_law_polynomial" = true) (k20:PySem.W.keepIn K (.ref f20) = true)
  (a21:PySem.W.nsIn K mainGlobals "_law_factors" = some (some (.ref f21))) (l21:K.lookup f21 = some ⟨oc21,od21,.func (PySem.W.fnOf "_law_factors" "_law_factors" (defArgs zTfactors) (defBody zTfactors) (defScope zTfactors) .none kV21 dc21 pm21 an21 cd21 ct21),sl21⟩) (c21:PySem.W.codeIn K cd21 "_law_factors" = true) (k21:PySem.W.keepIn K (.ref f21) = true)
  (a22:PySem.W.nsIn K mainGlobals "_law_plus" = some (some (.ref f22))) (l22:K.lookup f22 = some ⟨oc22,od22,.func (PySem.W.fnOf "_law_plus" "_law_plus" (defArgs zTplus) (defBody zTplus) (defScope zTplus) .none kV22 dc22 pm22 an22 cd22 ct22),sl22⟩) (c22:PySem.W.codeIn K cd22 "_law_plus" = true) (k22:PySem.W.keepIn K (.ref f22) = true)
  (a23:PySem.W.nsIn K mainGlobals "_law_times" = some (some (.ref f23))) (l23:K.lookup f23 = some ⟨oc23,od23,.func (PySem.W.fnOf "_law_times" "_law_times" (defArgs zTtimes) (defBody zTtimes) (defScope zTtimes) .none kV23 dc23 pm23 an23 cd23 ct23),sl23⟩) (c23:PySem.W.codeIn K cd23 "_law_times" = true) (k23:PySem.W.keepIn K (.ref f23) = true)
  (a24:PySem.W.nsIn K mainGlobals "_law_multiplied" = some (some (.ref f24))) (l24:K.lookup f24 = some ⟨oc24,od24,.func (PySem.W.fnOf "_law_multiplied" "_law_multiplied" (defArgs zTmultiplied) (defBody zTmultiplied) (defScope zTmultiplied) .none kV24 dc24 pm24 an24 cd24 ct24),sl24⟩) (c24:PySem.W.codeIn K cd24 "_law_multiplied" = true) (k24:PySem.W.keepIn K (.ref f24) = true)
  (a25:PySem.W.nsIn K mainGlobals "_law_of_factors" = some (some (.ref f25))) (l25:K.lookup f25 = some ⟨oc25,od25,.func (PySem.W.fnOf "_law_of_factors" "_law_of_factors" (defArgs zTof_factors) (defBody zTof_factors) (defScope zTof_factors) .none kV25 dc25 pm25 an25 cd25 ct25),sl25⟩) (c25:PySem.W.codeIn K cd25 "_law_of_factors" = true) (k25:PySem.W.keepIn K (.ref f25) = true)
  (a26:PySem.W.nsIn K mainGlobals "_law_slope" = some (some (.ref f26))) (l26:K.lookup f26 = some ⟨oc26,od26,.func (PySem.W.fnOf "_law_slope" "_law_slope" (defArgs zTslope) (defBody zTslope) (defScope zTslope) .none kV26 dc26 pm26 an26 cd26 ct26),sl26⟩) (c26:PySem.W.codeIn K cd26 "_law_slope" = true) (k26:PySem.W.keepIn K (.ref f26) = true)
  (a27:PySem.W.nsIn K mainGlobals "_law_summed" = some (some (.ref f27))) (l27:K.lookup f27 = some ⟨oc27,od27,.func (PySem.W.fnOf "_law_summed" "_law_summed" (defArgs zTsummed) (defBody zTsummed) (defScope zTsummed) .none kV27 dc27 pm27 an27 cd27 ct27),sl27⟩) (c27:PySem.W.codeIn K cd27 "_law_summed" = true) (k27:PySem.W.keepIn K (.ref f27) = true)
  (a28:PySem.W.nsIn K mainGlobals "_law_over" = some (some (.ref f28))) (l28:K.lookup f28 = some ⟨oc28,od28,.func (PySem.W.fnOf "_law_over" "_law_over" (defArgs zTover) (defBody zTover) (defScope zTover) .none kV28 dc28 pm28 an28 cd28 ct28),sl28⟩) (c28:PySem.W.codeIn K cd28 "_law_over" = true) (k28:PySem.W.keepIn K (.ref f28) = true)
  (a29:PySem.W.nsIn K mainGlobals "_law_parted" = some (some (.ref f29))) (l29:K.lookup f29 = some ⟨oc29,od29,.func (PySem.W.fnOf "_law_parted" "_law_parted" (defArgs zTparted) (defBody zTparted) (defScope zTparted) .none kV29 dc29 pm29 an29 cd29 ct29),sl29⟩) (c29:PySem.W.codeIn K cd29 "_law_parted" = true) (k29:PySem.W.keepIn K (.ref f29) = true)
  (a30:PySem.W.nsIn K mainGlobals "_law_same" = some (some (.ref f30))) (l30:K.lookup f30 = some ⟨oc30,od30,.func (PySem.W.fnOf "_law_same" "_law_same" (defArgs zTsame) (defBody zTsame) (defScope zTsame) .none kV30 dc30 pm30 an30 cd30 ct30),sl30⟩) (c30:PySem.W.codeIn K cd30 "_law_same" = true) (k30:PySem.W.keepIn K (.ref f30) = true)
  (a31:PySem.W.nsIn K mainGlobals "_law_refused" = some (some (.ref f31))) (l31:K.lookup f31 = some ⟨oc31,od31,.func (PySem.W.fnOf "_law_refused" "_law_refused" (defArgs zTrefused) (defBody zTrefused) (defScope zTrefused) .none kV31 dc31 pm31 an31 cd31 ct31),sl31⟩) (c31:PySem.W.codeIn K cd31 "_law_refused" = true) (k31:PySem.W.keepIn K (.ref f31) = true)
  (a32:PySem.W.nsIn K mainGlobals "_law_due" = some (some (.ref f32))) (l32:K.lookup f32 = some ⟨oc32,od32,.func (PySem.W.fnOf "_law_due" "_law_due" (defArgs zTdue) (defBody zTdue) (defScope zTdue) .none kV32 dc32 pm32 an32 cd32 ct32),sl32⟩) (c32:PySem.W.codeIn K cd32 "_law_due" = true) (k32:PySem.W.keepIn K (.ref f32) = true)
  (a33:PySem.W.nsIn K mainGlobals "law" = some (some (.ref f33))) (l33:K.lookup f33 = some ⟨oc33,od33,.func (PySem.W.fnOf "law" "law" (defArgs s_law) (defBody s_law) (defScope s_law) .none kV33 dc33 pm33 an33 cd33 ct33),sl33⟩) (c33:PySem.W.codeIn K cd33 "law" = true) (k33:PySem.W.keepIn K (.ref f33) = true)
  {ga0:Addr} {go0:Obj}
  (u0:PySem.W.nsIn K mainGlobals "ZERO" = some (some (.ref ga0))) (v0:K.lookup ga0 = some go0) (w0:kobj go0 = some (.tup [V.int (0),V.int (1)]))
  (z0:PySem.W.nsIn K mainGlobals "abs" = some none)
  (z1:PySem.W.nsIn K mainGlobals "range" = some none)
  (z2:PySem.W.nsIn K mainGlobals "len" = some none)
  (z3:PySem.W.nsIn K mainGlobals "max" = some none)
  (z4:PySem.W.nsIn K mainGlobals "list" = some none)
  (z5:PySem.W.nsIn K mainGlobals "min" = some none)
  (z6:PySem.W.nsIn K mainGlobals "isinstance" = some none)
  (z7:PySem.W.nsIn K mainGlobals "bool" = some none)
  (z8:PySem.W.nsIn K mainGlobals "tuple" = some none)
  (z9:PySem.W.nsIn K mainGlobals "all" = some none)
  (z10:PySem.W.nsIn K mainGlobals "zip" = some none)
  (z11:PySem.W.nsIn K mainGlobals "ValueError" = some none)
  {e0 e1 e2 e3 e4 e5 e6 e7 e8 em:Addr}
  (n0:PySem.W.nsIn K mainGlobals "NoFraction" = some (some (.ref e0)))
  (n1:PySem.W.nsIn K mainGlobals "NoPolynomial" = some (some (.ref e1)))
  (n2:PySem.W.nsIn K mainGlobals "NoSums" = some (some (.ref e2)))
  (n3:PySem.W.nsIn K mainGlobals "NoFlock" = some (some (.ref e3)))
  (n4:PySem.W.nsIn K mainGlobals "NoWalk" = some (some (.ref e4)))
  (n5:PySem.W.nsIn K mainGlobals "NoSum" = some (some (.ref e5)))
  (n6:PySem.W.nsIn K mainGlobals "NoDeed" = some (some (.ref e6)))
  (n7:PySem.W.nsIn K mainGlobals "NoText" = some (some (.ref e7)))
  (n8:PySem.W.nsIn K mainGlobals "NoRow" = some (some (.ref e8)))
  (nm:PySem.W.nsIn K mainGlobals "MomentError" = some (some (.ref em))) (xo:OwnX K e1)
  (q0:PySem.W.kitOne K (.ref e1) (.ref e0) = some false)
  (q1:PySem.W.kitOne K (.ref e1) (.ref e1) = some true)
  (q2:PySem.W.kitOne K (.ref e1) (.ref e2) = some false)
  (q3:PySem.W.kitOne K (.ref e1) (.ref e3) = some false)
  (q4:PySem.W.kitOne K (.ref e1) (.ref e4) = some false)
  (q5:PySem.W.kitOne K (.ref e1) (.ref e5) = some false)
  (q6:PySem.W.kitOne K (.ref e1) (.ref e6) = some false)
  (q7:PySem.W.kitOne K (.ref e1) (.ref e7) = some false)
  (q8:PySem.W.kitOne K (.ref e1) (.ref e8) = some false)
  (qm:PySem.W.exmOne K (.ref e1) (.ref em) = some true) (qv:PySem.W.kitOne K (.ref e1) (.type "ValueError") = some true)
  (y1:PySem.W.findIn K (.ref e1) "__getattribute__" = some (some (.builtin "BaseException.__getattribute__"))) (y2:PySem.W.findIn K (.ref e1) "__getattr__" = some none) (y3:PySem.W.findIn K (.ref e1) "__class__" = some (some (.builtin "object.__class__")))
  (y4:PySem.W.mroIn K e1 (.type "object") = some true) (y5:PySem.W.mroIn K e1 (.type "BaseException") = some true) (y6:(PySem.W.clsIn K e1).isSome = true)
  (m33:cd33 = .ref 351) (o33:PySem.W.codeHdIn K 351 347 = true)
  : ∃ fd:FuncData,(∀ (s:Shared) (v:Value),BindsTo s fd ⟨[v],[]⟩ [("_law_script",v)]) /\ ∀ base:Heap,K.In base -> base.Ns mainGlobals mg -> BltB mg base -> base.NoSeer -> FnOk l.prog w K mg base CX0 10 fa fd ["_law_script"] (spLaw K):=by
 have e:=hfa.symm.trans (PySem.W.mg_of X G a33)
 cases e
 have T:Txt K mg:=⟨trivial,GT.mk (PySem.W.mg_of X G u0) v0 w0,PySem.W.mg_none_of X G z0,PySem.W.mg_none_of X G z1,PySem.W.mg_none_of X G z2,PySem.W.mg_none_of X G z3,PySem.W.mg_none_of X G z4,PySem.W.mg_none_of X G z5,PySem.W.mg_none_of X G z6,PySem.W.mg_none_of X G z7,PySem.W.mg_none_of X G z8,PySem.W.mg_none_of X G z9,PySem.W.mg_none_of X G z10,PySem.W.mg_none_of X G z11⟩
 have Z_:XIdx K mg e1 1:=by
  refine ⟨⟨y1,y2,y3,y4,y5,y6⟩,fun j n hn=>?_,⟨em,PySem.W.mg_of X G nm,qm⟩,qv⟩
  rcases j with _ | _ | _ | _ | _ | _ | _ | _ | _ | j
  ·cases hn; exact ⟨e0,PySem.W.mg_of X G n0,q0⟩
  ·cases hn; exact ⟨e1,PySem.W.mg_of X G n1,q1⟩
  ·cases hn; exact ⟨e2,PySem.W.mg_of X G n2,q2⟩
  ·cases hn; exact ⟨e3,PySem.W.mg_of X G n3,q3⟩
  ·cases hn; exact ⟨e4,PySem.W.mg_of X G n4,q4⟩
  ·cases hn; exact ⟨e5,PySem.W.mg_of X G n5,q5⟩
  ·cases hn; exact ⟨e6,PySem.W.mg_of X G n6,q6⟩
  ·cases hn; exact ⟨e7,PySem.W.mg_of X G n7,q7⟩
  ·cases hn; exact ⟨e8,PySem.W.mg_of X G n8,q8⟩
  ·cases hn
 refine ⟨PySem.W.fnOf "law" "law" (defArgs s_law) (defBody s_law) (defScope s_law) .none kV33 dc33 pm33 an33 cd33 ct33,fun s v=>.of_eq rfl,fun base kb nb hB hSe=>?_⟩
 have N_:Seer l.prog base:=⟨hSe,hst⟩
 have F_greatest_divisor:=fun_mk (st:=s_greatest_divisor) l0 c0 k0
 have C_greatest_divisor:Cal l.prog w K mg base "greatest_divisor" ["one", "other"] 1 (sp_greatest_divisor K):=⟨_,_,ok_greatest_divisor F_greatest_divisor T ,PySem.W.mg_of X G a0,k0,(F_greatest_divisor.binds fun _ _ _ _ _ _ us hl=>match us,hl with | [_,_],_=>rfl)⟩
 have F_power:=fun_mk (st:=s_power) l1 c1 k1
 have C_power:Cal l.prog w K mg base "power" ["base", "many"] 1 (sp_power K):=⟨_,_,ok_power F_power T ,PySem.W.mg_of X G a1,k1,(F_power.binds fun _ _ _ _ _ _ us hl=>match us,hl with | [_,_],_=>rfl)⟩
 have F_trimmed:=fun_mk (st:=s_trimmed) l2 c2 k2
 have C_trimmed:Cal l.prog w K mg base "trimmed" ["numbers", "zero"] 1 (sp_trimmed K):=⟨_,_,ok_trimmed F_trimmed T ,PySem.W.mg_of X G a2,k2,(F_trimmed.binds fun _ _ _ _ _ _ us hl=>match us,hl with | [_,_],_=>rfl)⟩
 have F_wholes_slope:=fun_mk (st:=s_wholes_slope) l3 c3 k3
 have C_wholes_slope:Cal l.prog w K mg base "wholes_slope" ["wholes"] 1 (sp_wholes_slope K):=⟨_,_,ok_wholes_slope F_wholes_slope T ,PySem.W.mg_of X G a3,k3,(F_wholes_slope.binds fun _ _ _ _ _ _ us hl=>match us,hl with | [_],_=>rfl)⟩
 have F_wholes_parted:=fun_mk (st:=s_wholes_parted) l4 c4 k4
 have C_wholes_parted:Cal l.prog w K mg base "wholes_parted" ["one", "other"] 2 (sp_wholes_parted K):=⟨_,_,ok_wholes_parted F_wholes_parted T (C_trimmed:=C_trimmed),PySem.W.mg_of X G a4,k4,(F_wholes_parted.binds fun _ _ _ _ _ _ us hl=>match us,hl with | [_,_],_=>rfl)⟩
 have F_wholes_rests:=fun_mk (st:=s_wholes_rests) l5 c5 k5
 have C_wholes_rests:Cal l.prog w K mg base "wholes_rests" ["one", "other"] 3 (sp_wholes_rests K):=⟨_,_,ok_wholes_rests F_wholes_rests T (N_:=N_) (C_power:=C_power) (C_wholes_parted:=C_wholes_parted),PySem.W.mg_of X G a5,k5,(F_wholes_rests.binds fun _ _ _ _ _ _ us hl=>match us,hl with | [_,_],_=>rfl)⟩
 have F_ratio:=fun_mk (st:=s_ratio) l6 c6 k6
 have C_ratio:Cal l.prog w K mg base "ratio" ["top", "bottom"] 2 (sp_ratio K):=⟨_,_,ok_ratio F_ratio T (N_:=N_) (C_greatest_divisor:=C_greatest_divisor),PySem.W.mg_of X G a6,k6,(F_ratio.binds fun _ _ _ _ _ _ us hl=>match us,hl with | [_,_],_=>rfl)⟩
 have F_times:=fun_mk (st:=s_times) l7 c7 k7
 have C_times:Cal l.prog w K mg base "times" ["one", "other"] 3 (sp_times K):=⟨_,_,ok_times F_times T (C_ratio:=C_ratio),PySem.W.mg_of X G a7,k7,(F_times.binds fun _ _ _ _ _ _ us hl=>match us,hl with | [_,_],_=>rfl)⟩
 have F_cleared:=fun_mk (st:=s_cleared) l8 c8 k8
 have C_cleared:Cal l.prog w K mg base "cleared" ["f"] 2 (sp_cleared K):=⟨_,_,ok_cleared F_cleared T (C_greatest_divisor:=C_greatest_divisor),PySem.W.mg_of X G a8,k8,(F_cleared.binds fun _ _ _ _ _ _ us hl=>match us,hl with | [_],_=>rfl)⟩
 have F_divided:=fun_mk (st:=s_divided) l9 c9 k9
 have C_divided:Cal l.prog w K mg base "divided" ["wholes", "bottom"] 3 (sp_divided K):=⟨_,_,ok_divided F_divided T (C_trimmed:=C_trimmed) (C_ratio:=C_ratio),PySem.W.mg_of X G a9,k9,(F_divided.binds fun _ _ _ _ _ _ us hl=>match us,hl with | [_,_],_=>rfl)⟩
 have F_slope:=fun_mk (st:=s_slope) l10 c10 k10
 have C_slope:Cal l.prog w K mg base "slope" ["f"] 4 (sp_slope K):=⟨_,_,ok_slope F_slope T (C_times:=C_times),PySem.W.mg_of X G a10,k10,(F_slope.binds fun _ _ _ _ _ _ us hl=>match us,hl with | [_],_=>rfl)⟩
 have F_refuse_nought:=fun_mk (st:=s_refuse_nought) l11 c11 k11
 have C_refuse_nought:Cal l.prog w K mg base "refuse_nought" ["f"] 1 (sp_refuse_nought K):=⟨_,_,ok_refuse_nought F_refuse_nought T ,PySem.W.mg_of X G a11,k11,(F_refuse_nought.binds fun _ _ _ _ _ _ us hl=>match us,hl with | [_],_=>rfl)⟩
 have CX_refuse_nought:CalX l.prog w K mg base "refuse_nought" ["f"] 1 (spx_refuse_nought e1 K):=⟨_,_,okx_refuse_nought F_refuse_nought T xo (PySem.W.mg_of X G n1) ,PySem.W.mg_of X G a11,k11,(F_refuse_nought.binds fun _ _ _ _ _ _ us hl=>match us,hl with | [_],_=>rfl)⟩
 have F_chain:=fun_mk (st:=s_chain) l12 c12 k12
 have C_chain:Cal l.prog w K mg base "chain" ["f"] 5 (sp_chain K):=⟨_,_,ok_chain F_chain T (C_wholes_rests:=C_wholes_rests) (C_wholes_slope:=C_wholes_slope) (C_divided:=C_divided) (C_ratio:=C_ratio) (C_slope:=C_slope) (C_cleared:=C_cleared) (C_refuse_nought:=C_refuse_nought),PySem.W.mg_of X G a12,k12,(F_chain.binds fun _ _ _ _ _ _ us hl=>match us,hl with | [_],_=>rfl)⟩
 have CX_chain:CalX l.prog w K mg base "chain" ["f"] 5 (spx_chain e1 K):=⟨_,_,okx_chain F_chain T xo (PySem.W.mg_of X G n1) (C_wholes_rests:=C_wholes_rests) (C_wholes_slope:=C_wholes_slope) (C_divided:=C_divided) (C_ratio:=C_ratio) (C_slope:=C_slope) (C_cleared:=C_cleared) (C_refuse_nought:=C_refuse_nought) (CX_refuse_nought:=CX_refuse_nought),PySem.W.mg_of X G a12,k12,(F_chain.binds fun _ _ _ _ _ _ us hl=>match us,hl with | [_],_=>rfl)⟩
 have zFcell_at:=fun_mk (st:=zTcell_at) l13 c13 k13
 have zCcell_at:Cal l.prog w K mg base "_law_cell_at" ["_law_script", "_law_k"] 1 (zPcell_at K):=⟨_,_,zOcell_at zFcell_at T ,PySem.W.mg_of X G a13,k13,(zFcell_at.binds fun _ _ _ _ _ _ us hl=>match us,hl with | [_,_],_=>rfl)⟩
 have zFstate:=fun_mk (st:=zTstate) l14 c14 k14
 have zCstate:Cal l.prog w K mg base "_law_state" ["_law_script", "_law_k"] 2 (zPstate K):=⟨_,_,zOstate zFstate T (zCcell_at:=zCcell_at),PySem.W.mg_of X G a14,k14,(zFstate.binds fun _ _ _ _ _ _ us hl=>match us,hl with | [_,_],_=>rfl)⟩
 have zFtake:=fun_mk (st:=zTtake) l15 c15 k15
 have zCtake:Cal l.prog w K mg base "_law_take" ["_law_state_here", "_law_many"] 1 (zPtake K):=⟨_,_,zOtake zFtake T ,PySem.W.mg_of X G a15,k15,(zFtake.binds fun _ _ _ _ _ _ us hl=>match us,hl with | [_,_],_=>rfl)⟩
 have zFdivisor:=fun_mk (st:=zTdivisor) l16 c16 k16
 have zCdivisor:Cal l.prog w K mg base "_law_divisor" ["_law_one", "_law_other"] 1 (zPdivisor K):=⟨_,_,zOdivisor zFdivisor T ,PySem.W.mg_of X G a16,k16,(zFdivisor.binds fun _ _ _ _ _ _ us hl=>match us,hl with | [_,_],_=>rfl)⟩
 have zFlow:=fun_mk (st:=zTlow) l17 c17 k17
 have zClow:Cal l.prog w K mg base "_law_low" ["_law_top", "_law_bottom"] 2 (zPlow K):=⟨_,_,zOlow zFlow T (N_:=N_) (zCdivisor:=zCdivisor),PySem.W.mg_of X G a17,k17,(zFlow.binds fun _ _ _ _ _ _ us hl=>match us,hl with | [_,_],_=>rfl)⟩
 have zFsmall:=fun_mk (st:=zTsmall) l18 c18 k18
 have zCsmall:Cal l.prog w K mg base "_law_small" ["_law_state_here"] 3 (zPsmall K):=⟨_,_,zOsmall zFsmall T (zClow:=zClow) (zCtake:=zCtake),PySem.W.mg_of X G a18,k18,(zFsmall.binds fun _ _ _ _ _ _ us hl=>match us,hl with | [_],_=>rfl)⟩
 have zFclean:=fun_mk (st:=zTclean) l19 c19 k19
 have zCclean:Cal l.prog w K mg base "_law_clean" ["_law_numbers"] 1 (zPclean K):=⟨_,_,zOclean zFclean T ,PySem.W.mg_of X G a19,k19,(zFclean.binds fun _ _ _ _ _ _ us hl=>match us,hl with | [_],_=>rfl)⟩
 have zFpolynomial:=fun_mk (st:=zTpolynomial) l20 c20 k20
 have zCpolynomial:Cal l.prog w K mg base "_law_polynomial" ["_law_state_here", "_law_most"] 4 (zPpolynomial K):=⟨_,_,zOpolynomial zFpolynomial T (zCclean:=zCclean) (zCtake:=zCtake) (zCsmall:=zCsmall),PySem.W.mg_of X G a20,k20,(zFpolynomial.binds fun _ _ _ _ _ _ us hl=>match us,hl with | [_,_],_=>rfl)⟩
 have zFplus:=fun_mk (st:=zTplus) l22 c22 k22
 have zCplus:Cal l.prog w K mg base "_law_plus" ["_law_one", "_law_other"] 3 (zPplus K):=⟨_,_,zOplus zFplus T (zClow:=zClow),PySem.W.mg_of X G a22,k22,(zFplus.binds fun _ _ _ _ _ _ us hl=>match us,hl with | [_,_],_=>rfl)⟩
 have zFfactors:=fun_mk (st:=zTfactors) l21 c21 k21
 have zCfactors:Cal l.prog w K mg base "_law_factors" ["_law_state_here", "_law_most"] 4 (zPfactors K):=⟨_,_,zOfactors zFfactors T (zCsmall:=zCsmall) (zCtake:=zCtake) (zCplus:=zCplus),PySem.W.mg_of X G a21,k21,(zFfactors.binds fun _ _ _ _ _ _ us hl=>match us,hl with | [_,_],_=>rfl)⟩
 have zFtimes:=fun_mk (st:=zTtimes) l23 c23 k23
 have zCtimes:Cal l.prog w K mg base "_law_times" ["_law_one", "_law_other"] 3 (zPtimes K):=⟨_,_,zOtimes zFtimes T (zClow:=zClow),PySem.W.mg_of X G a23,k23,(zFtimes.binds fun _ _ _ _ _ _ us hl=>match us,hl with | [_,_],_=>rfl)⟩
 have zFmultiplied:=fun_mk (st:=zTmultiplied) l24 c24 k24
 have zCmultiplied:Cal l.prog w K mg base "_law_multiplied" ["_law_f", "_law_g"] 4 (zPmultiplied K):=⟨_,_,zOmultiplied zFmultiplied T (zCclean:=zCclean) (zCplus:=zCplus) (zCtimes:=zCtimes),PySem.W.mg_of X G a24,k24,(zFmultiplied.binds fun _ _ _ _ _ _ us hl=>match us,hl with | [_,_],_=>rfl)⟩
 have zFof_factors:=fun_mk (st:=zTof_factors) l25 c25 k25
 have zCof_factors:Cal l.prog w K mg base "_law_of_factors" ["_law_factors_here"] 5 (zPof_factors K):=⟨_,_,zOof_factors zFof_factors T (zCmultiplied:=zCmultiplied),PySem.W.mg_of X G a25,k25,(zFof_factors.binds fun _ _ _ _ _ _ us hl=>match us,hl with | [_],_=>rfl)⟩
 have zFslope:=fun_mk (st:=zTslope) l26 c26 k26
 have zCslope:Cal l.prog w K mg base "_law_slope" ["_law_f"] 4 (zPslope K):=⟨_,_,zOslope zFslope T (zCclean:=zCclean) (zCtimes:=zCtimes),PySem.W.mg_of X G a26,k26,(zFslope.binds fun _ _ _ _ _ _ us hl=>match us,hl with | [_],_=>rfl)⟩
 have zFsummed:=fun_mk (st:=zTsummed) l27 c27 k27
 have zCsummed:Cal l.prog w K mg base "_law_summed" ["_law_f", "_law_g", "_law_by"] 4 (zPsummed K):=⟨_,_,zOsummed zFsummed T (zCclean:=zCclean) (zCplus:=zCplus) (zCtimes:=zCtimes),PySem.W.mg_of X G a27,k27,(zFsummed.binds fun _ _ _ _ _ _ us hl=>match us,hl with | [_,_,_],_=>rfl)⟩
 have zFover:=fun_mk (st:=zTover) l28 c28 k28
 have zCover:Cal l.prog w K mg base "_law_over" ["_law_one", "_law_other"] 3 (zPover K):=⟨_,_,zOover zFover T (zClow:=zClow),PySem.W.mg_of X G a28,k28,(zFover.binds fun _ _ _ _ _ _ us hl=>match us,hl with | [_,_],_=>rfl)⟩
 have zFparted:=fun_mk (st:=zTparted) l29 c29 k29
 have zCparted:Cal l.prog w K mg base "_law_parted" ["_law_f", "_law_g"] 5 (zPparted K):=⟨_,_,zOparted zFparted T (zCclean:=zCclean) (zCsummed:=zCsummed) (zCover:=zCover),PySem.W.mg_of X G a29,k29,(zFparted.binds fun _ _ _ _ _ _ us hl=>match us,hl with | [_,_],_=>rfl)⟩
 have zFsame:=fun_mk (st:=zTsame) l30 c30 k30
 have zCsame:Cal l.prog w K mg base "_law_same" ["_law_found", "_law_due_here"] 6 (zPsame 5 K):=all__law_same zFsame T (PySem.W.mg_of X G a30) k30 (zFsame.binds fun _ _ _ _ _ _ us hl=>match us,hl with | [_,_],_=>rfl) 5
 have zFrefused:=fun_mk (st:=zTrefused) l31 c31 k31
 have R_:RefOk l.prog w K mg base 8:=⟨_,PySem.W.mg_of X G a31,k31,fun A outer s H p C i Q hr e0 L Z hi hq=>zOrefused zFrefused T (zFrefused.binds fun _ _ _ _ _ _ us hl=>match us,hl with | [_],_=>rfl) hr e0 L Z hi hq⟩
 have zFdue:=fun_mk (st:=zTdue) l32 c32 k32
 have zCdue:Cal l.prog w K mg base "_law_due" ["_law_f"] 6 (zPdue K):=⟨_,_,zOdue zFdue T (zCsummed:=zCsummed) (zCparted:=zCparted) (zCslope:=zCslope),PySem.W.mg_of X G a32,k32,(zFdue.binds fun _ _ _ _ _ _ us hl=>match us,hl with | [_],_=>rfl)⟩
 have M_law:MkF K mg base (PySem.W.fnOf "law" "law" (defArgs s_law) (defBody s_law) (defScope s_law) .none kV33 dc33 pm33 an33 cd33 ct33) 351 347:=⟨m33,PySem.W.codeHd_of_K kb o33,hB⟩
 have F_law:=fun_mk (st:=s_law) l33 c33 k33
 exact ok_law F_law T M_law R_ Z_ (zCof_factors:=zCof_factors) (zCfactors:=zCfactors) (zCpolynomial:=zCpolynomial) (zCsame:=zCsame) (zCdue:=zCdue) (C_chain:=C_chain) (zCstate:=zCstate) (CX_chain:=CX_chain)
theorem walk {l:PySem.W.OpenLaw} {q:Program} {loose:List Str} {XP:(Str -> Option Value) -> Heap -> Prop} {YP:World -> Heap -> Prop} {d:DefRec} {K:Params -> PySem.W.Frag} (hn:l.most = some 63) (hdf:d.params.defaults = []) (hi:PyProof.Rows.importsNone q = true)
  (hY:∀ (w:World) (h:Heap),YP w h -> (K w.params).In h /\ ∀ q ∈ ([(351,347)]:List (Addr × Addr)),PySem.W.codeHdIn (K w.params) q.1 q.2 = true /\ (K w.params).lookup q.2 = none /\ h.get? q.2 = some (PySem.W.tabObj #[]))
  (F:∀ (w:World) (mg:Str -> Option Value) (fa:Addr) (h:Heap),(K w.params).In h -> h.Ns mainGlobals mg -> mg d.name = some (.ref fa) ->
   ∃ fd:FuncData,(∀ (s:Shared) (u:Value),BindsTo s fd ⟨[u],[]⟩ [("_law_script",u)]) /\ ∀ base:Heap,(K w.params).In base -> base.Ns mainGlobals mg -> BltB mg base -> base.NoSeer -> FnOk l.prog w (K w.params) mg base CX0 10 fa fd ["_law_script"] (spLaw (K w.params))) :
  PySem.W.WalkO q loose XP YP l.row.toRowW d [] (fun f vs=>PySem.call f vs) :=
 L2.walk_ofM (ts:=fun _=>[(351,347)]) (n:=63) (k:=10) (x:="_law_script") (CX:=fun _=>CX0) (sp:=fun w=>spLaw (K w.params)) hn (by decide) hdf ⟨rfl,by decide,by decide⟩ hi hY F (fun _ _ a ns hl hT hK hS=>⟨a,ns,rfl,.of hS hK,hl,.start (hT (351,347) (by simp)),fun _=>rfl⟩) fun _ _ _ _ _ z=>z
end M
open PySem PySem.W PyProof.Rows
inductive PySem.W.Fast.tw3630663024768309385 : Type
inductive PySem.W.Fast.tw4508397992097727681 : Type
inductive PySem.W.Fast.tw4606886042696784716 : Type
inductive PySem.W.Fast.tw5146181723082630724 : Type
inductive PySem.W.Fast.tw15754893886350214204 : Type
inductive PySem.W.Fast.tw6090578269294282193 : Type
set_option maxRecDepth 100000 in
set_option maxHeartbeats 0 in
theorem PySem.Challenge.cw_momentwright_k13_chains_told_holds : PySem.Challenge.rw_momentwright_k13_chains_told.Holds := by
 w_on; o_law; k_head; (case hw=>w_witness2)
 k_fill
 refine M.walk (l:=PySem.Challenge.rw_momentwright_k13_chains_told) rfl rfl ?hi (fun w h Y=>⟨PySem.W.km_in_of Y,?T⟩) ?F
 case hi=>exact (by decide +kernel)
 case T =>
  have hT:=PySem.W.km_tabs_of Y
  intro q hq
  simp only [List.mem_cons,List.not_mem_nil,or_false] at hq
  rcases hq with rfl
  ·exact ⟨by kernel_rfl,by kernel_rfl,hT _ (by simp)⟩
 case F =>
  intro w mg fa h KX G hmg
  refine' M.all_mk KX G hmg rfl ?a0 ?l0 ?c0 ?k0 ?a1 ?l1 ?c1 ?k1 ?a2 ?l2 ?c2 ?k2 ?a3 ?l3 ?c3 ?k3 ?a4 ?l4 ?c4 ?k4 ?a5 ?l5 ?c5 ?k5 ?a6 ?l6 ?c6 ?k6 ?a7 ?l7 ?c7 ?k7 ?a8 ?l8 ?c8 ?k8 ?a9 ?l9 ?c9 ?k9 ?a10 ?l10 ?c10 ?k10 ?a11 ?l11 ?c11 ?k11 ?a12 ?l12 ?c12 ?k12 ?a13 ?l13 ?c13 ?k13 ?a14 ?l14 ?c14 ?k14 ?a15 ?l15 ?c15 ?k15 ?a16 ?l16 ?c16 ?k16 ?a17 ?l17 ?c17 ?k17 ?a18 ?l18 ?c18 ?k18 ?a19 ?l19 ?c19 ?k19 ?a20 ?l20 ?c20 ?k20 ?a21 ?l21 ?c21 ?k21 ?a22 ?l22 ?c22 ?k22 ?a23 ?l23 ?c23 ?k23 ?a24 ?l24 ?c24 ?k24 ?a25 ?l25 ?c25 ?k25 ?a26 ?l26 ?c26 ?k26 ?a27 ?l27 ?c27 ?k27 ?a28 ?l28 ?c28 ?k28 ?a29 ?l29 ?c29 ?k29 ?a30 ?l30 ?c30 ?k30 ?a31 ?l31 ?c31 ?k31 ?a32 ?l32 ?c32 ?k32 ?a33 ?l33 ?c33 ?k33  ?u0 ?v0 ?w0 ?z0 ?z1 ?z2 ?z3 ?z4 ?z5 ?z6 ?z7 ?z8 ?z9 ?z10 ?z11 ?n0 ?n1 ?n2 ?n3 ?n4 ?n5 ?n6 ?n7 ?n8 ?nm ?xo ?q0 ?q1 ?q2 ?q3 ?q4 ?q5 ?q6 ?q7 ?q8 ?qm ?qv ?y1 ?y2 ?y3 ?y4 ?y5 ?y6 ?m33 ?o33
  (case a0=>k_is); (case l0=>k_is); (case c0=>k_is); (case k0=>k_is)
  (case a1=>k_is); (case l1=>k_is); (case c1=>k_is); (case k1=>k_is)
  (case a2=>k_is); (case l2=>k_is); (case c2=>k_is); (case k2=>k_is)
  (case a3=>k_is); (case l3=>k_is); (case c3=>k_is); (case k3=>k_is)
  (case a4=>k_is); (case l4=>k_is); (case c4=>k_is); (case k4=>k_is)
  (case a5=>k_is); (case l5=>k_is); (case c5=>k_is); (case k5=>k_is)
  (case a6=>k_is); (case l6=>k_is); (case c6=>k_is); (case k6=>k_is)
  (case a7=>k_is); (case l7=>k_is); (case c7=>k_is); (case k7=>k_is)
  (case a8=>k_is); (case l8=>k_is); (case c8=>k_is); (case k8=>k_is)
  (case a9=>k_is); (case l9=>k_is); (case c9=>k_is); (case k9=>k_is)
  (case a10=>k_is); (case l10=>k_is); (case c10=>k_is); (case k10=>k_is)
  (case a11=>k_is); (case l11=>k_is); (case c11=>k_is); (case k11=>k_is)
  (case a12=>k_is); (case l12=>k_is); (case c12=>k_is); (case k12=>k_is)
  (case a13=>k_is); (case l13=>k_is); (case c13=>k_is); (case k13=>k_is)
  (case a14=>k_is); (case l14=>k_is); (case c14=>k_is); (case k14=>k_is)
  (case a15=>k_is); (case l15=>k_is); (case c15=>k_is); (case k15=>k_is)
  (case a16=>k_is); (case l16=>k_is); (case c16=>k_is); (case k16=>k_is)
  (case a17=>k_is); (case l17=>k_is); (case c17=>k_is); (case k17=>k_is)
  (case a18=>k_is); (case l18=>k_is); (case c18=>k_is); (case k18=>k_is)
  (case a19=>k_is); (case l19=>k_is); (case c19=>k_is); (case k19=>k_is)
  (case a20=>k_is); (case l20=>k_is); (case c20=>k_is); (case k20=>k_is)
  (case a21=>k_is); (case l21=>k_is); (case c21=>k_is); (case k21=>k_is)
  (case a22=>k_is); (case l22=>k_is); (case c22=>k_is); (case k22=>k_is)
  (case a23=>k_is); (case l23=>k_is); (case c23=>k_is); (case k23=>k_is)
  (case a24=>k_is); (case l24=>k_is); (case c24=>k_is); (case k24=>k_is)
  (case a25=>k_is); (case l25=>k_is); (case c25=>k_is); (case k25=>k_is)
  (case a26=>k_is); (case l26=>k_is); (case c26=>k_is); (case k26=>k_is)
  (case a27=>k_is); (case l27=>k_is); (case c27=>k_is); (case k27=>k_is)
  (case a28=>k_is); (case l28=>k_is); (case c28=>k_is); (case k28=>k_is)
  (case a29=>k_is); (case l29=>k_is); (case c29=>k_is); (case k29=>k_is)
  (case a30=>k_is); (case l30=>k_is); (case c30=>k_is); (case k30=>k_is)
  (case a31=>k_is); (case l31=>k_is); (case c31=>k_is); (case k31=>k_is)
  (case a32=>k_is); (case l32=>k_is); (case c32=>k_is); (case k32=>k_is)
  (case a33=>k_is); (case l33=>k_is); (case c33=>k_is); (case k33=>k_is)
  (case u0=>k_is); (case v0=>k_is); (case w0=>rfl)
  (case z0=>k_is)
  (case z1=>k_is)
  (case z2=>k_is)
  (case z3=>k_is)
  (case z4=>k_is)
  (case z5=>k_is)
  (case z6=>k_is)
  (case z7=>k_is)
  (case z8=>k_is)
  (case z9=>k_is)
  (case z10=>k_is)
  (case z11=>k_is)
  (case n0=>k_is)
  (case n1=>k_is)
  (case n2=>k_is)
  (case n3=>k_is)
  (case n4=>k_is)
  (case n5=>k_is)
  (case n6=>k_is)
  (case n7=>k_is)
  (case n8=>k_is)
  (case nm=>k_is)
  (case xo=>show PySem.W.excIn _ _ _ _ = true; kernel_rfl)
  (case q0=>kernel_rfl)
  (case q1=>kernel_rfl)
  (case q2=>kernel_rfl)
  (case q3=>kernel_rfl)
  (case q4=>kernel_rfl)
  (case q5=>kernel_rfl)
  (case q6=>kernel_rfl)
  (case q7=>kernel_rfl)
  (case q8=>kernel_rfl)
  (case qm=>kernel_rfl)
  (case qv=>kernel_rfl)
  (case y1=>kernel_rfl)
  (case y2=>kernel_rfl)
  (case y3=>kernel_rfl)
  (case y4=>kernel_rfl)
  (case y5=>kernel_rfl)
  (case y6=>kernel_rfl)
  (case m33=>rfl)
  (case o33=>kernel_rfl)
#print axioms PySem.Challenge.cw_momentwright_k13_chains_told_holds

import PyProof.Rows.All
import Wide.All
import OpenK.AllK
import Wide.FinOn
import Lean
import PyProof.EqAt
import PyProof.EqKinds
import PyProof.TupleCall
import PySem.Challenge.RW_momentwright_k64_what_shows_the_most
set_option compiler.extract_closed false
local macro_rules | `(tactic| walk_at "o")=>`(tactic| first | lia | omega)
local macro_rules | `(tactic| walk_at "a1")=>`(tactic| first | exact Or.inl rfl | exact Or.inr rfl)
local macro_rules | `(tactic| walk_at "a2")=>`(tactic| first | decide | walk_at "o")
local macro_rules | `(tactic| walk_at "a3")=>`(tactic| exact ⟨rfl,rfl,rfl,by decide +kernel,rfl,by decide +kernel,by decide +kernel⟩)
set_option Elab.async false
set_option linter.all false
set_option maxRecDepth 100000
namespace L2
open PySem PySem.Spec PyProof.Rows
abbrev rn:=Sum Int Str
def BK:rn -> Value -> Bool
 | .inl k,v=>Value.isInt k v
 | .inr x,v=>Value.isStrOf x v
def Gp (w:World):rn -> Int
 | .inl k=>hashInt k
 | .inr x=>hashStr w x
theorem cC:∀ {k:rn} {v:Value},BK k v = true -> (∃ i t,k = Sum.inl i /\ v = Value.int i t) \/ (∃ x t,k = Sum.inr x /\ v = Value.str x t)
 | .inl i,v,h=>by
  obtain ⟨t,e⟩:=Value.isInt_shape (k:=i) (v:=v) h
  exact .inl ⟨i,t,rfl,e⟩
 | .inr x,v,h=>by
  obtain ⟨t,e⟩:=Value.isStrOf_shape (x:=x) (v:=v) h
  exact .inr ⟨x,t,rfl,e⟩
theorem C7 (a b:Int):decide ((Sum.inl a:rn) = Sum.inl b) = (a == b):=by
 by_cases e:a = b
 ·subst e; simp
 ·have h:¬ (Sum.inl a:rn) = Sum.inl b:=fun q=>e (Sum.inl.inj q)
  rw [decide_eq_false h]
  exact (beq_eq_false_iff_ne.mpr e).symm
theorem Do (a b:Str):decide ((Sum.inr a:rn) = Sum.inr b) = decide (a = b):=by
 by_cases e:a = b
 ·subst e; simp
 ·have h:¬ (Sum.inr a:rn) = Sum.inr b:=fun q=>e (Sum.inr.inj q)
  rw [decide_eq_false h,decide_eq_false e]
theorem C5 (a:Int) (b:Str):decide ((Sum.inl a:rn) = Sum.inr b) = false:=decide_eq_false (fun q=>nomatch q)
theorem Eh (a:Str) (b:Int):decide ((Sum.inr a:rn) = Sum.inl b) = false:=decide_eq_false (fun q=>nomatch q)
def pP (prog:Program) (w:World):PySem.KeyKind prog w rn where
 is:=BK
 hash:=Gp w
 inj:=fun v a b ha hb=>by
  rcases cC ha with ⟨i,t,rfl,rfl⟩ | ⟨x,t,rfl,rfl⟩
  ·rcases cC hb with ⟨j,u,rfl,e⟩ | ⟨y,u,rfl,e⟩
   ·injection e with e1 _; rw [e1]
   ·exact nomatch e
  ·rcases cC hb with ⟨j,u,rfl,e⟩ | ⟨y,u,rfl,e⟩
   ·exact nomatch e
   ·injection e with e1 _; rw [e1]
 byValue:=fun k v h=>by
  rcases cC h with ⟨i,t,rfl,rfl⟩ | ⟨x,t,rfl,rfl⟩ <;> rfl
 pyHash:=fun hv h=>by
  rcases cC hv with ⟨i,t,rfl,rfl⟩ | ⟨x,t,rfl,rfl⟩
  ·exact wpAny_pyHash_int h
  ·exact wpAny_pyHash_str h
 eqBool:=fun hu hv h=>by
  rcases cC hu with ⟨i,t,rfl,rfl⟩ | ⟨x,t,rfl,rfl⟩
  ·rcases cC hv with ⟨j,u,rfl,rfl⟩ | ⟨y,u,rfl,rfl⟩
   ·rw [C7] at h; exact wpAny_eqBool_int h
   ·rw [C5] at h; exact SeqAt.EqAt.int_str i t y u _ _ _ _ h
  ·rcases cC hv with ⟨j,u,rfl,rfl⟩ | ⟨y,u,rfl,rfl⟩
   ·rw [Eh] at h; exact SeqAt.EqAt.str_int x t j u _ _ _ _ h
   ·rw [Do] at h; exact wpAny_eqBool_str h
 «strs»:=fun k x t v h=>by
  rcases cC h with ⟨i,u,rfl,e⟩ | ⟨y,u,rfl,e⟩
  ·exact nomatch e
  ·injection e with e1 _
   subst e1
   cases v <;> rfl
end L2
namespace L2
open PySem PySem.Spec PyProof.Rows
inductive V where
 | non | bl (b:Bool) | int (i:Int) | str (x:Str) | byt (b:Array UInt8) | flt (b:UInt64) | ref (a:Addr) | ty (n:String)
 deriving DecidableEq
def bO:V -> Value -> Prop
 | .non,u=>u = Value.none
 | .bl b,u=>u = Value.bool b
 | .int i,u=>∃ t,u = Value.int i t
 | .str x,u=>∃ t,u = Value.str x t
 | .byt b,u=>∃ t,u = Value.bytes b t
 | .flt b,u=>∃ t,u = Value.float b t
 | .ref a,u=>u = Value.ref a
 | .ty n,u=>u = Value.type n
abbrev aX:List V -> List Value -> Prop:=Paired bO
theorem aX.length {xs:List V} {us:List Value} (r:aX xs us):xs.length = us.length:=Paired.length r
theorem aX.get:∀ {xs:List V} {us:List Value} {i:Nat} {x:V},aX xs us -> xs[i]? = some x -> ∃ u,us[i]? = some u /\ bO x u
 | _,_,_,_,.nil,e=>by simp at e
 | _,_,0,_,.cons r _,e=>by simp at e; subst e; exact ⟨_,rfl,r⟩
 | _,_,i + 1,x,.cons _ t,e=>by
  obtain ⟨u,h1,h2⟩:=aX.get (i:=i) (x:=x) t (by simpa using e)
  exact ⟨u,by simpa using h1,h2⟩
theorem aX.set {x:V} {u:Value} (r:bO x u):∀ {xs:List V} {us:List Value} (i:Nat),aX xs us -> aX (xs.set i x) (us.set i u)
 | _,_,_,.nil=>.nil
 | _,_,0,.cons _ t=>.cons r t
 | _,_,i + 1,.cons q t=>.cons q (aX.set r i t)
theorem aX.append:∀ {xs ys:List V} {us ws:List Value},aX xs us -> aX ys ws -> aX (xs ++ ys) (us ++ ws)
 | _,_,_,_,.nil,s=>s
 | _,_,_,_,.cons r t,s=>.cons r (aX.append t s)
theorem aX.take:∀ {xs:List V} {us:List Value} (n:Nat),aX xs us -> aX (xs.take n) (us.take n)
 | _,_,0,_=>.nil
 | _,_,_ + 1,.nil=>.nil
 | _,_,n + 1,.cons r t=>.cons r (aX.take n t)
theorem aX.drop:∀ {xs:List V} {us:List Value} (n:Nat),aX xs us -> aX (xs.drop n) (us.drop n)
 | _,_,0,r=>r
 | _,_,_ + 1,.nil=>.nil
 | _,_,n + 1,.cons _ t=>aX.drop n t
def Cn:Option V -> Option Value -> Prop
 | some v,some u=>bO v u
 | none,none=>True
 | _,_=>False
def KV {κ:Type}:List (κ × V) -> List (κ × Value) -> Prop:=Paired fun (p:κ × V) (q:κ × Value)=>p.1 = q.1 /\ bO p.2 q.2
def kV:rn -> V
 | .inl i=>.int i
 | .inr x=>.str x
inductive HO where
 /-- a list -/
 | lst (xs:List V)
 /-- a tuple (never changes) -/
 | tup (xs:List V)
 /-- a dict whose keys are ints and texts; one whose keys are tuples of ints and texts (the empty one is both) -/
 | dK (kvs:List (rn × V)) | dT (kvs:List (List rn × V))
 /-- a set of ints: its members,its size -/
 | set (S:Int -> Bool) (n:Nat)
 /-- an instance of the class at C,its dict at dx,its attributes -/
 | ins (C dx:Addr) (fs:List (Str × V))
 /-- the dict of the instance at x -/
 | own (x:Addr)
 /-- the dict of an exception -/
 | xd (fs:List (Str × V))
 /-- a bound method,f of x -/
 | met (f x:Addr)
 /-- a range object lo,lo + 1,.. below hi -/
 | rng (lo hi:Int)
 /-- a thing that is known to the object (the script; a dict while a loop walks it): read,never written while it is so -/
 | frz (o:Obj) (u:HO)
 /-- a code object's table -/
 | tbl (ps:Array Value)
 /-- any other thing,by what is true of its one object (a def of one's own: SetO a S n:=HO.ext fun h=>..) -/
 | ext (φ:Heap -> Prop)
abbrev Hp:=Addr -> Option HO
def upd (H:Hp) (a:Addr) (o:HO):Hp:=fun b=>if b = a then some o else H b
theorem bI {H:Hp} {a:Addr} {o:HO}:upd H a o a = some o:=by unfold upd; rw [if_pos rfl]
theorem aQ {H:Hp} {a b:Addr} {o:HO} (h:b ≠ a):upd H a o b = H b:=by unfold upd; rw [if_neg h]
theorem yT {H:Hp} {a b:Addr} {o u:HO} (h:H a = some o) (h':H b = some u) (d:o ≠ u):a ≠ b:=by
 intro e; subst e; rw [h] at h'; exact d (Option.some.inj h')
theorem ak {H:Hp} {a b:Addr} {o:HO} (h:H a = some o) (h':H b = none):a ≠ b:=by
 intro e; subst e; rw [h] at h'; cases h'
section
variable (P:Program) (w:World)
def dz (H:Hp) (h:Heap) (a:Addr):HO -> Prop
 | .lst xs=>xs.length <= sizeLine /\ ∃ (its:List Value) (n:Nat),aX xs its /\ h.get? a = some { cls:=.type "list",data:=.seq its.toArray n }
 | .tup xs=>xs.length <= sizeLine /\ ∃ its:List Value,aX xs its /\ IsTup h a its.toArray
 | .dK kvs=>kvs.length <= sizeLine /\ (a == sysModules) = false /\ ∃ vs,KV kvs vs /\ h.DictOf (pP P w) a vs
 | .dT kvs=>kvs.length <= sizeLine /\ (a == sysModules) = false /\ ∃ xs:List (List rn × Addr × Value),
   Paired (fun (p:List rn × V) (q:List rn × Addr × Value)=>p.1 = q.1 /\ H q.2.1 = some (.tup (p.1.map kV)) /\ bO p.2 q.2.2) kvs xs /\
   ∃ o es ep,h.get? a = some o /\ o.ExactDict /\ o.data = .dict es ep /\ es.toList = xs.map (entryOfKey (tupleKind (pP P w))) /\ (xs.map (·.1)).Nodup
 | .set S n=>h.SetOf (intKind P w) a S n
 | .ins C dx fs=>H dx = some (.own a) /\ fs.length <= 1000 /\ dx ≠ a /\ h.get? a = some (PySem.W.instObj C dx) /\
   ∃ mA,h.Ns1 dx mA /\ (∀ f,Cn (fs.lookup f) (mA f)) /\ PySem.Within mA (fs.map (·.1))
 | .own _=>∃ o,h.get? a = some o
 | .xd fs=>∃ mA,h.Ns1 a mA /\ ∀ f,Cn (fs.lookup f) (mA f)
 | .rng lo hi=>∃ t u v,h.get? a = some { cls:=.type "range",data:=.fields #[.int lo t,.int hi u,.int 1 v] }
 | .frz o u=>h.get? a = some o /\ dz H h a u
 | .tbl ps=>h.get? a = some { cls:=.none,data:=.fields ps }
 | .met f x=>h.get? a = some (PySem.W.methodObj (.ref f) (.ref x))
 | .ext φ=>φ h /\ (∃ o,h.get? a = some o) /\ ∀ h1 h2:Heap,φ h1 -> (∀ o,h1.get? a = some o -> h2.get? a = some o) -> φ h2
def kg (H:Hp) (h:Heap):Prop:=∀ a o,H a = some o -> dz P w H h a o
end
section
variable {P:Program} {w:World} {H H':Hp} {h h':Heap} {a:Addr} {o:HO}
theorem dz.lt (x:dz P w H h a o):a < h.objs.size:=by
 cases o with
 | lst xs=>obtain ⟨_,_,_,_,e⟩:=x; exact Heap.lt_size e
 | tup xs=>obtain ⟨_,_,_,p⟩:=x; exact p.lt
 | dK kvs=>obtain ⟨_,_,_,_,o,_,_,e,_⟩:=x; exact Heap.lt_size e
 | dT kvs=>obtain ⟨_,_,_,_,o,_,_,e,_⟩:=x; exact Heap.lt_size e
 | set S n=>obtain ⟨o,_,_,_,e,_⟩:=x; exact Heap.lt_size e
 | ins C dx fs=>obtain ⟨_,_,_,e,_⟩:=x; exact Heap.lt_size e
 | own y=>obtain ⟨_,e⟩:=x; exact Heap.lt_size e
 | xd fs=>obtain ⟨_,⟨_,_,_,e,_⟩,_⟩:=x; exact Heap.lt_size e
 | rng lo hi=>obtain ⟨_,_,_,e⟩:=x; exact Heap.lt_size e
 | frz ob u=>obtain ⟨e,_⟩:=x; exact Heap.lt_size e
 | tbl ps=>exact Heap.lt_size (show h.get? a = some _ from x)
 | met f y=>exact Heap.lt_size (show h.get? a = some _ from x)
 | ext φ=>obtain ⟨_,⟨_,e⟩,_⟩:=x; exact Heap.lt_size e
theorem Paired.mapP {α β:Type} {F G:α -> β -> Prop}:∀ {l₁:List α} {l₂:List β},Paired F l₁ l₂ -> (∀ a b,F a b -> G a b) -> Paired G l₁ l₂
 | _,_,.nil,_=>.nil
 | _,_,.cons r t,f=>.cons (f _ _ r) (Paired.mapP t f)
theorem dz.stay (x:dz P w H h a o) (k:∀ b u,(b = a \/ H b = some (.own a)) -> h.get? b = some u -> h'.get? b = some u)
  (ho:∀ b,H b = some (.own a) -> H' b = some (.own a)) (ht:∀ b xs,H b = some (.tup xs) -> H' b = some (.tup xs)):dz P w H' h' a o:=by
 induction o with
 | lst xs=>obtain ⟨z,its,n,r,e⟩:=x; exact ⟨z,its,n,r,k _ _ (.inl rfl) e⟩
 | tup xs=>obtain ⟨z,its,r,ob,e,c⟩:=x; exact ⟨z,its,r,ob,k _ _ (.inl rfl) e,c⟩
 | dK kvs=>obtain ⟨z,y,vs,r,ob,es,ep,e,c⟩:=x; exact ⟨z,y,vs,r,ob,es,ep,k _ _ (.inl rfl) e,c⟩
 | dT kvs =>
  obtain ⟨z,y,xs,r,ob,es,ep,e,c⟩:=x
  exact ⟨z,y,xs,Paired.mapP r fun p q z=>⟨z.1,ht _ _ z.2.1,z.2.2⟩,ob,es,ep,k _ _ (.inl rfl) e,c⟩
 | set S n=>obtain ⟨ob,es,ep,t,e,c⟩:=x; exact ⟨ob,es,ep,t,k _ _ (.inl rfl) e,c⟩
 | ins C dx fs =>
  obtain ⟨d,z,ne,e,mA,⟨od,es,ep,e2,c⟩,r⟩:=x
  exact ⟨ho _ d,z,ne,k _ _ (.inl rfl) e,mA,⟨od,es,ep,k _ _ (.inr d) e2,c⟩,r⟩
 | own y=>obtain ⟨ob,e⟩:=x; exact ⟨ob,k _ _ (.inl rfl) e⟩
 | xd fs=>obtain ⟨mA,⟨od,es,ep,e,c⟩,r⟩:=x; exact ⟨mA,⟨od,es,ep,k _ _ (.inl rfl) e,c⟩,r⟩
 | rng lo hi=>obtain ⟨t,u,v,e⟩:=x; exact ⟨t,u,v,k _ _ (.inl rfl) e⟩
 | frz ob u ih=>obtain ⟨e,q⟩:=x; exact ⟨k _ _ (.inl rfl) e,ih q⟩
 | tbl ps =>
  have e:h.get? a = some { cls:=.none,data:=.fields ps }:=x
  show h'.get? a = some { cls:=.none,data:=.fields ps }
  exact k a _ (.inl rfl) e
 | met f y =>
  have e:h.get? a = some (PySem.W.methodObj (.ref f) (.ref y)):=x
  show h'.get? a = some (PySem.W.methodObj (.ref f) (.ref y))
  exact k a _ (.inl rfl) e
 | ext φ=>obtain ⟨p,⟨o,e⟩,st⟩:=x; exact ⟨st _ _ p fun o q=>k _ _ (.inl rfl) q,⟨o,k _ _ (.inl rfl) e⟩,st⟩
theorem kg.lt (x:kg P w H h) (e:H a = some o):a < h.objs.size:=(x a o e).lt
theorem kg.fresh (x:kg P w H h) (e:h.objs.size <= a):H a = none:=by
 cases q:H a with
 | none=>rfl
 | some u=>exact absurd (Nat.lt_of_lt_of_le (x.lt q) e) (Nat.lt_irrefl _)
theorem kg.kept (x:kg P w H h) (k:∀ b u,h.get? b = some u -> h'.get? b = some u):kg P w H h':=fun a o e =>
 (x a o e).stay (fun b u _ q=>k b u q) (fun _ q=>q) fun _ _ q=>q
theorem kg.laid (x:kg P w H h) (k:∀ b u,h.get? b = some u -> h'.get? b = some u) (hp:h.objs.size <= a) (new:dz P w (upd H a o) h' a o):kg P w (upd H a o) h':=fun b u e=>by
 have hn:=x.fresh hp
 by_cases hb:b = a
 ·subst hb; rw [bI] at e; cases e; exact new
 ·rw [aQ hb] at e
  exact (x b u e).stay (fun c v _ q=>k c v q) (fun c q=>by rw [aQ (ak q hn)]; exact q) fun c xs q=>by rw [aQ (ak q hn)]; exact q
end
def Rd (H:Hp) (a:Addr) (u:HO):Prop:=H a = some u \/ ∃ o,H a = some (.frz o u)
theorem Rd.ok {P:Program} {w:World} {H:Hp} {h:Heap} {a:Addr} {u:HO} (r:Rd H a u) (x:kg P w H h):dz P w H h a u:=by
 rcases r with r | ⟨o,r⟩
 ·exact x a u r
 ·obtain ⟨_,q⟩:=x a _ r
  exact q
def FI:Option HO -> Prop
 | some (.lst _)=>True
 | some (.dK _)=>True
 | some (.dT _)=>True
 | some (.set _ _)=>True
 | some (.ins _ _ _)=>True
 | some (.ext _)=>True
 | _=>False
section
variable {P:Program} {w:World} {H:Hp} {h h':Heap} {x e:Addr} {o':HO}
theorem kg.write (ok:kg P w H h) (mu:FI (H x)) (he:e = x \/ H e = some (.own x)) (k:∀ b u,b ≠ e -> h.get? b = some u -> h'.get? b = some u) (heo:∃ u,h'.get? e = some u)
  (new:dz P w (upd H x o') h' x o'):kg P w (upd H x o') h':=fun b u q=>by
 have nown:∀ c y,H c = some (.own y) -> c ≠ x:=fun c y r z=>by subst z; rw [r] at mu; exact mu
 have ntup:∀ c xs,H c = some (.tup xs) -> c ≠ x:=fun c xs r z=>by subst z; rw [r] at mu; exact mu
 by_cases hb:b = x
 ·subst hb; rw [bI] at q; cases q; exact new
 ·rw [aQ hb] at q
  by_cases hbe:b = e
  ·have q':H b = some (.own x):=by
    rcases he with z | z
    ·exact absurd (hbe.trans z) hb
    ·rw [hbe]; exact z
   rw [q] at q'; cases q'
   obtain ⟨v,hv⟩:=heo
   exact ⟨v,by rw [hbe]; exact hv⟩
  ·refine (ok b u q).stay (fun c v hc r=>k c v ?_ r) (fun c r=>by rw [aQ (nown c b r)]; exact r) fun c xs r=>by rw [aQ (ntup c xs r)]; exact r
   rcases hc with rfl | hc
   ·exact hbe
   ·rintro rfl
    rcases he with z | z
    ·exact nown c b hc z
    ·rw [hc] at z; cases z; exact hb rfl
end
structure Un (fs ex:List Addr) (H H':Hp) (h h':Heap):Prop where
 keep:∀ b o,h.get? b = some o -> H b = none -> b ∉ fs -> b ∉ ex -> h'.get? b = some o
 slot:∀ b o,h.get? b = some o -> H b = none -> b ∈ fs -> b ∉ ex -> ∃ sl,h'.get? b = some { o with slots:=sl }
 free:∀ b o,h.get? b = some o -> H b = none -> b ∉ ex -> H' b = none
 there:∀ b o,h.get? b = some o -> b ∉ ex -> ∃ o',h'.get? b = some o'
 tups:∀ b xs,H b = some (.tup xs) -> H' b = some (.tup xs)
 frzs:∀ b o u,H b = some (.frz o u) -> H' b = some (.frz o u)
 tbls:∀ b ps,H b = some (.tbl ps) -> ∃ more,H' b = some (.tbl (ps ++ more))
section
variable {fs fs' ex ex':List Addr} {H H1 H2:Hp} {h h1 h2 h':Heap} {a x e:Addr} {o:HO}
theorem Un.any (u:Un fs ex H H1 h h1) {b:Addr} {ob:Obj} (q:h.get? b = some ob) (n:H b = none) (hx:b ∉ ex):∃ sl,h1.get? b = some { ob with slots:=sl }:=by
 by_cases hb:b ∈ fs
 ·exact u.slot b ob q n hb hx
 ·exact ⟨ob.slots,u.keep b ob q n hb hx⟩
theorem Un.kept (k:∀ b u,h.get? b = some u -> h'.get? b = some u):Un fs ex H H h h' :=
 ⟨fun b ob q _ _ _=>k b ob q,fun b ob q _ _ _=>⟨ob.slots,k b ob q⟩,fun _ _ _ n _=>n,fun b ob q _=>⟨ob,k b ob q⟩,fun _ _ q=>q,fun _ _ _ q=>q,fun _ ps q=>⟨#[],by rw [q]; simp⟩⟩
theorem Un.refl:Un fs ex H H h h:=Un.kept fun _ _ q=>q
theorem Un.laid (k:∀ b u,h.get? b = some u -> h'.get? b = some u) (hp:h.objs.size <= a) (hn:H a = none):Un fs ex H (upd H a o) h h' where
 keep:=fun b u q _ _ _=>k b u q
 slot:=fun b u q _ _ _=>⟨u.slots,k b u q⟩
 free:=fun b u q n _=>by rw [aQ (Nat.ne_of_lt (Nat.lt_of_lt_of_le (Heap.lt_size q) hp))]; exact n
 there:=fun b u q _=>⟨u,k b u q⟩
 tups:=fun b xs q=>by rw [aQ (ak q hn)]; exact q
 frzs:=fun b u xs q=>by rw [aQ (ak q hn)]; exact q
 tbls:=fun b ps q=>⟨#[],by rw [aQ (ak q hn),q]; simp⟩
theorem Un.write (mu:FI (H x)) (he:e = x \/ H e = some (.own x)) (k:∀ b u,b ≠ e -> h.get? b = some u -> h'.get? b = some u) (heo:∃ u,h'.get? e = some u):Un fs ex H (upd H x o) h h':=by
 have hx:∀ b,H b = none -> b ≠ x:=fun b n z=>by subst z; rw [n] at mu; exact mu
 have hb:∀ b,H b = none -> b ≠ e:=fun b n z=>by
  subst z
  rcases he with r | r
  ·exact hx b n r
  ·rw [n] at r; cases r
 have hm:∀ b u,H b = some u -> ¬ FI (some u) -> b ≠ x:=fun b u q nm z=>by subst z; rw [q] at mu; exact nm mu
 refine ⟨fun b u q n _ _=>k b u (hb b n) q,fun b u q n _ _=>⟨u.slots,k b u (hb b n) q⟩,fun b u q n _=>by rw [aQ (hx b n)]; exact n,fun b u q _=>?_,
  fun b xs q=>by rw [aQ (hm b _ q fun z=>z)]; exact q,fun b u xs q=>by rw [aQ (hm b _ q fun z=>z)]; exact q,fun b ps q=>⟨#[],by rw [aQ (hm b _ q fun z=>z),q]; simp⟩⟩
 by_cases hbe:b = e
 ·subst hbe; exact heo
 ·exact ⟨u,k b u hbe q⟩
end
def FT (h:Heap) (H:Hp):List Addr:=(List.range h.objs.size).filter fun a=>(H a).isSome
def mO (h:Heap) (H:Hp):Heap:=PySem.W.hideAll h (FT h H)
theorem vR (h:Heap) (H:Hp):(mO h H).objs.size = h.objs.size:=PySem.W.hideAll_size _ _
theorem xj {h:Heap} {H:Hp} {b:Addr} {o:Obj} (e:h.get? b = some o) (n:H b = none):(mO h H).get? b = some o :=
 PySem.W.hideAll_get _ e fun hm=>by
  have q:(H b).isSome = true:=(List.mem_filter.mp hm).2
  rw [n] at q; simp at q
theorem Bw {h:Heap} {H:Hp} {b:Addr} {o:Obj} (e:(mO h H).get? b = some o):h.get? b = some o /\ H b = none:=by
 have e':h.get? b = some o:=PySem.W.of_hideAll (FT h H) e
 refine ⟨e',?_⟩
 cases q:H b with
 | none=>rfl
 | some x =>
  have hm:b ∈ FT h H:=List.mem_filter.mpr ⟨List.mem_range.mpr (Heap.lt_size e'),by simp [q]⟩
  have z:(mO h H).get? b = none:=PySem.W.hideAll_none (FT h H) hm
  rw [z] at e; cases e
def zH (g h:Heap) (L:Addr):List (Addr × Obj):=(List.range h.objs.size).filterMap fun a=>if a = L \/ (g.get? a).isSome = true then none else (h.get? a).map fun o=>(a,o)
def fB (g h:Heap) (L d:Addr):List (Addr × Obj):=(zH g h L).filter fun p=>decide (p.1 ≠ d)
end L2
namespace L2
open PySem PySem.Spec PyProof.Rows
structure Mod (K:PySem.W.Frag) (mg:Str -> Option Value) (base:Heap):Prop where
 kin:K.In base
 glob:base.Ns mainGlobals mg
 blt:∃ mb,base.Ns builtinsNs mb /\ ∀ x:Str,x ≠ "__name__" -> mb x = bootBuiltins x
 nolimit:base.NoLimit
structure Cx where
 prog:Program
 w:World
 K:PySem.W.Frag
 mg:Str -> Option Value
 base:Heap
 A:Around
 N:List Str
 s₀:Shared
 H₀:Hp
 env:Env
 outer:List Env
 stack:List Env
 ex:List Addr
 fn:Str -> Bool
 calm:Bool
 pn:List (Addr × Obj)
 xe:Value -> Shared -> Prop
def gD (l:List Env):List Addr:=l.filterMap (·.frame)
abbrev Cx.fs (X:Cx):List Addr:=gD X.outer
def Dy (sc:Scope) (x:Str):Prop:=sc.names.lookup x = some .local \/ sc.names.lookup x = some .cell \/ sc.names.lookup x = some .free
def zw (sc:Scope) (x:Str):Prop:=sc.names.lookup x = some .local \/ sc.names.lookup x = some .cell
def Fv (env:Env) (h:Heap) (m:Str -> Option Value) (x:Str) (u:Value):Prop :=
 (env.kindOf x = some .local /\ m x = some u) \/ ((env.kindOf x = some .cell \/ env.kindOf x = some .free) /\ ∃ c,env.cells.lookup x = some c /\ h.IsCell c (some u))
structure Cx.Ok (X:Cx):Prop where
 mod:Mod X.K X.mg X.base
 kind:X.env.scope.kind = .function
 glob:X.env.globals = mainGlobals
 blt:X.env.builtins = builtinsNs
 above:X.s₀.heap.objs.size <= X.env.locals
 inj:∀ x y c,X.env.cells.lookup x = some c -> X.env.cells.lookup y = some c -> x = y
 has:∀ x,(X.env.kindOf x = some .cell \/ X.env.kindOf x = some .free) -> ∃ c,X.env.cells.lookup x = some c
 cab:∀ x c,X.fn x = true -> X.env.cells.lookup x = some c -> X.s₀.heap.objs.size <= c
 hd:X.calm = true -> X.A.handled = none
 frames:X.A.frames = some X.stack
 stk:X.stack = X.outer \/ (X.stack = X.env :: X.outer /\ X.env.frame = some X.env.locals)
 exf:∀ b ∈ X.ex,b ≠ X.env.locals /\ ∀ x c,X.env.cells.lookup x = some c -> c ≠ b
 bs:∀ b o,X.base.get? b = some o -> X.s₀.heap.get? b = some o /\ X.H₀ b = none
 bsz:X.base.objs.size <= X.s₀.heap.objs.size
 noex:∀ b o,X.base.get? b = some o -> b ∉ X.ex
 exfs:∀ b ∈ X.ex,b ∉ X.fs
 funs:X.s₀.heap.FunFrames X.base X.outer
 frf:∀ b ∈ X.fs,X.H₀ b = none
structure aG (X:Cx) (pins:List (Addr × Obj)) (σ:List (Option V)) (H:Hp) (s:Shared):Prop where
 ok:X.Ok
 os:s.os = X.s₀.os
 bare:AllBare s.gens
 base:Un X.fs X.ex X.H₀ H X.s₀.heap s.heap
 loc:∃ m,s.heap.Ns X.env.locals m /\ ∀ (i:Nat) (x:Str) (v:V),X.N[i]? = some x -> σ[i]? = some (some v) -> Dy X.env.scope x -> ∃ u,bO v u /\ Fv X.env s.heap m x u
 cell:∀ x c,X.env.cells.lookup x = some c -> ∃ v,s.heap.IsCell c v
 free:H X.env.locals = none
 freeC:∀ x c,X.env.cells.lookup x = some c -> H c = none
 pin:∀ p ∈ X.pn ++ pins,s.heap.get? p.1 = some p.2 /\ H p.1 = none /\ p.1 ≠ X.env.locals /\ p.1 ∉ X.fs /\ ∀ v,p.2.data ≠ .cell v
 hok:kg X.prog X.w H s.heap
 len:σ.length = X.N.length
section
variable {X:Cx} {pins:List (Addr × Obj)} {σ:List (Option V)} {H H':Hp} {s:Shared} {h':Heap}
theorem Cx.Ok.nofr (ok:X.Ok) {b:Addr} {o:Obj} (e:X.base.get? b = some o):b ∉ X.fs:=fun hb=>by
 have:=(ok.funs.mem hb).1
 rw [e] at this; cases this
theorem aG.bs (I:aG X pins σ H s):∀ b o,X.base.get? b = some o -> s.heap.get? b = some o /\ H b = none:=fun b o e =>
 ⟨I.base.keep b o (I.ok.bs b o e).1 (I.ok.bs b o e).2 (I.ok.nofr e) (I.ok.noex b o e),I.base.free b o (I.ok.bs b o e).1 (I.ok.bs b o e).2 (I.ok.noex b o e)⟩
theorem aG.bk (I:aG X pins σ H s):∀ b o,X.base.get? b = some o -> s.heap.get? b = some o:=fun b o e=>(I.bs b o e).1
theorem aG.mod (I:aG X pins σ H s):Mod X.K X.mg X.base:=I.ok.mod
theorem aG.kIn (I:aG X pins σ H s):X.K.In s.heap:=I.ok.mod.kin.keeps I.bk
theorem aG.nolimit (I:aG X pins σ H s):s.heap.NoLimit:=I.ok.mod.nolimit.keeps I.bk
theorem aG.lt (I:aG X pins σ H s):X.env.locals < s.heap.objs.size:=let ⟨_,hn,_⟩:=I.loc; hn.lt
theorem aG.sz (I:aG X pins σ H s):X.s₀.heap.objs.size <= s.heap.objs.size:=Nat.le_trans I.ok.above (Nat.le_of_lt I.lt)
theorem aG.nofs (I:aG X pins σ H s) {a:Addr} (h:s.heap.objs.size <= a):a ∉ X.fs:=fun hb=>by
 obtain ⟨_,o,ho,_⟩:=I.ok.funs.mem hb
 exact absurd (Nat.lt_of_lt_of_le (Heap.lt_size ho) (Nat.le_trans I.sz h)) (Nat.lt_irrefl _)
theorem aG.cne (I:aG X pins σ H s):∀ x c,X.env.cells.lookup x = some c -> c ≠ X.env.locals:=fun x c e z=>by
 obtain ⟨v,o,ho,hd⟩:=I.cell x c e
 obtain ⟨m,⟨o',es,ep,ho',hd',_⟩,_⟩:=I.loc
 rw [z,ho'] at ho; cases ho; rw [hd'] at hd; cases hd
theorem aG.funs (I:aG X pins σ H s):s.heap.FunFrames X.base X.outer:=by
 have all:∀ (l:List Env),(∀ b ∈ gD l,b ∈ X.fs) -> X.s₀.heap.FunFrames X.base l -> s.heap.FunFrames X.base l:=by
  intro l
  induction l with
  | nil=>intro _ _; trivial
  | cons env r ih =>
   intro hs hl
   obtain ⟨hk,⟨L,o,hf,hn,ho,hd⟩,hr⟩:=hl
   have hL:L ∈ X.fs:=hs L (by unfold gD; rw [List.filterMap_cons,hf]; exact List.mem_cons_self)
   obtain ⟨sl,e⟩:=I.base.slot L o ho (I.ok.frf L hL) hL fun z=>I.ok.exfs L z hL
   exact ⟨hk,⟨L,_,hf,hn,e,hd⟩,ih (fun b hb=>hs b (by unfold gD; rw [List.filterMap_cons,hf]; exact List.mem_cons_of_mem _ hb)) hr⟩
 exact all X.outer (fun _ hb=>hb) I.ok.funs
theorem aG.stack (I:aG X pins σ H s):s.heap.FunFrames X.base X.stack:=by
 rcases I.ok.stk with e | ⟨e,hf⟩
 ·rw [e]; exact I.funs
 ·rw [e]
  obtain ⟨m,hn,_⟩:=I.loc
  refine .cons (by rw [I.ok.kind]; decide) hf hn ?_ I.funs
  exact Heap.get?_none_of_le (Nat.le_trans I.ok.bsz I.ok.above)
theorem aG.stkSub (I:aG X pins σ H s):∀ b ∈ gD X.stack,b ∈ X.env.locals :: X.fs:=fun b hb=>by
 rcases I.ok.stk with e | ⟨e,hf⟩
 ·rw [e] at hb; exact List.mem_cons_of_mem _ hb
 ·rw [e] at hb
  unfold gD at hb
  rw [List.filterMap_cons,hf] at hb
  exact hb
theorem aG.stkFree (I:aG X pins σ H s):∀ b ∈ gD X.stack,H b = none:=fun b hb=>by
 rcases List.mem_cons.mp (I.stkSub b hb) with e | hb
 ·rw [e]; exact I.free
 ·obtain ⟨_,o,ho,_⟩:=I.ok.funs.mem hb
  exact I.base.free b o ho (I.ok.frf b hb) fun z=>I.ok.exfs b z hb
theorem aG.step {g':Array GenState} {t':Nat} {d':Drawn} {ch:List Addr} (I:aG X pins σ H s)
  (hch:∀ b ∈ ch,(b ∈ X.ex \/ X.s₀.heap.objs.size <= b) /\ b ≠ X.env.locals /\ (∀ x c,X.env.cells.lookup x = some c -> c ≠ b) /\ ∀ p ∈ X.pn ++ pins,p.1 ≠ b)
  (keep:∀ b o,b ≠ X.env.locals -> b ∉ X.fs -> b ∉ ch -> s.heap.get? b = some o -> H b = none -> h'.get? b = some o)
  (slot:∀ b o,b ≠ X.env.locals -> b ∈ X.fs -> b ∉ ch -> s.heap.get? b = some o -> H b = none -> ∃ sl,h'.get? b = some { o with slots:=sl }) (free:∀ b o,b ∉ ch -> s.heap.get? b = some o -> H b = none -> H' b = none)
  (there:∀ b o,b ∉ ch -> s.heap.get? b = some o -> ∃ o',h'.get? b = some o')
  (tups:∀ b xs,H b = some (.tup xs) -> H' b = some (.tup xs)) (frzs:∀ b o u,H b = some (.frz o u) -> H' b = some (.frz o u)) (tbls:∀ b ps,H b = some (.tbl ps) -> ∃ more,H' b = some (.tbl (ps ++ more)))
  (ns:∀ m,s.heap.Ns X.env.locals m -> h'.Ns X.env.locals m) (hok:kg X.prog X.w H' h') (hg:AllBare g') :
  aG X pins σ H' { s with heap:=h',gens:=g',drawn:=d',toks:=t' }:=by
 have neL:∀ b o,X.s₀.heap.get? b = some o -> b ≠ X.env.locals:=fun b o e=>Nat.ne_of_lt (Nat.lt_of_lt_of_le (Heap.lt_size e) I.ok.above)
 have neC:∀ b o,X.s₀.heap.get? b = some o -> b ∉ X.ex -> b ∉ ch:=fun b o e hx hb=>by
  rcases (hch b hb).1 with z | z
  ·exact hx z
  ·exact absurd (Nat.lt_of_lt_of_le (Heap.lt_size e) z) (Nat.lt_irrefl _)
 have cellK:∀ x c,X.env.cells.lookup x = some c -> ∀ v,s.heap.IsCell c v -> h'.IsCell c v:=fun x c e v ⟨o,ho,hd⟩=>by
  have nch:c ∉ ch:=fun z=>(hch c z).2.2.1 x c e rfl
  by_cases hc:c ∈ X.fs
  ·obtain ⟨sl,q⟩:=slot c o (I.cne x c e) hc nch ho (I.freeC x c e)
   exact ⟨_,q,hd⟩
  ·exact ⟨o,keep c o (I.cne x c e) hc nch ho (I.freeC x c e),hd⟩
 refine ⟨I.ok,I.os,hg,⟨fun b o e n hb hx=>?_,fun b o e n hb hx=>?_,fun b o e n hx=>?_,fun b o e hx=>?_,fun b xs e=>tups b xs (I.base.tups b xs e),fun b o xs e=>frzs b o xs (I.base.frzs b o xs e),fun b ps e=>?_⟩,?_,fun x c e=>?_,?_,fun x c e=>?_,fun p hp=>?_,hok,I.len⟩
 ·exact keep b o (neL b o e) hb (neC b o e hx) (I.base.keep b o e n hb hx) (I.base.free b o e n hx)
 ·obtain ⟨sl,e1⟩:=I.base.slot b o e n hb hx
  obtain ⟨sl',e2⟩:=slot b _ (neL b o e) hb (neC b o e hx) e1 (I.base.free b o e n hx)
  exact ⟨sl',e2⟩
 ·obtain ⟨o',e1⟩:=I.base.there b o e hx
  exact free b o' (neC b o e hx) e1 (I.base.free b o e n hx)
 ·obtain ⟨o',e1⟩:=I.base.there b o e hx
  exact there b o' (neC b o e hx) e1
 ·obtain ⟨m1,e1⟩:=I.base.tbls b ps e
  obtain ⟨m2,e2⟩:=tbls b _ e1
  exact ⟨m1 ++ m2,by rw [e2,Array.append_assoc]⟩
 ·obtain ⟨m,hn,hl⟩:=I.loc
  refine ⟨m,ns m hn,fun i x v e1 e2 e3=>?_⟩
  obtain ⟨u,r,l⟩:=hl i x v e1 e2 e3
  refine ⟨u,r,?_⟩
  rcases l with l | ⟨k,c,e,z⟩
  ·exact .inl l
  ·exact .inr ⟨k,c,e,cellK x c e _ z⟩
 ·obtain ⟨v,z⟩:=I.cell x c e
  exact ⟨v,cellK x c e v z⟩
 ·obtain ⟨m,⟨o,_,_,ho,_⟩,_⟩:=I.loc
  exact free _ o (fun z=>(hch _ z).2.1 rfl) ho I.free
 ·obtain ⟨v,o,ho,hd⟩:=I.cell x c e
  exact free c o (fun z=>(hch c z).2.2.1 x c e rfl) ho (I.freeC x c e)
 ·obtain ⟨e,n,ne,nf,d⟩:=I.pin p hp
  have nch:p.1 ∉ ch:=fun z=>(hch p.1 z).2.2.2 p hp rfl
  exact ⟨keep p.1 p.2 ne nf nch e n,free p.1 p.2 nch e n,ne,nf,d⟩
theorem aG.un {t':Nat} (I:aG X pins σ H s) (u:Un X.fs [] H H' s.heap h') (hok:kg X.prog X.w H' h'):aG X pins σ H' { s with heap:=h',toks:=t' }:=by
 obtain ⟨m,⟨o,es,ep,ho,r⟩,_⟩:=id I.loc
 obtain ⟨sl,hL⟩:=u.any ho I.free (by simp)
 exact I.step (g':=s.gens) (d':=s.drawn) (ch:=[]) (fun _ z=>nomatch z) (fun b o _ hb _ e n=>u.keep b o e n hb (by simp)) (fun b o _ hb _ e n=>u.slot b o e n hb (by simp)) (fun b o _ e n=>u.free b o e n (by simp)) (fun b o _ e=>u.there b o e (by simp)) u.tups u.frzs u.tbls (fun m' hm=>by
  obtain ⟨o',es',ep',ho',r'⟩:=hm
  rw [ho] at ho'; cases ho'
  exact ⟨_,es',ep',hL,r'⟩) hok I.bare
theorem aG.call {g':Array GenState} {t':Nat} {d':Drawn} {ch:List Addr} (I:aG X pins σ H s) (u:Un (gD X.stack) ch H H' s.heap h') (hok:kg X.prog X.w H' h') (hg:AllBare g')
  (hch:∀ b ∈ ch,(b ∈ X.ex \/ X.s₀.heap.objs.size <= b) /\ b ≠ X.env.locals /\ (∀ x c,X.env.cells.lookup x = some c -> c ≠ b) /\ ∀ p ∈ X.pn ++ pins,p.1 ≠ b) :
  aG X pins σ H' { s with heap:=h',gens:=g',drawn:=d',toks:=t' }:=by
 obtain ⟨m,⟨o,es,ep,ho,r⟩,_⟩:=id I.loc
 obtain ⟨sl,hL⟩:=u.any ho I.free fun z=>(hch _ z).2.1 rfl
 exact I.step (ch:=ch) hch (fun b o hL hb hc e n=>u.keep b o e n (fun z=>(List.mem_cons.mp (I.stkSub b z)).elim hL hb) hc) (fun b o _ _ hc e n=>u.any e n hc) (fun b o hc e n=>u.free b o e n hc) (fun b o hc e=>u.there b o e hc) u.tups u.frzs u.tbls (fun m' hm=>by
  obtain ⟨o',es',ep',ho',r'⟩:=hm
  rw [ho] at ho'; cases ho'
  exact ⟨_,es',ep',hL,r'⟩) hok hg
theorem aG.turned {t':Nat} {it:Addr} (I:aG X pins σ H s) (k:∀ b o,b ≠ it -> s.heap.get? b = some o -> h'.get? b = some o) (hn:H it = none) (hL:it ≠ X.env.locals)
  (h1:it ∈ X.ex \/ X.s₀.heap.objs.size <= it) (h2:∀ x c,X.env.cells.lookup x = some c -> c ≠ it) (h3:∀ p ∈ X.pn ++ pins,p.1 ≠ it):aG X pins σ H { s with heap:=h',toks:=t' }:=by
 have nit:∀ b u,H b = some u -> b ≠ it:=fun b u e z=>by rw [z,hn] at e; cases e
 refine I.step (g':=s.gens) (d':=s.drawn) (ch:=[it]) (fun b hb=>?_) (fun b o _ _ hc e _=>k b o (fun z=>hc (by simp [z])) e) (fun b o _ _ hc e _=>⟨o.slots,k b o (fun z=>hc (by simp [z])) e⟩) (fun _ _ _ _ n=>n)
  (fun b o hc e=>⟨o,k b o (fun z=>hc (by simp [z])) e⟩) (fun _ _ e=>e) (fun _ _ _ e=>e) (fun b ps e=>⟨#[],by rw [e]; simp⟩) (fun m hm=>?_) (fun b u e=>?_) I.bare
 ·have e:b = it:=by simpa using hb
  subst e
  exact ⟨h1,hL,h2,h3⟩
 ·obtain ⟨o,es,ep,ho,r⟩:=hm
  exact ⟨o,es,ep,k _ o (Ne.symm hL) ho,r⟩
 ·refine (I.hok b u e).stay (fun c v hc q=>k c v ?_ q) (fun _ q=>q) fun _ _ q=>q
  rcases hc with z | z
  ·rw [z]; exact nit b u e
  ·exact nit c _ z
theorem aG.tok (I:aG X pins σ H s) (t:Nat):aG X pins σ H { s with toks:=t }:=I.un (h':=s.heap) (t':=t) Un.refl I.hok
theorem aG.kept {t':Nat} (I:aG X pins σ H s) (k:∀ b u,s.heap.get? b = some u -> h'.get? b = some u):aG X pins σ H { s with heap:=h',toks:=t' }:=I.un (Un.kept k) (I.hok.kept k)
theorem aG.laid {a:Addr} {o:HO} {t':Nat} (I:aG X pins σ H s) (k:∀ b u,s.heap.get? b = some u -> h'.get? b = some u) (hp:s.heap.objs.size <= a) (new:dz X.prog X.w (upd H a o) h' a o) :
  aG X pins σ (upd H a o) { s with heap:=h',toks:=t' }:=I.un (Un.laid k hp (I.hok.fresh hp)) (I.hok.laid k hp new)
theorem aG.write {x e:Addr} {o:HO} {t':Nat} (I:aG X pins σ H s) (mu:FI (H x)) (he:e = x \/ H e = some (.own x)) (k:∀ b u,b ≠ e -> s.heap.get? b = some u -> h'.get? b = some u) (heo:∃ u,h'.get? e = some u)
  (new:dz X.prog X.w (upd H x o) h' x o):aG X pins σ (upd H x o) { s with heap:=h',toks:=t' }:=I.un (Un.write mu he k heo) (I.hok.write mu he k heo new)
theorem aG.pins_of {pins':List (Addr × Obj)} (I:aG X pins σ H s) (h:∀ p ∈ pins',s.heap.get? p.1 = some p.2 /\ H p.1 = none /\ p.1 ≠ X.env.locals /\ p.1 ∉ X.fs /\ ∀ v,p.2.data ≠ .cell v):aG X pins' σ H s :=
 ⟨I.ok,I.os,I.bare,I.base,I.loc,I.cell,I.free,I.freeC,fun p hp=>(List.mem_append.mp hp).elim (fun z=>I.pin p (List.mem_append_left _ z)) (h p),I.hok,I.len⟩
theorem su {N:List Str} (hN:N.Nodup) {i j:Nat} {x:Str} (a:N[i]? = some x) (b:N[j]? = some x):i = j:=by
 obtain ⟨h1,e1⟩:=List.getElem?_eq_some_iff.mp a
 obtain ⟨h2,e2⟩:=List.getElem?_eq_some_iff.mp b
 exact (List.getElem_inj hN).mp (e1.trans e2.symm)
theorem pM {M:Model} {A:Around} {E:Value -> Shared -> Prop} {i:Nat} {x:Str} {v:V} {u:Value} {Q:Unit -> Shared -> Prop} (I:aG X pins σ H s) (hN:X.N.Nodup) (hi:X.N[i]? = some x) (hx:zw X.env.scope x) (r:bO v u)
  (h:∀ s',aG X pins (σ.set i (some v)) H s' -> (∃ a,Heap.SameBut a s.heap s'.heap /\ (a = X.env.locals \/ X.env.cells.lookup x = some a)) -> Q () s') (hf:X.fn x = true \/ X.env.scope.names.lookup x = some .local:=by first | exact .inl rfl | exact .inr rfl | assumption):wpAny M A (storeName X.env x u) Q E s:=by
 obtain ⟨m,hn,hl⟩:=id I.loc
 have hcls:(X.env.scope.kind == .class || (X.env.scope.kind == .module && X.env.locals != X.env.globals)) = false:=by rw [I.ok.kind]; rfl
 have hiσ:i < σ.length:=by rw [I.len]; exact (List.getElem?_eq_some_iff.mp hi).1
 have cne:=I.cne
 have tracked:∀ {a:Addr} {h':Heap},(∃ o,s.heap.get? a = some o /\ H a = none) -> Heap.SameBut a s.heap h' -> kg X.prog X.w H h':=fun {a h'} ha hs b ob e=>by
  obtain ⟨_,_,hfree⟩:=ha
  refine (I.hok b ob e).stay (fun c w' hc q=>(hs.2 c ?_).trans q) (fun _ q=>q) fun _ _ q=>q
  rintro rfl
  rcases hc with rfl | hc
  ·rw [hfree] at e; cases e
  ·rw [hfree] at hc; cases hc
 rcases hx with hk | hk
 ·refine wpAny_storeName_local hk hn (fun h' hn' hs=>?_) hcls
  obtain ⟨oL,_,_,hoL,_⟩:=id hn
  refine h _ ⟨I.ok,I.os,I.bare,⟨fun b o e n hb hx=>?_,fun b o e n hb hx=>?_,I.base.free,fun b o e hx=>?_,I.base.tups,I.base.frzs,I.base.tbls⟩,⟨_,hn',fun j y v' e1 e2 e3=>?_⟩,fun y c e=>?_,I.free,I.freeC,fun p hp=>?_,tracked ⟨oL,hoL,I.free⟩ hs,by simpa using I.len⟩ ⟨_,hs,.inl rfl⟩
  ·exact (hs.2 b (Nat.ne_of_lt (Nat.lt_of_lt_of_le (Heap.lt_size e) I.ok.above))).trans (I.base.keep b o e n hb hx)
  ·obtain ⟨sl,e1⟩:=I.base.slot b o e n hb hx
   exact ⟨sl,(hs.2 b (Nat.ne_of_lt (Nat.lt_of_lt_of_le (Heap.lt_size e) I.ok.above))).trans e1⟩
  ·obtain ⟨o',e1⟩:=I.base.there b o e hx
   exact ⟨o',(hs.2 b (Nat.ne_of_lt (Nat.lt_of_lt_of_le (Heap.lt_size e) I.ok.above))).trans e1⟩
  ·by_cases hj:j = i
   ·subst hj
    rw [hi] at e1; cases e1
    rw [List.getElem?_set_self hiσ] at e2
    cases e2
    exact ⟨u,r,.inl ⟨hk,by simp⟩⟩
   ·rw [List.getElem?_set_ne (Ne.symm hj)] at e2
    obtain ⟨u',r',q⟩:=hl j y v' e1 e2 e3
    refine ⟨u',r',?_⟩
    rcases q with ⟨k,e⟩ | ⟨k,c,e,z⟩
    ·refine .inl ⟨k,?_⟩
     have:y ≠ x:=fun e=>hj (su hN e1 (e ▸ hi))
     simp [this,e]
    ·exact .inr ⟨k,c,e,z.sameBut hs (cne y c e)⟩
  ·obtain ⟨w',z⟩:=I.cell y c e
   exact ⟨w',z.sameBut hs (cne y c e)⟩
  ·obtain ⟨e,n,ne,nf,d⟩:=I.pin p hp
   exact ⟨(hs.2 p.1 ne).trans e,n,ne,nf,d⟩
 ·have hfn:X.fn x = true:=by
   rcases hf with z | z
   ·exact z
   ·rw [z] at hk; cases hk
  obtain ⟨c,hc⟩:=I.ok.has x (.inl hk)
  obtain ⟨w',z⟩:=I.cell x c hc
  refine wpAny_storeName_cell I.ok.kind hk hc z (fun h' hc' hs=>?_)
  obtain ⟨oc,hoc,hocd⟩:=id z
  refine h { s with heap:=h' } ⟨I.ok,I.os,I.bare,⟨fun b o e n hb hx=>?_,fun b o e n hb hx=>?_,I.base.free,fun b o e hx=>?_,I.base.tups,I.base.frzs,I.base.tbls⟩,⟨m,hn.sameBut hs (Ne.symm (cne x c hc)),fun j y v' e1 e2 e3=>?_⟩,fun y c' e=>?_,I.free,I.freeC,fun p hp=>?_,tracked ⟨oc,hoc,I.freeC x c hc⟩ hs,by simpa using I.len⟩ ⟨c,hs,.inr hc⟩
  ·exact (hs.2 b (Nat.ne_of_lt (Nat.lt_of_lt_of_le (Heap.lt_size e) (I.ok.cab x c hfn hc)))).trans (I.base.keep b o e n hb hx)
  ·obtain ⟨sl,e1⟩:=I.base.slot b o e n hb hx
   exact ⟨sl,(hs.2 b (Nat.ne_of_lt (Nat.lt_of_lt_of_le (Heap.lt_size e) (I.ok.cab x c hfn hc)))).trans e1⟩
  ·obtain ⟨o',e1⟩:=I.base.there b o e hx
   exact ⟨o',(hs.2 b (Nat.ne_of_lt (Nat.lt_of_lt_of_le (Heap.lt_size e) (I.ok.cab x c hfn hc)))).trans e1⟩
  ·by_cases hj:j = i
   ·subst hj
    rw [hi] at e1; cases e1
    rw [List.getElem?_set_self hiσ] at e2
    cases e2
    exact ⟨u,r,.inr ⟨.inl hk,c,hc,hc'⟩⟩
   ·rw [List.getElem?_set_ne (Ne.symm hj)] at e2
    obtain ⟨u',r',q⟩:=hl j y v' e1 e2 e3
    refine ⟨u',r',?_⟩
    rcases q with q | ⟨k,c',e,z'⟩
    ·exact .inl q
    ·refine .inr ⟨k,c',e,z'.sameBut hs ?_⟩
     rintro rfl
     exact hj (su hN e1 (I.ok.inj _ _ _ e hc ▸ hi))
  ·by_cases hcc:c' = c
   ·subst hcc; exact ⟨_,hc'⟩
   ·obtain ⟨w2,z2⟩:=I.cell y c' e
    exact ⟨w2,z2.sameBut hs hcc⟩
  ·obtain ⟨e,n,ne,nf,d⟩:=I.pin p hp
   refine ⟨(hs.2 p.1 ?_).trans e,n,ne,nf,d⟩
   intro q
   rw [q,hoc] at e
   have q':oc = p.2:=Option.some.inj e
   exact d w' (by rw [<- q']; exact hocd)
theorem gy {M:Model} {A:Around} {E:Value -> Shared -> Prop} {i:Nat} {x:Str} {v:V} {u:Value} {Q:Unit -> Shared -> Prop} (I:aG X pins σ H s) (hN:X.N.Nodup) (hi:X.N[i]? = some x) (hx:zw X.env.scope x) (r:bO v u)
  (h:∀ s',aG X pins (σ.set i (some v)) H s' -> Q () s') (hf:X.fn x = true \/ X.env.scope.names.lookup x = some .local:=by first | exact .inl rfl | exact .inr rfl | assumption):wpAny M A (storeName X.env x u) Q E s :=
 pM I hN hi hx r (fun s' I' _=>h s' I') hf
theorem aG.call' {s':Shared} {ch:List Addr} (I:aG X pins σ H s) (ho:s'.os = s.os) (u:Un (gD X.stack) ch H H' s.heap s'.heap) (hok:kg X.prog X.w H' s'.heap) (hg:AllBare s'.gens)
  (hch:∀ b ∈ ch,(b ∈ X.ex \/ X.s₀.heap.objs.size <= b) /\ b ≠ X.env.locals /\ (∀ x c,X.env.cells.lookup x = some c -> c ≠ b) /\ ∀ p ∈ X.pn ++ pins,p.1 ≠ b):aG X pins σ H' s':=by
 obtain ⟨h',g',d',t',o'⟩:=s'
 have e:o' = s.os:=ho
 subst e
 exact I.call (g':=g') (t':=t') (d':=d') u hok hg hch
end
abbrev XK:=Value -> Option Addr -> Hp -> Prop
abbrev St:=List (Option V)
abbrev VK:=V -> Hp -> Prop
abbrev TE:=St -> Hp -> VK -> Prop
abbrev TT:=St -> Hp -> (Bool -> Hp -> Prop) -> Prop
abbrev TA:=St -> Hp -> (List V -> Hp -> Prop) -> Prop
structure kP where
 nx:St -> Hp -> Prop
 rt:VK
 bk:St -> Hp -> Prop:=fun _ _=>False
 ct:St -> Hp -> Prop:=fun _ _=>False
abbrev TS:=kP -> St -> Hp -> Prop
def EP (X:Cx) (pins:List (Addr × Obj)) (σ:St) (Q:VK) (u:Value) (s':Shared):Prop:=∃ v H',aG X pins σ H' s' /\ bO v u /\ Q v H'
def TP (X:Cx) (pins:List (Addr × Obj)) (σ:St) (Q:Bool -> Hp -> Prop) (b:Bool) (s':Shared):Prop:=∃ H',aG X pins σ H' s' /\ Q b H'
def AP (X:Cx) (pins:List (Addr × Obj)) (σ:St) (Q:List V -> Hp -> Prop) (us:List Value) (s':Shared):Prop:=∃ vs H',aG X pins σ H' s' /\ aX vs us /\ Q vs H'
def SP (X:Cx) (pins:List (Addr × Obj)) (D:kP) (f:Flow) (s':Shared):Prop :=
 match f with
 | .next=>∃ σ' H',aG X pins σ' H' s' /\ D.nx σ' H'
 | .brk=>∃ σ' H',aG X pins σ' H' s' /\ D.bk σ' H'
 | .cont=>∃ σ' H',aG X pins σ' H' s' /\ D.ct σ' H'
 | .ret u=>∃ v σ' H',aG X pins σ' H' s' /\ bO v u /\ D.rt v H'
def PE (X:Cx) (e:Expr) (t:TE):Prop :=
 ∀ (pins:List (Addr × Obj)) (s:Shared) (σ:St) (H:Hp) (Q:VK),aG X pins σ H s -> t σ H Q -> wpAny (model X.prog X.w) X.A (eval e X.env) (EP X pins σ Q) X.xe s
def PT (X:Cx) (e:Expr) (t:TT):Prop :=
 ∀ (pins:List (Addr × Obj)) (s:Shared) (σ:St) (H:Hp) (Q:Bool -> Hp -> Prop),aG X pins σ H s -> t σ H Q -> wpAny (model X.prog X.w) X.A (isTrue e X.env (eval e X.env)) (TP X pins σ Q) X.xe s
def PW (X:Cx) (e:Expr) (t:TT):Prop :=
 ∀ (whole:Sem Value) (pins:List (Addr × Obj)) (s:Shared) (σ:St) (H:Hp) (Q:Bool -> Hp -> Prop),aG X pins σ H s -> t σ H Q -> wpAny (model X.prog X.w) X.A (isTrue e X.env whole) (TP X pins σ Q) X.xe s
theorem PW.pt {X:Cx} {e:Expr} {t:TT} (h:PW X e t):PT X e t:=h _
def PA (X:Cx) (es:List Expr) (t:TA):Prop :=
 ∀ (pos:Pos) (pins:List (Addr × Obj)) (s:Shared) (σ:St) (H:Hp) (Q:List V -> Hp -> Prop),aG X pins σ H s -> t σ H Q -> wpAny (model X.prog X.w) X.A (spliced (backTo pos (starEach es X.env))) (AP X pins σ Q) X.xe s
def PS (X:Cx) (st:Stmt) (t:TS):Prop :=
 ∀ (pins:List (Addr × Obj)) (s:Shared) (σ:St) (H:Hp) (D:kP),aG X pins σ H s -> t D σ H -> wpAny (model X.prog X.w) X.A (exec st X.env) (SP X pins D) X.xe s
def qD (X:Cx) (st:List Stmt) (t:TS):Prop :=
 ∀ (pins:List (Addr × Obj)) (s:Shared) (σ:St) (H:Hp) (D:kP),aG X pins σ H s -> t D σ H -> wpAny (model X.prog X.w) X.A (execs st X.env) (SP X pins D) X.xe s
theorem cI {α:Type} {t:Sem α} {Q Q':α -> Shared -> Prop} {M:Model} {A:Around} {E:Value -> Shared -> Prop} {s:Shared} (h:wpAny M A t Q E s) (hQ:∀ a s,Q a s -> Q' a s):wpAny M A t Q' E s:=wpAny_mono h hQ fun _ _ x=>x
end L2
namespace L2
open PySem PySem.Spec PyProof.Rows
section
variable {X:Cx}
def tVar (i:Nat):TE:=fun σ H Q=>∃ v,σ[i]? = some (some v) /\ Q v H
def tC (v:V):TE:=fun _ H Q=>Q v H
theorem yi {i:Nat} {x:Str} {pos:Pos} (hN:X.N[i]? = some x) (hv:Dy X.env.scope x) (hd:(x == ("__debug__" : Str)) = false:=by decide) (hcd:(x == ("__classdict__" : Str)) = false:=by decide):PE X (.Name x pos) (tVar i):=by
 intro pins s σ H Q I h
 obtain ⟨v,e,h⟩:=h
 obtain ⟨m,hn,hl⟩:=I.loc
 obtain ⟨u,r,l⟩:=hl i x v hN e hv
 have fin:EP X pins σ Q u s:=⟨v,H,I,r,h⟩
 rcases l with ⟨hk,hm⟩ | ⟨hk,c,hc,hcell⟩
 ·exact wpAny_Name (wpAny_loadName_local I.ok.kind hk hn hm fin) hd
 ·rcases hk with hk | hk
  ·exact wpAny_Name (wpAny_loadName_cell I.ok.kind hk hc hcell fin) hd
  ·exact wpAny_Name (wpAny_loadName_free I.ok.kind hk hc hcell fin hcd) hd
theorem DK {i j pos}:PE X (.Constant (.int i) j pos) (tC (.int i)):=fun _ _ _ H _ I h=>wpAny_Constant_int ⟨.int i,H,I.tok _,⟨_,rfl⟩,h⟩
theorem Fx {b j pos}:PE X (.Constant (.bool b) j pos) (tC (.bl b)):=fun _ _ _ H _ I h=>Constant_bool ⟨.bl b,H,I,rfl,h⟩
theorem CV {j pos}:PE X (.Constant .none j pos) (tC .non):=fun _ _ _ H _ I h=>Constant_none ⟨.non,H,I,rfl,h⟩
theorem D9 {x j pos}:PE X (.Constant (.str x) j pos) (tC (.str x)):=fun _ _ _ H _ I h=>Calls.Constant_str ⟨.str x,H,I.tok _,⟨_,rfl⟩,h⟩
def Gl (X:Cx) (x:Str):Prop:=X.env.kindOf x = some .globalImplicit
theorem iU {E:Value -> Shared -> Prop} {pins:List (Addr × Obj)} {s:Shared} {σ:St} {H:Hp} {x:Str} {u:Value} {pos:Pos} {Q:Value -> Shared -> Prop} (I:aG X pins σ H s) (hg:Gl X x) (hm:X.mg x = some u) (h:Q u s)
  (hd:(x == ("__debug__" : Str)) = false:=by decide):wpAny (model X.prog X.w) X.A (eval (.Name x pos) X.env) Q E s :=
 Calls.Name_function_global I.ok.kind hg (Calls.loadGlobal_global (by rw [I.ok.glob]; exact I.mod.glob.keeps I.bk) hm h) hd
theorem jG {E:Value -> Shared -> Prop} {pins:List (Addr × Obj)} {s:Shared} {σ:St} {H:Hp} {x:Str} {u:Value} {pos:Pos} {Q:Value -> Shared -> Prop} (I:aG X pins σ H s) (hg:Gl X x) (hm:X.mg x = none) (hv:bootBuiltins x = some u) (h:Q u s)
  (hn:x ≠ "__name__":=by decide) (hd:(x == ("__debug__" : Str)) = false:=by decide):wpAny (model X.prog X.w) X.A (eval (.Name x pos) X.env) Q E s:=by
 obtain ⟨mb,h1,h2⟩:=I.mod.blt
 exact Calls.Name_function_global I.ok.kind hg (Calls.loadGlobal_builtin (by rw [I.ok.glob]; exact I.mod.glob.keeps I.bk) hm (by rw [I.ok.blt]; exact h1.keeps I.bk) ((h2 x hn).trans hv) h) hd
theorem zV {x:Str} {v:V} {u:Value} {pos:Pos} (hg:Gl X x) (hm:X.mg x = some u) (r:bO v u) (hd:(x == ("__debug__" : Str)) = false:=by decide):PE X (.Name x pos) (tC v) :=
 fun _ _ _ H _ I h=>iU I hg hm ⟨v,H,I,r,h⟩ hd
theorem Ad {x:Str} {v:V} {u:Value} {pos:Pos} (hg:Gl X x) (hm:X.mg x = none) (hv:bootBuiltins x = some u) (r:bO v u) (hn:x ≠ "__name__":=by decide) (hd:(x == ("__debug__" : Str)) = false:=by decide):PE X (.Name x pos) (tC v) :=
 fun _ _ _ H _ I h=>jG I hg hm hv ⟨v,H,I,r,h⟩ hn hd
variable {a b:Expr} {ta tb:TE} {pos:Pos}
def tB (t:TE):TT:=fun σ H Q=>t σ H fun x H1=>∃ c,x = .bl c /\ Q c H1
theorem DT {e:Expr} {t:TE} (h:PE X e t) (he:∀ whole,isTrue e X.env whole = (do let v <- whole; standAt e.pos; holding [v] (truthy v)):=by intro _; rfl):PT X e (tB t):=by
 intro pins s σ H Q I hw
 refine isTrue_plain (cI (h pins s σ H _ I hw) fun v s1 ⟨x,H1,I1,r1,q1⟩=>?_) (he _)
 obtain ⟨d,rfl,q⟩:=q1
 cases r1
 exact wpAny_truthy_bool ⟨H1,I1,q⟩
variable {tA tB':TT} {fB:List Expr}
def Ek (t u:TT):TT:=fun σ H Q=>t σ H fun c H1=>if c = true then u σ H1 Q else Q false H1
def F8 (t u:TT):TT:=fun σ H Q=>t σ H fun c H1=>if c = true then Q true H1 else u σ H1 Q
def DB (t:TT):TT:=fun σ H Q=>t σ H fun c H1=>Q (!c) H1
theorem AO (ha:PT X a tA):PW X (.BoolOp .And [a] pos) tA:=by
 intro wh pins s σ H Q I h
 refine isTrue_and (cI (ha pins s σ H Q I h) fun c s1 e=>?_)
 cases c with
 | true=>exact isTrue_and_nil e
 | false=>exact e
theorem De (ha:PT X a tA):PW X (.BoolOp .Or [a] pos) tA:=by
 intro wh pins s σ H Q I h
 refine isTrue_or (cI (ha pins s σ H Q I h) fun c s1 e=>?_)
 cases c with
 | false=>exact isTrue_or_nil e
 | true=>exact e
theorem DN (ha:PT X a tA) (hb:PW X (.BoolOp .And (b :: fB) pos) tB'):PW X (.BoolOp .And (a :: b :: fB) pos) (Ek tA tB'):=by
 intro wh pins s σ H Q I h
 refine isTrue_and (cI (ha pins s σ H _ I h) fun c s1 ⟨H1,I1,q1⟩=>?_)
 cases c with
 | true=>exact hb wh pins s1 σ H1 Q I1 q1
 | false=>exact ⟨H1,I1,q1⟩
theorem EJ (ha:PT X a tA) (hb:PW X (.BoolOp .Or (b :: fB) pos) tB'):PW X (.BoolOp .Or (a :: b :: fB) pos) (F8 tA tB'):=by
 intro wh pins s σ H Q I h
 refine isTrue_or (cI (ha pins s σ H _ I h) fun c s1 ⟨H1,I1,q1⟩=>?_)
 cases c with
 | true=>exact ⟨H1,I1,q1⟩
 | false=>exact hb wh pins s1 σ H1 Q I1 q1
theorem DS (ha:PT X a tA):PT X (.UnaryOp .Not a pos) (DB tA):=by
 intro pins s σ H Q I h
 exact isTrue_not (ha pins s σ H (fun c H1=>Q (!c) H1) I h)
def uK (ta tb:TE):TE:=fun σ H Q=>ta σ H fun x H1=>∃ c,x = .bl c /\ if c = true then tb σ H1 Q else Q (.bl false) H1
def Aj (ta tb:TE):TE:=fun σ H Q=>ta σ H fun x H1=>∃ c,x = .bl c /\ if c = true then Q (.bl true) H1 else tb σ H1 Q
def vA (ta:TE):TE:=fun σ H Q=>ta σ H fun x H1=>∃ c,x = .bl c /\ Q (.bl (!c)) H1
theorem CK {op} {t:TE} (h:PE X a t):PE X (.BoolOp op [a] pos) t:=fun pins s σ H Q I hw=>BoolOp_one (h pins s σ H Q I hw)
theorem CP (ha:PE X a ta) (hb:PE X (.BoolOp .And (b :: fB) pos) tb):PE X (.BoolOp .And (a :: b :: fB) pos) (uK ta tb):=by
 intro pins s σ H Q I h
 refine BoolOp_and (cI (ha pins s σ H _ I h) fun v s1 ⟨x,H1,I1,r1,q1⟩=>?_)
 obtain ⟨c,rfl,q1⟩:=q1
 cases r1
 refine wpAny_truthy_bool ?_
 cases c with
 | true=>exact hb pins s1 σ H1 Q I1 q1
 | false=>exact ⟨.bl false,H1,I1,rfl,q1⟩
theorem EQ (ha:PE X a ta) (hb:PE X (.BoolOp .Or (b :: fB) pos) tb):PE X (.BoolOp .Or (a :: b :: fB) pos) (Aj ta tb):=by
 intro pins s σ H Q I h
 refine BoolOp_or (cI (ha pins s σ H _ I h) fun v s1 ⟨x,H1,I1,r1,q1⟩=>?_)
 obtain ⟨c,rfl,q1⟩:=q1
 cases r1
 refine wpAny_truthy_bool ?_
 cases c with
 | false=>exact hb pins s1 σ H1 Q I1 q1
 | true=>exact ⟨.bl true,H1,I1,rfl,q1⟩
theorem DC (ha:PE X a ta):PE X (.UnaryOp .Not a pos) (vA ta):=by
 intro pins s σ H Q I h
 refine UnaryOp_ (cI (ha pins s σ H _ I h) fun v s1 ⟨x,H1,I1,r1,q1⟩=>?_)
 obtain ⟨c,rfl,q1⟩:=q1
 cases r1
 exact not_of (wpAny_truthy_bool ⟨.bl (!c),H1,I1,rfl,q1⟩)
def F3 (t:TT) (ta tb:TE):TE:=fun σ H Q=>t σ H fun c H1=>if c = true then ta σ H1 Q else tb σ H1 Q
theorem yo {c:Expr} (hc:PT X c tA) (ha:PE X a ta) (hb:PE X b tb):PE X (.IfExp c a b pos) (F3 tA ta tb):=by
 intro pins s σ H Q I h
 refine wpAny_IfExp (cI (hc pins s σ H _ I h) fun d s1 ⟨H1,I1,q1⟩=>?_)
 cases d with
 | true=>exact ha pins s1 σ H1 Q I1 q1
 | false=>exact hb pins s1 σ H1 Q I1 q1
end
end L2
namespace L2
open PySem PySem.Spec PyProof.Rows
def hZ (K:PySem.W.Frag) (H:Hp) (a:Addr) (xs:List V):Prop :=
 Rd H a (.lst xs) \/
  ∃ (o:Obj) (its:Array Value) (n:Nat),K.lookup a = some o /\ o.cls = .type "list" /\ o.dict = none /\ o.data = .seq its n /\ its.size <= sizeLine /\ aX xs its.toList
def sM (K:PySem.W.Frag) (H:Hp) (a:Addr) (xs:List V):Prop :=
 Rd H a (.tup xs) \/
  ∃ (o:Obj) (its:Array Value) (n:Nat),K.lookup a = some o /\ o.cls = .type "tuple" /\ o.data = .seq its n /\ its.size <= sizeLine /\ aX xs its.toList
def EG:Value -> Option V
 | .none=>some .non
 | .bool b=>some (.bl b)
 | .int i _=>some (.int i)
 | .str x _=>some (.str x)
 | .bytes b _=>some (.byt b)
 | .float b _=>some (.flt b)
 | .ref a=>some (.ref a)
 | .type n=>some (.ty n)
 | _=>none
theorem bO.abs {x:V} {u:Value} (r:bO x u):EG u = some x:=by
 cases x with
 | non=>cases r; rfl
 | bl _=>cases r; rfl
 | int _=>obtain ⟨t,rfl⟩:=r; rfl
 | str _=>obtain ⟨t,rfl⟩:=r; rfl
 | byt _=>obtain ⟨t,rfl⟩:=r; rfl
 | flt _=>obtain ⟨t,rfl⟩:=r; rfl
 | ref _=>cases r; rfl
 | ty _=>cases r; rfl
theorem bO.inj {x y:V} {u:Value} (r:bO x u) (q:bO y u):x = y:=Option.some.inj (r.abs.symm.trans q.abs)
theorem aX.inj:∀ {xs ys:List V} {us:List Value},aX xs us -> aX ys us -> xs = ys
 | _,_,_,.nil,.nil=>rfl
 | _,_,_,.cons r t,.cons r' t'=>by rw [r.inj r',aX.inj t t']
section
variable {X:Cx} {pins:List (Addr × Obj)} {σ:St} {H:Hp} {s:Shared} {a:Addr} {xs ys:List V}
theorem hZ.of {K:PySem.W.Frag} (h:H a = some (.lst xs)):hZ K H a xs:=.inl (.inl h)
theorem sM.of {K:PySem.W.Frag} (h:H a = some (.tup xs)):sM K H a xs:=.inl (.inl h)
theorem aG.list (I:aG X pins σ H s) (h:hZ X.K H a xs):∃ its:List Value,aX xs its /\ PlainL s.heap a its.toArray /\ xs.length <= sizeLine:=by
 rcases h with h | ⟨o,its,n,hk,hc,hd,hs,hz,r⟩
 ·obtain ⟨z,its,n,r,e⟩:=h.ok I.hok
  exact ⟨its,r,⟨_,n,e,rfl,rfl,rfl⟩,z⟩
 ·refine ⟨its.toList,r,⟨o,n,I.kIn a o hk,hc,hd,by simpa using hs⟩,?_⟩
  have e:=r.length
  simp only [Array.length_toList] at e
  walk_at "o"
theorem aG.tuple (I:aG X pins σ H s) (h:sM X.K H a xs):∃ its:List Value,aX xs its /\ IsTup s.heap a its.toArray /\ xs.length <= sizeLine:=by
 rcases h with h | ⟨o,its,n,hk,hc,hs,hz,r⟩
 ·obtain ⟨z,its,r,p⟩:=h.ok I.hok
  exact ⟨its,r,p,z⟩
 ·refine ⟨its.toList,r,⟨o,I.kIn a o hk,hc,n,by simpa using hs⟩,?_⟩
  have e:=r.length
  simp only [Array.length_toList] at e
  walk_at "o"
theorem aG.list_inj (I:aG X pins σ H s) (h:hZ X.K H a xs) (h':hZ X.K H a ys):xs = ys:=by
 obtain ⟨its,r,⟨o,n,e,_,_,d⟩,_⟩:=I.list h
 obtain ⟨its',r',⟨o',n',e',_,_,d'⟩,_⟩:=I.list h'
 rw [e] at e'; cases e'
 rw [d] at d'
 injection d' with d1 _
 have:its = its':=by simpa using congrArg Array.toList d1
 subst this
 exact r.inj r'
end
abbrev Cx.wish (X:Cx) (E:Value -> Shared -> Prop):Cx:={ X with xe:=E }
abbrev Cx.nox (X:Cx):Cx:=X.wish fun _ _=>False
theorem Cx.Ok.wish {X:Cx} (ok:X.Ok) (E:Value -> Shared -> Prop):(X.wish E).Ok :=
 ⟨ok.mod,ok.kind,ok.glob,ok.blt,ok.above,ok.inj,ok.has,ok.cab,ok.hd,ok.frames,ok.stk,ok.exf,ok.bs,ok.bsz,ok.noex,ok.exfs,ok.funs,ok.frf⟩
theorem Cx.Ok.unwish {X:Cx} {E:Value -> Shared -> Prop} (ok:(X.wish E).Ok):X.Ok :=
 ⟨ok.mod,ok.kind,ok.glob,ok.blt,ok.above,ok.inj,ok.has,ok.cab,ok.hd,ok.frames,ok.stk,ok.exf,ok.bs,ok.bsz,ok.noex,ok.exfs,ok.funs,ok.frf⟩
section
variable {X:Cx} {pins:List (Addr × Obj)} {σ:St} {H:Hp} {s:Shared} {E:Value -> Shared -> Prop}
theorem aG.wish (I:aG X pins σ H s) (E:Value -> Shared -> Prop):aG (X.wish E) pins σ H s:=⟨I.ok.wish E,I.os,I.bare,I.base,I.loc,I.cell,I.free,I.freeC,I.pin,I.hok,I.len⟩
theorem aG.unwish (I:aG (X.wish E) pins σ H s):aG X pins σ H s:=⟨I.ok.unwish,I.os,I.bare,I.base,I.loc,I.cell,I.free,I.freeC,I.pin,I.hok,I.len⟩
theorem SP.unwish {D:kP} {f:Flow} {s':Shared} (h:SP (X.wish E) pins D f s'):SP X pins D f s':=by
 cases f with
 | next=>obtain ⟨σ',H',I,q⟩:=h; exact ⟨σ',H',I.unwish,q⟩
 | brk=>obtain ⟨σ',H',I,q⟩:=h; exact ⟨σ',H',I.unwish,q⟩
 | cont=>obtain ⟨σ',H',I,q⟩:=h; exact ⟨σ',H',I.unwish,q⟩
 | ret u=>obtain ⟨v,σ',H',I,r,q⟩:=h; exact ⟨v,σ',H',I.unwish,r,q⟩
theorem qD.nox {st:List Stmt} {t:TS} (h:qD X.nox st t):qD X st t:=fun pins s σ H D I hw =>
 wpAny_mono (h pins s σ H D (I.wish _) hw) (fun _ _ q=>q.unwish) fun _ _ z=>False.elim z
end
section
variable {X:Cx} {st:Stmt} {fB:List Stmt} {t u:TS} {e:Expr} {te:TE} {pos:Pos}
def yM:TS:=fun D σ H=>D.nx σ H
def bv (t u:TS):TS:=fun D σ H=>t { D with nx:=u D } σ H
theorem Bs:qD X [] yM:=fun _ _ σ H _ I h=>wpAny_execs_nil ⟨σ,H,I,h⟩
theorem yF (h1:PS X st t) (h2:qD X fB u):qD X (st :: fB) (bv t u):=by
 intro pins s σ H D I h
 refine wpAny_execs_cons (cI (h1 pins s σ H { D with nx:=u D } I h) fun f s1 q=>?_)
 cases f with
 | next =>
  obtain ⟨σ',H',I',q⟩:=q
  exact h2 pins s1 σ' H' D I' q
 | ret v=>exact q
 | brk=>exact q
 | cont=>exact q
theorem AC (h1:PS X st t):qD X [st] t:=by
 intro pins s σ H D I h
 refine wpAny_execs_cons (cI (h1 pins s σ H D I h) fun f s1 q=>?_)
 cases f with
 | next=>exact wpAny_execs_nil q
 | ret v=>exact q
 | brk=>exact q
 | cont=>exact q
theorem aG.quiet {pins:List (Addr × Obj)} {σ:St} {H:Hp} {s:Shared} (I:aG X pins σ H s):interactive X.env = false:=by simp [interactive,I.ok.kind]
def wY (te:TE):TS:=fun D σ H=>te σ H fun _ H1=>D.nx σ H1
theorem AM (he:PE X e te) (hs:swapsWith e none pos.line X.env = pure false:=by rfl):PS X (.Expr e pos) (wY te):=by
 intro pins s σ H D I h
 exact wpAny_Expr_any (cI (he pins s σ H _ I h) fun v s1 ⟨x,H1,I1,r1,q1⟩=>⟨σ,H1,I1,q1⟩) I.quiet hs
def Co (te:TE):TS:=fun D σ H=>te σ H D.rt
theorem Ct (he:PE X e te):PS X (.Return (some e) pos) (Co te):=by
 intro pins s σ H D I h
 exact wpAny_Return_some (cI (he pins s σ H _ I h) fun v s1 ⟨x,H1,I1,r1,q1⟩=>⟨x,σ,H1,I1,r1,q1⟩)
def E4:TS:=fun D _ H=>D.rt .non H
def DD (c:TT) (t u:TS):TS:=fun D σ H=>c σ H fun b H1=>if b = true then t D σ H1 else u D σ H1
theorem Fw {c:Expr} {a b:List Stmt} {tc:TT} (hc:PT X c tc) (ha:qD X a t) (hb:qD X b u):PS X (.If c a b pos) (DD tc t u):=by
 intro pins s σ H D I h
 refine wpAny_If (cI (hc pins s σ H _ I h) fun d s1 ⟨H1,I1,q1⟩=>?_)
 cases d with
 | true=>exact ha pins s1 σ H1 D I1 q1
 | false=>exact hb pins s1 σ H1 D I1 q1
def nE:TS:=fun _ _ _=>False
theorem yE:PS X st nE:=fun _ _ _ _ _ _ h=>h.elim
theorem wb {sts:List Stmt}:qD X sts nE:=fun _ _ _ _ _ _ h=>h.elim
end
abbrev TG:=V -> St -> Hp -> (St -> Hp -> Prop) -> Prop
abbrev wG:=List V -> St -> Hp -> (St -> Hp -> Prop) -> Prop
def PG (X:Cx) (target:Expr) (t:TG):Prop :=
 ∀ (pins:List (Addr × Obj)) (s:Shared) (σ:St) (H:Hp) (v:V) (u:Value) (Q:St -> Hp -> Prop),aG X pins σ H s -> bO v u -> t v σ H Q ->
  wpAny (model X.prog X.w) X.A (assign target X.env u) (fun _ s'=>∃ σ' H',aG X pins σ' H' s' /\ Q σ' H') X.xe s
def Ex (X:Cx) (ts:List Expr) (t:wG):Prop :=
 ∀ (pins:List (Addr × Obj)) (s:Shared) (σ:St) (H:Hp) (vs:List V) (us:List Value) (Q:St -> Hp -> Prop),aG X pins σ H s -> aX vs us -> t vs σ H Q ->
  wpAny (model X.prog X.w) X.A (assignInOrder ((assignEach ts X.env).map (·.2)) us) (fun _ s'=>∃ σ' H',aG X pins σ' H' s' /\ Q σ' H') X.xe s
abbrev tW:=V -> V -> V -> Hp -> (Hp -> Prop) -> Prop
def vO (X:Cx) (t:tW):Prop :=
 ∀ (pins:List (Addr × Obj)) (s:Shared) (σ:St) (H:Hp) (o i v:V) (ov iv u:Value) (Q:Hp -> Prop),aG X pins σ H s -> bO o ov -> bO i iv -> bO v u -> t o i v H Q ->
  wpAny (model X.prog X.w) X.A (setItem ov iv u) (fun _ s'=>∃ H',aG X pins σ H' s' /\ Q H') X.xe s
abbrev zt:=V -> V -> Hp -> VK -> Prop
def DL (X:Cx) (op:Operator) (t:zt):Prop :=
 ∀ (pins:List (Addr × Obj)) (s:Shared) (σ:St) (H:Hp) (x y:V) (v u:Value) (Q:VK),aG X pins σ H s -> bO x v -> bO y u -> t x y H Q ->
  wpAny (model X.prog X.w) X.A (inplaceOp op v u) (EP X pins σ Q) X.xe s
section
variable {X:Cx} {pos:Pos}
def gm (i:Nat):TG:=fun v σ H Q=>Q (σ.set i (some v)) H
theorem AN {i:Nat} {x:Str} (hN:X.N.Nodup) (hi:X.N[i]? = some x) (hx:zw X.env.scope x) (hf:X.fn x = true \/ X.env.scope.names.lookup x = some .local:=by first | exact .inl rfl | exact .inr rfl | assumption):PG X (.Name x pos) (gm i):=by
 intro pins s σ H v u Q I r h
 exact wpAny_assign_Name (gy I hN hi hx r (fun s' I'=>⟨_,H,I',h⟩) hf)
def tX:wG:=fun vs σ H Q=>vs = [] /\ Q σ H
def jz (t:TG) (u:wG):wG:=fun vs σ H Q=>∃ v r,vs = v :: r /\ t v σ H fun σ' H'=>u r σ' H' Q
theorem Af:Ex X [] tX:=by
 intro pins s σ H vs us Q I r h
 obtain ⟨e,h⟩:=h
 subst e
 cases r
 exact assignInOrder_nil ⟨σ,H,I,h⟩
theorem xg {e:Expr} {es:List Expr} {t:TG} {u:wG} (h1:PG X e t) (h2:Ex X es u)
  (hs:(assignEach (e :: es) X.env).map (·.2) = assign e X.env :: (assignEach es X.env).map (·.2):=by rfl):Ex X (e :: es) (jz t u):=by
 intro pins s σ H vs us Q I r h
 obtain ⟨v,vr,e1,h⟩:=h
 subst e1
 cases r with
 | cons r rr =>
  rw [hs]
  refine assignInOrder_cons (cI (h1 pins s σ H _ _ _ I r h) fun _ s1 ⟨σ1,H1,I1,q1⟩=>?_)
  exact h2 pins s1 σ1 H1 _ _ Q I1 rr q1
def ET (K:PySem.W.Frag) (n:Nat) (t:wG):TG:=fun v σ H Q=>∃ a xs,v = .ref a /\ sM K H a xs /\ xs.length = n /\ t xs σ H Q
theorem Eg {es:List Expr} {k:Nat} {t:wG} {n:Nat} (hc:X.calm = true) (h:Ex X es t)
  (hn:(assignEach es X.env).length = n:=by rfl) (hst:(assignEach es X.env).findIdx? (·.1) = none:=by rfl):PG X (.Tuple es k pos) (ET X.K n t):=by
 intro pins s σ H v u Q I r hw
 obtain ⟨a,xs,e1,hq,hl,hw⟩:=hw
 subst e1
 cases r
 obtain ⟨its,rv,ht,hz⟩:=I.tuple hq
 refine assign_Tuple_tuple (I.ok.hd hc) ht (by simp [hn,<- hl,rv.length]) hst fun h' hx=>?_
 have I1:aG X pins σ H { s with heap:=h' }:=I.kept (t':=s.toks) fun b o e=>hx b o (Nat.ne_of_lt (Heap.lt_size e)) e
 exact h pins _ σ H xs _ Q I1 (by simpa using rv) hw
def CZ (to ti:TE) (t:tW):TG:=fun v σ H Q=>to σ H fun o H1=>ti σ H1 fun i H2=>t o i v H2 fun H3=>Q σ H3
theorem Cg {o i:Expr} {to ti:TE} {t:tW} (ho:PE X o to) (hi:PE X i ti) (hs:vO X t)
  (ha:∀ v,assign (.Subscript o i pos) X.env v = (do
   let ov <- holding [v] (eval o X.env)
   let iv <- holding [v,ov] (eval i X.env)
   standAt pos
   holding [v,ov,iv] (setItem ov iv v)
   release [v,ov,iv] []):=by intro _; rfl):PG X (.Subscript o i pos) (CZ to ti t):=by
 intro pins s σ H v u Q I r h
 rw [ha]
 refine wpAny_bind (wpAny_holding (cI (ho pins s σ H _ I h) fun ov s1 ⟨x,H1,I1,r1,q1⟩=>?_))
 refine wpAny_bind (wpAny_holding (cI (hi pins s1 σ H1 _ I1 q1) fun iv s2 ⟨y,H2,I2,r2,q2⟩=>?_))
 refine wpAny_bind (wpAny_standAt (wpAny_bind (wpAny_holding (cI (hs pins s2 σ H2 x y v ov iv u _ I2 r1 r2 r q2) fun _ s3 ⟨H3,I3,q3⟩=>?_))))
 exact wpAny_release ⟨σ,H3,I3,q3⟩
def sd (te:TE) (g:TG):TS:=fun D σ H=>te σ H fun x H1=>g x σ H1 D.nx
theorem CA {tg e:Expr} {te:TE} {g:TG} (he:PE X e te) (hg:PG X tg g) (hs:swapsWithSole [tg] e pos.line X.env = pure false:=by rfl) (hw:swappedStores [tg] e X.env = pure none:=by rfl)
  (h1:(assignEach [tg] X.env).map (·.2) = [assign tg X.env]:=by rfl):PS X (.Assign [tg] e pos) (sd te g):=by
 intro pins s σ H D I h
 refine wpAny_Assign_stores (cI (he pins s σ H _ I h) fun v s1 ⟨x,H1,I1,r1,q1⟩=>?_) hs hw
 rw [h1]
 exact cI (hg pins s1 σ H1 x v _ I1 r1 q1) fun _ s2 q=>q
theorem Ch {i:Nat} {x:Str} {e:Expr} {te:TE} {pos':Pos} (hN:X.N.Nodup) (hi:X.N[i]? = some x) (hx:zw X.env.scope x) (he:PE X e te) (hs:swapsWith e (some (.Name x pos')) pos.line X.env = pure false:=by rfl) (hf:X.fn x = true \/ X.env.scope.names.lookup x = some .local:=by first | exact .inl rfl | exact .inr rfl | assumption) :
  PS X (.Assign [.Name x pos'] e pos) (sd te (gm i)):=by
 intro pins s σ H D I h
 refine wpAny_Assign_Name (cI (he pins s σ H _ I h) fun v s1 ⟨y,H1,I1,r1,q1⟩=>?_) hs
 exact gy I1 hN hi hx r1 (fun s2 I2=>⟨_,H1,I2,q1⟩) hf
def Bx (i j:Nat) (ta:TA):TS:=fun D σ H=>ta σ H fun vs H1=>∃ v w,vs = [v,w] /\ D.nx ((σ.set i (some v)).set j (some w)) H1
theorem Dm {i j:Nat} {x y:Str} {a b:Expr} {ta:TA} {px py pt:Pos} {kt k2 pt2} (hc:X.calm = true) (hN:X.N.Nodup) (hi:X.N[i]? = some x) (hj:X.N[j]? = some y) (hij:i ≠ j)
  (hx:X.env.scope.names.lookup x = some .local) (hy:X.env.scope.names.lookup y = some .local) (ha:PA X [a,b] ta)
  (hw:swappedStores [.Tuple [.Name x px,.Name y py] kt pt] (.Tuple [a,b] k2 pt2) X.env = pure (some [x,y]))
  (hs:swapsWithSole [.Tuple [.Name x px,.Name y py] kt pt] (.Tuple [a,b] k2 pt2) pos.line X.env = pure false:=by rfl) :
  PS X (.Assign [.Tuple [.Name x px,.Name y py] kt pt] (.Tuple [a,b] k2 pt2) pos) (Bx i j ta):=by
 intro pins s σ H D I h
 rw [exec_Assign_arm]
 refine wpAny_bind (wpAny_standAt ?_)
 rw [hs]
 refine wpAny_bind (wpAny_pure ?_)
 rw [if_neg (by decide)]
 refine wpAny_bind (Tuple_ (cI (ha _ pins s σ H _ I h) fun us s1 ⟨vs,H1,I1,r1,q1⟩=>?_))
 obtain ⟨v,w,e1,q1⟩:=q1
 subst e1
 obtain ⟨u1,u2,rfl,rv,rw'⟩ : ∃ u1 u2,us = [u1,u2] /\ bO v u1 /\ bO w u2:=by
  cases r1 with
  | cons p q =>
   cases q with
   | cons p' q' =>
    cases q'
    exact ⟨_,_,rfl,p,p'⟩
 refine wpAny_newObj_type ?_ (by show 2 <= sizeLine; decide)
 have I2:aG X pins σ H1 { s1 with heap:=s1.heap.push { cls:=.type "tuple",data:=.seq [u1,u2].toArray } }:=I1.kept (t':=s1.toks) fun b o e=>Heap.get?_push_of_some _ e
 rw [hw]
 refine wpAny_bind (wpAny_pure ?_)
 show wpAny (model X.prog X.w) X.A (do rule "assign.swapped-stores"; let items <- unpackItems (.ref s1.heap.objs.size) 2 none; assignInOrder [fun v=>bindName X.env y v,fun v=>bindName X.env x v] items.reverse; pure Flow.next) _ _ _
 refine wpAny_bind (wpAny_rule (wpAny_bind (unpackItems_tuple (items:=#[u1,u2]) (I.ok.hd hc) (IsTup.new s1.heap _) fun h' hx'=>?_)))
 have I3:=I2.kept (h':=h') (t':=s1.toks) fun b o e=>hx' b o (Nat.ne_of_lt (Heap.lt_size e)) e
 show wpAny _ _ (assignInOrder [fun v=>bindName X.env y v,fun v=>bindName X.env x v] [u2,u1] >>= fun _=>pure Flow.next) _ _ _
 refine wpAny_bind (assignInOrder_cons (wpAny_bindName (gy I3 hN hj (.inl hy) rw' (fun s2 I4=>?_) (.inr hy))))
 refine assignInOrder_cons (wpAny_bindName (gy I4 hN hi (.inl hx) rv (fun s3 I5=>assignInOrder_nil (wpAny_pure ?_)) (.inr hx)))
 rw [List.set_comm _ _ (Ne.symm hij)] at I5
 exact ⟨_,H1,I5,q1⟩
def C9 (i:Nat) (te:TE) (ti:zt):TS:=fun D σ H=>∃ x,σ[i]? = some (some x) /\ te σ H fun y H1=>ti x y H1 fun z H2=>D.nx (σ.set i (some z)) H2
theorem CL {i:Nat} {x:Str} {e:Expr} {te:TE} {op:Operator} {ti:zt} {pos':Pos} (hN:X.N.Nodup) (hi:X.N[i]? = some x) (hx:zw X.env.scope x) (he:PE X e te) (ho:DL X op ti) (hf:X.fn x = true \/ X.env.scope.names.lookup x = some .local:=by first | exact .inl rfl | exact .inr rfl | assumption) :
  PS X (.AugAssign (.Name x pos') op e pos) (C9 i te ti):=by
 intro pins s σ H D I h
 obtain ⟨v,e1,h⟩:=h
 obtain ⟨m,hn,hl⟩:=I.loc
 have vis:Dy X.env.scope x:=by rcases hx with k | k; exact .inl k; exact .inr (.inl k)
 obtain ⟨u,r,l⟩:=hl i x v hi e1 vis
 refine wpAny_AugAssign_Name ?_
 have go:wpAny (model X.prog X.w) X.A (eval e X.env) (fun w s₂=>wpAny (model X.prog X.w) X.A (inplaceOp op u w) (fun r s₃=>wpAny (model X.prog X.w) X.A (storeName X.env x r) (fun _=>SP X pins D .next) X.xe s₃) X.xe s₂) X.xe s:=by
  refine cI (he pins s σ H _ I h) fun w s1 ⟨y,H1,I1,r1,q1⟩=>?_
  refine cI (ho pins s1 σ H1 v y u w _ I1 r r1 q1) fun z s2 ⟨zv,H2,I2,r2,q2⟩=>?_
  exact gy I2 hN hi hx r2 (fun s3 I3=>⟨_,H2,I3,q2⟩) hf
 rcases l with ⟨hk,hm⟩ | ⟨hk,c,hc,hcell⟩
 ·exact wpAny_loadName_local I.ok.kind hk hn hm go
 ·rcases hk with hk | hk
  ·exact wpAny_loadName_cell I.ok.kind hk hc hcell go
  ·rcases hx with k | k
   ·have:X.env.scope.names.lookup x = some .free:=hk
    rw [k] at this; cases this
   ·have:X.env.scope.names.lookup x = some .free:=hk
    rw [k] at this; cases this
def sK (to ti te:TE) (tget:V -> V -> Hp -> VK -> Prop) (tip:zt) (tset:tW):TS:=fun D σ H=>to σ H fun o H1=>ti σ H1 fun i H2=>tget o i H2 fun x H3=>te σ H3 fun y H4=>tip x y H4 fun z H5=>tset o i z H5 fun H6=>D.nx σ H6
def D5 (X:Cx) (t:V -> V -> Hp -> VK -> Prop):Prop :=
 ∀ (pins:List (Addr × Obj)) (s:Shared) (σ:St) (H:Hp) (o i:V) (ov iv:Value) (Q:VK),aG X pins σ H s -> bO o ov -> bO i iv -> t o i H Q ->
  wpAny (model X.prog X.w) X.A (getItem ov iv) (EP X pins σ Q) X.xe s
theorem AF {o i e:Expr} {to ti te:TE} {tget:V -> V -> Hp -> VK -> Prop} {tip:zt} {tset:tW} {op:Operator} {tpos:Pos} (ho:PE X o to) (hi:PE X i ti) (hg:D5 X tget) (he:PE X e te) (hp:DL X op tip) (hs:vO X tset)
  (ha:∀ ov iv new,augStore i ov iv new = (do holding [new,ov,iv] (setItem ov iv new); release [new,ov,iv] []; pure .next):=by intros; rfl):PS X (.AugAssign (.Subscript o i tpos) op e pos) (sK to ti te tget tip tset):=by
 intro pins s σ H D I h
 refine wpAny_AugAssign_SubscriptAny (cI (ho pins s σ H _ I h) fun ov s1 ⟨x1,H1,I1,r1,q1⟩=>?_) ha
 refine cI (hi pins s1 σ H1 _ I1 q1) fun iv s2 ⟨x2,H2,I2,r2,q2⟩=>?_
 refine cI (hg pins s2 σ H2 x1 x2 ov iv _ I2 r1 r2 q2) fun old s3 ⟨x3,H3,I3,r3,q3⟩=>?_
 refine cI (he pins s3 σ H3 _ I3 q3) fun v s4 ⟨x4,H4,I4,r4,q4⟩=>?_
 refine cI (hp pins s4 σ H4 x3 x4 old v _ I4 r3 r4 q4) fun new s5 ⟨x5,H5,I5,r5,q5⟩=>?_
 exact cI (hs pins s5 σ H5 x1 x2 x5 ov iv new _ I5 r1 r2 r5 q5) fun _ s6 ⟨H6,I6,q6⟩=>⟨σ,H6,I6,q6⟩
def EC (f:Int -> Int -> Int):zt:=fun x y H Q=>∃ i j,x = .int i /\ y = .int j /\ Q (.int (f i j)) H
theorem xI:DL X .Add (EC fun i j=>i + j):=by
 intro pins s σ H x y v u Q I r1 r2 h
 obtain ⟨i,j,e1,e2,q⟩:=h
 subst e1; subst e2
 obtain ⟨t,rfl⟩:=r1
 obtain ⟨t',rfl⟩:=r2
 exact iadd_int ⟨.int _,H,I.tok _,⟨_,rfl⟩,q⟩
theorem tj:DL X .Sub (EC fun i j=>i - j):=by
 intro pins s σ H x y v u Q I r1 r2 h
 obtain ⟨i,j,e1,e2,q⟩:=h
 subst e1; subst e2
 obtain ⟨t,rfl⟩:=r1
 obtain ⟨t',rfl⟩:=r2
 exact isub_int ⟨.int _,H,I.tok _,⟨_,rfl⟩,q⟩
end
section
variable {X:Cx} {pos:Pos}
def xA (c:TT) (tb:TS):TS:=fun D σ H=>∃ W:Nat -> St -> Hp -> Prop,(∃ m,W m σ H) /\ ∀ m σ H,W m σ H ->
 c σ H fun b H1=>if b = true then ∃ N:St -> Hp -> Prop,(∀ σ' H',N σ' H' -> ∃ m',m' < m /\ W m' σ' H') /\ tb { D with nx:=N,ct:=N,bk:=D.nx } σ H1 else D.nx σ H1
theorem zi {c:Expr} {body:List Stmt} {tc:TT} {tb:TS} (hp:PassesOwn (model X.prog X.w) X.A X.env X.xe) (hc:PT X c tc) (hb:qD X body tb):PS X (.While c body [] pos) (xA tc tb):=by
 intro pins s σ H D I h
 obtain ⟨W,⟨m0,w0⟩,turn⟩:=h
 refine wpAny_While (codeAny_whileLoop (fun n s'=>∃ σ' H',aG X pins σ' H' s' /\ W n σ' H') ?_ m0 ⟨σ,H,I,w0⟩)
 rintro n s1 ⟨σ1,H1,I1,w1⟩
 refine wpAny_passesOwn hp (cI (hc pins s1 σ1 H1 _ I1 (turn n σ1 H1 w1)) fun b s2 ⟨H2,I2,q2⟩=>?_)
 cases b with
 | true =>
  obtain ⟨N,hN,q2⟩:=q2
  rw [if_pos rfl]
  refine wpAny_passesOwn hp (cI (hb pins s2 σ1 H2 _ I2 q2) fun f s3 q3=>?_)
  cases f with
  | next =>
   obtain ⟨σ3,H3,I3,n3⟩:=q3
   obtain ⟨m',hm,w3⟩:=hN σ3 H3 n3
   exact ⟨m',hm,σ3,H3,I3,w3⟩
  | cont =>
   obtain ⟨σ3,H3,I3,n3⟩:=q3
   obtain ⟨m',hm,w3⟩:=hN σ3 H3 n3
   exact ⟨m',hm,σ3,H3,I3,w3⟩
  | brk=>exact q3
  | ret v=>exact q3
 | false =>
  rw [if_neg Bool.false_ne_true]
  exact wpAny_execs_nil ⟨σ1,H2,I2,q2⟩
end
structure It where
 go:Nat -> Hp -> Prop
 yld:Nat -> Hp -> V -> Hp -> Prop
 stop:Nat -> Hp -> Prop
def lM (X:Cx) (pins:List (Addr × Obj)) (H:Hp) (b:Addr):Prop :=
 H b = none /\ b ≠ X.env.locals /\ b ∉ X.fs /\ (b ∈ X.ex \/ X.s₀.heap.objs.size <= b) /\ (∀ x c,X.env.cells.lookup x = some c -> c ≠ b) /\ ∀ p ∈ X.pn ++ pins,p.1 ≠ b
theorem aG.fpOk {X:Cx} {pins:List (Addr × Obj)} {σ:St} {H H':Hp} {s:Shared} {b:Addr} (I:aG X pins σ H s) (hb:s.heap.objs.size <= b) (hn:H' b = none):lM X pins H' b:=by
 refine ⟨hn,Nat.ne_of_gt (Nat.lt_of_lt_of_le I.lt hb),I.nofs hb,.inr (Nat.le_trans I.sz hb),fun x c e z=>?_,fun p hp z=>?_⟩
 ·obtain ⟨v,q⟩:=I.cell x c e
  exact absurd (Nat.lt_of_lt_of_le q.lt (by rw [z]; exact hb)) (Nat.lt_irrefl _)
 ·exact absurd (Nat.lt_of_lt_of_le (Heap.lt_size (I.pin p hp).1) (by rw [z]; exact hb)) (Nat.lt_irrefl _)
structure wr (P:Program) (w:World) (K:PySem.W.Frag) (tg:Expr) (J:It) (fp:List Addr) (it:Addr) (tn:Nat -> Heap -> Prop):Prop where
 mem:it ∈ fp
 obj:∀ i h,tn i h -> ∀ b ∈ fp,∃ o,h.get? b = some o /\ ∀ v,o.data ≠ .cell v
 keep:∀ i h h',tn i h -> (∀ b ∈ fp,∀ o,h.get? b = some o -> h'.get? b = some o) -> tn i h'
 item:∀ (X:Cx),X.prog = P -> X.w = w -> X.K = K -> X.calm = true -> ∀ (i:Nat) (pins:List (Addr × Obj)) (s:Shared) (σ:St) (H:Hp) (E:Value -> Shared -> Prop),aG X pins σ H s -> (∀ b ∈ fp,lM X pins H b) -> tn i s.heap -> J.go i H ->
  wpAny (model P w) X.A (pyNext (.ref it)) (fun r s1=>∃ u,r = some u /\
   wpAny (model P w) X.A (letOwnedTupleGo tg (.ref it) u) (fun _ s2=>∃ x H',aG X pins σ H' s2 /\ bO x u /\ J.yld i H x H' /\ tn (i + 1) s2.heap /\ ∀ b ∈ fp,H' b = none) E s1) E s
 done:∀ (X:Cx),X.prog = P -> X.w = w -> X.K = K -> X.calm = true -> ∀ (i:Nat) (pins:List (Addr × Obj)) (s:Shared) (σ:St) (H:Hp) (E:Value -> Shared -> Prop),aG X pins σ H s -> (∀ b ∈ fp,lM X pins H b) -> tn i s.heap -> J.stop i H ->
  wpAny (model P w) X.A (pyNext (.ref it)) (fun r s1=>r = none /\ aG X pins σ H s1) E s
 self:∀ (A:Around) (i:Nat) (s:Shared) (Q:Value -> Shared -> Prop) (E:Value -> Shared -> Prop),tn i s.heap -> Q (.ref it) s -> wpAny (model P w) A (pyIter (.ref it)) Q E s
abbrev TI:=St -> Hp -> (It -> Hp -> Prop) -> Prop
def Gu (X:Cx) (pins:List (Addr × Obj)) (σ:St) (tg:Expr) (R:It -> Hp -> Prop) (itv:Value) (s2:Shared):Prop :=
 ∃ (it:Addr) (fp:List Addr) (tn:Nat -> Heap -> Prop) (J:It) (H':Hp),itv = .ref it /\ aG X pins σ H' s2 /\ wr X.prog X.w X.K tg J fp it tn /\ tn 0 s2.heap /\ (∀ b ∈ fp,lM X pins H' b) /\ R J H'
def PI (X:Cx) (tg iter:Expr) (wi:TI):Prop :=
 ∀ (pins:List (Addr × Obj)) (s:Shared) (σ:St) (H:Hp) (R:It -> Hp -> Prop),aG X pins σ H s -> wi σ H R ->
  wpAny (model X.prog X.w) X.A (eval iter X.env) (fun v s1=>wpAny (model X.prog X.w) X.A (pyIter v) (Gu X pins σ tg R) X.xe s1) X.xe s
theorem yR {M:Model} {A:Around} {E:Value -> Shared -> Prop} {s:Shared} {tg:Expr} {it:Addr} {u:Value} {o:Obj} {n:String} {vs:Array Value} {Q:Unit -> Shared -> Prop} (ho:s.heap.get? it = some o) (hc:o.cls = .type n) (hd:o.data = .fields vs)
  (hn:["enumerate", "zip", "dict_itemiterator", "dict_reverseitemiterator", "odict_iterator", "itertools.zip_longest", "itertools.pairwise"].contains n = false) (hQ:Q () s):wpAny M A (letOwnedTupleGo tg (.ref it) u) Q E s:=by
 unfold letOwnedTupleGo
 cases tg <;> first
  | exact wpAny_pure hQ
  | (cases u <;> first
    | exact wpAny_pure hQ
    | (refine wpAny_bind (wpAny_load ho ?_)
       rw [hc,hd]
       show wpAny M A (if (["enumerate", "zip", "dict_itemiterator", "dict_reverseitemiterator", "odict_iterator", "itertools.zip_longest", "itertools.pairwise"].contains n && vs[0]? == some (rawInt _)) = true then _ else _) Q E s
       rw [if_neg (by intro h; rw [hn,Bool.false_and] at h; cases h)]
       exact wpAny_pure hQ))
def FS (K:PySem.W.Frag) (a:Addr):It :=
 ⟨fun i H=>∃ xs x,hZ K H a xs /\ xs[i]? = some x,fun i H x H'=>H' = H /\ ∀ xs,hZ K H a xs -> xs[i]? = some x,fun i H=>∃ xs,hZ K H a xs /\ xs.length <= i⟩
def GB (K:PySem.W.Frag) (a:Addr):It :=
 ⟨fun i H=>∃ xs x,sM K H a xs /\ xs[i]? = some x,fun i H x H'=>H' = H /\ ∀ xs,sM K H a xs -> xs[i]? = some x,fun i H=>∃ xs,sM K H a xs /\ xs.length <= i⟩
def Eu (lo:Int) (n:Nat):It:=⟨fun i _=>i < n,fun i H x H'=>H' = H /\ x = .int (lo + i),fun i _=>n <= i⟩
theorem wj {P:Program} {w:World} {K:PySem.W.Frag} {tg:Expr} (a it:Addr):wr P w K tg (FS K a) [it] it (fun i h=>h.IsListIter it a i) where
 mem:=by simp
 obj:=fun i h st b hb=>by
  have e:b = it:=by simpa using hb
  subst e
  obtain ⟨o,e,c,d⟩:=st
  exact ⟨o,e,fun v z=>by rw [d] at z; cases z⟩
 keep:=fun i h h' st k=>st.at fun o e=>k it (by simp) o e
 item:=by
  intro X hP hw hK hc i pins s σ H E I hf st hg
  subst hP hw hK
  obtain ⟨xs,x,hq,hx⟩:=hg
  obtain ⟨its,rv,p,hz⟩:=I.list hq
  obtain ⟨u,hu,ru⟩:=rv.get hx
  obtain ⟨f0,f1,f2,f3,f4,f5⟩:=hf it (by simp)
  refine wpAny_pyNext_list_item st p.isList (x:=u) (by simpa using hu) fun h' st' sb=>?_
  have I1:aG X pins σ H { s with heap:=h' }:=I.turned (t':=s.toks) (fun b o hb e=>(sb.2 b hb).trans e) f0 f1 f3 f4 f5
  obtain ⟨o,e,c,d⟩:=id st'
  exact ⟨u,rfl,yR (s:={ s with heap:=h' }) e c d (by decide) ⟨x,H,I1,ru,⟨rfl,fun ys hy=>by rw [I.list_inj hy hq]; exact hx⟩,st',fun b hb=>(hf b hb).1⟩⟩
 done:=by
  intro X hP hw hK hc i pins s σ H E I hf st hg
  subst hP hw hK
  obtain ⟨xs,hq,hx⟩:=hg
  obtain ⟨its,rv,p,hz⟩:=I.list hq
  obtain ⟨f0,f1,f2,f3,f4,f5⟩:=hf it (by simp)
  have hl:=rv.length
  exact wpAny_pyNext_list_end (I.ok.hd hc) st p.isList (by simp; walk_at "o") fun h' eb=>⟨rfl,I.turned (t':=s.toks) (fun b o hb e=>eb b o hb e) f0 f1 f3 f4 f5⟩
 self:=fun _ _ _ _ _ st h=>wpAny_pyIter_listiter st h
theorem tI {P:Program} {w:World} {K:PySem.W.Frag} {tg:Expr} (it:Addr) (lo:Int) (n:Nat):wr P w K tg (Eu lo n) [it] it (fun i h=>IsRangeIter h it (lo + (i:Nat) * 1) ((n:Int) - (i:Nat)) 1) where
 mem:=by simp
 obj:=fun i h st b hb=>by
  have e:b = it:=by simpa using hb
  subst e
  exact ⟨_,st,fun v z=>by
   have z':Data.fields _ = Data.cell v:=z
   cases z'⟩
 keep:=fun i h h' st k=>k it (by simp) _ st
 item:=by
  intro X hP hw hK hc i pins s σ H E I hf st hg
  subst hP hw hK
  obtain ⟨f0,f1,f2,f3,f4,f5⟩:=hf it (by simp)
  have W:=Walks.range (prog:=X.prog) (w:=X.w) (I.ok.hd hc) it lo 1 n
  refine W.item i s _ _ hg st fun v h' tk hv st' kk=>?_
  obtain ⟨t,rfl⟩:=hv
  have I1:aG X pins σ H { s with heap:=h',toks:=tk }:=I.turned (fun b o hb e=>kk b o (by simpa using hb) e) f0 f1 f3 f4 f5
  refine ⟨_,rfl,yR (s:={ s with heap:=h',toks:=tk }) (n:="range_iterator") st' rfl rfl (by decide) ⟨.int (lo + i),H,I1,⟨t,?_⟩,⟨rfl,rfl⟩,st',fun b hb=>(hf b hb).1⟩⟩
  rw [Int.mul_one]
 done:=by
  intro X hP hw hK hc i pins s σ H E I hf st hg
  subst hP hw hK
  obtain ⟨f0,f1,f2,f3,f4,f5⟩:=hf it (by simp)
  exact wpAny_pyNext_range_end (I.ok.hd hc) st (by have:n <= i:=hg; walk_at "o") fun h' eb=>⟨rfl,I.turned (t':=s.toks) (fun b o hb e=>eb b o hb e) f0 f1 f3 f4 f5⟩
 self:=fun _ _ _ _ _ st h=>wpAny_pyIter_rangeiter st h
end L2
namespace L2
open PySem PySem.Spec PyProof.Rows
section
variable {X:Cx} {tg:Expr}
def vd (K:PySem.W.Frag) (tl:TE):TI:=fun σ H R=>tl σ H fun x H1=>∃ a,x = .ref a /\ (∃ xs,hZ K H1 a xs) /\ R (FS K a) H1
def FW (K:PySem.W.Frag) (tl:TE):TI:=fun σ H R=>tl σ H fun x H1=>∃ a,x = .ref a /\ (∃ xs,sM K H1 a xs) /\ R (GB K a) H1
theorem zR {l:Expr} {tl:TE} (hl:PE X l tl):PI X tg l (vd X.K tl):=by
 intro pins s σ H R I h
 refine cI (hl pins s σ H _ I h) fun v s1 ⟨x,H1,I1,r1,q1⟩=>?_
 obtain ⟨a,e,⟨xs,hq⟩,q⟩:=q1
 subst e
 cases r1
 obtain ⟨its,rv,p,hz⟩:=I1.list hq
 refine wpAny_pyIter_list p.isList ?_
 refine ⟨s1.heap.objs.size,[s1.heap.objs.size],_,_,H1,rfl,I1.kept (t':=s1.toks) fun b o e=>Heap.get?_push_of_some _ e,wj a _,⟨_,Heap.get?_push_size _ rfl,rfl,rfl⟩,fun b hb=>?_,q⟩
 have e:b = s1.heap.objs.size:=by simpa using hb
 subst e
 exact I1.fpOk (Nat.le_refl _) (I1.hok.fresh (Nat.le_refl _))
theorem xK {pins:List (Addr × Obj)} {σ:St} {H:Hp} {s:Shared} {R:It -> Hp -> Prop} {E:Value -> Shared -> Prop} {lo hi:Int} {t u v:Tok} {tk:Nat} (I:aG X pins σ H s) (h1 : -(2 ^ 62) <= lo) (h2:lo < 2 ^ 62) (h3 : -(2 ^ 62) <= hi) (h4:hi < 2 ^ 62)
  (q:R (Eu lo (hi - lo).toNat) H):wpAny (model X.prog X.w) X.A (pyIter (.ref s.heap.objs.size)) (Gu X pins σ tg R) E { s with heap:=s.heap.push { cls:=.type "range",data:=.fields #[.int lo t,.int hi u,.int 1 v] },toks:=tk }:=by
 refine wpAny_pyIter_range (IsRange.new ..) (small_one h1 h2 h3 h4) ?_
 have I1:aG X pins σ H { s with heap:=s.heap.push { cls:=.type "range",data:=.fields #[.int lo t,.int hi u,.int 1 v] },toks:=tk }:=I.kept fun b o e=>Heap.get?_push_of_some _ e
 refine ⟨(s.heap.push { cls:=.type "range",data:=.fields #[.int lo t,.int hi u,.int 1 v] }).objs.size,[(s.heap.push { cls:=.type "range",data:=.fields #[.int lo t,.int hi u,.int 1 v] }).objs.size],_,_,H,rfl,
  I1.kept (t':=tk) fun b o e=>Heap.get?_push_of_some _ e,tI _ lo (hi - lo).toNat,?_,fun b hb=>?_,q⟩
 ·have e1:lo + ((0:Nat):Int) * 1 = lo:=by simp
  have e2:(((hi - lo).toNat:Nat):Int) - ((0:Nat):Int) = Builtin.Range.rangeSize lo hi 1:=by rw [rangeSize_one]; split <;> walk_at "o"
  show IsRangeIter _ _ (lo + ((0:Nat):Int) * 1) ((((hi - lo).toNat:Nat):Int) - ((0:Nat):Int)) 1
  rw [e1,e2]
  exact Heap.get?_push_size _ rfl
 ·have e:b = (s.heap.push { cls:=.type "range",data:=.fields #[.int lo t,.int hi u,.int 1 v] }).objs.size:=by simpa using hb
  subst e
  exact I1.fpOk (Nat.le_refl _) (I1.hok.fresh (Nat.le_refl _))
def uM (ta:TA):TI:=fun σ H R=>ta σ H fun vs H1=>∃ j:Int,vs = [.int j] /\ -(2 ^ 62) <= j /\ j < 2 ^ 62 /\ R (Eu 0 j.toNat) H1
def E8 (ta:TA):TI:=fun σ H R=>ta σ H fun vs H1=>∃ i j:Int,vs = [.int i,.int j] /\ (-(2 ^ 62) <= i /\ i < 2 ^ 62 /\ -(2 ^ 62) <= j /\ j < 2 ^ 62) /\ R (Eu i (j - i).toNat) H1
theorem wf {a:Expr} {ta:TA} {p pos:Pos} (hg:Gl X "range") (hm:X.mg "range" = none) (ha:PA X [a] ta) (hs:starEach [a] X.env = [(false,eval a X.env)]:=by rfl):PI X tg (.Call (.Name "range" p) [a] [] pos) (uM ta):=by
 intro pins s σ H R I h
 refine Call_ (jG I hg hm boot_range (PyProof.Rows.callWith_type1 (cI (ha pos pins s σ H _ I h) fun us s1 ⟨vs,H1,I1,r1,q1⟩=>?_) hs rfl))
 obtain ⟨j,e,q1,q2,q⟩:=q1
 subst e
 cases r1 with
 | cons r rr =>
  cases rr
  obtain ⟨t,rfl⟩:=r
  exact call_range_1 (xK I1 (by walk_at "o") (by walk_at "o") q1 q2 (by simpa using q))
def Cw (wi:TI) (g:TG) (tb:TS):TS:=fun D σ H=>wi σ H fun J H1=>∃ W:Nat -> Nat -> St -> Hp -> Prop,(∃ m,W 0 m σ H1) /\ ∀ i m σ H,W i m σ H ->
 (J.stop i H /\ D.nx σ H) \/ (J.go i H /\ ∃ N:St -> Hp -> Prop,(∀ σ' H',N σ' H' -> ∃ m',m' < m /\ W (i + 1) m' σ' H') /\ ∀ x H',J.yld i H x H' -> g x σ H' fun σ2 H2=>tb { D with nx:=N,ct:=N,bk:=D.nx } σ2 H2)
def nK (fp:List Addr) (h:Heap):List (Addr × Obj):=fp.filterMap fun b=>(h.get? b).map fun o=>(b,o)
theorem gX {fp:List Addr} {h:Heap} {b:Addr} {o:Obj} (hb:b ∈ fp) (e:h.get? b = some o):(b,o) ∈ nK fp h:=List.mem_filterMap.mpr ⟨b,hb,by rw [e]; rfl⟩
theorem vW {fp:List Addr} {h:Heap} {p:Addr × Obj} (hp:p ∈ nK fp h):p.1 ∈ fp /\ h.get? p.1 = some p.2:=by
 obtain ⟨b,hb,e⟩:=List.mem_filterMap.mp hp
 cases q:h.get? b with
 | none=>rw [q] at e; cases e
 | some o =>
  rw [q] at e
  have e':(b,o) = p:=Option.some.inj e
  subst e'
  exact ⟨hb,q⟩
theorem aG.pinned {pins:List (Addr × Obj)} {σ:St} {H:Hp} {s:Shared} {fp:List Addr} (I:aG X pins σ H s) (hf:∀ b ∈ fp,lM X pins H b) (ho:∀ b ∈ fp,∃ o,s.heap.get? b = some o /\ ∀ v,o.data ≠ .cell v):aG X (pins ++ nK fp s.heap) σ H s :=
 I.pins_of fun p hp=>(List.mem_append.mp hp).elim (fun z=>I.pin p (List.mem_append_right _ z)) fun z=>by
  obtain ⟨hb,e⟩:=vW z
  obtain ⟨f0,f1,f2,_⟩:=hf p.1 hb
  obtain ⟨o,e',d⟩:=ho p.1 hb
  rw [e] at e'; cases e'
  exact ⟨e,f0,f1,f2,d⟩
theorem aG.unpinned {pins pl:List (Addr × Obj)} {σ:St} {H:Hp} {s:Shared} (I:aG X (pins ++ pl) σ H s):aG X pins σ H s:=I.pins_of fun p hp=>I.pin p (List.mem_append_right _ (List.mem_append_left _ hp))
theorem DE {iter:Expr} {body:List Stmt} {wi:TI} {g:TG} {tb:TS} {pos:Pos} (hp:PassesOwn (model X.prog X.w) X.A X.env X.xe) (hc:X.calm = true) (hi:PI X tg iter wi) (hg:PG X tg g) (hb:qD X body tb)
  (hs:∀ x,foldedSetIterable iter X.env x = pure x:=by intro _; rfl):PS X (.For tg iter body [] pos) (Cw wi g tb):=by
 intro pins s σ H D I h
 refine wpAny_For (cI (hi pins s σ H _ I h) fun v s1 h1=>cI h1 fun itv s2 h2=>?_) hs
 obtain ⟨it,fp,tn,J,H2,e,I2,T,st2,f2,W,⟨m0,w0⟩,turn⟩:=h2
 subst e
 have stat:∀ {H':Hp},(∀ b ∈ fp,H' b = none) -> ∀ b ∈ fp,lM X pins H' b:=fun hn b hb=>⟨hn b hb,(f2 b hb).2⟩
 refine codeAny_forLoop_any (fun n s'=>∃ i σ' H',aG X pins σ' H' s' /\ tn i s'.heap /\ (∀ b ∈ fp,H' b = none) /\ W i n σ' H') ?_ m0 ⟨0,σ,H2,I2,st2,fun b hb=>(f2 b hb).1,w0⟩
 rintro n s3 ⟨i,σ3,H3,I3,st3,fr3,w3⟩
 rcases turn i n σ3 H3 w3 with ⟨stop,qn⟩ | ⟨go,N,hN,step⟩
 ·refine wpAny_passesOwn hp (cI (T.done X rfl rfl rfl hc i pins s3 σ3 H3 X.xe I3 (stat fr3) st3 stop) fun r s4 ⟨hr,I4⟩=>?_)
  subst hr
  exact wpAny_execs_nil ⟨σ3,H3,I4,qn⟩
 ·refine wpAny_passesOwn hp (cI (T.item X rfl rfl rfl hc i pins s3 σ3 H3 X.xe I3 (stat fr3) st3 go) fun r s4 ⟨u,hr,h4⟩=>?_)
  subst hr
  refine wpAny_passesOwn hp (cI h4 fun _ s5 ⟨x,H5,I5,r5,y5,st5,fr5⟩=>?_)
  have I5':=I5.pinned (stat fr5) (T.obj _ _ st5)
  refine wpAny_passesOwn hp (cI (hg _ s5 σ3 H5 x u _ I5' r5 (step x H5 y5)) fun _ s6 ⟨σ6,H6,I6,q6⟩=>?_)
  refine wpAny_passesOwn hp (cI (hb _ s6 σ6 H6 _ I6 q6) fun f s7 q7=>?_)
  have again:∀ {σ7:St} {H7:Hp},aG X (pins ++ nK fp s5.heap) σ7 H7 s7 -> N σ7 H7 -> ∃ m,m < n /\ ∃ i σ' H',aG X pins σ' H' s7 /\ tn i s7.heap /\ (∀ b ∈ fp,H' b = none) /\ W i m σ' H':=fun {σ7 H7} I7 n7=>by
   obtain ⟨m',hm,w7⟩:=hN σ7 H7 n7
   refine ⟨m',hm,i + 1,σ7,H7,I7.unpinned,T.keep _ _ _ st5 fun b hb o e=>(I7.pin (b,o) (List.mem_append_right _ (List.mem_append_right _ (gX hb e)))).1,fun b hb=>?_,w7⟩
   obtain ⟨o,e,d⟩:=T.obj _ _ st5 b hb
   exact (I7.pin (b,o) (List.mem_append_right _ (List.mem_append_right _ (gX hb e)))).2.1
  cases f with
  | next=>obtain ⟨σ7,H7,I7,n7⟩:=q7; exact again I7 n7
  | cont=>obtain ⟨σ7,H7,I7,n7⟩:=q7; exact again I7 n7
  | brk=>obtain ⟨σ7,H7,I7,q7⟩:=q7; exact ⟨σ7,H7,I7.unpinned,q7⟩
  | ret v=>obtain ⟨x7,σ7,H7,I7,r7,q7⟩:=q7; exact ⟨x7,σ7,H7,I7.unpinned,r7,q7⟩
end
end L2
namespace L2
open PySem PySem.Spec PyProof.Rows
abbrev R2:=V -> V -> Hp -> VK -> Prop
def fo (X:Cx) (f:Value -> Value -> Sem Value) (r:R2):Prop :=
 ∀ (pins:List (Addr × Obj)) (s:Shared) (σ:St) (H:Hp) (x y:V) (v u:Value) (Q:VK),aG X pins σ H s -> bO x v -> bO y u -> r x y H Q ->
  wpAny (model X.prog X.w) X.A (f v u) (EP X pins σ Q) X.xe s
def FR (X:Cx) (f:Value -> Sem Value) (r:V -> Hp -> VK -> Prop):Prop :=
 ∀ (pins:List (Addr × Obj)) (s:Shared) (σ:St) (H:Hp) (x:V) (v:Value) (Q:VK),aG X pins σ H s -> bO x v -> r x H Q ->
  wpAny (model X.prog X.w) X.A (f v) (EP X pins σ Q) X.xe s
def dF (X:Cx) (f:Value) (r:List V -> Hp -> VK -> Prop):Prop :=
 ∀ (pins:List (Addr × Obj)) (s:Shared) (σ:St) (H:Hp) (xs:List V) (us:List Value) (Q:VK),aG X pins σ H s -> aX xs us -> r xs H Q ->
  wpAny (model X.prog X.w) X.A (call f us) (EP X pins σ Q) X.xe s
def Gf (X:Cx) (r:V -> Hp -> (Bool -> Hp -> Prop) -> Prop):Prop :=
 ∀ (pins:List (Addr × Obj)) (s:Shared) (σ:St) (H:Hp) (x:V) (v:Value) (Q:Bool -> Hp -> Prop),aG X pins σ H s -> bO x v -> r x H Q ->
  wpAny (model X.prog X.w) X.A (truthy v) (TP X pins σ Q) X.xe s
def yW (r:R2) (ta tb:TE):TE:=fun σ H Q=>ta σ H fun x H1=>tb σ H1 fun y H2=>r x y H2 Q
def F2 (r:V -> Hp -> VK -> Prop) (ta:TE):TE:=fun σ H Q=>ta σ H fun x H1=>r x H1 Q
def rI (C:Int -> Int -> Prop) (g:Int -> Int -> V):R2:=fun x y H Q=>∃ i j,x = .int i /\ y = .int j /\ C i j /\ Q (g i j) H
def uh (g:Int -> Int -> V):R2:=fun x y H Q=>∃ i j,x = .int i /\ y = .int j /\ Q (g i j) H
def rU (g:Int -> V):V -> Hp -> VK -> Prop:=fun x H Q=>∃ i,x = .int i /\ Q (g i) H
section
variable {X:Cx} {a b c:Expr} {ta tb tc:TE} {pos:Pos}
theorem Db (ha:PE X a ta) (hb:PE X b tb) {pins:List (Addr × Obj)} {s:Shared} {σ:St} {H:Hp} {R:V -> V -> Hp -> Prop} (I:aG X pins σ H s)
  (h:ta σ H fun x H1=>tb σ H1 fun y H2=>R x y H2) {Q:Value -> Shared -> Prop} {f:Value -> Value -> Sem Value}
  (hf:∀ v u s2 x y H2,aG X pins σ H2 s2 -> bO x v -> bO y u -> R x y H2 -> wpAny (model X.prog X.w) X.A (f v u) Q X.xe s2) :
  wpAny (model X.prog X.w) X.A (eval a X.env) (fun v s₁=>wpAny (model X.prog X.w) X.A (eval b X.env) (fun u s₂=>wpAny (model X.prog X.w) X.A (f v u) Q X.xe s₂) X.xe s₁) X.xe s:=by
 refine cI (ha pins s σ H _ I h) fun v s1 ⟨x,H1,I1,r1,q1⟩=>?_
 refine cI (hb pins s1 σ H1 _ I1 q1) fun u s2 ⟨y,H2,I2,r2,q2⟩=>?_
 exact hf v u s2 x y H2 I2 r1 r2 q2
theorem ED {op:Operator} {r:R2} (ho:fo X (binaryOp op) r) (ha:PE X a ta) (hb:PE X b tb):PE X (.BinOp a op b pos) (yW r ta tb):=by
 intro pins s σ H Q I h
 exact wpAny_BinOp (Db ha hb I h fun v u s2 x y H2 I2 rx ry q=>ho pins s2 σ H2 x y v u Q I2 rx ry q)
theorem Fn {op:UnaryOp} {r:V -> Hp -> VK -> Prop} (ho:FR X (unaryOp op) r) (ha:PE X a ta):PE X (.UnaryOp op a pos) (F2 r ta):=by
 intro pins s σ H Q I h
 exact UnaryOp_ (cI (ha pins s σ H _ I h) fun v s1 ⟨x,H1,I1,r1,q1⟩=>ho pins s1 σ H1 x v Q I1 r1 q1)
theorem Fe {f:Value -> Value -> Sem Value} {C:Int -> Int -> Prop} {g:Int -> Int -> Int}
  (rule:∀ (i j:Int) (t u:Tok) (s:Shared) (Q:Value -> Shared -> Prop) (E:Value -> Shared -> Prop),C i j -> Q (.int (g i j) s.toks) { s with toks:=s.toks + 1 } -> wpAny (model X.prog X.w) X.A (f (.int i t) (.int j u)) Q E s) :
  fo X f (rI C fun i j=>.int (g i j)):=by
 intro pins s σ H x y v u Q I rx ry h
 obtain ⟨i,j,rfl,rfl,hc,q⟩:=h
 obtain ⟨t,rfl⟩:=rx
 obtain ⟨t',rfl⟩:=ry
 exact rule i j t t' s _ _ hc ⟨.int (g i j),H,I.tok _,⟨_,rfl⟩,q⟩
theorem Fb {f:Value -> Value -> Sem Value} {g:Int -> Int -> Int}
  (rule:∀ (i j:Int) (t u:Tok) (s:Shared) (Q:Value -> Shared -> Prop) (E:Value -> Shared -> Prop),Q (.int (g i j) s.toks) { s with toks:=s.toks + 1 } -> wpAny (model X.prog X.w) X.A (f (.int i t) (.int j u)) Q E s) :
  fo X f (uh fun i j=>.int (g i j)):=by
 intro pins s σ H x y v u Q I rx ry h
 obtain ⟨i,j,rfl,rfl,q⟩:=h
 obtain ⟨t,rfl⟩:=rx
 obtain ⟨t',rfl⟩:=ry
 exact rule i j t t' s _ _ ⟨.int (g i j),H,I.tok _,⟨_,rfl⟩,q⟩
theorem zS {f:Value -> Value -> Sem Value} {g:Int -> Int -> Bool}
  (rule:∀ (i j:Int) (t u:Tok) (s:Shared) (Q:Value -> Shared -> Prop) (E:Value -> Shared -> Prop),Q (.bool (g i j)) s -> wpAny (model X.prog X.w) X.A (f (.int i t) (.int j u)) Q E s) :
  fo X f (uh fun i j=>.bl (g i j)):=by
 intro pins s σ H x y v u Q I rx ry h
 obtain ⟨i,j,rfl,rfl,q⟩:=h
 obtain ⟨t,rfl⟩:=rx
 obtain ⟨t',rfl⟩:=ry
 exact rule i j t t' s _ _ ⟨.bl (g i j),H,I,rfl,q⟩
def Ff (i j:Int):Prop:=0 <= j /\ j <= 1000000 /\ i.natAbs < 2 ^ 64
theorem CY:fo X (binaryOp .Add) (uh fun i j=>.int (i + j)):=Fb fun _ _ _ _ _ _ _ q=>add_int q
theorem cZ:fo X (binaryOp .Sub) (uh fun i j=>.int (i - j)):=Fb fun _ _ _ _ _ _ _ q=>sub_int q
theorem AA:fo X (binaryOp .Mod) (rI (fun _ j=>j ≠ 0) fun i j=>.int (i.fmod j)):=Fe fun _ _ _ _ _ _ _ hc q=>mod_int' hc q
theorem yH:fo X (binaryOp .Pow) (rI Ff fun i j=>.int (i ^ j.toNat)):=Fe fun _ _ _ _ _ _ _ hc q=>pow_int_small hc.1 hc.2.1 hc.2.2 q
theorem GA {f:Value -> Sem Value} {g:Int -> Int}
  (rule:∀ (i:Int) (t:Tok) (s:Shared) (Q:Value -> Shared -> Prop) (E:Value -> Shared -> Prop),Q (.int (g i) s.toks) { s with toks:=s.toks + 1 } -> wpAny (model X.prog X.w) X.A (f (.int i t)) Q E s) :
  FR X f (rU fun i=>.int (g i)):=by
 intro pins s σ H x v Q I rx h
 obtain ⟨i,rfl,q⟩:=h
 obtain ⟨t,rfl⟩:=rx
 exact rule i t s _ _ ⟨.int (g i),H,I.tok _,⟨_,rfl⟩,q⟩
theorem cY:FR X (unaryOp .USub) (rU fun i=>.int (-i)):=GA fun _ _ _ _ _ q=>neg_int q
end
def wn:V -> V -> Bool
 | .non,.non=>true | .non,.int _=>true | .int _,.non=>true | .non,.bl _=>true | .bl _,.non=>true | .non,.str _=>true | .str _,.non=>true
 | .int _,.int _=>true | .bl _,.bl _=>true | .str _,.str _=>true | .byt _,.byt _=>true
 | .int _,.str _=>true | .str _,.int _=>true | .bl _,.str _=>true | .str _,.bl _=>true
 | _,_=>false
def Ew:R2:=fun x y H Q=>wn x y = true /\ Q (.bl (decide (x = y))) H
def El:R2:=fun x y H Q=>wn x y = true /\ Q (.bl (!decide (x = y))) H
theorem uA {i j:Int}:decide (V.int i = V.int j) = (i == j):=by
 rw [Bool.eq_iff_iff]
 simp
theorem wT {i j:Bool}:decide (V.bl i = V.bl j) = (i == j):=by
 rw [Bool.eq_iff_iff]
 simp
theorem uU {i j:Str}:decide (V.str i = V.str j) = (i == j):=by
 rw [Bool.eq_iff_iff]
 simp
theorem vB {i j:Array UInt8}:decide (V.byt i = V.byt j) = (i.toList == j.toList):=by
 rw [Bool.eq_iff_iff]
 cases i
 cases j
 simp
section
variable {X:Cx} {a b c:Expr} {ta tb tc:TE} {pos:Pos}
theorem bK {pins:List (Addr × Obj)} {σ:St} {H:Hp} {s:Shared} {Q:VK} {k k':Bool} (I:aG X pins σ H s) (q:Q (.bl k) H) (e:k = k'):EP X pins σ Q (.bool k') s:=by
 subst e
 exact ⟨.bl k,H,I,rfl,q⟩
theorem ik:fo X (compareOp .Eq) Ew:=by
 intro pins s σ H x y v u Q I rx ry h
 obtain ⟨hs,q⟩:=h
 cases x with
 | non =>
  cases rx
  cases y with
  | non=>cases ry; exact PySem.EqNone.eq_none_none (bK I q (by simp))
  | bl j=>cases ry; exact PySem.EqNone.eq_none_bool (bK I q (by simp))
  | int j=>obtain ⟨t',rfl⟩:=ry; exact PySem.EqNone.eq_none_int (bK I q (by simp))
  | str j=>obtain ⟨t',rfl⟩:=ry; exact PySem.EqNone.eq_none_str (bK I q (by simp))
  | _=>exact absurd (show false = true from hs) Bool.false_ne_true
 | bl i =>
  cases rx
  cases y with
  | non=>cases ry; exact PySem.EqNone.eq_bool_none (bK I q (by simp))
  | bl j=>cases ry; exact eq_bool (bK I q wT)
  | str j=>obtain ⟨t',rfl⟩:=ry; exact PySem.EqMixed.eq_bool_str (bK I q (by simp))
  | _=>exact absurd (show false = true from hs) Bool.false_ne_true
 | int i =>
  obtain ⟨t,rfl⟩:=rx
  cases y with
  | non=>cases ry; exact PySem.EqNone.eq_int_none (bK I q (by simp))
  | int j=>obtain ⟨t',rfl⟩:=ry; exact eq_int (bK I q uA)
  | str j=>obtain ⟨t',rfl⟩:=ry; exact PySem.EqMixed.eq_int_str (bK I q (by simp))
  | _=>exact absurd (show false = true from hs) Bool.false_ne_true
 | str i =>
  obtain ⟨t,rfl⟩:=rx
  cases y with
  | non=>cases ry; exact PySem.EqNone.eq_str_none (bK I q (by simp))
  | bl j=>cases ry; exact PySem.EqMixed.eq_str_bool (bK I q (by simp))
  | int j=>obtain ⟨t',rfl⟩:=ry; exact PySem.EqMixed.eq_str_int (bK I q (by simp))
  | str j=>obtain ⟨t',rfl⟩:=ry; exact eq_str (bK I q uU)
  | _=>exact absurd (show false = true from hs) Bool.false_ne_true
 | byt i =>
  obtain ⟨t,rfl⟩:=rx
  cases y with
  | byt j=>obtain ⟨t',rfl⟩:=ry; exact PySem.W.eq_bytes (bK I q vB)
  | _=>exact absurd (show false = true from hs) Bool.false_ne_true
 | _=>cases y <;> exact absurd (show false = true from hs) Bool.false_ne_true
theorem rN:fo X (compareOp .NotEq) El:=by
 intro pins s σ H x y v u Q I rx ry h
 obtain ⟨hs,q⟩:=h
 cases x with
 | non =>
  cases rx
  cases y with
  | non=>cases ry; exact PySem.EqNone.ne_none_none (bK I q (by simp))
  | bl j=>cases ry; exact PySem.EqNone.ne_none_bool (bK I q (by simp))
  | int j=>obtain ⟨t',rfl⟩:=ry; exact PySem.EqNone.ne_none_int (bK I q (by simp))
  | str j=>obtain ⟨t',rfl⟩:=ry; exact PySem.EqNone.ne_none_str (bK I q (by simp))
  | _=>exact absurd (show false = true from hs) Bool.false_ne_true
 | bl i =>
  cases rx
  cases y with
  | non=>cases ry; exact PySem.EqNone.ne_bool_none (bK I q (by simp))
  | bl j=>cases ry; exact ne_bool (bK I q (congrArg not wT))
  | str j=>obtain ⟨t',rfl⟩:=ry; exact PySem.EqMixed.ne_bool_str (bK I q (by simp))
  | _=>exact absurd (show false = true from hs) Bool.false_ne_true
 | int i =>
  obtain ⟨t,rfl⟩:=rx
  cases y with
  | non=>cases ry; exact PySem.EqNone.ne_int_none (bK I q (by simp))
  | int j=>obtain ⟨t',rfl⟩:=ry; exact ne_int (bK I q (congrArg not uA))
  | str j=>obtain ⟨t',rfl⟩:=ry; exact PySem.EqMixed.ne_int_str (bK I q (by simp))
  | _=>exact absurd (show false = true from hs) Bool.false_ne_true
 | str i =>
  obtain ⟨t,rfl⟩:=rx
  cases y with
  | non=>cases ry; exact PySem.EqNone.ne_str_none (bK I q (by simp))
  | bl j=>cases ry; exact PySem.EqMixed.ne_str_bool (bK I q (by simp))
  | int j=>obtain ⟨t',rfl⟩:=ry; exact PySem.EqMixed.ne_str_int (bK I q (by simp))
  | str j=>obtain ⟨t',rfl⟩:=ry; exact ne_str (bK I q (congrArg not uU))
  | _=>exact absurd (show false = true from hs) Bool.false_ne_true
 | byt i =>
  obtain ⟨t,rfl⟩:=rx
  cases y with
  | byt j=>obtain ⟨t',rfl⟩:=ry; exact PySem.W.ne_bytes (bK I q (congrArg not vB))
  | _=>exact absurd (show false = true from hs) Bool.false_ne_true
 | _=>cases y <;> exact absurd (show false = true from hs) Bool.false_ne_true
theorem jM:fo X (compareOp .Lt) (uh fun i j=>.bl (decide (i < j))):=zS fun _ _ _ _ _ _ _ q=>lt_int q
theorem yk:fo X (compareOp .LtE) (uh fun i j=>.bl (decide (i <= j))):=zS fun _ _ _ _ _ _ _ q=>le_int q
theorem km:fo X (compareOp .Gt) (uh fun i j=>.bl (decide (j < i))):=zS fun _ _ _ _ _ _ _ q=>gt_int q
theorem E3:fo X (compareOp .GtE) (uh fun i j=>.bl (decide (j <= i))):=zS fun _ _ _ _ _ _ _ q=>ge_int q
theorem fo.or {f:Value -> Value -> Sem Value} {r r':R2} (h:fo X f r) (h':fo X f r'):fo X f (fun x y H Q=>r x y H Q \/ r' x y H Q):=by
 intro pins s σ H x y v u Q I rx ry q
 rcases q with q | q
 ·exact h pins s σ H x y v u Q I rx ry q
 ·exact h' pins s σ H x y v u Q I rx ry q
theorem aK (b:Expr) {op:CmpOp} (h:op ≠ .In:=by decide) (h2:op ≠ .NotIn:=by decide):behindInMarks op b = false:=by
 have e1:(op == CmpOp.In) = false:=by cases op <;> first | rfl | exact absurd rfl h
 have e2:(op == CmpOp.NotIn) = false:=by cases op <;> first | rfl | exact absurd rfl h2
 cases b <;> simp [behindInMarks,e1,e2]
theorem Be {op:CmpOp} {r:R2} (ho:fo X (compareOp op) r) (ha:PE X a ta) (hb:PE X b tb) (hm:behindInMarks op b = false):PE X (.Compare a [op] [b] pos) (yW r ta tb):=by
 intro pins s σ H Q I h
 exact wpAny_Compare1 (Db ha hb I h fun v u s2 x y H2 I2 rx ry q=>ho pins s2 σ H2 x y v u Q I2 rx ry q) hm
def ua (t:TE):TT:=fun σ H Q=>t σ H fun x H'=>∃ k,x = .bl k /\ Q k H'
theorem AL {op:CmpOp} {r:R2} (ho:fo X (compareOp op) r) (ha:PE X a ta) (hb:PE X b tb) (hm:behindInMarks op b = false):PT X (.Compare a [op] [b] pos) (ua (yW r ta tb)):=by
 intro pins s σ H Q I h
 refine wpAny_isTrue_Compare1 (cI (ha pins s σ H _ I h) fun v s1 ⟨x,H1,I1,r1,q1⟩=>cI (hb pins s1 σ H1 _ I1 q1) fun u s2 ⟨y,H2,I2,r2,q2⟩ =>
  cI (ho pins s2 σ H2 x y v u _ I2 r1 r2 q2) fun c s3 ⟨z,H3,I3,r3,k,e,q3⟩=>?_) hm
 subst e
 cases r3
 exact wpAny_truthy_bool ⟨H3,I3,q3⟩
def rf (K:PySem.W.Frag) (x:V) (H:Hp) (k:Bool):Prop :=
 match x with
 | .non=>k = false
 | .bl b=>k = b
 | .int i=>k = (i != 0)
 | .str y=>y.length <= sizeLine /\ k = ((y.length:Int) != 0)
 | .byt y=>y.size <= sizeLine /\ k = ((y.size:Int) != 0)
 | .ref p=>(∃ xs,hZ K H p xs /\ k = !xs.isEmpty) \/ (∃ xs,sM K H p xs /\ k = !xs.isEmpty) \/ ∃ kvs,H p = some (.dK kvs) /\ k = !kvs.isEmpty
 | _=>False
theorem tE {κ:Type} {kvs:List (κ × V)} {vs:List (κ × Value)} (r:KV kvs vs):(!vs.isEmpty) = !kvs.isEmpty:=by
 cases r <;> rfl
theorem mY {xs:List V} {its:List Value} (r:aX xs its):(!its.toArray.isEmpty) = !xs.isEmpty:=by
 cases r <;> simp
theorem kQ:(sizeLine:Nat) < 2 ^ 63:=by rw [sizeLine_eq]; decide
theorem sW:Gf X (fun x H Q=>∃ k,rf X.K x H k /\ Q k H):=by
 intro pins s σ H x v Q I rx h
 obtain ⟨k,e,q⟩:=h
 have hl:=kQ
 have hs:sizeLine = 16777216:=sizeLine_eq
 cases x with
 | non =>
  cases rx
  have e':k = false:=e
  subst e'
  exact truthy_none ⟨H,I,q⟩
 | bl b =>
  cases rx
  have e':k = b:=e
  subst e'
  exact wpAny_truthy_bool ⟨H,I,q⟩
 | int i =>
  obtain ⟨t,rfl⟩:=rx
  have e':k = (i != 0):=e
  subst e'
  exact PySem.P.truthy_int ⟨H,I,q⟩
 | str y =>
  obtain ⟨t,rfl⟩:=rx
  obtain ⟨hy,e'⟩ : y.length <= sizeLine /\ k = ((y.length:Int) != 0):=e
  subst e'
  exact PySem.P.truthy_str (by walk_at "o") ⟨H,I.tok _,q⟩
 | byt y =>
  obtain ⟨t,rfl⟩:=rx
  obtain ⟨hy,e'⟩ : y.size <= sizeLine /\ k = ((y.size:Int) != 0):=e
  subst e'
  exact PySem.W.truthy_bytes (by walk_at "o") ⟨H,I.tok _,q⟩
 | ref p =>
  cases rx
  have e':(∃ xs,hZ X.K H p xs /\ k = !xs.isEmpty) \/ (∃ xs,sM X.K H p xs /\ k = !xs.isEmpty) \/ ∃ kvs,H p = some (.dK kvs) /\ k = !kvs.isEmpty:=e
  rcases e' with ⟨xs,hx,e'⟩ | ⟨xs,hx,e'⟩ | ⟨kvs,hx,e'⟩
  ·subst e'
   obtain ⟨its,r,pl,hz⟩:=I.list hx
   have hlen:=r.length
   exact wpAny_truthy_list pl.isList (by simp only [List.size_toArray]; walk_at "o") ⟨H,I.tok _,by rw [mY r]; exact q⟩
  ·subst e'
   obtain ⟨its,r,pl,hz⟩:=I.tuple hx
   have hlen:=r.length
   exact truthy_tuple pl (by simp only [List.size_toArray]; walk_at "o") ⟨H,I.tok _,by rw [mY r]; exact q⟩
  ·subst e'
   obtain ⟨hz,hS,vs,r,m⟩ : kvs.length <= sizeLine /\ (p == sysModules) = false /\ ∃ vs,KV kvs vs /\ s.heap.DictOf (pP X.prog X.w) p vs:=I.hok p _ hx
   have hlen:kvs.length = vs.length:=Paired.length r
   exact wpAny_truthy_dict hS m (by walk_at "o") ⟨H,I.tok _,by rw [tE r]; exact q⟩
 | _=>exact (show False from e).elim
theorem wZ (ha:PE X a ta) (he:∀ whole,isTrue a X.env whole = (do let v <- whole; standAt a.pos; holding [v] (truthy v))) :
  PT X a (fun σ H Q=>ta σ H fun x H'=>∃ k,rf X.K x H' k /\ Q k H'):=by
 intro pins s σ H Q I h
 exact isTrue_plain (cI (ha pins s σ H _ I h) fun v s1 ⟨x,H1,I1,r1,q1⟩=>sW pins s1 σ H1 x v Q I1 r1 q1) (he _)
theorem uk {x:V} {us:List Value} (r:aX [x] us):∃ u,us = [u] /\ bO x u:=by
 cases r with
 | cons r1 r2=>cases r2; exact ⟨_,rfl,r1⟩
theorem vt {x y:V} {us:List Value} (r:aX [x,y] us):∃ u w',us = [u,w'] /\ bO x u /\ bO y w':=by
 cases r with
 | cons r1 r2 =>
  cases r2 with
  | cons r3 r4=>cases r4; exact ⟨_,_,rfl,r1,r3⟩
theorem nZ:dF X (.builtin "abs") (fun xs H Q=>∃ i,xs = [.int i] /\ Q (.int (if i < 0 then -i else i)) H):=by
 intro pins s σ H xs us Q I r h
 obtain ⟨i,rfl,q⟩:=h
 obtain ⟨u,rfl,t,rfl⟩:=uk r
 exact call_abs_int fun u tk=>⟨.int (if i < 0 then -i else i),H,I.tok _,⟨_,rfl⟩,q⟩
theorem lK (hc:X.calm = true):dF X (.builtin "max") (fun xs H Q=>∃ i j,xs = [.int i,.int j] /\ Q (.int (if j > i then j else i)) H):=by
 intro pins s σ H xs us Q I r h
 obtain ⟨i,j,rfl,q⟩:=h
 obtain ⟨u,w',rfl,⟨t,rfl⟩,⟨t',rfl⟩⟩:=vt r
 refine max_two_ints (I.ok.hd hc) fun h' tk k=>⟨_,H,I.kept k,?_,q⟩
 by_cases hj:j > i
 ·rw [if_pos hj,if_pos hj]; exact ⟨_,rfl⟩
 ·rw [if_neg hj,if_neg hj]; exact ⟨_,rfl⟩
theorem vS (hc:X.calm = true):dF X (.builtin "min") (fun xs H Q=>∃ i j,xs = [.int i,.int j] /\ Q (.int (if j < i then j else i)) H):=by
 intro pins s σ H xs us Q I r h
 obtain ⟨i,j,rfl,q⟩:=h
 obtain ⟨u,w',rfl,⟨t,rfl⟩,⟨t',rfl⟩⟩:=vt r
 refine min_two_ints (I.ok.hd hc) fun h' tk k=>⟨_,H,I.kept k,?_,q⟩
 by_cases hj:j < i
 ·rw [if_pos hj,if_pos hj]; exact ⟨_,rfl⟩
 ·rw [if_neg hj,if_neg hj]; exact ⟨_,rfl⟩
end
end L2
namespace L2
open PySem PySem.Spec PyProof.Rows
structure Cv (h:Heap) (x dx C:Addr) (mA:Str -> Option Value):Prop where
 obj:h.get? x = some (PySem.W.instObj C dx)
 ns:h.Ns1 dx mA
 ne:dx ≠ x
theorem vM {h:Heap} {dx:Addr} {mA:Str -> Option Value} (n:h.Ns1 dx mA):∃ od,h.get? dx = some od /\ ∀ name,PySem.W.lookIn name od = some (mA name):=by
 obtain ⟨o,es,ep,ho,hd,hk,_,hm⟩:=n
 refine ⟨o,ho,fun name=>?_⟩
 have e:=hm name
 unfold nsFind findBy at e
 rw [<- Array.find?_toList] at e
 unfold PySem.W.lookIn
 rw [hd]
 dsimp only
 split
 ·rename_i y q
  rw [q] at e
  exact congrArg some e
 ·rename_i q
  rw [q] at e
  have a:es.toList.any (·.refKey) = false:=by
   rw [List.any_eq_false]
   intro y hy
   obtain ⟨z,t,hkey⟩:=hk y (Array.mem_toList_iff.mp hy)
   simp [DictEntry.refKey,hkey]
  have a':¬ es.toList.any (·.refKey) = true:=by rw [a]; exact Bool.false_ne_true
  rw [if_neg a']
  exact congrArg some e
theorem Cv.look {h:Heap} {x dx C:Addr} {mA:Str -> Option Value} (I:Cv h x dx C mA):∃ od,PySem.W.InstAt h x (PySem.W.instObj C dx) C (some od) /\ ∀ name,PySem.W.lookIn name od = some (mA name) :=
 let ⟨od,ho,hl⟩:=vM I.ns
 ⟨od,⟨I.obj,rfl,rfl,ho⟩,hl⟩
section
variable {prog:Program} {w:World} {A:Around} {E:Value -> Shared -> Prop} {s:Shared} {K:PySem.W.Frag} {x dx C f:Addr} {mA:Str -> Option Value} {name:Str} {v:Value}
end
section
variable {P:Program} {w:World} {H H':Hp} {h h':Heap} {a C dx:Addr} {fs fs':List (Str × V)}
theorem Ae (hok:kg P w H h) (e:H a = some (.ins C dx fs)):∃ mA,Cv h a dx C mA /\ (∀ f,Cn (fs.lookup f) (mA f)) /\ PySem.Within mA (fs.map (·.1)) /\ fs.length <= 1000 /\ H dx = some (.own a):=by
 obtain ⟨d,z,ne,ob,mA,n,r,q⟩:=(show dz P w H h a (.ins C dx fs) from hok a _ e)
 exact ⟨mA,⟨ob,n,ne⟩,r,q,z,d⟩
end
structure Go (K:PySem.W.Frag) (C:Addr):Prop where
 pg:PySem.W.plainGet K C Str.empty = true
 hd:PySem.W.hasDictIn K C = true
 po:PySem.W.plainOver K C = true
 sa:PySem.W.findIn K (.ref C) "__setattr__" = some (some (.builtin "object.__setattr__"))
theorem Go.get {K:PySem.W.Frag} {C:Addr} (c:Go K C) (f:Str):PySem.W.plainGet K C f = true:=c.pg
section
variable {X:Cx} {pins:List (Addr × Obj)} {σ:St} {H:Hp} {s:Shared} {a C dx:Addr} {fs:List (Str × V)} {f:Str} {v:V} {A:Around} {E:Value -> Shared -> Prop}
end
section
variable {X:Cx} {o e value:Expr} {f:Str} {pos pos' tpos:Pos} {ta tv:TE}
end
section
variable {X:Cx} {pins:List (Addr × Obj)} {σ:St} {H:Hp} {s:Shared} {A:Around} {E:Value -> Shared -> Prop} {Q:Value -> Shared -> Prop} {c:Value} {b:Bool}
inductive ml (K:PySem.W.Frag) (H:Hp):V -> Value -> Prop where
 | non:ml K H .non (.type "NoneType")
 | bl (x:Bool):ml K H (.bl x) (.type "bool")
 | int (i:Int):ml K H (.int i) (.type "int")
 | str (x:Str):ml K H (.str x) (.type "str")
 | flt (x:UInt64):ml K H (.flt x) (.type "float")
 | lst {a:Addr} {xs:List V} (e:H a = some (.lst xs)):ml K H (.ref a) (.type "list")
 | frz {a:Addr} {o:Obj} {xs:List V} (e:H a = some (.frz o (.lst xs))):ml K H (.ref a) (.type "list")
 | tup {a:Addr} {xs:List V} (e:H a = some (.tup xs)):ml K H (.ref a) (.type "tuple")
 | dK {a:Addr} {kvs:List (rn × V)} (e:H a = some (.dK kvs)):ml K H (.ref a) (.type "dict")
 | dT {a:Addr} {kvs:List (List rn × V)} (e:H a = some (.dT kvs)):ml K H (.ref a) (.type "dict")
 | ins {a C dx:Addr} {fs:List (Str × V)} (e:H a = some (.ins C dx fs)) (cl:Go K C) (ha:PySem.W.findIn K (.ref C) "__class__" = some (some (.builtin "object.__class__")))
   (hn:PySem.W.specialIn K (.builtin "object.__class__") "__get__" = some (some (.builtin "getset_descriptor.__get__"))) (htk:PySem.W.takesIn K (.builtin "object.__class__") = some true)
   (hm:PySem.W.mroIn K C (.type "object") = some true):ml K H (.ref a) (.ref C)
theorem fe {x:V} {u t:Value} (I:aG X pins σ H s) (rx:bO x u) (ty:ml X.K H x t) (e:PySem.W.kitOne X.K t c = some b) (h:∀ tk,Q (.bool b) { s with toks:=tk }) :
  wpAny (model X.prog X.w) A (call (.builtin "isinstance") [u,c]) Q E s:=by
 cases ty with
 | non=>cases (show u = Value.none from rx); exact PySem.W.kia_one PySem.W.kitx_none I.kIn True.intro e (fun z=>nomatch z) h
 | bl y=>cases (show u = Value.bool y from rx); exact PySem.W.kia_one PySem.W.kitx_bool I.kIn True.intro e (fun z=>nomatch z) h
 | int i=>obtain ⟨t,q⟩:=(show ∃ t,u = Value.int i t from rx); cases q; exact PySem.W.kia_one PySem.W.kitx_int I.kIn True.intro e (fun z=>nomatch z) h
 | str y=>obtain ⟨t,q⟩:=(show ∃ t,u = Value.str y t from rx); cases q; exact PySem.W.kia_one PySem.W.kitx_str I.kIn True.intro e (fun z=>nomatch z) h
 | flt y=>obtain ⟨t,q⟩:=(show ∃ t,u = Value.float y t from rx); cases q; exact PySem.W.kia_one PySem.W.kitx_float I.kIn True.intro e (fun z=>nomatch z) h
 | @lst a xs ea =>
  cases (show u = Value.ref a from rx)
  obtain ⟨_,_,n,_,h1⟩:=(show dz X.prog X.w H s.heap a (.lst xs) from I.hok a _ ea)
  exact PySem.W.kia_one PySem.W.kitx_list I.kIn ⟨_,h1,rfl⟩ e (fun z=>nomatch z) h
 | @frz a ob xs ea =>
  cases (show u = Value.ref a from rx)
  obtain ⟨_,_,_,n,_,h1⟩:=(show dz X.prog X.w H s.heap a (.frz ob (.lst xs)) from I.hok a _ ea)
  exact PySem.W.kia_one PySem.W.kitx_list I.kIn ⟨_,h1,rfl⟩ e (fun z=>nomatch z) h
 | @tup a xs ea =>
  cases (show u = Value.ref a from rx)
  obtain ⟨_,_,_,p⟩:=(show dz X.prog X.w H s.heap a (.tup xs) from I.hok a _ ea)
  obtain ⟨o,h1,h2,_⟩:=p
  exact PySem.W.kia_one PySem.W.kitx_tuple I.kIn ⟨o,h1,h2⟩ e (fun z=>nomatch z) h
 | @dK a kvs ea =>
  cases (show u = Value.ref a from rx)
  obtain ⟨_,_,vs,_,p⟩:=(show dz X.prog X.w H s.heap a (.dK kvs) from I.hok a _ ea)
  obtain ⟨o,es,ep,h1,h2,_⟩:=p
  exact PySem.W.kia_one PySem.W.kitx_dict I.kIn ⟨o,h1,h2.1⟩ e (fun z=>nomatch z) h
 | @dT a kvs ea =>
  cases (show u = Value.ref a from rx)
  obtain ⟨_,_,xs,_,o,es,ep,h1,h2,_⟩:=(show dz X.prog X.w H s.heap a (.dT kvs) from I.hok a _ ea)
  exact PySem.W.kia_one PySem.W.kitx_dict I.kIn ⟨o,h1,h2.1⟩ e (fun z=>nomatch z) h
 | @ins a C dx fs ea cl ha hn htk hm =>
  cases (show u = Value.ref a from rx)
  obtain ⟨mA,O,_⟩:=Ae I.hok ea
  obtain ⟨od,J,_⟩:=O.look
  exact PySem.W.kia_one (PySem.W.kitx_own (cl.get _) cl.hd ha hn htk hm) I.kIn J e (fun z=>nomatch z) h
end
end L2
namespace L2
open PySem PySem.Spec PyProof.Rows
structure cW (k:Nat) (A:Around):Prop where
 hd:A.handled = none
 dp:A.depth + 3 * k + 105 < recursionLimit
 un:A.units + 16 * k + 200 < cLine
theorem cW.mono {j k:Nat} {A:Around} (r:cW k A) (h:j <= k):cW j A:=⟨r.hd,by have:=r.dp; walk_at "o",by have:=r.un; walk_at "o"⟩
theorem cW.deeper {k:Nat} {A:Around} (r:cW (k + 1) A) (env:Env):cW k (A.deeper env) :=
 ⟨r.hd,by have:=r.dp; show A.depth + 1 + 3 * k + 105 < _; walk_at "o",by have:=r.un; show A.units + 3 + 16 * k + 200 < _; walk_at "o"⟩
theorem cW.depth {k:Nat} {A:Around} (r:cW k A):A.depth < recursionLimit:=by have:=r.dp; walk_at "o"
def nN:TA:=fun _ H Q=>Q [] H
def gB (ta:TE) (tr:TA):TA:=fun σ H Q=>ta σ H fun x H1=>tr σ H1 fun xs H2=>Q (x :: xs) H2
section
variable {X:Cx} {e:Expr} {es:List Expr} {te:TE} {t:TA} {pos:Pos}
theorem CT:PA X [] nN:=fun _ _ _ _ H Q I h=>Calls.spliced_nil ⟨[],H,I,.nil,h⟩
theorem AH (ha:PE X e te) (hr:PA X es t) (hs:starEach (e :: es) X.env = (false,eval e X.env) :: starEach es X.env:=by rfl):PA X (e :: es) (gB te t):=by
 intro pos pins s σ H Q I h
 rw [hs]
 show wpAny _ _ (spliced ((false,eval e X.env) :: backTo pos (starEach es X.env))) _ _ s
 refine Calls.spliced_cons (cI (ha pins s σ H _ I h) fun u s1 ⟨x,H1,I1,r1,q1⟩=>?_)
 exact cI (hr pos pins s1 σ H1 _ I1 q1) fun us s2 ⟨xs,H2,I2,r2,q2⟩=>⟨x :: xs,H2,I2,.cons r1 r2,q2⟩
end
abbrev Sp:=List V -> Hp -> VK -> XK -> Prop
abbrev tG:=List Env -> Hp -> Shared -> XK -> Value -> Shared -> Prop
structure oz (P:Program) (w:World) (K:PySem.W.Frag) (mg:Str -> Option Value) (base:Heap) (A:Around) (outer:List Env) (s:Shared) (H:Hp):Prop where
 frames:A.frames = some outer
 mod:Mod K mg base
 bs:∀ b o,base.get? b = some o -> s.heap.get? b = some o /\ H b = none
 bsz:base.objs.size <= s.heap.objs.size
 funs:s.heap.FunFrames base outer
 frf:∀ b ∈ gD outer,H b = none
 hok:kg P w H s.heap
 bare:AllBare s.gens
def CE (outer:List Env) (P:Program) (w:World) (H:Hp) (s:Shared) (Q:VK) (u:Value) (s':Shared):Prop :=
 ∃ v H',s'.os = s.os /\ AllBare s'.gens /\ Un (gD outer) [] H H' s.heap s'.heap /\ kg P w H' s'.heap /\ bO v u /\ Q v H'
def CR (CX:tG) (outer:List Env) (P:Program) (w:World) (H:Hp) (s:Shared) (Q:VK) (E:XK) (r:Result) (s':Shared):Prop :=
 match r with
 | .ok (.ret u)=>CE outer P w H s Q u s'
 | .ok _=>False
 | .error e=>CX outer H s E e s'
structure aV (P:Program) (w:World) (K:PySem.W.Frag) (mg:Str -> Option Value) (base:Heap) (CX:tG) (k:Nat) (f:Addr) (fd:FuncData) (ps:List Str) (sp:Sp):Prop where
 len:∀ vs H Q E,sp vs H Q E -> vs.length = ps.length
 run:∀ (A:Around) (outer:List Env) (s:Shared) (H:Hp) (args:Args) (us:List Value) (vs:List V) (Q:VK) (E:XK),cW k A -> oz P w K mg base A outer s H -> BindsTo s fd args (ps.zip us) -> aX vs us -> sp vs H Q E ->
  codeAny (model P w) A (.call (.ref f) args) (CR CX outer P w H s Q E) s
section
variable {X:Cx} {pins:List (Addr × Obj)} {σ:St} {H:Hp} {s s':Shared}
theorem aG.env0 (I:aG X pins σ H s):oz X.prog X.w X.K X.mg X.base X.A X.stack s H :=
 ⟨I.ok.frames,I.ok.mod,I.bs,Nat.le_trans I.ok.bsz I.sz,I.stack,I.stkFree,I.hok,I.bare⟩
theorem aG.after {Q:VK} {u:Value} (I:aG X pins σ H s) (h:CE X.stack X.prog X.w H s Q u s'):EP X pins σ Q u s':=by
 obtain ⟨v,H',os,bare,un,hok,r,q⟩:=h
 obtain ⟨hh,g,d,t,os'⟩:=s'
 obtain rfl:os' = s.os:=os
 exact ⟨v,H',I.call (h':=hh) (g':=g) (d':=d) (t':=t) (ch:=[]) un hok bare (fun b z=>absurd z (by simp)),r,q⟩
end
def Fh (sp:Sp) (dvs:List V) (E:XK) (t:TA):TE:=fun σ H Q=>t σ H fun vs H1=>sp (vs ++ dvs) H1 Q E
def ku (K:PySem.W.Frag) (fd:FuncData) (ps:List Str) (ds:List Value):Prop :=
 ∀ (s:Shared) (us:List Value),K.In s.heap -> (us ++ ds).length = ps.length -> BindsTo s fd ⟨us,[]⟩ (ps.zip (us ++ ds))
theorem ku.all {K:PySem.W.Frag} {fd:FuncData} {ps:List Str} (h:∀ us:List Value,us.length = ps.length -> bindArgs fd ⟨us,[]⟩ = pure (ps.zip us)):ku K fd ps []:=fun s us _ hl=>by
 rw [List.append_nil] at hl ⊢
 exact .of_eq (h us hl)
def sV (CX:tG) (X:Cx) (E:XK):Prop:=∀ (pins:List (Addr × Obj)) (σ:St) (H:Hp) (s:Shared) (e:Value) (s':Shared),aG X pins σ H s -> CX X.stack H s E e s' -> X.xe e s'
section
variable {X:Cx} {CX:tG} {k:Nat} {f C:Addr} {fd:FuncData} {ps:List Str} {sp:Sp} {dvs:List V} {ds:List Value} {E:XK} {x m:Str} {p pos apos:Pos} {e o:Expr} {es:List Expr} {ta:TE} {t:TA}
theorem DA {pins:List (Addr × Obj)} {σ:St} {H:Hp} {s:Shared} {Q:VK} {us:List Value} {vs:List V} (F:aV X.prog X.w X.K X.mg X.base CX k f fd ps sp) (hr:cW k X.A) (hb:ku X.K fd ps ds) (hd:aX dvs ds) (hx:sV CX X E)
  (I:aG X pins σ H s) (r:aX vs us) (h:sp (vs ++ dvs) H Q E):wpAny (model X.prog X.w) X.A (call (.ref f) us) (EP X pins σ Q) X.xe s:=by
 have r2:aX (vs ++ dvs) (us ++ ds):=r.append hd
 have hl:(us ++ ds).length = ps.length:=by rw [<- r2.length]; exact F.len _ _ _ _ h
 refine wpAny_call (codeAny_mono (F.run X.A X.stack s H ⟨us,[]⟩ (us ++ ds) (vs ++ dvs) Q E hr I.env0 (hb s us I.kIn hl) r2 h) fun r s' hq=>?_)
 cases r with
 | error e=>exact hx pins σ H s e s' I hq
 | ok fl =>
  cases fl with
  | ret u=>exact I.after hq
  | next=>exact False.elim hq
  | brk=>exact False.elim hq
  | cont=>exact False.elim hq
theorem Ax (F:aV X.prog X.w X.K X.mg X.base CX k f fd ps sp) (hr:cW k X.A) (hg:Gl X x) (hm:X.mg x = some (.ref f)) (hk:PySem.W.keepIn X.K (.ref f) = true) (hb:ku X.K fd ps ds) (hd:aX dvs ds) (hx:sV CX X E)
  (ha:PA X (e :: es) t) (hdb:(x == ("__debug__" : Str)) = false:=by decide) (he:starEach (e :: es) X.env = (false,eval e X.env) :: starEach es X.env:=by rfl) (hpl:(backTo pos (starEach es X.env)).any (·.1) = false:=by rfl) :
  PE X (.Call (.Name x p) (e :: es) [] pos) (Fh sp dvs E t):=by
 intro pins s σ H Q I h
 refine wpAny_Call_Name_kw (iU I hg hm ?_ hdb)
 refine PySem.W.callWith_K (h₀:=X.base) I.ok.mod.kin hk (cI (ha pos pins s σ H _ I h) fun us s1 ⟨vs,H1,I1,r,q⟩=>⟨I1.kIn,?_⟩) he hpl
 exact DA F hr hb hd hx I1 r q
end
section
variable {X:Cx} {CX:tG} {k:Nat} {f C:Addr} {fd:FuncData} {ps ks:List Str} {sp:Sp} {E:XK} {x m:Str} {p pos apos kpos:Pos} {e o:Expr} {es:List Expr} {kws:List Keyword} {te ta:TE} {t tk:TA} {nm:Option Str}
variable {g:List Value -> List Value -> List Value} {gV:List V -> List V -> List V}
end
structure aq (N P:List Str) (sc:Scope):Prop where
 kind:sc.kind = .function
 co:sc.isCoroutine = false
 gen:sc.isGenerator = false
 nd:N.Nodup
 pre:N.take P.length = P
 par:∀ x ∈ P,sc.names.lookup x = some .local \/ sc.names.lookup x = some .cell
 nofree:∀ y ∈ sc.names,y.2 ≠ .free
theorem pH {kindOf:Str -> Option NameKind} {x:Str}:∀ {binds:List (Str × Value)} {m:Str -> Option Value},(∀ v,(x,v) ∉ binds) -> bindL kindOf binds m x = m x
 | [],_,_=>rfl
 | (n,v) :: r,m,h=>by
  unfold bindL
  rw [pH fun w hw=>h w (List.mem_cons_of_mem _ hw)]
  split
  ·have:x ≠ n:=by rintro rfl; exact h v List.mem_cons_self
   simp [this]
  ·rfl
theorem pI {kindOf:Str -> Option NameKind} {x:Str}:∀ {binds:List (Str × Value)} {m:Str -> Option Value},(∀ v,(x,v) ∉ binds) -> bindC kindOf binds m x = m x
 | [],_,_=>rfl
 | (n,v) :: r,m,h=>by
  unfold bindC
  rw [pI fun w hw=>h w (List.mem_cons_of_mem _ hw)]
  split
  ·rfl
  ·have:x ≠ n:=by rintro rfl; exact h v List.mem_cons_self
   simp [this]
theorem pe {kindOf:Str -> Option NameKind} {x:Str} {v:Value}:∀ {P:List Str} {vs:List Value} {i:Nat} {m:Str -> Option Value},P.Nodup -> P[i]? = some x -> vs[i]? = some v -> kindOf x = some .local ->
  bindL kindOf (P.zip vs) m x = some v
 | [],_,_,_,_,h,_,_=>by simp at h
 | _ :: _,[],_,_,_,_,h,_=>by simp at h
 | p :: P,w :: vs,0,m,nd,h1,h2,hk=>by
  simp at h1 h2; subst h1; subst h2
  show bindL kindOf ((p,w) :: P.zip vs) m p = _
  unfold bindL
  rw [pH fun v hv=>(List.nodup_cons.mp nd).1 (List.of_mem_zip hv).1,if_pos hk]
  simp
 | p :: P,w :: vs,i + 1,m,nd,h1,h2,hk=>by
  show bindL kindOf ((p,w) :: P.zip vs) m x = _
  unfold bindL
  exact pe (i:=i) (List.nodup_cons.mp nd).2 (by simpa using h1) (by simpa using h2) hk
theorem pC {kindOf:Str -> Option NameKind} {x:Str} {v:Value}:∀ {P:List Str} {vs:List Value} {i:Nat} {m:Str -> Option Value},P.Nodup -> P[i]? = some x -> vs[i]? = some v -> kindOf x ≠ some .local ->
  bindC kindOf (P.zip vs) m x = some v
 | [],_,_,_,_,h,_,_=>by simp at h
 | _ :: _,[],_,_,_,_,h,_=>by simp at h
 | p :: P,w :: vs,0,m,nd,h1,h2,hk=>by
  simp at h1 h2; subst h1; subst h2
  show bindC kindOf ((p,w) :: P.zip vs) m p = _
  unfold bindC
  rw [pI fun v hv=>(List.nodup_cons.mp nd).1 (List.of_mem_zip hv).1,if_neg hk]
  simp
 | p :: P,w :: vs,i + 1,m,nd,h1,h2,hk=>by
  show bindC kindOf ((p,w) :: P.zip vs) m x = _
  unfold bindC
  exact pC (i:=i) (List.nodup_cons.mp nd).2 (by simpa using h1) (by simpa using h2) hk
def start (N:List Str) (vs:List V):St:=vs.map some ++ List.replicate (N.length - vs.length) none
def fD (CX:tG) (P:Program) (w:World) (K:PySem.W.Frag) (mg:Str -> Option Value) (base:Heap) (N:List Str) (qual:Str) (scope:Scope) (f:Addr) (cd:Value) (A:Around) (outer:List Env) (s:Shared) (H:Hp) (E:XK):Cx where
 prog:=P
 w:=w
 K:=K
 mg:=mg
 base:=base
 A:=A.deeper (envOfC qual scope s.heap.objs.size f cd)
 N:=N
 s₀:=s
 H₀:=H
 env:=envOfC qual scope s.heap.objs.size f cd
 outer:=outer
 stack:=envOfC qual scope s.heap.objs.size f cd :: outer
 ex:=[]
 calm:=true
 fn:=fun _=>true
 pn:=[]
 xe:=fun e s'=>wpAny (model P w) (A.deeper (envOfC qual scope s.heap.objs.size f cd)) (leaving (envOfC qual scope s.heap.objs.size f cd) e) (fun _ s''=>CX outer H s E e s'') (fun e' s''=>CX outer H s E e' s'') s'
theorem rG {sc:Scope} {n:Nat} {x:Str} (h:sc.names.lookup x = some .cell):∃ c,(cellsFrom n sc.names []).lookup x = some c:=by
 have q:=PySem.W.cellsFrom_some sc.names n [] (.inl h)
 exact Option.isSome_iff_exists.mp q
theorem oN {CX:tG} {P:Program} {w:World} {K:PySem.W.Frag} {mg:Str -> Option Value} {base:Heap} {N ps:List Str} {qual:Str} {scope:Scope} {f:Addr} {cd:Value} {A:Around} {outer:List Env} {s s1:Shared} {H:Hp} {E:XK} {us:List Value} {vs:List V}
  (S:aq N ps scope) (hd:A.handled = none) (e0:oz P w K mg base A outer s H) (hl:vs.length = ps.length) (r:aX vs us)
  (x:InCallC s s.heap.objs.size (bindL (envOfC qual scope s.heap.objs.size f cd).kindOf (ps.zip us) fun _=>none) (cellsFrom (s.heap.objs.size + 1) scope.names []) (bindC (envOfC qual scope s.heap.objs.size f cd).kindOf (ps.zip us) fun _=>none) s1) :
  aG (fD CX P w K mg base N qual scope f cd A outer s H E) [] (start N vs) H s1:=by
 have hpl:ps.length <= N.length:=by have:=congrArg List.length S.pre; rw [List.length_take] at this; walk_at "o"
 obtain ⟨h1,tk,rfl,hk⟩:=x.done
 have noA:∀ b:Addr,b ∉ (fD CX P w K mg base N qual scope f cd A outer s H E).ex:=fun b z=>absurd (show b ∈ ([]:List Addr) from z) (by simp)
 refine ⟨⟨e0.mod,S.kind,rfl,rfl,Nat.le_refl _,fun y z c h1 h2=>?_,fun y hy=>?_,fun y c _ h=>?_,fun _=>hd,Around.frames_deeper e0.frames,.inr ⟨rfl,rfl⟩,fun b z=>absurd z (noA b),e0.bs,e0.bsz,fun b _ _=>noA b,fun b z=>absurd z (noA b),e0.funs,e0.frf⟩,
  rfl,e0.bare,Un.kept hk,⟨_,x.toInCall.ns,fun i y v h1 h2 h3=>?_⟩,fun y c h=>⟨_,x.cell y c h⟩,e0.hok.fresh (Nat.le_refl _),fun y c h=>?_,fun p hp=>absurd (show p ∈ ([]:List (Addr × Obj)) from hp) (by simp),e0.hok.kept hk,?_⟩
 ·exact name_of_addr x.apart (PySem.mem_of_lookup h1) (PySem.mem_of_lookup h2)
 ·have hy:scope.names.lookup y = some .cell \/ scope.names.lookup y = some .free:=hy
  rcases hy with hy | hy
  ·exact rG hy
  ·exact absurd rfl (S.nofree _ (PySem.mem_of_lookup hy))
 ·exact Nat.le_of_lt (x.above y c (PySem.mem_of_lookup h))
 ·have hi:i < vs.length:=by
   unfold start at h2
   by_cases hi:i < vs.length
   ·exact hi
   ·rw [List.getElem?_append_right (by simpa using hi)] at h2
    rw [List.getElem?_replicate] at h2
    split at h2 <;> cases h2
  have ha:vs[i]? = some v:=by
   unfold start at h2
   rw [List.getElem?_append_left (by simpa using hi),List.getElem?_map] at h2
   cases e:vs[i]? with
   | none=>rw [e] at h2; cases h2
   | some a=>rw [e] at h2; cases h2; rfl
  obtain ⟨u,hu,rv⟩:=r.get ha
  have hp:ps[i]? = some y:=by
   rw [<- S.pre,List.getElem?_take_of_lt (by walk_at "o")]; exact h1
  have ndP:ps.Nodup:=by rw [<- S.pre]; exact S.nd.sublist (List.take_sublist _ _)
  refine ⟨u,rv,?_⟩
  rcases S.par y (List.mem_of_getElem? hp) with k | k
  ·exact .inl ⟨k,pe ndP hp hu k⟩
  ·obtain ⟨c,e⟩:=rG (n:=s.heap.objs.size + 1) k
   refine .inr ⟨.inl k,c,e,?_⟩
   have q:=x.cell y c e
   rw [pC ndP hp hu (by show scope.names.lookup y ≠ _; rw [k]; decide)] at q
   exact q
 ·exact e0.hok.fresh (Nat.le_of_lt (x.above y c (PySem.mem_of_lookup h)))
 ·unfold start
  show _ = N.length
  rw [List.length_append,List.length_map,List.length_replicate]
  walk_at "o"
theorem yl {CX:tG} {P:Program} {w:World} {K:PySem.W.Frag} {mg:Str -> Option Value} {base:Heap} {k:Nat} {f:Addr} {name qual:Str} {params:Arguments} {body:List Stmt} {scope:Scope} {dV kV doc pm cdv ct oc:Value} {an od:Option Addr}
  {osl:Array (Option Value)} {N ps:List Str} {sp:Sp} (lk:K.lookup f = some ⟨oc,od,.func (PySem.W.fnOf name qual params body scope dV kV doc pm an cdv ct),osl⟩) (hcd:PySem.W.codeIn K cdv qual = true) (S:aq N ps scope)
  (len:∀ vs H Q E,sp vs H Q E -> vs.length = ps.length)
  (hbody:∀ (A:Around) (outer:List Env) (s:Shared) (H:Hp) (vs:List V) (Q:VK) (E:XK),cW k (A.deeper (envOfC qual scope s.heap.objs.size f cdv)) -> sp vs H Q E ->
   ∃ t,qD (fD CX P w K mg base N qual scope f cdv A outer s H E) body t /\ t { nx:=fun _ H'=>Q .non H',rt:=Q } (start N vs) H) :
  aV P w K mg base CX (k + 1) f (PySem.W.fnOf name qual params body scope dV kV doc pm an cdv ct) ps sp:=by
 refine ⟨len,fun A outer s H args us vs Q E hr e0 hb r hsp=>?_⟩
 have hl:=len _ _ _ _ hsp
 have KX:K.In s.heap:=e0.mod.kin.keeps fun b o e=>(e0.bs b o e).1
 have lim:s.heap.NoLimit:=e0.mod.nolimit.keeps fun b o e=>(e0.bs b o e).1
 have hkind:∀ y ∈ ps.zip us,scope.names.lookup y.1 = some .local \/ (scope.names.lookup y.1 = some .cell /\ ((cellsFrom (s.heap.objs.size + 1) scope.names []).lookup y.1).isSome = true):=fun ⟨n,v⟩ hy=>by
  rcases S.par n (List.of_mem_zip hy).1 with q | q
  ·exact .inl q
  ·exact .inr ⟨q,PySem.W.cellsFrom_some _ _ _ (.inl q)⟩
 refine codeAny_call_function hr.depth (KX _ _ lk) rfl S.co S.gen rfl (PySem.W.codeRec_of KX hcd) (hb _ _ _ _ ?_)
 refine wpAny_newFunctionEnv_cells S.kind hkind fun env he s1 x=>?_
 subst he
 refine ⟨lim.keeps x.toInCall.keep,codeAny_func ?_⟩
 obtain ⟨t,ht,hq⟩:=hbody A outer s H vs Q E (hr.deeper _) hsp
 have I:aG (fD CX P w K mg base N qual scope f cdv A outer s H E) [] (start N vs) H s1:=oN S hr.hd e0 hl r x
 refine wpAny_mono (ht [] s1 (start N vs) H _ I hq) (fun fl s' hs=>?_) fun e s' hs=>hs
 have fin:∀ {σ':St} {H':Hp} {v:V} {u:Value},aG (fD CX P w K mg base N qual scope f cdv A outer s H E) [] σ' H' s' -> bO v u -> Q v H' -> CE outer P w H s Q u s' :=
  fun {σ' H' v u} J rv q=>⟨v,H',J.os,J.bare,J.base,J.hok,rv,q⟩
 cases fl with
 | ret u =>
  obtain ⟨v,σ',H',J,rv,q⟩:=hs
  exact fin J rv q
 | next =>
  obtain ⟨σ',H',J,q⟩:=hs
  exact fin (v:=V.non) (u:=Value.none) J rfl q
 | brk =>
  obtain ⟨_,_,_,q⟩:=hs
  exact False.elim q
 | cont =>
  obtain ⟨_,_,_,q⟩:=hs
  exact False.elim q
end L2
namespace L2
open PySem PySem.Spec PyProof.Rows
section
variable {X:Cx} {x:Str} {p pos:Pos} {e:Expr} {es:List Expr} {t:TA} {id T:String} {r:List V -> Hp -> VK -> Prop}
def Ap (r:List V -> Hp -> VK -> Prop) (t:TA):TE:=fun σ H Q=>t σ H fun vs H1=>r vs H1 Q
theorem zf (hc:dF X (.builtin id) r) (hg:Gl X x) (hm:X.mg x = none) (hv:bootBuiltins x = some (.builtin id)) (ha:PA X (e :: es) t) (hn:x ≠ "__name__":=by decide) (hdb:(x == ("__debug__" : Str)) = false:=by decide)
  (he:starEach (e :: es) X.env = (false,eval e X.env) :: starEach es X.env:=by rfl) (hpl:(backTo pos (starEach es X.env)).any (·.1) = false:=by rfl):PE X (.Call (.Name x p) (e :: es) [] pos) (Ap r t):=by
 intro pins s σ H Q I h
 refine wpAny_Call_Name_kw (jG I hg hm hv ?_ hn hdb)
 exact PyProof.Rows.callWith_builtin1 (cI (ha pos pins s σ H _ I h) fun us s1 ⟨vs,H1,I1,r1,q1⟩=>hc pins s1 σ H1 vs us Q I1 r1 q1) he hpl
theorem wl (hc:dF X (.type T) r) (hg:Gl X x) (hm:X.mg x = none) (hv:bootBuiltins x = some (.type T)) (ha:PA X (e :: es) t) (hn:x ≠ "__name__":=by decide) (hdb:(x == ("__debug__" : Str)) = false:=by decide)
  (he:starEach (e :: es) X.env = (false,eval e X.env) :: starEach es X.env:=by rfl) (hpl:(backTo pos (starEach es X.env)).any (·.1) = false:=by rfl):PE X (.Call (.Name x p) (e :: es) [] pos) (Ap r t):=by
 intro pins s σ H Q I h
 refine wpAny_Call_Name_kw (jG I hg hm hv ?_ hn hdb)
 exact PyProof.Rows.callWith_type1 (cI (ha pos pins s σ H _ I h) fun us s1 ⟨vs,H1,I1,r1,q1⟩=>hc pins s1 σ H1 vs us Q I1 r1 q1) he hpl
end
end L2
namespace HT
open PySem PyProof.Rows
section
open PySem.SeqAt
open PySem.AutoSeq1 (wpAny_loadPart')
open PySem.MeetsSeq PySem.MeetsSeq2 PySem.MeetsSeq3
end
section
variable {prog:Program} {w:World} {A:Around} {E:Value -> Shared -> Prop} {s:Shared}
def sIx (n d:Nat):Option Int -> Nat
 | none=>d
 | some v=>if v < 0 then (v + (n:Int)).toNat else min v.toNat n
theorem qd (n d k:Nat):sIx n d (some (k:Int)) = min k n:=by
 show (if (k:Int) < 0 then ((k:Int) + (n:Int)).toNat else min (k:Int).toNat n) = min k n
 rw [if_neg (by walk_at "o"),Int.toNat_natCast]
end
end HT
namespace L2
open PySem PySem.Spec PyProof.Rows
abbrev TO:=St -> Hp -> (Option Int -> Hp -> Prop) -> Prop
def PO (X:Cx) (e:Option Expr) (t:TO):Prop :=
 ∀ (pins:List (Addr × Obj)) (s:Shared) (σ:St) (H:Hp) (Q:Option Int -> Hp -> Prop),aG X pins σ H s -> t σ H Q ->
  wpAny (model X.prog X.w) X.A (evalPart e X.env) (fun u s'=>∃ o H',aG X pins σ H' s' /\ IsPart u o /\ Q o H') X.xe s
def pQ:TO:=fun _ H Q=>Q none H
def uX (t:TE):TO:=fun σ H Q=>t σ H fun x H1=>∃ i,x = .int i /\ Q (some i) H1
section
variable {X:Cx} {e:Expr} {te:TE} {lo hi:Option Expr} {tl th:TO} {pos p2:Pos}
theorem Bh:PO X none pQ:=by
 intro pins s σ H Q I h
 rw [evalPart_none]
 exact wpAny_pure ⟨none,H,I,.none,h⟩
theorem Br (h:PE X e te):PO X (some e) (uX te):=by
 intro pins s σ H Q I hw
 rw [evalPart_some]
 refine cI (h pins s σ H _ I hw) fun u s1 ⟨x,H1,I1,r1,q1⟩=>?_
 obtain ⟨i,rfl,q⟩:=q1
 obtain ⟨t,rfl⟩:=r1
 exact ⟨some i,H1,I1,.int i t,q⟩
def zx (X:Cx) (r:V -> Option Int -> Option Int -> Hp -> VK -> Prop):Prop :=
 ∀ (pins:List (Addr × Obj)) (s:Shared) (σ:St) (H:Hp) (x:V) (v vl vu:Value) (lo hi:Option Int) (sl:Addr) (Q:VK),aG X pins σ H s -> bO x v -> s.heap.IsSliceOf sl vl vu .none -> IsPart vl lo -> IsPart vu hi -> r x lo hi H Q ->
  ∃ T id,typeLookup (.type T) "__getitem__" = pure (some (.builtin id)) /\ s.TypeIs v T /\ wpAny (model X.prog X.w) X.A (getItem v (.ref sl)) (EP X pins σ Q) X.xe s
def F1 (r:V -> Option Int -> Option Int -> Hp -> VK -> Prop) (te:TE) (tl th:TO):TE:=fun σ H Q=>te σ H fun x H1=>tl σ H1 fun l H2=>th σ H2 fun u H3=>r x l u H3 Q
theorem y8 {r:V -> Option Int -> Option Int -> Hp -> VK -> Prop} (hr:zx X r) (he:PE X e te) (hl:PO X lo tl) (hu:PO X hi th):PE X (.Subscript e (.Slice lo hi none p2) pos) (F1 r te tl th):=by
 intro pins s σ H Q I h
 refine Subscript_ (cI (he pins s σ H _ I h) fun v s1 ⟨x,H1,I1,r1,q1⟩=>?_)
 refine wpAny_Slice (cI (hl pins s1 σ H1 _ I1 q1) fun vl s2 ⟨l,H2,I2,pl,q2⟩=>cI (hu pins s2 σ H2 _ I2 q2) fun vu s3 ⟨u,H3,I3,pu,q3⟩=>?_)
 rw [evalPart_none]
 refine wpAny_pure ?_
 have I4:aG X pins σ H3 { s3 with heap:=s3.heap.push { cls:=.type "slice",data:=.fields #[vl,vu,.none] } }:=I3.kept (t':=s3.toks) fun b ob q=>Heap.get?_push_of_some _ q
 obtain ⟨T,id,hT,ht,hg⟩:=hr pins { s3 with heap:=s3.heap.push { cls:=.type "slice",data:=.fields #[vl,vu,.none] } } σ H3 x v vl vu l u s3.heap.objs.size Q I4 r1 (Heap.IsSliceOf.new ..) pl pu q3
 show wpAny (model X.prog X.w) X.A (subscriptTail e (.Slice lo hi none p2) v (.ref s3.heap.objs.size)) (EP X pins σ Q) X.xe { s3 with heap:=s3.heap.push { cls:=.type "slice",data:=.fields #[vl,vu,.none] } }
 exact tail_any (ops:=[.ref s3.heap.objs.size,v]) ht hT hg (by with_unfolding_all rfl)
def jO (xs:List V) (lo hi:Option Int):List V:=(xs.drop (HT.sIx xs.length 0 lo)).take (HT.sIx xs.length xs.length hi - HT.sIx xs.length 0 lo)
theorem sI (xs:List V) (lo hi:Option Int):(jO xs lo hi).length <= xs.length:=by
 unfold jO
 rw [List.length_take,List.length_drop]
 walk_at "o"
end
end L2
namespace L2
open PySem PySem.Spec PyProof.Rows
def tN (n:Nat) (i:Int):Option Nat:=if 0 <= i then (if i < n then some i.toNat else none) else if -(n:Int) <= i then some (i + n).toNat else none
def lV {α:Type} (xs:List α) (i:Int):Option α:=(tN xs.length i).bind fun j=>xs[j]?
theorem vg {n:Nat} {i:Int} {j:Nat} (h:tN n i = some j):seqIndex? i n = some j /\ j < n /\ -(n:Int) <= i /\ i < n:=by
 unfold tN at h
 by_cases h0:0 <= i
 ·rw [if_pos h0] at h
  by_cases h1:i < n
  ·rw [if_pos h1] at h
   have e:i.toNat = j:=Option.some.inj h
   exact ⟨by rw [seqIndex_of h0 h1,e],by walk_at "o",by walk_at "o",h1⟩
  ·rw [if_neg h1] at h; cases h
 ·rw [if_neg h0] at h
  by_cases h1 : -(n:Int) <= i
  ·rw [if_pos h1] at h
   have e:(i + n).toNat = j:=Option.some.inj h
   exact ⟨by rw [seqIndex_neg (by walk_at "o") h1,e],by walk_at "o",h1,by walk_at "o"⟩
  ·rw [if_neg h1] at h; cases h
theorem qB {α:Type} {xs:List α} {i:Int} {v:α} (h:lV xs i = some v):∃ j,seqIndex? i xs.length = some j /\ xs[j]? = some v /\ j < xs.length /\ -(xs.length:Int) <= i /\ i < xs.length:=by
 unfold lV at h
 cases e:tN xs.length i with
 | none=>rw [e] at h; cases h
 | some j =>
  rw [e] at h
  obtain ⟨h1,h2,h3,h4⟩:=vg e
  exact ⟨j,h1,h,h2,h3,h4⟩
theorem bQ {α:Type} {xs:List α} {j:Nat} {v:α} (h:xs[j]? = some v):lV xs (j:Int) = some v:=by
 have hj:j < xs.length:=(List.getElem?_eq_some_iff.mp h).1
 have e:tN xs.length (j:Int) = some j:=by
  unfold tN
  rw [if_pos (by walk_at "o"),if_pos (by walk_at "o")]; simp
 unfold lV; rw [e]; exact h
theorem nG {α:Type} (xs:List α) (v:α):lV (xs ++ [v]) (-1) = some v:=by
 have hl:(xs ++ [v]).length = xs.length + 1:=by simp
 have e:tN (xs ++ [v]).length (-1) = some xs.length:=by
  unfold tN
  rw [hl,if_neg (by decide),if_pos (by walk_at "o")]
  congr 1
  walk_at "o"
 unfold lV
 rw [e]
 show (xs ++ [v])[xs.length]? = some v
 simp
def vo (b:Expr):Prop:=∀ o i,subscripted b false o i = operate [o,i] (getItem o i)
def vJ (X:Cx) (r:R2):Prop :=
 ∀ (value slice:Expr) (pins:List (Addr × Obj)) (s:Shared) (σ:St) (H:Hp) (x y:V) (v u:Value) (Q:VK),aG X pins σ H s -> bO x v -> bO y u -> r x y H Q ->
  subscripted slice false v u = operate [v,u] (getItem v u) -> wpAny (model X.prog X.w) X.A (subscriptTail value slice v u) (EP X pins σ Q) X.xe s
def FH (X:Cx) (id:String) (r:V -> List V -> Hp -> VK -> Prop):Prop :=
 ∀ (pins:List (Addr × Obj)) (s:Shared) (σ:St) (H:Hp) (x:V) (xs:List V) (v:Value) (us:List Value) (Q:VK),aG X pins σ H s -> bO x v -> aX xs us -> r x xs H Q ->
  wpAny (model X.prog X.w) X.A (call (.builtin id) (v :: us)) (EP X pins σ Q) X.xe s
section
variable {X:Cx} {a b:Expr} {ta tb:TE} {pos:Pos}
theorem Fl {r:R2} (hr:vJ X r) (ha:PE X a ta) (hb:PE X b tb) (hs:vo b):PE X (.Subscript a b pos) (yW r ta tb):=by
 intro pins s σ H Q I h
 exact Subscript_ (Db ha hb I h fun v u s2 x y H2 I2 rx ry q=>hr a b pins s2 σ H2 x y v u Q I2 rx ry q (hs _ _))
def EN (K:PySem.W.Frag):R2:=fun x y H Q=>∃ p xs i v,x = .ref p /\ y = .int i /\ hZ K H p xs /\ lV xs i = some v /\ Q v H
def Fs (K:PySem.W.Frag):R2:=fun x y H Q=>∃ p xs i v,x = .ref p /\ y = .int i /\ sM K H p xs /\ lV xs i = some v /\ Q v H
theorem u4:vJ X (EN X.K):=by
 intro value slice pins s σ H x y v u Q I rx ry h hs
 obtain ⟨p,xs,i,z,rfl,rfl,hq,he,q⟩:=h
 cases rx
 obtain ⟨t,rfl⟩:=ry
 obtain ⟨its,r,pl,hz⟩:=I.list hq
 obtain ⟨j,h1,h2,h3,h4,h5⟩:=qB he
 obtain ⟨w,ew,rw'⟩:=r.get h2
 have hl:=r.length
 have hn:=kQ
 have fin:EP X pins σ Q w s:=⟨z,H,I,rw',q⟩
 by_cases h0:0 <= i
 ·have hj:i.toNat = j:=by
   rw [seqIndex_of h0 h5] at h1
   exact Option.some.inj h1
  exact item_listR pl.isList h0 (by walk_at "o") (by rw [hj]; simpa using ew) fin hs
 ·have hj:(i + (its.toArray.size:Int)).toNat = j:=by
   rw [seqIndex_neg (by walk_at "o") h4] at h1
   rw [List.size_toArray,<- hl]
   exact Option.some.inj h1
  exact subscriptTail_builtinR (x:=w) pl.isList.typeIs slot_list_getitem.lookup
   (wpAny_getItem_list_neg (Q:=fun r s'=>r = w /\ EP X pins σ Q r s') pl.isList (by walk_at "o") (by rw [List.size_toArray] <;> walk_at "o") (by walk_at "o") (by rw [hj]; simpa using ew) ⟨rfl,fin⟩) hs
theorem Dg:vJ X (Fs X.K):=by
 intro value slice pins s σ H x y v u Q I rx ry h hs
 obtain ⟨p,xs,i,z,rfl,rfl,hq,he,q⟩:=h
 cases rx
 obtain ⟨t,rfl⟩:=ry
 obtain ⟨its,r,pl,hz⟩:=I.tuple hq
 obtain ⟨j,h1,h2,h3,h4,h5⟩:=qB he
 obtain ⟨w,ew,rw'⟩:=r.get h2
 have hl:=r.length
 have hn:=kQ
 have fin:EP X pins σ Q w s:=⟨z,H,I,rw',q⟩
 exact subscriptTail_builtinR (x:=w) pl.typeIs slot_tuple_getitem.lookup
  (getItem_tuple (j:=j) (Q:=fun r s'=>r = w /\ EP X pins σ Q r s') pl (by walk_at "o") (by walk_at "o") (by rw [List.size_toArray,<- hl]; exact h1) (by simpa using ew) ⟨rfl,fin⟩) hs
theorem tO (its:List Value) (n j:Nat) (u:Value):Obj.mapSeq (·.setIfInBounds j u) { cls:=.type "list",data:=.seq its.toArray n } = { cls:=.type "list",data:=.seq (its.set j u).toArray n }:=by
 simp [Obj.mapSeq]
theorem aG.lst {pins:List (Addr × Obj)} {σ:St} {H:Hp} {s:Shared} {p:Addr} {xs:List V} (I:aG X pins σ H s) (h:H p = some (.lst xs)) :
  ∃ (its:List Value) (n:Nat),aX xs its /\ s.heap.get? p = some { cls:=.type "list",data:=.seq its.toArray n } /\ xs.length <= sizeLine:=by
 obtain ⟨z,its,n,r,e⟩:=I.hok p _ h
 exact ⟨its,n,r,e,z⟩
theorem aG.lstUpd {pins:List (Addr × Obj)} {σ:St} {H:Hp} {s:Shared} {p:Addr} {xs ys:List V} {its its':List Value} {n n':Nat} {f:Obj -> Obj} (I:aG X pins σ H s) (h:H p = some (.lst xs))
  (ho:s.heap.get? p = some { cls:=.type "list",data:=.seq its.toArray n }) (hf:f { cls:=.type "list",data:=.seq its.toArray n } = { cls:=.type "list",data:=.seq its'.toArray n' }) (r:aX ys its') (hz:ys.length <= sizeLine) (t:Nat) :
  aG X pins σ (upd H p (.lst ys)) { s with heap:=s.heap.update p f,toks:=t }:=by
 have e:(s.heap.update p f).get? p = some { cls:=.type "list",data:=.seq its'.toArray n' }:=by
  rw [Heap.get?_update_self f ho (by rw [hf] <;> rfl),hf]
 refine I.write (x:=p) (e:=p) (by rw [h]; trivial) (.inl rfl) (fun b u hb q=>(Heap.get?_update_other _ _ (Ne.symm hb)).trans q) ⟨_,e⟩ ?_
 exact ⟨hz,its',n',r,e⟩
def E6:V -> V -> V -> Hp -> (Hp -> Prop) -> Prop:=fun o i v H Q=>∃ p xs k j,o = .ref p /\ i = .int k /\ H p = some (.lst xs) /\ tN xs.length k = some j /\ Q (upd H p (.lst (xs.set j v)))
theorem wV:vO X E6:=by
 intro pins s σ H o i v ov iv u Q I ro ri rv h
 obtain ⟨p,xs,k,j,rfl,rfl,hp,hj,q⟩:=h
 cases ro
 obtain ⟨t,rfl⟩:=ri
 obtain ⟨its,n,r,ho,hz⟩:=I.lst hp
 obtain ⟨h1,h2,h3,h4⟩:=vg hj
 have hl:=r.length
 have hn:=kQ
 have I':aG X pins σ (upd H p (.lst (xs.set j v))) { s with heap:=s.heap.update p (Obj.mapSeq (·.setIfInBounds j u)) } :=
  I.lstUpd hp ho (tO its n j u) (r.set rv j) (by rw [List.length_set]; exact hz) s.toks
 by_cases h0:0 <= k
 ·have hk:k.toNat = j:=by
   rw [seqIndex_of h0 h4] at h1
   exact Option.some.inj h1
  exact PySem.W.ki_setAt ho h0 (by walk_at "o") (by rw [List.size_toArray,<- hl]; exact h4) (by rw [hk]; exact ⟨_,I',q⟩)
 ·have hk:(k + (its.toArray.size:Int)).toNat = j:=by
   rw [seqIndex_neg (by walk_at "o") h3] at h1
   rw [List.size_toArray,<- hl]
   exact Option.some.inj h1
  exact PySem.W.ki_setBack ho (by walk_at "o") (by rw [List.size_toArray,<- hl]; exact h3) (by walk_at "o") (by rw [hk]; exact ⟨_,I',q⟩)
theorem qc (lo hi:Option Int) (n:Nat):(sliceBounds lo hi none n).1 = ((HT.sIx n 0 lo:Nat):Int) /\ (sliceBounds lo hi none n).2.1 = ((HT.sIx n n hi:Nat):Int) /\ (sliceBounds lo hi none n).2.2 = 1:=by
 refine ⟨?_,?_,rfl⟩
 ·cases lo with
  | none=>simp [sliceBounds,HT.sIx]
  | some i =>
   simp only [sliceBounds,HT.sIx,Option.getD_none,show (1:Int) > 0 by decide,if_true]
   by_cases h:i < 0
   ·simp only [h,if_true] <;> walk_at "o"
   ·simp only [h,if_false] <;> walk_at "o"
 ·cases hi with
  | none=>simp [sliceBounds,HT.sIx]
  | some i =>
   simp only [sliceBounds,HT.sIx,Option.getD_none,show (1:Int) > 0 by decide,if_true]
   by_cases h:i < 0
   ·simp only [h,if_true] <;> walk_at "o"
   ·simp only [h,if_false] <;> walk_at "o"
theorem oI (its:List Value) (lo hi:Option Int):slicePick its.toArray lo hi none = ((its.drop (HT.sIx its.length 0 lo)).take (HT.sIx its.length its.length hi - HT.sIx its.length 0 lo)).toArray:=by
 obtain ⟨h1,h2,h3⟩:=qc lo hi its.toArray.size
 unfold slicePick
 rw [h1,h2,h3]
 simp only [sliceRange_one,pick_run,List.size_toArray] <;> rfl
def FY (K:PySem.W.Frag):V -> Option Int -> Option Int -> Hp -> VK -> Prop:=fun x lo hi H Q=>∃ a xs,x = .ref a /\ hZ K H a xs /\ ∀ p,H p = none -> Q (.ref p) (upd H p (.lst (jO xs lo hi)))
theorem AT:zx X (FY X.K):=by
 intro pins s σ H x v vl vu lo hi sl Q I rx hs pl pu h
 obtain ⟨a,xs,rfl,hx,q⟩:=h
 cases rx
 obtain ⟨its,r,ht,hz⟩:=I.list hx
 have hlen:=r.length
 refine ⟨"list",_,slot_list_getitem.lookup,ht.isList.typeIs,?_⟩
 refine wpAny_getItem_list_slice ht.isList hs pl pu .none (by simp) ?_ (by rw [List.size_toArray] <;> walk_at "o")
 rw [oI,<- hlen]
 refine ⟨.ref s.heap.objs.size,_,I.laid (t':=s.toks) (o:=.lst (jO xs lo hi)) (fun b ob q=>Heap.get?_push_of_some _ q) (Nat.le_refl _) ?_,rfl,q _ (I.hok.fresh (Nat.le_refl _))⟩
 exact ⟨Nat.le_trans (sI xs lo hi) hz,_,0,(r.drop (HT.sIx xs.length 0 lo)).take (HT.sIx xs.length xs.length hi - HT.sIx xs.length 0 lo),Heap.get?_push_size _ rfl⟩
def lU:V -> Bool
 | .non=>true
 | .bl _=>true
 | .int _=>true
 | .str _=>true
 | _=>false
def BV:V -> V -> Bool
 | .non,.non=>true
 | .bl a,.bl b=>a == b
 | .bl a,.int b=>(if a then 1 else 0) == b
 | .int a,.bl b=>a == (if b then 1 else 0)
 | .int a,.int b=>a == b
 | .str a,.str b=>a == b
 | _,_=>false
theorem Cp {A:Around} {s:Shared} {y x:V} {u v:Value} (ry:bO y u) (rx:bO x v) (fy:lU y = true) (fx:lU x = true):SeqAt.EqAt A s u v (BV y x):=by
 cases y with
 | non =>
  cases ry
  cases x with
  | non=>cases rx; exact SeqAt.EqAt.same _
  | bl b=>cases rx; exact SeqAt.EqAt.none_bool b
  | int b=>obtain ⟨t,rfl⟩:=rx; exact SeqAt.EqAt.none_int b t
  | str b=>obtain ⟨t,rfl⟩:=rx; exact SeqAt.EqAt.none_str b t
  | _=>exact absurd (show false = true from fx) Bool.false_ne_true
 | bl a =>
  cases ry
  cases x with
  | non=>cases rx; exact SeqAt.EqAt.bool_none a
  | bl b=>cases rx; exact SeqAt.EqAt.bool_bool a b
  | int b=>obtain ⟨t,rfl⟩:=rx; exact SeqAt.EqAt.bool_int a b t
  | str b=>obtain ⟨t,rfl⟩:=rx; exact SeqAt.EqAt.bool_str a b t
  | _=>exact absurd (show false = true from fx) Bool.false_ne_true
 | int a =>
  obtain ⟨t',rfl⟩:=ry
  cases x with
  | non=>cases rx; exact SeqAt.EqAt.int_none a t'
  | bl b=>cases rx; exact SeqAt.EqAt.int_bool a t' b
  | int b=>obtain ⟨t,rfl⟩:=rx; exact SeqAt.EqAt.int_int a t' b t
  | str b=>obtain ⟨t,rfl⟩:=rx; exact SeqAt.EqAt.int_str a t' b t
  | _=>exact absurd (show false = true from fx) Bool.false_ne_true
 | str a =>
  obtain ⟨t',rfl⟩:=ry
  cases x with
  | non=>cases rx; exact SeqAt.EqAt.str_none a t'
  | bl b=>cases rx; exact SeqAt.EqAt.str_bool a t' b
  | int b=>obtain ⟨t,rfl⟩:=rx; exact SeqAt.EqAt.str_int a t' b t
  | str b=>obtain ⟨t,rfl⟩:=rx; exact SeqAt.EqAt.str_str a t' b t
  | _=>exact absurd (show false = true from fx) Bool.false_ne_true
 | _=>exact absurd (show false = true from fy) Bool.false_ne_true
def Ab (x:V) (u:Value):Bool:=match u with
 | .none=>BV .non x
 | .bool b=>BV (.bl b) x
 | .int i _=>BV (.int i) x
 | .str z _=>BV (.str z) x
 | _=>false
theorem yh {x y:V} {u:Value} (r:bO y u) (f:lU y = true):Ab x u = BV y x:=by
 cases y with
 | non=>cases r; rfl
 | bl b=>cases r; rfl
 | int i=>obtain ⟨t,rfl⟩:=r; rfl
 | str z=>obtain ⟨t,rfl⟩:=r; rfl
 | _=>exact absurd (show false = true from f) Bool.false_ne_true
theorem qE {x:V}:∀ {xs:List V} {us:List Value},aX xs us -> xs.all lU = true -> us.any (Ab x) = xs.any fun y=>BV y x
 | _,_,.nil,_=>rfl
 | y :: xs,u :: us,.cons r t,f=>by
  rw [List.all_cons,Bool.and_eq_true] at f
  rw [List.any_cons,List.any_cons,yh r f.1,qE t f.2]
theorem mP {A:Around} {s:Shared} {x:V} {v:Value} (rx:bO x v) (fx:lU x = true):∀ {xs:List V} {us:List Value},aX xs us -> xs.all lU = true -> ∀ u ∈ us,SeqAt.EqAt A s u v (Ab x u)
 | _,_,.nil,_=>fun u hu=>by cases hu
 | y :: xs,u :: us,.cons r t,f=>fun u' hu=>by
  rw [List.all_cons,Bool.and_eq_true] at f
  rcases List.mem_cons.mp hu with rfl | hu
  ·rw [yh r f.1]; exact Cp r rx f.1 fx
  ·exact mP rx fx t f.2 u' hu
def FP (x:V) (xs:List V):Bool:=xs.any fun y=>BV y x
def GC (K:PySem.W.Frag) (neg:Bool):R2:=fun x y H Q=>∃ p xs,y = .ref p /\ (hZ K H p xs \/ sM K H p xs) /\ lU x = true /\ xs.all lU = true /\ Q (.bl (if neg then !FP x xs else FP x xs)) H
theorem qj:fo X (compareOp .NotIn) (GC X.K true):=by
 intro pins s σ H x y v u Q I rx ry h
 obtain ⟨p,xs,rfl,hq,fx,fs,q⟩:=h
 cases ry
 rcases hq with hq | hq
 ·obtain ⟨its,r,pl,hz⟩:=I.list hq
  refine SeqAt.notIn_listAt (Ab x) pl.isList (fun w hw=>mP rx fx r fs w (by simpa using hw)) ⟨.bl _,H,I,rfl,?_⟩
  rw [show its.toArray.any (Ab x) = its.any (Ab x) by simp,qE r fs]
  exact q
 ·obtain ⟨its,r,pl,hz⟩:=I.tuple hq
  refine SeqAt.notIn_tupleAt (Ab x) pl (fun w hw=>mP rx fx r fs w (by simpa using hw)) ⟨.bl _,H,I,rfl,?_⟩
  rw [show its.toArray.any (Ab x) = its.any (Ab x) by simp,qE r fs]
  exact q
theorem gW:dF X (.builtin "len") (fun xs H Q=>∃ p ys,xs = [.ref p] /\ (hZ X.K H p ys \/ sM X.K H p ys) /\ Q (.int ys.length) H):=by
 intro pins s σ H xs us Q I r h
 obtain ⟨p,ys,rfl,hq,q⟩:=h
 obtain ⟨u,rfl,rx⟩:=uk r
 cases rx
 have hn:=kQ
 rcases hq with hq | hq
 ·obtain ⟨its,r',pl,hz⟩:=I.list hq
  have hlen:=r'.length
  exact Calls.call_len_list pl.isList (by simp only [List.size_toArray] <;> walk_at "o") ⟨.int ys.length,H,I.tok _,⟨s.toks + 1,by rw [List.size_toArray,hlen]⟩,q⟩
 ·obtain ⟨its,r',pl,hz⟩:=I.tuple hq
  have hlen:=r'.length
  exact len_tuple pl (by simp only [List.size_toArray] <;> walk_at "o") ⟨.int ys.length,H,I.tok _,⟨s.toks + 1,by rw [List.size_toArray,hlen]⟩,q⟩
theorem kF:dF X (.type "list") (fun xs H Q=>∃ p ys,xs = [.ref p] /\ (hZ X.K H p ys \/ sM X.K H p ys) /\ ∀ l,H l = none -> Q (.ref l) (upd H l (.lst ys))):=by
 intro pins s σ H xs us Q I r h
 obtain ⟨p,ys,rfl,hq,q⟩:=h
 obtain ⟨u,rfl,rx⟩:=uk r
 cases rx
 have fin:∀ (its:List Value),aX ys its -> ys.length <= sizeLine -> ∀ (h':Heap) (c':Nat),(∀ b o',s.heap.get? b = some o' -> h'.get? b = some o') ->
   h'.get? s.heap.objs.size = some { cls:=.type "list",dict:=none,data:=.seq its.toArray c',slots:=#[] } -> EP X pins σ Q (.ref s.heap.objs.size) { s with heap:=h' }:=fun its r' hz h' c' kp e =>
  ⟨.ref s.heap.objs.size,_,I.laid (t':=s.toks) kp (Nat.le_refl _) (show dz X.prog X.w _ h' _ (.lst ys) from ⟨hz,its,c',r',e⟩),rfl,q _ (I.hok.fresh (Nat.le_refl _))⟩
 rcases hq with hq | hq
 ·obtain ⟨its,r',pl,hz⟩:=I.list hq
  have hlen:=r'.length
  obtain ⟨o,ho,hc,n,hd⟩:=pl.isList
  exact call_list_seq p (.inl rfl) ho hc hd (fun h' c' kp e=>fin its r' hz h' c' kp e) (by simp only [List.size_toArray] <;> walk_at "o")
 ·obtain ⟨its,r',pl,hz⟩:=I.tuple hq
  have hlen:=r'.length
  obtain ⟨o,ho,hc,n,hd⟩:=pl
  exact call_list_seq p (.inr rfl) ho hc hd (fun h' c' kp e=>fin its r' hz h' c' kp e) (by simp only [List.size_toArray] <;> walk_at "o")
theorem oq:dF X (.type "tuple") (fun xs H Q=>∃ p ys,xs = [.ref p] /\ ((hZ X.K H p ys /\ ∀ l,H l = none -> Q (.ref l) (upd H l (.tup ys))) \/ (sM X.K H p ys /\ Q (.ref p) H))):=by
 intro pins s σ H xs us Q I r h
 obtain ⟨p,ys,rfl,h⟩:=h
 obtain ⟨u,rfl,rx⟩:=uk r
 cases rx
 rcases h with ⟨hq,q⟩ | ⟨hq,q⟩
 ·obtain ⟨its,r',pl,hz⟩:=I.list hq
  have hlen:=r'.length
  refine call_tuple_list pl.isList (fun h' kp=>?_) (by simp only [List.size_toArray] <;> walk_at "o")
  have I1:aG X pins σ H { s with heap:=h' }:=I.kept (t':=s.toks) kp
  have I2:aG X pins σ (upd H h'.objs.size (.tup ys)) { s with heap:=h'.push { cls:=.type "tuple",data:=.seq its.toArray } } :=
   I1.laid (t':=s.toks) (fun b o e=>Heap.get?_push_of_some _ e) (Nat.le_refl _) (show dz X.prog X.w _ _ _ (.tup ys) from ⟨hz,its,r',IsTup.new _ _⟩)
  exact ⟨.ref h'.objs.size,_,I2,rfl,q _ (I1.hok.fresh (Nat.le_refl _))⟩
 ·obtain ⟨its,r',pl,hz⟩:=I.tuple hq
  exact call_tuple_same pl ⟨.ref p,H,I,rfl,q⟩
def Ev (K:PySem.W.Frag) (T:String) (x:V) (H:Hp):Prop:=match x with
 | .str _=>T = "str"
 | .int _=>T = "int"
 | .ref p=>(T = "list" /\ ∃ xs,hZ K H p xs) \/ (T = "tuple" /\ ∃ o,K.lookup p = some o /\ o.cls = .type "tuple" /\ o.dict = none) \/
   (T = "dict" /\ ((∃ kvs,H p = some (.dK kvs)) \/ ∃ kvs,H p = some (.dT kvs))) \/ (T = "set" /\ ∃ S n,H p = some (.set S n))
 | _=>False
theorem xX {pins:List (Addr × Obj)} {σ:St} {H:Hp} {s:Shared} {T:String} {x:V} {v:Value} (I:aG X pins σ H s) (r:bO x v) (ty:Ev X.K T x H) :
  s.TypeIs v T /\ ∀ a,v = .ref a -> ∃ ob,s.heap.get? a = some ob /\ ob.dict = none:=by
 cases x with
 | str z =>
  obtain ⟨t,rfl⟩:=r
  cases (show T = "str" from ty)
  exact ⟨typeIs_str s z t,fun _ e=>nomatch e⟩
 | int i =>
  obtain ⟨t,rfl⟩:=r
  cases (show T = "int" from ty)
  exact ⟨typeIs_int s i t,fun _ e=>nomatch e⟩
 | ref p =>
  cases r
  rcases ty with ⟨rfl,xs,hq⟩ | ⟨rfl,o,hk,hc,hd⟩ | ⟨rfl,hk⟩ | ⟨rfl,S,n,hk⟩
  ·obtain ⟨its,_,pl,_⟩:=I.list hq
   refine ⟨pl.isList.typeIs,fun a e=>?_⟩
   cases e
   obtain ⟨o,n,e,c,hd,_⟩:=pl
   exact ⟨o,e,hd⟩
  ·refine ⟨⟨o,I.kIn p o hk,hc⟩,fun a e=>?_⟩
   cases e
   exact ⟨o,I.kIn _ o hk,hd⟩
  ·have z:∃ o,s.heap.get? p = some o /\ o.ExactDict:=by
    rcases hk with ⟨kvs,hk⟩ | ⟨kvs,hk⟩
    ·obtain ⟨_,_,_,_,o,_,_,e,ex,_⟩:=I.hok p _ hk
     exact ⟨o,e,ex⟩
    ·obtain ⟨_,_,_,_,o,_,_,e,ex,_⟩:=I.hok p _ hk
     exact ⟨o,e,ex⟩
   obtain ⟨o,e,ex⟩:=z
   refine ⟨⟨o,e,ex.1⟩,fun a e2=>?_⟩
   cases e2
   exact ⟨o,e,ex.2.1⟩
  ·obtain ⟨o,_,_,_,e,ex,_⟩:=I.hok p _ hk
   refine ⟨⟨o,e,ex.1⟩,fun a e2=>?_⟩
   cases e2
   exact ⟨o,e,ex.2.1⟩
 | _=>exact False.elim ty
def CI (K:PySem.W.Frag) (T:String) (r:V -> List V -> Hp -> VK -> Prop) (to:TE):TE:=fun σ H Q=>to σ H fun x H1=>Ev K T x H1 /\ r x [] H1 Q
def Gg (K:PySem.W.Frag) (T:String) (r:V -> List V -> Hp -> VK -> Prop) (to:TE) (t:TA):TE:=fun σ H Q=>to σ H fun x H1=>Ev K T x H1 /\ t σ H1 fun xs H2=>r x xs H2 Q
variable {o e:Expr} {es:List Expr} {to:TE} {t:TA} {name:Str} {apos cpos:Pos} {T id:String} {r:V -> List V -> Hp -> VK -> Prop}
theorem Cf (pa:PlainAttrs T) (slot:Slot T name id) (hty:typeOf (.builtin id) = pure (.type "method_descriptor")) (hm:FH X id r) (ho:PE X o to)
  (hbase:attributeBase o name X.env (eval o X.env) = eval o X.env:=by rfl) (hline:(apos.endLine == cpos.line) = true:=by rfl):PE X (.Call (.Attribute o name apos) [] [] cpos) (CI X.K T r to):=by
 intro pins s σ H Q I h
 refine wpAny_Call_method0_late hbase hline (cI (ho pins s σ H _ I h) fun v s1 ⟨x,H1,I1,r1,ty,q1⟩=>?_)
 obtain ⟨h1,h2⟩:=xX I1 r1 ty
 exact ⟨T,id,pa,slot,hty,h1,h2,Calls.callWith_builtin rfl (PySem.evalArgs_none (hm pins s1 σ H1 x [] v [] Q I1 r1 .nil q1))⟩
theorem EB (pa:PlainAttrs T) (slot:Slot T name id) (hty:typeOf (.builtin id) = pure (.type "method_descriptor")) (hm:FH X id r) (ho:PE X o to) (ha:PA X (e :: es) t)
  (hbase:attributeBase o name X.env (eval o X.env) = eval o X.env:=by rfl)
  (hfew:((backTo cpos (starEach (e :: es) X.env)).all (fun x=>!x.1) && (backToKw cpos (keywordEach [] X.env)).all (fun x=>x.1.isSome)
   && decide ((e :: es).length + ([]:List Keyword).length + (if ([]:List Keyword).isEmpty then 0 else 1) < 30)) = true:=by rfl)
  (hline:(apos.endLine == cpos.line) = true:=by rfl) (hs:starEach (e :: es) X.env = (false,eval e X.env) :: starEach es X.env:=by rfl) (hplain:(backTo cpos (starEach es X.env)).any (·.1) = false:=by rfl) :
  PE X (.Call (.Attribute o name apos) (e :: es) [] cpos) (Gg X.K T r to t):=by
 intro pins s σ H Q I h
 refine wpAny_Call_method_late hbase hfew hline rfl (cI (ho pins s σ H _ I h) fun v s1 ⟨x,H1,I1,r1,ty,q1⟩=>?_)
 obtain ⟨h1,h2⟩:=xX I1 r1 ty
 refine ⟨T,id,pa,slot,hty,h1,h2,?_⟩
 have hA:=ha cpos pins s1 σ H1 _ I1 q1
 rw [hs] at hA ⊢
 refine Calls.callWith_builtin (by show (false || (backTo cpos (starEach es X.env)).any (·.1)) = false; rw [hplain] <;> rfl) (Calls.evalArgs_plain ?_)
 exact cI hA fun us s2 ⟨vs,H2,I2,r2,q2⟩=>hm pins s2 σ H2 x vs v us Q I2 r1 r2 q2
end
end L2
namespace L2
open PySem PySem.Spec PyProof.Rows
def FG (X:Cx) (id:String) (r:V -> List V -> Hp -> VK -> Prop):Prop :=
 ∀ (pins:List (Addr × Obj)) (s:Shared) (σ:St) (H:Hp) (x:V) (xs:List V) (v:Value) (us:List Value) (Q:VK),aG X pins σ H s -> bO x v -> aX xs us -> r x xs H Q ->
  wpAny (model X.prog X.w) X.A (call (.builtin id) (v :: us)) (EP X pins σ Q) X.xe s
theorem aX.one:∀ {x:V} {us:List Value},aX [x] us -> ∃ u,us = [u] /\ bO x u
 | _,_,.cons r .nil=>⟨_,rfl,r⟩
theorem aX.zero:∀ {us:List Value},aX [] us -> us = []
 | _,.nil=>rfl
theorem aX.dropLast {xs:List V} {us:List Value} (h:aX xs us):aX xs.dropLast us.dropLast:=by
 induction h with
 | nil=>exact .nil
 | cons r t ih =>
  cases t with
  | nil=>exact .nil
  | cons q t'=>exact .cons r ih
theorem aX.reverse {xs:List V} {us:List Value} (h:aX xs us):aX xs.reverse us.reverse:=by
 induction h with
 | nil=>exact .nil
 | cons r t ih=>rw [List.reverse_cons,List.reverse_cons]; exact aX.append ih (.cons r .nil)
theorem aX.rep {xs:List V} {us:List Value} (h:aX xs us):∀ k:Nat,aX (List.replicate k xs).flatten (List.replicate k us).flatten
 | 0=>.nil
 | k + 1=>by
  rw [List.replicate_succ,List.replicate_succ,List.flatten_cons,List.flatten_cons]
  exact aX.append h (aX.rep h k)
theorem t4 {α:Type} (l:List α):l.eraseIdx (l.length - 1) = l.dropLast:=by
 induction l with
 | nil=>rfl
 | cons a r ih =>
  cases r with
  | nil=>rfl
  | cons b r =>
   have e:(a :: b :: r).length - 1 = ((b :: r).length - 1) + 1:=by
    have h1:(a :: b :: r).length = r.length + 2:=rfl
    have h2:(b :: r).length = r.length + 1:=rfl
    walk_at "o"
   rw [e,List.eraseIdx_cons_succ,ih]
   all_goals rfl
theorem pG (its:List Value):∀ (k:Nat) (acc:List Value),
  List.foldl (fun x1 x2=>x1 ++ x2) acc.toArray (List.replicate k its.toArray) = (acc ++ (List.replicate k its).flatten).toArray
 | 0,acc=>by simp
 | k + 1,acc=>by
  have e:acc.toArray ++ its.toArray = (acc ++ its).toArray:=by simp
  have e2:(acc ++ its) ++ (List.replicate k its).flatten = acc ++ (List.replicate (k + 1) its).flatten:=by
   rw [List.replicate_succ,List.flatten_cons,List.append_assoc]
  rw [<- e2,<- pG its k (acc ++ its),<- e,List.replicate_succ,List.foldl_cons]
section
variable {X:Cx} {pins:List (Addr × Obj)} {σ:St} {H:Hp} {s:Shared} {l b:Addr} {xs ys zs:List V}
theorem aG.lset {its its':List Value} {n:Nat} {f:Array Value -> Array Value} {t':Nat} (I:aG X pins σ H s) (hH:H l = some (.lst xs))
  (e:s.heap.get? l = some { cls:=.type "list",data:=.seq its.toArray n }) (hf:f its.toArray = its'.toArray) (hv:aX ys its') (hz:ys.length <= sizeLine) :
  aG X pins σ (upd H l (.lst ys)) { s with heap:=s.heap.update l (Obj.mapSeq f),toks:=t' }:=by
 have q:=PySem.IsL.update e f
 rw [hf] at q
 refine I.write (x:=l) (e:=l) (by rw [hH]; exact trivial) (.inl rfl) (fun b' u hb hu=>(Heap.get?_update_other s.heap (Obj.mapSeq f) (Ne.symm hb)).trans hu) ⟨_,q⟩ ?_
 exact ⟨hz,its',_,hv,q⟩
theorem aG.lnew {its:List Value} {t':Nat} (I:aG X pins σ H s) (hv:aX ys its) (hz:ys.length <= sizeLine) :
  aG X pins σ (upd H s.heap.objs.size (.lst ys)) { s with heap:=s.heap.push { cls:=.type "list",data:=.seq its.toArray },toks:=t' } :=
 I.laid (fun _ _ q=>Heap.get?_push_of_some _ q) (Nat.le_refl _) ⟨hz,its,0,hv,Heap.get?_push_size _ rfl⟩
theorem aG.fresh (I:aG X pins σ H s):H s.heap.objs.size = none:=I.hok.fresh (Nat.le_refl _)
theorem aG.lstM (I:aG X pins σ H s) (hH:H l = some (.lst xs)):xs.length <= sizeLine /\ ∃ (its:List Value) (n:Nat),aX xs its /\ xs.length = its.length /\ s.heap.get? l = some { cls:=.type "list",data:=.seq its.toArray n }:=by
 obtain ⟨z,its,n,r,e⟩:=I.hok l _ hH
 exact ⟨z,its,n,r,r.length,e⟩
theorem yD {n:Nat} (h:n <= sizeLine):Builtin.List.listTooLong n = false:=by
 unfold Builtin.List.listTooLong
 exact decide_eq_false (by walk_at "o")
end
section
variable {X:Cx}
def zT:V -> List V -> Hp -> VK -> Prop:=fun x vs H Q=>∃ l xs y,x = .ref l /\ vs = [y] /\ H l = some (.lst xs) /\ xs.length < sizeLine /\ Q .non (upd H l (.lst (xs ++ [y])))
theorem oY:FG X "list.append" zT:=by
 intro pins s σ H x vs v us Q I rx rv h
 obtain ⟨l,xs,y,rfl,rfl,hH,hz,q⟩:=h
 cases rx
 obtain ⟨u,rfl,ru⟩:=rv.one
 obtain ⟨z,its,n,r,hl,e⟩:=I.lstM hH
 refine call_meets F.slot_list_append ⟨_,e,rfl⟩ F.entry_list_append (F.args_list_append_2 _ _) (PySem.list_append l its.toArray n u (by rw [List.size_toArray]; walk_at "o")) ⟨e,?_⟩
 refine ⟨.non,_,I.lset (its':=its ++ [u]) hH e (by simp) (r.append (.cons ru .nil)) ?_,rfl,q⟩
 rw [List.length_append,List.length_singleton]
 walk_at "o"
def F0:V -> List V -> Hp -> VK -> Prop:=fun x vs H Q=>∃ l xs y,x = .ref l /\ vs = [] /\ H l = some (.lst xs) /\ xs[xs.length - 1]? = some y /\ Q y (upd H l (.lst xs.dropLast))
theorem CD:FG X "list.pop" F0:=by
 intro pins s σ H x vs v us Q I rx rv h
 obtain ⟨l,xs,y,rfl,rfl,hH,hy,q⟩:=h
 cases rx
 have hus:=rv.zero
 subst hus
 obtain ⟨z,its,n,r,hl,e⟩:=I.lstM hH
 obtain ⟨u,hu,ru⟩:=r.get hy
 have hy':its.toArray[its.toArray.size - 1]? = some u:=by
  show its.toArray[its.length - 1]? = some u
  rw [<- Array.getElem?_toList,<- hl]
  exact hu
 refine call_meets F.slot_list_pop ⟨_,e,rfl⟩ F.entry_list_pop (F.args_list_pop_1 _) (MeetsSeq.list_pop_last l its.toArray n u hy' (by rw [List.size_toArray]; walk_at "o")) ⟨e,?_⟩
 refine ⟨y,_,I.lset (its':=its.dropLast) hH e ?_ r.dropLast ?_,ru,q⟩
 ·show its.toArray.eraseIdxIfInBounds (its.toArray.size - 1) = its.dropLast.toArray
  rw [List.size_toArray,List.eraseIdxIfInBounds_toArray,t4]
 ·rw [List.length_dropLast]
  walk_at "o"
def F4:R2:=fun x y H Q=>∃ l b xs zs,x = .ref l /\ y = .ref b /\ H l = some (.lst xs) /\ H b = some (.lst zs) /\ xs.length + zs.length <= sizeLine /\ ∀ p,H p = none -> Q (.ref p) (upd H p (.lst (xs ++ zs)))
theorem Dl:fo X (binaryOp .Add) F4:=by
 intro pins s σ H x y v u Q I rx ry h
 obtain ⟨l,b,xs,zs,rfl,rfl,hH,hB,hz,q⟩:=h
 cases rx
 cases ry
 obtain ⟨z,its,n,r,hl,e⟩:=I.lstM hH
 obtain ⟨z2,its2,n2,r2,hl2,e2⟩:=I.lstM hB
 refine PySem.P.add_list e e2 ?_ (by rw [List.size_toArray,List.size_toArray]; walk_at "o")
 have ea:its.toArray ++ its2.toArray = (its ++ its2).toArray:=by simp
 rw [ea]
 exact ⟨.ref _,_,I.lnew (t':=s.toks) (r.append r2) (by rw [List.length_append]; walk_at "o"),rfl,q _ I.fresh⟩
def F9:R2:=fun x y H Q=>∃ l k xs,x = .ref l /\ y = .int k /\ H l = some (.lst xs) /\ -(2 ^ 63) <= k /\ k < 2 ^ 63 /\ xs.length * k.toNat <= sizeLine /\
 ∀ p,H p = none -> Q (.ref p) (upd H p (.lst (List.replicate k.toNat xs).flatten))
theorem At {α:Type} (xs:List α) (k:Nat):(List.replicate k xs).flatten.length = k * xs.length:=by
 induction k with
 | zero=>simp
 | succ k ih=>rw [List.replicate_succ,List.flatten_cons,List.length_append,ih,Nat.succ_mul,Nat.add_comm]
theorem D8:fo X (binaryOp .Mult) F9:=by
 intro pins s σ H x y v u Q I rx ry h
 obtain ⟨l,k,xs,rfl,rfl,hH,h1,h2,hz,q⟩:=h
 cases rx
 obtain ⟨t,rfl⟩:=ry
 obtain ⟨z,its,n,r,hl,e⟩:=I.lstM hH
 have hlen:its.toArray.size * k.toNat <= sizeLine:=by rw [List.size_toArray,<- hl]; exact hz
 have hcap:¬ its.toArray.size * k.toNat > (2 ^ 63 - 1) / 8:=by
  have:(sizeLine:Nat) <= (2 ^ 63 - 1) / 8:=by decide
  walk_at "o"
 have hfit:¬ (!Builtin.List.listFitsIndex k) = true:=by
  rw [fitsIndex_both h1 h2]
  exact Bool.false_ne_true
 have hlong:¬ Builtin.List.listTooLong (its.toArray.size * k.toNat) = true:=by
  rw [yD hlen]
  exact Bool.false_ne_true
 have hnew:List.foldl (fun x1 x2=>x1 ++ x2) #[] (List.replicate (if its.toArray.isEmpty = true then 0 else k.toNat) its.toArray) = (List.replicate k.toNat its).flatten.toArray:=by
  have f0:∀ m:Nat,List.foldl (fun x1 x2=>x1 ++ x2) #[] (List.replicate m its.toArray) = (List.replicate m its).flatten.toArray:=fun m=>by
   have:=pG its m []
   rw [List.nil_append] at this
   exact this
  rw [f0]
  cases its with
  | nil=>simp
  | cons a r'=>rw [if_neg (by simp)]
 refine wpAny_binaryOp_repeat_ref (T:="list") (U:="int") (by decide) ⟨_,e,rfl⟩ (fun s'=>typeIs_int s' k t) noFill_list_mul F.fills_int_mul F.slot_int_rmul repeat_list F.slot_int_index.lookup
  (call_meets F.slot_int_rmul (typeIs_int s k t) F.entry_int_rmul (F.args_int_rmul_2 _ _) (int___rmul___int_list k t l its.toArray n)
   ⟨e,rfl,⟨_,e,rfl⟩,call_meets F.slot_list_mul ⟨_,e,rfl⟩ F.entry_list_mul (F.args_list_mul_2 _ _) (AutoListH.list___mul___list_int_3 l its.toArray n k t hfit hcap hlong) ⟨e,?_⟩⟩)
 rw [hnew]
 exact ⟨.ref _,_,I.lnew (t':=s.toks) (r.rep k.toNat) (by rw [At,Nat.mul_comm]; exact hz),rfl,q _ I.fresh⟩
end
section
variable {prog:Program} {w:World} {A:Around} {E:Value -> Shared -> Prop} {s:Shared}
end
section
variable {X:Cx}
end
end L2
namespace Att
open PySem PySem.W PySem.Calls PyProof.Rows
theorem mi {P:Params} {h:Heap}:∀ (ns:List Int) (vs:List Value),WellAll P h vs (ns.map WData.int) -> IntsAre vs ns:=by
 intro ns
 induction ns with
 | nil =>
  intro vs w
  rw [List.map_nil] at w
  cases w
  exact .nil
 | cons n ns ih =>
  intro vs w
  rw [List.map_cons] at w
  cases w with
  | cons a b =>
   cases a
   exact .cons _ _ (ih _ b)
theorem vG {l:OpenLaw} {n:Nat} (hn:l.most = some n) {P:Params} {h:Heap} {args:List WData} {vals:List Value}
  (hpre:l.row.toRowW.claim.pre args = true) (hwl:WellAll P h vals args) :
  ∃ a vs ns,vals = [Value.ref a] /\ args = [WData.list (ns.map WData.int)] /\ h.get? a = some { cls:=.type "list",data:=.seq vs.toArray } /\ IntsAre vs ns /\ ns.length <= n:=by
 have hsh:WShape.hasAll [] args [.list .int] = true:=(pre_splitW hpre).1
 have hc:l.pre.holds [] { args:=args } = true:=(pre_splitW hpre).2
 obtain ⟨d,r,rfl,h1,h2⟩:=hasAllW_cons hsh
 obtain rfl:=hasAllW_nil h2
 obtain ⟨xs,rfl,h3⟩:=hasW_list h1
 obtain ⟨ns,rfl⟩:=items_int h3
 have hlen:ns.length <= n:=by
  unfold OpenLaw.pre at hc
  have h4:(WTm.not (.lt (.lit (.int (n:Int))) (.len (.arg 0)))).holds [] { args:=[.list (ns.map .int)] } = true:=by
   have h4:=(holds_andW hc).1
   rw [hn] at h4
   exact h4
  have h5:=condW_of h4 (w_not (w_lt w_lit (w_len_list (w_arg rfl))))
  rw [List.length_map] at h5
  refine Nat.le_of_not_lt fun q=>?_
  have q':(n:Int) < ((ns.length:Nat):Int):=by walk_at "o"
  first
   | (rw [decide_eq_true q'] at h5; exact absurd h5 (by decide))
   | (simp at h5; walk_at "o")
 cases hwl with
 | cons w1 w2 =>
  cases w2
  cases w1 with
  | list ho hall=>exact ⟨_,_,ns,rfl,rfl,ho,mi ns _ hall,hlen⟩
theorem vT (l:OpenLaw) (args:List WData):l.row.toRowW.claim.post args (.bool true) args = true :=
 postW_of (r:=l.row.toRowW) (X:=(true == true))
  (show WShape.has [] (.bool true) .bool = true by first | rfl | decide | simp [WShape.has,WShape.arms,WShape.armsAll])
  (show (WTm.eq .res (.lit (.bool true))).value [] { args:=args,res:=some (.bool true),after:=args } = some (.bool (true == true)) from w_eq_bool (w_res rfl) w_lit) rfl
theorem attach_call {l:OpenLaw} {n:Nat} {q:Program} {loose:List Str} {XP:(Str -> Option Value) -> Heap -> Prop} {YP:World -> Heap -> Prop} {d:DefRec}
  (hn:l.most = some n) (hdf:d.params.defaults = [])
  (call:∀ (w:World) (s₀ s₁:Shared) (mg mb:Str -> Option Value) (fa:Addr) (o:Obj) (pm cd doc:Value) (a:Addr) (vs:List Value) (ns:List Int),
   Ground q loose [] XP w s₀ mg mb s₁.heap -> YP w s₁.heap ->
   s₁.heap.get? fa = some o -> o.data = .func (docDef d.name d.params d.body d.scope pm cd doc) -> s₁.heap.CodeRec cd d.name -> mg d.name = some (.ref fa) ->
   s₁.heap.get? a = some { cls:=.type "list",data:=.seq vs.toArray } -> IntsAre vs ns -> ns.length <= n -> s₁.gens = #[] ->
   codeAny (model l.prog w) callerA (.call (.ref fa) ⟨[.ref a],[]⟩) (fun r s'=>r = .ok (.ret (.bool true)) /\ OldK s₁.heap s'.heap /\ s'.os = s₁.os /\ AllBare s'.gens) s₁) :
  WalkO q loose XP YP l.row.toRowW d [] (fun f vs=>PySem.call f vs):=by
 intro w s₀ s₁ mg mb G Y fa o pm cd doc dV kV ho hd hcd hD hmg hg args vals as hpre hlay hrd hwl hlo
 obtain rfl:dV = .none:=Dflts.none hD hdf
 obtain rfl:kV = .none:=Dflts.noKw hD
 obtain ⟨a,vs,ns,rfl,rfl,hobj,hints,hlen⟩:=vG hn hpre hwl
 refine enter_call (codeAny_mono (call w s₀ s₁ mg mb fa o pm cd doc a vs ns G Y ho (fd_plain hd) hcd hmg hobj hints hlen hg) fun r s' hq=>?_)
 obtain ⟨rfl,h2,h3,h4⟩:=hq
 exact ⟨.inl ⟨.bool true,.bool true,[],rfl,fun _=>rfl,.bool true,vT l _,fun _=>⟨List.Pairwise.nil,fun _ hm=>(nomatch hm)⟩⟩,h2,h3,h4⟩
section
variable {prog:Program} {w:World} {A:Around} {E:Value -> Shared -> Prop} {s:Shared} {K:Frag}
end
end Att
namespace L2
open PySem PySem.Spec PyProof.Rows
theorem pc:∀ {vs:List Value} {ns:List Int},IntsAre vs ns -> aX (ns.map V.int) vs
 | _,_,.nil=>.nil
 | _,_,.cons n t h=>.cons ⟨t,rfl⟩ (pc h)
end L2
namespace L2
open PySem PySem.Spec PyProof.Rows
end L2
namespace L2
open PySem PySem.Spec PyProof.Rows
def au (s:Stmt):Arguments:=match s with
 | .FunctionDef _ a _ _ _ _ _ _ _ _=>a
 | _=>{ posonlyargs:=[],args:=[],vararg:=none,kwonlyargs:=[],kw_defaults:=[],kwarg:=none,defaults:=[] }
def ao (s:Stmt):List Stmt:=match s with
 | .FunctionDef _ _ b _ _ _ _ _ _ _=>b
 | _=>[]
def ae (s:Stmt):Scope:=match s with
 | .FunctionDef _ _ _ _ _ _ sc _ _ _=>sc
 | _=>{ kind:=.function,names:=[],isGenerator:=false,isCoroutine:=false }
abbrev cV:tG:=fun _ _ _ _ _ _=>False
abbrev E0:XK:=fun _ _ _=>False
theorem E9 {X:Cx}:sV cV X E0:=fun _ _ _ _ _ _ _ h=>h.elim
structure cU (K:PySem.W.Frag) (x qual:Str) (st:Stmt) (f:Addr) (fd:FuncData):Prop where
 ex:∃ (oc:Value) (od:Option Addr) (kV doc pm:Value) (an:Option Addr) (cdv ct:Value) (osl:Array (Option Value)),
  fd = PySem.W.fnOf x qual (au st) (ao st) (ae st) .none kV doc pm an cdv ct /\ K.lookup f = some ⟨oc,od,.func fd,osl⟩ /\ PySem.W.codeIn K cdv qual = true
 kp:PySem.W.keepIn K (.ref f) = true
section
variable {P:Program} {w:World} {K:PySem.W.Frag} {mg:Str -> Option Value} {base:Heap}
theorem cU.ok {x qual:Str} {st:Stmt} {f:Addr} {fd:FuncData} {N ps:List Str} {k:Nat} {sp:Sp} (F:cU K x qual st f fd) (S:aq N ps (ae st)) (len:∀ vs H Q E,sp vs H Q E -> vs.length = ps.length)
  (hbody:∀ (cdv:Value) (A:Around) (outer:List Env) (s:Shared) (H:Hp) (vs:List V) (Q:VK) (E:XK),cW k (A.deeper (envOfC qual (ae st) s.heap.objs.size f cdv)) -> sp vs H Q E ->
   ∃ t,qD (fD cV P w K mg base N qual (ae st) f cdv A outer s H E).nox (ao st) t /\ t { nx:=fun _ H'=>Q .non H',rt:=Q } (start N vs) H):aV P w K mg base cV (k + 1) f fd ps sp:=by
 obtain ⟨oc,od,kV,doc,pm,an,cdv,ct,osl,rfl,lk,hcd⟩:=F.ex
 refine yl lk hcd S len fun A outer s H vs Q E hr hsp=>?_
 obtain ⟨t,h,q⟩:=hbody cdv A outer s H vs Q E hr hsp
 exact ⟨t,h.nox,q⟩
theorem cU.binds {x qual:Str} {st:Stmt} {f:Addr} {fd:FuncData} {ps:List Str} (F:cU K x qual st f fd)
  (h:∀ (kV doc pm:Value) (an:Option Addr) (cdv ct:Value) (us:List Value),us.length = ps.length -> bindArgs (PySem.W.fnOf x qual (au st) (ao st) (ae st) .none kV doc pm an cdv ct) ⟨us,[]⟩ = pure (ps.zip us)):ku K fd ps []:=by
 obtain ⟨oc,od,kV,doc,pm,an,cdv,ct,osl,rfl,lk,hcd⟩:=F.ex
 exact .all (h kV doc pm an cdv ct)
theorem aE {x qual:Str} {st:Stmt} {f:Addr} {oc:Value} {od an:Option Addr} {osl:Array (Option Value)} {kV doc pm cdv ct:Value} (l:K.lookup f = some ⟨oc,od,.func (PySem.W.fnOf x qual (au st) (ao st) (ae st) .none kV doc pm an cdv ct),osl⟩)
  (c:PySem.W.codeIn K cdv qual = true) (k:PySem.W.keepIn K (.ref f) = true):cU K x qual st f (PySem.W.fnOf x qual (au st) (ao st) (ae st) .none kV doc pm an cdv ct):=⟨⟨oc,od,kV,doc,pm,an,cdv,ct,osl,rfl,l,c⟩,k⟩
end
section
variable {X:Cx}
theorem pv (i:Nat) {x:Str} {pos:Pos} (hN:X.N[i]? = some x:=by rfl) (hv:Dy X.env.scope x:=by first | exact Or.inl rfl | exact Or.inr (Or.inl rfl) | exact Or.inr (Or.inr rfl)) (hd:(x == ("__debug__" : Str)) = false:=by decide)
  (hcd:(x == ("__classdict__" : Str)) = false:=by decide):PE X (.Name x pos) (tVar i):=yi hN hv hd hcd
end
theorem bV {c A B:Prop} [Decidable c] (h1:c -> A) (h2:¬ c -> B):if c then A else B:=by
 by_cases h:c
 ·rw [if_pos h]
  exact h1 h
 ·rw [if_neg h]
  exact h2 h
def aw (H H':Hp):Prop:=∀ b o,H b = some o -> H' b = some o
theorem aw.trans {H H1 H2:Hp} (a:aw H H1) (b:aw H1 H2):aw H H2:=fun c o h=>b c o (a c o h)
theorem aw.free {H H':Hp} (e:aw H H') {l:Addr} (h:H' l = Option.none):H l = Option.none:=by
 cases q:H l with
 | none=>rfl
 | some o =>
  rw [e l o q] at h
  cases h
end L2
namespace L2
open PySem PySem.Spec PyProof.Rows
structure aP (P:Program) (w:World) (K:PySem.W.Frag) (mg:Str -> Option Value) (base:Heap) (x:Str) (ps:List Str) (k:Nat) (sp:Sp):Prop where
 ex:∃ f fd,aV P w K mg base cV k f fd ps sp /\ mg x = some (.ref f) /\ PySem.W.keepIn K (.ref f) = true /\ ku K fd ps []
section
variable {X:Cx} {x:Str} {p pos:Pos} {e:Expr} {es:List Expr} {t:TA} {ps:List Str} {k:Nat} {sp:Sp}
def Ci (sp:Sp) (t:TA):TE:=fun σ H Q=>t σ H fun vs H1=>sp vs H1 Q E0
theorem Du (C:aP X.prog X.w X.K X.mg X.base x ps k sp) (hr:cW k X.A) (hg:Gl X x) (ha:PA X (e :: es) t) (hdb:(x == ("__debug__" : Str)) = false:=by decide)
  (he:starEach (e :: es) X.env = (false,eval e X.env) :: starEach es X.env:=by rfl) (hpl:(backTo pos (starEach es X.env)).any (·.1) = false:=by rfl) :
  PE X (.Call (.Name x p) (e :: es) [] pos) (Ci sp t):=by
 obtain ⟨f,fd,F,hm,hk,hb⟩:=C.ex
 intro pins s σ H Q I h
 refine Ax (E:=E0) (dvs:=[]) F hr hg hm hk hb .nil E9 ha hdb he hpl pins s σ H Q I ?_
 show t σ H fun vs H1=>sp (vs ++ []) H1 Q E0
 have e:(fun (vs:List V) H1=>sp (vs ++ []) H1 Q E0) = fun vs H1=>sp vs H1 Q E0:=by
  funext vs H1
  rw [List.append_nil]
 rw [e]
 exact h
end
section
variable {X:Cx}
theorem zI:fo X (binaryOp .Mult) (rI IntMulOk fun i j=>.int (i * j)):=Fe fun _ _ _ _ _ _ _ hc q=>mul_int q hc
def BR (_ j:Int):Prop:=j ≠ 0 /\ j.natAbs.log2 < 9000
theorem nI:fo X (binaryOp .FloorDiv) (rI BR fun i j=>.int (i.fdiv j)):=Fe fun _ _ _ _ _ _ _ hc q=>floordiv_int hc.1 q (.inl (PyProof.noPylong_of_log2 hc.2))
theorem gl:fo X (binaryOp .Mod) (rI (fun _ j=>j ≠ 0) fun i j=>.int (i.fmod j)):=AA
theorem vN:fo X (compareOp .IsNot) (fun x y H Q=>∃ b c,x = .bl b /\ y = .bl c /\ Q (.bl (b != c)) H):=by
 intro pins s σ H x y v u Q I rx ry h
 obtain ⟨b,c,rfl,rfl,q⟩:=h
 cases rx
 cases ry
 exact isnot_bool ⟨.bl _,H,I,rfl,q⟩
end
theorem sP {CX:tG} {P:Program} {w:World} {K:PySem.W.Frag} {mg:Str -> Option Value} {base:Heap} {N:List Str} {qual:Str} {scope:Scope} {f:Addr} {cd:Value} {A:Around} {outer:List Env} {s:Shared} {H:Hp} {E:XK} :
  (fD CX P w K mg base N qual scope f cd A outer s H E).K = K:=rfl
def vY:List Value -> Option (List V)
 | []=>some []
 | u :: us=>match EG u,vY us with
  | some x,some xs=>some (x :: xs)
  | _,_=>none
theorem pj:∀ {us:List Value} {xs:List V},vY us = some xs -> aX xs us
 | [],xs,h=>by cases h; exact .nil
 | u :: us,xs,h=>by
  unfold vY at h
  split at h
  ·rename_i x ys e1 e2
   cases h
   refine .cons ?_ (pj e2)
   cases u <;> first | (cases e1; first | exact rfl | exact ⟨_,rfl⟩) | cases e1
  ·cases h
def sZ (o:Obj):Option HO:=match o.data with
 | .seq its _=>if o.cls = .type "tuple" /\ its.size <= sizeLine then (vY its.toList).map HO.tup else none
 | _=>none
def vw (K:PySem.W.Frag) (H:Hp):Hp:=fun a=>match K.lookup a with
 | some o=>sZ o
 | none=>H a
theorem yy {o:Obj} {u:HO} (h:sZ o = some u):∃ xs,u = .tup xs:=by
 unfold sZ at h
 split at h
 ·split at h
  ·cases e:vY _ with
   | none=>rw [e] at h; cases h
   | some xs=>rw [e] at h; cases h; exact ⟨xs,rfl⟩
  ·cases h
 ·cases h
theorem dy {K:PySem.W.Frag} {H:Hp} {a:Addr} (hk:K.lookup a = none):vw K H a = H a:=by
 unfold vw
 rw [hk]
theorem hV {K:PySem.W.Frag} {H:Hp} {a:Addr} {xs:List V} (h:vw K H a = some (.tup xs)):sM K H a xs:=by
 unfold vw at h
 split at h
 ·rename_i o ho
  unfold sZ at h
  split at h
  ·rename_i its n hd
   split at h
   ·rename_i hc
    cases e:vY its.toList with
    | none=>rw [e] at h; cases h
    | some ys =>
     rw [e] at h
     cases h
     exact .inr ⟨o,its,n,ho,hc.1,hd,hc.2,pj e⟩
   ·cases h
  ·cases h
 ·exact .of h
theorem jB {K:PySem.W.Frag} {H:Hp} {a:Addr} {u:HO} (h:vw K H a = some u) (hu:∀ xs,u ≠ .tup xs):H a = some u:=by
 unfold vw at h
 split at h
 ·obtain ⟨xs,rfl⟩:=yy h
  exact absurd rfl (hu xs)
 ·exact h
theorem aO {K:PySem.W.Frag} {H:Hp} {a:Addr} {xs:List V} (h:vw K H a = some (.lst xs)):H a = some (.lst xs):=jB h fun _ e=>by cases e
theorem jV {K:PySem.W.Frag} {H H':Hp} (S:aw H H'):aw (vw K H) (vw K H'):=fun b o e=>by
 unfold vw at e ⊢
 split at e
 ·exact e
 ·exact S _ _ e
def dI (l:Addr) (H H':Hp):Prop:=∀ b o,b ≠ l -> H b = some o -> H' b = some o
theorem tz {K:PySem.W.Frag} {l:Addr} {H H':Hp} (S:dI l H H'):dI l (vw K H) (vw K H'):=fun b o hb e=>by
 unfold vw at e ⊢
 split at e
 ·exact e
 ·exact S _ _ hb e
theorem aG.noK {X:Cx} {pins:List (Addr × Obj)} {σ:St} {H:Hp} {s:Shared} {p:Addr} {o:HO} (I:aG X pins σ H s) (h:H p = some o):X.K.lookup p = none:=by
 cases e:X.K.lookup p with
 | none=>rfl
 | some ob =>
  have:=(I.bs p ob (I.mod.kin p ob e)).2
  rw [h] at this
  cases this
theorem aG.newK {X:Cx} {pins:List (Addr × Obj)} {σ:St} {H:Hp} {s:Shared} {p:Addr} (I:aG X pins σ H s) (hp:s.heap.objs.size <= p):X.K.lookup p = none:=by
 cases e:X.K.lookup p with
 | none=>rfl
 | some o=>exact absurd (Nat.lt_of_lt_of_le (Heap.lt_size (I.kIn p o e)) hp) (Nat.lt_irrefl _)
def Kf (K:PySem.W.Frag) (v:V) (H:Hp):Prop:=∀ p o,v = .ref p -> H p = some o -> K.lookup p = none
section
variable {X:Cx}
theorem fo.kf {f:Value -> Value -> Sem Value} {r:R2} (h:fo X f r):fo X f (fun x y H Q=>r x y H fun v H'=>Kf X.K v H' -> Q v H'):=fun pins s σ H x y v u Q I rx ry q =>
 cI (h pins s σ H x y v u _ I rx ry q) fun u' s' ⟨v',H',I',r',q'⟩=>⟨v',H',I',r',q' fun p o _ hp=>I'.noK hp⟩
theorem dF.kf {f:Value} {r:List V -> Hp -> VK -> Prop} (h:dF X f r):dF X f (fun xs H Q=>r xs H fun v H'=>Kf X.K v H' -> Q v H'):=fun pins s σ H xs us Q I rs q =>
 cI (h pins s σ H xs us _ I rs q) fun u' s' ⟨v',H',I',r',q'⟩=>⟨v',H',I',r',q' fun p o _ hp=>I'.noK hp⟩
theorem zx.kf {r:V -> Option Int -> Option Int -> Hp -> VK -> Prop} (h:zx X r):zx X (fun x a b H Q=>r x a b H fun v H'=>Kf X.K v H' -> Q v H'):=by
 intro pins s σ H x v vl vu lo hi sl Q I rx hs pl pu q
 obtain ⟨T,id,e1,e2,e3⟩:=h pins s σ H x v vl vu lo hi sl _ I rx hs pl pu q
 exact ⟨T,id,e1,e2,cI e3 fun u' s' ⟨v',H',I',r',q'⟩=>⟨v',H',I',r',q' fun p o _ hp=>I'.noK hp⟩⟩
end
theorem aw.upd {H:Hp} {p:Addr} {o:HO} (hp:H p = none):aw H (upd H p o):=fun b u e=>by
 rw [aQ (ak e hp)]
 exact e
theorem dI.upd {H:Hp} {l:Addr} {o:HO}:dI l H (upd H l o):=fun b u hb e=>by
 rw [aQ hb]
 exact e
theorem aw.but {H H':Hp} (h:aw H H') (l:Addr):dI l H H':=fun b o _ e=>h b o e
theorem dI.trans {l:Addr} {H H1 H2:Hp} (a:dI l H H1) (b:dI l H1 H2):dI l H H2:=fun c o hc h=>b c o hc (a c o hc h)
def Es (H:Hp):V -> Option String
 | .non=>some "NoneType"
 | .bl _=>some "bool"
 | .int _=>some "int"
 | .str _=>some "str"
 | .ref a=>match H a with
  | some (.lst _)=>some "list"
  | some (.frz _ (.lst _))=>some "list"
  | some (.tup _)=>some "tuple"
  | some (.dK _)=>some "dict"
  | _=>none
 | _=>none
def gA (n c:String):Bool:=n == c || (n == "bool" && c == "int")
def DI (n:String):Prop:=n = "NoneType" \/ n = "bool" \/ n = "int" \/ n = "str" \/ n = "list" \/ n = "tuple" \/ n = "dict"
def ph (c:String):Prop:=c = "bool" \/ c = "int" \/ c = "list" \/ c = "tuple" \/ c = "str" \/ c = "dict"
theorem eK {K:PySem.W.Frag} {n c:String} (hn:DI n) (hc:ph c):PySem.W.kitOne K (.type n) (.type c) = some (gA n c):=by
 rcases hn with rfl | rfl | rfl | rfl | rfl | rfl | rfl <;> rcases hc with rfl | rfl | rfl | rfl | rfl | rfl <;> rfl
section
variable {X:Cx}
theorem cz:dF X (.builtin "isinstance") (fun xs H Q=>∃ x c n,xs = [x,.ty c] /\ ph c /\ Es (vw X.K H) x = some n /\ Q (.bl (gA n c)) H):=by
 intro pins s σ H xs us Q I r h
 obtain ⟨x,c,n,rfl,hc,hn,q⟩:=h
 obtain ⟨u,w',rfl,rx,ry⟩:=vt r
 cases ry
 have fin:∀ tk,EP X pins σ Q (.bool (gA n c)) { s with toks:=tk }:=fun tk=>⟨.bl _,H,I.tok tk,rfl,q⟩
 cases x with
 | non=>cases hn; exact fe I rx .non (eK (.inl rfl) hc) fin
 | bl b=>cases hn; exact fe I rx (.bl b) (eK (.inr (.inl rfl)) hc) fin
 | int b=>cases hn; exact fe I rx (.int b) (eK (.inr (.inr (.inl rfl))) hc) fin
 | str b=>cases hn; exact fe I rx (.str b) (eK (.inr (.inr (.inr (.inl rfl)))) hc) fin
 | flt b=>cases hn
 | byt b=>cases hn
 | ty b=>cases hn
 | ref a =>
  unfold Es at hn
  dsimp only at hn
  split at hn
  ·rename_i e; cases hn; exact fe I rx (.lst (aO e)) (eK (.inr (.inr (.inr (.inr (.inl rfl))))) hc) fin
  ·rename_i e; cases hn; exact fe I rx (.frz (jB e fun _ z=>by cases z)) (eK (.inr (.inr (.inr (.inr (.inl rfl))))) hc) fin
  ·rename_i ys e
   cases hn
   cases (show u = Value.ref a from rx)
   obtain ⟨its,rv,p,hz⟩:=I.tuple (hV e)
   obtain ⟨o,h1,h2,_⟩:=p
   exact PySem.W.kia_one PySem.W.kitx_tuple I.kIn ⟨o,h1,h2⟩ (eK (.inr (.inr (.inr (.inr (.inr (.inl rfl)))))) hc) (fun z=>nomatch z) fin
  ·rename_i e; cases hn; exact fe I rx (.dK (jB e fun _ z=>by cases z)) (eK (.inr (.inr (.inr (.inr (.inr (.inr rfl)))))) hc) fin
  ·cases hn
end
theorem Aa:ph "int":=.inr (.inl rfl)
theorem xa:ph "bool":=.inl rfl
theorem yu:ph "list":=.inr (.inr (.inl rfl))
theorem vI:ph "tuple":=.inr (.inr (.inr (.inl rfl)))
theorem sY:bootBuiltins "abs" = some (.builtin "abs"):=by decide +kernel
theorem aT:bootBuiltins "len" = some (.builtin "len"):=by decide +kernel
theorem aM:bootBuiltins "isinstance" = some (.builtin "isinstance"):=by decide +kernel
theorem sO:bootBuiltins "max" = some (.builtin "max"):=by decide +kernel
theorem Ce:bootBuiltins "min" = some (.builtin "min"):=by decide +kernel
theorem yn:bootBuiltins "int" = some (.type "int"):=by decide +kernel
theorem qY:bootBuiltins "bool" = some (.type "bool"):=by decide +kernel
theorem fI:bootBuiltins "list" = some (.type "list"):=by decide +kernel
theorem ol:bootBuiltins "tuple" = some (.type "tuple"):=by decide +kernel
theorem qN:bootBuiltins "enumerate" = some (.type "enumerate"):=by decide +kernel
theorem rZ:bootBuiltins "reversed" = some (.type "reversed"):=by decide +kernel
theorem Dd:bootBuiltins "zip" = some (.type "zip"):=by decide +kernel
section
variable {X:Cx}
theorem vJ.imp {r r':R2} (h:vJ X r) (hi:∀ x y H Q,r' x y H Q -> r x y H Q):vJ X r':=fun v sl pins s σ H x y vv u Q I rx ry q hs=>h v sl pins s σ H x y vv u Q I rx ry (hi _ _ _ _ q) hs
theorem dF.imp {f:Value} {r r':List V -> Hp -> VK -> Prop} (h:dF X f r) (hi:∀ xs H Q,r' xs H Q -> r xs H Q):dF X f r':=fun pins s σ H xs us Q I rs q=>h pins s σ H xs us Q I rs (hi _ _ _ q)
def wo (K:PySem.W.Frag):R2:=fun x y H Q=>∃ p i,x = .ref p /\ y = .int i /\ ∃ xs,vw K H p = some (.lst xs) /\ ∃ v,lV xs i = some v /\ Q v H
def zy (K:PySem.W.Frag):R2:=fun x y H Q=>∃ p i,x = .ref p /\ y = .int i /\ ∃ xs,vw K H p = some (.tup xs) /\ ∃ v,lV xs i = some v /\ Q v H
theorem cJ:vJ X (wo X.K):=u4.imp fun _ _ _ _ ⟨p,i,e1,e2,xs,e3,v,e4,q⟩=>⟨p,xs,i,v,e1,e2,.of (aO e3),e4,q⟩
theorem bH:vJ X (zy X.K):=Dg.imp fun _ _ _ _ ⟨p,i,e1,e2,xs,e3,v,e4,q⟩=>⟨p,xs,i,v,e1,e2,hV e3,e4,q⟩
def fA (H:Hp) (p:Addr):Option Nat:=match H p with
 | some (.lst xs)=>some xs.length
 | some (.frz _ (.lst xs))=>some xs.length
 | some (.tup xs)=>some xs.length
 | _=>none
theorem aB:dF X (.builtin "len") (fun xs H Q=>∃ p,xs = [.ref p] /\ ∃ n:Nat,fA (vw X.K H) p = some n /\ Q (.int n) H):=gW.imp fun xs H Q ⟨p,e,n,hn,q⟩=>by
 unfold fA at hn
 split at hn
 ·rename_i ys hp
  cases hn
  exact ⟨p,ys,e,.inl (.of (aO hp)),q⟩
 ·rename_i o ys hp
  cases hn
  exact ⟨p,ys,e,.inl (.inl (.inr ⟨o,jB hp fun _ z=>by cases z⟩)),q⟩
 ·rename_i ys hp
  cases hn
  exact ⟨p,ys,e,.inr (hV hp),q⟩
 ·cases hn
def jr (K:PySem.W.Frag) (n:Nat) (t:wG):TG:=fun v σ H Q=>∃ a,v = .ref a /\ ∃ xs,vw K H a = some (.tup xs) /\ xs.length = n /\ t xs σ H Q
theorem zB {es:List Expr} {k:Nat} {t:wG} {n:Nat} {pos:Pos} (hc:X.calm = true) (h:Ex X es t)
  (hn:(assignEach es X.env).length = n:=by rfl) (hst:(assignEach es X.env).findIdx? (·.1) = none:=by rfl):PG X (.Tuple es k pos) (jr X.K n t) :=
 fun pins s σ H v u Q I r ⟨a,e,xs,hx,hl,q⟩=>Eg hc h hn hst pins s σ H v u Q I r ⟨a,xs,e,hV hx,hl,q⟩
theorem fE {α:Type} {x:α} {xs:List α}:lV (x :: xs) 0 = some x:=bQ (j:=0) rfl
theorem ij {α:Type} {x y:α} {xs:List α}:lV (x :: y :: xs) 1 = some y:=bQ (j:=1) rfl
theorem Fa {α:Type} {x y z:α} {xs:List α}:lV (x :: y :: z :: xs) 2 = some z:=bQ (j:=2) rfl
theorem jX {α:Type} {xs:List α} {r:Int} (h0:0 <= r) (h1:r < xs.length):∃ v,lV xs r = some v /\ v ∈ xs:=by
 have h2:r.toNat < xs.length:=by walk_at "o"
 refine ⟨xs[r.toNat],?_,List.getElem_mem h2⟩
 have e:=bQ (xs:=xs) (j:=r.toNat) (v:=xs[r.toNat]) (List.getElem?_eq_getElem h2)
 rw [show ((r.toNat:Nat):Int) = r by walk_at "o"] at e
 exact e
theorem aw.but_trans {H H1 H2:Hp} {st:Addr} (s:aw H H1) (hn:H st = none) (b:dI st H1 H2):aw H H2:=fun c o e=>b c o (ak e hn) (s c o e)
theorem dI.same_trans {H H1 H2:Hp} {st:Addr} (b:dI st H H1) (s:aw H1 H2):dI st H H2:=b.trans (s.but st)
theorem AX:tN 2 0 = some 0:=rfl
theorem Ar {K:PySem.W.Frag} {b k:Bool} {H:Hp}:rf K (.bl b) H k = (k = b):=rfl
theorem yz {K:PySem.W.Frag} {i:Int} {k:Bool} {H:Hp}:rf K (.int i) H k = (k = (i != 0)):=rfl
theorem ui {i j:Int} (h:0 <= j /\ j <= 1000000 /\ i.natAbs < 2 ^ 64):Ff i j:=h
end
def Nw (K:PySem.W.Frag) (H:Hp) (o:HO) (Q:VK):Prop:=∀ p H2,vw K H p = none -> aw (vw K H) (vw K H2) -> vw K H2 p = some o -> Q (.ref p) H2
theorem Nw.ok {K:PySem.W.Frag} {H:Hp} {o:HO} {Q:VK} (h:Nw K H o Q) {p:Addr} (hk:K.lookup p = none) (hp:H p = none):Q (.ref p) (upd H p o) :=
 h p _ (by rw [dy hk]; exact hp) (jV (aw.upd hp)) (by rw [dy hk]; exact bI)
theorem Nw.al {K:PySem.W.Frag} {H:Hp} {o:HO} {Q:VK} (h:Nw K H o Q):∀ p,H p = none -> Kf K (.ref p) (upd H p o) -> Q (.ref p) (upd H p o):=fun p hp hk=>h.ok (hk p _ rfl bI) hp
def jT (K:PySem.W.Frag) (t:TA):TE:=fun σ H Q=>t σ H fun xs H1=>xs.length <= sizeLine /\ Nw K H1 (.tup xs) Q
def kq (K:PySem.W.Frag) (t:TA):TE:=fun σ H Q=>t σ H fun xs H1=>xs.length <= sizeLine /\ Nw K H1 (.lst xs) Q
def Fu (K:PySem.W.Frag):TE:=fun _ H Q=>Nw K H (.dK []) Q
section
variable {X:Cx} {es:List Expr} {t:TA} {pos:Pos}
theorem Bp {x1} (h:PA X es t):PE X (.Tuple es x1 pos) (jT X.K t):=by
 intro pins s σ H Q I hq
 refine wpAny_Tuple_spliced (cI (h pos pins s σ H _ I hq) fun us s1 ⟨xs,H1,I1,r,z,q⟩=>⟨by rw [<- r.length]; exact z,?_⟩)
 have hf:H1 s1.heap.objs.size = none:=I1.hok.fresh (Nat.le_refl _)
 refine ⟨.ref s1.heap.objs.size,upd H1 s1.heap.objs.size (.tup xs),I1.laid (t':=s1.toks) (fun b u e=>Heap.get?_push_of_some _ e) (Nat.le_refl _) ?_,rfl,q.ok (I1.newK (Nat.le_refl _)) hf⟩
 exact ⟨z,us,r,⟨_,Heap.get?_push_size _ rfl,rfl,_,rfl⟩⟩
theorem zG (h:PA X es t):PE X (.List es pos) (kq X.K t):=by
 intro pins s σ H Q I hq
 refine wpAny_List_spliced (cI (h pos pins s σ H _ I hq) fun us s1 ⟨xs,H1,I1,r,z,q⟩=>⟨by rw [<- r.length]; exact z,?_⟩)
 have hf:H1 s1.heap.objs.size = none:=I1.hok.fresh (Nat.le_refl _)
 refine ⟨.ref s1.heap.objs.size,upd H1 s1.heap.objs.size (.lst xs),I1.laid (t':=s1.toks) (fun b u e=>Heap.get?_push_of_some _ e) (Nat.le_refl _) ?_,rfl,q.ok (I1.newK (Nat.le_refl _)) hf⟩
 exact ⟨z,us,0,r,Heap.get?_push_size _ rfl⟩
theorem fo.imp {f:Value -> Value -> Sem Value} {r r':R2} (h:fo X f r) (hi:∀ x y H Q,r' x y H Q -> r x y H Q):fo X f r':=fun pins s σ H x y v u Q I rx ry q=>h pins s σ H x y v u Q I rx ry (hi _ _ _ _ q)
def uV (K:PySem.W.Frag):R2:=fun x y H Q=>∃ l b,x = .ref l /\ y = .ref b /\ ∃ xs,vw K H l = some (.lst xs) /\ ∃ zs,vw K H b = some (.lst zs) /\ xs.length + zs.length <= sizeLine /\ Nw K H (.lst (xs ++ zs)) Q
theorem AY:fo X (binaryOp .Add) (uV X.K):=Dl.kf.imp fun _ _ _ _ ⟨l,b,e1,e2,xs,h1,zs,h2,z,q⟩=>⟨l,b,xs,zs,e1,e2,aO h1,aO h2,z,q.al⟩
def uF (K:PySem.W.Frag):R2:=fun x y H Q=>∃ l k,x = .ref l /\ y = .int k /\ ∃ xs,vw K H l = some (.lst xs) /\ -(2 ^ 63) <= k /\ k < 2 ^ 63 /\ xs.length * k.toNat <= sizeLine /\ Nw K H (.lst (List.replicate k.toNat xs).flatten) Q
theorem Ah:fo X (binaryOp .Mult) (uF X.K):=D8.kf.imp fun _ _ _ _ ⟨l,k,e1,e2,xs,h1,z1,z2,z3,q⟩=>⟨l,k,xs,e1,e2,aO h1,z1,z2,z3,q.al⟩
def im (K:PySem.W.Frag):R2:=fun x y H Q=>rI IntMulOk (fun i j=>.int (i * j)) x y H Q \/ uF K x y H Q
def gf (K:PySem.W.Frag):R2:=fun x y H Q=>uh (fun i j=>.int (i + j)) x y H Q \/ uV K x y H Q
theorem aL:fo X (binaryOp .Mult) (im X.K):=zI.or Ah
theorem aS:fo X (binaryOp .Add) (gf X.K):=CY.or AY
theorem ge {K:PySem.W.Frag} {i j:Int} {H:Hp} {Q:VK}:im K (.int i) (.int j) H Q = (IntMulOk i j /\ Q (.int (i * j)) H):=by
 simp [im,rI,uF]
theorem fk {K:PySem.W.Frag} {l:Addr} {j:Int} {H:Hp} {Q:VK}:im K (.ref l) (.int j) H Q = ∃ xs,vw K H l = some (.lst xs) /\ -(2 ^ 63) <= j /\ j < 2 ^ 63 /\ xs.length * j.toNat <= sizeLine /\ Nw K H (.lst (List.replicate j.toNat xs).flatten) Q:=by
 simp [im,rI,uF]
theorem oK {K:PySem.W.Frag} {i j:Int} {H:Hp} {Q:VK}:gf K (.int i) (.int j) H Q = Q (.int (i + j)) H:=by
 simp [gf,uh,uV]
theorem dl {K:PySem.W.Frag} {l b:Addr} {H:Hp} {Q:VK}:gf K (.ref l) (.ref b) H Q = ∃ xs,vw K H l = some (.lst xs) /\ ∃ zs,vw K H b = some (.lst zs) /\ xs.length + zs.length <= sizeLine /\ Nw K H (.lst (xs ++ zs)) Q:=by
 simp [gf,uh,uV]
theorem eZ:dF X (.type "list") (fun xs H Q=>∃ p,xs = [.ref p] /\ ∃ ys,vw X.K H p = some (.lst ys) /\ Nw X.K H (.lst ys) Q):=kF.kf.imp fun _ _ _ ⟨p,e,ys,h,q⟩=>⟨p,ys,e,.inl (.of (aO h)),q.al⟩
theorem sr:dF X (.type "tuple") (fun xs H Q=>∃ p,xs = [.ref p] /\ ∃ ys,vw X.K H p = some (.lst ys) /\ Nw X.K H (.tup ys) Q):=oq.kf.imp fun _ _ _ ⟨p,e,ys,h,q⟩=>⟨p,ys,e,.inl ⟨.of (aO h),q.al⟩⟩
theorem zx.imp {r r':V -> Option Int -> Option Int -> Hp -> VK -> Prop} (h:zx X r) (hi:∀ x a b H Q,r' x a b H Q -> r x a b H Q):zx X r':=by
 intro value p2 pins s σ H x lo hi' v vl vh sl Q
 intros
 apply h <;> first | assumption | (apply hi; assumption)
def Fm (K:PySem.W.Frag):V -> Option Int -> Option Int -> Hp -> VK -> Prop:=fun x lo hi H Q=>∃ a,x = .ref a /\ ∃ xs,vw K H a = some (.lst xs) /\ Nw K H (.lst (jO xs lo hi)) Q
theorem gN:zx X (Fm X.K):=AT.kf.imp fun _ _ _ _ _ ⟨a,e,xs,h,q⟩=>⟨a,xs,e,.of (aO h),q.al⟩
def BD (K:PySem.W.Frag) (H:Hp) (l:Addr) (o:HO) (Q:Hp -> Prop):Prop:=∀ H2,dI l (vw K H) (vw K H2) -> vw K H2 l = some o -> Q H2
theorem BD.ok {K:PySem.W.Frag} {H:Hp} {l:Addr} {o:HO} {Q:Hp -> Prop} (h:BD K H l o Q) (hk:K.lookup l = none):Q (upd H l o):=h _ (tz dI.upd) (by rw [dy hk]; exact bI)
def yf (K:PySem.W.Frag):V -> V -> V -> Hp -> (Hp -> Prop) -> Prop:=fun o i v H Q=>∃ p k,o = .ref p /\ i = .int k /\ ∃ xs,vw K H p = some (.lst xs) /\ ∃ j,tN xs.length k = some j /\ BD K H p (.lst (xs.set j v)) Q
theorem eJ:vO X (yf X.K):=fun pins s σ H o i v ov iv u Q I ro ri rv ⟨p,k,e1,e2,xs,h,j,e3,q⟩=>wV pins s σ H o i v ov iv u Q I ro ri rv ⟨p,xs,k,j,e1,e2,aO h,e3,q.ok (I.noK (aO h))⟩
def zm (K:PySem.W.Frag):V -> List V -> Hp -> VK -> Prop:=fun x vs H Q=>∃ l y,x = .ref l /\ vs = [y] /\ ∃ xs,vw K H l = some (.lst xs) /\ xs.length < sizeLine /\ BD K H l (.lst (xs ++ [y])) (Q .non)
theorem fZ:FG X "list.append" (zm X.K):=fun pins s σ H x vs v us Q I rx rv ⟨l,y,e1,e2,xs,h,z,q⟩=>oY pins s σ H x vs v us Q I rx rv ⟨l,xs,y,e1,e2,aO h,z,q.ok (I.noK (aO h))⟩
def BL (K:PySem.W.Frag):V -> List V -> Hp -> VK -> Prop:=fun x vs H Q=>∃ l,x = .ref l /\ vs = [] /\ ∃ xs,vw K H l = some (.lst xs) /\ ∃ y,xs[xs.length - 1]? = some y /\ BD K H l (.lst xs.dropLast) (Q y)
theorem AG:FG X "list.pop" (BL X.K):=fun pins s σ H x vs v us Q I rx rv ⟨l,e1,e2,xs,h,y,e3,q⟩=>CD pins s σ H x vs v us Q I rx rv ⟨l,xs,y,e1,e2,aO h,e3,q.ok (I.noK (aO h))⟩
end
def vD (J:It) (g:TG) (tb:TS) (D:kP) (σ:St) (H1:Hp):Prop:=∃ W:Nat -> Nat -> St -> Hp -> Prop,(∃ m,W 0 m σ H1) /\ ∀ i m σ H,W i m σ H ->
 (J.stop i H /\ D.nx σ H) \/ (J.go i H /\ ∃ N:St -> Hp -> Prop,(∀ σ' H',N σ' H' -> ∃ m',m' < m /\ W (i + 1) m' σ' H') /\ ∀ x H',J.yld i H x H' -> g x σ H' fun σ2 H2=>tb { D with nx:=N,ct:=N,bk:=D.nx } σ2 H2)
theorem Ai (wi:TI) (g:TG) (tb:TS) (D:kP) (σ:St) (H:Hp):Cw wi g tb D σ H = wi σ H fun J H1=>vD J g tb D σ H1:=rfl
end L2
namespace L2
open PySem PySem.Spec PyProof.Rows
inductive D where
 | non | bl (b:Bool) | int (i:Int) | str (x:Str) | dict | tup (ds:List D) | lst (ds:List D)
mutual
def aC (H:Hp):D -> V -> Prop
 | .non,v=>v = .non
 | .bl b,v=>v = .bl b
 | .int i,v=>v = .int i
 | .str x,v=>v = .str x
 | .dict,v=>∃ a kvs,v = .ref a /\ H a = some (.dK kvs)
 | .tup ds,v=>∃ a xs,v = .ref a /\ H a = some (.tup xs) /\ aF H ds xs
 | .lst ds,v=>∃ a xs,v = .ref a /\ H a = some (.lst xs) /\ aF H ds xs
def aF (H:Hp):List D -> List V -> Prop
 | [],xs=>xs = []
 | d :: ds,xs=>∃ x r,xs = x :: r /\ aC H d x /\ aF H ds r
end
mutual
theorem aC.same {H H':Hp} (S:aw H H'):∀ (d:D) (v:V),aC H d v -> aC H' d v
 | .non,v,h=>by unfold aC at h ⊢; exact h
 | .bl b,v,h=>by unfold aC at h ⊢; exact h
 | .int i,v,h=>by unfold aC at h ⊢; exact h
 | .str x,v,h=>by unfold aC at h ⊢; exact h
 | .dict,v,h=>by
  unfold aC at h ⊢
  obtain ⟨a,kvs,e,h⟩:=h
  exact ⟨a,kvs,e,S _ _ h⟩
 | .tup ds,v,h=>by
  unfold aC at h ⊢
  obtain ⟨a,xs,e,h,r⟩:=h
  exact ⟨a,xs,e,S _ _ h,aF.same S ds xs r⟩
 | .lst ds,v,h=>by
  unfold aC at h ⊢
  obtain ⟨a,xs,e,h,r⟩:=h
  exact ⟨a,xs,e,S _ _ h,aF.same S ds xs r⟩
theorem aF.same {H H':Hp} (S:aw H H'):∀ (ds:List D) (xs:List V),aF H ds xs -> aF H' ds xs
 | [],xs,h=>by unfold aF at h ⊢; exact h
 | d :: ds,xs,h=>by
  unfold aF at h ⊢
  obtain ⟨x,r,e,h1,h2⟩:=h
  exact ⟨x,r,e,aC.same S d x h1,aF.same S ds r h2⟩
end
theorem aF.get {H:Hp}:∀ {ds:List D} {xs:List V} {i:Nat} {x:V},aF H ds xs -> xs[i]? = some x -> ∃ d,ds[i]? = some d /\ aC H d x
 | [],xs,i,x,h,e=>by
  unfold aF at h
  subst h
  simp at e
 | d :: ds,xs,i,x,h,e=>by
  unfold aF at h
  obtain ⟨y,r,rfl,h1,h2⟩:=h
  cases i with
  | zero =>
   have e':y = x:=by simpa using e
   subst e'
   exact ⟨d,by simp,h1⟩
  | succ i =>
   obtain ⟨d',e1,e2⟩:=aF.get (i:=i) h2 (by simpa using e)
   exact ⟨d',by simpa using e1,e2⟩
theorem aF.length {H:Hp}:∀ {ds:List D} {xs:List V},aF H ds xs -> xs.length = ds.length
 | [],xs,h=>by
  unfold aF at h
  subst h
  rfl
 | d :: ds,xs,h=>by
  unfold aF at h
  obtain ⟨y,r,rfl,_,h2⟩:=h
  simp [aF.length h2]
def D.ty:D -> String
 | .non=>"NoneType" | .bl _=>"bool" | .int _=>"int" | .str _=>"str" | .dict=>"dict" | .tup _=>"tuple" | .lst _=>"list"
theorem aC.ty {H:Hp} {d:D} {v:V} (h:aC H d v):Es H v = some d.ty:=by
 cases d <;> unfold aC at h
 ·subst h; rfl
 ·subst h; rfl
 ·subst h; rfl
 ·subst h; rfl
 ·obtain ⟨a,kvs,rfl,h⟩:=h
  simp only [Es,h,D.ty]
 ·obtain ⟨a,xs,rfl,h,_⟩:=h
  simp only [Es,h,D.ty]
 ·obtain ⟨a,xs,rfl,h,_⟩:=h
  simp only [Es,h,D.ty]
theorem rK (a b:Int):Int.gcd b (a.fmod b) = Int.gcd a b:=by
 rw [Int.fmod_def,Int.gcd_comm a b]
 have:a - b * a.fdiv b = a + b * (- a.fdiv b):=by rw [Int.mul_neg]; walk_at "o"
 rw [this]
 simp
theorem uN (a:Int) {b:Int} (hb:b ≠ 0):(a.fmod b).natAbs < b.natAbs:=by
 rcases Int.lt_or_gt_of_ne hb with h | h
 ·obtain ⟨n,rfl⟩ : ∃ n:Nat,b = Int.negSucc n:=⟨(-b - 1).toNat,by walk_at "o"⟩
  cases a with
  | ofNat m =>
   cases m with
   | zero=>simp [Int.fmod]
   | succ m =>
    show (Int.subNatNat (m % (n + 1)) n).natAbs < n + 1
    have:=Nat.mod_lt m (show 0 < n + 1 by walk_at "o")
    rw [Int.subNatNat_eq_coe]
    generalize m % (n + 1) = z at *
    walk_at "o"
  | negSucc m =>
   show (-((((m + 1) % (n + 1):Nat)):Int)).natAbs < n + 1
   have:=Nat.mod_lt (m + 1) (show 0 < n + 1 by walk_at "o")
   generalize (m + 1) % (n + 1) = z at *
   walk_at "o"
 ·have h1:=Int.fmod_nonneg_of_pos a h
  have h2:=Int.fmod_lt_of_pos a h
  walk_at "o"
def lg (a b:Int):Int:=if b < 0 then -(Int.gcd a b:Int) else (Int.gcd a b:Int)
def lo (a b:Int):Int × Int:=(a.fdiv (lg a b),b.fdiv (lg a b))
def fr (q:Int × Int):D:=.tup [.int q.1,.int q.2]
def Fq (q:Int × Int):Prop:=0 < q.2 /\ Int.gcd q.1 q.2 = 1
theorem yp {a b:Int} (hb:b ≠ 0):lg a b ≠ 0:=by
 have h:Int.gcd a b ≠ 0:=fun e=>hb (Int.gcd_eq_zero_iff.mp e).2
 unfold lg
 split <;> walk_at "o"
theorem sH (a b:Int):lg a b ∣ a:=by
 unfold lg
 split
 ·exact Int.neg_dvd.mpr (Int.gcd_dvd_left ..)
 ·exact Int.gcd_dvd_left ..
theorem re (a b:Int):lg a b ∣ b:=by
 unfold lg
 split
 ·exact Int.neg_dvd.mpr (Int.gcd_dvd_right ..)
 ·exact Int.gcd_dvd_right ..
theorem eI {a b:Int} (hb:b ≠ 0):(lo a b).1 * lg a b = a:=by
 show a.fdiv (lg a b) * lg a b = a
 exact Int.fdiv_mul_cancel (sH a b)
theorem eS {a b:Int} (hb:b ≠ 0):(lo a b).2 * lg a b = b:=by
 show b.fdiv (lg a b) * lg a b = b
 exact Int.fdiv_mul_cancel (re a b)
theorem vU (a b:Int):(lg a b).natAbs = Int.gcd a b:=by
 unfold lg
 split <;> walk_at "o"
theorem fG {a b:Int} (hb:b ≠ 0):Fq (lo a b):=by
 have h1:=eI (a:=a) hb
 have h2:=eS (a:=a) hb
 have hg:0 < Int.gcd a b:=Nat.pos_of_ne_zero fun e=>hb (Int.gcd_eq_zero_iff.mp e).2
 constructor
 ·by_cases hn:b < 0
  ·have e:lg a b = -(Int.gcd a b:Int):=if_pos hn
   rw [e] at h2
   rcases Int.lt_trichotomy (lo a b).2 0 with h | h | h
   ·have:=Int.mul_nonneg_of_nonpos_of_nonpos (Int.le_of_lt h) (show -(Int.gcd a b:Int) <= 0 by walk_at "o")
    walk_at "o"
   ·rw [h] at h2; walk_at "o"
   ·exact h
  ·have e:lg a b = (Int.gcd a b:Int):=if_neg hn
   rw [e] at h2
   rcases Int.lt_trichotomy (lo a b).2 0 with h | h | h
   ·have:=Int.mul_nonpos_of_nonpos_of_nonneg (Int.le_of_lt h) (show 0 <= (Int.gcd a b:Int) by walk_at "o")
    walk_at "o"
   ·rw [h] at h2; walk_at "o"
   ·exact h
 ·have e:Int.gcd ((lo a b).1 * lg a b) ((lo a b).2 * lg a b) = Int.gcd (lo a b).1 (lo a b).2 * (lg a b).natAbs:=Int.gcd_mul_right ..
  rw [h1,h2,vU] at e
  have:1 * Int.gcd a b = Int.gcd (lo a b).1 (lo a b).2 * Int.gcd a b:=by walk_at "o"
  exact (Nat.eq_of_mul_eq_mul_right hg this).symm
mutual
def D.noSt:D -> Bool
 | .lst [.int _,.bl _]=>false
 | .lst ds=>D.noSts ds
 | .tup ds=>D.noSts ds
 | _=>true
def D.noSts:List D -> Bool
 | []=>true
 | d :: ds=>d.noSt && D.noSts ds
end
def cE (H:Hp) (st:Addr):Prop:=∃ x b,H st = some (.lst [.int x,.bl b]) /\ (b = false -> 0 <= x /\ x < 2147483647)
theorem xm {ds:List D} (h:D.noSt (.lst ds) = true):D.noSts ds = true /\ ∀ i b,ds ≠ [.int i,.bl b]:=by
 unfold D.noSt at h
 split at h
 ·cases h
 ·rename_i hne e
  cases e
  exact ⟨h,fun i b z=>hne i b (by rw [z])⟩
 ·rename_i e; cases e
 ·rename_i e _; exact (e _ rfl).elim
theorem aC.lst_st {H:Hp} {ds:List D} {x:Int} {b:Bool} (h:aF H ds [.int x,.bl b]):ds = [.int x,.bl b]:=by
 match ds with
 | []=>unfold aF at h; cases h
 | [d] =>
  unfold aF at h
  obtain ⟨_,_,e,_,h⟩:=h
  unfold aF at h
  subst h
  cases e
 | d1 :: d2 :: d3 :: r =>
  have:=aF.length h
  simp at this
 | [d1,d2] =>
  unfold aF at h
  obtain ⟨_,_,e,h1,h⟩:=h
  cases e
  unfold aF at h
  obtain ⟨_,_,e,h2,h⟩:=h
  cases e
  have e1:d1 = .int x:=by
   cases d1 <;> unfold aC at h1 <;> first | (cases h1; rfl) | (obtain ⟨_,_,e,_⟩:=h1; cases e) | cases h1
  have e2:d2 = .bl b:=by
   cases d2 <;> unfold aC at h2 <;> first | (cases h2; rfl) | (obtain ⟨_,_,e,_⟩:=h2; cases e) | cases h2
  rw [e1,e2]
mutual
theorem aC.but {H H':Hp} {st:Addr} (S:dI st H H') (hst:cE H st):∀ (d:D) (v:V),d.noSt = true -> aC H d v -> aC H' d v
 | .non,v,_,h=>by unfold aC at h ⊢; exact h
 | .bl b,v,_,h=>by unfold aC at h ⊢; exact h
 | .int i,v,_,h=>by unfold aC at h ⊢; exact h
 | .str x,v,_,h=>by unfold aC at h ⊢; exact h
 | .dict,v,_,h=>by
  unfold aC at h ⊢
  obtain ⟨a,kvs,e,h⟩:=h
  obtain ⟨_,_,hs,_⟩:=hst
  exact ⟨a,kvs,e,S _ _ (yT h hs (by intro z; cases z)) h⟩
 | .tup ds,v,hn,h=>by
  unfold aC at h ⊢
  obtain ⟨a,xs,e,h,r⟩:=h
  obtain ⟨x,b,hs,hb⟩:=id hst
  exact ⟨a,xs,e,S _ _ (yT h hs (by intro z; cases z)) h,aF.but S hst ds xs (by unfold D.noSt at hn; exact hn) r⟩
 | .lst ds,v,hn,h=>by
  unfold aC at h ⊢
  obtain ⟨a,xs,e,h,r⟩:=h
  obtain ⟨x,b,hs,hb⟩:=id hst
  obtain ⟨hn1,hn2⟩:=xm hn
  refine ⟨a,xs,e,S _ _ (yT h hs fun z=>?_) h,aF.but S hst ds xs hn1 r⟩
  cases z
  exact hn2 _ _ (aC.lst_st r)
theorem aF.but {H H':Hp} {st:Addr} (S:dI st H H') (hst:cE H st):∀ (ds:List D) (xs:List V),D.noSts ds = true -> aF H ds xs -> aF H' ds xs
 | [],xs,_,h=>by unfold aF at h ⊢; exact h
 | d :: ds,xs,hn,h=>by
  unfold D.noSts at hn
  rw [Bool.and_eq_true] at hn
  unfold aF at h ⊢
  obtain ⟨x,r,e,h1,h2⟩:=h
  exact ⟨x,r,e,aC.but S hst d x hn.1 h1,aF.but S hst ds r hn.2 h2⟩
end
theorem cE.same {H H':Hp} {st:Addr} (h:cE H st) (S:aw H H'):cE H' st:=by
 obtain ⟨x,b,e,k⟩:=h
 exact ⟨x,b,S _ _ e,k⟩
theorem cE.ne {H:Hp} {st p:Addr} (h:cE H st) (hp:H p = none):p ≠ st:=by
 obtain ⟨x,b,e,k⟩:=h
 exact (ak e hp).symm
theorem uu (q:Int × Int):(fr q).noSt = true:=by simp [fr,D.noSt,D.noSts]
def D.isInt:D -> Bool
 | .int _=>true
 | _=>false
def D.frac:D -> Bool
 | .tup [.int t,.int b]=>decide (0 < b) && decide (Int.gcd t b = 1)
 | _=>false
theorem frac_fr {q:Int × Int} (h:Fq q):(fr q).frac = true:=by
 simp [fr,D.frac,h.1,h.2]
theorem aC.tup_at {H:Hp} {ds:List D} {v:V} (h:aC H (.tup ds) v):∃ a xs,v = .ref a /\ H a = some (.tup xs) /\ aF H ds xs:=by
 unfold aC at h
 exact h
theorem aC.lst_at {H:Hp} {ds:List D} {v:V} (h:aC H (.lst ds) v):∃ a xs,v = .ref a /\ H a = some (.lst xs) /\ aF H ds xs:=by
 unfold aC at h
 exact h
theorem aF.nil_at {H:Hp} {xs:List V} (h:aF H [] xs):xs = []:=by
 unfold aF at h
 exact h
theorem aF.cons_at {H:Hp} {d:D} {ds:List D} {xs:List V} (h:aF H (d :: ds) xs):∃ x r,xs = x :: r /\ aC H d x /\ aF H ds r:=by
 unfold aF at h
 exact h
theorem aC.int_at {H:Hp} {i:Int} {v:V} (h:aC H (.int i) v):v = .int i:=by
 unfold aC at h
 exact h
theorem aF.pair {H:Hp} {ds:List D} {xs:List V} (h:aF H ds xs) (hl:xs.length = 2):∃ d1 d2 x1 x2,ds = [d1,d2] /\ xs = [x1,x2] /\ aC H d1 x1 /\ aC H d2 x2:=by
 have e:=h.length
 match ds,e with
 | [],e=>rw [hl] at e; cases e
 | [_],e=>rw [hl] at e; cases e
 | _ :: _ :: _ :: _,e=>rw [hl] at e; cases e
 | [d1,d2],_ =>
  obtain ⟨x1,r,rfl,h1,h⟩:=h.cons_at
  obtain ⟨x2,r,rfl,h2,h⟩:=h.cons_at
  cases h.nil_at
  exact ⟨_,_,_,_,rfl,rfl,h1,h2⟩
theorem aC.mk_int {H:Hp} (i:Int):aC H (.int i) (.int i):=by unfold aC; rfl
theorem aC.mk_bl {H:Hp} (i:Bool):aC H (.bl i) (.bl i):=by unfold aC; rfl
theorem aC.mk_non {H:Hp}:aC H .non .non:=by unfold aC; rfl
theorem aF.mk_nil {H:Hp}:aF H [] []:=by unfold aF; rfl
theorem aF.mk_cons {H:Hp} {d:D} {ds:List D} {x:V} {xs:List V} (h1:aC H d x) (h2:aF H ds xs):aF H (d :: ds) (x :: xs):=by unfold aF; exact ⟨_,_,rfl,h1,h2⟩
theorem aC.mk_tup {H:Hp} {a:Addr} {ds:List D} {xs:List V} (h:H a = some (.tup xs)) (r:aF H ds xs):aC H (.tup ds) (.ref a):=by unfold aC; exact ⟨_,_,rfl,h,r⟩
theorem aC.mk_lst {H:Hp} {a:Addr} {ds:List D} {xs:List V} (h:H a = some (.lst xs)) (r:aF H ds xs):aC H (.lst ds) (.ref a):=by unfold aC; exact ⟨_,_,rfl,h,r⟩
theorem aC.fr_at {H:Hp} {q:Int × Int} {v:V} (h:aC H (fr q) v):∃ a,v = .ref a /\ H a = some (.tup [.int q.1,.int q.2]):=by
 obtain ⟨a,xs,e,ha,r⟩:=h.tup_at
 obtain ⟨x1,r1,rfl,h1,r⟩:=r.cons_at
 obtain ⟨x2,r2,rfl,h2,r⟩:=r.cons_at
 cases r.nil_at
 rw [h1.int_at,h2.int_at] at ha
 exact ⟨a,e,ha⟩
theorem D.frac_tup {ds:List D} (h:(D.tup ds).frac = true):∃ a b,ds = [.int a,.int b] /\ Fq (a,b):=by
 unfold D.frac at h
 split at h
 ·rename_i t b e
  cases e
  simp at h
  exact ⟨_,_,rfl,h.1,h.2⟩
 ·cases h
abbrev Bt (n:Nat) (x:Int):Prop:=x.natAbs < 2 ^ n
theorem Bt.ib {n:Nat} {x:Int} (h:Bt n x):Builtin.Int.intBits x <= n:=by
 unfold Builtin.Int.intBits
 split
 ·exact Nat.zero_le _
 ·rename_i h0
  have h1:x.natAbs ≠ 0:=by
   intro e
   apply h0
   have:x = 0:=by walk_at "o"
   rw [this]
   rfl
  have:=(Nat.log2_lt h1).mpr h
  walk_at "o"
theorem bU {m n:Nat} {x y:Int} (hx:Bt m x) (hy:Bt n y) (h:m + n <= 134217728:=by decide):IntMulOk x y:=PySem.IntMulOk.of_le hx.ib hy.ib h
theorem Bt.mono {m n:Nat} {x:Int} (hx:Bt m x) (h:m <= n):Bt n x:=Nat.lt_of_lt_of_le hx (Nat.pow_le_pow_right (by decide) h)
theorem Bt.mul {m n:Nat} {x y:Int} (hx:Bt m x) (hy:Bt n y):Bt (m + n) (x * y):=by
 unfold Bt
 rw [Int.natAbs_mul,Nat.pow_add]
 exact Nat.mul_lt_mul'' hx hy
theorem Bt.add {m n:Nat} {x y:Int} (hx:Bt m x) (hy:Bt n y):Bt (max m n + 1) (x + y):=by
 have h1:=hx.mono (Nat.le_max_left m n)
 have h2:=hy.mono (Nat.le_max_right m n)
 unfold Bt at *
 rw [Nat.pow_succ]
 have:=Int.natAbs_add_le x y
 walk_at "o"
theorem Bt.sub {m n:Nat} {x y:Int} (hx:Bt m x) (hy:Bt n y):Bt (max m n + 1) (x - y):=by
 have h1:=hx.mono (Nat.le_max_left m n)
 have h2:=hy.mono (Nat.le_max_right m n)
 unfold Bt at *
 rw [Nat.pow_succ]
 have:=Int.natAbs_sub_le x y
 walk_at "o"
theorem Dv {x y:Int} (h:y ≠ 0) (hb:Bt 9000 y):BR x y:=⟨h,by
 by_cases h0:y.natAbs = 0
 ·rw [h0]; decide +kernel
 ·exact (Nat.log2_lt h0).mpr hb⟩
theorem t8 {x k:Int} {n:Nat} (hk:0 < k) (h:k.natAbs <= 2 ^ n):Bt n (x.fmod k):=by
 have h1:=Int.fmod_nonneg_of_pos x hk
 have h2:=Int.fmod_lt_of_pos x hk
 unfold Bt
 walk_at "o"
theorem eT {x y:Int} (hx:Bt 64 x):IntMulOk x y:=.of_left hx.ib
theorem zK {x y:Int} (hy:Bt 64 y):IntMulOk x y:=.of_right hy.ib
end L2
namespace L2
theorem oH {c A B:Prop} [Decidable c] (hc:c) (h:A):if c then A else B:=by rw [if_pos hc]; exact h
theorem kc {c A B:Prop} [Decidable c] (hc:¬ c) (h:B):if c then A else B:=by rw [if_neg hc]; exact h
end L2
namespace L2
theorem D.isInt_of {d:D} (h:¬ d.isInt = false):∃ i,d = .int i:=by
 cases d <;> first | exact ⟨_,rfl⟩ | exact absurd rfl h
theorem uw {t b:Int} (h:b < 1):(D.tup [.int t,.int b]).frac = false:=by
 simp only [D.frac,decide_eq_false (show ¬ (0:Int) < b by walk_at "o"),Bool.false_and]
theorem uR {t b:Int} (h:0 < b):(D.tup [.int t,.int b]).frac = decide (((Int.gcd t b:Nat):Int) = 1):=by
 simp only [D.frac,decide_eq_true h,Bool.true_and]
 apply decide_eq_decide.mpr
 walk_at "o"
end L2
namespace L2
open PySem
def D.len:D -> Nat
 | .lst ds=>ds.length
 | _=>0
mutual
def D.ib:D -> Bool
 | .int i=>decide (i.natAbs < 2 ^ 200)
 | .tup ds=>D.ibs ds
 | .lst ds=>D.ibs ds
 | _=>true
def D.ibs:List D -> Bool
 | []=>true
 | d :: ds=>d.ib && D.ibs ds
end
def Gz (xs:List V):Prop:=(∀ i b,xs ≠ [.int i,.bl b]) /\ xs.length <= 1000
def wk (H:Hp) (x:V):Prop:=∃ d,aC H d x /\ d.noSt = true /\ d.len <= 1000 /\ d.ib = true
theorem Ag {H:Hp} {i:Int} (hb:Bt 200 i):wk H (.int i):=⟨_,.mk_int i,by simp [D.noSt],by simp [D.len],by unfold D.ib; exact decide_eq_true hb⟩
theorem Ea {H:Hp} {i:Bool}:wk H (.bl i):=⟨_,.mk_bl i,by simp [D.noSt],by simp [D.len],by simp [D.ib]⟩
theorem A4 {H:Hp}:wk H .non:=⟨_,.mk_non,by simp [D.noSt],by simp [D.len],by simp [D.ib]⟩
theorem wk.same {H H':Hp} {x:V} (h:wk H x) (S:aw H H'):wk H' x:=by
 obtain ⟨d,r,n⟩:=h
 exact ⟨d,r.same S,n⟩
def lj (H:Hp) (xs:List V):Prop:=∀ x ∈ xs,wk H x
theorem xS {H:Hp}:lj H []:=fun _ h=>by cases h
theorem wd {H:Hp} {x:V} {xs:List V} (h:wk H x) (h2:lj H xs):lj H (x :: xs):=fun y hy=>by
 rcases List.mem_cons.mp hy with rfl | hy
 ·exact h
 ·exact h2 y hy
theorem lj.same {H H':Hp} {xs:List V} (h:lj H xs) (S:aw H H'):lj H' xs:=fun x hx=>(h x hx).same S
theorem lj.reps {H:Hp}:∀ {xs:List V},lj H xs -> ∃ ds,aF H ds xs /\ D.noSts ds = true /\ D.ibs ds = true
 | [],_=>⟨[],.mk_nil,by simp [D.noSts],by simp [D.ibs]⟩
 | x :: xs,h=>by
  obtain ⟨d,r,n,_,b⟩:=h x List.mem_cons_self
  obtain ⟨ds,rs,ns,bs⟩:=lj.reps (xs:=xs) fun y hy=>h y (List.mem_cons_of_mem _ hy)
  exact ⟨d :: ds,.mk_cons r rs,by simp [D.noSts,n,ns],by simp [D.ibs,b,bs]⟩
theorem A6 {H:Hp} {a:Addr} {xs:List V} (h:H a = some (.tup xs)) (hx:lj H xs):wk H (.ref a):=by
 obtain ⟨ds,r,n,b⟩:=hx.reps
 exact ⟨_,.mk_tup h r,by unfold D.noSt; exact n,by simp [D.len],by unfold D.ib; exact b⟩
theorem qx {ds:List D} (h:D.noSts ds = true) (hn:∀ i b,ds ≠ [.int i,.bl b]):D.noSt (.lst ds) = true:=by
 unfold D.noSt
 split
 ·rename_i e; cases e; exact absurd rfl (hn _ _)
 ·rename_i e; cases e; exact h
 ·rename_i e; cases e
 ·rfl
theorem Al {H:Hp} {a:Addr} {xs:List V} (h:H a = some (.lst xs)) (hx:lj H xs) (hn:Gz xs):wk H (.ref a):=by
 obtain ⟨ds,r,n,bb⟩:=hx.reps
 refine ⟨_,.mk_lst h r,qx n fun i b e=>?_,show ds.length <= 1000 by rw [<- r.length]; exact hn.2,by unfold D.ib; exact bb⟩
 subst e
 obtain ⟨_,_,rfl,h1,r⟩:=r.cons_at
 obtain ⟨_,_,rfl,h2,r⟩:=r.cons_at
 cases r.nil_at
 unfold aC at h1 h2
 subst h1
 subst h2
 exact hn.1 i b rfl
end L2
namespace L2
open PySem PySem.Spec PyProof.Rows
section
variable {prog:Program} {w:World} {A:Around} {R:Result -> Shared -> Prop} {s:Shared}
theorem qH {elt target iter:Expr} {ifs:List Expr} {scope:Scope} {pos:Pos} {it acc:Value} {env:Env} {EE:Value -> Shared -> Prop} (hEE:EE = notedBy (model prog w) A env fun e s'=>R (.error e) s') (Iv:Nat -> Shared -> Prop)
  (turn:∀ n s,Iv n s -> wpAny (model prog w) A (pyNext it) (fun r s1=>match r with
   | none=>R (.ok .next) s1
   | some v=>wpAny (model prog w) A (letOwnedTupleGo target it v) (fun _ s2=>wpAny (model prog w) A (assign target env v) (fun _ s3 =>
     wpAny (model prog w) A (forIn ifs true fun c r=>if r = true then do let ok <- isTrue c env (eval c env); pure (ForInStep.yield ok) else pure (ForInStep.yield r)) (fun ok s4 =>
      if ok = true then wpAny (model prog w) A (eval elt env) (fun x s5=>wpAny (model prog w) A (call (.builtin "list.append") [acc,x]) (fun _ s6=>∃ m,m < n /\ Iv m s6) EE s5) EE s4
      else ∃ m,m < n /\ Iv m s4) EE s3) EE s2) EE s1) EE s)
  (n:Nat) (h:Iv n s):codeAny (model prog w) A (.compLoop (.ListComp elt [⟨target,iter,ifs,0⟩] scope pos) 0 it acc env) R s:=by
 subst hEE
 refine codeAny_loop rfl Iv (fun n s hI=>?_) n h
 show wpAny _ A ((compTurn (.ListComp elt [⟨target,iter,ifs,0⟩] scope pos) 0 it acc env).onRaise (fun x=>do noteFrame x env; theTreesLotGoes x)) _ _ s
 refine wpAny_noted ?_
 rw [compTurn_list]
 refine wpAny_bind (wpAny_standAt (wpAny_bind (wpAny_mono (turn n s hI) (fun r s1 h1=>?_) fun _ _ h'=>h')))
 cases r with
 | none=>exact wpAny_pure h1
 | some v =>
  refine wpAny_bind (wpAny_mono h1 (fun _ s2 h2=>?_) fun _ _ h'=>h')
  refine wpAny_bind (wpAny_mono h2 (fun _ s3 h3=>wpAny_bind (wpAny_mono h3 (fun ok s4 h4=>?_) fun _ _ h'=>h')) fun _ _ h'=>h')
  cases ok with
  | false=>exact wpAny_pure ⟨rfl,h4⟩
  | true=>exact wpAny_bind (wpAny_bind (wpAny_mono h4 (fun x s5 h5=>wpAny_bind (wpAny_mono h5 (fun _ s6 h6=>wpAny_pure (wpAny_pure ⟨rfl,h6⟩)) fun _ _ h'=>h')) fun _ _ h'=>h'))
end
def lQ (X:Cx) (scope:Scope) (cl:List (Str × Addr)) (N:List Str) (C:Addr) (s:Shared) (H:Hp) (ex:List Addr):Cx :=
 { X with N:=N,s₀:=s,H₀:=H,env:=compEnvC scope cl C X.env,outer:=X.stack,ex:=ex,fn:=fun _=>false,pn:=[],xe:=fun _ _=>False }
def si (X:Cx) (scope:Scope) (cl:List (Str × Addr)):List Str -> List Nat -> Prop
 | [],[]=>True
 | x :: xs,j :: js=>(X.N[j]? = some x /\ X.env.kindOf x = some .cell /\ (relabel scope X.env).names.lookup x = some .cell /\ (∃ c,cl.lookup x = some c)) /\ si X scope cl xs js
 | _,_=>False
theorem si.length {X:Cx} {scope:Scope} {cl:List (Str × Addr)}:∀ {xs:List Str} {js:List Nat},si X scope cl xs js -> js.length = xs.length
 | [],[],_=>rfl
 | _ :: _,_ :: _,h=>by simp [si.length h.2]
 | [],_ :: _,h=>h.elim
 | _ :: _,[],h=>h.elim
theorem si.get {X:Cx} {scope:Scope} {cl:List (Str × Addr)}:∀ {xs:List Str} {js:List Nat} {k j:Nat} {x:Str},si X scope cl xs js -> xs[k]? = some x -> js[k]? = some j ->
  X.N[j]? = some x /\ X.env.kindOf x = some .cell /\ (relabel scope X.env).names.lookup x = some .cell /\ ∃ c,cl.lookup x = some c
 | [],_,_,_,_,_,e,_=>by simp at e
 | _ :: _,[],_,_,_,_,_,e=>by simp at e
 | x :: xs,j :: js,0,_,_,h,e1,e2=>by
  simp at e1 e2
  subst e1
  subst e2
  exact h.1
 | x :: xs,j :: js,k + 1,_,_,h,e1,e2=>si.get (k:=k) h.2 (by simpa using e1) (by simpa using e2)
def kw (X:Cx):List (Str × Addr) -> Prop
 | []=>True
 | p :: r=>X.env.cells.lookup p.1 = some p.2 /\ kw X r
theorem kw.mem {X:Cx}:∀ {cl:List (Str × Addr)},kw X cl -> ∀ p ∈ cl,X.env.cells.lookup p.1 = some p.2
 | [],_,p,hp=>by cases hp
 | q :: r,h,p,hp=>by
  rcases List.mem_cons.mp hp with rfl | hp
  ·exact h.1
  ·exact kw.mem h.2 p hp
structure ni (X:Cx) (scope:Scope) (cl:List (Str × Addr)) (own outs:List Str) (ixs:List Nat):Prop where
 nocell:(scope.names.all fun y=>y.2 != .cell) = true
 kind:scope.kind = .function
 names:(scope.names.all fun y=>y.2 != .local || scope.names.lookup y.1 == some .local) = true
 cells:kw X cl
 has:((relabel scope X.env).names.all fun y=>!(y.2 == .cell || y.2 == .free) || (cl.lookup y.1).isSome) = true
 outs:si X scope cl outs ixs
def PF (X:Cx) (ifs:List Expr) (t:TT):Prop :=
 ∀ (pins:List (Addr × Obj)) (s:Shared) (σ:St) (H:Hp) (Q:Bool -> Hp -> Prop),aG X pins σ H s -> t σ H Q ->
  wpAny (model X.prog X.w) X.A (forIn ifs true fun c r=>if r = true then do let ok <- isTrue c X.env (eval c X.env); pure (ForInStep.yield ok) else pure (ForInStep.yield r)) (TP X pins σ Q) X.xe s
def D0:TT:=fun _ H Q=>Q true H
theorem Ei {X:Cx}:PF X [] D0:=fun _ _ _ H _ I h=>wpAny_tests_nil ⟨H,I,h⟩
theorem Dt {X:Cx} {c:Expr} {t:TT} (h:PT X c t):PF X [c] t:=fun pins s σ H Q I q=>wpAny_tests_one (h pins s σ H Q I q)
def mX (K:PySem.W.Frag) (J:It) (g:TG) (tif:TT) (te:TE) (a:Addr) (σ0:St) (H0:Hp) (Q:Hp -> Prop):Prop:=∃ W:Nat -> Nat -> St -> Hp -> Prop,(∃ m,W 0 m σ0 H0) /\ ∀ i m σ H,W i m σ H ->
 (J.stop i H /\ Q H) \/ (J.go i H /\ ∃ N:St -> Hp -> Prop,(∀ σ' H',N σ' H' -> ∃ m',m' < m /\ W (i + 1) m' σ' H') /\ ∀ x H',J.yld i H x H' -> g x σ H' fun σ2 H2=>tif σ2 H2 fun b H3=>if b = true then te σ2 H3 fun v H4=>∃ xs,vw K H4 a = some (.lst xs) /\ xs.length < sizeLine /\
  ∀ H5,dI a (vw K H4) (vw K H5) -> vw K H5 a = some (.lst (xs ++ [v])) -> N σ2 H5 else N σ2 H3)
def tY (σ:St) (ixs:List Nat):St:=ixs.map fun j=>(σ[j]?).join
def sF (K:PySem.W.Frag) (wi:TI) (n:Nat) (ixs:List Nat) (g:TG) (tif:TT) (te:TE):TE:=fun σ H Q=>wi σ H fun J H1=>∀ a H2,vw K H1 a = none -> aw (vw K H1) (vw K H2) -> vw K H2 a = some (.lst []) -> mX K J g tif te a (List.replicate n none ++ tY σ ixs) H2 (Q (.ref a))
section
variable {X:Cx}
theorem pL {tg iter elt:Expr} {ifs:List Expr} {scope:Scope} {pos ipos:Pos} {wi:TI} {g:TG} {tif:TT} {te:TE} {cl:List (Str × Addr)} {own outs:List Str} {ixs:List Nat} {use:Option (Value -> Sem Unit)} {Qv:Value -> Shared -> Prop}
  (hc:X.calm = true) (hi:PI X tg iter wi) (hclos:closureFor scope X.env = pure cl) (S:ni X scope cl own outs ixs)
  {G:Shared -> Hp -> List Addr -> Prop} (hb:∀ C s H ex,G s H ex -> PG (lQ X scope cl (own ++ outs) C s H ex) tg g /\ PF (lQ X scope cl (own ++ outs) C s H ex) ifs tif /\ PE (lQ X scope cl (own ++ outs) C s H ex) elt te)
  (hs:∀ x,foldedSetIterable iter X.env x = pure x) {pins:List (Addr × Obj)} {s:Shared} {σ:St} {H:Hp} (hG:∀ s2 H1 H2 fp,aG X pins σ H2 s2 -> (∀ b ∈ fp,lM X pins H1 b) -> G s2 H2 fp) (I:aG X pins σ H s) (Qd:Addr -> Hp -> Prop)
  (hfin:∀ (a C:Addr) (H':Hp) (s4:Shared) (m:Str -> Option Value),aG X pins σ H' s4 -> lM X pins H' C -> s4.heap.Ns C m -> Qd a H' -> compPost (model X.prog X.w) X.A X.xe use Qv (.ref a) C (.ok .next) s4)
  (h:wi σ H fun J H1=>∀ a H2,vw X.K H1 a = none -> aw (vw X.K H1) (vw X.K H2) -> vw X.K H2 a = some (.lst []) -> mX X.K J g tif te a (List.replicate own.length none ++ tY σ ixs) H2 (Qd a)) :
  wpAny (model X.prog X.w) X.A (comprehension (.ListComp elt [⟨tg,iter,ifs,0⟩] scope pos) scope X.env ipos (newList []) false (eval iter X.env) use) Qv X.xe s:=by
 have Snc:∀ y ∈ scope.names,y.2 ≠ .cell:=fun y hy z=>by
  have:=List.all_eq_true.mp S.nocell y hy
  rw [z] at this
  cases this
 have Snm:∀ y ∈ scope.names,y.2 = .local -> scope.names.lookup y.1 = some .local:=fun y hy z=>by
  have:=List.all_eq_true.mp S.names y hy
  rw [z] at this
  simpa using this
 have Shs:∀ y ∈ (relabel scope X.env).names,(y.2 = .cell \/ y.2 = .free) -> (cl.lookup y.1).isSome = true:=fun y hy z=>by
  have:=List.all_eq_true.mp S.has y hy
  rcases z with z | z
  ·rw [z] at this
   simpa using this
  ·rw [z] at this
   simpa using this
 refine wpAny_comprehension_free (use:=use) rfl hs hclos S.kind Snm (wpAny_mono (hi pins s σ H _ I h) (fun xv s1 h1=>wpAny_mono h1 (fun itv s2 h2=>?_) fun _ _ e=>e) fun _ _ e=>e)
 obtain ⟨it,fp,tn,J,H1,rfl,I1,T,st1,f1,q⟩:=h2
 refine wpAny_newObj_type (wpAny_newFunctionEnv Snc (by intro y hy; simp at hy) (fun h₁ hns₁ hsb₁=>?_) S.kind)
 dsimp only at hns₁ hsb₁ ⊢
 have I2:aG X pins σ (upd H1 s2.heap.objs.size (.lst [])) { s2 with heap:=s2.heap.push { cls:=.type "list",dict:=none,data:=.seq ([]:List Value).toArray } }:=I1.lnew (t':=s2.toks) .nil (Nat.zero_le _)
 have q2:=q s2.heap.objs.size (upd H1 s2.heap.objs.size (.lst [])) (by rw [dy (I1.newK (Nat.le_refl _))]; exact I1.fresh) (jV (aw.upd I1.fresh)) (by rw [dy (I1.newK (Nat.le_refl _))]; exact bI)
 have fr2:∀ b ∈ fp,(upd H1 s2.heap.objs.size (.lst [])) b = none:=fun b hb=>by
  obtain ⟨o,ho,_⟩:=T.obj _ _ st1 b hb
  rw [aQ (Nat.ne_of_lt (Heap.lt_size ho))]
  exact (f1 b hb).1
 generalize hH2:upd H1 s2.heap.objs.size (.lst []) = H2 at I2 q2 fr2
 generalize hs3:s2.heap.push { cls:=.type "list",dict:=none,data:=.seq ([]:List Value).toArray } = hp3 at I2 hns₁ hsb₁ ⊢
 have old23:∀ b o,s2.heap.get? b = some o -> hp3.get? b = some o:=fun b o e=>hs3 ▸ Heap.get?_push_of_some _ e
 have ltC:∀ {b:Addr} {o:Obj},hp3.get? b = some o -> b ≠ hp3.objs.size:=fun e=>Nat.ne_of_lt (Heap.lt_size e)
 have old:∀ b o,hp3.get? b = some o -> h₁.get? b = some o:=fun b o e=>hsb₁.extBut b o (ltC e) (Heap.get?_push_of_some _ e)
 have clc:∀ x c,cl.lookup x = some c -> X.env.cells.lookup x = some c:=fun x c e=>S.cells.mem (x,c) (PySem.mem_of_lookup e)
 obtain ⟨W,⟨m0,w0⟩,turn⟩:=q2
 have fpo:∀ b ∈ fp,∃ o,hp3.get? b = some o:=fun b hb=>by
  obtain ⟨o,ho,_⟩:=T.obj _ _ st1 b hb
  exact ⟨o,old23 b o ho⟩
 have ok:(lQ X scope cl (own ++ outs) hp3.objs.size { s2 with heap:=hp3 } H2 fp).Ok:=by
  refine ⟨I.ok.mod,S.kind,I.ok.glob,I.ok.blt,Nat.le_refl _,fun x y c e1 e2=>I.ok.inj x y c (clc x c e1) (clc y c e2),fun x hx=>?_,fun x c hf _=>(by cases hf),I.ok.hd,I.ok.frames,.inl rfl,fun b hb=>⟨?_,fun x c e=>?_⟩,I2.bs,Nat.le_trans I.ok.bsz I2.sz,fun b o e hb=>?_,fun b hb hz=>?_,I2.stack,I2.stkFree⟩
  ·have hx':(relabel scope X.env).names.lookup x = some .cell \/ (relabel scope X.env).names.lookup x = some .free:=hx
   have:(cl.lookup x).isSome = true:=by
    rcases hx' with e | e
    ·exact Shs _ (PySem.mem_of_lookup e) (.inl rfl)
    ·exact Shs _ (PySem.mem_of_lookup e) (.inr rfl)
   exact Option.isSome_iff_exists.mp this
  ·obtain ⟨o,ho⟩:=fpo b hb
   exact ltC ho
  ·exact (f1 b hb).2.2.2.2.1 x c (clc x c e)
  ·rcases (f1 b hb).2.2.2.1 with z | z
   ·exact I.ok.noex b o e z
   ·exact absurd (Nat.lt_of_lt_of_le (Heap.lt_size e) (Nat.le_trans I.ok.bsz z)) (Nat.lt_irrefl _)
  ·rcases List.mem_cons.mp (I2.stkSub b hz) with z | z
   ·exact (f1 b hb).2.1 z
   ·exact (f1 b hb).2.2.1 z
 have I4:aG (lQ X scope cl (own ++ outs) hp3.objs.size { s2 with heap:=hp3 } H2 fp) [] (List.replicate own.length none ++ tY σ ixs) H2 { s2 with heap:=h₁,toks:=s2.toks + ([]:List (Str × Value)).length }:=by
  refine ⟨ok,rfl,I2.bare,Un.kept old,⟨_,hns₁,fun i x v e1 e2 e3=>?_⟩,fun x c e=>?_,I2.hok.fresh (Nat.le_refl _),fun x c e=>I2.freeC x c (clc x c e),fun p hp=>by simp [lQ] at hp,I2.hok.kept old,?_⟩
  ·have e1':(own ++ outs)[i]? = some x:=e1
   have hi':own.length <= i:=by
    by_cases hlt:i < own.length
    ·rw [List.getElem?_append_left (by simpa using hlt),List.getElem?_replicate,if_pos hlt] at e2
     cases e2
    ·walk_at "o"
   rw [List.getElem?_append_right (by simpa using hi')] at e2
   rw [List.getElem?_append_right hi'] at e1'
   rw [List.length_replicate] at e2
   unfold tY at e2
   rw [List.getElem?_map] at e2
   cases ej:ixs[i - own.length]? with
   | none=>rw [ej] at e2; cases e2
   | some j =>
    rw [ej] at e2
    obtain ⟨hN,hk,hr,c,hcl⟩:=S.outs.get e1' ej
    have e4:(σ[j]?).join = some v:=Option.some.inj e2
    have e5:σ[j]? = some (some v):=by
     cases es:σ[j]? with
     | none=>rw [es] at e4; cases e4
     | some o=>rw [es] at e4; exact congrArg some e4
    obtain ⟨m,hn,hl⟩:=I2.loc
    obtain ⟨u,ru,l⟩:=hl j x v hN e5 (.inr (.inl hk))
    refine ⟨u,ru,.inr ⟨.inl hr,c,hcl,?_⟩⟩
    rcases l with ⟨z,_⟩ | ⟨_,c',hc',cell⟩
    ·rw [hk] at z; cases z
    ·rw [clc x c hcl] at hc'
     cases hc'
     obtain ⟨o,ho,hd⟩:=cell
     exact ⟨o,old _ _ ho,hd⟩
  ·obtain ⟨v,o,ho,hd⟩:=I2.cell x c (clc x c e)
   exact ⟨v,o,old _ _ ho,hd⟩
  ·show (List.replicate own.length none ++ tY σ ixs).length = (own ++ outs).length
   unfold tY
   rw [List.length_append,List.length_append,List.length_replicate,List.length_map,S.outs.length]
 obtain ⟨hg,hf,he⟩:=hb hp3.objs.size { s2 with heap:=hp3 } H2 fp (hG _ _ _ _ I2 f1)
 have stat:∀ {H':Hp},(∀ b ∈ fp,H' b = none) -> ∀ b ∈ fp,lM (lQ X scope cl (own ++ outs) hp3.objs.size { s2 with heap:=hp3 } H2 fp) [] H' b:=fun hn b hb =>
  ⟨hn b hb,(ok.exf b hb).1,ok.exfs b hb,.inl hb,(ok.exf b hb).2,fun p hp=>by simp [lQ] at hp⟩
 have noE:∀ {α:Type} {t:Sem α} {Q':α -> Shared -> Prop} {s':Shared} {E':Value -> Shared -> Prop},wpAny (model X.prog X.w) X.A t Q' (fun _ _=>False) s' -> wpAny (model X.prog X.w) X.A t Q' E' s':=fun h=>wpAny_mono h (fun _ _ z=>z) fun _ _ z=>z.elim
 have loop:codeAny (model X.prog X.w) X.A (.compLoop (.ListComp elt [⟨tg,iter,ifs,0⟩] scope pos) 0 (.ref it) (.ref s2.heap.objs.size) (compEnvC scope cl hp3.objs.size X.env))
   (compPost (model X.prog X.w) X.A X.xe use Qv (.ref s2.heap.objs.size) hp3.objs.size) { s2 with heap:=h₁,toks:=s2.toks + ([]:List (Str × Value)).length }:=by
  refine qH rfl (fun n s'=>∃ i σ' H',aG (lQ X scope cl (own ++ outs) hp3.objs.size { s2 with heap:=hp3 } H2 fp) [] σ' H' s' /\ tn i s'.heap /\ (∀ b ∈ fp,H' b = none) /\ W i n σ' H') ?_ m0
   ⟨0,_,H2,I4,T.keep _ _ _ st1 fun b hb o e=>old b o (old23 b o e),fr2,w0⟩
  rintro n s' ⟨i,σ',H',I',st',fr',w'⟩
  rcases turn i n σ' H' w' with ⟨stop,qn⟩ | ⟨go,N,hN,step⟩
  ·refine cI (T.done (lQ X scope cl (own ++ outs) hp3.objs.size { s2 with heap:=hp3 } H2 fp) rfl rfl rfl hc i [] s' σ' H' _ I' (stat fr') st' stop) fun r s4 ⟨hr,I4'⟩=>?_
   subst hr
   obtain ⟨m,hn,_⟩:=I4'.loc
   have kC:∀ b o,b ≠ hp3.objs.size -> s4.heap.get? b = some o -> s4.heap.get? b = some o:=fun b o hb e=>e
   have tC:∀ b u,H' b = some u -> b ≠ hp3.objs.size:=fun b u e z=>by
    have:=I4'.free
    rw [z] at e
    rw [show H' hp3.objs.size = none from this] at e
    cases e
   have base:=I4'.base
   have un:Un (gD X.stack) fp H2 H' hp3 s4.heap:=⟨fun b o e n1 hb hx=>kC b o (ltC e) (base.keep b o e n1 hb hx),fun b o e n1 hb hx=>by
     obtain ⟨sl,z⟩:=base.slot b o e n1 hb hx
     exact ⟨sl,kC b _ (ltC e) z⟩,base.free,fun b o e hx=>by
     obtain ⟨o',z⟩:=base.there b o e hx
     exact ⟨o',kC b o' (ltC e) z⟩,base.tups,base.frzs,base.tbls⟩
   exact hfin _ _ H' s4 m (I2.call' (s':=s4) (ch:=fp) I4'.os un I4'.hok I4'.bare (fun b hb=>⟨(f1 b hb).2.2.2.1,(f1 b hb).2.1,(f1 b hb).2.2.2.2.1,(f1 b hb).2.2.2.2.2⟩)) (I2.fpOk (Nat.le_refl _) I4'.free) hn qn
  ·refine cI (T.item (lQ X scope cl (own ++ outs) hp3.objs.size { s2 with heap:=hp3 } H2 fp) rfl rfl rfl hc i [] s' σ' H' _ I' (stat fr') st' go) fun r s4 ⟨u,hr,h4⟩=>?_
   subst hr
   refine cI h4 fun _ s5 ⟨x,H5,I5,r5,y5,st5,fr5⟩=>?_
   have I5':=I5.pinned (stat fr5) (T.obj _ _ st5)
   have back:∀ {σ7:St} {H7:Hp} {s7:Shared},aG (lQ X scope cl (own ++ outs) hp3.objs.size { s2 with heap:=hp3 } H2 fp) ([] ++ nK fp s5.heap) σ7 H7 s7 -> ∀ m',m' < n -> W (i + 1) m' σ7 H7 ->
     ∃ m,m < n /\ ∃ i σ' H',aG (lQ X scope cl (own ++ outs) hp3.objs.size { s2 with heap:=hp3 } H2 fp) [] σ' H' s7 /\ tn i s7.heap /\ (∀ b ∈ fp,H' b = none) /\ W i m σ' H':=fun {σ7 H7 s7} I7 m' hm w7=>by
    refine ⟨m',hm,i + 1,σ7,H7,I7.unpinned,T.keep _ _ _ st5 fun b hb o e=>(I7.pin (b,o) (List.mem_append_right _ (List.mem_append_right _ (gX hb e)))).1,fun b hb=>?_,w7⟩
    obtain ⟨o,e,d⟩:=T.obj _ _ st5 b hb
    exact (I7.pin (b,o) (List.mem_append_right _ (List.mem_append_right _ (gX hb e)))).2.1
   refine cI (noE (hg _ s5 σ' H5 x u _ I5' r5 (step x H5 y5))) fun _ s6 ⟨σ6,H6,I6,q6⟩=>?_
   refine cI (noE (hf _ s6 σ6 H6 _ I6 q6)) fun ok s7 ⟨H7,I7,q7⟩=>?_
   cases ok with
   | false =>
    rw [if_neg Bool.false_ne_true] at q7 ⊢
    obtain ⟨m',hm,w7⟩:=hN _ _ q7
    exact back I7 m' hm w7
   | true =>
    rw [if_pos rfl] at q7 ⊢
    refine cI (noE (he _ s7 σ6 H7 _ I7 q7)) fun v s8 ⟨xv,H8,I8,r8,q8⟩=>?_
    obtain ⟨xs,hxs,hz,q8⟩:=q8
    refine cI (noE (oY _ s8 σ6 H8 (.ref s2.heap.objs.size) [xv] _ [v] (fun _ H9=>N σ6 H9) I8 rfl (.cons r8 .nil) ⟨_,xs,xv,rfl,rfl,aO hxs,hz,q8 _ (tz dI.upd) ((dy (show X.K.lookup _ = none from I8.noK (aO hxs))).trans bI)⟩)) fun _ s9 ⟨_,H9,I9,_,n9⟩=>?_
    obtain ⟨m',hm,w9⟩:=hN _ _ n9
    exact back I9 m' hm w9
 exact codeAny_compStart_list loop (T.self _ 0 _ _ _ (T.keep _ _ _ st1 fun b hb o e=>old b o (old23 b o e)) loop)
theorem AR {tg iter elt:Expr} {ifs:List Expr} {scope:Scope} {pos:Pos} {wi:TI} {g:TG} {tif:TT} {te:TE} {cl:List (Str × Addr)} {own outs:List Str} {ixs:List Nat}
  (hc:X.calm = true) (hi:PI X tg iter wi) (hclos:closureFor scope X.env = pure cl) (S:ni X scope cl own outs ixs)
  (hb:∀ C s H ex,PG (lQ X scope cl (own ++ outs) C s H ex) tg g /\ PF (lQ X scope cl (own ++ outs) C s H ex) ifs tif /\ PE (lQ X scope cl (own ++ outs) C s H ex) elt te)
  (hs:∀ x,foldedSetIterable iter X.env x = pure x:=by intro _; rfl) :
  PE X (.ListComp elt [⟨tg,iter,ifs,0⟩] scope pos) (sF X.K wi own.length ixs g tif te):=by
 intro pins s σ H Q I h
 rw [eval_ListComp]
 refine pL (G:=fun _ _ _=>True) hc hi hclos S (fun C s H ex _=>hb C s H ex) hs (fun _ _ _ _ _ _=>trivial) I (fun a H'=>Q (.ref a) H') (fun a C H' s4 m J4 fC hn q=>⟨m,hn,fun h' hsb=>?_⟩) h
 obtain ⟨f0,f1,f2,f3,f4,f5⟩:=fC
 exact ⟨.ref a,H',J4.turned (t':=s4.toks) (fun b o hb e=>hsb.extBut b o hb e) f0 f1 f3 f4 f5,rfl,q⟩
theorem zZ {tg iter elt:Expr} {ifs:List Expr} {scope:Scope} {pos spos py:Pos} {y:Str} {i:Nat} {wi:TI} {g:TG} {tif:TT} {te:TE} {cl:List (Str × Addr)} {own outs:List Str} {ixs:List Nat}
  (hN:X.N.Nodup) (hy:X.N[i]? = some y) (hx:zw X.env.scope y) (hc:X.calm = true) (hi:PI X tg iter wi) (hclos:closureFor scope X.env = pure cl) (S:ni X scope cl own outs ixs)
  (hb:∀ C s H ex,PG (lQ X scope cl (own ++ outs) C s H ex) tg g /\ PF (lQ X scope cl (own ++ outs) C s H ex) ifs tif /\ PE (lQ X scope cl (own ++ outs) C s H ex) elt te)
  (hsw:swapsWith (.ListComp elt [⟨tg,iter,ifs,0⟩] scope pos) (some (.Name y py)) spos.line X.env = pure true:=by rfl)
  (hs:∀ x,foldedSetIterable iter X.env x = pure x:=by intro _; rfl) (hf:X.fn y = true \/ X.env.scope.names.lookup y = some .local:=by first | exact .inl rfl | exact .inr rfl | assumption) :
  PS X (.Assign [.Name y py] (.ListComp elt [⟨tg,iter,ifs,0⟩] scope pos) spos) (sd (sF X.K wi own.length ixs g tif te) (gm i)):=by
 intro pins s σ H D I h
 rw [exec_Assign_Name_used _ _ _ _ hsw]
 refine wpAny_bind (wpAny_standAt (wpAny_bind ?_))
 show wpAny _ X.A (do let _ <- comprehension (.ListComp elt [⟨tg,iter,ifs,0⟩] scope pos) scope X.env _ (newList []) false (eval iter X.env) (some (assign (.Name y py) X.env))) _ _ s
 refine wpAny_bind (wpAny_mono (pL (use:=some (assign (.Name y py) X.env)) (Qv:=fun _ s'=>SP X pins D .next s') (G:=fun _ _ _=>True) hc hi hclos S (fun C s H ex _=>hb C s H ex) hs (fun _ _ _ _ _ _=>trivial) I (fun a H'=>D.nx (σ.set i (some (.ref a))) H') (fun a C H' s4 m J4 fC hn q=>?_) h) (fun _ s' hq=>wpAny_pure (wpAny_pure hq)) fun _ _ e=>e)
 obtain ⟨f0,f1,f2,f3,f4,f5⟩:=fC
 refine wpAny_assign_Name (pM J4 hN hy hx (v:=.ref a) rfl (fun s5 I5 hsame=>?_) hf)
 obtain ⟨b,sb,hb'⟩:=hsame
 have nb:C ≠ b:=fun e=>by
  rcases hb' with z | z
  ·exact f1 (e.trans z)
  ·exact f4 _ _ z e.symm
 exact ⟨m,hn.sameBut sb nb,fun h' hsb=>⟨_,H',I5.turned (t':=s5.toks) (fun b o hb e=>hsb.extBut b o hb e) f0 f1 f3 f4 f5,q⟩⟩
end
theorem Fg {X:Cx} {scope:Scope} {cl:List (Str × Addr)} {N:List Str} {C:Addr} {s:Shared} {H:Hp} {ex:List Addr}:(lQ X scope cl N C s H ex).K = X.K:=rfl
mutual
def D.py:D -> PyData
 | .non=>.none
 | .bl b=>.bool b
 | .int i=>.int i
 | .str x=>.str x
 | .dict=>.dict []
 | .tup ds=>.tuple (D.pys ds)
 | .lst ds=>.list (D.pys ds)
def D.pys:List D -> List PyData
 | []=>[]
 | d :: ds=>d.py :: D.pys ds
end
def D.cmp (d:D):Prop:=d.py.canLay0 = true /\ d.py.depth <= 30
def C4 (d e:D):Bool:=PyData.eqv d.py e.py
section
variable {X:Cx} {pins:List (Addr × Obj)} {σ:St} {H:Hp} {s:Shared}
mutual
theorem aC.reads (I:aG X pins σ H s):∀ (d:D) (v:V) (u:Value),aC (vw X.K H) d v -> bO v u -> d.py.canLay0 = true -> ∃ as,Reads s.heap u d.py as
 | .non,v,u,h,r,_=>by
  unfold aC at h; subst h; cases r
  exact ⟨_,by unfold D.py; exact .none⟩
 | .bl b,v,u,h,r,_=>by
  unfold aC at h; subst h; cases r
  exact ⟨_,by unfold D.py; exact .bool b⟩
 | .int i,v,u,h,r,_=>by
  unfold aC at h; subst h; obtain ⟨t,rfl⟩:=r
  exact ⟨_,by unfold D.py; exact .int i t⟩
 | .str x,v,u,h,r,_=>by
  unfold aC at h; subst h; obtain ⟨t,rfl⟩:=r
  exact ⟨_,by unfold D.py; exact .str x t⟩
 | .dict,v,u,h,r,hc=>by
  unfold D.py PyData.canLay0 at hc
  cases hc
 | .tup ds,v,u,h,r,hc=>by
  obtain ⟨a,xs,rfl,ha,rs⟩:=h.tup_at
  cases r
  unfold D.py at hc ⊢
  obtain ⟨its,rv,p,hz⟩:=I.tuple (hV ha)
  obtain ⟨o,h1,h2,n,h3⟩:=p
  obtain ⟨as,ra⟩:=aF.reads I ds xs its rs rv (by unfold PyData.canLay0 at hc; exact hc)
  exact ⟨_,.tuple h1 h2 h3 (by simpa using ra)⟩
 | .lst ds,v,u,h,r,hc=>by
  obtain ⟨a,xs,rfl,ha,rs⟩:=h.lst_at
  cases r
  unfold D.py at hc ⊢
  obtain ⟨its,rv,p,hz⟩:=I.list (hZ.of (K:=X.K) (aO ha))
  obtain ⟨o,n,h1,h2,h3,h4⟩:=p
  obtain ⟨as,ra⟩:=aF.reads I ds xs its rs rv (by unfold PyData.canLay0 at hc; exact hc)
  exact ⟨_,.list h1 h2 h4 (by simpa using ra)⟩
theorem aF.reads (I:aG X pins σ H s):∀ (ds:List D) (xs:List V) (us:List Value),aF (vw X.K H) ds xs -> aX xs us -> PyData.canLayAll0 (D.pys ds) = true -> ∃ as,ReadsAll s.heap us (D.pys ds) as
 | [],xs,us,h,r,_=>by
  cases h.nil_at
  cases r
  exact ⟨_,by unfold D.pys; exact .nil⟩
 | d :: ds,xs,us,h,r,hc=>by
  obtain ⟨x,ys,rfl,h1,h2⟩:=h.cons_at
  cases r with
  | cons r1 r2 =>
   unfold D.pys PyData.canLayAll0 at hc
   rw [Bool.and_eq_true] at hc
   obtain ⟨as,ra⟩:=aC.reads I d x _ h1 r1 hc.1
   obtain ⟨bs,rb⟩:=aF.reads I ds ys _ h2 r2 hc.2
   exact ⟨_,by unfold D.pys; exact .cons ra rb⟩
end
end
def zO (K:PySem.W.Frag) (neg:Bool):R2:=fun x y H Q=>∃ d e,aC (vw K H) d x /\ aC (vw K H) e y /\ d.cmp /\ e.cmp /\ Q (.bl (if neg then !C4 d e else C4 d e)) H
section
variable {X:Cx}
theorem lH (hu:X.A.units + 64 < cLine):fo X (compareOp .Eq) (zO X.K false):=by
 intro pins s σ H x y v u Q I rx ry h
 obtain ⟨d,e,h1,h2,c1,c2,q⟩:=h
 obtain ⟨as,r1⟩:=aC.reads I d x v h1 rx c1.1
 obtain ⟨bs,r2⟩:=aC.reads I e y u h2 ry c2.1
 exact SeqAt.compareEq_reads r1 r2 c1.1 c2.1 (by have:=c1.2; walk_at "o") ⟨.bl _,H,I,rfl,q⟩
theorem nM (hu:X.A.units + 64 < cLine):fo X (compareOp .NotEq) (zO X.K true):=by
 intro pins s σ H x y v u Q I rx ry h
 obtain ⟨d,e,h1,h2,c1,c2,q⟩:=h
 obtain ⟨as,r1⟩:=aC.reads I d x v h1 rx c1.1
 obtain ⟨bs,r2⟩:=aC.reads I e y u h2 ry c2.1
 exact SeqAt.compareNe_reads r1 r2 c1.1 c2.1 (by have:=c1.2; walk_at "o") ⟨.bl _,H,I,rfl,q⟩
end
def jw (K:PySem.W.Frag) (H:Hp) (a:Addr) (xs:List V):Prop:=(K.lookup a = none /\ Rd H a (.lst xs)) \/
 ∃ (o:Obj) (its:Array Value) (n:Nat),K.lookup a = some o /\ o.cls = .type "list" /\ o.dict = none /\ o.data = .seq its n /\ its.size <= sizeLine /\ aX xs its.toList
theorem jw.sq {K:PySem.W.Frag} {H:Hp} {a:Addr} {xs:List V} (h:jw K H a xs):hZ K H a xs:=h.imp (fun z=>z.2) fun z=>z
theorem jw.of {K:PySem.W.Frag} {H:Hp} {a:Addr} {xs:List V} (h:hZ K H a xs) (hk:H a ≠ none -> K.lookup a = none):jw K H a xs:=by
 rcases h with h | h
 ·refine .inl ⟨hk ?_,h⟩
  rcases h with h | ⟨o,h⟩ <;> rw [h] <;> simp
 ·exact .inr h
end L2
namespace L2
open PySem PySem.Spec PyProof.Rows
mutual
def D.flat:D -> Bool
 | .lst _=>false
 | .tup ds=>D.flats ds
 | _=>true
def D.flats:List D -> Bool
 | []=>true
 | d :: ds=>d.flat && D.flats ds
end
section
variable {H H':Hp} {l:Addr} {xs:List V}
mutual
theorem aC.flat_but (hl:H l = some (.lst xs)) (S:dI l H H'):∀ (d:D) (v:V),d.flat = true -> aC H d v -> aC H' d v
 | .non,v,_,h=>by unfold aC at h ⊢; exact h
 | .bl b,v,_,h=>by unfold aC at h ⊢; exact h
 | .int i,v,_,h=>by unfold aC at h ⊢; exact h
 | .str x,v,_,h=>by unfold aC at h ⊢; exact h
 | .dict,v,_,h=>by
  unfold aC at h ⊢
  obtain ⟨a,kvs,rfl,h⟩:=h
  exact ⟨a,kvs,rfl,S _ _ (fun e=>by rw [e,hl] at h; cases h) h⟩
 | .tup ds,v,hf,h=>by
  obtain ⟨a,ys,rfl,h,rs⟩:=h.tup_at
  unfold D.flat at hf
  exact .mk_tup (S _ _ (fun e=>by rw [e,hl] at h; cases h) h) (aF.flat_but hl S ds ys hf rs)
 | .lst ds,v,hf,h=>by unfold D.flat at hf; cases hf
theorem aF.flat_but (hl:H l = some (.lst xs)) (S:dI l H H'):∀ (ds:List D) (ys:List V),D.flats ds = true -> aF H ds ys -> aF H' ds ys
 | [],ys,_,h=>by cases h.nil_at; exact .mk_nil
 | d :: ds,ys,hf,h=>by
  obtain ⟨y,r,rfl,h1,h2⟩:=h.cons_at
  unfold D.flats at hf
  rw [Bool.and_eq_true] at hf
  exact .mk_cons (aC.flat_but hl S d y hf.1 h1) (aF.flat_but hl S ds r hf.2 h2)
end
end
theorem aY (q:Int × Int):(fr q).flat = true:=by simp [fr,D.flat,D.flats]
theorem dg:∀ (qs:List (Int × Int)),D.flats (qs.map fr) = true
 | []=>by simp [D.flats]
 | q :: qs=>by
  rw [List.map_cons]
  unfold D.flats
  rw [aY,dg qs]
  rfl
theorem aF.app {H:Hp}:∀ {ds es:List D} {xs ys:List V},aF H ds xs -> aF H es ys -> aF H (ds ++ es) (xs ++ ys)
 | [],es,xs,ys,h,g=>by cases h.nil_at; exact g
 | d :: ds,es,xs,ys,h,g=>by
  obtain ⟨x,r,rfl,h1,h2⟩:=h.cons_at
  exact .mk_cons h1 (aF.app h2 g)
theorem aF.snoc {H:Hp} {ds:List D} {xs:List V} {d:D} {x:V} (h:aF H ds xs) (g:aC H d x):aF H (ds ++ [d]) (xs ++ [x]):=h.app (.mk_cons g .mk_nil)
theorem aF.at {H:Hp} {ds:List D} {xs:List V} (h:aF H ds xs) {i:Nat} {d:D} (hd:ds[i]? = some d):∃ x,xs[i]? = some x /\ aC H d x:=by
 have hi:i < ds.length:=(List.getElem?_eq_some_iff.mp hd).1
 have hi':i < xs.length:=by rw [h.length]; exact hi
 obtain ⟨d',e,r⟩:=h.get (List.getElem?_eq_getElem hi')
 rw [hd] at e
 cases e
 exact ⟨_,List.getElem?_eq_getElem hi',r⟩
theorem aF.take {H:Hp}:∀ {ds:List D} {xs:List V} (n:Nat),aF H ds xs -> aF H (ds.take n) (xs.take n)
 | ds,xs,0,h=>by simp; exact .mk_nil
 | [],xs,n + 1,h=>by cases h.nil_at; exact .mk_nil
 | d :: ds,xs,n + 1,h=>by
  obtain ⟨x,r,rfl,h1,h2⟩:=h.cons_at
  exact .mk_cons h1 (h2.take n)
theorem aF.drop {H:Hp}:∀ {ds:List D} {xs:List V} (n:Nat),aF H ds xs -> aF H (ds.drop n) (xs.drop n)
 | ds,xs,0,h=>h
 | [],xs,n + 1,h=>by cases h.nil_at; exact .mk_nil
 | d :: ds,xs,n + 1,h=>by
  obtain ⟨x,r,rfl,h1,h2⟩:=h.cons_at
  exact h2.drop n
def aH (G:Hp) (a:Addr) (qs:List (Int × Int)):Prop:=∃ xs,G a = some (.lst xs) /\ aF G (qs.map fr) xs
section
variable {G G':Hp} {a l:Addr} {qs:List (Int × Int)} {xs:List V}
theorem aH.same (h:aH G a qs) (S:aw G G'):aH G' a qs:=by
 obtain ⟨ys,h1,h2⟩:=h
 exact ⟨ys,S _ _ h1,h2.same S⟩
theorem aH.but (h:aH G a qs) (hl:G l = some (.lst xs)) (hn:a ≠ l) (S:dI l G G'):aH G' a qs:=by
 obtain ⟨ys,h1,h2⟩:=h
 exact ⟨ys,S _ _ hn h1,aF.flat_but hl S _ _ (dg qs) h2⟩
theorem aH.rep (h:aH G a qs):aC G (.lst (qs.map fr)) (.ref a):=by
 obtain ⟨ys,h1,h2⟩:=h
 exact .mk_lst h1 h2
theorem aH.len (h:aH G a qs):fA G a = some qs.length:=by
 obtain ⟨ys,h1,h2⟩:=h
 unfold fA
 rw [h1]
 simp only [h2.length,List.length_map]
theorem aH.ne_st {st:Addr} (h:aH G a qs) (hst:cE G st):a ≠ st:=by
 rintro rfl
 obtain ⟨ys,h1,h2⟩:=h
 obtain ⟨x,b,h3,_⟩:=hst
 rw [h1] at h3
 cases h3
 cases qs with
 | nil=>cases h2.nil_at
 | cons q qs =>
  obtain ⟨y,r,e,h4,h5⟩:=aF.cons_at h2
  cases e
  obtain ⟨c,e,_⟩:=h4.fr_at
  cases e
theorem aH.stBut {st:Addr} (h:aH G a qs) (hst:cE G st) (S:dI st G G'):aH G' a qs:=by
 obtain ⟨x,b,h3,_⟩:=hst
 exact h.but h3 (h.ne_st ⟨x,b,h3,by assumption⟩) S
theorem cE.but {st:Addr} (h:cE G st) (hl:G l = some (.lst xs)) (hn:st ≠ l) (S:dI l G G'):cE G' st:=by
 obtain ⟨x,b,h3,h4⟩:=h
 exact ⟨x,b,S _ _ hn h3,h4⟩
end
theorem pE {CX:tG} {P:Program} {w:World} {K:PySem.W.Frag} {mg:Str -> Option Value} {base:Heap} {N:List Str} {qual:Str} {scope:Scope} {f:Addr} {cd:Value} {A:Around} {outer:List Env} {s:Shared} {H:Hp} {E:XK} :
  (fD CX P w K mg base N qual scope f cd A outer s H E).nox.K = K:=rfl
def xn (t u:TS):TS:=fun D σ H=>∃ R:St -> Hp -> Prop,(∀ σ' H',R σ' H' -> u D σ' H') /\ t { D with nx:=R } σ H
theorem xn.mk {t u:TS} {D:kP} {σ:St} {H:Hp} (R:St -> Hp -> Prop) (h1:t { D with nx:=R } σ H) (h2:∀ σ' H',R σ' H' -> u D σ' H'):xn t u D σ H:=⟨R,h2,h1⟩
theorem Ao {X:Cx} {st:Stmt} {fB:List Stmt} {t u:TS} (h1:PS X st t) (h2:qD X fB u):qD X (st :: fB) (xn t u):=by
 rintro pins s σ H D I ⟨R,hR,h⟩
 refine wpAny_execs_cons (cI (h1 pins s σ H { D with nx:=R } I h) fun f s1 q=>?_)
 cases f with
 | next =>
  obtain ⟨σ',H',I',q⟩:=q
  exact h2 pins s1 σ' H' D I' (hR _ _ q)
 | ret v=>exact q
 | brk=>exact q
 | cont=>exact q
def oR (J:It) (H:Hp) (its:List V):Prop:=(∀ i,i < its.length -> J.go i H) /\ (∀ i x H',i < its.length -> J.yld i H x H' -> H' = H /\ its[i]? = some x) /\ J.stop its.length H
def fm (lo:Int) (n:Nat):List V:=(List.range n).map fun (k:Nat)=>V.int (lo + k)
theorem bh {lo:Int} {n:Nat} {H:Hp}:oR (Eu lo n) H (fm lo n):=by
 refine ⟨fun i hi=>by show i < n; simpa [fm] using hi,fun i x H' hi y=>⟨y.1,?_⟩,by show n <= (fm lo n).length; simp [fm]⟩
 have hi':i < n:=by simpa [fm] using hi
 rw [y.2]
 simp [fm,hi']
theorem bY {K:PySem.W.Frag} {H:Hp} {a:Addr} {xs:List V} (h:vw K H a = some (.lst xs)):oR (FS K a) H xs :=
 ⟨fun i hi=>⟨xs,xs[i],.of (aO h),by simp [hi]⟩,fun i x H' _ y=>⟨y.1,y.2 xs (.of (aO h))⟩,⟨xs,.of (aO h),Nat.le_refl _⟩⟩
theorem bA {J:It} {its:List V} {g:TG} {tb:TS} {D:kP} {σ:St} {H:Hp} (Pv:Nat -> St -> Hp -> Prop) (hl:∀ i σ H,i <= its.length -> Pv i σ H -> oR J H its) (h0:Pv 0 σ H)
  (hs:∀ i x σ H,i < its.length -> its[i]? = some x -> Pv i σ H -> g x σ H fun σ2 H2=>tb { D with nx:=Pv (i + 1),ct:=Pv (i + 1),bk:=D.nx } σ2 H2) (hd:∀ σ H,Pv its.length σ H -> D.nx σ H):vD J g tb D σ H:=by
 refine ⟨fun i m σ H=>m = its.length - i /\ i <= its.length /\ Pv i σ H,⟨its.length,by simp,Nat.zero_le _,h0⟩,?_⟩
 rintro i m σ H ⟨rfl,hi,p⟩
 obtain ⟨q1,q2,q3⟩:=hl i σ H hi p
 by_cases hlt:i < its.length
 ·refine .inr ⟨q1 i hlt,Pv (i + 1),fun σ' H' p'=>⟨its.length - (i + 1),by walk_at "o",rfl,hlt,p'⟩,fun x H' y=>?_⟩
  obtain ⟨e,y2⟩:=q2 i x H' hlt y
  subst e
  exact hs i x σ _ hlt y2 p
 ·have e:i = its.length:=by walk_at "o"
  subst e
  exact .inl ⟨q3,hd σ H p⟩
def CN (K:PySem.W.Frag) (a:Addr) (σr:St) (Pv:List V -> Hp -> Prop):St -> Hp -> Prop:=fun σ H=>(∃ y,σ = y :: σr) /\ ∃ xs,vw K H a = some (.lst xs) /\ Pv xs H
def Dh (K:PySem.W.Frag) (a:Addr) (N:Hp -> Prop):V -> Hp -> Prop:=fun v H4=>∃ xs,vw K H4 a = some (.lst xs) /\ xs.length < sizeLine /\ ∀ H5,dI a (vw K H4) (vw K H5) -> vw K H5 a = some (.lst (xs ++ [v])) -> N H5
theorem de {K:PySem.W.Frag} {J:It} {its:List V} {tif:TT} {te:TE} {a:Addr} {x0:Option V} {σr:St} {H0:Hp} {Q:Hp -> Prop} (Pv:Nat -> List V -> Hp -> Prop)
  (hl:∀ i xs H,i <= its.length -> vw K H a = some (.lst xs) -> Pv i xs H -> oR J H its) (ha:vw K H0 a = some (.lst [])) (h0:Pv 0 [] H0)
  (hs:∀ i x xs H,i < its.length -> its[i]? = some x -> vw K H a = some (.lst xs) -> Pv i xs H -> tif (some x :: σr) H fun b H3=>if b = true then te (some x :: σr) H3 (Dh K a (CN K a σr (Pv (i + 1)) (some x :: σr))) else CN K a σr (Pv (i + 1)) (some x :: σr) H3)
  (hd:∀ xs H,vw K H a = some (.lst xs) -> Pv its.length xs H -> Q H):mX K J (gm 0) tif te a (x0 :: σr) H0 Q:=by
 refine ⟨fun i m σ H=>m = its.length - i /\ i <= its.length /\ CN K a σr (Pv i) σ H,⟨its.length,by simp,Nat.zero_le _,⟨_,rfl⟩,_,ha,h0⟩,?_⟩
 rintro i m σ H ⟨rfl,hi,⟨y,rfl⟩,xs,hxs,p⟩
 obtain ⟨q1,q2,q3⟩:=hl i xs H hi hxs p
 by_cases hlt:i < its.length
 ·refine .inr ⟨q1 i hlt,CN K a σr (Pv (i + 1)),fun σ' H' p'=>⟨its.length - (i + 1),by walk_at "o",rfl,hlt,p'⟩,fun x H' y=>?_⟩
  obtain ⟨e,y2⟩:=q2 i x H' hlt y
  subst e
  exact hs i x xs _ hlt y2 hxs p
 ·have e:i = its.length:=by walk_at "o"
  subst e
  exact .inl ⟨q3,hd xs H hxs p⟩
theorem Dh.mk {K:PySem.W.Frag} {a:Addr} {σr:St} {Pv:List V -> Hp -> Prop} {x:Option V} {v:V} {H:Hp} {xs:List V} (h:vw K H a = some (.lst xs)) (hz:xs.length < sizeLine)
  (q:∀ H5,dI a (vw K H) (vw K H5) -> vw K H5 a = some (.lst (xs ++ [v])) -> Pv (xs ++ [v]) H5):Dh K a (CN K a σr Pv (x :: σr)) v H:=⟨xs,h,hz,fun H5 B h5=>⟨⟨_,rfl⟩,_,h5,q H5 B h5⟩⟩
theorem CN.mk {K:PySem.W.Frag} {a:Addr} {σr:St} {Pv:List V -> Hp -> Prop} {x:Option V} {H:Hp} {xs:List V} (h:vw K H a = some (.lst xs)) (q:Pv xs H):CN K a σr Pv (x :: σr) H:=⟨⟨_,rfl⟩,_,h,q⟩
theorem dY {lo:Int} {n i:Nat} {x:V} (h:(fm lo n)[i]? = some x):i < n /\ x = .int (lo + i):=by
 have hi:i < n:=by simpa [fm] using (List.getElem?_eq_some_iff.mp h).1
 simp [fm,hi] at h
 exact ⟨hi,h.symm⟩
theorem ci {lo:Int} {n:Nat}:(fm lo n).length = n:=by simp [fm]
theorem qd {n d:Nat} {k:Nat} (h:k <= n):HT.sIx n d (some (k:Int)) = k:=by
 unfold HT.sIx
 simp only [Int.toNat_natCast]
 rw [if_neg (by walk_at "o")]
 walk_at "o"
theorem tu {xs:List V} {k:Nat} (h:k <= xs.length):jO xs none (some (k:Int)) = xs.take k:=by
 unfold jO
 rw [qd h]
 simp [HT.sIx]
theorem sj {xs:List V} {k:Nat} (h:k <= xs.length):jO xs (some (k:Int)) none = xs.drop k:=by
 unfold jO
 rw [qd h]
 simp [HT.sIx]
 rw [List.take_of_length_le]
 simp
theorem gr {α:Type} {xs:List α} {x:α} (h:xs.getLast? = some x):lV xs (-1) = some x:=by
 obtain ⟨ys,rfl⟩:=List.getLast?_eq_some_iff.mp h
 exact nG ys x
def AS (K:PySem.W.Frag) (neg:Bool):R2:=fun x y H Q=>∃ p q,x = .ref p /\ y = .ref q /\ ∃ xs,vw K H p = some (.lst xs) /\ vw K H q = some (.lst []) /\ Q (.bl (if neg then !xs.isEmpty else xs.isEmpty)) H
section
variable {X:Cx}
theorem mR (hu:X.A.units < cLine):fo X (compareOp .Eq) (AS X.K false):=by
 intro pins s σ H x y v u Q I rx ry h
 obtain ⟨p,q,rfl,rfl,xs,h1,h2,k⟩:=h
 cases rx
 cases ry
 obtain ⟨its,r,⟨o,n,e1,e2,e3,e4⟩,_⟩:=I.list (hZ.of (K:=X.K) (aO h1))
 obtain ⟨its2,r2,⟨o2,n2,f1,f2,f3,f4⟩,_⟩:=I.list (hZ.of (K:=X.K) (aO h2))
 cases r2
 have fin:EP X pins σ Q (.bool xs.isEmpty) s:=⟨.bl _,H,I,rfl,k⟩
 cases xs with
 | nil =>
  cases r
  exact SeqAt.RcAt.lists (e:=fun _=>true) ⟨_,e1,e2,_,e4⟩ ⟨_,f1,f2,_,f4⟩ rfl hu (fun j h1=>absurd h1 (by simp)) _ _ _ _ fin
 | cons x xs =>
  cases r
  exact SeqAt.RcAt.lists_lengths ⟨_,e1,e2,_,e4⟩ ⟨_,f1,f2,_,f4⟩ (by simp) hu _ _ _ _ fin
theorem yY (hu:X.A.units < cLine):fo X (compareOp .NotEq) (AS X.K true):=by
 intro pins s σ H x y v u Q I rx ry h
 obtain ⟨p,q,rfl,rfl,xs,h1,h2,k⟩:=h
 cases rx
 cases ry
 obtain ⟨its,r,⟨o,n,e1,e2,e3,e4⟩,_⟩:=I.list (hZ.of (K:=X.K) (aO h1))
 obtain ⟨its2,r2,⟨o2,n2,f1,f2,f3,f4⟩,_⟩:=I.list (hZ.of (K:=X.K) (aO h2))
 cases r2
 have fin:EP X pins σ Q (.bool !xs.isEmpty) s:=⟨.bl _,H,I,rfl,k⟩
 cases xs with
 | nil =>
  cases r
  exact SeqAt.RcNeAt.lists (e:=fun _=>true) ⟨_,e1,e2,_,e4⟩ ⟨_,f1,f2,_,f4⟩ rfl hu (fun j h1=>absurd h1 (by simp)) _ _ _ _ fin
 | cons x xs =>
  cases r
  exact SeqAt.RcNeAt.lists_lengths ⟨_,e1,e2,_,e4⟩ ⟨_,f1,f2,_,f4⟩ (by simp) hu _ _ _ _ fin
end
theorem cW.ul {k:Nat} {A:Around} (r:cW k A):A.units < cLine:=by have:=r.un; walk_at "o"
theorem cW.u64 {k:Nat} {A:Around} (r:cW k A):A.units + 64 < cLine:=by have:=r.un; walk_at "o"
theorem gv (p q:Int × Int):C4 (fr p) (fr q) = decide (p = q):=by
 unfold C4 fr D.py D.pys D.pys D.pys D.py
 simp only [PyData.eqv,PyData.eqvAll]
 rw [Bool.eq_iff_iff]
 simp [Prod.ext_iff]
theorem cR (q:Int × Int):(fr q).cmp:=by
 unfold D.cmp fr D.py D.pys D.pys D.pys D.py
 exact ⟨rfl,Nat.le_of_ble_eq_true rfl⟩
def GT (K:PySem.W.Frag) (mg:Str -> Option Value) (x:Str) (xs:List V):Prop:=∃ a,mg x = some (.ref a) /\ ∀ H,vw K H a = some (.tup xs)
theorem GT.mk {K:PySem.W.Frag} {mg:Str -> Option Value} {x:Str} {a:Addr} {o:Obj} {xs:List V} (h:mg x = some (.ref a)) (hl:K.lookup a = some o) (hk:sZ o = some (.tup xs)):GT K mg x xs :=
 ⟨a,h,fun H=>by unfold vw; rw [hl]; exact hk⟩
theorem aF.last {H:Hp} {ds:List D} {xs:List V} (h:aF H ds xs) {d:D} (hd:ds.getLast? = some d):∃ x,xs.getLast? = some x /\ aC H d x:=by
 rw [List.getLast?_eq_getElem?] at hd
 obtain ⟨x,e,r⟩:=h.at hd
 rw [<- h.length,<- List.getLast?_eq_getElem?] at e
 exact ⟨x,e,r⟩
theorem aJ {H:Hp} {a:Addr} {i j:Int} (h:H a = some (.tup [.int i,.int j])):aC H (fr (i,j)) (.ref a):=.mk_tup h (.mk_cons (.mk_int _) (.mk_cons (.mk_int _) .mk_nil))
def gY (ds:List D):Bool:=match ds.getLast? with
 | some (.tup [.int 0,.int 1])=>false
 | _=>true
def D.poly:D -> Bool
 | .lst ds=>ds.all D.frac && gY ds
 | _=>false
theorem iX {ds:List D} {q:Int × Int} (h:ds.getLast? = some (fr q)):gY ds = !decide (q = (0,1)):=by
 unfold gY
 rw [h]
 obtain ⟨a,b⟩:=q
 unfold fr
 simp only [Prod.mk.injEq]
 split
 ·rename_i e
  simp only [Option.some.injEq,D.tup.injEq,List.cons.injEq,D.int.injEq,and_true] at e
  simp [e]
 ·rename_i e
  by_cases h1:a = 0
  ·by_cases h2:b = 1
   ·subst h1 h2
    exact absurd rfl e
   ·simp [h2]
  ·simp [h1]
theorem D.frac_fr {d:D} (h:d.frac = true):∃ q,d = fr q /\ Fq q:=by
 cases d with
 | tup ds =>
  obtain ⟨a,b,rfl,hq⟩:=D.frac_tup h
  exact ⟨(a,b),rfl,hq⟩
 | _=>unfold D.frac at h; cases h
theorem m9 {ds:List D} (h:ds.all D.frac = true) (hn:ds ≠ []):∃ q,ds.getLast? = some (fr q) /\ Fq q:=by
 obtain ⟨d,hd⟩:=Option.isSome_iff_exists.mp (by rw [List.getLast?_isSome]; exact hn:ds.getLast?.isSome = true)
 obtain ⟨q,rfl,hq⟩:=D.frac_fr (List.all_eq_true.mp h d (List.mem_of_getLast? hd))
 exact ⟨q,hd,hq⟩
def Gx (xs:List V):Prop:=∀ b,V.bl b ∉ xs
end L2
namespace L2
open PySem PySem.Spec PyProof.Rows
theorem aF.repl {H:Hp} {d:D} {x:V} (h:aC H d x):∀ n,aF H (List.replicate n d) (List.replicate n x)
 | 0=>.mk_nil
 | n + 1=>.mk_cons h (aF.repl h n)
theorem BA {qs:List (Int × Int)} (h:∀ q ∈ qs,Fq q) (hl:∀ q,qs.getLast? = some q -> q.1 ≠ 0):(D.lst (qs.map fr)).poly = true:=by
 show ((qs.map fr).all D.frac && gY (qs.map fr)) = true
 rw [Bool.and_eq_true]
 refine ⟨List.all_eq_true.mpr fun d hd=>?_,?_⟩
 ·obtain ⟨q,hq,rfl⟩:=List.mem_map.mp hd
  exact frac_fr (h q hq)
 ·cases e:qs.getLast? with
  | none =>
   unfold gY
   rw [List.getLast?_map,e]
   rfl
  | some q =>
   rw [iX (q:=q) (by rw [List.getLast?_map,e]; rfl)]
   have:=hl q e
   simp
   rintro rfl
   exact this rfl
def tH (K:PySem.W.Frag) (σ:St) (H0:Hp) (t:TE) (b:Bool):Prop:=∀ H (Q:VK),aw (vw K H0) (vw K H) -> (∀ v H',aw (vw K H) (vw K H') -> wk (vw K H') v -> (b = true -> ∀ c,v ≠ .bl c) -> Q v H') -> t σ H Q
def yN (K:PySem.W.Frag) (σ:St) (H0:Hp) (t:TA) (n:Nat) (b:Bool):Prop:=∀ H (Q:List V -> Hp -> Prop),aw (vw K H0) (vw K H) -> (∀ vs H',aw (vw K H) (vw K H') -> lj (vw K H') vs -> vs.length = n -> (b = true -> Gx vs) -> Q vs H') -> t σ H Q
def BW (K:PySem.W.Frag) (σ:St) (H0:Hp) (t:TE) (n:Nat) (b:Bool):Prop:=∀ H (Q:VK),aw (vw K H0) (vw K H) -> (∀ p xs H',aw (vw K H) (vw K H') -> vw K H' p = some (.lst xs) -> lj (vw K H') xs -> xs.length = n -> (b = true -> Gx xs) -> Q (.ref p) H') -> t σ H Q
theorem aw.rfl {H:Hp}:aw H H:=fun _ _ z=>z
section
variable {K:PySem.W.Frag} {σ:St} {H0:Hp} {t u:TE} {ta:TA} {b c:Bool} {m n:Nat}
theorem ko {i:Int} (hb:Bt 200 i):tH K σ H0 (tC (.int i)) true:=fun H Q _ h=>h _ H .rfl (Ag hb) fun _ _ e=>by cases e
theorem zA {i:Bool}:tH K σ H0 (tC (.bl i)) false:=fun H Q _ h=>h _ H .rfl Ea fun e=>by cases e
theorem sC:tH K σ H0 (tC .non) true:=fun H Q _ h=>h _ H .rfl A4 fun _ _ e=>by cases e
theorem se:yN K σ H0 nN 0 true:=fun H Q _ h=>h [] H .rfl xS rfl fun _ _=>by simp
theorem kS (h1:tH K σ H0 t b) (h2:yN K σ H0 ta n c):yN K σ H0 (gB t ta) (n + 1) (b && c):=fun H Q S h =>
 h1 H _ S fun v H1 S1 a1 b1=>h2 H1 _ (S.trans S1) fun vs H2 S2 a2 l2 b2=>h (v :: vs) H2 (S1.trans S2) (wd (a1.same S2) a2) (by simp [l2]) fun e d=>by
  rw [Bool.and_eq_true] at e
  intro hd
  rcases List.mem_cons.mp hd with z | z
  ·exact b1 e.1 d z.symm
  ·exact b2 e.2 d z
theorem yg (h1:yN K σ H0 ta n b) (hn:n <= 1000):tH K σ H0 (jT K ta) true:=fun H Q S h =>
 h1 H _ S fun vs H1 S1 a1 l1 _=>⟨by rw [l1]; exact Nat.le_trans hn (by decide),fun p H2 hp S2 h2=>h _ H2 (S1.trans S2) (A6 h2 (a1.same S2)) fun _ _ e=>by cases e⟩
theorem sU (h1:yN K σ H0 ta n b) (hn:n <= 1000):BW K σ H0 (kq K ta) n b:=fun H Q S h =>
 h1 H _ S fun vs H1 S1 a1 l1 b1=>⟨by rw [l1]; exact Nat.le_trans hn (by decide),fun p H2 hp S2 h2=>h _ _ H2 (S1.trans S2) h2 (a1.same S2) l1 b1⟩
theorem yd (h1:BW K σ H0 t n b) (hb:b = true \/ n ≠ 2) (hn:n <= 1000):tH K σ H0 t true:=fun H Q S h =>
 h1 H _ S fun p xs H1 S1 x1 a1 l1 b1=>h _ H1 S1 (Al x1 a1 ⟨fun i k e=>by
  rcases hb with z | z
  ·exact b1 z k (by rw [e]; simp)
  ·rw [e] at l1; exact z l1.symm,by rw [l1]; exact hn⟩) fun _ _ e=>by cases e
end
end L2
set_option autoImplicit true
namespace L2
open PySem PySem.Spec PyProof.Rows
structure QE (X:Cx) (e:Expr) (t:TE):Prop where
 h:PE X e t
structure QT (X:Cx) (e:Expr) (t:TT):Prop where
 h:PT X e t
structure QW (X:Cx) (e:Expr) (t:TT):Prop where
 h:PW X e t
structure QA (X:Cx) (e:List Expr) (t:TA):Prop where
 h:PA X e t
structure QS (X:Cx) (e:Stmt) (t:TS):Prop where
 h:PS X e t
structure sN (X:Cx) (e:List Stmt) (t:TS):Prop where
 h:qD X e t
structure QG (X:Cx) (e:Expr) (t:TG):Prop where
 h:PG X e t
structure FO (X:Cx) (e:List Expr) (t:wG):Prop where
 h:Ex X e t
structure QF (X:Cx) (e:List Expr) (t:TT):Prop where
 h:PF X e t
structure QO (X:Cx) (e:Option Expr) (t:TO):Prop where
 h:PO X e t
structure QI (X:Cx) (tg e:Expr) (t:TI):Prop where
 h:PI X tg e t
section
variable {X:Cx} {pos p p2 apos cpos pos':Pos} {a b e o l:Expr} {es fB:List Expr} {te ta tb to:TE} {tA tB':TT} {st:Stmt} {rest':List Stmt} {lo hi:Option Expr} {id:String}
theorem fH {b j pos}:QE X (.Constant (.bool b) j pos) (tC (.bl b)):=⟨Fx ⟩
theorem ad {i j pos}:QE X (.Constant (.int i) j pos) (tC (.int i)):=⟨DK ⟩
theorem nh {j pos}:QE X (.Constant .none j pos) (tC .non):=⟨CV ⟩
theorem fu {x j pos}:QE X (.Constant (.str x) j pos) (tC (.str x)):=⟨D9 ⟩
theorem bJ {x:Str} {v:V} {u:Value} {pos:Pos} (hg:Gl X x) (hm:X.mg x = some u) (r:bO v u) (hd:(x == ("__debug__" : Str)) = false:=by decide):QE X (.Name x pos) (tC v):=⟨zV (hg:=hg) (hm:=hm) (r:=r) (hd:=hd)⟩
theorem fi {x:Str} {v:V} {u:Value} {pos:Pos} (hg:Gl X x) (hm:X.mg x = none) (hv:bootBuiltins x = some u) (r:bO v u) (hn:x ≠ "__name__":=by decide) (hd:(x == ("__debug__" : Str)) = false:=by decide):QE X (.Name x pos) (tC v):=⟨Ad (hg:=hg) (hm:=hm) (hv:=hv) (r:=r) (hn:=hn) (hd:=hd)⟩
theorem ap {op:Operator} {r:R2} (ho:fo X (binaryOp op) r) (ha:QE X a ta) (hb:QE X b tb):QE X (.BinOp a op b pos) (yW r ta tb):=⟨ED (ho:=ho) (ha:=ha.h) (hb:=hb.h)⟩
theorem eR {op:UnaryOp} {r:V -> Hp -> VK -> Prop} (ho:FR X (unaryOp op) r) (ha:QE X a ta):QE X (.UnaryOp op a pos) (F2 r ta):=⟨Fn (ho:=ho) (ha:=ha.h)⟩
theorem za (ha:QE X a ta):QE X (.UnaryOp .Not a pos) (vA ta):=⟨DC (ha:=ha.h)⟩
theorem lJ (ha:QE X a ta) (hb:QE X (.BoolOp .And (b :: fB) pos) tb):QE X (.BoolOp .And (a :: b :: fB) pos) (uK ta tb):=⟨CP (ha:=ha.h) (hb:=hb.h)⟩
theorem uW (ha:QE X a ta) (hb:QE X (.BoolOp .Or (b :: fB) pos) tb):QE X (.BoolOp .Or (a :: b :: fB) pos) (Aj ta tb):=⟨EQ (ha:=ha.h) (hb:=hb.h)⟩
theorem hJ {op} {t:TE} (h:QE X a t):QE X (.BoolOp op [a] pos) t:=⟨CK (h:=h.h)⟩
theorem dC {op:CmpOp} {r:R2} (ho:fo X (compareOp op) r) (ha:QE X a ta) (hb:QE X b tb) (hm:behindInMarks op b = false):QE X (.Compare a [op] [b] pos) (yW r ta tb):=⟨Be (ho:=ho) (ha:=ha.h) (hb:=hb.h) (hm:=hm)⟩
theorem sh {c:Expr} (hc:QT X c tA) (ha:QE X a ta) (hb:QE X b tb):QE X (.IfExp c a b pos) (F3 tA ta tb):=⟨yo (hc:=hc.h) (ha:=ha.h) (hb:=hb.h)⟩
theorem av {x1} (h:QA X es t):QE X (.Tuple es x1 pos) (jT X.K t):=⟨Bp (h:=h.h)⟩
theorem aD (h:QA X es t):QE X (.List es pos) (kq X.K t):=⟨zG (h:=h.h)⟩
theorem gE {r:V -> Option Int -> Option Int -> Hp -> VK -> Prop} (hr:zx X r) (he:QE X e te) (hl:QO X lo tl) (hu:QO X hi th):QE X (.Subscript e (.Slice lo hi none p2) pos) (F1 r te tl th):=⟨y8 (hr:=hr) (he:=he.h) (hl:=hl.h) (hu:=hu.h)⟩
theorem jb  : QO X none pQ:=⟨Bh ⟩
theorem hU (h:QE X e te):QO X (some e) (uX te):=⟨Br (h:=h.h)⟩
theorem aA {r:R2} (hr:vJ X r) (ha:QE X a ta) (hb:QE X b tb) (hs:vo b):QE X (.Subscript a b pos) (yW r ta tb):=⟨Fl (hr:=hr) (ha:=ha.h) (hb:=hb.h) (hs:=hs)⟩
theorem ah (C:aP X.prog X.w X.K X.mg X.base x ps k sp) (hr:cW k X.A) (hg:Gl X x) (ha:QA X (e :: es) t) (hdb:(x == ("__debug__" : Str)) = false:=by decide) (he:starEach (e :: es) X.env = (false,eval e X.env) :: starEach es X.env:=by rfl) (hpl:(backTo pos (starEach es X.env)).any (·.1) = false:=by rfl) :
  QE X (.Call (.Name x p) (e :: es) [] pos) (Ci sp t):=⟨Du (C:=C) (hr:=hr) (hg:=hg) (ha:=ha.h) (hdb:=hdb) (he:=he) (hpl:=hpl)⟩
theorem ai (hc:dF X (.builtin id) r) (hg:Gl X x) (hm:X.mg x = none) (hv:bootBuiltins x = some (.builtin id)) (ha:QA X (e :: es) t) (hn:x ≠ "__name__":=by decide) (hdb:(x == ("__debug__" : Str)) = false:=by decide) (he:starEach (e :: es) X.env = (false,eval e X.env) :: starEach es X.env:=by rfl) (hpl:(backTo pos (starEach es X.env)).any (·.1) = false:=by rfl):QE X (.Call (.Name x p) (e :: es) [] pos) (Ap r t):=⟨zf (hc:=hc) (hg:=hg) (hm:=hm) (hv:=hv) (ha:=ha.h) (hn:=hn) (hdb:=hdb) (he:=he) (hpl:=hpl)⟩
theorem eG (hc:dF X (.type T) r) (hg:Gl X x) (hm:X.mg x = none) (hv:bootBuiltins x = some (.type T)) (ha:QA X (e :: es) t) (hn:x ≠ "__name__":=by decide) (hdb:(x == ("__debug__" : Str)) = false:=by decide) (he:starEach (e :: es) X.env = (false,eval e X.env) :: starEach es X.env:=by rfl) (hpl:(backTo pos (starEach es X.env)).any (·.1) = false:=by rfl):QE X (.Call (.Name x p) (e :: es) [] pos) (Ap r t):=⟨wl (hc:=hc) (hg:=hg) (hm:=hm) (hv:=hv) (ha:=ha.h) (hn:=hn) (hdb:=hdb) (he:=he) (hpl:=hpl)⟩
theorem rX (pa:PlainAttrs T) (slot:Slot T name id) (hty:typeOf (.builtin id) = pure (.type "method_descriptor")) (hm:FH X id r) (ho:QE X o to) (ha:QA X (e :: es) t) (hbase:attributeBase o name X.env (eval o X.env) = eval o X.env:=by rfl) (hfew:((backTo cpos (starEach (e :: es) X.env)).all (fun x=>!x.1) && (backToKw cpos (keywordEach [] X.env)).all (fun x=>x.1.isSome)
   && decide ((e :: es).length + ([]:List Keyword).length + (if ([]:List Keyword).isEmpty then 0 else 1) < 30)) = true:=by rfl) (hline:(apos.endLine == cpos.line) = true:=by rfl) (hs:starEach (e :: es) X.env = (false,eval e X.env) :: starEach es X.env:=by rfl) (hplain:(backTo cpos (starEach es X.env)).any (·.1) = false:=by rfl) :
  QE X (.Call (.Attribute o name apos) (e :: es) [] cpos) (Gg X.K T r to t):=⟨EB (pa:=pa) (slot:=slot) (hty:=hty) (hm:=hm) (ho:=ho.h) (ha:=ha.h) (hbase:=hbase) (hfew:=hfew) (hline:=hline) (hs:=hs) (hplain:=hplain)⟩
theorem Cm (pa:PlainAttrs T) (slot:Slot T name id) (hty:typeOf (.builtin id) = pure (.type "method_descriptor")) (hm:FH X id r) (ho:QE X o to) (hbase:attributeBase o name X.env (eval o X.env) = eval o X.env:=by rfl) (hline:(apos.endLine == cpos.line) = true:=by rfl):QE X (.Call (.Attribute o name apos) [] [] cpos) (CI X.K T r to):=⟨Cf (pa:=pa) (slot:=slot) (hty:=hty) (hm:=hm) (ho:=ho.h) (hbase:=hbase) (hline:=hline)⟩
theorem ac  : QA X [] nN:=⟨CT ⟩
theorem aa (ha:QE X e te) (hr:QA X es t) (hs:starEach (e :: es) X.env = (false,eval e X.env) :: starEach es X.env:=by rfl):QA X (e :: es) (gB te t):=⟨AH (ha:=ha.h) (hr:=hr.h) (hs:=hs)⟩
theorem aN {op:CmpOp} {r:R2} (ho:fo X (compareOp op) r) (ha:QE X a ta) (hb:QE X b tb) (hm:behindInMarks op b = false):QT X (.Compare a [op] [b] pos) (ua (yW r ta tb)):=⟨AL (ho:=ho) (ha:=ha.h) (hb:=hb.h) (hm:=hm)⟩
theorem dc (ha:QT X a tA):QT X (.UnaryOp .Not a pos) (DB tA):=⟨DS (ha:=ha.h)⟩
theorem QW.pt {X:Cx} {e:Expr} {t:TT} (h:QW X e t):QT X e t:=⟨PW.pt (h:=h.h)⟩
theorem kG (ha:QT X a tA):QW X (.BoolOp .And [a] pos) tA:=⟨AO (ha:=ha.h)⟩
theorem oj (ha:QT X a tA) (hb:QW X (.BoolOp .And (b :: fB) pos) tB'):QW X (.BoolOp .And (a :: b :: fB) pos) (Ek tA tB'):=⟨DN (ha:=ha.h) (hb:=hb.h)⟩
theorem iC (ha:QT X a tA):QW X (.BoolOp .Or [a] pos) tA:=⟨De (ha:=ha.h)⟩
theorem gS (ha:QT X a tA) (hb:QW X (.BoolOp .Or (b :: fB) pos) tB'):QW X (.BoolOp .Or (a :: b :: fB) pos) (F8 tA tB'):=⟨EJ (ha:=ha.h) (hb:=hb.h)⟩
theorem iJ (ha:QE X a ta) (he:∀ whole,isTrue a X.env whole = (do let v <- whole; standAt a.pos; holding [v] (truthy v))) :
  QT X a (fun σ H Q=>ta σ H fun x H'=>∃ k,rf X.K x H' k /\ Q k H'):=⟨wZ (ha:=ha.h) (he:=he)⟩
theorem df {e:Expr} {t:TE} (h:QE X e t) (he:∀ whole,isTrue e X.env whole = (do let v <- whole; standAt e.pos; holding [v] (truthy v)):=by intro _; rfl):QT X e (tB t):=⟨DT (h:=h.h) (he:=he)⟩
theorem am {i:Nat} {x:Str} (hN:X.N.Nodup) (hi:X.N[i]? = some x) (hx:zw X.env.scope x) (hf:X.fn x = true \/ X.env.scope.names.lookup x = some .local:=by first | exact .inl rfl | exact .inr rfl | assumption):QG X (.Name x pos) (gm i):=⟨AN (hN:=hN) (hi:=hi) (hx:=hx) (hf:=hf)⟩
theorem br {es:List Expr} {k:Nat} {t:wG} {n:Nat} {pos:Pos} (hc:X.calm = true) (h:FO X es t) (hn:(assignEach es X.env).length = n:=by rfl) (hst:(assignEach es X.env).findIdx? (·.1) = none:=by rfl):QG X (.Tuple es k pos) (jr X.K n t):=⟨zB (hc:=hc) (h:=h.h) (hn:=hn) (hst:=hst)⟩
theorem bo  : FO X [] tX:=⟨Af ⟩
theorem ay {e:Expr} {es:List Expr} {t:TG} {u:wG} (h1:QG X e t) (h2:FO X es u) (hs:(assignEach (e :: es) X.env).map (·.2) = assign e X.env :: (assignEach es X.env).map (·.2):=by rfl):FO X (e :: es) (jz t u):=⟨xg (h1:=h1.h) (h2:=h2.h) (hs:=hs)⟩
theorem nS {o i:Expr} {to ti:TE} {t:tW} (ho:QE X o to) (hi:QE X i ti) (hs:vO X t) (ha:∀ v,assign (.Subscript o i pos) X.env v = (do
   let ov <- holding [v] (eval o X.env)
   let iv <- holding [v,ov] (eval i X.env)
   standAt pos
   holding [v,ov,iv] (setItem ov iv v)
   release [v,ov,iv] []):=by intro _; rfl):QG X (.Subscript o i pos) (CZ to ti t):=⟨Cg (ho:=ho.h) (hi:=hi.h) (hs:=hs) (ha:=ha)⟩
theorem bZ {a:Expr} {ta:TA} {p pos:Pos} (hg:Gl X "range") (hm:X.mg "range" = none) (ha:QA X [a] ta) (hs:starEach [a] X.env = [(false,eval a X.env)]:=by rfl):QI X tg (.Call (.Name "range" p) [a] [] pos) (uM ta):=⟨wf (hg:=hg) (hm:=hm) (ha:=ha.h) (hs:=hs)⟩
theorem dZ {l:Expr} {tl:TE} (hl:QE X l tl):QI X tg l (vd X.K tl):=⟨zR (hl:=hl.h)⟩
theorem ar (he:QE X e te):QS X (.Return (some e) pos) (Co te):=⟨Ct (he:=he.h)⟩
theorem gT (he:QE X e te) (hs:swapsWith e none pos.line X.env = pure false:=by rfl):QS X (.Expr e pos) (wY te):=⟨AM (he:=he.h) (hs:=hs)⟩
theorem bT {c:Expr} {a b:List Stmt} {tc:TT} (hc:QT X c tc) (ha:sN X a t) (hb:sN X b u):QS X (.If c a b pos) (DD tc t u):=⟨Fw (hc:=hc.h) (ha:=ha.h) (hb:=hb.h)⟩
theorem gL {c:Expr} {body:List Stmt} {tc:TT} {tb:TS} (hp:PassesOwn (model X.prog X.w) X.A X.env X.xe) (hc:QT X c tc) (hb:sN X body tb):QS X (.While c body [] pos) (xA tc tb):=⟨zi (hp:=hp) (hc:=hc.h) (hb:=hb.h)⟩
theorem cr {iter:Expr} {body:List Stmt} {wi:TI} {g:TG} {tb:TS} {pos:Pos} (hp:PassesOwn (model X.prog X.w) X.A X.env X.xe) (hc:X.calm = true) (hi:QI X tg iter wi) (hg:QG X tg g) (hb:sN X body tb) (hs:∀ x,foldedSetIterable iter X.env x = pure x:=by intro _; rfl):QS X (.For tg iter body [] pos) (Cw wi g tb):=⟨DE (hp:=hp) (hc:=hc) (hi:=hi.h) (hg:=hg.h) (hb:=hb.h) (hs:=hs)⟩
theorem az {i:Nat} {x:Str} {e:Expr} {te:TE} {pos':Pos} (hN:X.N.Nodup) (hi:X.N[i]? = some x) (hx:zw X.env.scope x) (he:QE X e te) (hs:swapsWith e (some (.Name x pos')) pos.line X.env = pure false:=by rfl) (hf:X.fn x = true \/ X.env.scope.names.lookup x = some .local:=by first | exact .inl rfl | exact .inr rfl | assumption) :
  QS X (.Assign [.Name x pos'] e pos) (sd te (gm i)):=⟨Ch (hN:=hN) (hi:=hi) (hx:=hx) (he:=he.h) (hs:=hs) (hf:=hf)⟩
theorem tK {i j:Nat} {x y:Str} {a b:Expr} {ta:TA} {px py pt:Pos} {kt k2 pt2} (hc:X.calm = true) (hN:X.N.Nodup) (hi:X.N[i]? = some x) (hj:X.N[j]? = some y) (hij:i ≠ j) (hx:X.env.scope.names.lookup x = some .local) (hy:X.env.scope.names.lookup y = some .local) (ha:QA X [a,b] ta) (hw:swappedStores [.Tuple [.Name x px,.Name y py] kt pt] (.Tuple [a,b] k2 pt2) X.env = pure (some [x,y])) (hs:swapsWithSole [.Tuple [.Name x px,.Name y py] kt pt] (.Tuple [a,b] k2 pt2) pos.line X.env = pure false:=by rfl) :
  QS X (.Assign [.Tuple [.Name x px,.Name y py] kt pt] (.Tuple [a,b] k2 pt2) pos) (Bx i j ta):=⟨Dm (hc:=hc) (hN:=hN) (hi:=hi) (hj:=hj) (hij:=hij) (hx:=hx) (hy:=hy) (ha:=ha.h) (hw:=hw) (hs:=hs)⟩
theorem cF {tg e:Expr} {te:TE} {g:TG} (he:QE X e te) (hg:QG X tg g) (hs:swapsWithSole [tg] e pos.line X.env = pure false:=by rfl) (hw:swappedStores [tg] e X.env = pure none:=by rfl) (h1:(assignEach [tg] X.env).map (·.2) = [assign tg X.env]:=by rfl):QS X (.Assign [tg] e pos) (sd te g):=⟨CA (he:=he.h) (hg:=hg.h) (hs:=hs) (hw:=hw) (h1:=h1)⟩
theorem qX {i:Nat} {x:Str} {e:Expr} {te:TE} {op:Operator} {ti:zt} {pos':Pos} (hN:X.N.Nodup) (hi:X.N[i]? = some x) (hx:zw X.env.scope x) (he:QE X e te) (ho:DL X op ti) (hf:X.fn x = true \/ X.env.scope.names.lookup x = some .local:=by first | exact .inl rfl | exact .inr rfl | assumption) :
  QS X (.AugAssign (.Name x pos') op e pos) (C9 i te ti):=⟨CL (hN:=hN) (hi:=hi) (hx:=hx) (he:=he.h) (ho:=ho) (hf:=hf)⟩
theorem rg {o i e:Expr} {to ti te:TE} {tget:V -> V -> Hp -> VK -> Prop} {tip:zt} {tset:tW} {op:Operator} {tpos:Pos} (ho:QE X o to) (hi:QE X i ti) (hg:D5 X tget) (he:QE X e te) (hp:DL X op tip) (hs:vO X tset) (ha:∀ ov iv new,augStore i ov iv new = (do holding [new,ov,iv] (setItem ov iv new); release [new,ov,iv] []; pure .next):=by intros; rfl):QS X (.AugAssign (.Subscript o i tpos) op e pos) (sK to ti te tget tip tset):=⟨AF (ho:=ho.h) (hi:=hi.h) (hg:=hg) (he:=he.h) (hp:=hp) (hs:=hs) (ha:=ha)⟩
theorem aR  : sN X [] yM:=⟨Bs ⟩
theorem ag (h1:QS X st t):sN X [st] t:=⟨AC (h1:=h1.h)⟩
theorem af (h1:QS X st t) (h2:sN X rest' u):sN X (st :: rest') (bv t u):=⟨yF (h1:=h1.h) (h2:=h2.h)⟩
theorem Bi {X:Cx} {st:Stmt} {rest':List Stmt} {t u:TS} (h1:QS X st t) (h2:sN X rest' u):sN X (st :: rest') (xn t u):=⟨Ao (h1:=h1.h) (h2:=h2.h)⟩
theorem gc {X:Cx}:QF X [] D0:=⟨Ei ⟩
theorem yt {X:Cx} {c:Expr} {t:TT} (h:QT X c t):QF X [c] t:=⟨Dt (h:=h.h)⟩
theorem qv (i:Nat) {x:Str} {pos:Pos} (hN:X.N[i]? = some x:=by rfl) (hv:Dy X.env.scope x:=by first | exact Or.inl rfl | exact Or.inr (Or.inl rfl) | exact Or.inr (Or.inr rfl)) (hd:(x == ("__debug__" : Str)) = false:=by decide) (hcd:(x == ("__classdict__" : Str)) = false:=by decide):QE X (.Name x pos) (tVar i):=⟨pv (i:=i) (hN:=hN) (hv:=hv) (hd:=hd) (hcd:=hcd)⟩
theorem eh {tg iter elt:Expr} {ifs:List Expr} {scope:Scope} {wi:TI} {g:TG} {tif:TT} {te:TE} {cl:List (Str × Addr)} {own outs:List Str} {ixs:List Nat}
  (hc:X.calm = true) (hi:QI X tg iter wi) (hclos:closureFor scope X.env = pure cl) (S:ni X scope cl own outs ixs)
  (hb:∀ C s H ex,QG (lQ X scope cl (own ++ outs) C s H ex) tg g /\ QF (lQ X scope cl (own ++ outs) C s H ex) ifs tif /\ QE (lQ X scope cl (own ++ outs) C s H ex) elt te)
  (hs:∀ x,foldedSetIterable iter X.env x = pure x:=by intro _; rfl):QE X (.ListComp elt [⟨tg,iter,ifs,0⟩] scope pos) (sF X.K wi own.length ixs g tif te) :=
 ⟨AR hc hi.h hclos S (fun C s H ex=>⟨(hb C s H ex).1.h,(hb C s H ex).2.1.h,(hb C s H ex).2.2.h⟩) hs⟩
theorem zQ {tg iter elt:Expr} {ifs:List Expr} {scope:Scope} {spos py:Pos} {y:Str} {i:Nat} {wi:TI} {g:TG} {tif:TT} {te:TE} {cl:List (Str × Addr)} {own outs:List Str} {ixs:List Nat}
  (hN:X.N.Nodup) (hy:X.N[i]? = some y) (hx:zw X.env.scope y) (hc:X.calm = true) (hi:QI X tg iter wi) (hclos:closureFor scope X.env = pure cl) (S:ni X scope cl own outs ixs)
  (hb:∀ C s H ex,QG (lQ X scope cl (own ++ outs) C s H ex) tg g /\ QF (lQ X scope cl (own ++ outs) C s H ex) ifs tif /\ QE (lQ X scope cl (own ++ outs) C s H ex) elt te)
  (hsw:swapsWith (.ListComp elt [⟨tg,iter,ifs,0⟩] scope pos) (some (.Name y py)) spos.line X.env = pure true:=by rfl)
  (hs:∀ x,foldedSetIterable iter X.env x = pure x:=by intro _; rfl) (hf:X.fn y = true \/ X.env.scope.names.lookup y = some .local:=by first | exact .inl rfl | exact .inr rfl | assumption) :
  QS X (.Assign [.Name y py] (.ListComp elt [⟨tg,iter,ifs,0⟩] scope pos) spos) (sd (sF X.K wi own.length ixs g tif te) (gm i)) :=
 ⟨zZ hN hy hx hc hi.h hclos S (fun C s H ex=>⟨(hb C s H ex).1.h,(hb C s H ex).2.1.h,(hb C s H ex).2.2.h⟩) hsw hs hf⟩
end
section
variable {P:Program} {w:World} {K:PySem.W.Frag} {mg:Str -> Option Value} {base:Heap}
theorem cU.okQ {x qual:Str} {st:Stmt} {f:Addr} {fd:FuncData} {N ps:List Str} {k:Nat} {sp:Sp} (F:cU K x qual st f fd) (S:aq N ps (ae st)) (len:∀ vs H Q E,sp vs H Q E -> vs.length = ps.length)
  (hbody:∀ (cdv:Value) (A:Around) (outer:List Env) (s:Shared) (H:Hp) (vs:List V) (Q:VK) (E:XK),cW k (A.deeper (envOfC qual (ae st) s.heap.objs.size f cdv)) -> sp vs H Q E ->
   ∃ t,sN (fD cV P w K mg base N qual (ae st) f cdv A outer s H E).nox (ao st) t /\ t { nx:=fun _ H'=>Q .non H',rt:=Q } (start N vs) H):aV P w K mg base cV (k + 1) f fd ps sp :=
 F.ok S len fun cdv A outer s H vs Q E hr h=>(hbody cdv A outer s H vs Q E hr h).imp fun t z=>⟨z.1.h,z.2⟩
end
end L2
namespace L2
open PySem PySem.Spec PyProof.Rows
section
variable {X:Cx} {pins:List (Addr × Obj)} {σ:St} {H:Hp} {s:Shared} {h':Heap}
theorem aG.turnT {t':Nat} {ch:List Addr} {T:Addr} {xs:List V} {its:List Value} (I:aG X pins σ H s) (k:∀ b o,b ∉ ch -> s.heap.get? b = some o -> h'.get? b = some o) (hf:∀ b ∈ ch,lM X pins H b)
  (hT:s.heap.objs.size <= T) (hz:xs.length <= sizeLine) (rv:aX xs its) (ht:IsTup h' T its.toArray):aG X pins σ (upd H T (.tup xs)) { s with heap:=h',toks:=t' }:=by
 have hn:H T = none:=I.hok.fresh hT
 have nT:∀ b o,s.heap.get? b = some o -> b ≠ T:=fun b o e=>Nat.ne_of_lt (Nat.lt_of_lt_of_le (Heap.lt_size e) hT)
 refine I.step (g':=s.gens) (d':=s.drawn) (ch:=ch) (fun b hb=>?_) (fun b o _ _ hc e _=>k b o hc e) (fun b o _ _ hc e _=>⟨o.slots,k b o hc e⟩) (fun b o _ e n=>?_)
  (fun b o hc e=>⟨o,k b o hc e⟩) (fun b ys e=>?_) (fun b o u e=>?_) (fun b ps e=>⟨#[],?_⟩) (fun m hm=>?_) (fun b u e=>?_) I.bare
 ·obtain ⟨_,f1,_,f3,f4,f5⟩:=hf b hb
  exact ⟨f3,f1,f4,f5⟩
 ·rw [aQ (nT b o e)]
  exact n
 ·rw [aQ (ak e hn)]
  exact e
 ·rw [aQ (ak e hn)]
  exact e
 ·rw [aQ (ak e hn),e]
  simp
 ·obtain ⟨o,es,ep,ho,r⟩:=hm
  exact ⟨o,es,ep,k _ o (fun z=>(hf _ z).2.1 rfl) ho,r⟩
 ·by_cases hb:b = T
  ·subst hb
   rw [bI] at e
   cases e
   exact ⟨hz,its,rv,ht⟩
  ·rw [aQ hb] at e
   have nch:∀ c v,H c = some v -> c ∉ ch:=fun c v z hc=>by
    rw [(hf c hc).1] at z
    cases z
   refine (I.hok b u e).stay (fun c v hc q=>k c v ?_ q) (fun c q=>?_) fun c ys q=>?_
   ·rcases hc with z | z
    ·rw [z]
     exact nch b u e
    ·exact nch c _ z
   ·rw [aQ (ak q hn)]
    exact q
   ·rw [aQ (ak q hn)]
    exact q
end
def Cs (K:PySem.W.Frag) (R:Hp -> List (List V) -> Prop):It :=
 ⟨fun i H=>∃ ys t,R H ys /\ ys[i]? = some t,fun i H x H'=>∃ p t,x = .ref p /\ vw K H p = none /\ aw (vw K H) (vw K H') /\ vw K H' p = some (.tup t) /\ ∀ ys,R H ys -> ys[i]? = some t,fun i H=>∃ ys,R H ys /\ ys.length = i⟩
def xW (K:PySem.W.Frag) (a:Addr):Hp -> List (List V) -> Prop:=fun H ys=>∃ xs,H a = some (.lst xs) /\ ys = xs.mapIdx fun i x=>[V.int i,x]
theorem vF {P:Program} {w:World} {K:PySem.W.Frag} {elts:List Expr} {x1:Nat} {pos:Pos} (a e it:Addr) (hne:e ≠ it) (ha:a ≠ e) (ha2:a ≠ it) :
  wr P w K (.Tuple elts x1 pos) (Cs K (xW K a)) [e,it] e (fun i h=>(∃ old,IsEnum h e it (i:Int) old) /\ h.IsListIter it a i) where
 mem:=by simp
 obj:=fun i h st b hb=>by
  obtain ⟨⟨old,h1⟩,o,h2,c,d⟩:=st
  simp only [List.mem_cons,List.not_mem_nil,or_false] at hb
  rcases hb with rfl | rfl
  ·exact ⟨_,h1,fun v z=>by cases z⟩
  ·exact ⟨o,h2,fun v z=>by rw [d] at z; cases z⟩
 keep:=fun i h h' st k=>by
  obtain ⟨⟨old,h1⟩,h2⟩:=st
  exact ⟨⟨old,k e (by simp) _ h1⟩,h2.at fun o z=>k it (by simp) o z⟩
 item:=by
  intro X hP hw hK hc i pins s σ H E I hf st hg
  subst hP hw hK
  obtain ⟨⟨old,h1⟩,h2⟩:=st
  obtain ⟨ys,t,⟨xs,hxs,rfl⟩,ht⟩:=hg
  rw [List.getElem?_mapIdx] at ht
  cases hx:xs[i]? with
  | none=>rw [hx] at ht; cases ht
  | some x =>
   rw [hx] at ht
   cases ht
   obtain ⟨its,rv,p,hz⟩:=I.list (hZ.of (K:=X.K) hxs)
   obtain ⟨u,hu,ru⟩:=rv.get hx
   refine wpAny_pyNext_enum_item h1 h2 p.isList (x:=u) (by simpa using hu) hne fun h3 heo hit ht3 hz3 hk3=>⟨_,rfl,?_⟩
   refine wpAny_letOwnedTupleGo_enum (s:={ s with heap:=h3,toks:=s.toks + 1 }) heo fun h4 he4 hs4=>?_
   have hes:e < s.heap.objs.size:=Heap.lt_size h1
   have ht4:=hs4.extBut _ _ (Nat.ne_of_gt hes) ht3
   have k4:∀ b o,b ∉ [e,it] -> s.heap.get? b = some o -> h4.get? b = some o:=fun b o hb z=>by
    simp only [List.mem_cons,List.not_mem_nil,or_false,not_or] at hb
    exact hs4.extBut _ _ hb.1 (hk3 b o hb.1 hb.2 z)
   have I4:aG X pins σ (upd H s.heap.objs.size (.tup [.int i,x])) { s with heap:=h4,toks:=s.toks + 1 } :=
    I.turnT (its:=[.int i s.toks,u]) k4 hf (Nat.le_refl _) (show 2 <= sizeLine by decide) (.cons ⟨_,rfl⟩ (.cons ru .nil)) ⟨_,ht4,rfl,_,rfl⟩
   have fr:=I.hok.fresh (Nat.le_refl s.heap.objs.size)
   have nk:=I.newK (Nat.le_refl s.heap.objs.size)
   refine ⟨.ref s.heap.objs.size,_,I4,rfl,⟨_,_,rfl,by rw [dy nk]; exact fr,jV (aw.upd fr),by rw [dy nk]; exact bI,?_⟩,⟨⟨_,he4⟩,hit.extBut hs4.extBut hne.symm⟩,fun b hb=>?_⟩
   ·rintro ys ⟨zs,hzs,rfl⟩
    rw [hxs] at hzs
    cases hzs
    rw [List.getElem?_mapIdx,hx]
    rfl
   ·have:b < s.heap.objs.size:=by
     simp only [List.mem_cons,List.not_mem_nil,or_false] at hb
     rcases hb with rfl | rfl
     ·exact hes
     ·obtain ⟨_,z,_⟩:=h2
      exact Heap.lt_size z
    rw [aQ (Nat.ne_of_lt this)]
    exact (hf b hb).1
 done:=by
  intro X hP hw hK hc i pins s σ H E I hf st hg
  subst hP hw hK
  obtain ⟨⟨old,h1⟩,h2⟩:=st
  obtain ⟨ys,⟨xs,hxs,rfl⟩,hl⟩:=hg
  obtain ⟨its,rv,p,hz⟩:=I.list (hZ.of (K:=X.K) hxs)
  have hl':=rv.length
  rw [List.length_mapIdx] at hl
  obtain ⟨f0,f1,f2,f3,f4,f5⟩:=hf it (by simp)
  exact wpAny_pyNext_enum_end (I.ok.hd hc) h1 h2 p.isList (by simp; walk_at "o") fun h' eb=>⟨rfl,I.turned (t':=s.toks) (fun b o hb z=>eb b o hb z) f0 f1 f3 f4 f5⟩
 self:=fun _ _ _ _ _ st h=>by
  obtain ⟨⟨old,h1⟩,_⟩:=st
  exact wpAny_pyIter_enum h1 h
def oh (K:PySem.W.Frag) (ta:TA):TI:=fun σ H R=>ta σ H fun vs H1=>∃ a,vs = [.ref a] /\ (∃ xs,vw K H1 a = some (.lst xs)) /\ R (Cs K (xW K a)) H1
theorem zP {X:Cx} {elts:List Expr} {x1:Nat} {tp p pos:Pos} {a:Expr} {ta:TA} (hg:Gl X "enumerate") (hm:X.mg "enumerate" = none) (ha:PA X [a] ta) (hs:starEach [a] X.env = [(false,eval a X.env)]:=by rfl) :
  PI X (.Tuple elts x1 tp) (.Call (.Name "enumerate" p) [a] [] pos) (oh X.K ta):=by
 intro pins s σ H R I h
 refine Call_ (jG I hg hm qN (PyProof.Rows.callWith_type1 (cI (ha pos pins s σ H _ I h) fun us s1 ⟨vs,H1,I1,r1,q1⟩=>?_) hs rfl))
 obtain ⟨b,e,⟨xs,hx⟩,q⟩:=q1
 subst e
 cases r1 with
 | cons r rr =>
  cases rr
  cases r
  have hx':=aO hx
  obtain ⟨hz,its,n,rv,ho⟩:=I1.hok b _ hx'
  refine call_enumerate_1 ho fun h2 he hit hsz hk=>?_
  refine wpAny_pyIter_enum (s:={ s1 with heap:=h2 }) he ?_
  have hb:b < s1.heap.objs.size:=Heap.lt_size ho
  refine ⟨_,[s1.heap.objs.size + 1,s1.heap.objs.size],_,_,H1,rfl,I1.kept (t':=s1.toks) hk,vF b _ _ (Nat.ne_of_gt (Nat.lt_succ_self _)) (Nat.ne_of_lt (Nat.lt_succ_of_lt hb)) (Nat.ne_of_lt hb),⟨⟨_,he⟩,hit⟩,fun c hc=>?_,q⟩
  have hc':s1.heap.objs.size <= c:=by
   simp only [List.mem_cons,List.not_mem_nil,or_false] at hc
   rcases hc with z | z
   ·rw [z]
    exact Nat.le_succ _
   ·rw [z]
    exact Nat.le_refl _
  exact I1.fpOk hc' (I1.hok.fresh hc')
theorem j8 {K:PySem.W.Frag} {R:Hp -> List (List V) -> Prop} {rows:List (List V)} {g:TG} {tb:TS} {D:kP} {σ:St} {H:Hp} (Pv:Nat -> St -> Hp -> Prop) (hl:∀ i σ H,i <= rows.length -> Pv i σ H -> R H rows) (h0:Pv 0 σ H)
  (hs:∀ i t σ H p H',i < rows.length -> rows[i]? = some t -> Pv i σ H -> vw K H p = none -> aw (vw K H) (vw K H') -> vw K H' p = some (.tup t) -> g (.ref p) σ H' fun σ2 H2=>tb { D with nx:=Pv (i + 1),ct:=Pv (i + 1),bk:=D.nx } σ2 H2)
  (hd:∀ σ H,Pv rows.length σ H -> D.nx σ H):vD (Cs K R) g tb D σ H:=by
 refine ⟨fun i m σ H=>m = rows.length - i /\ i <= rows.length /\ Pv i σ H,⟨rows.length,by simp,Nat.zero_le _,h0⟩,?_⟩
 rintro i m σ H ⟨rfl,hi,p⟩
 have q:=hl i σ H hi p
 by_cases hlt:i < rows.length
 ·refine .inr ⟨⟨rows,rows[i],q,by simp [hlt]⟩,Pv (i + 1),fun σ' H' p'=>⟨rows.length - (i + 1),by walk_at "o",rfl,hlt,p'⟩,fun x H' y=>?_⟩
  obtain ⟨a,t,rfl,y1,y2,y3,y4⟩:=y
  exact hs i t σ H a H' hlt (y4 rows q) p y1 y2 y3
 ·have e:i = rows.length:=by walk_at "o"
  subst e
  exact .inl ⟨⟨rows,q,rfl⟩,hd σ H p⟩
theorem sJ {α β:Type} {f g:α -> Option β}:∀ {l:List α},(∀ x ∈ l,f x = g x) -> l.filterMap f = l.filterMap g
 | [],_=>rfl
 | a :: l,h=>by
  rw [List.filterMap_cons,List.filterMap_cons,h a (by simp),sJ fun x hx=>h x (by simp [hx])]
theorem xB (its:List Value):slicePick its.toArray none none (some (-1)) = its.reverse.toArray:=by
 unfold slicePick
 simp only [sliceBounds,Option.getD_some,List.size_toArray]
 have hn:¬ ((-1:Int) > 0):=by decide
 simp only [if_neg hn]
 unfold sliceRange
 simp only [if_neg hn]
 have e:(if ((its.length:Int) - 1 > -1) then ((its.length:Int) - 1 - -1 - -1 - 1) / (- -1) else 0).toNat = its.length:=by
  rw [show (- -1:Int) = 1 by decide,Int.ediv_one]
  split <;> walk_at "o"
 rw [e]
 congr 1
 rw [List.filterMap_map]
 apply List.ext_getElem?
 intro i
 have key:(List.range its.length).filterMap ((fun x=>its.toArray[x]?) ∘ fun (k:Nat)=>((its.length:Int) - 1 + -1 * (k:Int)).toNat) = (List.range its.length).filterMap fun k=>its.reverse[k]?:=by
  apply sJ
  intro k hk
  have hk':k < its.length:=List.mem_range.mp hk
  simp only [Function.comp]
  rw [List.getElem?_reverse hk']
  simp only [List.getElem?_toArray]
  congr 1
  walk_at "o"
 rw [key]
 congr 1
 have h2:∀ (l:List Value),(List.range l.length).filterMap (fun k=>l[k]?) = l:=fun l=>by
  induction l with
  | nil=>rfl
  | cons x xs ih =>
   rw [List.length_cons,List.range_succ_eq_map,List.filterMap_cons]
   simp only [List.getElem?_cons_zero,List.filterMap_map]
   congr 1
 have:=h2 its.reverse
 rwa [List.length_reverse] at this
def Ec (K:PySem.W.Frag) (te:TE) (ts:TO):TE:=fun σ H Q=>te σ H fun x H1=>ts σ H1 fun k H2=>k = some (-1) /\ ∃ a,x = .ref a /\ ∃ xs,vw K H2 a = some (.lst xs) /\ Nw K H2 (.lst xs.reverse) Q
theorem DG {X:Cx} {e st:Expr} {te:TE} {ts:TO} {p2 pos:Pos} (he:PE X e te) (hst:PO X (some st) ts):PE X (.Subscript e (.Slice none none (some st) p2) pos) (Ec X.K te ts):=by
 intro pins s σ H Q I h
 refine Subscript_ (cI (he pins s σ H _ I h) fun v s1 ⟨x,H1,I1,r1,q1⟩=>?_)
 refine wpAny_Slice ?_
 rw [evalPart_none]
 refine wpAny_pure (wpAny_pure (cI (hst pins s1 σ H1 _ I1 q1) fun vk s3 ⟨k,H3,I3,pk,q3⟩=>?_))
 obtain ⟨rfl,a,rfl,xs,hx,q⟩:=q3
 cases r1
 have I4:aG X pins σ H3 { s3 with heap:=s3.heap.push { cls:=.type "slice",data:=.fields #[.none,.none,vk] } }:=I3.kept (t':=s3.toks) fun b ob q=>Heap.get?_push_of_some _ q
 obtain ⟨its,r,ht,hz⟩:=I4.list (hZ.of (K:=X.K) (aO hx))
 have hlen:=r.length
 refine tail_any (ops:=[.ref a,.ref s3.heap.objs.size]) ht.isList.typeIs slot_list_getitem.lookup ?_ (by with_unfolding_all rfl)
 refine wpAny_getItem_list_slice ht.isList (Heap.IsSliceOf.new ..) .none .none pk (by decide) ?_ (by rw [List.size_toArray] <;> walk_at "o")
 rw [xB]
 generalize s3.heap.push { cls:=.type "slice",data:=.fields #[.none,.none,vk] } = hp at I4 ht
 refine ⟨.ref hp.objs.size,_,I4.laid (t':=s3.toks) (o:=.lst xs.reverse) (fun b ob q=>Heap.get?_push_of_some _ q) (Nat.le_refl _) ?_,rfl,q.ok (I4.newK (Nat.le_refl _)) (I4.hok.fresh (Nat.le_refl _))⟩
 exact ⟨by rw [List.length_reverse]; exact hz,_,0,r.reverse,Heap.get?_push_size _ rfl⟩
theorem Ck {X:Cx} {e st:Expr} {te:TE} {ts:TO} {p2 pos:Pos} (he:QE X e te) (hst:QO X (some st) ts):QE X (.Subscript e (.Slice none none (some st) p2) pos) (Ec X.K te ts):=⟨DG he.h hst.h⟩
theorem ka {X:Cx} {elts:List Expr} {x1:Nat} {tp p pos:Pos} {a:Expr} {ta:TA} (hg:Gl X "enumerate") (hm:X.mg "enumerate" = none) (ha:QA X [a] ta) (hs:starEach [a] X.env = [(false,eval a X.env)]:=by rfl) :
  QI X (.Tuple elts x1 tp) (.Call (.Name "enumerate" p) [a] [] pos) (oh X.K ta):=⟨zP hg hm ha.h hs⟩
end L2
namespace L2
open PySem PySem.Spec PyProof.Rows
def Bq (n:Nat) (q:Int × Int):Prop:=Bt n q.1 /\ Bt n q.2
theorem Bq.mono {m n:Nat} {q:Int × Int} (h:Bq m q) (hl:m <= n):Bq n q:=⟨h.1.mono hl,h.2.mono hl⟩
def ES (p q:Int × Int):Bool:=decide (p.1 * q.2 < q.1 * p.2)
def ki (p q:Int × Int):Int × Int:=lo (p.1 * q.2 + q.1 * p.2) (p.2 * q.2)
theorem xw {a b:Int} (hb:0 < b):0 < lg a b:=by
 unfold lg
 rw [if_neg (by walk_at "o")]
 have:Int.gcd a b ≠ 0:=fun e=>by
  have:=(Int.gcd_eq_zero_iff.mp e).2
  walk_at "o"
 walk_at "o"
theorem iB {a b:Int} {n:Nat} (hb:b ≠ 0) (h1:Bt n a) (h2:Bt n b):Bq n (lo a b):=by
 have e1:=eI (a:=a) hb
 have e2:=eS (a:=a) hb
 have hl:0 < (lg a b).natAbs:=by have:=yp (a:=a) hb; walk_at "o"
 constructor
 ·unfold Bt at *
  have:=Int.natAbs_mul (lo a b).1 (lg a b)
  rw [e1] at this
  have:=Nat.le_mul_of_pos_right (lo a b).1.natAbs hl
  walk_at "o"
 ·unfold Bt at *
  have:=Int.natAbs_mul (lo a b).2 (lg a b)
  rw [e2] at this
  have:=Nat.le_mul_of_pos_right (lo a b).2.natAbs hl
  walk_at "o"
theorem fM {p q:Int × Int} (hp:Fq p) (hq:Fq q):Fq (ki p q):=fG (by have:=Int.mul_pos hp.1 hq.1; walk_at "o")
theorem Bo {p q:Int × Int} (hp:Fq p) (hq:Fq q) (h0:0 < q.1):ES p (ki p q) = true:=by
 have hd:0 < p.2 * q.2:=Int.mul_pos hp.1 hq.1
 have hb:p.2 * q.2 ≠ 0:=by walk_at "o"
 have e1:=eI (a:=p.1 * q.2 + q.1 * p.2) hb
 have e2:=eS (a:=p.1 * q.2 + q.1 * p.2) hb
 have hg:=xw (a:=p.1 * q.2 + q.1 * p.2) hd
 unfold ES ki
 generalize lo (p.1 * q.2 + q.1 * p.2) (p.2 * q.2) = r at *
 generalize lg (p.1 * q.2 + q.1 * p.2) (p.2 * q.2) = g at *
 apply decide_eq_true
 apply Int.lt_of_mul_lt_mul_right _ (Int.le_of_lt hg)
 have z1:p.1 * r.2 * g = p.1 * (p.2 * q.2):=by rw [Int.mul_assoc,e2]
 have z2:r.1 * p.2 * g = (p.1 * q.2 + q.1 * p.2) * p.2:=by rw [<- e1]; rw [Int.mul_right_comm]
 rw [z1,z2]
 have hq2:0 < q.1 * p.2 * p.2:=Int.mul_pos (Int.mul_pos h0 hp.1) hp.1
 have z3:(p.1 * q.2 + q.1 * p.2) * p.2 = p.1 * (p.2 * q.2) + q.1 * p.2 * p.2:=by
  rw [Int.add_mul,Int.mul_assoc p.1 q.2 p.2,Int.mul_comm q.2 p.2]
 walk_at "o"
theorem jK {p q:Int × Int} {m n:Nat} (hp:Fq p) (hq:Fq q) (h1:Bq m p) (h2:Bq n q):Bq (m + n + 1) (ki p q):=by
 refine iB (by have:=Int.mul_pos hp.1 hq.1; walk_at "o") ?_ ?_
 ·have:=(h1.1.mul h2.2).add (h2.1.mul h1.2)
  exact this.mono (by walk_at "o")
 ·exact (h1.2.mul h2.2).mono (by walk_at "o")
def gj (G:Hp) (a:Addr) (ds:List D):Prop:=∃ xs,G a = some (.lst xs) /\ aF G ds xs
section
variable {G G':Hp} {a l:Addr} {ds:List D} {xs:List V}
theorem gj.same (h:gj G a ds) (S:aw G G'):gj G' a ds:=by
 obtain ⟨ys,h1,h2⟩:=h
 exact ⟨ys,S _ _ h1,h2.same S⟩
theorem gj.but (h:gj G a ds) (hf:D.flats ds = true) (hl:G l = some (.lst xs)) (hn:a ≠ l) (S:dI l G G'):gj G' a ds:=by
 obtain ⟨ys,h1,h2⟩:=h
 exact ⟨ys,S _ _ hn h1,aF.flat_but hl S _ _ hf h2⟩
theorem gj.len (h:gj G a ds):fA G a = some ds.length:=by
 obtain ⟨ys,h1,h2⟩:=h
 unfold fA
 rw [h1]
 simp only [h2.length]
theorem gj.ne_st {st:Addr} (h:gj G a ds) (hd:∀ i b,ds ≠ [.int i,.bl b]) (hst:cE G st):a ≠ st:=by
 rintro rfl
 obtain ⟨ys,h1,h2⟩:=h
 obtain ⟨x,b,h3,_⟩:=hst
 rw [h1] at h3
 cases h3
 exact hd _ _ (aC.lst_st h2)
theorem gj.stBut {st:Addr} (h:gj G a ds) (hf:D.flats ds = true) (hd:∀ i b,ds ≠ [.int i,.bl b]) (hst:cE G st) (S:dI st G G'):gj G' a ds:=by
 obtain ⟨x,b,h3,h4⟩:=id hst
 exact h.but hf h3 (h.ne_st hd hst) S
end
theorem kN {K:PySem.W.Frag} {H:Hp} {p:Addr} {xs:List V} (h:vw K H p = some (.lst xs)):Ev K "list" (.ref p) H:=.inl ⟨rfl,xs,.of (aO h)⟩
theorem gj.ty {K:PySem.W.Frag} {H:Hp} {p:Addr} {ds:List D} (h:gj (vw K H) p ds):Ev K "list" (.ref p) H:=by
 obtain ⟨xs,h,_⟩:=h
 exact kN h
abbrev kB:=(Int × Int) × (Int × Int)
def rl (c:kB):D:=.tup [fr c.1,fr c.2]
theorem dW:∀ (cs:List kB),D.flats (cs.map rl) = true
 | []=>by simp [D.flats]
 | c :: cs=>by
  rw [List.map_cons]
  unfold D.flats
  rw [dW cs]
  simp [rl,D.flat,D.flats,aY]
theorem jD (cs:List kB):∀ i b,cs.map rl ≠ [.int i,.bl b]:=fun i b e=>by
 cases cs with
 | nil=>cases e
 | cons c cs =>
  rw [List.map_cons] at e
  have:=(List.cons.inj e).1
  unfold rl at this
  cases this
theorem aC.spt_at {H:Hp} {c:kB} {v:V} (h:aC H (rl c) v):∃ a x y,v = .ref a /\ H a = some (.tup [x,y]) /\ aC H (fr c.1) x /\ aC H (fr c.2) y:=by
 obtain ⟨a,xs,rfl,ha,r⟩:=h.tup_at
 obtain ⟨d1,d2,x1,x2,e1,rfl,r1,r2⟩:=r.pair (by rw [r.length]; rfl)
 cases e1
 exact ⟨a,x1,x2,rfl,ha,r1,r2⟩
theorem aC.mk_spt {H:Hp} {c:kB} {a:Addr} {x y:V} (h:H a = some (.tup [x,y])) (h1:aC H (fr c.1) x) (h2:aC H (fr c.2) y):aC H (rl c) (.ref a):=.mk_tup h (.mk_cons h1 (.mk_cons h2 .mk_nil))
end L2
namespace L2
open PySem PySem.Spec PyProof.Rows
section
variable {K:PySem.W.Frag} {σ:St} {H0:Hp} {t u:TE} {ta:TA} {b c:Bool} {m n:Nat}
variable {st:Addr}
end
end L2
namespace L2
open PySem PySem.Spec PyProof.Rows
section
variable {prog:Program} {w:World} {A:Around} {E:Value -> Shared -> Prop} {s:Shared}
theorem yJ {it t:Addr} {i:Nat} {its:Array Value} {x:Value} {Q:Value -> Shared -> Prop} (a:s.heap.IsTupleIter it t i) (b:s.heap.IsTuple t its) (c:its[i]? = some x)
  (q:∀ g,g.IsTupleIter it t (i + 1) -> Heap.SameBut it s.heap g -> Q x { s with heap:=g }):wpAny (model prog w) A (Builtin.SmallTypes.nextOf (.ref it)) Q E s:=by
 obtain ⟨u,a1,a2,a3⟩:=id a
 obtain ⟨v,b1,_,bn,b2⟩:=b
 unfold Builtin.SmallTypes.nextOf
 refine wpAny_bind (wpAny_callSpecial?_slot (name:=Str.ofString "__next__") a.typeIs F.slot_tuple_iterator_next (wpAny_call_entry F.slot_tuple_iterator_next a.typeIs F.entry_tuple_iterator_next ?_ (F.args_tuple_iterator_next_1 _)))
 show wpAny _ _ (field (.ref it) 0 >>= _) _ _ s; refine wpAny_bind (wpAny_field a1 a3 (x:=.ref t) rfl ?_)
 show wpAny _ _ (if (Value.ref t == Value.none) = true then _ else _) _ _ s; rw [if_neg (show ¬ ((Value.ref t == Value.none) = true) from Bool.false_ne_true)]
 show wpAny _ _ (field (.ref it) 1 >>= _) _ _ s; refine wpAny_bind (wpAny_field a1 a3 (x:=.int i 0) rfl ?_)
 show wpAny _ _ (seqItems? (.ref t) >>= _) _ _ s; refine wpAny_bind (wpAny_seqItems b1 b2 ?_)
 simp only [Int.toNat_natCast,c]
 refine wpAny_bind (wpAny_setField a1 a3 (by simp) (wpAny_pure ⟨x,rfl,wpAny_pure (q _ ?_ (Heap.SameBut.update ..))⟩))
 exact ⟨_,Heap.get?_update_self _ a1 (Obj.isFreed_of_fields (Obj.data_mapFields a3 _)),(Obj.cls_mapFields ..).trans a2,by rw [Obj.data_mapFields a3]; simp [rawInt]⟩
theorem qQ {it t:Addr} {i:Nat} {its:Array Value} {Q:Value -> Shared -> Prop} (hh:A.handled = none) (a:s.heap.IsTupleIter it t i) (b:s.heap.IsTuple t its) (c:its[i]? = none)
  (q:∀ g e,Heap.ExtBut it s.heap g -> (∃ o,g.get? e = some o /\ o.cls = .type "StopIteration") -> E (.ref e) { s with heap:=g }):wpAny (model prog w) A (Builtin.SmallTypes.nextOf (.ref it)) Q E s:=by
 obtain ⟨u,a1,a2,a3⟩:=id a
 obtain ⟨v,b1,_,bn,b2⟩:=b
 unfold Builtin.SmallTypes.nextOf
 refine wpAny_bind (wpAny_callSpecial?_slot (name:=Str.ofString "__next__") a.typeIs F.slot_tuple_iterator_next (wpAny_call_entry F.slot_tuple_iterator_next a.typeIs F.entry_tuple_iterator_next ?_ (F.args_tuple_iterator_next_1 _)))
 show wpAny _ _ (field (.ref it) 0 >>= _) _ _ s; refine wpAny_bind (wpAny_field a1 a3 (x:=.ref t) rfl ?_)
 show wpAny _ _ (if (Value.ref t == Value.none) = true then _ else _) _ _ s; rw [if_neg (show ¬ ((Value.ref t == Value.none) = true) from Bool.false_ne_true)]
 show wpAny _ _ (field (.ref it) 1 >>= _) _ _ s; refine wpAny_bind (wpAny_field a1 a3 (x:=.int i 0) rfl ?_)
 show wpAny _ _ (seqItems? (.ref t) >>= _) _ _ s; refine wpAny_bind (wpAny_seqItems b1 b2 ?_)
 simp only [Int.toNat_natCast,c]
 refine wpAny_bind (wpAny_rule (wpAny_bind (wpAny_setField a1 a3 (by simp) ?_))); show wpAny _ _ (newExc (.type "StopIteration") [] >>= _) _ _ _
 refine wpAny_bind ?_; simp only [newExc,newTuple]; refine wpAny_bind (wpAny_newObj_type ?_ (by size_fits))
 refine wpAny_bind (m:=firstArgMember _ _) (wpAny_of_eq (a:=Value.none) (by first | rfl | (simp only [firstArgMember]; rfl)) ?_); refine wpAny_newObj_type ?_ (by size_fits)
 simp only [raiseNew]; refine wpAny_bind (wpAny_handled ?_)
 (first | rw [show A.in1.handled = none from hh] | rw [hh]); refine wpAny_bind (wpAny_pure (wpAny_throw ?_))
 exact q _ _ (((Heap.SameBut.update ..).extBut.push _).push _) ⟨_,Heap.get?_push_size _ rfl,rfl⟩
end
theorem wu {prog:Program} {w:World} {A:Around} (hh:A.handled = none) (it l:Addr) (hne:l ≠ it) (its:Array Value) :
  Draws prog w A it [it,l] its.size (fun i v=>its[i]? = some v) (fun i h=>h.IsTupleIter it l i /\ h.IsTuple l its) where
 live:=fun _ _ st=>let ⟨o,ho,_⟩:=st.1; ⟨o,ho⟩
 frame:=fun _ _ _ st hk=>⟨(let ⟨o,ho,r⟩:=st.1; ⟨o,hk it (by simp) o ho,r⟩),(let ⟨o,ho,r⟩:=st.2; ⟨o,hk l (by simp) o ho,r⟩)⟩
 item:=fun i s Q E hi st q=>yJ st.1 st.2 (x:=its[i]) (by simp [hi]) fun g a b=>q _ g s.toks (by simp [hi]) ⟨a,st.2.extBut b.extBut hne⟩ b
 done:=fun s Q E st q=>qQ hh st.1 st.2 (by simp) q
section
variable {prog:Program} {w:World} {A:Around} {E:Value -> Shared -> Prop} {s:Shared} {z TI TO i1 i2:Addr} {f1 f2:List Addr} {n1 n2 k:Nat} {P1 P2:Nat -> Value -> Prop} {T1 T2:Nat -> Heap -> Prop} {a b:Value}
structure lI (z TI TO i1 i2:Addr) (f1 f2:List Addr):Prop where
 tiz:TI ≠ z
 toz:TO ≠ z
 tito:TI ≠ TO
 ti1:TI ≠ i1
 ti2:TI ≠ i2
 to1:TO ≠ i1
 to2:TO ≠ i2
 z1:z ≠ i1
 z2:z ≠ i2
 n12:i1 ≠ i2
 zf1:z ∉ f1
 zf2:z ∉ f2
 tf1:TO ∉ f1
 tf2:TO ∉ f2
 if1:i2 ∉ f1
 if2:i1 ∉ f2
theorem we {Q:Value -> Shared -> Prop} (D1:Draws prog w A i1 f1 n1 P1 T1) (D2:Draws prog w A i2 f2 n2 P2 T2) (Z:lI z TI TO i1 i2 f1 f2) (hz:IsZip s.heap z TI TO .none) (hTI:IsPair s.heap TI (.ref i1) (.ref i2)) (hTO:IsPair s.heap TO a b)
  (h1:T1 k s.heap) (h2:T2 k s.heap) (k1:k < n1) (k2:k < n2)
  (hQ:∀ x y g tk,P1 k x -> P2 k y -> IsZip g z TI TO (rawInt s.heap.objs.size) -> IsPair g TO x y -> T1 (k + 1) g -> T2 (k + 1) g -> IsPair g s.heap.objs.size x y -> g.objs.size = s.heap.objs.size + 1 ->
   (∀ c o,c ∉ [z,TO,i1,i2] -> s.heap.get? c = some o -> g.get? c = some o) -> Q (.ref s.heap.objs.size) { s with heap:=g,toks:=tk }) :
  wpAny (model prog w) A (Builtin.«zip.__next__» ⟨[.ref z],[]⟩) (fun fin s'=>∃ v,fin = .done (.ret v) /\ Q v s') E s:=by
 show wpAny _ _ (field (.ref z) 2 >>= _) _ _ _; refine wpAny_bind (wpAny_field hz rfl (x:=.bool false) rfl ?_)
 show wpAny _ _ (field (.ref z) 3 >>= _) _ _ _; refine wpAny_bind (wpAny_field hz rfl (x:=.ref TI) rfl ?_)
 refine wpAny_bind (wpAny_seqItems hTI rfl ?_); show wpAny _ _ (Builtin.SmallTypes.ownedTupleIsFree (.ref z) >>= _) _ _ _
 refine wpAny_bind ?_; unfold Builtin.SmallTypes.ownedTupleIsFree
 refine wpAny_bind (wpAny_field hz rfl (x:=.none) rfl (wpAny_pure ?_)); simp only [if_true]
 refine wpAny_bind (wpAny_rule ?_); refine wpAny_bind (wpAny_field hz rfl (x:=.ref TO) rfl ?_)
 refine wpAny_bind (wpAny_setField_rec hz (by simp) fun g1 hz1 s1=>?_)
 replace hz1:IsZip g1 z TI TO .ellipsis:=hz1
 refine wpAny_bind ?_; simp only [List.zipIdx_cons,List.zipIdx_nil,List.forIn_cons,List.forIn_nil]
 refine wpAny_bind (wpAny_bind (wpAny_onRaise ?_)); show wpAny _ _ (Builtin.SmallTypes.nextOf (.ref i1) >>= _) _ _ _
 refine wpAny_bind (D1.item k _ _ _ k1 (D1.frame k _ _ h1 fun c hc o e=>s1.extBut _ _ (fun z'=>Z.zf1 (z' ▸ hc)) e) fun x g2 tk2 p1 t1 s2=>wpAny_pure ?_)
 replace s2:Heap.SameBut i1 g1 g2:=s2
 have hTO2:IsPair g2 TO a b:=s2.extBut _ _ Z.to1 (s1.extBut _ _ Z.toz hTO)
 refine wpAny_bind (wpAny_seqItems hTO2 rfl ?_); refine wpAny_bind (wpAny_updateSeq_pair hTO2 fun g3 hTO3 s3=>?_)
 replace hTO3:IsPair g3 TO x b:=hTO3
 replace s3:Heap.SameBut TO g2 g3:=s3
 refine wpAny_bind (wpAny_letGo (wpAny_pure ?_)); refine wpAny_bind (wpAny_bind (wpAny_onRaise ?_))
 show wpAny _ _ (Builtin.SmallTypes.nextOf (.ref i2) >>= _) _ _ _
 have t2':T2 k g3:=D2.frame k _ _ h2 fun c hc o e=>s3.extBut _ _ (fun z'=>Z.tf2 (z' ▸ hc)) (s2.extBut _ _ (fun z'=>Z.if2 (z' ▸ hc)) (s1.extBut _ _ (fun z'=>Z.zf2 (z' ▸ hc)) e))
 refine wpAny_bind (D2.item k _ _ _ k2 t2' fun y g4 tk4 p2 t2 s4=>wpAny_pure ?_)
 replace s4:Heap.SameBut i2 g3 g4:=s4
 have hTO4:IsPair g4 TO x b:=s4.extBut _ _ Z.to2 hTO3
 refine wpAny_bind (wpAny_seqItems hTO4 rfl ?_); refine wpAny_bind (wpAny_updateSeq_pair hTO4 fun g5 hTO5 s5=>?_)
 replace hTO5:IsPair g5 TO x y:=hTO5
 replace s5:Heap.SameBut TO g4 g5:=s5
 refine wpAny_bind (wpAny_letGo (wpAny_pure (wpAny_pure ?_))); refine wpAny_bind (wpAny_seqItems hTO5 rfl ?_)
 refine wpAny_bind (wpAny_newTuple ?_)
 have hsz:g5.objs.size = s.heap.objs.size:=by rw [s5.1,s4.1,s3.1,s2.1,s1.1]
 have hz5:IsZip g5 z TI TO .ellipsis:=s5.extBut _ _ Z.toz.symm (s4.extBut _ _ Z.z2 (s3.extBut _ _ Z.toz.symm (s2.extBut _ _ Z.z1 hz1)))
 have k5:∀ c o,c ∉ [z,TO,i1,i2] -> s.heap.get? c = some o -> g5.get? c = some o:=fun c o hc e=>by
  simp only [List.mem_cons,List.not_mem_nil,or_false,not_or] at hc
  exact s5.extBut _ _ hc.2.1 (s4.extBut _ _ hc.2.2.2 (s3.extBut _ _ hc.2.1 (s2.extBut _ _ hc.2.2.1 (s1.extBut _ _ hc.1 e))))
 have t15:T1 (k + 1) g5:=D1.frame _ _ _ t1 fun c hc o e=>s5.extBut _ _ (fun z'=>Z.tf1 (z' ▸ hc)) (s4.extBut _ _ (fun z'=>Z.if1 (z' ▸ hc)) (s3.extBut _ _ (fun z'=>Z.tf1 (z' ▸ hc)) e))
 have t25:T2 (k + 1) g5:=D2.frame _ _ _ t2 fun c hc o e=>s5.extBut _ _ (fun z'=>Z.tf2 (z' ▸ hc)) e
 have zlt:z < g5.objs.size:=Heap.lt_size hz5
 show wpAny _ _ (Builtin.SmallTypes.ownedTupleHandOut (.ref z) (.ref g5.objs.size) >>= _) _ _ _; refine wpAny_bind ?_
 unfold Builtin.SmallTypes.ownedTupleHandOut
 have hz6:IsZip (g5.push { cls:=.type "tuple",data:=.seq #[x,y] }) z TI TO .ellipsis:=Heap.get?_push_of_some _ hz5
 refine wpAny_bind (wpAny_setField_rec hz6 (by simp) fun g7 hz7 s7=>?_)
 replace hz7:IsZip g7 z TI TO (rawInt g5.objs.size):=hz7
 refine wpAny_setField_rec hz7 (by simp) fun g8 hz8 s8=>?_
 replace hz8:IsZip g8 z TI TO (rawInt g5.objs.size):=hz8
 have up:∀ c o,c ≠ z -> g5.get? c = some o -> g8.get? c = some o:=fun c o hc e=>s8.extBut _ _ hc (s7.extBut _ _ hc (Heap.get?_push_of_some _ e))
 have hT8:IsPair g8 g5.objs.size x y:=s8.extBut _ _ (Nat.ne_of_gt zlt) (s7.extBut _ _ (Nat.ne_of_gt zlt) (Heap.get?_push_size _ rfl))
 have hn8:g8.objs.size = g5.objs.size + 1:=by rw [s8.1,s7.1,Heap.size_push]
 rw [hsz] at hz8 hT8 hn8
 refine wpAny_pure ⟨_,rfl,?_⟩; show Q (.ref g5.objs.size) _; rw [hsz]
 exact hQ x y g8 _ p1 p2 hz8 (up _ _ Z.toz hTO5) (D1.frame _ _ _ t15 fun c hc o e=>up c o (fun z'=>Z.zf1 (z' ▸ hc)) e) (D2.frame _ _ _ t25 fun c hc o e=>up c o (fun z'=>Z.zf2 (z' ▸ hc)) e) hT8 hn8
  fun c o hc e=>up c o (fun z'=>hc (by simp [z'])) (k5 c o hc e)
theorem xb {Q:Fin -> Shared -> Prop} (D1:Draws prog w A i1 f1 n1 P1 T1) (D2:Draws prog w A i2 f2 n2 P2 T2) (Z:lI z TI TO i1 i2 f1 f2) (hz:IsZip s.heap z TI TO .none) (hTI:IsPair s.heap TI (.ref i1) (.ref i2)) (hTO:IsPair s.heap TO a b)
  (h1:T1 k s.heap) (h2:T2 k s.heap) (hk:k = n1 \/ (k < n1 /\ k = n2))
  (hE:∀ g tk e,(∀ c o,c ∉ [z,TO,i1,i2] -> s.heap.get? c = some o -> g.get? c = some o) -> (∃ o,g.get? e = some o /\ o.cls = .type "StopIteration") -> E (.ref e) { s with heap:=g,toks:=tk }) :
  wpAny (model prog w) A (Builtin.«zip.__next__» ⟨[.ref z],[]⟩) Q E s:=by
 show wpAny _ _ (field (.ref z) 2 >>= _) _ _ _; refine wpAny_bind (wpAny_field hz rfl (x:=.bool false) rfl ?_)
 show wpAny _ _ (field (.ref z) 3 >>= _) _ _ _; refine wpAny_bind (wpAny_field hz rfl (x:=.ref TI) rfl ?_)
 refine wpAny_bind (wpAny_seqItems hTI rfl ?_); show wpAny _ _ (Builtin.SmallTypes.ownedTupleIsFree (.ref z) >>= _) _ _ _
 refine wpAny_bind ?_; unfold Builtin.SmallTypes.ownedTupleIsFree
 refine wpAny_bind (wpAny_field hz rfl (x:=.none) rfl (wpAny_pure ?_)); simp only [if_true]
 refine wpAny_bind (wpAny_rule ?_); refine wpAny_bind (wpAny_field hz rfl (x:=.ref TO) rfl ?_)
 refine wpAny_bind (wpAny_setField_rec hz (by simp) fun g1 hz1 s1=>?_)
 replace hz1:IsZip g1 z TI TO .ellipsis:=hz1
 refine wpAny_bind ?_; simp only [List.zipIdx_cons,List.zipIdx_nil,List.forIn_cons,List.forIn_nil]
 refine wpAny_bind (wpAny_bind (wpAny_onRaise ?_)); show wpAny _ _ (Builtin.SmallTypes.nextOf (.ref i1) >>= _) _ _ _
 have t1':T1 k g1:=D1.frame k _ _ h1 fun c hc o e=>s1.extBut _ _ (fun z'=>Z.zf1 (z' ▸ hc)) e
 rcases hk with rfl | ⟨k1,rfl⟩
 ·refine wpAny_bind (D1.done _ _ _ t1' fun g2 e s2 he=>?_)
  obtain ⟨oe,he1,he2⟩:=he
  have hz2:IsZip g2 z TI TO .ellipsis:=s2 _ _ Z.z1 hz1
  have hez:e ≠ z:=fun x=>by subst x; rw [hz2] at he1; cases he1; simp at he2
  refine wpAny_setField_rec hz2 (by simp) fun g3 _ s3=>hE g3 _ e (fun c o hc x=>?_) ⟨oe,s3.extBut _ _ hez he1,he2⟩
  simp only [List.mem_cons,List.not_mem_nil,or_false,not_or] at hc
  exact s3.extBut _ _ hc.1 (s2 _ _ hc.2.2.1 (s1.extBut _ _ hc.1 x))
 ·refine wpAny_bind (D1.item k _ _ _ k1 t1' fun x g2 tk2 p1 t1 s2=>wpAny_pure ?_)
  replace s2:Heap.SameBut i1 g1 g2:=s2
  have hTO2:IsPair g2 TO a b:=s2.extBut _ _ Z.to1 (s1.extBut _ _ Z.toz hTO)
  refine wpAny_bind (wpAny_seqItems hTO2 rfl ?_); refine wpAny_bind (wpAny_updateSeq_pair hTO2 fun g3 hTO3 s3=>?_)
  replace s3:Heap.SameBut TO g2 g3:=s3
  refine wpAny_bind (wpAny_letGo (wpAny_pure ?_)); refine wpAny_bind (wpAny_bind (wpAny_onRaise ?_))
  show wpAny _ _ (Builtin.SmallTypes.nextOf (.ref i2) >>= _) _ _ _
  have t2':T2 k g3:=D2.frame k _ _ h2 fun c hc o e=>s3.extBut _ _ (fun z'=>Z.tf2 (z' ▸ hc)) (s2.extBut _ _ (fun z'=>Z.if2 (z' ▸ hc)) (s1.extBut _ _ (fun z'=>Z.zf2 (z' ▸ hc)) e))
  refine wpAny_bind (D2.done _ _ _ t2' fun g4 e s4 he=>?_)
  obtain ⟨oe,he1,he2⟩:=he
  have hz4:IsZip g4 z TI TO .ellipsis:=s4 _ _ Z.z2 (s3.extBut _ _ Z.toz.symm (s2.extBut _ _ Z.z1 hz1))
  have hez:e ≠ z:=fun x=>by subst x; rw [hz4] at he1; cases he1; simp at he2
  refine wpAny_setField_rec hz4 (by simp) fun g5 _ s5=>hE g5 _ e (fun c o hc x=>?_) ⟨oe,s5.extBut _ _ hez he1,he2⟩
  simp only [List.mem_cons,List.not_mem_nil,or_false,not_or] at hc
  exact s5.extBut _ _ hc.1 (s4 _ _ hc.2.2.2 (s3.extBut _ _ hc.2.1 (s2.extBut _ _ hc.2.2.1 (s1.extBut _ _ hc.1 x))))
end
def il:Bool -> Heap -> Addr -> Addr -> Nat -> Prop
 | true,h,it,l,i=>h.IsListIter it l i
 | false,h,it,l,i=>h.IsTupleIter it l i
def eP:Bool -> Heap -> Addr -> Array Value -> Prop
 | true,h,l,its=>h.IsList l its
 | false,h,l,its=>h.IsTuple l its
def qe (K:PySem.W.Frag) (b:Bool) (H:Hp) (l:Addr) (xs:List V):Prop:=vw K H l = some (if b = true then .lst xs else .tup xs)
theorem jj {prog:Program} {w:World} {A:Around} (hh:A.handled = none) (b:Bool) (it l:Addr) (hne:l ≠ it) (its:Array Value) :
  Draws prog w A it [it,l] its.size (fun i v=>its[i]? = some v) (fun i h=>il b h it l i /\ eP b h l its):=by
 cases b with
 | true=>exact Draws.list hh it l hne its
 | false=>exact wu hh it l hne its
theorem il.at {b:Bool} {h h':Heap} {it l:Addr} {i:Nat} (x:il b h it l i) (e:∀ o,h.get? it = some o -> h'.get? it = some o):il b h' it l i:=by
 cases b with
 | true=>obtain ⟨o,ho,r⟩:=x; exact ⟨o,e o ho,r⟩
 | false=>obtain ⟨o,ho,r⟩:=x; exact ⟨o,e o ho,r⟩
theorem il.obj {b:Bool} {h:Heap} {it l:Addr} {i:Nat} (x:il b h it l i):∃ o,h.get? it = some o /\ ∀ v,o.data ≠ .cell v:=by
 cases b with
 | true=>obtain ⟨o,ho,_,d⟩:=x; exact ⟨o,ho,fun v z=>by rw [d] at z; cases z⟩
 | false=>obtain ⟨o,ho,_,d⟩:=x; exact ⟨o,ho,fun v z=>by rw [d] at z; cases z⟩
theorem eP.obj {b:Bool} {h:Heap} {l:Addr} {its:Array Value} (x:eP b h l its):∃ o,h.get? l = some o:=by
 cases b with
 | true=>obtain ⟨o,ho,_⟩:=x; exact ⟨o,ho⟩
 | false=>obtain ⟨o,ho,_⟩:=x; exact ⟨o,ho⟩
theorem aG.src {X:Cx} {pins:List (Addr × Obj)} {σ:St} {H:Hp} {s:Shared} (I:aG X pins σ H s) {b:Bool} {l:Addr} {xs:List V} (h:qe X.K b H l xs):∃ its:List Value,aX xs its /\ eP b s.heap l its.toArray /\ xs.length <= sizeLine:=by
 cases b with
 | true =>
  obtain ⟨its,rv,p,hz⟩:=I.list (hZ.of (K:=X.K) (aO h))
  exact ⟨its,rv,p.isList,hz⟩
 | false =>
  obtain ⟨its,rv,p,hz⟩:=I.tuple (hV h)
  exact ⟨its,rv,p,hz⟩
theorem qe.inj {K:PySem.W.Frag} {b:Bool} {H:Hp} {l:Addr} {xs ys:List V} (h:qe K b H l xs) (g:qe K b H l ys):xs = ys:=by
 unfold qe at h g
 rw [h] at g
 cases b <;> cases g <;> rfl
def EZ (K:PySem.W.Frag) (b1 b2:Bool) (l1 l2:Addr):Hp -> List (List V) -> Prop:=fun H ys=>∃ xs zs,qe K b1 H l1 xs /\ qe K b2 H l2 zs /\ ys = List.zipWith (fun x z=>[x,z]) xs zs
end L2
namespace L2
open PySem PySem.Spec PyProof.Rows
section
variable {prog:Program} {w:World} {A:Around} {E:Value -> Shared -> Prop} {s:Shared} {z TI TO i1 i2 l1 l2:Addr} {k:Nat} {b1 b2:Bool} {u1 u2:Array Value} {a b:Value}
theorem GD {n:Nat} (h1 : @LT.lt Nat _ l1 n) (h2 : @LT.lt Nat _ l2 n):lI (n + 4) (n + 2) (n + 3) n (n + 1) [n,l1] [n + 1,l2]:=by
 constructor <;> (try simp only [List.mem_cons,List.not_mem_nil,or_false,not_or]) <;> (try constructor) <;> (intro e; have e':(_:Nat) = _:=e; walk_at "o")
theorem tS {Q:Option Value -> Shared -> Prop} (hh:A.handled = none) (Z:lI z TI TO i1 i2 [i1,l1] [i2,l2]) (n1:l1 ≠ i1) (n2:l2 ≠ i2) (hz:IsZip s.heap z TI TO .none) (hTI:IsPair s.heap TI (.ref i1) (.ref i2)) (hTO:IsPair s.heap TO a b)
  (h1:il b1 s.heap i1 l1 k) (h2:il b2 s.heap i2 l2 k) (p1:eP b1 s.heap l1 u1) (p2:eP b2 s.heap l2 u2) (k1:k < u1.size) (k2:k < u2.size)
  (hQ:∀ x y g tk,u1[k]? = some x -> u2[k]? = some y -> IsZip g z TI TO (rawInt s.heap.objs.size) -> IsPair g TO x y -> il b1 g i1 l1 (k + 1) -> il b2 g i2 l2 (k + 1) -> IsPair g s.heap.objs.size x y -> g.objs.size = s.heap.objs.size + 1 ->
   (∀ c o,c ∉ [z,TO,i1,i2] -> s.heap.get? c = some o -> g.get? c = some o) -> Q (some (.ref s.heap.objs.size)) { s with heap:=g,toks:=tk }):wpAny (model prog w) A (pyNext (.ref z)) Q E s:=by
 have hT:s.TypeIs (.ref z) "zip":=⟨_,hz,rfl⟩
 unfold pyNext
 refine wpAny_bind (wpAny_attempt (wpAny_callSpecial?_slot (name:=Str.ofString "__next__") hT F.slot_zip_next (wpAny_call_entry F.slot_zip_next hT F.entry_zip_next ?_ (F.args_zip_next_1 _))))
 have D1:Draws prog w A.in1 i1 [i1,l1] u1.size _ _:=jj (A:=A.in1) hh b1 i1 l1 n1 u1
 have D2:Draws prog w A.in1 i2 [i2,l2] u2.size _ _:=jj (A:=A.in1) hh b2 i2 l2 n2 u2
 exact we D1 D2 Z hz hTI hTO ⟨h1,p1⟩ ⟨h2,p2⟩ k1 k2 fun x y g tk e1 e2 c1 c2 c3 c4 c5 c6 c7=>wpAny_pure (hQ x y g tk e1 e2 c1 c2 c3.1 c4.1 c5 c6 c7)
theorem wp {Q:Option Value -> Shared -> Prop} (hh:A.handled = none) (Z:lI z TI TO i1 i2 [i1,l1] [i2,l2]) (n1:l1 ≠ i1) (n2:l2 ≠ i2) (hz:IsZip s.heap z TI TO .none) (hTI:IsPair s.heap TI (.ref i1) (.ref i2)) (hTO:IsPair s.heap TO a b)
  (h1:il b1 s.heap i1 l1 k) (h2:il b2 s.heap i2 l2 k) (p1:eP b1 s.heap l1 u1) (p2:eP b2 s.heap l2 u2) (hk:k = u1.size \/ (k < u1.size /\ k = u2.size))
  (hQ:∀ g tk,(∀ c o,c ∉ [z,TO,i1,i2] -> s.heap.get? c = some o -> g.get? c = some o) -> Q none { s with heap:=g,toks:=tk }):wpAny (model prog w) A (pyNext (.ref z)) Q E s:=by
 have hT:s.TypeIs (.ref z) "zip":=⟨_,hz,rfl⟩
 unfold pyNext
 refine wpAny_bind (wpAny_attempt (wpAny_callSpecial?_slot (name:=Str.ofString "__next__") hT F.slot_zip_next (wpAny_call_entry F.slot_zip_next hT F.entry_zip_next ?_ (F.args_zip_next_1 _))))
 have D1:Draws prog w A.in1 i1 [i1,l1] u1.size _ _:=jj (A:=A.in1) hh b1 i1 l1 n1 u1
 have D2:Draws prog w A.in1 i2 [i2,l2] u2.size _ _:=jj (A:=A.in1) hh b2 i2 l2 n2 u2
 refine xb D1 D2 Z hz hTI hTO ⟨h1,p1⟩ ⟨h2,p2⟩ hk fun g tk e hk he=>?_
 obtain ⟨o,ho,hc⟩:=he
 refine wpAny_bind (wpAny_isInstance (T:="StopIteration") (b:=true) ⟨o,ho,hc⟩ isSubtype_stop (wpAny_pure (hQ _ _ hk)))
end
theorem aG.turnL {X:Cx} {pins:List (Addr × Obj)} {σ:St} {H:Hp} {s:Shared} {h':Heap} {t':Nat} {ch:List Addr} (I:aG X pins σ H s) (k:∀ b o,b ∉ ch -> s.heap.get? b = some o -> h'.get? b = some o) (hf:∀ b ∈ ch,lM X pins H b):aG X pins σ H { s with heap:=h',toks:=t' }:=by
 have nch:∀ c v,H c = some v -> c ∉ ch:=fun c v z hc=>by
  rw [(hf c hc).1] at z
  cases z
 refine I.step (g':=s.gens) (d':=s.drawn) (ch:=ch) (fun b hb=>?_) (fun b o _ _ hc e _=>k b o hc e) (fun b o _ _ hc e _=>⟨o.slots,k b o hc e⟩) (fun b o _ e n=>n)
  (fun b o hc e=>⟨o,k b o hc e⟩) (fun b ys e=>e) (fun b o u e=>e) (fun b ps e=>⟨#[],by rw [e]; simp⟩) (fun m hm=>?_) (fun b u e=>?_) I.bare
 ·obtain ⟨_,f1,_,f3,f4,f5⟩:=hf b hb
  exact ⟨f3,f1,f4,f5⟩
 ·obtain ⟨o,es,ep,ho,r⟩:=hm
  exact ⟨o,es,ep,k _ o (fun z=>(hf _ z).2.1 rfl) ho,r⟩
 ·refine (I.hok b u e).stay (fun c v hc q=>k c v ?_ q) (fun c q=>q) fun c ys q=>q
  rcases hc with z | z
  ·rw [z]
   exact nch b u e
  ·exact nch c _ z
theorem yC {P:Program} {w:World} {K:PySem.W.Frag} {elts:List Expr} {x1:Nat} {pos:Pos} {b1 b2:Bool} (z TI TO i1 i2 l1 l2:Addr) (Z:lI z TI TO i1 i2 [i1,l1] [i2,l2]) (n1:l1 ≠ i1) (n2:l2 ≠ i2) :
  wr P w K (.Tuple elts x1 pos) (Cs K (EZ K b1 b2 l1 l2)) [z,TO,i1,i2,TI] z (fun i h=>IsZip h z TI TO .none /\ IsPair h TI (.ref i1) (.ref i2) /\ (∃ a b,IsPair h TO a b) /\ il b1 h i1 l1 i /\ il b2 h i2 l2 i) where
 mem:=by simp
 obj:=fun i h st b hb=>by
  obtain ⟨h1,h2,⟨a,c,h3⟩,h4,h5⟩:=st
  simp only [List.mem_cons,List.not_mem_nil,or_false] at hb
  rcases hb with rfl | rfl | rfl | rfl | rfl
  ·exact ⟨_,h1,fun v e=>by cases e⟩
  ·exact ⟨_,h3,fun v e=>by cases e⟩
  ·exact h4.obj
  ·exact h5.obj
  ·exact ⟨_,h2,fun v e=>by cases e⟩
 keep:=fun i h h' st k=>by
  obtain ⟨h1,h2,⟨a,c,h3⟩,h4,h5⟩:=st
  exact ⟨k z (by simp) _ h1,k TI (by simp) _ h2,⟨a,c,k TO (by simp) _ h3⟩,h4.at fun o e=>k i1 (by simp) o e,h5.at fun o e=>k i2 (by simp) o e⟩
 item:=by
  intro X hP hw hK hc i pins s σ H E I hf st hg
  subst hP hw hK
  obtain ⟨h1,h2,⟨a,c,h3⟩,h4,h5⟩:=st
  obtain ⟨ys,t,⟨xs,zs,q1,q2,rfl⟩,ht⟩:=hg
  have hlt:i < xs.length /\ i < zs.length:=by
   have:=(List.getElem?_eq_some_iff.mp ht).1
   simp at this
   walk_at "o"
  obtain ⟨u1,r1,p1,z1⟩:=I.src q1
  obtain ⟨u2,r2,p2,z2⟩:=I.src q2
  have e1:=r1.length
  have e2:=r2.length
  have tx:t = [xs[i]'hlt.1,zs[i]'hlt.2]:=by
   rw [List.getElem?_zipWith,List.getElem?_eq_getElem hlt.1,List.getElem?_eq_getElem hlt.2] at ht
   exact (Option.some.inj ht).symm
  refine tS (I.ok.hd hc) Z n1 n2 h1 h2 h3 h4 h5 p1 p2 (by simp; walk_at "o") (by simp; walk_at "o") fun x y g tk ex ey c1 c2 c3 c4 c5 c6 c7=>⟨_,rfl,?_⟩
  refine wpAny_letOwnedTupleGo_zip (s:={ s with heap:=g,toks:=tk }) c1 fun g2 d1 d2=>?_
  replace d2:Heap.SameBut z g g2:=d2
  have zs':z < s.heap.objs.size:=Heap.lt_size h1
  have rx:bO (xs[i]'hlt.1) x:=by
   obtain ⟨u,hu,ru⟩:=r1.get (List.getElem?_eq_getElem hlt.1)
   rw [List.getElem?_toArray,hu] at ex
   cases ex
   exact ru
  have ry:bO (zs[i]'hlt.2) y:=by
   obtain ⟨u,hu,ru⟩:=r2.get (List.getElem?_eq_getElem hlt.2)
   rw [List.getElem?_toArray,hu] at ey
   cases ey
   exact ru
  have hf4:∀ b ∈ [z,TO,i1,i2],lM X pins H b:=fun b hb=>hf b (by simp only [List.mem_cons,List.not_mem_nil,or_false] at hb ⊢; rcases hb with e | e | e | e <;> simp [e])
  have I4:aG X pins σ (upd H s.heap.objs.size (.tup t)) { s with heap:=g2,toks:=tk }:=by
   rw [tx]
   exact I.turnT (its:=[x,y]) (fun b o hb e=>d2.extBut _ _ (fun e'=>hb (by simp [e'])) (c7 b o hb e)) hf4 (Nat.le_refl _) (show 2 <= sizeLine by decide) (.cons rx (.cons ry .nil)) ⟨_,d2.extBut _ _ (Nat.ne_of_gt zs') c5,rfl,_,rfl⟩
  have fr:=I.hok.fresh (Nat.le_refl s.heap.objs.size)
  have nk:=I.newK (Nat.le_refl s.heap.objs.size)
  have hTI2:IsPair g2 TI (.ref i1) (.ref i2):=d2.extBut _ _ Z.tiz (c7 TI _ (by simp [Z.tiz,Z.tito,Z.ti1,Z.ti2]) h2)
  refine ⟨.ref s.heap.objs.size,_,I4,rfl,⟨_,_,rfl,by rw [dy nk]; exact fr,jV (aw.upd fr),by rw [dy nk]; exact bI,?_⟩,⟨d1,hTI2,⟨_,_,d2.extBut _ _ Z.toz c2⟩,c3.at fun o e=>d2.extBut _ _ Z.z1.symm e,c4.at fun o e=>d2.extBut _ _ Z.z2.symm e⟩,fun b hb=>?_⟩
  ·rintro ys ⟨xs',zs',q1',q2',rfl⟩
   cases q1.inj q1'
   cases q2.inj q2'
   exact ht
  ·have:b < s.heap.objs.size:=by
    simp only [List.mem_cons,List.not_mem_nil,or_false] at hb
    rcases hb with rfl | rfl | rfl | rfl | rfl
    ·exact zs'
    ·exact Heap.lt_size h3
    ·obtain ⟨_,e,_⟩:=h4.obj; exact Heap.lt_size e
    ·obtain ⟨_,e,_⟩:=h5.obj; exact Heap.lt_size e
    ·exact Heap.lt_size h2
   rw [aQ (Nat.ne_of_lt this)]
   exact (hf b hb).1
 done:=by
  intro X hP hw hK hc i pins s σ H E I hf st hg
  subst hP hw hK
  obtain ⟨h1,h2,⟨a,c,h3⟩,h4,h5⟩:=st
  obtain ⟨ys,⟨xs,zs,q1,q2,rfl⟩,hl⟩:=hg
  obtain ⟨u1,r1,p1,z1⟩:=I.src q1
  obtain ⟨u2,r2,p2,z2⟩:=I.src q2
  have e1:=r1.length
  have e2:=r2.length
  have hk:i = u1.toArray.size \/ (i < u1.toArray.size /\ i = u2.toArray.size):=by
   rw [List.length_zipWith] at hl
   simp only [List.size_toArray]
   walk_at "o"
  have hf4:∀ b ∈ [z,TO,i1,i2],lM X pins H b:=fun b hb=>hf b (by simp only [List.mem_cons,List.not_mem_nil,or_false] at hb ⊢; rcases hb with e | e | e | e <;> simp [e])
  exact wp (I.ok.hd hc) Z n1 n2 h1 h2 h3 h4 h5 p1 p2 hk fun g tk k=>⟨rfl,I.turnL k hf4⟩
 self:=fun _ _ _ _ _ st h=>wpAny_pyIter_zip st.1 h
end L2
namespace L2
open PySem PySem.Spec PyProof.Rows
def BN (b:Bool) (l:Addr):Obj:=match b with
 | true=>{ cls:=.type "list_iterator",data:=.fields #[.ref l,.int 0 0] }
 | false=>{ cls:=.type "tuple_iterator",data:=.fields #[.ref l,.int 0 0] }
section
variable {prog:Program} {w:World} {A:Around} {E:Value -> Shared -> Prop} {s:Shared}
theorem uz {b:Bool} {l:Addr} {u:Array Value} {Q:Value -> Shared -> Prop} (h:eP b s.heap l u) (q:Q (.ref s.heap.objs.size) { s with heap:=s.heap.push (BN b l) }):wpAny (model prog w) A (pyIter (.ref l)) Q E s:=by
 cases b with
 | true=>exact wpAny_pyIter_list h q
 | false=>exact wpAny_pyIter_tuple h q
end
theorem eP.push {b:Bool} {h:Heap} {l:Addr} {u:Array Value} (x:eP b h l u) (o:Obj):eP b (h.push o) l u:=by
 cases b with
 | true=>obtain ⟨v,e,r⟩:=x; exact ⟨v,Heap.get?_push_of_some _ e,r⟩
 | false=>obtain ⟨v,e,r⟩:=x; exact ⟨v,Heap.get?_push_of_some _ e,r⟩
theorem il.new {b:Bool} {h:Heap} {it l:Addr} (e:h.get? it = some (BN b l)):il b h it l 0:=by
 cases b with
 | true=>exact ⟨_,e,rfl,rfl⟩
 | false=>exact ⟨_,e,rfl,rfl⟩
abbrev FK (h:Heap) (b1:Bool) (l1:Addr):Heap:=h.push (BN b1 l1)
abbrev FQ (h:Heap) (b1 b2:Bool) (l1 l2:Addr):Heap:=(FK h b1 l1).push (BN b2 l2)
abbrev FM (h:Heap) (b1 b2:Bool) (l1 l2:Addr):Heap:=(FQ h b1 b2 l1 l2).push { cls:=.type "tuple",data:=.seq #[.ref h.objs.size,.ref (FK h b1 l1).objs.size] }
abbrev FE (h:Heap) (b1 b2:Bool) (l1 l2:Addr):Heap:=(FM h b1 b2 l1 l2).push { cls:=.type "tuple",data:=.seq #[.none,.none] }
abbrev Eo (h:Heap) (b1 b2:Bool) (l1 l2:Addr):Heap:=(FE h b1 b2 l1 l2).push { cls:=.type "zip",data:=.fields #[.none,.bool false,.bool false,.ref (FQ h b1 b2 l1 l2).objs.size,.ref (FM h b1 b2 l1 l2).objs.size] }
theorem tQ (b1 b2:Bool) (l1 l2:Addr) (u1 u2:Array Value) :
  Meets (Builtin.«zip.__new__» ⟨[.type "zip",.ref l1,.ref l2],[]⟩) (fun _ R s=>eP b1 s.heap l1 u1 /\ eP b2 s.heap l2 u2 /\ R (.ok (.ret (.ref (FE s.heap b1 b2 l1 l2).objs.size))) { s with heap:=Eo s.heap b1 b2 l1 l2 }) :=
 .of_wp fun prog w A R s h=>by
  obtain ⟨hp,g,d,tk,os⟩:=s; obtain ⟨q1,q2,h⟩:=h
  have hsub:=sub_zip
  have y1:eP b1 (Shared.heap ⟨hp,g,d,tk,os⟩) l1 u1:=q1
  have y2:eP b2 (Shared.heap ⟨hp.push (BN b1 l1),g,d,tk,os⟩) l2 u2:=eP.push q2 _
  wp_walk using uz y1,uz y2
  exact ⟨_,rfl,h⟩
section
variable {prog:Program} {w:World} {A:Around} {E:Value -> Shared -> Prop} {s:Shared}
theorem Fo {b1 b2:Bool} {l1 l2:Addr} {u1 u2:Array Value} {Q:Value -> Shared -> Prop} (q1:eP b1 s.heap l1 u1) (q2:eP b2 s.heap l2 u2)
  (h:∀ g,IsZip g (s.heap.objs.size + 4) (s.heap.objs.size + 2) (s.heap.objs.size + 3) .none -> IsPair g (s.heap.objs.size + 2) (.ref s.heap.objs.size) (.ref (s.heap.objs.size + 1)) -> IsPair g (s.heap.objs.size + 3) .none .none ->
   il b1 g s.heap.objs.size l1 0 -> il b2 g (s.heap.objs.size + 1) l2 0 -> (∀ c o,s.heap.get? c = some o -> g.get? c = some o) -> Q (.ref (s.heap.objs.size + 4)) { s with heap:=g }) :
  wpAny (model prog w) A (call (.type "zip") [.ref l1,.ref l2]) Q E s:=by
 refine callType_new F.called_zip (by decide) (F.typeCall_zip_2 _ _) (F.newCall_zip_2 _ _) (fun obj=>F.args_object_init_3 obj _ _) F.entry_zip_new (tQ b1 b2 l1 l2 u1 u2) ⟨q1,q2,?_⟩
 have v1:(FK s.heap b1 l1).objs.size = s.heap.objs.size + 1:=Heap.size_push ..
 have v2:(FQ s.heap b1 b2 l1 l2).objs.size = s.heap.objs.size + 2:=by rw [Heap.size_push,v1]
 have v3:(FM s.heap b1 b2 l1 l2).objs.size = s.heap.objs.size + 3:=by rw [Heap.size_push,v2]
 have v4:(FE s.heap b1 b2 l1 l2).objs.size = s.heap.objs.size + 4:=by rw [Heap.size_push,v3]
 have g5:(Eo s.heap b1 b2 l1 l2).get? (FE s.heap b1 b2 l1 l2).objs.size = some _:=Heap.get?_push_size _ rfl
 have g4:(Eo s.heap b1 b2 l1 l2).get? (FM s.heap b1 b2 l1 l2).objs.size = some _:=Heap.get?_push_of_some _ (Heap.get?_push_size _ rfl)
 have g3:(Eo s.heap b1 b2 l1 l2).get? (FQ s.heap b1 b2 l1 l2).objs.size = some _:=Heap.get?_push_of_some _ (Heap.get?_push_of_some _ (Heap.get?_push_size _ rfl))
 have nf:∀ b l,(BN b l).isFreed = false:=fun b l=>by cases b <;> rfl
 have g2:(Eo s.heap b1 b2 l1 l2).get? (FK s.heap b1 l1).objs.size = some (BN b2 l2):=Heap.get?_push_of_some _ (Heap.get?_push_of_some _ (Heap.get?_push_of_some _ (Heap.get?_push_size _ (nf _ _))))
 have g1:(Eo s.heap b1 b2 l1 l2).get? s.heap.objs.size = some (BN b1 l1):=Heap.get?_push_of_some _ (Heap.get?_push_of_some _ (Heap.get?_push_of_some _ (Heap.get?_push_of_some _ (Heap.get?_push_size _ (nf _ _)))))
 show _ /\ _
 rw [v2,v3,v4] at g5
 rw [v1,v2] at g3
 rw [v3] at g4
 rw [v1] at g2
 rw [v4]
 exact ⟨⟨_,g5,rfl⟩,h _ g5 g3 g4 (.new g1) (.new g2) fun c o x=>Heap.get?_push_of_some _ (Heap.get?_push_of_some _ (Heap.get?_push_of_some _ (Heap.get?_push_of_some _ (Heap.get?_push_of_some _ x))))⟩
end
def A0 (K:PySem.W.Frag) (ta:TA):TI:=fun σ H R=>ta σ H fun vs H1=>∃ a b,vs = [.ref a,.ref b] /\ ∃ c d,(∃ xs,qe K c H1 a xs) /\ (∃ ys,qe K d H1 b ys) /\ R (Cs K (EZ K c d a b)) H1
theorem Cd {X:Cx} {elts:List Expr} {x1:Nat} {tp p pos:Pos} {a b:Expr} {ta:TA} (hg:Gl X "zip") (hm:X.mg "zip" = none) (ha:PA X [a,b] ta) (hs:starEach [a,b] X.env = [(false,eval a X.env),(false,eval b X.env)]:=by rfl) (hs2:starEach [b] X.env = [(false,eval b X.env)]:=by rfl) :
  PI X (.Tuple elts x1 tp) (.Call (.Name "zip" p) [a,b] [] pos) (A0 X.K ta):=by
 intro pins s σ H R I h
 refine Call_ (jG I hg hm Dd (PyProof.Rows.callWith_type1 (cI (ha pos pins s σ H _ I h) fun us s1 ⟨vs,H1,I1,r1,q1⟩=>?_) (by rw [hs,hs2]) (by rw [hs2]; rfl)))
 obtain ⟨l1,l2,e,c,d,⟨xs,hx⟩,⟨ys,hy⟩,q⟩:=q1
 subst e
 cases r1 with
 | cons r rr =>
  cases rr with
  | cons r' rr =>
   cases rr
   cases r
   cases r'
   obtain ⟨u1,t1,p1,_⟩:=I1.src hx
   obtain ⟨u2,t2,p2,_⟩:=I1.src hy
   refine Fo p1 p2 fun g c1 c2 c3 c4 c5 k=>?_
   refine wpAny_pyIter_zip (s:={ s1 with heap:=g }) c1 ?_
   have m1:l1 < s1.heap.objs.size:=by obtain ⟨_,e⟩:=p1.obj; exact Heap.lt_size e
   have m2:l2 < s1.heap.objs.size:=by obtain ⟨_,e⟩:=p2.obj; exact Heap.lt_size e
   refine ⟨_,_,_,_,H1,rfl,I1.kept (t':=s1.toks) k,yC _ _ _ _ _ l1 l2 (GD m1 m2) (Nat.ne_of_lt m1) (Nat.ne_of_lt (Nat.lt_succ_of_lt m2)),⟨c1,c2,⟨_,_,c3⟩,c4,c5⟩,fun f hf=>?_,q⟩
   have hf':s1.heap.objs.size <= f:=by
    simp only [List.mem_cons,List.not_mem_nil,or_false] at hf
    rcases hf with z | z | z | z | z <;> rw [z]
    ·exact Nat.le_add_right _ 4
    ·exact Nat.le_add_right _ 3
    ·exact Nat.le_refl _
    ·exact Nat.le_add_right _ 1
    ·exact Nat.le_add_right _ 2
   exact I1.fpOk hf' (I1.hok.fresh hf')
theorem wO {X:Cx} {elts:List Expr} {x1:Nat} {tp p pos:Pos} {a b:Expr} {ta:TA} (hg:Gl X "zip") (hm:X.mg "zip" = none) (ha:QA X [a,b] ta) (hs:starEach [a,b] X.env = [(false,eval a X.env),(false,eval b X.env)]:=by rfl) (hs2:starEach [b] X.env = [(false,eval b X.env)]:=by rfl) :
  QI X (.Tuple elts x1 tp) (.Call (.Name "zip" p) [a,b] [] pos) (A0 X.K ta):=⟨Cd hg hm ha.h hs hs2⟩
end L2
namespace L2
open PySem PySem.Spec PyProof.Rows
section
variable {X:Cx} {pins:List (Addr × Obj)} {σ:St} {H:Hp} {s:Shared}
end
def AD (K:PySem.W.Frag) (a:Addr) (σr:St) (Pv:List V -> Hp -> Prop):St -> Hp -> Prop:=fun σ H=>(∃ y z,σ = y :: z :: σr) /\ ∃ xs,vw K H a = some (.lst xs) /\ Pv xs H
theorem oX {K:PySem.W.Frag} {R:Hp -> List (List V) -> Prop} {ps:List (V × V)} {tif:TT} {te:TE} {a:Addr} {x0 x1:Option V} {σr:St} {H0:Hp} {Q:Hp -> Prop} (Pv:Nat -> List V -> Hp -> Prop)
  (hl:∀ i xs H,i <= ps.length -> vw K H a = some (.lst xs) -> Pv i xs H -> R H (ps.map fun p=>[p.1,p.2])) (ha:vw K H0 a = some (.lst [])) (h0:Pv 0 [] H0)
  (hs:∀ i x y xs H H',i < ps.length -> ps[i]? = some (x,y) -> vw K H' a = some (.lst xs) -> Pv i xs H -> aw (vw K H) (vw K H') -> tif (some x :: some y :: σr) H' fun b H3=>if b = true then te (some x :: some y :: σr) H3 (Dh K a (AD K a σr (Pv (i + 1)) (some x :: some y :: σr))) else AD K a σr (Pv (i + 1)) (some x :: some y :: σr) H3)
  (hd:∀ xs H,vw K H a = some (.lst xs) -> Pv ps.length xs H -> Q H):mX K (Cs K R) (jr K 2 (jz (gm 0) (jz (gm 1) tX))) tif te a (x0 :: x1 :: σr) H0 Q:=by
 refine ⟨fun i m σ H=>m = ps.length - i /\ i <= ps.length /\ AD K a σr (Pv i) σ H,⟨ps.length,by simp,Nat.zero_le _,⟨_,_,rfl⟩,_,ha,h0⟩,?_⟩
 rintro i m σ H ⟨rfl,hi,⟨y,z,rfl⟩,xs,hxs,p⟩
 have q:=hl i xs H hi hxs p
 by_cases hlt:i < ps.length
 ·refine .inr ⟨⟨_,_,q,by rw [List.getElem?_map,List.getElem?_eq_getElem hlt]; rfl⟩,AD K a σr (Pv (i + 1)),fun σ' H' p'=>⟨ps.length - (i + 1),by walk_at "o",rfl,hlt,p'⟩,fun x H' y=>?_⟩
  obtain ⟨b,t,rfl,y1,y2,y3,y4⟩:=y
  have e:=y4 _ q
  rw [List.getElem?_map,List.getElem?_eq_getElem hlt] at e
  cases e
  exact ⟨b,rfl,_,y3,rfl,_,_,rfl,_,_,rfl,rfl,hs i _ _ xs H H' hlt (List.getElem?_eq_getElem hlt) (y2 _ _ hxs) p y2⟩
 ·have e:i = ps.length:=by walk_at "o"
  subst e
  exact .inl ⟨⟨_,q,by simp⟩,hd xs H hxs p⟩
theorem Dh.mk2 {K:PySem.W.Frag} {a:Addr} {σr:St} {Pv:List V -> Hp -> Prop} {x y:Option V} {v:V} {H:Hp} {xs:List V} (h:vw K H a = some (.lst xs)) (hz:xs.length < sizeLine)
  (q:∀ H5,dI a (vw K H) (vw K H5) -> vw K H5 a = some (.lst (xs ++ [v])) -> Pv (xs ++ [v]) H5):Dh K a (AD K a σr Pv (x :: y :: σr)) v H:=⟨xs,h,hz,fun H5 B h5=>⟨⟨_,_,rfl⟩,_,h5,q H5 B h5⟩⟩
theorem rD {xs ys:List V}:List.zipWith (fun x z=>[x,z]) xs ys = (xs.zip ys).map fun p=>[p.1,p.2]:=by
 rw [List.zip,List.map_zipWith]
end L2
namespace L2
open PySem PySem.Spec PyProof.Rows
def wv (q:Int × Int):Rat:=(q.1:Rat) / (q.2:Rat)
theorem aj {b:Int} (h:b ≠ 0):(b:Rat) ≠ 0:=by simpa using h
theorem gg {a b:Int} (hb:b ≠ 0):wv (lo a b) = (a:Rat) / (b:Rat):=by
 have e1:=eI (a:=a) hb
 have e2:=eS (a:=a) hb
 have hg:=aj (yp (a:=a) hb)
 have hd:(lo a b).2 ≠ 0:=by have:=(fG (a:=a) hb).1; walk_at "o"
 have hd':=aj hd
 have c1:((lo a b).1:Rat) * (lg a b:Rat) = (a:Rat):=by
  have:=congrArg (fun i:Int=>(i:Rat)) e1
  simpa using this
 have c2:((lo a b).2:Rat) * (lg a b:Rat) = (b:Rat):=by
  have:=congrArg (fun i:Int=>(i:Rat)) e2
  simpa using this
 unfold wv
 rw [<- c1,<- c2]
 grind
theorem vm {a b c:Int} (h:b ∣ a * c) (hg:Int.gcd a b = 1):b ∣ c:=by
 have h1:b.natAbs ∣ a.natAbs * c.natAbs:=by
  rw [<- Int.natAbs_mul]
  exact Int.natAbs_dvd_natAbs.mpr h
 have h2:Nat.Coprime b.natAbs a.natAbs:=by
  unfold Nat.Coprime
  rw [Nat.gcd_comm]
  exact hg
 exact Int.natAbs_dvd_natAbs.mp (Nat.Coprime.dvd_of_dvd_mul_left h2 h1)
theorem gu {p q:Int × Int} (hp:Fq p) (hq:Fq q) (h:wv p = wv q):p = q:=by
 have h1:=aj (show p.2 ≠ 0 by have:=hp.1; walk_at "o")
 have h2:=aj (show q.2 ≠ 0 by have:=hq.1; walk_at "o")
 have e:p.1 * q.2 = q.1 * p.2:=by
  unfold wv at h
  have:(p.1:Rat) * (q.2:Rat) = (q.1:Rat) * (p.2:Rat):=by grind
  have h3:((p.1 * q.2:Int):Rat) = ((q.1 * p.2:Int):Rat):=by simpa using this
  exact Rat.intCast_inj.mp h3
 have d1:p.2 ∣ q.2:=by
  have:p.2 ∣ p.1 * q.2:=⟨q.1,by rw [e,Int.mul_comm]⟩
  exact vm this hp.2
 have d2:q.2 ∣ p.2:=by
  have:q.2 ∣ q.1 * p.2:=⟨p.1,by rw [<- e,Int.mul_comm]⟩
  exact vm this hq.2
 have e2:p.2 = q.2:=Int.dvd_antisymm (Int.le_of_lt hp.1) (Int.le_of_lt hq.1) d1 d2
 rw [e2] at e
 have e1:p.1 = q.1:=Int.eq_of_mul_eq_mul_right (by have:=hq.1; walk_at "o") e
 exact Prod.ext e1 e2
theorem iD {p q:Int × Int} (hp:p.2 ≠ 0) (hq:q.2 ≠ 0):wv (ki p q) = wv p + wv q:=by
 unfold ki
 rw [gg (Int.mul_ne_zero hp hq)]
 unfold wv
 have h1:=aj hp
 have h2:=aj hq
 simp only [Rat.intCast_add,Rat.intCast_mul]
 grind
def ow (p q:Int × Int):Int × Int:=lo (p.1 * q.1) (p.2 * q.2)
theorem iO {p q:Int × Int} (hp:Fq p) (hq:Fq q):Fq (ow p q):=fG (by have:=Int.mul_pos hp.1 hq.1; walk_at "o")
theorem kr {p q:Int × Int} {m n:Nat} (hp:Fq p) (hq:Fq q) (h1:Bq m p) (h2:Bq n q):Bq (m + n) (ow p q):=iB (by have:=Int.mul_pos hp.1 hq.1; walk_at "o") (h1.1.mul h2.1) (h1.2.mul h2.2)
theorem kI {p q:Int × Int} (hp:p.2 ≠ 0) (hq:q.2 ≠ 0):wv (ow p q) = wv p * wv q:=by
 unfold ow
 rw [gg (Int.mul_ne_zero hp hq)]
 unfold wv
 have h1:=aj hp
 have h2:=aj hq
 simp only [Rat.intCast_mul]
 grind
section
variable {X:Cx}
def j4:List Int -> Int
 | []=>0
 | a :: as=>a + j4 as
theorem nA (as bs:List Int):j4 (as ++ bs) = j4 as + j4 bs:=by
 induction as with
 | nil=>simp [j4]
 | cons a as ih=>simp only [List.cons_append,j4,ih]; walk_at "o"
theorem lT (ns:List Int):∀ k,k <= ns.length -> preSum (fun i=>ns.getD i 0) k = j4 (ns.take k)
 | 0,_=>rfl
 | k + 1,h=>by
  have hk:k < ns.length:=by walk_at "o"
  show preSum _ k + ns.getD k 0 = _
  rw [lT ns k (by walk_at "o"),List.take_add_one,List.getElem?_eq_getElem hk,nA]
  simp [j4,List.getD_eq_getElem?_getD,List.getElem?_eq_getElem hk]
theorem rF:∀ {ns:List Int} {us:List Value},aX (ns.map V.int) us -> ∀ {i:Nat} {v:Value},us[i]? = some v -> ∃ t,v = .int (ns.getD i 0) t
 | [],us,h,i,v,e=>by cases h; cases e
 | n :: ns,us,h,i,v,e=>by
  cases h with
  | cons r rr =>
   cases i with
   | zero =>
    cases e
    obtain ⟨t,rfl⟩:=r
    exact ⟨t,rfl⟩
   | succ i =>
    obtain ⟨t,q⟩:=rF rr (i:=i) e
    exact ⟨t,by rw [q]; simp⟩
theorem pK (hh:X.calm = true):dF X (.builtin "sum") (fun xs H Q=>∃ p,xs = [.ref p] /\ ∃ ns:List Int,vw X.K H p = some (.lst (ns.map V.int)) /\ Q (.int (j4 ns)) H):=by
 intro pins s σ H xs us Q I r h
 obtain ⟨p,rfl,ns,hp,q⟩:=h
 cases r with
 | cons r1 rr =>
  cases rr
  cases r1
  obtain ⟨its,rv,pl,hz⟩:=I.list (hZ.of (K:=X.K) (aO hp))
  have hl:=rv.length
  rw [List.length_map] at hl
  have hlt:p < s.heap.objs.size:=by obtain ⟨o,n,e1,_⟩:=pl; exact Heap.lt_size e1
  refine call_sum_walkG (wpAny_pyIter_list pl.isList ⟨s.heap.objs.size,_,_,_,_,_,fun i=>ns.getD i 0,rfl,Walks.list (show X.A.in1.handled = none from I.ok.hd hh) _ p (Nat.ne_of_lt hlt) _,⟨⟨_,Heap.get?_push_size _ rfl,rfl,rfl⟩,pl.isList.push _⟩,?_,fun i v hv=>rF rv (by simpa using hv),fun h' tk t' hk=>?_⟩)
  ·intro b hb
   show b < (s.heap.push _).objs.size
   rw [Heap.size_push]
   simp only [List.mem_cons,List.not_mem_nil,or_false] at hb
   rcases hb with e | e
   ·rw [e]; exact Nat.lt_succ_self _
   ·rw [e]; exact Nat.lt_succ_of_lt hlt
  ·refine ⟨.int (j4 ns),H,I.kept fun b o e=>hk b o (fun z=>?_) (Heap.get?_push_of_some _ e),⟨t',?_⟩,q⟩
   ·rw [List.mem_singleton.mp z] at e
    exact absurd (Heap.lt_size e) (Nat.lt_irrefl _)
   ·rw [List.size_toArray,<- hl,lT ns _ (Nat.le_refl _),List.take_length]
theorem u8:DL X .Mult (fun x y H Q=>∃ i j,x = .int i /\ y = .int j /\ IntMulOk i j /\ Q (.int (i * j)) H):=by
 intro pins s σ H x y v u Q I r1 r2 h
 obtain ⟨i,j,rfl,rfl,m,q⟩:=h
 obtain ⟨t,rfl⟩:=r1
 obtain ⟨t',rfl⟩:=r2
 exact imul_int ⟨.int _,H,I.tok _,⟨_,rfl⟩,q⟩ m
theorem jQ {st:Stmt}:QS X st nE:=⟨yE⟩
theorem ym:bootBuiltins "sum" = some (.builtin "sum"):=by decide +kernel
end
theorem m4 {K:PySem.W.Frag} {J:It} {its:List V} {ps:List (V × V)} {tif:TT} {te:TE} {a:Addr} {x0 x1:Option V} {σr:St} {H0:Hp} {Q:Hp -> Prop} (Pv:Nat -> List V -> Hp -> Prop) (hlen:its.length = ps.length)
  (hl:∀ i xs H,i <= its.length -> vw K H a = some (.lst xs) -> Pv i xs H -> oR J H its /\ ∀ (j:Nat) (x y:V),ps[j]? = some (x,y) -> ∃ p:Addr,its[j]? = some (V.ref p) /\ vw K H p = some (HO.tup [x,y])) (ha:vw K H0 a = some (.lst [])) (h0:Pv 0 [] H0)
  (hs:∀ i x y xs H,i < ps.length -> ps[i]? = some (x,y) -> vw K H a = some (.lst xs) -> Pv i xs H -> tif (some x :: some y :: σr) H fun b H3=>if b = true then te (some x :: some y :: σr) H3 (Dh K a (AD K a σr (Pv (i + 1)) (some x :: some y :: σr))) else AD K a σr (Pv (i + 1)) (some x :: some y :: σr) H3)
  (hd:∀ xs H,vw K H a = some (.lst xs) -> Pv ps.length xs H -> Q H):mX K J (jr K 2 (jz (gm 0) (jz (gm 1) tX))) tif te a (x0 :: x1 :: σr) H0 Q:=by
 refine ⟨fun i m σ H=>m = ps.length - i /\ i <= ps.length /\ AD K a σr (Pv i) σ H,⟨ps.length,by simp,Nat.zero_le _,⟨_,_,rfl⟩,_,ha,h0⟩,?_⟩
 rintro i m σ H ⟨rfl,hi,⟨y,z,rfl⟩,xs,hxs,p⟩
 obtain ⟨⟨q1,q2,q3⟩,q4⟩:=hl i xs H (by walk_at "o") hxs p
 by_cases hlt:i < ps.length
 ·refine .inr ⟨q1 i (by walk_at "o"),AD K a σr (Pv (i + 1)),fun σ' H' p'=>⟨ps.length - (i + 1),by walk_at "o",rfl,hlt,p'⟩,fun x H' y=>?_⟩
  obtain ⟨e,y2⟩:=q2 i x H' (by walk_at "o") y
  subst e
  obtain ⟨b,e1,e2⟩:=q4 i _ _ (List.getElem?_eq_getElem hlt)
  rw [e1] at y2
  cases y2
  exact ⟨b,rfl,_,e2,rfl,_,_,rfl,_,_,rfl,rfl,hs i _ _ xs _ hlt (List.getElem?_eq_getElem hlt) hxs p⟩
 ·have e:i = ps.length:=by walk_at "o"
  subst e
  exact .inl ⟨hlen ▸ q3,hd xs H hxs p⟩
theorem nl {g q:Int} (hg:g ≠ 0) (h:g ∣ q):q.fdiv g * g = q:=by
 obtain ⟨m,rfl⟩:=h
 rw [Int.mul_comm g m,Int.mul_fdiv_cancel m hg]
theorem uT {a b:Int} (ha:0 <= a) (hb:1 <= b):a <= a * b:=by
 have:=Int.mul_le_mul_of_nonneg_left hb ha
 walk_at "o"
theorem sL {b q:Int} (hb:0 < b) (hq:0 < q):0 < q.fdiv (Int.gcd b q:Int) /\ q.fdiv (Int.gcd b q:Int) <= q /\ q ∣ b * q.fdiv (Int.gcd b q:Int) /\ (Int.gcd b q:Int) ≠ 0 /\ (Int.gcd b q:Int) <= q:=by
 have hg:(Int.gcd b q:Int) ≠ 0:=by
  have:Int.gcd b q ≠ 0:=fun e=>by
   have:=(Int.gcd_eq_zero_iff.mp e).2
   walk_at "o"
  walk_at "o"
 have hg0:0 < (Int.gcd b q:Int):=by walk_at "o"
 have e:=nl hg (Int.gcd_dvd_right b q)
 have hle:(Int.gcd b q:Int) <= q:=Int.le_of_dvd hq (Int.gcd_dvd_right b q)
 generalize q.fdiv (Int.gcd b q:Int) = c at e
 obtain ⟨m,hm⟩:=Int.gcd_dvd_left b q
 have hc:0 < c:=by
  refine Int.pos_of_mul_pos_left ?_ hg0
  rw [e]
  exact hq
 refine ⟨hc,?_,⟨m,?_⟩,hg,hle⟩
 ·rw [<- e]
  exact uT (by walk_at "o") (by walk_at "o")
 ·rw [<- e]
  generalize (Int.gcd b q:Int) = g at *
  rw [hm]
  rw [Int.mul_right_comm,Int.mul_comm c g]
theorem Bt.le {n:Nat} {x y:Int} (h:Bt n y) (h0:0 <= x) (hl:x <= y):Bt n x:=by
 unfold Bt at *
 walk_at "o"
theorem rT {q:Int × Int} {D:Int} {m n:Nat} (hq:Fq q) (hd:q.2 ∣ D) (hD:0 < D) (b1:Bt m D) (b2:Bt n q.1):((q.1 * D.fdiv q.2:Int):Rat) = wv q * (D:Rat) /\ Bt (m + n) (q.1 * D.fdiv q.2) /\ Bt m (D.fdiv q.2):=by
 have h2:q.2 ≠ 0:=by have:=hq.1; walk_at "o"
 have e:=nl h2 hd
 have hp:0 < D.fdiv q.2:=by
  refine Int.pos_of_mul_pos_left ?_ hq.1
  rw [e]
  exact hD
 have hle:D.fdiv q.2 <= D:=by
  have:=uT (Int.le_of_lt hp) (show 1 <= q.2 by have:=hq.1; walk_at "o")
  rw [e] at this
  exact this
 have bm:=b1.le (Int.le_of_lt hp) hle
 refine ⟨?_,(b2.mul bm).mono (by walk_at "o"),bm⟩
 generalize D.fdiv q.2 = c at *
 have h3:=aj h2
 rw [<- e]
 unfold wv
 simp only [Rat.intCast_mul]
 grind
end L2
namespace L2
open PySem PySem.Spec PyProof.Rows
def cT (x:Rat):Nat -> Rat
 | 0=>1
 | k + 1=>cT x k * x
def io:List kB -> Nat -> Rat
 | [],_=>0
 | c :: cs,k=>wv c.2 * cT (wv c.1) k + io cs k
theorem mZ {G:Hp}:∀ {cs:List kB} {xs:List V},aF G (cs.map rl) xs -> ∃ ps:List (V × V),ps.length = cs.length /\ (∀ (j:Nat) (x y:V),ps[j]? = some (x,y) -> ∃ p:Addr,xs[j]? = some (V.ref p) /\ G p = some (HO.tup [x,y])) /\
  aF G ((cs.map (·.1)).map fr) (ps.map (·.1)) /\ aF G ((cs.map (·.2)).map fr) (ps.map (·.2))
 | [],xs,h=>⟨[],rfl,by simp,.mk_nil,.mk_nil⟩
 | c :: cs,xs,h=>by
  obtain ⟨x,r,rfl,h1,h2⟩:=aF.cons_at h
  obtain ⟨ps,e1,e2,e3,e4⟩:=mZ h2
  obtain ⟨a,u,v,rfl,ha,r1,r2⟩:=h1.spt_at
  refine ⟨(u,v) :: ps,by simp [e1],fun j x y e=>?_,.mk_cons r1 e3,.mk_cons r2 e4⟩
  cases j with
  | zero=>cases e; exact ⟨a,rfl,ha⟩
  | succ j=>exact e2 j x y e
theorem kJ (x:Rat) (k:Nat):cT x (k + 1) = cT x k * x:=rfl
end L2
namespace L2
open PySem PySem.Spec PyProof.Rows
def lB:List (Int × Int) -> Rat
 | []=>0
 | q :: qs=>wv q + lB qs
theorem wK (as bs:List (Int × Int)):lB (as ++ bs) = lB as + lB bs:=by
 induction as with
 | nil=>show lB bs = 0 + lB bs; grind
 | cons a as ih=>show wv a + lB (as ++ bs) = wv a + lB as + lB bs; rw [ih]; grind
theorem rW {k:Nat}:∀ {cs:List kB} {qs:List (Int × Int)},qs.length = cs.length -> (∀ (i:Nat) (q:Int × Int) (c:kB),qs[i]? = some q -> cs[i]? = some c -> wv q = wv c.2 * cT (wv c.1) k) -> lB qs = io cs k
 | [],[],_,_=>rfl
 | [],_ :: _,h,_=>by simp at h
 | _ :: _,[],h,_=>by simp at h
 | c :: cs,q :: qs,h,hw=>by
  show wv q + lB qs = wv c.2 * cT (wv c.1) k + io cs k
  rw [rW (cs:=cs) (qs:=qs) (by simpa using h) fun i n d e1 e2=>hw (i + 1) n d (by simpa using e1) (by simpa using e2),hw 0 q c rfl rfl]
end L2
namespace L2
open PySem PySem.Spec PyProof.Rows
theorem xN {d:D} (h:d.cmp):C4 d d = true:=SeqAt.eqv_refl _ h.1
end L2
namespace L2
open PySem PySem.Spec PyProof.Rows
def F5 (K:PySem.W.Frag) (a:Addr) (n:Nat):It :=
 ⟨fun i H=>∃ xs,hZ K H a xs /\ xs.length = n /\ i < n,fun i H x H'=>H' = H /\ ∀ xs,hZ K H a xs -> xs[n - 1 - i]? = some x,fun i _=>i = n⟩
theorem wW {P:Program} {w:World} {K:PySem.W.Frag} {tg:Expr} (a it:Addr) (n:Nat):wr P w K tg (F5 K a n) [it] it (fun i h=>h.IsRevIter it a ((n:Int) - 1 - (i:Int))) where
 mem:=by simp
 obj:=fun i h st b hb=>by
  have e:b = it:=by simpa using hb
  subst e
  obtain ⟨o,e,c,d⟩:=st
  exact ⟨o,e,fun v z=>by rw [d] at z; cases z⟩
 keep:=fun i h h' st k=>st.at fun o e=>k it (by simp) o e
 item:=by
  intro X hP hw hK hc i pins s σ H E I hf st hg
  subst hP hw hK
  obtain ⟨xs,hq,hl,hi⟩:=hg
  obtain ⟨its,rv,p,hz⟩:=I.list hq
  have hx:xs[n - 1 - i]? = some (xs[n - 1 - i]'(by walk_at "o")):=List.getElem?_eq_getElem (by walk_at "o")
  obtain ⟨u,hu,ru⟩:=rv.get hx
  obtain ⟨f0,f1,f2,f3,f4,f5⟩:=hf it (by simp)
  have e:(n:Int) - 1 - (i:Int) = ((n - 1 - i:Nat):Int):=by walk_at "o"
  have st2:s.heap.IsRevIter it a ((n - 1 - i:Nat):Int):=e ▸ st
  refine wpAny_pyNext_rev_item st2 p.isList (x:=u) (by simpa using hu) fun h' st' sb=>?_
  have I1:aG X pins σ H { s with heap:=h' }:=I.turned (t':=s.toks) (fun b o hb e=>(sb.2 b hb).trans e) f0 f1 f3 f4 f5
  obtain ⟨o,e1,c,d⟩:=id st'
  refine ⟨u,rfl,yR (s:={ s with heap:=h' }) e1 c d (by decide) ⟨_,H,I1,ru,⟨rfl,fun ys hy=>by rw [I.list_inj hy hq]; exact hx⟩,?_,fun b hb=>(hf b hb).1⟩⟩
  rw [show (n:Int) - 1 - ((i + 1:Nat):Int) = ((n - 1 - i:Nat):Int) - 1 by walk_at "o"]
  exact st'
 done:=by
  intro X hP hw hK hc i pins s σ H E I hf st hg
  subst hP hw hK
  have hg':i = n:=hg
  subst hg'
  obtain ⟨f0,f1,f2,f3,f4,f5⟩:=hf it (by simp)
  have st2:s.heap.IsRevIter it a (-1):=by
   have e:(i:Int) - 1 - (i:Int) = -1:=by walk_at "o"
   exact e ▸ st
  exact wpAny_pyNext_rev_end (I.ok.hd hc) st2 fun h' eb=>⟨rfl,I.turned (t':=s.toks) (fun b o hb e=>eb b o hb e) f0 f1 f3 f4 f5⟩
 self:=fun _ _ _ _ _ st h=>wpAny_pyIter_revIter st h
def Ef (K:PySem.W.Frag) (ta:TA):TI:=fun σ H R=>ta σ H fun vs H1=>∃ a,vs = [.ref a] /\ ∃ xs,vw K H1 a = some (.lst xs) /\ R (F5 K a xs.length) H1
theorem Cj {X:Cx} {tg:Expr} {p pos:Pos} {a:Expr} {ta:TA} (hg:Gl X "reversed") (hm:X.mg "reversed" = none) (ha:PA X [a] ta) (hs:starEach [a] X.env = [(false,eval a X.env)]:=by rfl) :
  PI X tg (.Call (.Name "reversed" p) [a] [] pos) (Ef X.K ta):=by
 intro pins s σ H R I h
 refine Call_ (jG I hg hm rZ (PyProof.Rows.callWith_type1 (cI (ha pos pins s σ H _ I h) fun us s1 ⟨vs,H1,I1,r1,q1⟩=>?_) hs rfl))
 obtain ⟨b,e,xs,hx,q⟩:=q1
 subst e
 cases r1 with
 | cons r rr =>
  cases rr
  cases r
  obtain ⟨its,rv,pl,hz⟩:=I1.list (hZ.of (K:=X.K) (aO hx))
  have hl:=rv.length
  refine call_reversed_list pl.isList ?_
  have st:(s1.heap.push (revObj b ((its.toArray.size:Int) - 1))).IsRevIter s1.heap.objs.size b ((its.toArray.size:Int) - 1):=⟨_,Heap.get?_push_size _ rfl,rfl,rfl⟩
  refine wpAny_pyIter_revIter (s:={ s1 with heap:=s1.heap.push (revObj b ((its.toArray.size:Int) - 1)) }) st ?_
  refine ⟨_,[s1.heap.objs.size],_,_,H1,rfl,I1.kept (t':=s1.toks) fun c o e=>Heap.get?_push_of_some _ e,wW b _ xs.length,?_,fun c hc=>?_,q⟩
  ·show Heap.IsRevIter _ _ _ _
   have e:(xs.length:Int) - 1 - ((0:Nat):Int) = (its.toArray.size:Int) - 1:=by simp; walk_at "o"
   rw [e]
   exact st
  ·have e:c = s1.heap.objs.size:=by simpa using hc
   subst e
   exact I1.fpOk (Nat.le_refl _) (I1.hok.fresh (Nat.le_refl _))
theorem Cc {X:Cx} {tg:Expr} {p pos:Pos} {a:Expr} {ta:TA} (hg:Gl X "reversed") (hm:X.mg "reversed" = none) (ha:QA X [a] ta) (hs:starEach [a] X.env = [(false,eval a X.env)]:=by rfl) :
  QI X tg (.Call (.Name "reversed" p) [a] [] pos) (Ef X.K ta):=⟨Cj hg hm ha.h hs⟩
theorem wC {K:PySem.W.Frag} {H:Hp} {a:Addr} {xs:List V} (h:vw K H a = some (.lst xs)):oR (F5 K a xs.length) H xs.reverse:=by
 refine ⟨fun i hi=>⟨xs,.of (aO h),rfl,by simpa using hi⟩,fun i x H' hi y=>⟨y.1,?_⟩,by show xs.reverse.length = xs.length; simp⟩
 rw [List.getElem?_reverse (by simpa using hi)]
 exact y.2 xs (.of (aO h))
def ww (p q:Int × Int):Int × Int:=lo (p.1 * q.2 - q.1 * p.2) (p.2 * q.2)
def fz (p q:Int × Int):Int × Int:=lo (p.1 * q.2) (p.2 * q.1)
theorem A3 {p q:Int × Int} (hp:Fq p) (hq:Fq q):Fq (ww p q):=fG (by have:=Int.mul_pos hp.1 hq.1; walk_at "o")
theorem mn {p q:Int × Int} (hp:Fq p) (h0:q.1 ≠ 0):Fq (fz p q):=fG (Int.mul_ne_zero (by have:=hp.1; walk_at "o") h0)
theorem Am {p q:Int × Int} {m n:Nat} (hp:Fq p) (hq:Fq q) (h1:Bq m p) (h2:Bq n q):Bq (m + n + 1) (ww p q):=by
 refine iB (by have:=Int.mul_pos hp.1 hq.1; walk_at "o") ?_ ((h1.2.mul h2.2).mono (by walk_at "o"))
 exact ((h1.1.mul h2.2).sub (h2.1.mul h1.2)).mono (by walk_at "o")
theorem qW {p q:Int × Int} {m n:Nat} (hp:Fq p) (h0:q.1 ≠ 0) (h1:Bq m p) (h2:Bq n q):Bq (m + n) (fz p q):=iB (Int.mul_ne_zero (by have:=hp.1; walk_at "o") h0) (h1.1.mul h2.2) (h1.2.mul h2.1)
theorem pT {p q:Int × Int} (hp:p.2 ≠ 0) (hq:q.2 ≠ 0) (h0:q.1 ≠ 0):wv (fz p q) = wv p / wv q:=by
 unfold fz
 rw [gg (Int.mul_ne_zero hp h0)]
 unfold wv
 have h1:=aj hp
 have h2:=aj hq
 have h3:=aj h0
 simp only [Rat.intCast_mul]
 grind
theorem eo {q:Int × Int} (hq:q.2 ≠ 0):wv q = 0 ↔ q.1 = 0:=by
 have h2:=aj hq
 unfold wv
 constructor
 ·intro h
  have:(q.1:Rat) = 0:=by grind
  simpa using this
 ·intro h
  have:(q.1:Rat) = 0:=by rw [h]; rfl
  rw [this]
  grind
end L2
namespace L2
open PySem PySem.Spec PyProof.Rows
def cf (qs:List (Int × Int)) (k:Nat):Rat:=match qs[k]? with
 | some q=>wv q
 | none=>0
def ba (qs:List (Int × Int)):Prop:=(∀ q ∈ qs,Fq q) /\ ∀ q,qs.getLast? = some q -> q.1 ≠ 0
theorem Fq.ne {q:Int × Int} (h:Fq q):q.2 ≠ 0:=by have:=h.1; walk_at "o"
theorem aW {qs:List (Int × Int)} {k:Nat} {q:Int × Int} (h:qs[k]? = some q):cf qs k = wv q:=by unfold cf; rw [h]
theorem aU {qs:List (Int × Int)} {k:Nat} (h:qs.length <= k):cf qs k = 0:=by unfold cf; rw [List.getElem?_eq_none h]
theorem tT (k:Nat):cf [] k = 0:=rfl
theorem pY {qs:List (Int × Int)} {n:Nat} (hF:∀ q ∈ qs,Fq q) (hz:∀ q ∈ qs.drop n,q.1 = 0) (k:Nat):cf (qs.take n) k = cf qs k:=by
 by_cases hk:k < n
 ·unfold cf
  rw [List.getElem?_take,if_pos hk]
 ·unfold cf
  rw [List.getElem?_take,if_neg hk]
  cases e:qs[k]? with
  | none=>rfl
  | some q =>
   have hm:q ∈ qs.drop n:=List.mem_of_getElem? (i:=k - n) (by rw [List.getElem?_drop,show n + (k - n) = k by walk_at "o"]; exact e)
   exact ((eo (hF q (List.mem_of_getElem? e)).ne).mpr (hz q hm)).symm
theorem kE {q:Int × Int} (h:Fq q):q = (0,1) ↔ q.1 = 0:=by
 constructor
 ·rintro rfl; rfl
 ·intro e
  obtain ⟨h1,h2⟩:=h
  rw [e] at h2
  have:q.2.natAbs = 1:=by simpa using h2
  exact Prod.ext e (by show q.2 = 1; walk_at "o")
end L2
namespace L2
open PySem PySem.Spec PyProof.Rows
def Em:List Int -> Rat -> Rat
 | [],_=>0
 | n :: ns,x=>(n:Rat) + x * Em ns x
def Bc:List (Int × Int) -> Rat -> Rat
 | [],_=>0
 | q :: qs,x=>wv q + x * Bc qs x
theorem sD {D:Rat} {x:Rat}:∀ {qs:List (Int × Int)} {ns:List Int},ns.length = qs.length -> (∀ (i:Nat) (n:Int) (q:Int × Int),ns[i]? = some n -> qs[i]? = some q -> (n:Rat) = wv q * D) -> Em ns x = Bc qs x * D
 | [],[],_,_=>by show (0:Rat) = 0 * D; grind
 | [],_ :: _,h,_=>by simp at h
 | _ :: _,[],h,_=>by simp at h
 | q :: qs,n :: ns,h,hw=>by
  have ih:=sD (D:=D) (x:=x) (qs:=qs) (ns:=ns) (by simpa using h) fun i n d e1 e2=>hw (i + 1) n d (by simpa using e1) (by simpa using e2)
  have h0:=hw 0 n q rfl rfl
  show (n:Rat) + x * Em ns x = (wv q + x * Bc qs x) * D
  rw [ih,h0]
  grind
theorem oM {α:Type} {l:List α} {j:Nat} (h:j < l.length):l.drop (l.length - (j + 1)) = l[l.length - 1 - j]'(by walk_at "o") :: l.drop (l.length - j):=by
 rw [List.drop_eq_getElem_cons (show l.length - (j + 1) < l.length by walk_at "o")]
 have e1:l.length - (j + 1) = l.length - 1 - j:=by walk_at "o"
 have e2:l.length - (j + 1) + 1 = l.length - j:=by walk_at "o"
 simp only [e1,e2]
 congr 2
 walk_at "o"
end L2
namespace L2
open PySem PySem.Spec PyProof.Rows
def pz (f g:Nat -> Int):Nat -> Nat -> Int
 | 0,_=>0
 | j + 1,k=>pz f g j k + if j <= k then f j * g (k - j) else 0
def pr (f g:Nat -> Rat):Nat -> Nat -> Rat
 | 0,_=>0
 | j + 1,k=>pr f g j k + if j <= k then f j * g (k - j) else 0
theorem pW {f g:Nat -> Int} {F G:Nat -> Rat} {c d:Rat} (hf:∀ i,(f i:Rat) = F i * c) (hg:∀ i,(g i:Rat) = G i * d):∀ j k,((pz f g j k:Int):Rat) = pr F G j k * (c * d)
 | 0,k=>by
  show ((0:Int):Rat) = 0 * (c * d)
  grind
 | j + 1,k=>by
  show (((pz f g j k + if j <= k then f j * g (k - j) else 0:Int)):Rat) = (pr F G j k + if j <= k then F j * G (k - j) else 0) * (c * d)
  rw [Rat.intCast_add,pW hf hg j k]
  split
  ·rw [Rat.intCast_mul,hf,hg]
   grind
  ·grind
theorem i4 {n:Nat}:Bt n 0:=by
 show (0:Int).natAbs < 2 ^ n
 exact Nat.two_pow_pos n
theorem BP {f g:Nat -> Int} {m n:Nat} (hf:∀ i,Bt m (f i)) (hg:∀ i,Bt n (g i)):∀ j k,Bt (m + n + j) (pz f g j k)
 | 0,k=>i4
 | j + 1,k=>by
  have h1:=BP hf hg j k
  have h2:Bt (m + n) (if j <= k then f j * g (k - j) else 0):=by
   split
   ·exact (hf j).mul (hg _)
   ·exact i4
  exact (h1.add h2).mono (by walk_at "o")
def qz (f g:Nat -> Int) (j l k:Nat):Int:=pz f g j k + if j <= k /\ k - j < l then f j * g (k - j) else 0
theorem Gb (f g:Nat -> Int) (j k:Nat):qz f g j 0 k = pz f g j k:=by simp [qz]
theorem ER (f g:Nat -> Int) (j l k:Nat):qz f g j (l + 1) k = if k = j + l then qz f g j l (j + l) + f j * g l else qz f g j l k:=by
 by_cases h:k = j + l
 ·subst h
  rw [if_pos rfl]
  unfold qz
  rw [if_pos (by walk_at "o"),if_neg (by walk_at "o"),show j + l - j = l by walk_at "o"]
  walk_at "o"
 ·rw [if_neg h]
  unfold qz
  by_cases h2:j <= k /\ k - j < l
  ·rw [if_pos h2,if_pos (by walk_at "o")]
  ·rw [if_neg h2,if_neg (by walk_at "o")]
theorem Ed {f g:Nat -> Int} {n:Nat} (hg:∀ i,n <= i -> g i = 0) (j k:Nat):qz f g j n k = pz f g (j + 1) k:=by
 show _ = pz f g j k + if j <= k then f j * g (k - j) else 0
 unfold qz
 by_cases h:j <= k
 ·rw [if_pos h]
  by_cases h2:k - j < n
  ·rw [if_pos ⟨h,h2⟩]
  ·rw [if_neg (by walk_at "o"),hg _ (by walk_at "o"),Int.mul_zero]
 ·rw [if_neg h,if_neg (by walk_at "o")]
def qr (f g:Nat -> Rat) (j l k:Nat):Rat:=pr f g j k + if j <= k /\ k - j < l then f j * g (k - j) else 0
theorem Gi (f g:Nat -> Rat) (j k:Nat):qr f g j 0 k = pr f g j k:=by
 unfold qr
 rw [if_neg (by walk_at "o")]
 grind
theorem Fj (f g:Nat -> Rat) (j l k:Nat):qr f g j (l + 1) k = if k = j + l then qr f g j l (j + l) + f j * g l else qr f g j l k:=by
 by_cases h:k = j + l
 ·subst h
  rw [if_pos rfl]
  unfold qr
  rw [if_pos (by walk_at "o"),if_neg (by walk_at "o"),show j + l - j = l by walk_at "o"]
  grind
 ·rw [if_neg h]
  unfold qr
  by_cases h2:j <= k /\ k - j < l
  ·rw [if_pos h2,if_pos (by walk_at "o")]
  ·rw [if_neg h2,if_neg (by walk_at "o")]
theorem CB {f g:Nat -> Rat} {n:Nat} (hg:∀ i,n <= i -> g i = 0) (j k:Nat):qr f g j n k = pr f g (j + 1) k:=by
 show _ = pr f g j k + if j <= k then f j * g (k - j) else 0
 unfold qr
 by_cases h:j <= k
 ·rw [if_pos h]
  by_cases h2:k - j < n
  ·rw [if_pos ⟨h,h2⟩]
  ·rw [if_neg (by walk_at "o"),hg _ (by walk_at "o")]
   grind
 ·rw [if_neg h,if_neg (by walk_at "o")]
theorem gU {f g:Nat -> Rat} {n:Nat} (hg:∀ i,n <= i -> g i = 0):∀ (j k:Nat),j + n <= k + 1 -> pr f g j k = 0
 | 0,k,_=>rfl
 | j + 1,k,h=>by
  show pr f g j k + (if j <= k then f j * g (k - j) else 0) = 0
  rw [gU hg j k (by walk_at "o")]
  by_cases h1:j <= k
  ·rw [if_pos h1,hg _ (by walk_at "o")]
   grind
  ·rw [if_neg h1]
   grind
def lz {α:Type} (n:Nat) (h:Nat -> α):List α:=(List.range n).map h
theorem be {α:Type} {n:Nat} {h:Nat -> α}:(lz n h).length = n:=by simp [lz]
theorem cG {α:Type} {n:Nat} {h:Nat -> α} {i:Nat} (hi:i < n):(lz n h)[i]? = some (h i):=by simp [lz,hi]
theorem gK {α:Type} {n:Nat} {h g:Nat -> α} (e:∀ k,k < n -> h k = g k):lz n h = lz n g:=by
 apply List.ext_getElem?
 intro i
 by_cases hi:i < n
 ·rw [cG hi,cG hi,e i hi]
 ·rw [List.getElem?_eq_none (by rw [be]; walk_at "o"),List.getElem?_eq_none (by rw [be]; walk_at "o")]
theorem yb {α:Type} {n:Nat} {h:Nat -> α} {i:Nat} {v:α}:(lz n h).set i v = lz n fun k=>if k = i then v else h k:=by
 apply List.ext_getElem?
 intro k
 by_cases hk:k < n
 ·rw [cG hk]
  by_cases e:k = i
  ·subst e
   rw [List.getElem?_set_self (by rw [be]; exact hk),if_pos rfl]
  ·rw [List.getElem?_set_ne (Ne.symm e),cG hk,if_neg e]
 ·rw [List.getElem?_eq_none (by rw [List.length_set,be]; walk_at "o"),List.getElem?_eq_none (by rw [be]; walk_at "o")]
theorem rc {α β:Type} {n:Nat} {h:Nat -> α} (f:α -> β):(lz n h).map f = lz n fun k=>f (h k):=by simp [lz]
theorem DZ {α:Type} (n:Nat) (x:α):(List.replicate n [x]).flatten = lz n fun _=>x:=by
 induction n with
 | zero=>rfl
 | succ n ih =>
  apply List.ext_getElem?
  intro i
  rw [show (List.replicate (n + 1) [x]).flatten = List.replicate (n + 1) x by simp]
  by_cases hi:i < n + 1
  ·rw [cG hi,List.getElem?_replicate_of_lt hi]
  ·rw [List.getElem?_eq_none (by simp; walk_at "o"),List.getElem?_eq_none (by rw [be]; walk_at "o")]
def nz (ns:List Int) (k:Nat):Int:=ns.getD k 0
theorem gh {ns:List Int} {k:Nat} {n:Int} (h:ns[k]? = some n):nz ns k = n:=by simp [nz,List.getD_eq_getElem?_getD,h]
theorem gZ {ns:List Int} {k:Nat} (h:ns.length <= k):nz ns k = 0:=by simp [nz,List.getD_eq_getElem?_getD,List.getElem?_eq_none h]
theorem u7 {ns:List Int} {m:Nat} (h:∀ n ∈ ns,Bt m n) (k:Nat):Bt m (nz ns k):=by
 cases e:ns[k]? with
 | none=>rw [gZ (List.getElem?_eq_none_iff.mp e)]; exact i4
 | some n=>rw [gh e]; exact h n (List.mem_of_getElem? e)
theorem BY {n k:Nat} {h:Nat -> Int} (hk:k < n):nz (lz n h) k = h k:=gh (cG hk)
theorem gO {qs:List (Int × Int)} {ns:List Int} {D:Rat} (hl:ns.length = qs.length) (h:∀ (i:Nat) (n:Int) (q:Int × Int),ns[i]? = some n -> qs[i]? = some q -> (n:Rat) = wv q * D) (i:Nat):((nz ns i:Int):Rat) = cf qs i * D:=by
 by_cases hi:i < qs.length
 ·have e1:=List.getElem?_eq_getElem hi
  have e2:=List.getElem?_eq_getElem (show i < ns.length by walk_at "o")
  rw [gh e2,aW e1]
  exact h i _ _ e2 e1
 ·rw [gZ (by walk_at "o"),aU (by walk_at "o")]
  show ((0:Int):Rat) = 0 * D
  grind
theorem aF.set {H:Hp}:∀ {ds:List D} {xs:List V} (i:Nat) {d:D} {x:V},aF H ds xs -> aC H d x -> aF H (ds.set i d) (xs.set i x)
 | [],xs,i,d,x,h,g=>by
  cases h.nil_at
  exact .mk_nil
 | d0 :: ds,xs,i,d,x,h,g=>by
  obtain ⟨x0,r,rfl,h1,h2⟩:=h.cons_at
  cases i with
  | zero=>exact .mk_cons g h2
  | succ i=>exact .mk_cons h1 (h2.set i g)
theorem uO {qs:List (Int × Int)} {i k:Nat} {q:Int × Int} (hi:i < qs.length):cf (qs.set i q) k = if k = i then wv q else cf qs k:=by
 by_cases h:k = i
 ·subst h
  rw [if_pos rfl,aW (List.getElem?_set_self hi)]
 ·rw [if_neg h]
  unfold cf
  rw [List.getElem?_set_ne (Ne.symm h)]
theorem kv {n k:Nat} (h:k < n):tN n (k:Int) = some k:=by
 unfold tN
 simp
 walk_at "o"
end L2
namespace L2
open PySem PySem.Spec PyProof.Rows
theorem kW {X:Cx}:D5 X (fun o i H Q=>∃ p k,o = .ref p /\ i = .int k /\ ∃ xs,vw X.K H p = some (.lst xs) /\ ∃ v,lV xs k = some v /\ Q v H):=by
 intro pins s σ H x y v u Q I rx ry h
 obtain ⟨p,k,rfl,rfl,xs,hx,z,he,q⟩:=h
 cases rx
 obtain ⟨t,rfl⟩:=ry
 obtain ⟨its,r,pl,hz⟩:=I.list (hZ.of (K:=X.K) (aO hx))
 obtain ⟨j,h1,h2,h3,h4,h5⟩:=qB he
 obtain ⟨w,ew,rw'⟩:=r.get h2
 have hl:=r.length
 have hn:=kQ
 have fin:EP X pins σ Q w s:=⟨z,H,I,rw',q⟩
 by_cases h0:0 <= k
 ·have hj:k.toNat = j:=by
   rw [seqIndex_of h0 h5] at h1
   exact Option.some.inj h1
  exact wpAny_getItem_list pl.isList h0 (by walk_at "o") (by rw [hj]; simpa using ew) fin
 ·have hj:(k + (its.toArray.size:Int)).toNat = j:=by
   rw [seqIndex_neg (by walk_at "o") h4] at h1
   rw [List.size_toArray,<- hl]
   exact Option.some.inj h1
  exact wpAny_getItem_list_neg pl.isList (by walk_at "o") (by rw [List.size_toArray] <;> walk_at "o") (by walk_at "o") (by rw [hj]; simpa using ew) fin
theorem mH {K:PySem.W.Frag} {H:Hp} {p:Addr} {xs:List V} (h:vw K H p = some (.lst xs)):rf K (.ref p) H (!xs.isEmpty):=.inl ⟨xs,.of (aO h),rfl⟩
end L2
namespace L2
open PySem PySem.Spec PyProof.Rows
theorem aw.none {G G':Hp} {c:Addr} (S:aw G G') (h:G' c = none):G c = none:=by
 cases e:G c with
 | none=>rfl
 | some o=>rw [S _ _ e] at h; cases h
theorem lP:Fq (0,1):=⟨by decide,by decide⟩
theorem ur {n:Nat} (h:1 <= n):Bq n (0,1):=Bq.mono (m:=1) (q:=(0,1)) ⟨by decide,by decide⟩ h
theorem pi:wv (0,1) = 0:=(eo (q:=(0,1)) (by decide)).mpr rfl
theorem BS:wv (1,1) = 1:=by
 show ((1:Int):Rat) / ((1:Int):Rat) = 1
 have:((1:Int):Rat) = 1:=rfl
 rw [this]
 grind
theorem DM (fs:List (Int × Int)) (m k:Nat):cf (fs ++ List.replicate m (0,1)) k = cf fs k:=by
 by_cases h:k < fs.length
 ·unfold cf
  rw [List.getElem?_append_left h]
 ·rw [aU (qs:=fs) (by walk_at "o")]
  unfold cf
  rw [List.getElem?_append_right (by walk_at "o")]
  by_cases h2:k - fs.length < m
  ·rw [List.getElem?_replicate_of_lt h2]
   exact pi
  ·rw [List.getElem?_eq_none (by simp; walk_at "o")]
theorem iy {α:Type} (n:Nat) (x:α):(List.replicate n [x]).flatten = List.replicate n x:=by simp
theorem jR {α β:Type} (f:α -> β) (n:Nat) (x:α):(List.replicate n x).map f = List.replicate n (f x):=by simp
theorem sB {qs:List (Int × Int)} {n:Nat} (hF:∀ q ∈ qs,Fq q) (hz:∀ q,(qs.take n).getLast? = some q -> q.1 ≠ 0):ba (qs.take n):=⟨fun q hq=>hF q (List.mem_of_mem_take hq),hz⟩
theorem aH.chg {G G':Hp} {e:Addr} {qs:List (Int × Int)} {xs:List V} {i:Nat} {q:Int × Int} {v:V} (h:G e = some (.lst xs)) (r:aF G (qs.map fr) xs) (rv:aC G (fr q) v) (B:dI e G G') (h':G' e = some (.lst (xs.set i v))):aH G' e (qs.set i q):=by
 refine ⟨_,h',?_⟩
 have r':=aF.flat_but h B _ _ (dg qs) r
 have:=r'.set i (aC.flat_but h B _ _ (aY q) rv)
 rw [List.map_set]
 exact this
end L2
namespace L2
open PySem PySem.Spec PyProof.Rows
end L2
namespace L2
open PySem PySem.Spec PyProof.Rows
end L2
namespace L2
open PySem PySem.Spec PyProof.Rows
structure wF (outer:List Env) (H H':Hp) (h:Heap) (B:Heap):Prop where
 b1:∀ b,H' b ≠ none -> ∃ o,B.get? b = some o
 b2:∀ b o,h.get? b = some o -> H b = none -> b ∉ gD outer -> B.get? b = some o
 b3:∀ b o,h.get? b = some o -> b ∉ gD outer -> ∃ o',B.get? b = some o'
def lW (P:Program) (w:World):tG:=fun outer H s E e s' =>
 ∃ (a C:Addr) (a0:Value) (B:Heap) (H':Hp),e = .ref a /\ s'.os = s.os /\ AllBare s'.gens /\ Un (gD outer) [] H H' s.heap s'.heap /\ kg P w H' s'.heap /\
  Heap.FlyingW B outer a (.ref C) a0 s'.heap /\ wF outer H H' s.heap B /\ E (.ref C) none H'
theorem dz.there {P:Program} {w:World} {H:Hp} {h:Heap} {a:Addr} {o:HO} (x:dz P w H h a o):∃ ob,h.get? a = some ob:=by
 cases o with
 | lst xs=>obtain ⟨_,_,_,_,e⟩:=x; exact ⟨_,e⟩
 | tup xs=>obtain ⟨_,_,_,_,e,_⟩:=x; exact ⟨_,e⟩
 | dK kvs=>obtain ⟨_,_,_,_,o,_,_,e,_⟩:=x; exact ⟨_,e⟩
 | dT kvs=>obtain ⟨_,_,_,_,o,_,_,e,_⟩:=x; exact ⟨_,e⟩
 | set S n=>obtain ⟨o,_,_,_,e,_⟩:=x; exact ⟨_,e⟩
 | ins C dx fs=>obtain ⟨_,_,_,e,_⟩:=x; exact ⟨_,e⟩
 | own y=>obtain ⟨_,e⟩:=x; exact ⟨_,e⟩
 | xd fs=>obtain ⟨_,⟨_,_,_,e,_⟩,_⟩:=x; exact ⟨_,e⟩
 | rng lo hi=>obtain ⟨_,_,_,e⟩:=x; exact ⟨_,e⟩
 | frz ob u=>obtain ⟨e,_⟩:=x; exact ⟨_,e⟩
 | tbl ps=>exact ⟨_,show h.get? a = some _ from x⟩
 | met f y=>exact ⟨_,show h.get? a = some _ from x⟩
 | ext φ=>obtain ⟨_,e,_⟩:=x; exact e
theorem ir {P:Program} {w:World} {H:Hp} {h h':Heap} (x:kg P w H h) (k:∀ b u,H b ≠ none -> h.get? b = some u -> h'.get? b = some u):kg P w H h':=fun a o e =>
 (x a o e).stay (fun b u hb q=>k b u (by
  rcases hb with rfl | z
  ·rw [e]; simp
  ·rw [z]; simp) q) (fun _ q=>q) fun _ _ q=>q
section
variable {X:Cx} {pins:List (Addr × Obj)} {σ:St} {H H':Hp} {s s':Shared}
theorem aG.nofrs (I:aG X pins σ H s) {b:Addr} (h:H b ≠ none):b ∉ gD X.stack:=fun z=>h (I.stkFree b z)
theorem aG.flyB (I:aG X pins σ H s) (hx:X.ex = []) (hs:X.stack = X.env :: X.outer) (hfr:X.env.frame = some X.env.locals) {B:Heap} (F:wF X.stack H H' s.heap B):wF X.outer X.H₀ H' X.s₀.heap B:=by
 have nL:∀ b o,X.s₀.heap.get? b = some o -> b ∉ gD X.outer -> b ∉ gD X.stack:=fun b o e n z=>by
  rcases List.mem_cons.mp (I.stkSub b z) with q | q
  ·exact absurd (Nat.lt_of_lt_of_le (Heap.lt_size e) (q ▸ I.ok.above)) (Nat.lt_irrefl _)
  ·exact n q
 have nx:∀ b,b ∉ X.ex:=fun b z=>by rw [hx] at z; exact absurd z (by simp)
 refine ⟨F.b1,fun b o e n nb=>?_,fun b o e nb=>?_⟩
 ·exact F.b2 b o (I.base.keep b o e n nb (nx b)) (I.base.free b o e n (nx b)) (nL b o e nb)
 ·obtain ⟨o',e'⟩:=I.base.there b o e (nx b)
  exact F.b3 b o' e' (nL b o e nb)
theorem aG.flyUn (I:aG X pins σ H s) (hx:X.ex = []) (hs:X.stack = X.env :: X.outer) (hfr:X.env.frame = some X.env.locals) {B h h':Heap} (F:wF X.stack H H' s.heap B) (u:Un (gD X.stack) [] H H' s.heap h) (hB:B.StaysIn h') (up:h.UpToSlots h'):Un (gD X.outer) [] X.H₀ H' X.s₀.heap h':=by
 have FB:=I.flyB hx hs hfr F
 have nx:∀ b,b ∉ X.ex:=fun b z=>by rw [hx] at z; exact absurd z (by simp)
 have n0:∀ b:Addr,b ∉ ([]:List Addr):=fun b z=>absurd z (by simp)
 have frame:∀ b,b ∈ gD X.outer -> ∀ o,X.s₀.heap.get? b = some o -> ∃ sl,h'.get? b = some { o with slots:=sl }:=fun b hb o e=>by
  have hfree:=I.ok.frf b hb
  obtain ⟨sl,e1⟩:=I.base.slot b o e hfree hb (nx b)
  have h1:=I.base.free b o e hfree (nx b)
  obtain ⟨sl2,e2⟩:=u.any e1 h1 (n0 b)
  obtain ⟨_,o',e3,hd⟩:=I.ok.funs.mem hb
  rw [e] at e3; cases e3
  obtain ⟨sl3,e4⟩:=up b _ e2 hd
  exact ⟨sl3,e4⟩
 refine ⟨fun b o e n nb _=>hB b o (FB.b2 b o e n nb),fun b o e n nb _=>frame b nb o e,fun b o e n _=>?_,fun b o e _=>?_,fun b xs e=>u.tups b xs (I.base.tups b xs e),fun b o v e=>u.frzs b o v (I.base.frzs b o v e),fun b ps e=>?_⟩
 ·obtain ⟨o',e1⟩:=I.base.there b o e (nx b)
  exact u.free b o' e1 (I.base.free b o e n (nx b)) (n0 b)
 ·by_cases hb:b ∈ gD X.outer
  ·obtain ⟨sl,q⟩:=frame b hb o e
   exact ⟨_,q⟩
  ·obtain ⟨o',q⟩:=FB.b3 b o e hb
   exact ⟨o',hB b o' q⟩
 ·obtain ⟨m1,e1⟩:=I.base.tbls b ps e
  obtain ⟨m2,e2⟩:=u.tbls b _ e1
  exact ⟨m1 ++ m2,by rw [e2,Array.append_assoc]⟩
theorem aG.raised {E:XK} {e C:Addr} {vs:List Value} {h':Heap} {Q':Value -> Shared -> Prop} {M:Model} (I:aG X pins σ H s) (hx:X.ex = []) (hs:X.stack = X.env :: X.outer) (hfr:X.env.frame = some X.env.locals)
  (hm:Heap.MadeExcOf s.heap h' e (.ref C) vs) (hE:E (.ref C) none H) {g:Array GenState} {d:Drawn} {t:Tok} {os:OsState} (hos:os = s.os) (hg:AllBare g) :
  wpAny M X.A (leaving X.env (.ref e)) (fun _ s''=>lW X.prog X.w X.outer X.H₀ X.s₀ E (.ref e) s'') Q' ⟨h',g,d,t,os⟩:=by
 have hfr':X.A.frames = some (X.env :: X.outer):=by rw [I.ok.frames,hs]
 have hin:∀ env ∈ X.stack,∀ b,env.frame = some b -> b ∈ gD X.stack:=fun env he b hb=>List.mem_filterMap.mpr ⟨env,he,hb⟩
 have st:=I.stack
 have FF:=PySem.W.funFrames_hide st hin
 have hkb:(PySem.W.hideAll s.heap (gD X.stack)).StaysIn s.heap:=fun b o q=>PySem.W.of_hideAll _ q
 have FF2:s.heap.FunFrames (PySem.W.hideAll s.heap (gD X.stack)) (X.env :: X.outer):=by
  have z:=FF
  rw [show X.stack = X.env :: X.outer from hs] at z ⊢
  exact z
 refine wpAny_leaves_madeW (s:=⟨h',g,d,t,os⟩) hfr' hfr hkb FF2 hm fun h2 t2 fl tup nt up=>?_
 have up2:s.heap.UpToSlots h2:=(Heap.UpToSlots.of_keeps hm.keeps).trans up
 have getB:∀ b o,s.heap.get? b = some o -> b ∉ gD X.stack -> (PySem.W.hideAll s.heap (gD X.stack)).get? b = some o:=fun b o e n=>PySem.W.hideAll_get _ e n
 have F:wF X.stack H H s.heap (PySem.W.hideAll s.heap (gD X.stack)):=⟨fun b hb=>by
  cases q:H b with
  | none=>exact absurd q hb
  | some u =>
   obtain ⟨o,ho⟩:=(I.hok b u q).there
   exact ⟨o,getB b o ho (I.nofrs hb)⟩,fun b o e _ nb=>getB b o e nb,fun b o e nb=>⟨o,getB b o e nb⟩⟩
 refine ⟨e,C,.ref t2,_,H,rfl,?_,?_,?_,?_,fl,I.flyB hx hs hfr F,hE⟩
 ·show os = _
  rw [hos]; exact I.os
 ·exact hg
 ·exact I.flyUn hx hs hfr F (h:=s.heap) ⟨fun _ _ q _ _ _=>q,fun _ o q _ _ _=>⟨o.slots,q⟩,fun _ _ _ q _=>q,fun _ o q _=>⟨o,q⟩,fun _ _ q=>q,fun _ _ _ q=>q,fun b ps q=>⟨#[],by rw [q]; simp⟩⟩ fl.1 up2
 ·exact ir I.hok fun b u hb q=>fl.1 b u (getB b u q (I.nofrs hb))
theorem aG.passed {E E':XK} {e:Value} {Q':Value -> Shared -> Prop} {M:Model} (I:aG X pins σ H s) (hx:X.ex = []) (hs:X.stack = X.env :: X.outer) (hfr:X.env.frame = some X.env.locals)
  (h:lW X.prog X.w X.stack H s E e s') (hE:∀ c o H',E c o H' -> E' c o H'):wpAny M X.A (leaving X.env e) (fun _ s''=>lW X.prog X.w X.outer X.H₀ X.s₀ E' e s'') Q' s':=by
 obtain ⟨a,C,a0,B,H',rfl,os,gb,un,hok,fl,F,q⟩:=h
 have hfr':X.A.frames = some (X.env :: X.outer):=by rw [I.ok.frames,hs]
 rw [hs] at fl
 refine wpAny_leaves_onW hfr' hfr fl fun h2 fl2 up=>?_
 refine ⟨a,C,a0,B,H',rfl,os.trans I.os,gb,I.flyUn hx hs hfr F un fl2.1 up,ir hok fun b u hb z=>?_,fl2,I.flyB hx hs hfr F,hE _ _ _ q⟩
 obtain ⟨o,ho⟩:=F.b1 b hb
 have e1:=fl.1 b o ho
 rw [z] at e1; cases e1
 exact fl2.1 b _ ho
end
end L2
namespace L2
open PySem PySem.Spec PyProof.Rows
abbrev BJ:List Value:=[.type "ValueError",.type "Exception",.type "BaseException",.type "object"]
def rA (K:PySem.W.Frag) (C:Addr):Prop:=PySem.W.excIn K C BJ "ValueError.__new__" = true
theorem rA.obj {K:PySem.W.Frag} {h:Heap} {C:Addr} (KX:K.In h) (z:rA K C):∃ tl N nm qn bs y1 sn sb ab cl dd j0 j1 j2 j3 j5 mN,
  h.get? C = some (excClassObj nm qn C N bs tl y1 sn sb ab cl dd j0 j1 j2 j3 j5 "ValueError.__new__") /\ h.Ns N mN /\ mN "__init__" = none /\ OwnTail h BJ tl:=by
 unfold rA PySem.W.excIn at z
 split at z
 case h_2=>cases z
 case h_1 ob dct cdt sls look =>
  split at z
  case h_2=>cases z
  case h_1 C2 tl j0 j1 j2 j3 nid j5 hmro hsls =>
   rw [Bool.and_eq_true,Bool.and_eq_true,Bool.and_eq_true,Bool.and_eq_true,Bool.and_eq_true] at z
   obtain ⟨⟨⟨⟨⟨z1,z2⟩,z3⟩,z4⟩,z5⟩,z6⟩:=z
   have c1:=beq_iff_eq.mp z1
   have c2:=beq_iff_eq.mp z2
   have c6:=beq_iff_eq.mp z6
   subst c1 c2
   have c3:cdt.hasDel = false:=by simpa using z3
   have c7:sls = #[j0,j1,j2,j3,some (.builtin "ValueError.__new__"),j5]:=by
    cases sls with
    | mk l=>exact congrArg Array.mk hsls
   have G:=KX _ _ look
   cases cdt with
   | mk nm bs mro ns qn hd sn sb ab cl del =>
    cases hmro
    cases c3
    rw [c7] at G
    exact ⟨tl,ns,nm,qn,bs,hd,sn,sb,ab,cl,dct,j0,j1,j2,j3,j5,_,G,.of_isNs (PySem.W.isNs_of_in KX z5),PySem.W.nsMap_none_of_in KX z5 c6,PySem.W.tail_of_in KX z4⟩
def sR (E:XK) (C:Addr) (t:TA):TS:=fun _ σ H=>t σ H fun vs H1=>vs.length <= 1000 /\ E (.ref C) none H1
section
variable {P:Program} {w:World} {K:PySem.W.Frag} {mg:Str -> Option Value} {base:Heap} {N:List Str} {qual:Str} {scope:Scope} {f:Addr} {cd:Value} {A:Around} {outer:List Env} {s₀:Shared} {H₀:Hp} {E:XK} {C:Addr}
theorem wM {x:Str} {np cpos pos:Pos} {e:Expr} {es:List Expr} {t:TA} (z:rA K C) (hg:Gl (fD (lW P w) P w K mg base N qual scope f cd A outer s₀ H₀ E) x) (hm:mg x = some (.ref C))
  (ha:PA (fD (lW P w) P w K mg base N qual scope f cd A outer s₀ H₀ E) (e :: es) t) (hdb:(x == ("__debug__" : Str)) = false:=by decide)
  (he:starEach (e :: es) (envOfC qual scope s₀.heap.objs.size f cd) = (false,eval e (envOfC qual scope s₀.heap.objs.size f cd)) :: starEach es (envOfC qual scope s₀.heap.objs.size f cd):=by rfl) (hpl:(backTo cpos (starEach es (envOfC qual scope s₀.heap.objs.size f cd))).any (·.1) = false:=by rfl) :
  PS (fD (lW P w) P w K mg base N qual scope f cd A outer s₀ H₀ E) (.Raise (some (.Call (.Name x np) (e :: es) [] cpos)) none pos) (sR E C t):=by
 intro pins s σ H D I h
 obtain ⟨tl,N',nm,qn,bs,y1,sn,sb,ab,cl,dd,j0,j1,j2,j3,j5,mN,hC,hN,hni,T⟩:=z.obj I.ok.mod.kin
 refine wpAny_Raise_call_subU (nm:=nm) (q:=qn) (C:=C) (N:=N') (bs:=bs) (bm:=tl) (hdct:=y1) (sn:=sn) (sub:=sb) (ab:=ab) (col:=cl) (dd:=dd) (k0:=j0) (k1:=j1) (k2:=j2) (k3:=j3) (k5:=j5)
  PySem.F.excBase_ValueError (by decide) PySem.F.excBase_ValueError (mN:=mN) (T.hasType (by decide)) (I.ok.hd rfl) ?_ hni (iU I hg hm ⟨rfl,?_⟩ hdb)
 ·show (backTo cpos (starEach (e :: es) (envOfC qual scope s₀.heap.objs.size f cd))).any (·.1) = false
  rw [he]
  show (false || (backTo cpos (starEach es (envOfC qual scope s₀.heap.objs.size f cd))).any (·.1)) = false
  rw [hpl]
  rfl
 ·have go:=ha cpos pins s σ H _ I h
  show wpAny _ _ (evalArgs (.ref C) true (backTo cpos (starEach (e :: es) (envOfC qual scope s₀.heap.objs.size f cd))) []) _ _ _
  have go':wpAny (model P w) (A.deeper (envOfC qual scope s₀.heap.objs.size f cd)) (spliced (backTo cpos (starEach (e :: es) (envOfC qual scope s₀.heap.objs.size f cd)))) _ _ s:=go
  rw [he] at go' ⊢
  refine Calls.evalArgs_plain (cI go' fun us s1 ⟨vs,H1,I1,r,q⟩=>?_)
  obtain ⟨hl,q⟩:=q
  refine ⟨rfl,?_,I1.bk _ _ hC,hN.keeps I1.bk,T.keeps I1.bk,fun h' ea hm'=>?_⟩
  ·show us.length <= sizeLine
   rw [<- r.length]
   exact Nat.le_trans hl (by decide)
  ·exact I1.raised rfl rfl rfl hm' q rfl I1.bare
end
end L2
namespace L2
open PySem PySem.Spec PySem.Calls PyProof.Rows PySem.W PySem.Builtin PySem.Builtin.ObjectAttr PySem.Builtin.Getset_descriptor
section
variable {prog:Program} {w:World} {A:Around} {E:Value -> Shared -> Prop} {K:Frag} {x C:Addr} {ob:Obj} {hh:Heap} {g:Array GenState} {d:Drawn} {t:Nat} {os:OsState}
structure qT (K:Frag) (C:Addr):Prop where
 ga:findIn K (.ref C) "__getattribute__" = some (some (.builtin "BaseException.__getattribute__"))
 gt:findIn K (.ref C) "__getattr__" = some none
 cl:findIn K (.ref C) "__class__" = some (some (.builtin "object.__class__"))
 mo:mroIn K C (.type "object") = some true
 mb:mroIn K C (.type "BaseException") = some true
 ic:(clsIn K C).isSome = true
theorem CU {R:Result -> Shared -> Prop} {tp:Value} (Z:qT K C) (X:K.In hh) (hx:hh.get? x = some ob) (hc:ob.cls = .ref C)
  (h:R (.ok (.ret (.ref C))) ⟨hh,g,d,t,os⟩):codeAny (model prog w) A (.call (.builtin "getset_descriptor.__get__") ⟨[.builtin "object.__class__",.ref x,tp],[]⟩) R ⟨hh,g,d,t,os⟩:=by
 have L0:Looks (model prog w) hh (typeOf (.ref x)) (.ref C):=hc ▸ (Looks.ld hx).andThen .now
 have L1:=looks_mroIn (M:=model prog w) X Z.mo
 refine codeAny_call_builtin KF.slot_gs.plain KF.entry_gs (KF.slot_gs.check _ _ _ _ _ _ _ _ KF.type_class (KF.args_gs _ _ _) ?_)
 unfold Builtin.«getset_descriptor.__get__»; unfold descrGet
 rw [dga_obj]
 refine wpAny_bind (wpAny_pure ?_)
 unfold descrGetter; unfold descrCheckInstance; unfold descrNameAndClass; unfold isInstance
 simp only [KF.owner_class]
 repeat lk
 refine And.intro (Code.quiet_builtin _ (by decide +kernel)) (codeAny_builtin KF.entry_class ?_)
 unfold Builtin.«object.__class__»; unfold shownTypeOf
 repeat lk
 exact h
theorem xz {tk:Tok} {Q:Fin -> Shared -> Prop} (Z:qT K C) (X:K.In hh) (hx:hh.get? x = some ob) (hc:ob.cls = .ref C) (hq:Q (.done (.ret (.ref C))) ⟨hh,g,d,t,os⟩) :
  wpAny (model prog w) A (Builtin.«object.__getattribute__» ⟨[.ref x,.str "__class__" tk],[]⟩) Q E ⟨hh,g,d,t,os⟩:=by
 have hT5:(⟨hh,g,d,t,os⟩ : Shared).TypeIs (.builtin "object.__class__") "getset_descriptor":=F.typeOf_object_class
 have f5:=F.typeOf_object_class
 have f6:=F.slot_gs_get.lookup
 have f7:=F.slot_gs_set.lookup
 have L0:Looks (model prog w) hh (typeOf (.ref x)) (.ref C):=hc ▸ (Looks.ld hx).andThen .now
 have L2:=looks_findIn (M:=model prog w) X Z.cl
 repeat (any_goals (first | assumption | (with_reducible refine L0.at ?_) | (with_reducible refine L2.at ?_) | (with_reducible refine wpAny_loadPart_at hx ?_; rw [hc]) | wp_step))
 refine CU Z X hx hc ?_
 repeat (any_goals (first | assumption | wp_step))
theorem zl {M:Model} {nv:Value} {Q:Unit -> Shared -> Prop} (Z:qT K C) (X:K.In hh) (hx:hh.get? x = some ob) (hc:ob.cls = .ref C) (hq:Q () ⟨hh,g,d,t,os⟩) :
  wpAny M A (checkBuiltinCall "BaseException.__getattribute__" ⟨[.ref x,nv],[]⟩) Q E ⟨hh,g,d,t,os⟩:=by
 have b1:splitId "BaseException.__getattribute__" = some ("BaseException", "__getattribute__") /\ builtinKind "BaseException.__getattribute__" = some .slot:=⟨by decide +kernel,by decide +kernel⟩
 have b3:=F.args_bexc_ga (.ref x) nv
 have L0:Looks M hh (typeOf (.ref x)) (.ref C):=hc ▸ (Looks.ld hx).andThen .now
 have L1:=looks_mroIn (M:=M) X Z.mb
 have LI:Looks M hh (isInstance (.ref x) (.type "BaseException")) true:=L0.andThen L1
 simp only [checkBuiltinCall,b1.1,b1.2]
 refine wpAny_bind (LI.at ?_)
 repeat (any_goals (first | assumption | wp_step))
theorem Ac {tk:Tok} {R:Result -> Shared -> Prop} (Z:qT K C) (X:K.In hh) (hx:hh.get? x = some ob) (hc:ob.cls = .ref C) (h:R (.ok (.ret (.ref C))) ⟨hh,g,d,t,os⟩) :
  codeAny (model prog w) A (.call (.builtin "BaseException.__getattribute__") ⟨[.ref x,.str "__class__" tk],[]⟩) R ⟨hh,g,d,t,os⟩ :=
 codeAny_call_builtin F.attr_ValueError.ga.plain F.entry_bexc_ga (zl Z X hx hc (xz Z X hx hc h))
theorem EM {tk:Tok} {Q:Value -> Shared -> Prop} (Z:qT K C) (X:K.In hh) (hx:hh.get? x = some ob) (hc:ob.cls = .ref C) (hq:Q (.ref C) ⟨hh,g,d,t,os⟩) :
  wpAny (model prog w) A (getAttrBy (.ref x) (.str "__class__" tk) false) Q E ⟨hh,g,d,t,os⟩:=by
 have b3:=F.attr_ValueError.ga.bind (.ref x)
 have y2:(Value.builtin "BaseException.__getattribute__" == Value.builtin "object.__getattribute__") = false:=by decide +kernel
 have y1:(onTheHeap (Value.ref C) && (Value.builtin "BaseException.__getattribute__" == Value.builtin "object.__getattribute__")) = false:=by rw [y2,Bool.and_false]
 have L0:Looks (model prog w) hh (typeOf (.ref x)) (.ref C):=hc ▸ (Looks.ld hx).andThen .now
 have L1:=looks_findIn (M:=model prog w) X Z.ga
 have L2:=looks_findIn (M:=model prog w) X Z.gt
 unfold getAttrBy
 refine wpAny_holding (wpAny_bind (L0.at (wpAny_bind (L1.at ?_))))
 show wpAny _ _ (if (onTheHeap (Value.ref C) && (Value.builtin "BaseException.__getattribute__" == Value.builtin "object.__getattribute__")) = true then _ else getAttrByItsOwn _ _ _ _ _ _) _ _ _
 rw [if_neg (by rw [y1]; simp)]
 unfold getAttrByItsOwn hookBefore
 rw [if_pos (show onTheHeap (Value.ref C) = true from rfl)]
 refine wpAny_bind (L2.at ?_)
 unfold callGetattribute boundAndCalled
 repeat (any_goals (first | assumption | wp_step))
 refine Ac Z X hx hc ?_
 repeat (any_goals (first | assumption | wp_step))
theorem AE {Q:Option Value -> Shared -> Prop} (Z:qT K C) (X:K.In hh) (hx:hh.get? x = some ob) (hc:ob.cls = .ref C) (hq:Q (some (.ref C)) ⟨hh,g,d,t + 1,os⟩) :
  wpAny (model prog w) A (getAttr? (.ref x) "__class__") Q E ⟨hh,g,d,t,os⟩:=by
 unfold getAttr?; unfold getAttrBy?
 refine wpAny_bind (wpAny_mkText (wpAny_bind (wpAny_attempt (EM Z X hx hc ?_))))
 exact wpAny_pure hq
def zo (x C:Addr) (h:Heap):Prop:=∃ ob,h.get? x = some ob /\ ob.cls = .ref C
theorem yA (Z:qT K C):KitX K (.ref x) (.ref C) (zo x C) where
 ty:=fun _ _ _ ⟨_,h1,h2⟩=>h2 ▸ (Looks.ld h1).andThen .now
 it:=fun M h X _=>by
  have z:=Z.ic
  cases e:clsIn K C with
  | none=>rw [e] at z; cases z
  | some cd =>
   unfold clsIn at e
   split at e
   ·rename_i look
    intro A1 Q1 E1 s1 k1 q1
    unfold isType; unfold loadHead
    refine wpAny_bind (wpAny_loadPart (k1 _ _ (X _ _ look)) (wpAny_pure ?_))
    exact q1
   ·cases e
 ne:=fun h tp dd its n sl X htp=>by
  rw [Bool.eq_false_iff]
  intro q
  have e1:C = tp:=by
   have:=beq_iff_eq.mp q
   cases this
   rfl
  subst e1
  have z:=Z.ic
  unfold clsIn at z
  split at z
  ·rename_i look
   have e2:=X _ _ look
   rw [htp] at e2
   cases e2
  ·cases z
 ca:=fun {_ _ _ _ _ s} X ⟨_,h1,h2⟩ k=>by
  obtain ⟨hp,g1,d1,t1,os1⟩:=s
  exact AE Z X h1 h2 k
end
end L2
namespace L2
open PySem PySem.Spec PyProof.Rows
def PX (X:Cx) (e:Expr) (t:St -> Hp -> XK -> Prop):Prop :=
 ∀ (pins:List (Addr × Obj)) (s:Shared) (σ:St) (H:Hp) (E:XK),aG X pins σ H s -> t σ H E -> wpAny (model X.prog X.w) X.A (eval e X.env) (fun _ _=>False) (fun ev s'=>∃ s1 H1,aG X pins σ H1 s1 /\ lW X.prog X.w X.stack H1 s1 E ev s') s
def En (x C:Addr):HO:=.ext (zo x C)
section
variable {X:Cx} {pins:List (Addr × Obj)} {σ:St} {H H':Hp} {s s':Shared}
theorem aG.landed {B h:Heap} (I:aG X pins σ H s) (F:wF X.stack H H' s.heap B) (u:Un (gD X.stack) [] H H' s.heap s'.heap) (hok:kg X.prog X.w H' s'.heap) (hs':B.StaysIn s'.heap) (hB:B.StaysIn h) (up:s'.heap.UpToSlots h) (hos:s'.os = s.os) (hg:AllBare s'.gens) :
  aG X pins σ H' { s' with heap:=h }:=by
 obtain ⟨h1,g1,d1,t1,os1⟩:=s'
 have e0:os1 = s.os:=hos
 subst e0
 have n0:∀ b:Addr,b ∉ ([]:List Addr):=fun b z=>absurd z (by simp)
 have slots:∀ b,b ∈ gD X.stack -> ∀ o,s.heap.get? b = some o -> H b = none -> ∃ sl,h.get? b = some { o with slots:=sl }:=fun b hb o e n=>by
  obtain ⟨sl,e1⟩:=u.any e n (n0 b)
  obtain ⟨_,o',e3,hd⟩:=I.stack.mem hb
  rw [e] at e3; cases e3
  obtain ⟨sl2,e2⟩:=up b _ e1 hd
  exact ⟨sl2,e2⟩
 have nst:∀ b,b ≠ X.env.locals -> b ∉ X.fs -> b ∉ gD X.stack:=fun b h1 h2 z=>(List.mem_cons.mp (I.stkSub b z)).elim h1 h2
 have hfin:kg X.prog X.w H' h:=ir hok fun b v hb z=>by
  obtain ⟨o,ho⟩:=F.b1 b hb
  have e1:=hs' b o ho
  have e2:h1.get? b = some v:=z
  rw [e2] at e1; cases e1
  exact hB b _ ho
 have key:=I.step (h':=h) (g':=g1) (d':=d1) (t':=t1) (ch:=[]) (fun _ z=>nomatch z) (fun b o hL hf _ e n=>hB b o (F.b2 b o e n (nst b hL hf)))
  (fun b o hL hf _ e n=>?_) (fun b o _ e n=>u.free b o e n (n0 b)) (fun b o _ e=>?_) u.tups u.frzs u.tbls (fun m hm=>?_) hfin hg
 ·exact key
 ·by_cases hb:b ∈ gD X.stack
  ·exact slots b hb o e n
  ·exact ⟨o.slots,hB b o (F.b2 b o e n hb)⟩
 ·by_cases hb:b ∈ gD X.stack
  ·obtain ⟨sl,q⟩:=slots b hb o e (I.stkFree b hb)
   exact ⟨_,q⟩
  ·obtain ⟨o',q⟩:=F.b3 b o e hb
   exact ⟨o',hB b o' q⟩
 ·obtain ⟨o,es,ep,ho,hd,r⟩:=hm
  by_cases hb:X.env.locals ∈ gD X.stack
  ·obtain ⟨sl,q⟩:=slots _ hb o ho I.free
   exact ⟨_,es,ep,q,hd,r⟩
  ·exact ⟨o,es,ep,hB _ o (F.b2 _ o ho I.free hb),hd,r⟩
theorem aG.track {a:Addr} {o:HO} (I:aG X pins σ H s) (ha:H a = none) (h0:X.s₀.heap.get? a = none) (hL:a ≠ X.env.locals) (hc:∀ x c,X.env.cells.lookup x = some c -> c ≠ a) (hp:∀ p ∈ X.pn ++ pins,p.1 ≠ a)
  (new:dz X.prog X.w (upd H a o) s.heap a o):aG X pins σ (upd H a o) s:=by
 have ne:∀ b u,H b = some u -> b ≠ a:=fun b u e z=>by rw [z,ha] at e; cases e
 refine ⟨I.ok,I.os,I.bare,⟨I.base.keep,I.base.slot,fun b ob e n hx=>?_,I.base.there,fun b xs e=>?_,fun b ob v e=>?_,fun b ps e=>?_⟩,I.loc,I.cell,?_,fun x c e=>?_,fun p hp'=>?_,fun b u e=>?_,I.len⟩
 ·have:b ≠ a:=fun z=>by rw [z,h0] at e; cases e
  rw [aQ this]
  exact I.base.free b ob e n hx
 ·have q:=I.base.tups b xs e
  rw [aQ (ne b _ q)]
  exact q
 ·have q:=I.base.frzs b ob v e
  rw [aQ (ne b _ q)]
  exact q
 ·obtain ⟨m,q⟩:=I.base.tbls b ps e
  exact ⟨m,by rw [aQ (ne b _ q)]; exact q⟩
 ·rw [aQ (Ne.symm hL)]
  exact I.free
 ·rw [aQ (hc x c e)]
  exact I.freeC x c e
 ·obtain ⟨q1,q2,q3⟩:=I.pin p hp'
  exact ⟨q1,by rw [aQ (hp p hp')]; exact q2,q3⟩
 ·by_cases hb:b = a
  ·subst hb
   rw [bI] at e
   cases e
   exact new
  ·rw [aQ hb] at e
   exact (I.hok b u e).stay (fun _ _ _ q=>q) (fun c q=>by rw [aQ (ne c _ q)]; exact q) fun c xs q=>by rw [aQ (ne c _ q)]; exact q
abbrev Cx.marked (X:Cx) (v:Value):Cx:={ X with A:=X.A.mark (some v),calm:=false,xe:=fun _ _=>False }
theorem aG.mark (I:aG X pins σ H s) (v:Value):aG (X.marked v) pins σ H s :=
 ⟨⟨I.ok.mod,I.ok.kind,I.ok.glob,I.ok.blt,I.ok.above,I.ok.inj,I.ok.has,I.ok.cab,(fun z=>nomatch z),I.ok.frames,I.ok.stk,I.ok.exf,I.ok.bs,I.ok.bsz,I.ok.noex,I.ok.exfs,I.ok.funs,I.ok.frf⟩,I.os,I.bare,I.base,I.loc,I.cell,I.free,I.freeC,I.pin,I.hok,I.len⟩
theorem aG.unmark {v:Value} (I:aG (X.marked v) pins σ H s) (ok:X.Ok):aG X pins σ H s:=⟨ok,I.os,I.bare,I.base,I.loc,I.cell,I.free,I.freeC,I.pin,I.hok,I.len⟩
theorem aG.unset {i:Nat} {n:Str} {h:Heap} {v:Option Value} {m:Str -> Option Value} {t:Tok} (I:aG X pins σ H s) (hN:X.N.Nodup) (hi:X.N[i]? = some n)
  (hm:s.heap.Ns X.env.locals m) (hl:∀ (j:Nat) (x:Str) (w:V),X.N[j]? = some x -> σ[j]? = some (some w) -> Dy X.env.scope x -> ∃ u,bO w u /\ Fv X.env s.heap m x u)
  (hn:h.Ns X.env.locals (fun x=>if x = n then v else m x)) (hs:Heap.SameBut X.env.locals s.heap h):aG X pins (σ.set i none) H { s with heap:=h,toks:=t }:=by
 have sm:∀ b o,b ≠ X.env.locals -> s.heap.get? b = some o -> h.get? b = some o:=fun b o hb e=>(hs.2 b hb).trans e
 have cellK:∀ x c,X.env.cells.lookup x = some c -> ∀ w,s.heap.IsCell c w -> h.IsCell c w:=fun x c e w ⟨o,ho,hd⟩=>⟨o,sm c o (I.cne x c e) ho,hd⟩
 refine ⟨I.ok,I.os,I.bare,⟨fun b o e n' hb hx=>?_,fun b o e n' hb hx=>?_,I.base.free,fun b o e hx=>?_,I.base.tups,I.base.frzs,I.base.tbls⟩,⟨_,hn,fun j x w e1 e2 e3=>?_⟩,fun x c e=>?_,I.free,I.freeC,fun p hp=>?_,fun b u e=>?_,by rw [List.length_set]; exact I.len⟩
 ·have neL:b ≠ X.env.locals:=Nat.ne_of_lt (Nat.lt_of_lt_of_le (Heap.lt_size e) I.ok.above)
  exact sm b o neL (I.base.keep b o e n' hb hx)
 ·have neL:b ≠ X.env.locals:=Nat.ne_of_lt (Nat.lt_of_lt_of_le (Heap.lt_size e) I.ok.above)
  obtain ⟨sl,q⟩:=I.base.slot b o e n' hb hx
  exact ⟨sl,sm b _ neL q⟩
 ·have neL:b ≠ X.env.locals:=Nat.ne_of_lt (Nat.lt_of_lt_of_le (Heap.lt_size e) I.ok.above)
  obtain ⟨o',q⟩:=I.base.there b o e hx
  exact ⟨o',sm b _ neL q⟩
 ·have hij:j ≠ i:=fun z=>by
   subst z
   rw [List.getElem?_set_self (by rw [I.len]; exact (List.getElem?_eq_some_iff.mp hi).1)] at e2
   cases e2
  rw [List.getElem?_set_ne (Ne.symm hij)] at e2
  have hxn:x ≠ n:=fun z=>by
   subst z
   exact hij ((List.getElem?_inj (List.getElem?_eq_some_iff.mp e1).1 hN).mp (e1.trans hi.symm))
  obtain ⟨u,r,l⟩:=hl j x w e1 e2 e3
  refine ⟨u,r,?_⟩
  rcases l with ⟨k,q⟩ | ⟨k,c,q,z⟩
  ·exact .inl ⟨k,(if_neg hxn).trans q⟩
  ·exact .inr ⟨k,c,q,cellK x c q _ z⟩
 ·obtain ⟨w,z⟩:=I.cell x c e
  exact ⟨w,cellK x c e w z⟩
 ·obtain ⟨q1,q2,q3,q4,q5⟩:=I.pin p hp
  exact ⟨sm _ _ q3 q1,q2,q3,q4,q5⟩
 ·refine (I.hok b u e).stay (fun c w hc q=>sm c w (fun z=>?_) q) (fun _ q=>q) fun _ _ q=>q
  subst z
  rcases hc with z | z
  ·rw [<- z,I.free] at e; cases e
  ·rw [I.free] at z; cases z
end
end L2
namespace L2
open PySem PySem.Spec PyProof.Rows
def CG (K:PySem.W.Frag) (C0:Addr) (i:Nat) (tb:St -> Hp -> XK -> Prop) (ts:TS):TS:=fun D σ H =>
 tb σ H fun c _ H1=>∃ C,c = .ref C /\ PySem.W.exmOne K (.ref C) (.ref C0) = some true /\ ∀ a H2,vw K H1 a = none -> aw (vw K H1) (vw K H2) -> vw K H2 a = some (En a C) -> ts { nx:=fun σ2 H2=>D.nx (σ2.set i none) H2,rt:=fun _ _=>False } (σ.set i (some (.ref a))) H2
section
variable {X:Cx}
theorem CS {e:Expr} {cls n:Str} {b0:Stmt} {suite:List Stmt} {p1 np hp pos:Pos} {C0:Addr} {i:Nat} {tb:St -> Hp -> XK -> Prop} {ts:TS} (hx0:X.ex = []) (hs:X.stack = X.env :: X.outer) (hfr:X.env.frame = some X.env.locals)
  (hb:PX X e tb) (hN:X.N.Nodup) (hi:X.N[i]? = some n) (hloc:X.env.scope.names.lookup n = some .local) (hg:Gl X cls) (hm:X.mg cls = some (.ref C0)) (hsu:∀ v,qD (X.marked v) (b0 :: suite) ts)
  (hdb:(cls == ("__debug__" : Str)) = false:=by decide) (hsw:swapsWith e none p1.line X.env = pure false:=by rfl) :
  PS X (.Try [.Expr e p1] [.ExceptHandler (some (.Name cls np)) (some n) (b0 :: suite) hp] [] [] pos) (CG X.K C0 i tb ts):=by
 intro pins s σ H D I h
 obtain ⟨E1,hE1⟩ : ∃ E1:XK,E1 = fun c _ H1=>∃ C,c = .ref C /\ PySem.W.exmOne X.K (.ref C) (.ref C0) = some true /\ ∀ a H2,vw X.K H1 a = none -> aw (vw X.K H1) (vw X.K H2) -> vw X.K H2 a = some (En a C) -> ts { nx:=fun σ2 H2=>D.nx (σ2.set i none) H2,rt:=fun _ _=>False } (σ.set i (some (.ref a))) H2:=⟨_,rfl⟩
 have h':tb σ H E1:=by rw [hE1]; exact h
 refine wpAny_Try_except (wpAny_mono (Q:=fun _ _=>False) (E:=fun ev s'=>∃ s1 H1,aG X pins σ H1 s1 /\ lW X.prog X.w X.stack H1 s1 E1 ev s') ?_ (fun _ _ z=>z.elim) fun ev s' hx=>?_)
 ·refine wpAny_execs_cons (wpAny_Expr_any (cI (hb pins s σ H E1 I h') fun _ _ z=>z.elim) I.quiet hsw)
 ·obtain ⟨s1,H1,I1,a,C,a0,B,H',rfl,os,gb,un,hok,fl,F,q⟩:=hx
  rw [hE1] at q
  obtain ⟨C',ec,hex,q⟩:=q
  cases ec
  have hfr':X.A.frames = some (X.env :: X.outer):=by rw [I1.ok.frames,hs]
  have fl0:=fl
  rw [hs] at fl
  have nB:B.get? a = none:=fl0.2.1
  obtain ⟨oa,va,ga,ca,da,_⟩:=fl0.first
  have n1:s1.heap.get? a = none:=by
   cases z:s1.heap.get? a with
   | none=>rfl
   | some o =>
    by_cases hf:a ∈ gD X.stack
    ·obtain ⟨_,o',e3,hd⟩:=fl0.2.2.1.mem hf
     rw [ga] at e3; cases e3
     exact absurd da (hd _)
    ·obtain ⟨o',q'⟩:=F.b3 a o z hf
     rw [nB] at q'; cases q'
  have n0:X.s₀.heap.get? a = none:=by
   cases z:X.s₀.heap.get? a with
   | none=>rfl
   | some o =>
    obtain ⟨o',q'⟩:=I1.base.there a o z (by rw [hx0]; simp)
    rw [n1] at q'; cases q'
  have nH:H' a = none:=by
   cases z:H' a with
   | none=>rfl
   | some u =>
    obtain ⟨o',q'⟩:=F.b1 a (by rw [z]; simp)
    rw [nB] at q'; cases q'
  have nL:a ≠ X.env.locals:=fun z=>by
   obtain ⟨m,⟨o,_,_,ho,_⟩,_⟩:=I1.loc
   rw [<- z,n1] at ho; cases ho
  have nC:∀ x c,X.env.cells.lookup x = some c -> c ≠ a:=fun x c e' z=>by
   obtain ⟨v,o,ho,_⟩:=I1.cell x c e'
   rw [z,n1] at ho; cases ho
  have nP:∀ p ∈ X.pn ++ pins,p.1 ≠ a:=fun p hp' z=>by
   have ho:=(I1.pin p hp').1
   rw [z,n1] at ho; cases ho
  refine wpAny_looks_onW hfr' hfr fl fun h4 held4 up4=>?_
  refine wpAny_landsW held4 fun h5 fl5 up5=>?_
  have up45:=up4.trans up5
  have I5:=I1.landed F un hok fl0.1 fl5.1 up45 os gb
  refine wpAny_handleBy_cons (codeAny_handlers_test ?_) (by intro z; cases z)
  refine iU (X:=X.marked (.ref a)) (I5.mark (.ref a)) hg hm ?_ hdb
  obtain ⟨o5,g5,c5⟩:=fl5.there
  have LT:PySem.W.Looks (model X.prog X.w) h5 (typeOf (.ref a)) (.ref C):=c5 ▸ (PySem.W.Looks.ld g5).andThen .now
  refine (PySem.W.exm_one I5.kIn LT hex).here ?_
  refine codeAny_handlers_suite_as ?_
  refine lands_againW fl5 fun h6 fl6 up6=>?_
  have I6:=I1.landed F un hok fl0.1 fl6.1 (up45.trans up6) os gb
  obtain ⟨o6,g6,c6⟩:=fl6.there
  have I7:=I6.track (a:=a) (o:=En a C) nH n0 nL nC nP ⟨⟨o6,g6,c6⟩,⟨o6,g6⟩,fun ha hb ⟨o,e1,e2⟩ k=>⟨o,k o e1,e2⟩⟩
  have hKa:X.K.lookup a = none:=by
   cases z:X.K.lookup a with
   | none=>rfl
   | some ob =>
    have e1:=I1.bk a ob (I1.ok.mod.kin a ob z)
    rw [n1] at e1; cases e1
  have hv1:vw X.K H' a = none:=(dy hKa).trans nH
  have hv2:vw X.K (upd H' a (En a C)) a = some (En a C):=(dy hKa).trans bI
  refine gy I7 hN hi (.inl hloc) (v:=.ref a) rfl (fun s8 I8=>?_) (.inr hloc)
  refine wpAny_mono ((hsu (.ref a)) pins s8 _ _ _ (I8.mark (.ref a)) (q a _ hv1 (jV (aw.upd nH)) hv2)) (fun f s9 z=>?_) fun _ _ z=>z.elim
  cases f with
  | next =>
   obtain ⟨σ9,H9,I9,q9⟩:=z
   have I9':=I9.unmark I.ok
   obtain ⟨m,hn,hl⟩:=id I9'.loc
   refine wpAny_nameGoes_keeps hloc hn (by rw [I.ok.kind]; rfl) fun h10 v10 hn10 hs10=>?_
   exact ⟨_,H9,I9'.unset hN hi hn hl hn10 hs10,q9⟩
  | brk=>obtain ⟨_,_,_,z⟩:=z; exact z.elim
  | cont=>obtain ⟨_,_,_,z⟩:=z; exact z.elim
  | ret u=>obtain ⟨_,_,_,_,_,z⟩:=z; exact z.elim
end
end L2
namespace L2
open PySem PySem.Spec PyProof.Rows
theorem lW.imp {P:Program} {w:World} {outer:List Env} {H:Hp} {s s':Shared} {E E':XK} {e:Value} (h:lW P w outer H s E e s') (k:∀ c o H',E c o H' -> E' c o H'):lW P w outer H s E' e s':=by
 obtain ⟨a,C,a0,B,H',h1,h2,h3,h4,h5,h6,h7,h8⟩:=h
 exact ⟨a,C,a0,B,H',h1,h2,h3,h4,h5,h6,h7,k _ _ _ h8⟩
structure Ez (P:Program) (w:World) (K:PySem.W.Frag) (mg:Str -> Option Value) (base:Heap) (k:Nat) (p C:Addr) (s:Shared) (H:Hp) (outer:List Env):Prop where
 fn:∃ oc od fd sl,s.heap.get? p = some ⟨oc,od,.func fd,sl⟩
 free:H p = none
 nof:p ∉ gD outer
 run:∀ (A':Around) (outer':List Env) (s':Shared),cW k A' -> oz P w K mg base A' outer' s' H -> (∀ b o,s.heap.get? b = some o -> H b = none -> b ∉ gD outer -> s'.heap.get? b = some o) ->
  codeAny (model P w) A' (.call (.ref p) ⟨[],[]⟩) (CR (lW P w) outer' P w H s' (fun _ _=>False) (fun c o H'=>c = .ref C /\ o = none /\ aw (vw K H) (vw K H'))) s'
theorem DH {X:Cx} {k i:Nat} {x:Str} {p C:Addr} {p1 p2:Pos} (hx0:X.ex = []) (L:Ez X.prog X.w X.K X.mg X.base k p C X.s₀ X.H₀ X.outer) (hr:cW k X.A) (hi:X.N[i]? = some x) (hv:Dy X.env.scope x)
  (hd:(x == ("__debug__" : Str)) = false:=by decide) (hcd:(x == ("__classdict__" : Str)) = false:=by decide) :
  PX X (.Call (.Name x p1) [] [] p2) (fun σ H E=>H = X.H₀ /\ σ[i]? = some (some (.ref p)) /\ ∀ H',aw (vw X.K X.H₀) (vw X.K H') -> E (.ref C) none H'):=by
 intro pins s σ H E I h
 obtain ⟨rfl,hσ,hE⟩:=h
 have nx:∀ b,b ∉ X.ex:=fun b z=>by rw [hx0] at z; exact absurd z (by simp)
 refine wpAny_Call_Name_kw ?_
 refine cI (yi (X:=X.wish fun ev s'=>∃ s1 H1,aG X pins σ H1 s1 /\ lW X.prog X.w X.stack H1 s1 E ev s') hi hv hd hcd pins s σ X.H₀ (fun v H1=>v = .ref p /\ H1 = X.H₀) (I.wish _) ⟨.ref p,hσ,rfl,rfl⟩) (fun u s1 z=>?_)
 obtain ⟨v,H1,I1,r,rfl,rfl⟩:=z
 have I1:=I1.unwish
 cases r
 have keep:∀ b o,X.s₀.heap.get? b = some o -> X.H₀ b = none -> b ∉ gD X.outer -> s1.heap.get? b = some o:=fun b o e n nf=>I1.base.keep b o e n nf (nx b)
 obtain ⟨oc,od,fd,sl,hfn⟩:=L.fn
 refine PySem.W.callWith_F0 ⟨oc,od,fd,sl,keep _ _ hfn L.free L.nof⟩ ?_
 refine wpAny_call (codeAny_mono (L.run X.A X.stack s1 hr I1.env0 keep) fun r s' hq=>?_)
 cases r with
 | error e =>
  have hq':lW X.prog X.w X.stack X.H₀ s1 (fun c o H'=>c = .ref C /\ o = none /\ aw (vw X.K X.H₀) (vw X.K H')) e s':=hq
  exact ⟨s1,X.H₀,I1,hq'.imp fun c o H' ⟨q1,q2,q3⟩=>by subst q1 q2; exact hE H' q3⟩
 | ok fl =>
  cases fl with
  | ret u=>obtain ⟨_,_,_,_,_,_,_,z⟩:=hq; exact z.elim
  | next=>exact False.elim hq
  | brk=>exact False.elim hq
  | cont=>exact False.elim hq
theorem Dq {CX:tG} {P:Program} {w:World} {K:PySem.W.Frag} {mg:Str -> Option Value} {base:Heap} {k:Nat} {f:Addr} {name qual:Str} {params:Arguments} {body:List Stmt} {scope:Scope} {dV kV doc pm cdv ct oc:Value} {an od:Option Addr}
  {osl:Array (Option Value)} {N ps:List Str} {A:Around} {outer:List Env} {s:Shared} {H:Hp} {args:Args} {us:List Value} {vs:List V} {Q:VK} {E:XK}
  (lk:K.lookup f = some ⟨oc,od,.func (PySem.W.fnOf name qual params body scope dV kV doc pm an cdv ct),osl⟩) (hcd:PySem.W.codeIn K cdv qual = true) (S:aq N ps scope)
  (hr:cW (k + 1) A) (e0:oz P w K mg base A outer s H) (hb:BindsTo s (PySem.W.fnOf name qual params body scope dV kV doc pm an cdv ct) args (ps.zip us)) (r:aX vs us) (hl:vs.length = ps.length)
  (hbody:cW k (A.deeper (envOfC qual scope s.heap.objs.size f cdv)) -> ∃ t,qD (fD CX P w K mg base N qual scope f cdv A outer s H E) body t /\ t { nx:=fun _ H'=>Q .non H',rt:=Q } (start N vs) H) :
  codeAny (model P w) A (.call (.ref f) args) (CR CX outer P w H s Q E) s:=by
 have KX:K.In s.heap:=e0.mod.kin.keeps fun b o e=>(e0.bs b o e).1
 have lim:s.heap.NoLimit:=e0.mod.nolimit.keeps fun b o e=>(e0.bs b o e).1
 have hkind:∀ y ∈ ps.zip us,scope.names.lookup y.1 = some .local \/ (scope.names.lookup y.1 = some .cell /\ ((cellsFrom (s.heap.objs.size + 1) scope.names []).lookup y.1).isSome = true):=fun ⟨n,v⟩ hy=>by
  rcases S.par n (List.of_mem_zip hy).1 with q | q
  ·exact .inl q
  ·exact .inr ⟨q,PySem.W.cellsFrom_some _ _ _ (.inl q)⟩
 refine codeAny_call_function hr.depth (KX _ _ lk) rfl S.co S.gen rfl (PySem.W.codeRec_of KX hcd) (hb _ _ _ _ ?_)
 refine wpAny_newFunctionEnv_cells S.kind hkind fun env he s1 x=>?_
 subst he
 refine ⟨lim.keeps x.toInCall.keep,codeAny_func ?_⟩
 obtain ⟨t,ht,hq⟩:=hbody (hr.deeper _)
 have I:aG (fD CX P w K mg base N qual scope f cdv A outer s H E) [] (start N vs) H s1:=oN S hr.hd e0 hl r x
 refine wpAny_mono (ht [] s1 (start N vs) H _ I hq) (fun fl s' hs=>?_) fun e s' hs=>hs
 have fin:∀ {σ':St} {H':Hp} {v:V} {u:Value},aG (fD CX P w K mg base N qual scope f cdv A outer s H E) [] σ' H' s' -> bO v u -> Q v H' -> CE outer P w H s Q u s' :=
  fun {σ' H' v u} J rv q=>⟨v,H',J.os,J.bare,J.base,J.hok,rv,q⟩
 cases fl with
 | ret u =>
  obtain ⟨v,σ',H',J,rv,q⟩:=hs
  exact fin J rv q
 | next =>
  obtain ⟨σ',H',J,q⟩:=hs
  exact fin (v:=V.non) (u:=Value.none) J rfl q
 | brk =>
  obtain ⟨_,_,_,q⟩:=hs
  exact False.elim q
 | cont =>
  obtain ⟨_,_,_,q⟩:=hs
  exact False.elim q
end L2
namespace L2
open PySem PySem.Spec PyProof.Rows
def rM (c:Addr) (qual:Str):HO:=.ext (fun h=>h.CodeRec (.ref c) qual)
def dh (H:Hp) (P:Addr) (qual:Str):Prop:=∃ ps,H P = some (.tbl ps) /\ TriplesOk ps.toList /\ ∀ pos cv,codeAmong pos ps.toList = some cv -> ∃ c,cv = .ref c /\ H c = some (rM c qual)
theorem oy {pos:Pos} {a b:Int} {c cv:Value} (l:List Value) (h:TriplesOk l) (z:codeAmong pos (l ++ [rawInt a,rawInt b,c]) = some cv):codeAmong pos l = some cv \/ cv = c:=by
 fun_induction TriplesOk l with
 | case1 =>
  simp only [List.nil_append,codeAmong,rawInt] at z
  split at z
  ·exact .inr (Option.some.inj z).symm
  ·cases z
 | case2 a' t b' u x fB ih =>
  simp only [List.cons_append,codeAmong] at z ⊢
  by_cases hh:(a' == (pos.line:Int) && b' == (pos.col:Int)) = true
  ·rw [if_pos hh] at z ⊢
   exact .inl z
  ·rw [if_neg hh] at z ⊢
   exact ih h z
 | case3 l h1 h2=>exact h.elim
theorem aG.tabbed {X:Cx} {pins:List (Addr × Obj)} {σ:St} {H:Hp} {s:Shared} {P c':Addr} {qual:Str} {ps more:Array Value} {h2:Heap} {t':Nat} (I:aG X pins σ H s) (hP:H P = some (.tbl ps)) (hx:Heap.ExtBut P s.heap h2) (hc:s.heap.objs.size <= c')
  (hr:h2.CodeRec (.ref c') qual) (hP2:h2.get? P = some { cls:=.none,data:=.fields (ps ++ more) }):aG X pins σ (upd (upd H P (.tbl (ps ++ more))) c' (rM c' qual)) { s with heap:=h2,toks:=t' }:=by
 have nc:H c' = none:=I.hok.fresh hc
 have cP:c' ≠ P:=fun z=>by rw [z,hP] at nc; cases nc
 have nP:∀ b,H b = none -> b ≠ P:=fun b n z=>by rw [z,hP] at n; cases n
 have old:∀ b o,s.heap.get? b = some o -> b ≠ c':=fun b o e z=>by rw [z] at e; exact absurd (Nat.lt_of_lt_of_le (Heap.lt_size e) hc) (Nat.lt_irrefl _)
 have Fd:∀ b u,H b = some u -> (∀ q,u ≠ .tbl q) -> upd (upd H P (.tbl (ps ++ more))) c' (rM c' qual) b = some u:=fun b u e nt=>by
  rw [aQ (ak e nc),aQ (fun z=>by rw [z,hP] at e; cases e; exact nt _ rfl)]
  exact e
 refine I.step (h':=h2) (g':=s.gens) (d':=s.drawn) (t':=t') (ch:=[]) (fun _ z=>nomatch z) (fun b o _ _ _ e n=>hx b o (nP b n) e) (fun b o _ _ _ e n=>⟨o.slots,hx b o (nP b n) e⟩) (fun b o _ e n=>?_) (fun b o _ e=>?_)
  (fun b xs e=>Fd b _ e (fun _ z=>by cases z)) (fun b o u e=>Fd b _ e (fun _ z=>by cases z)) (fun b qs e=>?_) (fun m hm=>?_) (fun b u e=>?_) I.bare
 ·rw [aQ (old b o e),aQ (nP b n)]
  exact n
 ·by_cases hb:b = P
  ·exact ⟨_,by rw [hb]; exact hP2⟩
  ·exact ⟨o,hx b o hb e⟩
 ·by_cases hb:b = P
  ·subst hb
   rw [hP] at e
   cases e
   exact ⟨more,by rw [aQ (Ne.symm cP),bI]⟩
  ·exact ⟨#[],by rw [aQ (ak e nc),aQ hb,e]; simp⟩
 ·obtain ⟨o,es,ep,ho,r⟩:=hm
  exact ⟨o,es,ep,hx _ o (nP _ I.free) ho,r⟩
 ·by_cases hb:b = c'
  ·subst hb
   rw [bI] at e
   cases e
   obtain ⟨c2,oc,vs,t,e1,e2,e3⟩:=id hr
   cases e1
   exact ⟨hr,⟨_,e2⟩,fun ha hb ⟨c3,o3,v3,t3,q1,q2,q3⟩ k=>by cases q1; exact ⟨_,o3,v3,t3,rfl,k o3 q2,q3⟩⟩
  ·rw [aQ hb] at e
   by_cases hp:b = P
   ·subst hp
    rw [bI] at e
    cases e
    exact hP2
   ·rw [aQ hp] at e
    refine (I.hok b u e).stay (fun c v hc' q=>hx c v (fun z=>?_) q) (fun c q=>Fd c _ q fun _ z=>by cases z) fun c xs q=>Fd c _ q fun _ z=>by cases z
    rcases hc' with z2 | z2
    ·exact hp (z2.symm.trans z)
    ·rw [z,hP] at z2; cases z2
theorem qo {env:Env}:∀ (l:List (Str × NameKind)) (acc:List (Str × Addr)),(∀ q ∈ l,q.2 = .free -> ∃ c,env.cells.lookup q.1 = some c) -> (∀ x ∈ acc,env.cells.lookup x.1 = some x.2) ->
  ∃ r,(forIn l acc (fun (x:Str × NameKind) (cs:List (Str × Addr))=>(if (x.2 == NameKind.free) = true then do let c <- cellOf env x.1; pure (ForInStep.yield ((x.1,c) :: cs)) else pure (ForInStep.yield cs):Sem (ForInStep (List (Str × Addr))))):Sem (List (Str × Addr))) = pure r /\
   (∀ x ∈ r,env.cells.lookup x.1 = some x.2) /\ (∀ q ∈ l,q.2 = .free -> ∃ c,(q.1,c) ∈ r) /\ ∀ x ∈ acc,x ∈ r
 | [],acc,_,ha=>⟨acc,rfl,ha,by simp,fun _ z=>z⟩
 | q :: l,acc,h,ha=>by
  obtain ⟨n,kd⟩:=q
  rw [List.forIn_cons]
  by_cases hk:kd = .free
  ·subst hk
   obtain ⟨c,hc⟩:=h (n,.free) (by simp) rfl
   obtain ⟨r,e1,e2,e3,e4⟩:=qo (env:=env) l ((n,c) :: acc) (fun q hq=>h q (by simp [hq])) (fun x hx=>by
    rcases List.mem_cons.mp hx with z | z
    ·rw [z]; exact hc
    ·exact ha x z)
   refine ⟨r,?_,e2,fun q hq hf=>?_,fun x hx=>e4 x (by simp [hx])⟩
   ·simp only [cellOf,hc,pure_bind,beq_self_eq_true,if_true]
    exact e1
   ·rcases List.mem_cons.mp hq with z | z
    ·rw [z]; exact ⟨c,e4 _ (by simp)⟩
    ·exact e3 q z hf
  ·obtain ⟨r,e1,e2,e3,e4⟩:=qo (env:=env) l acc (fun q hq=>h q (by simp [hq])) ha
   refine ⟨r,?_,e2,fun q hq hf=>?_,e4⟩
   ·have:(kd == NameKind.free) = false:=by simpa using hk
    simp only [this,Bool.false_eq_true,if_false,pure_bind]
    exact e1
   ·rcases List.mem_cons.mp hq with z | z
    ·rw [z] at hf; exact absurd hf hk
    ·exact e3 q z hf
theorem Aq {env:Env} {scope:Scope} (h:∀ q ∈ scope.names,q.2 = .free -> ∃ c,env.cells.lookup q.1 = some c):∃ r,closureFor scope env = pure r /\ (∀ x ∈ r,env.cells.lookup x.1 = some x.2) /\ (∀ q ∈ scope.names,q.2 = .free -> ∃ c,(q.1,c) ∈ r):=by
 obtain ⟨r,e1,e2,e3,_⟩:=qo (env:=env) scope.names [] h (by simp)
 refine ⟨r,?_,e2,e3⟩
 unfold closureFor
 have e1':=e1
 first
  | (rw [<- e1]; simp; done)
  | (simp only [bind_pure]; rw [<- e1]; rfl)
  | (show (forIn scope.names [] _ >>= pure) = _; rw [bind_pure]; rw [<- e1]; rfl)
end L2
namespace L2
open PySem PySem.Spec PyProof.Rows
structure ud (X:Cx) (c P:Addr):Prop where
 code:X.env.code = .ref c
 hd:PySem.W.CodeHd X.base c P
 bi:∃ bm o,X.mg "__builtins__" = some (.ref bm) /\ bm ≠ builtinsNs /\ bm ≠ mainGlobals /\ X.base.get? bm = some o /\ o.cls = .type "module" /\ o.dict = some builtinsNs /\ o.data = .plain
abbrev ke (X:Cx):Str:=X.env.qual ++ "<lambda>"
theorem xt {X:Cx} {pins:List (Addr × Obj)} {σ:St} {H:Hp} {s:Shared} {params:Arguments} {body:Expr} {scope:Scope} {pos:Pos} {c P:Addr} {M':Model} {A':Around} {Q:Value -> Shared -> Prop} {E:Value -> Shared -> Prop}
  (M:ud X c P) (hdef:defaultsOf params X.env = ([],[])) (I:aG X pins σ H s) (hT:dh H P (ke X)) (hfree:∀ q ∈ scope.names,q.2 = .free -> X.env.kindOf q.1 = some .cell)
  (k:∀ (p c':Addr) (pm ctv:Value) (clos:List (Str × Addr)) (H1:Hp) (s1:Shared),(∀ x ∈ clos,X.env.cells.lookup x.1 = some x.2) -> (∀ q ∈ scope.names,q.2 = .free -> ∃ c,(q.1,c) ∈ clos) -> aG X pins σ H1 s1 -> dI P H H1 -> dh H1 P (ke X) ->
   s1.heap.get? p = some (PySem.W.kla_obj "<lambda>" (ke X) params body scope clos pm c' ctv) -> H1 p = none -> s.heap.objs.size <= p -> H1 c' = some (rM c' (ke X)) -> Q (.ref p) s1) :
  wpAny M' A' (eval (.Lambda params body scope pos) X.env) Q E s:=by
 obtain ⟨clos,hcl,hc1,hc2⟩:=Aq (env:=X.env) (scope:=scope) fun q hq hf=>I.ok.has q.1 (.inl (hfree q hq hf))
 refine PySem.W.kla_eval hdef ?_
 obtain ⟨ps,hP,ht,hall⟩:=hT
 have oP:s.heap.get? P = some (PySem.W.tabObj ps):=I.hok P _ hP
 obtain ⟨bm,o,b1,b2,b3,b4,b5,b6,b7⟩:=M.bi
 have bP:bm ≠ P:=fun z=>by
  have:=(I.bs bm o b4).2
  rw [z,hP] at this; cases this
 have gP:mainGlobals ≠ P:=fun z=>by
  obtain ⟨og,_,_,eg,_⟩:=I.mod.glob
  have:=(I.bs _ og eg).2
  rw [z,hP] at this; cases this
 have hb:s.heap.BuiltinsAt X.mg P:=⟨bm,o,b1,b2,b3,bP,I.bk _ _ b4,b5,b6,b7⟩
 cases hh:codeAmong pos ps.toList with
 | none =>
  refine PySem.W.kla_makeFunction hcl I.ok.glob (I.mod.glob.keeps I.bk) M.code (M.hd.keeps I.bk) oP ht hh gP hb fun c' ctv h' tk hx hge hlt hrec htb=>?_
  have I1:=I.tabbed (t':=tk) hP hx hge hrec htb
  have I2:=I1.kept (t':=tk) (h':=h'.push (PySem.W.kla_obj "<lambda>" (ke X) params body scope clos ((X.mg "__name__").getD .none) c' ctv)) fun b o e=>Heap.get?_push_of_some _ e
  have nc:H c' = none:=I.hok.fresh hge
  have cP:c' ≠ P:=fun z=>by rw [z,hP] at nc; cases nc
  have hle:s.heap.objs.size <= h'.objs.size:=Nat.le_trans hge (Nat.le_of_lt hlt)
  refine k _ c' _ ctv clos _ _ hc1 hc2 I2 (fun b o hb e=>?_) ⟨_,by rw [aQ (Ne.symm cP),bI],?_,fun pos' cv z=>?_⟩ (Heap.get?_push_size _ rfl) (I1.hok.fresh (Nat.le_refl _)) hle bI
  ·rw [aQ (ak e nc),aQ hb]
   exact e
  ·rw [Array.toList_append]
   exact TriplesOk_snoc _ _ _ _ ht
  ·rw [Array.toList_append] at z
   rcases oy _ ht z with q | q
   ·obtain ⟨c2,e2,e3⟩:=hall pos' cv q
    refine ⟨c2,e2,?_⟩
    rw [aQ (ak e3 nc),aQ (fun z=>by rw [z,hP] at e3; cases e3)]
    exact e3
   ·exact ⟨c',q,bI⟩
 | some cv =>
  obtain ⟨c',rfl,hcO⟩:=hall pos cv hh
  refine PySem.W.kla_makeFunctionHit hcl I.ok.glob (I.mod.glob.keeps I.bk) M.code (M.hd.keeps I.bk) oP ht hh hb fun ctv h' tk hk hsz=>?_
  have I1:=I.kept (t':=tk) (h':=h') hk
  have I2:=I1.kept (t':=tk) (h':=h'.push (PySem.W.kla_obj "<lambda>" (ke X) params body scope clos ((X.mg "__name__").getD .none) c' ctv)) fun b o e=>Heap.get?_push_of_some _ e
  exact k _ c' _ ctv clos _ _ hc1 hc2 I2 (fun b o _ e=>e) ⟨ps,hP,ht,hall⟩ (Heap.get?_push_size _ rfl) (I1.hok.fresh (Nat.le_refl _)) hsz hcO
def pO (P:Program) (w:World) (K:PySem.W.Frag) (mg:Str -> Option Value) (base:Heap) (N:List Str) (qual:Str) (scope:Scope) (p:Addr) (cd:Value) (cl:List (Str × Addr)) (A:Around) (outer:List Env) (s:Shared) (H:Hp):Cx where
 prog:=P
 w:=w
 K:=K
 mg:=mg
 base:=base
 A:=A.deeper (PySem.W.envX qual scope s.heap.objs.size p cd cl)
 N:=N
 s₀:=s
 H₀:=H
 env:=PySem.W.envX qual scope s.heap.objs.size p cd cl
 outer:=outer
 stack:=PySem.W.envX qual scope s.heap.objs.size p cd cl :: outer
 ex:=[]
 fn:=fun _=>false
 calm:=true
 pn:=[]
 xe:=fun _ _=>False
theorem jy {cl:List (Str × Addr)} {f:Str -> Option Addr} (h:∀ x ∈ cl,f x.1 = some x.2) {n:Str} {c:Addr} (hm:(n,c) ∈ cl):cl.lookup n = some c:=by
 induction cl with
 | nil=>cases hm
 | cons q r ih =>
  obtain ⟨m,d⟩:=q
  rw [List.lookup_cons]
  by_cases e:n = m
  ·subst e
   have h1:=h (n,d) (by simp)
   have h2:=h (n,c) hm
   rw [h1] at h2
   cases h2
   simp
  ·have:(n == m) = false:=by simpa using e
   rw [this]
   refine ih (fun x hx=>h x (by simp [hx])) ?_
   rcases List.mem_cons.mp hm with z | z
   ·cases z; exact absurd rfl e
   ·exact z
theorem gd {cl:List (Str × Addr)} {n:Str} {c:Addr} (h:cl.lookup n = some c):(n,c) ∈ cl:=by
 induction cl with
 | nil=>cases h
 | cons q r ih =>
  obtain ⟨m,d⟩:=q
  rw [List.lookup_cons] at h
  by_cases e:(n == m) = true
  ·rw [e] at h
   cases h
   rw [eq_of_beq e]
   simp
  ·have:(n == m) = false:=by simpa using e
   rw [this] at h
   exact List.mem_cons_of_mem _ (ih h)
end L2
namespace L2
open PySem PySem.Spec PyProof.Rows
theorem Bk {P:Program} {w:World} {K:PySem.W.Frag} {mg:Str -> Option Value} {base:Heap} {N:List Str} {qual:Str} {scope:Scope} {p:Addr} {cd:Value} {cl:List (Str × Addr)} {A:Around} {outer:List Env} {s:Shared} {H:Hp} {σ:St} {h1:Heap} {t:Nat} {g:Str -> Option Addr}
  (hk:scope.kind = .function) (hh:A.handled = none) (e0:oz P w K mg base A outer s H) (hg:∀ x ∈ cl,g x.1 = some x.2) (hinj:∀ x y c,g x = some c -> g y = some c -> x = y) (hfr:∀ q ∈ scope.names,q.2 = .free -> ∃ c,(q.1,c) ∈ cl) (hnc:∀ q ∈ scope.names,q.2 ≠ .cell)
  (hns:h1.Ns s.heap.objs.size (fun _=>none)) (keep:∀ b o,s.heap.get? b = some o -> h1.get? b = some o) (hcell:∀ x c,cl.lookup x = some c -> H c = none /\ ∃ v,s.heap.IsCell c v)
  (hloc:∀ (i:Nat) (x:Str) (v:V),N[i]? = some x -> σ[i]? = some (some v) -> scope.names.lookup x = some .free /\ ∃ u c,bO v u /\ cl.lookup x = some c /\ s.heap.IsCell c (some u)) (hlen:σ.length = N.length) :
  aG (pO P w K mg base N qual scope p cd cl A outer s H) [] σ H { s with heap:=h1,toks:=t }:=by
 have noA:∀ b:Addr,b ∉ (pO P w K mg base N qual scope p cd cl A outer s H).ex:=fun b z=>absurd (show b ∈ ([]:List Addr) from z) (by simp)
 refine ⟨⟨e0.mod,hk,rfl,rfl,Nat.le_refl _,fun x y c h1 h2=>?_,fun x hx=>?_,(fun x c h=>nomatch h),fun _=>hh,Around.frames_deeper e0.frames,.inr ⟨rfl,rfl⟩,fun b z=>absurd z (noA b),e0.bs,e0.bsz,fun b _ _=>noA b,fun b z=>absurd z (noA b),e0.funs,e0.frf⟩,
  rfl,e0.bare,Un.kept keep,⟨_,hns,fun i x v h1 h2 h3=>?_⟩,fun x c h=>?_,e0.hok.fresh (Nat.le_refl _),fun x c h=>(hcell x c h).1,fun q hq=>absurd (show q ∈ ([]:List (Addr × Obj)) from hq) (by simp),e0.hok.kept keep,hlen⟩
 ·exact hinj x y c (hg _ (gd h1)) (hg _ (gd h2))
 ·have hx':scope.names.lookup x = some .cell \/ scope.names.lookup x = some .free:=hx
  rcases hx' with z | z
  ·exact absurd rfl (hnc _ (PySem.mem_of_lookup z))
  ·obtain ⟨c,hc⟩:=hfr _ (PySem.mem_of_lookup z) rfl
   exact ⟨c,jy hg hc⟩
 ·obtain ⟨hf,u,c,r,hc,o,ho,hd⟩:=hloc i x v h1 h2
  exact ⟨u,r,.inr ⟨.inr hf,c,hc,o,keep _ _ ho,hd⟩⟩
 ·obtain ⟨_,v,o,ho,hd⟩:=hcell x c h
  exact ⟨v,o,keep _ _ ho,hd⟩
theorem Dc {X:Cx} {pins:List (Addr × Obj)} {σ σl:St} {H:Hp} {s:Shared} {params:Arguments} {body:Expr} {scope:Scope} {qual:Str} {p c' C:Addr} {pm ctv:Value} {clos:List (Str × Addr)} {Nl:List Str} {k:Nat} {tl:St -> Hp -> XK -> Prop}
  (hfn:∀ x,X.fn x = true) (I:aG X pins σ H s) (hc1:∀ x ∈ clos,X.env.cells.lookup x.1 = some x.2) (hc2:∀ q ∈ scope.names,q.2 = .free -> ∃ c,(q.1,c) ∈ clos)
  (hp:s.heap.get? p = some (PySem.W.kla_obj "<lambda>" qual params body scope clos pm c' ctv)) (hpn:H p = none) (hpf:p ∉ gD X.stack) (hco:H c' = some (rM c' qual))
  (hk:scope.kind = .function) (hnc:∀ q ∈ scope.names,q.2 ≠ .cell) (hsc:scope.isCoroutine = false /\ scope.isGenerator = false) (hbind:bindArgs (PySem.W.kla_fn "<lambda>" qual params body scope clos pm (.ref c') ctv) ⟨[],[]⟩ = pure [])
  (hN:∀ (i:Nat) (x:Str) (v:V),Nl[i]? = some x -> σl[i]? = some (some v) -> scope.names.lookup x = some .free /\ X.env.kindOf x = some .cell /\ ∃ j:Nat,X.N[j]? = some x /\ σ[j]? = some (some v)) (hlen:σl.length = Nl.length)
  (hb:∀ (A':Around) (outer':List Env) (s':Shared),cW k (A'.deeper (PySem.W.envX qual scope s'.heap.objs.size p (.ref c') clos)) -> PX (pO X.prog X.w X.K X.mg X.base Nl qual scope p (.ref c') clos A' outer' s' H) body tl)
  (ht:tl σl H fun c o H'=>c = .ref C /\ o = none /\ aw (vw X.K H) (vw X.K H')):Ez X.prog X.w X.K X.mg X.base (k + 1) p C s H X.stack:=by
 have cells:∀ x c,clos.lookup x = some c -> X.env.cells.lookup x = some c:=fun x c h=>hc1 _ (gd h)
 have cfree:∀ x c,X.env.cells.lookup x = some c -> c ∉ gD X.stack:=fun x c e z=>by
  rcases List.mem_cons.mp (I.stkSub c z) with q | q
  ·exact I.cne x c e q
  ·obtain ⟨_,o,ho,_⟩:=I.ok.funs.mem q
   exact absurd (Nat.lt_of_lt_of_le (Heap.lt_size ho) (I.ok.cab x c (hfn x) e)) (Nat.lt_irrefl _)
 refine ⟨⟨_,_,_,_,hp⟩,hpn,hpf,fun A' outer' s' hr e0 keep=>?_⟩
 have KX:X.K.In s'.heap:=e0.mod.kin.keeps fun b o e=>(e0.bs b o e).1
 have lim:s'.heap.NoLimit:=e0.mod.nolimit.keeps fun b o e=>(e0.bs b o e).1
 have hrec:s'.heap.CodeRec (.ref c') qual:=(e0.hok c' _ hco).1
 have cellAt:∀ x c v,X.env.cells.lookup x = some c -> s.heap.IsCell c v -> s'.heap.IsCell c v:=fun x c v e ⟨o,ho,hd⟩=>⟨o,keep c o ho (I.freeC x c e) (cfree x c e),hd⟩
 refine PySem.W.kla_callFunE hr.depth (keep _ _ hp hpn hpf) rfl hsc.1 hsc.2 rfl hrec ?_
 rw [hbind]
 refine wpAny_pure (wpAny_newFunctionEnv hnc (fun y hy=>absurd hy (by simp)) (fun h1 hns hsb=>⟨lim.fresh _ hsb,?_⟩) hk)
 show codeAny _ _ (.expr body (PySem.W.envX qual scope s'.heap.objs.size p (.ref c') clos)) _ _
 have kp:∀ b o,s'.heap.get? b = some o -> h1.get? b = some o:=fun b o e=>hsb.extBut b o (Nat.ne_of_lt (Heap.lt_size e)) (Heap.get?_push_of_some _ e)
 have J:aG (pO X.prog X.w X.K X.mg X.base Nl qual scope p (.ref c') clos A' outer' s' H) [] σl H { s' with heap:=h1,toks:=s'.toks + ([]:List (Str × Value)).length }:=by
  refine Bk (g:=fun x=>X.env.cells.lookup x) hk hr.hd e0 hc1 (fun x y c h1 h2=>I.ok.inj x y c h1 h2) hc2 hnc (by simpa using hns) kp (fun x c e=>⟨I.freeC x c (cells x c e),?_⟩) (fun i x v e1 e2=>?_) hlen
  ·obtain ⟨v,z⟩:=I.cell x c (cells x c e)
   exact ⟨v,cellAt x c v (cells x c e) z⟩
  ·obtain ⟨f1,f2,j,f3,f4⟩:=hN i x v e1 e2
   obtain ⟨m,hn,hl⟩:=I.loc
   obtain ⟨u,r,l⟩:=hl j x v f3 f4 (.inr (.inl f2))
   refine ⟨f1,u,?_⟩
   rcases l with ⟨z,_⟩ | ⟨_,c,hc,hz⟩
   ·rw [f2] at z; cases z
   ·obtain ⟨c2,hm⟩:=hc2 _ (PySem.mem_of_lookup f1) rfl
    have l2:=jy (f:=fun x=>X.env.cells.lookup x) hc1 hm
    have e3:=cells _ _ l2
    rw [hc] at e3
    cases e3
    exact ⟨c,r,l2,cellAt x c _ hc hz⟩
 refine PySem.W.kla_codeExpr (wpAny_mono ((hb A' outer' s' (hr.deeper _)) [] _ σl H _ J ht) (fun _ _ z=>z.elim) fun ev s2 z=>?_)
 obtain ⟨s3,H3,J3,z⟩:=z
 exact J3.passed rfl rfl rfl z fun _ _ _ q=>q
end L2
namespace L2
open PySem PySem.Spec PyProof.Rows
def Gh:V -> Value -> Prop
 | .ref a,u=>u = .ref a
 | .ty n,u=>u = .type n
 | _,_=>False
theorem cc {X:Cx}:dF X (.builtin "isinstance") (fun xs H Q=>∃ p c,xs = [.ref p,c] /\ ∃ C,vw X.K H p = some (En p C) /\ qT X.K C /\ ∃ cv,Gh c cv /\ ∃ b,PySem.W.kitOne X.K (.ref C) cv = some b /\ Q (.bl b) H):=by
 intro pins s σ H xs us Q I r h
 obtain ⟨p,c,rfl,C,hp,Z,cv,hc,b,hk,q⟩:=h
 obtain ⟨u,w',rfl,rx,ry⟩:=vt r
 cases rx
 have e1:w' = cv:=by
  cases c with
  | ref a=>exact (show w' = Value.ref a from ry).trans hc.symm
  | ty n=>exact (show w' = Value.type n from ry).trans hc.symm
  | non=>exact hc.elim
  | bl _=>exact hc.elim
  | int _=>exact hc.elim
  | str _=>exact hc.elim
  | byt _=>exact hc.elim
  | flt _=>exact hc.elim
 subst e1
 have hx:zo p C s.heap:=(I.hok p _ (jB hp (fun _ z=>by cases z))).1
 exact PySem.W.kia_one (yA Z) I.kIn hx hk (by intro z; cases z) fun tk=>⟨.bl b,H,I.tok tk,rfl,q⟩
def zk:List Str:=["NoFraction", "NoPolynomial", "NoSums", "NoFlock", "NoWalk", "NoSum", "NoDeed", "NoText", "NoRow"]
structure vP (K:PySem.W.Frag) (mg:Str -> Option Value) (C:Addr) (i:Nat):Prop where
 cls:qT K C
 kinds:∀ (j:Nat) (n:Str),zk[j]? = some n -> ∃ c,mg n = some (.ref c) /\ PySem.W.kitOne K (.ref C) (.ref c) = some (decide (j = i))
 mom:∃ c,mg "MomentError" = some (.ref c) /\ PySem.W.exmOne K (.ref C) (.ref c) = some true
 ve:PySem.W.kitOne K (.ref C) (.type "ValueError") = some true
structure vx (P:Program) (w:World) (K:PySem.W.Frag) (mg:Str -> Option Value) (base:Heap) (kl:Nat):Prop where
 ex:∃ f,mg "_law_refused" = some (.ref f) /\ PySem.W.keepIn K (.ref f) = true /\ ∀ (A:Around) (outer:List Env) (s:Shared) (H:Hp) (p C:Addr) (i:Nat) (Q:VK),cW (kl + 1) A -> oz P w K mg base A outer s H -> Ez P w K mg base kl p C s H outer -> vP K mg C i -> i < 9 ->
  (∀ q H',aw (vw K H) (vw K H') -> vw K H q = none -> vw K H' q = some (.lst [.int i]) -> Q (.ref q) H') -> codeAny (model P w) A (.call (.ref f) ⟨[.ref p],[]⟩) (CR cV outer P w H s Q E0) s
theorem aG.vwT {X:Cx} {pins:List (Addr × Obj)} {σ:St} {H:Hp} {s:Shared} {b:Addr} {o:HO} (I:aG X pins σ H s) (e:H b = some o):vw X.K H b = some o:=by
 have hk:X.K.lookup b = none:=by
  cases z:X.K.lookup b with
  | none=>rfl
  | some ob =>
   have:=(I.bs b ob (I.ok.mod.kin b ob z)).2
   rw [e] at this; cases this
 rw [dy hk]
 exact e
theorem dh.raw {K:PySem.W.Frag} {H:Hp} {P:Addr} {qual:Str} (h:dh (vw K H) P qual):dh H P qual:=by
 obtain ⟨ps,h1,h2,h3⟩:=h
 refine ⟨ps,jB h1 (fun _ z=>by cases z),h2,fun pos cv z=>?_⟩
 obtain ⟨c,e1,e2⟩:=h3 pos cv z
 exact ⟨c,e1,jB e2 (fun _ z=>by cases z)⟩
theorem aG.tabV {X:Cx} {pins:List (Addr × Obj)} {σ:St} {H:Hp} {s:Shared} {P:Addr} {qual:Str} (I:aG X pins σ H s) (h:dh H P qual):dh (vw X.K H) P qual:=by
 obtain ⟨ps,h1,h2,h3⟩:=h
 refine ⟨ps,I.vwT h1,h2,fun pos cv z=>?_⟩
 obtain ⟨c,e1,e2⟩:=h3 pos cv z
 exact ⟨c,e1,I.vwT e2⟩
def xf (K:PySem.W.Frag) (P:Addr) (qual:Str) (ixs:List Nat) (C:Addr) (i:Nat) (tl:St -> Hp -> XK -> Prop):TE:=fun σ H Q=>dh (vw K H) P qual /\ ∀ H1,dI P (vw K H) (vw K H1) -> dh (vw K H1) P qual -> ∃ σl:St,σl = ixs.map (fun j=>(σ[j]?).join) /\ tl σl H1 (fun c o H'=>c = .ref C /\ o = none /\ aw (vw K H1) (vw K H')) /\
 ∀ q H',aw (vw K H1) (vw K H') -> vw K H1 q = none -> vw K H' q = some (.lst [.int i]) -> Q (.ref q) H'
theorem AW {X:Cx} {params:Arguments} {body:Expr} {scope:Scope} {c P C:Addr} {kl i:Nat} {p1 lpos pos:Pos} {Nl:List Str} {ixs:List Nat} {tl:St -> Hp -> XK -> Prop}
  (R:vx X.prog X.w X.K X.mg X.base (kl + 1)) (M:ud X c P) (hr:cW (kl + 2) X.A) (hg:Gl X "_law_refused") (Z:vP X.K X.mg C i) (hi:i < 9) (hfn:∀ x,X.fn x = true) (hdef:defaultsOf params X.env = ([],[]))
  (hfree:∀ q ∈ scope.names,q.2 = .free -> X.env.kindOf q.1 = some .cell) (hk:scope.kind = .function) (hnc:∀ q ∈ scope.names,q.2 ≠ .cell) (hsc:scope.isCoroutine = false /\ scope.isGenerator = false)
  (hbind:∀ clos pm c' ctv,bindArgs (PySem.W.kla_fn "<lambda>" (ke X) params body scope clos pm (.ref c') ctv) ⟨[],[]⟩ = pure []) (hlen:ixs.length = Nl.length) (hNl:∀ (j:Nat) (x:Str),Nl[j]? = some x -> scope.names.lookup x = some .free /\ ∃ l,ixs[j]? = some l /\ X.N[l]? = some x)
  (hb:∀ (p c':Addr) (clos:List (Str × Addr)) (H1:Hp) (A':Around) (outer':List Env) (s':Shared),cW kl (A'.deeper (PySem.W.envX (ke X) scope s'.heap.objs.size p (.ref c') clos)) -> PX (pO X.prog X.w X.K X.mg X.base Nl (ke X) scope p (.ref c') clos A' outer' s' H1) body tl)
  (he:starEach [Expr.Lambda params body scope lpos] X.env = [(false,eval (.Lambda params body scope lpos) X.env)]:=by rfl) :
  PE X (.Call (.Name "_law_refused" p1) [.Lambda params body scope lpos] [] pos) (xf X.K P (ke X) ixs C i tl):=by
 intro pins s σ H Q I h
 obtain ⟨hT,h⟩:=h
 obtain ⟨f,hm,hkp,run⟩:=R.ex
 refine wpAny_Call_Name_kw (iU I hg hm ?_ (by decide))
 refine PySem.W.callWith_K (h₀:=X.base) I.ok.mod.kin hkp ?_ he rfl
 rw [he]
 show wpAny _ _ (spliced [(false,eval (.Lambda params body scope lpos) X.env)]) _ _ s
 refine Calls.spliced_cons (xt M hdef I (dh.raw hT) hfree fun p c' pm ctv clos H1 s1 hc1 hc2 I1 B1 T1 hp hpn hps hco=>?_)
 refine Calls.spliced_nil ⟨I1.kIn,?_⟩
 obtain ⟨σl,eσ,ht,fin⟩:=h H1 (tz B1) (I1.tabV T1)
 have hpf:p ∉ gD X.stack:=fun z=>by
  rcases List.mem_cons.mp (I.stkSub p z) with q | q
  ·exact absurd (Nat.lt_of_lt_of_le I.lt (q ▸ hps)) (Nat.lt_irrefl _)
  ·exact I.nofs hps q
 have L:Ez X.prog X.w X.K X.mg X.base (kl + 1) p C s1 H1 X.stack:=by
  refine Dc (σl:=σl) (Nl:=Nl) hfn I1 hc1 hc2 hp hpn hpf hco hk hnc hsc (hbind clos pm c' ctv) (fun j x v e1 e2=>?_) (by rw [eσ,List.length_map]; exact hlen) (fun A' outer' s' hr'=>hb p c' clos H1 A' outer' s' hr') ht
  obtain ⟨a1,l,a2,a3⟩:=hNl j x e1
  rw [eσ,List.getElem?_map,a2] at e2
  have e3:(σ[l]?).join = some v:=by
   have e4:some ((σ[l]?).join) = some (some v):=e2
   exact Option.some.inj e4
  refine ⟨a1,hfree _ (PySem.mem_of_lookup a1) rfl,l,a3,?_⟩
  cases e5:σ[l]? with
  | none=>rw [e5] at e3; cases e3
  | some w=>rw [e5] at e3; cases w with
   | none=>cases e3
   | some w=>cases e3; rfl
 refine wpAny_call (codeAny_mono (run X.A X.stack s1 H1 p C i Q hr I1.env0 L Z hi fin) fun r s' hq=>?_)
 cases r with
 | error e=>exact False.elim hq
 | ok fl =>
  cases fl with
  | ret u=>exact I1.after hq
  | next=>exact False.elim hq
  | brk=>exact False.elim hq
  | cont=>exact False.elim hq
def oo (G G':Hp):Prop:=∀ b o,G b = some o -> (∀ ps,o ≠ .tbl ps) -> G' b = some o
theorem oo.of {G G':Hp} (S:aw G G'):oo G G':=fun b o e _=>S b o e
theorem oo.trans {G G1 G2:Hp} (a:oo G G1) (b:oo G1 G2):oo G G2:=fun c o e n=>b c o (a c o e n) n
theorem oo.rfl {G:Hp}:oo G G:=fun _ _ e _=>e
theorem oo.but {G G':Hp} {P:Addr} {ps:Array Value} (h:G P = some (.tbl ps)) (B:dI P G G'):oo G G':=fun b o e n=>B b o (fun z=>by rw [z,h] at e; cases e; exact n _ _root_.rfl) e
theorem dh.same {G G':Hp} {P:Addr} {qual:Str} (h:dh G P qual) (S:aw G G'):dh G' P qual:=by
 obtain ⟨ps,h1,h2,h3⟩:=h
 refine ⟨ps,S _ _ h1,h2,fun pos cv z=>?_⟩
 obtain ⟨c,e1,e2⟩:=h3 pos cv z
 exact ⟨c,e1,S _ _ e2⟩
theorem dh.start {G:Hp} {P:Addr} {qual:Str} (h:G P = some (.tbl #[])):dh G P qual:=⟨#[],h,trivial,fun pos cv z=>by cases z⟩
mutual
theorem aC.smT {H H':Hp} (S:oo H H'):∀ (d:D) (v:V),aC H d v -> aC H' d v
 | .non,v,h=>by unfold aC at *; exact h
 | .bl _,v,h=>by unfold aC at *; exact h
 | .int _,v,h=>by unfold aC at *; exact h
 | .str _,v,h=>by unfold aC at *; exact h
 | .tup ds,v,h=>by
  obtain ⟨a,xs,rfl,ha,r⟩:=h.tup_at
  exact .mk_tup (S _ _ ha (fun _ z=>by cases z)) (aF.smT S ds xs r)
 | .lst ds,v,h=>by
  obtain ⟨a,xs,rfl,ha,r⟩:=h.lst_at
  exact .mk_lst (S _ _ ha (fun _ z=>by cases z)) (aF.smT S ds xs r)
 | .dict,v,h=>by
  unfold aC at *
  obtain ⟨a,kvs,e,ha⟩:=h
  exact ⟨a,kvs,e,S _ _ ha (fun _ z=>by cases z)⟩
theorem aF.smT {H H':Hp} (S:oo H H'):∀ (ds:List D) (xs:List V),aF H ds xs -> aF H' ds xs
 | [],xs,h=>by cases h.nil_at; exact .mk_nil
 | d :: ds,xs,h=>by
  obtain ⟨x,r,rfl,h1,h2⟩:=h.cons_at
  exact .mk_cons (aC.smT S d x h1) (aF.smT S ds r h2)
end
theorem aH.smT {G G':Hp} {a:Addr} {qs:List (Int × Int)} (h:aH G a qs) (S:oo G G'):aH G' a qs:=by
 obtain ⟨xs,e,r⟩:=h
 exact ⟨xs,S _ _ e (fun _ z=>by cases z),aF.smT S _ _ r⟩
end L2
namespace L2
open PySem PySem.Spec PyProof.Rows
theorem jw.smT {K:PySem.W.Frag} {H H':Hp} {a:Addr} {xs:List V} (h:jw K H a xs) (S:oo (vw K H) (vw K H')):jw K H' a xs:=by
 rcases h with ⟨hk,h⟩ | h
 ·refine .inl ⟨hk,?_⟩
  rcases h with h | ⟨o,h⟩
  ·have:=S a _ (by rw [dy hk]; exact h) (fun _ z=>by cases z)
   rw [dy hk] at this
   exact .inl this
  ·have:=S a _ (by rw [dy hk]; exact h) (fun _ z=>by cases z)
   rw [dy hk] at this
   exact .inr ⟨o,this⟩
 ·exact .inr h
structure Gk (K:PySem.W.Frag) (mg:Str -> Option Value) (base:Heap) (fd:FuncData) (c P:Addr):Prop where
 code:fd.code = .ref c
 hd:PySem.W.CodeHd base c P
 bi:∃ bm o,mg "__builtins__" = some (.ref bm) /\ bm ≠ builtinsNs /\ bm ≠ mainGlobals /\ base.get? bm = some o /\ o.cls = .type "module" /\ o.dict = some builtinsNs /\ o.data = .plain
theorem xH {P:Program} {w:World} {K:PySem.W.Frag} {mg:Str -> Option Value} {base:Heap} {N:List Str} {qual:Str} {scope:Scope} {f:Addr} {cdv:Value} {A:Around} {outer:List Env} {s:Shared} {H:Hp} {E:XK} {fd:FuncData} {c Pt:Addr} (h:fd.code = cdv) (k:Gk K mg base fd c Pt) :
  ud ((fD cV P w K mg base N qual scope f cdv A outer s H E).nox) c Pt:=⟨h ▸ k.code,k.hd,k.bi⟩
end L2
namespace L2
open PySem PySem.Spec PyProof.Rows
structure xy (P:Program) (w:World) (K:PySem.W.Frag) (mg:Str -> Option Value) (base:Heap) (x:Str) (ps:List Str) (k:Nat) (sp:Sp):Prop where
 ex:∃ f fd,aV P w K mg base (lW P w) k f fd ps sp /\ mg x = some (.ref f) /\ PySem.W.keepIn K (.ref f) = true /\ ku K fd ps []
structure QX (X:Cx) (e:Expr) (t:St -> Hp -> XK -> Prop):Prop where
 h:PX X e t
def yK (sp:Sp) (t:TA):St -> Hp -> XK -> Prop:=fun σ H E=>t σ H fun vs H1=>sp vs H1 (fun _ _=>False) E
theorem xk {X:Cx} {x:Str} {p pos:Pos} {e:Expr} {es:List Expr} {t:TA} {ps:List Str} {k:Nat} {sp:Sp} (C:xy X.prog X.w X.K X.mg X.base x ps k sp) (hr:cW k X.A) (hg:Gl X x) (ha:∀ E,QA (X.wish E) (e :: es) t) (hdb:(x == ("__debug__" : Str)) = false:=by decide)
  (he:starEach (e :: es) X.env = (false,eval e X.env) :: starEach es X.env:=by rfl) (hpl:(backTo pos (starEach es X.env)).any (·.1) = false:=by rfl) :
  QX X (.Call (.Name x p) (e :: es) [] pos) (yK sp t):=⟨by
 obtain ⟨f,fd,F,hm,hk,hb⟩:=C.ex
 intro pins s σ H E I h
 refine wpAny_Call_Name_kw (iU I hg hm ?_ hdb)
 have ha':=(ha fun ev s'=>∃ s1 H1,aG X pins σ H1 s1 /\ lW X.prog X.w X.stack H1 s1 E ev s').h pos pins s σ H _ (I.wish _) h
 refine PySem.W.callWith_K (h₀:=X.base) I.ok.mod.kin hk (cI ha' fun us s1 ⟨vs,H1,I1,r,q⟩=>⟨I1.kIn,?_⟩) he hpl
 have I1:=I1.unwish
 have hl:us.length = ps.length:=by rw [<- r.length]; exact F.len _ _ _ _ q
 have hb':=hb s1 us I1.kIn (by simpa using hl)
 rw [List.append_nil] at hb'
 refine wpAny_call (codeAny_mono (F.run X.A X.stack s1 H1 ⟨us,[]⟩ us vs _ E hr I1.env0 hb' r q) fun r s' hq=>?_)
 cases r with
 | error e=>exact ⟨s1,H1,I1,hq⟩
 | ok fl =>
  cases fl with
  | ret u=>obtain ⟨_,_,_,_,_,_,_,z⟩:=hq; exact z.elim
  | next=>exact False.elim hq
  | brk=>exact False.elim hq
  | cont=>exact False.elim hq⟩
section
variable {P:Program} {w:World} {K:PySem.W.Frag} {mg:Str -> Option Value} {base:Heap}
theorem cU.okX {x qual:Str} {st:Stmt} {f:Addr} {fd:FuncData} {N ps:List Str} {k:Nat} {sp:Sp} (F:cU K x qual st f fd) (S:aq N ps (ae st)) (len:∀ vs H Q E,sp vs H Q E -> vs.length = ps.length)
  (hbody:∀ (cdv:Value) (A:Around) (outer:List Env) (s:Shared) (H:Hp) (vs:List V) (Q:VK) (E:XK),cW k (A.deeper (envOfC qual (ae st) s.heap.objs.size f cdv)) -> sp vs H Q E ->
   ∃ t,sN (fD (lW P w) P w K mg base N qual (ae st) f cdv A outer s H E) (ao st) t /\ t { nx:=fun _ H'=>Q .non H',rt:=Q } (start N vs) H):aV P w K mg base (lW P w) (k + 1) f fd ps sp:=by
 obtain ⟨oc,od,kV,doc,pm,an,cdv,ct,osl,rfl,lk,hcd⟩:=F.ex
 refine yl lk hcd S len fun A outer s H vs Q E hr hsp=>?_
 obtain ⟨t,h,q⟩:=hbody cdv A outer s H vs Q E hr hsp
 exact ⟨t,h.h,q⟩
theorem yV {N:List Str} {qual:Str} {scope:Scope} {f:Addr} {cd:Value} {A:Around} {outer:List Env} {s₀:Shared} {H₀:Hp} {E:XK} {C:Addr} {x:Str} {np cpos pos:Pos} {e:Expr} {es:List Expr} {t:TA} (z:rA K C) (hg:Gl (fD (lW P w) P w K mg base N qual scope f cd A outer s₀ H₀ E) x) (hm:mg x = some (.ref C))
  (ha:QA (fD (lW P w) P w K mg base N qual scope f cd A outer s₀ H₀ E) (e :: es) t) (hdb:(x == ("__debug__" : Str)) = false:=by decide)
  (he:starEach (e :: es) (envOfC qual scope s₀.heap.objs.size f cd) = (false,eval e (envOfC qual scope s₀.heap.objs.size f cd)) :: starEach es (envOfC qual scope s₀.heap.objs.size f cd):=by rfl) (hpl:(backTo cpos (starEach es (envOfC qual scope s₀.heap.objs.size f cd))).any (·.1) = false:=by rfl) :
  QS (fD (lW P w) P w K mg base N qual scope f cd A outer s₀ H₀ E) (.Raise (some (.Call (.Name x np) (e :: es) [] cpos)) none pos) (sR E C t):=⟨wM z hg hm ha.h hdb he hpl⟩
end
section
variable {X:Cx}
theorem DP {e:Expr} {cls n:Str} {b0:Stmt} {suite:List Stmt} {p1 np hp pos:Pos} {C0:Addr} {i:Nat} {tb:St -> Hp -> XK -> Prop} {ts:TS} (hx0:X.ex = []) (hs:X.stack = X.env :: X.outer) (hfr:X.env.frame = some X.env.locals)
  (hb:PX X e tb) (hN:X.N.Nodup) (hi:X.N[i]? = some n) (hloc:X.env.scope.names.lookup n = some .local) (hg:Gl X cls) (hm:X.mg cls = some (.ref C0)) (hsu:∀ v,sN (X.marked v) (b0 :: suite) ts)
  (hdb:(cls == ("__debug__" : Str)) = false:=by decide) (hsw:swapsWith e none p1.line X.env = pure false:=by rfl) :
  QS X (.Try [.Expr e p1] [.ExceptHandler (some (.Name cls np)) (some n) (b0 :: suite) hp] [] [] pos) (CG X.K C0 i tb ts):=⟨CS hx0 hs hfr hb hN hi hloc hg hm (fun v=>(hsu v).h) hdb hsw⟩
theorem zN {params:Arguments} {body:Expr} {scope:Scope} {c P C:Addr} {kl i:Nat} {p1 lpos pos:Pos} {Nl:List Str} {ixs:List Nat} {tl:St -> Hp -> XK -> Prop}
  (R:vx X.prog X.w X.K X.mg X.base (kl + 1)) (M:ud X c P) (hr:cW (kl + 2) X.A) (hg:Gl X "_law_refused") (Z:vP X.K X.mg C i) (hi:i < 9) (hfn:∀ x,X.fn x = true) (hdef:defaultsOf params X.env = ([],[]))
  (hfree:∀ q ∈ scope.names,q.2 = .free -> X.env.kindOf q.1 = some .cell) (hk:scope.kind = .function) (hnc:∀ q ∈ scope.names,q.2 ≠ .cell) (hsc:scope.isCoroutine = false /\ scope.isGenerator = false)
  (hbind:∀ clos pm c' ctv,bindArgs (PySem.W.kla_fn "<lambda>" (ke X) params body scope clos pm (.ref c') ctv) ⟨[],[]⟩ = pure []) (hlen:ixs.length = Nl.length) (hNl:∀ (j:Nat) (x:Str),Nl[j]? = some x -> scope.names.lookup x = some .free /\ ∃ l,ixs[j]? = some l /\ X.N[l]? = some x)
  (hb:∀ (p c':Addr) (clos:List (Str × Addr)) (H1:Hp) (A':Around) (outer':List Env) (s':Shared),cW kl (A'.deeper (PySem.W.envX (ke X) scope s'.heap.objs.size p (.ref c') clos)) -> QX (pO X.prog X.w X.K X.mg X.base Nl (ke X) scope p (.ref c') clos A' outer' s' H1) body tl)
  (he:starEach [Expr.Lambda params body scope lpos] X.env = [(false,eval (.Lambda params body scope lpos) X.env)]:=by rfl) :
  QE X (.Call (.Name "_law_refused" p1) [.Lambda params body scope lpos] [] pos) (xf X.K P (ke X) ixs C i tl) :=
 ⟨AW R M hr hg Z hi hfn hdef hfree hk hnc hsc hbind hlen hNl (fun p c' clos H1 A' outer' s' hr'=>(hb p c' clos H1 A' outer' s' hr').h) he⟩
end
end L2
namespace L2
open PySem PySem.Spec PyProof.Rows
def td (mg:Str -> Option Value) (base:Heap):Prop:=∃ bm o,mg "__builtins__" = some (.ref bm) /\ bm ≠ builtinsNs /\ bm ≠ mainGlobals /\ base.get? bm = some o /\ o.cls = .type "module" /\ o.dict = some builtinsNs /\ o.data = .plain
def Fp (ts:List (Addr × Addr)) (H:Hp):Prop:=∀ b,H b = none \/ (∃ o xs,H b = some (.frz o (.lst xs))) \/ (H b = some (.tbl #[]) /\ ∃ q ∈ ts,q.2 = b)
theorem wt {P:Program} {w:World} {K:PySem.W.Frag} {mg mb:Str -> Option Value} {CX:tG} {k:Nat} {fa a:Addr} {fd:FuncData} {x:Str} {sp:Sp} {s₁:Shared} {vs:List Value} {ns:List Int} {ts:List (Addr × Addr)}
  (KX:K.In s₁.heap) (hns:s₁.heap.Ns mainGlobals mg) (hb:s₁.heap.Ns builtinsNs mb) (hbb:∀ x:Str,x ≠ "__name__" -> mb x = bootBuiltins x) (hlim:s₁.heap.NoLimit) (hg:s₁.gens = #[])
  (ha:s₁.heap.get? a = some { cls:=.type "list",data:=.seq vs.toArray }) (hi:IntsAre vs ns) (hl:ns.length <= sizeLine) (hr:cW k callerA) (hT:∀ q ∈ ts,PySem.W.codeHdIn K q.1 q.2 = true /\ K.lookup q.2 = none /\ s₁.heap.get? q.2 = some (PySem.W.tabObj #[]))
  (hB:td mg s₁.heap) (hSr:s₁.heap.NoSeer) (F:∀ base:Heap,K.In base -> base.Ns mainGlobals mg -> td mg base -> base.NoSeer -> aV P w K mg base CX k fa fd [x] sp) (hbind:∀ (s:Shared) (u:Value),BindsTo s fd ⟨[u],[]⟩ [(x,u)])
  (hsp:∀ H:Hp,(∀ q ∈ ts,vw K H q.2 = some (.tbl #[])) -> (H a ≠ none -> K.lookup a = none) -> hZ K H a (ns.map V.int) -> sp [.ref a] H (fun v _=>v = .bl true) fun _ _ _=>False)
  (hCX:∀ H e s',CX [] H s₁ (fun _ _ _=>False) e s' -> False) :
  codeAny (model P w) callerA (.call (.ref fa) ⟨[.ref a],[]⟩) (fun r s'=>r = .ok (.ret (.bool true)) /\ OldK s₁.heap s'.heap /\ s'.os = s₁.os /\ AllBare s'.gens) s₁:=by
 have rv:=pc hi
 have lenV:=hi.length
 have na:∀ q ∈ ts,q.2 ≠ a:=fun q hq z=>by
  have:=(hT q hq).2.2
  rw [z,ha] at this
  cases this
 have core:∀ H:Hp,Fp ts H -> (∀ q ∈ ts,H q.2 = some (.tbl #[])) -> hZ K H a (ns.map V.int) -> kg P w H s₁.heap -> (∀ b,H b ≠ none -> b = a \/ ∃ q ∈ ts,q.2 = b) -> (H a ≠ none -> K.lookup a = none) ->
   codeAny (model P w) callerA (.call (.ref fa) ⟨[.ref a],[]⟩) (fun r s'=>r = .ok (.ret (.bool true)) /\ OldK s₁.heap s'.heap /\ s'.os = s₁.os /\ AllBare s'.gens) s₁:=by
  intro H hO hTT hS hok hA hK
  have base_of:∀ {b:Addr} {o:Obj},s₁.heap.get? b = some o -> H b = none -> (mO s₁.heap H).get? b = some o:=fun e n=>xj e n
  have noA:∀ {b:Addr} {o:Obj} {es:Array DictEntry} {ep:Nat},s₁.heap.get? b = some o -> o.data = .dict es ep -> H b = none:=fun {b o es ep} e d=>by
   cases q:H b with
   | none=>rfl
   | some u =>
    rcases hA b (by rw [q]; simp) with e' | ⟨y,hy,e'⟩
    ·subst e'
     rw [ha] at e; cases e
     have d':Data.seq vs.toArray _ = Data.dict es ep:=d
     cases d'
    ·subst e'
     rw [(hT y hy).2.2] at e; cases e
     have d':Data.fields (#[]:Array Value) = Data.dict es ep:=d
     cases d'
  have nsK:∀ {b:Addr} {m:Str -> Option Value},s₁.heap.Ns b m -> (mO s₁.heap H).Ns b m:=fun {b m} ⟨o,es,ep,e,d,r⟩=>⟨o,es,ep,base_of e (noA e d),d,r⟩
  have hKb:K.In (mO s₁.heap H):=fun b o e=>base_of (KX b o e) (by
   cases q:H b with
   | none=>rfl
   | some u =>
    rcases hA b (by rw [q]; simp) with e' | ⟨y,hy,e'⟩
    ·subst e'
     rw [hK (by rw [q]; simp)] at e; cases e
    ·subst e'
     rw [(hT y hy).2.1] at e; cases e)
  have hM:Mod K mg (mO s₁.heap H):=⟨hKb,nsK hns,⟨mb,nsK hb,hbb⟩,let ⟨mc,h1,h2⟩:=hlim; ⟨mc,nsK h1,h2⟩⟩
  have e0:oz P w K mg (mO s₁.heap H) callerA [] s₁ H:=⟨rfl,hM,fun b o e=>Bw e,Nat.le_of_eq (vR _ _),trivial,fun b hb=>absurd (show b ∈ ([]:List Addr) from hb) (by simp),hok,.of_eq hg⟩
  have hBb:td mg (mO s₁.heap H):=by
   obtain ⟨bm,ob,b1,b2,b3,b4,b5,b6,b7⟩:=hB
   refine ⟨bm,ob,b1,b2,b3,base_of b4 ?_,b5,b6,b7⟩
   cases q:H bm with
   | none=>rfl
   | some u =>
    rcases hA bm (by rw [q]; simp) with e' | ⟨y,hy,e'⟩
    ·rw [e',ha] at b4; cases b4; simp at b5
    ·rw [<- e',(hT y hy).2.2] at b4; cases b4; cases b5
  have hSb:(mO s₁.heap H).NoSeer:=by
   refine ⟨let ⟨mc,a,b⟩:=hSr.statics; ⟨mc,nsK a,b⟩,let ⟨mm,a,b⟩:=hSr.mods; ⟨mm,nsK a,b⟩,let ⟨mb,a,b⟩:=hSr.imp; ⟨mb,nsK a,b⟩,?_⟩
   obtain ⟨mg',bm,ob,b1,b2,b4,b5,b6⟩:=hSr.main
   refine ⟨mg',bm,ob,nsK b1,b2,base_of b4 ?_,b5,b6⟩
   cases q:H bm with
   | none=>rfl
   | some u =>
    rcases hA bm (by rw [q]; simp) with e' | ⟨y,hy,e'⟩
    ·rw [e',ha] at b4; cases b4; simp at b5
    ·rw [<- e',(hT y hy).2.2] at b4; cases b4; cases b5
  refine codeAny_mono ((F _ hKb (nsK hns) hBb hSb).run callerA [] s₁ H ⟨[.ref a],[]⟩ [.ref a] [.ref a] _ _ hr e0 (hbind s₁ (.ref a)) (.cons rfl .nil) (hsp H (fun q hq=>(dy (hT q hq).2.1).trans (hTT q hq)) hK hS)) fun r s' h=>?_
  cases r with
  | error e=>exact (hCX H e s' h).elim
  | ok fl =>
   cases fl with
   | next=>exact False.elim h
   | brk=>exact False.elim h
   | cont=>exact False.elim h
   | ret u =>
    obtain ⟨v,H',os,bare,un,hok',r',q⟩:=h
    have q':v = .bl true:=q
    subst q'
    obtain rfl:u = Value.bool true:=r'
    have key:∀ b o,s₁.heap.get? b = some o -> s'.heap.get? b = some o \/ ((∃ y ∈ ts,y.2 = b) /\ o = PySem.W.tabObj #[] /\ ∃ more,s'.heap.get? b = some (PySem.W.tabObj more)):=fun b o e=>by
     cases q:H b with
     | none=>exact .inl (un.keep b o e q (by intro z; exact absurd (show b ∈ ([]:List Addr) from z) (by simp)) (by simp))
     | some u =>
      rcases hO b with z | ⟨ob,xs,z⟩ | ⟨z,y,hy,e'⟩
      ·rw [q] at z; cases z
      ·have z2:=un.frzs b ob _ z
       obtain ⟨e1,_⟩:=hok b _ z
       obtain ⟨e2,_⟩:=hok' b _ z2
       rw [e] at e1; cases e1
       exact .inl e2
      ·obtain ⟨more,z2⟩:=un.tbls b #[] z
       have e1:s₁.heap.get? b = some (PySem.W.tabObj #[]):=hok b _ z
       have e2:s'.heap.get? b = some (PySem.W.tabObj (#[] ++ more)):=hok' b _ z2
       rw [e] at e1; cases e1
       exact .inr ⟨⟨y,hy,e'⟩,rfl,_,e2⟩
    refine ⟨rfl,⟨fun b o e=>?_,fun b o e=>?_⟩,os,bare⟩
    ·rcases key b o e with z | ⟨⟨y,hy,e'⟩,z1,more,z2⟩
     ·exact .inl z
     ·subst z1 e'
      have cd:=PySem.W.codeHd_of_K KX (hT y hy).1
      exact .inr (.inl ⟨(cd.tab (hT y hy).2.2).isCodeTable,rfl,#[],more,rfl,by rw [z2]; simp⟩)
    ·rcases key b o e with z | ⟨_,_,more,z2⟩
     ·exact ⟨o,z⟩
     ·exact ⟨_,z2⟩
 have dec:∀ b,Decidable (∃ q ∈ ts,q.2 = b):=fun b=>Classical.propDecidable _
 have tabH:∀ q ∈ ts,dz P w (fun _=>none) s₁.heap q.2 (.tbl #[]):=fun q hq=>(hT q hq).2.2
 cases hk:K.lookup a with
 | some o =>
  have e:=KX a o hk
  rw [ha] at e
  cases e
  refine core (fun b=>@ite _ (∃ q ∈ ts,q.2 = b) (dec b) (some (.tbl #[])) none) (fun b=>?_) (fun q hq=>if_pos ⟨q,hq,rfl⟩) (.inr ⟨_,vs.toArray,_,hk,rfl,rfl,rfl,by rw [List.size_toArray,lenV]; exact hl,by simpa using rv⟩) (fun b u z=>?_) (fun b z=>?_) fun z=>?_
  ·by_cases hb:∃ q ∈ ts,q.2 = b
   ·exact .inr (.inr ⟨if_pos hb,hb⟩)
   ·exact .inl (if_neg hb)
  ·by_cases hb:∃ q ∈ ts,q.2 = b
   ·have z':=(if_pos hb).symm.trans z
    cases z'
    obtain ⟨q,hq,rfl⟩:=hb
    exact (hT q hq).2.2
   ·have z':=(if_neg hb).symm.trans z
    cases z'
  ·by_cases hb:∃ q ∈ ts,q.2 = b
   ·exact .inr hb
   ·exact absurd (if_neg hb) z
  ·have:¬ ∃ q ∈ ts,q.2 = a:=fun ⟨q,hq,e⟩=>na q hq e
   exact absurd (if_neg this) z
 | none =>
  have ia:¬ ∃ q ∈ ts,q.2 = a:=fun ⟨q,hq,e⟩=>na q hq e
  refine core (fun b=>if b = a then some (.frz { cls:=.type "list",data:=.seq vs.toArray } (.lst (ns.map V.int))) else @ite _ (∃ q ∈ ts,q.2 = b) (dec b) (some (.tbl #[])) none) (fun b=>?_) (fun q hq=>?_) (.inl (.inr ⟨{ cls:=.type "list",data:=.seq vs.toArray },if_pos rfl⟩)) (fun b u z=>?_) (fun b z=>?_) fun _=>hk
  ·by_cases hb:b = a
   ·exact .inr (.inl ⟨_,_,if_pos hb⟩)
   ·by_cases hb2:∃ q ∈ ts,q.2 = b
    ·exact .inr (.inr ⟨(if_neg hb).trans (if_pos hb2),hb2⟩)
    ·exact .inl ((if_neg hb).trans (if_neg hb2))
  ·exact (if_neg (na q hq)).trans (if_pos ⟨q,hq,rfl⟩)
  ·by_cases hb:b = a
   ·have z':=(if_pos hb).symm.trans z
    cases z'
    subst hb
    exact ⟨ha,by rw [List.length_map]; exact hl,vs,_,rv,ha⟩
   ·by_cases hb2:∃ q ∈ ts,q.2 = b
    ·have z':=((if_neg hb).trans (if_pos hb2)).symm.trans z
     cases z'
     obtain ⟨q,hq,rfl⟩:=hb2
     exact (hT q hq).2.2
    ·have z':=((if_neg hb).trans (if_neg hb2)).symm.trans z
     cases z'
  ·by_cases hb:b = a
   ·exact .inl hb
   ·by_cases hb2:∃ q ∈ ts,q.2 = b
    ·exact .inr hb2
    ·exact absurd ((if_neg hb).trans (if_neg hb2)) z
theorem walk_ofM {l:PySem.W.OpenLaw} {n k:Nat} {q:Program} {loose:List Str} {XP:(Str -> Option Value) -> Heap -> Prop} {YP:World -> Heap -> Prop} {d:DefRec} {K:Params -> PySem.W.Frag} {CX:World -> tG} {sp:World -> Sp} {x:Str} (ts:World -> List (Addr × Addr))
  (hn:l.most = some n) (hn2:n <= sizeLine) (hdf:d.params.defaults = []) (hr:cW k callerA) (hi:importsNone q = true)
  (hY:∀ (w:World) (h:Heap),YP w h -> (K w.params).In h /\ ∀ q ∈ ts w,PySem.W.codeHdIn (K w.params) q.1 q.2 = true /\ (K w.params).lookup q.2 = none /\ h.get? q.2 = some (PySem.W.tabObj #[]))
  (F:∀ (w:World) (mg:Str -> Option Value) (fa:Addr) (h:Heap),(K w.params).In h -> h.Ns mainGlobals mg -> mg d.name = some (.ref fa) ->
   ∃ fd:FuncData,(∀ (s:Shared) (u:Value),BindsTo s fd ⟨[u],[]⟩ [(x,u)]) /\
    ∀ base:Heap,(K w.params).In base -> base.Ns mainGlobals mg -> td mg base -> base.NoSeer -> aV l.prog w (K w.params) mg base (CX w) k fa fd [x] (sp w))
  (hsp:∀ (w:World) (H:Hp) (a:Addr) (ns:List Int),ns.length <= n -> (∀ q ∈ ts w,vw (K w.params) H q.2 = some (.tbl #[])) -> (H a ≠ none -> (K w.params).lookup a = none) -> hZ (K w.params) H a (ns.map V.int) -> sp w [.ref a] H (fun v _=>v = .bl true) fun _ _ _=>False)
  (hCX:∀ (w:World) (H:Hp) (s:Shared) (e:Value) (s':Shared),CX w [] H s (fun _ _ _=>False) e s' -> False) :
  PySem.W.WalkO q loose XP YP l.row.toRowW d [] (fun f vs=>PySem.call f vs):=by
 refine Att.attach_call hn hdf fun w s₀ s₁ mg mb fa o pm cd doc a vs ns G Y ho hd hcd hmg hobj hints hlen hg=>?_
 obtain ⟨KX,hT⟩:=hY w _ Y
 obtain ⟨fd,hb,hF⟩:=F w mg fa _ KX G.T.g hmg
 have hB:td mg s₁.heap:=by
  obtain ⟨bm,ob,b1,b2,b3,b4,b5,b6⟩:=G.T.bmain
  refine ⟨bm,ob,b1,b2,fun z=>?_,b3,b4,b5,b6⟩
  obtain ⟨o,es,ep,e,hd',_⟩:=G.T.g
  rw [z,e] at b3; cases b3; rw [hd'] at b6; cases b6
 exact wt KX G.T.g G.T.b G.T.builtins G.T.nolimit hg hobj hints (Nat.le_trans hlen hn2) hr hT hB (G.T.seer hi) hF hb (fun H hTT hK hS=>hsp w H a ns hlen hTT hK hS) fun H e s'=>hCX w H s₁ e s'
section
variable {P:Program} {w:World} {K:PySem.W.Frag} {mg:Str -> Option Value} {base:Heap}
theorem cU.okM {x qual:Str} {st:Stmt} {f:Addr} {fd:FuncData} {N ps:List Str} {k:Nat} {sp:Sp} (F:cU K x qual st f fd) (S:aq N ps (ae st)) (len:∀ vs H Q E,sp vs H Q E -> vs.length = ps.length)
  (hbody:∀ (cdv:Value) (A:Around) (outer:List Env) (s:Shared) (H:Hp) (vs:List V) (Q:VK) (E:XK),fd.code = cdv -> cW k (A.deeper (envOfC qual (ae st) s.heap.objs.size f cdv)) -> sp vs H Q E ->
   ∃ t,sN (fD cV P w K mg base N qual (ae st) f cdv A outer s H E).nox (ao st) t /\ t { nx:=fun _ H'=>Q .non H',rt:=Q } (start N vs) H):aV P w K mg base cV (k + 1) f fd ps sp:=by
 obtain ⟨oc,od,kV,doc,pm,an,cdv,ct,osl,rfl,lk,hcd⟩:=F.ex
 refine yl lk hcd S len fun A outer s H vs Q E hr hsp=>?_
 obtain ⟨t,h,q⟩:=hbody cdv A outer s H vs Q E rfl hr hsp
 exact ⟨t,h.h.nox,q⟩
theorem cU.runQ {x qual:Str} {st:Stmt} {f:Addr} {fd:FuncData} {N ps:List Str} {k:Nat} {A:Around} {outer:List Env} {s:Shared} {H:Hp} {us:List Value} {vs:List V} {Q:VK} {E:XK} (F:cU K x qual st f fd) (S:aq N ps (ae st)) (hr:cW (k + 1) A) (e0:oz P w K mg base A outer s H)
  (hb:ku K fd ps []) (r:aX vs us) (hl:vs.length = ps.length)
  (hbody:∀ cdv,cW k (A.deeper (envOfC qual (ae st) s.heap.objs.size f cdv)) -> ∃ t,sN (fD cV P w K mg base N qual (ae st) f cdv A outer s H E).nox (ao st) t /\ t { nx:=fun _ H'=>Q .non H',rt:=Q } (start N vs) H) :
  codeAny (model P w) A (.call (.ref f) ⟨us,[]⟩) (CR cV outer P w H s Q E) s:=by
 obtain ⟨oc,od,kV,doc,pm,an,cdv,ct,osl,rfl,lk,hcd⟩:=F.ex
 have KX:K.In s.heap:=e0.mod.kin.keeps fun b o e=>(e0.bs b o e).1
 have hb':=hb s us KX (by rw [List.append_nil,<- r.length]; exact hl)
 rw [List.append_nil] at hb'
 refine Dq lk hcd S hr e0 hb' r hl fun hr'=>?_
 obtain ⟨t,h,q⟩:=hbody cdv hr'
 exact ⟨t,h.h.nox,q⟩
end
theorem Ay {X:Cx} {scope sc:Scope} (h:X.env.scope = sc) (z:scope.names.all (fun q=>q.2 != .free || sc.names.lookup q.1 == some .cell) = true):∀ q ∈ scope.names,q.2 = .free -> X.env.kindOf q.1 = some .cell:=fun q hq hf=>by
 have h2:=List.all_eq_true.mp z q hq
 rw [Bool.or_eq_true] at h2
 rcases h2 with h2 | h2
 ·rw [hf] at h2; cases h2
 ·show X.env.scope.names.lookup q.1 = _
  rw [h]
  exact beq_iff_eq.mp h2
theorem vH {scope:Scope} (z:scope.names.all (fun q=>q.2 != .cell) = true):∀ q ∈ scope.names,q.2 ≠ .cell:=fun q hq e=>by
 have h2:=List.all_eq_true.mp z q hq
 rw [e] at h2
 cases h2
end L2
namespace L2
open PySem PySem.Spec PyProof.Rows
theorem ou:bootBuiltins "ValueError" = some (.type "ValueError"):=by decide +kernel
end L2
namespace L2
open PySem PySem.Spec PyProof.Rows
def EI (K:PySem.W.Frag) (ta:TE):TT:=fun σ H Q=>ta σ H fun x H'=>∃ k,rf K x H' k /\ Q k H'
end L2
namespace L2
open PySem PySem.Spec PyProof.Rows
abbrev EH (n:Str):Str:=n ++ ".<locals>." ++ "<lambda>"
theorem nF (i:Int):(D.lst [.int i]).cmp:=by
 unfold D.cmp D.py D.pys D.pys D.py
 exact ⟨rfl,Nat.le_of_ble_eq_true rfl⟩
theorem dI.of {P:Addr} {G G':Hp} (S:aw G G'):dI P G G':=fun b o _ e=>S b o e
end L2
namespace L2
open PySem PySem.Spec PyProof.Rows
theorem dh.butL {G G':Hp} {P l:Addr} {qual:Str} {xs:List V} (h:dh G P qual) (hl:G l = some (.lst xs)) (B:dI l G G'):dh G' P qual:=by
 obtain ⟨ps,h1,h2,h3⟩:=h
 refine ⟨ps,B _ _ (fun z=>by rw [z,hl] at h1; cases h1) h1,h2,fun pos cv z=>?_⟩
 obtain ⟨c,e1,e2⟩:=h3 pos cv z
 exact ⟨c,e1,B _ _ (fun z=>by rw [z,hl] at e2; cases e2) e2⟩
theorem dh.smT {G G':Hp} {P:Addr} {qual:Str} (h:dh G P qual) (B:dI P G G') (T:dh G' P qual):oo G G':=by
 obtain ⟨ps,h1,_⟩:=h
 exact oo.but h1 B
end L2
namespace L2
open PySem PySem.Spec PyProof.Rows
section
variable {P:Program} {w:World} {K:PySem.W.Frag} {mg:Str -> Option Value} {base:Heap}
def BO (E:XK) (t:St -> Hp -> XK -> Prop):TS:=fun _ σ H=>t σ H E
end
theorem dI.none {G G':Hp} {st a:Addr} (B:dI st G G') (hst:cE G' st) (h:G' a = Option.none):G a = Option.none:=by
 cases e:G a with
 | none=>rfl
 | some o =>
  rw [B a o (hst.ne h) e] at h
  cases h
def aI (f g:Nat -> Rat):Nat -> Rat
 | 0=>0
 | n + 1=>aI f g n + f n * g n
theorem xO {f g:Nat -> Int} {F G:Nat -> Rat} {c d:Rat} (hf:∀ i,(f i:Rat) = F i * c) (hg:∀ i,(g i:Rat) = G i * d):∀ n,((j4 (lz n fun i=>f i * g i):Int):Rat) = aI F G n * (c * d)
 | 0=>by
  show ((0:Int):Rat) = 0 * (c * d)
  have:((0:Int):Rat) = 0:=rfl
  rw [this]
  grind
 | n + 1=>by
  have e:lz (n + 1) (fun i=>f i * g i) = lz n (fun i=>f i * g i) ++ [f n * g n]:=by simp [lz,List.range_succ]
  rw [e,nA]
  have e2:j4 [f n * g n] = f n * g n:=by simp [j4]
  rw [e2,Rat.intCast_add,Rat.intCast_mul,xO hf hg n,hf n,hg n]
  show _ = (aI F G n + F n * G n) * (c * d)
  grind
theorem bG {f g f' g':Nat -> Rat}:∀ n,(∀ i,i < n -> f i = f' i) -> (∀ i,i < n -> g i = g' i) -> aI f g n = aI f' g' n
 | 0,_,_=>rfl
 | n + 1,h1,h2=>by
  show aI f g n + f n * g n = aI f' g' n + f' n * g' n
  rw [bG n (fun i hi=>h1 i (by walk_at "o")) (fun i hi=>h2 i (by walk_at "o")),h1 n (by walk_at "o"),h2 n (by walk_at "o")]
theorem zp {qs:List (Int × Int)} {n k:Nat} (h:k < n):cf (qs.take n) k = cf qs k:=by
 unfold cf
 rw [List.getElem?_take,if_pos h]
def Sx (b:Nat) (q:Int × Int):Prop:=∃ n:Int,wv q = (n:Rat) / 6 /\ n.natAbs <= b
theorem Sx.mono {a b:Nat} {q:Int × Int} (h:Sx a q) (hl:a <= b):Sx b q:=by
 obtain ⟨n,h1,h2⟩:=h
 exact ⟨n,h1,by walk_at "o"⟩
theorem Sx.add {a b:Nat} {p q:Int × Int} (hp:p.2 ≠ 0) (hq:q.2 ≠ 0) (h1:Sx a p) (h2:Sx b q):Sx (a + b) (ki p q):=by
 obtain ⟨m,e1,l1⟩:=h1
 obtain ⟨n,e2,l2⟩:=h2
 refine ⟨m + n,?_,by walk_at "o"⟩
 rw [iD hp hq,e1,e2,Rat.intCast_add]
 grind
theorem Sx.lo {a z:Int} {b:Nat} (h0:0 <= z) (h3:z < 3) (ha:6 * a.natAbs <= b):Sx b (lo a (1 + z)):=by
 have hz:1 + z ≠ 0:=by walk_at "o"
 have c1:((1:Int):Rat) = 1:=rfl
 have c2:((2:Int):Rat) = 2:=rfl
 have c3:((3:Int):Rat) = 3:=rfl
 have c6:((6:Int):Rat) = 6:=rfl
 rcases (show z = 0 \/ z = 1 \/ z = 2 by walk_at "o") with rfl | rfl | rfl
 ·refine ⟨6 * a,?_,by walk_at "o"⟩
  rw [gg hz,show (1:Int) + 0 = 1 from rfl,Rat.intCast_mul,c1,c6]
  grind
 ·refine ⟨3 * a,?_,by walk_at "o"⟩
  rw [gg hz,show (1:Int) + 1 = 2 from rfl,Rat.intCast_mul,c2,c3]
  grind
 ·refine ⟨2 * a,?_,by walk_at "o"⟩
  rw [gg hz,show (1:Int) + 2 = 3 from rfl,Rat.intCast_mul,c2,c3]
  grind
def jm:Nat -> Int
 | 0=>6
 | k + 1=>jm k * 6
theorem kh:∀ k,0 < jm k
 | 0=>by decide
 | k + 1=>by show 0 < jm k * 6; have:=kh k; walk_at "o"
theorem qV:∀ k,Bt (3 * (k + 1)) (jm k)
 | 0=>by decide
 | k + 1=>by
  have h:=(qV k).mul (show Bt 3 6 by decide)
  exact h.mono (by walk_at "o")
def zu:Nat -> Nat
 | 0=>1
 | k + 1=>zu k * 512
theorem xF:∀ k,zu k = 2 ^ (9 * k)
 | 0=>rfl
 | k + 1=>by
  show zu k * 512 = _
  rw [xF k,show 9 * (k + 1) = 9 * k + 9 by walk_at "o",Nat.pow_add]
theorem uq {s w:Int × Int} {b:Nat} (hs:Sx 300 s) (hw:Sx b w):∀ k,∃ n:Int,wv w * cT (wv s) k = (n:Rat) / (jm k:Rat) /\ n.natAbs <= b * zu k
 | 0=>by
  obtain ⟨n,e,l⟩:=hw
  refine ⟨n,?_,by simpa [zu] using l⟩
  show wv w * 1 = (n:Rat) / ((6:Int):Rat)
  have c6:((6:Int):Rat) = 6:=rfl
  rw [e,c6]
  grind
 | k + 1=>by
  obtain ⟨n,e,l⟩:=uq hs hw k
  obtain ⟨m,e2,l2⟩:=hs
  refine ⟨n * m,?_,?_⟩
  ·rw [kJ]
   have h6:(jm k:Rat) ≠ 0:=aj (by have:=kh k; walk_at "o")
   have c6:((6:Int):Rat) = 6:=rfl
   show _ = _ / ((jm k * 6:Int):Rat)
   rw [e2] at e
   rw [Rat.intCast_mul,Rat.intCast_mul,c6,e2]
   have:wv w * (cT ((m:Rat) / 6) k * ((m:Rat) / 6)) = (wv w * cT ((m:Rat) / 6) k) * ((m:Rat) / 6):=by grind
   rw [this,e]
   grind
  ·rw [Int.natAbs_mul]
   show _ <= b * (zu k * 512)
   rw [<- Nat.mul_assoc]
   exact Nat.mul_le_mul l (by walk_at "o")
theorem rk {k:Nat}:∀ {cs:List kB},(∀ c ∈ cs,Sx 300 c.1 /\ Sx 36 c.2) -> ∃ n:Int,io cs k = (n:Rat) / (jm k:Rat) /\ n.natAbs <= cs.length * (36 * zu k)
 | [],_=>⟨0,by
   show (0:Rat) = ((0:Int):Rat) / _
   have c0:((0:Int):Rat) = 0:=rfl
   rw [c0]
   grind,by simp⟩
 | c :: cs,h=>by
  obtain ⟨n,e1,l1⟩:=rk (k:=k) (cs:=cs) fun d hd=>h d (by simp [hd])
  obtain ⟨h1,h2⟩:=h c (by simp)
  obtain ⟨m,e2,l2⟩:=uq h1 h2 k
  refine ⟨m + n,?_,?_⟩
  ·show wv c.2 * cT (wv c.1) k + io cs k = _
   rw [e1,e2,Rat.intCast_add]
   have h6:(jm k:Rat) ≠ 0:=aj (by have:=kh k; walk_at "o")
   grind
  ·rw [List.length_cons,Nat.add_mul]
   walk_at "o"
theorem xT {cs:List kB} {k:Nat} {q:Int × Int} (h:∀ c ∈ cs,Sx 300 c.1 /\ Sx 36 c.2) (hl:cs.length <= 6) (hk:k <= 12) (hq:Fq q) (e:wv q = io cs k):Bq 120 q:=by
 obtain ⟨n,e1,l1⟩:=rk (k:=k) h
 have h6:jm k ≠ 0:=by have:=kh k; walk_at "o"
 have:q = lo n (jm k):=gu hq (fG h6) (by rw [gg h6,e,e1])
 rw [this]
 refine iB h6 (Bt.mono (m:=9 * k + 8) ?_ (by walk_at "o")) ((qV k).mono (by walk_at "o"))
 unfold Bt
 have l3:cs.length * (36 * zu k) <= 6 * (36 * zu k):=Nat.mul_le_mul_right _ hl
 have l4:=xF k
 rw [Nat.pow_add,<- l4,show (2:Nat) ^ 8 = 256 from rfl]
 have:0 < zu k:=by rw [l4]; exact Nat.two_pow_pos _
 walk_at "o"
end L2
namespace L2
open PySem PySem.Spec PyProof.Rows
theorem bv.gen {t u:TS} {D:kP} {σ:St} {H:Hp} (h:∀ N:St -> Hp -> Prop,(∀ σ' H',u D σ' H' -> N σ' H') -> t { D with nx:=N } σ H):bv t u D σ H:=h (u D) fun _ _ z=>z
end L2
namespace L2
open PySem PySem.Spec PyProof.Rows
section
variable {X:Cx} {tg:Expr}
end
end L2
namespace L2
open PySem PySem.Spec PyProof.Rows
end L2
namespace L2
open PySem PySem.Spec PyProof.Rows
theorem gi {rs:List (Int × Int)} (h:ba rs) {m:Nat} (hz:∀ k,m <= k -> cf rs k = 0):rs.length <= m:=by
 refine Nat.le_of_not_lt fun hm=>?_
 have hl:rs.length - 1 < rs.length:=by walk_at "o"
 have e:rs.getLast? = some rs[rs.length - 1]:=by rw [List.getLast?_eq_getElem?,List.getElem?_eq_getElem hl]
 have z:=hz (rs.length - 1) (by walk_at "o")
 rw [aW (List.getElem?_eq_getElem hl)] at z
 exact h.2 _ e ((eo (h.1 _ (List.getElem_mem hl)).ne).mp z)
theorem no (s:Nat) (gs:List (Int × Int)) (k:Nat):cf (List.replicate s (0,1) ++ gs) k = if k < s then 0 else cf gs (k - s):=by
 unfold cf
 by_cases h:k < s
 ·rw [if_pos h,List.getElem?_append_left (by simpa using h),List.getElem?_replicate,if_pos h]
  exact pi
 ·rw [if_neg h,List.getElem?_append_right (by simp; walk_at "o"),List.length_replicate]
end L2
namespace L2
open PySem PySem.Spec PyProof.Rows
end L2
namespace L2
open PySem PySem.Spec PyProof.Rows
end L2
namespace L2
open PySem PySem.Spec PyProof.Rows
section
variable {X:Cx} {a b c:Expr} {ta tb tc:TE} {pos:Pos}
end
def FJ:Nat -> Int
 | 0=>1
 | e + 1=>FJ e * 6
theorem uP (j:Nat):∀ e,jm (j + e) = jm j * FJ e
 | 0=>by show jm j = jm j * 1; walk_at "o"
 | e + 1=>by
  show jm (j + e) * 6 = jm j * (FJ e * 6)
  rw [uP j e,Int.mul_assoc]
end L2
namespace L2
open PySem PySem.Spec PyProof.Rows
theorem zD {qs:List (Int × Int)} {n k:Nat}:cf (qs.drop n) k = cf qs (n + k):=by
 unfold cf
 rw [List.getElem?_drop]
end L2
namespace L2
open PySem PySem.Spec PyProof.Rows
def tt (x:V) (P:Bool -> Prop):Prop:=match x with | .bl k=>P k | _=>False
def isInt (x:V) (P:Int -> Prop):Prop:=match x with | .int k=>P k | _=>False
def ii (x:V) (P:Addr -> Prop):Prop:=match x with | .ref k=>P k | _=>False
def rC (x:Option (Option V)) (P:V -> Prop):Prop:=match x with | some (some v)=>P v | _=>False
def Et (x:List V) (P:V -> Prop):Prop:=match x with | [v]=>P v | _=>False
def FU (x:List V) (P:V -> V -> Prop):Prop:=match x with | [v,u]=>P v u | _=>False
theorem zF {k:Bool} {P:Bool -> Prop}:tt (.bl k) P = P k:=rfl
theorem yZ {k:Int} {P:Int -> Prop}:isInt (.int k) P = P k:=rfl
theorem xc {k:Addr} {P:Addr -> Prop}:ii (.ref k) P = P k:=rfl
theorem zr {k:V} {P:V -> Prop}:rC (some (some k)) P = P k:=rfl
theorem CO {k:V} {P:V -> Prop}:Et [k] P = P k:=rfl
theorem DX {k l:V} {P:V -> V -> Prop}:FU [k,l] P = P k l:=rfl
theorem iu {x:V} {P:Bool -> Prop}:tt x P = ∃ k,x = .bl k /\ P k:=propext (by cases x <;> simp [tt])
theorem cL {x:V} {P:Int -> Prop}:isInt x P = ∃ k,x = .int k /\ P k:=propext (by cases x <;> simp [isInt])
theorem dS {x:V} {P:Addr -> Prop}:ii x P = ∃ k,x = .ref k /\ P k:=propext (by cases x <;> simp [ii])
theorem lL {x:Option (Option V)} {P:V -> Prop}:rC x P = ∃ k,x = some (some k) /\ P k:=propext (by rcases x with _ | _ | v <;> simp [rC])
theorem mF {x:List V} {P:V -> Prop}:Et x P = ∃ k,x = [k] /\ P k:=propext (by rcases x with _ | ⟨v,_ | ⟨u,r⟩⟩ <;> simp [Et])
theorem qw {x:List V} {P:V -> V -> Prop}:FU x P = ∃ k l,x = [k,l] /\ P k l:=propext ⟨fun h=>match x,h with | [v,u],h=>⟨v,u,rfl,h⟩,fun ⟨k,l,e,h⟩=>by subst e; exact h⟩
theorem BT {α β:Sort _} {A:α -> Prop} {B:β -> Prop} {C:α -> β -> Prop}:(∃ i j,A i /\ B j /\ C i j) = ∃ i,A i /\ ∃ j,B j /\ C i j:=propext ⟨fun ⟨i,j,a,b,c⟩=>⟨i,a,j,b,c⟩,fun ⟨i,a,j,b,c⟩=>⟨i,j,a,b,c⟩⟩
def AJ (i:Nat):TE:=fun σ H Q=>rC σ[i]? fun v=>Q v H
theorem D3 {i:Nat}:tVar i = AJ i:=by funext σ H Q; exact lL.symm
def uo (t:TE):TT:=fun σ H Q=>t σ H fun x H'=>tt x fun k=>Q k H'
theorem uQ {t:TE}:ua t = uo t:=by
 funext σ H Q
 unfold ua uo
 congr 1
 funext x H'
 exact iu.symm
theorem F6 {t:TE}:tB t = uo t:=uQ
def xu (ta tb:TE):TE:=fun σ H Q=>ta σ H fun x H1=>tt x fun c=>if c = true then tb σ H1 Q else Q (.bl false) H1
theorem zW {ta tb:TE}:uK ta tb = xu ta tb:=by
 funext σ H Q
 unfold uK xu
 congr 1
 funext x H'
 exact iu.symm
def Eb (ta tb:TE):TE:=fun σ H Q=>ta σ H fun x H1=>tt x fun c=>if c = true then Q (.bl true) H1 else tb σ H1 Q
theorem Dx {ta tb:TE}:Aj ta tb = Eb ta tb:=by
 funext σ H Q
 unfold Aj Eb
 congr 1
 funext x H'
 exact iu.symm
def zj (ta:TE):TE:=fun σ H Q=>ta σ H fun x H1=>tt x fun c=>Q (.bl (!c)) H1
theorem zX {ta:TE}:vA ta = zj ta:=by
 funext σ H Q
 unfold vA zj
 congr 1
 funext x H'
 exact iu.symm
def mI (C:Int -> Int -> Prop) (g:Int -> Int -> V):R2:=fun x y H Q=>isInt x fun i=>isInt y fun j=>C i j /\ Q (g i j) H
theorem Gm {C:Int -> Int -> Prop} {g:Int -> Int -> V}:rI C g = mI C g:=by
 funext x y H Q
 unfold rI mI
 rw [cL]
 simp only [cL]
 exact BT
def Gc (g:Int -> Int -> V):R2:=fun x y H Q=>isInt x fun i=>isInt y fun j=>Q (g i j) H
theorem Fy {g:Int -> Int -> V}:uh g = Gc g:=by
 funext x y H Q
 unfold uh Gc
 simp only [cL]
 exact BT
def mU (g:Int -> V):V -> Hp -> VK -> Prop:=fun x H Q=>isInt x fun i=>Q (g i) H
theorem Ga {g:Int -> V}:rU g = mU g:=by
 funext x H Q
 exact cL.symm
theorem nj {i j:Int}:wn (.int i) (.int j) = true:=rfl
theorem Bg {i j:Bool}:wn (.bl i) (.bl j) = true:=rfl
def FN:R2:=fun x y H Q=>match x,y with | .int i,.int j=>Q (.bl (decide (i = j))) H | _,_=>Ew x y H Q
theorem Bn {i j:Int} {H:Hp} {Q:VK}:FN (.int i) (.int j) H Q = Q (.bl (decide (i = j))) H:=rfl
theorem BG:Ew = FN:=by
 funext x y H Q
 unfold FN
 split
 ·unfold Ew
  show (wn _ _ = true /\ _) = _
  simp only [nj,V.int.injEq,true_and]
 ·rfl
theorem zM {x y:V} {H:Hp} {Q:VK}:FN x y H Q = Ew x y H Q:=by rw [BG]
def FL:R2:=fun x y H Q=>match x,y with | .int i,.int j=>Q (.bl (!decide (i = j))) H | _,_=>El x y H Q
theorem AZ {i j:Int} {H:Hp} {Q:VK}:FL (.int i) (.int j) H Q = Q (.bl (!decide (i = j))) H:=rfl
theorem BX:El = FL:=by
 funext x y H Q
 unfold FL
 split
 ·unfold El
  show (wn _ _ = true /\ _) = _
  simp only [nj,V.int.injEq,true_and]
 ·rfl
theorem BC {x y:V} {H:Hp} {Q:VK}:FL x y H Q = El x y H Q:=by rw [BX]
section
variable {K:PySem.W.Frag}
def DV (K:PySem.W.Frag):R2:=fun x y H Q=>ii x fun p=>isInt y fun i=>∃ xs,vw K H p = some (.lst xs) /\ ∃ v,lV xs i = some v /\ Q v H
theorem Cl:wo K = DV K:=by
 funext x y H Q
 unfold wo DV
 simp only [cL,dS]
 exact BT
def Dz (K:PySem.W.Frag):R2:=fun x y H Q=>ii x fun p=>isInt y fun i=>∃ xs,vw K H p = some (.tup xs) /\ ∃ v,lV xs i = some v /\ Q v H
theorem Cz:zy K = Dz K:=by
 funext x y H Q
 unfold zy Dz
 simp only [cL,dS]
 exact BT
def CJ (K:PySem.W.Frag) (neg:Bool):R2:=fun x y H Q=>∃ d,aC (vw K H) d x /\ ∃ e,aC (vw K H) e y /\ d.cmp /\ e.cmp /\ Q (.bl (cond neg (!C4 d e) (C4 d e))) H
theorem Dn {neg:Bool}:zO K neg = CJ K neg:=by
 funext x y H Q
 unfold zO CJ
 cases neg <;> exact BT
def CQ (K:PySem.W.Frag) (neg:Bool):R2:=fun x y H Q=>ii x fun p=>ii y fun q=>∃ xs,vw K H p = some (.lst xs) /\ vw K H q = some (.lst []) /\ Q (.bl (cond neg (!xs.isEmpty) xs.isEmpty)) H
theorem Ej {neg:Bool}:AS K neg = CQ K neg:=by
 funext x y H Q
 unfold AS CQ
 simp only [dS]
 cases neg <;> exact BT
def ya (t:TE):TO:=fun σ H Q=>t σ H fun x H1=>isInt x fun i=>Q (some i) H1
theorem AV {t:TE}:uX t = ya t:=by
 funext σ H Q
 unfold uX ya
 congr 1
 funext x H'
 exact cL.symm
def Fc (K:PySem.W.Frag):V -> Option Int -> Option Int -> Hp -> VK -> Prop:=fun x lo hi H Q=>ii x fun a=>∃ xs,vw K H a = some (.lst xs) /\ Nw K H (.lst (jO xs lo hi)) Q
theorem CH:Fm K = Fc K:=by
 funext x lo hi H Q
 exact dS.symm
def wX (K:PySem.W.Frag):V -> List V -> Hp -> VK -> Prop:=fun x vs H Q=>ii x fun l=>Et vs fun y=>∃ xs,vw K H l = some (.lst xs) /\ xs.length < sizeLine /\ BD K H l (.lst (xs ++ [y])) (Q .non)
theorem Aw:zm K = wX K:=by
 funext x y H Q
 unfold zm wX
 simp only [dS,mF]
 exact BT
def uC (K:PySem.W.Frag):V -> V -> V -> Hp -> (Hp -> Prop) -> Prop:=fun o i v H Q=>ii o fun p=>isInt i fun k=>∃ xs,vw K H p = some (.lst xs) /\ ∃ j,tN xs.length k = some j /\ BD K H p (.lst (xs.set j v)) Q
theorem Bv:yf K = uC K:=by
 funext x y v H Q
 unfold yf uC
 simp only [dS,cL]
 exact BT
def C8 (i j:Nat) (ta:TA):TS:=fun D σ H=>ta σ H fun vs H1=>FU vs fun v w=>D.nx ((σ.set i (some v)).set j (some w)) H1
theorem DW {i j:Nat} {ta:TA}:Bx i j ta = C8 i j ta:=by
 funext D σ H
 unfold Bx C8
 congr 1
 funext x H'
 exact qw.symm
def Fr (i:Nat) (te:TE) (ti:zt):TS:=fun D σ H=>rC σ[i]? fun x=>te σ H fun y H1=>ti x y H1 fun z H2=>D.nx (σ.set i (some z)) H2
theorem DQ {i:Nat} {te:TE} {ti:zt}:C9 i te ti = Fr i te ti:=by
 funext D σ H
 exact lL.symm
def yq (K:PySem.W.Frag) (tl:TE):TI:=fun σ H R=>tl σ H fun x H1=>ii x fun a=>(∃ xs,hZ K H1 a xs) /\ R (FS K a) H1
theorem AU {tl:TE}:vd K tl = yq K tl:=by
 funext σ H R
 unfold vd yq
 congr 1
 funext x H'
 exact dS.symm
def wR (ta:TA):TI:=fun σ H R=>ta σ H fun vs H1=>Et vs fun x=>isInt x fun j=>-(2 ^ 62) <= j /\ j < 2 ^ 62 /\ R (Eu 0 j.toNat) H1
theorem Bj {ta:TA}:uM ta = wR ta:=by
 funext σ H R
 unfold uM wR
 congr 1
 funext x H'
 simp only [mF,cL]
 exact propext ⟨fun ⟨j,a,b⟩=>⟨_,a,j,rfl,b⟩,fun ⟨_,a,j,e,b⟩=>⟨j,by rw [a,e],b⟩⟩
def sG (K:PySem.W.Frag):R2:=fun x y H Q=>match x,y with
 | .int i,.int j=>Q (.int (i + j)) H
 | .ref l,.ref b=>∃ xs,vw K H l = some (.lst xs) /\ ∃ zs,vw K H b = some (.lst zs) /\ xs.length + zs.length <= sizeLine /\ Nw K H (.lst (xs ++ zs)) Q
 | _,_=>gf K x y H Q
theorem wm {i j:Int} {H:Hp} {Q:VK}:sG K (.int i) (.int j) H Q = Q (.int (i + j)) H:=rfl
theorem wz {l b:Addr} {H:Hp} {Q:VK}:sG K (.ref l) (.ref b) H Q = ∃ xs,vw K H l = some (.lst xs) /\ ∃ zs,vw K H b = some (.lst zs) /\ xs.length + zs.length <= sizeLine /\ Nw K H (.lst (xs ++ zs)) Q:=rfl
theorem ux:gf K = sG K:=by
 funext x y H Q
 unfold sG
 split
 ·exact oK
 ·exact dl
 ·rfl
theorem vE {x y:V} {H:Hp} {Q:VK}:sG K x y H Q = gf K x y H Q:=by rw [ux]
def Ak (K:PySem.W.Frag):R2:=fun x y H Q=>match x,y with
 | .int i,.int j=>IntMulOk i j /\ Q (.int (i * j)) H
 | _,_=>im K x y H Q
theorem xU {i j:Int} {H:Hp} {Q:VK}:Ak K (.int i) (.int j) H Q = (IntMulOk i j /\ Q (.int (i * j)) H):=rfl
theorem xZ:im K = Ak K:=by
 funext x y H Q
 unfold Ak
 split
 ·exact ge
 ·rfl
theorem xG {x y:V} {H:Hp} {Q:VK}:Ak K x y H Q = im K x y H Q:=by rw [xZ]
end
def Gn (P:Addr -> Hp -> VK -> Prop) (t:TA):TE:=fun σ H Q=>t σ H fun vs H1=>Et vs fun x=>ii x fun p=>P p H1 Q
theorem Fi {P:Addr -> Hp -> VK -> Prop} {t:TA}:Ap (fun xs H Q=>∃ p,xs = [.ref p] /\ P p H Q) t = Gn P t:=by
 funext σ H Q
 unfold Ap Gn
 congr 1
 funext x H'
 simp only [mF,dS]
 exact propext ⟨fun ⟨j,a,b⟩=>⟨_,a,j,rfl,b⟩,fun ⟨_,a,j,e,b⟩=>⟨j,by rw [a,e],b⟩⟩
def FX (P:Int -> Int -> Hp -> VK -> Prop) (t:TA):TE:=fun σ H Q=>t σ H fun vs H1=>FU vs fun x y=>isInt x fun i=>isInt y fun j=>P i j H1 Q
theorem EK {P:Int -> Int -> Hp -> VK -> Prop} {t:TA}:Ap (fun xs H Q=>∃ i j,xs = [.int i,.int j] /\ P i j H Q) t = FX P t:=by
 funext σ H Q
 unfold Ap FX
 congr 1
 funext x H'
 simp only [qw,cL]
 exact propext ⟨fun ⟨i,j,a,b⟩=>⟨_,_,a,i,rfl,j,rfl,b⟩,fun ⟨_,_,a,i,e,j,e',b⟩=>⟨i,j,by rw [a,e,e'],b⟩⟩
end L2
namespace L2
open PySem
theorem cu {α:Sort _} {g z:List Value -> α} (us:List Value) (hl:us.length = 1) (h:∀ a0,g [a0] = z [a0]):g us = z us:=by
 rcases us with _ | ⟨a0,_ | ⟨b,r⟩⟩
 all_goals first | exact h _ | (simp at hl; done)
theorem bF {α:Sort _} {g z:List Value -> α} (us:List Value) (hl:us.length = 2) (h:∀ a0 a1,g [a0,a1] = z [a0,a1]):g us = z us:=by
 rcases us with _ | ⟨a0,_ | ⟨a1,_ | ⟨b,r⟩⟩⟩
 all_goals first | exact h _ _ | (simp at hl; done)
theorem g9 {α:Sort _} {g z:List Value -> α} (us:List Value) (hl:us.length = 3) (h:∀ a0 a1 a2,g [a0,a1,a2] = z [a0,a1,a2]):g us = z us:=by
 rcases us with _ | ⟨a0,_ | ⟨a1,_ | ⟨a2,_ | ⟨b,r⟩⟩⟩⟩
 all_goals first | exact h _ _ _ | (simp at hl; done)
theorem m8 {α:Sort _} {g z:List Value -> α} (us:List Value) (hl:us.length = 4) (h:∀ a0 a1 a2 a3,g [a0,a1,a2,a3] = z [a0,a1,a2,a3]):g us = z us:=by
 rcases us with _ | ⟨a0,_ | ⟨a1,_ | ⟨a2,_ | ⟨a3,_ | ⟨b,r⟩⟩⟩⟩⟩
 all_goals first | exact h _ _ _ _ | (simp at hl; done)
end L2
namespace L2
open PySem PySem.Spec PyProof.Rows
end L2
namespace L2
open PySem PySem.Spec PyProof.Rows
section
variable {X:Cx}
end
end L2
namespace L2
open PySem PySem.Spec PyProof.Rows
def ch:Nat -> Nat -> Nat
 | _,0=>1
 | 0,_ + 1=>0
 | n + 1,k + 1=>ch n k + ch n (k + 1)
end L2
namespace L2
open PySem PySem.Spec PyProof.Rows
def fw (t r:Nat -> Rat):Nat -> Nat -> Rat
 | 0,h=>if h = 0 then 1 else 0
 | k + 1,h=>(if h = 0 then 0 else fw t r k (h - 1)) + t h * fw t r k h + r (h + 1) * fw t r k (h + 1)
def bw (t r:Nat -> Rat):Nat -> Nat -> Rat
 | 0,h=>if h = 0 then 1 else 0
 | k + 1,h=>bw t r k (h + 1) + t h * bw t r k h + (if h = 0 then 0 else r h * bw t r k (h - 1))
end L2
namespace L2
open PySem PySem.Spec PyProof.Rows
section
variable {X:Cx}
end
end L2
namespace L2
end L2
namespace L2
open PySem PySem.Spec PyProof.Rows
section
variable {P:Program} {w:World} {K:PySem.W.Frag} {mg:Str -> Option Value} {base:Heap}
theorem zh {N:List Str} {qual:Str} {scope:Scope} {f:Addr} {cd:Value} {A:Around} {outer:List Env} {s₀:Shared} {H₀:Hp} {E:XK} {e:Expr} {pos:Pos} {t:St -> Hp -> XK -> Prop}
  (hb:QX (fD (lW P w) P w K mg base N qual scope f cd A outer s₀ H₀ E) e t) (hsw:swapsWith e none pos.line (fD (lW P w) P w K mg base N qual scope f cd A outer s₀ H₀ E).env = pure false:=by rfl):QS (fD (lW P w) P w K mg base N qual scope f cd A outer s₀ H₀ E) (.Expr e pos) (BO E t):=⟨by
 intro pins s σ H D I h
 refine wpAny_Expr_any (wpAny_mono (hb.h pins s σ H E I h) (fun _ _ z=>z.elim) fun ev s' z=>?_) I.quiet hsw
 obtain ⟨s1,H1,I1,z⟩:=z
 exact I1.passed rfl rfl rfl z fun _ _ _ q=>q⟩
end
end L2
namespace L2
open PySem PySem.Spec PyProof.Rows
end L2
namespace L2
open PySem PySem.Spec PyProof.Rows
end L2
namespace L2
open PySem PySem.Spec PyProof.Rows
end L2
namespace L2
open PySem PySem.Spec PyProof.Rows
end L2
namespace L2
open PySem PySem.Spec PyProof.Rows
structure Ft where
 params:Arguments
 body:Expr
 scope:Scope
 Nl:List Str
 ixs:List Nat
 tl:TE
end L2
namespace L2
open PySem PySem.Spec PyProof.Rows
structure Gw where
 t:Addr
 p:Addr
 c:Addr
 d:Addr
 ps:Arguments
 b:Expr
 sc:Scope
 ds:List D
section
variable {P:Addr} {G0 G G':Hp} {qual:Str} {cl:List (Str × Addr)} {cs:Addr} {xs:List Gw} {x:Gw}
section
variable {L1 L2 L3 L4:Hp} {p c' d t:Addr} {params:Arguments} {body:Expr} {scope:Scope} {ds:List D} {Kd:Ft -> Prop} {R:List D -> Ft -> Prop}
end
end
theorem lA {f g f' g':Nat -> Rat}:∀ n,(∀ u,u < n -> f u * g u = f' u * g' u) -> aI f g n = aI f' g' n
 | 0,_=>rfl
 | n + 1,h=>by
  show aI f g n + f n * g n = aI f' g' n + f' n * g' n
  rw [lA n fun u hu=>h u (by walk_at "o"),h n (by walk_at "o")]
end L2
namespace L2
open PySem PySem.Spec PyProof.Rows
def Ob (D:Int) (B:Nat) (f:Nat -> Rat):Prop:=∀ k,∃ n:Int,f k = (n:Rat) / (D:Rat) /\ Bt B n
section
variable {D E:Int} {a b e:Nat} {f g:Nat -> Rat}
theorem FZ {n:Nat}:Bt n 0:=Nat.two_pow_pos n
theorem Ob.mono (h:Ob D a f) (hl:a <= b):Ob D b f:=fun k=>by
 obtain ⟨n,e1,h1⟩:=h k
 exact ⟨n,e1,h1.mono hl⟩
theorem Ob.congr (h:Ob D a f) (e:∀ k,g k = f k):Ob D a g:=fun k=>by
 rw [e k]
 exact h k
theorem Ob.bq {qs:List (Int × Int)} (h:Ob D a (cf qs)) (hD:D ≠ 0) (hb:Bt a D) (hF:∀ q ∈ qs,Fq q):∀ q ∈ qs,Bq a q:=fun q hq=>by
 obtain ⟨k,hk,rfl⟩:=List.getElem_of_mem hq
 obtain ⟨n,e1,h1⟩:=h k
 rw [aW (List.getElem?_eq_getElem hk)] at e1
 rw [gu (hF _ hq) (fG hD) (by rw [gg hD,e1])]
 exact iB hD h1 hb
theorem Ob.add (h1:Ob D a f) (h2:Ob D b g):Ob D (max a b + 1) (fun k=>f k + g k):=fun k=>by
 obtain ⟨m,e1,b1⟩:=h1 k
 obtain ⟨n,e2,b2⟩:=h2 k
 refine ⟨m + n,?_,b1.add b2⟩
 show f k + g k = _
 rw [e1,e2,Rat.intCast_add]
 grind
theorem Ob.up (hD:D ≠ 0) (hE:E ≠ 0) (h:Ob D a f) (hb:Bt e E):Ob (D * E) (a + e) f:=fun k=>by
 obtain ⟨n,e1,h1⟩:=h k
 refine ⟨n * E,?_,h1.mul hb⟩
 have:=aj hD
 have:=aj hE
 rw [e1,Rat.intCast_mul,Rat.intCast_mul]
 grind
theorem Ob.one {c:Rat} {m:Int} (hD:D ≠ 0) (hE:E ≠ 0) (h:Ob D a f) (hc:c = (m:Rat) / (E:Rat)) (hb:Bt b m):Ob (D * E) (a + b) (fun k=>f k * c):=fun k=>by
 obtain ⟨n,e1,h1⟩:=h k
 refine ⟨n * m,?_,h1.mul hb⟩
 have:=aj hD
 have:=aj hE
 show f k * c = _
 rw [e1,hc,Rat.intCast_mul,Rat.intCast_mul]
 grind
theorem Ob.pr (hD:D ≠ 0) (hE:E ≠ 0) (h1:Ob D a f) (h2:Ob E b g):∀ n,Ob (D * E) (a + b + n) (fun k=>pr f g n k)
 | 0=>fun k=>⟨0,by
  show (0:Rat) = ((0:Int):Rat) / _
  have c0:((0:Int):Rat) = 0:=rfl
  rw [c0]
  grind,FZ⟩
 | n + 1=>fun k=>by
  obtain ⟨m,e1,b1⟩:=Ob.pr hD hE h1 h2 n k
  show ∃ m,L2.pr f g n k + (if n <= k then f n * g (k - n) else 0) = _ /\ _
  have e1:L2.pr f g n k = (m:Rat) / ((D * E:Int):Rat):=e1
  split
  ·obtain ⟨x,e2,b2⟩:=h1 n
   obtain ⟨y,e3,b3⟩:=h2 (k - n)
   refine ⟨m + x * y,?_,(b1.add (b2.mul b3)).mono (by walk_at "o")⟩
   have:=aj hD
   have:=aj hE
   rw [e1,e2,e3,Rat.intCast_add,Rat.intCast_mul,Rat.intCast_mul]
   grind
  ·refine ⟨m,?_,b1.mono (by walk_at "o")⟩
   rw [e1]
   grind
def Pb (a:Nat) (f:Nat -> Rat):Prop:=∃ D:Int,D ≠ 0 /\ Bt a D /\ Ob D a f
theorem Pb.mono (h:Pb a f) (hl:a <= b):Pb b f:=by
 obtain ⟨D,h1,h2,h3⟩:=h
 exact ⟨D,h1,h2.mono hl,h3.mono hl⟩
theorem Pb.congr (h:Pb a f) (e:∀ k,g k = f k):Pb a g:=by
 obtain ⟨D,h1,h2,h3⟩:=h
 exact ⟨D,h1,h2,h3.congr e⟩
theorem Pb.bq {qs:List (Int × Int)} (h:Pb a (cf qs)) (hF:∀ q ∈ qs,Fq q):∀ q ∈ qs,Bq a q:=by
 obtain ⟨D,h1,h2,h3⟩:=h
 exact h3.bq h1 h2 hF
theorem Pb.pr (h1:Pb a f) (h2:Pb b g) (n:Nat):Pb (a + b + n) (fun k=>L2.pr f g n k):=by
 obtain ⟨D,d1,d2,d3⟩:=h1
 obtain ⟨E,e1,e2,e3⟩:=h2
 exact ⟨D * E,Int.mul_ne_zero d1 e1,(d2.mul e2).mono (by walk_at "o"),Ob.pr d1 e1 d3 e3 n⟩
theorem Pb.add (h1:Pb a f) (h2:Pb b g):Pb (a + b + 1) (fun k=>f k + g k):=by
 obtain ⟨D,d1,d2,d3⟩:=h1
 obtain ⟨E,e1,e2,e3⟩:=h2
 have x2:=Ob.up e1 d1 e3 d2
 rw [Int.mul_comm] at x2
 refine ⟨D * E,Int.mul_ne_zero d1 e1,(d2.mul e2).mono (by walk_at "o"),((Ob.up d1 e1 d3 e2).add x2).mono (by walk_at "o")⟩
theorem Pb.one {c:Rat} {m:Int} (h:Pb a f) (hE:E ≠ 0) (hc:c = (m:Rat) / (E:Rat)) (hb:Bt b m) (hb':Bt b E):Pb (a + b) (fun k=>f k * c):=by
 obtain ⟨D,d1,d2,d3⟩:=h
 exact ⟨D * E,Int.mul_ne_zero d1 hE,d2.mul hb',Ob.one d1 hE d3 hc hb⟩
end
theorem Cy {a:Nat} (h:1 <= a):Pb a (cf []):=⟨1,by decide,Bt.mono (m:=1) (by decide) h,fun k=>⟨0,by
  show (0:Rat) = ((0:Int):Rat) / _
  have c0:((0:Int):Rat) = 0:=rfl
  rw [c0]
  grind,FZ⟩⟩
def rm (E:Int):Nat -> Int
 | 0=>1
 | i + 1=>rm E i * E
theorem kH {E:Int} (h:E ≠ 0):∀ i,rm E i ≠ 0
 | 0=>by show (1:Int) ≠ 0; decide
 | i + 1=>Int.mul_ne_zero (kH h i) h
theorem oi {E:Int} {e:Nat} (h:Bt e E):∀ i,Bt (1 + e * i) (rm E i)
 | 0=>Bt.mono (m:=1) (by show Bt 1 1; decide) (by walk_at "o")
 | i + 1=>((oi h i).mul h).mono (by rw [Nat.mul_succ]; walk_at "o")
end L2
namespace L2
open PySem PySem.Spec PyProof.Rows
theorem sx {a b c:Int} (h:Int.gcd a b = 1) (hd:a ∣ b * c):a ∣ c:=by
 rw [<- Int.natAbs_dvd_natAbs] at hd ⊢
 rw [Int.natAbs_mul] at hd
 exact Nat.Coprime.dvd_of_dvd_mul_left h hd
theorem Bf {b q E:Int} (hb:0 < b) (hq:0 < q) (h1:b ∣ E) (h2:q ∣ E):b * q.fdiv (Int.gcd b q:Int) ∣ E:=by
 obtain ⟨_,_,_,hg,_⟩:=sL hb hq
 have e:=nl hg (Int.gcd_dvd_right b q)
 obtain ⟨m,hm⟩:=Int.gcd_dvd_left b q
 obtain ⟨g,hgg⟩ : ∃ g:Nat,g = Int.gcd b q:=⟨_,rfl⟩
 generalize hc:q.fdiv (Int.gcd b q:Int) = c at e
 rw [<- hgg] at hg e hm
 have hcop:Int.gcd c m = 1:=by
  have z:Int.gcd b q = g * Int.gcd m c:=by
   rw [hm,<- e,Int.mul_comm c,Int.gcd_mul_left]
   simp
  rw [<- hgg] at z
  have g0:0 < g:=by walk_at "o"
  have:Int.gcd m c = 1:=by
   have:g * 1 = g * Int.gcd m c:=by walk_at "o"
   exact (Nat.eq_of_mul_eq_mul_left g0 this).symm
  rw [Int.gcd_comm]
  exact this
 obtain ⟨u,hu⟩:=h1
 obtain ⟨v,hv⟩:=h2
 have:c ∣ m * u:=by
  refine ⟨v,?_⟩
  have z:(g:Int) * (m * u) = (g:Int) * (c * v):=by
   rw [<- Int.mul_assoc,<- hm,<- hu,hv,<- e]
   rw [Int.mul_comm c,Int.mul_assoc]
  exact Int.eq_of_mul_eq_mul_left hg z
 obtain ⟨t,ht⟩:=sx hcop this
 exact ⟨t,by rw [hu,ht,Int.mul_assoc]⟩
theorem iI {q:Int × Int} {n E:Int} (h:Fq q) (hE:E ≠ 0) (e:wv q = (n:Rat) / (E:Rat)):q.2 ∣ E:=by
 unfold wv at e
 have c1:=aj h.ne
 have c2:=aj hE
 have e1:(q.1:Rat) * (E:Rat) = (n:Rat) * (q.2:Rat):=by grind
 have e2:q.1 * E = n * q.2:=by
  rw [<- Rat.intCast_mul,<- Rat.intCast_mul] at e1
  exact Rat.intCast_inj.mp e1
 refine sx (b:=q.1) (by rw [Int.gcd_comm]; exact h.2) ⟨n,by rw [e2,Int.mul_comm]⟩
theorem nD {a:Nat} {qs:List (Int × Int)} {D:Int} {ns:List Int} (h:Pb a (cf qs)) (hF:∀ q ∈ qs,Fq q) (hD:0 < D) (hm:∀ E:Int,(∀ q ∈ qs,q.2 ∣ E) -> D ∣ E) (hl:ns.length = qs.length) (hn:∀ (i:Nat) (n:Int) (q:Int × Int),ns[i]? = some n -> qs[i]? = some q -> (n:Rat) = wv q * (D:Rat)):Bt a D /\ ∀ n ∈ ns,Bt a n:=by
 obtain ⟨E,hE,bE,oE⟩:=h
 obtain ⟨t,ht⟩:=hm E fun q hq=>by
  obtain ⟨k,hk,rfl⟩:=List.getElem_of_mem hq
  obtain ⟨n,e,_⟩:=oE k
  rw [aW (List.getElem?_eq_getElem hk)] at e
  exact iI (hF _ hq) hE e
 have t0:t ≠ 0:=fun z=>hE (by rw [ht,z,Int.mul_zero])
 have le:∀ x:Int,x.natAbs <= (x * t).natAbs:=fun x=>by
  rw [Int.natAbs_mul]
  exact Nat.le_mul_of_pos_right _ (by walk_at "o")
 refine ⟨?_,fun n hn'=>?_⟩
 ·unfold Bt at *
  have:=le D
  rw [<- ht] at this
  walk_at "o"
 ·obtain ⟨i,hi,rfl⟩:=List.getElem_of_mem hn'
  have hi':i < qs.length:=by walk_at "o"
  have e1:=hn i _ _ (List.getElem?_eq_getElem hi) (List.getElem?_eq_getElem hi')
  obtain ⟨m,e2,bm⟩:=oE i
  rw [aW (List.getElem?_eq_getElem hi')] at e2
  have c1:=aj hE
  have e3:((ns[i] * t:Int):Rat) = (m:Rat):=by
   rw [Rat.intCast_mul,e1,e2]
   have:(E:Rat) = (D:Rat) * (t:Rat):=by rw [ht,Rat.intCast_mul]
   have c2:(D:Rat) ≠ 0:=aj (by walk_at "o")
   have c3:(t:Rat) ≠ 0:=aj t0
   rw [this]
   grind
  have e4:=Rat.intCast_inj.mp e3
  unfold Bt at *
  have:=le ns[i]
  rw [e4] at this
  walk_at "o"
def iN (f:Nat -> Rat):Nat -> Rat -> Rat
 | 0,_=>0
 | n + 1,x=>iN f n x + f n * cT x n
theorem pD {f g:Nat -> Rat} {x:Rat}:∀ n,(∀ k,k < n -> f k = g k) -> iN f n x = iN g n x
 | 0,_=>rfl
 | n + 1,h=>by
  show iN f n x + f n * _ = iN g n x + g n * _
  rw [pD n (fun k hk=>h k (by walk_at "o")),h n (by walk_at "o")]
theorem rL {f:Nat -> Rat} {x:Rat} {n:Nat} (h:∀ k,n <= k -> f k = 0):∀ m,iN f (n + m) x = iN f n x
 | 0=>rfl
 | m + 1=>by
  show iN f (n + m) x + f (n + m) * _ = _
  rw [rL h m,h (n + m) (by walk_at "o")]
  grind
def EV (f:Nat -> Rat) (x:Rat):Rat:=iN f 20 x
theorem jL {f g:Nat -> Rat} (h:∀ k,f k = g k) (x:Rat):EV f x = EV g x:=pD 20 fun k _=>h k
theorem nO {f:Nat -> Rat} {n:Nat} (h:∀ k,n <= k -> f k = 0) (hn:n <= 20) (x:Rat):EV f x = iN f n x:=by
 have:=rL (x:=x) h (20 - n)
 rw [show n + (20 - n) = 20 by walk_at "o"] at this
 exact this
theorem rH {q:Int × Int} {qs:List (Int × Int)} {x:Rat}:∀ n,iN (cf (q :: qs)) (n + 1) x = wv q + x * iN (cf qs) n x
 | 0=>by
  show 0 + wv q * 1 = wv q + x * 0
  grind
 | n + 1=>by
  show iN (cf (q :: qs)) (n + 1) x + cf qs n * cT x (n + 1) = wv q + x * (iN (cf qs) n x + cf qs n * cT x n)
  rw [rH n,kJ]
  grind
theorem jF {x:Rat}:∀ {qs:List (Int × Int)},qs.length <= 20 -> Bc qs x = EV (cf qs) x
 | [],_=>by
  rw [nO (n:=0) (fun k _=>tT k) (by decide)]
  rfl
 | q :: qs,h=>by
  have h':qs.length + 1 <= 20:=h
  rw [nO (n:=qs.length + 1) (fun k hk=>aU hk) h',rH,<- nO (n:=qs.length) (fun k hk=>aU hk) (by walk_at "o"),<- jF (by walk_at "o")]
  rfl
end L2
namespace L2
open PySem PySem.Spec PyProof.Rows
def Gv (cs:List kB):List Rat:=cs.map fun c=>wv c.1
def Fd (cs:List kB) (i:Nat):List Rat:=(Gv cs).take i ++ (Gv cs).drop (i + 1)
end L2
namespace L2
open PySem PySem.Spec PyProof.Rows
theorem uS {D:Int} {a:Nat} {f:Nat -> Rat} {c:Int × Int} (hD:D ≠ 0) (o:Ob D a f) (fc:Fq c) (bc:Bq 10 c):∀ n,∃ M:Int,iN f n (wv c) = (M:Rat) / ((D * rm c.2 n:Int):Rat) /\ Bt (a + 12 * n + 1) M
 | 0=>⟨0,by
  show (0:Rat) = ((0:Int):Rat) / _
  have c0:((0:Int):Rat) = 0:=rfl
  rw [c0]
  grind,FZ⟩
 | n + 1=>by
  obtain ⟨M,e,b⟩:=uS hD o fc bc n
  obtain ⟨k,e2,b2⟩:=o n
  have pw:∀ m,cT (wv c) m = (rm c.1 m:Rat) / (rm c.2 m:Rat):=fun m=>by
   induction m with
   | zero =>
    show (1:Rat) = ((1:Int):Rat) / ((1:Int):Rat)
    have c1:((1:Int):Rat) = 1:=rfl
    rw [c1]
    grind
   | succ m ih =>
    show cT (wv c) m * wv c = ((rm c.1 m * c.1:Int):Rat) / ((rm c.2 m * c.2:Int):Rat)
    rw [ih,Rat.intCast_mul,Rat.intCast_mul]
    unfold wv
    have:=aj fc.ne
    have:=aj (kH fc.ne m)
    grind
  refine ⟨M * c.2 + k * rm c.1 n * c.2,?_,((b.mul bc.2).add ((b2.mul (oi bc.1 n)).mul bc.2)).mono (by walk_at "o")⟩
  show iN f n (wv c) + f n * cT (wv c) n = _ / ((D * (rm c.2 n * c.2):Int):Rat)
  have c1:=aj hD
  have c2:=aj fc.ne
  have c3:=aj (kH fc.ne n)
  rw [e,e2,pw n,Rat.intCast_add,Rat.intCast_mul,Rat.intCast_mul,Rat.intCast_mul,Rat.intCast_mul,Rat.intCast_mul,Rat.intCast_mul]
  grind
theorem yU {a:Nat} {fs:List (Int × Int)} {c v:Int × Int} (h:Pb a (cf fs)) (hl:fs.length <= 6) (fc:Fq c) (bc:Bq 10 c) (fv:Fq v) (e:wv v = EV (cf fs) (wv c)):Bq (a + 80) v:=by
 obtain ⟨D,hD,bD,oD⟩:=h
 obtain ⟨M,e1,b1⟩:=uS hD oD fc bc 6
 rw [nO (n:=6) (fun k hk=>aU (by walk_at "o")) (by decide),e1] at e
 have hn:D * rm c.2 6 ≠ 0:=Int.mul_ne_zero hD (kH fc.ne 6)
 have:v = lo M (D * rm c.2 6):=gu fv (fG hn) (by rw [gg hn,e])
 rw [this]
 exact iB hn (b1.mono (by walk_at "o")) ((bD.mul (oi bc.2 6)).mono (by walk_at "o"))
end L2
namespace L2
open PySem PySem.Spec PyProof.Rows
theorem sw {x:Rat} (i:Nat):∀ j,cT x (i + j) = cT x i * cT x j
 | 0=>by show cT x i = cT x i * 1; grind
 | j + 1=>by
  show cT x (i + j) * x = cT x i * (cT x j * x)
  rw [sw i j]
  grind
end L2
namespace L2
open PySem PySem.Spec PyProof.Rows
section
variable {X:Cx}
end
end L2
namespace L2
open PySem
abbrev Om:=List Bool -> Int
def wg:Nat -> (Nat -> Int) -> Om -> Om
 | 0,_,_=>fun _=>0
 | m + 1,v,o=>fun l=>match l with
  | []=>0
  | false :: l=>wg m v (fun k=>o (false :: k)) l
  | true :: l=>v m * o (false :: l) - wg m v (fun k=>o (true :: k)) l
theorem jU {m:Nat} {v:Nat -> Int} {o:Om} {l:List Bool}:wg (m + 1) v o (false :: l) = wg m v (fun k=>o (false :: k)) l:=rfl
theorem j7 {m:Nat} {v:Nat -> Int} {o:Om} {l:List Bool}:wg (m + 1) v o (true :: l) = v m * o (false :: l) - wg m v (fun k=>o (true :: k)) l:=rfl
theorem qJ {v:Nat -> Int} {a b:Int}:∀ (m:Nat) (o p:Om) (l:List Bool),wg m v (fun k=>a * o k + b * p k) l = a * wg m v o l + b * wg m v p l
 | 0,o,p,l=>by show (0:Int) = a * 0 + b * 0; rw [Int.mul_zero,Int.mul_zero]; rfl
 | m + 1,o,p,[]=>by show (0:Int) = a * 0 + b * 0; rw [Int.mul_zero,Int.mul_zero]; rfl
 | m + 1,o,p,false :: l=>by
  rw [jU,jU,jU]
  exact qJ m _ _ l
 | m + 1,o,p,true :: l=>by
  rw [j7,j7,j7,qJ m (fun k=>o (true :: k)) (fun k=>p (true :: k)) l]
  grind
theorem qa {v:Nat -> Int}:∀ (m:Nat) (o:Om) (l:List Bool),(∀ k,o k = 0) -> wg m v o l = 0
 | 0,o,l,h=>rfl
 | m + 1,o,[],h=>rfl
 | m + 1,o,false :: l,h=>by rw [jU]; exact qa m _ l fun k=>h _
 | m + 1,o,true :: l,h=>by rw [j7,h,qa m _ l fun k=>h _]; walk_at "o"
theorem nX {v:Nat -> Int} {m:Nat} {o p:Om} (h:∀ k,o k = p k) (l:List Bool):wg m v o l = wg m v p l:=by
 have:o = p:=funext h
 rw [this]
theorem qh {u v:Nat -> Int} {a b:Int}:∀ (m:Nat) (o:Om) (l:List Bool),wg m (fun i=>a * u i + b * v i) o l = a * wg m u o l + b * wg m v o l
 | 0,o,l=>by show (0:Int) = a * 0 + b * 0; rw [Int.mul_zero,Int.mul_zero]; rfl
 | m + 1,o,[]=>by show (0:Int) = a * 0 + b * 0; rw [Int.mul_zero,Int.mul_zero]; rfl
 | m + 1,o,false :: l=>by
  rw [jU,jU,jU]
  exact qh m _ l
 | m + 1,o,true :: l=>by
  rw [j7,j7,j7,qh m _ l]
  grind
theorem jh {v:Nat -> Int}:∀ (m:Nat) (o:Om) (l:List Bool),(∀ i,i < m -> v i = 0) -> wg m v o l = 0
 | 0,o,l,h=>rfl
 | m + 1,o,[],h=>rfl
 | m + 1,o,false :: l,h=>by rw [jU]; exact jh m _ l fun i hi=>h i (by walk_at "o")
 | m + 1,o,true :: l,h=>by rw [j7,h m (by walk_at "o"),jh m _ l fun i hi=>h i (by walk_at "o")]; walk_at "o"
theorem mG {u v:Nat -> Int}:∀ (m:Nat) (o:Om) (l:List Bool),wg m u (wg m v o) l = - wg m v (wg m u o) l
 | 0,o,l=>rfl
 | m + 1,o,[]=>rfl
 | m + 1,o,false :: l=>by
  rw [jU,jU]
  exact mG m (fun k=>o (false :: k)) l
 | m + 1,o,true :: l=>by
  rw [j7,j7,jU,jU]
  have e1:=qJ (v:=u) (a:=v m) (b:=-1) m (fun k=>o (false :: k)) (wg m v fun k=>o (true :: k)) l
  have e2:=qJ (v:=v) (a:=u m) (b:=-1) m (fun k=>o (false :: k)) (wg m u fun k=>o (true :: k)) l
  have f1:wg m u (fun k=>wg (m + 1) v o (true :: k)) l = wg m u (fun k=>v m * o (false :: k) + -1 * wg m v (fun k=>o (true :: k)) k) l:=nX (fun k=>by rw [j7]; walk_at "o") l
  have f2:wg m v (fun k=>wg (m + 1) u o (true :: k)) l = wg m v (fun k=>u m * o (false :: k) + -1 * wg m u (fun k=>o (true :: k)) k) l:=nX (fun k=>by rw [j7]; walk_at "o") l
  have s:=mG (u:=u) (v:=v) m (fun k=>o (true :: k)) l
  rw [f1,f2,e1,e2]
  grind
theorem zU {v:Nat -> Int} (m:Nat) (o:Om) (l:List Bool):wg m v (wg m v o) l = 0:=by
 have:=mG (u:=v) (v:=v) m o l
 walk_at "o"
section
variable (W:Nat -> Int)
def rQ (i:Nat):Nat -> Int:=fun j=>W (i + j)
def E2:Om:=fun l=>if l.all (fun b=>!b) then 1 else 0
def om (m:Nat):Nat -> Om
 | 0=>E2
 | k + 1=>wg m (rQ W k) (om m k)
def Df:Nat -> List Bool
 | 0=>[]
 | m + 1=>true :: Df m
def tL (j:Nat):Nat -> Int:=fun i=>if i = j then 1 else 0
def qk (k j:Nat):Int:=wg (k + 1) (tL j) (om W (k + 1) k) (Df (k + 1))
def Dk (k:Nat):Int:=om W k k (Df k)
def Lq (k i:Nat):Int:=wg (k + 1) (rQ W i) (om W (k + 1) k) (Df (k + 1))
end
variable {W:Nat -> Int}
theorem sE (m:Nat):∀ (k:Nat) (l:List Bool),om W (m + 1) k (false :: l) = om W m k l
 | 0,l=>by simp [om,E2]
 | k + 1,l=>by
  show wg (m + 1) (rQ W k) (om W (m + 1) k) (false :: l) = wg m (rQ W k) (om W m k) l
  rw [jU]
  exact nX (fun j=>sE m k j) l
theorem vy (m:Nat):∀ (k i:Nat) (l:List Bool),i < k -> wg m (rQ W i) (om W m k) l = 0
 | 0,i,l,h=>by walk_at "o"
 | k + 1,i,l,h=>by
  show wg m (rQ W i) (wg m (rQ W k) (om W m k)) l = 0
  by_cases e:i = k
  ·rw [e]; exact zU m _ l
  ·rw [mG,qa m _ l fun j=>vy m k i j (by walk_at "o")]
   rfl
theorem wa:Dk W 0 = 1:=rfl
theorem eO (k:Nat):qk W k k = Dk W k:=by
 show wg (k + 1) (tL k) (om W (k + 1) k) (true :: Df k) = om W k k (Df k)
 rw [j7,sE,jh (v:=tL k) k _ _ fun i hi=>if_neg (by walk_at "o")]
 show (if k = k then (1:Int) else 0) * _ - 0 = _
 rw [if_pos rfl]
 walk_at "o"
theorem dt {k j:Nat} (h:k < j):qk W k j = 0:=jh _ _ _ fun i hi=>if_neg (by walk_at "o")
theorem jq {k i:Nat} (h:i < k):Lq W k i = 0:=vy _ k i _ h
theorem eY (k:Nat):Lq W k k = Dk W (k + 1):=rfl
def bC (f:Nat -> Int):Nat -> Int
 | 0=>0
 | n + 1=>bC f n + f n
theorem eX {f g:Nat -> Int}:∀ n,(∀ i,i < n -> f i = g i) -> bC f n = bC g n
 | 0,_=>rfl
 | n + 1,h=>by
  show bC f n + f n = bC g n + g n
  rw [eX n fun i hi=>h i (by walk_at "o"),h n (by walk_at "o")]
theorem fU {f:Nat -> Int}:∀ n,(∀ i,i < n -> f i = 0) -> bC f n = 0
 | 0,_=>rfl
 | n + 1,h=>by
  show bC f n + f n = 0
  rw [fU n fun i hi=>h i (by walk_at "o"),h n (by walk_at "o")]
  rfl
theorem oO {f:Nat -> Int} {n:Nat} (h:∀ i,n <= i -> f i = 0):∀ m,bC f (n + m) = bC f n
 | 0=>rfl
 | m + 1=>by
  show bC f (n + m) + f (n + m) = bC f n
  rw [oO h m,h (n + m) (by walk_at "o")]
  walk_at "o"
theorem iF {f:Nat -> Int} {j:Nat}:∀ n,(∀ i,i < n -> i ≠ j -> f i = 0) -> j < n -> bC f n = f j
 | 0,_,h=>by walk_at "o"
 | n + 1,h,hj=>by
  show bC f n + f n = f j
  by_cases e:j = n
  ·rw [fU n fun i hi=>h i (by walk_at "o") (by walk_at "o"),e]
   walk_at "o"
  ·rw [iF n (fun i hi hn=>h i (by walk_at "o") hn) (by walk_at "o"),h n (by walk_at "o") (by walk_at "o")]
   walk_at "o"
theorem oV {v:Nat -> Int} {M:Nat} {o:Om} {l:List Bool}:∀ n,wg M (fun i=>bC (fun j=>v j * tL j i) n) o l = bC (fun j=>v j * wg M (tL j) o l) n
 | 0=>jh _ _ _ fun i _=>rfl
 | n + 1=>by
  have e:=qh (u:=fun i=>bC (fun j=>v j * tL j i) n) (v:=tL n) (a:=1) (b:=v n) M o l
  have f:(fun i=>bC (fun j=>v j * tL j i) (n + 1)) = fun i=>1 * bC (fun j=>v j * tL j i) n + v n * tL n i:=funext fun i=>by
   show bC _ n + v n * tL n i = _
   rw [Int.one_mul]
  rw [f,e,oV n]
  show _ = bC _ n + v n * _
  rw [Int.one_mul]
theorem qq (k i:Nat):Lq W k i = bC (fun j=>W (i + j) * qk W k j) (k + 1):=by
 unfold Lq qk
 rw [<- oV (v:=fun j=>W (i + j)) (M:=k + 1)]
 have:∀ m (o:Om) (l:List Bool) (u v:Nat -> Int),(∀ i,i < m -> u i = v i) -> wg m u o l = wg m v o l:=fun m o l u v h=>by
  have e:=qh (u:=u) (v:=v) (a:=1) (b:=-1) m o l
  rw [jh m o l fun i hi=>by rw [h i hi]; walk_at "o"] at e
  walk_at "o"
 refine this _ _ _ _ _ fun c hc=>?_
 show W (i + c) = _
 rw [iF (j:=c) (k + 1) (fun j _ hj=>by unfold tL; rw [if_neg (fun z=>hj z.symm),Int.mul_zero]) hc]
 unfold tL
 rw [if_pos rfl,Int.mul_one]
end L2
namespace L2
open PySem
variable {W:Nat -> Int}
theorem fj {f:Nat -> Int} {a:Int}:∀ n,bC (fun i=>a * f i) n = a * bC f n
 | 0=>by show (0:Int) = a * 0; rw [Int.mul_zero]
 | n + 1=>by
  show bC (fun i=>a * f i) n + a * f n = a * (bC f n + f n)
  rw [fj n]
  grind
theorem iH {f g:Nat -> Int}:∀ n,bC (fun i=>f i + g i) n = bC f n + bC g n
 | 0=>rfl
 | n + 1=>by
  show bC (fun i=>f i + g i) n + (f n + g n) = (bC f n + f n) + (bC g n + g n)
  rw [iH n]
  walk_at "o"
theorem oS {f:Nat -> Nat -> Int} (M:Nat):∀ N,bC (fun i=>bC (fun j=>f i j) M) N = bC (fun j=>bC (fun i=>f i j) N) M
 | 0=>by
  show (0:Int) = bC (fun j=>bC (fun i=>f i j) 0) M
  exact (fU (f:=fun j=>bC (fun i=>f i j) 0) M fun i _=>rfl).symm
 | N + 1=>by
  show bC _ N + bC (fun j=>f N j) M = bC (fun j=>bC (fun i=>f i j) N + f N j) M
  rw [oS M N,iH]
def LL (W:Nat -> Int) (p:Nat -> Int) (N i:Nat):Int:=bC (fun j=>W (i + j) * p j) N
theorem oC (k i:Nat):LL W (qk W k) (k + 1) i = Lq W k i:=(qq k i).symm
theorem ug {p:Nat -> Int} {n i:Nat} (h:∀ j,n <= j -> p j = 0) (m:Nat):LL W p (n + m) i = LL W p n i:=oO (fun j hj=>by rw [h j hj,Int.mul_zero]) m
theorem uZ {a d:Nat -> Int} {N M:Nat}:bC (fun i=>a i * LL W d M i) N = bC (fun j=>d j * LL W a N j) M:=by
 have e1:bC (fun i=>a i * LL W d M i) N = bC (fun i=>bC (fun j=>a i * (W (i + j) * d j)) M) N:=eX N fun i _=>(fj M).symm
 have e2:bC (fun j=>d j * LL W a N j) M = bC (fun j=>bC (fun i=>a i * (W (i + j) * d j)) N) M:=eX M fun j _=>by
  unfold LL
  rw [<- fj]
  exact eX N fun i _=>by rw [Nat.add_comm j i]; grind
 rw [e1,e2]
 exact oS M N
theorem Bb {d:Nat -> Int} {k M:Nat} (hM:k + 1 <= M) (hD:∀ i,i <= k + 1 -> Dk W i ≠ 0) (h0:∀ i,i <= k -> LL W d M i = 0) (hd:∀ j,k < j -> d j = 0):∀ j,d j = 0:=by
 have down:∀ n,n <= k + 1 -> ∀ j,k + 1 - n <= j -> d j = 0:=by
  intro n
  induction n with
  | zero=>exact fun _ j hj=>hd j (by walk_at "o")
  | succ n ih =>
   intro hn j hj
   have ihn:=ih (by walk_at "o")
   by_cases e:j = k - n
   ·have hz:bC (fun i=>qk W (k - n) i * LL W d M i) (k - n + 1) = 0:=fU _ fun i hi=>by rw [h0 i (by walk_at "o"),Int.mul_zero]
    rw [uZ,iF (j:=k - n) M (fun i hi hne=>?_) (by walk_at "o"),oC,eY] at hz
    ·rcases Int.mul_eq_zero.mp hz with z | z
     ·rw [e]; exact z
     ·exact absurd z (hD _ (by walk_at "o"))
    ·by_cases hlt:i < k - n
     ·show d i * LL W (qk W (k - n)) (k - n + 1) i = 0
      rw [oC,jq hlt,Int.mul_zero]
     ·show d i * LL W (qk W (k - n)) (k - n + 1) i = 0
      rw [ihn i (by walk_at "o"),Int.zero_mul]
   ·exact ihn j (by walk_at "o")
 exact fun j=>down (k + 1) (Nat.le_refl _) j (by walk_at "o")
def vL (p:Nat -> Int):Nat -> Int
 | 0=>0
 | j + 1=>p j
theorem BQ {p:Nat -> Int} {i:Nat}:∀ N,LL W (vL p) (N + 1) i = LL W p N (i + 1)
 | 0=>by
  show (0:Int) + W (i + 0) * 0 = 0
  rw [Int.mul_zero]
  rfl
 | N + 1=>by
  show LL W (vL p) (N + 1) i + W (i + (N + 1)) * p N = LL W p N (i + 1) + W (i + 1 + N) * p N
  rw [BQ N,show i + (N + 1) = i + 1 + N by walk_at "o"]
theorem xV {n:Nat} (hD:Dk W (n + 1) ≠ 0):qk W (n + 1) n = - Lq W n (n + 1):=by
 have h1:bC (fun i=>qk W n i * LL W (qk W (n + 1)) (n + 2) i) (n + 1) = 0:=fU _ fun i hi=>by rw [oC,jq (by walk_at "o"),Int.mul_zero]
 rw [uZ] at h1
 have h2:bC (fun j=>qk W (n + 1) j * LL W (qk W n) (n + 1) j) (n + 2) = qk W (n + 1) n * Dk W (n + 1) + qk W (n + 1) (n + 1) * Lq W n (n + 1):=by
  show bC (fun j=>qk W (n + 1) j * LL W (qk W n) (n + 1) j) (n + 1) + qk W (n + 1) (n + 1) * LL W (qk W n) (n + 1) (n + 1) = _
  rw [iF (j:=n) (n + 1) (fun i hi hne=>by rw [oC,jq (by walk_at "o"),Int.mul_zero]) (by walk_at "o"),oC,oC,eY]
 rw [h2,eO] at h1
 have h3:Dk W (n + 1) * (qk W (n + 1) n + Lq W n (n + 1)) = 0:=by grind
 rcases Int.mul_eq_zero.mp h3 with z | z
 ·exact absurd z hD
 ·walk_at "o"
def me (W:Nat -> Int):Nat -> Int
 | 0=>Dk W 0 * Lq W 0 1
 | n + 1=>Dk W (n + 1) * Lq W (n + 1) (n + 2) + Dk W (n + 2) * qk W (n + 1) n
def kZ (W:Nat -> Int):Nat -> Nat -> Int
 | 0,_=>0
 | n + 1,j=>qk W n j
def Fz (W:Nat -> Int):Nat -> Nat -> Int
 | 0,_=>0
 | n + 1,i=>Lq W n i
theorem CC (k i:Nat):LL W (kZ W k) (k + 2) i = Fz W k i:=by
 cases k with
 | zero=>exact fU _ fun j _=>Int.mul_zero _
 | succ n =>
  show LL W (qk W n) (n + 1 + 2) i = Lq W n i
  rw [ug fun j hj=>dt (by walk_at "o"),oC]
theorem xq {k:Nat} (hD:∀ i,i <= k + 1 -> Dk W i ≠ 0) (j:Nat) :
  Dk W k * Dk W (k + 1) * vL (qk W k) j - me W k * qk W k j - Dk W (k + 1) * Dk W (k + 1) * kZ W k j = Dk W k * Dk W k * qk W (k + 1) j:=by
 obtain ⟨d,hd⟩ : ∃ d:Nat -> Int,d = fun j=>(Dk W k * Dk W (k + 1)) * vL (qk W k) j + (-1) * (me W k * qk W k j + (Dk W (k + 1) * Dk W (k + 1) * kZ W k j + Dk W k * Dk W k * qk W (k + 1) j)):=⟨_,rfl⟩
 have z:∀ j,d j = 0:=by
  refine Bb (k:=k) (M:=k + 2) (by walk_at "o") hD (fun i hi=>?_) (fun j hj=>?_)
  ·have e:LL W d (k + 2) i = Dk W k * Dk W (k + 1) * Lq W k (i + 1) - me W k * Lq W k i - Dk W (k + 1) * Dk W (k + 1) * Fz W k i - Dk W k * Dk W k * Lq W (k + 1) i:=by
    have f:LL W d (k + 2) i = (Dk W k * Dk W (k + 1)) * LL W (vL (qk W k)) (k + 2) i + (-1) * (me W k * LL W (qk W k) (k + 2) i + (Dk W (k + 1) * Dk W (k + 1) * LL W (kZ W k) (k + 2) i + Dk W k * Dk W k * LL W (qk W (k + 1)) (k + 2) i)):=by
     unfold LL
     rw [<- fj,<- fj,<- fj,<- fj,<- iH,<- iH,<- fj,<- iH]
     refine eX _ fun j _=>?_
     rw [hd]
     grind
    have m:LL W (qk W k) (k + 2) i = Lq W k i:=by
     have:=ug (W:=W) (p:=qk W k) (n:=k + 1) (i:=i) (fun j hj=>dt (by walk_at "o")) 1
     rw [oC] at this
     exact this
    rw [f,BQ,oC,m,CC,oC]
    grind
   rw [e,jq (k:=k + 1) (by walk_at "o")]
   by_cases e1:i = k
   ·subst e1
    cases i with
    | zero =>
     show Dk W 0 * Dk W 1 * Lq W 0 1 - Dk W 0 * Lq W 0 1 * Lq W 0 0 - Dk W 1 * Dk W 1 * 0 - Dk W 0 * Dk W 0 * 0 = 0
     rw [eY]
     grind
    | succ n =>
     show Dk W (n + 1) * Dk W (n + 2) * Lq W (n + 1) (n + 2) - (Dk W (n + 1) * Lq W (n + 1) (n + 2) + Dk W (n + 2) * qk W (n + 1) n) * Lq W (n + 1) (n + 1) - Dk W (n + 2) * Dk W (n + 2) * Lq W n (n + 1) - Dk W (n + 1) * Dk W (n + 1) * 0 = 0
     rw [eY,xV (hD _ (by walk_at "o"))]
     grind
   ·cases k with
    | zero=>walk_at "o"
    | succ n =>
     rw [jq (k:=n + 1) (i:=i) (by walk_at "o")]
     show Dk W (n + 1) * Dk W (n + 2) * Lq W (n + 1) (i + 1) - me W (n + 1) * 0 - Dk W (n + 2) * Dk W (n + 2) * Lq W n i - Dk W (n + 1) * Dk W (n + 1) * 0 = 0
     by_cases e2:i = n
     ·rw [e2,eY,eY]
      grind
     ·rw [jq (k:=n + 1) (by walk_at "o"),jq (k:=n) (by walk_at "o")]
      grind
  ·have b0:kZ W k j = 0:=by
    cases k with
    | zero=>rfl
    | succ n=>exact dt (by walk_at "o")
   rw [hd]
   show Dk W k * Dk W (k + 1) * vL (qk W k) j + -1 * (me W k * qk W k j + (Dk W (k + 1) * Dk W (k + 1) * kZ W k j + Dk W k * Dk W k * qk W (k + 1) j)) = 0
   rw [b0,dt hj]
   obtain ⟨j',rfl⟩ : ∃ j',j = j' + 1:=⟨j - 1,by walk_at "o"⟩
   show Dk W k * Dk W (k + 1) * qk W k j' + _ = 0
   by_cases e:j' = k
   ·rw [e,eO,eO]
    grind
   ·rw [dt (k:=k) (j:=j') (by walk_at "o"),dt (k:=k + 1) (by walk_at "o")]
    grind
 have:=z j
 rw [hd] at this
 dsimp only at this
 grind
theorem pV {v:Nat -> Int} {B C:Nat} (hv:∀ i,(v i).natAbs <= B):∀ (m:Nat) (o:Om) (l:List Bool),(∀ k,(o k).natAbs <= C) -> (wg m v o l).natAbs <= m * (B * C)
 | 0,o,l,h=>by simp [wg]
 | m + 1,o,[],h=>by simp [wg]
 | m + 1,o,false :: l,h=>by
  rw [jU]
  have:=pV hv m (fun k=>o (false :: k)) l fun k=>h _
  rw [Nat.add_mul]
  walk_at "o"
 | m + 1,o,true :: l,h=>by
  rw [j7]
  have h1:=pV hv m (fun k=>o (true :: k)) l fun k=>h _
  have h2:(v m * o (false :: l)).natAbs <= B * C:=by rw [Int.natAbs_mul]; exact Nat.mul_le_mul (hv m) (h _)
  have h3:=Int.natAbs_sub_le (v m * o (false :: l)) (wg m v (fun k=>o (true :: k)) l)
  rw [Nat.add_mul]
  walk_at "o"
theorem xr {B m:Nat} (hW:∀ i,(W i).natAbs <= B):∀ k l,(om W m k l).natAbs <= (m * B) ^ k
 | 0,l=>by
  show (if _ then (1:Int) else 0).natAbs <= 1
  split <;> decide
 | k + 1,l=>by
  have:=pV (v:=rQ W k) (B:=B) (C:=(m * B) ^ k) (fun i=>hW _) m (om W m k) l (xr hW k)
  rw [Nat.pow_succ,Nat.mul_comm,Nat.mul_assoc]
  exact this
theorem tU {B k:Nat} (hW:∀ i,(W i).natAbs <= B) (j:Nat):(qk W k j).natAbs <= (k + 1) * ((k + 1) * B) ^ k:=by
 have:=pV (v:=tL j) (B:=1) (C:=((k + 1) * B) ^ k) (fun i=>by unfold tL; split <;> decide) (k + 1) (om W (k + 1) k) (Df (k + 1)) (xr hW k)
 rw [Nat.one_mul] at this
 exact this
end L2
namespace L2
open PySem PySem.Spec PyProof.Rows
def IL (G:Hp) (a:Addr) (n:Nat) (p:Nat -> Int):Prop:=G a = some (.lst (lz n fun i=>V.int (p i)))
theorem IL.same {G G':Hp} {a:Addr} {n:Nat} {p:Nat -> Int} (h:IL G a n p) (S:aw G G'):IL G' a n p:=S _ _ h
theorem IL.len {G:Hp} {a:Addr} {n:Nat} {p:Nat -> Int} (h:IL G a n p):fA G a = some n:=by
 unfold IL at h
 simp only [fA,h]
 rw [be]
theorem mW {α:Type} {n:Nat} {h:Nat -> α} {xs:List α} (hl:xs.length = n) (he:∀ i,i < n -> xs[i]? = some (h i)):xs = lz n h:=by
 refine List.ext_getElem? fun i=>?_
 by_cases hi:i < n
 ·rw [he i hi,cG hi]
 ·rw [List.getElem?_eq_none (by walk_at "o"),List.getElem?_eq_none (by rw [be]; walk_at "o")]
theorem Az {α:Type} {n k:Nat} {h:Nat -> α}:(lz n h).drop k = lz (n - k) fun i=>h (k + i) :=
 mW (by rw [List.length_drop,be]) fun i hi=>by rw [List.getElem?_drop,cG (by walk_at "o")]
theorem DF {α β:Type} {m n:Nat} {f:Nat -> α} {g:Nat -> β} (h:m <= n):(lz m f).zip (lz n g) = lz m fun i=>(f i,g i) :=
 mW (by rw [List.length_zip,be,be]; walk_at "o") fun i hi=>by
  rw [List.getElem?_zip_eq_some]
  exact ⟨cG hi,cG (by walk_at "o")⟩
theorem jP {α:Type} {n:Nat} {h:Nat -> α}:lz (n + 1) h = lz n h ++ [h n]:=by simp [lz,List.range_succ]
theorem mK {α:Type} {n:Nat} {h:Nat -> α}:lz (n + 1) h = h 0 :: lz n fun i=>h (i + 1) :=
 (mW (by simp [be]) fun i hi=>by
  cases i with
  | zero=>rfl
  | succ i =>
   rw [List.getElem?_cons_succ]
   exact cG (by walk_at "o")).symm
theorem uH {f:Nat -> Int}:∀ n,j4 (lz n f) = bC f n
 | 0=>rfl
 | n + 1=>by
  rw [jP,nA,uH n]
  show _ + (f n + 0) = bC f n + f n
  walk_at "o"
theorem Cb {α:Type} {n k:Nat} {h:Nat -> α} (hk:k < n):lV (lz n h) (k:Int) = some (h k):=bQ (cG hk)
theorem mw {α:Type} {n:Nat} {h:Nat -> α}:lV (lz (n + 1) h) (-1) = some (h n):=gr (by rw [jP]; simp)
theorem x9 {α:Type} {n:Nat} {h:Nat -> α}:lV (lz (n + 2) h) (-2) = some (h n):=by
 unfold lV tN
 rw [be,if_neg (by decide),if_pos (by walk_at "o")]
 have e:((-2:Int) + ((n + 2:Nat):Int)).toNat = n:=by walk_at "o"
 show (lz (n + 2) h)[((-2:Int) + ((n + 2:Nat):Int)).toNat]? = some (h n)
 rw [e,cG (by walk_at "o")]
theorem Bt.of_le {n m:Nat} {x:Int} (h:x.natAbs <= 2 ^ n) (hn:n < m):Bt m x:=by
 unfold Bt
 exact Nat.lt_of_le_of_lt h (Nat.pow_lt_pow_right (by decide) hn)
theorem lY {W:Nat -> Int} {b k j:Nat} (hW:∀ i,Bt b (W i)) (hk:k <= 5):Bt (5 * b + 19) (qk W k j):=by
 have h:=tU (W:=W) (B:=2 ^ b) (k:=k) (fun i=>Nat.le_of_lt (hW i)) j
 refine Bt.of_le (n:=5 * b + 18) (Nat.le_trans h ?_) (by walk_at "o")
 have h1:(k + 1) * 2 ^ b <= 2 ^ (b + 3):=by
  rw [Nat.pow_add,Nat.mul_comm]
  exact Nat.mul_le_mul_left _ (by walk_at "o")
 have h2:((k + 1) * 2 ^ b) ^ k <= 2 ^ (5 * b + 15):=by
  refine Nat.le_trans (Nat.pow_le_pow_left h1 k) ?_
  rw [<- Nat.pow_mul]
  refine Nat.pow_le_pow_right (by decide) ?_
  have:(b + 3) * k <= (b + 3) * 5:=Nat.mul_le_mul_left _ hk
  walk_at "o"
 have h3:(2:Nat) ^ (5 * b + 18) = 8 * 2 ^ (5 * b + 15):=by
  rw [show 5 * b + 18 = (5 * b + 15) + 3 by walk_at "o",Nat.pow_add]
  walk_at "o"
 rw [h3]
 exact Nat.mul_le_mul (by walk_at "o") h2
theorem vb {f:Nat -> Int} {b:Nat} (h:∀ i,Bt b (f i)):∀ n,Bt (b + n) (bC f n)
 | 0=>by
  show Bt (b + 0) 0
  unfold Bt
  exact Nat.pow_pos (by decide)
 | n + 1=>by
  have h1:=vb h n
  have h2:=h n
  unfold Bt at h1 h2 ⊢
  have e:(2:Nat) ^ (b + (n + 1)) = 2 ^ (b + n) + 2 ^ (b + n):=by rw [<- Nat.add_assoc,Nat.pow_succ]; walk_at "o"
  have e2:(2:Nat) ^ b <= 2 ^ (b + n):=Nat.pow_le_pow_right (by decide) (by walk_at "o")
  have h3:=Int.natAbs_add_le (bC f n) (f n)
  show (bC f n + f n).natAbs < _
  walk_at "o"
theorem um {W:Nat -> Int} {b k i:Nat} (hW:∀ i,Bt b (W i)) (hk:k <= 5):Bt (6 * b + 26) (Lq W k i):=by
 rw [qq]
 refine (vb (b:=b + (5 * b + 19)) (fun j=>(hW _).mul (lY hW hk)) (k + 1)).mono (by walk_at "o")
theorem jx {W:Nat -> Int} {b k:Nat} (hW:∀ i,Bt b (W i)) (hk:k <= 6):Bt (6 * b + 26) (Dk W k):=by
 cases k with
 | zero =>
  rw [wa]
  unfold Bt
  exact Nat.lt_of_lt_of_le (by decide:(1:Int).natAbs < 2 ^ 1) (Nat.pow_le_pow_right (by decide) (by walk_at "o"))
 | succ k=>rw [<- eY]; exact um hW (by walk_at "o")
end L2
namespace L2
open PySem PySem.Spec PyProof.Rows
theorem j6 {D n:Int} {a:Nat} {q:Int × Int} (hq:Fq q) (e:wv q = (n:Rat) / (D:Rat)) (hD:D ≠ 0) (h1:Bt a n) (h2:Bt a D):Bq a q:=by
 rw [gu hq (fG hD) (by rw [gg hD,e])]
 exact iB hD h1 h2
theorem EY {D E:Int} {a b:Nat} {f g:Nat -> Rat} (hD:D ≠ 0) (hE:E ≠ 0) (h1:Ob D a f) (h2:Ob E b g) (j l:Nat):Ob (D * E) (a + b + j + 1) (fun k=>qr f g j l k):=by
 have hp:=Ob.pr hD hE h1 h2 j
 have hx:Ob (D * E) (a + b) (fun k=>if j <= k /\ k - j < l then f j * g (k - j) else 0):=fun k=>by
  by_cases hc:j <= k /\ k - j < l
  ·obtain ⟨m,e1,b1⟩:=h1 j
   obtain ⟨n,e2,b2⟩:=h2 (k - j)
   refine ⟨m * n,?_,b1.mul b2⟩
   show (if _ then _ else _) = _
   rw [if_pos hc,e1,e2,Rat.intCast_mul,Rat.intCast_mul]
   have n1:(D:Rat) ≠ 0:=aj hD
   have n2:(E:Rat) ≠ 0:=aj hE
   grind
  ·refine ⟨0,?_,by unfold Bt; exact Nat.pow_pos (by decide)⟩
   show (if _ then _ else _) = _
   rw [if_neg hc]
   have:((0:Int):Rat) = 0:=rfl
   rw [this]
   grind
 exact (Ob.add hp hx).mono (by walk_at "o")
theorem y7 {D E:Int} {a b:Nat} {f g:Nat -> Rat} (hD:D ≠ 0) (hE:E ≠ 0) (h1:Ob D a f) (h2:Ob E b g):∀ j,∃ n:Int,aI f g j = (n:Rat) / ((D * E:Int):Rat) /\ Bt (a + b + j) n
 | 0=>⟨0,by
   show (0:Rat) = _
   have:((0:Int):Rat) = 0:=rfl
   rw [this]
   grind,by unfold Bt; exact Nat.pow_pos (by decide)⟩
 | j + 1=>by
  obtain ⟨n,e,bn⟩:=y7 hD hE h1 h2 j
  obtain ⟨x,e1,b1⟩:=h1 j
  obtain ⟨y,e2,b2⟩:=h2 j
  refine ⟨n + x * y,?_,?_⟩
  ·show aI f g j + f j * g j = _
   rw [e,e1,e2,Rat.intCast_add,Rat.intCast_mul,Rat.intCast_mul]
   have n1:(D:Rat) ≠ 0:=aj hD
   have n2:(E:Rat) ≠ 0:=aj hE
   grind
  ·have h3:=Bt.mul b1 b2
   unfold Bt at bn h3 ⊢
   have e3:(2:Nat) ^ (a + b + (j + 1)) = 2 ^ (a + b + j) + 2 ^ (a + b + j):=by rw [<- Nat.add_assoc,Nat.pow_succ]; walk_at "o"
   have e4:(2:Nat) ^ (a + b) <= 2 ^ (a + b + j):=Nat.pow_le_pow_right (by decide) (by walk_at "o")
   have h4:=Int.natAbs_add_le n (x * y)
   walk_at "o"
end L2
namespace L2
open PySem PySem.Spec PyProof.Rows
theorem nW {f g h:Nat -> Rat}:∀ n,aI (fun i=>f i + g i) h n = aI f h n + aI g h n
 | 0=>by show (0:Rat) = 0 + 0; grind
 | n + 1=>by
  show aI (fun i=>f i + g i) h n + (f n + g n) * h n = (aI f h n + f n * h n) + (aI g h n + g n * h n)
  rw [nW n]
  grind
theorem cN {f h:Nat -> Rat}:∀ n,(∀ i,i < n -> f i * h i = 0) -> aI f h n = 0
 | 0,_=>rfl
 | n + 1,hz=>by
  show aI f h n + f n * h n = 0
  rw [cN n fun i hi=>hz i (by walk_at "o"),hz n (by walk_at "o")]
  grind
theorem cQ {f h:Nat -> Rat} {n:Nat} (hz:∀ i,n <= i -> f i * h i = 0):∀ m,aI f h (n + m) = aI f h n
 | 0=>rfl
 | m + 1=>by
  show aI f h (n + m) + f (n + m) * h (n + m) = aI f h n
  rw [cQ hz m,hz (n + m) (by walk_at "o")]
  grind
theorem lG {g h:Nat -> Rat} {c:Rat} {n:Nat}:∀ N,aI (fun m=>if n <= m then c * g (m - n) else 0) h N = c * aI g (fun j=>h (n + j)) (N - n)
 | 0=>by
  rw [Nat.zero_sub]
  show (0:Rat) = c * 0
  grind
 | N + 1=>by
  show aI (fun m=>if n <= m then c * g (m - n) else 0) h N + (if n <= N then c * g (N - n) else 0) * h N = _
  rw [lG N]
  by_cases e:n <= N
  ·rw [if_pos e,show N + 1 - n = (N - n) + 1 by walk_at "o"]
   show _ = c * (aI g (fun j=>h (n + j)) (N - n) + g (N - n) * h (n + (N - n)))
   rw [show n + (N - n) = N by walk_at "o"]
   grind
  ·rw [if_neg e,show N + 1 - n = 0 by walk_at "o",show N - n = 0 by walk_at "o"]
   show c * 0 + 0 * h N = c * 0
   grind
theorem nV {f g h:Nat -> Rat} {N:Nat}:∀ n,aI (fun m=>pr f g n m) h N = aI f (fun i=>aI g (fun j=>h (i + j)) (N - i)) n
 | 0=>cN N fun i _=>by
  show (0:Rat) * h i = 0
  grind
 | n + 1=>by
  have e:(fun m=>pr f g (n + 1) m) = fun m=>pr f g n m + if n <= m then f n * g (m - n) else 0:=rfl
  rw [e,nW,nV n,lG]
  rfl
theorem qU {F G:Nat -> Rat} {f g:Nat -> Int} {c d:Rat} (hc:c ≠ 0) (hd:d ≠ 0) (hF:∀ i,F i = ((f i:Int):Rat) / c) (hG:∀ i,G i = ((g i:Int):Rat) / d):∀ n,aI F G n = ((bC (fun i=>g i * f i) n:Int):Rat) / (c * d)
 | 0=>by
  show (0:Rat) = ((0:Int):Rat) / (c * d)
  have:((0:Int):Rat) = 0:=rfl
  rw [this]
  grind
 | n + 1=>by
  show aI F G n + F n * G n = ((bC (fun i=>g i * f i) n + g n * f n:Int):Rat) / (c * d)
  rw [qU hc hd hF hG n,hF n,hG n,Rat.intCast_add,Rat.intCast_mul]
  grind
section
variable {W:Nat -> Int} {B:Int} {k:Nat} {P S:Nat -> Rat}
theorem gx (hD:Dk W k ≠ 0) (hB:B ≠ 0) (hP:∀ j,P j = ((qk W k j:Int):Rat) / ((Dk W k:Int):Rat)) (hS:∀ i,((W i:Int):Rat) = S i * (B:Rat)) (i:Nat):aI P (fun j=>S (i + j)) (k + 1) = ((Lq W k i:Int):Rat) / (((Dk W k:Int):Rat) * (B:Rat)):=by
 have cB:(B:Rat) ≠ 0:=aj hB
 rw [qU (f:=qk W k) (g:=fun j=>W (i + j)) (c:=((Dk W k:Int):Rat)) (d:=(B:Rat)) (aj hD) cB hP (fun j=>by have:=hS (i + j); grind),<- qq]
theorem qR (hD:Dk W k ≠ 0) (hB:B ≠ 0) (hP:∀ j,P j = ((qk W k j:Int):Rat) / ((Dk W k:Int):Rat)) (hS:∀ i,((W i:Int):Rat) = S i * (B:Rat)) {N:Nat} (hN:2 * k + 1 <= N):aI (fun m=>pr P P (k + 1) m) S N = ((Dk W (k + 1):Int):Rat) / ((Dk W k * B:Int):Rat):=by
 have cB:(B:Rat) ≠ 0:=aj hB
 have cD:((Dk W k:Int):Rat) ≠ 0:=aj hD
 rw [nV]
 have e1:aI P (fun i=>aI P (fun j=>S (i + j)) (N - i)) (k + 1) = aI P (fun i=>((Lq W k i:Int):Rat) / (((Dk W k:Int):Rat) * (B:Rat))) (k + 1):=bG (k + 1) (fun i _=>rfl) fun i hi=>by
  rw [<- gx hD hB hP hS i]
  have:=cQ (f:=P) (h:=fun j=>S (i + j)) (n:=k + 1) (fun j hj=>by
   have z:((0:Int):Rat) = 0:=rfl
   rw [hP j,dt (by walk_at "o"),z]
   grind) (N - i - (k + 1))
  rw [show k + 1 + (N - i - (k + 1)) = N - i by walk_at "o"] at this
  exact this
 rw [e1,qU (f:=qk W k) (g:=Lq W k) (c:=((Dk W k:Int):Rat)) (d:=((Dk W k:Int):Rat) * (B:Rat)) cD (by grind) hP fun i=>rfl]
 rw [iF (j:=k) (k + 1) (fun i hi hne=>by rw [jq (by walk_at "o"),Int.zero_mul]) (by walk_at "o"),eY,eO,Rat.intCast_mul,Rat.intCast_mul]
 grind
end
end L2
namespace L2
open PySem PySem.Spec PyProof.Rows
theorem jI {f g h:Nat -> Rat}:∀ n,aI f (fun i=>g i + h i) n = aI f g n + aI f h n
 | 0=>by show (0:Rat) = 0 + 0; grind
 | n + 1=>by
  show aI f (fun i=>g i + h i) n + f n * (g n + h n) = (aI f g n + f n * g n) + (aI f h n + f n * h n)
  rw [jI n]
  grind
theorem iL {f h:Nat -> Rat} {c:Rat}:∀ n,aI (fun i=>c * f i) h n = c * aI f h n
 | 0=>by show (0:Rat) = c * 0; grind
 | n + 1=>by
  show aI (fun i=>c * f i) h n + (c * f n) * h n = c * (aI f h n + f n * h n)
  rw [iL n]
  grind
theorem mS {f h:Nat -> Rat} {c:Rat}:∀ n,aI f (fun i=>c * h i) n = c * aI f h n
 | 0=>by show (0:Rat) = c * 0; grind
 | n + 1=>by
  show aI f (fun i=>c * h i) n + f n * (c * h n) = c * (aI f h n + f n * h n)
  rw [mS n]
  grind
def ip (S u v:Nat -> Rat) (m n:Nat):Rat:=aI u (fun i=>aI v (fun j=>S (i + j)) n) m
theorem rd {S u v:Nat -> Rat} {n:Nat}:∀ m,ip S u v m n = ip S v u n m
 | 0=>by
  unfold ip
  show (0:Rat) = aI v (fun j=>0) n
  rw [cN n fun i _=>by grind]
 | m + 1=>by
  have h:=rd (S:=S) (u:=u) (v:=v) (n:=n) m
  unfold ip at h ⊢
  show aI u (fun i=>aI v (fun j=>S (i + j)) n) m + u m * aI v (fun j=>S (m + j)) n = aI v (fun i=>aI u (fun j=>S (i + j)) m + u m * S (i + m)) n
  rw [jI,mS,h]
  congr 2
  exact bG n (fun _ _=>rfl) fun i _=>by rw [Nat.add_comm]
def fJ (a:Nat -> Rat) (P:Nat -> Nat -> Rat):Nat -> Nat -> Rat
 | 0,_=>0
 | n + 1,j=>fJ a P n j + a n * P n j
theorem pJ {a b:Nat -> Rat} {P Q:Nat -> Nat -> Rat} {j:Nat}:∀ n,(∀ k,k < n -> a k = b k /\ P k j = Q k j) -> fJ a P n j = fJ b Q n j
 | 0,_=>rfl
 | n + 1,h=>by
  show fJ a P n j + a n * P n j = fJ b Q n j + b n * Q n j
  rw [pJ n fun k hk=>h k (by walk_at "o"),(h n (by walk_at "o")).1,(h n (by walk_at "o")).2]
theorem mE {a:Nat -> Rat} {P:Nat -> Nat -> Rat} {h:Nat -> Rat} {m:Nat}:∀ K,aI (fJ a P K) h m = aI a (fun k=>aI (P k) h m) K
 | 0=>cN m fun i _=>by show (0:Rat) * h i = 0; grind
 | K + 1=>by
  have e:fJ a P (K + 1) = fun j=>fJ a P K j + (fun j=>a K * P K j) j:=rfl
  rw [e,nW,mE K,iL]
  rfl
theorem rE {a h:Nat -> Rat} {k:Nat} {c:Rat} (hh:∀ l,h l = if l = k then c else 0):∀ L,aI a h L = if k < L then a k * c else 0
 | 0=>by rw [if_neg (by walk_at "o")]; rfl
 | L + 1=>by
  show aI a h L + a L * h L = _
  rw [rE hh L,hh L]
  by_cases e:L = k
  ·rw [if_neg (by walk_at "o"),if_pos e,if_pos (by walk_at "o"),e]
   grind
  ·rw [if_neg e]
   by_cases z:k < L
   ·rw [if_pos z,if_pos (by walk_at "o")]
    grind
   ·rw [if_neg z,if_neg (by walk_at "o")]
    grind
theorem vj {a b h:Nat -> Rat} {L:Nat}:∀ K,aI a (fun k=>if k < L then b k * h k else 0) K = aI (fun k=>a k * b k) h (min K L)
 | 0=>by rw [Nat.zero_min]; rfl
 | K + 1=>by
  show aI a (fun k=>if k < L then b k * h k else 0) K + a K * (if K < L then b K * h K else 0) = _
  rw [vj K]
  by_cases e:K < L
  ·rw [if_pos e,Nat.min_eq_left (by walk_at "o"),Nat.min_eq_left (by walk_at "o")]
   show _ = aI (fun k=>a k * b k) h K + a K * b K * h K
   grind
  ·rw [if_neg e,Nat.min_eq_right (by walk_at "o"),Nat.min_eq_right (by walk_at "o")]
   grind
section
variable {S:Nat -> Rat} {P:Nat -> Nat -> Rat} {h:Nat -> Rat} {M n:Nat}
def Ee (S:Nat -> Rat) (P:Nat -> Nat -> Rat) (h:Nat -> Rat) (M n:Nat):Prop:=∀ k l,k < M -> l < M -> ip S (P k) (P l) n n = if l = k then h k else 0
theorem uI (o:Ee S P h M n) {b:Nat -> Rat} {L k:Nat} (hL:L <= M) (hk:k < M):ip S (fJ b P L) (P k) n n = if k < L then b k * h k else 0:=by
 show aI (fJ b P L) _ n = _
 rw [mE]
 have e:aI b (fun l=>aI (P l) (fun i=>aI (P k) (fun j=>S (i + j)) n) n) L = aI b (fun l=>if l = k then h k else 0) L:=bG L (fun _ _=>rfl) fun l hl=>by
  have:=o l k (by walk_at "o") hk
  show ip S (P l) (P k) n n = _
  rw [this]
  by_cases e:l = k
  ·rw [if_pos e,if_pos e.symm,e]
  ·rw [if_neg e,if_neg fun z=>e z.symm]
 rw [e,rE fun _=>rfl]
theorem xP (o:Ee S P h M n) {a b:Nat -> Rat} {K L:Nat} (hK:K <= M) (hL:L <= M):ip S (fJ a P K) (fJ b P L) n n = aI (fun k=>a k * b k) h (min K L):=by
 have e1:ip S (fJ a P K) (fJ b P L) n n = aI a (fun k=>ip S (P k) (fJ b P L) n n) K:=mE K
 rw [e1,<- vj]
 exact bG K (fun _ _=>rfl) fun k hk=>by rw [rd,uI o hL (by walk_at "o")]
end
section
variable {W:Nat -> Int} {B:Int} {S:Nat -> Rat}
theorem tw {k m:Nat} {p v:Nat -> Rat} (hD:Dk W k ≠ 0) (hB:B ≠ 0) (hP:∀ j,p j = ((qk W k j:Int):Rat) / ((Dk W k:Int):Rat)) (hS:∀ i,((W i:Int):Rat) = S i * (B:Rat)) (hm:k + 1 <= m) (n:Nat):ip S v p n m = aI v (fun i=>((Lq W k i:Int):Rat) / (((Dk W k:Int):Rat) * (B:Rat))) n:=by
 refine bG n (fun _ _=>rfl) fun i _=>?_
 rw [<- gx hD hB hP hS i]
 have:=cQ (f:=p) (h:=fun j=>S (i + j)) (n:=k + 1) (fun j hj=>by
  have z:((0:Int):Rat) = 0:=rfl
  rw [hP j,dt (by walk_at "o"),z]
  grind) (m - (k + 1))
 rw [show k + 1 + (m - (k + 1)) = m by walk_at "o"] at this
 exact this
theorem mV {P:Nat -> Nat -> Rat} {M n:Nat} (hD:∀ k,k < M -> Dk W k ≠ 0) (hB:B ≠ 0) (hP:∀ k,k < M -> ∀ j,P k j = ((qk W k j:Int):Rat) / ((Dk W k:Int):Rat)) (hS:∀ i,((W i:Int):Rat) = S i * (B:Rat)) (hM:M <= n):Ee S P (fun k=>((Dk W (k + 1):Int):Rat) / ((Dk W k * B:Int):Rat)) M n:=by
 have z:((0:Int):Rat) = 0:=rfl
 have low:∀ k l,k < M -> l < k -> ip S (P l) (P k) n n = 0:=fun k l hk hl=>by
  rw [tw (hD k hk) hB (hP k hk) hS (by walk_at "o")]
  refine cN n fun i _=>?_
  by_cases e:i < k
  ·rw [jq e,z]
   grind
  ·rw [hP l (by walk_at "o"),dt (by walk_at "o"),z]
   grind
 intro k l hk hl
 by_cases e:l = k
 ·subst e
  rw [if_pos rfl,tw (hD l hk) hB (hP l hk) hS (by walk_at "o")]
  have e1:=cQ (f:=P l) (h:=fun i=>((Lq W l i:Int):Rat) / (((Dk W l:Int):Rat) * (B:Rat))) (n:=l + 1) (fun j hj=>by
   rw [hP l hk,dt (by walk_at "o"),z]
   grind) (n - (l + 1))
  rw [show l + 1 + (n - (l + 1)) = n by walk_at "o"] at e1
  rw [e1]
  show aI (P l) _ l + P l l * (((Lq W l l:Int):Rat) / (((Dk W l:Int):Rat) * (B:Rat))) = ((Dk W (l + 1):Int):Rat) / ((Dk W l * B:Int):Rat)
  rw [cN l fun i hi=>by rw [jq hi,z]; grind,hP l hk,eO,eY,Rat.intCast_mul]
  have c1:=aj (hD l hk)
  have c2:=aj hB
  grind
 ·rw [if_neg e]
  rcases Nat.lt_or_gt_of_ne e with y | y
  ·rw [rd,low k l hk y]
  ·rw [low l k hl y]
end
end L2
namespace L2
open PySem PySem.Spec PyProof.Rows
theorem mJ {v:Nat -> Rat} {x c:Rat}:∀ n,aI v (fun j=>c * cT x j) n = c * iN v n x
 | 0=>by show (0:Rat) = c * 0; grind
 | n + 1=>by
  show aI v (fun j=>c * cT x j) n + v n * (c * cT x n) = c * (iN v n x + v n * cT x n)
  rw [mJ n]
  grind
theorem CM {u v:Nat -> Rat} {w x:Rat} {m n:Nat}:ip (fun k=>w * cT x k) u v m n = w * (iN u m x * iN v n x):=by
 unfold ip
 have e:aI u (fun i=>aI v (fun j=>w * cT x (i + j)) n) m = aI u (fun i=>(w * iN v n x) * cT x i) m:=bG m (fun _ _=>rfl) fun i _=>by
  have:aI v (fun j=>w * cT x (i + j)) n = aI v (fun j=>(w * cT x i) * cT x j) n:=bG n (fun _ _=>rfl) fun j _=>by rw [sw]; grind
  rw [this,mJ]
  grind
 rw [e,mJ]
 grind
theorem Bu {S T u v:Nat -> Rat} {m n:Nat}:ip (fun k=>S k + T k) u v m n = ip S u v m n + ip T u v m n:=by
 unfold ip
 rw [<- jI]
 exact bG m (fun _ _=>rfl) fun i _=>jI n
def kD (F:Rat -> Rat):List kB -> Rat
 | []=>0
 | c :: cs=>wv c.2 * F (wv c.1) + kD F cs
theorem tZ {u v:Nat -> Rat} {m n:Nat}:∀ cs:List kB,ip (io cs) u v m n = kD (fun x=>iN u m x * iN v n x) cs
 | []=>by
  show aI u (fun i=>aI v (fun j=>0) n) m = 0
  exact cN m fun i _=>by rw [cN n fun j _=>by grind]; grind
 | c :: cs=>by
  have e:io (c :: cs) = fun k=>(fun k=>wv c.2 * cT (wv c.1) k) k + io cs k:=rfl
  rw [e,Bu,CM,tZ cs]
  rfl
theorem nJ {F G:Rat -> Rat}:∀ {cs:List kB},(∀ c ∈ cs,F (wv c.1) = G (wv c.1)) -> kD F cs = kD G cs
 | [],_=>rfl
 | c :: cs,h=>by
  show wv c.2 * F (wv c.1) + kD F cs = wv c.2 * G (wv c.1) + kD G cs
  rw [h c (by simp),nJ fun d hd=>h d (by simp [hd])]
theorem qt (y:Rat):0 <= y * y:=by
 rcases Rat.le_total (a:=0) (b:=y) with h | h
 ·exact Rat.mul_nonneg h h
 ·have:=Rat.mul_nonneg (Rat.neg_le_neg h) (Rat.neg_le_neg h)
  grind
theorem iK {G:Rat -> Rat}:∀ {cs:List kB},(∀ c ∈ cs,0 < wv c.2) -> 0 <= kD (fun x=>G x * G x) cs
 | [],_=>by show (0:Rat) <= 0; grind
 | c :: cs,h=>by
  show 0 <= wv c.2 * (G (wv c.1) * G (wv c.1)) + kD (fun x=>G x * G x) cs
  have h1:=iK (G:=G) (cs:=cs) fun d hd=>h d (by simp [hd])
  have h2:=Rat.mul_nonneg (Rat.le_of_lt (h c (by simp))) (qt (G (wv c.1)))
  grind
theorem oU {G:Rat -> Rat}:∀ {cs:List kB},(∀ c ∈ cs,0 < wv c.2) -> kD (fun x=>G x * G x) cs = 0 -> ∀ c ∈ cs,G (wv c.1) = 0
 | [],_,_,c,hc=>by cases hc
 | d :: cs,h,e,c,hc=>by
  have e':wv d.2 * (G (wv d.1) * G (wv d.1)) + kD (fun x=>G x * G x) cs = 0:=e
  have h0:=h d (by simp)
  have h1:=iK (G:=G) (cs:=cs) fun d hd=>h d (by simp [hd])
  have h2:=Rat.mul_nonneg (Rat.le_of_lt h0) (qt (G (wv d.1)))
  have z1:wv d.2 * (G (wv d.1) * G (wv d.1)) = 0:=by grind
  have z2:kD (fun x=>G x * G x) cs = 0:=by grind
  rcases List.mem_cons.mp hc with rfl | hm
  ·have:wv c.2 ≠ 0:=by grind
   grind
  ·exact oU (fun d hd=>h d (by simp [hd])) z2 c hm
section
variable {W:Nat -> Int} {B:Int} {cs:List kB}
def Pk (W:Nat -> Int) (k:Nat):Nat -> Rat:=fun j=>((qk W k j:Int):Rat) / ((Dk W k:Int):Rat)
theorem kL {k j:Nat} (h:k < j):Pk W k j = 0:=by
 have z:((0:Int):Rat) = 0:=rfl
 unfold Pk
 rw [dt h,z]
 grind
theorem rh {k:Nat} (h:Dk W k ≠ 0):Pk W k k = 1:=by
 have:=aj h
 unfold Pk
 rw [eO]
 grind
end
end L2
namespace L2
open PySem PySem.Spec PyProof.Rows
theorem qF {W:Nat -> Int} {b k j:Nat} (hW:∀ i,Bt b (W i)) (hk:k <= 5):Bt ((b + 3) * k + 4) (qk W k j):=by
 have h:=tU (W:=W) (B:=2 ^ b) (k:=k) (fun i=>Nat.le_of_lt (hW i)) j
 refine Bt.of_le (n:=(b + 3) * k + 3) (Nat.le_trans h ?_) (by walk_at "o")
 have h1:(k + 1) * 2 ^ b <= 2 ^ (b + 3):=by
  rw [Nat.pow_add,Nat.mul_comm]
  exact Nat.mul_le_mul_left _ (by walk_at "o")
 have h2:((k + 1) * 2 ^ b) ^ k <= 2 ^ ((b + 3) * k):=by
  refine Nat.le_trans (Nat.pow_le_pow_left h1 k) ?_
  rw [<- Nat.pow_mul]
  exact Nat.le_refl _
 have h3:(2:Nat) ^ ((b + 3) * k + 3) = 8 * 2 ^ ((b + 3) * k):=by
  rw [Nat.pow_add]
  walk_at "o"
 rw [h3]
 exact Nat.mul_le_mul (by walk_at "o") h2
theorem qp {W:Nat -> Int} {b k:Nat} (hW:∀ i,Bt b (W i)) (hk:k <= 5):Bt ((b + 3) * k + 4) (Dk W k):=by
 rw [<- eO]
 exact qF hW hk
theorem EU {W:Nat -> Int} {b k:Nat} (hW:∀ i,Bt b (W i)) (hk:k <= 5):Ob (Dk W k) ((b + 3) * k + 4) (Pk W k):=fun j=>⟨qk W k j,rfl,qF hW hk⟩
def Tb:Nat -> Nat
 | 0=>0
 | k + 1=>Tb k + (173 * k + 5)
theorem qg:∀ {k n:Nat},k <= n -> Tb k <= Tb n
 | k,0,h=>by rw [show k = 0 by walk_at "o"]; exact Nat.le_refl _
 | k,n + 1,h=>by
  by_cases e:k = n + 1
  ·rw [e]; exact Nat.le_refl _
  ·have:=qg (k:=k) (n:=n) (by walk_at "o")
   show Tb k <= Tb n + _
   walk_at "o"
theorem Ob.sub {D:Int} {a b:Nat} {f g:Nat -> Rat} (h1:Ob D a f) (h2:Ob D b g):Ob D (max a b + 1) (fun k=>f k - g k):=by
 have h:Ob D b (fun k=>- g k):=fun k=>by
  obtain ⟨n,e,hn⟩:=h2 k
  refine ⟨-n,by show - g k = _; rw [e,Rat.intCast_neg]; grind,?_⟩
  unfold Bt at hn ⊢
  rw [Int.natAbs_neg]
  exact hn
 exact (h1.add h).congr fun k=>by grind
theorem AK {W:Nat -> Int} {k a:Nat} {f:Nat -> Rat} (hW:∀ i,Bt 170 (W i)) (hk:k <= 5) (hD:Dk W k ≠ 0) (h:Pb a f):Pb (a + (173 * k + 5)) (fun j=>f j - Pk W k j * f k) /\ Pb (a + (173 * k + 4)) (fun j=>Pk W k j * f k):=by
 obtain ⟨D,d0,bD,o⟩:=h
 obtain ⟨m,em,bm⟩:=o k
 have bd:=qp hW hk
 have h1:=o.up d0 hD bd
 have h2:=(EU hW hk).one (c:=f k) hD d0 em bm
 rw [Int.mul_comm] at h2
 have ne:D * Dk W k ≠ 0:=Int.mul_ne_zero d0 hD
 have bb:=bD.mul bd
 exact ⟨⟨D * Dk W k,ne,bb.mono (by walk_at "o"),(h1.sub h2).mono (by walk_at "o")⟩,⟨D * Dk W k,ne,bb.mono (by walk_at "o"),h2.mono (by walk_at "o")⟩⟩
theorem jk {b:Nat}:∀ {fs:List (Int × Int)},(∀ q ∈ fs,Fq q /\ Bq b q) -> Pb (b * fs.length + 1) (cf fs)
 | [],_=>(Cy (a:=1) (by decide)).mono (by simp)
 | q :: qs,h=>by
  obtain ⟨D,d0,bD,o⟩:=jk (b:=b) (fs:=qs) fun q hq=>h q (by simp [hq])
  obtain ⟨f,bt,bb⟩:=h q (by simp)
  have c1:=aj f.ne
  have c2:=aj d0
  have e:b * (q :: qs).length + 1 = b + (b * qs.length + 1):=by rw [List.length_cons,Nat.mul_add]; walk_at "o"
  rw [e]
  refine ⟨q.2 * D,Int.mul_ne_zero f.ne d0,bb.mul bD,fun k=>?_⟩
  cases k with
  | zero =>
   refine ⟨q.1 * D,?_,bt.mul bD⟩
   rw [aW (q:=q) rfl,Rat.intCast_mul,Rat.intCast_mul]
   unfold wv
   grind
  | succ k =>
   obtain ⟨n,en,bn⟩:=o k
   refine ⟨q.2 * n,?_,bb.mul bn⟩
   have:cf (q :: qs) (k + 1) = cf qs k:=rfl
   rw [this,en,Rat.intCast_mul,Rat.intCast_mul]
   grind
end L2
namespace L2
open PySem PySem.Spec PyProof.Rows
section
variable {W:Nat -> Int} {B:Int} {S:Nat -> Rat} {M:Nat}
end
end L2
namespace L2
open PySem PySem.Spec PyProof.Rows
theorem gn {W:Nat -> Int} {a:Nat -> Rat} {j:Nat}:∀ n,n <= j -> fJ a (Pk W) n j = 0
 | 0,_=>rfl
 | n + 1,h=>by
  show fJ a (Pk W) n j + a n * Pk W n j = 0
  rw [gn n (by walk_at "o"),kL (by walk_at "o")]
  grind
theorem yv {W:Nat -> Int} {a:Nat -> Rat} {n A:Nat} (hW:∀ i,Bt 170 (W i)) (hn:n <= 6) (hD:∀ k,k < n -> Dk W k ≠ 0) (h:Pb A (fJ a (Pk W) n)):∀ i,i <= n -> Pb (A + (Tb n - Tb (n - i))) (fJ a (Pk W) (n - i))
 | 0,_=>h.mono (by walk_at "o")
 | i + 1,hi=>by
  have h1:=yv hW hn hD h i (by walk_at "o")
  obtain ⟨k,hk⟩ : ∃ k,n - i = k + 1:=⟨n - i - 1,by walk_at "o"⟩
  rw [hk] at h1
  rw [show n - (i + 1) = k by walk_at "o"]
  have tm:=qg (k:=k + 1) (n:=n) (by walk_at "o")
  have tk:Tb (k + 1) = Tb k + (173 * k + 5):=rfl
  have hd:=hD k (by walk_at "o")
  refine ((AK hW (by walk_at "o") hd h1).1.congr fun j=>?_).mono (by walk_at "o")
  have e:fJ a (Pk W) (k + 1) k = a k:=by
   show fJ a (Pk W) k k + a k * Pk W k k = a k
   rw [gn k (Nat.le_refl _),rh hd]
   grind
  rw [e]
  show fJ a (Pk W) k j = fJ a (Pk W) k j + a k * Pk W k j - Pk W k j * a k
  grind
end L2
namespace L2
open PySem PyProof.Rows
theorem Gj {i:Int} (h:0 <= i):Builtin.bitAnd i 1 = i % 2:=by
 rw [PyProof.Rows.bitAnd_pp h (by decide)]
 show ((i.toNat &&& 1:Nat):Int) = _
 rw [Nat.and_one_is_mod]
 walk_at "o"
theorem zg {W:Nat -> Int} {b k j:Nat} (hW:∀ i,Bt b (W i)) (hk:k <= 6):Bt (6 * b + 22) (qk W k j):=by
 have h:=tU (W:=W) (B:=2 ^ b) (k:=k) (fun i=>Nat.le_of_lt (hW i)) j
 refine Bt.of_le (n:=6 * b + 21) (Nat.le_trans h ?_) (by walk_at "o")
 have h1:(k + 1) * 2 ^ b <= 2 ^ (b + 3):=by
  rw [Nat.pow_add,Nat.mul_comm]
  exact Nat.mul_le_mul_left _ (by walk_at "o")
 have h2:((k + 1) * 2 ^ b) ^ k <= 2 ^ (6 * b + 18):=by
  refine Nat.le_trans (Nat.pow_le_pow_left h1 k) ?_
  rw [<- Nat.pow_mul]
  refine Nat.pow_le_pow_right (by decide) ?_
  have:(b + 3) * k <= (b + 3) * 6:=Nat.mul_le_mul_left _ hk
  walk_at "o"
 have h3:(2:Nat) ^ (6 * b + 21) = 8 * 2 ^ (6 * b + 18):=by
  rw [show 6 * b + 21 = (6 * b + 18) + 3 by walk_at "o",Nat.pow_add]
  walk_at "o"
 rw [h3]
 exact Nat.mul_le_mul (by walk_at "o") h2
section
variable {X:Cx}
theorem By:fo X (binaryOp .BitAnd) (rI (fun i j=>0 <= i /\ j = 1) fun i j=>.int (i % 2)):=Fe fun i j _ _ _ _ _ hc q=>by
 obtain ⟨h0,rfl⟩:=hc
 refine and_int ?_
 rw [Gj h0]
 exact q
def EA (K:PySem.W.Frag) (ta tb:TE):TE:=fun σ H Q=>ta σ H fun x H1=>∃ k,rf K x H1 k /\ if k = true then Q x H1 else tb σ H1 Q
theorem D6 {a b:Expr} {pos:Pos} {ta tb:TE} (ha:QE X a ta) (hb:QE X b tb):QE X (.BoolOp .Or [a,b] pos) (EA X.K ta tb):=⟨by
 intro pins s σ H Q I h
 refine BoolOp_or (cI (ha.h pins s σ H _ I h) fun v s1 ⟨x,H1,I1,r1,k,e,q1⟩=>?_)
 refine cI (sW pins s1 σ H1 x v (fun c H'=>H' = H1 /\ c = k) I1 r1 ⟨k,e,rfl,rfl⟩) fun c s2 ⟨H',I2,e1,e2⟩=>?_
 subst e1 e2
 cases c with
 | true=>rw [if_pos rfl] at q1 ⊢; exact ⟨x,_,I2,r1,q1⟩
 | false=>rw [if_neg Bool.false_ne_true] at q1 ⊢; exact BoolOp_one (hb.h pins s2 σ _ Q I2 q1)⟩
end
end L2
namespace L2
open PySem PySem.Spec PyProof.Rows
def Xk (k j:Nat):Rat:=if j = k then 1 else 0
theorem xE {P:Nat -> Nat -> Rat}:∀ (n:Nat) (f:Nat -> Rat),(∀ k,k < n -> P k k = 1) -> (∀ k j,k < j -> P k j = 0) -> (∀ j,n <= j -> f j = 0) -> ∃ b:Nat -> Rat,∀ j,f j = fJ b P n j
 | 0,f,_,_,h=>⟨fun _=>0,fun j=>h j (by walk_at "o")⟩
 | n + 1,f,h1,h0,h=>by
  obtain ⟨b,hb⟩:=xE n (fun j=>f j - f n * P n j) (fun k hk=>h1 k (by walk_at "o")) h0 (fun j hj=>by
   by_cases e:j = n
   ·rw [e,h1 n (by walk_at "o")]
    grind
   ·rw [h j (by walk_at "o"),h0 n j (by walk_at "o")]
    grind)
  refine ⟨fun k=>if k = n then f n else b k,fun j=>?_⟩
  show f j = fJ _ P n j + (if n = n then f n else b n) * P n j
  rw [if_pos rfl,pJ (b:=b) (Q:=P) n fun k hk=>⟨if_neg (by walk_at "o"),rfl⟩,<- hb j]
  grind
section
variable {W:Nat -> Int} {k:Nat}
theorem yS (hD:∀ i,i <= k -> Dk W i ≠ 0):∃ b:Nat -> Rat,(∀ j,Xk k j = fJ b (Pk W) (k + 1) j) /\ b k = 1 /\ (∀ j,j < k -> b j = ((Lq W j k:Int):Rat) / ((Dk W (j + 1):Int):Rat)) /\ ∀ j,Xk k j - fJ b (Pk W) k j = Pk W k j:=by
 obtain ⟨b,hb⟩:=xE (P:=Pk W) (k + 1) (Xk k) (fun i hi=>rh (hD i (by walk_at "o"))) (fun i j h=>kL h) (fun j hj=>if_neg (by walk_at "o"))
 have b1:b k = 1:=by
  have e:=hb k
  have e1:Xk k k = 1:=if_pos rfl
  rw [e1] at e
  have:fJ b (Pk W) (k + 1) k = fJ b (Pk W) k k + b k * Pk W k k:=rfl
  rw [this,gn k (Nat.le_refl _),rh (hD k (Nat.le_refl _))] at e
  grind
 refine ⟨b,hb,b1,fun j hj=>?_,fun j=>?_⟩
 ·have hS:∀ i,((W i:Int):Rat) = (fun i=>((W i:Int):Rat)) i * ((1:Int):Rat):=fun i=>by
   have c1:((1:Int):Rat) = 1:=rfl
   rw [c1]
   show _ = ((W i:Int):Rat) * 1
   grind
  have o:=mV (W:=W) (B:=1) (S:=fun i=>((W i:Int):Rat)) (P:=Pk W) (M:=k + 1) (n:=k + 1) (fun i hi=>hD i (by walk_at "o")) (by decide) (fun i _ j=>rfl) hS (Nat.le_refl _)
  have s:=uI o (b:=b) (L:=k + 1) (k:=j) (Nat.le_refl _) (by walk_at "o")
  have e:fJ b (Pk W) (k + 1) = Xk k:=funext fun i=>(hb i).symm
  rw [e,if_pos (by walk_at "o"),tw (k:=j) (m:=k + 1) (p:=Pk W j) (hD j (by walk_at "o")) (B:=1) (by decide) (fun _=>rfl) hS (by walk_at "o")] at s
  have p:aI (Xk k) (fun i=>((Lq W j i:Int):Rat) / (((Dk W j:Int):Rat) * ((1:Int):Rat))) (k + 1) = ((Lq W j k:Int):Rat) / (((Dk W j:Int):Rat) * ((1:Int):Rat)):=by
   show aI (Xk k) _ k + Xk k k * _ = _
   rw [cN k fun i hi=>by rw [show Xk k i = 0 from if_neg (by walk_at "o")]; grind,show Xk k k = 1 from if_pos rfl]
   grind
  rw [p,Rat.intCast_mul] at s
  have n1:=aj (hD j (by walk_at "o"))
  have n2:=aj (hD (j + 1) (by walk_at "o"))
  have c1:((1:Int):Rat) = 1:=rfl
  rw [c1] at s
  grind
 ·rw [hb j]
  show fJ b (Pk W) k j + b k * Pk W k j - fJ b (Pk W) k j = _
  rw [b1]
  grind
theorem BE {A:Nat} (h:1 <= A):Pb A (Xk k):=⟨1,by decide,Bt.mono (m:=1) (by decide) h,fun j=>by
 unfold Xk
 split
 ·refine ⟨1,?_,Bt.mono (m:=1) (by decide) h⟩
  have c1:((1:Int):Rat) = 1:=rfl
  rw [c1]
  grind
 ·refine ⟨0,?_,i4⟩
  have c0:((0:Int):Rat) = 0:=rfl
  rw [c0]
  grind⟩
theorem yG {b:Nat -> Rat} (hk:k <= 5) (hW:∀ i,Bt 170 (W i)) (hD:∀ i,i <= k -> Dk W i ≠ 0) (hb:∀ j,Xk k j = fJ b (Pk W) (k + 1) j) (i:Nat) (hi:i <= k + 1):Pb 2630 (fun j=>Xk k j - fJ b (Pk W) i j):=by
 have h1:Pb 1 (fJ b (Pk W) (k + 1)):=(BE (A:=1) (by decide)).congr fun j=>(hb j).symm
 have h2:=yv hW (by walk_at "o") (fun j hj=>hD j (by walk_at "o")) h1 (k + 1 - i) (by walk_at "o")
 rw [show k + 1 - (k + 1 - i) = i by walk_at "o"] at h2
 have t:Tb (k + 1) <= Tb 6:=qg (by walk_at "o")
 have t6:Tb 6 = 2625:=rfl
 have h3:=(BE (k:=k) (A:=1) (by decide)).add (h2.one (E:=1) (m:=-1) (c:=-1) (b:=1) (by decide) (by have c1:((1:Int):Rat) = 1:=rfl; have cm:((-1:Int):Rat) = -1:=rfl; rw [c1,cm]; grind) (by decide) (by decide))
 refine (h3.congr fun j=>?_).mono (by walk_at "o")
 grind
end
end L2
namespace L2
open PySem PySem.Spec PyProof.Rows
section
variable {P:Program} {w:World} {K:PySem.W.Frag} {mg:Str -> Option Value} {base:Heap}
end
end L2
namespace L2
open PySem PySem.Spec PyProof.Rows
section
variable {X:Cx} {a b:Expr} {pos:Pos} {t:St -> Hp -> XK -> Prop}
end
section
variable {P:Program} {w:World} {K:PySem.W.Frag} {mg:Str -> Option Value} {base:Heap}
end
end L2
namespace L2
open PySem PySem.Spec PyProof.Rows
structure Lm where
 p:Addr
 c:Addr
 ps:Arguments
 b:Expr
 sc:Scope
section
variable {P:Addr} {G0 G G' L0 L1 L3:Hp} {qual:Str} {cl:List (Str × Addr)} {cs p c':Addr} {xs:List Lm} {params:Arguments} {body:Expr} {scope:Scope}
end
end L2
namespace L2
open PySem PySem.Spec PyProof.Rows
structure vX (P:Program) (base:Heap):Prop where
 seer:base.NoSeer
 tree:P.given.tree = none
def yr (_ j:Int):Prop:=j ≠ 0
theorem iG {X:Cx} {k:Nat} (N:vX X.prog X.base) (hr:cW k X.A) (hst:X.stack = X.env :: X.outer) (hgen:X.env.scope.isGenerator = false) (hco:X.env.scope.isCoroutine = false) :
  fo X (binaryOp .FloorDiv) (rI yr fun i j=>.int (i.fdiv j)):=by
 intro pins s σ H x y v u Q I rx ry h
 obtain ⟨i,j,rfl,rfl,hc,q⟩:=h
 obtain ⟨t,rfl⟩:=rx
 obtain ⟨t',rfl⟩:=ry
 refine floordiv_int hc ⟨.int (i.fdiv j),H,I.tok _,⟨_,rfl⟩,q⟩ (.inr ?_)
 refine PySem.PylongRoom.of I.nolimit ?_ (PySem.SeerAt.of (N.seer.keeps I.bk) N.tree (I.ok.frames.trans (congrArg some hst)) hgen hco I.ok.blt I.ok.glob)
 have:=hr.dp
 show X.A.depth + 100 < recursionLimit
 walk_at "o"
end L2
namespace L2
open PySem
def hR (W:Nat -> Int) (B:Int) (k:Nat):Rat:=((Dk W (k + 1):Int):Rat) / ((Dk W k * B:Int):Rat)
def cK (W:Nat -> Int) (B:Int) (x:Rat) (k:Nat):Rat:=EV (Pk W k) x / hR W B k
theorem qC {v:Nat -> Rat} {x:Rat}:EV v x = aI v (fun j=>1 * cT x j) 20:=by
 rw [mJ]
 unfold EV
 grind
theorem yx {a:Nat -> Rat} {P:Nat -> Nat -> Rat} {x:Rat} (K:Nat):EV (fJ a P K) x = aI a (fun k=>EV (P k) x) K:=by
 rw [qC,mE]
 exact bG K (fun _ _=>rfl) fun k _=>qC.symm
def wI (W:Nat -> Int) (B:Int) (x:Rat) (m:Nat):Rat:=aI (cK W B x) (fun k=>EV (Pk W k) x) m
section
variable {W:Nat -> Int} {B:Int} {x:Rat} {m:Nat}
theorem sX (hB:0 < B) (h0:0 < Dk W m) (h1:0 < Dk W (m + 1)):0 < hR W B m:=by
 unfold hR
 have a:(0:Rat) < ((Dk W (m + 1):Int):Rat):=by exact_mod_cast h1
 have b:(0:Rat) < ((Dk W m * B:Int):Rat):=by exact_mod_cast Int.mul_pos h0 hB
 rw [Rat.div_def]
 exact Rat.mul_pos a (Rat.inv_pos.mpr b)
theorem rV (hh:0 < hR W B m):0 <= cK W B x m * EV (Pk W m) x:=by
 unfold cK
 have e:EV (Pk W m) x / hR W B m * EV (Pk W m) x = (EV (Pk W m) x * EV (Pk W m) x) * (hR W B m)⁻¹:=by rw [Rat.div_def]; grind
 rw [e]
 exact Rat.mul_nonneg (qt _) (Rat.le_of_lt (Rat.inv_pos.mpr hh))
theorem BI:EV (Pk W 0) x = 1:=by
 rw [nO (n:=1) (fun k hk=>kL (by walk_at "o")) (by decide)]
 show iN (Pk W 0) 0 x + Pk W 0 0 * cT x 0 = 1
 rw [rh (by rw [wa]; decide)]
 show (0:Rat) + 1 * 1 = 1
 grind
theorem qf (hB:0 < B):∀ m,1 <= m -> (∀ i,i <= m -> 0 < Dk W i) -> 0 < wI W B x m
 | 0,h,_=>by walk_at "o"
 | 1,_,hD=>by
  show 0 < 0 + cK W B x 0 * EV (Pk W 0) x
  have hh:=sX (W:=W) (m:=0) hB (hD 0 (by walk_at "o")) (hD 1 (by walk_at "o"))
  unfold cK
  rw [BI,Rat.div_def]
  have:=Rat.inv_pos.mpr hh
  grind
 | m + 2,_,hD=>by
  have ih:=qf hB (m + 1) (by walk_at "o") fun i hi=>hD i (by walk_at "o")
  have t:=rV (x:=x) (sX (W:=W) (m:=m + 1) hB (hD (m + 1) (by walk_at "o")) (hD (m + 2) (by walk_at "o")))
  show 0 < wI W B x (m + 1) + cK W B x (m + 1) * EV (Pk W (m + 1)) x
  grind
theorem DO {S:Nat -> Rat} {n:Nat} (hB:0 < B) (hD:∀ i,i <= m -> 0 < Dk W i) (hS:∀ i,((W i:Int):Rat) = S i * (B:Rat)) (hn:m <= n):ip S (fJ (cK W B x) (Pk W) m) (fJ (cK W B x) (Pk W) m) n n = wI W B x m:=by
 have o:=mV (S:=S) (P:=Pk W) (M:=m) (n:=n) (fun k hk=>by have:=hD k (by walk_at "o"); walk_at "o") (show B ≠ 0 by walk_at "o") (fun k _ j=>rfl) hS hn
 rw [xP o (Nat.le_refl _) (Nat.le_refl _),Nat.min_self]
 refine lA m fun u hu=>?_
 have hh:=sX (W:=W) (m:=u) hB (hD u (by walk_at "o")) (hD (u + 1) (by walk_at "o"))
 show cK W B x u * cK W B x u * hR W B u = cK W B x u * EV (Pk W u) x
 have e:cK W B x u * hR W B u = EV (Pk W u) x:=by
  unfold cK
  have:hR W B u ≠ 0:=fun z=>by rw [z] at hh; exact absurd hh (by decide)
  grind
 grind
end
theorem rP {S u v:Nat -> Rat} {c:Rat} {m n:Nat}:ip S (fun k=>u k * c) (fun k=>v k * c) m n = c * c * ip S u v m n:=by
 unfold ip
 have e1:(fun i=>aI (fun k=>v k * c) (fun j=>S (i + j)) n) = fun i=>c * aI v (fun j=>S (i + j)) n:=by
  funext i
  rw [<- iL]
  exact lA n fun u _=>by grind
 rw [e1,mS,show (fun k=>u k * c) = fun k=>c * u k from funext fun k=>by grind,iL]
 grind
theorem sS {S:Nat -> Rat} {fs:List (Int × Int)} {n:Nat} (hn:fs.length <= n):aI (fun m=>pr (cf fs) (cf fs) fs.length m) S (fs.length + fs.length) = ip S (cf fs) (cf fs) n n:=by
 unfold ip
 rw [nV]
 have q:=cQ (f:=cf fs) (h:=fun i=>aI (cf fs) (fun j=>S (i + j)) n) (n:=fs.length) (fun i hi=>by rw [aU hi]; grind) (n - fs.length)
 rw [show fs.length + (n - fs.length) = n by walk_at "o"] at q
 rw [q]
 refine bG _ (fun _ _=>rfl) fun i hi=>?_
 have a:=cQ (f:=cf fs) (h:=fun j=>S (i + j)) (n:=fs.length) (fun j hj=>by rw [aU hj]; grind) (fs.length + fs.length - i - fs.length)
 have b:=cQ (f:=cf fs) (h:=fun j=>S (i + j)) (n:=fs.length) (fun j hj=>by rw [aU hj]; grind) (n - fs.length)
 rw [show fs.length + (fs.length + fs.length - i - fs.length) = fs.length + fs.length - i by walk_at "o"] at a
 rw [show fs.length + (n - fs.length) = n by walk_at "o"] at b
 rw [a,b]
def tb:Nat -> Nat
 | 0=>1
 | k + 1=>tb k + (360 * k + 280)
theorem A9 {W:Nat -> Int} {B:Int} {c:Int × Int} {k:Nat} (hW:∀ i,Bt 170 (W i)) (hB:0 < B) (bB:Bt 170 B) (fc:Fq c) (bc:Bq 10 c) (hk:k <= 5) (h0:0 < Dk W k) (h1:0 < Dk W (k + 1)) (b1:Bt (173 * (k + 1) + 8) (Dk W (k + 1))):Pb (360 * k + 279) (fun j=>cK W B (wv c) k * Pk W k j):=by
 have o1:Ob 1 (173 * k + 4) (fun j=>((qk W k j:Int):Rat)):=fun j=>⟨qk W k j,by rw [show ((1:Int):Rat) = 1 from rfl]; grind,qF hW hk⟩
 obtain ⟨N,eN,bN⟩:=uS (D:=1) (by decide) o1 fc bc (k + 1)
 have p0:rm c.2 (k + 1) ≠ 0:=kH fc.ne _
 have bp:Bt (10 * (k + 1) + 1) (rm c.2 (k + 1)):=(oi bc.2 _).mono (by walk_at "o")
 have n0:=aj (show Dk W k ≠ 0 by walk_at "o")
 have n1:=aj (show Dk W (k + 1) ≠ 0 by walk_at "o")
 have nB:=aj (show B ≠ 0 by walk_at "o")
 have np:=aj p0
 have ev:EV (Pk W k) (wv c) = iN (fun j=>((qk W k j:Int):Rat)) (k + 1) (wv c) / ((Dk W k:Int):Rat):=by
  rw [nO (n:=k + 1) (fun j hj=>kL (by walk_at "o")) (by walk_at "o")]
  have s:∀ n,iN (Pk W k) n (wv c) = iN (fun j=>((qk W k j:Int):Rat)) n (wv c) / ((Dk W k:Int):Rat):=fun n=>by
   induction n with
   | zero=>show (0:Rat) = 0 / _; grind
   | succ n ih =>
    show iN (Pk W k) n (wv c) + Pk W k n * cT (wv c) n = (iN (fun j=>((qk W k j:Int):Rat)) n (wv c) + ((qk W k n:Int):Rat) * cT (wv c) n) / ((Dk W k:Int):Rat)
    rw [ih]
    unfold Pk
    grind
  exact s _
 have ce:cK W B (wv c) k = ((N * B:Int):Rat) / ((Dk W (k + 1) * rm c.2 (k + 1):Int):Rat):=by
  unfold cK hR
  rw [ev,eN]
  simp only [Rat.intCast_mul]
  have c1:((1:Int):Rat) = 1:=rfl
  rw [c1]
  grind
 refine ⟨Dk W k * (Dk W (k + 1) * rm c.2 (k + 1)),Int.mul_ne_zero (by walk_at "o") (Int.mul_ne_zero (by walk_at "o") p0),((qp hW hk).mul (b1.mul bp)).mono (by walk_at "o"),fun j=>⟨qk W k j * (N * B),?_,((qF hW hk).mul (bN.mul bB)).mono (by walk_at "o")⟩⟩
 rw [ce]
 unfold Pk
 simp only [Rat.intCast_mul]
 grind
theorem xp {W:Nat -> Int} {B:Int} {c:Int × Int} (hW:∀ i,Bt 170 (W i)) (hB:0 < B) (bB:Bt 170 B) (fc:Fq c) (bc:Bq 10 c):∀ m,m <= 6 -> (∀ i,i <= m -> 0 < Dk W i) -> (∀ i,i <= 6 -> Bt (173 * i + 8) (Dk W i)) -> Pb (tb m) (fJ (cK W B (wv c)) (Pk W) m)
 | 0,_,_,_=>⟨1,by decide,by decide,fun k=>⟨0,by show (0:Rat) = ((0:Int):Rat) / ((1:Int):Rat); rw [show ((0:Int):Rat) = 0 from rfl]; grind,i4⟩⟩
 | m + 1,hm,hD,bD=>by
  have ih:=xp hW hB bB fc bc m (by walk_at "o") (fun i hi=>hD i (by walk_at "o")) bD
  have t:=A9 hW hB bB fc bc (k:=m) (by walk_at "o") (hD m (by walk_at "o")) (hD (m + 1) (by walk_at "o")) (bD (m + 1) (by walk_at "o"))
  exact (ih.add t).mono (by show tb m + (360 * m + 279) + 1 <= tb m + (360 * m + 280); walk_at "o")
theorem FD {m:Nat} (h:m <= 6):tb m <= 7100:=by
 have:m = 0 \/ m = 1 \/ m = 2 \/ m = 3 \/ m = 4 \/ m = 5 \/ m = 6:=by walk_at "o"
 rcases this with rfl | rfl | rfl | rfl | rfl | rfl | rfl <;> decide
end L2
namespace L2
open PySem PySem.Spec PyProof.Rows
theorem y9 {X:Cx} {k:Nat} {env:Env} {l:List Env} (N:vX X.prog X.base) (hr:cW k X.A) (hst:X.stack = env :: l) (hgen:env.scope.isGenerator = false) (hco:env.scope.isCoroutine = false) (hb:env.builtins = builtinsNs) (hg:env.globals = mainGlobals) :
  fo X (binaryOp .FloorDiv) (rI yr fun i j=>.int (i.fdiv j)):=by
 intro pins s σ H x y v u Q I rx ry h
 obtain ⟨i,j,rfl,rfl,hc,q⟩:=h
 obtain ⟨t,rfl⟩:=rx
 obtain ⟨t',rfl⟩:=ry
 refine floordiv_int hc ⟨.int (i.fdiv j),H,I.tok _,⟨_,rfl⟩,q⟩ (.inr ?_)
 refine PySem.PylongRoom.of I.nolimit ?_ (PySem.SeerAt.of (N.seer.keeps I.bk) N.tree (I.ok.frames.trans (congrArg some hst)) hgen hco hb hg)
 have:=hr.dp
 show X.A.depth + 100 < recursionLimit
 walk_at "o"
theorem tP {X:Cx}:dF X (.type "list") (fun xs H Q=>∃ p,xs = [.ref p] /\ ∃ ys,vw X.K H p = some (.tup ys) /\ Nw X.K H (.lst ys) Q):=kF.kf.imp fun _ _ _ ⟨p,e,ys,h,q⟩=>⟨p,ys,e,.inr (hV h),q.al⟩
def xY (K:PySem.W.Frag) (ta:TE):TE:=fun σ H Q=>ta σ H fun x H1=>∃ k,rf K x H1 k /\ Q (.bl (!k)) H1
theorem AB {X:Cx} {a:Expr} {ta:TE} {pos:Pos} (ha:PE X a ta):PE X (.UnaryOp .Not a pos) (xY X.K ta):=by
 intro pins s σ H Q I h
 refine UnaryOp_ (cI (ha pins s σ H _ I h) fun v s1 ⟨x,H1,I1,r1,q1⟩=>?_)
 exact not_of (cI (sW pins s1 σ H1 x v (fun k H'=>Q (.bl (!k)) H') I1 r1 q1) fun b s2 ⟨H2,I2,q2⟩=>⟨.bl (!b),H2,I2,rfl,q2⟩)
theorem vC {X:Cx} {a:Expr} {ta:TE} {pos:Pos} (ha:QE X a ta):QE X (.UnaryOp .Not a pos) (xY X.K ta):=⟨AB (ha:=ha.h)⟩
def uf (d:D):Prop:=∀ fs:List (Int × Int),d = .lst (fs.map fr) -> ba fs -> ∀ q ∈ fs,Bq 20000 q
def md (H:Hp) (x:V):Prop:=∃ d,aC H d x /\ d.noSt = true /\ d.len <= 1000 /\ uf d
theorem md.same {H H':Hp} {x:V} (h:md H x) (S:aw H H'):md H' x:=by
 obtain ⟨d,r,n⟩:=h
 exact ⟨d,r.same S,n⟩
theorem md.but {H H':Hp} {x:V} {st:Addr} (h:md H x) (S:dI st H H') (hst:cE H st):md H' x:=by
 obtain ⟨d,r,n,l⟩:=h
 exact ⟨d,r.but S hst d x n,n,l⟩
theorem wQ:∀ {fs:List (Int × Int)},D.ibs (fs.map fr) = true -> ∀ q ∈ fs,Bq 200 q
 | [],_,_,h=>by cases h
 | f :: fs,h,q,hq=>by
  rw [List.map_cons] at h
  unfold D.ibs at h
  rw [Bool.and_eq_true] at h
  rcases List.mem_cons.mp hq with rfl | z
  ·have h1:=h.1
   unfold fr D.ib D.ibs D.ibs D.ibs D.ib at h1
   simp only [Bool.and_eq_true,decide_eq_true_eq,and_true] at h1
   exact h1
  ·exact wQ h.2 q z
theorem wk.big {H:Hp} {x:V} (h:wk H x):md H x:=by
 obtain ⟨d,r,n,l,b⟩:=h
 refine ⟨d,r,n,l,fun fs e _ q hq=>?_⟩
 subst e
 unfold D.ib at b
 exact (wQ b q hq).mono (by decide)
theorem mM {H:Hp} {q:Int × Int} {v:V} (h:aC H (fr q) v):md H v:=⟨_,h,uu q,by simp [D.len,fr],fun fs e=>by cases e⟩
theorem tR {x y:Int × Int} (z:fr x = fr y):x = y:=by
 unfold fr at z
 injection z with z
 injection z with z1 z2
 injection z1 with z1
 injection z2 with z2 _
 injection z2 with z2
 exact Prod.ext z1 z2
theorem mq {fs gs:List (Int × Int)} (e:D.lst (fs.map fr) = .lst (gs.map fr)):fs = gs:=by
 injection e with e
 exact List.map_inj_right (fun _ _ z=>tR z) |>.mp e
theorem m6:∀ fs:List (Int × Int),D.noSts (fs.map fr) = true
 | []=>by simp [D.noSts]
 | f :: fs=>by
  rw [List.map_cons]
  unfold D.noSts
  rw [uu,m6 fs]
  rfl
theorem tF {H:Hp} {a:Addr} {fs:List (Int × Int)} (h:aH H a fs) (hl:fs.length <= 1000) (hb:ba fs -> ∀ q ∈ fs,Bq 20000 q):md H (.ref a):=by
 refine ⟨_,h.rep,qx (m6 fs) fun i b e=>?_,by show (fs.map fr).length <= 1000; rw [List.length_map]; exact hl,fun gs e p q hq=>?_⟩
 ·cases fs with
  | nil=>cases e
  | cons f fs=>rw [List.map_cons] at e; cases e
 ·have:=mq e
  subst this
  exact hb p q hq
theorem zq {H:Hp} {a:Addr} {i j:Int} (h:H a = some (.lst [.int i,.int j])):md H (.ref a):=⟨.lst [.int i,.int j],.mk_lst h (.mk_cons (.mk_int _) (.mk_cons (.mk_int _) .mk_nil)),qx (by simp [D.noSts,D.noSt]) (fun _ _ e=>by cases e),by simp [D.len],fun fs e=>by
 cases fs with
 | nil=>cases e
 | cons f fs=>rw [List.map_cons] at e; cases e⟩
theorem C3 {H:Hp} {a:Addr} {i j:Int} (h:H a = some (.tup [.int i,.int j])):md H (.ref a):=mM (q:=(i,j)) (aJ h)
theorem AQ {H:Hp} {a:Addr} {xs:List V} {fs:List (Int × Int)} (h:H a = some (.tup xs)) (r:aF H (fs.map fr) xs):md H (.ref a):=⟨.tup (fs.map fr),.mk_tup h r,by unfold D.noSt; exact m6 fs,by simp [D.len],fun fs e=>by cases e⟩
def kR (H:Hp) (x:V):Prop:=∃ p v u,x = .ref p /\ H p = some (.tup [v,u]) /\ md H v /\ md H u
theorem kR.same {H H':Hp} {x:V} (h:kR H x) (S:aw H H'):kR H' x:=by
 obtain ⟨p,v,u,e,h1,h2,h3⟩:=h
 exact ⟨p,v,u,e,S _ _ h1,h2.same S,h3.same S⟩
theorem kR.but {H H':Hp} {x:V} {st:Addr} (h:kR H x) (S:dI st H H') (hst:cE H st):kR H' x:=by
 obtain ⟨p,v,u,e,h1,h2,h3⟩:=h
 refine ⟨p,v,u,e,S _ _ (fun z=>?_) h1,h2.but S hst,h3.but S hst⟩
 obtain ⟨x,b,e,_⟩:=hst
 rw [z,e] at h1
 cases h1
def wH (K:PySem.W.Frag) (σ:St) (H0:Hp) (t:TE) (Φ:Hp -> V -> Prop):Prop:=∀ H (Q:VK),aw (vw K H0) (vw K H) -> (∀ v H',aw (vw K H) (vw K H') -> Φ (vw K H') v -> Q v H') -> t σ H Q
def FV (K:PySem.W.Frag) (σ:St) (H0:Hp) (t:TA) (n:Nat):Prop:=∀ H (Q:List V -> Hp -> Prop),aw (vw K H0) (vw K H) -> (∀ vs H',aw (vw K H) (vw K H') -> (∀ x ∈ vs,kR (vw K H') x) -> vs.length = n -> Q vs H') -> t σ H Q
def Ep (K:PySem.W.Frag) (σ:St) (H0:Hp) (t:TE) (n:Nat):Prop:=∀ H (Q:VK),aw (vw K H0) (vw K H) -> (∀ p xs H',aw (vw K H) (vw K H') -> vw K H' p = some (.lst xs) -> (∀ x ∈ xs,kR (vw K H') x) -> xs.length = n -> Q (.ref p) H') -> t σ H Q
def DY (K:PySem.W.Frag) (σ:St) (H0:Hp) (t:TE) (fs:List (Int × Int)):Prop:=∀ H (Q:VK),aw (vw K H0) (vw K H) -> (∀ p H',aw (vw K H) (vw K H') -> aH (vw K H') p fs -> Q (.ref p) H') -> t σ H Q
section
variable {K:PySem.W.Frag} {σ:St} {H0:Hp} {t u:TE} {ta:TA} {b c:Bool} {m n:Nat} {fs gs:List (Int × Int)}
theorem wS {i:Nat} {v:V} {Φ:Hp -> V -> Prop} (hs:σ[i]? = some (some v)) (h:∀ G,aw (vw K H0) G -> Φ G v):wH K σ H0 (tVar i) Φ:=fun H Q S k=>⟨v,hs,k v H .rfl (h _ S)⟩
theorem kY (h:tH K σ H0 t b):wH K σ H0 t md:=fun H Q S k=>h H Q S fun v H' S' a _=>k v H' S' a.big
theorem ck (h1:wH K σ H0 t md) (h2:wH K σ H0 u md):wH K σ H0 (jT K (gB t (gB u nN))) kR :=
 fun H Q S k=>h1 H _ S fun v H1 S1 a1=>h2 H1 _ (S.trans S1) fun u' H2 S2 a2=>⟨show 2 <= sizeLine by decide,fun p H3 hp S3 h3=>k _ H3 (S1.trans (S2.trans S3)) ⟨p,v,u',rfl,h3,(a1.same S2).same S3,a2.same S3⟩⟩
theorem mD:FV K σ H0 nN 0:=fun H Q _ h=>h [] H .rfl (by simp) rfl
theorem bR (h1:wH K σ H0 t kR) (h2:FV K σ H0 ta n):FV K σ H0 (gB t ta) (n + 1):=fun H Q S h =>
 h1 H _ S fun v H1 S1 a1=>h2 H1 _ (S.trans S1) fun vs H2 S2 a2 l2=>h (v :: vs) H2 (S1.trans S2) (fun x hx=>by
  rcases List.mem_cons.mp hx with rfl | z
  ·exact a1.same S2
  ·exact a2 x z) (by simp [l2])
theorem jN (h1:FV K σ H0 ta n) (hn:n <= 1000):Ep K σ H0 (kq K ta) n:=fun H Q S h =>
 h1 H _ S fun vs H1 S1 a1 l1=>⟨by rw [l1]; exact Nat.le_trans hn (by decide),fun p H2 hp S2 h2=>h _ _ H2 (S1.trans S2) h2 (fun x hx=>(a1 x hx).same S2) l1⟩
theorem qi {i:Nat} {p:Addr} {xs:List V} (hs:σ[i]? = some (some (.ref p))) (hx:vw K H0 p = some (.lst xs)) (ha:∀ x ∈ xs,kR (vw K H0) x) (hl:xs.length = n):Ep K σ H0 (tVar i) n:=fun H Q S h=>⟨_,hs,h p xs H .rfl (S _ _ hx) (fun x hx=>(ha x hx).same S) hl⟩
theorem qI (h1:Ep K σ H0 t m) (h2:Ep K σ H0 u n) (hn:m + n <= 1000):Ep K σ H0 (yW (gf K) t u) (m + n):=fun H Q S h =>
 h1 H _ S fun p xs H1 S1 x1 a1 l1=>h2 H1 _ (S.trans S1) fun q ys H2 S2 x2 a2 l2=>by
  rw [dl]
  refine ⟨xs,S2 _ _ x1,ys,x2,by rw [l1,l2]; exact Nat.le_trans hn (by decide),fun r H3 hr S3 h3=>h r _ H3 (S1.trans (S2.trans S3)) h3 (fun x hx=>?_) (by simp [l1,l2])⟩
  rcases List.mem_append.mp hx with z | z
  ·exact ((a1 x z).same S2).same S3
  ·exact (a2 x z).same S3
theorem mr {g:TG} {D:kP} (h1:Ep K σ H0 t n) (h:∀ p xs H',aw (vw K H0) (vw K H') -> vw K H' p = some (.lst xs) -> (∀ x ∈ xs,kR (vw K H') x) -> xs.length = n -> g (.ref p) σ H' D.nx):sd t g D σ H0:=h1 H0 _ .rfl h
theorem ny {i:Nat} {p:Addr} (hs:σ[i]? = some (some (.ref p))) (h:aH (vw K H0) p fs):DY K σ H0 (tVar i) fs:=fun H Q S k=>⟨_,hs,k p H .rfl (h.same S)⟩
theorem rj {i j:Int}:DY K σ H0 (kq K (gB (jT K (gB (tC (.int i)) (gB (tC (.int j)) nN))) nN)) [(i,j)]:=fun H Q S k =>
 ⟨show 2 <= sizeLine by decide,fun p H1 hp S1 h1=>⟨show 1 <= sizeLine by decide,fun q H2 hq S2 h2=>k q H2 (S1.trans S2) ⟨_,h2,.mk_cons (aJ (S2 _ _ h1)) .mk_nil⟩⟩⟩
theorem tq (h1:DY K σ H0 t fs) (h2:DY K σ H0 u gs) (hn:fs.length + gs.length <= 1000):DY K σ H0 (yW (gf K) t u) (fs ++ gs):=fun H Q S h =>
 h1 H _ S fun p H1 S1 l1=>h2 H1 _ (S.trans S1) fun q H2 S2 l2=>by
  obtain ⟨xs,x1,r1⟩:=l1.same S2
  obtain ⟨ys,x2,r2⟩:=l2
  rw [dl]
  refine ⟨xs,x1,ys,x2,?_,fun r H3 hr S3 h3=>h r H3 (S1.trans (S2.trans S3)) ⟨_,h3,?_⟩⟩
  ·rw [r1.length,r2.length,List.length_map,List.length_map]
   exact Nat.le_trans hn (by decide)
  ·rw [List.map_append]
   exact (r1.same S3).app (r2.same S3)
theorem ma (h:DY K σ H0 t fs) (hl:fs.length <= 1000) (hb:ba fs -> ∀ q ∈ fs,Bq 20000 q):wH K σ H0 t md:=fun H Q S k=>h H _ S fun p H' S' l=>k _ H' S' (tF l hl hb)
end
theorem uL {d:D} (h:d.poly = true):∃ fs,d = .lst (fs.map fr) /\ ba fs:=by
 cases d with
 | lst ds =>
  have h':(ds.all D.frac && gY ds) = true:=h
  rw [Bool.and_eq_true] at h'
  obtain ⟨h1,h2⟩:=h'
  have key:∀ ds:List D,ds.all D.frac = true -> ∃ fs:List (Int × Int),ds = fs.map fr /\ ∀ q ∈ fs,Fq q:=by
   intro ds
   induction ds with
   | nil=>exact fun _=>⟨[],rfl,by simp⟩
   | cons d ds ih =>
    intro z
    rw [List.all_cons,Bool.and_eq_true] at z
    obtain ⟨q,rfl,fq⟩:=D.frac_fr z.1
    obtain ⟨fs,rfl,hf⟩:=ih z.2
    refine ⟨q :: fs,rfl,fun p hp=>?_⟩
    rcases List.mem_cons.mp hp with rfl | y
    ·exact fq
    ·exact hf p y
  obtain ⟨fs,rfl,hf⟩:=key ds h1
  refine ⟨fs,rfl,hf,fun q hq z=>?_⟩
  have hq':(fs.map fr).getLast? = some (fr q):=by rw [List.getLast?_map,hq]; rfl
  have e:=iX hq'
  rw [h2] at e
  have fq:=hf q (List.mem_of_getLast? hq)
  have:q = (0,1):=(kE fq).mpr z
  rw [decide_eq_true this] at e
  cases e
 | _=>unfold D.poly at h; cases h
end L2
set_option maxHeartbeats 8000000
namespace M
open PySem L2
def d7 (i:Nat):Stmt:=PySem.Challenge.pw_momentwright_k64_what_shows_the_most.main.body.getD i (.Pass ⟨0,0,0,0⟩)
abbrev fb:Stmt:=d7 12
theorem lZ:aq ["thing"] ["thing"] (ae fb):=by walk_at "a3"
abbrev cb:Stmt:=d7 13
theorem fF:aq ["one", "other"] ["one", "other"] (ae cb):=by walk_at "a3"
abbrev fP:Stmt:=d7 14
theorem nQ:aq ["numbers", "zero", "many"] ["numbers", "zero"] (ae fP):=by walk_at "a3"
abbrev bS:Stmt:=d7 15
theorem ft:aq ["one", "other", "product", "j", "former", "k", "latter"] ["one", "other"] (ae bS):=by walk_at "a3"
abbrev eH:Stmt:=d7 16
theorem jY:aq ["wholes", "top", "bottom", "total", "scale", "whole"] ["wholes", "top", "bottom"] (ae eH):=by walk_at "a3"
abbrev dq:Stmt:=d7 18
theorem iA:aq ["thing", "top", "bottom"] ["thing"] (ae dq):=by walk_at "a3"
abbrev iP:Stmt:=d7 19
theorem sA:aq ["top", "bottom", "divisor"] ["top", "bottom"] (ae iP):=by walk_at "a3"
abbrev kO:Stmt:=d7 20
theorem uJ:aq ["one", "other"] ["one", "other"] (ae kO):=by walk_at "a3"
abbrev iM:Stmt:=d7 21
theorem rR:aq ["one", "other"] ["one", "other"] (ae iM):=by walk_at "a3"
abbrev lD:Stmt:=d7 22
theorem vz:aq ["one", "other"] ["one", "other"] (ae lD):=by walk_at "a3"
abbrev cw:Stmt:=d7 25
theorem gw:aq ["thing", "number"] ["thing"] (ae cw):=by walk_at "a3"
abbrev eF:Stmt:=d7 26
theorem jS:aq ["f", "place"] ["f", "place"] (ae eF):=by walk_at "a3"
abbrev gJ:Stmt:=d7 27
theorem o0:aq ["f", "g", "many"] ["f", "g"] (ae gJ):=by walk_at "a3"
abbrev fS:Stmt:=d7 28
theorem mT:aq ["f", "bottom", "number"] ["f"] (ae fS):=by walk_at "a3"
abbrev fW:Stmt:=d7 29
theorem nU:aq ["wholes", "bottom"] ["wholes", "bottom"] (ae fW):=by walk_at "a3"
abbrev dQ:Stmt:=d7 30
theorem jv:aq ["f", "g", "f_wholes", "f_bottom", "g_wholes", "g_bottom"] ["f", "g"] (ae dQ):=by walk_at "a3"
abbrev i0:Stmt:=d7 31
theorem ss:aq ["f", "by"] ["f", "by"] (ae i0):=by walk_at "a3"
abbrev eD:Stmt:=d7 32
theorem kj:aq ["f", "x", "wholes", "bottom", "total", "scale"] ["f", "x"] (ae eD):=by walk_at "a3"
abbrev iY:Stmt:=d7 34
theorem rY:aq ["sums", "f", "numbers", "numbers_bottom", "wholes", "bottom"] ["sums", "f"] (ae iY):=by walk_at "a3"
abbrev dX:Stmt:=d7 35
theorem jt:aq ["sums", "f", "g"] ["sums", "f", "g"] (ae dX):=by walk_at "a3"
abbrev oW:Stmt:=d7 38
theorem wU:aq ["wholes", "row", "k"] ["wholes", "row", "k"] (ae oW):=by walk_at "a3"
abbrev eV:Stmt:=d7 39
theorem lX:aq ["wholes", "row", "before", "k", "last", "height", "middle", "told", "place", "number"] ["wholes", "row", "before"] (ae eV):=by walk_at "a3"
abbrev eL:Stmt:=d7 40
theorem jH:aq ["wholes", "rows", "before", "row"] ["wholes"] (ae eL):=by walk_at "a3"
abbrev je:Stmt:=d7 41
theorem sk:aq ["sums", "wholes", "bottom", "told", "k", "row"] ["sums"] (ae je):=by walk_at "a3"
abbrev cy:Stmt:=d7 42
theorem gG:aq ["sums", "row"] ["sums"] (ae cy):=by walk_at "a3"
abbrev lN:Stmt:=d7 44
theorem vf:aq ["sums", "f", "g"] ["sums", "f", "g"] (ae lN):=by walk_at "a3"
abbrev dU:Stmt:=d7 45
theorem jA:aq ["sums", "step", "k"] ["sums", "step"] (ae dU):=by walk_at "a3"
abbrev fX:Stmt:=d7 46
theorem m5:aq ["sums", "step", "square"] ["sums"] (ae fX):=by walk_at "a3"
abbrev gH:Stmt:=d7 47
theorem oQ:aq ["told"] ["told"] (ae gH):=by walk_at "a3"
abbrev m7:Stmt:=d7 49
theorem qK:aq ["sums", "told"] ["sums"] (ae m7):=by walk_at "a3"
abbrev cS:Stmt:=d7 51
theorem ig:aq ["sums", "spot", "word", "roots", "ladder", "number", "told", "step", "square"] ["sums", "spot"] (ae cS):=by walk_at "a3"
abbrev db:Stmt:=d7 52
theorem fh:aq ["sums", "spot", "number", "f"] ["sums", "spot", "number", "f"] (ae db):=by walk_at "a3"
abbrev iS:Stmt:=d7 54
theorem uy:aq ["_law_thing"] ["_law_thing"] (ae iS):=by walk_at "a3"
abbrev fT:Stmt:=d7 55
theorem pA:aq ["_law_one", "_law_other"] ["_law_one", "_law_other"] (ae fT):=by walk_at "a3"
abbrev dm:Stmt:=d7 56
theorem ju:aq ["_law_thing"] ["_law_thing"] (ae dm):=by walk_at "a3"
abbrev cx:Stmt:=d7 57
theorem ie:aq ["_law_thing"] ["_law_thing"] (ae cx):=by walk_at "a3"
abbrev pF:Stmt:=d7 58
theorem BZ:aq ["_law_top", "_law_bottom", "_law_by"] ["_law_top", "_law_bottom"] (ae pF):=by walk_at "a3"
abbrev kX:Stmt:=d7 59
theorem yB:aq ["_law_one", "_law_other"] ["_law_one", "_law_other"] (ae kX):=by walk_at "a3"
abbrev ji:Stmt:=d7 60
theorem uc:aq ["_law_one", "_law_other"] ["_law_one", "_law_other"] (ae ji):=by walk_at "a3"
abbrev eE:Stmt:=d7 61
theorem lS:aq ["_law_f", "_law_x_here", "_law_found", "_law_one"] ["_law_f", "_law_x_here"] (ae eE):=by walk_at "a3"
abbrev i5:Stmt:=d7 62
theorem uv:aq ["_law_sums_here", "_law_f", "_law_found", "_law_place"] ["_law_sums_here", "_law_f"] (ae i5):=by walk_at "a3"
abbrev jd:Stmt:=d7 63
theorem u3:aq ["_law_numbers", "_law_many"] ["_law_numbers"] (ae jd):=by walk_at "a3"
abbrev dN:Stmt:=d7 64
theorem jZ:aq ["_law_f", "_law_g", "_law_found", "_law_i", "_law_j"] ["_law_f", "_law_g"] (ae dN):=by walk_at "a3"
abbrev gI:Stmt:=d7 65
theorem rO:aq ["_law_sums_here", "_law_f", "_law_g"] ["_law_sums_here", "_law_f", "_law_g"] (ae gI):=by walk_at "a3"
abbrev lE:Stmt:=d7 66
theorem xM:aq ["_law_state_here", "_law_many", "_law_found", "_law_mixed"] ["_law_state_here", "_law_many"] (ae lE):=by walk_at "a3"
abbrev gF:Stmt:=d7 67
theorem rB:aq ["_law_f", "_law_g", "_law_by", "_law_found", "_law_place"] ["_law_f", "_law_g", "_law_by"] (ae gF):=by walk_at "a3"
abbrev i9:Stmt:=d7 68
theorem uj:aq ["_law_state_here"] ["_law_state_here"] (ae i9):=by walk_at "a3"
abbrev jf:Stmt:=d7 69
theorem ub:aq ["_law_one", "_law_other"] ["_law_one", "_law_other"] (ae jf):=by walk_at "a3"
abbrev fQ:Stmt:=d7 70
theorem oZ:aq ["_law_script", "_law_k"] ["_law_script", "_law_k"] (ae fQ):=by walk_at "a3"
abbrev i3:Stmt:=d7 71
theorem ue:aq ["_law_script", "_law_k", "_law_cell"] ["_law_script", "_law_k"] (ae i3):=by walk_at "a3"
abbrev iT:Stmt:=d7 72
theorem uD:aq ["_law_state_here"] ["_law_state_here"] (ae iT):=by walk_at "a3"
abbrev iQ:Stmt:=d7 73
theorem t9:aq ["_law_state_here", "_law_most", "_law_found", "_law_spot", "_law_turn"] ["_law_state_here", "_law_most"] (ae iQ):=by walk_at "a3"
abbrev dL:Stmt:=d7 74
theorem j9:aq ["_law_state_here", "_law_most", "_law_found"] ["_law_state_here", "_law_most"] (ae dL):=by walk_at "a3"
abbrev dO:Stmt:=d7 75
theorem kx:aq ["_law_crowd_here", "_law_many", "_law_found", "_law_powers", "_law_k", "_law_amount", "_law_one"] ["_law_crowd_here", "_law_many"] (ae dO):=by walk_at "a3"
abbrev kT:Stmt:=d7 76
theorem wN:aq ["_law_state_here", "_law_crowd_here", "_law_spot"] ["_law_state_here"] (ae kT):=by walk_at "a3"
abbrev kU:Stmt:=d7 77
theorem yj:aq ["_law_state_here", "_law_many", "_law_way", "_law_found", "_law_at"] ["_law_state_here"] (ae kU):=by walk_at "a3"
abbrev lC:Stmt:=d7 78
theorem xh:aq ["_law_one", "_law_other"] ["_law_one", "_law_other"] (ae lC):=by walk_at "a3"
abbrev iW:Stmt:=d7 79
theorem uB:aq ["_law_sums_here", "_law_start", "_law_found", "_law_step", "_law_one", "_law_square_here", "_law_by"] ["_law_sums_here", "_law_start", "_law_found"] (ae iW):=by walk_at "a3"
abbrev Er:Stmt:=d7 80
theorem Gs:aq ["_law_many"] ["_law_many"] (ae Er):=by walk_at "a3"
abbrev i7:Stmt:=d7 81
theorem vn:aq ["_law_sums_here", "_law_found", "_law_step"] ["_law_sums_here"] (ae i7):=by walk_at "a3"
abbrev lF:Stmt:=d7 82
theorem yP:aq ["_law_sums_here", "_law_last", "_law_square_here", "_law_many"] ["_law_sums_here"] (ae lF):=by walk_at "a3"
abbrev fR:Stmt:=d7 83
theorem oJ:aq ["_law_call", "_law_error", "e", "_law_kinds"] ["_law_call"] (ae fR):=by walk_at "a3"
abbrev pB:Stmt:=d7 84
theorem BU:aq ["_law_sums_here", "_law_spot", "_law_number", "_law_f"] ["_law_sums_here", "_law_spot", "_law_number", "_law_f"] (ae pB):=by walk_at "a3"
abbrev oT:Stmt:=d7 85
theorem BM:aq ["_law_state_here", "_law_spot", "_law_many", "_law_found", "_law_line", "_law_turn", "_law_amount"] ["_law_state_here", "_law_spot", "_law_many"] (ae oT):=by walk_at "a3"
abbrev kK:Stmt:=d7 86
theorem xC:aq ["_law_state_here", "_law_told", "_law_sums_here", "_law_spot", "_law_number", "_law_f", "_law_own_here", "_law_square_here", "_law_some"] ["_law_state_here", "_law_told", "_law_sums_here", "_law_spot"] (ae kK):=by walk_at "a3"
abbrev dP:Stmt:=d7 87
theorem jW:aq ["_law_sums_here", "_law_spot", "_law_number", "_law_f", "_law_found"] ["_law_sums_here", "_law_spot", "_law_number", "_law_f"] (ae dP):=by walk_at "a3"
abbrev gz:Stmt:=d7 88
theorem wP:aq ["_law_script", "_law_k", "_law_state_here", "_law_crowd_here", "_law_sums_here", "_law_spot", "_law_told", "_law_turn", "_law_number", "_law_f", "_law_odd"] ["_law_script"] (ae gz):=by walk_at "a3"
structure dH (K:PySem.W.Frag) (mg:Str -> Option Value):Prop where
 non:True
 g_ZERO:GT K mg "ZERO" [V.int (0),V.int (1)]
 g_ONE:GT K mg "ONE" [V.int (1),V.int (1)]
 b_isinstance:mg "isinstance" = none
 b_bool:mg "bool" = none
 b_int:mg "int" = none
 b_abs:mg "abs" = none
 b_len:mg "len" = none
 b_enumerate:mg "enumerate" = none
 b_reversed:mg "reversed" = none
 b_tuple:mg "tuple" = none
 b_list:mg "list" = none
 b_range:mg "range" = none
 b_max:mg "max" = none
 b_sum:mg "sum" = none
 b_zip:mg "zip" = none
 b_ValueError:mg "ValueError" = none
 b_min:mg "min" = none
set_option compiler.extract_closed false
local macro_rules | `(tactic| walk_at "m")=>`(tactic| try simp only [L2.start,List.map_cons,List.map_nil,List.cons_append,List.nil_append,List.replicate_succ,List.replicate_zero,List.length_cons,List.length_nil,Nat.reduceSub,Nat.reduceAdd,Nat.zero_add,sP,pE,D3,uQ,F6,zW,Dx,zX,Gm,Fy,Ga,BG,BX,Cl,Cz,Dn,Ej,AV,CH,Aw,Bv,DW,DQ,AU,Bj,ux,xZ,Fi,EK])
local macro_rules | `(tactic| walk_at "d")=>`(tactic| try dsimp only [bv,nE,yM,DD,Co,E4,wY,sd,gm,ET,jz,tX,CZ,tC,yW,F2,Ci,Ap,Gg,CI,gB,nN,Ek,F8,DB,F3,jT,sF,D0,tY,id,F1,pQ,kq,Fu,sP,Fg,bI,Ai,List.getElem?_cons_zero,List.getElem?_cons_succ,List.set_cons_zero,List.set_cons_succ,L2.start,Option.join,Option.bind,List.map_cons,List.map_nil,List.replicate_succ,List.replicate_zero,List.cons_append,List.nil_append,List.length_cons,List.length_nil,Nat.reduceSub,Nat.reduceAdd,Nat.zero_add,AJ,uo,xu,Eb,zj,mI,Gc,mU,Bn,AZ,DV,Dz,CJ,CQ,ya,Fc,wX,uC,C8,Fr,yq,wR,wm,wz,xU,Gn,FX,zF,yZ,xc,zr,CO,DX,cond])
local macro_rules | `(tactic| walk_at "s")=>`(tactic| try simp only [nj,Bg,List.map_cons,List.map_nil,List.cons_append,List.nil_append,List.replicate_succ,List.replicate_zero,Option.join,Option.bind,bI,EN,Fs,rI,rU,iu,cL,dS,lL,mF,qw,zM,BC,vE,xG,jz,tX,uh,Ew,El,ge,fk,oK,dl,BL,jr,fE,ij,Fa,AX,HO.lst.injEq,HO.tup.injEq,Ar,yz,FW,E8,exists_eq_left,exists_eq_left',exists_and_left,exists_and_right,V.int.injEq,V.bl.injEq,V.ref.injEq,V.str.injEq,V.ty.injEq,List.cons.injEq,and_true,true_and,and_self,List.getElem?_cons_zero,List.getElem?_cons_succ,Option.some.injEq,List.set_cons_zero,List.set_cons_succ,reduceCtorEq,or_false,false_or,false_and,and_false,exists_false,exists_eq,exists_eq',and_assoc,List.length_cons,List.length_nil,Nat.reduceSub,Nat.reduceAdd,Nat.zero_add,Bool.not_eq_true',decide_eq_false_iff_not,decide_eq_true_eq,Aa,xa,yu,vI,ne_eq,not_true_eq_false,not_false_eq_true,ite_true,ite_false,if_true,if_false,Bool.false_eq_true,Bool.not_true,Bool.not_false,Bool.true_eq_false])
local macro_rules | `(tactic| walk_at "vc")=>`(tactic| (walk_at "d"; walk_at "s"; walk_at "d"; walk_at "s"; walk_at "d"; walk_at "s"))
local macro_rules | `(tactic| walk_at "vc*")=>`(tactic| (walk_at "vc"; (repeat (simp only [*]; walk_at "vc"))))
section
variable {P:Program} {w:World} {K:PySem.W.Frag} {mg:Str -> Option Value} {base:Heap} {f:Addr} {fd:FuncData}
def aZ (K:PySem.W.Frag):Sp:=fun vs H Q _=>∃ a b:Int,vs = [.int a,.int b] /\ Q (.int (Int.gcd a b)) H
theorem jp (F:cU K "greatest_divisor" "greatest_divisor" cb f fd) (T:dH K mg):aV P w K mg base cV 1 f fd ["one", "other"] (aZ K):=by
 have scN:=fF.nd
 refine F.okQ fF (fun vs H Q E h=>?_) (fun cdv A outer s H vs Q E hr h=>?_)
 ·obtain ⟨a,b,rfl,_⟩:=h
  rfl
 ·obtain ⟨a,b,rfl,h⟩:=h
  refine ⟨_,(af (tK (i:=0) (j:=1) rfl scN rfl rfl (by decide) rfl rfl (aa (ai nZ (by rfl) T.b_abs sY (aa (qv 0) ac)) (aa (ai nZ (by rfl) T.b_abs sY (aa (qv 1) ac)) ac)) rfl)
   (af (gL PassesOwn.never (aN rN (qv 1) ad (aK _)) (ag (tK (i:=0) (j:=1) rfl scN rfl rfl (by decide) rfl rfl (aa (qv 1) (aa (ap gl (qv 0) (qv 1)) ac)) rfl)))
   (ag (ar (qv 0))))),?_⟩
  walk_at "m"
  walk_at "vc"
  refine ⟨fun m σ H'=>H' = H /\ ∃ x y:Int,σ = [some (.int x),some (.int y)] /\ Int.gcd x y = Int.gcd a b /\ 0 <= x /\ 0 <= y /\ m = y.natAbs,⟨_,rfl,_,_,rfl,?_,?_,?_,rfl⟩,?_⟩
  ·split <;> split <;> simp
  ·split <;> walk_at "o"
  ·split <;> walk_at "o"
  ·rintro m σ H' ⟨rfl,x,y,rfl,hg,hx,hy,rfl⟩
   walk_at "vc"
   refine bV (fun hy0=>?_) (fun hy0=>?_)
   ·refine ⟨_,fun σ' H' h=>h,?_⟩
    walk_at "vc"
    exact ⟨hy0,_,uN x hy0,by rw [rK,hg],hy,Int.fmod_nonneg_of_pos x (by walk_at "o"),rfl⟩
   ·walk_at "vc"
    have e:((Int.gcd a b:Nat):Int) = x:=by
     rw [<- hg,show y = 0 by walk_at "o"]
     simp
     walk_at "o"
    rw [<- e]
    exact h
def dG (K:PySem.W.Frag):Sp:=fun vs H Q _=>∃ (a z:Addr) (qs:List (Int × Int)),vs = [.ref a,.ref z] /\ aH (vw K H) a qs /\ vw K H z = some (.tup [.int 0,.int 1]) /\ (∀ q ∈ qs,Fq q) /\
 ∀ b H' (rs:List (Int × Int)),aw (vw K H) (vw K H') -> aH (vw K H') b rs -> vw K H b = none -> ba rs -> (∀ k,cf rs k = cf qs k) -> rs.length <= qs.length -> (∀ q ∈ rs,q ∈ qs) -> Q (.ref b) H'
theorem tV (F:cU K "trimmed" "trimmed" fP f fd) (T:dH K mg):aV P w K mg base cV 1 f fd ["numbers", "zero"] (dG K):=by
 have scN:=nQ.nd
 refine F.okQ nQ (fun vs H Q E h=>?_) (fun cdv A outer s H vs Q E hr h=>?_)
 ·obtain ⟨a,_,_,rfl,_⟩:=h
  rfl
 ·obtain ⟨a,z,qs,rfl,ha,hz,hF,h⟩:=h
  refine ⟨_,(af (az (i:=2) scN rfl (by walk_at "a1") (ai aB (by rfl) T.b_len aT (aa (qv 0) ac)))
   (af (gL PassesOwn.never (QW.pt (oj (aN km (qv 2) ad (aK _)) (kG (aN (lH hr.u64) (aA cJ (qv 0) (ap cZ (qv 2) ad) (fun _ _=>rfl)) (qv 1) (aK _))))) (ag (qX (i:=2) scN rfl (by walk_at "a1") ad tj)))
   (ag (ar (gE gN (qv 0) jb (hU (qv 2))))))),?_⟩
  walk_at "m"
  walk_at "vc"
  refine ⟨_,ha.len,fun m σ H'=>H' = H /\ m <= qs.length /\ (∀ q ∈ qs.drop m,q.1 = 0) /\ σ = [some (.ref a),some (.ref z),some (.int m)],⟨_,rfl,Nat.le_refl _,by simp,rfl⟩,?_⟩
  rintro k σ H' ⟨rfl,hk,hdr,rfl⟩
  obtain ⟨xs,hax,rx⟩:=ha
  have hlx:xs.length = qs.length:=by rw [rx.length,List.length_map]
  have fin:(∀ q,(qs.take k).getLast? = some q -> q.1 ≠ 0) -> Nw K H' (HO.lst (jO xs none (some (k:Int)))) Q:=fun hq p H2 hp S2 h2=>by
   rw [tu (by walk_at "o")] at h2
   refine h p H2 (qs.take k) S2 ⟨_,h2,?_⟩ hp ⟨fun q hq'=>hF q (List.mem_of_mem_take hq'),hq⟩ (pY hF hdr) (by rw [List.length_take]; walk_at "o") fun q hq'=>List.mem_of_mem_take hq'
   rw [List.map_take]
   exact (rx.take k).same S2
  walk_at "vc"
  refine bV (fun h0=>?_) (fun h0=>?_)
  ·have hk1:k - 1 < qs.length:=by walk_at "o"
   obtain ⟨x,hx,r⟩:=rx.at (i:=k - 1) (d:=fr qs[k - 1]) (by rw [List.getElem?_map,List.getElem?_eq_getElem hk1]; rfl)
   have e1:((k:Int) - 1) = ((k - 1:Nat):Int):=by walk_at "o"
   have fq:=hF qs[k - 1] (List.getElem_mem hk1)
   refine ⟨_,hax,_,by rw [e1]; exact bQ hx,_,r,fr (0,1),aJ hz,cR _,cR _,?_⟩
   rw [gv]
   refine bV (fun hq=>?_) (fun hq=>?_)
   ·have hq0:qs[k - 1].1 = 0:=(kE fq).mp (of_decide_eq_true hq)
    refine ⟨_,fun σ' H'' z=>z,?_⟩
    refine ⟨_,_,rfl,rfl,k - 1,by walk_at "o",rfl,by walk_at "o",fun q' hq'=>?_,by rw [<- e1]⟩
    rw [List.drop_eq_getElem_cons hk1,show k - 1 + 1 = k by walk_at "o"] at hq'
    rcases List.mem_cons.mp hq' with z | z
    ·rw [z]
     exact hq0
    ·exact hdr q' z
   ·refine ⟨_,hax,fin fun q hq2=>?_⟩
    have:(qs.take k).getLast? = some qs[k - 1]:=by
     rw [List.getLast?_eq_getElem?,List.length_take,List.getElem?_take]
     rw [if_pos (by walk_at "o"),show min k qs.length - 1 = k - 1 by walk_at "o",List.getElem?_eq_getElem hk1]
    rw [this] at hq2
    cases hq2
    exact fun e=>hq (decide_eq_true ((kE fq).mpr e))
  ·refine ⟨_,hax,fin fun q hq=>?_⟩
   rw [show k = 0 by walk_at "o"] at hq
   cases hq
def cq (K:PySem.W.Frag):Sp:=fun vs H Q _=>∃ a b:Int,vs = [.int a,.int b] /\ b ≠ 0 /\ Bt 4000000 b /\ ∀ v H',aw (vw K H) (vw K H') -> aC (vw K H') (fr (lo a b)) v -> Q v H'
theorem ye (F:cU K "ratio" "ratio" iP f fd) (T:dH K mg) (N_:vX P base) (C_greatest_divisor:aP P w K mg base "greatest_divisor" ["one", "other"] 1 (aZ K)):aV P w K mg base cV 2 f fd ["top", "bottom"] (cq K):=by
 have scN:=sA.nd
 refine F.okQ sA (fun vs H Q E h=>?_) (fun cdv A outer s H vs Q E hr h=>?_)
 ·obtain ⟨a,b,rfl,_⟩:=h
  rfl
 ·obtain ⟨a,b,rfl,hb,hbb,h⟩:=h
  refine ⟨_,(af (bT (aN ik (qv 1) ad (aK _)) (ag jQ) aR)
   (af (az (i:=2) scN rfl (by walk_at "a1") (ah C_greatest_divisor (hr.mono (by walk_at "a2")) rfl (aa (qv 0) (aa (qv 1) ac))))
   (af (bT (aN jM (qv 1) ad (aK _)) (ag (az (i:=2) scN rfl (by walk_at "a1") (eR cY (qv 2)))) aR)
   (ag (ar (av (aa (ap (iG N_ hr rfl rfl rfl) (qv 0) (qv 2)) (aa (ap (iG N_ hr rfl rfl rfl) (qv 1) (qv 2)) ac)))))))),?_⟩
  walk_at "m"
  walk_at "vc"
  simp only [aZ]
  refine kc hb ?_
  walk_at "vc"
  have hgn:Int.gcd a b ≠ 0:=fun e=>hb (Int.gcd_eq_zero_iff.mp e).2
  have e1:lg a b = if b < 0 then -(Int.gcd a b:Int) else (Int.gcd a b:Int):=rfl
  have d1:yr a (-(Int.gcd a b:Int)):=by unfold yr; walk_at "o"
  have d2:yr a (Int.gcd a b:Int):=by unfold yr; walk_at "o"
  refine bV (fun hn=>?_) (fun hn=>?_)
  ·rw [if_pos hn] at e1
   refine ⟨d1,d1,by decide,fun p H2 hp S hp2=>h _ H2 S ?_⟩
   rw [<- e1] at hp2
   exact aJ hp2
  ·rw [if_neg hn] at e1
   refine ⟨d2,d2,by decide,fun p H2 hp S hp2=>h _ H2 S ?_⟩
   rw [<- e1] at hp2
   exact aJ hp2
def cg (K:PySem.W.Frag):Sp:=fun vs H Q _=>∃ (a:Addr) (qs:List (Int × Int)) (B:Nat),vs = [.ref a] /\ aH (vw K H) a qs /\ qs.length <= 40 /\ B <= 300000 /\ (∀ q ∈ qs,Fq q /\ Bq B q) /\
 ∀ p b H' (D:Int) (ns:List Int),aw (vw K H) (vw K H') -> vw K H' p = some (.tup [.ref b,.int D]) -> vw K H' b = some (.lst (ns.map V.int)) -> vw K H b = none -> 0 < D -> Bt (1 + qs.length * B) D -> ns.length = qs.length ->
  (∀ (i:Nat) (n:Int) (q:Int × Int),ns[i]? = some n -> qs[i]? = some q -> (n:Rat) = wv q * (D:Rat) /\ Bt (1 + qs.length * B + B) n) -> (∀ E:Int,(∀ q ∈ qs,q.2 ∣ E) -> D ∣ E) -> Q (.ref p) H'
theorem sT (F:cU K "cleared" "cleared" fS f fd) (T:dH K mg) (N_:vX P base) (C_greatest_divisor:aP P w K mg base "greatest_divisor" ["one", "other"] 1 (aZ K)):aV P w K mg base cV 2 f fd ["f"] (cg K):=by
 have scN:=mT.nd
 refine F.okQ mT (fun vs H Q E h=>?_) (fun cdv A outer s H vs Q E hr h=>?_)
 ·obtain ⟨a,_,_,rfl,_⟩:=h
  rfl
 ·obtain ⟨a,qs,B,rfl,ha,hql,hB,hq,h⟩:=h
  refine ⟨_,(af (az (i:=1) scN rfl (by walk_at "a1") ad)
   (af (cr PassesOwn.never rfl (dZ (qv 0)) (am (i:=2) scN rfl (by walk_at "a1")) (ag (qX (i:=1) scN rfl (by walk_at "a1") (ap (iG N_ hr rfl rfl rfl) (aA bH (qv 2) ad (fun _ _=>rfl)) (ah C_greatest_divisor (hr.mono (by walk_at "a2")) rfl (aa (qv 1) (aa (aA bH (qv 2) ad (fun _ _=>rfl)) ac)))) u8)))
   (ag (ar (av (aa (eh (own:=["top", "own"]) (outs:=["bottom"]) (ixs:=[1]) rfl (dZ (qv 0)) rfl ⟨rfl,rfl,rfl,⟨rfl,trivial⟩,rfl,⟨⟨rfl,rfl,rfl,_,rfl⟩,trivial⟩⟩ (fun _ _ _ _=>⟨(show QG _ _ (jr K 2 _) from br (n:=2) rfl (ay (am (i:=0) (show (["top", "own", "bottom"]:List Str).Nodup by decide +kernel) rfl (by walk_at "a1")) (ay (am (i:=1) (show (["top", "own", "bottom"]:List Str).Nodup by decide +kernel) rfl (by walk_at "a1")) bo))),gc,(ap (show fo _ _ (im K) from aL) (qv 0) (ap (y9 N_ hr rfl rfl rfl rfl rfl) (qv 2) (qv 1)))⟩)) (aa (qv 1) ac))))))),?_⟩
  walk_at "m"
  walk_at "vc"
  obtain ⟨xs,hxs,rxs⟩:=id ha
  have hlx:xs.length = qs.length:=by rw [rxs.length,List.length_map]
  have hLB:∀ i,i <= qs.length -> i * B <= 12000000:=fun i hi=>Nat.le_trans (Nat.mul_le_mul (Nat.le_trans hi hql) hB) (by decide)
  refine ⟨⟨xs,.of (aO hxs)⟩,?_⟩
  obtain ⟨Pv,hPv⟩ : ∃ Pv:Nat -> St -> Hp -> Prop,∀ i σ H',Pv i σ H' ↔ H' = H /\ ∃ b y,σ = [some (.ref a),some (.int b),y] /\ 0 < b /\ Bt (1 + i * B) b /\ (∀ q ∈ qs.take i,q.2 ∣ b) /\ ∀ E:Int,(∀ q ∈ qs.take i,q.2 ∣ E) -> b ∣ E:=⟨_,fun _ _ _=>Iff.rfl⟩
  refine bA (its:=xs) Pv (fun i σ H' _ p=>?_) ((hPv _ _ _).mpr ⟨rfl,_,_,rfl,by decide,by rw [Nat.zero_mul]; decide,(by simp),fun E _=>Int.one_dvd E⟩) (fun i x σ H1 hi hx pv=>?_) (fun σ H1 pv=>?_)
  ·obtain ⟨rfl,_⟩:=(hPv _ _ _).mp p
   exact bY hxs
  ·obtain ⟨rfl,b,y,rfl,hb,bb,hd,hm⟩:=(hPv _ _ _).mp pv
   have hi':i < qs.length:=by walk_at "o"
   obtain ⟨d,e,r⟩:=rxs.get hx
   rw [List.getElem?_map,List.getElem?_eq_getElem hi'] at e
   cases e
   obtain ⟨p,rfl,hp⟩:=r.fr_at
   obtain ⟨fq,bq⟩:=hq qs[i] (List.getElem_mem hi')
   obtain ⟨l1,l2,l3,l4,l5⟩:=sL hb fq.1
   walk_at "vc"
   simp only [aZ]
   walk_at "vc"
   refine ⟨_,hp,_,ij,_,hp,_,ij,_,rfl,?_⟩
   walk_at "vc"
   have hgb:Bt B (Int.gcd b qs[i].2:Int):=bq.2.le (by walk_at "o") l5
   have hcb:Bt B (qs[i].2.fdiv (Int.gcd b qs[i].2:Int)):=bq.2.le (by walk_at "o") l2
   have:=hLB i (by walk_at "o")
   refine ⟨l4,bU bb hcb (by walk_at "o"),(hPv _ _ _).mpr ⟨rfl,_,_,rfl,Int.mul_pos hb l1,(bb.mul hcb).mono (by rw [Nat.add_mul]; walk_at "o"),fun q hq'=>?_,fun E hE=>?_⟩⟩
   ·rw [List.take_add_one,List.getElem?_eq_getElem hi'] at hq'
    rcases List.mem_append.mp hq' with z | z
    ·exact Int.dvd_trans (hd q z) (Int.dvd_mul_right _ _)
    ·cases List.mem_singleton.mp z
     exact l3
   ·rw [List.take_add_one,List.getElem?_eq_getElem hi'] at hE
    exact Bf hb fq.1 (hm E fun q z=>hE q (List.mem_append.mpr (.inl z))) (hE _ (List.mem_append.mpr (.inr (List.mem_singleton.mpr rfl))))
  ·obtain ⟨rfl,D,y,rfl,hD,bD,hd,hmin⟩:=(hPv _ _ _).mp pv
   rw [hlx] at bD hd hmin
   rw [List.take_length] at hd hmin
   have hLBq:=hLB qs.length (Nat.le_refl _)
   walk_at "vc"
   refine ⟨⟨xs,.of (aO hxs)⟩,fun c H2 hc S2 h2=>?_⟩
   refine m4 (its:=xs) (ps:=qs.map fun q=>(V.int q.1,V.int q.2)) (fun i ys H'=>aw (vw K H1) (vw K H') /\ ys = (qs.take i).map fun q=>V.int (q.1 * D.fdiv q.2)) (by rw [List.length_map]; exact hlx) (fun i ys H' _ _ p=>⟨bY (p.1 _ _ hxs),fun j u v e=>?_⟩) h2 ⟨S2,rfl⟩ (fun i u v ys H' hi huv h' p=>?_) (fun ys H' h' p=>?_)
   ·rw [List.getElem?_map] at e
    cases e2:qs[j]? with
    | none=>rw [e2] at e; cases e
    | some q =>
     rw [e2] at e
     cases e
     obtain ⟨x,e3,r⟩:=rxs.at (i:=j) (d:=fr q) (by rw [List.getElem?_map,e2]; rfl)
     obtain ⟨p2,rfl,hp2⟩:=r.fr_at
     exact ⟨p2,e3,p.1 _ _ hp2⟩
   ·obtain ⟨S',rfl⟩:=p
    rw [List.length_map] at hi
    rw [List.getElem?_map,List.getElem?_eq_getElem hi] at huv
    cases huv
    obtain ⟨fq,bq⟩:=hq qs[i] (List.getElem_mem hi)
    obtain ⟨c1,c2,c3⟩:=rT fq (hd qs[i] (List.getElem_mem hi)) hD bD bq.1
    walk_at "vc"
    refine ⟨(show yr _ _ from fun z=>by have:=fq.1; walk_at "o"),bU bq.1 c3 (by walk_at "o"),.mk2 h' ?_ fun H5 B5 h5=>⟨fun b o e=>B5 _ _ (ak e hc) (S' _ _ e),?_⟩⟩
    ·rw [List.length_map,List.length_take]
     have:1000 <= sizeLine:=by decide
     walk_at "o"
    ·rw [List.take_add_one,List.getElem?_eq_getElem hi,List.map_append]
     rfl
   ·obtain ⟨S',rfl⟩:=p
    rw [List.length_map,List.take_length] at h'
    walk_at "vc"
    refine ⟨by decide,fun p5 H5 hp5 S5 h5=>h p5 c H5 D (qs.map fun q=>q.1 * D.fdiv q.2) (S'.trans S5) h5 (by rw [List.map_map]; exact S5 _ _ h') hc hD bD (by rw [List.length_map]) (fun i n q e1 e2=>?_) hmin⟩
    rw [List.getElem?_map,e2] at e1
    cases e1
    have hm:=List.mem_of_getElem? e2
    obtain ⟨fq,bq⟩:=hq q hm
    obtain ⟨c1,c2,c3⟩:=rT fq (hd q hm) hD bD bq.1
    exact ⟨c1,c2⟩
def eA (K:PySem.W.Frag):Sp:=fun vs H Q _=>∃ (a:Addr) (ns:List Int) (d:Int),vs = [.ref a,.int d] /\ vw K H a = some (.lst (ns.map V.int)) /\ ns.length <= 100 /\ d ≠ 0 /\ Bt 1000000 d /\
 ∀ c H' (rs:List (Int × Int)),aw (vw K H) (vw K H') -> aH (vw K H') c rs -> vw K H c = none -> ba rs -> (∀ k,cf rs k = ((nz ns k:Int):Rat) / (d:Rat)) -> rs.length <= ns.length -> (∀ q ∈ rs,∃ n ∈ ns,q = lo n d) -> Q (.ref c) H'
theorem tJ (F:cU K "divided" "divided" fW f fd) (T:dH K mg) (C_trimmed:aP P w K mg base "trimmed" ["numbers", "zero"] 1 (dG K)) (C_ratio:aP P w K mg base "ratio" ["top", "bottom"] 2 (cq K)):aV P w K mg base cV 3 f fd ["wholes", "bottom"] (eA K):=by
 have scN:=nU.nd
 refine F.okQ nU (fun vs H Q E h=>?_) (fun cdv A outer s H vs Q E hr h=>?_)
 ·obtain ⟨a,_,_,rfl,_⟩:=h
  rfl
 ·obtain ⟨a,ns,d,rfl,ha,ln,nd,bd,h⟩:=h
  obtain ⟨z_ZERO,hg_ZERO,hv_ZERO⟩:=T.g_ZERO
  refine ⟨_,(ag (ar (ah C_trimmed (hr.mono (by walk_at "a2")) rfl (aa (eh (own:=["whole"]) (outs:=["bottom"]) (ixs:=[1]) rfl (dZ (qv 0)) rfl ⟨rfl,rfl,rfl,⟨rfl,trivial⟩,rfl,⟨⟨rfl,rfl,rfl,_,rfl⟩,trivial⟩⟩ (fun _ _ _ _=>⟨(am (i:=0) (show (["whole", "bottom"]:List Str).Nodup by decide +kernel) rfl (by walk_at "a1")),gc,(ah C_ratio (hr.mono (by walk_at "a2")) rfl (aa (qv 0) (aa (qv 1) ac)))⟩)) (aa (bJ (v:=V.ref z_ZERO) rfl hg_ZERO rfl) ac))))),?_⟩
  walk_at "m"
  walk_at "vc"
  refine ⟨⟨_,.of (aO ha)⟩,fun e H1 he S1 h1=>?_⟩
  refine de (its:=ns.map V.int) (fun i zs H'=>aw (vw K H) (vw K H') /\ aF (vw K H') (((ns.take i).map fun n=>lo n d).map fr) zs)
   (fun _ _ H' _ _ p=>bY (p.1 _ _ ha)) h1 ⟨S1,.mk_nil⟩ (fun i x zs H2 hi hx h2 p=>?_) (fun zs H2 h2 p=>?_)
  ·obtain ⟨S2,rv⟩:=p
   rw [List.length_map] at hi
   rw [List.getElem?_map,List.getElem?_eq_getElem hi] at hx
   cases hx
   walk_at "vc"
   simp only [cq]
   walk_at "vc"
   refine ⟨nd,bd.mono (by decide),fun v3 H3 S3 r3=>.mk (S3 _ _ h2) ?_ fun H4 B4 h4=>⟨fun b o e'=>B4 _ _ (ak e' he) (S3 _ _ (S2 _ _ e')),?_⟩⟩
   ·rw [rv.length,List.length_map,List.length_map,List.length_take]
    have:1000 <= sizeLine:=by decide
    walk_at "o"
   ·rw [List.take_add_one,List.getElem?_eq_getElem hi,List.map_append,List.map_append]
    exact (aF.flat_but (S3 _ _ h2) B4 _ _ (dg _) (rv.same S3)).snoc (aC.flat_but (S3 _ _ h2) B4 _ _ (aY _) r3)
  ·obtain ⟨S2,rv⟩:=p
   rw [List.length_map,List.take_length] at rv
   walk_at "vc"
   simp only [dG]
   walk_at "vc"
   refine ⟨_,⟨zs,h2,rv⟩,hv_ZERO _,fun q hq=>?_,fun c H3 rs S3 l3 n3 p3 c3 e3 m3=>h c H3 rs (S2.trans S3) l3 ?_ p3 (fun k=>?_) ?_ fun q hq=>?_⟩
   ·obtain ⟨n,_,rfl⟩:=List.mem_map.mp hq
    exact fG nd
   ·cases e':vw K H c with
    | none=>rfl
    | some o=>rw [S2 _ _ e'] at n3; cases n3
   ·rw [c3 k]
    by_cases hk:k < ns.length
    ·rw [gh (List.getElem?_eq_getElem hk),aW (q:=lo ns[k] d) (by rw [List.getElem?_map,List.getElem?_eq_getElem hk]; rfl)]
     exact gg nd
    ·rw [aU (by rw [List.length_map]; walk_at "o"),gZ (by walk_at "o")]
     show 0 = ((0:Int):Rat) / (d:Rat)
     grind
   ·rw [List.length_map] at e3
    exact e3
   ·obtain ⟨n,h1,h2⟩:=List.mem_map.mp (m3 q hq)
    exact ⟨n,h1,h2.symm⟩
def mL (K:PySem.W.Frag):Sp:=fun vs H Q _=>∃ x y p q,vs = [x,y] /\ aC (vw K H) (fr p) x /\ aC (vw K H) (fr q) y /\ p.2 ≠ 0 /\ q.2 ≠ 0 /\ Bq 1000000 p /\ Bq 1000000 q /\ Bt 4000000 (p.2 * q.2) /\ ∀ v H',aw (vw K H) (vw K H') -> aC (vw K H') (fr (ki p q)) v -> Q v H'
theorem Bl (F:cU K "plus" "plus" kO f fd) (T:dH K mg) (C_ratio:aP P w K mg base "ratio" ["top", "bottom"] 2 (cq K)):aV P w K mg base cV 3 f fd ["one", "other"] (mL K):=by
 have scN:=uJ.nd
 refine F.okQ uJ (fun vs H Q E h=>?_) (fun cdv A outer s H vs Q E hr h=>?_)
 ·obtain ⟨_,_,_,_,rfl,_⟩:=h
  rfl
 ·obtain ⟨x,y,p,q,rfl,hx,hy,np,nq,bp,bq,bb,h⟩:=h
  refine ⟨_,(ag (ar (ah C_ratio (hr.mono (by walk_at "a2")) rfl (aa (ap aS (ap aL (aA bH (qv 0) ad (fun _ _=>rfl)) (aA bH (qv 1) ad (fun _ _=>rfl))) (ap aL (aA bH (qv 1) ad (fun _ _=>rfl)) (aA bH (qv 0) ad (fun _ _=>rfl)))) (aa (ap aL (aA bH (qv 0) ad (fun _ _=>rfl)) (aA bH (qv 1) ad (fun _ _=>rfl))) ac))))),?_⟩
  walk_at "m"
  obtain ⟨a,rfl,ha⟩:=hx.fr_at
  obtain ⟨b,rfl,hb⟩:=hy.fr_at
  walk_at "vc*"
  simp only [cq]
  walk_at "vc*"
  exact ⟨bU bp.1 bq.2 (by decide),bU bq.1 bp.2 (by decide),bU bp.2 bq.2 (by decide),Int.mul_ne_zero np nq,h⟩
def kz (K:PySem.W.Frag):Sp:=fun vs H Q _=>∃ x y p q,vs = [x,y] /\ aC (vw K H) (fr p) x /\ aC (vw K H) (fr q) y /\ p.2 ≠ 0 /\ q.2 ≠ 0 /\ Bq 1000000 p /\ Bq 1000000 q /\ Bt 4000000 (p.2 * q.2) /\ ∀ v H',aw (vw K H) (vw K H') -> aC (vw K H') (fr (ow p q)) v -> Q v H'
theorem xR (F:cU K "times" "times" iM f fd) (T:dH K mg) (C_ratio:aP P w K mg base "ratio" ["top", "bottom"] 2 (cq K)):aV P w K mg base cV 3 f fd ["one", "other"] (kz K):=by
 have scN:=rR.nd
 refine F.okQ rR (fun vs H Q E h=>?_) (fun cdv A outer s H vs Q E hr h=>?_)
 ·obtain ⟨_,_,_,_,rfl,_⟩:=h
  rfl
 ·obtain ⟨x,y,p,q,rfl,hx,hy,np,nq,bp,bq,bb,h⟩:=h
  refine ⟨_,(ag (ar (ah C_ratio (hr.mono (by walk_at "a2")) rfl (aa (ap aL (aA bH (qv 0) ad (fun _ _=>rfl)) (aA bH (qv 1) ad (fun _ _=>rfl))) (aa (ap aL (aA bH (qv 0) ad (fun _ _=>rfl)) (aA bH (qv 1) ad (fun _ _=>rfl))) ac))))),?_⟩
  walk_at "m"
  obtain ⟨a,rfl,ha⟩:=hx.fr_at
  obtain ⟨b,rfl,hb⟩:=hy.fr_at
  walk_at "vc*"
  simp only [cq]
  walk_at "vc*"
  exact ⟨bU bp.1 bq.1 (by decide),bU bp.2 bq.2 (by decide),Int.mul_ne_zero np nq,h⟩
def iR (K:PySem.W.Frag):Sp:=fun vs H Q _=>∃ x y p q,vs = [x,y] /\ aC (vw K H) (fr p) x /\ aC (vw K H) (fr q) y /\ p.2 ≠ 0 /\ q.2 ≠ 0 /\ q.1 ≠ 0 /\ Bq 1000000 p /\ Bq 1000000 q /\ Bt 4000000 (p.2 * q.1) /\ ∀ v H',aw (vw K H) (vw K H') -> aC (vw K H') (fr (fz p q)) v -> Q v H'
theorem BB (F:cU K "over" "over" lD f fd) (T:dH K mg) (C_ratio:aP P w K mg base "ratio" ["top", "bottom"] 2 (cq K)):aV P w K mg base cV 3 f fd ["one", "other"] (iR K):=by
 have scN:=vz.nd
 refine F.okQ vz (fun vs H Q E h=>?_) (fun cdv A outer s H vs Q E hr h=>?_)
 ·obtain ⟨_,_,_,_,rfl,_⟩:=h
  rfl
 ·obtain ⟨x,y,p,q,rfl,hx,hy,np,nq,n0,bp,bq,bb,h⟩:=h
  refine ⟨_,(af (bT (aN ik (aA bH (qv 1) ad (fun _ _=>rfl)) ad (aK _)) (ag jQ) aR)
   (ag (ar (ah C_ratio (hr.mono (by walk_at "a2")) rfl (aa (ap aL (aA bH (qv 0) ad (fun _ _=>rfl)) (aA bH (qv 1) ad (fun _ _=>rfl))) (aa (ap aL (aA bH (qv 0) ad (fun _ _=>rfl)) (aA bH (qv 1) ad (fun _ _=>rfl))) ac)))))),?_⟩
  walk_at "m"
  obtain ⟨a,rfl,ha⟩:=hx.fr_at
  obtain ⟨b,rfl,hb⟩:=hy.fr_at
  walk_at "vc*"
  simp only [cq]
  walk_at "vc*"
  exact ⟨bU bp.1 bq.2 (by decide),bU bp.2 bq.1 (by decide),Int.mul_ne_zero np n0,h⟩
def fK (K:PySem.W.Frag):Sp:=fun vs H Q _=>∃ (a:Addr) (fs:List (Int × Int)) (k:Nat),vs = [.ref a,.int k] /\ aH (vw K H) a fs /\ ∀ v q,aC (vw K H) (fr q) v -> (k < fs.length -> q ∈ fs) -> (fs.length <= k -> q = (0,1)) -> wv q = cf fs k -> Q v H
theorem qM (F:cU K "number_of" "number_of" eF f fd) (T:dH K mg):aV P w K mg base cV 1 f fd ["f", "place"] (fK K):=by
 have scN:=jS.nd
 refine F.okQ jS (fun vs H Q E h=>?_) (fun cdv A outer s H vs Q E hr h=>?_)
 ·obtain ⟨a,_,_,rfl,_⟩:=h
  rfl
 ·obtain ⟨a,fs,k,rfl,ha,h⟩:=h
  obtain ⟨z_ZERO,hg_ZERO,hv_ZERO⟩:=T.g_ZERO
  refine ⟨_,(ag (ar (sh (aN jM (qv 1) (ai aB (by rfl) T.b_len aT (aa (qv 0) ac)) (aK _)) (aA cJ (qv 0) (qv 1) (fun _ _=>rfl)) (bJ (v:=V.ref z_ZERO) rfl hg_ZERO rfl)))),?_⟩
  walk_at "m"
  walk_at "vc"
  obtain ⟨xs,hxs,rxs⟩:=id ha
  refine ⟨_,ha.len,bV (fun hk=>?_) (fun hk=>?_)⟩
  ·have hk':k < fs.length:=by walk_at "o"
   obtain ⟨x,hx,r⟩:=rxs.at (i:=k) (d:=fr fs[k]) (by rw [List.getElem?_map,List.getElem?_eq_getElem hk']; rfl)
   exact ⟨xs,hxs,x,bQ hx,h x fs[k] r (fun _=>List.getElem_mem hk') (fun z=>by walk_at "o") (aW (List.getElem?_eq_getElem hk')).symm⟩
  ·refine h _ (0,1) (aJ (hv_ZERO _)) (fun z=>by walk_at "o") (fun _=>rfl) ?_
   rw [aU (by walk_at "o"),eo (by decide)]
def fO (K:PySem.W.Frag):Sp:=fun vs H Q _=>∃ (a:Addr) (ns:List Int) (t b:Int) (W B:Nat),vs = [.ref a,.int t,.int b] /\ vw K H a = some (.lst (ns.map V.int)) /\ ns.length <= 40 /\ W <= 1000000 /\ B <= 10000 /\ (∀ n ∈ ns,Bt W n) /\ b ≠ 0 /\ Bt B t /\ Bt B b /\
 ∀ p H' (u s:Int),aw (vw K H) (vw K H') -> vw K H' p = some (.tup [.int u,.int s]) -> s ≠ 0 -> (0 < b -> 0 < s) -> (u:Rat) / (s:Rat) = Em ns ((t:Rat) / (b:Rat)) -> Bt (1 + ns.length * B) s -> Bt (W + 1 + ns.length * (B + 2)) u -> Q (.ref p) H'
theorem qy (F:cU K "wholes_at" "wholes_at" eH f fd) (T:dH K mg):aV P w K mg base cV 1 f fd ["wholes", "top", "bottom"] (fO K):=by
 have scN:=jY.nd
 refine F.okQ jY (fun vs H Q E h=>?_) (fun cdv A outer s H vs Q E hr h=>?_)
 ·obtain ⟨a,_,_,_,_,_,rfl,_⟩:=h
  rfl
 ·obtain ⟨a,ns,t,b,W,B,rfl,ha,ln,hW,hB,bn,nb,bt,bb,h⟩:=h
  refine ⟨_,(af (cF (av (aa ad (aa ad ac))) (br (n:=2) rfl (ay (am (i:=3) scN rfl (by walk_at "a1")) (ay (am (i:=4) scN rfl (by walk_at "a1")) bo))))
   (af (cr PassesOwn.never rfl (Cc rfl T.b_reversed (aa (qv 0) ac)) (am (i:=5) scN rfl (by walk_at "a1")) (af (qX (i:=4) scN rfl (by walk_at "a1") (qv 2) u8)
   (ag (az (i:=3) scN rfl (by walk_at "a1") (ap aS (ap aL (qv 3) (qv 1)) (ap aL (qv 5) (qv 4)))))))
   (ag (ar (av (aa (qv 3) (aa (qv 4) ac))))))),?_⟩
  walk_at "m"
  walk_at "vc"
  refine ⟨by decide,fun p0 H0 hp0 S0 h0=>⟨p0,rfl,_,h0,rfl,?_⟩⟩
  walk_at "vc"
  simp only [Ef]
  walk_at "vc"
  replace h:=fun p H' u s (S:aw (vw K H0) (vw K H'))=>h p H' u s (S0.trans S)
  replace ha:=S0 _ _ ha
  clear S0 hp0 h0
  refine ⟨_,ha,?_⟩
  have hLB:∀ i,i <= ns.length -> i * B <= 400000 /\ i * (B + 2) <= 400080:=fun i hi=>⟨Nat.le_trans (Nat.mul_le_mul (Nat.le_trans hi ln) hB) (by decide),Nat.le_trans (Nat.mul_le_mul (Nat.le_trans hi ln) (show B + 2 <= 10002 by walk_at "o")) (by decide)⟩
  obtain ⟨Pv,hPv⟩ : ∃ Pv:Nat -> St -> Hp -> Prop,∀ j σ H',Pv j σ H' ↔ H' = H0 /\ ∃ (u s:Int) (y:Option V),σ = [some (.ref a),some (.int t),some (.int b),some (.int u),some (.int s),y] /\ s ≠ 0 /\ (0 < b -> 0 < s) /\ (u:Rat) / (s:Rat) = Em (ns.drop (ns.length - j)) ((t:Rat) / (b:Rat)) /\ Bt (1 + j * B) s /\ Bt (W + 1 + j * (B + 2)) u:=⟨_,fun _ _ _=>Iff.rfl⟩
  refine bA (its:=(ns.map V.int).reverse) Pv (fun j σ H' _ p=>?_) ((hPv _ _ _).mpr ⟨rfl,0,1,_,rfl,by decide,fun _=>by decide,?_,?_,?_⟩) (fun j x σ H1 hj hx pv=>?_) (fun σ H1 pv=>?_)
  ·obtain ⟨rfl,_⟩:=(hPv _ _ _).mp p
   exact wC ha
  ·rw [Nat.sub_zero,List.drop_length]
   show ((0:Int):Rat) / ((1:Int):Rat) = 0
   have e0:((0:Int):Rat) = 0:=rfl
   rw [e0]
   grind
  ·rw [Nat.zero_mul]
   decide
  ·exact (show Bt 0 0 by decide).mono (by walk_at "o")
  ·obtain ⟨rfl,u,s,y,rfl,s0,sp,hv,bs,bu⟩:=(hPv _ _ _).mp pv
   simp only [List.length_reverse,List.length_map] at hj
   rw [List.getElem?_reverse (by rw [List.length_map]; exact hj),List.length_map,List.getElem?_map,List.getElem?_eq_getElem (show ns.length - 1 - j < ns.length by walk_at "o")] at hx
   cases hx
   have bw:=bn _ (List.getElem_mem (show ns.length - 1 - j < ns.length by walk_at "o"))
   have hd:=oM hj
   generalize ns[ns.length - 1 - j]'(by walk_at "o") = w at bw hd
   obtain ⟨q1,q2⟩:=hLB j (by walk_at "o")
   have hjb:j * (B + 2) = j * B + j * 2:=Nat.mul_add j B 2
   walk_at "vc"
   refine ⟨bU bs bb (by walk_at "o"),?_⟩
   have bs':=bs.mul bb
   walk_at "vc"
   refine ⟨bU bu bt (by walk_at "o"),bU bw bs' (by walk_at "o"),?_⟩
   refine (hPv _ _ _).mpr ⟨rfl,_,_,_,rfl,Int.mul_ne_zero s0 nb,fun hb0=>Int.mul_pos (sp hb0) hb0,?_,bs'.mono (by rw [Nat.add_mul]; walk_at "o"),((bu.mul bt).add (bw.mul bs')).mono (by rw [Nat.add_mul]; walk_at "o")⟩
   rw [hd]
   show _ = (w:Rat) + _ * Em (ns.drop (ns.length - j)) _
   rw [<- hv]
   have c1:=aj s0
   have c2:=aj nb
   simp only [Rat.intCast_add,Rat.intCast_mul]
   grind
  ·obtain ⟨rfl,u,s,y,rfl,s0,sp,hv,bs,bu⟩:=(hPv _ _ _).mp pv
   simp only [List.length_reverse,List.length_map,Nat.sub_self,List.drop_zero] at hv bs bu
   walk_at "vc"
   exact ⟨by decide,fun p5 H5 hp5 S5 h5=>h p5 H5 u s S5 h5 s0 sp hv bs bu⟩
def cj (K:PySem.W.Frag):Sp:=fun vs H Q _=>∃ (a:Addr) (y:V) (fs:List (Int × Int)) (c:Int × Int),vs = [.ref a,y] /\ aH (vw K H) a fs /\ aC (vw K H) (fr c) y /\ fs.length <= 8 /\ (∀ q ∈ fs,Fq q /\ Bq 20000 q) /\ Fq c /\ Bq 400 c /\
 ∀ v H' q,aw (vw K H) (vw K H') -> aC (vw K H') (fr q) v -> Fq q -> wv q = Bc fs (wv c) -> Q v H'
theorem ql (F:cU K "number_at" "number_at" eD f fd) (T:dH K mg) (C_cleared:aP P w K mg base "cleared" ["f"] 2 (cg K)) (C_wholes_at:aP P w K mg base "wholes_at" ["wholes", "top", "bottom"] 1 (fO K)) (C_ratio:aP P w K mg base "ratio" ["top", "bottom"] 2 (cq K)):aV P w K mg base cV 3 f fd ["f", "x"] (cj K):=by
 have scN:=kj.nd
 refine F.okQ kj (fun vs H Q E h=>?_) (fun cdv A outer s H vs Q E hr h=>?_)
 ·obtain ⟨a,_,_,_,rfl,_⟩:=h
  rfl
 ·obtain ⟨a,y,fs,c,rfl,ha,hy,lf,hf,fc,bc,h⟩:=h
  refine ⟨_,(af (cF (ah C_cleared (hr.mono (by walk_at "a2")) rfl (aa (qv 0) ac)) (br (n:=2) rfl (ay (am (i:=2) scN rfl (by walk_at "a1")) (ay (am (i:=3) scN rfl (by walk_at "a1")) bo))))
   (af (cF (ah C_wholes_at (hr.mono (by walk_at "a2")) rfl (aa (qv 2) (aa (aA bH (qv 1) ad (fun _ _=>rfl)) (aa (aA bH (qv 1) ad (fun _ _=>rfl)) ac)))) (br (n:=2) rfl (ay (am (i:=4) scN rfl (by walk_at "a1")) (ay (am (i:=5) scN rfl (by walk_at "a1")) bo))))
   (ag (ar (ah C_ratio (hr.mono (by walk_at "a2")) rfl (aa (qv 4) (aa (ap aL (qv 3) (qv 5)) ac))))))),?_⟩
  walk_at "m"
  obtain ⟨z,rfl,hz⟩:=hy.fr_at
  walk_at "vc"
  simp only [cg]
  walk_at "vc"
  refine ⟨fs,ha,by walk_at "o",20000,by decide,hf,fun p1 b1 H1 D ns S1 h1 hb1 _ hD bD ln hn _=>⟨_,h1,rfl,_,_,rfl,_,_,rfl,rfl,_,S1 _ _ hz,_,fE,_,S1 _ _ hz,_,ij,?_⟩⟩
  simp only [fO]
  walk_at "vc"
  refine ⟨ns,hb1,by walk_at "o",180001,by decide,400,by decide,fun n hn'=>?_,fc.ne,bc.1,bc.2,fun p2 H2 u s S2 h2 s0 sp hv bs bu=>⟨_,h2,rfl,_,_,rfl,_,_,rfl,rfl,?_⟩⟩
  ·obtain ⟨i,hi⟩:=List.mem_iff_getElem?.mp hn'
   have hil:=(List.getElem?_eq_some_iff.mp hi).1
   exact (hn i n _ hi (List.getElem?_eq_getElem (show i < fs.length by walk_at "o"))).2.mono (by walk_at "o")
  walk_at "vc"
  refine ⟨bU bD bs (by walk_at "o"),?_⟩
  simp only [cq]
  walk_at "vc"
  have hD0:D ≠ 0:=by walk_at "o"
  have nz:D * s ≠ 0:=Int.mul_ne_zero hD0 s0
  refine ⟨nz,(bD.mul bs).mono (by walk_at "o"),fun v H3 S3 r3=>h v H3 _ (S1.trans (S2.trans S3)) r3 (fG nz) ?_⟩
  have ec:=sD (D:=(D:Rat)) (x:=(c.1:Rat) / (c.2:Rat)) ln fun i n q e1 e2=>(hn i n q e1 e2).1
  rw [ec] at hv
  have c1:=aj hD0
  have c2:=aj s0
  rw [gg nz,Rat.intCast_mul]
  show _ = Bc fs ((c.1:Rat) / (c.2:Rat))
  grind
def gR (K:PySem.W.Frag):Sp:=fun vs H Q _=>∃ (a:Addr) (y:V) (fs:List (Int × Int)) (c:Int × Int),vs = [.ref a,y] /\ aH (vw K H) a fs /\ aC (vw K H) (fr c) y /\ fs.length <= 40 /\ (∀ q ∈ fs,Fq q /\ Bq 100000 q) /\ Fq c /\ Bq 100000 c /\
 ∀ d H' (rs:List (Int × Int)),aw (vw K H) (vw K H') -> aH (vw K H') d rs -> vw K H d = none -> ba rs -> (∀ k,cf rs k = cf fs k * wv c) -> rs.length <= fs.length -> Q (.ref d) H'
theorem xQ (F:cU K "grown" "grown" i0 f fd) (T:dH K mg) (C_trimmed:aP P w K mg base "trimmed" ["numbers", "zero"] 1 (dG K)) (C_times:aP P w K mg base "times" ["one", "other"] 3 (kz K)):aV P w K mg base cV 4 f fd ["f", "by"] (gR K):=by
 have scN:=ss.nd
 refine F.okQ ss (fun vs H Q E h=>?_) (fun cdv A outer s H vs Q E hr h=>?_)
 ·obtain ⟨a,_,_,_,rfl,_⟩:=h
  rfl
 ·obtain ⟨a,y,fs,c,rfl,ha,hy,lf,hf,fc,bc,h⟩:=h
  obtain ⟨z_ZERO,hg_ZERO,hv_ZERO⟩:=T.g_ZERO
  refine ⟨_,(ag (ar (ah C_trimmed (hr.mono (by walk_at "a2")) rfl (aa (eh (own:=["number"]) (outs:=["by"]) (ixs:=[1]) rfl (dZ (qv 0)) rfl ⟨rfl,rfl,rfl,⟨rfl,trivial⟩,rfl,⟨⟨rfl,rfl,rfl,_,rfl⟩,trivial⟩⟩ (fun _ _ _ _=>⟨(am (i:=0) (show (["number", "by"]:List Str).Nodup by decide +kernel) rfl (by walk_at "a1")),gc,(ah C_times (hr.mono (by walk_at "a2")) rfl (aa (qv 0) (aa (qv 1) ac)))⟩)) (aa (bJ (v:=V.ref z_ZERO) rfl hg_ZERO rfl) ac))))),?_⟩
  walk_at "m"
  walk_at "vc"
  obtain ⟨xs,hxs,rxs⟩:=id ha
  have hlx:xs.length = fs.length:=by rw [rxs.length,List.length_map]
  refine ⟨⟨xs,.of (aO hxs)⟩,fun d H1 hd S1 h1=>?_⟩
  refine de (its:=xs) (fun i zs H'=>aw (vw K H) (vw K H') /\ ∃ vs:List (Int × Int),vs.length = i /\ aF (vw K H') (vs.map fr) zs /\ (∀ q ∈ vs,Fq q) /\ ∀ (j:Nat) (q:Int × Int),vs[j]? = some q -> wv q = cf fs j * wv c)
   (fun _ _ H' _ _ p=>bY (p.1 _ _ hxs)) h1 ⟨S1,[],rfl,.mk_nil,by simp,by simp⟩ (fun i x zs H2 hi hx h2 p=>?_) (fun zs H2 h2 p=>?_)
  ·obtain ⟨S2,vs,lv,rv,fv,hv⟩:=p
   have hi':i < fs.length:=by walk_at "o"
   obtain ⟨dd,e1,r1⟩:=rxs.get hx
   rw [List.getElem?_map,List.getElem?_eq_getElem hi'] at e1
   cases e1
   obtain ⟨k1,k2⟩:=hf fs[i] (List.getElem_mem hi')
   walk_at "vc"
   simp only [kz]
   walk_at "vc"
   refine ⟨_,aC.same S2 _ _ r1,c,aC.same S2 _ _ hy,k1.ne,fc.ne,k2.mono (by decide),bc.mono (by decide),(k2.2.mul bc.2).mono (by decide),fun v3 H3 S3 r3=>.mk (S3 _ _ h2) ?_ fun H4 B4 h4=>⟨fun b o e=>B4 _ _ (ak e hd) (S3 _ _ (S2 _ _ e)),vs ++ [ow fs[i] c],by simp [lv],?_,fun q hq=>?_,fun j q e=>?_⟩⟩
   ·rw [rv.length,List.length_map,lv]
    have:1000 <= sizeLine:=by decide
    walk_at "o"
   ·rw [List.map_append]
    exact (aF.flat_but (S3 _ _ h2) B4 _ _ (dg vs) (rv.same S3)).snoc (aC.flat_but (S3 _ _ h2) B4 _ _ (aY _) r3)
   ·rcases List.mem_append.mp hq with z | z
    ·exact fv q z
    ·cases List.mem_singleton.mp z
     exact iO k1 fc
   ·by_cases hj:j < vs.length
    ·rw [List.getElem?_append_left hj] at e
     exact hv j q e
    ·have hj2:j = i:=by
      have:=(List.getElem?_eq_some_iff.mp e).1
      simp at this
      walk_at "o"
     subst hj2
     rw [List.getElem?_append_right (by walk_at "o"),lv,Nat.sub_self] at e
     cases e
     rw [kI k1.ne fc.ne,aW (List.getElem?_eq_getElem hi')]
  ·obtain ⟨S2,vs,lv,rv,fv,hv⟩:=p
   walk_at "vc"
   simp only [dG]
   walk_at "vc"
   refine ⟨vs,⟨zs,h2,rv⟩,hv_ZERO _,fv,fun e H3 rs S3 l3 n3 p3 c3 e3 _=>h e H3 rs (S2.trans S3) l3 ?_ p3 (fun k=>?_) (by walk_at "o")⟩
   ·cases e':vw K H e with
    | none=>rfl
    | some o=>rw [S2 _ _ e'] at n3; cases n3
   ·rw [c3 k]
    by_cases hk:k < vs.length
    ·rw [aW (List.getElem?_eq_getElem hk)]
     exact hv k _ (List.getElem?_eq_getElem hk)
    ·rw [aU (by walk_at "o"),aU (qs:=fs) (by walk_at "o")]
     grind
def iZ (K:PySem.W.Frag):Sp:=fun vs H Q _=>∃ (a b:Addr) (fs gs:List (Int × Int)),vs = [.ref a,.ref b] /\ aH (vw K H) a fs /\ aH (vw K H) b gs /\ fs.length <= 40 /\ gs.length <= 40 /\ (∀ q ∈ fs,Fq q /\ Bq 100000 q) /\ (∀ q ∈ gs,Fq q /\ Bq 100000 q) /\
 ∀ c H' (rs:List (Int × Int)),aw (vw K H) (vw K H') -> aH (vw K H') c rs -> vw K H c = none -> ba rs -> (∀ k,cf rs k = cf fs k + cf gs k) -> rs.length <= max fs.length gs.length -> Q (.ref c) H'
theorem vV (F:cU K "summed" "summed" gJ f fd) (T:dH K mg) (C_trimmed:aP P w K mg base "trimmed" ["numbers", "zero"] 1 (dG K)) (C_plus:aP P w K mg base "plus" ["one", "other"] 3 (mL K)) (C_number_of:aP P w K mg base "number_of" ["f", "place"] 1 (fK K)):aV P w K mg base cV 4 f fd ["f", "g"] (iZ K):=by
 have scN:=o0.nd
 refine F.okQ o0 (fun vs H Q E h=>?_) (fun cdv A outer s H vs Q E hr h=>?_)
 ·obtain ⟨a,_,_,_,rfl,_⟩:=h
  rfl
 ·obtain ⟨a,b,fs,gs,rfl,ha,hb,lf,lg',hf,hg,h⟩:=h
  obtain ⟨z_ZERO,hg_ZERO,hv_ZERO⟩:=T.g_ZERO
  refine ⟨_,(af (az (i:=2) scN rfl (by walk_at "a1") (ai (lK rfl) (by rfl) T.b_max sO (aa (ai aB (by rfl) T.b_len aT (aa (qv 0) ac)) (aa (ai aB (by rfl) T.b_len aT (aa (qv 1) ac)) ac))))
   (ag (ar (ah C_trimmed (hr.mono (by walk_at "a2")) rfl (aa (eh (own:=["k"]) (outs:=["f", "g"]) (ixs:=[0,1]) rfl (bZ rfl T.b_range (aa (qv 2) ac)) rfl ⟨rfl,rfl,rfl,⟨rfl,⟨rfl,trivial⟩⟩,rfl,⟨⟨rfl,rfl,rfl,_,rfl⟩,⟨⟨rfl,rfl,rfl,_,rfl⟩,trivial⟩⟩⟩ (fun _ _ _ _=>⟨(am (i:=0) (show (["k", "f", "g"]:List Str).Nodup by decide +kernel) rfl (by walk_at "a1")),gc,(ah C_plus (hr.mono (by walk_at "a2")) rfl (aa (ah C_number_of (hr.mono (by walk_at "a2")) rfl (aa (qv 1) (aa (qv 0) ac))) (aa (ah C_number_of (hr.mono (by walk_at "a2")) rfl (aa (qv 2) (aa (qv 0) ac))) ac)))⟩)) (aa (bJ (v:=V.ref z_ZERO) rfl hg_ZERO rfl) ac)))))),?_⟩
  walk_at "m"
  walk_at "vc"
  refine ⟨_,ha.len,_,hb.len,?_⟩
  obtain ⟨n,hn,hnm⟩ : ∃ n:Nat,(if (gs.length:Int) > (fs.length:Int) then (gs.length:Int) else (fs.length:Int)) = (n:Int) /\ n = max fs.length gs.length:=by
   refine ⟨max fs.length gs.length,?_,rfl⟩
   split <;> walk_at "o"
  rw [hn]
  refine ⟨by walk_at "o",by walk_at "o",fun c H1 hc S1 h1=>?_⟩
  refine de (its:=fm 0 (Int.toNat n)) (fun i zs H'=>aw (vw K H) (vw K H') /\ ∃ vs:List (Int × Int),vs.length = i /\ aF (vw K H') (vs.map fr) zs /\ (∀ q ∈ vs,Fq q) /\ ∀ (j:Nat) (q:Int × Int),vs[j]? = some q -> wv q = cf fs j + cf gs j)
   (fun _ _ _ _ _ _=>bh) h1 ⟨S1,[],rfl,.mk_nil,by simp,by simp⟩ (fun i x zs H2 hi hx h2 p=>?_) (fun zs H2 h2 p=>?_)
  ·obtain ⟨S2,vs,lv,rv,fv,hv⟩:=p
   obtain ⟨hi',rfl⟩:=dY hx
   rw [Int.zero_add]
   walk_at "vc"
   simp only [fK]
   walk_at "vc"
   refine ⟨fs,i,rfl,ha.same S2,fun v1 q1 r1 m1 z1 w1=>?_⟩
   refine ⟨gs,i,rfl,hb.same S2,fun v2 q2 r2 m2 z2 w2=>?_⟩
   have k1:Fq q1 /\ Bq 100000 q1:=by
    by_cases hl:i < fs.length
    ·exact hf q1 (m1 hl)
    ·rw [z1 (by walk_at "o")]
     exact ⟨⟨by decide,by decide⟩,Bq.mono (m:=10) (q:=(0,1)) ⟨by decide,by decide⟩ (by decide)⟩
   have k2:Fq q2 /\ Bq 100000 q2:=by
    by_cases hl:i < gs.length
    ·exact hg q2 (m2 hl)
    ·rw [z2 (by walk_at "o")]
     exact ⟨⟨by decide,by decide⟩,Bq.mono (m:=10) (q:=(0,1)) ⟨by decide,by decide⟩ (by decide)⟩
   simp only [mL]
   walk_at "vc"
   refine ⟨q1,r1,q2,r2,k1.1.ne,k2.1.ne,k1.2.mono (by decide),k2.2.mono (by decide),(k1.2.2.mul k2.2.2).mono (by decide),fun v3 H3 S3 r3=>.mk (S3 _ _ h2) ?_ fun H4 B4 h4=>⟨fun b o e=>B4 _ _ (ak e hc) (S3 _ _ (S2 _ _ e)),vs ++ [ki q1 q2],by simp [lv],?_,fun q hq=>?_,fun j q e=>?_⟩⟩
   ·rw [rv.length,List.length_map,lv]
    have:1000 <= sizeLine:=by decide
    walk_at "o"
   ·rw [List.map_append]
    exact (aF.flat_but (S3 _ _ h2) B4 _ _ (dg vs) (rv.same S3)).snoc (aC.flat_but (S3 _ _ h2) B4 _ _ (aY _) r3)
   ·rcases List.mem_append.mp hq with z | z
    ·exact fv q z
    ·cases List.mem_singleton.mp z
     exact fM k1.1 k2.1
   ·by_cases hj:j < vs.length
    ·rw [List.getElem?_append_left hj] at e
     exact hv j q e
    ·have hj2:j = i:=by
      have:=(List.getElem?_eq_some_iff.mp e).1
      simp at this
      walk_at "o"
     subst hj2
     rw [List.getElem?_append_right (by walk_at "o"),lv,Nat.sub_self] at e
     cases e
     rw [iD k1.1.ne k2.1.ne,w1,w2]
  ·obtain ⟨S2,vs,lv,rv,fv,hv⟩:=p
   rw [ci] at lv
   walk_at "vc"
   simp only [dG]
   walk_at "vc"
   refine ⟨vs,⟨zs,h2,rv⟩,hv_ZERO _,fv,fun d H3 rs S3 l3 n3 p3 c3 e3 _=>h d H3 rs (S2.trans S3) l3 ?_ p3 (fun k=>?_) (by walk_at "o")⟩
   ·cases e:vw K H d with
    | none=>rfl
    | some o=>rw [S2 _ _ e] at n3; cases n3
   ·rw [c3 k]
    by_cases hk:k < vs.length
    ·rw [aW (List.getElem?_eq_getElem hk)]
     exact hv k _ (List.getElem?_eq_getElem hk)
    ·rw [aU (by walk_at "o"),aU (qs:=fs) (by walk_at "o"),aU (qs:=gs) (by walk_at "o")]
     grind
def fV (K:PySem.W.Frag):Sp:=fun vs H Q _=>∃ a b:Int,vs = [.int a,.int b] /\ Q (.int (Int.gcd a b)) H
theorem vK (F:cU K "_law_divisor" "_law_divisor" fT f fd) (T:dH K mg):aV P w K mg base cV 1 f fd ["_law_one", "_law_other"] (fV K):=by
 have scN:=pA.nd
 refine F.okQ pA (fun vs H Q E h=>?_) (fun cdv A outer s H vs Q E hr h=>?_)
 ·obtain ⟨a,b,rfl,_⟩:=h
  rfl
 ·obtain ⟨a,b,rfl,h⟩:=h
  refine ⟨_,(af (gL PassesOwn.never (aN rN (qv 1) ad (aK _)) (ag (tK (i:=0) (j:=1) rfl scN rfl rfl (by decide) rfl rfl (aa (qv 1) (aa (ap gl (qv 0) (qv 1)) ac)) rfl)))
   (ag (ar (ai nZ (by rfl) T.b_abs sY (aa (qv 0) ac))))),?_⟩
  walk_at "m"
  walk_at "vc"
  refine ⟨fun m σ H'=>H' = H /\ ∃ x y:Int,σ = [some (.int x),some (.int y)] /\ Int.gcd x y = Int.gcd a b /\ m = y.natAbs,⟨_,rfl,_,_,rfl,rfl,rfl⟩,?_⟩
  rintro m σ H' ⟨rfl,x,y,rfl,hg,rfl⟩
  walk_at "vc"
  refine bV (fun hy0=>?_) (fun hy0=>?_)
  ·refine ⟨_,fun σ' H' h=>h,?_⟩
   walk_at "vc"
   exact ⟨hy0,_,uN x hy0,by rw [rK,hg],rfl⟩
  ·walk_at "vc"
   have e:((Int.gcd a b:Nat):Int) = if x < 0 then -x else x:=by
    rw [<- hg,show y = 0 by walk_at "o"]
    simp
    split <;> walk_at "o"
   rw [<- e]
   exact h
def gp (K:PySem.W.Frag):Sp:=fun vs H Q _=>∃ a b:Int,vs = [.int a,.int b] /\ b ≠ 0 /\ b.natAbs < 2 ^ 4000000 /\ ∀ v H',aw (vw K H) (vw K H') -> aC (vw K H') (fr (lo a b)) v -> Q v H'
theorem E7 (F:cU K "_law_low" "_law_low" pF f fd) (T:dH K mg) (N_:vX P base) (zCdivisor:aP P w K mg base "_law_divisor" ["_law_one", "_law_other"] 1 (fV K)):aV P w K mg base cV 2 f fd ["_law_top", "_law_bottom"] (gp K):=by
 have scN:=BZ.nd
 refine F.okQ BZ (fun vs H Q E h=>?_) (fun cdv A outer s H vs Q E hr h=>?_)
 ·obtain ⟨a,b,rfl,_⟩:=h
  rfl
 ·obtain ⟨a,b,rfl,hb,hbb,h⟩:=h
  refine ⟨_,(af (az (i:=2) scN rfl (by walk_at "a1") (ah zCdivisor (hr.mono (by walk_at "a2")) rfl (aa (qv 0) (aa (qv 1) ac))))
   (af (bT (aN jM (qv 1) ad (aK _)) (ag (az (i:=2) scN rfl (by walk_at "a1") (ap cZ ad (qv 2)))) aR)
   (ag (ar (av (aa (ap (iG N_ hr rfl rfl rfl) (qv 0) (qv 2)) (aa (ap (iG N_ hr rfl rfl rfl) (qv 1) (qv 2)) ac))))))),?_⟩
  walk_at "m"
  walk_at "vc"
  simp only [fV]
  walk_at "vc"
  have hgn:Int.gcd a b ≠ 0:=fun e=>hb (Int.gcd_eq_zero_iff.mp e).2
  have e1:lg a b = if b < 0 then 0 - (Int.gcd a b:Int) else (Int.gcd a b:Int):=by
   unfold lg
   split <;> walk_at "o"
  have d1:yr a (0 - (Int.gcd a b:Int)):=by unfold yr; walk_at "o"
  have d2:yr a (Int.gcd a b:Int):=by unfold yr; walk_at "o"
  refine bV (fun hn=>?_) (fun hn=>?_)
  ·rw [if_pos hn] at e1
   refine ⟨d1,d1,by decide,fun p H2 hp S hp2=>?_⟩
   refine h _ H2 S ?_
   rw [<- e1] at hp2
   simp only [fr,lo,aC,aF]
   exact ⟨p,_,rfl,hp2,_,_,rfl,rfl,_,_,rfl,rfl,rfl⟩
  ·rw [if_neg hn] at e1
   refine ⟨d2,d2,by decide,fun p H2 hp S hp2=>?_⟩
   refine h _ H2 S ?_
   rw [<- e1] at hp2
   simp only [fr,lo,aC,aF]
   exact ⟨p,_,rfl,hp2,_,_,rfl,rfl,_,_,rfl,rfl,rfl⟩
def iV (K:PySem.W.Frag):Sp:=fun vs H Q _=>∃ (a:Addr) (ns:List Int) (k:Nat),vs = [.ref a,.int k] /\ jw K H a (ns.map V.int) /\ ∀ x:Int,Q (.int x) H
theorem wE (F:cU K "_law_cell_at" "_law_cell_at" fQ f fd) (T:dH K mg):aV P w K mg base cV 1 f fd ["_law_script", "_law_k"] (iV K):=by
 have scN:=oZ.nd
 refine F.okQ oZ (fun vs H Q E h=>?_) (fun cdv A outer s H vs Q E hr h=>?_)
 ·obtain ⟨a,ns,k,rfl,_⟩:=h
  rfl
 ·obtain ⟨a,ns,k,rfl,hS,h⟩:=h
  refine ⟨_,(af (bT (aN jM (qv 1) (ai gW (by rfl) T.b_len aT (aa (qv 0) ac)) (aK _)) (ag (ar (aA u4 (qv 0) (qv 1) (fun _ _=>rfl)))) aR)
   (ag (ar ad))),?_⟩
  walk_at "m"
  walk_at "vc"
  refine ⟨_,.inl hS.sq,bV (fun hk=>?_) (fun hk=>h 0)⟩
  simp only [List.length_map] at hk
  have hk':k < ns.length:=by walk_at "o"
  exact ⟨_,hS.sq,_,bQ (by rw [List.getElem?_map,List.getElem?_eq_getElem hk']; rfl),h _⟩
def mx (K:PySem.W.Frag):Sp:=fun vs H Q _=>∃ (a:Addr) (ns:List Int) (k:Nat),vs = [.ref a,.int k] /\ jw K H a (ns.map V.int) /\ ∀ st H',vw K H st = none -> aw (vw K H) (vw K H') -> cE (vw K H') st -> Q (.ref st) H'
theorem As (F:cU K "_law_state" "_law_state" i3 f fd) (T:dH K mg) (zCcell_at:aP P w K mg base "_law_cell_at" ["_law_script", "_law_k"] 1 (iV K)):aV P w K mg base cV 2 f fd ["_law_script", "_law_k"] (mx K):=by
 have scN:=ue.nd
 refine F.okQ ue (fun vs H Q E h=>?_) (fun cdv A outer s H vs Q E hr h=>?_)
 ·obtain ⟨a,ns,k,rfl,_⟩:=h
  rfl
 ·obtain ⟨a,ns,k,rfl,hS,h⟩:=h
  refine ⟨_,(af (az (i:=2) scN rfl (by walk_at "a1") (ah zCcell_at (hr.mono (by walk_at "a2")) rfl (aa (qv 0) (aa (qv 1) ac))))
   (af (bT (aN E3 (qv 2) (ap yH ad ad) (aK _)) (ag (ar (aD (aa (ap cZ (qv 2) (ap yH ad ad)) (aa fH ac))))) aR)
   (ag (ar (aD (aa (ap gl (qv 2) ad) (aa fH ac))))))),?_⟩
  walk_at "m"
  walk_at "vc"
  simp only [iV]
  walk_at "vc"
  refine ⟨⟨k,rfl⟩,⟨ns,hS⟩,fun x=>⟨ui (by decide),bV (fun hx=>⟨ui (by decide),by decide,fun p H2 hp S hp2=>h p H2 hp S ⟨_,_,hp2,fun z=>by cases z⟩⟩) (fun hx=>⟨by decide,by decide,fun p H2 hp S hp2=>h p H2 hp S ⟨_,_,hp2,fun _=>?_⟩⟩)⟩⟩
  exact ⟨Int.fmod_nonneg_of_pos x (by decide),Int.fmod_lt_of_pos x (by decide)⟩
def dD (K:PySem.W.Frag):Sp:=fun vs H Q _=>∃ (st:Addr) (m:Int),vs = [.ref st,.int m] /\ cE (vw K H) st /\ 0 < m /\ m <= 2147483587 /\ ∀ r H',0 <= r -> r < m -> dI st (vw K H) (vw K H') -> cE (vw K H') st -> Q (.int r) H'
theorem D7 (F:cU K "_law_take" "_law_take" lE f fd) (T:dH K mg):aV P w K mg base cV 1 f fd ["_law_state_here", "_law_many"] (dD K):=by
 have scN:=xM.nd
 refine F.okQ xM (fun vs H Q E h=>?_) (fun cdv A outer s H vs Q E hr h=>?_)
 ·obtain ⟨a,ns,rfl,_⟩:=h
  rfl
 ·obtain ⟨st,m,rfl,⟨x,b,hst,hx⟩,hm,hm2,h⟩:=h
  refine ⟨_,(af (bT (iJ (aA cJ (qv 0) ad (fun _ _=>rfl)) (fun _=>rfl)) (af (az (i:=2) scN rfl (by walk_at "a1") (ap gl (aA cJ (qv 0) ad (fun _ _=>rfl)) (qv 1)))
   (af (cF (ap nI (aA cJ (qv 0) ad (fun _ _=>rfl)) (qv 1)) (nS (qv 0) ad eJ))
   (ag (ar (qv 2))))) aR)
   (af (cF (ap gl (ap aS (ap aL (aA cJ (qv 0) ad (fun _ _=>rfl)) ad) ad) ad) (nS (qv 0) ad eJ))
   (af (az (i:=3) scN rfl (by walk_at "a1") (ap gl (ap aS (ap aS (ap aL (aA cJ (qv 0) ad (fun _ _=>rfl)) (aA cJ (qv 0) ad (fun _ _=>rfl))) (ap aL ad (aA cJ (qv 0) ad (fun _ _=>rfl)))) ad) ad))
   (af (az (i:=3) scN rfl (by walk_at "a1") (ap gl (ap aS (ap aL (qv 3) (qv 3)) (ap aL ad (qv 3))) ad))
   (ag (ar (ap gl (ap nI (qv 3) ad) (qv 1)))))))),?_⟩
  walk_at "m"
  have hm0:m ≠ 0:=by walk_at "o"
  cases b with
  | true =>
   walk_at "vc*"
   refine ⟨Dv hm0 (by unfold Bt; walk_at "o"),fun H2 B h2=>h _ _ (Int.fmod_nonneg_of_pos x hm) (Int.fmod_lt_of_pos x hm) B ⟨_,_,h2,fun z=>by cases z⟩⟩
  | false =>
   walk_at "vc*"
   refine ⟨zK (by decide),by decide,fun H2 B h2=>?_⟩
   have b1:Bt 31 ((x * 48271 + 29).fmod 2147483647):=t8 (by decide) (by decide)
   have b3:0 <= (x * 48271 + 29).fmod 2147483647 /\ (x * 48271 + 29).fmod 2147483647 < 2147483647:=⟨Int.fmod_nonneg_of_pos _ (by decide),Int.fmod_lt_of_pos _ (by decide)⟩
   generalize (x * 48271 + 29).fmod 2147483647 = y at *
   walk_at "vc*"
   have b2:Bt 31 ((y * y + 39373 * y + 7).fmod 2147483629):=t8 (by decide) (by decide)
   generalize e2:(y * y + 39373 * y + 7).fmod 2147483629 = z at *
   refine ⟨eT (b1.mono (by decide)),eT (by decide),by decide,eT (b2.mono (by decide)),eT (by decide),by decide,Dv (by decide) (by decide),?_⟩
   exact h _ _ (Int.fmod_nonneg_of_pos _ hm) (Int.fmod_lt_of_pos _ hm) B ⟨_,_,h2,fun _=>b3⟩
def dA (K:PySem.W.Frag):Sp:=fun vs H Q _=>∃ st:Addr,vs = [.ref st] /\ cE (vw K H) st /\ ∀ v H' q,dI st (vw K H) (vw K H') -> cE (vw K H') st -> aC (vw K H') (fr q) v -> Fq q -> Bt 10 q.1 -> Bt 10 q.2 -> Sx 36 q -> Q v H'
theorem zJ (F:cU K "_law_small" "_law_small" i9 f fd) (T:dH K mg) (zClow:aP P w K mg base "_law_low" ["_law_top", "_law_bottom"] 2 (gp K))
  (zCtake:aP P w K mg base "_law_take" ["_law_state_here", "_law_many"] 1 (dD K)):aV P w K mg base cV 3 f fd ["_law_state_here"] (dA K):=by
 have scN:=uj.nd
 refine F.okQ uj (fun vs H Q E h=>?_) (fun cdv A outer s H vs Q E hr h=>?_)
 ·obtain ⟨a,rfl,_⟩:=h
  rfl
 ·obtain ⟨st,rfl,hst,h⟩:=h
  refine ⟨_,(ag (ar (ah zClow (hr.mono (by walk_at "a2")) rfl (aa (ap cZ (ah zCtake (hr.mono (by walk_at "a2")) rfl (aa (qv 0) (aa ad ac))) ad) (aa (ap aS ad (aA cJ (aD (aa ad (aa ad (aa (ah zCtake (hr.mono (by walk_at "a2")) rfl (aa (qv 0) (aa ad ac))) ac)))) (ah zCtake (hr.mono (by walk_at "a2")) rfl (aa (qv 0) (aa ad ac))) (fun _ _=>rfl))) ac))))),?_⟩
  walk_at "m"
  walk_at "vc"
  simp only [dD,gp]
  walk_at "vc"
  refine ⟨hst,by decide,by decide,fun r1 H1 r10 r11 B1 S1=>⟨S1,by decide,by decide,fun r2 H2 r20 r21 B2 S2=>⟨by decide,?_⟩⟩⟩
  intro p H3 hp S3 h3
  refine ⟨S2.same S3,by decide,by decide,fun r4 H4 r40 r41 B4 S4=>?_⟩
  have h4:=B4 _ _ (S2.ne hp) h3
  obtain ⟨v,hv,hm⟩:=jX (xs:=[V.int 0,V.int 0,V.int r2]) r40 (by simpa using r41)
  obtain ⟨z,rfl,hz0,hz1⟩ : ∃ z,v = .int z /\ 0 <= z /\ z < 3:=by
   simp only [List.mem_cons,List.not_mem_nil,or_false] at hm
   rcases hm with rfl | rfl | rfl
   ·exact ⟨0,rfl,by decide,by decide⟩
   ·exact ⟨0,rfl,by decide,by decide⟩
   ·exact ⟨r2,rfl,r20,r21⟩
  walk_at "vc"
  refine ⟨_,h4,_,hv,?_⟩
  walk_at "vc"
  have hz:1 + z ≠ 0:=by walk_at "o"
  have hb:(1 + z).natAbs < 2 ^ 10:=by walk_at "o"
  refine ⟨hz,Nat.lt_of_lt_of_le hb (Nat.pow_le_pow_right (by decide) (by decide)),fun v H5 S5 r5=>?_⟩
  have q2:=eS (a:=r1 - 6) hz
  have q1:=eI (a:=r1 - 6) hz
  have hl:lg (r1 - 6) (1 + z) ≠ 0:=yp hz
  refine h v H5 _ (((B1.trans B2).same_trans S3).trans (B4.same_trans S5)) (S4.same S5) r5 (fG hz) ?_ ?_ (Sx.lo hz0 hz1 (by walk_at "o"))
  ·unfold Bt
   have:=Int.natAbs_mul (lo (r1 - 6) (1 + z)).1 (lg (r1 - 6) (1 + z))
   rw [q1] at this
   have:=Nat.le_mul_of_pos_right (lo (r1 - 6) (1 + z)).1.natAbs (show 0 < (lg (r1 - 6) (1 + z)).natAbs by walk_at "o")
   walk_at "o"
  ·unfold Bt
   have:=Int.natAbs_mul (lo (r1 - 6) (1 + z)).2 (lg (r1 - 6) (1 + z))
   rw [q2] at this
   have:=Nat.le_mul_of_pos_right (lo (r1 - 6) (1 + z)).2.natAbs (show 0 < (lg (r1 - 6) (1 + z)).natAbs by walk_at "o")
   walk_at "o"
def jg (K:PySem.W.Frag):Sp:=fun vs H Q _=>∃ st:Addr,vs = [.ref st] /\ cE (vw K H) st /\ ∀ v H' q,dI st (vw K H) (vw K H') -> cE (vw K H') st -> aC (vw K H') (fr q) v -> Fq q -> 0 < q.1 -> Bq 10 q -> Sx 36 q -> Q v H'
theorem A2 (F:cU K "_law_above" "_law_above" iT f fd) (T:dH K mg) (zClow:aP P w K mg base "_law_low" ["_law_top", "_law_bottom"] 2 (gp K))
  (zCtake:aP P w K mg base "_law_take" ["_law_state_here", "_law_many"] 1 (dD K)):aV P w K mg base cV 3 f fd ["_law_state_here"] (jg K):=by
 have scN:=uD.nd
 refine F.okQ uD (fun vs H Q E h=>?_) (fun cdv A outer s H vs Q E hr h=>?_)
 ·obtain ⟨a,rfl,_⟩:=h
  rfl
 ·obtain ⟨st,rfl,hst,h⟩:=h
  refine ⟨_,(ag (ar (ah zClow (hr.mono (by walk_at "a2")) rfl (aa (ap aS ad (ah zCtake (hr.mono (by walk_at "a2")) rfl (aa (qv 0) (aa ad ac)))) (aa (ap aS ad (aA cJ (aD (aa ad (aa ad (aa (ah zCtake (hr.mono (by walk_at "a2")) rfl (aa (qv 0) (aa ad ac))) ac)))) (ah zCtake (hr.mono (by walk_at "a2")) rfl (aa (qv 0) (aa ad ac))) (fun _ _=>rfl))) ac))))),?_⟩
  walk_at "m"
  walk_at "vc"
  simp only [dD,gp]
  walk_at "vc"
  refine ⟨hst,by decide,by decide,fun r1 H1 r10 r11 B1 S1=>⟨S1,by decide,by decide,fun r2 H2 r20 r21 B2 S2=>⟨by decide,?_⟩⟩⟩
  intro p H3 hp S3 h3
  refine ⟨S2.same S3,by decide,by decide,fun r4 H4 r40 r41 B4 S4=>?_⟩
  have h4:=B4 _ _ (S2.ne hp) h3
  obtain ⟨v,hv,hm⟩:=jX (xs:=[V.int 0,V.int 0,V.int r2]) r40 (by simpa using r41)
  obtain ⟨z,rfl,hz0,hz1⟩ : ∃ z,v = .int z /\ 0 <= z /\ z < 3:=by
   simp only [List.mem_cons,List.not_mem_nil,or_false] at hm
   rcases hm with rfl | rfl | rfl
   ·exact ⟨0,rfl,by decide,by decide⟩
   ·exact ⟨0,rfl,by decide,by decide⟩
   ·exact ⟨r2,rfl,r20,r21⟩
  walk_at "vc"
  refine ⟨_,h4,_,hv,?_⟩
  walk_at "vc"
  have hz:1 + z ≠ 0:=by walk_at "o"
  have hb:(1 + z).natAbs < 2 ^ 10:=by walk_at "o"
  refine ⟨hz,Nat.lt_of_lt_of_le hb (Nat.pow_le_pow_right (by decide) (by decide)),fun v H5 S5 r5=>?_⟩
  have q1:=eI (a:=1 + r1) hz
  have hl:0 < lg (1 + r1) (1 + z):=xw (by walk_at "o")
  refine h v H5 _ (((B1.trans B2).same_trans S3).trans (B4.same_trans S5)) (S4.same S5) r5 (fG hz) ?_ (iB hz (by unfold Bt; walk_at "o") hb) (Sx.lo hz0 hz1 (by walk_at "o"))
  refine Int.pos_of_mul_pos_left ?_ hl
  rw [q1]
  walk_at "o"
def i8 (K:PySem.W.Frag):Sp:=fun vs H Q _=>∃ (a:Addr) (qs:List (Int × Int)),vs = [.ref a] /\ aH (vw K H) a qs /\
 ∀ b H' n,n <= qs.length -> (∀ q,(qs.take n).getLast? = some q -> q.1 ≠ 0) -> (∀ q ∈ qs.drop n,q.1 = 0) -> vw K H b = none -> aw (vw K H) (vw K H') -> aH (vw K H') b (qs.take n) -> Q (.ref b) H'
theorem Au (F:cU K "_law_clean" "_law_clean" jd f fd) (T:dH K mg):aV P w K mg base cV 1 f fd ["_law_numbers"] (i8 K):=by
 have scN:=u3.nd
 refine F.okQ u3 (fun vs H Q E h=>?_) (fun cdv A outer s H vs Q E hr h=>?_)
 ·obtain ⟨a,_,rfl,_⟩:=h
  rfl
 ·obtain ⟨a,qs,rfl,ha,h⟩:=h
  refine ⟨_,(af (az (i:=1) scN rfl (by walk_at "a1") (ai aB (by rfl) T.b_len aT (aa (qv 0) ac)))
   (af (gL PassesOwn.never (QW.pt (oj (aN km (qv 1) ad (aK _)) (kG (aN ik (aA bH (aA cJ (qv 0) (ap cZ (qv 1) ad) (fun _ _=>rfl)) ad (fun _ _=>rfl)) ad (aK _))))) (ag (az (i:=1) scN rfl (by walk_at "a1") (ap cZ (qv 1) ad))))
   (ag (ar (eG eZ (by rfl) T.b_list fI (aa (gE gN (qv 0) jb (hU (qv 1))) ac)))))),?_⟩
  walk_at "m"
  walk_at "vc"
  refine ⟨_,ha.len,fun m σ H'=>H' = H /\ m <= qs.length /\ (∀ q ∈ qs.drop m,q.1 = 0) /\ σ = [some (.ref a),some (.int m)],⟨_,rfl,Nat.le_refl _,by simp,rfl⟩,?_⟩
  rintro k σ H' ⟨rfl,hk,hdr,rfl⟩
  obtain ⟨xs,hax,rx⟩:=ha
  have hlx:xs.length = qs.length:=by rw [rx.length,List.length_map]
  have fin:(∀ q,(qs.take k).getLast? = some q -> q.1 ≠ 0) -> Nw K H' (HO.lst (jO xs none (some (k:Int)))) fun x H1=>∃ p,x = V.ref p /\ ∃ ys,vw K H1 p = some (HO.lst ys) /\ Nw K H1 (HO.lst ys) Q:=fun hq p H2 hp S2 h2=>by
   rw [tu (by walk_at "o")] at h2
   refine ⟨p,rfl,_,h2,fun p2 H3 hp2 S3 h3=>h p2 H3 k hk hq hdr ?_ (S2.trans S3) ⟨_,h3,?_⟩⟩
   ·cases e:vw K H' p2 with
    | none=>rfl
    | some o=>rw [S2 _ _ e] at hp2; cases hp2
   ·rw [List.map_take]
    exact (rx.take k).same (S2.trans S3)
  walk_at "vc"
  refine bV (fun h0=>?_) (fun h0=>?_)
  ·have hk1:k - 1 < qs.length:=by walk_at "o"
   obtain ⟨x,hx,r⟩:=rx.at (i:=k - 1) (d:=fr qs[k - 1]) (by rw [List.getElem?_map,List.getElem?_eq_getElem hk1]; rfl)
   obtain ⟨p,rfl,hp⟩:=r.fr_at
   have e1:((k:Int) - 1) = ((k - 1:Nat):Int):=by walk_at "o"
   refine ⟨_,hax,_,by rw [e1]; exact bQ hx,p,rfl,_,hp,_,fE,?_⟩
   walk_at "vc"
   refine bV (fun hq=>?_) (fun hq=>?_)
   ·refine ⟨_,fun σ' H'' z=>z,k - 1,by walk_at "o",rfl,by walk_at "o",fun q' hq'=>?_,by rw [e1]⟩
    rw [List.drop_eq_getElem_cons hk1,show k - 1 + 1 = k by walk_at "o"] at hq'
    rcases List.mem_cons.mp hq' with z | z
    ·rw [z]
     exact hq
    ·exact hdr q' z
   ·refine ⟨_,hax,fin fun q hq2=>?_⟩
    have:(qs.take k).getLast? = some qs[k - 1]:=by
     rw [List.getLast?_eq_getElem?,List.length_take,List.getElem?_take]
     rw [if_pos (by walk_at "o"),show min k qs.length - 1 = k - 1 by walk_at "o",List.getElem?_eq_getElem hk1]
    rw [this] at hq2
    cases hq2
    exact hq
  ·refine ⟨_,hax,fin fun q hq=>?_⟩
   rw [show k = 0 by walk_at "o"] at hq
   cases hq
def dw (K:PySem.W.Frag):Sp:=fun vs H Q _=>∃ x y p q,vs = [x,y] /\ aC (vw K H) (fr p) x /\ aC (vw K H) (fr q) y /\ p.2 ≠ 0 /\ q.2 ≠ 0 /\ Bq 1000000 p /\ Bq 1000000 q /\ Bt 4000000 (p.2 * q.2) /\ ∀ v H',aw (vw K H) (vw K H') -> aC (vw K H') (fr (ki p q)) v -> Q v H'
theorem C6 (F:cU K "_law_plus" "_law_plus" kX f fd) (T:dH K mg) (zClow:aP P w K mg base "_law_low" ["_law_top", "_law_bottom"] 2 (gp K)):aV P w K mg base cV 3 f fd ["_law_one", "_law_other"] (dw K):=by
 have scN:=yB.nd
 refine F.okQ yB (fun vs H Q E h=>?_) (fun cdv A outer s H vs Q E hr h=>?_)
 ·obtain ⟨_,_,_,_,rfl,_⟩:=h
  rfl
 ·obtain ⟨x,y,p,q,rfl,hx,hy,np,nq,bp,bq,bb,h⟩:=h
  refine ⟨_,(ag (ar (ah zClow (hr.mono (by walk_at "a2")) rfl (aa (ap aS (ap aL (aA bH (qv 0) ad (fun _ _=>rfl)) (aA bH (qv 1) ad (fun _ _=>rfl))) (ap aL (aA bH (qv 1) ad (fun _ _=>rfl)) (aA bH (qv 0) ad (fun _ _=>rfl)))) (aa (ap aL (aA bH (qv 0) ad (fun _ _=>rfl)) (aA bH (qv 1) ad (fun _ _=>rfl))) ac))))),?_⟩
  walk_at "m"
  obtain ⟨a,rfl,ha⟩:=hx.fr_at
  obtain ⟨b,rfl,hb⟩:=hy.fr_at
  walk_at "vc*"
  simp only [gp]
  walk_at "vc*"
  exact ⟨bU bp.1 bq.2 (by decide),bU bq.1 bp.2 (by decide),bU bp.2 bq.2 (by decide),Int.mul_ne_zero np nq,h⟩
def el (K:PySem.W.Frag):Sp:=fun vs H Q _=>∃ x y p q,vs = [x,y] /\ aC (vw K H) (fr p) x /\ aC (vw K H) (fr q) y /\ p.2 ≠ 0 /\ q.2 ≠ 0 /\ Bq 1000000 p /\ Bq 1000000 q /\ Bt 4000000 (p.2 * q.2) /\ ∀ v H',aw (vw K H) (vw K H') -> aC (vw K H') (fr (ow p q)) v -> Q v H'
theorem zE (F:cU K "_law_times" "_law_times" ji f fd) (T:dH K mg) (zClow:aP P w K mg base "_law_low" ["_law_top", "_law_bottom"] 2 (gp K)):aV P w K mg base cV 3 f fd ["_law_one", "_law_other"] (el K):=by
 have scN:=uc.nd
 refine F.okQ uc (fun vs H Q E h=>?_) (fun cdv A outer s H vs Q E hr h=>?_)
 ·obtain ⟨_,_,_,_,rfl,_⟩:=h
  rfl
 ·obtain ⟨x,y,p,q,rfl,hx,hy,np,nq,bp,bq,bb,h⟩:=h
  refine ⟨_,(ag (ar (ah zClow (hr.mono (by walk_at "a2")) rfl (aa (ap aL (aA bH (qv 0) ad (fun _ _=>rfl)) (aA bH (qv 1) ad (fun _ _=>rfl))) (aa (ap aL (aA bH (qv 0) ad (fun _ _=>rfl)) (aA bH (qv 1) ad (fun _ _=>rfl))) ac))))),?_⟩
  walk_at "m"
  obtain ⟨a,rfl,ha⟩:=hx.fr_at
  obtain ⟨b,rfl,hb⟩:=hy.fr_at
  walk_at "vc*"
  simp only [gp]
  walk_at "vc*"
  exact ⟨bU bp.1 bq.1 (by decide),bU bp.2 bq.2 (by decide),Int.mul_ne_zero np nq,h⟩
def qu (K:PySem.W.Frag):Sp:=fun vs H Q _=>∃ x y p q,vs = [x,y] /\ aC (vw K H) (fr p) x /\ aC (vw K H) (fr q) y /\ p.2 ≠ 0 /\ q.2 ≠ 0 /\ q.1 ≠ 0 /\ Bq 1000000 p /\ Bq 1000000 q /\ Bt 4000000 (p.2 * q.1) /\ ∀ v H',aw (vw K H) (vw K H') -> aC (vw K H') (fr (fz p q)) v -> Q v H'
theorem DJ (F:cU K "_law_over" "_law_over" lC f fd) (T:dH K mg) (zClow:aP P w K mg base "_law_low" ["_law_top", "_law_bottom"] 2 (gp K)):aV P w K mg base cV 3 f fd ["_law_one", "_law_other"] (qu K):=by
 have scN:=xh.nd
 refine F.okQ xh (fun vs H Q E h=>?_) (fun cdv A outer s H vs Q E hr h=>?_)
 ·obtain ⟨_,_,_,_,rfl,_⟩:=h
  rfl
 ·obtain ⟨x,y,p,q,rfl,hx,hy,np,nq,n0,bp,bq,bb,h⟩:=h
  refine ⟨_,(ag (ar (ah zClow (hr.mono (by walk_at "a2")) rfl (aa (ap aL (aA bH (qv 0) ad (fun _ _=>rfl)) (aA bH (qv 1) ad (fun _ _=>rfl))) (aa (ap aL (aA bH (qv 0) ad (fun _ _=>rfl)) (aA bH (qv 1) ad (fun _ _=>rfl))) ac))))),?_⟩
  walk_at "m"
  obtain ⟨a,rfl,ha⟩:=hx.fr_at
  obtain ⟨b,rfl,hb⟩:=hy.fr_at
  walk_at "vc*"
  simp only [gp]
  walk_at "vc*"
  exact ⟨bU bp.1 bq.2 (by decide),bU bp.2 bq.1 (by decide),Int.mul_ne_zero np n0,h⟩
def ja (K:PySem.W.Frag):Sp:=fun vs H Q _=>∃ (st:Addr) (m:Nat),vs = [.ref st,.int m] /\ m <= 6 /\ cE (vw K H) st /\ ∀ (a:Addr) (H':Hp) (cs:List kB),dI st (vw K H) (vw K H') -> cE (vw K H') st -> gj (vw K H') a (cs.map rl) -> (∀ c ∈ cs,Fq c.1 /\ Fq c.2 /\ 0 < c.2.1) -> (∀ c ∈ cs,Bq 100 c.1 /\ Bq 10 c.2) -> (∀ c ∈ cs,Sx 300 c.1 /\ Sx 36 c.2) ->
 (∀ i c d,cs[i]? = some c -> cs[i + 1]? = some d -> ES c.1 d.1 = true) -> cs.length <= m -> vw K H a = none -> Q (.ref a) H'
theorem Av (F:cU K "_law_crowd" "_law_crowd" iQ f fd) (T:dH K mg) (zCsmall:aP P w K mg base "_law_small" ["_law_state_here"] 3 (dA K)) (zCabove:aP P w K mg base "_law_above" ["_law_state_here"] 3 (jg K))
  (zCtake:aP P w K mg base "_law_take" ["_law_state_here", "_law_many"] 1 (dD K)) (zCplus:aP P w K mg base "_law_plus" ["_law_one", "_law_other"] 3 (dw K)):aV P w K mg base cV 4 f fd ["_law_state_here", "_law_most"] (ja K):=by
 have scN:=t9.nd
 refine F.okQ t9 (fun vs H Q E h=>?_) (fun cdv A outer s H vs Q E hr h=>?_)
 ·obtain ⟨a,_,rfl,_⟩:=h
  rfl
 ·obtain ⟨st,m,rfl,hm,hst,h⟩:=h
  refine ⟨_,(af (az (i:=2) scN rfl (by walk_at "a1") (aD ac))
   (af (az (i:=3) scN rfl (by walk_at "a1") (ah zCsmall (hr.mono (by walk_at "a2")) rfl (aa (qv 0) ac)))
   (af (cr PassesOwn.never rfl (bZ rfl T.b_range (aa (ah zCtake (hr.mono (by walk_at "a2")) rfl (aa (qv 0) (aa (ap aS (qv 1) ad) ac))) ac)) (am (i:=4) scN rfl (by walk_at "a1")) (af (gT (rX PySem.F.plainAttrs_list PySem.F.slot_list_append PySem.F.type_list_append fZ (qv 2) (aa (av (aa (qv 3) (aa (ah zCabove (hr.mono (by walk_at "a2")) rfl (aa (qv 0) ac)) ac))) ac)))
   (ag (az (i:=3) scN rfl (by walk_at "a1") (ah zCplus (hr.mono (by walk_at "a2")) rfl (aa (qv 3) (aa (ah zCabove (hr.mono (by walk_at "a2")) rfl (aa (qv 0) ac)) ac)))))))
   (ag (ar (qv 2)))))),?_⟩
  walk_at "m"
  walk_at "vc"
  simp only [dD,dA]
  walk_at "vc"
  refine ⟨by decide,fun a H1 ha S1 h1=>⟨hst.same S1,fun v H2 q B2 S2 r2 f2 c1 c2 c5=>⟨S2,by walk_at "o",by walk_at "o",fun n H3 n0 n1 B3 S3=>⟨by walk_at "o",by walk_at "o",?_⟩⟩⟩⟩
  have nst:st ≠ a:=((hst.ne ha)).symm
  have h3:=B3 _ _ nst.symm (B2 _ _ nst.symm h1)
  have hr2:aC (vw K H3) (fr q) v:=by
   obtain ⟨_,_,z,_⟩:=id S2
   exact aC.flat_but z B3 _ _ (aY q) r2
  refine bA (its:=fm 0 n.toNat) (fun i σ H'=>∃ v y q cs,σ = [some (.ref st),some (.int m),some (.ref a),some v,y] /\ dI st (vw K H) (vw K H') /\ cE (vw K H') st /\ gj (vw K H') a (cs.map rl) /\ cs.length = i /\ aC (vw K H') (fr q) v /\ Fq q /\ Bq (10 + 12 * i) q /\ Sx (36 + 36 * i) q /\ (∀ c ∈ cs,Sx 300 c.1 /\ Sx 36 c.2) /\
   (∀ c ∈ cs,Fq c.1 /\ Fq c.2 /\ 0 < c.2.1) /\ (∀ c ∈ cs,Bq 100 c.1 /\ Bq 10 c.2) /\ (∀ i c d,cs[i]? = some c -> cs[i + 1]? = some d -> ES c.1 d.1 = true) /\ ∀ c,cs.getLast? = some c -> ES c.1 q = true) (fun _ _ _ _ _=>bh)
   ⟨v,_,q,[],rfl,((S1.but st).trans B2).trans B3,S3,⟨[],h3,.mk_nil⟩,rfl,hr2,f2,⟨c1,c2⟩,c5,by simp,by simp,by simp,by simp,by simp⟩ ?_ ?_
  ·rintro i x σ H4 hi hx ⟨v,y,q,cs,rfl,B4,S4,l4,hl,r4,f4,b4,x4,c6,c1,c2,c3,c4⟩
   rw [ci] at hi
   walk_at "vc"
   simp only [jg,dw]
   walk_at "vc"
   refine ⟨l4.ty,S4,fun w5 H5 q5 B5 S5 r5 f5 p5 b5 x5=>⟨by decide,fun p6 H6 hp6 S6 h6=>?_⟩⟩
   have l6:gj (vw K H6) a (cs.map rl):=(l4.stBut (dW cs) (jD cs) S4 B5).same S6
   have r46:aC (vw K H6) (fr q) v:=by
    obtain ⟨_,_,z,_⟩:=id S4
    exact aC.same S6 _ _ (aC.flat_but z B5 _ _ (aY q) r4)
   have r56:=aC.same S6 _ _ r5
   obtain ⟨xs,hxs,rxs⟩:=id l6
   refine ⟨xs,hxs,?_,fun H7 B7 h7=>?_⟩
   ·rw [rxs.length,List.length_map]
    exact Nat.lt_of_lt_of_le (show cs.length < 7 by walk_at "o") (by decide)
   have S7:cE (vw K H7) st:=(S5.same S6).but hxs nst B7
   have r47:=aC.flat_but hxs B7 _ _ (aY q) r46
   have r57:=aC.flat_but hxs B7 _ _ (aY q5) r56
   have ne6:p6 ≠ a:=fun e=>by
    obtain ⟨_,z,_⟩:=l4.stBut (dW cs) (jD cs) S4 B5
    rw [<- e,hp6] at z
    cases z
   have h67:=B7 _ _ ne6 h6
   have l7:gj (vw K H7) a ((cs ++ [(q,q5)]).map rl):=by
    refine ⟨_,h7,?_⟩
    rw [List.map_append]
    exact (aF.flat_but hxs B7 _ _ (dW cs) rxs).snoc (.mk_spt h67 r47 r57)
   have B07:dI st (vw K H) (vw K H7):=fun b o hb e=>B7 _ _ (ak e ha) (S6 _ _ (B5 _ _ hb (B4 _ _ hb e)))
   refine ⟨S7,fun w8 H8 q8 B8 S8 r8 f8 p8 b8 x8=>⟨q,?_⟩⟩
   obtain ⟨_,_,zst,_⟩:=id S7
   have r48:=aC.flat_but zst B8 _ _ (aY q) r47
   refine ⟨r48,q8,r8,by have:=f4.1; walk_at "o",by have:=f8.1; walk_at "o",b4.mono (by walk_at "o"),b8.mono (by decide),(b4.2.mul b8.2).mono (by walk_at "o"),fun v9 H9 S9 r9=>?_⟩
   refine ⟨(B07.trans B8).same_trans S9,S8.same S9,ki q q8,cs ++ [(q,q5)],(l7.stBut (dW _) (jD _) S7 B8).same S9,by simp [hl],r9,fM f4 f8,(jK f4 f8 b4 b8).mono (by walk_at "o"),(x4.add f4.ne f8.ne x8).mono (by walk_at "o"),?_,?_,?_,?_,?_⟩
   ·intro c hc
    rcases List.mem_append.mp hc with z | z
    ·exact c6 c z
    ·cases List.mem_singleton.mp z
     exact ⟨x4.mono (by walk_at "o"),x5⟩
   ·intro c hc
    rcases List.mem_append.mp hc with z | z
    ·exact c1 c z
    ·cases List.mem_singleton.mp z
     exact ⟨f4,f5,p5⟩
   ·intro c hc
    rcases List.mem_append.mp hc with z | z
    ·exact c2 c z
    ·cases List.mem_singleton.mp z
     exact ⟨b4.mono (by walk_at "o"),b5⟩
   ·intro j c d e1 e2
    by_cases hj:j + 1 < cs.length
    ·rw [List.getElem?_append_left (by walk_at "o")] at e1
     rw [List.getElem?_append_left hj] at e2
     exact c3 j c d e1 e2
    ·have hj2:j + 1 = cs.length:=by
      have:=(List.getElem?_eq_some_iff.mp e2).1
      simp at this
      walk_at "o"
     rw [List.getElem?_append_right (by walk_at "o"),hj2,Nat.sub_self] at e2
     cases e2
     rw [List.getElem?_append_left (by walk_at "o")] at e1
     refine c4 c ?_
     rw [List.getLast?_eq_getElem?,<- hj2]
     exact e1
   ·intro c hc
    rw [List.getLast?_concat] at hc
    cases hc
    exact Bo f4 f8 p8
  ·rintro σ H4 ⟨v,y,q,cs,rfl,B4,S4,l4,hl,r4,f4,b4,x4,c6,c1,c2,c3,c4⟩
   walk_at "vc"
   exact h a H4 cs B4 S4 l4 c1 c2 c6 c3 (by rw [hl,ci]; walk_at "o") ha
def dR (K:PySem.W.Frag):Sp:=fun vs H Q _=>∃ (a:Addr) (cs:List kB) (m:Nat),vs = [.ref a,.int m] /\ gj (vw K H) a (cs.map rl) /\ cs.length <= 6 /\ m <= 13 /\ (∀ c ∈ cs,Fq c.1 /\ Fq c.2 /\ Bq 100 c.1 /\ Bq 10 c.2) /\
 ∀ (b:Addr) (H':Hp) (qs:List (Int × Int)),aw (vw K H) (vw K H') -> aH (vw K H') b qs -> vw K H b = none -> qs.length = m -> (∀ (k:Nat) (q:Int × Int),qs[k]? = some q -> Fq q /\ wv q = io cs k) -> Q (.ref b) H'
theorem pR (F:cU K "_law_crowd_sums" "_law_crowd_sums" dO f fd) (T:dH K mg) (zCplus:aP P w K mg base "_law_plus" ["_law_one", "_law_other"] 3 (dw K)) (zCtimes:aP P w K mg base "_law_times" ["_law_one", "_law_other"] 3 (el K)):aV P w K mg base cV 4 f fd ["_law_crowd_here", "_law_many"] (dR K):=by
 have scN:=kx.nd
 refine F.okQ kx (fun vs H Q E h=>?_) (fun cdv A outer s H vs Q E hr h=>?_)
 ·obtain ⟨a,_,_,rfl,_⟩:=h
  rfl
 ·obtain ⟨a,cs,m,rfl,ha,hcl,hm,hc,h⟩:=h
  refine ⟨_,(af (az (i:=2) scN rfl (by walk_at "a1") (aD ac))
   (af (az (i:=3) scN rfl (by walk_at "a1") (eh (own:=["_law_spot", "_law_weight"]) (outs:=[]) (ixs:=[]) rfl (dZ (qv 0)) rfl ⟨rfl,rfl,rfl,trivial,rfl,trivial⟩ (fun _ _ _ _=>⟨(show QG _ _ (jr K 2 _) from br (n:=2) rfl (ay (am (i:=0) (show (["_law_spot", "_law_weight"]:List Str).Nodup by decide +kernel) rfl (by walk_at "a1")) (ay (am (i:=1) (show (["_law_spot", "_law_weight"]:List Str).Nodup by decide +kernel) rfl (by walk_at "a1")) bo))),gc,(qv 1)⟩)))
   (af (cr PassesOwn.never rfl (bZ rfl T.b_range (aa (qv 1) ac)) (am (i:=4) scN rfl (by walk_at "a1")) (af (az (i:=5) scN rfl (by walk_at "a1") (av (aa ad (aa ad ac))))
   (af (cr PassesOwn.never rfl (dZ (qv 3)) (am (i:=6) scN rfl (by walk_at "a1")) (ag (az (i:=5) scN rfl (by walk_at "a1") (ah zCplus (hr.mono (by walk_at "a2")) rfl (aa (qv 5) (aa (qv 6) ac))))))
   (af (gT (rX PySem.F.plainAttrs_list PySem.F.slot_list_append PySem.F.type_list_append fZ (qv 2) (aa (qv 5) ac)))
   (ag (az (i:=3) scN rfl (by walk_at "a1") (eh (own:=["_law_at"]) (outs:=["_law_powers", "_law_crowd_here"]) (ixs:=[3,0]) rfl (bZ rfl T.b_range (aa (ai aB (by rfl) T.b_len aT (aa (qv 0) ac)) ac)) rfl ⟨rfl,rfl,rfl,⟨rfl,⟨rfl,trivial⟩⟩,rfl,⟨⟨rfl,rfl,rfl,_,rfl⟩,⟨⟨rfl,rfl,rfl,_,rfl⟩,trivial⟩⟩⟩ (fun _ _ _ _=>⟨(am (i:=0) (show (["_law_at", "_law_powers", "_law_crowd_here"]:List Str).Nodup by decide +kernel) rfl (by walk_at "a1")),gc,(ah zCtimes (hr.mono (by walk_at "a2")) rfl (aa (aA (show vJ _ (wo K) from cJ) (qv 1) (qv 0) (fun _ _=>rfl)) (aa (aA (show vJ _ (zy K) from bH) (aA (show vJ _ (wo K) from cJ) (qv 2) (qv 0) (fun _ _=>rfl)) ad (fun _ _=>rfl)) ac)))⟩))))))))
   (ag (ar (qv 2)))))),?_⟩
  walk_at "m"
  skip
  obtain ⟨xs,hxs,rxs⟩:=id ha
  obtain ⟨ps,p1,p2,p3,p4⟩:=mZ rxs
  have hlx:xs.length = cs.length:=by rw [rxs.length,List.length_map]
  walk_at "vc"
  refine ⟨by decide,fun t H1 ht S1 h1=>⟨⟨xs,.of (aO (S1 _ _ hxs))⟩,fun d H2 hd S2 h2=>?_⟩⟩
  have hxs1:=S1 _ _ hxs
  refine m4 (its:=xs) (ps:=ps) (fun i ys H'=>aw (vw K H1) (vw K H') /\ ys = (ps.take i).map (·.2)) (by rw [hlx,p1]) (fun i ys H' _ _ p=>⟨bY (p.1 _ _ hxs1),fun j u v e=>?_⟩) h2 ⟨S2,rfl⟩ (fun i u v ys H' hi huv h' p=>?_) (fun ys H3 h3 p=>?_)
  ·obtain ⟨q,e1,e2⟩:=p2 j u v e
   exact ⟨q,e1,p.1 _ _ (S1 _ _ e2)⟩
  ·obtain ⟨S',rfl⟩:=p
   walk_at "vc"
   refine .mk2 h' ?_ fun H5 B5 h5=>⟨fun b o e=>B5 _ _ (ak e hd) (S' _ _ e),?_⟩
   ·rw [List.length_map,List.length_take]
    have:1000 <= sizeLine:=by decide
    walk_at "o"
   ·rw [List.take_add_one,huv,List.map_append]
    rfl
  obtain ⟨S3,rfl⟩:=p
  rw [List.take_length] at h3
  have S03:=S1.trans S3
  refine ⟨by walk_at "o",by walk_at "o",?_⟩
  obtain ⟨Pv,hPv⟩ : ∃ Pv:Nat -> St -> Hp -> Prop,∀ k σ H',Pv k σ H' ↔ ∃ (w:Addr) (ws qs:List (Int × Int)) (y z u:Option V),σ = [some (.ref a),some (.int m),some (.ref t),some (.ref w),y,z,u] /\
    aw (vw K H) (vw K H') /\ w ≠ t /\ aH (vw K H') w ws /\ ws.length = cs.length /\ (∀ (i:Nat) (q:Int × Int) (c:kB),ws[i]? = some q -> cs[i]? = some c -> Fq q /\ wv q = wv c.2 * cT (wv c.1) k /\ Bq (10 + 100 * k) q) /\
    aH (vw K H') t qs /\ qs.length = k /\ ∀ (j:Nat) (q:Int × Int),qs[j]? = some q -> Fq q /\ wv q = io cs j:=⟨_,fun _ _ _=>Iff.rfl⟩
  refine bA (its:=fm 0 (Int.toNat m)) Pv (fun _ _ _ _ _=>bh) ((hPv _ _ _).mpr ⟨d,cs.map (·.2),[],_,_,_,rfl,S03,(ak h1 hd).symm,⟨_,h3,p4.same S03⟩,by simp,fun i q c e1 e2=>?_,⟨[],S3 _ _ h1,.mk_nil⟩,rfl,by simp⟩) (fun k x σ H4 hk hx pv=>?_) (fun σ H4 pv=>?_)
  ·rw [List.getElem?_map,e2] at e1
   cases e1
   obtain ⟨z1,z2,z3,z4⟩:=hc c (List.mem_of_getElem? e2)
   refine ⟨z2,?_,z4⟩
   show wv c.2 = wv c.2 * 1
   grind
  ·obtain ⟨w,ws,qs,y,z,u,rfl,S4,nw,lw4,lw,hws,lt4,lq,hqs⟩:=(hPv _ _ _).mp pv
   rw [ci] at hk
   have hk13:k < 13:=by walk_at "o"
   obtain ⟨_,rfl⟩:=dY hx
   walk_at "vc"
   refine ⟨by decide,fun pz Hz hpz Sz hz=>?_⟩
   have lwz:=lw4.same Sz
   obtain ⟨wx,hwx,rwx⟩:=id lwz
   have lwx:wx.length = cs.length:=by rw [rwx.length,List.length_map,lw]
   refine ⟨⟨wx,.of (aO hwx)⟩,?_⟩
   obtain ⟨Pw,hPw⟩ : ∃ Pw:Nat -> St -> Hp -> Prop,∀ j σ H',Pw j σ H' ↔ ∃ (v:V) (q:Int × Int) (u:Option V),σ = [some (.ref a),some (.int m),some (.ref t),some (.ref w),some (.int (0 + k)),some v,u] /\ aw (vw K Hz) (vw K H') /\ aC (vw K H') (fr q) v /\ Fq q /\ wv q = lB (ws.take j) /\ Bq (1 + j * (11 + 100 * k)) q:=⟨_,fun _ _ _=>Iff.rfl⟩
   refine bA (its:=wx) Pw (fun j σ H' _ p=>?_) ((hPw _ _ _).mpr ⟨_,(0,1),_,rfl,.rfl,aJ hz,⟨by decide,by decide⟩,?_,?_⟩) (fun j x σ H5 hj hx5 pw=>?_) (fun σ H5 pw=>?_)
   ·obtain ⟨_,_,_,_,S5,_⟩:=(hPw _ _ _).mp p
    exact bY (S5 _ _ hwx)
   ·show ((0:Int):Rat) / ((1:Int):Rat) = 0
    have e0:((0:Int):Rat) = 0:=rfl
    rw [e0]
    grind
   ·rw [Nat.zero_mul]
    exact ⟨by decide,by decide⟩
   ·obtain ⟨v,q,u5,rfl,S5,r5,f5,w5,b5⟩:=(hPw _ _ _).mp pw
    have jl:j < ws.length:=by walk_at "o"
    have jc:j < cs.length:=by walk_at "o"
    obtain ⟨d5,e5,rx5⟩:=rwx.get hx5
    rw [List.getElem?_map,List.getElem?_eq_getElem jl] at e5
    cases e5
    obtain ⟨fw,vw5,bw⟩:=hws j _ _ (List.getElem?_eq_getElem jl) (List.getElem?_eq_getElem jc)
    have hjk:j * (11 + 100 * k) <= 5 * (11 + 100 * 12):=Nat.mul_le_mul (by walk_at "o") (by walk_at "o")
    walk_at "vc"
    simp only [dw]
    walk_at "vc"
    refine ⟨q,r5,_,aC.same S5 _ _ rx5,by have:=f5.1; walk_at "o",by have:=fw.1; walk_at "o",b5.mono (by walk_at "o"),bw.mono (by walk_at "o"),(b5.2.mul bw.2).mono (by walk_at "o"),fun v6 H6 S6 r6=>(hPw _ _ _).mpr ⟨_,_,_,rfl,S5.trans S6,r6,fM f5 fw,?_,(jK f5 fw b5 bw).mono ?_⟩⟩
    ·rw [iD (by have:=f5.1; walk_at "o") (by have:=fw.1; walk_at "o"),w5,List.take_add_one,List.getElem?_eq_getElem jl,wK]
     show _ = lB (ws.take j) + (wv ws[j] + 0)
     grind
    ·rw [Nat.add_mul]
     walk_at "o"
   ·obtain ⟨v,q,u5,rfl,S5,r5,f5,w5,b5⟩:=(hPw _ _ _).mp pw
    rw [show wx.length = ws.length by walk_at "o",List.take_length] at w5
    have wq:wv q = io cs k:=by
     rw [w5]
     exact rW lw fun i q c e1 e2=>(hws i q c e1 e2).2.1
    have S4z5:=Sz.trans S5
    obtain ⟨tx,htx,rtx⟩:=lt4.same S4z5
    have nat':a ≠ t:=ak hxs ht
    walk_at "vc"
    refine ⟨kN htx,tx,htx,?_,fun H6 B6 h6=>?_⟩
    ·rw [rtx.length,List.length_map,lq]
     exact Nat.lt_of_lt_of_le hk13 (by decide)
    have hxs6:=B6 _ _ nat' (S4z5 _ _ (S4 _ _ hxs))
    have S06:aw (vw K H) (vw K H6):=fun b o e=>B6 _ _ (ak e ht) (S4z5 _ _ (S4 _ _ e))
    have lw6:=(lw4.same S4z5).but htx nw B6
    have lt6:aH (vw K H6) t (qs ++ [q]):=by
     refine ⟨_,h6,?_⟩
     rw [List.map_append]
     exact (aF.flat_but htx B6 _ _ (dg qs) rtx).snoc (aC.flat_but htx B6 _ _ (aY _) r5)
    obtain ⟨wx6,hwx6,rwx6⟩:=id lw6
    have hln:fA (vw K H6) a = some xs.length:=by simp only [fA,hxs6]
    refine ⟨_,hln,by walk_at "o",by walk_at "o",fun c H7 hc7 S7 h7=>?_⟩
    have hct:c ≠ t:=(ak h6 hc7).symm
    rw [show (xs.length:Int).toNat = cs.length by walk_at "o"]
    refine de (its:=fm 0 cs.length) (fun i zs H'=>aw (vw K H6) (vw K H') /\ ∃ vs:List (Int × Int),vs.length = i /\ aF (vw K H') (vs.map fr) zs /\ ∀ (j:Nat) (q:Int × Int) (c:kB),vs[j]? = some q -> cs[j]? = some c -> Fq q /\ wv q = wv c.2 * cT (wv c.1) (k + 1) /\ Bq (10 + 100 * (k + 1)) q)
     (fun _ _ _ _ _ _=>bh) h7 ⟨S7,[],rfl,.mk_nil,by simp⟩ (fun i x zs H8 hi hx8 h8 p=>?_) (fun zs H8 h8 p=>?_)
    ·obtain ⟨S8,vs,lv,rv,hv⟩:=p
     obtain ⟨hi',rfl⟩:=dY hx8
     have iw:i < ws.length:=by walk_at "o"
     obtain ⟨vi,e1,ri⟩:=rwx6.at (i:=i) (d:=fr ws[i]) (by rw [List.getElem?_map,List.getElem?_eq_getElem iw]; rfl)
     obtain ⟨xi,e2,rxi⟩:=rxs.at (i:=i) (d:=rl cs[i]) (by rw [List.getElem?_map,List.getElem?_eq_getElem hi']; rfl)
     obtain ⟨b,x1,x2,rfl,hb,q1,q2⟩:=(aC.same (S06.trans S8) _ _ rxi).spt_at
     obtain ⟨fw,vw6,bw⟩:=hws i _ _ (List.getElem?_eq_getElem iw) (List.getElem?_eq_getElem hi')
     obtain ⟨z1,z2,z3,z4⟩:=hc cs[i] (List.getElem_mem hi')
     walk_at "vc"
     simp only [el]
     walk_at "vc"
     refine ⟨_,S8 _ _ hwx6,vi,by rw [Int.zero_add]; exact bQ e1,xs,S8 _ _ hxs6,_,by rw [Int.zero_add]; exact bQ e2,b,rfl,_,hb,_,fE,?_⟩
     refine ⟨_,aC.same S8 _ _ ri,_,q1,by have:=fw.1; walk_at "o",by have:=z1.1; walk_at "o",bw.mono (by walk_at "o"),z3.mono (by decide),(bw.2.mul z3.2).mono (by walk_at "o"),fun v9 H9 S9 r9=>.mk (S9 _ _ h8) ?_ fun H10 B10 h10=>⟨fun b o e=>B10 _ _ (ak e hc7) (S9 _ _ (S8 _ _ e)),vs ++ [ow ws[i] cs[i].1],by simp [lv],?_,fun j q c g1 g2=>?_⟩⟩
     ·rw [rv.length,List.length_map,lv]
      have:1000 <= sizeLine:=by decide
      walk_at "o"
     ·rw [List.map_append]
      exact (aF.flat_but (S9 _ _ h8) B10 _ _ (dg vs) (rv.same S9)).snoc (aC.flat_but (S9 _ _ h8) B10 _ _ (aY _) r9)
     ·by_cases hj:j < vs.length
      ·rw [List.getElem?_append_left hj] at g1
       exact hv j q c g1 g2
      ·have hj2:j = i:=by
        have:=(List.getElem?_eq_some_iff.mp g1).1
        simp at this
        walk_at "o"
       subst hj2
       rw [List.getElem?_append_right (by walk_at "o"),lv,Nat.sub_self] at g1
       cases g1
       rw [List.getElem?_eq_getElem hi'] at g2
       cases g2
       refine ⟨iO fw z1,?_,(kr fw z1 bw z3).mono (by walk_at "o")⟩
       rw [kI (by have:=fw.1; walk_at "o") (by have:=z1.1; walk_at "o"),vw6,kJ]
       grind
    ·obtain ⟨S8,vs,lv,rv,hv⟩:=p
     rw [ci] at lv
     refine (hPv _ _ _).mpr ⟨c,vs,qs ++ [q],_,_,_,rfl,S06.trans S8,hct,⟨zs,h8,rv⟩,lv,hv,lt6.same S8,by simp [lq],fun j q' e=>?_⟩
     by_cases hj:j < qs.length
     ·rw [List.getElem?_append_left hj] at e
      exact hqs j q' e
     ·have hj2:j = k:=by
       have:=(List.getElem?_eq_some_iff.mp e).1
       simp at this
       walk_at "o"
      subst hj2
      rw [List.getElem?_append_right (by walk_at "o"),lq,Nat.sub_self] at e
      cases e
      exact ⟨f5,wq⟩
  ·obtain ⟨w,ws,qs,y,z,u,rfl,S4,nw,lw4,lw,hws,lt4,lq,hqs⟩:=(hPv _ _ _).mp pv
   rw [ci] at lq
   walk_at "vc"
   exact h t H4 qs S4 lt4 ht (by walk_at "o") hqs
def gk (q:Int × Int):Prop:=Fq q /\ Bq 131 q /\ q.2 ∣ jm 12
theorem Sx.dvd6 {b:Nat} {q:Int × Int} (hq:Fq q) (h:Sx b q):q.2 ∣ 6:=by
 obtain ⟨n,e,_⟩:=h
 exact iI hq (by decide) e
theorem pS {k:Nat} (h:k <= 12):jm k ∣ jm 12:=⟨FJ (12 - k),by rw [<- uP,show k + (12 - k) = 12 by walk_at "o"]⟩
theorem Sx.dvd {b:Nat} {q:Int × Int} (hq:Fq q) (h:Sx b q):q.2 ∣ jm 12:=Int.dvd_trans (Sx.dvd6 hq h) (pS (k:=0) (by decide))
theorem uE {cs:List kB} {k:Nat} {q:Int × Int} (h:∀ c ∈ cs,Sx 300 c.1 /\ Sx 36 c.2) (hk:k <= 12) (hq:Fq q) (e:wv q = io cs k):q.2 ∣ jm 12:=by
 obtain ⟨n,e1,_⟩:=rk (k:=k) h
 exact Int.dvd_trans (iI hq (by have:=kh k; walk_at "o") (e.trans e1)) (pS hk)
theorem Bm {p q:Int × Int} (hp:Fq p) (hq:Fq q) (h1:p.2 ∣ jm 12) (h2:q.2 ∣ 6):(ki p q).2 ∣ jm 12:=by
 obtain ⟨s,hs⟩:=h1
 obtain ⟨t,ht⟩:=Int.dvd_trans h2 (pS (k:=0) (by decide))
 have n0:jm 12 ≠ 0:=by decide
 have c0:((jm 12:Int):Rat) ≠ 0:=aj n0
 have c1:=aj hp.ne
 have c2:=aj hq.ne
 refine iI (n:=p.1 * s + q.1 * t) (fM hp hq) n0 ?_
 rw [iD hp.ne hq.ne]
 have e1:((jm 12:Int):Rat) = (p.2:Rat) * (s:Rat):=by rw [hs,Rat.intCast_mul]
 have e2:((jm 12:Int):Rat) = (q.2:Rat) * (t:Rat):=by rw [ht,Rat.intCast_mul]
 rw [Rat.intCast_add,Rat.intCast_mul,Rat.intCast_mul]
 unfold wv
 grind
theorem iE {qs:List (Int × Int)} (h:∀ q ∈ qs,gk q):Pb 170 (cf qs):=by
 refine ⟨jm 12,by decide,(qV 12).mono (by decide),fun k=>?_⟩
 cases e:qs[k]? with
 | none =>
  refine ⟨0,?_,by decide⟩
  rw [aU (List.getElem?_eq_none_iff.mp e)]
  have:((0:Int):Rat) = 0:=rfl
  rw [this]
  grind
 | some q =>
  obtain ⟨f,b,t,ht⟩:=h q (List.mem_of_getElem? e)
  have c1:=aj f.ne
  have c0:((jm 12:Int):Rat) ≠ 0:=aj (by decide)
  refine ⟨q.1 * t,?_,(b.1.mul (n:=39) ?_).mono (by decide)⟩
  ·rw [aW e]
   have e1:((jm 12:Int):Rat) = (q.2:Rat) * (t:Rat):=by rw [ht,Rat.intCast_mul]
   rw [Rat.intCast_mul]
   unfold wv
   grind
  ·have h6:=qV 12
   unfold Bt at h6 ⊢
   rw [ht,Int.natAbs_mul] at h6
   have:=Nat.le_mul_of_pos_left t.natAbs (show 0 < q.2.natAbs by have:=f.1; walk_at "o")
   walk_at "o"
def qS (K:PySem.W.Frag):Sp:=fun vs H Q _=>∃ (st:Addr),vs = [.ref st] /\ cE (vw K H) st /\ ∀ (a:Addr) (H':Hp) (qs:List (Int × Int)),dI st (vw K H) (vw K H') -> cE (vw K H') st -> aH (vw K H') a qs -> 1 <= qs.length -> qs.length <= 11 -> (∀ q ∈ qs,gk q) -> vw K H a = none -> Q (.ref a) H'
theorem Cq (F:cU K "_law_sums" "_law_sums" kU f fd) (T:dH K mg) (zCtake:aP P w K mg base "_law_take" ["_law_state_here", "_law_many"] 1 (dD K)) (zCsmall:aP P w K mg base "_law_small" ["_law_state_here"] 3 (dA K)) (zCcrowd:aP P w K mg base "_law_crowd" ["_law_state_here", "_law_most"] 4 (ja K))
  (zCcrowd_sums:aP P w K mg base "_law_crowd_sums" ["_law_crowd_here", "_law_many"] 4 (dR K)) (zCplus:aP P w K mg base "_law_plus" ["_law_one", "_law_other"] 3 (dw K)):aV P w K mg base cV 5 f fd ["_law_state_here"] (qS K):=by
 have scN:=yj.nd
 refine F.okQ yj (fun vs H Q E h=>?_) (fun cdv A outer s H vs Q E hr h=>?_)
 ·obtain ⟨a,rfl,_⟩:=h
  rfl
 ·obtain ⟨st,rfl,hst,h⟩:=h
  refine ⟨_,(af (az (i:=1) scN rfl (by walk_at "a1") (ap aS ad (ah zCtake (hr.mono (by walk_at "a2")) rfl (aa (qv 0) (aa ad ac)))))
   (af (az (i:=2) scN rfl (by walk_at "a1") (ah zCtake (hr.mono (by walk_at "a2")) rfl (aa (qv 0) (aa ad ac))))
   (af (bT (aN ik (qv 2) ad (aK _)) (ag (ar (eh (own:=["_law_k"]) (outs:=["_law_state_here"]) (ixs:=[0]) rfl (bZ rfl T.b_range (aa (qv 1) ac)) rfl ⟨rfl,rfl,rfl,⟨rfl,trivial⟩,rfl,⟨⟨rfl,rfl,rfl,_,rfl⟩,trivial⟩⟩ (fun _ _ _ _=>⟨(am (i:=0) (show (["_law_k", "_law_state_here"]:List Str).Nodup by decide +kernel) rfl (by walk_at "a1")),gc,(ah zCsmall (hr.mono (by walk_at "a2")) rfl (aa (qv 1) ac))⟩)))) aR)
   (af (bT (aN ik (qv 2) ad (aK _)) (ag (ar (ap aS (ap aL (aD (aa (av (aa ad (aa ad ac))) ac)) (ap cZ (qv 1) ad)) (aD (aa (ah zCsmall (hr.mono (by walk_at "a2")) rfl (aa (qv 0) ac)) ac))))) aR)
   (af (az (i:=3) scN rfl (by walk_at "a1") (ah zCcrowd_sums (hr.mono (by walk_at "a2")) rfl (aa (ah zCcrowd (hr.mono (by walk_at "a2")) rfl (aa (qv 0) (aa (aA cJ (aD (aa ad (aa ad (aa ad (aa ad (aa ad ac)))))) (ah zCtake (hr.mono (by walk_at "a2")) rfl (aa (qv 0) (aa ad ac))) (fun _ _=>rfl)) ac))) (aa (qv 1) ac))))
   (af (bT (aN jM (qv 2) ad (aK _)) (af (az (i:=4) scN rfl (by walk_at "a1") (ah zCtake (hr.mono (by walk_at "a2")) rfl (aa (qv 0) (aa (qv 1) ac))))
   (ag (cF (ah zCplus (hr.mono (by walk_at "a2")) rfl (aa (aA cJ (qv 3) (qv 4) (fun _ _=>rfl)) (aa (aA cJ (aD (aa (ah zCsmall (hr.mono (by walk_at "a2")) rfl (aa (qv 0) ac)) (aa (av (aa ad (aa ad ac))) (aa (av (aa (eR cY ad) (aa ad ac))) ac)))) (ah zCtake (hr.mono (by walk_at "a2")) rfl (aa (qv 0) (aa ad ac))) (fun _ _=>rfl)) ac))) (nS (qv 3) (qv 4) eJ)))) aR)
   (ag (ar (qv 3))))))))),?_⟩
  walk_at "m"
  walk_at "vc"
  simp only [dD]
  walk_at "vc"
  refine ⟨hst,by decide,by decide,fun r H1 r0 r1 B1 S1=>⟨S1,by decide,by decide,fun y H2 y0 y1 B2 S2=>?_⟩⟩
  have B02:=B1.trans B2
  refine bV (fun e0=>?_) (fun e0=>?_)
  ·refine ⟨by walk_at "o",by walk_at "o",fun a H3 ha S3 h3=>?_⟩
   have nst:st ≠ a:=(S2.ne ha).symm
   refine de (its:=fm 0 (1 + r).toNat) (fun i xs H'=>dI st (vw K H2) (vw K H') /\ cE (vw K H') st /\ ∃ qs,qs.length = i /\ aF (vw K H') (qs.map fr) xs /\ ∀ q ∈ qs,gk q) (fun i xs H' _ _ _=>bh) h3 ⟨S3.but st,S2.same S3,[],rfl,.mk_nil,by simp⟩ (fun i x xs H' hi hx h' p=>?_) (fun xs H' h' p=>?_)
   ·obtain ⟨B',S',qs,hl,rq,hq⟩:=p
    walk_at "vc"
    simp only [dA]
    walk_at "vc"
    refine ⟨S',fun v H3 q B3 S3 r3 f3 b1 b2 x3=>.mk (B3 _ _ nst.symm h') ?_ fun H5 B5 h5=>?_⟩
    ·rw [rq.length,List.length_map,hl]
     rw [ci] at hi
     have:1000 <= sizeLine:=by decide
     walk_at "o"
    ·have h3:=B3 _ _ nst.symm h'
     obtain ⟨xx,bb,e,_⟩:=id S'
     refine ⟨?_,S3.but h3 nst B5,qs ++ [q],by simp [hl],?_,?_⟩
     ·intro b o hb e
      have hba:=ak e ha
      exact B5 _ _ hba (B3 _ _ hb (B' _ _ hb e))
     ·rw [List.map_append]
      exact (aF.flat_but h3 B5 _ _ (dg qs) (aF.flat_but e B3 _ _ (dg qs) rq)).snoc (aC.flat_but h3 B5 _ _ (aY q) r3)
     ·intro q' hq'
      rcases List.mem_append.mp hq' with z | z
      ·exact hq q' z
      ·cases List.mem_singleton.mp z
       exact ⟨f3,Bq.mono (m:=10) ⟨b1,b2⟩ (by decide),Sx.dvd f3 x3⟩
   ·obtain ⟨B',S',qs,hl,rq,hq⟩:=p
    rw [ci] at hl
    exact h a H' qs (B02.trans B') S' ⟨xs,h',rq⟩ (by walk_at "o") (by walk_at "o") hq (B02.none S2 ha)
  refine bV (fun e1=>?_) (fun e1=>?_)
  ·simp only [dA]
   walk_at "vc"
   refine ⟨by decide,fun p2 H3 hp2 S3 h3=>⟨by decide,fun p3 H4 hp3 S4 h4=>?_⟩⟩
   rw [show 1 + r - 1 = ((r.toNat:Nat):Int) by walk_at "o"]
   show im K (.ref p3) (.int _) H4 _
   rw [fk]
   refine ⟨_,h4,by walk_at "o",by walk_at "o",?_,fun e H5 he S5 h5=>?_⟩
   ·have:1000 <= sizeLine:=by decide
    simp
    walk_at "o"
   rw [show ((r.toNat:Nat):Int).toNat = r.toNat by walk_at "o",iy] at h5
   have S25:=S3.trans (S4.trans S5)
   refine ⟨S2.same S25,fun v H6 q B6 S6 r6 f6 b1 b2 x6=>⟨by decide,fun p7 H7 hp7 S7 h7=>?_⟩⟩
   have h6:=B6 _ _ ((S2.same (S3.trans S4)).ne he) h5
   have h26:=B6 _ _ (S2.ne hp2) ((S4.trans S5) _ _ h3)
   show gf K (.ref e) (.ref p7) H7 Q
   rw [dl]
   refine ⟨_,S7 _ _ h6,_,h7,?_,fun p8 H8 hp8 S8 h8=>?_⟩
   ·have:1000 <= sizeLine:=by decide
    simp
    walk_at "o"
   have S68:=S7.trans S8
   have B67:dI st (vw K H) (vw K H7):=((B02.same_trans S25).trans B6).same_trans S7
   refine h p8 H8 (List.replicate r.toNat (0,1) ++ [q]) (B67.same_trans S8) (S6.same S68) ⟨_,h8,?_⟩ (by simp) (by simp; walk_at "o") (fun q' hq'=>?_) (B67.none (S6.same S7) hp8)
   ·rw [List.map_append,jR]
    exact aF.snoc (aF.repl (aJ (S68 _ _ h26)) _) (aC.same S68 _ _ r6)
   ·rcases List.mem_append.mp hq' with z | z
    ·rw [(List.mem_replicate.mp z).2]
     exact ⟨lP,ur (by decide),Int.one_dvd _⟩
    ·cases List.mem_singleton.mp z
     exact ⟨f6,Bq.mono (m:=10) ⟨b1,b2⟩ (by decide),Sx.dvd f6 x6⟩
  ·walk_at "vc"
   refine ⟨by decide,fun p3 H3 hp3 S3 h3=>⟨S2.same S3,by decide,by decide,fun t H4 t0 t1 B4 S4=>?_⟩⟩
   have h4:=B4 _ _ (S2.ne hp3) h3
   obtain ⟨v,hv,hm⟩:=jX (xs:=[V.int 5,V.int 5,V.int 5,V.int 2,V.int 3]) t0 (by simpa using t1)
   obtain ⟨z,rfl,hz⟩ : ∃ z:Nat,v = .int z /\ z <= 5:=by
    simp only [List.mem_cons,List.not_mem_nil,or_false] at hm
    rcases hm with rfl | rfl | rfl | rfl | rfl
    ·exact ⟨5,rfl,by decide⟩
    ·exact ⟨5,rfl,by decide⟩
    ·exact ⟨5,rfl,by decide⟩
    ·exact ⟨2,rfl,by decide⟩
    ·exact ⟨3,rfl,by decide⟩
   refine ⟨p3,rfl,_,h4,_,hv,?_⟩
   simp only [ja]
   walk_at "vc"
   refine ⟨z,rfl,by walk_at "o",S4,fun c H5 cs B5 S5 l5 c1 c2 c3 c4 lc hc=>?_⟩
   obtain ⟨m,hm'⟩ : ∃ m:Nat,1 + r = (m:Int):=⟨(1 + r).toNat,by walk_at "o"⟩
   rw [hm']
   simp only [dR]
   walk_at "vc"
   refine ⟨cs,m,rfl,l5,by walk_at "o",by walk_at "o",fun c hc=>⟨(c1 c hc).1,(c1 c hc).2.1,(c2 c hc).1,(c2 c hc).2⟩,fun b H6 qs S6 l6 hb lqs hqs=>?_⟩
   have bqs:∀ q ∈ qs,(Fq q /\ Bq 120 q) /\ q.2 ∣ jm 12:=fun q hq=>by
    obtain ⟨k,hk⟩:=List.getElem?_of_mem hq
    have:=(List.getElem?_eq_some_iff.mp hk).1
    exact ⟨⟨(hqs k q hk).1,xT c3 (by walk_at "o") (by walk_at "o") (hqs k q hk).1 (hqs k q hk).2⟩,uE c3 (by walk_at "o") (hqs k q hk).1 (hqs k q hk).2⟩
   have B05:dI st (vw K H) (vw K H5):=((B02.same_trans S3).trans B4).trans B5
   have B06:=B05.same_trans S6
   have nb0:vw K H b = none:=B05.none S5 hb
   refine bV (fun e2=>?_) (fun e2=>?_)
   ·walk_at "vc"
    refine ⟨S5.same S6,by walk_at "o",by walk_at "o",fun t7 H7 t70 t71 B7 S7=>?_⟩
    have l7:aH (vw K H7) b qs:=l6.stBut (S5.same S6) B7
    have nbs:b ≠ st:=l7.ne_st S7
    obtain ⟨xs,hxs,rxs⟩:=id l7
    have hlx:xs.length = qs.length:=by rw [rxs.length,List.length_map]
    obtain ⟨j,rfl⟩ : ∃ j:Nat,t7 = (j:Int):=⟨t7.toNat,by walk_at "o"⟩
    have hj:j < qs.length:=by walk_at "o"
    obtain ⟨vi,e1,ri⟩:=rxs.at (i:=j) (d:=fr qs[j]) (by rw [List.getElem?_map,List.getElem?_eq_getElem hj]; rfl)
    refine ⟨xs,hxs,vi,bQ e1,?_⟩
    simp only [dA]
    walk_at "vc"
    refine ⟨S7,fun v8 H8 q8 B8 S8 r8 f8 b81 b82 x8=>⟨by decide,fun p9 H9 hp9 T9 h9=>⟨by decide,fun p10 H10 hp10 T10 h10=>⟨by decide,fun p11 H11 hp11 T11 h11=>⟨S8.same (T9.trans (T10.trans T11)),by decide,by decide,fun t12 H12 t120 t121 B12 S12=>?_⟩⟩⟩⟩⟩
    have T811:=T9.trans (T10.trans T11)
    have S11:=S8.same T811
    obtain ⟨_,_,st7,_⟩:=id S7
    obtain ⟨_,_,st11,_⟩:=id S11
    have h12:=B12 _ _ ((S8.same (T9.trans T10)).ne hp11) h11
    have hx12:=B12 _ _ nbs (T811 _ _ (B8 _ _ nbs hxs))
    have rx12:aF (vw K H12) (qs.map fr) xs:=aF.flat_but st11 B12 _ _ (dg qs) ((aF.flat_but st7 B8 _ _ (dg qs) rxs).same T811)
    obtain ⟨vi',e1',ri'⟩:=rx12.at (i:=j) (d:=fr qs[j]) (by rw [List.getElem?_map,List.getElem?_eq_getElem hj]; rfl)
    rw [e1] at e1'
    cases e1'
    obtain ⟨v12,hv12,hm12⟩:=jX (xs:=[v8,V.ref p9,V.ref p10]) t120 (by simpa using t121)
    obtain ⟨q12,r12,f12,b12,x12⟩ : ∃ q12,aC (vw K H12) (fr q12) v12 /\ Fq q12 /\ Bq 10 q12 /\ q12.2 ∣ 6:=by
     simp only [List.mem_cons,List.not_mem_nil,or_false] at hm12
     rcases hm12 with rfl | rfl | rfl
     ·exact ⟨q8,aC.flat_but st11 B12 _ _ (aY q8) (aC.same T811 _ _ r8),f8,⟨b81,b82⟩,Sx.dvd6 f8 x8⟩
     ·exact ⟨(1,1),aJ (B12 _ _ (S8.ne hp9) ((T10.trans T11) _ _ h9)),⟨by decide,by decide⟩,⟨by decide,by decide⟩,Int.one_dvd _⟩
     ·exact ⟨(-1,1),aJ (B12 _ _ ((S8.same T9).ne hp10) (T11 _ _ h10)),⟨by decide,by decide⟩,⟨by decide,by decide⟩,Int.one_dvd _⟩
    obtain ⟨⟨k1,k2⟩,k3⟩:=bqs _ (List.getElem_mem hj)
    refine ⟨p11,rfl,_,h12,v12,hv12,?_⟩
    simp only [dw]
    walk_at "vc"
    refine ⟨_,ri',q12,r12,k1.ne,f12.ne,k2.mono (by decide),b12.mono (by decide),(k2.2.mul b12.2).mono (by decide),fun v13 H13 S13 r13=>⟨xs,S13 _ _ hx12,j,kv (by walk_at "o"),fun H14 B14 h14=>?_⟩⟩
    have B0d:dI st (vw K H) (vw K H13):=((((B06.trans B7).trans B8).same_trans T811).trans B12).same_trans S13
    refine h b H14 _ (fun c o hc e=>B14 _ _ (ak e nb0) (B0d _ _ hc e)) ((S12.same S13).but (S13 _ _ hx12) nbs.symm B14) (aH.chg (S13 _ _ hx12) (rx12.same S13) r13 B14 h14) (by rw [List.length_set]; walk_at "o") (by rw [List.length_set]; walk_at "o") (fun q hq=>?_) nb0
    rcases List.mem_or_eq_of_mem_set hq with z | rfl
    ·exact ⟨(bqs q z).1.1,(bqs q z).1.2.mono (by decide),(bqs q z).2⟩
    ·exact ⟨fM k1 f12,(jK k1 f12 k2 b12).mono (by decide),Bm k1 f12 k3 x12⟩
   ·exact h b H6 qs B06 (S5.same S6) l6 (by walk_at "o") (by walk_at "o") (fun q hq=>⟨(bqs q hq).1.1,(bqs q hq).1.2.mono (by decide),(bqs q hq).2⟩) nb0
def mQ (K:PySem.W.Frag):Sp:=fun vs H Q _=>∃ (a b:Addr) (n m k:Nat) (W p:Nat -> Int),vs = [.ref a,.ref b,.int k] /\ IL (vw K H) a n W /\ IL (vw K H) b m p /\ k + m <= n /\ m <= 20 /\ (∀ i,Bt 2000 (W i)) /\ (∀ i,Bt 2000 (p i)) /\ ∀ H',aw (vw K H) (vw K H') -> Q (.int (bC (fun i=>p i * W (k + i)) m)) H'
theorem Cu (F:cU K "met" "met" oW f fd) (T:dH K mg):aV P w K mg base cV 1 f fd ["wholes", "row", "k"] (mQ K):=by
 have scN:=wU.nd
 refine F.okQ wU (fun vs H Q E h=>?_) (fun cdv A outer s H vs Q E hr h=>?_)
 ·obtain ⟨_,_,_,_,_,_,_,rfl,_⟩:=h
  rfl
 ·obtain ⟨a,b,n,m,k,W,p,rfl,ha,hb,hk,hm,bW,bp,h⟩:=h
  refine ⟨_,(ag (ar (ai (pK rfl) (by rfl) T.b_sum ym (aa (eh (own:=["number", "whole"]) (outs:=[]) (ixs:=[]) rfl (wO rfl T.b_zip (aa (qv 1) (aa (gE gN (qv 0) (hU (qv 2)) jb) ac))) rfl ⟨rfl,rfl,rfl,trivial,rfl,trivial⟩ (fun _ _ _ _=>⟨(show QG _ _ (jr K 2 _) from br (n:=2) rfl (ay (am (i:=0) (show (["number", "whole"]:List Str).Nodup by decide +kernel) rfl (by walk_at "a1")) (ay (am (i:=1) (show (["number", "whole"]:List Str).Nodup by decide +kernel) rfl (by walk_at "a1")) bo))),gc,(ap (show fo _ _ (im K) from aL) (qv 0) (qv 1))⟩)) ac)))),?_⟩
  walk_at "m"
  walk_at "vc"
  simp only [A0]
  walk_at "vc"
  refine ⟨_,ha,fun c H1 hc S1 h1=>?_⟩
  rw [sj (by rw [be]; walk_at "o"),Az] at h1
  have hb1:=hb.same S1
  refine ⟨c,rfl,true,⟨_,hb1⟩,true,⟨_,h1⟩,fun d H2 hd S2 h2=>?_⟩
  have ez:(lz m fun i=>V.int (p i)).zip (lz (n - k) fun i=>V.int (W (k + i))) = lz m fun i=>(V.int (p i),V.int (W (k + i))):=DF (by walk_at "o")
  refine oX (ps:=(lz m fun i=>V.int (p i)).zip (lz (n - k) fun i=>V.int (W (k + i)))) (fun i zs H'=>aw (vw K H1) (vw K H') /\ zs = lz i fun i=>V.int (p i * W (k + i))) (fun i zs H' _ _ q=>⟨_,_,q.1 _ _ hb1,q.1 _ _ h1,rD.symm⟩) h2 ⟨S2,rfl⟩ (fun i u v zs H8 H9 hi huv h9 q S89=>?_) (fun zs H8 h8 q=>?_)
  ·obtain ⟨S8,rfl⟩:=q
   rw [ez] at hi huv
   rw [be] at hi
   rw [cG hi] at huv
   cases huv
   walk_at "vc"
   refine ⟨bU (bp i) (bW _) (by decide),.mk2 h9 ?_ fun H10 B10 h10=>⟨fun b o e=>B10 _ _ (ak e hd) (S89 _ _ (S8 _ _ e)),jP.symm⟩⟩
   rw [be]
   exact Nat.lt_of_le_of_lt (show i <= 20 by walk_at "o") (by decide)
  ·obtain ⟨S8,rfl⟩:=q
   rw [ez,be] at h8
   refine ⟨lz m fun i=>p i * W (k + i),by rw [h8,rc],?_⟩
   rw [uH]
   exact h H8 (S1.trans S8)
def rS:Nat -> Nat
 | 0=>0
 | n + 1=>n + 1
theorem mB {W:Nat -> Int} (k i:Nat):bC (fun j=>qk W k j * W (i + j)) (k + 1) = Lq W k i:=by
 rw [qq]
 exact eX _ fun j _=>Int.mul_comm _ _
theorem uG {te:TE} {v0 v1 v2 v3 v4 v5 v6 o8 o9:Option V} {t e:Addr} {m N:Nat} {f p:Nat -> Int} {c:Int} {H0 H1:Hp} {D:kP} (he:IL (vw K H0) e m p) (ht0:vw K H0 t = none) (S01:aw (vw K H0) (vw K H1)) (ht:IL (vw K H1) t N f) (hm:m <= N)
  (hte:∀ i H' (Qk:VK),i < m -> Qk (.int (c * p i)) H' -> te [v0,v1,v2,v3,v4,v5,v6,some (.ref t),some (.int (i:Nat)),some (.int (p i))] H' Qk)
  (hQ:∀ o8 o9 H',aw (vw K H0) (vw K H') -> IL (vw K H') t N (fun j=>f j - if j < m then c * p j else 0) -> D.nx [v0,v1,v2,v3,v4,v5,v6,some (.ref t),o8,o9] H') :
  vD (Cs K (xW K e)) (jr K 2 (jz (gm 8) (jz (gm 9) tX))) (sK (AJ 7) (AJ 8) te (fun o i H Q=>∃ p,o = V.ref p /\ ∃ k,i = V.int k /\ ∃ xs,vw K H p = some (HO.lst xs) /\ ∃ v,lV xs k = some v /\ Q v H) (EC fun i j=>i - j) (uC K)) D [v0,v1,v2,v3,v4,v5,v6,some (.ref t),o8,o9] H1:=by
 obtain ⟨Pv,hPv⟩ : ∃ Pv:Nat -> St -> Hp -> Prop,∀ i σ H',Pv i σ H' ↔ ∃ o8 o9,σ = [v0,v1,v2,v3,v4,v5,v6,some (.ref t),o8,o9] /\ aw (vw K H0) (vw K H') /\ IL (vw K H') t N (fun j=>f j - if j < i then c * p j else 0):=⟨_,fun _ _ _=>Iff.rfl⟩
 refine j8 (rows:=(lz m fun i=>V.int (p i)).mapIdx fun i x=>[V.int i,x]) Pv (fun i σ H' _ q=>?_) ((hPv _ _ _).mpr ⟨_,_,rfl,S01,?_⟩) (fun i r σ H2 q H3 hi hr pv hq S3 h3=>?_) (fun σ H2 pv=>?_)
 ·obtain ⟨_,_,_,S,_⟩:=(hPv _ _ _).mp q
  exact ⟨_,aO (S _ _ he),rfl⟩
 ·unfold IL at ht ⊢
  rw [ht]
  congr 2
  exact gK fun j hj=>by dsimp only; rw [if_neg (by walk_at "o"),Int.sub_zero]
 ·obtain ⟨o8,o9,rfl,S2,l2⟩:=(hPv _ _ _).mp pv
  rw [List.length_mapIdx,be] at hi
  rw [List.getElem?_mapIdx,cG hi] at hr
  cases hr
  have l3:=l2.same S3
  walk_at "vc"
  simp only [sK,EC]
  walk_at "vc"
  refine ⟨_,h3,rfl,_,_,rfl,_,_,rfl,rfl,_,rfl,_,l3,_,Cb (show i < N by walk_at "o"),hte i H3 _ hi ⟨_,rfl,_,rfl,_,rfl,_,l3,i,by rw [be]; exact kv (by walk_at "o"),fun H4 B4 h4=>(hPv _ _ _).mpr ⟨_,_,rfl,fun x o z=>B4 _ _ (ak z ht0) (S3 _ _ (S2 _ _ z)),?_⟩⟩⟩
  unfold IL
  rw [h4,yb]
  congr 2
  refine gK fun j hj=>?_
  dsimp only
  by_cases ej:j = i
  ·rw [if_pos ej,ej,if_neg (by walk_at "o"),if_pos (by walk_at "o"),Int.sub_zero]
  ·rw [if_neg ej]
   by_cases z:j < i
   ·rw [if_pos z,if_pos (by walk_at "o")]
   ·rw [if_neg z,if_neg (by walk_at "o")]
 ·obtain ⟨o8,o9,rfl,S2,l2⟩:=(hPv _ _ _).mp pv
  rw [List.length_mapIdx,be] at l2
  exact hQ _ _ _ S2 l2
def iz (K:PySem.W.Frag):Sp:=fun vs H Q _=>∃ (a b c:Addr) (n k:Nat) (W:Nat -> Int),vs = [.ref a,.ref b,.ref c] /\ IL (vw K H) a n W /\ IL (vw K H) b (k + 1) (qk W k) /\ IL (vw K H) c (rS k) (kZ W k) /\ 2 * (k + 1) <= n /\ k <= 5 /\ (∀ i,Bt 170 (W i)) /\ (∀ i,i <= k + 1 -> 0 < Dk W i) /\
 ∀ d H',aw (vw K H) (vw K H') -> vw K H d = none -> IL (vw K H') d (k + 2) (qk W (k + 1)) -> Q (.ref d) H'
theorem sf (F:cU K "next_row" "next_row" eV f fd) (T:dH K mg) (C_met:aP P w K mg base "met" ["wholes", "row", "k"] 1 (mQ K)):aV P w K mg base cV 2 f fd ["wholes", "row", "before"] (iz K):=by
 have scN:=lX.nd
 refine F.okQ lX (fun vs H Q E h=>?_) (fun cdv A outer s H vs Q E hr h=>?_)
 ·obtain ⟨_,_,_,_,_,_,rfl,_⟩:=h
  rfl
 ·obtain ⟨a,b,c,n,k,W,rfl,ha,hb,hc,hn,hk,bW,hD,h⟩:=h
  refine ⟨_,(af (az (i:=3) scN rfl (by walk_at "a1") (ap cZ (ai aB (by rfl) T.b_len aT (aa (qv 1) ac)) ad))
   (af (cF (av (aa (aA cJ (qv 1) (eR cY ad) (fun _ _=>rfl)) (aa (ah C_met (hr.mono (by walk_at "a2")) rfl (aa (qv 0) (aa (qv 1) (aa (qv 3) ac)))) ac))) (br (n:=2) rfl (ay (am (i:=4) scN rfl (by walk_at "a1")) (ay (am (i:=5) scN rfl (by walk_at "a1")) bo))))
   (af (az (i:=6) scN rfl (by walk_at "a1") (ap aL (qv 4) (ah C_met (hr.mono (by walk_at "a2")) rfl (aa (qv 0) (aa (qv 1) (aa (ap aS (qv 3) ad) ac))))))
   (af (bT (aN km (qv 3) ad (aK _)) (ag (qX (i:=6) scN rfl (by walk_at "a1") (ap aL (qv 5) (aA cJ (qv 1) (eR cY ad) (fun _ _=>rfl))) xI)) aR)
   (af (zQ (i:=7) (own:=["number"]) (outs:=["last", "height"]) (ixs:=[4,5]) scN rfl (by walk_at "a1") rfl (dZ (ap aS (aD (aa ad ac)) (qv 1))) rfl ⟨rfl,rfl,rfl,⟨rfl,⟨rfl,trivial⟩⟩,rfl,⟨⟨rfl,rfl,rfl,_,rfl⟩,⟨⟨rfl,rfl,rfl,_,rfl⟩,trivial⟩⟩⟩ (fun _ _ _ _=>⟨(am (i:=0) (show (["number", "last", "height"]:List Str).Nodup by decide +kernel) rfl (by walk_at "a1")),gc,(ap (show fo _ _ (im K) from aL) (ap (show fo _ _ (im K) from aL) (qv 1) (qv 2)) (qv 0))⟩))
   (af (cr PassesOwn.never rfl (ka rfl T.b_enumerate (aa (qv 1) ac)) (br (n:=2) rfl (ay (am (i:=8) scN rfl (by walk_at "a1")) (ay (am (i:=9) scN rfl (by walk_at "a1")) bo))) (ag (rg (qv 7) (qv 8) kW (ap aL (qv 6) (qv 9)) tj eJ)))
   (af (cr PassesOwn.never rfl (ka rfl T.b_enumerate (aa (qv 2) ac)) (br (n:=2) rfl (ay (am (i:=8) scN rfl (by walk_at "a1")) (ay (am (i:=9) scN rfl (by walk_at "a1")) bo))) (ag (rg (qv 7) (qv 8) kW (ap aL (ap aL (qv 5) (qv 5)) (qv 9)) tj eJ)))
   (ag (ar (eh (own:=["number"]) (outs:=["last"]) (ixs:=[4]) rfl (dZ (qv 7)) rfl ⟨rfl,rfl,rfl,⟨rfl,trivial⟩,rfl,⟨⟨rfl,rfl,rfl,_,rfl⟩,trivial⟩⟩ (fun _ _ _ _=>⟨(am (i:=0) (show (["number", "last"]:List Str).Nodup by decide +kernel) rfl (by walk_at "a1")),gc,(ap nI (qv 0) (ap (show fo _ _ (im K) from aL) (qv 1) (qv 1)))⟩))))))))))),?_⟩
  walk_at "m"
  have bq:∀ i,Bt 1046 (qk W k i):=fun i=>(lY bW (by walk_at "o")).mono (by decide)
  have bq':∀ i,Bt 2000 (qk W k i):=fun i=>(bq i).mono (by decide)
  have bW':∀ i,Bt 2000 (W i):=fun i=>(bW i).mono (by decide)
  refine bv.gen fun N1 hN1=>?_
  walk_at "vc"
  refine ⟨_,hb.len,hN1 _ _ ?_⟩
  rw [show (((k + 1:Nat):Int) - 1) = (k:Int) by walk_at "o"]
  refine bv.gen fun N2 hN2=>?_
  walk_at "vc"
  refine ⟨_,hb,_,mw,a,b,n,k + 1,k,W,qk W k,rfl,ha,hb,by walk_at "o",by walk_at "o",bW',bq',fun H1 S1=>⟨by decide,fun t0 H2 ht0 S2 h2=>⟨t0,rfl,_,h2,rfl,_,_,rfl,_,_,rfl,rfl,hN2 _ _ ?_⟩⟩⟩
  have S02:=S1.trans S2
  rw [mB,eY,eO]
  have bD:Bt 1046 (Dk W k):=(jx bW (by walk_at "o")).mono (by decide)
  have bD1:Bt 1046 (Dk W (k + 1)):=(jx bW (by walk_at "o")).mono (by decide)
  have bL:Bt 1046 (Lq W k (k + 1)):=(um bW (by walk_at "o")).mono (by decide)
  refine bv.gen fun N3 hN3=>?_
  walk_at "vc"
  rw [show (k:Int) + 1 = ((k + 1:Nat):Int) by walk_at "o"]
  refine ⟨a,b,n,k + 1,k + 1,W,qk W k,rfl,ha.same S02,hb.same S02,by walk_at "o",by walk_at "o",bW',bq',fun H3 S3=>?_⟩
  rw [mB]
  walk_at "vc"
  refine ⟨bU bD bL (by decide),hN3 _ _ ?_⟩
  have S03:=S02.trans S3
  refine bv.gen fun N4 hN4=>?_
  have bM:Bt 2100 (me W k):=by
   cases k with
   | zero=>exact (bD.mul bL).mono (by decide)
   | succ m =>
    have h1:Bt 2092 (Dk W (m + 1) * Lq W (m + 1) (m + 2)):=bD.mul bL
    have h2:Bt 2092 (Dk W (m + 2) * qk W (m + 1) m):=bD1.mul (bq m)
    exact (h1.add h2).mono (by decide)
  have go:N4 [some (.ref a),some (.ref b),some (.ref c),some (.int k),some (.int (Dk W k)),some (.int (Dk W (k + 1))),some (.int (me W k)),none,none,none] H3:=by
   refine hN4 _ _ ?_
   refine bv.gen fun N5 hN5=>?_
   walk_at "vc"
   refine ⟨by decide,fun z0 H4 hz0 S4 h4=>?_⟩
   walk_at "vc"
   refine ⟨_,h4,_,S4 _ _ (S03 _ _ hb),?_,fun z1 H5 hz1 S5 h5=>⟨z1,rfl,⟨_,.of (aO h5)⟩,fun t H6 ht S6 h6=>?_⟩⟩
   ·rw [be]
    exact Nat.le_trans (show _ <= 20 by simp; walk_at "o") (by decide)
   have e5:[V.int 0] ++ (lz (k + 1) fun i=>V.int (qk W k i)) = lz (k + 2) fun i=>V.int (vL (qk W k) i):=(mK (n:=k + 1) (h:=fun i=>V.int (vL (qk W k) i))).symm
   rw [e5] at h5
   have bs:∀ i,Bt 1046 (vL (qk W k) i):=fun i=>by
    cases i with
    | zero=>show Bt 1046 0; decide
    | succ i=>exact bq i
   have bDD:Bt 2092 (Dk W k * Dk W (k + 1)):=bD.mul bD1
   refine de (its:=lz (k + 2) fun i=>V.int (vL (qk W k) i)) (fun i zs H'=>aw (vw K H5) (vw K H') /\ zs = lz i fun i=>V.int (Dk W k * Dk W (k + 1) * vL (qk W k) i)) (fun i zs H' _ _ q=>bY (q.1 _ _ h5)) h6 ⟨S6,rfl⟩ (fun i x zs H8 hi hx h8 q=>?_) (fun zs H8 h8 q=>hN5 _ _ ?_)
   ·obtain ⟨S8,rfl⟩:=q
    rw [be] at hi
    rw [cG hi] at hx
    cases hx
    walk_at "vc"
    refine ⟨bU bD bD1 (by decide),bU bDD (bs i) (by decide),.mk h8 ?_ fun H10 B10 h10=>⟨fun b o e=>B10 _ _ (ak e ht) (S8 _ _ e),jP.symm⟩⟩
    rw [be]
    exact Nat.lt_of_le_of_lt (show i <= 20 by walk_at "o") (by decide)
   obtain ⟨S8,rfl⟩:=q
   rw [be] at h8
   have S35:=S4.trans S5
   have S38:=S35.trans S8
   have ht3:=S35.free ht
   refine bv.gen fun N6 hN6=>?_
   walk_at "vc"
   simp only [oh]
   walk_at "vc"
   refine ⟨⟨_,S38 _ _ (S03 _ _ hb)⟩,uG (p:=qk W k) (c:=me W k) (m:=k + 1) (N:=k + 2) (f:=fun i=>Dk W k * Dk W (k + 1) * vL (qk W k) i) (hb.same S03) ht3 S38 h8 (by walk_at "o") (fun i H' Qk hi z=>?_) (fun o8 o9 H9 S9 h9=>hN6 _ _ ?_)⟩
   ·walk_at "vc"
    exact ⟨bU bM (bq i) (by decide),z⟩
   refine bv.gen fun N7 hN7=>?_
   walk_at "vc"
   simp only [oh]
   walk_at "vc"
   have bb:∀ i,Bt 1046 (kZ W k i):=fun i=>by
    cases k with
    | zero=>show Bt 1046 0; decide
    | succ m=>exact (lY bW (by walk_at "o")).mono (by decide)
   refine ⟨⟨_,S9 _ _ (S03 _ _ hc)⟩,uG (p:=kZ W k) (c:=Dk W (k + 1) * Dk W (k + 1)) (m:=rS k) (N:=k + 2) (hc.same S03) ht3 S9 h9 (by cases k <;> simp [rS]) (fun i H' Qk hi z=>?_) (fun o8 o9 Ha Sa ha'=>hN7 _ _ ?_)⟩
   ·walk_at "vc"
    exact ⟨bU bD1 bD1 (by decide),bU (bD1.mul bD1) (bb i) (by decide),z⟩
   have hne:∀ i,i <= k + 1 -> Dk W i ≠ 0:=fun i hi=>by have:=hD i hi; walk_at "o"
   have fin:∀ j,j < k + 2 -> (Dk W k * Dk W (k + 1) * vL (qk W k) j - if j < k + 1 then me W k * qk W k j else 0) - (if j < rS k then Dk W (k + 1) * Dk W (k + 1) * kZ W k j else 0) = Dk W k * Dk W k * qk W (k + 1) j:=fun j hj=>by
    rw [<- xq hne j]
    have e1:(if j < k + 1 then me W k * qk W k j else 0) = me W k * qk W k j:=by
     by_cases z:j < k + 1
     ·rw [if_pos z]
     ·rw [if_neg z,dt (by walk_at "o"),Int.mul_zero]
    have e2:(if j < rS k then Dk W (k + 1) * Dk W (k + 1) * kZ W k j else 0) = Dk W (k + 1) * Dk W (k + 1) * kZ W k j:=by
     by_cases z:j < rS k
     ·rw [if_pos z]
     ·rw [if_neg z]
      cases k with
      | zero=>show _ = _ * (0:Int); rw [Int.mul_zero]
      | succ m =>
       show _ = _ * qk W m j
       rw [dt (by simp only [rS] at z; walk_at "o"),Int.mul_zero]
    rw [e1,e2]
   have h11:IL (vw K Ha) t (k + 2) (fun j=>Dk W k * Dk W k * qk W (k + 1) j):=by
    unfold IL at ha' ⊢
    rw [ha']
    congr 2
    exact gK fun j hj=>congrArg V.int (fin j hj)
   walk_at "vc"
   refine ⟨⟨_,.of (aO h11)⟩,fun d Hb hd Sb hb2=>?_⟩
   have hD0:Dk W k ≠ 0:=hne k (by walk_at "o")
   have bk1:∀ i,Bt 1046 (qk W (k + 1) i):=fun i=>(zg bW (by walk_at "o")).mono (by decide)
   refine de (its:=lz (k + 2) fun j=>V.int (Dk W k * Dk W k * qk W (k + 1) j)) (fun i zs H'=>aw (vw K Ha) (vw K H') /\ zs = lz i fun i=>V.int (qk W (k + 1) i)) (fun i zs H' _ _ q=>bY (q.1 _ _ h11)) hb2 ⟨Sb,rfl⟩ (fun i x zs Hc hi hx hc' q=>?_) (fun zs Hc hc' q=>?_)
   ·obtain ⟨Sc,rfl⟩:=q
    rw [be] at hi
    rw [cG hi] at hx
    cases hx
    walk_at "vc"
    have hDD:Dk W k * Dk W k ≠ 0:=Int.mul_ne_zero hD0 hD0
    refine ⟨bU bD bD (by decide),Dv hDD ((bD.mul bD).mono (by decide)),?_⟩
    rw [Int.mul_comm (Dk W k * Dk W k) (qk W (k + 1) i),Int.mul_fdiv_cancel _ hDD]
    refine .mk hc' ?_ fun H10 B10 h10=>⟨fun b o e=>B10 _ _ (ak e hd) (Sc _ _ e),jP.symm⟩
    rw [be]
    exact Nat.lt_of_le_of_lt (show i <= 20 by walk_at "o") (by decide)
   ·obtain ⟨Sc,rfl⟩:=q
    rw [be] at hc'
    exact h d Hc (S03.trans (Sa.trans Sc)) ((S03.trans Sa).free hd) hc'
  walk_at "vc"
  cases k with
  | zero=>exact kc (by decide) go
  | succ m =>
   refine oH (by walk_at "o") ⟨_,S03 _ _ hb,_,x9,?_⟩
   rw [ge]
   exact ⟨bU bD1 (bq m) (by decide),_,_,rfl,rfl,go⟩
def ng (G:Hp) (R:Addr) (W:Nat -> Int) (n:Nat):Prop:=∃ as:List Addr,G R = some (.lst (as.map V.ref)) /\ as.length = n /\ ∀ i x,as[i]? = some x -> IL G x (i + 1) (qk W i)
theorem ng.same {G G':Hp} {R:Addr} {W:Nat -> Int} {n:Nat} (h:ng G R W n) (S:aw G G'):ng G' R W n:=by
 obtain ⟨as,h1,h2,h3⟩:=h
 exact ⟨as,S _ _ h1,h2,fun i x e=>(h3 i x e).same S⟩
theorem BH {G:Hp} {R x:Addr} {as:List Addr} {n:Nat} {p:Nat -> Int} (h:G R = some (.lst (as.map V.ref))) (h0:as ≠ []) (hx:IL G x n p):x ≠ R:=fun e=>by
 unfold IL at hx
 rw [e,h] at hx
 cases as with
 | nil=>exact h0 rfl
 | cons a as =>
  cases n with
  | zero=>cases hx
  | succ n =>
   rw [mK] at hx
   cases hx
theorem nG {α:Type} {xs:List α} {n:Nat} {x:α} (hl:xs.length = n + 1) (h:xs[n]? = some x):lV xs (-1) = some x:=gr (by rw [List.getLast?_eq_getElem?,hl]; exact h)
theorem FA {W:Nat -> Int}:qk W 0 0 = 1:=by rw [eO,wa]
def eQ (K:PySem.W.Frag):Sp:=fun vs H Q _=>∃ (a:Addr) (n:Nat) (W:Nat -> Int),vs = [.ref a] /\ IL (vw K H) a n W /\ n <= 12 /\ (∀ i,Bt 170 (W i)) /\
 ∀ R H' k,aw (vw K H) (vw K H') -> ng (vw K H') R W (k + 1) -> k <= 6 -> (∀ i,i <= k -> 0 < Dk W i /\ 2 * i <= n) -> (n < 2 * (k + 1) \/ Dk W (k + 1) <= 0) -> Q (.ref R) H'
theorem qG (F:cU K "step_rows" "step_rows" eL f fd) (T:dH K mg) (C_met:aP P w K mg base "met" ["wholes", "row", "k"] 1 (mQ K)) (C_next_row:aP P w K mg base "next_row" ["wholes", "row", "before"] 2 (iz K)):aV P w K mg base cV 3 f fd ["wholes"] (eQ K):=by
 have scN:=jH.nd
 refine F.okQ jH (fun vs H Q E h=>?_) (fun cdv A outer s H vs Q E hr h=>?_)
 ·obtain ⟨_,_,_,rfl,_⟩:=h
  rfl
 ·obtain ⟨a,n,W,rfl,ha,hn,bW,h⟩:=h
  refine ⟨_,(af (az (i:=1) scN rfl (by walk_at "a1") (aD (aa (aD (aa ad ac)) ac)))
   (af (az (i:=2) scN rfl (by walk_at "a1") (aD ac))
   (af (gL PassesOwn.never (QW.pt (oj (aN yk (ap aL ad (ai aB (by rfl) T.b_len aT (aa (qv 1) ac))) (ai aB (by rfl) T.b_len aT (aa (qv 0) ac)) (aK _)) (kG (aN km (ah C_met (hr.mono (by walk_at "a2")) rfl (aa (qv 0) (aa (aA cJ (qv 1) (eR cY ad) (fun _ _=>rfl)) (aa (ap cZ (ai aB (by rfl) T.b_len aT (aa (qv 1) ac)) ad) ac)))) ad (aK _))))) (af (az (i:=3) scN rfl (by walk_at "a1") (ah C_next_row (hr.mono (by walk_at "a2")) rfl (aa (qv 0) (aa (aA cJ (qv 1) (eR cY ad) (fun _ _=>rfl)) (aa (qv 2) ac)))))
   (af (az (i:=2) scN rfl (by walk_at "a1") (aA cJ (qv 1) (eR cY ad) (fun _ _=>rfl)))
   (ag (gT (rX PySem.F.plainAttrs_list PySem.F.slot_list_append PySem.F.type_list_append fZ (qv 1) (aa (qv 3) ac)))))))
   (ag (ar (qv 1)))))),?_⟩
  walk_at "m"
  have bW':∀ i,Bt 2000 (W i):=fun i=>(bW i).mono (by decide)
  refine bv.gen fun N1 hN1=>?_
  walk_at "vc"
  refine ⟨by decide,fun r0 H1 hr0 S1 h1=>⟨by decide,fun R H2 hR S2 h2=>hN1 _ _ ?_⟩⟩
  refine bv.gen fun N2 hN2=>?_
  walk_at "vc"
  refine ⟨Nat.zero_le _,fun bf H3 hbf S3 h3=>hN2 _ _ ?_⟩
  refine bv.gen fun N3 hN3=>?_
  have S03:=S1.trans (S2.trans S3)
  have hR0:vw K H R = none:=S1.free hR
  refine ⟨fun m σ H'=>∃ (bf:Addr) (k:Nat) (o:Option V),m = 20 - k /\ k <= 6 /\ σ = [some (.ref a),some (.ref R),some (.ref bf),o] /\ aw (vw K H) (vw K H') /\ ng (vw K H') R W (k + 1) /\ IL (vw K H') bf (rS k) (kZ W k) /\ ∀ i,i <= k -> 0 < Dk W i /\ 2 * i <= n,⟨20,bf,0,none,rfl,by decide,rfl,S03,⟨[r0],S3 _ _ h2,rfl,fun i x e=>?_⟩,h3,fun i hi=>?_⟩,?_⟩
  ·cases i with
   | zero =>
    cases e
    show vw K H3 r0 = some (.lst (lz 1 fun i=>V.int (qk W 0 i)))
    rw [(S2.trans S3) _ _ h1,mK,FA]
    rfl
   | succ i=>simp at e
  ·have:i = 0:=by walk_at "o"
   rw [this,wa]
   exact ⟨by decide,by walk_at "o"⟩
  rintro m σ H4 ⟨bf,k,o,rfl,hk,rfl,S4,rw4,b4,hD⟩
  obtain ⟨as,hR4,las,has⟩:=id rw4
  have h0:as ≠ []:=fun z=>by rw [z] at las; cases las
  obtain ⟨x,hx⟩ : ∃ x,as[k]? = some x:=⟨as[k],List.getElem?_eq_getElem (by walk_at "o")⟩
  have lx:=has k x hx
  have hx':lV (as.map V.ref) (-1) = some (.ref x):=nG (n:=k) (by rw [List.length_map,las]) (by rw [List.getElem?_map,hx]; rfl)
  have done:n < 2 * (k + 1) \/ Dk W (k + 1) <= 0 -> ∀ H5,aw (vw K H4) (vw K H5) -> N3 [some (.ref a),some (.ref R),some (.ref bf),o] H5:=fun hd H5 S5=>by
   refine hN3 _ _ ?_
   walk_at "vc"
   exact h R H5 k (S4.trans S5) (rw4.same S5) hk hD hd
  have lR:fA (vw K H4) R = some (k + 1):=by
   simp only [fA,hR4]
   rw [List.length_map,las]
  walk_at "vc"
  refine ⟨k + 1,lR,eT (by decide),n,(ha.same S4).len,bV (fun e1=>⟨_,hR4,_,hx',k + 1,lR,?_⟩) (fun e1=>done (.inl (by walk_at "o")) H4 (fun _ _ z=>z))⟩
  rw [show (((k + 1:Nat):Int) - 1) = (k:Int) by walk_at "o"]
  have bq':∀ i,Bt 2000 (qk W k i):=fun i=>(zg bW (by walk_at "o")).mono (by decide)
  refine ⟨a,x,n,k + 1,k,W,qk W k,rfl,ha.same S4,lx,by walk_at "o",by walk_at "o",bW',bq',fun H5 S5=>⟨_,rfl,?_⟩⟩
  rw [mB,eY]
  refine bV (fun e2=>⟨_,fun σ' H' z=>z,_,S5 _ _ hR4,_,hx',?_⟩) (fun e2=>done (.inr (by walk_at "o")) H5 S5)
  have hn2:2 * (k + 1) <= n:=by walk_at "o"
  have S45:=S4.trans S5
  refine ⟨a,x,bf,n,k,W,rfl,ha.same S45,lx.same S5,b4.same S5,hn2,by walk_at "o",bW,fun i hi=>?_,fun d H6 S6 hd l6=>?_⟩
  ·by_cases z:i <= k
   ·exact (hD i z).1
   ·rw [show i = k + 1 by walk_at "o"]
    exact e2
  have S46:=S5.trans S6
  refine ⟨_,S46 _ _ hR4,_,hx',kN (S46 _ _ hR4),_,S46 _ _ hR4,?_,fun H7 B7 h7=>⟨20 - (k + 1),by walk_at "o",x,k + 1,rfl,by walk_at "o",⟨_,rfl⟩,fun y o e=>B7 _ _ (ak e hR0) (S46 _ _ (S4 _ _ e)),⟨as ++ [d],?_,by rw [List.length_append,las]; rfl,fun i y e=>?_⟩,?_,fun i hi=>?_⟩⟩
  ·rw [List.length_map,las]
   exact Nat.lt_of_le_of_lt (show _ <= 20 by walk_at "o") (by decide)
  ·rw [h7,List.map_append]
   rfl
  ·have l7:IL (vw K H6) y (i + 1) (qk W i):=by
    by_cases z:i < as.length
    ·rw [List.getElem?_append_left z] at e
     exact (has i y e).same S46
    ·rw [List.getElem?_append_right (by walk_at "o")] at e
     have:i = k + 1:=by
      have h1:=(List.getElem?_eq_some_iff.mp e).1
      simp at h1
      walk_at "o"
     rw [this,las,Nat.sub_self] at e
     cases e
     rw [this]
     exact l6
   exact B7 _ _ (BH (S46 _ _ hR4) h0 l7) l7
  ·exact B7 _ _ (BH (S46 _ _ hR4) h0 (lx.same S46)) (lx.same S46)
  ·by_cases z:i <= k
   ·exact hD i z
   ·rw [show i = k + 1 by walk_at "o"]
    exact ⟨e2,by walk_at "o"⟩
structure cH (W:Nat -> Int) (B:Int) (k:Nat) (c:List (Int × Int) × (Int × Int)):Prop where
 po:ba c.1
 num:∀ j,cf c.1 j = ((qk W k j:Int):Rat) / ((Dk W k:Int):Rat)
 fq:Fq c.2
 sqv:wv c.2 = ((Dk W (k + 1):Int):Rat) / ((Dk W k * B:Int):Rat)
def cX (G:Hp) (t:Addr) (pss:List (List (Int × Int) × (Int × Int))) (Pr:Addr -> Prop):Prop:=∃ xs,G t = some (.lst xs) /\ xs.length = pss.length /\ ∀ (k:Nat) c,pss[k]? = some c -> ∃ (x l:Addr) (v:V),xs[k]? = some (.ref x) /\ G x = some (.tup [.ref l,v]) /\ aH G l c.1 /\ aC G (fr c.2) v /\ Pr l
structure ky (qs:List (Int × Int)) (W:Nat -> Int) (B:Int):Prop where
 pos:0 < B
 val:∀ i,((W i:Int):Rat) = cf qs i * (B:Rat)
 least:∀ E:Int,(∀ q ∈ qs,q.2 ∣ E) -> B ∣ E
 bt:∀ i,Bt 170 (W i)
theorem ky.dvd {qs:List (Int × Int)} {W:Nat -> Int} {B:Int} (h:ky qs W B) (hF:∀ q ∈ qs,Fq q):∀ q ∈ qs,q.2 ∣ B:=fun q hq=>by
 obtain ⟨i,hi,rfl⟩:=List.getElem_of_mem hq
 have e:=h.val i
 rw [aW (List.getElem?_eq_getElem hi)] at e
 have c1:(B:Rat) ≠ 0:=aj (by have:=h.pos; walk_at "o")
 exact iI (n:=W i) (hF _ hq) (by have:=h.pos; walk_at "o") (by rw [e]; grind)
theorem ky.uniq {qs:List (Int × Int)} {W W':Nat -> Int} {B B':Int} (h:ky qs W B) (h':ky qs W' B') (hF:∀ q ∈ qs,Fq q):B = B' /\ W = W':=by
 have e:B = B':=Int.dvd_antisymm (Int.le_of_lt h.pos) (Int.le_of_lt h'.pos) (h.least _ (h'.dvd hF)) (h'.least _ (h.dvd hF))
 refine ⟨e,funext fun i=>?_⟩
 have:=h.val i
 rw [e,<- h'.val i] at this
 exact Rat.intCast_inj.mp this
theorem cX.same {G G':Hp} {t:Addr} {pss:List (List (Int × Int) × (Int × Int))} {Pr:Addr -> Prop} (h:cX G t pss Pr) (S:aw G G'):cX G' t pss Pr:=by
 obtain ⟨xs,h1,h2,h3⟩:=h
 refine ⟨xs,S _ _ h1,h2,fun k c e=>?_⟩
 obtain ⟨x,l,v,e1,e2,e3,e4,e5⟩:=h3 k c e
 exact ⟨x,l,v,e1,S _ _ e2,e3.same S,aC.same S _ _ e4,e5⟩
structure jo (W:Nat -> Int) (n M:Nat):Prop where
 one:1 <= M
 up:∀ i,i < M -> 0 < Dk W i
 most:2 * M <= n + 1
 all:n <= 2 * M \/ Dk W M <= 0
theorem jo.uniq {W:Nat -> Int} {n M M':Nat} (h:jo W n M) (h':jo W n M'):M = M':=by
 rcases Nat.lt_trichotomy M M' with z | z | z
 ·have:=h'.up M z
  have:=h'.most
  rcases h.all with y | y <;> walk_at "o"
 ·exact z
 ·have:=h.up M' z
  have:=h.most
  rcases h'.all with y | y <;> walk_at "o"
def gM (K:PySem.W.Frag):Sp:=fun vs H Q _=>∃ (a:Addr) (qs:List (Int × Int)),vs = [.ref a] /\ aH (vw K H) a qs /\ 1 <= qs.length /\ qs.length <= 11 /\ (∀ q ∈ qs,gk q) /\
 ∀ (t:Addr) H' W B pss,aw (vw K H) (vw K H') -> vw K H t = none -> ky qs W B -> jo W qs.length pss.length -> cX (vw K H') t pss (fun l=>vw K H l = none /\ l ≠ t) -> (∀ k c,pss[k]? = some c -> cH W B k c) -> Q (.ref t) H'
theorem yL (F:cU K "steps" "steps" je f fd) (T:dH K mg) (C_cleared:aP P w K mg base "cleared" ["f"] 2 (cg K)) (C_step_rows:aP P w K mg base "step_rows" ["wholes"] 3 (eQ K)) (C_divided:aP P w K mg base "divided" ["wholes", "bottom"] 3 (eA K)) (C_ratio:aP P w K mg base "ratio" ["top", "bottom"] 2 (cq K)) (C_met:aP P w K mg base "met" ["wholes", "row", "k"] 1 (mQ K)):aV P w K mg base cV 4 f fd ["sums"] (gM K):=by
 have scN:=sk.nd
 refine F.okQ sk (fun vs H Q E h=>?_) (fun cdv A outer s H vs Q E hr h=>?_)
 ·obtain ⟨_,_,rfl,_⟩:=h
  rfl
 ·obtain ⟨a,qs,rfl,ha,n1,n2,hq,h⟩:=h
  refine ⟨_,(af (cF (ah C_cleared (hr.mono (by walk_at "a2")) rfl (aa (qv 0) ac)) (br (n:=2) rfl (ay (am (i:=1) scN rfl (by walk_at "a1")) (ay (am (i:=2) scN rfl (by walk_at "a1")) bo))))
   (af (az (i:=3) scN rfl (by walk_at "a1") (aD ac))
   (af (cr PassesOwn.never rfl (ka rfl T.b_enumerate (aa (ah C_step_rows (hr.mono (by walk_at "a2")) rfl (aa (qv 1) ac)) ac)) (br (n:=2) rfl (ay (am (i:=4) scN rfl (by walk_at "a1")) (ay (am (i:=5) scN rfl (by walk_at "a1")) bo))) (ag (bT (aN jM (ap aL ad (qv 4)) (ai aB (by rfl) T.b_len aT (aa (qv 0) ac)) (aK _)) (ag (gT (rX PySem.F.plainAttrs_list PySem.F.slot_list_append PySem.F.type_list_append fZ (qv 3) (aa (av (aa (ah C_divided (hr.mono (by walk_at "a2")) rfl (aa (qv 5) (aa (aA cJ (qv 5) (eR cY ad) (fun _ _=>rfl)) ac))) (aa (ah C_ratio (hr.mono (by walk_at "a2")) rfl (aa (ah C_met (hr.mono (by walk_at "a2")) rfl (aa (qv 1) (aa (qv 5) (aa (qv 4) ac)))) (aa (ap aL (aA cJ (qv 5) (eR cY ad) (fun _ _=>rfl)) (qv 2)) ac))) ac))) ac)))) aR)))
   (ag (ar (qv 3)))))),?_⟩
  walk_at "m"
  have hF:∀ q ∈ qs,Fq q:=fun q z=>(hq q z).1
  refine bv.gen fun N1 hN1=>?_
  walk_at "vc"
  simp only [cg]
  refine ⟨a,qs,131,rfl,ha,by walk_at "o",by decide,fun q z=>⟨(hq q z).1,(hq q z).2.1⟩,fun p b H1 B ns S1 h1 hb nb hB _ ln hn hm=>⟨p,rfl,_,h1,rfl,_,_,rfl,_,_,rfl,rfl,hN1 _ _ ?_⟩⟩
  have hc2:=nD (iE hq) hF hB hm ln fun i n q e1 e2=>(hn i n q e1 e2).1
  have clr:ky qs (nz ns) B:=⟨hB,gO ln fun i n q e1 e2=>(hn i n q e1 e2).1,hm,u7 hc2.2⟩
  have lb:IL (vw K H1) b qs.length (nz ns):=by
   unfold IL
   rw [hb]
   congr 2
   exact mW (by rw [List.length_map,ln]) fun i hi=>by
    have hi':i < ns.length:=by walk_at "o"
    rw [List.getElem?_map,List.getElem?_eq_getElem hi',gh (List.getElem?_eq_getElem hi')]
    rfl
  refine bv.gen fun N2 hN2=>?_
  walk_at "vc"
  refine ⟨Nat.zero_le _,fun t H2 ht S2 h2=>hN2 _ _ ?_⟩
  refine bv.gen fun N3 hN3=>?_
  walk_at "vc"
  simp only [oh]
  walk_at "vc"
  refine ⟨b,qs.length,nz ns,rfl,lb.same S2,by walk_at "o",clr.bt,fun R H3 k S3 rw3 hk hD hend=>?_⟩
  walk_at "vc"
  obtain ⟨as,hR,las,has⟩:=id rw3
  obtain ⟨W,hW⟩ : ∃ W,W = nz ns:=⟨_,rfl⟩
  rw [<- hW] at clr lb hD hend has
  have h23:=S3 _ _ h2
  have S03:=S1.trans (S2.trans S3)
  have ht0:vw K H t = none:=S1.free ht
  have nR:R ≠ t:=fun z=>by
   rw [z,h23] at hR
   cases as with
   | nil=>cases las
   | cons x as=>cases hR
  have nx:∀ i x,as[i]? = some x -> x ≠ t:=fun i x e z=>by
   have:=has i x e
   unfold IL at this
   rw [z,h23,mK] at this
   cases this
  have bD:∀ i,i <= 6 -> Bt 1046 (Dk W i):=fun i hi=>(jx clr.bt hi).mono (by decide)
  have bB:Bt 170 B:=hc2.1
  obtain ⟨Pv,hPv⟩ : ∃ Pv:Nat -> St -> Hp -> Prop,∀ i σ H',Pv i σ H' ↔ ∃ (o4 o5:Option V) (pss:List (List (Int × Int) × (Int × Int))),σ = [some (.ref a),some (.ref b),some (.int B),some (.ref t),o4,o5] /\ dI t (vw K H3) (vw K H') /\ cX (vw K H') t pss (fun l=>vw K H l = none /\ l ≠ t) /\ pss.length = min i ((qs.length + 1) / 2) /\ ∀ k c,pss[k]? = some c -> cH W B k c:=⟨_,fun _ _ _=>Iff.rfl⟩
  refine ⟨⟨_,hR⟩,j8 (rows:=(as.map V.ref).mapIdx fun i x=>[V.int i,x]) Pv (fun i σ H' _ q=>?_) ((hPv _ _ _).mpr ⟨_,_,[],rfl,fun _ _ _ z=>z,⟨[],h23,rfl,fun k c e=>by simp at e⟩,by simp,fun k c e=>by simp at e⟩) (fun i r σ H4 q H5 hi hr pv hq S5 h5=>?_) (fun σ H4 pv=>?_)⟩
  ·obtain ⟨_,_,_,_,B',_⟩:=(hPv _ _ _).mp q
   exact ⟨_,aO (B' _ _ nR hR),rfl⟩
  ·obtain ⟨o4,o5,pss,rfl,B4,st4,lp,ok4⟩:=(hPv _ _ _).mp pv
   rw [List.length_mapIdx,List.length_map,las] at hi
   have hia:i < as.length:=by walk_at "o"
   rw [List.getElem?_mapIdx,List.getElem?_map,List.getElem?_eq_getElem hia] at hr
   cases hr
   obtain ⟨x,hx⟩ : ∃ x,as[i]? = some x:=⟨_,List.getElem?_eq_getElem hia⟩
   have ex:as[i] = x:=by
    rw [List.getElem?_eq_getElem hia] at hx
    exact Option.some.inj hx
   have B5:dI t (vw K H3) (vw K H5):=B4.same_trans S5
   have lx:IL (vw K H5) x (i + 1) (qk W i):=B5 _ _ (nx i x hx) (has i x hx)
   have S05:aw (vw K H) (vw K H5):=fun y o e=>B5 _ _ (ak e ht0) (S03 _ _ e)
   have lb5:IL (vw K H5) b qs.length W:=B5 _ _ (ak lb ht) ((S2.trans S3) _ _ lb)
   have st5:=st4.same S5
   walk_at "vc"
   refine ⟨_,h5,rfl,_,_,rfl,_,_,rfl,rfl,?_⟩
   rw [ge,ex]
   refine ⟨eT (by decide),_,(ha.same S05).len,_,rfl,bV (fun e1=>?_) (fun e1=>?_)⟩
   ·obtain ⟨xs,hxs,lxs,hxs'⟩:=id st5
    have lpi:pss.length = i:=by walk_at "o"
    have hDi:=hD i (by walk_at "o")
    have dn:Dk W i ≠ 0:=by walk_at "o"
    have dB:Dk W i * B ≠ 0:=Int.mul_ne_zero dn (by walk_at "o")
    have eN:lz (i + 1) (fun j=>V.int (qk W i j)) = (lz (i + 1) fun j=>qk W i j).map V.int:=by rw [rc]
    refine ⟨kN hxs,x,rfl,_,lx,_,mw,?_⟩
    rw [eO]
    refine ⟨x,lz (i + 1) fun j=>qk W i j,Dk W i,rfl,by rw [<- eN]; exact lx,by rw [be]; walk_at "o",dn,(bD i (by walk_at "o")).mono (by decide),fun c H6 rs S6 lc nc po cf6 _ _=>?_⟩
    have bq':∀ j,Bt 2000 (qk W i j):=fun j=>(lY clr.bt (by walk_at "o")).mono (by decide)
    refine ⟨b,x,qs.length,i + 1,i,W,qk W i,rfl,lb5.same S6,lx.same S6,by walk_at "o",by walk_at "o",fun j=>(clr.bt j).mono (by decide),bq',fun H7 S7=>⟨x,rfl,_,(S6.trans S7) _ _ lx,_,mw,?_⟩⟩
    rw [mB,eY,eO,ge]
    refine ⟨bU (bD i (by walk_at "o")) bB (by decide),Dk W (i + 1),Dk W i * B,rfl,dB,((bD i (by walk_at "o")).mul bB).mono (by decide),fun v H8 S8 r8=>⟨by decide,fun y H9 hy S9 h9=>?_⟩⟩
    have S59:=S6.trans (S7.trans (S8.trans S9))
    refine ⟨xs,S59 _ _ hxs,?_,fun Ha Ba ha2=>?_⟩
    ·rw [lxs,lpi]
     exact Nat.lt_of_le_of_lt (show i <= 20 by walk_at "o") (by decide)
    have nct:c ≠ t:=fun z=>by
     rw [z,hxs] at nc
     cases nc
    have hxs9:=S59 _ _ hxs
    refine (hPv _ _ _).mpr ⟨_,_,pss ++ [(rs,lo (Dk W (i + 1)) (Dk W i * B))],rfl,(B5.same_trans S59).trans Ba,⟨_,ha2,by rw [List.length_append,List.length_append,lxs]; rfl,fun m d e=>?_⟩,by rw [List.length_append,lpi]; simp; walk_at "o",fun m d e=>?_⟩
    ·by_cases z:m < pss.length
     ·rw [List.getElem?_append_left z] at e
      obtain ⟨x',l,v',e1',e2',e3',e4',e5'⟩:=hxs' m d e
      have e2s:=S59 _ _ e2'
      refine ⟨x',l,v',by rw [List.getElem?_append_left (by walk_at "o")]; exact e1',Ba _ _ (fun z=>by rw [z,hxs9] at e2s; cases e2s) e2s,(e3'.same S59).but hxs9 e5'.2 Ba,aC.flat_but hxs9 Ba _ _ (aY _) (aC.same S59 _ _ e4'),e5'⟩
     ·rw [List.getElem?_append_right (by walk_at "o")] at e
      have hm0:m - pss.length = 0:=by
       have:=(List.getElem?_eq_some_iff.mp e).1
       simp at this
       walk_at "o"
      rw [hm0] at e
      cases e
      refine ⟨y,c,v,by rw [List.getElem?_append_right (by walk_at "o"),lxs,hm0]; rfl,Ba _ _ (fun z=>by rw [z,hxs9] at h9; cases h9) h9,(lc.same (S7.trans (S8.trans S9))).but hxs9 nct Ba,aC.flat_but hxs9 Ba _ _ (aY _) (aC.same S9 _ _ r8),S05.free nc,nct⟩
    ·by_cases z:m < pss.length
     ·rw [List.getElem?_append_left z] at e
      exact ok4 m d e
     ·rw [List.getElem?_append_right (by walk_at "o")] at e
      have hm0:m - pss.length = 0:=by
       have:=(List.getElem?_eq_some_iff.mp e).1
       simp at this
       walk_at "o"
      rw [hm0] at e
      cases e
      rw [show m = i by walk_at "o"]
      refine ⟨po,fun j=>?_,fG dB,gg dB⟩
      rw [cf6 j]
      congr 2
      by_cases z2:j < i + 1
      ·rw [gh (cG z2)]
      ·rw [gZ (by rw [be]; walk_at "o"),dt (by walk_at "o")]
   ·exact (hPv _ _ _).mpr ⟨_,_,pss,rfl,B5,st5,by walk_at "o",ok4⟩
  ·obtain ⟨o4,o5,pss,rfl,B4,st4,lp,ok4⟩:=(hPv _ _ _).mp pv
   rw [List.length_mapIdx,List.length_map,las] at lp
   refine hN3 _ _ ?_
   walk_at "vc"
   refine h t H4 W B pss (fun y o e=>B4 _ _ (ak e ht0) (S03 _ _ e)) ht0 clr ⟨by walk_at "o",fun i hi=>(hD i (by walk_at "o")).1,by walk_at "o",?_⟩ st4 ok4
   by_cases z:(qs.length + 1) / 2 <= k + 1
   ·exact .inl (by walk_at "o")
   ·rcases hend with y | y
    ·exact .inl (by walk_at "o")
    ·right
     rw [show pss.length = k + 1 by walk_at "o"]
     exact y
def gQ (K:PySem.W.Frag):Sp:=fun vs H Q _=>∃ (a b:Addr) (qs fs:List (Int × Int)),vs = [.ref a,.ref b] /\ aH (vw K H) a qs /\ aH (vw K H) b fs /\ fs.length <= qs.length /\ qs.length <= 12 /\ fs.length <= 12 /\ (∀ q ∈ qs,Fq q /\ Bq 131 q) /\ (∀ q ∈ fs,Fq q /\ Bq 290000 q) /\
 ∀ v H' r,aw (vw K H) (vw K H') -> aC (vw K H') (fr r) v -> Fq r -> wv r = aI (cf fs) (cf qs) fs.length -> Q v H'
theorem yQ (F:cU K "worth" "worth" iY f fd) (T:dH K mg) (C_cleared:aP P w K mg base "cleared" ["f"] 2 (cg K)) (C_ratio:aP P w K mg base "ratio" ["top", "bottom"] 2 (cq K)):aV P w K mg base cV 3 f fd ["sums", "f"] (gQ K):=by
 have scN:=rY.nd
 refine F.okQ rY (fun vs H Q E h=>?_) (fun cdv A outer s H vs Q E hr h=>?_)
 ·obtain ⟨a,_,_,_,rfl,_⟩:=h
  rfl
 ·obtain ⟨a,b,qs,fs,rfl,ha,hb,lf,lq,lf6,hq,hf,h⟩:=h
  refine ⟨_,(af (bT (aN km (ai aB (by rfl) T.b_len aT (aa (qv 1) ac)) (ai aB (by rfl) T.b_len aT (aa (qv 0) ac)) (aK _)) (ag jQ) aR)
   (af (cF (ah C_cleared (hr.mono (by walk_at "a2")) rfl (aa (qv 1) ac)) (br (n:=2) rfl (ay (am (i:=2) scN rfl (by walk_at "a1")) (ay (am (i:=3) scN rfl (by walk_at "a1")) bo))))
   (af (cF (ah C_cleared (hr.mono (by walk_at "a2")) rfl (aa (gE gN (qv 0) jb (hU (ai aB (by rfl) T.b_len aT (aa (qv 1) ac)))) ac)) (br (n:=2) rfl (ay (am (i:=4) scN rfl (by walk_at "a1")) (ay (am (i:=5) scN rfl (by walk_at "a1")) bo))))
   (ag (ar (ah C_ratio (hr.mono (by walk_at "a2")) rfl (aa (ai (pK rfl) (by rfl) T.b_sum ym (aa (eh (own:=["number", "whole"]) (outs:=[]) (ixs:=[]) rfl (wO rfl T.b_zip (aa (qv 2) (aa (qv 4) ac))) rfl ⟨rfl,rfl,rfl,trivial,rfl,trivial⟩ (fun _ _ _ _=>⟨(show QG _ _ (jr K 2 _) from br (n:=2) rfl (ay (am (i:=0) (show (["number", "whole"]:List Str).Nodup by decide +kernel) rfl (by walk_at "a1")) (ay (am (i:=1) (show (["number", "whole"]:List Str).Nodup by decide +kernel) rfl (by walk_at "a1")) bo))),gc,(ap (show fo _ _ (im K) from aL) (qv 0) (qv 1))⟩)) ac)) (aa (ap aL (qv 3) (qv 5)) ac)))))))),?_⟩
  walk_at "m"
  walk_at "vc"
  refine ⟨_,hb.len,_,ha.len,?_⟩
  refine kc (by walk_at "o") ?_
  walk_at "vc"
  simp only [cg]
  walk_at "vc"
  refine ⟨fs,hb,by walk_at "o",290000,by decide,hf,fun p1 a1 H1 D1 ms S1 h1 ha1 _ hD1 bD1 lm hm _=>⟨_,h1,rfl,?_⟩⟩
  walk_at "vc"
  obtain ⟨xs,hxs,rxs⟩:=id (ha.same S1)
  have hlx:xs.length = qs.length:=by rw [rxs.length,List.length_map]
  refine ⟨_,(hb.same S1).len,xs,hxs,fun p2 H2 hp2 S2 h2=>?_⟩
  rw [tu (by walk_at "o")] at h2
  have lt:aH (vw K H2) p2 (qs.take fs.length):=⟨_,h2,by rw [List.map_take]; exact (rxs.take _).same S2⟩
  walk_at "vc"
  have lt':(qs.take fs.length).length = fs.length:=by rw [List.length_take]; walk_at "o"
  refine ⟨_,lt,by walk_at "o",131,by decide,fun q z=>hq q (List.mem_of_mem_take z),fun p3 a3 H3 D2 ns S3 h3 ha3 _ hD2 bD2 ln hn _=>⟨_,h3,rfl,_,_,rfl,_,_,rfl,rfl,?_⟩⟩
  rw [lt'] at bD2 ln hn
  have ha13:=(S2.trans S3) _ _ ha1
  walk_at "vc"
  simp only [A0]
  walk_at "vc"
  refine ⟨true,⟨_,ha13⟩,true,⟨_,ha3⟩,fun c H4 hc4 S4 h4=>?_⟩
  have ez:List.zipWith (· * ·) ms ns = lz fs.length fun i=>nz ms i * nz ns i:=by
   refine List.ext_getElem? fun i=>?_
   by_cases hi:i < fs.length
   ·have h1:i < ms.length:=by walk_at "o"
    have h2:i < ns.length:=by walk_at "o"
    rw [cG hi,List.getElem?_zipWith,List.getElem?_eq_getElem h1,List.getElem?_eq_getElem h2,gh (List.getElem?_eq_getElem h1),gh (List.getElem?_eq_getElem h2)]
   ·rw [List.getElem?_eq_none (by rw [List.length_zipWith]; walk_at "o"),List.getElem?_eq_none (by rw [be]; walk_at "o")]
  refine oX (ps:=(ms.map V.int).zip (ns.map V.int)) (fun i zs H'=>aw (vw K H3) (vw K H') /\ zs = ((List.zipWith (· * ·) ms ns).take i).map V.int) (fun i zs H' _ _ p=>⟨_,_,p.1 _ _ ha13,p.1 _ _ ha3,rD.symm⟩) h4 ⟨S4,rfl⟩ (fun i u v zs H8 H9 hi huv h9 p S89=>?_) (fun zs H8 h8 p=>?_)
  ·obtain ⟨S8,rfl⟩:=p
   rw [List.getElem?_zip_eq_some,List.getElem?_map,List.getElem?_map] at huv
   have li:i < ms.length /\ i < ns.length:=by
    simp at hi
    walk_at "o"
   rw [List.getElem?_eq_getElem li.1,List.getElem?_eq_getElem li.2] at huv
   obtain ⟨e1,e2⟩:=huv
   cases e1
   cases e2
   have w1:=(hm i _ _ (List.getElem?_eq_getElem li.1) (List.getElem?_eq_getElem (show i < fs.length by walk_at "o"))).2
   have w2:=(hn i _ _ (List.getElem?_eq_getElem li.2) (List.getElem?_eq_getElem (show i < (qs.take fs.length).length by walk_at "o"))).2
   walk_at "vc"
   refine ⟨bU w1 w2 (by walk_at "o"),.mk2 h9 ?_ fun H10 B10 h10=>⟨fun b o e=>B10 _ _ (ak e hc4) (S89 _ _ (S8 _ _ e)),?_⟩⟩
   ·rw [List.length_map,List.length_take]
    have:1000 <= sizeLine:=by decide
    walk_at "o"
   ·rw [List.take_add_one,List.getElem?_zipWith,List.getElem?_eq_getElem li.1,List.getElem?_eq_getElem li.2,List.map_append]
    rfl
  ·obtain ⟨S8,rfl⟩:=p
   have lz1:(List.zipWith (· * ·) ms ns).length = fs.length:=by
    rw [List.length_zipWith,lm,ln]
    walk_at "o"
   have lz2:((ms.map V.int).zip (ns.map V.int)).length = fs.length:=by
    rw [List.length_zip,List.length_map,List.length_map,lm,ln]
    walk_at "o"
   rw [lz2,<- lz1,List.take_length] at h8
   have hD:D1 * D2 ≠ 0:=by have:=Int.mul_pos hD1 hD2; walk_at "o"
   refine ⟨_,h8,?_⟩
   walk_at "vc"
   simp only [cq]
   walk_at "vc"
   refine ⟨bU bD1 bD2 (by walk_at "o"),hD,(bD1.mul bD2).mono (by walk_at "o"),fun v H9 S9 r9=>h v H9 _ (S1.trans (S2.trans (S3.trans (S8.trans S9)))) r9 (fG hD) ?_⟩
   rw [gg hD,ez,xO (F:=cf fs) (G:=cf (qs.take fs.length)) (c:=(D1:Rat)) (d:=(D2:Rat)) (gO lm fun i n q e1 e2=>(hm i n q e1 e2).1) (gO (by walk_at "o") fun i n q e1 e2=>(hn i n q e1 e2).1),Rat.intCast_mul]
   have n1:(D1:Rat) ≠ 0:=aj (by walk_at "o")
   have n2:(D2:Rat) ≠ 0:=aj (by walk_at "o")
   rw [bG fs.length (fun i _=>rfl) fun i hi=>zp hi]
   grind
theorem cH.one {W:Nat -> Int} {B:Int} {k:Nat} {c:List (Int × Int) × (Int × Int)} (h:cH W B k c) (hD:Dk W k ≠ 0):cf c.1 k = 1:=by
 have cD:((Dk W k:Int):Rat) ≠ 0:=aj hD
 rw [h.num,eO]
 grind
theorem cH.out {W:Nat -> Int} {B:Int} {k:Nat} {c:List (Int × Int) × (Int × Int)} (h:cH W B k c) {j:Nat} (hj:k < j):cf c.1 j = 0:=by
 have z:((0:Int):Rat) = 0:=rfl
 rw [h.num,dt hj,z]
 grind
theorem cH.len {W:Nat -> Int} {B:Int} {k:Nat} {c:List (Int × Int) × (Int × Int)} (h:cH W B k c) (hD:Dk W k ≠ 0):c.1.length = k + 1:=by
 have h1:=gi h.po (m:=k + 1) fun j hj=>h.out (by walk_at "o")
 have h2:k < c.1.length:=Nat.lt_of_not_le fun z=>by
  have e:=h.one hD
  rw [aU z] at e
  exact absurd e (by decide)
 walk_at "o"
theorem cH.pb {W:Nat -> Int} {B:Int} {k:Nat} {c:List (Int × Int) × (Int × Int)} (h:cH W B k c) (hD:Dk W k ≠ 0) (hk:k <= 5) (bW:∀ i,Bt 170 (W i)):Pb 1100 (cf c.1) :=
 ⟨Dk W k,hD,(jx bW (by walk_at "o")).mono (by decide),fun j=>⟨qk W k j,h.num j,(lY bW hk).mono (by decide)⟩⟩
theorem xL (i m:Nat):cf (List.replicate i (0,1) ++ [(1,1)]) m = if m = i then 1 else 0:=by
 rw [no]
 by_cases h:m < i
 ·rw [if_pos h,if_neg (by walk_at "o")]
 ·rw [if_neg h]
  by_cases e:m = i
  ·rw [if_pos e,e,Nat.sub_self]
   exact BS
  ·rw [if_neg e,aU (by simp; walk_at "o")]
theorem Cr (i:Nat):Pb 1100 (cf (List.replicate i (0,1) ++ [(1,1)])):=by
 refine ⟨1,by decide,by decide,fun m=>?_⟩
 rw [xL]
 by_cases e:m = i
 ·rw [if_pos e]
  exact ⟨1,by have z:((1:Int):Rat) = 1:=rfl; rw [z]; grind,by decide⟩
 ·rw [if_neg e]
  exact ⟨0,by have z:((0:Int):Rat) = 0:=rfl; rw [z]; grind,by decide⟩
theorem yc (i:Nat):∀ q ∈ List.replicate i ((0:Int),(1:Int)) ++ [(1,1)],Fq q:=fun q hq=>by
 rcases List.mem_append.mp hq with z | z
 ·rw [(List.mem_replicate.mp z).2]
  exact lP
 ·cases List.mem_singleton.mp z
  exact ⟨by decide,by decide⟩
theorem zc {ps:List (Int × Int)} (h:ba ps):(D.lst (ps.map fr)).poly = true:=BA h.1 h.2
def dJ (K:PySem.W.Frag):Sp:=fun vs H Q _=>∃ (a:Addr) (qs:List (Int × Int)),vs = [.ref a] /\ aH (vw K H) a qs /\ 1 <= qs.length /\ qs.length <= 12 /\ (∀ q ∈ qs,gk q) /\
 ∀ (d:Addr) H' W B rs k,aw (vw K H) (vw K H') -> vw K H d = none -> ky qs W B -> aH (vw K H') d rs -> ba rs -> k <= 6 -> (∀ i,i <= k -> 0 < Dk W i /\ 2 * i <= qs.length) -> (qs.length < 2 * (k + 1) \/ Dk W (k + 1) <= 0) -> (∀ j,cf rs j = ((qk W k j:Int):Rat) / ((Dk W k:Int):Rat)) -> Q (.ref d) H'
theorem lO (F:cU K "furthest_step" "furthest_step" cy f fd) (T:dH K mg) (C_cleared:aP P w K mg base "cleared" ["f"] 2 (cg K)) (C_step_rows:aP P w K mg base "step_rows" ["wholes"] 3 (eQ K)) (C_divided:aP P w K mg base "divided" ["wholes", "bottom"] 3 (eA K)):aV P w K mg base cV 4 f fd ["sums"] (dJ K):=by
 have scN:=gG.nd
 refine F.okQ gG (fun vs H Q E h=>?_) (fun cdv A outer s H vs Q E hr h=>?_)
 ·obtain ⟨_,_,rfl,_⟩:=h
  rfl
 ·obtain ⟨a,qs,rfl,ha,l1,l11,sq,h⟩:=h
  refine ⟨_,(af (az (i:=1) scN rfl (by walk_at "a1") (aA cJ (ah C_step_rows (hr.mono (by walk_at "a2")) rfl (aa (aA bH (ah C_cleared (hr.mono (by walk_at "a2")) rfl (aa (qv 0) ac)) ad (fun _ _=>rfl)) ac)) (eR cY ad) (fun _ _=>rfl)))
   (ag (ar (ah C_divided (hr.mono (by walk_at "a2")) rfl (aa (qv 1) (aa (aA cJ (qv 1) (eR cY ad) (fun _ _=>rfl)) ac)))))),?_⟩
  walk_at "m"
  skip
  walk_at "vc"
  have hF:∀ q ∈ qs,Fq q:=fun q z=>(sq q z).1
  simp only [cg]
  refine ⟨a,qs,131,rfl,ha,by walk_at "o",by decide,fun q z=>⟨(sq q z).1,(sq q z).2.1⟩,fun p b H1 B ns S1 h1 hb nb hB _ ln hn hm=>⟨p,rfl,_,h1,_,rfl,?_⟩⟩
  have hc2:=nD (iE sq) hF hB hm ln fun i n q e1 e2=>(hn i n q e1 e2).1
  have clr:ky qs (nz ns) B:=⟨hB,gO ln fun i n q e1 e2=>(hn i n q e1 e2).1,hm,u7 hc2.2⟩
  have lb:IL (vw K H1) b qs.length (nz ns):=by
   unfold IL
   rw [hb]
   congr 2
   exact mW (by rw [List.length_map,ln]) fun i hi=>by
    have hi':i < ns.length:=by walk_at "o"
    rw [List.getElem?_map,List.getElem?_eq_getElem hi',gh (List.getElem?_eq_getElem hi')]
    rfl
  simp only [eQ]
  refine ⟨b,qs.length,nz ns,rfl,lb,l11,clr.bt,fun R H3 k S3 rw3 hk hD hend=>?_⟩
  obtain ⟨as,hR,las,has⟩:=id rw3
  obtain ⟨W,hW⟩ : ∃ W,W = nz ns:=⟨_,rfl⟩
  rw [<- hW] at clr lb hD hend has
  obtain ⟨x,hx⟩ : ∃ x,as[k]? = some x:=⟨_,List.getElem?_eq_getElem (by walk_at "o")⟩
  have lx:=has k x hx
  have xl:(as.map V.ref).getLast? = some (.ref x):=by
   rw [List.getLast?_eq_getElem?,List.length_map,las,List.getElem?_map,show k + 1 - 1 = k by walk_at "o",hx]
   rfl
  have hDk:=(hD k (Nat.le_refl _)).1
  have dn:Dk W k ≠ 0:=by walk_at "o"
  have eN:lz (k + 1) (fun j=>V.int (qk W k j)) = (lz (k + 1) fun j=>qk W k j).map V.int:=by rw [rc]
  refine ⟨R,rfl,_,hR,_,gr xl,x,rfl,_,lx,_,mw,?_⟩
  rw [eO]
  simp only [eA]
  refine ⟨x,lz (k + 1) fun j=>qk W k j,Dk W k,rfl,by rw [<- eN]; exact lx,by rw [be]; walk_at "o",dn,((jx clr.bt (by walk_at "o")).mono (by decide:_ <= 1046)).mono (by decide),fun c H6 rs S6 lc nc po cf6 _ _=>?_⟩
  have S06:=S1.trans (S3.trans S6)
  refine h c H6 W B rs k S06 ((S1.trans S3).none nc) clr lc po hk hD hend (fun j=>?_)
  rw [cf6 j]
  by_cases hj:j < k + 1
  ·rw [BY hj]
  ·rw [gZ (by rw [be]; walk_at "o"),dt (by walk_at "o")]
def gC (K:PySem.W.Frag):Sp:=fun vs H Q _=>∃ (p:Addr) (s:Str) (ys:List V) (b:Bool),vs = [.ref p] /\ vw K H p = some (.tup (.str s :: ys)) /\ (b = false /\ (s = "tight" \/ s = "open") \/ b = true /\ (s = "below" \/ s = "nought")) /\ ∀ H',aw (vw K H) (vw K H') -> Q (.bl b) H'
theorem wB (F:cU K "is_bar" "is_bar" gH f fd) (T:dH K mg):aV P w K mg base cV 1 f fd ["told"] (gC K):=by
 have scN:=oQ.nd
 refine F.okQ oQ (fun vs H Q E h=>?_) (fun cdv A outer s H vs Q E hr h=>?_)
 ·obtain ⟨_,_,_,_,rfl,_⟩:=h
  rfl
 ·obtain ⟨p,s,ys,b,rfl,hp,hs,h⟩:=h
  refine ⟨_,(ag (ar (dC qj (aA bH (qv 0) ad (fun _ _=>rfl)) (av (aa fu (aa fu ac))) (by rfl)))),?_⟩
  walk_at "m"
  skip
  walk_at "vc"
  refine ⟨_,hp,_,fE,by decide,fun t H2 ht S2 h2=>⟨t,_,rfl,.inr (hV h2),rfl,rfl,?_⟩⟩
  have e:(if true = true then !FP (V.str s) [V.str "tight",V.str "open"] else FP (V.str s) [V.str "tight",V.str "open"]) = b:=by
   rcases hs with ⟨rfl,rfl | rfl⟩ | ⟨rfl,rfl | rfl⟩ <;> decide +kernel
  rw [e]
  exact h H2 S2
def vZ (W:Nat -> Int) (k n:Nat):Prop:=∀ i,i + (k + 1) <= n -> Lq W k i = 0
theorem sQ {qs:List (Int × Int)} {W:Nat -> Int} {B:Int} {k i:Nat} {c:List (Int × Int) × (Int × Int)} (cl:ky qs W B) (h:cH W B k c) (hD:Dk W k ≠ 0):aI (cf c.1) (cf (qs.drop i)) (k + 1) = ((Lq W k i:Int):Rat) / ((Dk W k * B:Int):Rat):=by
 have e:cf (qs.drop i) = fun j=>cf qs (i + j):=funext fun j=>zD
 rw [e,gx hD (by have:=cl.pos; walk_at "o") h.num cl.val i,Rat.intCast_mul]
theorem cH.bq' {W:Nat -> Int} {B:Int} {k:Nat} {c:List (Int × Int) × (Int × Int)} (h:cH W B k c) (hD:Dk W k ≠ 0) (hk:k <= 5) (bW:∀ i,Bt 170 (W i)):∀ q ∈ c.1,Fq q /\ Bq 1100 q:=fun q hq=>by
 obtain ⟨j,hj⟩:=List.getElem?_of_mem hq
 have e:=h.num j
 rw [aW hj] at e
 exact ⟨h.po.1 q hq,j6 (h.po.1 q hq) e hD ((lY bW hk).mono (by decide)) ((jx bW (by walk_at "o")).mono (by decide))⟩
def fg (K:PySem.W.Frag):Sp:=fun vs H Q _=>∃ (a l:Addr) (qs:List (Int × Int)) (c:List (Int × Int) × (Int × Int)) (W:Nat -> Int) (B:Int) (k:Nat),vs = [.ref a,.ref l] /\ aH (vw K H) a qs /\ aH (vw K H) l c.1 /\ qs.length <= 11 /\ (∀ q ∈ qs,gk q) /\ ky qs W B /\ cH W B k c /\ 0 < Dk W k /\ k <= 5 /\ c.1.length = k + 1 /\ k + 1 <= qs.length /\
 (vZ W k qs.length -> ∀ H',aw (vw K H) (vw K H') -> Q .non H') /\ (¬ vZ W k qs.length -> ∀ H' (p:Addr) (v:V),aw (vw K H) (vw K H') -> vw K H' p = some (.tup [.str "nought",.ref l,v]) -> Q (.ref p) H')
theorem oF (F:cU K "nought_bar" "nought_bar" dU f fd) (T:dH K mg) (C_worth:aP P w K mg base "worth" ["sums", "f"] 3 (gQ K)):aV P w K mg base cV 4 f fd ["sums", "step"] (fg K):=by
 have scN:=jA.nd
 refine F.okQ jA (fun vs H Q E h=>?_) (fun cdv A outer s H vs Q E hr h=>?_)
 ·obtain ⟨_,_,_,_,_,_,_,rfl,_⟩:=h
  rfl
 ·obtain ⟨a,l,qs,c,W,B,k,rfl,ha,hl,l11,sq,cl,so,dk,k5,lc,lkn,h1,h2⟩:=h
  obtain ⟨z_ZERO,hg_ZERO,hv_ZERO⟩:=T.g_ZERO
  obtain ⟨z_ONE,hg_ONE,hv_ONE⟩:=T.g_ONE
  refine ⟨_,(af (cr PassesOwn.never rfl (bZ rfl T.b_range (aa (ap aS (ap cZ (ai aB (by rfl) T.b_len aT (aa (qv 0) ac)) (ai aB (by rfl) T.b_len aT (aa (qv 1) ac))) ad) ac)) (am (i:=2) scN rfl (by walk_at "a1")) (ag (bT (aN (nM hr.u64) (ah C_worth (hr.mono (by walk_at "a2")) rfl (aa (gE gN (qv 0) (hU (qv 2)) jb) (aa (qv 1) ac))) (bJ (v:=V.ref z_ZERO) rfl hg_ZERO rfl) (aK _)) (ag (ar (av (aa fu (aa (qv 1) (aa (ap aS (ap aL (aD (aa (bJ (v:=V.ref z_ZERO) rfl hg_ZERO rfl) ac)) (qv 2)) (aD (aa (bJ (v:=V.ref z_ONE) rfl hg_ONE rfl) ac))) ac)))))) aR)))
   (ag (ar nh))),?_⟩
  walk_at "m"
  skip
  refine bv.gen fun N1 hN1=>?_
  walk_at "vc"
  refine ⟨_,ha.len,_,hl.len,by walk_at "o",by walk_at "o",?_⟩
  rw [show ((qs.length:Int) - (c.1.length:Int) + 1).toNat = qs.length - k by walk_at "o"]
  obtain ⟨Pv,hPv⟩ : ∃ Pv:Nat -> St -> Hp -> Prop,∀ i σ H',Pv i σ H' ↔ ∃ o,σ = [some (.ref a),some (.ref l),o] /\ aw (vw K H) (vw K H') /\ ∀ j,j < i -> Lq W k j = 0:=⟨_,fun _ _ _=>Iff.rfl⟩
  have dn:Dk W k ≠ 0:=by walk_at "o"
  have dB:Dk W k * B ≠ 0:=Int.mul_ne_zero dn (by have:=cl.pos; walk_at "o")
  refine bA (its:=fm 0 (qs.length - k)) Pv (fun _ _ _ _ _=>bh) ((hPv _ _ _).mpr ⟨_,rfl,.rfl,fun j z=>by walk_at "o"⟩) (fun i x σ H1 hi hx pv=>?_) (fun σ H1 pv=>hN1 _ _ ?_)
  ·obtain ⟨o,rfl,S1,z1⟩:=(hPv _ _ _).mp pv
   obtain ⟨hi',rfl⟩:=dY hx
   rw [Int.zero_add]
   obtain ⟨xs,hxs,rxs⟩:=id (ha.same S1)
   have lx:xs.length = qs.length:=by rw [rxs.length,List.length_map]
   walk_at "vc"
   refine ⟨xs,hxs,fun p2 H2 hp2 S2 h2'=>?_⟩
   rw [sj (by walk_at "o")] at h2'
   have l2:aH (vw K H2) p2 (qs.drop i):=⟨_,h2',by rw [List.map_drop]; exact (rxs.drop i).same S2⟩
   have S02:=S1.trans S2
   simp only [gQ]
   refine ⟨p2,l,qs.drop i,c.1,rfl,l2,hl.same S02,by rw [List.length_drop]; walk_at "o",by rw [List.length_drop]; walk_at "o",by walk_at "o",fun q hq=>⟨(sq q (List.mem_of_mem_drop hq)).1,(sq q (List.mem_of_mem_drop hq)).2.1⟩,fun q hq=>⟨(so.bq' dn k5 cl.bt q hq).1,(so.bq' dn k5 cl.bt q hq).2.mono (by decide)⟩,fun v H3 r S3 r3 fr3 w3=>?_⟩
   rw [lc,sQ cl so dn] at w3
   refine ⟨_,r3,_,aJ (hv_ZERO _),cR _,cR _,?_⟩
   rw [gv]
   have zz:r = (0,1) ↔ Lq W k i = 0:=by
    constructor
    ·intro z
     rw [z,pi] at w3
     have nB:=aj dB
     have:((Lq W k i:Int):Rat) = ((0:Int):Rat):=by
      have c0:((0:Int):Rat) = 0:=rfl
      rw [c0]
      grind
     exact_mod_cast this
    ·intro z
     refine gu fr3 lP ?_
     rw [w3,z,pi]
     have c0:((0:Int):Rat) = 0:=rfl
     rw [c0]
     grind
   refine bV (fun hz=>?_) (fun hz=>?_)
   ·have nz:¬ vZ W k qs.length:=fun z=>by
     have:=zz.mpr (z i (by walk_at "o"))
     rw [this] at hz
     exact absurd hz (by decide)
    refine ⟨by decide,fun p4 H4 hp4 S4 h4=>?_⟩
    show im K (.ref p4) (.int _) H4 _
    rw [fk]
    refine ⟨_,h4,by walk_at "o",by walk_at "o",?_,fun p5 H5 hp5 S5 h5=>⟨by decide,fun p6 H6 hp6 S6 h6=>?_⟩⟩
    ·have:1000 <= sizeLine:=by decide
     simp
     walk_at "o"
    show gf K (.ref p5) (.ref p6) H6 _
    rw [dl]
    refine ⟨_,S6 _ _ h5,_,h6,?_,fun p7 H7 hp7 S7 h7=>⟨by decide,fun p8 H8 hp8 S8 h8=>h2 nz H8 p8 _ (S02.trans (S3.trans (S4.trans (S5.trans (S6.trans (S7.trans S8)))))) h8⟩⟩
    have:1000 <= sizeLine:=by decide
    simp
    walk_at "o"
   ·refine (hPv _ _ _).mpr ⟨_,rfl,S02.trans S3,fun j hj=>?_⟩
    by_cases e:j = i
    ·rw [e]
     refine zz.mp ?_
     by_cases y:r = (0,1)
     ·exact y
     ·exact absurd (decide_eq_false y) hz
    ·exact z1 j (by walk_at "o")
  ·obtain ⟨o,rfl,S1,z1⟩:=(hPv _ _ _).mp pv
   rw [ci] at z1
   walk_at "vc"
   exact h1 (fun i hi=>z1 i (by walk_at "o")) H1 S1
theorem Gq {qs:List (Int × Int)} (i:Nat):cf (qs ++ [(0,1)]) i = cf qs i:=by
 by_cases h:i < qs.length
 ·rw [aW (List.getElem?_eq_getElem (show i < (qs ++ [(0,1)]).length by simp; walk_at "o")),aW (List.getElem?_eq_getElem h),List.getElem_append_left h]
 ·rw [aU (show qs.length <= i by walk_at "o")]
  by_cases e:i = qs.length
  ·rw [aW (q:=(0,1)) (by rw [e]; simp)]
   exact (eo (by decide)).mpr rfl
  ·exact aU (by simp; walk_at "o")
theorem ky.zero {qs:List (Int × Int)} {W:Nat -> Int} {B:Int} (h:ky qs W B):ky (qs ++ [(0,1)]) W B :=
 ⟨h.pos,fun i=>by rw [Gq]; exact h.val i,fun E hE=>h.least E fun q hq=>hE q (List.mem_append_left _ hq),h.bt⟩
structure Dp (qs:List (Int × Int)) (W:Nat -> Int) (B:Int) (M:Nat) (G:Hp) (p:Addr) (s:Str):Prop where
 kind:(Dk W M < 0 /\ s = "below") \/ (Dk W M = 0 /\ ¬ vZ W (M - 1) qs.length /\ s = "nought") \/ (Dk W M = 0 /\ vZ W (M - 1) qs.length /\ s = "tight") \/ (0 < Dk W M /\ s = "open")
 at_:∃ (l:Addr) (ys:List V),G p = some (.tup (.str s :: .ref l :: ys)) /\ (s = "tight" \/ s = "open" -> ys = []) /\ (s = "tight" -> ∃ rs,aH G l rs /\ ba rs /\ ∀ j,cf rs j = ((qk W (M - 1) j:Int):Rat) / ((Dk W (M - 1):Int):Rat)) /\ (s = "open" -> ∃ rs,aH G l rs /\ ba rs /\ ∀ j,cf rs j = ((qk W M j:Int):Rat) / ((Dk W M:Int):Rat))
def fY (K:PySem.W.Frag):Sp:=fun vs H Q _=>∃ (a:Addr) (qs:List (Int × Int)),vs = [.ref a] /\ aH (vw K H) a qs /\ 1 <= qs.length /\ qs.length <= 11 /\ (∀ q ∈ qs,gk q) /\
 ∀ (p:Addr) H' W B M s,aw (vw K H) (vw K H') -> ky qs W B -> jo W qs.length M -> Dp qs W B M (vw K H') p s -> Q (.ref p) H'
theorem tD (F:cU K "outlook" "outlook" fX f fd) (T:dH K mg) (C_steps:aP P w K mg base "steps" ["sums"] 4 (gM K)) (C_nought_bar:aP P w K mg base "nought_bar" ["sums", "step"] 4 (fg K)) (C_furthest_step:aP P w K mg base "furthest_step" ["sums"] 4 (dJ K)):aV P w K mg base cV 5 f fd ["sums"] (fY K):=by
 have scN:=m5.nd
 refine F.okQ m5 (fun vs H Q E h=>?_) (fun cdv A outer s H vs Q E hr h=>?_)
 ·obtain ⟨_,_,rfl,_⟩:=h
  rfl
 ·obtain ⟨a,qs,rfl,ha,l1,l11,sq,h⟩:=h
  obtain ⟨z_ZERO,hg_ZERO,hv_ZERO⟩:=T.g_ZERO
  refine ⟨_,(af (cF (aA cJ (ah C_steps (hr.mono (by walk_at "a2")) rfl (aa (qv 0) ac)) (eR cY ad) (fun _ _=>rfl)) (br (n:=2) rfl (ay (am (i:=1) scN rfl (by walk_at "a1")) (ay (am (i:=2) scN rfl (by walk_at "a1")) bo))))
   (af (bT (aN jM (aA bH (qv 2) ad (fun _ _=>rfl)) ad (aK _)) (ag (ar (av (aa fu (aa (qv 1) ac))))) aR)
   (af (bT (aN (lH hr.u64) (qv 2) (bJ (v:=V.ref z_ZERO) rfl hg_ZERO rfl) (aK _)) (ag (ar (D6 (ah C_nought_bar (hr.mono (by walk_at "a2")) rfl (aa (qv 0) (aa (qv 1) ac))) (av (aa fu (aa (qv 1) ac)))))) aR)
   (ag (ar (av (aa fu (aa (ah C_furthest_step (hr.mono (by walk_at "a2")) rfl (aa (sh (iJ (ap By (ai aB (by rfl) T.b_len aT (aa (qv 0) ac)) ad) (fun _=>rfl)) (ap aS (qv 0) (aD (aa (bJ (v:=V.ref z_ZERO) rfl hg_ZERO rfl) ac))) (qv 0)) ac)) ac)))))))),?_⟩
  walk_at "m"
  skip
  refine bv.gen fun N1 hN1=>?_
  walk_at "vc"
  simp only [gM]
  refine ⟨a,qs,rfl,ha,l1,l11,sq,fun t H1 W B pss S1 ht0 cl my sa so=>?_⟩
  obtain ⟨xs,hxs,lxs,hx⟩:=id sa
  obtain ⟨M,hM⟩ : ∃ M,M = pss.length:=⟨_,rfl⟩
  rw [<- hM] at my
  have m1:=my.one
  have m2:=my.most
  obtain ⟨c,hc⟩ : ∃ c,pss[M - 1]? = some c:=⟨_,List.getElem?_eq_getElem (by walk_at "o")⟩
  obtain ⟨x,l,v,e1,e2,e3,e4,e5⟩:=hx _ _ hc
  have soc:=so _ _ hc
  have dk:=my.up (M - 1) (by walk_at "o")
  have dn:Dk W (M - 1) ≠ 0:=by walk_at "o"
  have hB:=cl.pos
  have lc:=soc.len dn
  have dB:0 < Dk W (M - 1) * B:=Int.mul_pos dk hB
  have sv:=soc.sqv
  rw [show M - 1 + 1 = M by walk_at "o"] at sv
  have xl:xs.getLast? = some (.ref x):=by rw [List.getLast?_eq_getElem?,lxs,<- hM]; exact e1
  refine ⟨t,rfl,_,hxs,_,gr xl,x,rfl,_,e2,rfl,_,_,rfl,_,_,rfl,rfl,hN1 _ _ ?_⟩
  obtain ⟨vp,rfl,hvp⟩:=id e4.fr_at
  have iq:c.2.1 * (Dk W (M - 1) * B) = Dk W M * c.2.2:=by
   have n2:=aj (show c.2.2 ≠ 0 by have:=soc.fq.1; walk_at "o")
   have n3:=aj (show Dk W (M - 1) * B ≠ 0 by walk_at "o")
   have e:((c.2.1 * (Dk W (M - 1) * B):Int):Rat) = ((Dk W M * c.2.2:Int):Rat):=by
    rw [Rat.intCast_mul,Rat.intCast_mul]
    unfold wv at sv
    grind
   exact_mod_cast e
  have q2:=soc.fq.1
  have sneg:c.2.1 < 0 -> Dk W M < 0:=fun z=>by
   have:=Int.mul_neg_of_neg_of_pos z dB
   rw [iq] at this
   exact Int.not_le.mp fun y=>by have:=Int.mul_nonneg y (Int.le_of_lt q2); walk_at "o"
  have szer:c.2.1 = 0 -> Dk W M = 0:=fun z=>by
   rw [z,Int.zero_mul] at iq
   rcases Int.mul_eq_zero.mp iq.symm with y | y
   ·exact y
   ·walk_at "o"
  have spos:0 < c.2.1 -> 0 < Dk W M:=fun z=>by
   have:=Int.mul_pos z dB
   rw [iq] at this
   exact Int.not_le.mp fun y=>by have:=Int.mul_le_mul_of_nonneg_right y (Int.le_of_lt q2); walk_at "o"
  refine bv.gen fun N2 hN2=>?_
  walk_at "vc"
  refine ⟨_,hvp,_,fE,_,rfl,bV (fun hneg=>?_) (fun hneg=>hN2 _ _ ?_)⟩
  ·exact ⟨by decide,fun p H2 hp S2 h2=>h p H2 W B M "below" (S1.trans S2) cl my ⟨.inl ⟨sneg hneg,rfl⟩,l,[],h2,fun _=>rfl,fun z=>absurd z (by decide +kernel),fun z=>absurd z (by decide +kernel)⟩⟩
  refine bv.gen fun N3 hN3=>?_
  walk_at "vc"
  refine ⟨_,e4,_,aJ (hv_ZERO _),cR _,cR _,?_⟩
  rw [gv]
  refine bV (fun hz=>?_) (fun hz=>hN3 _ _ ?_)
  ·have d0:Dk W M = 0:=szer (by rw [of_decide_eq_true hz])
   unfold EA
   walk_at "vc"
   simp only [fg]
   refine ⟨a,l,qs,c,W,B,M - 1,rfl,ha.same S1,e3,l11,sq,cl,soc,dk,by walk_at "o",lc,by walk_at "o",fun hn H2 S2=>⟨false,rfl,kc (by decide) ⟨by decide,fun p H3 hp S3 h3=>h p H3 W B M "tight" (S1.trans (S2.trans S3)) cl my ⟨.inr (.inr (.inl ⟨d0,hn,rfl⟩)),l,[],h3,fun _=>rfl,fun _=>⟨c.1,e3.same (S2.trans S3),soc.po,soc.num⟩,fun z=>absurd z (by decide +kernel)⟩⟩⟩,fun hn H2 p v S2 h2=>⟨true,?_,oH rfl (h p H2 W B M "nought" (S1.trans S2) cl my ⟨.inr (.inl ⟨d0,hn,rfl⟩),l,[v],h2,fun z=>absurd z (by decide +kernel),fun z=>absurd z (by decide +kernel),fun z=>absurd z (by decide +kernel)⟩)⟩⟩
   exact .inr (.inl ⟨_,hV h2,rfl⟩)
  ·have d1:0 < Dk W M:=spos (by
    have:c.2 ≠ (0,1):=fun z=>hz (decide_eq_true z)
    have:c.2.1 ≠ 0:=fun z=>this ((kE soc.fq).mpr z)
    walk_at "o")
   walk_at "vc"
   have od:2 * M = qs.length \/ 2 * M = qs.length + 1:=by
    rcases my.all with z | z <;> walk_at "o"
   simp only [dJ]
   refine ⟨_,(ha.same S1).len,by walk_at "o",bV (fun ho=>?_) (fun ho=>?_)⟩
   ·have o1:2 * M = qs.length + 1:=by
     have:((qs.length:Int) % 2) ≠ 0:=by simpa using ho
     walk_at "o"
    obtain ⟨ax,hax,rax⟩:=id (ha.same S1)
    refine ⟨by decide,fun p2 H2 hp2 S2 h2=>?_⟩
    show gf K (.ref a) (.ref p2) H2 _
    rw [dl]
    refine ⟨ax,S2 _ _ hax,_,h2,?_,fun p3 H3 hp3 S3 h3=>?_⟩
    ·have:1000 <= sizeLine:=by decide
     rw [rax.length]
     simp
     walk_at "o"
    have S23:=S2.trans S3
    have l3:aH (vw K H3) p3 (qs ++ [(0,1)]):=by
     refine ⟨_,h3,?_⟩
     rw [List.map_append]
     exact (rax.same S23).app (.mk_cons (aJ (hv_ZERO _)) .mk_nil)
    have sq0:∀ q ∈ qs ++ [(0,1)],gk q:=fun q hq=>by
     rcases List.mem_append.mp hq with z | z
     ·exact sq q z
     ·cases List.mem_singleton.mp z
      exact ⟨lP,ur (by decide),Int.one_dvd _⟩
    refine ⟨p3,qs ++ [(0,1)],rfl,l3,by simp,by simp; walk_at "o",sq0,fun d H4 W' B' rs k S4 nd cl' ld po k6 hD he num=>⟨by decide,fun p5 H5 hp5 S5 h5=>h p5 H5 W B M "open" (S1.trans (S23.trans (S4.trans S5))) cl my ⟨.inr (.inr (.inr ⟨d1,rfl⟩)),d,[],h5,fun _=>rfl,fun z=>absurd z (by decide +kernel),fun _=>⟨rs,ld.same S5,po,?_⟩⟩⟩⟩
    obtain ⟨_,eW⟩:=cl.zero.uniq cl' fun q hq=>(sq0 q hq).1
    subst eW
    rw [List.length_append,List.length_singleton] at hD he
    have hk1:=(hD k (Nat.le_refl _)).2
    have ek:k = M:=by
     by_cases z:k < M
     ·rcases he with y | y
      ·walk_at "o"
      ·by_cases e:k + 1 = M
       ·rw [e] at y
        walk_at "o"
       ·have:=my.up (k + 1) (by walk_at "o")
        walk_at "o"
     ·walk_at "o"
    rw [<- ek]
    exact num
   ·have o1:2 * M = qs.length:=by
     have:((qs.length:Int) % 2) = 0:=by simpa using ho
     walk_at "o"
    refine ⟨a,qs,rfl,ha.same S1,l1,by walk_at "o",sq,fun d H4 W' B' rs k S4 nd cl' ld po k6 hD he num=>⟨by decide,fun p5 H5 hp5 S5 h5=>h p5 H5 W B M "open" (S1.trans (S4.trans S5)) cl my ⟨.inr (.inr (.inr ⟨d1,rfl⟩)),d,[],h5,fun _=>rfl,fun z=>absurd z (by decide +kernel),fun _=>⟨rs,ld.same S5,po,?_⟩⟩⟩⟩
    obtain ⟨_,eW⟩:=cl.uniq cl' fun q hq=>(sq q hq).1
    subst eW
    have hk1:=(hD k (Nat.le_refl _)).2
    have ek:k = M:=by
     by_cases z:k < M
     ·rcases he with y | y
      ·walk_at "o"
      ·by_cases e:k + 1 = M
       ·rw [e] at y
        walk_at "o"
       ·have:=my.up (k + 1) (by walk_at "o")
        walk_at "o"
     ·walk_at "o"
    rw [<- ek]
    exact num
theorem Dp.same {qs:List (Int × Int)} {W:Nat -> Int} {B:Int} {M:Nat} {G G':Hp} {p:Addr} {s:Str} (h:Dp qs W B M G p s) (S:aw G G'):Dp qs W B M G' p s:=by
 obtain ⟨k,l,ys,h1,h2,h3,h4⟩:=h
 refine ⟨k,l,ys,S _ _ h1,h2,fun z=>?_,fun z=>?_⟩
 ·obtain ⟨rs,a,b⟩:=h3 z
  exact ⟨rs,a.same S,b⟩
 ·obtain ⟨rs,a,b⟩:=h4 z
  exact ⟨rs,a.same S,b⟩
def mf (W:Nat -> Int) (n M:Nat):Prop:=Dk W M < 0 \/ (Dk W M = 0 /\ ¬ vZ W (M - 1) n)
def jC (K:PySem.W.Frag):Sp:=fun vs H Q _=>∃ (a:Addr) (qs:List (Int × Int)) (W:Nat -> Int) (B:Int) (M:Nat),vs = [.ref a] /\ aH (vw K H) a qs /\ 1 <= qs.length /\ qs.length <= 11 /\ (∀ q ∈ qs,gk q) /\ ky qs W B /\ jo W qs.length M /\ ¬ mf W qs.length M /\
 ∀ (p:Addr) H' s,aw (vw K H) (vw K H') -> Dp qs W B M (vw K H') p s -> Q (.ref p) H'
theorem Ds (F:cU K "had" "had" m7 f fd) (T:dH K mg) (C_outlook:aP P w K mg base "outlook" ["sums"] 5 (fY K)) (C_is_bar:aP P w K mg base "is_bar" ["told"] 1 (gC K)):aV P w K mg base cV 6 f fd ["sums"] (jC K):=by
 have scN:=qK.nd
 refine F.okQ qK (fun vs H Q E h=>?_) (fun cdv A outer s H vs Q E hr h=>?_)
 ·obtain ⟨_,_,_,_,_,rfl,_⟩:=h
  rfl
 ·obtain ⟨a,qs,W,B,M,rfl,ha,l1,l11,sq,cl,my,nf,h⟩:=h
  refine ⟨_,(af (az (i:=1) scN rfl (by walk_at "a1") (ah C_outlook (hr.mono (by walk_at "a2")) rfl (aa (qv 0) ac)))
   (af (bT (df (ah C_is_bar (hr.mono (by walk_at "a2")) rfl (aa (qv 1) ac))) (ag jQ) aR)
   (ag (ar (qv 1))))),?_⟩
  walk_at "m"
  skip
  refine bv.gen fun N1 hN1=>?_
  walk_at "vc"
  simp only [fY]
  refine ⟨a,qs,rfl,ha,l1,l11,sq,fun p H1 W' B' M' s S1 cl' my' o=>hN1 _ _ ?_⟩
  obtain ⟨eB,eW⟩:=cl.uniq cl' fun q hq=>(sq q hq).1
  subst eB eW
  have eM:=my.uniq my'
  subst eM
  refine bv.gen fun N2 hN2=>?_
  walk_at "vc"
  simp only [gC]
  obtain ⟨l,ys,hp,_⟩:=o.at_
  refine ⟨p,s,_,false,rfl,hp,.inl ⟨rfl,?_⟩,fun H2 S2=>?_⟩
  ·rcases o.kind with ⟨z,_⟩ | ⟨z,y,_⟩ | ⟨_,_,z⟩ | ⟨_,z⟩
   ·exact absurd (.inl z) nf
   ·exact absurd (.inr ⟨z,y⟩) nf
   ·exact .inl z
   ·exact .inr z
  ·refine ⟨false,rfl,kc (by decide) (hN2 _ _ ?_)⟩
   walk_at "vc"
   exact h p H2 s (S1.trans S2) (o.same S2)
def qP (C:Addr) (K:PySem.W.Frag):Sp:=fun vs H _ E=>∃ (a:Addr) (qs:List (Int × Int)) (W:Nat -> Int) (B:Int) (M:Nat),vs = [.ref a] /\ aH (vw K H) a qs /\ 1 <= qs.length /\ qs.length <= 11 /\ (∀ q ∈ qs,gk q) /\ ky qs W B /\ jo W qs.length M /\ mf W qs.length M /\ ∀ H',aw (vw K H) (vw K H') -> E (.ref C) none H'
theorem An {C:Addr} (F:cU K "had" "had" m7 f fd) (T:dH K mg) (zx_NoSums:rA K C) (hgx_NoSums:mg "NoSums" = some (.ref C)) (C_outlook:aP P w K mg base "outlook" ["sums"] 5 (fY K)) (C_is_bar:aP P w K mg base "is_bar" ["told"] 1 (gC K)):aV P w K mg base (lW P w) 6 f fd ["sums"] (qP C K):=by
 have scN:=qK.nd
 refine F.okX qK (fun vs H Q E h=>?_) (fun cdv A outer s H vs Q E hr h=>?_)
 ·obtain ⟨_,_,_,_,_,rfl,_⟩:=h
  rfl
 ·obtain ⟨a,qs,W,B,M,rfl,ha,l1,l11,sq,cl,my,nf,h⟩:=h
  refine ⟨_,(af (az (i:=1) scN rfl (by walk_at "a1") (ah C_outlook (hr.mono (by walk_at "a2")) rfl (aa (qv 0) ac)))
   (af (bT (df (ah C_is_bar (hr.mono (by walk_at "a2")) rfl (aa (qv 1) ac))) (ag (yV zx_NoSums rfl hgx_NoSums (aa fu ac))) aR)
   (ag (ar (qv 1))))),?_⟩
  walk_at "m"
  walk_at "vc"
  refine ⟨a,qs,rfl,ha,l1,l11,sq,fun p H1 W' B' M' s S1 cl' my' o=>?_⟩
  obtain ⟨eB,eW⟩:=cl.uniq cl' fun q hq=>(sq q hq).1
  subst eB eW
  have eM:=my.uniq my'
  subst eM
  obtain ⟨l,ys,hp,_⟩:=o.at_
  refine ⟨p,s,_,true,rfl,hp,.inr ⟨rfl,?_⟩,fun H2 S2=>⟨true,rfl,oH rfl ?_⟩⟩
  ·rcases o.kind with ⟨_,z⟩ | ⟨_,_,z⟩ | ⟨z,y,_⟩ | ⟨z,_⟩
   ·exact .inl z
   ·exact .inr z
   ·rcases nf with u | ⟨_,u⟩
    ·walk_at "o"
    ·exact absurd y u
   ·rcases nf with u | ⟨u,_⟩ <;> walk_at "o"
  simp only [sR]
  walk_at "vc"
  exact ⟨by decide,h _ (S1.trans S2)⟩
theorem qb {W:Nat -> Int} {k:Nat} {rs:List (Int × Int)} (po:ba rs) (hD:Dk W k ≠ 0) (num:∀ j,cf rs j = ((qk W k j:Int):Rat) / ((Dk W k:Int):Rat)):rs.length = k + 1:=by
 have c0:((0:Int):Rat) = 0:=rfl
 refine Nat.le_antisymm (gi po fun j hj=>?_) (Nat.not_lt.mp fun z=>?_)
 ·rw [num,dt (by walk_at "o"),c0]
  grind
 ·have e:=num k
  rw [aU (by walk_at "o"),eO] at e
  have:=aj hD
  grind
def pN (W:Nat -> Int) (M:Nat):Nat:=if 0 < Dk W M then M else M - 1
theorem Dp.had {qs:List (Int × Int)} {W:Nat -> Int} {B:Int} {M:Nat} {G:Hp} {p:Addr} {s:Str} (o:Dp qs W B M G p s) (nf:¬ mf W qs.length M):∃ (l:Addr) (rs:List (Int × Int)),G p = some (.tup [.str s,.ref l]) /\ aH G l rs /\ ba rs /\ (∀ j,cf rs j = ((qk W (pN W M) j:Int):Rat) / ((Dk W (pN W M):Int):Rat)) /\ (s = "tight" /\ Dk W M = 0 \/ s = "open" /\ 0 < Dk W M):=by
 obtain ⟨k,l,ys,h1,h2,h3,h4⟩:=o
 rcases k with ⟨z,_⟩ | ⟨z,y,_⟩ | ⟨d0,_,z⟩ | ⟨d1,z⟩
 ·exact absurd (.inl z) nf
 ·exact absurd (.inr ⟨z,y⟩) nf
 ·obtain ⟨rs,a,b,c⟩:=h3 z
  rw [h2 (.inl z)] at h1
  refine ⟨l,rs,h1,a,b,?_,.inl ⟨z,d0⟩⟩
  unfold pN
  rw [if_neg (by walk_at "o")]
  exact c
 ·obtain ⟨rs,a,b,c⟩:=h4 z
  rw [h2 (.inr z)] at h1
  refine ⟨l,rs,h1,a,b,?_,.inr ⟨z,d1⟩⟩
  unfold pN
  rw [if_pos d1]
  exact c
theorem Ca {qs:List (Int × Int)} {W:Nat -> Int} {B:Int} (cl:ky qs W B) (sq:∀ q ∈ qs,gk q):Bt 170 B:=by
 have:=Int.le_of_dvd (by decide) (cl.least (jm 12) fun q hq=>(sq q hq).2.2)
 have:jm 12 < 2 ^ 170:=by decide
 have:=cl.pos
 unfold Bt
 have e:(2:Int) ^ 170 = ((2 ^ 170:Nat):Int):=by decide
 walk_at "o"
theorem Dw {W:Nat -> Int} {B:Int} {k:Nat} {c:List (Int × Int) × (Int × Int)} (h:cH W B k c) (hB:0 < B) (hD:0 < Dk W k):c.2.1 * (Dk W k * B) = Dk W (k + 1) * c.2.2:=by
 have e:=h.sqv
 have p:=Int.mul_pos hD hB
 have c1:((Dk W k * B:Int):Rat) ≠ 0:=aj (by walk_at "o")
 have c2:=aj h.fq.ne
 unfold wv at e
 have:((c.2.1 * (Dk W k * B):Int):Rat) = ((Dk W (k + 1) * c.2.2:Int):Rat):=by
  rw [Rat.intCast_mul,Rat.intCast_mul]
  grind
 exact Rat.intCast_inj.mp this
theorem cH.sgn {W:Nat -> Int} {B:Int} {k:Nat} {c:List (Int × Int) × (Int × Int)} (h:cH W B k c) (hB:0 < B) (hD:0 < Dk W k):0 < c.2.1 ↔ 0 < Dk W (k + 1):=by
 have e:=Dw h hB hD
 have p:=Int.mul_pos hD hB
 constructor
 ·intro z
  exact Int.pos_of_mul_pos_left (by rw [<- e]; exact Int.mul_pos z p) h.fq.1
 ·intro z
  exact Int.pos_of_mul_pos_left (by rw [e]; exact Int.mul_pos z h.fq.1) p
theorem zd {W:Nat -> Int} {k:Nat} (hD:Dk W k ≠ 0) (hk:k <= 5) (bW:∀ i,Bt 170 (W i)):Pb 1100 (Pk W k) :=
 ⟨Dk W k,hD,(jx bW (by walk_at "o")).mono (by decide),fun j=>⟨qk W k j,rfl,(lY bW hk).mono (by decide)⟩⟩
theorem cX.pop {G G':Hp} {t:Addr} {xs:List V} {pss:List (List (Int × Int) × (Int × Int))} {Pr:Addr -> Prop} (h:cX G t pss Pr) (ht:G t = some (.lst xs)) (hP:∀ m,Pr m -> m ≠ t) (B:dI t G G') (h':G' t = some (.lst xs.dropLast)):cX G' t pss.dropLast Pr:=by
 obtain ⟨ys,h1,h2,h3⟩:=h
 rw [ht] at h1
 cases h1
 refine ⟨xs.dropLast,h',by simp [h2],fun k c e=>?_⟩
 have hk:k < pss.length - 1:=by
  have:=(List.getElem?_eq_some_iff.mp e).1
  simpa using this
 rw [List.getElem?_dropLast,if_pos hk] at e
 obtain ⟨x,m,v,e1,e2,e3,e4,e5⟩:=h3 k c e
 exact ⟨x,m,v,by rw [List.getElem?_dropLast,if_pos (by walk_at "o")]; exact e1,B _ _ (fun z=>by rw [z,ht] at e2; cases e2) e2,e3.but ht (hP m e5) B,aC.flat_but ht B _ _ (aY _) e4,e5⟩
def xJ (W:Nat -> Int) (B:Int) (M:Nat) (x:Rat):Rat:=if Dk W M = 0 then (if EV (Pk W (M - 1)) x = 0 then 1 / wI W B x (M - 1) else 0) else 1 / wI W B x M
structure E5 (W:Nat -> Int) (B:Int) (M:Nat) (qs:List (Int × Int)) (x:Rat) (q:Int × Int) (fs:List (Int × Int)):Prop where
 fq:Fq q
 bq:Bq 20000 q
 po:ba fs
 pb:Pb 20000 (cf fs)
 len:2 * fs.length <= qs.length + 1
 val:wv q = xJ W B M x
 one:EV (cf fs) x = 1
 sq:aI (fun m=>pr (cf fs) (cf fs) fs.length m) (cf qs) (fs.length + fs.length) = wv q
theorem BF {f:Nat -> Rat} {c x:Rat}:EV (fun k=>f k * c) x = EV f x * c:=by
 rw [qC,qC,show (fun k=>f k * c) = fun k=>c * f k from funext fun k=>by grind,iL]
 grind
theorem gn {a:Nat -> Rat} {W:Nat -> Int} {j:Nat}:∀ m,m <= j -> fJ a (Pk W) m j = 0
 | 0,_=>rfl
 | m + 1,h=>by
  show fJ a (Pk W) m j + a m * Pk W m j = 0
  rw [gn m (by walk_at "o"),kL (by walk_at "o")]
  grind
theorem AI {W:Nat -> Int} {B:Int} {qs ts fs:List (Int × Int)} {m:Nat} {x:Rat} {q:Int × Int} (cl:ky qs W B) (hm:1 <= m) (hD:∀ i,i <= m -> 0 < Dk W i) (et:∀ j,cf ts j = fJ (cK W B x) (Pk W) m j) (vq:wv q = 1 / wI W B x m) (pf:ba fs) (ef:∀ k,cf fs k = cf ts k * wv q) :
  EV (cf fs) x = 1 /\ aI (fun m=>pr (cf fs) (cf fs) fs.length m) (cf qs) (fs.length + fs.length) = wv q /\ fs.length <= m:=by
 have cp:=qf (x:=x) cl.pos m hm hD
 have c0:wI W B x m ≠ 0:=fun z=>by rw [z] at cp; exact absurd cp (by decide)
 have e:cf fs = fun k=>fJ (cK W B x) (Pk W) m k * wv q:=funext fun k=>by rw [ef,et]
 have ll:fs.length <= m:=gi pf fun k hk=>by rw [ef,et,gn m hk]; grind
 refine ⟨?_,?_,ll⟩
 ·rw [e,BF,yx,vq]
  show wI W B x m * _ = 1
  grind
 ·rw [sS ll,e,rP,DO cl.pos hD cl.val (Nat.le_refl _),vq]
  grind
theorem yw {W:Nat -> Int} {B:Int} {qs rs fs:List (Int × Int)} {k:Nat} {x:Rat} {q:Int × Int} (cl:ky qs W B) (hD:0 < Dk W k) (h0:Dk W (k + 1) = 0) (pr':ba rs) (er:∀ j,cf rs j = Pk W k j) (hq:wv q = 1 / EV (Pk W k) x) (hx:EV (Pk W k) x ≠ 0) (pf:ba fs) (ef:∀ k,cf fs k = cf rs k * wv q) :
  EV (cf fs) x = 1 /\ aI (fun m=>pr (cf fs) (cf fs) fs.length m) (cf qs) (fs.length + fs.length) = 0 /\ fs.length <= k + 1:=by
 have e:cf fs = fun j=>cf rs j * wv q:=funext ef
 have lr:rs.length = k + 1:=qb pr' (by walk_at "o") er
 have ll:fs.length <= k + 1:=gi pf fun j hj=>by rw [ef,aU (by walk_at "o")]; grind
 refine ⟨?_,?_,ll⟩
 ·rw [e,BF,jL er,hq]
  grind
 ·have s:=qR (S:=cf qs) (P:=cf rs) (show Dk W k ≠ 0 by walk_at "o") (show B ≠ 0 by have:=cl.pos; walk_at "o") er cl.val (N:=rs.length + rs.length) (by walk_at "o")
  rw [h0,<- lr,sS (Nat.le_refl _)] at s
  rw [sS (n:=rs.length) (by walk_at "o"),e,rP,s]
  have z:((0:Int):Rat) = 0:=rfl
  rw [z]
  grind
theorem EO {W:Nat -> Int} (h:∀ i,Bt 170 (W i)):∀ i,i <= 6 -> Bt (173 * i + 8) (Dk W i):=fun i hi=>by
 by_cases e:i <= 5
 ·exact (qp h e).mono (by walk_at "o")
 ·rw [show i = 6 by walk_at "o"]
  exact (jx h (by walk_at "o")).mono (by decide)
theorem jE:wv (1,1) = 1:=BS
def ei (K:PySem.W.Frag):Sp:=fun vs H Q _=>∃ (a:Addr) (y:V) (qs:List (Int × Int)) (c:Int × Int) (W:Nat -> Int) (B:Int) (M:Nat),vs = [.ref a,y] /\ aH (vw K H) a qs /\ aC (vw K H) (fr c) y /\ Fq c /\ Bq 10 c /\ 1 <= qs.length /\ qs.length <= 11 /\ (∀ q ∈ qs,gk q) /\ ky qs W B /\ jo W qs.length M /\ ¬ mf W qs.length M /\
 ∀ (p l:Addr) (v:V) H' q fs,aw (vw K H) (vw K H') -> vw K H' p = some (.tup [v,.ref l]) -> aC (vw K H') (fr q) v -> aH (vw K H') l fs -> E5 W B M qs (wv c) q fs -> Q (.ref p) H'
theorem mj (F:cU K "least_square" "least_square" cS f fd) (T:dH K mg) (C_had:aP P w K mg base "had" ["sums"] 6 (jC K)) (C_steps:aP P w K mg base "steps" ["sums"] 4 (gM K)) (C_number_at:aP P w K mg base "number_at" ["f", "x"] 3 (cj K)) (C_grown:aP P w K mg base "grown" ["f", "by"] 4 (gR K)) (C_over:aP P w K mg base "over" ["one", "other"] 3 (iR K)) (C_summed:aP P w K mg base "summed" ["f", "g"] 4 (iZ K)):aV P w K mg base cV 7 f fd ["sums", "spot"] (ei K):=by
 have scN:=ig.nd
 refine F.okQ ig (fun vs H Q E h=>?_) (fun cdv A outer s H vs Q E hr h=>?_)
 ·obtain ⟨_,_,_,_,_,_,_,rfl,_⟩:=h
  rfl
 ·obtain ⟨a,y,qs,c,W,B,M,rfl,ha,hy,fc,bc,l1,l11,sq,cl,my,nf,h⟩:=h
  obtain ⟨z_ZERO,hg_ZERO,hv_ZERO⟩:=T.g_ZERO
  obtain ⟨z_ONE,hg_ONE,hv_ONE⟩:=T.g_ONE
  refine ⟨_,(af (cF (ah C_had (hr.mono (by walk_at "a2")) rfl (aa (qv 0) ac)) (br (n:=2) rfl (ay (am (i:=2) scN rfl (by walk_at "a1")) (ay (am (i:=3) scN rfl (by walk_at "a1")) bo))))
   (af (az (i:=4) scN rfl (by walk_at "a1") (ah C_steps (hr.mono (by walk_at "a2")) rfl (aa (qv 0) ac)))
   (af (bT (aN ik (qv 2) fu (aK _)) (af (az (i:=5) scN rfl (by walk_at "a1") (ah C_number_at (hr.mono (by walk_at "a2")) rfl (aa (qv 3) (aa (qv 1) ac))))
   (af (bT (aN (nM hr.u64) (qv 5) (bJ (v:=V.ref z_ZERO) rfl hg_ZERO rfl) (aK _)) (ag (ar (av (aa (bJ (v:=V.ref z_ZERO) rfl hg_ZERO rfl) (aa (ah C_grown (hr.mono (by walk_at "a2")) rfl (aa (qv 3) (aa (ah C_over (hr.mono (by walk_at "a2")) rfl (aa (bJ (v:=V.ref z_ONE) rfl hg_ONE rfl) (aa (qv 5) ac))) ac))) ac))))) aR)
   (ag (gT (Cm PySem.F.plainAttrs_list PySem.F.slot_list_pop PySem.F.type_list_pop AG (qv 4)))))) aR)
   (af (az (i:=6) scN rfl (by walk_at "a1") (aD ac))
   (af (cr PassesOwn.never rfl (dZ (qv 4)) (br (n:=2) rfl (ay (am (i:=7) scN rfl (by walk_at "a1")) (ay (am (i:=8) scN rfl (by walk_at "a1")) bo))) (ag (az (i:=6) scN rfl (by walk_at "a1") (ah C_summed (hr.mono (by walk_at "a2")) rfl (aa (qv 6) (aa (ah C_grown (hr.mono (by walk_at "a2")) rfl (aa (qv 7) (aa (ah C_over (hr.mono (by walk_at "a2")) rfl (aa (ah C_number_at (hr.mono (by walk_at "a2")) rfl (aa (qv 7) (aa (qv 1) ac))) (aa (qv 8) ac))) ac))) ac))))))
   (af (az (i:=5) scN rfl (by walk_at "a1") (ah C_over (hr.mono (by walk_at "a2")) rfl (aa (bJ (v:=V.ref z_ONE) rfl hg_ONE rfl) (aa (ah C_number_at (hr.mono (by walk_at "a2")) rfl (aa (qv 6) (aa (qv 1) ac))) ac))))
   (ag (ar (av (aa (qv 5) (aa (ah C_grown (hr.mono (by walk_at "a2")) rfl (aa (qv 6) (aa (qv 5) ac))) ac))))))))))),?_⟩
  walk_at "m"
  skip
  have hB:=cl.pos
  have bB:=Ca cl sq
  have m1:=my.one
  have m2:=my.most
  refine bv.gen fun N1 hN1=>?_
  walk_at "vc"
  simp only [jC]
  refine ⟨a,qs,W,B,M,rfl,ha,l1,l11,sq,cl,my,nf,fun p H1 s S1 o=>?_⟩
  obtain ⟨lr,rs,h1,lrs,prs,nrs,hs⟩:=o.had nf
  refine ⟨_,rfl,_,h1,rfl,_,_,rfl,_,_,rfl,rfl,hN1 _ _ ?_⟩
  refine bv.gen fun N2 hN2=>?_
  walk_at "vc"
  simp only [gM]
  refine ⟨a,qs,rfl,ha.same S1,l1,l11,sq,fun t H2 W' B' pss S2 ht cl' my' sa so=>hN2 _ _ ?_⟩
  obtain ⟨eB,eW⟩:=cl.uniq cl' fun q hq=>(sq q hq).1
  subst eB eW
  have eM:=my.uniq my'
  subst eM
  have S02:=S1.trans S2
  have t0:vw K H t = none:=S1.none ht
  refine bv.gen fun N3 hN3=>?_
  have key:∀ (H5:Hp) (pss':List (List (Int × Int) × (Int × Int))) (on:Option V),aw (vw K H) (vw K H5) -> cX (vw K H5) t pss' (fun l=>vw K H1 l = none /\ l ≠ t) -> 1 <= pss'.length -> (∀ i,i <= pss'.length -> 0 < Dk W i) -> 2 * pss'.length <= qs.length + 1 -> (∀ k c,pss'[k]? = some c -> cH W B k c) -> xJ W B pss.length (wv c) = 1 / wI W B (wv c) pss'.length -> N3 [some (.ref a),some y,some (.str s),some (.ref lr),some (.ref t),on,none,none,none] H5:=by
   intro H5 ls on S5 sl p1 hD p2 sol lv
   refine hN3 _ _ ?_
   obtain ⟨xs,hxs,lxs,hx⟩:=id sl
   have p6:ls.length <= 6:=by walk_at "o"
   refine bv.gen fun N4 hN4=>?_
   walk_at "vc"
   refine ⟨by decide,fun d0 H6 hd0 S6 h6=>hN4 _ _ ?_⟩
   refine bv.gen fun N5 hN5=>?_
   walk_at "vc"
   refine ⟨⟨_,.of (aO (S6 _ _ hxs))⟩,?_⟩
   obtain ⟨Pv,hPv⟩ : ∃ Pv:Nat -> St -> Hp -> Prop,∀ i σ H',Pv i σ H' ↔ ∃ (d:Addr) (o7 o8:Option V) (ts:List (Int × Int)),σ = [some (.ref a),some y,some (.str s),some (.ref lr),some (.ref t),on,some (.ref d),o7,o8] /\ aw (vw K H5) (vw K H') /\ aH (vw K H') d ts /\ ba ts /\ ∀ j,cf ts j = fJ (cK W B (wv c)) (Pk W) i j:=⟨_,fun _ _ _=>Iff.rfl⟩
   have tpb:∀ {i:Nat} {ts:List (Int × Int)},i <= ls.length -> ba ts -> (∀ j,cf ts j = fJ (cK W B (wv c)) (Pk W) i j) -> Pb 7100 (cf ts) /\ ts.length <= 6:=fun hi pt et=>⟨((xp cl.bt hB bB fc bc _ (by walk_at "o") (fun j hj=>hD j (by walk_at "o")) (EO cl.bt)).congr et).mono (FD (by walk_at "o")),Nat.le_trans (gi pt fun k hk=>by rw [et,gn _ hk]) (by walk_at "o")⟩
   refine bA (its:=xs) Pv (fun i σ H' _ p=>?_) ((hPv _ _ _).mpr ⟨d0,_,_,[],rfl,S6,⟨[],h6,.mk_nil⟩,⟨by simp,by simp⟩,fun j=>?_⟩) (fun i x σ H7 hi hx2 pv=>?_) (fun σ H7 pv=>hN5 _ _ ?_)
   ·obtain ⟨_,_,_,_,_,z,_⟩:=(hPv _ _ _).mp p
    exact bY (z _ _ hxs)
   ·rw [tT]
    rfl
   ·obtain ⟨d,o7,o8,ts,rfl,S7,ld,pd,ed⟩:=(hPv _ _ _).mp pv
    obtain ⟨e,he⟩ : ∃ e,ls[i]? = some e:=⟨_,List.getElem?_eq_getElem (by walk_at "o")⟩
    obtain ⟨x',l,v,e1,e2,e3,e4,_⟩:=hx i e he
    rw [hx2] at e1
    cases e1
    have soe:=sol i e he
    have hi':i < ls.length:=by walk_at "o"
    have di:=hD i (by walk_at "o")
    have di1:=hD (i + 1) (by walk_at "o")
    have dni:Dk W i ≠ 0:=by walk_at "o"
    have le:=soe.len dni
    obtain ⟨pts,lts⟩:=tpb (by walk_at "o") pd ed
    have pst:=soe.pb dni (by walk_at "o") cl.bt
    have bst:=pst.bq soe.po.1
    have bD:∀ i,i <= 6 -> Bt 1046 (Dk W i):=fun i hi=>(jx cl.bt hi).mono (by decide)
    have dB:Dk W i * B ≠ 0:=Int.mul_ne_zero dni (by walk_at "o")
    have b1:Bq 1216 e.2:=j6 soe.fq soe.sqv dB ((bD (i + 1) (by walk_at "o")).mono (by decide)) (((bD i (by walk_at "o")).mul bB).mono (by decide))
    have nz:e.2.1 ≠ 0:=by
     have:=(soe.sgn hB di).mpr di1
     walk_at "o"
    have S57:=S5.trans S7
    walk_at "vc"
    refine ⟨_,S7 _ _ e2,rfl,_,_,rfl,_,_,rfl,rfl,?_⟩
    simp only [cj]
    refine ⟨l,y,e.1,c,rfl,e3.same S7,aC.same S57 _ _ hy,by walk_at "o",fun q hq=>⟨soe.po.1 q hq,(bst q hq).mono (by decide)⟩,fc,bc.mono (by decide),fun v8 H8 q8 S8 r8 f8 w8=>?_⟩
    rw [jF (by walk_at "o")] at w8
    have b8:=yU pst (by walk_at "o") fc bc f8 w8
    rw [jL soe.num] at w8
    simp only [iR]
    refine ⟨_,_,q8,e.2,rfl,r8,aC.same (S7.trans S8) _ _ e4,f8.ne,soe.fq.ne,nz,b8.mono (by decide),b1.mono (by decide),(b8.2.mul b1.1).mono (by decide),fun v9 H9 S9 r9=>?_⟩
    have f9:=mn f8 nz
    have b9:Bq 3000 (fz q8 e.2):=(qW f8 nz b8 b1).mono (by decide)
    have w9:wv (fz q8 e.2) = cK W B (wv c) i:=by
     rw [pT f8.ne soe.fq.ne nz,w8,soe.sqv]
     rfl
    simp only [gR]
    refine ⟨l,v9,e.1,fz q8 e.2,rfl,(e3.same S7).same (S8.trans S9),r9,by walk_at "o",fun q hq=>⟨soe.po.1 q hq,(bst q hq).mono (by decide)⟩,f9,b9.mono (by decide),fun d10 H10 gs S10 l10 n10 p10 w10 le10=>?_⟩
    have pgs:Pb 4100 (cf gs):=by
     have:=Pb.one pst (E:=(fz q8 e.2).2) (m:=(fz q8 e.2).1) (c:=wv (fz q8 e.2)) (b:=3000) f9.ne rfl b9.1 b9.2
     exact this.congr w10
    simp only [iZ]
    have S710:=S8.trans (S9.trans S10)
    refine ⟨d,d10,ts,gs,rfl,ld.same S710,l10,by walk_at "o",by walk_at "o",fun q hq=>⟨pd.1 q hq,(pts.bq pd.1 q hq).mono (by decide)⟩,fun q hq=>⟨p10.1 q hq,(pgs.bq p10.1 q hq).mono (by decide)⟩,fun d11 H11 us S11 l11' n11 p11 w11 _=>(hPv _ _ _).mpr ⟨d11,_,_,us,rfl,S7.trans (S710.trans S11),l11',p11,fun j=>?_⟩⟩
    rw [w11,ed,w10,w9,soe.num]
    show _ = fJ _ _ i j + cK W B (wv c) i * Pk W i j
    unfold Pk
    grind
   ·obtain ⟨d,o7,o8,ts,rfl,S7,ld,pd,ed⟩:=(hPv _ _ _).mp pv
    rw [lxs] at ed
    obtain ⟨pts,lts⟩:=tpb (Nat.le_refl _) pd ed
    have cp:=qf (x:=wv c) hB ls.length p1 hD
    have c0:wI W B (wv c) ls.length ≠ 0:=fun z=>by rw [z] at cp; exact absurd cp (by decide)
    have S57:=S5.trans S7
    refine bv.gen fun N6 hN6=>?_
    walk_at "vc"
    simp only [cj]
    refine ⟨d,y,ts,c,rfl,ld,aC.same S57 _ _ hy,by walk_at "o",fun q hq=>⟨pd.1 q hq,(pts.bq pd.1 q hq).mono (by decide)⟩,fc,bc.mono (by decide),fun v8 H8 q8 S8 r8 f8 w8=>?_⟩
    rw [jF (by walk_at "o")] at w8
    have b8:=yU pts (by walk_at "o") fc bc f8 w8
    rw [jL ed,yx] at w8
    have w8':wv q8 = wI W B (wv c) ls.length:=w8
    have nz:q8.1 ≠ 0:=fun z=>c0 (by rw [<- w8',(eo f8.ne).mpr z])
    simp only [iR]
    refine ⟨_,_,(1,1),q8,rfl,aJ (hv_ONE _),r8,by decide,f8.ne,nz,Bq.mono (m:=2) (q:=(1,1)) ⟨by decide,by decide⟩ (by decide),b8.mono (by decide),by rw [Int.one_mul]; exact b8.1.mono (by decide),fun v9 H9 S9 r9=>hN6 _ _ ?_⟩
    have f9:=mn (p:=(1,1)) ⟨by decide,by decide⟩ nz
    have w9:wv (fz (1,1) q8) = 1 / wI W B (wv c) ls.length:=by rw [pT (by decide) f8.ne nz,w8',jE]
    have b9:Bq 7300 (fz (1,1) q8):=(qW (p:=(1,1)) (m:=2) ⟨by decide,by decide⟩ nz ⟨by decide,by decide⟩ b8).mono (by decide)
    have S79:=S8.trans S9
    walk_at "vc"
    simp only [gR]
    refine ⟨d,v9,ts,fz (1,1) q8,rfl,ld.same S79,r9,by walk_at "o",fun q hq=>⟨pd.1 q hq,(pts.bq pd.1 q hq).mono (by decide)⟩,f9,b9.mono (by decide),fun d10 H10 gs S10 l10 n10 p10 w10 le10=>⟨by decide,fun p11 H11 hp11 S11 h11=>?_⟩⟩
    obtain ⟨z1,z2,z3⟩:=AI cl p1 hD ed w9 p10 w10
    have pgs:Pb 20000 (cf gs):=by
     have:=Pb.one pts (E:=(fz (1,1) q8).2) (m:=(fz (1,1) q8).1) (c:=wv (fz (1,1) q8)) (b:=7300) f9.ne rfl b9.1 b9.2
     exact (this.congr w10).mono (by decide)
    exact h p11 d10 v9 H11 _ gs (S57.trans (S79.trans (S10.trans S11))) h11 (aC.same (S10.trans S11) _ _ r9) (l10.same S11) ⟨f9,b9.mono (by decide),p10,pgs,by walk_at "o",by rw [w9,lv],z1,z2⟩
  have hups:∀ i,i < pss.length -> 0 < Dk W i:=my.up
  walk_at "vc"
  refine ⟨rfl,bV (fun hc=>?_) (fun hc=>?_)⟩
  ·have d0:Dk W pss.length = 0:=by
    rcases hs with ⟨_,z⟩ | ⟨z,_⟩
    ·exact z
    ·rw [z] at hc
     exact absurd hc (by decide +kernel)
   have ek:pN W pss.length = pss.length - 1:=by unfold pN; rw [if_neg (by walk_at "o")]
   rw [ek] at nrs
   have dk:=hups (pss.length - 1) (by walk_at "o")
   have dn:Dk W (pss.length - 1) ≠ 0:=by walk_at "o"
   have lrl:=qb prs dn nrs
   have p5:pss.length - 1 <= 5:=by walk_at "o"
   have prb:Pb 1100 (cf rs):=(zd dn p5 cl.bt).congr nrs
   simp only [cj]
   refine ⟨lr,y,rs,c,rfl,lrs.same S2,aC.same S02 _ _ hy,by walk_at "o",fun q hq=>⟨prs.1 q hq,(prb.bq prs.1 q hq).mono (by decide)⟩,fc,bc.mono (by decide),fun v8 H8 q8 S8 r8 f8 w8=>?_⟩
   rw [jF (by walk_at "o")] at w8
   have b8:=yU prb (by walk_at "o") fc bc f8 w8
   rw [jL nrs] at w8
   have w8':wv q8 = EV (Pk W (pss.length - 1)) (wv c):=w8
   have S08:=S02.trans S8
   refine ⟨_,r8,_,aJ (hv_ZERO _),cR _,cR _,?_⟩
   rw [gv]
   refine bV (fun hz=>?_) (fun hz=>?_)
   ·have nq:q8 ≠ (0,1):=of_decide_eq_false hz
    have nz:q8.1 ≠ 0:=fun z=>nq ((kE f8).mpr z)
    have nx:EV (Pk W (pss.length - 1)) (wv c) ≠ 0:=fun z=>nz ((eo f8.ne).mp (by rw [w8',z]))
    simp only [iR]
    refine ⟨_,_,(1,1),q8,rfl,aJ (hv_ONE _),r8,by decide,f8.ne,nz,Bq.mono (m:=2) (q:=(1,1)) ⟨by decide,by decide⟩ (by decide),b8.mono (by decide),by rw [Int.one_mul]; exact b8.1.mono (by decide),fun v9 H9 S9 r9=>?_⟩
    have f9:=mn (p:=(1,1)) ⟨by decide,by decide⟩ nz
    have w9:wv (fz (1,1) q8) = 1 / EV (Pk W (pss.length - 1)) (wv c):=by rw [pT (by decide) f8.ne nz,w8',jE]
    have b9:Bq 1300 (fz (1,1) q8):=(qW (p:=(1,1)) (m:=2) ⟨by decide,by decide⟩ nz ⟨by decide,by decide⟩ b8).mono (by decide)
    have S29:=S8.trans S9
    simp only [gR]
    refine ⟨lr,v9,rs,fz (1,1) q8,rfl,(lrs.same S2).same S29,r9,by walk_at "o",fun q hq=>⟨prs.1 q hq,(prb.bq prs.1 q hq).mono (by decide)⟩,f9,b9.mono (by decide),fun d10 H10 gs S10 l10 n10 p10 w10 le10=>⟨by decide,fun p11 H11 hp11 S11 h11=>?_⟩⟩
    obtain ⟨z1,z2,z3⟩:=yw cl dk (by rw [show pss.length - 1 + 1 = pss.length by walk_at "o"]; exact d0) prs nrs w9 nx p10 w10
    have pgs:Pb 20000 (cf gs):=by
     have:=Pb.one prb (E:=(fz (1,1) q8).2) (m:=(fz (1,1) q8).1) (c:=wv (fz (1,1) q8)) (b:=1300) f9.ne rfl b9.1 b9.2
     exact (this.congr w10).mono (by decide)
    have z0:wv (0,1) = 0:=(eo (by decide)).mpr rfl
    exact h p11 d10 _ H11 (0,1) gs (S02.trans (S29.trans (S10.trans S11))) h11 (aJ (hv_ZERO _)) (l10.same S11) ⟨lP,ur (by decide),p10,pgs,by walk_at "o",by unfold xJ; rw [if_pos d0,if_neg nx,z0],z1,by rw [z2,z0]⟩
   ·have eq0:q8 = (0,1):=by simpa using hz
    have nx:EV (Pk W (pss.length - 1)) (wv c) = 0:=by rw [<- w8',eq0]; exact (eo (by decide)).mpr rfl
    obtain ⟨xs,hxs,lxs,hx⟩:=id (sa.same S8)
    have two:2 <= pss.length:=Classical.byContradiction fun z=>by
     have e1:pss.length - 1 = 0:=by walk_at "o"
     rw [e1,BI] at nx
     exact absurd nx (by decide)
    refine ⟨kN hxs,xs,hxs,⟨_,List.getElem?_eq_getElem (by walk_at "o")⟩,fun H9 B9 h9=>?_⟩
    have lp:pss.dropLast.length = pss.length - 1:=List.length_dropLast
    refine key H9 pss.dropLast _ (fun b o e=>B9 _ _ (ak e t0) (S08 _ _ e)) ((sa.same S8).pop hxs (fun m z=>z.2) B9 h9) (by walk_at "o") (fun i hi=>hups i (by walk_at "o")) (by walk_at "o") (fun k e he=>?_) ?_
    ·have hk:k < pss.length - 1:=by
      have:=(List.getElem?_eq_some_iff.mp he).1
      walk_at "o"
     rw [List.getElem?_dropLast,if_pos hk] at he
     exact so k e he
    ·unfold xJ
     rw [if_pos d0,if_pos nx,lp]
  ·have d1:0 < Dk W pss.length:=by
    rcases hs with ⟨z,_⟩ | ⟨_,z⟩
    ·exact absurd z hc
    ·exact z
   refine key H2 pss _ S02 sa m1 (fun i hi=>?_) (by walk_at "o") so ?_
   ·by_cases e:i = pss.length
    ·rw [e]; exact d1
    ·exact hups i (by walk_at "o")
   ·unfold xJ
    rw [if_neg (by walk_at "o")]
def d4 (K:PySem.W.Frag):Sp:=fun vs H Q _=>∃ (a b:Addr) (fs gs:List (Int × Int)) (A B:Nat),vs = [.ref a,.ref b] /\ aH (vw K H) a fs /\ aH (vw K H) b gs /\ fs.length <= 40 /\ gs.length <= 40 /\ A + B <= 400000 /\ (∀ q ∈ fs,Fq q) /\ (∀ q ∈ gs,Fq q) /\ Pb A (cf fs) /\ Pb B (cf gs) /\
 ∀ d H' (rs:List (Int × Int)),aw (vw K H) (vw K H') -> aH (vw K H') d rs -> vw K H d = none -> ba rs -> (∀ k,cf rs k = pr (cf fs) (cf gs) fs.length k) -> rs.length <= fs.length + gs.length -> Q (.ref d) H'
theorem qZ (F:cU K "_law_multiplied" "_law_multiplied" dN f fd) (T:dH K mg) (zCclean:aP P w K mg base "_law_clean" ["_law_numbers"] 1 (i8 K)) (zCplus:aP P w K mg base "_law_plus" ["_law_one", "_law_other"] 3 (dw K)) (zCtimes:aP P w K mg base "_law_times" ["_law_one", "_law_other"] 3 (el K)):aV P w K mg base cV 4 f fd ["_law_f", "_law_g"] (d4 K):=by
 have scN:=jZ.nd
 refine F.okQ jZ (fun vs H Q E h=>?_) (fun cdv A outer s H vs Q E hr h=>?_)
 ·obtain ⟨a,_,_,_,_,_,rfl,_⟩:=h
  rfl
 ·obtain ⟨a,b,fs,gs,A',B,rfl,ha,hb,lf,lg',hAB,hf,hg,⟨D1,d1,d2,d3⟩,⟨E1,e1',e2',e3'⟩,h⟩:=h
  have bf:=Ob.bq d3 d1 d2 hf
  have bg:=Ob.bq e3' e1' e2' hg
  have hX:=Int.mul_ne_zero d1 e1'
  have bX:=d2.mul e2'
  refine ⟨_,(af (az (i:=2) scN rfl (by walk_at "a1") (ap aL (aD (aa (av (aa ad (aa ad ac))) ac)) (ap aS (ai aB (by rfl) T.b_len aT (aa (qv 0) ac)) (ai aB (by rfl) T.b_len aT (aa (qv 1) ac)))))
   (af (cr PassesOwn.never rfl (bZ rfl T.b_range (aa (ai aB (by rfl) T.b_len aT (aa (qv 0) ac)) ac)) (am (i:=3) scN rfl (by walk_at "a1")) (ag (cr PassesOwn.never rfl (bZ rfl T.b_range (aa (ai aB (by rfl) T.b_len aT (aa (qv 1) ac)) ac)) (am (i:=4) scN rfl (by walk_at "a1")) (ag (cF (ah zCplus (hr.mono (by walk_at "a2")) rfl (aa (aA cJ (qv 2) (ap aS (qv 3) (qv 4)) (fun _ _=>rfl)) (aa (ah zCtimes (hr.mono (by walk_at "a2")) rfl (aa (aA cJ (qv 0) (qv 3) (fun _ _=>rfl)) (aa (aA cJ (qv 1) (qv 4) (fun _ _=>rfl)) ac))) ac))) (nS (qv 2) (ap aS (qv 3) (qv 4)) eJ))))))
   (ag (ar (ah zCclean (hr.mono (by walk_at "a2")) rfl (aa (qv 2) ac)))))),?_⟩
  walk_at "m"
  walk_at "vc"
  obtain ⟨xs,hxs,rxs⟩:=id ha
  obtain ⟨ys,hys,rys⟩:=id hb
  refine ⟨by decide,fun p2 H2 hp2 S2 h2=>⟨by decide,fun p3 H3 hp3 S3 h3=>?_⟩⟩
  have S03:=S2.trans S3
  refine ⟨_,(ha.same S03).len,_,(hb.same S03).len,?_⟩
  rw [show (fs.length:Int) + (gs.length:Int) = ((fs.length + gs.length:Nat):Int) by walk_at "o",fk]
  refine ⟨_,h3,by walk_at "o",by walk_at "o",?_,fun e H5 he S5 h5=>?_⟩
  ·have:1000 <= sizeLine:=by decide
   simp
   walk_at "o"
  rw [show ((fs.length + gs.length:Nat):Int).toNat = fs.length + gs.length by walk_at "o",iy] at h5
  have S05:=S03.trans S5
  have r2:aC (vw K H5) (fr (0,1)) (.ref p2):=aJ ((S3.trans S5) _ _ h2)
  have ne:vw K H e = none:=S03.none he
  refine ⟨_,(ha.same S05).len,by walk_at "o",by walk_at "o",?_⟩
  obtain ⟨n,hn⟩ : ∃ n,n = fs.length + gs.length:=⟨_,rfl⟩
  rw [<- hn] at h5
  obtain ⟨Pv,hPv⟩ : ∃ Pv:Nat -> St -> Hp -> Prop,∀ i σ H',Pv i σ H' ↔ ∃ o3 o4,σ = [some (.ref a),some (.ref b),some (.ref e),o3,o4] /\ aw (vw K H) (vw K H') /\ ∃ qs,aH (vw K H') e qs /\ qs.length = n /\ (∀ q ∈ qs,Fq q) /\ (∀ k,k < n -> cf qs k = pr (cf fs) (cf gs) i k):=⟨_,fun _ _ _=>Iff.rfl⟩
  refine bA (its:=fm 0 fs.length) Pv (fun _ _ _ _ _=>bh) ((hPv _ _ _).mpr ⟨_,_,rfl,S05,List.replicate n (0,1),⟨_,h5,?_⟩,by simp,fun q hq=>?_,fun k hk=>?_⟩) (fun i x σ H6 hi hx pv=>?_) (fun σ H6 pv=>?_)
  ·rw [jR]
   exact aF.repl r2 n
  ·rw [(List.mem_replicate.mp hq).2]
   exact lP
  ·rw [aW (List.getElem?_replicate_of_lt hk),pi]
   rfl
  ·obtain ⟨o3,o4,rfl,S6,qs,l6,n6,f6,c6⟩:=(hPv _ _ _).mp pv
   obtain ⟨hi',rfl⟩:=dY hx
   rw [Int.zero_add]
   walk_at "vc"
   refine ⟨_,(hb.same S6).len,by walk_at "o",by walk_at "o",?_⟩
   obtain ⟨Pw,hPw⟩ : ∃ Pw:Nat -> St -> Hp -> Prop,∀ j σ H',Pw j σ H' ↔ ∃ o4,σ = [some (.ref a),some (.ref b),some (.ref e),some (.int i),o4] /\ aw (vw K H) (vw K H') /\ ∃ qs,aH (vw K H') e qs /\ qs.length = n /\ (∀ q ∈ qs,Fq q) /\ (∀ k,k < n -> cf qs k = qr (cf fs) (cf gs) i j k):=⟨_,fun _ _ _=>Iff.rfl⟩
   refine bA (its:=fm 0 gs.length) Pw (fun _ _ _ _ _=>bh) ((hPw _ _ _).mpr ⟨_,rfl,S6,qs,l6,n6,f6,fun k hk=>?_⟩) (fun j x σ H7 hj hx pw=>?_) (fun σ H7 pw=>?_)
   ·rw [Gi]
    exact c6 k hk
   ·obtain ⟨o4,rfl,S7,ps,l7,n7,f7,c7⟩:=(hPw _ _ _).mp pw
    obtain ⟨hj',rfl⟩:=dY hx
    rw [Int.zero_add]
    obtain ⟨zs,hzs,rzs⟩:=id l7
    have hiq:i + j < ps.length:=by walk_at "o"
    obtain ⟨x0,e0,r0⟩:=rzs.at (i:=i + j) (d:=fr ps[i + j]) (by rw [List.getElem?_map,List.getElem?_eq_getElem hiq]; rfl)
    obtain ⟨x1,e1,r1⟩:=rxs.at (i:=i) (d:=fr fs[i]) (by rw [List.getElem?_map,List.getElem?_eq_getElem hi']; rfl)
    obtain ⟨x2,e2,r2'⟩:=rys.at (i:=j) (d:=fr gs[j]) (by rw [List.getElem?_map,List.getElem?_eq_getElem hj']; rfl)
    have k1:=f7 ps[i + j] (List.getElem_mem hiq)
    have k3:Bq (A' + B + 100) ps[i + j]:=by
     obtain ⟨m,em,bm⟩:=EY d1 e1' d3 e3' i j (i + j)
     have em':qr (cf fs) (cf gs) i j (i + j) = _:=em
     refine j6 k1 (n:=m) (by rw [<- em',<- c7 (i + j) (by walk_at "o"),aW (List.getElem?_eq_getElem hiq)]) hX (bm.mono (by walk_at "o")) (bX.mono (by walk_at "o"))
    have g1:=hg gs[j] (List.getElem_mem hj')
    have g2:=bg gs[j] (List.getElem_mem hj')
    have u1:=hf fs[i] (List.getElem_mem hi')
    have u2:=bf fs[i] (List.getElem_mem hi')
    walk_at "vc"
    rw [show (i:Int) + (j:Int) = ((i + j:Nat):Int) by walk_at "o"]
    refine ⟨zs,hzs,x0,bQ e0,xs,S7 _ _ hxs,x1,bQ e1,ys,S7 _ _ hys,x2,bQ e2,?_⟩
    simp only [el]
    walk_at "vc"
    refine ⟨_,aC.same S7 _ _ r1,_,aC.same S7 _ _ r2',u1.ne,g1.ne,u2.mono (by walk_at "o"),g2.mono (by walk_at "o"),(u2.2.mul g2.2).mono (by walk_at "o"),fun v3 H8 S8 r3=>?_⟩
    have f3:=iO u1 g1
    have b3:=kr u1 g1 u2 g2
    simp only [dw]
    walk_at "vc"
    refine ⟨_,aC.same S8 _ _ r0,_,r3,k1.ne,f3.ne,k3.mono (by walk_at "o"),b3.mono (by walk_at "o"),(k3.2.mul b3.2).mono (by walk_at "o"),fun v4 H9 S9 r4=>?_⟩
    have f4:=fM k1 f3
    have S79:=S8.trans S9
    have hlz:zs.length = ps.length:=by rw [rzs.length,List.length_map]
    refine ⟨zs,S79 _ _ hzs,i + j,by rw [hlz]; exact kv hiq,fun H10 B10 h10=>(hPw _ _ _).mpr ⟨_,rfl,fun x o e'=>B10 _ _ (ak e' ne) (S79 _ _ (S7 _ _ e')),ps.set (i + j) (ki ps[i + j] (ow fs[i] gs[j])),aH.chg (S79 _ _ hzs) (rzs.same S79) r4 B10 h10,by rw [List.length_set]; exact n7,fun q hq=>?_,fun k hk=>?_⟩⟩
    ·rcases List.mem_or_eq_of_mem_set hq with z | z
     ·exact f7 q z
     ·rw [z]
      exact f4
    ·rw [uO hiq,Fj]
     by_cases hk:k = i + j
     ·rw [if_pos hk,if_pos hk,iD k1.ne f3.ne,kI u1.ne g1.ne,<- aW (List.getElem?_eq_getElem hiq),<- aW (List.getElem?_eq_getElem hi'),<- aW (List.getElem?_eq_getElem hj'),c7 (i + j) (by walk_at "o")]
     ·rw [if_neg hk,if_neg hk,c7 k (by assumption)]
   ·obtain ⟨o4,rfl,S7,ps,l7,n7,f7,c7⟩:=(hPw _ _ _).mp pw
    rw [ci] at c7
    refine (hPv _ _ _).mpr ⟨_,_,rfl,S7,ps,l7,n7,f7,fun k hk=>?_⟩
    rw [c7 k hk,CB fun i hi=>aU hi]
  ·obtain ⟨o3,o4,rfl,S6,qs,l6,n6,f6,c6⟩:=(hPv _ _ _).mp pv
   rw [ci] at c6
   walk_at "vc"
   simp only [i8]
   walk_at "vc"
   have hF:∀ q ∈ qs,Fq q:=f6
   refine ⟨qs,l6,fun d H7 n' hn' hz hd hnd S7 l7=>h d H7 (qs.take n') (S6.trans S7) l7 (S6.none hnd) (sB hF hz) (fun k=>?_) (by rw [List.length_take]; walk_at "o")⟩
   rw [pY hF hd k]
   by_cases hk:k < n
   ·exact c6 k hk
   ·rw [aU (by walk_at "o"),gU (n:=gs.length) (fun i hi=>aU hi) _ _ (by walk_at "o")]
def jn (K:PySem.W.Frag):Sp:=fun vs H Q _=>∃ (a b:Addr) (es qs fs:List (Int × Int)) (A B:Nat),vs = [.ref a,.ref b] /\ aH (vw K H) a es /\ (∃ ext,es = qs ++ ext) /\ aH (vw K H) b fs /\ fs.length <= qs.length /\ qs.length <= 12 /\ (∀ q ∈ qs,Fq q) /\ (∀ q ∈ fs,Fq q) /\ Pb A (cf qs) /\ Pb B (cf fs) /\ A + B <= 400000 /\
 ∀ v H' r,aw (vw K H) (vw K H') -> aC (vw K H') (fr r) v -> Fq r -> wv r = aI (cf fs) (cf qs) fs.length -> Q v H'
theorem Bz (F:cU K "_law_worth" "_law_worth" i5 f fd) (T:dH K mg) (zCplus:aP P w K mg base "_law_plus" ["_law_one", "_law_other"] 3 (dw K)) (zCtimes:aP P w K mg base "_law_times" ["_law_one", "_law_other"] 3 (el K)):aV P w K mg base cV 4 f fd ["_law_sums_here", "_law_f"] (jn K):=by
 have scN:=uv.nd
 refine F.okQ uv (fun vs H Q E h=>?_) (fun cdv A outer s H vs Q E hr h=>?_)
 ·obtain ⟨a,_,_,_,_,_,_,rfl,_⟩:=h
  rfl
 ·obtain ⟨a,b,es,qs,fs,A1,B1,rfl,ha,⟨ext,hex⟩,hb,lf,lq,hq,hf,⟨D1,d1,d2,d3⟩,⟨E1,e1',e2',e3'⟩,ab,h⟩:=h
  have bq:=Ob.bq d3 d1 d2 hq
  have bf:=Ob.bq e3' e1' e2' hf
  have hX:=Int.mul_ne_zero e1' d1
  have bX:=e2'.mul d2
  refine ⟨_,(af (az (i:=2) scN rfl (by walk_at "a1") (av (aa ad (aa ad ac))))
   (af (cr PassesOwn.never rfl (bZ rfl T.b_range (aa (ai aB (by rfl) T.b_len aT (aa (qv 1) ac)) ac)) (am (i:=3) scN rfl (by walk_at "a1")) (ag (az (i:=2) scN rfl (by walk_at "a1") (ah zCplus (hr.mono (by walk_at "a2")) rfl (aa (qv 2) (aa (ah zCtimes (hr.mono (by walk_at "a2")) rfl (aa (aA cJ (qv 1) (qv 3) (fun _ _=>rfl)) (aa (aA cJ (qv 0) (qv 3) (fun _ _=>rfl)) ac))) ac))))))
   (ag (ar (qv 2))))),?_⟩
  walk_at "m"
  walk_at "vc"
  obtain ⟨xs,hxs,rxs⟩:=id ha
  obtain ⟨ys,hys,rys⟩:=id hb
  refine ⟨by decide,fun p0 H0 hp0 S0 h0=>⟨_,(hb.same S0).len,by walk_at "o",by walk_at "o",?_⟩⟩
  obtain ⟨Pv,hPv⟩ : ∃ Pv:Nat -> St -> Hp -> Prop,∀ j σ H',Pv j σ H' ↔ ∃ (v:V) (q:Int × Int) (u:Option V),σ = [some (.ref a),some (.ref b),some v,u] /\ aw (vw K H0) (vw K H') /\ aC (vw K H') (fr q) v /\ Fq q /\ wv q = aI (cf fs) (cf qs) j:=⟨_,fun _ _ _=>Iff.rfl⟩
  refine bA (its:=fm 0 fs.length) Pv (fun _ _ _ _ _=>bh) ((hPv _ _ _).mpr ⟨_,(0,1),_,rfl,.rfl,aJ h0,⟨by decide,by decide⟩,pi⟩) (fun j x σ H2 hj hx pv=>?_) (fun σ H2 pv=>?_)
  ·obtain ⟨v,q,u,rfl,S2,r2,f2,w2⟩:=(hPv _ _ _).mp pv
   obtain ⟨hj',rfl⟩:=dY hx
   have hjq:j < qs.length:=by walk_at "o"
   obtain ⟨vi,e1,ri⟩:=rys.at (i:=j) (d:=fr fs[j]) (by rw [List.getElem?_map,List.getElem?_eq_getElem hj']; rfl)
   obtain ⟨xi,e2,rxi⟩:=rxs.at (i:=j) (d:=fr qs[j]) (by rw [List.getElem?_map,hex,List.getElem?_append_left hjq,List.getElem?_eq_getElem hjq]; rfl)
   have k1:=hf _ (List.getElem_mem hj')
   have k2:=bf _ (List.getElem_mem hj')
   have k3:=hq _ (List.getElem_mem hjq)
   have k4:=bq _ (List.getElem_mem hjq)
   have b2:Bq (A1 + B1 + 12) q:=by
    obtain ⟨m,em,bm⟩:=y7 e1' d1 e3' d3 j
    exact j6 f2 (n:=m) (by rw [w2,em]) hX (bm.mono (by walk_at "o")) (bX.mono (by walk_at "o"))
   have S02:=S0.trans S2
   walk_at "vc"
   simp only [el,dw]
   walk_at "vc"
   refine ⟨_,S02 _ _ hys,vi,by rw [Int.zero_add]; exact bQ e1,_,S02 _ _ hxs,xi,by rw [Int.zero_add]; exact bQ e2,?_⟩
   refine ⟨_,aC.same S02 _ _ ri,_,aC.same S02 _ _ rxi,k1.ne,k3.ne,k2.mono (by walk_at "o"),k4.mono (by walk_at "o"),(k2.2.mul k4.2).mono (by walk_at "o"),fun v3 H3 S3 r3=>?_⟩
   have f3:=iO k1 k3
   have b3:=kr k1 k3 k2 k4
   refine ⟨_,aC.same S3 _ _ r2,_,r3,f2.ne,f3.ne,b2.mono (by walk_at "o"),b3.mono (by walk_at "o"),(b2.2.mul b3.2).mono (by walk_at "o"),fun v4 H4 S4 r4=>(hPv _ _ _).mpr ⟨_,_,_,rfl,S2.trans (S3.trans S4),r4,fM f2 f3,?_⟩⟩
   rw [iD f2.ne f3.ne,kI k1.ne k3.ne,w2]
   show _ = aI (cf fs) (cf qs) j + cf fs j * cf qs j
   rw [aW (List.getElem?_eq_getElem hj'),aW (List.getElem?_eq_getElem hjq)]
  ·obtain ⟨v,q,u,rfl,S2,r2,f2,w2⟩:=(hPv _ _ _).mp pv
   rw [ci] at w2
   walk_at "vc"
   exact h v H2 q (S0.trans S2) r2 f2 w2
def dE (K:PySem.W.Frag):Sp:=fun vs H Q _=>∃ (a b c:Addr) (es qs fs gs:List (Int × Int)) (A B C:Nat),vs = [.ref a,.ref b,.ref c] /\ aH (vw K H) a es /\ (∃ ext,es = qs ++ ext) /\ aH (vw K H) b fs /\ aH (vw K H) c gs /\ qs.length <= 12 /\ fs.length <= 12 /\ gs.length <= 8 /\ (∀ q ∈ qs,Fq q) /\ (∀ q ∈ fs,Fq q) /\ (∀ q ∈ gs,Fq q) /\ A + B + C <= 300000 /\ Pb A (cf qs) /\ Pb B (cf fs) /\ Pb C (cf gs) /\
 (∀ rs,ba rs -> (∀ k,cf rs k = pr (cf fs) (cf gs) fs.length k) -> rs.length <= qs.length) /\
 ∀ v H' r,aw (vw K H) (vw K H') -> aC (vw K H') (fr r) v -> Fq r -> wv r = aI (fun m=>pr (cf fs) (cf gs) fs.length m) (cf qs) (fs.length + gs.length) -> Q v H'
theorem zn (F:cU K "_law_square" "_law_square" gI f fd) (T:dH K mg) (zCworth:aP P w K mg base "_law_worth" ["_law_sums_here", "_law_f"] 4 (jn K)) (zCmultiplied:aP P w K mg base "_law_multiplied" ["_law_f", "_law_g"] 4 (d4 K)):aV P w K mg base cV 5 f fd ["_law_sums_here", "_law_f", "_law_g"] (dE K):=by
 have scN:=rO.nd
 refine F.okQ rO (fun vs H Q E h=>?_) (fun cdv A outer s H vs Q E hr h=>?_)
 ·obtain ⟨a,_,_,_,_,_,_,_,_,_,rfl,_⟩:=h
  rfl
 ·obtain ⟨a,b,c,es,qs,fs,gs,A1,B1,C1,rfl,ha,hex,hb,hc,lq,lf,lg',hq,hf,hg,hA,pq,pf,pg,hl,h⟩:=h
  refine ⟨_,(ag (ar (ah zCworth (hr.mono (by walk_at "a2")) rfl (aa (qv 0) (aa (ah zCmultiplied (hr.mono (by walk_at "a2")) rfl (aa (qv 1) (aa (qv 2) ac))) ac))))),?_⟩
  walk_at "m"
  walk_at "vc"
  simp only [d4,jn]
  walk_at "vc"
  refine ⟨fs,hb,gs,hc,by walk_at "o",by walk_at "o",B1,C1,by walk_at "o",hf,hg,pf,pg,fun d H1 rs S1 l1 _ p1 w1 n1=>?_⟩
  refine ⟨es,ha.same S1,qs,hex,rs,l1,hl rs p1 w1,lq,hq,p1.1,A1,pq,B1 + C1 + fs.length,(Pb.pr pf pg fs.length).congr w1,by walk_at "o",fun v H2 r S2 r2 f2 w2=>h v H2 r (S1.trans S2) r2 f2 ?_⟩
  rw [w2,<- cQ (n:=rs.length) (fun i hi=>by rw [aU hi]; grind) (fs.length + gs.length - rs.length),show rs.length + (fs.length + gs.length - rs.length) = fs.length + gs.length by walk_at "o"]
  exact bG _ (fun i _=>w1 i) fun _ _=>rfl
def d8 (K:PySem.W.Frag):Sp:=fun vs H Q _=>∃ (a b:Addr) (y:V) (fs gs:List (Int × Int)) (c:Int × Int),vs = [.ref a,.ref b,y] /\ aH (vw K H) a fs /\ aH (vw K H) b gs /\ aC (vw K H) (fr c) y /\ fs.length <= 40 /\ gs.length <= 40 /\ (∀ q ∈ fs,Fq q /\ Bq 100000 q) /\ (∀ q ∈ gs,Fq q /\ Bq 100000 q) /\ Fq c /\ Bq 100000 c /\
 ∀ d H' (rs:List (Int × Int)),aw (vw K H) (vw K H') -> aH (vw K H') d rs -> vw K H d = none -> ba rs -> (∀ k,cf rs k = cf fs k + cf gs k * wv c) -> rs.length <= max fs.length gs.length -> Q (.ref d) H'
theorem zb (F:cU K "_law_summed" "_law_summed" gF f fd) (T:dH K mg) (zCclean:aP P w K mg base "_law_clean" ["_law_numbers"] 1 (i8 K)) (zCplus:aP P w K mg base "_law_plus" ["_law_one", "_law_other"] 3 (dw K)) (zCtimes:aP P w K mg base "_law_times" ["_law_one", "_law_other"] 3 (el K)):aV P w K mg base cV 4 f fd ["_law_f", "_law_g", "_law_by"] (d8 K):=by
 have scN:=rB.nd
 refine F.okQ rB (fun vs H Q E h=>?_) (fun cdv A outer s H vs Q E hr h=>?_)
 ·obtain ⟨a,_,_,_,_,_,rfl,_⟩:=h
  rfl
 ·obtain ⟨a,b,y,fs,gs,c,rfl,ha,hb,hy,lf,lg',hf,hg,fc,bc,h⟩:=h
  refine ⟨_,(af (az (i:=3) scN rfl (by walk_at "a1") (ap aS (eG eZ (by rfl) T.b_list fI (aa (qv 0) ac)) (ap aL (aD (aa (av (aa ad (aa ad ac))) ac)) (ai (lK rfl) (by rfl) T.b_max sO (aa ad (aa (ap cZ (ai aB (by rfl) T.b_len aT (aa (qv 1) ac)) (ai aB (by rfl) T.b_len aT (aa (qv 0) ac))) ac))))))
   (af (cr PassesOwn.never rfl (bZ rfl T.b_range (aa (ai aB (by rfl) T.b_len aT (aa (qv 1) ac)) ac)) (am (i:=4) scN rfl (by walk_at "a1")) (ag (cF (ah zCplus (hr.mono (by walk_at "a2")) rfl (aa (aA cJ (qv 3) (qv 4) (fun _ _=>rfl)) (aa (ah zCtimes (hr.mono (by walk_at "a2")) rfl (aa (aA cJ (qv 1) (qv 4) (fun _ _=>rfl)) (aa (qv 2) ac))) ac))) (nS (qv 3) (qv 4) eJ))))
   (ag (ar (ah zCclean (hr.mono (by walk_at "a2")) rfl (aa (qv 3) ac)))))),?_⟩
  walk_at "m"
  walk_at "vc"
  obtain ⟨xs,hxs,rxs⟩:=id ha
  obtain ⟨ys,hys,rys⟩:=id hb
  refine ⟨xs,hxs,fun p1 H1 hp1 S1 h1=>⟨by decide,fun p2 H2 hp2 S2 h2=>⟨by decide,fun p3 H3 hp3 S3 h3=>?_⟩⟩⟩
  have S03:=S1.trans (S2.trans S3)
  refine ⟨_,(hb.same S03).len,_,(ha.same S03).len,?_⟩
  obtain ⟨m,hm,hmm⟩ : ∃ m:Nat,(if (gs.length:Int) - (fs.length:Int) > 0 then (gs.length:Int) - (fs.length:Int) else 0) = (m:Int) /\ fs.length + m = max fs.length gs.length:=by
   refine ⟨gs.length - fs.length,?_,by walk_at "o"⟩
   split <;> walk_at "o"
  rw [hm,fk]
  refine ⟨_,h3,by walk_at "o",by walk_at "o",?_,fun p4 H4 hp4 S4 h4=>?_⟩
  ·have:1000 <= sizeLine:=by decide
   simp
   walk_at "o"
  rw [show ((m:Nat):Int).toNat = m by walk_at "o",iy] at h4
  rw [dl]
  have S14:=S2.trans (S3.trans S4)
  refine ⟨_,S14 _ _ h1,_,h4,?_,fun e H5 he S5 h5=>?_⟩
  ·have:1000 <= sizeLine:=by decide
   rw [rxs.length]
   simp
   walk_at "o"
  have S04:=S1.trans S14
  have S05:=S04.trans S5
  have r2:aC (vw K H5) (fr (0,1)) (.ref p2):=aJ ((S3.trans (S4.trans S5)) _ _ h2)
  have ne:vw K H e = none:=S04.none he
  refine ⟨_,(hb.same S05).len,by walk_at "o",by walk_at "o",?_⟩
  obtain ⟨Pv,hPv⟩ : ∃ Pv:Nat -> St -> Hp -> Prop,∀ i σ H',Pv i σ H' ↔ ∃ o4,σ = [some (.ref a),some (.ref b),some y,some (.ref e),o4] /\ aw (vw K H) (vw K H') /\ ∃ qs,aH (vw K H') e qs /\ qs.length = max fs.length gs.length /\ (∀ q ∈ qs,Fq q /\ Bq 400000 q) /\ (∀ k,cf qs k = cf fs k + if k < i then cf gs k * wv c else 0) /\ (∀ k q,i <= k -> qs[k]? = some q -> Bq 100000 q):=⟨_,fun _ _ _=>Iff.rfl⟩
  have hq0:∀ q ∈ fs ++ List.replicate m (0,1),Fq q /\ Bq 100000 q:=fun q hq=>by
   rcases List.mem_append.mp hq with z | z
   ·exact hf q z
   ·rw [(List.mem_replicate.mp z).2]
    exact ⟨lP,ur (by decide)⟩
  refine bA (its:=fm 0 gs.length) Pv (fun _ _ _ _ _=>bh) ((hPv _ _ _).mpr ⟨_,rfl,S05,fs ++ List.replicate m (0,1),⟨_,h5,?_⟩,by simp; walk_at "o",fun q hq=>⟨(hq0 q hq).1,(hq0 q hq).2.mono (by walk_at "o")⟩,fun k=>?_,fun k q _ e'=>(hq0 q (List.mem_of_getElem? e')).2⟩) (fun i x σ H6 hi hx pv=>?_) (fun σ H6 pv=>?_)
  ·rw [List.map_append,jR]
   exact (rxs.same S05).app (aF.repl r2 m)
  ·rw [DM,if_neg (by walk_at "o")]
   grind
  ·obtain ⟨o4,rfl,S6,qs,l6,n6,f6,c6,b6⟩:=(hPv _ _ _).mp pv
   obtain ⟨hi',rfl⟩:=dY hx
   rw [Int.zero_add]
   obtain ⟨zs,hzs,rzs⟩:=id l6
   have hiq:i < qs.length:=by walk_at "o"
   obtain ⟨x1,e1,r1⟩:=rzs.at (i:=i) (d:=fr qs[i]) (by rw [List.getElem?_map,List.getElem?_eq_getElem hiq]; rfl)
   obtain ⟨x2,e2,r2⟩:=rys.at (i:=i) (d:=fr gs[i]) (by rw [List.getElem?_map,List.getElem?_eq_getElem hi']; rfl)
   obtain ⟨k1,k2⟩:=f6 qs[i] (List.getElem_mem hiq)
   have k3:=b6 i qs[i] (Nat.le_refl _) (List.getElem?_eq_getElem hiq)
   obtain ⟨g1,g2⟩:=hg gs[i] (List.getElem_mem hi')
   walk_at "vc"
   refine ⟨zs,hzs,x1,bQ e1,ys,S6 _ _ hys,x2,bQ e2,?_⟩
   simp only [el]
   walk_at "vc"
   refine ⟨_,aC.same S6 _ _ r2,c,aC.same S6 _ _ hy,g1.ne,fc.ne,g2.mono (by walk_at "o"),bc.mono (by walk_at "o"),(g2.2.mul bc.2).mono (by walk_at "o"),fun v3 H7 S7 r3=>?_⟩
   have f3:=iO g1 fc
   have b3:=kr g1 fc g2 bc
   simp only [dw]
   walk_at "vc"
   refine ⟨_,aC.same S7 _ _ r1,_,r3,k1.ne,f3.ne,k3.mono (by walk_at "o"),b3.mono (by walk_at "o"),(k3.2.mul b3.2).mono (by walk_at "o"),fun v4 H8 S8 r4=>?_⟩
   have f4:=fM k1 f3
   have b4:=jK k1 f3 k3 b3
   have S68:=S7.trans S8
   have hlz:zs.length = qs.length:=by rw [rzs.length,List.length_map]
   refine ⟨zs,S68 _ _ hzs,i,by rw [hlz]; exact kv hiq,fun H9 B9 h9=>(hPv _ _ _).mpr ⟨_,rfl,fun x o e'=>B9 _ _ (ak e' ne) (S68 _ _ (S6 _ _ e')),qs.set i (ki qs[i] (ow gs[i] c)),aH.chg (S68 _ _ hzs) (rzs.same S68) r4 B9 h9,by rw [List.length_set]; exact n6,fun q hq=>?_,fun k=>?_,fun k q hk e'=>?_⟩⟩
   ·rcases List.mem_or_eq_of_mem_set hq with z | z
    ·exact f6 q z
    ·rw [z]
     exact ⟨f4,b4.mono (by walk_at "o")⟩
   ·rw [uO hiq]
    by_cases hk:k = i
    ·subst hk
     rw [if_pos rfl,if_pos (by walk_at "o"),iD k1.ne f3.ne,kI g1.ne fc.ne,<- aW (List.getElem?_eq_getElem hiq),<- aW (List.getElem?_eq_getElem hi'),c6 k,if_neg (by walk_at "o")]
     grind
    ·rw [if_neg hk,c6 k]
     by_cases hk2:k < i
     ·rw [if_pos hk2,if_pos (by walk_at "o")]
     ·rw [if_neg hk2,if_neg (by walk_at "o")]
   ·rw [List.getElem?_set_ne (by walk_at "o")] at e'
    exact b6 k q (by walk_at "o") e'
  ·obtain ⟨o4,rfl,S6,qs,l6,n6,f6,c6,b6⟩:=(hPv _ _ _).mp pv
   rw [ci] at c6
   walk_at "vc"
   simp only [i8]
   walk_at "vc"
   have hF:∀ q ∈ qs,Fq q:=fun q hq=>(f6 q hq).1
   refine ⟨qs,l6,fun d H7 n hn hz hd hnd S7 l7=>h d H7 (qs.take n) (S6.trans S7) l7 (S6.none hnd) (sB hF hz) (fun k=>?_) (by rw [List.length_take]; walk_at "o")⟩
   rw [pY hF hd k,c6 k]
   by_cases hk:k < gs.length
   ·rw [if_pos hk]
   ·rw [if_neg hk,aU (qs:=gs) (by walk_at "o")]
    grind
theorem EF (k j:Nat):cf (List.replicate k (0,1) ++ [(1,1)]) j = Xk k j:=xL k j
theorem Gd (k:Nat):ba (List.replicate k ((0:Int),(1:Int)) ++ [(1,1)]):=⟨yc k,fun q hq=>by
 rw [List.getLast?_append] at hq
 cases hq
 decide⟩
def EX (K:PySem.W.Frag):Sp:=fun vs H Q _=>∃ (k:Nat),vs = [.int k] /\ k <= 20 /\ ∀ d H',aw (vw K H) (vw K H') -> vw K H d = none -> aH (vw K H') d (List.replicate k (0,1) ++ [(1,1)]) -> Q (.ref d) H'
theorem Gy (F:cU K "_law_x" "_law_x" Er f fd) (T:dH K mg):aV P w K mg base cV 1 f fd ["_law_many"] (EX K):=by
 have scN:=Gs.nd
 refine F.okQ Gs (fun vs H Q E h=>?_) (fun cdv A outer s H vs Q E hr h=>?_)
 ·obtain ⟨_,rfl,_⟩:=h
  rfl
 ·obtain ⟨k,rfl,hk,h⟩:=h
  refine ⟨_,(ag (ar (ap aS (ap aL (aD (aa (av (aa ad (aa ad ac))) ac)) (qv 0)) (aD (aa (av (aa ad (aa ad ac))) ac))))),?_⟩
  walk_at "m"
  skip
  walk_at "vc"
  refine ⟨by decide,fun p1 H1 hp1 S1 h1=>⟨by decide,fun p2 H2 hp2 S2 h2=>?_⟩⟩
  show im K (.ref p2) (.int _) H2 _
  rw [fk]
  refine ⟨_,h2,by walk_at "o",by walk_at "o",?_,fun p3 H3 hp3 S3 h3=>⟨by decide,fun p4 H4 hp4 S4 h4=>⟨by decide,fun p5 H5 hp5 S5 h5=>?_⟩⟩⟩
  ·have:1000 <= sizeLine:=by decide
   simp
   walk_at "o"
  rw [show ((k:Nat):Int).toNat = k by walk_at "o",iy] at h3
  show gf K (.ref p3) (.ref p5) H5 _
  rw [dl]
  refine ⟨_,(S4.trans S5) _ _ h3,_,h5,?_,fun p6 H6 hp6 S6 h6=>?_⟩
  ·have:1000 <= sizeLine:=by decide
   simp
   walk_at "o"
  have S15:=S2.trans (S3.trans (S4.trans S5))
  refine h p6 H6 (S1.trans (S15.trans S6)) ((S1.trans S15).none hp6) ⟨_,h6,?_⟩
  rw [List.map_append,jR]
  exact (aF.repl (aJ ((S15.trans S6) _ _ h1)) k).app (.mk_cons (aJ ((S5.trans S6) _ _ h4)) .mk_nil)
theorem EW {W:Nat -> Int} {B:Int} {S P:Nat -> Rat} {k i N:Nat} (hD:Dk W i ≠ 0) (hB:B ≠ 0) (hP:∀ j,P j = ((qk W i j:Int):Rat) / ((Dk W i:Int):Rat)) (hS:∀ i,((W i:Int):Rat) = S i * (B:Rat)) (hN:k + i + 1 <= N):aI (fun m=>pr (Xk k) P (k + 1) m) S N = ((Lq W i k:Int):Rat) / (((Dk W i:Int):Rat) * (B:Rat)):=by
 rw [nV]
 show aI (Xk k) _ k + Xk k k * aI P (fun j=>S (k + j)) (N - k) = _
 rw [cN k fun j hj=>by rw [show Xk k j = 0 from if_neg (by walk_at "o")]; grind,show Xk k k = 1 from if_pos rfl]
 have m:=cQ (f:=P) (h:=fun j=>S (k + j)) (n:=i + 1) (fun j hj=>by
  have z:((0:Int):Rat) = 0:=rfl
  rw [hP j,dt (by walk_at "o"),z]
  grind) (N - k - (i + 1))
 rw [show i + 1 + (N - k - (i + 1)) = N - k by walk_at "o"] at m
 rw [m,gx hD hB hP hS k]
 grind
def jJ (K:PySem.W.Frag):Sp:=fun vs H Q _=>∃ (a b t:Addr) (es qs:List (Int × Int)) (W:Nat -> Int) (B:Int) (k:Nat) (pss:List (List (Int × Int) × (Int × Int))) (Pr:Addr -> Prop),vs = [.ref a,.ref b,.ref t] /\ aH (vw K H) a es /\ (∃ ext,es = qs ++ ext) /\ aH (vw K H) b (List.replicate k (0,1) ++ [(1,1)]) /\ cX (vw K H) t pss Pr /\ pss.length = k /\ k <= 5 /\ 2 * k <= qs.length /\ qs.length <= 11 /\ (∀ q ∈ qs,gk q) /\ ky qs W B /\ (∀ i,i <= k -> 0 < Dk W i) /\ (∀ i c,pss[i]? = some c -> cH W B i c) /\
 ∀ d H' rs,aw (vw K H) (vw K H') -> vw K H d = none -> aH (vw K H') d rs -> ba rs -> (∀ j,cf rs j = Pk W k j) -> Q (.ref d) H'
theorem zC (F:cU K "_law_along" "_law_along" iW f fd) (T:dH K mg) (zCover:aP P w K mg base "_law_over" ["_law_one", "_law_other"] 3 (qu K)) (zCsquare:aP P w K mg base "_law_square" ["_law_sums_here", "_law_f", "_law_g"] 5 (dE K)) (zCsummed:aP P w K mg base "_law_summed" ["_law_f", "_law_g", "_law_by"] 4 (d8 K)):aV P w K mg base cV 6 f fd ["_law_sums_here", "_law_start", "_law_found"] (jJ K):=by
 have scN:=uB.nd
 refine F.okQ uB (fun vs H Q E h=>?_) (fun cdv A outer s H vs Q E hr h=>?_)
 ·obtain ⟨_,_,_,_,_,_,_,_,_,_,rfl,_⟩:=h
  rfl
 ·obtain ⟨a,b,t,es,qs,W,B,k,pss,Pr,rfl,ha,hex,hb,sa,lp,k5,kn,l11,sq,cl,hD,so,h⟩:=h
  refine ⟨_,(af (az (i:=3) scN rfl (by walk_at "a1") (eG eZ (by rfl) T.b_list fI (aa (qv 1) ac)))
   (af (cr PassesOwn.never rfl (dZ (qv 2)) (br (n:=2) rfl (ay (am (i:=4) scN rfl (by walk_at "a1")) (ay (am (i:=5) scN rfl (by walk_at "a1")) bo))) (af (az (i:=6) scN rfl (by walk_at "a1") (ah zCover (hr.mono (by walk_at "a2")) rfl (aa (ah zCsquare (hr.mono (by walk_at "a2")) rfl (aa (qv 0) (aa (qv 1) (aa (qv 4) ac)))) (aa (qv 5) ac))))
   (ag (az (i:=3) scN rfl (by walk_at "a1") (ah zCsummed (hr.mono (by walk_at "a2")) rfl (aa (qv 3) (aa (qv 4) (aa (av (aa (ap cZ ad (aA bH (qv 6) ad (fun _ _=>rfl))) (aa (aA bH (qv 6) ad (fun _ _=>rfl)) ac))) ac))))))))
   (ag (ar (qv 3))))),?_⟩
  walk_at "m"
  skip
  obtain ⟨bx,hbx,rbx⟩:=id hb
  obtain ⟨xs,hxs,lxs,hx⟩:=id sa
  have dn:∀ i,i <= k -> Dk W i ≠ 0:=fun i hi=>by have:=hD i hi; walk_at "o"
  obtain ⟨β,hβ,_,bj,lst⟩:=yS (W:=W) (k:=k) dn
  refine bv.gen fun N1 hN1=>?_
  walk_at "vc"
  refine ⟨bx,hbx,fun p1 H1 hp1 S1 h1=>hN1 _ _ ?_⟩
  refine bv.gen fun N2 hN2=>?_
  walk_at "vc"
  refine ⟨⟨_,.of (aO (S1 _ _ hxs))⟩,?_⟩
  obtain ⟨Pv,hPv⟩ : ∃ Pv:Nat -> St -> Hp -> Prop,∀ i σ H',Pv i σ H' ↔ ∃ (d:Addr) (o4 o5 o6:Option V) (rs:List (Int × Int)),σ = [some (.ref a),some (.ref b),some (.ref t),some (.ref d),o4,o5,o6] /\ aw (vw K H) (vw K H') /\ vw K H d = none /\ aH (vw K H') d rs /\ ba rs /\ ∀ j,cf rs j = Xk k j - fJ β (Pk W) i j:=⟨_,fun _ _ _=>Iff.rfl⟩
  refine bA (its:=xs) Pv (fun i σ H' _ p=>?_) ((hPv _ _ _).mpr ⟨p1,_,_,_,_,rfl,S1,hp1,⟨_,h1,rbx.same S1⟩,Gd k,fun j=>?_⟩) (fun i x σ H2 hi hx2 pv=>?_) (fun σ H2 pv=>?_)
  ·obtain ⟨_,_,_,_,_,_,S2,_⟩:=(hPv _ _ _).mp p
   exact bY (S2 _ _ hxs)
  ·rw [EF]
   show _ = Xk k j - 0
   grind
  ·obtain ⟨d,o4,o5,o6,rs,rfl,S2,nd,ld,pd,ed⟩:=(hPv _ _ _).mp pv
   obtain ⟨c,hc⟩ : ∃ c,pss[i]? = some c:=⟨_,List.getElem?_eq_getElem (by walk_at "o")⟩
   obtain ⟨y,l,v,e1,e2,e3,e4,e5⟩:=hx i c hc
   rw [hx2] at e1
   cases e1
   have soc:=so i c hc
   have hi':i < k:=by walk_at "o"
   have di:=hD i (by walk_at "o")
   have di1:=hD (i + 1) (by walk_at "o")
   have dni:=dn i (by walk_at "o")
   have hB:=cl.pos
   have lc:=soc.len dni
   have bB:=Ca cl sq
   have bD:∀ i,i <= 6 -> Bt 1046 (Dk W i):=fun i hi=>(jx cl.bt hi).mono (by decide)
   have dB:Dk W i * B ≠ 0:=Int.mul_ne_zero dni (by walk_at "o")
   have cB:=aj (show B ≠ 0 by walk_at "o")
   have c0:=aj dni
   have c1:=aj (show Dk W (i + 1) ≠ 0 by walk_at "o")
   have sv:=soc.sqv
   have f1:=soc.fq
   have b1:Bq 1216 c.2:=j6 f1 sv dB ((bD (i + 1) (by walk_at "o")).mono (by decide)) (((bD i (by walk_at "o")).mul bB).mono (by decide))
   rw [Rat.intCast_mul] at sv
   have nz:c.2.1 ≠ 0:=fun z=>by
    rw [(eo f1.ne).mpr z] at sv
    grind
   have hFq:∀ q ∈ qs,Fq q:=fun q hq=>(sq q hq).1
   have xcf:cf (List.replicate k (0,1) ++ [(1,1)]) = Xk k:=funext fun j=>EF k j
   walk_at "vc"
   refine ⟨_,S2 _ _ e2,rfl,_,_,rfl,_,_,rfl,rfl,?_⟩
   simp only [dE]
   refine ⟨a,b,l,es,qs,_,c.1,170,1100,1100,rfl,ha.same S2,hex,hb.same S2,e3.same S2,by walk_at "o",by simp; walk_at "o",by walk_at "o",hFq,yc k,soc.po.1,by decide,iE sq,Cr k,soc.pb dni (by walk_at "o") cl.bt,fun us pu eu=>?_,fun v3 H3 r S3 r3 fr3 w3=>?_⟩
   ·refine Nat.le_trans (gi (m:=k + i + 1) pu fun m hm=>?_) (by walk_at "o")
    rw [eu]
    exact gU (n:=i + 1) (fun j hj=>aU (by walk_at "o")) _ _ (by simp; walk_at "o")
   rw [xcf,List.length_append,List.length_replicate,List.length_singleton,EW dni (by walk_at "o") soc.num cl.val (by rw [lc]; walk_at "o")] at w3
   have b3:Bq 1216 r:=j6 (D:=Dk W i * B) fr3 (by rw [w3,Rat.intCast_mul]) dB ((um cl.bt (by walk_at "o")).mono (by decide)) (((bD i (by walk_at "o")).mul bB).mono (by decide))
   simp only [qu]
   refine ⟨_,_,r,c.2,rfl,r3,aC.same (S2.trans S3) _ _ e4,fr3.ne,f1.ne,nz,b3.mono (by decide),b1.mono (by decide),(b3.2.mul b1.1).mono (by decide),fun v4 H4 S4 r4=>?_⟩
   obtain ⟨y',hy'⟩ : ∃ y,y = fz r c.2:=⟨_,rfl⟩
   rw [<- hy'] at r4
   have fy:Fq y':=by rw [hy']; exact mn fr3 nz
   have wy:wv y' = β i:=by
    rw [hy',pT fr3.ne f1.ne nz,w3,sv,bj i hi']
    grind
   have by':Bq 3600 y':=(j6 (D:=Dk W (i + 1)) fy (by rw [wy,bj i hi']) (by walk_at "o") ((um cl.bt (by walk_at "o")).mono (by decide:_ <= 1046)) ((bD (i + 1) (by walk_at "o")))).mono (by decide)
   obtain ⟨bp,rfl,hbp⟩:=id r4.fr_at
   refine ⟨bp,rfl,_,hbp,_,fE,_,rfl,bp,rfl,_,hbp,_,ij,by decide,fun p5 H5 hp5 S5 h5=>?_⟩
   have S25:=S3.trans (S4.trans S5)
   have S05:=S2.trans S25
   have fc:Fq (0 - y'.1,y'.2):=⟨fy.1,by have:=fy.2; rw [Int.zero_sub,Int.neg_gcd]; exact this⟩
   have wc:wv (0 - y'.1,y'.2) = - wv y':=by
    unfold wv
    show ((0 - y'.1:Int):Rat) / (y'.2:Rat) = _
    rw [Rat.intCast_sub]
    have c0:((0:Int):Rat) = 0:=rfl
    rw [c0]
    grind
   have bc:Bq 3600 (0 - y'.1,y'.2):=⟨by have:=by'.1; unfold Bt at this ⊢; show (0 - y'.1).natAbs < _; walk_at "o",by'.2⟩
   have prs:Pb 2630 (cf rs):=(yG k5 cl.bt dn hβ i (by walk_at "o")).congr ed
   have lrs:rs.length <= k + 1:=gi pd fun m hm=>by
    rw [ed m,show Xk k m = 0 from if_neg (by walk_at "o"),gn i (by walk_at "o")]
    grind
   show d8 K [.ref d,.ref l,.ref p5] H5 _ _
   simp only [d8]
   refine ⟨d,l,_,rs,c.1,(0 - y'.1,y'.2),rfl,ld.same S25,e3.same S05,aJ h5,by walk_at "o",by walk_at "o",fun q hq=>⟨pd.1 q hq,(prs.bq pd.1 q hq).mono (by decide)⟩,fun q hq=>⟨soc.po.1 q hq,?_⟩,fc,bc.mono (by decide),fun d6 H6 us S6 l6 n6 p6 w6 _=>?_⟩
   ·obtain ⟨j,hj⟩:=List.getElem?_of_mem hq
    have e:=soc.num j
    rw [aW hj] at e
    exact j6 (soc.po.1 q hq) e dni ((lY cl.bt (by walk_at "o")).mono (by decide)) ((qp cl.bt (by walk_at "o")).mono (by have:(170 + 3) * i <= (170 + 3) * 4:=Nat.mul_le_mul_left _ (by walk_at "o"); walk_at "o"))
   refine (hPv _ _ _).mpr ⟨d6,_,_,_,us,rfl,S05.trans S6,S05.none n6,l6,p6,fun j=>?_⟩
   rw [w6 j,ed j,wc,wy,soc.num j]
   show _ = Xk k j - (fJ β (Pk W) i j + β i * Pk W i j)
   show _ = Xk k j - (fJ β (Pk W) i j + β i * (((qk W i j:Int):Rat) / ((Dk W i:Int):Rat)))
   grind
  ·obtain ⟨d,o4,o5,o6,rs,rfl,S2,nd,ld,pd,ed⟩:=(hPv _ _ _).mp pv
   refine hN2 _ _ ?_
   walk_at "vc"
   exact h d H2 rs S2 nd ld pd fun j=>by rw [ed j,lxs,lp]; exact lst j
theorem cX.snoc {G G':Hp} {t x m:Addr} {v:V} {ys:List V} {pss:List (List (Int × Int) × (Int × Int))} {c:List (Int × Int) × (Int × Int)} {Pr:Addr -> Prop} (h:cX G t pss Pr) (ht:G t = some (.lst ys)) (hP:∀ m,Pr m -> m ≠ t) (hx:G x = some (.tup [.ref m,v])) (hm:aH G m c.1) (hv:aC G (fr c.2) v) (pm:Pr m) (B:dI t G G') (h':G' t = some (.lst (ys ++ [.ref x]))):cX G' t (pss ++ [c]) Pr:=by
 obtain ⟨ys',h1,h2,h3⟩:=h
 rw [ht] at h1
 cases h1
 refine ⟨_,h',by simp [h2],fun k d e=>?_⟩
 by_cases z:k < pss.length
 ·rw [List.getElem?_append_left z] at e
  obtain ⟨x,m,v,e1,e2,e3,e4,e5⟩:=h3 k d e
  exact ⟨x,m,v,by rw [List.getElem?_append_left (by walk_at "o")]; exact e1,B _ _ (fun z=>by rw [z,ht] at e2; cases e2) e2,e3.but ht (hP m e5) B,aC.flat_but ht B _ _ (aY _) e4,e5⟩
 ·rw [List.getElem?_append_right (by walk_at "o")] at e
  have hm0:k - pss.length = 0:=by
   have:=(List.getElem?_eq_some_iff.mp e).1
   simp at this
   walk_at "o"
  rw [hm0] at e
  cases e
  exact ⟨x,m,v,by rw [List.getElem?_append_right (by walk_at "o"),h2,hm0]; rfl,B _ _ (fun z=>by rw [z,ht] at hx; cases hx) hx,hm.but ht (hP m pm) B,aC.flat_but ht B _ _ (aY _) hv,pm⟩
structure Ge (W:Nat -> Int) (n M:Nat):Prop where
 up:∀ i,i < M -> 0 < Dk W i
 most:2 * M <= n + 1
def mC (K:PySem.W.Frag):Sp:=fun vs H Q _=>∃ (a:Addr) (qs:List (Int × Int)) (W:Nat -> Int) (B:Int),vs = [.ref a] /\ aH (vw K H) a qs /\ 1 <= qs.length /\ qs.length <= 11 /\ (∀ q ∈ qs,gk q) /\ ky qs W B /\
 ∀ (t:Addr) H' pss,aw (vw K H) (vw K H') -> vw K H t = none -> jo W qs.length pss.length -> cX (vw K H') t pss (fun l=>vw K H l = none /\ l ≠ t) -> (∀ k c,pss[k]? = some c -> cH W B k c) -> Q (.ref t) H'
theorem zY (F:cU K "_law_steps" "_law_steps" i7 f fd) (T:dH K mg) (zCalong:aP P w K mg base "_law_along" ["_law_sums_here", "_law_start", "_law_found"] 6 (jJ K)) (zCx:aP P w K mg base "_law_x" ["_law_many"] 1 (EX K)) (zCsquare:aP P w K mg base "_law_square" ["_law_sums_here", "_law_f", "_law_g"] 5 (dE K)):aV P w K mg base cV 7 f fd ["_law_sums_here"] (mC K):=by
 have scN:=vn.nd
 refine F.okQ vn (fun vs H Q E h=>?_) (fun cdv A outer s H vs Q E hr h=>?_)
 ·obtain ⟨_,_,_,_,rfl,_⟩:=h
  rfl
 ·obtain ⟨a,qs,W,B,rfl,ha,n1,n2,sq,cl,h⟩:=h
  refine ⟨_,(af (az (i:=1) scN rfl (by walk_at "a1") (aD ac))
   (af (gL PassesOwn.never (QW.pt (oj (aN jM (ap aL ad (ai aB (by rfl) T.b_len aT (aa (qv 1) ac))) (ai aB (by rfl) T.b_len aT (aa (qv 0) ac)) (aK _)) (kG (QW.pt (gS (aN (mR hr.ul) (qv 1) (aD ac) (aK _)) (iC (aN km (aA bH (aA bH (aA cJ (qv 1) (eR cY ad) (fun _ _=>rfl)) ad (fun _ _=>rfl)) ad (fun _ _=>rfl)) ad (aK _)))))))) (af (az (i:=2) scN rfl (by walk_at "a1") (ah zCalong (hr.mono (by walk_at "a2")) rfl (aa (qv 0) (aa (ah zCx (hr.mono (by walk_at "a2")) rfl (aa (ai aB (by rfl) T.b_len aT (aa (qv 1) ac)) ac)) (aa (qv 1) ac)))))
   (ag (gT (rX PySem.F.plainAttrs_list PySem.F.slot_list_append PySem.F.type_list_append fZ (qv 1) (aa (av (aa (qv 2) (aa (ah zCsquare (hr.mono (by walk_at "a2")) rfl (aa (qv 0) (aa (qv 2) (aa (qv 2) ac)))) ac))) ac))))))
   (ag (ar (qv 1))))),?_⟩
  walk_at "m"
  skip
  have hFq:∀ q ∈ qs,Fq q:=fun q hq=>(sq q hq).1
  have hB:=cl.pos
  refine bv.gen fun N1 hN1=>?_
  walk_at "vc"
  refine ⟨by decide,fun t H1 ht S1 h1=>hN1 _ _ ?_⟩
  refine bv.gen fun N2 hN2=>?_
  obtain ⟨Wv,hWv⟩ : ∃ Wv:Nat -> St -> Hp -> Prop,∀ m σ H',Wv m σ H' ↔ ∃ (pss:List (List (Int × Int) × (Int × Int))) (o:Option V),σ = [some (.ref a),some (.ref t),o] /\ m = 20 - pss.length /\ aw (vw K H) (vw K H') /\ cX (vw K H') t pss (fun l=>vw K H l = none /\ l ≠ t) /\ Ge W qs.length pss.length /\ (∀ k c,pss[k]? = some c -> cH W B k c):=⟨_,fun _ _ _=>Iff.rfl⟩
  refine ⟨Wv,⟨_,(hWv _ _ _).mpr ⟨[],_,rfl,rfl,S1,⟨[],h1,rfl,by simp⟩,⟨by simp,by simp⟩,by simp⟩⟩,fun m σ H3 hw=>?_⟩
  obtain ⟨pss,o,rfl,rfl,S3,sa,far,so⟩:=(hWv _ _ _).mp hw
  obtain ⟨xs,hxs,lxs,hx⟩:=id sa
  have lt:∀ {H':Hp},aw (vw K H3) (vw K H') -> fA (vw K H') t = some pss.length:=fun S=>by simp only [fA,S _ _ hxs,lxs]
  have mo:=far.most
  have key:∀ H2,aw (vw K H3) (vw K H2) -> 2 * pss.length < qs.length -> (∀ i,i <= pss.length -> 0 < Dk W i) -> ∃ n:Nat,fA (vw K H2) t = some n /\ EX K [V.int (n:Int)] H2 (fun x H1=>jJ K [V.ref a,x,V.ref t] H1 (fun x H1=>Ev K "list" (V.ref t) H1 /\ dE K [V.ref a,x,x] H1 (fun x_1 H1=>2 <= sizeLine /\ Nw K H1 (HO.tup [x,x_1]) fun x_2 H1=>∃ xs,vw K H1 t = some (HO.lst xs) /\ xs.length < sizeLine /\ BD K H1 t (HO.lst (xs ++ [x_2])) fun H1=>∃ m',m' < 20 - pss.length /\ Wv m' [some (V.ref a),some (V.ref t),some x] H1) E0) E0) E0:=by
   intro H4 S4 hkn hD
   refine ⟨pss.length,lt S4,?_⟩
   simp only [EX]
   refine ⟨pss.length,rfl,by walk_at "o",fun d5 H5 S5 nd5 l5=>?_⟩
   simp only [jJ]
   have S35:=S4.trans S5
   refine ⟨a,d5,t,qs,qs,W,B,pss.length,pss,_,rfl,ha.same (S3.trans S35),⟨[],by simp⟩,l5,sa.same S35,rfl,by walk_at "o",Nat.le_of_lt hkn,n2,sq,cl,hD,so,fun d6 H6 rs S6 nd6 l6 p6 w6=>?_⟩
   have S36:=S35.trans S6
   have dn:Dk W pss.length ≠ 0:=by have:=hD pss.length (Nat.le_refl _); walk_at "o"
   have lr:=qb p6 dn w6
   have prs:Pb 1100 (cf rs):=by
    have:=(zd dn (show pss.length <= 5 by walk_at "o") cl.bt)
    exact this.congr w6
   refine ⟨kN (S36 _ _ hxs),?_⟩
   simp only [dE]
   refine ⟨a,d6,d6,qs,qs,rs,rs,170,1100,1100,rfl,ha.same (S3.trans S36),⟨[],by simp⟩,l6,l6,by walk_at "o",by walk_at "o",by walk_at "o",hFq,p6.1,p6.1,by decide,iE sq,prs,prs,fun us pu eu=>?_,fun v7 H7 r S7 r7 f7 w7=>⟨by decide,fun p8 H8 hp8 S8 h8=>?_⟩⟩
   ·refine Nat.le_trans (gi (m:=2 * pss.length + 1) pu fun m hm=>?_) (by walk_at "o")
    rw [eu]
    exact gU (n:=rs.length) (fun j hj=>aU hj) _ _ (by walk_at "o")
   rw [lr,qR dn (by walk_at "o") w6 cl.val (by walk_at "o")] at w7
   have S38:=S36.trans (S7.trans S8)
   refine ⟨xs,S38 _ _ hxs,?_,fun H9 B9 h9=>?_⟩
   ·rw [lxs]
    have:1000 <= sizeLine:=by decide
    walk_at "o"
   have S78:=S7.trans S8
   have t0:vw K H t = none:=ht
   have d6t:d6 ≠ t:=(ak (S35 _ _ hxs) nd6).symm
   refine ⟨20 - (pss.length + 1),by walk_at "o",(hWv _ _ _).mpr ⟨pss ++ [(rs,r)],_,rfl,by simp,fun b o e=>B9 _ _ (ak e t0) ((S3.trans S38) _ _ e),(sa.same S38).snoc (c:=(rs,r)) (S38 _ _ hxs) (fun m z=>z.2) h8 (l6.same S78) (aC.same S8 _ _ r7) ⟨(S3.trans S35).none nd6,d6t⟩ B9 h9,⟨fun i hi=>hD i (by simp at hi; walk_at "o"),by simp; walk_at "o"⟩,fun k c e=>?_⟩⟩
   by_cases z:k < pss.length
   ·rw [List.getElem?_append_left z] at e
    exact so k c e
   ·rw [List.getElem?_append_right (by walk_at "o")] at e
    have hm0:k = pss.length:=by
     have:=(List.getElem?_eq_some_iff.mp e).1
     simp at this
     walk_at "o"
    subst hm0
    rw [Nat.sub_self] at e
    cases e
    exact ⟨p6,w6,f7,w7⟩
  have out:∀ H2,aw (vw K H3) (vw K H2) -> 1 <= pss.length -> (qs.length <= 2 * pss.length \/ Dk W pss.length <= 0) -> N2 [some (V.ref a),some (V.ref t),o] H2:=fun H2 S2 one ends=>by
   refine hN2 _ _ ?_
   walk_at "vc"
   exact h t H2 pss (S3.trans S2) ht ⟨one,far.up,mo,ends⟩ (sa.same S2) so
  walk_at "vc"
  refine ⟨_,lt .rfl,eT (by decide),_,(ha.same S3).len,bV (fun c1=>?_) (fun c1=>out H3 .rfl (by walk_at "o") (.inl (by walk_at "o")))⟩
  refine ⟨by decide,fun e4 H4 he4 S4 h4=>⟨e4,rfl,xs,S4 _ _ hxs,h4,bV (fun c2=>?_) (fun c2=>?_)⟩⟩
  ·have p0:pss.length = 0:=by rw [<- lxs,List.isEmpty_iff.mp c2]; rfl
   exact ⟨_,fun σ' H' z=>z,key H4 S4 (by walk_at "o") fun i hi=>by rw [show i = 0 by walk_at "o",wa]; decide⟩
  ·have p1:1 <= pss.length:=by
    rw [<- lxs]
    exact List.length_pos_iff.mpr fun z=>c2 (by rw [z]; rfl)
   obtain ⟨c,hc⟩ : ∃ c,pss[pss.length - 1]? = some c:=⟨_,List.getElem?_eq_getElem (by walk_at "o")⟩
   obtain ⟨x,l,v,e1,e2,e3,e4',e5⟩:=hx _ _ hc
   obtain ⟨vp,rfl,hvp⟩:=id e4'.fr_at
   have xl:xs.getLast? = some (.ref x):=by rw [List.getLast?_eq_getElem?,lxs]; exact e1
   have dk:=far.up (pss.length - 1) (by walk_at "o")
   have sg:=(so _ _ hc).sgn hB dk
   rw [show pss.length - 1 + 1 = pss.length by walk_at "o"] at sg
   refine ⟨xs,S4 _ _ hxs,_,gr xl,x,rfl,_,S4 _ _ e2,_,ij,vp,rfl,_,S4 _ _ hvp,_,fE,_,rfl,bV (fun c3=>?_) (fun c3=>?_)⟩
   ·exact ⟨_,fun σ' H' z=>z,key H4 S4 (by walk_at "o") fun i hi=>by
     by_cases e:i = pss.length
     ·rw [e]; exact sg.mp c3
     ·exact far.up i (by walk_at "o")⟩
   ·exact out H4 S4 p1 (.inr (Int.not_lt.mp fun z=>c3 (sg.mpr z)))
theorem F7 {n m p:Nat} (h:m = p):((n:Int) - (m:Int) + 1).toNat = n + 1 - p:=by walk_at "o"
theorem yX {s A:Nat} {gs:List (Int × Int)} (h:Pb A (cf gs)):Pb A (cf (List.replicate s (0,1) ++ gs)):=by
 obtain ⟨D,d0,bD,o⟩:=h
 refine ⟨D,d0,bD,fun j=>?_⟩
 rw [no]
 split
 ·refine ⟨0,?_,i4⟩
  have c0:((0:Int):Rat) = 0:=rfl
  rw [c0]
  grind
 ·exact o _
theorem vQ {W:Nat -> Int} {B:Int} {S:Nat -> Rat} {gs:List (Int × Int)} {k s:Nat} (hD:Dk W k ≠ 0) (hB:B ≠ 0) (hP:∀ j,cf gs j = ((qk W k j:Int):Rat) / ((Dk W k:Int):Rat)) (hS:∀ i,((W i:Int):Rat) = S i * (B:Rat)):aI (cf (List.replicate s (0,1) ++ gs)) S (s + (k + 1)) = ((Lq W k s:Int):Rat) / (((Dk W k:Int):Rat) * (B:Rat)):=by
 have e:cf (List.replicate s (0,1) ++ gs) = fun m=>if s <= m then 1 * cf gs (m - s) else 0:=by
  funext m
  rw [no]
  by_cases h:m < s
  ·rw [if_pos h,if_neg (by walk_at "o")]
  ·rw [if_neg h,if_pos (by walk_at "o")]
   grind
 rw [e,lG,show s + (k + 1) - s = k + 1 by walk_at "o",gx hD hB hP hS s]
 grind
def FC (W:Nat -> Int) (k M n:Nat):Prop:=∃ i,i + M <= n /\ Lq W k i ≠ 0
def pU (K:PySem.W.Frag):Sp:=fun vs H Q _=>∃ (a:Addr) (qs:List (Int × Int)) (W:Nat -> Int) (B:Int) (M:Nat),vs = [.ref a] /\ aH (vw K H) a qs /\ 1 <= qs.length /\ qs.length <= 11 /\ (∀ q ∈ qs,gk q) /\ ky qs W B /\ jo W qs.length M /\
 (mf W qs.length M -> ∀ H',aw (vw K H) (vw K H') -> Q (.str "none") H') /\ (¬ mf W qs.length M -> ∀ s H',(s = "open" /\ 0 < Dk W M \/ s = "tight" /\ Dk W M = 0) -> aw (vw K H) (vw K H') -> Q (.str s) H')
theorem Dr (F:cU K "_law_kind" "_law_kind" lF f fd) (T:dH K mg) (zCsteps:aP P w K mg base "_law_steps" ["_law_sums_here"] 7 (mC K)) (zCworth:aP P w K mg base "_law_worth" ["_law_sums_here", "_law_f"] 4 (jn K)):aV P w K mg base cV 8 f fd ["_law_sums_here"] (pU K):=by
 have scN:=yP.nd
 refine F.okQ yP (fun vs H Q E h=>?_) (fun cdv A outer s H vs Q E hr h=>?_)
 ·obtain ⟨_,_,_,_,_,rfl,_⟩:=h
  rfl
 ·obtain ⟨a,qs,W,B,M,rfl,ha,n1,n2,sq,cl,my,h1,h2⟩:=h
  refine ⟨_,(af (cF (aA cJ (ah zCsteps (hr.mono (by walk_at "a2")) rfl (aa (qv 0) ac)) (eR cY ad) (fun _ _=>rfl)) (br (n:=2) rfl (ay (am (i:=1) scN rfl (by walk_at "a1")) (ay (am (i:=2) scN rfl (by walk_at "a1")) bo))))
   (af (bT (aN km (aA bH (qv 2) ad (fun _ _=>rfl)) ad (aK _)) (ag (ar fu)) aR)
   (af (cr PassesOwn.never rfl (bZ rfl T.b_range (aa (ap aS (ap cZ (ai aB (by rfl) T.b_len aT (aa (qv 0) ac)) (ai aB (by rfl) T.b_len aT (aa (qv 1) ac))) ad) ac)) (am (i:=3) scN rfl (by walk_at "a1")) (ag (bT (aN rN (aA bH (ah zCworth (hr.mono (by walk_at "a2")) rfl (aa (qv 0) (aa (ap aS (ap aL (aD (aa (av (aa ad (aa ad ac))) ac)) (qv 3)) (qv 1)) ac))) ad (fun _ _=>rfl)) ad (aK _)) (ag (ar fu)) aR)))
   (ag (ar fu))))),?_⟩
  walk_at "m"
  skip
  have hFq:∀ q ∈ qs,Fq q:=fun q hq=>(sq q hq).1
  have hB:=cl.pos
  refine bv.gen fun N1 hN1=>?_
  walk_at "vc"
  simp only [mC]
  refine ⟨a,qs,W,B,rfl,ha,n1,n2,sq,cl,fun t H1 pss S1 ht my' sa so=>?_⟩
  have eM:=my.uniq my'
  subst eM
  obtain ⟨xs,hxs,lxs,hx⟩:=id sa
  have m1:=my.one
  have m2:=my.most
  obtain ⟨c,hc⟩ : ∃ c,pss[pss.length - 1]? = some c:=⟨_,List.getElem?_eq_getElem (by walk_at "o")⟩
  obtain ⟨x,l,v,e1,e2,e3,e4,e5⟩:=hx _ _ hc
  obtain ⟨vp,rfl,hvp⟩:=id e4.fr_at
  have soc:=so _ _ hc
  have dk:=my.up (pss.length - 1) (by walk_at "o")
  have dn:Dk W (pss.length - 1) ≠ 0:=by walk_at "o"
  have lc:=soc.len dn
  have lcp:c.1.length = pss.length:=by walk_at "o"
  have sg:=soc.sgn hB dk
  have lt:=eY (W:=W) (pss.length - 1)
  rw [show pss.length - 1 + 1 = pss.length by walk_at "o"] at sg lt
  have xl:xs.getLast? = some (.ref x):=by rw [List.getLast?_eq_getElem?,lxs]; exact e1
  refine ⟨t,rfl,_,hxs,_,gr xl,x,rfl,_,e2,rfl,_,_,rfl,_,_,rfl,rfl,hN1 _ _ ?_⟩
  refine bv.gen fun N2 hN2=>?_
  walk_at "vc"
  refine ⟨_,hvp,_,fE,_,rfl,bV (fun c1=>?_) (fun c1=>hN2 _ _ ?_)⟩
  ·have:=sg.mp c1
   exact h2 (fun z=>by rcases z with z | ⟨z,_⟩ <;> walk_at "o") "open" H1 (.inl ⟨rfl,this⟩) S1
  have dM:Dk W pss.length <= 0:=Int.not_lt.mp fun z=>c1 (sg.mpr z)
  have hNo:mf W qs.length pss.length ↔ FC W (pss.length - 1) pss.length qs.length:=by
   constructor
   ·intro z
    rcases z with z | ⟨_,z⟩
    ·exact ⟨pss.length - 1,by walk_at "o",by rw [lt]; walk_at "o"⟩
    ·exact Classical.byContradiction fun y=>z fun i hi=>Classical.byContradiction fun u=>y ⟨i,by walk_at "o",u⟩
   ·rintro ⟨i,hi,hn⟩
    by_cases e:Dk W pss.length < 0
    ·exact .inl e
    ·exact .inr ⟨by walk_at "o",fun z=>hn (z i (by walk_at "o"))⟩
  refine bv.gen fun N3 hN3=>?_
  walk_at "vc"
  refine ⟨_,(ha.same S1).len,_,e3.len,by walk_at "o",by walk_at "o",?_⟩
  rw [F7 lcp]
  obtain ⟨Pv,hPv⟩ : ∃ Pv:Nat -> St -> Hp -> Prop,∀ i σ H',Pv i σ H' ↔ ∃ o,σ = [some (.ref a),some (.ref l),some (.ref vp),o] /\ aw (vw K H1) (vw K H') /\ ∀ j,j < i -> Lq W (pss.length - 1) j = 0:=⟨_,fun _ _ _=>Iff.rfl⟩
  refine bA (its:=fm 0 (qs.length + 1 - pss.length)) Pv (fun _ _ _ _ _=>bh) ((hPv _ _ _).mpr ⟨_,rfl,.rfl,fun j z=>by walk_at "o"⟩) (fun i y σ H2 hi hy pv=>?_) (fun σ H2 pv=>hN3 _ _ ?_)
  ·obtain ⟨o,rfl,S2,z2⟩:=(hPv _ _ _).mp pv
   obtain ⟨hi',rfl⟩:=dY hy
   rw [Int.zero_add]
   walk_at "vc"
   have ip:i + pss.length <= qs.length:=by walk_at "o"
   obtain ⟨ly,hly,rly⟩:=id (e3.same S2)
   have lly:ly.length = c.1.length:=by rw [rly.length,List.length_map]
   refine ⟨by decide,fun p3 H3 hp3 S3 h3=>⟨by decide,fun p4 H4 hp4 S4 h4=>?_⟩⟩
   show im K (.ref p4) (.int _) H4 _
   rw [fk]
   refine ⟨_,h4,by walk_at "o",by walk_at "o",?_,fun p5 H5 hp5 S5 h5=>?_⟩
   ·have:1000 <= sizeLine:=by decide
    simp
    walk_at "o"
   rw [show ((i:Nat):Int).toNat = i by walk_at "o",iy] at h5
   have S25:=S3.trans (S4.trans S5)
   show gf K (.ref p5) (.ref l) H5 _
   rw [dl]
   refine ⟨_,h5,ly,S25 _ _ hly,?_,fun p6 H6 hp6 S6 h6=>?_⟩
   ·have:1000 <= sizeLine:=by decide
    rw [lly]
    simp
    walk_at "o"
   have S26:=S25.trans S6
   have l6:aH (vw K H6) p6 (List.replicate i (0,1) ++ c.1):=by
    refine ⟨_,h6,?_⟩
    rw [List.map_append,jR]
    exact (aF.repl (aJ ((S4.trans (S5.trans S6)) _ _ h3)) i).app (rly.same S26)
   have lf6:(List.replicate i ((0:Int),(1:Int)) ++ c.1).length = i + (pss.length - 1 + 1):=by rw [List.length_append,List.length_replicate,lc]
   simp only [jn]
   refine ⟨a,p6,qs,qs,_,170,1100,rfl,ha.same (S1.trans (S2.trans S26)),⟨[],by simp⟩,l6,by rw [lf6]; walk_at "o",by walk_at "o",hFq,fun q hq=>?_,iE sq,yX (soc.pb dn (by walk_at "o") cl.bt),by decide,fun v7 H7 r S7 r7 f7 w7=>?_⟩
   ·rcases List.mem_append.mp hq with z | z
    ·rw [(List.mem_replicate.mp z).2]
     exact lP
    ·exact soc.po.1 q z
   rw [lf6,vQ dn (by walk_at "o") soc.num cl.val] at w7
   obtain ⟨rp,rfl,hrp⟩:=id r7.fr_at
   have n1':=aj dn
   have n2':=aj (show B ≠ 0 by walk_at "o")
   have zz:r.1 = 0 ↔ Lq W (pss.length - 1) i = 0:=by
    rw [<- eo f7.ne,w7]
    constructor
    ·intro z
     have:((Lq W (pss.length - 1) i:Int):Rat) = ((0:Int):Rat):=by
      have c0:((0:Int):Rat) = 0:=rfl
      rw [c0]
      grind
     exact_mod_cast this
    ·intro z
     have c0:((0:Int):Rat) = 0:=rfl
     rw [z,c0]
     grind
   refine ⟨rp,rfl,_,hrp,_,fE,rfl,bV (fun hz=>?_) (fun hz=>?_)⟩
   ·exact h1 (hNo.mpr ⟨i,ip,fun z=>hz (by rw [zz.mpr z])⟩) H7 (S1.trans (S2.trans (S26.trans S7)))
   ·have hz':r.1 = 0:=by
     have:=Classical.not_not.mp hz
     injection this
    refine (hPv _ _ _).mpr ⟨_,rfl,S2.trans (S26.trans S7),fun j hj=>?_⟩
    by_cases e:j = i
    ·rw [e]
     exact zz.mp hz'
    ·exact z2 j (by walk_at "o")
  ·obtain ⟨o,rfl,S2,z2⟩:=(hPv _ _ _).mp pv
   rw [ci] at z2
   walk_at "vc"
   have nf:¬ mf W qs.length pss.length:=fun z=>by
    obtain ⟨i,hi,hn⟩:=hNo.mp z
    exact hn (z2 i (by walk_at "o"))
   exact h2 nf "tight" H2 (.inr ⟨rfl,Int.le_antisymm dM (Int.not_lt.mp fun z=>nf (.inl z))⟩) (S1.trans S2)
def gq (K:PySem.W.Frag):Sp:=fun vs H Q _=>∃ x d,vs = [x] /\ aC (vw K H) d x /\ Q (.bl d.isInt) H
theorem rJ (F:cU K "is_whole" "is_whole" fb f fd) (T:dH K mg):aV P w K mg base cV 1 f fd ["thing"] (gq K):=by
 have scN:=lZ.nd
 refine F.okQ lZ (fun vs H Q E h=>?_) (fun cdv A outer s H vs Q E hr h=>?_)
 ·obtain ⟨a,_,rfl,_⟩:=h
  rfl
 ·obtain ⟨x,d,rfl,hx,h⟩:=h
  refine ⟨_,(ag (ar (lJ (ai cz (by rfl) T.b_isinstance aM (aa (qv 0) (aa (fi (v:=V.ty "int") rfl T.b_int yn rfl) ac))) (hJ (za (ai cz (by rfl) T.b_isinstance aM (aa (qv 0) (aa (fi (v:=V.ty "bool") rfl T.b_bool qY rfl) ac)))))))),?_⟩
  walk_at "m"
  have ht:=aC.ty hx
  walk_at "vc*"
  cases d <;> simpa [D.ty,gA,D.isInt] using h
def cn (K:PySem.W.Frag):Sp:=fun vs H Q _=>∃ x d,vs = [x] /\ aC (vw K H) d x /\ Q (.bl d.frac) H
theorem nr (F:cU K "is_fraction" "is_fraction" dq f fd) (T:dH K mg) (C_is_whole:aP P w K mg base "is_whole" ["thing"] 1 (gq K))
  (C_greatest_divisor:aP P w K mg base "greatest_divisor" ["one", "other"] 1 (aZ K)):aV P w K mg base cV 2 f fd ["thing"] (cn K):=by
 have scN:=iA.nd
 refine F.okQ iA (fun vs H Q E h=>?_) (fun cdv A outer s H vs Q E hr h=>?_)
 ·obtain ⟨a,_,rfl,_⟩:=h
  rfl
 ·obtain ⟨x,d,rfl,hx,h⟩:=h
  refine ⟨_,(af (bT (QW.pt (gS (dc (df (ai cz (by rfl) T.b_isinstance aM (aa (qv 0) (aa (fi (v:=V.ty "tuple") rfl T.b_tuple ol rfl) ac))))) (iC (aN rN (ai aB (by rfl) T.b_len aT (aa (qv 0) ac)) ad (aK _))))) (ag (ar fH)) aR)
   (af (cF (qv 0) (br (n:=2) rfl (ay (am (i:=1) scN rfl (by walk_at "a1")) (ay (am (i:=2) scN rfl (by walk_at "a1")) bo))))
   (af (bT (QW.pt (gS (dc (df (ah C_is_whole (hr.mono (by walk_at "a2")) rfl (aa (qv 1) ac)))) (gS (dc (df (ah C_is_whole (hr.mono (by walk_at "a2")) rfl (aa (qv 2) ac)))) (iC (aN jM (qv 2) ad (aK _)))))) (ag (ar fH)) aR)
   (ag (ar (dC ik (ah C_greatest_divisor (hr.mono (by walk_at "a2")) rfl (aa (qv 1) (aa (qv 2) ac))) ad (aK _))))))),?_⟩
  walk_at "m"
  have ht:=aC.ty hx
  walk_at "vc*"
  simp only [gq,aZ]
  walk_at "vc*"
  cases d with
  | tup ds =>
   obtain ⟨a,xs,rfl,ha,r⟩:=hx.tup_at
   refine kc (by simp [D.ty,gA]) ⟨a,rfl,xs.length,by simp only [fA,ha],bV (fun hl=>?_) (fun hl=>?_)⟩
   ·have e:(D.tup ds).frac = false:=by
     cases e:(D.tup ds).frac with
     | false=>rfl
     | true =>
      obtain ⟨_,_,rfl,_⟩:=D.frac_tup e
      have:=r.length
      simp at this
      walk_at "o"
    rw [e] at h
    exact h
   ·obtain ⟨d1,d2,x1,x2,rfl,rfl,r1,r2⟩:=r.pair (by walk_at "o")
    refine ⟨a,rfl,_,ha,rfl,_,_,rfl,_,_,rfl,rfl,d1,r1,bV (fun i1=>?_) (fun i1=>⟨d2,r2,bV (fun i2=>?_) (fun i2=>?_)⟩)⟩
    ·cases d1 <;> first | exact h | cases i1
    ·cases d1 <;> cases d2 <;> first | exact h | cases i2
    ·obtain ⟨i1',rfl⟩:=D.isInt_of i1
     obtain ⟨i2',rfl⟩:=D.isInt_of i2
     cases r1.int_at
     cases r2.int_at
     refine ⟨_,rfl,bV (fun hi=>?_) (fun hi=>⟨_,rfl,_,rfl,?_⟩)⟩
     ·have e:=uw (t:=i1') (b:=i2') (by walk_at "o")
      rw [e] at h
      exact h
     ·have e:=uR (t:=i1') (b:=i2') (by walk_at "o")
      rw [e] at h
      exact h
  | _=>exact oH (by simp [D.ty,gA]) h
def cO (K:PySem.W.Frag):Sp:=fun vs H Q _=>∃ x d,vs = [x] /\ aC (vw K H) d x /\ Q (.bl d.poly) H
theorem lh (F:cU K "is_polynomial" "is_polynomial" cw f fd) (T:dH K mg) (C_is_fraction:aP P w K mg base "is_fraction" ["thing"] 2 (cn K)):aV P w K mg base cV 3 f fd ["thing"] (cO K):=by
 have scN:=gw.nd
 refine F.okQ gw (fun vs H Q E h=>?_) (fun cdv A outer s H vs Q E hr h=>?_)
 ·obtain ⟨a,_,rfl,_⟩:=h
  rfl
 ·obtain ⟨x,d,rfl,hx,h⟩:=h
  obtain ⟨z_ZERO,hg_ZERO,hv_ZERO⟩:=T.g_ZERO
  refine ⟨_,(af (bT (dc (df (ai cz (by rfl) T.b_isinstance aM (aa (qv 0) (aa (fi (v:=V.ty "list") rfl T.b_list fI rfl) ac))))) (ag (ar fH)) aR)
   (af (cr PassesOwn.never rfl (dZ (qv 0)) (am (i:=1) scN rfl (by walk_at "a1")) (ag (bT (dc (df (ah C_is_fraction (hr.mono (by walk_at "a2")) rfl (aa (qv 1) ac)))) (ag (ar fH)) aR)))
   (ag (ar (uW (dC ik (ai aB (by rfl) T.b_len aT (aa (qv 0) ac)) ad (aK _)) (hJ (dC (nM hr.u64) (aA cJ (qv 0) (eR cY ad) (fun _ _=>rfl)) (bJ (v:=V.ref z_ZERO) rfl hg_ZERO rfl) (aK _)))))))),?_⟩
  walk_at "m"
  have ht:=aC.ty hx
  walk_at "vc*"
  cases d with
  | lst ds =>
   obtain ⟨a,xs,rfl,ha,r⟩:=hx.lst_at
   refine kc (by simp [D.ty,gA]) ⟨a,rfl,⟨xs,.of (aO ha)⟩,?_⟩
   refine bA (its:=xs) (fun i σ H'=>H' = H /\ (∃ y,σ = [some (.ref a),y]) /\ (ds.take i).all D.frac = true) (fun i σ H' _ p=>by cases p.1; exact bY ha) ⟨rfl,⟨_,rfl⟩,rfl⟩ ?_ ?_
   ·rintro i x σ H' hi hx' ⟨rfl,⟨y,rfl⟩,hall⟩
    obtain ⟨d',hd',r'⟩:=r.get hx'
    walk_at "vc"
    simp only [cn]
    walk_at "vc"
    refine ⟨d',r',bV (fun hf=>?_) (fun hf=>?_)⟩
    ·have e:(D.lst ds).poly = false:=by
      unfold D.poly
      rw [Bool.and_eq_false_iff]
      exact .inl (List.all_eq_false.mpr ⟨d',List.mem_of_getElem? hd',by simpa using hf⟩)
     rw [e] at h
     exact h
    ·rw [List.take_add_one,hd']
     simp only [List.all_append,hall,Option.toList,List.all_cons,List.all_nil]
     simpa using hf
   ·rintro σ H' ⟨rfl,⟨y,rfl⟩,hall⟩
    have hall':ds.all D.frac = true:=by rwa [r.length,List.take_length] at hall
    have hlen:fA (vw K H') a = some xs.length:=by simp only [fA,ha]
    walk_at "vc"
    refine ⟨_,hlen,bV (fun h0=>?_) (fun h0=>?_)⟩
    ·have e:ds = []:=by
      have:=r.length
      exact List.eq_nil_of_length_eq_zero (by walk_at "o")
     subst e
     exact h
    ·have hn:ds ≠ []:=by
      rintro rfl
      exact h0 (by rw [r.length]; rfl)
     obtain ⟨q,hq,fq⟩:=m9 hall' hn
     obtain ⟨x,hx',rx⟩:=r.last hq
     refine ⟨_,ha,x,gr hx',_,rx,fr (0,1),aJ (hv_ZERO _),cR _,cR _,?_⟩
     rw [gv]
     have e:(D.lst ds).poly = !decide (q = (0,1)):=by
      show (ds.all D.frac && gY ds) = _
      rw [hall',Bool.true_and]
      exact iX hq
     rw [e] at h
     exact h
  | _=>exact oH (by simp [D.ty,gA]) h
def cA (K:PySem.W.Frag):Sp:=fun vs H Q _=>∃ (a b:Addr) (ms ns:List Int) (m n:Nat),vs = [.ref a,.ref b] /\ vw K H a = some (.lst (ms.map V.int)) /\ vw K H b = some (.lst (ns.map V.int)) /\ ms.length <= 40 /\ ns.length <= 40 /\ m <= 1000000 /\ n <= 1000000 /\ (∀ x ∈ ms,Bt m x) /\ (∀ x ∈ ns,Bt n x) /\
 ∀ c H' L,aw (vw K H) (vw K H') -> vw K H' c = some (.lst ((lz L (pz (nz ms) (nz ns) ms.length)).map V.int)) -> vw K H c = none -> L <= ms.length + ns.length -> (∀ k,L <= k -> pz (nz ms) (nz ns) ms.length k = 0) -> Q (.ref c) H'
theorem ix (F:cU K "wholes_multiplied" "wholes_multiplied" bS f fd) (T:dH K mg):aV P w K mg base cV 1 f fd ["one", "other"] (cA K):=by
 have scN:=ft.nd
 refine F.okQ ft (fun vs H Q E h=>?_) (fun cdv A outer s H vs Q E hr h=>?_)
 ·obtain ⟨a,_,_,_,_,_,rfl,_⟩:=h
  rfl
 ·obtain ⟨a,b,ms,ns,m,n,rfl,ha,hb,lm,ln,hm,hn,bm,bn,h⟩:=h
  refine ⟨_,(af (bT (QW.pt (gS (dc (iJ (qv 0) (fun _=>rfl))) (iC (dc (iJ (qv 1) (fun _=>rfl)))))) (ag (ar (aD ac))) aR)
   (af (az (i:=2) scN rfl (by walk_at "a1") (ap aL (aD (aa ad ac)) (ap cZ (ap aS (ai aB (by rfl) T.b_len aT (aa (qv 0) ac)) (ai aB (by rfl) T.b_len aT (aa (qv 1) ac))) ad)))
   (af (cr PassesOwn.never rfl (ka rfl T.b_enumerate (aa (qv 0) ac)) (br (n:=2) rfl (ay (am (i:=3) scN rfl (by walk_at "a1")) (ay (am (i:=4) scN rfl (by walk_at "a1")) bo))) (ag (cr PassesOwn.never rfl (ka rfl T.b_enumerate (aa (qv 1) ac)) (br (n:=2) rfl (ay (am (i:=5) scN rfl (by walk_at "a1")) (ay (am (i:=6) scN rfl (by walk_at "a1")) bo))) (ag (rg (qv 2) (ap aS (qv 3) (qv 5)) kW (ap aL (qv 4) (qv 6)) xI eJ)))))
   (ag (ar (qv 2)))))),?_⟩
  walk_at "m"
  walk_at "vc"
  have lena:fA (vw K H) a = some ms.length:=by simp only [fA,ha,List.length_map]
  have lenb:fA (vw K H) b = some ns.length:=by simp only [fA,hb,List.length_map]
  refine ⟨_,mH ha,bV (fun e=>?_) fun e=>?_⟩
  ·have e2:ms = []:=by simpa using e
   subst e2
   exact ⟨by decide,fun c H2 hc S2 h2=>h c H2 0 S2 h2 hc (by simp) fun k _=>rfl⟩
  refine ⟨_,mH hb,bV (fun e'=>?_) fun e'=>?_⟩
  ·have e2:ns = []:=by simpa using e'
   subst e2
   refine ⟨by decide,fun c H2 hc S2 h2=>h c H2 0 S2 h2 hc (by simp) fun k _=>?_⟩
   have z:∀ j,pz (nz ms) (nz []) j k = 0:=fun j=>by
    induction j with
    | zero=>rfl
    | succ j ih =>
     show pz (nz ms) (nz []) j k + (if j <= k then nz ms j * nz [] (k - j) else 0) = 0
     rw [ih,gZ (ns:=[]) (by simp)]
     simp
   exact z _
  have em:0 < ms.length:=by
   cases ms with
   | nil=>exact absurd rfl e
   | cons _ _=>simp
  have en:0 < ns.length:=by
   cases ns with
   | nil=>exact absurd rfl e'
   | cons _ _=>simp
  refine ⟨by decide,fun p1 H1 hp1 S1 h1=>⟨ms.length,(by simp only [fA,S1 _ _ ha,List.length_map]),ns.length,(by simp only [fA,S1 _ _ hb,List.length_map]),?_⟩⟩
  obtain ⟨L,hL⟩ : ∃ L,ms.length + ns.length = L + 1:=⟨ms.length + ns.length - 1,by walk_at "o"⟩
  rw [show (ms.length:Int) + (ns.length:Int) - 1 = ((L:Nat):Int) by walk_at "o",fk]
  refine ⟨_,h1,by walk_at "o",by walk_at "o",?_,fun c H2 hc S2 h2=>?_⟩
  ·have:1000 <= sizeLine:=by decide
   simp
   walk_at "o"
  rw [show ((L:Nat):Int).toNat = L by walk_at "o",DZ] at h2
  have S02:=S1.trans S2
  have nc:vw K H c = none:=by
   cases e0:vw K H c with
   | none=>rfl
   | some o=>rw [S1 _ _ e0] at hc; cases hc
  simp only [oh]
  walk_at "vc"
  refine ⟨⟨_,S02 _ _ ha⟩,?_⟩
  obtain ⟨Pv,hPv⟩ : ∃ Pv:Nat -> St -> Hp -> Prop,∀ j σ H',Pv j σ H' ↔ ∃ o3 o4 o5 o6,σ = [some (.ref a),some (.ref b),some (.ref c),o3,o4,o5,o6] /\ aw (vw K H) (vw K H') /\ vw K H' c = some (.lst (lz L fun k=>V.int (pz (nz ms) (nz ns) j k))):=⟨_,fun _ _ _=>Iff.rfl⟩
  refine j8 (rows:=(ms.map V.int).mapIdx fun i x=>[V.int i,x]) Pv (fun j σ H' _ p=>?_) ((hPv _ _ _).mpr ⟨_,_,_,_,rfl,S02,h2⟩) (fun j t σ H3 p H4 hj ht pv hp S4 h4=>?_) (fun σ H3 pv=>?_)
  ·obtain ⟨_,_,_,_,_,S,_⟩:=(hPv _ _ _).mp p
   exact ⟨_,aO (S _ _ ha),rfl⟩
  ·obtain ⟨o3,o4,o5,o6,rfl,S3,h3⟩:=(hPv _ _ _).mp pv
   rw [List.length_mapIdx,List.length_map] at hj
   rw [List.getElem?_mapIdx,List.getElem?_map,List.getElem?_eq_getElem hj] at ht
   cases ht
   walk_at "vc"
   refine ⟨_,h4,rfl,?_⟩
   walk_at "vc"
   have S04:=S3.trans S4
   simp only [oh]
   walk_at "vc"
   refine ⟨⟨_,S04 _ _ hb⟩,?_⟩
   obtain ⟨Pw,hPw⟩ : ∃ Pw:Nat -> St -> Hp -> Prop,∀ l σ H',Pw l σ H' ↔ ∃ o5 o6,σ = [some (.ref a),some (.ref b),some (.ref c),some (.int j),some (.int ms[j]),o5,o6] /\ aw (vw K H) (vw K H') /\ vw K H' c = some (.lst (lz L fun k=>V.int (qz (nz ms) (nz ns) j l k))):=⟨_,fun _ _ _=>Iff.rfl⟩
   refine j8 (rows:=(ns.map V.int).mapIdx fun i x=>[V.int i,x]) Pw (fun l σ H' _ p=>?_) ((hPw _ _ _).mpr ⟨_,_,rfl,S04,?_⟩) (fun l t σ H5 p5 H6 hl ht pw hp5 S6 h6=>?_) (fun σ H5 pw=>?_)
   ·obtain ⟨_,_,_,S,_⟩:=(hPw _ _ _).mp p
    exact ⟨_,aO (S _ _ hb),rfl⟩
   ·rw [S4 _ _ h3]
    congr 2
    exact gK fun k _=>by rw [Gb]
   ·obtain ⟨o5,o6,rfl,S5,h5⟩:=(hPw _ _ _).mp pw
    rw [List.length_mapIdx,List.length_map] at hl
    rw [List.getElem?_mapIdx,List.getElem?_map,List.getElem?_eq_getElem hl] at ht
    cases ht
    walk_at "vc"
    refine ⟨_,h6,rfl,?_⟩
    walk_at "vc"
    simp only [sK,EC]
    walk_at "vc"
    have hx:=S6 _ _ h5
    have b1:=bm ms[j] (List.getElem_mem hj)
    have b2:=bn ns[l] (List.getElem_mem hl)
    rw [show (j:Int) + (l:Int) = ((j + l:Nat):Int) by walk_at "o"]
    have hjl:j + l < L:=by walk_at "o"
    refine ⟨_,hx,_,bQ (cG hjl),bU b1 b2 (by walk_at "o"),_,rfl,_,hx,j + l,by rw [be]; exact kv hjl,fun H7 B7 h7=>(hPw _ _ _).mpr ⟨_,_,rfl,?_,?_⟩⟩
    ·exact fun x o e0=>B7 _ _ (ak e0 nc) (S6 _ _ (S5 _ _ e0))
    ·rw [h7,yb]
     congr 2
     refine gK fun k hk=>?_
     rw [ER,gh (List.getElem?_eq_getElem hj),gh (List.getElem?_eq_getElem hl)]
     split <;> rfl
   ·obtain ⟨o5,o6,rfl,S5,h5⟩:=(hPw _ _ _).mp pw
    refine (hPv _ _ _).mpr ⟨_,_,_,_,rfl,S5,?_⟩
    rw [h5,List.length_mapIdx,List.length_map]
    congr 2
    refine gK fun k hk=>?_
    rw [Ed fun i hi=>gZ hi]
  ·obtain ⟨o3,o4,o5,o6,rfl,S3,h3⟩:=(hPv _ _ _).mp pv
   rw [List.length_mapIdx,List.length_map] at h3
   walk_at "vc"
   refine h c H3 L S3 (by rw [h3,rc]) nc (by walk_at "o") fun k hk=>?_
   have e1:=pW (f:=nz ms) (g:=nz ns) (F:=fun i=>(nz ms i:Rat)) (G:=fun i=>(nz ns i:Rat)) (c:=1) (d:=1) (fun i=>by grind) (fun i=>by grind) ms.length k
   rw [gU (n:=ns.length) (fun i hi=>by rw [gZ hi]; rfl) ms.length k (by walk_at "o")] at e1
   have e2:((pz (nz ms) (nz ns) ms.length k:Int):Rat) = ((0:Int):Rat):=by rw [e1]; grind
   exact Rat.intCast_inj.mp e2
def ff (K:PySem.W.Frag):Sp:=fun vs H Q _=>∃ (a b:Addr) (fs gs:List (Int × Int)) (B:Nat),vs = [.ref a,.ref b] /\ aH (vw K H) a fs /\ aH (vw K H) b gs /\ fs.length <= 40 /\ gs.length <= 40 /\ B <= 20000 /\ fs.length * B + gs.length * B <= 900000 /\ (∀ q ∈ fs,Fq q /\ Bq B q) /\ (∀ q ∈ gs,Fq q /\ Bq B q) /\
 ∀ c H' (rs:List (Int × Int)),aw (vw K H) (vw K H') -> aH (vw K H') c rs -> vw K H c = none -> ba rs -> (∀ k,cf rs k = pr (cf fs) (cf gs) fs.length k) -> rs.length <= fs.length + gs.length -> (∀ q ∈ rs,Bq (2 + fs.length * B + gs.length * B + B + B + fs.length) q) -> Q (.ref c) H'
theorem ox (F:cU K "multiplied" "multiplied" dQ f fd) (T:dH K mg) (C_cleared:aP P w K mg base "cleared" ["f"] 2 (cg K)) (C_divided:aP P w K mg base "divided" ["wholes", "bottom"] 3 (eA K)) (C_wholes_multiplied:aP P w K mg base "wholes_multiplied" ["one", "other"] 1 (cA K)):aV P w K mg base cV 4 f fd ["f", "g"] (ff K):=by
 have scN:=jv.nd
 refine F.okQ jv (fun vs H Q E h=>?_) (fun cdv A outer s H vs Q E hr h=>?_)
 ·obtain ⟨a,_,_,_,_,rfl,_⟩:=h
  rfl
 ·obtain ⟨a,b,fs,gs,B,rfl,ha,hb,lf,lg',hB,hBB,hf,hg,h⟩:=h
  refine ⟨_,(af (cF (ah C_cleared (hr.mono (by walk_at "a2")) rfl (aa (qv 0) ac)) (br (n:=2) rfl (ay (am (i:=2) scN rfl (by walk_at "a1")) (ay (am (i:=3) scN rfl (by walk_at "a1")) bo))))
   (af (cF (ah C_cleared (hr.mono (by walk_at "a2")) rfl (aa (qv 1) ac)) (br (n:=2) rfl (ay (am (i:=4) scN rfl (by walk_at "a1")) (ay (am (i:=5) scN rfl (by walk_at "a1")) bo))))
   (ag (ar (ah C_divided (hr.mono (by walk_at "a2")) rfl (aa (ah C_wholes_multiplied (hr.mono (by walk_at "a2")) rfl (aa (qv 2) (aa (qv 4) ac))) (aa (ap aL (qv 3) (qv 5)) ac))))))),?_⟩
  walk_at "m"
  walk_at "vc"
  simp only [cg]
  walk_at "vc"
  refine ⟨fs,ha,lf,B,Nat.le_trans hB (by decide),hf,fun p1 a1 H1 D1 ms S1 h1 ha1 _ hD1 bD1 lm hm _=>⟨_,h1,rfl,?_⟩⟩
  walk_at "vc"
  refine ⟨gs,hb.same S1,lg',B,Nat.le_trans hB (by decide),hg,fun p2 b1 H2 D2 ns S2 h2 hb1 _ hD2 bD2 ln hn _=>⟨_,h2,rfl,?_⟩⟩
  walk_at "vc"
  simp only [cA]
  walk_at "vc"
  have bm:∀ x ∈ ms,Bt (1 + fs.length * B + B) x:=fun x hx=>by
   obtain ⟨i,hi⟩:=List.mem_iff_getElem?.mp hx
   have hil:=(List.getElem?_eq_some_iff.mp hi).1
   exact (hm i x _ hi (List.getElem?_eq_getElem (show i < fs.length by walk_at "o"))).2
  have bn:∀ x ∈ ns,Bt (1 + gs.length * B + B) x:=fun x hx=>by
   obtain ⟨i,hi⟩:=List.mem_iff_getElem?.mp hx
   have hil:=(List.getElem?_eq_some_iff.mp hi).1
   exact (hn i x _ hi (List.getElem?_eq_getElem (show i < gs.length by walk_at "o"))).2
  refine ⟨ms,S2 _ _ ha1,ns,hb1,by walk_at "o",by walk_at "o",1 + fs.length * B + B,by walk_at "o",1 + gs.length * B + B,by walk_at "o",bm,bn,fun c3 H3 L S3 h3 _ hL zL=>?_⟩
  walk_at "vc"
  refine ⟨bU bD1 bD2 (by walk_at "o"),?_⟩
  simp only [eA]
  walk_at "vc"
  have nz1:D1 * D2 ≠ 0:=Int.mul_ne_zero (by walk_at "o") (by walk_at "o")
  have bz:=BP (u7 bm) (u7 bn) ms.length
  refine ⟨_,h3,by rw [be]; walk_at "o",nz1,(bD1.mul bD2).mono (by walk_at "o"),fun c4 H4 rs S4 l4 n4 p4 c4' e4 q4=>h c4 H4 rs (S1.trans (S2.trans (S3.trans S4))) l4 ?_ p4 (fun k=>?_) (by rw [be] at e4; walk_at "o") fun q hq=>?_⟩
  ·cases e:vw K H c4 with
   | none=>rfl
   | some o=>rw [S3 _ _ (S2 _ _ (S1 _ _ e))] at n4; cases n4
  ·rw [c4' k]
   have e1:nz (lz L (pz (nz ms) (nz ns) ms.length)) k = pz (nz ms) (nz ns) ms.length k:=by
    by_cases hk:k < L
    ·exact BY hk
    ·rw [zL k (by walk_at "o"),gZ (by rw [be]; walk_at "o")]
   rw [e1,pW (gO lm fun i n q e1 e2=>(hm i n q e1 e2).1) (gO ln fun i n q e1 e2=>(hn i n q e1 e2).1),Rat.intCast_mul,lm]
   have c1:=aj (show D1 ≠ 0 by walk_at "o")
   have c2:=aj (show D2 ≠ 0 by walk_at "o")
   grind
  ·obtain ⟨n,hn',rfl⟩:=q4 q hq
   obtain ⟨k,hk,rfl⟩:=List.mem_map.mp hn'
   exact iB nz1 ((bz k).mono (by walk_at "o")) ((bD1.mul bD2).mono (by walk_at "o"))
def d9 (K:PySem.W.Frag):Sp:=fun vs H Q _=>∃ (a b c:Addr) (qs fs gs:List (Int × Int)),vs = [.ref a,.ref b,.ref c] /\ aH (vw K H) a qs /\ aH (vw K H) b fs /\ aH (vw K H) c gs /\ qs.length <= 12 /\ fs.length <= 6 /\ gs.length <= 6 /\ (∀ q ∈ qs,Fq q /\ Bq 131 q) /\ (∀ q ∈ fs,Fq q /\ Bq 20000 q) /\ (∀ q ∈ gs,Fq q /\ Bq 20000 q) /\
 (∀ rs,ba rs -> (∀ k,cf rs k = pr (cf fs) (cf gs) fs.length k) -> rs.length <= qs.length) /\
 ∀ v H' r,aw (vw K H) (vw K H') -> aC (vw K H') (fr r) v -> Fq r -> wv r = aI (fun m=>pr (cf fs) (cf gs) fs.length m) (cf qs) (fs.length + gs.length) -> Q v H'
theorem ot (F:cU K "square_sum" "square_sum" dX f fd) (T:dH K mg) (C_worth:aP P w K mg base "worth" ["sums", "f"] 3 (gQ K)) (C_multiplied:aP P w K mg base "multiplied" ["f", "g"] 4 (ff K)):aV P w K mg base cV 5 f fd ["sums", "f", "g"] (d9 K):=by
 have scN:=jt.nd
 refine F.okQ jt (fun vs H Q E h=>?_) (fun cdv A outer s H vs Q E hr h=>?_)
 ·obtain ⟨a,_,_,_,_,_,rfl,_⟩:=h
  rfl
 ·obtain ⟨a,b,c,qs,fs,gs,rfl,ha,hb,hc,lq,lf,lg',hq,hf,hg,hl,h⟩:=h
  refine ⟨_,(ag (ar (ah C_worth (hr.mono (by walk_at "a2")) rfl (aa (qv 0) (aa (ah C_multiplied (hr.mono (by walk_at "a2")) rfl (aa (qv 1) (aa (qv 2) ac))) ac))))),?_⟩
  walk_at "m"
  walk_at "vc"
  simp only [ff,gQ]
  walk_at "vc"
  refine ⟨fs,hb,gs,hc,by walk_at "o",by walk_at "o",20000,by decide,by walk_at "o",hf,hg,fun d H1 rs S1 l1 _ p1 w1 n1 b1=>?_⟩
  refine ⟨qs,ha.same S1,rs,l1,hl rs p1 w1,lq,by walk_at "o",hq,fun q hq'=>⟨p1.1 q hq',(b1 q hq').mono (by walk_at "o")⟩,fun v H2 r S2 r2 f2 w2=>h v H2 r (S1.trans S2) r2 f2 ?_⟩
  rw [w2,<- cQ (n:=rs.length) (fun i hi=>by rw [aU hi]; grind) (fs.length + gs.length - rs.length),show rs.length + (fs.length + gs.length - rs.length) = fs.length + gs.length by walk_at "o"]
  exact bG _ (fun i _=>w1 i) fun _ _=>rfl
theorem wA {X:Cx} {sts:List Stmt}:sN X sts nE:=⟨wb⟩
def kA (K:PySem.W.Frag):Sp:=fun vs H Q _=>∃ (a b c:Addr) (qs fs gs:List (Int × Int)),vs = [.ref a,.ref b,.ref c] /\ aH (vw K H) a qs /\ aH (vw K H) b fs /\ aH (vw K H) c gs /\ ∀ t:Bool,(t = true ↔ (fs = [] \/ gs = [] \/ fs.length + gs.length <= qs.length + 1)) -> Q (.bl t) H
theorem A7 (F:cU K "fits" "fits" lN f fd) (T:dH K mg):aV P w K mg base cV 1 f fd ["sums", "f", "g"] (kA K):=by
 have scN:=vf.nd
 refine F.okQ vf (fun vs H Q E h=>?_) (fun cdv A outer s H vs Q E hr h=>?_)
 ·obtain ⟨a,_,_,_,_,_,rfl,_⟩:=h
  rfl
 ·obtain ⟨a,b,c,qs,fs,gs,rfl,ha,hb,hc,h⟩:=h
  refine ⟨_,(ag (ar (uW (vC (qv 1)) (uW (vC (qv 2)) (hJ (dC yk (ap cZ (ap aS (ai aB (by rfl) T.b_len aT (aa (qv 1) ac)) (ai aB (by rfl) T.b_len aT (aa (qv 2) ac))) ad) (ai aB (by rfl) T.b_len aT (aa (qv 0) ac)) (aK _))))))),?_⟩
  walk_at "m"
  walk_at "vc"
  simp only [xY]
  walk_at "vc"
  obtain ⟨xs,hxs,rxs⟩:=id hb
  obtain ⟨ys,hys,rys⟩:=id hc
  have lx:=rxs.length
  have ly:=rys.length
  rw [List.length_map] at lx ly
  refine ⟨_,mH hxs,bV (fun e=>?_) (fun e=>⟨_,mH hys,bV (fun e'=>?_) (fun e'=>⟨_,hb.len,_,hc.len,_,ha.len,?_⟩)⟩)⟩
  ·have e2:xs = []:=by simpa using e
   exact h true ⟨fun _=>.inl (List.eq_nil_of_length_eq_zero (by rw [<- lx,e2]; rfl)),fun _=>rfl⟩
  ·have e2:ys = []:=by simpa using e'
   exact h true ⟨fun _=>.inr (.inl (List.eq_nil_of_length_eq_zero (by rw [<- ly,e2]; rfl))),fun _=>rfl⟩
  ·refine h _ ⟨fun z=>?_,fun z=>?_⟩
   ·have z':=of_decide_eq_true z
    exact .inr (.inr (by walk_at "o"))
   ·rcases z with z | z | z
    ·rw [z] at lx
     exact absurd (by rw [List.eq_nil_of_length_eq_zero lx]; rfl) e
    ·rw [z] at ly
     exact absurd (by rw [List.eq_nil_of_length_eq_zero ly]; rfl) e'
    ·exact decide_eq_true (by walk_at "o")
theorem tM {fs us:List (Int × Int)} {n:Nat} (hl:2 * fs.length <= n + 1) (pu:ba us) (eu:∀ k,cf us k = pr (cf fs) (cf fs) fs.length k):us.length <= n:=by
 by_cases e:fs.length = 0
 ·have e0:fs = []:=List.length_eq_zero_iff.mp e
  refine Nat.le_trans (gi (m:=0) pu fun m hm=>?_) (by walk_at "o")
  rw [eu,e0]
  rfl
 ·refine Nat.le_trans (gi (m:=2 * fs.length - 1) pu fun m hm=>?_) (by walk_at "o")
  rw [eu]
  exact gU (n:=fs.length) (fun j hj=>aU hj) _ _ (by walk_at "o")
def Gr (qs:List (Int × Int)) (x:Rat) (dv du:D):Prop:=∃ (q:Int × Int) (fs:List (Int × Int)),dv = fr q /\ Fq q /\ du = .lst (fs.map fr) /\ ba fs /\ 2 * fs.length <= qs.length + 1 /\ EV (cf fs) x = 1 /\ aI (fun m=>pr (cf fs) (cf fs) fs.length m) (cf qs) (fs.length + fs.length) = wv q
def dj (K:PySem.W.Frag):Sp:=fun vs H Q _=>∃ (a:Addr) (y v u:V) (qs:List (Int × Int)) (c:Int × Int) (W:Nat -> Int) (B:Int) (M:Nat) (dv du:D),vs = [.ref a,y,v,u] /\ aH (vw K H) a qs /\ aC (vw K H) (fr c) y /\ Fq c /\ Bq 10 c /\ 1 <= qs.length /\ qs.length <= 11 /\ (∀ q ∈ qs,gk q) /\ ky qs W B /\ jo W qs.length M /\ ¬ mf W qs.length M /\ aC (vw K H) dv v /\ aC (vw K H) du u /\ uf du /\
 ∀ (t:Bool) H',aw (vw K H) (vw K H') -> (t = true ↔ Gr qs (wv c) dv du) -> Q (.bl t) H'
theorem oB (F:cU K "shows_most" "shows_most" db f fd) (T:dH K mg) (C_had:aP P w K mg base "had" ["sums"] 6 (jC K)) (C_is_fraction:aP P w K mg base "is_fraction" ["thing"] 2 (cn K)) (C_is_polynomial:aP P w K mg base "is_polynomial" ["thing"] 3 (cO K)) (C_fits:aP P w K mg base "fits" ["sums", "f", "g"] 1 (kA K)) (C_number_at:aP P w K mg base "number_at" ["f", "x"] 3 (cj K)) (C_square_sum:aP P w K mg base "square_sum" ["sums", "f", "g"] 5 (d9 K)):aV P w K mg base cV 7 f fd ["sums", "spot", "number", "f"] (dj K):=by
 have scN:=fh.nd
 refine F.okQ fh (fun vs H Q E h=>?_) (fun cdv A outer s H vs Q E hr h=>?_)
 ·obtain ⟨_,_,_,_,_,_,_,_,_,_,_,rfl,_⟩:=h
  rfl
 ·obtain ⟨a,y,v,u,qs,c,W,B,M,dv,du,rfl,ha,hy,fc,bc,l1,l11,sq,cl,my,nf,rv,ru,bu,h⟩:=h
  obtain ⟨z_ONE,hg_ONE,hv_ONE⟩:=T.g_ONE
  refine ⟨_,(af (gT (ah C_had (hr.mono (by walk_at "a2")) rfl (aa (qv 0) ac)))
   (af (bT (QW.pt (gS (dc (df (ah C_is_fraction (hr.mono (by walk_at "a2")) rfl (aa (qv 2) ac)))) (gS (dc (df (ah C_is_polynomial (hr.mono (by walk_at "a2")) rfl (aa (qv 3) ac)))) (iC (dc (df (ah C_fits (hr.mono (by walk_at "a2")) rfl (aa (qv 0) (aa (qv 3) (aa (qv 3) ac)))))))))) (ag (ar fH)) aR)
   (ag (ar (lJ (dC (lH hr.u64) (ah C_number_at (hr.mono (by walk_at "a2")) rfl (aa (qv 3) (aa (qv 1) ac))) (bJ (v:=V.ref z_ONE) rfl hg_ONE rfl) (aK _)) (hJ (dC (lH hr.u64) (ah C_square_sum (hr.mono (by walk_at "a2")) rfl (aa (qv 0) (aa (qv 3) (aa (qv 3) ac)))) (qv 2) (aK _)))))))),?_⟩
  walk_at "m"
  skip
  refine bv.gen fun N1 hN1=>?_
  walk_at "vc"
  simp only [jC]
  refine ⟨a,qs,W,B,M,rfl,ha,l1,l11,sq,cl,my,nf,fun p H1 s S1 o=>hN1 _ _ ?_⟩
  refine bv.gen fun N2 hN2=>?_
  walk_at "vc"
  simp only [cn,cO,kA]
  refine ⟨v,dv,rfl,aC.same S1 _ _ rv,_,rfl,bV (fun e=>?_) (fun e=>?_)⟩
  ·refine h false H1 S1 ⟨fun z=>(by cases z),fun z=>?_⟩
   obtain ⟨q,fs,rfl,fq,_⟩:=z
   rw [frac_fr fq] at e
   cases e
  obtain ⟨q,rfl,fq⟩:=D.frac_fr (by simpa using e)
  refine ⟨u,du,rfl,aC.same S1 _ _ ru,_,rfl,bV (fun e=>?_) (fun e=>?_)⟩
  ·refine h false H1 S1 ⟨fun z=>(by cases z),fun z=>?_⟩
   obtain ⟨_,fs,_,_,rfl,po,_⟩:=z
   rw [zc po] at e
   cases e
  obtain ⟨fs,rfl,po⟩:=uL (by simpa using e)
  obtain ⟨b,xs,rfl,hb,rxs⟩:=(aC.same S1 _ _ ru).lst_at
  have lb:aH (vw K H1) b fs:=⟨xs,hb,rxs⟩
  have bq:=bu fs rfl po
  have un:∀ {q':Int × Int} {gs:List (Int × Int)},fr q = fr q' -> D.lst (fs.map fr) = .lst (gs.map fr) -> q' = q /\ gs = fs:=fun e1 e2=>⟨(tR e1).symm,(mq e2).symm⟩
  refine ⟨a,b,b,qs,fs,fs,rfl,ha.same S1,lb,lb,fun t ht=>⟨_,rfl,bV (fun e4=>?_) (fun e4=>hN2 _ _ ?_)⟩⟩
  ·refine h false H1 S1 ⟨fun z=>(by cases z),fun z=>?_⟩
   obtain ⟨q',gs,e1,_,e2,_,l2,_⟩:=z
   obtain ⟨rfl,rfl⟩:=un e1 e2
   rw [e4] at ht
   cases ht.mpr (.inr (.inr (by walk_at "o")))
  have hl:2 * fs.length <= qs.length + 1:=by
   have e':t = true:=by simpa using e4
   rcases ht.mp e' with z | z | z
   ·rw [z]; simp
   ·rw [z]; simp
   ·walk_at "o"
  walk_at "vc"
  simp only [cj]
  refine ⟨b,y,fs,c,rfl,lb,aC.same S1 _ _ hy,by walk_at "o",fun q hq=>⟨po.1 q hq,bq q hq⟩,fc,bc.mono (by decide),fun v2 H2 q2 S2 r2 f2 w2=>?_⟩
  rw [jF (by walk_at "o")] at w2
  refine ⟨_,r2,_,aJ (hv_ONE _),cR _,cR _,?_⟩
  rw [gv]
  have S02:=S1.trans S2
  refine bV (fun e5=>?_) (fun e5=>?_)
  ·have e2:q2 = (1,1):=of_decide_eq_true e5
   subst e2
   rw [jE] at w2
   simp only [d9]
   refine ⟨a,b,b,qs,fs,fs,rfl,ha.same S02,lb.same S2,lb.same S2,by walk_at "o",by walk_at "o",by walk_at "o",fun q hq=>⟨(sq q hq).1,(sq q hq).2.1⟩,fun q hq=>⟨po.1 q hq,bq q hq⟩,fun q hq=>⟨po.1 q hq,bq q hq⟩,fun us pu eu=>tM hl pu eu,fun v3 H3 q3 S3 r3 f3 w3=>⟨_,r3,_,aC.same (S02.trans S3) _ _ rv,cR _,cR _,?_⟩⟩
   rw [gv]
   refine h _ H3 (S02.trans S3) ⟨fun z=>?_,fun z=>?_⟩
   ·have e3:q3 = q:=of_decide_eq_true z
    subst e3
    exact ⟨q3,fs,rfl,fq,rfl,po,hl,w2.symm,w3.symm⟩
   ·obtain ⟨q',gs,e1,_,e2,_,_,_,z⟩:=z
    obtain ⟨rfl,rfl⟩:=un e1 e2
    exact decide_eq_true (gu f3 fq (by rw [w3,z]))
  ·refine h false H2 S02 ⟨fun z=>(by cases z),fun z=>?_⟩
   obtain ⟨q',gs,e1,_,e2,_,_,z,_⟩:=z
   obtain ⟨rfl,rfl⟩:=un e1 e2
   exact absurd (decide_eq_true (gu f2 ⟨by decide,by decide⟩ (show wv q2 = wv (1,1) by rw [w2,z,jE]))) e5
def eU (C:Addr) (K:PySem.W.Frag):Sp:=fun vs H _ E=>∃ (a:Addr) (y v u:V) (qs:List (Int × Int)) (W:Nat -> Int) (B:Int) (M:Nat),vs = [.ref a,y,v,u] /\ aH (vw K H) a qs /\ 1 <= qs.length /\ qs.length <= 11 /\ (∀ q ∈ qs,gk q) /\ ky qs W B /\ jo W qs.length M /\ mf W qs.length M /\ ∀ H',aw (vw K H) (vw K H') -> E (.ref C) none H'
theorem nY {C:Addr} (F:cU K "shows_most" "shows_most" db f fd) (T:dH K mg) (zx_NoSums:rA K C) (hgx_NoSums:mg "NoSums" = some (.ref C)) (C_had:aP P w K mg base "had" ["sums"] 6 (jC K)) (CX_had:xy P w K mg base "had" ["sums"] 6 (qP C K)) (C_is_fraction:aP P w K mg base "is_fraction" ["thing"] 2 (cn K)) (C_is_polynomial:aP P w K mg base "is_polynomial" ["thing"] 3 (cO K)) (C_fits:aP P w K mg base "fits" ["sums", "f", "g"] 1 (kA K)) (C_number_at:aP P w K mg base "number_at" ["f", "x"] 3 (cj K)) (C_square_sum:aP P w K mg base "square_sum" ["sums", "f", "g"] 5 (d9 K)):aV P w K mg base (lW P w) 7 f fd ["sums", "spot", "number", "f"] (eU C K):=by
 have scN:=fh.nd
 refine F.okX fh (fun vs H Q E h=>?_) (fun cdv A outer s H vs Q E hr h=>?_)
 ·obtain ⟨_,_,_,_,_,_,_,_,rfl,_⟩:=h
  rfl
 ·obtain ⟨a,y,v,u,qs,W,B,M,rfl,ha,l1,l11,sq,cl,my,nf,h⟩:=h
  obtain ⟨z_ONE,hg_ONE,hv_ONE⟩:=T.g_ONE
  refine ⟨_,(af (zh (xk CX_had (hr.mono (by decide)) rfl (fun _=>(aa (qv 0) ac))))
   wA),?_⟩
  walk_at "m"
  walk_at "vc"
  simp only [BO,yK]
  walk_at "vc"
  exact ⟨a,qs,W,B,M,rfl,ha,l1,l11,sq,cl,my,nf,h⟩
def eC (K:PySem.W.Frag):Sp:=fun vs H Q _=>∃ (a:Addr) (y:V) (fs:List (Int × Int)) (c:Int × Int),vs = [.ref a,y] /\ aH (vw K H) a fs /\ aC (vw K H) (fr c) y /\ fs.length <= 8 /\ (∀ q ∈ fs,Fq q /\ Bq 30000 q) /\ Fq c /\ Bq 100 c /\
 ∀ v H' q,aw (vw K H) (vw K H') -> aC (vw K H') (fr q) v -> Fq q -> wv q = Bc fs (wv c) -> Q v H'
theorem sy (F:cU K "_law_number_at" "_law_number_at" eE f fd) (T:dH K mg) (zCplus:aP P w K mg base "_law_plus" ["_law_one", "_law_other"] 3 (dw K)) (zCtimes:aP P w K mg base "_law_times" ["_law_one", "_law_other"] 3 (el K)):aV P w K mg base cV 4 f fd ["_law_f", "_law_x_here"] (eC K):=by
 have scN:=lS.nd
 refine F.okQ lS (fun vs H Q E h=>?_) (fun cdv A outer s H vs Q E hr h=>?_)
 ·obtain ⟨a,_,_,_,rfl,_⟩:=h
  rfl
 ·obtain ⟨a,y,fs,c,rfl,ha,hy,lf,hf,fc,bc,h⟩:=h
  refine ⟨_,(af (az (i:=2) scN rfl (by walk_at "a1") (av (aa ad (aa ad ac))))
   (af (cr PassesOwn.never rfl (dZ (Ck (qv 0) (hU (eR cY ad)))) (am (i:=3) scN rfl (by walk_at "a1")) (ag (az (i:=2) scN rfl (by walk_at "a1") (ah zCplus (hr.mono (by walk_at "a2")) rfl (aa (ah zCtimes (hr.mono (by walk_at "a2")) rfl (aa (qv 2) (aa (qv 1) ac))) (aa (qv 3) ac))))))
   (ag (ar (qv 2))))),?_⟩
  walk_at "m"
  walk_at "vc"
  simp only [Ec]
  walk_at "vc"
  obtain ⟨xs,hxs,rxs⟩:=id ha
  have hlx:xs.length = fs.length:=by rw [rxs.length,List.length_map]
  refine ⟨by decide,fun p0 H0 hp0 S0 h0=>⟨xs,S0 _ _ hxs,fun p1 H1 hp1 S1 h1=>⟨p1,rfl,⟨_,.of (aO h1)⟩,?_⟩⟩⟩
  obtain ⟨Pv,hPv⟩ : ∃ Pv:Nat -> St -> Hp -> Prop,∀ j σ H',Pv j σ H' ↔ ∃ (v:V) (q:Int × Int) (u:Option V),σ = [some (.ref a),some y,some v,u] /\ aw (vw K H1) (vw K H') /\ aC (vw K H') (fr q) v /\ Fq q /\ wv q = Bc (fs.drop (fs.length - j)) (wv c) /\ Bq (1 + 30101 * j) q:=⟨_,fun _ _ _=>Iff.rfl⟩
  have S01:=S0.trans S1
  refine bA (its:=xs.reverse) Pv (fun j σ H' _ p=>?_) ((hPv _ _ _).mpr ⟨_,(0,1),_,rfl,.rfl,aJ (S1 _ _ h0),⟨by decide,by decide⟩,?_,⟨by decide,by decide⟩⟩) (fun j x σ H2 hj hx pv=>?_) (fun σ H2 pv=>?_)
  ·obtain ⟨_,_,_,_,S2,_⟩:=(hPv _ _ _).mp p
   exact bY (S2 _ _ h1)
  ·rw [Nat.sub_zero,List.drop_length]
   exact (eo (by decide)).mpr rfl
  ·obtain ⟨v,q,u,rfl,S2,r2,f2,w2,b2⟩:=(hPv _ _ _).mp pv
   rw [List.length_reverse] at hj
   have hj':j < fs.length:=by walk_at "o"
   rw [List.getElem?_reverse hj] at hx
   obtain ⟨d,e,r⟩:=rxs.get hx
   rw [hlx,List.getElem?_map,List.getElem?_eq_getElem (show fs.length - 1 - j < fs.length by walk_at "o")] at e
   cases e
   obtain ⟨k1,k2⟩:=hf _ (List.getElem_mem (show fs.length - 1 - j < fs.length by walk_at "o"))
   have hd:=oM hj'
   walk_at "vc"
   simp only [el]
   walk_at "vc"
   refine ⟨q,r2,c,aC.same (S01.trans S2) _ _ hy,f2.ne,fc.ne,b2.mono (by walk_at "o"),bc.mono (by decide),(b2.2.mul bc.2).mono (by walk_at "o"),fun v3 H3 S3 r3=>?_⟩
   have f3:=iO f2 fc
   have b3:=kr f2 fc b2 bc
   simp only [dw]
   walk_at "vc"
   refine ⟨_,r3,_,aC.same (S01.trans (S2.trans S3)) _ _ r,f3.ne,k1.ne,b3.mono (by walk_at "o"),k2.mono (by decide),(b3.2.mul k2.2).mono (by walk_at "o"),fun v4 H4 S4 r4=>(hPv _ _ _).mpr ⟨_,_,_,rfl,S2.trans (S3.trans S4),r4,fM f3 k1,?_,(jK f3 k1 b3 k2).mono (by walk_at "o")⟩⟩
   rw [iD f3.ne k1.ne,kI f2.ne fc.ne,w2,hd]
   show _ = wv _ + wv c * Bc (fs.drop (fs.length - j)) (wv c)
   grind
  ·obtain ⟨v,q,u,rfl,S2,r2,f2,w2,b2⟩:=(hPv _ _ _).mp pv
   rw [List.length_reverse,hlx,Nat.sub_self,List.drop_zero] at w2
   walk_at "vc"
   exact h v H2 q (S01.trans S2) r2 f2 w2
def fN (K:PySem.W.Frag):Sp:=fun vs H Q _=>∃ (st:Addr) (m:Nat),vs = [.ref st,.int m] /\ m <= 6 /\ 1 <= m /\ cE (vw K H) st /\ ∀ (a:Addr) (H':Hp) (cs:List kB),dI st (vw K H) (vw K H') -> cE (vw K H') st -> gj (vw K H') a (cs.map rl) -> (∀ c ∈ cs,Fq c.1 /\ Fq c.2 /\ 0 < c.2.1) -> (∀ c ∈ cs,Bq 100 c.1 /\ Bq 10 c.2) -> (∀ c ∈ cs,Sx 300 c.1 /\ Sx 36 c.2) -> 1 <= cs.length -> cs.length <= m -> Q (.ref a) H'
theorem qO (F:cU K "_law_spot_crowd" "_law_spot_crowd" dL f fd) (T:dH K mg) (zCsmall:aP P w K mg base "_law_small" ["_law_state_here"] 3 (dA K)) (zCabove:aP P w K mg base "_law_above" ["_law_state_here"] 3 (jg K))
  (zCcrowd:aP P w K mg base "_law_crowd" ["_law_state_here", "_law_most"] 4 (ja K)):aV P w K mg base cV 5 f fd ["_law_state_here", "_law_most"] (fN K):=by
 have scN:=j9.nd
 refine F.okQ j9 (fun vs H Q E h=>?_) (fun cdv A outer s H vs Q E hr h=>?_)
 ·obtain ⟨_,_,rfl,_⟩:=h
  rfl
 ·obtain ⟨st,m,rfl,hm,hm1,hst,h⟩:=h
  refine ⟨_,(af (az (i:=2) scN rfl (by walk_at "a1") (ah zCcrowd (hr.mono (by walk_at "a2")) rfl (aa (qv 0) (aa (qv 1) ac))))
   (af (bT (aN (mR hr.ul) (qv 2) (aD ac) (aK _)) (ag (az (i:=2) scN rfl (by walk_at "a1") (aD (aa (av (aa (ah zCsmall (hr.mono (by walk_at "a2")) rfl (aa (qv 0) ac)) (aa (ah zCabove (hr.mono (by walk_at "a2")) rfl (aa (qv 0) ac)) ac))) ac)))) aR)
   (ag (ar (qv 2))))),?_⟩
  walk_at "m"
  refine bv.gen fun N1 hN1=>?_
  walk_at "vc"
  simp only [ja]
  refine ⟨st,m,rfl,hm,hst,fun a H1 cs B1 st1 l1 f1 b1 s1 _ n1 hn1=>hN1 _ _ ?_⟩
  obtain ⟨xs,hxs,rxs⟩:=id l1
  have lxs:xs.length = cs.length:=by rw [rxs.length,List.length_map]
  refine bv.gen fun N2 hN2=>?_
  walk_at "vc"
  refine ⟨by decide,fun e2 H2 he2 S2 h2=>⟨e2,rfl,xs,S2 _ _ hxs,h2,?_⟩⟩
  have st2:=st1.same S2
  refine bV (fun hc=>?_) (fun hc=>hN2 _ _ ?_)
  ·simp only [dA,jg]
   refine ⟨st,rfl,st2,fun v3 H3 q3 B3 st3 r3 f3 b31 b32 s3=>⟨st,rfl,st3,fun v4 H4 q4 B4 st4 r4 f4 g4 b4 s4=>⟨by decide,fun t5 H5 ht5 S5 h5=>⟨by decide,fun l6 H6 hl6 S6 h6=>hN2 _ _ ?_⟩⟩⟩⟩
   obtain ⟨_,_,e,_⟩:=id st3
   have r34:=aC.flat_but e B4 _ _ (aY _) r3
   walk_at "vc"
   refine h l6 H6 [(q3,q4)] ((B1.same_trans S2).trans (B3.trans (B4.same_trans (S5.trans S6)))) (st4.same (S5.trans S6)) ⟨_,h6,.mk_cons (.mk_tup (S6 _ _ h5) (.mk_cons (aC.same (S5.trans S6) _ _ r34) (.mk_cons (aC.same (S5.trans S6) _ _ r4) .mk_nil))) .mk_nil⟩ (fun c hc=>?_) (fun c hc=>?_) (fun c hc=>?_) (by simp) (by simpa using hm1)
   ·cases List.mem_singleton.mp hc
    exact ⟨f3,f4,g4⟩
   ·cases List.mem_singleton.mp hc
    exact ⟨⟨b31.mono (by decide),b32.mono (by decide)⟩,b4⟩
   ·cases List.mem_singleton.mp hc
    exact ⟨s3.mono (by decide),s4⟩
  ·have hcs:1 <= cs.length:=by
    rcases Nat.eq_zero_or_pos cs.length with z | z
    ·rw [z] at lxs
     have:xs = []:=List.length_eq_zero_iff.mp lxs
     subst this
     exact absurd rfl hc
    ·exact z
   walk_at "vc"
   exact h a H2 cs (B1.same_trans S2) st2 ⟨xs,S2 _ _ hxs,rxs.same S2⟩ f1 b1 s1 hcs n1
theorem CW {q:Int × Int} (f:Fq q) (h:0 < q.1):0 < wv q:=by
 unfold wv
 rw [Rat.div_def]
 exact Rat.mul_pos (by exact_mod_cast h) (Rat.inv_pos.mpr (by exact_mod_cast f.1))
theorem EL {q:Int × Int} (f:Fq q) (h:Sx 300 q):Bq 10 q:=by
 obtain ⟨n,e,b⟩:=h
 refine j6 f (n:=n) (D:=6) (by rw [e]; rfl) (by decide) ?_ (by decide)
 unfold Bt
 have:2 ^ 10 = 1024:=by decide
 walk_at "o"
theorem A5 {G:Hp} {c:kB} {x:V} (r:aC G (rl c) x):∃ p u w,x = .ref p /\ G p = some (.tup [u,w]) /\ aC G (fr c.1) u /\ aC G (fr c.2) w:=by
 obtain ⟨p,ys,rfl,hp,r⟩:=r.tup_at
 obtain ⟨d1,d2,u,w,e,rfl,ru,rw'⟩:=r.pair (by rw [r.length]; rfl)
 cases e
 exact ⟨p,u,w,rfl,hp,ru,rw'⟩
def qA (K:PySem.W.Frag):Sp:=fun vs H Q _=>∃ st:Addr,vs = [.ref st] /\ cE (vw K H) st /\ ∀ (p ca sa:Addr) (v:V) H' (cs:List kB) (qs:List (Int × Int)) (c:Int × Int),dI st (vw K H) (vw K H') -> cE (vw K H') st -> vw K H' p = some (.tup [.ref ca,.ref sa,v]) -> gj (vw K H') ca (cs.map rl) -> aH (vw K H') sa qs -> aC (vw K H') (fr c) v -> Fq c -> Bq 10 c -> 1 <= qs.length -> qs.length <= 11 -> (∀ q ∈ qs,gk q) -> (∀ c ∈ cs,Fq c.1 /\ Fq c.2 /\ 0 < c.2.1) -> (∀ c ∈ cs,Bq 10 c.2) -> (∀ i,i < qs.length -> cf qs i = io cs i) -> Q (.ref p) H'
theorem Di (F:cU K "_law_case" "_law_case" kT f fd) (T:dH K mg) (zCspot_crowd:aP P w K mg base "_law_spot_crowd" ["_law_state_here", "_law_most"] 5 (fN K)) (zCsmall:aP P w K mg base "_law_small" ["_law_state_here"] 3 (dA K)) (zCtake:aP P w K mg base "_law_take" ["_law_state_here", "_law_many"] 1 (dD K)) (zCcrowd_sums:aP P w K mg base "_law_crowd_sums" ["_law_crowd_here", "_law_many"] 4 (dR K)):aV P w K mg base cV 6 f fd ["_law_state_here"] (qA K):=by
 have scN:=wN.nd
 refine F.okQ wN (fun vs H Q E h=>?_) (fun cdv A outer s H vs Q E hr h=>?_)
 ·obtain ⟨_,rfl,_⟩:=h
  rfl
 ·obtain ⟨st,rfl,hst,h⟩:=h
  refine ⟨_,(af (az (i:=1) scN rfl (by walk_at "a1") (ah zCspot_crowd (hr.mono (by walk_at "a2")) rfl (aa (qv 0) (aa ad ac))))
   (af (az (i:=2) scN rfl (by walk_at "a1") (ah zCsmall (hr.mono (by walk_at "a2")) rfl (aa (qv 0) ac)))
   (af (bT (aN ik (ah zCtake (hr.mono (by walk_at "a2")) rfl (aa (qv 0) (aa ad ac))) ad (aK _)) (ag (az (i:=2) scN rfl (by walk_at "a1") (aA bH (aA cJ (qv 1) (ah zCtake (hr.mono (by walk_at "a2")) rfl (aa (qv 0) (aa (ai aB (by rfl) T.b_len aT (aa (qv 1) ac)) ac))) (fun _ _=>rfl)) ad (fun _ _=>rfl)))) aR)
   (ag (ar (av (aa (qv 1) (aa (ah zCcrowd_sums (hr.mono (by walk_at "a2")) rfl (aa (qv 1) (aa (ap aS ad (ah zCtake (hr.mono (by walk_at "a2")) rfl (aa (qv 0) (aa ad ac)))) ac))) (aa (qv 2) ac))))))))),?_⟩
  walk_at "m"
  skip
  refine bv.gen fun N1 hN1=>?_
  walk_at "vc"
  simp only [fN]
  refine ⟨st,5,rfl,by decide,by decide,hst,fun a1 H1 cs B1 st1 l1 f1 b1 s1 n11 n12=>hN1 _ _ ?_⟩
  refine bv.gen fun N2 hN2=>?_
  walk_at "vc"
  simp only [dA]
  refine ⟨st,rfl,st1,fun v2 H2 q2 B2 st2 r2 f2 b21 b22 _=>hN2 _ _ ?_⟩
  have l2:=l1.stBut (dW cs) (jD cs) st1 B2
  refine bv.gen fun N3 hN3=>?_
  have key:∀ (v:V) (c:Int × Int) (H4:Hp),dI st (vw K H) (vw K H4) -> cE (vw K H4) st -> gj (vw K H4) a1 (cs.map rl) -> aC (vw K H4) (fr c) v -> Fq c -> Bq 10 c -> N3 [some (.ref st),some (.ref a1),some v] H4:=by
   intro v c H4 B4 st4 l4 rv fc bc
   refine hN3 _ _ ?_
   walk_at "vc"
   simp only [dD]
   refine ⟨st,11,rfl,st4,by decide,by decide,fun r5 H5 r50 r51 B5 st5=>?_⟩
   have l5:=l4.stBut (dW cs) (jD cs) st4 B5
   obtain ⟨_,_,e4,_⟩:=id st4
   have rv5:=aC.flat_but e4 B5 _ _ (aY _) rv
   walk_at "vc"
   simp only [dR]
   refine ⟨a1,cs,(1 + r5).toNat,by rw [Int.toNat_of_nonneg (by walk_at "o")],l5,by walk_at "o",by walk_at "o",fun c hc=>⟨(f1 c hc).1,(f1 c hc).2.1,(b1 c hc).1,(b1 c hc).2⟩,fun b6 H6 qs S6 l6 nb6 ln6 hq6=>⟨by decide,fun p7 H7 hp7 S7 h7=>?_⟩⟩
   have mv:∀ i,i < qs.length -> cf qs i = io cs i:=fun i hi=>by
    rw [aW (List.getElem?_eq_getElem hi)]
    exact (hq6 i _ (List.getElem?_eq_getElem hi)).2
   refine h p7 a1 b6 v H7 cs qs c ((B4.trans B5).same_trans (S6.trans S7)) (st5.same (S6.trans S7)) h7 (l5.same (S6.trans S7)) (l6.same S7) (aC.same (S6.trans S7) _ _ rv5) fc bc (by walk_at "o") (by walk_at "o") (fun q hq=>?_) f1 (fun c hc=>(b1 c hc).2) mv
   obtain ⟨k,hk⟩:=List.getElem?_of_mem hq
   have kl:=(List.getElem?_eq_some_iff.mp hk).1
   obtain ⟨z1,z2⟩:=hq6 k q hk
   exact ⟨z1,(xT s1 (by walk_at "o") (by walk_at "o") z1 z2).mono (by decide),uE s1 (by walk_at "o") z1 z2⟩
  walk_at "vc"
  simp only [dD]
  refine ⟨st,3,rfl,st2,by decide,by decide,fun r3 H3 r30 r31 B3 st3=>?_⟩
  have l3:=l2.stBut (dW cs) (jD cs) st2 B3
  obtain ⟨_,_,e2,_⟩:=id st2
  have r23:=aC.flat_but e2 B3 _ _ (aY _) r2
  have B03:=(B1.trans B2).trans B3
  refine ⟨rfl,bV (fun hc=>?_) (fun hc=>key v2 q2 H3 B03 st3 l3 r23 f2 ⟨b21,b22⟩)⟩
  refine ⟨_,l3.len,?_⟩
  rw [List.length_map]
  refine ⟨st,_,rfl,st3,by walk_at "o",by walk_at "o",fun r4 H4 r40 r41 B4 st4=>?_⟩
  have l4:=l3.stBut (dW cs) (jD cs) st3 B4
  obtain ⟨xs,hxs,rxs⟩:=id l4
  have hi:r4.toNat < cs.length:=by walk_at "o"
  obtain ⟨x0,hx0,rx0⟩:=rxs.at (i:=r4.toNat) (d:=rl cs[r4.toNat]) (by rw [List.getElem?_map,List.getElem?_eq_getElem hi]; rfl)
  obtain ⟨p0,u0,w0,rfl,hp0,ru0,_⟩:=A5 rx0
  have hm:=List.getElem_mem hi
  walk_at "vc"
  refine ⟨xs,hxs,_,(show lV xs r4 = _ by rw [<- Int.toNat_of_nonneg r40]; exact bQ hx0),p0,rfl,_,hp0,_,fE,key u0 cs[r4.toNat].1 H4 (B03.trans B4) st4 l4 ru0 (f1 _ hm).1 (EL (f1 _ hm).1 (s1 _ hm).1)⟩
theorem B0:∀ cs:List kB,kD (fun _=>0) cs = 0
 | []=>rfl
 | c :: cs=>by
  show wv c.2 * 0 + kD (fun _=>0) cs = 0
  rw [B0 cs]
  grind
theorem yO {qs:List (Int × Int)} {W:Nat -> Int} {B:Int} {M:Nat} {cs:List kB} (cl:ky qs W B) (my:jo W qs.length M) (hf:∀ c ∈ cs,Fq c.1 /\ Fq c.2 /\ 0 < c.2.1) (hS:∀ i,i < qs.length -> cf qs i = io cs i):¬ mf W qs.length M:=by
 have pw:∀ c ∈ cs,0 < wv c.2:=fun c hc=>CW (hf c hc).2.1 (hf c hc).2.2
 have hB:B ≠ 0:=by have:=cl.pos; walk_at "o"
 have cB:=aj hB
 obtain ⟨k,rfl⟩ : ∃ k,M = k + 1:=⟨M - 1,by have:=my.one; walk_at "o"⟩
 have hk:=my.most
 have h0:=my.up k (by walk_at "o")
 have hD:Dk W k ≠ 0:=by walk_at "o"
 have e:((Dk W (k + 1):Int):Rat) / ((Dk W k * B:Int):Rat) = kD (fun x=>iN (Pk W k) (k + 1) x * iN (Pk W k) (k + 1) x) cs:=by
  have e:=qR (S:=cf qs) (P:=Pk W k) hD hB (fun _=>rfl) cl.val (Nat.le_refl _)
  rw [<- e,<- tZ,nV]
  refine bG (k + 1) (fun _ _=>rfl) fun i hi=>?_
  have h1:2 * k + 1 - i = (k + 1) + (k - i):=by walk_at "o"
  rw [h1,cQ (n:=k + 1) fun j hj=>by rw [kL (by walk_at "o")]; grind]
  exact bG (k + 1) (fun _ _=>rfl) fun j hj=>hS (i + j) (by walk_at "o")
 have n0:=iK (G:=fun x=>iN (Pk W k) (k + 1) x) pw
 rw [<- e] at n0
 have p:=Int.mul_pos h0 cl.pos
 have c1:((Dk W k * B:Int):Rat) ≠ 0:=aj (by walk_at "o")
 have q:0 <= Dk W (k + 1):=by
  have c2:(0:Rat) <= ((Dk W k * B:Int):Rat):=by
   have:((0:Int):Rat) <= ((Dk W k * B:Int):Rat):=Rat.intCast_le_intCast.mpr (by walk_at "o")
   exact this
  have:=Rat.mul_nonneg n0 c2
  have e3:((Dk W (k + 1):Int):Rat) / ((Dk W k * B:Int):Rat) * ((Dk W k * B:Int):Rat) = ((Dk W (k + 1):Int):Rat):=by grind
  rw [e3] at this
  exact Rat.intCast_nonneg.mp this
 have z0:((0:Int):Rat) = 0:=rfl
 rintro (z | ⟨z,nn⟩)
 ·walk_at "o"
 ·refine nn fun i hi=>?_
  rw [Nat.add_sub_cancel] at hi ⊢
  have ze:=oU (G:=fun x=>iN (Pk W k) (k + 1) x) pw (by
   rw [<- e,z,z0]
   grind)
  have s:=gx (S:=cf qs) (P:=Pk W k) hD hB (fun _=>rfl) cl.val i
  have t:ip (io cs) (fun m=>if m = i then 1 else 0) (Pk W k) (i + 1) (k + 1) = aI (Pk W k) (fun j=>io cs (i + j)) (k + 1):=by
   show aI (fun m=>if m = i then (1:Rat) else 0) _ i + (if i = i then (1:Rat) else 0) * _ = _
   rw [cN i fun l hl=>by rw [if_neg (by walk_at "o")]; grind,if_pos rfl]
   grind
  rw [tZ,nJ (G:=fun _=>0) (fun c hc=>by rw [show iN (Pk W k) (k + 1) (wv c.1) = 0 from ze c hc]; grind),B0] at t
  rw [bG (k + 1) (fun _ _=>rfl) fun j hj=>hS (i + j) (by walk_at "o"),<- t] at s
  have d1:=aj hD
  have:((Lq W k i:Int):Rat) = ((0:Int):Rat):=by rw [z0]; grind
  exact Rat.intCast_inj.mp this
theorem xD:∀ (qs:List (Int × Int)),(∀ q ∈ qs,0 < q.2) -> ∃ B:Int,0 < B /\ (∀ q ∈ qs,q.2 ∣ B) /\ ∀ E:Int,(∀ q ∈ qs,q.2 ∣ E) -> B ∣ E
 | [],_=>⟨1,by decide,by simp,fun E _=>Int.one_dvd E⟩
 | q :: qs,h=>by
  obtain ⟨B,h0,h1,h2⟩:=xD qs fun x hx=>h x (List.mem_cons_of_mem _ hx)
  have hq:=h q List.mem_cons_self
  refine ⟨(Int.lcm q.2 B:Int),?_,fun x hx=>?_,fun E hE=>?_⟩
  ·have:=Int.lcm_pos (m:=q.2) (n:=B) (by walk_at "o") (by walk_at "o")
   walk_at "o"
  ·rcases List.mem_cons.mp hx with z | z
   ·rw [z]
    exact Int.dvd_lcm_left q.2 B
   ·exact Int.dvd_trans (h1 x z) (Int.dvd_lcm_right q.2 B)
  ·refine Int.natAbs_dvd_natAbs.mp ?_
   show Nat.lcm q.2.natAbs B.natAbs ∣ E.natAbs
   exact Nat.lcm_dvd (Int.natAbs_dvd_natAbs.mpr (hE q List.mem_cons_self)) (Int.natAbs_dvd_natAbs.mpr (h2 E fun x hx=>hE x (List.mem_cons_of_mem _ hx)))
theorem wJ {qs:List (Int × Int)} (sq:∀ q ∈ qs,gk q):∃ (W:Nat -> Int) (B:Int),ky qs W B:=by
 obtain ⟨B,h0,h1,h2⟩:=xD qs fun q hq=>(sq q hq).1.1
 have c0:((0:Int):Rat) = 0:=rfl
 obtain ⟨W,hW⟩ : ∃ W:Nat -> Int,∀ i,((W i:Int):Rat) = cf qs i * (B:Rat):=by
  have:∀ i,∃ n:Int,(n:Rat) = cf qs i * (B:Rat):=fun i=>by
   cases e:qs[i]? with
   | none =>
    refine ⟨0,?_⟩
    rw [aU (List.getElem?_eq_none_iff.mp e),c0]
    grind
   | some q =>
    have hq:=List.mem_of_getElem? e
    obtain ⟨d,hd⟩:=h1 q hq
    have n2:=aj (sq q hq).1.ne
    refine ⟨q.1 * d,?_⟩
    rw [aW e,hd,Rat.intCast_mul,Rat.intCast_mul]
    unfold wv
    grind
  exact ⟨fun i=>(this i).choose,fun i=>(this i).choose_spec⟩
 refine ⟨W,B,h0,hW,h2,fun i=>?_⟩
 obtain ⟨D,d0,bD,o⟩:=iE sq
 have dv:B ∣ D:=h2 D fun q hq=>by
  obtain ⟨j,hj⟩:=List.getElem?_of_mem hq
  obtain ⟨n,hn,_⟩:=o j
  rw [aW hj] at hn
  have fq:=(sq q hq).1
  have n1:=aj fq.ne
  have n2:=aj d0
  have e:((q.1 * D:Int):Rat) = ((n * q.2:Int):Rat):=by
   rw [Rat.intCast_mul,Rat.intCast_mul]
   unfold wv at hn
   grind
  have e2:q.1 * D = n * q.2:=by exact_mod_cast e
  have g2:Int.gcd q.2 q.1 = 1:=by rw [Int.gcd_comm]; exact fq.2
  exact Int.natAbs_dvd_natAbs.mp (Nat.Coprime.dvd_of_dvd_mul_left (k:=q.2.natAbs) (m:=q.1.natAbs) (n:=D.natAbs) g2 (by rw [<- Int.natAbs_mul,e2]; exact Int.natAbs_dvd_natAbs.mpr ⟨n,Int.mul_comm _ _⟩))
 obtain ⟨n,hn,bn⟩:=o i
 have n2:=aj d0
 have e:((W i * D:Int):Rat) = ((n * B:Int):Rat):=by
  rw [Rat.intCast_mul,Rat.intCast_mul,hW i,hn]
  grind
 have e2:W i * D = n * B:=by exact_mod_cast e
 have e3:(W i).natAbs * D.natAbs = n.natAbs * B.natAbs:=by rw [<- Int.natAbs_mul,e2,Int.natAbs_mul]
 have le:=Nat.le_of_dvd (by walk_at "o") (Int.natAbs_dvd_natAbs.mpr dv)
 have l2:n.natAbs * B.natAbs <= n.natAbs * D.natAbs:=Nat.mul_le_mul_left _ le
 have l3:(W i).natAbs <= n.natAbs:=Nat.le_of_mul_le_mul_right (by walk_at "o" : (W i).natAbs * D.natAbs <= n.natAbs * D.natAbs) (by walk_at "o")
 unfold Bt at bn ⊢
 walk_at "o"
theorem ut {W:Nat -> Int} {n:Nat} (h:1 <= n):∃ M,jo W n M:=by
 have step:∀ f M,1 <= M -> 2 * M <= n + 1 -> (∀ i,i < M -> 0 < Dk W i) -> n <= M + f -> ∃ M',jo W n M':=by
  intro f
  induction f with
  | zero=>exact fun M h1 h2 h3 h4=>⟨M,h1,h3,h2,.inl (by walk_at "o")⟩
  | succ f ih =>
   intro M h1 h2 h3 h4
   by_cases e:n <= 2 * M \/ Dk W M <= 0
   ·exact ⟨M,h1,h3,h2,e⟩
   ·have e1:¬ n <= 2 * M:=fun z=>e (.inl z)
    have e2:¬ Dk W M <= 0:=fun z=>e (.inr z)
    refine ih (M + 1) (by walk_at "o") (by walk_at "o") (fun i hi=>?_) (by walk_at "o")
    by_cases z:i = M
    ·rw [z]; walk_at "o"
    ·exact h3 i (by walk_at "o")
 exact step n 1 (by decide) (by walk_at "o") (fun i hi=>by rw [show i = 0 by walk_at "o",wa]; decide) (by walk_at "o")
def mz (K:PySem.W.Frag):Sp:=fun vs H Q _=>∃ x d,vs = [x] /\ aC (vw K H) d x /\ Q (.bl d.isInt) H
theorem Bd (F:cU K "_law_whole" "_law_whole" iS f fd) (T:dH K mg):aV P w K mg base cV 1 f fd ["_law_thing"] (mz K):=by
 have scN:=uy.nd
 refine F.okQ uy (fun vs H Q E h=>?_) (fun cdv A outer s H vs Q E hr h=>?_)
 ·obtain ⟨a,_,rfl,_⟩:=h
  rfl
 ·obtain ⟨x,d,rfl,hx,h⟩:=h
  refine ⟨_,(ag (ar (lJ (ai cz (by rfl) T.b_isinstance aM (aa (qv 0) (aa (fi (v:=V.ty "int") rfl T.b_int yn rfl) ac))) (hJ (za (ai cz (by rfl) T.b_isinstance aM (aa (qv 0) (aa (fi (v:=V.ty "bool") rfl T.b_bool qY rfl) ac)))))))),?_⟩
  walk_at "m"
  have ht:=aC.ty hx
  walk_at "vc*"
  cases d <;> simpa [D.ty,gA,D.isInt] using h
def dr (K:PySem.W.Frag):Sp:=fun vs H Q _=>∃ x d,vs = [x] /\ aC (vw K H) d x /\ Q (.bl d.frac) H
theorem oA (F:cU K "_law_is_fraction" "_law_is_fraction" dm f fd) (T:dH K mg)
  (zCdivisor:aP P w K mg base "_law_divisor" ["_law_one", "_law_other"] 1 (fV K)) (zCwhole:aP P w K mg base "_law_whole" ["_law_thing"] 1 (mz K)):aV P w K mg base cV 2 f fd ["_law_thing"] (dr K):=by
 have scN:=ju.nd
 refine F.okQ ju (fun vs H Q E h=>?_) (fun cdv A outer s H vs Q E hr h=>?_)
 ·obtain ⟨a,_,rfl,_⟩:=h
  rfl
 ·obtain ⟨x,d,rfl,hx,h⟩:=h
  refine ⟨_,(af (bT (QW.pt (gS (dc (df (ai cz (by rfl) T.b_isinstance aM (aa (qv 0) (aa (fi (v:=V.ty "tuple") rfl T.b_tuple ol rfl) ac))))) (gS (aN rN (ai aB (by rfl) T.b_len aT (aa (qv 0) ac)) ad (aK _)) (gS (dc (df (ah zCwhole (hr.mono (by walk_at "a2")) rfl (aa (aA bH (qv 0) ad (fun _ _=>rfl)) ac)))) (iC (dc (df (ah zCwhole (hr.mono (by walk_at "a2")) rfl (aa (aA bH (qv 0) ad (fun _ _=>rfl)) ac))))))))) (ag (ar fH)) aR)
   (ag (ar (lJ (dC km (aA bH (qv 0) ad (fun _ _=>rfl)) ad (aK _)) (hJ (dC ik (ah zCdivisor (hr.mono (by walk_at "a2")) rfl (aa (aA bH (qv 0) ad (fun _ _=>rfl)) (aa (aA bH (qv 0) ad (fun _ _=>rfl)) ac))) ad (aK _))))))),?_⟩
  walk_at "m"
  have ht:=aC.ty hx
  walk_at "vc*"
  simp only [mz,fV]
  walk_at "vc*"
  cases d with
  | tup ds =>
   obtain ⟨a,xs,rfl,ha,r⟩:=hx.tup_at
   refine kc (by simp [D.ty,gA]) ⟨a,rfl,xs.length,by simp only [fA,ha],bV (fun hl=>?_) (fun hl=>?_)⟩
   ·have e:(D.tup ds).frac = false:=by
     cases e:(D.tup ds).frac with
     | false=>rfl
     | true =>
      obtain ⟨_,_,rfl,_⟩:=D.frac_tup e
      have:=r.length
      simp at this
      walk_at "o"
    rw [e] at h
    exact h
   ·obtain ⟨d1,d2,x1,x2,rfl,rfl,r1,r2⟩:=r.pair (by walk_at "o")
    refine ⟨a,rfl,_,ha,_,fE,d1,r1,bV (fun i1=>?_) (fun i1=>⟨a,rfl,_,ha,_,ij,d2,r2,bV (fun i2=>?_) (fun i2=>?_)⟩)⟩
    ·cases d1 <;> first | exact h | cases i1
    ·cases d1 <;> cases d2 <;> first | exact h | cases i2
    ·obtain ⟨i1',rfl⟩:=D.isInt_of i1
     obtain ⟨i2',rfl⟩:=D.isInt_of i2
     cases r1.int_at
     cases r2.int_at
     refine ⟨a,rfl,_,ha,_,ij,_,rfl,bV (fun hi=>⟨a,rfl,_,ha,_,fE,a,rfl,_,ha,_,ij,?_⟩) (fun hi=>?_)⟩
     ·have e:=uR (t:=i1') (b:=i2') (by walk_at "o")
      rw [e] at h
      exact ⟨_,rfl,_,rfl,h⟩
     ·have e:=uw (t:=i1') (b:=i2') (by walk_at "o")
      rw [e] at h
      exact h
  | _=>exact oH (by simp [D.ty,gA]) h
def ee (K:PySem.W.Frag):Sp:=fun vs H Q _=>∃ x d,vs = [x] /\ aC (vw K H) d x /\ d.len <= 1000 /\ ∀ H',aw (vw K H) (vw K H') -> Q (.bl d.poly) H'
theorem mh (F:cU K "_law_is_polynomial" "_law_is_polynomial" cx f fd) (T:dH K mg) (zCis_fraction:aP P w K mg base "_law_is_fraction" ["_law_thing"] 2 (dr K)):aV P w K mg base cV 3 f fd ["_law_thing"] (ee K):=by
 have scN:=ie.nd
 refine F.okQ ie (fun vs H Q E h=>?_) (fun cdv A outer s H vs Q E hr h=>?_)
 ·obtain ⟨a,_,rfl,_⟩:=h
  rfl
 ·obtain ⟨x,d,rfl,hx,hdl,h⟩:=h
  refine ⟨_,(af (bT (QW.pt (gS (dc (df (ai cz (by rfl) T.b_isinstance aM (aa (qv 0) (aa (fi (v:=V.ty "list") rfl T.b_list fI rfl) ac))))) (iC (aN (yY hr.ul) (eh (own:=["_law_one"]) (outs:=[]) (ixs:=[]) rfl (dZ (qv 0)) rfl ⟨rfl,rfl,rfl,trivial,rfl,trivial⟩ (fun _ _ _ _=>⟨(am (i:=0) (show (["_law_one"]:List Str).Nodup by decide +kernel) rfl (by walk_at "a1")),(yt (dc (df (ah zCis_fraction (hr.mono (by walk_at "a2")) rfl (aa (qv 0) ac))))),(qv 0)⟩)) (aD ac) (aK _))))) (ag (ar fH)) aR)
   (ag (ar (uW (dC (mR hr.ul) (qv 0) (aD ac) (aK _)) (hJ (dC (nM hr.u64) (aA cJ (qv 0) (eR cY ad) (fun _ _=>rfl)) (av (aa ad (aa ad ac))) (aK _))))))),?_⟩
  walk_at "m"
  have ht:=aC.ty hx
  walk_at "vc*"
  cases d with
  | lst ds =>
   obtain ⟨a,xs,rfl,ha,r⟩:=hx.lst_at
   refine kc (by simp [D.ty,gA]) ⟨a,rfl,⟨xs,.of (aO ha)⟩,fun c H2 hc S2 h2=>?_⟩
   have hac:a ≠ c:=ak ha hc
   refine de (its:=xs) (fun i ys H'=>aw (vw K H) (vw K H') /\ (ys = [] ↔ (ds.take i).all D.frac = true) /\ ys.length <= i) (fun i ys H' _ _ p=>bY (p.1 _ _ ha)) h2 ⟨S2,by simp,Nat.le_refl _⟩ (fun i x ys H' hi hx' h' p=>?_) (fun ys H' h' p=>?_)
   ·obtain ⟨S',hall,hlen⟩:=p
    obtain ⟨d',hd',r'⟩:=r.get hx'
    have e1:(ds.take (i + 1)).all D.frac = ((ds.take i).all D.frac && d'.frac):=by
     rw [List.take_add_one,hd']
     simp
    walk_at "vc"
    simp only [dr]
    walk_at "vc"
    refine ⟨d',aC.same S' _ _ r',bV (fun hf=>?_) (fun hf=>?_)⟩
    ·refine .mk h' ?_ fun H5 B5 h5=>⟨fun b o e=>B5 _ _ (ak e hc) (S' _ _ e),?_,?_⟩
     ·have h1:ds.length <= 1000:=hdl
      have h2:=r.length
      have h3:1000 <= sizeLine:=by decide
      walk_at "o"
     ·rw [e1,hf]
      simp
     ·simp
      walk_at "o"
    ·refine .mk h' ⟨S',?_,by walk_at "o"⟩
     rw [e1,hall]
     simp [hf]
   ·obtain ⟨S',hall,hlen⟩:=p
    rw [r.length,List.take_length] at hall
    refine ⟨by decide,fun p1 H3 hp1 S3 h3=>⟨p1,rfl,ys,S3 _ _ h',h3,?_⟩⟩
    cases hys:ds.all D.frac with
    | false =>
     refine oH ?_ ?_
     ·cases ys with
      | nil=>rw [hall.mp rfl] at hys; cases hys
      | cons _ _=>rfl
     ·have e:(D.lst ds).poly = false:=by
       show (ds.all D.frac && gY ds) = _
       rw [hys]
       rfl
      rw [e] at h
      exact h _ (S'.trans S3)
    | true =>
     refine kc ?_ ?_
     ·rw [hall.mpr hys]
      simp
     ·refine ⟨by decide,fun p2 H4 hp2 S4 h4=>⟨a,rfl,p2,rfl,xs,(S'.trans (S3.trans S4)) _ _ ha,h4,bV (fun h0=>?_) (fun h0=>?_)⟩⟩
      ·have e:ds = []:=by
        have:=r.length
        have z:xs = []:=by simpa using h0
        rw [z] at this
        exact List.eq_nil_of_length_eq_zero this.symm
       subst e
       exact h _ (S'.trans (S3.trans S4))
      ·have hn:ds ≠ []:=by
        rintro rfl
        cases r.nil_at
        exact h0 rfl
       obtain ⟨q,hq,fq⟩:=m9 hys hn
       obtain ⟨x,hx',rx⟩:=r.last hq
       refine ⟨a,rfl,xs,(S'.trans (S3.trans S4)) _ _ ha,x,gr hx',by decide,fun p5 H5 hp5 S5 h5=>?_⟩
       have S05:=S'.trans (S3.trans (S4.trans S5))
       refine ⟨_,aC.same S05 _ _ rx,fr (0,1),aJ h5,cR _,cR _,?_⟩
       rw [gv]
       have e:(D.lst ds).poly = !decide (q = (0,1)):=by
        show (ds.all D.frac && gY ds) = _
        rw [hys,Bool.true_and]
        exact iX hq
       rw [e] at h
       exact h _ S05
  | _=>exact oH (by simp [D.ty,gA]) (h _ (fun _ _ z=>z))
theorem wD (F:cU K "_law_refused" "_law_refused" fR f fd) (T:dH K mg) {A:Around} {outer:List Env} {s:Shared} {H:Hp} {p C:Addr} {i kl:Nat} {Q:VK} (hb:ku K fd ["_law_call"] []) (hr0:cW (kl + 1) A) (e0:oz P w K mg base A outer s H) (L_:Ez P w K mg base kl p C s H outer) (Z:vP K mg C i) (hi:i < 9)
  (h:∀ q H',aw (vw K H) (vw K H') -> vw K H q = none -> vw K H' q = some (.lst [.int i]) -> Q (.ref q) H'):codeAny (model P w) A (.call (.ref f) ⟨[.ref p],[]⟩) (CR cV outer P w H s Q E0) s:=by
 have scN:=oJ.nd
 refine F.runQ oJ hr0 e0 hb (vs:=[.ref p]) (.cons rfl .nil) rfl fun cdv hr=>?_
 have hrL:=hr
 obtain ⟨z_NoFraction,hg_NoFraction,k0⟩:=Z.kinds 0 _ rfl
 obtain ⟨z_NoPolynomial,hg_NoPolynomial,k1⟩:=Z.kinds 1 _ rfl
 obtain ⟨z_NoSums,hg_NoSums,k2⟩:=Z.kinds 2 _ rfl
 obtain ⟨z_NoFlock,hg_NoFlock,k3⟩:=Z.kinds 3 _ rfl
 obtain ⟨z_NoWalk,hg_NoWalk,k4⟩:=Z.kinds 4 _ rfl
 obtain ⟨z_NoSum,hg_NoSum,k5⟩:=Z.kinds 5 _ rfl
 obtain ⟨z_NoDeed,hg_NoDeed,k6⟩:=Z.kinds 6 _ rfl
 obtain ⟨z_NoText,hg_NoText,k7⟩:=Z.kinds 7 _ rfl
 obtain ⟨z_NoRow,hg_NoRow,k8⟩:=Z.kinds 8 _ rfl
 obtain ⟨cM,hg_MomentError,kM⟩:=Z.mom
 refine ⟨_,(af (az (i:=1) scN rfl (by walk_at "a1") nh)
   (af (DP (i:=2) rfl rfl rfl (DH (i:=0) rfl L_ hrL rfl (Or.inl rfl)) scN rfl rfl rfl hg_MomentError (fun _=>(ag (az (i:=1) scN rfl (by walk_at "a1") (qv 2)))))
   (af (az (i:=3) scN rfl (by walk_at "a1") (aD (aa (ai cc (by rfl) T.b_isinstance aM (aa (qv 1) (aa (bJ (v:=V.ref z_NoFraction) rfl hg_NoFraction rfl) ac))) (aa (ai cc (by rfl) T.b_isinstance aM (aa (qv 1) (aa (bJ (v:=V.ref z_NoPolynomial) rfl hg_NoPolynomial rfl) ac))) (aa (ai cc (by rfl) T.b_isinstance aM (aa (qv 1) (aa (bJ (v:=V.ref z_NoSums) rfl hg_NoSums rfl) ac))) ac)))))
   (af (az (i:=3) scN rfl (by walk_at "a1") (ap aS (qv 3) (aD (aa (ai cc (by rfl) T.b_isinstance aM (aa (qv 1) (aa (bJ (v:=V.ref z_NoFlock) rfl hg_NoFlock rfl) ac))) (aa (ai cc (by rfl) T.b_isinstance aM (aa (qv 1) (aa (bJ (v:=V.ref z_NoWalk) rfl hg_NoWalk rfl) ac))) (aa (ai cc (by rfl) T.b_isinstance aM (aa (qv 1) (aa (bJ (v:=V.ref z_NoSum) rfl hg_NoSum rfl) ac))) ac))))))
   (af (az (i:=3) scN rfl (by walk_at "a1") (ap aS (qv 3) (aD (aa (ai cc (by rfl) T.b_isinstance aM (aa (qv 1) (aa (bJ (v:=V.ref z_NoDeed) rfl hg_NoDeed rfl) ac))) (aa (ai cc (by rfl) T.b_isinstance aM (aa (qv 1) (aa (bJ (v:=V.ref z_NoText) rfl hg_NoText rfl) ac))) (aa (ai cc (by rfl) T.b_isinstance aM (aa (qv 1) (aa (bJ (v:=V.ref z_NoRow) rfl hg_NoRow rfl) ac))) ac))))))
   (af (bT (dc (df (ai cc (by rfl) T.b_isinstance aM (aa (qv 1) (aa (fi (v:=V.ty "ValueError") rfl T.b_ValueError ou rfl) ac))))) (ag (ar nh)) aR)
   (ag (ar (eh (own:=["_law_k"]) (outs:=["_law_kinds"]) (ixs:=[3]) rfl (bZ rfl T.b_range (aa ad ac)) rfl ⟨rfl,rfl,rfl,⟨rfl,trivial⟩,rfl,⟨⟨rfl,rfl,rfl,_,rfl⟩,trivial⟩⟩ (fun _ _ _ _=>⟨(am (i:=0) (show (["_law_k", "_law_kinds"]:List Str).Nodup by decide +kernel) rfl (by walk_at "a1")),(yt (show QT _ _ (EI K _) from iJ (aA (show vJ _ (wo K) from cJ) (qv 1) (qv 0) (fun _ _=>rfl)) (fun _=>rfl))),(qv 0)⟩)))))))))),?_⟩
 walk_at "m"
 walk_at "vc"
 simp only [CG]
 refine ⟨rfl,rfl,fun H1 S1=>⟨C,rfl,kM,fun a H2 hna S2 hx=>?_⟩⟩
 walk_at "vc"
 refine ⟨C,hx,Z.cls,_,rfl,_,k0,C,hx,Z.cls,_,rfl,_,k1,C,hx,Z.cls,_,rfl,_,k2,by decide,fun p3 H3 _ S3 h3=>?_⟩
 have hx3:=S3 _ _ hx
 walk_at "vc"
 refine ⟨C,hx3,Z.cls,_,rfl,_,k3,C,hx3,Z.cls,_,rfl,_,k4,C,hx3,Z.cls,_,rfl,_,k5,by decide,fun p4 H4 _ S4 h4=>?_⟩
 walk_at "vc"
 refine ⟨_,S4 _ _ h3,_,h4,(show 6 <= sizeLine by decide),fun p5 H5 _ S5 h5=>?_⟩
 have hx5:=S5 _ _ (S4 _ _ hx3)
 walk_at "vc"
 refine ⟨C,hx5,Z.cls,_,rfl,_,k6,C,hx5,Z.cls,_,rfl,_,k7,C,hx5,Z.cls,_,rfl,_,k8,by decide,fun p6 H6 _ S6 h6=>?_⟩
 walk_at "vc"
 refine ⟨_,S6 _ _ h5,_,h6,(show 9 <= sizeLine by decide),fun p7 H7 _ S7 h7=>?_⟩
 have hx7:=S7 _ _ (S6 _ _ hx5)
 walk_at "vc"
 refine ⟨C,hx7,Z.cls,_,rfl,_,Z.ve,?_⟩
 walk_at "vc"
 have e9:vw K H7 p7 = some (.lst (lz 9 fun j=>V.bl (decide (j = i)))):=h7
 have S07:aw (vw K H) (vw K H7):=S1.trans (S2.trans (S3.trans (S4.trans (S5.trans (S6.trans S7)))))
 refine ⟨by decide,by decide,fun c H8 hc S8 h8=>?_⟩
 refine de (its:=fm 0 9) (fun j zs H'=>aw (vw K H7) (vw K H') /\ zs = if i < j then [V.int i] else []) (fun _ _ _ _ _ _=>bh) h8 ⟨S8,by rw [if_neg (by walk_at "o")]⟩ (fun j x zs H9 hj hx' h9 pv=>?_) (fun zs H9 h9 pv=>?_)
 ·obtain ⟨S9,rfl⟩:=pv
  obtain ⟨hj',rfl⟩:=dY hx'
  rw [Int.zero_add]
  simp only [EI]
  walk_at "vc"
  refine ⟨_,S9 _ _ e9,_,bQ (cG hj'),_,rfl,?_⟩
  refine bV (fun e=>?_) (fun e=>?_)
  ·have eji:j = i:=of_decide_eq_true e
   subst eji
   rw [if_neg (by walk_at "o")] at h9
   refine .mk h9 (by decide) fun H10 B10 h10=>⟨fun b o e'=>B10 _ _ (ak e' hc) (S9 _ _ e'),?_⟩
   rw [if_pos (by walk_at "o")]
   rfl
  ·have eji:j ≠ i:=fun z=>e (decide_eq_true z)
   refine ⟨⟨_,rfl⟩,_,h9,S9,?_⟩
   by_cases hij:i < j
   ·rw [if_pos hij,if_pos (by walk_at "o")]
   ·rw [if_neg hij,if_neg (by walk_at "o")]
 ·obtain ⟨S9,rfl⟩:=pv
  rw [ci,if_pos (by walk_at "o")] at h9
  exact h c H9 (S07.trans S9) (S07.free hc) h9
def mt (K:PySem.W.Frag):Sp:=fun vs H Q _=>∃ x y p q,vs = [x,y] /\ aC (vw K H) (fr p) x /\ aC (vw K H) (fr q) y /\ p.2 ≠ 0 /\ q.2 ≠ 0 /\ Bq 1000000 p /\ Bq 1000000 q /\ Bt 4000000 (p.2 * q.2) /\ ∀ v H',aw (vw K H) (vw K H') -> aC (vw K H') (fr (ww p q)) v -> Q v H'
theorem A8 (F:cU K "_law_minus" "_law_minus" jf f fd) (T:dH K mg) (zClow:aP P w K mg base "_law_low" ["_law_top", "_law_bottom"] 2 (gp K)):aV P w K mg base cV 3 f fd ["_law_one", "_law_other"] (mt K):=by
 have scN:=ub.nd
 refine F.okQ ub (fun vs H Q E h=>?_) (fun cdv A outer s H vs Q E hr h=>?_)
 ·obtain ⟨_,_,_,_,rfl,_⟩:=h
  rfl
 ·obtain ⟨x,y,p,q,rfl,hx,hy,np,nq,bp,bq,bb,h⟩:=h
  refine ⟨_,(ag (ar (ah zClow (hr.mono (by walk_at "a2")) rfl (aa (ap cZ (ap aL (aA bH (qv 0) ad (fun _ _=>rfl)) (aA bH (qv 1) ad (fun _ _=>rfl))) (ap aL (aA bH (qv 1) ad (fun _ _=>rfl)) (aA bH (qv 0) ad (fun _ _=>rfl)))) (aa (ap aL (aA bH (qv 0) ad (fun _ _=>rfl)) (aA bH (qv 1) ad (fun _ _=>rfl))) ac))))),?_⟩
  walk_at "m"
  obtain ⟨a,rfl,ha⟩:=hx.fr_at
  obtain ⟨b,rfl,hb⟩:=hy.fr_at
  walk_at "vc*"
  simp only [gp]
  walk_at "vc*"
  exact ⟨bU bp.1 bq.2 (by decide),bU bq.1 bp.2 (by decide),bU bp.2 bq.2 (by decide),Int.mul_ne_zero np nq,h⟩
def u6 (K:PySem.W.Frag):Sp:=fun vs H Q _=>∃ (a:Addr) (y v u:V) (qs:List (Int × Int)) (c:Int × Int) (dv du:D),vs = [.ref a,y,v,u] /\ aH (vw K H) a qs /\ aC (vw K H) (fr c) y /\ Fq c /\ Bq 10 c /\ qs.length <= 11 /\ (∀ q ∈ qs,gk q) /\ aC (vw K H) dv v /\ aC (vw K H) du u /\ du.len <= 1000 /\ uf du /\
 ∀ (t:Bool) H',aw (vw K H) (vw K H') -> (t = true ↔ Gr qs (wv c) dv du) -> Q (.bl t) H'
theorem Fk (F:cU K "_law_due" "_law_due" pB f fd) (T:dH K mg) (zCis_fraction:aP P w K mg base "_law_is_fraction" ["_law_thing"] 2 (dr K)) (zCis_polynomial:aP P w K mg base "_law_is_polynomial" ["_law_thing"] 3 (ee K)) (zCnumber_at:aP P w K mg base "_law_number_at" ["_law_f", "_law_x_here"] 4 (eC K)) (zCsquare:aP P w K mg base "_law_square" ["_law_sums_here", "_law_f", "_law_g"] 5 (dE K)):aV P w K mg base cV 6 f fd ["_law_sums_here", "_law_spot", "_law_number", "_law_f"] (u6 K):=by
 have scN:=BU.nd
 refine F.okQ BU (fun vs H Q E h=>?_) (fun cdv A outer s H vs Q E hr h=>?_)
 ·obtain ⟨_,_,_,_,_,_,_,_,rfl,_⟩:=h
  rfl
 ·obtain ⟨a,y,v,u,qs,c,dv,du,rfl,ha,hy,fc,bc,l11,sq,rv,ru,lu,bu,h⟩:=h
  refine ⟨_,(af (bT (QW.pt (gS (dc (df (ah zCis_fraction (hr.mono (by walk_at "a2")) rfl (aa (qv 2) ac)))) (gS (dc (df (ah zCis_polynomial (hr.mono (by walk_at "a2")) rfl (aa (qv 3) ac)))) (iC (aN km (ap cZ (ap aL ad (ai aB (by rfl) T.b_len aT (aa (qv 3) ac))) ad) (ai aB (by rfl) T.b_len aT (aa (qv 0) ac)) (aK _)))))) (ag (ar fH)) aR)
   (ag (ar (lJ (dC (lH hr.u64) (ah zCnumber_at (hr.mono (by walk_at "a2")) rfl (aa (qv 3) (aa (qv 1) ac))) (av (aa ad (aa ad ac))) (aK _)) (hJ (dC (lH hr.u64) (ah zCsquare (hr.mono (by walk_at "a2")) rfl (aa (qv 0) (aa (qv 3) (aa (qv 3) ac)))) (qv 2) (aK _))))))),?_⟩
  walk_at "m"
  skip
  refine bv.gen fun N2 hN2=>?_
  walk_at "vc"
  simp only [dr,ee]
  refine ⟨v,dv,rfl,rv,_,rfl,bV (fun e=>?_) (fun e=>?_)⟩
  ·refine h false H .rfl ⟨fun z=>(by cases z),fun z=>?_⟩
   obtain ⟨q,fs,rfl,fq,_⟩:=z
   rw [frac_fr fq] at e
   cases e
  obtain ⟨q,rfl,fq⟩:=D.frac_fr (by simpa using e)
  refine ⟨u,du,rfl,ru,lu,fun H1 S1=>⟨_,rfl,bV (fun e3=>?_) (fun e3=>?_)⟩⟩
  ·refine h false H1 S1 ⟨fun z=>(by cases z),fun z=>?_⟩
   obtain ⟨_,fs,_,_,rfl,po,_⟩:=z
   rw [zc po] at e3
   cases e3
  obtain ⟨fs,rfl,po⟩:=uL (by simpa using e3)
  obtain ⟨b,xs,rfl,hb,rxs⟩:=(aC.same S1 _ _ ru).lst_at
  have lb:aH (vw K H1) b fs:=⟨xs,hb,rxs⟩
  have bq:=bu fs rfl po
  have un:∀ {q':Int × Int} {gs:List (Int × Int)},fr q = fr q' -> D.lst (fs.map fr) = .lst (gs.map fr) -> q' = q /\ gs = fs:=fun e1 e2=>⟨(tR e1).symm,(mq e2).symm⟩
  refine ⟨b,rfl,_,lb.len,eT (by decide),_,(ha.same S1).len,bV (fun e4=>?_) (fun e4=>hN2 _ _ ?_)⟩
  ·refine h false H1 S1 ⟨fun z=>(by cases z),fun z=>?_⟩
   obtain ⟨q',gs,e1,_,e2,_,l2,_⟩:=z
   obtain ⟨rfl,rfl⟩:=un e1 e2
   walk_at "o"
  have hl:2 * fs.length <= qs.length + 1:=by walk_at "o"
  have pbf:Pb 120001 (cf fs):=(jk (b:=20000) fun q hq=>⟨po.1 q hq,bq q hq⟩).mono (by walk_at "o")
  walk_at "vc"
  simp only [eC]
  refine ⟨b,y,fs,c,rfl,lb,aC.same S1 _ _ hy,by walk_at "o",fun q hq=>⟨po.1 q hq,(bq q hq).mono (by decide)⟩,fc,bc.mono (by decide),fun v2 H2 q2 S2 r2 f2 w2=>⟨by decide,fun p3 H3 hp3 S3 h3=>?_⟩⟩
  rw [jF (by walk_at "o")] at w2
  refine ⟨_,aC.same S3 _ _ r2,_,aJ h3,cR _,cR _,?_⟩
  rw [gv]
  have S13:=S2.trans S3
  have S03:=S1.trans S13
  refine bV (fun e5=>?_) (fun e5=>?_)
  ·have e2:q2 = (1,1):=of_decide_eq_true e5
   subst e2
   rw [jE] at w2
   simp only [dE]
   refine ⟨a,b,b,qs,qs,fs,fs,170,120001,120001,rfl,ha.same S03,⟨[],by simp⟩,lb.same S13,lb.same S13,by walk_at "o",by walk_at "o",by walk_at "o",fun q hq=>(sq q hq).1,po.1,po.1,by decide,iE sq,pbf,pbf,fun us pu eu=>tM hl pu eu,fun v4 H4 q4 S4 r4 f4 w4=>⟨_,r4,_,aC.same (S03.trans S4) _ _ rv,cR _,cR _,?_⟩⟩
   rw [gv]
   refine h _ H4 (S03.trans S4) ⟨fun z=>?_,fun z=>?_⟩
   ·have e3:q4 = q:=of_decide_eq_true z
    subst e3
    exact ⟨q4,fs,rfl,fq,rfl,po,hl,w2.symm,w4.symm⟩
   ·obtain ⟨q',gs,e1,_,e2,_,_,_,z⟩:=z
    obtain ⟨rfl,rfl⟩:=un e1 e2
    exact decide_eq_true (gu f4 fq (by rw [w4,z]))
  ·refine h false H3 S03 ⟨fun z=>(by cases z),fun z=>?_⟩
   obtain ⟨q',gs,e1,_,e2,_,_,z,_⟩:=z
   obtain ⟨rfl,rfl⟩:=un e1 e2
   exact absurd (decide_eq_true (gu f2 ⟨by decide,by decide⟩ (show wv q2 = wv (1,1) by rw [w2,z,jE]))) e5
def fL (K:PySem.W.Frag):Sp:=fun vs H Q _=>∃ (a:Addr) (y v u:V) (qs:List (Int × Int)) (c:Int × Int) (W:Nat -> Int) (B:Int) (M:Nat),vs = [.ref a,y,v,u] /\ aH (vw K H) a qs /\ aC (vw K H) (fr c) y /\ Fq c /\ Bq 10 c /\ 1 <= qs.length /\ qs.length <= 11 /\ (∀ q ∈ qs,gk q) /\ ky qs W B /\ jo W qs.length M /\ ¬ mf W qs.length M /\ md (vw K H) v /\ md (vw K H) u /\
 ∀ H',aw (vw K H) (vw K H') -> Q (.bl true) H'
theorem pX (F:cU K "_law_told_right" "_law_told_right" dP f fd) (T:dH K mg) (C_shows_most:aP P w K mg base "shows_most" ["sums", "spot", "number", "f"] 7 (dj K)) (zCdue:aP P w K mg base "_law_due" ["_law_sums_here", "_law_spot", "_law_number", "_law_f"] 6 (u6 K)):aV P w K mg base cV 8 f fd ["_law_sums_here", "_law_spot", "_law_number", "_law_f"] (fL K):=by
 have scN:=jW.nd
 refine F.okQ jW (fun vs H Q E h=>?_) (fun cdv A outer s H vs Q E hr h=>?_)
 ·obtain ⟨_,_,_,_,_,_,_,_,_,rfl,_⟩:=h
  rfl
 ·obtain ⟨a,y,v,u,qs,c,W,B,M,rfl,ha,hy,fc,bc,l1,l11,sq,cl,my,nf,⟨dv,rv,_⟩,⟨du,ru,_,lu,bu⟩,h⟩:=h
  refine ⟨_,(af (az (i:=4) scN rfl (by walk_at "a1") (ah C_shows_most (hr.mono (by walk_at "a2")) rfl (aa (eG eZ (by rfl) T.b_list fI (aa (qv 0) ac)) (aa (qv 1) (aa (qv 2) (aa (qv 3) ac))))))
   (ag (ar (lJ (ai cz (by rfl) T.b_isinstance aM (aa (qv 4) (aa (fi (v:=V.ty "bool") rfl T.b_bool qY rfl) ac))) (hJ (dC ik (qv 4) (ah zCdue (hr.mono (by walk_at "a2")) rfl (aa (qv 0) (aa (qv 1) (aa (qv 2) (aa (qv 3) ac))))) (aK _))))))),?_⟩
  walk_at "m"
  skip
  obtain ⟨xs,hxs,rxs⟩:=id ha
  refine bv.gen fun N1 hN1=>?_
  walk_at "vc"
  refine ⟨xs,hxs,fun a1 H1 ha1 S1 h1=>?_⟩
  have l1':aH (vw K H1) a1 qs:=⟨xs,h1,rxs.same S1⟩
  simp only [dj]
  refine ⟨a1,y,v,u,qs,c,W,B,M,dv,du,rfl,l1',aC.same S1 _ _ hy,fc,bc,l1,l11,sq,cl,my,nf,aC.same S1 _ _ rv,aC.same S1 _ _ ru,bu,fun t H2 S2 ht=>hN1 _ _ ?_⟩
  have S02:=S1.trans S2
  walk_at "vc"
  simp only [u6]
  refine ⟨"bool",rfl,oH (by decide) ⟨a,y,v,u,qs,c,dv,du,rfl,ha.same S02,aC.same S02 _ _ hy,fc,bc,l11,sq,aC.same S02 _ _ rv,aC.same S02 _ _ ru,lu,bu,fun t' H3 S3 ht'=>⟨rfl,?_⟩⟩⟩
  have e:t' = t:=Bool.eq_iff_iff.mpr (ht'.trans ht.symm)
  subst e
  rw [decide_eq_true rfl]
  exact h H3 (S02.trans S3)
theorem Da {a:Nat} {fs:List (Int × Int)} {c v:Int × Int} (h:Pb a (cf fs)) (hl:fs.length <= 8) (fc:Fq c) (bc:Bq 10 c) (fv:Fq v) (e:wv v = EV (cf fs) (wv c)):Bq (a + 97) v:=by
 obtain ⟨D,hD,bD,oD⟩:=h
 obtain ⟨M,e1,b1⟩:=uS hD oD fc bc 8
 rw [nO (n:=8) (fun k hk=>aU (by walk_at "o")) (by decide),e1] at e
 have hn:D * rm c.2 8 ≠ 0:=Int.mul_ne_zero hD (kH fc.ne 8)
 have:v = lo M (D * rm c.2 8):=gu fv (fG hn) (by rw [gg hn,e])
 rw [this]
 exact iB hn (b1.mono (by walk_at "o")) ((bD.mul (oi bc.2 8)).mono (by walk_at "o"))
def oG (i:Nat):Nat:=210 * 2 ^ i - 203
theorem Dj (i:Nat):2 * oG i + 202 <= oG (i + 1):=by
 unfold oG
 have:=Nat.two_pow_pos i
 rw [Nat.pow_succ]
 walk_at "o"
theorem yI:∀ i,i <= 6 -> oG i <= 14000:=by decide
def uY (K:PySem.W.Frag):Sp:=fun vs H Q _=>∃ (st:Addr) (y:V) (c:Int × Int),vs = [.ref st,y,.int 7] /\ cE (vw K H) st /\ aC (vw K H) (fr c) y /\ Fq c /\ Bq 10 c /\
 ∀ (a:Addr) H' fs,dI st (vw K H) (vw K H') -> cE (vw K H') st -> aH (vw K H') a fs -> ba fs -> Pb 14000 (cf fs) -> fs.length <= 7 -> Q (.ref a) H'
theorem Ey (F:cU K "_law_own" "_law_own" oT f fd) (T:dH K mg) (zCtake:aP P w K mg base "_law_take" ["_law_state_here", "_law_many"] 1 (dD K)) (zCsmall:aP P w K mg base "_law_small" ["_law_state_here"] 3 (dA K)) (zCsummed:aP P w K mg base "_law_summed" ["_law_f", "_law_g", "_law_by"] 4 (d8 K)) (zCmultiplied:aP P w K mg base "_law_multiplied" ["_law_f", "_law_g"] 4 (d4 K)) (zCnumber_at:aP P w K mg base "_law_number_at" ["_law_f", "_law_x_here"] 4 (eC K)) (zCminus:aP P w K mg base "_law_minus" ["_law_one", "_law_other"] 3 (mt K)):aV P w K mg base cV 5 f fd ["_law_state_here", "_law_spot", "_law_many"] (uY K):=by
 have scN:=BM.nd
 refine F.okQ BM (fun vs H Q E h=>?_) (fun cdv A outer s H vs Q E hr h=>?_)
 ·obtain ⟨_,_,_,rfl,_⟩:=h
  rfl
 ·obtain ⟨st,y,c,rfl,hst,hy,fc,bc,h⟩:=h
  refine ⟨_,(af (az (i:=3) scN rfl (by walk_at "a1") (aD (aa (av (aa ad (aa ad ac))) ac)))
   (af (az (i:=4) scN rfl (by walk_at "a1") (aD (aa (av (aa (ap cZ ad (aA bH (qv 1) ad (fun _ _=>rfl))) (aa (aA bH (qv 1) ad (fun _ _=>rfl)) ac))) (aa (av (aa ad (aa ad ac))) ac))))
   (af (cr PassesOwn.never rfl (bZ rfl T.b_range (aa (ah zCtake (hr.mono (by walk_at "a2")) rfl (aa (qv 0) (aa (qv 2) ac))) ac)) (am (i:=5) scN rfl (by walk_at "a1")) (af (az (i:=3) scN rfl (by walk_at "a1") (ah zCsummed (hr.mono (by walk_at "a2")) rfl (aa (aD (aa (ah zCsmall (hr.mono (by walk_at "a2")) rfl (aa (qv 0) ac)) ac)) (aa (ah zCmultiplied (hr.mono (by walk_at "a2")) rfl (aa (qv 3) (aa (qv 4) ac))) (aa (ah zCsmall (hr.mono (by walk_at "a2")) rfl (aa (qv 0) ac)) ac)))))
   (af (az (i:=6) scN rfl (by walk_at "a1") (ah zCnumber_at (hr.mono (by walk_at "a2")) rfl (aa (qv 3) (aa (qv 1) ac))))
   (ag (az (i:=3) scN rfl (by walk_at "a1") (ah zCsummed (hr.mono (by walk_at "a2")) rfl (aa (qv 3) (aa (aD (aa (ah zCminus (hr.mono (by walk_at "a2")) rfl (aa (av (aa ad (aa ad ac))) (aa (qv 6) ac))) ac)) (aa (av (aa ad (aa ad ac))) ac)))))))))
   (ag (ar (qv 3)))))),?_⟩
  walk_at "m"
  skip
  refine bv.gen fun N1 hN1=>?_
  walk_at "vc"
  refine ⟨by decide,fun p1 H1 hp1 S1 h1=>⟨by decide,fun a2 H2 ha2 S2 h2=>hN1 _ _ ?_⟩⟩
  refine bv.gen fun N2 hN2=>?_
  obtain ⟨z,rfl,hz⟩:=hy.fr_at
  walk_at "vc"
  have S02:=S1.trans S2
  refine ⟨_,S02 _ _ hz,_,fE,_,rfl,_,S02 _ _ hz,_,ij,by decide,fun p3 H3 hp3 S3 h3=>⟨by decide,fun p4 H4 hp4 S4 h4=>⟨by decide,fun ln H5 hln S5 h5=>hN2 _ _ ?_⟩⟩⟩
  have S25:=S3.trans (S4.trans S5)
  have S05:=S02.trans S25
  obtain ⟨ls,els⟩ : ∃ ls:List (Int × Int),ls = [(0 - c.1,c.2),(1,1)]:=⟨_,rfl⟩
  have ll:aH (vw K H5) ln ls:=⟨_,h5,by rw [els]; exact .mk_cons (aJ (S5 _ _ (S4 _ _ h3))) (.mk_cons (aJ (S5 _ _ h4)) .mk_nil)⟩
  have la:aH (vw K H5) a2 [(1,1)]:=⟨_,S25 _ _ h2,.mk_cons (aJ (S25 _ _ (S2 _ _ h1))) .mk_nil⟩
  have fl:∀ q ∈ ls,Fq q /\ Bq 10 q:=fun q hq=>by
   rw [els] at hq
   rcases List.mem_cons.mp hq with rfl | hq
   ·refine ⟨⟨fc.1,?_⟩,?_,bc.2⟩
    ·have:=fc.2
     show Int.gcd (0 - c.1) c.2 = 1
     rw [Int.zero_sub,Int.neg_gcd]
     exact this
    ·have:=bc.1
     unfold Bt at this ⊢
     show (0 - c.1).natAbs < _
     walk_at "o"
   ·cases List.mem_singleton.mp hq
    exact ⟨⟨by decide,by decide⟩,by decide,by decide⟩
  have lls:ls.length = 2:=by rw [els]; rfl
  have pl:Pb 21 (cf ls):=(jk fl).mono (by rw [lls]; decide)
  refine bv.gen fun N3 hN3=>?_
  walk_at "vc"
  simp only [dD]
  refine ⟨st,7,rfl,hst.same S05,by decide,by decide,fun r H6 r0 r1 B6 st6=>?_⟩
  refine ⟨r,rfl,by walk_at "o",by walk_at "o",?_⟩
  have f11:Fq (1,1):=⟨by decide,by decide⟩
  have rp:∀ {G G':Hp},cE G st -> dI st G G' -> aC G (fr c) (.ref z) -> aC G' (fr c) (.ref z):=fun hs B r=>by
   obtain ⟨_,_,e,_⟩:=hs
   exact aC.flat_but e B _ _ (aY _) r
  obtain ⟨Pv,hPv⟩ : ∃ Pv:Nat -> St -> Hp -> Prop,∀ i σ H',Pv i σ H' ↔ ∃ (d:Addr) (o5 o6:Option V) (fs:List (Int × Int)),σ = [some (.ref st),some (.ref z),some (.int 7),some (.ref d),some (.ref ln),o5,o6] /\ dI st (vw K H) (vw K H') /\ cE (vw K H') st /\ aH (vw K H') d fs /\ aH (vw K H') ln ls /\ aC (vw K H') (fr c) (.ref z) /\ ba fs /\ Pb (oG i) (cf fs) /\ fs.length <= i + 1:=⟨_,fun _ _ _=>Iff.rfl⟩
  have st5:=hst.same S05
  refine bA (its:=fm 0 r.toNat) Pv (fun _ _ _ _ _=>bh) ((hPv _ _ _).mpr ⟨a2,_,_,[(1,1)],rfl,(dI.of S05).trans B6,st6,la.stBut st5 B6,ll.stBut st5 B6,rp st5 B6 (aC.same S05 _ _ hy),⟨fun q hq=>?_,fun q hq=>?_⟩,?_,by simp⟩) (fun i x σ H7 hi hx pv=>?_) (fun σ H7 pv=>hN3 _ _ ?_)
  ·cases List.mem_singleton.mp hq
   exact f11
  ·cases hq
   decide
  ·exact (jk (b:=1) (fs:=[(1,1)]) fun q hq=>by cases List.mem_singleton.mp hq; exact ⟨f11,by decide,by decide⟩).mono (by decide)
  ·obtain ⟨d,o5,o6,fs,rfl,B7,st7,ld,lln,rz,po,pf,lf⟩:=(hPv _ _ _).mp pv
   obtain ⟨hi',rfl⟩:=dY hx
   have i6:i <= 5:=by walk_at "o"
   have om:=yI i (by walk_at "o")
   refine bv.gen fun N4 hN4=>?_
   walk_at "vc"
   simp only [dA]
   refine ⟨st,rfl,st7,fun v8 H8 q8 B8 st8 r8 f8 b81 b82 _=>⟨by decide,fun l9 H9 hl9 S9 h9=>?_⟩⟩
   have ld9:=(ld.stBut st7 B8).same S9
   have ll9:=(lln.stBut st7 B8).same S9
   simp only [d4]
   refine ⟨d,ln,fs,ls,oG i,21,rfl,ld9,ll9,by walk_at "o",by walk_at "o",by walk_at "o",po.1,fun q hq=>(fl q hq).1,pf,pl,fun e H10 ps S10 l10 n10 p10 w10 m10=>?_⟩
   have st10:=(st8.same S9).same S10
   refine ⟨st,rfl,st10,fun v11 H11 q11 B11 st11 r11 f11' b111 b112 _=>?_⟩
   simp only [d8]
   have l9':aH (vw K H11) l9 [q8]:=aH.stBut ⟨_,S10 _ _ h9,.mk_cons (aC.same (S9.trans S10) _ _ r8) .mk_nil⟩ st10 B11
   have l11':=l10.stBut st10 B11
   have lps:ps.length <= fs.length + 1:=gi p10 fun m hm=>by
    rw [w10]
    exact gU (n:=2) (fun j hj=>aU (by walk_at "o")) _ _ (by walk_at "o")
   have pps:Pb (oG i + 28) (cf ps):=((Pb.pr pf pl fs.length).congr w10).mono (by walk_at "o")
   have bps:=pps.bq p10.1
   refine ⟨l9,e,v11,[q8],ps,q11,rfl,l9',l11',r11,by simp,by walk_at "o",fun q hq=>?_,fun q hq=>⟨p10.1 q hq,(bps q hq).mono (by walk_at "o")⟩,f11',Bq.mono (m:=10) ⟨b111,b112⟩ (by decide),fun d12 H12 rs S12 l12 n12 p12 w12 m12=>hN4 _ _ ?_⟩
   ·cases List.mem_singleton.mp hq
    exact ⟨f8,Bq.mono (m:=10) ⟨b81,b82⟩ (by decide)⟩
   have prs:Pb (oG i + 50) (cf rs):=by
    have a1:=Pb.one pps (E:=q11.2) (m:=q11.1) (c:=wv q11) (b:=10) f11'.ne rfl b111 b112
    have a2:=jk (b:=10) (fs:=[q8]) fun q hq=>by cases List.mem_singleton.mp hq; exact ⟨f8,b81,b82⟩
    exact ((Pb.add a2 a1).congr w12).mono (by simp only [List.length_singleton]; walk_at "o")
   have lrs:rs.length <= i + 2:=by
    simp only [List.length_singleton] at m12
    walk_at "o"
   have rz8:=rp st7 B8 rz
   have rz12:=aC.same S12 _ _ (rp st10 B11 (aC.same (S9.trans S10) _ _ rz8))
   have ll12:=(aH.stBut (ll9.same S10) st10 B11).same S12
   have st12:=st11.same S12
   have B012:dI st (vw K H) (vw K H12):=(((B7.trans B8).same_trans (S9.trans S10)).trans B11).same_trans S12
   refine bv.gen fun N5 hN5=>?_
   walk_at "vc"
   simp only [eC]
   refine ⟨d12,_,rs,c,rfl,l12,rz12,by walk_at "o",fun q hq=>⟨p12.1 q hq,(prs.bq p12.1 q hq).mono (by walk_at "o")⟩,fc,bc.mono (by decide),fun v13 H13 q13 S13 r13 f13 w13=>hN5 _ _ ?_⟩
   rw [jF (by walk_at "o")] at w13
   have b13:=Da prs (by walk_at "o") fc bc f13 w13
   walk_at "vc"
   refine ⟨by decide,fun p14 H14 hp14 S14 h14=>?_⟩
   simp only [mt]
   refine ⟨_,_,(1,1),q13,rfl,aJ h14,aC.same S14 _ _ r13,by decide,f13.ne,Bq.mono (m:=2) ⟨by decide,by decide⟩ (by decide),b13.mono (by walk_at "o"),(show Bt _ (1 * q13.2) by rw [Int.one_mul]; exact b13.2.mono (by walk_at "o")),fun v15 H15 S15 r15=>⟨by decide,fun l16 H16 hl16 S16 h16=>⟨by decide,fun p17 H17 hp17 S17 h17=>?_⟩⟩⟩
   simp only [d8]
   have f15:=A3 (p:=(1,1)) f11 f13
   have b15:Bq (oG i + 150) (ww (1,1) q13):=(Am (p:=(1,1)) (m:=2) f11 f13 ⟨by decide,by decide⟩ b13).mono (by walk_at "o")
   have S1217:=S13.trans (S14.trans (S15.trans (S16.trans S17)))
   refine ⟨d12,l16,.ref p17,rs,[ww (1,1) q13],(1,1),rfl,l12.same S1217,⟨_,S17 _ _ h16,.mk_cons (aC.same (S16.trans S17) _ _ r15) .mk_nil⟩,aJ h17,by walk_at "o",by simp,fun q hq=>⟨p12.1 q hq,(prs.bq p12.1 q hq).mono (by walk_at "o")⟩,fun q hq=>?_,f11,Bq.mono (m:=2) ⟨by decide,by decide⟩ (by decide),fun d18 H18 us S18 l18 n18 p18 w18 m18=>?_⟩
   ·cases List.mem_singleton.mp hq
    exact ⟨f15,b15.mono (by walk_at "o")⟩
   have S1218:=S1217.trans S18
   refine (hPv _ _ _).mpr ⟨d18,_,_,us,rfl,B012.same_trans S1218,st12.same S1218,l18,ll12.same S1218,aC.same S1218 _ _ rz12,p18,?_,?_⟩
   ·have a3:=jk (b:=oG i + 150) (fs:=[ww (1,1) q13]) fun q hq=>by cases List.mem_singleton.mp hq; exact ⟨f15,b15⟩
    have os:=Dj i
    exact ((Pb.add prs a3).congr fun k=>by rw [w18,jE]; grind).mono (by simp only [List.length_singleton]; walk_at "o")
   ·simp only [List.length_singleton] at m18
    walk_at "o"
  ·obtain ⟨d,o5,o6,fs,rfl,B7,st7,ld,lln,rz,po,pf,lf⟩:=(hPv _ _ _).mp pv
   rw [ci] at pf lf
   walk_at "vc"
   exact h d H7 fs B7 st7 ld po (pf.mono (yI _ (by walk_at "o"))) (by walk_at "o")
theorem DU (xs:List V):jO xs none (some (-1)) = xs.take (xs.length - 1):=by
 unfold jO HT.sIx
 cases xs with
 | nil=>rfl
 | cons x xs =>
  simp
  walk_at "o"
theorem wL {K:PySem.W.Frag} {σ:St} {H0:Hp}:DY K σ H0 (kq K nN) []:=fun H Q S k=>⟨show 0 <= sizeLine by decide,fun q H2 hq S2 h2=>k q H2 S2 ⟨_,h2,.mk_nil⟩⟩
def qL (K:PySem.W.Frag):Sp:=fun vs H Q _=>∃ (st p sa l:Addr) (y v:V) (qs fs:List (Int × Int)) (c q:Int × Int),vs = [.ref st,.ref p,.ref sa,y] /\ cE (vw K H) st /\ vw K H p = some (.tup [v,.ref l]) /\ aC (vw K H) (fr q) v /\ aH (vw K H) l fs /\ aH (vw K H) sa qs /\ aC (vw K H) (fr c) y /\ Fq c /\ Bq 10 c /\ Fq q /\ Bq 20000 q /\ ba fs /\ (∀ q ∈ fs,Bq 20000 q) /\ fs.length <= 6 /\ 1 <= qs.length /\ qs.length <= 11 /\ (∀ q ∈ qs,gk q) /\
 ∀ x H',dI st (vw K H) (vw K H') -> cE (vw K H') st -> kR (vw K H') x -> Q x H'
theorem D4 (F:cU K "_law_bent" "_law_bent" kK f fd) (T:dH K mg) (zCown:aP P w K mg base "_law_own" ["_law_state_here", "_law_spot", "_law_many"] 5 (uY K)) (zCsquare:aP P w K mg base "_law_square" ["_law_sums_here", "_law_f", "_law_g"] 5 (dE K)) (zCplus:aP P w K mg base "_law_plus" ["_law_one", "_law_other"] 3 (dw K)) (zCsummed:aP P w K mg base "_law_summed" ["_law_f", "_law_g", "_law_by"] 4 (d8 K)) (zCtake:aP P w K mg base "_law_take" ["_law_state_here", "_law_many"] 1 (dD K)):aV P w K mg base cV 6 f fd ["_law_state_here", "_law_told", "_law_sums_here", "_law_spot"] (qL K):=by
 have scN:=xC.nd
 refine F.okQ xC (fun vs H Q E h=>?_) (fun cdv A outer s H vs Q E hr h=>?_)
 ·obtain ⟨_,_,_,_,_,_,_,_,_,_,rfl,_⟩:=h
  rfl
 ·obtain ⟨st,p,sa,l,y,v,qs,fs,c,q,rfl,hst,hp,rv,lf,ls,ry,fc,bc,fq,bq,po,bf,nf,n1,n2,sq,h⟩:=h
  refine ⟨_,((af (cF (qv 1) (br (n:=2) rfl (ay (am (i:=4) scN rfl (by walk_at "a1")) (ay (am (i:=5) scN rfl (by walk_at "a1")) bo))))
   (af (az (i:=6) scN rfl (by walk_at "a1") (ah zCown (hr.mono (by walk_at "a2")) rfl (aa (qv 0) (aa (qv 3) (aa ad ac)))))
   (af (az (i:=7) scN rfl (by walk_at "a1") (av (aa ad (aa ad ac))))
   (af (bT (aN yk (ap cZ (ap aL ad (ai aB (by rfl) T.b_len aT (aa (qv 6) ac))) ad) (ai aB (by rfl) T.b_len aT (aa (qv 2) ac)) (aK _)) (ag (az (i:=7) scN rfl (by walk_at "a1") (ah zCsquare (hr.mono (by walk_at "a2")) rfl (aa (qv 2) (aa (qv 6) (aa (qv 6) ac)))))) aR)
   (af (az (i:=8) scN rfl (by walk_at "a1") (aD (aa (av (aa (qv 4) (aa (qv 5) ac))) (aa (av (aa (ah zCplus (hr.mono (by walk_at "a2")) rfl (aa (qv 4) (aa (av (aa ad (aa ad ac))) ac))) (aa (qv 5) ac))) (aa (av (aa (qv 7) (aa (qv 6) ac))) (aa (av (aa (qv 7) (aa (ah zCsummed (hr.mono (by walk_at "a2")) rfl (aa (aD ac) (aa (qv 6) (aa (av (aa (eR cY ad) (aa ad ac))) ac)))) ac))) ac))))))
   (af (az (i:=8) scN rfl (by walk_at "a1") (ap aS (qv 8) (aD (aa (av (aa (qv 4) (aa (ap aS (qv 5) (aD (aa (av (aa ad (aa ad ac))) ac))) ac))) (aa (av (aa (qv 4) (aa (ap aS (qv 5) (aD (aa (av (aa ad (aa ad ac))) ac))) ac))) (aa (av (aa (eG tP (by rfl) T.b_list fI (aa (qv 4) ac)) (aa (qv 5) ac))) (aa (av (aa (qv 4) (aa (eG sr (by rfl) T.b_tuple ol (aa (qv 5) ac)) ac))) (aa (av (aa ad (aa (qv 5) ac))) ac))))))))
   (af (az (i:=8) scN rfl (by walk_at "a1") (ap aS (qv 8) (aD (aa (av (aa (qv 4) (aa nh ac))) (aa (av (aa nh (aa (qv 5) ac))) (aa (av (aa (qv 4) (aa (aD (aa ad ac)) ac))) (aa (av (aa (aA cJ (qv 2) ad (fun _ _=>rfl)) (aa (aD (aa (av (aa ad (aa ad ac))) ac)) ac))) (aa (av (aa (qv 4) (aa (aD ac) ac))) (aa (av (aa fH (aa (aD (aa (av (aa ad (aa ad ac))) ac)) ac))) ac)))))))))
   (af (az (i:=8) scN rfl (by walk_at "a1") (ap aS (qv 8) (aD (aa (av (aa (qv 4) (aa (gE gN (qv 5) jb (hU (eR cY ad))) ac))) (aa (av (aa (av (aa (ap aL ad (aA bH (qv 4) ad (fun _ _=>rfl))) (aa (ap aL ad (aA bH (qv 4) ad (fun _ _=>rfl))) ac))) (aa (qv 5) ac))) (aa (av (aa (qv 7) (aa (ap aS (qv 6) (aD (aa (av (aa ad (aa ad ac))) ac))) ac))) (aa (av (aa (av (aa ad (aa ad ac))) (aa (aD ac) ac))) ac)))))))
   (ag (ar (aA cJ (qv 8) (ah zCtake (hr.mono (by walk_at "a2")) rfl (aa (qv 0) (aa ad ac))) (fun _ _=>rfl))))))))))))),?_⟩
  simp only [pE,sP,L2.start,List.map_cons,List.map_nil,List.cons_append,List.nil_append,List.replicate_succ,List.replicate_zero,List.length_cons,List.length_nil,Nat.reduceSub,Nat.reduceAdd,Nat.zero_add]
  refine bv.gen fun N1 hN1=>?_
  walk_at "m"
  walk_at "vc"
  refine ⟨_,hp,rfl,_,_,rfl,_,_,rfl,rfl,hN1 _ _ ?_⟩
  refine bv.gen fun N2 hN2=>?_
  walk_at "m"
  walk_at "vc"
  simp only [uY]
  refine ⟨st,y,c,rfl,hst,ry,fc,bc,fun a1 H1 gs B1 st1 l1 pg bg lg=>hN2 _ _ ?_⟩
  refine bv.gen fun N3 hN3=>?_
  walk_at "m"
  walk_at "vc"
  refine ⟨by decide,fun p2 H2 hp2 S2 h2=>hN3 _ _ ?_⟩
  obtain ⟨z,rfl,hz⟩:=rv.fr_at
  obtain ⟨_,_,est,_⟩:=id hst
  have rv2:=aC.same S2 _ _ (aC.flat_but est B1 _ _ (aY _) rv)
  have lf2:=(lf.stBut hst B1).same S2
  have ls2:=(ls.stBut hst B1).same S2
  have lg2:=l1.same S2
  have st2:=st1.same S2
  have B02:dI st (vw K H) (vw K H2):=B1.same_trans S2
  have bg':=bg.bq pg.1
  refine bv.gen fun N4 hN4=>?_
  have key:∀ (v7:V) (q7:Int × Int) (H3:Hp),aw (vw K H2) (vw K H3) -> aC (vw K H3) (fr q7) v7 -> N4 [some (.ref st),some (.ref p),some (.ref sa),some y,some (.ref z),some (.ref l),some (.ref a1),some v7,none] H3:=by
   intro v7 q7 H3 S3 r7
   refine hN4 _ _ ?_
   refine bv.gen fun N5 hN5=>?_
   have rv3:=aC.same S3 _ _ rv2
   have lf3:=lf2.same S3
   have lg3:=lg2.same S3
   have tv:∀ {σ:St} {i:Nat} {H0:Hp},aw (vw K H3) (vw K H0) -> σ[i]? = some (some (.ref z)) -> wH K σ H0 (L2.tVar i) md:=fun S e=>wS e fun G S'=>mM (aC.same S' _ _ (aC.same S _ _ rv3))
   have tf:∀ {σ:St} {i:Nat} {H0:Hp},aw (vw K H3) (vw K H0) -> σ[i]? = some (some (.ref l)) -> wH K σ H0 (L2.tVar i) md:=fun S e=>ma (ny e (lf3.same S)) (by walk_at "o") fun _=>bf
   have tg:∀ {σ:St} {i:Nat} {H0:Hp},aw (vw K H3) (vw K H0) -> σ[i]? = some (some (.ref a1)) -> wH K σ H0 (L2.tVar i) md:=fun S e=>ma (ny e (lg3.same S)) (by walk_at "o") fun _ q hq=>(bg' q hq).mono (by decide)
   have ts:∀ {σ:St} {i:Nat} {H0:Hp},aw (vw K H3) (vw K H0) -> σ[i]? = some (some v7) -> wH K σ H0 (L2.tVar i) md:=fun S e=>wS e fun G S'=>mM (aC.same S' _ _ (aC.same S _ _ r7))
   refine mr (n:=4) (jN (bR (ck (tv .rfl rfl) (tf .rfl rfl)) (bR (ck ?_ (tf .rfl rfl)) (bR (ck (ts .rfl rfl) (tg .rfl rfl)) (bR (ck (ts .rfl rfl) ?_) mD)))) (by decide)) fun p8 xs8 H8 S8 h8 a8 l8=>?_
   ·intro H9 Q9 S9 k9
    refine ⟨_,rfl,by decide,fun p10 H10 hp10 S10 h10=>?_⟩
    show dw K [.ref z,.ref p10] H10 Q9 E0
    exact ⟨_,_,q,(1,1),rfl,aC.same (S9.trans S10) _ _ rv3,aJ h10,fq.ne,by decide,bq.mono (by decide),Bq.mono (m:=2) ⟨by decide,by decide⟩ (by decide),(show Bt _ (q.2 * 1) by rw [Int.mul_one]; exact bq.2.mono (by decide)),fun v11 H11 S11 r11=>k9 v11 H11 (S10.trans S11) (mM r11)⟩
   ·intro H9 Q9 S9 k9
    refine ⟨by decide,fun p10 H10 hp10 S10 h10=>⟨_,rfl,_,rfl,by decide,fun p11 H11 hp11 S11 h11=>?_⟩⟩
    show d8 K [.ref p10,.ref a1,.ref p11] H11 Q9 E0
    have S911:=S9.trans (S10.trans S11)
    refine ⟨p10,a1,.ref p11,[],gs,(-1,1),rfl,⟨_,S11 _ _ h10,.mk_nil⟩,lg3.same S911,aJ h11,by simp,by walk_at "o",by simp,fun q hq=>⟨pg.1 q hq,(bg' q hq).mono (by decide)⟩,⟨by decide,by decide⟩,Bq.mono (m:=2) ⟨by decide,by decide⟩ (by decide),fun d12 H12 rs S12 l12 n12 p12 w12 m12=>k9 _ H12 (S10.trans (S11.trans S12)) (tF l12 (by simp only [List.length_nil] at m12; walk_at "o") fun _ q hq=>?_)⟩
    have a1:=Pb.one bg (E:=1) (m:=-1) (c:=wv (-1,1)) (b:=2) (by decide) rfl (by decide) (by decide)
    exact ((a1.congr fun k=>by rw [w12,tT]; grind).bq p12.1 q hq).mono (by decide)
   refine hN5 _ _ ?_
   clear hN5 hN4 hN3 hN2 hN1
   obtain ⟨z',ez,hz3⟩:=rv3.fr_at
   cases ez
   have app:∀ {gs:List (Int × Int)} {i j:Int},(∀ q ∈ gs,Bq 20000 q) -> Bq 20000 (i,j) -> ∀ q ∈ gs ++ [(i,j)],Bq 20000 q:=fun h1 h2 q hq=>by
    rcases List.mem_append.mp hq with z | z
    ·exact h1 q z
    ·cases List.mem_singleton.mp z
     exact h2
   have b2:∀ {q:Int × Int},Bq 2 q -> Bq 20000 q:=fun h=>h.mono (by decide)
   have one:∀ {σ:St} {i j:Int} {H0:Hp},Bq 2 (i,j) -> wH K σ H0 (kq K (gB (jT K (gB (tC (.int i)) (gB (tC (.int j)) nN))) nN)) md:=fun h=>ma rj (by simp) fun _ q hq=>by
    cases List.mem_singleton.mp hq
    exact h.mono (by decide)
   refine bv.gen fun N6 hN6=>?_
   refine mr (n:=4 + 5) (qI (qi rfl h8 a8 l8) (jN (bR (ck (tv S8 rfl) ?_) (bR (ck (tv S8 rfl) ?_) (bR (ck ?_ (tf S8 rfl)) (bR (ck (tv S8 rfl) ?_) (bR (ck (kY (ko (by decide))) (tf S8 rfl)) mD))))) (by decide)) (by decide)) fun p9 xs9 H9 S9 h9 a9 l9=>?_
   ·exact ma (tq (ny rfl (lf3.same S8)) rj (by simp; walk_at "o")) (by simp; walk_at "o") fun _=>app bf (b2 ⟨by decide,by decide⟩)
   ·exact ma (tq (ny rfl (lf3.same S8)) rj (by simp; walk_at "o")) (by simp; walk_at "o") fun _=>app bf (b2 ⟨by decide,by decide⟩)
   ·intro H10 Q10 S10 k10
    exact ⟨_,rfl,z,rfl,_,(S8.trans S10) _ _ hz3,fun d11 H11 hd11 S11 h11=>k10 _ H11 S11 (zq h11)⟩
   ·intro H10 Q10 S10 k10
    obtain ⟨xs,hxs,rxs⟩:=id (lf3.same (S8.trans S10))
    exact ⟨_,rfl,l,rfl,xs,hxs,fun d11 H11 hd11 S11 h11=>k10 _ H11 S11 (AQ h11 (rxs.same S11))⟩
   refine hN6 _ _ ?_
   clear hN6
   have S39:=S8.trans S9
   refine bv.gen fun N7 hN7=>?_
   refine mr (n:=9 + 6) (qI (qi rfl h9 a9 l9) (jN (bR (ck (tv S39 rfl) (kY sC)) (bR (ck (kY sC) (tf S39 rfl)) (bR (ck (tv S39 rfl) (kY (yd (sU (kS (ko (by decide)) se) (by decide)) (.inl rfl) (by decide)))) (bR (ck ?_ (one ⟨by decide,by decide⟩)) (bR (ck (tv S39 rfl) (ma wL (by decide) (by simp))) (bR (ck (kY zA) (one ⟨by decide,by decide⟩)) mD)))))) (by decide)) (by decide)) fun p10 xs10 H10 S10 h10 a10 l10=>?_
   ·intro H11 Q11 S11 k11
    obtain ⟨xs,hxs,rxs⟩:=id (ls2.same (S3.trans (S39.trans S11)))
    obtain ⟨x0,hx0,rx0⟩:=rxs.at (i:=0) (d:=fr qs[0]) (by rw [List.getElem?_map,List.getElem?_eq_getElem n1]; rfl)
    walk_at "m"
    walk_at "vc"
    exact ⟨xs,hxs,x0,bQ hx0,k11 _ _ .rfl (mM rx0)⟩
   refine hN7 _ _ ?_
   clear hN7
   have S310:=S39.trans S10
   refine bv.gen fun N8 hN8=>?_
   refine mr (n:=15 + 4) (qI (qi rfl h10 a10 l10) (jN (bR (ck (tv S310 rfl) ?_) (bR (ck ?_ (tf S310 rfl)) (bR (ck (ts S310 rfl) ?_) (bR (ck (kY (yg (kS (ko (by decide)) (kS (ko (by decide)) se)) (by decide))) (ma wL (by decide) (by simp))) mD)))) (by decide)) (by decide)) fun p11 xs11 H11 S11 h11 a11 l11=>?_
   ·intro H12 Q12 S12 k12
    obtain ⟨xs,hxs,rxs⟩:=id (lf3.same (S310.trans S12))
    walk_at "m"
    walk_at "vc"
    refine ⟨xs,hxs,fun d13 H13 hd13 S13 h13=>k12 _ H13 S13 (tF (fs:=fs.take (fs.length - 1)) ⟨_,h13,?_⟩ (by rw [List.length_take]; walk_at "o") fun _ q hq=>bf q (List.mem_of_mem_take hq))⟩
    have lx:xs.length = fs.length:=by rw [rxs.length,List.length_map]
    rw [DU,lx,List.map_take]
    exact (rxs.take _).same S13
   ·intro H12 Q12 S12 k12
    walk_at "m"
    walk_at "vc"
    refine ⟨_,(S310.trans S12) _ _ hz3,_,fE,?_⟩
    rw [ge]
    refine ⟨eT (by decide),_,(S310.trans S12) _ _ hz3,_,ij,?_⟩
    rw [ge]
    exact ⟨eT (by decide),by decide,fun d13 H13 hd13 S13 h13=>k12 _ H13 S13 (C3 h13)⟩
   ·exact ma (tq (ny rfl (lg3.same S310)) rj (by simp; walk_at "o")) (by simp; walk_at "o") fun _=>app (fun q hq=>(bg' q hq).mono (by decide)) (b2 ⟨by decide,by decide⟩)
   refine hN8 _ _ ?_
   clear hN8
   walk_at "m"
   walk_at "vc"
   simp only [dD]
   have S211:=S3.trans (S310.trans S11)
   have st11:=st2.same S211
   have np:p11 ≠ st:=fun e=>by
    obtain ⟨_,_,e2,_⟩:=id st11
    rw [<- e,h11] at e2
    cases e2
    cases l11
   refine ⟨st,19,rfl,st11,by decide,by decide,fun r H12 r0 r1 B12 st12=>⟨_,rfl,xs11,B12 _ _ np h11,?_⟩⟩
   obtain ⟨v,hv,hm⟩:=jX (xs:=xs11) r0 (by walk_at "o")
   exact ⟨v,hv,h _ _ ((B02.same_trans S211).trans B12) st12 ((a11 v hm).but B12 st11)⟩
  walk_at "m"
  walk_at "vc"
  refine ⟨_,lg2.len,eT (by decide),_,ls2.len,bV (fun e=>?_) (fun e=>?_)⟩
  ·simp only [dE]
   refine ⟨sa,a1,a1,qs,qs,gs,gs,170,14000,14000,rfl,ls2,⟨[],by simp⟩,lg2,lg2,by walk_at "o",by walk_at "o",by walk_at "o",fun q hq=>(sq q hq).1,pg.1,pg.1,by decide,iE sq,bg,bg,fun us pu eu=>tM (by walk_at "o") pu eu,fun v3 H3 q3 S3 r3 f3 w3=>?_⟩
   exact key v3 q3 H3 S3 r3
  ·exact key _ (3,2) H2 .rfl (aJ h2)
theorem pZ {G G':Hp} {Pt st:Addr} {qual:Str} (h:dh G Pt qual) (hst:cE G st) (B:dI st G G'):dh G' Pt qual:=by
 obtain ⟨x,b,e,z⟩:=hst
 exact h.butL e B
def spLaw (K:PySem.W.Frag):Sp:=fun vs H Q _=>∃ (a:Addr) (ns:List Int),vs = [.ref a] /\ jw K H a (ns.map V.int) /\ ns.length <= 63 /\ dh (vw K H) 579 (EH "law") /\ ∀ H',Q (.bl true) H'
theorem DR {c CF:Addr} (F:cU K "law" "law" gz f fd) (T:dH K mg) (M_:Gk K mg base fd c 579) (R_:vx P w K mg base 8) (Z_:vP K mg CF 2)
  (zCstate:aP P w K mg base "_law_state" ["_law_script", "_law_k"] 2 (mx K)) (zCcase:aP P w K mg base "_law_case" ["_law_state_here"] 6 (qA K)) (C_least_square:aP P w K mg base "least_square" ["sums", "spot"] 7 (ei K)) (C_shows_most:aP P w K mg base "shows_most" ["sums", "spot", "number", "f"] 7 (dj K)) (CX_shows_most:xy P w K mg base "shows_most" ["sums", "spot", "number", "f"] 7 (eU CF K)) (zCbent:aP P w K mg base "_law_bent" ["_law_state_here", "_law_told", "_law_sums_here", "_law_spot"] 6 (qL K)) (zCtold_right:aP P w K mg base "_law_told_right" ["_law_sums_here", "_law_spot", "_law_number", "_law_f"] 8 (fL K)) (zCsums:aP P w K mg base "_law_sums" ["_law_state_here"] 5 (qS K)) (zCkind:aP P w K mg base "_law_kind" ["_law_sums_here"] 8 (pU K)):aV P w K mg base cV 10 f fd ["_law_script"] (spLaw K):=by
 have scN:=wP.nd
 refine F.okM wP (fun vs H Q E h=>?_) (fun cdv A outer s H vs Q E hcode hr h=>?_)
 ·obtain ⟨a,_,rfl,_⟩:=h
  rfl
 ·obtain ⟨a,ns,rfl,hS,hl,hT1,h⟩:=h
  refine ⟨_,(Bi (cr PassesOwn.never rfl (bZ rfl T.b_range (aa (ai (lK rfl) (by rfl) T.b_max sO (aa ad (aa (ai (vS rfl) (by rfl) T.b_min Ce (aa (ai gW (by rfl) T.b_len aT (aa (qv 0) ac)) (aa ad ac))) ac))) ac)) (am (i:=1) scN rfl (by walk_at "a1")) (af (az (i:=2) scN rfl (by walk_at "a1") (ah zCstate (hr.mono (by walk_at "a2")) rfl (aa (qv 0) (aa (qv 1) ac))))
   (af (cF (ah zCcase (hr.mono (by walk_at "a2")) rfl (aa (qv 2) ac)) (br (n:=3) rfl (ay (am (i:=3) scN rfl (by walk_at "a1")) (ay (am (i:=4) scN rfl (by walk_at "a1")) (ay (am (i:=5) scN rfl (by walk_at "a1")) bo)))))
   (af (az (i:=6) scN rfl (by walk_at "a1") (ah C_least_square (hr.mono (by walk_at "a2")) rfl (aa (eG eZ (by rfl) T.b_list fI (aa (qv 4) ac)) (aa (qv 5) ac))))
   (af (bT (aN vN (ah C_shows_most (hr.mono (by walk_at "a2")) rfl (aa (eG eZ (by rfl) T.b_list fI (aa (qv 4) ac)) (aa (qv 5) (aa (aA bH (qv 6) ad (fun _ _=>rfl)) (aa (aA bH (qv 6) ad (fun _ _=>rfl)) ac))))) fH (aK _)) (ag (ar fH)) aR)
   (af (cr PassesOwn.never rfl (bZ rfl T.b_range (aa ad ac)) (am (i:=7) scN rfl (by walk_at "a1")) (af (cF (ah zCbent (hr.mono (by walk_at "a2")) rfl (aa (qv 2) (aa (qv 6) (aa (qv 4) (aa (qv 5) ac))))) (br (n:=2) rfl (ay (am (i:=8) scN rfl (by walk_at "a1")) (ay (am (i:=9) scN rfl (by walk_at "a1")) bo))))
   (ag (bT (dc (df (ah zCtold_right (hr.mono (by walk_at "a2")) rfl (aa (qv 4) (aa (qv 5) (aa (qv 8) (aa (qv 9) ac))))))) (ag (ar fH)) aR))))
   (af (az (i:=10) scN rfl (by walk_at "a1") (ah zCsums (hr.mono (by walk_at "a2")) rfl (aa (qv 2) ac)))
   (ag (bT (QW.pt (oj (aN ik (ah zCkind (hr.mono (by walk_at "a2")) rfl (aa (qv 10) ac)) fu (aK _)) (kG (aN (nM hr.u64) (zN (Nl:=["_law_odd", "_law_spot"]) (ixs:=[10,5]) (kl:=7) R_ (xH hcode M_) (hr.mono (by walk_at "a2")) rfl Z_ (by decide) (fun _=>rfl) rfl (Ay (sc:=ae gz) rfl (by decide +kernel)) rfl (vH (by decide +kernel)) ⟨rfl,rfl⟩ (fun _ _ _ _=>rfl) rfl (fun j x hx=>by rcases j with _ | _ | j <;> first | (cases hx; exact ⟨rfl,_,rfl,rfl⟩) | cases hx) (fun _ _ _ _ _ _ _ hrl=>xk CX_shows_most (hrl.mono (by decide)) rfl (fun _=>(aa (qv 0) (aa (qv 1) (aa (show QE _ _ (jT K _) from av (aa ad (aa ad ac))) (aa (show QE _ _ (kq K _) from aD (aa (show QE _ _ (jT K _) from av (aa ad (aa ad ac))) ac)) ac))))))) (aD (aa ad ac)) (aK _))))) (ag (ar fH)) aR)))))))))
   (ag (ar fH))),?_⟩
  walk_at "m"
  skip
  refine xn.mk (fun σ H2=>True) ?_ ?_
  ·walk_at "vc"
   refine ⟨_,.inl hS.sq,?_⟩
   simp only [List.length_map]
   obtain ⟨Pv,hPv⟩ : ∃ Pv:Nat -> St -> Hp -> Prop,∀ k σ H',Pv k σ H' ↔ ∃ o1 o2 o3 o4 o5 o6 o7 o8 o9 o10,σ = [some (.ref a),o1,o2,o3,o4,o5,o6,o7,o8,o9,o10] /\ oo (vw K H) (vw K H') /\ dh (vw K H') 579 (EH "law"):=⟨_,fun _ _ _=>Iff.rfl⟩
   refine ⟨by repeat' split <;> walk_at "o",by repeat' split <;> walk_at "o",bA (its:=fm 0 _) Pv (fun _ _ _ _ _=>bh) ((hPv _ _ _).mpr ⟨_,_,_,_,_,_,_,_,_,_,rfl,.rfl,hT1⟩) (fun i x σ H1 hi hx pv=>?_) (fun σ H1 pv=>trivial)⟩
   obtain ⟨o1,o2,o3,o4,o5,o6,o7,o8,o9,o10,rfl,s1,T1⟩:=(hPv _ _ _).mp pv
   obtain ⟨hi',rfl⟩:=dY hx
   refine bv.gen fun N1 hN1=>?_
   walk_at "vc"
   simp only [mx]
   walk_at "vc"
   refine ⟨⟨i,by simp⟩,⟨ns,hS.smT s1⟩,fun st H2 hst0 s2 st2=>hN1 _ _ ?_⟩
   refine bv.gen fun N2 hN2=>?_
   walk_at "vc"
   simp only [qA]
   refine ⟨st,rfl,st2,fun p ca sa v H3 cs qs c B3 st3 h3 lc3 ls3 rv3 fc bc q1 q2 q3 fcs bcs mv=>?_⟩
   have T3:=pZ (T1.same s2) st2 B3
   have S13:aw (vw K H1) (vw K H3):=s2.but_trans hst0 B3
   obtain ⟨W,B,cl⟩:=wJ q3
   obtain ⟨M,my⟩:=ut (W:=W) (n:=qs.length) q1
   have nf:=yO cl my fcs mv
   refine ⟨_,rfl,_,h3,rfl,_,_,rfl,_,_,rfl,_,_,rfl,rfl,hN2 _ _ ?_⟩
   refine bv.gen fun N3 hN3=>?_
   walk_at "vc"
   obtain ⟨xs,hxs,rxs⟩:=id ls3
   refine ⟨xs,hxs,fun a4 H4 ha4 S4 h4=>?_⟩
   simp only [ei]
   refine ⟨a4,v,qs,c,W,B,M,rfl,⟨xs,h4,rxs.same S4⟩,aC.same S4 _ _ rv3,fc,bc,q1,q2,q3,cl,my,nf,fun p5 l5 v5 H5 q5 fs S5 h5 r5 lf5 ok5=>hN3 _ _ ?_⟩
   have S35:=S4.trans S5
   have lfs:fs.length <= 6:=by have:=ok5.len; walk_at "o"
   have bfs:=ok5.pb.bq ok5.po.1
   refine bv.gen fun N4 hN4=>?_
   walk_at "vc"
   refine ⟨xs,S35 _ _ hxs,fun a6 H6 ha6 S6 h6=>⟨_,S6 _ _ h5,_,fE,_,S6 _ _ h5,_,ij,?_⟩⟩
   simp only [dj]
   have S36:=S35.trans S6
   have bu:uf (.lst (fs.map fr)):=fun gs e _ q hq=>by
    rw [<- mq e] at hq
    exact bfs q hq
   refine ⟨a6,v,v5,.ref l5,qs,c,W,B,M,fr q5,.lst (fs.map fr),rfl,⟨xs,h6,rxs.same S36⟩,aC.same S36 _ _ rv3,fc,bc,q1,q2,q3,cl,my,nf,aC.same S6 _ _ r5,(lf5.same S6).rep,bu,fun t H7 S7 ht=>⟨_,rfl,?_⟩⟩
   have et:t = true:=ht.mpr ⟨q5,fs,rfl,ok5.fq,rfl,ok5.po,by have:=ok5.len; walk_at "o",ok5.one,ok5.sq⟩
   subst et
   refine kc (by decide) (hN4 _ _ ?_)
   have S57:=S6.trans S7
   have S37:=S35.trans S57
   have st7:=st3.same S37
   have T7:=T3.same S37
   have ls7:=ls3.same S37
   have rv7:=aC.same S37 _ _ rv3
   have h57:=S57 _ _ h5
   have r57:=aC.same S57 _ _ r5
   have lf7:=lf5.same S57
   have S17:=S13.trans S37
   refine bv.gen fun N5 hN5=>?_
   walk_at "vc"
   obtain ⟨Pw,hPw⟩ : ∃ Pw:Nat -> St -> Hp -> Prop,∀ j σ H',Pw j σ H' ↔ ∃ o7 o8 o9,σ = [some (.ref a),some (.int (0 + i)),some (.ref st),some (.ref ca),some (.ref sa),some v,some (.ref p5),o7,o8,o9,o10] /\ dI st (vw K H7) (vw K H') /\ cE (vw K H') st:=⟨_,fun _ _ _=>Iff.rfl⟩
   refine ⟨by decide,by decide,bA (its:=fm 0 5) Pw (fun _ _ _ _ _=>bh) ((hPw _ _ _).mpr ⟨_,_,_,rfl,dI.of .rfl,st7⟩) (fun j x σ H8 hj hx pw=>?_) (fun σ H8 pw=>hN5 _ _ ?_)⟩
   ·obtain ⟨o7,o8,o9,rfl,B8,st8⟩:=(hPw _ _ _).mp pw
    obtain ⟨hj',rfl⟩:=dY hx
    obtain ⟨_,_,e7,_⟩:=id st7
    have np:p5 ≠ st:=fun z=>by
     rw [z,e7] at h57
     cases h57
    refine bv.gen fun N6 hN6=>?_
    walk_at "vc"
    simp only [qL]
    have rv8:=aC.flat_but e7 B8 _ _ (aY _) rv7
    refine ⟨st,p5,sa,l5,v,v5,qs,fs,c,q5,rfl,st8,B8 _ _ np h57,aC.flat_but e7 B8 _ _ (aY _) r57,lf7.stBut st7 B8,ls7.stBut st7 B8,rv8,fc,bc,ok5.fq,ok5.bq,ok5.po,bfs,lfs,q1,q2,q3,fun x H9 B9 st9 pr9=>?_⟩
    obtain ⟨pp,v9,u9,rfl,h9,a9,b9⟩:=pr9
    refine ⟨_,rfl,_,h9,rfl,_,_,rfl,_,_,rfl,rfl,hN6 _ _ ?_⟩
    obtain ⟨_,_,e8,_⟩:=id st8
    walk_at "vc"
    simp only [fL]
    refine ⟨sa,v,v9,u9,qs,c,W,B,M,rfl,(ls7.stBut st7 B8).stBut st8 B9,aC.flat_but e8 B9 _ _ (aY _) rv8,fc,bc,q1,q2,q3,cl,my,nf,a9,b9,fun H10 S10=>⟨true,rfl,kc (by decide) ((hPw _ _ _).mpr ⟨_,_,_,rfl,(B8.trans B9).same_trans S10,st9.same S10⟩)⟩⟩
   ·obtain ⟨o7,o8,o9,rfl,B8,st8⟩:=(hPw _ _ _).mp pw
    have T8:=pZ T7 st7 B8
    obtain ⟨_,_,e7,_⟩:=id st7
    have rv8:=aC.flat_but e7 B8 _ _ (aY _) rv7
    refine bv.gen fun N6 hN6=>?_
    walk_at "vc"
    simp only [qS]
    refine ⟨st,rfl,st8,fun u H11 qs' B11 st11 l11 q1' q2' q3' nu=>hN6 _ _ ?_⟩
    have T11:=pZ T8 st8 B11
    obtain ⟨_,_,e8,_⟩:=id st8
    have rv11:=aC.flat_but e8 B11 _ _ (aY _) rv8
    have s11:oo (vw K H) (vw K H11):=s1.trans (oo.of (fun b o e=>B11 _ _ (ak e hst0) (B8 _ _ (ak e hst0) (S17 _ _ e))))
    obtain ⟨W',B',cl'⟩:=wJ q3'
    obtain ⟨M',my'⟩:=ut (W:=W') (n:=qs'.length) q1'
    walk_at "vc"
    simp only [pU]
    refine ⟨u,qs',W',B',M',rfl,l11,q1',q2',q3',cl',my',fun nf' H12 S12=>?_,fun nf' s H12 hs S12=>?_⟩
    ·refine ⟨rfl,oH trivial ?_⟩
     have hT2:=T11.same S12
     simp only [xf,yK]
     refine ⟨hT2,fun H13 B13 T13=>⟨_,rfl,?_,fun c4 H14 S14 hn4 h4=>?_⟩⟩
     ·have sm:=hT2.smT B13 T13
      walk_at "vc"
      simp only [eU]
      refine ⟨by decide,fun n1 H15 hn1 S15 h15=>⟨by decide,fun n2 H16 hn2 S16 h16=>⟨by decide,fun n3 H17 hn3 S17' h17=>?_⟩⟩⟩
      have S1317:=S15.trans (S16.trans S17')
      exact ⟨u,v,.ref n1,.ref n3,qs',W',B',M',rfl,((l11.same S12).smT sm).same S1317,q1',q2',q3',cl',my',nf',fun H' S'=>⟨trivial,trivial,S1317.trans S'⟩⟩
     ·refine ⟨by decide,fun c5 H15 hn5 S15 h15=>?_⟩
      have d1:aC (vw K H15) (.lst [.int 2]) (.ref c4):=.mk_lst (S15 _ _ h4) (.mk_cons (.mk_int _) .mk_nil)
      have d2:aC (vw K H15) (.lst [.int 2]) (.ref c5):=.mk_lst h15 (.mk_cons (.mk_int _) .mk_nil)
      refine ⟨_,d1,_,d2,nF 2,nF 2,?_⟩
      rw [xN (nF 2)]
      have S1315:=S14.trans S15
      exact kc (by decide) ((hPv _ _ _).mpr ⟨_,_,_,_,_,_,_,_,_,_,rfl,((s11.trans (oo.of S12)).trans (hT2.smT B13 T13)).trans (oo.of S1315),T13.same S1315⟩)
    ·refine ⟨rfl,kc ?_ ((hPv _ _ _).mpr ⟨_,_,_,_,_,_,_,_,_,_,rfl,s11.trans (oo.of S12),T11.same S12⟩)⟩
     intro z
     injection z with z
     rcases hs with ⟨y,_⟩ | ⟨y,_⟩
     ·rw [y] at z
      exact absurd z (by decide +kernel)
     ·rw [y] at z
      exact absurd z (by decide +kernel)
  ·walk_at "vc"
   intro σ H2 _
   exact h H2
end
theorem all_mk {l:PySem.W.OpenLaw} {w:World} {K:PySem.W.Frag} {h:Heap} {mg:Str -> Option Value} {fa f0 f1 f2 f3 f4 f5 f6 f7 f8 f9 f10 f11 f12 f13 f14 f15 f16 f17 f18 f19 f20 f21 f22 f23 f24 f25 f26 f27 f28 f29 f30 f31 f32 f33 f34 f35 f36 f37 f38 f39 f40 f41 f42 f43 f44 f45 f46 f47 f48 f49 f50 f51 f52 f53 f54 f55 f56 f57 f58 f59 f60 f61 f62 f63 f64 f65 f66:Addr} (X:K.In h) (G:h.Ns mainGlobals mg) (hfa:mg "law" = some (.ref fa)) (hst:l.prog.given.tree = none)
  {od0 an0 od1 an1 od2 an2 od3 an3 od4 an4 od5 an5 od6 an6 od7 an7 od8 an8 od9 an9 od10 an10 od11 an11 od12 an12 od13 an13 od14 an14 od15 an15 od16 an16 od17 an17 od18 an18 od19 an19 od20 an20 od21 an21 od22 an22 od23 an23 od24 an24 od25 an25 od26 an26 od27 an27 od28 an28 od29 an29 od30 an30 od31 an31 od32 an32 od33 an33 od34 an34 od35 an35 od36 an36 od37 an37 od38 an38 od39 an39 od40 an40 od41 an41 od42 an42 od43 an43 od44 an44 od45 an45 od46 an46 od47 an47 od48 an48 od49 an49 od50 an50 od51 an51 od52 an52 od53 an53 od54 an54 od55 an55 od56 an56 od57 an57 od58 an58 od59 an59 od60 an60 od61 an61 od62 an62 od63 an63 od64 an64 od65 an65 od66 an66:Option Addr} {sl0 sl1 sl2 sl3 sl4 sl5 sl6 sl7 sl8 sl9 sl10 sl11 sl12 sl13 sl14 sl15 sl16 sl17 sl18 sl19 sl20 sl21 sl22 sl23 sl24 sl25 sl26 sl27 sl28 sl29 sl30 sl31 sl32 sl33 sl34 sl35 sl36 sl37 sl38 sl39 sl40 sl41 sl42 sl43 sl44 sl45 sl46 sl47 sl48 sl49 sl50 sl51 sl52 sl53 sl54 sl55 sl56 sl57 sl58 sl59 sl60 sl61 sl62 sl63 sl64 sl65 sl66:Array (Option Value)}
  {oc0 kV0 dc0 pm0 cd0 ct0 oc1 kV1 dc1 pm1 cd1 ct1 oc2 kV2 dc2 pm2 cd2 ct2 oc3 kV3 dc3 pm3 cd3 ct3 oc4 kV4 dc4 pm4 cd4 ct4 oc5 kV5 dc5 pm5 cd5 ct5 oc6 kV6 dc6 pm6 cd6 ct6 oc7 kV7 dc7 pm7 cd7 ct7 oc8 kV8 dc8 pm8 cd8 ct8 oc9 kV9 dc9 pm9 cd9 ct9 oc10 kV10 dc10 pm10 cd10 ct10 oc11 kV11 dc11 pm11 cd11 ct11 oc12 kV12 dc12 pm12 cd12 ct12 oc13 kV13 dc13 pm13 cd13 ct13 oc14 kV14 dc14 pm14 cd14 ct14 oc15 kV15 dc15 pm15 cd15 ct15 oc16 kV16 dc16 pm16 cd16 ct16 oc17 kV17 dc17 pm17 cd17 ct17 oc18 kV18 dc18 pm18 cd18 ct18 oc19 kV19 dc19 pm19 cd19 ct19 oc20 kV20 dc20 pm20 cd20 ct20 oc21 kV21 dc21 pm21 cd21 ct21 oc22 kV22 dc22 pm22 cd22 ct22 oc23 kV23 dc23 pm23 cd23 ct23 oc24 kV24 dc24 pm24 cd24 ct24 oc25 kV25 dc25 pm25 cd25 ct25 oc26 kV26 dc26 pm26 cd26 ct26 oc27 kV27 dc27 pm27 cd27 ct27 oc28 kV28 dc28 pm28 cd28 ct28 oc29 kV29 dc29 pm29 cd29 ct29 oc30 kV30 dc30 pm30 cd30 ct30 oc31 kV31 dc31 pm31 cd31 ct31 oc32 kV32 dc32 pm32 cd32 ct32 oc33 kV33 dc33 pm33 cd33 ct33 oc34 kV34 dc34 pm34 cd34 ct34 oc35 kV35 dc35 pm35 cd35 ct35 oc36 kV36 dc36 pm36 cd36 ct36 oc37 kV37 dc37 pm37 cd37 ct37 oc38 kV38 dc38 pm38 cd38 ct38 oc39 kV39 dc39 pm39 cd39 ct39 oc40 kV40 dc40 pm40 cd40 ct40 oc41 kV41 dc41 pm41 cd41 ct41 oc42 kV42 dc42 pm42 cd42 ct42 oc43 kV43 dc43 pm43 cd43 ct43 oc44 kV44 dc44 pm44 cd44 ct44 oc45 kV45 dc45 pm45 cd45 ct45 oc46 kV46 dc46 pm46 cd46 ct46 oc47 kV47 dc47 pm47 cd47 ct47 oc48 kV48 dc48 pm48 cd48 ct48 oc49 kV49 dc49 pm49 cd49 ct49 oc50 kV50 dc50 pm50 cd50 ct50 oc51 kV51 dc51 pm51 cd51 ct51 oc52 kV52 dc52 pm52 cd52 ct52 oc53 kV53 dc53 pm53 cd53 ct53 oc54 kV54 dc54 pm54 cd54 ct54 oc55 kV55 dc55 pm55 cd55 ct55 oc56 kV56 dc56 pm56 cd56 ct56 oc57 kV57 dc57 pm57 cd57 ct57 oc58 kV58 dc58 pm58 cd58 ct58 oc59 kV59 dc59 pm59 cd59 ct59 oc60 kV60 dc60 pm60 cd60 ct60 oc61 kV61 dc61 pm61 cd61 ct61 oc62 kV62 dc62 pm62 cd62 ct62 oc63 kV63 dc63 pm63 cd63 ct63 oc64 kV64 dc64 pm64 cd64 ct64 oc65 kV65 dc65 pm65 cd65 ct65 oc66 kV66 dc66 pm66 cd66 ct66:Value}
  (a0:PySem.W.nsIn K mainGlobals "is_whole" = some (some (.ref f0))) (l0:K.lookup f0 = some ⟨oc0,od0,.func (PySem.W.fnOf "is_whole" "is_whole" (au fb) (ao fb) (ae fb) .none kV0 dc0 pm0 an0 cd0 ct0),sl0⟩) (c0:PySem.W.codeIn K cd0 "is_whole" = true) (k0:PySem.W.keepIn K (.ref f0) = true)
  (a1:PySem.W.nsIn K mainGlobals "greatest_divisor" = some (some (.ref f1))) (l1:K.lookup f1 = some ⟨oc1,od1,.func (PySem.W.fnOf "greatest_divisor" "greatest_divisor" (au cb) (ao cb) (ae cb) .none kV1 dc1 pm1 an1 cd1 ct1),sl1⟩) (c1:PySem.W.codeIn K cd1 "greatest_divisor" = true) (k1:PySem.W.keepIn K (.ref f1) = true)
  (a2:PySem.W.nsIn K mainGlobals "trimmed" = some (some (.ref f2))) (l2:K.lookup f2 = some ⟨oc2,od2,.func (PySem.W.fnOf "trimmed" "trimmed" (au fP) (ao fP) (ae fP) .none kV2 dc2 pm2 an2 cd2 ct2),sl2⟩) (c2:PySem.W.codeIn K cd2 "trimmed" = true) (k2:PySem.W.keepIn K (.ref f2) = true)
  (a3:PySem.W.nsIn K mainGlobals "wholes_multiplied" = some (some (.ref f3))) (l3:K.lookup f3 = some ⟨oc3,od3,.func (PySem.W.fnOf "wholes_multiplied" "wholes_multiplied" (au bS) (ao bS) (ae bS) .none kV3 dc3 pm3 an3 cd3 ct3),sl3⟩) (c3:PySem.W.codeIn K cd3 "wholes_multiplied" = true) (k3:PySem.W.keepIn K (.ref f3) = true)
  (a4:PySem.W.nsIn K mainGlobals "wholes_at" = some (some (.ref f4))) (l4:K.lookup f4 = some ⟨oc4,od4,.func (PySem.W.fnOf "wholes_at" "wholes_at" (au eH) (ao eH) (ae eH) .none kV4 dc4 pm4 an4 cd4 ct4),sl4⟩) (c4:PySem.W.codeIn K cd4 "wholes_at" = true) (k4:PySem.W.keepIn K (.ref f4) = true)
  (a5:PySem.W.nsIn K mainGlobals "is_fraction" = some (some (.ref f5))) (l5:K.lookup f5 = some ⟨oc5,od5,.func (PySem.W.fnOf "is_fraction" "is_fraction" (au dq) (ao dq) (ae dq) .none kV5 dc5 pm5 an5 cd5 ct5),sl5⟩) (c5:PySem.W.codeIn K cd5 "is_fraction" = true) (k5:PySem.W.keepIn K (.ref f5) = true)
  (a6:PySem.W.nsIn K mainGlobals "ratio" = some (some (.ref f6))) (l6:K.lookup f6 = some ⟨oc6,od6,.func (PySem.W.fnOf "ratio" "ratio" (au iP) (ao iP) (ae iP) .none kV6 dc6 pm6 an6 cd6 ct6),sl6⟩) (c6:PySem.W.codeIn K cd6 "ratio" = true) (k6:PySem.W.keepIn K (.ref f6) = true)
  (a7:PySem.W.nsIn K mainGlobals "plus" = some (some (.ref f7))) (l7:K.lookup f7 = some ⟨oc7,od7,.func (PySem.W.fnOf "plus" "plus" (au kO) (ao kO) (ae kO) .none kV7 dc7 pm7 an7 cd7 ct7),sl7⟩) (c7:PySem.W.codeIn K cd7 "plus" = true) (k7:PySem.W.keepIn K (.ref f7) = true)
  (a8:PySem.W.nsIn K mainGlobals "times" = some (some (.ref f8))) (l8:K.lookup f8 = some ⟨oc8,od8,.func (PySem.W.fnOf "times" "times" (au iM) (ao iM) (ae iM) .none kV8 dc8 pm8 an8 cd8 ct8),sl8⟩) (c8:PySem.W.codeIn K cd8 "times" = true) (k8:PySem.W.keepIn K (.ref f8) = true)
  (a9:PySem.W.nsIn K mainGlobals "over" = some (some (.ref f9))) (l9:K.lookup f9 = some ⟨oc9,od9,.func (PySem.W.fnOf "over" "over" (au lD) (ao lD) (ae lD) .none kV9 dc9 pm9 an9 cd9 ct9),sl9⟩) (c9:PySem.W.codeIn K cd9 "over" = true) (k9:PySem.W.keepIn K (.ref f9) = true)
  (a10:PySem.W.nsIn K mainGlobals "is_polynomial" = some (some (.ref f10))) (l10:K.lookup f10 = some ⟨oc10,od10,.func (PySem.W.fnOf "is_polynomial" "is_polynomial" (au cw) (ao cw) (ae cw) .none kV10 dc10 pm10 an10 cd10 ct10),sl10⟩) (c10:PySem.W.codeIn K cd10 "is_polynomial" = true) (k10:PySem.W.keepIn K (.ref f10) = true)
  (a11:PySem.W.nsIn K mainGlobals "number_of" = some (some (.ref f11))) (l11:K.lookup f11 = some ⟨oc11,od11,.func (PySem.W.fnOf "number_of" "number_of" (au eF) (ao eF) (ae eF) .none kV11 dc11 pm11 an11 cd11 ct11),sl11⟩) (c11:PySem.W.codeIn K cd11 "number_of" = true) (k11:PySem.W.keepIn K (.ref f11) = true)
  (a12:PySem.W.nsIn K mainGlobals "summed" = some (some (.ref f12))) (l12:K.lookup f12 = some ⟨oc12,od12,.func (PySem.W.fnOf "summed" "summed" (au gJ) (ao gJ) (ae gJ) .none kV12 dc12 pm12 an12 cd12 ct12),sl12⟩) (c12:PySem.W.codeIn K cd12 "summed" = true) (k12:PySem.W.keepIn K (.ref f12) = true)
  (a13:PySem.W.nsIn K mainGlobals "cleared" = some (some (.ref f13))) (l13:K.lookup f13 = some ⟨oc13,od13,.func (PySem.W.fnOf "cleared" "cleared" (au fS) (ao fS) (ae fS) .none kV13 dc13 pm13 an13 cd13 ct13),sl13⟩) (c13:PySem.W.codeIn K cd13 "cleared" = true) (k13:PySem.W.keepIn K (.ref f13) = true)
  (a14:PySem.W.nsIn K mainGlobals "divided" = some (some (.ref f14))) (l14:K.lookup f14 = some ⟨oc14,od14,.func (PySem.W.fnOf "divided" "divided" (au fW) (ao fW) (ae fW) .none kV14 dc14 pm14 an14 cd14 ct14),sl14⟩) (c14:PySem.W.codeIn K cd14 "divided" = true) (k14:PySem.W.keepIn K (.ref f14) = true)
  (a15:PySem.W.nsIn K mainGlobals "multiplied" = some (some (.ref f15))) (l15:K.lookup f15 = some ⟨oc15,od15,.func (PySem.W.fnOf "multiplied" "multiplied" (au dQ) (ao dQ) (ae dQ) .none kV15 dc15 pm15 an15 cd15 ct15),sl15⟩) (c15:PySem.W.codeIn K cd15 "multiplied" = true) (k15:PySem.W.keepIn K (.ref f15) = true)
  (a16:PySem.W.nsIn K mainGlobals "grown" = some (some (.ref f16))) (l16:K.lookup f16 = some ⟨oc16,od16,.func (PySem.W.fnOf "grown" "grown" (au i0) (ao i0) (ae i0) .none kV16 dc16 pm16 an16 cd16 ct16),sl16⟩) (c16:PySem.W.codeIn K cd16 "grown" = true) (k16:PySem.W.keepIn K (.ref f16) = true)
  (a17:PySem.W.nsIn K mainGlobals "number_at" = some (some (.ref f17))) (l17:K.lookup f17 = some ⟨oc17,od17,.func (PySem.W.fnOf "number_at" "number_at" (au eD) (ao eD) (ae eD) .none kV17 dc17 pm17 an17 cd17 ct17),sl17⟩) (c17:PySem.W.codeIn K cd17 "number_at" = true) (k17:PySem.W.keepIn K (.ref f17) = true)
  (a18:PySem.W.nsIn K mainGlobals "worth" = some (some (.ref f18))) (l18:K.lookup f18 = some ⟨oc18,od18,.func (PySem.W.fnOf "worth" "worth" (au iY) (ao iY) (ae iY) .none kV18 dc18 pm18 an18 cd18 ct18),sl18⟩) (c18:PySem.W.codeIn K cd18 "worth" = true) (k18:PySem.W.keepIn K (.ref f18) = true)
  (a19:PySem.W.nsIn K mainGlobals "square_sum" = some (some (.ref f19))) (l19:K.lookup f19 = some ⟨oc19,od19,.func (PySem.W.fnOf "square_sum" "square_sum" (au dX) (ao dX) (ae dX) .none kV19 dc19 pm19 an19 cd19 ct19),sl19⟩) (c19:PySem.W.codeIn K cd19 "square_sum" = true) (k19:PySem.W.keepIn K (.ref f19) = true)
  (a20:PySem.W.nsIn K mainGlobals "met" = some (some (.ref f20))) (l20:K.lookup f20 = some ⟨oc20,od20,.func (PySem.W.fnOf "met" "met" (au oW) (ao oW) (ae oW) .none kV20 dc20 pm20 an20 cd20 ct20),sl20⟩) (c20:PySem.W.codeIn K cd20 "met" = true) (k20:PySem.W.keepIn K (.ref f20) = true)
  (a21:PySem.W.nsIn K mainGlobals "next_row" = some (some (.ref f21))) (l21:K.lookup f21 = some ⟨oc21,od21,.func (PySem.W.fnOf "next_row" "next_row" (au eV) (ao eV) (ae eV) .none kV21 dc21 pm21 an21 cd21 ct21),sl21⟩) (c21:PySem.W.codeIn K cd21 "next_row" = true) (k21:PySem.W.keepIn K (.ref f21) = true)
  (a22:PySem.W.nsIn K mainGlobals "step_rows" = some (some (.ref f22))) (l22:K.lookup f22 = some ⟨oc22,od22,.func (PySem.W.fnOf "step_rows" "step_rows" (au eL) (ao eL) (ae eL) .none kV22 dc22 pm22 an22 cd22 ct22),sl22⟩) (c22:PySem.W.codeIn K cd22 "step_rows" = true) (k22:PySem.W.keepIn K (.ref f22) = true)
  (a23:PySem.W.nsIn K mainGlobals "steps" = some (some (.ref f23))) (l23:K.lookup f23 = some ⟨oc23,od23,.func (PySem.W.fnOf "steps" "steps" (au je) (ao je) (ae je) .none kV23 dc23 pm23 an23 cd23 ct23),sl23⟩) (c23:PySem.W.codeIn K cd23 "steps" = true) (k23:PySem.W.keepIn K (.ref f23) = true)
  (a24:PySem.W.nsIn K mainGlobals "furthest_step" = some (some (.ref f24))) (l24:K.lookup f24 = some ⟨oc24,od24,.func (PySem.W.fnOf "furthest_step" "furthest_step" (au cy) (ao cy) (ae cy) .none kV24 dc24 pm24 an24 cd24 ct24),sl24⟩) (c24:PySem.W.codeIn K cd24 "furthest_step" = true) (k24:PySem.W.keepIn K (.ref f24) = true)
  (a25:PySem.W.nsIn K mainGlobals "fits" = some (some (.ref f25))) (l25:K.lookup f25 = some ⟨oc25,od25,.func (PySem.W.fnOf "fits" "fits" (au lN) (ao lN) (ae lN) .none kV25 dc25 pm25 an25 cd25 ct25),sl25⟩) (c25:PySem.W.codeIn K cd25 "fits" = true) (k25:PySem.W.keepIn K (.ref f25) = true)
  (a26:PySem.W.nsIn K mainGlobals "nought_bar" = some (some (.ref f26))) (l26:K.lookup f26 = some ⟨oc26,od26,.func (PySem.W.fnOf "nought_bar" "nought_bar" (au dU) (ao dU) (ae dU) .none kV26 dc26 pm26 an26 cd26 ct26),sl26⟩) (c26:PySem.W.codeIn K cd26 "nought_bar" = true) (k26:PySem.W.keepIn K (.ref f26) = true)
  (a27:PySem.W.nsIn K mainGlobals "outlook" = some (some (.ref f27))) (l27:K.lookup f27 = some ⟨oc27,od27,.func (PySem.W.fnOf "outlook" "outlook" (au fX) (ao fX) (ae fX) .none kV27 dc27 pm27 an27 cd27 ct27),sl27⟩) (c27:PySem.W.codeIn K cd27 "outlook" = true) (k27:PySem.W.keepIn K (.ref f27) = true)
  (a28:PySem.W.nsIn K mainGlobals "is_bar" = some (some (.ref f28))) (l28:K.lookup f28 = some ⟨oc28,od28,.func (PySem.W.fnOf "is_bar" "is_bar" (au gH) (ao gH) (ae gH) .none kV28 dc28 pm28 an28 cd28 ct28),sl28⟩) (c28:PySem.W.codeIn K cd28 "is_bar" = true) (k28:PySem.W.keepIn K (.ref f28) = true)
  (a29:PySem.W.nsIn K mainGlobals "had" = some (some (.ref f29))) (l29:K.lookup f29 = some ⟨oc29,od29,.func (PySem.W.fnOf "had" "had" (au m7) (ao m7) (ae m7) .none kV29 dc29 pm29 an29 cd29 ct29),sl29⟩) (c29:PySem.W.codeIn K cd29 "had" = true) (k29:PySem.W.keepIn K (.ref f29) = true)
  (a30:PySem.W.nsIn K mainGlobals "least_square" = some (some (.ref f30))) (l30:K.lookup f30 = some ⟨oc30,od30,.func (PySem.W.fnOf "least_square" "least_square" (au cS) (ao cS) (ae cS) .none kV30 dc30 pm30 an30 cd30 ct30),sl30⟩) (c30:PySem.W.codeIn K cd30 "least_square" = true) (k30:PySem.W.keepIn K (.ref f30) = true)
  (a31:PySem.W.nsIn K mainGlobals "shows_most" = some (some (.ref f31))) (l31:K.lookup f31 = some ⟨oc31,od31,.func (PySem.W.fnOf "shows_most" "shows_most" (au db) (ao db) (ae db) .none kV31 dc31 pm31 an31 cd31 ct31),sl31⟩) (c31:PySem.W.codeIn K cd31 "shows_most" = true) (k31:PySem.W.keepIn K (.ref f31) = true)
  (a32:PySem.W.nsIn K mainGlobals "_law_whole" = some (some (.ref f32))) (l32:K.lookup f32 = some ⟨oc32,od32,.func (PySem.W.fnOf "_law_whole" "_law_whole" (au iS) (ao iS) (ae iS) .none kV32 dc32 pm32 an32 cd32 ct32),sl32⟩) (c32:PySem.W.codeIn K cd32 "_law_whole" = true) (k32:PySem.W.keepIn K (.ref f32) = true)
  (a33:PySem.W.nsIn K mainGlobals "_law_divisor" = some (some (.ref f33))) (l33:K.lookup f33 = some ⟨oc33,od33,.func (PySem.W.fnOf "_law_divisor" "_law_divisor" (au fT) (ao fT) (ae fT) .none kV33 dc33 pm33 an33 cd33 ct33),sl33⟩) (c33:PySem.W.codeIn K cd33 "_law_divisor" = true) (k33:PySem.W.keepIn K (.ref f33) = true)
  (a34:PySem.W.nsIn K mainGlobals "_law_is_fraction" = some (some (.ref f34))) (l34:K.lookup f34 = some ⟨oc34,od34,.func (PySem.W.fnOf "_law_is_fraction" "_law_is_fraction" (au dm) (ao dm) (ae dm) .none kV34 dc34 pm34 an34 cd34 ct34),sl34⟩) (c34:PySem.W.codeIn K cd34 "_law_is_fraction" = true) (k34:PySem.W.keepIn K (.ref f34) = true)
  (a35:PySem.W.nsIn K mainGlobals "_law_is_polynomial" = some (some (.ref f35))) (l35:K.lookup f35 = some ⟨oc35,od35,.func (PySem.W.fnOf "_law_is_polynomial" "_law_is_polynomial" (au cx) (ao cx) (ae cx) .none kV35 dc35 pm35 an35 cd35 ct35),sl35⟩) (c35:PySem.W.codeIn K cd35 "_law_is_polynomial" = true) (k35:PySem.W.keepIn K (.ref f35) = true)
  (a36:PySem.W.nsIn K mainGlobals "_law_low" = some (some (.ref f36))) (l36:K.lookup f36 = some ⟨oc36,od36,.func (PySem.W.fnOf "_law_low" "_law_low" (au pF) (ao pF) (ae pF) .none kV36 dc36 pm36 an36 cd36 ct36),sl36⟩) (c36:PySem.W.codeIn K cd36 "_law_low" = true) (k36:PySem.W.keepIn K (.ref f36) = true)
  (a37:PySem.W.nsIn K mainGlobals "_law_plus" = some (some (.ref f37))) (l37:K.lookup f37 = some ⟨oc37,od37,.func (PySem.W.fnOf "_law_plus" "_law_plus" (au kX) (ao kX) (ae kX) .none kV37 dc37 pm37 an37 cd37 ct37),sl37⟩) (c37:PySem.W.codeIn K cd37 "_law_plus" = true) (k37:PySem.W.keepIn K (.ref f37) = true)
  (a38:PySem.W.nsIn K mainGlobals "_law_times" = some (some (.ref f38))) (l38:K.lookup f38 = some ⟨oc38,od38,.func (PySem.W.fnOf "_law_times" "_law_times" (au ji) (ao ji) (ae ji) .none kV38 dc38 pm38 an38 cd38 ct38),sl38⟩) (c38:PySem.W.codeIn K cd38 "_law_times" = true) (k38:PySem.W.keepIn K (.ref f38) = true)
  (a39:PySem.W.nsIn K mainGlobals "_law_number_at" = some (some (.ref f39))) (l39:K.lookup f39 = some ⟨oc39,od39,.func (PySem.W.fnOf "_law_number_at" "_law_number_at" (au eE) (ao eE) (ae eE) .none kV39 dc39 pm39 an39 cd39 ct39),sl39⟩) (c39:PySem.W.codeIn K cd39 "_law_number_at" = true) (k39:PySem.W.keepIn K (.ref f39) = true)
  (a40:PySem.W.nsIn K mainGlobals "_law_worth" = some (some (.ref f40))) (l40:K.lookup f40 = some ⟨oc40,od40,.func (PySem.W.fnOf "_law_worth" "_law_worth" (au i5) (ao i5) (ae i5) .none kV40 dc40 pm40 an40 cd40 ct40),sl40⟩) (c40:PySem.W.codeIn K cd40 "_law_worth" = true) (k40:PySem.W.keepIn K (.ref f40) = true)
  (a41:PySem.W.nsIn K mainGlobals "_law_clean" = some (some (.ref f41))) (l41:K.lookup f41 = some ⟨oc41,od41,.func (PySem.W.fnOf "_law_clean" "_law_clean" (au jd) (ao jd) (ae jd) .none kV41 dc41 pm41 an41 cd41 ct41),sl41⟩) (c41:PySem.W.codeIn K cd41 "_law_clean" = true) (k41:PySem.W.keepIn K (.ref f41) = true)
  (a42:PySem.W.nsIn K mainGlobals "_law_multiplied" = some (some (.ref f42))) (l42:K.lookup f42 = some ⟨oc42,od42,.func (PySem.W.fnOf "_law_multiplied" "_law_multiplied" (au dN) (ao dN) (ae dN) .none kV42 dc42 pm42 an42 cd42 ct42),sl42⟩) (c42:PySem.W.codeIn K cd42 "_law_multiplied" = true) (k42:PySem.W.keepIn K (.ref f42) = true)
  (a43:PySem.W.nsIn K mainGlobals "_law_square" = some (some (.ref f43))) (l43:K.lookup f43 = some ⟨oc43,od43,.func (PySem.W.fnOf "_law_square" "_law_square" (au gI) (ao gI) (ae gI) .none kV43 dc43 pm43 an43 cd43 ct43),sl43⟩) (c43:PySem.W.codeIn K cd43 "_law_square" = true) (k43:PySem.W.keepIn K (.ref f43) = true)
  (a44:PySem.W.nsIn K mainGlobals "_law_take" = some (some (.ref f44))) (l44:K.lookup f44 = some ⟨oc44,od44,.func (PySem.W.fnOf "_law_take" "_law_take" (au lE) (ao lE) (ae lE) .none kV44 dc44 pm44 an44 cd44 ct44),sl44⟩) (c44:PySem.W.codeIn K cd44 "_law_take" = true) (k44:PySem.W.keepIn K (.ref f44) = true)
  (a45:PySem.W.nsIn K mainGlobals "_law_summed" = some (some (.ref f45))) (l45:K.lookup f45 = some ⟨oc45,od45,.func (PySem.W.fnOf "_law_summed" "_law_summed" (au gF) (ao gF) (ae gF) .none kV45 dc45 pm45 an45 cd45 ct45),sl45⟩) (c45:PySem.W.codeIn K cd45 "_law_summed" = true) (k45:PySem.W.keepIn K (.ref f45) = true)
  (a46:PySem.W.nsIn K mainGlobals "_law_small" = some (some (.ref f46))) (l46:K.lookup f46 = some ⟨oc46,od46,.func (PySem.W.fnOf "_law_small" "_law_small" (au i9) (ao i9) (ae i9) .none kV46 dc46 pm46 an46 cd46 ct46),sl46⟩) (c46:PySem.W.codeIn K cd46 "_law_small" = true) (k46:PySem.W.keepIn K (.ref f46) = true)
  (a47:PySem.W.nsIn K mainGlobals "_law_minus" = some (some (.ref f47))) (l47:K.lookup f47 = some ⟨oc47,od47,.func (PySem.W.fnOf "_law_minus" "_law_minus" (au jf) (ao jf) (ae jf) .none kV47 dc47 pm47 an47 cd47 ct47),sl47⟩) (c47:PySem.W.codeIn K cd47 "_law_minus" = true) (k47:PySem.W.keepIn K (.ref f47) = true)
  (a48:PySem.W.nsIn K mainGlobals "_law_cell_at" = some (some (.ref f48))) (l48:K.lookup f48 = some ⟨oc48,od48,.func (PySem.W.fnOf "_law_cell_at" "_law_cell_at" (au fQ) (ao fQ) (ae fQ) .none kV48 dc48 pm48 an48 cd48 ct48),sl48⟩) (c48:PySem.W.codeIn K cd48 "_law_cell_at" = true) (k48:PySem.W.keepIn K (.ref f48) = true)
  (a49:PySem.W.nsIn K mainGlobals "_law_state" = some (some (.ref f49))) (l49:K.lookup f49 = some ⟨oc49,od49,.func (PySem.W.fnOf "_law_state" "_law_state" (au i3) (ao i3) (ae i3) .none kV49 dc49 pm49 an49 cd49 ct49),sl49⟩) (c49:PySem.W.codeIn K cd49 "_law_state" = true) (k49:PySem.W.keepIn K (.ref f49) = true)
  (a50:PySem.W.nsIn K mainGlobals "_law_above" = some (some (.ref f50))) (l50:K.lookup f50 = some ⟨oc50,od50,.func (PySem.W.fnOf "_law_above" "_law_above" (au iT) (ao iT) (ae iT) .none kV50 dc50 pm50 an50 cd50 ct50),sl50⟩) (c50:PySem.W.codeIn K cd50 "_law_above" = true) (k50:PySem.W.keepIn K (.ref f50) = true)
  (a51:PySem.W.nsIn K mainGlobals "_law_crowd" = some (some (.ref f51))) (l51:K.lookup f51 = some ⟨oc51,od51,.func (PySem.W.fnOf "_law_crowd" "_law_crowd" (au iQ) (ao iQ) (ae iQ) .none kV51 dc51 pm51 an51 cd51 ct51),sl51⟩) (c51:PySem.W.codeIn K cd51 "_law_crowd" = true) (k51:PySem.W.keepIn K (.ref f51) = true)
  (a52:PySem.W.nsIn K mainGlobals "_law_spot_crowd" = some (some (.ref f52))) (l52:K.lookup f52 = some ⟨oc52,od52,.func (PySem.W.fnOf "_law_spot_crowd" "_law_spot_crowd" (au dL) (ao dL) (ae dL) .none kV52 dc52 pm52 an52 cd52 ct52),sl52⟩) (c52:PySem.W.codeIn K cd52 "_law_spot_crowd" = true) (k52:PySem.W.keepIn K (.ref f52) = true)
  (a53:PySem.W.nsIn K mainGlobals "_law_crowd_sums" = some (some (.ref f53))) (l53:K.lookup f53 = some ⟨oc53,od53,.func (PySem.W.fnOf "_law_crowd_sums" "_law_crowd_sums" (au dO) (ao dO) (ae dO) .none kV53 dc53 pm53 an53 cd53 ct53),sl53⟩) (c53:PySem.W.codeIn K cd53 "_law_crowd_sums" = true) (k53:PySem.W.keepIn K (.ref f53) = true)
  (a54:PySem.W.nsIn K mainGlobals "_law_case" = some (some (.ref f54))) (l54:K.lookup f54 = some ⟨oc54,od54,.func (PySem.W.fnOf "_law_case" "_law_case" (au kT) (ao kT) (ae kT) .none kV54 dc54 pm54 an54 cd54 ct54),sl54⟩) (c54:PySem.W.codeIn K cd54 "_law_case" = true) (k54:PySem.W.keepIn K (.ref f54) = true)
  (a55:PySem.W.nsIn K mainGlobals "_law_sums" = some (some (.ref f55))) (l55:K.lookup f55 = some ⟨oc55,od55,.func (PySem.W.fnOf "_law_sums" "_law_sums" (au kU) (ao kU) (ae kU) .none kV55 dc55 pm55 an55 cd55 ct55),sl55⟩) (c55:PySem.W.codeIn K cd55 "_law_sums" = true) (k55:PySem.W.keepIn K (.ref f55) = true)
  (a56:PySem.W.nsIn K mainGlobals "_law_over" = some (some (.ref f56))) (l56:K.lookup f56 = some ⟨oc56,od56,.func (PySem.W.fnOf "_law_over" "_law_over" (au lC) (ao lC) (ae lC) .none kV56 dc56 pm56 an56 cd56 ct56),sl56⟩) (c56:PySem.W.codeIn K cd56 "_law_over" = true) (k56:PySem.W.keepIn K (.ref f56) = true)
  (a57:PySem.W.nsIn K mainGlobals "_law_along" = some (some (.ref f57))) (l57:K.lookup f57 = some ⟨oc57,od57,.func (PySem.W.fnOf "_law_along" "_law_along" (au iW) (ao iW) (ae iW) .none kV57 dc57 pm57 an57 cd57 ct57),sl57⟩) (c57:PySem.W.codeIn K cd57 "_law_along" = true) (k57:PySem.W.keepIn K (.ref f57) = true)
  (a58:PySem.W.nsIn K mainGlobals "_law_x" = some (some (.ref f58))) (l58:K.lookup f58 = some ⟨oc58,od58,.func (PySem.W.fnOf "_law_x" "_law_x" (au Er) (ao Er) (ae Er) .none kV58 dc58 pm58 an58 cd58 ct58),sl58⟩) (c58:PySem.W.codeIn K cd58 "_law_x" = true) (k58:PySem.W.keepIn K (.ref f58) = true)
  (a59:PySem.W.nsIn K mainGlobals "_law_steps" = some (some (.ref f59))) (l59:K.lookup f59 = some ⟨oc59,od59,.func (PySem.W.fnOf "_law_steps" "_law_steps" (au i7) (ao i7) (ae i7) .none kV59 dc59 pm59 an59 cd59 ct59),sl59⟩) (c59:PySem.W.codeIn K cd59 "_law_steps" = true) (k59:PySem.W.keepIn K (.ref f59) = true)
  (a60:PySem.W.nsIn K mainGlobals "_law_kind" = some (some (.ref f60))) (l60:K.lookup f60 = some ⟨oc60,od60,.func (PySem.W.fnOf "_law_kind" "_law_kind" (au lF) (ao lF) (ae lF) .none kV60 dc60 pm60 an60 cd60 ct60),sl60⟩) (c60:PySem.W.codeIn K cd60 "_law_kind" = true) (k60:PySem.W.keepIn K (.ref f60) = true)
  (a61:PySem.W.nsIn K mainGlobals "_law_refused" = some (some (.ref f61))) (l61:K.lookup f61 = some ⟨oc61,od61,.func (PySem.W.fnOf "_law_refused" "_law_refused" (au fR) (ao fR) (ae fR) .none kV61 dc61 pm61 an61 cd61 ct61),sl61⟩) (c61:PySem.W.codeIn K cd61 "_law_refused" = true) (k61:PySem.W.keepIn K (.ref f61) = true)
  (a62:PySem.W.nsIn K mainGlobals "_law_due" = some (some (.ref f62))) (l62:K.lookup f62 = some ⟨oc62,od62,.func (PySem.W.fnOf "_law_due" "_law_due" (au pB) (ao pB) (ae pB) .none kV62 dc62 pm62 an62 cd62 ct62),sl62⟩) (c62:PySem.W.codeIn K cd62 "_law_due" = true) (k62:PySem.W.keepIn K (.ref f62) = true)
  (a63:PySem.W.nsIn K mainGlobals "_law_own" = some (some (.ref f63))) (l63:K.lookup f63 = some ⟨oc63,od63,.func (PySem.W.fnOf "_law_own" "_law_own" (au oT) (ao oT) (ae oT) .none kV63 dc63 pm63 an63 cd63 ct63),sl63⟩) (c63:PySem.W.codeIn K cd63 "_law_own" = true) (k63:PySem.W.keepIn K (.ref f63) = true)
  (a64:PySem.W.nsIn K mainGlobals "_law_bent" = some (some (.ref f64))) (l64:K.lookup f64 = some ⟨oc64,od64,.func (PySem.W.fnOf "_law_bent" "_law_bent" (au kK) (ao kK) (ae kK) .none kV64 dc64 pm64 an64 cd64 ct64),sl64⟩) (c64:PySem.W.codeIn K cd64 "_law_bent" = true) (k64:PySem.W.keepIn K (.ref f64) = true)
  (a65:PySem.W.nsIn K mainGlobals "_law_told_right" = some (some (.ref f65))) (l65:K.lookup f65 = some ⟨oc65,od65,.func (PySem.W.fnOf "_law_told_right" "_law_told_right" (au dP) (ao dP) (ae dP) .none kV65 dc65 pm65 an65 cd65 ct65),sl65⟩) (c65:PySem.W.codeIn K cd65 "_law_told_right" = true) (k65:PySem.W.keepIn K (.ref f65) = true)
  (a66:PySem.W.nsIn K mainGlobals "law" = some (some (.ref f66))) (l66:K.lookup f66 = some ⟨oc66,od66,.func (PySem.W.fnOf "law" "law" (au gz) (ao gz) (ae gz) .none kV66 dc66 pm66 an66 cd66 ct66),sl66⟩) (c66:PySem.W.codeIn K cd66 "law" = true) (k66:PySem.W.keepIn K (.ref f66) = true)
  {ga0 ga1:Addr} {go0 go1:Obj}
  (u0:PySem.W.nsIn K mainGlobals "ZERO" = some (some (.ref ga0))) (v0:K.lookup ga0 = some go0) (w0:sZ go0 = some (.tup [V.int (0),V.int (1)]))
  (u1:PySem.W.nsIn K mainGlobals "ONE" = some (some (.ref ga1))) (v1:K.lookup ga1 = some go1) (w1:sZ go1 = some (.tup [V.int (1),V.int (1)]))
  (z0:PySem.W.nsIn K mainGlobals "isinstance" = some none)
  (z1:PySem.W.nsIn K mainGlobals "bool" = some none)
  (z2:PySem.W.nsIn K mainGlobals "int" = some none)
  (z3:PySem.W.nsIn K mainGlobals "abs" = some none)
  (z4:PySem.W.nsIn K mainGlobals "len" = some none)
  (z5:PySem.W.nsIn K mainGlobals "enumerate" = some none)
  (z6:PySem.W.nsIn K mainGlobals "reversed" = some none)
  (z7:PySem.W.nsIn K mainGlobals "tuple" = some none)
  (z8:PySem.W.nsIn K mainGlobals "list" = some none)
  (z9:PySem.W.nsIn K mainGlobals "range" = some none)
  (z10:PySem.W.nsIn K mainGlobals "max" = some none)
  (z11:PySem.W.nsIn K mainGlobals "sum" = some none)
  (z12:PySem.W.nsIn K mainGlobals "zip" = some none)
  (z13:PySem.W.nsIn K mainGlobals "ValueError" = some none)
  (z14:PySem.W.nsIn K mainGlobals "min" = some none)
  {e0 e1 e2 e3 e4 e5 e6 e7 e8 em:Addr}
  (n0:PySem.W.nsIn K mainGlobals "NoFraction" = some (some (.ref e0)))
  (n1:PySem.W.nsIn K mainGlobals "NoPolynomial" = some (some (.ref e1)))
  (n2:PySem.W.nsIn K mainGlobals "NoSums" = some (some (.ref e2)))
  (n3:PySem.W.nsIn K mainGlobals "NoFlock" = some (some (.ref e3)))
  (n4:PySem.W.nsIn K mainGlobals "NoWalk" = some (some (.ref e4)))
  (n5:PySem.W.nsIn K mainGlobals "NoSum" = some (some (.ref e5)))
  (n6:PySem.W.nsIn K mainGlobals "NoDeed" = some (some (.ref e6)))
  (n7:PySem.W.nsIn K mainGlobals "NoText" = some (some (.ref e7)))
  (n8:PySem.W.nsIn K mainGlobals "NoRow" = some (some (.ref e8)))
  (nm:PySem.W.nsIn K mainGlobals "MomentError" = some (some (.ref em))) (xo:rA K e2)
  (q0:PySem.W.kitOne K (.ref e2) (.ref e0) = some false)
  (q1:PySem.W.kitOne K (.ref e2) (.ref e1) = some false)
  (q2:PySem.W.kitOne K (.ref e2) (.ref e2) = some true)
  (q3:PySem.W.kitOne K (.ref e2) (.ref e3) = some false)
  (q4:PySem.W.kitOne K (.ref e2) (.ref e4) = some false)
  (q5:PySem.W.kitOne K (.ref e2) (.ref e5) = some false)
  (q6:PySem.W.kitOne K (.ref e2) (.ref e6) = some false)
  (q7:PySem.W.kitOne K (.ref e2) (.ref e7) = some false)
  (q8:PySem.W.kitOne K (.ref e2) (.ref e8) = some false)
  (qm:PySem.W.exmOne K (.ref e2) (.ref em) = some true) (qv:PySem.W.kitOne K (.ref e2) (.type "ValueError") = some true)
  (y1:PySem.W.findIn K (.ref e2) "__getattribute__" = some (some (.builtin "BaseException.__getattribute__"))) (y2:PySem.W.findIn K (.ref e2) "__getattr__" = some none) (y3:PySem.W.findIn K (.ref e2) "__class__" = some (some (.builtin "object.__class__")))
  (y4:PySem.W.mroIn K e2 (.type "object") = some true) (y5:PySem.W.mroIn K e2 (.type "BaseException") = some true) (y6:(PySem.W.clsIn K e2).isSome = true)
  (m66:cd66 = .ref 583) (o66:PySem.W.codeHdIn K 583 579 = true)
  : ∃ fd:FuncData,(∀ (s:Shared) (v:Value),BindsTo s fd ⟨[v],[]⟩ [("_law_script",v)]) /\ ∀ base:Heap,K.In base -> base.Ns mainGlobals mg -> td mg base -> base.NoSeer -> aV l.prog w K mg base cV 10 fa fd ["_law_script"] (spLaw K):=by
 have e:=hfa.symm.trans (PySem.W.mg_of X G a66)
 cases e
 have T:dH K mg:=⟨trivial,GT.mk (PySem.W.mg_of X G u0) v0 w0,GT.mk (PySem.W.mg_of X G u1) v1 w1,PySem.W.mg_none_of X G z0,PySem.W.mg_none_of X G z1,PySem.W.mg_none_of X G z2,PySem.W.mg_none_of X G z3,PySem.W.mg_none_of X G z4,PySem.W.mg_none_of X G z5,PySem.W.mg_none_of X G z6,PySem.W.mg_none_of X G z7,PySem.W.mg_none_of X G z8,PySem.W.mg_none_of X G z9,PySem.W.mg_none_of X G z10,PySem.W.mg_none_of X G z11,PySem.W.mg_none_of X G z12,PySem.W.mg_none_of X G z13,PySem.W.mg_none_of X G z14⟩
 have Z_:vP K mg e2 2:=by
  refine ⟨⟨y1,y2,y3,y4,y5,y6⟩,fun j n hn=>?_,⟨em,PySem.W.mg_of X G nm,qm⟩,qv⟩
  rcases j with _ | _ | _ | _ | _ | _ | _ | _ | _ | j
  ·cases hn; exact ⟨e0,PySem.W.mg_of X G n0,q0⟩
  ·cases hn; exact ⟨e1,PySem.W.mg_of X G n1,q1⟩
  ·cases hn; exact ⟨e2,PySem.W.mg_of X G n2,q2⟩
  ·cases hn; exact ⟨e3,PySem.W.mg_of X G n3,q3⟩
  ·cases hn; exact ⟨e4,PySem.W.mg_of X G n4,q4⟩
  ·cases hn; exact ⟨e5,PySem.W.mg_of X G n5,q5⟩
  ·cases hn; exact ⟨e6,PySem.W.mg_of X G n6,q6⟩
  ·cases hn; exact ⟨e7,PySem.W.mg_of X G n7,q7⟩
  ·cases hn; exact ⟨e8,PySem.W.mg_of X G n8,q8⟩
  ·cases hn
 refine ⟨PySem.W.fnOf "law" "law" (au gz) (ao gz) (ae gz) .none kV66 dc66 pm66 an66 cd66 ct66,fun s v=>.of_eq rfl,fun base kb nb hB hSe=>?_⟩
 have N_:vX l.prog base:=⟨hSe,hst⟩
 have F_is_whole:=aE (st:=fb) l0 c0 k0
 have C_is_whole:aP l.prog w K mg base "is_whole" ["thing"] 1 (gq K):=⟨_,_,rJ F_is_whole T ,PySem.W.mg_of X G a0,k0,(F_is_whole.binds fun _ _ _ _ _ _ us hl=>cu (g:=fun us=>bindArgs _ ⟨us,[]⟩) (z:=fun us=>pure (List.zip _ us)) us hl fun _=>rfl)⟩
 have F_greatest_divisor:=aE (st:=cb) l1 c1 k1
 have C_greatest_divisor:aP l.prog w K mg base "greatest_divisor" ["one", "other"] 1 (aZ K):=⟨_,_,jp F_greatest_divisor T ,PySem.W.mg_of X G a1,k1,(F_greatest_divisor.binds fun _ _ _ _ _ _ us hl=>bF (g:=fun us=>bindArgs _ ⟨us,[]⟩) (z:=fun us=>pure (List.zip _ us)) us hl fun _ _=>rfl)⟩
 have F_trimmed:=aE (st:=fP) l2 c2 k2
 have C_trimmed:aP l.prog w K mg base "trimmed" ["numbers", "zero"] 1 (dG K):=⟨_,_,tV F_trimmed T ,PySem.W.mg_of X G a2,k2,(F_trimmed.binds fun _ _ _ _ _ _ us hl=>bF (g:=fun us=>bindArgs _ ⟨us,[]⟩) (z:=fun us=>pure (List.zip _ us)) us hl fun _ _=>rfl)⟩
 have F_wholes_multiplied:=aE (st:=bS) l3 c3 k3
 have C_wholes_multiplied:aP l.prog w K mg base "wholes_multiplied" ["one", "other"] 1 (cA K):=⟨_,_,ix F_wholes_multiplied T ,PySem.W.mg_of X G a3,k3,(F_wholes_multiplied.binds fun _ _ _ _ _ _ us hl=>bF (g:=fun us=>bindArgs _ ⟨us,[]⟩) (z:=fun us=>pure (List.zip _ us)) us hl fun _ _=>rfl)⟩
 have F_wholes_at:=aE (st:=eH) l4 c4 k4
 have C_wholes_at:aP l.prog w K mg base "wholes_at" ["wholes", "top", "bottom"] 1 (fO K):=⟨_,_,qy F_wholes_at T ,PySem.W.mg_of X G a4,k4,(F_wholes_at.binds fun _ _ _ _ _ _ us hl=>g9 (g:=fun us=>bindArgs _ ⟨us,[]⟩) (z:=fun us=>pure (List.zip _ us)) us hl fun _ _ _=>rfl)⟩
 have F_is_fraction:=aE (st:=dq) l5 c5 k5
 have C_is_fraction:aP l.prog w K mg base "is_fraction" ["thing"] 2 (cn K):=⟨_,_,nr F_is_fraction T (C_greatest_divisor:=C_greatest_divisor) (C_is_whole:=C_is_whole),PySem.W.mg_of X G a5,k5,(F_is_fraction.binds fun _ _ _ _ _ _ us hl=>cu (g:=fun us=>bindArgs _ ⟨us,[]⟩) (z:=fun us=>pure (List.zip _ us)) us hl fun _=>rfl)⟩
 have F_ratio:=aE (st:=iP) l6 c6 k6
 have C_ratio:aP l.prog w K mg base "ratio" ["top", "bottom"] 2 (cq K):=⟨_,_,ye F_ratio T (N_:=N_) (C_greatest_divisor:=C_greatest_divisor),PySem.W.mg_of X G a6,k6,(F_ratio.binds fun _ _ _ _ _ _ us hl=>bF (g:=fun us=>bindArgs _ ⟨us,[]⟩) (z:=fun us=>pure (List.zip _ us)) us hl fun _ _=>rfl)⟩
 have F_plus:=aE (st:=kO) l7 c7 k7
 have C_plus:aP l.prog w K mg base "plus" ["one", "other"] 3 (mL K):=⟨_,_,Bl F_plus T (C_ratio:=C_ratio),PySem.W.mg_of X G a7,k7,(F_plus.binds fun _ _ _ _ _ _ us hl=>bF (g:=fun us=>bindArgs _ ⟨us,[]⟩) (z:=fun us=>pure (List.zip _ us)) us hl fun _ _=>rfl)⟩
 have F_times:=aE (st:=iM) l8 c8 k8
 have C_times:aP l.prog w K mg base "times" ["one", "other"] 3 (kz K):=⟨_,_,xR F_times T (C_ratio:=C_ratio),PySem.W.mg_of X G a8,k8,(F_times.binds fun _ _ _ _ _ _ us hl=>bF (g:=fun us=>bindArgs _ ⟨us,[]⟩) (z:=fun us=>pure (List.zip _ us)) us hl fun _ _=>rfl)⟩
 have F_over:=aE (st:=lD) l9 c9 k9
 have C_over:aP l.prog w K mg base "over" ["one", "other"] 3 (iR K):=⟨_,_,BB F_over T (C_ratio:=C_ratio),PySem.W.mg_of X G a9,k9,(F_over.binds fun _ _ _ _ _ _ us hl=>bF (g:=fun us=>bindArgs _ ⟨us,[]⟩) (z:=fun us=>pure (List.zip _ us)) us hl fun _ _=>rfl)⟩
 have F_is_polynomial:=aE (st:=cw) l10 c10 k10
 have C_is_polynomial:aP l.prog w K mg base "is_polynomial" ["thing"] 3 (cO K):=⟨_,_,lh F_is_polynomial T (C_is_fraction:=C_is_fraction),PySem.W.mg_of X G a10,k10,(F_is_polynomial.binds fun _ _ _ _ _ _ us hl=>cu (g:=fun us=>bindArgs _ ⟨us,[]⟩) (z:=fun us=>pure (List.zip _ us)) us hl fun _=>rfl)⟩
 have F_number_of:=aE (st:=eF) l11 c11 k11
 have C_number_of:aP l.prog w K mg base "number_of" ["f", "place"] 1 (fK K):=⟨_,_,qM F_number_of T ,PySem.W.mg_of X G a11,k11,(F_number_of.binds fun _ _ _ _ _ _ us hl=>bF (g:=fun us=>bindArgs _ ⟨us,[]⟩) (z:=fun us=>pure (List.zip _ us)) us hl fun _ _=>rfl)⟩
 have F_summed:=aE (st:=gJ) l12 c12 k12
 have C_summed:aP l.prog w K mg base "summed" ["f", "g"] 4 (iZ K):=⟨_,_,vV F_summed T (C_trimmed:=C_trimmed) (C_plus:=C_plus) (C_number_of:=C_number_of),PySem.W.mg_of X G a12,k12,(F_summed.binds fun _ _ _ _ _ _ us hl=>bF (g:=fun us=>bindArgs _ ⟨us,[]⟩) (z:=fun us=>pure (List.zip _ us)) us hl fun _ _=>rfl)⟩
 have F_cleared:=aE (st:=fS) l13 c13 k13
 have C_cleared:aP l.prog w K mg base "cleared" ["f"] 2 (cg K):=⟨_,_,sT F_cleared T (N_:=N_) (C_greatest_divisor:=C_greatest_divisor),PySem.W.mg_of X G a13,k13,(F_cleared.binds fun _ _ _ _ _ _ us hl=>cu (g:=fun us=>bindArgs _ ⟨us,[]⟩) (z:=fun us=>pure (List.zip _ us)) us hl fun _=>rfl)⟩
 have F_divided:=aE (st:=fW) l14 c14 k14
 have C_divided:aP l.prog w K mg base "divided" ["wholes", "bottom"] 3 (eA K):=⟨_,_,tJ F_divided T (C_trimmed:=C_trimmed) (C_ratio:=C_ratio),PySem.W.mg_of X G a14,k14,(F_divided.binds fun _ _ _ _ _ _ us hl=>bF (g:=fun us=>bindArgs _ ⟨us,[]⟩) (z:=fun us=>pure (List.zip _ us)) us hl fun _ _=>rfl)⟩
 have F_multiplied:=aE (st:=dQ) l15 c15 k15
 have C_multiplied:aP l.prog w K mg base "multiplied" ["f", "g"] 4 (ff K):=⟨_,_,ox F_multiplied T (C_divided:=C_divided) (C_wholes_multiplied:=C_wholes_multiplied) (C_cleared:=C_cleared),PySem.W.mg_of X G a15,k15,(F_multiplied.binds fun _ _ _ _ _ _ us hl=>bF (g:=fun us=>bindArgs _ ⟨us,[]⟩) (z:=fun us=>pure (List.zip _ us)) us hl fun _ _=>rfl)⟩
 have F_grown:=aE (st:=i0) l16 c16 k16
 have C_grown:aP l.prog w K mg base "grown" ["f", "by"] 4 (gR K):=⟨_,_,xQ F_grown T (C_trimmed:=C_trimmed) (C_times:=C_times),PySem.W.mg_of X G a16,k16,(F_grown.binds fun _ _ _ _ _ _ us hl=>bF (g:=fun us=>bindArgs _ ⟨us,[]⟩) (z:=fun us=>pure (List.zip _ us)) us hl fun _ _=>rfl)⟩
 have F_number_at:=aE (st:=eD) l17 c17 k17
 have C_number_at:aP l.prog w K mg base "number_at" ["f", "x"] 3 (cj K):=⟨_,_,ql F_number_at T (C_ratio:=C_ratio) (C_wholes_at:=C_wholes_at) (C_cleared:=C_cleared),PySem.W.mg_of X G a17,k17,(F_number_at.binds fun _ _ _ _ _ _ us hl=>bF (g:=fun us=>bindArgs _ ⟨us,[]⟩) (z:=fun us=>pure (List.zip _ us)) us hl fun _ _=>rfl)⟩
 have F_worth:=aE (st:=iY) l18 c18 k18
 have C_worth:aP l.prog w K mg base "worth" ["sums", "f"] 3 (gQ K):=⟨_,_,yQ F_worth T (C_ratio:=C_ratio) (C_cleared:=C_cleared),PySem.W.mg_of X G a18,k18,(F_worth.binds fun _ _ _ _ _ _ us hl=>bF (g:=fun us=>bindArgs _ ⟨us,[]⟩) (z:=fun us=>pure (List.zip _ us)) us hl fun _ _=>rfl)⟩
 have F_square_sum:=aE (st:=dX) l19 c19 k19
 have C_square_sum:aP l.prog w K mg base "square_sum" ["sums", "f", "g"] 5 (d9 K):=⟨_,_,ot F_square_sum T (C_worth:=C_worth) (C_multiplied:=C_multiplied),PySem.W.mg_of X G a19,k19,(F_square_sum.binds fun _ _ _ _ _ _ us hl=>g9 (g:=fun us=>bindArgs _ ⟨us,[]⟩) (z:=fun us=>pure (List.zip _ us)) us hl fun _ _ _=>rfl)⟩
 have F_met:=aE (st:=oW) l20 c20 k20
 have C_met:aP l.prog w K mg base "met" ["wholes", "row", "k"] 1 (mQ K):=⟨_,_,Cu F_met T ,PySem.W.mg_of X G a20,k20,(F_met.binds fun _ _ _ _ _ _ us hl=>g9 (g:=fun us=>bindArgs _ ⟨us,[]⟩) (z:=fun us=>pure (List.zip _ us)) us hl fun _ _ _=>rfl)⟩
 have F_next_row:=aE (st:=eV) l21 c21 k21
 have C_next_row:aP l.prog w K mg base "next_row" ["wholes", "row", "before"] 2 (iz K):=⟨_,_,sf F_next_row T (C_met:=C_met),PySem.W.mg_of X G a21,k21,(F_next_row.binds fun _ _ _ _ _ _ us hl=>g9 (g:=fun us=>bindArgs _ ⟨us,[]⟩) (z:=fun us=>pure (List.zip _ us)) us hl fun _ _ _=>rfl)⟩
 have F_step_rows:=aE (st:=eL) l22 c22 k22
 have C_step_rows:aP l.prog w K mg base "step_rows" ["wholes"] 3 (eQ K):=⟨_,_,qG F_step_rows T (C_met:=C_met) (C_next_row:=C_next_row),PySem.W.mg_of X G a22,k22,(F_step_rows.binds fun _ _ _ _ _ _ us hl=>cu (g:=fun us=>bindArgs _ ⟨us,[]⟩) (z:=fun us=>pure (List.zip _ us)) us hl fun _=>rfl)⟩
 have F_steps:=aE (st:=je) l23 c23 k23
 have C_steps:aP l.prog w K mg base "steps" ["sums"] 4 (gM K):=⟨_,_,yL F_steps T (C_step_rows:=C_step_rows) (C_ratio:=C_ratio) (C_met:=C_met) (C_divided:=C_divided) (C_cleared:=C_cleared),PySem.W.mg_of X G a23,k23,(F_steps.binds fun _ _ _ _ _ _ us hl=>cu (g:=fun us=>bindArgs _ ⟨us,[]⟩) (z:=fun us=>pure (List.zip _ us)) us hl fun _=>rfl)⟩
 have F_furthest_step:=aE (st:=cy) l24 c24 k24
 have C_furthest_step:aP l.prog w K mg base "furthest_step" ["sums"] 4 (dJ K):=⟨_,_,lO F_furthest_step T (C_divided:=C_divided) (C_step_rows:=C_step_rows) (C_cleared:=C_cleared),PySem.W.mg_of X G a24,k24,(F_furthest_step.binds fun _ _ _ _ _ _ us hl=>cu (g:=fun us=>bindArgs _ ⟨us,[]⟩) (z:=fun us=>pure (List.zip _ us)) us hl fun _=>rfl)⟩
 have F_fits:=aE (st:=lN) l25 c25 k25
 have C_fits:aP l.prog w K mg base "fits" ["sums", "f", "g"] 1 (kA K):=⟨_,_,A7 F_fits T ,PySem.W.mg_of X G a25,k25,(F_fits.binds fun _ _ _ _ _ _ us hl=>g9 (g:=fun us=>bindArgs _ ⟨us,[]⟩) (z:=fun us=>pure (List.zip _ us)) us hl fun _ _ _=>rfl)⟩
 have F_nought_bar:=aE (st:=dU) l26 c26 k26
 have C_nought_bar:aP l.prog w K mg base "nought_bar" ["sums", "step"] 4 (fg K):=⟨_,_,oF F_nought_bar T (C_worth:=C_worth),PySem.W.mg_of X G a26,k26,(F_nought_bar.binds fun _ _ _ _ _ _ us hl=>bF (g:=fun us=>bindArgs _ ⟨us,[]⟩) (z:=fun us=>pure (List.zip _ us)) us hl fun _ _=>rfl)⟩
 have F_outlook:=aE (st:=fX) l27 c27 k27
 have C_outlook:aP l.prog w K mg base "outlook" ["sums"] 5 (fY K):=⟨_,_,tD F_outlook T (C_furthest_step:=C_furthest_step) (C_nought_bar:=C_nought_bar) (C_steps:=C_steps),PySem.W.mg_of X G a27,k27,(F_outlook.binds fun _ _ _ _ _ _ us hl=>cu (g:=fun us=>bindArgs _ ⟨us,[]⟩) (z:=fun us=>pure (List.zip _ us)) us hl fun _=>rfl)⟩
 have F_is_bar:=aE (st:=gH) l28 c28 k28
 have C_is_bar:aP l.prog w K mg base "is_bar" ["told"] 1 (gC K):=⟨_,_,wB F_is_bar T ,PySem.W.mg_of X G a28,k28,(F_is_bar.binds fun _ _ _ _ _ _ us hl=>cu (g:=fun us=>bindArgs _ ⟨us,[]⟩) (z:=fun us=>pure (List.zip _ us)) us hl fun _=>rfl)⟩
 have F_had:=aE (st:=m7) l29 c29 k29
 have C_had:aP l.prog w K mg base "had" ["sums"] 6 (jC K):=⟨_,_,Ds F_had T (C_is_bar:=C_is_bar) (C_outlook:=C_outlook),PySem.W.mg_of X G a29,k29,(F_had.binds fun _ _ _ _ _ _ us hl=>cu (g:=fun us=>bindArgs _ ⟨us,[]⟩) (z:=fun us=>pure (List.zip _ us)) us hl fun _=>rfl)⟩
 have CX_had:xy l.prog w K mg base "had" ["sums"] 6 (qP e2 K):=⟨_,_,An F_had T xo (PySem.W.mg_of X G n2) (C_is_bar:=C_is_bar) (C_outlook:=C_outlook),PySem.W.mg_of X G a29,k29,(F_had.binds fun _ _ _ _ _ _ us hl=>cu (g:=fun us=>bindArgs _ ⟨us,[]⟩) (z:=fun us=>pure (List.zip _ us)) us hl fun _=>rfl)⟩
 have F_least_square:=aE (st:=cS) l30 c30 k30
 have C_least_square:aP l.prog w K mg base "least_square" ["sums", "spot"] 7 (ei K):=⟨_,_,mj F_least_square T (C_grown:=C_grown) (C_over:=C_over) (C_number_at:=C_number_at) (C_summed:=C_summed) (C_steps:=C_steps) (C_had:=C_had),PySem.W.mg_of X G a30,k30,(F_least_square.binds fun _ _ _ _ _ _ us hl=>bF (g:=fun us=>bindArgs _ ⟨us,[]⟩) (z:=fun us=>pure (List.zip _ us)) us hl fun _ _=>rfl)⟩
 have F_shows_most:=aE (st:=db) l31 c31 k31
 have C_shows_most:aP l.prog w K mg base "shows_most" ["sums", "spot", "number", "f"] 7 (dj K):=⟨_,_,oB F_shows_most T (C_square_sum:=C_square_sum) (C_number_at:=C_number_at) (C_fits:=C_fits) (C_is_polynomial:=C_is_polynomial) (C_is_fraction:=C_is_fraction) (C_had:=C_had),PySem.W.mg_of X G a31,k31,(F_shows_most.binds fun _ _ _ _ _ _ us hl=>m8 (g:=fun us=>bindArgs _ ⟨us,[]⟩) (z:=fun us=>pure (List.zip _ us)) us hl fun _ _ _ _=>rfl)⟩
 have CX_shows_most:xy l.prog w K mg base "shows_most" ["sums", "spot", "number", "f"] 7 (eU e2 K):=⟨_,_,nY F_shows_most T xo (PySem.W.mg_of X G n2) (C_square_sum:=C_square_sum) (C_number_at:=C_number_at) (C_fits:=C_fits) (C_is_polynomial:=C_is_polynomial) (C_is_fraction:=C_is_fraction) (C_had:=C_had) (CX_had:=CX_had),PySem.W.mg_of X G a31,k31,(F_shows_most.binds fun _ _ _ _ _ _ us hl=>m8 (g:=fun us=>bindArgs _ ⟨us,[]⟩) (z:=fun us=>pure (List.zip _ us)) us hl fun _ _ _ _=>rfl)⟩
 have zFwhole:=aE (st:=iS) l32 c32 k32
 have zCwhole:aP l.prog w K mg base "_law_whole" ["_law_thing"] 1 (mz K):=⟨_,_,Bd zFwhole T ,PySem.W.mg_of X G a32,k32,(zFwhole.binds fun _ _ _ _ _ _ us hl=>cu (g:=fun us=>bindArgs _ ⟨us,[]⟩) (z:=fun us=>pure (List.zip _ us)) us hl fun _=>rfl)⟩
 have zFdivisor:=aE (st:=fT) l33 c33 k33
 have zCdivisor:aP l.prog w K mg base "_law_divisor" ["_law_one", "_law_other"] 1 (fV K):=⟨_,_,vK zFdivisor T ,PySem.W.mg_of X G a33,k33,(zFdivisor.binds fun _ _ _ _ _ _ us hl=>bF (g:=fun us=>bindArgs _ ⟨us,[]⟩) (z:=fun us=>pure (List.zip _ us)) us hl fun _ _=>rfl)⟩
 have zFis_fraction:=aE (st:=dm) l34 c34 k34
 have zCis_fraction:aP l.prog w K mg base "_law_is_fraction" ["_law_thing"] 2 (dr K):=⟨_,_,oA zFis_fraction T (zCdivisor:=zCdivisor) (zCwhole:=zCwhole),PySem.W.mg_of X G a34,k34,(zFis_fraction.binds fun _ _ _ _ _ _ us hl=>cu (g:=fun us=>bindArgs _ ⟨us,[]⟩) (z:=fun us=>pure (List.zip _ us)) us hl fun _=>rfl)⟩
 have zFis_polynomial:=aE (st:=cx) l35 c35 k35
 have zCis_polynomial:aP l.prog w K mg base "_law_is_polynomial" ["_law_thing"] 3 (ee K):=⟨_,_,mh zFis_polynomial T (zCis_fraction:=zCis_fraction),PySem.W.mg_of X G a35,k35,(zFis_polynomial.binds fun _ _ _ _ _ _ us hl=>cu (g:=fun us=>bindArgs _ ⟨us,[]⟩) (z:=fun us=>pure (List.zip _ us)) us hl fun _=>rfl)⟩
 have zFlow:=aE (st:=pF) l36 c36 k36
 have zClow:aP l.prog w K mg base "_law_low" ["_law_top", "_law_bottom"] 2 (gp K):=⟨_,_,E7 zFlow T (N_:=N_) (zCdivisor:=zCdivisor),PySem.W.mg_of X G a36,k36,(zFlow.binds fun _ _ _ _ _ _ us hl=>bF (g:=fun us=>bindArgs _ ⟨us,[]⟩) (z:=fun us=>pure (List.zip _ us)) us hl fun _ _=>rfl)⟩
 have zFplus:=aE (st:=kX) l37 c37 k37
 have zCplus:aP l.prog w K mg base "_law_plus" ["_law_one", "_law_other"] 3 (dw K):=⟨_,_,C6 zFplus T (zClow:=zClow),PySem.W.mg_of X G a37,k37,(zFplus.binds fun _ _ _ _ _ _ us hl=>bF (g:=fun us=>bindArgs _ ⟨us,[]⟩) (z:=fun us=>pure (List.zip _ us)) us hl fun _ _=>rfl)⟩
 have zFtimes:=aE (st:=ji) l38 c38 k38
 have zCtimes:aP l.prog w K mg base "_law_times" ["_law_one", "_law_other"] 3 (el K):=⟨_,_,zE zFtimes T (zClow:=zClow),PySem.W.mg_of X G a38,k38,(zFtimes.binds fun _ _ _ _ _ _ us hl=>bF (g:=fun us=>bindArgs _ ⟨us,[]⟩) (z:=fun us=>pure (List.zip _ us)) us hl fun _ _=>rfl)⟩
 have zFnumber_at:=aE (st:=eE) l39 c39 k39
 have zCnumber_at:aP l.prog w K mg base "_law_number_at" ["_law_f", "_law_x_here"] 4 (eC K):=⟨_,_,sy zFnumber_at T (zCplus:=zCplus) (zCtimes:=zCtimes),PySem.W.mg_of X G a39,k39,(zFnumber_at.binds fun _ _ _ _ _ _ us hl=>bF (g:=fun us=>bindArgs _ ⟨us,[]⟩) (z:=fun us=>pure (List.zip _ us)) us hl fun _ _=>rfl)⟩
 have zFworth:=aE (st:=i5) l40 c40 k40
 have zCworth:aP l.prog w K mg base "_law_worth" ["_law_sums_here", "_law_f"] 4 (jn K):=⟨_,_,Bz zFworth T (zCplus:=zCplus) (zCtimes:=zCtimes),PySem.W.mg_of X G a40,k40,(zFworth.binds fun _ _ _ _ _ _ us hl=>bF (g:=fun us=>bindArgs _ ⟨us,[]⟩) (z:=fun us=>pure (List.zip _ us)) us hl fun _ _=>rfl)⟩
 have zFclean:=aE (st:=jd) l41 c41 k41
 have zCclean:aP l.prog w K mg base "_law_clean" ["_law_numbers"] 1 (i8 K):=⟨_,_,Au zFclean T ,PySem.W.mg_of X G a41,k41,(zFclean.binds fun _ _ _ _ _ _ us hl=>cu (g:=fun us=>bindArgs _ ⟨us,[]⟩) (z:=fun us=>pure (List.zip _ us)) us hl fun _=>rfl)⟩
 have zFmultiplied:=aE (st:=dN) l42 c42 k42
 have zCmultiplied:aP l.prog w K mg base "_law_multiplied" ["_law_f", "_law_g"] 4 (d4 K):=⟨_,_,qZ zFmultiplied T (zCclean:=zCclean) (zCplus:=zCplus) (zCtimes:=zCtimes),PySem.W.mg_of X G a42,k42,(zFmultiplied.binds fun _ _ _ _ _ _ us hl=>bF (g:=fun us=>bindArgs _ ⟨us,[]⟩) (z:=fun us=>pure (List.zip _ us)) us hl fun _ _=>rfl)⟩
 have zFsquare:=aE (st:=gI) l43 c43 k43
 have zCsquare:aP l.prog w K mg base "_law_square" ["_law_sums_here", "_law_f", "_law_g"] 5 (dE K):=⟨_,_,zn zFsquare T (zCworth:=zCworth) (zCmultiplied:=zCmultiplied),PySem.W.mg_of X G a43,k43,(zFsquare.binds fun _ _ _ _ _ _ us hl=>g9 (g:=fun us=>bindArgs _ ⟨us,[]⟩) (z:=fun us=>pure (List.zip _ us)) us hl fun _ _ _=>rfl)⟩
 have zFtake:=aE (st:=lE) l44 c44 k44
 have zCtake:aP l.prog w K mg base "_law_take" ["_law_state_here", "_law_many"] 1 (dD K):=⟨_,_,D7 zFtake T ,PySem.W.mg_of X G a44,k44,(zFtake.binds fun _ _ _ _ _ _ us hl=>bF (g:=fun us=>bindArgs _ ⟨us,[]⟩) (z:=fun us=>pure (List.zip _ us)) us hl fun _ _=>rfl)⟩
 have zFsummed:=aE (st:=gF) l45 c45 k45
 have zCsummed:aP l.prog w K mg base "_law_summed" ["_law_f", "_law_g", "_law_by"] 4 (d8 K):=⟨_,_,zb zFsummed T (zCclean:=zCclean) (zCplus:=zCplus) (zCtimes:=zCtimes),PySem.W.mg_of X G a45,k45,(zFsummed.binds fun _ _ _ _ _ _ us hl=>g9 (g:=fun us=>bindArgs _ ⟨us,[]⟩) (z:=fun us=>pure (List.zip _ us)) us hl fun _ _ _=>rfl)⟩
 have zFsmall:=aE (st:=i9) l46 c46 k46
 have zCsmall:aP l.prog w K mg base "_law_small" ["_law_state_here"] 3 (dA K):=⟨_,_,zJ zFsmall T (zClow:=zClow) (zCtake:=zCtake),PySem.W.mg_of X G a46,k46,(zFsmall.binds fun _ _ _ _ _ _ us hl=>cu (g:=fun us=>bindArgs _ ⟨us,[]⟩) (z:=fun us=>pure (List.zip _ us)) us hl fun _=>rfl)⟩
 have zFminus:=aE (st:=jf) l47 c47 k47
 have zCminus:aP l.prog w K mg base "_law_minus" ["_law_one", "_law_other"] 3 (mt K):=⟨_,_,A8 zFminus T (zClow:=zClow),PySem.W.mg_of X G a47,k47,(zFminus.binds fun _ _ _ _ _ _ us hl=>bF (g:=fun us=>bindArgs _ ⟨us,[]⟩) (z:=fun us=>pure (List.zip _ us)) us hl fun _ _=>rfl)⟩
 have zFcell_at:=aE (st:=fQ) l48 c48 k48
 have zCcell_at:aP l.prog w K mg base "_law_cell_at" ["_law_script", "_law_k"] 1 (iV K):=⟨_,_,wE zFcell_at T ,PySem.W.mg_of X G a48,k48,(zFcell_at.binds fun _ _ _ _ _ _ us hl=>bF (g:=fun us=>bindArgs _ ⟨us,[]⟩) (z:=fun us=>pure (List.zip _ us)) us hl fun _ _=>rfl)⟩
 have zFstate:=aE (st:=i3) l49 c49 k49
 have zCstate:aP l.prog w K mg base "_law_state" ["_law_script", "_law_k"] 2 (mx K):=⟨_,_,As zFstate T (zCcell_at:=zCcell_at),PySem.W.mg_of X G a49,k49,(zFstate.binds fun _ _ _ _ _ _ us hl=>bF (g:=fun us=>bindArgs _ ⟨us,[]⟩) (z:=fun us=>pure (List.zip _ us)) us hl fun _ _=>rfl)⟩
 have zFabove:=aE (st:=iT) l50 c50 k50
 have zCabove:aP l.prog w K mg base "_law_above" ["_law_state_here"] 3 (jg K):=⟨_,_,A2 zFabove T (zClow:=zClow) (zCtake:=zCtake),PySem.W.mg_of X G a50,k50,(zFabove.binds fun _ _ _ _ _ _ us hl=>cu (g:=fun us=>bindArgs _ ⟨us,[]⟩) (z:=fun us=>pure (List.zip _ us)) us hl fun _=>rfl)⟩
 have zFcrowd:=aE (st:=iQ) l51 c51 k51
 have zCcrowd:aP l.prog w K mg base "_law_crowd" ["_law_state_here", "_law_most"] 4 (ja K):=⟨_,_,Av zFcrowd T (zCtake:=zCtake) (zCplus:=zCplus) (zCabove:=zCabove) (zCsmall:=zCsmall),PySem.W.mg_of X G a51,k51,(zFcrowd.binds fun _ _ _ _ _ _ us hl=>bF (g:=fun us=>bindArgs _ ⟨us,[]⟩) (z:=fun us=>pure (List.zip _ us)) us hl fun _ _=>rfl)⟩
 have zFspot_crowd:=aE (st:=dL) l52 c52 k52
 have zCspot_crowd:aP l.prog w K mg base "_law_spot_crowd" ["_law_state_here", "_law_most"] 5 (fN K):=⟨_,_,qO zFspot_crowd T (zCabove:=zCabove) (zCsmall:=zCsmall) (zCcrowd:=zCcrowd),PySem.W.mg_of X G a52,k52,(zFspot_crowd.binds fun _ _ _ _ _ _ us hl=>bF (g:=fun us=>bindArgs _ ⟨us,[]⟩) (z:=fun us=>pure (List.zip _ us)) us hl fun _ _=>rfl)⟩
 have zFcrowd_sums:=aE (st:=dO) l53 c53 k53
 have zCcrowd_sums:aP l.prog w K mg base "_law_crowd_sums" ["_law_crowd_here", "_law_many"] 4 (dR K):=⟨_,_,pR zFcrowd_sums T (zCtimes:=zCtimes) (zCplus:=zCplus),PySem.W.mg_of X G a53,k53,(zFcrowd_sums.binds fun _ _ _ _ _ _ us hl=>bF (g:=fun us=>bindArgs _ ⟨us,[]⟩) (z:=fun us=>pure (List.zip _ us)) us hl fun _ _=>rfl)⟩
 have zFcase:=aE (st:=kT) l54 c54 k54
 have zCcase:aP l.prog w K mg base "_law_case" ["_law_state_here"] 6 (qA K):=⟨_,_,Di zFcase T (zCcrowd_sums:=zCcrowd_sums) (zCtake:=zCtake) (zCsmall:=zCsmall) (zCspot_crowd:=zCspot_crowd),PySem.W.mg_of X G a54,k54,(zFcase.binds fun _ _ _ _ _ _ us hl=>cu (g:=fun us=>bindArgs _ ⟨us,[]⟩) (z:=fun us=>pure (List.zip _ us)) us hl fun _=>rfl)⟩
 have zFsums:=aE (st:=kU) l55 c55 k55
 have zCsums:aP l.prog w K mg base "_law_sums" ["_law_state_here"] 5 (qS K):=⟨_,_,Cq zFsums T (zCplus:=zCplus) (zCsmall:=zCsmall) (zCtake:=zCtake) (zCcrowd_sums:=zCcrowd_sums) (zCcrowd:=zCcrowd),PySem.W.mg_of X G a55,k55,(zFsums.binds fun _ _ _ _ _ _ us hl=>cu (g:=fun us=>bindArgs _ ⟨us,[]⟩) (z:=fun us=>pure (List.zip _ us)) us hl fun _=>rfl)⟩
 have zFover:=aE (st:=lC) l56 c56 k56
 have zCover:aP l.prog w K mg base "_law_over" ["_law_one", "_law_other"] 3 (qu K):=⟨_,_,DJ zFover T (zClow:=zClow),PySem.W.mg_of X G a56,k56,(zFover.binds fun _ _ _ _ _ _ us hl=>bF (g:=fun us=>bindArgs _ ⟨us,[]⟩) (z:=fun us=>pure (List.zip _ us)) us hl fun _ _=>rfl)⟩
 have zFalong:=aE (st:=iW) l57 c57 k57
 have zCalong:aP l.prog w K mg base "_law_along" ["_law_sums_here", "_law_start", "_law_found"] 6 (jJ K):=⟨_,_,zC zFalong T (zCsummed:=zCsummed) (zCover:=zCover) (zCsquare:=zCsquare),PySem.W.mg_of X G a57,k57,(zFalong.binds fun _ _ _ _ _ _ us hl=>g9 (g:=fun us=>bindArgs _ ⟨us,[]⟩) (z:=fun us=>pure (List.zip _ us)) us hl fun _ _ _=>rfl)⟩
 have zFx:=aE (st:=Er) l58 c58 k58
 have zCx:aP l.prog w K mg base "_law_x" ["_law_many"] 1 (EX K):=⟨_,_,Gy zFx T ,PySem.W.mg_of X G a58,k58,(zFx.binds fun _ _ _ _ _ _ us hl=>cu (g:=fun us=>bindArgs _ ⟨us,[]⟩) (z:=fun us=>pure (List.zip _ us)) us hl fun _=>rfl)⟩
 have zFsteps:=aE (st:=i7) l59 c59 k59
 have zCsteps:aP l.prog w K mg base "_law_steps" ["_law_sums_here"] 7 (mC K):=⟨_,_,zY zFsteps T (zCsquare:=zCsquare) (zCalong:=zCalong) (zCx:=zCx),PySem.W.mg_of X G a59,k59,(zFsteps.binds fun _ _ _ _ _ _ us hl=>cu (g:=fun us=>bindArgs _ ⟨us,[]⟩) (z:=fun us=>pure (List.zip _ us)) us hl fun _=>rfl)⟩
 have zFkind:=aE (st:=lF) l60 c60 k60
 have zCkind:aP l.prog w K mg base "_law_kind" ["_law_sums_here"] 8 (pU K):=⟨_,_,Dr zFkind T (zCworth:=zCworth) (zCsteps:=zCsteps),PySem.W.mg_of X G a60,k60,(zFkind.binds fun _ _ _ _ _ _ us hl=>cu (g:=fun us=>bindArgs _ ⟨us,[]⟩) (z:=fun us=>pure (List.zip _ us)) us hl fun _=>rfl)⟩
 have zFrefused:=aE (st:=fR) l61 c61 k61
 have R_:vx l.prog w K mg base 8:=⟨_,PySem.W.mg_of X G a61,k61,fun A outer s H p C i Q hr e0 L Z hi hq=>wD zFrefused T (zFrefused.binds fun _ _ _ _ _ _ us hl=>cu (g:=fun us=>bindArgs _ ⟨us,[]⟩) (z:=fun us=>pure (List.zip _ us)) us hl fun _=>rfl) hr e0 L Z hi hq⟩
 have zFdue:=aE (st:=pB) l62 c62 k62
 have zCdue:aP l.prog w K mg base "_law_due" ["_law_sums_here", "_law_spot", "_law_number", "_law_f"] 6 (u6 K):=⟨_,_,Fk zFdue T (zCsquare:=zCsquare) (zCnumber_at:=zCnumber_at) (zCis_polynomial:=zCis_polynomial) (zCis_fraction:=zCis_fraction),PySem.W.mg_of X G a62,k62,(zFdue.binds fun _ _ _ _ _ _ us hl=>m8 (g:=fun us=>bindArgs _ ⟨us,[]⟩) (z:=fun us=>pure (List.zip _ us)) us hl fun _ _ _ _=>rfl)⟩
 have zFown:=aE (st:=oT) l63 c63 k63
 have zCown:aP l.prog w K mg base "_law_own" ["_law_state_here", "_law_spot", "_law_many"] 5 (uY K):=⟨_,_,Ey zFown T (zCtake:=zCtake) (zCsummed:=zCsummed) (zCminus:=zCminus) (zCnumber_at:=zCnumber_at) (zCsmall:=zCsmall) (zCmultiplied:=zCmultiplied),PySem.W.mg_of X G a63,k63,(zFown.binds fun _ _ _ _ _ _ us hl=>g9 (g:=fun us=>bindArgs _ ⟨us,[]⟩) (z:=fun us=>pure (List.zip _ us)) us hl fun _ _ _=>rfl)⟩
 have zFbent:=aE (st:=kK) l64 c64 k64
 have zCbent:aP l.prog w K mg base "_law_bent" ["_law_state_here", "_law_told", "_law_sums_here", "_law_spot"] 6 (qL K):=⟨_,_,D4 zFbent T (zCtake:=zCtake) (zCsummed:=zCsummed) (zCplus:=zCplus) (zCsquare:=zCsquare) (zCown:=zCown),PySem.W.mg_of X G a64,k64,(zFbent.binds fun _ _ _ _ _ _ us hl=>m8 (g:=fun us=>bindArgs _ ⟨us,[]⟩) (z:=fun us=>pure (List.zip _ us)) us hl fun _ _ _ _=>rfl)⟩
 have zFtold_right:=aE (st:=dP) l65 c65 k65
 have zCtold_right:aP l.prog w K mg base "_law_told_right" ["_law_sums_here", "_law_spot", "_law_number", "_law_f"] 8 (fL K):=⟨_,_,pX zFtold_right T (zCdue:=zCdue) (C_shows_most:=C_shows_most),PySem.W.mg_of X G a65,k65,(zFtold_right.binds fun _ _ _ _ _ _ us hl=>m8 (g:=fun us=>bindArgs _ ⟨us,[]⟩) (z:=fun us=>pure (List.zip _ us)) us hl fun _ _ _ _=>rfl)⟩
 have M_law:Gk K mg base (PySem.W.fnOf "law" "law" (au gz) (ao gz) (ae gz) .none kV66 dc66 pm66 an66 cd66 ct66) 583 579:=⟨m66,PySem.W.codeHd_of_K kb o66,hB⟩
 have F_law:=aE (st:=gz) l66 c66 k66
 exact DR F_law T M_law R_ Z_ (zCkind:=zCkind) (zCsums:=zCsums) (zCtold_right:=zCtold_right) (zCbent:=zCbent) (C_shows_most:=C_shows_most) (C_least_square:=C_least_square) (zCcase:=zCcase) (zCstate:=zCstate) (CX_shows_most:=CX_shows_most)
theorem walk {l:PySem.W.OpenLaw} {q:Program} {loose:List Str} {XP:(Str -> Option Value) -> Heap -> Prop} {YP:World -> Heap -> Prop} {d:DefRec} {K:Params -> PySem.W.Frag} (hn:l.most = some 63) (hdf:d.params.defaults = []) (hi:PyProof.Rows.importsNone q = true)
  (hY:∀ (w:World) (h:Heap),YP w h -> (K w.params).In h /\ ∀ q ∈ ([(583,579)]:List (Addr × Addr)),PySem.W.codeHdIn (K w.params) q.1 q.2 = true /\ (K w.params).lookup q.2 = none /\ h.get? q.2 = some (PySem.W.tabObj #[]))
  (F:∀ (w:World) (mg:Str -> Option Value) (fa:Addr) (h:Heap),(K w.params).In h -> h.Ns mainGlobals mg -> mg d.name = some (.ref fa) ->
   ∃ fd:FuncData,(∀ (s:Shared) (u:Value),BindsTo s fd ⟨[u],[]⟩ [("_law_script",u)]) /\ ∀ base:Heap,(K w.params).In base -> base.Ns mainGlobals mg -> td mg base -> base.NoSeer -> aV l.prog w (K w.params) mg base cV 10 fa fd ["_law_script"] (spLaw (K w.params))) :
  PySem.W.WalkO q loose XP YP l.row.toRowW d [] (fun f vs=>PySem.call f vs) :=
 L2.walk_ofM (ts:=fun _=>[(583,579)]) (n:=63) (k:=10) (x:="_law_script") (CX:=fun _=>cV) (sp:=fun w=>spLaw (K w.params)) hn (by decide) hdf ⟨rfl,by decide,by decide⟩ hi hY F (fun _ _ a ns hl hT hK hS=>⟨a,ns,rfl,.of hS hK,hl,.start (hT (583,579) (by simp)),fun _=>rfl⟩) fun _ _ _ _ _ z=>z
end M
open PySem PySem.W PyProof.Rows
inductive PySem.W.Fast.tw2270973466083025457 : Type
inductive PySem.W.Fast.tw12484424900114021819 : Type
inductive PySem.W.Fast.tw9917742878315672007 : Type
inductive PySem.W.Fast.tw2335421884080896447 : Type
inductive PySem.W.Fast.tw1007222667556836838 : Type
inductive PySem.W.Fast.tw13681629926514464534 : Type
inductive PySem.W.Fast.tw11071212161207325026 : Type
inductive PySem.W.Fast.tw17726796284037177891 : Type
inductive PySem.W.Fast.tw6030313413994796154 : Type
inductive PySem.W.Fast.tw8673623207160900136 : Type
inductive PySem.W.Fast.tw2854307043458411755 : Type
inductive PySem.W.Fast.tw12812156562360727914 : Type
inductive PySem.W.Fast.tw18293364856646257612 : Type
inductive PySem.W.Fast.tw15207574262675347898 : Type
inductive PySem.W.Fast.tw117801406407004479 : Type
inductive PySem.W.Fast.tw9907574971123578024 : Type
inductive PySem.W.Fast.tw4026703168741314702 : Type
inductive PySem.W.Fast.tw3034303823341370270 : Type
inductive PySem.W.Fast.tw7507490325571236205 : Type
inductive PySem.W.Fast.tw9958771243491962912 : Type
inductive PySem.W.Fast.tw729417475335551431 : Type
inductive PySem.W.Fast.tw12990400203611961361 : Type
set_option maxRecDepth 100000 in
set_option maxHeartbeats 0 in
theorem PySem.Challenge.cw_momentwright_k64_what_shows_the_most_holds : PySem.Challenge.rw_momentwright_k64_what_shows_the_most.Holds := by
 w_on; o_law; k_head; (case hw=>w_witness2)
 k_fill
 refine M.walk (l:=PySem.Challenge.rw_momentwright_k64_what_shows_the_most) rfl rfl ?hi (fun w h Y=>⟨PySem.W.km_in_of Y,?T⟩) ?F
 case hi=>exact (by decide +kernel)
 case T =>
  have hT:=PySem.W.km_tabs_of Y
  intro q hq
  simp only [List.mem_cons,List.not_mem_nil,or_false] at hq
  rcases hq with rfl
  ·exact ⟨by kernel_rfl,by kernel_rfl,hT _ (by simp)⟩
 case F =>
  intro w mg fa h KX G hmg
  refine' M.all_mk KX G hmg rfl ?a0 ?l0 ?c0 ?k0 ?a1 ?l1 ?c1 ?k1 ?a2 ?l2 ?c2 ?k2 ?a3 ?l3 ?c3 ?k3 ?a4 ?l4 ?c4 ?k4 ?a5 ?l5 ?c5 ?k5 ?a6 ?l6 ?c6 ?k6 ?a7 ?l7 ?c7 ?k7 ?a8 ?l8 ?c8 ?k8 ?a9 ?l9 ?c9 ?k9 ?a10 ?l10 ?c10 ?k10 ?a11 ?l11 ?c11 ?k11 ?a12 ?l12 ?c12 ?k12 ?a13 ?l13 ?c13 ?k13 ?a14 ?l14 ?c14 ?k14 ?a15 ?l15 ?c15 ?k15 ?a16 ?l16 ?c16 ?k16 ?a17 ?l17 ?c17 ?k17 ?a18 ?l18 ?c18 ?k18 ?a19 ?l19 ?c19 ?k19 ?a20 ?l20 ?c20 ?k20 ?a21 ?l21 ?c21 ?k21 ?a22 ?l22 ?c22 ?k22 ?a23 ?l23 ?c23 ?k23 ?a24 ?l24 ?c24 ?k24 ?a25 ?l25 ?c25 ?k25 ?a26 ?l26 ?c26 ?k26 ?a27 ?l27 ?c27 ?k27 ?a28 ?l28 ?c28 ?k28 ?a29 ?l29 ?c29 ?k29 ?a30 ?l30 ?c30 ?k30 ?a31 ?l31 ?c31 ?k31 ?a32 ?l32 ?c32 ?k32 ?a33 ?l33 ?c33 ?k33 ?a34 ?l34 ?c34 ?k34 ?a35 ?l35 ?c35 ?k35 ?a36 ?l36 ?c36 ?k36 ?a37 ?l37 ?c37 ?k37 ?a38 ?l38 ?c38 ?k38 ?a39 ?l39 ?c39 ?k39 ?a40 ?l40 ?c40 ?k40 ?a41 ?l41 ?c41 ?k41 ?a42 ?l42 ?c42 ?k42 ?a43 ?l43 ?c43 ?k43 ?a44 ?l44 ?c44 ?k44 ?a45 ?l45 ?c45 ?k45 ?a46 ?l46 ?c46 ?k46 ?a47 ?l47 ?c47 ?k47 ?a48 ?l48 ?c48 ?k48 ?a49 ?l49 ?c49 ?k49 ?a50 ?l50 ?c50 ?k50 ?a51 ?l51 ?c51 ?k51 ?a52 ?l52 ?c52 ?k52 ?a53 ?l53 ?c53 ?k53 ?a54 ?l54 ?c54 ?k54 ?a55 ?l55 ?c55 ?k55 ?a56 ?l56 ?c56 ?k56 ?a57 ?l57 ?c57 ?k57 ?a58 ?l58 ?c58 ?k58 ?a59 ?l59 ?c59 ?k59 ?a60 ?l60 ?c60 ?k60 ?a61 ?l61 ?c61 ?k61 ?a62 ?l62 ?c62 ?k62 ?a63 ?l63 ?c63 ?k63 ?a64 ?l64 ?c64 ?k64 ?a65 ?l65 ?c65 ?k65 ?a66 ?l66 ?c66 ?k66  ?u0 ?v0 ?w0 ?u1 ?v1 ?w1 ?z0 ?z1 ?z2 ?z3 ?z4 ?z5 ?z6 ?z7 ?z8 ?z9 ?z10 ?z11 ?z12 ?z13 ?z14 ?n0 ?n1 ?n2 ?n3 ?n4 ?n5 ?n6 ?n7 ?n8 ?nm ?xo ?q0 ?q1 ?q2 ?q3 ?q4 ?q5 ?q6 ?q7 ?q8 ?qm ?qv ?y1 ?y2 ?y3 ?y4 ?y5 ?y6 ?m66 ?o66
  (case a0=>k_is); (case l0=>k_is); (case c0=>k_is); (case k0=>k_is)
  (case a1=>k_is); (case l1=>k_is); (case c1=>k_is); (case k1=>k_is)
  (case a2=>k_is); (case l2=>k_is); (case c2=>k_is); (case k2=>k_is)
  (case a3=>k_is); (case l3=>k_is); (case c3=>k_is); (case k3=>k_is)
  (case a4=>k_is); (case l4=>k_is); (case c4=>k_is); (case k4=>k_is)
  (case a5=>k_is); (case l5=>k_is); (case c5=>k_is); (case k5=>k_is)
  (case a6=>k_is); (case l6=>k_is); (case c6=>k_is); (case k6=>k_is)
  (case a7=>k_is); (case l7=>k_is); (case c7=>k_is); (case k7=>k_is)
  (case a8=>k_is); (case l8=>k_is); (case c8=>k_is); (case k8=>k_is)
  (case a9=>k_is); (case l9=>k_is); (case c9=>k_is); (case k9=>k_is)
  (case a10=>k_is); (case l10=>k_is); (case c10=>k_is); (case k10=>k_is)
  (case a11=>k_is); (case l11=>k_is); (case c11=>k_is); (case k11=>k_is)
  (case a12=>k_is); (case l12=>k_is); (case c12=>k_is); (case k12=>k_is)
  (case a13=>k_is); (case l13=>k_is); (case c13=>k_is); (case k13=>k_is)
  (case a14=>k_is); (case l14=>k_is); (case c14=>k_is); (case k14=>k_is)
  (case a15=>k_is); (case l15=>k_is); (case c15=>k_is); (case k15=>k_is)
  (case a16=>k_is); (case l16=>k_is); (case c16=>k_is); (case k16=>k_is)
  (case a17=>k_is); (case l17=>k_is); (case c17=>k_is); (case k17=>k_is)
  (case a18=>k_is); (case l18=>k_is); (case c18=>k_is); (case k18=>k_is)
  (case a19=>k_is); (case l19=>k_is); (case c19=>k_is); (case k19=>k_is)
  (case a20=>k_is); (case l20=>k_is); (case c20=>k_is); (case k20=>k_is)
  (case a21=>k_is); (case l21=>k_is); (case c21=>k_is); (case k21=>k_is)
  (case a22=>k_is); (case l22=>k_is); (case c22=>k_is); (case k22=>k_is)
  (case a23=>k_is); (case l23=>k_is); (case c23=>k_is); (case k23=>k_is)
  (case a24=>k_is); (case l24=>k_is); (case c24=>k_is); (case k24=>k_is)
  (case a25=>k_is); (case l25=>k_is); (case c25=>k_is); (case k25=>k_is)
  (case a26=>k_is); (case l26=>k_is); (case c26=>k_is); (case k26=>k_is)
  (case a27=>k_is); (case l27=>k_is); (case c27=>k_is); (case k27=>k_is)
  (case a28=>k_is); (case l28=>k_is); (case c28=>k_is); (case k28=>k_is)
  (case a29=>k_is); (case l29=>k_is); (case c29=>k_is); (case k29=>k_is)
  (case a30=>k_is); (case l30=>k_is); (case c30=>k_is); (case k30=>k_is)
  (case a31=>k_is); (case l31=>k_is); (case c31=>k_is); (case k31=>k_is)
  (case a32=>k_is); (case l32=>k_is); (case c32=>k_is); (case k32=>k_is)
  (case a33=>k_is); (case l33=>k_is); (case c33=>k_is); (case k33=>k_is)
  (case a34=>k_is); (case l34=>k_is); (case c34=>k_is); (case k34=>k_is)
  (case a35=>k_is); (case l35=>k_is); (case c35=>k_is); (case k35=>k_is)
  (case a36=>k_is); (case l36=>k_is); (case c36=>k_is); (case k36=>k_is)
  (case a37=>k_is); (case l37=>k_is); (case c37=>k_is); (case k37=>k_is)
  (case a38=>k_is); (case l38=>k_is); (case c38=>k_is); (case k38=>k_is)
  (case a39=>k_is); (case l39=>k_is); (case c39=>k_is); (case k39=>k_is)
  (case a40=>k_is); (case l40=>k_is); (case c40=>k_is); (case k40=>k_is)
  (case a41=>k_is); (case l41=>k_is); (case c41=>k_is); (case k41=>k_is)
  (case a42=>k_is); (case l42=>k_is); (case c42=>k_is); (case k42=>k_is)
  (case a43=>k_is); (case l43=>k_is); (case c43=>k_is); (case k43=>k_is)
  (case a44=>k_is); (case l44=>k_is); (case c44=>k_is); (case k44=>k_is)
  (case a45=>k_is); (case l45=>k_is); (case c45=>k_is); (case k45=>k_is)
  (case a46=>k_is); (case l46=>k_is); (case c46=>k_is); (case k46=>k_is)
  (case a47=>k_is); (case l47=>k_is); (case c47=>k_is); (case k47=>k_is)
  (case a48=>k_is); (case l48=>k_is); (case c48=>k_is); (case k48=>k_is)
  (case a49=>k_is); (case l49=>k_is); (case c49=>k_is); (case k49=>k_is)
  (case a50=>k_is); (case l50=>k_is); (case c50=>k_is); (case k50=>k_is)
  (case a51=>k_is); (case l51=>k_is); (case c51=>k_is); (case k51=>k_is)
  (case a52=>k_is); (case l52=>k_is); (case c52=>k_is); (case k52=>k_is)
  (case a53=>k_is); (case l53=>k_is); (case c53=>k_is); (case k53=>k_is)
  (case a54=>k_is); (case l54=>k_is); (case c54=>k_is); (case k54=>k_is)
  (case a55=>k_is); (case l55=>k_is); (case c55=>k_is); (case k55=>k_is)
  (case a56=>k_is); (case l56=>k_is); (case c56=>k_is); (case k56=>k_is)
  (case a57=>k_is); (case l57=>k_is); (case c57=>k_is); (case k57=>k_is)
  (case a58=>k_is); (case l58=>k_is); (case c58=>k_is); (case k58=>k_is)
  (case a59=>k_is); (case l59=>k_is); (case c59=>k_is); (case k59=>k_is)
  (case a60=>k_is); (case l60=>k_is); (case c60=>k_is); (case k60=>k_is)
  (case a61=>k_is); (case l61=>k_is); (case c61=>k_is); (case k61=>k_is)
  (case a62=>k_is); (case l62=>k_is); (case c62=>k_is); (case k62=>k_is)
  (case a63=>k_is); (case l63=>k_is); (case c63=>k_is); (case k63=>k_is)
  (case a64=>k_is); (case l64=>k_is); (case c64=>k_is); (case k64=>k_is)
  (case a65=>k_is); (case l65=>k_is); (case c65=>k_is); (case k65=>k_is)
  (case a66=>k_is); (case l66=>k_is); (case c66=>k_is); (case k66=>k_is)
  (case u0=>k_is); (case v0=>k_is); (case w0=>rfl)
  (case u1=>k_is); (case v1=>k_is); (case w1=>rfl)
  (case z0=>k_is)
  (case z1=>k_is)
  (case z2=>k_is)
  (case z3=>k_is)
  (case z4=>k_is)
  (case z5=>k_is)
  (case z6=>k_is)
  (case z7=>k_is)
  (case z8=>k_is)
  (case z9=>k_is)
  (case z10=>k_is)
  (case z11=>k_is)
  (case z12=>k_is)
  (case z13=>k_is)
  (case z14=>k_is)
  (case n0=>k_is)
  (case n1=>k_is)
  (case n2=>k_is)
  (case n3=>k_is)
  (case n4=>k_is)
  (case n5=>k_is)
  (case n6=>k_is)
  (case n7=>k_is)
  (case n8=>k_is)
  (case nm=>k_is)
  (case xo=>show PySem.W.excIn _ _ _ _ = true; kernel_rfl)
  (case q0=>kernel_rfl)
  (case q1=>kernel_rfl)
  (case q2=>kernel_rfl)
  (case q3=>kernel_rfl)
  (case q4=>kernel_rfl)
  (case q5=>kernel_rfl)
  (case q6=>kernel_rfl)
  (case q7=>kernel_rfl)
  (case q8=>kernel_rfl)
  (case qm=>kernel_rfl)
  (case qv=>kernel_rfl)
  (case y1=>kernel_rfl)
  (case y2=>kernel_rfl)
  (case y3=>kernel_rfl)
  (case y4=>kernel_rfl)
  (case y5=>kernel_rfl)
  (case y6=>kernel_rfl)
  (case m66=>rfl)
  (case o66=>kernel_rfl)
#print axioms PySem.Challenge.cw_momentwright_k64_what_shows_the_most_holds

import PyProof.Rows.All
import Wide.All
import OpenK.AllK
import Wide.FinOn
import Lean
import PyProof.EqAt
import PyProof.EqKinds
import PyProof.TupleCall
import PySem.Challenge.RW_momentwright_k18_flocks_known
set_option compiler.extract_closed false
local macro_rules | `(tactic| walk_at "o")=>`(tactic| first | lia | omega)
local macro_rules | `(tactic| walk_at "a1")=>`(tactic| first | exact Or.inl rfl | exact Or.inr rfl)
local macro_rules | `(tactic| walk_at "a2")=>`(tactic| first | decide | walk_at "o")
local macro_rules | `(tactic| walk_at "a3")=>`(tactic| exact ⟨rfl,rfl,rfl,by decide +kernel,rfl,by decide +kernel,by decide +kernel⟩)
set_option Elab.async false
set_option linter.all false
set_option maxRecDepth 100000
namespace L2
open PySem PySem.Spec PyProof.Rows
abbrev Key:=Sum Int Str
def keyIs:Key -> Value -> Bool
 | .inl k,v=>Value.isInt k v
 | .inr x,v=>Value.isStrOf x v
def keyH (w:World):Key -> Int
 | .inl k=>hashInt k
 | .inr x=>hashStr w x
theorem keyIs_shape:∀ {k:Key} {v:Value},keyIs k v = true -> (∃ i t,k = Sum.inl i /\ v = Value.int i t) \/ (∃ x t,k = Sum.inr x /\ v = Value.str x t)
 | .inl i,v,h=>by
  obtain ⟨t,e⟩:=Value.isInt_shape (k:=i) (v:=v) h
  exact .inl ⟨i,t,rfl,e⟩
 | .inr x,v,h=>by
  obtain ⟨t,e⟩:=Value.isStrOf_shape (x:=x) (v:=v) h
  exact .inr ⟨x,t,rfl,e⟩
theorem key_ll (a b:Int):decide ((Sum.inl a:Key) = Sum.inl b) = (a == b):=by
 by_cases e:a = b
 ·subst e; simp
 ·have h:¬ (Sum.inl a:Key) = Sum.inl b:=fun q=>e (Sum.inl.inj q)
  rw [decide_eq_false h]
  exact (beq_eq_false_iff_ne.mpr e).symm
theorem key_rr (a b:Str):decide ((Sum.inr a:Key) = Sum.inr b) = decide (a = b):=by
 by_cases e:a = b
 ·subst e; simp
 ·have h:¬ (Sum.inr a:Key) = Sum.inr b:=fun q=>e (Sum.inr.inj q)
  rw [decide_eq_false h,decide_eq_false e]
theorem key_lr (a:Int) (b:Str):decide ((Sum.inl a:Key) = Sum.inr b) = false:=decide_eq_false (fun q=>nomatch q)
theorem key_rl (a:Str) (b:Int):decide ((Sum.inr a:Key) = Sum.inl b) = false:=decide_eq_false (fun q=>nomatch q)
def mixKind (prog:Program) (w:World):PySem.KeyKind prog w Key where
 is:=keyIs
 hash:=keyH w
 inj:=fun v a b ha hb=>by
  rcases keyIs_shape ha with ⟨i,t,rfl,rfl⟩ | ⟨x,t,rfl,rfl⟩
  ·rcases keyIs_shape hb with ⟨j,u,rfl,e⟩ | ⟨y,u,rfl,e⟩
   ·injection e with e1 _; rw [e1]
   ·exact nomatch e
  ·rcases keyIs_shape hb with ⟨j,u,rfl,e⟩ | ⟨y,u,rfl,e⟩
   ·exact nomatch e
   ·injection e with e1 _; rw [e1]
 byValue:=fun k v h=>by
  rcases keyIs_shape h with ⟨i,t,rfl,rfl⟩ | ⟨x,t,rfl,rfl⟩ <;> rfl
 pyHash:=fun hv h=>by
  rcases keyIs_shape hv with ⟨i,t,rfl,rfl⟩ | ⟨x,t,rfl,rfl⟩
  ·exact wpAny_pyHash_int h
  ·exact wpAny_pyHash_str h
 eqBool:=fun hu hv h=>by
  rcases keyIs_shape hu with ⟨i,t,rfl,rfl⟩ | ⟨x,t,rfl,rfl⟩
  ·rcases keyIs_shape hv with ⟨j,u,rfl,rfl⟩ | ⟨y,u,rfl,rfl⟩
   ·rw [key_ll] at h; exact wpAny_eqBool_int h
   ·rw [key_lr] at h; exact SeqAt.EqAt.int_str i t y u _ _ _ _ h
  ·rcases keyIs_shape hv with ⟨j,u,rfl,rfl⟩ | ⟨y,u,rfl,rfl⟩
   ·rw [key_rl] at h; exact SeqAt.EqAt.str_int x t j u _ _ _ _ h
   ·rw [key_rr] at h; exact wpAny_eqBool_str h
 «strs»:=fun k x t v h=>by
  rcases keyIs_shape h with ⟨i,u,rfl,e⟩ | ⟨y,u,rfl,e⟩
  ·exact nomatch e
  ·injection e with e1 _
   subst e1
   cases v <;> rfl
end L2
namespace L2
open PySem PySem.Spec PyProof.Rows
inductive V where
 | non | bl (b:Bool) | int (i:Int) | str (x:Str) | byt (b:Array UInt8) | flt (b:UInt64) | ref (a:Addr) | ty (n:String)
 deriving DecidableEq
def RelV:V -> Value -> Prop
 | .non,u=>u = Value.none
 | .bl b,u=>u = Value.bool b
 | .int i,u=>∃ t,u = Value.int i t
 | .str x,u=>∃ t,u = Value.str x t
 | .byt b,u=>∃ t,u = Value.bytes b t
 | .flt b,u=>∃ t,u = Value.float b t
 | .ref a,u=>u = Value.ref a
 | .ty n,u=>u = Value.type n
abbrev Vals:List V -> List Value -> Prop:=Paired RelV
theorem Vals.length {xs:List V} {us:List Value} (r:Vals xs us):xs.length = us.length:=Paired.length r
theorem Vals.get:∀ {xs:List V} {us:List Value} {i:Nat} {x:V},Vals xs us -> xs[i]? = some x -> ∃ u,us[i]? = some u /\ RelV x u
 | _,_,_,_,.nil,e=>by simp at e
 | _,_,0,_,.cons r _,e=>by simp at e; subst e; exact ⟨_,rfl,r⟩
 | _,_,i + 1,x,.cons _ t,e=>by
  obtain ⟨u,h1,h2⟩:=Vals.get (i:=i) (x:=x) t (by simpa using e)
  exact ⟨u,by simpa using h1,h2⟩
theorem Vals.set {x:V} {u:Value} (r:RelV x u):∀ {xs:List V} {us:List Value} (i:Nat),Vals xs us -> Vals (xs.set i x) (us.set i u)
 | _,_,_,.nil=>.nil
 | _,_,0,.cons _ t=>.cons r t
 | _,_,i + 1,.cons q t=>.cons q (Vals.set r i t)
theorem Vals.append:∀ {xs ys:List V} {us ws:List Value},Vals xs us -> Vals ys ws -> Vals (xs ++ ys) (us ++ ws)
 | _,_,_,_,.nil,s=>s
 | _,_,_,_,.cons r t,s=>.cons r (Vals.append t s)
theorem Vals.take:∀ {xs:List V} {us:List Value} (n:Nat),Vals xs us -> Vals (xs.take n) (us.take n)
 | _,_,0,_=>.nil
 | _,_,_ + 1,.nil=>.nil
 | _,_,n + 1,.cons r t=>.cons r (Vals.take n t)
theorem Vals.drop:∀ {xs:List V} {us:List Value} (n:Nat),Vals xs us -> Vals (xs.drop n) (us.drop n)
 | _,_,0,r=>r
 | _,_,_ + 1,.nil=>.nil
 | _,_,n + 1,.cons _ t=>Vals.drop n t
def RelO:Option V -> Option Value -> Prop
 | some v,some u=>RelV v u
 | none,none=>True
 | _,_=>False
def KV {κ:Type}:List (κ × V) -> List (κ × Value) -> Prop:=Paired fun (p:κ × V) (q:κ × Value)=>p.1 = q.1 /\ RelV p.2 q.2
def kV:Key -> V
 | .inl i=>.int i
 | .inr x=>.str x
inductive HO where
 /-- a list -/
 | lst (xs:List V)
 /-- a tuple (never changes) -/
 | tup (xs:List V)
 /-- a dict whose keys are ints and texts; one whose keys are tuples of ints and texts (the empty one is both) -/
 | dK (kvs:List (Key × V)) | dT (kvs:List (List Key × V))
 /-- a set of ints: its members,its size -/
 | set (S:Int -> Bool) (n:Nat)
 /-- an instance of the class at C,its dict at dx,its attributes -/
 | ins (C dx:Addr) (fs:List (Str × V))
 /-- the dict of the instance at x -/
 | own (x:Addr)
 /-- the dict of an exception -/
 | xd (fs:List (Str × V))
 /-- a bound method,f of x -/
 | met (f x:Addr)
 /-- a range object lo,lo + 1,.. below hi -/
 | rng (lo hi:Int)
 /-- a thing that is known to the object (the script; a dict while a loop walks it): read,never written while it is so -/
 | frz (o:Obj) (u:HO)
 /-- a code object's table -/
 | tbl (ps:Array Value)
 /-- any other thing,by what is true of its one object (a def of one's own: SetO a S n:=HO.ext fun h=>..) -/
 | ext (φ:Heap -> Prop)
abbrev Hp:=Addr -> Option HO
def upd (H:Hp) (a:Addr) (o:HO):Hp:=fun b=>if b = a then some o else H b
theorem upd_same {H:Hp} {a:Addr} {o:HO}:upd H a o a = some o:=by unfold upd; rw [if_pos rfl]
theorem upd_ne {H:Hp} {a b:Addr} {o:HO} (h:b ≠ a):upd H a o b = H b:=by unfold upd; rw [if_neg h]
theorem ne_of {H:Hp} {a b:Addr} {o u:HO} (h:H a = some o) (h':H b = some u) (d:o ≠ u):a ≠ b:=by
 intro e; subst e; rw [h] at h'; exact d (Option.some.inj h')
theorem ne_of_none {H:Hp} {a b:Addr} {o:HO} (h:H a = some o) (h':H b = none):a ≠ b:=by
 intro e; subst e; rw [h] at h'; cases h'
section
variable (P:Program) (w:World)
def ObjOk (H:Hp) (h:Heap) (a:Addr):HO -> Prop
 | .lst xs=>xs.length <= sizeLine /\ ∃ (its:List Value) (n:Nat),Vals xs its /\ h.get? a = some { cls:=.type "list",data:=.seq its.toArray n }
 | .tup xs=>xs.length <= sizeLine /\ ∃ its:List Value,Vals xs its /\ IsTup h a its.toArray
 | .dK kvs=>kvs.length <= sizeLine /\ (a == sysModules) = false /\ ∃ vs,KV kvs vs /\ h.DictOf (mixKind P w) a vs
 | .dT kvs=>kvs.length <= sizeLine /\ (a == sysModules) = false /\ ∃ xs:List (List Key × Addr × Value),
   Paired (fun (p:List Key × V) (q:List Key × Addr × Value)=>p.1 = q.1 /\ H q.2.1 = some (.tup (p.1.map kV)) /\ RelV p.2 q.2.2) kvs xs /\
   ∃ o es ep,h.get? a = some o /\ o.ExactDict /\ o.data = .dict es ep /\ es.toList = xs.map (entryOfKey (tupleKind (mixKind P w))) /\ (xs.map (·.1)).Nodup
 | .set S n=>h.SetOf (intKind P w) a S n
 | .ins C dx fs=>H dx = some (.own a) /\ fs.length <= 1000 /\ dx ≠ a /\ h.get? a = some (PySem.W.instObj C dx) /\
   ∃ mA,h.Ns1 dx mA /\ (∀ f,RelO (fs.lookup f) (mA f)) /\ PySem.Within mA (fs.map (·.1))
 | .own _=>∃ o,h.get? a = some o
 | .xd fs=>∃ mA,h.Ns1 a mA /\ ∀ f,RelO (fs.lookup f) (mA f)
 | .rng lo hi=>∃ t u v,h.get? a = some { cls:=.type "range",data:=.fields #[.int lo t,.int hi u,.int 1 v] }
 | .frz o u=>h.get? a = some o /\ ObjOk H h a u
 | .tbl ps=>h.get? a = some { cls:=.none,data:=.fields ps }
 | .met f x=>h.get? a = some (PySem.W.methodObj (.ref f) (.ref x))
 | .ext φ=>φ h /\ (∃ o,h.get? a = some o) /\ ∀ h1 h2:Heap,φ h1 -> (∀ o,h1.get? a = some o -> h2.get? a = some o) -> φ h2
def HOk (H:Hp) (h:Heap):Prop:=∀ a o,H a = some o -> ObjOk P w H h a o
end
section
variable {P:Program} {w:World} {H H':Hp} {h h':Heap} {a:Addr} {o:HO}
theorem ObjOk.lt (x:ObjOk P w H h a o):a < h.objs.size:=by
 cases o with
 | lst xs=>obtain ⟨_,_,_,_,e⟩:=x; exact Heap.lt_size e
 | tup xs=>obtain ⟨_,_,_,p⟩:=x; exact p.lt
 | dK kvs=>obtain ⟨_,_,_,_,o,_,_,e,_⟩:=x; exact Heap.lt_size e
 | dT kvs=>obtain ⟨_,_,_,_,o,_,_,e,_⟩:=x; exact Heap.lt_size e
 | set S n=>obtain ⟨o,_,_,_,e,_⟩:=x; exact Heap.lt_size e
 | ins C dx fs=>obtain ⟨_,_,_,e,_⟩:=x; exact Heap.lt_size e
 | own y=>obtain ⟨_,e⟩:=x; exact Heap.lt_size e
 | xd fs=>obtain ⟨_,⟨_,_,_,e,_⟩,_⟩:=x; exact Heap.lt_size e
 | rng lo hi=>obtain ⟨_,_,_,e⟩:=x; exact Heap.lt_size e
 | frz ob u=>obtain ⟨e,_⟩:=x; exact Heap.lt_size e
 | tbl ps=>exact Heap.lt_size (show h.get? a = some _ from x)
 | met f y=>exact Heap.lt_size (show h.get? a = some _ from x)
 | ext φ=>obtain ⟨_,⟨_,e⟩,_⟩:=x; exact Heap.lt_size e
theorem Paired.mapP {α β:Type} {F G:α -> β -> Prop}:∀ {l₁:List α} {l₂:List β},Paired F l₁ l₂ -> (∀ a b,F a b -> G a b) -> Paired G l₁ l₂
 | _,_,.nil,_=>.nil
 | _,_,.cons r t,f=>.cons (f _ _ r) (Paired.mapP t f)
theorem ObjOk.stay (x:ObjOk P w H h a o) (k:∀ b u,(b = a \/ H b = some (.own a)) -> h.get? b = some u -> h'.get? b = some u)
  (ho:∀ b,H b = some (.own a) -> H' b = some (.own a)) (ht:∀ b xs,H b = some (.tup xs) -> H' b = some (.tup xs)):ObjOk P w H' h' a o:=by
 induction o with
 | lst xs=>obtain ⟨z,its,n,r,e⟩:=x; exact ⟨z,its,n,r,k _ _ (.inl rfl) e⟩
 | tup xs=>obtain ⟨z,its,r,ob,e,c⟩:=x; exact ⟨z,its,r,ob,k _ _ (.inl rfl) e,c⟩
 | dK kvs=>obtain ⟨z,y,vs,r,ob,es,ep,e,c⟩:=x; exact ⟨z,y,vs,r,ob,es,ep,k _ _ (.inl rfl) e,c⟩
 | dT kvs =>
  obtain ⟨z,y,xs,r,ob,es,ep,e,c⟩:=x
  exact ⟨z,y,xs,Paired.mapP r fun p q z=>⟨z.1,ht _ _ z.2.1,z.2.2⟩,ob,es,ep,k _ _ (.inl rfl) e,c⟩
 | set S n=>obtain ⟨ob,es,ep,t,e,c⟩:=x; exact ⟨ob,es,ep,t,k _ _ (.inl rfl) e,c⟩
 | ins C dx fs =>
  obtain ⟨d,z,ne,e,mA,⟨od,es,ep,e2,c⟩,r⟩:=x
  exact ⟨ho _ d,z,ne,k _ _ (.inl rfl) e,mA,⟨od,es,ep,k _ _ (.inr d) e2,c⟩,r⟩
 | own y=>obtain ⟨ob,e⟩:=x; exact ⟨ob,k _ _ (.inl rfl) e⟩
 | xd fs=>obtain ⟨mA,⟨od,es,ep,e,c⟩,r⟩:=x; exact ⟨mA,⟨od,es,ep,k _ _ (.inl rfl) e,c⟩,r⟩
 | rng lo hi=>obtain ⟨t,u,v,e⟩:=x; exact ⟨t,u,v,k _ _ (.inl rfl) e⟩
 | frz ob u ih=>obtain ⟨e,q⟩:=x; exact ⟨k _ _ (.inl rfl) e,ih q⟩
 | tbl ps =>
  have e:h.get? a = some { cls:=.none,data:=.fields ps }:=x
  show h'.get? a = some { cls:=.none,data:=.fields ps }
  exact k a _ (.inl rfl) e
 | met f y =>
  have e:h.get? a = some (PySem.W.methodObj (.ref f) (.ref y)):=x
  show h'.get? a = some (PySem.W.methodObj (.ref f) (.ref y))
  exact k a _ (.inl rfl) e
 | ext φ=>obtain ⟨p,⟨o,e⟩,st⟩:=x; exact ⟨st _ _ p fun o q=>k _ _ (.inl rfl) q,⟨o,k _ _ (.inl rfl) e⟩,st⟩
theorem HOk.lt (x:HOk P w H h) (e:H a = some o):a < h.objs.size:=(x a o e).lt
theorem HOk.fresh (x:HOk P w H h) (e:h.objs.size <= a):H a = none:=by
 cases q:H a with
 | none=>rfl
 | some u=>exact absurd (Nat.lt_of_lt_of_le (x.lt q) e) (Nat.lt_irrefl _)
theorem HOk.kept (x:HOk P w H h) (k:∀ b u,h.get? b = some u -> h'.get? b = some u):HOk P w H h':=fun a o e =>
 (x a o e).stay (fun b u _ q=>k b u q) (fun _ q=>q) fun _ _ q=>q
theorem HOk.laid (x:HOk P w H h) (k:∀ b u,h.get? b = some u -> h'.get? b = some u) (hp:h.objs.size <= a) (new:ObjOk P w (upd H a o) h' a o):HOk P w (upd H a o) h':=fun b u e=>by
 have hn:=x.fresh hp
 by_cases hb:b = a
 ·subst hb; rw [upd_same] at e; cases e; exact new
 ·rw [upd_ne hb] at e
  exact (x b u e).stay (fun c v _ q=>k c v q) (fun c q=>by rw [upd_ne (ne_of_none q hn)]; exact q) fun c xs q=>by rw [upd_ne (ne_of_none q hn)]; exact q
end
def Rd (H:Hp) (a:Addr) (u:HO):Prop:=H a = some u \/ ∃ o,H a = some (.frz o u)
theorem Rd.ok {P:Program} {w:World} {H:Hp} {h:Heap} {a:Addr} {u:HO} (r:Rd H a u) (x:HOk P w H h):ObjOk P w H h a u:=by
 rcases r with r | ⟨o,r⟩
 ·exact x a u r
 ·obtain ⟨_,q⟩:=x a _ r
  exact q
def Mut:Option HO -> Prop
 | some (.lst _)=>True
 | some (.dK _)=>True
 | some (.dT _)=>True
 | some (.set _ _)=>True
 | some (.ins _ _ _)=>True
 | some (.ext _)=>True
 | _=>False
section
variable {P:Program} {w:World} {H:Hp} {h h':Heap} {x e:Addr} {o':HO}
theorem HOk.write (ok:HOk P w H h) (mu:Mut (H x)) (he:e = x \/ H e = some (.own x)) (k:∀ b u,b ≠ e -> h.get? b = some u -> h'.get? b = some u) (heo:∃ u,h'.get? e = some u)
  (new:ObjOk P w (upd H x o') h' x o'):HOk P w (upd H x o') h':=fun b u q=>by
 have nown:∀ c y,H c = some (.own y) -> c ≠ x:=fun c y r z=>by subst z; rw [r] at mu; exact mu
 have ntup:∀ c xs,H c = some (.tup xs) -> c ≠ x:=fun c xs r z=>by subst z; rw [r] at mu; exact mu
 by_cases hb:b = x
 ·subst hb; rw [upd_same] at q; cases q; exact new
 ·rw [upd_ne hb] at q
  by_cases hbe:b = e
  ·have q':H b = some (.own x):=by
    rcases he with z | z
    ·exact absurd (hbe.trans z) hb
    ·rw [hbe]; exact z
   rw [q] at q'; cases q'
   obtain ⟨v,hv⟩:=heo
   exact ⟨v,by rw [hbe]; exact hv⟩
  ·refine (ok b u q).stay (fun c v hc r=>k c v ?_ r) (fun c r=>by rw [upd_ne (nown c b r)]; exact r) fun c xs r=>by rw [upd_ne (ntup c xs r)]; exact r
   rcases hc with rfl | hc
   ·exact hbe
   ·rintro rfl
    rcases he with z | z
    ·exact nown c b hc z
    ·rw [hc] at z; cases z; exact hb rfl
end
structure Un (fs ex:List Addr) (H H':Hp) (h h':Heap):Prop where
 keep:∀ b o,h.get? b = some o -> H b = none -> b ∉ fs -> b ∉ ex -> h'.get? b = some o
 slot:∀ b o,h.get? b = some o -> H b = none -> b ∈ fs -> b ∉ ex -> ∃ sl,h'.get? b = some { o with slots:=sl }
 free:∀ b o,h.get? b = some o -> H b = none -> b ∉ ex -> H' b = none
 there:∀ b o,h.get? b = some o -> b ∉ ex -> ∃ o',h'.get? b = some o'
 tups:∀ b xs,H b = some (.tup xs) -> H' b = some (.tup xs)
 frzs:∀ b o u,H b = some (.frz o u) -> H' b = some (.frz o u)
 tbls:∀ b ps,H b = some (.tbl ps) -> ∃ more,H' b = some (.tbl (ps ++ more))
section
variable {fs fs' ex ex':List Addr} {H H1 H2:Hp} {h h1 h2 h':Heap} {a x e:Addr} {o:HO}
theorem Un.any (u:Un fs ex H H1 h h1) {b:Addr} {ob:Obj} (q:h.get? b = some ob) (n:H b = none) (hx:b ∉ ex):∃ sl,h1.get? b = some { ob with slots:=sl }:=by
 by_cases hb:b ∈ fs
 ·exact u.slot b ob q n hb hx
 ·exact ⟨ob.slots,u.keep b ob q n hb hx⟩
theorem Un.kept (k:∀ b u,h.get? b = some u -> h'.get? b = some u):Un fs ex H H h h' :=
 ⟨fun b ob q _ _ _=>k b ob q,fun b ob q _ _ _=>⟨ob.slots,k b ob q⟩,fun _ _ _ n _=>n,fun b ob q _=>⟨ob,k b ob q⟩,fun _ _ q=>q,fun _ _ _ q=>q,fun _ ps q=>⟨#[],by rw [q]; simp⟩⟩
theorem Un.refl:Un fs ex H H h h:=Un.kept fun _ _ q=>q
theorem Un.laid (k:∀ b u,h.get? b = some u -> h'.get? b = some u) (hp:h.objs.size <= a) (hn:H a = none):Un fs ex H (upd H a o) h h' where
 keep:=fun b u q _ _ _=>k b u q
 slot:=fun b u q _ _ _=>⟨u.slots,k b u q⟩
 free:=fun b u q n _=>by rw [upd_ne (Nat.ne_of_lt (Nat.lt_of_lt_of_le (Heap.lt_size q) hp))]; exact n
 there:=fun b u q _=>⟨u,k b u q⟩
 tups:=fun b xs q=>by rw [upd_ne (ne_of_none q hn)]; exact q
 frzs:=fun b u xs q=>by rw [upd_ne (ne_of_none q hn)]; exact q
 tbls:=fun b ps q=>⟨#[],by rw [upd_ne (ne_of_none q hn),q]; simp⟩
theorem Un.write (mu:Mut (H x)) (he:e = x \/ H e = some (.own x)) (k:∀ b u,b ≠ e -> h.get? b = some u -> h'.get? b = some u) (heo:∃ u,h'.get? e = some u):Un fs ex H (upd H x o) h h':=by
 have hx:∀ b,H b = none -> b ≠ x:=fun b n z=>by subst z; rw [n] at mu; exact mu
 have hb:∀ b,H b = none -> b ≠ e:=fun b n z=>by
  subst z
  rcases he with r | r
  ·exact hx b n r
  ·rw [n] at r; cases r
 have hm:∀ b u,H b = some u -> ¬ Mut (some u) -> b ≠ x:=fun b u q nm z=>by subst z; rw [q] at mu; exact nm mu
 refine ⟨fun b u q n _ _=>k b u (hb b n) q,fun b u q n _ _=>⟨u.slots,k b u (hb b n) q⟩,fun b u q n _=>by rw [upd_ne (hx b n)]; exact n,fun b u q _=>?_,
  fun b xs q=>by rw [upd_ne (hm b _ q fun z=>z)]; exact q,fun b u xs q=>by rw [upd_ne (hm b _ q fun z=>z)]; exact q,fun b ps q=>⟨#[],by rw [upd_ne (hm b _ q fun z=>z),q]; simp⟩⟩
 by_cases hbe:b = e
 ·subst hbe; exact heo
 ·exact ⟨u,k b u hbe q⟩
end
def trk (h:Heap) (H:Hp):List Addr:=(List.range h.objs.size).filter fun a=>(H a).isSome
def hidT (h:Heap) (H:Hp):Heap:=PySem.W.hideAll h (trk h H)
theorem hidT_size (h:Heap) (H:Hp):(hidT h H).objs.size = h.objs.size:=PySem.W.hideAll_size _ _
theorem hidT_get {h:Heap} {H:Hp} {b:Addr} {o:Obj} (e:h.get? b = some o) (n:H b = none):(hidT h H).get? b = some o :=
 PySem.W.hideAll_get _ e fun hm=>by
  have q:(H b).isSome = true:=(List.mem_filter.mp hm).2
  rw [n] at q; simp at q
theorem of_hidT {h:Heap} {H:Hp} {b:Addr} {o:Obj} (e:(hidT h H).get? b = some o):h.get? b = some o /\ H b = none:=by
 have e':h.get? b = some o:=PySem.W.of_hideAll (trk h H) e
 refine ⟨e',?_⟩
 cases q:H b with
 | none=>rfl
 | some x =>
  have hm:b ∈ trk h H:=List.mem_filter.mpr ⟨List.mem_range.mpr (Heap.lt_size e'),by simp [q]⟩
  have z:(hidT h H).get? b = none:=PySem.W.hideAll_none (trk h H) hm
  rw [z] at e; cases e
def allNews (g h:Heap) (L:Addr):List (Addr × Obj):=(List.range h.objs.size).filterMap fun a=>if a = L \/ (g.get? a).isSome = true then none else (h.get? a).map fun o=>(a,o)
def rest (g h:Heap) (L d:Addr):List (Addr × Obj):=(allNews g h L).filter fun p=>decide (p.1 ≠ d)
end L2
namespace L2
open PySem PySem.Spec PyProof.Rows
structure Mod (K:PySem.W.Frag) (mg:Str -> Option Value) (base:Heap):Prop where
 kin:K.In base
 glob:base.Ns mainGlobals mg
 blt:∃ mb,base.Ns builtinsNs mb /\ ∀ x:Str,x ≠ "__name__" -> mb x = bootBuiltins x
 nolimit:base.NoLimit
structure Cx where
 prog:Program
 w:World
 K:PySem.W.Frag
 mg:Str -> Option Value
 base:Heap
 A:Around
 N:List Str
 s₀:Shared
 H₀:Hp
 env:Env
 outer:List Env
 stack:List Env
 ex:List Addr
 fn:Str -> Bool
 calm:Bool
 pn:List (Addr × Obj)
 xe:Value -> Shared -> Prop
def frs (l:List Env):List Addr:=l.filterMap (·.frame)
abbrev Cx.fs (X:Cx):List Addr:=frs X.outer
def Vis (sc:Scope) (x:Str):Prop:=sc.names.lookup x = some .local \/ sc.names.lookup x = some .cell \/ sc.names.lookup x = some .free
def Loc (sc:Scope) (x:Str):Prop:=sc.names.lookup x = some .local \/ sc.names.lookup x = some .cell
def Look (env:Env) (h:Heap) (m:Str -> Option Value) (x:Str) (u:Value):Prop :=
 (env.kindOf x = some .local /\ m x = some u) \/ ((env.kindOf x = some .cell \/ env.kindOf x = some .free) /\ ∃ c,env.cells.lookup x = some c /\ h.IsCell c (some u))
structure Cx.Ok (X:Cx):Prop where
 mod:Mod X.K X.mg X.base
 kind:X.env.scope.kind = .function
 glob:X.env.globals = mainGlobals
 blt:X.env.builtins = builtinsNs
 above:X.s₀.heap.objs.size <= X.env.locals
 inj:∀ x y c,X.env.cells.lookup x = some c -> X.env.cells.lookup y = some c -> x = y
 has:∀ x,(X.env.kindOf x = some .cell \/ X.env.kindOf x = some .free) -> ∃ c,X.env.cells.lookup x = some c
 cab:∀ x c,X.fn x = true -> X.env.cells.lookup x = some c -> X.s₀.heap.objs.size <= c
 hd:X.calm = true -> X.A.handled = none
 frames:X.A.frames = some X.stack
 stk:X.stack = X.outer \/ (X.stack = X.env :: X.outer /\ X.env.frame = some X.env.locals)
 exf:∀ b ∈ X.ex,b ≠ X.env.locals /\ ∀ x c,X.env.cells.lookup x = some c -> c ≠ b
 bs:∀ b o,X.base.get? b = some o -> X.s₀.heap.get? b = some o /\ X.H₀ b = none
 bsz:X.base.objs.size <= X.s₀.heap.objs.size
 noex:∀ b o,X.base.get? b = some o -> b ∉ X.ex
 exfs:∀ b ∈ X.ex,b ∉ X.fs
 funs:X.s₀.heap.FunFrames X.base X.outer
 frf:∀ b ∈ X.fs,X.H₀ b = none
structure Inv (X:Cx) (pins:List (Addr × Obj)) (σ:List (Option V)) (H:Hp) (s:Shared):Prop where
 ok:X.Ok
 os:s.os = X.s₀.os
 bare:AllBare s.gens
 base:Un X.fs X.ex X.H₀ H X.s₀.heap s.heap
 loc:∃ m,s.heap.Ns X.env.locals m /\ ∀ (i:Nat) (x:Str) (v:V),X.N[i]? = some x -> σ[i]? = some (some v) -> Vis X.env.scope x -> ∃ u,RelV v u /\ Look X.env s.heap m x u
 cell:∀ x c,X.env.cells.lookup x = some c -> ∃ v,s.heap.IsCell c v
 free:H X.env.locals = none
 freeC:∀ x c,X.env.cells.lookup x = some c -> H c = none
 pin:∀ p ∈ X.pn ++ pins,s.heap.get? p.1 = some p.2 /\ H p.1 = none /\ p.1 ≠ X.env.locals /\ p.1 ∉ X.fs /\ ∀ v,p.2.data ≠ .cell v
 hok:HOk X.prog X.w H s.heap
 len:σ.length = X.N.length
section
variable {X:Cx} {pins:List (Addr × Obj)} {σ:List (Option V)} {H H':Hp} {s:Shared} {h':Heap}
theorem Cx.Ok.nofr (ok:X.Ok) {b:Addr} {o:Obj} (e:X.base.get? b = some o):b ∉ X.fs:=fun hb=>by
 have:=(ok.funs.mem hb).1
 rw [e] at this; cases this
theorem Inv.bs (I:Inv X pins σ H s):∀ b o,X.base.get? b = some o -> s.heap.get? b = some o /\ H b = none:=fun b o e =>
 ⟨I.base.keep b o (I.ok.bs b o e).1 (I.ok.bs b o e).2 (I.ok.nofr e) (I.ok.noex b o e),I.base.free b o (I.ok.bs b o e).1 (I.ok.bs b o e).2 (I.ok.noex b o e)⟩
theorem Inv.bk (I:Inv X pins σ H s):∀ b o,X.base.get? b = some o -> s.heap.get? b = some o:=fun b o e=>(I.bs b o e).1
theorem Inv.mod (I:Inv X pins σ H s):Mod X.K X.mg X.base:=I.ok.mod
theorem Inv.kIn (I:Inv X pins σ H s):X.K.In s.heap:=I.ok.mod.kin.keeps I.bk
theorem Inv.nolimit (I:Inv X pins σ H s):s.heap.NoLimit:=I.ok.mod.nolimit.keeps I.bk
theorem Inv.lt (I:Inv X pins σ H s):X.env.locals < s.heap.objs.size:=let ⟨_,hn,_⟩:=I.loc; hn.lt
theorem Inv.sz (I:Inv X pins σ H s):X.s₀.heap.objs.size <= s.heap.objs.size:=Nat.le_trans I.ok.above (Nat.le_of_lt I.lt)
theorem Inv.nofs (I:Inv X pins σ H s) {a:Addr} (h:s.heap.objs.size <= a):a ∉ X.fs:=fun hb=>by
 obtain ⟨_,o,ho,_⟩:=I.ok.funs.mem hb
 exact absurd (Nat.lt_of_lt_of_le (Heap.lt_size ho) (Nat.le_trans I.sz h)) (Nat.lt_irrefl _)
theorem Inv.cne (I:Inv X pins σ H s):∀ x c,X.env.cells.lookup x = some c -> c ≠ X.env.locals:=fun x c e z=>by
 obtain ⟨v,o,ho,hd⟩:=I.cell x c e
 obtain ⟨m,⟨o',es,ep,ho',hd',_⟩,_⟩:=I.loc
 rw [z,ho'] at ho; cases ho; rw [hd'] at hd; cases hd
theorem Inv.funs (I:Inv X pins σ H s):s.heap.FunFrames X.base X.outer:=by
 have all:∀ (l:List Env),(∀ b ∈ frs l,b ∈ X.fs) -> X.s₀.heap.FunFrames X.base l -> s.heap.FunFrames X.base l:=by
  intro l
  induction l with
  | nil=>intro _ _; trivial
  | cons env r ih =>
   intro hs hl
   obtain ⟨hk,⟨L,o,hf,hn,ho,hd⟩,hr⟩:=hl
   have hL:L ∈ X.fs:=hs L (by unfold frs; rw [List.filterMap_cons,hf]; exact List.mem_cons_self)
   obtain ⟨sl,e⟩:=I.base.slot L o ho (I.ok.frf L hL) hL fun z=>I.ok.exfs L z hL
   exact ⟨hk,⟨L,_,hf,hn,e,hd⟩,ih (fun b hb=>hs b (by unfold frs; rw [List.filterMap_cons,hf]; exact List.mem_cons_of_mem _ hb)) hr⟩
 exact all X.outer (fun _ hb=>hb) I.ok.funs
theorem Inv.stack (I:Inv X pins σ H s):s.heap.FunFrames X.base X.stack:=by
 rcases I.ok.stk with e | ⟨e,hf⟩
 ·rw [e]; exact I.funs
 ·rw [e]
  obtain ⟨m,hn,_⟩:=I.loc
  refine .cons (by rw [I.ok.kind]; decide) hf hn ?_ I.funs
  exact Heap.get?_none_of_le (Nat.le_trans I.ok.bsz I.ok.above)
theorem Inv.stkSub (I:Inv X pins σ H s):∀ b ∈ frs X.stack,b ∈ X.env.locals :: X.fs:=fun b hb=>by
 rcases I.ok.stk with e | ⟨e,hf⟩
 ·rw [e] at hb; exact List.mem_cons_of_mem _ hb
 ·rw [e] at hb
  unfold frs at hb
  rw [List.filterMap_cons,hf] at hb
  exact hb
theorem Inv.stkFree (I:Inv X pins σ H s):∀ b ∈ frs X.stack,H b = none:=fun b hb=>by
 rcases List.mem_cons.mp (I.stkSub b hb) with e | hb
 ·rw [e]; exact I.free
 ·obtain ⟨_,o,ho,_⟩:=I.ok.funs.mem hb
  exact I.base.free b o ho (I.ok.frf b hb) fun z=>I.ok.exfs b z hb
theorem Inv.step {g':Array GenState} {t':Nat} {d':Drawn} {ch:List Addr} (I:Inv X pins σ H s)
  (hch:∀ b ∈ ch,(b ∈ X.ex \/ X.s₀.heap.objs.size <= b) /\ b ≠ X.env.locals /\ (∀ x c,X.env.cells.lookup x = some c -> c ≠ b) /\ ∀ p ∈ X.pn ++ pins,p.1 ≠ b)
  (keep:∀ b o,b ≠ X.env.locals -> b ∉ X.fs -> b ∉ ch -> s.heap.get? b = some o -> H b = none -> h'.get? b = some o)
  (slot:∀ b o,b ≠ X.env.locals -> b ∈ X.fs -> b ∉ ch -> s.heap.get? b = some o -> H b = none -> ∃ sl,h'.get? b = some { o with slots:=sl }) (free:∀ b o,b ∉ ch -> s.heap.get? b = some o -> H b = none -> H' b = none)
  (there:∀ b o,b ∉ ch -> s.heap.get? b = some o -> ∃ o',h'.get? b = some o')
  (tups:∀ b xs,H b = some (.tup xs) -> H' b = some (.tup xs)) (frzs:∀ b o u,H b = some (.frz o u) -> H' b = some (.frz o u)) (tbls:∀ b ps,H b = some (.tbl ps) -> ∃ more,H' b = some (.tbl (ps ++ more)))
  (ns:∀ m,s.heap.Ns X.env.locals m -> h'.Ns X.env.locals m) (hok:HOk X.prog X.w H' h') (hg:AllBare g') :
  Inv X pins σ H' { s with heap:=h',gens:=g',drawn:=d',toks:=t' }:=by
 have neL:∀ b o,X.s₀.heap.get? b = some o -> b ≠ X.env.locals:=fun b o e=>Nat.ne_of_lt (Nat.lt_of_lt_of_le (Heap.lt_size e) I.ok.above)
 have neC:∀ b o,X.s₀.heap.get? b = some o -> b ∉ X.ex -> b ∉ ch:=fun b o e hx hb=>by
  rcases (hch b hb).1 with z | z
  ·exact hx z
  ·exact absurd (Nat.lt_of_lt_of_le (Heap.lt_size e) z) (Nat.lt_irrefl _)
 have cellK:∀ x c,X.env.cells.lookup x = some c -> ∀ v,s.heap.IsCell c v -> h'.IsCell c v:=fun x c e v ⟨o,ho,hd⟩=>by
  have nch:c ∉ ch:=fun z=>(hch c z).2.2.1 x c e rfl
  by_cases hc:c ∈ X.fs
  ·obtain ⟨sl,q⟩:=slot c o (I.cne x c e) hc nch ho (I.freeC x c e)
   exact ⟨_,q,hd⟩
  ·exact ⟨o,keep c o (I.cne x c e) hc nch ho (I.freeC x c e),hd⟩
 refine ⟨I.ok,I.os,hg,⟨fun b o e n hb hx=>?_,fun b o e n hb hx=>?_,fun b o e n hx=>?_,fun b o e hx=>?_,fun b xs e=>tups b xs (I.base.tups b xs e),fun b o xs e=>frzs b o xs (I.base.frzs b o xs e),fun b ps e=>?_⟩,?_,fun x c e=>?_,?_,fun x c e=>?_,fun p hp=>?_,hok,I.len⟩
 ·exact keep b o (neL b o e) hb (neC b o e hx) (I.base.keep b o e n hb hx) (I.base.free b o e n hx)
 ·obtain ⟨sl,e1⟩:=I.base.slot b o e n hb hx
  obtain ⟨sl',e2⟩:=slot b _ (neL b o e) hb (neC b o e hx) e1 (I.base.free b o e n hx)
  exact ⟨sl',e2⟩
 ·obtain ⟨o',e1⟩:=I.base.there b o e hx
  exact free b o' (neC b o e hx) e1 (I.base.free b o e n hx)
 ·obtain ⟨o',e1⟩:=I.base.there b o e hx
  exact there b o' (neC b o e hx) e1
 ·obtain ⟨m1,e1⟩:=I.base.tbls b ps e
  obtain ⟨m2,e2⟩:=tbls b _ e1
  exact ⟨m1 ++ m2,by rw [e2,Array.append_assoc]⟩
 ·obtain ⟨m,hn,hl⟩:=I.loc
  refine ⟨m,ns m hn,fun i x v e1 e2 e3=>?_⟩
  obtain ⟨u,r,l⟩:=hl i x v e1 e2 e3
  refine ⟨u,r,?_⟩
  rcases l with l | ⟨k,c,e,z⟩
  ·exact .inl l
  ·exact .inr ⟨k,c,e,cellK x c e _ z⟩
 ·obtain ⟨v,z⟩:=I.cell x c e
  exact ⟨v,cellK x c e v z⟩
 ·obtain ⟨m,⟨o,_,_,ho,_⟩,_⟩:=I.loc
  exact free _ o (fun z=>(hch _ z).2.1 rfl) ho I.free
 ·obtain ⟨v,o,ho,hd⟩:=I.cell x c e
  exact free c o (fun z=>(hch c z).2.2.1 x c e rfl) ho (I.freeC x c e)
 ·obtain ⟨e,n,ne,nf,d⟩:=I.pin p hp
  have nch:p.1 ∉ ch:=fun z=>(hch p.1 z).2.2.2 p hp rfl
  exact ⟨keep p.1 p.2 ne nf nch e n,free p.1 p.2 nch e n,ne,nf,d⟩
theorem Inv.un {t':Nat} (I:Inv X pins σ H s) (u:Un X.fs [] H H' s.heap h') (hok:HOk X.prog X.w H' h'):Inv X pins σ H' { s with heap:=h',toks:=t' }:=by
 obtain ⟨m,⟨o,es,ep,ho,r⟩,_⟩:=id I.loc
 obtain ⟨sl,hL⟩:=u.any ho I.free (by simp)
 exact I.step (g':=s.gens) (d':=s.drawn) (ch:=[]) (fun _ z=>nomatch z) (fun b o _ hb _ e n=>u.keep b o e n hb (by simp)) (fun b o _ hb _ e n=>u.slot b o e n hb (by simp)) (fun b o _ e n=>u.free b o e n (by simp)) (fun b o _ e=>u.there b o e (by simp)) u.tups u.frzs u.tbls (fun m' hm=>by
  obtain ⟨o',es',ep',ho',r'⟩:=hm
  rw [ho] at ho'; cases ho'
  exact ⟨_,es',ep',hL,r'⟩) hok I.bare
theorem Inv.call {g':Array GenState} {t':Nat} {d':Drawn} {ch:List Addr} (I:Inv X pins σ H s) (u:Un (frs X.stack) ch H H' s.heap h') (hok:HOk X.prog X.w H' h') (hg:AllBare g')
  (hch:∀ b ∈ ch,(b ∈ X.ex \/ X.s₀.heap.objs.size <= b) /\ b ≠ X.env.locals /\ (∀ x c,X.env.cells.lookup x = some c -> c ≠ b) /\ ∀ p ∈ X.pn ++ pins,p.1 ≠ b) :
  Inv X pins σ H' { s with heap:=h',gens:=g',drawn:=d',toks:=t' }:=by
 obtain ⟨m,⟨o,es,ep,ho,r⟩,_⟩:=id I.loc
 obtain ⟨sl,hL⟩:=u.any ho I.free fun z=>(hch _ z).2.1 rfl
 exact I.step (ch:=ch) hch (fun b o hL hb hc e n=>u.keep b o e n (fun z=>(List.mem_cons.mp (I.stkSub b z)).elim hL hb) hc) (fun b o _ _ hc e n=>u.any e n hc) (fun b o hc e n=>u.free b o e n hc) (fun b o hc e=>u.there b o e hc) u.tups u.frzs u.tbls (fun m' hm=>by
  obtain ⟨o',es',ep',ho',r'⟩:=hm
  rw [ho] at ho'; cases ho'
  exact ⟨_,es',ep',hL,r'⟩) hok hg
theorem Inv.turned {t':Nat} {it:Addr} (I:Inv X pins σ H s) (k:∀ b o,b ≠ it -> s.heap.get? b = some o -> h'.get? b = some o) (hn:H it = none) (hL:it ≠ X.env.locals)
  (h1:it ∈ X.ex \/ X.s₀.heap.objs.size <= it) (h2:∀ x c,X.env.cells.lookup x = some c -> c ≠ it) (h3:∀ p ∈ X.pn ++ pins,p.1 ≠ it):Inv X pins σ H { s with heap:=h',toks:=t' }:=by
 have nit:∀ b u,H b = some u -> b ≠ it:=fun b u e z=>by rw [z,hn] at e; cases e
 refine I.step (g':=s.gens) (d':=s.drawn) (ch:=[it]) (fun b hb=>?_) (fun b o _ _ hc e _=>k b o (fun z=>hc (by simp [z])) e) (fun b o _ _ hc e _=>⟨o.slots,k b o (fun z=>hc (by simp [z])) e⟩) (fun _ _ _ _ n=>n)
  (fun b o hc e=>⟨o,k b o (fun z=>hc (by simp [z])) e⟩) (fun _ _ e=>e) (fun _ _ _ e=>e) (fun b ps e=>⟨#[],by rw [e]; simp⟩) (fun m hm=>?_) (fun b u e=>?_) I.bare
 ·have e:b = it:=by simpa using hb
  subst e
  exact ⟨h1,hL,h2,h3⟩
 ·obtain ⟨o,es,ep,ho,r⟩:=hm
  exact ⟨o,es,ep,k _ o (Ne.symm hL) ho,r⟩
 ·refine (I.hok b u e).stay (fun c v hc q=>k c v ?_ q) (fun _ q=>q) fun _ _ q=>q
  rcases hc with z | z
  ·rw [z]; exact nit b u e
  ·exact nit c _ z
theorem Inv.tok (I:Inv X pins σ H s) (t:Nat):Inv X pins σ H { s with toks:=t }:=I.un (h':=s.heap) (t':=t) Un.refl I.hok
theorem Inv.kept {t':Nat} (I:Inv X pins σ H s) (k:∀ b u,s.heap.get? b = some u -> h'.get? b = some u):Inv X pins σ H { s with heap:=h',toks:=t' }:=I.un (Un.kept k) (I.hok.kept k)
theorem Inv.laid {a:Addr} {o:HO} {t':Nat} (I:Inv X pins σ H s) (k:∀ b u,s.heap.get? b = some u -> h'.get? b = some u) (hp:s.heap.objs.size <= a) (new:ObjOk X.prog X.w (upd H a o) h' a o) :
  Inv X pins σ (upd H a o) { s with heap:=h',toks:=t' }:=I.un (Un.laid k hp (I.hok.fresh hp)) (I.hok.laid k hp new)
theorem Inv.write {x e:Addr} {o:HO} {t':Nat} (I:Inv X pins σ H s) (mu:Mut (H x)) (he:e = x \/ H e = some (.own x)) (k:∀ b u,b ≠ e -> s.heap.get? b = some u -> h'.get? b = some u) (heo:∃ u,h'.get? e = some u)
  (new:ObjOk X.prog X.w (upd H x o) h' x o):Inv X pins σ (upd H x o) { s with heap:=h',toks:=t' }:=I.un (Un.write mu he k heo) (I.hok.write mu he k heo new)
theorem Inv.pins_of {pins':List (Addr × Obj)} (I:Inv X pins σ H s) (h:∀ p ∈ pins',s.heap.get? p.1 = some p.2 /\ H p.1 = none /\ p.1 ≠ X.env.locals /\ p.1 ∉ X.fs /\ ∀ v,p.2.data ≠ .cell v):Inv X pins' σ H s :=
 ⟨I.ok,I.os,I.bare,I.base,I.loc,I.cell,I.free,I.freeC,fun p hp=>(List.mem_append.mp hp).elim (fun z=>I.pin p (List.mem_append_left _ z)) (h p),I.hok,I.len⟩
theorem nodup_ix {N:List Str} (hN:N.Nodup) {i j:Nat} {x:Str} (a:N[i]? = some x) (b:N[j]? = some x):i = j:=by
 obtain ⟨h1,e1⟩:=List.getElem?_eq_some_iff.mp a
 obtain ⟨h2,e2⟩:=List.getElem?_eq_some_iff.mp b
 exact (List.getElem_inj hN).mp (e1.trans e2.symm)
theorem store_ok2 {M:Model} {A:Around} {E:Value -> Shared -> Prop} {i:Nat} {x:Str} {v:V} {u:Value} {Q:Unit -> Shared -> Prop} (I:Inv X pins σ H s) (hN:X.N.Nodup) (hi:X.N[i]? = some x) (hx:Loc X.env.scope x) (r:RelV v u)
  (h:∀ s',Inv X pins (σ.set i (some v)) H s' -> (∃ a,Heap.SameBut a s.heap s'.heap /\ (a = X.env.locals \/ X.env.cells.lookup x = some a)) -> Q () s') (hf:X.fn x = true \/ X.env.scope.names.lookup x = some .local:=by first | exact .inl rfl | exact .inr rfl | assumption):wpAny M A (storeName X.env x u) Q E s:=by
 obtain ⟨m,hn,hl⟩:=id I.loc
 have hcls:(X.env.scope.kind == .class || (X.env.scope.kind == .module && X.env.locals != X.env.globals)) = false:=by rw [I.ok.kind]; rfl
 have hiσ:i < σ.length:=by rw [I.len]; exact (List.getElem?_eq_some_iff.mp hi).1
 have cne:=I.cne
 have tracked:∀ {a:Addr} {h':Heap},(∃ o,s.heap.get? a = some o /\ H a = none) -> Heap.SameBut a s.heap h' -> HOk X.prog X.w H h':=fun {a h'} ha hs b ob e=>by
  obtain ⟨_,_,hfree⟩:=ha
  refine (I.hok b ob e).stay (fun c w' hc q=>(hs.2 c ?_).trans q) (fun _ q=>q) fun _ _ q=>q
  rintro rfl
  rcases hc with rfl | hc
  ·rw [hfree] at e; cases e
  ·rw [hfree] at hc; cases hc
 rcases hx with hk | hk
 ·refine wpAny_storeName_local hk hn (fun h' hn' hs=>?_) hcls
  obtain ⟨oL,_,_,hoL,_⟩:=id hn
  refine h _ ⟨I.ok,I.os,I.bare,⟨fun b o e n hb hx=>?_,fun b o e n hb hx=>?_,I.base.free,fun b o e hx=>?_,I.base.tups,I.base.frzs,I.base.tbls⟩,⟨_,hn',fun j y v' e1 e2 e3=>?_⟩,fun y c e=>?_,I.free,I.freeC,fun p hp=>?_,tracked ⟨oL,hoL,I.free⟩ hs,by simpa using I.len⟩ ⟨_,hs,.inl rfl⟩
  ·exact (hs.2 b (Nat.ne_of_lt (Nat.lt_of_lt_of_le (Heap.lt_size e) I.ok.above))).trans (I.base.keep b o e n hb hx)
  ·obtain ⟨sl,e1⟩:=I.base.slot b o e n hb hx
   exact ⟨sl,(hs.2 b (Nat.ne_of_lt (Nat.lt_of_lt_of_le (Heap.lt_size e) I.ok.above))).trans e1⟩
  ·obtain ⟨o',e1⟩:=I.base.there b o e hx
   exact ⟨o',(hs.2 b (Nat.ne_of_lt (Nat.lt_of_lt_of_le (Heap.lt_size e) I.ok.above))).trans e1⟩
  ·by_cases hj:j = i
   ·subst hj
    rw [hi] at e1; cases e1
    rw [List.getElem?_set_self hiσ] at e2
    cases e2
    exact ⟨u,r,.inl ⟨hk,by simp⟩⟩
   ·rw [List.getElem?_set_ne (Ne.symm hj)] at e2
    obtain ⟨u',r',q⟩:=hl j y v' e1 e2 e3
    refine ⟨u',r',?_⟩
    rcases q with ⟨k,e⟩ | ⟨k,c,e,z⟩
    ·refine .inl ⟨k,?_⟩
     have:y ≠ x:=fun e=>hj (nodup_ix hN e1 (e ▸ hi))
     simp [this,e]
    ·exact .inr ⟨k,c,e,z.sameBut hs (cne y c e)⟩
  ·obtain ⟨w',z⟩:=I.cell y c e
   exact ⟨w',z.sameBut hs (cne y c e)⟩
  ·obtain ⟨e,n,ne,nf,d⟩:=I.pin p hp
   exact ⟨(hs.2 p.1 ne).trans e,n,ne,nf,d⟩
 ·have hfn:X.fn x = true:=by
   rcases hf with z | z
   ·exact z
   ·rw [z] at hk; cases hk
  obtain ⟨c,hc⟩:=I.ok.has x (.inl hk)
  obtain ⟨w',z⟩:=I.cell x c hc
  refine wpAny_storeName_cell I.ok.kind hk hc z (fun h' hc' hs=>?_)
  obtain ⟨oc,hoc,hocd⟩:=id z
  refine h { s with heap:=h' } ⟨I.ok,I.os,I.bare,⟨fun b o e n hb hx=>?_,fun b o e n hb hx=>?_,I.base.free,fun b o e hx=>?_,I.base.tups,I.base.frzs,I.base.tbls⟩,⟨m,hn.sameBut hs (Ne.symm (cne x c hc)),fun j y v' e1 e2 e3=>?_⟩,fun y c' e=>?_,I.free,I.freeC,fun p hp=>?_,tracked ⟨oc,hoc,I.freeC x c hc⟩ hs,by simpa using I.len⟩ ⟨c,hs,.inr hc⟩
  ·exact (hs.2 b (Nat.ne_of_lt (Nat.lt_of_lt_of_le (Heap.lt_size e) (I.ok.cab x c hfn hc)))).trans (I.base.keep b o e n hb hx)
  ·obtain ⟨sl,e1⟩:=I.base.slot b o e n hb hx
   exact ⟨sl,(hs.2 b (Nat.ne_of_lt (Nat.lt_of_lt_of_le (Heap.lt_size e) (I.ok.cab x c hfn hc)))).trans e1⟩
  ·obtain ⟨o',e1⟩:=I.base.there b o e hx
   exact ⟨o',(hs.2 b (Nat.ne_of_lt (Nat.lt_of_lt_of_le (Heap.lt_size e) (I.ok.cab x c hfn hc)))).trans e1⟩
  ·by_cases hj:j = i
   ·subst hj
    rw [hi] at e1; cases e1
    rw [List.getElem?_set_self hiσ] at e2
    cases e2
    exact ⟨u,r,.inr ⟨.inl hk,c,hc,hc'⟩⟩
   ·rw [List.getElem?_set_ne (Ne.symm hj)] at e2
    obtain ⟨u',r',q⟩:=hl j y v' e1 e2 e3
    refine ⟨u',r',?_⟩
    rcases q with q | ⟨k,c',e,z'⟩
    ·exact .inl q
    ·refine .inr ⟨k,c',e,z'.sameBut hs ?_⟩
     rintro rfl
     exact hj (nodup_ix hN e1 (I.ok.inj _ _ _ e hc ▸ hi))
  ·by_cases hcc:c' = c
   ·subst hcc; exact ⟨_,hc'⟩
   ·obtain ⟨w2,z2⟩:=I.cell y c' e
    exact ⟨w2,z2.sameBut hs hcc⟩
  ·obtain ⟨e,n,ne,nf,d⟩:=I.pin p hp
   refine ⟨(hs.2 p.1 ?_).trans e,n,ne,nf,d⟩
   intro q
   rw [q,hoc] at e
   have q':oc = p.2:=Option.some.inj e
   exact d w' (by rw [<- q']; exact hocd)
theorem store_ok {M:Model} {A:Around} {E:Value -> Shared -> Prop} {i:Nat} {x:Str} {v:V} {u:Value} {Q:Unit -> Shared -> Prop} (I:Inv X pins σ H s) (hN:X.N.Nodup) (hi:X.N[i]? = some x) (hx:Loc X.env.scope x) (r:RelV v u)
  (h:∀ s',Inv X pins (σ.set i (some v)) H s' -> Q () s') (hf:X.fn x = true \/ X.env.scope.names.lookup x = some .local:=by first | exact .inl rfl | exact .inr rfl | assumption):wpAny M A (storeName X.env x u) Q E s :=
 store_ok2 I hN hi hx r (fun s' I' _=>h s' I') hf
theorem Inv.call' {s':Shared} {ch:List Addr} (I:Inv X pins σ H s) (ho:s'.os = s.os) (u:Un (frs X.stack) ch H H' s.heap s'.heap) (hok:HOk X.prog X.w H' s'.heap) (hg:AllBare s'.gens)
  (hch:∀ b ∈ ch,(b ∈ X.ex \/ X.s₀.heap.objs.size <= b) /\ b ≠ X.env.locals /\ (∀ x c,X.env.cells.lookup x = some c -> c ≠ b) /\ ∀ p ∈ X.pn ++ pins,p.1 ≠ b):Inv X pins σ H' s':=by
 obtain ⟨h',g',d',t',o'⟩:=s'
 have e:o' = s.os:=ho
 subst e
 exact I.call (g':=g') (t':=t') (d':=d') u hok hg hch
end
abbrev XK:=Value -> Option Addr -> Hp -> Prop
abbrev St:=List (Option V)
abbrev VK:=V -> Hp -> Prop
abbrev TE:=St -> Hp -> VK -> Prop
abbrev TT:=St -> Hp -> (Bool -> Hp -> Prop) -> Prop
abbrev TA:=St -> Hp -> (List V -> Hp -> Prop) -> Prop
structure Ends where
 nx:St -> Hp -> Prop
 rt:VK
 bk:St -> Hp -> Prop:=fun _ _=>False
 ct:St -> Hp -> Prop:=fun _ _=>False
abbrev TS:=Ends -> St -> Hp -> Prop
def EP (X:Cx) (pins:List (Addr × Obj)) (σ:St) (Q:VK) (u:Value) (s':Shared):Prop:=∃ v H',Inv X pins σ H' s' /\ RelV v u /\ Q v H'
def TP (X:Cx) (pins:List (Addr × Obj)) (σ:St) (Q:Bool -> Hp -> Prop) (b:Bool) (s':Shared):Prop:=∃ H',Inv X pins σ H' s' /\ Q b H'
def AP (X:Cx) (pins:List (Addr × Obj)) (σ:St) (Q:List V -> Hp -> Prop) (us:List Value) (s':Shared):Prop:=∃ vs H',Inv X pins σ H' s' /\ Vals vs us /\ Q vs H'
def SP (X:Cx) (pins:List (Addr × Obj)) (D:Ends) (f:Flow) (s':Shared):Prop :=
 match f with
 | .next=>∃ σ' H',Inv X pins σ' H' s' /\ D.nx σ' H'
 | .brk=>∃ σ' H',Inv X pins σ' H' s' /\ D.bk σ' H'
 | .cont=>∃ σ' H',Inv X pins σ' H' s' /\ D.ct σ' H'
 | .ret u=>∃ v σ' H',Inv X pins σ' H' s' /\ RelV v u /\ D.rt v H'
def PE (X:Cx) (e:Expr) (t:TE):Prop :=
 ∀ (pins:List (Addr × Obj)) (s:Shared) (σ:St) (H:Hp) (Q:VK),Inv X pins σ H s -> t σ H Q -> wpAny (model X.prog X.w) X.A (eval e X.env) (EP X pins σ Q) X.xe s
def PT (X:Cx) (e:Expr) (t:TT):Prop :=
 ∀ (pins:List (Addr × Obj)) (s:Shared) (σ:St) (H:Hp) (Q:Bool -> Hp -> Prop),Inv X pins σ H s -> t σ H Q -> wpAny (model X.prog X.w) X.A (isTrue e X.env (eval e X.env)) (TP X pins σ Q) X.xe s
def PW (X:Cx) (e:Expr) (t:TT):Prop :=
 ∀ (whole:Sem Value) (pins:List (Addr × Obj)) (s:Shared) (σ:St) (H:Hp) (Q:Bool -> Hp -> Prop),Inv X pins σ H s -> t σ H Q -> wpAny (model X.prog X.w) X.A (isTrue e X.env whole) (TP X pins σ Q) X.xe s
theorem PW.pt {X:Cx} {e:Expr} {t:TT} (h:PW X e t):PT X e t:=h _
def PA (X:Cx) (es:List Expr) (t:TA):Prop :=
 ∀ (pos:Pos) (pins:List (Addr × Obj)) (s:Shared) (σ:St) (H:Hp) (Q:List V -> Hp -> Prop),Inv X pins σ H s -> t σ H Q -> wpAny (model X.prog X.w) X.A (spliced (backTo pos (starEach es X.env))) (AP X pins σ Q) X.xe s
def PS (X:Cx) (st:Stmt) (t:TS):Prop :=
 ∀ (pins:List (Addr × Obj)) (s:Shared) (σ:St) (H:Hp) (D:Ends),Inv X pins σ H s -> t D σ H -> wpAny (model X.prog X.w) X.A (exec st X.env) (SP X pins D) X.xe s
def PSs (X:Cx) (st:List Stmt) (t:TS):Prop :=
 ∀ (pins:List (Addr × Obj)) (s:Shared) (σ:St) (H:Hp) (D:Ends),Inv X pins σ H s -> t D σ H -> wpAny (model X.prog X.w) X.A (execs st X.env) (SP X pins D) X.xe s
theorem thn {α:Type} {t:Sem α} {Q Q':α -> Shared -> Prop} {M:Model} {A:Around} {E:Value -> Shared -> Prop} {s:Shared} (h:wpAny M A t Q E s) (hQ:∀ a s,Q a s -> Q' a s):wpAny M A t Q' E s:=wpAny_mono h hQ fun _ _ x=>x
end L2
namespace L2
open PySem PySem.Spec PyProof.Rows
section
variable {X:Cx}
def tVar (i:Nat):TE:=fun σ H Q=>∃ v,σ[i]? = some (some v) /\ Q v H
def tC (v:V):TE:=fun _ H Q=>Q v H
theorem pe_var {i:Nat} {x:Str} {pos:Pos} (hN:X.N[i]? = some x) (hv:Vis X.env.scope x) (hd:(x == ("__debug__" : Str)) = false:=by decide) (hcd:(x == ("__classdict__" : Str)) = false:=by decide):PE X (.Name x pos) (tVar i):=by
 intro pins s σ H Q I h
 obtain ⟨v,e,h⟩:=h
 obtain ⟨m,hn,hl⟩:=I.loc
 obtain ⟨u,r,l⟩:=hl i x v hN e hv
 have fin:EP X pins σ Q u s:=⟨v,H,I,r,h⟩
 rcases l with ⟨hk,hm⟩ | ⟨hk,c,hc,hcell⟩
 ·exact wpAny_Name (wpAny_loadName_local I.ok.kind hk hn hm fin) hd
 ·rcases hk with hk | hk
  ·exact wpAny_Name (wpAny_loadName_cell I.ok.kind hk hc hcell fin) hd
  ·exact wpAny_Name (wpAny_loadName_free I.ok.kind hk hc hcell fin hcd) hd
theorem pe_int {i j pos}:PE X (.Constant (.int i) j pos) (tC (.int i)):=fun _ _ _ H _ I h=>wpAny_Constant_int ⟨.int i,H,I.tok _,⟨_,rfl⟩,h⟩
theorem pe_bl {b j pos}:PE X (.Constant (.bool b) j pos) (tC (.bl b)):=fun _ _ _ H _ I h=>Constant_bool ⟨.bl b,H,I,rfl,h⟩
theorem pe_non {j pos}:PE X (.Constant .none j pos) (tC .non):=fun _ _ _ H _ I h=>Constant_none ⟨.non,H,I,rfl,h⟩
def Gl (X:Cx) (x:Str):Prop:=X.env.kindOf x = some .globalImplicit
theorem ld_glob {E:Value -> Shared -> Prop} {pins:List (Addr × Obj)} {s:Shared} {σ:St} {H:Hp} {x:Str} {u:Value} {pos:Pos} {Q:Value -> Shared -> Prop} (I:Inv X pins σ H s) (hg:Gl X x) (hm:X.mg x = some u) (h:Q u s)
  (hd:(x == ("__debug__" : Str)) = false:=by decide):wpAny (model X.prog X.w) X.A (eval (.Name x pos) X.env) Q E s :=
 Calls.Name_function_global I.ok.kind hg (Calls.loadGlobal_global (by rw [I.ok.glob]; exact I.mod.glob.keeps I.bk) hm h) hd
theorem ld_blt {E:Value -> Shared -> Prop} {pins:List (Addr × Obj)} {s:Shared} {σ:St} {H:Hp} {x:Str} {u:Value} {pos:Pos} {Q:Value -> Shared -> Prop} (I:Inv X pins σ H s) (hg:Gl X x) (hm:X.mg x = none) (hv:bootBuiltins x = some u) (h:Q u s)
  (hn:x ≠ "__name__":=by decide) (hd:(x == ("__debug__" : Str)) = false:=by decide):wpAny (model X.prog X.w) X.A (eval (.Name x pos) X.env) Q E s:=by
 obtain ⟨mb,h1,h2⟩:=I.mod.blt
 exact Calls.Name_function_global I.ok.kind hg (Calls.loadGlobal_builtin (by rw [I.ok.glob]; exact I.mod.glob.keeps I.bk) hm (by rw [I.ok.blt]; exact h1.keeps I.bk) ((h2 x hn).trans hv) h) hd
theorem pe_glob {x:Str} {v:V} {u:Value} {pos:Pos} (hg:Gl X x) (hm:X.mg x = some u) (r:RelV v u) (hd:(x == ("__debug__" : Str)) = false:=by decide):PE X (.Name x pos) (tC v) :=
 fun _ _ _ H _ I h=>ld_glob I hg hm ⟨v,H,I,r,h⟩ hd
theorem pe_bltn {x:Str} {v:V} {u:Value} {pos:Pos} (hg:Gl X x) (hm:X.mg x = none) (hv:bootBuiltins x = some u) (r:RelV v u) (hn:x ≠ "__name__":=by decide) (hd:(x == ("__debug__" : Str)) = false:=by decide):PE X (.Name x pos) (tC v) :=
 fun _ _ _ H _ I h=>ld_blt I hg hm hv ⟨v,H,I,r,h⟩ hn hd
variable {a b:Expr} {ta tb:TE} {pos:Pos}
def tB (t:TE):TT:=fun σ H Q=>t σ H fun x H1=>∃ c,x = .bl c /\ Q c H1
theorem pt_val {e:Expr} {t:TE} (h:PE X e t) (he:∀ whole,isTrue e X.env whole = (do let v <- whole; standAt e.pos; holding [v] (truthy v)):=by intro _; rfl):PT X e (tB t):=by
 intro pins s σ H Q I hw
 refine isTrue_plain (thn (h pins s σ H _ I hw) fun v s1 ⟨x,H1,I1,r1,q1⟩=>?_) (he _)
 obtain ⟨d,rfl,q⟩:=q1
 cases r1
 exact wpAny_truthy_bool ⟨H1,I1,q⟩
variable {tA tB':TT} {rest:List Expr}
def tAnd (t u:TT):TT:=fun σ H Q=>t σ H fun c H1=>if c = true then u σ H1 Q else Q false H1
def tOr (t u:TT):TT:=fun σ H Q=>t σ H fun c H1=>if c = true then Q true H1 else u σ H1 Q
def tNot (t:TT):TT:=fun σ H Q=>t σ H fun c H1=>Q (!c) H1
theorem pw_and1 (ha:PT X a tA):PW X (.BoolOp .And [a] pos) tA:=by
 intro wh pins s σ H Q I h
 refine isTrue_and (thn (ha pins s σ H Q I h) fun c s1 e=>?_)
 cases c with
 | true=>exact isTrue_and_nil e
 | false=>exact e
theorem pw_or1 (ha:PT X a tA):PW X (.BoolOp .Or [a] pos) tA:=by
 intro wh pins s σ H Q I h
 refine isTrue_or (thn (ha pins s σ H Q I h) fun c s1 e=>?_)
 cases c with
 | false=>exact isTrue_or_nil e
 | true=>exact e
theorem pw_and (ha:PT X a tA) (hb:PW X (.BoolOp .And (b :: rest) pos) tB'):PW X (.BoolOp .And (a :: b :: rest) pos) (tAnd tA tB'):=by
 intro wh pins s σ H Q I h
 refine isTrue_and (thn (ha pins s σ H _ I h) fun c s1 ⟨H1,I1,q1⟩=>?_)
 cases c with
 | true=>exact hb wh pins s1 σ H1 Q I1 q1
 | false=>exact ⟨H1,I1,q1⟩
theorem pw_or (ha:PT X a tA) (hb:PW X (.BoolOp .Or (b :: rest) pos) tB'):PW X (.BoolOp .Or (a :: b :: rest) pos) (tOr tA tB'):=by
 intro wh pins s σ H Q I h
 refine isTrue_or (thn (ha pins s σ H _ I h) fun c s1 ⟨H1,I1,q1⟩=>?_)
 cases c with
 | true=>exact ⟨H1,I1,q1⟩
 | false=>exact hb wh pins s1 σ H1 Q I1 q1
theorem pt_not (ha:PT X a tA):PT X (.UnaryOp .Not a pos) (tNot tA):=by
 intro pins s σ H Q I h
 exact isTrue_not (ha pins s σ H (fun c H1=>Q (!c) H1) I h)
def tAndV (ta tb:TE):TE:=fun σ H Q=>ta σ H fun x H1=>∃ c,x = .bl c /\ if c = true then tb σ H1 Q else Q (.bl false) H1
def tOrV (ta tb:TE):TE:=fun σ H Q=>ta σ H fun x H1=>∃ c,x = .bl c /\ if c = true then Q (.bl true) H1 else tb σ H1 Q
def tNotV (ta:TE):TE:=fun σ H Q=>ta σ H fun x H1=>∃ c,x = .bl c /\ Q (.bl (!c)) H1
theorem pe_one {op} {t:TE} (h:PE X a t):PE X (.BoolOp op [a] pos) t:=fun pins s σ H Q I hw=>BoolOp_one (h pins s σ H Q I hw)
theorem pe_and (ha:PE X a ta) (hb:PE X (.BoolOp .And (b :: rest) pos) tb):PE X (.BoolOp .And (a :: b :: rest) pos) (tAndV ta tb):=by
 intro pins s σ H Q I h
 refine BoolOp_and (thn (ha pins s σ H _ I h) fun v s1 ⟨x,H1,I1,r1,q1⟩=>?_)
 obtain ⟨c,rfl,q1⟩:=q1
 cases r1
 refine wpAny_truthy_bool ?_
 cases c with
 | true=>exact hb pins s1 σ H1 Q I1 q1
 | false=>exact ⟨.bl false,H1,I1,rfl,q1⟩
theorem pe_or (ha:PE X a ta) (hb:PE X (.BoolOp .Or (b :: rest) pos) tb):PE X (.BoolOp .Or (a :: b :: rest) pos) (tOrV ta tb):=by
 intro pins s σ H Q I h
 refine BoolOp_or (thn (ha pins s σ H _ I h) fun v s1 ⟨x,H1,I1,r1,q1⟩=>?_)
 obtain ⟨c,rfl,q1⟩:=q1
 cases r1
 refine wpAny_truthy_bool ?_
 cases c with
 | false=>exact hb pins s1 σ H1 Q I1 q1
 | true=>exact ⟨.bl true,H1,I1,rfl,q1⟩
theorem pe_not (ha:PE X a ta):PE X (.UnaryOp .Not a pos) (tNotV ta):=by
 intro pins s σ H Q I h
 refine UnaryOp_ (thn (ha pins s σ H _ I h) fun v s1 ⟨x,H1,I1,r1,q1⟩=>?_)
 obtain ⟨c,rfl,q1⟩:=q1
 cases r1
 exact not_of (wpAny_truthy_bool ⟨.bl (!c),H1,I1,rfl,q1⟩)
def tIf (t:TT) (ta tb:TE):TE:=fun σ H Q=>t σ H fun c H1=>if c = true then ta σ H1 Q else tb σ H1 Q
theorem pe_ifExp {c:Expr} (hc:PT X c tA) (ha:PE X a ta) (hb:PE X b tb):PE X (.IfExp c a b pos) (tIf tA ta tb):=by
 intro pins s σ H Q I h
 refine wpAny_IfExp (thn (hc pins s σ H _ I h) fun d s1 ⟨H1,I1,q1⟩=>?_)
 cases d with
 | true=>exact ha pins s1 σ H1 Q I1 q1
 | false=>exact hb pins s1 σ H1 Q I1 q1
end
end L2
namespace L2
open PySem PySem.Spec PyProof.Rows
def SqL (K:PySem.W.Frag) (H:Hp) (a:Addr) (xs:List V):Prop :=
 Rd H a (.lst xs) \/
  ∃ (o:Obj) (its:Array Value) (n:Nat),K.lookup a = some o /\ o.cls = .type "list" /\ o.dict = none /\ o.data = .seq its n /\ its.size <= sizeLine /\ Vals xs its.toList
def SqT (K:PySem.W.Frag) (H:Hp) (a:Addr) (xs:List V):Prop :=
 Rd H a (.tup xs) \/
  ∃ (o:Obj) (its:Array Value) (n:Nat),K.lookup a = some o /\ o.cls = .type "tuple" /\ o.data = .seq its n /\ its.size <= sizeLine /\ Vals xs its.toList
def absV:Value -> Option V
 | .none=>some .non
 | .bool b=>some (.bl b)
 | .int i _=>some (.int i)
 | .str x _=>some (.str x)
 | .bytes b _=>some (.byt b)
 | .float b _=>some (.flt b)
 | .ref a=>some (.ref a)
 | .type n=>some (.ty n)
 | _=>none
theorem RelV.abs {x:V} {u:Value} (r:RelV x u):absV u = some x:=by
 cases x with
 | non=>cases r; rfl
 | bl _=>cases r; rfl
 | int _=>obtain ⟨t,rfl⟩:=r; rfl
 | str _=>obtain ⟨t,rfl⟩:=r; rfl
 | byt _=>obtain ⟨t,rfl⟩:=r; rfl
 | flt _=>obtain ⟨t,rfl⟩:=r; rfl
 | ref _=>cases r; rfl
 | ty _=>cases r; rfl
theorem RelV.inj {x y:V} {u:Value} (r:RelV x u) (q:RelV y u):x = y:=Option.some.inj (r.abs.symm.trans q.abs)
theorem Vals.inj:∀ {xs ys:List V} {us:List Value},Vals xs us -> Vals ys us -> xs = ys
 | _,_,_,.nil,.nil=>rfl
 | _,_,_,.cons r t,.cons r' t'=>by rw [r.inj r',Vals.inj t t']
section
variable {X:Cx} {pins:List (Addr × Obj)} {σ:St} {H:Hp} {s:Shared} {a:Addr} {xs ys:List V}
theorem SqL.of {K:PySem.W.Frag} (h:H a = some (.lst xs)):SqL K H a xs:=.inl (.inl h)
theorem SqT.of {K:PySem.W.Frag} (h:H a = some (.tup xs)):SqT K H a xs:=.inl (.inl h)
theorem Inv.list (I:Inv X pins σ H s) (h:SqL X.K H a xs):∃ its:List Value,Vals xs its /\ PlainL s.heap a its.toArray /\ xs.length <= sizeLine:=by
 rcases h with h | ⟨o,its,n,hk,hc,hd,hs,hz,r⟩
 ·obtain ⟨z,its,n,r,e⟩:=h.ok I.hok
  exact ⟨its,r,⟨_,n,e,rfl,rfl,rfl⟩,z⟩
 ·refine ⟨its.toList,r,⟨o,n,I.kIn a o hk,hc,hd,by simpa using hs⟩,?_⟩
  have e:=r.length
  simp only [Array.length_toList] at e
  walk_at "o"
theorem Inv.tuple (I:Inv X pins σ H s) (h:SqT X.K H a xs):∃ its:List Value,Vals xs its /\ IsTup s.heap a its.toArray /\ xs.length <= sizeLine:=by
 rcases h with h | ⟨o,its,n,hk,hc,hs,hz,r⟩
 ·obtain ⟨z,its,r,p⟩:=h.ok I.hok
  exact ⟨its,r,p,z⟩
 ·refine ⟨its.toList,r,⟨o,I.kIn a o hk,hc,n,by simpa using hs⟩,?_⟩
  have e:=r.length
  simp only [Array.length_toList] at e
  walk_at "o"
theorem Inv.list_inj (I:Inv X pins σ H s) (h:SqL X.K H a xs) (h':SqL X.K H a ys):xs = ys:=by
 obtain ⟨its,r,⟨o,n,e,_,_,d⟩,_⟩:=I.list h
 obtain ⟨its',r',⟨o',n',e',_,_,d'⟩,_⟩:=I.list h'
 rw [e] at e'; cases e'
 rw [d] at d'
 injection d' with d1 _
 have:its = its':=by simpa using congrArg Array.toList d1
 subst this
 exact r.inj r'
end
abbrev Cx.wish (X:Cx) (E:Value -> Shared -> Prop):Cx:={ X with xe:=E }
abbrev Cx.nox (X:Cx):Cx:=X.wish fun _ _=>False
theorem Cx.Ok.wish {X:Cx} (ok:X.Ok) (E:Value -> Shared -> Prop):(X.wish E).Ok :=
 ⟨ok.mod,ok.kind,ok.glob,ok.blt,ok.above,ok.inj,ok.has,ok.cab,ok.hd,ok.frames,ok.stk,ok.exf,ok.bs,ok.bsz,ok.noex,ok.exfs,ok.funs,ok.frf⟩
theorem Cx.Ok.unwish {X:Cx} {E:Value -> Shared -> Prop} (ok:(X.wish E).Ok):X.Ok :=
 ⟨ok.mod,ok.kind,ok.glob,ok.blt,ok.above,ok.inj,ok.has,ok.cab,ok.hd,ok.frames,ok.stk,ok.exf,ok.bs,ok.bsz,ok.noex,ok.exfs,ok.funs,ok.frf⟩
section
variable {X:Cx} {pins:List (Addr × Obj)} {σ:St} {H:Hp} {s:Shared} {E:Value -> Shared -> Prop}
theorem Inv.wish (I:Inv X pins σ H s) (E:Value -> Shared -> Prop):Inv (X.wish E) pins σ H s:=⟨I.ok.wish E,I.os,I.bare,I.base,I.loc,I.cell,I.free,I.freeC,I.pin,I.hok,I.len⟩
theorem Inv.unwish (I:Inv (X.wish E) pins σ H s):Inv X pins σ H s:=⟨I.ok.unwish,I.os,I.bare,I.base,I.loc,I.cell,I.free,I.freeC,I.pin,I.hok,I.len⟩
theorem SP.unwish {D:Ends} {f:Flow} {s':Shared} (h:SP (X.wish E) pins D f s'):SP X pins D f s':=by
 cases f with
 | next=>obtain ⟨σ',H',I,q⟩:=h; exact ⟨σ',H',I.unwish,q⟩
 | brk=>obtain ⟨σ',H',I,q⟩:=h; exact ⟨σ',H',I.unwish,q⟩
 | cont=>obtain ⟨σ',H',I,q⟩:=h; exact ⟨σ',H',I.unwish,q⟩
 | ret u=>obtain ⟨v,σ',H',I,r,q⟩:=h; exact ⟨v,σ',H',I.unwish,r,q⟩
theorem PSs.nox {st:List Stmt} {t:TS} (h:PSs X.nox st t):PSs X st t:=fun pins s σ H D I hw =>
 wpAny_mono (h pins s σ H D (I.wish _) hw) (fun _ _ q=>q.unwish) fun _ _ z=>False.elim z
end
section
variable {X:Cx} {st:Stmt} {rest:List Stmt} {t u:TS} {e:Expr} {te:TE} {pos:Pos}
def tNext:TS:=fun D σ H=>D.nx σ H
def tSeq (t u:TS):TS:=fun D σ H=>t { D with nx:=u D } σ H
theorem pss_nil:PSs X [] tNext:=fun _ _ σ H _ I h=>wpAny_execs_nil ⟨σ,H,I,h⟩
theorem pss_cons (h1:PS X st t) (h2:PSs X rest u):PSs X (st :: rest) (tSeq t u):=by
 intro pins s σ H D I h
 refine wpAny_execs_cons (thn (h1 pins s σ H { D with nx:=u D } I h) fun f s1 q=>?_)
 cases f with
 | next =>
  obtain ⟨σ',H',I',q⟩:=q
  exact h2 pins s1 σ' H' D I' q
 | ret v=>exact q
 | brk=>exact q
 | cont=>exact q
theorem pss_one (h1:PS X st t):PSs X [st] t:=by
 intro pins s σ H D I h
 refine wpAny_execs_cons (thn (h1 pins s σ H D I h) fun f s1 q=>?_)
 cases f with
 | next=>exact wpAny_execs_nil q
 | ret v=>exact q
 | brk=>exact q
 | cont=>exact q
theorem Inv.quiet {pins:List (Addr × Obj)} {σ:St} {H:Hp} {s:Shared} (I:Inv X pins σ H s):interactive X.env = false:=by simp [interactive,I.ok.kind]
def tDrop (te:TE):TS:=fun D σ H=>te σ H fun _ H1=>D.nx σ H1
theorem ps_expr (he:PE X e te) (hs:swapsWith e none pos.line X.env = pure false:=by rfl):PS X (.Expr e pos) (tDrop te):=by
 intro pins s σ H D I h
 exact wpAny_Expr_any (thn (he pins s σ H _ I h) fun v s1 ⟨x,H1,I1,r1,q1⟩=>⟨σ,H1,I1,q1⟩) I.quiet hs
def tRet (te:TE):TS:=fun D σ H=>te σ H D.rt
theorem ps_ret (he:PE X e te):PS X (.Return (some e) pos) (tRet te):=by
 intro pins s σ H D I h
 exact wpAny_Return_some (thn (he pins s σ H _ I h) fun v s1 ⟨x,H1,I1,r1,q1⟩=>⟨x,σ,H1,I1,r1,q1⟩)
def tRetN:TS:=fun D _ H=>D.rt .non H
def tIfS (c:TT) (t u:TS):TS:=fun D σ H=>c σ H fun b H1=>if b = true then t D σ H1 else u D σ H1
theorem ps_if {c:Expr} {a b:List Stmt} {tc:TT} (hc:PT X c tc) (ha:PSs X a t) (hb:PSs X b u):PS X (.If c a b pos) (tIfS tc t u):=by
 intro pins s σ H D I h
 refine wpAny_If (thn (hc pins s σ H _ I h) fun d s1 ⟨H1,I1,q1⟩=>?_)
 cases d with
 | true=>exact ha pins s1 σ H1 D I1 q1
 | false=>exact hb pins s1 σ H1 D I1 q1
def tNever:TS:=fun _ _ _=>False
end
abbrev TG:=V -> St -> Hp -> (St -> Hp -> Prop) -> Prop
abbrev TGs:=List V -> St -> Hp -> (St -> Hp -> Prop) -> Prop
def PG (X:Cx) (target:Expr) (t:TG):Prop :=
 ∀ (pins:List (Addr × Obj)) (s:Shared) (σ:St) (H:Hp) (v:V) (u:Value) (Q:St -> Hp -> Prop),Inv X pins σ H s -> RelV v u -> t v σ H Q ->
  wpAny (model X.prog X.w) X.A (assign target X.env u) (fun _ s'=>∃ σ' H',Inv X pins σ' H' s' /\ Q σ' H') X.xe s
def PGs (X:Cx) (ts:List Expr) (t:TGs):Prop :=
 ∀ (pins:List (Addr × Obj)) (s:Shared) (σ:St) (H:Hp) (vs:List V) (us:List Value) (Q:St -> Hp -> Prop),Inv X pins σ H s -> Vals vs us -> t vs σ H Q ->
  wpAny (model X.prog X.w) X.A (assignInOrder ((assignEach ts X.env).map (·.2)) us) (fun _ s'=>∃ σ' H',Inv X pins σ' H' s' /\ Q σ' H') X.xe s
abbrev TSet:=V -> V -> V -> Hp -> (Hp -> Prop) -> Prop
def PSet (X:Cx) (t:TSet):Prop :=
 ∀ (pins:List (Addr × Obj)) (s:Shared) (σ:St) (H:Hp) (o i v:V) (ov iv u:Value) (Q:Hp -> Prop),Inv X pins σ H s -> RelV o ov -> RelV i iv -> RelV v u -> t o i v H Q ->
  wpAny (model X.prog X.w) X.A (setItem ov iv u) (fun _ s'=>∃ H',Inv X pins σ H' s' /\ Q H') X.xe s
abbrev TIp:=V -> V -> Hp -> VK -> Prop
def PIp (X:Cx) (op:Operator) (t:TIp):Prop :=
 ∀ (pins:List (Addr × Obj)) (s:Shared) (σ:St) (H:Hp) (x y:V) (v u:Value) (Q:VK),Inv X pins σ H s -> RelV x v -> RelV y u -> t x y H Q ->
  wpAny (model X.prog X.w) X.A (inplaceOp op v u) (EP X pins σ Q) X.xe s
section
variable {X:Cx} {pos:Pos}
def gName (i:Nat):TG:=fun v σ H Q=>Q (σ.set i (some v)) H
theorem pg_name {i:Nat} {x:Str} (hN:X.N.Nodup) (hi:X.N[i]? = some x) (hx:Loc X.env.scope x) (hf:X.fn x = true \/ X.env.scope.names.lookup x = some .local:=by first | exact .inl rfl | exact .inr rfl | assumption):PG X (.Name x pos) (gName i):=by
 intro pins s σ H v u Q I r h
 exact wpAny_assign_Name (store_ok I hN hi hx r (fun s' I'=>⟨_,H,I',h⟩) hf)
def gNil:TGs:=fun vs σ H Q=>vs = [] /\ Q σ H
def gCons (t:TG) (u:TGs):TGs:=fun vs σ H Q=>∃ v r,vs = v :: r /\ t v σ H fun σ' H'=>u r σ' H' Q
theorem pgs_nil:PGs X [] gNil:=by
 intro pins s σ H vs us Q I r h
 obtain ⟨e,h⟩:=h
 subst e
 cases r
 exact assignInOrder_nil ⟨σ,H,I,h⟩
theorem pgs_cons {e:Expr} {es:List Expr} {t:TG} {u:TGs} (h1:PG X e t) (h2:PGs X es u)
  (hs:(assignEach (e :: es) X.env).map (·.2) = assign e X.env :: (assignEach es X.env).map (·.2):=by rfl):PGs X (e :: es) (gCons t u):=by
 intro pins s σ H vs us Q I r h
 obtain ⟨v,vr,e1,h⟩:=h
 subst e1
 cases r with
 | cons r rr =>
  rw [hs]
  refine assignInOrder_cons (thn (h1 pins s σ H _ _ _ I r h) fun _ s1 ⟨σ1,H1,I1,q1⟩=>?_)
  exact h2 pins s1 σ1 H1 _ _ Q I1 rr q1
def gTup (K:PySem.W.Frag) (n:Nat) (t:TGs):TG:=fun v σ H Q=>∃ a xs,v = .ref a /\ SqT K H a xs /\ xs.length = n /\ t xs σ H Q
theorem pg_tup {es:List Expr} {k:Nat} {t:TGs} {n:Nat} (hc:X.calm = true) (h:PGs X es t)
  (hn:(assignEach es X.env).length = n:=by rfl) (hst:(assignEach es X.env).findIdx? (·.1) = none:=by rfl):PG X (.Tuple es k pos) (gTup X.K n t):=by
 intro pins s σ H v u Q I r hw
 obtain ⟨a,xs,e1,hq,hl,hw⟩:=hw
 subst e1
 cases r
 obtain ⟨its,rv,ht,hz⟩:=I.tuple hq
 refine assign_Tuple_tuple (I.ok.hd hc) ht (by simp [hn,<- hl,rv.length]) hst fun h' hx=>?_
 have I1:Inv X pins σ H { s with heap:=h' }:=I.kept (t':=s.toks) fun b o e=>hx b o (Nat.ne_of_lt (Heap.lt_size e)) e
 exact h pins _ σ H xs _ Q I1 (by simpa using rv) hw
def gSub (to ti:TE) (t:TSet):TG:=fun v σ H Q=>to σ H fun o H1=>ti σ H1 fun i H2=>t o i v H2 fun H3=>Q σ H3
theorem pg_sub {o i:Expr} {to ti:TE} {t:TSet} (ho:PE X o to) (hi:PE X i ti) (hs:PSet X t)
  (ha:∀ v,assign (.Subscript o i pos) X.env v = (do
   let ov <- holding [v] (eval o X.env)
   let iv <- holding [v,ov] (eval i X.env)
   standAt pos
   holding [v,ov,iv] (setItem ov iv v)
   release [v,ov,iv] []):=by intro _; rfl):PG X (.Subscript o i pos) (gSub to ti t):=by
 intro pins s σ H v u Q I r h
 rw [ha]
 refine wpAny_bind (wpAny_holding (thn (ho pins s σ H _ I h) fun ov s1 ⟨x,H1,I1,r1,q1⟩=>?_))
 refine wpAny_bind (wpAny_holding (thn (hi pins s1 σ H1 _ I1 q1) fun iv s2 ⟨y,H2,I2,r2,q2⟩=>?_))
 refine wpAny_bind (wpAny_standAt (wpAny_bind (wpAny_holding (thn (hs pins s2 σ H2 x y v ov iv u _ I2 r1 r2 r q2) fun _ s3 ⟨H3,I3,q3⟩=>?_))))
 exact wpAny_release ⟨σ,H3,I3,q3⟩
def tAsg (te:TE) (g:TG):TS:=fun D σ H=>te σ H fun x H1=>g x σ H1 D.nx
theorem ps_asg {tg e:Expr} {te:TE} {g:TG} (he:PE X e te) (hg:PG X tg g) (hs:swapsWithSole [tg] e pos.line X.env = pure false:=by rfl) (hw:swappedStores [tg] e X.env = pure none:=by rfl)
  (h1:(assignEach [tg] X.env).map (·.2) = [assign tg X.env]:=by rfl):PS X (.Assign [tg] e pos) (tAsg te g):=by
 intro pins s σ H D I h
 refine wpAny_Assign_stores (thn (he pins s σ H _ I h) fun v s1 ⟨x,H1,I1,r1,q1⟩=>?_) hs hw
 rw [h1]
 exact thn (hg pins s1 σ H1 x v _ I1 r1 q1) fun _ s2 q=>q
theorem ps_set {i:Nat} {x:Str} {e:Expr} {te:TE} {pos':Pos} (hN:X.N.Nodup) (hi:X.N[i]? = some x) (hx:Loc X.env.scope x) (he:PE X e te) (hs:swapsWith e (some (.Name x pos')) pos.line X.env = pure false:=by rfl) (hf:X.fn x = true \/ X.env.scope.names.lookup x = some .local:=by first | exact .inl rfl | exact .inr rfl | assumption) :
  PS X (.Assign [.Name x pos'] e pos) (tAsg te (gName i)):=by
 intro pins s σ H D I h
 refine wpAny_Assign_Name (thn (he pins s σ H _ I h) fun v s1 ⟨y,H1,I1,r1,q1⟩=>?_) hs
 exact store_ok I1 hN hi hx r1 (fun s2 I2=>⟨_,H1,I2,q1⟩) hf
def tPar (i j:Nat) (ta:TA):TS:=fun D σ H=>ta σ H fun vs H1=>∃ v w,vs = [v,w] /\ D.nx ((σ.set i (some v)).set j (some w)) H1
theorem ps_par {i j:Nat} {x y:Str} {a b:Expr} {ta:TA} {px py pt:Pos} {kt k2 pt2} (hc:X.calm = true) (hN:X.N.Nodup) (hi:X.N[i]? = some x) (hj:X.N[j]? = some y) (hij:i ≠ j)
  (hx:X.env.scope.names.lookup x = some .local) (hy:X.env.scope.names.lookup y = some .local) (ha:PA X [a,b] ta)
  (hw:swappedStores [.Tuple [.Name x px,.Name y py] kt pt] (.Tuple [a,b] k2 pt2) X.env = pure (some [x,y]))
  (hs:swapsWithSole [.Tuple [.Name x px,.Name y py] kt pt] (.Tuple [a,b] k2 pt2) pos.line X.env = pure false:=by rfl) :
  PS X (.Assign [.Tuple [.Name x px,.Name y py] kt pt] (.Tuple [a,b] k2 pt2) pos) (tPar i j ta):=by
 intro pins s σ H D I h
 rw [exec_Assign_arm]
 refine wpAny_bind (wpAny_standAt ?_)
 rw [hs]
 refine wpAny_bind (wpAny_pure ?_)
 rw [if_neg (by decide)]
 refine wpAny_bind (Tuple_ (thn (ha _ pins s σ H _ I h) fun us s1 ⟨vs,H1,I1,r1,q1⟩=>?_))
 obtain ⟨v,w,e1,q1⟩:=q1
 subst e1
 obtain ⟨u1,u2,rfl,rv,rw'⟩ : ∃ u1 u2,us = [u1,u2] /\ RelV v u1 /\ RelV w u2:=by
  cases r1 with
  | cons p q =>
   cases q with
   | cons p' q' =>
    cases q'
    exact ⟨_,_,rfl,p,p'⟩
 refine wpAny_newObj_type ?_ (by show 2 <= sizeLine; decide)
 have I2:Inv X pins σ H1 { s1 with heap:=s1.heap.push { cls:=.type "tuple",data:=.seq [u1,u2].toArray } }:=I1.kept (t':=s1.toks) fun b o e=>Heap.get?_push_of_some _ e
 rw [hw]
 refine wpAny_bind (wpAny_pure ?_)
 show wpAny (model X.prog X.w) X.A (do rule "assign.swapped-stores"; let items <- unpackItems (.ref s1.heap.objs.size) 2 none; assignInOrder [fun v=>bindName X.env y v,fun v=>bindName X.env x v] items.reverse; pure Flow.next) _ _ _
 refine wpAny_bind (wpAny_rule (wpAny_bind (unpackItems_tuple (items:=#[u1,u2]) (I.ok.hd hc) (IsTup.new s1.heap _) fun h' hx'=>?_)))
 have I3:=I2.kept (h':=h') (t':=s1.toks) fun b o e=>hx' b o (Nat.ne_of_lt (Heap.lt_size e)) e
 show wpAny _ _ (assignInOrder [fun v=>bindName X.env y v,fun v=>bindName X.env x v] [u2,u1] >>= fun _=>pure Flow.next) _ _ _
 refine wpAny_bind (assignInOrder_cons (wpAny_bindName (store_ok I3 hN hj (.inl hy) rw' (fun s2 I4=>?_) (.inr hy))))
 refine assignInOrder_cons (wpAny_bindName (store_ok I4 hN hi (.inl hx) rv (fun s3 I5=>assignInOrder_nil (wpAny_pure ?_)) (.inr hx)))
 rw [List.set_comm _ _ (Ne.symm hij)] at I5
 exact ⟨_,H1,I5,q1⟩
def tAug (i:Nat) (te:TE) (ti:TIp):TS:=fun D σ H=>∃ x,σ[i]? = some (some x) /\ te σ H fun y H1=>ti x y H1 fun z H2=>D.nx (σ.set i (some z)) H2
theorem ps_aug {i:Nat} {x:Str} {e:Expr} {te:TE} {op:Operator} {ti:TIp} {pos':Pos} (hN:X.N.Nodup) (hi:X.N[i]? = some x) (hx:Loc X.env.scope x) (he:PE X e te) (ho:PIp X op ti) (hf:X.fn x = true \/ X.env.scope.names.lookup x = some .local:=by first | exact .inl rfl | exact .inr rfl | assumption) :
  PS X (.AugAssign (.Name x pos') op e pos) (tAug i te ti):=by
 intro pins s σ H D I h
 obtain ⟨v,e1,h⟩:=h
 obtain ⟨m,hn,hl⟩:=I.loc
 have vis:Vis X.env.scope x:=by rcases hx with k | k; exact .inl k; exact .inr (.inl k)
 obtain ⟨u,r,l⟩:=hl i x v hi e1 vis
 refine wpAny_AugAssign_Name ?_
 have go:wpAny (model X.prog X.w) X.A (eval e X.env) (fun w s₂=>wpAny (model X.prog X.w) X.A (inplaceOp op u w) (fun r s₃=>wpAny (model X.prog X.w) X.A (storeName X.env x r) (fun _=>SP X pins D .next) X.xe s₃) X.xe s₂) X.xe s:=by
  refine thn (he pins s σ H _ I h) fun w s1 ⟨y,H1,I1,r1,q1⟩=>?_
  refine thn (ho pins s1 σ H1 v y u w _ I1 r r1 q1) fun z s2 ⟨zv,H2,I2,r2,q2⟩=>?_
  exact store_ok I2 hN hi hx r2 (fun s3 I3=>⟨_,H2,I3,q2⟩) hf
 rcases l with ⟨hk,hm⟩ | ⟨hk,c,hc,hcell⟩
 ·exact wpAny_loadName_local I.ok.kind hk hn hm go
 ·rcases hk with hk | hk
  ·exact wpAny_loadName_cell I.ok.kind hk hc hcell go
  ·rcases hx with k | k
   ·have:X.env.scope.names.lookup x = some .free:=hk
    rw [k] at this; cases this
   ·have:X.env.scope.names.lookup x = some .free:=hk
    rw [k] at this; cases this
def tAugS (to ti te:TE) (tget:V -> V -> Hp -> VK -> Prop) (tip:TIp) (tset:TSet):TS:=fun D σ H=>to σ H fun o H1=>ti σ H1 fun i H2=>tget o i H2 fun x H3=>te σ H3 fun y H4=>tip x y H4 fun z H5=>tset o i z H5 fun H6=>D.nx σ H6
def PGet (X:Cx) (t:V -> V -> Hp -> VK -> Prop):Prop :=
 ∀ (pins:List (Addr × Obj)) (s:Shared) (σ:St) (H:Hp) (o i:V) (ov iv:Value) (Q:VK),Inv X pins σ H s -> RelV o ov -> RelV i iv -> t o i H Q ->
  wpAny (model X.prog X.w) X.A (getItem ov iv) (EP X pins σ Q) X.xe s
theorem ps_augS {o i e:Expr} {to ti te:TE} {tget:V -> V -> Hp -> VK -> Prop} {tip:TIp} {tset:TSet} {op:Operator} {tpos:Pos} (ho:PE X o to) (hi:PE X i ti) (hg:PGet X tget) (he:PE X e te) (hp:PIp X op tip) (hs:PSet X tset)
  (ha:∀ ov iv new,augStore i ov iv new = (do holding [new,ov,iv] (setItem ov iv new); release [new,ov,iv] []; pure .next):=by intros; rfl):PS X (.AugAssign (.Subscript o i tpos) op e pos) (tAugS to ti te tget tip tset):=by
 intro pins s σ H D I h
 refine wpAny_AugAssign_SubscriptAny (thn (ho pins s σ H _ I h) fun ov s1 ⟨x1,H1,I1,r1,q1⟩=>?_) ha
 refine thn (hi pins s1 σ H1 _ I1 q1) fun iv s2 ⟨x2,H2,I2,r2,q2⟩=>?_
 refine thn (hg pins s2 σ H2 x1 x2 ov iv _ I2 r1 r2 q2) fun old s3 ⟨x3,H3,I3,r3,q3⟩=>?_
 refine thn (he pins s3 σ H3 _ I3 q3) fun v s4 ⟨x4,H4,I4,r4,q4⟩=>?_
 refine thn (hp pins s4 σ H4 x3 x4 old v _ I4 r3 r4 q4) fun new s5 ⟨x5,H5,I5,r5,q5⟩=>?_
 exact thn (hs pins s5 σ H5 x1 x2 x5 ov iv new _ I5 r1 r2 r5 q5) fun _ s6 ⟨H6,I6,q6⟩=>⟨σ,H6,I6,q6⟩
def ipI (f:Int -> Int -> Int):TIp:=fun x y H Q=>∃ i j,x = .int i /\ y = .int j /\ Q (.int (f i j)) H
theorem ip_add:PIp X .Add (ipI fun i j=>i + j):=by
 intro pins s σ H x y v u Q I r1 r2 h
 obtain ⟨i,j,e1,e2,q⟩:=h
 subst e1; subst e2
 obtain ⟨t,rfl⟩:=r1
 obtain ⟨t',rfl⟩:=r2
 exact iadd_int ⟨.int _,H,I.tok _,⟨_,rfl⟩,q⟩
theorem ip_sub:PIp X .Sub (ipI fun i j=>i - j):=by
 intro pins s σ H x y v u Q I r1 r2 h
 obtain ⟨i,j,e1,e2,q⟩:=h
 subst e1; subst e2
 obtain ⟨t,rfl⟩:=r1
 obtain ⟨t',rfl⟩:=r2
 exact isub_int ⟨.int _,H,I.tok _,⟨_,rfl⟩,q⟩
end
section
variable {X:Cx} {pos:Pos}
def tWhile (c:TT) (tb:TS):TS:=fun D σ H=>∃ W:Nat -> St -> Hp -> Prop,(∃ m,W m σ H) /\ ∀ m σ H,W m σ H ->
 c σ H fun b H1=>if b = true then ∃ N:St -> Hp -> Prop,(∀ σ' H',N σ' H' -> ∃ m',m' < m /\ W m' σ' H') /\ tb { D with nx:=N,ct:=N,bk:=D.nx } σ H1 else D.nx σ H1
theorem ps_while {c:Expr} {body:List Stmt} {tc:TT} {tb:TS} (hp:PassesOwn (model X.prog X.w) X.A X.env X.xe) (hc:PT X c tc) (hb:PSs X body tb):PS X (.While c body [] pos) (tWhile tc tb):=by
 intro pins s σ H D I h
 obtain ⟨W,⟨m0,w0⟩,turn⟩:=h
 refine wpAny_While (codeAny_whileLoop (fun n s'=>∃ σ' H',Inv X pins σ' H' s' /\ W n σ' H') ?_ m0 ⟨σ,H,I,w0⟩)
 rintro n s1 ⟨σ1,H1,I1,w1⟩
 refine wpAny_passesOwn hp (thn (hc pins s1 σ1 H1 _ I1 (turn n σ1 H1 w1)) fun b s2 ⟨H2,I2,q2⟩=>?_)
 cases b with
 | true =>
  obtain ⟨N,hN,q2⟩:=q2
  rw [if_pos rfl]
  refine wpAny_passesOwn hp (thn (hb pins s2 σ1 H2 _ I2 q2) fun f s3 q3=>?_)
  cases f with
  | next =>
   obtain ⟨σ3,H3,I3,n3⟩:=q3
   obtain ⟨m',hm,w3⟩:=hN σ3 H3 n3
   exact ⟨m',hm,σ3,H3,I3,w3⟩
  | cont =>
   obtain ⟨σ3,H3,I3,n3⟩:=q3
   obtain ⟨m',hm,w3⟩:=hN σ3 H3 n3
   exact ⟨m',hm,σ3,H3,I3,w3⟩
  | brk=>exact q3
  | ret v=>exact q3
 | false =>
  rw [if_neg Bool.false_ne_true]
  exact wpAny_execs_nil ⟨σ1,H2,I2,q2⟩
end
structure It where
 go:Nat -> Hp -> Prop
 yld:Nat -> Hp -> V -> Hp -> Prop
 stop:Nat -> Hp -> Prop
def FpOk (X:Cx) (pins:List (Addr × Obj)) (H:Hp) (b:Addr):Prop :=
 H b = none /\ b ≠ X.env.locals /\ b ∉ X.fs /\ (b ∈ X.ex \/ X.s₀.heap.objs.size <= b) /\ (∀ x c,X.env.cells.lookup x = some c -> c ≠ b) /\ ∀ p ∈ X.pn ++ pins,p.1 ≠ b
theorem Inv.fpOk {X:Cx} {pins:List (Addr × Obj)} {σ:St} {H H':Hp} {s:Shared} {b:Addr} (I:Inv X pins σ H s) (hb:s.heap.objs.size <= b) (hn:H' b = none):FpOk X pins H' b:=by
 refine ⟨hn,Nat.ne_of_gt (Nat.lt_of_lt_of_le I.lt hb),I.nofs hb,.inr (Nat.le_trans I.sz hb),fun x c e z=>?_,fun p hp z=>?_⟩
 ·obtain ⟨v,q⟩:=I.cell x c e
  exact absurd (Nat.lt_of_lt_of_le q.lt (by rw [z]; exact hb)) (Nat.lt_irrefl _)
 ·exact absurd (Nat.lt_of_lt_of_le (Heap.lt_size (I.pin p hp).1) (by rw [z]; exact hb)) (Nat.lt_irrefl _)
structure Turn (P:Program) (w:World) (K:PySem.W.Frag) (tg:Expr) (J:It) (fp:List Addr) (it:Addr) (tn:Nat -> Heap -> Prop):Prop where
 mem:it ∈ fp
 obj:∀ i h,tn i h -> ∀ b ∈ fp,∃ o,h.get? b = some o /\ ∀ v,o.data ≠ .cell v
 keep:∀ i h h',tn i h -> (∀ b ∈ fp,∀ o,h.get? b = some o -> h'.get? b = some o) -> tn i h'
 item:∀ (X:Cx),X.prog = P -> X.w = w -> X.K = K -> X.calm = true -> ∀ (i:Nat) (pins:List (Addr × Obj)) (s:Shared) (σ:St) (H:Hp) (E:Value -> Shared -> Prop),Inv X pins σ H s -> (∀ b ∈ fp,FpOk X pins H b) -> tn i s.heap -> J.go i H ->
  wpAny (model P w) X.A (pyNext (.ref it)) (fun r s1=>∃ u,r = some u /\
   wpAny (model P w) X.A (letOwnedTupleGo tg (.ref it) u) (fun _ s2=>∃ x H',Inv X pins σ H' s2 /\ RelV x u /\ J.yld i H x H' /\ tn (i + 1) s2.heap /\ ∀ b ∈ fp,H' b = none) E s1) E s
 done:∀ (X:Cx),X.prog = P -> X.w = w -> X.K = K -> X.calm = true -> ∀ (i:Nat) (pins:List (Addr × Obj)) (s:Shared) (σ:St) (H:Hp) (E:Value -> Shared -> Prop),Inv X pins σ H s -> (∀ b ∈ fp,FpOk X pins H b) -> tn i s.heap -> J.stop i H ->
  wpAny (model P w) X.A (pyNext (.ref it)) (fun r s1=>r = none /\ Inv X pins σ H s1) E s
 self:∀ (A:Around) (i:Nat) (s:Shared) (Q:Value -> Shared -> Prop) (E:Value -> Shared -> Prop),tn i s.heap -> Q (.ref it) s -> wpAny (model P w) A (pyIter (.ref it)) Q E s
abbrev TI:=St -> Hp -> (It -> Hp -> Prop) -> Prop
def PIE (X:Cx) (pins:List (Addr × Obj)) (σ:St) (tg:Expr) (R:It -> Hp -> Prop) (itv:Value) (s2:Shared):Prop :=
 ∃ (it:Addr) (fp:List Addr) (tn:Nat -> Heap -> Prop) (J:It) (H':Hp),itv = .ref it /\ Inv X pins σ H' s2 /\ Turn X.prog X.w X.K tg J fp it tn /\ tn 0 s2.heap /\ (∀ b ∈ fp,FpOk X pins H' b) /\ R J H'
def PI (X:Cx) (tg iter:Expr) (wi:TI):Prop :=
 ∀ (pins:List (Addr × Obj)) (s:Shared) (σ:St) (H:Hp) (R:It -> Hp -> Prop),Inv X pins σ H s -> wi σ H R ->
  wpAny (model X.prog X.w) X.A (eval iter X.env) (fun v s1=>wpAny (model X.prog X.w) X.A (pyIter v) (PIE X pins σ tg R) X.xe s1) X.xe s
theorem go_of {M:Model} {A:Around} {E:Value -> Shared -> Prop} {s:Shared} {tg:Expr} {it:Addr} {u:Value} {o:Obj} {n:String} {vs:Array Value} {Q:Unit -> Shared -> Prop} (ho:s.heap.get? it = some o) (hc:o.cls = .type n) (hd:o.data = .fields vs)
  (hn:["enumerate", "zip", "dict_itemiterator", "dict_reverseitemiterator", "odict_iterator", "itertools.zip_longest", "itertools.pairwise"].contains n = false) (hQ:Q () s):wpAny M A (letOwnedTupleGo tg (.ref it) u) Q E s:=by
 unfold letOwnedTupleGo
 cases tg <;> first
  | exact wpAny_pure hQ
  | (cases u <;> first
    | exact wpAny_pure hQ
    | (refine wpAny_bind (wpAny_load ho ?_)
       rw [hc,hd]
       show wpAny M A (if (["enumerate", "zip", "dict_itemiterator", "dict_reverseitemiterator", "odict_iterator", "itertools.zip_longest", "itertools.pairwise"].contains n && vs[0]? == some (rawInt _)) = true then _ else _) Q E s
       rw [if_neg (by intro h; rw [hn,Bool.false_and] at h; cases h)]
       exact wpAny_pure hQ))
def Itl (K:PySem.W.Frag) (a:Addr):It :=
 ⟨fun i H=>∃ xs x,SqL K H a xs /\ xs[i]? = some x,fun i H x H'=>H' = H /\ ∀ xs,SqL K H a xs -> xs[i]? = some x,fun i H=>∃ xs,SqL K H a xs /\ xs.length <= i⟩
def Itt (K:PySem.W.Frag) (a:Addr):It :=
 ⟨fun i H=>∃ xs x,SqT K H a xs /\ xs[i]? = some x,fun i H x H'=>H' = H /\ ∀ xs,SqT K H a xs -> xs[i]? = some x,fun i H=>∃ xs,SqT K H a xs /\ xs.length <= i⟩
def Itr (lo:Int) (n:Nat):It:=⟨fun i _=>i < n,fun i H x H'=>H' = H /\ x = .int (lo + i),fun i _=>n <= i⟩
theorem turn_list {P:Program} {w:World} {K:PySem.W.Frag} {tg:Expr} (a it:Addr):Turn P w K tg (Itl K a) [it] it (fun i h=>h.IsListIter it a i) where
 mem:=by simp
 obj:=fun i h st b hb=>by
  have e:b = it:=by simpa using hb
  subst e
  obtain ⟨o,e,c,d⟩:=st
  exact ⟨o,e,fun v z=>by rw [d] at z; cases z⟩
 keep:=fun i h h' st k=>st.at fun o e=>k it (by simp) o e
 item:=by
  intro X hP hw hK hc i pins s σ H E I hf st hg
  subst hP hw hK
  obtain ⟨xs,x,hq,hx⟩:=hg
  obtain ⟨its,rv,p,hz⟩:=I.list hq
  obtain ⟨u,hu,ru⟩:=rv.get hx
  obtain ⟨f0,f1,f2,f3,f4,f5⟩:=hf it (by simp)
  refine wpAny_pyNext_list_item st p.isList (x:=u) (by simpa using hu) fun h' st' sb=>?_
  have I1:Inv X pins σ H { s with heap:=h' }:=I.turned (t':=s.toks) (fun b o hb e=>(sb.2 b hb).trans e) f0 f1 f3 f4 f5
  obtain ⟨o,e,c,d⟩:=id st'
  exact ⟨u,rfl,go_of (s:={ s with heap:=h' }) e c d (by decide) ⟨x,H,I1,ru,⟨rfl,fun ys hy=>by rw [I.list_inj hy hq]; exact hx⟩,st',fun b hb=>(hf b hb).1⟩⟩
 done:=by
  intro X hP hw hK hc i pins s σ H E I hf st hg
  subst hP hw hK
  obtain ⟨xs,hq,hx⟩:=hg
  obtain ⟨its,rv,p,hz⟩:=I.list hq
  obtain ⟨f0,f1,f2,f3,f4,f5⟩:=hf it (by simp)
  have hl:=rv.length
  exact wpAny_pyNext_list_end (I.ok.hd hc) st p.isList (by simp; walk_at "o") fun h' eb=>⟨rfl,I.turned (t':=s.toks) (fun b o hb e=>eb b o hb e) f0 f1 f3 f4 f5⟩
 self:=fun _ _ _ _ _ st h=>wpAny_pyIter_listiter st h
theorem turn_range {P:Program} {w:World} {K:PySem.W.Frag} {tg:Expr} (it:Addr) (lo:Int) (n:Nat):Turn P w K tg (Itr lo n) [it] it (fun i h=>IsRangeIter h it (lo + (i:Nat) * 1) ((n:Int) - (i:Nat)) 1) where
 mem:=by simp
 obj:=fun i h st b hb=>by
  have e:b = it:=by simpa using hb
  subst e
  exact ⟨_,st,fun v z=>by
   have z':Data.fields _ = Data.cell v:=z
   cases z'⟩
 keep:=fun i h h' st k=>k it (by simp) _ st
 item:=by
  intro X hP hw hK hc i pins s σ H E I hf st hg
  subst hP hw hK
  obtain ⟨f0,f1,f2,f3,f4,f5⟩:=hf it (by simp)
  have W:=Walks.range (prog:=X.prog) (w:=X.w) (I.ok.hd hc) it lo 1 n
  refine W.item i s _ _ hg st fun v h' tk hv st' kk=>?_
  obtain ⟨t,rfl⟩:=hv
  have I1:Inv X pins σ H { s with heap:=h',toks:=tk }:=I.turned (fun b o hb e=>kk b o (by simpa using hb) e) f0 f1 f3 f4 f5
  refine ⟨_,rfl,go_of (s:={ s with heap:=h',toks:=tk }) (n:="range_iterator") st' rfl rfl (by decide) ⟨.int (lo + i),H,I1,⟨t,?_⟩,⟨rfl,rfl⟩,st',fun b hb=>(hf b hb).1⟩⟩
  rw [Int.mul_one]
 done:=by
  intro X hP hw hK hc i pins s σ H E I hf st hg
  subst hP hw hK
  obtain ⟨f0,f1,f2,f3,f4,f5⟩:=hf it (by simp)
  exact wpAny_pyNext_range_end (I.ok.hd hc) st (by have:n <= i:=hg; walk_at "o") fun h' eb=>⟨rfl,I.turned (t':=s.toks) (fun b o hb e=>eb b o hb e) f0 f1 f3 f4 f5⟩
 self:=fun _ _ _ _ _ st h=>wpAny_pyIter_rangeiter st h
end L2
namespace L2
open PySem PySem.Spec PyProof.Rows
section
variable {X:Cx} {tg:Expr}
def iList (K:PySem.W.Frag) (tl:TE):TI:=fun σ H R=>tl σ H fun x H1=>∃ a,x = .ref a /\ (∃ xs,SqL K H1 a xs) /\ R (Itl K a) H1
def iTup (K:PySem.W.Frag) (tl:TE):TI:=fun σ H R=>tl σ H fun x H1=>∃ a,x = .ref a /\ (∃ xs,SqT K H1 a xs) /\ R (Itt K a) H1
theorem pi_list {l:Expr} {tl:TE} (hl:PE X l tl):PI X tg l (iList X.K tl):=by
 intro pins s σ H R I h
 refine thn (hl pins s σ H _ I h) fun v s1 ⟨x,H1,I1,r1,q1⟩=>?_
 obtain ⟨a,e,⟨xs,hq⟩,q⟩:=q1
 subst e
 cases r1
 obtain ⟨its,rv,p,hz⟩:=I1.list hq
 refine wpAny_pyIter_list p.isList ?_
 refine ⟨s1.heap.objs.size,[s1.heap.objs.size],_,_,H1,rfl,I1.kept (t':=s1.toks) fun b o e=>Heap.get?_push_of_some _ e,turn_list a _,⟨_,Heap.get?_push_size _ rfl,rfl,rfl⟩,fun b hb=>?_,q⟩
 have e:b = s1.heap.objs.size:=by simpa using hb
 subst e
 exact I1.fpOk (Nat.le_refl _) (I1.hok.fresh (Nat.le_refl _))
theorem range_it {pins:List (Addr × Obj)} {σ:St} {H:Hp} {s:Shared} {R:It -> Hp -> Prop} {E:Value -> Shared -> Prop} {lo hi:Int} {t u v:Tok} {tk:Nat} (I:Inv X pins σ H s) (h1 : -(2 ^ 62) <= lo) (h2:lo < 2 ^ 62) (h3 : -(2 ^ 62) <= hi) (h4:hi < 2 ^ 62)
  (q:R (Itr lo (hi - lo).toNat) H):wpAny (model X.prog X.w) X.A (pyIter (.ref s.heap.objs.size)) (PIE X pins σ tg R) E { s with heap:=s.heap.push { cls:=.type "range",data:=.fields #[.int lo t,.int hi u,.int 1 v] },toks:=tk }:=by
 refine wpAny_pyIter_range (IsRange.new ..) (small_one h1 h2 h3 h4) ?_
 have I1:Inv X pins σ H { s with heap:=s.heap.push { cls:=.type "range",data:=.fields #[.int lo t,.int hi u,.int 1 v] },toks:=tk }:=I.kept fun b o e=>Heap.get?_push_of_some _ e
 refine ⟨(s.heap.push { cls:=.type "range",data:=.fields #[.int lo t,.int hi u,.int 1 v] }).objs.size,[(s.heap.push { cls:=.type "range",data:=.fields #[.int lo t,.int hi u,.int 1 v] }).objs.size],_,_,H,rfl,
  I1.kept (t':=tk) fun b o e=>Heap.get?_push_of_some _ e,turn_range _ lo (hi - lo).toNat,?_,fun b hb=>?_,q⟩
 ·have e1:lo + ((0:Nat):Int) * 1 = lo:=by simp
  have e2:(((hi - lo).toNat:Nat):Int) - ((0:Nat):Int) = Builtin.Range.rangeSize lo hi 1:=by rw [rangeSize_one]; split <;> walk_at "o"
  show IsRangeIter _ _ (lo + ((0:Nat):Int) * 1) ((((hi - lo).toNat:Nat):Int) - ((0:Nat):Int)) 1
  rw [e1,e2]
  exact Heap.get?_push_size _ rfl
 ·have e:b = (s.heap.push { cls:=.type "range",data:=.fields #[.int lo t,.int hi u,.int 1 v] }).objs.size:=by simpa using hb
  subst e
  exact I1.fpOk (Nat.le_refl _) (I1.hok.fresh (Nat.le_refl _))
def iRng1 (ta:TA):TI:=fun σ H R=>ta σ H fun vs H1=>∃ j:Int,vs = [.int j] /\ -(2 ^ 62) <= j /\ j < 2 ^ 62 /\ R (Itr 0 j.toNat) H1
def iRng2 (ta:TA):TI:=fun σ H R=>ta σ H fun vs H1=>∃ i j:Int,vs = [.int i,.int j] /\ (-(2 ^ 62) <= i /\ i < 2 ^ 62 /\ -(2 ^ 62) <= j /\ j < 2 ^ 62) /\ R (Itr i (j - i).toNat) H1
theorem pi_range1 {a:Expr} {ta:TA} {p pos:Pos} (hg:Gl X "range") (hm:X.mg "range" = none) (ha:PA X [a] ta) (hs:starEach [a] X.env = [(false,eval a X.env)]:=by rfl):PI X tg (.Call (.Name "range" p) [a] [] pos) (iRng1 ta):=by
 intro pins s σ H R I h
 refine Call_ (ld_blt I hg hm boot_range (PyProof.Rows.callWith_type1 (thn (ha pos pins s σ H _ I h) fun us s1 ⟨vs,H1,I1,r1,q1⟩=>?_) hs rfl))
 obtain ⟨j,e,q1,q2,q⟩:=q1
 subst e
 cases r1 with
 | cons r rr =>
  cases rr
  obtain ⟨t,rfl⟩:=r
  exact call_range_1 (range_it I1 (by walk_at "o") (by walk_at "o") q1 q2 (by simpa using q))
theorem pi_range2 {a b:Expr} {ta:TA} {p pos:Pos} (hg:Gl X "range") (hm:X.mg "range" = none) (ha:PA X [a,b] ta) (hs:starEach [a,b] X.env = [(false,eval a X.env),(false,eval b X.env)]:=by rfl) (hs2:starEach [b] X.env = [(false,eval b X.env)]:=by rfl) :
  PI X tg (.Call (.Name "range" p) [a,b] [] pos) (iRng2 ta):=by
 intro pins s σ H R I h
 refine Call_ (ld_blt I hg hm boot_range (PyProof.Rows.callWith_type1 (thn (ha pos pins s σ H _ I h) fun us s1 ⟨vs,H1,I1,r1,q1⟩=>?_) (by rw [hs,hs2]) (by rw [hs2]; rfl)))
 obtain ⟨i,j,e,⟨q1,q2,q3,q4⟩,q⟩:=q1
 subst e
 cases r1 with
 | cons r rr =>
  cases rr with
  | cons r' rr =>
   cases rr
   obtain ⟨t,rfl⟩:=r
   obtain ⟨t',rfl⟩:=r'
   exact call_range_2 (range_it I1 q1 q2 q3 q4 q)
def tFor (wi:TI) (g:TG) (tb:TS):TS:=fun D σ H=>wi σ H fun J H1=>∃ W:Nat -> Nat -> St -> Hp -> Prop,(∃ m,W 0 m σ H1) /\ ∀ i m σ H,W i m σ H ->
 (J.stop i H /\ D.nx σ H) \/ (J.go i H /\ ∃ N:St -> Hp -> Prop,(∀ σ' H',N σ' H' -> ∃ m',m' < m /\ W (i + 1) m' σ' H') /\ ∀ x H',J.yld i H x H' -> g x σ H' fun σ2 H2=>tb { D with nx:=N,ct:=N,bk:=D.nx } σ2 H2)
def pinsAt (fp:List Addr) (h:Heap):List (Addr × Obj):=fp.filterMap fun b=>(h.get? b).map fun o=>(b,o)
theorem mem_pinsAt {fp:List Addr} {h:Heap} {b:Addr} {o:Obj} (hb:b ∈ fp) (e:h.get? b = some o):(b,o) ∈ pinsAt fp h:=List.mem_filterMap.mpr ⟨b,hb,by rw [e]; rfl⟩
theorem of_pinsAt {fp:List Addr} {h:Heap} {p:Addr × Obj} (hp:p ∈ pinsAt fp h):p.1 ∈ fp /\ h.get? p.1 = some p.2:=by
 obtain ⟨b,hb,e⟩:=List.mem_filterMap.mp hp
 cases q:h.get? b with
 | none=>rw [q] at e; cases e
 | some o =>
  rw [q] at e
  have e':(b,o) = p:=Option.some.inj e
  subst e'
  exact ⟨hb,q⟩
theorem Inv.pinned {pins:List (Addr × Obj)} {σ:St} {H:Hp} {s:Shared} {fp:List Addr} (I:Inv X pins σ H s) (hf:∀ b ∈ fp,FpOk X pins H b) (ho:∀ b ∈ fp,∃ o,s.heap.get? b = some o /\ ∀ v,o.data ≠ .cell v):Inv X (pins ++ pinsAt fp s.heap) σ H s :=
 I.pins_of fun p hp=>(List.mem_append.mp hp).elim (fun z=>I.pin p (List.mem_append_right _ z)) fun z=>by
  obtain ⟨hb,e⟩:=of_pinsAt z
  obtain ⟨f0,f1,f2,_⟩:=hf p.1 hb
  obtain ⟨o,e',d⟩:=ho p.1 hb
  rw [e] at e'; cases e'
  exact ⟨e,f0,f1,f2,d⟩
theorem Inv.unpinned {pins pl:List (Addr × Obj)} {σ:St} {H:Hp} {s:Shared} (I:Inv X (pins ++ pl) σ H s):Inv X pins σ H s:=I.pins_of fun p hp=>I.pin p (List.mem_append_right _ (List.mem_append_left _ hp))
theorem ps_for {iter:Expr} {body:List Stmt} {wi:TI} {g:TG} {tb:TS} {pos:Pos} (hp:PassesOwn (model X.prog X.w) X.A X.env X.xe) (hc:X.calm = true) (hi:PI X tg iter wi) (hg:PG X tg g) (hb:PSs X body tb)
  (hs:∀ x,foldedSetIterable iter X.env x = pure x:=by intro _; rfl):PS X (.For tg iter body [] pos) (tFor wi g tb):=by
 intro pins s σ H D I h
 refine wpAny_For (thn (hi pins s σ H _ I h) fun v s1 h1=>thn h1 fun itv s2 h2=>?_) hs
 obtain ⟨it,fp,tn,J,H2,e,I2,T,st2,f2,W,⟨m0,w0⟩,turn⟩:=h2
 subst e
 have stat:∀ {H':Hp},(∀ b ∈ fp,H' b = none) -> ∀ b ∈ fp,FpOk X pins H' b:=fun hn b hb=>⟨hn b hb,(f2 b hb).2⟩
 refine codeAny_forLoop_any (fun n s'=>∃ i σ' H',Inv X pins σ' H' s' /\ tn i s'.heap /\ (∀ b ∈ fp,H' b = none) /\ W i n σ' H') ?_ m0 ⟨0,σ,H2,I2,st2,fun b hb=>(f2 b hb).1,w0⟩
 rintro n s3 ⟨i,σ3,H3,I3,st3,fr3,w3⟩
 rcases turn i n σ3 H3 w3 with ⟨stop,qn⟩ | ⟨go,N,hN,step⟩
 ·refine wpAny_passesOwn hp (thn (T.done X rfl rfl rfl hc i pins s3 σ3 H3 X.xe I3 (stat fr3) st3 stop) fun r s4 ⟨hr,I4⟩=>?_)
  subst hr
  exact wpAny_execs_nil ⟨σ3,H3,I4,qn⟩
 ·refine wpAny_passesOwn hp (thn (T.item X rfl rfl rfl hc i pins s3 σ3 H3 X.xe I3 (stat fr3) st3 go) fun r s4 ⟨u,hr,h4⟩=>?_)
  subst hr
  refine wpAny_passesOwn hp (thn h4 fun _ s5 ⟨x,H5,I5,r5,y5,st5,fr5⟩=>?_)
  have I5':=I5.pinned (stat fr5) (T.obj _ _ st5)
  refine wpAny_passesOwn hp (thn (hg _ s5 σ3 H5 x u _ I5' r5 (step x H5 y5)) fun _ s6 ⟨σ6,H6,I6,q6⟩=>?_)
  refine wpAny_passesOwn hp (thn (hb _ s6 σ6 H6 _ I6 q6) fun f s7 q7=>?_)
  have again:∀ {σ7:St} {H7:Hp},Inv X (pins ++ pinsAt fp s5.heap) σ7 H7 s7 -> N σ7 H7 -> ∃ m,m < n /\ ∃ i σ' H',Inv X pins σ' H' s7 /\ tn i s7.heap /\ (∀ b ∈ fp,H' b = none) /\ W i m σ' H':=fun {σ7 H7} I7 n7=>by
   obtain ⟨m',hm,w7⟩:=hN σ7 H7 n7
   refine ⟨m',hm,i + 1,σ7,H7,I7.unpinned,T.keep _ _ _ st5 fun b hb o e=>(I7.pin (b,o) (List.mem_append_right _ (List.mem_append_right _ (mem_pinsAt hb e)))).1,fun b hb=>?_,w7⟩
   obtain ⟨o,e,d⟩:=T.obj _ _ st5 b hb
   exact (I7.pin (b,o) (List.mem_append_right _ (List.mem_append_right _ (mem_pinsAt hb e)))).2.1
  cases f with
  | next=>obtain ⟨σ7,H7,I7,n7⟩:=q7; exact again I7 n7
  | cont=>obtain ⟨σ7,H7,I7,n7⟩:=q7; exact again I7 n7
  | brk=>obtain ⟨σ7,H7,I7,q7⟩:=q7; exact ⟨σ7,H7,I7.unpinned,q7⟩
  | ret v=>obtain ⟨x7,σ7,H7,I7,r7,q7⟩:=q7; exact ⟨x7,σ7,H7,I7.unpinned,r7,q7⟩
end
end L2
namespace L2
open PySem PySem.Spec PyProof.Rows
abbrev R2:=V -> V -> Hp -> VK -> Prop
def OpR (X:Cx) (f:Value -> Value -> Sem Value) (r:R2):Prop :=
 ∀ (pins:List (Addr × Obj)) (s:Shared) (σ:St) (H:Hp) (x y:V) (v u:Value) (Q:VK),Inv X pins σ H s -> RelV x v -> RelV y u -> r x y H Q ->
  wpAny (model X.prog X.w) X.A (f v u) (EP X pins σ Q) X.xe s
def UnR (X:Cx) (f:Value -> Sem Value) (r:V -> Hp -> VK -> Prop):Prop :=
 ∀ (pins:List (Addr × Obj)) (s:Shared) (σ:St) (H:Hp) (x:V) (v:Value) (Q:VK),Inv X pins σ H s -> RelV x v -> r x H Q ->
  wpAny (model X.prog X.w) X.A (f v) (EP X pins σ Q) X.xe s
def CallR (X:Cx) (f:Value) (r:List V -> Hp -> VK -> Prop):Prop :=
 ∀ (pins:List (Addr × Obj)) (s:Shared) (σ:St) (H:Hp) (xs:List V) (us:List Value) (Q:VK),Inv X pins σ H s -> Vals xs us -> r xs H Q ->
  wpAny (model X.prog X.w) X.A (call f us) (EP X pins σ Q) X.xe s
def TruR (X:Cx) (r:V -> Hp -> (Bool -> Hp -> Prop) -> Prop):Prop :=
 ∀ (pins:List (Addr × Obj)) (s:Shared) (σ:St) (H:Hp) (x:V) (v:Value) (Q:Bool -> Hp -> Prop),Inv X pins σ H s -> RelV x v -> r x H Q ->
  wpAny (model X.prog X.w) X.A (truthy v) (TP X pins σ Q) X.xe s
def tOp (r:R2) (ta tb:TE):TE:=fun σ H Q=>ta σ H fun x H1=>tb σ H1 fun y H2=>r x y H2 Q
def tUn (r:V -> Hp -> VK -> Prop) (ta:TE):TE:=fun σ H Q=>ta σ H fun x H1=>r x H1 Q
def rI (C:Int -> Int -> Prop) (g:Int -> Int -> V):R2:=fun x y H Q=>∃ i j,x = .int i /\ y = .int j /\ C i j /\ Q (g i j) H
def rI0 (g:Int -> Int -> V):R2:=fun x y H Q=>∃ i j,x = .int i /\ y = .int j /\ Q (g i j) H
def rU (g:Int -> V):V -> Hp -> VK -> Prop:=fun x H Q=>∃ i,x = .int i /\ Q (g i) H
section
variable {X:Cx} {a b c:Expr} {ta tb tc:TE} {pos:Pos}
theorem binT (ha:PE X a ta) (hb:PE X b tb) {pins:List (Addr × Obj)} {s:Shared} {σ:St} {H:Hp} {R:V -> V -> Hp -> Prop} (I:Inv X pins σ H s)
  (h:ta σ H fun x H1=>tb σ H1 fun y H2=>R x y H2) {Q:Value -> Shared -> Prop} {f:Value -> Value -> Sem Value}
  (hf:∀ v u s2 x y H2,Inv X pins σ H2 s2 -> RelV x v -> RelV y u -> R x y H2 -> wpAny (model X.prog X.w) X.A (f v u) Q X.xe s2) :
  wpAny (model X.prog X.w) X.A (eval a X.env) (fun v s₁=>wpAny (model X.prog X.w) X.A (eval b X.env) (fun u s₂=>wpAny (model X.prog X.w) X.A (f v u) Q X.xe s₂) X.xe s₁) X.xe s:=by
 refine thn (ha pins s σ H _ I h) fun v s1 ⟨x,H1,I1,r1,q1⟩=>?_
 refine thn (hb pins s1 σ H1 _ I1 q1) fun u s2 ⟨y,H2,I2,r2,q2⟩=>?_
 exact hf v u s2 x y H2 I2 r1 r2 q2
theorem pe_op {op:Operator} {r:R2} (ho:OpR X (binaryOp op) r) (ha:PE X a ta) (hb:PE X b tb):PE X (.BinOp a op b pos) (tOp r ta tb):=by
 intro pins s σ H Q I h
 exact wpAny_BinOp (binT ha hb I h fun v u s2 x y H2 I2 rx ry q=>ho pins s2 σ H2 x y v u Q I2 rx ry q)
theorem pe_un {op:UnaryOp} {r:V -> Hp -> VK -> Prop} (ho:UnR X (unaryOp op) r) (ha:PE X a ta):PE X (.UnaryOp op a pos) (tUn r ta):=by
 intro pins s σ H Q I h
 exact UnaryOp_ (thn (ha pins s σ H _ I h) fun v s1 ⟨x,H1,I1,r1,q1⟩=>ho pins s1 σ H1 x v Q I1 r1 q1)
theorem opI {f:Value -> Value -> Sem Value} {C:Int -> Int -> Prop} {g:Int -> Int -> Int}
  (rule:∀ (i j:Int) (t u:Tok) (s:Shared) (Q:Value -> Shared -> Prop) (E:Value -> Shared -> Prop),C i j -> Q (.int (g i j) s.toks) { s with toks:=s.toks + 1 } -> wpAny (model X.prog X.w) X.A (f (.int i t) (.int j u)) Q E s) :
  OpR X f (rI C fun i j=>.int (g i j)):=by
 intro pins s σ H x y v u Q I rx ry h
 obtain ⟨i,j,rfl,rfl,hc,q⟩:=h
 obtain ⟨t,rfl⟩:=rx
 obtain ⟨t',rfl⟩:=ry
 exact rule i j t t' s _ _ hc ⟨.int (g i j),H,I.tok _,⟨_,rfl⟩,q⟩
theorem opI0 {f:Value -> Value -> Sem Value} {g:Int -> Int -> Int}
  (rule:∀ (i j:Int) (t u:Tok) (s:Shared) (Q:Value -> Shared -> Prop) (E:Value -> Shared -> Prop),Q (.int (g i j) s.toks) { s with toks:=s.toks + 1 } -> wpAny (model X.prog X.w) X.A (f (.int i t) (.int j u)) Q E s) :
  OpR X f (rI0 fun i j=>.int (g i j)):=by
 intro pins s σ H x y v u Q I rx ry h
 obtain ⟨i,j,rfl,rfl,q⟩:=h
 obtain ⟨t,rfl⟩:=rx
 obtain ⟨t',rfl⟩:=ry
 exact rule i j t t' s _ _ ⟨.int (g i j),H,I.tok _,⟨_,rfl⟩,q⟩
theorem opB0 {f:Value -> Value -> Sem Value} {g:Int -> Int -> Bool}
  (rule:∀ (i j:Int) (t u:Tok) (s:Shared) (Q:Value -> Shared -> Prop) (E:Value -> Shared -> Prop),Q (.bool (g i j)) s -> wpAny (model X.prog X.w) X.A (f (.int i t) (.int j u)) Q E s) :
  OpR X f (rI0 fun i j=>.bl (g i j)):=by
 intro pins s σ H x y v u Q I rx ry h
 obtain ⟨i,j,rfl,rfl,q⟩:=h
 obtain ⟨t,rfl⟩:=rx
 obtain ⟨t',rfl⟩:=ry
 exact rule i j t t' s _ _ ⟨.bl (g i j),H,I,rfl,q⟩
def CPow (i j:Int):Prop:=0 <= j /\ j <= 1000000 /\ i.natAbs < 2 ^ 64
theorem op_add:OpR X (binaryOp .Add) (rI0 fun i j=>.int (i + j)):=opI0 fun _ _ _ _ _ _ _ q=>add_int q
theorem op_sub:OpR X (binaryOp .Sub) (rI0 fun i j=>.int (i - j)):=opI0 fun _ _ _ _ _ _ _ q=>sub_int q
theorem op_modN:OpR X (binaryOp .Mod) (rI (fun _ j=>j ≠ 0) fun i j=>.int (i.fmod j)):=opI fun _ _ _ _ _ _ _ hc q=>mod_int' hc q
theorem op_pow:OpR X (binaryOp .Pow) (rI CPow fun i j=>.int (i ^ j.toNat)):=opI fun _ _ _ _ _ _ _ hc q=>pow_int_small hc.1 hc.2.1 hc.2.2 q
theorem unI {f:Value -> Sem Value} {g:Int -> Int}
  (rule:∀ (i:Int) (t:Tok) (s:Shared) (Q:Value -> Shared -> Prop) (E:Value -> Shared -> Prop),Q (.int (g i) s.toks) { s with toks:=s.toks + 1 } -> wpAny (model X.prog X.w) X.A (f (.int i t)) Q E s) :
  UnR X f (rU fun i=>.int (g i)):=by
 intro pins s σ H x v Q I rx h
 obtain ⟨i,rfl,q⟩:=h
 obtain ⟨t,rfl⟩:=rx
 exact rule i t s _ _ ⟨.int (g i),H,I.tok _,⟨_,rfl⟩,q⟩
theorem un_neg:UnR X (unaryOp .USub) (rU fun i=>.int (-i)):=unI fun _ _ _ _ _ q=>neg_int q
end
def scal:V -> V -> Bool
 | .non,.non=>true | .non,.int _=>true | .int _,.non=>true | .non,.bl _=>true | .bl _,.non=>true | .non,.str _=>true | .str _,.non=>true
 | .int _,.int _=>true | .bl _,.bl _=>true | .str _,.str _=>true | .byt _,.byt _=>true
 | .int _,.str _=>true | .str _,.int _=>true | .bl _,.str _=>true | .str _,.bl _=>true
 | _,_=>false
def rEq:R2:=fun x y H Q=>scal x y = true /\ Q (.bl (decide (x = y))) H
def rNe:R2:=fun x y H Q=>scal x y = true /\ Q (.bl (!decide (x = y))) H
theorem dec_int {i j:Int}:decide (V.int i = V.int j) = (i == j):=by
 rw [Bool.eq_iff_iff]
 simp
theorem dec_bl {i j:Bool}:decide (V.bl i = V.bl j) = (i == j):=by
 rw [Bool.eq_iff_iff]
 simp
theorem dec_str {i j:Str}:decide (V.str i = V.str j) = (i == j):=by
 rw [Bool.eq_iff_iff]
 simp
theorem dec_byt {i j:Array UInt8}:decide (V.byt i = V.byt j) = (i.toList == j.toList):=by
 rw [Bool.eq_iff_iff]
 cases i
 cases j
 simp
section
variable {X:Cx} {a b c:Expr} {ta tb tc:TE} {pos:Pos}
theorem fin_bl {pins:List (Addr × Obj)} {σ:St} {H:Hp} {s:Shared} {Q:VK} {k k':Bool} (I:Inv X pins σ H s) (q:Q (.bl k) H) (e:k = k'):EP X pins σ Q (.bool k') s:=by
 subst e
 exact ⟨.bl k,H,I,rfl,q⟩
theorem op_eq:OpR X (compareOp .Eq) rEq:=by
 intro pins s σ H x y v u Q I rx ry h
 obtain ⟨hs,q⟩:=h
 cases x with
 | non =>
  cases rx
  cases y with
  | non=>cases ry; exact PySem.EqNone.eq_none_none (fin_bl I q (by simp))
  | bl j=>cases ry; exact PySem.EqNone.eq_none_bool (fin_bl I q (by simp))
  | int j=>obtain ⟨t',rfl⟩:=ry; exact PySem.EqNone.eq_none_int (fin_bl I q (by simp))
  | str j=>obtain ⟨t',rfl⟩:=ry; exact PySem.EqNone.eq_none_str (fin_bl I q (by simp))
  | _=>exact absurd (show false = true from hs) Bool.false_ne_true
 | bl i =>
  cases rx
  cases y with
  | non=>cases ry; exact PySem.EqNone.eq_bool_none (fin_bl I q (by simp))
  | bl j=>cases ry; exact eq_bool (fin_bl I q dec_bl)
  | str j=>obtain ⟨t',rfl⟩:=ry; exact PySem.EqMixed.eq_bool_str (fin_bl I q (by simp))
  | _=>exact absurd (show false = true from hs) Bool.false_ne_true
 | int i =>
  obtain ⟨t,rfl⟩:=rx
  cases y with
  | non=>cases ry; exact PySem.EqNone.eq_int_none (fin_bl I q (by simp))
  | int j=>obtain ⟨t',rfl⟩:=ry; exact eq_int (fin_bl I q dec_int)
  | str j=>obtain ⟨t',rfl⟩:=ry; exact PySem.EqMixed.eq_int_str (fin_bl I q (by simp))
  | _=>exact absurd (show false = true from hs) Bool.false_ne_true
 | str i =>
  obtain ⟨t,rfl⟩:=rx
  cases y with
  | non=>cases ry; exact PySem.EqNone.eq_str_none (fin_bl I q (by simp))
  | bl j=>cases ry; exact PySem.EqMixed.eq_str_bool (fin_bl I q (by simp))
  | int j=>obtain ⟨t',rfl⟩:=ry; exact PySem.EqMixed.eq_str_int (fin_bl I q (by simp))
  | str j=>obtain ⟨t',rfl⟩:=ry; exact eq_str (fin_bl I q dec_str)
  | _=>exact absurd (show false = true from hs) Bool.false_ne_true
 | byt i =>
  obtain ⟨t,rfl⟩:=rx
  cases y with
  | byt j=>obtain ⟨t',rfl⟩:=ry; exact PySem.W.eq_bytes (fin_bl I q dec_byt)
  | _=>exact absurd (show false = true from hs) Bool.false_ne_true
 | _=>cases y <;> exact absurd (show false = true from hs) Bool.false_ne_true
theorem op_ne:OpR X (compareOp .NotEq) rNe:=by
 intro pins s σ H x y v u Q I rx ry h
 obtain ⟨hs,q⟩:=h
 cases x with
 | non =>
  cases rx
  cases y with
  | non=>cases ry; exact PySem.EqNone.ne_none_none (fin_bl I q (by simp))
  | bl j=>cases ry; exact PySem.EqNone.ne_none_bool (fin_bl I q (by simp))
  | int j=>obtain ⟨t',rfl⟩:=ry; exact PySem.EqNone.ne_none_int (fin_bl I q (by simp))
  | str j=>obtain ⟨t',rfl⟩:=ry; exact PySem.EqNone.ne_none_str (fin_bl I q (by simp))
  | _=>exact absurd (show false = true from hs) Bool.false_ne_true
 | bl i =>
  cases rx
  cases y with
  | non=>cases ry; exact PySem.EqNone.ne_bool_none (fin_bl I q (by simp))
  | bl j=>cases ry; exact ne_bool (fin_bl I q (congrArg not dec_bl))
  | str j=>obtain ⟨t',rfl⟩:=ry; exact PySem.EqMixed.ne_bool_str (fin_bl I q (by simp))
  | _=>exact absurd (show false = true from hs) Bool.false_ne_true
 | int i =>
  obtain ⟨t,rfl⟩:=rx
  cases y with
  | non=>cases ry; exact PySem.EqNone.ne_int_none (fin_bl I q (by simp))
  | int j=>obtain ⟨t',rfl⟩:=ry; exact ne_int (fin_bl I q (congrArg not dec_int))
  | str j=>obtain ⟨t',rfl⟩:=ry; exact PySem.EqMixed.ne_int_str (fin_bl I q (by simp))
  | _=>exact absurd (show false = true from hs) Bool.false_ne_true
 | str i =>
  obtain ⟨t,rfl⟩:=rx
  cases y with
  | non=>cases ry; exact PySem.EqNone.ne_str_none (fin_bl I q (by simp))
  | bl j=>cases ry; exact PySem.EqMixed.ne_str_bool (fin_bl I q (by simp))
  | int j=>obtain ⟨t',rfl⟩:=ry; exact PySem.EqMixed.ne_str_int (fin_bl I q (by simp))
  | str j=>obtain ⟨t',rfl⟩:=ry; exact ne_str (fin_bl I q (congrArg not dec_str))
  | _=>exact absurd (show false = true from hs) Bool.false_ne_true
 | byt i =>
  obtain ⟨t,rfl⟩:=rx
  cases y with
  | byt j=>obtain ⟨t',rfl⟩:=ry; exact PySem.W.ne_bytes (fin_bl I q (congrArg not dec_byt))
  | _=>exact absurd (show false = true from hs) Bool.false_ne_true
 | _=>cases y <;> exact absurd (show false = true from hs) Bool.false_ne_true
theorem op_lt:OpR X (compareOp .Lt) (rI0 fun i j=>.bl (decide (i < j))):=opB0 fun _ _ _ _ _ _ _ q=>lt_int q
theorem op_le:OpR X (compareOp .LtE) (rI0 fun i j=>.bl (decide (i <= j))):=opB0 fun _ _ _ _ _ _ _ q=>le_int q
theorem op_gt:OpR X (compareOp .Gt) (rI0 fun i j=>.bl (decide (j < i))):=opB0 fun _ _ _ _ _ _ _ q=>gt_int q
theorem op_ge:OpR X (compareOp .GtE) (rI0 fun i j=>.bl (decide (j <= i))):=opB0 fun _ _ _ _ _ _ _ q=>ge_int q
theorem OpR.or {f:Value -> Value -> Sem Value} {r r':R2} (h:OpR X f r) (h':OpR X f r'):OpR X f (fun x y H Q=>r x y H Q \/ r' x y H Q):=by
 intro pins s σ H x y v u Q I rx ry q
 rcases q with q | q
 ·exact h pins s σ H x y v u Q I rx ry q
 ·exact h' pins s σ H x y v u Q I rx ry q
theorem nomark (b:Expr) {op:CmpOp} (h:op ≠ .In:=by decide) (h2:op ≠ .NotIn:=by decide):behindInMarks op b = false:=by
 have e1:(op == CmpOp.In) = false:=by cases op <;> first | rfl | exact absurd rfl h
 have e2:(op == CmpOp.NotIn) = false:=by cases op <;> first | rfl | exact absurd rfl h2
 cases b <;> simp [behindInMarks,e1,e2]
theorem pe_cmpR {op:CmpOp} {r:R2} (ho:OpR X (compareOp op) r) (ha:PE X a ta) (hb:PE X b tb) (hm:behindInMarks op b = false):PE X (.Compare a [op] [b] pos) (tOp r ta tb):=by
 intro pins s σ H Q I h
 exact wpAny_Compare1 (binT ha hb I h fun v u s2 x y H2 I2 rx ry q=>ho pins s2 σ H2 x y v u Q I2 rx ry q) hm
def tTest (t:TE):TT:=fun σ H Q=>t σ H fun x H'=>∃ k,x = .bl k /\ Q k H'
theorem pt_cmpR {op:CmpOp} {r:R2} (ho:OpR X (compareOp op) r) (ha:PE X a ta) (hb:PE X b tb) (hm:behindInMarks op b = false):PT X (.Compare a [op] [b] pos) (tTest (tOp r ta tb)):=by
 intro pins s σ H Q I h
 refine wpAny_isTrue_Compare1 (thn (ha pins s σ H _ I h) fun v s1 ⟨x,H1,I1,r1,q1⟩=>thn (hb pins s1 σ H1 _ I1 q1) fun u s2 ⟨y,H2,I2,r2,q2⟩ =>
  thn (ho pins s2 σ H2 x y v u _ I2 r1 r2 q2) fun c s3 ⟨z,H3,I3,r3,k,e,q3⟩=>?_) hm
 subst e
 cases r3
 exact wpAny_truthy_bool ⟨H3,I3,q3⟩
def TruV (K:PySem.W.Frag) (x:V) (H:Hp) (k:Bool):Prop :=
 match x with
 | .non=>k = false
 | .bl b=>k = b
 | .int i=>k = (i != 0)
 | .str y=>y.length <= sizeLine /\ k = ((y.length:Int) != 0)
 | .byt y=>y.size <= sizeLine /\ k = ((y.size:Int) != 0)
 | .ref p=>(∃ xs,SqL K H p xs /\ k = !xs.isEmpty) \/ (∃ xs,SqT K H p xs /\ k = !xs.isEmpty) \/ ∃ kvs,H p = some (.dK kvs) /\ k = !kvs.isEmpty
 | _=>False
theorem isEmpty_kv {κ:Type} {kvs:List (κ × V)} {vs:List (κ × Value)} (r:KV kvs vs):(!vs.isEmpty) = !kvs.isEmpty:=by
 cases r <;> rfl
theorem isEmpty_of {xs:List V} {its:List Value} (r:Vals xs its):(!its.toArray.isEmpty) = !xs.isEmpty:=by
 cases r <;> simp
theorem line63:(sizeLine:Nat) < 2 ^ 63:=by rw [sizeLine_eq]; decide
theorem tru_ok:TruR X (fun x H Q=>∃ k,TruV X.K x H k /\ Q k H):=by
 intro pins s σ H x v Q I rx h
 obtain ⟨k,e,q⟩:=h
 have hl:=line63
 have hs:sizeLine = 16777216:=sizeLine_eq
 cases x with
 | non =>
  cases rx
  have e':k = false:=e
  subst e'
  exact truthy_none ⟨H,I,q⟩
 | bl b =>
  cases rx
  have e':k = b:=e
  subst e'
  exact wpAny_truthy_bool ⟨H,I,q⟩
 | int i =>
  obtain ⟨t,rfl⟩:=rx
  have e':k = (i != 0):=e
  subst e'
  exact PySem.P.truthy_int ⟨H,I,q⟩
 | str y =>
  obtain ⟨t,rfl⟩:=rx
  obtain ⟨hy,e'⟩ : y.length <= sizeLine /\ k = ((y.length:Int) != 0):=e
  subst e'
  exact PySem.P.truthy_str (by walk_at "o") ⟨H,I.tok _,q⟩
 | byt y =>
  obtain ⟨t,rfl⟩:=rx
  obtain ⟨hy,e'⟩ : y.size <= sizeLine /\ k = ((y.size:Int) != 0):=e
  subst e'
  exact PySem.W.truthy_bytes (by walk_at "o") ⟨H,I.tok _,q⟩
 | ref p =>
  cases rx
  have e':(∃ xs,SqL X.K H p xs /\ k = !xs.isEmpty) \/ (∃ xs,SqT X.K H p xs /\ k = !xs.isEmpty) \/ ∃ kvs,H p = some (.dK kvs) /\ k = !kvs.isEmpty:=e
  rcases e' with ⟨xs,hx,e'⟩ | ⟨xs,hx,e'⟩ | ⟨kvs,hx,e'⟩
  ·subst e'
   obtain ⟨its,r,pl,hz⟩:=I.list hx
   have hlen:=r.length
   exact wpAny_truthy_list pl.isList (by simp only [List.size_toArray]; walk_at "o") ⟨H,I.tok _,by rw [isEmpty_of r]; exact q⟩
  ·subst e'
   obtain ⟨its,r,pl,hz⟩:=I.tuple hx
   have hlen:=r.length
   exact truthy_tuple pl (by simp only [List.size_toArray]; walk_at "o") ⟨H,I.tok _,by rw [isEmpty_of r]; exact q⟩
  ·subst e'
   obtain ⟨hz,hS,vs,r,m⟩ : kvs.length <= sizeLine /\ (p == sysModules) = false /\ ∃ vs,KV kvs vs /\ s.heap.DictOf (mixKind X.prog X.w) p vs:=I.hok p _ hx
   have hlen:kvs.length = vs.length:=Paired.length r
   exact wpAny_truthy_dict hS m (by walk_at "o") ⟨H,I.tok _,by rw [isEmpty_kv r]; exact q⟩
 | _=>exact (show False from e).elim
theorem pt_truth (ha:PE X a ta) (he:∀ whole,isTrue a X.env whole = (do let v <- whole; standAt a.pos; holding [v] (truthy v))) :
  PT X a (fun σ H Q=>ta σ H fun x H'=>∃ k,TruV X.K x H' k /\ Q k H'):=by
 intro pins s σ H Q I h
 exact isTrue_plain (thn (ha pins s σ H _ I h) fun v s1 ⟨x,H1,I1,r1,q1⟩=>tru_ok pins s1 σ H1 x v Q I1 r1 q1) (he _)
theorem vals1 {x:V} {us:List Value} (r:Vals [x] us):∃ u,us = [u] /\ RelV x u:=by
 cases r with
 | cons r1 r2=>cases r2; exact ⟨_,rfl,r1⟩
theorem vals2 {x y:V} {us:List Value} (r:Vals [x,y] us):∃ u w',us = [u,w'] /\ RelV x u /\ RelV y w':=by
 cases r with
 | cons r1 r2 =>
  cases r2 with
  | cons r3 r4=>cases r4; exact ⟨_,_,rfl,r1,r3⟩
theorem call_abs:CallR X (.builtin "abs") (fun xs H Q=>∃ i,xs = [.int i] /\ Q (.int (if i < 0 then -i else i)) H):=by
 intro pins s σ H xs us Q I r h
 obtain ⟨i,rfl,q⟩:=h
 obtain ⟨u,rfl,t,rfl⟩:=vals1 r
 exact call_abs_int fun u tk=>⟨.int (if i < 0 then -i else i),H,I.tok _,⟨_,rfl⟩,q⟩
theorem call_max2 (hc:X.calm = true):CallR X (.builtin "max") (fun xs H Q=>∃ i j,xs = [.int i,.int j] /\ Q (.int (if j > i then j else i)) H):=by
 intro pins s σ H xs us Q I r h
 obtain ⟨i,j,rfl,q⟩:=h
 obtain ⟨u,w',rfl,⟨t,rfl⟩,⟨t',rfl⟩⟩:=vals2 r
 refine max_two_ints (I.ok.hd hc) fun h' tk k=>⟨_,H,I.kept k,?_,q⟩
 by_cases hj:j > i
 ·rw [if_pos hj,if_pos hj]; exact ⟨_,rfl⟩
 ·rw [if_neg hj,if_neg hj]; exact ⟨_,rfl⟩
theorem call_min2 (hc:X.calm = true):CallR X (.builtin "min") (fun xs H Q=>∃ i j,xs = [.int i,.int j] /\ Q (.int (if j < i then j else i)) H):=by
 intro pins s σ H xs us Q I r h
 obtain ⟨i,j,rfl,q⟩:=h
 obtain ⟨u,w',rfl,⟨t,rfl⟩,⟨t',rfl⟩⟩:=vals2 r
 refine min_two_ints (I.ok.hd hc) fun h' tk k=>⟨_,H,I.kept k,?_,q⟩
 by_cases hj:j < i
 ·rw [if_pos hj,if_pos hj]; exact ⟨_,rfl⟩
 ·rw [if_neg hj,if_neg hj]; exact ⟨_,rfl⟩
end
end L2
namespace L2
open PySem PySem.Spec PyProof.Rows
structure ObjM (h:Heap) (x dx C:Addr) (mA:Str -> Option Value):Prop where
 obj:h.get? x = some (PySem.W.instObj C dx)
 ns:h.Ns1 dx mA
 ne:dx ≠ x
theorem lookIn_ns {h:Heap} {dx:Addr} {mA:Str -> Option Value} (n:h.Ns1 dx mA):∃ od,h.get? dx = some od /\ ∀ name,PySem.W.lookIn name od = some (mA name):=by
 obtain ⟨o,es,ep,ho,hd,hk,_,hm⟩:=n
 refine ⟨o,ho,fun name=>?_⟩
 have e:=hm name
 unfold nsFind findBy at e
 rw [<- Array.find?_toList] at e
 unfold PySem.W.lookIn
 rw [hd]
 dsimp only
 split
 ·rename_i y q
  rw [q] at e
  exact congrArg some e
 ·rename_i q
  rw [q] at e
  have a:es.toList.any (·.refKey) = false:=by
   rw [List.any_eq_false]
   intro y hy
   obtain ⟨z,t,hkey⟩:=hk y (Array.mem_toList_iff.mp hy)
   simp [DictEntry.refKey,hkey]
  have a':¬ es.toList.any (·.refKey) = true:=by rw [a]; exact Bool.false_ne_true
  rw [if_neg a']
  exact congrArg some e
theorem ObjM.look {h:Heap} {x dx C:Addr} {mA:Str -> Option Value} (I:ObjM h x dx C mA):∃ od,PySem.W.InstAt h x (PySem.W.instObj C dx) C (some od) /\ ∀ name,PySem.W.lookIn name od = some (mA name) :=
 let ⟨od,ho,hl⟩:=lookIn_ns I.ns
 ⟨od,⟨I.obj,rfl,rfl,ho⟩,hl⟩
section
variable {prog:Program} {w:World} {A:Around} {E:Value -> Shared -> Prop} {s:Shared} {K:PySem.W.Frag} {x dx C f:Addr} {mA:Str -> Option Value} {name:Str} {v:Value}
end
section
variable {P:Program} {w:World} {H H':Hp} {h h':Heap} {a C dx:Addr} {fs fs':List (Str × V)}
theorem ins_get (hok:HOk P w H h) (e:H a = some (.ins C dx fs)):∃ mA,ObjM h a dx C mA /\ (∀ f,RelO (fs.lookup f) (mA f)) /\ PySem.Within mA (fs.map (·.1)) /\ fs.length <= 1000 /\ H dx = some (.own a):=by
 obtain ⟨d,z,ne,ob,mA,n,r,q⟩:=(show ObjOk P w H h a (.ins C dx fs) from hok a _ e)
 exact ⟨mA,⟨ob,n,ne⟩,r,q,z,d⟩
end
structure Cls (K:PySem.W.Frag) (C:Addr):Prop where
 pg:PySem.W.plainGet K C Str.empty = true
 hd:PySem.W.hasDictIn K C = true
 po:PySem.W.plainOver K C = true
 sa:PySem.W.findIn K (.ref C) "__setattr__" = some (some (.builtin "object.__setattr__"))
theorem Cls.get {K:PySem.W.Frag} {C:Addr} (c:Cls K C) (f:Str):PySem.W.plainGet K C f = true:=c.pg
section
variable {X:Cx} {pins:List (Addr × Obj)} {σ:St} {H:Hp} {s:Shared} {a C dx:Addr} {fs:List (Str × V)} {f:Str} {v:V} {A:Around} {E:Value -> Shared -> Prop}
end
section
variable {X:Cx} {o e value:Expr} {f:Str} {pos pos' tpos:Pos} {ta tv:TE}
end
section
variable {X:Cx} {pins:List (Addr × Obj)} {σ:St} {H:Hp} {s:Shared} {A:Around} {E:Value -> Shared -> Prop} {Q:Value -> Shared -> Prop} {c:Value} {b:Bool}
inductive TyOf (K:PySem.W.Frag) (H:Hp):V -> Value -> Prop where
 | non:TyOf K H .non (.type "NoneType")
 | bl (x:Bool):TyOf K H (.bl x) (.type "bool")
 | int (i:Int):TyOf K H (.int i) (.type "int")
 | str (x:Str):TyOf K H (.str x) (.type "str")
 | flt (x:UInt64):TyOf K H (.flt x) (.type "float")
 | lst {a:Addr} {xs:List V} (e:H a = some (.lst xs)):TyOf K H (.ref a) (.type "list")
 | frz {a:Addr} {o:Obj} {xs:List V} (e:H a = some (.frz o (.lst xs))):TyOf K H (.ref a) (.type "list")
 | tup {a:Addr} {xs:List V} (e:H a = some (.tup xs)):TyOf K H (.ref a) (.type "tuple")
 | dK {a:Addr} {kvs:List (Key × V)} (e:H a = some (.dK kvs)):TyOf K H (.ref a) (.type "dict")
 | dT {a:Addr} {kvs:List (List Key × V)} (e:H a = some (.dT kvs)):TyOf K H (.ref a) (.type "dict")
 | ins {a C dx:Addr} {fs:List (Str × V)} (e:H a = some (.ins C dx fs)) (cl:Cls K C) (ha:PySem.W.findIn K (.ref C) "__class__" = some (some (.builtin "object.__class__")))
   (hn:PySem.W.specialIn K (.builtin "object.__class__") "__get__" = some (some (.builtin "getset_descriptor.__get__"))) (htk:PySem.W.takesIn K (.builtin "object.__class__") = some true)
   (hm:PySem.W.mroIn K C (.type "object") = some true):TyOf K H (.ref a) (.ref C)
theorem isinst_ok {x:V} {u t:Value} (I:Inv X pins σ H s) (rx:RelV x u) (ty:TyOf X.K H x t) (e:PySem.W.kitOne X.K t c = some b) (h:∀ tk,Q (.bool b) { s with toks:=tk }) :
  wpAny (model X.prog X.w) A (call (.builtin "isinstance") [u,c]) Q E s:=by
 cases ty with
 | non=>cases (show u = Value.none from rx); exact PySem.W.kia_one PySem.W.kitx_none I.kIn True.intro e (fun z=>nomatch z) h
 | bl y=>cases (show u = Value.bool y from rx); exact PySem.W.kia_one PySem.W.kitx_bool I.kIn True.intro e (fun z=>nomatch z) h
 | int i=>obtain ⟨t,q⟩:=(show ∃ t,u = Value.int i t from rx); cases q; exact PySem.W.kia_one PySem.W.kitx_int I.kIn True.intro e (fun z=>nomatch z) h
 | str y=>obtain ⟨t,q⟩:=(show ∃ t,u = Value.str y t from rx); cases q; exact PySem.W.kia_one PySem.W.kitx_str I.kIn True.intro e (fun z=>nomatch z) h
 | flt y=>obtain ⟨t,q⟩:=(show ∃ t,u = Value.float y t from rx); cases q; exact PySem.W.kia_one PySem.W.kitx_float I.kIn True.intro e (fun z=>nomatch z) h
 | @lst a xs ea =>
  cases (show u = Value.ref a from rx)
  obtain ⟨_,_,n,_,h1⟩:=(show ObjOk X.prog X.w H s.heap a (.lst xs) from I.hok a _ ea)
  exact PySem.W.kia_one PySem.W.kitx_list I.kIn ⟨_,h1,rfl⟩ e (fun z=>nomatch z) h
 | @frz a ob xs ea =>
  cases (show u = Value.ref a from rx)
  obtain ⟨_,_,_,n,_,h1⟩:=(show ObjOk X.prog X.w H s.heap a (.frz ob (.lst xs)) from I.hok a _ ea)
  exact PySem.W.kia_one PySem.W.kitx_list I.kIn ⟨_,h1,rfl⟩ e (fun z=>nomatch z) h
 | @tup a xs ea =>
  cases (show u = Value.ref a from rx)
  obtain ⟨_,_,_,p⟩:=(show ObjOk X.prog X.w H s.heap a (.tup xs) from I.hok a _ ea)
  obtain ⟨o,h1,h2,_⟩:=p
  exact PySem.W.kia_one PySem.W.kitx_tuple I.kIn ⟨o,h1,h2⟩ e (fun z=>nomatch z) h
 | @dK a kvs ea =>
  cases (show u = Value.ref a from rx)
  obtain ⟨_,_,vs,_,p⟩:=(show ObjOk X.prog X.w H s.heap a (.dK kvs) from I.hok a _ ea)
  obtain ⟨o,es,ep,h1,h2,_⟩:=p
  exact PySem.W.kia_one PySem.W.kitx_dict I.kIn ⟨o,h1,h2.1⟩ e (fun z=>nomatch z) h
 | @dT a kvs ea =>
  cases (show u = Value.ref a from rx)
  obtain ⟨_,_,xs,_,o,es,ep,h1,h2,_⟩:=(show ObjOk X.prog X.w H s.heap a (.dT kvs) from I.hok a _ ea)
  exact PySem.W.kia_one PySem.W.kitx_dict I.kIn ⟨o,h1,h2.1⟩ e (fun z=>nomatch z) h
 | @ins a C dx fs ea cl ha hn htk hm =>
  cases (show u = Value.ref a from rx)
  obtain ⟨mA,O,_⟩:=ins_get I.hok ea
  obtain ⟨od,J,_⟩:=O.look
  exact PySem.W.kia_one (PySem.W.kitx_own (cl.get _) cl.hd ha hn htk hm) I.kIn J e (fun z=>nomatch z) h
end
end L2
namespace L2
open PySem PySem.Spec PyProof.Rows
structure Room (k:Nat) (A:Around):Prop where
 hd:A.handled = none
 dp:A.depth + 3 * k + 105 < recursionLimit
 un:A.units + 16 * k + 200 < cLine
theorem Room.mono {j k:Nat} {A:Around} (r:Room k A) (h:j <= k):Room j A:=⟨r.hd,by have:=r.dp; walk_at "o",by have:=r.un; walk_at "o"⟩
theorem Room.deeper {k:Nat} {A:Around} (r:Room (k + 1) A) (env:Env):Room k (A.deeper env) :=
 ⟨r.hd,by have:=r.dp; show A.depth + 1 + 3 * k + 105 < _; walk_at "o",by have:=r.un; show A.units + 3 + 16 * k + 200 < _; walk_at "o"⟩
theorem Room.depth {k:Nat} {A:Around} (r:Room k A):A.depth < recursionLimit:=by have:=r.dp; walk_at "o"
def tNil:TA:=fun _ H Q=>Q [] H
def tCons (ta:TE) (tr:TA):TA:=fun σ H Q=>ta σ H fun x H1=>tr σ H1 fun xs H2=>Q (x :: xs) H2
section
variable {X:Cx} {e:Expr} {es:List Expr} {te:TE} {t:TA} {pos:Pos}
theorem pa_nil:PA X [] tNil:=fun _ _ _ _ H Q I h=>Calls.spliced_nil ⟨[],H,I,.nil,h⟩
theorem pa_cons (ha:PE X e te) (hr:PA X es t) (hs:starEach (e :: es) X.env = (false,eval e X.env) :: starEach es X.env:=by rfl):PA X (e :: es) (tCons te t):=by
 intro pos pins s σ H Q I h
 rw [hs]
 show wpAny _ _ (spliced ((false,eval e X.env) :: backTo pos (starEach es X.env))) _ _ s
 refine Calls.spliced_cons (thn (ha pins s σ H _ I h) fun u s1 ⟨x,H1,I1,r1,q1⟩=>?_)
 exact thn (hr pos pins s1 σ H1 _ I1 q1) fun us s2 ⟨xs,H2,I2,r2,q2⟩=>⟨x :: xs,H2,I2,.cons r1 r2,q2⟩
end
abbrev Sp:=List V -> Hp -> VK -> XK -> Prop
abbrev CXT:=List Env -> Hp -> Shared -> XK -> Value -> Shared -> Prop
structure Env0 (P:Program) (w:World) (K:PySem.W.Frag) (mg:Str -> Option Value) (base:Heap) (A:Around) (outer:List Env) (s:Shared) (H:Hp):Prop where
 frames:A.frames = some outer
 mod:Mod K mg base
 bs:∀ b o,base.get? b = some o -> s.heap.get? b = some o /\ H b = none
 bsz:base.objs.size <= s.heap.objs.size
 funs:s.heap.FunFrames base outer
 frf:∀ b ∈ frs outer,H b = none
 hok:HOk P w H s.heap
 bare:AllBare s.gens
def CE (outer:List Env) (P:Program) (w:World) (H:Hp) (s:Shared) (Q:VK) (u:Value) (s':Shared):Prop :=
 ∃ v H',s'.os = s.os /\ AllBare s'.gens /\ Un (frs outer) [] H H' s.heap s'.heap /\ HOk P w H' s'.heap /\ RelV v u /\ Q v H'
def CR (CX:CXT) (outer:List Env) (P:Program) (w:World) (H:Hp) (s:Shared) (Q:VK) (E:XK) (r:Result) (s':Shared):Prop :=
 match r with
 | .ok (.ret u)=>CE outer P w H s Q u s'
 | .ok _=>False
 | .error e=>CX outer H s E e s'
structure FnOk (P:Program) (w:World) (K:PySem.W.Frag) (mg:Str -> Option Value) (base:Heap) (CX:CXT) (k:Nat) (f:Addr) (fd:FuncData) (ps:List Str) (sp:Sp):Prop where
 len:∀ vs H Q E,sp vs H Q E -> vs.length = ps.length
 run:∀ (A:Around) (outer:List Env) (s:Shared) (H:Hp) (args:Args) (us:List Value) (vs:List V) (Q:VK) (E:XK),Room k A -> Env0 P w K mg base A outer s H -> BindsTo s fd args (ps.zip us) -> Vals vs us -> sp vs H Q E ->
  codeAny (model P w) A (.call (.ref f) args) (CR CX outer P w H s Q E) s
section
variable {X:Cx} {pins:List (Addr × Obj)} {σ:St} {H:Hp} {s s':Shared}
theorem Inv.env0 (I:Inv X pins σ H s):Env0 X.prog X.w X.K X.mg X.base X.A X.stack s H :=
 ⟨I.ok.frames,I.ok.mod,I.bs,Nat.le_trans I.ok.bsz I.sz,I.stack,I.stkFree,I.hok,I.bare⟩
theorem Inv.after {Q:VK} {u:Value} (I:Inv X pins σ H s) (h:CE X.stack X.prog X.w H s Q u s'):EP X pins σ Q u s':=by
 obtain ⟨v,H',os,bare,un,hok,r,q⟩:=h
 obtain ⟨hh,g,d,t,os'⟩:=s'
 obtain rfl:os' = s.os:=os
 exact ⟨v,H',I.call (h':=hh) (g':=g) (d':=d) (t':=t) (ch:=[]) un hok bare (fun b z=>absurd z (by simp)),r,q⟩
end
def tCall (sp:Sp) (dvs:List V) (E:XK) (t:TA):TE:=fun σ H Q=>t σ H fun vs H1=>sp (vs ++ dvs) H1 Q E
def Binds (K:PySem.W.Frag) (fd:FuncData) (ps:List Str) (ds:List Value):Prop :=
 ∀ (s:Shared) (us:List Value),K.In s.heap -> (us ++ ds).length = ps.length -> BindsTo s fd ⟨us,[]⟩ (ps.zip (us ++ ds))
theorem Binds.all {K:PySem.W.Frag} {fd:FuncData} {ps:List Str} (h:∀ us:List Value,us.length = ps.length -> bindArgs fd ⟨us,[]⟩ = pure (ps.zip us)):Binds K fd ps []:=fun s us _ hl=>by
 rw [List.append_nil] at hl ⊢
 exact .of_eq (h us hl)
def Passes (CX:CXT) (X:Cx) (E:XK):Prop:=∀ (pins:List (Addr × Obj)) (σ:St) (H:Hp) (s:Shared) (e:Value) (s':Shared),Inv X pins σ H s -> CX X.stack H s E e s' -> X.xe e s'
section
variable {X:Cx} {CX:CXT} {k:Nat} {f C:Addr} {fd:FuncData} {ps:List Str} {sp:Sp} {dvs:List V} {ds:List Value} {E:XK} {x m:Str} {p pos apos:Pos} {e o:Expr} {es:List Expr} {ta:TE} {t:TA}
theorem run_fn {pins:List (Addr × Obj)} {σ:St} {H:Hp} {s:Shared} {Q:VK} {us:List Value} {vs:List V} (F:FnOk X.prog X.w X.K X.mg X.base CX k f fd ps sp) (hr:Room k X.A) (hb:Binds X.K fd ps ds) (hd:Vals dvs ds) (hx:Passes CX X E)
  (I:Inv X pins σ H s) (r:Vals vs us) (h:sp (vs ++ dvs) H Q E):wpAny (model X.prog X.w) X.A (call (.ref f) us) (EP X pins σ Q) X.xe s:=by
 have r2:Vals (vs ++ dvs) (us ++ ds):=r.append hd
 have hl:(us ++ ds).length = ps.length:=by rw [<- r2.length]; exact F.len _ _ _ _ h
 refine wpAny_call (codeAny_mono (F.run X.A X.stack s H ⟨us,[]⟩ (us ++ ds) (vs ++ dvs) Q E hr I.env0 (hb s us I.kIn hl) r2 h) fun r s' hq=>?_)
 cases r with
 | error e=>exact hx pins σ H s e s' I hq
 | ok fl =>
  cases fl with
  | ret u=>exact I.after hq
  | next=>exact False.elim hq
  | brk=>exact False.elim hq
  | cont=>exact False.elim hq
theorem pe_call (F:FnOk X.prog X.w X.K X.mg X.base CX k f fd ps sp) (hr:Room k X.A) (hg:Gl X x) (hm:X.mg x = some (.ref f)) (hk:PySem.W.keepIn X.K (.ref f) = true) (hb:Binds X.K fd ps ds) (hd:Vals dvs ds) (hx:Passes CX X E)
  (ha:PA X (e :: es) t) (hdb:(x == ("__debug__" : Str)) = false:=by decide) (he:starEach (e :: es) X.env = (false,eval e X.env) :: starEach es X.env:=by rfl) (hpl:(backTo pos (starEach es X.env)).any (·.1) = false:=by rfl) :
  PE X (.Call (.Name x p) (e :: es) [] pos) (tCall sp dvs E t):=by
 intro pins s σ H Q I h
 refine wpAny_Call_Name_kw (ld_glob I hg hm ?_ hdb)
 refine PySem.W.callWith_K (h₀:=X.base) I.ok.mod.kin hk (thn (ha pos pins s σ H _ I h) fun us s1 ⟨vs,H1,I1,r,q⟩=>⟨I1.kIn,?_⟩) he hpl
 exact run_fn F hr hb hd hx I1 r q
end
section
variable {X:Cx} {CX:CXT} {k:Nat} {f C:Addr} {fd:FuncData} {ps ks:List Str} {sp:Sp} {E:XK} {x m:Str} {p pos apos kpos:Pos} {e o:Expr} {es:List Expr} {kws:List Keyword} {te ta:TE} {t tk:TA} {nm:Option Str}
variable {g:List Value -> List Value -> List Value} {gV:List V -> List V -> List V}
end
structure FnScope (N P:List Str) (sc:Scope):Prop where
 kind:sc.kind = .function
 co:sc.isCoroutine = false
 gen:sc.isGenerator = false
 nd:N.Nodup
 pre:N.take P.length = P
 par:∀ x ∈ P,sc.names.lookup x = some .local \/ sc.names.lookup x = some .cell
 nofree:∀ y ∈ sc.names,y.2 ≠ .free
theorem bindL_out {kindOf:Str -> Option NameKind} {x:Str}:∀ {binds:List (Str × Value)} {m:Str -> Option Value},(∀ v,(x,v) ∉ binds) -> bindL kindOf binds m x = m x
 | [],_,_=>rfl
 | (n,v) :: r,m,h=>by
  unfold bindL
  rw [bindL_out fun w hw=>h w (List.mem_cons_of_mem _ hw)]
  split
  ·have:x ≠ n:=by rintro rfl; exact h v List.mem_cons_self
   simp [this]
  ·rfl
theorem bindC_out {kindOf:Str -> Option NameKind} {x:Str}:∀ {binds:List (Str × Value)} {m:Str -> Option Value},(∀ v,(x,v) ∉ binds) -> bindC kindOf binds m x = m x
 | [],_,_=>rfl
 | (n,v) :: r,m,h=>by
  unfold bindC
  rw [bindC_out fun w hw=>h w (List.mem_cons_of_mem _ hw)]
  split
  ·rfl
  ·have:x ≠ n:=by rintro rfl; exact h v List.mem_cons_self
   simp [this]
theorem bindL_get {kindOf:Str -> Option NameKind} {x:Str} {v:Value}:∀ {P:List Str} {vs:List Value} {i:Nat} {m:Str -> Option Value},P.Nodup -> P[i]? = some x -> vs[i]? = some v -> kindOf x = some .local ->
  bindL kindOf (P.zip vs) m x = some v
 | [],_,_,_,_,h,_,_=>by simp at h
 | _ :: _,[],_,_,_,_,h,_=>by simp at h
 | p :: P,w :: vs,0,m,nd,h1,h2,hk=>by
  simp at h1 h2; subst h1; subst h2
  show bindL kindOf ((p,w) :: P.zip vs) m p = _
  unfold bindL
  rw [bindL_out fun v hv=>(List.nodup_cons.mp nd).1 (List.of_mem_zip hv).1,if_pos hk]
  simp
 | p :: P,w :: vs,i + 1,m,nd,h1,h2,hk=>by
  show bindL kindOf ((p,w) :: P.zip vs) m x = _
  unfold bindL
  exact bindL_get (i:=i) (List.nodup_cons.mp nd).2 (by simpa using h1) (by simpa using h2) hk
theorem bindC_get {kindOf:Str -> Option NameKind} {x:Str} {v:Value}:∀ {P:List Str} {vs:List Value} {i:Nat} {m:Str -> Option Value},P.Nodup -> P[i]? = some x -> vs[i]? = some v -> kindOf x ≠ some .local ->
  bindC kindOf (P.zip vs) m x = some v
 | [],_,_,_,_,h,_,_=>by simp at h
 | _ :: _,[],_,_,_,_,h,_=>by simp at h
 | p :: P,w :: vs,0,m,nd,h1,h2,hk=>by
  simp at h1 h2; subst h1; subst h2
  show bindC kindOf ((p,w) :: P.zip vs) m p = _
  unfold bindC
  rw [bindC_out fun v hv=>(List.nodup_cons.mp nd).1 (List.of_mem_zip hv).1,if_neg hk]
  simp
 | p :: P,w :: vs,i + 1,m,nd,h1,h2,hk=>by
  show bindC kindOf ((p,w) :: P.zip vs) m x = _
  unfold bindC
  exact bindC_get (i:=i) (List.nodup_cons.mp nd).2 (by simpa using h1) (by simpa using h2) hk
def start (N:List Str) (vs:List V):St:=vs.map some ++ List.replicate (N.length - vs.length) none
def cxOf (CX:CXT) (P:Program) (w:World) (K:PySem.W.Frag) (mg:Str -> Option Value) (base:Heap) (N:List Str) (qual:Str) (scope:Scope) (f:Addr) (cd:Value) (A:Around) (outer:List Env) (s:Shared) (H:Hp) (E:XK):Cx where
 prog:=P
 w:=w
 K:=K
 mg:=mg
 base:=base
 A:=A.deeper (envOfC qual scope s.heap.objs.size f cd)
 N:=N
 s₀:=s
 H₀:=H
 env:=envOfC qual scope s.heap.objs.size f cd
 outer:=outer
 stack:=envOfC qual scope s.heap.objs.size f cd :: outer
 ex:=[]
 calm:=true
 fn:=fun _=>true
 pn:=[]
 xe:=fun e s'=>wpAny (model P w) (A.deeper (envOfC qual scope s.heap.objs.size f cd)) (leaving (envOfC qual scope s.heap.objs.size f cd) e) (fun _ s''=>CX outer H s E e s'') (fun e' s''=>CX outer H s E e' s'') s'
theorem cell_has {sc:Scope} {n:Nat} {x:Str} (h:sc.names.lookup x = some .cell):∃ c,(cellsFrom n sc.names []).lookup x = some c:=by
 have q:=PySem.W.cellsFrom_some sc.names n [] (.inl h)
 exact Option.isSome_iff_exists.mp q
theorem inv_start {CX:CXT} {P:Program} {w:World} {K:PySem.W.Frag} {mg:Str -> Option Value} {base:Heap} {N ps:List Str} {qual:Str} {scope:Scope} {f:Addr} {cd:Value} {A:Around} {outer:List Env} {s s1:Shared} {H:Hp} {E:XK} {us:List Value} {vs:List V}
  (S:FnScope N ps scope) (hd:A.handled = none) (e0:Env0 P w K mg base A outer s H) (hl:vs.length = ps.length) (r:Vals vs us)
  (x:InCallC s s.heap.objs.size (bindL (envOfC qual scope s.heap.objs.size f cd).kindOf (ps.zip us) fun _=>none) (cellsFrom (s.heap.objs.size + 1) scope.names []) (bindC (envOfC qual scope s.heap.objs.size f cd).kindOf (ps.zip us) fun _=>none) s1) :
  Inv (cxOf CX P w K mg base N qual scope f cd A outer s H E) [] (start N vs) H s1:=by
 have hpl:ps.length <= N.length:=by have:=congrArg List.length S.pre; rw [List.length_take] at this; walk_at "o"
 obtain ⟨h1,tk,rfl,hk⟩:=x.done
 have noA:∀ b:Addr,b ∉ (cxOf CX P w K mg base N qual scope f cd A outer s H E).ex:=fun b z=>absurd (show b ∈ ([]:List Addr) from z) (by simp)
 refine ⟨⟨e0.mod,S.kind,rfl,rfl,Nat.le_refl _,fun y z c h1 h2=>?_,fun y hy=>?_,fun y c _ h=>?_,fun _=>hd,Around.frames_deeper e0.frames,.inr ⟨rfl,rfl⟩,fun b z=>absurd z (noA b),e0.bs,e0.bsz,fun b _ _=>noA b,fun b z=>absurd z (noA b),e0.funs,e0.frf⟩,
  rfl,e0.bare,Un.kept hk,⟨_,x.toInCall.ns,fun i y v h1 h2 h3=>?_⟩,fun y c h=>⟨_,x.cell y c h⟩,e0.hok.fresh (Nat.le_refl _),fun y c h=>?_,fun p hp=>absurd (show p ∈ ([]:List (Addr × Obj)) from hp) (by simp),e0.hok.kept hk,?_⟩
 ·exact name_of_addr x.apart (PySem.mem_of_lookup h1) (PySem.mem_of_lookup h2)
 ·have hy:scope.names.lookup y = some .cell \/ scope.names.lookup y = some .free:=hy
  rcases hy with hy | hy
  ·exact cell_has hy
  ·exact absurd rfl (S.nofree _ (PySem.mem_of_lookup hy))
 ·exact Nat.le_of_lt (x.above y c (PySem.mem_of_lookup h))
 ·have hi:i < vs.length:=by
   unfold start at h2
   by_cases hi:i < vs.length
   ·exact hi
   ·rw [List.getElem?_append_right (by simpa using hi)] at h2
    rw [List.getElem?_replicate] at h2
    split at h2 <;> cases h2
  have ha:vs[i]? = some v:=by
   unfold start at h2
   rw [List.getElem?_append_left (by simpa using hi),List.getElem?_map] at h2
   cases e:vs[i]? with
   | none=>rw [e] at h2; cases h2
   | some a=>rw [e] at h2; cases h2; rfl
  obtain ⟨u,hu,rv⟩:=r.get ha
  have hp:ps[i]? = some y:=by
   rw [<- S.pre,List.getElem?_take_of_lt (by walk_at "o")]; exact h1
  have ndP:ps.Nodup:=by rw [<- S.pre]; exact S.nd.sublist (List.take_sublist _ _)
  refine ⟨u,rv,?_⟩
  rcases S.par y (List.mem_of_getElem? hp) with k | k
  ·exact .inl ⟨k,bindL_get ndP hp hu k⟩
  ·obtain ⟨c,e⟩:=cell_has (n:=s.heap.objs.size + 1) k
   refine .inr ⟨.inl k,c,e,?_⟩
   have q:=x.cell y c e
   rw [bindC_get ndP hp hu (by show scope.names.lookup y ≠ _; rw [k]; decide)] at q
   exact q
 ·exact e0.hok.fresh (Nat.le_of_lt (x.above y c (PySem.mem_of_lookup h)))
 ·unfold start
  show _ = N.length
  rw [List.length_append,List.length_map,List.length_replicate]
  walk_at "o"
theorem fn_of {CX:CXT} {P:Program} {w:World} {K:PySem.W.Frag} {mg:Str -> Option Value} {base:Heap} {k:Nat} {f:Addr} {name qual:Str} {params:Arguments} {body:List Stmt} {scope:Scope} {dV kV doc pm cdv ct oc:Value} {an od:Option Addr}
  {osl:Array (Option Value)} {N ps:List Str} {sp:Sp} (lk:K.lookup f = some ⟨oc,od,.func (PySem.W.fnOf name qual params body scope dV kV doc pm an cdv ct),osl⟩) (hcd:PySem.W.codeIn K cdv qual = true) (S:FnScope N ps scope)
  (len:∀ vs H Q E,sp vs H Q E -> vs.length = ps.length)
  (hbody:∀ (A:Around) (outer:List Env) (s:Shared) (H:Hp) (vs:List V) (Q:VK) (E:XK),Room k (A.deeper (envOfC qual scope s.heap.objs.size f cdv)) -> sp vs H Q E ->
   ∃ t,PSs (cxOf CX P w K mg base N qual scope f cdv A outer s H E) body t /\ t { nx:=fun _ H'=>Q .non H',rt:=Q } (start N vs) H) :
  FnOk P w K mg base CX (k + 1) f (PySem.W.fnOf name qual params body scope dV kV doc pm an cdv ct) ps sp:=by
 refine ⟨len,fun A outer s H args us vs Q E hr e0 hb r hsp=>?_⟩
 have hl:=len _ _ _ _ hsp
 have KX:K.In s.heap:=e0.mod.kin.keeps fun b o e=>(e0.bs b o e).1
 have lim:s.heap.NoLimit:=e0.mod.nolimit.keeps fun b o e=>(e0.bs b o e).1
 have hkind:∀ y ∈ ps.zip us,scope.names.lookup y.1 = some .local \/ (scope.names.lookup y.1 = some .cell /\ ((cellsFrom (s.heap.objs.size + 1) scope.names []).lookup y.1).isSome = true):=fun ⟨n,v⟩ hy=>by
  rcases S.par n (List.of_mem_zip hy).1 with q | q
  ·exact .inl q
  ·exact .inr ⟨q,PySem.W.cellsFrom_some _ _ _ (.inl q)⟩
 refine codeAny_call_function hr.depth (KX _ _ lk) rfl S.co S.gen rfl (PySem.W.codeRec_of KX hcd) (hb _ _ _ _ ?_)
 refine wpAny_newFunctionEnv_cells S.kind hkind fun env he s1 x=>?_
 subst he
 refine ⟨lim.keeps x.toInCall.keep,codeAny_func ?_⟩
 obtain ⟨t,ht,hq⟩:=hbody A outer s H vs Q E (hr.deeper _) hsp
 have I:Inv (cxOf CX P w K mg base N qual scope f cdv A outer s H E) [] (start N vs) H s1:=inv_start S hr.hd e0 hl r x
 refine wpAny_mono (ht [] s1 (start N vs) H _ I hq) (fun fl s' hs=>?_) fun e s' hs=>hs
 have fin:∀ {σ':St} {H':Hp} {v:V} {u:Value},Inv (cxOf CX P w K mg base N qual scope f cdv A outer s H E) [] σ' H' s' -> RelV v u -> Q v H' -> CE outer P w H s Q u s' :=
  fun {σ' H' v u} J rv q=>⟨v,H',J.os,J.bare,J.base,J.hok,rv,q⟩
 cases fl with
 | ret u =>
  obtain ⟨v,σ',H',J,rv,q⟩:=hs
  exact fin J rv q
 | next =>
  obtain ⟨σ',H',J,q⟩:=hs
  exact fin (v:=V.non) (u:=Value.none) J rfl q
 | brk =>
  obtain ⟨_,_,_,q⟩:=hs
  exact False.elim q
 | cont =>
  obtain ⟨_,_,_,q⟩:=hs
  exact False.elim q
end L2
namespace L2
open PySem PySem.Spec PyProof.Rows
section
variable {X:Cx} {x:Str} {p pos:Pos} {e:Expr} {es:List Expr} {t:TA} {id T:String} {r:List V -> Hp -> VK -> Prop}
def tCB (r:List V -> Hp -> VK -> Prop) (t:TA):TE:=fun σ H Q=>t σ H fun vs H1=>r vs H1 Q
theorem pe_callB (hc:CallR X (.builtin id) r) (hg:Gl X x) (hm:X.mg x = none) (hv:bootBuiltins x = some (.builtin id)) (ha:PA X (e :: es) t) (hn:x ≠ "__name__":=by decide) (hdb:(x == ("__debug__" : Str)) = false:=by decide)
  (he:starEach (e :: es) X.env = (false,eval e X.env) :: starEach es X.env:=by rfl) (hpl:(backTo pos (starEach es X.env)).any (·.1) = false:=by rfl):PE X (.Call (.Name x p) (e :: es) [] pos) (tCB r t):=by
 intro pins s σ H Q I h
 refine wpAny_Call_Name_kw (ld_blt I hg hm hv ?_ hn hdb)
 exact PyProof.Rows.callWith_builtin1 (thn (ha pos pins s σ H _ I h) fun us s1 ⟨vs,H1,I1,r1,q1⟩=>hc pins s1 σ H1 vs us Q I1 r1 q1) he hpl
theorem pe_callTy (hc:CallR X (.type T) r) (hg:Gl X x) (hm:X.mg x = none) (hv:bootBuiltins x = some (.type T)) (ha:PA X (e :: es) t) (hn:x ≠ "__name__":=by decide) (hdb:(x == ("__debug__" : Str)) = false:=by decide)
  (he:starEach (e :: es) X.env = (false,eval e X.env) :: starEach es X.env:=by rfl) (hpl:(backTo pos (starEach es X.env)).any (·.1) = false:=by rfl):PE X (.Call (.Name x p) (e :: es) [] pos) (tCB r t):=by
 intro pins s σ H Q I h
 refine wpAny_Call_Name_kw (ld_blt I hg hm hv ?_ hn hdb)
 exact PyProof.Rows.callWith_type1 (thn (ha pos pins s σ H _ I h) fun us s1 ⟨vs,H1,I1,r1,q1⟩=>hc pins s1 σ H1 vs us Q I1 r1 q1) he hpl
end
end L2
namespace HT
open PySem PyProof.Rows
section
open PySem.SeqAt
open PySem.AutoSeq1 (wpAny_loadPart')
open PySem.MeetsSeq PySem.MeetsSeq2 PySem.MeetsSeq3
end
section
variable {prog:Program} {w:World} {A:Around} {E:Value -> Shared -> Prop} {s:Shared}
def sIx (n d:Nat):Option Int -> Nat
 | none=>d
 | some v=>if v < 0 then (v + (n:Int)).toNat else min v.toNat n
theorem sIx_nat (n d k:Nat):sIx n d (some (k:Int)) = min k n:=by
 show (if (k:Int) < 0 then ((k:Int) + (n:Int)).toNat else min (k:Int).toNat n) = min k n
 rw [if_neg (by walk_at "o"),Int.toNat_natCast]
theorem sIx_le (n d:Nat) (hd:d <= n) (o:Option Int):sIx n d o <= n:=by
 cases o with
 | none=>exact hd
 | some v =>
  show (if v < 0 then (v + (n:Int)).toNat else min v.toNat n) <= n
  by_cases hv:v < 0
  ·rw [if_pos hv]; walk_at "o"
  ·rw [if_neg hv]; exact Nat.min_le_right _ _
theorem clip_eq (v:Int) (n d:Nat):(if v < 0 then max (v + (n:Int)) 0 else min v (n:Int)) = ((sIx n d (some v):Nat):Int):=by
 show (if v < 0 then max (v + (n:Int)) 0 else min v (n:Int)) = (((if v < 0 then (v + (n:Int)).toNat else min v.toNat n):Nat):Int)
 by_cases hv:v < 0
 ·simp only [if_pos hv]; walk_at "o"
 ·simp only [if_neg hv]; walk_at "o"
theorem adjust_gen (lo hi:Option Int) (n:Nat):Builtin.Slice.sliceAdjust lo hi 1 (n:Int) = (((sIx n 0 lo:Nat):Int),((sIx n n hi:Nat):Int)):=by
 have h1:¬ ((1:Int) < 0):=by walk_at "o"
 unfold Builtin.Slice.sliceAdjust
 simp only [h1,if_false]
 refine Prod.ext ?_ ?_
 ·cases lo with
  | none=>rfl
  | some v=>exact clip_eq v n 0
 ·cases hi with
  | none=>rfl
  | some v=>exact clip_eq v n n
theorem places_gen (i j:Nat):Builtin.Slice.slicePlaces (i:Int) (j:Int) 1 = j - i:=by
 unfold Builtin.Slice.slicePlaces
 have h1:(1:Int) > 0:=by walk_at "o"
 simp only [h1,if_true,Int.ediv_one]
 split <;> walk_at "o"
theorem slicePart_ {v:Value} {o:Option Int} {Q:Option Int -> Shared -> Prop} (p:IsPart v o) (h:Q o s):wpAny (model prog w) A (Builtin.Slice.slicePartIndex v) Q E s:=by
 cases p with
 | none=>exact slicePart_none h
 | int i t=>exact slicePart_int h
theorem sliceApplied_gen {sl:Addr} {vl vu:Value} {lo hi:Option Int} {n:Nat} {Q:Int × Int × Nat -> Shared -> Prop} (hs:s.heap.IsSliceOf sl vl vu .none) (pl:IsPart vl lo) (pu:IsPart vu hi)
  (h:Q (((sIx n 0 lo:Nat):Int),1,sIx n n hi - sIx n 0 lo) s):wpAny (model prog w) A (Builtin.Slice.sliceApplied (.ref sl) (pure (n:Int))) Q E s:=by
 obtain ⟨os,hos,hcs,hds⟩:=id hs
 unfold Builtin.Slice.sliceApplied Builtin.Slice.sliceFields
 refine wpAny_bind (wpAny_bind (wpAny_field hos hds (x:=vl) rfl (wpAny_bind (wpAny_field hos hds (x:=vu) rfl (wpAny_bind (wpAny_field hos hds (x:=.none) rfl (wpAny_pure ?_)))))))
 refine wpAny_bind (slicePart_none ?_)
 show wpAny _ _ (if ((1:Int) == 0) = true then _ else _) _ _ s
 rw [if_neg (by decide)]
 refine wpAny_bind (slicePart_ pl (wpAny_bind (slicePart_ pu (wpAny_bind (wpAny_pure ?_)))))
 show wpAny _ _ (match Builtin.Slice.sliceAdjust lo hi 1 (n:Int) with | (lo,hi)=>pure (lo,(1:Int),Builtin.Slice.slicePlaces lo hi 1)) _ _ s
 rw [adjust_gen lo hi n]
 show wpAny _ _ (pure (((sIx n 0 lo:Nat):Int),(1:Int),Builtin.Slice.slicePlaces ((sIx n 0 lo:Nat):Int) ((sIx n n hi:Nat):Int) 1)) _ _ s
 rw [places_gen]
 exact wpAny_pure h
theorem pick_gen (xs:Array Value) (i k:Nat):((List.range k).filterMap fun (m:Nat)=>xs[((i:Int) + (m:Int) * 1).toNat]?).toArray = ((xs.toList.drop i).take k).toArray:=by
 have e:(fun (m:Nat)=>xs[((i:Int) + (m:Int) * 1).toNat]?) = fun m=>xs[i + m]?:=by
  funext m
  have:((i:Int) + (m:Int) * 1).toNat = i + m:=by walk_at "o"
  rw [this]
 rw [e]
 have:=pick_run xs i k
 rw [List.filterMap_map] at this
 have e2:((fun x=>xs[x]?) ∘ fun x=>i + x) = fun m=>xs[i + m]?:=rfl
 rw [e2] at this
 rw [this]
theorem getItem_tuple_cut {t sl:Addr} {items:Array Value} {vl vu:Value} {lo hi:Option Int} {Q:Value -> Shared -> Prop} (ht:IsTup s.heap t items) (hs:s.heap.IsSliceOf sl vl vu .none) (pl:IsPart vl lo) (pu:IsPart vu hi)
  (hw:¬ (sIx items.size 0 lo = 0 /\ sIx items.size items.size hi = items.size))
  (h:Q (.ref s.heap.objs.size) { s with heap:=s.heap.push { cls:=.type "tuple",data:=.seq ((items.toList.drop (sIx items.size 0 lo)).take (sIx items.size items.size hi - sIx items.size 0 lo)).toArray } })
  (hsz:items.size <= sizeLine):wpAny (model prog w) A (getItem (.ref t) (.ref sl)) Q E s:=by
 have htake:sizeOk (.seq ((items.toList.drop (sIx items.size 0 lo)).take (sIx items.size items.size hi - sIx items.size 0 lo)).toArray):=by
  show ((items.toList.drop (sIx items.size 0 lo)).take (sIx items.size items.size hi - sIx items.size 0 lo)).toArray.size <= sizeLine
  rw [List.size_toArray,List.length_take,List.length_drop,Array.length_toList]
  walk_at "o"
 have hj:sIx items.size items.size hi <= items.size:=sIx_le _ _ (Nat.le_refl _) hi
 obtain ⟨os,hos,hcs,hds⟩:=id hs
 have hTs:s.TypeIs (.ref sl) "slice":=⟨os,hos,hcs⟩
 unfold getItem
 try with_reducible refine wpAny_holding ?_
 first | refine wpAny_bind (wpAny_pure ?_) | skip
 refine wpAny_bind (wpAny_sequenceKey ht.typeIs (by decide) ?_)
 refine wpAny_bind (wpAny_callSpecial?_slot (name:=Str.ofString "__getitem__") ht.typeIs PyProof.Rows.slot_tuple_getitem
  (wpAny_call_entry PyProof.Rows.slot_tuple_getitem ht.typeIs entry_tuple_getitem ?_ (args_tuple_getitem _ _)))
 show wpAny _ _ (Builtin.Tuple.tupleItemsOf (.ref t) >>= _) _ _ s
 refine wpAny_bind (tupleItemsOf_ ht ?_)
 refine wpAny_bind (wpAny_typeOf hTs ?_)
 rw [if_pos (by decide)]
 refine wpAny_bind (sliceApplied_gen hs pl pu ?_)
 have hno:¬ ((((sIx items.size 0 lo:Nat):Int) == 0 && (1:Int) == 1 && (sIx items.size items.size hi - sIx items.size 0 lo) == items.size) = true):=by
  intro q
  rw [Bool.and_eq_true,Bool.and_eq_true] at q
  have q1:((sIx items.size 0 lo:Nat):Int) = 0:=eq_of_beq q.1.1
  have q2:sIx items.size items.size hi - sIx items.size 0 lo = items.size:=eq_of_beq q.2
  exact hw ⟨by walk_at "o",by walk_at "o"⟩
 show wpAny _ _ (if (((sIx items.size 0 lo:Nat):Int) == 0 && (1:Int) == 1 && (sIx items.size items.size hi - sIx items.size 0 lo) == items.size) = true then _ else _) _ _ s
 rw [if_neg hno,pick_gen]
 first
  | exact wpAny_bind (m:=Builtin.Tuple.tupleExact _) (wpAny_newObj_type (wpAny_pure ⟨_,rfl,wpAny_pure h⟩) htake)
  | exact wpAny_bind (m:=Builtin.Tuple.tupleExact _) (wpAny_newObj_type (wpAny_bind (wpAny_pure (wpAny_pure ⟨_,rfl,wpAny_pure h⟩))) htake)
  | exact wpAny_bind (wpAny_bind (m:=Builtin.Tuple.tupleExact _) (wpAny_newObj_type (wpAny_pure (wpAny_pure ⟨_,rfl,wpAny_pure h⟩)) htake))
  | exact wpAny_bind (wpAny_bind (m:=Builtin.Tuple.tupleExact _) (wpAny_newObj_type (wpAny_pure ⟨_,rfl,wpAny_pure h⟩) htake))
end
end HT
namespace L2
open PySem PySem.Spec PyProof.Rows
abbrev TO:=St -> Hp -> (Option Int -> Hp -> Prop) -> Prop
def PO (X:Cx) (e:Option Expr) (t:TO):Prop :=
 ∀ (pins:List (Addr × Obj)) (s:Shared) (σ:St) (H:Hp) (Q:Option Int -> Hp -> Prop),Inv X pins σ H s -> t σ H Q ->
  wpAny (model X.prog X.w) X.A (evalPart e X.env) (fun u s'=>∃ o H',Inv X pins σ H' s' /\ IsPart u o /\ Q o H') X.xe s
def tNoPart:TO:=fun _ H Q=>Q none H
def tPart (t:TE):TO:=fun σ H Q=>t σ H fun x H1=>∃ i,x = .int i /\ Q (some i) H1
section
variable {X:Cx} {e:Expr} {te:TE} {lo hi:Option Expr} {tl th:TO} {pos p2:Pos}
theorem po_none:PO X none tNoPart:=by
 intro pins s σ H Q I h
 rw [evalPart_none]
 exact wpAny_pure ⟨none,H,I,.none,h⟩
theorem po_some (h:PE X e te):PO X (some e) (tPart te):=by
 intro pins s σ H Q I hw
 rw [evalPart_some]
 refine thn (h pins s σ H _ I hw) fun u s1 ⟨x,H1,I1,r1,q1⟩=>?_
 obtain ⟨i,rfl,q⟩:=q1
 obtain ⟨t,rfl⟩:=r1
 exact ⟨some i,H1,I1,.int i t,q⟩
def SlR (X:Cx) (r:V -> Option Int -> Option Int -> Hp -> VK -> Prop):Prop :=
 ∀ (pins:List (Addr × Obj)) (s:Shared) (σ:St) (H:Hp) (x:V) (v vl vu:Value) (lo hi:Option Int) (sl:Addr) (Q:VK),Inv X pins σ H s -> RelV x v -> s.heap.IsSliceOf sl vl vu .none -> IsPart vl lo -> IsPart vu hi -> r x lo hi H Q ->
  ∃ T id,typeLookup (.type T) "__getitem__" = pure (some (.builtin id)) /\ s.TypeIs v T /\ wpAny (model X.prog X.w) X.A (getItem v (.ref sl)) (EP X pins σ Q) X.xe s
def tSl (r:V -> Option Int -> Option Int -> Hp -> VK -> Prop) (te:TE) (tl th:TO):TE:=fun σ H Q=>te σ H fun x H1=>tl σ H1 fun l H2=>th σ H2 fun u H3=>r x l u H3 Q
theorem pe_slice {r:V -> Option Int -> Option Int -> Hp -> VK -> Prop} (hr:SlR X r) (he:PE X e te) (hl:PO X lo tl) (hu:PO X hi th):PE X (.Subscript e (.Slice lo hi none p2) pos) (tSl r te tl th):=by
 intro pins s σ H Q I h
 refine Subscript_ (thn (he pins s σ H _ I h) fun v s1 ⟨x,H1,I1,r1,q1⟩=>?_)
 refine wpAny_Slice (thn (hl pins s1 σ H1 _ I1 q1) fun vl s2 ⟨l,H2,I2,pl,q2⟩=>thn (hu pins s2 σ H2 _ I2 q2) fun vu s3 ⟨u,H3,I3,pu,q3⟩=>?_)
 rw [evalPart_none]
 refine wpAny_pure ?_
 have I4:Inv X pins σ H3 { s3 with heap:=s3.heap.push { cls:=.type "slice",data:=.fields #[vl,vu,.none] } }:=I3.kept (t':=s3.toks) fun b ob q=>Heap.get?_push_of_some _ q
 obtain ⟨T,id,hT,ht,hg⟩:=hr pins { s3 with heap:=s3.heap.push { cls:=.type "slice",data:=.fields #[vl,vu,.none] } } σ H3 x v vl vu l u s3.heap.objs.size Q I4 r1 (Heap.IsSliceOf.new ..) pl pu q3
 show wpAny (model X.prog X.w) X.A (subscriptTail e (.Slice lo hi none p2) v (.ref s3.heap.objs.size)) (EP X pins σ Q) X.xe { s3 with heap:=s3.heap.push { cls:=.type "slice",data:=.fields #[vl,vu,.none] } }
 exact tail_any (ops:=[.ref s3.heap.objs.size,v]) ht hT hg (by with_unfolding_all rfl)
def cutV (xs:List V) (lo hi:Option Int):List V:=(xs.drop (HT.sIx xs.length 0 lo)).take (HT.sIx xs.length xs.length hi - HT.sIx xs.length 0 lo)
theorem cutV_length (xs:List V) (lo hi:Option Int):(cutV xs lo hi).length <= xs.length:=by
 unfold cutV
 rw [List.length_take,List.length_drop]
 walk_at "o"
def rSlT (K:PySem.W.Frag):V -> Option Int -> Option Int -> Hp -> VK -> Prop:=fun x lo hi H Q=>∃ a xs,x = .ref a /\ SqT K H a xs /\
 ¬ (HT.sIx xs.length 0 lo = 0 /\ HT.sIx xs.length xs.length hi = xs.length) /\ ∀ p,H p = none -> Q (.ref p) (upd H p (.tup (cutV xs lo hi)))
theorem sl_tup:SlR X (rSlT X.K):=by
 intro pins s σ H x v vl vu lo hi sl Q I rx hs pl pu h
 obtain ⟨a,xs,rfl,hx,hw,q⟩:=h
 cases rx
 obtain ⟨its,r,ht,hz⟩:=I.tuple hx
 have hlen:its.toArray.size = xs.length:=by rw [List.size_toArray]; exact r.length.symm
 refine ⟨"tuple",_,PyProof.Rows.slot_tuple_getitem.lookup,ht.typeIs,?_⟩
 refine HT.getItem_tuple_cut ht hs pl pu (by rw [hlen]; exact hw) ?_ (by rw [hlen]; exact hz)
 rw [hlen]
 refine ⟨.ref s.heap.objs.size,_,I.laid (t':=s.toks) (o:=.tup (cutV xs lo hi)) (fun b ob q=>Heap.get?_push_of_some _ q) (Nat.le_refl _) ?_,rfl,q _ (I.hok.fresh (Nat.le_refl _))⟩
 exact ⟨Nat.le_trans (cutV_length xs lo hi) hz,_,(r.drop (HT.sIx xs.length 0 lo)).take (HT.sIx xs.length xs.length hi - HT.sIx xs.length 0 lo),IsTup.new _ _⟩
end
end L2
namespace L2
open PySem PySem.Spec PyProof.Rows
def ixN (n:Nat) (i:Int):Option Nat:=if 0 <= i then (if i < n then some i.toNat else none) else if -(n:Int) <= i then some (i + n).toNat else none
def atI {α:Type} (xs:List α) (i:Int):Option α:=(ixN xs.length i).bind fun j=>xs[j]?
theorem ixN_seq {n:Nat} {i:Int} {j:Nat} (h:ixN n i = some j):seqIndex? i n = some j /\ j < n /\ -(n:Int) <= i /\ i < n:=by
 unfold ixN at h
 by_cases h0:0 <= i
 ·rw [if_pos h0] at h
  by_cases h1:i < n
  ·rw [if_pos h1] at h
   have e:i.toNat = j:=Option.some.inj h
   exact ⟨by rw [seqIndex_of h0 h1,e],by walk_at "o",by walk_at "o",h1⟩
  ·rw [if_neg h1] at h; cases h
 ·rw [if_neg h0] at h
  by_cases h1 : -(n:Int) <= i
  ·rw [if_pos h1] at h
   have e:(i + n).toNat = j:=Option.some.inj h
   exact ⟨by rw [seqIndex_neg (by walk_at "o") h1,e],by walk_at "o",h1,by walk_at "o"⟩
  ·rw [if_neg h1] at h; cases h
theorem atI_get {α:Type} {xs:List α} {i:Int} {v:α} (h:atI xs i = some v):∃ j,seqIndex? i xs.length = some j /\ xs[j]? = some v /\ j < xs.length /\ -(xs.length:Int) <= i /\ i < xs.length:=by
 unfold atI at h
 cases e:ixN xs.length i with
 | none=>rw [e] at h; cases h
 | some j =>
  rw [e] at h
  obtain ⟨h1,h2,h3,h4⟩:=ixN_seq e
  exact ⟨j,h1,h,h2,h3,h4⟩
theorem atI_nat {α:Type} {xs:List α} {j:Nat} {v:α} (h:xs[j]? = some v):atI xs (j:Int) = some v:=by
 have hj:j < xs.length:=(List.getElem?_eq_some_iff.mp h).1
 have e:ixN xs.length (j:Int) = some j:=by
  unfold ixN
  rw [if_pos (by walk_at "o"),if_pos (by walk_at "o")]; simp
 unfold atI; rw [e]; exact h
theorem atI_last {α:Type} (xs:List α) (v:α):atI (xs ++ [v]) (-1) = some v:=by
 have hl:(xs ++ [v]).length = xs.length + 1:=by simp
 have e:ixN (xs ++ [v]).length (-1) = some xs.length:=by
  unfold ixN
  rw [hl,if_neg (by decide),if_pos (by walk_at "o")]
  congr 1
  walk_at "o"
 unfold atI
 rw [e]
 show (xs ++ [v])[xs.length]? = some v
 simp
def PlainIx (b:Expr):Prop:=∀ o i,subscripted b false o i = operate [o,i] (getItem o i)
def IxR (X:Cx) (r:R2):Prop :=
 ∀ (value slice:Expr) (pins:List (Addr × Obj)) (s:Shared) (σ:St) (H:Hp) (x y:V) (v u:Value) (Q:VK),Inv X pins σ H s -> RelV x v -> RelV y u -> r x y H Q ->
  subscripted slice false v u = operate [v,u] (getItem v u) -> wpAny (model X.prog X.w) X.A (subscriptTail value slice v u) (EP X pins σ Q) X.xe s
def MtR (X:Cx) (id:String) (r:V -> List V -> Hp -> VK -> Prop):Prop :=
 ∀ (pins:List (Addr × Obj)) (s:Shared) (σ:St) (H:Hp) (x:V) (xs:List V) (v:Value) (us:List Value) (Q:VK),Inv X pins σ H s -> RelV x v -> Vals xs us -> r x xs H Q ->
  wpAny (model X.prog X.w) X.A (call (.builtin id) (v :: us)) (EP X pins σ Q) X.xe s
section
variable {X:Cx} {a b:Expr} {ta tb:TE} {pos:Pos}
theorem pe_ix {r:R2} (hr:IxR X r) (ha:PE X a ta) (hb:PE X b tb) (hs:PlainIx b):PE X (.Subscript a b pos) (tOp r ta tb):=by
 intro pins s σ H Q I h
 exact Subscript_ (binT ha hb I h fun v u s2 x y H2 I2 rx ry q=>hr a b pins s2 σ H2 x y v u Q I2 rx ry q (hs _ _))
def rIxL (K:PySem.W.Frag):R2:=fun x y H Q=>∃ p xs i v,x = .ref p /\ y = .int i /\ SqL K H p xs /\ atI xs i = some v /\ Q v H
def rIxT (K:PySem.W.Frag):R2:=fun x y H Q=>∃ p xs i v,x = .ref p /\ y = .int i /\ SqT K H p xs /\ atI xs i = some v /\ Q v H
theorem ix_list:IxR X (rIxL X.K):=by
 intro value slice pins s σ H x y v u Q I rx ry h hs
 obtain ⟨p,xs,i,z,rfl,rfl,hq,he,q⟩:=h
 cases rx
 obtain ⟨t,rfl⟩:=ry
 obtain ⟨its,r,pl,hz⟩:=I.list hq
 obtain ⟨j,h1,h2,h3,h4,h5⟩:=atI_get he
 obtain ⟨w,ew,rw'⟩:=r.get h2
 have hl:=r.length
 have hn:=line63
 have fin:EP X pins σ Q w s:=⟨z,H,I,rw',q⟩
 by_cases h0:0 <= i
 ·have hj:i.toNat = j:=by
   rw [seqIndex_of h0 h5] at h1
   exact Option.some.inj h1
  exact item_listR pl.isList h0 (by walk_at "o") (by rw [hj]; simpa using ew) fin hs
 ·have hj:(i + (its.toArray.size:Int)).toNat = j:=by
   rw [seqIndex_neg (by walk_at "o") h4] at h1
   rw [List.size_toArray,<- hl]
   exact Option.some.inj h1
  exact subscriptTail_builtinR (x:=w) pl.isList.typeIs slot_list_getitem.lookup
   (wpAny_getItem_list_neg (Q:=fun r s'=>r = w /\ EP X pins σ Q r s') pl.isList (by walk_at "o") (by rw [List.size_toArray] <;> walk_at "o") (by walk_at "o") (by rw [hj]; simpa using ew) ⟨rfl,fin⟩) hs
theorem ix_tup:IxR X (rIxT X.K):=by
 intro value slice pins s σ H x y v u Q I rx ry h hs
 obtain ⟨p,xs,i,z,rfl,rfl,hq,he,q⟩:=h
 cases rx
 obtain ⟨t,rfl⟩:=ry
 obtain ⟨its,r,pl,hz⟩:=I.tuple hq
 obtain ⟨j,h1,h2,h3,h4,h5⟩:=atI_get he
 obtain ⟨w,ew,rw'⟩:=r.get h2
 have hl:=r.length
 have hn:=line63
 have fin:EP X pins σ Q w s:=⟨z,H,I,rw',q⟩
 exact subscriptTail_builtinR (x:=w) pl.typeIs slot_tuple_getitem.lookup
  (getItem_tuple (j:=j) (Q:=fun r s'=>r = w /\ EP X pins σ Q r s') pl (by walk_at "o") (by walk_at "o") (by rw [List.size_toArray,<- hl]; exact h1) (by simpa using ew) ⟨rfl,fin⟩) hs
theorem mapSeq_set (its:List Value) (n j:Nat) (u:Value):Obj.mapSeq (·.setIfInBounds j u) { cls:=.type "list",data:=.seq its.toArray n } = { cls:=.type "list",data:=.seq (its.set j u).toArray n }:=by
 simp [Obj.mapSeq]
theorem Inv.lst {pins:List (Addr × Obj)} {σ:St} {H:Hp} {s:Shared} {p:Addr} {xs:List V} (I:Inv X pins σ H s) (h:H p = some (.lst xs)) :
  ∃ (its:List Value) (n:Nat),Vals xs its /\ s.heap.get? p = some { cls:=.type "list",data:=.seq its.toArray n } /\ xs.length <= sizeLine:=by
 obtain ⟨z,its,n,r,e⟩:=I.hok p _ h
 exact ⟨its,n,r,e,z⟩
theorem Inv.lstUpd {pins:List (Addr × Obj)} {σ:St} {H:Hp} {s:Shared} {p:Addr} {xs ys:List V} {its its':List Value} {n n':Nat} {f:Obj -> Obj} (I:Inv X pins σ H s) (h:H p = some (.lst xs))
  (ho:s.heap.get? p = some { cls:=.type "list",data:=.seq its.toArray n }) (hf:f { cls:=.type "list",data:=.seq its.toArray n } = { cls:=.type "list",data:=.seq its'.toArray n' }) (r:Vals ys its') (hz:ys.length <= sizeLine) (t:Nat) :
  Inv X pins σ (upd H p (.lst ys)) { s with heap:=s.heap.update p f,toks:=t }:=by
 have e:(s.heap.update p f).get? p = some { cls:=.type "list",data:=.seq its'.toArray n' }:=by
  rw [Heap.get?_update_self f ho (by rw [hf] <;> rfl),hf]
 refine I.write (x:=p) (e:=p) (by rw [h]; trivial) (.inl rfl) (fun b u hb q=>(Heap.get?_update_other _ _ (Ne.symm hb)).trans q) ⟨_,e⟩ ?_
 exact ⟨hz,its',n',r,e⟩
def rSetL:V -> V -> V -> Hp -> (Hp -> Prop) -> Prop:=fun o i v H Q=>∃ p xs k j,o = .ref p /\ i = .int k /\ H p = some (.lst xs) /\ ixN xs.length k = some j /\ Q (upd H p (.lst (xs.set j v)))
theorem set_list:PSet X rSetL:=by
 intro pins s σ H o i v ov iv u Q I ro ri rv h
 obtain ⟨p,xs,k,j,rfl,rfl,hp,hj,q⟩:=h
 cases ro
 obtain ⟨t,rfl⟩:=ri
 obtain ⟨its,n,r,ho,hz⟩:=I.lst hp
 obtain ⟨h1,h2,h3,h4⟩:=ixN_seq hj
 have hl:=r.length
 have hn:=line63
 have I':Inv X pins σ (upd H p (.lst (xs.set j v))) { s with heap:=s.heap.update p (Obj.mapSeq (·.setIfInBounds j u)) } :=
  I.lstUpd hp ho (mapSeq_set its n j u) (r.set rv j) (by rw [List.length_set]; exact hz) s.toks
 by_cases h0:0 <= k
 ·have hk:k.toNat = j:=by
   rw [seqIndex_of h0 h4] at h1
   exact Option.some.inj h1
  exact PySem.W.ki_setAt ho h0 (by walk_at "o") (by rw [List.size_toArray,<- hl]; exact h4) (by rw [hk]; exact ⟨_,I',q⟩)
 ·have hk:(k + (its.toArray.size:Int)).toNat = j:=by
   rw [seqIndex_neg (by walk_at "o") h3] at h1
   rw [List.size_toArray,<- hl]
   exact Option.some.inj h1
  exact PySem.W.ki_setBack ho (by walk_at "o") (by rw [List.size_toArray,<- hl]; exact h3) (by walk_at "o") (by rw [hk]; exact ⟨_,I',q⟩)
theorem slice_bounds (lo hi:Option Int) (n:Nat):(sliceBounds lo hi none n).1 = ((HT.sIx n 0 lo:Nat):Int) /\ (sliceBounds lo hi none n).2.1 = ((HT.sIx n n hi:Nat):Int) /\ (sliceBounds lo hi none n).2.2 = 1:=by
 refine ⟨?_,?_,rfl⟩
 ·cases lo with
  | none=>simp [sliceBounds,HT.sIx]
  | some i =>
   simp only [sliceBounds,HT.sIx,Option.getD_none,show (1:Int) > 0 by decide,if_true]
   by_cases h:i < 0
   ·simp only [h,if_true] <;> walk_at "o"
   ·simp only [h,if_false] <;> walk_at "o"
 ·cases hi with
  | none=>simp [sliceBounds,HT.sIx]
  | some i =>
   simp only [sliceBounds,HT.sIx,Option.getD_none,show (1:Int) > 0 by decide,if_true]
   by_cases h:i < 0
   ·simp only [h,if_true] <;> walk_at "o"
   ·simp only [h,if_false] <;> walk_at "o"
theorem slicePick_cut (its:List Value) (lo hi:Option Int):slicePick its.toArray lo hi none = ((its.drop (HT.sIx its.length 0 lo)).take (HT.sIx its.length its.length hi - HT.sIx its.length 0 lo)).toArray:=by
 obtain ⟨h1,h2,h3⟩:=slice_bounds lo hi its.toArray.size
 unfold slicePick
 rw [h1,h2,h3]
 simp only [sliceRange_one,pick_run,List.size_toArray] <;> rfl
def rSlL (K:PySem.W.Frag):V -> Option Int -> Option Int -> Hp -> VK -> Prop:=fun x lo hi H Q=>∃ a xs,x = .ref a /\ SqL K H a xs /\ ∀ p,H p = none -> Q (.ref p) (upd H p (.lst (cutV xs lo hi)))
theorem sl_list:SlR X (rSlL X.K):=by
 intro pins s σ H x v vl vu lo hi sl Q I rx hs pl pu h
 obtain ⟨a,xs,rfl,hx,q⟩:=h
 cases rx
 obtain ⟨its,r,ht,hz⟩:=I.list hx
 have hlen:=r.length
 refine ⟨"list",_,slot_list_getitem.lookup,ht.isList.typeIs,?_⟩
 refine wpAny_getItem_list_slice ht.isList hs pl pu .none (by simp) ?_ (by rw [List.size_toArray] <;> walk_at "o")
 rw [slicePick_cut,<- hlen]
 refine ⟨.ref s.heap.objs.size,_,I.laid (t':=s.toks) (o:=.lst (cutV xs lo hi)) (fun b ob q=>Heap.get?_push_of_some _ q) (Nat.le_refl _) ?_,rfl,q _ (I.hok.fresh (Nat.le_refl _))⟩
 exact ⟨Nat.le_trans (cutV_length xs lo hi) hz,_,0,(r.drop (HT.sIx xs.length 0 lo)).take (HT.sIx xs.length xs.length hi - HT.sIx xs.length 0 lo),Heap.get?_push_size _ rfl⟩
theorem call_len_seq:CallR X (.builtin "len") (fun xs H Q=>∃ p ys,xs = [.ref p] /\ (SqL X.K H p ys \/ SqT X.K H p ys) /\ Q (.int ys.length) H):=by
 intro pins s σ H xs us Q I r h
 obtain ⟨p,ys,rfl,hq,q⟩:=h
 obtain ⟨u,rfl,rx⟩:=vals1 r
 cases rx
 have hn:=line63
 rcases hq with hq | hq
 ·obtain ⟨its,r',pl,hz⟩:=I.list hq
  have hlen:=r'.length
  exact Calls.call_len_list pl.isList (by simp only [List.size_toArray] <;> walk_at "o") ⟨.int ys.length,H,I.tok _,⟨s.toks + 1,by rw [List.size_toArray,hlen]⟩,q⟩
 ·obtain ⟨its,r',pl,hz⟩:=I.tuple hq
  have hlen:=r'.length
  exact len_tuple pl (by simp only [List.size_toArray] <;> walk_at "o") ⟨.int ys.length,H,I.tok _,⟨s.toks + 1,by rw [List.size_toArray,hlen]⟩,q⟩
theorem call_list_of:CallR X (.type "list") (fun xs H Q=>∃ p ys,xs = [.ref p] /\ (SqL X.K H p ys \/ SqT X.K H p ys) /\ ∀ l,H l = none -> Q (.ref l) (upd H l (.lst ys))):=by
 intro pins s σ H xs us Q I r h
 obtain ⟨p,ys,rfl,hq,q⟩:=h
 obtain ⟨u,rfl,rx⟩:=vals1 r
 cases rx
 have fin:∀ (its:List Value),Vals ys its -> ys.length <= sizeLine -> ∀ (h':Heap) (c':Nat),(∀ b o',s.heap.get? b = some o' -> h'.get? b = some o') ->
   h'.get? s.heap.objs.size = some { cls:=.type "list",dict:=none,data:=.seq its.toArray c',slots:=#[] } -> EP X pins σ Q (.ref s.heap.objs.size) { s with heap:=h' }:=fun its r' hz h' c' kp e =>
  ⟨.ref s.heap.objs.size,_,I.laid (t':=s.toks) kp (Nat.le_refl _) (show ObjOk X.prog X.w _ h' _ (.lst ys) from ⟨hz,its,c',r',e⟩),rfl,q _ (I.hok.fresh (Nat.le_refl _))⟩
 rcases hq with hq | hq
 ·obtain ⟨its,r',pl,hz⟩:=I.list hq
  have hlen:=r'.length
  obtain ⟨o,ho,hc,n,hd⟩:=pl.isList
  exact call_list_seq p (.inl rfl) ho hc hd (fun h' c' kp e=>fin its r' hz h' c' kp e) (by simp only [List.size_toArray] <;> walk_at "o")
 ·obtain ⟨its,r',pl,hz⟩:=I.tuple hq
  have hlen:=r'.length
  obtain ⟨o,ho,hc,n,hd⟩:=pl
  exact call_list_seq p (.inr rfl) ho hc hd (fun h' c' kp e=>fin its r' hz h' c' kp e) (by simp only [List.size_toArray] <;> walk_at "o")
theorem call_tuple_of:CallR X (.type "tuple") (fun xs H Q=>∃ p ys,xs = [.ref p] /\ ((SqL X.K H p ys /\ ∀ l,H l = none -> Q (.ref l) (upd H l (.tup ys))) \/ (SqT X.K H p ys /\ Q (.ref p) H))):=by
 intro pins s σ H xs us Q I r h
 obtain ⟨p,ys,rfl,h⟩:=h
 obtain ⟨u,rfl,rx⟩:=vals1 r
 cases rx
 rcases h with ⟨hq,q⟩ | ⟨hq,q⟩
 ·obtain ⟨its,r',pl,hz⟩:=I.list hq
  have hlen:=r'.length
  refine call_tuple_list pl.isList (fun h' kp=>?_) (by simp only [List.size_toArray] <;> walk_at "o")
  have I1:Inv X pins σ H { s with heap:=h' }:=I.kept (t':=s.toks) kp
  have I2:Inv X pins σ (upd H h'.objs.size (.tup ys)) { s with heap:=h'.push { cls:=.type "tuple",data:=.seq its.toArray } } :=
   I1.laid (t':=s.toks) (fun b o e=>Heap.get?_push_of_some _ e) (Nat.le_refl _) (show ObjOk X.prog X.w _ _ _ (.tup ys) from ⟨hz,its,r',IsTup.new _ _⟩)
  exact ⟨.ref h'.objs.size,_,I2,rfl,q _ (I1.hok.fresh (Nat.le_refl _))⟩
 ·obtain ⟨its,r',pl,hz⟩:=I.tuple hq
  exact call_tuple_same pl ⟨.ref p,H,I,rfl,q⟩
def tyV (K:PySem.W.Frag) (T:String) (x:V) (H:Hp):Prop:=match x with
 | .str _=>T = "str"
 | .int _=>T = "int"
 | .ref p=>(T = "list" /\ ∃ xs,SqL K H p xs) \/ (T = "tuple" /\ ∃ o,K.lookup p = some o /\ o.cls = .type "tuple" /\ o.dict = none) \/
   (T = "dict" /\ ((∃ kvs,H p = some (.dK kvs)) \/ ∃ kvs,H p = some (.dT kvs))) \/ (T = "set" /\ ∃ S n,H p = some (.set S n))
 | _=>False
theorem tyV_is {pins:List (Addr × Obj)} {σ:St} {H:Hp} {s:Shared} {T:String} {x:V} {v:Value} (I:Inv X pins σ H s) (r:RelV x v) (ty:tyV X.K T x H) :
  s.TypeIs v T /\ ∀ a,v = .ref a -> ∃ ob,s.heap.get? a = some ob /\ ob.dict = none:=by
 cases x with
 | str z =>
  obtain ⟨t,rfl⟩:=r
  cases (show T = "str" from ty)
  exact ⟨typeIs_str s z t,fun _ e=>nomatch e⟩
 | int i =>
  obtain ⟨t,rfl⟩:=r
  cases (show T = "int" from ty)
  exact ⟨typeIs_int s i t,fun _ e=>nomatch e⟩
 | ref p =>
  cases r
  rcases ty with ⟨rfl,xs,hq⟩ | ⟨rfl,o,hk,hc,hd⟩ | ⟨rfl,hk⟩ | ⟨rfl,S,n,hk⟩
  ·obtain ⟨its,_,pl,_⟩:=I.list hq
   refine ⟨pl.isList.typeIs,fun a e=>?_⟩
   cases e
   obtain ⟨o,n,e,c,hd,_⟩:=pl
   exact ⟨o,e,hd⟩
  ·refine ⟨⟨o,I.kIn p o hk,hc⟩,fun a e=>?_⟩
   cases e
   exact ⟨o,I.kIn _ o hk,hd⟩
  ·have z:∃ o,s.heap.get? p = some o /\ o.ExactDict:=by
    rcases hk with ⟨kvs,hk⟩ | ⟨kvs,hk⟩
    ·obtain ⟨_,_,_,_,o,_,_,e,ex,_⟩:=I.hok p _ hk
     exact ⟨o,e,ex⟩
    ·obtain ⟨_,_,_,_,o,_,_,e,ex,_⟩:=I.hok p _ hk
     exact ⟨o,e,ex⟩
   obtain ⟨o,e,ex⟩:=z
   refine ⟨⟨o,e,ex.1⟩,fun a e2=>?_⟩
   cases e2
   exact ⟨o,e,ex.2.1⟩
  ·obtain ⟨o,_,_,_,e,ex,_⟩:=I.hok p _ hk
   refine ⟨⟨o,e,ex.1⟩,fun a e2=>?_⟩
   cases e2
   exact ⟨o,e,ex.2.1⟩
 | _=>exact False.elim ty
def tBM0 (K:PySem.W.Frag) (T:String) (r:V -> List V -> Hp -> VK -> Prop) (to:TE):TE:=fun σ H Q=>to σ H fun x H1=>tyV K T x H1 /\ r x [] H1 Q
def tBM (K:PySem.W.Frag) (T:String) (r:V -> List V -> Hp -> VK -> Prop) (to:TE) (t:TA):TE:=fun σ H Q=>to σ H fun x H1=>tyV K T x H1 /\ t σ H1 fun xs H2=>r x xs H2 Q
variable {o e:Expr} {es:List Expr} {to:TE} {t:TA} {name:Str} {apos cpos:Pos} {T id:String} {r:V -> List V -> Hp -> VK -> Prop}
theorem pe_bm0 (pa:PlainAttrs T) (slot:Slot T name id) (hty:typeOf (.builtin id) = pure (.type "method_descriptor")) (hm:MtR X id r) (ho:PE X o to)
  (hbase:attributeBase o name X.env (eval o X.env) = eval o X.env:=by rfl) (hline:(apos.endLine == cpos.line) = true:=by rfl):PE X (.Call (.Attribute o name apos) [] [] cpos) (tBM0 X.K T r to):=by
 intro pins s σ H Q I h
 refine wpAny_Call_method0_late hbase hline (thn (ho pins s σ H _ I h) fun v s1 ⟨x,H1,I1,r1,ty,q1⟩=>?_)
 obtain ⟨h1,h2⟩:=tyV_is I1 r1 ty
 exact ⟨T,id,pa,slot,hty,h1,h2,Calls.callWith_builtin rfl (PySem.evalArgs_none (hm pins s1 σ H1 x [] v [] Q I1 r1 .nil q1))⟩
theorem pe_bm (pa:PlainAttrs T) (slot:Slot T name id) (hty:typeOf (.builtin id) = pure (.type "method_descriptor")) (hm:MtR X id r) (ho:PE X o to) (ha:PA X (e :: es) t)
  (hbase:attributeBase o name X.env (eval o X.env) = eval o X.env:=by rfl)
  (hfew:((backTo cpos (starEach (e :: es) X.env)).all (fun x=>!x.1) && (backToKw cpos (keywordEach [] X.env)).all (fun x=>x.1.isSome)
   && decide ((e :: es).length + ([]:List Keyword).length + (if ([]:List Keyword).isEmpty then 0 else 1) < 30)) = true:=by rfl)
  (hline:(apos.endLine == cpos.line) = true:=by rfl) (hs:starEach (e :: es) X.env = (false,eval e X.env) :: starEach es X.env:=by rfl) (hplain:(backTo cpos (starEach es X.env)).any (·.1) = false:=by rfl) :
  PE X (.Call (.Attribute o name apos) (e :: es) [] cpos) (tBM X.K T r to t):=by
 intro pins s σ H Q I h
 refine wpAny_Call_method_late hbase hfew hline rfl (thn (ho pins s σ H _ I h) fun v s1 ⟨x,H1,I1,r1,ty,q1⟩=>?_)
 obtain ⟨h1,h2⟩:=tyV_is I1 r1 ty
 refine ⟨T,id,pa,slot,hty,h1,h2,?_⟩
 have hA:=ha cpos pins s1 σ H1 _ I1 q1
 rw [hs] at hA ⊢
 refine Calls.callWith_builtin (by show (false || (backTo cpos (starEach es X.env)).any (·.1)) = false; rw [hplain] <;> rfl) (Calls.evalArgs_plain ?_)
 exact thn hA fun us s2 ⟨vs,H2,I2,r2,q2⟩=>hm pins s2 σ H2 x vs v us Q I2 r1 r2 q2
end
end L2
namespace L2
open PySem PySem.Spec PyProof.Rows
def MtM (X:Cx) (id:String) (r:V -> List V -> Hp -> VK -> Prop):Prop :=
 ∀ (pins:List (Addr × Obj)) (s:Shared) (σ:St) (H:Hp) (x:V) (xs:List V) (v:Value) (us:List Value) (Q:VK),Inv X pins σ H s -> RelV x v -> Vals xs us -> r x xs H Q ->
  wpAny (model X.prog X.w) X.A (call (.builtin id) (v :: us)) (EP X pins σ Q) X.xe s
theorem Vals.one:∀ {x:V} {us:List Value},Vals [x] us -> ∃ u,us = [u] /\ RelV x u
 | _,_,.cons r .nil=>⟨_,rfl,r⟩
theorem Vals.zero:∀ {us:List Value},Vals [] us -> us = []
 | _,.nil=>rfl
theorem Vals.dropLast {xs:List V} {us:List Value} (h:Vals xs us):Vals xs.dropLast us.dropLast:=by
 induction h with
 | nil=>exact .nil
 | cons r t ih =>
  cases t with
  | nil=>exact .nil
  | cons q t'=>exact .cons r ih
theorem Vals.rep {xs:List V} {us:List Value} (h:Vals xs us):∀ k:Nat,Vals (List.replicate k xs).flatten (List.replicate k us).flatten
 | 0=>.nil
 | k + 1=>by
  rw [List.replicate_succ,List.replicate_succ,List.flatten_cons,List.flatten_cons]
  exact Vals.append h (Vals.rep h k)
theorem erase_last {α:Type} (l:List α):l.eraseIdx (l.length - 1) = l.dropLast:=by
 induction l with
 | nil=>rfl
 | cons a r ih =>
  cases r with
  | nil=>rfl
  | cons b r =>
   have e:(a :: b :: r).length - 1 = ((b :: r).length - 1) + 1:=by
    have h1:(a :: b :: r).length = r.length + 2:=rfl
    have h2:(b :: r).length = r.length + 1:=rfl
    walk_at "o"
   rw [e,List.eraseIdx_cons_succ,ih]
   all_goals rfl
theorem foldl_rep (its:List Value):∀ (k:Nat) (acc:List Value),
  List.foldl (fun x1 x2=>x1 ++ x2) acc.toArray (List.replicate k its.toArray) = (acc ++ (List.replicate k its).flatten).toArray
 | 0,acc=>by simp
 | k + 1,acc=>by
  have e:acc.toArray ++ its.toArray = (acc ++ its).toArray:=by simp
  have e2:(acc ++ its) ++ (List.replicate k its).flatten = acc ++ (List.replicate (k + 1) its).flatten:=by
   rw [List.replicate_succ,List.flatten_cons,List.append_assoc]
  rw [<- e2,<- foldl_rep its k (acc ++ its),<- e,List.replicate_succ,List.foldl_cons]
section
variable {X:Cx} {pins:List (Addr × Obj)} {σ:St} {H:Hp} {s:Shared} {l b:Addr} {xs ys zs:List V}
theorem Inv.lset {its its':List Value} {n:Nat} {f:Array Value -> Array Value} {t':Nat} (I:Inv X pins σ H s) (hH:H l = some (.lst xs))
  (e:s.heap.get? l = some { cls:=.type "list",data:=.seq its.toArray n }) (hf:f its.toArray = its'.toArray) (hv:Vals ys its') (hz:ys.length <= sizeLine) :
  Inv X pins σ (upd H l (.lst ys)) { s with heap:=s.heap.update l (Obj.mapSeq f),toks:=t' }:=by
 have q:=PySem.IsL.update e f
 rw [hf] at q
 refine I.write (x:=l) (e:=l) (by rw [hH]; exact trivial) (.inl rfl) (fun b' u hb hu=>(Heap.get?_update_other s.heap (Obj.mapSeq f) (Ne.symm hb)).trans hu) ⟨_,q⟩ ?_
 exact ⟨hz,its',_,hv,q⟩
theorem Inv.lnew {its:List Value} {t':Nat} (I:Inv X pins σ H s) (hv:Vals ys its) (hz:ys.length <= sizeLine) :
  Inv X pins σ (upd H s.heap.objs.size (.lst ys)) { s with heap:=s.heap.push { cls:=.type "list",data:=.seq its.toArray },toks:=t' } :=
 I.laid (fun _ _ q=>Heap.get?_push_of_some _ q) (Nat.le_refl _) ⟨hz,its,0,hv,Heap.get?_push_size _ rfl⟩
theorem Inv.fresh (I:Inv X pins σ H s):H s.heap.objs.size = none:=I.hok.fresh (Nat.le_refl _)
theorem Inv.lstM (I:Inv X pins σ H s) (hH:H l = some (.lst xs)):xs.length <= sizeLine /\ ∃ (its:List Value) (n:Nat),Vals xs its /\ xs.length = its.length /\ s.heap.get? l = some { cls:=.type "list",data:=.seq its.toArray n }:=by
 obtain ⟨z,its,n,r,e⟩:=I.hok l _ hH
 exact ⟨z,its,n,r,r.length,e⟩
theorem notLongL {n:Nat} (h:n <= sizeLine):Builtin.List.listTooLong n = false:=by
 unfold Builtin.List.listTooLong
 exact decide_eq_false (by walk_at "o")
end
section
variable {X:Cx}
def rAppend:V -> List V -> Hp -> VK -> Prop:=fun x vs H Q=>∃ l xs y,x = .ref l /\ vs = [y] /\ H l = some (.lst xs) /\ xs.length < sizeLine /\ Q .non (upd H l (.lst (xs ++ [y])))
theorem mt_append:MtM X "list.append" rAppend:=by
 intro pins s σ H x vs v us Q I rx rv h
 obtain ⟨l,xs,y,rfl,rfl,hH,hz,q⟩:=h
 cases rx
 obtain ⟨u,rfl,ru⟩:=rv.one
 obtain ⟨z,its,n,r,hl,e⟩:=I.lstM hH
 refine call_meets F.slot_list_append ⟨_,e,rfl⟩ F.entry_list_append (F.args_list_append_2 _ _) (PySem.list_append l its.toArray n u (by rw [List.size_toArray]; walk_at "o")) ⟨e,?_⟩
 refine ⟨.non,_,I.lset (its':=its ++ [u]) hH e (by simp) (r.append (.cons ru .nil)) ?_,rfl,q⟩
 rw [List.length_append,List.length_singleton]
 walk_at "o"
def rPop:V -> List V -> Hp -> VK -> Prop:=fun x vs H Q=>∃ l xs y,x = .ref l /\ vs = [] /\ H l = some (.lst xs) /\ xs[xs.length - 1]? = some y /\ Q y (upd H l (.lst xs.dropLast))
theorem mt_pop:MtM X "list.pop" rPop:=by
 intro pins s σ H x vs v us Q I rx rv h
 obtain ⟨l,xs,y,rfl,rfl,hH,hy,q⟩:=h
 cases rx
 have hus:=rv.zero
 subst hus
 obtain ⟨z,its,n,r,hl,e⟩:=I.lstM hH
 obtain ⟨u,hu,ru⟩:=r.get hy
 have hy':its.toArray[its.toArray.size - 1]? = some u:=by
  show its.toArray[its.length - 1]? = some u
  rw [<- Array.getElem?_toList,<- hl]
  exact hu
 refine call_meets F.slot_list_pop ⟨_,e,rfl⟩ F.entry_list_pop (F.args_list_pop_1 _) (MeetsSeq.list_pop_last l its.toArray n u hy' (by rw [List.size_toArray]; walk_at "o")) ⟨e,?_⟩
 refine ⟨y,_,I.lset (its':=its.dropLast) hH e ?_ r.dropLast ?_,ru,q⟩
 ·show its.toArray.eraseIdxIfInBounds (its.toArray.size - 1) = its.dropLast.toArray
  rw [List.size_toArray,List.eraseIdxIfInBounds_toArray,erase_last]
 ·rw [List.length_dropLast]
  walk_at "o"
def rCat:R2:=fun x y H Q=>∃ l b xs zs,x = .ref l /\ y = .ref b /\ H l = some (.lst xs) /\ H b = some (.lst zs) /\ xs.length + zs.length <= sizeLine /\ ∀ p,H p = none -> Q (.ref p) (upd H p (.lst (xs ++ zs)))
theorem op_cat:OpR X (binaryOp .Add) rCat:=by
 intro pins s σ H x y v u Q I rx ry h
 obtain ⟨l,b,xs,zs,rfl,rfl,hH,hB,hz,q⟩:=h
 cases rx
 cases ry
 obtain ⟨z,its,n,r,hl,e⟩:=I.lstM hH
 obtain ⟨z2,its2,n2,r2,hl2,e2⟩:=I.lstM hB
 refine PySem.P.add_list e e2 ?_ (by rw [List.size_toArray,List.size_toArray]; walk_at "o")
 have ea:its.toArray ++ its2.toArray = (its ++ its2).toArray:=by simp
 rw [ea]
 exact ⟨.ref _,_,I.lnew (t':=s.toks) (r.append r2) (by rw [List.length_append]; walk_at "o"),rfl,q _ I.fresh⟩
def rRep:R2:=fun x y H Q=>∃ l k xs,x = .ref l /\ y = .int k /\ H l = some (.lst xs) /\ -(2 ^ 63) <= k /\ k < 2 ^ 63 /\ xs.length * k.toNat <= sizeLine /\
 ∀ p,H p = none -> Q (.ref p) (upd H p (.lst (List.replicate k.toNat xs).flatten))
theorem len_rep {α:Type} (xs:List α) (k:Nat):(List.replicate k xs).flatten.length = k * xs.length:=by
 induction k with
 | zero=>simp
 | succ k ih=>rw [List.replicate_succ,List.flatten_cons,List.length_append,ih,Nat.succ_mul,Nat.add_comm]
theorem op_rep:OpR X (binaryOp .Mult) rRep:=by
 intro pins s σ H x y v u Q I rx ry h
 obtain ⟨l,k,xs,rfl,rfl,hH,h1,h2,hz,q⟩:=h
 cases rx
 obtain ⟨t,rfl⟩:=ry
 obtain ⟨z,its,n,r,hl,e⟩:=I.lstM hH
 have hlen:its.toArray.size * k.toNat <= sizeLine:=by rw [List.size_toArray,<- hl]; exact hz
 have hcap:¬ its.toArray.size * k.toNat > (2 ^ 63 - 1) / 8:=by
  have:(sizeLine:Nat) <= (2 ^ 63 - 1) / 8:=by decide
  walk_at "o"
 have hfit:¬ (!Builtin.List.listFitsIndex k) = true:=by
  rw [fitsIndex_both h1 h2]
  exact Bool.false_ne_true
 have hlong:¬ Builtin.List.listTooLong (its.toArray.size * k.toNat) = true:=by
  rw [notLongL hlen]
  exact Bool.false_ne_true
 have hnew:List.foldl (fun x1 x2=>x1 ++ x2) #[] (List.replicate (if its.toArray.isEmpty = true then 0 else k.toNat) its.toArray) = (List.replicate k.toNat its).flatten.toArray:=by
  have f0:∀ m:Nat,List.foldl (fun x1 x2=>x1 ++ x2) #[] (List.replicate m its.toArray) = (List.replicate m its).flatten.toArray:=fun m=>by
   have:=foldl_rep its m []
   rw [List.nil_append] at this
   exact this
  rw [f0]
  cases its with
  | nil=>simp
  | cons a r'=>rw [if_neg (by simp)]
 refine wpAny_binaryOp_repeat_ref (T:="list") (U:="int") (by decide) ⟨_,e,rfl⟩ (fun s'=>typeIs_int s' k t) noFill_list_mul F.fills_int_mul F.slot_int_rmul repeat_list F.slot_int_index.lookup
  (call_meets F.slot_int_rmul (typeIs_int s k t) F.entry_int_rmul (F.args_int_rmul_2 _ _) (int___rmul___int_list k t l its.toArray n)
   ⟨e,rfl,⟨_,e,rfl⟩,call_meets F.slot_list_mul ⟨_,e,rfl⟩ F.entry_list_mul (F.args_list_mul_2 _ _) (AutoListH.list___mul___list_int_3 l its.toArray n k t hfit hcap hlong) ⟨e,?_⟩⟩)
 rw [hnew]
 exact ⟨.ref _,_,I.lnew (t':=s.toks) (r.rep k.toNat) (by rw [len_rep,Nat.mul_comm]; exact hz),rfl,q _ I.fresh⟩
end
section
variable {prog:Program} {w:World} {A:Around} {E:Value -> Shared -> Prop} {s:Shared}
end
section
variable {X:Cx}
end
end L2
namespace Att
open PySem PySem.W PySem.Calls PyProof.Rows
theorem ints_of_wellAll {P:Params} {h:Heap}:∀ (ns:List Int) (vs:List Value),WellAll P h vs (ns.map WData.int) -> IntsAre vs ns:=by
 intro ns
 induction ns with
 | nil =>
  intro vs w
  rw [List.map_nil] at w
  cases w
  exact .nil
 | cons n ns ih =>
  intro vs w
  rw [List.map_cons] at w
  cases w with
  | cons a b =>
   cases a
   exact .cons _ _ (ih _ b)
theorem script_of {l:OpenLaw} {n:Nat} (hn:l.most = some n) {P:Params} {h:Heap} {args:List WData} {vals:List Value}
  (hpre:l.row.toRowW.claim.pre args = true) (hwl:WellAll P h vals args) :
  ∃ a vs ns,vals = [Value.ref a] /\ args = [WData.list (ns.map WData.int)] /\ h.get? a = some { cls:=.type "list",data:=.seq vs.toArray } /\ IntsAre vs ns /\ ns.length <= n:=by
 have hsh:WShape.hasAll [] args [.list .int] = true:=(pre_splitW hpre).1
 have hc:l.pre.holds [] { args:=args } = true:=(pre_splitW hpre).2
 obtain ⟨d,r,rfl,h1,h2⟩:=hasAllW_cons hsh
 obtain rfl:=hasAllW_nil h2
 obtain ⟨xs,rfl,h3⟩:=hasW_list h1
 obtain ⟨ns,rfl⟩:=items_int h3
 have hlen:ns.length <= n:=by
  unfold OpenLaw.pre at hc
  have h4:(WTm.not (.lt (.lit (.int (n:Int))) (.len (.arg 0)))).holds [] { args:=[.list (ns.map .int)] } = true:=by
   have h4:=(holds_andW hc).1
   rw [hn] at h4
   exact h4
  have h5:=condW_of h4 (w_not (w_lt w_lit (w_len_list (w_arg rfl))))
  rw [List.length_map] at h5
  refine Nat.le_of_not_lt fun q=>?_
  have q':(n:Int) < ((ns.length:Nat):Int):=by walk_at "o"
  first
   | (rw [decide_eq_true q'] at h5; exact absurd h5 (by decide))
   | (simp at h5; walk_at "o")
 cases hwl with
 | cons w1 w2 =>
  cases w2
  cases w1 with
  | list ho hall=>exact ⟨_,_,ns,rfl,rfl,ho,ints_of_wellAll ns _ hall,hlen⟩
theorem post_true (l:OpenLaw) (args:List WData):l.row.toRowW.claim.post args (.bool true) args = true :=
 postW_of (r:=l.row.toRowW) (X:=(true == true))
  (show WShape.has [] (.bool true) .bool = true by first | rfl | decide | simp [WShape.has,WShape.arms,WShape.armsAll])
  (show (WTm.eq .res (.lit (.bool true))).value [] { args:=args,res:=some (.bool true),after:=args } = some (.bool (true == true)) from w_eq_bool (w_res rfl) w_lit) rfl
theorem attach_call {l:OpenLaw} {n:Nat} {q:Program} {loose:List Str} {XP:(Str -> Option Value) -> Heap -> Prop} {YP:World -> Heap -> Prop} {d:DefRec}
  (hn:l.most = some n) (hdf:d.params.defaults = [])
  (call:∀ (w:World) (s₀ s₁:Shared) (mg mb:Str -> Option Value) (fa:Addr) (o:Obj) (pm cd doc:Value) (a:Addr) (vs:List Value) (ns:List Int),
   Ground q loose [] XP w s₀ mg mb s₁.heap -> YP w s₁.heap ->
   s₁.heap.get? fa = some o -> o.data = .func (docDef d.name d.params d.body d.scope pm cd doc) -> s₁.heap.CodeRec cd d.name -> mg d.name = some (.ref fa) ->
   s₁.heap.get? a = some { cls:=.type "list",data:=.seq vs.toArray } -> IntsAre vs ns -> ns.length <= n -> s₁.gens = #[] ->
   codeAny (model l.prog w) callerA (.call (.ref fa) ⟨[.ref a],[]⟩) (fun r s'=>r = .ok (.ret (.bool true)) /\ OldK s₁.heap s'.heap /\ s'.os = s₁.os /\ AllBare s'.gens) s₁) :
  WalkO q loose XP YP l.row.toRowW d [] (fun f vs=>PySem.call f vs):=by
 intro w s₀ s₁ mg mb G Y fa o pm cd doc dV kV ho hd hcd hD hmg hg args vals as hpre hlay hrd hwl hlo
 obtain rfl:dV = .none:=Dflts.none hD hdf
 obtain rfl:kV = .none:=Dflts.noKw hD
 obtain ⟨a,vs,ns,rfl,rfl,hobj,hints,hlen⟩:=script_of hn hpre hwl
 refine enter_call (codeAny_mono (call w s₀ s₁ mg mb fa o pm cd doc a vs ns G Y ho (fd_plain hd) hcd hmg hobj hints hlen hg) fun r s' hq=>?_)
 obtain ⟨rfl,h2,h3,h4⟩:=hq
 exact ⟨.inl ⟨.bool true,.bool true,[],rfl,fun _=>rfl,.bool true,post_true l _,fun _=>⟨List.Pairwise.nil,fun _ hm=>(nomatch hm)⟩⟩,h2,h3,h4⟩
section
variable {prog:Program} {w:World} {A:Around} {E:Value -> Shared -> Prop} {s:Shared} {K:Frag}
end
end Att
namespace L2
open PySem PySem.Spec PyProof.Rows
theorem vals_ints:∀ {vs:List Value} {ns:List Int},IntsAre vs ns -> Vals (ns.map V.int) vs
 | _,_,.nil=>.nil
 | _,_,.cons n t h=>.cons ⟨t,rfl⟩ (vals_ints h)
end L2
namespace L2
open PySem PySem.Spec PyProof.Rows
end L2
namespace L2
open PySem PySem.Spec PyProof.Rows
def defArgs (s:Stmt):Arguments:=match s with
 | .FunctionDef _ a _ _ _ _ _ _ _ _=>a
 | _=>{ posonlyargs:=[],args:=[],vararg:=none,kwonlyargs:=[],kw_defaults:=[],kwarg:=none,defaults:=[] }
def defBody (s:Stmt):List Stmt:=match s with
 | .FunctionDef _ _ b _ _ _ _ _ _ _=>b
 | _=>[]
def defScope (s:Stmt):Scope:=match s with
 | .FunctionDef _ _ _ _ _ _ sc _ _ _=>sc
 | _=>{ kind:=.function,names:=[],isGenerator:=false,isCoroutine:=false }
abbrev CX0:CXT:=fun _ _ _ _ _ _=>False
abbrev E0:XK:=fun _ _ _=>False
theorem pass0 {X:Cx}:Passes CX0 X E0:=fun _ _ _ _ _ _ _ h=>h.elim
structure Fun (K:PySem.W.Frag) (x qual:Str) (st:Stmt) (f:Addr) (fd:FuncData):Prop where
 ex:∃ (oc:Value) (od:Option Addr) (kV doc pm:Value) (an:Option Addr) (cdv ct:Value) (osl:Array (Option Value)),
  fd = PySem.W.fnOf x qual (defArgs st) (defBody st) (defScope st) .none kV doc pm an cdv ct /\ K.lookup f = some ⟨oc,od,.func fd,osl⟩ /\ PySem.W.codeIn K cdv qual = true
 kp:PySem.W.keepIn K (.ref f) = true
section
variable {P:Program} {w:World} {K:PySem.W.Frag} {mg:Str -> Option Value} {base:Heap}
theorem Fun.ok {x qual:Str} {st:Stmt} {f:Addr} {fd:FuncData} {N ps:List Str} {k:Nat} {sp:Sp} (F:Fun K x qual st f fd) (S:FnScope N ps (defScope st)) (len:∀ vs H Q E,sp vs H Q E -> vs.length = ps.length)
  (hbody:∀ (cdv:Value) (A:Around) (outer:List Env) (s:Shared) (H:Hp) (vs:List V) (Q:VK) (E:XK),Room k (A.deeper (envOfC qual (defScope st) s.heap.objs.size f cdv)) -> sp vs H Q E ->
   ∃ t,PSs (cxOf CX0 P w K mg base N qual (defScope st) f cdv A outer s H E).nox (defBody st) t /\ t { nx:=fun _ H'=>Q .non H',rt:=Q } (start N vs) H):FnOk P w K mg base CX0 (k + 1) f fd ps sp:=by
 obtain ⟨oc,od,kV,doc,pm,an,cdv,ct,osl,rfl,lk,hcd⟩:=F.ex
 refine fn_of lk hcd S len fun A outer s H vs Q E hr hsp=>?_
 obtain ⟨t,h,q⟩:=hbody cdv A outer s H vs Q E hr hsp
 exact ⟨t,h.nox,q⟩
theorem Fun.binds {x qual:Str} {st:Stmt} {f:Addr} {fd:FuncData} {ps:List Str} (F:Fun K x qual st f fd)
  (h:∀ (kV doc pm:Value) (an:Option Addr) (cdv ct:Value) (us:List Value),us.length = ps.length -> bindArgs (PySem.W.fnOf x qual (defArgs st) (defBody st) (defScope st) .none kV doc pm an cdv ct) ⟨us,[]⟩ = pure (ps.zip us)):Binds K fd ps []:=by
 obtain ⟨oc,od,kV,doc,pm,an,cdv,ct,osl,rfl,lk,hcd⟩:=F.ex
 exact .all (h kV doc pm an cdv ct)
theorem fun_mk {x qual:Str} {st:Stmt} {f:Addr} {oc:Value} {od an:Option Addr} {osl:Array (Option Value)} {kV doc pm cdv ct:Value} (l:K.lookup f = some ⟨oc,od,.func (PySem.W.fnOf x qual (defArgs st) (defBody st) (defScope st) .none kV doc pm an cdv ct),osl⟩)
  (c:PySem.W.codeIn K cdv qual = true) (k:PySem.W.keepIn K (.ref f) = true):Fun K x qual st f (PySem.W.fnOf x qual (defArgs st) (defBody st) (defScope st) .none kV doc pm an cdv ct):=⟨⟨oc,od,kV,doc,pm,an,cdv,ct,osl,rfl,l,c⟩,k⟩
end
section
variable {X:Cx}
theorem pv (i:Nat) {x:Str} {pos:Pos} (hN:X.N[i]? = some x:=by rfl) (hv:Vis X.env.scope x:=by first | exact Or.inl rfl | exact Or.inr (Or.inl rfl) | exact Or.inr (Or.inr rfl)) (hd:(x == ("__debug__" : Str)) = false:=by decide)
  (hcd:(x == ("__classdict__" : Str)) = false:=by decide):PE X (.Name x pos) (tVar i):=pe_var hN hv hd hcd
end
theorem ite2 {c A B:Prop} [Decidable c] (h1:c -> A) (h2:¬ c -> B):if c then A else B:=by
 by_cases h:c
 ·rw [if_pos h]
  exact h1 h
 ·rw [if_neg h]
  exact h2 h
def Same (H H':Hp):Prop:=∀ b o,H b = some o -> H' b = some o
theorem Same.trans {H H1 H2:Hp} (a:Same H H1) (b:Same H1 H2):Same H H2:=fun c o h=>b c o (a c o h)
end L2
namespace L2
open PySem PySem.Spec PyProof.Rows
structure Cal (P:Program) (w:World) (K:PySem.W.Frag) (mg:Str -> Option Value) (base:Heap) (x:Str) (ps:List Str) (k:Nat) (sp:Sp):Prop where
 ex:∃ f fd,FnOk P w K mg base CX0 k f fd ps sp /\ mg x = some (.ref f) /\ PySem.W.keepIn K (.ref f) = true /\ Binds K fd ps []
section
variable {X:Cx} {x:Str} {p pos:Pos} {e:Expr} {es:List Expr} {t:TA} {ps:List Str} {k:Nat} {sp:Sp}
def tCal (sp:Sp) (t:TA):TE:=fun σ H Q=>t σ H fun vs H1=>sp vs H1 Q E0
theorem pe_cal (C:Cal X.prog X.w X.K X.mg X.base x ps k sp) (hr:Room k X.A) (hg:Gl X x) (ha:PA X (e :: es) t) (hdb:(x == ("__debug__" : Str)) = false:=by decide)
  (he:starEach (e :: es) X.env = (false,eval e X.env) :: starEach es X.env:=by rfl) (hpl:(backTo pos (starEach es X.env)).any (·.1) = false:=by rfl) :
  PE X (.Call (.Name x p) (e :: es) [] pos) (tCal sp t):=by
 obtain ⟨f,fd,F,hm,hk,hb⟩:=C.ex
 intro pins s σ H Q I h
 refine pe_call (E:=E0) (dvs:=[]) F hr hg hm hk hb .nil pass0 ha hdb he hpl pins s σ H Q I ?_
 show t σ H fun vs H1=>sp (vs ++ []) H1 Q E0
 have e:(fun (vs:List V) H1=>sp (vs ++ []) H1 Q E0) = fun vs H1=>sp vs H1 Q E0:=by
  funext vs H1
  rw [List.append_nil]
 rw [e]
 exact h
end
section
variable {X:Cx}
theorem op_mulX:OpR X (binaryOp .Mult) (rI IntMulOk fun i j=>.int (i * j)):=opI fun _ _ _ _ _ _ _ hc q=>mul_int q hc
def CDivX (_ j:Int):Prop:=j ≠ 0 /\ j.natAbs.log2 < 9000
theorem op_fdivX:OpR X (binaryOp .FloorDiv) (rI CDivX fun i j=>.int (i.fdiv j)):=opI fun _ _ _ _ _ _ _ hc q=>floordiv_int hc.1 q (.inl (PyProof.noPylong_of_log2 hc.2))
theorem op_modX:OpR X (binaryOp .Mod) (rI (fun _ j=>j ≠ 0) fun i j=>.int (i.fmod j)):=op_modN
theorem op_isB:OpR X (compareOp .Is) (fun x y H Q=>∃ b c,x = .bl b /\ y = .bl c /\ Q (.bl (b == c)) H):=by
 intro pins s σ H x y v u Q I rx ry h
 obtain ⟨b,c,rfl,rfl,q⟩:=h
 cases rx
 cases ry
 exact is_bool ⟨.bl _,H,I,rfl,q⟩
theorem op_isnotB:OpR X (compareOp .IsNot) (fun x y H Q=>∃ b c,x = .bl b /\ y = .bl c /\ Q (.bl (b != c)) H):=by
 intro pins s σ H x y v u Q I rx ry h
 obtain ⟨b,c,rfl,rfl,q⟩:=h
 cases rx
 cases ry
 exact isnot_bool ⟨.bl _,H,I,rfl,q⟩
end
theorem cxOf_K {CX:CXT} {P:Program} {w:World} {K:PySem.W.Frag} {mg:Str -> Option Value} {base:Heap} {N:List Str} {qual:Str} {scope:Scope} {f:Addr} {cd:Value} {A:Around} {outer:List Env} {s:Shared} {H:Hp} {E:XK} :
  (cxOf CX P w K mg base N qual scope f cd A outer s H E).K = K:=rfl
def absL:List Value -> Option (List V)
 | []=>some []
 | u :: us=>match absV u,absL us with
  | some x,some xs=>some (x :: xs)
  | _,_=>none
theorem absL_vals:∀ {us:List Value} {xs:List V},absL us = some xs -> Vals xs us
 | [],xs,h=>by cases h; exact .nil
 | u :: us,xs,h=>by
  unfold absL at h
  split at h
  ·rename_i x ys e1 e2
   cases h
   refine .cons ?_ (absL_vals e2)
   cases u <;> first | (cases e1; first | exact rfl | exact ⟨_,rfl⟩) | cases e1
  ·cases h
def kobj (o:Obj):Option HO:=match o.data with
 | .seq its _=>if o.cls = .type "tuple" /\ its.size <= sizeLine then (absL its.toList).map HO.tup else none
 | _=>none
def vw (K:PySem.W.Frag) (H:Hp):Hp:=fun a=>match K.lookup a with
 | some o=>kobj o
 | none=>H a
theorem kobj_tup {o:Obj} {u:HO} (h:kobj o = some u):∃ xs,u = .tup xs:=by
 unfold kobj at h
 split at h
 ·split at h
  ·cases e:absL _ with
   | none=>rw [e] at h; cases h
   | some xs=>rw [e] at h; cases h; exact ⟨xs,rfl⟩
  ·cases h
 ·cases h
theorem vw_new {K:PySem.W.Frag} {H:Hp} {a:Addr} (hk:K.lookup a = none):vw K H a = H a:=by
 unfold vw
 rw [hk]
theorem vw_tup {K:PySem.W.Frag} {H:Hp} {a:Addr} {xs:List V} (h:vw K H a = some (.tup xs)):SqT K H a xs:=by
 unfold vw at h
 split at h
 ·rename_i o ho
  unfold kobj at h
  split at h
  ·rename_i its n hd
   split at h
   ·rename_i hc
    cases e:absL its.toList with
    | none=>rw [e] at h; cases h
    | some ys =>
     rw [e] at h
     cases h
     exact .inr ⟨o,its,n,ho,hc.1,hd,hc.2,absL_vals e⟩
   ·cases h
  ·cases h
 ·exact .of h
theorem vw_get {K:PySem.W.Frag} {H:Hp} {a:Addr} {u:HO} (h:vw K H a = some u) (hu:∀ xs,u ≠ .tup xs):H a = some u:=by
 unfold vw at h
 split at h
 ·obtain ⟨xs,rfl⟩:=kobj_tup h
  exact absurd rfl (hu xs)
 ·exact h
theorem vw_lst {K:PySem.W.Frag} {H:Hp} {a:Addr} {xs:List V} (h:vw K H a = some (.lst xs)):H a = some (.lst xs):=vw_get h fun _ e=>by cases e
theorem vw_same {K:PySem.W.Frag} {H H':Hp} (S:Same H H'):Same (vw K H) (vw K H'):=fun b o e=>by
 unfold vw at e ⊢
 split at e
 ·exact e
 ·exact S _ _ e
def But (l:Addr) (H H':Hp):Prop:=∀ b o,b ≠ l -> H b = some o -> H' b = some o
theorem vw_but {K:PySem.W.Frag} {l:Addr} {H H':Hp} (S:But l H H'):But l (vw K H) (vw K H'):=fun b o hb e=>by
 unfold vw at e ⊢
 split at e
 ·exact e
 ·exact S _ _ hb e
theorem Inv.noK {X:Cx} {pins:List (Addr × Obj)} {σ:St} {H:Hp} {s:Shared} {p:Addr} {o:HO} (I:Inv X pins σ H s) (h:H p = some o):X.K.lookup p = none:=by
 cases e:X.K.lookup p with
 | none=>rfl
 | some ob =>
  have:=(I.bs p ob (I.mod.kin p ob e)).2
  rw [h] at this
  cases this
theorem Inv.newK {X:Cx} {pins:List (Addr × Obj)} {σ:St} {H:Hp} {s:Shared} {p:Addr} (I:Inv X pins σ H s) (hp:s.heap.objs.size <= p):X.K.lookup p = none:=by
 cases e:X.K.lookup p with
 | none=>rfl
 | some o=>exact absurd (Nat.lt_of_lt_of_le (Heap.lt_size (I.kIn p o e)) hp) (Nat.lt_irrefl _)
def Kf (K:PySem.W.Frag) (v:V) (H:Hp):Prop:=∀ p o,v = .ref p -> H p = some o -> K.lookup p = none
section
variable {X:Cx}
theorem OpR.kf {f:Value -> Value -> Sem Value} {r:R2} (h:OpR X f r):OpR X f (fun x y H Q=>r x y H fun v H'=>Kf X.K v H' -> Q v H'):=fun pins s σ H x y v u Q I rx ry q =>
 thn (h pins s σ H x y v u _ I rx ry q) fun u' s' ⟨v',H',I',r',q'⟩=>⟨v',H',I',r',q' fun p o _ hp=>I'.noK hp⟩
theorem CallR.kf {f:Value} {r:List V -> Hp -> VK -> Prop} (h:CallR X f r):CallR X f (fun xs H Q=>r xs H fun v H'=>Kf X.K v H' -> Q v H'):=fun pins s σ H xs us Q I rs q =>
 thn (h pins s σ H xs us _ I rs q) fun u' s' ⟨v',H',I',r',q'⟩=>⟨v',H',I',r',q' fun p o _ hp=>I'.noK hp⟩
theorem SlR.kf {r:V -> Option Int -> Option Int -> Hp -> VK -> Prop} (h:SlR X r):SlR X (fun x a b H Q=>r x a b H fun v H'=>Kf X.K v H' -> Q v H'):=by
 intro pins s σ H x v vl vu lo hi sl Q I rx hs pl pu q
 obtain ⟨T,id,e1,e2,e3⟩:=h pins s σ H x v vl vu lo hi sl _ I rx hs pl pu q
 exact ⟨T,id,e1,e2,thn e3 fun u' s' ⟨v',H',I',r',q'⟩=>⟨v',H',I',r',q' fun p o _ hp=>I'.noK hp⟩⟩
end
theorem Same.upd {H:Hp} {p:Addr} {o:HO} (hp:H p = none):Same H (upd H p o):=fun b u e=>by
 rw [upd_ne (ne_of_none e hp)]
 exact e
theorem But.upd {H:Hp} {l:Addr} {o:HO}:But l H (upd H l o):=fun b u hb e=>by
 rw [upd_ne hb]
 exact e
theorem Same.but {H H':Hp} (h:Same H H') (l:Addr):But l H H':=fun b o _ e=>h b o e
theorem But.trans {l:Addr} {H H1 H2:Hp} (a:But l H H1) (b:But l H1 H2):But l H H2:=fun c o hc h=>b c o hc (a c o hc h)
theorem Inv.big {X:Cx} {pins:List (Addr × Obj)} {σ:St} {H:Hp} {s:Shared} (I:Inv X pins σ H s):sysModules < s.heap.objs.size:=by
 have h:mainGlobals < s.heap.objs.size:=(I.mod.glob.keeps I.bk).lt
 exact Nat.lt_trans (by decide) h
theorem dk_empty {P:Program} {w:World} {H:Hp} (h:Heap) (hb:sysModules < h.objs.size):ObjOk P w H (h.push { cls:=.type "dict",data:=.dict #[] }) h.objs.size (.dK []) :=
 ⟨Nat.zero_le _,beq_eq_false_iff_ne.mpr (Ne.symm (Nat.ne_of_lt hb)),[],.nil,Heap.DictOf.new h⟩
def tDNewK:TE:=fun _ H Q=>∀ p,H p = none -> Q (.ref p) (upd H p (.dK []))
theorem pe_dnewK {X:Cx} {pos:Pos}:PE X (.Dict [] [] pos) tDNewK:=fun pins s σ H Q I h =>
 wpAny_Dict_empty ⟨.ref s.heap.objs.size,_,I.laid (a:=s.heap.objs.size) (o:=.dK []) (t':=s.toks) (fun _ _ q=>Heap.get?_push_of_some _ q) (Nat.le_refl _) (dk_empty s.heap I.big),rfl,h _ (I.hok.fresh (Nat.le_refl _))⟩
def tyN (H:Hp):V -> Option String
 | .non=>some "NoneType"
 | .bl _=>some "bool"
 | .int _=>some "int"
 | .str _=>some "str"
 | .ref a=>match H a with
  | some (.lst _)=>some "list"
  | some (.frz _ (.lst _))=>some "list"
  | some (.tup _)=>some "tuple"
  | some (.dK _)=>some "dict"
  | _=>none
 | _=>none
def instN (n c:String):Bool:=n == c || (n == "bool" && c == "int")
def TyName (n:String):Prop:=n = "NoneType" \/ n = "bool" \/ n = "int" \/ n = "str" \/ n = "list" \/ n = "tuple" \/ n = "dict"
def TyAsk (c:String):Prop:=c = "bool" \/ c = "int" \/ c = "list" \/ c = "tuple" \/ c = "str" \/ c = "dict"
theorem kit_names {K:PySem.W.Frag} {n c:String} (hn:TyName n) (hc:TyAsk c):PySem.W.kitOne K (.type n) (.type c) = some (instN n c):=by
 rcases hn with rfl | rfl | rfl | rfl | rfl | rfl | rfl <;> rcases hc with rfl | rfl | rfl | rfl | rfl | rfl <;> rfl
section
variable {X:Cx}
theorem call_isinst:CallR X (.builtin "isinstance") (fun xs H Q=>∃ x c n,xs = [x,.ty c] /\ TyAsk c /\ tyN (vw X.K H) x = some n /\ Q (.bl (instN n c)) H):=by
 intro pins s σ H xs us Q I r h
 obtain ⟨x,c,n,rfl,hc,hn,q⟩:=h
 obtain ⟨u,w',rfl,rx,ry⟩:=vals2 r
 cases ry
 have fin:∀ tk,EP X pins σ Q (.bool (instN n c)) { s with toks:=tk }:=fun tk=>⟨.bl _,H,I.tok tk,rfl,q⟩
 cases x with
 | non=>cases hn; exact isinst_ok I rx .non (kit_names (.inl rfl) hc) fin
 | bl b=>cases hn; exact isinst_ok I rx (.bl b) (kit_names (.inr (.inl rfl)) hc) fin
 | int b=>cases hn; exact isinst_ok I rx (.int b) (kit_names (.inr (.inr (.inl rfl))) hc) fin
 | str b=>cases hn; exact isinst_ok I rx (.str b) (kit_names (.inr (.inr (.inr (.inl rfl)))) hc) fin
 | flt b=>cases hn
 | byt b=>cases hn
 | ty b=>cases hn
 | ref a =>
  unfold tyN at hn
  dsimp only at hn
  split at hn
  ·rename_i e; cases hn; exact isinst_ok I rx (.lst (vw_lst e)) (kit_names (.inr (.inr (.inr (.inr (.inl rfl))))) hc) fin
  ·rename_i e; cases hn; exact isinst_ok I rx (.frz (vw_get e fun _ z=>by cases z)) (kit_names (.inr (.inr (.inr (.inr (.inl rfl))))) hc) fin
  ·rename_i ys e
   cases hn
   cases (show u = Value.ref a from rx)
   obtain ⟨its,rv,p,hz⟩:=I.tuple (vw_tup e)
   obtain ⟨o,h1,h2,_⟩:=p
   exact PySem.W.kia_one PySem.W.kitx_tuple I.kIn ⟨o,h1,h2⟩ (kit_names (.inr (.inr (.inr (.inr (.inr (.inl rfl)))))) hc) (fun z=>nomatch z) fin
  ·rename_i e; cases hn; exact isinst_ok I rx (.dK (vw_get e fun _ z=>by cases z)) (kit_names (.inr (.inr (.inr (.inr (.inr (.inr rfl)))))) hc) fin
  ·cases hn
end
theorem ask_int:TyAsk "int":=.inr (.inl rfl)
theorem ask_bool:TyAsk "bool":=.inl rfl
theorem ask_list:TyAsk "list":=.inr (.inr (.inl rfl))
theorem ask_tuple:TyAsk "tuple":=.inr (.inr (.inr (.inl rfl)))
theorem bt_abs:bootBuiltins "abs" = some (.builtin "abs"):=by decide +kernel
theorem bt_len:bootBuiltins "len" = some (.builtin "len"):=by decide +kernel
theorem bt_isinstance:bootBuiltins "isinstance" = some (.builtin "isinstance"):=by decide +kernel
theorem bt_max:bootBuiltins "max" = some (.builtin "max"):=by decide +kernel
theorem bt_min:bootBuiltins "min" = some (.builtin "min"):=by decide +kernel
theorem bt_int:bootBuiltins "int" = some (.type "int"):=by decide +kernel
theorem bt_bool:bootBuiltins "bool" = some (.type "bool"):=by decide +kernel
theorem bt_list:bootBuiltins "list" = some (.type "list"):=by decide +kernel
theorem bt_tuple:bootBuiltins "tuple" = some (.type "tuple"):=by decide +kernel
theorem bt_enumerate:bootBuiltins "enumerate" = some (.type "enumerate"):=by decide +kernel
section
variable {X:Cx}
theorem IxR.imp {r r':R2} (h:IxR X r) (hi:∀ x y H Q,r' x y H Q -> r x y H Q):IxR X r':=fun v sl pins s σ H x y vv u Q I rx ry q hs=>h v sl pins s σ H x y vv u Q I rx ry (hi _ _ _ _ q) hs
theorem CallR.imp {f:Value} {r r':List V -> Hp -> VK -> Prop} (h:CallR X f r) (hi:∀ xs H Q,r' xs H Q -> r xs H Q):CallR X f r':=fun pins s σ H xs us Q I rs q=>h pins s σ H xs us Q I rs (hi _ _ _ q)
def rIxH (K:PySem.W.Frag):R2:=fun x y H Q=>∃ p i,x = .ref p /\ y = .int i /\ ∃ xs,vw K H p = some (.lst xs) /\ ∃ v,atI xs i = some v /\ Q v H
def rIxU (K:PySem.W.Frag):R2:=fun x y H Q=>∃ p i,x = .ref p /\ y = .int i /\ ∃ xs,vw K H p = some (.tup xs) /\ ∃ v,atI xs i = some v /\ Q v H
theorem ix_h:IxR X (rIxH X.K):=ix_list.imp fun _ _ _ _ ⟨p,i,e1,e2,xs,e3,v,e4,q⟩=>⟨p,xs,i,v,e1,e2,.of (vw_lst e3),e4,q⟩
theorem ix_u:IxR X (rIxU X.K):=ix_tup.imp fun _ _ _ _ ⟨p,i,e1,e2,xs,e3,v,e4,q⟩=>⟨p,xs,i,v,e1,e2,vw_tup e3,e4,q⟩
def lenH (H:Hp) (p:Addr):Option Nat:=match H p with
 | some (.lst xs)=>some xs.length
 | some (.frz _ (.lst xs))=>some xs.length
 | some (.tup xs)=>some xs.length
 | _=>none
theorem call_lenH:CallR X (.builtin "len") (fun xs H Q=>∃ p,xs = [.ref p] /\ ∃ n:Nat,lenH (vw X.K H) p = some n /\ Q (.int n) H):=call_len_seq.imp fun xs H Q ⟨p,e,n,hn,q⟩=>by
 unfold lenH at hn
 split at hn
 ·rename_i ys hp
  cases hn
  exact ⟨p,ys,e,.inl (.of (vw_lst hp)),q⟩
 ·rename_i o ys hp
  cases hn
  exact ⟨p,ys,e,.inl (.inl (.inr ⟨o,vw_get hp fun _ z=>by cases z⟩)),q⟩
 ·rename_i ys hp
  cases hn
  exact ⟨p,ys,e,.inr (vw_tup hp),q⟩
 ·cases hn
def gTupH (K:PySem.W.Frag) (n:Nat) (t:TGs):TG:=fun v σ H Q=>∃ a,v = .ref a /\ ∃ xs,vw K H a = some (.tup xs) /\ xs.length = n /\ t xs σ H Q
theorem pg_tupH {es:List Expr} {k:Nat} {t:TGs} {n:Nat} {pos:Pos} (hc:X.calm = true) (h:PGs X es t)
  (hn:(assignEach es X.env).length = n:=by rfl) (hst:(assignEach es X.env).findIdx? (·.1) = none:=by rfl):PG X (.Tuple es k pos) (gTupH X.K n t) :=
 fun pins s σ H v u Q I r ⟨a,e,xs,hx,hl,q⟩=>pg_tup hc h hn hst pins s σ H v u Q I r ⟨a,xs,e,vw_tup hx,hl,q⟩
theorem atI_0 {α:Type} {x:α} {xs:List α}:atI (x :: xs) 0 = some x:=atI_nat (j:=0) rfl
theorem atI_1 {α:Type} {x y:α} {xs:List α}:atI (x :: y :: xs) 1 = some y:=atI_nat (j:=1) rfl
theorem atI_2 {α:Type} {x y z:α} {xs:List α}:atI (x :: y :: z :: xs) 2 = some z:=atI_nat (j:=2) rfl
theorem atI_mem {α:Type} {xs:List α} {r:Int} (h0:0 <= r) (h1:r < xs.length):∃ v,atI xs r = some v /\ v ∈ xs:=by
 have h2:r.toNat < xs.length:=by walk_at "o"
 refine ⟨xs[r.toNat],?_,List.getElem_mem h2⟩
 have e:=atI_nat (xs:=xs) (j:=r.toNat) (v:=xs[r.toNat]) (List.getElem?_eq_getElem h2)
 rw [show ((r.toNat:Nat):Int) = r by walk_at "o"] at e
 exact e
theorem But.same_trans {H H1 H2:Hp} {st:Addr} (b:But st H H1) (s:Same H1 H2):But st H H2:=b.trans (s.but st)
theorem ixN_2_0:ixN 2 0 = some 0:=rfl
theorem TruV_bl {K:PySem.W.Frag} {b k:Bool} {H:Hp}:TruV K (.bl b) H k = (k = b):=rfl
theorem TruV_int {K:PySem.W.Frag} {i:Int} {k:Bool} {H:Hp}:TruV K (.int i) H k = (k = (i != 0)):=rfl
theorem CPow_of {i j:Int} (h:0 <= j /\ j <= 1000000 /\ i.natAbs < 2 ^ 64):CPow i j:=h
end
def Nw (K:PySem.W.Frag) (H:Hp) (o:HO) (Q:VK):Prop:=∀ p H2,vw K H p = none -> Same (vw K H) (vw K H2) -> vw K H2 p = some o -> Q (.ref p) H2
theorem Nw.ok {K:PySem.W.Frag} {H:Hp} {o:HO} {Q:VK} (h:Nw K H o Q) {p:Addr} (hk:K.lookup p = none) (hp:H p = none):Q (.ref p) (upd H p o) :=
 h p _ (by rw [vw_new hk]; exact hp) (vw_same (Same.upd hp)) (by rw [vw_new hk]; exact upd_same)
theorem Nw.al {K:PySem.W.Frag} {H:Hp} {o:HO} {Q:VK} (h:Nw K H o Q):∀ p,H p = none -> Kf K (.ref p) (upd H p o) -> Q (.ref p) (upd H p o):=fun p hp hk=>h.ok (hk p _ rfl upd_same) hp
def tTupS (K:PySem.W.Frag) (t:TA):TE:=fun σ H Q=>t σ H fun xs H1=>xs.length <= sizeLine /\ Nw K H1 (.tup xs) Q
def tLstS (K:PySem.W.Frag) (t:TA):TE:=fun σ H Q=>t σ H fun xs H1=>xs.length <= sizeLine /\ Nw K H1 (.lst xs) Q
def tDctS (K:PySem.W.Frag):TE:=fun _ H Q=>Nw K H (.dK []) Q
section
variable {X:Cx} {es:List Expr} {t:TA} {pos:Pos}
theorem pe_tupS {x1} (h:PA X es t):PE X (.Tuple es x1 pos) (tTupS X.K t):=by
 intro pins s σ H Q I hq
 refine wpAny_Tuple_spliced (thn (h pos pins s σ H _ I hq) fun us s1 ⟨xs,H1,I1,r,z,q⟩=>⟨by rw [<- r.length]; exact z,?_⟩)
 have hf:H1 s1.heap.objs.size = none:=I1.hok.fresh (Nat.le_refl _)
 refine ⟨.ref s1.heap.objs.size,upd H1 s1.heap.objs.size (.tup xs),I1.laid (t':=s1.toks) (fun b u e=>Heap.get?_push_of_some _ e) (Nat.le_refl _) ?_,rfl,q.ok (I1.newK (Nat.le_refl _)) hf⟩
 exact ⟨z,us,r,⟨_,Heap.get?_push_size _ rfl,rfl,_,rfl⟩⟩
theorem pe_lstS (h:PA X es t):PE X (.List es pos) (tLstS X.K t):=by
 intro pins s σ H Q I hq
 refine wpAny_List_spliced (thn (h pos pins s σ H _ I hq) fun us s1 ⟨xs,H1,I1,r,z,q⟩=>⟨by rw [<- r.length]; exact z,?_⟩)
 have hf:H1 s1.heap.objs.size = none:=I1.hok.fresh (Nat.le_refl _)
 refine ⟨.ref s1.heap.objs.size,upd H1 s1.heap.objs.size (.lst xs),I1.laid (t':=s1.toks) (fun b u e=>Heap.get?_push_of_some _ e) (Nat.le_refl _) ?_,rfl,q.ok (I1.newK (Nat.le_refl _)) hf⟩
 exact ⟨z,us,0,r,Heap.get?_push_size _ rfl⟩
theorem pe_dctS:PE X (.Dict [] [] pos) (tDctS X.K):=fun pins s σ H Q I h=>thn (pe_dnewK pins s σ H (fun v H'=>Kf X.K v H' -> Q v H') I h.al) fun u' s' ⟨v',H',I',r',q'⟩=>⟨v',H',I',r',q' fun p o _ hp=>I'.noK hp⟩
theorem OpR.imp {f:Value -> Value -> Sem Value} {r r':R2} (h:OpR X f r) (hi:∀ x y H Q,r' x y H Q -> r x y H Q):OpR X f r':=fun pins s σ H x y v u Q I rx ry q=>h pins s σ H x y v u Q I rx ry (hi _ _ _ _ q)
def rCatS (K:PySem.W.Frag):R2:=fun x y H Q=>∃ l b,x = .ref l /\ y = .ref b /\ ∃ xs,vw K H l = some (.lst xs) /\ ∃ zs,vw K H b = some (.lst zs) /\ xs.length + zs.length <= sizeLine /\ Nw K H (.lst (xs ++ zs)) Q
theorem op_catS:OpR X (binaryOp .Add) (rCatS X.K):=op_cat.kf.imp fun _ _ _ _ ⟨l,b,e1,e2,xs,h1,zs,h2,z,q⟩=>⟨l,b,xs,zs,e1,e2,vw_lst h1,vw_lst h2,z,q.al⟩
def rRepS (K:PySem.W.Frag):R2:=fun x y H Q=>∃ l k,x = .ref l /\ y = .int k /\ ∃ xs,vw K H l = some (.lst xs) /\ -(2 ^ 63) <= k /\ k < 2 ^ 63 /\ xs.length * k.toNat <= sizeLine /\ Nw K H (.lst (List.replicate k.toNat xs).flatten) Q
theorem op_repS:OpR X (binaryOp .Mult) (rRepS X.K):=op_rep.kf.imp fun _ _ _ _ ⟨l,k,e1,e2,xs,h1,z1,z2,z3,q⟩=>⟨l,k,xs,e1,e2,vw_lst h1,z1,z2,z3,q.al⟩
def rMul (K:PySem.W.Frag):R2:=fun x y H Q=>rI IntMulOk (fun i j=>.int (i * j)) x y H Q \/ rRepS K x y H Q
def rPlus (K:PySem.W.Frag):R2:=fun x y H Q=>rI0 (fun i j=>.int (i + j)) x y H Q \/ rCatS K x y H Q
theorem op_Mul:OpR X (binaryOp .Mult) (rMul X.K):=op_mulX.or op_repS
theorem op_Plus:OpR X (binaryOp .Add) (rPlus X.K):=op_add.or op_catS
theorem rMul_int {K:PySem.W.Frag} {i j:Int} {H:Hp} {Q:VK}:rMul K (.int i) (.int j) H Q = (IntMulOk i j /\ Q (.int (i * j)) H):=by
 simp [rMul,rI,rRepS]
theorem rMul_rep {K:PySem.W.Frag} {l:Addr} {j:Int} {H:Hp} {Q:VK}:rMul K (.ref l) (.int j) H Q = ∃ xs,vw K H l = some (.lst xs) /\ -(2 ^ 63) <= j /\ j < 2 ^ 63 /\ xs.length * j.toNat <= sizeLine /\ Nw K H (.lst (List.replicate j.toNat xs).flatten) Q:=by
 simp [rMul,rI,rRepS]
theorem rPlus_int {K:PySem.W.Frag} {i j:Int} {H:Hp} {Q:VK}:rPlus K (.int i) (.int j) H Q = Q (.int (i + j)) H:=by
 simp [rPlus,rI0,rCatS]
theorem rPlus_cat {K:PySem.W.Frag} {l b:Addr} {H:Hp} {Q:VK}:rPlus K (.ref l) (.ref b) H Q = ∃ xs,vw K H l = some (.lst xs) /\ ∃ zs,vw K H b = some (.lst zs) /\ xs.length + zs.length <= sizeLine /\ Nw K H (.lst (xs ++ zs)) Q:=by
 simp [rPlus,rI0,rCatS]
theorem call_listS:CallR X (.type "list") (fun xs H Q=>∃ p,xs = [.ref p] /\ ∃ ys,vw X.K H p = some (.lst ys) /\ Nw X.K H (.lst ys) Q):=call_list_of.kf.imp fun _ _ _ ⟨p,e,ys,h,q⟩=>⟨p,ys,e,.inl (.of (vw_lst h)),q.al⟩
theorem call_tupleS:CallR X (.type "tuple") (fun xs H Q=>∃ p,xs = [.ref p] /\ ∃ ys,vw X.K H p = some (.lst ys) /\ Nw X.K H (.tup ys) Q):=call_tuple_of.kf.imp fun _ _ _ ⟨p,e,ys,h,q⟩=>⟨p,ys,e,.inl ⟨.of (vw_lst h),q.al⟩⟩
theorem SlR.imp {r r':V -> Option Int -> Option Int -> Hp -> VK -> Prop} (h:SlR X r) (hi:∀ x a b H Q,r' x a b H Q -> r x a b H Q):SlR X r':=by
 intro value p2 pins s σ H x lo hi' v vl vh sl Q
 intros
 apply h <;> first | assumption | (apply hi; assumption)
def rSlS (K:PySem.W.Frag):V -> Option Int -> Option Int -> Hp -> VK -> Prop:=fun x lo hi H Q=>∃ a,x = .ref a /\ ∃ xs,vw K H a = some (.lst xs) /\ Nw K H (.lst (cutV xs lo hi)) Q
theorem sl_listS:SlR X (rSlS X.K):=sl_list.kf.imp fun _ _ _ _ _ ⟨a,e,xs,h,q⟩=>⟨a,xs,e,.of (vw_lst h),q.al⟩
def Chg (K:PySem.W.Frag) (H:Hp) (l:Addr) (o:HO) (Q:Hp -> Prop):Prop:=∀ H2,But l (vw K H) (vw K H2) -> vw K H2 l = some o -> Q H2
theorem Chg.ok {K:PySem.W.Frag} {H:Hp} {l:Addr} {o:HO} {Q:Hp -> Prop} (h:Chg K H l o Q) (hk:K.lookup l = none):Q (upd H l o):=h _ (vw_but But.upd) (by rw [vw_new hk]; exact upd_same)
def rSetS (K:PySem.W.Frag):V -> V -> V -> Hp -> (Hp -> Prop) -> Prop:=fun o i v H Q=>∃ p k,o = .ref p /\ i = .int k /\ ∃ xs,vw K H p = some (.lst xs) /\ ∃ j,ixN xs.length k = some j /\ Chg K H p (.lst (xs.set j v)) Q
theorem set_listS:PSet X (rSetS X.K):=fun pins s σ H o i v ov iv u Q I ro ri rv ⟨p,k,e1,e2,xs,h,j,e3,q⟩=>set_list pins s σ H o i v ov iv u Q I ro ri rv ⟨p,xs,k,j,e1,e2,vw_lst h,e3,q.ok (I.noK (vw_lst h))⟩
def rAppS (K:PySem.W.Frag):V -> List V -> Hp -> VK -> Prop:=fun x vs H Q=>∃ l y,x = .ref l /\ vs = [y] /\ ∃ xs,vw K H l = some (.lst xs) /\ xs.length < sizeLine /\ Chg K H l (.lst (xs ++ [y])) (Q .non)
theorem mt_appendS:MtM X "list.append" (rAppS X.K):=fun pins s σ H x vs v us Q I rx rv ⟨l,y,e1,e2,xs,h,z,q⟩=>mt_append pins s σ H x vs v us Q I rx rv ⟨l,xs,y,e1,e2,vw_lst h,z,q.ok (I.noK (vw_lst h))⟩
def rPopS (K:PySem.W.Frag):V -> List V -> Hp -> VK -> Prop:=fun x vs H Q=>∃ l,x = .ref l /\ vs = [] /\ ∃ xs,vw K H l = some (.lst xs) /\ ∃ y,xs[xs.length - 1]? = some y /\ Chg K H l (.lst xs.dropLast) (Q y)
theorem mt_popS:MtM X "list.pop" (rPopS X.K):=fun pins s σ H x vs v us Q I rx rv ⟨l,e1,e2,xs,h,y,e3,q⟩=>mt_pop pins s σ H x vs v us Q I rx rv ⟨l,xs,y,e1,e2,vw_lst h,e3,q.ok (I.noK (vw_lst h))⟩
end
def ForOK (J:It) (g:TG) (tb:TS) (D:Ends) (σ:St) (H1:Hp):Prop:=∃ W:Nat -> Nat -> St -> Hp -> Prop,(∃ m,W 0 m σ H1) /\ ∀ i m σ H,W i m σ H ->
 (J.stop i H /\ D.nx σ H) \/ (J.go i H /\ ∃ N:St -> Hp -> Prop,(∀ σ' H',N σ' H' -> ∃ m',m' < m /\ W (i + 1) m' σ' H') /\ ∀ x H',J.yld i H x H' -> g x σ H' fun σ2 H2=>tb { D with nx:=N,ct:=N,bk:=D.nx } σ2 H2)
theorem tFor_eq (wi:TI) (g:TG) (tb:TS) (D:Ends) (σ:St) (H:Hp):tFor wi g tb D σ H = wi σ H fun J H1=>ForOK J g tb D σ H1:=rfl
end L2
namespace L2
open PySem PySem.Spec PyProof.Rows
inductive D where
 | non | bl (b:Bool) | int (i:Int) | str (x:Str) | dict | tup (ds:List D) | lst (ds:List D)
mutual
def Rep (H:Hp):D -> V -> Prop
 | .non,v=>v = .non
 | .bl b,v=>v = .bl b
 | .int i,v=>v = .int i
 | .str x,v=>v = .str x
 | .dict,v=>∃ a kvs,v = .ref a /\ H a = some (.dK kvs)
 | .tup ds,v=>∃ a xs,v = .ref a /\ H a = some (.tup xs) /\ Reps H ds xs
 | .lst ds,v=>∃ a xs,v = .ref a /\ H a = some (.lst xs) /\ Reps H ds xs
def Reps (H:Hp):List D -> List V -> Prop
 | [],xs=>xs = []
 | d :: ds,xs=>∃ x r,xs = x :: r /\ Rep H d x /\ Reps H ds r
end
mutual
theorem Rep.same {H H':Hp} (S:Same H H'):∀ (d:D) (v:V),Rep H d v -> Rep H' d v
 | .non,v,h=>by unfold Rep at h ⊢; exact h
 | .bl b,v,h=>by unfold Rep at h ⊢; exact h
 | .int i,v,h=>by unfold Rep at h ⊢; exact h
 | .str x,v,h=>by unfold Rep at h ⊢; exact h
 | .dict,v,h=>by
  unfold Rep at h ⊢
  obtain ⟨a,kvs,e,h⟩:=h
  exact ⟨a,kvs,e,S _ _ h⟩
 | .tup ds,v,h=>by
  unfold Rep at h ⊢
  obtain ⟨a,xs,e,h,r⟩:=h
  exact ⟨a,xs,e,S _ _ h,Reps.same S ds xs r⟩
 | .lst ds,v,h=>by
  unfold Rep at h ⊢
  obtain ⟨a,xs,e,h,r⟩:=h
  exact ⟨a,xs,e,S _ _ h,Reps.same S ds xs r⟩
theorem Reps.same {H H':Hp} (S:Same H H'):∀ (ds:List D) (xs:List V),Reps H ds xs -> Reps H' ds xs
 | [],xs,h=>by unfold Reps at h ⊢; exact h
 | d :: ds,xs,h=>by
  unfold Reps at h ⊢
  obtain ⟨x,r,e,h1,h2⟩:=h
  exact ⟨x,r,e,Rep.same S d x h1,Reps.same S ds r h2⟩
end
theorem Reps.get {H:Hp}:∀ {ds:List D} {xs:List V} {i:Nat} {x:V},Reps H ds xs -> xs[i]? = some x -> ∃ d,ds[i]? = some d /\ Rep H d x
 | [],xs,i,x,h,e=>by
  unfold Reps at h
  subst h
  simp at e
 | d :: ds,xs,i,x,h,e=>by
  unfold Reps at h
  obtain ⟨y,r,rfl,h1,h2⟩:=h
  cases i with
  | zero =>
   have e':y = x:=by simpa using e
   subst e'
   exact ⟨d,by simp,h1⟩
  | succ i =>
   obtain ⟨d',e1,e2⟩:=Reps.get (i:=i) h2 (by simpa using e)
   exact ⟨d',by simpa using e1,e2⟩
theorem Reps.length {H:Hp}:∀ {ds:List D} {xs:List V},Reps H ds xs -> xs.length = ds.length
 | [],xs,h=>by
  unfold Reps at h
  subst h
  rfl
 | d :: ds,xs,h=>by
  unfold Reps at h
  obtain ⟨y,r,rfl,_,h2⟩:=h
  simp [Reps.length h2]
def D.ty:D -> String
 | .non=>"NoneType" | .bl _=>"bool" | .int _=>"int" | .str _=>"str" | .dict=>"dict" | .tup _=>"tuple" | .lst _=>"list"
theorem Rep.ty {H:Hp} {d:D} {v:V} (h:Rep H d v):tyN H v = some d.ty:=by
 cases d <;> unfold Rep at h
 ·subst h; rfl
 ·subst h; rfl
 ·subst h; rfl
 ·subst h; rfl
 ·obtain ⟨a,kvs,rfl,h⟩:=h
  simp only [tyN,h,D.ty]
 ·obtain ⟨a,xs,rfl,h,_⟩:=h
  simp only [tyN,h,D.ty]
 ·obtain ⟨a,xs,rfl,h,_⟩:=h
  simp only [tyN,h,D.ty]
theorem gcd_fmod (a b:Int):Int.gcd b (a.fmod b) = Int.gcd a b:=by
 rw [Int.fmod_def,Int.gcd_comm a b]
 have:a - b * a.fdiv b = a + b * (- a.fdiv b):=by rw [Int.mul_neg]; walk_at "o"
 rw [this]
 simp
theorem fmod_lt (a:Int) {b:Int} (hb:b ≠ 0):(a.fmod b).natAbs < b.natAbs:=by
 rcases Int.lt_or_gt_of_ne hb with h | h
 ·obtain ⟨n,rfl⟩ : ∃ n:Nat,b = Int.negSucc n:=⟨(-b - 1).toNat,by walk_at "o"⟩
  cases a with
  | ofNat m =>
   cases m with
   | zero=>simp [Int.fmod]
   | succ m =>
    show (Int.subNatNat (m % (n + 1)) n).natAbs < n + 1
    have:=Nat.mod_lt m (show 0 < n + 1 by walk_at "o")
    rw [Int.subNatNat_eq_coe]
    generalize m % (n + 1) = z at *
    walk_at "o"
  | negSucc m =>
   show (-((((m + 1) % (n + 1):Nat)):Int)).natAbs < n + 1
   have:=Nat.mod_lt (m + 1) (show 0 < n + 1 by walk_at "o")
   generalize (m + 1) % (n + 1) = z at *
   walk_at "o"
 ·have h1:=Int.fmod_nonneg_of_pos a h
  have h2:=Int.fmod_lt_of_pos a h
  walk_at "o"
def lg (a b:Int):Int:=if b < 0 then -(Int.gcd a b:Int) else (Int.gcd a b:Int)
def lo (a b:Int):Int × Int:=(a.fdiv (lg a b),b.fdiv (lg a b))
def fr (q:Int × Int):D:=.tup [.int q.1,.int q.2]
def Fq (q:Int × Int):Prop:=0 < q.2 /\ Int.gcd q.1 q.2 = 1
theorem lg_ne {a b:Int} (hb:b ≠ 0):lg a b ≠ 0:=by
 have h:Int.gcd a b ≠ 0:=fun e=>hb (Int.gcd_eq_zero_iff.mp e).2
 unfold lg
 split <;> walk_at "o"
theorem lg_dvd_left (a b:Int):lg a b ∣ a:=by
 unfold lg
 split
 ·exact Int.neg_dvd.mpr (Int.gcd_dvd_left ..)
 ·exact Int.gcd_dvd_left ..
theorem lg_dvd_right (a b:Int):lg a b ∣ b:=by
 unfold lg
 split
 ·exact Int.neg_dvd.mpr (Int.gcd_dvd_right ..)
 ·exact Int.gcd_dvd_right ..
theorem lo_mul_left {a b:Int} (hb:b ≠ 0):(lo a b).1 * lg a b = a:=by
 show a.fdiv (lg a b) * lg a b = a
 exact Int.fdiv_mul_cancel (lg_dvd_left a b)
theorem lo_mul_right {a b:Int} (hb:b ≠ 0):(lo a b).2 * lg a b = b:=by
 show b.fdiv (lg a b) * lg a b = b
 exact Int.fdiv_mul_cancel (lg_dvd_right a b)
theorem lg_natAbs (a b:Int):(lg a b).natAbs = Int.gcd a b:=by
 unfold lg
 split <;> walk_at "o"
theorem lo_Fq {a b:Int} (hb:b ≠ 0):Fq (lo a b):=by
 have h1:=lo_mul_left (a:=a) hb
 have h2:=lo_mul_right (a:=a) hb
 have hg:0 < Int.gcd a b:=Nat.pos_of_ne_zero fun e=>hb (Int.gcd_eq_zero_iff.mp e).2
 constructor
 ·by_cases hn:b < 0
  ·have e:lg a b = -(Int.gcd a b:Int):=if_pos hn
   rw [e] at h2
   rcases Int.lt_trichotomy (lo a b).2 0 with h | h | h
   ·have:=Int.mul_nonneg_of_nonpos_of_nonpos (Int.le_of_lt h) (show -(Int.gcd a b:Int) <= 0 by walk_at "o")
    walk_at "o"
   ·rw [h] at h2; walk_at "o"
   ·exact h
  ·have e:lg a b = (Int.gcd a b:Int):=if_neg hn
   rw [e] at h2
   rcases Int.lt_trichotomy (lo a b).2 0 with h | h | h
   ·have:=Int.mul_nonpos_of_nonpos_of_nonneg (Int.le_of_lt h) (show 0 <= (Int.gcd a b:Int) by walk_at "o")
    walk_at "o"
   ·rw [h] at h2; walk_at "o"
   ·exact h
 ·have e:Int.gcd ((lo a b).1 * lg a b) ((lo a b).2 * lg a b) = Int.gcd (lo a b).1 (lo a b).2 * (lg a b).natAbs:=Int.gcd_mul_right ..
  rw [h1,h2,lg_natAbs] at e
  have:1 * Int.gcd a b = Int.gcd (lo a b).1 (lo a b).2 * Int.gcd a b:=by walk_at "o"
  exact (Nat.eq_of_mul_eq_mul_right hg this).symm
mutual
def D.noSt:D -> Bool
 | .lst [.int _,.bl _]=>false
 | .lst ds=>D.noSts ds
 | .tup ds=>D.noSts ds
 | _=>true
def D.noSts:List D -> Bool
 | []=>true
 | d :: ds=>d.noSt && D.noSts ds
end
def StOk (H:Hp) (st:Addr):Prop:=∃ x b,H st = some (.lst [.int x,.bl b]) /\ (b = false -> 0 <= x /\ x < 2147483647)
theorem noSt_lst {ds:List D} (h:D.noSt (.lst ds) = true):D.noSts ds = true /\ ∀ i b,ds ≠ [.int i,.bl b]:=by
 unfold D.noSt at h
 split at h
 ·cases h
 ·rename_i hne e
  cases e
  exact ⟨h,fun i b z=>hne i b (by rw [z])⟩
 ·rename_i e; cases e
 ·rename_i e _; exact (e _ rfl).elim
theorem Rep.lst_st {H:Hp} {ds:List D} {x:Int} {b:Bool} (h:Reps H ds [.int x,.bl b]):ds = [.int x,.bl b]:=by
 match ds with
 | []=>unfold Reps at h; cases h
 | [d] =>
  unfold Reps at h
  obtain ⟨_,_,e,_,h⟩:=h
  unfold Reps at h
  subst h
  cases e
 | d1 :: d2 :: d3 :: r =>
  have:=Reps.length h
  simp at this
 | [d1,d2] =>
  unfold Reps at h
  obtain ⟨_,_,e,h1,h⟩:=h
  cases e
  unfold Reps at h
  obtain ⟨_,_,e,h2,h⟩:=h
  cases e
  have e1:d1 = .int x:=by
   cases d1 <;> unfold Rep at h1 <;> first | (cases h1; rfl) | (obtain ⟨_,_,e,_⟩:=h1; cases e) | cases h1
  have e2:d2 = .bl b:=by
   cases d2 <;> unfold Rep at h2 <;> first | (cases h2; rfl) | (obtain ⟨_,_,e,_⟩:=h2; cases e) | cases h2
  rw [e1,e2]
mutual
theorem Rep.but {H H':Hp} {st:Addr} (S:But st H H') (hst:StOk H st):∀ (d:D) (v:V),d.noSt = true -> Rep H d v -> Rep H' d v
 | .non,v,_,h=>by unfold Rep at h ⊢; exact h
 | .bl b,v,_,h=>by unfold Rep at h ⊢; exact h
 | .int i,v,_,h=>by unfold Rep at h ⊢; exact h
 | .str x,v,_,h=>by unfold Rep at h ⊢; exact h
 | .dict,v,_,h=>by
  unfold Rep at h ⊢
  obtain ⟨a,kvs,e,h⟩:=h
  obtain ⟨_,_,hs,_⟩:=hst
  exact ⟨a,kvs,e,S _ _ (ne_of h hs (by intro z; cases z)) h⟩
 | .tup ds,v,hn,h=>by
  unfold Rep at h ⊢
  obtain ⟨a,xs,e,h,r⟩:=h
  obtain ⟨x,b,hs,hb⟩:=id hst
  exact ⟨a,xs,e,S _ _ (ne_of h hs (by intro z; cases z)) h,Reps.but S hst ds xs (by unfold D.noSt at hn; exact hn) r⟩
 | .lst ds,v,hn,h=>by
  unfold Rep at h ⊢
  obtain ⟨a,xs,e,h,r⟩:=h
  obtain ⟨x,b,hs,hb⟩:=id hst
  obtain ⟨hn1,hn2⟩:=noSt_lst hn
  refine ⟨a,xs,e,S _ _ (ne_of h hs fun z=>?_) h,Reps.but S hst ds xs hn1 r⟩
  cases z
  exact hn2 _ _ (Rep.lst_st r)
theorem Reps.but {H H':Hp} {st:Addr} (S:But st H H') (hst:StOk H st):∀ (ds:List D) (xs:List V),D.noSts ds = true -> Reps H ds xs -> Reps H' ds xs
 | [],xs,_,h=>by unfold Reps at h ⊢; exact h
 | d :: ds,xs,hn,h=>by
  unfold D.noSts at hn
  rw [Bool.and_eq_true] at hn
  unfold Reps at h ⊢
  obtain ⟨x,r,e,h1,h2⟩:=h
  exact ⟨x,r,e,Rep.but S hst d x hn.1 h1,Reps.but S hst ds r hn.2 h2⟩
end
theorem StOk.same {H H':Hp} {st:Addr} (h:StOk H st) (S:Same H H'):StOk H' st:=by
 obtain ⟨x,b,e,k⟩:=h
 exact ⟨x,b,S _ _ e,k⟩
theorem StOk.ne {H:Hp} {st p:Addr} (h:StOk H st) (hp:H p = none):p ≠ st:=by
 obtain ⟨x,b,e,k⟩:=h
 exact (ne_of_none e hp).symm
theorem fr_noSt (q:Int × Int):(fr q).noSt = true:=by simp [fr,D.noSt,D.noSts]
def D.isInt:D -> Bool
 | .int _=>true
 | _=>false
def D.frac:D -> Bool
 | .tup [.int t,.int b]=>decide (0 < b) && decide (Int.gcd t b = 1)
 | _=>false
theorem frac_fr {q:Int × Int} (h:Fq q):(fr q).frac = true:=by
 simp [fr,D.frac,h.1,h.2]
theorem Rep.tup_at {H:Hp} {ds:List D} {v:V} (h:Rep H (.tup ds) v):∃ a xs,v = .ref a /\ H a = some (.tup xs) /\ Reps H ds xs:=by
 unfold Rep at h
 exact h
theorem Rep.lst_at {H:Hp} {ds:List D} {v:V} (h:Rep H (.lst ds) v):∃ a xs,v = .ref a /\ H a = some (.lst xs) /\ Reps H ds xs:=by
 unfold Rep at h
 exact h
theorem Reps.nil_at {H:Hp} {xs:List V} (h:Reps H [] xs):xs = []:=by
 unfold Reps at h
 exact h
theorem Reps.cons_at {H:Hp} {d:D} {ds:List D} {xs:List V} (h:Reps H (d :: ds) xs):∃ x r,xs = x :: r /\ Rep H d x /\ Reps H ds r:=by
 unfold Reps at h
 exact h
theorem Rep.int_at {H:Hp} {i:Int} {v:V} (h:Rep H (.int i) v):v = .int i:=by
 unfold Rep at h
 exact h
theorem Reps.pair {H:Hp} {ds:List D} {xs:List V} (h:Reps H ds xs) (hl:xs.length = 2):∃ d1 d2 x1 x2,ds = [d1,d2] /\ xs = [x1,x2] /\ Rep H d1 x1 /\ Rep H d2 x2:=by
 have e:=h.length
 match ds,e with
 | [],e=>rw [hl] at e; cases e
 | [_],e=>rw [hl] at e; cases e
 | _ :: _ :: _ :: _,e=>rw [hl] at e; cases e
 | [d1,d2],_ =>
  obtain ⟨x1,r,rfl,h1,h⟩:=h.cons_at
  obtain ⟨x2,r,rfl,h2,h⟩:=h.cons_at
  cases h.nil_at
  exact ⟨_,_,_,_,rfl,rfl,h1,h2⟩
theorem Rep.mk_int {H:Hp} (i:Int):Rep H (.int i) (.int i):=by unfold Rep; rfl
theorem Reps.mk_nil {H:Hp}:Reps H [] []:=by unfold Reps; rfl
theorem Reps.mk_cons {H:Hp} {d:D} {ds:List D} {x:V} {xs:List V} (h1:Rep H d x) (h2:Reps H ds xs):Reps H (d :: ds) (x :: xs):=by unfold Reps; exact ⟨_,_,rfl,h1,h2⟩
theorem Rep.mk_tup {H:Hp} {a:Addr} {ds:List D} {xs:List V} (h:H a = some (.tup xs)) (r:Reps H ds xs):Rep H (.tup ds) (.ref a):=by unfold Rep; exact ⟨_,_,rfl,h,r⟩
theorem Rep.mk_lst {H:Hp} {a:Addr} {ds:List D} {xs:List V} (h:H a = some (.lst xs)) (r:Reps H ds xs):Rep H (.lst ds) (.ref a):=by unfold Rep; exact ⟨_,_,rfl,h,r⟩
theorem Rep.fr_at {H:Hp} {q:Int × Int} {v:V} (h:Rep H (fr q) v):∃ a,v = .ref a /\ H a = some (.tup [.int q.1,.int q.2]):=by
 obtain ⟨a,xs,e,ha,r⟩:=h.tup_at
 obtain ⟨x1,r1,rfl,h1,r⟩:=r.cons_at
 obtain ⟨x2,r2,rfl,h2,r⟩:=r.cons_at
 cases r.nil_at
 rw [h1.int_at,h2.int_at] at ha
 exact ⟨a,e,ha⟩
theorem D.frac_tup {ds:List D} (h:(D.tup ds).frac = true):∃ a b,ds = [.int a,.int b] /\ Fq (a,b):=by
 unfold D.frac at h
 split at h
 ·rename_i t b e
  cases e
  simp at h
  exact ⟨_,_,rfl,h.1,h.2⟩
 ·cases h
abbrev Bt (n:Nat) (x:Int):Prop:=x.natAbs < 2 ^ n
theorem Bt.ib {n:Nat} {x:Int} (h:Bt n x):Builtin.Int.intBits x <= n:=by
 unfold Builtin.Int.intBits
 split
 ·exact Nat.zero_le _
 ·rename_i h0
  have h1:x.natAbs ≠ 0:=by
   intro e
   apply h0
   have:x = 0:=by walk_at "o"
   rw [this]
   rfl
  have:=(Nat.log2_lt h1).mpr h
  walk_at "o"
theorem mulOk {m n:Nat} {x y:Int} (hx:Bt m x) (hy:Bt n y) (h:m + n <= 134217728:=by decide):IntMulOk x y:=PySem.IntMulOk.of_le hx.ib hy.ib h
theorem Bt.mono {m n:Nat} {x:Int} (hx:Bt m x) (h:m <= n):Bt n x:=Nat.lt_of_lt_of_le hx (Nat.pow_le_pow_right (by decide) h)
theorem Bt.mul {m n:Nat} {x y:Int} (hx:Bt m x) (hy:Bt n y):Bt (m + n) (x * y):=by
 unfold Bt
 rw [Int.natAbs_mul,Nat.pow_add]
 exact Nat.mul_lt_mul'' hx hy
theorem Bt.add {m n:Nat} {x y:Int} (hx:Bt m x) (hy:Bt n y):Bt (max m n + 1) (x + y):=by
 have h1:=hx.mono (Nat.le_max_left m n)
 have h2:=hy.mono (Nat.le_max_right m n)
 unfold Bt at *
 rw [Nat.pow_succ]
 have:=Int.natAbs_add_le x y
 walk_at "o"
theorem Bt.sub {m n:Nat} {x y:Int} (hx:Bt m x) (hy:Bt n y):Bt (max m n + 1) (x - y):=by
 have h1:=hx.mono (Nat.le_max_left m n)
 have h2:=hy.mono (Nat.le_max_right m n)
 unfold Bt at *
 rw [Nat.pow_succ]
 have:=Int.natAbs_sub_le x y
 walk_at "o"
theorem divX {x y:Int} (h:y ≠ 0) (hb:Bt 9000 y):CDivX x y:=⟨h,by
 by_cases h0:y.natAbs = 0
 ·rw [h0]; decide +kernel
 ·exact (Nat.log2_lt h0).mpr hb⟩
theorem bt_fmod {x k:Int} {n:Nat} (hk:0 < k) (h:k.natAbs <= 2 ^ n):Bt n (x.fmod k):=by
 have h1:=Int.fmod_nonneg_of_pos x hk
 have h2:=Int.fmod_lt_of_pos x hk
 unfold Bt
 walk_at "o"
theorem mulOk_l {x y:Int} (hx:Bt 64 x):IntMulOk x y:=.of_left hx.ib
theorem mulOk_r {x y:Int} (hy:Bt 64 y):IntMulOk x y:=.of_right hy.ib
theorem log2_of_lt {y:Int} (h:y.natAbs < 2 ^ 9000):y.natAbs.log2 < 9000:=by
 by_cases h0:y.natAbs = 0
 ·rw [h0]; decide +kernel
 ·exact (Nat.log2_lt h0).mpr h
end L2
namespace L2
theorem iteP {c A B:Prop} [Decidable c] (hc:c) (h:A):if c then A else B:=by rw [if_pos hc]; exact h
theorem iteN {c A B:Prop} [Decidable c] (hc:¬ c) (h:B):if c then A else B:=by rw [if_neg hc]; exact h
end L2
namespace L2
theorem D.isInt_of {d:D} (h:¬ d.isInt = false):∃ i,d = .int i:=by
 cases d <;> first | exact ⟨_,rfl⟩ | exact absurd rfl h
theorem frac_le {t b:Int} (h:b < 1):(D.tup [.int t,.int b]).frac = false:=by
 simp only [D.frac,decide_eq_false (show ¬ (0:Int) < b by walk_at "o"),Bool.false_and]
theorem frac_gt {t b:Int} (h:0 < b):(D.tup [.int t,.int b]).frac = decide (((Int.gcd t b:Nat):Int) = 1):=by
 simp only [D.frac,decide_eq_true h,Bool.true_and]
 apply decide_eq_decide.mpr
 walk_at "o"
end L2
namespace L2
open PySem
mutual
def D.ib:D -> Bool
 | .int i=>decide (i.natAbs < 2 ^ 200)
 | .tup ds=>D.ibs ds
 | .lst ds=>D.ibs ds
 | _=>true
def D.ibs:List D -> Bool
 | []=>true
 | d :: ds=>d.ib && D.ibs ds
end
theorem noSt_mk {ds:List D} (h:D.noSts ds = true) (hn:∀ i b,ds ≠ [.int i,.bl b]):D.noSt (.lst ds) = true:=by
 unfold D.noSt
 split
 ·rename_i e; cases e; exact absurd rfl (hn _ _)
 ·rename_i e; cases e; exact h
 ·rename_i e; cases e
 ·rfl
end L2
namespace L2
open PySem PySem.Spec PyProof.Rows
section
variable {prog:Program} {w:World} {A:Around} {R:Result -> Shared -> Prop} {s:Shared}
theorem compLoop_any {elt target iter:Expr} {ifs:List Expr} {scope:Scope} {pos:Pos} {it acc:Value} {env:Env} {EE:Value -> Shared -> Prop} (hEE:EE = notedBy (model prog w) A env fun e s'=>R (.error e) s') (Iv:Nat -> Shared -> Prop)
  (turn:∀ n s,Iv n s -> wpAny (model prog w) A (pyNext it) (fun r s1=>match r with
   | none=>R (.ok .next) s1
   | some v=>wpAny (model prog w) A (letOwnedTupleGo target it v) (fun _ s2=>wpAny (model prog w) A (assign target env v) (fun _ s3 =>
     wpAny (model prog w) A (forIn ifs true fun c r=>if r = true then do let ok <- isTrue c env (eval c env); pure (ForInStep.yield ok) else pure (ForInStep.yield r)) (fun ok s4 =>
      if ok = true then wpAny (model prog w) A (eval elt env) (fun x s5=>wpAny (model prog w) A (call (.builtin "list.append") [acc,x]) (fun _ s6=>∃ m,m < n /\ Iv m s6) EE s5) EE s4
      else ∃ m,m < n /\ Iv m s4) EE s3) EE s2) EE s1) EE s)
  (n:Nat) (h:Iv n s):codeAny (model prog w) A (.compLoop (.ListComp elt [⟨target,iter,ifs,0⟩] scope pos) 0 it acc env) R s:=by
 subst hEE
 refine codeAny_loop rfl Iv (fun n s hI=>?_) n h
 show wpAny _ A ((compTurn (.ListComp elt [⟨target,iter,ifs,0⟩] scope pos) 0 it acc env).onRaise (fun x=>do noteFrame x env; theTreesLotGoes x)) _ _ s
 refine wpAny_noted ?_
 rw [compTurn_list]
 refine wpAny_bind (wpAny_standAt (wpAny_bind (wpAny_mono (turn n s hI) (fun r s1 h1=>?_) fun _ _ h'=>h')))
 cases r with
 | none=>exact wpAny_pure h1
 | some v =>
  refine wpAny_bind (wpAny_mono h1 (fun _ s2 h2=>?_) fun _ _ h'=>h')
  refine wpAny_bind (wpAny_mono h2 (fun _ s3 h3=>wpAny_bind (wpAny_mono h3 (fun ok s4 h4=>?_) fun _ _ h'=>h')) fun _ _ h'=>h')
  cases ok with
  | false=>exact wpAny_pure ⟨rfl,h4⟩
  | true=>exact wpAny_bind (wpAny_bind (wpAny_mono h4 (fun x s5 h5=>wpAny_bind (wpAny_mono h5 (fun _ s6 h6=>wpAny_pure (wpAny_pure ⟨rfl,h6⟩)) fun _ _ h'=>h')) fun _ _ h'=>h'))
end
def cxC (X:Cx) (scope:Scope) (cl:List (Str × Addr)) (N:List Str) (C:Addr) (s:Shared) (H:Hp) (ex:List Addr):Cx :=
 { X with N:=N,s₀:=s,H₀:=H,env:=compEnvC scope cl C X.env,outer:=X.stack,ex:=ex,fn:=fun _=>false,pn:=[],xe:=fun _ _=>False }
def Outs (X:Cx) (scope:Scope) (cl:List (Str × Addr)):List Str -> List Nat -> Prop
 | [],[]=>True
 | x :: xs,j :: js=>(X.N[j]? = some x /\ X.env.kindOf x = some .cell /\ (relabel scope X.env).names.lookup x = some .cell /\ (∃ c,cl.lookup x = some c)) /\ Outs X scope cl xs js
 | _,_=>False
theorem Outs.length {X:Cx} {scope:Scope} {cl:List (Str × Addr)}:∀ {xs:List Str} {js:List Nat},Outs X scope cl xs js -> js.length = xs.length
 | [],[],_=>rfl
 | _ :: _,_ :: _,h=>by simp [Outs.length h.2]
 | [],_ :: _,h=>h.elim
 | _ :: _,[],h=>h.elim
theorem Outs.get {X:Cx} {scope:Scope} {cl:List (Str × Addr)}:∀ {xs:List Str} {js:List Nat} {k j:Nat} {x:Str},Outs X scope cl xs js -> xs[k]? = some x -> js[k]? = some j ->
  X.N[j]? = some x /\ X.env.kindOf x = some .cell /\ (relabel scope X.env).names.lookup x = some .cell /\ ∃ c,cl.lookup x = some c
 | [],_,_,_,_,_,e,_=>by simp at e
 | _ :: _,[],_,_,_,_,_,e=>by simp at e
 | x :: xs,j :: js,0,_,_,h,e1,e2=>by
  simp at e1 e2
  subst e1
  subst e2
  exact h.1
 | x :: xs,j :: js,k + 1,_,_,h,e1,e2=>Outs.get (k:=k) h.2 (by simpa using e1) (by simpa using e2)
def CellsOk (X:Cx):List (Str × Addr) -> Prop
 | []=>True
 | p :: r=>X.env.cells.lookup p.1 = some p.2 /\ CellsOk X r
theorem CellsOk.mem {X:Cx}:∀ {cl:List (Str × Addr)},CellsOk X cl -> ∀ p ∈ cl,X.env.cells.lookup p.1 = some p.2
 | [],_,p,hp=>by cases hp
 | q :: r,h,p,hp=>by
  rcases List.mem_cons.mp hp with rfl | hp
  ·exact h.1
  ·exact CellsOk.mem h.2 p hp
structure CompSc (X:Cx) (scope:Scope) (cl:List (Str × Addr)) (own outs:List Str) (ixs:List Nat):Prop where
 nocell:(scope.names.all fun y=>y.2 != .cell) = true
 kind:scope.kind = .function
 names:(scope.names.all fun y=>y.2 != .local || scope.names.lookup y.1 == some .local) = true
 cells:CellsOk X cl
 has:((relabel scope X.env).names.all fun y=>!(y.2 == .cell || y.2 == .free) || (cl.lookup y.1).isSome) = true
 outs:Outs X scope cl outs ixs
def PF (X:Cx) (ifs:List Expr) (t:TT):Prop :=
 ∀ (pins:List (Addr × Obj)) (s:Shared) (σ:St) (H:Hp) (Q:Bool -> Hp -> Prop),Inv X pins σ H s -> t σ H Q ->
  wpAny (model X.prog X.w) X.A (forIn ifs true fun c r=>if r = true then do let ok <- isTrue c X.env (eval c X.env); pure (ForInStep.yield ok) else pure (ForInStep.yield r)) (TP X pins σ Q) X.xe s
def tYes:TT:=fun _ H Q=>Q true H
theorem pf_nil {X:Cx}:PF X [] tYes:=fun _ _ _ H _ I h=>wpAny_tests_nil ⟨H,I,h⟩
def CompOK (K:PySem.W.Frag) (J:It) (g:TG) (tif:TT) (te:TE) (a:Addr) (σ0:St) (H0:Hp) (Q:Hp -> Prop):Prop:=∃ W:Nat -> Nat -> St -> Hp -> Prop,(∃ m,W 0 m σ0 H0) /\ ∀ i m σ H,W i m σ H ->
 (J.stop i H /\ Q H) \/ (J.go i H /\ ∃ N:St -> Hp -> Prop,(∀ σ' H',N σ' H' -> ∃ m',m' < m /\ W (i + 1) m' σ' H') /\ ∀ x H',J.yld i H x H' -> g x σ H' fun σ2 H2=>tif σ2 H2 fun b H3=>if b = true then te σ2 H3 fun v H4=>∃ xs,vw K H4 a = some (.lst xs) /\ xs.length < sizeLine /\
  ∀ H5,But a (vw K H4) (vw K H5) -> vw K H5 a = some (.lst (xs ++ [v])) -> N σ2 H5 else N σ2 H3)
def outV (σ:St) (ixs:List Nat):St:=ixs.map fun j=>(σ[j]?).join
def tComp (K:PySem.W.Frag) (wi:TI) (n:Nat) (ixs:List Nat) (g:TG) (tif:TT) (te:TE):TE:=fun σ H Q=>wi σ H fun J H1=>∀ a H2,vw K H1 a = none -> Same (vw K H1) (vw K H2) -> vw K H2 a = some (.lst []) -> CompOK K J g tif te a (List.replicate n none ++ outV σ ixs) H2 (Q (.ref a))
section
variable {X:Cx}
theorem comp_core {tg iter elt:Expr} {ifs:List Expr} {scope:Scope} {pos ipos:Pos} {wi:TI} {g:TG} {tif:TT} {te:TE} {cl:List (Str × Addr)} {own outs:List Str} {ixs:List Nat} {use:Option (Value -> Sem Unit)} {Qv:Value -> Shared -> Prop}
  (hc:X.calm = true) (hi:PI X tg iter wi) (hclos:closureFor scope X.env = pure cl) (S:CompSc X scope cl own outs ixs)
  {G:Shared -> Hp -> List Addr -> Prop} (hb:∀ C s H ex,G s H ex -> PG (cxC X scope cl (own ++ outs) C s H ex) tg g /\ PF (cxC X scope cl (own ++ outs) C s H ex) ifs tif /\ PE (cxC X scope cl (own ++ outs) C s H ex) elt te)
  (hs:∀ x,foldedSetIterable iter X.env x = pure x) {pins:List (Addr × Obj)} {s:Shared} {σ:St} {H:Hp} (hG:∀ s2 H1 H2 fp,Inv X pins σ H2 s2 -> (∀ b ∈ fp,FpOk X pins H1 b) -> G s2 H2 fp) (I:Inv X pins σ H s) (Qd:Addr -> Hp -> Prop)
  (hfin:∀ (a C:Addr) (H':Hp) (s4:Shared) (m:Str -> Option Value),Inv X pins σ H' s4 -> FpOk X pins H' C -> s4.heap.Ns C m -> Qd a H' -> compPost (model X.prog X.w) X.A X.xe use Qv (.ref a) C (.ok .next) s4)
  (h:wi σ H fun J H1=>∀ a H2,vw X.K H1 a = none -> Same (vw X.K H1) (vw X.K H2) -> vw X.K H2 a = some (.lst []) -> CompOK X.K J g tif te a (List.replicate own.length none ++ outV σ ixs) H2 (Qd a)) :
  wpAny (model X.prog X.w) X.A (comprehension (.ListComp elt [⟨tg,iter,ifs,0⟩] scope pos) scope X.env ipos (newList []) false (eval iter X.env) use) Qv X.xe s:=by
 have Snc:∀ y ∈ scope.names,y.2 ≠ .cell:=fun y hy z=>by
  have:=List.all_eq_true.mp S.nocell y hy
  rw [z] at this
  cases this
 have Snm:∀ y ∈ scope.names,y.2 = .local -> scope.names.lookup y.1 = some .local:=fun y hy z=>by
  have:=List.all_eq_true.mp S.names y hy
  rw [z] at this
  simpa using this
 have Shs:∀ y ∈ (relabel scope X.env).names,(y.2 = .cell \/ y.2 = .free) -> (cl.lookup y.1).isSome = true:=fun y hy z=>by
  have:=List.all_eq_true.mp S.has y hy
  rcases z with z | z
  ·rw [z] at this
   simpa using this
  ·rw [z] at this
   simpa using this
 refine wpAny_comprehension_free (use:=use) rfl hs hclos S.kind Snm (wpAny_mono (hi pins s σ H _ I h) (fun xv s1 h1=>wpAny_mono h1 (fun itv s2 h2=>?_) fun _ _ e=>e) fun _ _ e=>e)
 obtain ⟨it,fp,tn,J,H1,rfl,I1,T,st1,f1,q⟩:=h2
 refine wpAny_newObj_type (wpAny_newFunctionEnv Snc (by intro y hy; simp at hy) (fun h₁ hns₁ hsb₁=>?_) S.kind)
 dsimp only at hns₁ hsb₁ ⊢
 have I2:Inv X pins σ (upd H1 s2.heap.objs.size (.lst [])) { s2 with heap:=s2.heap.push { cls:=.type "list",dict:=none,data:=.seq ([]:List Value).toArray } }:=I1.lnew (t':=s2.toks) .nil (Nat.zero_le _)
 have q2:=q s2.heap.objs.size (upd H1 s2.heap.objs.size (.lst [])) (by rw [vw_new (I1.newK (Nat.le_refl _))]; exact I1.fresh) (vw_same (Same.upd I1.fresh)) (by rw [vw_new (I1.newK (Nat.le_refl _))]; exact upd_same)
 have fr2:∀ b ∈ fp,(upd H1 s2.heap.objs.size (.lst [])) b = none:=fun b hb=>by
  obtain ⟨o,ho,_⟩:=T.obj _ _ st1 b hb
  rw [upd_ne (Nat.ne_of_lt (Heap.lt_size ho))]
  exact (f1 b hb).1
 generalize hH2:upd H1 s2.heap.objs.size (.lst []) = H2 at I2 q2 fr2
 generalize hs3:s2.heap.push { cls:=.type "list",dict:=none,data:=.seq ([]:List Value).toArray } = hp3 at I2 hns₁ hsb₁ ⊢
 have old23:∀ b o,s2.heap.get? b = some o -> hp3.get? b = some o:=fun b o e=>hs3 ▸ Heap.get?_push_of_some _ e
 have ltC:∀ {b:Addr} {o:Obj},hp3.get? b = some o -> b ≠ hp3.objs.size:=fun e=>Nat.ne_of_lt (Heap.lt_size e)
 have old:∀ b o,hp3.get? b = some o -> h₁.get? b = some o:=fun b o e=>hsb₁.extBut b o (ltC e) (Heap.get?_push_of_some _ e)
 have clc:∀ x c,cl.lookup x = some c -> X.env.cells.lookup x = some c:=fun x c e=>S.cells.mem (x,c) (PySem.mem_of_lookup e)
 obtain ⟨W,⟨m0,w0⟩,turn⟩:=q2
 have fpo:∀ b ∈ fp,∃ o,hp3.get? b = some o:=fun b hb=>by
  obtain ⟨o,ho,_⟩:=T.obj _ _ st1 b hb
  exact ⟨o,old23 b o ho⟩
 have ok:(cxC X scope cl (own ++ outs) hp3.objs.size { s2 with heap:=hp3 } H2 fp).Ok:=by
  refine ⟨I.ok.mod,S.kind,I.ok.glob,I.ok.blt,Nat.le_refl _,fun x y c e1 e2=>I.ok.inj x y c (clc x c e1) (clc y c e2),fun x hx=>?_,fun x c hf _=>(by cases hf),I.ok.hd,I.ok.frames,.inl rfl,fun b hb=>⟨?_,fun x c e=>?_⟩,I2.bs,Nat.le_trans I.ok.bsz I2.sz,fun b o e hb=>?_,fun b hb hz=>?_,I2.stack,I2.stkFree⟩
  ·have hx':(relabel scope X.env).names.lookup x = some .cell \/ (relabel scope X.env).names.lookup x = some .free:=hx
   have:(cl.lookup x).isSome = true:=by
    rcases hx' with e | e
    ·exact Shs _ (PySem.mem_of_lookup e) (.inl rfl)
    ·exact Shs _ (PySem.mem_of_lookup e) (.inr rfl)
   exact Option.isSome_iff_exists.mp this
  ·obtain ⟨o,ho⟩:=fpo b hb
   exact ltC ho
  ·exact (f1 b hb).2.2.2.2.1 x c (clc x c e)
  ·rcases (f1 b hb).2.2.2.1 with z | z
   ·exact I.ok.noex b o e z
   ·exact absurd (Nat.lt_of_lt_of_le (Heap.lt_size e) (Nat.le_trans I.ok.bsz z)) (Nat.lt_irrefl _)
  ·rcases List.mem_cons.mp (I2.stkSub b hz) with z | z
   ·exact (f1 b hb).2.1 z
   ·exact (f1 b hb).2.2.1 z
 have I4:Inv (cxC X scope cl (own ++ outs) hp3.objs.size { s2 with heap:=hp3 } H2 fp) [] (List.replicate own.length none ++ outV σ ixs) H2 { s2 with heap:=h₁,toks:=s2.toks + ([]:List (Str × Value)).length }:=by
  refine ⟨ok,rfl,I2.bare,Un.kept old,⟨_,hns₁,fun i x v e1 e2 e3=>?_⟩,fun x c e=>?_,I2.hok.fresh (Nat.le_refl _),fun x c e=>I2.freeC x c (clc x c e),fun p hp=>by simp [cxC] at hp,I2.hok.kept old,?_⟩
  ·have e1':(own ++ outs)[i]? = some x:=e1
   have hi':own.length <= i:=by
    by_cases hlt:i < own.length
    ·rw [List.getElem?_append_left (by simpa using hlt),List.getElem?_replicate,if_pos hlt] at e2
     cases e2
    ·walk_at "o"
   rw [List.getElem?_append_right (by simpa using hi')] at e2
   rw [List.getElem?_append_right hi'] at e1'
   rw [List.length_replicate] at e2
   unfold outV at e2
   rw [List.getElem?_map] at e2
   cases ej:ixs[i - own.length]? with
   | none=>rw [ej] at e2; cases e2
   | some j =>
    rw [ej] at e2
    obtain ⟨hN,hk,hr,c,hcl⟩:=S.outs.get e1' ej
    have e4:(σ[j]?).join = some v:=Option.some.inj e2
    have e5:σ[j]? = some (some v):=by
     cases es:σ[j]? with
     | none=>rw [es] at e4; cases e4
     | some o=>rw [es] at e4; exact congrArg some e4
    obtain ⟨m,hn,hl⟩:=I2.loc
    obtain ⟨u,ru,l⟩:=hl j x v hN e5 (.inr (.inl hk))
    refine ⟨u,ru,.inr ⟨.inl hr,c,hcl,?_⟩⟩
    rcases l with ⟨z,_⟩ | ⟨_,c',hc',cell⟩
    ·rw [hk] at z; cases z
    ·rw [clc x c hcl] at hc'
     cases hc'
     obtain ⟨o,ho,hd⟩:=cell
     exact ⟨o,old _ _ ho,hd⟩
  ·obtain ⟨v,o,ho,hd⟩:=I2.cell x c (clc x c e)
   exact ⟨v,o,old _ _ ho,hd⟩
  ·show (List.replicate own.length none ++ outV σ ixs).length = (own ++ outs).length
   unfold outV
   rw [List.length_append,List.length_append,List.length_replicate,List.length_map,S.outs.length]
 obtain ⟨hg,hf,he⟩:=hb hp3.objs.size { s2 with heap:=hp3 } H2 fp (hG _ _ _ _ I2 f1)
 have stat:∀ {H':Hp},(∀ b ∈ fp,H' b = none) -> ∀ b ∈ fp,FpOk (cxC X scope cl (own ++ outs) hp3.objs.size { s2 with heap:=hp3 } H2 fp) [] H' b:=fun hn b hb =>
  ⟨hn b hb,(ok.exf b hb).1,ok.exfs b hb,.inl hb,(ok.exf b hb).2,fun p hp=>by simp [cxC] at hp⟩
 have noE:∀ {α:Type} {t:Sem α} {Q':α -> Shared -> Prop} {s':Shared} {E':Value -> Shared -> Prop},wpAny (model X.prog X.w) X.A t Q' (fun _ _=>False) s' -> wpAny (model X.prog X.w) X.A t Q' E' s':=fun h=>wpAny_mono h (fun _ _ z=>z) fun _ _ z=>z.elim
 have loop:codeAny (model X.prog X.w) X.A (.compLoop (.ListComp elt [⟨tg,iter,ifs,0⟩] scope pos) 0 (.ref it) (.ref s2.heap.objs.size) (compEnvC scope cl hp3.objs.size X.env))
   (compPost (model X.prog X.w) X.A X.xe use Qv (.ref s2.heap.objs.size) hp3.objs.size) { s2 with heap:=h₁,toks:=s2.toks + ([]:List (Str × Value)).length }:=by
  refine compLoop_any rfl (fun n s'=>∃ i σ' H',Inv (cxC X scope cl (own ++ outs) hp3.objs.size { s2 with heap:=hp3 } H2 fp) [] σ' H' s' /\ tn i s'.heap /\ (∀ b ∈ fp,H' b = none) /\ W i n σ' H') ?_ m0
   ⟨0,_,H2,I4,T.keep _ _ _ st1 fun b hb o e=>old b o (old23 b o e),fr2,w0⟩
  rintro n s' ⟨i,σ',H',I',st',fr',w'⟩
  rcases turn i n σ' H' w' with ⟨stop,qn⟩ | ⟨go,N,hN,step⟩
  ·refine thn (T.done (cxC X scope cl (own ++ outs) hp3.objs.size { s2 with heap:=hp3 } H2 fp) rfl rfl rfl hc i [] s' σ' H' _ I' (stat fr') st' stop) fun r s4 ⟨hr,I4'⟩=>?_
   subst hr
   obtain ⟨m,hn,_⟩:=I4'.loc
   have kC:∀ b o,b ≠ hp3.objs.size -> s4.heap.get? b = some o -> s4.heap.get? b = some o:=fun b o hb e=>e
   have tC:∀ b u,H' b = some u -> b ≠ hp3.objs.size:=fun b u e z=>by
    have:=I4'.free
    rw [z] at e
    rw [show H' hp3.objs.size = none from this] at e
    cases e
   have base:=I4'.base
   have un:Un (frs X.stack) fp H2 H' hp3 s4.heap:=⟨fun b o e n1 hb hx=>kC b o (ltC e) (base.keep b o e n1 hb hx),fun b o e n1 hb hx=>by
     obtain ⟨sl,z⟩:=base.slot b o e n1 hb hx
     exact ⟨sl,kC b _ (ltC e) z⟩,base.free,fun b o e hx=>by
     obtain ⟨o',z⟩:=base.there b o e hx
     exact ⟨o',kC b o' (ltC e) z⟩,base.tups,base.frzs,base.tbls⟩
   exact hfin _ _ H' s4 m (I2.call' (s':=s4) (ch:=fp) I4'.os un I4'.hok I4'.bare (fun b hb=>⟨(f1 b hb).2.2.2.1,(f1 b hb).2.1,(f1 b hb).2.2.2.2.1,(f1 b hb).2.2.2.2.2⟩)) (I2.fpOk (Nat.le_refl _) I4'.free) hn qn
  ·refine thn (T.item (cxC X scope cl (own ++ outs) hp3.objs.size { s2 with heap:=hp3 } H2 fp) rfl rfl rfl hc i [] s' σ' H' _ I' (stat fr') st' go) fun r s4 ⟨u,hr,h4⟩=>?_
   subst hr
   refine thn h4 fun _ s5 ⟨x,H5,I5,r5,y5,st5,fr5⟩=>?_
   have I5':=I5.pinned (stat fr5) (T.obj _ _ st5)
   have back:∀ {σ7:St} {H7:Hp} {s7:Shared},Inv (cxC X scope cl (own ++ outs) hp3.objs.size { s2 with heap:=hp3 } H2 fp) ([] ++ pinsAt fp s5.heap) σ7 H7 s7 -> ∀ m',m' < n -> W (i + 1) m' σ7 H7 ->
     ∃ m,m < n /\ ∃ i σ' H',Inv (cxC X scope cl (own ++ outs) hp3.objs.size { s2 with heap:=hp3 } H2 fp) [] σ' H' s7 /\ tn i s7.heap /\ (∀ b ∈ fp,H' b = none) /\ W i m σ' H':=fun {σ7 H7 s7} I7 m' hm w7=>by
    refine ⟨m',hm,i + 1,σ7,H7,I7.unpinned,T.keep _ _ _ st5 fun b hb o e=>(I7.pin (b,o) (List.mem_append_right _ (List.mem_append_right _ (mem_pinsAt hb e)))).1,fun b hb=>?_,w7⟩
    obtain ⟨o,e,d⟩:=T.obj _ _ st5 b hb
    exact (I7.pin (b,o) (List.mem_append_right _ (List.mem_append_right _ (mem_pinsAt hb e)))).2.1
   refine thn (noE (hg _ s5 σ' H5 x u _ I5' r5 (step x H5 y5))) fun _ s6 ⟨σ6,H6,I6,q6⟩=>?_
   refine thn (noE (hf _ s6 σ6 H6 _ I6 q6)) fun ok s7 ⟨H7,I7,q7⟩=>?_
   cases ok with
   | false =>
    rw [if_neg Bool.false_ne_true] at q7 ⊢
    obtain ⟨m',hm,w7⟩:=hN _ _ q7
    exact back I7 m' hm w7
   | true =>
    rw [if_pos rfl] at q7 ⊢
    refine thn (noE (he _ s7 σ6 H7 _ I7 q7)) fun v s8 ⟨xv,H8,I8,r8,q8⟩=>?_
    obtain ⟨xs,hxs,hz,q8⟩:=q8
    refine thn (noE (mt_append _ s8 σ6 H8 (.ref s2.heap.objs.size) [xv] _ [v] (fun _ H9=>N σ6 H9) I8 rfl (.cons r8 .nil) ⟨_,xs,xv,rfl,rfl,vw_lst hxs,hz,q8 _ (vw_but But.upd) ((vw_new (show X.K.lookup _ = none from I8.noK (vw_lst hxs))).trans upd_same)⟩)) fun _ s9 ⟨_,H9,I9,_,n9⟩=>?_
    obtain ⟨m',hm,w9⟩:=hN _ _ n9
    exact back I9 m' hm w9
 exact codeAny_compStart_list loop (T.self _ 0 _ _ _ (T.keep _ _ _ st1 fun b hb o e=>old b o (old23 b o e)) loop)
theorem pe_comp {tg iter elt:Expr} {ifs:List Expr} {scope:Scope} {pos:Pos} {wi:TI} {g:TG} {tif:TT} {te:TE} {cl:List (Str × Addr)} {own outs:List Str} {ixs:List Nat}
  (hc:X.calm = true) (hi:PI X tg iter wi) (hclos:closureFor scope X.env = pure cl) (S:CompSc X scope cl own outs ixs)
  (hb:∀ C s H ex,PG (cxC X scope cl (own ++ outs) C s H ex) tg g /\ PF (cxC X scope cl (own ++ outs) C s H ex) ifs tif /\ PE (cxC X scope cl (own ++ outs) C s H ex) elt te)
  (hs:∀ x,foldedSetIterable iter X.env x = pure x:=by intro _; rfl) :
  PE X (.ListComp elt [⟨tg,iter,ifs,0⟩] scope pos) (tComp X.K wi own.length ixs g tif te):=by
 intro pins s σ H Q I h
 rw [eval_ListComp]
 refine comp_core (G:=fun _ _ _=>True) hc hi hclos S (fun C s H ex _=>hb C s H ex) hs (fun _ _ _ _ _ _=>trivial) I (fun a H'=>Q (.ref a) H') (fun a C H' s4 m J4 fC hn q=>⟨m,hn,fun h' hsb=>?_⟩) h
 obtain ⟨f0,f1,f2,f3,f4,f5⟩:=fC
 exact ⟨.ref a,H',J4.turned (t':=s4.toks) (fun b o hb e=>hsb.extBut b o hb e) f0 f1 f3 f4 f5,rfl,q⟩
theorem ps_setC {tg iter elt:Expr} {ifs:List Expr} {scope:Scope} {pos spos py:Pos} {y:Str} {i:Nat} {wi:TI} {g:TG} {tif:TT} {te:TE} {cl:List (Str × Addr)} {own outs:List Str} {ixs:List Nat}
  (hN:X.N.Nodup) (hy:X.N[i]? = some y) (hx:Loc X.env.scope y) (hc:X.calm = true) (hi:PI X tg iter wi) (hclos:closureFor scope X.env = pure cl) (S:CompSc X scope cl own outs ixs)
  (hb:∀ C s H ex,PG (cxC X scope cl (own ++ outs) C s H ex) tg g /\ PF (cxC X scope cl (own ++ outs) C s H ex) ifs tif /\ PE (cxC X scope cl (own ++ outs) C s H ex) elt te)
  (hsw:swapsWith (.ListComp elt [⟨tg,iter,ifs,0⟩] scope pos) (some (.Name y py)) spos.line X.env = pure true:=by rfl)
  (hs:∀ x,foldedSetIterable iter X.env x = pure x:=by intro _; rfl) (hf:X.fn y = true \/ X.env.scope.names.lookup y = some .local:=by first | exact .inl rfl | exact .inr rfl | assumption) :
  PS X (.Assign [.Name y py] (.ListComp elt [⟨tg,iter,ifs,0⟩] scope pos) spos) (tAsg (tComp X.K wi own.length ixs g tif te) (gName i)):=by
 intro pins s σ H D I h
 rw [exec_Assign_Name_used _ _ _ _ hsw]
 refine wpAny_bind (wpAny_standAt (wpAny_bind ?_))
 show wpAny _ X.A (do let _ <- comprehension (.ListComp elt [⟨tg,iter,ifs,0⟩] scope pos) scope X.env _ (newList []) false (eval iter X.env) (some (assign (.Name y py) X.env))) _ _ s
 refine wpAny_bind (wpAny_mono (comp_core (use:=some (assign (.Name y py) X.env)) (Qv:=fun _ s'=>SP X pins D .next s') (G:=fun _ _ _=>True) hc hi hclos S (fun C s H ex _=>hb C s H ex) hs (fun _ _ _ _ _ _=>trivial) I (fun a H'=>D.nx (σ.set i (some (.ref a))) H') (fun a C H' s4 m J4 fC hn q=>?_) h) (fun _ s' hq=>wpAny_pure (wpAny_pure hq)) fun _ _ e=>e)
 obtain ⟨f0,f1,f2,f3,f4,f5⟩:=fC
 refine wpAny_assign_Name (store_ok2 J4 hN hy hx (v:=.ref a) rfl (fun s5 I5 hsame=>?_) hf)
 obtain ⟨b,sb,hb'⟩:=hsame
 have nb:C ≠ b:=fun e=>by
  rcases hb' with z | z
  ·exact f1 (e.trans z)
  ·exact f4 _ _ z e.symm
 exact ⟨m,hn.sameBut sb nb,fun h' hsb=>⟨_,H',I5.turned (t':=s5.toks) (fun b o hb e=>hsb.extBut b o hb e) f0 f1 f3 f4 f5,q⟩⟩
end
theorem cxC_K {X:Cx} {scope:Scope} {cl:List (Str × Addr)} {N:List Str} {C:Addr} {s:Shared} {H:Hp} {ex:List Addr}:(cxC X scope cl N C s H ex).K = X.K:=rfl
mutual
def D.py:D -> PyData
 | .non=>.none
 | .bl b=>.bool b
 | .int i=>.int i
 | .str x=>.str x
 | .dict=>.dict []
 | .tup ds=>.tuple (D.pys ds)
 | .lst ds=>.list (D.pys ds)
def D.pys:List D -> List PyData
 | []=>[]
 | d :: ds=>d.py :: D.pys ds
end
def D.cmp (d:D):Prop:=d.py.canLay0 = true /\ d.py.depth <= 30
def peq (d e:D):Bool:=PyData.eqv d.py e.py
section
variable {X:Cx} {pins:List (Addr × Obj)} {σ:St} {H:Hp} {s:Shared}
mutual
theorem Rep.reads (I:Inv X pins σ H s):∀ (d:D) (v:V) (u:Value),Rep (vw X.K H) d v -> RelV v u -> d.py.canLay0 = true -> ∃ as,Reads s.heap u d.py as
 | .non,v,u,h,r,_=>by
  unfold Rep at h; subst h; cases r
  exact ⟨_,by unfold D.py; exact .none⟩
 | .bl b,v,u,h,r,_=>by
  unfold Rep at h; subst h; cases r
  exact ⟨_,by unfold D.py; exact .bool b⟩
 | .int i,v,u,h,r,_=>by
  unfold Rep at h; subst h; obtain ⟨t,rfl⟩:=r
  exact ⟨_,by unfold D.py; exact .int i t⟩
 | .str x,v,u,h,r,_=>by
  unfold Rep at h; subst h; obtain ⟨t,rfl⟩:=r
  exact ⟨_,by unfold D.py; exact .str x t⟩
 | .dict,v,u,h,r,hc=>by
  unfold D.py PyData.canLay0 at hc
  cases hc
 | .tup ds,v,u,h,r,hc=>by
  obtain ⟨a,xs,rfl,ha,rs⟩:=h.tup_at
  cases r
  unfold D.py at hc ⊢
  obtain ⟨its,rv,p,hz⟩:=I.tuple (vw_tup ha)
  obtain ⟨o,h1,h2,n,h3⟩:=p
  obtain ⟨as,ra⟩:=Reps.reads I ds xs its rs rv (by unfold PyData.canLay0 at hc; exact hc)
  exact ⟨_,.tuple h1 h2 h3 (by simpa using ra)⟩
 | .lst ds,v,u,h,r,hc=>by
  obtain ⟨a,xs,rfl,ha,rs⟩:=h.lst_at
  cases r
  unfold D.py at hc ⊢
  obtain ⟨its,rv,p,hz⟩:=I.list (SqL.of (K:=X.K) (vw_lst ha))
  obtain ⟨o,n,h1,h2,h3,h4⟩:=p
  obtain ⟨as,ra⟩:=Reps.reads I ds xs its rs rv (by unfold PyData.canLay0 at hc; exact hc)
  exact ⟨_,.list h1 h2 h4 (by simpa using ra)⟩
theorem Reps.reads (I:Inv X pins σ H s):∀ (ds:List D) (xs:List V) (us:List Value),Reps (vw X.K H) ds xs -> Vals xs us -> PyData.canLayAll0 (D.pys ds) = true -> ∃ as,ReadsAll s.heap us (D.pys ds) as
 | [],xs,us,h,r,_=>by
  cases h.nil_at
  cases r
  exact ⟨_,by unfold D.pys; exact .nil⟩
 | d :: ds,xs,us,h,r,hc=>by
  obtain ⟨x,ys,rfl,h1,h2⟩:=h.cons_at
  cases r with
  | cons r1 r2 =>
   unfold D.pys PyData.canLayAll0 at hc
   rw [Bool.and_eq_true] at hc
   obtain ⟨as,ra⟩:=Rep.reads I d x _ h1 r1 hc.1
   obtain ⟨bs,rb⟩:=Reps.reads I ds ys _ h2 r2 hc.2
   exact ⟨_,by unfold D.pys; exact .cons ra rb⟩
end
end
def rEqD (K:PySem.W.Frag) (neg:Bool):R2:=fun x y H Q=>∃ d e,Rep (vw K H) d x /\ Rep (vw K H) e y /\ d.cmp /\ e.cmp /\ Q (.bl (if neg then !peq d e else peq d e)) H
section
variable {X:Cx}
theorem op_eqD (hu:X.A.units + 64 < cLine):OpR X (compareOp .Eq) (rEqD X.K false):=by
 intro pins s σ H x y v u Q I rx ry h
 obtain ⟨d,e,h1,h2,c1,c2,q⟩:=h
 obtain ⟨as,r1⟩:=Rep.reads I d x v h1 rx c1.1
 obtain ⟨bs,r2⟩:=Rep.reads I e y u h2 ry c2.1
 exact SeqAt.compareEq_reads r1 r2 c1.1 c2.1 (by have:=c1.2; walk_at "o") ⟨.bl _,H,I,rfl,q⟩
theorem op_neD (hu:X.A.units + 64 < cLine):OpR X (compareOp .NotEq) (rEqD X.K true):=by
 intro pins s σ H x y v u Q I rx ry h
 obtain ⟨d,e,h1,h2,c1,c2,q⟩:=h
 obtain ⟨as,r1⟩:=Rep.reads I d x v h1 rx c1.1
 obtain ⟨bs,r2⟩:=Rep.reads I e y u h2 ry c2.1
 exact SeqAt.compareNe_reads r1 r2 c1.1 c2.1 (by have:=c1.2; walk_at "o") ⟨.bl _,H,I,rfl,q⟩
end
def ScrOk (K:PySem.W.Frag) (H:Hp) (a:Addr) (xs:List V):Prop:=(K.lookup a = none /\ Rd H a (.lst xs)) \/
 ∃ (o:Obj) (its:Array Value) (n:Nat),K.lookup a = some o /\ o.cls = .type "list" /\ o.dict = none /\ o.data = .seq its n /\ its.size <= sizeLine /\ Vals xs its.toList
theorem ScrOk.sq {K:PySem.W.Frag} {H:Hp} {a:Addr} {xs:List V} (h:ScrOk K H a xs):SqL K H a xs:=h.imp (fun z=>z.2) fun z=>z
theorem ScrOk.of {K:PySem.W.Frag} {H:Hp} {a:Addr} {xs:List V} (h:SqL K H a xs) (hk:H a ≠ none -> K.lookup a = none):ScrOk K H a xs:=by
 rcases h with h | h
 ·refine .inl ⟨hk ?_,h⟩
  rcases h with h | ⟨o,h⟩ <;> rw [h] <;> simp
 ·exact .inr h
theorem ScrOk.same {K:PySem.W.Frag} {H H':Hp} {a:Addr} {xs:List V} (h:ScrOk K H a xs) (S:Same (vw K H) (vw K H')):ScrOk K H' a xs:=by
 rcases h with ⟨hk,h⟩ | h
 ·refine .inl ⟨hk,?_⟩
  rcases h with h | ⟨o,h⟩
  ·have:=S a _ ((vw_new hk).trans h)
   rw [vw_new hk] at this
   exact .inl this
  ·have:=S a _ ((vw_new hk).trans h)
   rw [vw_new hk] at this
   exact .inr ⟨o,this⟩
 ·exact .inr h
end L2
namespace L2
open PySem PySem.Spec PyProof.Rows
mutual
def D.flat:D -> Bool
 | .lst _=>false
 | .tup ds=>D.flats ds
 | _=>true
def D.flats:List D -> Bool
 | []=>true
 | d :: ds=>d.flat && D.flats ds
end
section
variable {H H':Hp} {l:Addr} {xs:List V}
mutual
theorem Rep.flat_but (hl:H l = some (.lst xs)) (S:But l H H'):∀ (d:D) (v:V),d.flat = true -> Rep H d v -> Rep H' d v
 | .non,v,_,h=>by unfold Rep at h ⊢; exact h
 | .bl b,v,_,h=>by unfold Rep at h ⊢; exact h
 | .int i,v,_,h=>by unfold Rep at h ⊢; exact h
 | .str x,v,_,h=>by unfold Rep at h ⊢; exact h
 | .dict,v,_,h=>by
  unfold Rep at h ⊢
  obtain ⟨a,kvs,rfl,h⟩:=h
  exact ⟨a,kvs,rfl,S _ _ (fun e=>by rw [e,hl] at h; cases h) h⟩
 | .tup ds,v,hf,h=>by
  obtain ⟨a,ys,rfl,h,rs⟩:=h.tup_at
  unfold D.flat at hf
  exact .mk_tup (S _ _ (fun e=>by rw [e,hl] at h; cases h) h) (Reps.flat_but hl S ds ys hf rs)
 | .lst ds,v,hf,h=>by unfold D.flat at hf; cases hf
theorem Reps.flat_but (hl:H l = some (.lst xs)) (S:But l H H'):∀ (ds:List D) (ys:List V),D.flats ds = true -> Reps H ds ys -> Reps H' ds ys
 | [],ys,_,h=>by cases h.nil_at; exact .mk_nil
 | d :: ds,ys,hf,h=>by
  obtain ⟨y,r,rfl,h1,h2⟩:=h.cons_at
  unfold D.flats at hf
  rw [Bool.and_eq_true] at hf
  exact .mk_cons (Rep.flat_but hl S d y hf.1 h1) (Reps.flat_but hl S ds r hf.2 h2)
end
end
theorem fr_flat (q:Int × Int):(fr q).flat = true:=by simp [fr,D.flat,D.flats]
theorem flats_fr:∀ (qs:List (Int × Int)),D.flats (qs.map fr) = true
 | []=>by simp [D.flats]
 | q :: qs=>by
  rw [List.map_cons]
  unfold D.flats
  rw [fr_flat,flats_fr qs]
  rfl
theorem Reps.app {H:Hp}:∀ {ds es:List D} {xs ys:List V},Reps H ds xs -> Reps H es ys -> Reps H (ds ++ es) (xs ++ ys)
 | [],es,xs,ys,h,g=>by cases h.nil_at; exact g
 | d :: ds,es,xs,ys,h,g=>by
  obtain ⟨x,r,rfl,h1,h2⟩:=h.cons_at
  exact .mk_cons h1 (Reps.app h2 g)
theorem Reps.snoc {H:Hp} {ds:List D} {xs:List V} {d:D} {x:V} (h:Reps H ds xs) (g:Rep H d x):Reps H (ds ++ [d]) (xs ++ [x]):=h.app (.mk_cons g .mk_nil)
theorem Reps.at {H:Hp} {ds:List D} {xs:List V} (h:Reps H ds xs) {i:Nat} {d:D} (hd:ds[i]? = some d):∃ x,xs[i]? = some x /\ Rep H d x:=by
 have hi:i < ds.length:=(List.getElem?_eq_some_iff.mp hd).1
 have hi':i < xs.length:=by rw [h.length]; exact hi
 obtain ⟨d',e,r⟩:=h.get (List.getElem?_eq_getElem hi')
 rw [hd] at e
 cases e
 exact ⟨_,List.getElem?_eq_getElem hi',r⟩
theorem Reps.take {H:Hp}:∀ {ds:List D} {xs:List V} (n:Nat),Reps H ds xs -> Reps H (ds.take n) (xs.take n)
 | ds,xs,0,h=>by simp; exact .mk_nil
 | [],xs,n + 1,h=>by cases h.nil_at; exact .mk_nil
 | d :: ds,xs,n + 1,h=>by
  obtain ⟨x,r,rfl,h1,h2⟩:=h.cons_at
  exact .mk_cons h1 (h2.take n)
theorem Reps.drop {H:Hp}:∀ {ds:List D} {xs:List V} (n:Nat),Reps H ds xs -> Reps H (ds.drop n) (xs.drop n)
 | ds,xs,0,h=>h
 | [],xs,n + 1,h=>by cases h.nil_at; exact .mk_nil
 | d :: ds,xs,n + 1,h=>by
  obtain ⟨x,r,rfl,h1,h2⟩:=h.cons_at
  exact h2.drop n
def LsAt (G:Hp) (a:Addr) (qs:List (Int × Int)):Prop:=∃ xs,G a = some (.lst xs) /\ Reps G (qs.map fr) xs
section
variable {G G':Hp} {a l:Addr} {qs:List (Int × Int)} {xs:List V}
theorem LsAt.same (h:LsAt G a qs) (S:Same G G'):LsAt G' a qs:=by
 obtain ⟨ys,h1,h2⟩:=h
 exact ⟨ys,S _ _ h1,h2.same S⟩
theorem LsAt.but (h:LsAt G a qs) (hl:G l = some (.lst xs)) (hn:a ≠ l) (S:But l G G'):LsAt G' a qs:=by
 obtain ⟨ys,h1,h2⟩:=h
 exact ⟨ys,S _ _ hn h1,Reps.flat_but hl S _ _ (flats_fr qs) h2⟩
theorem LsAt.rep (h:LsAt G a qs):Rep G (.lst (qs.map fr)) (.ref a):=by
 obtain ⟨ys,h1,h2⟩:=h
 exact .mk_lst h1 h2
theorem LsAt.len (h:LsAt G a qs):lenH G a = some qs.length:=by
 obtain ⟨ys,h1,h2⟩:=h
 unfold lenH
 rw [h1]
 simp only [h2.length,List.length_map]
theorem LsAt.ne_st {st:Addr} (h:LsAt G a qs) (hst:StOk G st):a ≠ st:=by
 rintro rfl
 obtain ⟨ys,h1,h2⟩:=h
 obtain ⟨x,b,h3,_⟩:=hst
 rw [h1] at h3
 cases h3
 cases qs with
 | nil=>cases h2.nil_at
 | cons q qs =>
  obtain ⟨y,r,e,h4,h5⟩:=Reps.cons_at h2
  cases e
  obtain ⟨c,e,_⟩:=h4.fr_at
  cases e
theorem LsAt.stBut {st:Addr} (h:LsAt G a qs) (hst:StOk G st) (S:But st G G'):LsAt G' a qs:=by
 obtain ⟨x,b,h3,_⟩:=hst
 exact h.but h3 (h.ne_st ⟨x,b,h3,by assumption⟩) S
theorem StOk.but {st:Addr} (h:StOk G st) (hl:G l = some (.lst xs)) (hn:st ≠ l) (S:But l G G'):StOk G' st:=by
 obtain ⟨x,b,h3,h4⟩:=h
 exact ⟨x,b,S _ _ hn h3,h4⟩
end
theorem cxOf_noxK {CX:CXT} {P:Program} {w:World} {K:PySem.W.Frag} {mg:Str -> Option Value} {base:Heap} {N:List Str} {qual:Str} {scope:Scope} {f:Addr} {cd:Value} {A:Around} {outer:List Env} {s:Shared} {H:Hp} {E:XK} :
  (cxOf CX P w K mg base N qual scope f cd A outer s H E).nox.K = K:=rfl
def tCut (t u:TS):TS:=fun D σ H=>∃ R:St -> Hp -> Prop,(∀ σ' H',R σ' H' -> u D σ' H') /\ t { D with nx:=R } σ H
theorem tCut.mk {t u:TS} {D:Ends} {σ:St} {H:Hp} (R:St -> Hp -> Prop) (h1:t { D with nx:=R } σ H) (h2:∀ σ' H',R σ' H' -> u D σ' H'):tCut t u D σ H:=⟨R,h2,h1⟩
theorem pss_cut {X:Cx} {st:Stmt} {rest:List Stmt} {t u:TS} (h1:PS X st t) (h2:PSs X rest u):PSs X (st :: rest) (tCut t u):=by
 rintro pins s σ H D I ⟨R,hR,h⟩
 refine wpAny_execs_cons (thn (h1 pins s σ H { D with nx:=R } I h) fun f s1 q=>?_)
 cases f with
 | next =>
  obtain ⟨σ',H',I',q⟩:=q
  exact h2 pins s1 σ' H' D I' (hR _ _ q)
 | ret v=>exact q
 | brk=>exact q
 | cont=>exact q
def Items (J:It) (H:Hp) (its:List V):Prop:=(∀ i,i < its.length -> J.go i H) /\ (∀ i x H',i < its.length -> J.yld i H x H' -> H' = H /\ its[i]? = some x) /\ J.stop its.length H
def iots (lo:Int) (n:Nat):List V:=(List.range n).map fun (k:Nat)=>V.int (lo + k)
theorem items_range {lo:Int} {n:Nat} {H:Hp}:Items (Itr lo n) H (iots lo n):=by
 refine ⟨fun i hi=>by show i < n; simpa [iots] using hi,fun i x H' hi y=>⟨y.1,?_⟩,by show n <= (iots lo n).length; simp [iots]⟩
 have hi':i < n:=by simpa [iots] using hi
 rw [y.2]
 simp [iots,hi']
theorem items_list {K:PySem.W.Frag} {H:Hp} {a:Addr} {xs:List V} (h:vw K H a = some (.lst xs)):Items (Itl K a) H xs :=
 ⟨fun i hi=>⟨xs,xs[i],.of (vw_lst h),by simp [hi]⟩,fun i x H' _ y=>⟨y.1,y.2 xs (.of (vw_lst h))⟩,⟨xs,.of (vw_lst h),Nat.le_refl _⟩⟩
theorem for_items {J:It} {its:List V} {g:TG} {tb:TS} {D:Ends} {σ:St} {H:Hp} (Pv:Nat -> St -> Hp -> Prop) (hl:∀ i σ H,i <= its.length -> Pv i σ H -> Items J H its) (h0:Pv 0 σ H)
  (hs:∀ i x σ H,i < its.length -> its[i]? = some x -> Pv i σ H -> g x σ H fun σ2 H2=>tb { D with nx:=Pv (i + 1),ct:=Pv (i + 1),bk:=D.nx } σ2 H2) (hd:∀ σ H,Pv its.length σ H -> D.nx σ H):ForOK J g tb D σ H:=by
 refine ⟨fun i m σ H=>m = its.length - i /\ i <= its.length /\ Pv i σ H,⟨its.length,by simp,Nat.zero_le _,h0⟩,?_⟩
 rintro i m σ H ⟨rfl,hi,p⟩
 obtain ⟨q1,q2,q3⟩:=hl i σ H hi p
 by_cases hlt:i < its.length
 ·refine .inr ⟨q1 i hlt,Pv (i + 1),fun σ' H' p'=>⟨its.length - (i + 1),by walk_at "o",rfl,hlt,p'⟩,fun x H' y=>?_⟩
  obtain ⟨e,y2⟩:=q2 i x H' hlt y
  subst e
  exact hs i x σ _ hlt y2 p
 ·have e:i = its.length:=by walk_at "o"
  subst e
  exact .inl ⟨q3,hd σ H p⟩
def CN (K:PySem.W.Frag) (a:Addr) (σr:St) (Pv:List V -> Hp -> Prop):St -> Hp -> Prop:=fun σ H=>(∃ y,σ = y :: σr) /\ ∃ xs,vw K H a = some (.lst xs) /\ Pv xs H
def CEl (K:PySem.W.Frag) (a:Addr) (N:Hp -> Prop):V -> Hp -> Prop:=fun v H4=>∃ xs,vw K H4 a = some (.lst xs) /\ xs.length < sizeLine /\ ∀ H5,But a (vw K H4) (vw K H5) -> vw K H5 a = some (.lst (xs ++ [v])) -> N H5
theorem comp_items {K:PySem.W.Frag} {J:It} {its:List V} {tif:TT} {te:TE} {a:Addr} {x0:Option V} {σr:St} {H0:Hp} {Q:Hp -> Prop} (Pv:Nat -> List V -> Hp -> Prop)
  (hl:∀ i xs H,i <= its.length -> vw K H a = some (.lst xs) -> Pv i xs H -> Items J H its) (ha:vw K H0 a = some (.lst [])) (h0:Pv 0 [] H0)
  (hs:∀ i x xs H,i < its.length -> its[i]? = some x -> vw K H a = some (.lst xs) -> Pv i xs H -> tif (some x :: σr) H fun b H3=>if b = true then te (some x :: σr) H3 (CEl K a (CN K a σr (Pv (i + 1)) (some x :: σr))) else CN K a σr (Pv (i + 1)) (some x :: σr) H3)
  (hd:∀ xs H,vw K H a = some (.lst xs) -> Pv its.length xs H -> Q H):CompOK K J (gName 0) tif te a (x0 :: σr) H0 Q:=by
 refine ⟨fun i m σ H=>m = its.length - i /\ i <= its.length /\ CN K a σr (Pv i) σ H,⟨its.length,by simp,Nat.zero_le _,⟨_,rfl⟩,_,ha,h0⟩,?_⟩
 rintro i m σ H ⟨rfl,hi,⟨y,rfl⟩,xs,hxs,p⟩
 obtain ⟨q1,q2,q3⟩:=hl i xs H hi hxs p
 by_cases hlt:i < its.length
 ·refine .inr ⟨q1 i hlt,CN K a σr (Pv (i + 1)),fun σ' H' p'=>⟨its.length - (i + 1),by walk_at "o",rfl,hlt,p'⟩,fun x H' y=>?_⟩
  obtain ⟨e,y2⟩:=q2 i x H' hlt y
  subst e
  exact hs i x xs _ hlt y2 hxs p
 ·have e:i = its.length:=by walk_at "o"
  subst e
  exact .inl ⟨q3,hd xs H hxs p⟩
theorem CEl.mk {K:PySem.W.Frag} {a:Addr} {σr:St} {Pv:List V -> Hp -> Prop} {x:Option V} {v:V} {H:Hp} {xs:List V} (h:vw K H a = some (.lst xs)) (hz:xs.length < sizeLine)
  (q:∀ H5,But a (vw K H) (vw K H5) -> vw K H5 a = some (.lst (xs ++ [v])) -> Pv (xs ++ [v]) H5):CEl K a (CN K a σr Pv (x :: σr)) v H:=⟨xs,h,hz,fun H5 B h5=>⟨⟨_,rfl⟩,_,h5,q H5 B h5⟩⟩
theorem iots_at {lo:Int} {n i:Nat} {x:V} (h:(iots lo n)[i]? = some x):i < n /\ x = .int (lo + i):=by
 have hi:i < n:=by simpa [iots] using (List.getElem?_eq_some_iff.mp h).1
 simp [iots,hi] at h
 exact ⟨hi,h.symm⟩
theorem iots_len {lo:Int} {n:Nat}:(iots lo n).length = n:=by simp [iots]
theorem sIx_nat {n d:Nat} {k:Nat} (h:k <= n):HT.sIx n d (some (k:Int)) = k:=by
 unfold HT.sIx
 simp only [Int.toNat_natCast]
 rw [if_neg (by walk_at "o")]
 walk_at "o"
theorem cut_to {xs:List V} {k:Nat} (h:k <= xs.length):cutV xs none (some (k:Int)) = xs.take k:=by
 unfold cutV
 rw [sIx_nat h]
 simp [HT.sIx]
theorem cut_from {xs:List V} {k:Nat} (h:k <= xs.length):cutV xs (some (k:Int)) none = xs.drop k:=by
 unfold cutV
 rw [sIx_nat h]
 simp [HT.sIx]
 rw [List.take_of_length_le]
 simp
theorem atI_end {α:Type} {xs:List α} {x:α} (h:xs.getLast? = some x):atI xs (-1) = some x:=by
 obtain ⟨ys,rfl⟩:=List.getLast?_eq_some_iff.mp h
 exact atI_last ys x
def rNil (K:PySem.W.Frag) (neg:Bool):R2:=fun x y H Q=>∃ p q,x = .ref p /\ y = .ref q /\ ∃ xs,vw K H p = some (.lst xs) /\ vw K H q = some (.lst []) /\ Q (.bl (if neg then !xs.isEmpty else xs.isEmpty)) H
section
variable {X:Cx}
theorem op_eqNil (hu:X.A.units < cLine):OpR X (compareOp .Eq) (rNil X.K false):=by
 intro pins s σ H x y v u Q I rx ry h
 obtain ⟨p,q,rfl,rfl,xs,h1,h2,k⟩:=h
 cases rx
 cases ry
 obtain ⟨its,r,⟨o,n,e1,e2,e3,e4⟩,_⟩:=I.list (SqL.of (K:=X.K) (vw_lst h1))
 obtain ⟨its2,r2,⟨o2,n2,f1,f2,f3,f4⟩,_⟩:=I.list (SqL.of (K:=X.K) (vw_lst h2))
 cases r2
 have fin:EP X pins σ Q (.bool xs.isEmpty) s:=⟨.bl _,H,I,rfl,k⟩
 cases xs with
 | nil =>
  cases r
  exact SeqAt.RcAt.lists (e:=fun _=>true) ⟨_,e1,e2,_,e4⟩ ⟨_,f1,f2,_,f4⟩ rfl hu (fun j h1=>absurd h1 (by simp)) _ _ _ _ fin
 | cons x xs =>
  cases r
  exact SeqAt.RcAt.lists_lengths ⟨_,e1,e2,_,e4⟩ ⟨_,f1,f2,_,f4⟩ (by simp) hu _ _ _ _ fin
end
theorem Room.ul {k:Nat} {A:Around} (r:Room k A):A.units < cLine:=by have:=r.un; walk_at "o"
theorem Room.u64 {k:Nat} {A:Around} (r:Room k A):A.units + 64 < cLine:=by have:=r.un; walk_at "o"
theorem peq_fr (p q:Int × Int):peq (fr p) (fr q) = decide (p = q):=by
 unfold peq fr D.py D.pys D.pys D.pys D.py
 simp only [PyData.eqv,PyData.eqvAll]
 rw [Bool.eq_iff_iff]
 simp [Prod.ext_iff]
theorem cmp_fr (q:Int × Int):(fr q).cmp:=by
 unfold D.cmp fr D.py D.pys D.pys D.pys D.py
 exact ⟨rfl,Nat.le_of_ble_eq_true rfl⟩
def GT (K:PySem.W.Frag) (mg:Str -> Option Value) (x:Str) (xs:List V):Prop:=∃ a,mg x = some (.ref a) /\ ∀ H,vw K H a = some (.tup xs)
theorem GT.mk {K:PySem.W.Frag} {mg:Str -> Option Value} {x:Str} {a:Addr} {o:Obj} {xs:List V} (h:mg x = some (.ref a)) (hl:K.lookup a = some o) (hk:kobj o = some (.tup xs)):GT K mg x xs :=
 ⟨a,h,fun H=>by unfold vw; rw [hl]; exact hk⟩
theorem Reps.last {H:Hp} {ds:List D} {xs:List V} (h:Reps H ds xs) {d:D} (hd:ds.getLast? = some d):∃ x,xs.getLast? = some x /\ Rep H d x:=by
 rw [List.getLast?_eq_getElem?] at hd
 obtain ⟨x,e,r⟩:=h.at hd
 rw [<- h.length,<- List.getLast?_eq_getElem?] at e
 exact ⟨x,e,r⟩
theorem rep_pair {H:Hp} {a:Addr} {i j:Int} (h:H a = some (.tup [.int i,.int j])):Rep H (fr (i,j)) (.ref a):=.mk_tup h (.mk_cons (.mk_int _) (.mk_cons (.mk_int _) .mk_nil))
def lastOk (ds:List D):Bool:=match ds.getLast? with
 | some (.tup [.int 0,.int 1])=>false
 | _=>true
def D.poly:D -> Bool
 | .lst ds=>ds.all D.frac && lastOk ds
 | _=>false
theorem lastOk_fr {ds:List D} {q:Int × Int} (h:ds.getLast? = some (fr q)):lastOk ds = !decide (q = (0,1)):=by
 unfold lastOk
 rw [h]
 obtain ⟨a,b⟩:=q
 unfold fr
 simp only [Prod.mk.injEq]
 split
 ·rename_i e
  simp only [Option.some.injEq,D.tup.injEq,List.cons.injEq,D.int.injEq,and_true] at e
  simp [e]
 ·rename_i e
  by_cases h1:a = 0
  ·by_cases h2:b = 1
   ·subst h1 h2
    exact absurd rfl e
   ·simp [h2]
  ·simp [h1]
theorem D.frac_fr {d:D} (h:d.frac = true):∃ q,d = fr q /\ Fq q:=by
 cases d with
 | tup ds =>
  obtain ⟨a,b,rfl,hq⟩:=D.frac_tup h
  exact ⟨(a,b),rfl,hq⟩
 | _=>unfold D.frac at h; cases h
theorem fracs_last {ds:List D} (h:ds.all D.frac = true) (hn:ds ≠ []):∃ q,ds.getLast? = some (fr q) /\ Fq q:=by
 obtain ⟨d,hd⟩:=Option.isSome_iff_exists.mp (by rw [List.getLast?_isSome]; exact hn:ds.getLast?.isSome = true)
 obtain ⟨q,rfl,hq⟩:=D.frac_fr (List.all_eq_true.mp h d (List.mem_of_getLast? hd))
 exact ⟨q,hd,hq⟩
end L2
namespace L2
open PySem PySem.Spec PyProof.Rows
theorem Reps.repl {H:Hp} {d:D} {x:V} (h:Rep H d x):∀ n,Reps H (List.replicate n d) (List.replicate n x)
 | 0=>.mk_nil
 | n + 1=>.mk_cons h (Reps.repl h n)
theorem Same.rfl {H:Hp}:Same H H:=fun _ _ z=>z
section
variable {K:PySem.W.Frag} {σ:St} {H0:Hp} {t u:TE} {ta:TA} {b c:Bool} {m n:Nat}
end
end L2
set_option autoImplicit true
namespace L2
open PySem PySem.Spec PyProof.Rows
structure QE (X:Cx) (e:Expr) (t:TE):Prop where
 h:PE X e t
structure QT (X:Cx) (e:Expr) (t:TT):Prop where
 h:PT X e t
structure QW (X:Cx) (e:Expr) (t:TT):Prop where
 h:PW X e t
structure QA (X:Cx) (e:List Expr) (t:TA):Prop where
 h:PA X e t
structure QS (X:Cx) (e:Stmt) (t:TS):Prop where
 h:PS X e t
structure QSs (X:Cx) (e:List Stmt) (t:TS):Prop where
 h:PSs X e t
structure QG (X:Cx) (e:Expr) (t:TG):Prop where
 h:PG X e t
structure QGs (X:Cx) (e:List Expr) (t:TGs):Prop where
 h:PGs X e t
structure QF (X:Cx) (e:List Expr) (t:TT):Prop where
 h:PF X e t
structure QO (X:Cx) (e:Option Expr) (t:TO):Prop where
 h:PO X e t
structure QI (X:Cx) (tg e:Expr) (t:TI):Prop where
 h:PI X tg e t
section
variable {X:Cx} {pos p p2 apos cpos pos':Pos} {a b e o l:Expr} {es rest:List Expr} {te ta tb to:TE} {tA tB':TT} {st:Stmt} {rest':List Stmt} {lo hi:Option Expr} {id:String}
theorem qe_bl {b j pos}:QE X (.Constant (.bool b) j pos) (tC (.bl b)):=⟨pe_bl ⟩
theorem qe_int {i j pos}:QE X (.Constant (.int i) j pos) (tC (.int i)):=⟨pe_int ⟩
theorem qe_non {j pos}:QE X (.Constant .none j pos) (tC .non):=⟨pe_non ⟩
theorem qe_glob {x:Str} {v:V} {u:Value} {pos:Pos} (hg:Gl X x) (hm:X.mg x = some u) (r:RelV v u) (hd:(x == ("__debug__" : Str)) = false:=by decide):QE X (.Name x pos) (tC v):=⟨pe_glob (hg:=hg) (hm:=hm) (r:=r) (hd:=hd)⟩
theorem qe_bltn {x:Str} {v:V} {u:Value} {pos:Pos} (hg:Gl X x) (hm:X.mg x = none) (hv:bootBuiltins x = some u) (r:RelV v u) (hn:x ≠ "__name__":=by decide) (hd:(x == ("__debug__" : Str)) = false:=by decide):QE X (.Name x pos) (tC v):=⟨pe_bltn (hg:=hg) (hm:=hm) (hv:=hv) (r:=r) (hn:=hn) (hd:=hd)⟩
theorem qe_op {op:Operator} {r:R2} (ho:OpR X (binaryOp op) r) (ha:QE X a ta) (hb:QE X b tb):QE X (.BinOp a op b pos) (tOp r ta tb):=⟨pe_op (ho:=ho) (ha:=ha.h) (hb:=hb.h)⟩
theorem qe_un {op:UnaryOp} {r:V -> Hp -> VK -> Prop} (ho:UnR X (unaryOp op) r) (ha:QE X a ta):QE X (.UnaryOp op a pos) (tUn r ta):=⟨pe_un (ho:=ho) (ha:=ha.h)⟩
theorem qe_not (ha:QE X a ta):QE X (.UnaryOp .Not a pos) (tNotV ta):=⟨pe_not (ha:=ha.h)⟩
theorem qe_and (ha:QE X a ta) (hb:QE X (.BoolOp .And (b :: rest) pos) tb):QE X (.BoolOp .And (a :: b :: rest) pos) (tAndV ta tb):=⟨pe_and (ha:=ha.h) (hb:=hb.h)⟩
theorem qe_or (ha:QE X a ta) (hb:QE X (.BoolOp .Or (b :: rest) pos) tb):QE X (.BoolOp .Or (a :: b :: rest) pos) (tOrV ta tb):=⟨pe_or (ha:=ha.h) (hb:=hb.h)⟩
theorem qe_one {op} {t:TE} (h:QE X a t):QE X (.BoolOp op [a] pos) t:=⟨pe_one (h:=h.h)⟩
theorem qe_cmpR {op:CmpOp} {r:R2} (ho:OpR X (compareOp op) r) (ha:QE X a ta) (hb:QE X b tb) (hm:behindInMarks op b = false):QE X (.Compare a [op] [b] pos) (tOp r ta tb):=⟨pe_cmpR (ho:=ho) (ha:=ha.h) (hb:=hb.h) (hm:=hm)⟩
theorem qe_ifExp {c:Expr} (hc:QT X c tA) (ha:QE X a ta) (hb:QE X b tb):QE X (.IfExp c a b pos) (tIf tA ta tb):=⟨pe_ifExp (hc:=hc.h) (ha:=ha.h) (hb:=hb.h)⟩
theorem qe_tupS {x1} (h:QA X es t):QE X (.Tuple es x1 pos) (tTupS X.K t):=⟨pe_tupS (h:=h.h)⟩
theorem qe_lstS (h:QA X es t):QE X (.List es pos) (tLstS X.K t):=⟨pe_lstS (h:=h.h)⟩
theorem qe_dctS  : QE X (.Dict [] [] pos) (tDctS X.K):=⟨pe_dctS ⟩
theorem qe_slice {r:V -> Option Int -> Option Int -> Hp -> VK -> Prop} (hr:SlR X r) (he:QE X e te) (hl:QO X lo tl) (hu:QO X hi th):QE X (.Subscript e (.Slice lo hi none p2) pos) (tSl r te tl th):=⟨pe_slice (hr:=hr) (he:=he.h) (hl:=hl.h) (hu:=hu.h)⟩
theorem qo_none  : QO X none tNoPart:=⟨po_none ⟩
theorem qo_some (h:QE X e te):QO X (some e) (tPart te):=⟨po_some (h:=h.h)⟩
theorem qe_ix {r:R2} (hr:IxR X r) (ha:QE X a ta) (hb:QE X b tb) (hs:PlainIx b):QE X (.Subscript a b pos) (tOp r ta tb):=⟨pe_ix (hr:=hr) (ha:=ha.h) (hb:=hb.h) (hs:=hs)⟩
theorem qe_cal (C:Cal X.prog X.w X.K X.mg X.base x ps k sp) (hr:Room k X.A) (hg:Gl X x) (ha:QA X (e :: es) t) (hdb:(x == ("__debug__" : Str)) = false:=by decide) (he:starEach (e :: es) X.env = (false,eval e X.env) :: starEach es X.env:=by rfl) (hpl:(backTo pos (starEach es X.env)).any (·.1) = false:=by rfl) :
  QE X (.Call (.Name x p) (e :: es) [] pos) (tCal sp t):=⟨pe_cal (C:=C) (hr:=hr) (hg:=hg) (ha:=ha.h) (hdb:=hdb) (he:=he) (hpl:=hpl)⟩
theorem qe_callB (hc:CallR X (.builtin id) r) (hg:Gl X x) (hm:X.mg x = none) (hv:bootBuiltins x = some (.builtin id)) (ha:QA X (e :: es) t) (hn:x ≠ "__name__":=by decide) (hdb:(x == ("__debug__" : Str)) = false:=by decide) (he:starEach (e :: es) X.env = (false,eval e X.env) :: starEach es X.env:=by rfl) (hpl:(backTo pos (starEach es X.env)).any (·.1) = false:=by rfl):QE X (.Call (.Name x p) (e :: es) [] pos) (tCB r t):=⟨pe_callB (hc:=hc) (hg:=hg) (hm:=hm) (hv:=hv) (ha:=ha.h) (hn:=hn) (hdb:=hdb) (he:=he) (hpl:=hpl)⟩
theorem qe_callTy (hc:CallR X (.type T) r) (hg:Gl X x) (hm:X.mg x = none) (hv:bootBuiltins x = some (.type T)) (ha:QA X (e :: es) t) (hn:x ≠ "__name__":=by decide) (hdb:(x == ("__debug__" : Str)) = false:=by decide) (he:starEach (e :: es) X.env = (false,eval e X.env) :: starEach es X.env:=by rfl) (hpl:(backTo pos (starEach es X.env)).any (·.1) = false:=by rfl):QE X (.Call (.Name x p) (e :: es) [] pos) (tCB r t):=⟨pe_callTy (hc:=hc) (hg:=hg) (hm:=hm) (hv:=hv) (ha:=ha.h) (hn:=hn) (hdb:=hdb) (he:=he) (hpl:=hpl)⟩
theorem qe_bm (pa:PlainAttrs T) (slot:Slot T name id) (hty:typeOf (.builtin id) = pure (.type "method_descriptor")) (hm:MtR X id r) (ho:QE X o to) (ha:QA X (e :: es) t) (hbase:attributeBase o name X.env (eval o X.env) = eval o X.env:=by rfl) (hfew:((backTo cpos (starEach (e :: es) X.env)).all (fun x=>!x.1) && (backToKw cpos (keywordEach [] X.env)).all (fun x=>x.1.isSome)
   && decide ((e :: es).length + ([]:List Keyword).length + (if ([]:List Keyword).isEmpty then 0 else 1) < 30)) = true:=by rfl) (hline:(apos.endLine == cpos.line) = true:=by rfl) (hs:starEach (e :: es) X.env = (false,eval e X.env) :: starEach es X.env:=by rfl) (hplain:(backTo cpos (starEach es X.env)).any (·.1) = false:=by rfl) :
  QE X (.Call (.Attribute o name apos) (e :: es) [] cpos) (tBM X.K T r to t):=⟨pe_bm (pa:=pa) (slot:=slot) (hty:=hty) (hm:=hm) (ho:=ho.h) (ha:=ha.h) (hbase:=hbase) (hfew:=hfew) (hline:=hline) (hs:=hs) (hplain:=hplain)⟩
theorem qe_bm0 (pa:PlainAttrs T) (slot:Slot T name id) (hty:typeOf (.builtin id) = pure (.type "method_descriptor")) (hm:MtR X id r) (ho:QE X o to) (hbase:attributeBase o name X.env (eval o X.env) = eval o X.env:=by rfl) (hline:(apos.endLine == cpos.line) = true:=by rfl):QE X (.Call (.Attribute o name apos) [] [] cpos) (tBM0 X.K T r to):=⟨pe_bm0 (pa:=pa) (slot:=slot) (hty:=hty) (hm:=hm) (ho:=ho.h) (hbase:=hbase) (hline:=hline)⟩
theorem qa_nil  : QA X [] tNil:=⟨pa_nil ⟩
theorem qa_cons (ha:QE X e te) (hr:QA X es t) (hs:starEach (e :: es) X.env = (false,eval e X.env) :: starEach es X.env:=by rfl):QA X (e :: es) (tCons te t):=⟨pa_cons (ha:=ha.h) (hr:=hr.h) (hs:=hs)⟩
theorem qt_cmpR {op:CmpOp} {r:R2} (ho:OpR X (compareOp op) r) (ha:QE X a ta) (hb:QE X b tb) (hm:behindInMarks op b = false):QT X (.Compare a [op] [b] pos) (tTest (tOp r ta tb)):=⟨pt_cmpR (ho:=ho) (ha:=ha.h) (hb:=hb.h) (hm:=hm)⟩
theorem qt_not (ha:QT X a tA):QT X (.UnaryOp .Not a pos) (tNot tA):=⟨pt_not (ha:=ha.h)⟩
theorem QW.pt {X:Cx} {e:Expr} {t:TT} (h:QW X e t):QT X e t:=⟨PW.pt (h:=h.h)⟩
theorem qw_and1 (ha:QT X a tA):QW X (.BoolOp .And [a] pos) tA:=⟨pw_and1 (ha:=ha.h)⟩
theorem qw_and (ha:QT X a tA) (hb:QW X (.BoolOp .And (b :: rest) pos) tB'):QW X (.BoolOp .And (a :: b :: rest) pos) (tAnd tA tB'):=⟨pw_and (ha:=ha.h) (hb:=hb.h)⟩
theorem qw_or1 (ha:QT X a tA):QW X (.BoolOp .Or [a] pos) tA:=⟨pw_or1 (ha:=ha.h)⟩
theorem qw_or (ha:QT X a tA) (hb:QW X (.BoolOp .Or (b :: rest) pos) tB'):QW X (.BoolOp .Or (a :: b :: rest) pos) (tOr tA tB'):=⟨pw_or (ha:=ha.h) (hb:=hb.h)⟩
theorem qt_truth (ha:QE X a ta) (he:∀ whole,isTrue a X.env whole = (do let v <- whole; standAt a.pos; holding [v] (truthy v))) :
  QT X a (fun σ H Q=>ta σ H fun x H'=>∃ k,TruV X.K x H' k /\ Q k H'):=⟨pt_truth (ha:=ha.h) (he:=he)⟩
theorem qt_val {e:Expr} {t:TE} (h:QE X e t) (he:∀ whole,isTrue e X.env whole = (do let v <- whole; standAt e.pos; holding [v] (truthy v)):=by intro _; rfl):QT X e (tB t):=⟨pt_val (h:=h.h) (he:=he)⟩
theorem qg_name {i:Nat} {x:Str} (hN:X.N.Nodup) (hi:X.N[i]? = some x) (hx:Loc X.env.scope x) (hf:X.fn x = true \/ X.env.scope.names.lookup x = some .local:=by first | exact .inl rfl | exact .inr rfl | assumption):QG X (.Name x pos) (gName i):=⟨pg_name (hN:=hN) (hi:=hi) (hx:=hx) (hf:=hf)⟩
theorem qg_tupH {es:List Expr} {k:Nat} {t:TGs} {n:Nat} {pos:Pos} (hc:X.calm = true) (h:QGs X es t) (hn:(assignEach es X.env).length = n:=by rfl) (hst:(assignEach es X.env).findIdx? (·.1) = none:=by rfl):QG X (.Tuple es k pos) (gTupH X.K n t):=⟨pg_tupH (hc:=hc) (h:=h.h) (hn:=hn) (hst:=hst)⟩
theorem qgs_nil  : QGs X [] gNil:=⟨pgs_nil ⟩
theorem qgs_cons {e:Expr} {es:List Expr} {t:TG} {u:TGs} (h1:QG X e t) (h2:QGs X es u) (hs:(assignEach (e :: es) X.env).map (·.2) = assign e X.env :: (assignEach es X.env).map (·.2):=by rfl):QGs X (e :: es) (gCons t u):=⟨pgs_cons (h1:=h1.h) (h2:=h2.h) (hs:=hs)⟩
theorem qg_sub {o i:Expr} {to ti:TE} {t:TSet} (ho:QE X o to) (hi:QE X i ti) (hs:PSet X t) (ha:∀ v,assign (.Subscript o i pos) X.env v = (do
   let ov <- holding [v] (eval o X.env)
   let iv <- holding [v,ov] (eval i X.env)
   standAt pos
   holding [v,ov,iv] (setItem ov iv v)
   release [v,ov,iv] []):=by intro _; rfl):QG X (.Subscript o i pos) (gSub to ti t):=⟨pg_sub (ho:=ho.h) (hi:=hi.h) (hs:=hs) (ha:=ha)⟩
theorem qi_range1 {a:Expr} {ta:TA} {p pos:Pos} (hg:Gl X "range") (hm:X.mg "range" = none) (ha:QA X [a] ta) (hs:starEach [a] X.env = [(false,eval a X.env)]:=by rfl):QI X tg (.Call (.Name "range" p) [a] [] pos) (iRng1 ta):=⟨pi_range1 (hg:=hg) (hm:=hm) (ha:=ha.h) (hs:=hs)⟩
theorem qi_range2 {a b:Expr} {ta:TA} {p pos:Pos} (hg:Gl X "range") (hm:X.mg "range" = none) (ha:QA X [a,b] ta) (hs:starEach [a,b] X.env = [(false,eval a X.env),(false,eval b X.env)]:=by rfl) (hs2:starEach [b] X.env = [(false,eval b X.env)]:=by rfl) :
  QI X tg (.Call (.Name "range" p) [a,b] [] pos) (iRng2 ta):=⟨pi_range2 (hg:=hg) (hm:=hm) (ha:=ha.h) (hs:=hs) (hs2:=hs2)⟩
theorem qi_list {l:Expr} {tl:TE} (hl:QE X l tl):QI X tg l (iList X.K tl):=⟨pi_list (hl:=hl.h)⟩
theorem qs_ret (he:QE X e te):QS X (.Return (some e) pos) (tRet te):=⟨ps_ret (he:=he.h)⟩
theorem qs_expr (he:QE X e te) (hs:swapsWith e none pos.line X.env = pure false:=by rfl):QS X (.Expr e pos) (tDrop te):=⟨ps_expr (he:=he.h) (hs:=hs)⟩
theorem qs_if {c:Expr} {a b:List Stmt} {tc:TT} (hc:QT X c tc) (ha:QSs X a t) (hb:QSs X b u):QS X (.If c a b pos) (tIfS tc t u):=⟨ps_if (hc:=hc.h) (ha:=ha.h) (hb:=hb.h)⟩
theorem qs_while {c:Expr} {body:List Stmt} {tc:TT} {tb:TS} (hp:PassesOwn (model X.prog X.w) X.A X.env X.xe) (hc:QT X c tc) (hb:QSs X body tb):QS X (.While c body [] pos) (tWhile tc tb):=⟨ps_while (hp:=hp) (hc:=hc.h) (hb:=hb.h)⟩
theorem qs_for {iter:Expr} {body:List Stmt} {wi:TI} {g:TG} {tb:TS} {pos:Pos} (hp:PassesOwn (model X.prog X.w) X.A X.env X.xe) (hc:X.calm = true) (hi:QI X tg iter wi) (hg:QG X tg g) (hb:QSs X body tb) (hs:∀ x,foldedSetIterable iter X.env x = pure x:=by intro _; rfl):QS X (.For tg iter body [] pos) (tFor wi g tb):=⟨ps_for (hp:=hp) (hc:=hc) (hi:=hi.h) (hg:=hg.h) (hb:=hb.h) (hs:=hs)⟩
theorem qs_set {i:Nat} {x:Str} {e:Expr} {te:TE} {pos':Pos} (hN:X.N.Nodup) (hi:X.N[i]? = some x) (hx:Loc X.env.scope x) (he:QE X e te) (hs:swapsWith e (some (.Name x pos')) pos.line X.env = pure false:=by rfl) (hf:X.fn x = true \/ X.env.scope.names.lookup x = some .local:=by first | exact .inl rfl | exact .inr rfl | assumption) :
  QS X (.Assign [.Name x pos'] e pos) (tAsg te (gName i)):=⟨ps_set (hN:=hN) (hi:=hi) (hx:=hx) (he:=he.h) (hs:=hs) (hf:=hf)⟩
theorem qs_par {i j:Nat} {x y:Str} {a b:Expr} {ta:TA} {px py pt:Pos} {kt k2 pt2} (hc:X.calm = true) (hN:X.N.Nodup) (hi:X.N[i]? = some x) (hj:X.N[j]? = some y) (hij:i ≠ j) (hx:X.env.scope.names.lookup x = some .local) (hy:X.env.scope.names.lookup y = some .local) (ha:QA X [a,b] ta) (hw:swappedStores [.Tuple [.Name x px,.Name y py] kt pt] (.Tuple [a,b] k2 pt2) X.env = pure (some [x,y])) (hs:swapsWithSole [.Tuple [.Name x px,.Name y py] kt pt] (.Tuple [a,b] k2 pt2) pos.line X.env = pure false:=by rfl) :
  QS X (.Assign [.Tuple [.Name x px,.Name y py] kt pt] (.Tuple [a,b] k2 pt2) pos) (tPar i j ta):=⟨ps_par (hc:=hc) (hN:=hN) (hi:=hi) (hj:=hj) (hij:=hij) (hx:=hx) (hy:=hy) (ha:=ha.h) (hw:=hw) (hs:=hs)⟩
theorem qs_asg {tg e:Expr} {te:TE} {g:TG} (he:QE X e te) (hg:QG X tg g) (hs:swapsWithSole [tg] e pos.line X.env = pure false:=by rfl) (hw:swappedStores [tg] e X.env = pure none:=by rfl) (h1:(assignEach [tg] X.env).map (·.2) = [assign tg X.env]:=by rfl):QS X (.Assign [tg] e pos) (tAsg te g):=⟨ps_asg (he:=he.h) (hg:=hg.h) (hs:=hs) (hw:=hw) (h1:=h1)⟩
theorem qs_aug {i:Nat} {x:Str} {e:Expr} {te:TE} {op:Operator} {ti:TIp} {pos':Pos} (hN:X.N.Nodup) (hi:X.N[i]? = some x) (hx:Loc X.env.scope x) (he:QE X e te) (ho:PIp X op ti) (hf:X.fn x = true \/ X.env.scope.names.lookup x = some .local:=by first | exact .inl rfl | exact .inr rfl | assumption) :
  QS X (.AugAssign (.Name x pos') op e pos) (tAug i te ti):=⟨ps_aug (hN:=hN) (hi:=hi) (hx:=hx) (he:=he.h) (ho:=ho) (hf:=hf)⟩
theorem qs_augS {o i e:Expr} {to ti te:TE} {tget:V -> V -> Hp -> VK -> Prop} {tip:TIp} {tset:TSet} {op:Operator} {tpos:Pos} (ho:QE X o to) (hi:QE X i ti) (hg:PGet X tget) (he:QE X e te) (hp:PIp X op tip) (hs:PSet X tset) (ha:∀ ov iv new,augStore i ov iv new = (do holding [new,ov,iv] (setItem ov iv new); release [new,ov,iv] []; pure .next):=by intros; rfl):QS X (.AugAssign (.Subscript o i tpos) op e pos) (tAugS to ti te tget tip tset):=⟨ps_augS (ho:=ho.h) (hi:=hi.h) (hg:=hg) (he:=he.h) (hp:=hp) (hs:=hs) (ha:=ha)⟩
theorem qss_nil  : QSs X [] tNext:=⟨pss_nil ⟩
theorem qss_one (h1:QS X st t):QSs X [st] t:=⟨pss_one (h1:=h1.h)⟩
theorem qss_cons (h1:QS X st t) (h2:QSs X rest' u):QSs X (st :: rest') (tSeq t u):=⟨pss_cons (h1:=h1.h) (h2:=h2.h)⟩
theorem qss_cut {X:Cx} {st:Stmt} {rest':List Stmt} {t u:TS} (h1:QS X st t) (h2:QSs X rest' u):QSs X (st :: rest') (tCut t u):=⟨pss_cut (h1:=h1.h) (h2:=h2.h)⟩
theorem qf_nil {X:Cx}:QF X [] tYes:=⟨pf_nil ⟩
theorem qv (i:Nat) {x:Str} {pos:Pos} (hN:X.N[i]? = some x:=by rfl) (hv:Vis X.env.scope x:=by first | exact Or.inl rfl | exact Or.inr (Or.inl rfl) | exact Or.inr (Or.inr rfl)) (hd:(x == ("__debug__" : Str)) = false:=by decide) (hcd:(x == ("__classdict__" : Str)) = false:=by decide):QE X (.Name x pos) (tVar i):=⟨pv (i:=i) (hN:=hN) (hv:=hv) (hd:=hd) (hcd:=hcd)⟩
theorem qe_comp {tg iter elt:Expr} {ifs:List Expr} {scope:Scope} {wi:TI} {g:TG} {tif:TT} {te:TE} {cl:List (Str × Addr)} {own outs:List Str} {ixs:List Nat}
  (hc:X.calm = true) (hi:QI X tg iter wi) (hclos:closureFor scope X.env = pure cl) (S:CompSc X scope cl own outs ixs)
  (hb:∀ C s H ex,QG (cxC X scope cl (own ++ outs) C s H ex) tg g /\ QF (cxC X scope cl (own ++ outs) C s H ex) ifs tif /\ QE (cxC X scope cl (own ++ outs) C s H ex) elt te)
  (hs:∀ x,foldedSetIterable iter X.env x = pure x:=by intro _; rfl):QE X (.ListComp elt [⟨tg,iter,ifs,0⟩] scope pos) (tComp X.K wi own.length ixs g tif te) :=
 ⟨pe_comp hc hi.h hclos S (fun C s H ex=>⟨(hb C s H ex).1.h,(hb C s H ex).2.1.h,(hb C s H ex).2.2.h⟩) hs⟩
theorem qs_setC {tg iter elt:Expr} {ifs:List Expr} {scope:Scope} {spos py:Pos} {y:Str} {i:Nat} {wi:TI} {g:TG} {tif:TT} {te:TE} {cl:List (Str × Addr)} {own outs:List Str} {ixs:List Nat}
  (hN:X.N.Nodup) (hy:X.N[i]? = some y) (hx:Loc X.env.scope y) (hc:X.calm = true) (hi:QI X tg iter wi) (hclos:closureFor scope X.env = pure cl) (S:CompSc X scope cl own outs ixs)
  (hb:∀ C s H ex,QG (cxC X scope cl (own ++ outs) C s H ex) tg g /\ QF (cxC X scope cl (own ++ outs) C s H ex) ifs tif /\ QE (cxC X scope cl (own ++ outs) C s H ex) elt te)
  (hsw:swapsWith (.ListComp elt [⟨tg,iter,ifs,0⟩] scope pos) (some (.Name y py)) spos.line X.env = pure true:=by rfl)
  (hs:∀ x,foldedSetIterable iter X.env x = pure x:=by intro _; rfl) (hf:X.fn y = true \/ X.env.scope.names.lookup y = some .local:=by first | exact .inl rfl | exact .inr rfl | assumption) :
  QS X (.Assign [.Name y py] (.ListComp elt [⟨tg,iter,ifs,0⟩] scope pos) spos) (tAsg (tComp X.K wi own.length ixs g tif te) (gName i)) :=
 ⟨ps_setC hN hy hx hc hi.h hclos S (fun C s H ex=>⟨(hb C s H ex).1.h,(hb C s H ex).2.1.h,(hb C s H ex).2.2.h⟩) hsw hs hf⟩
end
section
variable {P:Program} {w:World} {K:PySem.W.Frag} {mg:Str -> Option Value} {base:Heap}
theorem Fun.okQ {x qual:Str} {st:Stmt} {f:Addr} {fd:FuncData} {N ps:List Str} {k:Nat} {sp:Sp} (F:Fun K x qual st f fd) (S:FnScope N ps (defScope st)) (len:∀ vs H Q E,sp vs H Q E -> vs.length = ps.length)
  (hbody:∀ (cdv:Value) (A:Around) (outer:List Env) (s:Shared) (H:Hp) (vs:List V) (Q:VK) (E:XK),Room k (A.deeper (envOfC qual (defScope st) s.heap.objs.size f cdv)) -> sp vs H Q E ->
   ∃ t,QSs (cxOf CX0 P w K mg base N qual (defScope st) f cdv A outer s H E).nox (defBody st) t /\ t { nx:=fun _ H'=>Q .non H',rt:=Q } (start N vs) H):FnOk P w K mg base CX0 (k + 1) f fd ps sp :=
 F.ok S len fun cdv A outer s H vs Q E hr h=>(hbody cdv A outer s H vs Q E hr h).imp fun t z=>⟨z.1.h,z.2⟩
end
end L2
namespace L2
open PySem PySem.Spec PyProof.Rows
section
variable {X:Cx} {pins:List (Addr × Obj)} {σ:St} {H:Hp} {s:Shared} {h':Heap}
theorem Inv.turnT {t':Nat} {ch:List Addr} {T:Addr} {xs:List V} {its:List Value} (I:Inv X pins σ H s) (k:∀ b o,b ∉ ch -> s.heap.get? b = some o -> h'.get? b = some o) (hf:∀ b ∈ ch,FpOk X pins H b)
  (hT:s.heap.objs.size <= T) (hz:xs.length <= sizeLine) (rv:Vals xs its) (ht:IsTup h' T its.toArray):Inv X pins σ (upd H T (.tup xs)) { s with heap:=h',toks:=t' }:=by
 have hn:H T = none:=I.hok.fresh hT
 have nT:∀ b o,s.heap.get? b = some o -> b ≠ T:=fun b o e=>Nat.ne_of_lt (Nat.lt_of_lt_of_le (Heap.lt_size e) hT)
 refine I.step (g':=s.gens) (d':=s.drawn) (ch:=ch) (fun b hb=>?_) (fun b o _ _ hc e _=>k b o hc e) (fun b o _ _ hc e _=>⟨o.slots,k b o hc e⟩) (fun b o _ e n=>?_)
  (fun b o hc e=>⟨o,k b o hc e⟩) (fun b ys e=>?_) (fun b o u e=>?_) (fun b ps e=>⟨#[],?_⟩) (fun m hm=>?_) (fun b u e=>?_) I.bare
 ·obtain ⟨_,f1,_,f3,f4,f5⟩:=hf b hb
  exact ⟨f3,f1,f4,f5⟩
 ·rw [upd_ne (nT b o e)]
  exact n
 ·rw [upd_ne (ne_of_none e hn)]
  exact e
 ·rw [upd_ne (ne_of_none e hn)]
  exact e
 ·rw [upd_ne (ne_of_none e hn),e]
  simp
 ·obtain ⟨o,es,ep,ho,r⟩:=hm
  exact ⟨o,es,ep,k _ o (fun z=>(hf _ z).2.1 rfl) ho,r⟩
 ·by_cases hb:b = T
  ·subst hb
   rw [upd_same] at e
   cases e
   exact ⟨hz,its,rv,ht⟩
  ·rw [upd_ne hb] at e
   have nch:∀ c v,H c = some v -> c ∉ ch:=fun c v z hc=>by
    rw [(hf c hc).1] at z
    cases z
   refine (I.hok b u e).stay (fun c v hc q=>k c v ?_ q) (fun c q=>?_) fun c ys q=>?_
   ·rcases hc with z | z
    ·rw [z]
     exact nch b u e
    ·exact nch c _ z
   ·rw [upd_ne (ne_of_none q hn)]
    exact q
   ·rw [upd_ne (ne_of_none q hn)]
    exact q
end
def ItP (K:PySem.W.Frag) (R:Hp -> List (List V) -> Prop):It :=
 ⟨fun i H=>∃ ys t,R H ys /\ ys[i]? = some t,fun i H x H'=>∃ p t,x = .ref p /\ vw K H p = none /\ Same (vw K H) (vw K H') /\ vw K H' p = some (.tup t) /\ ∀ ys,R H ys -> ys[i]? = some t,fun i H=>∃ ys,R H ys /\ ys.length = i⟩
def enumR (K:PySem.W.Frag) (a:Addr):Hp -> List (List V) -> Prop:=fun H ys=>∃ xs,H a = some (.lst xs) /\ ys = xs.mapIdx fun i x=>[V.int i,x]
theorem turn_enum {P:Program} {w:World} {K:PySem.W.Frag} {elts:List Expr} {x1:Nat} {pos:Pos} (a e it:Addr) (hne:e ≠ it) (ha:a ≠ e) (ha2:a ≠ it) :
  Turn P w K (.Tuple elts x1 pos) (ItP K (enumR K a)) [e,it] e (fun i h=>(∃ old,IsEnum h e it (i:Int) old) /\ h.IsListIter it a i) where
 mem:=by simp
 obj:=fun i h st b hb=>by
  obtain ⟨⟨old,h1⟩,o,h2,c,d⟩:=st
  simp only [List.mem_cons,List.not_mem_nil,or_false] at hb
  rcases hb with rfl | rfl
  ·exact ⟨_,h1,fun v z=>by cases z⟩
  ·exact ⟨o,h2,fun v z=>by rw [d] at z; cases z⟩
 keep:=fun i h h' st k=>by
  obtain ⟨⟨old,h1⟩,h2⟩:=st
  exact ⟨⟨old,k e (by simp) _ h1⟩,h2.at fun o z=>k it (by simp) o z⟩
 item:=by
  intro X hP hw hK hc i pins s σ H E I hf st hg
  subst hP hw hK
  obtain ⟨⟨old,h1⟩,h2⟩:=st
  obtain ⟨ys,t,⟨xs,hxs,rfl⟩,ht⟩:=hg
  rw [List.getElem?_mapIdx] at ht
  cases hx:xs[i]? with
  | none=>rw [hx] at ht; cases ht
  | some x =>
   rw [hx] at ht
   cases ht
   obtain ⟨its,rv,p,hz⟩:=I.list (SqL.of (K:=X.K) hxs)
   obtain ⟨u,hu,ru⟩:=rv.get hx
   refine wpAny_pyNext_enum_item h1 h2 p.isList (x:=u) (by simpa using hu) hne fun h3 heo hit ht3 hz3 hk3=>⟨_,rfl,?_⟩
   refine wpAny_letOwnedTupleGo_enum (s:={ s with heap:=h3,toks:=s.toks + 1 }) heo fun h4 he4 hs4=>?_
   have hes:e < s.heap.objs.size:=Heap.lt_size h1
   have ht4:=hs4.extBut _ _ (Nat.ne_of_gt hes) ht3
   have k4:∀ b o,b ∉ [e,it] -> s.heap.get? b = some o -> h4.get? b = some o:=fun b o hb z=>by
    simp only [List.mem_cons,List.not_mem_nil,or_false,not_or] at hb
    exact hs4.extBut _ _ hb.1 (hk3 b o hb.1 hb.2 z)
   have I4:Inv X pins σ (upd H s.heap.objs.size (.tup [.int i,x])) { s with heap:=h4,toks:=s.toks + 1 } :=
    I.turnT (its:=[.int i s.toks,u]) k4 hf (Nat.le_refl _) (show 2 <= sizeLine by decide) (.cons ⟨_,rfl⟩ (.cons ru .nil)) ⟨_,ht4,rfl,_,rfl⟩
   have fr:=I.hok.fresh (Nat.le_refl s.heap.objs.size)
   have nk:=I.newK (Nat.le_refl s.heap.objs.size)
   refine ⟨.ref s.heap.objs.size,_,I4,rfl,⟨_,_,rfl,by rw [vw_new nk]; exact fr,vw_same (Same.upd fr),by rw [vw_new nk]; exact upd_same,?_⟩,⟨⟨_,he4⟩,hit.extBut hs4.extBut hne.symm⟩,fun b hb=>?_⟩
   ·rintro ys ⟨zs,hzs,rfl⟩
    rw [hxs] at hzs
    cases hzs
    rw [List.getElem?_mapIdx,hx]
    rfl
   ·have:b < s.heap.objs.size:=by
     simp only [List.mem_cons,List.not_mem_nil,or_false] at hb
     rcases hb with rfl | rfl
     ·exact hes
     ·obtain ⟨_,z,_⟩:=h2
      exact Heap.lt_size z
    rw [upd_ne (Nat.ne_of_lt this)]
    exact (hf b hb).1
 done:=by
  intro X hP hw hK hc i pins s σ H E I hf st hg
  subst hP hw hK
  obtain ⟨⟨old,h1⟩,h2⟩:=st
  obtain ⟨ys,⟨xs,hxs,rfl⟩,hl⟩:=hg
  obtain ⟨its,rv,p,hz⟩:=I.list (SqL.of (K:=X.K) hxs)
  have hl':=rv.length
  rw [List.length_mapIdx] at hl
  obtain ⟨f0,f1,f2,f3,f4,f5⟩:=hf it (by simp)
  exact wpAny_pyNext_enum_end (I.ok.hd hc) h1 h2 p.isList (by simp; walk_at "o") fun h' eb=>⟨rfl,I.turned (t':=s.toks) (fun b o hb z=>eb b o hb z) f0 f1 f3 f4 f5⟩
 self:=fun _ _ _ _ _ st h=>by
  obtain ⟨⟨old,h1⟩,_⟩:=st
  exact wpAny_pyIter_enum h1 h
def iEnum (K:PySem.W.Frag) (ta:TA):TI:=fun σ H R=>ta σ H fun vs H1=>∃ a,vs = [.ref a] /\ (∃ xs,vw K H1 a = some (.lst xs)) /\ R (ItP K (enumR K a)) H1
theorem pi_enum {X:Cx} {elts:List Expr} {x1:Nat} {tp p pos:Pos} {a:Expr} {ta:TA} (hg:Gl X "enumerate") (hm:X.mg "enumerate" = none) (ha:PA X [a] ta) (hs:starEach [a] X.env = [(false,eval a X.env)]:=by rfl) :
  PI X (.Tuple elts x1 tp) (.Call (.Name "enumerate" p) [a] [] pos) (iEnum X.K ta):=by
 intro pins s σ H R I h
 refine Call_ (ld_blt I hg hm bt_enumerate (PyProof.Rows.callWith_type1 (thn (ha pos pins s σ H _ I h) fun us s1 ⟨vs,H1,I1,r1,q1⟩=>?_) hs rfl))
 obtain ⟨b,e,⟨xs,hx⟩,q⟩:=q1
 subst e
 cases r1 with
 | cons r rr =>
  cases rr
  cases r
  have hx':=vw_lst hx
  obtain ⟨hz,its,n,rv,ho⟩:=I1.hok b _ hx'
  refine call_enumerate_1 ho fun h2 he hit hsz hk=>?_
  refine wpAny_pyIter_enum (s:={ s1 with heap:=h2 }) he ?_
  have hb:b < s1.heap.objs.size:=Heap.lt_size ho
  refine ⟨_,[s1.heap.objs.size + 1,s1.heap.objs.size],_,_,H1,rfl,I1.kept (t':=s1.toks) hk,turn_enum b _ _ (Nat.ne_of_gt (Nat.lt_succ_self _)) (Nat.ne_of_lt (Nat.lt_succ_of_lt hb)) (Nat.ne_of_lt hb),⟨⟨_,he⟩,hit⟩,fun c hc=>?_,q⟩
  have hc':s1.heap.objs.size <= c:=by
   simp only [List.mem_cons,List.not_mem_nil,or_false] at hc
   rcases hc with z | z
   ·rw [z]
    exact Nat.le_succ _
   ·rw [z]
    exact Nat.le_refl _
  exact I1.fpOk hc' (I1.hok.fresh hc')
theorem for_rows {K:PySem.W.Frag} {R:Hp -> List (List V) -> Prop} {rows:List (List V)} {g:TG} {tb:TS} {D:Ends} {σ:St} {H:Hp} (Pv:Nat -> St -> Hp -> Prop) (hl:∀ i σ H,i <= rows.length -> Pv i σ H -> R H rows) (h0:Pv 0 σ H)
  (hs:∀ i t σ H p H',i < rows.length -> rows[i]? = some t -> Pv i σ H -> vw K H p = none -> Same (vw K H) (vw K H') -> vw K H' p = some (.tup t) -> g (.ref p) σ H' fun σ2 H2=>tb { D with nx:=Pv (i + 1),ct:=Pv (i + 1),bk:=D.nx } σ2 H2)
  (hd:∀ σ H,Pv rows.length σ H -> D.nx σ H):ForOK (ItP K R) g tb D σ H:=by
 refine ⟨fun i m σ H=>m = rows.length - i /\ i <= rows.length /\ Pv i σ H,⟨rows.length,by simp,Nat.zero_le _,h0⟩,?_⟩
 rintro i m σ H ⟨rfl,hi,p⟩
 have q:=hl i σ H hi p
 by_cases hlt:i < rows.length
 ·refine .inr ⟨⟨rows,rows[i],q,by simp [hlt]⟩,Pv (i + 1),fun σ' H' p'=>⟨rows.length - (i + 1),by walk_at "o",rfl,hlt,p'⟩,fun x H' y=>?_⟩
  obtain ⟨a,t,rfl,y1,y2,y3,y4⟩:=y
  exact hs i t σ H a H' hlt (y4 rows q) p y1 y2 y3
 ·have e:i = rows.length:=by walk_at "o"
  subst e
  exact .inl ⟨⟨rows,q,rfl⟩,hd σ H p⟩
theorem qi_enum {X:Cx} {elts:List Expr} {x1:Nat} {tp p pos:Pos} {a:Expr} {ta:TA} (hg:Gl X "enumerate") (hm:X.mg "enumerate" = none) (ha:QA X [a] ta) (hs:starEach [a] X.env = [(false,eval a X.env)]:=by rfl) :
  QI X (.Tuple elts x1 tp) (.Call (.Name "enumerate" p) [a] [] pos) (iEnum X.K ta):=⟨pi_enum hg hm ha.h hs⟩
end L2
namespace L2
open PySem PySem.Spec PyProof.Rows
def Bq (n:Nat) (q:Int × Int):Prop:=Bt n q.1 /\ Bt n q.2
theorem Bq.mono {m n:Nat} {q:Int × Int} (h:Bq m q) (hl:m <= n):Bq n q:=⟨h.1.mono hl,h.2.mono hl⟩
def ltq (p q:Int × Int):Bool:=decide (p.1 * q.2 < q.1 * p.2)
def addq (p q:Int × Int):Int × Int:=lo (p.1 * q.2 + q.1 * p.2) (p.2 * q.2)
theorem lg_pos {a b:Int} (hb:0 < b):0 < lg a b:=by
 unfold lg
 rw [if_neg (by walk_at "o")]
 have:Int.gcd a b ≠ 0:=fun e=>by
  have:=(Int.gcd_eq_zero_iff.mp e).2
  walk_at "o"
 walk_at "o"
theorem bt_lo {a b:Int} {n:Nat} (hb:b ≠ 0) (h1:Bt n a) (h2:Bt n b):Bq n (lo a b):=by
 have e1:=lo_mul_left (a:=a) hb
 have e2:=lo_mul_right (a:=a) hb
 have hl:0 < (lg a b).natAbs:=by have:=lg_ne (a:=a) hb; walk_at "o"
 constructor
 ·unfold Bt at *
  have:=Int.natAbs_mul (lo a b).1 (lg a b)
  rw [e1] at this
  have:=Nat.le_mul_of_pos_right (lo a b).1.natAbs hl
  walk_at "o"
 ·unfold Bt at *
  have:=Int.natAbs_mul (lo a b).2 (lg a b)
  rw [e2] at this
  have:=Nat.le_mul_of_pos_right (lo a b).2.natAbs hl
  walk_at "o"
theorem addq_Fq {p q:Int × Int} (hp:Fq p) (hq:Fq q):Fq (addq p q):=lo_Fq (by have:=Int.mul_pos hp.1 hq.1; walk_at "o")
theorem addq_lt {p q:Int × Int} (hp:Fq p) (hq:Fq q) (h0:0 < q.1):ltq p (addq p q) = true:=by
 have hd:0 < p.2 * q.2:=Int.mul_pos hp.1 hq.1
 have hb:p.2 * q.2 ≠ 0:=by walk_at "o"
 have e1:=lo_mul_left (a:=p.1 * q.2 + q.1 * p.2) hb
 have e2:=lo_mul_right (a:=p.1 * q.2 + q.1 * p.2) hb
 have hg:=lg_pos (a:=p.1 * q.2 + q.1 * p.2) hd
 unfold ltq addq
 generalize lo (p.1 * q.2 + q.1 * p.2) (p.2 * q.2) = r at *
 generalize lg (p.1 * q.2 + q.1 * p.2) (p.2 * q.2) = g at *
 apply decide_eq_true
 apply Int.lt_of_mul_lt_mul_right _ (Int.le_of_lt hg)
 have z1:p.1 * r.2 * g = p.1 * (p.2 * q.2):=by rw [Int.mul_assoc,e2]
 have z2:r.1 * p.2 * g = (p.1 * q.2 + q.1 * p.2) * p.2:=by rw [<- e1]; rw [Int.mul_right_comm]
 rw [z1,z2]
 have hq2:0 < q.1 * p.2 * p.2:=Int.mul_pos (Int.mul_pos h0 hp.1) hp.1
 have z3:(p.1 * q.2 + q.1 * p.2) * p.2 = p.1 * (p.2 * q.2) + q.1 * p.2 * p.2:=by
  rw [Int.add_mul,Int.mul_assoc p.1 q.2 p.2,Int.mul_comm q.2 p.2]
 walk_at "o"
theorem addq_Bq {p q:Int × Int} {m n:Nat} (hp:Fq p) (hq:Fq q) (h1:Bq m p) (h2:Bq n q):Bq (m + n + 1) (addq p q):=by
 refine bt_lo (by have:=Int.mul_pos hp.1 hq.1; walk_at "o") ?_ ?_
 ·have:=(h1.1.mul h2.2).add (h2.1.mul h1.2)
  exact this.mono (by walk_at "o")
 ·exact (h1.2.mul h2.2).mono (by walk_at "o")
def FlAt (G:Hp) (a:Addr) (ds:List D):Prop:=∃ xs,G a = some (.lst xs) /\ Reps G ds xs
section
variable {G G':Hp} {a l:Addr} {ds:List D} {xs:List V}
theorem FlAt.same (h:FlAt G a ds) (S:Same G G'):FlAt G' a ds:=by
 obtain ⟨ys,h1,h2⟩:=h
 exact ⟨ys,S _ _ h1,h2.same S⟩
theorem FlAt.but (h:FlAt G a ds) (hf:D.flats ds = true) (hl:G l = some (.lst xs)) (hn:a ≠ l) (S:But l G G'):FlAt G' a ds:=by
 obtain ⟨ys,h1,h2⟩:=h
 exact ⟨ys,S _ _ hn h1,Reps.flat_but hl S _ _ hf h2⟩
theorem FlAt.len (h:FlAt G a ds):lenH G a = some ds.length:=by
 obtain ⟨ys,h1,h2⟩:=h
 unfold lenH
 rw [h1]
 simp only [h2.length]
theorem FlAt.ne_st {st:Addr} (h:FlAt G a ds) (hd:∀ i b,ds ≠ [.int i,.bl b]) (hst:StOk G st):a ≠ st:=by
 rintro rfl
 obtain ⟨ys,h1,h2⟩:=h
 obtain ⟨x,b,h3,_⟩:=hst
 rw [h1] at h3
 cases h3
 exact hd _ _ (Rep.lst_st h2)
theorem FlAt.stBut {st:Addr} (h:FlAt G a ds) (hf:D.flats ds = true) (hd:∀ i b,ds ≠ [.int i,.bl b]) (hst:StOk G st) (S:But st G G'):FlAt G' a ds:=by
 obtain ⟨x,b,h3,h4⟩:=id hst
 exact h.but hf h3 (h.ne_st hd hst) S
end
theorem ty_lst {K:PySem.W.Frag} {H:Hp} {p:Addr} {xs:List V} (h:vw K H p = some (.lst xs)):tyV K "list" (.ref p) H:=.inl ⟨rfl,xs,.of (vw_lst h)⟩
theorem FlAt.ty {K:PySem.W.Frag} {H:Hp} {p:Addr} {ds:List D} (h:FlAt (vw K H) p ds):tyV K "list" (.ref p) H:=by
 obtain ⟨xs,h,_⟩:=h
 exact ty_lst h
abbrev Spt:=(Int × Int) × (Int × Int)
def spt (c:Spt):D:=.tup [fr c.1,fr c.2]
theorem spt_flats:∀ (cs:List Spt),D.flats (cs.map spt) = true
 | []=>by simp [D.flats]
 | c :: cs=>by
  rw [List.map_cons]
  unfold D.flats
  rw [spt_flats cs]
  simp [spt,D.flat,D.flats,fr_flat]
theorem spt_no (cs:List Spt):∀ i b,cs.map spt ≠ [.int i,.bl b]:=fun i b e=>by
 cases cs with
 | nil=>cases e
 | cons c cs =>
  rw [List.map_cons] at e
  have:=(List.cons.inj e).1
  unfold spt at this
  cases this
theorem Rep.spt_at {H:Hp} {c:Spt} {v:V} (h:Rep H (spt c) v):∃ a x y,v = .ref a /\ H a = some (.tup [x,y]) /\ Rep H (fr c.1) x /\ Rep H (fr c.2) y:=by
 obtain ⟨a,xs,rfl,ha,r⟩:=h.tup_at
 obtain ⟨d1,d2,x1,x2,e1,rfl,r1,r2⟩:=r.pair (by rw [r.length]; rfl)
 cases e1
 exact ⟨a,x1,x2,rfl,ha,r1,r2⟩
theorem Rep.mk_spt {H:Hp} {c:Spt} {a:Addr} {x y:V} (h:H a = some (.tup [x,y])) (h1:Rep H (fr c.1) x) (h2:Rep H (fr c.2) y):Rep H (spt c) (.ref a):=.mk_tup h (.mk_cons h1 (.mk_cons h2 .mk_nil))
end L2
namespace L2
open PySem PySem.Spec PyProof.Rows
section
variable {K:PySem.W.Frag} {σ:St} {H0:Hp} {t u:TE} {ta:TA} {b c:Bool} {m n:Nat}
variable {st:Addr}
end
end L2
namespace L2
open PySem PySem.Spec PyProof.Rows
section
variable {prog:Program} {w:World} {A:Around} {E:Value -> Shared -> Prop} {s:Shared}
end
section
variable {prog:Program} {w:World} {A:Around} {E:Value -> Shared -> Prop} {s:Shared} {z TI TO i1 i2:Addr} {f1 f2:List Addr} {n1 n2 k:Nat} {P1 P2:Nat -> Value -> Prop} {T1 T2:Nat -> Heap -> Prop} {a b:Value}
end
end L2
namespace L2
open PySem PySem.Spec PyProof.Rows
section
variable {prog:Program} {w:World} {A:Around} {E:Value -> Shared -> Prop} {s:Shared} {z TI TO i1 i2 l1 l2:Addr} {k:Nat} {b1 b2:Bool} {u1 u2:Array Value} {a b:Value}
end
end L2
namespace L2
open PySem PySem.Spec PyProof.Rows
section
variable {prog:Program} {w:World} {A:Around} {E:Value -> Shared -> Prop} {s:Shared}
end
section
variable {prog:Program} {w:World} {A:Around} {E:Value -> Shared -> Prop} {s:Shared}
end
end L2
namespace L2
open PySem PySem.Spec PyProof.Rows
section
variable {X:Cx} {pins:List (Addr × Obj)} {σ:St} {H:Hp} {s:Shared}
end
def CN2 (K:PySem.W.Frag) (a:Addr) (σr:St) (Pv:List V -> Hp -> Prop):St -> Hp -> Prop:=fun σ H=>(∃ y z,σ = y :: z :: σr) /\ ∃ xs,vw K H a = some (.lst xs) /\ Pv xs H
theorem CEl.mk2 {K:PySem.W.Frag} {a:Addr} {σr:St} {Pv:List V -> Hp -> Prop} {x y:Option V} {v:V} {H:Hp} {xs:List V} (h:vw K H a = some (.lst xs)) (hz:xs.length < sizeLine)
  (q:∀ H5,But a (vw K H) (vw K H5) -> vw K H5 a = some (.lst (xs ++ [v])) -> Pv (xs ++ [v]) H5):CEl K a (CN2 K a σr Pv (x :: y :: σr)) v H:=⟨xs,h,hz,fun H5 B h5=>⟨⟨_,_,rfl⟩,_,h5,q H5 B h5⟩⟩
end L2
namespace L2
open PySem PySem.Spec PyProof.Rows
def wv (q:Int × Int):Rat:=(q.1:Rat) / (q.2:Rat)
theorem cast_ne {b:Int} (h:b ≠ 0):(b:Rat) ≠ 0:=by simpa using h
theorem wv_lo {a b:Int} (hb:b ≠ 0):wv (lo a b) = (a:Rat) / (b:Rat):=by
 have e1:=lo_mul_left (a:=a) hb
 have e2:=lo_mul_right (a:=a) hb
 have hg:=cast_ne (lg_ne (a:=a) hb)
 have hd:(lo a b).2 ≠ 0:=by have:=(lo_Fq (a:=a) hb).1; walk_at "o"
 have hd':=cast_ne hd
 have c1:((lo a b).1:Rat) * (lg a b:Rat) = (a:Rat):=by
  have:=congrArg (fun i:Int=>(i:Rat)) e1
  simpa using this
 have c2:((lo a b).2:Rat) * (lg a b:Rat) = (b:Rat):=by
  have:=congrArg (fun i:Int=>(i:Rat)) e2
  simpa using this
 unfold wv
 rw [<- c1,<- c2]
 grind
theorem dvd_cop {a b c:Int} (h:b ∣ a * c) (hg:Int.gcd a b = 1):b ∣ c:=by
 have h1:b.natAbs ∣ a.natAbs * c.natAbs:=by
  rw [<- Int.natAbs_mul]
  exact Int.natAbs_dvd_natAbs.mpr h
 have h2:Nat.Coprime b.natAbs a.natAbs:=by
  unfold Nat.Coprime
  rw [Nat.gcd_comm]
  exact hg
 exact Int.natAbs_dvd_natAbs.mp (Nat.Coprime.dvd_of_dvd_mul_left h2 h1)
theorem wv_inj {p q:Int × Int} (hp:Fq p) (hq:Fq q) (h:wv p = wv q):p = q:=by
 have h1:=cast_ne (show p.2 ≠ 0 by have:=hp.1; walk_at "o")
 have h2:=cast_ne (show q.2 ≠ 0 by have:=hq.1; walk_at "o")
 have e:p.1 * q.2 = q.1 * p.2:=by
  unfold wv at h
  have:(p.1:Rat) * (q.2:Rat) = (q.1:Rat) * (p.2:Rat):=by grind
  have h3:((p.1 * q.2:Int):Rat) = ((q.1 * p.2:Int):Rat):=by simpa using this
  exact Rat.intCast_inj.mp h3
 have d1:p.2 ∣ q.2:=by
  have:p.2 ∣ p.1 * q.2:=⟨q.1,by rw [e,Int.mul_comm]⟩
  exact dvd_cop this hp.2
 have d2:q.2 ∣ p.2:=by
  have:q.2 ∣ q.1 * p.2:=⟨p.1,by rw [<- e,Int.mul_comm]⟩
  exact dvd_cop this hq.2
 have e2:p.2 = q.2:=Int.dvd_antisymm (Int.le_of_lt hp.1) (Int.le_of_lt hq.1) d1 d2
 rw [e2] at e
 have e1:p.1 = q.1:=Int.eq_of_mul_eq_mul_right (by have:=hq.1; walk_at "o") e
 exact Prod.ext e1 e2
theorem wv_add {p q:Int × Int} (hp:p.2 ≠ 0) (hq:q.2 ≠ 0):wv (addq p q) = wv p + wv q:=by
 unfold addq
 rw [wv_lo (Int.mul_ne_zero hp hq)]
 unfold wv
 have h1:=cast_ne hp
 have h2:=cast_ne hq
 simp only [Rat.intCast_add,Rat.intCast_mul]
 grind
def mulq (p q:Int × Int):Int × Int:=lo (p.1 * q.1) (p.2 * q.2)
theorem mulq_Fq {p q:Int × Int} (hp:Fq p) (hq:Fq q):Fq (mulq p q):=lo_Fq (by have:=Int.mul_pos hp.1 hq.1; walk_at "o")
theorem mulq_Bq {p q:Int × Int} {m n:Nat} (hp:Fq p) (hq:Fq q) (h1:Bq m p) (h2:Bq n q):Bq (m + n) (mulq p q):=bt_lo (by have:=Int.mul_pos hp.1 hq.1; walk_at "o") (h1.1.mul h2.1) (h1.2.mul h2.2)
theorem wv_mul {p q:Int × Int} (hp:p.2 ≠ 0) (hq:q.2 ≠ 0):wv (mulq p q) = wv p * wv q:=by
 unfold mulq
 rw [wv_lo (Int.mul_ne_zero hp hq)]
 unfold wv
 have h1:=cast_ne hp
 have h2:=cast_ne hq
 simp only [Rat.intCast_mul]
 grind
section
variable {X:Cx}
theorem ip_mulX:PIp X .Mult (fun x y H Q=>∃ i j,x = .int i /\ y = .int j /\ IntMulOk i j /\ Q (.int (i * j)) H):=by
 intro pins s σ H x y v u Q I r1 r2 h
 obtain ⟨i,j,rfl,rfl,m,q⟩:=h
 obtain ⟨t,rfl⟩:=r1
 obtain ⟨t',rfl⟩:=r2
 exact imul_int ⟨.int _,H,I.tok _,⟨_,rfl⟩,q⟩ m
end
theorem comp_pairs {K:PySem.W.Frag} {J:It} {its:List V} {ps:List (V × V)} {tif:TT} {te:TE} {a:Addr} {x0 x1:Option V} {σr:St} {H0:Hp} {Q:Hp -> Prop} (Pv:Nat -> List V -> Hp -> Prop) (hlen:its.length = ps.length)
  (hl:∀ i xs H,i <= its.length -> vw K H a = some (.lst xs) -> Pv i xs H -> Items J H its /\ ∀ (j:Nat) (x y:V),ps[j]? = some (x,y) -> ∃ p:Addr,its[j]? = some (V.ref p) /\ vw K H p = some (HO.tup [x,y])) (ha:vw K H0 a = some (.lst [])) (h0:Pv 0 [] H0)
  (hs:∀ i x y xs H,i < ps.length -> ps[i]? = some (x,y) -> vw K H a = some (.lst xs) -> Pv i xs H -> tif (some x :: some y :: σr) H fun b H3=>if b = true then te (some x :: some y :: σr) H3 (CEl K a (CN2 K a σr (Pv (i + 1)) (some x :: some y :: σr))) else CN2 K a σr (Pv (i + 1)) (some x :: some y :: σr) H3)
  (hd:∀ xs H,vw K H a = some (.lst xs) -> Pv ps.length xs H -> Q H):CompOK K J (gTupH K 2 (gCons (gName 0) (gCons (gName 1) gNil))) tif te a (x0 :: x1 :: σr) H0 Q:=by
 refine ⟨fun i m σ H=>m = ps.length - i /\ i <= ps.length /\ CN2 K a σr (Pv i) σ H,⟨ps.length,by simp,Nat.zero_le _,⟨_,_,rfl⟩,_,ha,h0⟩,?_⟩
 rintro i m σ H ⟨rfl,hi,⟨y,z,rfl⟩,xs,hxs,p⟩
 obtain ⟨⟨q1,q2,q3⟩,q4⟩:=hl i xs H (by walk_at "o") hxs p
 by_cases hlt:i < ps.length
 ·refine .inr ⟨q1 i (by walk_at "o"),CN2 K a σr (Pv (i + 1)),fun σ' H' p'=>⟨ps.length - (i + 1),by walk_at "o",rfl,hlt,p'⟩,fun x H' y=>?_⟩
  obtain ⟨e,y2⟩:=q2 i x H' (by walk_at "o") y
  subst e
  obtain ⟨b,e1,e2⟩:=q4 i _ _ (List.getElem?_eq_getElem hlt)
  rw [e1] at y2
  cases y2
  exact ⟨b,rfl,_,e2,rfl,_,_,rfl,_,_,rfl,rfl,hs i _ _ xs _ hlt (List.getElem?_eq_getElem hlt) hxs p⟩
 ·have e:i = ps.length:=by walk_at "o"
  subst e
  exact .inl ⟨hlen ▸ q3,hd xs H hxs p⟩
theorem fdiv_mul {g q:Int} (hg:g ≠ 0) (h:g ∣ q):q.fdiv g * g = q:=by
 obtain ⟨m,rfl⟩:=h
 rw [Int.mul_comm g m,Int.mul_fdiv_cancel m hg]
theorem le_mul1 {a b:Int} (ha:0 <= a) (hb:1 <= b):a <= a * b:=by
 have:=Int.mul_le_mul_of_nonneg_left hb ha
 walk_at "o"
theorem lcm_step {b q:Int} (hb:0 < b) (hq:0 < q):0 < q.fdiv (Int.gcd b q:Int) /\ q.fdiv (Int.gcd b q:Int) <= q /\ q ∣ b * q.fdiv (Int.gcd b q:Int) /\ (Int.gcd b q:Int) ≠ 0 /\ (Int.gcd b q:Int) <= q:=by
 have hg:(Int.gcd b q:Int) ≠ 0:=by
  have:Int.gcd b q ≠ 0:=fun e=>by
   have:=(Int.gcd_eq_zero_iff.mp e).2
   walk_at "o"
  walk_at "o"
 have hg0:0 < (Int.gcd b q:Int):=by walk_at "o"
 have e:=fdiv_mul hg (Int.gcd_dvd_right b q)
 have hle:(Int.gcd b q:Int) <= q:=Int.le_of_dvd hq (Int.gcd_dvd_right b q)
 generalize q.fdiv (Int.gcd b q:Int) = c at e
 obtain ⟨m,hm⟩:=Int.gcd_dvd_left b q
 have hc:0 < c:=by
  refine Int.pos_of_mul_pos_left ?_ hg0
  rw [e]
  exact hq
 refine ⟨hc,?_,⟨m,?_⟩,hg,hle⟩
 ·rw [<- e]
  exact le_mul1 (by walk_at "o") (by walk_at "o")
 ·rw [<- e]
  generalize (Int.gcd b q:Int) = g at *
  rw [hm]
  rw [Int.mul_right_comm,Int.mul_comm c g]
theorem Bt.le {n:Nat} {x y:Int} (h:Bt n y) (h0:0 <= x) (hl:x <= y):Bt n x:=by
 unfold Bt at *
 walk_at "o"
theorem clear_at {q:Int × Int} {D:Int} {m n:Nat} (hq:Fq q) (hd:q.2 ∣ D) (hD:0 < D) (b1:Bt m D) (b2:Bt n q.1):((q.1 * D.fdiv q.2:Int):Rat) = wv q * (D:Rat) /\ Bt (m + n) (q.1 * D.fdiv q.2) /\ Bt m (D.fdiv q.2):=by
 have h2:q.2 ≠ 0:=by have:=hq.1; walk_at "o"
 have e:=fdiv_mul h2 hd
 have hp:0 < D.fdiv q.2:=by
  refine Int.pos_of_mul_pos_left ?_ hq.1
  rw [e]
  exact hD
 have hle:D.fdiv q.2 <= D:=by
  have:=le_mul1 (Int.le_of_lt hp) (show 1 <= q.2 by have:=hq.1; walk_at "o")
  rw [e] at this
  exact this
 have bm:=b1.le (Int.le_of_lt hp) hle
 refine ⟨?_,(b2.mul bm).mono (by walk_at "o"),bm⟩
 generalize D.fdiv q.2 = c at *
 have h3:=cast_ne h2
 rw [<- e]
 unfold wv
 simp only [Rat.intCast_mul]
 grind
end L2
namespace L2
open PySem PySem.Spec PyProof.Rows
def powR (x:Rat):Nat -> Rat
 | 0=>1
 | k + 1=>powR x k * x
theorem powR_succ (x:Rat) (k:Nat):powR x (k + 1) = powR x k * x:=rfl
end L2
namespace L2
open PySem PySem.Spec PyProof.Rows
end L2
namespace L2
open PySem PySem.Spec PyProof.Rows
end L2
namespace L2
open PySem PySem.Spec PyProof.Rows
def subq (p q:Int × Int):Int × Int:=lo (p.1 * q.2 - q.1 * p.2) (p.2 * q.2)
def divq (p q:Int × Int):Int × Int:=lo (p.1 * q.2) (p.2 * q.1)
theorem subq_Fq {p q:Int × Int} (hp:Fq p) (hq:Fq q):Fq (subq p q):=lo_Fq (by have:=Int.mul_pos hp.1 hq.1; walk_at "o")
theorem divq_Fq {p q:Int × Int} (hp:Fq p) (h0:q.1 ≠ 0):Fq (divq p q):=lo_Fq (Int.mul_ne_zero (by have:=hp.1; walk_at "o") h0)
theorem subq_Bq {p q:Int × Int} {m n:Nat} (hp:Fq p) (hq:Fq q) (h1:Bq m p) (h2:Bq n q):Bq (m + n + 1) (subq p q):=by
 refine bt_lo (by have:=Int.mul_pos hp.1 hq.1; walk_at "o") ?_ ((h1.2.mul h2.2).mono (by walk_at "o"))
 exact ((h1.1.mul h2.2).sub (h2.1.mul h1.2)).mono (by walk_at "o")
theorem divq_Bq {p q:Int × Int} {m n:Nat} (hp:Fq p) (h0:q.1 ≠ 0) (h1:Bq m p) (h2:Bq n q):Bq (m + n) (divq p q):=bt_lo (Int.mul_ne_zero (by have:=hp.1; walk_at "o") h0) (h1.1.mul h2.2) (h1.2.mul h2.1)
theorem wv_sub {p q:Int × Int} (hp:p.2 ≠ 0) (hq:q.2 ≠ 0):wv (subq p q) = wv p - wv q:=by
 unfold subq
 rw [wv_lo (Int.mul_ne_zero hp hq)]
 unfold wv
 have h1:=cast_ne hp
 have h2:=cast_ne hq
 simp only [Rat.intCast_sub,Rat.intCast_mul]
 grind
theorem wv_div {p q:Int × Int} (hp:p.2 ≠ 0) (hq:q.2 ≠ 0) (h0:q.1 ≠ 0):wv (divq p q) = wv p / wv q:=by
 unfold divq
 rw [wv_lo (Int.mul_ne_zero hp h0)]
 unfold wv
 have h1:=cast_ne hp
 have h2:=cast_ne hq
 have h3:=cast_ne h0
 simp only [Rat.intCast_mul]
 grind
theorem wv_zero {q:Int × Int} (hq:q.2 ≠ 0):wv q = 0 ↔ q.1 = 0:=by
 have h2:=cast_ne hq
 unfold wv
 constructor
 ·intro h
  have:(q.1:Rat) = 0:=by grind
  simpa using this
 ·intro h
  have:(q.1:Rat) = 0:=by rw [h]; rfl
  rw [this]
  grind
end L2
namespace L2
open PySem PySem.Spec PyProof.Rows
def cf (qs:List (Int × Int)) (k:Nat):Rat:=match qs[k]? with
 | some q=>wv q
 | none=>0
def PolyOk (qs:List (Int × Int)):Prop:=(∀ q ∈ qs,Fq q) /\ ∀ q,qs.getLast? = some q -> q.1 ≠ 0
theorem Fq.ne {q:Int × Int} (h:Fq q):q.2 ≠ 0:=by have:=h.1; walk_at "o"
theorem cf_some {qs:List (Int × Int)} {k:Nat} {q:Int × Int} (h:qs[k]? = some q):cf qs k = wv q:=by unfold cf; rw [h]
theorem cf_none {qs:List (Int × Int)} {k:Nat} (h:qs.length <= k):cf qs k = 0:=by unfold cf; rw [List.getElem?_eq_none h]
theorem cf_nil (k:Nat):cf [] k = 0:=rfl
theorem cf_take {qs:List (Int × Int)} {n:Nat} (hF:∀ q ∈ qs,Fq q) (hz:∀ q ∈ qs.drop n,q.1 = 0) (k:Nat):cf (qs.take n) k = cf qs k:=by
 by_cases hk:k < n
 ·unfold cf
  rw [List.getElem?_take,if_pos hk]
 ·unfold cf
  rw [List.getElem?_take,if_neg hk]
  cases e:qs[k]? with
  | none=>rfl
  | some q =>
   have hm:q ∈ qs.drop n:=List.mem_of_getElem? (i:=k - n) (by rw [List.getElem?_drop,show n + (k - n) = k by walk_at "o"]; exact e)
   exact ((wv_zero (hF q (List.mem_of_getElem? e)).ne).mpr (hz q hm)).symm
theorem Fq_zero {q:Int × Int} (h:Fq q):q = (0,1) ↔ q.1 = 0:=by
 constructor
 ·rintro rfl; rfl
 ·intro e
  obtain ⟨h1,h2⟩:=h
  rw [e] at h2
  have:q.2.natAbs = 1:=by simpa using h2
  exact Prod.ext e (by show q.2 = 1; walk_at "o")
end L2
namespace L2
open PySem PySem.Spec PyProof.Rows
def evR:List Int -> Rat -> Rat
 | [],_=>0
 | n :: ns,x=>(n:Rat) + x * evR ns x
end L2
namespace L2
open PySem PySem.Spec PyProof.Rows
def pz (f g:Nat -> Int):Nat -> Nat -> Int
 | 0,_=>0
 | j + 1,k=>pz f g j k + if j <= k then f j * g (k - j) else 0
def pr (f g:Nat -> Rat):Nat -> Nat -> Rat
 | 0,_=>0
 | j + 1,k=>pr f g j k + if j <= k then f j * g (k - j) else 0
theorem pz_cast {f g:Nat -> Int} {F G:Nat -> Rat} {c d:Rat} (hf:∀ i,(f i:Rat) = F i * c) (hg:∀ i,(g i:Rat) = G i * d):∀ j k,((pz f g j k:Int):Rat) = pr F G j k * (c * d)
 | 0,k=>by
  show ((0:Int):Rat) = 0 * (c * d)
  grind
 | j + 1,k=>by
  show (((pz f g j k + if j <= k then f j * g (k - j) else 0:Int)):Rat) = (pr F G j k + if j <= k then F j * G (k - j) else 0) * (c * d)
  rw [Rat.intCast_add,pz_cast hf hg j k]
  split
  ·rw [Rat.intCast_mul,hf,hg]
   grind
  ·grind
theorem bt_zero {n:Nat}:Bt n 0:=by
 show (0:Int).natAbs < 2 ^ n
 exact Nat.two_pow_pos n
theorem pz_bt {f g:Nat -> Int} {m n:Nat} (hf:∀ i,Bt m (f i)) (hg:∀ i,Bt n (g i)):∀ j k,Bt (m + n + j) (pz f g j k)
 | 0,k=>bt_zero
 | j + 1,k=>by
  have h1:=pz_bt hf hg j k
  have h2:Bt (m + n) (if j <= k then f j * g (k - j) else 0):=by
   split
   ·exact (hf j).mul (hg _)
   ·exact bt_zero
  exact (h1.add h2).mono (by walk_at "o")
def qz (f g:Nat -> Int) (j l k:Nat):Int:=pz f g j k + if j <= k /\ k - j < l then f j * g (k - j) else 0
theorem qz_0 (f g:Nat -> Int) (j k:Nat):qz f g j 0 k = pz f g j k:=by simp [qz]
theorem qz_at (f g:Nat -> Int) (j l k:Nat):qz f g j (l + 1) k = if k = j + l then qz f g j l (j + l) + f j * g l else qz f g j l k:=by
 by_cases h:k = j + l
 ·subst h
  rw [if_pos rfl]
  unfold qz
  rw [if_pos (by walk_at "o"),if_neg (by walk_at "o"),show j + l - j = l by walk_at "o"]
  walk_at "o"
 ·rw [if_neg h]
  unfold qz
  by_cases h2:j <= k /\ k - j < l
  ·rw [if_pos h2,if_pos (by walk_at "o")]
  ·rw [if_neg h2,if_neg (by walk_at "o")]
theorem qz_end {f g:Nat -> Int} {n:Nat} (hg:∀ i,n <= i -> g i = 0) (j k:Nat):qz f g j n k = pz f g (j + 1) k:=by
 show _ = pz f g j k + if j <= k then f j * g (k - j) else 0
 unfold qz
 by_cases h:j <= k
 ·rw [if_pos h]
  by_cases h2:k - j < n
  ·rw [if_pos ⟨h,h2⟩]
  ·rw [if_neg (by walk_at "o"),hg _ (by walk_at "o"),Int.mul_zero]
 ·rw [if_neg h,if_neg (by walk_at "o")]
def qr (f g:Nat -> Rat) (j l k:Nat):Rat:=pr f g j k + if j <= k /\ k - j < l then f j * g (k - j) else 0
theorem qr_0 (f g:Nat -> Rat) (j k:Nat):qr f g j 0 k = pr f g j k:=by
 unfold qr
 rw [if_neg (by walk_at "o")]
 grind
theorem qr_at (f g:Nat -> Rat) (j l k:Nat):qr f g j (l + 1) k = if k = j + l then qr f g j l (j + l) + f j * g l else qr f g j l k:=by
 by_cases h:k = j + l
 ·subst h
  rw [if_pos rfl]
  unfold qr
  rw [if_pos (by walk_at "o"),if_neg (by walk_at "o"),show j + l - j = l by walk_at "o"]
  grind
 ·rw [if_neg h]
  unfold qr
  by_cases h2:j <= k /\ k - j < l
  ·rw [if_pos h2,if_pos (by walk_at "o")]
  ·rw [if_neg h2,if_neg (by walk_at "o")]
theorem qr_end {f g:Nat -> Rat} {n:Nat} (hg:∀ i,n <= i -> g i = 0) (j k:Nat):qr f g j n k = pr f g (j + 1) k:=by
 show _ = pr f g j k + if j <= k then f j * g (k - j) else 0
 unfold qr
 by_cases h:j <= k
 ·rw [if_pos h]
  by_cases h2:k - j < n
  ·rw [if_pos ⟨h,h2⟩]
  ·rw [if_neg (by walk_at "o"),hg _ (by walk_at "o")]
   grind
 ·rw [if_neg h,if_neg (by walk_at "o")]
theorem pr_high {f g:Nat -> Rat} {n:Nat} (hg:∀ i,n <= i -> g i = 0):∀ (j k:Nat),j + n <= k + 1 -> pr f g j k = 0
 | 0,k,_=>rfl
 | j + 1,k,h=>by
  show pr f g j k + (if j <= k then f j * g (k - j) else 0) = 0
  rw [pr_high hg j k (by walk_at "o")]
  by_cases h1:j <= k
  ·rw [if_pos h1,hg _ (by walk_at "o")]
   grind
  ·rw [if_neg h1]
   grind
def lz {α:Type} (n:Nat) (h:Nat -> α):List α:=(List.range n).map h
theorem lz_len {α:Type} {n:Nat} {h:Nat -> α}:(lz n h).length = n:=by simp [lz]
theorem lz_get {α:Type} {n:Nat} {h:Nat -> α} {i:Nat} (hi:i < n):(lz n h)[i]? = some (h i):=by simp [lz,hi]
theorem lz_congr {α:Type} {n:Nat} {h g:Nat -> α} (e:∀ k,k < n -> h k = g k):lz n h = lz n g:=by
 apply List.ext_getElem?
 intro i
 by_cases hi:i < n
 ·rw [lz_get hi,lz_get hi,e i hi]
 ·rw [List.getElem?_eq_none (by rw [lz_len]; walk_at "o"),List.getElem?_eq_none (by rw [lz_len]; walk_at "o")]
theorem lz_set {α:Type} {n:Nat} {h:Nat -> α} {i:Nat} {v:α}:(lz n h).set i v = lz n fun k=>if k = i then v else h k:=by
 apply List.ext_getElem?
 intro k
 by_cases hk:k < n
 ·rw [lz_get hk]
  by_cases e:k = i
  ·subst e
   rw [List.getElem?_set_self (by rw [lz_len]; exact hk),if_pos rfl]
  ·rw [List.getElem?_set_ne (Ne.symm e),lz_get hk,if_neg e]
 ·rw [List.getElem?_eq_none (by rw [List.length_set,lz_len]; walk_at "o"),List.getElem?_eq_none (by rw [lz_len]; walk_at "o")]
theorem lz_map {α β:Type} {n:Nat} {h:Nat -> α} (f:α -> β):(lz n h).map f = lz n fun k=>f (h k):=by simp [lz]
theorem rep_lz {α:Type} (n:Nat) (x:α):(List.replicate n [x]).flatten = lz n fun _=>x:=by
 induction n with
 | zero=>rfl
 | succ n ih =>
  apply List.ext_getElem?
  intro i
  rw [show (List.replicate (n + 1) [x]).flatten = List.replicate (n + 1) x by simp]
  by_cases hi:i < n + 1
  ·rw [lz_get hi,List.getElem?_replicate_of_lt hi]
  ·rw [List.getElem?_eq_none (by simp; walk_at "o"),List.getElem?_eq_none (by rw [lz_len]; walk_at "o")]
def nz (ns:List Int) (k:Nat):Int:=ns.getD k 0
theorem nz_get {ns:List Int} {k:Nat} {n:Int} (h:ns[k]? = some n):nz ns k = n:=by simp [nz,List.getD_eq_getElem?_getD,h]
theorem nz_out {ns:List Int} {k:Nat} (h:ns.length <= k):nz ns k = 0:=by simp [nz,List.getD_eq_getElem?_getD,List.getElem?_eq_none h]
theorem nz_bt {ns:List Int} {m:Nat} (h:∀ n ∈ ns,Bt m n) (k:Nat):Bt m (nz ns k):=by
 cases e:ns[k]? with
 | none=>rw [nz_out (List.getElem?_eq_none_iff.mp e)]; exact bt_zero
 | some n=>rw [nz_get e]; exact h n (List.mem_of_getElem? e)
theorem nz_lz {n k:Nat} {h:Nat -> Int} (hk:k < n):nz (lz n h) k = h k:=nz_get (lz_get hk)
theorem nz_clear {qs:List (Int × Int)} {ns:List Int} {D:Rat} (hl:ns.length = qs.length) (h:∀ (i:Nat) (n:Int) (q:Int × Int),ns[i]? = some n -> qs[i]? = some q -> (n:Rat) = wv q * D) (i:Nat):((nz ns i:Int):Rat) = cf qs i * D:=by
 by_cases hi:i < qs.length
 ·have e1:=List.getElem?_eq_getElem hi
  have e2:=List.getElem?_eq_getElem (show i < ns.length by walk_at "o")
  rw [nz_get e2,cf_some e1]
  exact h i _ _ e2 e1
 ·rw [nz_out (by walk_at "o"),cf_none (by walk_at "o")]
  show ((0:Int):Rat) = 0 * D
  grind
theorem Reps.set {H:Hp}:∀ {ds:List D} {xs:List V} (i:Nat) {d:D} {x:V},Reps H ds xs -> Rep H d x -> Reps H (ds.set i d) (xs.set i x)
 | [],xs,i,d,x,h,g=>by
  cases h.nil_at
  exact .mk_nil
 | d0 :: ds,xs,i,d,x,h,g=>by
  obtain ⟨x0,r,rfl,h1,h2⟩:=h.cons_at
  cases i with
  | zero=>exact .mk_cons g h2
  | succ i=>exact .mk_cons h1 (h2.set i g)
theorem cf_setv {qs:List (Int × Int)} {i k:Nat} {q:Int × Int} (hi:i < qs.length):cf (qs.set i q) k = if k = i then wv q else cf qs k:=by
 by_cases h:k = i
 ·subst h
  rw [if_pos rfl,cf_some (List.getElem?_set_self hi)]
 ·rw [if_neg h]
  unfold cf
  rw [List.getElem?_set_ne (Ne.symm h)]
theorem ixN_nat {n k:Nat} (h:k < n):ixN n (k:Int) = some k:=by
 unfold ixN
 simp
 walk_at "o"
end L2
namespace L2
open PySem PySem.Spec PyProof.Rows
theorem get_listH {X:Cx}:PGet X (fun o i H Q=>∃ p k,o = .ref p /\ i = .int k /\ ∃ xs,vw X.K H p = some (.lst xs) /\ ∃ v,atI xs k = some v /\ Q v H):=by
 intro pins s σ H x y v u Q I rx ry h
 obtain ⟨p,k,rfl,rfl,xs,hx,z,he,q⟩:=h
 cases rx
 obtain ⟨t,rfl⟩:=ry
 obtain ⟨its,r,pl,hz⟩:=I.list (SqL.of (K:=X.K) (vw_lst hx))
 obtain ⟨j,h1,h2,h3,h4,h5⟩:=atI_get he
 obtain ⟨w,ew,rw'⟩:=r.get h2
 have hl:=r.length
 have hn:=line63
 have fin:EP X pins σ Q w s:=⟨z,H,I,rw',q⟩
 by_cases h0:0 <= k
 ·have hj:k.toNat = j:=by
   rw [seqIndex_of h0 h5] at h1
   exact Option.some.inj h1
  exact wpAny_getItem_list pl.isList h0 (by walk_at "o") (by rw [hj]; simpa using ew) fin
 ·have hj:(k + (its.toArray.size:Int)).toNat = j:=by
   rw [seqIndex_neg (by walk_at "o") h4] at h1
   rw [List.size_toArray,<- hl]
   exact Option.some.inj h1
  exact wpAny_getItem_list_neg pl.isList (by walk_at "o") (by rw [List.size_toArray] <;> walk_at "o") (by walk_at "o") (by rw [hj]; simpa using ew) fin
theorem tru_lst {K:PySem.W.Frag} {H:Hp} {p:Addr} {xs:List V} (h:vw K H p = some (.lst xs)):TruV K (.ref p) H (!xs.isEmpty):=.inl ⟨xs,.of (vw_lst h),rfl⟩
end L2
namespace L2
open PySem PySem.Spec PyProof.Rows
theorem Same.none {G G':Hp} {c:Addr} (S:Same G G') (h:G' c = none):G c = none:=by
 cases e:G c with
 | none=>rfl
 | some o=>rw [S _ _ e] at h; cases h
theorem Fq_01:Fq (0,1):=⟨by decide,by decide⟩
theorem Bq_01 {n:Nat} (h:1 <= n):Bq n (0,1):=Bq.mono (m:=1) (q:=(0,1)) ⟨by decide,by decide⟩ h
theorem wv_01:wv (0,1) = 0:=(wv_zero (q:=(0,1)) (by decide)).mpr rfl
theorem wv_11:wv (1,1) = 1:=by
 show ((1:Int):Rat) / ((1:Int):Rat) = 1
 have:((1:Int):Rat) = 1:=rfl
 rw [this]
 grind
theorem cf_pad (fs:List (Int × Int)) (m k:Nat):cf (fs ++ List.replicate m (0,1)) k = cf fs k:=by
 by_cases h:k < fs.length
 ·unfold cf
  rw [List.getElem?_append_left h]
 ·rw [cf_none (qs:=fs) (by walk_at "o")]
  unfold cf
  rw [List.getElem?_append_right (by walk_at "o")]
  by_cases h2:k - fs.length < m
  ·rw [List.getElem?_replicate_of_lt h2]
   exact wv_01
  ·rw [List.getElem?_eq_none (by simp; walk_at "o")]
theorem rep_flat {α:Type} (n:Nat) (x:α):(List.replicate n [x]).flatten = List.replicate n x:=by simp
theorem map_rep {α β:Type} (f:α -> β) (n:Nat) (x:α):(List.replicate n x).map f = List.replicate n (f x):=by simp
theorem clean_ok {qs:List (Int × Int)} {n:Nat} (hF:∀ q ∈ qs,Fq q) (hz:∀ q,(qs.take n).getLast? = some q -> q.1 ≠ 0):PolyOk (qs.take n):=⟨fun q hq=>hF q (List.mem_of_mem_take hq),hz⟩
theorem LsAt.chg {G G':Hp} {e:Addr} {qs:List (Int × Int)} {xs:List V} {i:Nat} {q:Int × Int} {v:V} (h:G e = some (.lst xs)) (r:Reps G (qs.map fr) xs) (rv:Rep G (fr q) v) (B:But e G G') (h':G' e = some (.lst (xs.set i v))):LsAt G' e (qs.set i q):=by
 refine ⟨_,h',?_⟩
 have r':=Reps.flat_but h B _ _ (flats_fr qs) r
 have:=r'.set i (Rep.flat_but h B _ _ (fr_flat q) rv)
 rw [List.map_set]
 exact this
end L2
namespace L2
open PySem PySem.Spec PyProof.Rows
end L2
namespace L2
open PySem PySem.Spec PyProof.Rows
end L2
namespace L2
open PySem PySem.Spec PyProof.Rows
section
variable {X:Cx} {pins:List (Addr × Obj)} {σ:St} {H H':Hp} {s s':Shared}
end
end L2
namespace L2
open PySem PySem.Spec PyProof.Rows
section
variable {P:Program} {w:World} {K:PySem.W.Frag} {mg:Str -> Option Value} {base:Heap} {N:List Str} {qual:Str} {scope:Scope} {f:Addr} {cd:Value} {A:Around} {outer:List Env} {s₀:Shared} {H₀:Hp} {E:XK} {C:Addr}
end
end L2
namespace L2
open PySem PySem.Spec PySem.Calls PyProof.Rows PySem.W PySem.Builtin PySem.Builtin.ObjectAttr PySem.Builtin.Getset_descriptor
section
variable {prog:Program} {w:World} {A:Around} {E:Value -> Shared -> Prop} {K:Frag} {x C:Addr} {ob:Obj} {hh:Heap} {g:Array GenState} {d:Drawn} {t:Nat} {os:OsState}
end
end L2
namespace L2
open PySem PySem.Spec PyProof.Rows
section
variable {X:Cx} {pins:List (Addr × Obj)} {σ:St} {H H':Hp} {s s':Shared}
end
end L2
namespace L2
open PySem PySem.Spec PyProof.Rows
section
variable {X:Cx}
end
end L2
namespace L2
open PySem PySem.Spec PyProof.Rows
end L2
namespace L2
open PySem PySem.Spec PyProof.Rows
end L2
namespace L2
open PySem PySem.Spec PyProof.Rows
end L2
namespace L2
open PySem PySem.Spec PyProof.Rows
end L2
namespace L2
open PySem PySem.Spec PyProof.Rows
end L2
namespace L2
open PySem PySem.Spec PyProof.Rows
end L2
namespace L2
open PySem PySem.Spec PyProof.Rows
section
variable {P:Program} {w:World} {K:PySem.W.Frag} {mg:Str -> Option Value} {base:Heap}
end
section
variable {X:Cx}
end
end L2
namespace L2
open PySem PySem.Spec PyProof.Rows
def BltB (mg:Str -> Option Value) (base:Heap):Prop:=∃ bm o,mg "__builtins__" = some (.ref bm) /\ bm ≠ builtinsNs /\ bm ≠ mainGlobals /\ base.get? bm = some o /\ o.cls = .type "module" /\ o.dict = some builtinsNs /\ o.data = .plain
def OnlyT (ts:List (Addr × Addr)) (H:Hp):Prop:=∀ b,H b = none \/ (∃ o xs,H b = some (.frz o (.lst xs))) \/ (H b = some (.tbl #[]) /\ ∃ q ∈ ts,q.2 = b)
theorem law_callM {P:Program} {w:World} {K:PySem.W.Frag} {mg mb:Str -> Option Value} {CX:CXT} {k:Nat} {fa a:Addr} {fd:FuncData} {x:Str} {sp:Sp} {s₁:Shared} {vs:List Value} {ns:List Int} {ts:List (Addr × Addr)}
  (KX:K.In s₁.heap) (hns:s₁.heap.Ns mainGlobals mg) (hb:s₁.heap.Ns builtinsNs mb) (hbb:∀ x:Str,x ≠ "__name__" -> mb x = bootBuiltins x) (hlim:s₁.heap.NoLimit) (hg:s₁.gens = #[])
  (ha:s₁.heap.get? a = some { cls:=.type "list",data:=.seq vs.toArray }) (hi:IntsAre vs ns) (hl:ns.length <= sizeLine) (hr:Room k callerA) (hT:∀ q ∈ ts,PySem.W.codeHdIn K q.1 q.2 = true /\ K.lookup q.2 = none /\ s₁.heap.get? q.2 = some (PySem.W.tabObj #[]))
  (hB:BltB mg s₁.heap) (hSr:s₁.heap.NoSeer) (F:∀ base:Heap,K.In base -> base.Ns mainGlobals mg -> BltB mg base -> base.NoSeer -> FnOk P w K mg base CX k fa fd [x] sp) (hbind:∀ (s:Shared) (u:Value),BindsTo s fd ⟨[u],[]⟩ [(x,u)])
  (hsp:∀ H:Hp,(∀ q ∈ ts,vw K H q.2 = some (.tbl #[])) -> (H a ≠ none -> K.lookup a = none) -> SqL K H a (ns.map V.int) -> sp [.ref a] H (fun v _=>v = .bl true) fun _ _ _=>False)
  (hCX:∀ H e s',CX [] H s₁ (fun _ _ _=>False) e s' -> False) :
  codeAny (model P w) callerA (.call (.ref fa) ⟨[.ref a],[]⟩) (fun r s'=>r = .ok (.ret (.bool true)) /\ OldK s₁.heap s'.heap /\ s'.os = s₁.os /\ AllBare s'.gens) s₁:=by
 have rv:=vals_ints hi
 have lenV:=hi.length
 have na:∀ q ∈ ts,q.2 ≠ a:=fun q hq z=>by
  have:=(hT q hq).2.2
  rw [z,ha] at this
  cases this
 have core:∀ H:Hp,OnlyT ts H -> (∀ q ∈ ts,H q.2 = some (.tbl #[])) -> SqL K H a (ns.map V.int) -> HOk P w H s₁.heap -> (∀ b,H b ≠ none -> b = a \/ ∃ q ∈ ts,q.2 = b) -> (H a ≠ none -> K.lookup a = none) ->
   codeAny (model P w) callerA (.call (.ref fa) ⟨[.ref a],[]⟩) (fun r s'=>r = .ok (.ret (.bool true)) /\ OldK s₁.heap s'.heap /\ s'.os = s₁.os /\ AllBare s'.gens) s₁:=by
  intro H hO hTT hS hok hA hK
  have base_of:∀ {b:Addr} {o:Obj},s₁.heap.get? b = some o -> H b = none -> (hidT s₁.heap H).get? b = some o:=fun e n=>hidT_get e n
  have noA:∀ {b:Addr} {o:Obj} {es:Array DictEntry} {ep:Nat},s₁.heap.get? b = some o -> o.data = .dict es ep -> H b = none:=fun {b o es ep} e d=>by
   cases q:H b with
   | none=>rfl
   | some u =>
    rcases hA b (by rw [q]; simp) with e' | ⟨y,hy,e'⟩
    ·subst e'
     rw [ha] at e; cases e
     have d':Data.seq vs.toArray _ = Data.dict es ep:=d
     cases d'
    ·subst e'
     rw [(hT y hy).2.2] at e; cases e
     have d':Data.fields (#[]:Array Value) = Data.dict es ep:=d
     cases d'
  have nsK:∀ {b:Addr} {m:Str -> Option Value},s₁.heap.Ns b m -> (hidT s₁.heap H).Ns b m:=fun {b m} ⟨o,es,ep,e,d,r⟩=>⟨o,es,ep,base_of e (noA e d),d,r⟩
  have hKb:K.In (hidT s₁.heap H):=fun b o e=>base_of (KX b o e) (by
   cases q:H b with
   | none=>rfl
   | some u =>
    rcases hA b (by rw [q]; simp) with e' | ⟨y,hy,e'⟩
    ·subst e'
     rw [hK (by rw [q]; simp)] at e; cases e
    ·subst e'
     rw [(hT y hy).2.1] at e; cases e)
  have hM:Mod K mg (hidT s₁.heap H):=⟨hKb,nsK hns,⟨mb,nsK hb,hbb⟩,let ⟨mc,h1,h2⟩:=hlim; ⟨mc,nsK h1,h2⟩⟩
  have e0:Env0 P w K mg (hidT s₁.heap H) callerA [] s₁ H:=⟨rfl,hM,fun b o e=>of_hidT e,Nat.le_of_eq (hidT_size _ _),trivial,fun b hb=>absurd (show b ∈ ([]:List Addr) from hb) (by simp),hok,.of_eq hg⟩
  have hBb:BltB mg (hidT s₁.heap H):=by
   obtain ⟨bm,ob,b1,b2,b3,b4,b5,b6,b7⟩:=hB
   refine ⟨bm,ob,b1,b2,b3,base_of b4 ?_,b5,b6,b7⟩
   cases q:H bm with
   | none=>rfl
   | some u =>
    rcases hA bm (by rw [q]; simp) with e' | ⟨y,hy,e'⟩
    ·rw [e',ha] at b4; cases b4; simp at b5
    ·rw [<- e',(hT y hy).2.2] at b4; cases b4; cases b5
  have hSb:(hidT s₁.heap H).NoSeer:=by
   refine ⟨let ⟨mc,a,b⟩:=hSr.statics; ⟨mc,nsK a,b⟩,let ⟨mm,a,b⟩:=hSr.mods; ⟨mm,nsK a,b⟩,let ⟨mb,a,b⟩:=hSr.imp; ⟨mb,nsK a,b⟩,?_⟩
   obtain ⟨mg',bm,ob,b1,b2,b4,b5,b6⟩:=hSr.main
   refine ⟨mg',bm,ob,nsK b1,b2,base_of b4 ?_,b5,b6⟩
   cases q:H bm with
   | none=>rfl
   | some u =>
    rcases hA bm (by rw [q]; simp) with e' | ⟨y,hy,e'⟩
    ·rw [e',ha] at b4; cases b4; simp at b5
    ·rw [<- e',(hT y hy).2.2] at b4; cases b4; cases b5
  refine codeAny_mono ((F _ hKb (nsK hns) hBb hSb).run callerA [] s₁ H ⟨[.ref a],[]⟩ [.ref a] [.ref a] _ _ hr e0 (hbind s₁ (.ref a)) (.cons rfl .nil) (hsp H (fun q hq=>(vw_new (hT q hq).2.1).trans (hTT q hq)) hK hS)) fun r s' h=>?_
  cases r with
  | error e=>exact (hCX H e s' h).elim
  | ok fl =>
   cases fl with
   | next=>exact False.elim h
   | brk=>exact False.elim h
   | cont=>exact False.elim h
   | ret u =>
    obtain ⟨v,H',os,bare,un,hok',r',q⟩:=h
    have q':v = .bl true:=q
    subst q'
    obtain rfl:u = Value.bool true:=r'
    have key:∀ b o,s₁.heap.get? b = some o -> s'.heap.get? b = some o \/ ((∃ y ∈ ts,y.2 = b) /\ o = PySem.W.tabObj #[] /\ ∃ more,s'.heap.get? b = some (PySem.W.tabObj more)):=fun b o e=>by
     cases q:H b with
     | none=>exact .inl (un.keep b o e q (by intro z; exact absurd (show b ∈ ([]:List Addr) from z) (by simp)) (by simp))
     | some u =>
      rcases hO b with z | ⟨ob,xs,z⟩ | ⟨z,y,hy,e'⟩
      ·rw [q] at z; cases z
      ·have z2:=un.frzs b ob _ z
       obtain ⟨e1,_⟩:=hok b _ z
       obtain ⟨e2,_⟩:=hok' b _ z2
       rw [e] at e1; cases e1
       exact .inl e2
      ·obtain ⟨more,z2⟩:=un.tbls b #[] z
       have e1:s₁.heap.get? b = some (PySem.W.tabObj #[]):=hok b _ z
       have e2:s'.heap.get? b = some (PySem.W.tabObj (#[] ++ more)):=hok' b _ z2
       rw [e] at e1; cases e1
       exact .inr ⟨⟨y,hy,e'⟩,rfl,_,e2⟩
    refine ⟨rfl,⟨fun b o e=>?_,fun b o e=>?_⟩,os,bare⟩
    ·rcases key b o e with z | ⟨⟨y,hy,e'⟩,z1,more,z2⟩
     ·exact .inl z
     ·subst z1 e'
      have cd:=PySem.W.codeHd_of_K KX (hT y hy).1
      exact .inr (.inl ⟨(cd.tab (hT y hy).2.2).isCodeTable,rfl,#[],more,rfl,by rw [z2]; simp⟩)
    ·rcases key b o e with z | ⟨_,_,more,z2⟩
     ·exact ⟨o,z⟩
     ·exact ⟨_,z2⟩
 have dec:∀ b,Decidable (∃ q ∈ ts,q.2 = b):=fun b=>Classical.propDecidable _
 have tabH:∀ q ∈ ts,ObjOk P w (fun _=>none) s₁.heap q.2 (.tbl #[]):=fun q hq=>(hT q hq).2.2
 cases hk:K.lookup a with
 | some o =>
  have e:=KX a o hk
  rw [ha] at e
  cases e
  refine core (fun b=>@ite _ (∃ q ∈ ts,q.2 = b) (dec b) (some (.tbl #[])) none) (fun b=>?_) (fun q hq=>if_pos ⟨q,hq,rfl⟩) (.inr ⟨_,vs.toArray,_,hk,rfl,rfl,rfl,by rw [List.size_toArray,lenV]; exact hl,by simpa using rv⟩) (fun b u z=>?_) (fun b z=>?_) fun z=>?_
  ·by_cases hb:∃ q ∈ ts,q.2 = b
   ·exact .inr (.inr ⟨if_pos hb,hb⟩)
   ·exact .inl (if_neg hb)
  ·by_cases hb:∃ q ∈ ts,q.2 = b
   ·have z':=(if_pos hb).symm.trans z
    cases z'
    obtain ⟨q,hq,rfl⟩:=hb
    exact (hT q hq).2.2
   ·have z':=(if_neg hb).symm.trans z
    cases z'
  ·by_cases hb:∃ q ∈ ts,q.2 = b
   ·exact .inr hb
   ·exact absurd (if_neg hb) z
  ·have:¬ ∃ q ∈ ts,q.2 = a:=fun ⟨q,hq,e⟩=>na q hq e
   exact absurd (if_neg this) z
 | none =>
  have ia:¬ ∃ q ∈ ts,q.2 = a:=fun ⟨q,hq,e⟩=>na q hq e
  refine core (fun b=>if b = a then some (.frz { cls:=.type "list",data:=.seq vs.toArray } (.lst (ns.map V.int))) else @ite _ (∃ q ∈ ts,q.2 = b) (dec b) (some (.tbl #[])) none) (fun b=>?_) (fun q hq=>?_) (.inl (.inr ⟨{ cls:=.type "list",data:=.seq vs.toArray },if_pos rfl⟩)) (fun b u z=>?_) (fun b z=>?_) fun _=>hk
  ·by_cases hb:b = a
   ·exact .inr (.inl ⟨_,_,if_pos hb⟩)
   ·by_cases hb2:∃ q ∈ ts,q.2 = b
    ·exact .inr (.inr ⟨(if_neg hb).trans (if_pos hb2),hb2⟩)
    ·exact .inl ((if_neg hb).trans (if_neg hb2))
  ·exact (if_neg (na q hq)).trans (if_pos ⟨q,hq,rfl⟩)
  ·by_cases hb:b = a
   ·have z':=(if_pos hb).symm.trans z
    cases z'
    subst hb
    exact ⟨ha,by rw [List.length_map]; exact hl,vs,_,rv,ha⟩
   ·by_cases hb2:∃ q ∈ ts,q.2 = b
    ·have z':=((if_neg hb).trans (if_pos hb2)).symm.trans z
     cases z'
     obtain ⟨q,hq,rfl⟩:=hb2
     exact (hT q hq).2.2
    ·have z':=((if_neg hb).trans (if_neg hb2)).symm.trans z
     cases z'
  ·by_cases hb:b = a
   ·exact .inl hb
   ·by_cases hb2:∃ q ∈ ts,q.2 = b
    ·exact .inr hb2
    ·exact absurd ((if_neg hb).trans (if_neg hb2)) z
theorem walk_ofM {l:PySem.W.OpenLaw} {n k:Nat} {q:Program} {loose:List Str} {XP:(Str -> Option Value) -> Heap -> Prop} {YP:World -> Heap -> Prop} {d:DefRec} {K:Params -> PySem.W.Frag} {CX:World -> CXT} {sp:World -> Sp} {x:Str} (ts:World -> List (Addr × Addr))
  (hn:l.most = some n) (hn2:n <= sizeLine) (hdf:d.params.defaults = []) (hr:Room k callerA) (hi:importsNone q = true)
  (hY:∀ (w:World) (h:Heap),YP w h -> (K w.params).In h /\ ∀ q ∈ ts w,PySem.W.codeHdIn (K w.params) q.1 q.2 = true /\ (K w.params).lookup q.2 = none /\ h.get? q.2 = some (PySem.W.tabObj #[]))
  (F:∀ (w:World) (mg:Str -> Option Value) (fa:Addr) (h:Heap),(K w.params).In h -> h.Ns mainGlobals mg -> mg d.name = some (.ref fa) ->
   ∃ fd:FuncData,(∀ (s:Shared) (u:Value),BindsTo s fd ⟨[u],[]⟩ [(x,u)]) /\
    ∀ base:Heap,(K w.params).In base -> base.Ns mainGlobals mg -> BltB mg base -> base.NoSeer -> FnOk l.prog w (K w.params) mg base (CX w) k fa fd [x] (sp w))
  (hsp:∀ (w:World) (H:Hp) (a:Addr) (ns:List Int),ns.length <= n -> (∀ q ∈ ts w,vw (K w.params) H q.2 = some (.tbl #[])) -> (H a ≠ none -> (K w.params).lookup a = none) -> SqL (K w.params) H a (ns.map V.int) -> sp w [.ref a] H (fun v _=>v = .bl true) fun _ _ _=>False)
  (hCX:∀ (w:World) (H:Hp) (s:Shared) (e:Value) (s':Shared),CX w [] H s (fun _ _ _=>False) e s' -> False) :
  PySem.W.WalkO q loose XP YP l.row.toRowW d [] (fun f vs=>PySem.call f vs):=by
 refine Att.attach_call hn hdf fun w s₀ s₁ mg mb fa o pm cd doc a vs ns G Y ho hd hcd hmg hobj hints hlen hg=>?_
 obtain ⟨KX,hT⟩:=hY w _ Y
 obtain ⟨fd,hb,hF⟩:=F w mg fa _ KX G.T.g hmg
 have hB:BltB mg s₁.heap:=by
  obtain ⟨bm,ob,b1,b2,b3,b4,b5,b6⟩:=G.T.bmain
  refine ⟨bm,ob,b1,b2,fun z=>?_,b3,b4,b5,b6⟩
  obtain ⟨o,es,ep,e,hd',_⟩:=G.T.g
  rw [z,e] at b3; cases b3; rw [hd'] at b6; cases b6
 exact law_callM KX G.T.g G.T.b G.T.builtins G.T.nolimit hg hobj hints (Nat.le_trans hlen hn2) hr hT hB (G.T.seer hi) hF hb (fun H hTT hK hS=>hsp w H a ns hlen hTT hK hS) fun H e s'=>hCX w H s₁ e s'
section
variable {P:Program} {w:World} {K:PySem.W.Frag} {mg:Str -> Option Value} {base:Heap}
end
end L2
namespace L2
open PySem PySem.Spec PyProof.Rows
end L2
namespace L2
open PySem PySem.Spec PyProof.Rows
def tTru (K:PySem.W.Frag) (ta:TE):TT:=fun σ H Q=>ta σ H fun x H'=>∃ k,TruV K x H' k /\ Q k H'
end L2
namespace L2
open PySem PySem.Spec PyProof.Rows
theorem But.of {P:Addr} {G G':Hp} (S:Same G G'):But P G G':=fun b o _ e=>S b o e
end L2
namespace L2
open PySem PySem.Spec PyProof.Rows
end L2
namespace L2
open PySem PySem.Spec PyProof.Rows
section
variable {P:Program} {w:World} {K:PySem.W.Frag} {mg:Str -> Option Value} {base:Heap}
end
def dotR (f g:Nat -> Rat):Nat -> Rat
 | 0=>0
 | n + 1=>dotR f g n + f n * g n
theorem dot_congr {f g f' g':Nat -> Rat}:∀ n,(∀ i,i < n -> f i = f' i) -> (∀ i,i < n -> g i = g' i) -> dotR f g n = dotR f' g' n
 | 0,_,_=>rfl
 | n + 1,h1,h2=>by
  show dotR f g n + f n * g n = dotR f' g' n + f' n * g' n
  rw [dot_congr n (fun i hi=>h1 i (by walk_at "o")) (fun i hi=>h2 i (by walk_at "o")),h1 n (by walk_at "o"),h2 n (by walk_at "o")]
def Sx (b:Nat) (q:Int × Int):Prop:=∃ n:Int,wv q = (n:Rat) / 6 /\ n.natAbs <= b
theorem Sx.mono {a b:Nat} {q:Int × Int} (h:Sx a q) (hl:a <= b):Sx b q:=by
 obtain ⟨n,h1,h2⟩:=h
 exact ⟨n,h1,by walk_at "o"⟩
theorem Sx.add {a b:Nat} {p q:Int × Int} (hp:p.2 ≠ 0) (hq:q.2 ≠ 0) (h1:Sx a p) (h2:Sx b q):Sx (a + b) (addq p q):=by
 obtain ⟨m,e1,l1⟩:=h1
 obtain ⟨n,e2,l2⟩:=h2
 refine ⟨m + n,?_,by walk_at "o"⟩
 rw [wv_add hp hq,e1,e2,Rat.intCast_add]
 grind
theorem Sx.lo {a z:Int} {b:Nat} (h0:0 <= z) (h3:z < 3) (ha:6 * a.natAbs <= b):Sx b (lo a (1 + z)):=by
 have hz:1 + z ≠ 0:=by walk_at "o"
 have c1:((1:Int):Rat) = 1:=rfl
 have c2:((2:Int):Rat) = 2:=rfl
 have c3:((3:Int):Rat) = 3:=rfl
 have c6:((6:Int):Rat) = 6:=rfl
 rcases (show z = 0 \/ z = 1 \/ z = 2 by walk_at "o") with rfl | rfl | rfl
 ·refine ⟨6 * a,?_,by walk_at "o"⟩
  rw [wv_lo hz,show (1:Int) + 0 = 1 from rfl,Rat.intCast_mul,c1,c6]
  grind
 ·refine ⟨3 * a,?_,by walk_at "o"⟩
  rw [wv_lo hz,show (1:Int) + 1 = 2 from rfl,Rat.intCast_mul,c2,c3]
  grind
 ·refine ⟨2 * a,?_,by walk_at "o"⟩
  rw [wv_lo hz,show (1:Int) + 2 = 3 from rfl,Rat.intCast_mul,c2,c3]
  grind
end L2
namespace L2
open PySem PySem.Spec PyProof.Rows
theorem tSeq.gen {t u:TS} {D:Ends} {σ:St} {H:Hp} (h:∀ N:St -> Hp -> Prop,(∀ σ' H',u D σ' H' -> N σ' H') -> t { D with nx:=N } σ H):tSeq t u D σ H:=h (u D) fun _ _ z=>z
end L2
namespace L2
open PySem PySem.Spec PyProof.Rows
theorem rangeSize_dn (a b:Int):Builtin.Range.rangeSize a b (-1) = if b < a then a - b else 0:=by
 unfold Builtin.Range.rangeSize
 simp only [show ¬ ((-1:Int) > 0) by decide,if_false,Int.neg_neg,Int.ediv_one]
 split <;> (try split) <;> walk_at "o"
theorem small_dn {a b:Int} (ha : -(2 ^ 61) <= a) (ha':a < 2 ^ 61) (hb : -(2 ^ 61) <= b) (hb':b < 2 ^ 61):Builtin.Range.small a b (-1) = true:=by
 unfold Builtin.Range.small
 rw [rangeSize_dn]
 simp only [Builtin.Range.rangeFitsLong,Bool.and_eq_true,Bool.or_eq_true,decide_eq_true_eq,beq_iff_eq,show ¬ ((-1:Int) > 0) by decide,if_false]
 split <;> walk_at "o"
def Itd (lo:Int) (n:Nat):It:=⟨fun i _=>i < n,fun i H x H'=>H' = H /\ x = .int (lo - i),fun i _=>n <= i⟩
theorem turn_dn {P:Program} {w:World} {K:PySem.W.Frag} {tg:Expr} (it:Addr) (lo:Int) (n:Nat):Turn P w K tg (Itd lo n) [it] it (fun j hp=>IsRangeIter hp it (lo + (j:Nat) * (-1)) ((n:Int) - (j:Nat)) (-1)) where
 mem:=List.mem_singleton.mpr rfl
 obj:=fun j hp st b hb=>by
  cases List.mem_singleton.mp hb
  refine ⟨_,st,fun v z=>?_⟩
  exact Data.noConfusion (show Data.fields _ = Data.cell v from z)
 keep:=fun _ _ _ st k=>k it (List.mem_singleton.mpr rfl) _ st
 item:=by
  intro Y hP hw hK hc j pins s σ H E J hf st hg
  subst hP hw hK
  obtain ⟨g0,g1,g2,g3,g4,g5⟩:=hf it (List.mem_singleton.mpr rfl)
  refine (Walks.range (prog:=Y.prog) (w:=Y.w) (J.ok.hd hc) it lo (-1) n).item j s _ _ hg st fun v hp tk hv st1 kk=>?_
  obtain ⟨t,rfl⟩:=hv
  have J1:Inv Y pins σ H { s with heap:=hp,toks:=tk }:=J.turned (fun b o hb e=>kk b o (fun z=>hb (List.mem_singleton.mp z)) e) g0 g1 g3 g4 g5
  refine ⟨_,rfl,go_of (s:={ s with heap:=hp,toks:=tk }) (n:="range_iterator") st1 rfl rfl (by decide) ⟨.int (lo - j),H,J1,⟨t,?_⟩,⟨rfl,rfl⟩,st1,fun b hb=>(hf b hb).1⟩⟩
  rw [show lo + (j:Nat) * (-1) = lo - (j:Int) by walk_at "o"]
 done:=by
  intro Y hP hw hK hc j pins s σ H E J hf st hg
  subst hP hw hK
  obtain ⟨g0,g1,g2,g3,g4,g5⟩:=hf it (List.mem_singleton.mpr rfl)
  have hj:n <= j:=hg
  exact wpAny_pyNext_range_end (J.ok.hd hc) st (by walk_at "o") fun hp eb=>⟨rfl,J.turned (t':=s.toks) (fun b o hb e=>eb b o hb e) g0 g1 g3 g4 g5⟩
 self:=fun _ _ _ _ _ st h=>wpAny_pyIter_rangeiter st h
section
variable {X:Cx} {tg:Expr}
def iRng3 (ta:TA):TI:=fun σ H R=>ta σ H fun vs H1=>∃ i j:Int,vs = [.int i,.int j,.int (-1)] /\ (-(2 ^ 61) <= i /\ i < 2 ^ 61 /\ -(2 ^ 61) <= j /\ j < 2 ^ 61) /\ R (Itd i (i - j).toNat) H1
theorem pi_range3 {a b c:Expr} {ta:TA} {p pos:Pos} (hg:Gl X "range") (hm:X.mg "range" = none) (ha:PA X [a,b,c] ta) (hs:starEach [a,b,c] X.env = [(false,eval a X.env),(false,eval b X.env),(false,eval c X.env)]:=by rfl)
  (hs2:starEach [b,c] X.env = [(false,eval b X.env),(false,eval c X.env)]:=by rfl):PI X tg (.Call (.Name "range" p) [a,b,c] [] pos) (iRng3 ta):=by
 intro pins s σ H R I h
 refine Call_ (ld_blt I hg hm boot_range (PyProof.Rows.callWith_type1 (thn (ha pos pins s σ H _ I h) fun us s1 ⟨vs,H1,I1,r1,q1⟩=>?_) (by rw [hs,hs2]) (by rw [hs2]; rfl)))
 obtain ⟨i,j,e,⟨q1,q2,q3,q4⟩,q⟩:=q1
 subst e
 cases r1 with
 | cons ri rr =>
  cases rr with
  | cons rj rr =>
   cases rr with
   | cons rk rr =>
    cases rr
    obtain ⟨t1,rfl⟩:=ri
    obtain ⟨t2,rfl⟩:=rj
    obtain ⟨t3,rfl⟩:=rk
    refine call_range_3 (by decide) ?_ (.inl (PyProof.noPylong_of_log2 (by decide +kernel)))
    refine wpAny_pyIter_range (IsRange.new ..) (small_dn q1 q2 q3 q4) ?_
    have J:Inv X pins σ H1 { s1 with heap:=s1.heap.push { cls:=.type "range",data:=.fields #[.int i t1,.int j t2,.int (-1) t3] },toks:=s1.toks }:=I1.kept fun b o e=>Heap.get?_push_of_some _ e
    obtain ⟨a1,ha1⟩ : ∃ a1,a1 = (s1.heap.push { cls:=.type "range",data:=.fields #[.int i t1,.int j t2,.int (-1) t3] }).objs.size:=⟨_,rfl⟩
    refine ⟨_,[_],_,_,H1,rfl,J.kept (t':=s1.toks) fun b o e=>Heap.get?_push_of_some _ e,turn_dn _ i (i - j).toNat,?_,fun b hb=>?_,q⟩
    ·have e1:i + ((0:Nat):Int) * (-1) = i:=by simp
     have e2:(((i - j).toNat:Nat):Int) - ((0:Nat):Int) = Builtin.Range.rangeSize i j (-1):=by rw [rangeSize_dn]; split <;> walk_at "o"
     show IsRangeIter _ _ (i + ((0:Nat):Int) * (-1)) ((((i - j).toNat:Nat):Int) - ((0:Nat):Int)) (-1)
     rw [e1,e2]
     exact Heap.get?_push_size _ rfl
    ·cases List.mem_singleton.mp hb
     exact J.fpOk (Nat.le_refl _) (J.hok.fresh (Nat.le_refl _))
theorem qi_range3 {a b c:Expr} {ta:TA} {p pos:Pos} (hg:Gl X "range") (hm:X.mg "range" = none) (ha:QA X [a,b,c] ta) (hs:starEach [a,b,c] X.env = [(false,eval a X.env),(false,eval b X.env),(false,eval c X.env)]:=by rfl)
  (hs2:starEach [b,c] X.env = [(false,eval b X.env),(false,eval c X.env)]:=by rfl):QI X tg (.Call (.Name "range" p) [a,b,c] [] pos) (iRng3 ta):=⟨pi_range3 hg hm ha.h hs hs2⟩
end
def idn (lo:Int) (n:Nat):List V:=(List.range n).map fun (k:Nat)=>V.int (lo - k)
theorem idn_len {lo:Int} {n:Nat}:(idn lo n).length = n:=by simp [idn]
theorem idn_at {lo:Int} {n i:Nat} {x:V} (h:(idn lo n)[i]? = some x):i < n /\ x = .int (lo - i):=by
 have hi:i < n:=by
  have:=(List.getElem?_eq_some_iff.mp h).1
  simpa [idn] using this
 refine ⟨hi,?_⟩
 simp [idn,hi] at h
 exact h.symm
theorem items_dn {lo:Int} {n:Nat} {H:Hp}:Items (Itd lo n) H (idn lo n):=by
 refine ⟨fun i hi=>by show i < n; simpa [idn] using hi,fun i x H' hi y=>⟨y.1,?_⟩,by show n <= (idn lo n).length; simp [idn]⟩
 have hi':i < n:=by simpa [idn] using hi
 obtain ⟨_,rfl⟩:=y
 simp [idn,hi']
end L2
namespace L2
open PySem PySem.Spec PyProof.Rows
theorem pr_at {f g:Nat -> Rat} {d i:Nat} (hg:∀ j,d < j -> g j = 0) (hf:∀ j,i < j -> f j = 0):∀ n,pr f g n (i + d) = if i < n then f i * g d else 0
 | 0=>by simp [pr]
 | n + 1=>by
  have ih:=pr_at hg hf n
  show pr f g n (i + d) + (if n <= i + d then f n * g (i + d - n) else 0) = _
  rw [ih]
  rcases Nat.lt_trichotomy i n with h | h | h
  ·rw [hf n h,if_pos h,if_pos (show i < n + 1 by walk_at "o")]
   split <;> grind
  ·subst h
   rw [if_neg (by walk_at "o"),if_pos (by walk_at "o"),if_pos (by walk_at "o"),show i + d - i = d by walk_at "o"]
   grind
  ·rw [if_neg (by walk_at "o"),if_pos (by walk_at "o"),if_neg (by walk_at "o"),hg _ (by walk_at "o")]
   grind
theorem pr_sub {f f' g:Nat -> Rat}:∀ n k,pr (fun i=>f i - f' i) g n k = pr f g n k - pr f' g n k
 | 0,_=>by
  show (0:Rat) = 0 - 0
  grind
 | n + 1,k=>by
  show pr _ g n k + (if n <= k then (f n - f' n) * g (k - n) else 0) = (pr f g n k + if n <= k then f n * g (k - n) else 0) - (pr f' g n k + if n <= k then f' n * g (k - n) else 0)
  rw [pr_sub n k]
  split <;> grind
theorem pr_more {f g:Nat -> Rat} {n:Nat} (hf:∀ i,n <= i -> f i = 0):∀ m k,pr f g (n + m) k = pr f g n k
 | 0,_=>rfl
 | m + 1,k=>by
  show pr f g (n + m) k + (if n + m <= k then f (n + m) * g (k - (n + m)) else 0) = _
  rw [pr_more hf m k,hf (n + m) (by walk_at "o")]
  split <;> grind
theorem div_zero {e g r:Nat -> Rat} {n d:Nat} (he:∀ i,n <= i -> e i = 0) (hg:∀ j,d < j -> g j = 0) (hd:g d ≠ 0) (hr:∀ k,d <= k -> r k = 0) (h:∀ k,pr e g n k = r k):∀ i,e i = 0:=by
 have step:∀ m i,n <= i + m -> e i = 0:=by
  intro m
  induction m with
  | zero=>intro i hi; exact he i hi
  | succ m ih =>
   intro i hi
   by_cases hin:n <= i
   ·exact he i hin
   have hab:∀ j,i < j -> e j = 0:=fun j hj=>ih j (by walk_at "o")
   have e1:=pr_at hg hab n
   rw [if_pos (by walk_at "o"),h,hr _ (by walk_at "o")] at e1
   rcases Rat.mul_eq_zero.mp e1.symm with z | z
   ·exact z
   ·exact absurd z hd
 intro i
 exact step n i (by walk_at "o")
theorem div_unique {q q' g r r':Nat -> Rat} {n n' d:Nat} (hq:∀ i,n <= i -> q i = 0) (hq':∀ i,n' <= i -> q' i = 0) (hg:∀ j,d < j -> g j = 0) (hd:g d ≠ 0) (hr:∀ k,d <= k -> r k = 0) (hr':∀ k,d <= k -> r' k = 0)
  (h:∀ k,pr q g n k + r k = pr q' g n' k + r' k):(∀ i,q i = q' i) /\ ∀ k,r k = r' k:=by
 have a:∀ k,pr q g (n + n') k = pr q g n k:=fun k=>pr_more hq n' k
 have b:∀ k,pr q' g (n + n') k = pr q' g n' k:=fun k=>by rw [Nat.add_comm]; exact pr_more hq' n k
 have z:=div_zero (e:=fun i=>q i - q' i) (g:=g) (r:=fun k=>r' k - r k) (n:=n + n') (d:=d) (fun i hi=>by
  show q i - q' i = 0
  rw [hq i (by walk_at "o"),hq' i (by walk_at "o")]
  grind) hg hd (fun k hk=>by
  show r' k - r k = 0
  rw [hr k hk,hr' k hk]
  grind) (fun k=>by
  rw [pr_sub,a,b]
  have:=h k
  grind)
 have e:∀ i,q i = q' i:=fun i=>by
  have:q i - q' i = 0:=z i
  grind
 refine ⟨e,fun k=>?_⟩
 have e2:pr q g n k = pr q' g n' k:=by
  rw [<- a,<- b,show q = q' from funext e]
 have:=h k
 grind
end L2
namespace L2
open PySem PySem.Spec PyProof.Rows
theorem len_le {rs:List (Int × Int)} (h:PolyOk rs) {m:Nat} (hz:∀ k,m <= k -> cf rs k = 0):rs.length <= m:=by
 refine Nat.le_of_not_lt fun hm=>?_
 have hl:rs.length - 1 < rs.length:=by walk_at "o"
 have e:rs.getLast? = some rs[rs.length - 1]:=by rw [List.getLast?_eq_getElem?,List.getElem?_eq_getElem hl]
 have z:=hz (rs.length - 1) (by walk_at "o")
 rw [cf_some (List.getElem?_eq_getElem hl)] at z
 exact h.2 _ e ((wv_zero (h.1 _ (List.getElem_mem hl)).ne).mp z)
theorem peq_int (m n:Int):peq (.int m) (.int n) = decide (m = n):=by
 unfold peq D.py
 simp only [PyData.eqv]
 rw [Bool.eq_iff_iff]
 simp
theorem cmp_int (i:Int):(D.int i).cmp:=by
 unfold D.cmp D.py
 exact ⟨rfl,Nat.le_of_ble_eq_true rfl⟩
theorem nz_take {ns:List Int} {m:Nat} (h:∀ n ∈ ns.drop m,n = 0) (k:Nat):nz (ns.take m) k = nz ns k:=by
 unfold nz
 rw [List.getD_eq_getElem?_getD,List.getD_eq_getElem?_getD,List.getElem?_take]
 by_cases hk:k < m
 ·rw [if_pos hk]
 ·rw [if_neg hk]
  cases e:ns[k]? with
  | none=>rfl
  | some n =>
   have:n ∈ ns.drop m:=by
    have e2:(ns.drop m)[k - m]? = some n:=by rw [List.getElem?_drop,show m + (k - m) = k by walk_at "o"]; exact e
    exact List.mem_of_getElem? e2
   rw [h n this]
   rfl
end L2
namespace L2
open PySem PySem.Spec PyProof.Rows
theorem pz_set {f g:Nat -> Int} {i:Nat} {c:Int} (h0:f i = 0):∀ n k,pz (fun j=>if j = i then c else f j) g n k = pz f g n k + if i < n /\ i <= k then c * g (k - i) else 0
 | 0,k=>by
  show (0:Int) = 0 + _
  rw [if_neg (by walk_at "o")]
  rfl
 | n + 1,k=>by
  show pz _ g n k + (if n <= k then (if n = i then c else f n) * g (k - n) else 0) = (pz f g n k + if n <= k then f n * g (k - n) else 0) + _
  rw [pz_set h0 n k]
  rcases Nat.lt_trichotomy n i with h | h | h
  ·simp only [if_neg (show ¬ (i < n /\ i <= k) by walk_at "o"),if_neg (show ¬ n = i by walk_at "o"),if_neg (show ¬ (i < n + 1 /\ i <= k) by walk_at "o")]
   walk_at "o"
  ·subst h
   rw [h0]
   by_cases hk:n <= k
   ·simp only [if_pos hk,if_pos (show n < n + 1 /\ n <= k from ⟨by walk_at "o",hk⟩),if_neg (show ¬ (n < n /\ n <= k) by walk_at "o"),Int.zero_mul,if_true]
    try walk_at "o"
   ·simp only [if_neg hk,if_neg (show ¬ (n < n + 1 /\ n <= k) by walk_at "o"),if_neg (show ¬ (n < n /\ n <= k) by walk_at "o")]
  ·simp only [if_neg (show ¬ n = i by walk_at "o")]
   by_cases hk:i <= k
   ·simp only [if_pos (show i < n /\ i <= k from ⟨h,hk⟩),if_pos (show i < n + 1 /\ i <= k from ⟨by walk_at "o",hk⟩)]
    walk_at "o"
   ·simp only [if_neg (show ¬ (i < n /\ i <= k) by walk_at "o"),if_neg (show ¬ (i < n + 1 /\ i <= k) by walk_at "o")]
    walk_at "o"
theorem pz_mul {f g:Nat -> Int} {c:Int}:∀ n k,pz (fun j=>c * f j) g n k = c * pz f g n k
 | 0,_=>by show (0:Int) = c * 0; walk_at "o"
 | n + 1,k=>by
  show pz _ g n k + (if n <= k then c * f n * g (k - n) else 0) = c * (pz f g n k + if n <= k then f n * g (k - n) else 0)
  rw [pz_mul n k]
  split
  ·rw [Int.mul_add,Int.mul_assoc]
  ·simp
theorem pz_zero {f g:Nat -> Int} (h:∀ i,f i = 0):∀ n k,pz f g n k = 0
 | 0,_=>rfl
 | n + 1,k=>by
  show pz f g n k + (if n <= k then f n * g (k - n) else 0) = 0
  rw [pz_zero h n k,h n]
  simp
theorem nz_setv {ns:List Int} {i k:Nat} {v:Int} (hi:i < ns.length):nz (ns.set i v) k = if k = i then v else nz ns k:=by
 unfold nz
 rw [List.getD_eq_getElem?_getD,List.getD_eq_getElem?_getD,List.getElem?_set]
 by_cases h:i = k
 ·subst h
  simp [hi]
 ·rw [if_neg h,if_neg (fun z=>h z.symm)]
theorem nz_mapc {ns:List Int} {c:Int} (k:Nat):nz (ns.map fun x=>c * x) k = c * nz ns k:=by
 unfold nz
 rw [List.getD_eq_getElem?_getD,List.getD_eq_getElem?_getD,List.getElem?_map]
 cases ns[k]? <;> simp
theorem nz_dropLast {ns:List Int} (k:Nat):nz ns.dropLast k = if k = ns.length - 1 then 0 else nz ns k:=by
 unfold nz
 rw [List.getD_eq_getElem?_getD,List.getD_eq_getElem?_getD,List.getElem?_dropLast]
 by_cases h:k < ns.length - 1
 ·rw [if_pos h,if_neg (by walk_at "o")]
 ·rw [if_neg h]
  by_cases h2:k = ns.length - 1
  ·rw [if_pos h2]
   rfl
  ·rw [if_neg h2,List.getElem?_eq_none (by walk_at "o")]
theorem part_step {ms:Nat -> Int} {S P:Int} {Q Q' N R R1 R2:Nat -> Int} {n p l:Nat} (h:∀ k,S * ms k = pz Q N n k + R k) (h0:Q p = 0) (hQ:∀ k,Q' k = if k = p then P else Q k) (hp:p < n) (hN:∀ j,l < j -> N j = 0)
  (ht:R (p + l) = P * N l) (h1:∀ k,R1 k = if k = p + l then 0 else R k) (h2:∀ k,R2 k = R1 k - if p <= k /\ k < p + l then P * N (k - p) else 0):∀ k,S * ms k = pz Q' N n k + R2 k:=by
 intro k
 rw [show Q' = fun j=>if j = p then P else Q j from funext hQ,pz_set h0,h k,h2 k,h1 k]
 by_cases a:p <= k
 ·rw [if_pos ⟨hp,a⟩]
  rcases Nat.lt_trichotomy k (p + l) with b | b | b
  ·rw [if_neg (show ¬ k = p + l by walk_at "o"),if_pos ⟨a,b⟩]
   walk_at "o"
  ·subst b
   rw [if_pos rfl,if_neg (by walk_at "o"),ht,show p + l - p = l by walk_at "o"]
   walk_at "o"
  ·rw [if_neg (show ¬ k = p + l by walk_at "o"),if_neg (by walk_at "o"),hN _ (show l < k - p by walk_at "o")]
   walk_at "o"
 ·rw [if_neg (by walk_at "o"),if_neg (show ¬ k = p + l by walk_at "o"),if_neg (by walk_at "o")]
  walk_at "o"
end L2
namespace L2
open PySem PySem.Spec PyProof.Rows
end L2
namespace L2
open PySem PySem.Spec PyProof.Rows
section
variable {X:Cx} {a b c:Expr} {ta tb tc:TE} {pos:Pos}
end
end L2
namespace L2
open PySem PySem.Spec PyProof.Rows
end L2
namespace L2
open PySem PySem.Spec PyProof.Rows
def isBl (x:V) (P:Bool -> Prop):Prop:=match x with | .bl k=>P k | _=>False
def isInt (x:V) (P:Int -> Prop):Prop:=match x with | .int k=>P k | _=>False
def isRef (x:V) (P:Addr -> Prop):Prop:=match x with | .ref k=>P k | _=>False
def isVar (x:Option (Option V)) (P:V -> Prop):Prop:=match x with | some (some v)=>P v | _=>False
def is1 (x:List V) (P:V -> Prop):Prop:=match x with | [v]=>P v | _=>False
def is2 (x:List V) (P:V -> V -> Prop):Prop:=match x with | [v,u]=>P v u | _=>False
theorem isBl_mk {k:Bool} {P:Bool -> Prop}:isBl (.bl k) P = P k:=rfl
theorem isInt_mk {k:Int} {P:Int -> Prop}:isInt (.int k) P = P k:=rfl
theorem isRef_mk {k:Addr} {P:Addr -> Prop}:isRef (.ref k) P = P k:=rfl
theorem isVar_mk {k:V} {P:V -> Prop}:isVar (some (some k)) P = P k:=rfl
theorem is1_mk {k:V} {P:V -> Prop}:is1 [k] P = P k:=rfl
theorem is2_mk {k l:V} {P:V -> V -> Prop}:is2 [k,l] P = P k l:=rfl
theorem isBl_iff {x:V} {P:Bool -> Prop}:isBl x P = ∃ k,x = .bl k /\ P k:=propext (by cases x <;> simp [isBl])
theorem isInt_iff {x:V} {P:Int -> Prop}:isInt x P = ∃ k,x = .int k /\ P k:=propext (by cases x <;> simp [isInt])
theorem isRef_iff {x:V} {P:Addr -> Prop}:isRef x P = ∃ k,x = .ref k /\ P k:=propext (by cases x <;> simp [isRef])
theorem isVar_iff {x:Option (Option V)} {P:V -> Prop}:isVar x P = ∃ k,x = some (some k) /\ P k:=propext (by rcases x with _ | _ | v <;> simp [isVar])
theorem is1_iff {x:List V} {P:V -> Prop}:is1 x P = ∃ k,x = [k] /\ P k:=propext (by rcases x with _ | ⟨v,_ | ⟨u,r⟩⟩ <;> simp [is1])
theorem is2_iff {x:List V} {P:V -> V -> Prop}:is2 x P = ∃ k l,x = [k,l] /\ P k l:=propext ⟨fun h=>match x,h with | [v,u],h=>⟨v,u,rfl,h⟩,fun ⟨k,l,e,h⟩=>by subst e; exact h⟩
theorem ex2 {α β:Sort _} {A:α -> Prop} {B:β -> Prop} {C:α -> β -> Prop}:(∃ i j,A i /\ B j /\ C i j) = ∃ i,A i /\ ∃ j,B j /\ C i j:=propext ⟨fun ⟨i,j,a,b,c⟩=>⟨i,a,j,b,c⟩,fun ⟨i,a,j,b,c⟩=>⟨i,j,a,b,c⟩⟩
def mVar (i:Nat):TE:=fun σ H Q=>isVar σ[i]? fun v=>Q v H
theorem tVar_m {i:Nat}:tVar i = mVar i:=by funext σ H Q; exact isVar_iff.symm
def mTest (t:TE):TT:=fun σ H Q=>t σ H fun x H'=>isBl x fun k=>Q k H'
theorem tTest_m {t:TE}:tTest t = mTest t:=by
 funext σ H Q
 unfold tTest mTest
 congr 1
 funext x H'
 exact isBl_iff.symm
theorem tB_m {t:TE}:tB t = mTest t:=tTest_m
def mAndV (ta tb:TE):TE:=fun σ H Q=>ta σ H fun x H1=>isBl x fun c=>if c = true then tb σ H1 Q else Q (.bl false) H1
theorem tAndV_m {ta tb:TE}:tAndV ta tb = mAndV ta tb:=by
 funext σ H Q
 unfold tAndV mAndV
 congr 1
 funext x H'
 exact isBl_iff.symm
def mOrV (ta tb:TE):TE:=fun σ H Q=>ta σ H fun x H1=>isBl x fun c=>if c = true then Q (.bl true) H1 else tb σ H1 Q
theorem tOrV_m {ta tb:TE}:tOrV ta tb = mOrV ta tb:=by
 funext σ H Q
 unfold tOrV mOrV
 congr 1
 funext x H'
 exact isBl_iff.symm
def mNotV (ta:TE):TE:=fun σ H Q=>ta σ H fun x H1=>isBl x fun c=>Q (.bl (!c)) H1
theorem tNotV_m {ta:TE}:tNotV ta = mNotV ta:=by
 funext σ H Q
 unfold tNotV mNotV
 congr 1
 funext x H'
 exact isBl_iff.symm
def mI (C:Int -> Int -> Prop) (g:Int -> Int -> V):R2:=fun x y H Q=>isInt x fun i=>isInt y fun j=>C i j /\ Q (g i j) H
theorem rI_m {C:Int -> Int -> Prop} {g:Int -> Int -> V}:rI C g = mI C g:=by
 funext x y H Q
 unfold rI mI
 rw [isInt_iff]
 simp only [isInt_iff]
 exact ex2
def mI0 (g:Int -> Int -> V):R2:=fun x y H Q=>isInt x fun i=>isInt y fun j=>Q (g i j) H
theorem rI0_m {g:Int -> Int -> V}:rI0 g = mI0 g:=by
 funext x y H Q
 unfold rI0 mI0
 simp only [isInt_iff]
 exact ex2
def mU (g:Int -> V):V -> Hp -> VK -> Prop:=fun x H Q=>isInt x fun i=>Q (g i) H
theorem rU_m {g:Int -> V}:rU g = mU g:=by
 funext x H Q
 exact isInt_iff.symm
theorem scal_int {i j:Int}:scal (.int i) (.int j) = true:=rfl
theorem scal_bl {i j:Bool}:scal (.bl i) (.bl j) = true:=rfl
def mEq:R2:=fun x y H Q=>match x,y with | .int i,.int j=>Q (.bl (decide (i = j))) H | _,_=>rEq x y H Q
theorem mEq_int {i j:Int} {H:Hp} {Q:VK}:mEq (.int i) (.int j) H Q = Q (.bl (decide (i = j))) H:=rfl
theorem rEq_m:rEq = mEq:=by
 funext x y H Q
 unfold mEq
 split
 ·unfold rEq
  show (scal _ _ = true /\ _) = _
  simp only [scal_int,V.int.injEq,true_and]
 ·rfl
theorem mEq_iff {x y:V} {H:Hp} {Q:VK}:mEq x y H Q = rEq x y H Q:=by rw [rEq_m]
def mNe:R2:=fun x y H Q=>match x,y with | .int i,.int j=>Q (.bl (!decide (i = j))) H | _,_=>rNe x y H Q
theorem mNe_int {i j:Int} {H:Hp} {Q:VK}:mNe (.int i) (.int j) H Q = Q (.bl (!decide (i = j))) H:=rfl
theorem rNe_m:rNe = mNe:=by
 funext x y H Q
 unfold mNe
 split
 ·unfold rNe
  show (scal _ _ = true /\ _) = _
  simp only [scal_int,V.int.injEq,true_and]
 ·rfl
theorem mNe_iff {x y:V} {H:Hp} {Q:VK}:mNe x y H Q = rNe x y H Q:=by rw [rNe_m]
section
variable {K:PySem.W.Frag}
def mIxH (K:PySem.W.Frag):R2:=fun x y H Q=>isRef x fun p=>isInt y fun i=>∃ xs,vw K H p = some (.lst xs) /\ ∃ v,atI xs i = some v /\ Q v H
theorem rIxH_m:rIxH K = mIxH K:=by
 funext x y H Q
 unfold rIxH mIxH
 simp only [isInt_iff,isRef_iff]
 exact ex2
def mIxU (K:PySem.W.Frag):R2:=fun x y H Q=>isRef x fun p=>isInt y fun i=>∃ xs,vw K H p = some (.tup xs) /\ ∃ v,atI xs i = some v /\ Q v H
theorem rIxU_m:rIxU K = mIxU K:=by
 funext x y H Q
 unfold rIxU mIxU
 simp only [isInt_iff,isRef_iff]
 exact ex2
def mEqD (K:PySem.W.Frag) (neg:Bool):R2:=fun x y H Q=>∃ d,Rep (vw K H) d x /\ ∃ e,Rep (vw K H) e y /\ d.cmp /\ e.cmp /\ Q (.bl (cond neg (!peq d e) (peq d e))) H
theorem rEqD_m {neg:Bool}:rEqD K neg = mEqD K neg:=by
 funext x y H Q
 unfold rEqD mEqD
 cases neg <;> exact ex2
def mNil (K:PySem.W.Frag) (neg:Bool):R2:=fun x y H Q=>isRef x fun p=>isRef y fun q=>∃ xs,vw K H p = some (.lst xs) /\ vw K H q = some (.lst []) /\ Q (.bl (cond neg (!xs.isEmpty) xs.isEmpty)) H
theorem rNil_m {neg:Bool}:rNil K neg = mNil K neg:=by
 funext x y H Q
 unfold rNil mNil
 simp only [isRef_iff]
 cases neg <;> exact ex2
def mPart (t:TE):TO:=fun σ H Q=>t σ H fun x H1=>isInt x fun i=>Q (some i) H1
theorem tPart_m {t:TE}:tPart t = mPart t:=by
 funext σ H Q
 unfold tPart mPart
 congr 1
 funext x H'
 exact isInt_iff.symm
def mSlS (K:PySem.W.Frag):V -> Option Int -> Option Int -> Hp -> VK -> Prop:=fun x lo hi H Q=>isRef x fun a=>∃ xs,vw K H a = some (.lst xs) /\ Nw K H (.lst (cutV xs lo hi)) Q
theorem rSlS_m:rSlS K = mSlS K:=by
 funext x lo hi H Q
 exact isRef_iff.symm
def mAppS (K:PySem.W.Frag):V -> List V -> Hp -> VK -> Prop:=fun x vs H Q=>isRef x fun l=>is1 vs fun y=>∃ xs,vw K H l = some (.lst xs) /\ xs.length < sizeLine /\ Chg K H l (.lst (xs ++ [y])) (Q .non)
theorem rAppS_m:rAppS K = mAppS K:=by
 funext x y H Q
 unfold rAppS mAppS
 simp only [isRef_iff,is1_iff]
 exact ex2
def mSetS (K:PySem.W.Frag):V -> V -> V -> Hp -> (Hp -> Prop) -> Prop:=fun o i v H Q=>isRef o fun p=>isInt i fun k=>∃ xs,vw K H p = some (.lst xs) /\ ∃ j,ixN xs.length k = some j /\ Chg K H p (.lst (xs.set j v)) Q
theorem rSetS_m:rSetS K = mSetS K:=by
 funext x y v H Q
 unfold rSetS mSetS
 simp only [isRef_iff,isInt_iff]
 exact ex2
def mPar (i j:Nat) (ta:TA):TS:=fun D σ H=>ta σ H fun vs H1=>is2 vs fun v w=>D.nx ((σ.set i (some v)).set j (some w)) H1
theorem tPar_m {i j:Nat} {ta:TA}:tPar i j ta = mPar i j ta:=by
 funext D σ H
 unfold tPar mPar
 congr 1
 funext x H'
 exact is2_iff.symm
def mAug (i:Nat) (te:TE) (ti:TIp):TS:=fun D σ H=>isVar σ[i]? fun x=>te σ H fun y H1=>ti x y H1 fun z H2=>D.nx (σ.set i (some z)) H2
theorem tAug_m {i:Nat} {te:TE} {ti:TIp}:tAug i te ti = mAug i te ti:=by
 funext D σ H
 exact isVar_iff.symm
def mList (K:PySem.W.Frag) (tl:TE):TI:=fun σ H R=>tl σ H fun x H1=>isRef x fun a=>(∃ xs,SqL K H1 a xs) /\ R (Itl K a) H1
theorem iList_m {tl:TE}:iList K tl = mList K tl:=by
 funext σ H R
 unfold iList mList
 congr 1
 funext x H'
 exact isRef_iff.symm
def mRng1 (ta:TA):TI:=fun σ H R=>ta σ H fun vs H1=>is1 vs fun x=>isInt x fun j=>-(2 ^ 62) <= j /\ j < 2 ^ 62 /\ R (Itr 0 j.toNat) H1
theorem iRng1_m {ta:TA}:iRng1 ta = mRng1 ta:=by
 funext σ H R
 unfold iRng1 mRng1
 congr 1
 funext x H'
 simp only [is1_iff,isInt_iff]
 exact propext ⟨fun ⟨j,a,b⟩=>⟨_,a,j,rfl,b⟩,fun ⟨_,a,j,e,b⟩=>⟨j,by rw [a,e],b⟩⟩
def mPlus (K:PySem.W.Frag):R2:=fun x y H Q=>match x,y with
 | .int i,.int j=>Q (.int (i + j)) H
 | .ref l,.ref b=>∃ xs,vw K H l = some (.lst xs) /\ ∃ zs,vw K H b = some (.lst zs) /\ xs.length + zs.length <= sizeLine /\ Nw K H (.lst (xs ++ zs)) Q
 | _,_=>rPlus K x y H Q
theorem mPlus_int {i j:Int} {H:Hp} {Q:VK}:mPlus K (.int i) (.int j) H Q = Q (.int (i + j)) H:=rfl
theorem mPlus_cat {l b:Addr} {H:Hp} {Q:VK}:mPlus K (.ref l) (.ref b) H Q = ∃ xs,vw K H l = some (.lst xs) /\ ∃ zs,vw K H b = some (.lst zs) /\ xs.length + zs.length <= sizeLine /\ Nw K H (.lst (xs ++ zs)) Q:=rfl
theorem rPlus_m:rPlus K = mPlus K:=by
 funext x y H Q
 unfold mPlus
 split
 ·exact rPlus_int
 ·exact rPlus_cat
 ·rfl
theorem mPlus_iff {x y:V} {H:Hp} {Q:VK}:mPlus K x y H Q = rPlus K x y H Q:=by rw [rPlus_m]
def mMul (K:PySem.W.Frag):R2:=fun x y H Q=>match x,y with
 | .int i,.int j=>IntMulOk i j /\ Q (.int (i * j)) H
 | _,_=>rMul K x y H Q
theorem mMul_int {i j:Int} {H:Hp} {Q:VK}:mMul K (.int i) (.int j) H Q = (IntMulOk i j /\ Q (.int (i * j)) H):=rfl
theorem rMul_m:rMul K = mMul K:=by
 funext x y H Q
 unfold mMul
 split
 ·exact rMul_int
 ·rfl
theorem mMul_iff {x y:V} {H:Hp} {Q:VK}:mMul K x y H Q = rMul K x y H Q:=by rw [rMul_m]
end
def mCR (P:Addr -> Hp -> VK -> Prop) (t:TA):TE:=fun σ H Q=>t σ H fun vs H1=>is1 vs fun x=>isRef x fun p=>P p H1 Q
theorem tCB_r {P:Addr -> Hp -> VK -> Prop} {t:TA}:tCB (fun xs H Q=>∃ p,xs = [.ref p] /\ P p H Q) t = mCR P t:=by
 funext σ H Q
 unfold tCB mCR
 congr 1
 funext x H'
 simp only [is1_iff,isRef_iff]
 exact propext ⟨fun ⟨j,a,b⟩=>⟨_,a,j,rfl,b⟩,fun ⟨_,a,j,e,b⟩=>⟨j,by rw [a,e],b⟩⟩
def mCI (P:Int -> Int -> Hp -> VK -> Prop) (t:TA):TE:=fun σ H Q=>t σ H fun vs H1=>is2 vs fun x y=>isInt x fun i=>isInt y fun j=>P i j H1 Q
theorem tCB_i {P:Int -> Int -> Hp -> VK -> Prop} {t:TA}:tCB (fun xs H Q=>∃ i j,xs = [.int i,.int j] /\ P i j H Q) t = mCI P t:=by
 funext σ H Q
 unfold tCB mCI
 congr 1
 funext x H'
 simp only [is2_iff,isInt_iff]
 exact propext ⟨fun ⟨i,j,a,b⟩=>⟨_,_,a,i,rfl,j,rfl,b⟩,fun ⟨_,_,a,i,e,j,e',b⟩=>⟨i,j,by rw [a,e,e'],b⟩⟩
end L2
namespace L2
open PySem
theorem binds1 {α:Sort _} {g z:List Value -> α} (us:List Value) (hl:us.length = 1) (h:∀ a0,g [a0] = z [a0]):g us = z us:=by
 rcases us with _ | ⟨a0,_ | ⟨b,r⟩⟩
 all_goals first | exact h _ | (simp at hl; done)
theorem binds2 {α:Sort _} {g z:List Value -> α} (us:List Value) (hl:us.length = 2) (h:∀ a0 a1,g [a0,a1] = z [a0,a1]):g us = z us:=by
 rcases us with _ | ⟨a0,_ | ⟨a1,_ | ⟨b,r⟩⟩⟩
 all_goals first | exact h _ _ | (simp at hl; done)
theorem binds3 {α:Sort _} {g z:List Value -> α} (us:List Value) (hl:us.length = 3) (h:∀ a0 a1 a2,g [a0,a1,a2] = z [a0,a1,a2]):g us = z us:=by
 rcases us with _ | ⟨a0,_ | ⟨a1,_ | ⟨a2,_ | ⟨b,r⟩⟩⟩⟩
 all_goals first | exact h _ _ _ | (simp at hl; done)
end L2
namespace L2
open PySem PySem.Spec PyProof.Rows
end L2
namespace L2
open PySem PySem.Spec PyProof.Rows
section
variable {X:Cx}
end
end L2
namespace L2
open PySem PySem.Spec PyProof.Rows
def ch:Nat -> Nat -> Nat
 | _,0=>1
 | 0,_ + 1=>0
 | n + 1,k + 1=>ch n k + ch n (k + 1)
end L2
namespace L2
open PySem PySem.Spec PyProof.Rows
def fw (t r:Nat -> Rat):Nat -> Nat -> Rat
 | 0,h=>if h = 0 then 1 else 0
 | k + 1,h=>(if h = 0 then 0 else fw t r k (h - 1)) + t h * fw t r k h + r (h + 1) * fw t r k (h + 1)
def bw (t r:Nat -> Rat):Nat -> Nat -> Rat
 | 0,h=>if h = 0 then 1 else 0
 | k + 1,h=>bw t r k (h + 1) + t h * bw t r k h + (if h = 0 then 0 else r h * bw t r k (h - 1))
end L2
namespace L2
open PySem PySem.Spec PyProof.Rows
section
variable {X:Cx}
end
end L2
namespace L2
end L2
namespace L2
open PySem PySem.Spec PyProof.Rows
section
variable {P:Program} {w:World} {K:PySem.W.Frag} {mg:Str -> Option Value} {base:Heap}
end
end L2
namespace L2
open PySem PySem.Spec PyProof.Rows
end L2
namespace L2
open PySem PySem.Spec PyProof.Rows
def tAsg2 (te:TE) (g1 g2:TG):TS:=fun D σ H=>te σ H fun v H1=>g1 v σ H1 fun σ1 H2=>g2 v σ1 H2 D.nx
theorem qs_asg2 {X:Cx} {t1 t2 e:Expr} {te:TE} {g1 g2:TG} {pos:Pos} (he:QE X e te) (h1:QG X t1 g1) (h2:QG X t2 g2)
  (hz:(assignEach [t1,t2] X.env).map (·.2) = [assign t1 X.env,assign t2 X.env]:=by rfl) (hw:swappedStores [t1,t2] e X.env = pure none:=by rfl):QS X (.Assign [t1,t2] e pos) (tAsg2 te g1 g2):=⟨by
 intro pins s σ H D I h
 refine wpAny_Assign_two (thn (he.h pins s σ H _ I h) fun v s1 ⟨x,H1,I1,r1,q1⟩=>?_) hz hw
 refine thn (h1.h pins s1 σ H1 x v _ I1 r1 q1) fun _ s2 ⟨σ2,H2,I2,q2⟩=>?_
 exact thn (h2.h pins s2 σ2 H2 x v _ I2 r1 q2) fun _ s3 q=>q⟩
end L2
namespace L2
open PySem PySem.Spec PyProof.Rows
end L2
namespace L2
open PySem PySem.Spec PyProof.Rows
end L2
namespace L2
open PySem PySem.Spec PyProof.Rows
structure LamK where
 params:Arguments
 body:Expr
 scope:Scope
 Nl:List Str
 ixs:List Nat
 tl:TE
end L2
namespace L2
open PySem PySem.Spec PyProof.Rows
structure Cas where
 t:Addr
 p:Addr
 c:Addr
 d:Addr
 ps:Arguments
 b:Expr
 sc:Scope
 ds:List D
section
variable {P:Addr} {G0 G G':Hp} {qual:Str} {cl:List (Str × Addr)} {cs:Addr} {xs:List Cas} {x:Cas}
section
variable {L1 L2 L3 L4:Hp} {p c' d t:Addr} {params:Arguments} {body:Expr} {scope:Scope} {ds:List D} {Kd:LamK -> Prop} {R:List D -> LamK -> Prop}
end
end
end L2
namespace L2
open PySem PySem.Spec PyProof.Rows
def Ob (D:Int) (B:Nat) (f:Nat -> Rat):Prop:=∀ k,∃ n:Int,f k = (n:Rat) / (D:Rat) /\ Bt B n
section
variable {D E:Int} {a b e:Nat} {f g:Nat -> Rat}
theorem btz {n:Nat}:Bt n 0:=Nat.two_pow_pos n
theorem Ob.mono (h:Ob D a f) (hl:a <= b):Ob D b f:=fun k=>by
 obtain ⟨n,e1,h1⟩:=h k
 exact ⟨n,e1,h1.mono hl⟩
theorem Ob.congr (h:Ob D a f) (e:∀ k,g k = f k):Ob D a g:=fun k=>by
 rw [e k]
 exact h k
theorem Ob.bq {qs:List (Int × Int)} (h:Ob D a (cf qs)) (hD:D ≠ 0) (hb:Bt a D) (hF:∀ q ∈ qs,Fq q):∀ q ∈ qs,Bq a q:=fun q hq=>by
 obtain ⟨k,hk,rfl⟩:=List.getElem_of_mem hq
 obtain ⟨n,e1,h1⟩:=h k
 rw [cf_some (List.getElem?_eq_getElem hk)] at e1
 rw [wv_inj (hF _ hq) (lo_Fq hD) (by rw [wv_lo hD,e1])]
 exact bt_lo hD h1 hb
theorem Ob.add (h1:Ob D a f) (h2:Ob D b g):Ob D (max a b + 1) (fun k=>f k + g k):=fun k=>by
 obtain ⟨m,e1,b1⟩:=h1 k
 obtain ⟨n,e2,b2⟩:=h2 k
 refine ⟨m + n,?_,b1.add b2⟩
 show f k + g k = _
 rw [e1,e2,Rat.intCast_add]
 grind
theorem Ob.up (hD:D ≠ 0) (hE:E ≠ 0) (h:Ob D a f) (hb:Bt e E):Ob (D * E) (a + e) f:=fun k=>by
 obtain ⟨n,e1,h1⟩:=h k
 refine ⟨n * E,?_,h1.mul hb⟩
 have:=cast_ne hD
 have:=cast_ne hE
 rw [e1,Rat.intCast_mul,Rat.intCast_mul]
 grind
def Pb (a:Nat) (f:Nat -> Rat):Prop:=∃ D:Int,D ≠ 0 /\ Bt a D /\ Ob D a f
theorem Pb.mono (h:Pb a f) (hl:a <= b):Pb b f:=by
 obtain ⟨D,h1,h2,h3⟩:=h
 exact ⟨D,h1,h2.mono hl,h3.mono hl⟩
theorem Pb.congr (h:Pb a f) (e:∀ k,g k = f k):Pb a g:=by
 obtain ⟨D,h1,h2,h3⟩:=h
 exact ⟨D,h1,h2,h3.congr e⟩
theorem Pb.bq {qs:List (Int × Int)} (h:Pb a (cf qs)) (hF:∀ q ∈ qs,Fq q):∀ q ∈ qs,Bq a q:=by
 obtain ⟨D,h1,h2,h3⟩:=h
 exact h3.bq h1 h2 hF
theorem Pb.add (h1:Pb a f) (h2:Pb b g):Pb (a + b + 1) (fun k=>f k + g k):=by
 obtain ⟨D,d1,d2,d3⟩:=h1
 obtain ⟨E,e1,e2,e3⟩:=h2
 have x2:=Ob.up e1 d1 e3 d2
 rw [Int.mul_comm] at x2
 refine ⟨D * E,Int.mul_ne_zero d1 e1,(d2.mul e2).mono (by walk_at "o"),((Ob.up d1 e1 d3 e2).add x2).mono (by walk_at "o")⟩
end
theorem po_two {D:Int} {b:Nat} {p q:Int × Int} {m n:Int} (h1:wv p = (m:Rat) / (D:Rat)) (h2:wv q = (n:Rat) / (D:Rat)) (b1:Bt b m) (b2:Bt b n):Ob D b (cf [p,q]):=fun k=>by
 rcases k with _ | _ | k
 ·exact ⟨m,h1,b1⟩
 ·exact ⟨n,h2,b2⟩
 ·refine ⟨0,?_,btz⟩
  show (0:Rat) = ((0:Int):Rat) / _
  have c0:((0:Int):Rat) = 0:=rfl
  rw [c0]
  grind
theorem po_one {D:Int} {b:Nat} {p:Int × Int} {m:Int} (h1:wv p = (m:Rat) / (D:Rat)) (b1:Bt b m):Ob D b (cf [p]):=fun k=>by
 rcases k with _ | k
 ·exact ⟨m,h1,b1⟩
 ·refine ⟨0,?_,btz⟩
  show (0:Rat) = ((0:Int):Rat) / _
  have c0:((0:Int):Rat) = 0:=rfl
  rw [c0]
  grind
theorem pb_nil {a:Nat} (h:1 <= a):Pb a (cf []):=⟨1,by decide,Bt.mono (m:=1) (by decide) h,fun k=>⟨0,by
  show (0:Rat) = ((0:Int):Rat) / _
  have c0:((0:Int):Rat) = 0:=rfl
  rw [c0]
  grind,btz⟩⟩
def lin (p q:Rat) (f:Nat -> Rat):Nat -> Rat
 | 0=>f 0 * p
 | k + 1=>f (k + 1) * p + f k * q
theorem pr_two {f g:Nat -> Rat} (hg:∀ i,2 <= i -> g i = 0):∀ n k,pr f g n k = (if k < n then f k * g 0 else 0) + (if 0 < k /\ k - 1 < n then f (k - 1) * g 1 else 0)
 | 0,k=>by
  show (0:Rat) = _
  rw [if_neg (by walk_at "o"),if_neg (by walk_at "o")]
  grind
 | n + 1,k=>by
  show pr f g n k + (if n <= k then f n * g (k - n) else 0) = _
  rw [pr_two hg n k]
  by_cases h1:k < n
  ·rw [if_pos h1,if_pos (show k < n + 1 by walk_at "o"),if_neg (show ¬ n <= k by walk_at "o")]
   by_cases h0:0 < k
   ·rw [if_pos (show 0 < k /\ k - 1 < n from ⟨h0,by walk_at "o"⟩),if_pos (show 0 < k /\ k - 1 < n + 1 from ⟨h0,by walk_at "o"⟩)]
    grind
   ·rw [if_neg (by walk_at "o"),if_neg (by walk_at "o")]
    grind
  ·by_cases h2:k = n
   ·subst h2
    rw [if_neg h1,if_pos (show k < k + 1 by walk_at "o"),if_pos (Nat.le_refl k),Nat.sub_self]
    by_cases h0:0 < k
    ·rw [if_pos (show 0 < k /\ k - 1 < k from ⟨h0,by walk_at "o"⟩),if_pos (show 0 < k /\ k - 1 < k + 1 from ⟨h0,by walk_at "o"⟩)]
     grind
    ·rw [if_neg (by walk_at "o"),if_neg (by walk_at "o")]
     grind
   ·by_cases h3:k = n + 1
    ·subst h3
     rw [if_neg h1,if_neg (show ¬ (0 < n + 1 /\ n + 1 - 1 < n) by walk_at "o"),if_neg (show ¬ (n + 1 < n + 1) by walk_at "o"),if_pos (show n <= n + 1 by walk_at "o"),if_pos (show 0 < n + 1 /\ n + 1 - 1 < n + 1 by walk_at "o"),show n + 1 - n = 1 by walk_at "o",Nat.add_sub_cancel]
     grind
    ·rw [if_neg h1,if_neg (show ¬ (0 < k /\ k - 1 < n) by walk_at "o"),if_pos (show n <= k by walk_at "o"),if_neg (show ¬ k < n + 1 by walk_at "o"),if_neg (show ¬ (0 < k /\ k - 1 < n + 1) by walk_at "o"),hg (k - n) (by walk_at "o")]
     grind
theorem pr_lin {fs:List (Int × Int)} {p q:Int × Int} (k:Nat):pr (cf fs) (cf [p,q]) fs.length k = lin (wv p) (wv q) (cf fs) k:=by
 rw [pr_two (fun i hi=>cf_none hi)]
 have e0:cf [p,q] 0 = wv p:=rfl
 have e1:cf [p,q] 1 = wv q:=rfl
 rw [e0,e1]
 rcases k with _ | k
 ·rw [if_neg (show ¬ (0 < 0 /\ 0 - 1 < fs.length) by walk_at "o")]
  show _ = cf fs 0 * wv p
  split
  ·grind
  ·rw [cf_none (by walk_at "o")]
   grind
 ·show _ = cf fs (k + 1) * wv p + cf fs k * wv q
  rw [Nat.add_sub_cancel]
  by_cases h:k + 1 < fs.length
  ·rw [if_pos h,if_pos ⟨by walk_at "o",by walk_at "o"⟩]
  ·rw [if_neg h,cf_none (show fs.length <= k + 1 by walk_at "o")]
   by_cases h2:k < fs.length
   ·rw [if_pos ⟨by walk_at "o",h2⟩]
    grind
   ·rw [if_neg (by walk_at "o"),cf_none (show fs.length <= k by walk_at "o")]
    grind
def Lp (p q:Rat):Nat -> Nat -> Rat
 | 0=>fun k=>if k = 0 then 1 else 0
 | i + 1=>lin p q (Lp p q i)
theorem poly_lenAt {rs:List (Int × Int)} {n:Nat} (h:PolyOk rs) (h1:cf rs n ≠ 0) (h2:∀ k,n < k -> cf rs k = 0):rs.length = n + 1:=by
 have l1:n < rs.length:=by
  rcases Nat.lt_or_ge n rs.length with z | z
  ·exact z
  ·exact absurd (cf_none z) h1
 rcases Nat.lt_or_ge (n + 1) rs.length with z | z
 ·exfalso
  have e:rs.getLast? = some rs[rs.length - 1]:=by rw [List.getLast?_eq_getElem?,List.getElem?_eq_getElem]
  have h3:=h.2 _ e
  have h4:=h2 (rs.length - 1) (by walk_at "o")
  rw [cf_some (List.getElem?_eq_getElem (by walk_at "o"))] at h4
  have hF:=h.1 rs[rs.length - 1] (List.getElem_mem (by walk_at "o"))
  unfold wv at h4
  have c1:((rs[rs.length - 1].1:Int):Rat) ≠ 0:=cast_ne h3
  have c2:=cast_ne hF.ne
  grind
 ·walk_at "o"
end L2
namespace L2
open PySem PySem.Spec PyProof.Rows
theorem dvd_copr {a b c:Int} (h:Int.gcd a b = 1) (hd:a ∣ b * c):a ∣ c:=by
 rw [<- Int.natAbs_dvd_natAbs] at hd ⊢
 rw [Int.natAbs_mul] at hd
 exact Nat.Coprime.dvd_of_dvd_mul_left h hd
theorem lcm_min {b q E:Int} (hb:0 < b) (hq:0 < q) (h1:b ∣ E) (h2:q ∣ E):b * q.fdiv (Int.gcd b q:Int) ∣ E:=by
 obtain ⟨_,_,_,hg,_⟩:=lcm_step hb hq
 have e:=fdiv_mul hg (Int.gcd_dvd_right b q)
 obtain ⟨m,hm⟩:=Int.gcd_dvd_left b q
 obtain ⟨g,hgg⟩ : ∃ g:Nat,g = Int.gcd b q:=⟨_,rfl⟩
 generalize hc:q.fdiv (Int.gcd b q:Int) = c at e
 rw [<- hgg] at hg e hm
 have hcop:Int.gcd c m = 1:=by
  have z:Int.gcd b q = g * Int.gcd m c:=by
   rw [hm,<- e,Int.mul_comm c,Int.gcd_mul_left]
   simp
  rw [<- hgg] at z
  have g0:0 < g:=by walk_at "o"
  have:Int.gcd m c = 1:=by
   have:g * 1 = g * Int.gcd m c:=by walk_at "o"
   exact (Nat.eq_of_mul_eq_mul_left g0 this).symm
  rw [Int.gcd_comm]
  exact this
 obtain ⟨u,hu⟩:=h1
 obtain ⟨v,hv⟩:=h2
 have:c ∣ m * u:=by
  refine ⟨v,?_⟩
  have z:(g:Int) * (m * u) = (g:Int) * (c * v):=by
   rw [<- Int.mul_assoc,<- hm,<- hu,hv,<- e]
   rw [Int.mul_comm c,Int.mul_assoc]
  exact Int.eq_of_mul_eq_mul_left hg z
 obtain ⟨t,ht⟩:=dvd_copr hcop this
 exact ⟨t,by rw [hu,ht,Int.mul_assoc]⟩
theorem frac_dvd {q:Int × Int} {n E:Int} (h:Fq q) (hE:E ≠ 0) (e:wv q = (n:Rat) / (E:Rat)):q.2 ∣ E:=by
 unfold wv at e
 have c1:=cast_ne h.ne
 have c2:=cast_ne hE
 have e1:(q.1:Rat) * (E:Rat) = (n:Rat) * (q.2:Rat):=by grind
 have e2:q.1 * E = n * q.2:=by
  rw [<- Rat.intCast_mul,<- Rat.intCast_mul] at e1
  exact Rat.intCast_inj.mp e1
 refine dvd_copr (b:=q.1) (by rw [Int.gcd_comm]; exact h.2) ⟨n,by rw [e2,Int.mul_comm]⟩
theorem cleared_bt {a:Nat} {qs:List (Int × Int)} {D:Int} {ns:List Int} (h:Pb a (cf qs)) (hF:∀ q ∈ qs,Fq q) (hD:0 < D) (hm:∀ E:Int,(∀ q ∈ qs,q.2 ∣ E) -> D ∣ E) (hl:ns.length = qs.length) (hn:∀ (i:Nat) (n:Int) (q:Int × Int),ns[i]? = some n -> qs[i]? = some q -> (n:Rat) = wv q * (D:Rat)):Bt a D /\ ∀ n ∈ ns,Bt a n:=by
 obtain ⟨E,hE,bE,oE⟩:=h
 obtain ⟨t,ht⟩:=hm E fun q hq=>by
  obtain ⟨k,hk,rfl⟩:=List.getElem_of_mem hq
  obtain ⟨n,e,_⟩:=oE k
  rw [cf_some (List.getElem?_eq_getElem hk)] at e
  exact frac_dvd (hF _ hq) hE e
 have t0:t ≠ 0:=fun z=>hE (by rw [ht,z,Int.mul_zero])
 have le:∀ x:Int,x.natAbs <= (x * t).natAbs:=fun x=>by
  rw [Int.natAbs_mul]
  exact Nat.le_mul_of_pos_right _ (by walk_at "o")
 refine ⟨?_,fun n hn'=>?_⟩
 ·unfold Bt at *
  have:=le D
  rw [<- ht] at this
  walk_at "o"
 ·obtain ⟨i,hi,rfl⟩:=List.getElem_of_mem hn'
  have hi':i < qs.length:=by walk_at "o"
  have e1:=hn i _ _ (List.getElem?_eq_getElem hi) (List.getElem?_eq_getElem hi')
  obtain ⟨m,e2,bm⟩:=oE i
  rw [cf_some (List.getElem?_eq_getElem hi')] at e2
  have c1:=cast_ne hE
  have e3:((ns[i] * t:Int):Rat) = (m:Rat):=by
   rw [Rat.intCast_mul,e1,e2]
   have:(E:Rat) = (D:Rat) * (t:Rat):=by rw [ht,Rat.intCast_mul]
   have c2:(D:Rat) ≠ 0:=cast_ne (by walk_at "o")
   have c3:(t:Rat) ≠ 0:=cast_ne t0
   rw [this]
   grind
  have e4:=Rat.intCast_inj.mp e3
  unfold Bt at *
  have:=le ns[i]
  rw [e4] at this
  walk_at "o"
def evN (f:Nat -> Rat):Nat -> Rat -> Rat
 | 0,_=>0
 | n + 1,x=>evN f n x + f n * powR x n
theorem evN_congr {f g:Nat -> Rat} {x:Rat}:∀ n,(∀ k,k < n -> f k = g k) -> evN f n x = evN g n x
 | 0,_=>rfl
 | n + 1,h=>by
  show evN f n x + f n * _ = evN g n x + g n * _
  rw [evN_congr n (fun k hk=>h k (by walk_at "o")),h n (by walk_at "o")]
theorem evN_add {f g:Nat -> Rat} {x:Rat}:∀ n,evN (fun k=>f k + g k) n x = evN f n x + evN g n x
 | 0=>by show (0:Rat) = 0 + 0; grind
 | n + 1=>by
  show evN (fun k=>f k + g k) n x + (f n + g n) * powR x n = evN f n x + f n * powR x n + (evN g n x + g n * powR x n)
  rw [evN_add n]
  grind
theorem evN_more {f:Nat -> Rat} {x:Rat} {n:Nat} (h:∀ k,n <= k -> f k = 0):∀ m,evN f (n + m) x = evN f n x
 | 0=>rfl
 | m + 1=>by
  show evN f (n + m) x + f (n + m) * _ = _
  rw [evN_more h m,h (n + m) (by walk_at "o")]
  grind
theorem evN_lin {p q:Rat} {f:Nat -> Rat} {x:Rat}:∀ n,evN (lin p q f) (n + 1) x = p * evN f (n + 1) x + q * x * evN f n x
 | 0=>by
  show 0 + f 0 * p * 1 = p * (0 + f 0 * 1) + q * x * 0
  grind
 | n + 1=>by
  show evN (lin p q f) (n + 1) x + (f (n + 1) * p + f n * q) * powR x (n + 1) = p * (evN f (n + 1) x + f (n + 1) * powR x (n + 1)) + q * x * (evN f n x + f n * powR x n)
  rw [evN_lin n,powR_succ]
  grind
def EV (f:Nat -> Rat) (x:Rat):Rat:=evN f 20 x
theorem EV_lin {p q:Rat} {f:Nat -> Rat} (h:f 19 = 0) (x:Rat):EV (lin p q f) x = (p + q * x) * EV f x:=by
 unfold EV
 rw [evN_lin 19]
 have:evN f 20 x = evN f 19 x:=by
  show evN f 19 x + f 19 * _ = _
  rw [h]
  grind
 rw [this]
 grind
theorem EV_congr {f g:Nat -> Rat} (h:∀ k,f k = g k) (x:Rat):EV f x = EV g x:=evN_congr 20 fun k _=>h k
theorem EV_add {f g:Nat -> Rat} (x:Rat):EV (fun k=>f k + g k) x = EV f x + EV g x:=evN_add 20
theorem EV_delta {p q:Rat} (x:Rat):EV (Lp p q 0) x = 1:=by
 unfold EV
 have:=evN_more (f:=Lp p q 0) (x:=x) (n:=1) (fun k hk=>if_neg (by walk_at "o")) 19
 rw [this]
 show 0 + 1 * 1 = (1:Rat)
 grind
def DF (f:Nat -> Rat):Nat -> Rat:=fun k=>((k + 1:Nat):Int) * f (k + 1)
theorem DF_lin {p:Rat} {f:Nat -> Rat} (k:Nat):DF (lin p 1 f) k = lin p 1 (DF f) k + f k:=by
 cases k with
 | zero =>
  show (((0 + 1:Nat):Int):Rat) * (f 1 * p + f 0 * 1) = (((0 + 1:Nat):Int):Rat) * f 1 * p + f 0
  have c1:(((0 + 1:Nat):Int):Rat) = 1:=rfl
  rw [c1]
  grind
 | succ k =>
  show (((k + 1 + 1:Nat):Int):Rat) * (f (k + 2) * p + f (k + 1) * 1) = (((k + 1 + 1:Nat):Int):Rat) * f (k + 2) * p + (((k + 1:Nat):Int):Rat) * f (k + 1) * 1 + f (k + 1)
  have c1:(((k + 1 + 1:Nat):Int):Rat) = (((k + 1:Nat):Int):Rat) + 1:=by
   rw [show ((k + 1 + 1:Nat):Int) = ((k + 1:Nat):Int) + 1 by walk_at "o",Rat.intCast_add]
   rfl
  rw [c1]
  grind
theorem evN_shift {c:Rat} {g:Nat -> Rat} {j:Nat} {x:Rat}:∀ M,evN (fun k=>if j <= k then c * g (k - j) else 0) (j + M) x = c * powR x j * evN g M x
 | 0=>by
  have:∀ n,n <= j -> evN (fun k=>if j <= k then c * g (k - j) else 0) n x = 0:=fun n=>by
   induction n with
   | zero=>intro _; rfl
   | succ n ih =>
    intro hn
    show evN (fun k=>if j <= k then c * g (k - j) else 0) n x + (if j <= n then c * g (n - j) else 0) * powR x n = 0
    rw [ih (by walk_at "o"),if_neg (by walk_at "o")]
    grind
  rw [Nat.add_zero,this j (Nat.le_refl _)]
  show (0:Rat) = c * powR x j * 0
  grind
 | M + 1=>by
  show evN (fun k=>if j <= k then c * g (k - j) else 0) (j + M) x + (if j <= j + M then c * g (j + M - j) else 0) * powR x (j + M) = c * powR x j * (evN g M x + g M * powR x M)
  rw [evN_shift M,if_pos (by walk_at "o"),Nat.add_sub_cancel_left]
  have:powR x (j + M) = powR x j * powR x M:=by
   induction M with
   | zero=>show powR x j = powR x j * 1; grind
   | succ M ih =>
    show powR x (j + M) * x = powR x j * (powR x M * x)
    rw [ih]
    grind
  rw [this]
  grind
theorem evN_pr {f g:Nat -> Rat} {x:Rat} {m:Nat} (hg:∀ k,m <= k -> g k = 0):∀ n,n + m <= 20 -> EV (fun k=>pr f g n k) x = evN f n x * evN g m x
 | 0,_=>by
  have:∀ n,evN (fun k=>pr f g 0 k) n x = 0:=fun n=>by
   induction n with
   | zero=>rfl
   | succ n ih =>
    show evN (fun k=>pr f g 0 k) n x + 0 * _ = 0
    rw [ih]
    grind
  show evN _ 20 x = 0 * _
  rw [this]
  grind
 | n + 1,h=>by
  have e:EV (fun k=>pr f g (n + 1) k) x = EV (fun k=>pr f g n k) x + EV (fun k=>if n <= k then f n * g (k - n) else 0) x:=EV_add x
  rw [e,evN_pr hg n (by walk_at "o")]
  have s:EV (fun k=>if n <= k then f n * g (k - n) else 0) x = f n * powR x n * evN g m x:=by
   show evN _ 20 x = _
   have z:=evN_shift (c:=f n) (g:=g) (j:=n) (x:=x) (20 - n)
   rw [show n + (20 - n) = 20 by walk_at "o"] at z
   rw [z]
   have z2:=evN_more (x:=x) hg (20 - n - m)
   rw [show m + (20 - n - m) = 20 - n by walk_at "o"] at z2
   rw [z2]
  rw [s]
  show _ = (evN f n x + f n * powR x n) * _
  grind
theorem EV_of {f:Nat -> Rat} {n:Nat} (h:∀ k,n <= k -> f k = 0) (hn:n <= 20) (x:Rat):EV f x = evN f n x:=by
 have:=evN_more (x:=x) h (20 - n)
 rw [show n + (20 - n) = 20 by walk_at "o"] at this
 exact this
def prodX:List Rat -> Rat -> Rat
 | [],_=>1
 | s :: l,x=>(x - s) * prodX l x
def dprodX:List Rat -> Rat -> Rat
 | [],_=>0
 | s :: l,x=>prodX l x + (x - s) * dprodX l x
theorem prodX_snoc {s x:Rat}:∀ l,prodX (l ++ [s]) x = (x - s) * prodX l x
 | []=>rfl
 | a :: l=>by
  show (x - a) * prodX (l ++ [s]) x = (x - s) * ((x - a) * prodX l x)
  rw [prodX_snoc l]
  grind
theorem dprodX_snoc {s x:Rat}:∀ l,dprodX (l ++ [s]) x = (x - s) * dprodX l x + prodX l x
 | []=>by show 1 + (x - s) * 0 = (x - s) * 0 + 1; grind
 | a :: l=>by
  show prodX (l ++ [s]) x + (x - a) * dprodX (l ++ [s]) x = (x - s) * (prodX l x + (x - a) * dprodX l x) + (x - a) * prodX l x
  rw [prodX_snoc,dprodX_snoc l]
  grind
theorem prodX_zero {s:Rat}:∀ {l:List Rat},s ∈ l -> prodX l s = 0
 | a :: l,h=>by
  show (s - a) * prodX l s = 0
  rcases List.mem_cons.mp h with rfl | h
  ·grind
  ·rw [prodX_zero h]
   grind
theorem prodX_ne {x:Rat}:∀ {l:List Rat},x ∉ l -> prodX l x ≠ 0
 | [],_=>by show (1:Rat) ≠ 0; grind
 | a :: l,h=>by
  have h1:x ≠ a:=fun z=>h (z ▸ List.mem_cons_self)
  have h2:=prodX_ne fun z=>h (List.mem_cons_of_mem a z)
  show (x - a) * prodX l x ≠ 0
  have:x - a ≠ 0:=by grind
  grind
def evL:List Rat -> Rat -> Rat
 | [],_=>0
 | a :: l,x=>a + x * evL l x
def dvL (s:Rat):List Rat -> List Rat
 | []=>[]
 | [_]=>[]
 | _ :: b :: l=>evL (b :: l) s :: dvL s (b :: l)
theorem dvL_len {s:Rat}:∀ l:List Rat,(dvL s l).length = l.length - 1
 | []=>rfl
 | [_]=>rfl
 | _ :: b :: l=>by
  show (dvL s (b :: l)).length + 1 = _
  rw [dvL_len (b :: l)]
  rfl
theorem dvL_ev {s x:Rat}:∀ l:List Rat,evL l x - evL l s = (x - s) * evL (dvL s l) x
 | []=>by show (0:Rat) - 0 = (x - s) * 0; grind
 | [a]=>by show a + x * 0 - (a + s * 0) = (x - s) * 0; grind
 | a :: b :: l=>by
  have:=dvL_ev (s:=s) (x:=x) (b :: l)
  show a + x * evL (b :: l) x - (a + s * evL (b :: l) s) = (x - s) * (evL (b :: l) s + x * evL (dvL s (b :: l)) x)
  have e:(x - s) * (x * evL (dvL s (b :: l)) x) = x * (evL (b :: l) x - evL (b :: l) s):=by rw [this]; grind
  grind
theorem evL_zero:∀ (S:List Rat) (l:List Rat),S.Nodup -> l.length <= S.length -> (∀ s ∈ S,evL l s = 0) -> ∀ x,evL l x = 0
 | [],l,_,hl,_,x=>by
  have:l = []:=List.length_eq_zero_iff.mp (Nat.le_zero.mp hl)
  rw [this]
  rfl
 | s :: S,l,nd,hl,h,x=>by
  rw [List.nodup_cons] at nd
  have h0:=h s List.mem_cons_self
  have g:∀ x,evL (dvL s l) x = 0:=evL_zero S (dvL s l) nd.2 (by rw [dvL_len]; have:l.length <= S.length + 1:=hl; walk_at "o") fun t ht=>by
   have e:=dvL_ev (s:=s) (x:=t) l
   rw [h t (List.mem_cons_of_mem _ ht),h0] at e
   have hts:t - s = 0 -> t = s:=fun z=>by grind
   have hne:t - s ≠ 0:=fun z=>nd.1 (by rw [<- hts z]; exact ht)
   grind
  have e:=dvL_ev (s:=s) (x:=x) l
  rw [g x,h0] at e
  grind
def IsP (n:Nat) (f:Rat -> Rat):Prop:=∃ l:List Rat,l.length <= n /\ ∀ x,f x = evL l x
theorem IsP.mono {m n:Nat} {f:Rat -> Rat} (h:IsP m f) (hl:m <= n):IsP n f:=by
 obtain ⟨l,h1,h2⟩:=h
 exact ⟨l,by walk_at "o",h2⟩
theorem IsP.zero {n:Nat} {f:Rat -> Rat} {S:List Rat} (h:IsP n f) (nd:S.Nodup) (hl:n <= S.length) (hz:∀ s ∈ S,f s = 0) (x:Rat):f x = 0:=by
 obtain ⟨l,h1,h2⟩:=h
 rw [h2]
 exact evL_zero S l nd (by walk_at "o") (fun s hs=>by rw [<- h2]; exact hz s hs) x
def addL:List Rat -> List Rat -> List Rat
 | [],b=>b
 | a,[]=>a
 | x :: a,y :: b=>(x + y) :: addL a b
theorem addL_len:∀ a b:List Rat,(addL a b).length = max a.length b.length
 | [],b=>by show b.length = max 0 b.length; walk_at "o"
 | x :: a,[]=>by show (x :: a).length = max (x :: a).length 0; walk_at "o"
 | x :: a,y :: b=>by
  show (addL a b).length + 1 = max (a.length + 1) (b.length + 1)
  rw [addL_len a b]
  walk_at "o"
theorem addL_ev {t:Rat}:∀ a b:List Rat,evL (addL a b) t = evL a t + evL b t
 | [],b=>by show evL b t = 0 + evL b t; grind
 | x :: a,[]=>by show evL (x :: a) t = evL (x :: a) t + 0; grind
 | x :: a,y :: b=>by
  show x + y + t * evL (addL a b) t = x + t * evL a t + (y + t * evL b t)
  rw [addL_ev a b]
  grind
theorem IsP.add {n:Nat} {f g:Rat -> Rat} (h1:IsP n f) (h2:IsP n g):IsP n (fun x=>f x + g x):=by
 obtain ⟨a,a1,a2⟩:=h1
 obtain ⟨b,b1,b2⟩:=h2
 refine ⟨addL a b,by rw [addL_len]; walk_at "o",fun x=>?_⟩
 show f x + g x = _
 rw [addL_ev,a2,b2]
theorem scL_ev {c x:Rat}:∀ l:List Rat,evL (l.map fun a=>a * c) x = evL l x * c
 | []=>by show (0:Rat) = 0 * c; grind
 | a :: l=>by
  show a * c + x * evL (l.map fun a=>a * c) x = (a + x * evL l x) * c
  rw [scL_ev l]
  grind
theorem IsP.sc {n:Nat} {f:Rat -> Rat} (h:IsP n f) (c:Rat):IsP n (fun x=>f x * c):=by
 obtain ⟨a,a1,a2⟩:=h
 refine ⟨a.map fun a=>a * c,by rw [List.length_map]; exact a1,fun x=>?_⟩
 show f x * c = _
 rw [scL_ev,a2]
theorem evN_L {f:Nat -> Rat}:∀ n x,evN f n x = evL ((List.range n).map f) x
 | n,x=>by
  have key:∀ n j,evL ((List.range n).map fun i=>f (j + i)) x * powR x j + evN f j x = evN f (j + n) x:=fun n=>by
   induction n with
   | zero =>
    intro j
    show 0 * _ + _ = evN f j x
    grind
   | succ n ih =>
    intro j
    rw [List.range_succ_eq_map,List.map_cons,List.map_map]
    show (f (j + 0) + x * evL ((List.range n).map ((fun i=>f (j + i)) ∘ Nat.succ)) x) * powR x j + evN f j x = _
    have e:((fun i=>f (j + i)) ∘ Nat.succ) = fun i=>f (j + 1 + i):=by
     funext i
     show f (j + (i + 1)) = f (j + 1 + i)
     rw [show j + (i + 1) = j + 1 + i by walk_at "o"]
    have:=ih (j + 1)
    rw [e,show j + (n + 1) = j + 1 + n by walk_at "o",<- this,powR_succ]
    show _ = _ + (evN f j x + f j * powR x j)
    rw [Nat.add_zero]
    grind
  have:=key n 0
  rw [Nat.zero_add] at this
  rw [<- this]
  have e:(fun i=>f (0 + i)) = f:=by funext i; rw [Nat.zero_add]
  rw [e]
  show _ * 1 + 0 = _
  grind
theorem IsP.of {f:Nat -> Rat} {n:Nat} (h:∀ k,n <= k -> f k = 0) (hn:n <= 20):IsP n (EV f):=⟨(List.range n).map f,by simp,fun x=>by rw [EV_of h hn,evN_L]⟩
end L2
namespace L2
open PySem PySem.Spec PyProof.Rows
section
variable {X:Cx}
def rSlTS (K:PySem.W.Frag):V -> Option Int -> Option Int -> Hp -> VK -> Prop:=fun x lo hi H Q=>∃ a,x = .ref a /\ ∃ xs,vw K H a = some (.tup xs) /\ ¬ (HT.sIx xs.length 0 lo = 0 /\ HT.sIx xs.length xs.length hi = xs.length) /\ Nw K H (.tup (cutV xs lo hi)) Q
theorem sl_tupS:SlR X (rSlTS X.K):=sl_tup.kf.imp fun _ _ _ _ _ ⟨a,e,xs,h,n,q⟩=>⟨a,xs,e,vw_tup h,n,q.al⟩
end
end L2
namespace L2
open PySem PySem.Spec PyProof.Rows
def sps (cs:List Spt):List Rat:=cs.map fun c=>wv c.1
def oth (cs:List Spt) (i:Nat):List Rat:=(sps cs).take i ++ (sps cs).drop (i + 1)
def wgt (cs:List Spt) (i:Nat):Rat:=match cs[i]? with
 | some c=>wv c.2
 | none=>0
def spo (cs:List Spt) (i:Nat):Rat:=match cs[i]? with
 | some c=>wv c.1
 | none=>0
theorem wgt_at {cs:List Spt} {i:Nat} {c:Spt} (h:cs[i]? = some c):wgt cs i = wv c.2:=by unfold wgt; rw [h]
theorem spo_at {cs:List Spt} {i:Nat} {c:Spt} (h:cs[i]? = some c):spo cs i = wv c.1:=by unfold spo; rw [h]
def lagX (cs:List Spt):Nat -> Rat -> Rat
 | 0,_=>0
 | n + 1,x=>lagX cs n x + wgt cs n * prodX (oth cs n) x / prodX (oth cs n) (spo cs n)
theorem sps_len (cs:List Spt):(sps cs).length = cs.length:=by unfold sps; rw [List.length_map]
theorem sps_at {cs:List Spt} {i:Nat} {c:Spt} (h:cs[i]? = some c):(sps cs)[i]? = some (wv c.1):=by unfold sps; rw [List.getElem?_map,h]; rfl
theorem sps_split {cs:List Spt} {i:Nat} (h:i < cs.length):sps cs = (sps cs).take i ++ spo cs i :: (sps cs).drop (i + 1):=by
 have e:=sps_at (List.getElem?_eq_getElem h)
 have h':i < (sps cs).length:=by rw [sps_len]; exact h
 rw [List.getElem?_eq_getElem h'] at e
 have e':=Option.some.inj e
 rw [spo_at (List.getElem?_eq_getElem h),<- e',List.getElem_cons_drop,List.take_append_drop]
theorem oth_mem {cs:List Spt} {i j:Nat} (hj:j < cs.length) (hi:i < cs.length) (h:j ≠ i):spo cs j ∈ oth cs i:=by
 have e:=sps_at (List.getElem?_eq_getElem hj)
 rw [<- spo_at (List.getElem?_eq_getElem hj)] at e
 unfold oth
 rcases Nat.lt_or_gt_of_ne h with z | z
 ·refine List.mem_append.mpr (.inl ?_)
  exact List.mem_of_getElem? (i:=j) (by rw [List.getElem?_take,if_pos z]; exact e)
 ·refine List.mem_append.mpr (.inr ?_)
  exact List.mem_of_getElem? (i:=j - (i + 1)) (by rw [List.getElem?_drop,show i + 1 + (j - (i + 1)) = j by walk_at "o"]; exact e)
theorem oth_not {cs:List Spt} {i:Nat} (hi:i < cs.length) (nd:(sps cs).Nodup):spo cs i ∉ oth cs i:=by
 rw [sps_split hi] at nd
 rw [List.nodup_append] at nd
 obtain ⟨n1,n2,n3⟩:=nd
 intro h
 unfold oth at h
 rcases List.mem_append.mp h with z | z
 ·exact n3 _ z _ List.mem_cons_self rfl
 ·exact (List.nodup_cons.mp n2).1 z
theorem oth_ne {cs:List Spt} {i:Nat} (hi:i < cs.length) (nd:(sps cs).Nodup):prodX (oth cs i) (spo cs i) ≠ 0:=prodX_ne (oth_not hi nd)
theorem lag_other {cs:List Spt} (nd:(sps cs).Nodup) {j:Nat} (hj:j < cs.length):∀ n,n <= cs.length -> lagX cs n (spo cs j) = if j < n then wgt cs j else 0
 | 0,_=>by rw [if_neg (by walk_at "o")]; rfl
 | n + 1,hn=>by
  show lagX cs n (spo cs j) + wgt cs n * prodX (oth cs n) (spo cs j) / prodX (oth cs n) (spo cs n) = _
  rw [lag_other nd hj n (by walk_at "o")]
  by_cases h:j = n
  ·subst h
   rw [if_neg (by walk_at "o"),if_pos (by walk_at "o")]
   have:=oth_ne hj nd
   grind
  ·rw [prodX_zero (oth_mem hj (show n < cs.length by walk_at "o") h)]
   by_cases h2:j < n
   ·rw [if_pos h2,if_pos (by walk_at "o")]
    grind
   ·rw [if_neg h2,if_neg (by walk_at "o")]
    grind
theorem oth_len {cs:List Spt} {i:Nat} (hi:i < cs.length):(oth cs i).length + 1 = cs.length:=by
 unfold oth
 rw [List.length_append,List.length_take,List.length_drop,sps_len]
 walk_at "o"
end L2
namespace L2
open PySem PySem.Spec PyProof.Rows
def upTo:Nat -> List Rat
 | 0=>[]
 | n + 1=>((n + 1:Nat):Int) :: upTo n
theorem upTo_mem:∀ {n:Nat} {x:Rat},x ∈ upTo n -> ∃ m:Nat,1 <= m /\ m <= n /\ x = ((m:Int):Rat)
 | n + 1,x,h=>by
  rcases List.mem_cons.mp h with rfl | h
  ·exact ⟨n + 1,by walk_at "o",by walk_at "o",rfl⟩
  ·obtain ⟨m,h1,h2,h3⟩:=upTo_mem h
   exact ⟨m,h1,by walk_at "o",h3⟩
theorem upTo_nd:∀ n,(upTo n).Nodup
 | 0=>List.nodup_nil
 | n + 1=>by
  refine List.nodup_cons.mpr ⟨fun h=>?_,upTo_nd n⟩
  obtain ⟨m,_,h2,h3⟩:=upTo_mem h
  have:=Rat.intCast_inj.mp h3
  walk_at "o"
theorem upTo_len:∀ n,(upTo n).length = n
 | 0=>rfl
 | n + 1=>by show (upTo n).length + 1 = _; rw [upTo_len n]
theorem evL_coef:∀ l:List Rat,(∀ x,evL l x = 0) -> ∀ a ∈ l,a = 0
 | [],_,a,h=>by cases h
 | b :: l,h,a,ha=>by
  have h0:b = 0:=by
   have:=h 0
   show b = 0
   have e:evL (b :: l) 0 = b + 0 * evL l 0:=rfl
   rw [e] at this
   grind
  have hl:∀ x,evL l x = 0:=evL_zero (upTo l.length) l (upTo_nd _) (by rw [upTo_len]; exact Nat.le_refl _) fun s hs=>by
   obtain ⟨m,h1,_,rfl⟩:=upTo_mem hs
   have:=h ((m:Int):Rat)
   have e:evL (b :: l) ((m:Int):Rat) = b + ((m:Int):Rat) * evL l ((m:Int):Rat):=rfl
   rw [e,h0] at this
   have c:((m:Int):Rat) ≠ 0:=cast_ne (by walk_at "o")
   grind
  rcases List.mem_cons.mp ha with rfl | ha
  ·exact h0
  ·exact evL_coef l hl a ha
theorem EV_inj {f g:Nat -> Rat} (hf:∀ k,20 <= k -> f k = 0) (hg:∀ k,20 <= k -> g k = 0) (h:∀ x,EV f x = EV g x) (k:Nat):f k = g k:=by
 rcases Nat.lt_or_ge k 20 with z | z
 ·have e:∀ x,evL ((List.range 20).map fun k=>f k + -1 * g k) x = 0:=fun x=>by
   rw [<- evN_L,evN_add]
   have h1:evN (fun k=>-1 * g k) 20 x = -1 * evN g 20 x:=by
    have:∀ n,evN (fun k=>-1 * g k) n x = -1 * evN g n x:=fun n=>by
     induction n with
     | zero=>show (0:Rat) = -1 * 0; grind
     | succ n ih =>
      show evN (fun k=>-1 * g k) n x + -1 * g n * powR x n = -1 * (evN g n x + g n * powR x n)
      rw [ih]
      grind
    exact this 20
   have h2:evN f 20 x = evN g 20 x:=h x
   rw [h1,h2]
   grind
  have:=evL_coef _ e (f k + -1 * g k) (List.mem_map.mpr ⟨k,List.mem_range.mpr z,rfl⟩)
  grind
 ·rw [hf k z,hg k z]
end L2
namespace L2
open PySem PySem.Spec PyProof.Rows
end L2
namespace L2
open PySem PySem.Spec PyProof.Rows
theorem draw_lst {prog:Program} {w:World} {A:Around} {E:Value -> Shared -> Prop} {it l:Addr} {its:Array Value} (hne:l ≠ it):∀ (n i:Nat) (s:Shared) (Q:List Value -> Shared -> Prop),s.heap.IsListIter it l i -> s.heap.IsList l its -> i + n <= its.size ->
  (∀ h',h'.IsListIter it l (i + n) -> Heap.SameBut it s.heap h' -> Q ((its.toList.drop i).take n) { s with heap:=h' }) -> wpAny (model prog w) A (draw (.ref it) n) Q E s
 | 0,i,s,Q,hi,hl,hn,q=>by
  rw [draw.eq_1]
  exact wpAny_pure (q s.heap hi ⟨rfl,fun _ _=>rfl⟩)
 | n + 1,i,s,Q,hi,hl,hn,q=>by
  rw [draw.eq_2]
  have hlt:i < its.size:=by walk_at "o"
  refine wpAny_bind (wpAny_pyNext_list_item (x:=its[i]) hi hl (by simp [hlt]) fun h' hi' sb=>?_)
  refine wpAny_bind (wpAny_holding (draw_lst (its:=its) hne n (i + 1) _ _ hi' ?_ (by walk_at "o") fun h2 hi2 sb2=>wpAny_pure ?_))
  ·obtain ⟨o,e,r⟩:=hl
   exact ⟨o,(sb.2 l hne).trans e,r⟩
  ·have e:(its.toList.drop i).take (n + 1) = its[i] :: (its.toList.drop (i + 1)).take n:=by
    rw [List.drop_eq_getElem_cons (show i < its.toList.length by simpa using hlt),List.take_succ_cons]
    simp
   have z:=q h2 (by rw [show i + (n + 1) = i + 1 + n by walk_at "o"]; exact hi2) ⟨sb2.1.trans sb.1,fun b hb=>(sb2.2 b hb).trans (sb.2 b hb)⟩
   rw [e] at z
   exact z
theorem unpackItems_lst {prog:Program} {w:World} {A:Around} {E:Value -> Shared -> Prop} {s:Shared} {l:Addr} {its:Array Value} {Q:List Value -> Shared -> Prop} (hA:A.handled = none) (hl:s.heap.IsList l its)
  (q:∀ h',Heap.ExtBut s.heap.objs.size s.heap h' -> Q its.toList { s with heap:=h' }):wpAny (model prog w) A (unpackItems (.ref l) its.size none) Q E s:=by
 unfold unpackItems notIterableAtAll
 refine wpAny_bind (wpAny_bind (wpAny_specialOf hl.typeIs slot_list_iter.lookup ?_))
 refine wpAny_pure ?_
 refine wpAny_bind (wpAny_holding (wpAny_pyIter_list hl ?_))
 have hlt:l < s.heap.objs.size:=by
  obtain ⟨o,e,_⟩:=hl
  exact Heap.lt_size e
 have hne:l ≠ s.heap.objs.size:=Nat.ne_of_lt hlt
 refine wpAny_bind (wpAny_holding (draw_lst (it:=s.heap.objs.size) hne its.size 0 _ _ ⟨_,Heap.get?_push_size _ rfl,rfl,rfl⟩ (hl.push _) (by walk_at "o") fun h' hi' sb=>?_))
 have ee:List.take its.size (List.drop 0 its.toList) = its.toList:=by rw [List.drop_zero,List.take_of_length_le (by simp)]
 have hl':h'.IsList l its:=by
  obtain ⟨o,e,r⟩:=hl.push (o:={ cls:=Value.type "list_iterator",data:=Data.fields #[Value.ref l,Value.int 0 0] })
  exact ⟨o,(sb.2 l hne).trans e,r⟩
 rw [ee]
 show wpAny (model prog w) A (if its.toList.length < its.size then _ else (do
   let x <- holding its.toList (pyNext (.ref s.heap.objs.size))
   if x.isSome = true then _ else pure its.toList)) Q E _
 rw [if_neg (by simp)]
 refine wpAny_bind (wpAny_holding (wpAny_pyNext_list_end hA hi' hl' (by simp) fun h2 eb=>?_))
 refine wpAny_pure (q h2 fun b o hb e=>eb b o hb ?_)
 show h'.get? b = some o
 rw [sb.2 b hb]
 exact Heap.get?_push_of_some _ e
theorem assign_Tuple_lst {prog:Program} {w:World} {A:Around} {E:Value -> Shared -> Prop} {s:Shared} {env:Env} {elts:List Expr} {x1:Nat} {pos:Pos} {l:Addr} {its:Array Value} {Q:Unit -> Shared -> Prop} (hA:A.handled = none) (hl:s.heap.IsList l its) (hn:(assignEach elts env).length = its.size) (hst:List.findIdx? (fun x=>x.fst) (assignEach elts env) = none)
  (q:∀ h',Heap.ExtBut s.heap.objs.size s.heap h' -> wpAny (model prog w) A (assignInOrder (List.map (fun x=>x.snd) (assignEach elts env)) its.toList) Q E { s with heap:=h' }):wpAny (model prog w) A (assign (.Tuple elts x1 pos) env (.ref l)) Q E s:=by
 rw [assign_Tuple]
 refine wpAny_bind (wpAny_standAt ?_)
 unfold unpack
 rw [hst,hn]
 exact wpAny_bind (wpAny_holding (unpackItems_lst hA hl q))
section
variable {X:Cx}
def gLstH (K:PySem.W.Frag) (n:Nat) (t:TGs):TG:=fun v σ H Q=>∃ a,v = .ref a /\ ∃ xs,vw K H a = some (.lst xs) /\ xs.length = n /\ t xs σ H Q
theorem qg_lstH {es:List Expr} {k:Nat} {t:TGs} {n:Nat} {pos:Pos} (hc:X.calm = true) (h:QGs X es t) (hn:(assignEach es X.env).length = n:=by rfl) (hst:(assignEach es X.env).findIdx? (·.1) = none:=by rfl):QG X (.Tuple es k pos) (gLstH X.K n t):=⟨by
 intro pins s σ H v u Q I r hw
 obtain ⟨a,e1,xs,hq,hl,hw⟩:=hw
 subst e1
 cases r
 obtain ⟨its,rv,ht,hz⟩:=I.list (.of (vw_lst hq))
 refine assign_Tuple_lst (I.ok.hd hc) ht.isList (by simp [hn,<- hl,rv.length]) hst fun h' hx=>?_
 have I1:Inv X pins σ H { s with heap:=h' }:=I.kept (t':=s.toks) fun b o e=>hx b o (Nat.ne_of_lt (Heap.lt_size e)) e
 exact h.h pins _ σ H xs _ Q I1 (by simpa using rv) hw⟩
end
end L2
namespace L2
open PySem
abbrev Om:=List Bool -> Int
def wg:Nat -> (Nat -> Int) -> Om -> Om
 | 0,_,_=>fun _=>0
 | m + 1,v,o=>fun l=>match l with
  | []=>0
  | false :: l=>wg m v (fun k=>o (false :: k)) l
  | true :: l=>v m * o (false :: l) - wg m v (fun k=>o (true :: k)) l
theorem wg_f {m:Nat} {v:Nat -> Int} {o:Om} {l:List Bool}:wg (m + 1) v o (false :: l) = wg m v (fun k=>o (false :: k)) l:=rfl
theorem wg_t {m:Nat} {v:Nat -> Int} {o:Om} {l:List Bool}:wg (m + 1) v o (true :: l) = v m * o (false :: l) - wg m v (fun k=>o (true :: k)) l:=rfl
theorem wg_lin {v:Nat -> Int} {a b:Int}:∀ (m:Nat) (o p:Om) (l:List Bool),wg m v (fun k=>a * o k + b * p k) l = a * wg m v o l + b * wg m v p l
 | 0,o,p,l=>by show (0:Int) = a * 0 + b * 0; rw [Int.mul_zero,Int.mul_zero]; rfl
 | m + 1,o,p,[]=>by show (0:Int) = a * 0 + b * 0; rw [Int.mul_zero,Int.mul_zero]; rfl
 | m + 1,o,p,false :: l=>by
  rw [wg_f,wg_f,wg_f]
  exact wg_lin m _ _ l
 | m + 1,o,p,true :: l=>by
  rw [wg_t,wg_t,wg_t,wg_lin m (fun k=>o (true :: k)) (fun k=>p (true :: k)) l]
  grind
theorem wg_zero {v:Nat -> Int}:∀ (m:Nat) (o:Om) (l:List Bool),(∀ k,o k = 0) -> wg m v o l = 0
 | 0,o,l,h=>rfl
 | m + 1,o,[],h=>rfl
 | m + 1,o,false :: l,h=>by rw [wg_f]; exact wg_zero m _ l fun k=>h _
 | m + 1,o,true :: l,h=>by rw [wg_t,h,wg_zero m _ l fun k=>h _]; walk_at "o"
theorem wg_congr {v:Nat -> Int} {m:Nat} {o p:Om} (h:∀ k,o k = p k) (l:List Bool):wg m v o l = wg m v p l:=by
 have:o = p:=funext h
 rw [this]
theorem wg_row {u v:Nat -> Int} {a b:Int}:∀ (m:Nat) (o:Om) (l:List Bool),wg m (fun i=>a * u i + b * v i) o l = a * wg m u o l + b * wg m v o l
 | 0,o,l=>by show (0:Int) = a * 0 + b * 0; rw [Int.mul_zero,Int.mul_zero]; rfl
 | m + 1,o,[]=>by show (0:Int) = a * 0 + b * 0; rw [Int.mul_zero,Int.mul_zero]; rfl
 | m + 1,o,false :: l=>by
  rw [wg_f,wg_f,wg_f]
  exact wg_row m _ l
 | m + 1,o,true :: l=>by
  rw [wg_t,wg_t,wg_t,wg_row m _ l]
  grind
theorem wg_none {v:Nat -> Int}:∀ (m:Nat) (o:Om) (l:List Bool),(∀ i,i < m -> v i = 0) -> wg m v o l = 0
 | 0,o,l,h=>rfl
 | m + 1,o,[],h=>rfl
 | m + 1,o,false :: l,h=>by rw [wg_f]; exact wg_none m _ l fun i hi=>h i (by walk_at "o")
 | m + 1,o,true :: l,h=>by rw [wg_t,h m (by walk_at "o"),wg_none m _ l fun i hi=>h i (by walk_at "o")]; walk_at "o"
theorem wg_swap {u v:Nat -> Int}:∀ (m:Nat) (o:Om) (l:List Bool),wg m u (wg m v o) l = - wg m v (wg m u o) l
 | 0,o,l=>rfl
 | m + 1,o,[]=>rfl
 | m + 1,o,false :: l=>by
  rw [wg_f,wg_f]
  exact wg_swap m (fun k=>o (false :: k)) l
 | m + 1,o,true :: l=>by
  rw [wg_t,wg_t,wg_f,wg_f]
  have e1:=wg_lin (v:=u) (a:=v m) (b:=-1) m (fun k=>o (false :: k)) (wg m v fun k=>o (true :: k)) l
  have e2:=wg_lin (v:=v) (a:=u m) (b:=-1) m (fun k=>o (false :: k)) (wg m u fun k=>o (true :: k)) l
  have f1:wg m u (fun k=>wg (m + 1) v o (true :: k)) l = wg m u (fun k=>v m * o (false :: k) + -1 * wg m v (fun k=>o (true :: k)) k) l:=wg_congr (fun k=>by rw [wg_t]; walk_at "o") l
  have f2:wg m v (fun k=>wg (m + 1) u o (true :: k)) l = wg m v (fun k=>u m * o (false :: k) + -1 * wg m u (fun k=>o (true :: k)) k) l:=wg_congr (fun k=>by rw [wg_t]; walk_at "o") l
  have s:=wg_swap (u:=u) (v:=v) m (fun k=>o (true :: k)) l
  rw [f1,f2,e1,e2]
  grind
theorem wg_same {v:Nat -> Int} (m:Nat) (o:Om) (l:List Bool):wg m v (wg m v o) l = 0:=by
 have:=wg_swap (u:=v) (v:=v) m o l
 walk_at "o"
section
variable (W:Nat -> Int)
def hrow (i:Nat):Nat -> Int:=fun j=>W (i + j)
def one0:Om:=fun l=>if l.all (fun b=>!b) then 1 else 0
def om (m:Nat):Nat -> Om
 | 0=>one0
 | k + 1=>wg m (hrow W k) (om m k)
def trs:Nat -> List Bool
 | 0=>[]
 | m + 1=>true :: trs m
def dl1 (j:Nat):Nat -> Int:=fun i=>if i = j then 1 else 0
def qk (k j:Nat):Int:=wg (k + 1) (dl1 j) (om W (k + 1) k) (trs (k + 1))
def Dk (k:Nat):Int:=om W k k (trs k)
def Lq (k i:Nat):Int:=wg (k + 1) (hrow W i) (om W (k + 1) k) (trs (k + 1))
end
variable {W:Nat -> Int}
theorem om_false (m:Nat):∀ (k:Nat) (l:List Bool),om W (m + 1) k (false :: l) = om W m k l
 | 0,l=>by simp [om,one0]
 | k + 1,l=>by
  show wg (m + 1) (hrow W k) (om W (m + 1) k) (false :: l) = wg m (hrow W k) (om W m k) l
  rw [wg_f]
  exact wg_congr (fun j=>om_false m k j) l
theorem om_zero (m:Nat):∀ (k i:Nat) (l:List Bool),i < k -> wg m (hrow W i) (om W m k) l = 0
 | 0,i,l,h=>by walk_at "o"
 | k + 1,i,l,h=>by
  show wg m (hrow W i) (wg m (hrow W k) (om W m k)) l = 0
  by_cases e:i = k
  ·rw [e]; exact wg_same m _ l
  ·rw [wg_swap,wg_zero m _ l fun j=>om_zero m k i j (by walk_at "o")]
   rfl
theorem qk_top (k:Nat):qk W k k = Dk W k:=by
 show wg (k + 1) (dl1 k) (om W (k + 1) k) (true :: trs k) = om W k k (trs k)
 rw [wg_t,om_false,wg_none (v:=dl1 k) k _ _ fun i hi=>if_neg (by walk_at "o")]
 show (if k = k then (1:Int) else 0) * _ - 0 = _
 rw [if_pos rfl]
 walk_at "o"
theorem qk_out {k j:Nat} (h:k < j):qk W k j = 0:=wg_none _ _ _ fun i hi=>if_neg (by walk_at "o")
theorem Lq_lt {k i:Nat} (h:i < k):Lq W k i = 0:=om_zero _ k i _ h
theorem Lq_top (k:Nat):Lq W k k = Dk W (k + 1):=rfl
def sumN (f:Nat -> Int):Nat -> Int
 | 0=>0
 | n + 1=>sumN f n + f n
theorem sumN_congr {f g:Nat -> Int}:∀ n,(∀ i,i < n -> f i = g i) -> sumN f n = sumN g n
 | 0,_=>rfl
 | n + 1,h=>by
  show sumN f n + f n = sumN g n + g n
  rw [sumN_congr n fun i hi=>h i (by walk_at "o"),h n (by walk_at "o")]
theorem sumN_zero {f:Nat -> Int}:∀ n,(∀ i,i < n -> f i = 0) -> sumN f n = 0
 | 0,_=>rfl
 | n + 1,h=>by
  show sumN f n + f n = 0
  rw [sumN_zero n fun i hi=>h i (by walk_at "o"),h n (by walk_at "o")]
  rfl
theorem sumN_one {f:Nat -> Int} {j:Nat}:∀ n,(∀ i,i < n -> i ≠ j -> f i = 0) -> j < n -> sumN f n = f j
 | 0,_,h=>by walk_at "o"
 | n + 1,h,hj=>by
  show sumN f n + f n = f j
  by_cases e:j = n
  ·rw [sumN_zero n fun i hi=>h i (by walk_at "o") (by walk_at "o"),e]
   walk_at "o"
  ·rw [sumN_one n (fun i hi hn=>h i (by walk_at "o") hn) (by walk_at "o"),h n (by walk_at "o") (by walk_at "o")]
   walk_at "o"
theorem wg_places {v:Nat -> Int} {M:Nat} {o:Om} {l:List Bool}:∀ n,wg M (fun i=>sumN (fun j=>v j * dl1 j i) n) o l = sumN (fun j=>v j * wg M (dl1 j) o l) n
 | 0=>wg_none _ _ _ fun i _=>rfl
 | n + 1=>by
  have e:=wg_row (u:=fun i=>sumN (fun j=>v j * dl1 j i) n) (v:=dl1 n) (a:=1) (b:=v n) M o l
  have f:(fun i=>sumN (fun j=>v j * dl1 j i) (n + 1)) = fun i=>1 * sumN (fun j=>v j * dl1 j i) n + v n * dl1 n i:=funext fun i=>by
   show sumN _ n + v n * dl1 n i = _
   rw [Int.one_mul]
  rw [f,e,wg_places n]
  show _ = sumN _ n + v n * _
  rw [Int.one_mul]
theorem Lq_sum (k i:Nat):Lq W k i = sumN (fun j=>W (i + j) * qk W k j) (k + 1):=by
 unfold Lq qk
 rw [<- wg_places (v:=fun j=>W (i + j)) (M:=k + 1)]
 have:∀ m (o:Om) (l:List Bool) (u v:Nat -> Int),(∀ i,i < m -> u i = v i) -> wg m u o l = wg m v o l:=fun m o l u v h=>by
  have e:=wg_row (u:=u) (v:=v) (a:=1) (b:=-1) m o l
  rw [wg_none m o l fun i hi=>by rw [h i hi]; walk_at "o"] at e
  walk_at "o"
 refine this _ _ _ _ _ fun c hc=>?_
 show W (i + c) = _
 rw [sumN_one (j:=c) (k + 1) (fun j _ hj=>by unfold dl1; rw [if_neg (fun z=>hj z.symm),Int.mul_zero]) hc]
 unfold dl1
 rw [if_pos rfl,Int.mul_one]
end L2
namespace L2
open PySem
variable {W:Nat -> Int}
theorem wg_abs {v:Nat -> Int} {B C:Nat} (hv:∀ i,(v i).natAbs <= B):∀ (m:Nat) (o:Om) (l:List Bool),(∀ k,(o k).natAbs <= C) -> (wg m v o l).natAbs <= m * (B * C)
 | 0,o,l,h=>by simp [wg]
 | m + 1,o,[],h=>by simp [wg]
 | m + 1,o,false :: l,h=>by
  rw [wg_f]
  have:=wg_abs hv m (fun k=>o (false :: k)) l fun k=>h _
  rw [Nat.add_mul]
  walk_at "o"
 | m + 1,o,true :: l,h=>by
  rw [wg_t]
  have h1:=wg_abs hv m (fun k=>o (true :: k)) l fun k=>h _
  have h2:(v m * o (false :: l)).natAbs <= B * C:=by rw [Int.natAbs_mul]; exact Nat.mul_le_mul (hv m) (h _)
  have h3:=Int.natAbs_sub_le (v m * o (false :: l)) (wg m v (fun k=>o (true :: k)) l)
  rw [Nat.add_mul]
  walk_at "o"
end L2
namespace L2
open PySem PySem.Spec PyProof.Rows
end L2
namespace L2
open PySem PySem.Spec PyProof.Rows
end L2
namespace L2
open PySem PySem.Spec PyProof.Rows
theorem dotR_adL {f g h:Nat -> Rat}:∀ n,dotR (fun i=>f i + g i) h n = dotR f h n + dotR g h n
 | 0=>by show (0:Rat) = 0 + 0; grind
 | n + 1=>by
  show dotR (fun i=>f i + g i) h n + (f n + g n) * h n = (dotR f h n + f n * h n) + (dotR g h n + g n * h n)
  rw [dotR_adL n]
  grind
theorem dotR_zero {f h:Nat -> Rat}:∀ n,(∀ i,i < n -> f i * h i = 0) -> dotR f h n = 0
 | 0,_=>rfl
 | n + 1,hz=>by
  show dotR f h n + f n * h n = 0
  rw [dotR_zero n fun i hi=>hz i (by walk_at "o"),hz n (by walk_at "o")]
  grind
theorem dotR_more {f h:Nat -> Rat} {n:Nat} (hz:∀ i,n <= i -> f i * h i = 0):∀ m,dotR f h (n + m) = dotR f h n
 | 0=>rfl
 | m + 1=>by
  show dotR f h (n + m) + f (n + m) * h (n + m) = dotR f h n
  rw [dotR_more hz m,hz (n + m) (by walk_at "o")]
  grind
theorem dot_sum {F G:Nat -> Rat} {f g:Nat -> Int} {c d:Rat} (hc:c ≠ 0) (hd:d ≠ 0) (hF:∀ i,F i = ((f i:Int):Rat) / c) (hG:∀ i,G i = ((g i:Int):Rat) / d):∀ n,dotR F G n = ((sumN (fun i=>g i * f i) n:Int):Rat) / (c * d)
 | 0=>by
  show (0:Rat) = ((0:Int):Rat) / (c * d)
  have:((0:Int):Rat) = 0:=rfl
  rw [this]
  grind
 | n + 1=>by
  show dotR F G n + F n * G n = ((sumN (fun i=>g i * f i) n + g n * f n:Int):Rat) / (c * d)
  rw [dot_sum hc hd hF hG n,hF n,hG n,Rat.intCast_add,Rat.intCast_mul]
  grind
section
variable {W:Nat -> Int} {B:Int} {k:Nat} {P S:Nat -> Rat}
theorem step_dot (hD:Dk W k ≠ 0) (hB:B ≠ 0) (hP:∀ j,P j = ((qk W k j:Int):Rat) / ((Dk W k:Int):Rat)) (hS:∀ i,((W i:Int):Rat) = S i * (B:Rat)) (i:Nat):dotR P (fun j=>S (i + j)) (k + 1) = ((Lq W k i:Int):Rat) / (((Dk W k:Int):Rat) * (B:Rat)):=by
 have cB:(B:Rat) ≠ 0:=cast_ne hB
 rw [dot_sum (f:=qk W k) (g:=fun j=>W (i + j)) (c:=((Dk W k:Int):Rat)) (d:=(B:Rat)) (cast_ne hD) cB hP (fun j=>by have:=hS (i + j); grind),<- Lq_sum]
end
end L2
namespace L2
open PySem PySem.Spec PyProof.Rows
theorem dotR_adR {f g h:Nat -> Rat}:∀ n,dotR f (fun i=>g i + h i) n = dotR f g n + dotR f h n
 | 0=>by show (0:Rat) = 0 + 0; grind
 | n + 1=>by
  show dotR f (fun i=>g i + h i) n + f n * (g n + h n) = (dotR f g n + f n * g n) + (dotR f h n + f n * h n)
  rw [dotR_adR n]
  grind
theorem dotR_scL {f h:Nat -> Rat} {c:Rat}:∀ n,dotR (fun i=>c * f i) h n = c * dotR f h n
 | 0=>by show (0:Rat) = c * 0; grind
 | n + 1=>by
  show dotR (fun i=>c * f i) h n + (c * f n) * h n = c * (dotR f h n + f n * h n)
  rw [dotR_scL n]
  grind
theorem dotR_scR {f h:Nat -> Rat} {c:Rat}:∀ n,dotR f (fun i=>c * h i) n = c * dotR f h n
 | 0=>by show (0:Rat) = c * 0; grind
 | n + 1=>by
  show dotR f (fun i=>c * h i) n + f n * (c * h n) = c * (dotR f h n + f n * h n)
  rw [dotR_scR n]
  grind
def ip (S u v:Nat -> Rat) (m n:Nat):Rat:=dotR u (fun i=>dotR v (fun j=>S (i + j)) n) m
theorem ip_swap {S u v:Nat -> Rat} {n:Nat}:∀ m,ip S u v m n = ip S v u n m
 | 0=>by
  unfold ip
  show (0:Rat) = dotR v (fun j=>0) n
  rw [dotR_zero n fun i _=>by grind]
 | m + 1=>by
  have h:=ip_swap (S:=S) (u:=u) (v:=v) (n:=n) m
  unfold ip at h ⊢
  show dotR u (fun i=>dotR v (fun j=>S (i + j)) n) m + u m * dotR v (fun j=>S (m + j)) n = dotR v (fun i=>dotR u (fun j=>S (i + j)) m + u m * S (i + m)) n
  rw [dotR_adR,dotR_scR,h]
  congr 2
  exact dot_congr n (fun _ _=>rfl) fun i _=>by rw [Nat.add_comm]
section
variable {S:Nat -> Rat} {P:Nat -> Nat -> Rat} {h:Nat -> Rat} {M n:Nat}
end
section
variable {W:Nat -> Int} {B:Int} {S:Nat -> Rat}
theorem ip_lam {k m:Nat} {p v:Nat -> Rat} (hD:Dk W k ≠ 0) (hB:B ≠ 0) (hP:∀ j,p j = ((qk W k j:Int):Rat) / ((Dk W k:Int):Rat)) (hS:∀ i,((W i:Int):Rat) = S i * (B:Rat)) (hm:k + 1 <= m) (n:Nat):ip S v p n m = dotR v (fun i=>((Lq W k i:Int):Rat) / (((Dk W k:Int):Rat) * (B:Rat))) n:=by
 refine dot_congr n (fun _ _=>rfl) fun i _=>?_
 rw [<- step_dot hD hB hP hS i]
 have:=dotR_more (f:=p) (h:=fun j=>S (i + j)) (n:=k + 1) (fun j hj=>by
  have z:((0:Int):Rat) = 0:=rfl
  rw [hP j,qk_out (by walk_at "o"),z]
  grind) (m - (k + 1))
 rw [show k + 1 + (m - (k + 1)) = m by walk_at "o"] at this
 exact this
end
end L2
namespace L2
open PySem PySem.Spec PyProof.Rows
theorem dot_evN {v:Nat -> Rat} {x c:Rat}:∀ n,dotR v (fun j=>c * powR x j) n = c * evN v n x
 | 0=>by show (0:Rat) = c * 0; grind
 | n + 1=>by
  show dotR v (fun j=>c * powR x j) n + v n * (c * powR x n) = c * (evN v n x + v n * powR x n)
  rw [dot_evN n]
  grind
theorem sq_pos0 (y:Rat):0 <= y * y:=by
 rcases Rat.le_total (a:=0) (b:=y) with h | h
 ·exact Rat.mul_nonneg h h
 ·have:=Rat.mul_nonneg (Rat.neg_le_neg h) (Rat.neg_le_neg h)
  grind
section
variable {W:Nat -> Int} {B:Int} {cs:List Spt}
def Pk (W:Nat -> Int) (k:Nat):Nat -> Rat:=fun j=>((qk W k j:Int):Rat) / ((Dk W k:Int):Rat)
theorem Pk_out {k j:Nat} (h:k < j):Pk W k j = 0:=by
 have z:((0:Int):Rat) = 0:=rfl
 unfold Pk
 rw [qk_out h,z]
 grind
theorem Pk_top {k:Nat} (h:Dk W k ≠ 0):Pk W k k = 1:=by
 have:=cast_ne h
 unfold Pk
 rw [qk_top]
 grind
end
end L2
namespace L2
open PySem PySem.Spec PyProof.Rows
end L2
namespace L2
open PySem PySem.Spec PyProof.Rows
section
variable {W:Nat -> Int} {B:Int} {S:Nat -> Rat} {M:Nat}
end
end L2
namespace L2
open PySem PySem.Spec PyProof.Rows
end L2
namespace L2
open PySem PyProof.Rows
theorem bit1 {i:Int} (h:0 <= i):Builtin.bitAnd i 1 = i % 2:=by
 rw [PyProof.Rows.bitAnd_pp h (by decide)]
 show ((i.toNat &&& 1:Nat):Int) = _
 rw [Nat.and_one_is_mod]
 walk_at "o"
section
variable {X:Cx}
theorem op_and1:OpR X (binaryOp .BitAnd) (rI (fun i j=>0 <= i /\ j = 1) fun i j=>.int (i % 2)):=opI fun i j _ _ _ _ _ hc q=>by
 obtain ⟨h0,rfl⟩:=hc
 refine and_int ?_
 rw [bit1 h0]
 exact q
end
end L2
namespace L2
open PySem PySem.Spec PyProof.Rows
section
variable {W:Nat -> Int} {k:Nat}
end
end L2
namespace L2
open PySem PySem.Spec PyProof.Rows
section
variable {P:Program} {w:World} {K:PySem.W.Frag} {mg:Str -> Option Value} {base:Heap}
end
end L2
namespace L2
open PySem PySem.Spec PyProof.Rows
section
variable {X:Cx} {a b:Expr} {pos:Pos} {t:St -> Hp -> XK -> Prop}
end
section
variable {P:Program} {w:World} {K:PySem.W.Frag} {mg:Str -> Option Value} {base:Heap}
end
end L2
namespace L2
open PySem PySem.Spec PyProof.Rows
structure Lm where
 p:Addr
 c:Addr
 ps:Arguments
 b:Expr
 sc:Scope
section
variable {P:Addr} {G0 G G' L0 L1 L3:Hp} {qual:Str} {cl:List (Str × Addr)} {cs p c':Addr} {xs:List Lm} {params:Arguments} {body:Expr} {scope:Scope}
end
end L2
namespace L2
open PySem PySem.Spec PyProof.Rows
structure Seer (P:Program) (base:Heap):Prop where
 seer:base.NoSeer
 tree:P.given.tree = none
def CNz (_ j:Int):Prop:=j ≠ 0
theorem op_fdivP {X:Cx} {k:Nat} (N:Seer X.prog X.base) (hr:Room k X.A) (hst:X.stack = X.env :: X.outer) (hgen:X.env.scope.isGenerator = false) (hco:X.env.scope.isCoroutine = false) :
  OpR X (binaryOp .FloorDiv) (rI CNz fun i j=>.int (i.fdiv j)):=by
 intro pins s σ H x y v u Q I rx ry h
 obtain ⟨i,j,rfl,rfl,hc,q⟩:=h
 obtain ⟨t,rfl⟩:=rx
 obtain ⟨t',rfl⟩:=ry
 refine floordiv_int hc ⟨.int (i.fdiv j),H,I.tok _,⟨_,rfl⟩,q⟩ (.inr ?_)
 refine PySem.PylongRoom.of I.nolimit ?_ (PySem.SeerAt.of (N.seer.keeps I.bk) N.tree (I.ok.frames.trans (congrArg some hst)) hgen hco I.ok.blt I.ok.glob)
 have:=hr.dp
 show X.A.depth + 100 < recursionLimit
 walk_at "o"
end L2
namespace L2
open PySem
def hR (W:Nat -> Int) (B:Int) (k:Nat):Rat:=((Dk W (k + 1):Int):Rat) / ((Dk W k * B:Int):Rat)
theorem EV_dot {v:Nat -> Rat} {x:Rat}:EV v x = dotR v (fun j=>1 * powR x j) 20:=by
 rw [dot_evN]
 unfold EV
 grind
section
variable {W:Nat -> Int} {B:Int} {x:Rat} {m:Nat}
end
def tb:Nat -> Nat
 | 0=>1
 | k + 1=>tb k + (360 * k + 280)
end L2
namespace L2
open PySem
def dw (M:Nat):List (Nat -> Int) -> Om
 | []=>one0
 | r :: rs=>wg M r (dw M rs)
def dt (M:Nat) (rows:List (Nat -> Int)):Int:=dw M rows (trs M)
theorem wg_neg {v:Nat -> Int} {m:Nat} {o p:Om} (h:∀ k,o k = - p k) (l:List Bool):wg m v o l = - wg m v p l:=by
 have e:=wg_lin (v:=v) (a:=-1) (b:=0) m p p l
 rw [<- wg_congr (o:=o) (p:=fun k=>-1 * p k + 0 * p k) (fun k=>by rw [h]; walk_at "o") l] at e
 walk_at "o"
theorem wg_scal {v:Nat -> Int} {a:Int} {m:Nat} {o p:Om} (h:∀ k,o k = a * p k) (l:List Bool):wg m v o l = a * wg m v p l:=by
 have e:=wg_lin (v:=v) (a:=a) (b:=0) m p p l
 rw [<- wg_congr (o:=o) (p:=fun k=>a * p k + 0 * p k) (fun k=>by rw [h]; walk_at "o") l] at e
 walk_at "o"
theorem wg_ext {u v:Nat -> Int} {m:Nat} {o:Om} {l:List Bool} (h:∀ i,i < m -> u i = v i):wg m u o l = wg m v o l:=by
 have e:=wg_row (u:=u) (v:=v) (a:=1) (b:=-1) m o l
 rw [wg_none m o l fun i hi=>by rw [h i hi]; walk_at "o"] at e
 walk_at "o"
def Pm (x y:Int):Prop:=x = y \/ x = -y
theorem Pm.rfl' {x:Int}:Pm x x:=.inl rfl
theorem Pm.symm {x y:Int} (h:Pm x y):Pm y x:=by rcases h with e | e <;> unfold Pm <;> walk_at "o"
theorem Pm.trans {x y z:Int} (h:Pm x y) (g:Pm y z):Pm x z:=by rcases h with e | e <;> rcases g with f | f <;> unfold Pm <;> walk_at "o"
theorem Pm.mul {x y:Int} (h:Pm x y) (a:Int):Pm (a * x) (a * y):=by
 rcases h with e | e
 ·exact .inl (by rw [e])
 ·exact .inr (by rw [e,Int.mul_neg])
theorem Pm.of_mul {a x y:Int} (h:Pm (a * x) (a * y)) (ha:a ≠ 0):Pm x y:=by
 rcases h with e | e
 ·exact .inl (Int.eq_of_mul_eq_mul_left ha e)
 ·exact .inr (Int.eq_of_mul_eq_mul_left ha (by rw [e,Int.mul_neg]))
theorem dw_mem {M:Nat} {x:Nat -> Int}:∀ {rows:List (Nat -> Int)},x ∈ rows -> ∀ l,wg M x (dw M rows) l = 0
 | [],h,_=>by cases h
 | y :: rs,h,l=>by
  show wg M x (wg M y (dw M rs)) l = 0
  rcases List.mem_cons.mp h with rfl | z
  ·exact wg_same M _ l
  ·rw [wg_swap,wg_zero M _ l fun k=>dw_mem z k]
   rfl
theorem dw_perm {M:Nat} {a b:List (Nat -> Int)} (h:a.Perm b):(∀ l,dw M a l = dw M b l) \/ ∀ l,dw M a l = - dw M b l:=by
 induction h with
 | nil=>exact .inl fun _=>rfl
 | cons x _ ih =>
  rcases ih with e | e
  ·exact .inl fun l=>wg_congr e l
  ·exact .inr fun l=>wg_neg e l
 | swap x y l=>exact .inr fun k=>wg_swap M _ k
 | trans _ _ ih1 ih2 =>
  rcases ih1 with e | e <;> rcases ih2 with f | f
  ·exact .inl fun l=>by rw [e,f]
  ·exact .inr fun l=>by rw [e,f]
  ·exact .inr fun l=>by rw [e,f]
  ·exact .inl fun l=>by rw [e,f]; walk_at "o"
theorem dt_perm {M:Nat} {a b:List (Nat -> Int)} (h:a.Perm b):Pm (dt M a) (dt M b):=by
 rcases dw_perm (M:=M) h with e | e
 ·exact .inl (e _)
 ·exact .inr (e _)
theorem dw_false {m:Nat}:∀ (rs:List (Nat -> Int)) (l:List Bool),dw (m + 1) rs (false :: l) = dw m rs l
 | [],l=>by simp [dw,one0]
 | r :: rs,l=>by
  show wg (m + 1) r (dw (m + 1) rs) (false :: l) = wg m r (dw m rs) l
  rw [wg_f]
  exact wg_congr (fun k=>dw_false rs k) l
theorem dw_true {m:Nat}:∀ {rs:List (Nat -> Int)},(∀ r ∈ rs,r m = 0) -> ∀ l,dw (m + 1) rs (true :: l) = 0
 | [],_,l=>by simp [dw,one0]
 | r :: rs,h,l=>by
  show wg (m + 1) r (dw (m + 1) rs) (true :: l) = 0
  rw [wg_t,h r List.mem_cons_self,wg_zero m _ l fun k=>dw_true (fun x hx=>h x (List.mem_cons_of_mem _ hx)) k]
  walk_at "o"
theorem dt_top {m:Nat} {r:Nat -> Int} {rs:List (Nat -> Int)} (h:∀ x ∈ rs,x m = 0):dt (m + 1) (r :: rs) = r m * dt m rs:=by
 show wg (m + 1) r (dw (m + 1) rs) (true :: trs m) = r m * dw m rs (trs m)
 rw [wg_t,dw_false,wg_zero m _ _ fun k=>dw_true h k]
 walk_at "o"
def st (g:Nat -> Nat -> Int) (lo:Nat):Nat -> List (Nat -> Int)
 | 0=>[]
 | n + 1=>g (lo + n) :: st g lo n
theorem st_mem {g:Nat -> Nat -> Int} {lo:Nat} {x:Nat -> Int}:∀ {n:Nat},x ∈ st g lo n -> ∃ i,i < n /\ x = g (lo + i)
 | 0,h=>by cases h
 | n + 1,h=>by
  rcases List.mem_cons.mp h with rfl | z
  ·exact ⟨n,by walk_at "o",rfl⟩
  ·obtain ⟨i,hi,e⟩:=st_mem z
   exact ⟨i,by walk_at "o",e⟩
theorem mem_st {g:Nat -> Nat -> Int} {lo i:Nat}:∀ {n:Nat},i < n -> g (lo + i) ∈ st g lo n
 | 0,h=>by walk_at "o"
 | n + 1,h=>by
  by_cases e:i = n
  ·rw [e]; exact List.mem_cons_self
  ·exact List.mem_cons_of_mem _ (mem_st (by walk_at "o"))
theorem st_app (g:Nat -> Nat -> Int) (lo n:Nat):∀ m,st g lo (n + m) = st g (lo + n) m ++ st g lo n
 | 0=>rfl
 | m + 1=>by
  show g (lo + (n + m)) :: st g lo (n + m) = g (lo + n + m) :: (st g (lo + n) m ++ st g lo n)
  rw [st_app g lo n m,Nat.add_assoc]
theorem dt_stair {g:Nat -> Nat -> Int} {c:Int} {d0 lo:Nat} {X:List (Nat -> Int)} (h1:∀ i,g i (d0 + i) = c) (h2:∀ i k,d0 + i < k -> g i k = 0) (hX:∀ x ∈ X,∀ k,d0 + lo <= k -> x k = 0):∀ n,dt (d0 + lo + n) (st g lo n ++ X) = c ^ n * dt (d0 + lo) X
 | 0=>by show dt (d0 + lo) X = c ^ 0 * _; rw [Int.pow_zero,Int.one_mul]
 | n + 1=>by
  show dt (d0 + lo + n + 1) (g (lo + n) :: (st g lo n ++ X)) = _
  rw [dt_top,dt_stair h1 h2 hX n,show d0 + lo + n = d0 + (lo + n) by walk_at "o",h1,Int.pow_succ,Int.mul_comm (c ^ n) c,Int.mul_assoc]
  intro x hx
  rcases List.mem_append.mp hx with z | z
  ·obtain ⟨i,hi,rfl⟩:=st_mem z
   exact h2 _ _ (by walk_at "o")
  ·exact hX x z _ (by walk_at "o")
def Spn (M:Nat) (X:List (Nat -> Int)) (v:Nat -> Int):Prop:=∀ rows:List (Nat -> Int),(∀ x ∈ X,x ∈ rows) -> ∀ l,wg M v (dw M rows) l = 0
theorem Spn.mem {M:Nat} {X:List (Nat -> Int)} {v:Nat -> Int} (h:v ∈ X):Spn M X v:=fun rows hr l=>dw_mem (hr v h) l
theorem Spn.zero {M:Nat} {X:List (Nat -> Int)}:Spn M X fun _=>0:=fun rows _ l=>wg_none M _ l fun _ _=>rfl
theorem Spn.lin {M:Nat} {X:List (Nat -> Int)} {u v:Nat -> Int} {a b:Int} (hu:Spn M X u) (hv:Spn M X v):Spn M X fun k=>a * u k + b * v k:=fun rows hr l=>by
 rw [wg_row,hu rows hr l,hv rows hr l]
 walk_at "o"
theorem Spn.sum {M:Nat} {X:List (Nat -> Int)} {q:Nat -> Int} {g:Nat -> Nat -> Int}:∀ n,(∀ i,i < n -> g i ∈ X) -> Spn M X fun k=>sumN (fun i=>q i * g i k) n
 | 0,_=>Spn.zero
 | n + 1,h=>by
  have e:=Spn.lin (a:=1) (b:=q n) (Spn.sum (q:=q) n fun i hi=>h i (by walk_at "o")) (Spn.mem (M:=M) (h n (by walk_at "o")))
  have f:(fun k=>1 * sumN (fun i=>q i * g i k) n + q n * g n k) = fun k=>sumN (fun i=>q i * g i k) (n + 1):=by
   funext k
   show 1 * _ + _ = sumN _ n + q n * g n k
   walk_at "o"
  rw [f] at e
  exact e
theorem dw_rep {M:Nat} {f r:Nat -> Nat -> Int} {c b:Int} {X:List (Nat -> Int)}:∀ n,(∀ i,i < n -> ∃ v,Spn M X v /\ ∀ k,c * f i k = b * r i k + v k) -> ∀ l,c ^ n * dw M (st f 0 n ++ X) l = b ^ n * dw M (st r 0 n ++ X) l
 | 0,_,l=>by rw [Int.pow_zero,Int.pow_zero]; rfl
 | n + 1,h,l=>by
  have ih:=dw_rep n fun i hi=>h i (by walk_at "o")
  obtain ⟨v,hv,e⟩:=h n (by walk_at "o")
  show c ^ (n + 1) * wg M (f (0 + n)) (dw M (st f 0 n ++ X)) l = b ^ (n + 1) * wg M (r (0 + n)) (dw M (st r 0 n ++ X)) l
  rw [Nat.zero_add]
  have e1:c ^ n * wg M (f n) (dw M (st f 0 n ++ X)) l = b ^ n * wg M (f n) (dw M (st r 0 n ++ X)) l:=by
   rw [<- wg_scal (o:=fun k=>c ^ n * dw M (st f 0 n ++ X) k) (fun _=>rfl) l,<- wg_scal (o:=fun k=>b ^ n * dw M (st r 0 n ++ X) k) (fun _=>rfl) l]
   exact wg_congr ih l
  have e2:c * wg M (f n) (dw M (st r 0 n ++ X)) l = b * wg M (r n) (dw M (st r 0 n ++ X)) l:=by
   have a1:=wg_row (u:=f n) (v:=f n) (a:=c) (b:=0) M (dw M (st r 0 n ++ X)) l
   have a2:=wg_row (u:=r n) (v:=v) (a:=b) (b:=1) M (dw M (st r 0 n ++ X)) l
   rw [hv _ (fun x hx=>List.mem_append_right _ hx) l] at a2
   have a3:(fun i=>c * f n i + 0 * f n i) = fun i=>b * r n i + 1 * v i:=by
    funext k
    have:=e k
    walk_at "o"
   rw [a3,a2] at a1
   walk_at "o"
  rw [Int.pow_succ,Int.pow_succ,Int.mul_comm (c ^ n) c,Int.mul_assoc,e1,Int.mul_left_comm,e2,Int.mul_assoc]
theorem dt_rep {M:Nat} {f r:Nat -> Nat -> Int} {c b:Int} {X:List (Nat -> Int)} (n:Nat) (h:∀ i,i < n -> ∃ v,Spn M X v /\ ∀ k,c * f i k = b * r i k + v k):c ^ n * dt M (st f 0 n ++ X) = b ^ n * dt M (st r 0 n ++ X):=dw_rep n h _
def sh (f:Nat -> Int) (i k:Nat):Int:=if i <= k then f (k - i) else 0
def Ej (j k:Nat):List (Nat -> Int):=((List.range (j + 1)).filter fun i=>decide (i ≠ k)).map dl1
theorem Ej_van {j k:Nat} {x:Nat -> Int} (h:x ∈ Ej j k) {m:Nat} (hm:j < m):x m = 0:=by
 obtain ⟨i,hi,rfl⟩:=List.mem_map.mp h
 have:=List.mem_range.mp (List.mem_filter.mp hi).1
 exact if_neg (by walk_at "o")
theorem st_dl1:∀ n,st dl1 0 n = ((List.range n).reverse).map dl1
 | 0=>rfl
 | n + 1=>by
  rw [List.range_succ,List.reverse_append]
  show dl1 (0 + n) :: st dl1 0 n = dl1 n :: _
  rw [st_dl1 n,Nat.zero_add]
  rfl
theorem dt_unit (n:Nat):dt n (st dl1 0 n) = 1:=by
 have e:=dt_stair (g:=dl1) (c:=1) (d0:=0) (lo:=0) (X:=[]) (fun i=>by rw [Nat.zero_add]; exact if_pos rfl) (fun i k h=>if_neg (by walk_at "o")) (fun x hx=>by cases hx) n
 rw [List.append_nil,Int.one_pow,Nat.zero_add,Nat.zero_add] at e
 rw [e]
 rfl
theorem Ej_perm {j k:Nat} (h:k <= j):(dl1 k :: Ej j k).Perm (st dl1 0 (j + 1)):=by
 rw [st_dl1]
 show (List.map dl1 (k :: (List.range (j + 1)).filter fun i=>decide (i ≠ k))).Perm _
 refine List.Perm.map _ (List.Perm.trans ?_ (List.reverse_perm _).symm)
 have nd:(List.range (j + 1)).Nodup:=List.nodup_range
 have e:(List.range (j + 1)).filter (fun i=>decide (i ≠ k)) = (List.range (j + 1)).erase k:=by
  rw [nd.erase_eq_filter]
  congr 1
  funext i
  by_cases z:i = k
  ·simp [z]
  ·simp [z]
 rw [e]
 exact (List.perm_cons_erase (List.mem_range.mpr (by walk_at "o"))).symm
theorem dt_one {j k:Nat} {R:Nat -> Int} (h:k <= j):Pm (dt (j + 1) (R :: Ej j k)) (R k):=by
 have e:dt (j + 1) (R :: Ej j k) = R k * dt (j + 1) (dl1 k :: Ej j k):=by
  show wg (j + 1) R (dw (j + 1) (Ej j k)) (trs (j + 1)) = R k * wg (j + 1) (dl1 k) (dw (j + 1) (Ej j k)) (trs (j + 1))
  have e1:wg (j + 1) R (dw (j + 1) (Ej j k)) (trs (j + 1)) = wg (j + 1) (fun i=>sumN (fun a=>R a * dl1 a i) (j + 1)) (dw (j + 1) (Ej j k)) (trs (j + 1)):=wg_ext fun i hi=>by
   rw [sumN_one (j:=i) (j + 1) (fun a _ ha=>by rw [show dl1 a i = 0 from if_neg (fun z=>ha z.symm)]; walk_at "o") hi,show dl1 i i = 1 from if_pos rfl]
   walk_at "o"
  rw [e1,wg_places]
  refine sumN_one (j + 1) (fun i hi hn=>?_) (by walk_at "o")
  have z:dl1 i ∈ Ej j k:=List.mem_map.mpr ⟨i,List.mem_filter.mpr ⟨List.mem_range.mpr hi,decide_eq_true hn⟩,rfl⟩
  rw [dw_mem z]
  walk_at "o"
 rw [e]
 have p:=(dt_perm (M:=j + 1) (Ej_perm h)).mul (R k)
 rw [dt_unit,Int.mul_one] at p
 exact p
end L2
namespace L2
open PySem
def SR (f g:Nat -> Int) (a b j k:Nat):Int:=dt (a + b - j) (st (sh f) 0 (b - j) ++ (st (sh g) 0 (a - j) ++ Ej j k))
theorem sh_top {f:Nat -> Int} {a i:Nat}:sh f i (a + i) = f a:=by
 unfold sh
 rw [if_pos (by walk_at "o"),show a + i - i = a by walk_at "o"]
theorem sh_van {f:Nat -> Int} {a:Nat} (h:∀ k,a < k -> f k = 0) {i k:Nat} (hk:a + i < k):sh f i k = 0:=by
 unfold sh
 rw [if_pos (by walk_at "o")]
 exact h _ (by walk_at "o")
def cv (q g:Nat -> Int) (n k:Nat):Int:=sumN (fun t=>q t * sh g t k) n
theorem sh_sum {q g:Nat -> Int} {i n:Nat}:∀ k,sh (cv q g n) i k = sumN (fun t=>q t * sh g (i + t) k) n:=fun k=>by
 unfold sh
 by_cases h:i <= k
 ·rw [if_pos h]
  refine sumN_congr n fun t _=>?_
  show q t * (if t <= k - i then g (k - i - t) else 0) = q t * (if i + t <= k then g (k - (i + t)) else 0)
  by_cases z:t <= k - i
  ·rw [if_pos z,if_pos (by walk_at "o"),show k - i - t = k - (i + t) by walk_at "o"]
  ·rw [if_neg z,if_neg (by walk_at "o")]
 ·rw [if_neg h]
  refine (sumN_zero n fun t _=>?_).symm
  rw [if_neg (by walk_at "o")]
  exact Int.mul_zero _
theorem sr_rep {f g q r:Nat -> Int} {a b j k:Nat} {γ β:Int} (ab:b <= a) (jb:j <= b) (e:∀ k,γ * f k = cv q g (a - b + 1) k + β * r k) :
  γ ^ (b - j) * SR f g a b j k = β ^ (b - j) * dt (a + b - j) (st (sh r) 0 (b - j) ++ (st (sh g) 0 (a - j) ++ Ej j k)):=by
 refine dt_rep (b - j) fun i hi=>⟨fun k=>sumN (fun t=>q t * sh g (i + t) k) (a - b + 1),Spn.sum (g:=fun t=>sh g (i + t)) _ fun t ht=>List.mem_append_left _ ?_,fun k=>?_⟩
 ·have:=mem_st (g:=sh g) (lo:=0) (i:=i + t) (n:=a - j) (by walk_at "o")
  rwa [Nat.zero_add] at this
 ·show γ * sh f i k = β * sh r i k + sumN (fun t=>q t * sh g (i + t) k) (a - b + 1)
  rw [<- sh_sum]
  unfold sh
  by_cases h:i <= k
  ·rw [if_pos h,if_pos h,if_pos h,e]
   walk_at "o"
  ·rw [if_neg h,if_neg h,if_neg h]
   walk_at "o"
theorem sr_step {f g q r:Nat -> Int} {a b d j k:Nat} {γ β c:Int} (ab:b <= a) (db:d < b) (jd:j <= d) (hg:g b = c) (g0:∀ k,b < k -> g k = 0) (r0:∀ k,d < k -> r k = 0) (e:∀ k,γ * f k = cv q g (a - b + 1) k + β * r k) :
  Pm (γ ^ (b - j) * SR f g a b j k) (β ^ (b - j) * (c ^ (a - d) * SR g r b d j k)):=by
 rw [sr_rep ab (by walk_at "o") e]
 refine Pm.mul ?_ _
 have p:(st (sh r) 0 (b - j) ++ (st (sh g) 0 (a - j) ++ Ej j k)).Perm (st (sh g) (d - j) (a - d) ++ (st (sh g) 0 (d - j) ++ (st (sh r) 0 (b - j) ++ Ej j k))):=by
  have s:=st_app (sh g) 0 (d - j) (a - d)
  rw [show d - j + (a - d) = a - j by walk_at "o",Nat.zero_add] at s
  rw [s,<- List.append_assoc,<- List.append_assoc,<- List.append_assoc,<- List.append_assoc]
  refine List.Perm.append_right _ ?_
  rw [List.append_assoc,List.append_assoc]
  exact (List.perm_append_comm).trans (by rw [List.append_assoc])
 refine (dt_perm p).trans ?_
 rw [show a + b - j = b + (d - j) + (a - d) by walk_at "o",dt_stair (d0:=b) (c:=c) (fun i=>by rw [sh_top]; exact hg) (fun i k h=>sh_van g0 h) ?_ (a - d)]
 ·rw [show b + (d - j) = b + d - j by walk_at "o"]
  exact Pm.rfl'
 ·intro x hx k hk
  rcases List.mem_append.mp hx with z | z
  ·obtain ⟨i,hi,rfl⟩:=st_mem z
   exact sh_van g0 (by walk_at "o")
  ·rcases List.mem_append.mp z with z | z
   ·obtain ⟨i,hi,rfl⟩:=st_mem z
    exact sh_van r0 (by walk_at "o")
   ·exact Ej_van z (by walk_at "o")
theorem ipow1 (x:Int):x ^ 1 = x:=by rw [Int.pow_succ,Int.pow_zero,Int.one_mul]
theorem sr_rest {f g q r:Nat -> Int} {a b k:Nat} {c:Int} (ab:b <= a) (hb:1 <= b) (hk:k < b) (hg:g b = c) (hc:c ≠ 0) (g0:∀ k,b < k -> g k = 0) (r0:∀ k,b <= k -> r k = 0) (e:∀ k,c ^ (a - b + 1) * f k = cv q g (a - b + 1) k + r k) :
  Pm (SR f g a b (b - 1) k) (r k):=by
 refine Pm.of_mul (a:=c ^ (a - b + 1)) ?_ (Int.pow_ne_zero hc)
 have s:=sr_rep (j:=b - 1) (k:=k) (q:=q) (g:=g) (f:=f) (γ:=c ^ (a - b + 1)) (β:=1) ab (by walk_at "o") (r:=r) (fun k=>by rw [e k]; walk_at "o")
 rw [show b - (b - 1) = 1 by walk_at "o",ipow1,ipow1,Int.one_mul] at s
 rw [s,show a + b - (b - 1) = b + 0 + (a - b + 1) by walk_at "o",show a - (b - 1) = a - b + 1 by walk_at "o"]
 have p:(st (sh r) 0 1 ++ (st (sh g) 0 (a - b + 1) ++ Ej (b - 1) k)).Perm (st (sh g) 0 (a - b + 1) ++ (sh r 0 :: Ej (b - 1) k)):=by
  show (sh r (0 + 0) :: (st (sh g) 0 (a - b + 1) ++ Ej (b - 1) k)).Perm _
  exact List.perm_middle.symm
 refine (dt_perm p).trans ?_
 rw [dt_stair (d0:=b) (c:=c) (fun i=>by rw [sh_top]; exact hg) (fun i k h=>sh_van g0 h) ?_ (a - b + 1)]
 ·refine Pm.mul ?_ _
  have d:=dt_one (j:=b - 1) (k:=k) (R:=sh r 0) (by walk_at "o")
  rw [show b - 1 + 1 = b + 0 by walk_at "o"] at d
  refine d.trans (.inl ?_)
  show sh r 0 k = r k
  unfold sh
  rw [if_pos (by walk_at "o"),Nat.sub_zero]
 ·intro x hx m hm
  rcases List.mem_cons.mp hx with rfl | z
  ·unfold sh
   rw [if_pos (by walk_at "o")]
   exact r0 _ (by walk_at "o")
  ·exact Ej_van z (by walk_at "o")
theorem sr_high {f g:Nat -> Int} {a b:Nat} {c:Int} (ab:b < a) (hg:g b = c) (g0:∀ k,b < k -> g k = 0):Pm (SR f g a b b b) (c ^ (a - b)):=by
 unfold SR
 rw [show b - b = 0 by walk_at "o"]
 show Pm (dt (a + b - b) (st (sh g) 0 (a - b) ++ Ej b b)) _
 obtain ⟨n,hn⟩ : ∃ n,a - b = n + 1:=⟨a - b - 1,by walk_at "o"⟩
 have s:=st_app (sh g) 0 1 n
 rw [show 1 + n = n + 1 by walk_at "o"] at s
 rw [hn,s,show a + b - b = b + 1 + n by walk_at "o",List.append_assoc,dt_stair (d0:=b) (lo:=1) (c:=c) (fun i=>by rw [sh_top]; exact hg) (fun i k h=>sh_van g0 h) ?_ n]
 ·rw [Int.pow_succ]
  refine Pm.mul ?_ _
  have d:=dt_one (j:=b) (k:=b) (R:=sh g 0) (by walk_at "o")
  have e:sh g 0 b = c:=by
   unfold sh
   rw [if_pos (by walk_at "o"),Nat.sub_zero,hg]
  rw [e] at d
  exact d
 ·intro x hx m hm
  rcases List.mem_append.mp hx with z | z
  ·obtain ⟨i,hi,rfl⟩:=st_mem z
   exact sh_van g0 (by walk_at "o")
  ·exact Ej_van z (by walk_at "o")
theorem dw_abs {M C:Nat} (hM:1 <= M * C):∀ {rows:List (Nat -> Int)},(∀ r ∈ rows,∀ i,(r i).natAbs <= C) -> ∀ l,(dw M rows l).natAbs <= (M * C) ^ rows.length
 | [],_,l=>by
  show (one0 l).natAbs <= 1
  unfold one0
  split <;> decide
 | r :: rs,h,l=>by
  have ih:=dw_abs hM (fun x hx=>h x (List.mem_cons_of_mem _ hx))
  have:=wg_abs (h r List.mem_cons_self) M (dw M rs) l ih
  show (wg M r (dw M rs) l).natAbs <= (M * C) ^ (rs.length + 1)
  rw [Nat.pow_succ,Nat.mul_comm _ (M * C),Nat.mul_assoc]
  exact this
theorem st_len {g:Nat -> Nat -> Int} {lo:Nat}:∀ n,(st g lo n).length = n
 | 0=>rfl
 | n + 1=>by
  show (st g lo n).length + 1 = n + 1
  rw [st_len n]
theorem Ej_len {j k:Nat} (h:k <= j):(Ej j k).length = j:=by
 have:=(Ej_perm h).length_eq
 rw [st_len] at this
 simp at this
 exact this
theorem sh_abs {f:Nat -> Int} {C:Nat} (h:∀ i,(f i).natAbs <= C) (i k:Nat):(sh f i k).natAbs <= C:=by
 unfold sh
 split
 ·exact h _
 ·exact Nat.zero_le _
end L2
namespace L2
open PySem
theorem ipa (a:Int) (m n:Nat):a ^ (m + n) = a ^ m * a ^ n:=Int.pow_add a m n
theorem imp (a b:Int) (n:Nat):(a * b) ^ n = a ^ n * b ^ n:=Int.mul_pow
theorem ipm (a:Int) (m n:Nat):(a ^ m) ^ n = a ^ (m * n):=Int.pow_mul.symm
theorem pows {h h' c:Int} {e m:Nat} (H:h' * h ^ e = c ^ (e + 1)):h ^ ((e + 1) * (m + 1)) * c ^ (e + 1 + (m + 1)) * h' ^ m = c ^ ((e + 2) * (m + 1)) * h ^ (e + 1 + m):=by
 have k:h' ^ m * h ^ (e * m) = c ^ ((e + 1) * m):=by rw [<- ipm,<- imp,H,ipm]
 have e1:(e + 1) * (m + 1) = e * m + (e + 1 + m):=by simp only [Nat.mul_add,Nat.add_mul]; walk_at "o"
 have e2:(e + 2) * (m + 1) = (e + 1) * m + (e + 1 + (m + 1)):=by simp only [Nat.mul_add,Nat.add_mul]; walk_at "o"
 rw [e1,e2,ipa h,ipa c ((e + 1) * m),<- k]
 generalize h ^ (e * m) = u
 generalize h ^ (e + 1 + m) = v
 generalize c ^ (e + 1 + (m + 1)) = w
 generalize h' ^ m = z
 grind
structure SInv (S1:Nat -> Nat -> Int) (F G:Nat -> Int) (A B:Nat) (x h:Int):Prop where
 ba:B <= A
 x0:x ≠ 0
 h0:h ≠ 0
 one:A = B -> h = 1
 main:∀ j k,j <= B -> k <= j -> Pm (SR F G A B j k) (x ^ (B - j) * (h ^ (A - j - 1) * S1 j k))
theorem SInv.first {F G:Nat -> Int} {A B:Nat} (h:B <= A):SInv (SR F G A B) F G A B 1 1:=⟨h,by decide,by decide,fun _=>rfl,fun j k _ _=>.inl (by rw [Int.one_pow,Int.one_pow,Int.one_mul,Int.one_mul])⟩
section
variable {S1:Nat -> Nat -> Int} {F G q R r:Nat -> Int} {A B d:Nat} {x h c h':Int}
theorem SInv.rest (I:SInv S1 F G A B x h) (hg:G B = c) (hc:c ≠ 0) (g0:∀ k,B < k -> G k = 0) (r0:∀ k,B <= k -> R k = 0) (e:∀ k,c ^ (A - B + 1) * F k = cv q G (A - B + 1) k + R k) (k:Nat) (hk:k < B):Pm (R k) (x * h ^ (A - B) * S1 (B - 1) k):=by
 have s:=(sr_rest I.ba (by walk_at "o") hk hg hc g0 r0 e).symm.trans (I.main (B - 1) k (by walk_at "o") (by walk_at "o"))
 rw [show B - (B - 1) = 1 by walk_at "o",ipow1,show A - (B - 1) - 1 = A - B by have:=I.ba; walk_at "o",<- Int.mul_assoc] at s
 exact s
theorem SInv.high (I:SInv S1 F G A B x h) (hg:G B = c) (g0:∀ k,B < k -> G k = 0) (ab:B < A):Pm (c ^ (A - B)) (h ^ (A - B - 1) * S1 B B):=by
 have s:=(sr_high (f:=F) ab hg g0).symm.trans (I.main B B (by walk_at "o") (by walk_at "o"))
 rw [show B - B = 0 by walk_at "o",Int.pow_zero,Int.one_mul] at s
 exact s
theorem SInv.step (I:SInv S1 F G A B x h) (hg:G B = c) (hc:c ≠ 0) (g0:∀ k,B < k -> G k = 0) (e:∀ k,c ^ (A - B + 1) * F k = cv q G (A - B + 1) k + x * h ^ (A - B) * r k) (r0:∀ k,d < k -> r k = 0) (hd:d < B) (n0:h' ≠ 0) (hh:A = B /\ h' = h \/ B < A /\ h' * h ^ (A - B - 1) = c ^ (A - B)):SInv S1 G r B d c h':=by
 refine ⟨by walk_at "o",hc,n0,fun z=>by walk_at "o",fun j k hj hk=>?_⟩
 have ab:=I.ba
 have s:=sr_step (k:=k) I.ba hd hj hg g0 r0 e
 have m:=(I.main j k (by walk_at "o") hk).mul ((c ^ (A - B + 1)) ^ (B - j))
 have p:=s.symm.trans m
 refine Pm.of_mul (a:=(x * h ^ (A - B)) ^ (B - j) * c ^ (A - d)) ?_ (Int.mul_ne_zero (Int.pow_ne_zero (Int.mul_ne_zero I.x0 (Int.pow_ne_zero I.h0))) (Int.pow_ne_zero hc))
 rw [Int.mul_assoc]
 refine p.trans (.inl ?_)
 obtain ⟨n,hn⟩ : ∃ n,B - j = n + 1:=⟨B - j - 1,by walk_at "o"⟩
 rw [show B - j - 1 = n by walk_at "o",hn,imp,ipm,ipm,show A - j - 1 = A - B + n by walk_at "o"]
 have key:h ^ ((A - B) * (n + 1)) * c ^ (A - d) * (c ^ (d - j) * h' ^ n) = c ^ ((A - B + 1) * (n + 1)) * h ^ (A - B + n):=by
  have e1:c ^ (A - d) * c ^ (d - j) = c ^ (A - B + (n + 1)):=by rw [<- ipa]; congr 1; walk_at "o"
  rw [Int.mul_assoc,<- Int.mul_assoc (c ^ (A - d)),e1,<- Int.mul_assoc]
  rcases hh with ⟨z1,z2⟩ | ⟨z1,z2⟩
  ·have h1:=I.one z1
   rw [z2,h1,Int.one_pow,Int.one_pow,Int.one_pow,show A - B = 0 by walk_at "o",Int.one_mul,Int.mul_one,Int.mul_one]
   congr 1
   walk_at "o"
  ·obtain ⟨e',he⟩ : ∃ e',A - B = e' + 1:=⟨A - B - 1,by walk_at "o"⟩
   rw [show A - B - 1 = e' by walk_at "o",he] at z2
   rw [he]
   exact pows z2
 generalize h ^ ((A - B) * (n + 1)) = u at *
 generalize h ^ (A - B + n) = v at *
 generalize c ^ ((A - B + 1) * (n + 1)) = w at *
 generalize c ^ (A - d) = y at *
 generalize c ^ (d - j) = y' at *
 generalize h' ^ n = z at *
 generalize x ^ (n + 1) = t at *
 generalize S1 j k = S at *
 have k2:t * (u * y * (y' * z)) * S = t * (w * v) * S:=by rw [key]
 grind
end
end L2
namespace L2
open PySem
theorem pr_congr {f f' g:Nat -> Rat}:∀ n,(∀ i,i < n -> f i = f' i) -> ∀ k,pr f g n k = pr f' g n k
 | 0,_,_=>rfl
 | n + 1,h,k=>by
  show pr f g n k + (if n <= k then f n * g (k - n) else 0) = pr f' g n k + (if n <= k then f' n * g (k - n) else 0)
  rw [pr_congr n (fun i hi=>h i (by walk_at "o")) k,h n (by walk_at "o")]
theorem pr_0 {f g:Nat -> Rat}:∀ n,(∀ i,i < n -> f i = 0) -> ∀ k,pr f g n k = 0
 | 0,_,_=>rfl
 | n + 1,h,k=>by
  show pr f g n k + (if n <= k then f n * g (k - n) else 0) = 0
  rw [pr_0 n (fun i hi=>h i (by walk_at "o")) k,h n (by walk_at "o")]
  split <;> grind
end L2
namespace L2
open PySem
theorem cv_pz {q g:Nat -> Int} {k:Nat}:∀ n,cv q g n k = pz q g n k
 | 0=>rfl
 | n + 1=>by
  show cv q g n k + q n * sh g n k = pz q g n k + if n <= k then q n * g (k - n) else 0
  rw [cv_pz n]
  unfold sh
  split
  ·rfl
  ·rw [Int.mul_zero]
theorem Bt.pm {n:Nat} {x y:Int} (h:Bt n x) (p:Pm y x):Bt n y:=by
 unfold Bt at *
 rcases p with e | e <;> walk_at "o"
theorem Bt.pow {b:Nat} {x:Int} (h:Bt b x):∀ n,1 <= n -> Bt (b * n) (x ^ n)
 | 0,h0=>by walk_at "o"
 | 1,_=>by rw [ipow1,Nat.mul_one]; exact h
 | n + 2,_=>by
  rw [Int.pow_succ,Nat.mul_succ]
  exact (Bt.pow h (n + 1) (by walk_at "o")).mul h
theorem Bt.pow1 {b:Nat} {x:Int} (h:Bt b x) (n:Nat):Bt (b * n + 1) (x ^ n):=by
 cases n with
 | zero=>rw [Int.pow_zero]; exact Bt.mono (m:=1) (by decide) (by walk_at "o")
 | succ n=>exact (Bt.pow h (n + 1) (by walk_at "o")).mono (by walk_at "o")
section
variable {Z:Nat} {S1:Nat -> Nat -> Int} {F G q R:Nat -> Int} {A B:Nat} {x h:Int}
end
theorem pz_rat {q g:Nat -> Int} {n k:Nat}:((pz q g n k:Int):Rat) = pr (fun i=>(q i:Rat)) (fun i=>(g i:Rat)) n k:=by
 rw [pz_cast (F:=fun i=>(q i:Rat)) (G:=fun i=>(g i:Rat)) (c:=1) (d:=1) (fun i=>by grind) (fun i=>by grind)]
 grind
end L2
namespace L2
open PySem
def nzR (ns:List Int) (k:Nat):Rat:=((nz ns k:Int):Rat)
theorem nzR_out {l:List Int} {k:Nat} (h:l.length <= k):nzR l k = 0:=by
 show ((nz l k:Int):Rat) = 0
 rw [nz_out h]
 rfl
end L2
namespace L2
open PySem
end L2
namespace L2
open PySem PySem.Spec PyProof.Rows
theorem op_fdivQ {X:Cx} {k:Nat} {env:Env} {l:List Env} (N:Seer X.prog X.base) (hr:Room k X.A) (hst:X.stack = env :: l) (hgen:env.scope.isGenerator = false) (hco:env.scope.isCoroutine = false) (hb:env.builtins = builtinsNs) (hg:env.globals = mainGlobals) :
  OpR X (binaryOp .FloorDiv) (rI CNz fun i j=>.int (i.fdiv j)):=by
 intro pins s σ H x y v u Q I rx ry h
 obtain ⟨i,j,rfl,rfl,hc,q⟩:=h
 obtain ⟨t,rfl⟩:=rx
 obtain ⟨t',rfl⟩:=ry
 refine floordiv_int hc ⟨.int (i.fdiv j),H,I.tok _,⟨_,rfl⟩,q⟩ (.inr ?_)
 refine PySem.PylongRoom.of I.nolimit ?_ (PySem.SeerAt.of (N.seer.keeps I.bk) N.tree (I.ok.frames.trans (congrArg some hst)) hgen hco hb hg)
 have:=hr.dp
 show X.A.depth + 100 < recursionLimit
 walk_at "o"
theorem SR_abs8 {f g:Nat -> Int} {a b j k B:Nat} (ha:a <= 8) (hb:b <= a) (jb:j <= b) (kj:k <= j) (hB:1 <= B) (hf:∀ i,(f i).natAbs < 2 ^ B) (hg:∀ i,(g i).natAbs < 2 ^ B):(SR f g a b j k).natAbs < 2 ^ (65 + 16 * B):=by
 by_cases h0:a + b - j = 0
 ·have:SR f g a b j k = 1:=by
   unfold SR
   rw [h0,show b - j = 0 by walk_at "o",show a - j = 0 by walk_at "o"]
   have:Ej j k = []:=List.length_eq_zero_iff.mp (by rw [Ej_len kj]; walk_at "o")
   rw [show st (sh f) 0 0 ++ (st (sh g) 0 0 ++ Ej j k) = Ej j k from rfl,this]
   rfl
  rw [this]
  exact Nat.one_lt_two_pow (by walk_at "o")
 obtain ⟨C,hC⟩ : ∃ C,C = 2 ^ B:=⟨_,rfl⟩
 have c1:1 <= C:=hC ▸ Nat.one_le_two_pow
 have r:=dw_abs (M:=a + b - j) (C:=C) (rows:=st (sh f) 0 (b - j) ++ (st (sh g) 0 (a - j) ++ Ej j k)) (Nat.mul_pos (by walk_at "o") c1) (fun r hr i=>by
  rcases List.mem_append.mp hr with z | z
  ·obtain ⟨i',_,rfl⟩:=st_mem z
   exact sh_abs (fun i=>by have:=hf i; walk_at "o") _ _
  ·rcases List.mem_append.mp z with z | z
   ·obtain ⟨i',_,rfl⟩:=st_mem z
    exact sh_abs (fun i=>by have:=hg i; walk_at "o") _ _
   ·obtain ⟨i',_,rfl⟩:=List.mem_map.mp z
    unfold dl1
    split <;> simp <;> walk_at "o") (trs (a + b - j))
 have hl:(st (sh f) 0 (b - j) ++ (st (sh g) 0 (a - j) ++ Ej j k)).length = a + b - j:=by
  rw [List.length_append,List.length_append,st_len,st_len,Ej_len kj]
  walk_at "o"
 rw [hl] at r
 have e1:((a + b - j) * C) ^ (a + b - j) <= (16 * C) ^ 16:=Nat.le_trans (Nat.pow_le_pow_left (Nat.mul_le_mul_right _ (by walk_at "o")) _) (Nat.pow_le_pow_right (by walk_at "o") (by walk_at "o"))
 have e2:(16 * C) ^ 16 < 2 ^ (65 + 16 * B):=by
  rw [Nat.mul_pow,hC,<- Nat.pow_mul,Nat.pow_add,Nat.mul_comm B 16]
  exact Nat.mul_lt_mul_of_pos_right (by decide) Nat.one_le_two_pow
 unfold SR dt
 walk_at "o"
structure Gst8 (Z:Nat) (S1:Nat -> Nat -> Int) (F G:Nat -> Int) (A B:Nat) (x h:Int):Prop where
 inv:SInv S1 F G A B x h
 a6:A <= 8
 bS:∀ j k,j <= B -> k <= j -> Bt Z (S1 j k)
 bF:∀ k,Bt Z (F k)
 bG:∀ k,Bt Z (G k)
 bx:Bt Z x
 bh:Bt Z h
 g1:G B ≠ 0
 g0:∀ k,B < k -> G k = 0
 f0:∀ k,A < k -> F k = 0
theorem Gst8.first {F G:Nat -> Int} {A B b:Nat} (h:B <= A) (ha:A <= 8) (hb:1 <= b) (bF:∀ k,Bt b (F k)) (bG:∀ k,Bt b (G k)) (g1:G B ≠ 0) (g0:∀ k,B < k -> G k = 0) (f0:∀ k,A < k -> F k = 0):Gst8 (65 + 16 * b) (SR F G A B) F G A B 1 1 :=
 ⟨.first h,ha,fun j k hj hk=>SR_abs8 ha h hj hk hb bF bG,fun k=>(bF k).mono (by walk_at "o"),fun k=>(bG k).mono (by walk_at "o"),Bt.mono (m:=1) (by decide) (by walk_at "o"),Bt.mono (m:=1) (by decide) (by walk_at "o"),g1,g0,f0⟩
section
variable {Z:Nat} {S1:Nat -> Nat -> Int} {F G q R:Nat -> Int} {A B:Nat} {x h:Int}
theorem Gst8.rest (I:Gst8 Z S1 F G A B x h) (r0:∀ k,B <= k -> R k = 0) (e:∀ k,G B ^ (A - B + 1) * F k = pz q G (A - B + 1) k + R k) :
  ∃ (r:Nat -> Int) (h':Int),(∀ k,R k = x * h ^ (A - B) * r k) /\ (∀ k,Bt Z (r k)) /\ (∀ k,B <= k -> r k = 0) /\ h' ≠ 0 /\ Bt Z h' /\ (A = B /\ h' = h \/ B < A /\ h' * h ^ (A - B - 1) = G B ^ (A - B)) /\
   ∀ d,d < B -> r d ≠ 0 -> (∀ k,d < k -> r k = 0) -> Gst8 Z S1 G r B d (G B) h':=by
 have e':∀ k,G B ^ (A - B + 1) * F k = cv q G (A - B + 1) k + R k:=fun k=>by rw [cv_pz]; exact e k
 have dv:∀ k,∃ y:Int,R k = x * h ^ (A - B) * y /\ Bt Z y /\ (B <= k -> y = 0):=fun k=>by
  by_cases hk:k < B
  ·have p:=I.inv.rest rfl I.g1 I.g0 r0 e' k hk
   have b:=I.bS (B - 1) k (by walk_at "o") (by walk_at "o")
   rcases p with z | z
   ·exact ⟨_,z,b,fun _=>by walk_at "o"⟩
   ·exact ⟨- S1 (B - 1) k,by rw [z,Int.mul_neg],b.pm (.inr rfl),fun _=>by walk_at "o"⟩
  ·exact ⟨0,by rw [r0 k (by walk_at "o"),Int.mul_zero],bt_zero,fun _=>rfl⟩
 have hi:∃ h':Int,h' ≠ 0 /\ Bt Z h' /\ (A = B /\ h' = h \/ B < A /\ h' * h ^ (A - B - 1) = G B ^ (A - B)):=by
  by_cases ab:A = B
  ·exact ⟨h,I.inv.h0,I.bh,.inl ⟨ab,rfl⟩⟩
  ·have ba:=I.inv.ba
   have p:=I.inv.high rfl I.g0 (by walk_at "o")
   have b:=I.bS B B (by walk_at "o") (by walk_at "o")
   have nz:G B ^ (A - B) ≠ 0:=Int.pow_ne_zero I.g1
   rcases p with z | z
   ·exact ⟨S1 B B,fun y=>nz (by rw [z,y,Int.mul_zero]),b,.inr ⟨by walk_at "o",by rw [z,Int.mul_comm]⟩⟩
   ·exact ⟨- S1 B B,fun y=>nz (by rw [z,show S1 B B = 0 by walk_at "o",Int.mul_zero]; rfl),b.pm (.inr rfl),.inr ⟨by walk_at "o",by rw [z,Int.neg_mul,Int.mul_comm]⟩⟩
 obtain ⟨h',n0,bh',hh⟩:=hi
 refine ⟨fun k=>(dv k).choose,h',fun k=>(dv k).choose_spec.1,fun k=>(dv k).choose_spec.2.1,fun k hk=>(dv k).choose_spec.2.2 hk,n0,bh',hh,fun d hd rd rz=>?_⟩
 refine ⟨I.inv.step (q:=q) rfl I.g1 I.g0 (fun k=>?_) rz hd n0 hh,Nat.le_trans I.inv.ba I.a6,fun j k hj hk=>I.bS j k (by walk_at "o") hk,I.bG,fun k=>(dv k).choose_spec.2.1,I.bG B,bh',rd,rz,I.g0⟩
 rw [<- (dv k).choose_spec.1]
 exact e' k
end
def IntL9 (b:Nat) (ns:List Int):Prop:=ns.length <= 9 /\ (∀ x ∈ ns,Bt b x) /\ (ns ≠ [] -> nz ns (ns.length - 1) ≠ 0)
theorem IntL9.up {b c:Nat} {l:List Int} (h:IntL9 b l) (bc:b <= c):IntL9 c l:=⟨h.1,fun x hx=>(h.2.1 x hx).mono bc,h.2.2⟩
end L2
namespace L2
open PySem PySem.Spec PyProof.Rows
theorem poly_lead {q:List (Int × Int)} (h:PolyOk q) (n:q ≠ []):cf q (q.length - 1) ≠ 0:=by
 have hl:0 < q.length:=List.length_pos_iff.mpr n
 have e:q[q.length - 1]? = some (q[q.length - 1]'(by walk_at "o")):=List.getElem?_eq_getElem (by walk_at "o")
 rw [cf_some e]
 intro z
 refine h.2 _ (by rw [List.getLast?_eq_getElem?,e]) ?_
 exact (wv_zero (h.1 _ (List.getElem_mem _)).ne).mp z
def ab (a b:Rat):List (List Int × List Int × Int × Int) -> Nat -> Rat × Rat
 | _,0=>(a,b)
 | [],_ + 1=>(a,b)
 | row :: rows,n + 1=>ab b (-(a * (row.2.2.1:Rat)) / (row.2.2.2:Rat)) rows n
end L2
namespace L2
open PySem PySem.Spec PyProof.Rows
theorem op_fdivR {X:Cx} {k:Nat} {env:Env} {l:List Env} (N:Seer X.prog X.base) (hr:Room k X.A) (hst:X.stack = env :: l) (hgen:env.scope.isGenerator = false) (hco:env.scope.isCoroutine = false) (hb:env.builtins = builtinsNs) (hg:env.globals = mainGlobals) :
  OpR X (binaryOp .FloorDiv) (rI CNz fun i j=>.int (i.fdiv j)):=by
 intro pins s σ H x y v u Q I rx ry h
 obtain ⟨i,j,rfl,rfl,hc,q⟩:=h
 obtain ⟨t,rfl⟩:=rx
 obtain ⟨t',rfl⟩:=ry
 refine floordiv_int hc ⟨.int (i.fdiv j),H,I.tok _,⟨_,rfl⟩,q⟩ (.inr ?_)
 refine PySem.PylongRoom.of I.nolimit ?_ (PySem.SeerAt.of (N.seer.keeps I.bk) N.tree (I.ok.frames.trans (congrArg some hst)) hgen hco hb hg)
 have:=hr.dp
 show X.A.depth + 100 < recursionLimit
 walk_at "o"
theorem frs_noSt:∀ fs:List (Int × Int),D.noSts (fs.map fr) = true
 | []=>by simp [D.noSts]
 | f :: fs=>by
  rw [List.map_cons]
  unfold D.noSts
  rw [fr_noSt,frs_noSt fs]
  rfl
section
variable {K:PySem.W.Frag} {σ:St} {H0:Hp} {t u:TE} {ta:TA} {b c:Bool} {m n:Nat} {fs gs:List (Int × Int)}
end
end L2
namespace L2
open PySem
section
variable {S u u' v v':Nat -> Rat} {m n:Nat}
theorem ip_le {m':Nat} (h:∀ i,m <= i -> u i = 0) (hm:m <= m'):ip S u v m' n = ip S u v m n:=by
 obtain ⟨d,rfl⟩ : ∃ d,m' = m + d:=⟨m' - m,by walk_at "o"⟩
 exact dotR_more (fun i hi=>by rw [h i hi]; grind) d
theorem ip_adL:ip S (fun i=>u i + u' i) v m n = ip S u v m n + ip S u' v m n:=dotR_adL _
theorem ip_scL {c:Rat}:ip S (fun i=>c * u i) v m n = c * ip S u v m n:=dotR_scL _
theorem ip_adR:ip S u (fun i=>v i + v' i) m n = ip S u v m n + ip S u v' m n:=by
 rw [ip_swap,ip_adL,ip_swap,ip_swap (u:=v')]
theorem ip_scR {c:Rat}:ip S u (fun i=>c * v i) m n = c * ip S u v m n:=by
 rw [ip_swap,ip_scL,ip_swap]
theorem ip_congL (h:∀ i,u i = u' i):ip S u v m n = ip S u' v m n:=by rw [show u = u' from funext h]
end
section
variable {W:Nat -> Int} {B:Int} {S:Nat -> Rat}
theorem ip_Pk {k n m:Nat} {v:Nat -> Rat} (hD:Dk W k ≠ 0) (hB:B ≠ 0) (hS:∀ i,((W i:Int):Rat) = S i * (B:Rat)) (hm:k + 1 <= m):ip S v (Pk W k) n m = dotR v (fun i=>((Lq W k i:Int):Rat) / (((Dk W k:Int):Rat) * (B:Rat))) n:=ip_lam hD hB (fun _=>rfl) hS hm n
theorem sq_nn (c:Rat):0 <= c * c:=sq_pos0 c
theorem pd (hB:0 < B) (hS:∀ i,((W i:Int):Rat) = S i * (B:Rat)):∀ m,(∀ i,i <= m -> 0 < Dk W i) -> ∀ r:Nat -> Rat,(∀ i,m <= i -> r i = 0) -> 0 <= ip S r r m m /\ (ip S r r m m = 0 -> ∀ i,r i = 0)
 | 0,_,r,hr=>⟨Rat.le_refl,fun _ i=>hr i (Nat.zero_le _)⟩
 | m + 1,hD,r,hr=>by
  have dm:=hD m (by walk_at "o")
  have dn:Dk W m ≠ 0:=by walk_at "o"
  have d1:=hD (m + 1) (Nat.le_refl _)
  have bn:B ≠ 0:=by walk_at "o"
  obtain ⟨r',hr'⟩ : ∃ r':Nat -> Rat,∀ i,r' i = r i + -(r m) * Pk W m i:=⟨_,fun _=>rfl⟩
  have z':∀ i,m <= i -> r' i = 0:=fun i hi=>by
   rw [hr']
   by_cases e:i = m
   ·rw [e,Pk_top dn]
    grind
   ·rw [Pk_out (by walk_at "o"),hr i (by walk_at "o")]
    grind
  obtain ⟨p1,p2⟩:=pd hB hS m (fun i hi=>hD i (by walk_at "o")) r' z'
  have er:∀ i,r i = r' i + r m * Pk W m i:=fun i=>by rw [hr']; grind
  obtain ⟨c,hc⟩ : ∃ c,c = r m:=⟨_,rfl⟩
  obtain ⟨h,hh⟩ : ∃ h:Rat,h = ((Dk W (m + 1):Int):Rat) / (((Dk W m:Int):Rat) * (B:Rat)):=⟨_,rfl⟩
  have h0:0 < h:=by
   rw [hh,Rat.div_def]
   refine Rat.mul_pos (by exact_mod_cast d1) (Rat.inv_pos.mpr (Rat.mul_pos (by exact_mod_cast dm) (by exact_mod_cast hB)))
  have e1:ip S r' (Pk W m) (m + 1) (m + 1) = 0:=by
   rw [ip_Pk dn bn hS (Nat.le_refl _)]
   refine dotR_zero _ fun i hi=>?_
   by_cases e:i = m
   ·rw [z' i (by walk_at "o")]
    grind
   ·rw [Lq_lt (by walk_at "o")]
    have z0:((0:Int):Rat) = 0:=rfl
    rw [z0]
    grind
  have e2:ip S r (Pk W m) (m + 1) (m + 1) = c * h:=by
   rw [ip_Pk dn bn hS (Nat.le_refl _)]
   show dotR r _ m + r m * (((Lq W m m:Int):Rat) / _) = _
   rw [dotR_zero m fun i hi=>by rw [Lq_lt hi,show ((0:Int):Rat) = 0 from rfl]; grind,Lq_top,hc,hh]
   grind
  have e3:ip S r r (m + 1) (m + 1) = ip S r' r' m m + c * c * h:=by
   have a1:ip S r r (m + 1) (m + 1) = ip S r' r (m + 1) (m + 1) + c * ip S (Pk W m) r (m + 1) (m + 1):=by
    rw [ip_congL (u':=fun i=>r' i + c * Pk W m i) fun i=>by rw [er i,hc],ip_adL,ip_scL]
   have a2:ip S r' r (m + 1) (m + 1) = ip S r' r' (m + 1) (m + 1) + c * ip S r' (Pk W m) (m + 1) (m + 1):=by
    have er':r = fun i=>r' i + c * Pk W m i:=funext fun i=>by rw [er i,hc]
    have:ip S r' r (m + 1) (m + 1) = ip S r' (fun i=>r' i + c * Pk W m i) (m + 1) (m + 1):=by rw [<- er']
    rw [this,ip_adR,ip_scR]
   rw [a1,a2,e1,ip_swap (u:=Pk W m),e2,ip_le z' (by walk_at "o"),ip_swap,ip_le z' (by walk_at "o")]
   grind
  have sq:=Rat.mul_nonneg (sq_nn c) (Rat.le_of_lt h0)
  refine ⟨by rw [e3]; grind,fun e=>?_⟩
  rw [e3] at e
  have q1:ip S r' r' m m = 0:=by grind
  have q2:c * c * h = 0:=by grind
  have c0:c = 0:=by
   have hn:h ≠ 0:=by grind
   have:c * c = 0:=by grind
   grind
  intro i
  rw [er i,p2 q1 i,<- hc,c0]
  grind
end
end L2
namespace L2
open PySem PySem.Spec PyProof.Rows
theorem ip_fdivP {X:Cx} {k:Nat} (N:Seer X.prog X.base) (hr:Room k X.A) (hst:X.stack = X.env :: X.outer) (hgen:X.env.scope.isGenerator = false) (hco:X.env.scope.isCoroutine = false) :
  PIp X .FloorDiv (fun x y H Q=>∃ i j,x = .int i /\ y = .int j /\ CNz i j /\ Q (.int (i.fdiv j)) H):=by
 intro pins s σ H x y v u Q I r1 r2 h
 obtain ⟨i,j,rfl,rfl,m,q⟩:=h
 obtain ⟨t,rfl⟩:=r1
 obtain ⟨t',rfl⟩:=r2
 refine ifloordiv_int m ⟨.int _,H,I.tok _,⟨_,rfl⟩,q⟩ (.inr ?_)
 refine PySem.PylongRoom.of I.nolimit ?_ (PySem.SeerAt.of (N.seer.keeps I.bk) N.tree (I.ok.frames.trans (congrArg some hst)) hgen hco I.ok.blt I.ok.glob)
 have:=hr.dp
 show X.A.depth + 100 < recursionLimit
 walk_at "o"
def Bd (n:Nat) (f:Nat -> Rat):Prop:=∀ i,n <= i -> f i = 0
def Tp (d:Nat) (f:Nat -> Rat):Prop:=f d ≠ 0 /\ Bd (d + 1) f
theorem Bd.mono {m n:Nat} {f:Nat -> Rat} (h:Bd m f) (l:m <= n):Bd n f:=fun i hi=>h i (by walk_at "o")
theorem Bd.add {n:Nat} {f g:Nat -> Rat} {c:Rat} (h:Bd n f) (k:Bd n g):Bd n (fun i=>f i + c * g i):=fun i hi=>by
 show f i + c * g i = 0
 rw [h i hi,k i hi]
 grind
theorem Bd.tp:∀ {n:Nat} {f:Nat -> Rat},Bd n f -> (∀ i,f i = 0) \/ ∃ d,d < n /\ Tp d f
 | 0,f,h=>.inl fun i=>h i (Nat.zero_le _)
 | n + 1,f,h=>by
  by_cases e:f n = 0
  ·rcases Bd.tp (n:=n) (f:=f) (fun i hi=>by
    by_cases z:i = n
    ·rw [z,e]
    ·exact h i (by walk_at "o")) with z | ⟨d,hd,t⟩
   ·exact .inl z
   ·exact .inr ⟨d,by walk_at "o",t⟩
  ·exact .inr ⟨n,by walk_at "o",e,h⟩
theorem EV_z {f:Nat -> Rat} (h:∀ i,f i = 0) (x:Rat):EV f x = 0:=by
 rw [EV_of (n:=0) (fun k _=>h k) (by decide)]
 rfl
theorem EV_ac {f g:Nat -> Rat} {c:Rat} (x:Rat):EV (fun i=>f i + c * g i) x = EV f x + c * EV g x:=by
 have:EV (fun i=>c * g i) x = c * EV g x:=by rw [EV_dot,EV_dot (v:=g),dotR_scL]
 rw [EV_add,this]
theorem Bd.pr {m n:Nat} {f g:Nat -> Rat} (hg:Bd n g):Bd (m + n) (fun k=>L2.pr f g m k):=fun k hk=>pr_high hg _ _ (by walk_at "o")
theorem EV_p {m n:Nat} {f g:Nat -> Rat} (hf:Bd m f) (hg:Bd n g) (h:m + n <= 20) (x:Rat):EV (fun k=>pr f g m k) x = EV f x * EV g x:=by
 rw [evN_pr hg m h,EV_of hf (by walk_at "o"),EV_of hg (by walk_at "o")]
theorem dalg {g:Nat -> Rat} {d:Nat} (hg:Tp d g):∀ (n:Nat) (f:Nat -> Rat),Bd (n + d) f -> ∃ q r:Nat -> Rat,Bd n q /\ Bd d r /\ ∀ k,f k = pr q g n k + r k
 | 0,f,h=>⟨fun _=>0,f,fun _ _=>rfl,fun i hi=>h i (by walk_at "o"),fun k=>by show f k = 0 + f k; grind⟩
 | n + 1,f,h=>by
  have g0:=hg.1
  obtain ⟨c,hc⟩ : ∃ c,c = f (n + d) / g d:=⟨_,rfl⟩
  obtain ⟨q,r,bq,br,e⟩:=dalg hg n (fun k=>f k - if n <= k then c * g (k - n) else 0) (fun i hi=>by
   show f i - (if n <= i then c * g (i - n) else 0) = 0
   rw [if_pos (by walk_at "o")]
   by_cases z:i = n + d
   ·rw [z,Nat.add_sub_cancel_left,hc]
    grind
   ·rw [h i (by walk_at "o"),hg.2 _ (by walk_at "o")]
    grind)
  refine ⟨fun i=>if i = n then c else q i,r,fun i hi=>?_,br,fun k=>?_⟩
  ·show (if i = n then c else q i) = 0
   rw [if_neg (by walk_at "o"),bq i (by walk_at "o")]
  ·show f k = pr _ g n k + (if n <= k then (if n = n then c else q n) * g (k - n) else 0) + r k
   rw [pr_congr n (f':=q) fun i hi=>if_neg (by walk_at "o"),if_pos rfl]
   have:=e k
   grind
theorem quo_bd {f q e:Nat -> Rat} {n d:Nat} (hf:Bd n f) (hn:n <= 20) (te:Tp d e) (d6:d <= 6) (bq:Bd 13 q) (h:∀ x,EV f x = EV q x * EV e x):Bd (n - d) q /\ (n <= d -> ∀ i,f i = 0):=by
 have c:∀ k,f k = pr q e 13 k:=EV_inj (hf.mono hn) ((Bd.pr te.2).mono (by walk_at "o")) fun x=>by rw [h x,EV_p bq te.2 (by walk_at "o")]
 obtain ⟨q0,r0,b0,s0,z⟩:=dalg te (n - d) f (hf.mono (by walk_at "o"))
 obtain ⟨u1,u2⟩:=div_unique (q:=q) (q':=q0) (r:=fun _=>0) (r':=r0) bq b0 (fun j hj=>te.2 j (by walk_at "o")) te.1 (fun _ _=>rfl) s0 fun k=>by rw [<- z k,c k]; grind
 have bq':Bd (n - d) q:=fun i hi=>by rw [u1 i,b0 i hi]
 refine ⟨bq',fun hd i=>?_⟩
 have q0':∀ i,q i = 0:=fun i=>bq' i (by walk_at "o")
 rw [c i,pr_0 _ fun j _=>q0' j]
def Dvs (e f:Nat -> Rat):Prop:=∃ q,Bd 13 q /\ ∀ x,EV f x = EV q x * EV e x
end L2
namespace L2
open PySem PySem.Spec PyProof.Rows
section
variable {X:Cx}
end
inductive Rsq:List Int -> List Int -> List (List Int × List Int × Int × Int) -> Prop
 | nought {F:List Int}:Rsq F [] []
 | last {F G Q:List Int} {S:Int}:G ≠ [] -> nz G (G.length - 1) ≠ 0 -> S ≠ 0 -> Q.length + G.length = F.length + 1 -> (∀ k,S * nz F k = pz (nz Q) (nz G) Q.length k) -> Rsq F G []
 | more {F G R Q:List Int} {T S:Int} {rows:List (List Int × List Int × Int × Int)}:G ≠ [] -> nz G (G.length - 1) ≠ 0 -> S ≠ 0 -> T ≠ 0 -> R ≠ [] -> nz R (R.length - 1) ≠ 0 -> R.length < G.length -> Q.length + G.length = F.length + 1 -> (∀ k,S * nz F k = pz (nz Q) (nz G) Q.length k + T * nz R k) -> Rsq G R rows -> Rsq F G ((R,Q,T,S) :: rows)
def lastR (G:List Int):List (List Int × List Int × Int × Int) -> List Int
 | []=>G
 | row :: rows=>lastR row.1 rows
theorem nzR_bd (l:List Int):Bd l.length (nzR l):=fun i hi=>nzR_out hi
theorem nzR_tp {l:List Int} (h:l ≠ []) (z:nz l (l.length - 1) ≠ 0):Tp (l.length - 1) (nzR l):=⟨cast_ne z,(nzR_bd l).mono (by have:=List.length_pos_iff.mpr h; walk_at "o")⟩
theorem EV_rsq {F G R Q:List Int} {S T:Int} (lq:Q.length + G.length <= 20) (e:∀ k,S * nz F k = pz (nz Q) (nz G) Q.length k + T * nz R k) (x:Rat):(S:Rat) * EV (nzR F) x = EV (nzR Q) x * EV (nzR G) x + (T:Rat) * EV (nzR R) x:=by
 have c:∀ k,(fun k=>0 + (S:Rat) * nzR F k) k = (fun k=>pr (nzR Q) (nzR G) Q.length k) k + (T:Rat) * nzR R k:=fun k=>by
  have:=e k
  have z:((S * nz F k:Int):Rat) = ((pz (nz Q) (nz G) Q.length k + T * nz R k:Int):Rat):=by rw [this]
  rw [Rat.intCast_mul,Rat.intCast_add,Rat.intCast_mul,pz_rat] at z
  show 0 + (S:Rat) * ((nz F k:Int):Rat) = pr (fun i=>((nz Q i:Int):Rat)) (fun i=>((nz G i:Int):Rat)) Q.length k + (T:Rat) * ((nz R k:Int):Rat)
  grind
 have h1:=EV_congr c x
 rw [EV_ac,EV_ac,EV_p (nzR_bd Q) (nzR_bd G) lq,EV_z (f:=fun _=>0) fun _=>rfl] at h1
 grind
theorem Rsq.dvs {F G:List Int} {rows:List (List Int × List Int × Int × Int)} (h:Rsq F G rows):G ≠ [] -> F.length <= 7 -> G.length <= 7 -> (lastR G rows ≠ [] /\ nz (lastR G rows) ((lastR G rows).length - 1) ≠ 0 /\ (lastR G rows).length <= 7) /\ Dvs (nzR (lastR G rows)) (nzR F) /\ Dvs (nzR (lastR G rows)) (nzR G):=by
 induction h with
 | nought=>exact fun z=>absurd rfl z
 | @last F G Q S g0 gl s0 lq e =>
  intro _ lF lG
  have ls:=cast_ne s0
  refine ⟨⟨g0,gl,lG⟩,⟨fun i=>0 + 1 / (S:Rat) * nzR Q i,Bd.add (fun _ _=>rfl) ((nzR_bd Q).mono (by walk_at "o")),fun x=>?_⟩,⟨fun i=>if i = 0 then 1 else 0,fun i hi=>if_neg (by walk_at "o"),fun x=>?_⟩⟩
  ·show EV (nzR F) x = _
   have h1:=EV_rsq (F:=F) (G:=G) (Q:=Q) (R:=[]) (S:=S) (T:=0) (by walk_at "o") (fun k=>by rw [e k]; walk_at "o") x
   rw [EV_ac,EV_z (f:=fun _=>0) fun _=>rfl]
   show EV (nzR F) x = (0 + 1 / (S:Rat) * EV (nzR Q) x) * EV (nzR G) x
   have c0:((0:Int):Rat) = 0:=rfl
   rw [c0] at h1
   grind
  ·show EV (nzR G) x = _
   rw [EV_of (f:=fun i=>if i = 0 then (1:Rat) else 0) (n:=1) (fun k hk=>if_neg (by walk_at "o")) (by decide)]
   show EV (nzR G) x = (0 + 1 * 1) * EV (nzR G) x
   grind
 | @more F G R Q T S rows g0 gl s0 t0 r0 rl lR lq e hs ih =>
  intro _ lF lG
  obtain ⟨⟨n0,nl,n7⟩,⟨a,ba,ea⟩,⟨b,bb,eb⟩⟩:=ih r0 lG (by walk_at "o")
  have tn:=nzR_tp n0 nl
  have ba':=(quo_bd (nzR_bd G) (by walk_at "o") tn (by walk_at "o") ba ea).1
  have ls:=cast_ne s0
  refine ⟨⟨n0,nl,n7⟩,⟨fun i=>(fun i=>0 + 1 / (S:Rat) * pr (nzR Q) a Q.length i) i + (T:Rat) / (S:Rat) * b i,Bd.add (Bd.add (fun _ _=>rfl) ((Bd.pr ba').mono (by walk_at "o"))) bb,fun x=>?_⟩,⟨a,ba,ea⟩⟩
  have h1:=EV_rsq (F:=F) (G:=G) (Q:=Q) (R:=R) (S:=S) (T:=T) (by walk_at "o") e x
  rw [EV_ac,EV_ac,EV_z (f:=fun _=>0) fun _=>rfl,EV_p (nzR_bd Q) ba' (by walk_at "o")]
  show EV (nzR F) x = _ * EV (nzR (lastR R rows)) x
  have h2:=ea x
  have h3:=eb x
  grind
theorem Rsq.few {F G:List Int} {rows:List (List Int × List Int × Int × Int)} (h:Rsq F G rows):rows.length <= G.length - 1:=by
 induction h with
 | nought=>exact Nat.zero_le _
 | last _ _ _ _ _=>exact Nat.zero_le _
 | @more F G R Q T S rows g0 gl s0 t0 r0 rl lR lq e hs ih =>
  have:=List.length_pos_iff.mpr r0
  simp only [List.length_cons]
  walk_at "o"
end L2
namespace L2
open PySem PySem.Spec PyProof.Rows
section
variable {X:Cx}
end
def TD (K:PySem.W.Frag) (σ:St) (H0:Hp) (t:TE) (d:D):Prop:=∀ H (Q:VK),Same (vw K H0) (vw K H) -> (∀ v H',Same (vw K H) (vw K H') -> Rep (vw K H') d v -> Q v H') -> t σ H Q
def TDs (K:PySem.W.Frag) (σ:St) (H0:Hp) (t:TA) (ds:List D):Prop:=∀ H (Q:List V -> Hp -> Prop),Same (vw K H0) (vw K H) -> (∀ vs H',Same (vw K H) (vw K H') -> Reps (vw K H') ds vs -> Q vs H') -> t σ H Q
section
variable {K:PySem.W.Frag} {σ:St} {H0:Hp} {t u:TE} {ta:TA} {d:D} {ds es:List D}
theorem td_var {i:Nat} {v:V} (hs:σ[i]? = some (some v)) (h:Rep (vw K H0) d v):TD K σ H0 (tVar i) d:=fun H Q S k=>⟨v,hs,k v H .rfl (Rep.same S _ _ h)⟩
theorem td_non:TD K σ H0 (tC .non) .non:=fun H Q S k=>k _ H .rfl (by unfold Rep; rfl)
theorem td_int {i:Int}:TD K σ H0 (tC (.int i)) (.int i):=fun H Q S k=>k _ H .rfl (by unfold Rep; rfl)
theorem td_dict:TD K σ H0 (tDctS K) .dict:=fun H Q S k=>fun p H2 hp S2 h2=>k _ H2 S2 (by unfold Rep; exact ⟨p,_,rfl,h2⟩)
theorem tds_nil:TDs K σ H0 tNil []:=fun H Q S k=>k [] H .rfl .mk_nil
theorem tds_cons (h1:TD K σ H0 t d) (h2:TDs K σ H0 ta ds):TDs K σ H0 (tCons t ta) (d :: ds):=fun H Q S k =>
 h1 H _ S fun v H1 S1 r1=>h2 H1 _ (S.trans S1) fun vs H2 S2 r2=>k (v :: vs) H2 (S1.trans S2) (.mk_cons (Rep.same S2 _ _ r1) r2)
theorem td_tup (h:TDs K σ H0 ta ds) (hl:ds.length <= 1000):TD K σ H0 (tTupS K ta) (.tup ds):=fun H Q S k =>
 h H _ S fun vs H1 S1 r1=>⟨by rw [r1.length]; exact Nat.le_trans hl (by decide),fun p H2 hp S2 h2=>k _ H2 (S1.trans S2) (.mk_tup h2 (r1.same S2))⟩
theorem td_lst (h:TDs K σ H0 ta ds) (hl:ds.length <= 1000):TD K σ H0 (tLstS K ta) (.lst ds):=fun H Q S k =>
 h H _ S fun vs H1 S1 r1=>⟨by rw [r1.length]; exact Nat.le_trans hl (by decide),fun p H2 hp S2 h2=>k _ H2 (S1.trans S2) (.mk_lst h2 (r1.same S2))⟩
theorem td_catL (h1:TD K σ H0 t (.lst ds)) (h2:TD K σ H0 u (.lst es)) (hl:ds.length + es.length <= 1000):TD K σ H0 (tOp (rPlus K) t u) (.lst (ds ++ es)):=fun H Q S k =>
 h1 H _ S fun v H1 S1 r1=>h2 H1 _ (S.trans S1) fun w H2 S2 r2=>by
  obtain ⟨a,xs,rfl,ha,ra⟩:=(Rep.same S2 _ _ r1).lst_at
  obtain ⟨b,ys,rfl,hb,rb⟩:=r2.lst_at
  rw [rPlus_cat]
  refine ⟨xs,ha,ys,hb,?_,fun p H3 hp S3 h3=>k _ H3 (S1.trans (S2.trans S3)) (.mk_lst h3 ((ra.same S3).app (rb.same S3)))⟩
  rw [ra.length,rb.length]
  exact Nat.le_trans hl (by decide)
theorem asg_td {g:TG} {D:Ends} (h1:TD K σ H0 t d) (h:∀ v H',Same (vw K H0) (vw K H') -> Rep (vw K H') d v -> g v σ H' D.nx):tAsg t g D σ H0:=h1 H0 _ .rfl h
end
end L2
namespace L2
open PySem PySem.Spec PyProof.Rows
def sg (x:Rat):Int:=if 0 < x then 1 else if x < 0 then -1 else 0
theorem sg_pos {x:Rat} (h:0 < x):sg x = 1:=if_pos h
theorem sg_neg {x:Rat} (h:x < 0):sg x = -1:=by
 unfold sg
 rw [if_neg (by grind),if_pos h]
theorem sg_zero:sg 0 = 0:=by decide +kernel
theorem sg_cases (x:Rat):(0 < x /\ sg x = 1) \/ (x < 0 /\ sg x = -1) \/ (x = 0 /\ sg x = 0):=by
 by_cases h:0 < x
 ·exact .inl ⟨h,sg_pos h⟩
 ·by_cases h2:x < 0
  ·exact .inr (.inl ⟨h2,sg_neg h2⟩)
  ·obtain rfl:x = 0:=by grind
   exact .inr (.inr ⟨rfl,sg_zero⟩)
theorem sg_eq1 {x:Rat}:sg x = 1 ↔ 0 < x:=by
 refine ⟨fun h=>?_,sg_pos⟩
 rcases sg_cases x with ⟨a,_⟩ | ⟨_,b⟩ | ⟨_,b⟩
 ·exact a
 ·walk_at "o"
 ·walk_at "o"
theorem sg_eqm {x:Rat}:sg x = -1 ↔ x < 0:=by
 refine ⟨fun h=>?_,sg_neg⟩
 rcases sg_cases x with ⟨_,b⟩ | ⟨a,_⟩ | ⟨_,b⟩
 ·walk_at "o"
 ·exact a
 ·walk_at "o"
theorem sg_eq0 {x:Rat}:sg x = 0 ↔ x = 0:=by
 refine ⟨fun h=>?_,fun h=>by rw [h]; exact sg_zero⟩
 rcases sg_cases x with ⟨_,b⟩ | ⟨_,b⟩ | ⟨a,_⟩
 ·walk_at "o"
 ·walk_at "o"
 ·exact a
theorem sg_mul {x y:Rat}:sg (x * y) = sg x * sg y:=by
 rcases sg_cases x with ⟨a,e⟩ | ⟨a,e⟩ | ⟨a,e⟩ <;> rcases sg_cases y with ⟨b,f⟩ | ⟨b,f⟩ | ⟨b,f⟩ <;> rw [e,f]
 ·exact sg_pos (Rat.mul_pos a b)
 ·exact sg_neg (by have:=Rat.mul_pos a (show 0 < -y by grind); grind)
 ·rw [b]; exact sg_eq0.mpr (by grind)
 ·exact sg_neg (by have:=Rat.mul_pos (show 0 < -x by grind) b; grind)
 ·exact sg_pos (by have:=Rat.mul_pos (show 0 < -x by grind) (show 0 < -y by grind); grind)
 ·rw [b]; exact sg_eq0.mpr (by grind)
 ·rw [a]; exact sg_eq0.mpr (by grind)
 ·rw [a]; exact sg_eq0.mpr (by grind)
 ·rw [a]; exact sg_eq0.mpr (by grind)
def Sm (e x:Rat):Prop:=-e <= x /\ x <= e
theorem Sm.mono {a b x:Rat} (h:Sm a x) (l:a <= b):Sm b x:=by
 unfold Sm at h ⊢
 grind
theorem Sm.mul {B e q g:Rat} (h:Sm B q) (h2:Sm e g):Sm (B * e) (q * g):=by
 obtain ⟨a1,a2⟩:=h
 obtain ⟨b1,b2⟩:=h2
 have p1:=Rat.mul_nonneg (show 0 <= B - q by grind) (show 0 <= e + g by grind)
 have p2:=Rat.mul_nonneg (show 0 <= B + q by grind) (show 0 <= e - g by grind)
 have p3:=Rat.mul_nonneg (show 0 <= B - q by grind) (show 0 <= e - g by grind)
 have p4:=Rat.mul_nonneg (show 0 <= B + q by grind) (show 0 <= e + g by grind)
 constructor
 ·grind
 ·grind
theorem Sm.add {a b x y:Rat} (h:Sm a x) (h2:Sm b y):Sm (a + b) (x + y):=by
 unfold Sm at *
 grind
theorem Sm.neg {a x:Rat} (h:Sm a x):Sm a (-x):=by
 unfold Sm at *
 grind
theorem Sm.sub {a b x y:Rat} (h:Sm a x) (h2:Sm b y):Sm (a + b) (x - y):=by
 unfold Sm at *
 grind
def Wi (R x:Rat):Prop:=-R <= x /\ x <= R
def Bdd (R:Rat) (f:Rat -> Rat):Prop:=∃ B:Rat,0 < B /\ ∀ x,Wi R x -> Sm B (f x)
def Lip (R:Rat) (f:Rat -> Rat):Prop:=∃ L:Rat,0 < L /\ ∀ x y,Wi R x -> Wi R y -> x <= y -> Sm (L * (y - x)) (f y - f x)
theorem small_both {u v e:Rat} (h:Sm e (v - u)) (n:¬ (sg u = sg v /\ sg u ≠ 0)):Sm e u /\ Sm e v:=by
 unfold Sm at *
 rcases sg_cases u with ⟨a,e1⟩ | ⟨a,e1⟩ | ⟨a,e1⟩ <;> rcases sg_cases v with ⟨b,e2⟩ | ⟨b,e2⟩ | ⟨b,e2⟩ <;> first | (exfalso; exact n ⟨e1.trans e2.symm,fun z=>absurd (e1.symm.trans z) (by decide)⟩) | grind
def chg:Int -> List Int -> Nat
 | _,[]=>0
 | l,s :: r=>if s = 0 then chg l r else (if s = -l then 1 else 0) + chg s r
theorem chg_z {l:Int} {r:List Int}:chg l (0 :: r) = chg l r:=if_pos rfl
theorem chg_n {l s:Int} {r:List Int} (h:s ≠ 0):chg l (s :: r) = (if s = -l then 1 else 0) + chg s r:=if_neg h
theorem chg_0 {s:Int} {r:List Int} (h:s ≠ 0):chg 0 (s :: r) = chg s r:=by
 rw [chg_n h,if_neg (by walk_at "o"),Nat.zero_add]
def sgs (x:Rat) (l:List (Rat -> Rat)):List Int:=l.map fun f=>sg (f x)
inductive Ch (R:Rat):(Rat -> Rat) -> List (Rat -> Rat) -> Prop
 | one {f:Rat -> Rat} {c:Rat}:c ≠ 0 -> (∀ x,f x = c) -> Ch R f []
 | two {f g:Rat -> Rat}:Lip R f -> Ch R g [] -> Ch R f [g]
 | more {f g h q:Rat -> Rat} {a b:Rat} {l:List (Rat -> Rat)}:Lip R f -> Bdd R q -> 0 < a -> 0 < b -> (∀ x,a * f x = q x * g x - b * h x) -> Ch R g (h :: l) -> Ch R f (g :: h :: l)
theorem Ch.lip {R:Rat} {f:Rat -> Rat} {l:List (Rat -> Rat)} (h:Ch R f l):Lip R f:=by
 cases h with
 | one _ e=>exact ⟨1,by decide,fun x y _ _ l=>by rw [e,e]; unfold Sm; grind⟩
 | two h _=>exact h
 | more h _ _ _ _ _=>exact h
def NotBoth (R:Rat) (f g:Rat -> Rat):Prop:=∃ e:Rat,0 < e /\ ∀ x,Wi R x -> Sm e (f x) -> Sm e (g x) -> False
theorem Ch.notBoth {R:Rat} {f:Rat -> Rat} {l:List (Rat -> Rat)} (h:Ch R f l):∀ g r,l = g :: r -> NotBoth R f g:=by
 induction h with
 | one _ _=>intro g r e; cases e
 | @two f g _ hg =>
  intro g' r e
  cases e
  cases hg with
  | @one _ c c0 ec =>
   rcases sg_cases c with ⟨a,_⟩ | ⟨a,_⟩ | ⟨a,_⟩
   ·exact ⟨c / 2,by grind,fun x _ _ s=>by rw [ec] at s; unfold Sm at s; grind⟩
   ·exact ⟨-c / 2,by grind,fun x _ _ s=>by rw [ec] at s; unfold Sm at s; grind⟩
   ·exact absurd a c0
 | @more f g h q a b l _ hq a0 b0 e _ ih =>
  intro g' r e'
  cases e'
  obtain ⟨B,B0,hB⟩:=hq
  obtain ⟨ε,ε0,hε⟩:=ih h l rfl
  have s0:0 < B + a + b:=by grind
  have t0:0 < b / (B + a + b):=by rw [Rat.lt_div_iff s0]; grind
  refine ⟨ε * (b / (B + a + b)),Rat.mul_pos ε0 t0,fun x wx sf sg'=>hε x wx ?_ ?_⟩
  ·refine sg'.mono ?_
   have t1:b / (B + a + b) <= 1:=Rat.not_lt.mp fun z=>by rw [Rat.lt_div_iff s0] at z; grind
   have:=Rat.mul_nonneg (Rat.le_of_lt ε0) (show 0 <= 1 - b / (B + a + b) by grind)
   grind
  ·obtain ⟨t,ht⟩ : ∃ t,t = ε * (b / (B + a + b)):=⟨_,rfl⟩
   rw [<- ht] at sf sg'
   have tt:t * (B + a + b) = ε * b:=by rw [ht]; grind
   have s1:=((hB x wx).mul sg').sub (Sm.mul (B:=a) (q:=a) ⟨by grind,by grind⟩ sf)
   have e1:q x * g x - a * f x = b * h x:=by have:=e x; grind
   rw [e1] at s1
   obtain ⟨u1,u2⟩:=s1
   have tp:0 < t:=by rw [ht]; exact Rat.mul_pos ε0 t0
   have tb:=Rat.mul_pos tp b0
   have k:B * t + a * t <= b * ε:=by grind
   constructor
   ·refine Rat.not_lt.mp fun z=>?_
    have:=Rat.mul_pos b0 (show 0 < -ε - h x by grind)
    grind
   ·refine Rat.not_lt.mp fun z=>?_
    have:=Rat.mul_pos b0 (show 0 < h x - ε by grind)
    grind
theorem opposite {R a b:Rat} {f g h q:Rat -> Rat} (hq:Bdd R q) (a0:0 < a) (b0:0 < b) (e:∀ x,a * f x = q x * g x - b * h x) (nb:NotBoth R g h):∃ η:Rat,0 < η /\ ∀ x,Wi R x -> Sm η (g x) -> sg (f x) = -sg (h x) /\ sg (h x) ≠ 0:=by
 obtain ⟨B,B0,hB⟩:=hq
 obtain ⟨ε,ε0,hε⟩:=nb
 have s0:0 < B + b:=by grind
 have t0:0 < b / (B + b):=by rw [Rat.lt_div_iff s0]; grind
 refine ⟨ε * (b / (B + b)),Rat.mul_pos ε0 t0,fun x wx s=>?_⟩
 have t1:b / (B + b) <= 1:=Rat.not_lt.mp fun z=>by rw [Rat.lt_div_iff s0] at z; grind
 have s2:Sm ε (g x):=s.mono (by
  have:=Rat.mul_nonneg (Rat.le_of_lt ε0) (show 0 <= 1 - b / (B + b) by grind)
  grind)
 have nh:¬ Sm ε (h x):=fun z=>hε x wx s2 z
 obtain ⟨t,ht⟩ : ∃ t,t = ε * (b / (B + b)):=⟨_,rfl⟩
 rw [<- ht] at s
 have tt:t * (B + b) = ε * b:=by rw [ht]; grind
 have tp:0 < t:=by rw [ht]; exact Rat.mul_pos ε0 t0
 have s1:=(hB x wx).mul s
 have e1:=e x
 have tb:=Rat.mul_pos tp b0
 obtain ⟨u1,u2⟩:=s1
 by_cases hp:ε < h x
 ·have p1:=Rat.mul_pos b0 (show 0 < h x - ε by grind)
  have fn:f x < 0:=Rat.not_le.mp fun z=>by
   have:=Rat.mul_nonneg (Rat.le_of_lt a0) z
   grind
  exact ⟨by rw [sg_neg fn,sg_pos (by grind)],by rw [sg_pos (by grind)]; decide⟩
 ·have hn:h x < -ε:=by
   unfold Sm at nh
   grind
  have p1:=Rat.mul_pos b0 (show 0 < -ε - h x by grind)
  have fp:0 < f x:=Rat.not_le.mp fun z=>by
   have:=Rat.mul_nonneg (Rat.le_of_lt a0) (show 0 <= -f x by grind)
   grind
  exact ⟨by rw [sg_pos fp,sg_neg (by grind)]; decide,by rw [sg_neg (by grind)]; decide⟩
def Keeps (R:Rat) (f:Rat -> Rat) (l:List (Rat -> Rat)):Prop:=∃ δ:Rat,0 < δ /\ ∀ c d,Wi R c -> Wi R d -> c <= d -> d - c <= δ -> sg (f c) = sg (f d) -> sg (f c) ≠ 0 -> chg (sg (f c)) (sgs c l) = chg (sg (f d)) (sgs d l)
theorem min3 {a b c:Rat} (h1:0 < a) (h2:0 < b) (h3:0 < c):∃ m:Rat,0 < m /\ m <= a /\ m <= b /\ m <= c:=by
 by_cases x:a <= b
 ·by_cases y:a <= c
  ·exact ⟨a,h1,by grind,x,y⟩
  ·exact ⟨c,h3,by grind,by grind,by grind⟩
 ·by_cases y:b <= c
  ·exact ⟨b,h2,by grind,by grind,y⟩
  ·exact ⟨c,h3,by grind,by grind,by grind⟩
theorem Lip.near {R:Rat} {f:Rat -> Rat} (h:Lip R f) {e:Rat} (e0:0 < e):∃ δ:Rat,0 < δ /\ ∀ c d,Wi R c -> Wi R d -> c <= d -> d - c <= δ -> Sm e (f d - f c):=by
 obtain ⟨L,L0,hL⟩:=h
 have p:0 < e / L:=by rw [Rat.lt_div_iff L0]; grind
 refine ⟨e / L,p,fun c d wc wd l n=>(hL c d wc wd l).mono ?_⟩
 have:=Rat.mul_nonneg (Rat.le_of_lt L0) (show 0 <= e / L - (d - c) by grind)
 have z:L * (e / L) = e:=by grind
 grind
theorem chg_mid {s t:Int} {r:List Int} (hs:s = 1 \/ s = -1) (ht:t = 0 \/ t = 1 \/ t = -1):chg s (t :: (-s) :: r) = 1 + chg (-s) r:=by
 rcases hs with rfl | rfl <;> rcases ht with rfl | rfl | rfl <;> simp [chg]
theorem sg_range (x:Rat):sg x = 0 \/ sg x = 1 \/ sg x = -1:=by
 rcases sg_cases x with ⟨_,e⟩ | ⟨_,e⟩ | ⟨_,e⟩
 ·exact .inr (.inl e)
 ·exact .inr (.inr e)
 ·exact .inl e
theorem Ch.keeps {R:Rat} {f:Rat -> Rat} {l:List (Rat -> Rat)} (h:Ch R f l):Keeps R f l /\ ∀ g r,l = g :: r -> Keeps R g r:=by
 induction h with
 | one _ _=>exact ⟨⟨1,by decide,fun _ _ _ _ _ _ _ _=>rfl⟩,fun g r e=>by cases e⟩
 | @two f g lf hg ih =>
  refine ⟨?_,fun g' r e=>by cases e; exact ih.1⟩
  cases hg with
  | @one _ c c0 ec =>
   refine ⟨1,by decide,fun c' d' _ _ _ _ e _=>?_⟩
   show chg _ [sg (g c')] = chg _ [sg (g d')]
   rw [ec,ec,e]
 | @more f g h q a b l lf hq a0 b0 e hg ih =>
  refine ⟨?_,fun g' r e=>by cases e; exact ih.1⟩
  obtain ⟨η,η0,op⟩:=opposite hq a0 b0 e (hg.notBoth h l rfl)
  obtain ⟨δ1,d1,k1⟩:=ih.1
  obtain ⟨δ2,d2,k2⟩:=ih.2 h l rfl
  obtain ⟨δ3,d3,k3⟩:=hg.lip.near η0
  obtain ⟨δ,d0,m1,m2,m3⟩:=min3 d1 d2 d3
  refine ⟨δ,d0,fun c d wc wd cd n ef nf=>?_⟩
  show chg _ (sg (g c) :: sgs c (h :: l)) = chg _ (sg (g d) :: sgs d (h :: l))
  by_cases same:sg (g c) = sg (g d) /\ sg (g c) ≠ 0
  ·rw [chg_n same.2,chg_n (by rw [<- same.1]; exact same.2),k1 c d wc wd cd (by grind) same.1 same.2,same.1,ef]
  ·obtain ⟨sc,sd⟩:=small_both (k3 c d wc wd cd (by grind)) same
   obtain ⟨oc,nc⟩:=op c wc sc
   obtain ⟨od,nd⟩:=op d wd sd
   have hh:sg (h c) = sg (h d):=by walk_at "o"
   have sf:sg (f d) = 1 \/ sg (f d) = -1:=by
    have:=sg_range (f d)
    walk_at "o"
   show chg _ (sg (g c) :: sg (h c) :: sgs c l) = chg _ (sg (g d) :: sg (h d) :: sgs d l)
   have e1:sg (h c) = -sg (f d):=by walk_at "o"
   have e2:sg (h d) = -sg (f d):=by walk_at "o"
   have k:=k2 c d wc wd cd (by grind) hh nc
   rw [e1,e2] at k
   rw [ef,e1,e2,chg_mid sf (sg_range _),chg_mid sf (sg_range _),k]
def Vr (x:Rat) (l:List (Rat -> Rat)):Nat:=chg 0 (sgs x l)
def v1 (f g:Rat -> Rat) (x:Rat):Nat:=if sg (f x) * sg (g x) = -1 then 1 else 0
theorem Vr_two {f g:Rat -> Rat} {l:List (Rat -> Rat)} {x:Rat} (h:sg (g x) ≠ 0):Vr x (f :: g :: l) = v1 f g x + chg (sg (g x)) (sgs x l):=by
 show chg 0 (sg (f x) :: sg (g x) :: sgs x l) = _
 unfold v1
 rcases sg_range (f x) with e | e | e
 ·rw [e,chg_z,chg_0 h,Int.zero_mul,if_neg (by decide),Nat.zero_add]
 ·rw [e,chg_0 (by decide),chg_n h,Int.one_mul]
 ·rw [e,chg_0 (by decide),chg_n h]
  have:=sg_range (g x)
  rcases this with z | z | z <;> rw [z] <;> rfl
theorem Vr_one {f:Rat -> Rat} {l:List (Rat -> Rat)} {x:Rat} (h:sg (f x) ≠ 0):Vr x (f :: l) = chg (sg (f x)) (sgs x l):=chg_0 h
end L2
namespace L2
open PySem PySem.Spec PyProof.Rows
inductive Fac where
 | line (r:Rat)
 | root (n:Rat)
 | none (n:Rat)
theorem Bdd.const {R:Rat} (c:Rat):Bdd R fun _=>c:=by
 rcases sg_cases c with ⟨a,_⟩ | ⟨a,_⟩ | ⟨a,_⟩
 ·exact ⟨c,a,fun x _=>by unfold Sm; grind⟩
 ·exact ⟨-c,by grind,fun x _=>by unfold Sm; grind⟩
 ·exact ⟨1,by decide,fun x _=>by unfold Sm; grind⟩
theorem Bdd.id {R:Rat} (h:0 <= R):Bdd R fun x=>x:=⟨R + 1,by grind,fun x w=>by unfold Sm; unfold Wi at w; grind⟩
theorem Bdd.mul {R:Rat} {f g:Rat -> Rat} (h:Bdd R f) (h2:Bdd R g):Bdd R fun x=>f x * g x:=by
 obtain ⟨a,a0,ha⟩:=h
 obtain ⟨b,b0,hb⟩:=h2
 exact ⟨a * b,Rat.mul_pos a0 b0,fun x w=>(ha x w).mul (hb x w)⟩
theorem Bdd.add {R:Rat} {f g:Rat -> Rat} (h:Bdd R f) (h2:Bdd R g):Bdd R fun x=>f x + g x:=by
 obtain ⟨a,a0,ha⟩:=h
 obtain ⟨b,b0,hb⟩:=h2
 exact ⟨a + b,by grind,fun x w=>(ha x w).add (hb x w)⟩
theorem Bdd.congr {R:Rat} {f g:Rat -> Rat} (h:Bdd R f) (e:∀ x,g x = f x):Bdd R g:=by
 obtain ⟨a,a0,ha⟩:=h
 exact ⟨a,a0,fun x w=>by rw [e]; exact ha x w⟩
theorem Lip.bdd {R:Rat} (h:0 <= R) {f:Rat -> Rat} (lf:Lip R f):Bdd R f:=by
 obtain ⟨L,L0,hL⟩:=lf
 obtain ⟨a,a0,ha⟩:=Bdd.const (R:=R) (f 0)
 have w0:Wi R 0:=by unfold Wi; grind
 have lr:=Rat.mul_nonneg (Rat.le_of_lt L0) h
 refine ⟨a + L * R,by grind,fun x wx=>?_⟩
 have h0:=ha x wx
 by_cases y:0 <= x
 ·have:=hL 0 x w0 wx y
  have m:=Rat.mul_nonneg (Rat.le_of_lt L0) (show 0 <= R - x by unfold Wi at wx; grind)
  unfold Sm at *
  grind
 ·have:=hL x 0 wx w0 (by grind)
  have m:=Rat.mul_nonneg (Rat.le_of_lt L0) (show 0 <= R + x by unfold Wi at wx; grind)
  unfold Sm at *
  grind
def Bg (e x:Rat):Prop:=e <= x \/ x <= -e
theorem Bg.of {e x:Rat} (h:¬ Sm e x):Bg e x:=by
 unfold Sm at h
 unfold Bg
 grind
theorem Bg.no {a b x:Rat} (h:Bg a x) (l:b < a):¬ Sm b x:=by
 unfold Bg at h
 unfold Sm
 grind
theorem Bg.mul {a b x y:Rat} (h:Bg a x) (h2:Bg b y) (a0:0 <= a) (b0:0 <= b):Bg (a * b) (x * y):=by
 rcases h with h | h <;> rcases h2 with k | k
 ·left
  have:=Rat.mul_nonneg (show 0 <= x - a by grind) (show 0 <= y by grind)
  have:=Rat.mul_nonneg a0 (show 0 <= y - b by grind)
  grind
 ·right
  have:=Rat.mul_nonneg (show 0 <= x - a by grind) (show 0 <= -y by grind)
  have:=Rat.mul_nonneg a0 (show 0 <= -y - b by grind)
  grind
 ·right
  have:=Rat.mul_nonneg (show 0 <= -x - a by grind) (show 0 <= y by grind)
  have:=Rat.mul_nonneg a0 (show 0 <= y - b by grind)
  grind
 ·left
  have:=Rat.mul_nonneg (show 0 <= -x - a by grind) (show 0 <= -y by grind)
  have:=Rat.mul_nonneg a0 (show 0 <= -y - b by grind)
  grind
theorem Bg.ne {e x:Rat} (h:Bg e x) (e0:0 < e):sg x ≠ 0:=fun z=>by
 have:=sg_eq0.mp z
 unfold Bg at h
 grind
def pwq (e:Rat):Nat -> Rat
 | 0=>1
 | k + 1=>e * pwq e k
theorem pwq_pos {e:Rat} (h:0 < e):∀ k,0 < pwq e k
 | 0=>by show (0:Rat) < 1; decide
 | k + 1=>Rat.mul_pos h (pwq_pos h k)
theorem minL {α:Type} {P:α -> Rat -> Prop} (mono:∀ a e e',P a e -> 0 < e' -> e' <= e -> P a e'):∀ l:List α,(∀ a ∈ l,∃ e:Rat,0 < e /\ P a e) -> ∃ e:Rat,0 < e /\ ∀ a ∈ l,P a e
 | [],_=>⟨1,by decide,fun _ h=>by cases h⟩
 | a :: l,h=>by
  obtain ⟨e,e0,he⟩:=h a List.mem_cons_self
  obtain ⟨f,f0,hf⟩:=minL mono l fun b hb=>h b (List.mem_cons_of_mem _ hb)
  obtain ⟨m,m0,m1,m2,_⟩:=min3 e0 f0 f0
  refine ⟨m,m0,fun b hb=>?_⟩
  rcases List.mem_cons.mp hb with rfl | hb
  ·exact mono _ _ _ he m0 m1
  ·exact mono _ _ _ (hf b hb) m0 m2
theorem apart {R:Rat} (R0:0 <= R) {f g a b:Rat -> Rat} {c:Rat} (ha:Bdd R a) (hb:Bdd R b) (c0:c ≠ 0) (e:∀ x,a x * f x + b x * g x = c):NotBoth R f g:=by
 obtain ⟨A,A0,hA⟩:=ha
 obtain ⟨B,B0,hB⟩:=hb
 obtain ⟨k,k0,hk⟩ : ∃ k:Rat,0 < k /\ (k <= c \/ k <= -c):=by
  rcases sg_cases c with ⟨z,_⟩ | ⟨z,_⟩ | ⟨z,_⟩
  ·exact ⟨c,z,.inl (by grind)⟩
  ·exact ⟨-c,by grind,.inr (by grind)⟩
  ·exact absurd z c0
 have s0:0 < A + B:=by grind
 have t0:0 < k / 2 / (A + B):=by rw [Rat.lt_div_iff s0]; grind
 refine ⟨k / 2 / (A + B),t0,fun x wx sf sg'=>?_⟩
 have s1:=((hA x wx).mul sf).add ((hB x wx).mul sg')
 rw [e] at s1
 have:A * (k / 2 / (A + B)) + B * (k / 2 / (A + B)) = k / 2:=by grind
 rw [this] at s1
 unfold Sm at s1
 grind
theorem NotBoth.symm {R:Rat} {f g:Rat -> Rat} (h:NotBoth R f g):NotBoth R g f:=by
 obtain ⟨e,e0,h⟩:=h
 exact ⟨e,e0,fun x w a b=>h x w b a⟩
end L2
namespace L2
open PySem PySem.Spec PyProof.Rows
theorem near_sg {a b e:Rat} (h:Bg (2 * e) a) (k:Sm e b) (e0:0 < e):sg (a + b) = sg a /\ Bg e (a + b):=by
 unfold Sm at k
 rcases h with h | h
 ·exact ⟨by rw [sg_pos (by grind),sg_pos (by grind)],.inl (by grind)⟩
 ·exact ⟨by rw [sg_neg (by grind),sg_neg (by grind)],.inr (by grind)⟩
theorem Bg.mono {a b x:Rat} (h:Bg a x) (l:b <= a):Bg b x:=by
 unfold Bg at *
 grind
theorem keep_sg {u v e:Rat} (h:Sm e (v - u)) (n:¬ Sm e u):sg u = sg v /\ sg u ≠ 0:=Classical.byContradiction fun z=>n (small_both h z).1
end L2
namespace L2
open PySem PySem.Spec PyProof.Rows
def Py (f:Rat -> Rat):Prop:=∃ l:List Rat,∀ x,f x = evL l x
theorem Py.congr {f g:Rat -> Rat} (h:Py f) (e:∀ x,g x = f x):Py g:=by
 obtain ⟨l,h⟩:=h
 exact ⟨l,fun x=>(e x).trans (h x)⟩
theorem Py.isP {f:Rat -> Rat} (h:Py f):∃ n,IsP n f:=by
 obtain ⟨l,h⟩:=h
 exact ⟨l.length,l,Nat.le_refl _,h⟩
theorem IsP.py {n:Nat} {f:Rat -> Rat} (h:IsP n f):Py f:=by
 obtain ⟨l,_,h⟩:=h
 exact ⟨l,h⟩
theorem Py.const (c:Rat):Py fun _=>c:=⟨[c],fun x=>by show c = c + x * 0; grind⟩
theorem Py.id:Py fun x=>x:=⟨[0,1],fun x=>by show x = 0 + x * (1 + x * 0); grind⟩
theorem Py.add {f g:Rat -> Rat} (h:Py f) (k:Py g):Py fun x=>f x + g x:=by
 obtain ⟨m,hm⟩:=h.isP
 obtain ⟨n,hn⟩:=k.isP
 exact ((hm.mono (Nat.le_max_left m n)).add (hn.mono (Nat.le_max_right m n))).py
theorem Py.shift {f:Rat -> Rat} (h:Py f):Py fun x=>x * f x:=by
 obtain ⟨l,h⟩:=h
 exact ⟨0 :: l,fun x=>by show x * f x = 0 + x * evL l x; rw [h]; grind⟩
theorem Py.sc {f:Rat -> Rat} (h:Py f) (c:Rat):Py fun x=>c * f x:=by
 obtain ⟨n,hn⟩:=h.isP
 exact (hn.sc c).py.congr fun x=>by grind
theorem Py.mul {f g:Rat -> Rat} (h:Py f) (k:Py g):Py fun x=>f x * g x:=by
 obtain ⟨l,h⟩:=h
 have:∀ l:List Rat,Py fun x=>evL l x * g x:=by
  intro l
  induction l with
  | nil=>exact (Py.const 0).congr fun x=>by show 0 * g x = 0; grind
  | cons a l ih=>exact ((k.sc a).add ih.shift).congr fun x=>by show (a + x * evL l x) * g x = a * g x + x * (evL l x * g x); grind
 exact (this l).congr fun x=>by rw [h]
theorem Py.sub {f g:Rat -> Rat} (h:Py f) (k:Py g):Py fun x=>f x - g x:=(h.add (k.sc (-1))).congr fun x=>by grind
theorem EV_py {n:Nat} {u:Nat -> Rat} (h:Bd n u) (l:n <= 20):Py (EV u):=(IsP.of h l).py
theorem evL_bdd {R:Rat} (R0:0 <= R):∀ l:List Rat,Bdd R (evL l)
 | []=>.const 0
 | a :: l=>(Bdd.const a).add ((Bdd.id R0).mul (evL_bdd R0 l))
theorem evL_lip {R:Rat} (R0:0 <= R):∀ l:List Rat,Lip R (evL l)
 | []=>⟨1,by decide,fun x y _ _ h=>by show Sm _ (0 - 0); unfold Sm; grind⟩
 | a :: l=>by
  obtain ⟨L,L0,hL⟩:=evL_lip R0 l
  obtain ⟨B,B0,hB⟩:=evL_bdd R0 l
  have rl:=Rat.mul_nonneg R0 (Rat.le_of_lt L0)
  refine ⟨R * L + B,by grind,fun x y wx wy h=>?_⟩
  show Sm _ (a + y * evL l y - (a + x * evL l x))
  have s1:=(show Sm R y from wy).mul (hL x y wx wy h)
  have s2:=(show Sm (y - x) (y - x) by unfold Sm; grind).mul (hB x wx)
  have:=s1.add s2
  rw [show a + y * evL l y - (a + x * evL l x) = y * (evL l y - evL l x) + (y - x) * evL l x by grind]
  exact this.mono (by grind)
theorem Py.bdd {R:Rat} (R0:0 <= R) {f:Rat -> Rat} (h:Py f):Bdd R f:=by
 obtain ⟨l,h⟩:=h
 exact (evL_bdd R0 l).congr h
theorem Py.lip {R:Rat} (R0:0 <= R) {f:Rat -> Rat} (h:Py f):Lip R f:=by
 obtain ⟨l,h⟩:=h
 obtain ⟨L,L0,hL⟩:=evL_lip R0 l
 exact ⟨L,L0,fun x y wx wy k=>by rw [h,h]; exact hL x y wx wy k⟩
theorem Py.zero {f g:Rat -> Rat} (hf:Py f) (hg:Py g) (e:∀ x,f x * g x = 0) (n:∃ x,g x ≠ 0):∀ x,f x = 0:=by
 obtain ⟨m,pm⟩:=hf.isP
 obtain ⟨k,pk⟩:=hg.isP
 obtain ⟨S,hS⟩ : ∃ S,S = upTo (m + k):=⟨_,rfl⟩
 have nd:S.Nodup:=hS ▸ upTo_nd _
 have ln:S.length = m + k:=hS ▸ upTo_len _
 have sp:(S.filter fun x=>decide (f x = 0)).length + (S.filter fun x=>!decide (f x = 0)).length = S.length:=by
  clear nd ln hS
  induction S with
  | nil=>rfl
  | cons a S ih =>
   by_cases z:f a = 0
   ·rw [List.filter_cons_of_pos (by simpa using z),List.filter_cons_of_neg (by simpa using z),List.length_cons,List.length_cons]
    walk_at "o"
   ·rw [List.filter_cons_of_neg (by simpa using z),List.filter_cons_of_pos (by simpa using z),List.length_cons,List.length_cons]
    walk_at "o"
 by_cases a:m <= (S.filter fun x=>decide (f x = 0)).length
 ·exact pm.zero (nd.sublist List.filter_sublist) a fun s hs=>of_decide_eq_true (List.mem_filter.mp hs).2
 ·obtain ⟨x0,hx0⟩:=n
  refine absurd (pk.zero (nd.sublist (List.filter_sublist (p:=fun x=>!decide (f x = 0)))) (by walk_at "o") (fun s hs=>?_) x0) hx0
  have z:=(List.mem_filter.mp hs).2
  rcases Rat.mul_eq_zero.mp (e s) with y | y
  ·rw [y] at z
   simp at z
  ·exact y
def Prim (p:Nat -> Int):Prop:=∀ q:Int,(∀ k,q ∣ p k) -> q.natAbs = 1
end L2
namespace L2
open PySem PySem.Spec PyProof.Rows
def wf1 (F:List Int) (x:Rat):Rat:=EV (nzR F) x
theorem wf1_py {F:List Int} (h:F.length <= 20):Py (wf1 F):=EV_py (nzR_bd F) h
def HsOk (l:Rat -> Rat) (a b:Int):List (List Int × List Int × Int × Int) -> List (List Int) -> Prop
 | [],hs=>hs = []
 | row :: rows,[]=>False
 | row :: rows,h :: hs=>h.length <= 9 /\ (∀ x,((-a * row.2.2.1.sign * row.2.2.2.sign:Int):Rat) * wf1 row.1 x = wf1 h x * l x) /\ HsOk l b (-a * row.2.2.1.sign * row.2.2.2.sign) rows hs
theorem sign_pm {n:Int} (h:n ≠ 0):n.sign = 1 /\ 0 < n \/ n.sign = -1 /\ n < 0:=by
 rcases Int.lt_trichotomy n 0 with z | z | z
 ·exact .inr ⟨Int.sign_eq_neg_one_of_neg z,z⟩
 ·exact absurd z h
 ·exact .inl ⟨Int.sign_eq_one_of_pos z,z⟩
theorem Rsq.ch {R:Rat} (R0:0 <= R) {l:Rat -> Rat} (pl:Py l) (l0:∃ x,l x ≠ 0) {F G:List Int} {rows:List (List Int × List Int × Int × Int)} (h:Rsq F G rows):∀ {a b g:Int} {hF hG:List Int} {hs:List (List Int)},(a = 1 \/ a = -1) -> (b = 1 \/ b = -1) -> g ≠ 0 -> G ≠ [] -> F.length <= 9 -> G.length <= F.length -> hF.length <= 9 -> hG.length <= 9 -> (∀ x,(a:Rat) * wf1 F x = wf1 hF x * l x) -> (∀ x,(b:Rat) * wf1 G x = wf1 hG x * l x) -> HsOk l a b rows hs -> (∀ x,wf1 (lastR G rows) x = (g:Rat) * l x) -> Ch R (wf1 hF) (wf1 hG :: hs.map wf1):=by
 have can:∀ {f:Rat -> Rat},Py f -> (∀ x,f x * l x = 0) -> ∀ x,f x = 0:=fun hf e=>Py.zero hf pl e l0
 induction h with
 | nought=>intro a b g hF hG hs _ _ _ z; exact absurd rfl z
 | @last F G Q S g0 gl s0 lq e =>
  intro a b g hF hG hs ha hb hg _ lF lG l1 l2 eF eG hh hl
  have hh:hs = []:=hh
  subst hh
  have hl:∀ x,wf1 G x = (g:Rat) * l x:=hl
  have c:∀ x,wf1 hG x = ((b * g:Int):Rat):=fun x=>by
   have:=can (f:=fun x=>wf1 hG x - ((b * g:Int):Rat)) ((wf1_py (by walk_at "o")).sub (.const _)) (fun x=>by
    have:=eG x
    rw [hl x] at this
    rw [Rat.intCast_mul]
    grind) x
   grind
  refine .two ((wf1_py (by walk_at "o")).lip R0) (.one (c:=((b * g:Int):Rat)) (cast_ne (Int.mul_ne_zero (by walk_at "o") hg)) c)
 | @more F G R' Q T S rows g0 gl s0 t0 r0 rl lr lq e hr ih =>
  intro a b g hF hG hs ha hb hg _ lF lG l1 l2 eF eG hh hl
  cases hs with
  | nil=>exact absurd hh (by simp [HsOk])
  | cons hR hs =>
   obtain ⟨l3,eR,hh⟩:=hh
   obtain ⟨m,hm⟩ : ∃ m,m = -a * T.sign * S.sign:=⟨_,rfl⟩
   have hm':m = 1 \/ m = -1:=by
    rw [hm]
    rcases sign_pm t0 with ⟨z,_⟩ | ⟨z,_⟩ <;> rcases sign_pm s0 with ⟨y,_⟩ | ⟨y,_⟩ <;> rcases ha with x | x <;> rw [x,y,z] <;> decide
   have eR:∀ x,(m:Rat) * wf1 R' x = wf1 hR x * l x:=by rw [hm]; exact eR
   have hh:HsOk l b m rows hs:=by rw [hm]; exact hh
   have tail:=ih hb hm' hg r0 (by walk_at "o") (by walk_at "o") l2 l3 eG eR hh hl
   show Ch R (wf1 hF) (wf1 hG :: wf1 hR :: hs.map wf1)
   have rs:=EV_rsq (show Q.length + G.length <= 20 by walk_at "o") e
   have s1:(S:Rat) * ((S.sign:Int):Rat) = ((S.natAbs:Int):Rat):=by
    rw [<- Rat.intCast_mul]
    rcases sign_pm s0 with ⟨z,y⟩ | ⟨z,y⟩ <;> rw [z] <;> congr 1 <;> walk_at "o"
   have t1:(T:Rat) * ((S.sign:Int):Rat) * (a:Rat) = -(((T.natAbs:Int):Rat) * (m:Rat)):=by
    rw [<- Rat.intCast_mul,<- Rat.intCast_mul,<- Rat.intCast_mul,<- Rat.intCast_neg]
    congr 1
    rw [hm]
    rcases sign_pm s0 with ⟨z,y⟩ | ⟨z,y⟩ <;> rcases sign_pm t0 with ⟨z2,y2⟩ | ⟨z2,y2⟩ <;> rcases ha with x | x <;> rw [x,z,z2] <;> walk_at "o"
   have b1:(b:Rat) * (b:Rat) = 1:=by rcases hb with x | x <;> rw [x] <;> decide +kernel
   refine .more (q:=fun x=>((S.sign * a * b:Int):Rat) * wf1 Q x) (a:=((S.natAbs:Int):Rat)) (b:=((T.natAbs:Int):Rat)) ((wf1_py (by walk_at "o")).lip R0) (((wf1_py (by walk_at "o")).sc _).bdd R0) (Rat.intCast_pos.mpr (by walk_at "o")) (Rat.intCast_pos.mpr (by walk_at "o")) (fun x=>?_) tail
   have:=can (f:=fun x=>((S.natAbs:Int):Rat) * wf1 hF x - ((S.sign * a * b:Int):Rat) * wf1 Q x * wf1 hG x + ((T.natAbs:Int):Rat) * wf1 hR x) ((((wf1_py (by walk_at "o")).sc _).sub (((wf1_py (by walk_at "o")).sc _).mul (wf1_py (by walk_at "o")))).add ((wf1_py (by walk_at "o")).sc _)) (fun x=>?_) x
   ·grind
   have z1:=eF x
   have z2:=eG x
   have z3:=eR x
   have z4:(S:Rat) * wf1 F x = wf1 Q x * wf1 G x + (T:Rat) * wf1 R' x:=rs x
   rw [Rat.intCast_mul,Rat.intCast_mul]
   obtain ⟨A,hA⟩ : ∃ A:Rat,A = (a:Rat):=⟨_,rfl⟩
   obtain ⟨B,hB⟩ : ∃ B:Rat,B = (b:Rat):=⟨_,rfl⟩
   rw [<- hA] at z1 t1 ⊢
   rw [<- hB] at z2 b1 ⊢
   generalize ((S.natAbs:Int):Rat) = sa at s1 ⊢
   generalize ((T.natAbs:Int):Rat) = ta at t1 ⊢
   generalize ((S.sign:Int):Rat) = ss at s1 t1 ⊢
   have e1:sa * wf1 hF x * l x = (S:Rat) * ss * A * wf1 F x:=by rw [s1]; grind
   have e2:ss * A * B * wf1 Q x * wf1 hG x * l x = ss * A * wf1 Q x * wf1 G x:=by
    have:wf1 hG x * l x = B * wf1 G x:=z2.symm
    grind
   have e3:ta * wf1 hR x * l x = -((T:Rat) * ss * A) * wf1 R' x:=by rw [t1]; grind
   grind
end L2
namespace L2
open PySem PySem.Spec PyProof.Rows
theorem evL_map (x:Rat):∀ F:List Int,evL (F.map fun n:Int=>(n:Rat)) x = evR F x
 | []=>rfl
 | a :: F=>by show (a:Rat) + x * _ = (a:Rat) + x * _; rw [evL_map x F]
theorem wf1_ev {F:List Int} (h:F.length <= 20) (x:Rat):wf1 F x = evR F x:=by
 unfold wf1
 rw [EV_of (nzR_bd F) h,evN_L,<- evL_map]
 congr 1
 refine List.ext_getElem (by simp) fun i h1 h2=>?_
 rw [List.getElem_map,List.getElem_map,List.getElem_range]
 show ((nz F i:Int):Rat) = _
 rw [nz_get (List.getElem?_eq_getElem (by simpa using h1))]
def farS (side:Int) (F:List Int):Int:=if F.length % 2 = 1 then (nz F (F.length - 1)).sign else side * (nz F (F.length - 1)).sign
theorem far_ex:∀ F:List Int,F ≠ [] -> nz F (F.length - 1) ≠ 0 -> ∃ R c:Rat,0 < R /\ 0 < c /\ (∀ x,R <= x -> c <= ((farS 1 F:Int):Rat) * evR F x) /\ ∀ x,x <= -R -> c <= ((farS (-1) F:Int):Rat) * evR F x
 | [],h,_=>absurd rfl h
 | [a],_,h=>by
  have h:a ≠ 0:=h
  have e:∀ s,farS s [a] = a.sign:=fun s=>rfl
  have k:∀ x,(1:Rat) <= ((a.sign:Int):Rat) * evR [a] x:=fun x=>by
   show (1:Rat) <= ((a.sign:Int):Rat) * ((a:Rat) + x * 0)
   have z:((a.sign:Int):Rat) * (a:Rat) = ((a.sign * a:Int):Rat):=by rw [Rat.intCast_mul]
   have y:(1:Int) <= a.sign * a:=by rcases sign_pm h with ⟨q,r⟩ | ⟨q,r⟩ <;> rw [q] <;> walk_at "o"
   have:((1:Int):Rat) <= ((a.sign * a:Int):Rat):=Rat.intCast_le_intCast.mpr y
   have c1:((1:Int):Rat) = 1:=rfl
   grind
  exact ⟨1,1,by decide,by decide,fun x _=>by rw [e]; exact k x,fun x _=>by rw [e]; exact k x⟩
 | a :: b :: F,_,h=>by
  have ld:nz (a :: b :: F) ((a :: b :: F).length - 1) = nz (b :: F) ((b :: F).length - 1):=by
   simp only [List.length_cons,Nat.add_sub_cancel]
   rfl
  rw [ld] at h
  obtain ⟨R,c,R0,c0,h1,h2⟩:=far_ex (b :: F) (by simp) h
  obtain ⟨t,t0,ht⟩:=Bdd.const (R:=0) (a:Rat)
  have ht:=ht 0 (by unfold Wi; grind)
  have tc:0 < t / c:=by rw [Rat.lt_div_iff c0]; grind
  have tcc:t / c * c = t:=by grind
  have s1:farS 1 (a :: b :: F) = farS 1 (b :: F):=by
   unfold farS
   rw [ld,Int.one_mul]
   split <;> split <;> rfl
  have s2:farS (-1) (a :: b :: F) = -farS (-1) (b :: F):=by
   unfold farS
   rw [ld]
   simp only [List.length_cons]
   by_cases z:(F.length + 1) % 2 = 1
   ·rw [if_pos z,if_neg (by walk_at "o")]; walk_at "o"
   ·rw [if_neg z,if_pos (by walk_at "o")]; walk_at "o"
  have sm:∀ s:Int,(s = 1 \/ s = -1) -> Sm t ((s:Rat) * (a:Rat)):=fun s hs=>by
   have c1:((1:Int):Rat) = 1:=rfl
   have c2:((-1:Int):Rat) = -1:=rfl
   unfold Sm at *
   rcases hs with z | z
   ·rw [z,c1]; grind
   ·rw [z,c2]; grind
  have pm:∀ s:Int,(s = 1 \/ s = -1) -> farS s (b :: F) = 1 \/ farS s (b :: F) = -1:=fun s hs=>by
   unfold farS
   rcases sign_pm h with ⟨z,_⟩ | ⟨z,_⟩ <;> rw [z] <;> rcases hs with y | y <;> rw [y] <;> split <;> walk_at "o"
  refine ⟨R + 1 + t / c,c,by grind,c0,fun x hx=>?_,fun x hx=>?_⟩
  ·rw [s1]
   show c <= _ * ((a:Rat) + x * evR (b :: F) x)
   have k:=h1 x (by grind)
   have m:=Rat.mul_nonneg (show 0 <= x by grind) (show 0 <= ((farS 1 (b :: F):Int):Rat) * evR (b :: F) x - c by grind)
   have m2:=Rat.mul_nonneg (Rat.le_of_lt c0) (show 0 <= x - (1 + t / c) by grind)
   have s:=sm _ (pm 1 (.inl rfl))
   unfold Sm at s
   grind
  ·rw [s2,Rat.intCast_neg]
   show c <= _ * ((a:Rat) + x * evR (b :: F) x)
   have k:=h2 x (by grind)
   have m:=Rat.mul_nonneg (show 0 <= -x by grind) (show 0 <= ((farS (-1) (b :: F):Int):Rat) * evR (b :: F) x - c by grind)
   have m2:=Rat.mul_nonneg (Rat.le_of_lt c0) (show 0 <= -x - (1 + t / c) by grind)
   have s:=sm _ (pm (-1) (.inr rfl))
   unfold Sm at s
   grind
theorem far_pm {F:List Int} {s:Int} (h:nz F (F.length - 1) ≠ 0) (hs:s = 1 \/ s = -1):farS s F = 1 \/ farS s F = -1:=by
 unfold farS
 rcases sign_pm h with ⟨z,_⟩ | ⟨z,_⟩ <;> rw [z] <;> rcases hs with y | y <;> rw [y] <;> split <;> walk_at "o"
theorem sg_far {s:Int} {y c:Rat} (hs:s = 1 \/ s = -1) (c0:0 < c) (h:c <= (s:Rat) * y):sg y = s:=by
 have c1:((1:Int):Rat) = 1:=rfl
 have c2:((-1:Int):Rat) = -1:=rfl
 rcases hs with z | z
 ·rw [z,c1] at h
  rw [z,sg_pos (by grind)]
 ·rw [z,c2] at h
  rw [z,sg_neg (by grind)]
theorem far_all:∀ hs:List (List Int),(∀ F ∈ hs,F ≠ [] /\ F.length <= 20 /\ nz F (F.length - 1) ≠ 0) -> ∃ R:Rat,0 < R /\ ∀ x,R <= x -> hs.map (farS 1) = sgs x (hs.map wf1) /\ hs.map (farS (-1)) = sgs (-x) (hs.map wf1)
 | [],_=>⟨1,by decide,fun _ _=>⟨rfl,rfl⟩⟩
 | F :: hs,h=>by
  obtain ⟨R,R0,k⟩:=far_all hs fun G hG=>h G (List.mem_cons_of_mem _ hG)
  obtain ⟨f0,fl,fz⟩:=h F List.mem_cons_self
  obtain ⟨R',c,R1,c0,h1,h2⟩:=far_ex F f0 fz
  refine ⟨R + R',by grind,fun x hx=>?_⟩
  obtain ⟨k1,k2⟩:=k x (by grind)
  have e1:=sg_far (far_pm fz (.inl rfl)) c0 (h1 x (by grind))
  have e2:=sg_far (far_pm fz (.inr rfl)) c0 (h2 (-x) (by grind))
  rw [<- wf1_ev fl] at e1 e2
  exact ⟨by show farS 1 F :: _ = sg (wf1 F x) :: _; rw [k1,e1]; rfl,by show farS (-1) F :: _ = sg (wf1 F (-x)) :: _; rw [k2,e2]; rfl⟩
end L2
namespace L2
open PySem PySem.Spec PyProof.Rows
def Exq (ms ns:List Int):Prop:=∃ Q:List Int,∀ k,nz ms k = pz (nz Q) (nz ns) Q.length k
theorem exact_dvd {ms qs rs ns:List Int} {n p:Nat} (ln:0 < ns.length) (lr:rs.length = p + ns.length) (lq:qs.length = n) (e:∀ k,nz ms k = pz (nz qs) (nz ns) n k + nz rs k) (h0:nz ns (ns.length - 1) ≠ 0) (ex:Exq ms ns):nz ns (ns.length - 1) ∣ nz rs (p + (ns.length - 1)):=by
 obtain ⟨Q,eQ⟩:=ex
 have key:∀ k,pr (fun i=>nzR Q i - nzR qs i) (nzR ns) (Q.length + n) k = nzR rs k:=fun k=>by
  rw [pr_sub,pr_more (nzR_bd Q),Nat.add_comm,pr_more (fun i hi=>nzR_bd qs i (by walk_at "o"))]
  have e1:((nz ms k:Int):Rat) = ((pz (nz Q) (nz ns) Q.length k:Int):Rat):=by rw [eQ k]
  have e2:((nz ms k:Int):Rat) = ((pz (nz qs) (nz ns) n k + nz rs k:Int):Rat):=by rw [e k]
  rw [Rat.intCast_add,pz_rat] at e2
  rw [pz_rat] at e1
  show pr (fun i=>((nz Q i:Int):Rat)) (fun i=>((nz ns i:Int):Rat)) Q.length k - pr (fun i=>((nz qs i:Int):Rat)) (fun i=>((nz ns i:Int):Rat)) n k = ((nz rs k:Int):Rat)
  grind
 have bd:Bd (Q.length + n) (fun i=>nzR Q i - nzR qs i):=fun i hi=>by
  show nzR Q i - nzR qs i = 0
  rw [nzR_bd Q i (by walk_at "o"),nzR_bd qs i (by walk_at "o")]
  grind
 have hg:∀ j,ns.length - 1 < j -> nzR ns j = 0:=fun j hj=>nzR_bd ns j (by walk_at "o")
 have l0:nzR ns (ns.length - 1) ≠ 0:=cast_ne h0
 have fin:(∀ j,p < j -> nzR Q j - nzR qs j = 0) -> nz ns (ns.length - 1) ∣ nz rs (p + (ns.length - 1)):=fun hp=>by
  have a:=pr_at hg hp (Q.length + n)
  rw [key] at a
  by_cases z:p < Q.length + n
  ·rw [if_pos z] at a
   refine ⟨nz Q p - nz qs p,Rat.intCast_inj.mp ?_⟩
   rw [Rat.intCast_mul,Rat.intCast_sub]
   show nzR rs (p + (ns.length - 1)) = nzR ns (ns.length - 1) * (nzR Q p - nzR qs p)
   rw [a]
   grind
  ·rw [if_neg z] at a
   refine ⟨0,Rat.intCast_inj.mp ?_⟩
   rw [Int.mul_zero]
   exact a
 rcases Bd.tp bd with z | ⟨t,ht,tz,tb⟩
 ·exact fin fun j _=>z j
 ·have tb:∀ j,t < j -> nzR Q j - nzR qs j = 0:=fun j hj=>tb j (by walk_at "o")
  have a:=pr_at hg tb (Q.length + n)
  rw [key,if_pos ht] at a
  have tp:t <= p:=Nat.le_of_not_lt fun y=>by
   rw [nzR_bd rs _ (by walk_at "o")] at a
   rcases Rat.mul_eq_zero.mp a.symm with w | w
   ·exact tz w
   ·exact l0 w
  exact fin fun j hj=>tb j (by walk_at "o")
end L2
namespace L2
open PySem PySem.Spec PyProof.Rows
def scs (a b:Int):List (List Int × List Int × Int × Int) -> List (List Int)
 | []=>[]
 | row :: rows=>(row.1.map fun y=>(-a * row.2.2.1.sign * row.2.2.2.sign) * y) :: scs b (-a * row.2.2.1.sign * row.2.2.2.sign) rows
def Pm1 (a:Int):Prop:=a = 1 \/ a = -1
theorem Pm1.next {a S T:Int} (h:Pm1 a) (s0:S ≠ 0) (t0:T ≠ 0):Pm1 (-a * T.sign * S.sign):=by
 unfold Pm1 at *
 rcases sign_pm t0 with ⟨z,_⟩ | ⟨z,_⟩ <;> rcases sign_pm s0 with ⟨y,_⟩ | ⟨y,_⟩ <;> rcases h with x | x <;> rw [x,y,z] <;> decide
theorem Rsq.ne {F G:List Int} {rows:List (List Int × List Int × Int × Int)} (h:Rsq F G rows):∀ row ∈ rows,row.2.2.1 ≠ 0 /\ row.2.2.2 ≠ 0 /\ row.1 ≠ [] /\ nz row.1 (row.1.length - 1) ≠ 0:=by
 induction h with
 | nought=>simp
 | last=>simp
 | more g0 gl s0 t0 r0 rl lr lq e hr ih =>
  intro row hrow
  rcases List.mem_cons.mp hrow with rfl | z
  ·exact ⟨t0,s0,r0,rl⟩
  ·exact ih row z
theorem scs_mem:∀ (rows:List (List Int × List Int × Int × Int)) (a b:Int),(∀ row ∈ rows,row.2.2.1 ≠ 0 /\ row.2.2.2 ≠ 0) -> Pm1 a -> Pm1 b -> ∀ F ∈ scs a b rows,∃ row ∈ rows,∃ s,Pm1 s /\ F = row.1.map fun y=>s * y
 | [],_,_,_,_,_,_,h=>by cases h
 | row :: rows,a,b,hn,ha,hb,F,h=>by
  have hm:=ha.next (hn row List.mem_cons_self).2 (hn row List.mem_cons_self).1
  rcases List.mem_cons.mp h with z | z
  ·exact ⟨row,List.mem_cons_self,_,hm,z⟩
  ·obtain ⟨r,hr,s,hs,e⟩:=scs_mem rows b _ (fun r hr=>hn r (List.mem_cons_of_mem _ hr)) hb hm F z
   exact ⟨r,List.mem_cons_of_mem _ hr,s,hs,e⟩
end L2
namespace L2
open PySem PySem.Spec PyProof.Rows
structure GF where
 p:Rat -> Rat
 d:Rat -> Rat
 A:Rat -> Int
def PHg:List GF -> Rat -> Rat
 | [],_=>1
 | q :: l,x=>q.p x * PHg l x
def PSg:List GF -> Rat -> Rat
 | [],_=>0
 | q :: l,x=>q.d x * PHg l x + q.p x * PSg l x
def PAg:List GF -> Rat -> Int
 | [],_=>0
 | q :: l,x=>q.A x + PAg l x
theorem PHg_perm {l l':List GF} (h:l.Perm l') (x:Rat):PHg l x = PHg l' x:=by
 induction h with
 | nil=>rfl
 | cons q _ ih=>show q.p x * _ = q.p x * _; rw [ih]
 | swap a b l=>show b.p x * (a.p x * PHg l x) = a.p x * (b.p x * PHg l x); grind
 | trans _ _ h1 h2=>rw [h1,h2]
theorem PSg_perm {l l':List GF} (h:l.Perm l') (x:Rat):PSg l x = PSg l' x:=by
 induction h with
 | nil=>rfl
 | cons q h ih=>show _ * PHg _ x + q.p x * PSg _ x = _ * PHg _ x + q.p x * PSg _ x; rw [ih,PHg_perm h]
 | swap a b l =>
  show b.d x * (a.p x * PHg l x) + b.p x * (a.d x * PHg l x + a.p x * PSg l x) = a.d x * (b.p x * PHg l x) + a.p x * (b.d x * PHg l x + b.p x * PSg l x)
  grind
 | trans _ _ h1 h2=>rw [h1,h2]
theorem PAg_perm {l l':List GF} (h:l.Perm l') (x:Rat):PAg l x = PAg l' x:=by
 induction h with
 | nil=>rfl
 | cons q _ ih=>show q.A x + _ = q.A x + _; rw [ih]
 | swap a b l=>show b.A x + (a.A x + PAg l x) = a.A x + (b.A x + PAg l x); walk_at "o"
 | trans _ _ h1 h2=>rw [h1,h2]
def vI (u v:Rat):Int:=if sg u * sg v = -1 then 1 else 0
def GE (R:Rat) (q:GF) (e:Rat):Prop:=(∀ x,Wi R x -> Sm e (q.p x) -> Bg e (q.d x)) /\ (∀ c d,Wi R c -> Wi R d -> c <= d -> d - c <= e -> Sm e (q.p c) -> Sm e (q.p d) -> vI (q.p c) (q.d c) + q.A c = vI (q.p d) (q.d d) + q.A d) /\ ∀ c d,Wi R c -> Wi R d -> c <= d -> d - c <= e -> sg (q.p c) = sg (q.p d) -> sg (q.p c) ≠ 0 -> q.A c = q.A d
theorem GE.mono {R:Rat} {q:GF} {e e':Rat} (h:GE R q e) (le:e' <= e):GE R q e' :=
 ⟨fun x w s=>(h.1 x w (s.mono le)).mono le,fun c d wc wd cd n sc sd=>h.2.1 c d wc wd cd (by grind) (sc.mono le) (sd.mono le),fun c d wc wd cd n s s0=>h.2.2 c d wc wd cd (by grind) s s0⟩
structure GOk (R:Rat) (q:GF):Prop where
 pp:Py q.p
 pd:Py q.d
 ex:∃ e:Rat,0 < e /\ GE R q e
theorem PHg_py {R:Rat}:∀ {l:List GF},(∀ q ∈ l,GOk R q) -> Py (PHg l)
 | [],_=>(Py.const 1).congr fun _=>rfl
 | q :: l,h=>((h q List.mem_cons_self).pp.mul (PHg_py fun p hp=>h p (List.mem_cons_of_mem _ hp))).congr fun _=>rfl
theorem PSg_py {R:Rat}:∀ {l:List GF},(∀ q ∈ l,GOk R q) -> Py (PSg l)
 | [],_=>(Py.const 0).congr fun _=>rfl
 | q :: l,h=>(((h q List.mem_cons_self).pd.mul (PHg_py fun p hp=>h p (List.mem_cons_of_mem _ hp))).add ((h q List.mem_cons_self).pp.mul (PSg_py fun p hp=>h p (List.mem_cons_of_mem _ hp)))).congr fun _=>rfl
theorem PHg_big {e x:Rat} (e0:0 < e):∀ {l:List GF},(∀ q ∈ l,¬ Sm e (q.p x)) -> Bg (pwq e l.length) (PHg l x)
 | [],_=>.inl (by show (1:Rat) <= 1; grind)
 | q :: l,h=>(Bg.of (h q List.mem_cons_self)).mul (PHg_big e0 fun q' hq=>h q' (List.mem_cons_of_mem _ hq)) (Rat.le_of_lt e0) (Rat.le_of_lt (pwq_pos e0 _))
def AtG (R:Rat) (l:List GF) (q:GF) (e:Rat):Prop:=GE R q e /\ ∃ l',l.Perm (q :: l') /\ ∀ x,Wi R x -> Sm e (q.p x) -> Bg e (PSg l x) /\ Bg e (PHg l' x) /\ sg (PSg l x) = sg (q.d x) * sg (PHg l' x) /\ sg (q.d x) ≠ 0 /\ ∀ q' ∈ l',¬ Sm e (q'.p x)
theorem AtG.mono {R:Rat} {l:List GF} {q:GF} {e e':Rat} (h:AtG R l q e) (le:e' <= e):AtG R l q e':=by
 obtain ⟨hw,l',p,h⟩:=h
 refine ⟨hw.mono le,l',p,fun x wx s=>?_⟩
 obtain ⟨a,b,c,d,f⟩:=h x wx (s.mono le)
 exact ⟨a.mono le,b.mono le,c,d,fun q' hq z=>f q' hq (z.mono le)⟩
theorem at_rootG {R:Rat} (R0:0 <= R) {l:List GF} (ok:∀ q ∈ l,GOk R q) (un:l.Pairwise fun a b=>NotBoth R a.p b.p) {q:GF} (hq:q ∈ l):∃ e:Rat,0 < e /\ AtG R l q e:=by
 obtain ⟨l',p⟩ : ∃ l',l.Perm (q :: l'):=by
  obtain ⟨s,t,rfl⟩:=List.append_of_mem hq
  exact ⟨s ++ t,List.perm_middle⟩
 have un':=(p.pairwise_iff (fun h=>NotBoth.symm h)).mp un
 obtain ⟨uq,_⟩:=List.pairwise_cons.mp un'
 have ok':∀ q' ∈ l',GOk R q':=fun q' h=>ok q' (p.mem_iff.mpr (List.mem_cons_of_mem _ h))
 obtain ⟨η,η0,hη⟩:=minL (P:=fun (q':GF) e=>∀ x,Wi R x -> Sm e (q.p x) -> Sm e (q'.p x) -> False) (fun a e e' h _ le x w s1 s2=>h x w (s1.mono le) (s2.mono le)) l' fun q' h=>by
  obtain ⟨e,e0,he⟩:=uq q' h
  exact ⟨e,e0,he⟩
 obtain ⟨σ,σ0,ge⟩:=(ok q hq).ex
 obtain ⟨M,M0,hM⟩:=(PSg_py ok').bdd R0
 have π0:=pwq_pos η0 l'.length
 obtain ⟨π,hπ⟩ : ∃ π,π = pwq η l'.length:=⟨_,rfl⟩
 rw [<- hπ] at π0
 have sp:=Rat.mul_pos σ0 π0
 have sp2:0 < σ * π / 2 / M:=by rw [Rat.lt_div_iff M0]; grind
 obtain ⟨t1,t10,t11,t12,t13⟩:=min3 η0 σ0 sp2
 obtain ⟨e,e0,e1,e2,e3⟩:=min3 t10 (show 0 < σ * π / 2 by grind) π0
 refine ⟨e,e0,ge.mono (by grind),l',p,fun x wx s=>?_⟩
 have b1:Bg σ (q.d x):=ge.1 x wx (s.mono (by grind))
 have b2:Bg π (PHg l' x):=by
  rw [hπ]
  exact PHg_big η0 fun q' h z=>hη q' h x wx (s.mono (by grind)) z
 have b4:=b1.mul b2 (Rat.le_of_lt σ0) (Rat.le_of_lt π0)
 have s2:=s.mul (hM x wx)
 have le:e * M <= σ * π / 2:=by
  have k:e <= σ * π / 2 / M:=by grind
  have:=Rat.mul_nonneg (Rat.le_of_lt M0) (show 0 <= σ * π / 2 / M - e by grind)
  have z:M * (σ * π / 2 / M) = σ * π / 2:=by grind
  grind
 have e5:PSg l x = q.d x * PHg l' x + q.p x * PSg l' x:=PSg_perm p x
 obtain ⟨n1,n2⟩:=near_sg (e:=σ * π / 2) (b4.mono (by grind)) (s2.mono le) (by grind)
 rw [<- e5] at n1 n2
 refine ⟨n2.mono e2,b2.mono e3,?_,b1.ne σ0,fun q' h z=>hη q' h x wx (s.mono (by grind)) (z.mono (by grind))⟩
 rw [n1,sg_mul]
theorem PAg_same {R e c d:Rat} (wc:Wi R c) (wd:Wi R d) (cd:c <= d) (n:d - c <= e):∀ {l:List GF},(∀ q ∈ l,GE R q e /\ sg (q.p c) = sg (q.p d) /\ sg (q.p c) ≠ 0) -> PAg l c = PAg l d
 | [],_=>rfl
 | q :: l,h=>by
  obtain ⟨b,s,s0⟩:=h q List.mem_cons_self
  show q.A c + PAg l c = q.A d + PAg l d
  rw [b.2.2 c d wc wd cd n s s0,PAg_same wc wd cd n fun q' h'=>h q' (List.mem_cons_of_mem _ h')]
def NearI (R:Rat) (f g:Rat -> Rat) (A:Rat -> Int):Prop:=∃ δ:Rat,0 < δ /\ ∀ c d,Wi R c -> Wi R d -> c <= d -> d - c <= δ -> (sg (f c) = sg (f d) /\ sg (f c) ≠ 0 /\ A c = A d) \/ (sg (g c) = sg (g d) /\ sg (g c) ≠ 0 /\ vI (f c) (g c) + A c = vI (f d) (g d) + A d)
theorem near_ofG {R:Rat} (R0:0 <= R) {l:List GF} {f g:Rat -> Rat} {κ:Rat} (ok:∀ q ∈ l,GOk R q) (un:l.Pairwise fun a b=>NotBoth R a.p b.p) (lf:Lip R f) (lg:Lip R g) (nb:NotBoth R f g) (k0:0 < κ) (id:∀ x,κ * (g x * PHg l x) = f x * PSg l x):NearI R f g (PAg l):=by
 obtain ⟨θ,θ0,hθ⟩:=minL (P:=AtG R l) (fun q e e' h _ le=>h.mono le) l fun q hq=>at_rootG R0 ok un hq
 obtain ⟨ε,ε0,hε⟩:=nb
 obtain ⟨G,G0,hG⟩:=lg.bdd R0
 obtain ⟨P,P0,hP⟩:=(PSg_py ok).bdd R0
 obtain ⟨τ,τ0,τθ,hτ⟩ : ∃ τ:Rat,0 < τ /\ τ <= θ /\ ∀ q ∈ l,∀ x,Wi R x -> Sm τ (q.p x) -> Sm ε (f x):=by
  obtain ⟨τ,τ0,h⟩:=minL (P:=fun (q:GF) t=>t <= θ /\ ∀ x,Wi R x -> Sm t (q.p x) -> Sm ε (f x)) (fun q e e' h _ le=>⟨by grind,fun x w s=>h.2 x w (s.mono le)⟩) l fun q hq=>by
   obtain ⟨_,l',p,hx⟩:=hθ q hq
   obtain ⟨H,H0,hH⟩:=(PHg_py (R:=R) (l:=l') fun q' h=>ok q' (p.mem_iff.mpr (List.mem_cons_of_mem _ h))).bdd R0
   have z0:=Rat.mul_pos k0 (Rat.mul_pos G0 H0)
   have z1:0 < θ * ε / 2 / (κ * (G * H)):=by rw [Rat.lt_div_iff z0]; have:=Rat.mul_pos θ0 ε0; grind
   obtain ⟨t,t0,t1,t2,_⟩:=min3 θ0 z1 z1
   refine ⟨t,t0,t1,fun x w s=>?_⟩
   obtain ⟨b1,_⟩:=hx x w (s.mono t1)
   refine Classical.byContradiction fun nf=>?_
   have nf:=Bg.of nf
   have e1:=id x
   rw [PHg_perm p x] at e1
   have e1:κ * (g x * (q.p x * PHg l' x)) = f x * PSg l x:=e1
   have m1:=((hG x w).mul (s.mul (hH x w)))
   have m2:=(show Sm κ κ by unfold Sm; grind).mul m1
   rw [e1] at m2
   have b2:=nf.mul b1 (Rat.le_of_lt ε0) (Rat.le_of_lt θ0)
   have m3:κ * (G * (t * H)) <= θ * ε / 2:=by
    have:=Rat.mul_nonneg (Rat.le_of_lt z0) (show 0 <= θ * ε / 2 / (κ * (G * H)) - t by grind)
    have z:κ * (G * H) * (θ * ε / 2 / (κ * (G * H))) = θ * ε / 2:=by grind
    grind
   refine b2.no ?_ (m2.mono m3)
   have:=Rat.mul_pos θ0 ε0
   grind
  cases l with
  | nil=>exact ⟨θ,θ0,by grind,fun q hq=>by cases hq⟩
  | cons q0 l0=>exact ⟨τ,τ0,(h q0 List.mem_cons_self).1,fun q hq=>(h q hq).2⟩
 obtain ⟨φ,φ0,hφ⟩ : ∃ φ:Rat,0 < φ /\ ∀ x,Wi R x -> (∀ q ∈ l,¬ Sm (τ / 2) (q.p x)) -> ¬ Sm φ (f x):=by
  have h2:0 < τ / 2:=by grind
  have π0:=pwq_pos h2 l.length
  have z0:=Rat.mul_pos k0 (Rat.mul_pos ε0 π0)
  have z1:0 < κ * (ε * pwq (τ / 2) l.length) / 2 / P:=by rw [Rat.lt_div_iff P0]; grind
  obtain ⟨φ,φ0,f1,f2,_⟩:=min3 ε0 z1 z1
  refine ⟨φ,φ0,fun x w h s=>?_⟩
  have bg:=Bg.of fun z=>hε x w (s.mono f1) z
  have b1:=(show Bg κ κ from .inl (by grind)).mul (bg.mul (PHg_big h2 h) (Rat.le_of_lt ε0) (Rat.le_of_lt π0)) (Rat.le_of_lt k0) (Rat.le_of_lt (Rat.mul_pos ε0 π0))
  have m1:=s.mul (hP x w)
  rw [<- id] at m1
  refine b1.no ?_ m1
  have:=Rat.mul_nonneg (Rat.le_of_lt P0) (show 0 <= κ * (ε * pwq (τ / 2) l.length) / 2 / P - φ by grind)
  have z:P * (κ * (ε * pwq (τ / 2) l.length) / 2 / P) = κ * (ε * pwq (τ / 2) l.length) / 2:=by grind
  grind
 obtain ⟨δ1,p1,h1⟩:=lf.near φ0
 obtain ⟨δ2,p2,h2⟩:=lg.near ε0
 obtain ⟨δ3,p3,h3⟩:=minL (P:=fun (q:GF) t=>∀ c d,Wi R c -> Wi R d -> c <= d -> d - c <= t -> Sm (τ / 2) (q.p d - q.p c)) (fun q e e' h _ le c d wc wd cd n=>h c d wc wd cd (by grind)) l fun q hq=>((ok q hq).pp.lip R0).near (by grind)
 obtain ⟨δ4,p4,a1,a2,a3⟩:=min3 p1 p2 p3
 obtain ⟨δ,p,b1,b2,_⟩:=min3 p4 θ0 θ0
 refine ⟨δ,p,fun c d wc wd cd n=>?_⟩
 have hp:∀ q ∈ l,Sm (τ / 2) (q.p d - q.p c):=fun q hq=>h3 q hq c d wc wd cd (by grind)
 by_cases ex:∃ q ∈ l,Sm (τ / 2) (q.p c)
 ·obtain ⟨q,hq,s⟩:=ex
  right
  have sc:Sm τ (q.p c):=s.mono (by grind)
  have sd:Sm τ (q.p d):=by
   have:=hp q hq
   unfold Sm at *
   grind
  have ng:=keep_sg (h2 c d wc wd cd (by grind)) fun z=>hε c wc (hτ q hq c wc sc) z
  refine ⟨ng.1,ng.2,?_⟩
  obtain ⟨hw,l',pm,hx⟩:=hθ q hq
  have v:∀ x,Wi R x -> Sm τ (q.p x) -> vI (f x) (g x) = vI (q.p x) (q.d x):=fun x wx sx=>by
   obtain ⟨_,q2,q3,q4,_⟩:=hx x wx (sx.mono τθ)
   have q5:=q2.ne θ0
   have q6:sg (g x) ≠ 0:=fun z=>hε x wx (hτ q hq x wx sx) (by rw [sg_eq0.mp z]; unfold Sm; grind)
   have e1:=congrArg sg (id x)
   rw [PHg_perm pm x,sg_mul,sg_pos k0,Int.one_mul,sg_mul,sg_mul,q3] at e1
   have e1:sg (g x) * sg (q.p x * PHg l' x) = sg (f x) * (sg (q.d x) * sg (PHg l' x)):=e1
   rw [sg_mul] at e1
   have e2:sg (f x) * sg (g x) = sg (q.p x) * sg (q.d x):=by
    rcases sg_range (PHg l' x) with z1 | z1 | z1 <;> rcases sg_range (g x) with z2 | z2 | z2 <;> rcases sg_range (q.d x) with z3 | z3 | z3 <;> rw [z1,z2,z3] at e1 <;> rw [z2,z3] <;> walk_at "o"
   unfold vI
   rw [e2]
  rw [v c wc sc,v d wd sd,PAg_perm pm c,PAg_perm pm d]
  show _ + (q.A c + PAg l' c) = _ + (q.A d + PAg l' d)
  have ps:=hw.2.1 c d wc wd cd (by grind) (sc.mono τθ) (sd.mono τθ)
  have pa:PAg l' c = PAg l' d:=PAg_same wc wd cd (show d - c <= θ by grind) fun q' h'=>by
   have hq':q' ∈ l:=pm.mem_iff.mpr (List.mem_cons_of_mem _ h')
   obtain ⟨_,_,_,_,nq⟩:=hx c wc (sc.mono τθ)
   obtain ⟨y1,y2⟩:=keep_sg ((hp q' hq').mono (show τ / 2 <= θ by grind)) (nq q' h')
   exact ⟨(hθ q' hq').1,y1,y2⟩
  walk_at "o"
 ·left
  have al:∀ q ∈ l,¬ Sm (τ / 2) (q.p c):=fun q hq s=>ex ⟨q,hq,s⟩
  have nf:=keep_sg (h1 c d wc wd cd (by grind)) (hφ c wc al)
  refine ⟨nf.1,nf.2,PAg_same wc wd cd (show d - c <= θ by grind) fun q hq=>?_⟩
  obtain ⟨y1,y2⟩:=keep_sg (hp q hq) (al q hq)
  exact ⟨(hθ q hq).1,y1,y2⟩
theorem Vr_twoI {f g:Rat -> Rat} {l:List (Rat -> Rat)} {x:Rat} (h:sg (g x) ≠ 0):((Vr x (f :: g :: l):Nat):Int) = vI (f x) (g x) + ((chg (sg (g x)) (sgs x l):Nat):Int):=by
 rw [Vr_two h]
 unfold v1 vI
 split <;> walk_at "o"
theorem Ch.countsI {R:Rat} {f g:Rat -> Rat} {l:List (Rat -> Rat)} {A:Rat -> Int} (h:Ch R f (g :: l)) (loc:NearI R f g A) {a b:Rat} (wa:Wi R a) (wb:Wi R b) (ab:a <= b):((Vr a (f :: g :: l):Nat):Int) + A a = ((Vr b (f :: g :: l):Nat):Int) + A b:=by
 obtain ⟨δ1,d1,k1⟩:=h.keeps.1
 obtain ⟨δ2,d2,k2⟩:=h.keeps.2 g l rfl
 obtain ⟨δ3,d3,k3⟩:=loc
 obtain ⟨δ,d0,m1,m2,m3⟩:=min3 d1 d2 d3
 have step:∀ c d,Wi R c -> Wi R d -> c <= d -> d - c <= δ -> ((Vr c (f :: g :: l):Nat):Int) + A c = ((Vr d (f :: g :: l):Nat):Int) + A d:=fun c d wc wd cd n=>by
  rcases k3 c d wc wd cd (by grind) with ⟨e,nz,ea⟩ | ⟨e,nz,ea⟩
  ·rw [Vr_one nz,Vr_one (by rw [<- e]; exact nz),k1 c d wc wd cd (by grind) e nz,ea]
  ·rw [Vr_twoI nz,Vr_twoI (by rw [<- e]; exact nz),k2 c d wc wd cd (by grind) e nz]
   walk_at "o"
 have all:∀ (n:Nat) (c:Rat),Wi R c -> c <= b -> b - c <= (n:Rat) * δ -> ((Vr c (f :: g :: l):Nat):Int) + A c = ((Vr b (f :: g :: l):Nat):Int) + A b:=by
  intro n
  induction n with
  | zero =>
   intro c _ cb z
   obtain rfl:c = b:=by
    have:((0:Nat):Rat) = 0:=rfl
    grind
   rfl
  | succ n ih =>
   intro c wc cb z
   by_cases y:b - c <= δ
   ·exact step c b wc wb cb y
   ·have wc':Wi R (c + δ):=by unfold Wi at *; grind
    rw [step c (c + δ) wc wc' (by grind) (by grind)]
    refine ih (c + δ) wc' (by grind) ?_
    have:((n + 1:Nat):Rat) = (n:Rat) + 1:=by rw [Rat.natCast_add]; rfl
    rw [this] at z
    grind
 obtain ⟨n,hn⟩ : ∃ n:Nat,b - a <= (n:Rat) * δ:=by
  obtain ⟨x,hx⟩ : ∃ x,x = (b - a) / δ:=⟨_,rfl⟩
  refine ⟨(x.ceil).toNat,?_⟩
  have h1:x <= ((x.ceil:Int):Rat):=Rat.le_ceil
  have h2:((x.ceil:Int):Rat) <= ((x.ceil.toNat:Nat):Rat):=by
   rw [show ((x.ceil.toNat:Nat):Rat) = (((x.ceil.toNat:Nat):Int):Rat) from rfl]
   exact Rat.intCast_le_intCast.mpr (Int.self_le_toNat _)
  have h3:=Rat.mul_nonneg (Rat.le_of_lt d0) (show 0 <= ((x.ceil.toNat:Nat):Rat) - x by grind)
  have h4:x * δ = b - a:=by rw [hx]; grind
  grind
 exact all n a wa ab hn
theorem Ch.tarski {R:Rat} (R0:0 <= R) {l:List GF} {f g:Rat -> Rat} {fs:List (Rat -> Rat)} {κ:Rat} (h:Ch R f (g :: fs)) (ok:∀ q ∈ l,GOk R q) (un:l.Pairwise fun a b=>NotBoth R a.p b.p) (lg:Lip R g) (k0:0 < κ) (id:∀ x,κ * (g x * PHg l x) = f x * PSg l x) {a b:Rat} (wa:Wi R a) (wb:Wi R b) (ab:a <= b):((Vr a (f :: g :: fs):Nat):Int) + PAg l a = ((Vr b (f :: g :: fs):Nat):Int) + PAg l b :=
 h.countsI (near_ofG R0 ok un h.lip lg (h.notBoth g fs rfl) k0 id) wa wb ab
end L2
namespace L2
open PySem PySem.Spec PyProof.Rows
def Bz (f g:Rat -> Rat):Prop:=∃ u v,Py u /\ Py v /\ ∀ x,u x * f x + v x * g x = 1
theorem Bz.symm {f g:Rat -> Rat} (h:Bz f g):Bz g f:=by
 obtain ⟨u,v,a,b,e⟩:=h
 exact ⟨v,u,b,a,fun x=>by have:=e x; grind⟩
theorem Bz.mul {f g h:Rat -> Rat} (pf:Py f) (pg:Py g) (ph:Py h) (a:Bz f g) (b:Bz f h):Bz f fun x=>g x * h x:=by
 obtain ⟨u,v,pu,pv,e⟩:=a
 obtain ⟨u',v',pu',pv',e'⟩:=b
 refine ⟨fun x=>u x * (u' x * f x + v' x * h x) + v x * g x * u' x,fun x=>v x * v' x,(pu.mul ((pu'.mul pf).add (pv'.mul ph))).add ((pv.mul pg).mul pu'),pv.mul pv',fun x=>?_⟩
 have e1:=e x
 have e2:=e' x
 have:(u x * f x + v x * g x) * (u' x * f x + v' x * h x) = 1:=by rw [e1,e2]; grind
 grind
theorem Bz.congr {f g f' g':Rat -> Rat} (h:Bz f g) (e1:∀ x,f' x = f x) (e2:∀ x,g' x = g x):Bz f' g':=by
 obtain ⟨u,v,pu,pv,e⟩:=h
 exact ⟨u,v,pu,pv,fun x=>by rw [e1,e2]; exact e x⟩
theorem Bz.of {f g a b:Rat -> Rat} {c:Rat} (pa:Py a) (pb:Py b) (c0:c ≠ 0) (e:∀ x,a x * f x + b x * g x = c):Bz f g :=
 ⟨fun x=>1 / c * a x,fun x=>1 / c * b x,pa.sc _,pb.sc _,fun x=>by
  have:=e x
  have:1 / c * c = 1:=by grind
  grind⟩
theorem Bz.sc {f g:Rat -> Rat} {c:Rat} (c0:c ≠ 0) (h:Bz f g):Bz f fun x=>c * g x:=by
 obtain ⟨u,v,pu,pv,e⟩:=h
 exact ⟨u,fun x=>1 / c * v x,pu,pv.sc _,fun x=>by
  have:=e x
  have:1 / c * c = 1:=by grind
  grind⟩
theorem evL_trim:∀ l:List Rat,∃ l':List Rat,(∀ x,evL l x = evL l' x) /\ (l' = [] \/ ∃ c,l'.getLast? = some c /\ c ≠ 0)
 | []=>⟨[],fun _=>rfl,.inl rfl⟩
 | a :: l=>by
  obtain ⟨l',e,h⟩:=evL_trim l
  rcases h with rfl | ⟨c,hc,c0⟩
  ·by_cases z:a = 0
   ·exact ⟨[],fun x=>by show a + x * evL l x = 0; rw [e x]; show a + x * 0 = 0; grind,.inl rfl⟩
   ·exact ⟨[a],fun x=>by show a + x * evL l x = a + x * 0; rw [e x]; rfl,.inr ⟨a,rfl,z⟩⟩
  ·refine ⟨a :: l',fun x=>by show a + x * evL l x = a + x * evL l' x; rw [e x],.inr ⟨c,?_,c0⟩⟩
   cases l' with
   | nil=>cases hc
   | cons b l'=>rw [List.getLast?_cons_cons]; exact hc
theorem evL_far:∀ l:List Rat,(∃ c,l.getLast? = some c /\ c ≠ 0) -> ∃ R c:Rat,0 < R /\ 0 < c /\ ∀ x,R <= x -> Bg c (evL l x) /\ (2 <= l.length -> Bg (c * x) (evL l x))
 | [],⟨_,h,_⟩=>by cases h
 | [a],⟨c,h,c0⟩=>by
  cases h
  rcases sg_cases a with ⟨z,_⟩ | ⟨z,_⟩ | ⟨z,_⟩
  ·exact ⟨1,a,by decide,z,fun x _=>⟨.inl (by show a <= a + x * 0; grind),fun h=>by simp at h⟩⟩
  ·exact ⟨1,-a,by decide,by grind,fun x _=>⟨.inr (by show a + x * 0 <= _; grind),fun h=>by simp at h⟩⟩
  ·exact absurd z c0
 | a :: b :: l,⟨c,h,c0⟩=>by
  rw [List.getLast?_cons_cons] at h
  obtain ⟨R,k,R0,k0,hk⟩:=evL_far (b :: l) ⟨c,h,c0⟩
  obtain ⟨t,t0,ht⟩:=Bdd.const (R:=0) a
  have ht:=ht 0 (by unfold Wi; grind)
  have tk:0 < 2 * t / k:=by rw [Rat.lt_div_iff k0]; grind
  have tkk:2 * t / k * k = 2 * t:=by grind
  refine ⟨R + 1 + 2 * t / k,k / 2,by grind,by grind,fun x hx=>?_⟩
  have b1:=(hk x (by grind)).1
  have m:=Rat.mul_nonneg (Rat.le_of_lt k0) (show 0 <= x - (1 + 2 * t / k) by grind)
  have b2:=(show Bg x x from .inl (by grind)).mul b1 (by grind) (Rat.le_of_lt k0)
  have b3:Bg (k / 2 * x) (a + x * evL (b :: l) x):=by
   unfold Bg at b2 ⊢
   unfold Sm at ht
   grind
  refine ⟨b3.mono ?_,fun _=>b3⟩
  have:=Rat.mul_nonneg (show 0 <= k / 2 by grind) (show 0 <= x - 1 by grind)
  grind
theorem unit_const {w v:Rat -> Rat} (pw:Py w) (pv:Py v) (e:∀ x,w x * v x = 1):∃ c:Rat,c ≠ 0 /\ ∀ x,w x = c:=by
 obtain ⟨lw,hw⟩:=pw
 obtain ⟨lv,hv⟩:=pv
 obtain ⟨w',ew,kw⟩:=evL_trim lw
 obtain ⟨v',ev,kv⟩:=evL_trim lv
 have nw:w' ≠ []:=fun z=>by
  have:=e 0
  rw [hw,ew,z] at this
  have this:(0:Rat) * v 0 = 1:=this
  grind
 have nv:v' ≠ []:=fun z=>by
  have:=e 0
  rw [hv,ev,z] at this
  have this:w 0 * (0:Rat) = 1:=this
  grind
 obtain ⟨R1,c1,R10,c10,h1⟩:=evL_far w' (kw.resolve_left nw)
 obtain ⟨R2,c2,R20,c20,h2⟩:=evL_far v' (kv.resolve_left nv)
 by_cases l2:2 <= w'.length
 ·exfalso
  have cc:=Rat.mul_pos c10 c20
  have d0:0 < 2 / (c1 * c2):=by rw [Rat.lt_div_iff cc]; grind
  have dd:2 / (c1 * c2) * (c1 * c2) = 2:=by grind
  obtain ⟨x,hx⟩ : ∃ x,x = R1 + R2 + 2 / (c1 * c2):=⟨_,rfl⟩
  have b1:=(h1 x (by grind)).2 l2
  have b2:=(h2 x (by grind)).1
  have x0:0 < x:=by grind
  have b3:=b1.mul b2 (Rat.le_of_lt (Rat.mul_pos c10 x0)) (Rat.le_of_lt c20)
  have e1:=e x
  rw [hw,hv,ew,ev] at e1
  rw [e1] at b3
  have:=Rat.mul_nonneg (Rat.le_of_lt cc) (show 0 <= x - 2 / (c1 * c2) by grind)
  unfold Bg at b3
  grind
 ·clear h1 kw
  match w',nw,l2,ew with
  | _ :: _ :: _,_,l2,_=>exact absurd (by simp) l2
  | [a],_,_,ew =>
   have ex:∀ x,w x = a:=fun x=>by rw [hw,ew x]; show a + x * 0 = a; grind
   refine ⟨a,fun z=>?_,ex⟩
   have:=e 0
   rw [ex,z] at this
   grind
end L2
namespace L2
open PySem PySem.Spec PyProof.Rows
def chl1 (ms ns:List Int) (rows:List (List Int × List Int × Int × Int)):List (List Int):=if ns = [] then [ms] else ms :: ns :: scs 1 1 rows
def farZ (hs:List (List Int)):Int:=((chg 0 (hs.map (farS (-1))):Nat):Int) - ((chg 0 (hs.map (farS 1)):Nat):Int)
def Bal (F D G:Rat -> Rat) (n:Nat) (z:Int):Prop:=∃ (W O:List Int) (rows:List (List Int × List Int × Int × Int)) (c1 c2 ω:Rat) (t:Rat -> Rat),0 < c1 /\ 0 < c2 /\ 0 < ω /\ Py t /\ W.length = n + 1 /\ nz W n ≠ 0 /\ (∀ x,wf1 W x = c1 * F x) /\ O.length <= n /\ (O ≠ [] -> nz O (O.length - 1) ≠ 0) /\ (∀ x,ω * wf1 O x = c2 * (D x * G x) - t x * wf1 W x) /\ Rsq W O rows /\ (∀ row ∈ rows,row.1.length <= 9) /\ z = farZ (chl1 W O rows)
theorem chg_le:∀ (s:List Int) (l:Int),chg l s <= s.length
 | [],_=>Nat.le_refl 0
 | a :: s,l=>by
  by_cases z:a = 0
  ·rw [z,chg_z]
   have:=chg_le s l
   simp
   walk_at "o"
  ·rw [chg_n z]
   have:=chg_le s a
   simp
   split <;> walk_at "o"
theorem chg_le0 (a:Int) (s:List Int):chg 0 (a :: s) <= s.length:=by
 by_cases z:a = 0
 ·rw [z,chg_z]; exact chg_le s 0
 ·rw [chg_0 z]; exact chg_le s a
theorem scs_len:∀ (rs:List (List Int × List Int × Int × Int)) (x y:Int),(scs x y rs).length = rs.length
 | [],_,_=>rfl
 | r :: rs,x,y=>by show (scs _ _ rs).length + 1 = _; rw [scs_len rs]; rfl
theorem Rsq.lens {F G:List Int} {rows:List (List Int × List Int × Int × Int)} (h:Rsq F G rows):(lastR G rows).length + rows.length <= G.length:=by
 induction h with
 | nought=>exact Nat.le_refl _
 | last=>exact Nat.le_refl _
 | @more F G R Q T S rows g0 gl s0 t0 r0 rl lr lq e hr ih =>
  show (lastR R rows).length + (rows.length + 1) <= G.length
  walk_at "o"
theorem farZ_le {W O:List Int} {rows:List (List Int × List Int × Int × Int)} (h:Rsq W O rows) {n:Nat} (lO:O.length <= n) (l2:O = [] \/ 2 <= (lastR O rows).length) (n1:1 <= n):farZ (chl1 W O rows) < (n:Int):=by
 unfold farZ chl1
 by_cases o:O = []
 ·rw [if_pos o]
  have:=chg_le0 (farS (-1) W) []
  show ((chg 0 [farS (-1) W]:Nat):Int) - _ < _
  simp at this
  walk_at "o"
 ·rw [if_neg o]
  have h1:=chg_le0 (farS (-1) W) (farS (-1) O :: (scs 1 1 rows).map (farS (-1)))
  have h2:=h.lens
  have h3:=l2.resolve_left o
  rw [List.length_cons,List.length_map,scs_len] at h1
  show ((chg 0 (farS (-1) W :: farS (-1) O :: (scs 1 1 rows).map (farS (-1))):Nat):Int) - _ < _
  walk_at "o"
theorem Rsq.zero {F G:List Int} {rows:List (List Int × List Int × Int × Int)} (h:Rsq F G rows) (lF:F.length <= 9) (lG:G.length <= F.length) {s:Rat}:wf1 F s = 0 -> wf1 G s = 0 -> wf1 (lastR G rows) s = 0:=by
 induction h with
 | nought=>exact fun _ h=>h
 | last=>exact fun _ h=>h
 | @more F G R Q T S rows g0 gl s0 t0 r0 rl lr lq e hr ih =>
  intro hF hG
  refine ih (by walk_at "o") (by walk_at "o") hG ?_
  have:=EV_rsq (show Q.length + G.length <= 20 by walk_at "o") e s
  have hF:EV (nzR F) s = 0:=hF
  have hG:EV (nzR G) s = 0:=hG
  rw [hF,hG] at this
  have t0':=cast_ne t0
  show EV (nzR R) s = 0
  have:(T:Rat) * EV (nzR R) s = 0:=by grind
  rcases Rat.mul_eq_zero.mp this with y | y
  ·exact absurd y t0'
  ·exact y
def lineA (r c:Rat) (x:Rat):Int:=if 0 < c then (if r <= x then 1 else 0) else if r < x then -1 else 0
theorem line_ge {R r c:Rat} (R0:0 <= R) (wr:Wi R r) {d:Rat -> Rat} (pd:Py d) (ed:d r = c) (c0:c ≠ 0):GOk R ⟨fun x=>x - r,d,lineA r c⟩:=by
 refine ⟨Py.id.sub (.const r),pd,?_⟩
 obtain ⟨k,k0,hk⟩ : ∃ k:Rat,0 < k /\ Bg (2 * k) c:=by
  rcases sg_cases c with ⟨z,_⟩ | ⟨z,_⟩ | ⟨z,_⟩
  ·exact ⟨c / 2,by grind,.inl (by grind)⟩
  ·exact ⟨-c / 2,by grind,.inr (by grind)⟩
  ·exact absurd z c0
 obtain ⟨δ,δ0,hδ⟩:=(pd.lip R0).near k0
 obtain ⟨e,e0,e1,e2,_⟩:=min3 k0 δ0 δ0
 have near:∀ x,Wi R x -> Sm e (x - r) -> sg (d x) = sg c /\ Bg k (d x):=fun x wx s=>by
  have s':Sm k (d x - c):=by
   unfold Sm at s
   by_cases y:r <= x
   ·have:=hδ r x wr wx y (by grind)
    rwa [ed] at this
   ·have:=(hδ x r wx wr (by grind) (by grind)).neg
    rw [ed] at this
    rwa [show d x - c = -(c - d x) by grind]
  obtain ⟨n1,n2⟩:=near_sg (a:=c) (b:=d x - c) hk s' k0
  rw [show c + (d x - c) = d x by grind] at n1 n2
  exact ⟨n1,n2⟩
 refine ⟨e,e0,fun x wx s=>(near x wx s).2.mono e1,fun a b wa wb ab n sa sb=>?_,fun a b wa wb ab n s s0=>?_⟩
 ·have key:∀ x,Wi R x -> Sm e (x - r) -> vI (x - r) (d x) + lineA r c x = if 0 < c then 1 else 0:=fun x wx s=>by
   unfold vI lineA
   rw [(near x wx s).1]
   rcases sg_cases c with ⟨z,e1⟩ | ⟨z,e1⟩ | ⟨z,e1⟩
   ·rw [e1,if_pos z,if_pos z]
    rcases sg_cases (x - r) with ⟨a,e2⟩ | ⟨a,e2⟩ | ⟨a,e2⟩
    ·rw [e2,if_neg (by decide),if_pos (by grind)]; rfl
    ·rw [e2,if_pos (by decide),if_neg (by grind)]; rfl
    ·rw [e2,if_neg (by decide),if_pos (by grind)]; rfl
   ·rw [e1,if_neg (show ¬ 0 < c by grind),if_neg (show ¬ 0 < c by grind)]
    rcases sg_cases (x - r) with ⟨a,e2⟩ | ⟨a,e2⟩ | ⟨a,e2⟩
    ·rw [e2,if_pos (by decide),if_pos (by grind)]; rfl
    ·rw [e2,if_neg (by decide),if_neg (by grind)]; rfl
    ·rw [e2,if_neg (by decide),if_neg (by grind)]; rfl
   ·exact absurd z c0
  exact (key a wa sa).trans (key b wb sb).symm
 ·have s:sg (a - r) = sg (b - r):=s
  have s0:sg (a - r) ≠ 0:=s0
  show lineA r c a = lineA r c b
  unfold lineA
  rcases sg_cases (a - r) with ⟨z,e1⟩ | ⟨z,e1⟩ | ⟨z,e1⟩
  ·rw [if_pos (show r <= a by grind),if_pos (show r <= b by grind),if_pos (show r < a by grind),if_pos (show r < b by grind)]
  ·rw [e1] at s
   have:=sg_eqm.mp s.symm
   rw [if_neg (show ¬ r <= a by grind),if_neg (show ¬ r <= b by grind),if_neg (show ¬ r < a by grind),if_neg (show ¬ r < b by grind)]
  ·exact absurd e1 s0
def gfs (d:Rat -> Rat) (ps:List (Rat × Rat)):List GF:=ps.map fun p=>⟨fun x=>x - p.1,d,lineA p.1 p.2⟩
theorem PHg_gfs {d:Rat -> Rat} {x:Rat}:∀ ps:List (Rat × Rat),PHg (gfs d ps) x = prodX (ps.map (·.1)) x
 | []=>rfl
 | p :: ps=>by show (x - p.1) * PHg (gfs d ps) x = (x - p.1) * prodX (ps.map (·.1)) x; rw [PHg_gfs ps]
theorem PSg_gfs {d:Rat -> Rat} {x:Rat}:∀ ps:List (Rat × Rat),PSg (gfs d ps) x = d x * dprodX (ps.map (·.1)) x
 | []=>by show (0:Rat) = d x * 0; grind
 | p :: ps=>by
  show d x * PHg (gfs d ps) x + (x - p.1) * PSg (gfs d ps) x = d x * (prodX (ps.map (·.1)) x + (x - p.1) * dprodX (ps.map (·.1)) x)
  rw [PHg_gfs,PSg_gfs ps]
  grind
def sgSum:List (Rat × Rat) -> Int
 | []=>0
 | p :: ps=>sg p.2 + sgSum ps
theorem PAg_gfs {d:Rat -> Rat} {R:Rat}:∀ {ps:List (Rat × Rat)},(∀ p ∈ ps,-R < p.1 /\ p.1 < R /\ p.2 ≠ 0) -> PAg (gfs d ps) R = sgSum ps /\ PAg (gfs d ps) (-R) = 0
 | [],_=>⟨rfl,rfl⟩
 | p :: ps,h=>by
  obtain ⟨a,b⟩:=PAg_gfs (d:=d) (R:=R) (ps:=ps) fun q hq=>h q (List.mem_cons_of_mem _ hq)
  obtain ⟨h1,h2,h3⟩:=h p List.mem_cons_self
  have e1:lineA p.1 p.2 R = sg p.2:=by
   unfold lineA
   rcases sg_cases p.2 with ⟨z,e⟩ | ⟨z,e⟩ | ⟨z,e⟩
   ·rw [if_pos z,if_pos (by grind),e]
   ·rw [if_neg (by grind),if_pos h2,e]
   ·exact absurd z h3
  have e2:lineA p.1 p.2 (-R) = 0:=by
   unfold lineA
   rw [if_neg (show ¬ p.1 <= -R by grind),if_neg (show ¬ p.1 < -R by grind)]
   split <;> rfl
  exact ⟨by show lineA p.1 p.2 R + PAg (gfs d ps) R = sg p.2 + sgSum ps; rw [a,e1],by show lineA p.1 p.2 (-R) + PAg (gfs d ps) (-R) = 0; rw [b,e2]; rfl⟩
theorem sgSum_le:∀ ps:List (Rat × Rat),sgSum ps <= (ps.length:Int) /\ (sgSum ps = (ps.length:Int) ↔ ∀ p ∈ ps,0 < p.2)
 | []=>⟨by decide,by simp [sgSum]⟩
 | p :: ps=>by
  obtain ⟨a,b⟩:=sgSum_le ps
  have r:=sg_range p.2
  rw [List.length_cons]
  show sg p.2 + sgSum ps <= _ /\ (sg p.2 + sgSum ps = _ ↔ _)
  refine ⟨by walk_at "o",fun h=>?_,fun h=>?_⟩
  ·have s1:sg p.2 = 1:=by walk_at "o"
   have s2:=b.mp (by walk_at "o")
   intro q hq
   rcases List.mem_cons.mp hq with rfl | z
   ·exact sg_eq1.mp s1
   ·exact s2 q z
  ·rw [sg_pos (h p List.mem_cons_self),b.mpr fun q hq=>h q (List.mem_cons_of_mem _ hq)]
   walk_at "o"
end L2
namespace L2
open PySem PySem.Spec PyProof.Rows
theorem evL_at (s:Rat):∀ l:List Rat,∃ q:List Rat,∀ x,evL l x = evL l s + (x - s) * evL q x
 | []=>⟨[],fun x=>by show (0:Rat) = 0 + (x - s) * 0; grind⟩
 | a :: l=>by
  obtain ⟨q,h⟩:=evL_at s l
  obtain ⟨q',h'⟩:=((Py.const (evL l s)).add (Py.shift ⟨q,fun _=>rfl⟩))
  refine ⟨q',fun x=>?_⟩
  rw [<- h' x]
  show a + x * evL l x = a + s * evL l s + (x - s) * (evL l s + x * evL q x)
  have:=h x
  grind
theorem Py.at {f:Rat -> Rat} (h:Py f) (s:Rat):∃ q,Py q /\ ∀ x,f x = f s + (x - s) * q x:=by
 obtain ⟨l,e⟩:=h
 obtain ⟨q,hq⟩:=evL_at s l
 exact ⟨evL q,⟨q,fun _=>rfl⟩,fun x=>by rw [e,e]; exact hq x⟩
theorem Bz.line {f:Rat -> Rat} (h:Py f) {s:Rat} (n:f s ≠ 0):Bz (fun x=>x - s) f:=by
 obtain ⟨q,pq,e⟩:=h.at s
 exact .of (a:=fun x=>-1 * q x) (b:=fun _=>1) (pq.sc (-1)) (.const 1) n fun x=>by
  have:=e x
  grind
theorem prodX_py:∀ ss:List Rat,Py (prodX ss)
 | []=>(Py.const 1).congr fun _=>rfl
 | s :: ss=>((Py.id.sub (.const s)).mul (prodX_py ss)).congr fun _=>rfl
theorem prodX_bz {f:Rat -> Rat} (h:Py f):∀ {ss:List Rat},(∀ s ∈ ss,f s ≠ 0) -> Bz f (prodX ss)
 | [],_=>(Bz.of (a:=fun _=>0) (b:=fun _=>1) (c:=1) (g:=fun _=>1) (.const 0) (.const 1) (by decide) fun x=>by grind).congr (fun _=>rfl) fun _=>rfl
 | s :: ss,n=>(Bz.mul h (Py.id.sub (.const s)) (prodX_py ss) (Bz.line h (n s List.mem_cons_self)).symm (prodX_bz h fun t ht=>n t (List.mem_cons_of_mem _ ht))).congr (fun _=>rfl) fun _=>rfl
theorem Bz.notBoth {f g:Rat -> Rat} (h:Bz f g) {R:Rat} (R0:0 <= R):NotBoth R f g:=by
 obtain ⟨u,v,pu,pv,e⟩:=h
 obtain ⟨A,A0,hA⟩:=pu.bdd R0
 obtain ⟨B,B0,hB⟩:=pv.bdd R0
 have ab:0 < 1 / (2 * (A + B)):=by rw [Rat.lt_div_iff (by grind)]; grind
 refine ⟨1 / (2 * (A + B)),ab,fun x w s1 s2=>?_⟩
 have m1:=(hA x w).mul s1
 have m2:=(hB x w).mul s2
 have:=e x
 have k:(A + B) * (1 / (2 * (A + B))) = 1 / 2:=by
  have:2 * (A + B) * (1 / (2 * (A + B))) = 1:=by
   rw [Rat.mul_comm]; exact Rat.div_mul_cancel (by grind)
  grind
 unfold Sm at m1 m2
 grind
theorem wf1_mapc {F:List Int} {c:Int} (x:Rat):wf1 (F.map fun y=>c * y) x = (c:Rat) * wf1 F x:=by
 unfold wf1
 rw [EV_congr (g:=fun k=>0 + (c:Rat) * nzR F k) (fun k=>by
  show (((nz (F.map fun y=>c * y) k:Int)):Rat) = 0 + (c:Rat) * ((nz F k:Int):Rat)
  rw [nz_mapc,Rat.intCast_mul]; grind),EV_ac,EV_z (f:=fun _=>0) fun _=>rfl]
 grind
theorem HsOk.scs:∀ (rows:List (List Int × List Int × Int × Int)) (a b:Int),(∀ row ∈ rows,row.1.length <= 9) -> HsOk (fun _=>1) a b rows (scs a b rows)
 | [],_,_,_=>rfl
 | row :: rows,a,b,h=>⟨by rw [List.length_map]; exact h row List.mem_cons_self,fun x=>by rw [wf1_mapc]; grind,HsOk.scs rows b _ fun r hr=>h r (List.mem_cons_of_mem _ hr)⟩
theorem chl1_ok {W O:List Int} {rows:List (List Int × List Int × Int × Int)} (h:Rsq W O rows) (w0:W ≠ []) (wz:nz W (W.length - 1) ≠ 0) (lW:W.length <= 9) (lO:O.length <= 9) (oz:O ≠ [] -> nz O (O.length - 1) ≠ 0) (lr:∀ row ∈ rows,row.1.length <= 9):∀ F ∈ chl1 W O rows,F ≠ [] /\ F.length <= 20 /\ nz F (F.length - 1) ≠ 0:=by
 intro F hF
 unfold chl1 at hF
 by_cases o:O = []
 ·rw [if_pos o] at hF
  cases List.mem_singleton.mp hF
  exact ⟨w0,by walk_at "o",wz⟩
 ·rw [if_neg o] at hF
  rcases List.mem_cons.mp hF with rfl | hF
  ·exact ⟨w0,by walk_at "o",wz⟩
  rcases List.mem_cons.mp hF with rfl | hF
  ·exact ⟨o,by walk_at "o",oz o⟩
  obtain ⟨row,hrow,s,ps,rfl⟩:=scs_mem rows 1 1 (fun r hr=>⟨(h.ne r hr).1,(h.ne r hr).2.1⟩) (.inl rfl) (.inl rfl) F hF
  obtain ⟨_,_,r0,rz⟩:=h.ne row hrow
  have:=lr row hrow
  refine ⟨fun z=>r0 (List.map_eq_nil_iff.mp z),by rw [List.length_map]; walk_at "o",?_⟩
  rw [List.length_map,nz_mapc]
  rcases ps with z | z <;> rw [z] <;> walk_at "o"
theorem Rsq.unit {W O:List Int} {rows:List (List Int × List Int × Int × Int)} (h:Rsq W O rows) (o0:O ≠ []) (lW:W.length <= 7) (lO:O.length <= 7) (bz:Bz (wf1 W) (wf1 O)):∃ g:Int,g ≠ 0 /\ ∀ x,wf1 (lastR O rows) x = (g:Rat):=by
 obtain ⟨⟨n0,nl,n7⟩,⟨a,ba,ea⟩,⟨b,bb,eb⟩⟩:=h.dvs o0 lW lO
 obtain ⟨u,v,pu,pv,e⟩:=bz
 have pL:Py (wf1 (lastR O rows)):=wf1_py (by walk_at "o")
 have pw:Py fun x=>u x * EV a x + v x * EV b x:=(pu.mul (EV_py ba (by walk_at "o"))).add (pv.mul (EV_py bb (by walk_at "o")))
 obtain ⟨c,c0,hc⟩:=unit_const pL pw fun x=>by
  have h1:=e x
  have h2:wf1 W x = EV a x * wf1 (lastR O rows) x:=ea x
  have h3:wf1 O x = EV b x * wf1 (lastR O rows) x:=eb x
  rw [h2,h3] at h1
  grind
 have c1:c = ((nz (lastR O rows) 0:Int):Rat):=by
  rw [<- hc 0,wf1_ev (by walk_at "o")]
  cases hl:lastR O rows with
  | nil=>exact absurd hl n0
  | cons y ys=>show (y:Rat) + 0 * evR ys 0 = _; rw [show nz (y :: ys) 0 = y from rfl]; grind
 refine ⟨nz (lastR O rows) 0,fun z=>c0 (by rw [c1,z]; rfl),fun x=>by rw [hc,c1]⟩
theorem dprod_ne:∀ {ss:List Rat},ss.Nodup -> ∀ s ∈ ss,prodX ss s = 0 /\ dprodX ss s ≠ 0:=by
 have pn:∀ (ss:List Rat) (s:Rat),s ∉ ss -> prodX ss s ≠ 0:=fun ss s=>by
  induction ss with
  | nil=>exact fun _=>by show (1:Rat) ≠ 0; decide
  | cons t ss ih =>
   intro h z
   have z:(s - t) * prodX ss s = 0:=z
   rcases Rat.mul_eq_zero.mp z with y | y
   ·exact h (by rw [show s = t by grind]; exact List.mem_cons_self)
   ·exact ih (fun m=>h (List.mem_cons_of_mem _ m)) y
 intro ss
 induction ss with
 | nil=>intro _ s h; cases h
 | cons t ss ih =>
  intro nd s hs
  obtain ⟨n1,n2⟩:=List.nodup_cons.mp nd
  show (s - t) * prodX ss s = 0 /\ prodX ss s + (s - t) * dprodX ss s ≠ 0
  rcases List.mem_cons.mp hs with rfl | hs
  ·refine ⟨by grind,?_⟩
   have:=pn ss s n1
   grind
  ·obtain ⟨a,b⟩:=ih n2 s hs
   have ne:s - t ≠ 0:=fun z=>n1 (by rw [show t = s by grind]; exact hs)
   rw [a]
   refine ⟨by grind,fun z=>?_⟩
   have z:(s - t) * dprodX ss s = 0:=by grind
   rcases Rat.mul_eq_zero.mp z with y | y
   ·exact ne y
   ·exact b y
theorem far_bound:∀ ss:List Rat,∃ R:Rat,0 < R /\ ∀ s ∈ ss,-R < s /\ s < R
 | []=>⟨1,by decide,fun _ h=>by cases h⟩
 | s :: ss=>by
  obtain ⟨R,R0,h⟩:=far_bound ss
  obtain ⟨t,t0,ht⟩:=Bdd.const (R:=0) s
  have ht:=ht 0 (by unfold Wi; grind)
  refine ⟨R + t + 1,by grind,fun u hu=>?_⟩
  rcases List.mem_cons.mp hu with rfl | hu
  ·unfold Sm at ht; grind
  ·have:=h u hu; grind
theorem Bal.crowd {ps:List (Rat × Rat)} {G:Rat -> Rat} {z:Int} (pG:Py G) (hG:∀ p ∈ ps,G p.1 = p.2) (nd:(ps.map (·.1)).Nodup) (l1:1 <= ps.length) (l6:ps.length <= 6) (h:Bal (prodX (ps.map (·.1))) (dprodX (ps.map (·.1))) G ps.length z):z = (ps.length:Int) ↔ ∀ p ∈ ps,0 < p.2:=by
 obtain ⟨W,O,rows,c1,c2,ω,t,k1,k2,kω,pt,lW,wz,eW,lO,oz,eO,rq,lr,rfl⟩:=h
 have nc1:c1 ≠ 0:=by grind
 have nω:ω ≠ 0:=by grind
 have w0:W ≠ []:=fun z=>by rw [z] at lW; simp at lW
 have lin:∀ p ∈ ps,p.1 ∈ ps.map (·.1):=fun p hp=>List.mem_map.mpr ⟨p,hp,rfl⟩
 by_cases some0:∃ p ∈ ps,p.2 = 0
 ·obtain ⟨p,hp,p0⟩:=some0
  refine ⟨fun y=>?_,fun y=>absurd (y p hp) (by rw [p0]; decide)⟩
  exfalso
  obtain ⟨d1,_⟩:=dprod_ne nd p.1 (lin p hp)
  have zW:wf1 W p.1 = 0:=by rw [eW,d1]; grind
  have zO:wf1 O p.1 = 0:=by
   have:=eO p.1
   rw [zW,hG p hp,p0] at this
   have:ω * wf1 O p.1 = 0:=by grind
   rcases Rat.mul_eq_zero.mp this with q | q
   ·exact absurd q nω
   ·exact q
  have:=farZ_le rq lO (by
   by_cases o:O = []
   ·exact .inl o
   ·refine .inr (Nat.le_of_not_lt fun l=>?_)
    have zL:=rq.zero (by walk_at "o") (by walk_at "o") zW zO
    obtain ⟨⟨n0,nl,_⟩,_⟩:=rq.dvs o (by walk_at "o") (by walk_at "o")
    obtain ⟨x,hx⟩:=List.length_eq_one_iff.mp (show (lastR O rows).length = 1 by have:=List.length_pos_iff.mpr n0; walk_at "o")
    rw [hx] at zL nl
    rw [wf1_ev (by simp)] at zL
    have zL:(x:Rat) + p.1 * 0 = 0:=zL
    have nl:x ≠ 0:=nl
    exact cast_ne nl (by grind)) l1
  walk_at "o"
 ·have ne:∀ p ∈ ps,p.2 ≠ 0:=fun p hp z=>some0 ⟨p,hp,z⟩
  have zO:∀ p ∈ ps,wf1 O p.1 ≠ 0:=fun p hp y=>by
   obtain ⟨d1,d2⟩:=dprod_ne nd p.1 (lin p hp)
   have:=eO p.1
   rw [y,eW,d1,hG p hp] at this
   have:c2 * (dprodX (ps.map (·.1)) p.1 * p.2) = 0:=by grind
   rcases Rat.mul_eq_zero.mp this with q | q
   ·grind
   rcases Rat.mul_eq_zero.mp q with q | q
   ·exact d2 q
   ·exact ne p hp q
  obtain ⟨p0,ps',rfl⟩ : ∃ p0 ps',ps = p0 :: ps':=by
   cases ps with
   | nil=>simp at l1
   | cons a b=>exact ⟨a,b,rfl⟩
  have o0:O ≠ []:=fun z=>zO p0 List.mem_cons_self (by rw [z,wf1_ev (by simp)]; rfl)
  have pO:Py (wf1 O):=wf1_py (by walk_at "o")
  have bz:Bz (wf1 W) (wf1 O):=by
   have b1:=(prodX_bz (ss:=(p0 :: ps').map (·.1)) pO (fun s hs=>by
    obtain ⟨p,hp,rfl⟩:=List.mem_map.mp hs
    exact zO p hp)).sc nc1
   exact (b1.congr (fun _=>rfl) eW).symm
  obtain ⟨g,g0,hg⟩:=rq.unit o0 (by walk_at "o") (by walk_at "o") bz
  have all:=chl1_ok rq w0 (by rw [lW]; exact wz) (by walk_at "o") (by walk_at "o") oz lr
  obtain ⟨R1,R10,far⟩:=far_all _ all
  obtain ⟨R2,R20,bd⟩:=far_bound ((p0 :: ps').map (·.1))
  obtain ⟨R,hR⟩ : ∃ R,R = R1 + R2:=⟨_,rfl⟩
  have R0:0 <= R:=by grind
  have ch:=rq.ch R0 (l:=fun _=>1) (.const 1) ⟨0,by decide⟩ (a:=1) (b:=1) (g:=g) (hF:=W) (hG:=O) (hs:=scs 1 1 rows) (.inl rfl) (.inl rfl) g0 o0 (by walk_at "o") (by walk_at "o") (by walk_at "o") (by walk_at "o") (fun x=>by show ((1:Int):Rat) * _ = _; rw [show ((1:Int):Rat) = 1 from rfl]; grind) (fun x=>by show ((1:Int):Rat) * _ = _; rw [show ((1:Int):Rat) = 1 from rfl]; grind) (HsOk.scs rows 1 1 lr) (fun x=>by rw [hg]; grind)
  obtain ⟨d,hd⟩ : ∃ d:Rat -> Rat,d = fun x=>c2 / c1 * G x:=⟨_,rfl⟩
  have pd:Py d:=by rw [hd]; exact pG.sc _
  obtain ⟨qs,hqs⟩ : ∃ qs:List (Rat × Rat),qs = (p0 :: ps').map fun p=>(p.1,c2 / c1 * p.2):=⟨_,rfl⟩
  have k21:0 < c2 / c1:=by rw [Rat.lt_div_iff k1]; grind
  have q1:qs.map (·.1) = (p0 :: ps').map (·.1):=by rw [hqs,List.map_map]; rfl
  have hq:∀ q ∈ qs,-R < q.1 /\ q.1 < R /\ q.2 ≠ 0 /\ d q.1 = q.2:=fun q hq=>by
   rw [hqs] at hq
   obtain ⟨p,hp,rfl⟩:=List.mem_map.mp hq
   have:=bd p.1 (List.mem_map.mpr ⟨p,hp,rfl⟩)
   refine ⟨by show -R < p.1; grind,by show p.1 < R; grind,fun z=>?_,by rw [hd]; show c2 / c1 * G p.1 = c2 / c1 * p.2; rw [hG p hp]⟩
   rcases Rat.mul_eq_zero.mp z with y | y
   ·grind
   ·exact ne p hp y
  obtain ⟨q0,qs',hqc⟩ : ∃ q0 qs',qs = q0 :: qs':=⟨_,_,hqs⟩
  obtain ⟨e0,he0⟩ : ∃ e:GF,e = ⟨fun x=>x - q0.1,fun x=>d x - (x - q0.1) * t x,lineA q0.1 q0.2⟩:=⟨_,rfl⟩
  have hPH:∀ x,PHg (e0 :: gfs d qs') x = prodX ((p0 :: ps').map (·.1)) x:=fun x=>by
   rw [<- q1,<- PHg_gfs (d:=d),hqc,he0]
   rfl
  have hPS:∀ x,PSg (e0 :: gfs d qs') x = d x * dprodX ((p0 :: ps').map (·.1)) x - t x * prodX ((p0 :: ps').map (·.1)) x:=fun x=>by
   rw [<- hPH x,<- q1,<- PSg_gfs (d:=d),hqc,he0]
   show (d x - (x - q0.1) * t x) * PHg (gfs d qs') x + (x - q0.1) * PSg (gfs d qs') x = (d x * PHg (gfs d qs') x + (x - q0.1) * PSg (gfs d qs') x) - t x * ((x - q0.1) * PHg (gfs d qs') x)
   grind
  have wiq:∀ q ∈ qs,Wi R q.1:=fun q h=>by have:=hq q h; unfold Wi; grind
  have ok:∀ q ∈ e0 :: gfs d qs',GOk R q:=fun q h=>by
   rcases List.mem_cons.mp h with rfl | h
   ·have m:q0 ∈ qs:=by rw [hqc]; exact List.mem_cons_self
    rw [he0]
    exact line_ge R0 (wiq q0 m) (pd.sub ((Py.id.sub (.const _)).mul pt)) (by show d q0.1 - (q0.1 - q0.1) * t q0.1 = q0.2; rw [(hq q0 m).2.2.2]; grind) (hq q0 m).2.2.1
   ·obtain ⟨p,hp,rfl⟩:=List.mem_map.mp h
    have m:p ∈ qs:=by rw [hqc]; exact List.mem_cons_of_mem _ hp
    exact line_ge R0 (wiq p m) pd (hq p m).2.2.2 (hq p m).2.2.1
  have un:(e0 :: gfs d qs').Pairwise fun a b=>NotBoth R a.p b.p:=by
   have:(gfs d qs).Pairwise fun a b=>NotBoth R a.p b.p:=by
    unfold gfs
    rw [List.pairwise_map]
    rw [<- q1] at nd
    have nd:=List.pairwise_map.mp nd
    refine nd.imp fun {a b} n=>?_
    exact (Bz.line (s:=a.1) (f:=fun x=>x - b.1) (Py.id.sub (.const _)) (fun z=>n (by grind))).notBoth R0
   rw [hqc] at this
   obtain ⟨u1,u2⟩:=List.pairwise_cons.mp this
   refine List.pairwise_cons.mpr ⟨fun b hb=>?_,u2⟩
   rw [he0]
   exact u1 b hb
  have key:=ch.tarski R0 ok un (pO.lip R0) kω (fun x=>by
   rw [hPH,hPS,eW,hd]
   have:=eO x
   rw [eW] at this
   have c:c1 * (c2 / c1) = c2:=by grind
   generalize prodX ((p0 :: ps').map (·.1)) x = P at *
   generalize dprodX ((p0 :: ps').map (·.1)) x = D at *
   generalize c2 / c1 = e at *
   show ω * (wf1 O x * P) = c1 * P * (e * G x * D - t x * P)
   grind) (a:=-R) (b:=R) (by unfold Wi; grind) (by unfold Wi; grind) (by grind)
  have pa:∀ x,PAg (e0 :: gfs d qs') x = PAg (gfs d qs) x:=fun x=>by rw [hqc,he0]; rfl
  obtain ⟨a1,a2⟩:=PAg_gfs (d:=d) (R:=R) (ps:=qs) fun p hp=>⟨(hq p hp).1,(hq p hp).2.1,(hq p hp).2.2.1⟩
  rw [pa,pa,a1,a2] at key
  obtain ⟨f1,f2⟩:=far R (by grind)
  unfold chl1 at f1 f2 ⊢
  rw [if_neg o0] at f1 f2 ⊢
  have key:((chg 0 (sgs (-R) ((W :: O :: scs 1 1 rows).map wf1)):Nat):Int) + 0 = ((chg 0 (sgs R ((W :: O :: scs 1 1 rows).map wf1)):Nat):Int) + sgSum qs:=key
  unfold farZ
  rw [f1,f2]
  have sl:=(sgSum_le qs).2
  have lq:qs.length = (p0 :: ps').length:=by rw [hqs,List.length_map]
  rw [lq] at sl
  rw [show ((chg 0 (sgs (-R) ((W :: O :: scs 1 1 rows).map wf1)):Nat):Int) - ((chg 0 (sgs R ((W :: O :: scs 1 1 rows).map wf1)):Nat):Int) = sgSum qs by walk_at "o",sl]
  refine ⟨fun h p hp=>?_,fun h q hq'=>?_⟩
  ·have:=h (p.1,c2 / c1 * p.2) (by rw [hqs]; exact List.mem_map.mpr ⟨p,hp,rfl⟩)
   have this:0 < c2 / c1 * p.2:=this
   exact (Rat.mul_pos_iff_of_pos_left k21).mp this
  ·rw [hqs] at hq'
   obtain ⟨p,hp,rfl⟩:=List.mem_map.mp hq'
   exact Rat.mul_pos k21 (h p hp)
theorem Bal.nil {F D G:Rat -> Rat} {z:Int} (h:Bal F D G 0 z):z = 0:=by
 obtain ⟨W,O,rows,c1,c2,ω,t,k1,k2,kω,pt,lW,wz,eW,lO,oz,eO,rq,lr,rfl⟩:=h
 have o:O = []:=List.length_eq_zero_iff.mp (by walk_at "o")
 unfold farZ chl1
 rw [if_pos o]
 obtain ⟨w,rfl⟩:=List.length_eq_one_iff.mp lW
 show ((chg 0 [farS (-1) [w]]:Nat):Int) - ((chg 0 [farS 1 [w]]:Nat):Int) = 0
 have a:=chg_le0 (farS (-1) [w]) []
 have b:=chg_le0 (farS 1 [w]) []
 simp at a b
 walk_at "o"
theorem lin0 {w:Rat -> Rat} {p q A B:Rat} (pw:Py w) (h:∀ x,w x * (x * x + p * x + q) = A + B * x):A = 0 /\ B = 0:=by
 obtain ⟨l,e⟩:=pw
 obtain ⟨l',e',k⟩:=evL_trim l
 rcases k with rfl | k
 ·have z:∀ x,w x = 0:=fun x=>by rw [e,e']; rfl
  have h0:=h 0
  have h1:=h 1
  rw [z] at h0 h1
  exact ⟨by grind,by grind⟩
 ·exfalso
  obtain ⟨R,c,R0,c0,far⟩:=evL_far l' k
  obtain ⟨m1,m10,h1⟩:=Bdd.const (R:=0) p
  obtain ⟨m2,m20,h2⟩:=Bdd.const (R:=0) q
  obtain ⟨m3,m30,h3⟩:=Bdd.const (R:=0) A
  obtain ⟨m4,m40,h4⟩:=Bdd.const (R:=0) B
  have w0:Wi 0 0:=by unfold Wi; grind
  have h1:=h1 0 w0
  have h2:=h2 0 w0
  have h3:=h3 0 w0
  have h4:=h4 0 w0
  obtain ⟨M,hM⟩ : ∃ M,M = m1 + m2 + m3 + m4 + 1:=⟨_,rfl⟩
  have k0:0 < 4 * M / c:=by rw [Rat.lt_div_iff c0]; grind
  have kk:4 * M / c * c = 4 * M:=by grind
  obtain ⟨x,hx⟩ : ∃ x,x = R + 1 + 4 * M + 4 * M / c:=⟨_,rfl⟩
  have x0:0 < x:=by grind
  have b1:=(far x (by grind)).1
  rw [<- e',<- e] at b1
  have e1:=h x
  have px:=Rat.mul_nonneg (show 0 <= M + p by unfold Sm at h1; grind) (Rat.le_of_lt x0)
  have xx:=Rat.mul_nonneg (show 0 <= x - 4 * M by grind) (Rat.le_of_lt x0)
  have mx:=Rat.mul_nonneg (show 0 <= M by grind) (show 0 <= x - 1 by grind)
  have hF:x * x / 2 <= x * x + p * x + q:=by
   unfold Sm at h2
   grind
  have x2:=Rat.mul_pos x0 x0
  have b2:=b1.mul (show Bg (x * x / 2) (x * x + p * x + q) from .inl hF) (Rat.le_of_lt c0) (by grind)
  rw [e1] at b2
  have bx1:=Rat.mul_nonneg (show 0 <= M + B by unfold Sm at h4; grind) (Rat.le_of_lt x0)
  have bx2:=Rat.mul_nonneg (show 0 <= M - B by unfold Sm at h4; grind) (Rat.le_of_lt x0)
  have cx:=Rat.mul_pos (Rat.mul_pos c0 x0) (show 0 < x - 4 * M / c by grind)
  have cx2:c * x * (x - 4 * M / c) = c * (x * x) - x * (4 * M / c * c):=by grind
  rw [cx2,kk] at cx
  unfold Bg at b2
  unfold Sm at h3
  grind
theorem chg3 {s u:Int} (hs:s = 1 \/ s = -1) (hu:u = 1 \/ u = -1):((chg 0 [1,-s,u]:Nat):Int) - ((chg 0 [1,s,u]:Nat):Int) = 2 ↔ s = 1 /\ u = 1:=by
 rcases hs with rfl | rfl <;> rcases hu with rfl | rfl <;> decide
theorem Bal.quad {p q a b:Rat} {z:Int} (h:Bal (fun x=>x * x + p * x + q) (fun x=>2 * x + p) (fun x=>a + b * x) 2 z):z = 2 ↔ 0 < p * p - 4 * q /\ 0 < 2 * a - b * p /\ 0 < a * a - a * b * p + b * b * q:=by
 obtain ⟨W,O,rows,c1,c2,ω,t,k1,k2,kω,pt,lW,wz,eW,lO,oz,eO,rq,lr,rfl⟩:=h
 obtain ⟨w0,w1,w2,rfl⟩ : ∃ w0 w1 w2,W = [w0,w1,w2]:=by
  match W,lW with
  | [a,b,c],_=>exact ⟨a,b,c,rfl⟩
 have w2p:0 < w2:=by
  have e0:=eW 0
  have e1:=eW 1
  have e2:=eW (-1)
  rw [wf1_ev (by simp)] at e0 e1 e2
  have e0:(w0:Rat) + 0 * _ = c1 * (0 * 0 + p * 0 + q):=e0
  have e1:(w0:Rat) + 1 * ((w1:Rat) + 1 * ((w2:Rat) + 1 * 0)) = c1 * (1 * 1 + p * 1 + q):=e1
  have e2:(w0:Rat) + -1 * ((w1:Rat) + -1 * ((w2:Rat) + -1 * 0)) = c1 * (-1 * -1 + p * -1 + q):=e2
  exact Rat.intCast_pos.mp (show 0 < (w2:Rat) by grind)
 obtain ⟨r1,hr1⟩ : ∃ r1,r1 = 2 * a - b * p:=⟨_,rfl⟩
 obtain ⟨r0,hr0⟩ : ∃ r0,r0 = p * a - 2 * b * q:=⟨_,rfl⟩
 have lO20:O.length <= 20:=by walk_at "o"
 obtain ⟨o0,o1,ho⟩ : ∃ o0 o1:Rat,∀ x,wf1 O x = o0 + o1 * x:=by
  match O,lO with
  | [],_=>exact ⟨0,0,fun x=>by rw [wf1_ev (by simp)]; show (0:Rat) = _; grind⟩
  | [u],_=>exact ⟨u,0,fun x=>by rw [wf1_ev (by simp)]; show (u:Rat) + x * 0 = _; grind⟩
  | [u,v],_=>exact ⟨u,v,fun x=>by rw [wf1_ev (by simp)]; show (u:Rat) + x * ((v:Rat) + x * 0) = _; grind⟩
 obtain ⟨z1,z2⟩:=lin0 (w:=fun x=>c1 * t x - 2 * b * c2) (p:=p) (q:=q) (A:=c2 * r0 - ω * o0) (B:=c2 * r1 - ω * o1) ((pt.sc c1).sub (.const _)) fun x=>by
  have h1:=eO x
  rw [ho,eW] at h1
  rw [hr0,hr1]
  show (c1 * t x - 2 * b * c2) * (x * x + p * x + q) = _
  have h1:ω * (o0 + o1 * x) = c2 * ((2 * x + p) * (a + b * x)) - t x * (c1 * (x * x + p * x + q)):=h1
  grind
 have m0:0 < c2 / ω:=by rw [Rat.lt_div_iff kω]; grind
 have mω:ω * (c2 / ω) = c2:=by grind
 obtain ⟨μ,hμ⟩ : ∃ μ,μ = c2 / ω:=⟨_,rfl⟩
 rw [<- hμ] at m0 mω
 have ω0:ω ≠ 0:=by grind
 have can:∀ u v:Rat,c2 * u - ω * v = 0 -> v = μ * u:=fun u v h=>by
  have:ω * (v - μ * u) = 0:=by rw [<- mω] at h; grind
  rcases Rat.mul_eq_zero.mp this with y | y
  ·exact absurd y ω0
  ·grind
 have y0:=can r0 o0 z1
 have y1:=can r1 o1 z2
 have fW:∀ s:Int,farS s [w0,w1,w2] = 1:=fun s=>by
  unfold farS
  rw [if_pos (by simp)]
  exact Int.sign_eq_one_of_pos w2p
 rw [<- hr1]
 have no1:o1 = 0 -> ¬ (0 < p * p - 4 * q /\ 0 < r1 /\ 0 < a * a - a * b * p + b * b * q):=fun z h=>by
  have:=Rat.mul_pos m0 h.2.1
  grind
 match O,lO,ho,oz,rq with
 | [],_,ho,oz,rq =>
  have hz:o1 = 0:=by
   have a:=ho 0
   have b:=ho 1
   rw [wf1_ev (by simp)] at a b
   have a:(0:Rat) = o0 + o1 * 0:=a
   have b:(0:Rat) = o0 + o1 * 1:=b
   grind
  refine ⟨fun y=>?_,fun y=>absurd y (no1 hz)⟩
  have:=farZ_le rq (n:=1) (by simp) (.inl rfl) (by walk_at "o")
  walk_at "o"
 | [u],_,ho,oz,rq =>
  have hz:o1 = 0:=by
   have a:=ho 0
   have b:=ho 1
   rw [wf1_ev (by simp)] at a b
   have a:(u:Rat) + 0 * 0 = o0 + o1 * 0:=a
   have b:(u:Rat) + 1 * 0 = o0 + o1 * 1:=b
   grind
  refine ⟨fun y=>?_,fun y=>absurd y (no1 hz)⟩
  have fw:=rq.few
  have:rows = []:=List.length_eq_zero_iff.mp (by simp at fw; simpa using fw)
  subst this
  unfold farZ chl1 at y
  rw [if_neg (by simp)] at y
  have b1:=chg_le0 (farS (-1) [w0,w1,w2]) [farS (-1) [u]]
  have y:((chg 0 [farS (-1) [w0,w1,w2],farS (-1) [u]]:Nat):Int) - _ = 2:=y
  simp at b1
  walk_at "o"
 | [u,v],_,ho,oz,rq =>
  have hu:o0 = u /\ o1 = v:=by
   have a:=ho 0
   have b:=ho 1
   rw [wf1_ev (by simp)] at a b
   have a:(u:Rat) + 0 * ((v:Rat) + 0 * 0) = o0 + o1 * 0:=a
   have b:(u:Rat) + 1 * ((v:Rat) + 1 * 0) = o0 + o1 * 1:=b
   exact ⟨by grind,by grind⟩
  have v0:v ≠ 0:=oz (by simp)
  have v0':=cast_ne v0
  have r10:r1 ≠ 0:=fun z=>by rw [<- hu.2,y1,z] at v0'; grind
  have disc:∀ x0:Rat,o0 + o1 * x0 = 0 -> r1 * r1 * (x0 * x0 + p * x0 + q) = -((p * p - 4 * q) * (a * a - a * b * p + b * b * q)):=fun x0 hx=>by
   have hx:r1 * x0 = -r0:=by
    have:μ * (r0 + r1 * x0) = 0:=by grind
    rcases Rat.mul_eq_zero.mp this with y | y
    ·grind
    ·grind
   have e:r1 * r1 * (x0 * x0 + p * x0 + q) = (r1 * x0) * (r1 * x0) + p * r1 * (r1 * x0) + q * (r1 * r1):=by grind
   rw [e,hx,hr0,hr1]
   grind
  have rr:0 < r1 * r1:=by
   rcases sg_cases r1 with ⟨z,_⟩ | ⟨z,_⟩ | ⟨z,_⟩
   ·exact Rat.mul_pos z z
   ·have:=Rat.mul_pos (show 0 < -r1 by grind) (show 0 < -r1 by grind); grind
   ·exact absurd z r10
  obtain ⟨x0,hx0⟩ : ∃ x0:Rat,o0 + o1 * x0 = 0:=⟨-o0 / o1,by
   have:o1 ≠ 0:=by rw [hu.2]; exact v0'
   grind⟩
  have dx:=disc x0 hx0
  cases rq with
  | @last _ _ Q S g0 gl s0 lq e =>
   refine ⟨fun y=>?_,fun y=>?_⟩
   ·unfold farZ chl1 at y
    rw [if_neg (by simp)] at y
    have b1:=chg_le0 (farS (-1) [w0,w1,w2]) [farS (-1) [u,v]]
    have y:((chg 0 [farS (-1) [w0,w1,w2],farS (-1) [u,v]]:Nat):Int) - _ = 2:=y
    simp at b1
    walk_at "o"
   ·exfalso
    have h1:=EV_rsq (F:=[w0,w1,w2]) (G:=[u,v]) (Q:=Q) (R:=[]) (S:=S) (T:=0) (by simp at lq ⊢; walk_at "o") (fun k=>by rw [e k]; walk_at "o") x0
    have h2:EV (nzR [u,v]) x0 = o0 + o1 * x0:=ho x0
    have h3:EV (nzR [w0,w1,w2]) x0 = c1 * (x0 * x0 + p * x0 + q):=eW x0
    rw [h2,h3,hx0] at h1
    have c0:((0:Int):Rat) = 0:=rfl
    rw [c0] at h1
    have h1:(S:Rat) * (c1 * (x0 * x0 + p * x0 + q)) = 0:=by grind
    have fx:x0 * x0 + p * x0 + q = 0:=by
     rcases Rat.mul_eq_zero.mp h1 with y | y
     ·exact absurd y (cast_ne s0)
     rcases Rat.mul_eq_zero.mp y with y | y
     ·grind
     ·exact y
    rw [fx] at dx
    have:=Rat.mul_pos y.1 y.2.2
    grind
  | @more _ _ R Q T S rows g0 gl s0 t0 r0' rl lR lq e hs =>
   have fw:=hs.few
   obtain ⟨ρ,rfl⟩ : ∃ ρ,R = [ρ]:=List.length_eq_one_iff.mp (by have:=List.length_pos_iff.mpr r0'; simp at lR; walk_at "o")
   obtain rfl:rows = []:=List.length_eq_zero_iff.mp (by simp at fw; simpa using fw)
   have ρ0:ρ ≠ 0:=rl
   have h1:=EV_rsq (F:=[w0,w1,w2]) (G:=[u,v]) (Q:=Q) (R:=[ρ]) (S:=S) (T:=T) (by simp at lq ⊢; walk_at "o") e x0
   have h2:EV (nzR [u,v]) x0 = o0 + o1 * x0:=ho x0
   have h3:EV (nzR [w0,w1,w2]) x0 = c1 * (x0 * x0 + p * x0 + q):=eW x0
   have h4:EV (nzR [ρ]) x0 = (ρ:Rat):=by
    have:wf1 [ρ] x0 = (ρ:Rat) + x0 * 0:=wf1_ev (by simp) x0
    unfold wf1 at this
    rw [this]; grind
   rw [h2,h3,h4,hx0] at h1
   obtain ⟨f,hf⟩ : ∃ f,f = x0 * x0 + p * x0 + q:=⟨_,rfl⟩
   rw [<- hf] at h1 dx
   have h1:(S:Rat) * (c1 * f) = (T:Rat) * (ρ:Rat):=by grind
   obtain ⟨m,hm⟩ : ∃ m,m = -1 * T.sign * S.sign:=⟨_,rfl⟩
   have hz:farZ (chl1 [w0,w1,w2] [u,v] [([ρ],Q,T,S)]) = ((chg 0 [1,-v.sign,(m * ρ).sign]:Nat):Int) - ((chg 0 [1,v.sign,(m * ρ).sign]:Nat):Int):=by
    unfold farZ chl1
    rw [if_neg (by simp)]
    show ((chg 0 [farS (-1) [w0,w1,w2],farS (-1) [u,v],farS (-1) [(-1 * T.sign * S.sign) * ρ]]:Nat):Int) - ((chg 0 [farS 1 [w0,w1,w2],farS 1 [u,v],farS 1 [(-1 * T.sign * S.sign) * ρ]]:Nat):Int) = _
    rw [fW,fW,<- hm]
    rw [show farS (-1) [u,v] = -v.sign by unfold farS; rw [if_neg (by simp)]; show -1 * v.sign = _; walk_at "o",show farS 1 [u,v] = v.sign by unfold farS; rw [if_neg (by simp)]; show 1 * v.sign = _; walk_at "o"]
    rw [show ∀ s,farS s [m * ρ] = (m * ρ).sign from fun s=>by unfold farS; rw [if_pos (by simp)]; rfl,show ∀ s,farS s [m * ρ] = (m * ρ).sign from fun s=>by unfold farS; rw [if_pos (by simp)]; rfl]
   have m1:m = 1 \/ m = -1:=by rw [hm]; exact Pm1.next (.inl rfl) s0 t0
   have mr:m * ρ ≠ 0:=Int.mul_ne_zero (by walk_at "o") ρ0
   have sv:v.sign = 1 \/ v.sign = -1:=by rcases sign_pm v0 with ⟨z,_⟩ | ⟨z,_⟩ <;> walk_at "o"
   have sm:(m * ρ).sign = 1 \/ (m * ρ).sign = -1:=by rcases sign_pm mr with ⟨z,_⟩ | ⟨z,_⟩ <;> walk_at "o"
   rw [hz,chg3 sv sm]
   have iv:v.sign = 1 ↔ 0 < r1:=by
    rw [Int.sign_eq_one_iff_pos,<- Rat.intCast_pos,<- hu.2,y1]
    exact Rat.mul_pos_iff_of_pos_left m0
   have im:(m * ρ).sign = 1 ↔ f < 0:=by
    rw [Int.sign_eq_one_iff_pos,<- Rat.intCast_pos,Rat.intCast_mul]
    have c1':((1:Int):Rat) = 1:=rfl
    have c2':((-1:Int):Rat) = -1:=rfl
    have S0:=cast_ne s0
    have T0:=cast_ne t0
    have P0:=cast_ne ρ0
    rcases sign_pm s0 with ⟨zs,ps⟩ | ⟨zs,ps⟩ <;> rcases sign_pm t0 with ⟨zt,qt⟩ | ⟨zt,qt⟩ <;> rw [zs,zt] at hm <;> rw [hm]
    ·rw [show ((-1 * 1 * 1:Int):Rat) = -1 from rfl]
     have ps:=Rat.intCast_pos.mpr ps
     have qt:=Rat.intCast_pos.mpr qt
     refine ⟨fun h=>?_,fun h=>?_⟩
     ·have:=Rat.mul_pos qt (show 0 < -(ρ:Rat) by grind)
      refine Classical.byContradiction fun n=>?_
      have:=Rat.mul_nonneg (Rat.le_of_lt ps) (Rat.mul_nonneg (Rat.le_of_lt k1) (show 0 <= f by grind))
      grind
     ·have h9:=Rat.mul_pos ps (Rat.mul_pos k1 (show 0 < -f by grind))
      refine Classical.byContradiction fun n=>?_
      have:=Rat.mul_nonneg (Rat.le_of_lt qt) (show 0 <= (ρ:Rat) by grind)
      grind
    ·rw [show ((-1 * -1 * 1:Int):Rat) = 1 from rfl]
     have ps:=Rat.intCast_pos.mpr ps
     have qt:(T:Rat) < 0:=by have:=Rat.intCast_lt_intCast.mpr qt; exact this
     refine ⟨fun h=>?_,fun h=>?_⟩
     ·have:=Rat.mul_pos (show 0 < -(T:Rat) by grind) (show 0 < (ρ:Rat) by grind)
      refine Classical.byContradiction fun n=>?_
      have:=Rat.mul_nonneg (Rat.le_of_lt ps) (Rat.mul_nonneg (Rat.le_of_lt k1) (show 0 <= f by grind))
      grind
     ·have h9:=Rat.mul_pos ps (Rat.mul_pos k1 (show 0 < -f by grind))
      refine Classical.byContradiction fun n=>?_
      have:=Rat.mul_nonneg (show 0 <= -(T:Rat) by grind) (show 0 <= -(ρ:Rat) by grind)
      grind
    ·rw [show ((-1 * 1 * -1:Int):Rat) = 1 from rfl]
     have ps:(S:Rat) < 0:=by have:=Rat.intCast_lt_intCast.mpr ps; exact this
     have qt:=Rat.intCast_pos.mpr qt
     refine ⟨fun h=>?_,fun h=>?_⟩
     ·have:=Rat.mul_pos qt (show 0 < (ρ:Rat) by grind)
      refine Classical.byContradiction fun n=>?_
      have:=Rat.mul_nonneg (show 0 <= -(S:Rat) by grind) (Rat.mul_nonneg (Rat.le_of_lt k1) (show 0 <= f by grind))
      grind
     ·have h9:=Rat.mul_pos (show 0 < -(S:Rat) by grind) (Rat.mul_pos k1 (show 0 < -f by grind))
      refine Classical.byContradiction fun n=>?_
      have:=Rat.mul_nonneg (Rat.le_of_lt qt) (show 0 <= -(ρ:Rat) by grind)
      grind
    ·rw [show ((-1 * -1 * -1:Int):Rat) = -1 from rfl]
     have ps:(S:Rat) < 0:=by have:=Rat.intCast_lt_intCast.mpr ps; exact this
     have qt:(T:Rat) < 0:=by have:=Rat.intCast_lt_intCast.mpr qt; exact this
     refine ⟨fun h=>?_,fun h=>?_⟩
     ·have:=Rat.mul_pos (show 0 < -(T:Rat) by grind) (show 0 < -(ρ:Rat) by grind)
      refine Classical.byContradiction fun n=>?_
      have:=Rat.mul_nonneg (show 0 <= -(S:Rat) by grind) (Rat.mul_nonneg (Rat.le_of_lt k1) (show 0 <= f by grind))
      grind
     ·have h9:=Rat.mul_pos (show 0 < -(S:Rat) by grind) (Rat.mul_pos k1 (show 0 < -f by grind))
      refine Classical.byContradiction fun n=>?_
      have:=Rat.mul_nonneg (show 0 <= -(T:Rat) by grind) (show 0 <= (ρ:Rat) by grind)
      grind
   rw [iv,im]
   have four:4 * (a * a - a * b * p + b * b * q) = r1 * r1 - b * b * (p * p - 4 * q):=by rw [hr1]; grind
   generalize p * p - 4 * q = Δ at *
   generalize a * a - a * b * p + b * b * q = Pd at *
   have bb:=sq_nn b
   refine ⟨fun h=>?_,fun h=>⟨h.2.1,?_⟩⟩
   ·have h5:=Rat.mul_pos rr (show 0 < -f by grind)
    have h6:0 < Δ * Pd:=by grind
    have dp:0 < Δ:=Classical.byContradiction fun n=>by
     have h7:=Rat.mul_nonneg bb (show 0 <= -Δ by grind)
     have h8:0 < Pd:=by grind
     have:=Rat.mul_nonneg (show 0 <= -Δ by grind) (Rat.le_of_lt h8)
     grind
    exact ⟨dp,h.1,(Rat.mul_pos_iff_of_pos_left dp).mp h6⟩
   ·have h5:=Rat.mul_pos h.1 h.2.2
    refine Classical.byContradiction fun n=>?_
    have:=Rat.mul_nonneg (Rat.le_of_lt rr) (show 0 <= f by grind)
    grind
end L2
set_option maxHeartbeats 8000000
namespace M
open PySem L2
def top (i:Nat):Stmt:=PySem.Challenge.pw_momentwright_k18_flocks_known.main.body.getD i (.Pass ⟨0,0,0,0⟩)
abbrev s_is_whole:Stmt:=top 1
theorem sc_is_whole:FnScope ["thing"] ["thing"] (defScope s_is_whole):=by walk_at "a3"
abbrev s_greatest_divisor:Stmt:=top 2
theorem sc_greatest_divisor:FnScope ["one", "other"] ["one", "other"] (defScope s_greatest_divisor):=by walk_at "a3"
abbrev s_sign_of:Stmt:=top 3
theorem sc_sign_of:FnScope ["whole"] ["whole"] (defScope s_sign_of):=by walk_at "a3"
abbrev s_power:Stmt:=top 4
theorem sc_power:FnScope ["base", "many", "product", "turn"] ["base", "many"] (defScope s_power):=by walk_at "a3"
abbrev s_trimmed:Stmt:=top 5
theorem sc_trimmed:FnScope ["numbers", "zero", "many"] ["numbers", "zero"] (defScope s_trimmed):=by walk_at "a3"
abbrev s_lowered:Stmt:=top 6
theorem sc_lowered:FnScope ["wholes", "divisor", "whole"] ["wholes"] (defScope s_lowered):=by walk_at "a3"
abbrev s_wholes_multiplied:Stmt:=top 7
theorem sc_wholes_multiplied:FnScope ["one", "other", "product", "j", "former", "k", "latter"] ["one", "other"] (defScope s_wholes_multiplied):=by walk_at "a3"
abbrev s_wholes_slope:Stmt:=top 8
theorem sc_wholes_slope:FnScope ["wholes"] ["wholes"] (defScope s_wholes_slope):=by walk_at "a3"
abbrev s_wholes_parted:Stmt:=top 9
theorem sc_wholes_parted:FnScope ["one", "other", "last", "rest", "quotient", "scale", "place", "part", "k"] ["one", "other"] (defScope s_wholes_parted):=by walk_at "a3"
abbrev s_wholes_rests:Stmt:=top 10
theorem sc_wholes_rests:FnScope ["one", "other", "told", "lead", "height", "gap", "bottom", "quotient", "rest", "scale", "top", "lack"] ["one", "other"] (defScope s_wholes_rests):=by walk_at "a3"
abbrev s_is_fraction:Stmt:=top 12
theorem sc_is_fraction:FnScope ["thing", "top", "bottom"] ["thing"] (defScope s_is_fraction):=by walk_at "a3"
abbrev s_is_polynomial:Stmt:=top 15
theorem sc_is_polynomial:FnScope ["thing", "number"] ["thing"] (defScope s_is_polynomial):=by walk_at "a3"
abbrev s_cleared:Stmt:=top 16
theorem sc_cleared:FnScope ["f", "bottom", "number"] ["f"] (defScope s_cleared):=by walk_at "a3"
abbrev s_signed_chain:Stmt:=top 18
theorem sc_signed_chain:FnScope ["one", "other", "told", "former", "latter", "rest", "quotient", "top", "bottom"] ["one", "other"] (defScope s_signed_chain):=by walk_at "a3"
abbrev s_leaning_chain:Stmt:=top 19
theorem sc_leaning_chain:FnScope ["wholes", "inclines", "g", "rest", "scale"] ["wholes", "inclines", "g"] (defScope s_leaning_chain):=by walk_at "a3"
abbrev s_signs_far:Stmt:=top 20
theorem sc_signs_far:FnScope ["lists", "side"] ["lists", "side"] (defScope s_signs_far):=by walk_at "a3"
abbrev s_changes:Stmt:=top 21
theorem sc_changes:FnScope ["signs", "told", "last", "sign"] ["signs"] (defScope s_changes):=by walk_at "a3"
abbrev s_balance:Stmt:=top 22
theorem sc_balance:FnScope ["f", "g", "wholes", "lists"] ["f", "g"] (defScope s_balance):=by walk_at "a3"
abbrev s_is_flock:Stmt:=top 26
theorem sc_is_flock:FnScope ["thing", "roots", "weights", "degree"] ["thing"] (defScope s_is_flock):=by walk_at "a3"
abbrev zTcell_at:Stmt:=top 28
theorem zUcell_at:FnScope ["_law_script", "_law_k"] ["_law_script", "_law_k"] (defScope zTcell_at):=by walk_at "a3"
abbrev zTstate:Stmt:=top 29
theorem zUstate:FnScope ["_law_script", "_law_k", "_law_cell"] ["_law_script", "_law_k"] (defScope zTstate):=by walk_at "a3"
abbrev zTtake:Stmt:=top 30
theorem zUtake:FnScope ["_law_state_here", "_law_many", "_law_found", "_law_stirred"] ["_law_state_here", "_law_many"] (defScope zTtake):=by walk_at "a3"
abbrev zTdivisor:Stmt:=top 31
theorem zUdivisor:FnScope ["_law_one", "_law_other"] ["_law_one", "_law_other"] (defScope zTdivisor):=by walk_at "a3"
abbrev zTlow:Stmt:=top 32
theorem zUlow:FnScope ["_law_top", "_law_bottom", "_law_by"] ["_law_top", "_law_bottom"] (defScope zTlow):=by walk_at "a3"
abbrev zTsmall:Stmt:=top 33
theorem zUsmall:FnScope ["_law_state_here"] ["_law_state_here"] (defScope zTsmall):=by walk_at "a3"
abbrev zTabove:Stmt:=top 34
theorem zUabove:FnScope ["_law_state_here"] ["_law_state_here"] (defScope zTabove):=by walk_at "a3"
abbrev zTplus:Stmt:=top 35
theorem zUplus:FnScope ["_law_one", "_law_other"] ["_law_one", "_law_other"] (defScope zTplus):=by walk_at "a3"
abbrev zTcrowd:Stmt:=top 36
theorem zUcrowd:FnScope ["_law_state_here", "_law_most", "_law_found", "_law_spot", "_law_turn"] ["_law_state_here", "_law_most"] (defScope zTcrowd):=by walk_at "a3"
abbrev zTclean:Stmt:=top 37
theorem zUclean:FnScope ["_law_numbers", "_law_many"] ["_law_numbers"] (defScope zTclean):=by walk_at "a3"
abbrev zTtimes:Stmt:=top 38
theorem zUtimes:FnScope ["_law_one", "_law_other"] ["_law_one", "_law_other"] (defScope zTtimes):=by walk_at "a3"
abbrev zTmultiplied:Stmt:=top 39
theorem zUmultiplied:FnScope ["_law_f", "_law_g", "_law_found", "_law_i", "_law_j"] ["_law_f", "_law_g"] (defScope zTmultiplied):=by walk_at "a3"
abbrev zTsummed:Stmt:=top 40
theorem zUsummed:FnScope ["_law_f", "_law_g", "_law_by", "_law_found", "_law_place"] ["_law_f", "_law_g", "_law_by"] (defScope zTsummed):=by walk_at "a3"
abbrev zTminus:Stmt:=top 41
theorem zUminus:FnScope ["_law_one", "_law_other"] ["_law_one", "_law_other"] (defScope zTminus):=by walk_at "a3"
abbrev zTover:Stmt:=top 42
theorem zUover:FnScope ["_law_one", "_law_other"] ["_law_one", "_law_other"] (defScope zTover):=by walk_at "a3"
abbrev zTflock_of:Stmt:=top 43
theorem zUflock_of:FnScope ["_law_crowd_here", "_law_roots", "_law_weights", "_law_at", "_law_one", "_law_other", "_law_by", "_law_spot"] ["_law_crowd_here"] (defScope zTflock_of):=by walk_at "a3"
abbrev zTquadratic:Stmt:=top 44
theorem zUquadratic:FnScope ["_law_state_here"] ["_law_state_here"] (defScope zTquadratic):=by walk_at "a3"
abbrev zTquadratic_due:Stmt:=top 45
theorem zUquadratic_due:FnScope ["_law_roots", "_law_weights", "_law_q", "_law_p", "_law_a", "_law_b", "_law_both", "_law_product"] ["_law_roots", "_law_weights"] (defScope zTquadratic_due):=by walk_at "a3"
abbrev zTbent:Stmt:=top 47
theorem zUbent:FnScope ["_law_state_here", "_law_flock", "_law_roots", "_law_weights", "_law_some"] ["_law_state_here", "_law_flock"] (defScope zTbent):=by walk_at "a3"
abbrev zTtilted:Stmt:=top 48
theorem zUtilted:FnScope ["_law_state_here", "_law_crowd_here", "_law_at", "_law_weight"] ["_law_state_here", "_law_crowd_here"] (defScope zTtilted):=by walk_at "a3"
abbrev s_law:Stmt:=top 49
theorem sc_law:FnScope ["_law_script", "_law_k", "_law_state_here", "_law_roots", "_law_weights", "_law_found", "_law_due", "_law_crowd_here", "_law_flock", "_law_seven"] ["_law_script"] (defScope s_law):=by walk_at "a3"
structure Txt (K:PySem.W.Frag) (mg:Str -> Option Value):Prop where
 non:True
 i_MOST_ROOTS:∃ t,mg "MOST_ROOTS" = some (.int 6 t)
 g_ZERO:GT K mg "ZERO" [V.int (0),V.int (1)]
 g_ONE:GT K mg "ONE" [V.int (1),V.int (1)]
 b_isinstance:mg "isinstance" = none
 b_bool:mg "bool" = none
 b_int:mg "int" = none
 b_abs:mg "abs" = none
 b_range:mg "range" = none
 b_len:mg "len" = none
 b_enumerate:mg "enumerate" = none
 b_max:mg "max" = none
 b_list:mg "list" = none
 b_tuple:mg "tuple" = none
 b_min:mg "min" = none
set_option compiler.extract_closed false
local macro_rules | `(tactic| walk_at "m")=>`(tactic| try simp only [L2.start,List.map_cons,List.map_nil,List.cons_append,List.nil_append,List.replicate_succ,List.replicate_zero,List.length_cons,List.length_nil,Nat.reduceSub,Nat.reduceAdd,Nat.zero_add,cxOf_K,cxOf_noxK,tVar_m,tTest_m,tB_m,tAndV_m,tOrV_m,tNotV_m,rI_m,rI0_m,rU_m,rEq_m,rNe_m,rIxH_m,rIxU_m,rEqD_m,rNil_m,tPart_m,rSlS_m,rAppS_m,rSetS_m,tPar_m,tAug_m,iList_m,iRng1_m,rPlus_m,rMul_m,tCB_r,tCB_i])
local macro_rules | `(tactic| walk_at "d")=>`(tactic| try dsimp only [tSeq,tNever,tNext,tIfS,tRet,tRetN,tDrop,tAsg,gName,gTup,gCons,gNil,gSub,tC,tOp,tUn,tCal,tCB,tBM,tBM0,tCons,tNil,tAnd,tOr,tNot,tIf,tTupS,tComp,tYes,outV,id,tSl,tNoPart,tLstS,tDctS,cxOf_K,cxC_K,upd_same,tFor_eq,List.getElem?_cons_zero,List.getElem?_cons_succ,List.set_cons_zero,List.set_cons_succ,L2.start,Option.join,Option.bind,List.map_cons,List.map_nil,List.replicate_succ,List.replicate_zero,List.cons_append,List.nil_append,List.length_cons,List.length_nil,Nat.reduceSub,Nat.reduceAdd,Nat.zero_add,mVar,mTest,mAndV,mOrV,mNotV,mI,mI0,mU,mEq_int,mNe_int,mIxH,mIxU,mEqD,mNil,mPart,mSlS,mAppS,mSetS,mPar,mAug,mList,mRng1,mPlus_int,mPlus_cat,mMul_int,mCR,mCI,isBl_mk,isInt_mk,isRef_mk,isVar_mk,is1_mk,is2_mk,cond])
local macro_rules | `(tactic| walk_at "s")=>`(tactic| try simp only [scal_int,scal_bl,List.map_cons,List.map_nil,List.cons_append,List.nil_append,List.replicate_succ,List.replicate_zero,Option.join,Option.bind,upd_same,rIxL,rIxT,rI,rU,isBl_iff,isInt_iff,isRef_iff,isVar_iff,is1_iff,is2_iff,mEq_iff,mNe_iff,mPlus_iff,mMul_iff,gCons,gNil,rI0,rEq,rNe,rMul_int,rMul_rep,rPlus_int,rPlus_cat,rPopS,gTupH,atI_0,atI_1,atI_2,ixN_2_0,HO.lst.injEq,HO.tup.injEq,TruV_bl,TruV_int,iTup,iRng2,exists_eq_left,exists_eq_left',exists_and_left,exists_and_right,V.int.injEq,V.bl.injEq,V.ref.injEq,V.str.injEq,V.ty.injEq,List.cons.injEq,and_true,true_and,and_self,List.getElem?_cons_zero,List.getElem?_cons_succ,Option.some.injEq,List.set_cons_zero,List.set_cons_succ,reduceCtorEq,or_false,false_or,false_and,and_false,exists_false,exists_eq,exists_eq',and_assoc,List.length_cons,List.length_nil,Nat.reduceSub,Nat.reduceAdd,Nat.zero_add,Bool.not_eq_true',decide_eq_false_iff_not,decide_eq_true_eq,ask_int,ask_bool,ask_list,ask_tuple,ne_eq,not_true_eq_false,not_false_eq_true,ite_true,ite_false,if_true,if_false,Bool.false_eq_true,Bool.not_true,Bool.not_false,Bool.true_eq_false])
local macro_rules | `(tactic| walk_at "vc")=>`(tactic| (walk_at "d"; walk_at "s"; walk_at "d"; walk_at "s"; walk_at "d"; walk_at "s"))
local macro_rules | `(tactic| walk_at "vc*")=>`(tactic| (walk_at "vc"; (repeat (simp only [*]; walk_at "vc"))))
section
variable {P:Program} {w:World} {K:PySem.W.Frag} {mg:Str -> Option Value} {base:Heap} {f:Addr} {fd:FuncData}
def sp_greatest_divisor (K:PySem.W.Frag):Sp:=fun vs H Q _=>∃ a b:Int,vs = [.int a,.int b] /\ Q (.int (Int.gcd a b)) H
theorem ok_greatest_divisor (F:Fun K "greatest_divisor" "greatest_divisor" s_greatest_divisor f fd) (T:Txt K mg):FnOk P w K mg base CX0 1 f fd ["one", "other"] (sp_greatest_divisor K):=by
 have scN:=sc_greatest_divisor.nd
 refine F.okQ sc_greatest_divisor (fun vs H Q E h=>?_) (fun cdv A outer s H vs Q E hr h=>?_)
 ·obtain ⟨a,b,rfl,_⟩:=h
  rfl
 ·obtain ⟨a,b,rfl,h⟩:=h
  refine ⟨_,(qss_cons (qs_par (i:=0) (j:=1) rfl scN rfl rfl (by decide) rfl rfl (qa_cons (qe_callB call_abs (by rfl) T.b_abs bt_abs (qa_cons (qv 0) qa_nil)) (qa_cons (qe_callB call_abs (by rfl) T.b_abs bt_abs (qa_cons (qv 1) qa_nil)) qa_nil)) rfl)
   (qss_cons (qs_while PassesOwn.never (qt_cmpR op_ne (qv 1) qe_int (nomark _)) (qss_one (qs_par (i:=0) (j:=1) rfl scN rfl rfl (by decide) rfl rfl (qa_cons (qv 1) (qa_cons (qe_op op_modX (qv 0) (qv 1)) qa_nil)) rfl)))
   (qss_one (qs_ret (qv 0))))),?_⟩
  walk_at "m"
  walk_at "vc"
  refine ⟨fun m σ H'=>H' = H /\ ∃ x y:Int,σ = [some (.int x),some (.int y)] /\ Int.gcd x y = Int.gcd a b /\ 0 <= x /\ 0 <= y /\ m = y.natAbs,⟨_,rfl,_,_,rfl,?_,?_,?_,rfl⟩,?_⟩
  ·split <;> split <;> simp
  ·split <;> walk_at "o"
  ·split <;> walk_at "o"
  ·rintro m σ H' ⟨rfl,x,y,rfl,hg,hx,hy,rfl⟩
   walk_at "vc"
   refine ite2 (fun hy0=>?_) (fun hy0=>?_)
   ·refine ⟨_,fun σ' H' h=>h,?_⟩
    walk_at "vc"
    exact ⟨hy0,_,fmod_lt x hy0,by rw [gcd_fmod,hg],hy,Int.fmod_nonneg_of_pos x (by walk_at "o"),rfl⟩
   ·walk_at "vc"
    have e:((Int.gcd a b:Nat):Int) = x:=by
     rw [<- hg,show y = 0 by walk_at "o"]
     simp
     walk_at "o"
    rw [<- e]
    exact h
def sp_cleared (K:PySem.W.Frag):Sp:=fun vs H Q _=>∃ (a:Addr) (qs:List (Int × Int)) (B:Nat),vs = [.ref a] /\ LsAt (vw K H) a qs /\ qs.length <= 14 /\ B <= 4000000 /\ (∀ q ∈ qs,Fq q /\ Bq B q) /\
 ∀ p b H' (D:Int) (ns:List Int),Same (vw K H) (vw K H') -> vw K H' p = some (.tup [.ref b,.int D]) -> vw K H' b = some (.lst (ns.map V.int)) -> vw K H b = none -> 0 < D -> Bt (1 + qs.length * B) D -> ns.length = qs.length ->
  (∀ (i:Nat) (n:Int) (q:Int × Int),ns[i]? = some n -> qs[i]? = some q -> (n:Rat) = wv q * (D:Rat) /\ Bt (1 + qs.length * B + B) n) -> (∀ E:Int,(∀ q ∈ qs,q.2 ∣ E) -> D ∣ E) -> Q (.ref p) H'
theorem ok_cleared (F:Fun K "cleared" "cleared" s_cleared f fd) (T:Txt K mg) (N_:Seer P base) (C_greatest_divisor:Cal P w K mg base "greatest_divisor" ["one", "other"] 1 (sp_greatest_divisor K)):FnOk P w K mg base CX0 2 f fd ["f"] (sp_cleared K):=by
 have scN:=sc_cleared.nd
 refine F.okQ sc_cleared (fun vs H Q E h=>?_) (fun cdv A outer s H vs Q E hr h=>?_)
 ·obtain ⟨a,_,_,rfl,_⟩:=h
  rfl
 ·obtain ⟨a,qs,B,rfl,ha,hql,hB,hq,h⟩:=h
  refine ⟨_,(qss_cons (qs_set (i:=1) scN rfl (by walk_at "a1") qe_int)
   (qss_cons (qs_for PassesOwn.never rfl (qi_list (qv 0)) (qg_name (i:=2) scN rfl (by walk_at "a1")) (qss_one (qs_aug (i:=1) scN rfl (by walk_at "a1") (qe_op (op_fdivP N_ hr rfl rfl rfl) (qe_ix ix_u (qv 2) qe_int (fun _ _=>rfl)) (qe_cal C_greatest_divisor (hr.mono (by walk_at "a2")) rfl (qa_cons (qv 1) (qa_cons (qe_ix ix_u (qv 2) qe_int (fun _ _=>rfl)) qa_nil)))) ip_mulX)))
   (qss_one (qs_ret (qe_tupS (qa_cons (qe_comp (own:=["top", "own"]) (outs:=["bottom"]) (ixs:=[1]) rfl (qi_list (qv 0)) rfl ⟨rfl,rfl,rfl,⟨rfl,trivial⟩,rfl,⟨⟨rfl,rfl,rfl,_,rfl⟩,trivial⟩⟩ (fun _ _ _ _=>⟨(show QG _ _ (gTupH K 2 _) from qg_tupH (n:=2) rfl (qgs_cons (qg_name (i:=0) (show (["top", "own", "bottom"]:List Str).Nodup by decide +kernel) rfl (by walk_at "a1")) (qgs_cons (qg_name (i:=1) (show (["top", "own", "bottom"]:List Str).Nodup by decide +kernel) rfl (by walk_at "a1")) qgs_nil))),qf_nil,(qe_op (show OpR _ _ (rMul K) from op_Mul) (qv 0) (qe_op (op_fdivR N_ hr rfl rfl rfl rfl rfl) (qv 2) (qv 1)))⟩)) (qa_cons (qv 1) qa_nil))))))),?_⟩
  walk_at "m"
  walk_at "vc"
  obtain ⟨xs,hxs,rxs⟩:=id ha
  have hlx:xs.length = qs.length:=by rw [rxs.length,List.length_map]
  have hLB:∀ i,i <= qs.length -> i * B <= 56000000:=fun i hi=>Nat.le_trans (Nat.mul_le_mul (Nat.le_trans hi hql) hB) (by decide)
  refine ⟨⟨xs,.of (vw_lst hxs)⟩,?_⟩
  obtain ⟨Pv,hPv⟩ : ∃ Pv:Nat -> St -> Hp -> Prop,∀ i σ H',Pv i σ H' ↔ H' = H /\ ∃ b y,σ = [some (.ref a),some (.int b),y] /\ 0 < b /\ Bt (1 + i * B) b /\ (∀ q ∈ qs.take i,q.2 ∣ b) /\ ∀ E:Int,(∀ q ∈ qs.take i,q.2 ∣ E) -> b ∣ E:=⟨_,fun _ _ _=>Iff.rfl⟩
  refine for_items (its:=xs) Pv (fun i σ H' _ p=>?_) ((hPv _ _ _).mpr ⟨rfl,_,_,rfl,by decide,by rw [Nat.zero_mul]; decide,(by simp),fun E _=>Int.one_dvd E⟩) (fun i x σ H1 hi hx pv=>?_) (fun σ H1 pv=>?_)
  ·obtain ⟨rfl,_⟩:=(hPv _ _ _).mp p
   exact items_list hxs
  ·obtain ⟨rfl,b,y,rfl,hb,bb,hd,hm⟩:=(hPv _ _ _).mp pv
   have hi':i < qs.length:=by walk_at "o"
   obtain ⟨d,e,r⟩:=rxs.get hx
   rw [List.getElem?_map,List.getElem?_eq_getElem hi'] at e
   cases e
   obtain ⟨p,rfl,hp⟩:=r.fr_at
   obtain ⟨fq,bq⟩:=hq qs[i] (List.getElem_mem hi')
   obtain ⟨l1,l2,l3,l4,l5⟩:=lcm_step hb fq.1
   walk_at "vc"
   simp only [sp_greatest_divisor]
   walk_at "vc"
   refine ⟨_,hp,_,atI_1,_,hp,_,atI_1,_,rfl,?_⟩
   walk_at "vc"
   have hgb:Bt B (Int.gcd b qs[i].2:Int):=bq.2.le (by walk_at "o") l5
   have hcb:Bt B (qs[i].2.fdiv (Int.gcd b qs[i].2:Int)):=bq.2.le (by walk_at "o") l2
   have:=hLB i (by walk_at "o")
   refine ⟨l4,mulOk bb hcb (by walk_at "o"),(hPv _ _ _).mpr ⟨rfl,_,_,rfl,Int.mul_pos hb l1,(bb.mul hcb).mono (by rw [Nat.add_mul]; walk_at "o"),fun q hq'=>?_,fun E hE=>?_⟩⟩
   ·rw [List.take_add_one,List.getElem?_eq_getElem hi'] at hq'
    rcases List.mem_append.mp hq' with z | z
    ·exact Int.dvd_trans (hd q z) (Int.dvd_mul_right _ _)
    ·cases List.mem_singleton.mp z
     exact l3
   ·rw [List.take_add_one,List.getElem?_eq_getElem hi'] at hE
    exact lcm_min hb fq.1 (hm E fun q z=>hE q (List.mem_append.mpr (.inl z))) (hE _ (List.mem_append.mpr (.inr (List.mem_singleton.mpr rfl))))
  ·obtain ⟨rfl,D,y,rfl,hD,bD,hd,hmin⟩:=(hPv _ _ _).mp pv
   rw [hlx] at bD hd hmin
   rw [List.take_length] at hd hmin
   have hLBq:=hLB qs.length (Nat.le_refl _)
   walk_at "vc"
   refine ⟨⟨xs,.of (vw_lst hxs)⟩,fun c H2 hc S2 h2=>?_⟩
   refine comp_pairs (its:=xs) (ps:=qs.map fun q=>(V.int q.1,V.int q.2)) (fun i ys H'=>Same (vw K H1) (vw K H') /\ ys = (qs.take i).map fun q=>V.int (q.1 * D.fdiv q.2)) (by rw [List.length_map]; exact hlx) (fun i ys H' _ _ p=>⟨items_list (p.1 _ _ hxs),fun j u v e=>?_⟩) h2 ⟨S2,rfl⟩ (fun i u v ys H' hi huv h' p=>?_) (fun ys H' h' p=>?_)
   ·rw [List.getElem?_map] at e
    cases e2:qs[j]? with
    | none=>rw [e2] at e; cases e
    | some q =>
     rw [e2] at e
     cases e
     obtain ⟨x,e3,r⟩:=rxs.at (i:=j) (d:=fr q) (by rw [List.getElem?_map,e2]; rfl)
     obtain ⟨p2,rfl,hp2⟩:=r.fr_at
     exact ⟨p2,e3,p.1 _ _ hp2⟩
   ·obtain ⟨S',rfl⟩:=p
    rw [List.length_map] at hi
    rw [List.getElem?_map,List.getElem?_eq_getElem hi] at huv
    cases huv
    obtain ⟨fq,bq⟩:=hq qs[i] (List.getElem_mem hi)
    obtain ⟨c1,c2,c3⟩:=clear_at fq (hd qs[i] (List.getElem_mem hi)) hD bD bq.1
    walk_at "vc"
    refine ⟨(show CNz _ _ from fun z=>by have:=fq.1; walk_at "o"),mulOk bq.1 c3 (by walk_at "o"),.mk2 h' ?_ fun H5 B5 h5=>⟨fun b o e=>B5 _ _ (ne_of_none e hc) (S' _ _ e),?_⟩⟩
    ·rw [List.length_map,List.length_take]
     have:1000 <= sizeLine:=by decide
     walk_at "o"
    ·rw [List.take_add_one,List.getElem?_eq_getElem hi,List.map_append]
     rfl
   ·obtain ⟨S',rfl⟩:=p
    rw [List.length_map,List.take_length] at h'
    walk_at "vc"
    refine ⟨by decide,fun p5 H5 hp5 S5 h5=>h p5 c H5 D (qs.map fun q=>q.1 * D.fdiv q.2) (S'.trans S5) h5 (by rw [List.map_map]; exact S5 _ _ h') hc hD bD (by rw [List.length_map]) (fun i n q e1 e2=>?_) hmin⟩
    rw [List.getElem?_map,e2] at e1
    cases e1
    have hm:=List.mem_of_getElem? e2
    obtain ⟨fq,bq⟩:=hq q hm
    obtain ⟨c1,c2,c3⟩:=clear_at fq (hd q hm) hD bD bq.1
    exact ⟨c1,c2⟩
def spZ_trimmed (K:PySem.W.Frag):Sp:=fun vs H Q _=>∃ (a:Addr) (ns:List Int),vs = [.ref a,.int 0] /\ vw K H a = some (.lst (ns.map V.int)) /\
 ∀ b H' (ms:List Int),Same (vw K H) (vw K H') -> vw K H' b = some (.lst (ms.map V.int)) -> vw K H b = none -> (∀ k,nz ms k = nz ns k) -> ms.length <= ns.length -> (ms.length ≠ 0 -> nz ms (ms.length - 1) ≠ 0) -> Q (.ref b) H'
def sp_trimmed (K:PySem.W.Frag):Sp:=fun vs H Q E=>(∃ (a z:Addr) (qs:List (Int × Int)),vs = [.ref a,.ref z] /\ LsAt (vw K H) a qs /\ vw K H z = some (.tup [.int 0,.int 1]) /\ (∀ q ∈ qs,Fq q) /\
 ∀ b H' (rs:List (Int × Int)),Same (vw K H) (vw K H') -> LsAt (vw K H') b rs -> vw K H b = none -> PolyOk rs -> (∀ k,cf rs k = cf qs k) -> rs.length <= qs.length -> (∀ q ∈ rs,q ∈ qs) -> Q (.ref b) H') \/ spZ_trimmed K vs H Q E
theorem ok_trimmed (F:Fun K "trimmed" "trimmed" s_trimmed f fd) (T:Txt K mg):FnOk P w K mg base CX0 1 f fd ["numbers", "zero"] (sp_trimmed K):=by
 have scN:=sc_trimmed.nd
 refine F.okQ sc_trimmed (fun vs H Q E h=>?_) (fun cdv A outer s H vs Q E hr h=>?_)
 ·rcases h with ⟨a,_,_,rfl,_⟩ | ⟨a,_,rfl,_⟩ <;> rfl
 rcases h with ⟨a,z,qs,rfl,ha,hz,hF,h⟩ | ⟨a,ns,rfl,ha,h⟩
 ·skip
  refine ⟨_,(qss_cons (qs_set (i:=2) scN rfl (by walk_at "a1") (qe_callB call_lenH (by rfl) T.b_len bt_len (qa_cons (qv 0) qa_nil)))
   (qss_cons (qs_while PassesOwn.never (QW.pt (qw_and (qt_cmpR op_gt (qv 2) qe_int (nomark _)) (qw_and1 (qt_cmpR (op_eqD hr.u64) (qe_ix ix_h (qv 0) (qe_op op_sub (qv 2) qe_int) (fun _ _=>rfl)) (qv 1) (nomark _))))) (qss_one (qs_aug (i:=2) scN rfl (by walk_at "a1") qe_int ip_sub)))
   (qss_one (qs_ret (qe_slice sl_listS (qv 0) qo_none (qo_some (qv 2))))))),?_⟩
  walk_at "m"
  walk_at "vc"
  refine ⟨_,ha.len,fun m σ H'=>H' = H /\ m <= qs.length /\ (∀ q ∈ qs.drop m,q.1 = 0) /\ σ = [some (.ref a),some (.ref z),some (.int m)],⟨_,rfl,Nat.le_refl _,by simp,rfl⟩,?_⟩
  rintro k σ H' ⟨rfl,hk,hdr,rfl⟩
  obtain ⟨xs,hax,rx⟩:=ha
  have hlx:xs.length = qs.length:=by rw [rx.length,List.length_map]
  have fin:(∀ q,(qs.take k).getLast? = some q -> q.1 ≠ 0) -> Nw K H' (HO.lst (cutV xs none (some (k:Int)))) Q:=fun hq p H2 hp S2 h2=>by
   rw [cut_to (by walk_at "o")] at h2
   refine h p H2 (qs.take k) S2 ⟨_,h2,?_⟩ hp ⟨fun q hq'=>hF q (List.mem_of_mem_take hq'),hq⟩ (cf_take hF hdr) (by rw [List.length_take]; walk_at "o") fun q hq'=>List.mem_of_mem_take hq'
   rw [List.map_take]
   exact (rx.take k).same S2
  walk_at "vc"
  refine ite2 (fun h0=>?_) (fun h0=>?_)
  ·have hk1:k - 1 < qs.length:=by walk_at "o"
   obtain ⟨x,hx,r⟩:=rx.at (i:=k - 1) (d:=fr qs[k - 1]) (by rw [List.getElem?_map,List.getElem?_eq_getElem hk1]; rfl)
   have e1:((k:Int) - 1) = ((k - 1:Nat):Int):=by walk_at "o"
   have fq:=hF qs[k - 1] (List.getElem_mem hk1)
   refine ⟨_,hax,_,by rw [e1]; exact atI_nat hx,_,r,fr (0,1),rep_pair hz,cmp_fr _,cmp_fr _,?_⟩
   rw [peq_fr]
   refine ite2 (fun hq=>?_) (fun hq=>?_)
   ·have hq0:qs[k - 1].1 = 0:=(Fq_zero fq).mp (of_decide_eq_true hq)
    refine ⟨_,fun σ' H'' z=>z,?_⟩
    refine ⟨_,_,rfl,rfl,k - 1,by walk_at "o",rfl,by walk_at "o",fun q' hq'=>?_,by rw [<- e1]⟩
    rw [List.drop_eq_getElem_cons hk1,show k - 1 + 1 = k by walk_at "o"] at hq'
    rcases List.mem_cons.mp hq' with z | z
    ·rw [z]
     exact hq0
    ·exact hdr q' z
   ·refine ⟨_,hax,fin fun q hq2=>?_⟩
    have:(qs.take k).getLast? = some qs[k - 1]:=by
     rw [List.getLast?_eq_getElem?,List.length_take,List.getElem?_take]
     rw [if_pos (by walk_at "o"),show min k qs.length - 1 = k - 1 by walk_at "o",List.getElem?_eq_getElem hk1]
    rw [this] at hq2
    cases hq2
    exact fun e=>hq (decide_eq_true ((Fq_zero fq).mpr e))
  ·refine ⟨_,hax,fin fun q hq=>?_⟩
   rw [show k = 0 by walk_at "o"] at hq
   cases hq
 ·refine ⟨_,(qss_cons (qs_set (i:=2) scN rfl (by walk_at "a1") (qe_callB call_lenH (by rfl) T.b_len bt_len (qa_cons (qv 0) qa_nil)))
   (qss_cons (qs_while PassesOwn.never (QW.pt (qw_and (qt_cmpR op_gt (qv 2) qe_int (nomark _)) (qw_and1 (qt_cmpR (op_eqD hr.u64) (qe_ix ix_h (qv 0) (qe_op op_sub (qv 2) qe_int) (fun _ _=>rfl)) (qv 1) (nomark _))))) (qss_one (qs_aug (i:=2) scN rfl (by walk_at "a1") qe_int ip_sub)))
   (qss_one (qs_ret (qe_slice sl_listS (qv 0) qo_none (qo_some (qv 2))))))),?_⟩
  walk_at "m"
  walk_at "vc"
  have hln:lenH (vw K H) a = some ns.length:=by simp only [lenH,ha,List.length_map]
  refine ⟨_,hln,fun m σ H'=>H' = H /\ m <= ns.length /\ (∀ q ∈ ns.drop m,q = 0) /\ σ = [some (.ref a),some (.int 0),some (.int m)],⟨_,rfl,Nat.le_refl _,by simp,rfl⟩,?_⟩
  rintro k σ H' ⟨rfl,hk,hdr,rfl⟩
  have fin:(k ≠ 0 -> nz ns (k - 1) ≠ 0) -> Nw K H' (HO.lst (cutV (ns.map V.int) none (some (k:Int)))) Q:=fun hz p H2 hp S2 h2=>by
   rw [cut_to (by simpa using hk),<- List.map_take] at h2
   exact h p H2 (ns.take k) S2 h2 hp (nz_take hdr) (by rw [List.length_take]; walk_at "o") (by rw [List.length_take,Nat.min_eq_left hk,nz_take hdr]; exact hz)
  walk_at "vc"
  refine ite2 (fun h0=>?_) (fun h0=>?_)
  ·have hk1:k - 1 < ns.length:=by walk_at "o"
   have e1:((k:Int) - 1) = ((k - 1:Nat):Int):=by walk_at "o"
   have hx:(ns.map V.int)[k - 1]? = some (V.int ns[k - 1]):=by rw [List.getElem?_map,List.getElem?_eq_getElem hk1]; rfl
   refine ⟨_,ha,_,by rw [e1]; exact atI_nat hx,_,.mk_int _,.int 0,.mk_int _,cmp_int _,cmp_int _,?_⟩
   rw [peq_int]
   refine ite2 (fun hq=>?_) (fun hq=>?_)
   ·have hq0:ns[k - 1] = 0:=of_decide_eq_true hq
    refine ⟨_,fun σ' H'' z=>z,?_⟩
    refine ⟨_,_,rfl,rfl,k - 1,by walk_at "o",rfl,by walk_at "o",fun q' hq'=>?_,by rw [<- e1]⟩
    rw [List.drop_eq_getElem_cons hk1,show k - 1 + 1 = k by walk_at "o"] at hq'
    rcases List.mem_cons.mp hq' with z | z
    ·rw [z]
     exact hq0
    ·exact hdr q' z
   ·exact ⟨_,ha,fin fun _=>by rw [nz_get (List.getElem?_eq_getElem hk1)]; exact fun e=>hq (decide_eq_true e)⟩
  ·exact ⟨_,ha,fin fun z=>by walk_at "o"⟩
def sp_wholes_parted (K:PySem.W.Frag):Sp:=fun vs H Q _=>∃ (a b:Addr) (ms ns:List Int) (m c:Nat),vs = [.ref a,.ref b] /\ vw K H a = some (.lst (ms.map V.int)) /\ vw K H b = some (.lst (ns.map V.int)) /\ 0 < ns.length /\ nz ns (ns.length - 1) ≠ 0 /\ ms.length <= 14 /\ ns.length <= 9 /\ m <= 40000000 /\ c <= 20000 /\ (∀ x ∈ ms,Bt m x) /\ (∀ x ∈ ns,Bt c x) /\
 ∀ (p qa ra:Addr) (S:Int) (qs rs:List Int) (H':Hp),Same (vw K H) (vw K H') -> vw K H' p = some (.tup [.ref qa,.ref ra,.int S]) -> vw K H' qa = some (.lst (qs.map V.int)) -> vw K H' ra = some (.lst (rs.map V.int)) -> vw K H ra = none -> qs.length = ms.length + 1 - ns.length -> rs.length < ns.length -> (∃ e,e <= ms.length + 1 - ns.length /\ S = nz ns (ns.length - 1) ^ e) -> (Exq ms ns -> S = 1) -> Bt 300000 S -> (∀ x ∈ qs,Bt (m + 400000) x) -> (∀ x ∈ rs,Bt (m + 400000) x) -> (rs.length ≠ 0 -> nz rs (rs.length - 1) ≠ 0) -> (∀ k,S * nz ms k = pz (nz qs) (nz ns) qs.length k + nz rs k) -> (∀ x ∈ rs,Bt (m + (c + 1) * (ms.length + 1 - ns.length)) x) -> Q (.ref p) H'
theorem ok_wholes_parted (F:Fun K "wholes_parted" "wholes_parted" s_wholes_parted f fd) (T:Txt K mg) (N_:Seer P base) (C_trimmed:Cal P w K mg base "trimmed" ["numbers", "zero"] 1 (sp_trimmed K)):FnOk P w K mg base CX0 2 f fd ["one", "other"] (sp_wholes_parted K):=by
 have scN:=sc_wholes_parted.nd
 refine F.okQ sc_wholes_parted (fun vs H Q E h=>?_) (fun cdv A outer s H vs Q E hr h=>?_)
 ·obtain ⟨a,_,_,_,_,_,rfl,_⟩:=h
  rfl
 ·obtain ⟨a,b,ms,ns,m,c,rfl,ha,hb,ln0,hL,lm,ln,hm,hc,bm,bn,h⟩:=h
  refine ⟨_,(qss_cons (qs_set (i:=2) scN rfl (by walk_at "a1") (qe_ix ix_h (qv 1) (qe_un un_neg qe_int) (fun _ _=>rfl)))
   (qss_cons (qs_set (i:=3) scN rfl (by walk_at "a1") (qe_callTy call_listS (by rfl) T.b_list bt_list (qa_cons (qv 0) qa_nil)))
   (qss_cons (qs_set (i:=4) scN rfl (by walk_at "a1") (qe_op op_Mul (qe_lstS (qa_cons qe_int qa_nil)) (qe_callB (call_max2 rfl) (by rfl) T.b_max bt_max (qa_cons qe_int (qa_cons (qe_op op_Plus (qe_op op_sub (qe_callB call_lenH (by rfl) T.b_len bt_len (qa_cons (qv 0) qa_nil)) (qe_callB call_lenH (by rfl) T.b_len bt_len (qa_cons (qv 1) qa_nil))) qe_int) qa_nil)))))
   (qss_cons (qs_set (i:=5) scN rfl (by walk_at "a1") qe_int)
   (qss_cons (qs_for PassesOwn.never rfl (qi_range3 rfl T.b_range (qa_cons (qe_op op_sub (qe_callB call_lenH (by rfl) T.b_len bt_len (qa_cons (qv 0) qa_nil)) (qe_callB call_lenH (by rfl) T.b_len bt_len (qa_cons (qv 1) qa_nil))) (qa_cons (qe_un un_neg qe_int) (qa_cons (qe_un un_neg qe_int) qa_nil)))) (qg_name (i:=6) scN rfl (by walk_at "a1")) (qss_cons (qs_set (i:=7) scN rfl (by walk_at "a1") (qe_bm0 PySem.F.plainAttrs_list PySem.F.slot_list_pop PySem.F.type_list_pop mt_popS (qv 3)))
   (qss_cons (qs_if (qt_cmpR op_eq (qe_op op_modX (qv 7) (qv 2)) qe_int (nomark _)) (qss_one (qs_aug (i:=7) scN rfl (by walk_at "a1") (qv 2) (ip_fdivP N_ hr rfl rfl rfl))) (qss_cons (qs_aug (i:=5) scN rfl (by walk_at "a1") (qv 2) ip_mulX)
   (qss_cons (qs_setC (i:=4) (own:=["whole"]) (outs:=["last"]) (ixs:=[2]) scN rfl (by walk_at "a1") rfl (qi_list (qv 4)) rfl ⟨rfl,rfl,rfl,⟨rfl,trivial⟩,rfl,⟨⟨rfl,rfl,rfl,_,rfl⟩,trivial⟩⟩ (fun _ _ _ _=>⟨(qg_name (i:=0) (show (["whole", "last"]:List Str).Nodup by decide +kernel) rfl (by walk_at "a1")),qf_nil,(qe_op (show OpR _ _ (rMul K) from op_Mul) (qv 1) (qv 0))⟩))
   (qss_one (qs_setC (i:=3) (own:=["whole"]) (outs:=["last"]) (ixs:=[2]) scN rfl (by walk_at "a1") rfl (qi_list (qv 3)) rfl ⟨rfl,rfl,rfl,⟨rfl,trivial⟩,rfl,⟨⟨rfl,rfl,rfl,_,rfl⟩,trivial⟩⟩ (fun _ _ _ _=>⟨(qg_name (i:=0) (show (["whole", "last"]:List Str).Nodup by decide +kernel) rfl (by walk_at "a1")),qf_nil,(qe_op (show OpR _ _ (rMul K) from op_Mul) (qv 1) (qv 0))⟩))))))
   (qss_cons (qs_asg (qv 7) (qg_sub (qv 4) (qv 6) set_listS))
   (qss_one (qs_for PassesOwn.never rfl (qi_range1 rfl T.b_range (qa_cons (qe_op op_sub (qe_callB call_lenH (by rfl) T.b_len bt_len (qa_cons (qv 1) qa_nil)) qe_int) qa_nil)) (qg_name (i:=8) scN rfl (by walk_at "a1")) (qss_one (qs_augS (qv 3) (qe_op op_Plus (qv 6) (qv 8)) get_listH (qe_op op_Mul (qv 7) (qe_ix ix_h (qv 1) (qv 8) (fun _ _=>rfl))) ip_sub set_listS))))))))
   (qss_one (qs_ret (qe_tupS (qa_cons (qv 4) (qa_cons (qe_cal C_trimmed (hr.mono (by walk_at "a2")) rfl (qa_cons (qv 3) (qa_cons qe_int qa_nil))) (qa_cons (qv 5) qa_nil))))))))))),?_⟩
  walk_at "m"
  skip
  obtain ⟨L,hLd⟩ : ∃ L,L = nz ns (ns.length - 1):=⟨_,rfl⟩
  have hgl:ns.length - 1 < ns.length:=by walk_at "o"
  have nl:ns[ns.length - 1] = L:=by rw [hLd,nz_get (List.getElem?_eq_getElem hgl)]
  have bL:Bt c L:=nl ▸ bn _ (List.getElem_mem hgl)
  rw [<- hLd] at hL
  have xl:(ns.map V.int).getLast? = some (.int L):=by
   rw [List.getLast?_eq_getElem?,List.length_map,List.getElem?_map,List.getElem?_eq_getElem hgl,nl]
   rfl
  refine tSeq.gen fun N1 hN1=>?_
  walk_at "vc"
  refine ⟨_,hb,_,atI_end xl,hN1 _ _ ?_⟩
  refine tSeq.gen fun N2 hN2=>?_
  walk_at "vc"
  refine ⟨_,ha,fun r1 H1 hr1 S1 h1=>hN2 _ _ ?_⟩
  refine tSeq.gen fun N3 hN3=>?_
  walk_at "vc"
  have lena:∀ {H':Hp},Same (vw K H) (vw K H') -> lenH (vw K H') a = some ms.length:=fun S=>by simp only [lenH,S _ _ ha,List.length_map]
  have lenb:∀ {H':Hp},Same (vw K H) (vw K H') -> lenH (vw K H') b = some ns.length:=fun S=>by simp only [lenH,S _ _ hb,List.length_map]
  refine ⟨by decide,fun p2 H2 hp2 S2 h2=>?_⟩
  have S02:=S1.trans S2
  refine ⟨_,lena S02,_,lenb S02,?_⟩
  obtain ⟨n,hn,hnn⟩ : ∃ n:Nat,(if (ms.length:Int) - (ns.length:Int) + 1 > 0 then (ms.length:Int) - (ns.length:Int) + 1 else 0) = (n:Int) /\ n = ms.length + 1 - ns.length:=by
   refine ⟨ms.length + 1 - ns.length,?_,rfl⟩
   split <;> walk_at "o"
  rw [hn,rMul_rep]
  refine ⟨_,h2,by walk_at "o",by walk_at "o",?_,fun q1 H3 hq1 S3 h3=>hN3 _ _ ?_⟩
  ·have:1000 <= sizeLine:=by decide
   simp
   walk_at "o"
  rw [show ((n:Nat):Int).toNat = n by walk_at "o",rep_flat] at h3
  have S03:=S02.trans S3
  refine tSeq.gen fun N4 hN4=>?_
  walk_at "vc"
  refine hN4 _ _ ?_
  refine tSeq.gen fun N5 hN5=>?_
  walk_at "vc"
  simp only [iRng3]
  walk_at "vc"
  refine ⟨_,lena S03,_,lenb S03,by walk_at "o",by walk_at "o",by decide,by decide,?_⟩
  rw [show ((ms.length:Int) - (ns.length:Int) - -1).toNat = n by walk_at "o"]
  have nr1:vw K H r1 = none:=hr1
  have nq1:vw K H q1 = none:=S02.none hq1
  obtain ⟨Pv,hPv⟩ : ∃ Pv:Nat -> St -> Hp -> Prop,∀ i σ H',Pv i σ H' ↔ ∃ (ra qa:Addr) (rs qs:List Int) (S:Int) (o6 o7 o8:Option V),σ = [some (.ref a),some (.ref b),some (.int L),some (.ref ra),some (.ref qa),some (.int S),o6,o7,o8] /\ Same (vw K H) (vw K H') /\
    vw K H' ra = some (.lst (rs.map V.int)) /\ vw K H' qa = some (.lst (qs.map V.int)) /\ vw K H ra = none /\ vw K H qa = none /\ ra ≠ qa /\ rs.length + i = ms.length /\ qs.length = n /\ (∃ e,e <= i /\ S = L ^ e /\ (Exq ms ns -> S = 1)) /\ Bt (1 + c * i) S /\ (∀ x ∈ rs,Bt (m + (c + 1) * i) x) /\ (∀ x ∈ qs,Bt (m + (c + 1) * i) x) /\
    (∀ k,k + i + ns.length <= ms.length -> nz qs k = 0) /\ (∀ k,S * nz ms k = pz (nz qs) (nz ns) n k + nz rs k):=⟨_,fun _ _ _=>Iff.rfl⟩
  refine for_items (its:=idn ((ms.length:Int) - (ns.length:Int)) n) Pv (fun _ _ _ _ _=>items_dn) ((hPv _ _ _).mpr ⟨r1,q1,ms,List.replicate n 0,1,_,_,_,rfl,S03,(S2.trans S3) _ _ h1,?_,nr1,nq1,?_,by walk_at "o",by simp,⟨0,by walk_at "o",(Int.pow_zero _).symm,fun _=>rfl⟩,?_,fun x hx=>(bm x hx).mono (by walk_at "o"),fun x hx=>?_,fun k _=>?_,fun k=>?_⟩) (fun i x σ H4 hi hx pv=>?_) (fun σ H4 pv=>?_)
  ·rw [h3,map_rep]
  ·exact ne_of_none (S2 _ _ h1) hq1
  ·exact Bt.mono (m:=1) (by decide) (by walk_at "o")
  ·rw [(List.mem_replicate.mp hx).2]
   exact bt_zero
  ·unfold nz
   rw [List.getD_eq_getElem?_getD,List.getElem?_replicate]
   split <;> rfl
  ·rw [pz_zero (f:=nz (List.replicate n 0)) (fun i=>by
    unfold nz
    rw [List.getD_eq_getElem?_getD,List.getElem?_replicate]
    split <;> rfl)]
   walk_at "o"
  ·obtain ⟨ra,qa,rs,qs,S,o6,o7,o8,rfl,S4,hra,hqa,nra,nqa,nrq,lrs,lqs,nS,bS,br,bq,zq,ev⟩:=(hPv _ _ _).mp pv
   obtain ⟨hi',rfl⟩:=idn_at hx
   obtain ⟨p,hp⟩ : ∃ p:Nat,(ms.length:Int) - (ns.length:Int) - (i:Int) = (p:Int):=⟨ms.length - ns.length - i,by walk_at "o"⟩
   have hpi:p + i + ns.length = ms.length:=by walk_at "o"
   have hrl:rs.length - 1 < rs.length:=by walk_at "o"
   obtain ⟨Pt,hPt⟩ : ∃ Pt,Pt = rs[rs.length - 1]:=⟨_,rfl⟩
   have hi9:i <= 13:=by walk_at "o"
   have hci:(c + 1) * i <= 20001 * 13:=Nat.mul_le_mul (by walk_at "o") hi9
   have hci2:c * i <= 20000 * 13:=Nat.mul_le_mul hc hi9
   rw [hp]
   simp only [gName]
   refine tSeq.gen fun M1 hM1=>?_
   walk_at "vc"
   have xp:(rs.map V.int)[(rs.map V.int).length - 1]? = some (.int Pt):=by
    rw [List.length_map,List.getElem?_map,List.getElem?_eq_getElem hrl,hPt]
    rfl
   refine ⟨ty_lst hra,_,hra,_,xp,fun H5 B5 h5=>hM1 _ _ ?_⟩
   rw [<- List.map_dropLast] at h5
   have S5:Same (vw K H) (vw K H5):=fun y o e=>B5 _ _ (ne_of_none e nra) (S4 _ _ e)
   have hqa5:=B5 _ _ nrq.symm hqa
   have bP:Bt (m + (c + 1) * i) Pt:=hPt ▸ br _ (List.getElem_mem hrl)
   have top:rs.length - 1 = p + (ns.length - 1):=by walk_at "o"
   have nP:nz rs (p + (ns.length - 1)) = Pt:=by rw [<- top,nz_get (List.getElem?_eq_getElem hrl),hPt]
   have ldl:rs.dropLast.length + (i + 1) = ms.length:=by rw [List.length_dropLast]; walk_at "o"
   refine tSeq.gen fun M2 hM2=>?_
   have key:∀ (ra' qa':Addr) (R:Nat -> Int) (rs1 qs1:List Int) (S1 part:Int) (H':Hp),Same (vw K H) (vw K H') -> vw K H' ra' = some (.lst (rs1.map V.int)) -> vw K H' qa' = some (.lst (qs1.map V.int)) -> vw K H ra' = none -> vw K H qa' = none -> ra' ≠ qa' -> rs1.length + (i + 1) = ms.length -> qs1.length = n -> (∃ e,e <= i + 1 /\ S1 = L ^ e /\ (Exq ms ns -> S1 = 1)) -> Bt (1 + c * (i + 1)) S1 ->
     (∀ x ∈ rs1,Bt (m + (c + 1) * i + c) x) -> (∀ x ∈ qs1,Bt (m + (c + 1) * i + c) x) -> Bt (m + (c + 1) * i) part -> (∀ k,k + i + ns.length <= ms.length -> nz qs1 k = 0) -> (∀ k,S1 * nz ms k = pz (nz qs1) (nz ns) n k + R k) -> R (p + (ns.length - 1)) = part * L -> (∀ k,nz rs1 k = if k = p + (ns.length - 1) then 0 else R k) ->
     M2 [some (.ref a),some (.ref b),some (.int L),some (.ref ra'),some (.ref qa'),some (.int S1),some (.int p),some (.int part),o8] H':=by
    intro ra' qa' R rs1 qs1 S1 part H' Sx hr' hq' nr' nq' ne' l1 l2 n1 b1 b2 b3 b4 z1 e1 e2 e3
    refine hM2 _ _ ?_
    refine tSeq.gen fun M3 hM3=>?_
    walk_at "vc"
    refine ⟨_,hq',p,ixN_nat (by rw [List.length_map]; walk_at "o"),fun H7 B7 h7=>hM3 _ _ ?_⟩
    rw [<- List.map_set] at h7
    have S7:Same (vw K H) (vw K H7):=fun y o e=>B7 _ _ (ne_of_none e nq') (Sx _ _ e)
    have hr7:=B7 _ _ ne' hr'
    walk_at "vc"
    refine ⟨_,lenb S7,by walk_at "o",by walk_at "o",?_⟩
    rw [show ((ns.length:Int) - 1).toNat = ns.length - 1 by walk_at "o"]
    obtain ⟨Pw,hPw⟩ : ∃ Pw:Nat -> St -> Hp -> Prop,∀ l σ H',Pw l σ H' ↔ ∃ (rs2:List Int) (o8:Option V),σ = [some (.ref a),some (.ref b),some (.int L),some (.ref ra'),some (.ref qa'),some (.int S1),some (.int p),some (.int part),o8] /\ Same (vw K H) (vw K H') /\ vw K H' ra' = some (.lst (rs2.map V.int)) /\ vw K H' qa' = some (.lst ((qs1.set p part).map V.int)) /\ rs2.length = rs1.length /\
      (∀ x ∈ rs2,Bt (m + (c + 1) * (i + 1)) x) /\ ∀ k,nz rs2 k = nz rs1 k - if p <= k /\ k < p + l then part * nz ns (k - p) else 0:=⟨_,fun _ _ _=>Iff.rfl⟩
    have more:(c + 1) * (i + 1) = (c + 1) * i + (c + 1):=by rw [Nat.mul_add]; walk_at "o"
    refine for_items (its:=iots 0 (ns.length - 1)) Pw (fun _ _ _ _ _=>items_range) ((hPw _ _ _).mpr ⟨rs1,_,rfl,S7,hr7,h7,rfl,fun x hx=>(b2 x hx).mono (by walk_at "o"),fun k=>by rw [if_neg (by walk_at "o")]; walk_at "o"⟩) (fun l x σ H8 hl hx pw=>?_) (fun σ H8 pw=>?_)
    ·obtain ⟨rs2,o8',rfl,S8,hr8,hq8,l8,b8,e8⟩:=(hPw _ _ _).mp pw
     obtain ⟨hl',rfl⟩:=iots_at hx
     have hpl:p + l < rs2.length:=by walk_at "o"
     have hln:l < ns.length:=by walk_at "o"
     simp only [tAugS,ipI]
     walk_at "vc"
     have xr:(rs2.map V.int)[p + l]? = some (.int rs2[p + l]):=by rw [List.getElem?_map,List.getElem?_eq_getElem hpl]; rfl
     have xn:(ns.map V.int)[l]? = some (.int ns[l]):=by rw [List.getElem?_map,List.getElem?_eq_getElem hln]; rfl
     have epl:(p:Int) + (0 + (l:Int)) = ((p + l:Nat):Int):=by walk_at "o"
     have vr:rs2[p + l] = nz rs1 (p + l):=by
      have:=e8 (p + l)
      rw [nz_get (List.getElem?_eq_getElem hpl),if_neg (by walk_at "o")] at this
      walk_at "o"
     have vn:ns[l] = nz ns l:=(nz_get (List.getElem?_eq_getElem hln)).symm
     refine ⟨_,hr8,_,by rw [epl]; exact atI_nat xr,_,S8 _ _ hb,_,by rw [Int.zero_add]; exact atI_nat xn,?_⟩
     rw [rMul_int]
     refine ⟨mulOk b4 (bn _ (List.getElem_mem hln)) (by walk_at "o"),_,rfl,_,rfl,_,hr8,p + l,by rw [epl]; exact ixN_nat (by rw [List.length_map]; exact hpl),fun H9 B9 h9=>?_⟩
     rw [<- List.map_set] at h9
     refine (hPw _ _ _).mpr ⟨rs2.set (p + l) (rs2[p + l] - part * ns[l]),_,rfl,fun y o e=>B9 _ _ (ne_of_none e nr') (S8 _ _ e),h9,B9 _ _ ne'.symm hq8,by rw [List.length_set]; exact l8,fun x hx=>?_,fun k=>?_⟩
     ·rcases List.mem_or_eq_of_mem_set hx with z | rfl
      ·exact b8 x z
      ·have y1:Bt (m + (c + 1) * i + c) rs2[p + l]:=by rw [vr]; exact nz_bt b2 _
       have y2:Bt (m + (c + 1) * i + c) (part * ns[l]):=b4.mul (bn _ (List.getElem_mem hln))
       unfold Bt at y1 y2 ⊢
       rw [more,show m + ((c + 1) * i + (c + 1)) = (m + (c + 1) * i + c) + 1 by walk_at "o",Nat.pow_succ]
       walk_at "o"
     ·rw [nz_setv hpl,e8 k]
      by_cases hk:k = p + l
      ·subst hk
       rw [if_pos rfl,if_pos (by walk_at "o"),show p + l - p = l by walk_at "o",vr,vn]
      ·rw [if_neg hk]
       by_cases hk2:p <= k /\ k < p + l
       ·rw [if_pos hk2,if_pos (by walk_at "o")]
       ·rw [if_neg hk2,if_neg (by walk_at "o")]
    ·obtain ⟨rs2,o8',rfl,S8,hr8,hq8,l8,b8,e8⟩:=(hPw _ _ _).mp pw
     rw [iots_len] at e8
     refine (hPv _ _ _).mpr ⟨ra',qa',rs2,qs1.set p part,S1,_,_,_,rfl,S8,hr8,hq8,nr',nq',ne',by walk_at "o",by rw [List.length_set]; exact l2,n1,b1,b8,fun x hx=>?_,fun k hk=>?_,?_⟩
     ·rcases List.mem_or_eq_of_mem_set hx with z | rfl
      ·exact (b3 x z).mono (by walk_at "o")
      ·exact b4.mono (by walk_at "o")
     ·rw [nz_setv (by walk_at "o"),if_neg (by walk_at "o")]
      exact z1 k (by walk_at "o")
     ·exact part_step (l:=ns.length - 1) e1 (z1 p (by walk_at "o")) (fun k=>nz_setv (by walk_at "o")) (by walk_at "o") (fun j hj=>nz_out (by walk_at "o")) (by rw [e2,hLd]) e3 e8
   walk_at "vc"
   refine ⟨hL,ite2 (fun e0=>?_) (fun e0=>?_)⟩
   ·have dv:L ∣ Pt:=Int.dvd_of_fmod_eq_zero e0
    have em:Pt.fdiv L * L = Pt:=fdiv_mul hL dv
    have bd:Bt (m + (c + 1) * i) (Pt.fdiv L):=by
     unfold Bt at bP ⊢
     have e1:(Pt.fdiv L).natAbs * L.natAbs = Pt.natAbs:=by rw [<- Int.natAbs_mul,em]
     have e2:(Pt.fdiv L).natAbs * 1 <= (Pt.fdiv L).natAbs * L.natAbs:=Nat.mul_le_mul_left _ (by walk_at "o")
     walk_at "o"
    refine ⟨hL,key ra qa (nz rs) rs.dropLast qs S (Pt.fdiv L) H5 S5 h5 hqa5 nra nqa nrq ldl lqs (nS.elim fun e z=>⟨e,by walk_at "o",z.2⟩) (bS.mono (by rw [Nat.mul_add]; walk_at "o")) (fun x hx=>(br x ((List.dropLast_sublist _).subset hx)).mono (by walk_at "o")) (fun x hx=>(bq x hx).mono (by walk_at "o")) bd zq ev (by rw [nP,em]) (fun k=>by rw [nz_dropLast,top])⟩
   ·refine ⟨mulOk bS bL (by walk_at "o"),⟨_,.of (vw_lst hqa5)⟩,fun q6 H6 hq6 S6 h6=>?_⟩
    refine comp_items (its:=qs.map V.int) (fun j zs H'=>Same (vw K H5) (vw K H') /\ zs = ((qs.take j).map fun x=>L * x).map V.int) (fun j zs H' _ _ z=>items_list (z.1 _ _ hqa5)) h6 ⟨S6,rfl⟩ (fun j x zs H' hj hx h' z=>?_) (fun zs H7 h7 z=>?_)
    ·obtain ⟨z1,rfl⟩:=z
     rw [List.length_map] at hj
     rw [List.getElem?_map,List.getElem?_eq_getElem hj] at hx
     cases hx
     walk_at "vc"
     refine ⟨mulOk bL (bq _ (List.getElem_mem hj)) (by walk_at "o"),.mk h' ?_ fun H8 B8 h8=>⟨fun y o e=>B8 _ _ (ne_of_none e hq6) (z1 _ _ e),?_⟩⟩
     ·rw [List.length_map,List.length_map,List.length_take]
      have:1000 <= sizeLine:=by decide
      walk_at "o"
     ·rw [List.take_add_one,List.getElem?_eq_getElem hj,List.map_append,List.map_append]
      rfl
    obtain ⟨S57,rfl⟩:=z
    rw [List.length_map,List.take_length] at h7
    have h57:=S57 _ _ h5
    refine ⟨⟨_,.of (vw_lst h57)⟩,fun r8 H8 hr8 S8 h8=>?_⟩
    refine comp_items (its:=rs.dropLast.map V.int) (fun j zs H'=>Same (vw K H7) (vw K H') /\ zs = ((rs.dropLast.take j).map fun x=>L * x).map V.int) (fun j zs H' _ _ z=>items_list (z.1 _ _ h57)) h8 ⟨S8,rfl⟩ (fun j x zs H' hj hx h' z=>?_) (fun zs H9 h9 z=>?_)
    ·obtain ⟨z1,rfl⟩:=z
     rw [List.length_map] at hj
     rw [List.getElem?_map,List.getElem?_eq_getElem hj] at hx
     cases hx
     walk_at "vc"
     refine ⟨mulOk bL (br _ ((List.dropLast_sublist _).subset (List.getElem_mem hj))) (by walk_at "o"),.mk h' ?_ fun H8 B8 h8=>⟨fun y o e=>B8 _ _ (ne_of_none e hr8) (z1 _ _ e),?_⟩⟩
     ·rw [List.length_map,List.length_map,List.length_take]
      have:1000 <= sizeLine:=by decide
      walk_at "o"
     ·rw [List.take_add_one,List.getElem?_eq_getElem hj,List.map_append,List.map_append]
      rfl
    obtain ⟨S79,rfl⟩:=z
    rw [List.length_map,List.take_length] at h9
    have S07:=S5.trans S57
    refine key r8 q6 (fun k=>L * nz rs k) _ _ (S * L) Pt H9 (S07.trans S79) h9 (S79 _ _ h7) (S07.none hr8) (S5.none hq6) (ne_of_none h7 hr8).symm (by rw [List.length_map]; exact ldl) (by rw [List.length_map]; exact lqs) (nS.elim fun e z=>⟨e + 1,by walk_at "o",by rw [z.2.1,Int.pow_succ],fun ex=>absurd (Int.fmod_eq_zero_of_dvd (by have dv:=exact_dvd ln0 (show rs.length = p + ns.length by walk_at "o") lqs (fun k=>by rw [<- ev k,z.2.2 ex,Int.one_mul]) (hLd ▸ hL) ex; rw [nP,<- hLd] at dv; exact dv)) e0⟩) ((bS.mul bL).mono (by rw [Nat.mul_add]; walk_at "o")) (fun x hx=>?_) (fun x hx=>?_) bP (fun k hk=>?_) (fun k=>?_) ?_ (fun k=>?_)
    ·obtain ⟨y,hy,rfl⟩:=List.mem_map.mp hx
     exact (bL.mul (br y ((List.dropLast_sublist _).subset hy))).mono (by walk_at "o")
    ·obtain ⟨y,hy,rfl⟩:=List.mem_map.mp hx
     exact (bL.mul (bq y hy)).mono (by walk_at "o")
    ·rw [nz_mapc,zq k hk]
     walk_at "o"
    ·rw [show nz (qs.map fun x=>L * x) = fun k=>L * nz qs k from funext fun k=>nz_mapc k,pz_mul,<- Int.mul_add,<- ev k,Int.mul_comm S L,Int.mul_assoc]
    ·show L * nz rs (p + (ns.length - 1)) = Pt * L
     rw [nP,Int.mul_comm]
    ·rw [nz_mapc,nz_dropLast,top]
     split <;> simp
  ·obtain ⟨ra,qa,rs,qs,S,o6,o7,o8,rfl,S4,hra,hqa,nra,nqa,nrq,lrs,lqs,nS,bS,br,bq,zq,ev⟩:=(hPv _ _ _).mp pv
   rw [idn_len] at lrs nS bS br bq zq
   refine hN5 _ _ ?_
   walk_at "vc"
   simp only [sp_trimmed]
   refine .inr ?_
   simp only [spZ_trimmed]
   walk_at "vc"
   refine ⟨rs,hra,fun d H5 ts S5 hd nd e5 l5 z5=>⟨by decide,fun p6 H6 hp6 S6 h6=>?_⟩⟩
   have n9:n <= 14:=by walk_at "o"
   have k1:c * n <= 20000 * 14:=Nat.mul_le_mul hc n9
   have k2:(c + 1) * n <= 20001 * 14:=Nat.mul_le_mul (by walk_at "o") n9
   refine h p6 qa d S qs ts H6 (S4.trans (S5.trans S6)) h6 ((S5.trans S6) _ _ hqa) (S6 _ _ hd) (S4.none nd) (by walk_at "o") (by walk_at "o") (nS.elim fun e z=>⟨e,by walk_at "o",z.2.1.trans (by rw [hLd])⟩) (nS.elim fun e z=>z.2.2) (bS.mono (by walk_at "o")) (fun x hx=>(bq x hx).mono (by walk_at "o")) (fun x hx=>?_) z5 (fun k=>?_) (fun x hx=>?_)
   ·obtain ⟨k,hk⟩:=List.getElem?_of_mem hx
    have e:=e5 k
    rw [nz_get hk] at e
    rw [e]
    exact (nz_bt br k).mono (by walk_at "o")
   ·rw [lqs,e5 k]
    exact ev k
   ·obtain ⟨k,hk⟩:=List.getElem?_of_mem hx
    have e:=e5 k
    rw [nz_get hk] at e
    rw [e,show ms.length + 1 - ns.length = n by walk_at "o"]
    exact nz_bt br k
def sp_power (K:PySem.W.Frag):Sp:=fun vs H Q _=>∃ (x:Int) (n b:Nat),vs = [.int x,.int n] /\ n <= 20 /\ b <= 20000 /\ Bt b x /\ Q (.int (x ^ n)) H
theorem ok_power (F:Fun K "power" "power" s_power f fd) (T:Txt K mg):FnOk P w K mg base CX0 1 f fd ["base", "many"] (sp_power K):=by
 have scN:=sc_power.nd
 refine F.okQ sc_power (fun vs H Q E h=>?_) (fun cdv A outer s H vs Q E hr h=>?_)
 ·obtain ⟨_,_,_,rfl,_⟩:=h
  rfl
 ·obtain ⟨x,n,b,rfl,hn,hb,bx,h⟩:=h
  refine ⟨_,(qss_cons (qs_set (i:=2) scN rfl (by walk_at "a1") qe_int)
   (qss_cons (qs_for PassesOwn.never rfl (qi_range1 rfl T.b_range (qa_cons (qv 1) qa_nil)) (qg_name (i:=3) scN rfl (by walk_at "a1")) (qss_one (qs_aug (i:=2) scN rfl (by walk_at "a1") (qv 0) ip_mulX)))
   (qss_one (qs_ret (qv 2))))),?_⟩
  walk_at "m"
  walk_at "vc"
  refine ⟨by walk_at "o",by walk_at "o",?_⟩
  rw [show ((n:Nat):Int).toNat = n by walk_at "o"]
  obtain ⟨Pv,hPv⟩ : ∃ Pv:Nat -> St -> Hp -> Prop,∀ i σ H',Pv i σ H' ↔ H' = H /\ ∃ o,σ = [some (.int x),some (.int n),some (.int (x ^ i)),o]:=⟨_,fun _ _ _=>Iff.rfl⟩
  refine for_items (its:=iots 0 n) Pv (fun _ _ _ _ _=>items_range) ((hPv _ _ _).mpr ⟨rfl,_,by rw [Int.pow_zero]⟩) (fun i y σ H1 hi hy pv=>?_) (fun σ H1 pv=>?_)
  ·obtain ⟨rfl,o,rfl⟩:=(hPv _ _ _).mp pv
   obtain ⟨hi',rfl⟩:=iots_at hy
   walk_at "vc"
   have b1:=bx.pow1 i
   have:b * i <= 20000 * 20:=Nat.mul_le_mul hb (by walk_at "o")
   refine ⟨mulOk b1 bx (by walk_at "o"),(hPv _ _ _).mpr ⟨rfl,_,by rw [Int.pow_succ]⟩⟩
  ·obtain ⟨rfl,o,rfl⟩:=(hPv _ _ _).mp pv
   rw [iots_len]
   walk_at "vc"
   exact h
def sp_lowered (K:PySem.W.Frag):Sp:=fun vs H Q _=>∃ (a:Addr) (ns:List Int) (b:Nat),vs = [.ref a] /\ vw K H a = some (.lst (ns.map V.int)) /\ ns.length <= 40 /\ b <= 20000 /\ (∀ x ∈ ns,Bt b x) /\ (ns ≠ [] -> nz ns (ns.length - 1) ≠ 0) /\
 ∀ d H' (ms:List Int) (g:Int),Same (vw K H) (vw K H') -> vw K H' d = some (.lst (ms.map V.int)) -> vw K H d = none -> ms.length = ns.length -> 0 < g -> (∀ k,nz ns k = g * nz ms k) -> (ns ≠ [] -> Prim (nz ms)) -> (∀ x ∈ ms,Bt b x) -> Q (.ref d) H'
theorem ok_lowered (F:Fun K "lowered" "lowered" s_lowered f fd) (T:Txt K mg) (N_:Seer P base) (C_greatest_divisor:Cal P w K mg base "greatest_divisor" ["one", "other"] 1 (sp_greatest_divisor K)):FnOk P w K mg base CX0 2 f fd ["wholes"] (sp_lowered K):=by
 have scN:=sc_lowered.nd
 refine F.okQ sc_lowered (fun vs H Q E h=>?_) (fun cdv A outer s H vs Q E hr h=>?_)
 ·obtain ⟨_,_,_,rfl,_⟩:=h
  rfl
 ·obtain ⟨a,ns,b,rfl,ha,hl,hb,bn,nl,h⟩:=h
  refine ⟨_,(qss_cons (qs_set (i:=1) scN rfl (by walk_at "a1") qe_int)
   (qss_cons (qs_for PassesOwn.never rfl (qi_list (qv 0)) (qg_name (i:=2) scN rfl (by walk_at "a1")) (qss_one (qs_set (i:=1) scN rfl (by walk_at "a1") (qe_cal C_greatest_divisor (hr.mono (by walk_at "a2")) rfl (qa_cons (qv 1) (qa_cons (qv 2) qa_nil))))))
   (qss_one (qs_ret (qe_comp (own:=["whole"]) (outs:=["divisor"]) (ixs:=[1]) rfl (qi_list (qv 0)) rfl ⟨rfl,rfl,rfl,⟨rfl,trivial⟩,rfl,⟨⟨rfl,rfl,rfl,_,rfl⟩,trivial⟩⟩ (fun _ _ _ _=>⟨(qg_name (i:=0) (show (["whole", "divisor"]:List Str).Nodup by decide +kernel) rfl (by walk_at "a1")),qf_nil,(qe_op (op_fdivR N_ hr rfl rfl rfl rfl rfl) (qv 0) (qv 1))⟩)))))),?_⟩
  walk_at "m"
  refine tSeq.gen fun N1 hN1=>?_
  walk_at "vc"
  refine hN1 _ _ ?_
  refine tSeq.gen fun N2 hN2=>?_
  walk_at "vc"
  refine ⟨⟨_,.of (vw_lst ha)⟩,?_⟩
  obtain ⟨Pv,hPv⟩ : ∃ Pv:Nat -> St -> Hp -> Prop,∀ i σ H',Pv i σ H' ↔ H' = H /\ ∃ (g:Int) (o:Option V),σ = [some (.ref a),some (.int g),o] /\ (∀ x ∈ ns.take i,g ∣ x) /\ 0 <= g /\ ∀ e:Int,(∀ x ∈ ns.take i,e ∣ x) -> e ∣ g:=⟨_,fun _ _ _=>Iff.rfl⟩
  refine for_items (its:=ns.map V.int) Pv (fun i σ H' _ p=>?_) ((hPv _ _ _).mpr ⟨rfl,_,_,rfl,by simp,by decide,fun e _=>Int.dvd_zero e⟩) (fun i y σ H1 hi hy pv=>?_) (fun σ H1 pv=>?_)
  ·obtain ⟨rfl,_⟩:=(hPv _ _ _).mp p
   exact items_list ha
  ·obtain ⟨rfl,g,o,rfl,hg,gp,hd⟩:=(hPv _ _ _).mp pv
   rw [List.length_map] at hi
   rw [List.getElem?_map,List.getElem?_eq_getElem hi] at hy
   cases hy
   walk_at "vc"
   simp only [sp_greatest_divisor]
   walk_at "vc"
   refine (hPv _ _ _).mpr ⟨rfl,_,_,rfl,fun x hx=>?_,by walk_at "o",fun e he=>?_⟩
   ·rw [List.take_add_one,List.getElem?_eq_getElem hi] at hx
    rcases List.mem_append.mp hx with z | z
    ·exact Int.dvd_trans (Int.gcd_dvd_left _ _) (hg x z)
    ·cases List.mem_singleton.mp z
     exact Int.gcd_dvd_right _ _
   ·rw [List.take_add_one,List.getElem?_eq_getElem hi] at he
    exact Int.dvd_coe_gcd (hd e fun x z=>he x (List.mem_append_left _ z)) (he _ (List.mem_append_right _ (List.mem_singleton.mpr rfl)))
  ·obtain ⟨rfl,g,o,rfl,hg,gp,hd⟩:=(hPv _ _ _).mp pv
   rw [List.length_map,List.take_length] at hg hd
   refine hN2 _ _ ?_
   walk_at "vc"
   have hgn:ns ≠ [] -> g ≠ 0 /\ Bt b g:=fun z=>by
    have lp:ns.length - 1 < ns.length:=by have:=List.length_pos_iff.mpr z; walk_at "o"
    have n1:=nl z
    rw [nz_get (List.getElem?_eq_getElem lp)] at n1
    have d1:=hg _ (List.getElem_mem lp)
    have b1:=bn _ (List.getElem_mem lp)
    refine ⟨fun e=>n1 (by rw [e] at d1; exact Int.zero_dvd.mp d1),?_⟩
    have:=Nat.le_of_dvd (by walk_at "o") (Int.natAbs_dvd_natAbs.mpr d1)
    unfold Bt at b1 ⊢
    walk_at "o"
   refine ⟨⟨_,.of (vw_lst ha)⟩,fun d H2 hnd S2 h2=>?_⟩
   refine comp_items (its:=ns.map V.int) (fun j zs H'=>Same (vw K H1) (vw K H') /\ zs = ((ns.take j).map fun x=>x.fdiv g).map V.int) (fun j zs H' _ _ z=>items_list (z.1 _ _ ha)) h2 ⟨S2,rfl⟩ (fun j x zs H' hj hx h' z=>?_) (fun zs H3 h3 z=>?_)
   ·obtain ⟨z1,rfl⟩:=z
    rw [List.length_map] at hj
    rw [List.getElem?_map,List.getElem?_eq_getElem hj] at hx
    cases hx
    obtain ⟨g1,g2⟩:=hgn (fun e=>by rw [e] at hj; simp at hj)
    walk_at "vc"
    refine ⟨g1,.mk h' ?_ fun H8 B8 h8=>⟨fun y o e=>B8 _ _ (ne_of_none e hnd) (z1 _ _ e),?_⟩⟩
    ·rw [List.length_map,List.length_map,List.length_take]
     have:1000 <= sizeLine:=by decide
     walk_at "o"
    ·rw [List.take_add_one,List.getElem?_eq_getElem hj,List.map_append,List.map_append]
     rfl
   ·obtain ⟨z1,rfl⟩:=z
    rw [List.length_map,List.take_length] at h3
    by_cases e:ns = []
    ·subst e
     exact h d H3 [] 1 z1 h3 hnd rfl (by decide) (fun k=>by rw [Int.one_mul]) (fun z=>absurd rfl z) (by simp)
    obtain ⟨g1,g2⟩:=hgn e
    have em:∀ x ∈ ns,x = g * x.fdiv g:=fun x hx=>by rw [Int.mul_comm]; exact (fdiv_mul g1 (hg x hx)).symm
    have nm:∀ k,nz ns k = g * nz (ns.map fun x=>x.fdiv g) k:=fun k=>?_
    refine h d H3 _ g z1 h3 hnd (by rw [List.length_map]) (by walk_at "o") nm (fun _ q hq=>?_) (fun x hx=>?_)
    ·have d1:g * q ∣ g:=hd (g * q) fun x hx=>by
      obtain ⟨k,hk⟩:=List.getElem?_of_mem hx
      have e1:=nm k
      rw [nz_get hk] at e1
      rw [e1]
      exact Int.mul_dvd_mul_left g (hq k)
     obtain ⟨c,hc⟩:=d1
     have hc':g * 1 = g * (q * c):=by rw [Int.mul_one,<- Int.mul_assoc]; exact hc
     have q1:1 = q * c:=Int.eq_of_mul_eq_mul_left g1 hc'
     have:=congrArg Int.natAbs q1
     rw [Int.natAbs_mul] at this
     exact Nat.eq_one_of_mul_eq_one_right this.symm
    ·obtain ⟨y,hy,rfl⟩:=List.mem_map.mp hx
     have e1:(g * y.fdiv g).natAbs = g.natAbs * (y.fdiv g).natAbs:=Int.natAbs_mul _ _
     rw [<- em y hy] at e1
     have e2:1 * (y.fdiv g).natAbs <= g.natAbs * (y.fdiv g).natAbs:=Nat.mul_le_mul_right _ (by walk_at "o")
     have b1:=bn y hy
     unfold Bt at b1 ⊢
     walk_at "o"
    ·cases ek:ns[k]? with
     | none =>
      have l:=List.getElem?_eq_none_iff.mp ek
      rw [nz_out l,nz_out (by rw [List.length_map]; exact l),Int.mul_zero]
     | some y =>
      rw [nz_get ek,nz_get (n:=y.fdiv g) (by rw [List.getElem?_map,ek]; rfl)]
      exact em y (List.mem_of_getElem? ek)
def RowsR (G:Hp) (t:Addr) (tv:List V) (rows:List (List Int × List Int × Int × Int)):Prop:=tv.length = rows.length /\ ∀ (k:Nat) row,rows[k]? = some row -> ∃ p ra qa:Addr,tv[k]? = some (.ref p) /\ G p = some (.tup [.ref ra,.ref qa,.int row.2.2.1,.int row.2.2.2]) /\ G ra = some (.lst (row.1.map V.int)) /\ G qa = some (.lst (row.2.1.map V.int)) /\ ra ≠ t /\ qa ≠ t
theorem RowsR.same {G G':Hp} {t:Addr} {tv:List V} {rows:List (List Int × List Int × Int × Int)} (h:RowsR G t tv rows) (S:Same G G'):RowsR G' t tv rows:=⟨h.1,fun k row e=>by
 obtain ⟨p,ra,qa,a,b,c,d,n⟩:=h.2 k row e
 exact ⟨p,ra,qa,a,S _ _ b,S _ _ c,S _ _ d,n⟩⟩
def RowB (row:List Int × List Int × Int × Int):Prop:=row.1.length <= 9 /\ (∀ x ∈ row.1,Bt 17840 x) /\ Bt 200000 row.2.2.1 /\ Bt 200000 row.2.2.2 /\ row.2.1.length <= 9 /\ 1 <= row.2.1.length /\ ∀ x ∈ row.2.1,Bt 700000 x
def sp_wholes_rests (K:PySem.W.Frag):Sp:=fun vs H Q _=>∃ (a b:Addr) (ms ns:List Int),vs = [.ref a,.ref b] /\ vw K H a = some (.lst (ms.map V.int)) /\ vw K H b = some (.lst (ns.map V.int)) /\ ms ≠ [] /\ ns.length <= ms.length /\ IntL9 1110 ms /\ IntL9 1110 ns /\
 ∀ (d:Addr) (H':Hp) (tv:List V) rows,Same (vw K H) (vw K H') -> vw K H' d = some (.lst tv) -> RowsR (vw K H') d tv rows -> Rsq ms ns rows -> rows.length <= 9 -> (∀ row ∈ rows,RowB row) -> Q (.ref d) H'
theorem ok_wholes_rests (F:Fun K "wholes_rests" "wholes_rests" s_wholes_rests f fd) (T:Txt K mg) (N_:Seer P base) (C_power:Cal P w K mg base "power" ["base", "many"] 1 (sp_power K)) (C_wholes_parted:Cal P w K mg base "wholes_parted" ["one", "other"] 2 (sp_wholes_parted K)):FnOk P w K mg base CX0 3 f fd ["one", "other"] (sp_wholes_rests K):=by
 have scN:=sc_wholes_rests.nd
 refine F.okQ sc_wholes_rests (fun vs H Q E h=>?_) (fun cdv A outer s H vs Q E hr h=>?_)
 ·obtain ⟨_,_,_,_,rfl,_⟩:=h
  rfl
 ·obtain ⟨a,b,ms,ns,rfl,ha,hb,m0,lmn,im,il,h⟩:=h
  refine ⟨_,(qss_cons (qs_set (i:=2) scN rfl (by walk_at "a1") (qe_lstS qa_nil))
   (qss_cons (qs_asg (qe_tupS (qa_cons qe_int (qa_cons qe_int qa_nil))) (qg_tupH (n:=2) rfl (qgs_cons (qg_name (i:=3) scN rfl (by walk_at "a1")) (qgs_cons (qg_name (i:=4) scN rfl (by walk_at "a1")) qgs_nil))))
   (qss_cons (qs_while PassesOwn.never (qt_truth (qv 1) (fun _=>rfl)) (qss_cons (qs_set (i:=5) scN rfl (by walk_at "a1") (qe_op op_sub (qe_callB call_lenH (by rfl) T.b_len bt_len (qa_cons (qv 0) qa_nil)) (qe_callB call_lenH (by rfl) T.b_len bt_len (qa_cons (qv 1) qa_nil))))
   (qss_cons (qs_set (i:=6) scN rfl (by walk_at "a1") (qe_cal C_power (hr.mono (by walk_at "a2")) rfl (qa_cons (qe_ix ix_h (qv 1) (qe_un un_neg qe_int) (fun _ _=>rfl)) (qa_cons (qe_op op_Plus (qv 5) qe_int) qa_nil))))
   (qss_cons (qs_asg (qe_cal C_wholes_parted (hr.mono (by walk_at "a2")) rfl (qa_cons (qv 0) (qa_cons (qv 1) qa_nil))) (qg_tupH (n:=3) rfl (qgs_cons (qg_name (i:=7) scN rfl (by walk_at "a1")) (qgs_cons (qg_name (i:=8) scN rfl (by walk_at "a1")) (qgs_cons (qg_name (i:=9) scN rfl (by walk_at "a1")) qgs_nil)))))
   (qss_cons (qs_set (i:=10) scN rfl (by walk_at "a1") (qe_op op_Mul (qv 3) (qe_cal C_power (hr.mono (by walk_at "a2")) rfl (qa_cons (qv 4) (qa_cons (qv 5) qa_nil)))))
   (qss_cons (qs_if (qt_truth (qv 8) (fun _=>rfl)) (qss_cons (qs_set (i:=11) scN rfl (by walk_at "a1") (qe_op (op_fdivP N_ hr rfl rfl rfl) (qv 6) (qv 9)))
   (qss_cons (qs_setC (i:=8) (own:=["whole"]) (outs:=["top", "lack"]) (ixs:=[10,11]) scN rfl (by walk_at "a1") rfl (qi_list (qv 8)) rfl ⟨rfl,rfl,rfl,⟨rfl,⟨rfl,trivial⟩⟩,rfl,⟨⟨rfl,rfl,rfl,_,rfl⟩,⟨⟨rfl,rfl,rfl,_,rfl⟩,trivial⟩⟩⟩ (fun _ _ _ _=>⟨(qg_name (i:=0) (show (["whole", "top", "lack"]:List Str).Nodup by decide +kernel) rfl (by walk_at "a1")),qf_nil,(qe_op (op_fdivQ N_ hr rfl rfl rfl rfl rfl) (qe_op (show OpR _ _ (rMul K) from op_Mul) (qv 2) (qv 0)) (qv 1))⟩))
   (qss_one (qs_expr (qe_bm PySem.F.plainAttrs_list PySem.F.slot_list_append PySem.F.type_list_append mt_appendS (qv 2) (qa_cons (qe_tupS (qa_cons (qv 8) (qa_cons (qe_comp (own:=["whole"]) (outs:=["lack"]) (ixs:=[11]) rfl (qi_list (qv 7)) rfl ⟨rfl,rfl,rfl,⟨rfl,trivial⟩,rfl,⟨⟨rfl,rfl,rfl,_,rfl⟩,trivial⟩⟩ (fun _ _ _ _=>⟨(qg_name (i:=0) (show (["whole", "lack"]:List Str).Nodup by decide +kernel) rfl (by walk_at "a1")),qf_nil,(qe_op (show OpR _ _ (rMul K) from op_Mul) (qv 1) (qv 0))⟩)) (qa_cons (qv 10) (qa_cons (qv 6) qa_nil))))) qa_nil)))))) qss_nil)
   (qss_cons (qs_par (i:=0) (j:=1) rfl scN rfl rfl (by decide) rfl rfl (qa_cons (qv 1) (qa_cons (qv 8) qa_nil)) rfl)
   (qss_cons (qs_set (i:=3) scN rfl (by walk_at "a1") (qe_ix ix_h (qv 0) (qe_un un_neg qe_int) (fun _ _=>rfl)))
   (qss_one (qs_if (qt_cmpR op_gt (qv 5) qe_int (nomark _)) (qss_one (qs_set (i:=4) scN rfl (by walk_at "a1") (qe_op (op_fdivP N_ hr rfl rfl rfl) (qe_cal C_power (hr.mono (by walk_at "a2")) rfl (qa_cons (qv 3) (qa_cons (qv 5) qa_nil))) (qe_cal C_power (hr.mono (by walk_at "a2")) rfl (qa_cons (qv 4) (qa_cons (qe_op op_sub (qv 5) qe_int) qa_nil)))))) qss_nil))))))))))
   (qss_one (qs_ret (qv 2)))))),?_⟩
  walk_at "m"
  skip
  refine tSeq.gen fun N1 hN1=>?_
  walk_at "vc"
  refine ⟨by decide,fun t H1 ht S1 h1=>hN1 _ _ ?_⟩
  refine tSeq.gen fun N2 hN2=>?_
  walk_at "vc"
  refine ⟨by decide,fun p2 H2 hp2 S2 h2=>⟨_,rfl,_,h2,rfl,_,_,rfl,_,_,rfl,rfl,hN2 _ _ ?_⟩⟩
  refine tSeq.gen fun N3 hN3=>?_
  walk_at "vc"
  have nt:vw K H t = none:=ht
  have S02:=S1.trans S2
  obtain ⟨W,hW⟩ : ∃ W:Nat -> St -> Hp -> Prop,∀ m σ H',W m σ H' ↔ ∃ (oa ra:Addr) (Fs Gs:List Int) (tv:List V) (rows:List (List Int × List Int × Int × Int)) (x g:Int) (o5 o6 o7 o8 o9 o10 o11:Option V),σ = [some (.ref oa),some (.ref ra),some (.ref t),some (.int x),some (.int g),o5,o6,o7,o8,o9,o10,o11] /\ m = Gs.length /\ Same (vw K H) (vw K H') /\ vw K H' t = some (.lst tv) /\ vw K H' oa = some (.lst (Fs.map V.int)) /\ vw K H' ra = some (.lst (Gs.map V.int)) /\ oa ≠ t /\ ra ≠ t /\
    Fs ≠ [] /\ tv.length + Gs.length <= 9 /\ Gs.length <= Fs.length /\ IntL9 17825 Fs /\ IntL9 17825 Gs /\ (∀ r,Rsq Fs Gs r -> Rsq ms ns (rows ++ r)) /\ (Gs ≠ [] -> ∃ S1,Gst8 17825 S1 (nz Fs) (nz Gs) (Fs.length - 1) (Gs.length - 1) x g) /\
    RowsR (vw K H') t tv rows /\ ∀ row ∈ rows,RowB row:=⟨_,fun _ _ _=>Iff.rfl⟩
  have btn:∀ {n:Nat} {l:List Int},IntL9 n l -> ∀ k,Bt n (nz l k):=fun i k=>nz_bt i.2.1 k
  have up:∀ {l:List Int},IntL9 1110 l -> IntL9 17825 l:=fun i=>i.up (by decide)
  have lp:∀ {l:List Int},l ≠ [] -> 0 < l.length:=fun h=>List.length_pos_iff.mpr h
  refine ⟨W,⟨_,(hW _ _ _).mpr ⟨a,b,ms,ns,[],[],1,1,_,_,_,_,_,_,_,rfl,rfl,S02,S2 _ _ h1,S02 _ _ ha,S02 _ _ hb,ne_of_none ha nt,ne_of_none hb nt,m0,by have:=il.1; simp; walk_at "o",lmn,up im,up il,fun r z=>z,fun n0=>⟨_,Gst8.first (b:=1110) (by walk_at "o") (by have:=im.1; walk_at "o") (by decide) (btn im) (btn il) (il.2.2 n0) (fun k hk=>nz_out (by have:=lp n0; walk_at "o")) (fun k hk=>nz_out (by have:=lp m0; walk_at "o"))⟩,⟨rfl,by simp⟩,by simp⟩⟩,fun m σ H3 hw=>?_⟩
  obtain ⟨oa,ra,Fs,Gs,tv,rows,x,g,o5,o6,o7,o8,o9,o10,o11,rfl,rfl,S3,ht3,hF,hG,noa,nra,f0,lt7,lGF,iF,iG,gc,gs,rt,rwb⟩:=(hW _ _ _).mp hw
  refine ⟨_,rfl,_,tru_lst hG,ite2 (fun hc=>⟨_,fun σ' H' z=>z,?_⟩) (fun hc=>hN3 _ _ ?_)⟩
  ·have g0:Gs ≠ []:=fun z=>by rw [z] at hc; cases hc
   obtain ⟨Sx,I⟩:=gs g0
   have lg:=lp g0
   obtain ⟨δ,hδ⟩ : ∃ δ,δ = Fs.length - Gs.length:=⟨_,rfl⟩
   have hδ2:Fs.length - 1 - (Gs.length - 1) = δ:=by walk_at "o"
   have hgl:Gs.length - 1 < Gs.length:=by walk_at "o"
   obtain ⟨c,hcd⟩ : ∃ c,c = nz Gs (Gs.length - 1):=⟨_,rfl⟩
   have hce:Gs[Gs.length - 1] = c:=by rw [hcd,nz_get (List.getElem?_eq_getElem hgl)]
   have bc:Bt 17825 c:=hcd ▸ btn iG _
   have c0:c ≠ 0:=hcd ▸ iG.2.2 g0
   have xl:(Gs.map V.int).getLast? = some (.int c):=by
    rw [List.getLast?_eq_getElem?,List.length_map,List.getElem?_map,List.getElem?_eq_getElem hgl,hce]
    rfl
   have lF7:=iF.1
   refine tSeq.gen fun M1 hM1=>?_
   walk_at "vc"
   refine ⟨Fs.length,by simp only [lenH,hF,List.length_map],Gs.length,by simp only [lenH,hG,List.length_map],hM1 _ _ ?_⟩
   rw [show (Fs.length:Int) - (Gs.length:Int) = (δ:Int) by walk_at "o"]
   refine tSeq.gen fun M2 hM2=>?_
   walk_at "vc"
   refine ⟨_,hG,_,atI_end xl,⟨c,δ + 1,17825,rfl,by walk_at "o",by decide,bc,hM2 _ _ ?_⟩⟩
   refine tSeq.gen fun M3 hM3=>?_
   walk_at "vc"
   simp only [sp_wholes_parted]
   refine ⟨oa,ra,Fs,Gs,17825,17825,rfl,hF,hG,lg,iG.2.2 g0,by walk_at "o",by walk_at "o",by decide,by decide,iF.2.1,iG.2.1,fun p4 qa rb S qs rs H4 S4 h4 hqa hrb nrb lq lr hSe _ bS bq br lrz ev _=>⟨_,rfl,_,h4,rfl,_,_,rfl,_,_,rfl,_,_,rfl,rfl,hM3 _ _ ?_⟩⟩
   obtain ⟨e,he,hS⟩:=hSe
   rw [<- hcd] at hS
   have lq2:qs.length = δ + 1:=by walk_at "o"
   have S0:S ≠ 0:=by rw [hS]; exact Int.pow_ne_zero c0
   obtain ⟨lack,hlack⟩ : ∃ lack,lack = c ^ (δ + 1 - e):=⟨_,rfl⟩
   have elk:c ^ (δ + 1) = lack * S:=by rw [hlack,hS,<- ipa,show δ + 1 - e + e = δ + 1 by walk_at "o"]
   obtain ⟨top,htop⟩ : ∃ top,top = x * g ^ δ:=⟨_,rfl⟩
   have top0:top ≠ 0:=by rw [htop]; exact Int.mul_ne_zero I.inv.x0 (Int.pow_ne_zero I.inv.h0)
   have δ6:17825 * δ <= 17825 * 8:=Nat.mul_le_mul_left _ (by walk_at "o")
   have btop:Bt 200000 top:=by rw [htop]; exact (I.bx.mul (I.bh.pow1 δ)).mono (by walk_at "o")
   have black:Bt 200000 lack:=by
    rw [hlack]
    refine (bc.pow1 _).mono ?_
    have:17825 * (δ + 1 - e) <= 17825 * 9:=Nat.mul_le_mul_left _ (by walk_at "o")
    walk_at "o"
   have bgam:Bt 200000 (c ^ (δ + 1)):=by
    refine (bc.pow1 _).mono ?_
    have:17825 * (δ + 1) <= 17825 * 9:=Nat.mul_le_mul_left _ (by walk_at "o")
    walk_at "o"
   refine tSeq.gen fun M4 hM4=>?_
   walk_at "vc"
   simp only [sp_power]
   refine ⟨g,δ,17825,rfl,by walk_at "o",by decide,I.bh,?_⟩
   rw [rMul_int]
   refine ⟨mulOk I.bx (I.bh.pow1 δ) (by walk_at "o"),hM4 _ _ ?_⟩
   rw [<- htop]
   have ev2:∀ k,c ^ (δ + 1) * nz Fs k = pz (fun i=>lack * nz qs i) (nz Gs) (δ + 1) k + lack * nz rs k:=fun k=>by
    rw [pz_mul,<- Int.mul_add,<- lq2,<- ev k,<- Int.mul_assoc,<- elk,lq2]
   obtain ⟨r,g',hR,bR,r0,ng',bg',hh,next⟩:=I.rest (q:=fun i=>lack * nz qs i) (R:=fun k=>lack * nz rs k) (fun k hk=>by rw [nz_out (by walk_at "o"),Int.mul_zero]) (fun k=>by rw [<- hcd,hδ2]; exact ev2 k)
   rw [hδ2,<- htop] at hR
   rw [<- hcd,hδ2] at hh
   rw [<- hcd] at next
   refine tSeq.gen fun M5 hM5=>?_
   have key:∀ (rc:Addr) (Rs:List Int) (tv':List V) (rows':List (List Int × List Int × Int × Int)) (H':Hp) (u7 u11:Option V),Same (vw K H) (vw K H') -> vw K H' t = some (.lst tv') -> vw K H' ra = some (.lst (Gs.map V.int)) -> vw K H' rc = some (.lst (Rs.map V.int)) -> rc ≠ t -> Rs.length < Gs.length -> tv'.length + Rs.length <= 9 -> (∀ k,nz Rs k = r k) -> IntL9 17825 Rs -> (∀ r,Rsq Gs Rs r -> Rsq ms ns (rows' ++ r)) -> RowsR (vw K H') t tv' rows' -> (∀ row ∈ rows',RowB row) -> M5 [some (.ref oa),some (.ref ra),some (.ref t),some (.int x),some (.int g),some (.int δ),some (.int (c ^ (δ + 1))),u7,some (.ref rc),some (.int S),some (.int top),u11] H':=by
    intro rc Rs tv' rows' H' u7 u11 Sx' ht' hG' hR' nrc lR lt' eR iR gc' rt' rb'
    have fin:∀ u7 u11:Option V,∃ m',m' < Gs.length /\ W m' [some (.ref ra),some (.ref rc),some (.ref t),some (.int c),some (.int g'),some (.int δ),some (.int (c ^ (δ + 1))),u7,some (.ref rc),some (.int S),some (.int top),u11] H':=fun u7 u11=>by
     refine ⟨Rs.length,lR,(hW _ _ _).mpr ⟨ra,rc,Gs,Rs,tv',rows',c,g',_,_,_,_,_,_,_,rfl,rfl,Sx',ht',hG',hR',nra,nrc,g0,lt',by walk_at "o",iG,iR,gc',fun z=>?_,rt',rb'⟩⟩
     have lz:=lp z
     have e1:r = nz Rs:=funext fun k=>(eR k).symm
     have nx:=next (Rs.length - 1) (by walk_at "o") (by rw [<- eR]; exact iR.2.2 z) (fun k hk=>by rw [<- eR]; exact nz_out (by walk_at "o"))
     rw [e1] at nx
     exact ⟨_,nx⟩
    refine hM5 _ _ ?_
    walk_at "vc"
    refine ⟨_,hG',_,atI_end xl,ite2 (fun h0=>?_) (fun h0=>?_)⟩
    ·rcases hh with ⟨z,_⟩ | ⟨_,z2⟩
     ·walk_at "o"
     have δ5:17825 * (δ - 1) <= 17825 * 8:=Nat.mul_le_mul_left _ (by walk_at "o")
     have u0:g ^ (δ - 1) ≠ 0:=Int.pow_ne_zero I.inv.h0
     refine ⟨c,δ,17825,rfl,by walk_at "o",by decide,bc,⟨g,δ - 1,17825,by rw [show ((δ:Int) - 1) = ((δ - 1:Nat):Int) by walk_at "o"],by walk_at "o",by decide,I.bh,_,rfl,_,rfl,u0,?_⟩⟩
     have e1:(c ^ δ).fdiv (g ^ (δ - 1)) = g':=Int.eq_of_mul_eq_mul_right u0 (by rw [fdiv_mul u0 ⟨g',by rw [<- z2,Int.mul_comm]⟩,z2])
     rw [e1]
     exact fin u7 u11
    ·rcases hh with ⟨_,z⟩ | ⟨z,_⟩
     ·rw [<- z]
      exact fin u7 u11
     ·walk_at "o"
   have nt4:t ≠ rb:=ne_of_none ht3 nrb
   walk_at "vc"
   refine ⟨_,tru_lst hrb,ite2 (fun hc2=>?_) (fun hc2=>?_)⟩
   ·have ef:(c ^ (δ + 1)).fdiv S = lack:=Int.eq_of_mul_eq_mul_right S0 (by rw [fdiv_mul S0 ⟨lack,by rw [elk,Int.mul_comm]⟩,elk])
    rw [ef]
    have rs0:rs ≠ []:=fun z=>by rw [z] at hc2; cases hc2
    have lrs:=lp rs0
    refine ⟨S0,⟨_,.of (vw_lst hrb)⟩,fun d6 H6 hd6 S6 h6=>?_⟩
    refine comp_items (its:=rs.map V.int) (fun j zs H'=>Same (vw K H4) (vw K H') /\ zs = ((rs.take j).map fun y=>(lack * y).fdiv top).map V.int) (fun j zs H' _ _ z=>items_list (z.1 _ _ hrb)) h6 ⟨S6,rfl⟩ (fun j y zs H' hj hy h' z=>?_) (fun zs H7 h7 z=>?_)
    ·obtain ⟨z1,rfl⟩:=z
     rw [List.length_map] at hj
     rw [List.getElem?_map,List.getElem?_eq_getElem hj] at hy
     cases hy
     walk_at "vc"
     refine ⟨mulOk black (br _ (List.getElem_mem hj)) (by walk_at "o"),top0,.mk h' ?_ fun H8 B8 h8=>⟨fun y o e=>B8 _ _ (ne_of_none e hd6) (z1 _ _ e),?_⟩⟩
     ·rw [List.length_map,List.length_map,List.length_take]
      have:1000 <= sizeLine:=by decide
      walk_at "o"
     ·rw [List.take_add_one,List.getElem?_eq_getElem hj,List.map_append,List.map_append]
      rfl
    obtain ⟨S47,rfl⟩:=z
    rw [List.length_map,List.take_length] at h7
    refine ⟨ty_lst (S47 _ _ (S4 _ _ ht3)),⟨_,.of (vw_lst (S47 _ _ hqa))⟩,fun d8 H8 hd8 S8 h8=>?_⟩
    refine comp_items (its:=qs.map V.int) (fun j zs H'=>Same (vw K H7) (vw K H') /\ zs = ((qs.take j).map fun y=>lack * y).map V.int) (fun j zs H' _ _ z=>items_list (z.1 _ _ (S47 _ _ hqa))) h8 ⟨S8,rfl⟩ (fun j y zs H' hj hy h' z=>?_) (fun zs H9 h9 z=>?_)
    ·obtain ⟨z1,rfl⟩:=z
     rw [List.length_map] at hj
     rw [List.getElem?_map,List.getElem?_eq_getElem hj] at hy
     cases hy
     walk_at "vc"
     refine ⟨mulOk black (bq _ (List.getElem_mem hj)) (by walk_at "o"),.mk h' ?_ fun H8 B8 h8=>⟨fun y o e=>B8 _ _ (ne_of_none e hd8) (z1 _ _ e),?_⟩⟩
     ·rw [List.length_map,List.length_map,List.length_take]
      have:1000 <= sizeLine:=by decide
      walk_at "o"
     ·rw [List.take_add_one,List.getElem?_eq_getElem hj,List.map_append,List.map_append]
      rfl
    obtain ⟨S79,rfl⟩:=z
    have S49:=S47.trans S79
    refine ⟨by decide,fun p10 H10 hp10 S10 h10=>?_⟩
    have ht10:=S10 _ _ (S49 _ _ (S4 _ _ ht3))
    refine ⟨tv,ht10,?_,fun H11 B11 h11=>?_⟩
    ·have:1000 <= sizeLine:=by decide
     walk_at "o"
    have nt6:t ≠ d6:=ne_of_none (S4 _ _ ht3) hd6
    have nt10:p10 ≠ t:=(ne_of_none (S49 _ _ (S4 _ _ ht3)) hp10).symm
    have S410:=S49.trans S10
    have hd7:=(S79.trans S10) _ _ h7
    have lRs:(rs.map fun y=>(lack * y).fdiv top).length = rs.length:=List.length_map _
    have eR:∀ k,nz (rs.map fun y=>(lack * y).fdiv top) k = r k:=fun k=>by
     have q1:=hR k
     cases ek:rs[k]? with
     | none =>
      have l:=List.getElem?_eq_none_iff.mp ek
      rw [nz_out l,Int.mul_zero] at q1
      rw [nz_out (by rw [lRs]; exact l)]
      rcases Int.mul_eq_zero.mp q1.symm with z | z
      ·exact absurd z top0
      ·exact z.symm
     | some y =>
      rw [nz_get ek] at q1
      rw [nz_get (n:=(lack * y).fdiv top) (by rw [List.getElem?_map,ek]; rfl)]
      exact Int.eq_of_mul_eq_mul_right top0 (by rw [fdiv_mul top0 ⟨_,q1⟩,q1,Int.mul_comm])
    have R0:(rs.map fun y=>(lack * y).fdiv top) ≠ []:=fun z=>rs0 (List.map_eq_nil_iff.mp z)
    have Rl0:nz (rs.map fun y=>(lack * y).fdiv top) ((rs.map fun y=>(lack * y).fdiv top).length - 1) ≠ 0:=by
     rw [lRs,eR]
     intro z
     have q1:=hR (rs.length - 1)
     rw [z,Int.mul_zero] at q1
     rcases Int.mul_eq_zero.mp q1 with y | y
     ·exact Int.pow_ne_zero c0 (hlack ▸ y)
     ·exact lrz (by walk_at "o") y
    have Rb:∀ x ∈ (rs.map fun y=>(lack * y).fdiv top),Bt 17825 x:=fun x hx=>by
     obtain ⟨k,hk⟩:=List.getElem?_of_mem hx
     rw [<- nz_get hk,eR]
     exact bR k
    have nzq:∀ i,nz (qs.map fun y=>lack * y) i = lack * nz qs i:=fun i=>by
     cases ek:qs[i]? with
     | none =>
      have l:=List.getElem?_eq_none_iff.mp ek
      rw [nz_out l,nz_out (by rw [List.length_map]; exact l),Int.mul_zero]
     | some y=>rw [nz_get ek,nz_get (n:=lack * y) (by rw [List.getElem?_map,ek]; rfl)]
    have evR:∀ k,c ^ (δ + 1) * nz Fs k = pz (nz (qs.map fun y=>lack * y)) (nz Gs) (qs.map fun y=>lack * y).length k + top * nz (rs.map fun y=>(lack * y).fdiv top) k:=fun k=>by
     rw [show nz (qs.map fun y=>lack * y) = fun i=>lack * nz qs i from funext nzq,List.length_map,lq2,ev2 k,eR,hR k]
    rw [List.length_map,List.take_length] at h9
    have hq10:=S10 _ _ h9
    have nt8:d8 ≠ t:=(ne_of_none ((S47) _ _ (S4 _ _ ht3)) hd8).symm
    refine key d6 _ (tv ++ [.ref p10]) (rows ++ [(rs.map fun y=>(lack * y).fdiv top,qs.map fun y=>lack * y,top,c ^ (δ + 1))]) H11 _ _ (fun y o e=>B11 _ _ (ne_of_none e nt) ((S3.trans (S4.trans S410)) _ _ e)) h11 (B11 _ _ nra ((S4.trans S410) _ _ hG)) (B11 _ _ nt6.symm hd7) nt6.symm (by rw [lRs]; exact lr) (by rw [lRs,List.length_append]; simp; walk_at "o") eR ⟨by rw [lRs]; walk_at "o",Rb,fun _=>Rl0⟩ (fun r' z=>?_) ⟨by simp [rt.1],fun k row e=>?_⟩ (fun row hrow=>?_)
    ·rw [List.append_assoc]
     exact gc _ (.more g0 (iG.2.2 g0) (Int.pow_ne_zero c0) top0 R0 Rl0 (by rw [lRs]; exact lr) (by rw [List.length_map]; walk_at "o") evR z)
    ·by_cases hk:k < rows.length
     ·rw [List.getElem?_append_left hk] at e
      obtain ⟨p,ra',qa',a1,a2,a3,a4,a5,a6⟩:=rt.2 k row e
      have S3z:=S4.trans S410
      exact ⟨p,ra',qa',by rw [List.getElem?_append_left (by rw [rt.1]; exact hk)]; exact a1,B11 _ _ (fun z=>by rw [z,ht3] at a2; cases a2) (S3z _ _ a2),B11 _ _ a5 (S3z _ _ a3),B11 _ _ a6 (S3z _ _ a4),a5,a6⟩
     ·have hk2:k = rows.length:=by
       have:=(List.getElem?_eq_some_iff.mp e).1
       simp at this
       walk_at "o"
      subst hk2
      rw [List.getElem?_append_right (by walk_at "o"),Nat.sub_self] at e
      cases e
      exact ⟨p10,d6,d8,by rw [List.getElem?_append_right (by rw [rt.1]; walk_at "o"),rt.1,Nat.sub_self]; rfl,B11 _ _ nt10 h10,B11 _ _ nt6.symm hd7,B11 _ _ nt8 hq10,nt6.symm,nt8⟩
    ·rcases List.mem_append.mp hrow with z | z
     ·exact rwb row z
     ·cases List.mem_singleton.mp z
      refine ⟨by rw [lRs]; walk_at "o",fun x hx=>(Rb x hx).mono (by decide),btop,bgam,by rw [List.length_map]; walk_at "o",by rw [List.length_map]; walk_at "o",fun x hx=>?_⟩
      obtain ⟨y,hy,rfl⟩:=List.mem_map.mp hx
      exact (black.mul (bq y hy)).mono (by decide)
   ·have r1:rs = []:=by
     cases rs with
     | nil=>rfl
     | cons _ _=>exact absurd rfl hc2
    subst r1
    refine key rb [] tv rows H4 _ _ (S3.trans S4) (S4 _ _ ht3) (S4 _ _ hG) hrb nt4.symm (by simp; walk_at "o") (by simp; walk_at "o") (fun k=>?_) ⟨by simp,by simp,fun z=>absurd rfl z⟩ (fun r' z=>?_) (rt.same S4) rwb
    ·have:=hR k
     rw [show nz [] k = 0 from nz_out (by simp),Int.mul_zero] at this
     rcases Int.mul_eq_zero.mp this.symm with z | z
     ·exact absurd z top0
     ·rw [show nz [] k = 0 from nz_out (by simp),z]
    ·have er:r' = []:=by
      cases z with
      | nought=>rfl
      | last h _ _ _ _=>exact absurd rfl h
      | more h _ _ _ _ _ _ _ _ _=>exact absurd rfl h
     subst er
     refine gc _ (.last g0 (iG.2.2 g0) S0 (Q:=qs) (by walk_at "o") fun k=>?_)
     rw [ev k,show nz [] k = 0 from nz_out (by simp)]
     walk_at "o"
  ·have g1:Gs = []:=by
    cases Gs with
    | nil=>rfl
    | cons _ _=>exact absurd rfl hc
   subst g1
   walk_at "vc"
   have:=gc [] .nought
   rw [List.append_nil] at this
   exact h t H3 tv rows S3 ht3 rt this (by rw [<- rt.1]; walk_at "o") rwb
def sp_wholes_slope (K:PySem.W.Frag):Sp:=fun vs H Q _=>∃ (a:Addr) (ns:List Int),vs = [.ref a] /\ vw K H a = some (.lst (ns.map V.int)) /\ ns.length <= 9 /\ (∀ x ∈ ns,Bt 200 x) /\
 ∀ d H' (ms:List Int),Same (vw K H) (vw K H') -> vw K H' d = some (.lst (ms.map V.int)) -> vw K H d = none -> ms.length = ns.length - 1 -> (∀ k,nz ms k = ((k + 1:Nat):Int) * nz ns (k + 1)) -> (∀ x ∈ ms,Bt 220 x) -> Q (.ref d) H'
theorem ok_wholes_slope (F:Fun K "wholes_slope" "wholes_slope" s_wholes_slope f fd) (T:Txt K mg):FnOk P w K mg base CX0 1 f fd ["wholes"] (sp_wholes_slope K):=by
 have scN:=sc_wholes_slope.nd
 refine F.okQ sc_wholes_slope (fun vs H Q E h=>?_) (fun cdv A outer s H vs Q E hr h=>?_)
 ·obtain ⟨a,_,rfl,_⟩:=h
  rfl
 ·obtain ⟨a,ns,rfl,ha,lf,hf,h⟩:=h
  refine ⟨_,(qss_one (qs_ret (qe_comp (own:=["k"]) (outs:=["wholes"]) (ixs:=[0]) rfl (qi_range2 rfl T.b_range (qa_cons qe_int (qa_cons (qe_callB call_lenH (by rfl) T.b_len bt_len (qa_cons (qv 0) qa_nil)) qa_nil))) rfl ⟨rfl,rfl,rfl,⟨rfl,trivial⟩,rfl,⟨⟨rfl,rfl,rfl,_,rfl⟩,trivial⟩⟩ (fun _ _ _ _=>⟨(qg_name (i:=0) (show (["k", "wholes"]:List Str).Nodup by decide +kernel) rfl (by walk_at "a1")),qf_nil,(qe_op (show OpR _ _ (rMul K) from op_Mul) (qv 0) (qe_ix (show IxR _ (rIxH K) from ix_h) (qv 1) (qv 0) (fun _ _=>rfl)))⟩)))),?_⟩
  walk_at "m"
  walk_at "vc"
  refine ⟨ns.length,by simp only [lenH,ha,List.length_map],by walk_at "o",by walk_at "o",by walk_at "o",by walk_at "o",fun d H1 hd S1 h1=>?_⟩
  rw [show ((ns.length:Int) - 1).toNat = ns.length - 1 by walk_at "o"]
  refine comp_items (its:=iots 1 (ns.length - 1)) (fun i zs H'=>Same (vw K H) (vw K H') /\ ∃ ms:List Int,ms.length = i /\ zs = ms.map V.int /\ (∀ x ∈ ms,Bt 220 x) /\ ∀ (j:Nat) (x:Int),ms[j]? = some x -> x = ((j + 1:Nat):Int) * nz ns (j + 1))
   (fun _ _ _ _ _ _=>items_range) h1 ⟨S1,[],rfl,rfl,by simp,by simp⟩ (fun i x zs H2 hi hx h2 p=>?_) (fun zs H2 h2 p=>?_)
  ·obtain ⟨S2,ms,lv,rfl,bv,hv⟩:=p
   obtain ⟨hi',rfl⟩:=iots_at hx
   rw [show (1:Int) + (i:Int) = ((i + 1:Nat):Int) by walk_at "o"]
   have hi2:i + 1 < ns.length:=by walk_at "o"
   have bi:Bt 5 ((i + 1:Nat):Int):=by
    show (((i + 1:Nat):Int)).natAbs < 2 ^ 5
    walk_at "o"
   have bn:=hf ns[i + 1] (List.getElem_mem hi2)
   walk_at "vc"
   refine ⟨_,S2 _ _ ha,V.int ns[i + 1],atI_nat (by rw [List.getElem?_map,List.getElem?_eq_getElem hi2]; rfl),?_⟩
   rw [rMul_int]
   refine ⟨mulOk bi bn (by decide),.mk h2 ?_ fun H5 B5 h5=>⟨fun b o e=>B5 _ _ (ne_of_none e hd) (S2 _ _ e),ms ++ [((i + 1:Nat):Int) * ns[i + 1]],by simp [lv],by simp,fun q hq=>?_,fun j q e=>?_⟩⟩
   ·rw [List.length_map,lv]
    have:1000 <= sizeLine:=by decide
    walk_at "o"
   ·rcases List.mem_append.mp hq with z | z
    ·exact bv q z
    ·cases List.mem_singleton.mp z
     exact (bi.mul bn).mono (by decide)
   ·by_cases hj:j < ms.length
    ·rw [List.getElem?_append_left hj] at e
     exact hv j q e
    ·have hj2:j = i:=by
      have:=(List.getElem?_eq_some_iff.mp e).1
      simp at this
      walk_at "o"
     subst hj2
     rw [List.getElem?_append_right (by walk_at "o"),lv,Nat.sub_self] at e
     cases e
     rw [nz_get (List.getElem?_eq_getElem hi2)]
  ·obtain ⟨S2,ms,lv,rfl,bv,hv⟩:=p
   rw [iots_len] at lv
   refine h d H2 ms S2 h2 hd lv (fun k=>?_) bv
   by_cases hk:k < ms.length
   ·rw [nz_get (List.getElem?_eq_getElem hk)]
    exact hv k _ (List.getElem?_eq_getElem hk)
   ·rw [nz_out (by walk_at "o"),nz_out (by walk_at "o"),Int.mul_zero]
def sp_wholes_multiplied (K:PySem.W.Frag):Sp:=fun vs H Q _=>∃ (a b:Addr) (ms ns:List Int) (m n:Nat),vs = [.ref a,.ref b] /\ vw K H a = some (.lst (ms.map V.int)) /\ vw K H b = some (.lst (ns.map V.int)) /\ ms.length <= 40 /\ ns.length <= 40 /\ m <= 40000000 /\ n <= 40000000 /\ (∀ x ∈ ms,Bt m x) /\ (∀ x ∈ ns,Bt n x) /\
 ∀ c H' L,Same (vw K H) (vw K H') -> vw K H' c = some (.lst ((lz L (pz (nz ms) (nz ns) ms.length)).map V.int)) -> vw K H c = none -> L <= ms.length + ns.length -> (ms ≠ [] -> ns ≠ [] -> L + 1 = ms.length + ns.length) -> (∀ k,L <= k -> pz (nz ms) (nz ns) ms.length k = 0) -> Q (.ref c) H'
theorem ok_wholes_multiplied (F:Fun K "wholes_multiplied" "wholes_multiplied" s_wholes_multiplied f fd) (T:Txt K mg):FnOk P w K mg base CX0 1 f fd ["one", "other"] (sp_wholes_multiplied K):=by
 have scN:=sc_wholes_multiplied.nd
 refine F.okQ sc_wholes_multiplied (fun vs H Q E h=>?_) (fun cdv A outer s H vs Q E hr h=>?_)
 ·obtain ⟨a,_,_,_,_,_,rfl,_⟩:=h
  rfl
 ·obtain ⟨a,b,ms,ns,m,n,rfl,ha,hb,lm,ln,hm,hn,bm,bn,h⟩:=h
  refine ⟨_,(qss_cons (qs_if (QW.pt (qw_or (qt_not (qt_truth (qv 0) (fun _=>rfl))) (qw_or1 (qt_not (qt_truth (qv 1) (fun _=>rfl)))))) (qss_one (qs_ret (qe_lstS qa_nil))) qss_nil)
   (qss_cons (qs_set (i:=2) scN rfl (by walk_at "a1") (qe_op op_Mul (qe_lstS (qa_cons qe_int qa_nil)) (qe_op op_sub (qe_op op_Plus (qe_callB call_lenH (by rfl) T.b_len bt_len (qa_cons (qv 0) qa_nil)) (qe_callB call_lenH (by rfl) T.b_len bt_len (qa_cons (qv 1) qa_nil))) qe_int)))
   (qss_cons (qs_for PassesOwn.never rfl (qi_enum rfl T.b_enumerate (qa_cons (qv 0) qa_nil)) (qg_tupH (n:=2) rfl (qgs_cons (qg_name (i:=3) scN rfl (by walk_at "a1")) (qgs_cons (qg_name (i:=4) scN rfl (by walk_at "a1")) qgs_nil))) (qss_one (qs_for PassesOwn.never rfl (qi_enum rfl T.b_enumerate (qa_cons (qv 1) qa_nil)) (qg_tupH (n:=2) rfl (qgs_cons (qg_name (i:=5) scN rfl (by walk_at "a1")) (qgs_cons (qg_name (i:=6) scN rfl (by walk_at "a1")) qgs_nil))) (qss_one (qs_augS (qv 2) (qe_op op_Plus (qv 3) (qv 5)) get_listH (qe_op op_Mul (qv 4) (qv 6)) ip_add set_listS)))))
   (qss_one (qs_ret (qv 2)))))),?_⟩
  walk_at "m"
  walk_at "vc"
  have lena:lenH (vw K H) a = some ms.length:=by simp only [lenH,ha,List.length_map]
  have lenb:lenH (vw K H) b = some ns.length:=by simp only [lenH,hb,List.length_map]
  refine ⟨_,tru_lst ha,ite2 (fun e=>?_) fun e=>?_⟩
  ·have e2:ms = []:=by simpa using e
   subst e2
   exact ⟨by decide,fun c H2 hc S2 h2=>h c H2 0 S2 h2 hc (by simp) (fun z=>absurd rfl z) fun k _=>rfl⟩
  refine ⟨_,tru_lst hb,ite2 (fun e'=>?_) fun e'=>?_⟩
  ·have e2:ns = []:=by simpa using e'
   subst e2
   refine ⟨by decide,fun c H2 hc S2 h2=>h c H2 0 S2 h2 hc (by simp) (fun _ z=>absurd rfl z) fun k _=>?_⟩
   have z:∀ j,pz (nz ms) (nz []) j k = 0:=fun j=>by
    induction j with
    | zero=>rfl
    | succ j ih =>
     show pz (nz ms) (nz []) j k + (if j <= k then nz ms j * nz [] (k - j) else 0) = 0
     rw [ih,nz_out (ns:=[]) (by simp)]
     simp
   exact z _
  have em:0 < ms.length:=by
   cases ms with
   | nil=>exact absurd rfl e
   | cons _ _=>simp
  have en:0 < ns.length:=by
   cases ns with
   | nil=>exact absurd rfl e'
   | cons _ _=>simp
  refine ⟨by decide,fun p1 H1 hp1 S1 h1=>⟨ms.length,(by simp only [lenH,S1 _ _ ha,List.length_map]),ns.length,(by simp only [lenH,S1 _ _ hb,List.length_map]),?_⟩⟩
  obtain ⟨L,hL⟩ : ∃ L,ms.length + ns.length = L + 1:=⟨ms.length + ns.length - 1,by walk_at "o"⟩
  rw [show (ms.length:Int) + (ns.length:Int) - 1 = ((L:Nat):Int) by walk_at "o",rMul_rep]
  refine ⟨_,h1,by walk_at "o",by walk_at "o",?_,fun c H2 hc S2 h2=>?_⟩
  ·have:1000 <= sizeLine:=by decide
   simp
   walk_at "o"
  rw [show ((L:Nat):Int).toNat = L by walk_at "o",rep_lz] at h2
  have S02:=S1.trans S2
  have nc:vw K H c = none:=by
   cases e0:vw K H c with
   | none=>rfl
   | some o=>rw [S1 _ _ e0] at hc; cases hc
  simp only [iEnum]
  walk_at "vc"
  refine ⟨⟨_,S02 _ _ ha⟩,?_⟩
  obtain ⟨Pv,hPv⟩ : ∃ Pv:Nat -> St -> Hp -> Prop,∀ j σ H',Pv j σ H' ↔ ∃ o3 o4 o5 o6,σ = [some (.ref a),some (.ref b),some (.ref c),o3,o4,o5,o6] /\ Same (vw K H) (vw K H') /\ vw K H' c = some (.lst (lz L fun k=>V.int (pz (nz ms) (nz ns) j k))):=⟨_,fun _ _ _=>Iff.rfl⟩
  refine for_rows (rows:=(ms.map V.int).mapIdx fun i x=>[V.int i,x]) Pv (fun j σ H' _ p=>?_) ((hPv _ _ _).mpr ⟨_,_,_,_,rfl,S02,h2⟩) (fun j t σ H3 p H4 hj ht pv hp S4 h4=>?_) (fun σ H3 pv=>?_)
  ·obtain ⟨_,_,_,_,_,S,_⟩:=(hPv _ _ _).mp p
   exact ⟨_,vw_lst (S _ _ ha),rfl⟩
  ·obtain ⟨o3,o4,o5,o6,rfl,S3,h3⟩:=(hPv _ _ _).mp pv
   rw [List.length_mapIdx,List.length_map] at hj
   rw [List.getElem?_mapIdx,List.getElem?_map,List.getElem?_eq_getElem hj] at ht
   cases ht
   walk_at "vc"
   refine ⟨_,h4,rfl,?_⟩
   walk_at "vc"
   have S04:=S3.trans S4
   simp only [iEnum]
   walk_at "vc"
   refine ⟨⟨_,S04 _ _ hb⟩,?_⟩
   obtain ⟨Pw,hPw⟩ : ∃ Pw:Nat -> St -> Hp -> Prop,∀ l σ H',Pw l σ H' ↔ ∃ o5 o6,σ = [some (.ref a),some (.ref b),some (.ref c),some (.int j),some (.int ms[j]),o5,o6] /\ Same (vw K H) (vw K H') /\ vw K H' c = some (.lst (lz L fun k=>V.int (qz (nz ms) (nz ns) j l k))):=⟨_,fun _ _ _=>Iff.rfl⟩
   refine for_rows (rows:=(ns.map V.int).mapIdx fun i x=>[V.int i,x]) Pw (fun l σ H' _ p=>?_) ((hPw _ _ _).mpr ⟨_,_,rfl,S04,?_⟩) (fun l t σ H5 p5 H6 hl ht pw hp5 S6 h6=>?_) (fun σ H5 pw=>?_)
   ·obtain ⟨_,_,_,S,_⟩:=(hPw _ _ _).mp p
    exact ⟨_,vw_lst (S _ _ hb),rfl⟩
   ·rw [S4 _ _ h3]
    congr 2
    exact lz_congr fun k _=>by rw [qz_0]
   ·obtain ⟨o5,o6,rfl,S5,h5⟩:=(hPw _ _ _).mp pw
    rw [List.length_mapIdx,List.length_map] at hl
    rw [List.getElem?_mapIdx,List.getElem?_map,List.getElem?_eq_getElem hl] at ht
    cases ht
    walk_at "vc"
    refine ⟨_,h6,rfl,?_⟩
    walk_at "vc"
    simp only [tAugS,ipI]
    walk_at "vc"
    have hx:=S6 _ _ h5
    have b1:=bm ms[j] (List.getElem_mem hj)
    have b2:=bn ns[l] (List.getElem_mem hl)
    rw [show (j:Int) + (l:Int) = ((j + l:Nat):Int) by walk_at "o"]
    have hjl:j + l < L:=by walk_at "o"
    refine ⟨_,hx,_,atI_nat (lz_get hjl),mulOk b1 b2 (by walk_at "o"),_,rfl,_,hx,j + l,by rw [lz_len]; exact ixN_nat hjl,fun H7 B7 h7=>(hPw _ _ _).mpr ⟨_,_,rfl,?_,?_⟩⟩
    ·exact fun x o e0=>B7 _ _ (ne_of_none e0 nc) (S6 _ _ (S5 _ _ e0))
    ·rw [h7,lz_set]
     congr 2
     refine lz_congr fun k hk=>?_
     rw [qz_at,nz_get (List.getElem?_eq_getElem hj),nz_get (List.getElem?_eq_getElem hl)]
     split <;> rfl
   ·obtain ⟨o5,o6,rfl,S5,h5⟩:=(hPw _ _ _).mp pw
    refine (hPv _ _ _).mpr ⟨_,_,_,_,rfl,S5,?_⟩
    rw [h5,List.length_mapIdx,List.length_map]
    congr 2
    refine lz_congr fun k hk=>?_
    rw [qz_end fun i hi=>nz_out hi]
  ·obtain ⟨o3,o4,o5,o6,rfl,S3,h3⟩:=(hPv _ _ _).mp pv
   rw [List.length_mapIdx,List.length_map] at h3
   walk_at "vc"
   refine h c H3 L S3 (by rw [h3,lz_map]) nc (by walk_at "o") (fun _ _=>by walk_at "o") fun k hk=>?_
   have e1:=pz_cast (f:=nz ms) (g:=nz ns) (F:=fun i=>(nz ms i:Rat)) (G:=fun i=>(nz ns i:Rat)) (c:=1) (d:=1) (fun i=>by grind) (fun i=>by grind) ms.length k
   rw [pr_high (n:=ns.length) (fun i hi=>by rw [nz_out hi]; rfl) ms.length k (by walk_at "o")] at e1
   have e2:((pz (nz ms) (nz ns) ms.length k:Int):Rat) = ((0:Int):Rat):=by rw [e1]; grind
   exact Rat.intCast_inj.mp e2
def sp_sign_of (K:PySem.W.Frag):Sp:=fun vs H Q _=>∃ n:Int,vs = [.int n] /\ Q (.int n.sign) H
theorem ok_sign_of (F:Fun K "sign_of" "sign_of" s_sign_of f fd) (T:Txt K mg):FnOk P w K mg base CX0 1 f fd ["whole"] (sp_sign_of K):=by
 have scN:=sc_sign_of.nd
 refine F.okQ sc_sign_of (fun vs H Q E h=>?_) (fun cdv A outer s H vs Q E hr h=>?_)
 ·obtain ⟨_,rfl,_⟩:=h
  rfl
 ·obtain ⟨n,rfl,h⟩:=h
  refine ⟨_,(qss_cons (qs_if (qt_cmpR op_eq (qv 0) qe_int (nomark _)) (qss_one (qs_ret qe_int)) qss_nil)
   (qss_one (qs_ret (qe_ifExp (qt_cmpR op_gt (qv 0) qe_int (nomark _)) qe_int (qe_un un_neg qe_int))))),?_⟩
  walk_at "m"
  refine tSeq.gen fun N1 hN1=>?_
  walk_at "vc"
  refine ite2 (fun z=>?_) (fun z=>hN1 _ _ ?_)
  ·rw [z] at h
   exact h
  ·walk_at "vc"
   refine ite2 (fun y=>?_) (fun y=>?_)
   ·rwa [Int.sign_eq_one_of_pos y] at h
   ·rwa [Int.sign_eq_neg_one_of_neg (by walk_at "o")] at h
def LLAt (G:Hp) (t:Addr) (Fs:List (List Int)):Prop:=∃ xs,G t = some (.lst xs) /\ xs.length = Fs.length /\ ∀ (k:Nat) F,Fs[k]? = some F -> ∃ l:Addr,xs[k]? = some (.ref l) /\ l ≠ t /\ G l = some (.lst (F.map V.int))
theorem LLAt.same {G G':Hp} {t:Addr} {Fs:List (List Int)} (h:LLAt G t Fs) (S:Same G G'):LLAt G' t Fs:=by
 obtain ⟨xs,a,b,c⟩:=h
 refine ⟨xs,S _ _ a,b,fun k F e=>?_⟩
 obtain ⟨l,e1,e2,e3⟩:=c k F e
 exact ⟨l,e1,e2,S _ _ e3⟩
theorem LLAt.snoc {G G':Hp} {t l:Addr} {xs:List V} {Fs:List (List Int)} {F:List Int} (h:LLAt G t Fs) (hx:G t = some (.lst xs)) (B:But t G G') (nl:l ≠ t) (hl:G l = some (.lst (F.map V.int))) (e:G' t = some (.lst (xs ++ [.ref l]))):LLAt G' t (Fs ++ [F]):=by
 obtain ⟨ys,a,b,c⟩:=h
 rw [hx] at a
 cases a
 refine ⟨_,e,by simp [b],fun k F' ek=>?_⟩
 by_cases hk:k < Fs.length
 ·rw [List.getElem?_append_left hk] at ek
  obtain ⟨m,e1,e2,e3⟩:=c k F' ek
  exact ⟨m,by rw [List.getElem?_append_left (by walk_at "o")]; exact e1,e2,B _ _ e2 e3⟩
 ·have hk2:k = Fs.length:=by
   have:=(List.getElem?_eq_some_iff.mp ek).1
   simp at this
   walk_at "o"
  subst hk2
  rw [List.getElem?_append_right (by walk_at "o"),Nat.sub_self] at ek
  cases ek
  exact ⟨l,by rw [List.getElem?_append_right (by walk_at "o"),b,Nat.sub_self]; rfl,nl,B _ _ nl hl⟩
def sp_changes (K:PySem.W.Frag):Sp:=fun vs H Q _=>∃ (a:Addr) (ss:List Int),vs = [.ref a] /\ vw K H a = some (.lst (ss.map V.int)) /\ Q (.int ((chg 0 ss:Nat):Int)) H
theorem ok_changes (F:Fun K "changes" "changes" s_changes f fd) (T:Txt K mg):FnOk P w K mg base CX0 1 f fd ["signs"] (sp_changes K):=by
 have scN:=sc_changes.nd
 refine F.okQ sc_changes (fun vs H Q E h=>?_) (fun cdv A outer s H vs Q E hr h=>?_)
 ·obtain ⟨_,_,rfl,_⟩:=h
  rfl
 ·obtain ⟨a,ss,rfl,ha,h⟩:=h
  refine ⟨_,(qss_cons (qs_set (i:=1) scN rfl (by walk_at "a1") qe_int)
   (qss_cons (qs_set (i:=2) scN rfl (by walk_at "a1") qe_int)
   (qss_cons (qs_for PassesOwn.never rfl (qi_list (qv 0)) (qg_name (i:=3) scN rfl (by walk_at "a1")) (qss_one (qs_if (qt_cmpR op_ne (qv 3) qe_int (nomark _)) (qss_cons (qs_if (qt_cmpR op_eq (qv 3) (qe_un un_neg (qv 2)) (nomark _)) (qss_one (qs_aug (i:=1) scN rfl (by walk_at "a1") qe_int ip_add)) qss_nil)
   (qss_one (qs_set (i:=2) scN rfl (by walk_at "a1") (qv 3)))) qss_nil)))
   (qss_one (qs_ret (qv 1)))))),?_⟩
  walk_at "m"
  refine tSeq.gen fun N1 hN1=>?_
  walk_at "vc"
  refine hN1 _ _ ?_
  refine tSeq.gen fun N2 hN2=>?_
  walk_at "vc"
  refine hN2 _ _ ?_
  refine tSeq.gen fun N3 hN3=>?_
  walk_at "vc"
  refine ⟨⟨_,.of (vw_lst ha)⟩,?_⟩
  obtain ⟨Pv,hPv⟩ : ∃ Pv:Nat -> St -> Hp -> Prop,∀ i σ H',Pv i σ H' ↔ H' = H /\ ∃ (n:Nat) (l:Int) (o:Option V),σ = [some (.ref a),some (.int n),some (.int l),o] /\ n + chg l (ss.drop i) = chg 0 ss:=⟨_,fun _ _ _=>Iff.rfl⟩
  refine for_items (its:=ss.map V.int) Pv (fun i σ H' _ p=>?_) ((hPv _ _ _).mpr ⟨rfl,0,0,_,rfl,by rw [List.drop_zero]; walk_at "o"⟩) (fun i y σ H1 hi hy pv=>?_) (fun σ H1 pv=>?_)
  ·obtain ⟨rfl,_⟩:=(hPv _ _ _).mp p
   exact items_list ha
  ·obtain ⟨rfl,n,l,o,rfl,e⟩:=(hPv _ _ _).mp pv
   rw [List.length_map] at hi
   rw [List.getElem?_map,List.getElem?_eq_getElem hi] at hy
   cases hy
   rw [List.drop_eq_getElem_cons hi] at e
   walk_at "vc"
   refine ite2 (fun z=>?_) (fun z=>(hPv _ _ _).mpr ⟨rfl,n,l,_,rfl,?_⟩)
   ·rw [chg_n z] at e
    refine ite2 (fun y=>?_) (fun y=>?_)
    ·rw [if_pos y] at e
     exact ⟨_,_,rfl,rfl,(hPv (i + 1) _ _).mpr ⟨rfl,n + 1,ss[i],_,rfl,by walk_at "o"⟩⟩
    ·rw [if_neg y] at e
     exact (hPv (i + 1) _ _).mpr ⟨rfl,n,ss[i],_,rfl,by walk_at "o"⟩
   ·have z:ss[i] = 0:=Classical.not_not.mp z
    rw [z,chg_z] at e
    exact e
  ·obtain ⟨rfl,n,l,o,rfl,e⟩:=(hPv _ _ _).mp pv
   rw [List.length_map,List.drop_length] at e
   have e:n + 0 = chg 0 ss:=e
   refine hN3 _ _ ?_
   walk_at "vc"
   rw [<- e] at h
   exact h
def LsB (B:Nat) (hs:List (List Int)):Prop:=hs.length <= 12 /\ ∀ F ∈ hs,F ≠ [] /\ F.length <= 20 /\ ∀ x ∈ F,Bt B x
def sp_signs_far (K:PySem.W.Frag):Sp:=fun vs H Q _=>∃ (a:Addr) (hs:List (List Int)) (side:Int),vs = [.ref a,.int side] /\ LLAt (vw K H) a hs /\ LsB 600000 hs /\ Pm1 side /\
 ∀ d H',Same (vw K H) (vw K H') -> vw K H' d = some (.lst ((hs.map (farS side)).map V.int)) -> Q (.ref d) H'
theorem ok_signs_far (F:Fun K "signs_far" "signs_far" s_signs_far f fd) (T:Txt K mg) (C_sign_of:Cal P w K mg base "sign_of" ["whole"] 1 (sp_sign_of K)):FnOk P w K mg base CX0 2 f fd ["lists", "side"] (sp_signs_far K):=by
 have scN:=sc_signs_far.nd
 refine F.okQ sc_signs_far (fun vs H Q E h=>?_) (fun cdv A outer s H vs Q E hr h=>?_)
 ·obtain ⟨_,_,_,rfl,_⟩:=h
  rfl
 ·obtain ⟨a,hs,side,rfl,ha,lb,ps,h⟩:=h
  refine ⟨_,(qss_one (qs_ret (qe_comp (own:=["one"]) (outs:=["side"]) (ixs:=[1]) rfl (qi_list (qv 0)) rfl ⟨rfl,rfl,rfl,⟨rfl,trivial⟩,rfl,⟨⟨rfl,rfl,rfl,_,rfl⟩,trivial⟩⟩ (fun _ _ _ _=>⟨(qg_name (i:=0) (show (["one", "side"]:List Str).Nodup by decide +kernel) rfl (by walk_at "a1")),qf_nil,(qe_ifExp (show QT _ _ (tTru K _) from qt_truth (qe_op op_and1 (qe_callB (show CallR _ _ (fun xs H Q=>∃ p,xs = [V.ref p] /\ ∃ n:Nat,lenH (vw K H) p = some n /\ Q (V.int n) H) from call_lenH) (by rfl) T.b_len bt_len (qa_cons (qv 0) qa_nil)) qe_int) (fun _=>rfl)) (qe_cal C_sign_of (hr.mono (by walk_at "a2")) rfl (qa_cons (qe_ix (show IxR _ (rIxH K) from ix_h) (qv 0) (qe_un un_neg qe_int) (fun _ _=>rfl)) qa_nil)) (qe_op (show OpR _ _ (rMul K) from op_Mul) (qv 1) (qe_cal C_sign_of (hr.mono (by walk_at "a2")) rfl (qa_cons (qe_ix (show IxR _ (rIxH K) from ix_h) (qv 0) (qe_un un_neg qe_int) (fun _ _=>rfl)) qa_nil))))⟩)))),?_⟩
  walk_at "m"
  obtain ⟨xs,hxs,lxs,cxs⟩:=id ha
  walk_at "vc"
  refine ⟨⟨_,.of (vw_lst hxs)⟩,fun d H2 hd S2 h2=>?_⟩
  refine comp_items (its:=xs) (fun j zs H'=>Same (vw K H) (vw K H') /\ zs = ((hs.take j).map (farS side)).map V.int) (fun j zs H' _ _ z=>items_list (z.1 _ _ hxs)) h2 ⟨S2,rfl⟩ (fun j x zs H' hj hx h' z=>?_) (fun zs H3 h3 z=>?_)
  ·obtain ⟨z1,rfl⟩:=z
   have hj':j < hs.length:=by walk_at "o"
   obtain ⟨l,e1,_,e3⟩:=cxs j _ (List.getElem?_eq_getElem hj')
   rw [hx] at e1
   cases e1
   obtain ⟨f0,fl,fb⟩:=lb.2 _ (List.getElem_mem hj')
   walk_at "vc"
   simp only [tTru]
   walk_at "vc"
   have e3':=z1 _ _ e3
   have fp:=List.length_pos_iff.mpr f0
   have xl:(hs[j].map V.int).getLast? = some (.int (nz hs[j] (hs[j].length - 1))):=by
    rw [List.getLast?_eq_getElem?,List.length_map,List.getElem?_map,List.getElem?_eq_getElem (show hs[j].length - 1 < hs[j].length by walk_at "o"),nz_get (List.getElem?_eq_getElem (show hs[j].length - 1 < hs[j].length by walk_at "o"))]
    rfl
   have fin:CEl K d (CN K d [some (V.int side)] (fun zs H'=>Same (vw K H) (vw K H') /\ zs = List.map V.int (List.map (farS side) (List.take (j + 1) hs))) [some (V.ref l),some (V.int side)]) (.int (farS side hs[j])) H':=by
    refine .mk h' ?_ fun H8 B8 h8=>⟨fun y o e=>B8 _ _ (ne_of_none e hd) (z1 _ _ e),?_⟩
    ·have:=lb.1
     have:1000 <= sizeLine:=by decide
     simp
     walk_at "o"
    ·rw [List.take_add_one,List.getElem?_eq_getElem hj',List.map_append,List.map_append]
     rfl
   refine ⟨hs[j].length,by simp only [lenH,e3',List.length_map],by walk_at "o",ite2 (fun z=>⟨_,e3',_,atI_end xl,_,rfl,?_⟩) (fun z=>⟨_,e3',_,atI_end xl,_,rfl,?_⟩)⟩
   ·have o:hs[j].length % 2 = 1:=by
     have:((hs[j].length:Nat):Int) % 2 ≠ 0:=by simpa using z
     walk_at "o"
    have e:farS side hs[j] = (nz hs[j] (hs[j].length - 1)).sign:=if_pos o
    rw [e] at fin
    exact fin
   ·have o:¬ hs[j].length % 2 = 1:=fun y=>by
     have:((hs[j].length:Nat):Int) % 2 = 0:=by simpa using z
     walk_at "o"
    have e:farS side hs[j] = side * (nz hs[j] (hs[j].length - 1)).sign:=if_neg o
    rw [e] at fin
    show rMul K (V.int side) (V.int _) H' _
    rw [rMul_int]
    refine ⟨mulOk (m:=2) (n:=2) ?_ ?_ (by decide),fin⟩
    ·rcases ps with y | y <;> rw [y] <;> decide
    ·rcases Int.lt_trichotomy (nz hs[j] (hs[j].length - 1)) 0 with y | y | y
     ·rw [Int.sign_eq_neg_one_of_neg y]; decide
     ·rw [y]; decide
     ·rw [Int.sign_eq_one_of_pos y]; decide
  ·obtain ⟨z1,rfl⟩:=z
   refine h d H3 z1 ?_
   rw [h3,lxs,List.take_length]
def sp_signed_chain (K:PySem.W.Frag):Sp:=fun vs H Q _=>∃ (a b:Addr) (ms ns:List Int),vs = [.ref a,.ref b] /\ vw K H a = some (.lst (ms.map V.int)) /\ vw K H b = some (.lst (ns.map V.int)) /\ ms ≠ [] /\ ns.length <= ms.length /\ IntL9 1110 ms /\ IntL9 1110 ns /\
 ∀ (d:Addr) (H':Hp) rows,Same (vw K H) (vw K H') -> LLAt (vw K H') d (chl1 ms ns rows) -> Rsq ms ns rows -> rows.length <= 9 -> (∀ row ∈ rows,row.1.length <= 9 /\ ∀ x ∈ row.1,Bt 17840 x) -> Q (.ref d) H'
theorem ok_signed_chain (F:Fun K "signed_chain" "signed_chain" s_signed_chain f fd) (T:Txt K mg) (C_wholes_rests:Cal P w K mg base "wholes_rests" ["one", "other"] 3 (sp_wholes_rests K)) (C_sign_of:Cal P w K mg base "sign_of" ["whole"] 1 (sp_sign_of K)):FnOk P w K mg base CX0 4 f fd ["one", "other"] (sp_signed_chain K):=by
 have scN:=sc_signed_chain.nd
 refine F.okQ sc_signed_chain (fun vs H Q E h=>?_) (fun cdv A outer s H vs Q E hr h=>?_)
 ·obtain ⟨_,_,_,_,rfl,_⟩:=h
  rfl
 ·obtain ⟨a,b,ms,ns,rfl,ha,hb,m0,lmn,im,il,h⟩:=h
  refine ⟨_,(qss_cons (qs_set (i:=2) scN rfl (by walk_at "a1") (qe_ifExp (qt_truth (qv 1) (fun _=>rfl)) (qe_lstS (qa_cons (qv 0) (qa_cons (qv 1) qa_nil))) (qe_lstS (qa_cons (qv 0) qa_nil))))
   (qss_cons (qs_asg2 qe_int (qg_name (i:=3) scN rfl (by walk_at "a1")) (qg_name (i:=4) scN rfl (by walk_at "a1")))
   (qss_cons (qs_for PassesOwn.never rfl (qi_list (qe_cal C_wholes_rests (hr.mono (by walk_at "a2")) rfl (qa_cons (qv 0) (qa_cons (qv 1) qa_nil)))) (qg_tupH (n:=4) rfl (qgs_cons (qg_name (i:=5) scN rfl (by walk_at "a1")) (qgs_cons (qg_name (i:=6) scN rfl (by walk_at "a1")) (qgs_cons (qg_name (i:=7) scN rfl (by walk_at "a1")) (qgs_cons (qg_name (i:=8) scN rfl (by walk_at "a1")) qgs_nil))))) (qss_cons (qs_asg (qe_tupS (qa_cons (qv 4) (qa_cons (qe_op op_Mul (qe_op op_Mul (qe_un un_neg (qv 3)) (qe_cal C_sign_of (hr.mono (by walk_at "a2")) rfl (qa_cons (qv 7) qa_nil))) (qe_cal C_sign_of (hr.mono (by walk_at "a2")) rfl (qa_cons (qv 8) qa_nil))) qa_nil))) (qg_tupH (n:=2) rfl (qgs_cons (qg_name (i:=3) scN rfl (by walk_at "a1")) (qgs_cons (qg_name (i:=4) scN rfl (by walk_at "a1")) qgs_nil))))
   (qss_one (qs_expr (qe_bm PySem.F.plainAttrs_list PySem.F.slot_list_append PySem.F.type_list_append mt_appendS (qv 2) (qa_cons (qe_comp (own:=["whole"]) (outs:=["latter"]) (ixs:=[4]) rfl (qi_list (qv 5)) rfl ⟨rfl,rfl,rfl,⟨rfl,trivial⟩,rfl,⟨⟨rfl,rfl,rfl,_,rfl⟩,trivial⟩⟩ (fun _ _ _ _=>⟨(qg_name (i:=0) (show (["whole", "latter"]:List Str).Nodup by decide +kernel) rfl (by walk_at "a1")),qf_nil,(qe_op (show OpR _ _ (rMul K) from op_Mul) (qv 1) (qv 0))⟩)) qa_nil))))))
   (qss_one (qs_ret (qv 2)))))),?_⟩
  walk_at "m"
  refine tSeq.gen fun N1 hN1=>?_
  have key:∀ (t:Addr) (H1:Hp),Same (vw K H) (vw K H1) -> vw K H t = none -> LLAt (vw K H1) t (chl1 ms ns []) -> N1 [some (.ref a),some (.ref b),some (.ref t),none,none,none,none,none,none] H1:=fun t H1 S1 ht l1=>hN1 _ _ ?_
  ·walk_at "vc"
   refine ⟨_,tru_lst hb,ite2 (fun hc=>⟨by decide,fun t H1 ht S1 h1=>key t H1 S1 ht ?_⟩) (fun hc=>⟨by decide,fun t H1 ht S1 h1=>key t H1 S1 ht ?_⟩)⟩
   ·have n0:ns ≠ []:=fun z=>by rw [z] at hc; cases hc
    unfold chl1
    rw [if_neg n0]
    refine ⟨_,h1,rfl,fun k F e=>?_⟩
    match k,e with
    | 0,e=>cases e; exact ⟨a,rfl,ne_of_none ha ht,S1 _ _ ha⟩
    | 1,e=>cases e; exact ⟨b,rfl,ne_of_none hb ht,S1 _ _ hb⟩
   ·have n0:ns = []:=by
     cases ns with
     | nil=>rfl
     | cons _ _=>exact absurd rfl hc
    unfold chl1
    rw [if_pos n0]
    refine ⟨_,h1,rfl,fun k F e=>?_⟩
    match k,e with
    | 0,e=>cases e; exact ⟨a,rfl,ne_of_none ha ht,S1 _ _ ha⟩
  clear hN1
  refine tSeq.gen fun N2 hN2=>?_
  simp only [tAsg2]
  walk_at "vc"
  refine hN2 _ _ ?_
  refine tSeq.gen fun N3 hN3=>?_
  walk_at "vc"
  simp only [sp_wholes_rests]
  refine ⟨a,b,ms,ns,rfl,S1 _ _ ha,S1 _ _ hb,m0,lmn,im,il,fun d H2 tv rows S2 h2 rr rst lrw rb=>⟨d,rfl,⟨_,.of (vw_lst h2)⟩,?_⟩⟩
  have S02:=S1.trans S2
  have l2:=l1.same S2
  obtain ⟨ys,hys,lys,cys⟩:=id l2
  have h0:(chl1 ms ns [])[0]? = some ms:=by
   unfold chl1
   split <;> rfl
  obtain ⟨l0,y0,_,hz0⟩:=cys 0 ms h0
  have ndt:d ≠ t:=fun z=>by
   subst z
   rw [h2] at hys
   cases hys
   have:0 < tv.length:=(List.getElem?_eq_some_iff.mp y0).1
   have hr0:0 < rows.length:=by rw [<- rr.1]; exact this
   obtain ⟨p',_,_,q1,q2,_⟩:=rr.2 0 _ (List.getElem?_eq_getElem hr0)
   rw [q1] at y0
   cases y0
   rw [hz0] at q2
   cases q2
  have nint:∀ (l:Addr) (is:List Int),vw K H2 l = some (.lst (is.map V.int)) -> l ≠ t:=fun l is e z=>by
   subst z
   rw [hys] at e
   cases e
   rw [List.getElem?_map] at y0
   cases q:is[0]? with
   | none=>rw [q] at y0; cases y0
   | some _=>rw [q] at y0; cases y0
  have ntup:∀ (l:Addr) us,vw K H2 l = some (.tup us) -> l ≠ t:=fun l us e z=>by
   subst z
   rw [hys] at e
   cases e
  obtain ⟨Pv,hPv⟩ : ∃ Pv:Nat -> St -> Hp -> Prop,∀ i σ H',Pv i σ H' ↔ ∃ (o5 o6 o7 o8:Option V) (p q:Int) (dn:List (List Int)),σ = [some (.ref a),some (.ref b),some (.ref t),some (.int p),some (.int q),o5,o6,o7,o8] /\ But t (vw K H2) (vw K H') /\ LLAt (vw K H') t (chl1 ms ns [] ++ dn) /\ Pm1 p /\ Pm1 q /\ dn.length = i /\ scs 1 1 rows = dn ++ scs p q (rows.drop i):=⟨_,fun _ _ _=>Iff.rfl⟩
  refine for_items (its:=tv) Pv (fun i σ H' _ q=>?_) ((hPv _ _ _).mpr ⟨_,_,_,_,1,1,[],rfl,fun _ _ _ z=>z,by rw [List.append_nil]; exact l2,.inl rfl,.inl rfl,rfl,rfl⟩) (fun i x σ H9 hi hx pv=>?_) (fun σ H9 pv=>?_)
  ·obtain ⟨_,_,_,_,_,_,_,_,B',_⟩:=(hPv _ _ _).mp q
   exact items_list (B' _ _ ndt h2)
  ·obtain ⟨o5,o6,o7,o8,p,q,dn,rfl,B9,l9,pp,pq,ldn,esc⟩:=(hPv _ _ _).mp pv
   have hir:i < rows.length:=by rw [<- rr.1]; exact hi
   obtain ⟨row,hrow⟩ : ∃ row,rows[i]? = some row:=⟨_,List.getElem?_eq_getElem hir⟩
   obtain ⟨p',ra,qa,t1,t2,t3,t4,_,_⟩:=rr.2 i row hrow
   rw [t1] at hx
   cases hx
   have hmem:=List.mem_of_getElem? hrow
   obtain ⟨rl,rbt,_⟩:=rb row hmem
   obtain ⟨T0,S0,_⟩:=rst.ne row hmem
   walk_at "vc"
   refine ⟨_,B9 _ _ (ntup _ _ t2) t2,rfl,_,_,rfl,_,_,rfl,_,_,rfl,_,_,rfl,rfl,?_⟩
   simp only [sp_sign_of]
   have pb:∀ {y:Int},Pm1 y -> Bt 2 y:=fun h=>by rcases h with z | z <;> rw [z] <;> decide
   have sb:∀ {y:Int},y ≠ 0 -> Pm1 y.sign:=fun h=>by
    rcases sign_pm h with ⟨z,_⟩ | ⟨z,_⟩
    ·exact .inl z
    ·exact .inr z
   have pn:Pm1 (-p):=by rcases pp with z | z <;> rw [z] <;> first | exact .inl rfl | exact .inr rfl
   have pm2:∀ {x y:Int},Pm1 x -> Pm1 y -> Pm1 (x * y):=fun h k=>by rcases h with z | z <;> rcases k with u | u <;> rw [z,u] <;> first | exact .inl rfl | exact .inr rfl
   have p1:=pm2 pn (sb T0)
   have p2:=pm2 p1 (sb S0)
   refine ⟨_,rfl,?_⟩
   rw [rMul_int]
   refine ⟨mulOk (pb pn) (pb (sb T0)) (by decide),_,rfl,?_⟩
   rw [rMul_int]
   obtain ⟨μ,hμ⟩ : ∃ μ,μ = -p * row.2.2.1.sign * row.2.2.2.sign:=⟨_,rfl⟩
   rw [<- hμ] at p2 ⊢
   refine ⟨mulOk (pb p1) (pb (sb S0)) (by decide),by decide,fun u Ha hu Sa ha'=>⟨u,rfl,_,ha',rfl,_,_,rfl,_,_,rfl,rfl,?_⟩⟩
   obtain ⟨ws,hws,lws,cws⟩:=id l9
   have hra:vw K Ha ra = some (.lst (row.1.map V.int)):=Sa _ _ (B9 _ _ (nint _ _ t3) t3)
   refine ⟨ty_lst (Sa _ _ hws),ra,rfl,⟨_,.of (vw_lst hra)⟩,fun d2 Hc hd2 Sc hdc=>?_⟩
   refine comp_items (its:=row.1.map V.int) (fun j zs H'=>Same (vw K Ha) (vw K H') /\ zs = ((row.1.take j).map fun y=>μ * y).map V.int) (fun j zs H' _ _ z=>items_list (z.1 _ _ hra)) hdc ⟨Sc,rfl⟩ (fun j y zs H' hj hy h' z=>?_) (fun zs Hd hdd z=>?_)
   ·obtain ⟨z1,rfl⟩:=z
    rw [List.length_map] at hj
    rw [List.getElem?_map,List.getElem?_eq_getElem hj] at hy
    cases hy
    walk_at "vc"
    refine ⟨mulOk (pb p2) (rbt _ (List.getElem_mem hj)) (by decide),.mk h' ?_ fun H8 B8 h8=>⟨fun y o e=>B8 _ _ (ne_of_none e hd2) (z1 _ _ e),?_⟩⟩
    ·rw [List.length_map,List.length_map,List.length_take]
     have:1000 <= sizeLine:=by decide
     walk_at "o"
    ·rw [List.take_add_one,List.getElem?_eq_getElem hj,List.map_append,List.map_append]
     rfl
   obtain ⟨Sad,rfl⟩:=z
   rw [List.length_map,List.take_length] at hdd
   have S9d:=Sa.trans Sad
   have nd2:d2 ≠ t:=(ne_of_none (Sa _ _ hws) hd2).symm
   refine ⟨ws,S9d _ _ hws,?_,fun Hf Bf hf=>(hPv _ _ _).mpr ⟨_,_,_,_,q,μ,dn ++ [row.1.map fun y=>μ * y],rfl,(B9.same_trans S9d).trans Bf,?_,pq,p2,by simp [ldn],?_⟩⟩
   ·have l3:(chl1 ms ns []).length <= 2:=by
     unfold chl1
     split <;> simp [scs]
    rw [lws,List.length_append]
    have:1000 <= sizeLine:=by decide
    walk_at "o"
   ·rw [<- List.append_assoc]
    exact (l9.same S9d).snoc (S9d _ _ hws) Bf nd2 hdd hf
   ·rw [esc,List.append_assoc]
    congr 1
    have ed:rows.drop i = row :: rows.drop (i + 1):=by
     rw [List.drop_eq_getElem_cons hir]
     congr 1
     rw [List.getElem?_eq_getElem hir] at hrow
     cases hrow
     rfl
    rw [ed,hμ]
    rfl
  ·obtain ⟨o5,o6,o7,o8,p,q,dn,rfl,B9,l9,pp,pq,ldn,esc⟩:=(hPv _ _ _).mp pv
   refine hN3 _ _ ?_
   walk_at "vc"
   refine h t H9 rows (fun y o e=>B9 _ _ (ne_of_none e ht) (S02 _ _ e)) ?_ rst lrw fun row hr=>⟨(rb row hr).1,(rb row hr).2.1⟩
   have e1:rows.drop tv.length = []:=List.drop_eq_nil_of_le (by rw [rr.1]; walk_at "o")
   rw [e1] at esc
   have e2:scs 1 1 rows = dn:=by rw [esc]; exact List.append_nil _
   have e3:chl1 ms ns rows = chl1 ms ns [] ++ dn:=by
    unfold chl1
    by_cases n0:ns = []
    ·rw [if_pos n0,if_pos n0]
     subst n0
     have:rows = []:=by
      cases rst with
      | nought=>rfl
      | last n=>exact absurd rfl n
      | more n=>exact absurd rfl n
     subst this
     rw [<- e2]
     rfl
    ·rw [if_neg n0,if_neg n0,e2]
     rfl
   rw [e3]
   exact l9
def sp_leaning_chain (K:PySem.W.Frag):Sp:=fun vs H Q _=>∃ (a b c:Addr) (W I G:List Int) (n:Nat),vs = [.ref a,.ref b,.ref c] /\ vw K H a = some (.lst (W.map V.int)) /\ vw K H b = some (.lst (I.map V.int)) /\ vw K H c = some (.lst (G.map V.int)) /\ n <= 6 /\ W.length = n + 1 /\ nz W n ≠ 0 /\ I.length = n /\ G.length <= n /\ (∀ x ∈ W,Bt 60 x) /\ (∀ x ∈ I,Bt 64 x) /\ (∀ x ∈ G,Bt 200 x) /\
 ∀ (d:Addr) (H':Hp) (O:List Int) rows (ω s:Rat) (t:Rat -> Rat),Same (vw K H) (vw K H') -> LLAt (vw K H') d (chl1 W O rows) -> LsB 600000 (chl1 W O rows) -> 0 < ω -> 0 < s -> Py t -> O.length <= n -> (O ≠ [] -> nz O (O.length - 1) ≠ 0) -> (∀ x,ω * wf1 O x = s * (wf1 I x * wf1 G x) - t x * wf1 W x) -> Rsq W O rows -> (∀ row ∈ rows,row.1.length <= 9) -> Q (.ref d) H'
theorem ok_leaning_chain (F:Fun K "leaning_chain" "leaning_chain" s_leaning_chain f fd) (T:Txt K mg) (C_wholes_parted:Cal P w K mg base "wholes_parted" ["one", "other"] 2 (sp_wholes_parted K)) (C_wholes_multiplied:Cal P w K mg base "wholes_multiplied" ["one", "other"] 1 (sp_wholes_multiplied K)) (C_signed_chain:Cal P w K mg base "signed_chain" ["one", "other"] 4 (sp_signed_chain K)) (C_sign_of:Cal P w K mg base "sign_of" ["whole"] 1 (sp_sign_of K)) (C_lowered:Cal P w K mg base "lowered" ["wholes"] 2 (sp_lowered K)):FnOk P w K mg base CX0 5 f fd ["wholes", "inclines", "g"] (sp_leaning_chain K):=by
 have scN:=sc_leaning_chain.nd
 refine F.okQ sc_leaning_chain (fun vs H Q E h=>?_) (fun cdv A outer s H vs Q E hr h=>?_)
 ·obtain ⟨_,_,_,_,_,_,_,rfl,_⟩:=h
  rfl
 ·obtain ⟨a,b,c,W,I,G,n,rfl,ha,hb,hc,n6,lW,wz,lI,lG,bW,bI,bG,h⟩:=h
  refine ⟨_,(qss_cons (qs_asg (qe_slice sl_tupS (qe_cal C_wholes_parted (hr.mono (by walk_at "a2")) rfl (qa_cons (qe_cal C_wholes_multiplied (hr.mono (by walk_at "a2")) rfl (qa_cons (qv 1) (qa_cons (qv 2) qa_nil))) (qa_cons (qv 0) qa_nil))) (qo_some qe_int) qo_none) (qg_tupH (n:=2) rfl (qgs_cons (qg_name (i:=3) scN rfl (by walk_at "a1")) (qgs_cons (qg_name (i:=4) scN rfl (by walk_at "a1")) qgs_nil))))
   (qss_one (qs_ret (qe_cal C_signed_chain (hr.mono (by walk_at "a2")) rfl (qa_cons (qv 0) (qa_cons (qe_comp (own:=["whole"]) (outs:=["scale"]) (ixs:=[4]) rfl (qi_list (qe_cal C_lowered (hr.mono (by walk_at "a2")) rfl (qa_cons (qv 3) qa_nil))) rfl ⟨rfl,rfl,rfl,⟨rfl,trivial⟩,rfl,⟨⟨rfl,rfl,rfl,_,rfl⟩,trivial⟩⟩ (fun _ _ _ _=>⟨(qg_name (i:=0) (show (["whole", "scale"]:List Str).Nodup by decide +kernel) rfl (by walk_at "a1")),qf_nil,(qe_op (show OpR _ _ (rMul K) from op_Mul) (qe_cal C_sign_of (hr.mono (by walk_at "a2")) rfl (qa_cons (qv 1) qa_nil)) (qv 0))⟩)) qa_nil)))))),?_⟩
  walk_at "m"
  refine tSeq.gen fun N1 hN1=>?_
  walk_at "vc"
  simp only [sp_wholes_multiplied]
  refine ⟨b,c,I,G,64,200,rfl,hb,hc,by walk_at "o",by walk_at "o",by decide,by decide,bI,bG,fun m H1 L S1 h1 nm lL lL2 zL=>?_⟩
  simp only [sp_wholes_parted]
  obtain ⟨M,hM⟩ : ∃ M,M = lz L (pz (nz I) (nz G) I.length):=⟨_,rfl⟩
  rw [<- hM] at h1
  have lM:M.length = L:=by rw [hM,lz_len]
  have eM:∀ k,nz M k = pz (nz I) (nz G) I.length k:=fun k=>by
   by_cases z:k < L
   ·rw [hM,nz_lz z]
   ·rw [zL k (by walk_at "o"),nz_out (by walk_at "o")]
  have bM:∀ x ∈ M,Bt 270 x:=fun x hx=>by
   obtain ⟨k,hk⟩:=List.getElem?_of_mem hx
   have bz:=pz_bt (nz_bt bI) (nz_bt bG) I.length k
   rw [<- eM,nz_get hk] at bz
   exact bz.mono (by walk_at "o")
  refine ⟨m,a,M,W,270,60,rfl,h1,S1 _ _ ha,by walk_at "o",by rw [lW]; exact wz,by walk_at "o",by walk_at "o",by decide,by decide,bM,bW,fun p5 qa ra S qs rs H5 S5 h5 hqa hra nra lq lr hSe _ bS bq br lrz ev bfine=>?_⟩
  simp only [rSlTS]
  have e5:cutV [V.ref qa,V.ref ra,V.int S] (some 1) none = [V.ref ra,V.int S]:=rfl
  refine ⟨p5,rfl,_,h5,(fun z=>absurd z.1 (show ¬ HT.sIx 3 0 (some 1) = 0 by decide)),fun p6 H6 hp6 S6 h6=>?_⟩
  rw [e5] at h6
  refine ⟨p6,rfl,_,h6,rfl,_,_,rfl,_,_,rfl,rfl,hN1 _ _ ?_⟩
  have S06:=S1.trans (S5.trans S6)
  have br7:∀ x ∈ rs,Bt 640 x:=fun x hx=>(bfine x hx).mono (by
   have:(60 + 1) * (M.length + 1 - W.length) <= (60 + 1) * 6:=Nat.mul_le_mul_left _ (by walk_at "o")
   walk_at "o")
  have S0:S ≠ 0:=by
   obtain ⟨e,_,hS⟩:=hSe
   rw [hS]
   refine Int.pow_ne_zero ?_
   rw [lW]
   exact wz
  obtain ⟨σ,hσ⟩ : ∃ σ,σ = S.sign:=⟨_,rfl⟩
  have pσ:Pm1 σ:=by
   rw [hσ]
   rcases sign_pm S0 with ⟨z,_⟩ | ⟨z,_⟩
   ·exact .inl z
   ·exact .inr z
  walk_at "vc"
  simp only [sp_lowered,sp_sign_of]
  refine ⟨ra,rs,640,rfl,S6 _ _ hra,by walk_at "o",by decide,br7,(fun z=>lrz (fun y=>z (List.length_eq_zero_iff.mp y))),fun d7 H7 ms g S7 h7 n7 l7 g0 e7 p7 b7=>?_⟩
  refine ⟨d7,rfl,⟨_,.of (vw_lst h7)⟩,fun d8 H8 hd8 S8 h8=>?_⟩
  have pb:∀ {y:Int},Pm1 y -> Bt 2 y:=fun h=>by rcases h with z | z <;> rw [z] <;> decide
  refine comp_items (its:=ms.map V.int) (fun j zs H'=>Same (vw K H7) (vw K H') /\ zs = ((ms.take j).map fun y=>σ * y).map V.int) (fun j zs H' _ _ z=>items_list (z.1 _ _ h7)) h8 ⟨S8,rfl⟩ (fun j y zs H' hj hy h' z=>?_) (fun zs H9 h9 z=>?_)
  ·obtain ⟨z1,rfl⟩:=z
   rw [List.length_map] at hj
   rw [List.getElem?_map,List.getElem?_eq_getElem hj] at hy
   cases hy
   walk_at "vc"
   simp only [sp_sign_of]
   refine ⟨S,rfl,?_⟩
   rw [<- hσ,rMul_int]
   refine ⟨mulOk (pb pσ) (b7 _ (List.getElem_mem hj)) (by decide),.mk h' ?_ fun H8' B8 h8'=>⟨fun y o e=>B8 _ _ (ne_of_none e hd8) (z1 _ _ e),?_⟩⟩
   ·rw [List.length_map,List.length_map,List.length_take]
    have:1000 <= sizeLine:=by decide
    walk_at "o"
   ·rw [List.take_add_one,List.getElem?_eq_getElem hj,List.map_append,List.map_append]
    rfl
  obtain ⟨S79,rfl⟩:=z
  rw [List.length_map,List.take_length] at h9
  obtain ⟨O,hO⟩ : ∃ O,O = ms.map fun y=>σ * y:=⟨_,rfl⟩
  rw [<- hO] at h9
  have lO:O.length = ms.length:=by rw [hO,List.length_map]
  have S09:=S06.trans (S7.trans S79)
  have nO:∀ k,nz O k = σ * nz ms k:=fun k=>by rw [hO,nz_mapc]
  have oz:O ≠ [] -> nz O (O.length - 1) ≠ 0:=fun o=>by
   have r0:rs.length ≠ 0:=fun z=>o (List.length_eq_zero_iff.mp (by walk_at "o"))
   have:=lrz r0
   rw [nO,lO,l7]
   rw [e7] at this
   refine Int.mul_ne_zero (by rcases pσ with z | z <;> walk_at "o") fun z=>this (by rw [z]; walk_at "o")
  have bO:∀ x ∈ O,Bt 640 x:=fun x hx=>by
   rw [hO] at hx
   obtain ⟨y,hy,rfl⟩:=List.mem_map.mp hx
   have:=b7 y hy
   unfold Bt at this ⊢
   rcases pσ with z | z <;> rw [z] <;> walk_at "o"
  simp only [sp_signed_chain]
  refine ⟨a,d8,W,O,rfl,S09 _ _ ha,h9,(fun z=>by rw [z] at lW; simp at lW),by walk_at "o",⟨by walk_at "o",fun x hx=>(bW x hx).mono (by decide),fun _=>by rw [lW]; exact wz⟩,⟨by walk_at "o",fun x hx=>(bO x hx).mono (by decide),oz⟩,fun d H' rows Sd ld rq lrw rb=>?_⟩
  have w1:∀ x,wf1 M x = wf1 I x * wf1 G x:=fun x=>by
   have:=EV_rsq (F:=M) (G:=G) (Q:=I) (R:=[]) (S:=1) (T:=0) (by walk_at "o") (fun k=>by rw [eM k]; walk_at "o") x
   have c0:((0:Int):Rat) = 0:=rfl
   have c1:((1:Int):Rat) = 1:=rfl
   rw [c0,c1] at this
   unfold wf1
   grind
  have w2:∀ x,(S:Rat) * wf1 M x = wf1 qs x * wf1 W x + wf1 rs x:=fun x=>by
   have:=EV_rsq (F:=M) (G:=W) (Q:=qs) (R:=rs) (S:=S) (T:=1) (by walk_at "o") (fun k=>by rw [ev k]; walk_at "o") x
   have c1:((1:Int):Rat) = 1:=rfl
   rw [c1] at this
   unfold wf1
   grind
  have w3:∀ x,wf1 rs x = (g:Rat) * wf1 ms x:=fun x=>by
   rw [<- wf1_mapc]
   unfold wf1
   exact EV_congr (fun k=>by
    show (((nz rs k:Int)):Rat) = (((nz (ms.map fun y=>g * y) k:Int)):Rat)
    rw [e7,nz_mapc]) x
  have w4:∀ x,wf1 O x = (σ:Rat) * wf1 ms x:=fun x=>by rw [hO,wf1_mapc]
  have all:=chl1_ok rq (fun z=>by rw [z] at lW; simp at lW) (by rw [lW]; exact wz) (by walk_at "o") (by walk_at "o") oz fun row hr=>(rb row hr).1
  refine h d H' O rows (g:Rat) ((σ * S:Int):Rat) (fun x=>(σ:Rat) * wf1 qs x) (S09.trans Sd) ld ⟨?_,fun F hF=>⟨(all F hF).1,(all F hF).2.1,?_⟩⟩ (Rat.intCast_pos.mpr g0) (Rat.intCast_pos.mpr ?_) ((wf1_py (by walk_at "o")).sc _) (by walk_at "o") oz (fun x=>?_) rq fun row hr=>(rb row hr).1
  ·unfold chl1
   split
   ·simp
   ·rw [List.length_cons,List.length_cons,scs_len]
    walk_at "o"
  ·unfold chl1 at hF
   by_cases o:O = []
   ·rw [if_pos o] at hF
    cases List.mem_singleton.mp hF
    exact fun x hx=>(bW x hx).mono (by decide)
   ·rw [if_neg o] at hF
    rcases List.mem_cons.mp hF with rfl | hF
    ·exact fun x hx=>(bW x hx).mono (by decide)
    rcases List.mem_cons.mp hF with rfl | hF
    ·exact fun x hx=>(bO x hx).mono (by decide)
    obtain ⟨row,hrow,s,ps,rfl⟩:=scs_mem rows 1 1 (fun r hr=>⟨(rq.ne r hr).1,(rq.ne r hr).2.1⟩) (.inl rfl) (.inl rfl) F hF
    intro x hx
    obtain ⟨y,hy,rfl⟩:=List.mem_map.mp hx
    have:=((rb row hrow).2 y hy).mono (n:=600000) (by decide)
    unfold Bt at this ⊢
    rcases ps with z | z <;> rw [z] <;> walk_at "o"
  ·rw [hσ]
   rcases sign_pm S0 with ⟨z,y⟩ | ⟨z,y⟩ <;> rw [z] <;> walk_at "o"
  ·have h1:=w1 x
   have h2:=w2 x
   rw [w3,h1] at h2
   rw [w4,Rat.intCast_mul]
   show (g:Rat) * ((σ:Rat) * wf1 ms x) = (σ:Rat) * (S:Rat) * (wf1 I x * wf1 G x) - (σ:Rat) * wf1 qs x * wf1 W x
   grind
theorem clear_lead {qs:List (Int × Int)} {ns:List Int} {D:Int} (p:PolyOk qs) (q0:qs ≠ []) (ln:ns.length = qs.length) (hD:0 < D) (c:∀ k,((nz ns k:Int):Rat) = cf qs k * (D:Rat)):nz ns (ns.length - 1) ≠ 0:=fun z=>by
 have e:=c (ns.length - 1)
 have p:=poly_lead p q0
 have cD:(D:Rat) ≠ 0:=cast_ne (by walk_at "o")
 rw [z,ln,show ((0:Int):Rat) = 0 from rfl] at e
 grind
theorem alg_a (y z u:Rat):z * (y * u) = 0 + u * (z * y):=by grind
theorem alg_b (s a b c d e:Rat):s * (a * b * (c * d)) - e = s * (a * c) * (b * d) - e:=by grind
theorem wf1_clear {qs:List (Int × Int)} {ns:List Int} {D:Int} (h:∀ k,((nz ns k:Int):Rat) = cf qs k * (D:Rat)) (x:Rat):wf1 ns x = (D:Rat) * EV (cf qs) x:=by
 unfold wf1
 rw [EV_congr (g:=fun k=>0 + (D:Rat) * cf qs k) (fun k=>by
  show ((nz ns k:Int):Rat) = _
  rw [h]; grind),EV_ac,EV_z (f:=fun _=>0) fun _=>rfl]
 grind
def sp_balance (K:PySem.W.Frag):Sp:=fun vs H Q _=>∃ (a b:Addr) (rs ws:List (Int × Int)) (n:Nat),vs = [.ref a,.ref b] /\ LsAt (vw K H) a rs /\ LsAt (vw K H) b ws /\ n <= 6 /\ rs.length = n + 1 /\ PolyOk rs /\ PolyOk ws /\ ws.length <= n /\ Pb 60 (cf rs) /\ Pb 200 (cf ws) /\
 ∀ z H',Same (vw K H) (vw K H') -> Bal (EV (cf rs)) (EV (DF (cf rs))) (EV (cf ws)) n z -> Q (.int z) H'
theorem ok_balance (F:Fun K "balance" "balance" s_balance f fd) (T:Txt K mg) (C_cleared:Cal P w K mg base "cleared" ["f"] 2 (sp_cleared K)) (C_wholes_slope:Cal P w K mg base "wholes_slope" ["wholes"] 1 (sp_wholes_slope K)) (C_leaning_chain:Cal P w K mg base "leaning_chain" ["wholes", "inclines", "g"] 5 (sp_leaning_chain K)) (C_changes:Cal P w K mg base "changes" ["signs"] 1 (sp_changes K)) (C_signs_far:Cal P w K mg base "signs_far" ["lists", "side"] 2 (sp_signs_far K)):FnOk P w K mg base CX0 6 f fd ["f", "g"] (sp_balance K):=by
 have scN:=sc_balance.nd
 refine F.okQ sc_balance (fun vs H Q E h=>?_) (fun cdv A outer s H vs Q E hr h=>?_)
 ·obtain ⟨_,_,_,_,_,rfl,_⟩:=h
  rfl
 ·obtain ⟨a,b,rs,ws,n,rfl,ha,hb,n6,lr,pr',pw,lw,br,bw,h⟩:=h
  refine ⟨_,(qss_cons (qs_set (i:=2) scN rfl (by walk_at "a1") (qe_ix ix_u (qe_cal C_cleared (hr.mono (by walk_at "a2")) rfl (qa_cons (qv 0) qa_nil)) qe_int (fun _ _=>rfl)))
   (qss_cons (qs_set (i:=3) scN rfl (by walk_at "a1") (qe_cal C_leaning_chain (hr.mono (by walk_at "a2")) rfl (qa_cons (qv 2) (qa_cons (qe_cal C_wholes_slope (hr.mono (by walk_at "a2")) rfl (qa_cons (qv 2) qa_nil)) (qa_cons (qe_ix ix_u (qe_cal C_cleared (hr.mono (by walk_at "a2")) rfl (qa_cons (qv 1) qa_nil)) qe_int (fun _ _=>rfl)) qa_nil)))))
   (qss_one (qs_ret (qe_op op_sub (qe_cal C_changes (hr.mono (by walk_at "a2")) rfl (qa_cons (qe_cal C_signs_far (hr.mono (by walk_at "a2")) rfl (qa_cons (qv 3) (qa_cons (qe_un un_neg qe_int) qa_nil))) qa_nil)) (qe_cal C_changes (hr.mono (by walk_at "a2")) rfl (qa_cons (qe_cal C_signs_far (hr.mono (by walk_at "a2")) rfl (qa_cons (qv 3) (qa_cons qe_int qa_nil))) qa_nil))))))),?_⟩
  walk_at "m"
  refine tSeq.gen fun N1 hN1=>?_
  walk_at "vc"
  simp only [sp_cleared]
  have r0:rs ≠ []:=fun z=>by rw [z] at lr; simp at lr
  refine ⟨a,rs,60,rfl,ha,by walk_at "o",by decide,fun q hq=>⟨pr'.1 q hq,br.bq pr'.1 q hq⟩,fun p1 b1 H1 D W S1 h1 hb1 nb1 hD bD lW hW hm=>⟨p1,rfl,_,h1,_,atI_0,hN1 _ _ ?_⟩⟩
  have cl1:=cleared_bt br pr'.1 hD hm lW fun i n q e1 e2=>(hW i n q e1 e2).1
  have cW:=nz_clear lW fun i n q e1 e2=>(hW i n q e1 e2).1
  have nW:=clear_lead pr' r0 lW hD cW
  refine tSeq.gen fun N2 hN2=>?_
  walk_at "vc"
  simp only [sp_wholes_slope]
  refine ⟨b1,W,rfl,hb1,by walk_at "o",fun x hx=>(cl1.2 x hx).mono (by decide),fun d2 H2 I S2 h2 n2 lI eI bI=>?_⟩
  simp only [sp_cleared]
  have S02:=S1.trans S2
  refine ⟨b,ws,200,rfl,hb.same S02,by walk_at "o",by decide,fun q hq=>⟨pw.1 q hq,bw.bq pw.1 q hq⟩,fun p3 b3 H3 D' G S3 h3 hb3 nb3 hD' bD' lG hG hm'=>⟨p3,rfl,_,h3,_,atI_0,?_⟩⟩
  have cl3:=cleared_bt bw pw.1 hD' hm' lG fun i n q e1 e2=>(hG i n q e1 e2).1
  have cG:=nz_clear lG fun i n q e1 e2=>(hG i n q e1 e2).1
  simp only [sp_leaning_chain]
  have bI':∀ x ∈ I,Bt 64 x:=fun x hx=>by
   obtain ⟨k,hk⟩:=List.getElem?_of_mem hx
   have kl:=(List.getElem?_eq_some_iff.mp hk).1
   have e:=eI k
   rw [nz_get hk] at e
   rw [e]
   have b3:Bt 4 ((k + 1:Nat):Int):=by
    show ((k + 1:Nat):Int).natAbs < 2 ^ 4
    walk_at "o"
   exact b3.mul (nz_bt cl1.2 (k + 1))
  refine ⟨b1,d2,b3,W,I,G,n,rfl,(S2.trans S3) _ _ hb1,S3 _ _ h2,hb3,n6,by walk_at "o",?_,by walk_at "o",by walk_at "o",cl1.2,bI',cl3.2,fun d H4 O rows ω s t S4 ld lsb kω ks pt lO oz eO rq lrows=>hN2 _ _ ?_⟩
  ·rw [show n = W.length - 1 by walk_at "o"]
   exact nW
  have S04:=S02.trans (S3.trans S4)
  walk_at "vc"
  simp only [sp_signs_far,sp_changes]
  refine ⟨d,_,-1,rfl,ld,lsb,.inr rfl,fun d5 H5 S5 h5=>⟨d5,_,rfl,h5,d,_,1,rfl,ld.same S5,lsb,.inl rfl,fun d6 H6 S6 h6=>⟨d6,_,rfl,h6,?_⟩⟩⟩
  refine ⟨_,rfl,_,rfl,h (farZ (chl1 W O rows)) H6 (S04.trans (S5.trans S6)) ⟨W,O,rows,(D:Rat),s * ((D:Rat) * (D':Rat)),ω,t,Rat.intCast_pos.mpr hD,Rat.mul_pos ks (Rat.mul_pos (Rat.intCast_pos.mpr hD) (Rat.intCast_pos.mpr hD')),kω,pt,by walk_at "o",?_,wf1_clear cW,lO,oz,fun x=>?_,rq,lrows,rfl⟩⟩
  ·rw [show n = W.length - 1 by walk_at "o"]
   exact nW
  ·have e1:wf1 I x = (D:Rat) * EV (DF (cf rs)) x:=by
    unfold wf1
    rw [EV_congr (g:=fun k=>0 + (D:Rat) * DF (cf rs) k) (fun k=>by
     show ((nz I k:Int):Rat) = 0 + (D:Rat) * DF (cf rs) k
     rw [eI,Rat.intCast_mul,cW]
     unfold DF
     exact alg_a _ _ _),EV_ac,EV_z (f:=fun _=>0) fun _=>rfl]
    grind
   rw [eO x,e1,wf1_clear cG]
   exact alg_b s _ _ _ _ _
def sp_is_whole (K:PySem.W.Frag):Sp:=fun vs H Q _=>∃ x d,vs = [x] /\ Rep (vw K H) d x /\ Q (.bl d.isInt) H
theorem ok_is_whole (F:Fun K "is_whole" "is_whole" s_is_whole f fd) (T:Txt K mg):FnOk P w K mg base CX0 1 f fd ["thing"] (sp_is_whole K):=by
 have scN:=sc_is_whole.nd
 refine F.okQ sc_is_whole (fun vs H Q E h=>?_) (fun cdv A outer s H vs Q E hr h=>?_)
 ·obtain ⟨a,_,rfl,_⟩:=h
  rfl
 ·obtain ⟨x,d,rfl,hx,h⟩:=h
  refine ⟨_,(qss_one (qs_ret (qe_and (qe_callB call_isinst (by rfl) T.b_isinstance bt_isinstance (qa_cons (qv 0) (qa_cons (qe_bltn (v:=V.ty "int") rfl T.b_int bt_int rfl) qa_nil))) (qe_one (qe_not (qe_callB call_isinst (by rfl) T.b_isinstance bt_isinstance (qa_cons (qv 0) (qa_cons (qe_bltn (v:=V.ty "bool") rfl T.b_bool bt_bool rfl) qa_nil)))))))),?_⟩
  walk_at "m"
  have ht:=Rep.ty hx
  walk_at "vc*"
  cases d <;> simpa [D.ty,instN,D.isInt] using h
def sp_is_fraction (K:PySem.W.Frag):Sp:=fun vs H Q _=>∃ x d,vs = [x] /\ Rep (vw K H) d x /\ Q (.bl d.frac) H
theorem ok_is_fraction (F:Fun K "is_fraction" "is_fraction" s_is_fraction f fd) (T:Txt K mg) (C_is_whole:Cal P w K mg base "is_whole" ["thing"] 1 (sp_is_whole K))
  (C_greatest_divisor:Cal P w K mg base "greatest_divisor" ["one", "other"] 1 (sp_greatest_divisor K)):FnOk P w K mg base CX0 2 f fd ["thing"] (sp_is_fraction K):=by
 have scN:=sc_is_fraction.nd
 refine F.okQ sc_is_fraction (fun vs H Q E h=>?_) (fun cdv A outer s H vs Q E hr h=>?_)
 ·obtain ⟨a,_,rfl,_⟩:=h
  rfl
 ·obtain ⟨x,d,rfl,hx,h⟩:=h
  refine ⟨_,(qss_cons (qs_if (QW.pt (qw_or (qt_not (qt_val (qe_callB call_isinst (by rfl) T.b_isinstance bt_isinstance (qa_cons (qv 0) (qa_cons (qe_bltn (v:=V.ty "tuple") rfl T.b_tuple bt_tuple rfl) qa_nil))))) (qw_or1 (qt_cmpR op_ne (qe_callB call_lenH (by rfl) T.b_len bt_len (qa_cons (qv 0) qa_nil)) qe_int (nomark _))))) (qss_one (qs_ret qe_bl)) qss_nil)
   (qss_cons (qs_asg (qv 0) (qg_tupH (n:=2) rfl (qgs_cons (qg_name (i:=1) scN rfl (by walk_at "a1")) (qgs_cons (qg_name (i:=2) scN rfl (by walk_at "a1")) qgs_nil))))
   (qss_cons (qs_if (QW.pt (qw_or (qt_not (qt_val (qe_cal C_is_whole (hr.mono (by walk_at "a2")) rfl (qa_cons (qv 1) qa_nil)))) (qw_or (qt_not (qt_val (qe_cal C_is_whole (hr.mono (by walk_at "a2")) rfl (qa_cons (qv 2) qa_nil)))) (qw_or1 (qt_cmpR op_lt (qv 2) qe_int (nomark _)))))) (qss_one (qs_ret qe_bl)) qss_nil)
   (qss_one (qs_ret (qe_cmpR op_eq (qe_cal C_greatest_divisor (hr.mono (by walk_at "a2")) rfl (qa_cons (qv 1) (qa_cons (qv 2) qa_nil))) qe_int (nomark _))))))),?_⟩
  walk_at "m"
  have ht:=Rep.ty hx
  walk_at "vc*"
  simp only [sp_is_whole,sp_greatest_divisor]
  walk_at "vc*"
  cases d with
  | tup ds =>
   obtain ⟨a,xs,rfl,ha,r⟩:=hx.tup_at
   refine iteN (by simp [D.ty,instN]) ⟨a,rfl,xs.length,by simp only [lenH,ha],ite2 (fun hl=>?_) (fun hl=>?_)⟩
   ·have e:(D.tup ds).frac = false:=by
     cases e:(D.tup ds).frac with
     | false=>rfl
     | true =>
      obtain ⟨_,_,rfl,_⟩:=D.frac_tup e
      have:=r.length
      simp at this
      walk_at "o"
    rw [e] at h
    exact h
   ·obtain ⟨d1,d2,x1,x2,rfl,rfl,r1,r2⟩:=r.pair (by walk_at "o")
    refine ⟨a,rfl,_,ha,rfl,_,_,rfl,_,_,rfl,rfl,d1,r1,ite2 (fun i1=>?_) (fun i1=>⟨d2,r2,ite2 (fun i2=>?_) (fun i2=>?_)⟩)⟩
    ·cases d1 <;> first | exact h | cases i1
    ·cases d1 <;> cases d2 <;> first | exact h | cases i2
    ·obtain ⟨i1',rfl⟩:=D.isInt_of i1
     obtain ⟨i2',rfl⟩:=D.isInt_of i2
     cases r1.int_at
     cases r2.int_at
     refine ⟨_,rfl,ite2 (fun hi=>?_) (fun hi=>⟨_,rfl,_,rfl,?_⟩)⟩
     ·have e:=frac_le (t:=i1') (b:=i2') (by walk_at "o")
      rw [e] at h
      exact h
     ·have e:=frac_gt (t:=i1') (b:=i2') (by walk_at "o")
      rw [e] at h
      exact h
  | _=>exact iteP (by simp [D.ty,instN]) h
def sp_is_polynomial (K:PySem.W.Frag):Sp:=fun vs H Q _=>∃ x d,vs = [x] /\ Rep (vw K H) d x /\ Q (.bl d.poly) H
theorem ok_is_polynomial (F:Fun K "is_polynomial" "is_polynomial" s_is_polynomial f fd) (T:Txt K mg) (C_is_fraction:Cal P w K mg base "is_fraction" ["thing"] 2 (sp_is_fraction K)):FnOk P w K mg base CX0 3 f fd ["thing"] (sp_is_polynomial K):=by
 have scN:=sc_is_polynomial.nd
 refine F.okQ sc_is_polynomial (fun vs H Q E h=>?_) (fun cdv A outer s H vs Q E hr h=>?_)
 ·obtain ⟨a,_,rfl,_⟩:=h
  rfl
 ·obtain ⟨x,d,rfl,hx,h⟩:=h
  obtain ⟨z_ZERO,hg_ZERO,hv_ZERO⟩:=T.g_ZERO
  refine ⟨_,(qss_cons (qs_if (qt_not (qt_val (qe_callB call_isinst (by rfl) T.b_isinstance bt_isinstance (qa_cons (qv 0) (qa_cons (qe_bltn (v:=V.ty "list") rfl T.b_list bt_list rfl) qa_nil))))) (qss_one (qs_ret qe_bl)) qss_nil)
   (qss_cons (qs_for PassesOwn.never rfl (qi_list (qv 0)) (qg_name (i:=1) scN rfl (by walk_at "a1")) (qss_one (qs_if (qt_not (qt_val (qe_cal C_is_fraction (hr.mono (by walk_at "a2")) rfl (qa_cons (qv 1) qa_nil)))) (qss_one (qs_ret qe_bl)) qss_nil)))
   (qss_one (qs_ret (qe_or (qe_cmpR op_eq (qe_callB call_lenH (by rfl) T.b_len bt_len (qa_cons (qv 0) qa_nil)) qe_int (nomark _)) (qe_one (qe_cmpR (op_neD hr.u64) (qe_ix ix_h (qv 0) (qe_un un_neg qe_int) (fun _ _=>rfl)) (qe_glob (v:=V.ref z_ZERO) rfl hg_ZERO rfl) (nomark _)))))))),?_⟩
  walk_at "m"
  have ht:=Rep.ty hx
  walk_at "vc*"
  cases d with
  | lst ds =>
   obtain ⟨a,xs,rfl,ha,r⟩:=hx.lst_at
   refine iteN (by simp [D.ty,instN]) ⟨a,rfl,⟨xs,.of (vw_lst ha)⟩,?_⟩
   refine for_items (its:=xs) (fun i σ H'=>H' = H /\ (∃ y,σ = [some (.ref a),y]) /\ (ds.take i).all D.frac = true) (fun i σ H' _ p=>by cases p.1; exact items_list ha) ⟨rfl,⟨_,rfl⟩,rfl⟩ ?_ ?_
   ·rintro i x σ H' hi hx' ⟨rfl,⟨y,rfl⟩,hall⟩
    obtain ⟨d',hd',r'⟩:=r.get hx'
    walk_at "vc"
    simp only [sp_is_fraction]
    walk_at "vc"
    refine ⟨d',r',ite2 (fun hf=>?_) (fun hf=>?_)⟩
    ·have e:(D.lst ds).poly = false:=by
      unfold D.poly
      rw [Bool.and_eq_false_iff]
      exact .inl (List.all_eq_false.mpr ⟨d',List.mem_of_getElem? hd',by simpa using hf⟩)
     rw [e] at h
     exact h
    ·rw [List.take_add_one,hd']
     simp only [List.all_append,hall,Option.toList,List.all_cons,List.all_nil]
     simpa using hf
   ·rintro σ H' ⟨rfl,⟨y,rfl⟩,hall⟩
    have hall':ds.all D.frac = true:=by rwa [r.length,List.take_length] at hall
    have hlen:lenH (vw K H') a = some xs.length:=by simp only [lenH,ha]
    walk_at "vc"
    refine ⟨_,hlen,ite2 (fun h0=>?_) (fun h0=>?_)⟩
    ·have e:ds = []:=by
      have:=r.length
      exact List.eq_nil_of_length_eq_zero (by walk_at "o")
     subst e
     exact h
    ·have hn:ds ≠ []:=by
      rintro rfl
      exact h0 (by rw [r.length]; rfl)
     obtain ⟨q,hq,fq⟩:=fracs_last hall' hn
     obtain ⟨x,hx',rx⟩:=r.last hq
     refine ⟨_,ha,x,atI_end hx',_,rx,fr (0,1),rep_pair (hv_ZERO _),cmp_fr _,cmp_fr _,?_⟩
     rw [peq_fr]
     have e:(D.lst ds).poly = !decide (q = (0,1)):=by
      show (ds.all D.frac && lastOk ds) = _
      rw [hall',Bool.true_and]
      exact lastOk_fr hq
     rw [e] at h
     exact h
  | _=>exact iteP (by simp [D.ty,instN]) h
def flkD:D -> Bool
 | .tup [.lst rs,.lst ws]=>(D.lst rs).poly && (D.lst ws).poly && decide (1 <= rs.length) && decide (rs.length <= 7) && decide (ws.length < rs.length) && (match rs.getLast? with | some (.tup [.int 1,.int 1])=>true | _=>false)
 | _=>false
def pl (qs:List (Int × Int)):D:=.lst (qs.map fr)
theorem pl_poly {qs:List (Int × Int)} (h:PolyOk qs):(pl qs).poly = true:=by
 show ((qs.map fr).all D.frac && lastOk (qs.map fr)) = true
 have h1:(qs.map fr).all D.frac = true:=List.all_eq_true.mpr fun d hd=>by
  obtain ⟨q,hq,rfl⟩:=List.mem_map.mp hd
  exact frac_fr (h.1 q hq)
 rw [h1,Bool.true_and]
 cases e:qs.getLast? with
 | none =>
  cases List.getLast?_eq_none_iff.mp e
  rfl
 | some q =>
  rw [lastOk_fr (q:=q) (by rw [List.getLast?_map,e]; rfl)]
  have:=h.2 q e
  simp only [Bool.not_eq_true',decide_eq_false_iff_not]
  intro z
  rw [z] at this
  exact this rfl
theorem flk_of {rs ws:List (Int × Int)} {n:Nat} (n6:n <= 6) (lr:rs.length = n + 1) (pr':PolyOk rs) (pw:PolyOk ws) (lw:ws.length <= n) (l1:rs.getLast? = some (1,1)):flkD (.tup [pl rs,pl ws]) = true:=by
 show ((pl rs).poly && (pl ws).poly && decide (1 <= (rs.map fr).length) && decide ((rs.map fr).length <= 7) && decide ((ws.map fr).length < (rs.map fr).length) && (match (rs.map fr).getLast? with | some (.tup [.int 1,.int 1])=>true | _=>false)) = true
 rw [pl_poly pr',pl_poly pw,List.getLast?_map,l1,List.length_map,List.length_map,decide_eq_true (show 1 <= rs.length by walk_at "o"),decide_eq_true (show rs.length <= 7 by walk_at "o"),decide_eq_true (show ws.length < rs.length by walk_at "o")]
 rfl
theorem flk_two {ds:List D} (h:flkD (.tup ds) = true):ds.length = 2:=by
 match ds,h with
 | [_,_],_=>rfl
 | [],h=>simp [flkD] at h
 | [_],h=>simp [flkD] at h
 | _ :: _ :: _ :: _,h=>simp [flkD] at h
theorem last11 {ds:List D} {q:Int × Int} (h:ds.getLast? = some (fr q)):(match ds.getLast? with | some (.tup [.int 1,.int 1])=>true | _=>false) = decide (q = (1,1)):=by
 rw [h]
 obtain ⟨a,b⟩:=q
 unfold fr
 simp only [Prod.mk.injEq]
 split
 ·rename_i e
  simp only [Option.some.injEq,D.tup.injEq,List.cons.injEq,D.int.injEq,and_true] at e
  simp [e]
 ·rename_i e
  by_cases h1:a = 1
  ·by_cases h2:b = 1
   ·subst h1 h2
    exact absurd rfl e
   ·simp [h2]
  ·simp [h1]
theorem flk_poly {r w:D} (h:flkD (.tup [r,w]) = true):r.poly = true /\ w.poly = true:=by
 cases r with
 | lst rs =>
  cases w with
  | lst ws =>
   unfold flkD at h
   simp only [Bool.and_eq_true] at h
   exact ⟨h.1.1.1.1.1,h.1.1.1.1.2⟩
  | _=>exact absurd h (by simp [flkD])
 | _=>exact absurd h (by simp [flkD])
theorem poly_lst {r:D} (h:r.poly = true):∃ ds,r = .lst ds /\ ds.all D.frac = true:=by
 cases r with
 | lst ds =>
  have h:(ds.all D.frac && lastOk ds) = true:=h
  rw [Bool.and_eq_true] at h
  exact ⟨ds,rfl,h.1⟩
 | _=>exact absurd h (by simp [D.poly])
def sp_is_flock (K:PySem.W.Frag):Sp:=fun vs H Q _=>∃ x d,vs = [x] /\ Rep (vw K H) d x /\ ((flkD d = false /\ ∀ H',Same (vw K H) (vw K H') -> Q (.bl false) H') \/ ∃ (rs ws:List (Int × Int)) (n:Nat),d = .tup [pl rs,pl ws] /\ n <= 6 /\ rs.length = n + 1 /\ PolyOk rs /\ PolyOk ws /\ ws.length <= n /\ rs.getLast? = some (1,1) /\ Pb 60 (cf rs) /\ Pb 200 (cf ws) /\
 ∀ z H',Same (vw K H) (vw K H') -> Bal (EV (cf rs)) (EV (DF (cf rs))) (EV (cf ws)) n z -> Q (.bl (decide (z = (n:Int)))) H')
theorem ok_is_flock (F:Fun K "is_flock" "is_flock" s_is_flock f fd) (T:Txt K mg) (C_is_polynomial:Cal P w K mg base "is_polynomial" ["thing"] 3 (sp_is_polynomial K)) (C_balance:Cal P w K mg base "balance" ["f", "g"] 6 (sp_balance K)):FnOk P w K mg base CX0 7 f fd ["thing"] (sp_is_flock K):=by
 have scN:=sc_is_flock.nd
 refine F.okQ sc_is_flock (fun vs H Q E h=>?_) (fun cdv A outer s H vs Q E hr h=>?_)
 ·obtain ⟨a,_,rfl,_⟩:=h
  rfl
 ·obtain ⟨x,d,rfl,hx,h⟩:=h
  obtain ⟨z_ONE,hg_ONE,hv_ONE⟩:=T.g_ONE
  obtain ⟨t_MOST,hg_MOST_ROOTS⟩:=T.i_MOST_ROOTS
  refine ⟨_,(qss_cons (qs_if (QW.pt (qw_or (qt_not (qt_val (qe_callB call_isinst (by rfl) T.b_isinstance bt_isinstance (qa_cons (qv 0) (qa_cons (qe_bltn (v:=V.ty "tuple") rfl T.b_tuple bt_tuple rfl) qa_nil))))) (qw_or1 (qt_cmpR op_ne (qe_callB call_lenH (by rfl) T.b_len bt_len (qa_cons (qv 0) qa_nil)) qe_int (nomark _))))) (qss_one (qs_ret qe_bl)) qss_nil)
   (qss_cons (qs_asg (qv 0) (qg_tupH (n:=2) rfl (qgs_cons (qg_name (i:=1) scN rfl (by walk_at "a1")) (qgs_cons (qg_name (i:=2) scN rfl (by walk_at "a1")) qgs_nil))))
   (qss_cons (qs_if (QW.pt (qw_or (qt_not (qt_val (qe_cal C_is_polynomial (hr.mono (by walk_at "a2")) rfl (qa_cons (qv 1) qa_nil)))) (qw_or1 (qt_not (qt_val (qe_cal C_is_polynomial (hr.mono (by walk_at "a2")) rfl (qa_cons (qv 2) qa_nil))))))) (qss_one (qs_ret qe_bl)) qss_nil)
   (qss_cons (qs_set (i:=3) scN rfl (by walk_at "a1") (qe_op op_sub (qe_callB call_lenH (by rfl) T.b_len bt_len (qa_cons (qv 1) qa_nil)) qe_int))
   (qss_cons (qs_if (QW.pt (qw_or (qt_cmpR op_lt (qv 3) qe_int (nomark _)) (qw_or (qt_cmpR op_gt (qv 3) (qe_glob (v:=V.int 6) rfl hg_MOST_ROOTS ⟨_,rfl⟩) (nomark _)) (qw_or (qt_cmpR (op_neD hr.u64) (qe_ix ix_h (qv 1) (qe_un un_neg qe_int) (fun _ _=>rfl)) (qe_glob (v:=V.ref z_ONE) rfl hg_ONE rfl) (nomark _)) (qw_or1 (qt_cmpR op_gt (qe_callB call_lenH (by rfl) T.b_len bt_len (qa_cons (qv 2) qa_nil)) (qv 3) (nomark _))))))) (qss_one (qs_ret qe_bl)) qss_nil)
   (qss_one (qs_ret (qe_cmpR op_eq (qe_cal C_balance (hr.mono (by walk_at "a2")) rfl (qa_cons (qv 1) (qa_cons (qv 2) qa_nil))) (qv 3) (nomark _))))))))),?_⟩
  walk_at "m"
  have ht:=Rep.ty hx
  refine tSeq.gen fun N1 hN1=>?_
  walk_at "vc*"
  have no:flkD d = false -> ∀ H',Same (vw K H) (vw K H') -> Q (.bl false) H':=fun z=>by
   rcases h with h | ⟨rs,ws,n,rfl,n6,lr,pr',pw,lw,l1,_⟩
   ·exact h.2
   ·rw [flk_of n6 lr pr' pw lw l1] at z
    cases z
  cases d with
  | tup ds =>
   obtain ⟨a,xs,rfl,ha,r⟩:=hx.tup_at
   refine iteN (by simp [D.ty,instN]) ⟨a,rfl,xs.length,(by simp only [lenH,ha]),ite2 (fun h2=>?_) (fun h2=>hN1 _ _ ?_)⟩
   ·refine no ?_ H .rfl
    have:=r.length
    rw [<- Bool.not_eq_true]
    intro y
    have:=flk_two y
    exact h2 (by walk_at "o")
   have l2:ds.length = 2:=by
    have:=r.length
    have:((xs.length:Nat):Int) = 2:=Classical.not_not.mp h2
    walk_at "o"
   obtain ⟨dr,dw,rfl⟩ : ∃ dr dw,ds = [dr,dw]:=by
    match ds,l2 with
    | [p,q],_=>exact ⟨p,q,rfl⟩
   obtain ⟨u,xs1,rfl,ru,r1⟩:=r.cons_at
   obtain ⟨v,xs2,rfl,rv,r2⟩:=r1.cons_at
   obtain rfl:=r2.nil_at
   refine tSeq.gen fun N2 hN2=>?_
   walk_at "vc"
   refine ⟨_,ha,rfl,_,_,rfl,_,_,rfl,rfl,hN2 _ _ ?_⟩
   refine tSeq.gen fun N3 hN3=>?_
   walk_at "vc"
   simp only [sp_is_polynomial]
   refine ⟨u,dr,rfl,ru,_,rfl,ite2 (fun z=>no ?_ H .rfl) (fun z1=>⟨v,dw,rfl,rv,_,rfl,ite2 (fun z=>no ?_ H .rfl) (fun z2=>hN3 _ _ ?_)⟩)⟩
   ·rw [<- Bool.not_eq_true]
    intro y
    rw [(flk_poly y).1] at z
    cases z
   ·rw [<- Bool.not_eq_true]
    intro y
    rw [(flk_poly y).2] at z
    cases z
   obtain ⟨rds,rfl,ra⟩:=poly_lst ((Bool.not_eq_false _).mp z1)
   obtain ⟨wds,rfl,wa⟩:=poly_lst ((Bool.not_eq_false _).mp z2)
   obtain ⟨b,us,rfl,hb,rus⟩:=ru.lst_at
   obtain ⟨c,vs,rfl,hc,rvs⟩:=rv.lst_at
   have lu:=rus.length
   have lv:=rvs.length
   have flk:flkD (.tup [.lst rds,.lst wds]) = (decide (1 <= rds.length) && decide (rds.length <= 7) && decide (wds.length < rds.length) && (match rds.getLast? with | some (.tup [.int 1,.int 1])=>true | _=>false)):=by
    show ((D.lst rds).poly && (D.lst wds).poly && _ && _ && _ && _) = _
    rw [(Bool.not_eq_false _).mp z1,(Bool.not_eq_false _).mp z2]
    rfl
   refine tSeq.gen fun N4 hN4=>?_
   walk_at "vc"
   refine ⟨us.length,by simp only [lenH,hb],hN4 _ _ ?_⟩
   refine tSeq.gen fun N5 hN5=>?_
   walk_at "vc"
   have nf:∀ {p:Bool},flkD (.tup [.lst rds,.lst wds]) = p -> p = false -> Q (.bl false) H:=fun e z=>no (e.trans z) H .rfl
   refine ite2 (fun c1=>nf flk ?_) (fun c1=>ite2 (fun c2=>nf flk ?_) (fun c2=>?_))
   ·rw [decide_eq_false (show ¬ 1 <= rds.length by walk_at "o")]
    rfl
   ·rw [decide_eq_false (show ¬ rds.length <= 7 by walk_at "o"),Bool.and_false]
    rfl
   have rn:rds ≠ []:=fun z=>by
    rw [z] at lu
    have:us.length = 0:=lu
    walk_at "o"
   obtain ⟨q,hq,fq⟩:=fracs_last ra rn
   obtain ⟨xl,hxl,rxl⟩:=rus.last hq
   rw [last11 hq] at flk
   refine ⟨_,hb,xl,atI_end hxl,_,rxl,fr (1,1),rep_pair (hv_ONE _),cmp_fr _,cmp_fr _,?_⟩
   rw [peq_fr]
   refine ite2 (fun c3=>nf flk ?_) (fun c3=>⟨vs.length,by simp only [lenH,hc],ite2 (fun c4=>nf flk ?_) (fun c4=>hN5 _ _ ?_)⟩)
   ·rw [c3,Bool.and_false]
   ·rw [decide_eq_false (show ¬ wds.length < rds.length by walk_at "o"),Bool.and_false]
    rfl
   have c3:decide (q = (1,1)) = true:=(Bool.not_eq_false _).mp c3
   rw [c3,decide_eq_true (show 1 <= rds.length by walk_at "o"),decide_eq_true (show rds.length <= 7 by walk_at "o"),decide_eq_true (show wds.length < rds.length by walk_at "o")] at flk
   rcases h with h | ⟨rs,ws,n,ed,n6,lr,pr',pw,lw,l1,br,bw,h⟩
   ·rw [flk] at h
    cases h.1
   cases ed
   walk_at "vc"
   simp only [sp_balance]
   refine ⟨b,c,rs,ws,n,rfl,⟨us,hb,rus⟩,⟨vs,hc,rvs⟩,n6,lr,pr',pw,lw,br,bw,fun z H' S' bl=>?_⟩
   have en:((us.length:Nat):Int) - 1 = (n:Int):=by
    rw [List.length_map] at lu
    walk_at "o"
   rw [en]
   refine ⟨rfl,?_⟩
   rw [show decide (V.int z = V.int (n:Int)) = decide (z = (n:Int)) from decide_eq_decide.mpr ⟨fun e=>by cases e; rfl,fun e=>by rw [e]⟩]
   exact h z H' S' bl
  | _=>exact iteP (by simp [D.ty,instN]) (no rfl H .rfl)
def zPdivisor (K:PySem.W.Frag):Sp:=fun vs H Q _=>∃ a b:Int,vs = [.int a,.int b] /\ Q (.int (Int.gcd a b)) H
theorem zOdivisor (F:Fun K "_law_divisor" "_law_divisor" zTdivisor f fd) (T:Txt K mg):FnOk P w K mg base CX0 1 f fd ["_law_one", "_law_other"] (zPdivisor K):=by
 have scN:=zUdivisor.nd
 refine F.okQ zUdivisor (fun vs H Q E h=>?_) (fun cdv A outer s H vs Q E hr h=>?_)
 ·obtain ⟨a,b,rfl,_⟩:=h
  rfl
 ·obtain ⟨a,b,rfl,h⟩:=h
  refine ⟨_,(qss_cons (qs_while PassesOwn.never (qt_cmpR op_ne (qv 1) qe_int (nomark _)) (qss_one (qs_par (i:=0) (j:=1) rfl scN rfl rfl (by decide) rfl rfl (qa_cons (qv 1) (qa_cons (qe_op op_modX (qv 0) (qv 1)) qa_nil)) rfl)))
   (qss_one (qs_ret (qe_callB call_abs (by rfl) T.b_abs bt_abs (qa_cons (qv 0) qa_nil))))),?_⟩
  walk_at "m"
  walk_at "vc"
  refine ⟨fun m σ H'=>H' = H /\ ∃ x y:Int,σ = [some (.int x),some (.int y)] /\ Int.gcd x y = Int.gcd a b /\ m = y.natAbs,⟨_,rfl,_,_,rfl,rfl,rfl⟩,?_⟩
  rintro m σ H' ⟨rfl,x,y,rfl,hg,rfl⟩
  walk_at "vc"
  refine ite2 (fun hy0=>?_) (fun hy0=>?_)
  ·refine ⟨_,fun σ' H' h=>h,?_⟩
   walk_at "vc"
   exact ⟨hy0,_,fmod_lt x hy0,by rw [gcd_fmod,hg],rfl⟩
  ·walk_at "vc"
   have e:((Int.gcd a b:Nat):Int) = if x < 0 then -x else x:=by
    rw [<- hg,show y = 0 by walk_at "o"]
    simp
    split <;> walk_at "o"
   rw [<- e]
   exact h
def zPlow (K:PySem.W.Frag):Sp:=fun vs H Q _=>∃ a b:Int,vs = [.int a,.int b] /\ b ≠ 0 /\ b.natAbs < 2 ^ 9000 /\ ∀ v H',Same (vw K H) (vw K H') -> Rep (vw K H') (fr (lo a b)) v -> Q v H'
theorem zOlow (F:Fun K "_law_low" "_law_low" zTlow f fd) (T:Txt K mg) (zCdivisor:Cal P w K mg base "_law_divisor" ["_law_one", "_law_other"] 1 (zPdivisor K)):FnOk P w K mg base CX0 2 f fd ["_law_top", "_law_bottom"] (zPlow K):=by
 have scN:=zUlow.nd
 refine F.okQ zUlow (fun vs H Q E h=>?_) (fun cdv A outer s H vs Q E hr h=>?_)
 ·obtain ⟨a,b,rfl,_⟩:=h
  rfl
 ·obtain ⟨a,b,rfl,hb,hbb,h⟩:=h
  refine ⟨_,(qss_cons (qs_set (i:=2) scN rfl (by walk_at "a1") (qe_cal zCdivisor (hr.mono (by walk_at "a2")) rfl (qa_cons (qv 0) (qa_cons (qv 1) qa_nil))))
   (qss_cons (qs_if (qt_cmpR op_lt (qv 1) qe_int (nomark _)) (qss_one (qs_set (i:=2) scN rfl (by walk_at "a1") (qe_op op_sub qe_int (qv 2)))) qss_nil)
   (qss_one (qs_ret (qe_tupS (qa_cons (qe_op op_fdivX (qv 0) (qv 2)) (qa_cons (qe_op op_fdivX (qv 1) (qv 2)) qa_nil))))))),?_⟩
  walk_at "m"
  walk_at "vc"
  simp only [zPdivisor]
  walk_at "vc"
  have hlg:(Int.gcd a b).log2 < 9000:=by
   have h1:Int.gcd a b <= b.natAbs:=Nat.le_of_dvd (by walk_at "o") (Int.gcd_dvd_natAbs_right a b)
   exact log2_of_lt (y:=(Int.gcd a b:Int)) (by walk_at "o")
  have hgn:Int.gcd a b ≠ 0:=fun e=>hb (Int.gcd_eq_zero_iff.mp e).2
  have e1:lg a b = if b < 0 then 0 - (Int.gcd a b:Int) else (Int.gcd a b:Int):=by
   unfold lg
   split <;> walk_at "o"
  have d1:CDivX a (0 - (Int.gcd a b:Int)):=⟨by walk_at "o",by rw [show (0 - (Int.gcd a b:Int)).natAbs = Int.gcd a b by walk_at "o"]; exact hlg⟩
  have d2:CDivX a (Int.gcd a b:Int):=⟨by walk_at "o",by simpa using hlg⟩
  refine ite2 (fun hn=>?_) (fun hn=>?_)
  ·rw [if_pos hn] at e1
   refine ⟨d1,d1,by decide,fun p H2 hp S hp2=>?_⟩
   refine h _ H2 S ?_
   rw [<- e1] at hp2
   simp only [fr,lo,Rep,Reps]
   exact ⟨p,_,rfl,hp2,_,_,rfl,rfl,_,_,rfl,rfl,rfl⟩
  ·rw [if_neg hn] at e1
   refine ⟨d2,d2,by decide,fun p H2 hp S hp2=>?_⟩
   refine h _ H2 S ?_
   rw [<- e1] at hp2
   simp only [fr,lo,Rep,Reps]
   exact ⟨p,_,rfl,hp2,_,_,rfl,rfl,_,_,rfl,rfl,rfl⟩
def zPcell_at (K:PySem.W.Frag):Sp:=fun vs H Q _=>∃ (a:Addr) (ns:List Int) (k:Nat),vs = [.ref a,.int k] /\ ScrOk K H a (ns.map V.int) /\ ∀ x:Int,Q (.int x) H
theorem zOcell_at (F:Fun K "_law_cell_at" "_law_cell_at" zTcell_at f fd) (T:Txt K mg):FnOk P w K mg base CX0 1 f fd ["_law_script", "_law_k"] (zPcell_at K):=by
 have scN:=zUcell_at.nd
 refine F.okQ zUcell_at (fun vs H Q E h=>?_) (fun cdv A outer s H vs Q E hr h=>?_)
 ·obtain ⟨a,ns,k,rfl,_⟩:=h
  rfl
 ·obtain ⟨a,ns,k,rfl,hS,h⟩:=h
  refine ⟨_,(qss_cons (qs_if (qt_cmpR op_lt (qv 1) (qe_callB call_len_seq (by rfl) T.b_len bt_len (qa_cons (qv 0) qa_nil)) (nomark _)) (qss_one (qs_ret (qe_ix ix_list (qv 0) (qv 1) (fun _ _=>rfl)))) qss_nil)
   (qss_one (qs_ret qe_int))),?_⟩
  walk_at "m"
  walk_at "vc"
  refine ⟨_,.inl hS.sq,ite2 (fun hk=>?_) (fun hk=>h 0)⟩
  simp only [List.length_map] at hk
  have hk':k < ns.length:=by walk_at "o"
  exact ⟨_,hS.sq,_,atI_nat (by rw [List.getElem?_map,List.getElem?_eq_getElem hk']; rfl),h _⟩
def zPstate (K:PySem.W.Frag):Sp:=fun vs H Q _=>∃ (a:Addr) (ns:List Int) (k:Nat),vs = [.ref a,.int k] /\ ScrOk K H a (ns.map V.int) /\ ∀ st H',vw K H st = none -> Same (vw K H) (vw K H') -> StOk (vw K H') st -> Q (.ref st) H'
theorem zOstate (F:Fun K "_law_state" "_law_state" zTstate f fd) (T:Txt K mg) (zCcell_at:Cal P w K mg base "_law_cell_at" ["_law_script", "_law_k"] 1 (zPcell_at K)):FnOk P w K mg base CX0 2 f fd ["_law_script", "_law_k"] (zPstate K):=by
 have scN:=zUstate.nd
 refine F.okQ zUstate (fun vs H Q E h=>?_) (fun cdv A outer s H vs Q E hr h=>?_)
 ·obtain ⟨a,ns,k,rfl,_⟩:=h
  rfl
 ·obtain ⟨a,ns,k,rfl,hS,h⟩:=h
  refine ⟨_,(qss_cons (qs_set (i:=2) scN rfl (by walk_at "a1") (qe_cal zCcell_at (hr.mono (by walk_at "a2")) rfl (qa_cons (qv 0) (qa_cons (qv 1) qa_nil))))
   (qss_cons (qs_if (qt_cmpR op_ge (qv 2) (qe_op op_pow qe_int qe_int) (nomark _)) (qss_one (qs_ret (qe_lstS (qa_cons (qe_op op_sub (qv 2) (qe_op op_pow qe_int qe_int)) (qa_cons qe_bl qa_nil))))) qss_nil)
   (qss_one (qs_ret (qe_lstS (qa_cons (qe_op op_modX (qv 2) qe_int) (qa_cons qe_bl qa_nil))))))),?_⟩
  walk_at "m"
  walk_at "vc"
  simp only [zPcell_at]
  walk_at "vc"
  refine ⟨⟨k,rfl⟩,⟨ns,hS⟩,fun x=>⟨CPow_of (by decide),ite2 (fun hx=>⟨CPow_of (by decide),by decide,fun p H2 hp S hp2=>h p H2 hp S ⟨_,_,hp2,fun z=>by cases z⟩⟩) (fun hx=>⟨by decide,by decide,fun p H2 hp S hp2=>h p H2 hp S ⟨_,_,hp2,fun _=>?_⟩⟩)⟩⟩
  exact ⟨Int.fmod_nonneg_of_pos x (by decide),Int.fmod_lt_of_pos x (by decide)⟩
def zPtake (K:PySem.W.Frag):Sp:=fun vs H Q _=>∃ (st:Addr) (m:Int),vs = [.ref st,.int m] /\ StOk (vw K H) st /\ 0 < m /\ m <= 2147483587 /\ ∀ r H',0 <= r -> r < m -> But st (vw K H) (vw K H') -> StOk (vw K H') st -> Q (.int r) H'
theorem zOtake (F:Fun K "_law_take" "_law_take" zTtake f fd) (T:Txt K mg):FnOk P w K mg base CX0 1 f fd ["_law_state_here", "_law_many"] (zPtake K):=by
 have scN:=zUtake.nd
 refine F.okQ zUtake (fun vs H Q E h=>?_) (fun cdv A outer s H vs Q E hr h=>?_)
 ·obtain ⟨a,ns,rfl,_⟩:=h
  rfl
 ·obtain ⟨st,m,rfl,⟨x,b,hst,hx⟩,hm,hm2,h⟩:=h
  refine ⟨_,(qss_cons (qs_if (qt_truth (qe_ix ix_h (qv 0) qe_int (fun _ _=>rfl)) (fun _=>rfl)) (qss_cons (qs_set (i:=2) scN rfl (by walk_at "a1") (qe_op op_modX (qe_ix ix_h (qv 0) qe_int (fun _ _=>rfl)) (qv 1)))
   (qss_cons (qs_asg (qe_op op_fdivX (qe_ix ix_h (qv 0) qe_int (fun _ _=>rfl)) (qv 1)) (qg_sub (qv 0) qe_int set_listS))
   (qss_one (qs_ret (qv 2))))) qss_nil)
   (qss_cons (qs_asg (qe_op op_modX (qe_op op_Plus (qe_op op_Mul (qe_ix ix_h (qv 0) qe_int (fun _ _=>rfl)) qe_int) qe_int) qe_int) (qg_sub (qv 0) qe_int set_listS))
   (qss_cons (qs_set (i:=3) scN rfl (by walk_at "a1") (qe_op op_modX (qe_op op_Plus (qe_op op_Plus (qe_op op_Mul (qe_ix ix_h (qv 0) qe_int (fun _ _=>rfl)) (qe_ix ix_h (qv 0) qe_int (fun _ _=>rfl))) (qe_op op_Mul qe_int (qe_ix ix_h (qv 0) qe_int (fun _ _=>rfl)))) qe_int) qe_int))
   (qss_cons (qs_set (i:=3) scN rfl (by walk_at "a1") (qe_op op_modX (qe_op op_Plus (qe_op op_Mul (qv 3) (qv 3)) (qe_op op_Mul qe_int (qv 3))) qe_int))
   (qss_one (qs_ret (qe_op op_modX (qe_op op_fdivX (qv 3) qe_int) (qv 1)))))))),?_⟩
  walk_at "m"
  have hm0:m ≠ 0:=by walk_at "o"
  cases b with
  | true =>
   walk_at "vc*"
   refine ⟨divX hm0 (by unfold Bt; walk_at "o"),fun H2 B h2=>h _ _ (Int.fmod_nonneg_of_pos x hm) (Int.fmod_lt_of_pos x hm) B ⟨_,_,h2,fun z=>by cases z⟩⟩
  | false =>
   walk_at "vc*"
   refine ⟨mulOk_r (by decide),by decide,fun H2 B h2=>?_⟩
   have b1:Bt 31 ((x * 48271 + 29).fmod 2147483647):=bt_fmod (by decide) (by decide)
   have b3:0 <= (x * 48271 + 29).fmod 2147483647 /\ (x * 48271 + 29).fmod 2147483647 < 2147483647:=⟨Int.fmod_nonneg_of_pos _ (by decide),Int.fmod_lt_of_pos _ (by decide)⟩
   generalize (x * 48271 + 29).fmod 2147483647 = y at *
   walk_at "vc*"
   have b2:Bt 31 ((y * y + 39373 * y + 7).fmod 2147483629):=bt_fmod (by decide) (by decide)
   generalize e2:(y * y + 39373 * y + 7).fmod 2147483629 = z at *
   refine ⟨mulOk_l (b1.mono (by decide)),mulOk_l (by decide),by decide,mulOk_l (b2.mono (by decide)),mulOk_l (by decide),by decide,divX (by decide) (by decide),?_⟩
   exact h _ _ (Int.fmod_nonneg_of_pos _ hm) (Int.fmod_lt_of_pos _ hm) B ⟨_,_,h2,fun _=>b3⟩
def zPsmall (K:PySem.W.Frag):Sp:=fun vs H Q _=>∃ st:Addr,vs = [.ref st] /\ StOk (vw K H) st /\ ∀ v H' q,But st (vw K H) (vw K H') -> StOk (vw K H') st -> Rep (vw K H') (fr q) v -> Fq q -> Bt 10 q.1 -> Bt 10 q.2 -> Sx 36 q -> Q v H'
theorem zOsmall (F:Fun K "_law_small" "_law_small" zTsmall f fd) (T:Txt K mg) (zClow:Cal P w K mg base "_law_low" ["_law_top", "_law_bottom"] 2 (zPlow K))
  (zCtake:Cal P w K mg base "_law_take" ["_law_state_here", "_law_many"] 1 (zPtake K)):FnOk P w K mg base CX0 3 f fd ["_law_state_here"] (zPsmall K):=by
 have scN:=zUsmall.nd
 refine F.okQ zUsmall (fun vs H Q E h=>?_) (fun cdv A outer s H vs Q E hr h=>?_)
 ·obtain ⟨a,rfl,_⟩:=h
  rfl
 ·obtain ⟨st,rfl,hst,h⟩:=h
  refine ⟨_,(qss_one (qs_ret (qe_cal zClow (hr.mono (by walk_at "a2")) rfl (qa_cons (qe_op op_sub (qe_cal zCtake (hr.mono (by walk_at "a2")) rfl (qa_cons (qv 0) (qa_cons qe_int qa_nil))) qe_int) (qa_cons (qe_op op_Plus qe_int (qe_ix ix_h (qe_lstS (qa_cons qe_int (qa_cons qe_int (qa_cons (qe_cal zCtake (hr.mono (by walk_at "a2")) rfl (qa_cons (qv 0) (qa_cons qe_int qa_nil))) qa_nil)))) (qe_cal zCtake (hr.mono (by walk_at "a2")) rfl (qa_cons (qv 0) (qa_cons qe_int qa_nil))) (fun _ _=>rfl))) qa_nil))))),?_⟩
  walk_at "m"
  walk_at "vc"
  simp only [zPtake,zPlow]
  walk_at "vc"
  refine ⟨hst,by decide,by decide,fun r1 H1 r10 r11 B1 S1=>⟨S1,by decide,by decide,fun r2 H2 r20 r21 B2 S2=>⟨by decide,?_⟩⟩⟩
  intro p H3 hp S3 h3
  refine ⟨S2.same S3,by decide,by decide,fun r4 H4 r40 r41 B4 S4=>?_⟩
  have h4:=B4 _ _ (S2.ne hp) h3
  obtain ⟨v,hv,hm⟩:=atI_mem (xs:=[V.int 0,V.int 0,V.int r2]) r40 (by simpa using r41)
  obtain ⟨z,rfl,hz0,hz1⟩ : ∃ z,v = .int z /\ 0 <= z /\ z < 3:=by
   simp only [List.mem_cons,List.not_mem_nil,or_false] at hm
   rcases hm with rfl | rfl | rfl
   ·exact ⟨0,rfl,by decide,by decide⟩
   ·exact ⟨0,rfl,by decide,by decide⟩
   ·exact ⟨r2,rfl,r20,r21⟩
  walk_at "vc"
  refine ⟨_,h4,_,hv,?_⟩
  walk_at "vc"
  have hz:1 + z ≠ 0:=by walk_at "o"
  have hb:(1 + z).natAbs < 2 ^ 10:=by walk_at "o"
  refine ⟨hz,Nat.lt_of_lt_of_le hb (Nat.pow_le_pow_right (by decide) (by decide)),fun v H5 S5 r5=>?_⟩
  have q2:=lo_mul_right (a:=r1 - 6) hz
  have q1:=lo_mul_left (a:=r1 - 6) hz
  have hl:lg (r1 - 6) (1 + z) ≠ 0:=lg_ne hz
  refine h v H5 _ (((B1.trans B2).same_trans S3).trans (B4.same_trans S5)) (S4.same S5) r5 (lo_Fq hz) ?_ ?_ (Sx.lo hz0 hz1 (by walk_at "o"))
  ·unfold Bt
   have:=Int.natAbs_mul (lo (r1 - 6) (1 + z)).1 (lg (r1 - 6) (1 + z))
   rw [q1] at this
   have:=Nat.le_mul_of_pos_right (lo (r1 - 6) (1 + z)).1.natAbs (show 0 < (lg (r1 - 6) (1 + z)).natAbs by walk_at "o")
   walk_at "o"
  ·unfold Bt
   have:=Int.natAbs_mul (lo (r1 - 6) (1 + z)).2 (lg (r1 - 6) (1 + z))
   rw [q2] at this
   have:=Nat.le_mul_of_pos_right (lo (r1 - 6) (1 + z)).2.natAbs (show 0 < (lg (r1 - 6) (1 + z)).natAbs by walk_at "o")
   walk_at "o"
def zPabove (K:PySem.W.Frag):Sp:=fun vs H Q _=>∃ st:Addr,vs = [.ref st] /\ StOk (vw K H) st /\ ∀ v H' q,But st (vw K H) (vw K H') -> StOk (vw K H') st -> Rep (vw K H') (fr q) v -> Fq q -> 0 < q.1 -> Bq 10 q -> Sx 36 q -> Q v H'
theorem zOabove (F:Fun K "_law_above" "_law_above" zTabove f fd) (T:Txt K mg) (zClow:Cal P w K mg base "_law_low" ["_law_top", "_law_bottom"] 2 (zPlow K))
  (zCtake:Cal P w K mg base "_law_take" ["_law_state_here", "_law_many"] 1 (zPtake K)):FnOk P w K mg base CX0 3 f fd ["_law_state_here"] (zPabove K):=by
 have scN:=zUabove.nd
 refine F.okQ zUabove (fun vs H Q E h=>?_) (fun cdv A outer s H vs Q E hr h=>?_)
 ·obtain ⟨a,rfl,_⟩:=h
  rfl
 ·obtain ⟨st,rfl,hst,h⟩:=h
  refine ⟨_,(qss_one (qs_ret (qe_cal zClow (hr.mono (by walk_at "a2")) rfl (qa_cons (qe_op op_Plus qe_int (qe_cal zCtake (hr.mono (by walk_at "a2")) rfl (qa_cons (qv 0) (qa_cons qe_int qa_nil)))) (qa_cons (qe_op op_Plus qe_int (qe_ix ix_h (qe_lstS (qa_cons qe_int (qa_cons qe_int (qa_cons (qe_cal zCtake (hr.mono (by walk_at "a2")) rfl (qa_cons (qv 0) (qa_cons qe_int qa_nil))) qa_nil)))) (qe_cal zCtake (hr.mono (by walk_at "a2")) rfl (qa_cons (qv 0) (qa_cons qe_int qa_nil))) (fun _ _=>rfl))) qa_nil))))),?_⟩
  walk_at "m"
  walk_at "vc"
  simp only [zPtake,zPlow]
  walk_at "vc"
  refine ⟨hst,by decide,by decide,fun r1 H1 r10 r11 B1 S1=>⟨S1,by decide,by decide,fun r2 H2 r20 r21 B2 S2=>⟨by decide,?_⟩⟩⟩
  intro p H3 hp S3 h3
  refine ⟨S2.same S3,by decide,by decide,fun r4 H4 r40 r41 B4 S4=>?_⟩
  have h4:=B4 _ _ (S2.ne hp) h3
  obtain ⟨v,hv,hm⟩:=atI_mem (xs:=[V.int 0,V.int 0,V.int r2]) r40 (by simpa using r41)
  obtain ⟨z,rfl,hz0,hz1⟩ : ∃ z,v = .int z /\ 0 <= z /\ z < 3:=by
   simp only [List.mem_cons,List.not_mem_nil,or_false] at hm
   rcases hm with rfl | rfl | rfl
   ·exact ⟨0,rfl,by decide,by decide⟩
   ·exact ⟨0,rfl,by decide,by decide⟩
   ·exact ⟨r2,rfl,r20,r21⟩
  walk_at "vc"
  refine ⟨_,h4,_,hv,?_⟩
  walk_at "vc"
  have hz:1 + z ≠ 0:=by walk_at "o"
  have hb:(1 + z).natAbs < 2 ^ 10:=by walk_at "o"
  refine ⟨hz,Nat.lt_of_lt_of_le hb (Nat.pow_le_pow_right (by decide) (by decide)),fun v H5 S5 r5=>?_⟩
  have q1:=lo_mul_left (a:=1 + r1) hz
  have hl:0 < lg (1 + r1) (1 + z):=lg_pos (by walk_at "o")
  refine h v H5 _ (((B1.trans B2).same_trans S3).trans (B4.same_trans S5)) (S4.same S5) r5 (lo_Fq hz) ?_ (bt_lo hz (by unfold Bt; walk_at "o") hb) (Sx.lo hz0 hz1 (by walk_at "o"))
  refine Int.pos_of_mul_pos_left ?_ hl
  rw [q1]
  walk_at "o"
def zPplus (K:PySem.W.Frag):Sp:=fun vs H Q _=>∃ x y p q,vs = [x,y] /\ Rep (vw K H) (fr p) x /\ Rep (vw K H) (fr q) y /\ p.2 ≠ 0 /\ q.2 ≠ 0 /\ Bq 20000 p /\ Bq 20000 q /\ Bt 9000 (p.2 * q.2) /\ ∀ v H',Same (vw K H) (vw K H') -> Rep (vw K H') (fr (addq p q)) v -> Q v H'
theorem zOplus (F:Fun K "_law_plus" "_law_plus" zTplus f fd) (T:Txt K mg) (zClow:Cal P w K mg base "_law_low" ["_law_top", "_law_bottom"] 2 (zPlow K)):FnOk P w K mg base CX0 3 f fd ["_law_one", "_law_other"] (zPplus K):=by
 have scN:=zUplus.nd
 refine F.okQ zUplus (fun vs H Q E h=>?_) (fun cdv A outer s H vs Q E hr h=>?_)
 ·obtain ⟨_,_,_,_,rfl,_⟩:=h
  rfl
 ·obtain ⟨x,y,p,q,rfl,hx,hy,np,nq,bp,bq,bb,h⟩:=h
  refine ⟨_,(qss_one (qs_ret (qe_cal zClow (hr.mono (by walk_at "a2")) rfl (qa_cons (qe_op op_Plus (qe_op op_Mul (qe_ix ix_u (qv 0) qe_int (fun _ _=>rfl)) (qe_ix ix_u (qv 1) qe_int (fun _ _=>rfl))) (qe_op op_Mul (qe_ix ix_u (qv 1) qe_int (fun _ _=>rfl)) (qe_ix ix_u (qv 0) qe_int (fun _ _=>rfl)))) (qa_cons (qe_op op_Mul (qe_ix ix_u (qv 0) qe_int (fun _ _=>rfl)) (qe_ix ix_u (qv 1) qe_int (fun _ _=>rfl))) qa_nil))))),?_⟩
  walk_at "m"
  obtain ⟨a,rfl,ha⟩:=hx.fr_at
  obtain ⟨b,rfl,hb⟩:=hy.fr_at
  walk_at "vc*"
  simp only [zPlow]
  walk_at "vc*"
  exact ⟨mulOk bp.1 bq.2 (by decide),mulOk bq.1 bp.2 (by decide),mulOk bp.2 bq.2 (by decide),Int.mul_ne_zero np nq,h⟩
def zPtimes (K:PySem.W.Frag):Sp:=fun vs H Q _=>∃ x y p q,vs = [x,y] /\ Rep (vw K H) (fr p) x /\ Rep (vw K H) (fr q) y /\ p.2 ≠ 0 /\ q.2 ≠ 0 /\ Bq 20000 p /\ Bq 20000 q /\ Bt 9000 (p.2 * q.2) /\ ∀ v H',Same (vw K H) (vw K H') -> Rep (vw K H') (fr (mulq p q)) v -> Q v H'
theorem zOtimes (F:Fun K "_law_times" "_law_times" zTtimes f fd) (T:Txt K mg) (zClow:Cal P w K mg base "_law_low" ["_law_top", "_law_bottom"] 2 (zPlow K)):FnOk P w K mg base CX0 3 f fd ["_law_one", "_law_other"] (zPtimes K):=by
 have scN:=zUtimes.nd
 refine F.okQ zUtimes (fun vs H Q E h=>?_) (fun cdv A outer s H vs Q E hr h=>?_)
 ·obtain ⟨_,_,_,_,rfl,_⟩:=h
  rfl
 ·obtain ⟨x,y,p,q,rfl,hx,hy,np,nq,bp,bq,bb,h⟩:=h
  refine ⟨_,(qss_one (qs_ret (qe_cal zClow (hr.mono (by walk_at "a2")) rfl (qa_cons (qe_op op_Mul (qe_ix ix_u (qv 0) qe_int (fun _ _=>rfl)) (qe_ix ix_u (qv 1) qe_int (fun _ _=>rfl))) (qa_cons (qe_op op_Mul (qe_ix ix_u (qv 0) qe_int (fun _ _=>rfl)) (qe_ix ix_u (qv 1) qe_int (fun _ _=>rfl))) qa_nil))))),?_⟩
  walk_at "m"
  obtain ⟨a,rfl,ha⟩:=hx.fr_at
  obtain ⟨b,rfl,hb⟩:=hy.fr_at
  walk_at "vc*"
  simp only [zPlow]
  walk_at "vc*"
  exact ⟨mulOk bp.1 bq.1 (by decide),mulOk bp.2 bq.2 (by decide),Int.mul_ne_zero np nq,h⟩
def zPminus (K:PySem.W.Frag):Sp:=fun vs H Q _=>∃ x y p q,vs = [x,y] /\ Rep (vw K H) (fr p) x /\ Rep (vw K H) (fr q) y /\ p.2 ≠ 0 /\ q.2 ≠ 0 /\ Bq 20000 p /\ Bq 20000 q /\ Bt 9000 (p.2 * q.2) /\ ∀ v H',Same (vw K H) (vw K H') -> Rep (vw K H') (fr (subq p q)) v -> Q v H'
theorem zOminus (F:Fun K "_law_minus" "_law_minus" zTminus f fd) (T:Txt K mg) (zClow:Cal P w K mg base "_law_low" ["_law_top", "_law_bottom"] 2 (zPlow K)):FnOk P w K mg base CX0 3 f fd ["_law_one", "_law_other"] (zPminus K):=by
 have scN:=zUminus.nd
 refine F.okQ zUminus (fun vs H Q E h=>?_) (fun cdv A outer s H vs Q E hr h=>?_)
 ·obtain ⟨_,_,_,_,rfl,_⟩:=h
  rfl
 ·obtain ⟨x,y,p,q,rfl,hx,hy,np,nq,bp,bq,bb,h⟩:=h
  refine ⟨_,(qss_one (qs_ret (qe_cal zClow (hr.mono (by walk_at "a2")) rfl (qa_cons (qe_op op_sub (qe_op op_Mul (qe_ix ix_u (qv 0) qe_int (fun _ _=>rfl)) (qe_ix ix_u (qv 1) qe_int (fun _ _=>rfl))) (qe_op op_Mul (qe_ix ix_u (qv 1) qe_int (fun _ _=>rfl)) (qe_ix ix_u (qv 0) qe_int (fun _ _=>rfl)))) (qa_cons (qe_op op_Mul (qe_ix ix_u (qv 0) qe_int (fun _ _=>rfl)) (qe_ix ix_u (qv 1) qe_int (fun _ _=>rfl))) qa_nil))))),?_⟩
  walk_at "m"
  obtain ⟨a,rfl,ha⟩:=hx.fr_at
  obtain ⟨b,rfl,hb⟩:=hy.fr_at
  walk_at "vc*"
  simp only [zPlow]
  walk_at "vc*"
  exact ⟨mulOk bp.1 bq.2 (by decide),mulOk bq.1 bp.2 (by decide),mulOk bp.2 bq.2 (by decide),Int.mul_ne_zero np nq,h⟩
def zPover (K:PySem.W.Frag):Sp:=fun vs H Q _=>∃ x y p q,vs = [x,y] /\ Rep (vw K H) (fr p) x /\ Rep (vw K H) (fr q) y /\ p.2 ≠ 0 /\ q.2 ≠ 0 /\ q.1 ≠ 0 /\ Bq 20000 p /\ Bq 20000 q /\ Bt 9000 (p.2 * q.1) /\ ∀ v H',Same (vw K H) (vw K H') -> Rep (vw K H') (fr (divq p q)) v -> Q v H'
theorem zOover (F:Fun K "_law_over" "_law_over" zTover f fd) (T:Txt K mg) (zClow:Cal P w K mg base "_law_low" ["_law_top", "_law_bottom"] 2 (zPlow K)):FnOk P w K mg base CX0 3 f fd ["_law_one", "_law_other"] (zPover K):=by
 have scN:=zUover.nd
 refine F.okQ zUover (fun vs H Q E h=>?_) (fun cdv A outer s H vs Q E hr h=>?_)
 ·obtain ⟨_,_,_,_,rfl,_⟩:=h
  rfl
 ·obtain ⟨x,y,p,q,rfl,hx,hy,np,nq,n0,bp,bq,bb,h⟩:=h
  refine ⟨_,(qss_one (qs_ret (qe_cal zClow (hr.mono (by walk_at "a2")) rfl (qa_cons (qe_op op_Mul (qe_ix ix_u (qv 0) qe_int (fun _ _=>rfl)) (qe_ix ix_u (qv 1) qe_int (fun _ _=>rfl))) (qa_cons (qe_op op_Mul (qe_ix ix_u (qv 0) qe_int (fun _ _=>rfl)) (qe_ix ix_u (qv 1) qe_int (fun _ _=>rfl))) qa_nil))))),?_⟩
  walk_at "m"
  obtain ⟨a,rfl,ha⟩:=hx.fr_at
  obtain ⟨b,rfl,hb⟩:=hy.fr_at
  walk_at "vc*"
  simp only [zPlow]
  walk_at "vc*"
  exact ⟨mulOk bp.1 bq.2 (by decide),mulOk bp.2 bq.1 (by decide),Int.mul_ne_zero np n0,h⟩
def zPclean (K:PySem.W.Frag):Sp:=fun vs H Q _=>∃ (a:Addr) (qs:List (Int × Int)),vs = [.ref a] /\ LsAt (vw K H) a qs /\
 ∀ b H' n,n <= qs.length -> (∀ q,(qs.take n).getLast? = some q -> q.1 ≠ 0) -> (∀ q ∈ qs.drop n,q.1 = 0) -> vw K H b = none -> Same (vw K H) (vw K H') -> LsAt (vw K H') b (qs.take n) -> Q (.ref b) H'
theorem zOclean (F:Fun K "_law_clean" "_law_clean" zTclean f fd) (T:Txt K mg):FnOk P w K mg base CX0 1 f fd ["_law_numbers"] (zPclean K):=by
 have scN:=zUclean.nd
 refine F.okQ zUclean (fun vs H Q E h=>?_) (fun cdv A outer s H vs Q E hr h=>?_)
 ·obtain ⟨a,_,rfl,_⟩:=h
  rfl
 ·obtain ⟨a,qs,rfl,ha,h⟩:=h
  refine ⟨_,(qss_cons (qs_set (i:=1) scN rfl (by walk_at "a1") (qe_callB call_lenH (by rfl) T.b_len bt_len (qa_cons (qv 0) qa_nil)))
   (qss_cons (qs_while PassesOwn.never (QW.pt (qw_and (qt_cmpR op_gt (qv 1) qe_int (nomark _)) (qw_and1 (qt_cmpR op_eq (qe_ix ix_u (qe_ix ix_h (qv 0) (qe_op op_sub (qv 1) qe_int) (fun _ _=>rfl)) qe_int (fun _ _=>rfl)) qe_int (nomark _))))) (qss_one (qs_set (i:=1) scN rfl (by walk_at "a1") (qe_op op_sub (qv 1) qe_int))))
   (qss_one (qs_ret (qe_callTy call_listS (by rfl) T.b_list bt_list (qa_cons (qe_slice sl_listS (qv 0) qo_none (qo_some (qv 1))) qa_nil)))))),?_⟩
  walk_at "m"
  walk_at "vc"
  refine ⟨_,ha.len,fun m σ H'=>H' = H /\ m <= qs.length /\ (∀ q ∈ qs.drop m,q.1 = 0) /\ σ = [some (.ref a),some (.int m)],⟨_,rfl,Nat.le_refl _,by simp,rfl⟩,?_⟩
  rintro k σ H' ⟨rfl,hk,hdr,rfl⟩
  obtain ⟨xs,hax,rx⟩:=ha
  have hlx:xs.length = qs.length:=by rw [rx.length,List.length_map]
  have fin:(∀ q,(qs.take k).getLast? = some q -> q.1 ≠ 0) -> Nw K H' (HO.lst (cutV xs none (some (k:Int)))) fun x H1=>∃ p,x = V.ref p /\ ∃ ys,vw K H1 p = some (HO.lst ys) /\ Nw K H1 (HO.lst ys) Q:=fun hq p H2 hp S2 h2=>by
   rw [cut_to (by walk_at "o")] at h2
   refine ⟨p,rfl,_,h2,fun p2 H3 hp2 S3 h3=>h p2 H3 k hk hq hdr ?_ (S2.trans S3) ⟨_,h3,?_⟩⟩
   ·cases e:vw K H' p2 with
    | none=>rfl
    | some o=>rw [S2 _ _ e] at hp2; cases hp2
   ·rw [List.map_take]
    exact (rx.take k).same (S2.trans S3)
  walk_at "vc"
  refine ite2 (fun h0=>?_) (fun h0=>?_)
  ·have hk1:k - 1 < qs.length:=by walk_at "o"
   obtain ⟨x,hx,r⟩:=rx.at (i:=k - 1) (d:=fr qs[k - 1]) (by rw [List.getElem?_map,List.getElem?_eq_getElem hk1]; rfl)
   obtain ⟨p,rfl,hp⟩:=r.fr_at
   have e1:((k:Int) - 1) = ((k - 1:Nat):Int):=by walk_at "o"
   refine ⟨_,hax,_,by rw [e1]; exact atI_nat hx,p,rfl,_,hp,_,atI_0,?_⟩
   walk_at "vc"
   refine ite2 (fun hq=>?_) (fun hq=>?_)
   ·refine ⟨_,fun σ' H'' z=>z,k - 1,by walk_at "o",rfl,by walk_at "o",fun q' hq'=>?_,by rw [e1]⟩
    rw [List.drop_eq_getElem_cons hk1,show k - 1 + 1 = k by walk_at "o"] at hq'
    rcases List.mem_cons.mp hq' with z | z
    ·rw [z]
     exact hq
    ·exact hdr q' z
   ·refine ⟨_,hax,fin fun q hq2=>?_⟩
    have:(qs.take k).getLast? = some qs[k - 1]:=by
     rw [List.getLast?_eq_getElem?,List.length_take,List.getElem?_take]
     rw [if_pos (by walk_at "o"),show min k qs.length - 1 = k - 1 by walk_at "o",List.getElem?_eq_getElem hk1]
    rw [this] at hq2
    cases hq2
    exact hq
  ·refine ⟨_,hax,fin fun q hq=>?_⟩
   rw [show k = 0 by walk_at "o"] at hq
   cases hq
def zPsummed (K:PySem.W.Frag):Sp:=fun vs H Q _=>∃ (a b:Addr) (y:V) (fs gs:List (Int × Int)) (c:Int × Int) (B:Nat),vs = [.ref a,.ref b,y] /\ LsAt (vw K H) a fs /\ LsAt (vw K H) b gs /\ Rep (vw K H) (fr c) y /\ fs.length <= 40 /\ gs.length <= 40 /\ 1 <= B /\ B <= 1300 /\ (∀ q ∈ fs,Fq q /\ Bq B q) /\ (∀ q ∈ gs,Fq q /\ Bq B q) /\ Fq c /\ Bq B c /\
 ∀ d H' (rs:List (Int × Int)),Same (vw K H) (vw K H') -> LsAt (vw K H') d rs -> vw K H d = none -> PolyOk rs -> (∀ k,cf rs k = cf fs k + cf gs k * wv c) -> rs.length <= max fs.length gs.length -> (∀ q ∈ rs,Bq (3 * B + 1) q) -> Q (.ref d) H'
theorem zOsummed (F:Fun K "_law_summed" "_law_summed" zTsummed f fd) (T:Txt K mg) (zCclean:Cal P w K mg base "_law_clean" ["_law_numbers"] 1 (zPclean K)) (zCplus:Cal P w K mg base "_law_plus" ["_law_one", "_law_other"] 3 (zPplus K)) (zCtimes:Cal P w K mg base "_law_times" ["_law_one", "_law_other"] 3 (zPtimes K)):FnOk P w K mg base CX0 4 f fd ["_law_f", "_law_g", "_law_by"] (zPsummed K):=by
 have scN:=zUsummed.nd
 refine F.okQ zUsummed (fun vs H Q E h=>?_) (fun cdv A outer s H vs Q E hr h=>?_)
 ·obtain ⟨a,_,_,_,_,_,_,rfl,_⟩:=h
  rfl
 ·obtain ⟨a,b,y,fs,gs,c,B,rfl,ha,hb,hy,lf,lg',hB0,hB,hf,hg,fc,bc,h⟩:=h
  refine ⟨_,(qss_cons (qs_set (i:=3) scN rfl (by walk_at "a1") (qe_op op_Plus (qe_callTy call_listS (by rfl) T.b_list bt_list (qa_cons (qv 0) qa_nil)) (qe_op op_Mul (qe_lstS (qa_cons (qe_tupS (qa_cons qe_int (qa_cons qe_int qa_nil))) qa_nil)) (qe_callB (call_max2 rfl) (by rfl) T.b_max bt_max (qa_cons qe_int (qa_cons (qe_op op_sub (qe_callB call_lenH (by rfl) T.b_len bt_len (qa_cons (qv 1) qa_nil)) (qe_callB call_lenH (by rfl) T.b_len bt_len (qa_cons (qv 0) qa_nil))) qa_nil))))))
   (qss_cons (qs_for PassesOwn.never rfl (qi_range1 rfl T.b_range (qa_cons (qe_callB call_lenH (by rfl) T.b_len bt_len (qa_cons (qv 1) qa_nil)) qa_nil)) (qg_name (i:=4) scN rfl (by walk_at "a1")) (qss_one (qs_asg (qe_cal zCplus (hr.mono (by walk_at "a2")) rfl (qa_cons (qe_ix ix_h (qv 3) (qv 4) (fun _ _=>rfl)) (qa_cons (qe_cal zCtimes (hr.mono (by walk_at "a2")) rfl (qa_cons (qe_ix ix_h (qv 1) (qv 4) (fun _ _=>rfl)) (qa_cons (qv 2) qa_nil))) qa_nil))) (qg_sub (qv 3) (qv 4) set_listS))))
   (qss_one (qs_ret (qe_cal zCclean (hr.mono (by walk_at "a2")) rfl (qa_cons (qv 3) qa_nil)))))),?_⟩
  walk_at "m"
  walk_at "vc"
  obtain ⟨xs,hxs,rxs⟩:=id ha
  obtain ⟨ys,hys,rys⟩:=id hb
  refine ⟨xs,hxs,fun p1 H1 hp1 S1 h1=>⟨by decide,fun p2 H2 hp2 S2 h2=>⟨by decide,fun p3 H3 hp3 S3 h3=>?_⟩⟩⟩
  have S03:=S1.trans (S2.trans S3)
  refine ⟨_,(hb.same S03).len,_,(ha.same S03).len,?_⟩
  obtain ⟨m,hm,hmm⟩ : ∃ m:Nat,(if (gs.length:Int) - (fs.length:Int) > 0 then (gs.length:Int) - (fs.length:Int) else 0) = (m:Int) /\ fs.length + m = max fs.length gs.length:=by
   refine ⟨gs.length - fs.length,?_,by walk_at "o"⟩
   split <;> walk_at "o"
  rw [hm,rMul_rep]
  refine ⟨_,h3,by walk_at "o",by walk_at "o",?_,fun p4 H4 hp4 S4 h4=>?_⟩
  ·have:1000 <= sizeLine:=by decide
   simp
   walk_at "o"
  rw [show ((m:Nat):Int).toNat = m by walk_at "o",rep_flat] at h4
  rw [rPlus_cat]
  have S14:=S2.trans (S3.trans S4)
  refine ⟨_,S14 _ _ h1,_,h4,?_,fun e H5 he S5 h5=>?_⟩
  ·have:1000 <= sizeLine:=by decide
   rw [rxs.length]
   simp
   walk_at "o"
  have S04:=S1.trans S14
  have S05:=S04.trans S5
  have r2:Rep (vw K H5) (fr (0,1)) (.ref p2):=rep_pair ((S3.trans (S4.trans S5)) _ _ h2)
  have ne:vw K H e = none:=S04.none he
  refine ⟨_,(hb.same S05).len,by walk_at "o",by walk_at "o",?_⟩
  obtain ⟨Pv,hPv⟩ : ∃ Pv:Nat -> St -> Hp -> Prop,∀ i σ H',Pv i σ H' ↔ ∃ o4,σ = [some (.ref a),some (.ref b),some y,some (.ref e),o4] /\ Same (vw K H) (vw K H') /\ ∃ qs,LsAt (vw K H') e qs /\ qs.length = max fs.length gs.length /\ (∀ q ∈ qs,Fq q /\ Bq (3 * B + 1) q) /\ (∀ k,cf qs k = cf fs k + if k < i then cf gs k * wv c else 0) /\ (∀ k q,i <= k -> qs[k]? = some q -> Bq B q):=⟨_,fun _ _ _=>Iff.rfl⟩
  have hq0:∀ q ∈ fs ++ List.replicate m (0,1),Fq q /\ Bq B q:=fun q hq=>by
   rcases List.mem_append.mp hq with z | z
   ·exact hf q z
   ·rw [(List.mem_replicate.mp z).2]
    exact ⟨Fq_01,Bq_01 hB0⟩
  refine for_items (its:=iots 0 gs.length) Pv (fun _ _ _ _ _=>items_range) ((hPv _ _ _).mpr ⟨_,rfl,S05,fs ++ List.replicate m (0,1),⟨_,h5,?_⟩,by simp; walk_at "o",fun q hq=>⟨(hq0 q hq).1,(hq0 q hq).2.mono (by walk_at "o")⟩,fun k=>?_,fun k q _ e'=>(hq0 q (List.mem_of_getElem? e')).2⟩) (fun i x σ H6 hi hx pv=>?_) (fun σ H6 pv=>?_)
  ·rw [List.map_append,map_rep]
   exact (rxs.same S05).app (Reps.repl r2 m)
  ·rw [cf_pad,if_neg (by walk_at "o")]
   grind
  ·obtain ⟨o4,rfl,S6,qs,l6,n6,f6,c6,b6⟩:=(hPv _ _ _).mp pv
   obtain ⟨hi',rfl⟩:=iots_at hx
   rw [Int.zero_add]
   obtain ⟨zs,hzs,rzs⟩:=id l6
   have hiq:i < qs.length:=by walk_at "o"
   obtain ⟨x1,e1,r1⟩:=rzs.at (i:=i) (d:=fr qs[i]) (by rw [List.getElem?_map,List.getElem?_eq_getElem hiq]; rfl)
   obtain ⟨x2,e2,r2⟩:=rys.at (i:=i) (d:=fr gs[i]) (by rw [List.getElem?_map,List.getElem?_eq_getElem hi']; rfl)
   obtain ⟨k1,k2⟩:=f6 qs[i] (List.getElem_mem hiq)
   have k3:=b6 i qs[i] (Nat.le_refl _) (List.getElem?_eq_getElem hiq)
   obtain ⟨g1,g2⟩:=hg gs[i] (List.getElem_mem hi')
   walk_at "vc"
   refine ⟨zs,hzs,x1,atI_nat e1,ys,S6 _ _ hys,x2,atI_nat e2,?_⟩
   simp only [zPtimes]
   walk_at "vc"
   refine ⟨_,Rep.same S6 _ _ r2,c,Rep.same S6 _ _ hy,g1.ne,fc.ne,g2.mono (by walk_at "o"),bc.mono (by walk_at "o"),(g2.2.mul bc.2).mono (by walk_at "o"),fun v3 H7 S7 r3=>?_⟩
   have f3:=mulq_Fq g1 fc
   have b3:=mulq_Bq g1 fc g2 bc
   simp only [zPplus]
   walk_at "vc"
   refine ⟨_,Rep.same S7 _ _ r1,_,r3,k1.ne,f3.ne,k3.mono (by walk_at "o"),b3.mono (by walk_at "o"),(k3.2.mul b3.2).mono (by walk_at "o"),fun v4 H8 S8 r4=>?_⟩
   have f4:=addq_Fq k1 f3
   have b4:=addq_Bq k1 f3 k3 b3
   have S68:=S7.trans S8
   have hlz:zs.length = qs.length:=by rw [rzs.length,List.length_map]
   refine ⟨zs,S68 _ _ hzs,i,by rw [hlz]; exact ixN_nat hiq,fun H9 B9 h9=>(hPv _ _ _).mpr ⟨_,rfl,fun x o e'=>B9 _ _ (ne_of_none e' ne) (S68 _ _ (S6 _ _ e')),qs.set i (addq qs[i] (mulq gs[i] c)),LsAt.chg (S68 _ _ hzs) (rzs.same S68) r4 B9 h9,by rw [List.length_set]; exact n6,fun q hq=>?_,fun k=>?_,fun k q hk e'=>?_⟩⟩
   ·rcases List.mem_or_eq_of_mem_set hq with z | z
    ·exact f6 q z
    ·rw [z]
     exact ⟨f4,b4.mono (by walk_at "o")⟩
   ·rw [cf_setv hiq]
    by_cases hk:k = i
    ·subst hk
     rw [if_pos rfl,if_pos (by walk_at "o"),wv_add k1.ne f3.ne,wv_mul g1.ne fc.ne,<- cf_some (List.getElem?_eq_getElem hiq),<- cf_some (List.getElem?_eq_getElem hi'),c6 k,if_neg (by walk_at "o")]
     grind
    ·rw [if_neg hk,c6 k]
     by_cases hk2:k < i
     ·rw [if_pos hk2,if_pos (by walk_at "o")]
     ·rw [if_neg hk2,if_neg (by walk_at "o")]
   ·rw [List.getElem?_set_ne (by walk_at "o")] at e'
    exact b6 k q (by walk_at "o") e'
  ·obtain ⟨o4,rfl,S6,qs,l6,n6,f6,c6,b6⟩:=(hPv _ _ _).mp pv
   rw [iots_len] at c6
   walk_at "vc"
   simp only [zPclean]
   walk_at "vc"
   have hF:∀ q ∈ qs,Fq q:=fun q hq=>(f6 q hq).1
   refine ⟨qs,l6,fun d H7 n hn hz hd hnd S7 l7=>h d H7 (qs.take n) (S6.trans S7) l7 (S6.none hnd) (clean_ok hF hz) (fun k=>?_) (by rw [List.length_take]; walk_at "o") fun q hq=>(f6 q (List.mem_of_mem_take hq)).2⟩
   rw [cf_take hF hd k,c6 k]
   by_cases hk:k < gs.length
   ·rw [if_pos hk]
   ·rw [if_neg hk,cf_none (qs:=gs) (by walk_at "o")]
    grind
def zPmultiplied (K:PySem.W.Frag):Sp:=fun vs H Q _=>∃ (a b:Addr) (fs gs:List (Int × Int)) (B:Nat),vs = [.ref a,.ref b] /\ LsAt (vw K H) a fs /\ LsAt (vw K H) b gs /\ fs.length <= 40 /\ gs.length <= 40 /\ 1 <= B /\ B <= 400 /\ fs.length * (2 * B + 1) <= 8000 /\ (∀ q ∈ fs,Fq q /\ Bq B q) /\ (∀ q ∈ gs,Fq q /\ Bq B q) /\
 ∀ d H' (rs:List (Int × Int)),Same (vw K H) (vw K H') -> LsAt (vw K H') d rs -> vw K H d = none -> PolyOk rs -> (∀ k,cf rs k = pr (cf fs) (cf gs) fs.length k) -> rs.length <= fs.length + gs.length -> (∀ q ∈ rs,Bq (1 + fs.length * (2 * B + 1)) q) -> Q (.ref d) H'
theorem zOmultiplied (F:Fun K "_law_multiplied" "_law_multiplied" zTmultiplied f fd) (T:Txt K mg) (zCclean:Cal P w K mg base "_law_clean" ["_law_numbers"] 1 (zPclean K)) (zCplus:Cal P w K mg base "_law_plus" ["_law_one", "_law_other"] 3 (zPplus K)) (zCtimes:Cal P w K mg base "_law_times" ["_law_one", "_law_other"] 3 (zPtimes K)):FnOk P w K mg base CX0 4 f fd ["_law_f", "_law_g"] (zPmultiplied K):=by
 have scN:=zUmultiplied.nd
 refine F.okQ zUmultiplied (fun vs H Q E h=>?_) (fun cdv A outer s H vs Q E hr h=>?_)
 ·obtain ⟨a,_,_,_,_,rfl,_⟩:=h
  rfl
 ·obtain ⟨a,b,fs,gs,B,rfl,ha,hb,lf,lg',hB0,hB,hBB,hf,hg,h⟩:=h
  refine ⟨_,(qss_cons (qs_set (i:=2) scN rfl (by walk_at "a1") (qe_op op_Mul (qe_lstS (qa_cons (qe_tupS (qa_cons qe_int (qa_cons qe_int qa_nil))) qa_nil)) (qe_op op_Plus (qe_callB call_lenH (by rfl) T.b_len bt_len (qa_cons (qv 0) qa_nil)) (qe_callB call_lenH (by rfl) T.b_len bt_len (qa_cons (qv 1) qa_nil)))))
   (qss_cons (qs_for PassesOwn.never rfl (qi_range1 rfl T.b_range (qa_cons (qe_callB call_lenH (by rfl) T.b_len bt_len (qa_cons (qv 0) qa_nil)) qa_nil)) (qg_name (i:=3) scN rfl (by walk_at "a1")) (qss_one (qs_for PassesOwn.never rfl (qi_range1 rfl T.b_range (qa_cons (qe_callB call_lenH (by rfl) T.b_len bt_len (qa_cons (qv 1) qa_nil)) qa_nil)) (qg_name (i:=4) scN rfl (by walk_at "a1")) (qss_one (qs_asg (qe_cal zCplus (hr.mono (by walk_at "a2")) rfl (qa_cons (qe_ix ix_h (qv 2) (qe_op op_Plus (qv 3) (qv 4)) (fun _ _=>rfl)) (qa_cons (qe_cal zCtimes (hr.mono (by walk_at "a2")) rfl (qa_cons (qe_ix ix_h (qv 0) (qv 3) (fun _ _=>rfl)) (qa_cons (qe_ix ix_h (qv 1) (qv 4) (fun _ _=>rfl)) qa_nil))) qa_nil))) (qg_sub (qv 2) (qe_op op_Plus (qv 3) (qv 4)) set_listS))))))
   (qss_one (qs_ret (qe_cal zCclean (hr.mono (by walk_at "a2")) rfl (qa_cons (qv 2) qa_nil)))))),?_⟩
  walk_at "m"
  walk_at "vc"
  obtain ⟨xs,hxs,rxs⟩:=id ha
  obtain ⟨ys,hys,rys⟩:=id hb
  refine ⟨by decide,fun p2 H2 hp2 S2 h2=>⟨by decide,fun p3 H3 hp3 S3 h3=>?_⟩⟩
  have S03:=S2.trans S3
  refine ⟨_,(ha.same S03).len,_,(hb.same S03).len,?_⟩
  rw [show (fs.length:Int) + (gs.length:Int) = ((fs.length + gs.length:Nat):Int) by walk_at "o",rMul_rep]
  refine ⟨_,h3,by walk_at "o",by walk_at "o",?_,fun e H5 he S5 h5=>?_⟩
  ·have:1000 <= sizeLine:=by decide
   simp
   walk_at "o"
  rw [show ((fs.length + gs.length:Nat):Int).toNat = fs.length + gs.length by walk_at "o",rep_flat] at h5
  have S05:=S03.trans S5
  have r2:Rep (vw K H5) (fr (0,1)) (.ref p2):=rep_pair ((S3.trans S5) _ _ h2)
  have ne:vw K H e = none:=S03.none he
  refine ⟨_,(ha.same S05).len,by walk_at "o",by walk_at "o",?_⟩
  obtain ⟨n,hn⟩ : ∃ n,n = fs.length + gs.length:=⟨_,rfl⟩
  rw [<- hn] at h5
  obtain ⟨Pv,hPv⟩ : ∃ Pv:Nat -> St -> Hp -> Prop,∀ i σ H',Pv i σ H' ↔ ∃ o3 o4,σ = [some (.ref a),some (.ref b),some (.ref e),o3,o4] /\ Same (vw K H) (vw K H') /\ ∃ qs,LsAt (vw K H') e qs /\ qs.length = n /\ (∀ q ∈ qs,Fq q /\ Bq (1 + i * (2 * B + 1)) q) /\ (∀ k,k < n -> cf qs k = pr (cf fs) (cf gs) i k):=⟨_,fun _ _ _=>Iff.rfl⟩
  refine for_items (its:=iots 0 fs.length) Pv (fun _ _ _ _ _=>items_range) ((hPv _ _ _).mpr ⟨_,_,rfl,S05,List.replicate n (0,1),⟨_,h5,?_⟩,by simp,fun q hq=>?_,fun k hk=>?_⟩) (fun i x σ H6 hi hx pv=>?_) (fun σ H6 pv=>?_)
  ·rw [map_rep]
   exact Reps.repl r2 n
  ·rw [(List.mem_replicate.mp hq).2]
   exact ⟨Fq_01,Bq_01 (by walk_at "o")⟩
  ·rw [cf_some (List.getElem?_replicate_of_lt hk),wv_01]
   rfl
  ·obtain ⟨o3,o4,rfl,S6,qs,l6,n6,f6,c6⟩:=(hPv _ _ _).mp pv
   obtain ⟨hi',rfl⟩:=iots_at hx
   rw [Int.zero_add]
   have hiB:i * (2 * B + 1) + (2 * B + 1) <= 8000:=by
    have:=Nat.mul_le_mul_right (2 * B + 1) (show i + 1 <= fs.length by walk_at "o")
    rw [Nat.add_mul,Nat.one_mul] at this
    walk_at "o"
   walk_at "vc"
   refine ⟨_,(hb.same S6).len,by walk_at "o",by walk_at "o",?_⟩
   obtain ⟨Pw,hPw⟩ : ∃ Pw:Nat -> St -> Hp -> Prop,∀ j σ H',Pw j σ H' ↔ ∃ o4,σ = [some (.ref a),some (.ref b),some (.ref e),some (.int i),o4] /\ Same (vw K H) (vw K H') /\ ∃ qs,LsAt (vw K H') e qs /\ qs.length = n /\ (∀ q ∈ qs,Fq q /\ Bq (1 + (i + 1) * (2 * B + 1)) q) /\ (∀ k,k < n -> cf qs k = qr (cf fs) (cf gs) i j k) /\ (∀ k q,i + j <= k -> qs[k]? = some q -> Bq (1 + i * (2 * B + 1)) q):=⟨_,fun _ _ _=>Iff.rfl⟩
   refine for_items (its:=iots 0 gs.length) Pw (fun _ _ _ _ _=>items_range) ((hPw _ _ _).mpr ⟨_,rfl,S6,qs,l6,n6,fun q hq=>⟨(f6 q hq).1,(f6 q hq).2.mono (by rw [Nat.add_mul]; walk_at "o")⟩,fun k hk=>?_,fun k q _ e'=>(f6 q (List.mem_of_getElem? e')).2⟩) (fun j x σ H7 hj hx pw=>?_) (fun σ H7 pw=>?_)
   ·rw [qr_0]
    exact c6 k hk
   ·obtain ⟨o4,rfl,S7,ps,l7,n7,f7,c7,b7⟩:=(hPw _ _ _).mp pw
    obtain ⟨hj',rfl⟩:=iots_at hx
    rw [Int.zero_add]
    obtain ⟨zs,hzs,rzs⟩:=id l7
    have hiq:i + j < ps.length:=by walk_at "o"
    obtain ⟨x0,e0,r0⟩:=rzs.at (i:=i + j) (d:=fr ps[i + j]) (by rw [List.getElem?_map,List.getElem?_eq_getElem hiq]; rfl)
    obtain ⟨x1,e1,r1⟩:=rxs.at (i:=i) (d:=fr fs[i]) (by rw [List.getElem?_map,List.getElem?_eq_getElem hi']; rfl)
    obtain ⟨x2,e2,r2'⟩:=rys.at (i:=j) (d:=fr gs[j]) (by rw [List.getElem?_map,List.getElem?_eq_getElem hj']; rfl)
    obtain ⟨k1,k2⟩:=f7 ps[i + j] (List.getElem_mem hiq)
    have k3:=b7 (i + j) ps[i + j] (Nat.le_refl _) (List.getElem?_eq_getElem hiq)
    obtain ⟨g1,g2⟩:=hg gs[j] (List.getElem_mem hj')
    obtain ⟨u1,u2⟩:=hf fs[i] (List.getElem_mem hi')
    walk_at "vc"
    rw [show (i:Int) + (j:Int) = ((i + j:Nat):Int) by walk_at "o"]
    refine ⟨zs,hzs,x0,atI_nat e0,xs,S7 _ _ hxs,x1,atI_nat e1,ys,S7 _ _ hys,x2,atI_nat e2,?_⟩
    simp only [zPtimes]
    walk_at "vc"
    refine ⟨_,Rep.same S7 _ _ r1,_,Rep.same S7 _ _ r2',u1.ne,g1.ne,u2.mono (by walk_at "o"),g2.mono (by walk_at "o"),(u2.2.mul g2.2).mono (by walk_at "o"),fun v3 H8 S8 r3=>?_⟩
    have f3:=mulq_Fq u1 g1
    have b3:=mulq_Bq u1 g1 u2 g2
    simp only [zPplus]
    walk_at "vc"
    refine ⟨_,Rep.same S8 _ _ r0,_,r3,k1.ne,f3.ne,k3.mono (by walk_at "o"),b3.mono (by walk_at "o"),(k3.2.mul b3.2).mono (by walk_at "o"),fun v4 H9 S9 r4=>?_⟩
    have f4:=addq_Fq k1 f3
    have b4:=addq_Bq k1 f3 k3 b3
    have S79:=S8.trans S9
    have hlz:zs.length = ps.length:=by rw [rzs.length,List.length_map]
    refine ⟨zs,S79 _ _ hzs,i + j,by rw [hlz]; exact ixN_nat hiq,fun H10 B10 h10=>(hPw _ _ _).mpr ⟨_,rfl,fun x o e'=>B10 _ _ (ne_of_none e' ne) (S79 _ _ (S7 _ _ e')),ps.set (i + j) (addq ps[i + j] (mulq fs[i] gs[j])),LsAt.chg (S79 _ _ hzs) (rzs.same S79) r4 B10 h10,by rw [List.length_set]; exact n7,fun q hq=>?_,fun k hk=>?_,fun k q hk e'=>?_⟩⟩
    ·rcases List.mem_or_eq_of_mem_set hq with z | z
     ·exact f7 q z
     ·rw [z]
      exact ⟨f4,b4.mono (by rw [Nat.add_mul]; walk_at "o")⟩
    ·rw [cf_setv hiq,qr_at]
     by_cases hk:k = i + j
     ·rw [if_pos hk,if_pos hk,wv_add k1.ne f3.ne,wv_mul u1.ne g1.ne,<- cf_some (List.getElem?_eq_getElem hiq),<- cf_some (List.getElem?_eq_getElem hi'),<- cf_some (List.getElem?_eq_getElem hj'),c7 (i + j) (by walk_at "o")]
     ·rw [if_neg hk,if_neg hk,c7 k (by assumption)]
    ·rw [List.getElem?_set_ne (by walk_at "o")] at e'
     exact b7 k q (by walk_at "o") e'
   ·obtain ⟨o4,rfl,S7,ps,l7,n7,f7,c7,b7⟩:=(hPw _ _ _).mp pw
    rw [iots_len] at c7
    refine (hPv _ _ _).mpr ⟨_,_,rfl,S7,ps,l7,n7,f7,fun k hk=>?_⟩
    rw [c7 k hk,qr_end fun i hi=>cf_none hi]
  ·obtain ⟨o3,o4,rfl,S6,qs,l6,n6,f6,c6⟩:=(hPv _ _ _).mp pv
   rw [iots_len] at c6 f6
   walk_at "vc"
   simp only [zPclean]
   walk_at "vc"
   have hF:∀ q ∈ qs,Fq q:=fun q hq=>(f6 q hq).1
   refine ⟨qs,l6,fun d H7 n' hn' hz hd hnd S7 l7=>h d H7 (qs.take n') (S6.trans S7) l7 (S6.none hnd) (clean_ok hF hz) (fun k=>?_) (by rw [List.length_take]; walk_at "o") fun q hq=>(f6 q (List.mem_of_mem_take hq)).2⟩
   rw [cf_take hF hd k]
   by_cases hk:k < n
   ·exact c6 k hk
   ·rw [cf_none (by walk_at "o"),pr_high (n:=gs.length) (fun i hi=>cf_none hi) _ _ (by walk_at "o")]
def zPcrowd (K:PySem.W.Frag):Sp:=fun vs H Q _=>∃ (st:Addr) (m:Nat),vs = [.ref st,.int m] /\ m <= 6 /\ StOk (vw K H) st /\ ∀ (a:Addr) (H':Hp) (cs:List Spt),But st (vw K H) (vw K H') -> StOk (vw K H') st -> FlAt (vw K H') a (cs.map spt) -> (∀ c ∈ cs,Fq c.1 /\ Fq c.2 /\ 0 < c.2.1) -> (∀ c ∈ cs,Bq 100 c.1 /\ Bq 10 c.2) -> (∀ c ∈ cs,Sx 300 c.1 /\ Sx 36 c.2) ->
 (∀ i c d,cs[i]? = some c -> cs[i + 1]? = some d -> ltq c.1 d.1 = true) -> cs.length <= m -> vw K H a = none -> Q (.ref a) H'
theorem zOcrowd (F:Fun K "_law_crowd" "_law_crowd" zTcrowd f fd) (T:Txt K mg) (zCsmall:Cal P w K mg base "_law_small" ["_law_state_here"] 3 (zPsmall K)) (zCabove:Cal P w K mg base "_law_above" ["_law_state_here"] 3 (zPabove K))
  (zCtake:Cal P w K mg base "_law_take" ["_law_state_here", "_law_many"] 1 (zPtake K)) (zCplus:Cal P w K mg base "_law_plus" ["_law_one", "_law_other"] 3 (zPplus K)):FnOk P w K mg base CX0 4 f fd ["_law_state_here", "_law_most"] (zPcrowd K):=by
 have scN:=zUcrowd.nd
 refine F.okQ zUcrowd (fun vs H Q E h=>?_) (fun cdv A outer s H vs Q E hr h=>?_)
 ·obtain ⟨a,_,rfl,_⟩:=h
  rfl
 ·obtain ⟨st,m,rfl,hm,hst,h⟩:=h
  refine ⟨_,(qss_cons (qs_set (i:=2) scN rfl (by walk_at "a1") (qe_lstS qa_nil))
   (qss_cons (qs_set (i:=3) scN rfl (by walk_at "a1") (qe_cal zCsmall (hr.mono (by walk_at "a2")) rfl (qa_cons (qv 0) qa_nil)))
   (qss_cons (qs_for PassesOwn.never rfl (qi_range1 rfl T.b_range (qa_cons (qe_cal zCtake (hr.mono (by walk_at "a2")) rfl (qa_cons (qv 0) (qa_cons (qe_op op_Plus (qv 1) qe_int) qa_nil))) qa_nil)) (qg_name (i:=4) scN rfl (by walk_at "a1")) (qss_cons (qs_expr (qe_bm PySem.F.plainAttrs_list PySem.F.slot_list_append PySem.F.type_list_append mt_appendS (qv 2) (qa_cons (qe_tupS (qa_cons (qv 3) (qa_cons (qe_cal zCabove (hr.mono (by walk_at "a2")) rfl (qa_cons (qv 0) qa_nil)) qa_nil))) qa_nil)))
   (qss_one (qs_set (i:=3) scN rfl (by walk_at "a1") (qe_cal zCplus (hr.mono (by walk_at "a2")) rfl (qa_cons (qv 3) (qa_cons (qe_cal zCabove (hr.mono (by walk_at "a2")) rfl (qa_cons (qv 0) qa_nil)) qa_nil)))))))
   (qss_one (qs_ret (qv 2)))))),?_⟩
  walk_at "m"
  walk_at "vc"
  simp only [zPtake,zPsmall]
  walk_at "vc"
  refine ⟨by decide,fun a H1 ha S1 h1=>⟨hst.same S1,fun v H2 q B2 S2 r2 f2 c1 c2 c5=>⟨S2,by walk_at "o",by walk_at "o",fun n H3 n0 n1 B3 S3=>⟨by walk_at "o",by walk_at "o",?_⟩⟩⟩⟩
  have nst:st ≠ a:=((hst.ne ha)).symm
  have h3:=B3 _ _ nst.symm (B2 _ _ nst.symm h1)
  have hr2:Rep (vw K H3) (fr q) v:=by
   obtain ⟨_,_,z,_⟩:=id S2
   exact Rep.flat_but z B3 _ _ (fr_flat q) r2
  refine for_items (its:=iots 0 n.toNat) (fun i σ H'=>∃ v y q cs,σ = [some (.ref st),some (.int m),some (.ref a),some v,y] /\ But st (vw K H) (vw K H') /\ StOk (vw K H') st /\ FlAt (vw K H') a (cs.map spt) /\ cs.length = i /\ Rep (vw K H') (fr q) v /\ Fq q /\ Bq (10 + 12 * i) q /\ Sx (36 + 36 * i) q /\ (∀ c ∈ cs,Sx 300 c.1 /\ Sx 36 c.2) /\
   (∀ c ∈ cs,Fq c.1 /\ Fq c.2 /\ 0 < c.2.1) /\ (∀ c ∈ cs,Bq 100 c.1 /\ Bq 10 c.2) /\ (∀ i c d,cs[i]? = some c -> cs[i + 1]? = some d -> ltq c.1 d.1 = true) /\ ∀ c,cs.getLast? = some c -> ltq c.1 q = true) (fun _ _ _ _ _=>items_range)
   ⟨v,_,q,[],rfl,((S1.but st).trans B2).trans B3,S3,⟨[],h3,.mk_nil⟩,rfl,hr2,f2,⟨c1,c2⟩,c5,by simp,by simp,by simp,by simp,by simp⟩ ?_ ?_
  ·rintro i x σ H4 hi hx ⟨v,y,q,cs,rfl,B4,S4,l4,hl,r4,f4,b4,x4,c6,c1,c2,c3,c4⟩
   rw [iots_len] at hi
   walk_at "vc"
   simp only [zPabove,zPplus]
   walk_at "vc"
   refine ⟨l4.ty,S4,fun w5 H5 q5 B5 S5 r5 f5 p5 b5 x5=>⟨by decide,fun p6 H6 hp6 S6 h6=>?_⟩⟩
   have l6:FlAt (vw K H6) a (cs.map spt):=(l4.stBut (spt_flats cs) (spt_no cs) S4 B5).same S6
   have r46:Rep (vw K H6) (fr q) v:=by
    obtain ⟨_,_,z,_⟩:=id S4
    exact Rep.same S6 _ _ (Rep.flat_but z B5 _ _ (fr_flat q) r4)
   have r56:=Rep.same S6 _ _ r5
   obtain ⟨xs,hxs,rxs⟩:=id l6
   refine ⟨xs,hxs,?_,fun H7 B7 h7=>?_⟩
   ·rw [rxs.length,List.length_map]
    exact Nat.lt_of_lt_of_le (show cs.length < 7 by walk_at "o") (by decide)
   have S7:StOk (vw K H7) st:=(S5.same S6).but hxs nst B7
   have r47:=Rep.flat_but hxs B7 _ _ (fr_flat q) r46
   have r57:=Rep.flat_but hxs B7 _ _ (fr_flat q5) r56
   have ne6:p6 ≠ a:=fun e=>by
    obtain ⟨_,z,_⟩:=l4.stBut (spt_flats cs) (spt_no cs) S4 B5
    rw [<- e,hp6] at z
    cases z
   have h67:=B7 _ _ ne6 h6
   have l7:FlAt (vw K H7) a ((cs ++ [(q,q5)]).map spt):=by
    refine ⟨_,h7,?_⟩
    rw [List.map_append]
    exact (Reps.flat_but hxs B7 _ _ (spt_flats cs) rxs).snoc (.mk_spt h67 r47 r57)
   have B07:But st (vw K H) (vw K H7):=fun b o hb e=>B7 _ _ (ne_of_none e ha) (S6 _ _ (B5 _ _ hb (B4 _ _ hb e)))
   refine ⟨S7,fun w8 H8 q8 B8 S8 r8 f8 p8 b8 x8=>⟨q,?_⟩⟩
   obtain ⟨_,_,zst,_⟩:=id S7
   have r48:=Rep.flat_but zst B8 _ _ (fr_flat q) r47
   refine ⟨r48,q8,r8,by have:=f4.1; walk_at "o",by have:=f8.1; walk_at "o",b4.mono (by walk_at "o"),b8.mono (by decide),(b4.2.mul b8.2).mono (by walk_at "o"),fun v9 H9 S9 r9=>?_⟩
   refine ⟨(B07.trans B8).same_trans S9,S8.same S9,addq q q8,cs ++ [(q,q5)],(l7.stBut (spt_flats _) (spt_no _) S7 B8).same S9,by simp [hl],r9,addq_Fq f4 f8,(addq_Bq f4 f8 b4 b8).mono (by walk_at "o"),(x4.add f4.ne f8.ne x8).mono (by walk_at "o"),?_,?_,?_,?_,?_⟩
   ·intro c hc
    rcases List.mem_append.mp hc with z | z
    ·exact c6 c z
    ·cases List.mem_singleton.mp z
     exact ⟨x4.mono (by walk_at "o"),x5⟩
   ·intro c hc
    rcases List.mem_append.mp hc with z | z
    ·exact c1 c z
    ·cases List.mem_singleton.mp z
     exact ⟨f4,f5,p5⟩
   ·intro c hc
    rcases List.mem_append.mp hc with z | z
    ·exact c2 c z
    ·cases List.mem_singleton.mp z
     exact ⟨b4.mono (by walk_at "o"),b5⟩
   ·intro j c d e1 e2
    by_cases hj:j + 1 < cs.length
    ·rw [List.getElem?_append_left (by walk_at "o")] at e1
     rw [List.getElem?_append_left hj] at e2
     exact c3 j c d e1 e2
    ·have hj2:j + 1 = cs.length:=by
      have:=(List.getElem?_eq_some_iff.mp e2).1
      simp at this
      walk_at "o"
     rw [List.getElem?_append_right (by walk_at "o"),hj2,Nat.sub_self] at e2
     cases e2
     rw [List.getElem?_append_left (by walk_at "o")] at e1
     refine c4 c ?_
     rw [List.getLast?_eq_getElem?,<- hj2]
     exact e1
   ·intro c hc
    rw [List.getLast?_concat] at hc
    cases hc
    exact addq_lt f4 f8 p8
  ·rintro σ H4 ⟨v,y,q,cs,rfl,B4,S4,l4,hl,r4,f4,b4,x4,c6,c1,c2,c3,c4⟩
   walk_at "vc"
   exact h a H4 cs B4 S4 l4 c1 c2 c6 c3 (by rw [hl,iots_len]; walk_at "o") ha
structure Bin (K:PySem.W.Frag) (op:Int × Int -> Int × Int -> Int × Int) (p q:Int × Int) (x y:V) (H:Hp) (Q:VK):Prop where
 r1:Rep (vw K H) (fr p) x
 r2:Rep (vw K H) (fr q) y
 n1:p.2 ≠ 0
 n2:q.2 ≠ 0
 b1:Bq 20000 p
 b2:Bq 20000 q
 bb:Bt 9000 (p.2 * q.2)
 k:∀ v H',Same (vw K H) (vw K H') -> Rep (vw K H') (fr (op p q)) v -> Q v H'
theorem ap_times {p q:Int × Int} {x y:V} {H:Hp} {Q:VK} {E:XK} (h:Bin K mulq p q x y H Q):zPtimes K [x,y] H Q E:=⟨x,y,p,q,rfl,h.r1,h.r2,h.n1,h.n2,h.b1,h.b2,h.bb,h.k⟩
theorem ap_plus {p q:Int × Int} {x y:V} {H:Hp} {Q:VK} {E:XK} (h:Bin K addq p q x y H Q):zPplus K [x,y] H Q E:=⟨x,y,p,q,rfl,h.r1,h.r2,h.n1,h.n2,h.b1,h.b2,h.bb,h.k⟩
theorem ap_minus {p q:Int × Int} {x y:V} {H:Hp} {Q:VK} {E:XK} (h:Bin K subq p q x y H Q):zPminus K [x,y] H Q E:=⟨x,y,p,q,rfl,h.r1,h.r2,h.n1,h.n2,h.b1,h.b2,h.bb,h.k⟩
theorem poly_nil:PolyOk []:=⟨(fun _ z=>by cases z),(fun _ z=>by cases z)⟩
theorem wv_neg {q:Int × Int}:wv (-q.1,q.2) = -(wv q):=by
 unfold wv
 show ((-q.1:Int):Rat) / _ = _
 rw [Rat.intCast_neg]
 grind
theorem wv_11:wv (1,1) = 1:=by
 show ((1:Int):Rat) / ((1:Int):Rat) = 1
 have c1:((1:Int):Rat) = 1:=rfl
 rw [c1]
 grind
theorem fq_11:Fq (1,1):=⟨by decide,by decide⟩
theorem bq_11:Bq 1 (1,1):=⟨by decide,by decide⟩
theorem cf_one {p:Int × Int} {a b:Rat} (k:Nat):cf [p] k = wv p * Lp a b 0 k:=by
 rcases k with _ | k
 ·show wv p = wv p * 1
  grind
 ·show (0:Rat) = wv p * 0
  grind
theorem poly_11:PolyOk [(1,1)]:=⟨fun q hq=>by rw [List.mem_singleton] at hq; subst hq; exact fq_11,fun q hq=>by cases hq; decide⟩
theorem fq_less {q:Int × Int} (h:Fq q):Fq (0 - q.1,q.2):=⟨h.1,by have:=h.2; rw [Int.zero_sub,Int.neg_gcd]; exact this⟩
theorem bq_less {n:Nat} {q:Int × Int} (h:Bq n q):Bq n (0 - q.1,q.2):=⟨by have:=h.1; unfold Bt at this ⊢; show (0 - q.1).natAbs < _; walk_at "o",h.2⟩
theorem mul_last {rs ts us:List (Int × Int)} {m n:Nat} (hr:PolyOk rs) (ht:PolyOk ts) (hu:PolyOk us) (lr:rs.getLast? = some (1,1)) (lt:ts.getLast? = some (1,1)) (er:rs.length = m + 1) (et:ts.length = n + 1) (e:∀ k,cf us k = pr (cf rs) (cf ts) rs.length k):us.getLast? = some (1,1) /\ us.length = m + n + 1:=by
 have r1:cf rs m = 1:=by
  rw [List.getLast?_eq_getElem?,er,Nat.add_sub_cancel] at lr
  rw [cf_some lr,wv_11]
 have t1:cf ts n = 1:=by
  rw [List.getLast?_eq_getElem?,et,Nat.add_sub_cancel] at lt
  rw [cf_some lt,wv_11]
 have u1:cf us (m + n) = 1:=by
  rw [e,pr_at (d:=n) (i:=m) (fun j hj=>cf_none (by walk_at "o")) (fun j hj=>cf_none (by walk_at "o")),if_pos (by walk_at "o"),r1,t1]
  grind
 have l:us.length = m + n + 1:=poly_lenAt hu (by rw [u1]; grind) fun k hk=>by
  rw [e]
  exact pr_high (n:=n + 1) (fun i hi=>cf_none (by walk_at "o")) _ _ (by walk_at "o")
 refine ⟨?_,l⟩
 rw [List.getLast?_eq_getElem?,l,Nat.add_sub_cancel,List.getElem?_eq_getElem (show m + n < us.length by walk_at "o")]
 rw [cf_some (List.getElem?_eq_getElem (show m + n < us.length by walk_at "o")),<- wv_11] at u1
 rw [wv_inj (hu.1 _ (List.getElem_mem _)) fq_11 u1]
theorem poly_two {p:Int × Int} (h:Fq p):PolyOk [p,(1,1)]:=⟨fun q hq=>by
 rcases List.mem_cons.mp hq with rfl | hq
 ·exact h
 ·rw [List.mem_singleton] at hq
  subst hq
  exact fq_11,fun q hq=>by cases hq; show (1:Int) ≠ 0; decide⟩
theorem pb_sx1 {p:Int × Int} {b:Nat} (h1:Sx b p) (hb:b < 64):Pb 6 (cf [p]):=by
 obtain ⟨m,e1,l1⟩:=h1
 exact ⟨6,by decide,by decide,po_one e1 (show m.natAbs < 2 ^ 6 by walk_at "o")⟩
theorem pb_sx2 {p q:Int × Int} {b:Nat} (h1:Sx b p) (h2:Sx b q) (hb:b < 64):Pb 6 (cf [p,q]):=by
 obtain ⟨m,e1,l1⟩:=h1
 obtain ⟨n,e2,l2⟩:=h2
 exact ⟨6,by decide,by decide,po_two e1 e2 (show m.natAbs < 2 ^ 6 by walk_at "o") (show n.natAbs < 2 ^ 6 by walk_at "o")⟩
theorem ap_multiplied {a b:Addr} {fs gs:List (Int × Int)} (B:Nat) {H:Hp} {Q:VK} {E:XK} (la:LsAt (vw K H) a fs) (lb:LsAt (vw K H) b gs) (l1:fs.length <= 40) (l2:gs.length <= 40) (h1:1 <= B) (h2:B <= 400) (h3:fs.length * (2 * B + 1) <= 8000) (f1:∀ q ∈ fs,Fq q /\ Bq B q) (f2:∀ q ∈ gs,Fq q /\ Bq B q)
  (k:∀ d H' (rs:List (Int × Int)),Same (vw K H) (vw K H') -> LsAt (vw K H') d rs -> vw K H d = none -> PolyOk rs -> (∀ k,cf rs k = pr (cf fs) (cf gs) fs.length k) -> rs.length <= fs.length + gs.length -> (∀ q ∈ rs,Bq (1 + fs.length * (2 * B + 1)) q) -> Q (.ref d) H'):zPmultiplied K [.ref a,.ref b] H Q E:=⟨a,b,fs,gs,B,rfl,la,lb,l1,l2,h1,h2,h3,f1,f2,k⟩
theorem ap_summed {a b:Addr} {y:V} {fs gs:List (Int × Int)} {c:Int × Int} (B:Nat) {H:Hp} {Q:VK} {E:XK} (la:LsAt (vw K H) a fs) (lb:LsAt (vw K H) b gs) (ry:Rep (vw K H) (fr c) y) (l1:fs.length <= 40) (l2:gs.length <= 40) (h1:1 <= B) (h2:B <= 1300) (f1:∀ q ∈ fs,Fq q /\ Bq B q) (f2:∀ q ∈ gs,Fq q /\ Bq B q) (fc:Fq c) (bc:Bq B c)
  (k:∀ d H' (rs:List (Int × Int)),Same (vw K H) (vw K H') -> LsAt (vw K H') d rs -> vw K H d = none -> PolyOk rs -> (∀ k,cf rs k = cf fs k + cf gs k * wv c) -> rs.length <= max fs.length gs.length -> (∀ q ∈ rs,Bq (3 * B + 1) q) -> Q (.ref d) H'):zPsummed K [.ref a,.ref b,y] H Q E:=⟨a,b,y,fs,gs,c,B,rfl,la,lb,ry,l1,l2,h1,h2,f1,f2,fc,bc,k⟩
theorem ap_over {p q:Int × Int} {x y:V} {H:Hp} {Q:VK} {E:XK} (r1:Rep (vw K H) (fr p) x) (r2:Rep (vw K H) (fr q) y) (n1:p.2 ≠ 0) (n2:q.2 ≠ 0) (n3:q.1 ≠ 0) (b1:Bq 20000 p) (b2:Bq 20000 q) (bb:Bt 9000 (p.2 * q.1)) (k:∀ v H',Same (vw K H) (vw K H') -> Rep (vw K H') (fr (divq p q)) v -> Q v H'):zPover K [x,y] H Q E:=⟨x,y,p,q,rfl,r1,r2,n1,n2,n3,b1,b2,bb,k⟩
theorem pair2r {H:Hp} {y:Addr} {i:Int} {v:V} {R:Int -> V -> Prop} (h:vw K H y = some (.tup [.int i,v])) (k:R i v):∃ a,V.ref y = V.ref a /\ ∃ xs,vw K H a = some (.tup xs) /\ ∃ w,atI xs 0 = some w /\ ∃ n,w = V.int n /\ ∃ a,V.ref y = V.ref a /\ ∃ xs,vw K H a = some (.tup xs) /\ ∃ w,atI xs 1 = some w /\ R n w:=⟨_,rfl,_,h,_,atI_0,_,rfl,_,rfl,_,h,_,atI_1,k⟩
theorem item0 {H:Hp} {a y:Addr} {xs:List V} {i:Int} {u v:V} {R:V -> Prop} (hx:vw K H a = some (.lst xs)) (hl:atI xs i = some (.ref y)) (h:vw K H y = some (.tup [u,v])) (k:R u):∃ xs,vw K H a = some (.lst xs) /\ ∃ w,atI xs i = some w /\ ∃ p,w = V.ref p /\ ∃ xs,vw K H p = some (.tup xs) /\ ∃ w,atI xs 0 = some w /\ R w:=⟨_,hx,_,hl,_,rfl,_,h,_,atI_0,k⟩
theorem item1 {H:Hp} {a y:Addr} {xs:List V} {i:Int} {u v:V} {R:V -> Prop} (hx:vw K H a = some (.lst xs)) (hl:atI xs i = some (.ref y)) (h:vw K H y = some (.tup [u,v])) (k:R v):∃ xs,vw K H a = some (.lst xs) /\ ∃ w,atI xs i = some w /\ ∃ p,w = V.ref p /\ ∃ xs,vw K H p = some (.tup xs) /\ ∃ w,atI xs 1 = some w /\ R w:=⟨_,hx,_,hl,_,rfl,_,h,_,atI_1,k⟩
theorem item00 {H:Hp} {a y z:Addr} {xs:List V} {i n:Int} {u v:V} {R:Int -> V -> Prop} (hx:vw K H a = some (.lst xs)) (hl:atI xs i = some (.ref y)) (h:vw K H y = some (.tup [.ref z,v])) (hz:vw K H z = some (.tup [.int n,u])) (k:R n u) :
  ∃ xs,vw K H a = some (.lst xs) /\ ∃ w,atI xs i = some w /\ ∃ p,w = V.ref p /\ ∃ xs,vw K H p = some (.tup xs) /\ ∃ w,atI xs 0 = some w /\ ∃ p,w = V.ref p /\ ∃ xs,vw K H p = some (.tup xs) /\ ∃ w,atI xs 0 = some w /\ ∃ n,w = V.int n /\
   ∃ xs,vw K H a = some (.lst xs) /\ ∃ w,atI xs i = some w /\ ∃ p,w = V.ref p /\ ∃ xs,vw K H p = some (.tup xs) /\ ∃ w,atI xs 0 = some w /\ ∃ p,w = V.ref p /\ ∃ xs,vw K H p = some (.tup xs) /\ ∃ w,atI xs 1 = some w /\ R n w:=⟨_,hx,_,hl,_,rfl,_,h,_,atI_0,_,rfl,_,hz,_,atI_0,_,rfl,_,hx,_,hl,_,rfl,_,h,_,atI_0,_,rfl,_,hz,_,atI_1,k⟩
theorem pb_spot {q:Int × Int} (h:Sx 300 q):Pb 9 (cf [(0 - q.1,q.2),(1,1)]):=by
 obtain ⟨n,e,l⟩:=h
 have c6:((6:Int):Rat) = 6:=rfl
 refine ⟨6,by decide,by decide,po_two (m:=-n) (n:=6) ?_ ?_ ?_ (by decide)⟩
 ·rw [show (0 - q.1) = -q.1 by walk_at "o",wv_neg (q:=q),e,Rat.intCast_neg,c6]
  grind
 ·rw [wv_11,c6]
  grind
 ·show (-n).natAbs < 2 ^ 9
  walk_at "o"
theorem sx_bq {b:Nat} {q:Int × Int} (h:Sx b q) (f:Fq q) (hb:b < 512):Bq 9 q:=by
 obtain ⟨n,e,l⟩:=h
 have c6:((6:Int):Rat) = 6:=rfl
 have h6:(6:Int) ≠ 0:=by decide
 have:q = lo n 6:=wv_inj f (lo_Fq h6) (by rw [wv_lo h6,e,c6])
 rw [this]
 exact bt_lo h6 (show n.natAbs < 2 ^ 9 by walk_at "o") (by decide)
theorem pb_lin {a b:Nat} {f:Nat -> Rat} {p q:Int × Int} (h1:Pb a f) (h2:Pb b (cf [p,q])):Pb (a + b + 1) (lin (wv p) (wv q) f):=by
 obtain ⟨D,hD,bD,oD⟩:=h1
 obtain ⟨E,hE,bE,oE⟩:=h2
 obtain ⟨m,em,bm⟩:=oE 0
 obtain ⟨n,en,bn⟩:=oE 1
 have em:wv p = (m:Rat) / (E:Rat):=em
 have en:wv q = (n:Rat) / (E:Rat):=en
 have c1:=cast_ne hD
 have c2:=cast_ne hE
 refine ⟨D * E,Int.mul_ne_zero hD hE,(bD.mul bE).mono (by walk_at "o"),fun k=>?_⟩
 cases k with
 | zero =>
  obtain ⟨x,ex,bx⟩:=oD 0
  refine ⟨x * m,?_,(bx.mul bm).mono (by walk_at "o")⟩
  show f 0 * wv p = _
  rw [ex,em,Rat.intCast_mul,Rat.intCast_mul]
  grind
 | succ k =>
  obtain ⟨x,ex,bx⟩:=oD (k + 1)
  obtain ⟨y,ey,by'⟩:=oD k
  refine ⟨x * m + y * n,?_,((bx.mul bm).add (by'.mul bn)).mono (by walk_at "o")⟩
  show f (k + 1) * wv p + f k * wv q = _
  rw [ex,ey,em,en,Rat.intCast_add,Rat.intCast_mul,Rat.intCast_mul,Rat.intCast_mul]
  grind
theorem ltq_wv {p q:Int × Int} (hp:Fq p) (hq:Fq q) (h:ltq p q = true):wv p < wv q:=by
 unfold ltq at h
 have h:=of_decide_eq_true h
 have h1:((p.1 * q.2:Int):Rat) < ((q.1 * p.2:Int):Rat):=Rat.intCast_lt_intCast.mpr h
 have p2:(0:Rat) < ((p.2:Int):Rat):=Rat.intCast_pos.mpr hp.1
 have q2:(0:Rat) < ((q.2:Int):Rat):=Rat.intCast_pos.mpr hq.1
 rw [Rat.intCast_mul,Rat.intCast_mul] at h1
 unfold wv
 rw [Rat.div_lt_iff p2]
 have:(q.1:Rat) / (q.2:Rat) * (p.2:Rat) = ((q.1:Rat) * (p.2:Rat)) / (q.2:Rat):=by grind
 rw [this,Rat.lt_div_iff q2]
 exact h1
theorem spots_rise {cs:List Spt} (fc:∀ c ∈ cs,Fq c.1 /\ Fq c.2) (inc:∀ i c d,cs[i]? = some c -> cs[i + 1]? = some d -> ltq c.1 d.1 = true):∀ (m i:Nat) (c d:Spt),cs[i]? = some c -> cs[i + m + 1]? = some d -> wv c.1 < wv d.1
 | 0,i,c,d,h1,h2=>ltq_wv (fc c (List.mem_of_getElem? h1)).1 (fc d (List.mem_of_getElem? h2)).1 (inc i c d h1 h2)
 | m + 1,i,c,d,h1,h2=>by
  have hl:=(List.getElem?_eq_some_iff.mp h2).1
  obtain ⟨e,he⟩ : ∃ e,cs[i + m + 1]? = some e:=⟨_,List.getElem?_eq_getElem (by walk_at "o")⟩
  have a1:=spots_rise fc inc m i c e h1 he
  have a2:=ltq_wv (fc e (List.mem_of_getElem? he)).1 (fc d (List.mem_of_getElem? h2)).1 (inc (i + m + 1) e d he h2)
  grind
theorem spots_ne {cs:List Spt} (fc:∀ c ∈ cs,Fq c.1 /\ Fq c.2) (inc:∀ i c d,cs[i]? = some c -> cs[i + 1]? = some d -> ltq c.1 d.1 = true) {i j:Nat} {c d:Spt} (hne:i ≠ j) (h1:cs[i]? = some c) (h2:cs[j]? = some d):wv c.1 ≠ wv d.1:=by
 rcases Nat.lt_or_gt_of_ne hne with z | z
 ·obtain ⟨m,rfl⟩ : ∃ m,j = i + m + 1:=⟨j - i - 1,by walk_at "o"⟩
  have:=spots_rise fc inc m i c d h1 h2
  grind
 ·obtain ⟨m,rfl⟩ : ∃ m,i = j + m + 1:=⟨i - j - 1,by walk_at "o"⟩
  have:=spots_rise fc inc m j d c h2 h1
  grind
theorem pb_lag {p q t b:Int × Int} {n:Nat} (fp:Fq p) (fq:Fq q) (xp:Sx 300 p) (xq:Sx 300 q) (hne:wv p ≠ wv q) (hb:wv b = 1 / (wv p - wv q)) (ht:wv t = -(wv q) * wv b):Pb 10 (cf [t,b]):=by
 obtain ⟨m,em,lm⟩:=xp
 obtain ⟨k,ek,lk⟩:=xq
 have hd:m - k ≠ 0:=fun z=>hne (by rw [em,ek,show m = k by walk_at "o"])
 have c1:=cast_ne hd
 rw [Rat.intCast_sub] at c1
 have c6:((6:Int):Rat) = 6:=rfl
 refine ⟨m - k,hd,show (m - k).natAbs < 2 ^ 10 by walk_at "o",po_two (m:=-k) (n:=6) ?_ ?_ (show (-k).natAbs < 2 ^ 10 by walk_at "o") (by decide)⟩
 ·rw [ht,hb,em,ek,Rat.intCast_neg,Rat.intCast_sub]
  grind
 ·rw [hb,em,ek,Rat.intCast_sub,c6]
  grind
theorem spots_nodup {cs:List Spt} (fc:∀ c ∈ cs,Fq c.1 /\ Fq c.2) (inc:∀ i c d,cs[i]? = some c -> cs[i + 1]? = some d -> ltq c.1 d.1 = true):(sps cs).Nodup:=by
 rw [List.nodup_iff_pairwise_ne,List.pairwise_iff_getElem]
 intro i j hi hj hij
 rw [sps_len] at hi hj
 have e1:=sps_at (List.getElem?_eq_getElem hi)
 have e2:=sps_at (List.getElem?_eq_getElem hj)
 rw [List.getElem?_eq_getElem (by rw [sps_len]; exact hi)] at e1
 rw [List.getElem?_eq_getElem (by rw [sps_len]; exact hj)] at e2
 rw [Option.some.inj e1,Option.some.inj e2]
 exact spots_ne fc inc (by walk_at "o") (List.getElem?_eq_getElem hi) (List.getElem?_eq_getElem hj)
theorem spots_not {cs:List Spt} {n:Nat} (fc:∀ c ∈ cs,Fq c.1 /\ Fq c.2) (inc:∀ i c d,cs[i]? = some c -> cs[i + 1]? = some d -> ltq c.1 d.1 = true) (hn:n < cs.length):spo cs n ∉ oth cs n:=oth_not hn (spots_nodup fc inc)
theorem EV_mulc {c:Rat} {f:Nat -> Rat} (x:Rat):EV (fun k=>c * f k) x = c * EV f x:=by
 have:∀ n,evN (fun k=>c * f k) n x = c * evN f n x:=fun n=>by
  induction n with
  | zero=>show (0:Rat) = c * 0; grind
  | succ n ih =>
   show evN (fun k=>c * f k) n x + c * f n * powR x n = c * (evN f n x + f n * powR x n)
   rw [ih]
   grind
 exact this 20
theorem EV_nil (x:Rat):EV (cf []) x = 0:=by
 rw [EV_of (n:=0) (fun k _=>cf_nil k) (by decide)]
 rfl
theorem EV_11 (x:Rat):EV (cf [(1,1)]) x = 1:=by
 rw [EV_congr (cf_one (a:=0) (b:=0)),EV_mulc,EV_delta,wv_11]
 grind
theorem EV_d11 (x:Rat):EV (DF (cf [(1,1)])) x = 0:=by
 rw [EV_of (n:=0) (fun k _=>by unfold DF; rw [cf_none (show [((1:Int),(1:Int))].length <= k + 1 by show 1 <= k + 1; walk_at "o")]; grind) (by decide)]
 rfl
theorem oth_get {cs:List Spt} {n i:Nat} (hn:n < cs.length):(oth cs n)[i]? = if i < n then (sps cs)[i]? else (sps cs)[i + 1]?:=by
 unfold oth
 by_cases h:i < n
 ·rw [if_pos h,List.getElem?_append_left (by rw [List.length_take,sps_len]; walk_at "o"),List.getElem?_take,if_pos h]
 ·rw [if_neg h,List.getElem?_append_right (by rw [List.length_take,sps_len]; walk_at "o"),List.length_take,sps_len,List.getElem?_drop,show n + 1 + (i - min n cs.length) = i + 1 by walk_at "o"]
def zPflock_of (K:PySem.W.Frag):Sp:=fun vs H Q _=>∃ (a:Addr) (cs:List Spt),vs = [.ref a] /\ FlAt (vw K H) a (cs.map spt) /\ cs.length <= 7 /\ (∀ c ∈ cs,Fq c.1 /\ Fq c.2) /\ (∀ c ∈ cs,Sx 300 c.1 /\ Sx 36 c.2) /\ (∀ i c d,cs[i]? = some c -> cs[i + 1]? = some d -> ltq c.1 d.1 = true) /\
 ∀ (p c d:Addr) H' (rs ws:List (Int × Int)),Same (vw K H) (vw K H') -> vw K H' p = some (.tup [.ref c,.ref d]) -> LsAt (vw K H') c rs -> LsAt (vw K H') d ws -> PolyOk rs -> PolyOk ws -> rs.getLast? = some (1,1) -> rs.length = cs.length + 1 -> ws.length <= cs.length -> (cs.length <= 4 -> Pb 60 (cf rs) /\ Pb 180 (cf ws)) -> (∀ x,EV (cf rs) x = prodX (sps cs) x) -> (∀ x,EV (DF (cf rs)) x = dprodX (sps cs) x) -> (∀ x,EV (cf ws) x = lagX cs cs.length x) -> Q (.ref p) H'
theorem zOflock_of (F:Fun K "_law_flock_of" "_law_flock_of" zTflock_of f fd) (T:Txt K mg) (zCmultiplied:Cal P w K mg base "_law_multiplied" ["_law_f", "_law_g"] 4 (zPmultiplied K)) (zCover:Cal P w K mg base "_law_over" ["_law_one", "_law_other"] 3 (zPover K)) (zCminus:Cal P w K mg base "_law_minus" ["_law_one", "_law_other"] 3 (zPminus K)) (zCtimes:Cal P w K mg base "_law_times" ["_law_one", "_law_other"] 3 (zPtimes K)) (zCsummed:Cal P w K mg base "_law_summed" ["_law_f", "_law_g", "_law_by"] 4 (zPsummed K)):FnOk P w K mg base CX0 5 f fd ["_law_crowd_here"] (zPflock_of K):=by
 have scN:=zUflock_of.nd
 refine F.okQ zUflock_of (fun vs H Q E h=>?_) (fun cdv A outer s H vs Q E hr h=>?_)
 ·obtain ⟨_,_,rfl,_⟩:=h
  rfl
 ·obtain ⟨a,cs,rfl,ha,lc,fc,xc,inc,h⟩:=h
  refine ⟨_,(qss_cons (qs_set (i:=1) scN rfl (by walk_at "a1") (qe_lstS (qa_cons (qe_tupS (qa_cons qe_int (qa_cons qe_int qa_nil))) qa_nil)))
   (qss_cons (qs_set (i:=2) scN rfl (by walk_at "a1") (qe_lstS qa_nil))
   (qss_cons (qs_for PassesOwn.never rfl (qi_range1 rfl T.b_range (qa_cons (qe_callB call_lenH (by rfl) T.b_len bt_len (qa_cons (qv 0) qa_nil)) qa_nil)) (qg_name (i:=3) scN rfl (by walk_at "a1")) (qss_cons (qs_set (i:=4) scN rfl (by walk_at "a1") (qe_lstS (qa_cons (qe_ix ix_u (qe_ix ix_h (qv 0) (qv 3) (fun _ _=>rfl)) qe_int (fun _ _=>rfl)) qa_nil)))
   (qss_cons (qs_for PassesOwn.never rfl (qi_range1 rfl T.b_range (qa_cons (qe_callB call_lenH (by rfl) T.b_len bt_len (qa_cons (qv 0) qa_nil)) qa_nil)) (qg_name (i:=5) scN rfl (by walk_at "a1")) (qss_one (qs_if (qt_cmpR op_ne (qv 5) (qv 3) (nomark _)) (qss_cons (qs_set (i:=6) scN rfl (by walk_at "a1") (qe_cal zCover (hr.mono (by walk_at "a2")) rfl (qa_cons (qe_tupS (qa_cons qe_int (qa_cons qe_int qa_nil))) (qa_cons (qe_cal zCminus (hr.mono (by walk_at "a2")) rfl (qa_cons (qe_ix ix_u (qe_ix ix_h (qv 0) (qv 3) (fun _ _=>rfl)) qe_int (fun _ _=>rfl)) (qa_cons (qe_ix ix_u (qe_ix ix_h (qv 0) (qv 5) (fun _ _=>rfl)) qe_int (fun _ _=>rfl)) qa_nil))) qa_nil))))
   (qss_cons (qs_set (i:=7) scN rfl (by walk_at "a1") (qe_ix ix_u (qe_ix ix_h (qv 0) (qv 5) (fun _ _=>rfl)) qe_int (fun _ _=>rfl)))
   (qss_one (qs_set (i:=4) scN rfl (by walk_at "a1") (qe_cal zCmultiplied (hr.mono (by walk_at "a2")) rfl (qa_cons (qv 4) (qa_cons (qe_lstS (qa_cons (qe_cal zCtimes (hr.mono (by walk_at "a2")) rfl (qa_cons (qv 6) (qa_cons (qe_tupS (qa_cons (qe_op op_sub qe_int (qe_ix ix_u (qv 7) qe_int (fun _ _=>rfl))) (qa_cons (qe_ix ix_u (qv 7) qe_int (fun _ _=>rfl)) qa_nil))) qa_nil))) (qa_cons (qv 6) qa_nil))) qa_nil))))))) qss_nil)))
   (qss_cons (qs_set (i:=2) scN rfl (by walk_at "a1") (qe_cal zCsummed (hr.mono (by walk_at "a2")) rfl (qa_cons (qv 2) (qa_cons (qv 4) (qa_cons (qe_tupS (qa_cons qe_int (qa_cons qe_int qa_nil))) qa_nil)))))
   (qss_one (qs_set (i:=1) scN rfl (by walk_at "a1") (qe_cal zCmultiplied (hr.mono (by walk_at "a2")) rfl (qa_cons (qv 1) (qa_cons (qe_lstS (qa_cons (qe_tupS (qa_cons (qe_op op_sub qe_int (qe_ix ix_u (qe_ix ix_u (qe_ix ix_h (qv 0) (qv 3) (fun _ _=>rfl)) qe_int (fun _ _=>rfl)) qe_int (fun _ _=>rfl))) (qa_cons (qe_ix ix_u (qe_ix ix_u (qe_ix ix_h (qv 0) (qv 3) (fun _ _=>rfl)) qe_int (fun _ _=>rfl)) qe_int (fun _ _=>rfl)) qa_nil))) (qa_cons (qe_tupS (qa_cons qe_int (qa_cons qe_int qa_nil))) qa_nil))) qa_nil)))))))))
   (qss_one (qs_ret (qe_tupS (qa_cons (qv 1) (qa_cons (qv 2) qa_nil)))))))),?_⟩
  walk_at "m"
  refine tSeq.gen fun N1 hN1=>?_
  walk_at "vc"
  refine ⟨by decide,fun z1 H1 hz1 S1 h1=>⟨by decide,fun r0 H2 hr0 S2 h2=>hN1 _ _ ?_⟩⟩
  refine tSeq.gen fun N2 hN2=>?_
  walk_at "vc"
  refine ⟨by decide,fun w0 H3 hw0 S3 h3=>hN2 _ _ ?_⟩
  refine tSeq.gen fun N3 hN3=>?_
  have S03:=S1.trans (S2.trans S3)
  obtain ⟨xs,hxs,rxs⟩:=id ha
  have lxs:xs.length = cs.length:=by rw [rxs.length,List.length_map]
  have pick:∀ (i:Nat) (H':Hp),Same (vw K H) (vw K H') -> i < cs.length -> ∃ (p:Addr) (u v:V) (c:Spt),cs[i]? = some c /\ atI xs (i:Int) = some (.ref p) /\ vw K H' p = some (.tup [u,v]) /\ Rep (vw K H') (fr c.1) u /\ Rep (vw K H') (fr c.2) v:=fun i H' S hi=>by
   obtain ⟨x,e⟩ : ∃ x,xs[i]? = some x:=⟨_,List.getElem?_eq_getElem (by walk_at "o")⟩
   obtain ⟨d',hd',rx⟩:=(rxs.same S).get e
   rw [List.getElem?_map,List.getElem?_eq_getElem hi] at hd'
   cases hd'
   obtain ⟨p,u,v,rfl,hp,ru,rv⟩:=Rep.spt_at rx
   exact ⟨p,u,v,_,List.getElem?_eq_getElem hi,atI_nat e,hp,ru,rv⟩
  walk_at "vc"
  have ha3:∀ {H':Hp},Same (vw K H) (vw K H') -> lenH (vw K H') a = some cs.length:=fun S=>by
   unfold lenH
   rw [S _ _ hxs]
   show some xs.length = _
   rw [lxs]
  refine ⟨_,ha3 S03,by walk_at "o",by walk_at "o",?_⟩
  obtain ⟨B,hB,hB1,hB2⟩ : ∃ B:Nat,7 + 11 * (cs.length - 1) <= B /\ B <= 73 /\ (cs.length <= 4 -> B <= 40):=⟨if cs.length <= 4 then 40 else 73,by split <;> walk_at "o",by split <;> walk_at "o",fun z=>by rw [if_pos z]; exact Nat.le_refl _⟩
  have hBn:∀ n,n < cs.length -> B * n <= 73 * 6:=fun n hn=>Nat.mul_le_mul hB1 (by walk_at "o")
  obtain ⟨Pw,hPw⟩ : ∃ Pw:Nat -> St -> Hp -> Prop,∀ n σ H',Pw n σ H' ↔ ∃ (ra wa:Addr) (rs ws:List (Int × Int)) (o3 o4 o5 o6 o7:Option V),σ = [some (.ref a),some (.ref ra),some (.ref wa),o3,o4,o5,o6,o7] /\ Same (vw K H3) (vw K H') /\ LsAt (vw K H') ra rs /\ PolyOk rs /\ rs.getLast? = some (1,1) /\ rs.length = n + 1 /\ Pb (1 + 10 * n) (cf rs) /\ (∀ x,EV (cf rs) x = prodX ((sps cs).take n) x) /\ (∀ x,EV (DF (cf rs)) x = dprodX ((sps cs).take n) x) /\
   LsAt (vw K H') wa ws /\ PolyOk ws /\ ws.length <= cs.length /\ Pb (1 + B * n) (cf ws) /\ (∀ x,EV (cf ws) x = lagX cs n x):=⟨_,fun _ _ _=>Iff.rfl⟩
  refine for_items (its:=iots 0 _) Pw (fun _ _ _ _ _=>items_range) ((hPw _ _ _).mpr ⟨r0,w0,[(1,1)],[],none,none,none,none,none,rfl,.rfl,⟨_,S3 _ _ h2,.mk_cons (rep_pair ((S2.trans S3) _ _ h1)) .mk_nil⟩,poly_11,rfl,rfl,⟨1,by decide,by decide,po_one (m:=1) rfl (by decide)⟩,EV_11,EV_d11,⟨_,h3,.mk_nil⟩,poly_nil,Nat.zero_le _,pb_nil (by rw [Nat.mul_zero]; decide),EV_nil⟩) (fun n x σ H5 hn hx pw=>?_) (fun σ H5 pw=>?_)
  ·obtain ⟨ra,wa,rs,ws,o3,o4,o5,o6,o7,rfl,S5,lr,pr',hl,len,pb,ev1,ev2,lw,pw',lenw,pbw,evw⟩:=(hPw _ _ _).mp pw
   obtain ⟨hn',rfl⟩:=iots_at hx
   have hn2:n < cs.length:=by walk_at "o"
   have S05:=S03.trans S5
   obtain ⟨pi,ui,vi,ci,eci,eai,hpi,rui,rvi⟩:=pick n H5 S05 hn2
   have hci:=List.mem_of_getElem? eci
   obtain ⟨fi1,fi2⟩:=fc ci hci
   obtain ⟨xi1,xi2⟩:=xc ci hci
   have bi:=sx_bq xi1 fi1 (by decide)
   refine tSeq.gen fun N5 hN5=>?_
   walk_at "vc"
   rw [Int.zero_add]
   refine item1 (S05 _ _ hxs) eai hpi ⟨by decide,fun u0 H6 hu0 S6 h6=>hN5 _ _ ?_⟩
   have S06:=S05.trans S6
   refine tSeq.gen fun N6 hN6=>?_
   walk_at "vc"
   refine ⟨_,ha3 S06,by walk_at "o",by walk_at "o",?_⟩
   have r6:LsAt (vw K H6) u0 [ci.2]:=⟨_,h6,.mk_cons (Rep.same S6 _ _ rvi) .mk_nil⟩
   obtain ⟨cnt,hcnt⟩ : ∃ cnt:Nat -> Nat,∀ j,cnt j = if j <= n then j else j - 1:=⟨_,fun _=>rfl⟩
   obtain ⟨Pi,hPi⟩ : ∃ Pi:Nat -> St -> Hp -> Prop,∀ j σ H',Pi j σ H' ↔ ∃ (oa:Addr) (os:List (Int × Int)) (o5 o6 o7:Option V),σ = [some (.ref a),some (.ref ra),some (.ref wa),some (.int n),some (.ref oa),o5,o6,o7] /\ Same (vw K H6) (vw K H') /\ LsAt (vw K H') oa os /\ (∀ q ∈ os,Fq q) /\ os.length <= 1 + cnt j /\ Pb (6 + 11 * cnt j) (cf os) /\ (∀ x,EV (cf os) x = wgt cs n * prodX ((oth cs n).take (cnt j)) x / prodX ((oth cs n).take (cnt j)) (spo cs n)):=⟨_,fun _ _ _=>Iff.rfl⟩
   have c0':cnt 0 = 0:=by rw [hcnt,if_pos (by walk_at "o")]
   refine for_items (its:=iots 0 _) Pi (fun _ _ _ _ _=>items_range) ((hPi _ _ _).mpr ⟨u0,[ci.2],_,_,_,rfl,.rfl,r6,(fun q hq=>by rw [List.mem_singleton] at hq; subst hq; exact fi2),by rw [c0']; show 1 <= 1 + 0; decide,by rw [c0']; exact pb_sx1 xi2 (by decide),fun y=>?_⟩) (fun j x σ H7 hj hx pj=>?_) (fun σ H7 pj=>?_)
   ·rw [c0',EV_congr (cf_one (a:=0) (b:=0)),wgt_at eci]
    show EV (fun k=>wv ci.2 * Lp 0 0 0 k) y = wv ci.2 * 1 / 1
    rw [EV_mulc,EV_delta]
    grind
   ·obtain ⟨oa,os,o5,o6,o7,rfl,S7,lo',fo,leno,pbo,evo⟩:=(hPi _ _ _).mp pj
    rw [iots_len] at hj
    obtain ⟨hj',rfl⟩:=iots_at hx
    have hj2:j < cs.length:=by walk_at "o"
    have S07:=S06.trans S7
    walk_at "vc"
    refine ite2 (fun hne=>?_) (fun heq=>?_)
    rotate_left
    ·have hjn:j = n:=by walk_at "o"
     subst hjn
     have ce:cnt (j + 1) = cnt j:=by rw [hcnt,hcnt,if_neg (by walk_at "o"),if_pos (Nat.le_refl _)]; walk_at "o"
     refine (hPi _ _ _).mpr ⟨oa,os,_,_,_,rfl,S7,lo',fo,?_,?_,?_⟩
     ·rw [ce]; exact leno
     ·rw [ce]; exact pbo
     ·rw [ce]; exact evo
    have hjn:j ≠ n:=by walk_at "o"
    refine ⟨by decide,fun t1 E1 ht1 V1 e1=>?_⟩
    have S71:=S07.trans V1
    obtain ⟨pi',ui',vi',ci',eci',eai',hpi',rui',_⟩:=pick n E1 S71 hn2
    rw [eci] at eci'
    cases eci'
    obtain ⟨pj',uj,vj,cj,ecj,eaj,hpj,ruj,rvj⟩:=pick j E1 S71 hj2
    have hcj:=List.mem_of_getElem? ecj
    obtain ⟨fj1,fj2⟩:=fc cj hcj
    obtain ⟨xj1,xj2⟩:=xc cj hcj
    have hne':=spots_ne fc inc (Ne.symm hjn) eci ecj
    have bj:=sx_bq xj1 fj1 (by decide)
    rw [Int.zero_add]
    refine item0 (S71 _ _ hxs) eai' hpi' (item0 (S71 _ _ hxs) eaj hpj ?_)
    refine ap_minus (p:=ci.1) (q:=cj.1) ⟨rui',ruj,fi1.ne,fj1.ne,bi.mono (by decide),bj.mono (by decide),(bi.2.mul bj.2).mono (by decide),fun v2 E2 V2 r2=>?_⟩
    obtain ⟨dq,hdq⟩ : ∃ dq,dq = subq ci.1 cj.1:=⟨_,rfl⟩
    have fd':Fq dq:=by rw [hdq]; exact subq_Fq fi1 fj1
    have bd':Bq 19 dq:=by rw [hdq]; exact subq_Bq fi1 fj1 bi bj
    have wd':wv dq = wv ci.1 - wv cj.1:=by rw [hdq,wv_sub fi1.ne fj1.ne]
    rw [<- hdq] at r2
    have d0:dq.1 ≠ 0:=fun z=>hne' (by
     have:wv dq = 0:=by
      unfold wv
      have c0:((0:Int):Rat) = 0:=rfl
      rw [z,c0]
      grind
     rw [wd'] at this
     grind)
    refine ap_over (p:=(1,1)) (q:=dq) (rep_pair (V2 _ _ e1)) r2 (by decide) fd'.ne d0 (bq_11.mono (by decide)) (bd'.mono (by decide)) ((bq_11.2.mul bd'.1).mono (by decide)) fun v3 E3 V3 r3'=>?_
    obtain ⟨bq',hbq'⟩ : ∃ bq',bq' = divq (1,1) dq:=⟨_,rfl⟩
    have fb':Fq bq':=by rw [hbq']; exact divq_Fq fq_11 d0
    have bb':Bq 20 bq':=by rw [hbq']; exact divq_Bq fq_11 d0 bq_11 bd'
    have wb':wv bq' = 1 / (wv ci.1 - wv cj.1):=by rw [hbq',wv_div fq_11.ne fd'.ne d0,wv_11,wd']
    rw [<- hbq'] at r3'
    have S13:=V2.trans V3
    have S73:=S71.trans S13
    obtain ⟨yj,rfl,hyj⟩:=id ruj.fr_at
    have hyj3:=S13 _ _ hyj
    refine item0 (S73 _ _ hxs) eaj (S13 _ _ hpj) ?_
    refine pair2r hyj3 ⟨by decide,fun t4 E4 ht4 V4 e4=>?_⟩
    have flj:=fq_less fj1
    have blj:=bq_less bj
    refine ap_times (p:=bq') (q:=(0 - cj.1.1,cj.1.2)) ⟨Rep.same V4 _ _ r3',rep_pair e4,fb'.ne,flj.ne,bb'.mono (by decide),blj.mono (by decide),(bb'.2.mul blj.2).mono (by decide),fun v5 E5 V5 r5=>⟨by decide,fun l6 E6 hl6 V6 e6=>?_⟩⟩
    obtain ⟨tq,htq⟩ : ∃ tq,tq = mulq bq' (0 - cj.1.1,cj.1.2):=⟨_,rfl⟩
    have ft:Fq tq:=by rw [htq]; exact mulq_Fq fb' flj
    have wt:wv tq = -(wv cj.1) * wv bq':=by
     rw [htq,wv_mul fb'.ne flj.ne,show (0 - cj.1.1) = -cj.1.1 by walk_at "o",wv_neg (q:=cj.1)]
     grind
    rw [<- htq] at r5
    have pbl:Pb 10 (cf [tq,bq']):=pb_lag (n:=0) fi1 fj1 xi1 xj1 hne' wb' wt
    have ftb:∀ q ∈ [tq,bq'],Fq q:=fun q hq=>by
     rcases List.mem_cons.mp hq with rfl | hq
     ·exact ft
     ·rw [List.mem_singleton] at hq
      subst hq
      exact fb'
    have V16:=V1.trans (S13.trans (V4.trans (V5.trans V6)))
    have cn:cnt j <= 6 /\ cnt (j + 1) = cnt j + 1:=by
     rw [hcnt,hcnt]
     constructor
     ·split <;> walk_at "o"
     ·split <;> split <;> walk_at "o"
    refine ap_multiplied (fs:=os) (gs:=[tq,bq']) 80 (lo'.same V16) ⟨_,e6,.mk_cons (Rep.same V6 _ _ r5) (.mk_cons (Rep.same (V4.trans (V5.trans V6)) _ _ r3') .mk_nil)⟩ (by walk_at "o") (by show 2 <= 40; decide) (by decide) (by decide) (by walk_at "o") (fun q hq=>⟨fo q hq,(pbo.mono (b:=80) (by walk_at "o")).bq fo q hq⟩) (fun q hq=>⟨ftb q hq,(pbl.mono (b:=80) (by decide)).bq ftb q hq⟩) fun d E7 us V7 ld nd pu eu lu _=>?_
    have eu':∀ k,cf us k = lin (wv tq) (wv bq') (cf os) k:=fun k=>by rw [eu,pr_lin]
    have lus:us.length <= os.length + 1:=len_le pu fun k hk=>by
     obtain ⟨k,rfl⟩ : ∃ m,k = m + 1:=⟨k - 1,by walk_at "o"⟩
     rw [eu']
     show cf os (k + 1) * _ + cf os k * _ = 0
     rw [cf_none (show os.length <= k + 1 by walk_at "o"),cf_none (show os.length <= k by walk_at "o")]
     grind
    refine (hPi _ _ _).mpr ⟨d,us,_,_,_,rfl,S7.trans (V16.trans V7),ld,pu.1,by walk_at "o",((pb_lin pbo pbl).congr eu').mono (by walk_at "o"),fun y=>?_⟩
    have ho:(oth cs n)[cnt j]? = some (wv cj.1):=by
     rw [oth_get hn2,hcnt]
     by_cases hlt:j <= n
     ·rw [if_pos hlt,if_pos (by walk_at "o"),sps_at ecj]
     ·rw [if_neg hlt,if_neg (by walk_at "o"),show j - 1 + 1 = j by walk_at "o",sps_at ecj]
    have tk:(oth cs n).take (cnt j + 1) = (oth cs n).take (cnt j) ++ [wv cj.1]:=by
     rw [List.take_add_one,ho]
     rfl
    have pn:prodX ((oth cs n).take (cnt j)) (spo cs n) ≠ 0:=prodX_ne fun z=>spots_not fc inc hn2 (List.mem_of_mem_take z)
    rw [cn.2,EV_congr eu',EV_lin (cf_none (by walk_at "o")),evo,tk,prodX_snoc,prodX_snoc,wt,wb',spo_at eci]
    rw [spo_at eci] at pn
    have hne2:wv ci.1 - wv cj.1 ≠ 0:=by grind
    generalize prodX ((oth cs n).take (cnt j)) y = A1
    generalize prodX ((oth cs n).take (cnt j)) (wv ci.1) = A2 at pn ⊢
    grind
   ·obtain ⟨oa,os,o5,o6,o7,rfl,S7,lo',fo,leno,pbo,evo⟩:=(hPi _ _ _).mp pj
    rw [iots_len,show ((cs.length:Nat):Int).toNat = cs.length by walk_at "o"] at leno pbo evo
    have ce:cnt cs.length = cs.length - 1:=by rw [hcnt,if_neg (by walk_at "o")]
    have ol:=oth_len (cs:=cs) hn2
    have lo2:(oth cs n).take (cnt cs.length) = oth cs n:=List.take_of_length_le (by walk_at "o")
    rw [lo2] at evo
    rw [ce] at leno pbo
    refine hN6 _ _ ?_
    refine tSeq.gen fun N7 hN7=>?_
    walk_at "vc"
    refine ⟨by decide,fun t1 E1 ht1 V1 e1=>?_⟩
    have S57:=S6.trans (S7.trans V1)
    refine ap_summed (fs:=ws) (gs:=os) (c:=(1,1)) 600 (lw.same S57) (lo'.same V1) (rep_pair e1) (by walk_at "o") (by walk_at "o") (by decide) (by decide) (fun q hq=>⟨pw'.1 q hq,(pbw.mono (b:=600) (by have:=hBn n hn2; walk_at "o")).bq pw'.1 q hq⟩) (fun q hq=>⟨fo q hq,(pbo.mono (b:=600) (by walk_at "o")).bq fo q hq⟩) fq_11 (bq_11.mono (by decide)) fun d E2 us V2 ld nd pu eu lu _=>hN7 _ _ ?_
    have S52:=S57.trans V2
    obtain ⟨pi2,ui2,vi2,ci2,eci2,eai2,hpi2,rui2,rvi2⟩:=pick n E2 (S05.trans S52) hn2
    rw [eci] at eci2
    cases eci2
    obtain ⟨yi,rfl,hyi⟩:=id rui2.fr_at
    have lr2:=lr.same S52
    walk_at "vc"
    refine item00 ((S05.trans S52) _ _ hxs) eai2 hpi2 hyi ⟨by decide,fun t3 E3 ht3 V3 e3=>⟨by decide,fun t4 E4 ht4 V4 e4=>⟨by decide,fun l5 E5 hl5 V5 e5=>?_⟩⟩⟩
    have V35:=V3.trans (V4.trans V5)
    have bs:∀ q ∈ rs,Fq q /\ Bq 80 q:=fun q hq=>⟨pr'.1 q hq,(pb.mono (b:=80) (by walk_at "o")).bq pr'.1 q hq⟩
    simp only [zPmultiplied]
    refine ⟨ra,l5,rs,[(0 - ci.1.1,ci.1.2),(1,1)],80,rfl,lr2.same V35,⟨_,e5,.mk_cons (rep_pair ((V4.trans V5) _ _ e3)) (.mk_cons (rep_pair (V5 _ _ e4)) .mk_nil)⟩,by walk_at "o",by show 2 <= 40; decide,by decide,by decide,by walk_at "o",bs,fun q hq=>?_,fun d2 E6 us2 V6 ld2 nd2 pu2 eu2 lu2 _=>?_⟩
    ·rcases List.mem_cons.mp hq with rfl | hq
     ·exact ⟨fq_less fi1,(bq_less bi).mono (by decide)⟩
     ·rw [List.mem_singleton] at hq
      subst hq
      exact ⟨fq_11,bq_11.mono (by decide)⟩
    obtain ⟨w1,w2⟩:=mul_last pr' (poly_two (fq_less fi1)) pu2 hl rfl len (n:=1) rfl eu2
    have eu':∀ k,cf us2 k = lin (-(wv ci.1)) 1 (cf rs) k:=fun k=>by
     rw [eu2,pr_lin,show (0 - ci.1.1) = -ci.1.1 by walk_at "o",wv_neg (q:=ci.1),wv_11]
    have tk:(sps cs).take (n + 1) = (sps cs).take n ++ [wv ci.1]:=by
     rw [List.take_add_one,sps_at eci]
     rfl
    have V26:=V35.trans V6
    refine (hPw _ _ _).mpr ⟨d2,d,us2,us,_,_,_,_,_,rfl,S5.trans (S52.trans V26),ld2,pu2,w1,w2,?_,fun y=>?_,fun y=>?_,ld.same V26,pu,by walk_at "o",((pbw.add pbo).congr fun k=>by rw [eu,wv_11]; grind).mono (by rw [Nat.mul_succ]; walk_at "o"),fun y=>?_⟩
    ·refine ((pb_lin pb (pb_spot xi1)).congr fun k=>?_).mono (by walk_at "o")
     rw [eu2,pr_lin]
    ·rw [EV_congr eu',EV_lin (cf_none (by walk_at "o")),ev1,tk,prodX_snoc]
     grind
    ·rw [EV_congr (g:=fun k=>lin (-(wv ci.1)) 1 (DF (cf rs)) k + cf rs k) (fun k=>by rw [show DF (cf us2) k = DF (lin (-(wv ci.1)) 1 (cf rs)) k by unfold DF; rw [eu'],DF_lin]),EV_add,EV_lin (by unfold DF; rw [cf_none (by walk_at "o")]; grind),ev1,ev2,tk,dprodX_snoc]
     grind
    ·rw [EV_congr (g:=fun k=>cf ws k + cf os k) (fun k=>by rw [eu,wv_11]; grind),EV_add,evw,evo]
     rfl
  ·obtain ⟨ra,wa,rs,ws,o3,o4,o5,o6,o7,rfl,S5,lr,pr',hl,len,pb,ev1,ev2,lw,pw',lenw,pbw,evw⟩:=(hPw _ _ _).mp pw
   rw [iots_len,show ((cs.length:Nat):Int).toNat = cs.length by walk_at "o"] at len pb ev1 ev2 pbw evw
   have tkA:(sps cs).take cs.length = sps cs:=List.take_of_length_le (by rw [sps_len]; exact Nat.le_refl _)
   rw [tkA] at ev1 ev2
   refine hN3 _ _ ?_
   walk_at "vc"
   exact ⟨by decide,fun p H6 hp S6 h6=>h p ra wa H6 rs ws (S03.trans (S5.trans S6)) h6 (lr.same S6) (lw.same S6) pr' pw' hl len lenw (fun z=>⟨pb.mono (by walk_at "o"),pbw.mono (by have:=Nat.mul_le_mul (hB2 z) z; walk_at "o")⟩) ev1 ev2 evw⟩
theorem num_pos {q:Int × Int} (h:Fq q):0 < q.1 ↔ 0 < wv q:=by
 have b:(0:Rat) < (q.2:Rat):=Rat.intCast_pos.mpr h.1
 have e:wv q * (q.2:Rat) = (q.1:Rat):=by
  unfold wv
  exact Rat.div_mul_cancel (by grind)
 rw [<- Rat.intCast_pos,<- e]
 exact ⟨fun z=>(Rat.mul_pos_iff_of_pos_right b).mp z,fun z=>Rat.mul_pos z b⟩
theorem wv_i {n:Int}:wv (n,1) = (n:Rat):=by
 unfold wv
 show (n:Rat) / ((1:Int):Rat) = _
 have c1:((1:Int):Rat) = 1:=rfl
 rw [c1]
 grind
def QD (q p a b:Rat):Prop:=0 < p * p - 4 * q /\ 0 < 2 * a - b * p /\ 0 < a * a - a * b * p + b * b * q
def zPquadratic (K:PySem.W.Frag):Sp:=fun vs H Q _=>∃ (st:Addr),vs = [.ref st] /\ StOk (vw K H) st /\
 ∀ (p c d:Addr) H' (q0 p0 a0 b0:Int × Int),But st (vw K H) (vw K H') -> StOk (vw K H') st -> vw K H' p = some (.tup [.ref c,.ref d]) -> LsAt (vw K H') c [q0,p0,(1,1)] -> LsAt (vw K H') d [a0,b0] -> (∀ q ∈ [q0,p0,a0,b0],Fq q /\ Bq 10 q /\ Sx 36 q) -> Q (.ref p) H'
theorem zOquadratic (F:Fun K "_law_quadratic" "_law_quadratic" zTquadratic f fd) (T:Txt K mg) (zCsmall:Cal P w K mg base "_law_small" ["_law_state_here"] 3 (zPsmall K)):FnOk P w K mg base CX0 4 f fd ["_law_state_here"] (zPquadratic K):=by
 have scN:=zUquadratic.nd
 refine F.okQ zUquadratic (fun vs H Q E h=>?_) (fun cdv A outer s H vs Q E hr h=>?_)
 ·obtain ⟨_,rfl,_⟩:=h
  rfl
 ·obtain ⟨st,rfl,hst,h⟩:=h
  refine ⟨_,(qss_one (qs_ret (qe_tupS (qa_cons (qe_lstS (qa_cons (qe_cal zCsmall (hr.mono (by walk_at "a2")) rfl (qa_cons (qv 0) qa_nil)) (qa_cons (qe_cal zCsmall (hr.mono (by walk_at "a2")) rfl (qa_cons (qv 0) qa_nil)) (qa_cons (qe_tupS (qa_cons qe_int (qa_cons qe_int qa_nil))) qa_nil)))) (qa_cons (qe_lstS (qa_cons (qe_cal zCsmall (hr.mono (by walk_at "a2")) rfl (qa_cons (qv 0) qa_nil)) (qa_cons (qe_cal zCsmall (hr.mono (by walk_at "a2")) rfl (qa_cons (qv 0) qa_nil)) qa_nil))) qa_nil))))),?_⟩
  walk_at "m"
  walk_at "vc"
  simp only [zPsmall]
  refine ⟨st,rfl,hst,fun v1 H1 q1 B1 st1 r1 f1 b1 b1' x1=>⟨st,rfl,st1,fun v2 H2 q2 B2 st2 r2 f2 b2 b2' x2=>⟨by decide,fun t3 H3 ht3 S3 h3=>⟨by decide,fun l4 H4 hl4 S4 h4=>⟨st,rfl,(st2.same S3).same S4,fun v5 H5 q5 B5 st5 r5 f5 b5 b5' x5=>⟨st,rfl,st5,fun v6 H6 q6 B6 st6 r6 f6 b6 b6' x6=>⟨by decide,fun l7 H7 hl7 S7 h7=>⟨by decide,fun p8 H8 hp8 S8 h8=>?_⟩⟩⟩⟩⟩⟩⟩⟩
  have S34:=S3.trans S4
  have st4:=st2.same S34
  have B46:But st (vw K H4) (vw K H6):=B5.trans B6
  have l44:LsAt (vw K H4) l4 [q1,q2,(1,1)]:=⟨_,h4,.mk_cons (Rep.same S34 _ _ (Rep.but B2 st1 _ _ rfl r1)) (.mk_cons (Rep.same S34 _ _ r2) (.mk_cons (rep_pair (S4 _ _ h3)) .mk_nil))⟩
  have l77:LsAt (vw K H7) l7 [q5,q6]:=⟨_,h7,.mk_cons (Rep.same S7 _ _ (Rep.but B6 st5 _ _ rfl r5)) (.mk_cons (Rep.same S7 _ _ r6) .mk_nil)⟩
  have S78:=S7.trans S8
  refine h p8 l4 l7 H8 q1 q2 q5 q6 ((((B1.trans B2).same_trans S34).trans B46).same_trans S78) (st6.same S78) h8 ((l44.stBut st4 B46).same S78) (l77.same S8) fun q hq=>?_
  simp only [List.mem_cons,List.not_mem_nil,or_false] at hq
  rcases hq with rfl | rfl | rfl | rfl
  ·exact ⟨f1,⟨b1,b1'⟩,x1⟩
  ·exact ⟨f2,⟨b2,b2'⟩,x2⟩
  ·exact ⟨f5,⟨b5,b5'⟩,x5⟩
  ·exact ⟨f6,⟨b6,b6'⟩,x6⟩
def zPquadratic_due (K:PySem.W.Frag):Sp:=fun vs H Q _=>∃ (c d:Addr) (q0 p0 a0 b0:Int × Int),vs = [.ref c,.ref d] /\ LsAt (vw K H) c [q0,p0,(1,1)] /\ LsAt (vw K H) d [a0,b0] /\ (∀ q ∈ [q0,p0,a0,b0],Fq q /\ Bq 10 q /\ Sx 36 q) /\ ∀ b H',Same (vw K H) (vw K H') -> (b = true ↔ QD (wv q0) (wv p0) (wv a0) (wv b0)) -> Q (.bl b) H'
theorem zOquadratic_due (F:Fun K "_law_quadratic_due" "_law_quadratic_due" zTquadratic_due f fd) (T:Txt K mg) (zCminus:Cal P w K mg base "_law_minus" ["_law_one", "_law_other"] 3 (zPminus K)) (zCplus:Cal P w K mg base "_law_plus" ["_law_one", "_law_other"] 3 (zPplus K)) (zCtimes:Cal P w K mg base "_law_times" ["_law_one", "_law_other"] 3 (zPtimes K)):FnOk P w K mg base CX0 4 f fd ["_law_roots", "_law_weights"] (zPquadratic_due K):=by
 have scN:=zUquadratic_due.nd
 refine F.okQ zUquadratic_due (fun vs H Q E h=>?_) (fun cdv A outer s H vs Q E hr h=>?_)
 ·obtain ⟨_,_,_,_,_,_,rfl,_⟩:=h
  rfl
 ·obtain ⟨c,d,q0,p0,a0,b0,rfl,hc,hd,hq,h⟩:=h
  refine ⟨_,(qss_cons (qs_par (i:=2) (j:=3) rfl scN rfl rfl (by decide) rfl rfl (qa_cons (qe_ix ix_h (qv 0) qe_int (fun _ _=>rfl)) (qa_cons (qe_ix ix_h (qv 0) qe_int (fun _ _=>rfl)) qa_nil)) rfl)
   (qss_cons (qs_asg (qv 1) (qg_lstH (n:=2) rfl (qgs_cons (qg_name (i:=4) scN rfl (by walk_at "a1")) (qgs_cons (qg_name (i:=5) scN rfl (by walk_at "a1")) qgs_nil))))
   (qss_cons (qs_if (qt_cmpR op_le (qe_ix ix_u (qe_cal zCminus (hr.mono (by walk_at "a2")) rfl (qa_cons (qe_cal zCtimes (hr.mono (by walk_at "a2")) rfl (qa_cons (qv 3) (qa_cons (qv 3) qa_nil))) (qa_cons (qe_cal zCtimes (hr.mono (by walk_at "a2")) rfl (qa_cons (qe_tupS (qa_cons qe_int (qa_cons qe_int qa_nil))) (qa_cons (qv 2) qa_nil))) qa_nil))) qe_int (fun _ _=>rfl)) qe_int (nomark _)) (qss_one (qs_ret qe_bl)) qss_nil)
   (qss_cons (qs_set (i:=6) scN rfl (by walk_at "a1") (qe_cal zCminus (hr.mono (by walk_at "a2")) rfl (qa_cons (qe_cal zCtimes (hr.mono (by walk_at "a2")) rfl (qa_cons (qe_tupS (qa_cons qe_int (qa_cons qe_int qa_nil))) (qa_cons (qv 4) qa_nil))) (qa_cons (qe_cal zCtimes (hr.mono (by walk_at "a2")) rfl (qa_cons (qv 5) (qa_cons (qv 3) qa_nil))) qa_nil))))
   (qss_cons (qs_set (i:=7) scN rfl (by walk_at "a1") (qe_cal zCplus (hr.mono (by walk_at "a2")) rfl (qa_cons (qe_cal zCminus (hr.mono (by walk_at "a2")) rfl (qa_cons (qe_cal zCtimes (hr.mono (by walk_at "a2")) rfl (qa_cons (qv 4) (qa_cons (qv 4) qa_nil))) (qa_cons (qe_cal zCtimes (hr.mono (by walk_at "a2")) rfl (qa_cons (qe_cal zCtimes (hr.mono (by walk_at "a2")) rfl (qa_cons (qv 4) (qa_cons (qv 5) qa_nil))) (qa_cons (qv 3) qa_nil))) qa_nil))) (qa_cons (qe_cal zCtimes (hr.mono (by walk_at "a2")) rfl (qa_cons (qe_cal zCtimes (hr.mono (by walk_at "a2")) rfl (qa_cons (qv 5) (qa_cons (qv 5) qa_nil))) (qa_cons (qv 2) qa_nil))) qa_nil))))
   (qss_one (qs_ret (qe_and (qe_cmpR op_gt (qe_ix ix_u (qv 6) qe_int (fun _ _=>rfl)) qe_int (nomark _)) (qe_one (qe_cmpR op_gt (qe_ix ix_u (qv 7) qe_int (fun _ _=>rfl)) qe_int (nomark _))))))))))),?_⟩
  walk_at "m"
  obtain ⟨fq0,bq0,sq0⟩:=hq q0 (by simp)
  obtain ⟨fp0,bp0,sp0⟩:=hq p0 (by simp)
  obtain ⟨fa0,ba0,sa0⟩:=hq a0 (by simp)
  obtain ⟨fb0,bb0,sb0⟩:=hq b0 (by simp)
  obtain ⟨xs,hxs,rxs⟩:=id hc
  obtain ⟨vq,r1,rfl,rq,r1'⟩:=rxs.cons_at
  obtain ⟨vp,r2,rfl,rp,r2'⟩:=r1'.cons_at
  obtain ⟨ys,hys,rys⟩:=id hd
  obtain ⟨va,r3,rfl,ra,r3'⟩:=rys.cons_at
  obtain ⟨vb,r4,rfl,rb,r4'⟩:=r3'.cons_at
  cases r4'.nil_at
  refine tSeq.gen fun N1 hN1=>?_
  walk_at "vc"
  refine ⟨_,hxs,_,atI_0,_,hxs,_,atI_1,hN1 _ _ ?_⟩
  refine tSeq.gen fun N2 hN2=>?_
  walk_at "vc"
  refine ⟨d,rfl,_,hys,rfl,?_⟩
  walk_at "vc"
  refine hN2 _ _ ?_
  refine tSeq.gen fun N3 hN3=>?_
  walk_at "vc"
  refine ap_times (p:=p0) (q:=p0) ⟨rp,rp,fp0.ne,fp0.ne,bp0.mono (by decide),bp0.mono (by decide),(bp0.2.mul bp0.2).mono (by decide),fun v1 H1 S1 e1=>⟨by decide,fun t2 H2 ht2 S2 h2=>?_⟩⟩
  have fpp:=mulq_Fq fp0 fp0
  have bpp:=mulq_Bq fp0 fp0 bp0 bp0
  have f41:Fq (4,1):=⟨by decide,by decide⟩
  have b41:Bq 3 (4,1):=⟨by decide,by decide⟩
  refine ap_times (p:=(4,1)) (q:=q0) ⟨rep_pair h2,Rep.same (S1.trans S2) _ _ rq,f41.ne,fq0.ne,b41.mono (by decide),bq0.mono (by decide),(b41.2.mul bq0.2).mono (by decide),fun v3 H3 S3 e3=>?_⟩
  have f4q:=mulq_Fq f41 fq0
  have b4q:=mulq_Bq f41 fq0 b41 bq0
  refine ap_minus (p:=_) (q:=_) ⟨Rep.same (S2.trans S3) _ _ e1,e3,fpp.ne,f4q.ne,bpp.mono (by decide),b4q.mono (by decide),(bpp.2.mul b4q.2).mono (by decide),fun v4 H4 S4 e4=>?_⟩
  obtain ⟨y4,rfl,hy4⟩:=id e4.fr_at
  have c4:((4:Int):Rat) = 4:=rfl
  have c2:((2:Int):Rat) = 2:=rfl
  have w4:wv (subq (mulq p0 p0) (mulq (4,1) q0)) = wv p0 * wv p0 - 4 * wv q0:=by rw [wv_sub fpp.ne f4q.ne,wv_mul fp0.ne fp0.ne,wv_mul f41.ne fq0.ne,wv_i,c4]
  have S04:=S1.trans (S2.trans (S3.trans S4))
  refine ⟨y4,rfl,_,hy4,_,atI_0,_,rfl,ite2 (fun z4=>h false H4 S04 ⟨(fun z=>by cases z),fun z=>?_⟩) (fun z4=>hN3 _ _ ?_)⟩
  ·exact absurd (num_pos (subq_Fq fpp f4q) |>.mpr (by rw [w4]; exact z.1)) (by walk_at "o")
  refine tSeq.gen fun N4 hN4=>?_
  walk_at "vc"
  refine ⟨by decide,fun t5 H5 ht5 S5 h5=>?_⟩
  have S05:=S04.trans S5
  have f21:Fq (2,1):=⟨by decide,by decide⟩
  have b21:Bq 2 (2,1):=⟨by decide,by decide⟩
  refine ap_times (p:=(2,1)) (q:=a0) ⟨rep_pair h5,Rep.same S05 _ _ ra,f21.ne,fa0.ne,b21.mono (by decide),ba0.mono (by decide),(b21.2.mul ba0.2).mono (by decide),fun v6 H6 S6 e6=>?_⟩
  have f2a:=mulq_Fq f21 fa0
  have b2a:=mulq_Bq f21 fa0 b21 ba0
  have S06:=S05.trans S6
  refine ap_times (p:=b0) (q:=p0) ⟨Rep.same S06 _ _ rb,Rep.same S06 _ _ rp,fb0.ne,fp0.ne,bb0.mono (by decide),bp0.mono (by decide),(bb0.2.mul bp0.2).mono (by decide),fun v7 H7 S7 e7=>?_⟩
  have fbp:=mulq_Fq fb0 fp0
  have bbp:=mulq_Bq fb0 fp0 bb0 bp0
  refine ap_minus (p:=_) (q:=_) ⟨Rep.same S7 _ _ e6,e7,f2a.ne,fbp.ne,b2a.mono (by decide),bbp.mono (by decide),(b2a.2.mul bbp.2).mono (by decide),fun v8 H8 S8 e8=>hN4 _ _ ?_⟩
  have S08:=S06.trans (S7.trans S8)
  refine tSeq.gen fun N5 hN5=>?_
  walk_at "vc"
  refine ap_times (p:=a0) (q:=a0) ⟨Rep.same S08 _ _ ra,Rep.same S08 _ _ ra,fa0.ne,fa0.ne,ba0.mono (by decide),ba0.mono (by decide),(ba0.2.mul ba0.2).mono (by decide),fun v9 H9 S9 e9=>?_⟩
  have faa:=mulq_Fq fa0 fa0
  have baa:=mulq_Bq fa0 fa0 ba0 ba0
  have S09:=S08.trans S9
  refine ap_times (p:=a0) (q:=b0) ⟨Rep.same S09 _ _ ra,Rep.same S09 _ _ rb,fa0.ne,fb0.ne,ba0.mono (by decide),bb0.mono (by decide),(ba0.2.mul bb0.2).mono (by decide),fun v10 H10 S10 e10=>?_⟩
  have fab:=mulq_Fq fa0 fb0
  have bab:=mulq_Bq fa0 fb0 ba0 bb0
  have S010:=S09.trans S10
  refine ap_times (p:=_) (q:=p0) ⟨e10,Rep.same S010 _ _ rp,fab.ne,fp0.ne,bab.mono (by decide),bp0.mono (by decide),(bab.2.mul bp0.2).mono (by decide),fun v11 H11 S11 e11=>?_⟩
  have fabp:=mulq_Fq fab fp0
  have babp:=mulq_Bq fab fp0 bab bp0
  refine ap_minus (p:=_) (q:=_) ⟨Rep.same (S10.trans S11) _ _ e9,e11,faa.ne,fabp.ne,baa.mono (by decide),babp.mono (by decide),(baa.2.mul babp.2).mono (by decide),fun v12 H12 S12 e12=>?_⟩
  have fm:=subq_Fq faa fabp
  have bm:=subq_Bq faa fabp baa babp
  have S012:=S010.trans (S11.trans S12)
  refine ap_times (p:=b0) (q:=b0) ⟨Rep.same S012 _ _ rb,Rep.same S012 _ _ rb,fb0.ne,fb0.ne,bb0.mono (by decide),bb0.mono (by decide),(bb0.2.mul bb0.2).mono (by decide),fun v13 H13 S13 e13=>?_⟩
  have fbb:=mulq_Fq fb0 fb0
  have bbb:=mulq_Bq fb0 fb0 bb0 bb0
  have S013:=S012.trans S13
  refine ap_times (p:=_) (q:=q0) ⟨e13,Rep.same S013 _ _ rq,fbb.ne,fq0.ne,bbb.mono (by decide),bq0.mono (by decide),(bbb.2.mul bq0.2).mono (by decide),fun v14 H14 S14 e14=>?_⟩
  have fbq:=mulq_Fq fbb fq0
  have bbq:=mulq_Bq fbb fq0 bbb bq0
  refine ap_plus (p:=_) (q:=_) ⟨Rep.same (S13.trans S14) _ _ e12,e14,fm.ne,fbq.ne,bm.mono (by decide),bbq.mono (by decide),(bm.2.mul bbq.2).mono (by decide),fun v15 H15 S15 e15=>hN5 _ _ ?_⟩
  have S815:=S9.trans (S10.trans (S11.trans (S12.trans (S13.trans (S14.trans S15)))))
  have w8:wv (subq (mulq (2,1) a0) (mulq b0 p0)) = 2 * wv a0 - wv b0 * wv p0:=by rw [wv_sub f2a.ne fbp.ne,wv_mul f21.ne fa0.ne,wv_mul fb0.ne fp0.ne,wv_i,c2]
  have w15:wv (addq (subq (mulq a0 a0) (mulq (mulq a0 b0) p0)) (mulq (mulq b0 b0) q0)) = wv a0 * wv a0 - wv a0 * wv b0 * wv p0 + wv b0 * wv b0 * wv q0:=by rw [wv_add fm.ne fbq.ne,wv_sub faa.ne fabp.ne,wv_mul fa0.ne fa0.ne,wv_mul fab.ne fp0.ne,wv_mul fa0.ne fb0.ne,wv_mul fbb.ne fq0.ne,wv_mul fb0.ne fb0.ne]
  have n4:=num_pos (subq_Fq fpp f4q)
  have n8:=num_pos (subq_Fq f2a fbp)
  have n15:=num_pos (addq_Fq fm fbq)
  rw [w4] at n4
  rw [w8] at n8
  rw [w15] at n15
  obtain ⟨y8,rfl,hy8⟩:=id e8.fr_at
  obtain ⟨y15,rfl,hy15⟩:=id e15.fr_at
  walk_at "vc"
  refine ⟨_,S815 _ _ hy8,_,atI_0,_,rfl,ite2 (fun z8=>⟨_,hy15,_,atI_0,_,rfl,h _ H15 (S08.trans S815) ?_⟩) (fun z8=>h false H15 (S08.trans S815) ?_)⟩
  ·rw [decide_eq_true_iff]
   exact ⟨fun z=>⟨n4.mp (by walk_at "o"),n8.mp z8,n15.mp z⟩,fun z=>n15.mpr z.2.2⟩
  ·exact ⟨(fun z=>by cases z),fun z=>absurd (n8.mpr z.2.1) z8⟩
theorem spts_flat:∀ cs:List Spt,D.flats (cs.map spt) = true
 | []=>rfl
 | c :: cs=>by
  show ((spt c).flat && D.flats (cs.map spt)) = true
  rw [spts_flat cs]
  rfl
theorem spts_no (cs:List Spt) (i:Int) (b:Bool):cs.map spt ≠ [.int i,.bl b]:=fun z=>by
 cases cs with
 | nil=>cases z
 | cons c cs =>
  rw [List.map_cons] at z
  have:=(List.cons.inj z).1
  cases this
def zPtilted (K:PySem.W.Frag):Sp:=fun vs H Q _=>∃ (st a:Addr) (cs:List Spt),vs = [.ref st,.ref a] /\ StOk (vw K H) st /\ FlAt (vw K H) a (cs.map spt) /\ cs.length <= 4 /\
 ∀ (b:Addr) H' (k:Nat) (w:Int × Int),But st (vw K H) (vw K H') -> StOk (vw K H') st -> FlAt (vw K H') b ((cs.mapIdx fun i c=>if i = k then (c.1,w) else c).map spt) -> (cs ≠ [] -> k < cs.length) -> w ∈ [((0:Int),(1:Int)),(-1,1),(-7,3)] -> Q (.ref b) H'
theorem zOtilted (F:Fun K "_law_tilted" "_law_tilted" zTtilted f fd) (T:Txt K mg) (zCtake:Cal P w K mg base "_law_take" ["_law_state_here", "_law_many"] 1 (zPtake K)):FnOk P w K mg base CX0 2 f fd ["_law_state_here", "_law_crowd_here"] (zPtilted K):=by
 have scN:=zUtilted.nd
 refine F.okQ zUtilted (fun vs H Q E h=>?_) (fun cdv A outer s H vs Q E hr h=>?_)
 ·obtain ⟨_,_,_,rfl,_⟩:=h
  rfl
 ·obtain ⟨st,a,cs,rfl,hst,ha,lc,h⟩:=h
  refine ⟨_,(qss_cons (qs_if (qt_cmpR (op_eqNil hr.ul) (qv 1) (qe_lstS qa_nil) (nomark _)) (qss_one (qs_ret (qv 1))) qss_nil)
   (qss_cons (qs_set (i:=2) scN rfl (by walk_at "a1") (qe_cal zCtake (hr.mono (by walk_at "a2")) rfl (qa_cons (qv 0) (qa_cons (qe_callB call_lenH (by rfl) T.b_len bt_len (qa_cons (qv 1) qa_nil)) qa_nil))))
   (qss_cons (qs_set (i:=3) scN rfl (by walk_at "a1") (qe_ix ix_h (qe_lstS (qa_cons (qe_tupS (qa_cons qe_int (qa_cons qe_int qa_nil))) (qa_cons (qe_tupS (qa_cons (qe_un un_neg qe_int) (qa_cons qe_int qa_nil))) (qa_cons (qe_tupS (qa_cons (qe_un un_neg qe_int) (qa_cons qe_int qa_nil))) qa_nil)))) (qe_cal zCtake (hr.mono (by walk_at "a2")) rfl (qa_cons (qv 0) (qa_cons qe_int qa_nil))) (fun _ _=>rfl)))
   (qss_one (qs_ret (qe_op op_Plus (qe_op op_Plus (qe_slice sl_listS (qv 1) qo_none (qo_some (qv 2))) (qe_lstS (qa_cons (qe_tupS (qa_cons (qe_ix ix_u (qe_ix ix_h (qv 1) (qv 2) (fun _ _=>rfl)) qe_int (fun _ _=>rfl)) (qa_cons (qv 3) qa_nil))) qa_nil))) (qe_slice sl_listS (qv 1) (qo_some (qe_op op_Plus (qv 2) qe_int)) qo_none))))))),?_⟩
  walk_at "m"
  refine tSeq.gen fun N1 hN1=>?_
  walk_at "vc"
  refine ⟨by decide,fun p1 H1 hp1 S1 h1=>⟨p1,rfl,?_⟩⟩
  have ha1:=ha.same S1
  have hst1:=hst.same S1
  obtain ⟨xs,hxs,rxs⟩:=id ha1
  have lx:xs.length = cs.length:=by rw [rxs.length,List.length_map]
  refine ⟨xs,hxs,h1,ite2 (fun he=>?_) (fun he=>hN1 _ _ ?_)⟩
  ·have c0:cs = []:=List.length_eq_zero_iff.mp (by rw [<- lx]; exact List.length_eq_zero_iff.mpr (List.isEmpty_iff.mp he))
   subst c0
   exact h a H1 0 (0,1) (S1.but st) hst1 ha1 (fun z=>absurd rfl z) (by simp)
  have c0:cs ≠ []:=fun z=>by
   rw [z] at lx
   exact he (List.isEmpty_iff.mpr (List.length_eq_zero_iff.mp lx))
  have cp:=List.length_pos_iff.mpr c0
  refine tSeq.gen fun N2 hN2=>?_
  walk_at "vc"
  simp only [zPtake]
  walk_at "vc"
  refine ⟨_,ha1.len,hst1,by simp; walk_at "o",by simp; walk_at "o",fun k2 H2 k20 k21 B2 st2=>hN2 _ _ ?_⟩
  have ha2:=ha1.stBut (spts_flat cs) (spts_no cs) hst1 B2
  obtain ⟨k,rfl⟩ : ∃ k:Nat,k2 = k:=⟨k2.toNat,by walk_at "o"⟩
  have kl:k < cs.length:=by
   rw [List.length_map] at k21
   walk_at "o"
  refine tSeq.gen fun N3 hN3=>?_
  walk_at "vc"
  simp only [zPtake]
  refine ⟨by decide,fun p3 H3 hp3 S3 h3=>⟨by decide,fun p4 H4 hp4 S4 h4=>⟨by decide,fun p5 H5 hp5 S5 h5=>⟨by decide,fun p6 H6 hp6 S6 h6=>?_⟩⟩⟩⟩
  have S26:=S3.trans (S4.trans (S5.trans S6))
  have st6:=st2.same S26
  have n6:p6 ≠ st:=st2.ne (S3.none (S4.none (S5.none hp6)))
  refine ⟨st,3,rfl,st6,by decide,by decide,fun r H7 r0 r1 B7 st7=>⟨p6,rfl,r,rfl,_,B7 _ _ n6 h6,?_⟩⟩
  have ha7:=(ha2.same S26).stBut (spts_flat cs) (spts_no cs) st6 B7
  have nn:∀ {p:Addr} {G:Hp},vw K G p = none -> Same (vw K H2) (vw K G) -> p ≠ st:=fun z S=>(st2.same S).ne z
  obtain ⟨v,wq,hv,rv,hw⟩ : ∃ (v:V) (wq:Int × Int),atI [V.ref p3,V.ref p4,V.ref p5] r = some v /\ Rep (vw K H7) (fr wq) v /\ wq ∈ [((0:Int),(1:Int)),(-1,1),(-7,3)]:=by
   have a3:=B7 _ _ (nn hp3 .rfl) ((S4.trans (S5.trans S6)) _ _ h3)
   have a4:=B7 _ _ (nn hp4 S3) ((S5.trans S6) _ _ h4)
   have a5:=B7 _ _ (nn hp5 (S3.trans S4)) (S6 _ _ h5)
   rcases (show r = 0 \/ r = 1 \/ r = 2 by walk_at "o") with rfl | rfl | rfl
   ·exact ⟨_,(0,1),rfl,rep_pair a3,by simp⟩
   ·exact ⟨_,(-1,1),rfl,rep_pair a4,by simp⟩
   ·exact ⟨_,(-7,3),rfl,rep_pair a5,by simp⟩
  refine ⟨v,hv,hN3 _ _ ?_⟩
  obtain ⟨ys,hys,rys⟩:=id ha7
  have ly:ys.length = cs.length:=by rw [rys.length,List.length_map]
  obtain ⟨y,hy,ry⟩:=rys.at (i:=k) (d:=spt cs[k]) (by rw [List.getElem?_map,List.getElem?_eq_getElem kl]; rfl)
  obtain ⟨b,x1,x2,rfl,hb,q1,q2⟩:=ry.spt_at
  have S17:But st (vw K H) (vw K H7):=(S1.but st).trans ((B2.same_trans S26).trans B7)
  walk_at "vc"
  refine ⟨ys,hys,fun p8 H8 hp8 S8 h8=>?_⟩
  rw [cut_to (by walk_at "o")] at h8
  have sz:1000 <= sizeLine:=by decide
  refine ⟨ys,S8 _ _ hys,_,atI_nat hy,b,rfl,_,S8 _ _ hb,_,atI_0,by decide,fun p9 H9 hp9 S9 h9=>⟨by decide,fun p10 H10 hp10 S10 h10=>?_⟩⟩
  simp only [rPlus_cat]
  refine ⟨_,(S9.trans S10) _ _ h8,_,h10,by simp; walk_at "o",fun p11 H11 hp11 S11 h11=>⟨ys,(S8.trans (S9.trans (S10.trans S11))) _ _ hys,fun p12 H12 hp12 S12 h12=>?_⟩⟩
  rw [show ((k:Int) + 1) = ((k + 1:Nat):Int) by walk_at "o",cut_from (by walk_at "o")] at h12
  simp only [rPlus_cat]
  refine ⟨_,S12 _ _ h11,_,h12,by simp; walk_at "o",fun p13 H13 hp13 S13 h13=>?_⟩
  have S813:=S8.trans (S9.trans (S10.trans (S11.trans (S12.trans S13))))
  have S913:=S10.trans (S11.trans (S12.trans S13))
  refine h p13 H13 k wq (S17.same_trans S813) (st7.same S813) ⟨_,h13,?_⟩ (fun _=>kl) hw
  have e:(cs.mapIdx fun i c=>if i = k then (c.1,wq) else c).map spt = (cs.map spt).take k ++ [spt (cs[k].1,wq)] ++ (cs.map spt).drop (k + 1):=by
   refine List.ext_getElem? fun j=>?_
   rw [List.getElem?_map,List.getElem?_mapIdx]
   by_cases j1:j < k
   ·rw [List.append_assoc,List.getElem?_append_left (by simp; walk_at "o"),List.getElem?_take_of_lt j1,List.getElem?_map]
    cases cs[j]? with
    | none=>rfl
    | some c=>show some (spt (if j = k then (c.1,wq) else c)) = some (spt c); rw [if_neg (by walk_at "o")]
   ·by_cases j2:j = k
    ·subst j2
     rw [List.append_assoc,List.getElem?_append_right (by simp; walk_at "o"),List.getElem?_eq_getElem kl]
     have:((cs.map spt).take j).length = j:=by simp; walk_at "o"
     rw [this,Nat.sub_self]
     show some (spt (if j = j then (cs[j].1,wq) else cs[j])) = some (spt (cs[j].1,wq))
     rw [if_pos rfl]
    ·rw [List.getElem?_append_right (by simp; walk_at "o")]
     have:((cs.map spt).take k ++ [spt (cs[k].1,wq)]).length = k + 1:=by simp; walk_at "o"
     rw [this,List.getElem?_drop,show k + 1 + (j - (k + 1)) = j by walk_at "o",List.getElem?_map]
     cases cs[j]? with
     | none=>rfl
     | some c=>show some (spt (if j = k then (c.1,wq) else c)) = some (spt c); rw [if_neg j2]
  rw [e]
  have R:=rys.same S813
  refine ((R.take k).app (.mk_cons ?_ .mk_nil)).app (R.drop (k + 1))
  exact .mk_tup (S913 _ _ h9) (.mk_cons (Rep.same S813 _ _ q1) (.mk_cons (Rep.same S813 _ _ rv) .mk_nil))
theorem cut_m1 (xs:List V):cutV xs none (some (-1)) = xs.take (xs.length - 1):=by
 unfold cutV HT.sIx
 cases xs with
 | nil=>rfl
 | cons x xs =>
  simp
  walk_at "o"
theorem td_neg {K:PySem.W.Frag} {σ:St} {H0:Hp} {i:Int}:TD K σ H0 (tUn (rU fun i=>.int (-i)) (tC (.int i))) (.int (-i)):=fun H Q S k=>⟨i,rfl,k _ H .rfl (by unfold Rep; rfl)⟩
theorem td_m1L {K:PySem.W.Frag} {σ:St} {H0:Hp} {t:TE} {ds:List D} (h:TD K σ H0 t (.lst ds)):TD K σ H0 (tSl (rSlS K) t tNoPart (tPart (tUn (rU fun i=>.int (-i)) (tC (.int 1))))) (.lst (ds.take (ds.length - 1))):=fun H Q S k =>
 h H _ S fun v H1 S1 r1=>by
  obtain ⟨a,xs,rfl,ha,ra⟩:=r1.lst_at
  have lx:=ra.length
  refine ⟨1,rfl,-1,rfl,a,rfl,xs,ha,fun p H2 hp S2 h2=>k _ H2 (S1.trans S2) (.mk_lst h2 ?_)⟩
  rw [cut_m1,lx]
  exact (ra.take _).same S2
theorem td_tupL {K:PySem.W.Frag} {σ:St} {H0:Hp} {t:TE} {ds:List D} (h:TD K σ H0 t (.lst ds)):TD K σ H0 (tCB (fun xs H Q=>∃ p,xs = [V.ref p] /\ ∃ ys,vw K H p = some (HO.lst ys) /\ Nw K H (HO.tup ys) Q) (tCons t tNil)) (.tup ds):=fun H Q S k =>
 h H _ S fun v H1 S1 r1=>by
  obtain ⟨a,xs,rfl,ha,ra⟩:=r1.lst_at
  exact ⟨a,rfl,xs,ha,fun p H2 hp S2 h2=>k _ H2 (S1.trans S2) (.mk_tup h2 (ra.same S2))⟩
theorem asg_catF {K:PySem.W.Frag} {σ:St} {H0:Hp} {t u:TE} {ds es:List D} {g:TG} {E:Ends} (h1:TD K σ H0 t (.lst ds)) (h2:TD K σ H0 u (.lst es)) (hl:ds.length + es.length <= 1000) (h:∀ p H',Same (vw K H0) (vw K H') -> vw K H0 p = none -> Rep (vw K H') (.lst (ds ++ es)) (.ref p) -> g (.ref p) σ H' E.nx):tAsg (tOp (rPlus K) t u) g E σ H0 :=
 h1 H0 _ .rfl fun v H1 S1 r1=>h2 H1 _ S1 fun w H2 S2 r2=>by
  obtain ⟨a,xs,rfl,ha,ra⟩:=(Rep.same S2 _ _ r1).lst_at
  obtain ⟨b,ys,rfl,hb,rb⟩:=r2.lst_at
  rw [rPlus_cat]
  refine ⟨xs,ha,ys,hb,?_,fun p H3 hp S3 h3=>h p H3 (S1.trans (S2.trans S3)) ((S1.trans S2).none hp) (.mk_lst h3 ((ra.same S3).app (rb.same S3)))⟩
  rw [ra.length,rb.length]
  exact Nat.le_trans hl (by decide)
mutual
def nol (n:Nat):D -> Bool
 | .lst ds=>decide (ds.length ≠ n) && nols n ds
 | .tup ds=>nols n ds
 | _=>true
def nols (n:Nat):List D -> Bool
 | []=>true
 | d :: ds=>nol n d && nols n ds
end
mutual
theorem rep_butN {H H':Hp} {l:Addr} {ys:List V} (S:But l H H') (hl:H l = some (.lst ys)):∀ (d:D) (v:V),nol ys.length d = true -> Rep H d v -> Rep H' d v
 | .non,v,_,h=>by unfold Rep at h ⊢; exact h
 | .bl b,v,_,h=>by unfold Rep at h ⊢; exact h
 | .int i,v,_,h=>by unfold Rep at h ⊢; exact h
 | .str x,v,_,h=>by unfold Rep at h ⊢; exact h
 | .dict,v,_,h=>by
  unfold Rep at h ⊢
  obtain ⟨a,kvs,e,h⟩:=h
  exact ⟨a,kvs,e,S _ _ (ne_of h hl (by intro z; cases z)) h⟩
 | .tup ds,v,hn,h=>by
  unfold Rep at h ⊢
  obtain ⟨a,xs,e,h,r⟩:=h
  exact ⟨a,xs,e,S _ _ (ne_of h hl (by intro z; cases z)) h,reps_butN S hl ds xs (by unfold nol at hn; exact hn) r⟩
 | .lst ds,v,hn,h=>by
  unfold nol at hn
  rw [Bool.and_eq_true,decide_eq_true_eq] at hn
  unfold Rep at h ⊢
  obtain ⟨a,xs,e,h,r⟩:=h
  refine ⟨a,xs,e,S _ _ (ne_of h hl fun z=>?_) h,reps_butN S hl ds xs hn.2 r⟩
  cases z
  exact hn.1 r.length.symm
theorem reps_butN {H H':Hp} {l:Addr} {ys:List V} (S:But l H H') (hl:H l = some (.lst ys)):∀ (ds:List D) (xs:List V),nols ys.length ds = true -> Reps H ds xs -> Reps H' ds xs
 | [],xs,_,h=>by unfold Reps at h ⊢; exact h
 | d :: ds,xs,hn,h=>by
  unfold nols at hn
  rw [Bool.and_eq_true] at hn
  unfold Reps at h ⊢
  obtain ⟨x,r,e,h1,h2⟩:=h
  exact ⟨x,r,e,rep_butN S hl d x hn.1 h1,reps_butN S hl ds r hn.2 h2⟩
end
theorem nols_fr {n:Nat}:∀ qs:List (Int × Int),nols n (qs.map fr) = true
 | []=>rfl
 | q :: qs=>by show (nol n (fr q) && nols n (qs.map fr)) = true; rw [nols_fr qs]; rfl
theorem nol_pl {n:Nat} {qs:List (Int × Int)} (h:qs.length ≠ n):nol n (pl qs) = true:=by
 show (decide ((qs.map fr).length ≠ n) && nols n (qs.map fr)) = true
 rw [nols_fr,List.length_map,decide_eq_true h]
 rfl
theorem noSt_pl (qs:List (Int × Int)):(pl qs).noSt = true:=noSt_mk (frs_noSt qs) fun i b z=>by
 cases qs with
 | nil=>cases z
 | cons q qs=>cases (List.cons.inj z).1
def bent9 (rs ws:List (Int × Int)):List D:=[.tup [pl rs,pl (ws ++ [(0,1)])],.tup [pl rs,pl ws,pl []],.tup [pl rs],.lst [pl rs,pl ws],.tup [pl ws,pl rs],.non,.dict,.tup [.tup (rs.map fr),pl ws],.tup [pl rs,.tup (ws.map fr)],.tup [pl (rs.take (rs.length - 1) ++ [(2,1)]),pl ws],.tup [pl [],pl []],.int 3,.tup [pl (rs.take (rs.length - 1) ++ [(-1,1)]),pl ws],.tup [pl (rs ++ [(0,1)]),pl ws],.tup [fr (1,1),pl ws],.tup [pl rs,.non],.tup [pl [(1,1)],pl [(1,1)]],.tup [pl [(1,2)],pl []],.tup [pl [(0,1),(0,1),(1,1)],pl [(1,1)]]]
def bents (rs ws:List (Int × Int)):List D:=bent9 rs ws ++ [.tup [pl rs,pl (List.replicate rs.length (1,2))]]
theorem bent9_nol {rs ws:List (Int × Int)} (lr:rs.length <= 9) (lw:ws.length < rs.length):nols 19 (bent9 rs ws) = true:=by
 have a:=nol_pl (n:=19) (qs:=rs) (by walk_at "o")
 have b:=nol_pl (n:=19) (qs:=ws) (by walk_at "o")
 have c:∀ q,nol 19 (pl (ws ++ [q])) = true:=fun q=>nol_pl (by simp; walk_at "o")
 have d:∀ q,nol 19 (pl (rs ++ [q])) = true:=fun q=>nol_pl (by simp; walk_at "o")
 have e:∀ q,nol 19 (pl (rs.take (rs.length - 1) ++ [q])) = true:=fun q=>nol_pl (by simp; walk_at "o")
 have f:nol 19 (pl []) = true:=nol_pl (by simp)
 have g:∀ q,nol 19 (pl [q]) = true:=fun q=>nol_pl (by simp)
 have h:∀ p q r,nol 19 (pl [p,q,r]) = true:=fun p q r=>nol_pl (by simp)
 have i:nol 19 (fr (1,1)) = true:=rfl
 have t:∀ qs:List (Int × Int),nol 19 (.tup (qs.map fr)) = true:=fun qs=>nols_fr qs
 have l:nol 19 (.lst [pl rs,pl ws]) = true:=by
  show (decide (2 ≠ 19) && (nol 19 (pl rs) && (nol 19 (pl ws) && true))) = true
  rw [a,b]
  rfl
 simp only [bent9,nols,l,t,Bool.true_and]
 simp only [nol,nols,a,b,c,d,e,f,g,h,i,t,nols_fr,Bool.true_and,Bool.and_true]
theorem bents_noSt (rs ws:List (Int × Int)):D.noSts (bents rs ws) = true:=by
 have l:(D.lst [pl rs,pl ws]).noSt = true:=noSt_mk (by show ((pl rs).noSt && ((pl ws).noSt && true)) = true; rw [noSt_pl,noSt_pl]; rfl) fun i b z=>by cases (List.cons.inj z).1
 have t:∀ qs:List (Int × Int),(D.tup (qs.map fr)).noSt = true:=fun qs=>by unfold D.noSt; exact frs_noSt qs
 simp only [bents,bent9,List.cons_append,List.nil_append,D.noSts,l,t,Bool.true_and]
 simp only [D.noSt,D.noSts,noSt_pl,fr_noSt,t,frs_noSt,Bool.true_and,Bool.and_true]
theorem flk_parts {r w:List D} (h:flkD (.tup [.lst r,.lst w]) = true):(D.lst r).poly = true /\ (D.lst w).poly = true /\ w.length < r.length /\ r.getLast? = some (fr (1,1)):=by
 unfold flkD at h
 simp only [Bool.and_eq_true,decide_eq_true_eq] at h
 obtain ⟨⟨⟨⟨⟨h1,h2⟩,h3⟩,h4⟩,h5⟩,h6⟩:=h
 refine ⟨h1,h2,h5,?_⟩
 split at h6
 ·rename_i e
  rw [e]
  rfl
 ·cases h6
theorem poly_snoc0 {qs:List (Int × Int)}:(D.lst ((qs ++ [(0,1)]).map fr)).poly = false:=by
 rw [List.map_append]
 show ((qs.map fr ++ [fr (0,1)]).all D.frac && lastOk (qs.map fr ++ [fr (0,1)])) = false
 rw [lastOk_fr (q:=(0,1)) (by rw [List.getLast?_concat]),Bool.and_eq_false_iff]
 exact .inr (by decide)
theorem bents_no {rs ws:List (Int × Int)} (lw:ws.length < rs.length):∀ d ∈ bents rs ws,flkD d = false \/ d = .tup [pl [(0,1),(0,1),(1,1)],pl [(1,1)]]:=by
 have no:∀ {d:D},¬ flkD d = true -> flkD d = false:=fun h=>by simpa using h
 intro d hd
 simp only [bents,bent9,List.cons_append,List.nil_append,List.mem_cons,List.not_mem_nil,or_false] at hd
 rcases hd with rfl | rfl | rfl | rfl | rfl | rfl | rfl | rfl | rfl | rfl | rfl | rfl | rfl | rfl | rfl | rfl | rfl | rfl | rfl | rfl
 ·exact .inl (no fun z=>by have:=(flk_parts z).2.1; rw [poly_snoc0] at this; cases this)
 ·exact .inl rfl
 ·exact .inl rfl
 ·exact .inl rfl
 ·exact .inl (no fun z=>by have:=(flk_parts z).2.2.1; simp at this; walk_at "o")
 ·exact .inl rfl
 ·exact .inl rfl
 ·exact .inl rfl
 ·exact .inl rfl
 ·exact .inl (no fun z=>by have:=(flk_parts z).2.2.2; rw [List.map_append] at this; have this:(_ ++ [fr _]).getLast? = _:=this; rw [List.getLast?_concat] at this; cases this)
 ·exact .inl (no fun z=>by have:=(flk_parts z).2.2.1; simp at this)
 ·exact .inl rfl
 ·exact .inl (no fun z=>by have:=(flk_parts z).2.2.2; rw [List.map_append] at this; have this:(_ ++ [fr _]).getLast? = _:=this; rw [List.getLast?_concat] at this; cases this)
 ·exact .inl (no fun z=>by have:=(flk_parts z).1; rw [poly_snoc0] at this; cases this)
 ·exact .inl rfl
 ·exact .inl rfl
 ·exact .inl (no fun z=>by have:=(flk_parts z).2.2.1; simp at this)
 ·exact .inl (no fun z=>by have:=(flk_parts z).2.2.2; cases this)
 ·exact .inr rfl
 ·exact .inl (no fun z=>by have:=(flk_parts z).2.2.1; simp at this)
def zPbent (K:PySem.W.Frag):Sp:=fun vs H Q _=>∃ (st p a b:Addr) (rs ws:List (Int × Int)),vs = [.ref st,.ref p] /\ StOk (vw K H) st /\ vw K H p = some (.tup [.ref a,.ref b]) /\ LsAt (vw K H) a rs /\ LsAt (vw K H) b ws /\ rs.length <= 9 /\ ws.length < rs.length /\ rs.getLast? = some (1,1) /\ (∀ q ∈ rs,Fq q) /\ (∀ q ∈ ws,Fq q) /\
 ∀ v H' d,But st (vw K H) (vw K H') -> StOk (vw K H') st -> Rep (vw K H') d v -> (flkD d = false \/ d = .tup [pl [(0,1),(0,1),(1,1)],pl [(1,1)]]) -> Q v H'
theorem zObent (F:Fun K "_law_bent" "_law_bent" zTbent f fd) (T:Txt K mg) (zCtake:Cal P w K mg base "_law_take" ["_law_state_here", "_law_many"] 1 (zPtake K)):FnOk P w K mg base CX0 2 f fd ["_law_state_here", "_law_flock"] (zPbent K):=by
 have scN:=zUbent.nd
 refine F.okQ zUbent (fun vs H Q E h=>?_) (fun cdv A outer s H vs Q E hr h=>?_)
 ·obtain ⟨_,_,_,_,_,_,rfl,_⟩:=h
  rfl
 ·obtain ⟨st,p,a,b,rs,ws,rfl,hst,hp,ha,hb,lr,lw,l1,fr',fw,h⟩:=h
  refine ⟨_,((qss_cons (qs_asg (qv 1) (qg_tupH (n:=2) rfl (qgs_cons (qg_name (i:=2) scN rfl (by walk_at "a1")) (qgs_cons (qg_name (i:=3) scN rfl (by walk_at "a1")) qgs_nil))))
   (qss_cons (qs_set (i:=4) scN rfl (by walk_at "a1") (qe_lstS (qa_cons (qe_tupS (qa_cons (qv 2) (qa_cons (qe_op op_Plus (qv 3) (qe_lstS (qa_cons (qe_tupS (qa_cons qe_int (qa_cons qe_int qa_nil))) qa_nil))) qa_nil))) (qa_cons (qe_tupS (qa_cons (qv 2) (qa_cons (qv 3) (qa_cons (qe_lstS qa_nil) qa_nil)))) (qa_cons (qe_tupS (qa_cons (qv 2) qa_nil)) (qa_cons (qe_lstS (qa_cons (qv 2) (qa_cons (qv 3) qa_nil))) (qa_cons (qe_tupS (qa_cons (qv 3) (qa_cons (qv 2) qa_nil))) (qa_cons qe_non (qa_cons qe_dctS qa_nil)))))))))
   (qss_cons (qs_set (i:=4) scN rfl (by walk_at "a1") (qe_op op_Plus (qv 4) (qe_lstS (qa_cons (qe_tupS (qa_cons (qe_callTy call_tupleS (by rfl) T.b_tuple bt_tuple (qa_cons (qv 2) qa_nil)) (qa_cons (qv 3) qa_nil))) (qa_cons (qe_tupS (qa_cons (qv 2) (qa_cons (qe_callTy call_tupleS (by rfl) T.b_tuple bt_tuple (qa_cons (qv 3) qa_nil)) qa_nil))) (qa_cons (qe_tupS (qa_cons (qe_op op_Plus (qe_slice sl_listS (qv 2) qo_none (qo_some (qe_un un_neg qe_int))) (qe_lstS (qa_cons (qe_tupS (qa_cons qe_int (qa_cons qe_int qa_nil))) qa_nil))) (qa_cons (qv 3) qa_nil))) (qa_cons (qe_tupS (qa_cons (qe_lstS qa_nil) (qa_cons (qe_lstS qa_nil) qa_nil))) (qa_cons qe_int qa_nil))))))))
   (qss_cons (qs_set (i:=4) scN rfl (by walk_at "a1") (qe_op op_Plus (qv 4) (qe_lstS (qa_cons (qe_tupS (qa_cons (qe_op op_Plus (qe_slice sl_listS (qv 2) qo_none (qo_some (qe_un un_neg qe_int))) (qe_lstS (qa_cons (qe_tupS (qa_cons (qe_un un_neg qe_int) (qa_cons qe_int qa_nil))) qa_nil))) (qa_cons (qv 3) qa_nil))) (qa_cons (qe_tupS (qa_cons (qe_op op_Plus (qv 2) (qe_lstS (qa_cons (qe_tupS (qa_cons qe_int (qa_cons qe_int qa_nil))) qa_nil))) (qa_cons (qv 3) qa_nil))) (qa_cons (qe_tupS (qa_cons (qe_tupS (qa_cons qe_int (qa_cons qe_int qa_nil))) (qa_cons (qv 3) qa_nil))) (qa_cons (qe_tupS (qa_cons (qv 2) (qa_cons qe_non qa_nil))) qa_nil)))))))
   (qss_cons (qs_set (i:=4) scN rfl (by walk_at "a1") (qe_op op_Plus (qv 4) (qe_lstS (qa_cons (qe_tupS (qa_cons (qe_lstS (qa_cons (qe_tupS (qa_cons qe_int (qa_cons qe_int qa_nil))) qa_nil)) (qa_cons (qe_lstS (qa_cons (qe_tupS (qa_cons qe_int (qa_cons qe_int qa_nil))) qa_nil)) qa_nil))) (qa_cons (qe_tupS (qa_cons (qe_lstS (qa_cons (qe_tupS (qa_cons qe_int (qa_cons qe_int qa_nil))) qa_nil)) (qa_cons (qe_lstS qa_nil) qa_nil))) (qa_cons (qe_tupS (qa_cons (qe_lstS (qa_cons (qe_tupS (qa_cons qe_int (qa_cons qe_int qa_nil))) (qa_cons (qe_tupS (qa_cons qe_int (qa_cons qe_int qa_nil))) (qa_cons (qe_tupS (qa_cons qe_int (qa_cons qe_int qa_nil))) qa_nil)))) (qa_cons (qe_lstS (qa_cons (qe_tupS (qa_cons qe_int (qa_cons qe_int qa_nil))) qa_nil)) qa_nil))) qa_nil))))))
   (qss_cons (qs_expr (qe_bm PySem.F.plainAttrs_list PySem.F.slot_list_append PySem.F.type_list_append mt_appendS (qv 4) (qa_cons (qe_tupS (qa_cons (qv 2) (qa_cons (qe_op op_Mul (qe_lstS (qa_cons (qe_tupS (qa_cons qe_int (qa_cons qe_int qa_nil))) qa_nil)) (qe_callB call_lenH (by rfl) T.b_len bt_len (qa_cons (qv 2) qa_nil))) qa_nil))) qa_nil)))
   (qss_one (qs_ret (qe_ix ix_h (qv 4) (qe_cal zCtake (hr.mono (by walk_at "a2")) rfl (qa_cons (qv 0) (qa_cons qe_int qa_nil))) (fun _ _=>rfl))))))))))),?_⟩
  simp only [cxOf_noxK,cxOf_K,L2.start,List.map_cons,List.map_nil,List.cons_append,List.nil_append,List.replicate_succ,List.replicate_zero,List.length_cons,List.length_nil,Nat.reduceSub,Nat.reduceAdd,Nat.zero_add]
  have ra:=ha.rep
  have rb:=hb.rep
  have tr:∀ {σ:St} {i:Nat} {H0:Hp},Same (vw K H) (vw K H0) -> σ[i]? = some (some (.ref a)) -> TD K σ H0 (L2.tVar i) (pl rs):=fun S e=>td_var e (Rep.same S _ _ ra)
  have tw:∀ {σ:St} {i:Nat} {H0:Hp},Same (vw K H) (vw K H0) -> σ[i]? = some (some (.ref b)) -> TD K σ H0 (L2.tVar i) (pl ws):=fun S e=>td_var e (Rep.same S _ _ rb)
  have lm:(rs.map fr).length = rs.length:=List.length_map ..
  have lm2:(ws.map fr).length = ws.length:=List.length_map ..
  have pr':∀ {σ:St} {i j:Int} {H0:Hp},TD K σ H0 (tTupS K (tCons (tC (.int i)) (tCons (tC (.int j)) tNil))) (fr (i,j)):=td_tup (tds_cons td_int (tds_cons td_int tds_nil)) (by simp)
  have one:∀ {σ:St} {i j:Int} {H0:Hp},TD K σ H0 (tLstS K (tCons (tTupS K (tCons (tC (.int i)) (tCons (tC (.int j)) tNil))) tNil)) (.lst [fr (i,j)]):=td_lst (tds_cons pr' tds_nil) (by simp)
  have emp:∀ {σ:St} {H0:Hp},TD K σ H0 (tLstS K tNil) (.lst []):=td_lst tds_nil (by simp)
  have cut:∀ {σ:St} {i:Nat} {H0:Hp},Same (vw K H) (vw K H0) -> σ[i]? = some (some (.ref a)) -> TD K σ H0 (tSl (rSlS K) (L2.tVar i) tNoPart (tPart (tUn (rU fun i=>.int (-i)) (tC (.int 1))))) (.lst ((rs.map fr).take ((rs.map fr).length - 1))):=fun S e=>td_m1L (tr S e)
  have two:∀ {σ:St} {H0:Hp} {t u:TE} {d e:D},TD K σ H0 t d -> TD K σ H0 u e -> TD K σ H0 (tTupS K (tCons t (tCons u tNil))) (.tup [d,e]):=fun h1 h2=>td_tup (tds_cons h1 (tds_cons h2 tds_nil)) (by simp)
  refine tSeq.gen fun N1 hN1=>?_
  walk_at "m"
  walk_at "vc"
  refine ⟨_,hp,rfl,_,_,rfl,_,_,rfl,rfl,hN1 _ _ ?_⟩
  refine tSeq.gen fun N2 hN2=>?_
  refine asg_td (td_lst (tds_cons (two (tr .rfl rfl) (td_catL (tw .rfl rfl) one (by simp; walk_at "o"))) (tds_cons (td_tup (tds_cons (tr .rfl rfl) (tds_cons (tw .rfl rfl) (tds_cons emp tds_nil))) (by simp)) (tds_cons (td_tup (tds_cons (tr .rfl rfl) tds_nil) (by simp)) (tds_cons (td_lst (tds_cons (tr .rfl rfl) (tds_cons (tw .rfl rfl) tds_nil)) (by simp)) (tds_cons (two (tw .rfl rfl) (tr .rfl rfl)) (tds_cons td_non (tds_cons td_dict tds_nil))))))) (by simp)) fun v2 H2 S2 r2=>hN2 _ _ ?_
  refine tSeq.gen fun N3 hN3=>?_
  refine asg_td (td_catL (td_var rfl r2) (td_lst (tds_cons (two (td_tupL (tr S2 rfl)) (tw S2 rfl)) (tds_cons (two (tr S2 rfl) (td_tupL (tw S2 rfl))) (tds_cons (two (td_catL (cut S2 rfl) one (by simp; walk_at "o")) (tw S2 rfl)) (tds_cons (two emp emp) (tds_cons td_int tds_nil))))) (by simp)) (by simp)) fun v3 H3 S3 r3=>hN3 _ _ ?_
  have S03:=S2.trans S3
  refine tSeq.gen fun N4 hN4=>?_
  refine asg_td (td_catL (td_var rfl r3) (td_lst (tds_cons (two (td_catL (cut S03 rfl) (td_lst (tds_cons (td_tup (tds_cons td_neg (tds_cons td_int tds_nil)) (by simp)) tds_nil) (by simp)) (by simp; walk_at "o")) (tw S03 rfl)) (tds_cons (two (td_catL (tr S03 rfl) one (by simp; walk_at "o")) (tw S03 rfl)) (tds_cons (two pr' (tw S03 rfl)) (tds_cons (two (tr S03 rfl) td_non) tds_nil)))) (by simp)) (by simp)) fun v4 H4 S4 r4=>hN4 _ _ ?_
  have S04:=S03.trans S4
  refine tSeq.gen fun N5 hN5=>?_
  refine asg_catF (td_var rfl r4) (td_lst (tds_cons (two one one) (tds_cons (two one emp) (tds_cons (two (td_lst (tds_cons pr' (tds_cons pr' (tds_cons pr' tds_nil))) (by simp)) one) tds_nil))) (by simp)) (by simp) fun l5 H5 S5 nl5 r5=>hN5 _ _ ?_
  have S05:=S04.trans S5
  refine tSeq.gen fun N6 hN6=>?_
  walk_at "m"
  walk_at "vc"
  have S5':Rep (vw K H5) (.lst (bent9 rs ws)) (.ref l5):=by
   refine Eq.mp (congrArg (fun l=>Rep (vw K H5) (.lst l) (.ref l5)) ?_) r5
   simp only [bent9,pl,List.map_append,List.map_take,List.map_cons,List.map_nil,List.cons_append,List.nil_append,List.length_map]
   rfl
  obtain ⟨l5',xs5,e5,hx5,rx5⟩:=S5'.lst_at
  cases e5
  have l19:xs5.length = 19:=rx5.length
  refine ⟨ty_lst hx5,by decide,fun p6 H6 hp6 S6 h6=>⟨by decide,fun p7 H7 hp7 S7 h7=>?_⟩⟩
  obtain ⟨xa,hxa,rxa⟩:=id (ha.same (S05.trans (S6.trans S7)))
  have lxa:xa.length = rs.length:=by rw [rxa.length,lm]
  refine ⟨xa.length,by simp only [lenH,hxa],?_⟩
  simp only [rMul_rep]
  have sz:1000 <= sizeLine:=by decide
  refine ⟨_,h7,by walk_at "o",by walk_at "o",by simp; walk_at "o",fun p8 H8 hp8 S8 h8=>⟨by decide,fun p9 H9 hp9 S9 h9=>⟨xs5,(S6.trans (S7.trans (S8.trans S9))) _ _ hx5,by walk_at "o",fun H10 B10 h10=>hN6 _ _ ?_⟩⟩⟩
  have S59:=S6.trans (S7.trans (S8.trans S9))
  have S09:=S05.trans S59
  have hx9:=S59 _ _ hx5
  have ne5:∀ {q:Addr} {o:HO} {G:Hp},vw K G q = none -> Same (vw K H5) (vw K G) -> q ≠ l5:=fun z S e=>by
   subst e
   rw [S _ _ hx5] at z
   cases z
  have dr:Rep (vw K H9) (.tup [pl rs,pl (List.replicate rs.length (1,2))]) (.ref p9):=by
   refine .mk_tup h9 (.mk_cons (Rep.same S09 _ _ ra) (.mk_cons (.mk_lst (S9 _ _ h8) ?_) .mk_nil))
   rw [List.map_replicate,Int.toNat_natCast,lxa,show (List.replicate rs.length [V.ref p6]).flatten = List.replicate rs.length (V.ref p6) by rw [List.flatten_replicate_singleton]]
   exact Reps.repl (rep_pair ((S7.trans (S8.trans S9)) _ _ h6)) _
  have nolr:nol xs5.length (.tup [pl rs,pl (List.replicate rs.length (1,2))]) = true:=by
   rw [l19]
   show (nol 19 (pl rs) && (nol 19 (pl (List.replicate rs.length (1,2))) && true)) = true
   rw [nol_pl (by walk_at "o"),nol_pl (by simp; walk_at "o")]
   rfl
  have r10:Rep (vw K H10) (.lst (bents rs ws)) (.ref l5):=.mk_lst h10 ((reps_butN B10 hx9 _ _ (by rw [l19]; exact bent9_nol lr lw) (rx5.same S59)).app (.mk_cons (rep_butN B10 hx9 _ _ nolr dr) .mk_nil))
  have nst:st ≠ l5:=fun e=>by
   obtain ⟨_,_,z,_⟩:=hst.same S05
   rw [e,hx5] at z
   cases z
   cases l19
  have st10:StOk (vw K H10) st:=(hst.same S09).but hx9 nst B10
  walk_at "m"
  walk_at "vc"
  simp only [zPtake]
  refine ⟨st,20,rfl,st10,by decide,by decide,fun r H11 r0 r1 B11 st11=>?_⟩
  obtain ⟨j,rfl⟩ : ∃ j:Nat,r = (j:Int):=⟨r.toNat,by walk_at "o"⟩
  have r11:=r10.but B11 st10 _ _ (noSt_mk (bents_noSt rs ws) fun i b z=>by cases (List.cons.inj z).1)
  obtain ⟨b9,us,e9,h11,ru⟩:=r11.lst_at
  cases e9
  have hj:j < us.length:=by
   rw [ru.length]
   show j < 20
   walk_at "o"
  obtain ⟨e,he,re⟩:=ru.get (List.getElem?_eq_getElem hj)
  refine ⟨_,rfl,_,h11,_,atI_nat (List.getElem?_eq_getElem hj),h _ H11 e ?_ st11 re (bents_no lw e (List.mem_of_getElem? he))⟩
  have nl:vw K H l5 = none:=S04.none nl5
  exact But.trans (fun y o ny ey=>B10 _ _ (ne_of_none ey nl) (S09 _ _ ey)) B11
theorem EV_two (a b:Int × Int) (x:Rat):EV (cf [a,b]) x = wv a + wv b * x:=by
 rw [EV_of (n:=2) (fun k hk=>cf_none (by simpa using hk)) (by decide),evN_L]
 show wv a + x * (wv b + x * 0) = _
 grind
theorem EV_three (a b:Int × Int) (x:Rat):EV (cf [a,b,(1,1)]) x = x * x + wv b * x + wv a:=by
 rw [EV_of (n:=3) (fun k hk=>cf_none (by simpa using hk)) (by decide),evN_L]
 show wv a + x * (wv b + x * (wv (1,1) + x * 0)) = _
 rw [wv_11]
 grind
theorem EV_dthree (a b:Int × Int) (x:Rat):EV (DF (cf [a,b,(1,1)])) x = 2 * x + wv b:=by
 rw [EV_of (n:=2) (fun k hk=>by
  unfold DF
  rw [cf_none (by show 3 <= k + 1; walk_at "o")]
  grind) (by decide),evN_L]
 show (((0 + 1:Nat):Int):Rat) * wv b + x * ((((1 + 1:Nat):Int):Rat) * wv (1,1) + x * 0) = _
 have c1:(((0 + 1:Nat):Int):Rat) = 1:=rfl
 have c2:(((1 + 1:Nat):Int):Rat) = 2:=rfl
 rw [c1,c2,wv_11]
 grind
theorem two_told {q0 p0 a0 b0:Int × Int} {ws:List (Int × Int)} {z:Int} (ew:∀ k,cf ws k = cf [a0,b0] k) (h:Bal (EV (cf [q0,p0,(1,1)])) (EV (DF (cf [q0,p0,(1,1)]))) (EV (cf ws)) 2 z):decide (z = ((2:Nat):Int)) = true ↔ QD (wv q0) (wv p0) (wv a0) (wv b0):=by
 rw [funext (EV_three q0 p0),funext (EV_dthree q0 p0),show EV (cf ws) = fun x=>wv a0 + wv b0 * x from funext fun x=>by rw [EV_congr ew,EV_two]] at h
 rw [decide_eq_true_iff]
 exact h.quad
theorem crowd_told {cs:List Spt} {rs ws:List (Int × Int)} {z:Int} (lc:cs.length <= 6) (nd:(sps cs).Nodup) (lw:ws.length <= 20) (e1:∀ x,EV (cf rs) x = prodX (sps cs) x) (e2:∀ x,EV (DF (cf rs)) x = dprodX (sps cs) x) (e3:∀ x,EV (cf ws) x = lagX cs cs.length x) (h:Bal (EV (cf rs)) (EV (DF (cf rs))) (EV (cf ws)) cs.length z):z = (cs.length:Int) ↔ ∀ c ∈ cs,0 < wv c.2:=by
 by_cases cn:cs = []
 ·subst cn
  exact ⟨fun _ c hc=>(by cases hc),fun _=>h.nil⟩
 ·have l1:1 <= cs.length:=List.length_pos_iff.mpr cn
  obtain ⟨ps,hps⟩ : ∃ ps:List (Rat × Rat),ps = cs.map fun c=>(wv c.1,wv c.2):=⟨_,rfl⟩
  have p1:ps.map (·.1) = sps cs:=by rw [hps,List.map_map]; rfl
  have pl':ps.length = cs.length:=by rw [hps,List.length_map]
  have hG:∀ p ∈ ps,EV (cf ws) p.1 = p.2:=fun p hp=>by
   rw [hps] at hp
   obtain ⟨c,hc,rfl⟩:=List.mem_map.mp hp
   obtain ⟨j,hj⟩:=List.getElem?_of_mem hc
   have jl:=(List.getElem?_eq_some_iff.mp hj).1
   have:=lag_other nd jl cs.length (Nat.le_refl _)
   rw [if_pos jl,spo_at hj,wgt_at hj] at this
   show EV (cf ws) (wv c.1) = wv c.2
   rw [e3,this]
  rw [funext e1,funext e2,<- p1,<- pl'] at h
  have pG:Py (EV (cf ws)):=EV_py (n:=ws.length) (fun i hi=>cf_none hi) lw
  have:=h.crowd pG hG (by rw [p1]; exact nd) (by walk_at "o") (by walk_at "o")
  rw [pl'] at this
  rw [this]
  exact ⟨fun k c hc=>k (wv c.1,wv c.2) (by rw [hps]; exact List.mem_map.mpr ⟨c,hc,rfl⟩),fun k p hp=>by
   rw [hps] at hp
   obtain ⟨c,hc,rfl⟩:=List.mem_map.mp hp
   exact k c hc⟩
def tilt (cs:List Spt) (k:Nat) (w:Int × Int):List Spt:=cs.mapIdx fun i c=>if i = k then (c.1,w) else c
theorem tilt_len {cs:List Spt} {k:Nat} {w:Int × Int}:(tilt cs k w).length = cs.length:=List.length_mapIdx
theorem tilt_at {cs:List Spt} {k:Nat} {w:Int × Int} {i:Nat} {c:Spt} (h:(tilt cs k w)[i]? = some c):∃ d,cs[i]? = some d /\ c.1 = d.1 /\ (c.2 = w \/ c.2 = d.2):=by
 unfold tilt at h
 rw [List.getElem?_mapIdx] at h
 cases e:cs[i]? with
 | none=>rw [e] at h; cases h
 | some d =>
  rw [e] at h
  have h:some (if i = k then (d.1,w) else d) = some c:=h
  refine ⟨d,rfl,?_⟩
  by_cases z:i = k
  ·rw [if_pos z] at h
   cases h
   exact ⟨rfl,.inl rfl⟩
  ·rw [if_neg z] at h
   cases h
   exact ⟨rfl,.inr rfl⟩
theorem tilt_bad {cs:List Spt} {k:Nat} {w:Int × Int} (hk:k < cs.length) (hw:¬ 0 < wv w):¬ ∀ c ∈ tilt cs k w,0 < wv c.2:=fun h=>by
 refine hw (h (cs[k].1,w) (List.mem_of_getElem? (i:=k) ?_))
 unfold tilt
 rw [List.getElem?_mapIdx,List.getElem?_eq_getElem hk]
 show some (if k = k then (cs[k].1,w) else cs[k]) = _
 rw [if_pos rfl]
theorem tw_facts {w:Int × Int} (h:w ∈ [((0:Int),(1:Int)),(-1,1),(-7,3)]):Fq w /\ Sx 36 w /\ ¬ 0 < wv w:=by
 simp only [List.mem_cons,List.not_mem_nil,or_false] at h
 have c6:((6:Int):Rat) = 6:=rfl
 rcases h with rfl | rfl | rfl
 ·refine ⟨⟨by decide,by decide⟩,⟨0,?_,by decide⟩,fun z=>absurd ((num_pos ⟨by decide,by decide⟩).mpr z) (by decide)⟩
  rw [wv_i]; decide +kernel
 ·refine ⟨⟨by decide,by decide⟩,⟨-6,?_,by decide⟩,fun z=>absurd ((num_pos ⟨by decide,by decide⟩).mpr z) (by decide)⟩
  rw [wv_i]; decide +kernel
 ·refine ⟨⟨by decide,by decide⟩,⟨-14,?_,by decide⟩,fun z=>absurd ((num_pos ⟨by decide,by decide⟩).mpr z) (by decide)⟩
  unfold wv
  decide +kernel
theorem flk_seven {rs ws:List (Int × Int)} (h:7 < rs.length):flkD (.tup [pl rs,pl ws]) = false:=by
 show ((pl rs).poly && (pl ws).poly && decide (1 <= (rs.map fr).length) && decide ((rs.map fr).length <= 7) && decide ((ws.map fr).length < (rs.map fr).length) && (match (rs.map fr).getLast? with | some (.tup [.int 1,.int 1])=>true | _=>false)) = false
 rw [decide_eq_false (show ¬ (rs.map fr).length <= 7 by rw [List.length_map]; walk_at "o")]
 simp
theorem num_zero {q:Int × Int} (h:Fq q) (z:q.1 = 0):q = (0,1):=by
 obtain ⟨a,b⟩:=q
 have z:a = 0:=z
 subst z
 have h2:Int.gcd 0 b = 1:=h.2
 have h1:0 < b:=h.1
 rw [Int.gcd_zero_left] at h2
 rw [show b = 1 by walk_at "o"]
theorem pad_two {a0 b0:Int × Int} (fa:Fq a0) (fb:Fq b0) {m:Nat} (hm:m <= 2) (hd:∀ q ∈ [a0,b0].drop m,q.1 = 0):(([a0,b0].take m) ++ [(0,1),(0,1)]).take 2 = [a0,b0]:=by
 match m,hm with
 | 0,_=>rw [num_zero fa (hd a0 (by simp)),num_zero fb (hd b0 (by simp))]; rfl
 | 1,_=>rw [num_zero fb (hd b0 (by simp))]; rfl
 | 2,_=>rfl
theorem poly3 {p q:Int × Int} (hp:Fq p) (hq:Fq q):PolyOk [p,q,(1,1)]:=⟨fun x hx=>by
 rcases List.mem_cons.mp hx with rfl | hx
 ·exact hp
 ·rcases List.mem_cons.mp hx with rfl | hx
  ·exact hq
  ·rw [List.mem_singleton] at hx
   subst hx
   exact fq_11,fun x hx=>by cases hx; show (1:Int) ≠ 0; decide⟩
theorem pb_sx3 {p q:Int × Int} {b:Nat} (h1:Sx b p) (h2:Sx b q) (hb:b < 64):Pb 6 (cf [p,q,(1,1)]):=by
 obtain ⟨m,e1,l1⟩:=h1
 obtain ⟨n,e2,l2⟩:=h2
 have c6:((6:Int):Rat) = 6:=rfl
 have c0:((0:Int):Rat) = 0:=rfl
 refine ⟨6,by decide,by decide,fun k=>?_⟩
 rcases k with _ | _ | _ | k
 ·exact ⟨m,e1,show m.natAbs < 2 ^ 6 by walk_at "o"⟩
 ·exact ⟨n,e2,show n.natAbs < 2 ^ 6 by walk_at "o"⟩
 ·refine ⟨6,?_,by decide⟩
  show wv (1,1) = _
  rw [wv_11,c6]
  grind
 ·refine ⟨0,?_,btz⟩
  show (0:Rat) = _
  rw [c0]
  grind
def spLaw (K:PySem.W.Frag):Sp:=fun vs H Q _=>∃ (a:Addr) (ns:List Int),vs = [.ref a] /\ ScrOk K H a (ns.map V.int) /\ ns.length <= 63 /\ ∀ H',Q (.bl true) H'
theorem ok_law (F:Fun K "law" "law" s_law f fd) (T:Txt K mg)
  (zCstate:Cal P w K mg base "_law_state" ["_law_script", "_law_k"] 2 (zPstate K)) (zCcrowd:Cal P w K mg base "_law_crowd" ["_law_state_here", "_law_most"] 4 (zPcrowd K)) (zCflock_of:Cal P w K mg base "_law_flock_of" ["_law_crowd_here"] 5 (zPflock_of K)) (zCquadratic:Cal P w K mg base "_law_quadratic" ["_law_state_here"] 4 (zPquadratic K)) (zCquadratic_due:Cal P w K mg base "_law_quadratic_due" ["_law_roots", "_law_weights"] 4 (zPquadratic_due K)) (zCclean:Cal P w K mg base "_law_clean" ["_law_numbers"] 1 (zPclean K)) (C_is_flock:Cal P w K mg base "is_flock" ["thing"] 7 (sp_is_flock K)) (zCtilted:Cal P w K mg base "_law_tilted" ["_law_state_here", "_law_crowd_here"] 2 (zPtilted K)) (zCbent:Cal P w K mg base "_law_bent" ["_law_state_here", "_law_flock"] 2 (zPbent K)):FnOk P w K mg base CX0 8 f fd ["_law_script"] (spLaw K):=by
 have scN:=sc_law.nd
 refine F.okQ sc_law (fun vs H Q E h=>?_) (fun cdv A outer s H vs Q E hr h=>?_)
 ·obtain ⟨a,_,rfl,_⟩:=h
  rfl
 ·obtain ⟨a,ns,rfl,hS,hl,h⟩:=h
  refine ⟨_,(qss_cut (qs_for PassesOwn.never rfl (qi_range1 rfl T.b_range (qa_cons (qe_callB (call_max2 rfl) (by rfl) T.b_max bt_max (qa_cons qe_int (qa_cons (qe_callB (call_min2 rfl) (by rfl) T.b_min bt_min (qa_cons (qe_callB call_len_seq (by rfl) T.b_len bt_len (qa_cons (qv 0) qa_nil)) (qa_cons qe_int qa_nil))) qa_nil))) qa_nil)) (qg_name (i:=1) scN rfl (by walk_at "a1")) (qss_cons (qs_set (i:=2) scN rfl (by walk_at "a1") (qe_cal zCstate (hr.mono (by walk_at "a2")) rfl (qa_cons (qv 0) (qa_cons (qv 1) qa_nil))))
   (qss_cons (qs_asg (qe_cal zCquadratic (hr.mono (by walk_at "a2")) rfl (qa_cons (qv 2) qa_nil)) (qg_tupH (n:=2) rfl (qgs_cons (qg_name (i:=3) scN rfl (by walk_at "a1")) (qgs_cons (qg_name (i:=4) scN rfl (by walk_at "a1")) qgs_nil))))
   (qss_cons (qs_set (i:=4) scN rfl (by walk_at "a1") (qe_cal zCclean (hr.mono (by walk_at "a2")) rfl (qa_cons (qv 4) qa_nil)))
   (qss_cons (qs_set (i:=5) scN rfl (by walk_at "a1") (qe_cal C_is_flock (hr.mono (by walk_at "a2")) rfl (qa_cons (qe_tupS (qa_cons (qv 3) (qa_cons (qv 4) qa_nil))) qa_nil)))
   (qss_cons (qs_set (i:=6) scN rfl (by walk_at "a1") (qe_cal zCquadratic_due (hr.mono (by walk_at "a2")) rfl (qa_cons (qv 3) (qa_cons (qe_slice sl_listS (qe_op op_Plus (qv 4) (qe_op op_Mul (qe_lstS (qa_cons (qe_tupS (qa_cons qe_int (qa_cons qe_int qa_nil))) qa_nil)) qe_int)) qo_none (qo_some qe_int)) qa_nil))))
   (qss_cons (qs_if (QW.pt (qw_or (qt_not (qt_val (qe_callB call_isinst (by rfl) T.b_isinstance bt_isinstance (qa_cons (qv 5) (qa_cons (qe_bltn (v:=V.ty "bool") rfl T.b_bool bt_bool rfl) qa_nil))))) (qw_or1 (qt_cmpR op_ne (qv 5) (qv 6) (nomark _))))) (qss_one (qs_ret qe_bl)) qss_nil)
   (qss_cons (qs_set (i:=7) scN rfl (by walk_at "a1") (qe_cal zCcrowd (hr.mono (by walk_at "a2")) rfl (qa_cons (qv 2) (qa_cons qe_int qa_nil))))
   (qss_cons (qs_set (i:=8) scN rfl (by walk_at "a1") (qe_cal zCflock_of (hr.mono (by walk_at "a2")) rfl (qa_cons (qv 7) qa_nil)))
   (qss_cons (qs_if (QW.pt (qw_or (qt_cmpR op_isnotB (qe_cal C_is_flock (hr.mono (by walk_at "a2")) rfl (qa_cons (qv 8) qa_nil)) qe_bl (nomark _)) (qw_or1 (qt_cmpR op_ne (qe_cal C_is_flock (hr.mono (by walk_at "a2")) rfl (qa_cons (qe_cal zCflock_of (hr.mono (by walk_at "a2")) rfl (qa_cons (qe_cal zCtilted (hr.mono (by walk_at "a2")) rfl (qa_cons (qv 2) (qa_cons (qv 7) qa_nil))) qa_nil)) qa_nil)) (qe_cmpR (op_eqNil hr.ul) (qv 7) (qe_lstS qa_nil) (nomark _)) (nomark _))))) (qss_one (qs_ret qe_bl)) qss_nil)
   (qss_one (qs_if (qt_cmpR op_isnotB (qe_cal C_is_flock (hr.mono (by walk_at "a2")) rfl (qa_cons (qe_cal zCbent (hr.mono (by walk_at "a2")) rfl (qa_cons (qv 2) (qa_cons (qv 8) qa_nil))) qa_nil)) qe_bl (nomark _)) (qss_one (qs_ret qe_bl)) qss_nil))))))))))))
   (qss_cons (qs_set (i:=9) scN rfl (by walk_at "a1") (qe_cal zCflock_of (hr.mono (by walk_at "a2")) rfl (qa_cons (qe_comp (own:=["_law_at"]) (outs:=[]) (ixs:=[]) rfl (qi_range1 rfl T.b_range (qa_cons qe_int qa_nil)) rfl ⟨rfl,rfl,rfl,trivial,rfl,trivial⟩ (fun _ _ _ _=>⟨(qg_name (i:=0) (show (["_law_at"]:List Str).Nodup by decide +kernel) rfl (by walk_at "a1")),qf_nil,(show QE _ _ (tTupS K _) from qe_tupS (qa_cons (show QE _ _ (tTupS K _) from qe_tupS (qa_cons (qv 0) (qa_cons qe_int qa_nil))) (qa_cons (show QE _ _ (tTupS K _) from qe_tupS (qa_cons qe_int (qa_cons qe_int qa_nil))) qa_nil)))⟩)) qa_nil)))
   (qss_one (qs_ret (qe_and (qe_cmpR op_isB (qe_cal C_is_flock (hr.mono (by walk_at "a2")) rfl (qa_cons (qv 9) qa_nil)) qe_bl (nomark _)) (qe_one (qe_cmpR op_isB (qe_cal C_is_flock (hr.mono (by walk_at "a2")) rfl (qa_cons (qe_tupS (qa_cons (qe_lstS (qa_cons (qe_tupS (qa_cons qe_int (qa_cons qe_int qa_nil))) qa_nil)) (qa_cons (qe_lstS qa_nil) qa_nil))) qa_nil)) qe_bl (nomark _)))))))),?_⟩
  walk_at "m"
  skip
  refine tCut.mk (fun σ H2=>∃ o1 o2 o3 o4 o5 o6 o7 o8 o9,σ = [some (.ref a),o1,o2,o3,o4,o5,o6,o7,o8,o9]) ?_ ?_
  ·walk_at "vc"
   refine ⟨_,.inl hS.sq,?_⟩
   simp only [List.length_map]
   obtain ⟨Pv,hPv⟩ : ∃ Pv:Nat -> St -> Hp -> Prop,∀ k σ H',Pv k σ H' ↔ ∃ o1 o2 o3 o4 o5 o6 o7 o8 o9,σ = [some (.ref a),o1,o2,o3,o4,o5,o6,o7,o8,o9] /\ Same (vw K H) (vw K H'):=⟨_,fun _ _ _=>Iff.rfl⟩
   refine ⟨by repeat' split <;> walk_at "o",by repeat' split <;> walk_at "o",for_items (its:=iots 0 _) Pv (fun _ _ _ _ _=>items_range) ((hPv _ _ _).mpr ⟨_,_,_,_,_,_,_,_,_,rfl,.rfl⟩) (fun i x σ H1 hi hx pv=>?_) (fun σ H1 pv=>?_)⟩
   ·obtain ⟨o1,o2,o3,o4,o5,o6,o7,o8,o9,rfl,s1⟩:=(hPv _ _ _).mp pv
    obtain ⟨hi',rfl⟩:=iots_at hx
    refine tSeq.gen fun N1 hN1=>?_
    walk_at "vc"
    simp only [zPstate]
    walk_at "vc"
    refine ⟨⟨i,by simp⟩,⟨ns,hS.same s1⟩,fun st H2 hst0 s2 st2=>hN1 _ _ ?_⟩
    refine tSeq.gen fun N2 hN2=>?_
    walk_at "vc"
    simp only [zPquadratic]
    refine ⟨st,rfl,st2,fun p3 c3 d3 H3 q0 p0 a0 b0 B3 st3 h3 l3 l3' hq=>⟨p3,rfl,_,h3,rfl,_,_,rfl,_,_,rfl,rfl,hN2 _ _ ?_⟩⟩
    obtain ⟨fq0,bq0,sq0⟩:=hq q0 (by simp)
    obtain ⟨fp0,bp0,sp0⟩:=hq p0 (by simp)
    obtain ⟨fa0,ba0,sa0⟩:=hq a0 (by simp)
    obtain ⟨fb0,bb0,sb0⟩:=hq b0 (by simp)
    have fab:∀ q ∈ [a0,b0],Fq q:=fun q hq'=>by
     rcases List.mem_cons.mp hq' with rfl | hq'
     ·exact fa0
     ·rw [List.mem_singleton] at hq'
      subst hq'
      exact fb0
    refine tSeq.gen fun N3 hN3=>?_
    walk_at "vc"
    simp only [zPclean]
    refine ⟨d3,[a0,b0],rfl,l3',fun e4 H4 m hm hz hdr he4 S4 l4=>hN3 _ _ ?_⟩
    have ct:∀ k,cf ([a0,b0].take m) k = cf [a0,b0] k:=cf_take fab hdr
    have lt2:([a0,b0].take m).length <= 2:=by rw [List.length_take]; show min m 2 <= 2; walk_at "o"
    have B04:But st (vw K H1) (vw K H4):=((But.of s2).trans B3).same_trans S4
    have st4:=st3.same S4
    refine tSeq.gen fun N4 hN4=>?_
    walk_at "vc"
    simp only [sp_is_flock]
    refine ⟨by decide,fun p5 H5 hp5 S5 h5=>?_⟩
    have r5:Rep (vw K H5) (.tup [pl [q0,p0,(1,1)],pl ([a0,b0].take m)]) (.ref p5):=.mk_tup h5 (.mk_cons ((l3.same (S4.trans S5)).rep) (.mk_cons (l4.same S5).rep .mk_nil))
    refine ⟨_,_,rfl,r5,.inr ⟨[q0,p0,(1,1)],[a0,b0].take m,2,rfl,by decide,rfl,poly3 fq0 fp0,?_,lt2,rfl,(pb_sx3 sq0 sp0 (by decide)).mono (by decide),((pb_sx2 (b:=36) sa0 sb0 (by decide)).congr ct).mono (by decide),fun z H6 S6 bl=>hN4 _ _ ?_⟩⟩
    ·exact ⟨fun q hq'=>fab q (List.mem_of_mem_take hq'),hz⟩
    have td:=two_told ct bl
    obtain ⟨fb,hfb⟩ : ∃ fb,fb = decide (z = ((2:Nat):Int)):=⟨_,rfl⟩
    rw [<- hfb] at td ⊢
    have S46:=S5.trans S6
    refine tSeq.gen fun N5 hN5=>?_
    walk_at "vc"
    simp only [zPquadratic_due]
    refine ⟨by decide,fun p7 H7 hp7 S7 h7=>⟨by decide,fun p8 H8 hp8 S8 h8=>?_⟩⟩
    simp only [rMul_rep]
    have S48:=S46.trans (S7.trans S8)
    obtain ⟨ws4,hw4,rw4⟩:=id (l4.same S48)
    have lw4:ws4.length <= 2:=by rw [rw4.length,List.length_map]; exact lt2
    have sz:1000 <= sizeLine:=by decide
    refine ⟨_,h8,by decide,by decide,(by show 1 * 2 <= sizeLine; decide),fun p9 H9 hp9 S9 h9=>?_⟩
    simp only [rPlus_cat]
    refine ⟨ws4,S9 _ _ hw4,_,h9,by simp; walk_at "o",fun p10 H10 hp10 S10 h10=>⟨p10,rfl,_,h10,fun p11 H11 hp11 S11 h11=>?_⟩⟩
    have S411:=S48.trans (S9.trans (S10.trans S11))
    have l11:LsAt (vw K H11) p11 [a0,b0]:=by
     refine ⟨_,h11,?_⟩
     have e:=cut_to (xs:=ws4 ++ (List.replicate (Int.toNat 2) [V.ref p7]).flatten) (k:=2) (by simp)
     rw [show ((2:Nat):Int) = 2 from rfl] at e
     rw [e,<- pad_two fa0 fb0 hm hdr,List.map_take,List.map_append]
     have r7:Rep (vw K H11) (fr (0,1)) (.ref p7):=rep_pair ((S8.trans (S9.trans (S10.trans S11))) _ _ h7)
     exact ((rw4.same (S9.trans (S10.trans S11))).app (.mk_cons r7 (.mk_cons r7 .mk_nil))).take 2
    refine ⟨c3,p11,q0,p0,a0,b0,rfl,l3.same (S4.trans S411),l11,hq,fun due H12 S12 td'=>hN5 _ _ ?_⟩
    have ed:due = fb:=by
     rw [Bool.eq_iff_iff,td,td']
    subst ed
    have S412:=S411.trans S12
    have st12:=st4.same S412
    have B12:=B04.same_trans S412
    clear hN1 hN2 hN3 hN4 hN5 N1 N2 N3 N4 N5
    refine tSeq.gen fun N6 hN6=>?_
    walk_at "vc"
    refine ⟨_,rfl,iteN (by decide) (hN6 _ _ ?_)⟩
    refine tSeq.gen fun N7 hN7=>?_
    walk_at "vc"
    simp only [zPcrowd]
    refine ⟨st,4,rfl,by decide,st12,fun ca H13 cs B13 st13 lc f3 b3 x3 inc nc nca=>hN7 _ _ ?_⟩
    have fc:∀ c ∈ cs,Fq c.1 /\ Fq c.2:=fun c hc=>⟨(f3 c hc).1,(f3 c hc).2.1⟩
    have nd:=spots_nodup fc inc
    refine tSeq.gen fun N8 hN8=>?_
    walk_at "vc"
    simp only [zPflock_of]
    refine ⟨ca,cs,rfl,lc,by walk_at "o",fc,x3,inc,fun p14 c14 d14 H14 rs ws S14 h14 l14 l14' pr' pw hl14 n14 n14' b14 e1 e2 e3=>hN8 _ _ ?_⟩
    obtain ⟨br,bw⟩:=b14 nc
    have r14:Rep (vw K H14) (.tup [pl rs,pl ws]) (.ref p14):=.mk_tup h14 (.mk_cons l14.rep (.mk_cons l14'.rep .mk_nil))
    have B14:But st (vw K H1) (vw K H14):=(B12.trans B13).same_trans S14
    have st14:=st13.same S14
    clear hN6 hN7 hN8 N6 N7 N8
    refine tSeq.gen fun N9 hN9=>?_
    walk_at "vc"
    simp only [sp_is_flock]
    refine ⟨_,_,rfl,r14,.inr ⟨rs,ws,cs.length,rfl,by walk_at "o",n14,pr',pw,n14',hl14,br,bw.mono (by decide),fun z H15 S15 bl=>?_⟩⟩
    have ez:=(crowd_told (by walk_at "o") nd (by walk_at "o") e1 e2 e3 bl).mpr fun c hc=>(num_pos (fc c hc).2).mp (f3 c hc).2.2
    rw [decide_eq_true ez]
    refine ⟨true,rfl,iteN (by decide) ?_⟩
    simp only [zPtilted]
    refine ⟨st,ca,cs,rfl,st14.same S15,(lc.same S14).same S15,nc,fun b16 H16 k wq B16 st16 l16 kl hw=>?_⟩
    have l16:FlAt (vw K H16) b16 ((tilt cs k wq).map spt):=l16
    obtain ⟨fw,xw,nw⟩:=tw_facts hw
    simp only [zPflock_of]
    have mt:∀ c ∈ tilt cs k wq,∃ d ∈ cs,c.1 = d.1 /\ (c.2 = wq \/ c.2 = d.2):=fun c hc=>by
     obtain ⟨j,hj⟩:=List.getElem?_of_mem hc
     obtain ⟨d,hd,e⟩:=tilt_at hj
     exact ⟨d,List.mem_of_getElem? hd,e⟩
    have fct:∀ c ∈ tilt cs k wq,Fq c.1 /\ Fq c.2:=fun c hc=>by
     obtain ⟨d,hd,e1,e2⟩:=mt c hc
     refine ⟨by rw [e1]; exact (fc d hd).1,?_⟩
     rcases e2 with e2 | e2 <;> rw [e2]
     ·exact fw
     ·exact (fc d hd).2
    have xct:∀ c ∈ tilt cs k wq,Sx 300 c.1 /\ Sx 36 c.2:=fun c hc=>by
     obtain ⟨d,hd,e1,e2⟩:=mt c hc
     refine ⟨by rw [e1]; exact (x3 d hd).1,?_⟩
     rcases e2 with e2 | e2 <;> rw [e2]
     ·exact xw
     ·exact (x3 d hd).2
    have inct:∀ i c d,(tilt cs k wq)[i]? = some c -> (tilt cs k wq)[i + 1]? = some d -> ltq c.1 d.1 = true:=fun i c d h1 h2=>by
     obtain ⟨c',hc,e1,_⟩:=tilt_at h1
     obtain ⟨d',hd,e2,_⟩:=tilt_at h2
     rw [e1,e2]
     exact inc i c' d' hc hd
    have lt:=tilt_len (cs:=cs) (k:=k) (w:=wq)
    refine ⟨b16,tilt cs k wq,rfl,l16,by walk_at "o",fct,xct,inct,fun p17 c17 d17 H17 rt wt S17 h17 l17 l17' prt pwt hl17 n17 n17' b17 t1 t2 t3=>?_⟩
    obtain ⟨brt,bwt⟩:=b17 (by walk_at "o")
    refine ⟨_,_,rfl,.mk_tup h17 (.mk_cons l17.rep (.mk_cons l17'.rep .mk_nil)),.inr ⟨rt,wt,(tilt cs k wq).length,rfl,by walk_at "o",n17,prt,pwt,n17',hl17,brt,bwt.mono (by decide),fun zt H18 S18 blt=>?_⟩⟩
    have et:=crowd_told (by walk_at "o") (spots_nodup fct inct) (by walk_at "o") t1 t2 t3 blt
    have S1518:=S17.trans S18
    have lc18:=(((lc.same S14).same S15).stBut (spts_flat cs) (spts_no cs) (st14.same S15) B16).same S1518
    obtain ⟨xs,hxs,rxs⟩:=id lc18
    have lx:xs.length = cs.length:=by rw [rxs.length,List.length_map]
    refine ⟨by decide,fun p19 H19 hp19 S19 h19=>⟨p19,rfl,xs,S19 _ _ hxs,h19,rfl,iteN ?_ (hN9 _ _ ?_)⟩⟩
    ·have:decide (zt = ((tilt cs k wq).length:Int)) = xs.isEmpty:=by
      by_cases c0:cs = []
      ·have x0:xs = []:=List.length_eq_zero_iff.mp (by rw [lx,c0]; rfl)
       rw [x0,decide_eq_true (et.mpr fun c hc=>by subst c0; cases hc)]
       rfl
      ·rw [decide_eq_false fun y=>tilt_bad (kl c0) nw (et.mp y)]
       cases xs with
       | nil=>exact absurd (List.length_eq_zero_iff.mp lx.symm) c0
       | cons _ _=>rfl
     rw [this]
     simp
    have S1619:=S1518.trans S19
    have B1419:But st (vw K H14) (vw K H19):=((But.of S15).trans B16).same_trans S1619
    have st19:=st16.same S1619
    have n14t:p14 ≠ st:=fun e=>by
     obtain ⟨_,_,zz,_⟩:=st14
     rw [<- e,h14] at zz
     cases zz
    walk_at "vc"
    simp only [zPbent]
    refine ⟨st,p14,c14,d14,rs,ws,rfl,st19,B1419 _ _ n14t h14,l14.stBut st14 B1419,l14'.stBut st14 B1419,by walk_at "o",by walk_at "o",hl14,pr'.1,pw.1,fun v20 H20 d20 B20 st20 r20 k20=>?_⟩
    simp only [sp_is_flock]
    have B020:But st (vw K H1) (vw K H20):=B14.trans (B1419.trans B20)
    have fin:∀ H',Same (vw K H20) (vw K H') -> Same (vw K H1) (vw K H'):=fun H' S x o e=>S _ _ (B020 _ _ (ne_of_none e hst0) e)
    refine ⟨v20,d20,rfl,r20,?_⟩
    rcases k20 with k20 | rfl
    ·exact .inl ⟨k20,fun H21 S21=>⟨false,rfl,iteN (by decide) ((hPv _ _ _).mpr ⟨_,_,_,_,_,_,_,_,_,rfl,s1.trans (fin H21 S21)⟩)⟩⟩
    ·have f01:Fq (0,1):=⟨by decide,by decide⟩
     have s01:Sx 36 (0,1):=(tw_facts (by simp)).2.1
     have c6:((6:Int):Rat) = 6:=rfl
     have s11:Sx 36 (1,1):=⟨6,by rw [wv_11,c6]; grind,by decide⟩
     refine .inr ⟨[(0,1),(0,1),(1,1)],[(1,1)],2,rfl,by decide,rfl,poly3 f01 f01,poly_11,by decide,rfl,(pb_sx3 s01 s01 (by decide)).mono (by decide),(pb_sx1 s11 (by decide)).mono (by decide),fun z H21 S21 bl=>⟨_,rfl,?_⟩⟩
     have td:=two_told (a0:=(1,1)) (b0:=(0,1)) (fun k=>(cf_take (qs:=[(1,1),(0,1)]) (n:=1) (fun q hq'=>by
      rcases List.mem_cons.mp hq' with rfl | hq'
      ·exact fq_11
      ·rw [List.mem_singleton] at hq'
       subst hq'
       exact f01) (fun q hq'=>by
      cases List.mem_singleton.mp hq'
      rfl) k)) bl
     have no:¬ QD (wv (0,1)) (wv (0,1)) (wv (1,1)) (wv (0,1)):=fun y=>by
      have y:=y.1
      rw [wv_i,show ((0:Int):Rat) = 0 from rfl] at y
      grind
     rw [show decide (z = ((2:Nat):Int)) = false from by
      rw [<- Bool.not_eq_true]
      exact fun y=>no (td.mp y)]
     exact iteN (by decide) ((hPv _ _ _).mpr ⟨_,_,_,_,_,_,_,_,_,rfl,s1.trans (fin H21 S21)⟩)
   ·obtain ⟨o1,o2,o3,o4,o5,o6,o7,o8,o9,rfl,s1⟩:=(hPv _ _ _).mp pv
    walk_at "vc"
  ·rintro σ H2 ⟨o1,o2,o3,o4,o5,o6,o7,o8,o9,rfl⟩
   walk_at "vc"
   refine ⟨by decide,by decide,fun d3 H3 hd3 S3 h3=>?_⟩
   obtain ⟨cs,hcs⟩ : ∃ cs:List Spt,cs = (List.range 7).map fun n=>(((n:Nat):Int),(1:Int),((1:Int),(1:Int))) |> fun x=>((x.1,x.2.1),x.2.2):=⟨_,rfl⟩
   have cat:∀ {j:Nat},j < 7 -> cs[j]? = some ((((j:Nat):Int),(1:Int)),((1:Int),(1:Int))):=fun {j} hj=>by
    rw [hcs,List.getElem?_map,List.getElem?_range hj]
    rfl
   have l7:cs.length = 7:=by rw [hcs]; simp
   refine comp_items (its:=iots 0 (Int.toNat 7)) (fun j zs H'=>Same (vw K H2) (vw K H') /\ Reps (vw K H') ((cs.take j).map spt) zs) (fun _ _ _ _ _ _=>items_range) h3 ⟨S3,.mk_nil⟩ (fun j x zs H' hj hx h' z=>?_) (fun zs H4 h4 z=>?_)
   ·obtain ⟨z1,rz⟩:=z
    obtain ⟨hj',rfl⟩:=iots_at hx
    walk_at "vc"
    refine ⟨by decide,fun p5 H5 hp5 S5 h5=>⟨by decide,fun p6 H6 hp6 S6 h6=>⟨by decide,fun p7 H7 hp7 S7 h7=>?_⟩⟩⟩
    have S57:=S5.trans (S6.trans S7)
    rw [Int.zero_add] at h5
    refine .mk (S57 _ _ h') ?_ fun H8 B8 h8=>⟨fun y o e=>B8 _ _ (ne_of_none e hd3) (S57 _ _ (z1 _ _ e)),?_⟩
    ·rw [rz.length,List.length_map,List.length_take]
     have:1000 <= sizeLine:=by decide
     walk_at "o"
    ·rw [List.take_add_one,cat (by walk_at "o")]
     refine Reps.flat_but (S57 _ _ h') B8 _ _ (spts_flat _) ?_
     rw [List.map_append]
     exact (rz.same S57).app (.mk_cons (.mk_tup h7 (.mk_cons (rep_pair ((S6.trans S7) _ _ h5)) (.mk_cons (rep_pair (S7 _ _ h6)) .mk_nil))) .mk_nil)
   obtain ⟨z1,rz⟩:=z
   rw [iots_len,List.take_of_length_le (by rw [l7]; decide)] at rz
   have mem:∀ c ∈ cs,∃ j:Nat,j < 7 /\ c = ((((j:Nat):Int),(1:Int)),((1:Int),(1:Int))):=fun c hc=>by
    obtain ⟨j,hj⟩:=List.getElem?_of_mem hc
    have jl:=(List.getElem?_eq_some_iff.mp hj).1
    rw [cat (by walk_at "o")] at hj
    cases hj
    exact ⟨j,by walk_at "o",rfl⟩
   have c6:((6:Int):Rat) = 6:=rfl
   have s11:Sx 36 (1,1):=⟨6,by rw [wv_11,c6]; grind,by decide⟩
   simp only [zPflock_of]
   refine ⟨d3,cs,rfl,⟨zs,h4,rz⟩,by walk_at "o",fun c hc=>?_,fun c hc=>?_,fun i c d e1 e2=>?_,fun p5 c5 d5 H5 rs ws S5 h5 l5 l5' pr' pw hl n5 n5' b5 e1 e2 e3=>?_⟩
   ·obtain ⟨j,_,rfl⟩:=mem c hc
    exact ⟨⟨show (0:Int) < 1 by decide,by simp [Int.gcd]⟩,fq_11⟩
   ·obtain ⟨j,hj,rfl⟩:=mem c hc
    refine ⟨⟨6 * (j:Int),?_,by walk_at "o"⟩,s11⟩
    rw [wv_i,Rat.intCast_mul,c6]
    grind
   ·have jl:=(List.getElem?_eq_some_iff.mp e2).1
    rw [cat (by walk_at "o")] at e1 e2
    cases e1
    cases e2
    unfold ltq
    exact decide_eq_true (by show ((i:Nat):Int) * 1 < ((i + 1:Nat):Int) * 1; walk_at "o")
   simp only [sp_is_flock]
   refine ⟨_,_,rfl,.mk_tup h5 (.mk_cons l5.rep (.mk_cons l5'.rep .mk_nil)),.inl ⟨flk_seven (by walk_at "o"),fun H6 S6=>⟨false,rfl,iteP rfl ⟨by decide,fun p7 H7 hp7 S7 h7=>⟨by decide,fun p8 H8 hp8 S8 h8=>⟨by decide,fun p9 H9 hp9 S9 h9=>⟨by decide,fun p10 H10 hp10 S10 h10=>?_⟩⟩⟩⟩⟩⟩⟩
   have r10:Rep (vw K H10) (.tup [pl [(1,1)],pl []]) (.ref p10):=.mk_tup h10 (.mk_cons (.mk_lst ((S9.trans S10) _ _ h8) (.mk_cons (rep_pair ((S8.trans (S9.trans S10)) _ _ h7)) .mk_nil)) (.mk_cons (.mk_lst (S10 _ _ h9) .mk_nil) .mk_nil))
   refine ⟨_,_,rfl,r10,.inr ⟨[(1,1)],[],0,rfl,by decide,rfl,poly_11,poly_nil,by decide,rfl,(pb_sx1 s11 (by decide)).mono (by decide),pb_nil (by decide),fun z H11 S11 bl=>⟨_,rfl,?_⟩⟩⟩
   rw [decide_eq_true (show z = ((0:Nat):Int) from bl.nil)]
   exact h _
end
theorem all_mk {l:PySem.W.OpenLaw} {w:World} {K:PySem.W.Frag} {h:Heap} {mg:Str -> Option Value} {fa f0 f1 f2 f3 f4 f5 f6 f7 f8 f9 f10 f11 f12 f13 f14 f15 f16 f17 f18 f19 f20 f21 f22 f23 f24 f25 f26 f27 f28 f29 f30 f31 f32 f33 f34 f35 f36 f37 f38 f39:Addr} (X:K.In h) (G:h.Ns mainGlobals mg) (hfa:mg "law" = some (.ref fa)) (hst:l.prog.given.tree = none)
  {od0 an0 od1 an1 od2 an2 od3 an3 od4 an4 od5 an5 od6 an6 od7 an7 od8 an8 od9 an9 od10 an10 od11 an11 od12 an12 od13 an13 od14 an14 od15 an15 od16 an16 od17 an17 od18 an18 od19 an19 od20 an20 od21 an21 od22 an22 od23 an23 od24 an24 od25 an25 od26 an26 od27 an27 od28 an28 od29 an29 od30 an30 od31 an31 od32 an32 od33 an33 od34 an34 od35 an35 od36 an36 od37 an37 od38 an38 od39 an39:Option Addr} {sl0 sl1 sl2 sl3 sl4 sl5 sl6 sl7 sl8 sl9 sl10 sl11 sl12 sl13 sl14 sl15 sl16 sl17 sl18 sl19 sl20 sl21 sl22 sl23 sl24 sl25 sl26 sl27 sl28 sl29 sl30 sl31 sl32 sl33 sl34 sl35 sl36 sl37 sl38 sl39:Array (Option Value)}
  {oc0 kV0 dc0 pm0 cd0 ct0 oc1 kV1 dc1 pm1 cd1 ct1 oc2 kV2 dc2 pm2 cd2 ct2 oc3 kV3 dc3 pm3 cd3 ct3 oc4 kV4 dc4 pm4 cd4 ct4 oc5 kV5 dc5 pm5 cd5 ct5 oc6 kV6 dc6 pm6 cd6 ct6 oc7 kV7 dc7 pm7 cd7 ct7 oc8 kV8 dc8 pm8 cd8 ct8 oc9 kV9 dc9 pm9 cd9 ct9 oc10 kV10 dc10 pm10 cd10 ct10 oc11 kV11 dc11 pm11 cd11 ct11 oc12 kV12 dc12 pm12 cd12 ct12 oc13 kV13 dc13 pm13 cd13 ct13 oc14 kV14 dc14 pm14 cd14 ct14 oc15 kV15 dc15 pm15 cd15 ct15 oc16 kV16 dc16 pm16 cd16 ct16 oc17 kV17 dc17 pm17 cd17 ct17 oc18 kV18 dc18 pm18 cd18 ct18 oc19 kV19 dc19 pm19 cd19 ct19 oc20 kV20 dc20 pm20 cd20 ct20 oc21 kV21 dc21 pm21 cd21 ct21 oc22 kV22 dc22 pm22 cd22 ct22 oc23 kV23 dc23 pm23 cd23 ct23 oc24 kV24 dc24 pm24 cd24 ct24 oc25 kV25 dc25 pm25 cd25 ct25 oc26 kV26 dc26 pm26 cd26 ct26 oc27 kV27 dc27 pm27 cd27 ct27 oc28 kV28 dc28 pm28 cd28 ct28 oc29 kV29 dc29 pm29 cd29 ct29 oc30 kV30 dc30 pm30 cd30 ct30 oc31 kV31 dc31 pm31 cd31 ct31 oc32 kV32 dc32 pm32 cd32 ct32 oc33 kV33 dc33 pm33 cd33 ct33 oc34 kV34 dc34 pm34 cd34 ct34 oc35 kV35 dc35 pm35 cd35 ct35 oc36 kV36 dc36 pm36 cd36 ct36 oc37 kV37 dc37 pm37 cd37 ct37 oc38 kV38 dc38 pm38 cd38 ct38 oc39 kV39 dc39 pm39 cd39 ct39:Value}
  (a0:PySem.W.nsIn K mainGlobals "is_whole" = some (some (.ref f0))) (l0:K.lookup f0 = some ⟨oc0,od0,.func (PySem.W.fnOf "is_whole" "is_whole" (defArgs s_is_whole) (defBody s_is_whole) (defScope s_is_whole) .none kV0 dc0 pm0 an0 cd0 ct0),sl0⟩) (c0:PySem.W.codeIn K cd0 "is_whole" = true) (k0:PySem.W.keepIn K (.ref f0) = true)
  (a1:PySem.W.nsIn K mainGlobals "greatest_divisor" = some (some (.ref f1))) (l1:K.lookup f1 = some ⟨oc1,od1,.func (PySem.W.fnOf "greatest_divisor" "greatest_divisor" (defArgs s_greatest_divisor) (defBody s_greatest_divisor) (defScope s_greatest_divisor) .none kV1 dc1 pm1 an1 cd1 ct1),sl1⟩) (c1:PySem.W.codeIn K cd1 "greatest_divisor" = true) (k1:PySem.W.keepIn K (.ref f1) = true)
  (a2:PySem.W.nsIn K mainGlobals "sign_of" = some (some (.ref f2))) (l2:K.lookup f2 = some ⟨oc2,od2,.func (PySem.W.fnOf "sign_of" "sign_of" (defArgs s_sign_of) (defBody s_sign_of) (defScope s_sign_of) .none kV2 dc2 pm2 an2 cd2 ct2),sl2⟩) (c2:PySem.W.codeIn K cd2 "sign_of" = true) (k2:PySem.W.keepIn K (.ref f2) = true)
  (a3:PySem.W.nsIn K mainGlobals "power" = some (some (.ref f3))) (l3:K.lookup f3 = some ⟨oc3,od3,.func (PySem.W.fnOf "power" "power" (defArgs s_power) (defBody s_power) (defScope s_power) .none kV3 dc3 pm3 an3 cd3 ct3),sl3⟩) (c3:PySem.W.codeIn K cd3 "power" = true) (k3:PySem.W.keepIn K (.ref f3) = true)
  (a4:PySem.W.nsIn K mainGlobals "trimmed" = some (some (.ref f4))) (l4:K.lookup f4 = some ⟨oc4,od4,.func (PySem.W.fnOf "trimmed" "trimmed" (defArgs s_trimmed) (defBody s_trimmed) (defScope s_trimmed) .none kV4 dc4 pm4 an4 cd4 ct4),sl4⟩) (c4:PySem.W.codeIn K cd4 "trimmed" = true) (k4:PySem.W.keepIn K (.ref f4) = true)
  (a5:PySem.W.nsIn K mainGlobals "lowered" = some (some (.ref f5))) (l5:K.lookup f5 = some ⟨oc5,od5,.func (PySem.W.fnOf "lowered" "lowered" (defArgs s_lowered) (defBody s_lowered) (defScope s_lowered) .none kV5 dc5 pm5 an5 cd5 ct5),sl5⟩) (c5:PySem.W.codeIn K cd5 "lowered" = true) (k5:PySem.W.keepIn K (.ref f5) = true)
  (a6:PySem.W.nsIn K mainGlobals "wholes_multiplied" = some (some (.ref f6))) (l6:K.lookup f6 = some ⟨oc6,od6,.func (PySem.W.fnOf "wholes_multiplied" "wholes_multiplied" (defArgs s_wholes_multiplied) (defBody s_wholes_multiplied) (defScope s_wholes_multiplied) .none kV6 dc6 pm6 an6 cd6 ct6),sl6⟩) (c6:PySem.W.codeIn K cd6 "wholes_multiplied" = true) (k6:PySem.W.keepIn K (.ref f6) = true)
  (a7:PySem.W.nsIn K mainGlobals "wholes_slope" = some (some (.ref f7))) (l7:K.lookup f7 = some ⟨oc7,od7,.func (PySem.W.fnOf "wholes_slope" "wholes_slope" (defArgs s_wholes_slope) (defBody s_wholes_slope) (defScope s_wholes_slope) .none kV7 dc7 pm7 an7 cd7 ct7),sl7⟩) (c7:PySem.W.codeIn K cd7 "wholes_slope" = true) (k7:PySem.W.keepIn K (.ref f7) = true)
  (a8:PySem.W.nsIn K mainGlobals "wholes_parted" = some (some (.ref f8))) (l8:K.lookup f8 = some ⟨oc8,od8,.func (PySem.W.fnOf "wholes_parted" "wholes_parted" (defArgs s_wholes_parted) (defBody s_wholes_parted) (defScope s_wholes_parted) .none kV8 dc8 pm8 an8 cd8 ct8),sl8⟩) (c8:PySem.W.codeIn K cd8 "wholes_parted" = true) (k8:PySem.W.keepIn K (.ref f8) = true)
  (a9:PySem.W.nsIn K mainGlobals "wholes_rests" = some (some (.ref f9))) (l9:K.lookup f9 = some ⟨oc9,od9,.func (PySem.W.fnOf "wholes_rests" "wholes_rests" (defArgs s_wholes_rests) (defBody s_wholes_rests) (defScope s_wholes_rests) .none kV9 dc9 pm9 an9 cd9 ct9),sl9⟩) (c9:PySem.W.codeIn K cd9 "wholes_rests" = true) (k9:PySem.W.keepIn K (.ref f9) = true)
  (a10:PySem.W.nsIn K mainGlobals "is_fraction" = some (some (.ref f10))) (l10:K.lookup f10 = some ⟨oc10,od10,.func (PySem.W.fnOf "is_fraction" "is_fraction" (defArgs s_is_fraction) (defBody s_is_fraction) (defScope s_is_fraction) .none kV10 dc10 pm10 an10 cd10 ct10),sl10⟩) (c10:PySem.W.codeIn K cd10 "is_fraction" = true) (k10:PySem.W.keepIn K (.ref f10) = true)
  (a11:PySem.W.nsIn K mainGlobals "is_polynomial" = some (some (.ref f11))) (l11:K.lookup f11 = some ⟨oc11,od11,.func (PySem.W.fnOf "is_polynomial" "is_polynomial" (defArgs s_is_polynomial) (defBody s_is_polynomial) (defScope s_is_polynomial) .none kV11 dc11 pm11 an11 cd11 ct11),sl11⟩) (c11:PySem.W.codeIn K cd11 "is_polynomial" = true) (k11:PySem.W.keepIn K (.ref f11) = true)
  (a12:PySem.W.nsIn K mainGlobals "cleared" = some (some (.ref f12))) (l12:K.lookup f12 = some ⟨oc12,od12,.func (PySem.W.fnOf "cleared" "cleared" (defArgs s_cleared) (defBody s_cleared) (defScope s_cleared) .none kV12 dc12 pm12 an12 cd12 ct12),sl12⟩) (c12:PySem.W.codeIn K cd12 "cleared" = true) (k12:PySem.W.keepIn K (.ref f12) = true)
  (a13:PySem.W.nsIn K mainGlobals "signed_chain" = some (some (.ref f13))) (l13:K.lookup f13 = some ⟨oc13,od13,.func (PySem.W.fnOf "signed_chain" "signed_chain" (defArgs s_signed_chain) (defBody s_signed_chain) (defScope s_signed_chain) .none kV13 dc13 pm13 an13 cd13 ct13),sl13⟩) (c13:PySem.W.codeIn K cd13 "signed_chain" = true) (k13:PySem.W.keepIn K (.ref f13) = true)
  (a14:PySem.W.nsIn K mainGlobals "leaning_chain" = some (some (.ref f14))) (l14:K.lookup f14 = some ⟨oc14,od14,.func (PySem.W.fnOf "leaning_chain" "leaning_chain" (defArgs s_leaning_chain) (defBody s_leaning_chain) (defScope s_leaning_chain) .none kV14 dc14 pm14 an14 cd14 ct14),sl14⟩) (c14:PySem.W.codeIn K cd14 "leaning_chain" = true) (k14:PySem.W.keepIn K (.ref f14) = true)
  (a15:PySem.W.nsIn K mainGlobals "signs_far" = some (some (.ref f15))) (l15:K.lookup f15 = some ⟨oc15,od15,.func (PySem.W.fnOf "signs_far" "signs_far" (defArgs s_signs_far) (defBody s_signs_far) (defScope s_signs_far) .none kV15 dc15 pm15 an15 cd15 ct15),sl15⟩) (c15:PySem.W.codeIn K cd15 "signs_far" = true) (k15:PySem.W.keepIn K (.ref f15) = true)
  (a16:PySem.W.nsIn K mainGlobals "changes" = some (some (.ref f16))) (l16:K.lookup f16 = some ⟨oc16,od16,.func (PySem.W.fnOf "changes" "changes" (defArgs s_changes) (defBody s_changes) (defScope s_changes) .none kV16 dc16 pm16 an16 cd16 ct16),sl16⟩) (c16:PySem.W.codeIn K cd16 "changes" = true) (k16:PySem.W.keepIn K (.ref f16) = true)
  (a17:PySem.W.nsIn K mainGlobals "balance" = some (some (.ref f17))) (l17:K.lookup f17 = some ⟨oc17,od17,.func (PySem.W.fnOf "balance" "balance" (defArgs s_balance) (defBody s_balance) (defScope s_balance) .none kV17 dc17 pm17 an17 cd17 ct17),sl17⟩) (c17:PySem.W.codeIn K cd17 "balance" = true) (k17:PySem.W.keepIn K (.ref f17) = true)
  (a18:PySem.W.nsIn K mainGlobals "is_flock" = some (some (.ref f18))) (l18:K.lookup f18 = some ⟨oc18,od18,.func (PySem.W.fnOf "is_flock" "is_flock" (defArgs s_is_flock) (defBody s_is_flock) (defScope s_is_flock) .none kV18 dc18 pm18 an18 cd18 ct18),sl18⟩) (c18:PySem.W.codeIn K cd18 "is_flock" = true) (k18:PySem.W.keepIn K (.ref f18) = true)
  (a19:PySem.W.nsIn K mainGlobals "_law_cell_at" = some (some (.ref f19))) (l19:K.lookup f19 = some ⟨oc19,od19,.func (PySem.W.fnOf "_law_cell_at" "_law_cell_at" (defArgs zTcell_at) (defBody zTcell_at) (defScope zTcell_at) .none kV19 dc19 pm19 an19 cd19 ct19),sl19⟩) (c19:PySem.W.codeIn K cd19 "_law_cell_at" = true) (k19:PySem.W.keepIn K (.ref f19) = true)
  (a20:PySem.W.nsIn K mainGlobals "_law_state" = some (some (.ref f20))) (l20:K.lookup f20 = some ⟨oc20,od20,.func (PySem.W.fnOf "_law_state" "_law_state" (defArgs zTstate) (defBody zTstate) (defScope zTstate) .none kV20 dc20 pm20 an20 cd20 ct20),sl20⟩) (c20:PySem.W.codeIn K cd20 "_law_state" = true) (k20:PySem.W.keepIn K (.ref f20) = true)
  (a21:PySem.W.nsIn K mainGlobals "_law_take" = some (some (.ref f21))) (l21:K.lookup f21 = some ⟨oc21,od21,.func (PySem.W.fnOf "_law_take" "_law_take" (defArgs zTtake) (defBody zTtake) (defScope zTtake) .none kV21 dc21 pm21 an21 cd21 ct21),sl21⟩) (c21:PySem.W.codeIn K cd21 "_law_take" = true) (k21:PySem.W.keepIn K (.ref f21) = true)
  (a22:PySem.W.nsIn K mainGlobals "_law_divisor" = some (some (.ref f22))) (l22:K.lookup f22 = some ⟨oc22,od22,.func (PySem.W.fnOf "_law_divisor" "_law_divisor" (defArgs zTdivisor) (defBody zTdivisor) (defScope zTdivisor) .none kV22 dc22 pm22 an22 cd22 ct22),sl22⟩) (c22:PySem.W.codeIn K cd22 "_law_divisor" = true) (k22:PySem.W.keepIn K (.ref f22) = true)
  (a23:PySem.W.nsIn K mainGlobals "_law_low" = some (some (.ref f23))) (l23:K.lookup f23 = some ⟨oc23,od23,.func (PySem.W.fnOf "_law_low" "_law_low" (defArgs zTlow) (defBody zTlow) (defScope zTlow) .none kV23 dc23 pm23 an23 cd23 ct23),sl23⟩) (c23:PySem.W.codeIn K cd23 "_law_low" = true) (k23:PySem.W.keepIn K (.ref f23) = true)
  (a24:PySem.W.nsIn K mainGlobals "_law_small" = some (some (.ref f24))) (l24:K.lookup f24 = some ⟨oc24,od24,.func (PySem.W.fnOf "_law_small" "_law_small" (defArgs zTsmall) (defBody zTsmall) (defScope zTsmall) .none kV24 dc24 pm24 an24 cd24 ct24),sl24⟩) (c24:PySem.W.codeIn K cd24 "_law_small" = true) (k24:PySem.W.keepIn K (.ref f24) = true)
  (a25:PySem.W.nsIn K mainGlobals "_law_above" = some (some (.ref f25))) (l25:K.lookup f25 = some ⟨oc25,od25,.func (PySem.W.fnOf "_law_above" "_law_above" (defArgs zTabove) (defBody zTabove) (defScope zTabove) .none kV25 dc25 pm25 an25 cd25 ct25),sl25⟩) (c25:PySem.W.codeIn K cd25 "_law_above" = true) (k25:PySem.W.keepIn K (.ref f25) = true)
  (a26:PySem.W.nsIn K mainGlobals "_law_plus" = some (some (.ref f26))) (l26:K.lookup f26 = some ⟨oc26,od26,.func (PySem.W.fnOf "_law_plus" "_law_plus" (defArgs zTplus) (defBody zTplus) (defScope zTplus) .none kV26 dc26 pm26 an26 cd26 ct26),sl26⟩) (c26:PySem.W.codeIn K cd26 "_law_plus" = true) (k26:PySem.W.keepIn K (.ref f26) = true)
  (a27:PySem.W.nsIn K mainGlobals "_law_crowd" = some (some (.ref f27))) (l27:K.lookup f27 = some ⟨oc27,od27,.func (PySem.W.fnOf "_law_crowd" "_law_crowd" (defArgs zTcrowd) (defBody zTcrowd) (defScope zTcrowd) .none kV27 dc27 pm27 an27 cd27 ct27),sl27⟩) (c27:PySem.W.codeIn K cd27 "_law_crowd" = true) (k27:PySem.W.keepIn K (.ref f27) = true)
  (a28:PySem.W.nsIn K mainGlobals "_law_clean" = some (some (.ref f28))) (l28:K.lookup f28 = some ⟨oc28,od28,.func (PySem.W.fnOf "_law_clean" "_law_clean" (defArgs zTclean) (defBody zTclean) (defScope zTclean) .none kV28 dc28 pm28 an28 cd28 ct28),sl28⟩) (c28:PySem.W.codeIn K cd28 "_law_clean" = true) (k28:PySem.W.keepIn K (.ref f28) = true)
  (a29:PySem.W.nsIn K mainGlobals "_law_times" = some (some (.ref f29))) (l29:K.lookup f29 = some ⟨oc29,od29,.func (PySem.W.fnOf "_law_times" "_law_times" (defArgs zTtimes) (defBody zTtimes) (defScope zTtimes) .none kV29 dc29 pm29 an29 cd29 ct29),sl29⟩) (c29:PySem.W.codeIn K cd29 "_law_times" = true) (k29:PySem.W.keepIn K (.ref f29) = true)
  (a30:PySem.W.nsIn K mainGlobals "_law_multiplied" = some (some (.ref f30))) (l30:K.lookup f30 = some ⟨oc30,od30,.func (PySem.W.fnOf "_law_multiplied" "_law_multiplied" (defArgs zTmultiplied) (defBody zTmultiplied) (defScope zTmultiplied) .none kV30 dc30 pm30 an30 cd30 ct30),sl30⟩) (c30:PySem.W.codeIn K cd30 "_law_multiplied" = true) (k30:PySem.W.keepIn K (.ref f30) = true)
  (a31:PySem.W.nsIn K mainGlobals "_law_summed" = some (some (.ref f31))) (l31:K.lookup f31 = some ⟨oc31,od31,.func (PySem.W.fnOf "_law_summed" "_law_summed" (defArgs zTsummed) (defBody zTsummed) (defScope zTsummed) .none kV31 dc31 pm31 an31 cd31 ct31),sl31⟩) (c31:PySem.W.codeIn K cd31 "_law_summed" = true) (k31:PySem.W.keepIn K (.ref f31) = true)
  (a32:PySem.W.nsIn K mainGlobals "_law_minus" = some (some (.ref f32))) (l32:K.lookup f32 = some ⟨oc32,od32,.func (PySem.W.fnOf "_law_minus" "_law_minus" (defArgs zTminus) (defBody zTminus) (defScope zTminus) .none kV32 dc32 pm32 an32 cd32 ct32),sl32⟩) (c32:PySem.W.codeIn K cd32 "_law_minus" = true) (k32:PySem.W.keepIn K (.ref f32) = true)
  (a33:PySem.W.nsIn K mainGlobals "_law_over" = some (some (.ref f33))) (l33:K.lookup f33 = some ⟨oc33,od33,.func (PySem.W.fnOf "_law_over" "_law_over" (defArgs zTover) (defBody zTover) (defScope zTover) .none kV33 dc33 pm33 an33 cd33 ct33),sl33⟩) (c33:PySem.W.codeIn K cd33 "_law_over" = true) (k33:PySem.W.keepIn K (.ref f33) = true)
  (a34:PySem.W.nsIn K mainGlobals "_law_flock_of" = some (some (.ref f34))) (l34:K.lookup f34 = some ⟨oc34,od34,.func (PySem.W.fnOf "_law_flock_of" "_law_flock_of" (defArgs zTflock_of) (defBody zTflock_of) (defScope zTflock_of) .none kV34 dc34 pm34 an34 cd34 ct34),sl34⟩) (c34:PySem.W.codeIn K cd34 "_law_flock_of" = true) (k34:PySem.W.keepIn K (.ref f34) = true)
  (a35:PySem.W.nsIn K mainGlobals "_law_quadratic" = some (some (.ref f35))) (l35:K.lookup f35 = some ⟨oc35,od35,.func (PySem.W.fnOf "_law_quadratic" "_law_quadratic" (defArgs zTquadratic) (defBody zTquadratic) (defScope zTquadratic) .none kV35 dc35 pm35 an35 cd35 ct35),sl35⟩) (c35:PySem.W.codeIn K cd35 "_law_quadratic" = true) (k35:PySem.W.keepIn K (.ref f35) = true)
  (a36:PySem.W.nsIn K mainGlobals "_law_quadratic_due" = some (some (.ref f36))) (l36:K.lookup f36 = some ⟨oc36,od36,.func (PySem.W.fnOf "_law_quadratic_due" "_law_quadratic_due" (defArgs zTquadratic_due) (defBody zTquadratic_due) (defScope zTquadratic_due) .none kV36 dc36 pm36 an36 cd36 ct36),sl36⟩) (c36:PySem.W.codeIn K cd36 "_law_quadratic_due" = true) (k36:PySem.W.keepIn K (.ref f36) = true)
  (a37:PySem.W.nsIn K mainGlobals "_law_bent" = some (some (.ref f37))) (l37:K.lookup f37 = some ⟨oc37,od37,.func (PySem.W.fnOf "_law_bent" "_law_bent" (defArgs zTbent) (defBody zTbent) (defScope zTbent) .none kV37 dc37 pm37 an37 cd37 ct37),sl37⟩) (c37:PySem.W.codeIn K cd37 "_law_bent" = true) (k37:PySem.W.keepIn K (.ref f37) = true)
  (a38:PySem.W.nsIn K mainGlobals "_law_tilted" = some (some (.ref f38))) (l38:K.lookup f38 = some ⟨oc38,od38,.func (PySem.W.fnOf "_law_tilted" "_law_tilted" (defArgs zTtilted) (defBody zTtilted) (defScope zTtilted) .none kV38 dc38 pm38 an38 cd38 ct38),sl38⟩) (c38:PySem.W.codeIn K cd38 "_law_tilted" = true) (k38:PySem.W.keepIn K (.ref f38) = true)
  (a39:PySem.W.nsIn K mainGlobals "law" = some (some (.ref f39))) (l39:K.lookup f39 = some ⟨oc39,od39,.func (PySem.W.fnOf "law" "law" (defArgs s_law) (defBody s_law) (defScope s_law) .none kV39 dc39 pm39 an39 cd39 ct39),sl39⟩) (c39:PySem.W.codeIn K cd39 "law" = true) (k39:PySem.W.keepIn K (.ref f39) = true)
  {tk0:Tok} (i0:PySem.W.nsIn K mainGlobals "MOST_ROOTS" = some (some (.int 6 tk0)))
  {ga0 ga1:Addr} {go0 go1:Obj}
  (u0:PySem.W.nsIn K mainGlobals "ZERO" = some (some (.ref ga0))) (v0:K.lookup ga0 = some go0) (w0:kobj go0 = some (.tup [V.int (0),V.int (1)]))
  (u1:PySem.W.nsIn K mainGlobals "ONE" = some (some (.ref ga1))) (v1:K.lookup ga1 = some go1) (w1:kobj go1 = some (.tup [V.int (1),V.int (1)]))
  (z0:PySem.W.nsIn K mainGlobals "isinstance" = some none)
  (z1:PySem.W.nsIn K mainGlobals "bool" = some none)
  (z2:PySem.W.nsIn K mainGlobals "int" = some none)
  (z3:PySem.W.nsIn K mainGlobals "abs" = some none)
  (z4:PySem.W.nsIn K mainGlobals "range" = some none)
  (z5:PySem.W.nsIn K mainGlobals "len" = some none)
  (z6:PySem.W.nsIn K mainGlobals "enumerate" = some none)
  (z7:PySem.W.nsIn K mainGlobals "max" = some none)
  (z8:PySem.W.nsIn K mainGlobals "list" = some none)
  (z9:PySem.W.nsIn K mainGlobals "tuple" = some none)
  (z10:PySem.W.nsIn K mainGlobals "min" = some none)
  : ∃ fd:FuncData,(∀ (s:Shared) (v:Value),BindsTo s fd ⟨[v],[]⟩ [("_law_script",v)]) /\ ∀ base:Heap,K.In base -> base.Ns mainGlobals mg -> BltB mg base -> base.NoSeer -> FnOk l.prog w K mg base CX0 8 fa fd ["_law_script"] (spLaw K):=by
 have e:=hfa.symm.trans (PySem.W.mg_of X G a39)
 cases e
 have T:Txt K mg:=⟨trivial,⟨tk0,PySem.W.mg_of X G i0⟩,GT.mk (PySem.W.mg_of X G u0) v0 w0,GT.mk (PySem.W.mg_of X G u1) v1 w1,PySem.W.mg_none_of X G z0,PySem.W.mg_none_of X G z1,PySem.W.mg_none_of X G z2,PySem.W.mg_none_of X G z3,PySem.W.mg_none_of X G z4,PySem.W.mg_none_of X G z5,PySem.W.mg_none_of X G z6,PySem.W.mg_none_of X G z7,PySem.W.mg_none_of X G z8,PySem.W.mg_none_of X G z9,PySem.W.mg_none_of X G z10⟩
 refine ⟨PySem.W.fnOf "law" "law" (defArgs s_law) (defBody s_law) (defScope s_law) .none kV39 dc39 pm39 an39 cd39 ct39,fun s v=>.of_eq rfl,fun base kb nb hB hSe=>?_⟩
 have N_:Seer l.prog base:=⟨hSe,hst⟩
 have F_is_whole:=fun_mk (st:=s_is_whole) l0 c0 k0
 have C_is_whole:Cal l.prog w K mg base "is_whole" ["thing"] 1 (sp_is_whole K):=⟨_,_,ok_is_whole F_is_whole T ,PySem.W.mg_of X G a0,k0,(F_is_whole.binds fun _ _ _ _ _ _ us hl=>binds1 (g:=fun us=>bindArgs _ ⟨us,[]⟩) (z:=fun us=>pure (List.zip _ us)) us hl fun _=>rfl)⟩
 have F_greatest_divisor:=fun_mk (st:=s_greatest_divisor) l1 c1 k1
 have C_greatest_divisor:Cal l.prog w K mg base "greatest_divisor" ["one", "other"] 1 (sp_greatest_divisor K):=⟨_,_,ok_greatest_divisor F_greatest_divisor T ,PySem.W.mg_of X G a1,k1,(F_greatest_divisor.binds fun _ _ _ _ _ _ us hl=>binds2 (g:=fun us=>bindArgs _ ⟨us,[]⟩) (z:=fun us=>pure (List.zip _ us)) us hl fun _ _=>rfl)⟩
 have F_sign_of:=fun_mk (st:=s_sign_of) l2 c2 k2
 have C_sign_of:Cal l.prog w K mg base "sign_of" ["whole"] 1 (sp_sign_of K):=⟨_,_,ok_sign_of F_sign_of T ,PySem.W.mg_of X G a2,k2,(F_sign_of.binds fun _ _ _ _ _ _ us hl=>binds1 (g:=fun us=>bindArgs _ ⟨us,[]⟩) (z:=fun us=>pure (List.zip _ us)) us hl fun _=>rfl)⟩
 have F_power:=fun_mk (st:=s_power) l3 c3 k3
 have C_power:Cal l.prog w K mg base "power" ["base", "many"] 1 (sp_power K):=⟨_,_,ok_power F_power T ,PySem.W.mg_of X G a3,k3,(F_power.binds fun _ _ _ _ _ _ us hl=>binds2 (g:=fun us=>bindArgs _ ⟨us,[]⟩) (z:=fun us=>pure (List.zip _ us)) us hl fun _ _=>rfl)⟩
 have F_trimmed:=fun_mk (st:=s_trimmed) l4 c4 k4
 have C_trimmed:Cal l.prog w K mg base "trimmed" ["numbers", "zero"] 1 (sp_trimmed K):=⟨_,_,ok_trimmed F_trimmed T ,PySem.W.mg_of X G a4,k4,(F_trimmed.binds fun _ _ _ _ _ _ us hl=>binds2 (g:=fun us=>bindArgs _ ⟨us,[]⟩) (z:=fun us=>pure (List.zip _ us)) us hl fun _ _=>rfl)⟩
 have F_lowered:=fun_mk (st:=s_lowered) l5 c5 k5
 have C_lowered:Cal l.prog w K mg base "lowered" ["wholes"] 2 (sp_lowered K):=⟨_,_,ok_lowered F_lowered T (N_:=N_) (C_greatest_divisor:=C_greatest_divisor),PySem.W.mg_of X G a5,k5,(F_lowered.binds fun _ _ _ _ _ _ us hl=>binds1 (g:=fun us=>bindArgs _ ⟨us,[]⟩) (z:=fun us=>pure (List.zip _ us)) us hl fun _=>rfl)⟩
 have F_wholes_multiplied:=fun_mk (st:=s_wholes_multiplied) l6 c6 k6
 have C_wholes_multiplied:Cal l.prog w K mg base "wholes_multiplied" ["one", "other"] 1 (sp_wholes_multiplied K):=⟨_,_,ok_wholes_multiplied F_wholes_multiplied T ,PySem.W.mg_of X G a6,k6,(F_wholes_multiplied.binds fun _ _ _ _ _ _ us hl=>binds2 (g:=fun us=>bindArgs _ ⟨us,[]⟩) (z:=fun us=>pure (List.zip _ us)) us hl fun _ _=>rfl)⟩
 have F_wholes_slope:=fun_mk (st:=s_wholes_slope) l7 c7 k7
 have C_wholes_slope:Cal l.prog w K mg base "wholes_slope" ["wholes"] 1 (sp_wholes_slope K):=⟨_,_,ok_wholes_slope F_wholes_slope T ,PySem.W.mg_of X G a7,k7,(F_wholes_slope.binds fun _ _ _ _ _ _ us hl=>binds1 (g:=fun us=>bindArgs _ ⟨us,[]⟩) (z:=fun us=>pure (List.zip _ us)) us hl fun _=>rfl)⟩
 have F_wholes_parted:=fun_mk (st:=s_wholes_parted) l8 c8 k8
 have C_wholes_parted:Cal l.prog w K mg base "wholes_parted" ["one", "other"] 2 (sp_wholes_parted K):=⟨_,_,ok_wholes_parted F_wholes_parted T (N_:=N_) (C_trimmed:=C_trimmed),PySem.W.mg_of X G a8,k8,(F_wholes_parted.binds fun _ _ _ _ _ _ us hl=>binds2 (g:=fun us=>bindArgs _ ⟨us,[]⟩) (z:=fun us=>pure (List.zip _ us)) us hl fun _ _=>rfl)⟩
 have F_wholes_rests:=fun_mk (st:=s_wholes_rests) l9 c9 k9
 have C_wholes_rests:Cal l.prog w K mg base "wholes_rests" ["one", "other"] 3 (sp_wholes_rests K):=⟨_,_,ok_wholes_rests F_wholes_rests T (N_:=N_) (C_power:=C_power) (C_wholes_parted:=C_wholes_parted),PySem.W.mg_of X G a9,k9,(F_wholes_rests.binds fun _ _ _ _ _ _ us hl=>binds2 (g:=fun us=>bindArgs _ ⟨us,[]⟩) (z:=fun us=>pure (List.zip _ us)) us hl fun _ _=>rfl)⟩
 have F_is_fraction:=fun_mk (st:=s_is_fraction) l10 c10 k10
 have C_is_fraction:Cal l.prog w K mg base "is_fraction" ["thing"] 2 (sp_is_fraction K):=⟨_,_,ok_is_fraction F_is_fraction T (C_greatest_divisor:=C_greatest_divisor) (C_is_whole:=C_is_whole),PySem.W.mg_of X G a10,k10,(F_is_fraction.binds fun _ _ _ _ _ _ us hl=>binds1 (g:=fun us=>bindArgs _ ⟨us,[]⟩) (z:=fun us=>pure (List.zip _ us)) us hl fun _=>rfl)⟩
 have F_is_polynomial:=fun_mk (st:=s_is_polynomial) l11 c11 k11
 have C_is_polynomial:Cal l.prog w K mg base "is_polynomial" ["thing"] 3 (sp_is_polynomial K):=⟨_,_,ok_is_polynomial F_is_polynomial T (C_is_fraction:=C_is_fraction),PySem.W.mg_of X G a11,k11,(F_is_polynomial.binds fun _ _ _ _ _ _ us hl=>binds1 (g:=fun us=>bindArgs _ ⟨us,[]⟩) (z:=fun us=>pure (List.zip _ us)) us hl fun _=>rfl)⟩
 have F_cleared:=fun_mk (st:=s_cleared) l12 c12 k12
 have C_cleared:Cal l.prog w K mg base "cleared" ["f"] 2 (sp_cleared K):=⟨_,_,ok_cleared F_cleared T (N_:=N_) (C_greatest_divisor:=C_greatest_divisor),PySem.W.mg_of X G a12,k12,(F_cleared.binds fun _ _ _ _ _ _ us hl=>binds1 (g:=fun us=>bindArgs _ ⟨us,[]⟩) (z:=fun us=>pure (List.zip _ us)) us hl fun _=>rfl)⟩
 have F_signed_chain:=fun_mk (st:=s_signed_chain) l13 c13 k13
 have C_signed_chain:Cal l.prog w K mg base "signed_chain" ["one", "other"] 4 (sp_signed_chain K):=⟨_,_,ok_signed_chain F_signed_chain T (C_wholes_rests:=C_wholes_rests) (C_sign_of:=C_sign_of),PySem.W.mg_of X G a13,k13,(F_signed_chain.binds fun _ _ _ _ _ _ us hl=>binds2 (g:=fun us=>bindArgs _ ⟨us,[]⟩) (z:=fun us=>pure (List.zip _ us)) us hl fun _ _=>rfl)⟩
 have F_leaning_chain:=fun_mk (st:=s_leaning_chain) l14 c14 k14
 have C_leaning_chain:Cal l.prog w K mg base "leaning_chain" ["wholes", "inclines", "g"] 5 (sp_leaning_chain K):=⟨_,_,ok_leaning_chain F_leaning_chain T (C_signed_chain:=C_signed_chain) (C_lowered:=C_lowered) (C_sign_of:=C_sign_of) (C_wholes_parted:=C_wholes_parted) (C_wholes_multiplied:=C_wholes_multiplied),PySem.W.mg_of X G a14,k14,(F_leaning_chain.binds fun _ _ _ _ _ _ us hl=>binds3 (g:=fun us=>bindArgs _ ⟨us,[]⟩) (z:=fun us=>pure (List.zip _ us)) us hl fun _ _ _=>rfl)⟩
 have F_signs_far:=fun_mk (st:=s_signs_far) l15 c15 k15
 have C_signs_far:Cal l.prog w K mg base "signs_far" ["lists", "side"] 2 (sp_signs_far K):=⟨_,_,ok_signs_far F_signs_far T (C_sign_of:=C_sign_of),PySem.W.mg_of X G a15,k15,(F_signs_far.binds fun _ _ _ _ _ _ us hl=>binds2 (g:=fun us=>bindArgs _ ⟨us,[]⟩) (z:=fun us=>pure (List.zip _ us)) us hl fun _ _=>rfl)⟩
 have F_changes:=fun_mk (st:=s_changes) l16 c16 k16
 have C_changes:Cal l.prog w K mg base "changes" ["signs"] 1 (sp_changes K):=⟨_,_,ok_changes F_changes T ,PySem.W.mg_of X G a16,k16,(F_changes.binds fun _ _ _ _ _ _ us hl=>binds1 (g:=fun us=>bindArgs _ ⟨us,[]⟩) (z:=fun us=>pure (List.zip _ us)) us hl fun _=>rfl)⟩
 have F_balance:=fun_mk (st:=s_balance) l17 c17 k17
 have C_balance:Cal l.prog w K mg base "balance" ["f", "g"] 6 (sp_balance K):=⟨_,_,ok_balance F_balance T (C_changes:=C_changes) (C_signs_far:=C_signs_far) (C_leaning_chain:=C_leaning_chain) (C_cleared:=C_cleared) (C_wholes_slope:=C_wholes_slope),PySem.W.mg_of X G a17,k17,(F_balance.binds fun _ _ _ _ _ _ us hl=>binds2 (g:=fun us=>bindArgs _ ⟨us,[]⟩) (z:=fun us=>pure (List.zip _ us)) us hl fun _ _=>rfl)⟩
 have F_is_flock:=fun_mk (st:=s_is_flock) l18 c18 k18
 have C_is_flock:Cal l.prog w K mg base "is_flock" ["thing"] 7 (sp_is_flock K):=⟨_,_,ok_is_flock F_is_flock T (C_balance:=C_balance) (C_is_polynomial:=C_is_polynomial),PySem.W.mg_of X G a18,k18,(F_is_flock.binds fun _ _ _ _ _ _ us hl=>binds1 (g:=fun us=>bindArgs _ ⟨us,[]⟩) (z:=fun us=>pure (List.zip _ us)) us hl fun _=>rfl)⟩
 have zFcell_at:=fun_mk (st:=zTcell_at) l19 c19 k19
 have zCcell_at:Cal l.prog w K mg base "_law_cell_at" ["_law_script", "_law_k"] 1 (zPcell_at K):=⟨_,_,zOcell_at zFcell_at T ,PySem.W.mg_of X G a19,k19,(zFcell_at.binds fun _ _ _ _ _ _ us hl=>binds2 (g:=fun us=>bindArgs _ ⟨us,[]⟩) (z:=fun us=>pure (List.zip _ us)) us hl fun _ _=>rfl)⟩
 have zFstate:=fun_mk (st:=zTstate) l20 c20 k20
 have zCstate:Cal l.prog w K mg base "_law_state" ["_law_script", "_law_k"] 2 (zPstate K):=⟨_,_,zOstate zFstate T (zCcell_at:=zCcell_at),PySem.W.mg_of X G a20,k20,(zFstate.binds fun _ _ _ _ _ _ us hl=>binds2 (g:=fun us=>bindArgs _ ⟨us,[]⟩) (z:=fun us=>pure (List.zip _ us)) us hl fun _ _=>rfl)⟩
 have zFtake:=fun_mk (st:=zTtake) l21 c21 k21
 have zCtake:Cal l.prog w K mg base "_law_take" ["_law_state_here", "_law_many"] 1 (zPtake K):=⟨_,_,zOtake zFtake T ,PySem.W.mg_of X G a21,k21,(zFtake.binds fun _ _ _ _ _ _ us hl=>binds2 (g:=fun us=>bindArgs _ ⟨us,[]⟩) (z:=fun us=>pure (List.zip _ us)) us hl fun _ _=>rfl)⟩
 have zFdivisor:=fun_mk (st:=zTdivisor) l22 c22 k22
 have zCdivisor:Cal l.prog w K mg base "_law_divisor" ["_law_one", "_law_other"] 1 (zPdivisor K):=⟨_,_,zOdivisor zFdivisor T ,PySem.W.mg_of X G a22,k22,(zFdivisor.binds fun _ _ _ _ _ _ us hl=>binds2 (g:=fun us=>bindArgs _ ⟨us,[]⟩) (z:=fun us=>pure (List.zip _ us)) us hl fun _ _=>rfl)⟩
 have zFlow:=fun_mk (st:=zTlow) l23 c23 k23
 have zClow:Cal l.prog w K mg base "_law_low" ["_law_top", "_law_bottom"] 2 (zPlow K):=⟨_,_,zOlow zFlow T (zCdivisor:=zCdivisor),PySem.W.mg_of X G a23,k23,(zFlow.binds fun _ _ _ _ _ _ us hl=>binds2 (g:=fun us=>bindArgs _ ⟨us,[]⟩) (z:=fun us=>pure (List.zip _ us)) us hl fun _ _=>rfl)⟩
 have zFsmall:=fun_mk (st:=zTsmall) l24 c24 k24
 have zCsmall:Cal l.prog w K mg base "_law_small" ["_law_state_here"] 3 (zPsmall K):=⟨_,_,zOsmall zFsmall T (zClow:=zClow) (zCtake:=zCtake),PySem.W.mg_of X G a24,k24,(zFsmall.binds fun _ _ _ _ _ _ us hl=>binds1 (g:=fun us=>bindArgs _ ⟨us,[]⟩) (z:=fun us=>pure (List.zip _ us)) us hl fun _=>rfl)⟩
 have zFabove:=fun_mk (st:=zTabove) l25 c25 k25
 have zCabove:Cal l.prog w K mg base "_law_above" ["_law_state_here"] 3 (zPabove K):=⟨_,_,zOabove zFabove T (zClow:=zClow) (zCtake:=zCtake),PySem.W.mg_of X G a25,k25,(zFabove.binds fun _ _ _ _ _ _ us hl=>binds1 (g:=fun us=>bindArgs _ ⟨us,[]⟩) (z:=fun us=>pure (List.zip _ us)) us hl fun _=>rfl)⟩
 have zFplus:=fun_mk (st:=zTplus) l26 c26 k26
 have zCplus:Cal l.prog w K mg base "_law_plus" ["_law_one", "_law_other"] 3 (zPplus K):=⟨_,_,zOplus zFplus T (zClow:=zClow),PySem.W.mg_of X G a26,k26,(zFplus.binds fun _ _ _ _ _ _ us hl=>binds2 (g:=fun us=>bindArgs _ ⟨us,[]⟩) (z:=fun us=>pure (List.zip _ us)) us hl fun _ _=>rfl)⟩
 have zFcrowd:=fun_mk (st:=zTcrowd) l27 c27 k27
 have zCcrowd:Cal l.prog w K mg base "_law_crowd" ["_law_state_here", "_law_most"] 4 (zPcrowd K):=⟨_,_,zOcrowd zFcrowd T (zCtake:=zCtake) (zCplus:=zCplus) (zCabove:=zCabove) (zCsmall:=zCsmall),PySem.W.mg_of X G a27,k27,(zFcrowd.binds fun _ _ _ _ _ _ us hl=>binds2 (g:=fun us=>bindArgs _ ⟨us,[]⟩) (z:=fun us=>pure (List.zip _ us)) us hl fun _ _=>rfl)⟩
 have zFclean:=fun_mk (st:=zTclean) l28 c28 k28
 have zCclean:Cal l.prog w K mg base "_law_clean" ["_law_numbers"] 1 (zPclean K):=⟨_,_,zOclean zFclean T ,PySem.W.mg_of X G a28,k28,(zFclean.binds fun _ _ _ _ _ _ us hl=>binds1 (g:=fun us=>bindArgs _ ⟨us,[]⟩) (z:=fun us=>pure (List.zip _ us)) us hl fun _=>rfl)⟩
 have zFtimes:=fun_mk (st:=zTtimes) l29 c29 k29
 have zCtimes:Cal l.prog w K mg base "_law_times" ["_law_one", "_law_other"] 3 (zPtimes K):=⟨_,_,zOtimes zFtimes T (zClow:=zClow),PySem.W.mg_of X G a29,k29,(zFtimes.binds fun _ _ _ _ _ _ us hl=>binds2 (g:=fun us=>bindArgs _ ⟨us,[]⟩) (z:=fun us=>pure (List.zip _ us)) us hl fun _ _=>rfl)⟩
 have zFmultiplied:=fun_mk (st:=zTmultiplied) l30 c30 k30
 have zCmultiplied:Cal l.prog w K mg base "_law_multiplied" ["_law_f", "_law_g"] 4 (zPmultiplied K):=⟨_,_,zOmultiplied zFmultiplied T (zCclean:=zCclean) (zCplus:=zCplus) (zCtimes:=zCtimes),PySem.W.mg_of X G a30,k30,(zFmultiplied.binds fun _ _ _ _ _ _ us hl=>binds2 (g:=fun us=>bindArgs _ ⟨us,[]⟩) (z:=fun us=>pure (List.zip _ us)) us hl fun _ _=>rfl)⟩
 have zFsummed:=fun_mk (st:=zTsummed) l31 c31 k31
 have zCsummed:Cal l.prog w K mg base "_law_summed" ["_law_f", "_law_g", "_law_by"] 4 (zPsummed K):=⟨_,_,zOsummed zFsummed T (zCclean:=zCclean) (zCplus:=zCplus) (zCtimes:=zCtimes),PySem.W.mg_of X G a31,k31,(zFsummed.binds fun _ _ _ _ _ _ us hl=>binds3 (g:=fun us=>bindArgs _ ⟨us,[]⟩) (z:=fun us=>pure (List.zip _ us)) us hl fun _ _ _=>rfl)⟩
 have zFminus:=fun_mk (st:=zTminus) l32 c32 k32
 have zCminus:Cal l.prog w K mg base "_law_minus" ["_law_one", "_law_other"] 3 (zPminus K):=⟨_,_,zOminus zFminus T (zClow:=zClow),PySem.W.mg_of X G a32,k32,(zFminus.binds fun _ _ _ _ _ _ us hl=>binds2 (g:=fun us=>bindArgs _ ⟨us,[]⟩) (z:=fun us=>pure (List.zip _ us)) us hl fun _ _=>rfl)⟩
 have zFover:=fun_mk (st:=zTover) l33 c33 k33
 have zCover:Cal l.prog w K mg base "_law_over" ["_law_one", "_law_other"] 3 (zPover K):=⟨_,_,zOover zFover T (zClow:=zClow),PySem.W.mg_of X G a33,k33,(zFover.binds fun _ _ _ _ _ _ us hl=>binds2 (g:=fun us=>bindArgs _ ⟨us,[]⟩) (z:=fun us=>pure (List.zip _ us)) us hl fun _ _=>rfl)⟩
 have zFflock_of:=fun_mk (st:=zTflock_of) l34 c34 k34
 have zCflock_of:Cal l.prog w K mg base "_law_flock_of" ["_law_crowd_here"] 5 (zPflock_of K):=⟨_,_,zOflock_of zFflock_of T (zCmultiplied:=zCmultiplied) (zCsummed:=zCsummed) (zCtimes:=zCtimes) (zCover:=zCover) (zCminus:=zCminus),PySem.W.mg_of X G a34,k34,(zFflock_of.binds fun _ _ _ _ _ _ us hl=>binds1 (g:=fun us=>bindArgs _ ⟨us,[]⟩) (z:=fun us=>pure (List.zip _ us)) us hl fun _=>rfl)⟩
 have zFquadratic:=fun_mk (st:=zTquadratic) l35 c35 k35
 have zCquadratic:Cal l.prog w K mg base "_law_quadratic" ["_law_state_here"] 4 (zPquadratic K):=⟨_,_,zOquadratic zFquadratic T (zCsmall:=zCsmall),PySem.W.mg_of X G a35,k35,(zFquadratic.binds fun _ _ _ _ _ _ us hl=>binds1 (g:=fun us=>bindArgs _ ⟨us,[]⟩) (z:=fun us=>pure (List.zip _ us)) us hl fun _=>rfl)⟩
 have zFquadratic_due:=fun_mk (st:=zTquadratic_due) l36 c36 k36
 have zCquadratic_due:Cal l.prog w K mg base "_law_quadratic_due" ["_law_roots", "_law_weights"] 4 (zPquadratic_due K):=⟨_,_,zOquadratic_due zFquadratic_due T (zCplus:=zCplus) (zCtimes:=zCtimes) (zCminus:=zCminus),PySem.W.mg_of X G a36,k36,(zFquadratic_due.binds fun _ _ _ _ _ _ us hl=>binds2 (g:=fun us=>bindArgs _ ⟨us,[]⟩) (z:=fun us=>pure (List.zip _ us)) us hl fun _ _=>rfl)⟩
 have zFbent:=fun_mk (st:=zTbent) l37 c37 k37
 have zCbent:Cal l.prog w K mg base "_law_bent" ["_law_state_here", "_law_flock"] 2 (zPbent K):=⟨_,_,zObent zFbent T (zCtake:=zCtake),PySem.W.mg_of X G a37,k37,(zFbent.binds fun _ _ _ _ _ _ us hl=>binds2 (g:=fun us=>bindArgs _ ⟨us,[]⟩) (z:=fun us=>pure (List.zip _ us)) us hl fun _ _=>rfl)⟩
 have zFtilted:=fun_mk (st:=zTtilted) l38 c38 k38
 have zCtilted:Cal l.prog w K mg base "_law_tilted" ["_law_state_here", "_law_crowd_here"] 2 (zPtilted K):=⟨_,_,zOtilted zFtilted T (zCtake:=zCtake),PySem.W.mg_of X G a38,k38,(zFtilted.binds fun _ _ _ _ _ _ us hl=>binds2 (g:=fun us=>bindArgs _ ⟨us,[]⟩) (z:=fun us=>pure (List.zip _ us)) us hl fun _ _=>rfl)⟩
 have F_law:=fun_mk (st:=s_law) l39 c39 k39
 exact ok_law F_law T (C_is_flock:=C_is_flock) (zCflock_of:=zCflock_of) (zCbent:=zCbent) (zCtilted:=zCtilted) (zCcrowd:=zCcrowd) (zCquadratic_due:=zCquadratic_due) (zCclean:=zCclean) (zCquadratic:=zCquadratic) (zCstate:=zCstate)
theorem walk {l:PySem.W.OpenLaw} {q:Program} {loose:List Str} {XP:(Str -> Option Value) -> Heap -> Prop} {YP:World -> Heap -> Prop} {d:DefRec} {K:Params -> PySem.W.Frag} (hn:l.most = some 63) (hdf:d.params.defaults = []) (hi:PyProof.Rows.importsNone q = true)
  (hY:∀ (w:World) (h:Heap),YP w h -> (K w.params).In h /\ ∀ q ∈ ([]:List (Addr × Addr)),PySem.W.codeHdIn (K w.params) q.1 q.2 = true /\ (K w.params).lookup q.2 = none /\ h.get? q.2 = some (PySem.W.tabObj #[]))
  (F:∀ (w:World) (mg:Str -> Option Value) (fa:Addr) (h:Heap),(K w.params).In h -> h.Ns mainGlobals mg -> mg d.name = some (.ref fa) ->
   ∃ fd:FuncData,(∀ (s:Shared) (u:Value),BindsTo s fd ⟨[u],[]⟩ [("_law_script",u)]) /\ ∀ base:Heap,(K w.params).In base -> base.Ns mainGlobals mg -> BltB mg base -> base.NoSeer -> FnOk l.prog w (K w.params) mg base CX0 8 fa fd ["_law_script"] (spLaw (K w.params))) :
  PySem.W.WalkO q loose XP YP l.row.toRowW d [] (fun f vs=>PySem.call f vs) :=
 L2.walk_ofM (ts:=fun _=>[]) (n:=63) (k:=8) (x:="_law_script") (CX:=fun _=>CX0) (sp:=fun w=>spLaw (K w.params)) hn (by decide) hdf ⟨rfl,by decide,by decide⟩ hi hY F (fun _ _ a ns hl hT hK hS=>⟨a,ns,rfl,.of hS hK,hl,fun _=>rfl⟩) fun _ _ _ _ _ z=>z
end M
open PySem PySem.W PyProof.Rows
inductive PySem.W.Fast.tw12248456974479036351 : Type
inductive PySem.W.Fast.tw7295300080553598267 : Type
inductive PySem.W.Fast.tw3022140002459680538 : Type
inductive PySem.W.Fast.tw7797979550714399882 : Type
inductive PySem.W.Fast.tw11195586397187562864 : Type
inductive PySem.W.Fast.tw8093375407412673780 : Type
inductive PySem.W.Fast.tw5790916021773172169 : Type
set_option maxRecDepth 100000 in
set_option maxHeartbeats 0 in
theorem PySem.Challenge.cw_momentwright_k18_flocks_known_holds : PySem.Challenge.rw_momentwright_k18_flocks_known.Holds := by
 w_on; o_law; k_head; (case hw=>w_witness2)
 k_fill
 refine M.walk (l:=PySem.Challenge.rw_momentwright_k18_flocks_known) rfl rfl ?hi (fun w h Y=>⟨PySem.W.kIn_of Y,fun q hq=>by cases hq⟩) ?F
 case hi=>exact (by decide +kernel)
 case F =>
  intro w mg fa h KX G hmg
  refine' M.all_mk KX G hmg rfl ?a0 ?l0 ?c0 ?k0 ?a1 ?l1 ?c1 ?k1 ?a2 ?l2 ?c2 ?k2 ?a3 ?l3 ?c3 ?k3 ?a4 ?l4 ?c4 ?k4 ?a5 ?l5 ?c5 ?k5 ?a6 ?l6 ?c6 ?k6 ?a7 ?l7 ?c7 ?k7 ?a8 ?l8 ?c8 ?k8 ?a9 ?l9 ?c9 ?k9 ?a10 ?l10 ?c10 ?k10 ?a11 ?l11 ?c11 ?k11 ?a12 ?l12 ?c12 ?k12 ?a13 ?l13 ?c13 ?k13 ?a14 ?l14 ?c14 ?k14 ?a15 ?l15 ?c15 ?k15 ?a16 ?l16 ?c16 ?k16 ?a17 ?l17 ?c17 ?k17 ?a18 ?l18 ?c18 ?k18 ?a19 ?l19 ?c19 ?k19 ?a20 ?l20 ?c20 ?k20 ?a21 ?l21 ?c21 ?k21 ?a22 ?l22 ?c22 ?k22 ?a23 ?l23 ?c23 ?k23 ?a24 ?l24 ?c24 ?k24 ?a25 ?l25 ?c25 ?k25 ?a26 ?l26 ?c26 ?k26 ?a27 ?l27 ?c27 ?k27 ?a28 ?l28 ?c28 ?k28 ?a29 ?l29 ?c29 ?k29 ?a30 ?l30 ?c30 ?k30 ?a31 ?l31 ?c31 ?k31 ?a32 ?l32 ?c32 ?k32 ?a33 ?l33 ?c33 ?k33 ?a34 ?l34 ?c34 ?k34 ?a35 ?l35 ?c35 ?k35 ?a36 ?l36 ?c36 ?k36 ?a37 ?l37 ?c37 ?k37 ?a38 ?l38 ?c38 ?k38 ?a39 ?l39 ?c39 ?k39 ?i0 ?u0 ?v0 ?w0 ?u1 ?v1 ?w1 ?z0 ?z1 ?z2 ?z3 ?z4 ?z5 ?z6 ?z7 ?z8 ?z9 ?z10
  (case a0=>k_is); (case l0=>k_is); (case c0=>k_is); (case k0=>k_is)
  (case a1=>k_is); (case l1=>k_is); (case c1=>k_is); (case k1=>k_is)
  (case a2=>k_is); (case l2=>k_is); (case c2=>k_is); (case k2=>k_is)
  (case a3=>k_is); (case l3=>k_is); (case c3=>k_is); (case k3=>k_is)
  (case a4=>k_is); (case l4=>k_is); (case c4=>k_is); (case k4=>k_is)
  (case a5=>k_is); (case l5=>k_is); (case c5=>k_is); (case k5=>k_is)
  (case a6=>k_is); (case l6=>k_is); (case c6=>k_is); (case k6=>k_is)
  (case a7=>k_is); (case l7=>k_is); (case c7=>k_is); (case k7=>k_is)
  (case a8=>k_is); (case l8=>k_is); (case c8=>k_is); (case k8=>k_is)
  (case a9=>k_is); (case l9=>k_is); (case c9=>k_is); (case k9=>k_is)
  (case a10=>k_is); (case l10=>k_is); (case c10=>k_is); (case k10=>k_is)
  (case a11=>k_is); (case l11=>k_is); (case c11=>k_is); (case k11=>k_is)
  (case a12=>k_is); (case l12=>k_is); (case c12=>k_is); (case k12=>k_is)
  (case a13=>k_is); (case l13=>k_is); (case c13=>k_is); (case k13=>k_is)
  (case a14=>k_is); (case l14=>k_is); (case c14=>k_is); (case k14=>k_is)
  (case a15=>k_is); (case l15=>k_is); (case c15=>k_is); (case k15=>k_is)
  (case a16=>k_is); (case l16=>k_is); (case c16=>k_is); (case k16=>k_is)
  (case a17=>k_is); (case l17=>k_is); (case c17=>k_is); (case k17=>k_is)
  (case a18=>k_is); (case l18=>k_is); (case c18=>k_is); (case k18=>k_is)
  (case a19=>k_is); (case l19=>k_is); (case c19=>k_is); (case k19=>k_is)
  (case a20=>k_is); (case l20=>k_is); (case c20=>k_is); (case k20=>k_is)
  (case a21=>k_is); (case l21=>k_is); (case c21=>k_is); (case k21=>k_is)
  (case a22=>k_is); (case l22=>k_is); (case c22=>k_is); (case k22=>k_is)
  (case a23=>k_is); (case l23=>k_is); (case c23=>k_is); (case k23=>k_is)
  (case a24=>k_is); (case l24=>k_is); (case c24=>k_is); (case k24=>k_is)
  (case a25=>k_is); (case l25=>k_is); (case c25=>k_is); (case k25=>k_is)
  (case a26=>k_is); (case l26=>k_is); (case c26=>k_is); (case k26=>k_is)
  (case a27=>k_is); (case l27=>k_is); (case c27=>k_is); (case k27=>k_is)
  (case a28=>k_is); (case l28=>k_is); (case c28=>k_is); (case k28=>k_is)
  (case a29=>k_is); (case l29=>k_is); (case c29=>k_is); (case k29=>k_is)
  (case a30=>k_is); (case l30=>k_is); (case c30=>k_is); (case k30=>k_is)
  (case a31=>k_is); (case l31=>k_is); (case c31=>k_is); (case k31=>k_is)
  (case a32=>k_is); (case l32=>k_is); (case c32=>k_is); (case k32=>k_is)
  (case a33=>k_is); (case l33=>k_is); (case c33=>k_is); (case k33=>k_is)
  (case a34=>k_is); (case l34=>k_is); (case c34=>k_is); (case k34=>k_is)
  (case a35=>k_is); (case l35=>k_is); (case c35=>k_is); (case k35=>k_is)
  (case a36=>k_is); (case l36=>k_is); (case c36=>k_is); (case k36=>k_is)
  (case a37=>k_is); (case l37=>k_is); (case c37=>k_is); (case k37=>k_is)
  (case a38=>k_is); (case l38=>k_is); (case c38=>k_is); (case k38=>k_is)
  (case a39=>k_is); (case l39=>k_is); (case c39=>k_is); (case k39=>k_is)
  (case i0=>k_is)
  (case u0=>k_is); (case v0=>k_is); (case w0=>rfl)
  (case u1=>k_is); (case v1=>k_is); (case w1=>rfl)
  (case z0=>k_is)
  (case z1=>k_is)
  (case z2=>k_is)
  (case z3=>k_is)
  (case z4=>k_is)
  (case z5=>k_is)
  (case z6=>k_is)
  (case z7=>k_is)
  (case z8=>k_is)
  (case z9=>k_is)
  (case z10=>k_is)
#print axioms PySem.Challenge.cw_momentwright_k18_flocks_known_holds

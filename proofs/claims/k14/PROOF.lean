import PyProof.Rows.All
import Wide.All
import OpenK.AllK
import Wide.FinOn
import Lean
import PyProof.EqAt
import PyProof.EqKinds
import PyProof.TupleCall
import PySem.Challenge.RW_momentwright_k14_how_many_roots
set_option compiler.extract_closed false
local macro_rules | `(tactic| walk_at "o")=>`(tactic| first | lia | omega)
local macro_rules | `(tactic| walk_at "a1")=>`(tactic| first | exact Or.inl rfl | exact Or.inr rfl)
local macro_rules | `(tactic| walk_at "a2")=>`(tactic| first | decide | walk_at "o")
local macro_rules | `(tactic| walk_at "a3")=>`(tactic| exact ⟨rfl,rfl,rfl,by decide +kernel,rfl,by decide +kernel,by decide +kernel⟩)
set_option Elab.async false
set_option linter.all false
set_option maxRecDepth 100000
namespace L2
open PySem PySem.Spec PyProof.Rows
abbrev fP:=Sum Int Str
def mD:fP->Value->Bool
 | .inl k,v=>Value.isInt k v
 | .inr x,v=>Value.isStrOf x v
def Fn(w:World):fP->Int
 | .inl k=>hashInt k
 | .inr x=>hashStr w x
theorem cj:∀{k:fP}{v:Value},mD k v=true->(∃ i t,k=Sum.inl i/\v=Value.int i t)\/(∃ x t,k=Sum.inr x/\v=Value.str x t)
 | .inl i,v,h=>by
  obtain⟨t,e⟩:=Value.isInt_shape (k:=i) (v:=v) h
  exact .inl ⟨i,t,rfl,e⟩
 | .inr x,v,h=>by
  obtain⟨t,e⟩:=Value.isStrOf_shape (x:=x) (v:=v) h
  exact .inr ⟨x,t,rfl,e⟩
theorem uD(i:Int)(t:Tok):mD (.inl i) (.int i t)=true:=by simp[mD,Value.isInt]
theorem vo(x:Str)(t:Tok):mD (.inr x) (.str x t)=true:=by simp[mD,Value.isStrOf]
theorem C4(a b:Int):decide ((Sum.inl a:fP)=Sum.inl b)=(a == b):=by
 by_cases e:a=b
 ·subst e;simp
 ·have h:¬ (Sum.inl a:fP)=Sum.inl b:=fun q=>e (Sum.inl.inj q)
  rw[decide_eq_false h]
  exact (beq_eq_false_iff_ne.mpr e).symm
theorem Db(a b:Str):decide ((Sum.inr a:fP)=Sum.inr b)=decide (a=b):=by
 by_cases e:a=b
 ·subst e;simp
 ·have h:¬ (Sum.inr a:fP)=Sum.inr b:=fun q=>e (Sum.inr.inj q)
  rw[decide_eq_false h,decide_eq_false e]
theorem CG(a:Int)(b:Str):decide ((Sum.inl a:fP)=Sum.inr b)=false:=decide_eq_false (fun q=>nomatch q)
theorem Ck(a:Str)(b:Int):decide ((Sum.inr a:fP)=Sum.inl b)=false:=decide_eq_false (fun q=>nomatch q)
def cI(prog:Program)(w:World):PySem.KeyKind prog w fP where
 is:=mD
 hash:=Fn w
 inj:=fun v a b ha hb=>by
  rcases cj ha with ⟨i,t,rfl,rfl⟩|⟨x,t,rfl,rfl⟩
  ·rcases cj hb with ⟨j,u,rfl,e⟩|⟨y,u,rfl,e⟩
   ·injection e with e1 _;rw[e1]
   ·exact nomatch e
  ·rcases cj hb with ⟨j,u,rfl,e⟩|⟨y,u,rfl,e⟩
   ·exact nomatch e
   ·injection e with e1 _;rw[e1]
 byValue:=fun k v h=>by
  rcases cj h with ⟨i,t,rfl,rfl⟩|⟨x,t,rfl,rfl⟩ <;> rfl
 pyHash:=fun hv h=>by
  rcases cj hv with ⟨i,t,rfl,rfl⟩|⟨x,t,rfl,rfl⟩
  ·exact wpAny_pyHash_int h
  ·exact wpAny_pyHash_str h
 eqBool:=fun hu hv h=>by
  rcases cj hu with ⟨i,t,rfl,rfl⟩|⟨x,t,rfl,rfl⟩
  ·rcases cj hv with ⟨j,u,rfl,rfl⟩|⟨y,u,rfl,rfl⟩
   ·rw[C4] at h;exact wpAny_eqBool_int h
   ·rw[CG] at h;exact SeqAt.EqAt.int_str i t y u _ _ _ _ h
  ·rcases cj hv with ⟨j,u,rfl,rfl⟩|⟨y,u,rfl,rfl⟩
   ·rw[Ck] at h;exact SeqAt.EqAt.str_int x t j u _ _ _ _ h
   ·rw[Db] at h;exact wpAny_eqBool_str h
 «strs»:=fun k x t v h=>by
  rcases cj h with ⟨i,u,rfl,e⟩|⟨y,u,rfl,e⟩
  ·exact nomatch e
  ·injection e with e1 _
   subst e1
   cases v <;> rfl
theorem pX(prog:Program)(w:World)(i:Int)(t:Tok):(cI prog w).is (.inl i) (.int i t)=true:=uD i t
theorem qy(prog:Program)(w:World)(x:Str)(t:Tok):(cI prog w).is (.inr x) (.str x t)=true:=vo x t
end L2
namespace L2
open PySem PySem.Spec PyProof.Rows
inductive V where
 | non|bl (b:Bool)|int (i:Int)|str (x:Str)|byt (b:Array UInt8)|flt (b:UInt64)|ref (a:Addr)|ty (n:String)
 deriving DecidableEq
def aS:V->Value->Prop
 | .non,u=>u=Value.none
 | .bl b,u=>u=Value.bool b
 | .int i,u=>∃ t,u=Value.int i t
 | .str x,u=>∃ t,u=Value.str x t
 | .byt b,u=>∃ t,u=Value.bytes b t
 | .flt b,u=>∃ t,u=Value.float b t
 | .ref a,u=>u=Value.ref a
 | .ty n,u=>u=Value.type n
abbrev aL:List V->List Value->Prop:=Paired aS
theorem aL.length{xs:List V}{us:List Value}(r:aL xs us):xs.length=us.length:=Paired.length r
theorem aL.get:∀{xs:List V}{us:List Value}{i:Nat}{x:V},aL xs us->xs[i]? = some x -> ∃ u,us[i]? = some u/\aS x u
 | _,_,_,_,.nil,e=>by simp at e
 | _,_,0,_,.cons r _,e=>by simp at e;subst e;exact⟨_,rfl,r⟩
 | _,_,i+1,x,.cons _ t,e=>by
  obtain⟨u,h1,h2⟩:=aL.get (i:=i) (x:=x) t (by simpa using e)
  exact⟨u,by simpa using h1,h2⟩
theorem aL.set{x:V}{u:Value}(r:aS x u):∀ {xs:List V}{us:List Value}(i:Nat),aL xs us->aL (xs.set i x) (us.set i u)
 | _,_,_,.nil=>.nil
 | _,_,0,.cons _ t=>.cons r t
 | _,_,i+1,.cons q t=>.cons q (aL.set r i t)
theorem aL.append:∀{xs ys:List V}{us ws:List Value},aL xs us->aL ys ws->aL (xs ++ ys) (us ++ ws)
 | _,_,_,_,.nil,s=>s
 | _,_,_,_,.cons r t,s=>.cons r (aL.append t s)
theorem aL.take:∀{xs:List V}{us:List Value}(n:Nat),aL xs us->aL (xs.take n) (us.take n)
 | _,_,0,_=>.nil
 | _,_,_+1,.nil=>.nil
 | _,_,n+1,.cons r t=>.cons r (aL.take n t)
theorem aL.drop:∀{xs:List V}{us:List Value}(n:Nat),aL xs us->aL (xs.drop n) (us.drop n)
 | _,_,0,r=>r
 | _,_,_+1,.nil=>.nil
 | _,_,n+1,.cons _ t=>aL.drop n t
def oD:Option V->Option Value->Prop
 | some v,some u=>aS v u
 | none,none=>True
 | _,_=>False
def KV{κ:Type}:List (κ × V)->List (κ × Value)->Prop:=Paired fun (p:κ × V)(q:κ × Value)=>p.1=q.1/\aS p.2 q.2
def kV:fP->V
 | .inl i=>.int i
 | .inr x=>.str x
inductive HO where
 /-- a list -/
 | lst (xs:List V)
 /-- a tuple (never changes) -/
 | tup (xs:List V)
 /-- a dict whose keys are ints and texts;one whose keys are tuples of ints and texts (the empty one is both) -/
 | dK (kvs:List (fP × V))|dT (kvs:List (List fP × V))
 /-- a set of ints: its members,its size -/
 | set (S:Int->Bool)(n:Nat)
 /-- an instance of the class at C,its dict at dx,its attributes -/
 | ins (C dx:Addr)(fs:List (Str × V))
 /-- the dict of the instance at x -/
 | own (x:Addr)
 /-- the dict of an exception -/
 | xd (fs:List (Str × V))
 /-- a bound method,f of x -/
 | met (f x:Addr)
 /-- a range object lo,lo+1,.. below hi -/
 | rng (lo hi:Int)
 /-- a thing that is known to the object (the script;a dict while a loop walks it): read,never written while it is so -/
 | frz (o:Obj)(u:HO)
 /-- a code object's table -/
 | tbl (ps:Array Value)
 /-- any other thing,by what is true of its one object (a def of one's own: SetO a S n:=HO.ext fun h=>..) -/
 | ext (φ:Heap->Prop)
abbrev Hp:=Addr->Option HO
def upd(H:Hp)(a:Addr)(o:HO):Hp:=fun b=>if b=a then some o else H b
theorem aY{H:Hp}{a:Addr}{o:HO}:upd H a o a=some o:=by unfold upd;rw[if_pos rfl]
theorem aG{H:Hp}{a b:Addr}{o:HO}(h:b ≠ a):upd H a o b=H b:=by unfold upd;rw[if_neg h]
theorem ai{H:Hp}{a b:Addr}{o:HO}(h:H a=some o)(h':H b=none):a ≠ b:=by
 intro e;subst e;rw[h] at h';cases h'
section
variable (P:Program)(w:World)
def bY(H:Hp)(h:Heap)(a:Addr):HO->Prop
 | .lst xs=>xs.length<=sizeLine /\ ∃ (its:List Value)(n:Nat),aL xs its/\h.get? a=some { cls:=.type "list",data:=.seq its.toArray n }
 | .tup xs=>xs.length<=sizeLine /\ ∃ its:List Value,aL xs its/\IsTup h a its.toArray
 | .dK kvs=>kvs.length<=sizeLine/\(a == sysModules)=false /\ ∃ vs,KV kvs vs/\h.DictOf (cI P w) a vs
 | .dT kvs=>kvs.length<=sizeLine/\(a == sysModules)=false /\ ∃ xs:List (List fP × Addr × Value),
   Paired (fun (p:List fP × V)(q:List fP × Addr × Value)=>p.1=q.1/\H q.2.1=some (.tup (p.1.map kV))/\aS p.2 q.2.2) kvs xs /\
   ∃ o es ep,h.get? a=some o/\o.ExactDict/\o.data = .dict es ep/\es.toList=xs.map (entryOfKey (tupleKind (cI P w)))/\(xs.map (·.1)).Nodup
 | .set S n=>h.SetOf (intKind P w) a S n
 | .ins C dx fs=>H dx=some (.own a)/\fs.length<=1000/\dx ≠ a/\h.get? a=some (PySem.W.instObj C dx) /\
   ∃ mA,h.Ns1 dx mA/\(∀ f,oD (fs.lookup f) (mA f))/\PySem.Within mA (fs.map (·.1))
 | .own _=>∃ o,h.get? a=some o
 | .xd fs=>∃ mA,h.Ns1 a mA /\ ∀ f,oD (fs.lookup f) (mA f)
 | .rng lo hi=>∃ t u v,h.get? a=some { cls:=.type "range",data:=.fields #[.int lo t,.int hi u,.int 1 v] }
 | .frz o u=>h.get? a=some o/\bY H h a u
 | .tbl ps=>h.get? a=some { cls:=.none,data:=.fields ps }
 | .met f x=>h.get? a=some (PySem.W.methodObj (.ref f) (.ref x))
 | .ext φ=>φ h/\(∃ o,h.get? a=some o) /\ ∀ h1 h2:Heap,φ h1->(∀ o,h1.get? a=some o->h2.get? a=some o)->φ h2
def iJ(H:Hp)(h:Heap):Prop:=∀ a o,H a=some o->bY P w H h a o
end
section
variable {P:Program}{w:World}{H H':Hp}{h h':Heap}{a:Addr}{o:HO}
theorem bY.lt(x:bY P w H h a o):a<h.objs.size:=by
 cases o with
 | lst xs=>obtain⟨_,_,_,_,e⟩:=x;exact Heap.lt_size e
 | tup xs=>obtain⟨_,_,_,p⟩:=x;exact p.lt
 | dK kvs=>obtain⟨_,_,_,_,o,_,_,e,_⟩:=x;exact Heap.lt_size e
 | dT kvs=>obtain⟨_,_,_,_,o,_,_,e,_⟩:=x;exact Heap.lt_size e
 | set S n=>obtain⟨o,_,_,_,e,_⟩:=x;exact Heap.lt_size e
 | ins C dx fs=>obtain⟨_,_,_,e,_⟩:=x;exact Heap.lt_size e
 | own y=>obtain⟨_,e⟩:=x;exact Heap.lt_size e
 | xd fs=>obtain⟨_,⟨_,_,_,e,_⟩,_⟩:=x;exact Heap.lt_size e
 | rng lo hi=>obtain⟨_,_,_,e⟩:=x;exact Heap.lt_size e
 | frz ob u=>obtain⟨e,_⟩:=x;exact Heap.lt_size e
 | tbl ps=>exact Heap.lt_size (show h.get? a=some _ from x)
 | met f y=>exact Heap.lt_size (show h.get? a=some _ from x)
 | ext φ=>obtain⟨_,⟨_,e⟩,_⟩:=x;exact Heap.lt_size e
theorem Paired.mapP{α β:Type}{F G:α->β->Prop}:∀ {l₁:List α}{l₂:List β},Paired F l₁ l₂->(∀ a b,F a b->G a b)->Paired G l₁ l₂
 | _,_,.nil,_=>.nil
 | _,_,.cons r t,f=>.cons (f _ _ r) (Paired.mapP t f)
theorem bY.stay(x:bY P w H h a o)(k:∀ b u,(b=a\/H b=some (.own a))->h.get? b=some u->h'.get? b=some u)
  (ho:∀ b,H b=some (.own a)->H' b=some (.own a))(ht:∀ b xs,H b=some (.tup xs)->H' b=some (.tup xs)):bY P w H' h' a o:=by
 induction o with
 | lst xs=>obtain⟨z,its,n,r,e⟩:=x;exact⟨z,its,n,r,k _ _ (.inl rfl) e⟩
 | tup xs=>obtain⟨z,its,r,ob,e,c⟩:=x;exact⟨z,its,r,ob,k _ _ (.inl rfl) e,c⟩
 | dK kvs=>obtain⟨z,y,vs,r,ob,es,ep,e,c⟩:=x;exact⟨z,y,vs,r,ob,es,ep,k _ _ (.inl rfl) e,c⟩
 | dT kvs =>
  obtain⟨z,y,xs,r,ob,es,ep,e,c⟩:=x
  exact⟨z,y,xs,Paired.mapP r fun p q z=>⟨z.1,ht _ _ z.2.1,z.2.2⟩,ob,es,ep,k _ _ (.inl rfl) e,c⟩
 | set S n=>obtain⟨ob,es,ep,t,e,c⟩:=x;exact⟨ob,es,ep,t,k _ _ (.inl rfl) e,c⟩
 | ins C dx fs =>
  obtain⟨d,z,ne,e,mA,⟨od,es,ep,e2,c⟩,r⟩:=x
  exact⟨ho _ d,z,ne,k _ _ (.inl rfl) e,mA,⟨od,es,ep,k _ _ (.inr d) e2,c⟩,r⟩
 | own y=>obtain⟨ob,e⟩:=x;exact⟨ob,k _ _ (.inl rfl) e⟩
 | xd fs=>obtain⟨mA,⟨od,es,ep,e,c⟩,r⟩:=x;exact⟨mA,⟨od,es,ep,k _ _ (.inl rfl) e,c⟩,r⟩
 | rng lo hi=>obtain⟨t,u,v,e⟩:=x;exact⟨t,u,v,k _ _ (.inl rfl) e⟩
 | frz ob u ih=>obtain⟨e,q⟩:=x;exact⟨k _ _ (.inl rfl) e,ih q⟩
 | tbl ps =>
  have e:h.get? a=some { cls:=.none,data:=.fields ps }:=x
  show h'.get? a=some { cls:=.none,data:=.fields ps }
  exact k a _ (.inl rfl) e
 | met f y =>
  have e:h.get? a=some (PySem.W.methodObj (.ref f) (.ref y)):=x
  show h'.get? a=some (PySem.W.methodObj (.ref f) (.ref y))
  exact k a _ (.inl rfl) e
 | ext φ=>obtain⟨p,⟨o,e⟩,st⟩:=x;exact⟨st _ _ p fun o q=>k _ _ (.inl rfl) q,⟨o,k _ _ (.inl rfl) e⟩,st⟩
theorem iJ.lt(x:iJ P w H h)(e:H a=some o):a<h.objs.size:=(x a o e).lt
theorem iJ.fresh(x:iJ P w H h)(e:h.objs.size<=a):H a=none:=by
 cases q:H a with
 | none=>rfl
 | some u=>exact absurd (Nat.lt_of_lt_of_le (x.lt q) e) (Nat.lt_irrefl _)
theorem iJ.kept(x:iJ P w H h)(k:∀ b u,h.get? b=some u->h'.get? b=some u):iJ P w H h':=fun a o e =>
 (x a o e).stay (fun b u _ q=>k b u q) (fun _ q=>q) fun _ _ q=>q
theorem iJ.laid(x:iJ P w H h)(k:∀ b u,h.get? b=some u->h'.get? b=some u)(hp:h.objs.size<=a)(new:bY P w (upd H a o) h' a o):iJ P w (upd H a o) h':=fun b u e=>by
 have hn:=x.fresh hp
 by_cases hb:b=a
 ·subst hb;rw[aY] at e;cases e;exact new
 ·rw[aG hb] at e
  exact (x b u e).stay (fun c v _ q=>k c v q) (fun c q=>by rw[aG (ai q hn)];exact q) fun c xs q=>by rw[aG (ai q hn)];exact q
end
def Rd(H:Hp)(a:Addr)(u:HO):Prop:=H a=some u \/ ∃ o,H a=some (.frz o u)
theorem Rd.ok{P:Program}{w:World}{H:Hp}{h:Heap}{a:Addr}{u:HO}(r:Rd H a u)(x:iJ P w H h):bY P w H h a u:=by
 rcases r with r|⟨o,r⟩
 ·exact x a u r
 ·obtain⟨_,q⟩:=x a _ r
  exact q
def Ee:Option HO->Prop
 | some (.lst _)=>True
 | some (.dK _)=>True
 | some (.dT _)=>True
 | some (.set _ _)=>True
 | some (.ins _ _ _)=>True
 | some (.ext _)=>True
 | _=>False
section
variable {P:Program}{w:World}{H:Hp}{h h':Heap}{x e:Addr}{o':HO}
theorem iJ.write(ok:iJ P w H h)(mu:Ee (H x))(he:e=x\/H e=some (.own x))(k:∀ b u,b ≠ e->h.get? b=some u->h'.get? b=some u)(heo:∃ u,h'.get? e=some u)
  (new:bY P w (upd H x o') h' x o'):iJ P w (upd H x o') h':=fun b u q=>by
 have nown:∀ c y,H c=some (.own y)->c ≠ x:=fun c y r z=>by subst z;rw[r] at mu;exact mu
 have ntup:∀ c xs,H c=some (.tup xs)->c ≠ x:=fun c xs r z=>by subst z;rw[r] at mu;exact mu
 by_cases hb:b=x
 ·subst hb;rw[aY] at q;cases q;exact new
 ·rw[aG hb] at q
  by_cases hbe:b=e
  ·have q':H b=some (.own x):=by
    rcases he with z|z
    ·exact absurd (hbe.trans z) hb
    ·rw[hbe];exact z
   rw[q] at q';cases q'
   obtain⟨v,hv⟩:=heo
   exact⟨v,by rw[hbe];exact hv⟩
  ·refine (ok b u q).stay (fun c v hc r=>k c v ?_ r) (fun c r=>by rw[aG (nown c b r)];exact r) fun c xs r=>by rw[aG (ntup c xs r)];exact r
   rcases hc with rfl|hc
   ·exact hbe
   ·rintro rfl
    rcases he with z|z
    ·exact nown c b hc z
    ·rw[hc] at z;cases z;exact hb rfl
end
structure Un (fs ex:List Addr)(H H':Hp)(h h':Heap):Prop where
 keep:∀ b o,h.get? b=some o->H b=none->b ∉ fs->b ∉ ex->h'.get? b=some o
 slot:∀ b o,h.get? b=some o->H b=none->b ∈ fs->b ∉ ex -> ∃ sl,h'.get? b=some { o with slots:=sl }
 free:∀ b o,h.get? b=some o->H b=none->b ∉ ex->H' b=none
 there:∀ b o,h.get? b=some o->b ∉ ex -> ∃ o',h'.get? b=some o'
 tups:∀ b xs,H b=some (.tup xs)->H' b=some (.tup xs)
 frzs:∀ b o u,H b=some (.frz o u)->H' b=some (.frz o u)
 tbls:∀ b ps,H b=some (.tbl ps) -> ∃ more,H' b=some (.tbl (ps ++ more))
section
variable {fs fs' ex ex':List Addr}{H H1 H2:Hp}{h h1 h2 h':Heap}{a x e:Addr}{o:HO}
theorem Un.any(u:Un fs ex H H1 h h1) {b:Addr}{ob:Obj}(q:h.get? b=some ob)(n:H b=none)(hx:b ∉ ex):∃ sl,h1.get? b=some { ob with slots:=sl }:=by
 by_cases hb:b ∈ fs
 ·exact u.slot b ob q n hb hx
 ·exact⟨ob.slots,u.keep b ob q n hb hx⟩
theorem Un.kept(k:∀ b u,h.get? b=some u->h'.get? b=some u):Un fs ex H H h h' :=
 ⟨fun b ob q _ _ _=>k b ob q,fun b ob q _ _ _=>⟨ob.slots,k b ob q⟩,fun _ _ _ n _=>n,fun b ob q _=>⟨ob,k b ob q⟩,fun _ _ q=>q,fun _ _ _ q=>q,fun _ ps q=>⟨#[],by rw[q];simp⟩⟩
theorem Un.refl:Un fs ex H H h h:=Un.kept fun _ _ q=>q
theorem Un.laid(k:∀ b u,h.get? b=some u->h'.get? b=some u)(hp:h.objs.size<=a)(hn:H a=none):Un fs ex H (upd H a o) h h' where
 keep:=fun b u q _ _ _=>k b u q
 slot:=fun b u q _ _ _=>⟨u.slots,k b u q⟩
 free:=fun b u q n _=>by rw[aG (Nat.ne_of_lt (Nat.lt_of_lt_of_le (Heap.lt_size q) hp))];exact n
 there:=fun b u q _=>⟨u,k b u q⟩
 tups:=fun b xs q=>by rw[aG (ai q hn)];exact q
 frzs:=fun b u xs q=>by rw[aG (ai q hn)];exact q
 tbls:=fun b ps q=>⟨#[],by rw[aG (ai q hn),q];simp⟩
theorem Un.write(mu:Ee (H x))(he:e=x\/H e=some (.own x))(k:∀ b u,b ≠ e->h.get? b=some u->h'.get? b=some u)(heo:∃ u,h'.get? e=some u):Un fs ex H (upd H x o) h h':=by
 have hx:∀ b,H b=none->b ≠ x:=fun b n z=>by subst z;rw[n] at mu;exact mu
 have hb:∀ b,H b=none->b ≠ e:=fun b n z=>by
  subst z
  rcases he with r|r
  ·exact hx b n r
  ·rw[n] at r;cases r
 have hm:∀ b u,H b=some u -> ¬ Ee (some u)->b ≠ x:=fun b u q nm z=>by subst z;rw[q] at mu;exact nm mu
 refine⟨fun b u q n _ _=>k b u (hb b n) q,fun b u q n _ _=>⟨u.slots,k b u (hb b n) q⟩,fun b u q n _=>by rw[aG (hx b n)];exact n,fun b u q _=>?_,
  fun b xs q=>by rw[aG (hm b _ q fun z=>z)];exact q,fun b u xs q=>by rw[aG (hm b _ q fun z=>z)];exact q,fun b ps q=>⟨#[],by rw[aG (hm b _ q fun z=>z),q];simp⟩⟩
 by_cases hbe:b=e
 ·subst hbe;exact heo
 ·exact⟨u,k b u hbe q⟩
end
def ES(h:Heap)(H:Hp):List Addr:=(List.range h.objs.size).filter fun a=>(H a).isSome
def lN(h:Heap)(H:Hp):Heap:=PySem.W.hideAll h (ES h H)
theorem uB(h:Heap)(H:Hp):(lN h H).objs.size=h.objs.size:=PySem.W.hideAll_size _ _
theorem ya{h:Heap}{H:Hp}{b:Addr}{o:Obj}(e:h.get? b=some o)(n:H b=none):(lN h H).get? b=some o :=
 PySem.W.hideAll_get _ e fun hm=>by
  have q:(H b).isSome=true:=(List.mem_filter.mp hm).2
  rw[n] at q;simp at q
theorem zA{h:Heap}{H:Hp}{b:Addr}{o:Obj}(e:(lN h H).get? b=some o):h.get? b=some o/\H b=none:=by
 have e':h.get? b=some o:=PySem.W.of_hideAll (ES h H) e
 refine⟨e',?_⟩
 cases q:H b with
 | none=>rfl
 | some x =>
  have hm:b ∈ ES h H:=List.mem_filter.mpr ⟨List.mem_range.mpr (Heap.lt_size e'),by simp[q]⟩
  have z:(lN h H).get? b=none:=PySem.W.hideAll_none (ES h H) hm
  rw[z] at e;cases e
def zH(g h:Heap)(L:Addr):List (Addr × Obj):=(List.range h.objs.size).filterMap fun a=>if a=L\/(g.get? a).isSome=true then none else (h.get? a).map fun o=>(a,o)
def rest(g h:Heap)(L d:Addr):List (Addr × Obj):=(zH g h L).filter fun p=>decide (p.1 ≠ d)
end L2
namespace L2
open PySem PySem.Spec PyProof.Rows
structure Mod (K:W.Frag)(mg:Str->Option Value)(base:Heap):Prop where
 kin:K.In base
 glob:base.Ns mainGlobals mg
 blt:∃ mb,base.Ns builtinsNs mb /\ ∀ x:Str,x ≠ "__name__" -> mb x=bootBuiltins x
 nolimit:base.NoLimit
structure Cx where
 prog:Program
 w:World
 K:W.Frag
 mg:Str->Option Value
 base:Heap
 A:Around
 N:List Str
 s₀:Shared
 H₀:Hp
 env:Env
 outer:List Env
 stack:List Env
 ex:List Addr
 fn:Str->Bool
 calm:Bool
 pn:List (Addr × Obj)
 xe:Value->Shared->Prop
def gg(l:List Env):List Addr:=l.filterMap (·.frame)
abbrev Cx.fs (X:Cx):List Addr:=gg X.outer
def Dg(sc:Scope)(x:Str):Prop:=sc.names.lookup x=some .local\/sc.names.lookup x=some .cell\/sc.names.lookup x=some .free
def yA(sc:Scope)(x:Str):Prop:=sc.names.lookup x=some .local\/sc.names.lookup x=some .cell
def DZ(env:Env)(h:Heap)(m:Str->Option Value)(x:Str)(u:Value):Prop :=
 (env.kindOf x=some .local/\m x=some u)\/((env.kindOf x=some .cell\/env.kindOf x=some .free) /\ ∃ c,env.cells.lookup x=some c/\h.IsCell c (some u))
structure Cx.Ok (X:Cx):Prop where
 mod:Mod X.K X.mg X.base
 kind:X.env.scope.kind = .function
 glob:X.env.globals=mainGlobals
 blt:X.env.builtins=builtinsNs
 above:X.s₀.heap.objs.size<=X.env.locals
 inj:∀ x y c,X.env.cells.lookup x=some c->X.env.cells.lookup y=some c->x=y
 has:∀ x,(X.env.kindOf x=some .cell\/X.env.kindOf x=some .free) -> ∃ c,X.env.cells.lookup x=some c
 cab:∀ x c,X.fn x=true->X.env.cells.lookup x=some c->X.s₀.heap.objs.size<=c
 hd:X.calm=true->X.A.handled=none
 frames:X.A.frames=some X.stack
 stk:X.stack=X.outer\/(X.stack=X.env :: X.outer/\X.env.frame=some X.env.locals)
 exf:∀ b ∈ X.ex,b ≠ X.env.locals /\ ∀ x c,X.env.cells.lookup x=some c->c ≠ b
 bs:∀ b o,X.base.get? b=some o->X.s₀.heap.get? b=some o/\X.H₀ b=none
 bsz:X.base.objs.size<=X.s₀.heap.objs.size
 noex:∀ b o,X.base.get? b=some o->b ∉ X.ex
 exfs:∀ b ∈ X.ex,b ∉ X.fs
 funs:X.s₀.heap.FunFrames X.base X.outer
 frf:∀ b ∈ X.fs,X.H₀ b=none
structure aw (X:Cx)(pins:List (Addr × Obj))(σ:List (Option V))(H:Hp)(s:Shared):Prop where
 ok:X.Ok
 os:s.os=X.s₀.os
 bare:AllBare s.gens
 base:Un X.fs X.ex X.H₀ H X.s₀.heap s.heap
 loc:∃ m,s.heap.Ns X.env.locals m /\ ∀ (i:Nat)(x:Str)(v:V),X.N[i]? = some x->σ[i]? = some (some v)->Dg X.env.scope x -> ∃ u,aS v u/\DZ X.env s.heap m x u
 cell:∀ x c,X.env.cells.lookup x=some c -> ∃ v,s.heap.IsCell c v
 free:H X.env.locals=none
 freeC:∀ x c,X.env.cells.lookup x=some c->H c=none
 pin:∀ p ∈ X.pn ++ pins,s.heap.get? p.1=some p.2/\H p.1=none/\p.1 ≠ X.env.locals/\p.1 ∉ X.fs /\ ∀ v,p.2.data ≠ .cell v
 hok:iJ X.prog X.w H s.heap
 len:σ.length=X.N.length
section
variable {X:Cx}{pins:List (Addr × Obj)}{σ:List (Option V)}{H H':Hp}{s:Shared}{h':Heap}
theorem Cx.Ok.nofr(ok:X.Ok){b:Addr}{o:Obj}(e:X.base.get? b=some o):b ∉ X.fs:=fun hb=>by
 have:=(ok.funs.mem hb).1
 rw[e] at this;cases this
theorem aw.bs(I:aw X pins σ H s):∀ b o,X.base.get? b=some o->s.heap.get? b=some o/\H b=none:=fun b o e =>
 ⟨I.base.keep b o (I.ok.bs b o e).1 (I.ok.bs b o e).2 (I.ok.nofr e) (I.ok.noex b o e),I.base.free b o (I.ok.bs b o e).1 (I.ok.bs b o e).2 (I.ok.noex b o e)⟩
theorem aw.bk(I:aw X pins σ H s):∀ b o,X.base.get? b=some o->s.heap.get? b=some o:=fun b o e=>(I.bs b o e).1
theorem aw.mod(I:aw X pins σ H s):Mod X.K X.mg X.base:=I.ok.mod
theorem aw.kIn(I:aw X pins σ H s):X.K.In s.heap:=I.ok.mod.kin.keeps I.bk
theorem aw.nolimit(I:aw X pins σ H s):s.heap.NoLimit:=I.ok.mod.nolimit.keeps I.bk
theorem aw.lt(I:aw X pins σ H s):X.env.locals<s.heap.objs.size:=let ⟨_,hn,_⟩:=I.loc;hn.lt
theorem aw.sz(I:aw X pins σ H s):X.s₀.heap.objs.size<=s.heap.objs.size:=Nat.le_trans I.ok.above (Nat.le_of_lt I.lt)
theorem aw.nofs(I:aw X pins σ H s) {a:Addr}(h:s.heap.objs.size<=a):a ∉ X.fs:=fun hb=>by
 obtain⟨_,o,ho,_⟩:=I.ok.funs.mem hb
 exact absurd (Nat.lt_of_lt_of_le (Heap.lt_size ho) (Nat.le_trans I.sz h)) (Nat.lt_irrefl _)
theorem aw.cne(I:aw X pins σ H s):∀ x c,X.env.cells.lookup x=some c->c ≠ X.env.locals:=fun x c e z=>by
 obtain⟨v,o,ho,hd⟩:=I.cell x c e
 obtain⟨m,⟨o',es,ep,ho',hd',_⟩,_⟩:=I.loc
 rw[z,ho'] at ho;cases ho;rw[hd'] at hd;cases hd
theorem aw.funs(I:aw X pins σ H s):s.heap.FunFrames X.base X.outer:=by
 have all:∀ (l:List Env),(∀ b ∈ gg l,b ∈ X.fs)->X.s₀.heap.FunFrames X.base l->s.heap.FunFrames X.base l:=by
  intro l
  induction l with
  | nil=>intro _ _;trivial
  | cons env r ih =>
   intro hs hl
   obtain⟨hk,⟨L,o,hf,hn,ho,hd⟩,hr⟩:=hl
   have hL:L ∈ X.fs:=hs L (by unfold gg;rw[List.filterMap_cons,hf];exact List.mem_cons_self)
   obtain⟨sl,e⟩:=I.base.slot L o ho (I.ok.frf L hL) hL fun z=>I.ok.exfs L z hL
   exact⟨hk,⟨L,_,hf,hn,e,hd⟩,ih (fun b hb=>hs b (by unfold gg;rw[List.filterMap_cons,hf];exact List.mem_cons_of_mem _ hb)) hr⟩
 exact all X.outer (fun _ hb=>hb) I.ok.funs
theorem aw.stack(I:aw X pins σ H s):s.heap.FunFrames X.base X.stack:=by
 rcases I.ok.stk with e|⟨e,hf⟩
 ·rw[e];exact I.funs
 ·rw[e]
  obtain⟨m,hn,_⟩:=I.loc
  refine .cons (by rw[I.ok.kind];decide) hf hn ?_ I.funs
  exact Heap.get?_none_of_le (Nat.le_trans I.ok.bsz I.ok.above)
theorem aw.stkSub(I:aw X pins σ H s):∀ b ∈ gg X.stack,b ∈ X.env.locals :: X.fs:=fun b hb=>by
 rcases I.ok.stk with e|⟨e,hf⟩
 ·rw[e] at hb;exact List.mem_cons_of_mem _ hb
 ·rw[e] at hb
  unfold gg at hb
  rw[List.filterMap_cons,hf] at hb
  exact hb
theorem aw.stkFree(I:aw X pins σ H s):∀ b ∈ gg X.stack,H b=none:=fun b hb=>by
 rcases List.mem_cons.mp (I.stkSub b hb) with e|hb
 ·rw[e];exact I.free
 ·obtain⟨_,o,ho,_⟩:=I.ok.funs.mem hb
  exact I.base.free b o ho (I.ok.frf b hb) fun z=>I.ok.exfs b z hb
theorem aw.step{g':Array GenState}{t':Nat}{d':Drawn}{ch:List Addr}(I:aw X pins σ H s)
  (hch:∀ b ∈ ch,(b ∈ X.ex\/X.s₀.heap.objs.size<=b)/\b ≠ X.env.locals/\(∀ x c,X.env.cells.lookup x=some c->c ≠ b) /\ ∀ p ∈ X.pn ++ pins,p.1 ≠ b)
  (keep:∀ b o,b ≠ X.env.locals->b ∉ X.fs->b ∉ ch->s.heap.get? b=some o->H b=none->h'.get? b=some o)
  (slot:∀ b o,b ≠ X.env.locals->b ∈ X.fs->b ∉ ch->s.heap.get? b=some o->H b=none -> ∃ sl,h'.get? b=some { o with slots:=sl })(free:∀ b o,b ∉ ch->s.heap.get? b=some o->H b=none->H' b=none)
  (there:∀ b o,b ∉ ch->s.heap.get? b=some o -> ∃ o',h'.get? b=some o')
  (tups:∀ b xs,H b=some (.tup xs)->H' b=some (.tup xs))(frzs:∀ b o u,H b=some (.frz o u)->H' b=some (.frz o u))(tbls:∀ b ps,H b=some (.tbl ps) -> ∃ more,H' b=some (.tbl (ps ++ more)))
  (ns:∀ m,s.heap.Ns X.env.locals m->h'.Ns X.env.locals m)(hok:iJ X.prog X.w H' h')(hg:AllBare g') :
  aw X pins σ H' { s with heap:=h',gens:=g',drawn:=d',toks:=t' }:=by
 have neL:∀ b o,X.s₀.heap.get? b=some o->b ≠ X.env.locals:=fun b o e=>Nat.ne_of_lt (Nat.lt_of_lt_of_le (Heap.lt_size e) I.ok.above)
 have neC:∀ b o,X.s₀.heap.get? b=some o->b ∉ X.ex->b ∉ ch:=fun b o e hx hb=>by
  rcases (hch b hb).1 with z|z
  ·exact hx z
  ·exact absurd (Nat.lt_of_lt_of_le (Heap.lt_size e) z) (Nat.lt_irrefl _)
 have cellK:∀ x c,X.env.cells.lookup x=some c -> ∀ v,s.heap.IsCell c v->h'.IsCell c v:=fun x c e v ⟨o,ho,hd⟩=>by
  have nch:c ∉ ch:=fun z=>(hch c z).2.2.1 x c e rfl
  by_cases hc:c ∈ X.fs
  ·obtain⟨sl,q⟩:=slot c o (I.cne x c e) hc nch ho (I.freeC x c e)
   exact⟨_,q,hd⟩
  ·exact⟨o,keep c o (I.cne x c e) hc nch ho (I.freeC x c e),hd⟩
 refine⟨I.ok,I.os,hg,⟨fun b o e n hb hx=>?_,fun b o e n hb hx=>?_,fun b o e n hx=>?_,fun b o e hx=>?_,fun b xs e=>tups b xs (I.base.tups b xs e),fun b o xs e=>frzs b o xs (I.base.frzs b o xs e),fun b ps e=>?_⟩,?_,fun x c e=>?_,?_,fun x c e=>?_,fun p hp=>?_,hok,I.len⟩
 ·exact keep b o (neL b o e) hb (neC b o e hx) (I.base.keep b o e n hb hx) (I.base.free b o e n hx)
 ·obtain⟨sl,e1⟩:=I.base.slot b o e n hb hx
  obtain⟨sl',e2⟩:=slot b _ (neL b o e) hb (neC b o e hx) e1 (I.base.free b o e n hx)
  exact⟨sl',e2⟩
 ·obtain⟨o',e1⟩:=I.base.there b o e hx
  exact free b o' (neC b o e hx) e1 (I.base.free b o e n hx)
 ·obtain⟨o',e1⟩:=I.base.there b o e hx
  exact there b o' (neC b o e hx) e1
 ·obtain⟨m1,e1⟩:=I.base.tbls b ps e
  obtain⟨m2,e2⟩:=tbls b _ e1
  exact⟨m1 ++ m2,by rw[e2,Array.append_assoc]⟩
 ·obtain⟨m,hn,hl⟩:=I.loc
  refine⟨m,ns m hn,fun i x v e1 e2 e3=>?_⟩
  obtain⟨u,r,l⟩:=hl i x v e1 e2 e3
  refine⟨u,r,?_⟩
  rcases l with l|⟨k,c,e,z⟩
  ·exact .inl l
  ·exact .inr ⟨k,c,e,cellK x c e _ z⟩
 ·obtain⟨v,z⟩:=I.cell x c e
  exact⟨v,cellK x c e v z⟩
 ·obtain⟨m,⟨o,_,_,ho,_⟩,_⟩:=I.loc
  exact free _ o (fun z=>(hch _ z).2.1 rfl) ho I.free
 ·obtain⟨v,o,ho,hd⟩:=I.cell x c e
  exact free c o (fun z=>(hch c z).2.2.1 x c e rfl) ho (I.freeC x c e)
 ·obtain⟨e,n,ne,nf,d⟩:=I.pin p hp
  have nch:p.1 ∉ ch:=fun z=>(hch p.1 z).2.2.2 p hp rfl
  exact⟨keep p.1 p.2 ne nf nch e n,free p.1 p.2 nch e n,ne,nf,d⟩
theorem aw.un{t':Nat}(I:aw X pins σ H s)(u:Un X.fs [] H H' s.heap h')(hok:iJ X.prog X.w H' h'):aw X pins σ H' { s with heap:=h',toks:=t' }:=by
 obtain⟨m,⟨o,es,ep,ho,r⟩,_⟩:=id I.loc
 obtain⟨sl,hL⟩:=u.any ho I.free (by simp)
 exact I.step (g':=s.gens) (d':=s.drawn) (ch:=[]) (fun _ z=>nomatch z) (fun b o _ hb _ e n=>u.keep b o e n hb (by simp)) (fun b o _ hb _ e n=>u.slot b o e n hb (by simp)) (fun b o _ e n=>u.free b o e n (by simp)) (fun b o _ e=>u.there b o e (by simp)) u.tups u.frzs u.tbls (fun m' hm=>by
  obtain⟨o',es',ep',ho',r'⟩:=hm
  rw[ho] at ho';cases ho'
  exact⟨_,es',ep',hL,r'⟩) hok I.bare
theorem aw.call{g':Array GenState}{t':Nat}{d':Drawn}{ch:List Addr}(I:aw X pins σ H s)(u:Un (gg X.stack) ch H H' s.heap h')(hok:iJ X.prog X.w H' h')(hg:AllBare g')
  (hch:∀ b ∈ ch,(b ∈ X.ex\/X.s₀.heap.objs.size<=b)/\b ≠ X.env.locals/\(∀ x c,X.env.cells.lookup x=some c->c ≠ b) /\ ∀ p ∈ X.pn ++ pins,p.1 ≠ b) :
  aw X pins σ H' { s with heap:=h',gens:=g',drawn:=d',toks:=t' }:=by
 obtain⟨m,⟨o,es,ep,ho,r⟩,_⟩:=id I.loc
 obtain⟨sl,hL⟩:=u.any ho I.free fun z=>(hch _ z).2.1 rfl
 exact I.step (ch:=ch) hch (fun b o hL hb hc e n=>u.keep b o e n (fun z=>(List.mem_cons.mp (I.stkSub b z)).elim hL hb) hc) (fun b o _ _ hc e n=>u.any e n hc) (fun b o hc e n=>u.free b o e n hc) (fun b o hc e=>u.there b o e hc) u.tups u.frzs u.tbls (fun m' hm=>by
  obtain⟨o',es',ep',ho',r'⟩:=hm
  rw[ho] at ho';cases ho'
  exact⟨_,es',ep',hL,r'⟩) hok hg
theorem aw.turned{t':Nat}{it:Addr}(I:aw X pins σ H s)(k:∀ b o,b ≠ it->s.heap.get? b=some o->h'.get? b=some o)(hn:H it=none)(hL:it ≠ X.env.locals)
  (h1:it ∈ X.ex\/X.s₀.heap.objs.size<=it)(h2:∀ x c,X.env.cells.lookup x=some c->c ≠ it)(h3:∀ p ∈ X.pn ++ pins,p.1 ≠ it):aw X pins σ H { s with heap:=h',toks:=t' }:=by
 have nit:∀ b u,H b=some u->b ≠ it:=fun b u e z=>by rw[z,hn] at e;cases e
 refine I.step (g':=s.gens) (d':=s.drawn) (ch:=[it]) (fun b hb=>?_) (fun b o _ _ hc e _=>k b o (fun z=>hc (by simp[z])) e) (fun b o _ _ hc e _=>⟨o.slots,k b o (fun z=>hc (by simp[z])) e⟩) (fun _ _ _ _ n=>n)
  (fun b o hc e=>⟨o,k b o (fun z=>hc (by simp[z])) e⟩) (fun _ _ e=>e) (fun _ _ _ e=>e) (fun b ps e=>⟨#[],by rw[e];simp⟩) (fun m hm=>?_) (fun b u e=>?_) I.bare
 ·have e:b=it:=by simpa using hb
  subst e
  exact⟨h1,hL,h2,h3⟩
 ·obtain⟨o,es,ep,ho,r⟩:=hm
  exact⟨o,es,ep,k _ o (Ne.symm hL) ho,r⟩
 ·refine (I.hok b u e).stay (fun c v hc q=>k c v ?_ q) (fun _ q=>q) fun _ _ q=>q
  rcases hc with z|z
  ·rw[z];exact nit b u e
  ·exact nit c _ z
theorem aw.tok(I:aw X pins σ H s)(t:Nat):aw X pins σ H { s with toks:=t }:=I.un (h':=s.heap) (t':=t) Un.refl I.hok
theorem aw.kept{t':Nat}(I:aw X pins σ H s)(k:∀ b u,s.heap.get? b=some u->h'.get? b=some u):aw X pins σ H { s with heap:=h',toks:=t' }:=I.un (Un.kept k) (I.hok.kept k)
theorem aw.laid{a:Addr}{o:HO}{t':Nat}(I:aw X pins σ H s)(k:∀ b u,s.heap.get? b=some u->h'.get? b=some u)(hp:s.heap.objs.size<=a)(new:bY X.prog X.w (upd H a o) h' a o) :
  aw X pins σ (upd H a o) { s with heap:=h',toks:=t' }:=I.un (Un.laid k hp (I.hok.fresh hp)) (I.hok.laid k hp new)
theorem aw.write{x e:Addr}{o:HO}{t':Nat}(I:aw X pins σ H s)(mu:Ee (H x))(he:e=x\/H e=some (.own x))(k:∀ b u,b ≠ e->s.heap.get? b=some u->h'.get? b=some u)(heo:∃ u,h'.get? e=some u)
  (new:bY X.prog X.w (upd H x o) h' x o):aw X pins σ (upd H x o) { s with heap:=h',toks:=t' }:=I.un (Un.write mu he k heo) (I.hok.write mu he k heo new)
theorem aw.pins_of{pins':List (Addr × Obj)}(I:aw X pins σ H s)(h:∀ p ∈ pins',s.heap.get? p.1=some p.2/\H p.1=none/\p.1 ≠ X.env.locals/\p.1 ∉ X.fs /\ ∀ v,p.2.data ≠ .cell v):aw X pins' σ H s :=
 ⟨I.ok,I.os,I.bare,I.base,I.loc,I.cell,I.free,I.freeC,fun p hp=>(List.mem_append.mp hp).elim (fun z=>I.pin p (List.mem_append_left _ z)) (h p),I.hok,I.len⟩
theorem qq{N:List Str}(hN:N.Nodup) {i j:Nat}{x:Str}(a:N[i]? = some x)(b:N[j]? = some x):i=j:=by
 obtain⟨h1,e1⟩:=List.getElem?_eq_some_iff.mp a
 obtain⟨h2,e2⟩:=List.getElem?_eq_some_iff.mp b
 exact (List.getElem_inj hN).mp (e1.trans e2.symm)
theorem mK{M:Model}{A:Around}{E:Value->Shared->Prop}{i:Nat}{x:Str}{v:V}{u:Value}{Q:Unit->Shared->Prop}(I:aw X pins σ H s)(hN:X.N.Nodup)(hi:X.N[i]? = some x)(hx:yA X.env.scope x)(r:aS v u)
  (h:∀ s',aw X pins (σ.set i (some v)) H s'->(∃ a,Heap.SameBut a s.heap s'.heap/\(a=X.env.locals\/X.env.cells.lookup x=some a))->Q () s')(hf:X.fn x=true\/X.env.scope.names.lookup x=some .local:=by first|exact .inl rfl|exact .inr rfl|assumption):wpAny M A (storeName X.env x u) Q E s:=by
 obtain⟨m,hn,hl⟩:=id I.loc
 have hcls:(X.env.scope.kind == .class || (X.env.scope.kind == .module && X.env.locals != X.env.globals))=false:=by rw[I.ok.kind];rfl
 have hiσ:i<σ.length:=by rw[I.len];exact (List.getElem?_eq_some_iff.mp hi).1
 have cne:=I.cne
 have tracked:∀ {a:Addr}{h':Heap},(∃ o,s.heap.get? a=some o/\H a=none)->Heap.SameBut a s.heap h'->iJ X.prog X.w H h':=fun {a h'} ha hs b ob e=>by
  obtain⟨_,_,hfree⟩:=ha
  refine (I.hok b ob e).stay (fun c w' hc q=>(hs.2 c ?_).trans q) (fun _ q=>q) fun _ _ q=>q
  rintro rfl
  rcases hc with rfl|hc
  ·rw[hfree] at e;cases e
  ·rw[hfree] at hc;cases hc
 rcases hx with hk|hk
 ·refine wpAny_storeName_local hk hn (fun h' hn' hs=>?_) hcls
  obtain⟨oL,_,_,hoL,_⟩:=id hn
  refine h _ ⟨I.ok,I.os,I.bare,⟨fun b o e n hb hx=>?_,fun b o e n hb hx=>?_,I.base.free,fun b o e hx=>?_,I.base.tups,I.base.frzs,I.base.tbls⟩,⟨_,hn',fun j y v' e1 e2 e3=>?_⟩,fun y c e=>?_,I.free,I.freeC,fun p hp=>?_,tracked ⟨oL,hoL,I.free⟩ hs,by simpa using I.len⟩ ⟨_,hs,.inl rfl⟩
  ·exact (hs.2 b (Nat.ne_of_lt (Nat.lt_of_lt_of_le (Heap.lt_size e) I.ok.above))).trans (I.base.keep b o e n hb hx)
  ·obtain⟨sl,e1⟩:=I.base.slot b o e n hb hx
   exact⟨sl,(hs.2 b (Nat.ne_of_lt (Nat.lt_of_lt_of_le (Heap.lt_size e) I.ok.above))).trans e1⟩
  ·obtain⟨o',e1⟩:=I.base.there b o e hx
   exact⟨o',(hs.2 b (Nat.ne_of_lt (Nat.lt_of_lt_of_le (Heap.lt_size e) I.ok.above))).trans e1⟩
  ·by_cases hj:j=i
   ·subst hj
    rw[hi] at e1;cases e1
    rw[List.getElem?_set_self hiσ] at e2
    cases e2
    exact⟨u,r,.inl ⟨hk,by simp⟩⟩
   ·rw[List.getElem?_set_ne (Ne.symm hj)] at e2
    obtain⟨u',r',q⟩:=hl j y v' e1 e2 e3
    refine⟨u',r',?_⟩
    rcases q with ⟨k,e⟩|⟨k,c,e,z⟩
    ·refine .inl ⟨k,?_⟩
     have:y ≠ x:=fun e=>hj (qq hN e1 (e ▸ hi))
     simp[this,e]
    ·exact .inr ⟨k,c,e,z.sameBut hs (cne y c e)⟩
  ·obtain⟨w',z⟩:=I.cell y c e
   exact⟨w',z.sameBut hs (cne y c e)⟩
  ·obtain⟨e,n,ne,nf,d⟩:=I.pin p hp
   exact⟨(hs.2 p.1 ne).trans e,n,ne,nf,d⟩
 ·have hfn:X.fn x=true:=by
   rcases hf with z|z
   ·exact z
   ·rw[z] at hk;cases hk
  obtain⟨c,hc⟩:=I.ok.has x (.inl hk)
  obtain⟨w',z⟩:=I.cell x c hc
  refine wpAny_storeName_cell I.ok.kind hk hc z (fun h' hc' hs=>?_)
  obtain⟨oc,hoc,hocd⟩:=id z
  refine h { s with heap:=h' } ⟨I.ok,I.os,I.bare,⟨fun b o e n hb hx=>?_,fun b o e n hb hx=>?_,I.base.free,fun b o e hx=>?_,I.base.tups,I.base.frzs,I.base.tbls⟩,⟨m,hn.sameBut hs (Ne.symm (cne x c hc)),fun j y v' e1 e2 e3=>?_⟩,fun y c' e=>?_,I.free,I.freeC,fun p hp=>?_,tracked ⟨oc,hoc,I.freeC x c hc⟩ hs,by simpa using I.len⟩ ⟨c,hs,.inr hc⟩
  ·exact (hs.2 b (Nat.ne_of_lt (Nat.lt_of_lt_of_le (Heap.lt_size e) (I.ok.cab x c hfn hc)))).trans (I.base.keep b o e n hb hx)
  ·obtain⟨sl,e1⟩:=I.base.slot b o e n hb hx
   exact⟨sl,(hs.2 b (Nat.ne_of_lt (Nat.lt_of_lt_of_le (Heap.lt_size e) (I.ok.cab x c hfn hc)))).trans e1⟩
  ·obtain⟨o',e1⟩:=I.base.there b o e hx
   exact⟨o',(hs.2 b (Nat.ne_of_lt (Nat.lt_of_lt_of_le (Heap.lt_size e) (I.ok.cab x c hfn hc)))).trans e1⟩
  ·by_cases hj:j=i
   ·subst hj
    rw[hi] at e1;cases e1
    rw[List.getElem?_set_self hiσ] at e2
    cases e2
    exact⟨u,r,.inr ⟨.inl hk,c,hc,hc'⟩⟩
   ·rw[List.getElem?_set_ne (Ne.symm hj)] at e2
    obtain⟨u',r',q⟩:=hl j y v' e1 e2 e3
    refine⟨u',r',?_⟩
    rcases q with q|⟨k,c',e,z'⟩
    ·exact .inl q
    ·refine .inr ⟨k,c',e,z'.sameBut hs ?_⟩
     rintro rfl
     exact hj (qq hN e1 (I.ok.inj _ _ _ e hc ▸ hi))
  ·by_cases hcc:c'=c
   ·subst hcc;exact⟨_,hc'⟩
   ·obtain⟨w2,z2⟩:=I.cell y c' e
    exact⟨w2,z2.sameBut hs hcc⟩
  ·obtain⟨e,n,ne,nf,d⟩:=I.pin p hp
   refine⟨(hs.2 p.1 ?_).trans e,n,ne,nf,d⟩
   intro q
   rw[q,hoc] at e
   have q':oc=p.2:=Option.some.inj e
   exact d w' (by rw[<- q'];exact hocd)
theorem gr{M:Model}{A:Around}{E:Value->Shared->Prop}{i:Nat}{x:Str}{v:V}{u:Value}{Q:Unit->Shared->Prop}(I:aw X pins σ H s)(hN:X.N.Nodup)(hi:X.N[i]? = some x)(hx:yA X.env.scope x)(r:aS v u)
  (h:∀ s',aw X pins (σ.set i (some v)) H s'->Q () s')(hf:X.fn x=true\/X.env.scope.names.lookup x=some .local:=by first|exact .inl rfl|exact .inr rfl|assumption):wpAny M A (storeName X.env x u) Q E s :=
 mK I hN hi hx r (fun s' I' _=>h s' I') hf
theorem aw.call'{s':Shared}{ch:List Addr}(I:aw X pins σ H s)(ho:s'.os=s.os)(u:Un (gg X.stack) ch H H' s.heap s'.heap)(hok:iJ X.prog X.w H' s'.heap)(hg:AllBare s'.gens)
  (hch:∀ b ∈ ch,(b ∈ X.ex\/X.s₀.heap.objs.size<=b)/\b ≠ X.env.locals/\(∀ x c,X.env.cells.lookup x=some c->c ≠ b) /\ ∀ p ∈ X.pn ++ pins,p.1 ≠ b):aw X pins σ H' s':=by
 obtain⟨h',g',d',t',o'⟩:=s'
 have e:o'=s.os:=ho
 subst e
 exact I.call (g':=g') (t':=t') (d':=d') u hok hg hch
end
abbrev XK:=Value->Option Addr->Hp->Prop
abbrev St:=List (Option V)
abbrev VK:=V->Hp->Prop
abbrev TE:=St->Hp->VK->Prop
abbrev TT:=St->Hp->(Bool->Hp->Prop)->Prop
abbrev TA:=St->Hp->(List V->Hp->Prop)->Prop
structure mf where
 nx:St->Hp->Prop
 rt:VK
 bk:St->Hp->Prop:=fun _ _=>False
 ct:St->Hp->Prop:=fun _ _=>False
abbrev TS:=mf->St->Hp->Prop
def EP(X:Cx)(pins:List (Addr × Obj))(σ:St)(Q:VK)(u:Value)(s':Shared):Prop:=∃ v H',aw X pins σ H' s'/\aS v u/\Q v H'
def TP(X:Cx)(pins:List (Addr × Obj))(σ:St)(Q:Bool->Hp->Prop)(b:Bool)(s':Shared):Prop:=∃ H',aw X pins σ H' s'/\Q b H'
def AP(X:Cx)(pins:List (Addr × Obj))(σ:St)(Q:List V->Hp->Prop)(us:List Value)(s':Shared):Prop:=∃ vs H',aw X pins σ H' s'/\aL vs us/\Q vs H'
def SP(X:Cx)(pins:List (Addr × Obj))(D:mf)(f:Flow)(s':Shared):Prop :=
 match f with
 | .next=>∃ σ' H',aw X pins σ' H' s'/\D.nx σ' H'
 | .brk=>∃ σ' H',aw X pins σ' H' s'/\D.bk σ' H'
 | .cont=>∃ σ' H',aw X pins σ' H' s'/\D.ct σ' H'
 | .ret u=>∃ v σ' H',aw X pins σ' H' s'/\aS v u/\D.rt v H'
def PE(X:Cx)(e:Expr)(t:TE):Prop :=
 ∀ (pins:List (Addr × Obj))(s:Shared)(σ:St)(H:Hp)(Q:VK),aw X pins σ H s->t σ H Q->wpAny (model X.prog X.w) X.A (eval e X.env) (EP X pins σ Q) X.xe s
def PT(X:Cx)(e:Expr)(t:TT):Prop :=
 ∀ (pins:List (Addr × Obj))(s:Shared)(σ:St)(H:Hp)(Q:Bool->Hp->Prop),aw X pins σ H s->t σ H Q->wpAny (model X.prog X.w) X.A (isTrue e X.env (eval e X.env)) (TP X pins σ Q) X.xe s
def PW(X:Cx)(e:Expr)(t:TT):Prop :=
 ∀ (whole:Sem Value)(pins:List (Addr × Obj))(s:Shared)(σ:St)(H:Hp)(Q:Bool->Hp->Prop),aw X pins σ H s->t σ H Q->wpAny (model X.prog X.w) X.A (isTrue e X.env whole) (TP X pins σ Q) X.xe s
theorem PW.pt{X:Cx}{e:Expr}{t:TT}(h:PW X e t):PT X e t:=h _
def PA(X:Cx)(es:List Expr)(t:TA):Prop :=
 ∀ (pos:Pos)(pins:List (Addr × Obj))(s:Shared)(σ:St)(H:Hp)(Q:List V->Hp->Prop),aw X pins σ H s->t σ H Q->wpAny (model X.prog X.w) X.A (spliced (backTo pos (starEach es X.env))) (AP X pins σ Q) X.xe s
def PS(X:Cx)(st:Stmt)(t:TS):Prop :=
 ∀ (pins:List (Addr × Obj))(s:Shared)(σ:St)(H:Hp)(D:mf),aw X pins σ H s->t D σ H->wpAny (model X.prog X.w) X.A (exec st X.env) (SP X pins D) X.xe s
def oF(X:Cx)(st:List Stmt)(t:TS):Prop :=
 ∀ (pins:List (Addr × Obj))(s:Shared)(σ:St)(H:Hp)(D:mf),aw X pins σ H s->t D σ H->wpAny (model X.prog X.w) X.A (execs st X.env) (SP X pins D) X.xe s
theorem cn{α:Type}{t:Sem α}{Q Q':α->Shared->Prop}{M:Model}{A:Around}{E:Value->Shared->Prop}{s:Shared}(h:wpAny M A t Q E s)(hQ:∀ a s,Q a s->Q' a s):wpAny M A t Q' E s:=wpAny_mono h hQ fun _ _ x=>x
end L2
namespace L2
open PySem PySem.Spec PyProof.Rows
section
variable {X:Cx}
def zQ(i:Nat):TE:=fun σ H Q=>∃ v,σ[i]? = some (some v)/\Q v H
def tC(v:V):TE:=fun _ H Q=>Q v H
theorem xP{i:Nat}{x:Str}{pos:Pos}(hN:X.N[i]? = some x)(hv:Dg X.env.scope x)(hd:(x == ("__debug__" : Str))=false:=by decide) (hcd:(x == ("__classdict__" : Str))=false:=by decide):PE X (.Name x pos) (zQ i):=by
 intro pins s σ H Q I h
 obtain⟨v,e,h⟩:=h
 obtain⟨m,hn,hl⟩:=I.loc
 obtain⟨u,r,l⟩:=hl i x v hN e hv
 have fin:EP X pins σ Q u s:=⟨v,H,I,r,h⟩
 rcases l with ⟨hk,hm⟩|⟨hk,c,hc,hcell⟩
 ·exact wpAny_Name (wpAny_loadName_local I.ok.kind hk hn hm fin) hd
 ·rcases hk with hk|hk
  ·exact wpAny_Name (wpAny_loadName_cell I.ok.kind hk hc hcell fin) hd
  ·exact wpAny_Name (wpAny_loadName_free I.ok.kind hk hc hcell fin hcd) hd
theorem Dj {i j pos}:PE X (.Constant (.int i) j pos) (tC (.int i)):=fun _ _ _ H _ I h=>wpAny_Constant_int ⟨.int i,H,I.tok _,⟨_,rfl⟩,h⟩
theorem Ev {b j pos}:PE X (.Constant (.bool b) j pos) (tC (.bl b)):=fun _ _ _ H _ I h=>Constant_bool ⟨.bl b,H,I,rfl,h⟩
theorem C7 {j pos}:PE X (.Constant .none j pos) (tC .non):=fun _ _ _ H _ I h=>Constant_none ⟨.non,H,I,rfl,h⟩
theorem Cr {x j pos}:PE X (.Constant (.str x) j pos) (tC (.str x)):=fun _ _ _ H _ I h=>Calls.Constant_str ⟨.str x,H,I.tok _,⟨_,rfl⟩,h⟩
def Gl(X:Cx)(x:Str):Prop:=X.env.kindOf x=some .globalImplicit
theorem iD{E:Value->Shared->Prop}{pins:List (Addr × Obj)}{s:Shared}{σ:St}{H:Hp}{x:Str}{u:Value}{pos:Pos}{Q:Value->Shared->Prop}(I:aw X pins σ H s)(hg:Gl X x)(hm:X.mg x=some u)(h:Q u s)
  (hd:(x == ("__debug__" : Str))=false:=by decide):wpAny (model X.prog X.w) X.A (eval (.Name x pos) X.env) Q E s :=
 Calls.Name_function_global I.ok.kind hg (Calls.loadGlobal_global (by rw[I.ok.glob];exact I.mod.glob.keeps I.bk) hm h) hd
theorem iZ{E:Value->Shared->Prop}{pins:List (Addr × Obj)}{s:Shared}{σ:St}{H:Hp}{x:Str}{u:Value}{pos:Pos}{Q:Value->Shared->Prop}(I:aw X pins σ H s)(hg:Gl X x)(hm:X.mg x=none)(hv:bootBuiltins x=some u)(h:Q u s)
  (hn:x ≠ "__name__":=by decide) (hd:(x == ("__debug__" : Str))=false:=by decide):wpAny (model X.prog X.w) X.A (eval (.Name x pos) X.env) Q E s:=by
 obtain⟨mb,h1,h2⟩:=I.mod.blt
 exact Calls.Name_function_global I.ok.kind hg (Calls.loadGlobal_builtin (by rw[I.ok.glob];exact I.mod.glob.keeps I.bk) hm (by rw[I.ok.blt];exact h1.keeps I.bk) ((h2 x hn).trans hv) h) hd
theorem zi{x:Str}{v:V}{u:Value}{pos:Pos}(hg:Gl X x)(hm:X.mg x=some u)(r:aS v u)(hd:(x == ("__debug__" : Str))=false:=by decide):PE X (.Name x pos) (tC v) :=
 fun _ _ _ H _ I h=>iD I hg hm ⟨v,H,I,r,h⟩ hd
theorem Ak{x:Str}{v:V}{u:Value}{pos:Pos}(hg:Gl X x)(hm:X.mg x=none)(hv:bootBuiltins x=some u)(r:aS v u)(hn:x ≠ "__name__":=by decide) (hd:(x == ("__debug__" : Str))=false:=by decide):PE X (.Name x pos) (tC v) :=
 fun _ _ _ H _ I h=>iZ I hg hm hv ⟨v,H,I,r,h⟩ hn hd
variable {a b:Expr}{ta tb:TE}{pos:Pos}
def tB(t:TE):TT:=fun σ H Q=>t σ H fun x H1=>∃ c,x = .bl c/\Q c H1
theorem BO{e:Expr}{t:TE}(h:PE X e t)(he:∀ whole,isTrue e X.env whole=(do let v <- whole;standAt e.pos;holding [v] (truthy v)):=by intro _;rfl):PT X e (tB t):=by
 intro pins s σ H Q I hw
 refine isTrue_plain (cn (h pins s σ H _ I hw) fun v s1 ⟨x,H1,I1,r1,q1⟩=>?_) (he _)
 obtain⟨d,rfl,q⟩:=q1
 cases r1
 exact wpAny_truthy_bool ⟨H1,I1,q⟩
variable {tA tB':TT}{rest:List Expr}
def By(t u:TT):TT:=fun σ H Q=>t σ H fun c H1=>if c=true then u σ H1 Q else Q false H1
def E9(t u:TT):TT:=fun σ H Q=>t σ H fun c H1=>if c=true then Q true H1 else u σ H1 Q
def BM(t:TT):TT:=fun σ H Q=>t σ H fun c H1=>Q (!c) H1
theorem zh(ha:PT X a tA):PW X (.BoolOp .And [a] pos) tA:=by
 intro wh pins s σ H Q I h
 refine isTrue_and (cn (ha pins s σ H Q I h) fun c s1 e=>?_)
 cases c with
 | true=>exact isTrue_and_nil e
 | false=>exact e
theorem Do(ha:PT X a tA):PW X (.BoolOp .Or [a] pos) tA:=by
 intro wh pins s σ H Q I h
 refine isTrue_or (cn (ha pins s σ H Q I h) fun c s1 e=>?_)
 cases c with
 | false=>exact isTrue_or_nil e
 | true=>exact e
theorem BR(ha:PT X a tA)(hb:PW X (.BoolOp .And (b :: rest) pos) tB'):PW X (.BoolOp .And (a :: b :: rest) pos) (By tA tB'):=by
 intro wh pins s σ H Q I h
 refine isTrue_and (cn (ha pins s σ H _ I h) fun c s1 ⟨H1,I1,q1⟩=>?_)
 cases c with
 | true=>exact hb wh pins s1 σ H1 Q I1 q1
 | false=>exact⟨H1,I1,q1⟩
theorem EG(ha:PT X a tA)(hb:PW X (.BoolOp .Or (b :: rest) pos) tB'):PW X (.BoolOp .Or (a :: b :: rest) pos) (E9 tA tB'):=by
 intro wh pins s σ H Q I h
 refine isTrue_or (cn (ha pins s σ H _ I h) fun c s1 ⟨H1,I1,q1⟩=>?_)
 cases c with
 | true=>exact⟨H1,I1,q1⟩
 | false=>exact hb wh pins s1 σ H1 Q I1 q1
theorem Cq(ha:PT X a tA):PT X (.UnaryOp .Not a pos) (BM tA):=by
 intro pins s σ H Q I h
 exact isTrue_not (ha pins s σ H (fun c H1=>Q (!c) H1) I h)
def A7(ta tb:TE):TE:=fun σ H Q=>ta σ H fun x H1=>∃ c,x = .bl c/\if c=true then tb σ H1 Q else Q (.bl false) H1
def yJ(ta tb:TE):TE:=fun σ H Q=>ta σ H fun x H1=>∃ c,x = .bl c/\if c=true then Q (.bl true) H1 else tb σ H1 Q
def Bi(ta:TE):TE:=fun σ H Q=>ta σ H fun x H1=>∃ c,x = .bl c/\Q (.bl (!c)) H1
theorem Cs {op}{t:TE}(h:PE X a t):PE X (.BoolOp op [a] pos) t:=fun pins s σ H Q I hw=>BoolOp_one (h pins s σ H Q I hw)
theorem EL(ha:PE X a ta)(hb:PE X (.BoolOp .Or (b :: rest) pos) tb):PE X (.BoolOp .Or (a :: b :: rest) pos) (yJ ta tb):=by
 intro pins s σ H Q I h
 refine BoolOp_or (cn (ha pins s σ H _ I h) fun v s1 ⟨x,H1,I1,r1,q1⟩=>?_)
 obtain⟨c,rfl,q1⟩:=q1
 cases r1
 refine wpAny_truthy_bool ?_
 cases c with
 | false=>exact hb pins s1 σ H1 Q I1 q1
 | true=>exact⟨.bl true,H1,I1,rfl,q1⟩
def E7(t:TT)(ta tb:TE):TE:=fun σ H Q=>t σ H fun c H1=>if c=true then ta σ H1 Q else tb σ H1 Q
theorem xN{c:Expr}(hc:PT X c tA)(ha:PE X a ta)(hb:PE X b tb):PE X (.IfExp c a b pos) (E7 tA ta tb):=by
 intro pins s σ H Q I h
 refine wpAny_IfExp (cn (hc pins s σ H _ I h) fun d s1 ⟨H1,I1,q1⟩=>?_)
 cases d with
 | true=>exact ha pins s1 σ H1 Q I1 q1
 | false=>exact hb pins s1 σ H1 Q I1 q1
end
end L2
namespace L2
open PySem PySem.Spec PyProof.Rows
def jS(K:W.Frag)(H:Hp)(a:Addr)(xs:List V):Prop :=
 Rd H a (.lst xs) \/
  ∃ (o:Obj)(its:Array Value)(n:Nat),K.lookup a=some o/\o.cls = .type "list" /\ o.dict=none/\o.data = .seq its n/\its.size<=sizeLine/\aL xs its.toList
def tq(K:W.Frag)(H:Hp)(a:Addr)(xs:List V):Prop :=
 Rd H a (.tup xs) \/
  ∃ (o:Obj)(its:Array Value)(n:Nat),K.lookup a=some o/\o.cls = .type "tuple" /\ o.data = .seq its n/\its.size<=sizeLine/\aL xs its.toList
def DL:Value->Option V
 | .none=>some .non
 | .bool b=>some (.bl b)
 | .int i _=>some (.int i)
 | .str x _=>some (.str x)
 | .bytes b _=>some (.byt b)
 | .float b _=>some (.flt b)
 | .ref a=>some (.ref a)
 | .type n=>some (.ty n)
 | _=>none
theorem aS.abs{x:V}{u:Value}(r:aS x u):DL u=some x:=by
 cases x with
 | non=>cases r;rfl
 | bl _=>cases r;rfl
 | int _=>obtain⟨t,rfl⟩:=r;rfl
 | str _=>obtain⟨t,rfl⟩:=r;rfl
 | byt _=>obtain⟨t,rfl⟩:=r;rfl
 | flt _=>obtain⟨t,rfl⟩:=r;rfl
 | ref _=>cases r;rfl
 | ty _=>cases r;rfl
theorem aS.inj{x y:V}{u:Value}(r:aS x u)(q:aS y u):x=y:=Option.some.inj (r.abs.symm.trans q.abs)
theorem aL.inj:∀{xs ys:List V}{us:List Value},aL xs us->aL ys us->xs=ys
 | _,_,_,.nil,.nil=>rfl
 | _,_,_,.cons r t,.cons r' t'=>by rw[r.inj r',aL.inj t t']
section
variable {X:Cx}{pins:List (Addr × Obj)}{σ:St}{H:Hp}{s:Shared}{a:Addr}{xs ys:List V}
theorem jS.of{K:W.Frag}(h:H a=some (.lst xs)):jS K H a xs:=.inl (.inl h)
theorem tq.of{K:W.Frag}(h:H a=some (.tup xs)):tq K H a xs:=.inl (.inl h)
theorem aw.list(I:aw X pins σ H s)(h:jS X.K H a xs):∃ its:List Value,aL xs its/\PlainL s.heap a its.toArray/\xs.length<=sizeLine:=by
 rcases h with h|⟨o,its,n,hk,hc,hd,hs,hz,r⟩
 ·obtain⟨z,its,n,r,e⟩:=h.ok I.hok
  exact⟨its,r,⟨_,n,e,rfl,rfl,rfl⟩,z⟩
 ·refine⟨its.toList,r,⟨o,n,I.kIn a o hk,hc,hd,by simpa using hs⟩,?_⟩
  have e:=r.length
  simp only[Array.length_toList] at e
  walk_at"o"
theorem aw.tuple(I:aw X pins σ H s)(h:tq X.K H a xs):∃ its:List Value,aL xs its/\IsTup s.heap a its.toArray/\xs.length<=sizeLine:=by
 rcases h with h|⟨o,its,n,hk,hc,hs,hz,r⟩
 ·obtain⟨z,its,r,p⟩:=h.ok I.hok
  exact⟨its,r,p,z⟩
 ·refine⟨its.toList,r,⟨o,I.kIn a o hk,hc,n,by simpa using hs⟩,?_⟩
  have e:=r.length
  simp only[Array.length_toList] at e
  walk_at"o"
theorem aw.list_inj(I:aw X pins σ H s)(h:jS X.K H a xs)(h':jS X.K H a ys):xs=ys:=by
 obtain⟨its,r,⟨o,n,e,_,_,d⟩,_⟩:=I.list h
 obtain⟨its',r',⟨o',n',e',_,_,d'⟩,_⟩:=I.list h'
 rw[e] at e';cases e'
 rw[d] at d'
 injection d' with d1 _
 have:its=its':=by simpa using congrArg Array.toList d1
 subst this
 exact r.inj r'
end
abbrev Cx.wish (X:Cx)(E:Value->Shared->Prop):Cx:={ X with xe:=E }
abbrev Cx.nox (X:Cx):Cx:=X.wish fun _ _=>False
theorem Cx.Ok.wish{X:Cx}(ok:X.Ok)(E:Value->Shared->Prop):(X.wish E).Ok :=
 ⟨ok.mod,ok.kind,ok.glob,ok.blt,ok.above,ok.inj,ok.has,ok.cab,ok.hd,ok.frames,ok.stk,ok.exf,ok.bs,ok.bsz,ok.noex,ok.exfs,ok.funs,ok.frf⟩
theorem Cx.Ok.unwish{X:Cx}{E:Value->Shared->Prop}(ok:(X.wish E).Ok):X.Ok :=
 ⟨ok.mod,ok.kind,ok.glob,ok.blt,ok.above,ok.inj,ok.has,ok.cab,ok.hd,ok.frames,ok.stk,ok.exf,ok.bs,ok.bsz,ok.noex,ok.exfs,ok.funs,ok.frf⟩
section
variable {X:Cx}{pins:List (Addr × Obj)}{σ:St}{H:Hp}{s:Shared}{E:Value->Shared->Prop}
theorem aw.wish(I:aw X pins σ H s)(E:Value->Shared->Prop):aw (X.wish E) pins σ H s:=⟨I.ok.wish E,I.os,I.bare,I.base,I.loc,I.cell,I.free,I.freeC,I.pin,I.hok,I.len⟩
theorem aw.unwish(I:aw (X.wish E) pins σ H s):aw X pins σ H s:=⟨I.ok.unwish,I.os,I.bare,I.base,I.loc,I.cell,I.free,I.freeC,I.pin,I.hok,I.len⟩
theorem SP.unwish{D:mf}{f:Flow}{s':Shared}(h:SP (X.wish E) pins D f s'):SP X pins D f s':=by
 cases f with
 | next=>obtain⟨σ',H',I,q⟩:=h;exact⟨σ',H',I.unwish,q⟩
 | brk=>obtain⟨σ',H',I,q⟩:=h;exact⟨σ',H',I.unwish,q⟩
 | cont=>obtain⟨σ',H',I,q⟩:=h;exact⟨σ',H',I.unwish,q⟩
 | ret u=>obtain⟨v,σ',H',I,r,q⟩:=h;exact⟨v,σ',H',I.unwish,r,q⟩
theorem oF.nox{st:List Stmt}{t:TS}(h:oF X.nox st t):oF X st t:=fun pins s σ H D I hw =>
 wpAny_mono (h pins s σ H D (I.wish _) hw) (fun _ _ q=>q.unwish) fun _ _ z=>False.elim z
end
section
variable {X:Cx}{st:Stmt}{rest:List Stmt}{t u:TS}{e:Expr}{te:TE}{pos:Pos}
def wz:TS:=fun D σ H=>D.nx σ H
def aQ(t u:TS):TS:=fun D σ H=>t { D with nx:=u D } σ H
theorem zf:oF X [] wz:=fun _ _ σ H _ I h=>wpAny_execs_nil ⟨σ,H,I,h⟩
theorem vM(h1:PS X st t)(h2:oF X rest u):oF X (st :: rest) (aQ t u):=by
 intro pins s σ H D I h
 refine wpAny_execs_cons (cn (h1 pins s σ H { D with nx:=u D } I h) fun f s1 q=>?_)
 cases f with
 | next =>
  obtain⟨σ',H',I',q⟩:=q
  exact h2 pins s1 σ' H' D I' q
 | ret v=>exact q
 | brk=>exact q
 | cont=>exact q
theorem Az(h1:PS X st t):oF X [st] t:=by
 intro pins s σ H D I h
 refine wpAny_execs_cons (cn (h1 pins s σ H D I h) fun f s1 q=>?_)
 cases f with
 | next=>exact wpAny_execs_nil q
 | ret v=>exact q
 | brk=>exact q
 | cont=>exact q
theorem aw.quiet{pins:List (Addr × Obj)}{σ:St}{H:Hp}{s:Shared}(I:aw X pins σ H s):interactive X.env=false:=by simp[interactive,I.ok.kind]
def xu(te:TE):TS:=fun D σ H=>te σ H fun _ H1=>D.nx σ H1
theorem zm(he:PE X e te)(hs:swapsWith e none pos.line X.env=pure false:=by rfl):PS X (.Expr e pos) (xu te):=by
 intro pins s σ H D I h
 exact wpAny_Expr_any (cn (he pins s σ H _ I h) fun v s1 ⟨x,H1,I1,r1,q1⟩=>⟨σ,H1,I1,q1⟩) I.quiet hs
def BW(te:TE):TS:=fun D σ H=>te σ H D.rt
theorem Dx(he:PE X e te):PS X (.Return (some e) pos) (BW te):=by
 intro pins s σ H D I h
 exact wpAny_Return_some (cn (he pins s σ H _ I h) fun v s1 ⟨x,H1,I1,r1,q1⟩=>⟨x,σ,H1,I1,r1,q1⟩)
def Eh:TS:=fun D _ H=>D.rt .non H
def BN(c:TT)(t u:TS):TS:=fun D σ H=>c σ H fun b H1=>if b=true then t D σ H1 else u D σ H1
theorem EH{c:Expr}{a b:List Stmt}{tc:TT}(hc:PT X c tc)(ha:oF X a t)(hb:oF X b u):PS X (.If c a b pos) (BN tc t u):=by
 intro pins s σ H D I h
 refine wpAny_If (cn (hc pins s σ H _ I h) fun d s1 ⟨H1,I1,q1⟩=>?_)
 cases d with
 | true=>exact ha pins s1 σ H1 D I1 q1
 | false=>exact hb pins s1 σ H1 D I1 q1
def lZ:TS:=fun _ _ _=>False
theorem vH:PS X st lZ:=fun _ _ _ _ _ _ h=>h.elim
theorem ux{sts:List Stmt}:oF X sts lZ:=fun _ _ _ _ _ _ h=>h.elim
end
abbrev TG:=V->St->Hp->(St->Hp->Prop)->Prop
abbrev vC:=List V->St->Hp->(St->Hp->Prop)->Prop
def PG(X:Cx)(target:Expr)(t:TG):Prop :=
 ∀ (pins:List (Addr × Obj))(s:Shared)(σ:St)(H:Hp)(v:V)(u:Value)(Q:St->Hp->Prop),aw X pins σ H s->aS v u->t v σ H Q ->
  wpAny (model X.prog X.w) X.A (assign target X.env u) (fun _ s'=>∃ σ' H',aw X pins σ' H' s'/\Q σ' H') X.xe s
def DD(X:Cx)(ts:List Expr)(t:vC):Prop :=
 ∀ (pins:List (Addr × Obj))(s:Shared)(σ:St)(H:Hp)(vs:List V)(us:List Value)(Q:St->Hp->Prop),aw X pins σ H s->aL vs us->t vs σ H Q ->
  wpAny (model X.prog X.w) X.A (assignInOrder ((assignEach ts X.env).map (·.2)) us) (fun _ s'=>∃ σ' H',aw X pins σ' H' s'/\Q σ' H') X.xe s
abbrev qU:=V->V->V->Hp->(Hp->Prop)->Prop
def uT(X:Cx)(t:qU):Prop :=
 ∀ (pins:List (Addr × Obj))(s:Shared)(σ:St)(H:Hp)(o i v:V)(ov iv u:Value)(Q:Hp->Prop),aw X pins σ H s->aS o ov->aS i iv->aS v u->t o i v H Q ->
  wpAny (model X.prog X.w) X.A (setItem ov iv u) (fun _ s'=>∃ H',aw X pins σ H' s'/\Q H') X.xe s
abbrev yB:=V->V->Hp->VK->Prop
def Bh(X:Cx)(op:Operator)(t:yB):Prop :=
 ∀ (pins:List (Addr × Obj))(s:Shared)(σ:St)(H:Hp)(x y:V)(v u:Value)(Q:VK),aw X pins σ H s->aS x v->aS y u->t x y H Q ->
  wpAny (model X.prog X.w) X.A (inplaceOp op v u) (EP X pins σ Q) X.xe s
section
variable {X:Cx}{pos:Pos}
def ij(i:Nat):TG:=fun v σ H Q=>Q (σ.set i (some v)) H
theorem Am{i:Nat}{x:Str}(hN:X.N.Nodup)(hi:X.N[i]? = some x)(hx:yA X.env.scope x)(hf:X.fn x=true\/X.env.scope.names.lookup x=some .local:=by first|exact .inl rfl|exact .inr rfl|assumption):PG X (.Name x pos) (ij i):=by
 intro pins s σ H v u Q I r h
 exact wpAny_assign_Name (gr I hN hi hx r (fun s' I'=>⟨_,H,I',h⟩) hf)
def yv:vC:=fun vs σ H Q=>vs=[]/\Q σ H
def m4(t:TG)(u:vC):vC:=fun vs σ H Q=>∃ v r,vs=v :: r/\t v σ H fun σ' H'=>u r σ' H' Q
theorem Aw:DD X [] yv:=by
 intro pins s σ H vs us Q I r h
 obtain⟨e,h⟩:=h
 subst e
 cases r
 exact assignInOrder_nil ⟨σ,H,I,h⟩
theorem v7{e:Expr}{es:List Expr}{t:TG}{u:vC}(h1:PG X e t)(h2:DD X es u)
  (hs:(assignEach (e :: es) X.env).map (·.2)=assign e X.env :: (assignEach es X.env).map (·.2):=by rfl):DD X (e :: es) (m4 t u):=by
 intro pins s σ H vs us Q I r h
 obtain⟨v,vr,e1,h⟩:=h
 subst e1
 cases r with
 | cons r rr =>
  rw[hs]
  refine assignInOrder_cons (cn (h1 pins s σ H _ _ _ I r h) fun _ s1 ⟨σ1,H1,I1,q1⟩=>?_)
  exact h2 pins s1 σ1 H1 _ _ Q I1 rr q1
def EI(K:W.Frag)(n:Nat)(t:vC):TG:=fun v σ H Q=>∃ a xs,v = .ref a/\tq K H a xs/\xs.length=n/\t xs σ H Q
theorem BI{es:List Expr}{k:Nat}{t:vC}{n:Nat}(hc:X.calm=true)(h:DD X es t)
  (hn:(assignEach es X.env).length=n:=by rfl)(hst:(assignEach es X.env).findIdx? (·.1)=none:=by rfl):PG X (.Tuple es k pos) (EI X.K n t):=by
 intro pins s σ H v u Q I r hw
 obtain⟨a,xs,e1,hq,hl,hw⟩:=hw
 subst e1
 cases r
 obtain⟨its,rv,ht,hz⟩:=I.tuple hq
 refine assign_Tuple_tuple (I.ok.hd hc) ht (by simp[hn,<- hl,rv.length]) hst fun h' hx=>?_
 have I1:aw X pins σ H { s with heap:=h' }:=I.kept (t':=s.toks) fun b o e=>hx b o (Nat.ne_of_lt (Heap.lt_size e)) e
 exact h pins _ σ H xs _ Q I1 (by simpa using rv) hw
def CY(to ti:TE)(t:qU):TG:=fun v σ H Q=>to σ H fun o H1=>ti σ H1 fun i H2=>t o i v H2 fun H3=>Q σ H3
theorem Cp{o i:Expr}{to ti:TE}{t:qU}(ho:PE X o to)(hi:PE X i ti)(hs:uT X t)
  (ha:∀ v,assign (.Subscript o i pos) X.env v=(do
   let ov <- holding [v] (eval o X.env)
   let iv <- holding [v,ov] (eval i X.env)
   standAt pos
   holding [v,ov,iv] (setItem ov iv v)
   release [v,ov,iv] []):=by intro _;rfl):PG X (.Subscript o i pos) (CY to ti t):=by
 intro pins s σ H v u Q I r h
 rw[ha]
 refine wpAny_bind (wpAny_holding (cn (ho pins s σ H _ I h) fun ov s1 ⟨x,H1,I1,r1,q1⟩=>?_))
 refine wpAny_bind (wpAny_holding (cn (hi pins s1 σ H1 _ I1 q1) fun iv s2 ⟨y,H2,I2,r2,q2⟩=>?_))
 refine wpAny_bind (wpAny_standAt (wpAny_bind (wpAny_holding (cn (hs pins s2 σ H2 x y v ov iv u _ I2 r1 r2 r q2) fun _ s3 ⟨H3,I3,q3⟩=>?_))))
 exact wpAny_release ⟨σ,H3,I3,q3⟩
def rg(te:TE)(g:TG):TS:=fun D σ H=>te σ H fun x H1=>g x σ H1 D.nx
theorem BY{tg e:Expr}{te:TE}{g:TG}(he:PE X e te)(hg:PG X tg g)(hs:swapsWithSole [tg] e pos.line X.env=pure false:=by rfl)(hw:swappedStores [tg] e X.env=pure none:=by rfl)
  (h1:(assignEach [tg] X.env).map (·.2)=[assign tg X.env]:=by rfl):PS X (.Assign [tg] e pos) (rg te g):=by
 intro pins s σ H D I h
 refine wpAny_Assign_stores (cn (he pins s σ H _ I h) fun v s1 ⟨x,H1,I1,r1,q1⟩=>?_) hs hw
 rw[h1]
 exact cn (hg pins s1 σ H1 x v _ I1 r1 q1) fun _ s2 q=>q
theorem BV{i:Nat}{x:Str}{e:Expr}{te:TE}{pos':Pos}(hN:X.N.Nodup)(hi:X.N[i]? = some x)(hx:yA X.env.scope x)(he:PE X e te)(hs:swapsWith e (some (.Name x pos')) pos.line X.env=pure false:=by rfl)(hf:X.fn x=true\/X.env.scope.names.lookup x=some .local:=by first|exact .inl rfl|exact .inr rfl|assumption) :
  PS X (.Assign [.Name x pos'] e pos) (rg te (ij i)):=by
 intro pins s σ H D I h
 refine wpAny_Assign_Name (cn (he pins s σ H _ I h) fun v s1 ⟨y,H1,I1,r1,q1⟩=>?_) hs
 exact gr I1 hN hi hx r1 (fun s2 I2=>⟨_,H1,I2,q1⟩) hf
def Aj(i j:Nat)(ta:TA):TS:=fun D σ H=>ta σ H fun vs H1=>∃ v w,vs=[v,w]/\D.nx ((σ.set i (some v)).set j (some w)) H1
theorem CZ{i j:Nat}{x y:Str}{a b:Expr}{ta:TA}{px py pt:Pos} {kt k2 pt2}(hc:X.calm=true)(hN:X.N.Nodup)(hi:X.N[i]? = some x)(hj:X.N[j]? = some y)(hij:i ≠ j)
  (hx:X.env.scope.names.lookup x=some .local)(hy:X.env.scope.names.lookup y=some .local)(ha:PA X [a,b] ta)
  (hw:swappedStores [.Tuple [.Name x px,.Name y py] kt pt] (.Tuple [a,b] k2 pt2) X.env=pure (some [x,y]))
  (hs:swapsWithSole [.Tuple [.Name x px,.Name y py] kt pt] (.Tuple [a,b] k2 pt2) pos.line X.env=pure false:=by rfl) :
  PS X (.Assign [.Tuple [.Name x px,.Name y py] kt pt] (.Tuple [a,b] k2 pt2) pos) (Aj i j ta):=by
 intro pins s σ H D I h
 rw[exec_Assign_arm]
 refine wpAny_bind (wpAny_standAt ?_)
 rw[hs]
 refine wpAny_bind (wpAny_pure ?_)
 rw[if_neg (by decide)]
 refine wpAny_bind (Tuple_ (cn (ha _ pins s σ H _ I h) fun us s1 ⟨vs,H1,I1,r1,q1⟩=>?_))
 obtain⟨v,w,e1,q1⟩:=q1
 subst e1
 obtain⟨u1,u2,rfl,rv,rw'⟩ : ∃ u1 u2,us=[u1,u2]/\aS v u1/\aS w u2:=by
  cases r1 with
  | cons p q =>
   cases q with
   | cons p' q' =>
    cases q'
    exact⟨_,_,rfl,p,p'⟩
 refine wpAny_newObj_type ?_ (by show 2<=sizeLine;decide)
 have I2:aw X pins σ H1 { s1 with heap:=s1.heap.push { cls:=.type "tuple",data:=.seq [u1,u2].toArray } }:=I1.kept (t':=s1.toks) fun b o e=>Heap.get?_push_of_some _ e
 rw[hw]
 refine wpAny_bind (wpAny_pure ?_)
 show wpAny (model X.prog X.w) X.A (do rule "assign.swapped-stores";let items <- unpackItems (.ref s1.heap.objs.size) 2 none;assignInOrder [fun v=>bindName X.env y v,fun v=>bindName X.env x v] items.reverse;pure Flow.next) _ _ _
 refine wpAny_bind (wpAny_rule (wpAny_bind (unpackItems_tuple (items:=#[u1,u2]) (I.ok.hd hc) (IsTup.new s1.heap _) fun h' hx'=>?_)))
 have I3:=I2.kept (h':=h') (t':=s1.toks) fun b o e=>hx' b o (Nat.ne_of_lt (Heap.lt_size e)) e
 show wpAny _ _ (assignInOrder [fun v=>bindName X.env y v,fun v=>bindName X.env x v] [u2,u1] >>= fun _=>pure Flow.next) _ _ _
 refine wpAny_bind (assignInOrder_cons (wpAny_bindName (gr I3 hN hj (.inl hy) rw' (fun s2 I4=>?_) (.inr hy))))
 refine assignInOrder_cons (wpAny_bindName (gr I4 hN hi (.inl hx) rv (fun s3 I5=>assignInOrder_nil (wpAny_pure ?_)) (.inr hx)))
 rw[List.set_comm _ _ (Ne.symm hij)] at I5
 exact⟨_,H1,I5,q1⟩
def Dz(i:Nat)(te:TE)(ti:yB):TS:=fun D σ H=>∃ x,σ[i]? = some (some x)/\te σ H fun y H1=>ti x y H1 fun z H2=>D.nx (σ.set i (some z)) H2
theorem CJ{i:Nat}{x:Str}{e:Expr}{te:TE}{op:Operator}{ti:yB}{pos':Pos}(hN:X.N.Nodup)(hi:X.N[i]? = some x)(hx:yA X.env.scope x)(he:PE X e te)(ho:Bh X op ti)(hf:X.fn x=true\/X.env.scope.names.lookup x=some .local:=by first|exact .inl rfl|exact .inr rfl|assumption) :
  PS X (.AugAssign (.Name x pos') op e pos) (Dz i te ti):=by
 intro pins s σ H D I h
 obtain⟨v,e1,h⟩:=h
 obtain⟨m,hn,hl⟩:=I.loc
 have vis:Dg X.env.scope x:=by rcases hx with k|k;exact .inl k;exact .inr (.inl k)
 obtain⟨u,r,l⟩:=hl i x v hi e1 vis
 refine wpAny_AugAssign_Name ?_
 have go:wpAny (model X.prog X.w) X.A (eval e X.env) (fun w s₂=>wpAny (model X.prog X.w) X.A (inplaceOp op u w) (fun r s₃=>wpAny (model X.prog X.w) X.A (storeName X.env x r) (fun _=>SP X pins D .next) X.xe s₃) X.xe s₂) X.xe s:=by
  refine cn (he pins s σ H _ I h) fun w s1 ⟨y,H1,I1,r1,q1⟩=>?_
  refine cn (ho pins s1 σ H1 v y u w _ I1 r r1 q1) fun z s2 ⟨zv,H2,I2,r2,q2⟩=>?_
  exact gr I2 hN hi hx r2 (fun s3 I3=>⟨_,H2,I3,q2⟩) hf
 rcases l with ⟨hk,hm⟩|⟨hk,c,hc,hcell⟩
 ·exact wpAny_loadName_local I.ok.kind hk hn hm go
 ·rcases hk with hk|hk
  ·exact wpAny_loadName_cell I.ok.kind hk hc hcell go
  ·rcases hx with k|k
   ·have:X.env.scope.names.lookup x=some .free:=hk
    rw[k] at this;cases this
   ·have:X.env.scope.names.lookup x=some .free:=hk
    rw[k] at this;cases this
def yj(to ti te:TE)(tget:V->V->Hp->VK->Prop)(tip:yB)(tset:qU):TS:=fun D σ H=>to σ H fun o H1=>ti σ H1 fun i H2=>tget o i H2 fun x H3=>te σ H3 fun y H4=>tip x y H4 fun z H5=>tset o i z H5 fun H6=>D.nx σ H6
def Bu(X:Cx)(t:V->V->Hp->VK->Prop):Prop :=
 ∀ (pins:List (Addr × Obj))(s:Shared)(σ:St)(H:Hp)(o i:V)(ov iv:Value)(Q:VK),aw X pins σ H s->aS o ov->aS i iv->t o i H Q ->
  wpAny (model X.prog X.w) X.A (getItem ov iv) (EP X pins σ Q) X.xe s
theorem AJ{o i e:Expr}{to ti te:TE}{tget:V->V->Hp->VK->Prop}{tip:yB}{tset:qU}{op:Operator}{tpos:Pos}(ho:PE X o to)(hi:PE X i ti)(hg:Bu X tget)(he:PE X e te)(hp:Bh X op tip)(hs:uT X tset)
  (ha:∀ ov iv new,augStore i ov iv new=(do holding [new,ov,iv] (setItem ov iv new);release [new,ov,iv] [];pure .next):=by intros;rfl):PS X (.AugAssign (.Subscript o i tpos) op e pos) (yj to ti te tget tip tset):=by
 intro pins s σ H D I h
 refine wpAny_AugAssign_SubscriptAny (cn (ho pins s σ H _ I h) fun ov s1 ⟨x1,H1,I1,r1,q1⟩=>?_) ha
 refine cn (hi pins s1 σ H1 _ I1 q1) fun iv s2 ⟨x2,H2,I2,r2,q2⟩=>?_
 refine cn (hg pins s2 σ H2 x1 x2 ov iv _ I2 r1 r2 q2) fun old s3 ⟨x3,H3,I3,r3,q3⟩=>?_
 refine cn (he pins s3 σ H3 _ I3 q3) fun v s4 ⟨x4,H4,I4,r4,q4⟩=>?_
 refine cn (hp pins s4 σ H4 x3 x4 old v _ I4 r3 r4 q4) fun new s5 ⟨x5,H5,I5,r5,q5⟩=>?_
 exact cn (hs pins s5 σ H5 x1 x2 x5 ov iv new _ I5 r1 r2 r5 q5) fun _ s6 ⟨H6,I6,q6⟩=>⟨σ,H6,I6,q6⟩
def Ft(f:Int->Int->Int):yB:=fun x y H Q=>∃ i j,x = .int i/\y = .int j/\Q (.int (f i j)) H
theorem BQ:Bh X .Add (Ft fun i j=>i+j):=by
 intro pins s σ H x y v u Q I r1 r2 h
 obtain⟨i,j,e1,e2,q⟩:=h
 subst e1;subst e2
 obtain⟨t,rfl⟩:=r1
 obtain⟨t',rfl⟩:=r2
 exact iadd_int ⟨.int _,H,I.tok _,⟨_,rfl⟩,q⟩
theorem rC:Bh X .Sub (Ft fun i j=>i - j):=by
 intro pins s σ H x y v u Q I r1 r2 h
 obtain⟨i,j,e1,e2,q⟩:=h
 subst e1;subst e2
 obtain⟨t,rfl⟩:=r1
 obtain⟨t',rfl⟩:=r2
 exact isub_int ⟨.int _,H,I.tok _,⟨_,rfl⟩,q⟩
end
section
variable {X:Cx}{pos:Pos}
def xi(c:TT)(tb:TS):TS:=fun D σ H=>∃ W:Nat->St->Hp->Prop,(∃ m,W m σ H) /\ ∀ m σ H,W m σ H ->
 c σ H fun b H1=>if b=true then ∃ N:St->Hp->Prop,(∀ σ' H',N σ' H' -> ∃ m',m'<m/\W m' σ' H')/\tb { D with nx:=N,ct:=N,bk:=D.nx } σ H1 else D.nx σ H1
theorem xU{c:Expr}{body:List Stmt}{tc:TT}{tb:TS}(hp:PassesOwn (model X.prog X.w) X.A X.env X.xe)(hc:PT X c tc)(hb:oF X body tb):PS X (.While c body [] pos) (xi tc tb):=by
 intro pins s σ H D I h
 obtain⟨W,⟨m0,w0⟩,turn⟩:=h
 refine wpAny_While (codeAny_whileLoop (fun n s'=>∃ σ' H',aw X pins σ' H' s'/\W n σ' H') ?_ m0 ⟨σ,H,I,w0⟩)
 rintro n s1 ⟨σ1,H1,I1,w1⟩
 refine wpAny_passesOwn hp (cn (hc pins s1 σ1 H1 _ I1 (turn n σ1 H1 w1)) fun b s2 ⟨H2,I2,q2⟩=>?_)
 cases b with
 | true =>
  obtain⟨N,hN,q2⟩:=q2
  rw[if_pos rfl]
  refine wpAny_passesOwn hp (cn (hb pins s2 σ1 H2 _ I2 q2) fun f s3 q3=>?_)
  cases f with
  | next =>
   obtain⟨σ3,H3,I3,n3⟩:=q3
   obtain⟨m',hm,w3⟩:=hN σ3 H3 n3
   exact⟨m',hm,σ3,H3,I3,w3⟩
  | cont =>
   obtain⟨σ3,H3,I3,n3⟩:=q3
   obtain⟨m',hm,w3⟩:=hN σ3 H3 n3
   exact⟨m',hm,σ3,H3,I3,w3⟩
  | brk=>exact q3
  | ret v=>exact q3
 | false =>
  rw[if_neg Bool.false_ne_true]
  exact wpAny_execs_nil ⟨σ1,H2,I2,q2⟩
end
structure It where
 go:Nat->Hp->Prop
 yld:Nat->Hp->V->Hp->Prop
 stop:Nat->Hp->Prop
def oz(X:Cx)(pins:List (Addr × Obj))(H:Hp)(b:Addr):Prop :=
 H b=none/\b ≠ X.env.locals/\b ∉ X.fs/\(b ∈ X.ex\/X.s₀.heap.objs.size<=b)/\(∀ x c,X.env.cells.lookup x=some c->c ≠ b) /\ ∀ p ∈ X.pn ++ pins,p.1 ≠ b
theorem aw.fpOk{X:Cx}{pins:List (Addr × Obj)}{σ:St}{H H':Hp}{s:Shared}{b:Addr}(I:aw X pins σ H s)(hb:s.heap.objs.size<=b)(hn:H' b=none):oz X pins H' b:=by
 refine⟨hn,Nat.ne_of_gt (Nat.lt_of_lt_of_le I.lt hb),I.nofs hb,.inr (Nat.le_trans I.sz hb),fun x c e z=>?_,fun p hp z=>?_⟩
 ·obtain⟨v,q⟩:=I.cell x c e
  exact absurd (Nat.lt_of_lt_of_le q.lt (by rw[z];exact hb)) (Nat.lt_irrefl _)
 ·exact absurd (Nat.lt_of_lt_of_le (Heap.lt_size (I.pin p hp).1) (by rw[z];exact hb)) (Nat.lt_irrefl _)
structure xQ (P:Program)(w:World)(K:W.Frag)(tg:Expr)(J:It)(fp:List Addr)(it:Addr)(tn:Nat->Heap->Prop):Prop where
 mem:it ∈ fp
 obj:∀ i h,tn i h -> ∀ b ∈ fp,∃ o,h.get? b=some o /\ ∀ v,o.data ≠ .cell v
 keep:∀ i h h',tn i h->(∀ b ∈ fp,∀ o,h.get? b=some o->h'.get? b=some o)->tn i h'
 item:∀ (X:Cx),X.prog=P->X.w=w->X.K=K->X.calm=true -> ∀ (i:Nat)(pins:List (Addr × Obj))(s:Shared)(σ:St)(H:Hp)(E:Value->Shared->Prop),aw X pins σ H s->(∀ b ∈ fp,oz X pins H b)->tn i s.heap->J.go i H ->
  wpAny (model P w) X.A (pyNext (.ref it)) (fun r s1=>∃ u,r=some u /\
   wpAny (model P w) X.A (letOwnedTupleGo tg (.ref it) u) (fun _ s2=>∃ x H',aw X pins σ H' s2/\aS x u/\J.yld i H x H'/\tn (i+1) s2.heap /\ ∀ b ∈ fp,H' b=none) E s1) E s
 done:∀ (X:Cx),X.prog=P->X.w=w->X.K=K->X.calm=true -> ∀ (i:Nat)(pins:List (Addr × Obj))(s:Shared)(σ:St)(H:Hp)(E:Value->Shared->Prop),aw X pins σ H s->(∀ b ∈ fp,oz X pins H b)->tn i s.heap->J.stop i H ->
  wpAny (model P w) X.A (pyNext (.ref it)) (fun r s1=>r=none/\aw X pins σ H s1) E s
 self:∀ (A:Around)(i:Nat)(s:Shared)(Q:Value->Shared->Prop)(E:Value->Shared->Prop),tn i s.heap->Q (.ref it) s->wpAny (model P w) A (pyIter (.ref it)) Q E s
abbrev TI:=St->Hp->(It->Hp->Prop)->Prop
def FH(X:Cx)(pins:List (Addr × Obj))(σ:St)(tg:Expr)(R:It->Hp->Prop)(itv:Value)(s2:Shared):Prop :=
 ∃ (it:Addr)(fp:List Addr)(tn:Nat->Heap->Prop)(J:It)(H':Hp),itv = .ref it/\aw X pins σ H' s2/\xQ X.prog X.w X.K tg J fp it tn/\tn 0 s2.heap/\(∀ b ∈ fp,oz X pins H' b)/\R J H'
def PI(X:Cx)(tg iter:Expr)(wi:TI):Prop :=
 ∀ (pins:List (Addr × Obj))(s:Shared)(σ:St)(H:Hp)(R:It->Hp->Prop),aw X pins σ H s->wi σ H R ->
  wpAny (model X.prog X.w) X.A (eval iter X.env) (fun v s1=>wpAny (model X.prog X.w) X.A (pyIter v) (FH X pins σ tg R) X.xe s1) X.xe s
theorem uv{M:Model}{A:Around}{E:Value->Shared->Prop}{s:Shared}{tg:Expr}{it:Addr}{u:Value}{o:Obj}{n:String}{vs:Array Value}{Q:Unit->Shared->Prop}(ho:s.heap.get? it=some o)(hc:o.cls = .type n)(hd:o.data = .fields vs)
  (hn:["enumerate", "zip", "dict_itemiterator", "dict_reverseitemiterator", "odict_iterator", "itertools.zip_longest", "itertools.pairwise"].contains n=false) (hQ:Q () s):wpAny M A (letOwnedTupleGo tg (.ref it) u) Q E s:=by
 unfold letOwnedTupleGo
 cases tg <;> first
  | exact wpAny_pure hQ
  | (cases u <;> first
    | exact wpAny_pure hQ
    | (refine wpAny_bind (wpAny_load ho ?_)
       rw[hc,hd]
       show wpAny M A (if (["enumerate", "zip", "dict_itemiterator", "dict_reverseitemiterator", "odict_iterator", "itertools.zip_longest", "itertools.pairwise"].contains n && vs[0]? == some (rawInt _))=true then _ else _) Q E s
       rw[if_neg (by intro h;rw[hn,Bool.false_and] at h;cases h)]
       exact wpAny_pure hQ))
def EW(K:W.Frag)(a:Addr):It :=
 ⟨fun i H=>∃ xs x,jS K H a xs/\xs[i]? = some x,fun i H x H'=>H'=H /\ ∀ xs,jS K H a xs->xs[i]? = some x,fun i H=>∃ xs,jS K H a xs/\xs.length<=i⟩
def FK(K:W.Frag)(a:Addr):It :=
 ⟨fun i H=>∃ xs x,tq K H a xs/\xs[i]? = some x,fun i H x H'=>H'=H /\ ∀ xs,tq K H a xs->xs[i]? = some x,fun i H=>∃ xs,tq K H a xs/\xs.length<=i⟩
def DE(lo:Int)(n:Nat):It:=⟨fun i _=>i<n,fun i H x H'=>H'=H/\x = .int (lo+i),fun i _=>n<=i⟩
theorem uZ{P:Program}{w:World}{K:W.Frag}{tg:Expr}(a it:Addr):xQ P w K tg (EW K a) [it] it (fun i h=>h.IsListIter it a i) where
 mem:=by simp
 obj:=fun i h st b hb=>by
  have e:b=it:=by simpa using hb
  subst e
  obtain⟨o,e,c,d⟩:=st
  exact⟨o,e,fun v z=>by rw[d] at z;cases z⟩
 keep:=fun i h h' st k=>st.at fun o e=>k it (by simp) o e
 item:=by
  intro X hP hw hK hc i pins s σ H E I hf st hg
  subst hP hw hK
  obtain⟨xs,x,hq,hx⟩:=hg
  obtain⟨its,rv,p,hz⟩:=I.list hq
  obtain⟨u,hu,ru⟩:=rv.get hx
  obtain⟨f0,f1,f2,f3,f4,f5⟩:=hf it (by simp)
  refine wpAny_pyNext_list_item st p.isList (x:=u) (by simpa using hu) fun h' st' sb=>?_
  have I1:aw X pins σ H { s with heap:=h' }:=I.turned (t':=s.toks) (fun b o hb e=>(sb.2 b hb).trans e) f0 f1 f3 f4 f5
  obtain⟨o,e,c,d⟩:=id st'
  exact⟨u,rfl,uv (s:={ s with heap:=h' }) e c d (by decide) ⟨x,H,I1,ru,⟨rfl,fun ys hy=>by rw[I.list_inj hy hq];exact hx⟩,st',fun b hb=>(hf b hb).1⟩⟩
 done:=by
  intro X hP hw hK hc i pins s σ H E I hf st hg
  subst hP hw hK
  obtain⟨xs,hq,hx⟩:=hg
  obtain⟨its,rv,p,hz⟩:=I.list hq
  obtain⟨f0,f1,f2,f3,f4,f5⟩:=hf it (by simp)
  have hl:=rv.length
  exact wpAny_pyNext_list_end (I.ok.hd hc) st p.isList (by simp;walk_at"o") fun h' eb=>⟨rfl,I.turned (t':=s.toks) (fun b o hb e=>eb b o hb e) f0 f1 f3 f4 f5⟩
 self:=fun _ _ _ _ _ st h=>wpAny_pyIter_listiter st h
theorem rE{P:Program}{w:World}{K:W.Frag}{tg:Expr}(it:Addr)(lo:Int)(n:Nat):xQ P w K tg (DE lo n) [it] it (fun i h=>IsRangeIter h it (lo+(i:Nat)*1) ((n:Int) - (i:Nat)) 1) where
 mem:=by simp
 obj:=fun i h st b hb=>by
  have e:b=it:=by simpa using hb
  subst e
  exact⟨_,st,fun v z=>by
   have z':Data.fields _=Data.cell v:=z
   cases z'⟩
 keep:=fun i h h' st k=>k it (by simp) _ st
 item:=by
  intro X hP hw hK hc i pins s σ H E I hf st hg
  subst hP hw hK
  obtain⟨f0,f1,f2,f3,f4,f5⟩:=hf it (by simp)
  have W:=Walks.range (prog:=X.prog) (w:=X.w) (I.ok.hd hc) it lo 1 n
  refine W.item i s _ _ hg st fun v h' tk hv st' kk=>?_
  obtain⟨t,rfl⟩:=hv
  have I1:aw X pins σ H { s with heap:=h',toks:=tk }:=I.turned (fun b o hb e=>kk b o (by simpa using hb) e) f0 f1 f3 f4 f5
  refine⟨_,rfl,uv (s:={ s with heap:=h',toks:=tk }) (n:="range_iterator") st' rfl rfl (by decide) ⟨.int (lo+i),H,I1,⟨t,?_⟩,⟨rfl,rfl⟩,st',fun b hb=>(hf b hb).1⟩⟩
  rw[Int.mul_one]
 done:=by
  intro X hP hw hK hc i pins s σ H E I hf st hg
  subst hP hw hK
  obtain⟨f0,f1,f2,f3,f4,f5⟩:=hf it (by simp)
  exact wpAny_pyNext_range_end (I.ok.hd hc) st (by have:n<=i:=hg;walk_at"o") fun h' eb=>⟨rfl,I.turned (t':=s.toks) (fun b o hb e=>eb b o hb e) f0 f1 f3 f4 f5⟩
 self:=fun _ _ _ _ _ st h=>wpAny_pyIter_rangeiter st h
end L2
namespace L2
open PySem PySem.Spec PyProof.Rows
section
variable {X:Cx}{tg:Expr}
def ul(K:W.Frag)(tl:TE):TI:=fun σ H R=>tl σ H fun x H1=>∃ a,x = .ref a/\(∃ xs,jS K H1 a xs)/\R (EW K a) H1
def Fi(K:W.Frag)(tl:TE):TI:=fun σ H R=>tl σ H fun x H1=>∃ a,x = .ref a/\(∃ xs,tq K H1 a xs)/\R (FK K a) H1
theorem zE{l:Expr}{tl:TE}(hl:PE X l tl):PI X tg l (ul X.K tl):=by
 intro pins s σ H R I h
 refine cn (hl pins s σ H _ I h) fun v s1 ⟨x,H1,I1,r1,q1⟩=>?_
 obtain⟨a,e,⟨xs,hq⟩,q⟩:=q1
 subst e
 cases r1
 obtain⟨its,rv,p,hz⟩:=I1.list hq
 refine wpAny_pyIter_list p.isList ?_
 refine⟨s1.heap.objs.size,[s1.heap.objs.size],_,_,H1,rfl,I1.kept (t':=s1.toks) fun b o e=>Heap.get?_push_of_some _ e,uZ a _,⟨_,Heap.get?_push_size _ rfl,rfl,rfl⟩,fun b hb=>?_,q⟩
 have e:b=s1.heap.objs.size:=by simpa using hb
 subst e
 exact I1.fpOk (Nat.le_refl _) (I1.hok.fresh (Nat.le_refl _))
theorem pM{pins:List (Addr × Obj)}{σ:St}{H:Hp}{s:Shared}{R:It->Hp->Prop}{E:Value->Shared->Prop}{lo hi:Int}{t u v:Tok}{tk:Nat}(I:aw X pins σ H s)(h1 : -(2 ^ 62)<=lo)(h2:lo<2 ^ 62)(h3 : -(2 ^ 62)<=hi)(h4:hi<2 ^ 62)
  (q:R (DE lo (hi - lo).toNat) H):wpAny (model X.prog X.w) X.A (pyIter (.ref s.heap.objs.size)) (FH X pins σ tg R) E { s with heap:=s.heap.push { cls:=.type "range",data:=.fields #[.int lo t,.int hi u,.int 1 v] },toks:=tk }:=by
 refine wpAny_pyIter_range (IsRange.new ..) (small_one h1 h2 h3 h4) ?_
 have I1:aw X pins σ H { s with heap:=s.heap.push { cls:=.type "range",data:=.fields #[.int lo t,.int hi u,.int 1 v] },toks:=tk }:=I.kept fun b o e=>Heap.get?_push_of_some _ e
 refine⟨(s.heap.push { cls:=.type "range",data:=.fields #[.int lo t,.int hi u,.int 1 v] }).objs.size,[(s.heap.push { cls:=.type "range",data:=.fields #[.int lo t,.int hi u,.int 1 v] }).objs.size],_,_,H,rfl,
  I1.kept (t':=tk) fun b o e=>Heap.get?_push_of_some _ e,rE _ lo (hi - lo).toNat,?_,fun b hb=>?_,q⟩
 ·have e1:lo+((0:Nat):Int)*1=lo:=by simp
  have e2:(((hi - lo).toNat:Nat):Int) - ((0:Nat):Int)=Builtin.Range.rangeSize lo hi 1:=by rw[rangeSize_one];split <;> walk_at"o"
  show IsRangeIter _ _ (lo+((0:Nat):Int)*1) ((((hi - lo).toNat:Nat):Int) - ((0:Nat):Int)) 1
  rw[e1,e2]
  exact Heap.get?_push_size _ rfl
 ·have e:b=(s.heap.push { cls:=.type "range",data:=.fields #[.int lo t,.int hi u,.int 1 v] }).objs.size:=by simpa using hb
  subst e
  exact I1.fpOk (Nat.le_refl _) (I1.hok.fresh (Nat.le_refl _))
def tV(ta:TA):TI:=fun σ H R=>ta σ H fun vs H1=>∃ j:Int,vs=[.int j] /\ -(2 ^ 62)<=j/\j<2 ^ 62/\R (DE 0 j.toNat) H1
def vY(ta:TA):TI:=fun σ H R=>ta σ H fun vs H1=>∃ i j:Int,vs=[.int i,.int j]/\(-(2 ^ 62)<=i/\i<2 ^ 62 /\ -(2 ^ 62)<=j/\j<2 ^ 62)/\R (DE i (j - i).toNat) H1
theorem vg{a:Expr}{ta:TA}{p pos:Pos}(hg:Gl X "range") (hm:X.mg "range" = none) (ha:PA X [a] ta)(hs:starEach [a] X.env=[(false,eval a X.env)]:=by rfl):PI X tg (.Call (.Name "range" p) [a] [] pos) (tV ta):=by
 intro pins s σ H R I h
 refine Call_ (iZ I hg hm boot_range (PyProof.Rows.callWith_type1 (cn (ha pos pins s σ H _ I h) fun us s1 ⟨vs,H1,I1,r1,q1⟩=>?_) hs rfl))
 obtain⟨j,e,q1,q2,q⟩:=q1
 subst e
 cases r1 with
 | cons r rr =>
  cases rr
  obtain⟨t,rfl⟩:=r
  exact call_range_1 (pM I1 (by walk_at"o") (by walk_at"o") q1 q2 (by simpa using q))
theorem uJ{a b:Expr}{ta:TA}{p pos:Pos}(hg:Gl X "range") (hm:X.mg "range" = none) (ha:PA X [a,b] ta)(hs:starEach [a,b] X.env=[(false,eval a X.env),(false,eval b X.env)]:=by rfl)(hs2:starEach [b] X.env=[(false,eval b X.env)]:=by rfl) :
  PI X tg (.Call (.Name "range" p) [a,b] [] pos) (vY ta):=by
 intro pins s σ H R I h
 refine Call_ (iZ I hg hm boot_range (PyProof.Rows.callWith_type1 (cn (ha pos pins s σ H _ I h) fun us s1 ⟨vs,H1,I1,r1,q1⟩=>?_) (by rw[hs,hs2]) (by rw[hs2];rfl)))
 obtain⟨i,j,e,⟨q1,q2,q3,q4⟩,q⟩:=q1
 subst e
 cases r1 with
 | cons r rr =>
  cases rr with
  | cons r' rr =>
   cases rr
   obtain⟨t,rfl⟩:=r
   obtain⟨t',rfl⟩:=r'
   exact call_range_2 (pM I1 q1 q2 q3 q4 q)
def Ca(wi:TI)(g:TG)(tb:TS):TS:=fun D σ H=>wi σ H fun J H1=>∃ W:Nat->Nat->St->Hp->Prop,(∃ m,W 0 m σ H1) /\ ∀ i m σ H,W i m σ H ->
 (J.stop i H/\D.nx σ H)\/(J.go i H /\ ∃ N:St->Hp->Prop,(∀ σ' H',N σ' H' -> ∃ m',m'<m/\W (i+1) m' σ' H') /\ ∀ x H',J.yld i H x H'->g x σ H' fun σ2 H2=>tb { D with nx:=N,ct:=N,bk:=D.nx } σ2 H2)
def kZ(fp:List Addr)(h:Heap):List (Addr × Obj):=fp.filterMap fun b=>(h.get? b).map fun o=>(b,o)
theorem gB{fp:List Addr}{h:Heap}{b:Addr}{o:Obj}(hb:b ∈ fp)(e:h.get? b=some o):(b,o) ∈ kZ fp h:=List.mem_filterMap.mpr ⟨b,hb,by rw[e];rfl⟩
theorem vA{fp:List Addr}{h:Heap}{p:Addr × Obj}(hp:p ∈ kZ fp h):p.1 ∈ fp/\h.get? p.1=some p.2:=by
 obtain⟨b,hb,e⟩:=List.mem_filterMap.mp hp
 cases q:h.get? b with
 | none=>rw[q] at e;cases e
 | some o =>
  rw[q] at e
  have e':(b,o)=p:=Option.some.inj e
  subst e'
  exact⟨hb,q⟩
theorem aw.pinned{pins:List (Addr × Obj)}{σ:St}{H:Hp}{s:Shared}{fp:List Addr}(I:aw X pins σ H s)(hf:∀ b ∈ fp,oz X pins H b)(ho:∀ b ∈ fp,∃ o,s.heap.get? b=some o /\ ∀ v,o.data ≠ .cell v):aw X (pins ++ kZ fp s.heap) σ H s :=
 I.pins_of fun p hp=>(List.mem_append.mp hp).elim (fun z=>I.pin p (List.mem_append_right _ z)) fun z=>by
  obtain⟨hb,e⟩:=vA z
  obtain⟨f0,f1,f2,_⟩:=hf p.1 hb
  obtain⟨o,e',d⟩:=ho p.1 hb
  rw[e] at e';cases e'
  exact⟨e,f0,f1,f2,d⟩
theorem aw.unpinned{pins pl:List (Addr × Obj)}{σ:St}{H:Hp}{s:Shared}(I:aw X (pins ++ pl) σ H s):aw X pins σ H s:=I.pins_of fun p hp=>I.pin p (List.mem_append_right _ (List.mem_append_left _ hp))
theorem Dv{iter:Expr}{body:List Stmt}{wi:TI}{g:TG}{tb:TS}{pos:Pos}(hp:PassesOwn (model X.prog X.w) X.A X.env X.xe)(hc:X.calm=true)(hi:PI X tg iter wi)(hg:PG X tg g)(hb:oF X body tb)
  (hs:∀ x,foldedSetIterable iter X.env x=pure x:=by intro _;rfl):PS X (.For tg iter body [] pos) (Ca wi g tb):=by
 intro pins s σ H D I h
 refine wpAny_For (cn (hi pins s σ H _ I h) fun v s1 h1=>cn h1 fun itv s2 h2=>?_) hs
 obtain⟨it,fp,tn,J,H2,e,I2,T,st2,f2,W,⟨m0,w0⟩,turn⟩:=h2
 subst e
 have stat:∀ {H':Hp},(∀ b ∈ fp,H' b=none) -> ∀ b ∈ fp,oz X pins H' b:=fun hn b hb=>⟨hn b hb,(f2 b hb).2⟩
 refine codeAny_forLoop_any (fun n s'=>∃ i σ' H',aw X pins σ' H' s'/\tn i s'.heap/\(∀ b ∈ fp,H' b=none)/\W i n σ' H') ?_ m0 ⟨0,σ,H2,I2,st2,fun b hb=>(f2 b hb).1,w0⟩
 rintro n s3 ⟨i,σ3,H3,I3,st3,fr3,w3⟩
 rcases turn i n σ3 H3 w3 with ⟨stop,qn⟩|⟨go,N,hN,step⟩
 ·refine wpAny_passesOwn hp (cn (T.done X rfl rfl rfl hc i pins s3 σ3 H3 X.xe I3 (stat fr3) st3 stop) fun r s4 ⟨hr,I4⟩=>?_)
  subst hr
  exact wpAny_execs_nil ⟨σ3,H3,I4,qn⟩
 ·refine wpAny_passesOwn hp (cn (T.item X rfl rfl rfl hc i pins s3 σ3 H3 X.xe I3 (stat fr3) st3 go) fun r s4 ⟨u,hr,h4⟩=>?_)
  subst hr
  refine wpAny_passesOwn hp (cn h4 fun _ s5 ⟨x,H5,I5,r5,y5,st5,fr5⟩=>?_)
  have I5':=I5.pinned (stat fr5) (T.obj _ _ st5)
  refine wpAny_passesOwn hp (cn (hg _ s5 σ3 H5 x u _ I5' r5 (step x H5 y5)) fun _ s6 ⟨σ6,H6,I6,q6⟩=>?_)
  refine wpAny_passesOwn hp (cn (hb _ s6 σ6 H6 _ I6 q6) fun f s7 q7=>?_)
  have again:∀ {σ7:St}{H7:Hp},aw X (pins ++ kZ fp s5.heap) σ7 H7 s7->N σ7 H7 -> ∃ m,m<n /\ ∃ i σ' H',aw X pins σ' H' s7/\tn i s7.heap/\(∀ b ∈ fp,H' b=none)/\W i m σ' H':=fun {σ7 H7} I7 n7=>by
   obtain⟨m',hm,w7⟩:=hN σ7 H7 n7
   refine⟨m',hm,i+1,σ7,H7,I7.unpinned,T.keep _ _ _ st5 fun b hb o e=>(I7.pin (b,o) (List.mem_append_right _ (List.mem_append_right _ (gB hb e)))).1,fun b hb=>?_,w7⟩
   obtain⟨o,e,d⟩:=T.obj _ _ st5 b hb
   exact (I7.pin (b,o) (List.mem_append_right _ (List.mem_append_right _ (gB hb e)))).2.1
  cases f with
  | next=>obtain⟨σ7,H7,I7,n7⟩:=q7;exact again I7 n7
  | cont=>obtain⟨σ7,H7,I7,n7⟩:=q7;exact again I7 n7
  | brk=>obtain⟨σ7,H7,I7,q7⟩:=q7;exact⟨σ7,H7,I7.unpinned,q7⟩
  | ret v=>obtain⟨x7,σ7,H7,I7,r7,q7⟩:=q7;exact⟨x7,σ7,H7,I7.unpinned,r7,q7⟩
end
end L2
namespace L2
open PySem PySem.Spec PyProof.Rows
abbrev R2:=V->V->Hp->VK->Prop
def eD(X:Cx)(f:Value->Value->Sem Value)(r:R2):Prop :=
 ∀ (pins:List (Addr × Obj))(s:Shared)(σ:St)(H:Hp)(x y:V)(v u:Value)(Q:VK),aw X pins σ H s->aS x v->aS y u->r x y H Q ->
  wpAny (model X.prog X.w) X.A (f v u) (EP X pins σ Q) X.xe s
def ET(X:Cx)(f:Value->Sem Value)(r:V->Hp->VK->Prop):Prop :=
 ∀ (pins:List (Addr × Obj))(s:Shared)(σ:St)(H:Hp)(x:V)(v:Value)(Q:VK),aw X pins σ H s->aS x v->r x H Q ->
  wpAny (model X.prog X.w) X.A (f v) (EP X pins σ Q) X.xe s
def dE(X:Cx)(f:Value)(r:List V->Hp->VK->Prop):Prop :=
 ∀ (pins:List (Addr × Obj))(s:Shared)(σ:St)(H:Hp)(xs:List V)(us:List Value)(Q:VK),aw X pins σ H s->aL xs us->r xs H Q ->
  wpAny (model X.prog X.w) X.A (call f us) (EP X pins σ Q) X.xe s
def E4(X:Cx)(r:V->Hp->(Bool->Hp->Prop)->Prop):Prop :=
 ∀ (pins:List (Addr × Obj))(s:Shared)(σ:St)(H:Hp)(x:V)(v:Value)(Q:Bool->Hp->Prop),aw X pins σ H s->aS x v->r x H Q ->
  wpAny (model X.prog X.w) X.A (truthy v) (TP X pins σ Q) X.xe s
def Ae(r:R2)(ta tb:TE):TE:=fun σ H Q=>ta σ H fun x H1=>tb σ H1 fun y H2=>r x y H2 Q
def Fe(r:V->Hp->VK->Prop)(ta:TE):TE:=fun σ H Q=>ta σ H fun x H1=>r x H1 Q
def rI(C:Int->Int->Prop)(g:Int->Int->V):R2:=fun x y H Q=>∃ i j,x = .int i/\y = .int j/\C i j/\Q (g i j) H
def uO(g:Int->Int->V):R2:=fun x y H Q=>∃ i j,x = .int i/\y = .int j/\Q (g i j) H
def rU(g:Int->V):V->Hp->VK->Prop:=fun x H Q=>∃ i,x = .int i/\Q (g i) H
section
variable {X:Cx}{a b c:Expr}{ta tb tc:TE}{pos:Pos}
theorem Bv(ha:PE X a ta)(hb:PE X b tb) {pins:List (Addr × Obj)}{s:Shared}{σ:St}{H:Hp}{R:V->V->Hp->Prop}(I:aw X pins σ H s)
  (h:ta σ H fun x H1=>tb σ H1 fun y H2=>R x y H2) {Q:Value->Shared->Prop}{f:Value->Value->Sem Value}
  (hf:∀ v u s2 x y H2,aw X pins σ H2 s2->aS x v->aS y u->R x y H2->wpAny (model X.prog X.w) X.A (f v u) Q X.xe s2) :
  wpAny (model X.prog X.w) X.A (eval a X.env) (fun v s₁=>wpAny (model X.prog X.w) X.A (eval b X.env) (fun u s₂=>wpAny (model X.prog X.w) X.A (f v u) Q X.xe s₂) X.xe s₁) X.xe s:=by
 refine cn (ha pins s σ H _ I h) fun v s1 ⟨x,H1,I1,r1,q1⟩=>?_
 refine cn (hb pins s1 σ H1 _ I1 q1) fun u s2 ⟨y,H2,I2,r2,q2⟩=>?_
 exact hf v u s2 x y H2 I2 r1 r2 q2
theorem Et{op:Operator}{r:R2}(ho:eD X (binaryOp op) r)(ha:PE X a ta)(hb:PE X b tb):PE X (.BinOp a op b pos) (Ae r ta tb):=by
 intro pins s σ H Q I h
 exact wpAny_BinOp (Bv ha hb I h fun v u s2 x y H2 I2 rx ry q=>ho pins s2 σ H2 x y v u Q I2 rx ry q)
theorem EC{op:UnaryOp}{r:V->Hp->VK->Prop}(ho:ET X (unaryOp op) r)(ha:PE X a ta):PE X (.UnaryOp op a pos) (Fe r ta):=by
 intro pins s σ H Q I h
 exact UnaryOp_ (cn (ha pins s σ H _ I h) fun v s1 ⟨x,H1,I1,r1,q1⟩=>ho pins s1 σ H1 x v Q I1 r1 q1)
theorem DT{f:Value->Value->Sem Value}{C:Int->Int->Prop}{g:Int->Int->Int}
  (rule:∀ (i j:Int)(t u:Tok)(s:Shared)(Q:Value->Shared->Prop)(E:Value->Shared->Prop),C i j->Q (.int (g i j) s.toks) { s with toks:=s.toks+1 } -> wpAny (model X.prog X.w) X.A (f (.int i t) (.int j u)) Q E s) :
  eD X f (rI C fun i j=>.int (g i j)):=by
 intro pins s σ H x y v u Q I rx ry h
 obtain⟨i,j,rfl,rfl,hc,q⟩:=h
 obtain⟨t,rfl⟩:=rx
 obtain⟨t',rfl⟩:=ry
 exact rule i j t t' s _ _ hc ⟨.int (g i j),H,I.tok _,⟨_,rfl⟩,q⟩
theorem Es{f:Value->Value->Sem Value}{g:Int->Int->Int}
  (rule:∀ (i j:Int)(t u:Tok)(s:Shared)(Q:Value->Shared->Prop)(E:Value->Shared->Prop),Q (.int (g i j) s.toks) { s with toks:=s.toks+1 } -> wpAny (model X.prog X.w) X.A (f (.int i t) (.int j u)) Q E s) :
  eD X f (uO fun i j=>.int (g i j)):=by
 intro pins s σ H x y v u Q I rx ry h
 obtain⟨i,j,rfl,rfl,q⟩:=h
 obtain⟨t,rfl⟩:=rx
 obtain⟨t',rfl⟩:=ry
 exact rule i j t t' s _ _ ⟨.int (g i j),H,I.tok _,⟨_,rfl⟩,q⟩
theorem Dc{f:Value->Value->Sem Value}{g:Int->Int->Bool}
  (rule:∀ (i j:Int)(t u:Tok)(s:Shared)(Q:Value->Shared->Prop)(E:Value->Shared->Prop),Q (.bool (g i j)) s->wpAny (model X.prog X.w) X.A (f (.int i t) (.int j u)) Q E s) :
  eD X f (uO fun i j=>.bl (g i j)):=by
 intro pins s σ H x y v u Q I rx ry h
 obtain⟨i,j,rfl,rfl,q⟩:=h
 obtain⟨t,rfl⟩:=rx
 obtain⟨t',rfl⟩:=ry
 exact rule i j t t' s _ _ ⟨.bl (g i j),H,I,rfl,q⟩
def Eu(i j:Int):Prop:=0<=j/\j<=1000000/\i.natAbs<2 ^ 64
theorem BL:eD X (binaryOp .Add) (uO fun i j=>.int (i+j)):=Es fun _ _ _ _ _ _ _ q=>add_int q
theorem dA:eD X (binaryOp .Sub) (uO fun i j=>.int (i - j)):=Es fun _ _ _ _ _ _ _ q=>sub_int q
theorem zK:eD X (binaryOp .Mod) (rI (fun _ j=>j ≠ 0) fun i j=>.int (i.fmod j)):=DT fun _ _ _ _ _ _ _ hc q=>mod_int' hc q
theorem rY:eD X (binaryOp .Pow) (rI Eu fun i j=>.int (i ^ j.toNat)):=DT fun _ _ _ _ _ _ _ hc q=>pow_int_small hc.1 hc.2.1 hc.2.2 q
theorem FJ{f:Value->Sem Value}{g:Int->Int}
  (rule:∀ (i:Int)(t:Tok)(s:Shared)(Q:Value->Shared->Prop)(E:Value->Shared->Prop),Q (.int (g i) s.toks) { s with toks:=s.toks+1 } -> wpAny (model X.prog X.w) X.A (f (.int i t)) Q E s) :
  ET X f (rU fun i=>.int (g i)):=by
 intro pins s σ H x v Q I rx h
 obtain⟨i,rfl,q⟩:=h
 obtain⟨t,rfl⟩:=rx
 exact rule i t s _ _ ⟨.int (g i),H,I.tok _,⟨_,rfl⟩,q⟩
theorem dM:ET X (unaryOp .USub) (rU fun i=>.int (-i)):=FJ fun _ _ _ _ _ q=>neg_int q
end
def uL:V->V->Bool
 | .non,.non=>true | .non,.int _=>true | .int _,.non=>true | .non,.bl _=>true | .bl _,.non=>true | .non,.str _=>true | .str _,.non=>true
 | .int _,.int _=>true | .bl _,.bl _=>true | .str _,.str _=>true | .byt _,.byt _=>true
 | .int _,.str _=>true | .str _,.int _=>true | .bl _,.str _=>true | .str _,.bl _=>true
 | _,_=>false
def DH:R2:=fun x y H Q=>uL x y=true/\Q (.bl (decide (x=y))) H
def DJ:R2:=fun x y H Q=>uL x y=true/\Q (.bl (!decide (x=y))) H
theorem sE{i j:Int}:decide (V.int i=V.int j)=(i == j):=by
 rw[Bool.eq_iff_iff]
 simp
theorem w5{i j:Bool}:decide (V.bl i=V.bl j)=(i == j):=by
 rw[Bool.eq_iff_iff]
 simp
theorem sS{i j:Str}:decide (V.str i=V.str j)=(i == j):=by
 rw[Bool.eq_iff_iff]
 simp
theorem tT{i j:Array UInt8}:decide (V.byt i=V.byt j)=(i.toList == j.toList):=by
 rw[Bool.eq_iff_iff]
 cases i
 cases j
 simp
section
variable {X:Cx}{a b c:Expr}{ta tb tc:TE}{pos:Pos}
theorem aP{pins:List (Addr × Obj)}{σ:St}{H:Hp}{s:Shared}{Q:VK}{k k':Bool}(I:aw X pins σ H s)(q:Q (.bl k) H)(e:k=k'):EP X pins σ Q (.bool k') s:=by
 subst e
 exact⟨.bl k,H,I,rfl,q⟩
theorem hZ:eD X (compareOp .Eq) DH:=by
 intro pins s σ H x y v u Q I rx ry h
 obtain⟨hs,q⟩:=h
 cases x with
 | non =>
  cases rx
  cases y with
  | non=>cases ry;exact PySem.EqNone.eq_none_none (aP I q (by simp))
  | bl j=>cases ry;exact PySem.EqNone.eq_none_bool (aP I q (by simp))
  | int j=>obtain⟨t',rfl⟩:=ry;exact PySem.EqNone.eq_none_int (aP I q (by simp))
  | str j=>obtain⟨t',rfl⟩:=ry;exact PySem.EqNone.eq_none_str (aP I q (by simp))
  | _=>exact absurd (show false=true from hs) Bool.false_ne_true
 | bl i =>
  cases rx
  cases y with
  | non=>cases ry;exact PySem.EqNone.eq_bool_none (aP I q (by simp))
  | bl j=>cases ry;exact eq_bool (aP I q w5)
  | str j=>obtain⟨t',rfl⟩:=ry;exact PySem.EqMixed.eq_bool_str (aP I q (by simp))
  | _=>exact absurd (show false=true from hs) Bool.false_ne_true
 | int i =>
  obtain⟨t,rfl⟩:=rx
  cases y with
  | non=>cases ry;exact PySem.EqNone.eq_int_none (aP I q (by simp))
  | int j=>obtain⟨t',rfl⟩:=ry;exact eq_int (aP I q sE)
  | str j=>obtain⟨t',rfl⟩:=ry;exact PySem.EqMixed.eq_int_str (aP I q (by simp))
  | _=>exact absurd (show false=true from hs) Bool.false_ne_true
 | str i =>
  obtain⟨t,rfl⟩:=rx
  cases y with
  | non=>cases ry;exact PySem.EqNone.eq_str_none (aP I q (by simp))
  | bl j=>cases ry;exact PySem.EqMixed.eq_str_bool (aP I q (by simp))
  | int j=>obtain⟨t',rfl⟩:=ry;exact PySem.EqMixed.eq_str_int (aP I q (by simp))
  | str j=>obtain⟨t',rfl⟩:=ry;exact eq_str (aP I q sS)
  | _=>exact absurd (show false=true from hs) Bool.false_ne_true
 | byt i =>
  obtain⟨t,rfl⟩:=rx
  cases y with
  | byt j=>obtain⟨t',rfl⟩:=ry;exact PySem.W.eq_bytes (aP I q tT)
  | _=>exact absurd (show false=true from hs) Bool.false_ne_true
 | _=>cases y <;> exact absurd (show false=true from hs) Bool.false_ne_true
theorem qw:eD X (compareOp .NotEq) DJ:=by
 intro pins s σ H x y v u Q I rx ry h
 obtain⟨hs,q⟩:=h
 cases x with
 | non =>
  cases rx
  cases y with
  | non=>cases ry;exact PySem.EqNone.ne_none_none (aP I q (by simp))
  | bl j=>cases ry;exact PySem.EqNone.ne_none_bool (aP I q (by simp))
  | int j=>obtain⟨t',rfl⟩:=ry;exact PySem.EqNone.ne_none_int (aP I q (by simp))
  | str j=>obtain⟨t',rfl⟩:=ry;exact PySem.EqNone.ne_none_str (aP I q (by simp))
  | _=>exact absurd (show false=true from hs) Bool.false_ne_true
 | bl i =>
  cases rx
  cases y with
  | non=>cases ry;exact PySem.EqNone.ne_bool_none (aP I q (by simp))
  | bl j=>cases ry;exact ne_bool (aP I q (congrArg not w5))
  | str j=>obtain⟨t',rfl⟩:=ry;exact PySem.EqMixed.ne_bool_str (aP I q (by simp))
  | _=>exact absurd (show false=true from hs) Bool.false_ne_true
 | int i =>
  obtain⟨t,rfl⟩:=rx
  cases y with
  | non=>cases ry;exact PySem.EqNone.ne_int_none (aP I q (by simp))
  | int j=>obtain⟨t',rfl⟩:=ry;exact ne_int (aP I q (congrArg not sE))
  | str j=>obtain⟨t',rfl⟩:=ry;exact PySem.EqMixed.ne_int_str (aP I q (by simp))
  | _=>exact absurd (show false=true from hs) Bool.false_ne_true
 | str i =>
  obtain⟨t,rfl⟩:=rx
  cases y with
  | non=>cases ry;exact PySem.EqNone.ne_str_none (aP I q (by simp))
  | bl j=>cases ry;exact PySem.EqMixed.ne_str_bool (aP I q (by simp))
  | int j=>obtain⟨t',rfl⟩:=ry;exact PySem.EqMixed.ne_str_int (aP I q (by simp))
  | str j=>obtain⟨t',rfl⟩:=ry;exact ne_str (aP I q (congrArg not sS))
  | _=>exact absurd (show false=true from hs) Bool.false_ne_true
 | byt i =>
  obtain⟨t,rfl⟩:=rx
  cases y with
  | byt j=>obtain⟨t',rfl⟩:=ry;exact PySem.W.ne_bytes (aP I q (congrArg not tT))
  | _=>exact absurd (show false=true from hs) Bool.false_ne_true
 | _=>cases y <;> exact absurd (show false=true from hs) Bool.false_ne_true
theorem uu:eD X (compareOp .Lt) (uO fun i j=>.bl (decide (i<j))):=Dc fun _ _ _ _ _ _ _ q=>lt_int q
theorem pQ:eD X (compareOp .Gt) (uO fun i j=>.bl (decide (j<i))):=Dc fun _ _ _ _ _ _ _ q=>gt_int q
theorem Ep:eD X (compareOp .GtE) (uO fun i j=>.bl (decide (j<=i))):=Dc fun _ _ _ _ _ _ _ q=>ge_int q
theorem oI:eD X (compareOp .Is) (fun x y H Q=>y = .non/\Q (.bl (decide (x = .non))) H):=by
 intro pins s σ H x y v u Q I rx ry h
 obtain⟨rfl,q⟩:=h
 cases ry
 refine is_none_gen (aP I q ?_)
 cases x <;> first
  | (cases rx;rfl)
  | (obtain⟨t,rfl⟩:=rx;rfl)
theorem kA:eD X (compareOp .IsNot) (fun x y H Q=>y = .non/\Q (.bl (!decide (x = .non))) H):=by
 intro pins s σ H x y v u Q I rx ry h
 obtain⟨rfl,q⟩:=h
 cases ry
 refine isnot_none_gen (aP I q ?_)
 cases x <;> first
  | (cases rx;rfl)
  | (obtain⟨t,rfl⟩:=rx;rfl)
theorem eD.or{f:Value->Value->Sem Value}{r r':R2}(h:eD X f r)(h':eD X f r'):eD X f (fun x y H Q=>r x y H Q\/r' x y H Q):=by
 intro pins s σ H x y v u Q I rx ry q
 rcases q with q|q
 ·exact h pins s σ H x y v u Q I rx ry q
 ·exact h' pins s σ H x y v u Q I rx ry q
theorem aJ(b:Expr){op:CmpOp}(h:op ≠ .In:=by decide)(h2:op ≠ .NotIn:=by decide):behindInMarks op b=false:=by
 have e1:(op == CmpOp.In)=false:=by cases op <;> first|rfl|exact absurd rfl h
 have e2:(op == CmpOp.NotIn)=false:=by cases op <;> first|rfl|exact absurd rfl h2
 cases b <;> simp[behindInMarks,e1,e2]
theorem Ad{op:CmpOp}{r:R2}(ho:eD X (compareOp op) r)(ha:PE X a ta)(hb:PE X b tb)(hm:behindInMarks op b=false):PE X (.Compare a [op] [b] pos) (Ae r ta tb):=by
 intro pins s σ H Q I h
 exact wpAny_Compare1 (Bv ha hb I h fun v u s2 x y H2 I2 rx ry q=>ho pins s2 σ H2 x y v u Q I2 rx ry q) hm
def sL(t:TE):TT:=fun σ H Q=>t σ H fun x H'=>∃ k,x = .bl k/\Q k H'
theorem yY{op:CmpOp}{r:R2}(ho:eD X (compareOp op) r)(ha:PE X a ta)(hb:PE X b tb)(hm:behindInMarks op b=false):PT X (.Compare a [op] [b] pos) (sL (Ae r ta tb)):=by
 intro pins s σ H Q I h
 refine wpAny_isTrue_Compare1 (cn (ha pins s σ H _ I h) fun v s1 ⟨x,H1,I1,r1,q1⟩=>cn (hb pins s1 σ H1 _ I1 q1) fun u s2 ⟨y,H2,I2,r2,q2⟩ =>
  cn (ho pins s2 σ H2 x y v u _ I2 r1 r2 q2) fun c s3 ⟨z,H3,I3,r3,k,e,q3⟩=>?_) hm
 subst e
 cases r3
 exact wpAny_truthy_bool ⟨H3,I3,q3⟩
def su(K:W.Frag)(x:V)(H:Hp)(k:Bool):Prop :=
 match x with
 | .non=>k=false
 | .bl b=>k=b
 | .int i=>k=(i != 0)
 | .str y=>y.length<=sizeLine/\k=((y.length:Int) != 0)
 | .byt y=>y.size<=sizeLine/\k=((y.size:Int) != 0)
 | .ref p=>(∃ xs,jS K H p xs/\k = !xs.isEmpty)\/(∃ xs,tq K H p xs/\k = !xs.isEmpty) \/ ∃ kvs,H p=some (.dK kvs)/\k = !kvs.isEmpty
 | _=>False
theorem rW{κ:Type}{kvs:List (κ × V)}{vs:List (κ × Value)}(r:KV kvs vs):(!vs.isEmpty) = !kvs.isEmpty:=by
 cases r <;> rfl
theorem lE{xs:List V}{its:List Value}(r:aL xs its):(!its.toArray.isEmpty) = !xs.isEmpty:=by
 cases r <;> simp
theorem jC:(sizeLine:Nat)<2 ^ 63:=by rw[sizeLine_eq];decide
theorem CU:E4 X (fun x H Q=>∃ k,su X.K x H k/\Q k H):=by
 intro pins s σ H x v Q I rx h
 obtain⟨k,e,q⟩:=h
 have hl:=jC
 have hs:sizeLine=16777216:=sizeLine_eq
 cases x with
 | non =>
  cases rx
  have e':k=false:=e
  subst e'
  exact truthy_none ⟨H,I,q⟩
 | bl b =>
  cases rx
  have e':k=b:=e
  subst e'
  exact wpAny_truthy_bool ⟨H,I,q⟩
 | int i =>
  obtain⟨t,rfl⟩:=rx
  have e':k=(i != 0):=e
  subst e'
  exact PySem.P.truthy_int ⟨H,I,q⟩
 | str y =>
  obtain⟨t,rfl⟩:=rx
  obtain⟨hy,e'⟩ : y.length<=sizeLine/\k=((y.length:Int) != 0):=e
  subst e'
  exact PySem.P.truthy_str (by walk_at"o") ⟨H,I.tok _,q⟩
 | byt y =>
  obtain⟨t,rfl⟩:=rx
  obtain⟨hy,e'⟩ : y.size<=sizeLine/\k=((y.size:Int) != 0):=e
  subst e'
  exact PySem.W.truthy_bytes (by walk_at"o") ⟨H,I.tok _,q⟩
 | ref p =>
  cases rx
  have e':(∃ xs,jS X.K H p xs/\k = !xs.isEmpty)\/(∃ xs,tq X.K H p xs/\k = !xs.isEmpty) \/ ∃ kvs,H p=some (.dK kvs)/\k = !kvs.isEmpty:=e
  rcases e' with ⟨xs,hx,e'⟩|⟨xs,hx,e'⟩|⟨kvs,hx,e'⟩
  ·subst e'
   obtain⟨its,r,pl,hz⟩:=I.list hx
   have hlen:=r.length
   exact wpAny_truthy_list pl.isList (by simp only[List.size_toArray];walk_at"o") ⟨H,I.tok _,by rw[lE r];exact q⟩
  ·subst e'
   obtain⟨its,r,pl,hz⟩:=I.tuple hx
   have hlen:=r.length
   exact truthy_tuple pl (by simp only[List.size_toArray];walk_at"o") ⟨H,I.tok _,by rw[lE r];exact q⟩
  ·subst e'
   obtain⟨hz,hS,vs,r,m⟩ : kvs.length<=sizeLine/\(p == sysModules)=false /\ ∃ vs,KV kvs vs/\s.heap.DictOf (cI X.prog X.w) p vs:=I.hok p _ hx
   have hlen:kvs.length=vs.length:=Paired.length r
   exact wpAny_truthy_dict hS m (by walk_at"o") ⟨H,I.tok _,by rw[rW r];exact q⟩
 | _=>exact (show False from e).elim
theorem xc(ha:PE X a ta)(he:∀ whole,isTrue a X.env whole=(do let v <- whole;standAt a.pos;holding [v] (truthy v))) :
  PT X a (fun σ H Q=>ta σ H fun x H'=>∃ k,su X.K x H' k/\Q k H'):=by
 intro pins s σ H Q I h
 exact isTrue_plain (cn (ha pins s σ H _ I h) fun v s1 ⟨x,H1,I1,r1,q1⟩=>CU pins s1 σ H1 x v Q I1 r1 q1) (he _)
theorem xt{x:V}{us:List Value}(r:aL [x] us):∃ u,us=[u]/\aS x u:=by
 cases r with
 | cons r1 r2=>cases r2;exact⟨_,rfl,r1⟩
theorem ut{x y:V}{us:List Value}(r:aL [x,y] us):∃ u w',us=[u,w']/\aS x u/\aS y w':=by
 cases r with
 | cons r1 r2 =>
  cases r2 with
  | cons r3 r4=>cases r4;exact⟨_,_,rfl,r1,r3⟩
theorem jq:dE X (.builtin "abs") (fun xs H Q=>∃ i,xs=[.int i]/\Q (.int (if i<0 then -i else i)) H):=by
 intro pins s σ H xs us Q I r h
 obtain⟨i,rfl,q⟩:=h
 obtain⟨u,rfl,t,rfl⟩:=xt r
 exact call_abs_int fun u tk=>⟨.int (if i<0 then -i else i),H,I.tok _,⟨_,rfl⟩,q⟩
theorem m7(hc:X.calm=true):dE X (.builtin "max") (fun xs H Q=>∃ i j,xs=[.int i,.int j]/\Q (.int (if j > i then j else i)) H):=by
 intro pins s σ H xs us Q I r h
 obtain⟨i,j,rfl,q⟩:=h
 obtain⟨u,w',rfl,⟨t,rfl⟩,⟨t',rfl⟩⟩:=ut r
 refine max_two_ints (I.ok.hd hc) fun h' tk k=>⟨_,H,I.kept k,?_,q⟩
 by_cases hj:j > i
 ·rw[if_pos hj,if_pos hj];exact⟨_,rfl⟩
 ·rw[if_neg hj,if_neg hj];exact⟨_,rfl⟩
theorem ni(hc:X.calm=true):dE X (.builtin "min") (fun xs H Q=>∃ i j,xs=[.int i,.int j]/\Q (.int (if j<i then j else i)) H):=by
 intro pins s σ H xs us Q I r h
 obtain⟨i,j,rfl,q⟩:=h
 obtain⟨u,w',rfl,⟨t,rfl⟩,⟨t',rfl⟩⟩:=ut r
 refine min_two_ints (I.ok.hd hc) fun h' tk k=>⟨_,H,I.kept k,?_,q⟩
 by_cases hj:j<i
 ·rw[if_pos hj,if_pos hj];exact⟨_,rfl⟩
 ·rw[if_neg hj,if_neg hj];exact⟨_,rfl⟩
end
end L2
namespace L2
open PySem PySem.Spec PyProof.Rows
structure Bs (h:Heap)(x dx C:Addr)(mA:Str->Option Value):Prop where
 obj:h.get? x=some (PySem.W.instObj C dx)
 ns:h.Ns1 dx mA
 ne:dx ≠ x
theorem u5{h:Heap}{dx:Addr}{mA:Str->Option Value}(n:h.Ns1 dx mA):∃ od,h.get? dx=some od /\ ∀ name,PySem.W.lookIn name od=some (mA name):=by
 obtain⟨o,es,ep,ho,hd,hk,_,hm⟩:=n
 refine⟨o,ho,fun name=>?_⟩
 have e:=hm name
 unfold nsFind findBy at e
 rw[<- Array.find?_toList] at e
 unfold PySem.W.lookIn
 rw[hd]
 dsimp only
 split
 ·rename_i y q
  rw[q] at e
  exact congrArg some e
 ·rename_i q
  rw[q] at e
  have a:es.toList.any (·.refKey)=false:=by
   rw[List.any_eq_false]
   intro y hy
   obtain⟨z,t,hkey⟩:=hk y (Array.mem_toList_iff.mp hy)
   simp[DictEntry.refKey,hkey]
  have a':¬ es.toList.any (·.refKey)=true:=by rw[a];exact Bool.false_ne_true
  rw[if_neg a']
  exact congrArg some e
theorem Bs.look{h:Heap}{x dx C:Addr}{mA:Str->Option Value}(I:Bs h x dx C mA):∃ od,PySem.W.InstAt h x (PySem.W.instObj C dx) C (some od) /\ ∀ name,PySem.W.lookIn name od=some (mA name) :=
 let ⟨od,ho,hl⟩:=u5 I.ns
 ⟨od,⟨I.obj,rfl,rfl,ho⟩,hl⟩
section
variable {prog:Program}{w:World}{A:Around}{E:Value->Shared->Prop}{s:Shared}{K:W.Frag}{x dx C f:Addr}{mA:Str->Option Value}{name:Str}{v:Value}
end
theorem oD.some_of{v:V}{o:Option Value}(r:oD (some v) o):∃ u,o=some u/\aS v u:=by
 cases o with
 | none=>exact (show False from r).elim
 | some u=>exact⟨u,rfl,r⟩
section
variable {P:Program}{w:World}{H H':Hp}{h h':Heap}{a C dx:Addr}{fs fs':List (Str × V)}
theorem yN(hok:iJ P w H h)(e:H a=some (.ins C dx fs)):∃ mA,Bs h a dx C mA/\(∀ f,oD (fs.lookup f) (mA f))/\PySem.Within mA (fs.map (·.1))/\fs.length<=1000/\H dx=some (.own a):=by
 obtain⟨d,z,ne,ob,mA,n,r,q⟩:=(show bY P w H h a (.ins C dx fs) from hok a _ e)
 exact⟨mA,⟨ob,n,ne⟩,r,q,z,d⟩
end
structure Fc (K:W.Frag)(C:Addr):Prop where
 pg:PySem.W.plainGet K C Str.empty=true
 hd:PySem.W.hasDictIn K C=true
 po:PySem.W.plainOver K C=true
 sa:PySem.W.findIn K (.ref C) "__setattr__" = some (some (.builtin "object.__setattr__"))
theorem Fc.get{K:W.Frag}{C:Addr}(c:Fc K C)(f:Str):PySem.W.plainGet K C f=true:=c.pg
section
variable {X:Cx}{pins:List (Addr × Obj)}{σ:St}{H:Hp}{s:Shared}{a C dx:Addr}{fs:List (Str × V)}{f:Str}{v:V}{A:Around}{E:Value->Shared->Prop}
end
section
variable {X:Cx}{o e value:Expr}{f:Str}{pos pos' tpos:Pos}{ta tv:TE}
end
section
variable {X:Cx}{pins:List (Addr × Obj)}{σ:St}{H:Hp}{s:Shared}{A:Around}{E:Value->Shared->Prop}{Q:Value->Shared->Prop}{c:Value}{b:Bool}
inductive kh (K:W.Frag)(H:Hp):V->Value->Prop where
 | non:kh K H .non (.type "NoneType")
 | bl (x:Bool):kh K H (.bl x) (.type "bool")
 | int (i:Int):kh K H (.int i) (.type "int")
 | str (x:Str):kh K H (.str x) (.type "str")
 | flt (x:UInt64):kh K H (.flt x) (.type "float")
 | lst {a:Addr}{xs:List V}(e:H a=some (.lst xs)):kh K H (.ref a) (.type "list")
 | frz {a:Addr}{o:Obj}{xs:List V}(e:H a=some (.frz o (.lst xs))):kh K H (.ref a) (.type "list")
 | tup {a:Addr}{xs:List V}(e:H a=some (.tup xs)):kh K H (.ref a) (.type "tuple")
 | dK {a:Addr}{kvs:List (fP × V)}(e:H a=some (.dK kvs)):kh K H (.ref a) (.type "dict")
 | dT {a:Addr}{kvs:List (List fP × V)}(e:H a=some (.dT kvs)):kh K H (.ref a) (.type "dict")
 | ins {a C dx:Addr}{fs:List (Str × V)}(e:H a=some (.ins C dx fs))(cl:Fc K C)(ha:PySem.W.findIn K (.ref C) "__class__" = some (some (.builtin "object.__class__")))
   (hn:PySem.W.specialIn K (.builtin "object.__class__") "__get__" = some (some (.builtin "getset_descriptor.__get__"))) (htk:PySem.W.takesIn K (.builtin "object.__class__")=some true)
   (hm:PySem.W.mroIn K C (.type "object")=some true):kh K H (.ref a) (.ref C)
theorem ez{x:V}{u t:Value}(I:aw X pins σ H s)(rx:aS x u)(ty:kh X.K H x t)(e:PySem.W.kitOne X.K t c=some b)(h:∀ tk,Q (.bool b) { s with toks:=tk }) :
  wpAny (model X.prog X.w) A (call (.builtin "isinstance") [u,c]) Q E s:=by
 cases ty with
 | non=>cases (show u=Value.none from rx);exact PySem.W.kia_one PySem.W.kitx_none I.kIn True.intro e (fun z=>nomatch z) h
 | bl y=>cases (show u=Value.bool y from rx);exact PySem.W.kia_one PySem.W.kitx_bool I.kIn True.intro e (fun z=>nomatch z) h
 | int i=>obtain⟨t,q⟩:=(show ∃ t,u=Value.int i t from rx);cases q;exact PySem.W.kia_one PySem.W.kitx_int I.kIn True.intro e (fun z=>nomatch z) h
 | str y=>obtain⟨t,q⟩:=(show ∃ t,u=Value.str y t from rx);cases q;exact PySem.W.kia_one PySem.W.kitx_str I.kIn True.intro e (fun z=>nomatch z) h
 | flt y=>obtain⟨t,q⟩:=(show ∃ t,u=Value.float y t from rx);cases q;exact PySem.W.kia_one PySem.W.kitx_float I.kIn True.intro e (fun z=>nomatch z) h
 | @lst a xs ea =>
  cases (show u=Value.ref a from rx)
  obtain⟨_,_,n,_,h1⟩:=(show bY X.prog X.w H s.heap a (.lst xs) from I.hok a _ ea)
  exact PySem.W.kia_one PySem.W.kitx_list I.kIn ⟨_,h1,rfl⟩ e (fun z=>nomatch z) h
 | @frz a ob xs ea =>
  cases (show u=Value.ref a from rx)
  obtain⟨_,_,_,n,_,h1⟩:=(show bY X.prog X.w H s.heap a (.frz ob (.lst xs)) from I.hok a _ ea)
  exact PySem.W.kia_one PySem.W.kitx_list I.kIn ⟨_,h1,rfl⟩ e (fun z=>nomatch z) h
 | @tup a xs ea =>
  cases (show u=Value.ref a from rx)
  obtain⟨_,_,_,p⟩:=(show bY X.prog X.w H s.heap a (.tup xs) from I.hok a _ ea)
  obtain⟨o,h1,h2,_⟩:=p
  exact PySem.W.kia_one PySem.W.kitx_tuple I.kIn ⟨o,h1,h2⟩ e (fun z=>nomatch z) h
 | @dK a kvs ea =>
  cases (show u=Value.ref a from rx)
  obtain⟨_,_,vs,_,p⟩:=(show bY X.prog X.w H s.heap a (.dK kvs) from I.hok a _ ea)
  obtain⟨o,es,ep,h1,h2,_⟩:=p
  exact PySem.W.kia_one PySem.W.kitx_dict I.kIn ⟨o,h1,h2.1⟩ e (fun z=>nomatch z) h
 | @dT a kvs ea =>
  cases (show u=Value.ref a from rx)
  obtain⟨_,_,xs,_,o,es,ep,h1,h2,_⟩:=(show bY X.prog X.w H s.heap a (.dT kvs) from I.hok a _ ea)
  exact PySem.W.kia_one PySem.W.kitx_dict I.kIn ⟨o,h1,h2.1⟩ e (fun z=>nomatch z) h
 | @ins a C dx fs ea cl ha hn htk hm =>
  cases (show u=Value.ref a from rx)
  obtain⟨mA,O,_⟩:=yN I.hok ea
  obtain⟨od,J,_⟩:=O.look
  exact PySem.W.kia_one (PySem.W.kitx_own (cl.get _) cl.hd ha hn htk hm) I.kIn J e (fun z=>nomatch z) h
end
end L2
namespace L2
open PySem PySem.Spec PyProof.Rows
structure cF (k:Nat)(A:Around):Prop where
 hd:A.handled=none
 dp:A.depth+3*k+105<recursionLimit
 un:A.units+16*k+200<cLine
theorem cF.mono{j k:Nat}{A:Around}(r:cF k A)(h:j<=k):cF j A:=⟨r.hd,by have:=r.dp;walk_at"o",by have:=r.un;walk_at"o"⟩
theorem cF.deeper{k:Nat}{A:Around}(r:cF (k+1) A)(env:Env):cF k (A.deeper env) :=
 ⟨r.hd,by have:=r.dp;show A.depth+1+3*k+105<_;walk_at"o",by have:=r.un;show A.units+3+16*k+200<_;walk_at"o"⟩
theorem cF.depth{k:Nat}{A:Around}(r:cF k A):A.depth<recursionLimit:=by have:=r.dp;walk_at"o"
def Bz:TA:=fun _ H Q=>Q [] H
def yh(ta:TE)(tr:TA):TA:=fun σ H Q=>ta σ H fun x H1=>tr σ H1 fun xs H2=>Q (x :: xs) H2
section
variable {X:Cx}{e:Expr}{es:List Expr}{te:TE}{t:TA}{pos:Pos}
theorem Bn:PA X [] Bz:=fun _ _ _ _ H Q I h=>Calls.spliced_nil ⟨[],H,I,.nil,h⟩
theorem AK(ha:PE X e te)(hr:PA X es t)(hs:starEach (e :: es) X.env=(false,eval e X.env) :: starEach es X.env:=by rfl):PA X (e :: es) (yh te t):=by
 intro pos pins s σ H Q I h
 rw[hs]
 show wpAny _ _ (spliced ((false,eval e X.env) :: backTo pos (starEach es X.env))) _ _ s
 refine Calls.spliced_cons (cn (ha pins s σ H _ I h) fun u s1 ⟨x,H1,I1,r1,q1⟩=>?_)
 exact cn (hr pos pins s1 σ H1 _ I1 q1) fun us s2 ⟨xs,H2,I2,r2,q2⟩=>⟨x :: xs,H2,I2,.cons r1 r2,q2⟩
end
abbrev Sp:=List V->Hp->VK->XK->Prop
abbrev rD:=List Env->Hp->Shared->XK->Value->Shared->Prop
structure mx (P:Program)(w:World)(K:W.Frag)(mg:Str->Option Value)(base:Heap)(A:Around)(outer:List Env)(s:Shared)(H:Hp):Prop where
 frames:A.frames=some outer
 mod:Mod K mg base
 bs:∀ b o,base.get? b=some o->s.heap.get? b=some o/\H b=none
 bsz:base.objs.size<=s.heap.objs.size
 funs:s.heap.FunFrames base outer
 frf:∀ b ∈ gg outer,H b=none
 hok:iJ P w H s.heap
 bare:AllBare s.gens
def CE(outer:List Env)(P:Program)(w:World)(H:Hp)(s:Shared)(Q:VK)(u:Value)(s':Shared):Prop :=
 ∃ v H',s'.os=s.os/\AllBare s'.gens/\Un (gg outer) [] H H' s.heap s'.heap/\iJ P w H' s'.heap/\aS v u/\Q v H'
def CR(CX:rD)(outer:List Env)(P:Program)(w:World)(H:Hp)(s:Shared)(Q:VK)(E:XK)(r:Result)(s':Shared):Prop :=
 match r with
 | .ok (.ret u)=>CE outer P w H s Q u s'
 | .ok _=>False
 | .error e=>CX outer H s E e s'
structure bB (P:Program)(w:World)(K:W.Frag)(mg:Str->Option Value)(base:Heap)(CX:rD)(k:Nat)(f:Addr)(fd:FuncData)(ps:List Str)(sp:Sp):Prop where
 len:∀ vs H Q E,sp vs H Q E->vs.length=ps.length
 run:∀ (A:Around)(outer:List Env)(s:Shared)(H:Hp)(args:Args)(us:List Value)(vs:List V)(Q:VK)(E:XK),cF k A->mx P w K mg base A outer s H->BindsTo s fd args (ps.zip us)->aL vs us->sp vs H Q E ->
  codeAny (model P w) A (.call (.ref f) args) (CR CX outer P w H s Q E) s
section
variable {X:Cx}{pins:List (Addr × Obj)}{σ:St}{H:Hp}{s s':Shared}
theorem aw.env0(I:aw X pins σ H s):mx X.prog X.w X.K X.mg X.base X.A X.stack s H :=
 ⟨I.ok.frames,I.ok.mod,I.bs,Nat.le_trans I.ok.bsz I.sz,I.stack,I.stkFree,I.hok,I.bare⟩
theorem aw.after{Q:VK}{u:Value}(I:aw X pins σ H s)(h:CE X.stack X.prog X.w H s Q u s'):EP X pins σ Q u s':=by
 obtain⟨v,H',os,bare,un,hok,r,q⟩:=h
 obtain⟨hh,g,d,t,os'⟩:=s'
 obtain rfl:os'=s.os:=os
 exact⟨v,H',I.call (h':=hh) (g':=g) (d':=d) (t':=t) (ch:=[]) un hok bare (fun b z=>absurd z (by simp)),r,q⟩
end
def DN(sp:Sp)(dvs:List V)(E:XK)(t:TA):TE:=fun σ H Q=>t σ H fun vs H1=>sp (vs ++ dvs) H1 Q E
def jl(K:W.Frag)(fd:FuncData)(ps:List Str)(ds:List Value):Prop :=
 ∀ (s:Shared)(us:List Value),K.In s.heap->(us ++ ds).length=ps.length->BindsTo s fd ⟨us,[]⟩ (ps.zip (us ++ ds))
theorem jl.all{K:W.Frag}{fd:FuncData}{ps:List Str}(h:∀ us:List Value,us.length=ps.length->bindArgs fd ⟨us,[]⟩=pure (ps.zip us)):jl K fd ps []:=fun s us _ hl=>by
 rw[List.append_nil] at hl ⊢
 exact .of_eq (h us hl)
def sA(CX:rD)(X:Cx)(E:XK):Prop:=∀(pins:List (Addr × Obj))(σ:St)(H:Hp)(s:Shared)(e:Value)(s':Shared),aw X pins σ H s->CX X.stack H s E e s'->X.xe e s'
section
variable {X:Cx}{CX:rD}{k:Nat}{f C:Addr}{fd:FuncData}{ps:List Str}{sp:Sp}{dvs:List V}{ds:List Value}{E:XK}{x m:Str}{p pos apos:Pos}{e o:Expr}{es:List Expr}{ta:TE}{t:TA}
theorem BS{pins:List (Addr × Obj)}{σ:St}{H:Hp}{s:Shared}{Q:VK}{us:List Value}{vs:List V}(F:bB X.prog X.w X.K X.mg X.base CX k f fd ps sp)(hr:cF k X.A)(hb:jl X.K fd ps ds)(hd:aL dvs ds)(hx:sA CX X E)
  (I:aw X pins σ H s)(r:aL vs us)(h:sp (vs ++ dvs) H Q E):wpAny (model X.prog X.w) X.A (call (.ref f) us) (EP X pins σ Q) X.xe s:=by
 have r2:aL (vs ++ dvs) (us ++ ds):=r.append hd
 have hl:(us ++ ds).length=ps.length:=by rw[<- r2.length];exact F.len _ _ _ _ h
 refine wpAny_call (codeAny_mono (F.run X.A X.stack s H ⟨us,[]⟩ (us ++ ds) (vs ++ dvs) Q E hr I.env0 (hb s us I.kIn hl) r2 h) fun r s' hq=>?_)
 cases r with
 | error e=>exact hx pins σ H s e s' I hq
 | ok fl =>
  cases fl with
  | ret u=>exact I.after hq
  | next=>exact False.elim hq
  | brk=>exact False.elim hq
  | cont=>exact False.elim hq
theorem An(F:bB X.prog X.w X.K X.mg X.base CX k f fd ps sp)(hr:cF k X.A)(hg:Gl X x)(hm:X.mg x=some (.ref f))(hk:PySem.W.keepIn X.K (.ref f)=true)(hb:jl X.K fd ps ds)(hd:aL dvs ds)(hx:sA CX X E)
  (ha:PA X (e :: es) t)(hdb:(x == ("__debug__" : Str))=false:=by decide) (he:starEach (e :: es) X.env=(false,eval e X.env) :: starEach es X.env:=by rfl)(hpl:(backTo pos (starEach es X.env)).any (·.1)=false:=by rfl) :
  PE X (.Call (.Name x p) (e :: es) [] pos) (DN sp dvs E t):=by
 intro pins s σ H Q I h
 refine wpAny_Call_Name_kw (iD I hg hm ?_ hdb)
 refine PySem.W.callWith_K (h₀:=X.base) I.ok.mod.kin hk (cn (ha pos pins s σ H _ I h) fun us s1 ⟨vs,H1,I1,r,q⟩=>⟨I1.kIn,?_⟩) he hpl
 exact BS F hr hb hd hx I1 r q
end
section
variable {X:Cx}{CX:rD}{k:Nat}{f C:Addr}{fd:FuncData}{ps ks:List Str}{sp:Sp}{E:XK}{x m:Str}{p pos apos kpos:Pos}{e o:Expr}{es:List Expr}{kws:List Keyword}{te ta:TE}{t tk:TA}{nm:Option Str}
variable {g:List Value->List Value->List Value}{gV:List V->List V->List V}
end
structure av (N P:List Str)(sc:Scope):Prop where
 kind:sc.kind = .function
 co:sc.isCoroutine=false
 gen:sc.isGenerator=false
 nd:N.Nodup
 pre:N.take P.length=P
 par:∀ x ∈ P,sc.names.lookup x=some .local\/sc.names.lookup x=some .cell
 nofree:∀ y ∈ sc.names,y.2 ≠ .free
theorem nE{kindOf:Str->Option NameKind}{x:Str}:∀ {binds:List (Str × Value)}{m:Str->Option Value},(∀ v,(x,v) ∉ binds)->bindL kindOf binds m x=m x
 | [],_,_=>rfl
 | (n,v) :: r,m,h=>by
  unfold bindL
  rw[nE fun w hw=>h w (List.mem_cons_of_mem _ hw)]
  split
  ·have:x ≠ n:=by rintro rfl;exact h v List.mem_cons_self
   simp[this]
  ·rfl
theorem nG{kindOf:Str->Option NameKind}{x:Str}:∀ {binds:List (Str × Value)}{m:Str->Option Value},(∀ v,(x,v) ∉ binds)->bindC kindOf binds m x=m x
 | [],_,_=>rfl
 | (n,v) :: r,m,h=>by
  unfold bindC
  rw[nG fun w hw=>h w (List.mem_cons_of_mem _ hw)]
  split
  ·rfl
  ·have:x ≠ n:=by rintro rfl;exact h v List.mem_cons_self
   simp[this]
theorem nD{kindOf:Str->Option NameKind}{x:Str}{v:Value}:∀ {P:List Str}{vs:List Value}{i:Nat}{m:Str->Option Value},P.Nodup->P[i]? = some x->vs[i]? = some v->kindOf x=some .local ->
  bindL kindOf (P.zip vs) m x=some v
 | [],_,_,_,_,h,_,_=>by simp at h
 | _ :: _,[],_,_,_,_,h,_=>by simp at h
 | p :: P,w :: vs,0,m,nd,h1,h2,hk=>by
  simp at h1 h2;subst h1;subst h2
  show bindL kindOf ((p,w) :: P.zip vs) m p=_
  unfold bindL
  rw[nE fun v hv=>(List.nodup_cons.mp nd).1 (List.of_mem_zip hv).1,if_pos hk]
  simp
 | p :: P,w :: vs,i+1,m,nd,h1,h2,hk=>by
  show bindL kindOf ((p,w) :: P.zip vs) m x=_
  unfold bindL
  exact nD (i:=i) (List.nodup_cons.mp nd).2 (by simpa using h1) (by simpa using h2) hk
theorem mO{kindOf:Str->Option NameKind}{x:Str}{v:Value}:∀ {P:List Str}{vs:List Value}{i:Nat}{m:Str->Option Value},P.Nodup->P[i]? = some x->vs[i]? = some v->kindOf x ≠ some .local ->
  bindC kindOf (P.zip vs) m x=some v
 | [],_,_,_,_,h,_,_=>by simp at h
 | _ :: _,[],_,_,_,_,h,_=>by simp at h
 | p :: P,w :: vs,0,m,nd,h1,h2,hk=>by
  simp at h1 h2;subst h1;subst h2
  show bindC kindOf ((p,w) :: P.zip vs) m p=_
  unfold bindC
  rw[nG fun v hv=>(List.nodup_cons.mp nd).1 (List.of_mem_zip hv).1,if_neg hk]
  simp
 | p :: P,w :: vs,i+1,m,nd,h1,h2,hk=>by
  show bindC kindOf ((p,w) :: P.zip vs) m x=_
  unfold bindC
  exact mO (i:=i) (List.nodup_cons.mp nd).2 (by simpa using h1) (by simpa using h2) hk
def start(N:List Str)(vs:List V):St:=vs.map some ++ List.replicate (N.length - vs.length) none
def eN(CX:rD)(P:Program)(w:World)(K:W.Frag)(mg:Str->Option Value)(base:Heap)(N:List Str)(qual:Str)(scope:Scope)(f:Addr)(cd:Value)(A:Around)(outer:List Env)(s:Shared)(H:Hp)(E:XK):Cx where
 prog:=P
 w:=w
 K:=K
 mg:=mg
 base:=base
 A:=A.deeper (envOfC qual scope s.heap.objs.size f cd)
 N:=N
 s₀:=s
 H₀:=H
 env:=envOfC qual scope s.heap.objs.size f cd
 outer:=outer
 stack:=envOfC qual scope s.heap.objs.size f cd :: outer
 ex:=[]
 calm:=true
 fn:=fun _=>true
 pn:=[]
 xe:=fun e s'=>wpAny (model P w) (A.deeper (envOfC qual scope s.heap.objs.size f cd)) (leaving (envOfC qual scope s.heap.objs.size f cd) e) (fun _ s''=>CX outer H s E e s'') (fun e' s''=>CX outer H s E e' s'') s'
theorem qD{sc:Scope}{n:Nat}{x:Str}(h:sc.names.lookup x=some .cell):∃ c,(cellsFrom n sc.names []).lookup x=some c:=by
 have q:=PySem.W.cellsFrom_some sc.names n [] (.inl h)
 exact Option.isSome_iff_exists.mp q
theorem nJ{CX:rD}{P:Program}{w:World}{K:W.Frag}{mg:Str->Option Value}{base:Heap}{N ps:List Str}{qual:Str}{scope:Scope}{f:Addr}{cd:Value}{A:Around}{outer:List Env}{s s1:Shared}{H:Hp}{E:XK}{us:List Value}{vs:List V}
  (S:av N ps scope)(hd:A.handled=none)(e0:mx P w K mg base A outer s H)(hl:vs.length=ps.length)(r:aL vs us)
  (x:InCallC s s.heap.objs.size (bindL (envOfC qual scope s.heap.objs.size f cd).kindOf (ps.zip us) fun _=>none) (cellsFrom (s.heap.objs.size+1) scope.names []) (bindC (envOfC qual scope s.heap.objs.size f cd).kindOf (ps.zip us) fun _=>none) s1) :
  aw (eN CX P w K mg base N qual scope f cd A outer s H E) [] (start N vs) H s1:=by
 have hpl:ps.length<=N.length:=by have:=congrArg List.length S.pre;rw[List.length_take] at this;walk_at"o"
 obtain⟨h1,tk,rfl,hk⟩:=x.done
 have noA:∀ b:Addr,b ∉ (eN CX P w K mg base N qual scope f cd A outer s H E).ex:=fun b z=>absurd (show b ∈ ([]:List Addr) from z) (by simp)
 refine⟨⟨e0.mod,S.kind,rfl,rfl,Nat.le_refl _,fun y z c h1 h2=>?_,fun y hy=>?_,fun y c _ h=>?_,fun _=>hd,Around.frames_deeper e0.frames,.inr ⟨rfl,rfl⟩,fun b z=>absurd z (noA b),e0.bs,e0.bsz,fun b _ _=>noA b,fun b z=>absurd z (noA b),e0.funs,e0.frf⟩,
  rfl,e0.bare,Un.kept hk,⟨_,x.toInCall.ns,fun i y v h1 h2 h3=>?_⟩,fun y c h=>⟨_,x.cell y c h⟩,e0.hok.fresh (Nat.le_refl _),fun y c h=>?_,fun p hp=>absurd (show p ∈ ([]:List (Addr × Obj)) from hp) (by simp),e0.hok.kept hk,?_⟩
 ·exact name_of_addr x.apart (PySem.mem_of_lookup h1) (PySem.mem_of_lookup h2)
 ·have hy:scope.names.lookup y=some .cell\/scope.names.lookup y=some .free:=hy
  rcases hy with hy|hy
  ·exact qD hy
  ·exact absurd rfl (S.nofree _ (PySem.mem_of_lookup hy))
 ·exact Nat.le_of_lt (x.above y c (PySem.mem_of_lookup h))
 ·have hi:i<vs.length:=by
   unfold start at h2
   by_cases hi:i<vs.length
   ·exact hi
   ·rw[List.getElem?_append_right (by simpa using hi)] at h2
    rw[List.getElem?_replicate] at h2
    split at h2 <;> cases h2
  have ha:vs[i]? = some v:=by
   unfold start at h2
   rw[List.getElem?_append_left (by simpa using hi),List.getElem?_map] at h2
   cases e:vs[i]? with
   | none=>rw[e] at h2;cases h2
   | some a=>rw[e] at h2;cases h2;rfl
  obtain⟨u,hu,rv⟩:=r.get ha
  have hp:ps[i]? = some y:=by
   rw[<- S.pre,List.getElem?_take_of_lt (by walk_at"o")];exact h1
  have ndP:ps.Nodup:=by rw[<- S.pre];exact S.nd.sublist (List.take_sublist _ _)
  refine⟨u,rv,?_⟩
  rcases S.par y (List.mem_of_getElem? hp) with k|k
  ·exact .inl ⟨k,nD ndP hp hu k⟩
  ·obtain⟨c,e⟩:=qD (n:=s.heap.objs.size+1) k
   refine .inr ⟨.inl k,c,e,?_⟩
   have q:=x.cell y c e
   rw[mO ndP hp hu (by show scope.names.lookup y ≠ _;rw[k];decide)] at q
   exact q
 ·exact e0.hok.fresh (Nat.le_of_lt (x.above y c (PySem.mem_of_lookup h)))
 ·unfold start
  show _=N.length
  rw[List.length_append,List.length_map,List.length_replicate]
  walk_at"o"
theorem wM{CX:rD}{P:Program}{w:World}{K:W.Frag}{mg:Str->Option Value}{base:Heap}{k:Nat}{f:Addr}{name qual:Str}{params:Arguments}{body:List Stmt}{scope:Scope}{dV kV doc pm cdv ct oc:Value}{an od:Option Addr}
  {osl:Array (Option Value)}{N ps:List Str}{sp:Sp}(lk:K.lookup f=some ⟨oc,od,.func (PySem.W.fnOf name qual params body scope dV kV doc pm an cdv ct),osl⟩)(hcd:PySem.W.codeIn K cdv qual=true)(S:av N ps scope)
  (len:∀ vs H Q E,sp vs H Q E->vs.length=ps.length)
  (hbody:∀ (A:Around)(outer:List Env)(s:Shared)(H:Hp)(vs:List V)(Q:VK)(E:XK),cF k (A.deeper (envOfC qual scope s.heap.objs.size f cdv))->sp vs H Q E ->
   ∃ t,oF (eN CX P w K mg base N qual scope f cdv A outer s H E) body t/\t { nx:=fun _ H'=>Q .non H',rt:=Q } (start N vs) H) :
  bB P w K mg base CX (k+1) f (PySem.W.fnOf name qual params body scope dV kV doc pm an cdv ct) ps sp:=by
 refine⟨len,fun A outer s H args us vs Q E hr e0 hb r hsp=>?_⟩
 have hl:=len _ _ _ _ hsp
 have KX:K.In s.heap:=e0.mod.kin.keeps fun b o e=>(e0.bs b o e).1
 have lim:s.heap.NoLimit:=e0.mod.nolimit.keeps fun b o e=>(e0.bs b o e).1
 have hkind:∀ y ∈ ps.zip us,scope.names.lookup y.1=some .local\/(scope.names.lookup y.1=some .cell/\((cellsFrom (s.heap.objs.size+1) scope.names []).lookup y.1).isSome=true):=fun ⟨n,v⟩ hy=>by
  rcases S.par n (List.of_mem_zip hy).1 with q|q
  ·exact .inl q
  ·exact .inr ⟨q,PySem.W.cellsFrom_some _ _ _ (.inl q)⟩
 refine codeAny_call_function hr.depth (KX _ _ lk) rfl S.co S.gen rfl (PySem.W.codeRec_of KX hcd) (hb _ _ _ _ ?_)
 refine wpAny_newFunctionEnv_cells S.kind hkind fun env he s1 x=>?_
 subst he
 refine⟨lim.keeps x.toInCall.keep,codeAny_func ?_⟩
 obtain⟨t,ht,hq⟩:=hbody A outer s H vs Q E (hr.deeper _) hsp
 have I:aw (eN CX P w K mg base N qual scope f cdv A outer s H E) [] (start N vs) H s1:=nJ S hr.hd e0 hl r x
 refine wpAny_mono (ht [] s1 (start N vs) H _ I hq) (fun fl s' hs=>?_) fun e s' hs=>hs
 have fin:∀ {σ':St}{H':Hp}{v:V}{u:Value},aw (eN CX P w K mg base N qual scope f cdv A outer s H E) [] σ' H' s'->aS v u->Q v H'->CE outer P w H s Q u s' :=
  fun {σ' H' v u} J rv q=>⟨v,H',J.os,J.bare,J.base,J.hok,rv,q⟩
 cases fl with
 | ret u =>
  obtain⟨v,σ',H',J,rv,q⟩:=hs
  exact fin J rv q
 | next =>
  obtain⟨σ',H',J,q⟩:=hs
  exact fin (v:=V.non) (u:=Value.none) J rfl q
 | brk =>
  obtain⟨_,_,_,q⟩:=hs
  exact False.elim q
 | cont =>
  obtain⟨_,_,_,q⟩:=hs
  exact False.elim q
end L2
namespace L2
open PySem PySem.Spec PyProof.Rows
section
variable {X:Cx}{x:Str}{p pos:Pos}{e:Expr}{es:List Expr}{t:TA}{id T:String}{r:List V->Hp->VK->Prop}
def yG(r:List V->Hp->VK->Prop)(t:TA):TE:=fun σ H Q=>t σ H fun vs H1=>r vs H1 Q
theorem yq(hc:dE X (.builtin id) r)(hg:Gl X x)(hm:X.mg x=none)(hv:bootBuiltins x=some (.builtin id))(ha:PA X (e :: es) t)(hn:x ≠ "__name__":=by decide) (hdb:(x == ("__debug__" : Str))=false:=by decide)
  (he:starEach (e :: es) X.env=(false,eval e X.env) :: starEach es X.env:=by rfl)(hpl:(backTo pos (starEach es X.env)).any (·.1)=false:=by rfl):PE X (.Call (.Name x p) (e :: es) [] pos) (yG r t):=by
 intro pins s σ H Q I h
 refine wpAny_Call_Name_kw (iZ I hg hm hv ?_ hn hdb)
 exact PyProof.Rows.callWith_builtin1 (cn (ha pos pins s σ H _ I h) fun us s1 ⟨vs,H1,I1,r1,q1⟩=>hc pins s1 σ H1 vs us Q I1 r1 q1) he hpl
theorem vy(hc:dE X (.type T) r)(hg:Gl X x)(hm:X.mg x=none)(hv:bootBuiltins x=some (.type T))(ha:PA X (e :: es) t)(hn:x ≠ "__name__":=by decide) (hdb:(x == ("__debug__" : Str))=false:=by decide)
  (he:starEach (e :: es) X.env=(false,eval e X.env) :: starEach es X.env:=by rfl)(hpl:(backTo pos (starEach es X.env)).any (·.1)=false:=by rfl):PE X (.Call (.Name x p) (e :: es) [] pos) (yG r t):=by
 intro pins s σ H Q I h
 refine wpAny_Call_Name_kw (iZ I hg hm hv ?_ hn hdb)
 exact PyProof.Rows.callWith_type1 (cn (ha pos pins s σ H _ I h) fun us s1 ⟨vs,H1,I1,r1,q1⟩=>hc pins s1 σ H1 vs us Q I1 r1 q1) he hpl
end
end L2
namespace HT
open PySem PyProof.Rows
section
open PySem.SeqAt
open PySem.AutoSeq1 (wpAny_loadPart')
open PySem.MeetsSeq PySem.MeetsSeq2 PySem.MeetsSeq3
end
section
variable {prog:Program}{w:World}{A:Around}{E:Value->Shared->Prop}{s:Shared}
def sIx(n d:Nat):Option Int->Nat
 | none=>d
 | some v=>if v<0 then (v+(n:Int)).toNat else min v.toNat n
theorem sQ(n d k:Nat):sIx n d (some (k:Int))=min k n:=by
 show (if (k:Int)<0 then ((k:Int)+(n:Int)).toNat else min (k:Int).toNat n)=min k n
 rw[if_neg (by walk_at"o"),Int.toNat_natCast]
end
end HT
namespace L2
open PySem PySem.Spec PyProof.Rows
abbrev TO:=St->Hp->(Option Int->Hp->Prop)->Prop
def PO(X:Cx)(e:Option Expr)(t:TO):Prop :=
 ∀ (pins:List (Addr × Obj))(s:Shared)(σ:St)(H:Hp)(Q:Option Int->Hp->Prop),aw X pins σ H s->t σ H Q ->
  wpAny (model X.prog X.w) X.A (evalPart e X.env) (fun u s'=>∃ o H',aw X pins σ H' s'/\IsPart u o/\Q o H') X.xe s
def nK:TO:=fun _ H Q=>Q none H
def tR(t:TE):TO:=fun σ H Q=>t σ H fun x H1=>∃ i,x = .int i/\Q (some i) H1
section
variable {X:Cx}{e:Expr}{te:TE}{lo hi:Option Expr}{tl th:TO}{pos p2:Pos}
theorem Ah:PO X none nK:=by
 intro pins s σ H Q I h
 rw[evalPart_none]
 exact wpAny_pure ⟨none,H,I,.none,h⟩
theorem zy(h:PE X e te):PO X (some e) (tR te):=by
 intro pins s σ H Q I hw
 rw[evalPart_some]
 refine cn (h pins s σ H _ I hw) fun u s1 ⟨x,H1,I1,r1,q1⟩=>?_
 obtain⟨i,rfl,q⟩:=q1
 obtain⟨t,rfl⟩:=r1
 exact⟨some i,H1,I1,.int i t,q⟩
def yC(X:Cx)(r:V->Option Int->Option Int->Hp->VK->Prop):Prop :=
 ∀ (pins:List (Addr × Obj))(s:Shared)(σ:St)(H:Hp)(x:V)(v vl vu:Value)(lo hi:Option Int)(sl:Addr)(Q:VK),aw X pins σ H s->aS x v->s.heap.IsSliceOf sl vl vu .none->IsPart vl lo->IsPart vu hi->r x lo hi H Q ->
  ∃ T id,typeLookup (.type T) "__getitem__" = pure (some (.builtin id))/\s.TypeIs v T/\wpAny (model X.prog X.w) X.A (getItem v (.ref sl)) (EP X pins σ Q) X.xe s
def Fy(r:V->Option Int->Option Int->Hp->VK->Prop)(te:TE)(tl th:TO):TE:=fun σ H Q=>te σ H fun x H1=>tl σ H1 fun l H2=>th σ H2 fun u H3=>r x l u H3 Q
theorem vP{r:V->Option Int->Option Int->Hp->VK->Prop}(hr:yC X r)(he:PE X e te)(hl:PO X lo tl)(hu:PO X hi th):PE X (.Subscript e (.Slice lo hi none p2) pos) (Fy r te tl th):=by
 intro pins s σ H Q I h
 refine Subscript_ (cn (he pins s σ H _ I h) fun v s1 ⟨x,H1,I1,r1,q1⟩=>?_)
 refine wpAny_Slice (cn (hl pins s1 σ H1 _ I1 q1) fun vl s2 ⟨l,H2,I2,pl,q2⟩=>cn (hu pins s2 σ H2 _ I2 q2) fun vu s3 ⟨u,H3,I3,pu,q3⟩=>?_)
 rw[evalPart_none]
 refine wpAny_pure ?_
 have I4:aw X pins σ H3 { s3 with heap:=s3.heap.push { cls:=.type "slice",data:=.fields #[vl,vu,.none] } }:=I3.kept (t':=s3.toks) fun b ob q=>Heap.get?_push_of_some _ q
 obtain⟨T,id,hT,ht,hg⟩:=hr pins { s3 with heap:=s3.heap.push { cls:=.type "slice",data:=.fields #[vl,vu,.none] } } σ H3 x v vl vu l u s3.heap.objs.size Q I4 r1 (Heap.IsSliceOf.new ..) pl pu q3
 show wpAny (model X.prog X.w) X.A (subscriptTail e (.Slice lo hi none p2) v (.ref s3.heap.objs.size)) (EP X pins σ Q) X.xe { s3 with heap:=s3.heap.push { cls:=.type "slice",data:=.fields #[vl,vu,.none] } }
 exact tail_any (ops:=[.ref s3.heap.objs.size,v]) ht hT hg (by with_unfolding_all rfl)
def kX(xs:List V)(lo hi:Option Int):List V:=(xs.drop (HT.sIx xs.length 0 lo)).take (HT.sIx xs.length xs.length hi - HT.sIx xs.length 0 lo)
theorem qH(xs:List V)(lo hi:Option Int):(kX xs lo hi).length<=xs.length:=by
 unfold kX
 rw[List.length_take,List.length_drop]
 walk_at"o"
end
end L2
namespace L2
open PySem PySem.Spec PyProof.Rows
def sH(n:Nat)(i:Int):Option Nat:=if 0<=i then (if i<n then some i.toNat else none) else if -(n:Int)<=i then some (i+n).toNat else none
def my{α:Type}(xs:List α)(i:Int):Option α:=(sH xs.length i).bind fun j=>xs[j]?
theorem sF{n:Nat}{i:Int}{j:Nat}(h:sH n i=some j):seqIndex? i n=some j/\j<n /\ -(n:Int)<=i/\i<n:=by
 unfold sH at h
 by_cases h0:0<=i
 ·rw[if_pos h0] at h
  by_cases h1:i<n
  ·rw[if_pos h1] at h
   have e:i.toNat=j:=Option.some.inj h
   exact⟨by rw[seqIndex_of h0 h1,e],by walk_at"o",by walk_at"o",h1⟩
  ·rw[if_neg h1] at h;cases h
 ·rw[if_neg h0] at h
  by_cases h1 : -(n:Int)<=i
  ·rw[if_pos h1] at h
   have e:(i+n).toNat=j:=Option.some.inj h
   exact⟨by rw[seqIndex_neg (by walk_at"o") h1,e],by walk_at"o",h1,by walk_at"o"⟩
  ·rw[if_neg h1] at h;cases h
theorem nY{α:Type}{xs:List α}{i:Int}{v:α}(h:my xs i=some v):∃ j,seqIndex? i xs.length=some j/\xs[j]? = some v/\j<xs.length /\ -(xs.length:Int)<=i/\i<xs.length:=by
 unfold my at h
 cases e:sH xs.length i with
 | none=>rw[e] at h;cases h
 | some j =>
  rw[e] at h
  obtain⟨h1,h2,h3,h4⟩:=sF e
  exact⟨j,h1,h,h2,h3,h4⟩
theorem cq{α:Type}{xs:List α}{j:Nat}{v:α}(h:xs[j]? = some v):my xs (j:Int)=some v:=by
 have hj:j<xs.length:=(List.getElem?_eq_some_iff.mp h).1
 have e:sH xs.length (j:Int)=some j:=by
  unfold sH
  rw[if_pos (by walk_at"o"),if_pos (by walk_at"o")];simp
 unfold my;rw[e];exact h
theorem wU{α:Type}(xs:List α)(v:α):my (xs ++ [v]) (-1)=some v:=by
 have hl:(xs ++ [v]).length=xs.length+1:=by simp
 have e:sH (xs ++ [v]).length (-1)=some xs.length:=by
  unfold sH
  rw[hl,if_neg (by decide),if_pos (by walk_at"o")]
  congr 1
  walk_at"o"
 unfold my
 rw[e]
 show (xs ++ [v])[xs.length]? = some v
 simp
def uc(b:Expr):Prop:=∀ o i,subscripted b false o i=operate [o,i] (getItem o i)
def qN(X:Cx)(r:R2):Prop :=
 ∀ (value slice:Expr)(pins:List (Addr × Obj))(s:Shared)(σ:St)(H:Hp)(x y:V)(v u:Value)(Q:VK),aw X pins σ H s->aS x v->aS y u->r x y H Q ->
  subscripted slice false v u=operate [v,u] (getItem v u)->wpAny (model X.prog X.w) X.A (subscriptTail value slice v u) (EP X pins σ Q) X.xe s
def EZ(X:Cx)(id:String)(r:V->List V->Hp->VK->Prop):Prop :=
 ∀ (pins:List (Addr × Obj))(s:Shared)(σ:St)(H:Hp)(x:V)(xs:List V)(v:Value)(us:List Value)(Q:VK),aw X pins σ H s->aS x v->aL xs us->r x xs H Q ->
  wpAny (model X.prog X.w) X.A (call (.builtin id) (v :: us)) (EP X pins σ Q) X.xe s
section
variable {X:Cx}{a b:Expr}{ta tb:TE}{pos:Pos}
theorem D8{r:R2}(hr:qN X r)(ha:PE X a ta)(hb:PE X b tb)(hs:uc b):PE X (.Subscript a b pos) (Ae r ta tb):=by
 intro pins s σ H Q I h
 exact Subscript_ (Bv ha hb I h fun v u s2 x y H2 I2 rx ry q=>hr a b pins s2 σ H2 x y v u Q I2 rx ry q (hs _ _))
def EM(K:W.Frag):R2:=fun x y H Q=>∃ p xs i v,x = .ref p/\y = .int i/\jS K H p xs/\my xs i=some v/\Q v H
def EF(K:W.Frag):R2:=fun x y H Q=>∃ p xs i v,x = .ref p/\y = .int i/\tq K H p xs/\my xs i=some v/\Q v H
theorem tO:qN X (EM X.K):=by
 intro value slice pins s σ H x y v u Q I rx ry h hs
 obtain⟨p,xs,i,z,rfl,rfl,hq,he,q⟩:=h
 cases rx
 obtain⟨t,rfl⟩:=ry
 obtain⟨its,r,pl,hz⟩:=I.list hq
 obtain⟨j,h1,h2,h3,h4,h5⟩:=nY he
 obtain⟨w,ew,rw'⟩:=r.get h2
 have hl:=r.length
 have hn:=jC
 have fin:EP X pins σ Q w s:=⟨z,H,I,rw',q⟩
 by_cases h0:0<=i
 ·have hj:i.toNat=j:=by
   rw[seqIndex_of h0 h5] at h1
   exact Option.some.inj h1
  exact item_listR pl.isList h0 (by walk_at"o") (by rw[hj];simpa using ew) fin hs
 ·have hj:(i+(its.toArray.size:Int)).toNat=j:=by
   rw[seqIndex_neg (by walk_at"o") h4] at h1
   rw[List.size_toArray,<- hl]
   exact Option.some.inj h1
  exact subscriptTail_builtinR (x:=w) pl.isList.typeIs slot_list_getitem.lookup
   (wpAny_getItem_list_neg (Q:=fun r s'=>r=w/\EP X pins σ Q r s') pl.isList (by walk_at"o") (by rw[List.size_toArray] <;> walk_at"o") (by walk_at"o") (by rw[hj];simpa using ew) ⟨rfl,fin⟩) hs
theorem BA:qN X (EF X.K):=by
 intro value slice pins s σ H x y v u Q I rx ry h hs
 obtain⟨p,xs,i,z,rfl,rfl,hq,he,q⟩:=h
 cases rx
 obtain⟨t,rfl⟩:=ry
 obtain⟨its,r,pl,hz⟩:=I.tuple hq
 obtain⟨j,h1,h2,h3,h4,h5⟩:=nY he
 obtain⟨w,ew,rw'⟩:=r.get h2
 have hl:=r.length
 have hn:=jC
 have fin:EP X pins σ Q w s:=⟨z,H,I,rw',q⟩
 exact subscriptTail_builtinR (x:=w) pl.typeIs slot_tuple_getitem.lookup
  (getItem_tuple (j:=j) (Q:=fun r s'=>r=w/\EP X pins σ Q r s') pl (by walk_at"o") (by walk_at"o") (by rw[List.size_toArray,<- hl];exact h1) (by simpa using ew) ⟨rfl,fin⟩) hs
theorem qT(its:List Value)(n j:Nat)(u:Value):Obj.mapSeq (·.setIfInBounds j u) { cls:=.type "list",data:=.seq its.toArray n } = { cls:=.type "list",data:=.seq (its.set j u).toArray n }:=by
 simp[Obj.mapSeq]
theorem aw.lst{pins:List (Addr × Obj)}{σ:St}{H:Hp}{s:Shared}{p:Addr}{xs:List V}(I:aw X pins σ H s)(h:H p=some (.lst xs)) :
  ∃ (its:List Value)(n:Nat),aL xs its/\s.heap.get? p=some { cls:=.type "list",data:=.seq its.toArray n } /\ xs.length<=sizeLine:=by
 obtain⟨z,its,n,r,e⟩:=I.hok p _ h
 exact⟨its,n,r,e,z⟩
theorem aw.lstUpd{pins:List (Addr × Obj)}{σ:St}{H:Hp}{s:Shared}{p:Addr}{xs ys:List V}{its its':List Value}{n n':Nat}{f:Obj->Obj}(I:aw X pins σ H s)(h:H p=some (.lst xs))
  (ho:s.heap.get? p=some { cls:=.type "list",data:=.seq its.toArray n }) (hf:f { cls:=.type "list",data:=.seq its.toArray n } = { cls:=.type "list",data:=.seq its'.toArray n' }) (r:aL ys its')(hz:ys.length<=sizeLine)(t:Nat) :
  aw X pins σ (upd H p (.lst ys)) { s with heap:=s.heap.update p f,toks:=t }:=by
 have e:(s.heap.update p f).get? p=some { cls:=.type "list",data:=.seq its'.toArray n' }:=by
  rw[Heap.get?_update_self f ho (by rw[hf] <;> rfl),hf]
 refine I.write (x:=p) (e:=p) (by rw[h];trivial) (.inl rfl) (fun b u hb q=>(Heap.get?_update_other _ _ (Ne.symm hb)).trans q) ⟨_,e⟩ ?_
 exact⟨hz,its',n',r,e⟩
def D2:V->V->V->Hp->(Hp->Prop)->Prop:=fun o i v H Q=>∃ p xs k j,o = .ref p/\i = .int k/\H p=some (.lst xs)/\sH xs.length k=some j/\Q (upd H p (.lst (xs.set j v)))
theorem wB:uT X D2:=by
 intro pins s σ H o i v ov iv u Q I ro ri rv h
 obtain⟨p,xs,k,j,rfl,rfl,hp,hj,q⟩:=h
 cases ro
 obtain⟨t,rfl⟩:=ri
 obtain⟨its,n,r,ho,hz⟩:=I.lst hp
 obtain⟨h1,h2,h3,h4⟩:=sF hj
 have hl:=r.length
 have hn:=jC
 have I':aw X pins σ (upd H p (.lst (xs.set j v))) { s with heap:=s.heap.update p (Obj.mapSeq (·.setIfInBounds j u)) } :=
  I.lstUpd hp ho (qT its n j u) (r.set rv j) (by rw[List.length_set];exact hz) s.toks
 by_cases h0:0<=k
 ·have hk:k.toNat=j:=by
   rw[seqIndex_of h0 h4] at h1
   exact Option.some.inj h1
  exact PySem.W.ki_setAt ho h0 (by walk_at"o") (by rw[List.size_toArray,<- hl];exact h4) (by rw[hk];exact⟨_,I',q⟩)
 ·have hk:(k+(its.toArray.size:Int)).toNat=j:=by
   rw[seqIndex_neg (by walk_at"o") h3] at h1
   rw[List.size_toArray,<- hl]
   exact Option.some.inj h1
  exact PySem.W.ki_setBack ho (by walk_at"o") (by rw[List.size_toArray,<- hl];exact h3) (by walk_at"o") (by rw[hk];exact⟨_,I',q⟩)
theorem oj(lo hi:Option Int)(n:Nat):(sliceBounds lo hi none n).1=((HT.sIx n 0 lo:Nat):Int)/\(sliceBounds lo hi none n).2.1=((HT.sIx n n hi:Nat):Int)/\(sliceBounds lo hi none n).2.2=1:=by
 refine⟨?_,?_,rfl⟩
 ·cases lo with
  | none=>simp[sliceBounds,HT.sIx]
  | some i =>
   simp only[sliceBounds,HT.sIx,Option.getD_none,show (1:Int) > 0 by decide,if_true]
   by_cases h:i<0
   ·simp only[h,if_true] <;> walk_at"o"
   ·simp only[h,if_false] <;> walk_at"o"
 ·cases hi with
  | none=>simp[sliceBounds,HT.sIx]
  | some i =>
   simp only[sliceBounds,HT.sIx,Option.getD_none,show (1:Int) > 0 by decide,if_true]
   by_cases h:i<0
   ·simp only[h,if_true] <;> walk_at"o"
   ·simp only[h,if_false] <;> walk_at"o"
theorem mq(its:List Value)(lo hi:Option Int):slicePick its.toArray lo hi none=((its.drop (HT.sIx its.length 0 lo)).take (HT.sIx its.length its.length hi - HT.sIx its.length 0 lo)).toArray:=by
 obtain⟨h1,h2,h3⟩:=oj lo hi its.toArray.size
 unfold slicePick
 rw[h1,h2,h3]
 simp only[sliceRange_one,pick_run,List.size_toArray] <;> rfl
def Fm(K:W.Frag):V->Option Int->Option Int->Hp->VK->Prop:=fun x lo hi H Q=>∃ a xs,x = .ref a/\jS K H a xs /\ ∀ p,H p=none->Q (.ref p) (upd H p (.lst (kX xs lo hi)))
theorem zl:yC X (Fm X.K):=by
 intro pins s σ H x v vl vu lo hi sl Q I rx hs pl pu h
 obtain⟨a,xs,rfl,hx,q⟩:=h
 cases rx
 obtain⟨its,r,ht,hz⟩:=I.list hx
 have hlen:=r.length
 refine⟨"list",_,slot_list_getitem.lookup,ht.isList.typeIs,?_⟩
 refine wpAny_getItem_list_slice ht.isList hs pl pu .none (by simp) ?_ (by rw[List.size_toArray] <;> walk_at"o")
 rw[mq,<- hlen]
 refine⟨.ref s.heap.objs.size,_,I.laid (t':=s.toks) (o:=.lst (kX xs lo hi)) (fun b ob q=>Heap.get?_push_of_some _ q) (Nat.le_refl _) ?_,rfl,q _ (I.hok.fresh (Nat.le_refl _))⟩
 exact⟨Nat.le_trans (qH xs lo hi) hz,_,0,(r.drop (HT.sIx xs.length 0 lo)).take (HT.sIx xs.length xs.length hi - HT.sIx xs.length 0 lo),Heap.get?_push_size _ rfl⟩
theorem gG:dE X (.builtin "len") (fun xs H Q=>∃ p ys,xs=[.ref p]/\(jS X.K H p ys\/tq X.K H p ys)/\Q (.int ys.length) H):=by
 intro pins s σ H xs us Q I r h
 obtain⟨p,ys,rfl,hq,q⟩:=h
 obtain⟨u,rfl,rx⟩:=xt r
 cases rx
 have hn:=jC
 rcases hq with hq|hq
 ·obtain⟨its,r',pl,hz⟩:=I.list hq
  have hlen:=r'.length
  exact Calls.call_len_list pl.isList (by simp only[List.size_toArray] <;> walk_at"o") ⟨.int ys.length,H,I.tok _,⟨s.toks+1,by rw[List.size_toArray,hlen]⟩,q⟩
 ·obtain⟨its,r',pl,hz⟩:=I.tuple hq
  have hlen:=r'.length
  exact len_tuple pl (by simp only[List.size_toArray] <;> walk_at"o") ⟨.int ys.length,H,I.tok _,⟨s.toks+1,by rw[List.size_toArray,hlen]⟩,q⟩
theorem oG:dE X (.type "list") (fun xs H Q=>∃ p ys,xs=[.ref p]/\(jS X.K H p ys\/tq X.K H p ys) /\ ∀ l,H l=none->Q (.ref l) (upd H l (.lst ys))):=by
 intro pins s σ H xs us Q I r h
 obtain⟨p,ys,rfl,hq,q⟩:=h
 obtain⟨u,rfl,rx⟩:=xt r
 cases rx
 have fin:∀ (its:List Value),aL ys its->ys.length<=sizeLine -> ∀ (h':Heap)(c':Nat),(∀ b o',s.heap.get? b=some o'->h'.get? b=some o') ->
   h'.get? s.heap.objs.size=some { cls:=.type "list",dict:=none,data:=.seq its.toArray c',slots:=#[] } -> EP X pins σ Q (.ref s.heap.objs.size) { s with heap:=h' }:=fun its r' hz h' c' kp e =>
  ⟨.ref s.heap.objs.size,_,I.laid (t':=s.toks) kp (Nat.le_refl _) (show bY X.prog X.w _ h' _ (.lst ys) from ⟨hz,its,c',r',e⟩),rfl,q _ (I.hok.fresh (Nat.le_refl _))⟩
 rcases hq with hq|hq
 ·obtain⟨its,r',pl,hz⟩:=I.list hq
  have hlen:=r'.length
  obtain⟨o,ho,hc,n,hd⟩:=pl.isList
  exact call_list_seq p (.inl rfl) ho hc hd (fun h' c' kp e=>fin its r' hz h' c' kp e) (by simp only[List.size_toArray] <;> walk_at"o")
 ·obtain⟨its,r',pl,hz⟩:=I.tuple hq
  have hlen:=r'.length
  obtain⟨o,ho,hc,n,hd⟩:=pl
  exact call_list_seq p (.inr rfl) ho hc hd (fun h' c' kp e=>fin its r' hz h' c' kp e) (by simp only[List.size_toArray] <;> walk_at"o")
def DI(K:W.Frag)(T:String)(x:V)(H:Hp):Prop:=match x with
 | .str _=>T = "str"
 | .int _=>T = "int"
 | .ref p=>(T = "list" /\ ∃ xs,jS K H p xs)\/(T = "tuple" /\ ∃ o,K.lookup p=some o/\o.cls = .type "tuple" /\ o.dict=none) \/
   (T = "dict" /\ ((∃ kvs,H p=some (.dK kvs)) \/ ∃ kvs,H p=some (.dT kvs)))\/(T = "set" /\ ∃ S n,H p=some (.set S n))
 | _=>False
theorem wq{pins:List (Addr × Obj)}{σ:St}{H:Hp}{s:Shared}{T:String}{x:V}{v:Value}(I:aw X pins σ H s)(r:aS x v)(ty:DI X.K T x H) :
  s.TypeIs v T /\ ∀ a,v = .ref a -> ∃ ob,s.heap.get? a=some ob/\ob.dict=none:=by
 cases x with
 | str z =>
  obtain⟨t,rfl⟩:=r
  cases (show T = "str" from ty)
  exact⟨typeIs_str s z t,fun _ e=>nomatch e⟩
 | int i =>
  obtain⟨t,rfl⟩:=r
  cases (show T = "int" from ty)
  exact⟨typeIs_int s i t,fun _ e=>nomatch e⟩
 | ref p =>
  cases r
  rcases ty with ⟨rfl,xs,hq⟩|⟨rfl,o,hk,hc,hd⟩|⟨rfl,hk⟩|⟨rfl,S,n,hk⟩
  ·obtain⟨its,_,pl,_⟩:=I.list hq
   refine⟨pl.isList.typeIs,fun a e=>?_⟩
   cases e
   obtain⟨o,n,e,c,hd,_⟩:=pl
   exact⟨o,e,hd⟩
  ·refine⟨⟨o,I.kIn p o hk,hc⟩,fun a e=>?_⟩
   cases e
   exact⟨o,I.kIn _ o hk,hd⟩
  ·have z:∃ o,s.heap.get? p=some o/\o.ExactDict:=by
    rcases hk with ⟨kvs,hk⟩|⟨kvs,hk⟩
    ·obtain⟨_,_,_,_,o,_,_,e,ex,_⟩:=I.hok p _ hk
     exact⟨o,e,ex⟩
    ·obtain⟨_,_,_,_,o,_,_,e,ex,_⟩:=I.hok p _ hk
     exact⟨o,e,ex⟩
   obtain⟨o,e,ex⟩:=z
   refine⟨⟨o,e,ex.1⟩,fun a e2=>?_⟩
   cases e2
   exact⟨o,e,ex.2.1⟩
  ·obtain⟨o,_,_,_,e,ex,_⟩:=I.hok p _ hk
   refine⟨⟨o,e,ex.1⟩,fun a e2=>?_⟩
   cases e2
   exact⟨o,e,ex.2.1⟩
 | _=>exact False.elim ty
def BD(K:W.Frag)(T:String)(r:V->List V->Hp->VK->Prop)(to:TE):TE:=fun σ H Q=>to σ H fun x H1=>DI K T x H1/\r x [] H1 Q
def Fw(K:W.Frag)(T:String)(r:V->List V->Hp->VK->Prop)(to:TE)(t:TA):TE:=fun σ H Q=>to σ H fun x H1=>DI K T x H1/\t σ H1 fun xs H2=>r x xs H2 Q
variable {o e:Expr}{es:List Expr}{to:TE}{t:TA}{name:Str}{apos cpos:Pos}{T id:String}{r:V->List V->Hp->VK->Prop}
theorem CA(pa:PlainAttrs T)(slot:Slot T name id)(hty:typeOf (.builtin id)=pure (.type "method_descriptor")) (hm:EZ X id r)(ho:PE X o to)
  (hbase:attributeBase o name X.env (eval o X.env)=eval o X.env:=by rfl)(hline:(apos.endLine == cpos.line)=true:=by rfl):PE X (.Call (.Attribute o name apos) [] [] cpos) (BD X.K T r to):=by
 intro pins s σ H Q I h
 refine wpAny_Call_method0_late hbase hline (cn (ho pins s σ H _ I h) fun v s1 ⟨x,H1,I1,r1,ty,q1⟩=>?_)
 obtain⟨h1,h2⟩:=wq I1 r1 ty
 exact⟨T,id,pa,slot,hty,h1,h2,Calls.callWith_builtin rfl (PySem.evalArgs_none (hm pins s1 σ H1 x [] v [] Q I1 r1 .nil q1))⟩
theorem EN(pa:PlainAttrs T)(slot:Slot T name id)(hty:typeOf (.builtin id)=pure (.type "method_descriptor")) (hm:EZ X id r)(ho:PE X o to)(ha:PA X (e :: es) t)
  (hbase:attributeBase o name X.env (eval o X.env)=eval o X.env:=by rfl)
  (hfew:((backTo cpos (starEach (e :: es) X.env)).all (fun x=>!x.1) && (backToKw cpos (keywordEach [] X.env)).all (fun x=>x.1.isSome)
   && decide ((e :: es).length+([]:List Keyword).length+(if ([]:List Keyword).isEmpty then 0 else 1)<30))=true:=by rfl)
  (hline:(apos.endLine == cpos.line)=true:=by rfl)(hs:starEach (e :: es) X.env=(false,eval e X.env) :: starEach es X.env:=by rfl)(hplain:(backTo cpos (starEach es X.env)).any (·.1)=false:=by rfl) :
  PE X (.Call (.Attribute o name apos) (e :: es) [] cpos) (Fw X.K T r to t):=by
 intro pins s σ H Q I h
 refine wpAny_Call_method_late hbase hfew hline rfl (cn (ho pins s σ H _ I h) fun v s1 ⟨x,H1,I1,r1,ty,q1⟩=>?_)
 obtain⟨h1,h2⟩:=wq I1 r1 ty
 refine⟨T,id,pa,slot,hty,h1,h2,?_⟩
 have hA:=ha cpos pins s1 σ H1 _ I1 q1
 rw[hs] at hA ⊢
 refine Calls.callWith_builtin (by show (false || (backTo cpos (starEach es X.env)).any (·.1))=false;rw[hplain] <;> rfl) (Calls.evalArgs_plain ?_)
 exact cn hA fun us s2 ⟨vs,H2,I2,r2,q2⟩=>hm pins s2 σ H2 x vs v us Q I2 r1 r2 q2
end
end L2
namespace L2
open PySem PySem.Spec PyProof.Rows
def Ed(X:Cx)(id:String)(r:V->List V->Hp->VK->Prop):Prop :=
 ∀ (pins:List (Addr × Obj))(s:Shared)(σ:St)(H:Hp)(x:V)(xs:List V)(v:Value)(us:List Value)(Q:VK),aw X pins σ H s->aS x v->aL xs us->r x xs H Q ->
  wpAny (model X.prog X.w) X.A (call (.builtin id) (v :: us)) (EP X pins σ Q) X.xe s
theorem aL.one:∀{x:V}{us:List Value},aL [x] us -> ∃ u,us=[u]/\aS x u
 | _,_,.cons r .nil=>⟨_,rfl,r⟩
theorem aL.zero:∀{us:List Value},aL [] us->us=[]
 | _,.nil=>rfl
theorem aL.dropLast{xs:List V}{us:List Value}(h:aL xs us):aL xs.dropLast us.dropLast:=by
 induction h with
 | nil=>exact .nil
 | cons r t ih =>
  cases t with
  | nil=>exact .nil
  | cons q t'=>exact .cons r ih
theorem aL.rep{xs:List V}{us:List Value}(h:aL xs us):∀ k:Nat,aL (List.replicate k xs).flatten (List.replicate k us).flatten
 | 0=>.nil
 | k+1=>by
  rw[List.replicate_succ,List.replicate_succ,List.flatten_cons,List.flatten_cons]
  exact aL.append h (aL.rep h k)
theorem qV{α:Type}(l:List α):l.eraseIdx (l.length - 1)=l.dropLast:=by
 induction l with
 | nil=>rfl
 | cons a r ih =>
  cases r with
  | nil=>rfl
  | cons b r =>
   have e:(a :: b :: r).length - 1=((b :: r).length - 1)+1:=by
    have h1:(a :: b :: r).length=r.length+2:=rfl
    have h2:(b :: r).length=r.length+1:=rfl
    walk_at"o"
   rw[e,List.eraseIdx_cons_succ,ih]
   all_goals rfl
theorem nj(its:List Value):∀ (k:Nat)(acc:List Value),
  List.foldl (fun x1 x2=>x1 ++ x2) acc.toArray (List.replicate k its.toArray)=(acc ++ (List.replicate k its).flatten).toArray
 | 0,acc=>by simp
 | k+1,acc=>by
  have e:acc.toArray ++ its.toArray=(acc ++ its).toArray:=by simp
  have e2:(acc ++ its) ++ (List.replicate k its).flatten=acc ++ (List.replicate (k+1) its).flatten:=by
   rw[List.replicate_succ,List.flatten_cons,List.append_assoc]
  rw[<- e2,<- nj its k (acc ++ its),<- e,List.replicate_succ,List.foldl_cons]
section
variable {X:Cx}{pins:List (Addr × Obj)}{σ:St}{H:Hp}{s:Shared}{l b:Addr}{xs ys zs:List V}
theorem aw.lset{its its':List Value}{n:Nat}{f:Array Value->Array Value}{t':Nat}(I:aw X pins σ H s)(hH:H l=some (.lst xs))
  (e:s.heap.get? l=some { cls:=.type "list",data:=.seq its.toArray n }) (hf:f its.toArray=its'.toArray)(hv:aL ys its')(hz:ys.length<=sizeLine) :
  aw X pins σ (upd H l (.lst ys)) { s with heap:=s.heap.update l (Obj.mapSeq f),toks:=t' }:=by
 have q:=PySem.IsL.update e f
 rw[hf] at q
 refine I.write (x:=l) (e:=l) (by rw[hH];exact trivial) (.inl rfl) (fun b' u hb hu=>(Heap.get?_update_other s.heap (Obj.mapSeq f) (Ne.symm hb)).trans hu) ⟨_,q⟩ ?_
 exact⟨hz,its',_,hv,q⟩
theorem aw.lnew{its:List Value}{t':Nat}(I:aw X pins σ H s)(hv:aL ys its)(hz:ys.length<=sizeLine) :
  aw X pins σ (upd H s.heap.objs.size (.lst ys)) { s with heap:=s.heap.push { cls:=.type "list",data:=.seq its.toArray },toks:=t' } :=
 I.laid (fun _ _ q=>Heap.get?_push_of_some _ q) (Nat.le_refl _) ⟨hz,its,0,hv,Heap.get?_push_size _ rfl⟩
theorem aw.fresh(I:aw X pins σ H s):H s.heap.objs.size=none:=I.hok.fresh (Nat.le_refl _)
theorem aw.lstM(I:aw X pins σ H s)(hH:H l=some (.lst xs)):xs.length<=sizeLine /\ ∃ (its:List Value)(n:Nat),aL xs its/\xs.length=its.length/\s.heap.get? l=some { cls:=.type "list",data:=.seq its.toArray n }:=by
 obtain⟨z,its,n,r,e⟩:=I.hok l _ hH
 exact⟨z,its,n,r,r.length,e⟩
theorem wK{n:Nat}(h:n<=sizeLine):Builtin.List.listTooLong n=false:=by
 unfold Builtin.List.listTooLong
 exact decide_eq_false (by walk_at"o")
end
section
variable {X:Cx}
def yT:V->List V->Hp->VK->Prop:=fun x vs H Q=>∃ l xs y,x = .ref l/\vs=[y]/\H l=some (.lst xs)/\xs.length<sizeLine/\Q .non (upd H l (.lst (xs ++ [y])))
theorem ny:Ed X "list.append" yT:=by
 intro pins s σ H x vs v us Q I rx rv h
 obtain⟨l,xs,y,rfl,rfl,hH,hz,q⟩:=h
 cases rx
 obtain⟨u,rfl,ru⟩:=rv.one
 obtain⟨z,its,n,r,hl,e⟩:=I.lstM hH
 refine call_meets F.slot_list_append ⟨_,e,rfl⟩ F.entry_list_append (F.args_list_append_2 _ _) (PySem.list_append l its.toArray n u (by rw[List.size_toArray];walk_at"o")) ⟨e,?_⟩
 refine⟨.non,_,I.lset (its':=its ++ [u]) hH e (by simp) (r.append (.cons ru .nil)) ?_,rfl,q⟩
 rw[List.length_append,List.length_singleton]
 walk_at"o"
def Fp:V->List V->Hp->VK->Prop:=fun x vs H Q=>∃ l xs y,x = .ref l/\vs=[]/\H l=some (.lst xs)/\xs[xs.length - 1]? = some y/\Q y (upd H l (.lst xs.dropLast))
theorem Ce:Ed X "list.pop" Fp:=by
 intro pins s σ H x vs v us Q I rx rv h
 obtain⟨l,xs,y,rfl,rfl,hH,hy,q⟩:=h
 cases rx
 have hus:=rv.zero
 subst hus
 obtain⟨z,its,n,r,hl,e⟩:=I.lstM hH
 obtain⟨u,hu,ru⟩:=r.get hy
 have hy':its.toArray[its.toArray.size - 1]? = some u:=by
  show its.toArray[its.length - 1]? = some u
  rw[<- Array.getElem?_toList,<- hl]
  exact hu
 refine call_meets F.slot_list_pop ⟨_,e,rfl⟩ F.entry_list_pop (F.args_list_pop_1 _) (MeetsSeq.list_pop_last l its.toArray n u hy' (by rw[List.size_toArray];walk_at"o")) ⟨e,?_⟩
 refine⟨y,_,I.lset (its':=its.dropLast) hH e ?_ r.dropLast ?_,ru,q⟩
 ·show its.toArray.eraseIdxIfInBounds (its.toArray.size - 1)=its.dropLast.toArray
  rw[List.size_toArray,List.eraseIdxIfInBounds_toArray,qV]
 ·rw[List.length_dropLast]
  walk_at"o"
def Fd:R2:=fun x y H Q=>∃ l b xs zs,x = .ref l/\y = .ref b/\H l=some (.lst xs)/\H b=some (.lst zs)/\xs.length+zs.length<=sizeLine /\ ∀ p,H p=none->Q (.ref p) (upd H p (.lst (xs ++ zs)))
theorem Dh:eD X (binaryOp .Add) Fd:=by
 intro pins s σ H x y v u Q I rx ry h
 obtain⟨l,b,xs,zs,rfl,rfl,hH,hB,hz,q⟩:=h
 cases rx
 cases ry
 obtain⟨z,its,n,r,hl,e⟩:=I.lstM hH
 obtain⟨z2,its2,n2,r2,hl2,e2⟩:=I.lstM hB
 refine PySem.P.add_list e e2 ?_ (by rw[List.size_toArray,List.size_toArray];walk_at"o")
 have ea:its.toArray ++ its2.toArray=(its ++ its2).toArray:=by simp
 rw[ea]
 exact⟨.ref _,_,I.lnew (t':=s.toks) (r.append r2) (by rw[List.length_append];walk_at"o"),rfl,q _ I.fresh⟩
def E8:R2:=fun x y H Q=>∃ l k xs,x = .ref l/\y = .int k/\H l=some (.lst xs) /\ -(2 ^ 63)<=k/\k<2 ^ 63/\xs.length*k.toNat<=sizeLine /\
 ∀ p,H p=none->Q (.ref p) (upd H p (.lst (List.replicate k.toNat xs).flatten))
theorem AD{α:Type}(xs:List α)(k:Nat):(List.replicate k xs).flatten.length=k*xs.length:=by
 induction k with
 | zero=>simp
 | succ k ih=>rw[List.replicate_succ,List.flatten_cons,List.length_append,ih,Nat.succ_mul,Nat.add_comm]
theorem CQ:eD X (binaryOp .Mult) E8:=by
 intro pins s σ H x y v u Q I rx ry h
 obtain⟨l,k,xs,rfl,rfl,hH,h1,h2,hz,q⟩:=h
 cases rx
 obtain⟨t,rfl⟩:=ry
 obtain⟨z,its,n,r,hl,e⟩:=I.lstM hH
 have hlen:its.toArray.size*k.toNat<=sizeLine:=by rw[List.size_toArray,<- hl];exact hz
 have hcap:¬ its.toArray.size*k.toNat > (2 ^ 63 - 1) / 8:=by
  have:(sizeLine:Nat)<=(2 ^ 63 - 1) / 8:=by decide
  walk_at"o"
 have hfit:¬ (!Builtin.List.listFitsIndex k)=true:=by
  rw[fitsIndex_both h1 h2]
  exact Bool.false_ne_true
 have hlong:¬ Builtin.List.listTooLong (its.toArray.size*k.toNat)=true:=by
  rw[wK hlen]
  exact Bool.false_ne_true
 have hnew:List.foldl (fun x1 x2=>x1 ++ x2) #[] (List.replicate (if its.toArray.isEmpty=true then 0 else k.toNat) its.toArray)=(List.replicate k.toNat its).flatten.toArray:=by
  have f0:∀ m:Nat,List.foldl (fun x1 x2=>x1 ++ x2) #[] (List.replicate m its.toArray)=(List.replicate m its).flatten.toArray:=fun m=>by
   have:=nj its m []
   rw[List.nil_append] at this
   exact this
  rw[f0]
  cases its with
  | nil=>simp
  | cons a r'=>rw[if_neg (by simp)]
 refine wpAny_binaryOp_repeat_ref (T:="list") (U:="int") (by decide) ⟨_,e,rfl⟩ (fun s'=>typeIs_int s' k t) noFill_list_mul F.fills_int_mul F.slot_int_rmul repeat_list F.slot_int_index.lookup
  (call_meets F.slot_int_rmul (typeIs_int s k t) F.entry_int_rmul (F.args_int_rmul_2 _ _) (int___rmul___int_list k t l its.toArray n)
   ⟨e,rfl,⟨_,e,rfl⟩,call_meets F.slot_list_mul ⟨_,e,rfl⟩ F.entry_list_mul (F.args_list_mul_2 _ _) (AutoListH.list___mul___list_int_3 l its.toArray n k t hfit hcap hlong) ⟨e,?_⟩⟩)
 rw[hnew]
 exact⟨.ref _,_,I.lnew (t':=s.toks) (r.rep k.toNat) (by rw[AD,Nat.mul_comm];exact hz),rfl,q _ I.fresh⟩
end
section
variable {prog:Program}{w:World}{A:Around}{E:Value->Shared->Prop}{s:Shared}
end
section
variable {X:Cx}
end
end L2
namespace Att
open PySem PySem.W PySem.Calls PyProof.Rows
theorem kc{P:Params}{h:Heap}:∀(ns:List Int)(vs:List Value),WellAll P h vs (ns.map WData.int)->IntsAre vs ns:=by
 intro ns
 induction ns with
 | nil =>
  intro vs w
  rw[List.map_nil] at w
  cases w
  exact .nil
 | cons n ns ih =>
  intro vs w
  rw[List.map_cons] at w
  cases w with
  | cons a b =>
   cases a
   exact .cons _ _ (ih _ b)
theorem uC{l:OpenLaw}{n:Nat}(hn:l.most=some n) {P:Params}{h:Heap}{args:List WData}{vals:List Value}
  (hpre:l.row.toRowW.claim.pre args=true)(hwl:WellAll P h vals args) :
  ∃ a vs ns,vals=[Value.ref a]/\args=[WData.list (ns.map WData.int)]/\h.get? a=some { cls:=.type "list",data:=.seq vs.toArray } /\ IntsAre vs ns/\ns.length<=n:=by
 have hsh:WShape.hasAll [] args [.list .int]=true:=(pre_splitW hpre).1
 have hc:l.pre.holds [] { args:=args } = true:=(pre_splitW hpre).2
 obtain⟨d,r,rfl,h1,h2⟩:=hasAllW_cons hsh
 obtain rfl:=hasAllW_nil h2
 obtain⟨xs,rfl,h3⟩:=hasW_list h1
 obtain⟨ns,rfl⟩:=items_int h3
 have hlen:ns.length<=n:=by
  unfold OpenLaw.pre at hc
  have h4:(WTm.not (.lt (.lit (.int (n:Int))) (.len (.arg 0)))).holds [] { args:=[.list (ns.map .int)] } = true:=by
   have h4:=(holds_andW hc).1
   rw[hn] at h4
   exact h4
  have h5:=condW_of h4 (w_not (w_lt w_lit (w_len_list (w_arg rfl))))
  rw[List.length_map] at h5
  refine Nat.le_of_not_lt fun q=>?_
  have q':(n:Int)<((ns.length:Nat):Int):=by walk_at"o"
  first
   | (rw[decide_eq_true q'] at h5;exact absurd h5 (by decide))
   | (simp at h5;walk_at"o")
 cases hwl with
 | cons w1 w2 =>
  cases w2
  cases w1 with
  | list ho hall=>exact⟨_,_,ns,rfl,rfl,ho,kc ns _ hall,hlen⟩
theorem uG(l:OpenLaw)(args:List WData):l.row.toRowW.claim.post args (.bool true) args=true :=
 postW_of (r:=l.row.toRowW) (X:=(true == true))
  (show WShape.has [] (.bool true) .bool=true by first|rfl|decide|simp[WShape.has,WShape.arms,WShape.armsAll])
  (show (WTm.eq .res (.lit (.bool true))).value [] { args:=args,res:=some (.bool true),after:=args } = some (.bool (true == true)) from w_eq_bool (w_res rfl) w_lit) rfl
theorem attach_call{l:OpenLaw}{n:Nat}{q:Program}{loose:List Str}{XP:(Str->Option Value)->Heap->Prop}{YP:World->Heap->Prop}{d:DefRec}
  (hn:l.most=some n)(hdf:d.params.defaults=[])
  (call:∀ (w:World)(s₀ s₁:Shared)(mg mb:Str->Option Value)(fa:Addr)(o:Obj)(pm cd doc:Value)(a:Addr)(vs:List Value)(ns:List Int),
   Ground q loose [] XP w s₀ mg mb s₁.heap->YP w s₁.heap ->
   s₁.heap.get? fa=some o->o.data = .func (docDef d.name d.params d.body d.scope pm cd doc)->s₁.heap.CodeRec cd d.name->mg d.name=some (.ref fa) ->
   s₁.heap.get? a=some { cls:=.type "list",data:=.seq vs.toArray } -> IntsAre vs ns->ns.length<=n->s₁.gens = #[] ->
   codeAny (model l.prog w) callerA (.call (.ref fa) ⟨[.ref a],[]⟩) (fun r s'=>r = .ok (.ret (.bool true))/\OldK s₁.heap s'.heap/\s'.os=s₁.os/\AllBare s'.gens) s₁) :
  WalkO q loose XP YP l.row.toRowW d [] (fun f vs=>PySem.call f vs):=by
 intro w s₀ s₁ mg mb G Y fa o pm cd doc dV kV ho hd hcd hD hmg hg args vals as hpre hlay hrd hwl hlo
 obtain rfl:dV = .none:=Dflts.none hD hdf
 obtain rfl:kV = .none:=Dflts.noKw hD
 obtain⟨a,vs,ns,rfl,rfl,hobj,hints,hlen⟩:=uC hn hpre hwl
 refine enter_call (codeAny_mono (call w s₀ s₁ mg mb fa o pm cd doc a vs ns G Y ho (fd_plain hd) hcd hmg hobj hints hlen hg) fun r s' hq=>?_)
 obtain⟨rfl,h2,h3,h4⟩:=hq
 exact⟨.inl ⟨.bool true,.bool true,[],rfl,fun _=>rfl,.bool true,uG l _,fun _=>⟨List.Pairwise.nil,fun _ hm=>(nomatch hm)⟩⟩,h2,h3,h4⟩
section
variable {prog:Program}{w:World}{A:Around}{E:Value->Shared->Prop}{s:Shared}{K:Frag}
end
end Att
namespace L2
open PySem PySem.Spec PyProof.Rows
theorem nw:∀{vs:List Value}{ns:List Int},IntsAre vs ns->aL (ns.map V.int) vs
 | _,_,.nil=>.nil
 | _,_,.cons n t h=>.cons ⟨t,rfl⟩ (nw h)
end L2
namespace L2
open PySem PySem.Spec PyProof.Rows
end L2
namespace L2
open PySem PySem.Spec PyProof.Rows
def ax(s:Stmt):Arguments:=match s with
 | .FunctionDef _ a _ _ _ _ _ _ _ _=>a
 | _=>{ posonlyargs:=[],args:=[],vararg:=none,kwonlyargs:=[],kw_defaults:=[],kwarg:=none,defaults:=[] }
def aq(s:Stmt):List Stmt:=match s with
 | .FunctionDef _ _ b _ _ _ _ _ _ _=>b
 | _=>[]
def ag(s:Stmt):Scope:=match s with
 | .FunctionDef _ _ _ _ _ _ sc _ _ _=>sc
 | _=>{ kind:=.function,names:=[],isGenerator:=false,isCoroutine:=false }
abbrev dZ:rD:=fun _ _ _ _ _ _=>False
abbrev E0:XK:=fun _ _ _=>False
theorem DR{X:Cx}:sA dZ X E0:=fun _ _ _ _ _ _ _ h=>h.elim
structure eE (K:W.Frag)(x qual:Str)(st:Stmt)(f:Addr)(fd:FuncData):Prop where
 ex:∃ (oc:Value)(od:Option Addr)(kV doc pm:Value)(an:Option Addr)(cdv ct:Value)(osl:Array (Option Value)),
  fd=PySem.W.fnOf x qual (ax st) (aq st) (ag st) .none kV doc pm an cdv ct/\K.lookup f=some ⟨oc,od,.func fd,osl⟩/\PySem.W.codeIn K cdv qual=true
 kp:PySem.W.keepIn K (.ref f)=true
section
variable {P:Program}{w:World}{K:W.Frag}{mg:Str->Option Value}{base:Heap}
theorem eE.ok{x qual:Str}{st:Stmt}{f:Addr}{fd:FuncData}{N ps:List Str}{k:Nat}{sp:Sp}(F:eE K x qual st f fd)(S:av N ps (ag st))(len:∀ vs H Q E,sp vs H Q E->vs.length=ps.length)
  (hbody:∀ (cdv:Value)(A:Around)(outer:List Env)(s:Shared)(H:Hp)(vs:List V)(Q:VK)(E:XK),cF k (A.deeper (envOfC qual (ag st) s.heap.objs.size f cdv))->sp vs H Q E ->
   ∃ t,oF (eN dZ P w K mg base N qual (ag st) f cdv A outer s H E).nox (aq st) t/\t { nx:=fun _ H'=>Q .non H',rt:=Q } (start N vs) H):bB P w K mg base dZ (k+1) f fd ps sp:=by
 obtain⟨oc,od,kV,doc,pm,an,cdv,ct,osl,rfl,lk,hcd⟩:=F.ex
 refine wM lk hcd S len fun A outer s H vs Q E hr hsp=>?_
 obtain⟨t,h,q⟩:=hbody cdv A outer s H vs Q E hr hsp
 exact⟨t,h.nox,q⟩
theorem eE.binds{x qual:Str}{st:Stmt}{f:Addr}{fd:FuncData}{ps:List Str}(F:eE K x qual st f fd)
  (h:∀ (kV doc pm:Value)(an:Option Addr)(cdv ct:Value)(us:List Value),us.length=ps.length->bindArgs (PySem.W.fnOf x qual (ax st) (aq st) (ag st) .none kV doc pm an cdv ct) ⟨us,[]⟩=pure (ps.zip us)):jl K fd ps []:=by
 obtain⟨oc,od,kV,doc,pm,an,cdv,ct,osl,rfl,lk,hcd⟩:=F.ex
 exact .all (h kV doc pm an cdv ct)
theorem aH{x qual:Str}{st:Stmt}{f:Addr}{oc:Value}{od an:Option Addr}{osl:Array (Option Value)}{kV doc pm cdv ct:Value}(l:K.lookup f=some ⟨oc,od,.func (PySem.W.fnOf x qual (ax st) (aq st) (ag st) .none kV doc pm an cdv ct),osl⟩)
  (c:PySem.W.codeIn K cdv qual=true)(k:PySem.W.keepIn K (.ref f)=true):eE K x qual st f (PySem.W.fnOf x qual (ax st) (aq st) (ag st) .none kV doc pm an cdv ct):=⟨⟨oc,od,kV,doc,pm,an,cdv,ct,osl,rfl,l,c⟩,k⟩
end
section
variable {X:Cx}
theorem pv(i:Nat){x:Str}{pos:Pos}(hN:X.N[i]? = some x:=by rfl)(hv:Dg X.env.scope x:=by first|exact Or.inl rfl|exact Or.inr (Or.inl rfl)|exact Or.inr (Or.inr rfl))(hd:(x == ("__debug__" : Str))=false:=by decide)
  (hcd:(x == ("__classdict__" : Str))=false:=by decide):PE X (.Name x pos) (zQ i):=xP hN hv hd hcd
end
theorem cO{c A B:Prop} [Decidable c] (h1:c->A)(h2:¬ c->B):if c then A else B:=by
 by_cases h:c
 ·rw[if_pos h]
  exact h1 h
 ·rw[if_neg h]
  exact h2 h
def ar(H H':Hp):Prop:=∀ b o,H b=some o->H' b=some o
theorem ar.refl(H:Hp):ar H H:=fun _ _ h=>h
theorem ar.trans{H H1 H2:Hp}(a:ar H H1)(b:ar H1 H2):ar H H2:=fun c o h=>b c o (a c o h)
theorem ar.free{H H':Hp}(e:ar H H') {l:Addr}(h:H' l=Option.none):H l=Option.none:=by
 cases q:H l with
 | none=>rfl
 | some o =>
  rw[e l o q] at h
  cases h
end L2
namespace L2
open PySem PySem.Spec PyProof.Rows
structure bU (P:Program)(w:World)(K:W.Frag)(mg:Str->Option Value)(base:Heap)(x:Str)(ps:List Str)(k:Nat)(sp:Sp):Prop where
 ex:∃ f fd,bB P w K mg base dZ k f fd ps sp/\mg x=some (.ref f)/\PySem.W.keepIn K (.ref f)=true/\jl K fd ps []
section
variable {X:Cx}{x:Str}{p pos:Pos}{e:Expr}{es:List Expr}{t:TA}{ps:List Str}{k:Nat}{sp:Sp}
def Df(sp:Sp)(t:TA):TE:=fun σ H Q=>t σ H fun vs H1=>sp vs H1 Q E0
theorem Du(C:bU X.prog X.w X.K X.mg X.base x ps k sp)(hr:cF k X.A)(hg:Gl X x)(ha:PA X (e :: es) t)(hdb:(x == ("__debug__" : Str))=false:=by decide)
  (he:starEach (e :: es) X.env=(false,eval e X.env) :: starEach es X.env:=by rfl)(hpl:(backTo pos (starEach es X.env)).any (·.1)=false:=by rfl) :
  PE X (.Call (.Name x p) (e :: es) [] pos) (Df sp t):=by
 obtain⟨f,fd,F,hm,hk,hb⟩:=C.ex
 intro pins s σ H Q I h
 refine An (E:=E0) (dvs:=[]) F hr hg hm hk hb .nil DR ha hdb he hpl pins s σ H Q I ?_
 show t σ H fun vs H1=>sp (vs ++ []) H1 Q E0
 have e:(fun (vs:List V) H1=>sp (vs ++ []) H1 Q E0)=fun vs H1=>sp vs H1 Q E0:=by
  funext vs H1
  rw[List.append_nil]
 rw[e]
 exact h
end
section
variable {X:Cx}
theorem yH:eD X (binaryOp .Mult) (rI IntMulOk fun i j=>.int (i*j)):=DT fun _ _ _ _ _ _ _ hc q=>mul_int q hc
def AS(_ j:Int):Prop:=j ≠ 0/\j.natAbs.log2<9000
theorem pC:eD X (binaryOp .FloorDiv) (rI AS fun i j=>.int (i.fdiv j)):=DT fun _ _ _ _ _ _ _ hc q=>floordiv_int hc.1 q (.inl (PyProof.noPylong_of_log2 hc.2))
theorem fk:eD X (binaryOp .Mod) (rI (fun _ j=>j ≠ 0) fun i j=>.int (i.fmod j)):=zK
end
theorem ww{CX:rD}{P:Program}{w:World}{K:W.Frag}{mg:Str->Option Value}{base:Heap}{N:List Str}{qual:Str}{scope:Scope}{f:Addr}{cd:Value}{A:Around}{outer:List Env}{s:Shared}{H:Hp}{E:XK} :
  (eN CX P w K mg base N qual scope f cd A outer s H E).K=K:=rfl
def vm:List Value->Option (List V)
 | []=>some []
 | u :: us=>match DL u,vm us with
  | some x,some xs=>some (x :: xs)
  | _,_=>none
theorem mW:∀{us:List Value}{xs:List V},vm us=some xs->aL xs us
 | [],xs,h=>by cases h;exact .nil
 | u :: us,xs,h=>by
  unfold vm at h
  split at h
  ·rename_i x ys e1 e2
   cases h
   refine .cons ?_ (mW e2)
   cases u <;> first|(cases e1;first|exact rfl|exact⟨_,rfl⟩)|cases e1
  ·cases h
def zS(o:Obj):Option HO:=match o.data with
 | .seq its _=>if o.cls = .type "tuple" /\ its.size<=sizeLine then (vm its.toList).map HO.tup else none
 | _=>none
def vw(K:W.Frag)(H:Hp):Hp:=fun a=>match K.lookup a with
 | some o=>zS o
 | none=>H a
theorem xf{o:Obj}{u:HO}(h:zS o=some u):∃ xs,u = .tup xs:=by
 unfold zS at h
 split at h
 ·split at h
  ·cases e:vm _ with
   | none=>rw[e] at h;cases h
   | some xs=>rw[e] at h;cases h;exact⟨xs,rfl⟩
  ·cases h
 ·cases h
theorem cK{K:W.Frag}{H:Hp}{a:Addr}(hk:K.lookup a=none):vw K H a=H a:=by
 unfold vw
 rw[hk]
theorem lj{K:W.Frag}{H:Hp}{a:Addr}{xs:List V}(h:vw K H a=some (.tup xs)):tq K H a xs:=by
 unfold vw at h
 split at h
 ·rename_i o ho
  unfold zS at h
  split at h
  ·rename_i its n hd
   split at h
   ·rename_i hc
    cases e:vm its.toList with
    | none=>rw[e] at h;cases h
    | some ys =>
     rw[e] at h
     cases h
     exact .inr ⟨o,its,n,ho,hc.1,hd,hc.2,mW e⟩
   ·cases h
  ·cases h
 ·exact .of h
theorem gC{K:W.Frag}{H:Hp}{a:Addr}{u:HO}(h:vw K H a=some u)(hu:∀ xs,u ≠ .tup xs):H a=some u:=by
 unfold vw at h
 split at h
 ·obtain⟨xs,rfl⟩:=xf h
  exact absurd rfl (hu xs)
 ·exact h
theorem aC{K:W.Frag}{H:Hp}{a:Addr}{xs:List V}(h:vw K H a=some (.lst xs)):H a=some (.lst xs):=gC h fun _ e=>by cases e
theorem ki{K:W.Frag}{H H':Hp}(S:ar H H'):ar (vw K H) (vw K H'):=fun b o e=>by
 unfold vw at e ⊢
 split at e
 ·exact e
 ·exact S _ _ e
def dS(l:Addr)(H H':Hp):Prop:=∀ b o,b ≠ l->H b=some o->H' b=some o
theorem oy{K:W.Frag}{l:Addr}{H H':Hp}(S:dS l H H'):dS l (vw K H) (vw K H'):=fun b o hb e=>by
 unfold vw at e ⊢
 split at e
 ·exact e
 ·exact S _ _ hb e
theorem aw.noK{X:Cx}{pins:List (Addr × Obj)}{σ:St}{H:Hp}{s:Shared}{p:Addr}{o:HO}(I:aw X pins σ H s)(h:H p=some o):X.K.lookup p=none:=by
 cases e:X.K.lookup p with
 | none=>rfl
 | some ob =>
  have:=(I.bs p ob (I.mod.kin p ob e)).2
  rw[h] at this
  cases this
theorem aw.newK{X:Cx}{pins:List (Addr × Obj)}{σ:St}{H:Hp}{s:Shared}{p:Addr}(I:aw X pins σ H s)(hp:s.heap.objs.size<=p):X.K.lookup p=none:=by
 cases e:X.K.lookup p with
 | none=>rfl
 | some o=>exact absurd (Nat.lt_of_lt_of_le (Heap.lt_size (I.kIn p o e)) hp) (Nat.lt_irrefl _)
def Kf(K:W.Frag)(v:V)(H:Hp):Prop:=∀ p o,v = .ref p->H p=some o->K.lookup p=none
section
variable {X:Cx}
theorem eD.kf{f:Value->Value->Sem Value}{r:R2}(h:eD X f r):eD X f (fun x y H Q=>r x y H fun v H'=>Kf X.K v H'->Q v H'):=fun pins s σ H x y v u Q I rx ry q =>
 cn (h pins s σ H x y v u _ I rx ry q) fun u' s' ⟨v',H',I',r',q'⟩=>⟨v',H',I',r',q' fun p o _ hp=>I'.noK hp⟩
theorem dE.kf{f:Value}{r:List V->Hp->VK->Prop}(h:dE X f r):dE X f (fun xs H Q=>r xs H fun v H'=>Kf X.K v H'->Q v H'):=fun pins s σ H xs us Q I rs q =>
 cn (h pins s σ H xs us _ I rs q) fun u' s' ⟨v',H',I',r',q'⟩=>⟨v',H',I',r',q' fun p o _ hp=>I'.noK hp⟩
theorem yC.kf{r:V->Option Int->Option Int->Hp->VK->Prop}(h:yC X r):yC X (fun x a b H Q=>r x a b H fun v H'=>Kf X.K v H'->Q v H'):=by
 intro pins s σ H x v vl vu lo hi sl Q I rx hs pl pu q
 obtain⟨T,id,e1,e2,e3⟩:=h pins s σ H x v vl vu lo hi sl _ I rx hs pl pu q
 exact⟨T,id,e1,e2,cn e3 fun u' s' ⟨v',H',I',r',q'⟩=>⟨v',H',I',r',q' fun p o _ hp=>I'.noK hp⟩⟩
end
theorem ar.upd{H:Hp}{p:Addr}{o:HO}(hp:H p=none):ar H (upd H p o):=fun b u e=>by
 rw[aG (ai e hp)]
 exact e
theorem dS.upd{H:Hp}{l:Addr}{o:HO}:dS l H (upd H l o):=fun b u hb e=>by
 rw[aG hb]
 exact e
theorem ar.but{H H':Hp}(h:ar H H')(l:Addr):dS l H H':=fun b o _ e=>h b o e
theorem dS.trans{l:Addr}{H H1 H2:Hp}(a:dS l H H1)(b:dS l H1 H2):dS l H H2:=fun c o hc h=>b c o hc (a c o hc h)
theorem aw.big{X:Cx}{pins:List (Addr × Obj)}{σ:St}{H:Hp}{s:Shared}(I:aw X pins σ H s):sysModules<s.heap.objs.size:=by
 have h:mainGlobals<s.heap.objs.size:=(I.mod.glob.keeps I.bk).lt
 exact Nat.lt_trans (by decide) h
theorem xA{P:Program}{w:World}{H:Hp}(h:Heap)(hb:sysModules<h.objs.size):bY P w H (h.push { cls:=.type "dict",data:=.dict #[] }) h.objs.size (.dK []) :=
 ⟨Nat.zero_le _,beq_eq_false_iff_ne.mpr (Ne.symm (Nat.ne_of_lt hb)),[],.nil,Heap.DictOf.new h⟩
def FD(H:Hp):V->Option String
 | .non=>some "NoneType"
 | .bl _=>some "bool"
 | .int _=>some "int"
 | .str _=>some "str"
 | .ref a=>match H a with
  | some (.lst _)=>some "list"
  | some (.frz _ (.lst _))=>some "list"
  | some (.tup _)=>some "tuple"
  | some (.dK _)=>some "dict"
  | _=>none
 | _=>none
def t7(n c:String):Bool:=n == c || (n == "bool" && c == "int")
def CL(n:String):Prop:=n = "NoneType" \/ n = "bool" \/ n = "int" \/ n = "str" \/ n = "list" \/ n = "tuple" \/ n = "dict"
def mZ(c:String):Prop:=c = "bool" \/ c = "int" \/ c = "list" \/ c = "tuple" \/ c = "str" \/ c = "dict"
theorem dD{K:W.Frag}{n c:String}(hn:CL n)(hc:mZ c):PySem.W.kitOne K (.type n) (.type c)=some (t7 n c):=by
 rcases hn with rfl|rfl|rfl|rfl|rfl|rfl|rfl <;> rcases hc with rfl|rfl|rfl|rfl|rfl|rfl <;> rfl
section
variable {X:Cx}
theorem pN:dE X (.builtin "isinstance") (fun xs H Q=>∃ x c n,xs=[x,.ty c]/\mZ c/\FD (vw X.K H) x=some n/\Q (.bl (t7 n c)) H):=by
 intro pins s σ H xs us Q I r h
 obtain⟨x,c,n,rfl,hc,hn,q⟩:=h
 obtain⟨u,w',rfl,rx,ry⟩:=ut r
 cases ry
 have fin:∀ tk,EP X pins σ Q (.bool (t7 n c)) { s with toks:=tk }:=fun tk=>⟨.bl _,H,I.tok tk,rfl,q⟩
 cases x with
 | non=>cases hn;exact ez I rx .non (dD (.inl rfl) hc) fin
 | bl b=>cases hn;exact ez I rx (.bl b) (dD (.inr (.inl rfl)) hc) fin
 | int b=>cases hn;exact ez I rx (.int b) (dD (.inr (.inr (.inl rfl))) hc) fin
 | str b=>cases hn;exact ez I rx (.str b) (dD (.inr (.inr (.inr (.inl rfl)))) hc) fin
 | flt b=>cases hn
 | byt b=>cases hn
 | ty b=>cases hn
 | ref a =>
  unfold FD at hn
  dsimp only at hn
  split at hn
  ·rename_i e;cases hn;exact ez I rx (.lst (aC e)) (dD (.inr (.inr (.inr (.inr (.inl rfl))))) hc) fin
  ·rename_i e;cases hn;exact ez I rx (.frz (gC e fun _ z=>by cases z)) (dD (.inr (.inr (.inr (.inr (.inl rfl))))) hc) fin
  ·rename_i ys e
   cases hn
   cases (show u=Value.ref a from rx)
   obtain⟨its,rv,p,hz⟩:=I.tuple (lj e)
   obtain⟨o,h1,h2,_⟩:=p
   exact PySem.W.kia_one PySem.W.kitx_tuple I.kIn ⟨o,h1,h2⟩ (dD (.inr (.inr (.inr (.inr (.inr (.inl rfl)))))) hc) (fun z=>nomatch z) fin
  ·rename_i e;cases hn;exact ez I rx (.dK (gC e fun _ z=>by cases z)) (dD (.inr (.inr (.inr (.inr (.inr (.inr rfl)))))) hc) fin
  ·cases hn
end
theorem Ai:mZ "int":=.inr (.inl rfl)
theorem we:mZ "bool":=.inl rfl
theorem xh:mZ "list":=.inr (.inr (.inl rfl))
theorem u6:mZ "tuple":=.inr (.inr (.inr (.inl rfl)))
theorem oQ:bootBuiltins "abs" = some (.builtin "abs"):=by decide +kernel
theorem ck:bootBuiltins "len" = some (.builtin "len"):=by decide +kernel
theorem aR:bootBuiltins "isinstance" = some (.builtin "isinstance"):=by decide +kernel
theorem vU:bootBuiltins "max" = some (.builtin "max"):=by decide +kernel
theorem xj:bootBuiltins "min" = some (.builtin "min"):=by decide +kernel
theorem yM:bootBuiltins "bool" = some (.type "bool"):=by decide +kernel
theorem ur:bootBuiltins "list" = some (.type "list"):=by decide +kernel
theorem qg:bootBuiltins "reversed" = some (.type "reversed"):=by decide +kernel
section
variable {X:Cx}
theorem qN.imp{r r':R2}(h:qN X r)(hi:∀ x y H Q,r' x y H Q->r x y H Q):qN X r':=fun v sl pins s σ H x y vv u Q I rx ry q hs=>h v sl pins s σ H x y vv u Q I rx ry (hi _ _ _ _ q) hs
theorem dE.imp{f:Value}{r r':List V->Hp->VK->Prop}(h:dE X f r)(hi:∀ xs H Q,r' xs H Q->r xs H Q):dE X f r':=fun pins s σ H xs us Q I rs q=>h pins s σ H xs us Q I rs (hi _ _ _ q)
def rA(K:W.Frag):R2:=fun x y H Q=>∃ p i,x = .ref p/\y = .int i /\ ∃ xs,vw K H p=some (.lst xs) /\ ∃ v,my xs i=some v/\Q v H
def sw(K:W.Frag):R2:=fun x y H Q=>∃ p i,x = .ref p/\y = .int i /\ ∃ xs,vw K H p=some (.tup xs) /\ ∃ v,my xs i=some v/\Q v H
theorem dX:qN X (rA X.K):=tO.imp fun _ _ _ _ ⟨p,i,e1,e2,xs,e3,v,e4,q⟩=>⟨p,xs,i,v,e1,e2,.of (aC e3),e4,q⟩
theorem cy:qN X (sw X.K):=BA.imp fun _ _ _ _ ⟨p,i,e1,e2,xs,e3,v,e4,q⟩=>⟨p,xs,i,v,e1,e2,lj e3,e4,q⟩
def gT(H:Hp)(p:Addr):Option Nat:=match H p with
 | some (.lst xs)=>some xs.length
 | some (.frz _ (.lst xs))=>some xs.length
 | some (.tup xs)=>some xs.length
 | _=>none
theorem aN:dE X (.builtin "len") (fun xs H Q=>∃ p,xs=[.ref p] /\ ∃ n:Nat,gT (vw X.K H) p=some n/\Q (.int n) H):=gG.imp fun xs H Q ⟨p,e,n,hn,q⟩=>by
 unfold gT at hn
 split at hn
 ·rename_i ys hp
  cases hn
  exact⟨p,ys,e,.inl (.of (aC hp)),q⟩
 ·rename_i o ys hp
  cases hn
  exact⟨p,ys,e,.inl (.inl (.inr ⟨o,gC hp fun _ z=>by cases z⟩)),q⟩
 ·rename_i ys hp
  cases hn
  exact⟨p,ys,e,.inr (lj hp),q⟩
 ·cases hn
def pR(K:W.Frag)(n:Nat)(t:vC):TG:=fun v σ H Q=>∃ a,v = .ref a /\ ∃ xs,vw K H a=some (.tup xs)/\xs.length=n/\t xs σ H Q
theorem At{es:List Expr}{k:Nat}{t:vC}{n:Nat}{pos:Pos}(hc:X.calm=true)(h:DD X es t)
  (hn:(assignEach es X.env).length=n:=by rfl)(hst:(assignEach es X.env).findIdx? (·.1)=none:=by rfl):PG X (.Tuple es k pos) (pR X.K n t) :=
 fun pins s σ H v u Q I r ⟨a,e,xs,hx,hl,q⟩=>BI hc h hn hst pins s σ H v u Q I r ⟨a,xs,e,lj hx,hl,q⟩
theorem fO{α:Type}{x:α}{xs:List α}:my (x :: xs) 0=some x:=cq (j:=0) rfl
theorem iT{α:Type}{x y:α}{xs:List α}:my (x :: y :: xs) 1=some y:=cq (j:=1) rfl
theorem D3{α:Type}{x y z:α}{xs:List α}:my (x :: y :: z :: xs) 2=some z:=cq (j:=2) rfl
theorem tW{α:Type}{xs:List α}{r:Int}(h0:0<=r)(h1:r<xs.length):∃ v,my xs r=some v/\v ∈ xs:=by
 have h2:r.toNat<xs.length:=by walk_at"o"
 refine⟨xs[r.toNat],?_,List.getElem_mem h2⟩
 have e:=cq (xs:=xs) (j:=r.toNat) (v:=xs[r.toNat]) (List.getElem?_eq_getElem h2)
 rw[show ((r.toNat:Nat):Int)=r by walk_at"o"] at e
 exact e
theorem ar.but_trans{H H1 H2:Hp}{st:Addr}(s:ar H H1)(hn:H st=none)(b:dS st H1 H2):ar H H2:=fun c o e=>b c o (ai e hn) (s c o e)
theorem dS.same_trans{H H1 H2:Hp}{st:Addr}(b:dS st H H1)(s:ar H1 H2):dS st H H2:=b.trans (s.but st)
theorem AC:sH 2 0=some 0:=rfl
theorem yQ{K:W.Frag}{b k:Bool}{H:Hp}:su K (.bl b) H k=(k=b):=rfl
theorem yd{K:W.Frag}{i:Int}{k:Bool}{H:Hp}:su K (.int i) H k=(k=(i != 0)):=rfl
theorem ug{i j:Int}(h:0<=j/\j<=1000000/\i.natAbs<2 ^ 64):Eu i j:=h
end
def Nw(K:W.Frag)(H:Hp)(o:HO)(Q:VK):Prop:=∀ p H2,vw K H p=none->ar (vw K H) (vw K H2)->vw K H2 p=some o->Q (.ref p) H2
theorem Nw.ok{K:W.Frag}{H:Hp}{o:HO}{Q:VK}(h:Nw K H o Q) {p:Addr}(hk:K.lookup p=none)(hp:H p=none):Q (.ref p) (upd H p o) :=
 h p _ (by rw[cK hk];exact hp) (ki (ar.upd hp)) (by rw[cK hk];exact aY)
theorem Nw.al{K:W.Frag}{H:Hp}{o:HO}{Q:VK}(h:Nw K H o Q):∀ p,H p=none->Kf K (.ref p) (upd H p o)->Q (.ref p) (upd H p o):=fun p hp hk=>h.ok (hk p _ rfl aY) hp
def mV(K:W.Frag)(t:TA):TE:=fun σ H Q=>t σ H fun xs H1=>xs.length<=sizeLine/\Nw K H1 (.tup xs) Q
def pP(K:W.Frag)(t:TA):TE:=fun σ H Q=>t σ H fun xs H1=>xs.length<=sizeLine/\Nw K H1 (.lst xs) Q
def EJ(K:W.Frag):TE:=fun _ H Q=>Nw K H (.dK []) Q
section
variable {X:Cx}{es:List Expr}{t:TA}{pos:Pos}
theorem zT {x1}(h:PA X es t):PE X (.Tuple es x1 pos) (mV X.K t):=by
 intro pins s σ H Q I hq
 refine wpAny_Tuple_spliced (cn (h pos pins s σ H _ I hq) fun us s1 ⟨xs,H1,I1,r,z,q⟩=>⟨by rw[<- r.length];exact z,?_⟩)
 have hf:H1 s1.heap.objs.size=none:=I1.hok.fresh (Nat.le_refl _)
 refine⟨.ref s1.heap.objs.size,upd H1 s1.heap.objs.size (.tup xs),I1.laid (t':=s1.toks) (fun b u e=>Heap.get?_push_of_some _ e) (Nat.le_refl _) ?_,rfl,q.ok (I1.newK (Nat.le_refl _)) hf⟩
 exact⟨z,us,r,⟨_,Heap.get?_push_size _ rfl,rfl,_,rfl⟩⟩
theorem zC(h:PA X es t):PE X (.List es pos) (pP X.K t):=by
 intro pins s σ H Q I hq
 refine wpAny_List_spliced (cn (h pos pins s σ H _ I hq) fun us s1 ⟨xs,H1,I1,r,z,q⟩=>⟨by rw[<- r.length];exact z,?_⟩)
 have hf:H1 s1.heap.objs.size=none:=I1.hok.fresh (Nat.le_refl _)
 refine⟨.ref s1.heap.objs.size,upd H1 s1.heap.objs.size (.lst xs),I1.laid (t':=s1.toks) (fun b u e=>Heap.get?_push_of_some _ e) (Nat.le_refl _) ?_,rfl,q.ok (I1.newK (Nat.le_refl _)) hf⟩
 exact⟨z,us,0,r,Heap.get?_push_size _ rfl⟩
theorem eD.imp{f:Value->Value->Sem Value}{r r':R2}(h:eD X f r)(hi:∀ x y H Q,r' x y H Q->r x y H Q):eD X f r':=fun pins s σ H x y v u Q I rx ry q=>h pins s σ H x y v u Q I rx ry (hi _ _ _ _ q)
def sR(K:W.Frag):R2:=fun x y H Q=>∃ l b,x = .ref l/\y = .ref b /\ ∃ xs,vw K H l=some (.lst xs) /\ ∃ zs,vw K H b=some (.lst zs)/\xs.length+zs.length<=sizeLine/\Nw K H (.lst (xs ++ zs)) Q
theorem Ac:eD X (binaryOp .Add) (sR X.K):=Dh.kf.imp fun _ _ _ _ ⟨l,b,e1,e2,xs,h1,zs,h2,z,q⟩=>⟨l,b,xs,zs,e1,e2,aC h1,aC h2,z,q.al⟩
def tM(K:W.Frag):R2:=fun x y H Q=>∃ l k,x = .ref l/\y = .int k /\ ∃ xs,vw K H l=some (.lst xs) /\ -(2 ^ 63)<=k/\k<2 ^ 63/\xs.length*k.toNat<=sizeLine/\Nw K H (.lst (List.replicate k.toNat xs).flatten) Q
theorem yK:eD X (binaryOp .Mult) (tM X.K):=CQ.kf.imp fun _ _ _ _ ⟨l,k,e1,e2,xs,h1,z1,z2,z3,q⟩=>⟨l,k,xs,e1,e2,aC h1,z1,z2,z3,q.al⟩
def gX(K:W.Frag):R2:=fun x y H Q=>rI IntMulOk (fun i j=>.int (i*j)) x y H Q\/tM K x y H Q
def ja(K:W.Frag):R2:=fun x y H Q=>uO (fun i j=>.int (i+j)) x y H Q\/sR K x y H Q
theorem aV:eD X (binaryOp .Mult) (gX X.K):=yH.or yK
theorem bJ:eD X (binaryOp .Add) (ja X.K):=BL.or Ac
theorem eU{K:W.Frag}{i j:Int}{H:Hp}{Q:VK}:gX K (.int i) (.int j) H Q=(IntMulOk i j/\Q (.int (i*j)) H):=by
 simp[gX,rI,tM]
theorem kY{K:W.Frag}{l:Addr}{j:Int}{H:Hp}{Q:VK}:gX K (.ref l) (.int j) H Q = ∃ xs,vw K H l=some (.lst xs) /\ -(2 ^ 63)<=j/\j<2 ^ 63/\xs.length*j.toNat<=sizeLine/\Nw K H (.lst (List.replicate j.toNat xs).flatten) Q:=by
 simp[gX,rI,tM]
theorem jE{K:W.Frag}{i j:Int}{H:Hp}{Q:VK}:ja K (.int i) (.int j) H Q=Q (.int (i+j)) H:=by
 simp[ja,uO,sR]
theorem iq{K:W.Frag}{l b:Addr}{H:Hp}{Q:VK}:ja K (.ref l) (.ref b) H Q = ∃ xs,vw K H l=some (.lst xs) /\ ∃ zs,vw K H b=some (.lst zs)/\xs.length+zs.length<=sizeLine/\Nw K H (.lst (xs ++ zs)) Q:=by
 simp[ja,uO,sR]
theorem ly:dE X (.type "list") (fun xs H Q=>∃ p,xs=[.ref p] /\ ∃ ys,vw X.K H p=some (.lst ys)/\Nw X.K H (.lst ys) Q):=oG.kf.imp fun _ _ _ ⟨p,e,ys,h,q⟩=>⟨p,ys,e,.inl (.of (aC h)),q.al⟩
theorem yC.imp{r r':V->Option Int->Option Int->Hp->VK->Prop}(h:yC X r)(hi:∀ x a b H Q,r' x a b H Q->r x a b H Q):yC X r':=by
 intro value p2 pins s σ H x lo hi' v vl vh sl Q
 intros
 apply h <;> first|assumption|(apply hi;assumption)
def ED(K:W.Frag):V->Option Int->Option Int->Hp->VK->Prop:=fun x lo hi H Q=>∃ a,x = .ref a /\ ∃ xs,vw K H a=some (.lst xs)/\Nw K H (.lst (kX xs lo hi)) Q
theorem kU:yC X (ED X.K):=zl.kf.imp fun _ _ _ _ _ ⟨a,e,xs,h,q⟩=>⟨a,xs,e,.of (aC h),q.al⟩
def yF(K:W.Frag)(H:Hp)(l:Addr)(o:HO)(Q:Hp->Prop):Prop:=∀ H2,dS l (vw K H) (vw K H2)->vw K H2 l=some o->Q H2
theorem yF.ok{K:W.Frag}{H:Hp}{l:Addr}{o:HO}{Q:Hp->Prop}(h:yF K H l o Q)(hk:K.lookup l=none):Q (upd H l o):=h _ (oy dS.upd) (by rw[cK hk];exact aY)
def v6(K:W.Frag):V->V->V->Hp->(Hp->Prop)->Prop:=fun o i v H Q=>∃ p k,o = .ref p/\i = .int k /\ ∃ xs,vw K H p=some (.lst xs) /\ ∃ j,sH xs.length k=some j/\yF K H p (.lst (xs.set j v)) Q
theorem gv:uT X (v6 X.K):=fun pins s σ H o i v ov iv u Q I ro ri rv ⟨p,k,e1,e2,xs,h,j,e3,q⟩=>wB pins s σ H o i v ov iv u Q I ro ri rv ⟨p,xs,k,j,e1,e2,aC h,e3,q.ok (I.noK (aC h))⟩
def xE(K:W.Frag):V->List V->Hp->VK->Prop:=fun x vs H Q=>∃ l y,x = .ref l/\vs=[y] /\ ∃ xs,vw K H l=some (.lst xs)/\xs.length<sizeLine/\yF K H l (.lst (xs ++ [y])) (Q .non)
theorem fK:Ed X "list.append" (xE X.K):=fun pins s σ H x vs v us Q I rx rv ⟨l,y,e1,e2,xs,h,z,q⟩=>ny pins s σ H x vs v us Q I rx rv ⟨l,xs,y,e1,e2,aC h,z,q.ok (I.noK (aC h))⟩
def A5(K:W.Frag):V->List V->Hp->VK->Prop:=fun x vs H Q=>∃ l,x = .ref l/\vs=[] /\ ∃ xs,vw K H l=some (.lst xs) /\ ∃ y,xs[xs.length - 1]? = some y/\yF K H l (.lst xs.dropLast) (Q y)
theorem AI:Ed X "list.pop" (A5 X.K):=fun pins s σ H x vs v us Q I rx rv ⟨l,e1,e2,xs,h,y,e3,q⟩=>Ce pins s σ H x vs v us Q I rx rv ⟨l,xs,y,e1,e2,aC h,e3,q.ok (I.noK (aC h))⟩
end
def A6(J:It)(g:TG)(tb:TS)(D:mf)(σ:St)(H1:Hp):Prop:=∃ W:Nat->Nat->St->Hp->Prop,(∃ m,W 0 m σ H1) /\ ∀ i m σ H,W i m σ H ->
 (J.stop i H/\D.nx σ H)\/(J.go i H /\ ∃ N:St->Hp->Prop,(∀ σ' H',N σ' H' -> ∃ m',m'<m/\W (i+1) m' σ' H') /\ ∀ x H',J.yld i H x H'->g x σ H' fun σ2 H2=>tb { D with nx:=N,ct:=N,bk:=D.nx } σ2 H2)
theorem zr(wi:TI)(g:TG)(tb:TS)(D:mf)(σ:St)(H:Hp):Ca wi g tb D σ H=wi σ H fun J H1=>A6 J g tb D σ H1:=rfl
end L2
namespace L2
open PySem PySem.Spec PyProof.Rows
inductive D where
 | non|bl (b:Bool)|int (i:Int)|str (x:Str)|dict|tup (ds:List D)|lst (ds:List D)
mutual
def aM(H:Hp):D->V->Prop
 | .non,v=>v = .non
 | .bl b,v=>v = .bl b
 | .int i,v=>v = .int i
 | .str x,v=>v = .str x
 | .dict,v=>∃ a kvs,v = .ref a/\H a=some (.dK kvs)
 | .tup ds,v=>∃ a xs,v = .ref a/\H a=some (.tup xs)/\aA H ds xs
 | .lst ds,v=>∃ a xs,v = .ref a/\H a=some (.lst xs)/\aA H ds xs
def aA(H:Hp):List D->List V->Prop
 | [],xs=>xs=[]
 | d :: ds,xs=>∃ x r,xs=x :: r/\aM H d x/\aA H ds r
end
mutual
theorem aM.same{H H':Hp}(S:ar H H'):∀ (d:D)(v:V),aM H d v->aM H' d v
 | .non,v,h=>by unfold aM at h ⊢;exact h
 | .bl b,v,h=>by unfold aM at h ⊢;exact h
 | .int i,v,h=>by unfold aM at h ⊢;exact h
 | .str x,v,h=>by unfold aM at h ⊢;exact h
 | .dict,v,h=>by
  unfold aM at h ⊢
  obtain⟨a,kvs,e,h⟩:=h
  exact⟨a,kvs,e,S _ _ h⟩
 | .tup ds,v,h=>by
  unfold aM at h ⊢
  obtain⟨a,xs,e,h,r⟩:=h
  exact⟨a,xs,e,S _ _ h,aA.same S ds xs r⟩
 | .lst ds,v,h=>by
  unfold aM at h ⊢
  obtain⟨a,xs,e,h,r⟩:=h
  exact⟨a,xs,e,S _ _ h,aA.same S ds xs r⟩
theorem aA.same{H H':Hp}(S:ar H H'):∀ (ds:List D)(xs:List V),aA H ds xs->aA H' ds xs
 | [],xs,h=>by unfold aA at h ⊢;exact h
 | d :: ds,xs,h=>by
  unfold aA at h ⊢
  obtain⟨x,r,e,h1,h2⟩:=h
  exact⟨x,r,e,aM.same S d x h1,aA.same S ds r h2⟩
end
theorem aA.get{H:Hp}:∀{ds:List D}{xs:List V}{i:Nat}{x:V},aA H ds xs->xs[i]? = some x -> ∃ d,ds[i]? = some d/\aM H d x
 | [],xs,i,x,h,e=>by
  unfold aA at h
  subst h
  simp at e
 | d :: ds,xs,i,x,h,e=>by
  unfold aA at h
  obtain⟨y,r,rfl,h1,h2⟩:=h
  cases i with
  | zero =>
   have e':y=x:=by simpa using e
   subst e'
   exact⟨d,by simp,h1⟩
  | succ i =>
   obtain⟨d',e1,e2⟩:=aA.get (i:=i) h2 (by simpa using e)
   exact⟨d',by simpa using e1,e2⟩
theorem aA.length{H:Hp}:∀{ds:List D}{xs:List V},aA H ds xs->xs.length=ds.length
 | [],xs,h=>by
  unfold aA at h
  subst h
  rfl
 | d :: ds,xs,h=>by
  unfold aA at h
  obtain⟨y,r,rfl,_,h2⟩:=h
  simp[aA.length h2]
theorem qL(a b:Int):Int.gcd b (a.fmod b)=Int.gcd a b:=by
 rw[Int.fmod_def,Int.gcd_comm a b]
 have:a - b*a.fdiv b=a+b*(- a.fdiv b):=by rw[Int.mul_neg];walk_at"o"
 rw[this]
 simp
theorem uk(a:Int){b:Int}(hb:b ≠ 0):(a.fmod b).natAbs<b.natAbs:=by
 rcases Int.lt_or_gt_of_ne hb with h|h
 ·obtain⟨n,rfl⟩ : ∃ n:Nat,b=Int.negSucc n:=⟨(-b - 1).toNat,by walk_at"o"⟩
  cases a with
  | ofNat m =>
   cases m with
   | zero=>simp[Int.fmod]
   | succ m =>
    show (Int.subNatNat (m % (n+1)) n).natAbs<n+1
    have:=Nat.mod_lt m (show 0<n+1 by walk_at"o")
    rw[Int.subNatNat_eq_coe]
    generalize m % (n+1)=z at *
    walk_at"o"
  | negSucc m =>
   show (-((((m+1) % (n+1):Nat)):Int)).natAbs<n+1
   have:=Nat.mod_lt (m+1) (show 0<n+1 by walk_at"o")
   generalize (m+1) % (n+1)=z at *
   walk_at"o"
 ·have h1:=Int.fmod_nonneg_of_pos a h
  have h2:=Int.fmod_lt_of_pos a h
  walk_at"o"
def lg(a b:Int):Int:=if b<0 then -(Int.gcd a b:Int) else (Int.gcd a b:Int)
def lo(a b:Int):Int × Int:=(a.fdiv (lg a b),b.fdiv (lg a b))
def fr(q:Int × Int):D:=.tup [.int q.1,.int q.2]
def Fq(q:Int × Int):Prop:=0<q.2/\Int.gcd q.1 q.2=1
theorem ym{a b:Int}(hb:b ≠ 0):lg a b ≠ 0:=by
 have h:Int.gcd a b ≠ 0:=fun e=>hb (Int.gcd_eq_zero_iff.mp e).2
 unfold lg
 split <;> walk_at"o"
theorem pD(a b:Int):lg a b ∣ a:=by
 unfold lg
 split
 ·exact Int.neg_dvd.mpr (Int.gcd_dvd_left ..)
 ·exact Int.gcd_dvd_left ..
theorem oS(a b:Int):lg a b ∣ b:=by
 unfold lg
 split
 ·exact Int.neg_dvd.mpr (Int.gcd_dvd_right ..)
 ·exact Int.gcd_dvd_right ..
theorem fX{a b:Int}(hb:b ≠ 0):(lo a b).1*lg a b=a:=by
 show a.fdiv (lg a b)*lg a b=a
 exact Int.fdiv_mul_cancel (pD a b)
theorem fo{a b:Int}(hb:b ≠ 0):(lo a b).2*lg a b=b:=by
 show b.fdiv (lg a b)*lg a b=b
 exact Int.fdiv_mul_cancel (oS a b)
theorem vb(a b:Int):(lg a b).natAbs=Int.gcd a b:=by
 unfold lg
 split <;> walk_at"o"
theorem m5{a b:Int}(hb:b ≠ 0):Fq (lo a b):=by
 have h1:=fX (a:=a) hb
 have h2:=fo (a:=a) hb
 have hg:0<Int.gcd a b:=Nat.pos_of_ne_zero fun e=>hb (Int.gcd_eq_zero_iff.mp e).2
 constructor
 ·by_cases hn:b<0
  ·have e:lg a b = -(Int.gcd a b:Int):=if_pos hn
   rw[e] at h2
   rcases Int.lt_trichotomy (lo a b).2 0 with h|h|h
   ·have:=Int.mul_nonneg_of_nonpos_of_nonpos (Int.le_of_lt h) (show -(Int.gcd a b:Int)<=0 by walk_at"o")
    walk_at"o"
   ·rw[h] at h2;walk_at"o"
   ·exact h
  ·have e:lg a b=(Int.gcd a b:Int):=if_neg hn
   rw[e] at h2
   rcases Int.lt_trichotomy (lo a b).2 0 with h|h|h
   ·have:=Int.mul_nonpos_of_nonpos_of_nonneg (Int.le_of_lt h) (show 0<=(Int.gcd a b:Int) by walk_at"o")
    walk_at"o"
   ·rw[h] at h2;walk_at"o"
   ·exact h
 ·have e:Int.gcd ((lo a b).1*lg a b) ((lo a b).2*lg a b)=Int.gcd (lo a b).1 (lo a b).2*(lg a b).natAbs:=Int.gcd_mul_right ..
  rw[h1,h2,vb] at e
  have:1*Int.gcd a b=Int.gcd (lo a b).1 (lo a b).2*Int.gcd a b:=by walk_at"o"
  exact (Nat.eq_of_mul_eq_mul_right hg this).symm
mutual
def D.noSt:D->Bool
 | .lst [.int _,.bl _]=>false
 | .lst ds=>D.noSts ds
 | .tup ds=>D.noSts ds
 | _=>true
def D.noSts:List D->Bool
 | []=>true
 | d :: ds=>d.noSt && D.noSts ds
end
def ee(H:Hp)(st:Addr):Prop:=∃ x b,H st=some (.lst [.int x,.bl b])/\(b=false->0<=x/\x<2147483647)
theorem aM.lst_st{H:Hp}{ds:List D}{x:Int}{b:Bool}(h:aA H ds [.int x,.bl b]):ds=[.int x,.bl b]:=by
 match ds with
 | []=>unfold aA at h;cases h
 | [d] =>
  unfold aA at h
  obtain⟨_,_,e,_,h⟩:=h
  unfold aA at h
  subst h
  cases e
 | d1 :: d2 :: d3 :: r =>
  have:=aA.length h
  simp at this
 | [d1,d2] =>
  unfold aA at h
  obtain⟨_,_,e,h1,h⟩:=h
  cases e
  unfold aA at h
  obtain⟨_,_,e,h2,h⟩:=h
  cases e
  have e1:d1 = .int x:=by
   cases d1 <;> unfold aM at h1 <;> first|(cases h1;rfl)|(obtain⟨_,_,e,_⟩:=h1;cases e)|cases h1
  have e2:d2 = .bl b:=by
   cases d2 <;> unfold aM at h2 <;> first|(cases h2;rfl)|(obtain⟨_,_,e,_⟩:=h2;cases e)|cases h2
  rw[e1,e2]
theorem ee.same{H H':Hp}{st:Addr}(h:ee H st)(S:ar H H'):ee H' st:=by
 obtain⟨x,b,e,k⟩:=h
 exact⟨x,b,S _ _ e,k⟩
theorem ee.ne{H:Hp}{st p:Addr}(h:ee H st)(hp:H p=none):p ≠ st:=by
 obtain⟨x,b,e,k⟩:=h
 exact (ai e hp).symm
theorem aM.tup_at{H:Hp}{ds:List D}{v:V}(h:aM H (.tup ds) v):∃ a xs,v = .ref a/\H a=some (.tup xs)/\aA H ds xs:=by
 unfold aM at h
 exact h
theorem aM.lst_at{H:Hp}{ds:List D}{v:V}(h:aM H (.lst ds) v):∃ a xs,v = .ref a/\H a=some (.lst xs)/\aA H ds xs:=by
 unfold aM at h
 exact h
theorem aA.nil_at{H:Hp}{xs:List V}(h:aA H [] xs):xs=[]:=by
 unfold aA at h
 exact h
theorem aA.cons_at{H:Hp}{d:D}{ds:List D}{xs:List V}(h:aA H (d :: ds) xs):∃ x r,xs=x :: r/\aM H d x/\aA H ds r:=by
 unfold aA at h
 exact h
theorem aM.int_at{H:Hp}{i:Int}{v:V}(h:aM H (.int i) v):v = .int i:=by
 unfold aM at h
 exact h
theorem aM.mk_int{H:Hp}(i:Int):aM H (.int i) (.int i):=by unfold aM;rfl
theorem aM.mk_str{H:Hp}(i:Str):aM H (.str i) (.str i):=by unfold aM;rfl
theorem aA.mk_nil{H:Hp}:aA H [] []:=by unfold aA;rfl
theorem aA.mk_cons{H:Hp}{d:D}{ds:List D}{x:V}{xs:List V}(h1:aM H d x)(h2:aA H ds xs):aA H (d :: ds) (x :: xs):=by unfold aA;exact⟨_,_,rfl,h1,h2⟩
theorem aM.mk_tup{H:Hp}{a:Addr}{ds:List D}{xs:List V}(h:H a=some (.tup xs))(r:aA H ds xs):aM H (.tup ds) (.ref a):=by unfold aM;exact⟨_,_,rfl,h,r⟩
theorem aM.mk_lst{H:Hp}{a:Addr}{ds:List D}{xs:List V}(h:H a=some (.lst xs))(r:aA H ds xs):aM H (.lst ds) (.ref a):=by unfold aM;exact⟨_,_,rfl,h,r⟩
theorem aM.fr_at{H:Hp}{q:Int × Int}{v:V}(h:aM H (fr q) v):∃ a,v = .ref a/\H a=some (.tup [.int q.1,.int q.2]):=by
 obtain⟨a,xs,e,ha,r⟩:=h.tup_at
 obtain⟨x1,r1,rfl,h1,r⟩:=r.cons_at
 obtain⟨x2,r2,rfl,h2,r⟩:=r.cons_at
 cases r.nil_at
 rw[h1.int_at,h2.int_at] at ha
 exact⟨a,e,ha⟩
abbrev Bt (n:Nat)(x:Int):Prop:=x.natAbs<2 ^ n
theorem Bt.ib{n:Nat}{x:Int}(h:Bt n x):Builtin.Int.intBits x<=n:=by
 unfold Builtin.Int.intBits
 split
 ·exact Nat.zero_le _
 ·rename_i h0
  have h1:x.natAbs ≠ 0:=by
   intro e
   apply h0
   have:x=0:=by walk_at"o"
   rw[this]
   rfl
  have:=(Nat.log2_lt h1).mpr h
  walk_at"o"
theorem cw{m n:Nat}{x y:Int}(hx:Bt m x)(hy:Bt n y)(h:m+n<=134217728:=by decide):IntMulOk x y:=PySem.IntMulOk.of_le hx.ib hy.ib h
theorem Bt.mono{m n:Nat}{x:Int}(hx:Bt m x)(h:m<=n):Bt n x:=Nat.lt_of_lt_of_le hx (Nat.pow_le_pow_right (by decide) h)
theorem Bt.mul{m n:Nat}{x y:Int}(hx:Bt m x)(hy:Bt n y):Bt (m+n) (x*y):=by
 unfold Bt
 rw[Int.natAbs_mul,Nat.pow_add]
 exact Nat.mul_lt_mul'' hx hy
theorem Bt.add{m n:Nat}{x y:Int}(hx:Bt m x)(hy:Bt n y):Bt (max m n+1) (x+y):=by
 have h1:=hx.mono (Nat.le_max_left m n)
 have h2:=hy.mono (Nat.le_max_right m n)
 unfold Bt at *
 rw[Nat.pow_succ]
 have:=Int.natAbs_add_le x y
 walk_at"o"
theorem Ek{x y:Int}(h:y ≠ 0)(hb:Bt 9000 y):AS x y:=⟨h,by
 by_cases h0:y.natAbs=0
 ·rw[h0];decide +kernel
 ·exact (Nat.log2_lt h0).mpr hb⟩
theorem sO{x k:Int}{n:Nat}(hk:0<k)(h:k.natAbs<=2 ^ n):Bt n (x.fmod k):=by
 have h1:=Int.fmod_nonneg_of_pos x hk
 have h2:=Int.fmod_lt_of_pos x hk
 unfold Bt
 walk_at"o"
theorem kr{x y:Int}(hx:Bt 64 x):IntMulOk x y:=.of_left hx.ib
theorem Al{x y:Int}(hy:Bt 64 y):IntMulOk x y:=.of_right hy.ib
end L2
namespace L2
theorem oA{c A B:Prop} [Decidable c] (hc:c)(h:A):if c then A else B:=by rw[if_pos hc];exact h
theorem j9{c A B:Prop} [Decidable c] (hc:¬ c)(h:B):if c then A else B:=by rw[if_neg hc];exact h
end L2
namespace L2
end L2
namespace L2
open PySem
mutual
def D.ib:D->Bool
 | .int i=>decide (i.natAbs<2 ^ 200)
 | .tup ds=>D.ibs ds
 | .lst ds=>D.ibs ds
 | _=>true
def D.ibs:List D->Bool
 | []=>true
 | d :: ds=>d.ib && D.ibs ds
end
end L2
namespace L2
open PySem PySem.Spec PyProof.Rows
section
variable {prog:Program}{w:World}{A:Around}{R:Result->Shared->Prop}{s:Shared}
theorem oK{elt target iter:Expr}{ifs:List Expr}{scope:Scope}{pos:Pos}{it acc:Value}{env:Env}{EE:Value->Shared->Prop}(hEE:EE=notedBy (model prog w) A env fun e s'=>R (.error e) s')(Iv:Nat->Shared->Prop)
  (turn:∀ n s,Iv n s->wpAny (model prog w) A (pyNext it) (fun r s1=>match r with
   | none=>R (.ok .next) s1
   | some v=>wpAny (model prog w) A (letOwnedTupleGo target it v) (fun _ s2=>wpAny (model prog w) A (assign target env v) (fun _ s3 =>
     wpAny (model prog w) A (forIn ifs true fun c r=>if r=true then do let ok <- isTrue c env (eval c env);pure (ForInStep.yield ok) else pure (ForInStep.yield r)) (fun ok s4 =>
      if ok=true then wpAny (model prog w) A (eval elt env) (fun x s5=>wpAny (model prog w) A (call (.builtin "list.append") [acc,x]) (fun _ s6=>∃ m,m<n/\Iv m s6) EE s5) EE s4
      else ∃ m,m<n/\Iv m s4) EE s3) EE s2) EE s1) EE s)
  (n:Nat)(h:Iv n s):codeAny (model prog w) A (.compLoop (.ListComp elt [⟨target,iter,ifs,0⟩] scope pos) 0 it acc env) R s:=by
 subst hEE
 refine codeAny_loop rfl Iv (fun n s hI=>?_) n h
 show wpAny _ A ((compTurn (.ListComp elt [⟨target,iter,ifs,0⟩] scope pos) 0 it acc env).onRaise (fun x=>do noteFrame x env;theTreesLotGoes x)) _ _ s
 refine wpAny_noted ?_
 rw[compTurn_list]
 refine wpAny_bind (wpAny_standAt (wpAny_bind (wpAny_mono (turn n s hI) (fun r s1 h1=>?_) fun _ _ h'=>h')))
 cases r with
 | none=>exact wpAny_pure h1
 | some v =>
  refine wpAny_bind (wpAny_mono h1 (fun _ s2 h2=>?_) fun _ _ h'=>h')
  refine wpAny_bind (wpAny_mono h2 (fun _ s3 h3=>wpAny_bind (wpAny_mono h3 (fun ok s4 h4=>?_) fun _ _ h'=>h')) fun _ _ h'=>h')
  cases ok with
  | false=>exact wpAny_pure ⟨rfl,h4⟩
  | true=>exact wpAny_bind (wpAny_bind (wpAny_mono h4 (fun x s5 h5=>wpAny_bind (wpAny_mono h5 (fun _ s6 h6=>wpAny_pure (wpAny_pure ⟨rfl,h6⟩)) fun _ _ h'=>h')) fun _ _ h'=>h'))
end
def j6(X:Cx)(scope:Scope)(cl:List (Str × Addr))(N:List Str)(C:Addr)(s:Shared)(H:Hp)(ex:List Addr):Cx :=
 { X with N:=N,s₀:=s,H₀:=H,env:=compEnvC scope cl C X.env,outer:=X.stack,ex:=ex,fn:=fun _=>false,pn:=[],xe:=fun _ _=>False }
def pT(X:Cx)(scope:Scope)(cl:List (Str × Addr)):List Str->List Nat->Prop
 | [],[]=>True
 | x :: xs,j :: js=>(X.N[j]? = some x /\ X.env.kindOf x = some .cell /\ (relabel scope X.env).names.lookup x = some .cell /\ (∃ c,cl.lookup x = some c)) /\ pT X scope cl xs js
 | _,_=>False
theorem pT.length{X:Cx}{scope:Scope}{cl:List (Str × Addr)}:∀ {xs:List Str}{js:List Nat},pT X scope cl xs js->js.length=xs.length
 | [],[],_=>rfl
 | _ :: _,_ :: _,h=>by simp[pT.length h.2]
 | [],_ :: _,h=>h.elim
 | _ :: _,[],h=>h.elim
theorem pT.get{X:Cx}{scope:Scope}{cl:List (Str × Addr)}:∀ {xs:List Str}{js:List Nat}{k j:Nat}{x:Str},pT X scope cl xs js->xs[k]? = some x->js[k]? = some j ->
  X.N[j]? = some x /\ X.env.kindOf x = some .cell /\ (relabel scope X.env).names.lookup x = some .cell /\ ∃ c,cl.lookup x = some c
 | [],_,_,_,_,_,e,_=>by simp at e
 | _ :: _,[],_,_,_,_,_,e=>by simp at e
 | x :: xs,j :: js,0,_,_,h,e1,e2=>by
  simp at e1 e2
  subst e1
  subst e2
  exact h.1
 | x :: xs,j :: js,k+1,_,_,h,e1,e2=>pT.get (k:=k) h.2 (by simpa using e1) (by simpa using e2)
def i9(X:Cx):List (Str × Addr)->Prop
 | []=>True
 | p :: r=>X.env.cells.lookup p.1=some p.2/\i9 X r
theorem i9.mem{X:Cx}:∀{cl:List (Str × Addr)},i9 X cl -> ∀ p ∈ cl,X.env.cells.lookup p.1=some p.2
 | [],_,p,hp=>by cases hp
 | q :: r,h,p,hp=>by
  rcases List.mem_cons.mp hp with rfl|hp
  ·exact h.1
  ·exact i9.mem h.2 p hp
structure lJ (X:Cx)(scope:Scope)(cl:List (Str × Addr))(own outs:List Str)(ixs:List Nat):Prop where
 nocell:(scope.names.all fun y=>y.2 != .cell)=true
 kind:scope.kind = .function
 names:(scope.names.all fun y=>y.2 != .local || scope.names.lookup y.1 == some .local)=true
 cells:i9 X cl
 has:((relabel scope X.env).names.all fun y=>!(y.2 == .cell || y.2 == .free) || (cl.lookup y.1).isSome) = true
 outs:pT X scope cl outs ixs
def PF(X:Cx)(ifs:List Expr)(t:TT):Prop :=
 ∀ (pins:List (Addr × Obj))(s:Shared)(σ:St)(H:Hp)(Q:Bool->Hp->Prop),aw X pins σ H s->t σ H Q ->
  wpAny (model X.prog X.w) X.A (forIn ifs true fun c r=>if r=true then do let ok <- isTrue c X.env (eval c X.env);pure (ForInStep.yield ok) else pure (ForInStep.yield r)) (TP X pins σ Q) X.xe s
def Ct:TT:=fun _ H Q=>Q true H
theorem Cg{X:Cx}:PF X [] Ct:=fun _ _ _ H _ I h=>wpAny_tests_nil ⟨H,I,h⟩
theorem C1{X:Cx}{c:Expr}{t:TT}(h:PT X c t):PF X [c] t:=fun pins s σ H Q I q=>wpAny_tests_one (h pins s σ H Q I q)
def nX(K:W.Frag)(J:It)(g:TG)(tif:TT)(te:TE)(a:Addr)(σ0:St)(H0:Hp)(Q:Hp->Prop):Prop:=∃ W:Nat->Nat->St->Hp->Prop,(∃ m,W 0 m σ0 H0) /\ ∀ i m σ H,W i m σ H ->
 (J.stop i H/\Q H)\/(J.go i H /\ ∃ N:St->Hp->Prop,(∀ σ' H',N σ' H' -> ∃ m',m'<m/\W (i+1) m' σ' H') /\ ∀ x H',J.yld i H x H'->g x σ H' fun σ2 H2=>tif σ2 H2 fun b H3=>if b=true then te σ2 H3 fun v H4=>∃ xs,vw K H4 a=some (.lst xs)/\xs.length<sizeLine /\
  ∀ H5,dS a (vw K H4) (vw K H5)->vw K H5 a=some (.lst (xs ++ [v]))->N σ2 H5 else N σ2 H3)
def qY(σ:St)(ixs:List Nat):St:=ixs.map fun j=>(σ[j]?).join
def qG(K:W.Frag)(wi:TI)(n:Nat)(ixs:List Nat)(g:TG)(tif:TT)(te:TE):TE:=fun σ H Q=>wi σ H fun J H1=>∀ a H2,vw K H1 a=none->ar (vw K H1) (vw K H2)->vw K H2 a=some (.lst [])->nX K J g tif te a (List.replicate n none ++ qY σ ixs) H2 (Q (.ref a))
section
variable {X:Cx}
theorem mG{tg iter elt:Expr}{ifs:List Expr}{scope:Scope}{pos ipos:Pos}{wi:TI}{g:TG}{tif:TT}{te:TE}{cl:List (Str × Addr)}{own outs:List Str}{ixs:List Nat}{use:Option (Value->Sem Unit)}{Qv:Value->Shared->Prop}
  (hc:X.calm=true)(hi:PI X tg iter wi)(hclos:closureFor scope X.env=pure cl)(S:lJ X scope cl own outs ixs)
  {G:Shared->Hp->List Addr->Prop}(hb:∀ C s H ex,G s H ex->PG (j6 X scope cl (own ++ outs) C s H ex) tg g/\PF (j6 X scope cl (own ++ outs) C s H ex) ifs tif/\PE (j6 X scope cl (own ++ outs) C s H ex) elt te)
  (hs:∀ x,foldedSetIterable iter X.env x=pure x) {pins:List (Addr × Obj)}{s:Shared}{σ:St}{H:Hp}(hG:∀ s2 H1 H2 fp,aw X pins σ H2 s2->(∀ b ∈ fp,oz X pins H1 b)->G s2 H2 fp)(I:aw X pins σ H s)(Qd:Addr->Hp->Prop)
  (hfin:∀ (a C:Addr)(H':Hp)(s4:Shared)(m:Str->Option Value),aw X pins σ H' s4->oz X pins H' C->s4.heap.Ns C m->Qd a H'->compPost (model X.prog X.w) X.A X.xe use Qv (.ref a) C (.ok .next) s4)
  (h:wi σ H fun J H1=>∀ a H2,vw X.K H1 a=none->ar (vw X.K H1) (vw X.K H2)->vw X.K H2 a=some (.lst [])->nX X.K J g tif te a (List.replicate own.length none ++ qY σ ixs) H2 (Qd a)) :
  wpAny (model X.prog X.w) X.A (comprehension (.ListComp elt [⟨tg,iter,ifs,0⟩] scope pos) scope X.env ipos (newList []) false (eval iter X.env) use) Qv X.xe s:=by
 have Snc:∀ y ∈ scope.names,y.2 ≠ .cell:=fun y hy z=>by
  have:=List.all_eq_true.mp S.nocell y hy
  rw[z] at this
  cases this
 have Snm:∀ y ∈ scope.names,y.2 = .local->scope.names.lookup y.1=some .local:=fun y hy z=>by
  have:=List.all_eq_true.mp S.names y hy
  rw[z] at this
  simpa using this
 have Shs:∀ y ∈ (relabel scope X.env).names,(y.2 = .cell \/ y.2 = .free) -> (cl.lookup y.1).isSome = true:=fun y hy z=>by
  have:=List.all_eq_true.mp S.has y hy
  rcases z with z|z
  ·rw[z] at this
   simpa using this
  ·rw[z] at this
   simpa using this
 refine wpAny_comprehension_free (use:=use) rfl hs hclos S.kind Snm (wpAny_mono (hi pins s σ H _ I h) (fun xv s1 h1=>wpAny_mono h1 (fun itv s2 h2=>?_) fun _ _ e=>e) fun _ _ e=>e)
 obtain⟨it,fp,tn,J,H1,rfl,I1,T,st1,f1,q⟩:=h2
 refine wpAny_newObj_type (wpAny_newFunctionEnv Snc (by intro y hy;simp at hy) (fun h₁ hns₁ hsb₁=>?_) S.kind)
 dsimp only at hns₁ hsb₁ ⊢
 have I2:aw X pins σ (upd H1 s2.heap.objs.size (.lst [])) { s2 with heap:=s2.heap.push { cls:=.type "list",dict:=none,data:=.seq ([]:List Value).toArray } }:=I1.lnew (t':=s2.toks) .nil (Nat.zero_le _)
 have q2:=q s2.heap.objs.size (upd H1 s2.heap.objs.size (.lst [])) (by rw[cK (I1.newK (Nat.le_refl _))];exact I1.fresh) (ki (ar.upd I1.fresh)) (by rw[cK (I1.newK (Nat.le_refl _))];exact aY)
 have fr2:∀ b ∈ fp,(upd H1 s2.heap.objs.size (.lst [])) b=none:=fun b hb=>by
  obtain⟨o,ho,_⟩:=T.obj _ _ st1 b hb
  rw[aG (Nat.ne_of_lt (Heap.lt_size ho))]
  exact (f1 b hb).1
 generalize hH2:upd H1 s2.heap.objs.size (.lst [])=H2 at I2 q2 fr2
 generalize hs3:s2.heap.push { cls:=.type "list",dict:=none,data:=.seq ([]:List Value).toArray } = hp3 at I2 hns₁ hsb₁ ⊢
 have old23:∀ b o,s2.heap.get? b=some o->hp3.get? b=some o:=fun b o e=>hs3 ▸ Heap.get?_push_of_some _ e
 have ltC:∀ {b:Addr}{o:Obj},hp3.get? b=some o->b ≠ hp3.objs.size:=fun e=>Nat.ne_of_lt (Heap.lt_size e)
 have old:∀ b o,hp3.get? b=some o->h₁.get? b=some o:=fun b o e=>hsb₁.extBut b o (ltC e) (Heap.get?_push_of_some _ e)
 have clc:∀ x c,cl.lookup x=some c->X.env.cells.lookup x=some c:=fun x c e=>S.cells.mem (x,c) (PySem.mem_of_lookup e)
 obtain⟨W,⟨m0,w0⟩,turn⟩:=q2
 have fpo:∀ b ∈ fp,∃ o,hp3.get? b=some o:=fun b hb=>by
  obtain⟨o,ho,_⟩:=T.obj _ _ st1 b hb
  exact⟨o,old23 b o ho⟩
 have ok:(j6 X scope cl (own ++ outs) hp3.objs.size { s2 with heap:=hp3 } H2 fp).Ok:=by
  refine⟨I.ok.mod,S.kind,I.ok.glob,I.ok.blt,Nat.le_refl _,fun x y c e1 e2=>I.ok.inj x y c (clc x c e1) (clc y c e2),fun x hx=>?_,fun x c hf _=>(by cases hf),I.ok.hd,I.ok.frames,.inl rfl,fun b hb=>⟨?_,fun x c e=>?_⟩,I2.bs,Nat.le_trans I.ok.bsz I2.sz,fun b o e hb=>?_,fun b hb hz=>?_,I2.stack,I2.stkFree⟩
  ·have hx':(relabel scope X.env).names.lookup x = some .cell \/ (relabel scope X.env).names.lookup x = some .free:=hx
   have:(cl.lookup x).isSome=true:=by
    rcases hx' with e|e
    ·exact Shs _ (PySem.mem_of_lookup e) (.inl rfl)
    ·exact Shs _ (PySem.mem_of_lookup e) (.inr rfl)
   exact Option.isSome_iff_exists.mp this
  ·obtain⟨o,ho⟩:=fpo b hb
   exact ltC ho
  ·exact (f1 b hb).2.2.2.2.1 x c (clc x c e)
  ·rcases (f1 b hb).2.2.2.1 with z|z
   ·exact I.ok.noex b o e z
   ·exact absurd (Nat.lt_of_lt_of_le (Heap.lt_size e) (Nat.le_trans I.ok.bsz z)) (Nat.lt_irrefl _)
  ·rcases List.mem_cons.mp (I2.stkSub b hz) with z|z
   ·exact (f1 b hb).2.1 z
   ·exact (f1 b hb).2.2.1 z
 have I4:aw (j6 X scope cl (own ++ outs) hp3.objs.size { s2 with heap:=hp3 } H2 fp) [] (List.replicate own.length none ++ qY σ ixs) H2 { s2 with heap:=h₁,toks:=s2.toks+([]:List (Str × Value)).length }:=by
  refine⟨ok,rfl,I2.bare,Un.kept old,⟨_,hns₁,fun i x v e1 e2 e3=>?_⟩,fun x c e=>?_,I2.hok.fresh (Nat.le_refl _),fun x c e=>I2.freeC x c (clc x c e),fun p hp=>by simp[j6] at hp,I2.hok.kept old,?_⟩
  ·have e1':(own ++ outs)[i]? = some x:=e1
   have hi':own.length<=i:=by
    by_cases hlt:i<own.length
    ·rw[List.getElem?_append_left (by simpa using hlt),List.getElem?_replicate,if_pos hlt] at e2
     cases e2
    ·walk_at"o"
   rw[List.getElem?_append_right (by simpa using hi')] at e2
   rw[List.getElem?_append_right hi'] at e1'
   rw[List.length_replicate] at e2
   unfold qY at e2
   rw[List.getElem?_map] at e2
   cases ej:ixs[i - own.length]? with
   | none=>rw[ej] at e2;cases e2
   | some j =>
    rw[ej] at e2
    obtain⟨hN,hk,hr,c,hcl⟩:=S.outs.get e1' ej
    have e4:(σ[j]?).join=some v:=Option.some.inj e2
    have e5:σ[j]? = some (some v):=by
     cases es:σ[j]? with
     | none=>rw[es] at e4;cases e4
     | some o=>rw[es] at e4;exact congrArg some e4
    obtain⟨m,hn,hl⟩:=I2.loc
    obtain⟨u,ru,l⟩:=hl j x v hN e5 (.inr (.inl hk))
    refine⟨u,ru,.inr ⟨.inl hr,c,hcl,?_⟩⟩
    rcases l with ⟨z,_⟩|⟨_,c',hc',cell⟩
    ·rw[hk] at z;cases z
    ·rw[clc x c hcl] at hc'
     cases hc'
     obtain⟨o,ho,hd⟩:=cell
     exact⟨o,old _ _ ho,hd⟩
  ·obtain⟨v,o,ho,hd⟩:=I2.cell x c (clc x c e)
   exact⟨v,o,old _ _ ho,hd⟩
  ·show (List.replicate own.length none ++ qY σ ixs).length=(own ++ outs).length
   unfold qY
   rw[List.length_append,List.length_append,List.length_replicate,List.length_map,S.outs.length]
 obtain⟨hg,hf,he⟩:=hb hp3.objs.size { s2 with heap:=hp3 } H2 fp (hG _ _ _ _ I2 f1)
 have stat:∀ {H':Hp},(∀ b ∈ fp,H' b=none) -> ∀ b ∈ fp,oz (j6 X scope cl (own ++ outs) hp3.objs.size { s2 with heap:=hp3 } H2 fp) [] H' b:=fun hn b hb =>
  ⟨hn b hb,(ok.exf b hb).1,ok.exfs b hb,.inl hb,(ok.exf b hb).2,fun p hp=>by simp[j6] at hp⟩
 have noE:∀ {α:Type}{t:Sem α}{Q':α->Shared->Prop}{s':Shared}{E':Value->Shared->Prop},wpAny (model X.prog X.w) X.A t Q' (fun _ _=>False) s'->wpAny (model X.prog X.w) X.A t Q' E' s':=fun h=>wpAny_mono h (fun _ _ z=>z) fun _ _ z=>z.elim
 have loop:codeAny (model X.prog X.w) X.A (.compLoop (.ListComp elt [⟨tg,iter,ifs,0⟩] scope pos) 0 (.ref it) (.ref s2.heap.objs.size) (compEnvC scope cl hp3.objs.size X.env))
   (compPost (model X.prog X.w) X.A X.xe use Qv (.ref s2.heap.objs.size) hp3.objs.size) { s2 with heap:=h₁,toks:=s2.toks+([]:List (Str × Value)).length }:=by
  refine oK rfl (fun n s'=>∃ i σ' H',aw (j6 X scope cl (own ++ outs) hp3.objs.size { s2 with heap:=hp3 } H2 fp) [] σ' H' s'/\tn i s'.heap/\(∀ b ∈ fp,H' b=none)/\W i n σ' H') ?_ m0
   ⟨0,_,H2,I4,T.keep _ _ _ st1 fun b hb o e=>old b o (old23 b o e),fr2,w0⟩
  rintro n s' ⟨i,σ',H',I',st',fr',w'⟩
  rcases turn i n σ' H' w' with ⟨stop,qn⟩|⟨go,N,hN,step⟩
  ·refine cn (T.done (j6 X scope cl (own ++ outs) hp3.objs.size { s2 with heap:=hp3 } H2 fp) rfl rfl rfl hc i [] s' σ' H' _ I' (stat fr') st' stop) fun r s4 ⟨hr,I4'⟩=>?_
   subst hr
   obtain⟨m,hn,_⟩:=I4'.loc
   have kC:∀ b o,b ≠ hp3.objs.size->s4.heap.get? b=some o->s4.heap.get? b=some o:=fun b o hb e=>e
   have tC:∀ b u,H' b=some u->b ≠ hp3.objs.size:=fun b u e z=>by
    have:=I4'.free
    rw[z] at e
    rw[show H' hp3.objs.size=none from this] at e
    cases e
   have base:=I4'.base
   have un:Un (gg X.stack) fp H2 H' hp3 s4.heap:=⟨fun b o e n1 hb hx=>kC b o (ltC e) (base.keep b o e n1 hb hx),fun b o e n1 hb hx=>by
     obtain⟨sl,z⟩:=base.slot b o e n1 hb hx
     exact⟨sl,kC b _ (ltC e) z⟩,base.free,fun b o e hx=>by
     obtain⟨o',z⟩:=base.there b o e hx
     exact⟨o',kC b o' (ltC e) z⟩,base.tups,base.frzs,base.tbls⟩
   exact hfin _ _ H' s4 m (I2.call' (s':=s4) (ch:=fp) I4'.os un I4'.hok I4'.bare (fun b hb=>⟨(f1 b hb).2.2.2.1,(f1 b hb).2.1,(f1 b hb).2.2.2.2.1,(f1 b hb).2.2.2.2.2⟩)) (I2.fpOk (Nat.le_refl _) I4'.free) hn qn
  ·refine cn (T.item (j6 X scope cl (own ++ outs) hp3.objs.size { s2 with heap:=hp3 } H2 fp) rfl rfl rfl hc i [] s' σ' H' _ I' (stat fr') st' go) fun r s4 ⟨u,hr,h4⟩=>?_
   subst hr
   refine cn h4 fun _ s5 ⟨x,H5,I5,r5,y5,st5,fr5⟩=>?_
   have I5':=I5.pinned (stat fr5) (T.obj _ _ st5)
   have back:∀ {σ7:St}{H7:Hp}{s7:Shared},aw (j6 X scope cl (own ++ outs) hp3.objs.size { s2 with heap:=hp3 } H2 fp) ([] ++ kZ fp s5.heap) σ7 H7 s7 -> ∀ m',m'<n->W (i+1) m' σ7 H7 ->
     ∃ m,m<n /\ ∃ i σ' H',aw (j6 X scope cl (own ++ outs) hp3.objs.size { s2 with heap:=hp3 } H2 fp) [] σ' H' s7/\tn i s7.heap/\(∀ b ∈ fp,H' b=none)/\W i m σ' H':=fun {σ7 H7 s7} I7 m' hm w7=>by
    refine⟨m',hm,i+1,σ7,H7,I7.unpinned,T.keep _ _ _ st5 fun b hb o e=>(I7.pin (b,o) (List.mem_append_right _ (List.mem_append_right _ (gB hb e)))).1,fun b hb=>?_,w7⟩
    obtain⟨o,e,d⟩:=T.obj _ _ st5 b hb
    exact (I7.pin (b,o) (List.mem_append_right _ (List.mem_append_right _ (gB hb e)))).2.1
   refine cn (noE (hg _ s5 σ' H5 x u _ I5' r5 (step x H5 y5))) fun _ s6 ⟨σ6,H6,I6,q6⟩=>?_
   refine cn (noE (hf _ s6 σ6 H6 _ I6 q6)) fun ok s7 ⟨H7,I7,q7⟩=>?_
   cases ok with
   | false =>
    rw[if_neg Bool.false_ne_true] at q7 ⊢
    obtain⟨m',hm,w7⟩:=hN _ _ q7
    exact back I7 m' hm w7
   | true =>
    rw[if_pos rfl] at q7 ⊢
    refine cn (noE (he _ s7 σ6 H7 _ I7 q7)) fun v s8 ⟨xv,H8,I8,r8,q8⟩=>?_
    obtain⟨xs,hxs,hz,q8⟩:=q8
    refine cn (noE (ny _ s8 σ6 H8 (.ref s2.heap.objs.size) [xv] _ [v] (fun _ H9=>N σ6 H9) I8 rfl (.cons r8 .nil) ⟨_,xs,xv,rfl,rfl,aC hxs,hz,q8 _ (oy dS.upd) ((cK (show X.K.lookup _=none from I8.noK (aC hxs))).trans aY)⟩)) fun _ s9 ⟨_,H9,I9,_,n9⟩=>?_
    obtain⟨m',hm,w9⟩:=hN _ _ n9
    exact back I9 m' hm w9
 exact codeAny_compStart_list loop (T.self _ 0 _ _ _ (T.keep _ _ _ st1 fun b hb o e=>old b o (old23 b o e)) loop)
theorem AB{tg iter elt:Expr}{ifs:List Expr}{scope:Scope}{pos:Pos}{wi:TI}{g:TG}{tif:TT}{te:TE}{cl:List (Str × Addr)}{own outs:List Str}{ixs:List Nat}
  (hc:X.calm=true)(hi:PI X tg iter wi)(hclos:closureFor scope X.env=pure cl)(S:lJ X scope cl own outs ixs)
  (hb:∀ C s H ex,PG (j6 X scope cl (own ++ outs) C s H ex) tg g/\PF (j6 X scope cl (own ++ outs) C s H ex) ifs tif/\PE (j6 X scope cl (own ++ outs) C s H ex) elt te)
  (hs:∀ x,foldedSetIterable iter X.env x=pure x:=by intro _;rfl) :
  PE X (.ListComp elt [⟨tg,iter,ifs,0⟩] scope pos) (qG X.K wi own.length ixs g tif te):=by
 intro pins s σ H Q I h
 rw[eval_ListComp]
 refine mG (G:=fun _ _ _=>True) hc hi hclos S (fun C s H ex _=>hb C s H ex) hs (fun _ _ _ _ _ _=>trivial) I (fun a H'=>Q (.ref a) H') (fun a C H' s4 m J4 fC hn q=>⟨m,hn,fun h' hsb=>?_⟩) h
 obtain⟨f0,f1,f2,f3,f4,f5⟩:=fC
 exact⟨.ref a,H',J4.turned (t':=s4.toks) (fun b o hb e=>hsb.extBut b o hb e) f0 f1 f3 f4 f5,rfl,q⟩
theorem zJ{tg iter elt:Expr}{ifs:List Expr}{scope:Scope}{pos spos py:Pos}{y:Str}{i:Nat}{wi:TI}{g:TG}{tif:TT}{te:TE}{cl:List (Str × Addr)}{own outs:List Str}{ixs:List Nat}
  (hN:X.N.Nodup)(hy:X.N[i]? = some y)(hx:yA X.env.scope y)(hc:X.calm=true)(hi:PI X tg iter wi)(hclos:closureFor scope X.env=pure cl)(S:lJ X scope cl own outs ixs)
  (hb:∀ C s H ex,PG (j6 X scope cl (own ++ outs) C s H ex) tg g/\PF (j6 X scope cl (own ++ outs) C s H ex) ifs tif/\PE (j6 X scope cl (own ++ outs) C s H ex) elt te)
  (hsw:swapsWith (.ListComp elt [⟨tg,iter,ifs,0⟩] scope pos) (some (.Name y py)) spos.line X.env=pure true:=by rfl)
  (hs:∀ x,foldedSetIterable iter X.env x=pure x:=by intro _;rfl)(hf:X.fn y=true\/X.env.scope.names.lookup y=some .local:=by first|exact .inl rfl|exact .inr rfl|assumption) :
  PS X (.Assign [.Name y py] (.ListComp elt [⟨tg,iter,ifs,0⟩] scope pos) spos) (rg (qG X.K wi own.length ixs g tif te) (ij i)):=by
 intro pins s σ H D I h
 rw[exec_Assign_Name_used _ _ _ _ hsw]
 refine wpAny_bind (wpAny_standAt (wpAny_bind ?_))
 show wpAny _ X.A (do let _ <- comprehension (.ListComp elt [⟨tg,iter,ifs,0⟩] scope pos) scope X.env _ (newList []) false (eval iter X.env) (some (assign (.Name y py) X.env))) _ _ s
 refine wpAny_bind (wpAny_mono (mG (use:=some (assign (.Name y py) X.env)) (Qv:=fun _ s'=>SP X pins D .next s') (G:=fun _ _ _=>True) hc hi hclos S (fun C s H ex _=>hb C s H ex) hs (fun _ _ _ _ _ _=>trivial) I (fun a H'=>D.nx (σ.set i (some (.ref a))) H') (fun a C H' s4 m J4 fC hn q=>?_) h) (fun _ s' hq=>wpAny_pure (wpAny_pure hq)) fun _ _ e=>e)
 obtain⟨f0,f1,f2,f3,f4,f5⟩:=fC
 refine wpAny_assign_Name (mK J4 hN hy hx (v:=.ref a) rfl (fun s5 I5 hsame=>?_) hf)
 obtain⟨b,sb,hb'⟩:=hsame
 have nb:C ≠ b:=fun e=>by
  rcases hb' with z|z
  ·exact f1 (e.trans z)
  ·exact f4 _ _ z e.symm
 exact⟨m,hn.sameBut sb nb,fun h' hsb=>⟨_,H',I5.turned (t':=s5.toks) (fun b o hb e=>hsb.extBut b o hb e) f0 f1 f3 f4 f5,q⟩⟩
end
theorem D5{X:Cx}{scope:Scope}{cl:List (Str × Addr)}{N:List Str}{C:Addr}{s:Shared}{H:Hp}{ex:List Addr}:(j6 X scope cl N C s H ex).K=X.K:=rfl
mutual
def D.py:D->PyData
 | .non=>.none
 | .bl b=>.bool b
 | .int i=>.int i
 | .str x=>.str x
 | .dict=>.dict []
 | .tup ds=>.tuple (D.pys ds)
 | .lst ds=>.list (D.pys ds)
def D.pys:List D->List PyData
 | []=>[]
 | d :: ds=>d.py :: D.pys ds
end
def D.cmp(d:D):Prop:=d.py.canLay0=true/\d.py.depth<=30
def vq(d e:D):Bool:=PyData.eqv d.py e.py
section
variable {X:Cx}{pins:List (Addr × Obj)}{σ:St}{H:Hp}{s:Shared}
mutual
theorem aM.reads(I:aw X pins σ H s):∀ (d:D)(v:V)(u:Value),aM (vw X.K H) d v->aS v u->d.py.canLay0=true -> ∃ as,Reads s.heap u d.py as
 | .non,v,u,h,r,_=>by
  unfold aM at h;subst h;cases r
  exact⟨_,by unfold D.py;exact .none⟩
 | .bl b,v,u,h,r,_=>by
  unfold aM at h;subst h;cases r
  exact⟨_,by unfold D.py;exact .bool b⟩
 | .int i,v,u,h,r,_=>by
  unfold aM at h;subst h;obtain⟨t,rfl⟩:=r
  exact⟨_,by unfold D.py;exact .int i t⟩
 | .str x,v,u,h,r,_=>by
  unfold aM at h;subst h;obtain⟨t,rfl⟩:=r
  exact⟨_,by unfold D.py;exact .str x t⟩
 | .dict,v,u,h,r,hc=>by
  unfold D.py PyData.canLay0 at hc
  cases hc
 | .tup ds,v,u,h,r,hc=>by
  obtain⟨a,xs,rfl,ha,rs⟩:=h.tup_at
  cases r
  unfold D.py at hc ⊢
  obtain⟨its,rv,p,hz⟩:=I.tuple (lj ha)
  obtain⟨o,h1,h2,n,h3⟩:=p
  obtain⟨as,ra⟩:=aA.reads I ds xs its rs rv (by unfold PyData.canLay0 at hc;exact hc)
  exact⟨_,.tuple h1 h2 h3 (by simpa using ra)⟩
 | .lst ds,v,u,h,r,hc=>by
  obtain⟨a,xs,rfl,ha,rs⟩:=h.lst_at
  cases r
  unfold D.py at hc ⊢
  obtain⟨its,rv,p,hz⟩:=I.list (jS.of (K:=X.K) (aC ha))
  obtain⟨o,n,h1,h2,h3,h4⟩:=p
  obtain⟨as,ra⟩:=aA.reads I ds xs its rs rv (by unfold PyData.canLay0 at hc;exact hc)
  exact⟨_,.list h1 h2 h4 (by simpa using ra)⟩
theorem aA.reads(I:aw X pins σ H s):∀ (ds:List D)(xs:List V)(us:List Value),aA (vw X.K H) ds xs->aL xs us->PyData.canLayAll0 (D.pys ds)=true -> ∃ as,ReadsAll s.heap us (D.pys ds) as
 | [],xs,us,h,r,_=>by
  cases h.nil_at
  cases r
  exact⟨_,by unfold D.pys;exact .nil⟩
 | d :: ds,xs,us,h,r,hc=>by
  obtain⟨x,ys,rfl,h1,h2⟩:=h.cons_at
  cases r with
  | cons r1 r2 =>
   unfold D.pys PyData.canLayAll0 at hc
   rw[Bool.and_eq_true] at hc
   obtain⟨as,ra⟩:=aM.reads I d x _ h1 r1 hc.1
   obtain⟨bs,rb⟩:=aA.reads I ds ys _ h2 r2 hc.2
   exact⟨_,by unfold D.pys;exact .cons ra rb⟩
end
end
def zx(K:W.Frag)(neg:Bool):R2:=fun x y H Q=>∃ d e,aM (vw K H) d x/\aM (vw K H) e y/\d.cmp/\e.cmp/\Q (.bl (if neg then !vq d e else vq d e)) H
section
variable {X:Cx}
theorem rX(hu:X.A.units+64<cLine):eD X (compareOp .Eq) (zx X.K false):=by
 intro pins s σ H x y v u Q I rx ry h
 obtain⟨d,e,h1,h2,c1,c2,q⟩:=h
 obtain⟨as,r1⟩:=aM.reads I d x v h1 rx c1.1
 obtain⟨bs,r2⟩:=aM.reads I e y u h2 ry c2.1
 exact SeqAt.compareEq_reads r1 r2 c1.1 c2.1 (by have:=c1.2;walk_at"o") ⟨.bl _,H,I,rfl,q⟩
theorem Cu(hu:X.A.units+64<cLine):eD X (compareOp .NotEq) (zx X.K true):=by
 intro pins s σ H x y v u Q I rx ry h
 obtain⟨d,e,h1,h2,c1,c2,q⟩:=h
 obtain⟨as,r1⟩:=aM.reads I d x v h1 rx c1.1
 obtain⟨bs,r2⟩:=aM.reads I e y u h2 ry c2.1
 exact SeqAt.compareNe_reads r1 r2 c1.1 c2.1 (by have:=c1.2;walk_at"o") ⟨.bl _,H,I,rfl,q⟩
end
def iQ(K:W.Frag)(H:Hp)(a:Addr)(xs:List V):Prop:=(K.lookup a=none/\Rd H a (.lst xs)) \/
 ∃ (o:Obj)(its:Array Value)(n:Nat),K.lookup a=some o/\o.cls = .type "list" /\ o.dict=none/\o.data = .seq its n/\its.size<=sizeLine/\aL xs its.toList
theorem iQ.sq{K:W.Frag}{H:Hp}{a:Addr}{xs:List V}(h:iQ K H a xs):jS K H a xs:=h.imp (fun z=>z.2) fun z=>z
theorem iQ.of{K:W.Frag}{H:Hp}{a:Addr}{xs:List V}(h:jS K H a xs)(hk:H a ≠ none->K.lookup a=none):iQ K H a xs:=by
 rcases h with h|h
 ·refine .inl ⟨hk ?_,h⟩
  rcases h with h|⟨o,h⟩ <;> rw[h] <;> simp
 ·exact .inr h
end L2
namespace L2
open PySem PySem.Spec PyProof.Rows
mutual
def D.flat:D->Bool
 | .lst _=>false
 | .tup ds=>D.flats ds
 | _=>true
def D.flats:List D->Bool
 | []=>true
 | d :: ds=>d.flat && D.flats ds
end
section
variable {H H':Hp}{l:Addr}{xs:List V}
mutual
theorem aM.flat_but(hl:H l=some (.lst xs))(S:dS l H H'):∀ (d:D)(v:V),d.flat=true->aM H d v->aM H' d v
 | .non,v,_,h=>by unfold aM at h ⊢;exact h
 | .bl b,v,_,h=>by unfold aM at h ⊢;exact h
 | .int i,v,_,h=>by unfold aM at h ⊢;exact h
 | .str x,v,_,h=>by unfold aM at h ⊢;exact h
 | .dict,v,_,h=>by
  unfold aM at h ⊢
  obtain⟨a,kvs,rfl,h⟩:=h
  exact⟨a,kvs,rfl,S _ _ (fun e=>by rw[e,hl] at h;cases h) h⟩
 | .tup ds,v,hf,h=>by
  obtain⟨a,ys,rfl,h,rs⟩:=h.tup_at
  unfold D.flat at hf
  exact .mk_tup (S _ _ (fun e=>by rw[e,hl] at h;cases h) h) (aA.flat_but hl S ds ys hf rs)
 | .lst ds,v,hf,h=>by unfold D.flat at hf;cases hf
theorem aA.flat_but(hl:H l=some (.lst xs))(S:dS l H H'):∀ (ds:List D)(ys:List V),D.flats ds=true->aA H ds ys->aA H' ds ys
 | [],ys,_,h=>by cases h.nil_at;exact .mk_nil
 | d :: ds,ys,hf,h=>by
  obtain⟨y,r,rfl,h1,h2⟩:=h.cons_at
  unfold D.flats at hf
  rw[Bool.and_eq_true] at hf
  exact .mk_cons (aM.flat_but hl S d y hf.1 h1) (aA.flat_but hl S ds r hf.2 h2)
end
end
theorem fW(q:Int × Int):(fr q).flat=true:=by simp[fr,D.flat,D.flats]
theorem gZ:∀(qs:List (Int × Int)),D.flats (qs.map fr)=true
 | []=>by simp[D.flats]
 | q :: qs=>by
  rw[List.map_cons]
  unfold D.flats
  rw[fW,gZ qs]
  rfl
theorem aA.app{H:Hp}:∀{ds es:List D}{xs ys:List V},aA H ds xs->aA H es ys->aA H (ds ++ es) (xs ++ ys)
 | [],es,xs,ys,h,g=>by cases h.nil_at;exact g
 | d :: ds,es,xs,ys,h,g=>by
  obtain⟨x,r,rfl,h1,h2⟩:=h.cons_at
  exact .mk_cons h1 (aA.app h2 g)
theorem aA.snoc{H:Hp}{ds:List D}{xs:List V}{d:D}{x:V}(h:aA H ds xs)(g:aM H d x):aA H (ds ++ [d]) (xs ++ [x]):=h.app (.mk_cons g .mk_nil)
theorem aA.at{H:Hp}{ds:List D}{xs:List V}(h:aA H ds xs) {i:Nat}{d:D}(hd:ds[i]? = some d):∃ x,xs[i]? = some x/\aM H d x:=by
 have hi:i<ds.length:=(List.getElem?_eq_some_iff.mp hd).1
 have hi':i<xs.length:=by rw[h.length];exact hi
 obtain⟨d',e,r⟩:=h.get (List.getElem?_eq_getElem hi')
 rw[hd] at e
 cases e
 exact⟨_,List.getElem?_eq_getElem hi',r⟩
theorem aA.take{H:Hp}:∀{ds:List D}{xs:List V}(n:Nat),aA H ds xs->aA H (ds.take n) (xs.take n)
 | ds,xs,0,h=>by simp;exact .mk_nil
 | [],xs,n+1,h=>by cases h.nil_at;exact .mk_nil
 | d :: ds,xs,n+1,h=>by
  obtain⟨x,r,rfl,h1,h2⟩:=h.cons_at
  exact .mk_cons h1 (h2.take n)
theorem aA.drop{H:Hp}:∀{ds:List D}{xs:List V}(n:Nat),aA H ds xs->aA H (ds.drop n) (xs.drop n)
 | ds,xs,0,h=>h
 | [],xs,n+1,h=>by cases h.nil_at;exact .mk_nil
 | d :: ds,xs,n+1,h=>by
  obtain⟨x,r,rfl,h1,h2⟩:=h.cons_at
  exact h2.drop n
def cG(G:Hp)(a:Addr)(qs:List (Int × Int)):Prop:=∃ xs,G a=some (.lst xs)/\aA G (qs.map fr) xs
section
variable {G G':Hp}{a l:Addr}{qs:List (Int × Int)}{xs:List V}
theorem cG.same(h:cG G a qs)(S:ar G G'):cG G' a qs:=by
 obtain⟨ys,h1,h2⟩:=h
 exact⟨ys,S _ _ h1,h2.same S⟩
theorem cG.but(h:cG G a qs)(hl:G l=some (.lst xs))(hn:a ≠ l)(S:dS l G G'):cG G' a qs:=by
 obtain⟨ys,h1,h2⟩:=h
 exact⟨ys,S _ _ hn h1,aA.flat_but hl S _ _ (gZ qs) h2⟩
theorem cG.rep(h:cG G a qs):aM G (.lst (qs.map fr)) (.ref a):=by
 obtain⟨ys,h1,h2⟩:=h
 exact .mk_lst h1 h2
theorem cG.len(h:cG G a qs):gT G a=some qs.length:=by
 obtain⟨ys,h1,h2⟩:=h
 unfold gT
 rw[h1]
 simp only[h2.length,List.length_map]
theorem cG.ne_st{st:Addr}(h:cG G a qs)(hst:ee G st):a ≠ st:=by
 rintro rfl
 obtain⟨ys,h1,h2⟩:=h
 obtain⟨x,b,h3,_⟩:=hst
 rw[h1] at h3
 cases h3
 cases qs with
 | nil=>cases h2.nil_at
 | cons q qs =>
  obtain⟨y,r,e,h4,h5⟩:=aA.cons_at h2
  cases e
  obtain⟨c,e,_⟩:=h4.fr_at
  cases e
theorem cG.stBut{st:Addr}(h:cG G a qs)(hst:ee G st)(S:dS st G G'):cG G' a qs:=by
 obtain⟨x,b,h3,_⟩:=hst
 exact h.but h3 (h.ne_st ⟨x,b,h3,by assumption⟩) S
theorem ee.but{st:Addr}(h:ee G st)(hl:G l=some (.lst xs))(hn:st ≠ l)(S:dS l G G'):ee G' st:=by
 obtain⟨x,b,h3,h4⟩:=h
 exact⟨x,b,S _ _ hn h3,h4⟩
end
theorem uE{CX:rD}{P:Program}{w:World}{K:W.Frag}{mg:Str->Option Value}{base:Heap}{N:List Str}{qual:Str}{scope:Scope}{f:Addr}{cd:Value}{A:Around}{outer:List Env}{s:Shared}{H:Hp}{E:XK} :
  (eN CX P w K mg base N qual scope f cd A outer s H E).nox.K=K:=rfl
def xV(t u:TS):TS:=fun D σ H=>∃ R:St->Hp->Prop,(∀ σ' H',R σ' H'->u D σ' H')/\t { D with nx:=R } σ H
theorem xV.mk{t u:TS}{D:mf}{σ:St}{H:Hp}(R:St->Hp->Prop)(h1:t { D with nx:=R } σ H)(h2:∀ σ' H',R σ' H'->u D σ' H'):xV t u D σ H:=⟨R,h2,h1⟩
theorem Ay{X:Cx}{st:Stmt}{rest:List Stmt}{t u:TS}(h1:PS X st t)(h2:oF X rest u):oF X (st :: rest) (xV t u):=by
 rintro pins s σ H D I ⟨R,hR,h⟩
 refine wpAny_execs_cons (cn (h1 pins s σ H { D with nx:=R } I h) fun f s1 q=>?_)
 cases f with
 | next =>
  obtain⟨σ',H',I',q⟩:=q
  exact h2 pins s1 σ' H' D I' (hR _ _ q)
 | ret v=>exact q
 | brk=>exact q
 | cont=>exact q
def kH(J:It)(H:Hp)(its:List V):Prop:=(∀ i,i<its.length->J.go i H)/\(∀ i x H',i<its.length->J.yld i H x H'->H'=H/\its[i]? = some x)/\J.stop its.length H
def gd(lo:Int)(n:Nat):List V:=(List.range n).map fun (k:Nat)=>V.int (lo+k)
theorem bK{lo:Int}{n:Nat}{H:Hp}:kH (DE lo n) H (gd lo n):=by
 refine⟨fun i hi=>by show i<n;simpa [gd] using hi,fun i x H' hi y=>⟨y.1,?_⟩,by show n<=(gd lo n).length;simp[gd]⟩
 have hi':i<n:=by simpa [gd] using hi
 rw[y.2]
 simp[gd,hi']
theorem aE{K:W.Frag}{H:Hp}{a:Addr}{xs:List V}(h:vw K H a=some (.lst xs)):kH (EW K a) H xs :=
 ⟨fun i hi=>⟨xs,xs[i],.of (aC h),by simp[hi]⟩,fun i x H' _ y=>⟨y.1,y.2 xs (.of (aC h))⟩,⟨xs,.of (aC h),Nat.le_refl _⟩⟩
theorem aO{J:It}{its:List V}{g:TG}{tb:TS}{D:mf}{σ:St}{H:Hp}(Pv:Nat->St->Hp->Prop)(hl:∀ i σ H,i<=its.length->Pv i σ H->kH J H its)(h0:Pv 0 σ H)
  (hs:∀ i x σ H,i<its.length->its[i]? = some x->Pv i σ H->g x σ H fun σ2 H2=>tb { D with nx:=Pv (i+1),ct:=Pv (i+1),bk:=D.nx } σ2 H2)(hd:∀ σ H,Pv its.length σ H->D.nx σ H):A6 J g tb D σ H:=by
 refine⟨fun i m σ H=>m=its.length - i/\i<=its.length/\Pv i σ H,⟨its.length,by simp,Nat.zero_le _,h0⟩,?_⟩
 rintro i m σ H ⟨rfl,hi,p⟩
 obtain⟨q1,q2,q3⟩:=hl i σ H hi p
 by_cases hlt:i<its.length
 ·refine .inr ⟨q1 i hlt,Pv (i+1),fun σ' H' p'=>⟨its.length - (i+1),by walk_at"o",rfl,hlt,p'⟩,fun x H' y=>?_⟩
  obtain⟨e,y2⟩:=q2 i x H' hlt y
  subst e
  exact hs i x σ _ hlt y2 p
 ·have e:i=its.length:=by walk_at"o"
  subst e
  exact .inl ⟨q3,hd σ H p⟩
def CN(K:W.Frag)(a:Addr)(σr:St)(Pv:List V->Hp->Prop):St->Hp->Prop:=fun σ H=>(∃ y,σ=y :: σr) /\ ∃ xs,vw K H a=some (.lst xs)/\Pv xs H
def Bp(K:W.Frag)(a:Addr)(N:Hp->Prop):V->Hp->Prop:=fun v H4=>∃ xs,vw K H4 a=some (.lst xs)/\xs.length<sizeLine /\ ∀ H5,dS a (vw K H4) (vw K H5)->vw K H5 a=some (.lst (xs ++ [v]))->N H5
theorem aX{K:W.Frag}{J:It}{its:List V}{tif:TT}{te:TE}{a:Addr}{x0:Option V}{σr:St}{H0:Hp}{Q:Hp->Prop}(Pv:Nat->List V->Hp->Prop)
  (hl:∀ i xs H,i<=its.length->vw K H a=some (.lst xs)->Pv i xs H->kH J H its)(ha:vw K H0 a=some (.lst []))(h0:Pv 0 [] H0)
  (hs:∀ i x xs H,i<its.length->its[i]? = some x->vw K H a=some (.lst xs)->Pv i xs H->tif (some x :: σr) H fun b H3=>if b=true then te (some x :: σr) H3 (Bp K a (CN K a σr (Pv (i+1)) (some x :: σr))) else CN K a σr (Pv (i+1)) (some x :: σr) H3)
  (hd:∀ xs H,vw K H a=some (.lst xs)->Pv its.length xs H->Q H):nX K J (ij 0) tif te a (x0 :: σr) H0 Q:=by
 refine⟨fun i m σ H=>m=its.length - i/\i<=its.length/\CN K a σr (Pv i) σ H,⟨its.length,by simp,Nat.zero_le _,⟨_,rfl⟩,_,ha,h0⟩,?_⟩
 rintro i m σ H ⟨rfl,hi,⟨y,rfl⟩,xs,hxs,p⟩
 obtain⟨q1,q2,q3⟩:=hl i xs H hi hxs p
 by_cases hlt:i<its.length
 ·refine .inr ⟨q1 i hlt,CN K a σr (Pv (i+1)),fun σ' H' p'=>⟨its.length - (i+1),by walk_at"o",rfl,hlt,p'⟩,fun x H' y=>?_⟩
  obtain⟨e,y2⟩:=q2 i x H' hlt y
  subst e
  exact hs i x xs _ hlt y2 hxs p
 ·have e:i=its.length:=by walk_at"o"
  subst e
  exact .inl ⟨q3,hd xs H hxs p⟩
theorem Bp.mk{K:W.Frag}{a:Addr}{σr:St}{Pv:List V->Hp->Prop}{x:Option V}{v:V}{H:Hp}{xs:List V}(h:vw K H a=some (.lst xs))(hz:xs.length<sizeLine)
  (q:∀ H5,dS a (vw K H) (vw K H5)->vw K H5 a=some (.lst (xs ++ [v]))->Pv (xs ++ [v]) H5):Bp K a (CN K a σr Pv (x :: σr)) v H:=⟨xs,h,hz,fun H5 B h5=>⟨⟨_,rfl⟩,_,h5,q H5 B h5⟩⟩
theorem CN.mk{K:W.Frag}{a:Addr}{σr:St}{Pv:List V->Hp->Prop}{x:Option V}{H:Hp}{xs:List V}(h:vw K H a=some (.lst xs))(q:Pv xs H):CN K a σr Pv (x :: σr) H:=⟨⟨_,rfl⟩,_,h,q⟩
theorem gH{lo:Int}{n i:Nat}{x:V}(h:(gd lo n)[i]? = some x):i<n/\x = .int (lo+i):=by
 have hi:i<n:=by simpa [gd] using (List.getElem?_eq_some_iff.mp h).1
 simp[gd,hi] at h
 exact⟨hi,h.symm⟩
theorem cJ{lo:Int}{n:Nat}:(gd lo n).length=n:=by simp[gd]
theorem sQ{n d:Nat}{k:Nat}(h:k<=n):HT.sIx n d (some (k:Int))=k:=by
 unfold HT.sIx
 simp only[Int.toNat_natCast]
 rw[if_neg (by walk_at"o")]
 walk_at"o"
theorem rR{xs:List V}{k:Nat}(h:k<=xs.length):kX xs none (some (k:Int))=xs.take k:=by
 unfold kX
 rw[sQ h]
 simp[HT.sIx]
theorem iz{α:Type}{xs:List α}{x:α}(h:xs.getLast? = some x):my xs (-1)=some x:=by
 obtain⟨ys,rfl⟩:=List.getLast?_eq_some_iff.mp h
 exact wU ys x
def Ew(K:W.Frag)(neg:Bool):R2:=fun x y H Q=>∃ p q,x = .ref p/\y = .ref q /\ ∃ xs,vw K H p=some (.lst xs)/\vw K H q=some (.lst [])/\Q (.bl (if neg then !xs.isEmpty else xs.isEmpty)) H
section
variable {X:Cx}
end
theorem cF.u64{k:Nat}{A:Around}(r:cF k A):A.units+64<cLine:=by have:=r.un;walk_at"o"
theorem vI(p q:Int × Int):vq (fr p) (fr q)=decide (p=q):=by
 unfold vq fr D.py D.pys D.pys D.pys D.py
 simp only[PyData.eqv,PyData.eqvAll]
 rw[Bool.eq_iff_iff]
 simp[Prod.ext_iff]
theorem rZ(q:Int × Int):(fr q).cmp:=by
 unfold D.cmp fr D.py D.pys D.pys D.pys D.py
 exact⟨rfl,Nat.le_of_ble_eq_true rfl⟩
theorem aT{H:Hp}{a:Addr}{i j:Int}(h:H a=some (.tup [.int i,.int j])):aM H (fr (i,j)) (.ref a):=.mk_tup h (.mk_cons (.mk_int _) (.mk_cons (.mk_int _) .mk_nil))
end L2
namespace L2
open PySem PySem.Spec PyProof.Rows
theorem aA.repl{H:Hp}{d:D}{x:V}(h:aM H d x):∀ n,aA H (List.replicate n d) (List.replicate n x)
 | 0=>.mk_nil
 | n+1=>.mk_cons h (aA.repl h n)
theorem ar.rfl{H:Hp}:ar H H:=fun _ _ z=>z
section
variable {K:W.Frag}{σ:St}{H0:Hp}{t u:TE}{ta:TA}{b c:Bool}{m n:Nat}
end
end L2
set_option autoImplicit true
namespace L2
open PySem PySem.Spec PyProof.Rows
structure QE (X:Cx)(e:Expr)(t:TE):Prop where
 h:PE X e t
structure QT (X:Cx)(e:Expr)(t:TT):Prop where
 h:PT X e t
structure QW (X:Cx)(e:Expr)(t:TT):Prop where
 h:PW X e t
structure QA (X:Cx)(e:List Expr)(t:TA):Prop where
 h:PA X e t
structure QS (X:Cx)(e:Stmt)(t:TS):Prop where
 h:PS X e t
structure qP (X:Cx)(e:List Stmt)(t:TS):Prop where
 h:oF X e t
structure QG (X:Cx)(e:Expr)(t:TG):Prop where
 h:PG X e t
structure EX (X:Cx)(e:List Expr)(t:vC):Prop where
 h:DD X e t
structure QF (X:Cx)(e:List Expr)(t:TT):Prop where
 h:PF X e t
structure QO (X:Cx)(e:Option Expr)(t:TO):Prop where
 h:PO X e t
structure QI (X:Cx)(tg e:Expr)(t:TI):Prop where
 h:PI X tg e t
section
variable {X:Cx}{pos p p2 apos cpos pos':Pos}{a b e o l:Expr}{es rest:List Expr}{te ta tb to:TE}{tA tB':TT}{st:Stmt}{rest':List Stmt}{lo hi:Option Expr}{id:String}
theorem qj {b j pos}:QE X (.Constant (.bool b) j pos) (tC (.bl b)):=⟨Ev ⟩
theorem ae {i j pos}:QE X (.Constant (.int i) j pos) (tC (.int i)):=⟨Dj ⟩
theorem dY {j pos}:QE X (.Constant .none j pos) (tC .non):=⟨C7 ⟩
theorem dJ {x j pos}:QE X (.Constant (.str x) j pos) (tC (.str x)):=⟨Cr ⟩
theorem fi{x:Str}{v:V}{u:Value}{pos:Pos}(hg:Gl X x)(hm:X.mg x=some u)(r:aS v u)(hd:(x == ("__debug__" : Str))=false:=by decide):QE X (.Name x pos) (tC v):=⟨zi (hg:=hg) (hm:=hm) (r:=r) (hd:=hd)⟩
theorem tJ{x:Str}{v:V}{u:Value}{pos:Pos}(hg:Gl X x)(hm:X.mg x=none)(hv:bootBuiltins x=some u)(r:aS v u)(hn:x ≠ "__name__":=by decide) (hd:(x == ("__debug__" : Str))=false:=by decide):QE X (.Name x pos) (tC v):=⟨Ak (hg:=hg) (hm:=hm) (hv:=hv) (r:=r) (hn:=hn) (hd:=hd)⟩
theorem ap{op:Operator}{r:R2}(ho:eD X (binaryOp op) r)(ha:QE X a ta)(hb:QE X b tb):QE X (.BinOp a op b pos) (Ae r ta tb):=⟨Et (ho:=ho) (ha:=ha.h) (hb:=hb.h)⟩
theorem fS{op:UnaryOp}{r:V->Hp->VK->Prop}(ho:ET X (unaryOp op) r)(ha:QE X a ta):QE X (.UnaryOp op a pos) (Fe r ta):=⟨EC (ho:=ho) (ha:=ha.h)⟩
theorem Em(ha:QE X a ta)(hb:QE X (.BoolOp .Or (b :: rest) pos) tb):QE X (.BoolOp .Or (a :: b :: rest) pos) (yJ ta tb):=⟨EL (ha:=ha.h) (hb:=hb.h)⟩
theorem CP {op}{t:TE}(h:QE X a t):QE X (.BoolOp op [a] pos) t:=⟨Cs (h:=h.h)⟩
theorem i8{op:CmpOp}{r:R2}(ho:eD X (compareOp op) r)(ha:QE X a ta)(hb:QE X b tb)(hm:behindInMarks op b=false):QE X (.Compare a [op] [b] pos) (Ae r ta tb):=⟨Ad (ho:=ho) (ha:=ha.h) (hb:=hb.h) (hm:=hm)⟩
theorem eP{c:Expr}(hc:QT X c tA)(ha:QE X a ta)(hb:QE X b tb):QE X (.IfExp c a b pos) (E7 tA ta tb):=⟨xN (hc:=hc.h) (ha:=ha.h) (hb:=hb.h)⟩
theorem aD {x1}(h:QA X es t):QE X (.Tuple es x1 pos) (mV X.K t):=⟨zT (h:=h.h)⟩
theorem aK(h:QA X es t):QE X (.List es pos) (pP X.K t):=⟨zC (h:=h.h)⟩
theorem lY{r:V->Option Int->Option Int->Hp->VK->Prop}(hr:yC X r)(he:QE X e te)(hl:QO X lo tl)(hu:QO X hi th):QE X (.Subscript e (.Slice lo hi none p2) pos) (Fy r te tl th):=⟨vP (hr:=hr) (he:=he.h) (hl:=hl.h) (hu:=hu.h)⟩
theorem ph  : QO X none nK:=⟨Ah ⟩
theorem oJ(h:QE X e te):QO X (some e) (tR te):=⟨zy (h:=h.h)⟩
theorem ay{r:R2}(hr:qN X r)(ha:QE X a ta)(hb:QE X b tb)(hs:uc b):QE X (.Subscript a b pos) (Ae r ta tb):=⟨D8 (hr:=hr) (ha:=ha.h) (hb:=hb.h) (hs:=hs)⟩
theorem aj(C:bU X.prog X.w X.K X.mg X.base x ps k sp)(hr:cF k X.A)(hg:Gl X x)(ha:QA X (e :: es) t)(hdb:(x == ("__debug__" : Str))=false:=by decide) (he:starEach (e :: es) X.env=(false,eval e X.env) :: starEach es X.env:=by rfl)(hpl:(backTo pos (starEach es X.env)).any (·.1)=false:=by rfl) :
  QE X (.Call (.Name x p) (e :: es) [] pos) (Df sp t):=⟨Du (C:=C) (hr:=hr) (hg:=hg) (ha:=ha.h) (hdb:=hdb) (he:=he) (hpl:=hpl)⟩
theorem au(hc:dE X (.builtin id) r)(hg:Gl X x)(hm:X.mg x=none)(hv:bootBuiltins x=some (.builtin id))(ha:QA X (e :: es) t)(hn:x ≠ "__name__":=by decide) (hdb:(x == ("__debug__" : Str))=false:=by decide) (he:starEach (e :: es) X.env=(false,eval e X.env) :: starEach es X.env:=by rfl)(hpl:(backTo pos (starEach es X.env)).any (·.1)=false:=by rfl):QE X (.Call (.Name x p) (e :: es) [] pos) (yG r t):=⟨yq (hc:=hc) (hg:=hg) (hm:=hm) (hv:=hv) (ha:=ha.h) (hn:=hn) (hdb:=hdb) (he:=he) (hpl:=hpl)⟩
theorem mB(hc:dE X (.type T) r)(hg:Gl X x)(hm:X.mg x=none)(hv:bootBuiltins x=some (.type T))(ha:QA X (e :: es) t)(hn:x ≠ "__name__":=by decide) (hdb:(x == ("__debug__" : Str))=false:=by decide) (he:starEach (e :: es) X.env=(false,eval e X.env) :: starEach es X.env:=by rfl)(hpl:(backTo pos (starEach es X.env)).any (·.1)=false:=by rfl):QE X (.Call (.Name x p) (e :: es) [] pos) (yG r t):=⟨vy (hc:=hc) (hg:=hg) (hm:=hm) (hv:=hv) (ha:=ha.h) (hn:=hn) (hdb:=hdb) (he:=he) (hpl:=hpl)⟩
theorem nF(pa:PlainAttrs T)(slot:Slot T name id)(hty:typeOf (.builtin id)=pure (.type "method_descriptor")) (hm:EZ X id r)(ho:QE X o to)(ha:QA X (e :: es) t)(hbase:attributeBase o name X.env (eval o X.env)=eval o X.env:=by rfl)(hfew:((backTo cpos (starEach (e :: es) X.env)).all (fun x=>!x.1) && (backToKw cpos (keywordEach [] X.env)).all (fun x=>x.1.isSome)
   && decide ((e :: es).length+([]:List Keyword).length+(if ([]:List Keyword).isEmpty then 0 else 1)<30))=true:=by rfl) (hline:(apos.endLine == cpos.line)=true:=by rfl)(hs:starEach (e :: es) X.env=(false,eval e X.env) :: starEach es X.env:=by rfl)(hplain:(backTo cpos (starEach es X.env)).any (·.1)=false:=by rfl) :
  QE X (.Call (.Attribute o name apos) (e :: es) [] cpos) (Fw X.K T r to t):=⟨EN (pa:=pa) (slot:=slot) (hty:=hty) (hm:=hm) (ho:=ho.h) (ha:=ha.h) (hbase:=hbase) (hfew:=hfew) (hline:=hline) (hs:=hs) (hplain:=hplain)⟩
theorem BF(pa:PlainAttrs T)(slot:Slot T name id)(hty:typeOf (.builtin id)=pure (.type "method_descriptor")) (hm:EZ X id r)(ho:QE X o to)(hbase:attributeBase o name X.env (eval o X.env)=eval o X.env:=by rfl)(hline:(apos.endLine == cpos.line)=true:=by rfl):QE X (.Call (.Attribute o name apos) [] [] cpos) (BD X.K T r to):=⟨CA (pa:=pa) (slot:=slot) (hty:=hty) (hm:=hm) (ho:=ho.h) (hbase:=hbase) (hline:=hline)⟩
theorem ac  : QA X [] Bz:=⟨Bn ⟩
theorem aa(ha:QE X e te)(hr:QA X es t)(hs:starEach (e :: es) X.env=(false,eval e X.env) :: starEach es X.env:=by rfl):QA X (e :: es) (yh te t):=⟨AK (ha:=ha.h) (hr:=hr.h) (hs:=hs)⟩
theorem aF{op:CmpOp}{r:R2}(ho:eD X (compareOp op) r)(ha:QE X a ta)(hb:QE X b tb)(hm:behindInMarks op b=false):QT X (.Compare a [op] [b] pos) (sL (Ae r ta tb)):=⟨yY (ho:=ho) (ha:=ha.h) (hb:=hb.h) (hm:=hm)⟩
theorem jx(ha:QT X a tA):QT X (.UnaryOp .Not a pos) (BM tA):=⟨Cq (ha:=ha.h)⟩
theorem QW.pt{X:Cx}{e:Expr}{t:TT}(h:QW X e t):QT X e t:=⟨PW.pt (h:=h.h)⟩
theorem gE(ha:QT X a tA):QW X (.BoolOp .And [a] pos) tA:=⟨zh (ha:=ha.h)⟩
theorem gF(ha:QT X a tA)(hb:QW X (.BoolOp .And (b :: rest) pos) tB'):QW X (.BoolOp .And (a :: b :: rest) pos) (By tA tB'):=⟨BR (ha:=ha.h) (hb:=hb.h)⟩
theorem yk(ha:QT X a tA):QW X (.BoolOp .Or [a] pos) tA:=⟨Do (ha:=ha.h)⟩
theorem Bj(ha:QT X a tA)(hb:QW X (.BoolOp .Or (b :: rest) pos) tB'):QW X (.BoolOp .Or (a :: b :: rest) pos) (E9 tA tB'):=⟨EG (ha:=ha.h) (hb:=hb.h)⟩
theorem cX(ha:QE X a ta)(he:∀ whole,isTrue a X.env whole=(do let v <- whole;standAt a.pos;holding [v] (truthy v))) :
  QT X a (fun σ H Q=>ta σ H fun x H'=>∃ k,su X.K x H' k/\Q k H'):=⟨xc (ha:=ha.h) (he:=he)⟩
theorem jB{e:Expr}{t:TE}(h:QE X e t)(he:∀ whole,isTrue e X.env whole=(do let v <- whole;standAt e.pos;holding [v] (truthy v)):=by intro _;rfl):QT X e (tB t):=⟨BO (h:=h.h) (he:=he)⟩
theorem ak{i:Nat}{x:Str}(hN:X.N.Nodup)(hi:X.N[i]? = some x)(hx:yA X.env.scope x)(hf:X.fn x=true\/X.env.scope.names.lookup x=some .local:=by first|exact .inl rfl|exact .inr rfl|assumption):QG X (.Name x pos) (ij i):=⟨Am (hN:=hN) (hi:=hi) (hx:=hx) (hf:=hf)⟩
theorem eJ{es:List Expr}{k:Nat}{t:vC}{n:Nat}{pos:Pos}(hc:X.calm=true)(h:EX X es t)(hn:(assignEach es X.env).length=n:=by rfl)(hst:(assignEach es X.env).findIdx? (·.1)=none:=by rfl):QG X (.Tuple es k pos) (pR X.K n t):=⟨At (hc:=hc) (h:=h.h) (hn:=hn) (hst:=hst)⟩
theorem eH  : EX X [] yv:=⟨Aw ⟩
theorem aI{e:Expr}{es:List Expr}{t:TG}{u:vC}(h1:QG X e t)(h2:EX X es u)(hs:(assignEach (e :: es) X.env).map (·.2)=assign e X.env :: (assignEach es X.env).map (·.2):=by rfl):EX X (e :: es) (m4 t u):=⟨v7 (h1:=h1.h) (h2:=h2.h) (hs:=hs)⟩
theorem oB{o i:Expr}{to ti:TE}{t:qU}(ho:QE X o to)(hi:QE X i ti)(hs:uT X t)(ha:∀ v,assign (.Subscript o i pos) X.env v=(do
   let ov <- holding [v] (eval o X.env)
   let iv <- holding [v,ov] (eval i X.env)
   standAt pos
   holding [v,ov,iv] (setItem ov iv v)
   release [v,ov,iv] []):=by intro _;rfl):QG X (.Subscript o i pos) (CY to ti t):=⟨Cp (ho:=ho.h) (hi:=hi.h) (hs:=hs) (ha:=ha)⟩
theorem cT{a:Expr}{ta:TA}{p pos:Pos}(hg:Gl X "range") (hm:X.mg "range" = none) (ha:QA X [a] ta)(hs:starEach [a] X.env=[(false,eval a X.env)]:=by rfl):QI X tg (.Call (.Name "range" p) [a] [] pos) (tV ta):=⟨vg (hg:=hg) (hm:=hm) (ha:=ha.h) (hs:=hs)⟩
theorem uK{a b:Expr}{ta:TA}{p pos:Pos}(hg:Gl X "range") (hm:X.mg "range" = none) (ha:QA X [a,b] ta)(hs:starEach [a,b] X.env=[(false,eval a X.env),(false,eval b X.env)]:=by rfl)(hs2:starEach [b] X.env=[(false,eval b X.env)]:=by rfl) :
  QI X tg (.Call (.Name "range" p) [a,b] [] pos) (vY ta):=⟨uJ (hg:=hg) (hm:=hm) (ha:=ha.h) (hs:=hs) (hs2:=hs2)⟩
theorem bz{l:Expr}{tl:TE}(hl:QE X l tl):QI X tg l (ul X.K tl):=⟨zE (hl:=hl.h)⟩
theorem aB(he:QE X e te):QS X (.Return (some e) pos) (BW te):=⟨Dx (he:=he.h)⟩
theorem gK(he:QE X e te)(hs:swapsWith e none pos.line X.env=pure false:=by rfl):QS X (.Expr e pos) (xu te):=⟨zm (he:=he.h) (hs:=hs)⟩
theorem cW{c:Expr}{a b:List Stmt}{tc:TT}(hc:QT X c tc)(ha:qP X a t)(hb:qP X b u):QS X (.If c a b pos) (BN tc t u):=⟨EH (hc:=hc.h) (ha:=ha.h) (hb:=hb.h)⟩
theorem gf{c:Expr}{body:List Stmt}{tc:TT}{tb:TS}(hp:PassesOwn (model X.prog X.w) X.A X.env X.xe)(hc:QT X c tc)(hb:qP X body tb):QS X (.While c body [] pos) (xi tc tb):=⟨xU (hp:=hp) (hc:=hc.h) (hb:=hb.h)⟩
theorem cL{iter:Expr}{body:List Stmt}{wi:TI}{g:TG}{tb:TS}{pos:Pos}(hp:PassesOwn (model X.prog X.w) X.A X.env X.xe)(hc:X.calm=true)(hi:QI X tg iter wi)(hg:QG X tg g)(hb:qP X body tb)(hs:∀ x,foldedSetIterable iter X.env x=pure x:=by intro _;rfl):QS X (.For tg iter body [] pos) (Ca wi g tb):=⟨Dv (hp:=hp) (hc:=hc) (hi:=hi.h) (hg:=hg.h) (hb:=hb.h) (hs:=hs)⟩
theorem ao{i:Nat}{x:Str}{e:Expr}{te:TE}{pos':Pos}(hN:X.N.Nodup)(hi:X.N[i]? = some x)(hx:yA X.env.scope x)(he:QE X e te)(hs:swapsWith e (some (.Name x pos')) pos.line X.env=pure false:=by rfl)(hf:X.fn x=true\/X.env.scope.names.lookup x=some .local:=by first|exact .inl rfl|exact .inr rfl|assumption) :
  QS X (.Assign [.Name x pos'] e pos) (rg te (ij i)):=⟨BV (hN:=hN) (hi:=hi) (hx:=hx) (he:=he.h) (hs:=hs) (hf:=hf)⟩
theorem oO{i j:Nat}{x y:Str}{a b:Expr}{ta:TA}{px py pt:Pos} {kt k2 pt2}(hc:X.calm=true)(hN:X.N.Nodup)(hi:X.N[i]? = some x)(hj:X.N[j]? = some y)(hij:i ≠ j)(hx:X.env.scope.names.lookup x=some .local)(hy:X.env.scope.names.lookup y=some .local)(ha:QA X [a,b] ta)(hw:swappedStores [.Tuple [.Name x px,.Name y py] kt pt] (.Tuple [a,b] k2 pt2) X.env=pure (some [x,y]))(hs:swapsWithSole [.Tuple [.Name x px,.Name y py] kt pt] (.Tuple [a,b] k2 pt2) pos.line X.env=pure false:=by rfl) :
  QS X (.Assign [.Tuple [.Name x px,.Name y py] kt pt] (.Tuple [a,b] k2 pt2) pos) (Aj i j ta):=⟨CZ (hc:=hc) (hN:=hN) (hi:=hi) (hj:=hj) (hij:=hij) (hx:=hx) (hy:=hy) (ha:=ha.h) (hw:=hw) (hs:=hs)⟩
theorem gz{tg e:Expr}{te:TE}{g:TG}(he:QE X e te)(hg:QG X tg g)(hs:swapsWithSole [tg] e pos.line X.env=pure false:=by rfl)(hw:swappedStores [tg] e X.env=pure none:=by rfl)(h1:(assignEach [tg] X.env).map (·.2)=[assign tg X.env]:=by rfl):QS X (.Assign [tg] e pos) (rg te g):=⟨BY (he:=he.h) (hg:=hg.h) (hs:=hs) (hw:=hw) (h1:=h1)⟩
theorem hJ{i:Nat}{x:Str}{e:Expr}{te:TE}{op:Operator}{ti:yB}{pos':Pos}(hN:X.N.Nodup)(hi:X.N[i]? = some x)(hx:yA X.env.scope x)(he:QE X e te)(ho:Bh X op ti)(hf:X.fn x=true\/X.env.scope.names.lookup x=some .local:=by first|exact .inl rfl|exact .inr rfl|assumption) :
  QS X (.AugAssign (.Name x pos') op e pos) (Dz i te ti):=⟨CJ (hN:=hN) (hi:=hi) (hx:=hx) (he:=he.h) (ho:=ho) (hf:=hf)⟩
theorem Ar{o i e:Expr}{to ti te:TE}{tget:V->V->Hp->VK->Prop}{tip:yB}{tset:qU}{op:Operator}{tpos:Pos}(ho:QE X o to)(hi:QE X i ti)(hg:Bu X tget)(he:QE X e te)(hp:Bh X op tip)(hs:uT X tset)(ha:∀ ov iv new,augStore i ov iv new=(do holding [new,ov,iv] (setItem ov iv new);release [new,ov,iv] [];pure .next):=by intros;rfl):QS X (.AugAssign (.Subscript o i tpos) op e pos) (yj to ti te tget tip tset):=⟨AJ (ho:=ho.h) (hi:=hi.h) (hg:=hg) (he:=he.h) (hp:=hp) (hs:=hs) (ha:=ha)⟩
theorem bj  : qP X [] wz:=⟨zf ⟩
theorem ah(h1:QS X st t):qP X [st] t:=⟨Az (h1:=h1.h)⟩
theorem af(h1:QS X st t)(h2:qP X rest' u):qP X (st :: rest') (aQ t u):=⟨vM (h1:=h1.h) (h2:=h2.h)⟩
theorem zg{X:Cx}{st:Stmt}{rest':List Stmt}{t u:TS}(h1:QS X st t)(h2:qP X rest' u):qP X (st :: rest') (xV t u):=⟨Ay (h1:=h1.h) (h2:=h2.h)⟩
theorem eY{X:Cx}:QF X [] Ct:=⟨Cg ⟩
theorem rP{X:Cx}{c:Expr}{t:TT}(h:QT X c t):QF X [c] t:=⟨C1 (h:=h.h)⟩
theorem qv(i:Nat){x:Str}{pos:Pos}(hN:X.N[i]? = some x:=by rfl)(hv:Dg X.env.scope x:=by first|exact Or.inl rfl|exact Or.inr (Or.inl rfl)|exact Or.inr (Or.inr rfl))(hd:(x == ("__debug__" : Str))=false:=by decide) (hcd:(x == ("__classdict__" : Str))=false:=by decide):QE X (.Name x pos) (zQ i):=⟨pv (i:=i) (hN:=hN) (hv:=hv) (hd:=hd) (hcd:=hcd)⟩
theorem dI{tg iter elt:Expr}{ifs:List Expr}{scope:Scope}{wi:TI}{g:TG}{tif:TT}{te:TE}{cl:List (Str × Addr)}{own outs:List Str}{ixs:List Nat}
  (hc:X.calm=true)(hi:QI X tg iter wi)(hclos:closureFor scope X.env=pure cl)(S:lJ X scope cl own outs ixs)
  (hb:∀ C s H ex,QG (j6 X scope cl (own ++ outs) C s H ex) tg g/\QF (j6 X scope cl (own ++ outs) C s H ex) ifs tif/\QE (j6 X scope cl (own ++ outs) C s H ex) elt te)
  (hs:∀ x,foldedSetIterable iter X.env x=pure x:=by intro _;rfl):QE X (.ListComp elt [⟨tg,iter,ifs,0⟩] scope pos) (qG X.K wi own.length ixs g tif te) :=
 ⟨AB hc hi.h hclos S (fun C s H ex=>⟨(hb C s H ex).1.h,(hb C s H ex).2.1.h,(hb C s H ex).2.2.h⟩) hs⟩
theorem kB{tg iter elt:Expr}{ifs:List Expr}{scope:Scope}{spos py:Pos}{y:Str}{i:Nat}{wi:TI}{g:TG}{tif:TT}{te:TE}{cl:List (Str × Addr)}{own outs:List Str}{ixs:List Nat}
  (hN:X.N.Nodup)(hy:X.N[i]? = some y)(hx:yA X.env.scope y)(hc:X.calm=true)(hi:QI X tg iter wi)(hclos:closureFor scope X.env=pure cl)(S:lJ X scope cl own outs ixs)
  (hb:∀ C s H ex,QG (j6 X scope cl (own ++ outs) C s H ex) tg g/\QF (j6 X scope cl (own ++ outs) C s H ex) ifs tif/\QE (j6 X scope cl (own ++ outs) C s H ex) elt te)
  (hsw:swapsWith (.ListComp elt [⟨tg,iter,ifs,0⟩] scope pos) (some (.Name y py)) spos.line X.env=pure true:=by rfl)
  (hs:∀ x,foldedSetIterable iter X.env x=pure x:=by intro _;rfl)(hf:X.fn y=true\/X.env.scope.names.lookup y=some .local:=by first|exact .inl rfl|exact .inr rfl|assumption) :
  QS X (.Assign [.Name y py] (.ListComp elt [⟨tg,iter,ifs,0⟩] scope pos) spos) (rg (qG X.K wi own.length ixs g tif te) (ij i)) :=
 ⟨zJ hN hy hx hc hi.h hclos S (fun C s H ex=>⟨(hb C s H ex).1.h,(hb C s H ex).2.1.h,(hb C s H ex).2.2.h⟩) hsw hs hf⟩
end
section
variable {P:Program}{w:World}{K:W.Frag}{mg:Str->Option Value}{base:Heap}
theorem eE.okQ{x qual:Str}{st:Stmt}{f:Addr}{fd:FuncData}{N ps:List Str}{k:Nat}{sp:Sp}(F:eE K x qual st f fd)(S:av N ps (ag st))(len:∀ vs H Q E,sp vs H Q E->vs.length=ps.length)
  (hbody:∀ (cdv:Value)(A:Around)(outer:List Env)(s:Shared)(H:Hp)(vs:List V)(Q:VK)(E:XK),cF k (A.deeper (envOfC qual (ag st) s.heap.objs.size f cdv))->sp vs H Q E ->
   ∃ t,qP (eN dZ P w K mg base N qual (ag st) f cdv A outer s H E).nox (aq st) t/\t { nx:=fun _ H'=>Q .non H',rt:=Q } (start N vs) H):bB P w K mg base dZ (k+1) f fd ps sp :=
 F.ok S len fun cdv A outer s H vs Q E hr h=>(hbody cdv A outer s H vs Q E hr h).imp fun t z=>⟨z.1.h,z.2⟩
end
end L2
namespace L2
open PySem PySem.Spec PyProof.Rows
section
variable {X:Cx}{pins:List (Addr × Obj)}{σ:St}{H:Hp}{s:Shared}{h':Heap}
end
end L2
namespace L2
open PySem PySem.Spec PyProof.Rows
def Bq(n:Nat)(q:Int × Int):Prop:=Bt n q.1/\Bt n q.2
theorem Bq.mono{m n:Nat}{q:Int × Int}(h:Bq m q)(hl:m<=n):Bq n q:=⟨h.1.mono hl,h.2.mono hl⟩
def yE(p q:Int × Int):Bool:=decide (p.1*q.2<q.1*p.2)
def mr(p q:Int × Int):Int × Int:=lo (p.1*q.2+q.1*p.2) (p.2*q.2)
theorem tD{a b:Int}{n:Nat}(hb:b ≠ 0)(h1:Bt n a)(h2:Bt n b):Bq n (lo a b):=by
 have e1:=fX (a:=a) hb
 have e2:=fo (a:=a) hb
 have hl:0<(lg a b).natAbs:=by have:=ym (a:=a) hb;walk_at"o"
 constructor
 ·unfold Bt at *
  have:=Int.natAbs_mul (lo a b).1 (lg a b)
  rw[e1] at this
  have:=Nat.le_mul_of_pos_right (lo a b).1.natAbs hl
  walk_at"o"
 ·unfold Bt at *
  have:=Int.natAbs_mul (lo a b).2 (lg a b)
  rw[e2] at this
  have:=Nat.le_mul_of_pos_right (lo a b).2.natAbs hl
  walk_at"o"
theorem tm{p q:Int × Int}(hp:Fq p)(hq:Fq q):Fq (mr p q):=m5 (by have:=Int.mul_pos hp.1 hq.1;walk_at"o")
theorem zV{p q:Int × Int}{m n:Nat}(hp:Fq p)(hq:Fq q)(h1:Bq m p)(h2:Bq n q):Bq (m+n+1) (mr p q):=by
 refine tD (by have:=Int.mul_pos hp.1 hq.1;walk_at"o") ?_ ?_
 ·have:=(h1.1.mul h2.2).add (h2.1.mul h1.2)
  exact this.mono (by walk_at"o")
 ·exact (h1.2.mul h2.2).mono (by walk_at"o")
def fZ(G:Hp)(a:Addr)(ds:List D):Prop:=∃ xs,G a=some (.lst xs)/\aA G ds xs
section
variable {G G':Hp}{a l:Addr}{ds:List D}{xs:List V}
theorem fZ.same(h:fZ G a ds)(S:ar G G'):fZ G' a ds:=by
 obtain⟨ys,h1,h2⟩:=h
 exact⟨ys,S _ _ h1,h2.same S⟩
theorem fZ.but(h:fZ G a ds)(hf:D.flats ds=true)(hl:G l=some (.lst xs))(hn:a ≠ l)(S:dS l G G'):fZ G' a ds:=by
 obtain⟨ys,h1,h2⟩:=h
 exact⟨ys,S _ _ hn h1,aA.flat_but hl S _ _ hf h2⟩
theorem fZ.ne_st{st:Addr}(h:fZ G a ds)(hd:∀ i b,ds ≠ [.int i,.bl b])(hst:ee G st):a ≠ st:=by
 rintro rfl
 obtain⟨ys,h1,h2⟩:=h
 obtain⟨x,b,h3,_⟩:=hst
 rw[h1] at h3
 cases h3
 exact hd _ _ (aM.lst_st h2)
theorem fZ.stBut{st:Addr}(h:fZ G a ds)(hf:D.flats ds=true)(hd:∀ i b,ds ≠ [.int i,.bl b])(hst:ee G st)(S:dS st G G'):fZ G' a ds:=by
 obtain⟨x,b,h3,h4⟩:=id hst
 exact h.but hf h3 (h.ne_st hd hst) S
end
theorem jM{K:W.Frag}{H:Hp}{p:Addr}{xs:List V}(h:vw K H p=some (.lst xs)):DI K "list" (.ref p) H:=.inl ⟨rfl,xs,.of (aC h)⟩
theorem fZ.ty{K:W.Frag}{H:Hp}{p:Addr}{ds:List D}(h:fZ (vw K H) p ds):DI K "list" (.ref p) H:=by
 obtain⟨xs,h,_⟩:=h
 exact jM h
abbrev Fg:=(Int × Int) × (Int × Int)
end L2
namespace L2
open PySem PySem.Spec PyProof.Rows
section
variable {K:W.Frag}{σ:St}{H0:Hp}{t u:TE}{ta:TA}{b c:Bool}{m n:Nat}
variable {st:Addr}
end
end L2
namespace L2
open PySem PySem.Spec PyProof.Rows
section
variable {prog:Program}{w:World}{A:Around}{E:Value->Shared->Prop}{s:Shared}
end
section
variable {prog:Program}{w:World}{A:Around}{E:Value->Shared->Prop}{s:Shared}{z TI TO i1 i2:Addr}{f1 f2:List Addr}{n1 n2 k:Nat}{P1 P2:Nat->Value->Prop}{T1 T2:Nat->Heap->Prop}{a b:Value}
end
end L2
namespace L2
open PySem PySem.Spec PyProof.Rows
section
variable {prog:Program}{w:World}{A:Around}{E:Value->Shared->Prop}{s:Shared}{z TI TO i1 i2 l1 l2:Addr}{k:Nat}{b1 b2:Bool}{u1 u2:Array Value}{a b:Value}
end
end L2
namespace L2
open PySem PySem.Spec PyProof.Rows
section
variable {prog:Program}{w:World}{A:Around}{E:Value->Shared->Prop}{s:Shared}
end
section
variable {prog:Program}{w:World}{A:Around}{E:Value->Shared->Prop}{s:Shared}
end
end L2
namespace L2
open PySem PySem.Spec PyProof.Rows
section
variable {X:Cx}{pins:List (Addr × Obj)}{σ:St}{H:Hp}{s:Shared}
end
def Ec(K:W.Frag)(a:Addr)(σr:St)(Pv:List V->Hp->Prop):St->Hp->Prop:=fun σ H=>(∃ y z,σ=y :: z :: σr) /\ ∃ xs,vw K H a=some (.lst xs)/\Pv xs H
theorem Bp.mk2{K:W.Frag}{a:Addr}{σr:St}{Pv:List V->Hp->Prop}{x y:Option V}{v:V}{H:Hp}{xs:List V}(h:vw K H a=some (.lst xs))(hz:xs.length<sizeLine)
  (q:∀ H5,dS a (vw K H) (vw K H5)->vw K H5 a=some (.lst (xs ++ [v]))->Pv (xs ++ [v]) H5):Bp K a (Ec K a σr Pv (x :: y :: σr)) v H:=⟨xs,h,hz,fun H5 B h5=>⟨⟨_,_,rfl⟩,_,h5,q H5 B h5⟩⟩
end L2
namespace L2
open PySem PySem.Spec PyProof.Rows
def wv(q:Int × Int):Rat:=(q.1:Rat) / (q.2:Rat)
theorem az{b:Int}(h:b ≠ 0):(b:Rat) ≠ 0:=by simpa using h
theorem ma{a b:Int}(hb:b ≠ 0):wv (lo a b)=(a:Rat) / (b:Rat):=by
 have e1:=fX (a:=a) hb
 have e2:=fo (a:=a) hb
 have hg:=az (ym (a:=a) hb)
 have hd:(lo a b).2 ≠ 0:=by have:=(m5 (a:=a) hb).1;walk_at"o"
 have hd':=az hd
 have c1:((lo a b).1:Rat)*(lg a b:Rat)=(a:Rat):=by
  have:=congrArg (fun i:Int=>(i:Rat)) e1
  simpa using this
 have c2:((lo a b).2:Rat)*(lg a b:Rat)=(b:Rat):=by
  have:=congrArg (fun i:Int=>(i:Rat)) e2
  simpa using this
 unfold wv
 rw[<- c1,<- c2]
 grind
theorem tS{a b c:Int}(h:b ∣ a*c)(hg:Int.gcd a b=1):b ∣ c:=by
 have h1:b.natAbs ∣ a.natAbs*c.natAbs:=by
  rw[<- Int.natAbs_mul]
  exact Int.natAbs_dvd_natAbs.mpr h
 have h2:Nat.Coprime b.natAbs a.natAbs:=by
  unfold Nat.Coprime
  rw[Nat.gcd_comm]
  exact hg
 exact Int.natAbs_dvd_natAbs.mp (Nat.Coprime.dvd_of_dvd_mul_left h2 h1)
theorem rT{p q:Int × Int}(hp:Fq p)(hq:Fq q)(h:wv p=wv q):p=q:=by
 have h1:=az (show p.2 ≠ 0 by have:=hp.1;walk_at"o")
 have h2:=az (show q.2 ≠ 0 by have:=hq.1;walk_at"o")
 have e:p.1*q.2=q.1*p.2:=by
  unfold wv at h
  have:(p.1:Rat)*(q.2:Rat)=(q.1:Rat)*(p.2:Rat):=by grind
  have h3:((p.1*q.2:Int):Rat)=((q.1*p.2:Int):Rat):=by simpa using this
  exact Rat.intCast_inj.mp h3
 have d1:p.2 ∣ q.2:=by
  have:p.2 ∣ p.1*q.2:=⟨q.1,by rw[e,Int.mul_comm]⟩
  exact tS this hp.2
 have d2:q.2 ∣ p.2:=by
  have:q.2 ∣ q.1*p.2:=⟨p.1,by rw[<- e,Int.mul_comm]⟩
  exact tS this hq.2
 have e2:p.2=q.2:=Int.dvd_antisymm (Int.le_of_lt hp.1) (Int.le_of_lt hq.1) d1 d2
 rw[e2] at e
 have e1:p.1=q.1:=Int.eq_of_mul_eq_mul_right (by have:=hq.1;walk_at"o") e
 exact Prod.ext e1 e2
theorem Cb{p q:Int × Int}(hp:p.2 ≠ 0)(hq:q.2 ≠ 0):wv (mr p q)=wv p+wv q:=by
 unfold mr
 rw[ma (Int.mul_ne_zero hp hq)]
 unfold wv
 have h1:=az hp
 have h2:=az hq
 simp only[Rat.intCast_add,Rat.intCast_mul]
 grind
def uV(p q:Int × Int):Int × Int:=lo (p.1*q.1) (p.2*q.2)
theorem um{p q:Int × Int}(hp:Fq p)(hq:Fq q):Fq (uV p q):=m5 (by have:=Int.mul_pos hp.1 hq.1;walk_at"o")
theorem tu{p q:Int × Int}{m n:Nat}(hp:Fq p)(hq:Fq q)(h1:Bq m p)(h2:Bq n q):Bq (m+n) (uV p q):=tD (by have:=Int.mul_pos hp.1 hq.1;walk_at"o") (h1.1.mul h2.1) (h1.2.mul h2.2)
theorem vF{p q:Int × Int}(hp:p.2 ≠ 0)(hq:q.2 ≠ 0):wv (uV p q)=wv p*wv q:=by
 unfold uV
 rw[ma (Int.mul_ne_zero hp hq)]
 unfold wv
 have h1:=az hp
 have h2:=az hq
 simp only[Rat.intCast_mul]
 grind
section
variable {X:Cx}
theorem kz:Bh X .Mult (fun x y H Q=>∃ i j,x = .int i/\y = .int j/\IntMulOk i j/\Q (.int (i*j)) H):=by
 intro pins s σ H x y v u Q I r1 r2 h
 obtain⟨i,j,rfl,rfl,m,q⟩:=h
 obtain⟨t,rfl⟩:=r1
 obtain⟨t',rfl⟩:=r2
 exact imul_int ⟨.int _,H,I.tok _,⟨_,rfl⟩,q⟩ m
theorem xz{st:Stmt}:QS X st lZ:=⟨vH⟩
end
theorem re{K:W.Frag}{J:It}{its:List V}{ps:List (V × V)}{tif:TT}{te:TE}{a:Addr}{x0 x1:Option V}{σr:St}{H0:Hp}{Q:Hp->Prop}(Pv:Nat->List V->Hp->Prop)(hlen:its.length=ps.length)
  (hl:∀ i xs H,i<=its.length->vw K H a=some (.lst xs)->Pv i xs H->kH J H its /\ ∀ (j:Nat)(x y:V),ps[j]? = some (x,y) -> ∃ p:Addr,its[j]? = some (V.ref p)/\vw K H p=some (HO.tup [x,y]))(ha:vw K H0 a=some (.lst []))(h0:Pv 0 [] H0)
  (hs:∀ i x y xs H,i<ps.length->ps[i]? = some (x,y)->vw K H a=some (.lst xs)->Pv i xs H->tif (some x :: some y :: σr) H fun b H3=>if b=true then te (some x :: some y :: σr) H3 (Bp K a (Ec K a σr (Pv (i+1)) (some x :: some y :: σr))) else Ec K a σr (Pv (i+1)) (some x :: some y :: σr) H3)
  (hd:∀ xs H,vw K H a=some (.lst xs)->Pv ps.length xs H->Q H):nX K J (pR K 2 (m4 (ij 0) (m4 (ij 1) yv))) tif te a (x0 :: x1 :: σr) H0 Q:=by
 refine⟨fun i m σ H=>m=ps.length - i/\i<=ps.length/\Ec K a σr (Pv i) σ H,⟨ps.length,by simp,Nat.zero_le _,⟨_,_,rfl⟩,_,ha,h0⟩,?_⟩
 rintro i m σ H ⟨rfl,hi,⟨y,z,rfl⟩,xs,hxs,p⟩
 obtain⟨⟨q1,q2,q3⟩,q4⟩:=hl i xs H (by walk_at"o") hxs p
 by_cases hlt:i<ps.length
 ·refine .inr ⟨q1 i (by walk_at"o"),Ec K a σr (Pv (i+1)),fun σ' H' p'=>⟨ps.length - (i+1),by walk_at"o",rfl,hlt,p'⟩,fun x H' y=>?_⟩
  obtain⟨e,y2⟩:=q2 i x H' (by walk_at"o") y
  subst e
  obtain⟨b,e1,e2⟩:=q4 i _ _ (List.getElem?_eq_getElem hlt)
  rw[e1] at y2
  cases y2
  exact⟨b,rfl,_,e2,rfl,_,_,rfl,_,_,rfl,rfl,hs i _ _ xs _ hlt (List.getElem?_eq_getElem hlt) hxs p⟩
 ·have e:i=ps.length:=by walk_at"o"
  subst e
  exact .inl ⟨hlen ▸ q3,hd xs H hxs p⟩
theorem eM{g q:Int}(hg:g ≠ 0)(h:g ∣ q):q.fdiv g*g=q:=by
 obtain⟨m,rfl⟩:=h
 rw[Int.mul_comm g m,Int.mul_fdiv_cancel m hg]
theorem tP{a b:Int}(ha:0<=a)(hb:1<=b):a<=a*b:=by
 have:=Int.mul_le_mul_of_nonneg_left hb ha
 walk_at"o"
theorem qf{b q:Int}(hb:0<b)(hq:0<q):0<q.fdiv (Int.gcd b q:Int)/\q.fdiv (Int.gcd b q:Int)<=q/\q ∣ b*q.fdiv (Int.gcd b q:Int)/\(Int.gcd b q:Int) ≠ 0/\(Int.gcd b q:Int)<=q:=by
 have hg:(Int.gcd b q:Int) ≠ 0:=by
  have:Int.gcd b q ≠ 0:=fun e=>by
   have:=(Int.gcd_eq_zero_iff.mp e).2
   walk_at"o"
  walk_at"o"
 have hg0:0<(Int.gcd b q:Int):=by walk_at"o"
 have e:=eM hg (Int.gcd_dvd_right b q)
 have hle:(Int.gcd b q:Int)<=q:=Int.le_of_dvd hq (Int.gcd_dvd_right b q)
 generalize q.fdiv (Int.gcd b q:Int)=c at e
 obtain⟨m,hm⟩:=Int.gcd_dvd_left b q
 have hc:0<c:=by
  refine Int.pos_of_mul_pos_left ?_ hg0
  rw[e]
  exact hq
 refine⟨hc,?_,⟨m,?_⟩,hg,hle⟩
 ·rw[<- e]
  exact tP (by walk_at"o") (by walk_at"o")
 ·rw[<- e]
  generalize (Int.gcd b q:Int)=g at *
  rw[hm]
  rw[Int.mul_right_comm,Int.mul_comm c g]
theorem Bt.le{n:Nat}{x y:Int}(h:Bt n y)(h0:0<=x)(hl:x<=y):Bt n x:=by
 unfold Bt at *
 walk_at"o"
theorem pK{q:Int × Int}{D:Int}{m n:Nat}(hq:Fq q)(hd:q.2 ∣ D)(hD:0<D)(b1:Bt m D)(b2:Bt n q.1):((q.1*D.fdiv q.2:Int):Rat)=wv q*(D:Rat)/\Bt (m+n) (q.1*D.fdiv q.2)/\Bt m (D.fdiv q.2):=by
 have h2:q.2 ≠ 0:=by have:=hq.1;walk_at"o"
 have e:=eM h2 hd
 have hp:0<D.fdiv q.2:=by
  refine Int.pos_of_mul_pos_left ?_ hq.1
  rw[e]
  exact hD
 have hle:D.fdiv q.2<=D:=by
  have:=tP (Int.le_of_lt hp) (show 1<=q.2 by have:=hq.1;walk_at"o")
  rw[e] at this
  exact this
 have bm:=b1.le (Int.le_of_lt hp) hle
 refine⟨?_,(b2.mul bm).mono (by walk_at"o"),bm⟩
 generalize D.fdiv q.2=c at *
 have h3:=az h2
 rw[<- e]
 unfold wv
 simp only[Rat.intCast_mul]
 grind
end L2
namespace L2
open PySem PySem.Spec PyProof.Rows
def cm(x:Rat):Nat->Rat
 | 0=>1
 | k+1=>cm x k*x
theorem nI(x:Rat)(k:Nat):cm x (k+1)=cm x k*x:=rfl
end L2
namespace L2
open PySem PySem.Spec PyProof.Rows
end L2
namespace L2
open PySem PySem.Spec PyProof.Rows
theorem qi{d:D}(h:d.cmp):vq d d=true:=SeqAt.eqv_refl _ h.1
end L2
namespace L2
open PySem PySem.Spec PyProof.Rows
def Fv(K:W.Frag)(a:Addr)(n:Nat):It :=
 ⟨fun i H=>∃ xs,jS K H a xs/\xs.length=n/\i<n,fun i H x H'=>H'=H /\ ∀ xs,jS K H a xs->xs[n - 1 - i]? = some x,fun i _=>i=n⟩
theorem w8{P:Program}{w:World}{K:W.Frag}{tg:Expr}(a it:Addr)(n:Nat):xQ P w K tg (Fv K a n) [it] it (fun i h=>h.IsRevIter it a ((n:Int) - 1 - (i:Int))) where
 mem:=by simp
 obj:=fun i h st b hb=>by
  have e:b=it:=by simpa using hb
  subst e
  obtain⟨o,e,c,d⟩:=st
  exact⟨o,e,fun v z=>by rw[d] at z;cases z⟩
 keep:=fun i h h' st k=>st.at fun o e=>k it (by simp) o e
 item:=by
  intro X hP hw hK hc i pins s σ H E I hf st hg
  subst hP hw hK
  obtain⟨xs,hq,hl,hi⟩:=hg
  obtain⟨its,rv,p,hz⟩:=I.list hq
  have hx:xs[n - 1 - i]? = some (xs[n - 1 - i]'(by walk_at"o")):=List.getElem?_eq_getElem (by walk_at"o")
  obtain⟨u,hu,ru⟩:=rv.get hx
  obtain⟨f0,f1,f2,f3,f4,f5⟩:=hf it (by simp)
  have e:(n:Int) - 1 - (i:Int)=((n - 1 - i:Nat):Int):=by walk_at"o"
  have st2:s.heap.IsRevIter it a ((n - 1 - i:Nat):Int):=e ▸ st
  refine wpAny_pyNext_rev_item st2 p.isList (x:=u) (by simpa using hu) fun h' st' sb=>?_
  have I1:aw X pins σ H { s with heap:=h' }:=I.turned (t':=s.toks) (fun b o hb e=>(sb.2 b hb).trans e) f0 f1 f3 f4 f5
  obtain⟨o,e1,c,d⟩:=id st'
  refine⟨u,rfl,uv (s:={ s with heap:=h' }) e1 c d (by decide) ⟨_,H,I1,ru,⟨rfl,fun ys hy=>by rw[I.list_inj hy hq];exact hx⟩,?_,fun b hb=>(hf b hb).1⟩⟩
  rw[show (n:Int) - 1 - ((i+1:Nat):Int)=((n - 1 - i:Nat):Int) - 1 by walk_at"o"]
  exact st'
 done:=by
  intro X hP hw hK hc i pins s σ H E I hf st hg
  subst hP hw hK
  have hg':i=n:=hg
  subst hg'
  obtain⟨f0,f1,f2,f3,f4,f5⟩:=hf it (by simp)
  have st2:s.heap.IsRevIter it a (-1):=by
   have e:(i:Int) - 1 - (i:Int) = -1:=by walk_at"o"
   exact e ▸ st
  exact wpAny_pyNext_rev_end (I.ok.hd hc) st2 fun h' eb=>⟨rfl,I.turned (t':=s.toks) (fun b o hb e=>eb b o hb e) f0 f1 f3 f4 f5⟩
 self:=fun _ _ _ _ _ st h=>wpAny_pyIter_revIter st h
def CK(K:W.Frag)(ta:TA):TI:=fun σ H R=>ta σ H fun vs H1=>∃ a,vs=[.ref a] /\ ∃ xs,vw K H1 a=some (.lst xs)/\R (Fv K a xs.length) H1
theorem BG{X:Cx}{tg:Expr}{p pos:Pos}{a:Expr}{ta:TA}(hg:Gl X "reversed") (hm:X.mg "reversed" = none) (ha:PA X [a] ta)(hs:starEach [a] X.env=[(false,eval a X.env)]:=by rfl) :
  PI X tg (.Call (.Name "reversed" p) [a] [] pos) (CK X.K ta):=by
 intro pins s σ H R I h
 refine Call_ (iZ I hg hm qg (PyProof.Rows.callWith_type1 (cn (ha pos pins s σ H _ I h) fun us s1 ⟨vs,H1,I1,r1,q1⟩=>?_) hs rfl))
 obtain⟨b,e,xs,hx,q⟩:=q1
 subst e
 cases r1 with
 | cons r rr =>
  cases rr
  cases r
  obtain⟨its,rv,pl,hz⟩:=I1.list (jS.of (K:=X.K) (aC hx))
  have hl:=rv.length
  refine call_reversed_list pl.isList ?_
  have st:(s1.heap.push (revObj b ((its.toArray.size:Int) - 1))).IsRevIter s1.heap.objs.size b ((its.toArray.size:Int) - 1):=⟨_,Heap.get?_push_size _ rfl,rfl,rfl⟩
  refine wpAny_pyIter_revIter (s:={ s1 with heap:=s1.heap.push (revObj b ((its.toArray.size:Int) - 1)) }) st ?_
  refine⟨_,[s1.heap.objs.size],_,_,H1,rfl,I1.kept (t':=s1.toks) fun c o e=>Heap.get?_push_of_some _ e,w8 b _ xs.length,?_,fun c hc=>?_,q⟩
  ·show Heap.IsRevIter _ _ _ _
   have e:(xs.length:Int) - 1 - ((0:Nat):Int)=(its.toArray.size:Int) - 1:=by simp;walk_at"o"
   rw[e]
   exact st
  ·have e:c=s1.heap.objs.size:=by simpa using hc
   subst e
   exact I1.fpOk (Nat.le_refl _) (I1.hok.fresh (Nat.le_refl _))
theorem Cf{X:Cx}{tg:Expr}{p pos:Pos}{a:Expr}{ta:TA}(hg:Gl X "reversed") (hm:X.mg "reversed" = none) (ha:QA X [a] ta)(hs:starEach [a] X.env=[(false,eval a X.env)]:=by rfl) :
  QI X tg (.Call (.Name "reversed" p) [a] [] pos) (CK X.K ta):=⟨BG hg hm ha.h hs⟩
theorem u8{K:W.Frag}{H:Hp}{a:Addr}{xs:List V}(h:vw K H a=some (.lst xs)):kH (Fv K a xs.length) H xs.reverse:=by
 refine⟨fun i hi=>⟨xs,.of (aC h),rfl,by simpa using hi⟩,fun i x H' hi y=>⟨y.1,?_⟩,by show xs.reverse.length=xs.length;simp⟩
 rw[List.getElem?_reverse (by simpa using hi)]
 exact y.2 xs (.of (aC h))
theorem kD{q:Int × Int}(hq:q.2 ≠ 0):wv q=0 ↔ q.1=0:=by
 have h2:=az hq
 unfold wv
 constructor
 ·intro h
  have:(q.1:Rat)=0:=by grind
  simpa using this
 ·intro h
  have:(q.1:Rat)=0:=by rw[h];rfl
  rw[this]
  grind
end L2
namespace L2
open PySem PySem.Spec PyProof.Rows
def cf(qs:List (Int × Int))(k:Nat):Rat:=match qs[k]? with
 | some q=>wv q
 | none=>0
def ei(qs:List (Int × Int)):Prop:=(∀ q ∈ qs,Fq q) /\ ∀ q,qs.getLast? = some q->q.1 ≠ 0
theorem Fq.ne{q:Int × Int}(h:Fq q):q.2 ≠ 0:=by have:=h.1;walk_at"o"
theorem di{qs:List (Int × Int)}{k:Nat}{q:Int × Int}(h:qs[k]? = some q):cf qs k=wv q:=by unfold cf;rw[h]
theorem ci{qs:List (Int × Int)}{k:Nat}(h:qs.length<=k):cf qs k=0:=by unfold cf;rw[List.getElem?_eq_none h]
theorem uj{qs:List (Int × Int)}{n:Nat}(hF:∀ q ∈ qs,Fq q)(hz:∀ q ∈ qs.drop n,q.1=0)(k:Nat):cf (qs.take n) k=cf qs k:=by
 by_cases hk:k<n
 ·unfold cf
  rw[List.getElem?_take,if_pos hk]
 ·unfold cf
  rw[List.getElem?_take,if_neg hk]
  cases e:qs[k]? with
  | none=>rfl
  | some q =>
   have hm:q ∈ qs.drop n:=List.mem_of_getElem? (i:=k - n) (by rw[List.getElem?_drop,show n+(k - n)=k by walk_at"o"];exact e)
   exact ((kD (hF q (List.mem_of_getElem? e)).ne).mpr (hz q hm)).symm
theorem tf{q:Int × Int}(h:Fq q):q=(0,1) ↔ q.1=0:=by
 constructor
 ·rintro rfl;rfl
 ·intro e
  obtain⟨h1,h2⟩:=h
  rw[e] at h2
  have:q.2.natAbs=1:=by simpa using h2
  exact Prod.ext e (by show q.2=1;walk_at"o")
end L2
namespace L2
open PySem PySem.Spec PyProof.Rows
def sk:List Int->Rat->Rat
 | [],_=>0
 | n :: ns,x=>(n:Rat)+x*sk ns x
theorem vi{α:Type}{l:List α}{j:Nat}(h:j<l.length):l.drop (l.length - (j+1))=l[l.length - 1 - j]'(by walk_at"o") :: l.drop (l.length - j):=by
 rw[List.drop_eq_getElem_cons (show l.length - (j+1)<l.length by walk_at"o")]
 have e1:l.length - (j+1)=l.length - 1 - j:=by walk_at"o"
 have e2:l.length - (j+1)+1=l.length - j:=by walk_at"o"
 simp only[e1,e2]
 congr 2
 walk_at"o"
end L2
namespace L2
open PySem PySem.Spec PyProof.Rows
def pz(f g:Nat->Int):Nat->Nat->Int
 | 0,_=>0
 | j+1,k=>pz f g j k+if j<=k then f j*g (k - j) else 0
def pr(f g:Nat->Rat):Nat->Nat->Rat
 | 0,_=>0
 | j+1,k=>pr f g j k+if j<=k then f j*g (k - j) else 0
theorem sG{f g:Nat->Int}{F G:Nat->Rat}{c d:Rat}(hf:∀ i,(f i:Rat)=F i*c)(hg:∀ i,(g i:Rat)=G i*d):∀ j k,((pz f g j k:Int):Rat)=pr F G j k*(c*d)
 | 0,k=>by
  show ((0:Int):Rat)=0*(c*d)
  grind
 | j+1,k=>by
  show (((pz f g j k+if j<=k then f j*g (k - j) else 0:Int)):Rat)=(pr F G j k+if j<=k then F j*G (k - j) else 0)*(c*d)
  rw[Rat.intCast_add,sG hf hg j k]
  split
  ·rw[Rat.intCast_mul,hf,hg]
   grind
  ·grind
theorem gy{n:Nat}:Bt n 0:=by
 show (0:Int).natAbs<2 ^ n
 exact Nat.two_pow_pos n
def qr(f g:Nat->Rat)(j l k:Nat):Rat:=pr f g j k+if j<=k/\k - j<l then f j*g (k - j) else 0
theorem Fj(f g:Nat->Rat)(j k:Nat):qr f g j 0 k=pr f g j k:=by
 unfold qr
 rw[if_neg (by walk_at"o")]
 grind
theorem Ex(f g:Nat->Rat)(j l k:Nat):qr f g j (l+1) k=if k=j+l then qr f g j l (j+l)+f j*g l else qr f g j l k:=by
 by_cases h:k=j+l
 ·subst h
  rw[if_pos rfl]
  unfold qr
  rw[if_pos (by walk_at"o"),if_neg (by walk_at"o"),show j+l - j=l by walk_at"o"]
  grind
 ·rw[if_neg h]
  unfold qr
  by_cases h2:j<=k/\k - j<l
  ·rw[if_pos h2,if_pos (by walk_at"o")]
  ·rw[if_neg h2,if_neg (by walk_at"o")]
theorem Ci{f g:Nat->Rat}{n:Nat}(hg:∀ i,n<=i->g i=0)(j k:Nat):qr f g j n k=pr f g (j+1) k:=by
 show _=pr f g j k+if j<=k then f j*g (k - j) else 0
 unfold qr
 by_cases h:j<=k
 ·rw[if_pos h]
  by_cases h2:k - j<n
  ·rw[if_pos ⟨h,h2⟩]
  ·rw[if_neg (by walk_at"o"),hg _ (by walk_at"o")]
   grind
 ·rw[if_neg h,if_neg (by walk_at"o")]
theorem fR{f g:Nat->Rat}{n:Nat}(hg:∀ i,n<=i->g i=0):∀ (j k:Nat),j+n<=k+1->pr f g j k=0
 | 0,k,_=>rfl
 | j+1,k,h=>by
  show pr f g j k+(if j<=k then f j*g (k - j) else 0)=0
  rw[fR hg j k (by walk_at"o")]
  by_cases h1:j<=k
  ·rw[if_pos h1,hg _ (by walk_at"o")]
   grind
  ·rw[if_neg h1]
   grind
def lz{α:Type}(n:Nat)(h:Nat->α):List α:=(List.range n).map h
theorem nV{α:Type}{n:Nat}{h:Nat->α}:(lz n h).length=n:=by simp[lz]
theorem xY{α:Type}{n:Nat}{h:Nat->α}{i:Nat}(hi:i<n):(lz n h)[i]? = some (h i):=by simp[lz,hi]
def nz(ns:List Int)(k:Nat):Int:=ns.getD k 0
theorem bC{ns:List Int}{k:Nat}{n:Int}(h:ns[k]? = some n):nz ns k=n:=by simp[nz,List.getD_eq_getElem?_getD,h]
theorem aW{ns:List Int}{k:Nat}(h:ns.length<=k):nz ns k=0:=by simp[nz,List.getD_eq_getElem?_getD,List.getElem?_eq_none h]
theorem wk{ns:List Int}{m:Nat}(h:∀ n ∈ ns,Bt m n)(k:Nat):Bt m (nz ns k):=by
 cases e:ns[k]? with
 | none=>rw[aW (List.getElem?_eq_none_iff.mp e)];exact gy
 | some n=>rw[bC e];exact h n (List.mem_of_getElem? e)
theorem AR{n k:Nat}{h:Nat->Int}(hk:k<n):nz (lz n h) k=h k:=bC (xY hk)
theorem wT{qs:List (Int × Int)}{ns:List Int}{D:Rat}(hl:ns.length=qs.length)(h:∀ (i:Nat)(n:Int)(q:Int × Int),ns[i]? = some n->qs[i]? = some q->(n:Rat)=wv q*D)(i:Nat):((nz ns i:Int):Rat)=cf qs i*D:=by
 by_cases hi:i<qs.length
 ·have e1:=List.getElem?_eq_getElem hi
  have e2:=List.getElem?_eq_getElem (show i<ns.length by walk_at"o")
  rw[bC e2,di e1]
  exact h i _ _ e2 e1
 ·rw[aW (by walk_at"o"),ci (by walk_at"o")]
  show ((0:Int):Rat)=0*D
  grind
theorem aA.set{H:Hp}:∀{ds:List D}{xs:List V}(i:Nat) {d:D}{x:V},aA H ds xs->aM H d x->aA H (ds.set i d) (xs.set i x)
 | [],xs,i,d,x,h,g=>by
  cases h.nil_at
  exact .mk_nil
 | d0 :: ds,xs,i,d,x,h,g=>by
  obtain⟨x0,r,rfl,h1,h2⟩:=h.cons_at
  cases i with
  | zero=>exact .mk_cons g h2
  | succ i=>exact .mk_cons h1 (h2.set i g)
theorem Aq{qs:List (Int × Int)}{i k:Nat}{q:Int × Int}(hi:i<qs.length):cf (qs.set i q) k=if k=i then wv q else cf qs k:=by
 by_cases h:k=i
 ·subst h
  rw[if_pos rfl,di (List.getElem?_set_self hi)]
 ·rw[if_neg h]
  unfold cf
  rw[List.getElem?_set_ne (Ne.symm h)]
theorem ou{n k:Nat}(h:k<n):sH n (k:Int)=some k:=by
 unfold sH
 simp
 walk_at"o"
end L2
namespace L2
open PySem PySem.Spec PyProof.Rows
theorem uS{X:Cx}:Bu X (fun o i H Q=>∃ p k,o = .ref p/\i = .int k /\ ∃ xs,vw X.K H p=some (.lst xs) /\ ∃ v,my xs k=some v/\Q v H):=by
 intro pins s σ H x y v u Q I rx ry h
 obtain⟨p,k,rfl,rfl,xs,hx,z,he,q⟩:=h
 cases rx
 obtain⟨t,rfl⟩:=ry
 obtain⟨its,r,pl,hz⟩:=I.list (jS.of (K:=X.K) (aC hx))
 obtain⟨j,h1,h2,h3,h4,h5⟩:=nY he
 obtain⟨w,ew,rw'⟩:=r.get h2
 have hl:=r.length
 have hn:=jC
 have fin:EP X pins σ Q w s:=⟨z,H,I,rw',q⟩
 by_cases h0:0<=k
 ·have hj:k.toNat=j:=by
   rw[seqIndex_of h0 h5] at h1
   exact Option.some.inj h1
  exact wpAny_getItem_list pl.isList h0 (by walk_at"o") (by rw[hj];simpa using ew) fin
 ·have hj:(k+(its.toArray.size:Int)).toNat=j:=by
   rw[seqIndex_neg (by walk_at"o") h4] at h1
   rw[List.size_toArray,<- hl]
   exact Option.some.inj h1
  exact wpAny_getItem_list_neg pl.isList (by walk_at"o") (by rw[List.size_toArray] <;> walk_at"o") (by walk_at"o") (by rw[hj];simpa using ew) fin
theorem i5{K:W.Frag}{H:Hp}{p:Addr}{xs:List V}(h:vw K H p=some (.lst xs)):su K (.ref p) H (!xs.isEmpty):=.inl ⟨xs,.of (aC h),rfl⟩
end L2
namespace L2
open PySem PySem.Spec PyProof.Rows
theorem ar.none{G G':Hp}{c:Addr}(S:ar G G')(h:G' c=none):G c=none:=by
 cases e:G c with
 | none=>rfl
 | some o=>rw[S _ _ e] at h;cases h
theorem wj:Fq (0,1):=⟨by decide,by decide⟩
theorem sK:wv (0,1)=0:=(kD (q:=(0,1)) (by decide)).mpr rfl
theorem qM{α:Type}(n:Nat)(x:α):(List.replicate n [x]).flatten=List.replicate n x:=by simp
theorem t6{α β:Type}(f:α->β)(n:Nat)(x:α):(List.replicate n x).map f=List.replicate n (f x):=by simp
theorem vE{qs:List (Int × Int)}{n:Nat}(hF:∀ q ∈ qs,Fq q)(hz:∀ q,(qs.take n).getLast? = some q->q.1 ≠ 0):ei (qs.take n):=⟨fun q hq=>hF q (List.mem_of_mem_take hq),hz⟩
theorem cG.chg{G G':Hp}{e:Addr}{qs:List (Int × Int)}{xs:List V}{i:Nat}{q:Int × Int}{v:V}(h:G e=some (.lst xs))(r:aA G (qs.map fr) xs)(rv:aM G (fr q) v)(B:dS e G G')(h':G' e=some (.lst (xs.set i v))):cG G' e (qs.set i q):=by
 refine⟨_,h',?_⟩
 have r':=aA.flat_but h B _ _ (gZ qs) r
 have:=r'.set i (aM.flat_but h B _ _ (fW q) rv)
 rw[List.map_set]
 exact this
end L2
namespace L2
open PySem PySem.Spec PyProof.Rows
theorem Ey(q:Int × Int):(fr q).py = .tuple [.int q.1,.int q.2]:=by
 unfold fr
 simp only[D.py,D.pys]
theorem vX:∀(qs:List (Int × Int)),PyData.canLayAll0 (D.pys (qs.map fr))=true/\PyData.depthAll (D.pys (qs.map fr))<=4
 | []=>by
  simp only[List.map_nil,D.pys]
  exact⟨rfl,by simp[PyData.depthAll]⟩
 | c :: cs=>by
  obtain⟨h1,h2⟩:=vX cs
  simp only[List.map_cons,D.pys,Ey,PyData.canLayAll0,PyData.canLay0,h1,PyData.depthAll,PyData.depth]
  refine⟨by decide,?_⟩
  walk_at"o"
theorem yW(fs:List (Int × Int)):(D.lst (fs.map fr)).cmp:=by
 obtain⟨h1,h2⟩:=vX fs
 unfold D.cmp
 simp only[D.py,PyData.canLay0,PyData.depth]
 exact⟨h1,by walk_at"o"⟩
end L2
namespace L2
open PySem PySem.Spec PyProof.Rows
end L2
namespace L2
open PySem PySem.Spec PyProof.Rows
structure vj (outer:List Env)(H H':Hp)(h:Heap)(B:Heap):Prop where
 b1:∀ b,H' b ≠ none -> ∃ o,B.get? b=some o
 b2:∀ b o,h.get? b=some o->H b=none->b ∉ gg outer->B.get? b=some o
 b3:∀ b o,h.get? b=some o->b ∉ gg outer -> ∃ o',B.get? b=some o'
def jX(P:Program)(w:World):rD:=fun outer H s E e s' =>
 ∃ (a C:Addr)(a0:Value)(B:Heap)(H':Hp),e = .ref a/\s'.os=s.os/\AllBare s'.gens/\Un (gg outer) [] H H' s.heap s'.heap/\iJ P w H' s'.heap /\
  Heap.FlyingW B outer a (.ref C) a0 s'.heap/\vj outer H H' s.heap B/\E (.ref C) none H'
theorem bY.there{P:Program}{w:World}{H:Hp}{h:Heap}{a:Addr}{o:HO}(x:bY P w H h a o):∃ ob,h.get? a=some ob:=by
 cases o with
 | lst xs=>obtain⟨_,_,_,_,e⟩:=x;exact⟨_,e⟩
 | tup xs=>obtain⟨_,_,_,_,e,_⟩:=x;exact⟨_,e⟩
 | dK kvs=>obtain⟨_,_,_,_,o,_,_,e,_⟩:=x;exact⟨_,e⟩
 | dT kvs=>obtain⟨_,_,_,_,o,_,_,e,_⟩:=x;exact⟨_,e⟩
 | set S n=>obtain⟨o,_,_,_,e,_⟩:=x;exact⟨_,e⟩
 | ins C dx fs=>obtain⟨_,_,_,e,_⟩:=x;exact⟨_,e⟩
 | own y=>obtain⟨_,e⟩:=x;exact⟨_,e⟩
 | xd fs=>obtain⟨_,⟨_,_,_,e,_⟩,_⟩:=x;exact⟨_,e⟩
 | rng lo hi=>obtain⟨_,_,_,e⟩:=x;exact⟨_,e⟩
 | frz ob u=>obtain⟨e,_⟩:=x;exact⟨_,e⟩
 | tbl ps=>exact⟨_,show h.get? a=some _ from x⟩
 | met f y=>exact⟨_,show h.get? a=some _ from x⟩
 | ext φ=>obtain⟨_,e,_⟩:=x;exact e
theorem ie{P:Program}{w:World}{H:Hp}{h h':Heap}(x:iJ P w H h)(k:∀ b u,H b ≠ none->h.get? b=some u->h'.get? b=some u):iJ P w H h':=fun a o e =>
 (x a o e).stay (fun b u hb q=>k b u (by
  rcases hb with rfl|z
  ·rw[e];simp
  ·rw[z];simp) q) (fun _ q=>q) fun _ _ q=>q
section
variable {X:Cx}{pins:List (Addr × Obj)}{σ:St}{H H':Hp}{s s':Shared}
theorem aw.nofrs(I:aw X pins σ H s) {b:Addr}(h:H b ≠ none):b ∉ gg X.stack:=fun z=>h (I.stkFree b z)
theorem aw.flyB(I:aw X pins σ H s)(hx:X.ex=[])(hs:X.stack=X.env :: X.outer)(hfr:X.env.frame=some X.env.locals) {B:Heap}(F:vj X.stack H H' s.heap B):vj X.outer X.H₀ H' X.s₀.heap B:=by
 have nL:∀ b o,X.s₀.heap.get? b=some o->b ∉ gg X.outer->b ∉ gg X.stack:=fun b o e n z=>by
  rcases List.mem_cons.mp (I.stkSub b z) with q|q
  ·exact absurd (Nat.lt_of_lt_of_le (Heap.lt_size e) (q ▸ I.ok.above)) (Nat.lt_irrefl _)
  ·exact n q
 have nx:∀ b,b ∉ X.ex:=fun b z=>by rw[hx] at z;exact absurd z (by simp)
 refine⟨F.b1,fun b o e n nb=>?_,fun b o e nb=>?_⟩
 ·exact F.b2 b o (I.base.keep b o e n nb (nx b)) (I.base.free b o e n (nx b)) (nL b o e nb)
 ·obtain⟨o',e'⟩:=I.base.there b o e (nx b)
  exact F.b3 b o' e' (nL b o e nb)
theorem aw.flyUn(I:aw X pins σ H s)(hx:X.ex=[])(hs:X.stack=X.env :: X.outer)(hfr:X.env.frame=some X.env.locals) {B h h':Heap}(F:vj X.stack H H' s.heap B)(u:Un (gg X.stack) [] H H' s.heap h)(hB:B.StaysIn h')(up:h.UpToSlots h'):Un (gg X.outer) [] X.H₀ H' X.s₀.heap h':=by
 have FB:=I.flyB hx hs hfr F
 have nx:∀ b,b ∉ X.ex:=fun b z=>by rw[hx] at z;exact absurd z (by simp)
 have n0:∀ b:Addr,b ∉ ([]:List Addr):=fun b z=>absurd z (by simp)
 have frame:∀ b,b ∈ gg X.outer -> ∀ o,X.s₀.heap.get? b=some o -> ∃ sl,h'.get? b=some { o with slots:=sl }:=fun b hb o e=>by
  have hfree:=I.ok.frf b hb
  obtain⟨sl,e1⟩:=I.base.slot b o e hfree hb (nx b)
  have h1:=I.base.free b o e hfree (nx b)
  obtain⟨sl2,e2⟩:=u.any e1 h1 (n0 b)
  obtain⟨_,o',e3,hd⟩:=I.ok.funs.mem hb
  rw[e] at e3;cases e3
  obtain⟨sl3,e4⟩:=up b _ e2 hd
  exact⟨sl3,e4⟩
 refine⟨fun b o e n nb _=>hB b o (FB.b2 b o e n nb),fun b o e n nb _=>frame b nb o e,fun b o e n _=>?_,fun b o e _=>?_,fun b xs e=>u.tups b xs (I.base.tups b xs e),fun b o v e=>u.frzs b o v (I.base.frzs b o v e),fun b ps e=>?_⟩
 ·obtain⟨o',e1⟩:=I.base.there b o e (nx b)
  exact u.free b o' e1 (I.base.free b o e n (nx b)) (n0 b)
 ·by_cases hb:b ∈ gg X.outer
  ·obtain⟨sl,q⟩:=frame b hb o e
   exact⟨_,q⟩
  ·obtain⟨o',q⟩:=FB.b3 b o e hb
   exact⟨o',hB b o' q⟩
 ·obtain⟨m1,e1⟩:=I.base.tbls b ps e
  obtain⟨m2,e2⟩:=u.tbls b _ e1
  exact⟨m1 ++ m2,by rw[e2,Array.append_assoc]⟩
theorem aw.raised{E:XK}{e C:Addr}{vs:List Value}{h':Heap}{Q':Value->Shared->Prop}{M:Model}(I:aw X pins σ H s)(hx:X.ex=[])(hs:X.stack=X.env :: X.outer)(hfr:X.env.frame=some X.env.locals)
  (hm:Heap.MadeExcOf s.heap h' e (.ref C) vs)(hE:E (.ref C) none H) {g:Array GenState}{d:Drawn}{t:Tok}{os:OsState}(hos:os=s.os)(hg:AllBare g) :
  wpAny M X.A (leaving X.env (.ref e)) (fun _ s''=>jX X.prog X.w X.outer X.H₀ X.s₀ E (.ref e) s'') Q' ⟨h',g,d,t,os⟩:=by
 have hfr':X.A.frames=some (X.env :: X.outer):=by rw[I.ok.frames,hs]
 have hin:∀ env ∈ X.stack,∀ b,env.frame=some b->b ∈ gg X.stack:=fun env he b hb=>List.mem_filterMap.mpr ⟨env,he,hb⟩
 have st:=I.stack
 have FF:=PySem.W.funFrames_hide st hin
 have hkb:(PySem.W.hideAll s.heap (gg X.stack)).StaysIn s.heap:=fun b o q=>PySem.W.of_hideAll _ q
 have FF2:s.heap.FunFrames (PySem.W.hideAll s.heap (gg X.stack)) (X.env :: X.outer):=by
  have z:=FF
  rw[show X.stack=X.env :: X.outer from hs] at z ⊢
  exact z
 refine wpAny_leaves_madeW (s:=⟨h',g,d,t,os⟩) hfr' hfr hkb FF2 hm fun h2 t2 fl tup nt up=>?_
 have up2:s.heap.UpToSlots h2:=(Heap.UpToSlots.of_keeps hm.keeps).trans up
 have getB:∀ b o,s.heap.get? b=some o->b ∉ gg X.stack->(PySem.W.hideAll s.heap (gg X.stack)).get? b=some o:=fun b o e n=>PySem.W.hideAll_get _ e n
 have F:vj X.stack H H s.heap (PySem.W.hideAll s.heap (gg X.stack)):=⟨fun b hb=>by
  cases q:H b with
  | none=>exact absurd q hb
  | some u =>
   obtain⟨o,ho⟩:=(I.hok b u q).there
   exact⟨o,getB b o ho (I.nofrs hb)⟩,fun b o e _ nb=>getB b o e nb,fun b o e nb=>⟨o,getB b o e nb⟩⟩
 refine⟨e,C,.ref t2,_,H,rfl,?_,?_,?_,?_,fl,I.flyB hx hs hfr F,hE⟩
 ·show os=_
  rw[hos];exact I.os
 ·exact hg
 ·exact I.flyUn hx hs hfr F (h:=s.heap) ⟨fun _ _ q _ _ _=>q,fun _ o q _ _ _=>⟨o.slots,q⟩,fun _ _ _ q _=>q,fun _ o q _=>⟨o,q⟩,fun _ _ q=>q,fun _ _ _ q=>q,fun b ps q=>⟨#[],by rw[q];simp⟩⟩ fl.1 up2
 ·exact ie I.hok fun b u hb q=>fl.1 b u (getB b u q (I.nofrs hb))
theorem aw.passed{E E':XK}{e:Value}{Q':Value->Shared->Prop}{M:Model}(I:aw X pins σ H s)(hx:X.ex=[])(hs:X.stack=X.env :: X.outer)(hfr:X.env.frame=some X.env.locals)
  (h:jX X.prog X.w X.stack H s E e s')(hE:∀ c o H',E c o H'->E' c o H'):wpAny M X.A (leaving X.env e) (fun _ s''=>jX X.prog X.w X.outer X.H₀ X.s₀ E' e s'') Q' s':=by
 obtain⟨a,C,a0,B,H',rfl,os,gb,un,hok,fl,F,q⟩:=h
 have hfr':X.A.frames=some (X.env :: X.outer):=by rw[I.ok.frames,hs]
 rw[hs] at fl
 refine wpAny_leaves_onW hfr' hfr fl fun h2 fl2 up=>?_
 refine⟨a,C,a0,B,H',rfl,os.trans I.os,gb,I.flyUn hx hs hfr F un fl2.1 up,ie hok fun b u hb z=>?_,fl2,I.flyB hx hs hfr F,hE _ _ _ q⟩
 obtain⟨o,ho⟩:=F.b1 b hb
 have e1:=fl.1 b o ho
 rw[z] at e1;cases e1
 exact fl2.1 b _ ho
end
end L2
namespace L2
open PySem PySem.Spec PyProof.Rows
abbrev AW:List Value:=[.type "ValueError",.type "Exception",.type "BaseException",.type "object"]
def pJ(K:W.Frag)(C:Addr):Prop:=PySem.W.excIn K C AW "ValueError.__new__" = true
theorem pJ.obj{K:W.Frag}{h:Heap}{C:Addr}(KX:K.In h)(z:pJ K C):∃ tl N nm qn bs y1 sn sb ab cl dd j0 j1 j2 j3 j5 mN,
  h.get? C=some (excClassObj nm qn C N bs tl y1 sn sb ab cl dd j0 j1 j2 j3 j5 "ValueError.__new__")/\h.Ns N mN/\mN "__init__" = none/\OwnTail h AW tl:=by
 unfold pJ PySem.W.excIn at z
 split at z
 case h_2=>cases z
 case h_1 ob dct cdt sls look =>
  split at z
  case h_2=>cases z
  case h_1 C2 tl j0 j1 j2 j3 nid j5 hmro hsls =>
   rw[Bool.and_eq_true,Bool.and_eq_true,Bool.and_eq_true,Bool.and_eq_true,Bool.and_eq_true] at z
   obtain⟨⟨⟨⟨⟨z1,z2⟩,z3⟩,z4⟩,z5⟩,z6⟩:=z
   have c1:=beq_iff_eq.mp z1
   have c2:=beq_iff_eq.mp z2
   have c6:=beq_iff_eq.mp z6
   subst c1 c2
   have c3:cdt.hasDel=false:=by simpa using z3
   have c7:sls = #[j0,j1,j2,j3,some (.builtin "ValueError.__new__"),j5]:=by
    cases sls with
    | mk l=>exact congrArg Array.mk hsls
   have G:=KX _ _ look
   cases cdt with
   | mk nm bs mro ns qn hd sn sb ab cl del =>
    cases hmro
    cases c3
    rw[c7] at G
    exact⟨tl,ns,nm,qn,bs,hd,sn,sb,ab,cl,dct,j0,j1,j2,j3,j5,_,G,.of_isNs (PySem.W.isNs_of_in KX z5),PySem.W.nsMap_none_of_in KX z5 c6,PySem.W.tail_of_in KX z4⟩
def sj(E:XK)(C:Addr)(t:TA):TS:=fun _ σ H=>t σ H fun vs H1=>vs.length<=1000/\E (.ref C) none H1
section
variable {P:Program}{w:World}{K:W.Frag}{mg:Str->Option Value}{base:Heap}{N:List Str}{qual:Str}{scope:Scope}{f:Addr}{cd:Value}{A:Around}{outer:List Env}{s₀:Shared}{H₀:Hp}{E:XK}{C:Addr}
theorem yc{x:Str}{np cpos pos:Pos}{e:Expr}{es:List Expr}{t:TA}(z:pJ K C)(hg:Gl (eN (jX P w) P w K mg base N qual scope f cd A outer s₀ H₀ E) x)(hm:mg x=some (.ref C))
  (ha:PA (eN (jX P w) P w K mg base N qual scope f cd A outer s₀ H₀ E) (e :: es) t)(hdb:(x == ("__debug__" : Str))=false:=by decide)
  (he:starEach (e :: es) (envOfC qual scope s₀.heap.objs.size f cd)=(false,eval e (envOfC qual scope s₀.heap.objs.size f cd)) :: starEach es (envOfC qual scope s₀.heap.objs.size f cd):=by rfl)(hpl:(backTo cpos (starEach es (envOfC qual scope s₀.heap.objs.size f cd))).any (·.1)=false:=by rfl) :
  PS (eN (jX P w) P w K mg base N qual scope f cd A outer s₀ H₀ E) (.Raise (some (.Call (.Name x np) (e :: es) [] cpos)) none pos) (sj E C t):=by
 intro pins s σ H D I h
 obtain⟨tl,N',nm,qn,bs,y1,sn,sb,ab,cl,dd,j0,j1,j2,j3,j5,mN,hC,hN,hni,T⟩:=z.obj I.ok.mod.kin
 refine wpAny_Raise_call_subU (nm:=nm) (q:=qn) (C:=C) (N:=N') (bs:=bs) (bm:=tl) (hdct:=y1) (sn:=sn) (sub:=sb) (ab:=ab) (col:=cl) (dd:=dd) (k0:=j0) (k1:=j1) (k2:=j2) (k3:=j3) (k5:=j5)
  PySem.F.excBase_ValueError (by decide) PySem.F.excBase_ValueError (mN:=mN) (T.hasType (by decide)) (I.ok.hd rfl) ?_ hni (iD I hg hm ⟨rfl,?_⟩ hdb)
 ·show (backTo cpos (starEach (e :: es) (envOfC qual scope s₀.heap.objs.size f cd))).any (·.1)=false
  rw[he]
  show (false || (backTo cpos (starEach es (envOfC qual scope s₀.heap.objs.size f cd))).any (·.1))=false
  rw[hpl]
  rfl
 ·have go:=ha cpos pins s σ H _ I h
  show wpAny _ _ (evalArgs (.ref C) true (backTo cpos (starEach (e :: es) (envOfC qual scope s₀.heap.objs.size f cd))) []) _ _ _
  have go':wpAny (model P w) (A.deeper (envOfC qual scope s₀.heap.objs.size f cd)) (spliced (backTo cpos (starEach (e :: es) (envOfC qual scope s₀.heap.objs.size f cd)))) _ _ s:=go
  rw[he] at go' ⊢
  refine Calls.evalArgs_plain (cn go' fun us s1 ⟨vs,H1,I1,r,q⟩=>?_)
  obtain⟨hl,q⟩:=q
  refine⟨rfl,?_,I1.bk _ _ hC,hN.keeps I1.bk,T.keeps I1.bk,fun h' ea hm'=>?_⟩
  ·show us.length<=sizeLine
   rw[<- r.length]
   exact Nat.le_trans hl (by decide)
  ·exact I1.raised rfl rfl rfl hm' q rfl I1.bare
end
end L2
namespace L2
open PySem PySem.Spec PySem.Calls PyProof.Rows PySem.W PySem.Builtin PySem.Builtin.ObjectAttr PySem.Builtin.Getset_descriptor
section
variable {prog:Program}{w:World}{A:Around}{E:Value->Shared->Prop}{K:Frag}{x C:Addr}{ob:Obj}{hh:Heap}{g:Array GenState}{d:Drawn}{t:Nat}{os:OsState}
structure pc (K:Frag)(C:Addr):Prop where
 ga:findIn K (.ref C) "__getattribute__" = some (some (.builtin "BaseException.__getattribute__"))
 gt:findIn K (.ref C) "__getattr__" = some none
 cl:findIn K (.ref C) "__class__" = some (some (.builtin "object.__class__"))
 mo:mroIn K C (.type "object")=some true
 mb:mroIn K C (.type "BaseException")=some true
 ic:(clsIn K C).isSome=true
theorem Da{R:Result->Shared->Prop}{tp:Value}(Z:pc K C)(X:K.In hh)(hx:hh.get? x=some ob)(hc:ob.cls = .ref C)
  (h:R (.ok (.ret (.ref C))) ⟨hh,g,d,t,os⟩):codeAny (model prog w) A (.call (.builtin "getset_descriptor.__get__") ⟨[.builtin "object.__class__",.ref x,tp],[]⟩) R ⟨hh,g,d,t,os⟩:=by
 have L0:Looks (model prog w) hh (typeOf (.ref x)) (.ref C):=hc ▸ (Looks.ld hx).andThen .now
 have L1:=looks_mroIn (M:=model prog w) X Z.mo
 refine codeAny_call_builtin KF.slot_gs.plain KF.entry_gs (KF.slot_gs.check _ _ _ _ _ _ _ _ KF.type_class (KF.args_gs _ _ _) ?_)
 unfold Builtin.«getset_descriptor.__get__»;unfold descrGet
 rw[dga_obj]
 refine wpAny_bind (wpAny_pure ?_)
 unfold descrGetter;unfold descrCheckInstance;unfold descrNameAndClass;unfold isInstance
 simp only[KF.owner_class]
 repeat lk
 refine And.intro (Code.quiet_builtin _ (by decide +kernel)) (codeAny_builtin KF.entry_class ?_)
 unfold Builtin.«object.__class__»;unfold shownTypeOf
 repeat lk
 exact h
theorem xb{tk:Tok}{Q:Fin->Shared->Prop}(Z:pc K C)(X:K.In hh)(hx:hh.get? x=some ob)(hc:ob.cls = .ref C)(hq:Q (.done (.ret (.ref C))) ⟨hh,g,d,t,os⟩) :
  wpAny (model prog w) A (Builtin.«object.__getattribute__» ⟨[.ref x,.str "__class__" tk],[]⟩) Q E ⟨hh,g,d,t,os⟩:=by
 have hT5:(⟨hh,g,d,t,os⟩ : Shared).TypeIs (.builtin "object.__class__") "getset_descriptor":=F.typeOf_object_class
 have f5:=F.typeOf_object_class
 have f6:=F.slot_gs_get.lookup
 have f7:=F.slot_gs_set.lookup
 have L0:Looks (model prog w) hh (typeOf (.ref x)) (.ref C):=hc ▸ (Looks.ld hx).andThen .now
 have L2:=looks_findIn (M:=model prog w) X Z.cl
 repeat (any_goals (first|assumption|(with_reducible refine L0.at ?_)|(with_reducible refine L2.at ?_)|(with_reducible refine wpAny_loadPart_at hx ?_;rw[hc])|wp_step))
 refine Da Z X hx hc ?_
 repeat (any_goals (first|assumption|wp_step))
theorem xx{M:Model}{nv:Value}{Q:Unit->Shared->Prop}(Z:pc K C)(X:K.In hh)(hx:hh.get? x=some ob)(hc:ob.cls = .ref C)(hq:Q () ⟨hh,g,d,t,os⟩) :
  wpAny M A (checkBuiltinCall "BaseException.__getattribute__" ⟨[.ref x,nv],[]⟩) Q E ⟨hh,g,d,t,os⟩:=by
 have b1:splitId "BaseException.__getattribute__" = some ("BaseException", "__getattribute__")/\builtinKind "BaseException.__getattribute__" = some .slot:=⟨by decide +kernel,by decide +kernel⟩
 have b3:=F.args_bexc_ga (.ref x) nv
 have L0:Looks M hh (typeOf (.ref x)) (.ref C):=hc ▸ (Looks.ld hx).andThen .now
 have L1:=looks_mroIn (M:=M) X Z.mb
 have LI:Looks M hh (isInstance (.ref x) (.type "BaseException")) true:=L0.andThen L1
 simp only[checkBuiltinCall,b1.1,b1.2]
 refine wpAny_bind (LI.at ?_)
 repeat (any_goals (first|assumption|wp_step))
theorem AE{tk:Tok}{R:Result->Shared->Prop}(Z:pc K C)(X:K.In hh)(hx:hh.get? x=some ob)(hc:ob.cls = .ref C)(h:R (.ok (.ret (.ref C))) ⟨hh,g,d,t,os⟩) :
  codeAny (model prog w) A (.call (.builtin "BaseException.__getattribute__") ⟨[.ref x,.str "__class__" tk],[]⟩) R ⟨hh,g,d,t,os⟩ :=
 codeAny_call_builtin F.attr_ValueError.ga.plain F.entry_bexc_ga (xx Z X hx hc (xb Z X hx hc h))
theorem Ei{tk:Tok}{Q:Value->Shared->Prop}(Z:pc K C)(X:K.In hh)(hx:hh.get? x=some ob)(hc:ob.cls = .ref C)(hq:Q (.ref C) ⟨hh,g,d,t,os⟩) :
  wpAny (model prog w) A (getAttrBy (.ref x) (.str "__class__" tk) false) Q E ⟨hh,g,d,t,os⟩:=by
 have b3:=F.attr_ValueError.ga.bind (.ref x)
 have y2:(Value.builtin "BaseException.__getattribute__" == Value.builtin "object.__getattribute__")=false:=by decide +kernel
 have y1:(onTheHeap (Value.ref C) && (Value.builtin "BaseException.__getattribute__" == Value.builtin "object.__getattribute__"))=false:=by rw[y2,Bool.and_false]
 have L0:Looks (model prog w) hh (typeOf (.ref x)) (.ref C):=hc ▸ (Looks.ld hx).andThen .now
 have L1:=looks_findIn (M:=model prog w) X Z.ga
 have L2:=looks_findIn (M:=model prog w) X Z.gt
 unfold getAttrBy
 refine wpAny_holding (wpAny_bind (L0.at (wpAny_bind (L1.at ?_))))
 show wpAny _ _ (if (onTheHeap (Value.ref C) && (Value.builtin "BaseException.__getattribute__" == Value.builtin "object.__getattribute__"))=true then _ else getAttrByItsOwn _ _ _ _ _ _) _ _ _
 rw[if_neg (by rw[y1];simp)]
 unfold getAttrByItsOwn hookBefore
 rw[if_pos (show onTheHeap (Value.ref C)=true from rfl)]
 refine wpAny_bind (L2.at ?_)
 unfold callGetattribute boundAndCalled
 repeat (any_goals (first|assumption|wp_step))
 refine AE Z X hx hc ?_
 repeat (any_goals (first|assumption|wp_step))
theorem Aa{Q:Option Value->Shared->Prop}(Z:pc K C)(X:K.In hh)(hx:hh.get? x=some ob)(hc:ob.cls = .ref C)(hq:Q (some (.ref C)) ⟨hh,g,d,t+1,os⟩) :
  wpAny (model prog w) A (getAttr? (.ref x) "__class__") Q E ⟨hh,g,d,t,os⟩:=by
 unfold getAttr?;unfold getAttrBy?
 refine wpAny_bind (wpAny_mkText (wpAny_bind (wpAny_attempt (Ei Z X hx hc ?_))))
 exact wpAny_pure hq
def yl(x C:Addr)(h:Heap):Prop:=∃ ob,h.get? x=some ob/\ob.cls = .ref C
theorem vS(Z:pc K C):KitX K (.ref x) (.ref C) (yl x C) where
 ty:=fun _ _ _ ⟨_,h1,h2⟩=>h2 ▸ (Looks.ld h1).andThen .now
 it:=fun M h X _=>by
  have z:=Z.ic
  cases e:clsIn K C with
  | none=>rw[e] at z;cases z
  | some cd =>
   unfold clsIn at e
   split at e
   ·rename_i look
    intro A1 Q1 E1 s1 k1 q1
    unfold isType;unfold loadHead
    refine wpAny_bind (wpAny_loadPart (k1 _ _ (X _ _ look)) (wpAny_pure ?_))
    exact q1
   ·cases e
 ne:=fun h tp dd its n sl X htp=>by
  rw[Bool.eq_false_iff]
  intro q
  have e1:C=tp:=by
   have:=beq_iff_eq.mp q
   cases this
   rfl
  subst e1
  have z:=Z.ic
  unfold clsIn at z
  split at z
  ·rename_i look
   have e2:=X _ _ look
   rw[htp] at e2
   cases e2
  ·cases z
 ca:=fun {_ _ _ _ _ s} X ⟨_,h1,h2⟩ k=>by
  obtain⟨hp,g1,d1,t1,os1⟩:=s
  exact Aa Z X h1 h2 k
end
end L2
namespace L2
open PySem PySem.Spec PyProof.Rows
def PX(X:Cx)(e:Expr)(t:St->Hp->XK->Prop):Prop :=
 ∀ (pins:List (Addr × Obj))(s:Shared)(σ:St)(H:Hp)(E:XK),aw X pins σ H s->t σ H E->wpAny (model X.prog X.w) X.A (eval e X.env) (fun _ _=>False) (fun ev s'=>∃ s1 H1,aw X pins σ H1 s1/\jX X.prog X.w X.stack H1 s1 E ev s') s
def DK(x C:Addr):HO:=.ext (yl x C)
section
variable {X:Cx}{pins:List (Addr × Obj)}{σ:St}{H H':Hp}{s s':Shared}
theorem aw.landed{B h:Heap}(I:aw X pins σ H s)(F:vj X.stack H H' s.heap B)(u:Un (gg X.stack) [] H H' s.heap s'.heap)(hok:iJ X.prog X.w H' s'.heap)(hs':B.StaysIn s'.heap)(hB:B.StaysIn h)(up:s'.heap.UpToSlots h)(hos:s'.os=s.os)(hg:AllBare s'.gens) :
  aw X pins σ H' { s' with heap:=h }:=by
 obtain⟨h1,g1,d1,t1,os1⟩:=s'
 have e0:os1=s.os:=hos
 subst e0
 have n0:∀ b:Addr,b ∉ ([]:List Addr):=fun b z=>absurd z (by simp)
 have slots:∀ b,b ∈ gg X.stack -> ∀ o,s.heap.get? b=some o->H b=none -> ∃ sl,h.get? b=some { o with slots:=sl }:=fun b hb o e n=>by
  obtain⟨sl,e1⟩:=u.any e n (n0 b)
  obtain⟨_,o',e3,hd⟩:=I.stack.mem hb
  rw[e] at e3;cases e3
  obtain⟨sl2,e2⟩:=up b _ e1 hd
  exact⟨sl2,e2⟩
 have nst:∀ b,b ≠ X.env.locals->b ∉ X.fs->b ∉ gg X.stack:=fun b h1 h2 z=>(List.mem_cons.mp (I.stkSub b z)).elim h1 h2
 have hfin:iJ X.prog X.w H' h:=ie hok fun b v hb z=>by
  obtain⟨o,ho⟩:=F.b1 b hb
  have e1:=hs' b o ho
  have e2:h1.get? b=some v:=z
  rw[e2] at e1;cases e1
  exact hB b _ ho
 have key:=I.step (h':=h) (g':=g1) (d':=d1) (t':=t1) (ch:=[]) (fun _ z=>nomatch z) (fun b o hL hf _ e n=>hB b o (F.b2 b o e n (nst b hL hf)))
  (fun b o hL hf _ e n=>?_) (fun b o _ e n=>u.free b o e n (n0 b)) (fun b o _ e=>?_) u.tups u.frzs u.tbls (fun m hm=>?_) hfin hg
 ·exact key
 ·by_cases hb:b ∈ gg X.stack
  ·exact slots b hb o e n
  ·exact⟨o.slots,hB b o (F.b2 b o e n hb)⟩
 ·by_cases hb:b ∈ gg X.stack
  ·obtain⟨sl,q⟩:=slots b hb o e (I.stkFree b hb)
   exact⟨_,q⟩
  ·obtain⟨o',q⟩:=F.b3 b o e hb
   exact⟨o',hB b o' q⟩
 ·obtain⟨o,es,ep,ho,hd,r⟩:=hm
  by_cases hb:X.env.locals ∈ gg X.stack
  ·obtain⟨sl,q⟩:=slots _ hb o ho I.free
   exact⟨_,es,ep,q,hd,r⟩
  ·exact⟨o,es,ep,hB _ o (F.b2 _ o ho I.free hb),hd,r⟩
theorem aw.track{a:Addr}{o:HO}(I:aw X pins σ H s)(ha:H a=none)(h0:X.s₀.heap.get? a=none)(hL:a ≠ X.env.locals)(hc:∀ x c,X.env.cells.lookup x=some c->c ≠ a)(hp:∀ p ∈ X.pn ++ pins,p.1 ≠ a)
  (new:bY X.prog X.w (upd H a o) s.heap a o):aw X pins σ (upd H a o) s:=by
 have ne:∀ b u,H b=some u->b ≠ a:=fun b u e z=>by rw[z,ha] at e;cases e
 refine⟨I.ok,I.os,I.bare,⟨I.base.keep,I.base.slot,fun b ob e n hx=>?_,I.base.there,fun b xs e=>?_,fun b ob v e=>?_,fun b ps e=>?_⟩,I.loc,I.cell,?_,fun x c e=>?_,fun p hp'=>?_,fun b u e=>?_,I.len⟩
 ·have:b ≠ a:=fun z=>by rw[z,h0] at e;cases e
  rw[aG this]
  exact I.base.free b ob e n hx
 ·have q:=I.base.tups b xs e
  rw[aG (ne b _ q)]
  exact q
 ·have q:=I.base.frzs b ob v e
  rw[aG (ne b _ q)]
  exact q
 ·obtain⟨m,q⟩:=I.base.tbls b ps e
  exact⟨m,by rw[aG (ne b _ q)];exact q⟩
 ·rw[aG (Ne.symm hL)]
  exact I.free
 ·rw[aG (hc x c e)]
  exact I.freeC x c e
 ·obtain⟨q1,q2,q3⟩:=I.pin p hp'
  exact⟨q1,by rw[aG (hp p hp')];exact q2,q3⟩
 ·by_cases hb:b=a
  ·subst hb
   rw[aY] at e
   cases e
   exact new
  ·rw[aG hb] at e
   exact (I.hok b u e).stay (fun _ _ _ q=>q) (fun c q=>by rw[aG (ne c _ q)];exact q) fun c xs q=>by rw[aG (ne c _ q)];exact q
abbrev Cx.marked (X:Cx)(v:Value):Cx:={ X with A:=X.A.mark (some v),calm:=false,xe:=fun _ _=>False }
theorem aw.mark(I:aw X pins σ H s)(v:Value):aw (X.marked v) pins σ H s :=
 ⟨⟨I.ok.mod,I.ok.kind,I.ok.glob,I.ok.blt,I.ok.above,I.ok.inj,I.ok.has,I.ok.cab,(fun z=>nomatch z),I.ok.frames,I.ok.stk,I.ok.exf,I.ok.bs,I.ok.bsz,I.ok.noex,I.ok.exfs,I.ok.funs,I.ok.frf⟩,I.os,I.bare,I.base,I.loc,I.cell,I.free,I.freeC,I.pin,I.hok,I.len⟩
theorem aw.unmark{v:Value}(I:aw (X.marked v) pins σ H s)(ok:X.Ok):aw X pins σ H s:=⟨ok,I.os,I.bare,I.base,I.loc,I.cell,I.free,I.freeC,I.pin,I.hok,I.len⟩
theorem aw.unset{i:Nat}{n:Str}{h:Heap}{v:Option Value}{m:Str->Option Value}{t:Tok}(I:aw X pins σ H s)(hN:X.N.Nodup)(hi:X.N[i]? = some n)
  (hm:s.heap.Ns X.env.locals m)(hl:∀ (j:Nat)(x:Str)(w:V),X.N[j]? = some x->σ[j]? = some (some w)->Dg X.env.scope x -> ∃ u,aS w u/\DZ X.env s.heap m x u)
  (hn:h.Ns X.env.locals (fun x=>if x=n then v else m x))(hs:Heap.SameBut X.env.locals s.heap h):aw X pins (σ.set i none) H { s with heap:=h,toks:=t }:=by
 have sm:∀ b o,b ≠ X.env.locals->s.heap.get? b=some o->h.get? b=some o:=fun b o hb e=>(hs.2 b hb).trans e
 have cellK:∀ x c,X.env.cells.lookup x=some c -> ∀ w,s.heap.IsCell c w->h.IsCell c w:=fun x c e w ⟨o,ho,hd⟩=>⟨o,sm c o (I.cne x c e) ho,hd⟩
 refine⟨I.ok,I.os,I.bare,⟨fun b o e n' hb hx=>?_,fun b o e n' hb hx=>?_,I.base.free,fun b o e hx=>?_,I.base.tups,I.base.frzs,I.base.tbls⟩,⟨_,hn,fun j x w e1 e2 e3=>?_⟩,fun x c e=>?_,I.free,I.freeC,fun p hp=>?_,fun b u e=>?_,by rw[List.length_set];exact I.len⟩
 ·have neL:b ≠ X.env.locals:=Nat.ne_of_lt (Nat.lt_of_lt_of_le (Heap.lt_size e) I.ok.above)
  exact sm b o neL (I.base.keep b o e n' hb hx)
 ·have neL:b ≠ X.env.locals:=Nat.ne_of_lt (Nat.lt_of_lt_of_le (Heap.lt_size e) I.ok.above)
  obtain⟨sl,q⟩:=I.base.slot b o e n' hb hx
  exact⟨sl,sm b _ neL q⟩
 ·have neL:b ≠ X.env.locals:=Nat.ne_of_lt (Nat.lt_of_lt_of_le (Heap.lt_size e) I.ok.above)
  obtain⟨o',q⟩:=I.base.there b o e hx
  exact⟨o',sm b _ neL q⟩
 ·have hij:j ≠ i:=fun z=>by
   subst z
   rw[List.getElem?_set_self (by rw[I.len];exact (List.getElem?_eq_some_iff.mp hi).1)] at e2
   cases e2
  rw[List.getElem?_set_ne (Ne.symm hij)] at e2
  have hxn:x ≠ n:=fun z=>by
   subst z
   exact hij ((List.getElem?_inj (List.getElem?_eq_some_iff.mp e1).1 hN).mp (e1.trans hi.symm))
  obtain⟨u,r,l⟩:=hl j x w e1 e2 e3
  refine⟨u,r,?_⟩
  rcases l with ⟨k,q⟩|⟨k,c,q,z⟩
  ·exact .inl ⟨k,(if_neg hxn).trans q⟩
  ·exact .inr ⟨k,c,q,cellK x c q _ z⟩
 ·obtain⟨w,z⟩:=I.cell x c e
  exact⟨w,cellK x c e w z⟩
 ·obtain⟨q1,q2,q3,q4,q5⟩:=I.pin p hp
  exact⟨sm _ _ q3 q1,q2,q3,q4,q5⟩
 ·refine (I.hok b u e).stay (fun c w hc q=>sm c w (fun z=>?_) q) (fun _ q=>q) fun _ _ q=>q
  subst z
  rcases hc with z|z
  ·rw[<- z,I.free] at e;cases e
  ·rw[I.free] at z;cases z
end
end L2
namespace L2
open PySem PySem.Spec PyProof.Rows
def Ds(K:W.Frag)(C0:Addr)(i:Nat)(tb:St->Hp->XK->Prop)(ts:TS):TS:=fun D σ H =>
 tb σ H fun c _ H1=>∃ C,c = .ref C/\PySem.W.exmOne K (.ref C) (.ref C0)=some true /\ ∀ a H2,vw K H1 a=none->ar (vw K H1) (vw K H2)->vw K H2 a=some (DK a C)->ts { nx:=fun σ2 H2=>D.nx (σ2.set i none) H2,rt:=fun _ _=>False } (σ.set i (some (.ref a))) H2
section
variable {X:Cx}
theorem Dd{e:Expr}{cls n:Str}{b0:Stmt}{suite:List Stmt}{p1 np hp pos:Pos}{C0:Addr}{i:Nat}{tb:St->Hp->XK->Prop}{ts:TS}(hx0:X.ex=[])(hs:X.stack=X.env :: X.outer)(hfr:X.env.frame=some X.env.locals)
  (hb:PX X e tb)(hN:X.N.Nodup)(hi:X.N[i]? = some n)(hloc:X.env.scope.names.lookup n=some .local)(hg:Gl X cls)(hm:X.mg cls=some (.ref C0))(hsu:∀ v,oF (X.marked v) (b0 :: suite) ts)
  (hdb:(cls == ("__debug__" : Str))=false:=by decide) (hsw:swapsWith e none p1.line X.env=pure false:=by rfl) :
  PS X (.Try [.Expr e p1] [.ExceptHandler (some (.Name cls np)) (some n) (b0 :: suite) hp] [] [] pos) (Ds X.K C0 i tb ts):=by
 intro pins s σ H D I h
 obtain⟨E1,hE1⟩ : ∃ E1:XK,E1=fun c _ H1=>∃ C,c = .ref C/\PySem.W.exmOne X.K (.ref C) (.ref C0)=some true /\ ∀ a H2,vw X.K H1 a=none->ar (vw X.K H1) (vw X.K H2)->vw X.K H2 a=some (DK a C)->ts { nx:=fun σ2 H2=>D.nx (σ2.set i none) H2,rt:=fun _ _=>False } (σ.set i (some (.ref a))) H2:=⟨_,rfl⟩
 have h':tb σ H E1:=by rw[hE1];exact h
 refine wpAny_Try_except (wpAny_mono (Q:=fun _ _=>False) (E:=fun ev s'=>∃ s1 H1,aw X pins σ H1 s1/\jX X.prog X.w X.stack H1 s1 E1 ev s') ?_ (fun _ _ z=>z.elim) fun ev s' hx=>?_)
 ·refine wpAny_execs_cons (wpAny_Expr_any (cn (hb pins s σ H E1 I h') fun _ _ z=>z.elim) I.quiet hsw)
 ·obtain⟨s1,H1,I1,a,C,a0,B,H',rfl,os,gb,un,hok,fl,F,q⟩:=hx
  rw[hE1] at q
  obtain⟨C',ec,hex,q⟩:=q
  cases ec
  have hfr':X.A.frames=some (X.env :: X.outer):=by rw[I1.ok.frames,hs]
  have fl0:=fl
  rw[hs] at fl
  have nB:B.get? a=none:=fl0.2.1
  obtain⟨oa,va,ga,ca,da,_⟩:=fl0.first
  have n1:s1.heap.get? a=none:=by
   cases z:s1.heap.get? a with
   | none=>rfl
   | some o =>
    by_cases hf:a ∈ gg X.stack
    ·obtain⟨_,o',e3,hd⟩:=fl0.2.2.1.mem hf
     rw[ga] at e3;cases e3
     exact absurd da (hd _)
    ·obtain⟨o',q'⟩:=F.b3 a o z hf
     rw[nB] at q';cases q'
  have n0:X.s₀.heap.get? a=none:=by
   cases z:X.s₀.heap.get? a with
   | none=>rfl
   | some o =>
    obtain⟨o',q'⟩:=I1.base.there a o z (by rw[hx0];simp)
    rw[n1] at q';cases q'
  have nH:H' a=none:=by
   cases z:H' a with
   | none=>rfl
   | some u =>
    obtain⟨o',q'⟩:=F.b1 a (by rw[z];simp)
    rw[nB] at q';cases q'
  have nL:a ≠ X.env.locals:=fun z=>by
   obtain⟨m,⟨o,_,_,ho,_⟩,_⟩:=I1.loc
   rw[<- z,n1] at ho;cases ho
  have nC:∀ x c,X.env.cells.lookup x=some c->c ≠ a:=fun x c e' z=>by
   obtain⟨v,o,ho,_⟩:=I1.cell x c e'
   rw[z,n1] at ho;cases ho
  have nP:∀ p ∈ X.pn ++ pins,p.1 ≠ a:=fun p hp' z=>by
   have ho:=(I1.pin p hp').1
   rw[z,n1] at ho;cases ho
  refine wpAny_looks_onW hfr' hfr fl fun h4 held4 up4=>?_
  refine wpAny_landsW held4 fun h5 fl5 up5=>?_
  have up45:=up4.trans up5
  have I5:=I1.landed F un hok fl0.1 fl5.1 up45 os gb
  refine wpAny_handleBy_cons (codeAny_handlers_test ?_) (by intro z;cases z)
  refine iD (X:=X.marked (.ref a)) (I5.mark (.ref a)) hg hm ?_ hdb
  obtain⟨o5,g5,c5⟩:=fl5.there
  have LT:PySem.W.Looks (model X.prog X.w) h5 (typeOf (.ref a)) (.ref C):=c5 ▸ (PySem.W.Looks.ld g5).andThen .now
  refine (PySem.W.exm_one I5.kIn LT hex).here ?_
  refine codeAny_handlers_suite_as ?_
  refine lands_againW fl5 fun h6 fl6 up6=>?_
  have I6:=I1.landed F un hok fl0.1 fl6.1 (up45.trans up6) os gb
  obtain⟨o6,g6,c6⟩:=fl6.there
  have I7:=I6.track (a:=a) (o:=DK a C) nH n0 nL nC nP ⟨⟨o6,g6,c6⟩,⟨o6,g6⟩,fun ha hb ⟨o,e1,e2⟩ k=>⟨o,k o e1,e2⟩⟩
  have hKa:X.K.lookup a=none:=by
   cases z:X.K.lookup a with
   | none=>rfl
   | some ob =>
    have e1:=I1.bk a ob (I1.ok.mod.kin a ob z)
    rw[n1] at e1;cases e1
  have hv1:vw X.K H' a=none:=(cK hKa).trans nH
  have hv2:vw X.K (upd H' a (DK a C)) a=some (DK a C):=(cK hKa).trans aY
  refine gr I7 hN hi (.inl hloc) (v:=.ref a) rfl (fun s8 I8=>?_) (.inr hloc)
  refine wpAny_mono ((hsu (.ref a)) pins s8 _ _ _ (I8.mark (.ref a)) (q a _ hv1 (ki (ar.upd nH)) hv2)) (fun f s9 z=>?_) fun _ _ z=>z.elim
  cases f with
  | next =>
   obtain⟨σ9,H9,I9,q9⟩:=z
   have I9':=I9.unmark I.ok
   obtain⟨m,hn,hl⟩:=id I9'.loc
   refine wpAny_nameGoes_keeps hloc hn (by rw[I.ok.kind];rfl) fun h10 v10 hn10 hs10=>?_
   exact⟨_,H9,I9'.unset hN hi hn hl hn10 hs10,q9⟩
  | brk=>obtain⟨_,_,_,z⟩:=z;exact z.elim
  | cont=>obtain⟨_,_,_,z⟩:=z;exact z.elim
  | ret u=>obtain⟨_,_,_,_,_,z⟩:=z;exact z.elim
end
end L2
namespace L2
open PySem PySem.Spec PyProof.Rows
theorem jX.imp{P:Program}{w:World}{outer:List Env}{H:Hp}{s s':Shared}{E E':XK}{e:Value}(h:jX P w outer H s E e s')(k:∀ c o H',E c o H'->E' c o H'):jX P w outer H s E' e s':=by
 obtain⟨a,C,a0,B,H',h1,h2,h3,h4,h5,h6,h7,h8⟩:=h
 exact⟨a,C,a0,B,H',h1,h2,h3,h4,h5,h6,h7,k _ _ _ h8⟩
structure DP (P:Program)(w:World)(K:W.Frag)(mg:Str->Option Value)(base:Heap)(k:Nat)(p C:Addr)(s:Shared)(H:Hp)(outer:List Env):Prop where
 fn:∃ oc od fd sl,s.heap.get? p=some ⟨oc,od,.func fd,sl⟩
 free:H p=none
 nof:p ∉ gg outer
 run:∀ (A':Around)(outer':List Env)(s':Shared),cF k A'->mx P w K mg base A' outer' s' H->(∀ b o,s.heap.get? b=some o->H b=none->b ∉ gg outer->s'.heap.get? b=some o) ->
  codeAny (model P w) A' (.call (.ref p) ⟨[],[]⟩) (CR (jX P w) outer' P w H s' (fun _ _=>False) (fun c o H'=>c = .ref C/\o=none/\ar (vw K H) (vw K H'))) s'
theorem CB{X:Cx}{k i:Nat}{x:Str}{p C:Addr}{p1 p2:Pos}(hx0:X.ex=[])(L:DP X.prog X.w X.K X.mg X.base k p C X.s₀ X.H₀ X.outer)(hr:cF k X.A)(hi:X.N[i]? = some x)(hv:Dg X.env.scope x)
  (hd:(x == ("__debug__" : Str))=false:=by decide) (hcd:(x == ("__classdict__" : Str))=false:=by decide) :
  PX X (.Call (.Name x p1) [] [] p2) (fun σ H E=>H=X.H₀/\σ[i]? = some (some (.ref p)) /\ ∀ H',ar (vw X.K X.H₀) (vw X.K H')->E (.ref C) none H'):=by
 intro pins s σ H E I h
 obtain⟨rfl,hσ,hE⟩:=h
 have nx:∀ b,b ∉ X.ex:=fun b z=>by rw[hx0] at z;exact absurd z (by simp)
 refine wpAny_Call_Name_kw ?_
 refine cn (xP (X:=X.wish fun ev s'=>∃ s1 H1,aw X pins σ H1 s1/\jX X.prog X.w X.stack H1 s1 E ev s') hi hv hd hcd pins s σ X.H₀ (fun v H1=>v = .ref p/\H1=X.H₀) (I.wish _) ⟨.ref p,hσ,rfl,rfl⟩) (fun u s1 z=>?_)
 obtain⟨v,H1,I1,r,rfl,rfl⟩:=z
 have I1:=I1.unwish
 cases r
 have keep:∀ b o,X.s₀.heap.get? b=some o->X.H₀ b=none->b ∉ gg X.outer->s1.heap.get? b=some o:=fun b o e n nf=>I1.base.keep b o e n nf (nx b)
 obtain⟨oc,od,fd,sl,hfn⟩:=L.fn
 refine PySem.W.callWith_F0 ⟨oc,od,fd,sl,keep _ _ hfn L.free L.nof⟩ ?_
 refine wpAny_call (codeAny_mono (L.run X.A X.stack s1 hr I1.env0 keep) fun r s' hq=>?_)
 cases r with
 | error e =>
  have hq':jX X.prog X.w X.stack X.H₀ s1 (fun c o H'=>c = .ref C/\o=none/\ar (vw X.K X.H₀) (vw X.K H')) e s':=hq
  exact⟨s1,X.H₀,I1,hq'.imp fun c o H' ⟨q1,q2,q3⟩=>by subst q1 q2;exact hE H' q3⟩
 | ok fl =>
  cases fl with
  | ret u=>obtain⟨_,_,_,_,_,_,_,z⟩:=hq;exact z.elim
  | next=>exact False.elim hq
  | brk=>exact False.elim hq
  | cont=>exact False.elim hq
theorem CH{CX:rD}{P:Program}{w:World}{K:W.Frag}{mg:Str->Option Value}{base:Heap}{k:Nat}{f:Addr}{name qual:Str}{params:Arguments}{body:List Stmt}{scope:Scope}{dV kV doc pm cdv ct oc:Value}{an od:Option Addr}
  {osl:Array (Option Value)}{N ps:List Str}{A:Around}{outer:List Env}{s:Shared}{H:Hp}{args:Args}{us:List Value}{vs:List V}{Q:VK}{E:XK}
  (lk:K.lookup f=some ⟨oc,od,.func (PySem.W.fnOf name qual params body scope dV kV doc pm an cdv ct),osl⟩)(hcd:PySem.W.codeIn K cdv qual=true)(S:av N ps scope)
  (hr:cF (k+1) A)(e0:mx P w K mg base A outer s H)(hb:BindsTo s (PySem.W.fnOf name qual params body scope dV kV doc pm an cdv ct) args (ps.zip us))(r:aL vs us)(hl:vs.length=ps.length)
  (hbody:cF k (A.deeper (envOfC qual scope s.heap.objs.size f cdv)) -> ∃ t,oF (eN CX P w K mg base N qual scope f cdv A outer s H E) body t/\t { nx:=fun _ H'=>Q .non H',rt:=Q } (start N vs) H) :
  codeAny (model P w) A (.call (.ref f) args) (CR CX outer P w H s Q E) s:=by
 have KX:K.In s.heap:=e0.mod.kin.keeps fun b o e=>(e0.bs b o e).1
 have lim:s.heap.NoLimit:=e0.mod.nolimit.keeps fun b o e=>(e0.bs b o e).1
 have hkind:∀ y ∈ ps.zip us,scope.names.lookup y.1=some .local\/(scope.names.lookup y.1=some .cell/\((cellsFrom (s.heap.objs.size+1) scope.names []).lookup y.1).isSome=true):=fun ⟨n,v⟩ hy=>by
  rcases S.par n (List.of_mem_zip hy).1 with q|q
  ·exact .inl q
  ·exact .inr ⟨q,PySem.W.cellsFrom_some _ _ _ (.inl q)⟩
 refine codeAny_call_function hr.depth (KX _ _ lk) rfl S.co S.gen rfl (PySem.W.codeRec_of KX hcd) (hb _ _ _ _ ?_)
 refine wpAny_newFunctionEnv_cells S.kind hkind fun env he s1 x=>?_
 subst he
 refine⟨lim.keeps x.toInCall.keep,codeAny_func ?_⟩
 obtain⟨t,ht,hq⟩:=hbody (hr.deeper _)
 have I:aw (eN CX P w K mg base N qual scope f cdv A outer s H E) [] (start N vs) H s1:=nJ S hr.hd e0 hl r x
 refine wpAny_mono (ht [] s1 (start N vs) H _ I hq) (fun fl s' hs=>?_) fun e s' hs=>hs
 have fin:∀ {σ':St}{H':Hp}{v:V}{u:Value},aw (eN CX P w K mg base N qual scope f cdv A outer s H E) [] σ' H' s'->aS v u->Q v H'->CE outer P w H s Q u s' :=
  fun {σ' H' v u} J rv q=>⟨v,H',J.os,J.bare,J.base,J.hok,rv,q⟩
 cases fl with
 | ret u =>
  obtain⟨v,σ',H',J,rv,q⟩:=hs
  exact fin J rv q
 | next =>
  obtain⟨σ',H',J,q⟩:=hs
  exact fin (v:=V.non) (u:=Value.none) J rfl q
 | brk =>
  obtain⟨_,_,_,q⟩:=hs
  exact False.elim q
 | cont =>
  obtain⟨_,_,_,q⟩:=hs
  exact False.elim q
end L2
namespace L2
open PySem PySem.Spec PyProof.Rows
def qI(c:Addr)(qual:Str):HO:=.ext (fun h=>h.CodeRec (.ref c) qual)
def cp(H:Hp)(P:Addr)(qual:Str):Prop:=∃ ps,H P=some (.tbl ps)/\TriplesOk ps.toList /\ ∀ pos cv,codeAmong pos ps.toList=some cv -> ∃ c,cv = .ref c/\H c=some (qI c qual)
theorem me{pos:Pos}{a b:Int}{c cv:Value}(l:List Value)(h:TriplesOk l)(z:codeAmong pos (l ++ [rawInt a,rawInt b,c])=some cv):codeAmong pos l=some cv\/cv=c:=by
 fun_induction TriplesOk l with
 | case1 =>
  simp only[List.nil_append,codeAmong,rawInt] at z
  split at z
  ·exact .inr (Option.some.inj z).symm
  ·cases z
 | case2 a' t b' u x rest ih =>
  simp only[List.cons_append,codeAmong] at z ⊢
  by_cases hh:(a' == (pos.line:Int) && b' == (pos.col:Int))=true
  ·rw[if_pos hh] at z ⊢
   exact .inl z
  ·rw[if_neg hh] at z ⊢
   exact ih h z
 | case3 l h1 h2=>exact h.elim
theorem aw.tabbed{X:Cx}{pins:List (Addr × Obj)}{σ:St}{H:Hp}{s:Shared}{P c':Addr}{qual:Str}{ps more:Array Value}{h2:Heap}{t':Nat}(I:aw X pins σ H s)(hP:H P=some (.tbl ps))(hx:Heap.ExtBut P s.heap h2)(hc:s.heap.objs.size<=c')
  (hr:h2.CodeRec (.ref c') qual)(hP2:h2.get? P=some { cls:=.none,data:=.fields (ps ++ more) }):aw X pins σ (upd (upd H P (.tbl (ps ++ more))) c' (qI c' qual)) { s with heap:=h2,toks:=t' }:=by
 have nc:H c'=none:=I.hok.fresh hc
 have cP:c' ≠ P:=fun z=>by rw[z,hP] at nc;cases nc
 have nP:∀ b,H b=none->b ≠ P:=fun b n z=>by rw[z,hP] at n;cases n
 have old:∀ b o,s.heap.get? b=some o->b ≠ c':=fun b o e z=>by rw[z] at e;exact absurd (Nat.lt_of_lt_of_le (Heap.lt_size e) hc) (Nat.lt_irrefl _)
 have DV:∀ b u,H b=some u->(∀ q,u ≠ .tbl q)->upd (upd H P (.tbl (ps ++ more))) c' (qI c' qual) b=some u:=fun b u e nt=>by
  rw[aG (ai e nc),aG (fun z=>by rw[z,hP] at e;cases e;exact nt _ rfl)]
  exact e
 refine I.step (h':=h2) (g':=s.gens) (d':=s.drawn) (t':=t') (ch:=[]) (fun _ z=>nomatch z) (fun b o _ _ _ e n=>hx b o (nP b n) e) (fun b o _ _ _ e n=>⟨o.slots,hx b o (nP b n) e⟩) (fun b o _ e n=>?_) (fun b o _ e=>?_)
  (fun b xs e=>DV b _ e (fun _ z=>by cases z)) (fun b o u e=>DV b _ e (fun _ z=>by cases z)) (fun b qs e=>?_) (fun m hm=>?_) (fun b u e=>?_) I.bare
 ·rw[aG (old b o e),aG (nP b n)]
  exact n
 ·by_cases hb:b=P
  ·exact⟨_,by rw[hb];exact hP2⟩
  ·exact⟨o,hx b o hb e⟩
 ·by_cases hb:b=P
  ·subst hb
   rw[hP] at e
   cases e
   exact⟨more,by rw[aG (Ne.symm cP),aY]⟩
  ·exact⟨#[],by rw[aG (ai e nc),aG hb,e];simp⟩
 ·obtain⟨o,es,ep,ho,r⟩:=hm
  exact⟨o,es,ep,hx _ o (nP _ I.free) ho,r⟩
 ·by_cases hb:b=c'
  ·subst hb
   rw[aY] at e
   cases e
   obtain⟨c2,oc,vs,t,e1,e2,e3⟩:=id hr
   cases e1
   exact⟨hr,⟨_,e2⟩,fun ha hb ⟨c3,o3,v3,t3,q1,q2,q3⟩ k=>by cases q1;exact⟨_,o3,v3,t3,rfl,k o3 q2,q3⟩⟩
  ·rw[aG hb] at e
   by_cases hp:b=P
   ·subst hp
    rw[aY] at e
    cases e
    exact hP2
   ·rw[aG hp] at e
    refine (I.hok b u e).stay (fun c v hc' q=>hx c v (fun z=>?_) q) (fun c q=>DV c _ q fun _ z=>by cases z) fun c xs q=>DV c _ q fun _ z=>by cases z
    rcases hc' with z2|z2
    ·exact hp (z2.symm.trans z)
    ·rw[z,hP] at z2;cases z2
theorem nZ{env:Env}:∀(l:List (Str × NameKind))(acc:List (Str × Addr)),(∀ q ∈ l,q.2 = .free -> ∃ c,env.cells.lookup q.1=some c)->(∀ x ∈ acc,env.cells.lookup x.1=some x.2) ->
  ∃ r,(forIn l acc (fun (x:Str × NameKind)(cs:List (Str × Addr))=>(if (x.2 == NameKind.free)=true then do let c <- cellOf env x.1;pure (ForInStep.yield ((x.1,c) :: cs)) else pure (ForInStep.yield cs):Sem (ForInStep (List (Str × Addr))))):Sem (List (Str × Addr)))=pure r /\
   (∀ x ∈ r,env.cells.lookup x.1=some x.2)/\(∀ q ∈ l,q.2 = .free -> ∃ c,(q.1,c) ∈ r) /\ ∀ x ∈ acc,x ∈ r
 | [],acc,_,ha=>⟨acc,rfl,ha,by simp,fun _ z=>z⟩
 | q :: l,acc,h,ha=>by
  obtain⟨n,kd⟩:=q
  rw[List.forIn_cons]
  by_cases hk:kd = .free
  ·subst hk
   obtain⟨c,hc⟩:=h (n,.free) (by simp) rfl
   obtain⟨r,e1,e2,e3,e4⟩:=nZ (env:=env) l ((n,c) :: acc) (fun q hq=>h q (by simp[hq])) (fun x hx=>by
    rcases List.mem_cons.mp hx with z|z
    ·rw[z];exact hc
    ·exact ha x z)
   refine⟨r,?_,e2,fun q hq hf=>?_,fun x hx=>e4 x (by simp[hx])⟩
   ·simp only[cellOf,hc,pure_bind,beq_self_eq_true,if_true]
    exact e1
   ·rcases List.mem_cons.mp hq with z|z
    ·rw[z];exact⟨c,e4 _ (by simp)⟩
    ·exact e3 q z hf
  ·obtain⟨r,e1,e2,e3,e4⟩:=nZ (env:=env) l acc (fun q hq=>h q (by simp[hq])) ha
   refine⟨r,?_,e2,fun q hq hf=>?_,e4⟩
   ·have:(kd == NameKind.free)=false:=by simpa using hk
    simp only[this,Bool.false_eq_true,if_false,pure_bind]
    exact e1
   ·rcases List.mem_cons.mp hq with z|z
    ·rw[z] at hf;exact absurd hf hk
    ·exact e3 q z hf
theorem AG{env:Env}{scope:Scope}(h:∀ q ∈ scope.names,q.2 = .free -> ∃ c,env.cells.lookup q.1=some c):∃ r,closureFor scope env=pure r/\(∀ x ∈ r,env.cells.lookup x.1=some x.2)/\(∀ q ∈ scope.names,q.2 = .free -> ∃ c,(q.1,c) ∈ r):=by
 obtain⟨r,e1,e2,e3,_⟩:=nZ (env:=env) scope.names [] h (by simp)
 refine⟨r,?_,e2,e3⟩
 unfold closureFor
 have e1':=e1
 first
  | (rw[<- e1];simp;done)
  | (simp only[bind_pure];rw[<- e1];rfl)
  | (show (forIn scope.names [] _ >>= pure)=_;rw[bind_pure];rw[<- e1];rfl)
end L2
namespace L2
open PySem PySem.Spec PyProof.Rows
structure ua (X:Cx)(c P:Addr):Prop where
 code:X.env.code = .ref c
 hd:PySem.W.CodeHd X.base c P
 bi:∃ bm o,X.mg "__builtins__" = some (.ref bm)/\bm ≠ builtinsNs/\bm ≠ mainGlobals/\X.base.get? bm=some o/\o.cls = .type "module" /\ o.dict=some builtinsNs/\o.data = .plain
abbrev i4 (X:Cx):Str:=X.env.qual ++ "<lambda>"
theorem wA{X:Cx}{pins:List (Addr × Obj)}{σ:St}{H:Hp}{s:Shared}{params:Arguments}{body:Expr}{scope:Scope}{pos:Pos}{c P:Addr}{M':Model}{A':Around}{Q:Value->Shared->Prop}{E:Value->Shared->Prop}
  (M:ua X c P)(hdef:defaultsOf params X.env=([],[]))(I:aw X pins σ H s)(hT:cp H P (i4 X))(hfree:∀ q ∈ scope.names,q.2 = .free->X.env.kindOf q.1=some .cell)
  (k:∀ (p c':Addr)(pm ctv:Value)(clos:List (Str × Addr))(H1:Hp)(s1:Shared),(∀ x ∈ clos,X.env.cells.lookup x.1=some x.2)->(∀ q ∈ scope.names,q.2 = .free -> ∃ c,(q.1,c) ∈ clos)->aw X pins σ H1 s1->dS P H H1->cp H1 P (i4 X) ->
   s1.heap.get? p=some (PySem.W.kla_obj "<lambda>" (i4 X) params body scope clos pm c' ctv)->H1 p=none->s.heap.objs.size<=p->H1 c'=some (qI c' (i4 X))->Q (.ref p) s1) :
  wpAny M' A' (eval (.Lambda params body scope pos) X.env) Q E s:=by
 obtain⟨clos,hcl,hc1,hc2⟩:=AG (env:=X.env) (scope:=scope) fun q hq hf=>I.ok.has q.1 (.inl (hfree q hq hf))
 refine PySem.W.kla_eval hdef ?_
 obtain⟨ps,hP,ht,hall⟩:=hT
 have oP:s.heap.get? P=some (PySem.W.tabObj ps):=I.hok P _ hP
 obtain⟨bm,o,b1,b2,b3,b4,b5,b6,b7⟩:=M.bi
 have bP:bm ≠ P:=fun z=>by
  have:=(I.bs bm o b4).2
  rw[z,hP] at this;cases this
 have gP:mainGlobals ≠ P:=fun z=>by
  obtain⟨og,_,_,eg,_⟩:=I.mod.glob
  have:=(I.bs _ og eg).2
  rw[z,hP] at this;cases this
 have hb:s.heap.BuiltinsAt X.mg P:=⟨bm,o,b1,b2,b3,bP,I.bk _ _ b4,b5,b6,b7⟩
 cases hh:codeAmong pos ps.toList with
 | none =>
  refine PySem.W.kla_makeFunction hcl I.ok.glob (I.mod.glob.keeps I.bk) M.code (M.hd.keeps I.bk) oP ht hh gP hb fun c' ctv h' tk hx hge hlt hrec htb=>?_
  have I1:=I.tabbed (t':=tk) hP hx hge hrec htb
  have I2:=I1.kept (t':=tk) (h':=h'.push (PySem.W.kla_obj "<lambda>" (i4 X) params body scope clos ((X.mg "__name__").getD .none) c' ctv)) fun b o e=>Heap.get?_push_of_some _ e
  have nc:H c'=none:=I.hok.fresh hge
  have cP:c' ≠ P:=fun z=>by rw[z,hP] at nc;cases nc
  have hle:s.heap.objs.size<=h'.objs.size:=Nat.le_trans hge (Nat.le_of_lt hlt)
  refine k _ c' _ ctv clos _ _ hc1 hc2 I2 (fun b o hb e=>?_) ⟨_,by rw[aG (Ne.symm cP),aY],?_,fun pos' cv z=>?_⟩ (Heap.get?_push_size _ rfl) (I1.hok.fresh (Nat.le_refl _)) hle aY
  ·rw[aG (ai e nc),aG hb]
   exact e
  ·rw[Array.toList_append]
   exact TriplesOk_snoc _ _ _ _ ht
  ·rw[Array.toList_append] at z
   rcases me _ ht z with q|q
   ·obtain⟨c2,e2,e3⟩:=hall pos' cv q
    refine⟨c2,e2,?_⟩
    rw[aG (ai e3 nc),aG (fun z=>by rw[z,hP] at e3;cases e3)]
    exact e3
   ·exact⟨c',q,aY⟩
 | some cv =>
  obtain⟨c',rfl,hcO⟩:=hall pos cv hh
  refine PySem.W.kla_makeFunctionHit hcl I.ok.glob (I.mod.glob.keeps I.bk) M.code (M.hd.keeps I.bk) oP ht hh hb fun ctv h' tk hk hsz=>?_
  have I1:=I.kept (t':=tk) (h':=h') hk
  have I2:=I1.kept (t':=tk) (h':=h'.push (PySem.W.kla_obj "<lambda>" (i4 X) params body scope clos ((X.mg "__name__").getD .none) c' ctv)) fun b o e=>Heap.get?_push_of_some _ e
  exact k _ c' _ ctv clos _ _ hc1 hc2 I2 (fun b o _ e=>e) ⟨ps,hP,ht,hall⟩ (Heap.get?_push_size _ rfl) (I1.hok.fresh (Nat.le_refl _)) hsz hcO
def mM(P:Program)(w:World)(K:W.Frag)(mg:Str->Option Value)(base:Heap)(N:List Str)(qual:Str)(scope:Scope)(p:Addr)(cd:Value)(cl:List (Str × Addr))(A:Around)(outer:List Env)(s:Shared)(H:Hp):Cx where
 prog:=P
 w:=w
 K:=K
 mg:=mg
 base:=base
 A:=A.deeper (PySem.W.envX qual scope s.heap.objs.size p cd cl)
 N:=N
 s₀:=s
 H₀:=H
 env:=PySem.W.envX qual scope s.heap.objs.size p cd cl
 outer:=outer
 stack:=PySem.W.envX qual scope s.heap.objs.size p cd cl :: outer
 ex:=[]
 fn:=fun _=>false
 calm:=true
 pn:=[]
 xe:=fun _ _=>False
theorem iP{cl:List (Str × Addr)}{f:Str->Option Addr}(h:∀ x ∈ cl,f x.1=some x.2) {n:Str}{c:Addr}(hm:(n,c) ∈ cl):cl.lookup n=some c:=by
 induction cl with
 | nil=>cases hm
 | cons q r ih =>
  obtain⟨m,d⟩:=q
  rw[List.lookup_cons]
  by_cases e:n=m
  ·subst e
   have h1:=h (n,d) (by simp)
   have h2:=h (n,c) hm
   rw[h1] at h2
   cases h2
   simp
  ·have:(n == m)=false:=by simpa using e
   rw[this]
   refine ih (fun x hx=>h x (by simp[hx])) ?_
   rcases List.mem_cons.mp hm with z|z
   ·cases z;exact absurd rfl e
   ·exact z
theorem fI{cl:List (Str × Addr)}{n:Str}{c:Addr}(h:cl.lookup n=some c):(n,c) ∈ cl:=by
 induction cl with
 | nil=>cases h
 | cons q r ih =>
  obtain⟨m,d⟩:=q
  rw[List.lookup_cons] at h
  by_cases e:(n == m)=true
  ·rw[e] at h
   cases h
   rw[eq_of_beq e]
   simp
  ·have:(n == m)=false:=by simpa using e
   rw[this] at h
   exact List.mem_cons_of_mem _ (ih h)
end L2
namespace L2
open PySem PySem.Spec PyProof.Rows
theorem zN{P:Program}{w:World}{K:W.Frag}{mg:Str->Option Value}{base:Heap}{N:List Str}{qual:Str}{scope:Scope}{p:Addr}{cd:Value}{cl:List (Str × Addr)}{A:Around}{outer:List Env}{s:Shared}{H:Hp}{σ:St}{h1:Heap}{t:Nat}{g:Str->Option Addr}
  (hk:scope.kind = .function)(hh:A.handled=none)(e0:mx P w K mg base A outer s H)(hg:∀ x ∈ cl,g x.1=some x.2)(hinj:∀ x y c,g x=some c->g y=some c->x=y)(hfr:∀ q ∈ scope.names,q.2 = .free -> ∃ c,(q.1,c) ∈ cl)(hnc:∀ q ∈ scope.names,q.2 ≠ .cell)
  (hns:h1.Ns s.heap.objs.size (fun _=>none))(keep:∀ b o,s.heap.get? b=some o->h1.get? b=some o)(hcell:∀ x c,cl.lookup x=some c->H c=none /\ ∃ v,s.heap.IsCell c v)
  (hloc:∀ (i:Nat)(x:Str)(v:V),N[i]? = some x->σ[i]? = some (some v)->scope.names.lookup x=some .free /\ ∃ u c,aS v u/\cl.lookup x=some c/\s.heap.IsCell c (some u))(hlen:σ.length=N.length) :
  aw (mM P w K mg base N qual scope p cd cl A outer s H) [] σ H { s with heap:=h1,toks:=t }:=by
 have noA:∀ b:Addr,b ∉ (mM P w K mg base N qual scope p cd cl A outer s H).ex:=fun b z=>absurd (show b ∈ ([]:List Addr) from z) (by simp)
 refine⟨⟨e0.mod,hk,rfl,rfl,Nat.le_refl _,fun x y c h1 h2=>?_,fun x hx=>?_,(fun x c h=>nomatch h),fun _=>hh,Around.frames_deeper e0.frames,.inr ⟨rfl,rfl⟩,fun b z=>absurd z (noA b),e0.bs,e0.bsz,fun b _ _=>noA b,fun b z=>absurd z (noA b),e0.funs,e0.frf⟩,
  rfl,e0.bare,Un.kept keep,⟨_,hns,fun i x v h1 h2 h3=>?_⟩,fun x c h=>?_,e0.hok.fresh (Nat.le_refl _),fun x c h=>(hcell x c h).1,fun q hq=>absurd (show q ∈ ([]:List (Addr × Obj)) from hq) (by simp),e0.hok.kept keep,hlen⟩
 ·exact hinj x y c (hg _ (fI h1)) (hg _ (fI h2))
 ·have hx':scope.names.lookup x=some .cell\/scope.names.lookup x=some .free:=hx
  rcases hx' with z|z
  ·exact absurd rfl (hnc _ (PySem.mem_of_lookup z))
  ·obtain⟨c,hc⟩:=hfr _ (PySem.mem_of_lookup z) rfl
   exact⟨c,iP hg hc⟩
 ·obtain⟨hf,u,c,r,hc,o,ho,hd⟩:=hloc i x v h1 h2
  exact⟨u,r,.inr ⟨.inr hf,c,hc,o,keep _ _ ho,hd⟩⟩
 ·obtain⟨_,v,o,ho,hd⟩:=hcell x c h
  exact⟨v,o,keep _ _ ho,hd⟩
theorem BK{X:Cx}{pins:List (Addr × Obj)}{σ σl:St}{H:Hp}{s:Shared}{params:Arguments}{body:Expr}{scope:Scope}{qual:Str}{p c' C:Addr}{pm ctv:Value}{clos:List (Str × Addr)}{Nl:List Str}{k:Nat}{tl:St->Hp->XK->Prop}
  (hfn:∀ x,X.fn x=true)(I:aw X pins σ H s)(hc1:∀ x ∈ clos,X.env.cells.lookup x.1=some x.2)(hc2:∀ q ∈ scope.names,q.2 = .free -> ∃ c,(q.1,c) ∈ clos)
  (hp:s.heap.get? p=some (PySem.W.kla_obj "<lambda>" qual params body scope clos pm c' ctv)) (hpn:H p=none)(hpf:p ∉ gg X.stack)(hco:H c'=some (qI c' qual))
  (hk:scope.kind = .function)(hnc:∀ q ∈ scope.names,q.2 ≠ .cell)(hsc:scope.isCoroutine=false/\scope.isGenerator=false)(hbind:bindArgs (PySem.W.kla_fn "<lambda>" qual params body scope clos pm (.ref c') ctv) ⟨[],[]⟩=pure [])
  (hN:∀ (i:Nat)(x:Str)(v:V),Nl[i]? = some x->σl[i]? = some (some v)->scope.names.lookup x=some .free/\X.env.kindOf x=some .cell /\ ∃ j:Nat,X.N[j]? = some x/\σ[j]? = some (some v))(hlen:σl.length=Nl.length)
  (hb:∀ (A':Around)(outer':List Env)(s':Shared),cF k (A'.deeper (PySem.W.envX qual scope s'.heap.objs.size p (.ref c') clos))->PX (mM X.prog X.w X.K X.mg X.base Nl qual scope p (.ref c') clos A' outer' s' H) body tl)
  (ht:tl σl H fun c o H'=>c = .ref C/\o=none/\ar (vw X.K H) (vw X.K H')):DP X.prog X.w X.K X.mg X.base (k+1) p C s H X.stack:=by
 have cells:∀ x c,clos.lookup x=some c->X.env.cells.lookup x=some c:=fun x c h=>hc1 _ (fI h)
 have cfree:∀ x c,X.env.cells.lookup x=some c->c ∉ gg X.stack:=fun x c e z=>by
  rcases List.mem_cons.mp (I.stkSub c z) with q|q
  ·exact I.cne x c e q
  ·obtain⟨_,o,ho,_⟩:=I.ok.funs.mem q
   exact absurd (Nat.lt_of_lt_of_le (Heap.lt_size ho) (I.ok.cab x c (hfn x) e)) (Nat.lt_irrefl _)
 refine⟨⟨_,_,_,_,hp⟩,hpn,hpf,fun A' outer' s' hr e0 keep=>?_⟩
 have KX:X.K.In s'.heap:=e0.mod.kin.keeps fun b o e=>(e0.bs b o e).1
 have lim:s'.heap.NoLimit:=e0.mod.nolimit.keeps fun b o e=>(e0.bs b o e).1
 have hrec:s'.heap.CodeRec (.ref c') qual:=(e0.hok c' _ hco).1
 have cellAt:∀ x c v,X.env.cells.lookup x=some c->s.heap.IsCell c v->s'.heap.IsCell c v:=fun x c v e ⟨o,ho,hd⟩=>⟨o,keep c o ho (I.freeC x c e) (cfree x c e),hd⟩
 refine PySem.W.kla_callFunE hr.depth (keep _ _ hp hpn hpf) rfl hsc.1 hsc.2 rfl hrec ?_
 rw[hbind]
 refine wpAny_pure (wpAny_newFunctionEnv hnc (fun y hy=>absurd hy (by simp)) (fun h1 hns hsb=>⟨lim.fresh _ hsb,?_⟩) hk)
 show codeAny _ _ (.expr body (PySem.W.envX qual scope s'.heap.objs.size p (.ref c') clos)) _ _
 have kp:∀ b o,s'.heap.get? b=some o->h1.get? b=some o:=fun b o e=>hsb.extBut b o (Nat.ne_of_lt (Heap.lt_size e)) (Heap.get?_push_of_some _ e)
 have J:aw (mM X.prog X.w X.K X.mg X.base Nl qual scope p (.ref c') clos A' outer' s' H) [] σl H { s' with heap:=h1,toks:=s'.toks+([]:List (Str × Value)).length }:=by
  refine zN (g:=fun x=>X.env.cells.lookup x) hk hr.hd e0 hc1 (fun x y c h1 h2=>I.ok.inj x y c h1 h2) hc2 hnc (by simpa using hns) kp (fun x c e=>⟨I.freeC x c (cells x c e),?_⟩) (fun i x v e1 e2=>?_) hlen
  ·obtain⟨v,z⟩:=I.cell x c (cells x c e)
   exact⟨v,cellAt x c v (cells x c e) z⟩
  ·obtain⟨f1,f2,j,f3,f4⟩:=hN i x v e1 e2
   obtain⟨m,hn,hl⟩:=I.loc
   obtain⟨u,r,l⟩:=hl j x v f3 f4 (.inr (.inl f2))
   refine⟨f1,u,?_⟩
   rcases l with ⟨z,_⟩|⟨_,c,hc,hz⟩
   ·rw[f2] at z;cases z
   ·obtain⟨c2,hm⟩:=hc2 _ (PySem.mem_of_lookup f1) rfl
    have l2:=iP (f:=fun x=>X.env.cells.lookup x) hc1 hm
    have e3:=cells _ _ l2
    rw[hc] at e3
    cases e3
    exact⟨c,r,l2,cellAt x c _ hc hz⟩
 refine PySem.W.kla_codeExpr (wpAny_mono ((hb A' outer' s' (hr.deeper _)) [] _ σl H _ J ht) (fun _ _ z=>z.elim) fun ev s2 z=>?_)
 obtain⟨s3,H3,J3,z⟩:=z
 exact J3.passed rfl rfl rfl z fun _ _ _ q=>q
end L2
namespace L2
open PySem PySem.Spec PyProof.Rows
def Fl:V->Value->Prop
 | .ref a,u=>u = .ref a
 | .ty n,u=>u = .type n
 | _,_=>False
theorem bA{X:Cx}:dE X (.builtin "isinstance") (fun xs H Q=>∃ p c,xs=[.ref p,c] /\ ∃ C,vw X.K H p=some (DK p C)/\pc X.K C /\ ∃ cv,Fl c cv /\ ∃ b,PySem.W.kitOne X.K (.ref C) cv=some b/\Q (.bl b) H):=by
 intro pins s σ H xs us Q I r h
 obtain⟨p,c,rfl,C,hp,Z,cv,hc,b,hk,q⟩:=h
 obtain⟨u,w',rfl,rx,ry⟩:=ut r
 cases rx
 have e1:w'=cv:=by
  cases c with
  | ref a=>exact (show w'=Value.ref a from ry).trans hc.symm
  | ty n=>exact (show w'=Value.type n from ry).trans hc.symm
  | non=>exact hc.elim
  | bl _=>exact hc.elim
  | int _=>exact hc.elim
  | str _=>exact hc.elim
  | byt _=>exact hc.elim
  | flt _=>exact hc.elim
 subst e1
 have hx:yl p C s.heap:=(I.hok p _ (gC hp (fun _ z=>by cases z))).1
 exact PySem.W.kia_one (vS Z) I.kIn hx hk (by intro z;cases z) fun tk=>⟨.bl b,H,I.tok tk,rfl,q⟩
def xW:List Str:=["NoFraction", "NoPolynomial", "NoSums", "NoFlock", "NoWalk", "NoSum", "NoDeed", "NoText", "NoRow"]
structure uM (K:W.Frag)(mg:Str->Option Value)(C:Addr)(i:Nat):Prop where
 cls:pc K C
 kinds:∀ (j:Nat)(n:Str),xW[j]? = some n -> ∃ c,mg n=some (.ref c)/\PySem.W.kitOne K (.ref C) (.ref c)=some (decide (j=i))
 mom:∃ c,mg "MomentError" = some (.ref c)/\PySem.W.exmOne K (.ref C) (.ref c)=some true
 ve:PySem.W.kitOne K (.ref C) (.type "ValueError")=some true
structure tY (P:Program)(w:World)(K:W.Frag)(mg:Str->Option Value)(base:Heap)(kl:Nat):Prop where
 ex:∃ f,mg "_law_refused" = some (.ref f)/\PySem.W.keepIn K (.ref f)=true /\ ∀ (A:Around)(outer:List Env)(s:Shared)(H:Hp)(p C:Addr)(i:Nat)(Q:VK),cF (kl+1) A->mx P w K mg base A outer s H->DP P w K mg base kl p C s H outer->uM K mg C i->i<9 ->
  (∀ q H',ar (vw K H) (vw K H')->vw K H q=none->vw K H' q=some (.lst [.int i])->Q (.ref q) H')->codeAny (model P w) A (.call (.ref f) ⟨[.ref p],[]⟩) (CR dZ outer P w H s Q E0) s
theorem aw.vwT{X:Cx}{pins:List (Addr × Obj)}{σ:St}{H:Hp}{s:Shared}{b:Addr}{o:HO}(I:aw X pins σ H s)(e:H b=some o):vw X.K H b=some o:=by
 have hk:X.K.lookup b=none:=by
  cases z:X.K.lookup b with
  | none=>rfl
  | some ob =>
   have:=(I.bs b ob (I.ok.mod.kin b ob z)).2
   rw[e] at this;cases this
 rw[cK hk]
 exact e
theorem cp.raw{K:W.Frag}{H:Hp}{P:Addr}{qual:Str}(h:cp (vw K H) P qual):cp H P qual:=by
 obtain⟨ps,h1,h2,h3⟩:=h
 refine⟨ps,gC h1 (fun _ z=>by cases z),h2,fun pos cv z=>?_⟩
 obtain⟨c,e1,e2⟩:=h3 pos cv z
 exact⟨c,e1,gC e2 (fun _ z=>by cases z)⟩
theorem aw.tabV{X:Cx}{pins:List (Addr × Obj)}{σ:St}{H:Hp}{s:Shared}{P:Addr}{qual:Str}(I:aw X pins σ H s)(h:cp H P qual):cp (vw X.K H) P qual:=by
 obtain⟨ps,h1,h2,h3⟩:=h
 refine⟨ps,I.vwT h1,h2,fun pos cv z=>?_⟩
 obtain⟨c,e1,e2⟩:=h3 pos cv z
 exact⟨c,e1,I.vwT e2⟩
def tj(K:W.Frag)(P:Addr)(qual:Str)(ixs:List Nat)(C:Addr)(i:Nat)(tl:St->Hp->XK->Prop):TE:=fun σ H Q=>cp (vw K H) P qual /\ ∀ H1,dS P (vw K H) (vw K H1)->cp (vw K H1) P qual -> ∃ σl:St,σl=ixs.map (fun j=>(σ[j]?).join)/\tl σl H1 (fun c o H'=>c = .ref C/\o=none/\ar (vw K H1) (vw K H')) /\
 ∀ q H',ar (vw K H1) (vw K H')->vw K H1 q=none->vw K H' q=some (.lst [.int i])->Q (.ref q) H'
theorem zu{X:Cx}{params:Arguments}{body:Expr}{scope:Scope}{c P C:Addr}{kl i:Nat}{p1 lpos pos:Pos}{Nl:List Str}{ixs:List Nat}{tl:St->Hp->XK->Prop}
  (R:tY X.prog X.w X.K X.mg X.base (kl+1))(M:ua X c P)(hr:cF (kl+2) X.A)(hg:Gl X "_law_refused") (Z:uM X.K X.mg C i)(hi:i<9)(hfn:∀ x,X.fn x=true)(hdef:defaultsOf params X.env=([],[]))
  (hfree:∀ q ∈ scope.names,q.2 = .free->X.env.kindOf q.1=some .cell)(hk:scope.kind = .function)(hnc:∀ q ∈ scope.names,q.2 ≠ .cell)(hsc:scope.isCoroutine=false/\scope.isGenerator=false)
  (hbind:∀ clos pm c' ctv,bindArgs (PySem.W.kla_fn "<lambda>" (i4 X) params body scope clos pm (.ref c') ctv) ⟨[],[]⟩=pure []) (hlen:ixs.length=Nl.length)(hNl:∀ (j:Nat)(x:Str),Nl[j]? = some x->scope.names.lookup x=some .free /\ ∃ l,ixs[j]? = some l/\X.N[l]? = some x)
  (hb:∀ (p c':Addr)(clos:List (Str × Addr))(H1:Hp)(A':Around)(outer':List Env)(s':Shared),cF kl (A'.deeper (PySem.W.envX (i4 X) scope s'.heap.objs.size p (.ref c') clos))->PX (mM X.prog X.w X.K X.mg X.base Nl (i4 X) scope p (.ref c') clos A' outer' s' H1) body tl)
  (he:starEach [Expr.Lambda params body scope lpos] X.env=[(false,eval (.Lambda params body scope lpos) X.env)]:=by rfl) :
  PE X (.Call (.Name "_law_refused" p1) [.Lambda params body scope lpos] [] pos) (tj X.K P (i4 X) ixs C i tl):=by
 intro pins s σ H Q I h
 obtain⟨hT,h⟩:=h
 obtain⟨f,hm,hkp,run⟩:=R.ex
 refine wpAny_Call_Name_kw (iD I hg hm ?_ (by decide))
 refine PySem.W.callWith_K (h₀:=X.base) I.ok.mod.kin hkp ?_ he rfl
 rw[he]
 show wpAny _ _ (spliced [(false,eval (.Lambda params body scope lpos) X.env)]) _ _ s
 refine Calls.spliced_cons (wA M hdef I (cp.raw hT) hfree fun p c' pm ctv clos H1 s1 hc1 hc2 I1 B1 T1 hp hpn hps hco=>?_)
 refine Calls.spliced_nil ⟨I1.kIn,?_⟩
 obtain⟨σl,eσ,ht,fin⟩:=h H1 (oy B1) (I1.tabV T1)
 have hpf:p ∉ gg X.stack:=fun z=>by
  rcases List.mem_cons.mp (I.stkSub p z) with q|q
  ·exact absurd (Nat.lt_of_lt_of_le I.lt (q ▸ hps)) (Nat.lt_irrefl _)
  ·exact I.nofs hps q
 have L:DP X.prog X.w X.K X.mg X.base (kl+1) p C s1 H1 X.stack:=by
  refine BK (σl:=σl) (Nl:=Nl) hfn I1 hc1 hc2 hp hpn hpf hco hk hnc hsc (hbind clos pm c' ctv) (fun j x v e1 e2=>?_) (by rw[eσ,List.length_map];exact hlen) (fun A' outer' s' hr'=>hb p c' clos H1 A' outer' s' hr') ht
  obtain⟨a1,l,a2,a3⟩:=hNl j x e1
  rw[eσ,List.getElem?_map,a2] at e2
  have e3:(σ[l]?).join=some v:=by
   have e4:some ((σ[l]?).join)=some (some v):=e2
   exact Option.some.inj e4
  refine⟨a1,hfree _ (PySem.mem_of_lookup a1) rfl,l,a3,?_⟩
  cases e5:σ[l]? with
  | none=>rw[e5] at e3;cases e3
  | some w=>rw[e5] at e3;cases w with
   | none=>cases e3
   | some w=>cases e3;rfl
 refine wpAny_call (codeAny_mono (run X.A X.stack s1 H1 p C i Q hr I1.env0 L Z hi fin) fun r s' hq=>?_)
 cases r with
 | error e=>exact False.elim hq
 | ok fl =>
  cases fl with
  | ret u=>exact I1.after hq
  | next=>exact False.elim hq
  | brk=>exact False.elim hq
  | cont=>exact False.elim hq
def nA(G G':Hp):Prop:=∀ b o,G b=some o->(∀ ps,o ≠ .tbl ps)->G' b=some o
theorem nA.of{G G':Hp}(S:ar G G'):nA G G':=fun b o e _=>S b o e
theorem nA.trans{G G1 G2:Hp}(a:nA G G1)(b:nA G1 G2):nA G G2:=fun c o e n=>b c o (a c o e n) n
theorem nA.rfl{G:Hp}:nA G G:=fun _ _ e _=>e
theorem nA.but{G G':Hp}{P:Addr}{ps:Array Value}(h:G P=some (.tbl ps))(B:dS P G G'):nA G G':=fun b o e n=>B b o (fun z=>by rw[z,h] at e;cases e;exact n _ _root_.rfl) e
theorem cp.same{G G':Hp}{P:Addr}{qual:Str}(h:cp G P qual)(S:ar G G'):cp G' P qual:=by
 obtain⟨ps,h1,h2,h3⟩:=h
 refine⟨ps,S _ _ h1,h2,fun pos cv z=>?_⟩
 obtain⟨c,e1,e2⟩:=h3 pos cv z
 exact⟨c,e1,S _ _ e2⟩
theorem cp.start{G:Hp}{P:Addr}{qual:Str}(h:G P=some (.tbl #[])):cp G P qual:=⟨#[],h,trivial,fun pos cv z=>by cases z⟩
end L2
namespace L2
open PySem PySem.Spec PyProof.Rows
theorem iQ.smT{K:W.Frag}{H H':Hp}{a:Addr}{xs:List V}(h:iQ K H a xs)(S:nA (vw K H) (vw K H')):iQ K H' a xs:=by
 rcases h with ⟨hk,h⟩|h
 ·refine .inl ⟨hk,?_⟩
  rcases h with h|⟨o,h⟩
  ·have:=S a _ (by rw[cK hk];exact h) (fun _ z=>by cases z)
   rw[cK hk] at this
   exact .inl this
  ·have:=S a _ (by rw[cK hk];exact h) (fun _ z=>by cases z)
   rw[cK hk] at this
   exact .inr ⟨o,this⟩
 ·exact .inr h
structure Fu (K:W.Frag)(mg:Str->Option Value)(base:Heap)(fd:FuncData)(c P:Addr):Prop where
 code:fd.code = .ref c
 hd:PySem.W.CodeHd base c P
 bi:∃ bm o,mg "__builtins__" = some (.ref bm)/\bm ≠ builtinsNs/\bm ≠ mainGlobals/\base.get? bm=some o/\o.cls = .type "module" /\ o.dict=some builtinsNs/\o.data = .plain
theorem qp{P:Program}{w:World}{K:W.Frag}{mg:Str->Option Value}{base:Heap}{N:List Str}{qual:Str}{scope:Scope}{f:Addr}{cdv:Value}{A:Around}{outer:List Env}{s:Shared}{H:Hp}{E:XK}{fd:FuncData}{c Pt:Addr}(h:fd.code=cdv)(k:Fu K mg base fd c Pt) :
  ua ((eN dZ P w K mg base N qual scope f cdv A outer s H E).nox) c Pt:=⟨h ▸ k.code,k.hd,k.bi⟩
end L2
namespace L2
open PySem PySem.Spec PyProof.Rows
structure wm (P:Program)(w:World)(K:W.Frag)(mg:Str->Option Value)(base:Heap)(x:Str)(ps:List Str)(k:Nat)(sp:Sp):Prop where
 ex:∃ f fd,bB P w K mg base (jX P w) k f fd ps sp/\mg x=some (.ref f)/\PySem.W.keepIn K (.ref f)=true/\jl K fd ps []
structure QX (X:Cx)(e:Expr)(t:St->Hp->XK->Prop):Prop where
 h:PX X e t
def sV(sp:Sp)(t:TA):St->Hp->XK->Prop:=fun σ H E=>t σ H fun vs H1=>sp vs H1 (fun _ _=>False) E
theorem rG{X:Cx}{x:Str}{p pos:Pos}{e:Expr}{es:List Expr}{t:TA}{ps:List Str}{k:Nat}{sp:Sp}(C:wm X.prog X.w X.K X.mg X.base x ps k sp)(hr:cF k X.A)(hg:Gl X x)(ha:∀ E,QA (X.wish E) (e :: es) t)(hdb:(x == ("__debug__" : Str))=false:=by decide)
  (he:starEach (e :: es) X.env=(false,eval e X.env) :: starEach es X.env:=by rfl)(hpl:(backTo pos (starEach es X.env)).any (·.1)=false:=by rfl) :
  QX X (.Call (.Name x p) (e :: es) [] pos) (sV sp t):=⟨by
 obtain⟨f,fd,F,hm,hk,hb⟩:=C.ex
 intro pins s σ H E I h
 refine wpAny_Call_Name_kw (iD I hg hm ?_ hdb)
 have ha':=(ha fun ev s'=>∃ s1 H1,aw X pins σ H1 s1/\jX X.prog X.w X.stack H1 s1 E ev s').h pos pins s σ H _ (I.wish _) h
 refine PySem.W.callWith_K (h₀:=X.base) I.ok.mod.kin hk (cn ha' fun us s1 ⟨vs,H1,I1,r,q⟩=>⟨I1.kIn,?_⟩) he hpl
 have I1:=I1.unwish
 have hl:us.length=ps.length:=by rw[<- r.length];exact F.len _ _ _ _ q
 have hb':=hb s1 us I1.kIn (by simpa using hl)
 rw[List.append_nil] at hb'
 refine wpAny_call (codeAny_mono (F.run X.A X.stack s1 H1 ⟨us,[]⟩ us vs _ E hr I1.env0 hb' r q) fun r s' hq=>?_)
 cases r with
 | error e=>exact⟨s1,H1,I1,hq⟩
 | ok fl =>
  cases fl with
  | ret u=>obtain⟨_,_,_,_,_,_,_,z⟩:=hq;exact z.elim
  | next=>exact False.elim hq
  | brk=>exact False.elim hq
  | cont=>exact False.elim hq⟩
section
variable {P:Program}{w:World}{K:W.Frag}{mg:Str->Option Value}{base:Heap}
theorem eE.okX{x qual:Str}{st:Stmt}{f:Addr}{fd:FuncData}{N ps:List Str}{k:Nat}{sp:Sp}(F:eE K x qual st f fd)(S:av N ps (ag st))(len:∀ vs H Q E,sp vs H Q E->vs.length=ps.length)
  (hbody:∀ (cdv:Value)(A:Around)(outer:List Env)(s:Shared)(H:Hp)(vs:List V)(Q:VK)(E:XK),cF k (A.deeper (envOfC qual (ag st) s.heap.objs.size f cdv))->sp vs H Q E ->
   ∃ t,qP (eN (jX P w) P w K mg base N qual (ag st) f cdv A outer s H E) (aq st) t/\t { nx:=fun _ H'=>Q .non H',rt:=Q } (start N vs) H):bB P w K mg base (jX P w) (k+1) f fd ps sp:=by
 obtain⟨oc,od,kV,doc,pm,an,cdv,ct,osl,rfl,lk,hcd⟩:=F.ex
 refine wM lk hcd S len fun A outer s H vs Q E hr hsp=>?_
 obtain⟨t,h,q⟩:=hbody cdv A outer s H vs Q E hr hsp
 exact⟨t,h.h,q⟩
theorem wu{N:List Str}{qual:Str}{scope:Scope}{f:Addr}{cd:Value}{A:Around}{outer:List Env}{s₀:Shared}{H₀:Hp}{E:XK}{C:Addr}{x:Str}{np cpos pos:Pos}{e:Expr}{es:List Expr}{t:TA}(z:pJ K C)(hg:Gl (eN (jX P w) P w K mg base N qual scope f cd A outer s₀ H₀ E) x)(hm:mg x=some (.ref C))
  (ha:QA (eN (jX P w) P w K mg base N qual scope f cd A outer s₀ H₀ E) (e :: es) t)(hdb:(x == ("__debug__" : Str))=false:=by decide)
  (he:starEach (e :: es) (envOfC qual scope s₀.heap.objs.size f cd)=(false,eval e (envOfC qual scope s₀.heap.objs.size f cd)) :: starEach es (envOfC qual scope s₀.heap.objs.size f cd):=by rfl)(hpl:(backTo cpos (starEach es (envOfC qual scope s₀.heap.objs.size f cd))).any (·.1)=false:=by rfl) :
  QS (eN (jX P w) P w K mg base N qual scope f cd A outer s₀ H₀ E) (.Raise (some (.Call (.Name x np) (e :: es) [] cpos)) none pos) (sj E C t):=⟨yc z hg hm ha.h hdb he hpl⟩
end
section
variable {X:Cx}
theorem Bx{e:Expr}{cls n:Str}{b0:Stmt}{suite:List Stmt}{p1 np hp pos:Pos}{C0:Addr}{i:Nat}{tb:St->Hp->XK->Prop}{ts:TS}(hx0:X.ex=[])(hs:X.stack=X.env :: X.outer)(hfr:X.env.frame=some X.env.locals)
  (hb:PX X e tb)(hN:X.N.Nodup)(hi:X.N[i]? = some n)(hloc:X.env.scope.names.lookup n=some .local)(hg:Gl X cls)(hm:X.mg cls=some (.ref C0))(hsu:∀ v,qP (X.marked v) (b0 :: suite) ts)
  (hdb:(cls == ("__debug__" : Str))=false:=by decide) (hsw:swapsWith e none p1.line X.env=pure false:=by rfl) :
  QS X (.Try [.Expr e p1] [.ExceptHandler (some (.Name cls np)) (some n) (b0 :: suite) hp] [] [] pos) (Ds X.K C0 i tb ts):=⟨Dd hx0 hs hfr hb hN hi hloc hg hm (fun v=>(hsu v).h) hdb hsw⟩
theorem sT{params:Arguments}{body:Expr}{scope:Scope}{c P C:Addr}{kl i:Nat}{p1 lpos pos:Pos}{Nl:List Str}{ixs:List Nat}{tl:St->Hp->XK->Prop}
  (R:tY X.prog X.w X.K X.mg X.base (kl+1))(M:ua X c P)(hr:cF (kl+2) X.A)(hg:Gl X "_law_refused") (Z:uM X.K X.mg C i)(hi:i<9)(hfn:∀ x,X.fn x=true)(hdef:defaultsOf params X.env=([],[]))
  (hfree:∀ q ∈ scope.names,q.2 = .free->X.env.kindOf q.1=some .cell)(hk:scope.kind = .function)(hnc:∀ q ∈ scope.names,q.2 ≠ .cell)(hsc:scope.isCoroutine=false/\scope.isGenerator=false)
  (hbind:∀ clos pm c' ctv,bindArgs (PySem.W.kla_fn "<lambda>" (i4 X) params body scope clos pm (.ref c') ctv) ⟨[],[]⟩=pure []) (hlen:ixs.length=Nl.length)(hNl:∀ (j:Nat)(x:Str),Nl[j]? = some x->scope.names.lookup x=some .free /\ ∃ l,ixs[j]? = some l/\X.N[l]? = some x)
  (hb:∀ (p c':Addr)(clos:List (Str × Addr))(H1:Hp)(A':Around)(outer':List Env)(s':Shared),cF kl (A'.deeper (PySem.W.envX (i4 X) scope s'.heap.objs.size p (.ref c') clos))->QX (mM X.prog X.w X.K X.mg X.base Nl (i4 X) scope p (.ref c') clos A' outer' s' H1) body tl)
  (he:starEach [Expr.Lambda params body scope lpos] X.env=[(false,eval (.Lambda params body scope lpos) X.env)]:=by rfl) :
  QE X (.Call (.Name "_law_refused" p1) [.Lambda params body scope lpos] [] pos) (tj X.K P (i4 X) ixs C i tl) :=
 ⟨zu R M hr hg Z hi hfn hdef hfree hk hnc hsc hbind hlen hNl (fun p c' clos H1 A' outer' s' hr'=>(hb p c' clos H1 A' outer' s' hr').h) he⟩
end
end L2
namespace L2
open PySem PySem.Spec PyProof.Rows
def sv(mg:Str->Option Value)(base:Heap):Prop:=∃ bm o,mg "__builtins__" = some (.ref bm)/\bm ≠ builtinsNs/\bm ≠ mainGlobals/\base.get? bm=some o/\o.cls = .type "module" /\ o.dict=some builtinsNs/\o.data = .plain
def EB(ts:List (Addr × Addr))(H:Hp):Prop:=∀ b,H b=none\/(∃ o xs,H b=some (.frz o (.lst xs)))\/(H b=some (.tbl #[]) /\ ∃ q ∈ ts,q.2=b)
theorem uy{P:Program}{w:World}{K:W.Frag}{mg mb:Str->Option Value}{CX:rD}{k:Nat}{fa a:Addr}{fd:FuncData}{x:Str}{sp:Sp}{s₁:Shared}{vs:List Value}{ns:List Int}{ts:List (Addr × Addr)}
  (KX:K.In s₁.heap)(hns:s₁.heap.Ns mainGlobals mg)(hb:s₁.heap.Ns builtinsNs mb)(hbb:∀ x:Str,x ≠ "__name__" -> mb x=bootBuiltins x) (hlim:s₁.heap.NoLimit)(hg:s₁.gens = #[])
  (ha:s₁.heap.get? a=some { cls:=.type "list",data:=.seq vs.toArray }) (hi:IntsAre vs ns)(hl:ns.length<=sizeLine)(hr:cF k callerA)(hT:∀ q ∈ ts,PySem.W.codeHdIn K q.1 q.2=true/\K.lookup q.2=none/\s₁.heap.get? q.2=some (PySem.W.tabObj #[]))
  (hB:sv mg s₁.heap)(hSr:s₁.heap.NoSeer)(F:∀ base:Heap,K.In base->base.Ns mainGlobals mg->sv mg base->base.NoSeer->bB P w K mg base CX k fa fd [x] sp)(hbind:∀ (s:Shared)(u:Value),BindsTo s fd ⟨[u],[]⟩ [(x,u)])
  (hsp:∀ H:Hp,(∀ q ∈ ts,vw K H q.2=some (.tbl #[]))->(H a ≠ none->K.lookup a=none)->jS K H a (ns.map V.int)->sp [.ref a] H (fun v _=>v = .bl true) fun _ _ _=>False)
  (hCX:∀ H e s',CX [] H s₁ (fun _ _ _=>False) e s'->False) :
  codeAny (model P w) callerA (.call (.ref fa) ⟨[.ref a],[]⟩) (fun r s'=>r = .ok (.ret (.bool true))/\OldK s₁.heap s'.heap/\s'.os=s₁.os/\AllBare s'.gens) s₁:=by
 have rv:=nw hi
 have lenV:=hi.length
 have na:∀ q ∈ ts,q.2 ≠ a:=fun q hq z=>by
  have:=(hT q hq).2.2
  rw[z,ha] at this
  cases this
 have core:∀ H:Hp,EB ts H->(∀ q ∈ ts,H q.2=some (.tbl #[]))->jS K H a (ns.map V.int)->iJ P w H s₁.heap->(∀ b,H b ≠ none->b=a \/ ∃ q ∈ ts,q.2=b)->(H a ≠ none->K.lookup a=none) ->
   codeAny (model P w) callerA (.call (.ref fa) ⟨[.ref a],[]⟩) (fun r s'=>r = .ok (.ret (.bool true))/\OldK s₁.heap s'.heap/\s'.os=s₁.os/\AllBare s'.gens) s₁:=by
  intro H hO hTT hS hok hA hK
  have base_of:∀ {b:Addr}{o:Obj},s₁.heap.get? b=some o->H b=none->(lN s₁.heap H).get? b=some o:=fun e n=>ya e n
  have noA:∀ {b:Addr}{o:Obj}{es:Array DictEntry}{ep:Nat},s₁.heap.get? b=some o->o.data = .dict es ep->H b=none:=fun {b o es ep} e d=>by
   cases q:H b with
   | none=>rfl
   | some u =>
    rcases hA b (by rw[q];simp) with e'|⟨y,hy,e'⟩
    ·subst e'
     rw[ha] at e;cases e
     have d':Data.seq vs.toArray _=Data.dict es ep:=d
     cases d'
    ·subst e'
     rw[(hT y hy).2.2] at e;cases e
     have d':Data.fields (#[]:Array Value)=Data.dict es ep:=d
     cases d'
  have nsK:∀ {b:Addr}{m:Str->Option Value},s₁.heap.Ns b m->(lN s₁.heap H).Ns b m:=fun {b m} ⟨o,es,ep,e,d,r⟩=>⟨o,es,ep,base_of e (noA e d),d,r⟩
  have hKb:K.In (lN s₁.heap H):=fun b o e=>base_of (KX b o e) (by
   cases q:H b with
   | none=>rfl
   | some u =>
    rcases hA b (by rw[q];simp) with e'|⟨y,hy,e'⟩
    ·subst e'
     rw[hK (by rw[q];simp)] at e;cases e
    ·subst e'
     rw[(hT y hy).2.1] at e;cases e)
  have hM:Mod K mg (lN s₁.heap H):=⟨hKb,nsK hns,⟨mb,nsK hb,hbb⟩,let ⟨mc,h1,h2⟩:=hlim;⟨mc,nsK h1,h2⟩⟩
  have e0:mx P w K mg (lN s₁.heap H) callerA [] s₁ H:=⟨rfl,hM,fun b o e=>zA e,Nat.le_of_eq (uB _ _),trivial,fun b hb=>absurd (show b ∈ ([]:List Addr) from hb) (by simp),hok,.of_eq hg⟩
  have hBb:sv mg (lN s₁.heap H):=by
   obtain⟨bm,ob,b1,b2,b3,b4,b5,b6,b7⟩:=hB
   refine⟨bm,ob,b1,b2,b3,base_of b4 ?_,b5,b6,b7⟩
   cases q:H bm with
   | none=>rfl
   | some u =>
    rcases hA bm (by rw[q];simp) with e'|⟨y,hy,e'⟩
    ·rw[e',ha] at b4;cases b4;simp at b5
    ·rw[<- e',(hT y hy).2.2] at b4;cases b4;cases b5
  have hSb:(lN s₁.heap H).NoSeer:=by
   refine⟨let ⟨mc,a,b⟩:=hSr.statics;⟨mc,nsK a,b⟩,let ⟨mm,a,b⟩:=hSr.mods;⟨mm,nsK a,b⟩,let ⟨mb,a,b⟩:=hSr.imp;⟨mb,nsK a,b⟩,?_⟩
   obtain⟨mg',bm,ob,b1,b2,b4,b5,b6⟩:=hSr.main
   refine⟨mg',bm,ob,nsK b1,b2,base_of b4 ?_,b5,b6⟩
   cases q:H bm with
   | none=>rfl
   | some u =>
    rcases hA bm (by rw[q];simp) with e'|⟨y,hy,e'⟩
    ·rw[e',ha] at b4;cases b4;simp at b5
    ·rw[<- e',(hT y hy).2.2] at b4;cases b4;cases b5
  refine codeAny_mono ((F _ hKb (nsK hns) hBb hSb).run callerA [] s₁ H ⟨[.ref a],[]⟩ [.ref a] [.ref a] _ _ hr e0 (hbind s₁ (.ref a)) (.cons rfl .nil) (hsp H (fun q hq=>(cK (hT q hq).2.1).trans (hTT q hq)) hK hS)) fun r s' h=>?_
  cases r with
  | error e=>exact (hCX H e s' h).elim
  | ok fl =>
   cases fl with
   | next=>exact False.elim h
   | brk=>exact False.elim h
   | cont=>exact False.elim h
   | ret u =>
    obtain⟨v,H',os,bare,un,hok',r',q⟩:=h
    have q':v = .bl true:=q
    subst q'
    obtain rfl:u=Value.bool true:=r'
    have key:∀ b o,s₁.heap.get? b=some o->s'.heap.get? b=some o\/((∃ y ∈ ts,y.2=b)/\o=PySem.W.tabObj #[] /\ ∃ more,s'.heap.get? b=some (PySem.W.tabObj more)):=fun b o e=>by
     cases q:H b with
     | none=>exact .inl (un.keep b o e q (by intro z;exact absurd (show b ∈ ([]:List Addr) from z) (by simp)) (by simp))
     | some u =>
      rcases hO b with z|⟨ob,xs,z⟩|⟨z,y,hy,e'⟩
      ·rw[q] at z;cases z
      ·have z2:=un.frzs b ob _ z
       obtain⟨e1,_⟩:=hok b _ z
       obtain⟨e2,_⟩:=hok' b _ z2
       rw[e] at e1;cases e1
       exact .inl e2
      ·obtain⟨more,z2⟩:=un.tbls b #[] z
       have e1:s₁.heap.get? b=some (PySem.W.tabObj #[]):=hok b _ z
       have e2:s'.heap.get? b=some (PySem.W.tabObj (#[] ++ more)):=hok' b _ z2
       rw[e] at e1;cases e1
       exact .inr ⟨⟨y,hy,e'⟩,rfl,_,e2⟩
    refine⟨rfl,⟨fun b o e=>?_,fun b o e=>?_⟩,os,bare⟩
    ·rcases key b o e with z|⟨⟨y,hy,e'⟩,z1,more,z2⟩
     ·exact .inl z
     ·subst z1 e'
      have cd:=PySem.W.codeHd_of_K KX (hT y hy).1
      exact .inr (.inl ⟨(cd.tab (hT y hy).2.2).isCodeTable,rfl,#[],more,rfl,by rw[z2];simp⟩)
    ·rcases key b o e with z|⟨_,_,more,z2⟩
     ·exact⟨o,z⟩
     ·exact⟨_,z2⟩
 have dec:∀ b,Decidable (∃ q ∈ ts,q.2=b):=fun b=>Classical.propDecidable _
 have tabH:∀ q ∈ ts,bY P w (fun _=>none) s₁.heap q.2 (.tbl #[]):=fun q hq=>(hT q hq).2.2
 cases hk:K.lookup a with
 | some o =>
  have e:=KX a o hk
  rw[ha] at e
  cases e
  refine core (fun b=>@ite _ (∃ q ∈ ts,q.2=b) (dec b) (some (.tbl #[])) none) (fun b=>?_) (fun q hq=>if_pos ⟨q,hq,rfl⟩) (.inr ⟨_,vs.toArray,_,hk,rfl,rfl,rfl,by rw[List.size_toArray,lenV];exact hl,by simpa using rv⟩) (fun b u z=>?_) (fun b z=>?_) fun z=>?_
  ·by_cases hb:∃ q ∈ ts,q.2=b
   ·exact .inr (.inr ⟨if_pos hb,hb⟩)
   ·exact .inl (if_neg hb)
  ·by_cases hb:∃ q ∈ ts,q.2=b
   ·have z':=(if_pos hb).symm.trans z
    cases z'
    obtain⟨q,hq,rfl⟩:=hb
    exact (hT q hq).2.2
   ·have z':=(if_neg hb).symm.trans z
    cases z'
  ·by_cases hb:∃ q ∈ ts,q.2=b
   ·exact .inr hb
   ·exact absurd (if_neg hb) z
  ·have:¬ ∃ q ∈ ts,q.2=a:=fun ⟨q,hq,e⟩=>na q hq e
   exact absurd (if_neg this) z
 | none =>
  have ia:¬ ∃ q ∈ ts,q.2=a:=fun ⟨q,hq,e⟩=>na q hq e
  refine core (fun b=>if b=a then some (.frz { cls:=.type "list",data:=.seq vs.toArray } (.lst (ns.map V.int))) else @ite _ (∃ q ∈ ts,q.2=b) (dec b) (some (.tbl #[])) none) (fun b=>?_) (fun q hq=>?_) (.inl (.inr ⟨{ cls:=.type "list",data:=.seq vs.toArray },if_pos rfl⟩)) (fun b u z=>?_) (fun b z=>?_) fun _=>hk
  ·by_cases hb:b=a
   ·exact .inr (.inl ⟨_,_,if_pos hb⟩)
   ·by_cases hb2:∃ q ∈ ts,q.2=b
    ·exact .inr (.inr ⟨(if_neg hb).trans (if_pos hb2),hb2⟩)
    ·exact .inl ((if_neg hb).trans (if_neg hb2))
  ·exact (if_neg (na q hq)).trans (if_pos ⟨q,hq,rfl⟩)
  ·by_cases hb:b=a
   ·have z':=(if_pos hb).symm.trans z
    cases z'
    subst hb
    exact⟨ha,by rw[List.length_map];exact hl,vs,_,rv,ha⟩
   ·by_cases hb2:∃ q ∈ ts,q.2=b
    ·have z':=((if_neg hb).trans (if_pos hb2)).symm.trans z
     cases z'
     obtain⟨q,hq,rfl⟩:=hb2
     exact (hT q hq).2.2
    ·have z':=((if_neg hb).trans (if_neg hb2)).symm.trans z
     cases z'
  ·by_cases hb:b=a
   ·exact .inl hb
   ·by_cases hb2:∃ q ∈ ts,q.2=b
    ·exact .inr hb2
    ·exact absurd ((if_neg hb).trans (if_neg hb2)) z
theorem walk_ofM{l:PySem.W.OpenLaw}{n k:Nat}{q:Program}{loose:List Str}{XP:(Str->Option Value)->Heap->Prop}{YP:World->Heap->Prop}{d:DefRec}{K:Params->W.Frag}{CX:World->rD}{sp:World->Sp}{x:Str}(ts:World->List (Addr × Addr))
  (hn:l.most=some n)(hn2:n<=sizeLine)(hdf:d.params.defaults=[])(hr:cF k callerA)(hi:importsNone q=true)
  (hY:∀ (w:World)(h:Heap),YP w h->(K w.params).In h /\ ∀ q ∈ ts w,PySem.W.codeHdIn (K w.params) q.1 q.2=true/\(K w.params).lookup q.2=none/\h.get? q.2=some (PySem.W.tabObj #[]))
  (F:∀ (w:World)(mg:Str->Option Value)(fa:Addr)(h:Heap),(K w.params).In h->h.Ns mainGlobals mg->mg d.name=some (.ref fa) ->
   ∃ fd:FuncData,(∀ (s:Shared)(u:Value),BindsTo s fd ⟨[u],[]⟩ [(x,u)]) /\
    ∀ base:Heap,(K w.params).In base->base.Ns mainGlobals mg->sv mg base->base.NoSeer->bB l.prog w (K w.params) mg base (CX w) k fa fd [x] (sp w))
  (hsp:∀ (w:World)(H:Hp)(a:Addr)(ns:List Int),ns.length<=n->(∀ q ∈ ts w,vw (K w.params) H q.2=some (.tbl #[]))->(H a ≠ none->(K w.params).lookup a=none)->jS (K w.params) H a (ns.map V.int)->sp w [.ref a] H (fun v _=>v = .bl true) fun _ _ _=>False)
  (hCX:∀ (w:World)(H:Hp)(s:Shared)(e:Value)(s':Shared),CX w [] H s (fun _ _ _=>False) e s'->False) :
  PySem.W.WalkO q loose XP YP l.row.toRowW d [] (fun f vs=>PySem.call f vs):=by
 refine Att.attach_call hn hdf fun w s₀ s₁ mg mb fa o pm cd doc a vs ns G Y ho hd hcd hmg hobj hints hlen hg=>?_
 obtain⟨KX,hT⟩:=hY w _ Y
 obtain⟨fd,hb,hF⟩:=F w mg fa _ KX G.T.g hmg
 have hB:sv mg s₁.heap:=by
  obtain⟨bm,ob,b1,b2,b3,b4,b5,b6⟩:=G.T.bmain
  refine⟨bm,ob,b1,b2,fun z=>?_,b3,b4,b5,b6⟩
  obtain⟨o,es,ep,e,hd',_⟩:=G.T.g
  rw[z,e] at b3;cases b3;rw[hd'] at b6;cases b6
 exact uy KX G.T.g G.T.b G.T.builtins G.T.nolimit hg hobj hints (Nat.le_trans hlen hn2) hr hT hB (G.T.seer hi) hF hb (fun H hTT hK hS=>hsp w H a ns hlen hTT hK hS) fun H e s'=>hCX w H s₁ e s'
section
variable {P:Program}{w:World}{K:W.Frag}{mg:Str->Option Value}{base:Heap}
theorem eE.okM{x qual:Str}{st:Stmt}{f:Addr}{fd:FuncData}{N ps:List Str}{k:Nat}{sp:Sp}(F:eE K x qual st f fd)(S:av N ps (ag st))(len:∀ vs H Q E,sp vs H Q E->vs.length=ps.length)
  (hbody:∀ (cdv:Value)(A:Around)(outer:List Env)(s:Shared)(H:Hp)(vs:List V)(Q:VK)(E:XK),fd.code=cdv->cF k (A.deeper (envOfC qual (ag st) s.heap.objs.size f cdv))->sp vs H Q E ->
   ∃ t,qP (eN dZ P w K mg base N qual (ag st) f cdv A outer s H E).nox (aq st) t/\t { nx:=fun _ H'=>Q .non H',rt:=Q } (start N vs) H):bB P w K mg base dZ (k+1) f fd ps sp:=by
 obtain⟨oc,od,kV,doc,pm,an,cdv,ct,osl,rfl,lk,hcd⟩:=F.ex
 refine wM lk hcd S len fun A outer s H vs Q E hr hsp=>?_
 obtain⟨t,h,q⟩:=hbody cdv A outer s H vs Q E rfl hr hsp
 exact⟨t,h.h.nox,q⟩
theorem eE.runQ{x qual:Str}{st:Stmt}{f:Addr}{fd:FuncData}{N ps:List Str}{k:Nat}{A:Around}{outer:List Env}{s:Shared}{H:Hp}{us:List Value}{vs:List V}{Q:VK}{E:XK}(F:eE K x qual st f fd)(S:av N ps (ag st))(hr:cF (k+1) A)(e0:mx P w K mg base A outer s H)
  (hb:jl K fd ps [])(r:aL vs us)(hl:vs.length=ps.length)
  (hbody:∀ cdv,cF k (A.deeper (envOfC qual (ag st) s.heap.objs.size f cdv)) -> ∃ t,qP (eN dZ P w K mg base N qual (ag st) f cdv A outer s H E).nox (aq st) t/\t { nx:=fun _ H'=>Q .non H',rt:=Q } (start N vs) H) :
  codeAny (model P w) A (.call (.ref f) ⟨us,[]⟩) (CR dZ outer P w H s Q E) s:=by
 obtain⟨oc,od,kV,doc,pm,an,cdv,ct,osl,rfl,lk,hcd⟩:=F.ex
 have KX:K.In s.heap:=e0.mod.kin.keeps fun b o e=>(e0.bs b o e).1
 have hb':=hb s us KX (by rw[List.append_nil,<- r.length];exact hl)
 rw[List.append_nil] at hb'
 refine CH lk hcd S hr e0 hb' r hl fun hr'=>?_
 obtain⟨t,h,q⟩:=hbody cdv hr'
 exact⟨t,h.h.nox,q⟩
end
theorem sN{X:Cx}{scope sc:Scope}(h:X.env.scope=sc)(z:scope.names.all (fun q=>q.2 != .free || sc.names.lookup q.1 == some .cell)=true):∀ q ∈ scope.names,q.2 = .free->X.env.kindOf q.1=some .cell:=fun q hq hf=>by
 have h2:=List.all_eq_true.mp z q hq
 rw[Bool.or_eq_true] at h2
 rcases h2 with h2|h2
 ·rw[hf] at h2;cases h2
 ·show X.env.scope.names.lookup q.1=_
  rw[h]
  exact beq_iff_eq.mp h2
theorem mQ{scope:Scope}(z:scope.names.all (fun q=>q.2 != .cell)=true):∀ q ∈ scope.names,q.2 ≠ .cell:=fun q hq e=>by
 have h2:=List.all_eq_true.mp z q hq
 rw[e] at h2
 cases h2
end L2
namespace L2
open PySem PySem.Spec PyProof.Rows
theorem mh:bootBuiltins "ValueError" = some (.type "ValueError"):=by decide +kernel
end L2
namespace L2
open PySem PySem.Spec PyProof.Rows
def zR(K:W.Frag)(ta:TE):TT:=fun σ H Q=>ta σ H fun x H'=>∃ k,su K x H' k/\Q k H'
end L2
namespace L2
open PySem PySem.Spec PyProof.Rows
abbrev vx (n:Str):Str:=n ++ ".<locals>." ++ "<lambda>"
theorem gj(i:Int):(D.lst [.int i]).cmp:=by
 unfold D.cmp D.py D.pys D.pys D.py
 exact⟨rfl,Nat.le_of_ble_eq_true rfl⟩
theorem dS.of{P:Addr}{G G':Hp}(S:ar G G'):dS P G G':=fun b o _ e=>S b o e
end L2
namespace L2
open PySem PySem.Spec PyProof.Rows
theorem cp.butL{G G':Hp}{P l:Addr}{qual:Str}{xs:List V}(h:cp G P qual)(hl:G l=some (.lst xs))(B:dS l G G'):cp G' P qual:=by
 obtain⟨ps,h1,h2,h3⟩:=h
 refine⟨ps,B _ _ (fun z=>by rw[z,hl] at h1;cases h1) h1,h2,fun pos cv z=>?_⟩
 obtain⟨c,e1,e2⟩:=h3 pos cv z
 exact⟨c,e1,B _ _ (fun z=>by rw[z,hl] at e2;cases e2) e2⟩
theorem cp.smT{G G':Hp}{P:Addr}{qual:Str}(h:cp G P qual)(B:dS P G G')(T:cp G' P qual):nA G G':=by
 obtain⟨ps,h1,_⟩:=h
 exact nA.but h1 B
end L2
namespace L2
open PySem PySem.Spec PyProof.Rows
section
variable {P:Program}{w:World}{K:W.Frag}{mg:Str->Option Value}{base:Heap}
def Bb(E:XK)(t:St->Hp->XK->Prop):TS:=fun _ σ H=>t σ H E
end
def bT(f g:Nat->Rat):Nat->Rat
 | 0=>0
 | n+1=>bT f g n+f n*g n
theorem jQ{f g f' g':Nat->Rat}:∀ n,(∀ i,i<n->f i=f' i)->(∀ i,i<n->g i=g' i)->bT f g n=bT f' g' n
 | 0,_,_=>rfl
 | n+1,h1,h2=>by
  show bT f g n+f n*g n=bT f' g' n+f' n*g' n
  rw[jQ n (fun i hi=>h1 i (by walk_at"o")) (fun i hi=>h2 i (by walk_at"o")),h1 n (by walk_at"o"),h2 n (by walk_at"o")]
def Sx(b:Nat)(q:Int × Int):Prop:=∃ n:Int,wv q=(n:Rat) / 6/\n.natAbs<=b
theorem Sx.lo{a z:Int}{b:Nat}(h0:0<=z)(h3:z<3)(ha:6*a.natAbs<=b):Sx b (lo a (1+z)):=by
 have hz:1+z ≠ 0:=by walk_at"o"
 have c1:((1:Int):Rat)=1:=rfl
 have c2:((2:Int):Rat)=2:=rfl
 have c3:((3:Int):Rat)=3:=rfl
 have c6:((6:Int):Rat)=6:=rfl
 rcases (show z=0\/z=1\/z=2 by walk_at"o") with rfl|rfl|rfl
 ·refine⟨6*a,?_,by walk_at"o"⟩
  rw[ma hz,show (1:Int)+0=1 from rfl,Rat.intCast_mul,c1,c6]
  grind
 ·refine⟨3*a,?_,by walk_at"o"⟩
  rw[ma hz,show (1:Int)+1=2 from rfl,Rat.intCast_mul,c2,c3]
  grind
 ·refine⟨2*a,?_,by walk_at"o"⟩
  rw[ma hz,show (1:Int)+2=3 from rfl,Rat.intCast_mul,c2,c3]
  grind
end L2
namespace L2
open PySem PySem.Spec PyProof.Rows
theorem aQ.gen{t u:TS}{D:mf}{σ:St}{H:Hp}(h:∀ N:St->Hp->Prop,(∀ σ' H',u D σ' H'->N σ' H')->t { D with nx:=N } σ H):aQ t u D σ H:=h (u D) fun _ _ z=>z
end L2
namespace L2
open PySem PySem.Spec PyProof.Rows
theorem jo(a b:Int):Builtin.Range.rangeSize a b (-1)=if b<a then a - b else 0:=by
 unfold Builtin.Range.rangeSize
 simp only[show ¬ ((-1:Int) > 0) by decide,if_false,Int.neg_neg,Int.ediv_one]
 split <;> (try split) <;> walk_at"o"
theorem wl{a b:Int}(ha : -(2 ^ 61)<=a)(ha':a<2 ^ 61)(hb : -(2 ^ 61)<=b)(hb':b<2 ^ 61):Builtin.Range.small a b (-1)=true:=by
 unfold Builtin.Range.small
 rw[jo]
 simp only[Builtin.Range.rangeFitsLong,Bool.and_eq_true,Bool.or_eq_true,decide_eq_true_eq,beq_iff_eq,show ¬ ((-1:Int) > 0) by decide,if_false]
 split <;> walk_at"o"
def E5(lo:Int)(n:Nat):It:=⟨fun i _=>i<n,fun i H x H'=>H'=H/\x = .int (lo - i),fun i _=>n<=i⟩
theorem yL{P:Program}{w:World}{K:W.Frag}{tg:Expr}(it:Addr)(lo:Int)(n:Nat):xQ P w K tg (E5 lo n) [it] it (fun j hp=>IsRangeIter hp it (lo+(j:Nat)*(-1)) ((n:Int) - (j:Nat)) (-1)) where
 mem:=List.mem_singleton.mpr rfl
 obj:=fun j hp st b hb=>by
  cases List.mem_singleton.mp hb
  refine⟨_,st,fun v z=>?_⟩
  exact Data.noConfusion (show Data.fields _=Data.cell v from z)
 keep:=fun _ _ _ st k=>k it (List.mem_singleton.mpr rfl) _ st
 item:=by
  intro Y hP hw hK hc j pins s σ H E J hf st hg
  subst hP hw hK
  obtain⟨g0,g1,g2,g3,g4,g5⟩:=hf it (List.mem_singleton.mpr rfl)
  refine (Walks.range (prog:=Y.prog) (w:=Y.w) (J.ok.hd hc) it lo (-1) n).item j s _ _ hg st fun v hp tk hv st1 kk=>?_
  obtain⟨t,rfl⟩:=hv
  have J1:aw Y pins σ H { s with heap:=hp,toks:=tk }:=J.turned (fun b o hb e=>kk b o (fun z=>hb (List.mem_singleton.mp z)) e) g0 g1 g3 g4 g5
  refine⟨_,rfl,uv (s:={ s with heap:=hp,toks:=tk }) (n:="range_iterator") st1 rfl rfl (by decide) ⟨.int (lo - j),H,J1,⟨t,?_⟩,⟨rfl,rfl⟩,st1,fun b hb=>(hf b hb).1⟩⟩
  rw[show lo+(j:Nat)*(-1)=lo - (j:Int) by walk_at"o"]
 done:=by
  intro Y hP hw hK hc j pins s σ H E J hf st hg
  subst hP hw hK
  obtain⟨g0,g1,g2,g3,g4,g5⟩:=hf it (List.mem_singleton.mpr rfl)
  have hj:n<=j:=hg
  exact wpAny_pyNext_range_end (J.ok.hd hc) st (by walk_at"o") fun hp eb=>⟨rfl,J.turned (t':=s.toks) (fun b o hb e=>eb b o hb e) g0 g1 g3 g4 g5⟩
 self:=fun _ _ _ _ _ st h=>wpAny_pyIter_rangeiter st h
section
variable {X:Cx}{tg:Expr}
def xm(ta:TA):TI:=fun σ H R=>ta σ H fun vs H1=>∃ i j:Int,vs=[.int i,.int j,.int (-1)]/\(-(2 ^ 61)<=i/\i<2 ^ 61 /\ -(2 ^ 61)<=j/\j<2 ^ 61)/\R (E5 i (i - j).toNat) H1
theorem vd{a b c:Expr}{ta:TA}{p pos:Pos}(hg:Gl X "range") (hm:X.mg "range" = none) (ha:PA X [a,b,c] ta)(hs:starEach [a,b,c] X.env=[(false,eval a X.env),(false,eval b X.env),(false,eval c X.env)]:=by rfl)
  (hs2:starEach [b,c] X.env=[(false,eval b X.env),(false,eval c X.env)]:=by rfl):PI X tg (.Call (.Name "range" p) [a,b,c] [] pos) (xm ta):=by
 intro pins s σ H R I h
 refine Call_ (iZ I hg hm boot_range (PyProof.Rows.callWith_type1 (cn (ha pos pins s σ H _ I h) fun us s1 ⟨vs,H1,I1,r1,q1⟩=>?_) (by rw[hs,hs2]) (by rw[hs2];rfl)))
 obtain⟨i,j,e,⟨q1,q2,q3,q4⟩,q⟩:=q1
 subst e
 cases r1 with
 | cons ri rr =>
  cases rr with
  | cons rj rr =>
   cases rr with
   | cons rk rr =>
    cases rr
    obtain⟨t1,rfl⟩:=ri
    obtain⟨t2,rfl⟩:=rj
    obtain⟨t3,rfl⟩:=rk
    refine call_range_3 (by decide) ?_ (.inl (PyProof.noPylong_of_log2 (by decide +kernel)))
    refine wpAny_pyIter_range (IsRange.new ..) (wl q1 q2 q3 q4) ?_
    have J:aw X pins σ H1 { s1 with heap:=s1.heap.push { cls:=.type "range",data:=.fields #[.int i t1,.int j t2,.int (-1) t3] },toks:=s1.toks }:=I1.kept fun b o e=>Heap.get?_push_of_some _ e
    obtain⟨a1,ha1⟩ : ∃ a1,a1=(s1.heap.push { cls:=.type "range",data:=.fields #[.int i t1,.int j t2,.int (-1) t3] }).objs.size:=⟨_,rfl⟩
    refine⟨_,[_],_,_,H1,rfl,J.kept (t':=s1.toks) fun b o e=>Heap.get?_push_of_some _ e,yL _ i (i - j).toNat,?_,fun b hb=>?_,q⟩
    ·have e1:i+((0:Nat):Int)*(-1)=i:=by simp
     have e2:(((i - j).toNat:Nat):Int) - ((0:Nat):Int)=Builtin.Range.rangeSize i j (-1):=by rw[jo];split <;> walk_at"o"
     show IsRangeIter _ _ (i+((0:Nat):Int)*(-1)) ((((i - j).toNat:Nat):Int) - ((0:Nat):Int)) (-1)
     rw[e1,e2]
     exact Heap.get?_push_size _ rfl
    ·cases List.mem_singleton.mp hb
     exact J.fpOk (Nat.le_refl _) (J.hok.fresh (Nat.le_refl _))
theorem u4{a b c:Expr}{ta:TA}{p pos:Pos}(hg:Gl X "range") (hm:X.mg "range" = none) (ha:QA X [a,b,c] ta)(hs:starEach [a,b,c] X.env=[(false,eval a X.env),(false,eval b X.env),(false,eval c X.env)]:=by rfl)
  (hs2:starEach [b,c] X.env=[(false,eval b X.env),(false,eval c X.env)]:=by rfl):QI X tg (.Call (.Name "range" p) [a,b,c] [] pos) (xm ta):=⟨vd hg hm ha.h hs hs2⟩
end
def vD(lo:Int)(n:Nat):List V:=(List.range n).map fun (k:Nat)=>V.int (lo - k)
theorem AF{lo:Int}{n:Nat}:(vD lo n).length=n:=by simp[vD]
theorem Dw{lo:Int}{n i:Nat}{x:V}(h:(vD lo n)[i]? = some x):i<n/\x = .int (lo - i):=by
 have hi:i<n:=by
  have:=(List.getElem?_eq_some_iff.mp h).1
  simpa [vD] using this
 refine⟨hi,?_⟩
 simp[vD,hi] at h
 exact h.symm
theorem wC{lo:Int}{n:Nat}{H:Hp}:kH (E5 lo n) H (vD lo n):=by
 refine⟨fun i hi=>by show i<n;simpa [vD] using hi,fun i x H' hi y=>⟨y.1,?_⟩,by show n<=(vD lo n).length;simp[vD]⟩
 have hi':i<n:=by simpa [vD] using hi
 obtain⟨_,rfl⟩:=y
 simp[vD,hi']
end L2
namespace L2
open PySem PySem.Spec PyProof.Rows
theorem lQ{f g:Nat->Rat}{d i:Nat}(hg:∀ j,d<j->g j=0)(hf:∀ j,i<j->f j=0):∀ n,pr f g n (i+d)=if i<n then f i*g d else 0
 | 0=>by simp[pr]
 | n+1=>by
  have ih:=lQ hg hf n
  show pr f g n (i+d)+(if n<=i+d then f n*g (i+d - n) else 0)=_
  rw[ih]
  rcases Nat.lt_trichotomy i n with h|h|h
  ·rw[hf n h,if_pos h,if_pos (show i<n+1 by walk_at"o")]
   split <;> grind
  ·subst h
   rw[if_neg (by walk_at"o"),if_pos (by walk_at"o"),if_pos (by walk_at"o"),show i+d - i=d by walk_at"o"]
   grind
  ·rw[if_neg (by walk_at"o"),if_pos (by walk_at"o"),if_neg (by walk_at"o"),hg _ (by walk_at"o")]
   grind
theorem rK{f f' g:Nat->Rat}:∀ n k,pr (fun i=>f i - f' i) g n k=pr f g n k - pr f' g n k
 | 0,_=>by
  show (0:Rat)=0 - 0
  grind
 | n+1,k=>by
  show pr _ g n k+(if n<=k then (f n - f' n)*g (k - n) else 0)=(pr f g n k+if n<=k then f n*g (k - n) else 0) - (pr f' g n k+if n<=k then f' n*g (k - n) else 0)
  rw[rK n k]
  split <;> grind
theorem jj{f g:Nat->Rat}{n:Nat}(hf:∀ i,n<=i->f i=0):∀ m k,pr f g (n+m) k=pr f g n k
 | 0,_=>rfl
 | m+1,k=>by
  show pr f g (n+m) k+(if n+m<=k then f (n+m)*g (k - (n+m)) else 0)=_
  rw[jj hf m k,hf (n+m) (by walk_at"o")]
  split <;> grind
theorem xR{e g r:Nat->Rat}{n d:Nat}(he:∀ i,n<=i->e i=0)(hg:∀ j,d<j->g j=0)(hd:g d ≠ 0)(hr:∀ k,d<=k->r k=0)(h:∀ k,pr e g n k=r k):∀ i,e i=0:=by
 have step:∀ m i,n<=i+m->e i=0:=by
  intro m
  induction m with
  | zero=>intro i hi;exact he i hi
  | succ m ih =>
   intro i hi
   by_cases hin:n<=i
   ·exact he i hin
   have hab:∀ j,i<j->e j=0:=fun j hj=>ih j (by walk_at"o")
   have e1:=lQ hg hab n
   rw[if_pos (by walk_at"o"),h,hr _ (by walk_at"o")] at e1
   rcases Rat.mul_eq_zero.mp e1.symm with z|z
   ·exact z
   ·exact absurd z hd
 intro i
 exact step n i (by walk_at"o")
theorem rh{q q' g r r':Nat->Rat}{n n' d:Nat}(hq:∀ i,n<=i->q i=0)(hq':∀ i,n'<=i->q' i=0)(hg:∀ j,d<j->g j=0)(hd:g d ≠ 0)(hr:∀ k,d<=k->r k=0)(hr':∀ k,d<=k->r' k=0)
  (h:∀ k,pr q g n k+r k=pr q' g n' k+r' k):(∀ i,q i=q' i) /\ ∀ k,r k=r' k:=by
 have a:∀ k,pr q g (n+n') k=pr q g n k:=fun k=>jj hq n' k
 have b:∀ k,pr q' g (n+n') k=pr q' g n' k:=fun k=>by rw[Nat.add_comm];exact jj hq' n k
 have z:=xR (e:=fun i=>q i - q' i) (g:=g) (r:=fun k=>r' k - r k) (n:=n+n') (d:=d) (fun i hi=>by
  show q i - q' i=0
  rw[hq i (by walk_at"o"),hq' i (by walk_at"o")]
  grind) hg hd (fun k hk=>by
  show r' k - r k=0
  rw[hr k hk,hr' k hk]
  grind) (fun k=>by
  rw[rK,a,b]
  have:=h k
  grind)
 have e:∀ i,q i=q' i:=fun i=>by
  have:q i - q' i=0:=z i
  grind
 refine⟨e,fun k=>?_⟩
 have e2:pr q g n k=pr q' g n' k:=by
  rw[<- a,<- b,show q=q' from funext e]
 have:=h k
 grind
end L2
namespace L2
open PySem PySem.Spec PyProof.Rows
theorem DA{rs:List (Int × Int)}(h:ei rs) {m:Nat}(hz:∀ k,m<=k->cf rs k=0):rs.length<=m:=by
 refine Nat.le_of_not_lt fun hm=>?_
 have hl:rs.length - 1<rs.length:=by walk_at"o"
 have e:rs.getLast? = some rs[rs.length - 1]:=by rw[List.getLast?_eq_getElem?,List.getElem?_eq_getElem hl]
 have z:=hz (rs.length - 1) (by walk_at"o")
 rw[di (List.getElem?_eq_getElem hl)] at z
 exact h.2 _ e ((kD (h.1 _ (List.getElem_mem hl)).ne).mp z)
theorem zp(m n:Int):vq (.int m) (.int n)=decide (m=n):=by
 unfold vq D.py
 simp only[PyData.eqv]
 rw[Bool.eq_iff_iff]
 simp
theorem t8(i:Int):(D.int i).cmp:=by
 unfold D.cmp D.py
 exact⟨rfl,Nat.le_of_ble_eq_true rfl⟩
theorem sI{ns:List Int}{m:Nat}(h:∀ n ∈ ns.drop m,n=0)(k:Nat):nz (ns.take m) k=nz ns k:=by
 unfold nz
 rw[List.getD_eq_getElem?_getD,List.getD_eq_getElem?_getD,List.getElem?_take]
 by_cases hk:k<m
 ·rw[if_pos hk]
 ·rw[if_neg hk]
  cases e:ns[k]? with
  | none=>rfl
  | some n =>
   have:n ∈ ns.drop m:=by
    have e2:(ns.drop m)[k - m]? = some n:=by rw[List.getElem?_drop,show m+(k - m)=k by walk_at"o"];exact e
    exact List.mem_of_getElem? e2
   rw[h n this]
   rfl
end L2
namespace L2
open PySem PySem.Spec PyProof.Rows
theorem wN{f g:Nat->Int}{i:Nat}{c:Int}(h0:f i=0):∀ n k,pz (fun j=>if j=i then c else f j) g n k=pz f g n k+if i<n/\i<=k then c*g (k - i) else 0
 | 0,k=>by
  show (0:Int)=0+_
  rw[if_neg (by walk_at"o")]
  rfl
 | n+1,k=>by
  show pz _ g n k+(if n<=k then (if n=i then c else f n)*g (k - n) else 0)=(pz f g n k+if n<=k then f n*g (k - n) else 0)+_
  rw[wN h0 n k]
  rcases Nat.lt_trichotomy n i with h|h|h
  ·simp only[if_neg (show ¬ (i<n/\i<=k) by walk_at"o"),if_neg (show ¬ n=i by walk_at"o"),if_neg (show ¬ (i<n+1/\i<=k) by walk_at"o")]
   walk_at"o"
  ·subst h
   rw[h0]
   by_cases hk:n<=k
   ·simp only[if_pos hk,if_pos (show n<n+1/\n<=k from ⟨by walk_at"o",hk⟩),if_neg (show ¬ (n<n/\n<=k) by walk_at"o"),Int.zero_mul,if_true]
    try walk_at"o"
   ·simp only[if_neg hk,if_neg (show ¬ (n<n+1/\n<=k) by walk_at"o"),if_neg (show ¬ (n<n/\n<=k) by walk_at"o")]
  ·simp only[if_neg (show ¬ n=i by walk_at"o")]
   by_cases hk:i<=k
   ·simp only[if_pos (show i<n/\i<=k from ⟨h,hk⟩),if_pos (show i<n+1/\i<=k from ⟨by walk_at"o",hk⟩)]
    walk_at"o"
   ·simp only[if_neg (show ¬ (i<n/\i<=k) by walk_at"o"),if_neg (show ¬ (i<n+1/\i<=k) by walk_at"o")]
    walk_at"o"
theorem ox{f g:Nat->Int}{c:Int}:∀ n k,pz (fun j=>c*f j) g n k=c*pz f g n k
 | 0,_=>by show (0:Int)=c*0;walk_at"o"
 | n+1,k=>by
  show pz _ g n k+(if n<=k then c*f n*g (k - n) else 0)=c*(pz f g n k+if n<=k then f n*g (k - n) else 0)
  rw[ox n k]
  split
  ·rw[Int.mul_add,Int.mul_assoc]
  ·simp
theorem sM{f g:Nat->Int}(h:∀ i,f i=0):∀ n k,pz f g n k=0
 | 0,_=>rfl
 | n+1,k=>by
  show pz f g n k+(if n<=k then f n*g (k - n) else 0)=0
  rw[sM h n k,h n]
  simp
theorem oC{ns:List Int}{i k:Nat}{v:Int}(hi:i<ns.length):nz (ns.set i v) k=if k=i then v else nz ns k:=by
 unfold nz
 rw[List.getD_eq_getElem?_getD,List.getD_eq_getElem?_getD,List.getElem?_set]
 by_cases h:i=k
 ·subst h
  simp[hi]
 ·rw[if_neg h,if_neg (fun z=>h z.symm)]
theorem dL{ns:List Int}{c:Int}(k:Nat):nz (ns.map fun x=>c*x) k=c*nz ns k:=by
 unfold nz
 rw[List.getD_eq_getElem?_getD,List.getD_eq_getElem?_getD,List.getElem?_map]
 cases ns[k]? <;> simp
theorem jU{ns:List Int}(k:Nat):nz ns.dropLast k=if k=ns.length - 1 then 0 else nz ns k:=by
 unfold nz
 rw[List.getD_eq_getElem?_getD,List.getD_eq_getElem?_getD,List.getElem?_dropLast]
 by_cases h:k<ns.length - 1
 ·rw[if_pos h,if_neg (by walk_at"o")]
 ·rw[if_neg h]
  by_cases h2:k=ns.length - 1
  ·rw[if_pos h2]
   rfl
  ·rw[if_neg h2,List.getElem?_eq_none (by walk_at"o")]
theorem uQ{ms:Nat->Int}{S P:Int}{Q Q' N R R1 R2:Nat->Int}{n p l:Nat}(h:∀ k,S*ms k=pz Q N n k+R k)(h0:Q p=0)(hQ:∀ k,Q' k=if k=p then P else Q k)(hp:p<n)(hN:∀ j,l<j->N j=0)
  (ht:R (p+l)=P*N l)(h1:∀ k,R1 k=if k=p+l then 0 else R k)(h2:∀ k,R2 k=R1 k - if p<=k/\k<p+l then P*N (k - p) else 0):∀ k,S*ms k=pz Q' N n k+R2 k:=by
 intro k
 rw[show Q'=fun j=>if j=p then P else Q j from funext hQ,wN h0,h k,h2 k,h1 k]
 by_cases a:p<=k
 ·rw[if_pos ⟨hp,a⟩]
  rcases Nat.lt_trichotomy k (p+l) with b|b|b
  ·rw[if_neg (show ¬ k=p+l by walk_at"o"),if_pos ⟨a,b⟩]
   walk_at"o"
  ·subst b
   rw[if_pos rfl,if_neg (by walk_at"o"),ht,show p+l - p=l by walk_at"o"]
   walk_at"o"
  ·rw[if_neg (show ¬ k=p+l by walk_at"o"),if_neg (by walk_at"o"),hN _ (show l<k - p by walk_at"o")]
   walk_at"o"
 ·rw[if_neg (by walk_at"o"),if_neg (show ¬ k=p+l by walk_at"o"),if_neg (by walk_at"o")]
  walk_at"o"
end L2
namespace L2
open PySem PySem.Spec PyProof.Rows
end L2
namespace L2
open PySem PySem.Spec PyProof.Rows
section
variable {X:Cx}{a b c:Expr}{ta tb tc:TE}{pos:Pos}
end
end L2
namespace L2
open PySem PySem.Spec PyProof.Rows
end L2
namespace L2
open PySem PySem.Spec PyProof.Rows
def rS(x:V)(P:Bool->Prop):Prop:=match x with | .bl k=>P k|_=>False
def isInt(x:V)(P:Int->Prop):Prop:=match x with | .int k=>P k|_=>False
def gN(x:V)(P:Addr->Prop):Prop:=match x with | .ref k=>P k|_=>False
def qJ(x:Option (Option V))(P:V->Prop):Prop:=match x with|some (some v)=>P v|_=>False
def DG(x:List V)(P:V->Prop):Prop:=match x with|[v]=>P v|_=>False
def ER(x:List V)(P:V->V->Prop):Prop:=match x with|[v,u]=>P v u|_=>False
theorem zL{k:Bool}{P:Bool->Prop}:rS (.bl k) P=P k:=rfl
theorem ye{k:Int}{P:Int->Prop}:isInt (.int k) P=P k:=rfl
theorem wF{k:Addr}{P:Addr->Prop}:gN (.ref k) P=P k:=rfl
theorem xM{k:V}{P:V->Prop}:qJ (some (some k)) P=P k:=rfl
theorem Cj{k:V}{P:V->Prop}:DG [k] P=P k:=rfl
theorem De{k l:V}{P:V->V->Prop}:ER [k,l] P=P k l:=rfl
theorem io{x:V}{P:Bool->Prop}:rS x P = ∃ k,x = .bl k/\P k:=propext (by cases x <;> simp[rS])
theorem cA{x:V}{P:Int->Prop}:isInt x P = ∃ k,x = .int k/\P k:=propext (by cases x <;> simp[isInt])
theorem cV{x:V}{P:Addr->Prop}:gN x P = ∃ k,x = .ref k/\P k:=propext (by cases x <;> simp[gN])
theorem jP{x:Option (Option V)}{P:V->Prop}:qJ x P = ∃ k,x=some (some k)/\P k:=propext (by rcases x with _|_|v <;> simp[qJ])
theorem kq{x:List V}{P:V->Prop}:DG x P = ∃ k,x=[k]/\P k:=propext (by rcases x with _|⟨v,_|⟨u,r⟩⟩ <;> simp[DG])
theorem oT{x:List V}{P:V->V->Prop}:ER x P = ∃ k l,x=[k,l]/\P k l:=propext ⟨fun h=>match x,h with|[v,u],h=>⟨v,u,rfl,h⟩,fun ⟨k,l,e,h⟩=>by subst e;exact h⟩
theorem AM{α β:Sort _}{A:α->Prop}{B:β->Prop}{C:α->β->Prop}:(∃ i j,A i/\B j/\C i j) = ∃ i,A i /\ ∃ j,B j/\C i j:=propext ⟨fun ⟨i,j,a,b,c⟩=>⟨i,a,j,b,c⟩,fun ⟨i,a,j,b,c⟩=>⟨i,j,a,b,c⟩⟩
def Ef(i:Nat):TE:=fun σ H Q=>qJ σ[i]? fun v=>Q v H
theorem Br{i:Nat}:zQ i=Ef i:=by funext σ H Q;exact jP.symm
def ud(t:TE):TT:=fun σ H Q=>t σ H fun x H'=>rS x fun k=>Q k H'
theorem tK{t:TE}:sL t=ud t:=by
 funext σ H Q
 unfold sL ud
 congr 1
 funext x H'
 exact io.symm
theorem Ff{t:TE}:tB t=ud t:=tK
def xy(ta tb:TE):TE:=fun σ H Q=>ta σ H fun x H1=>rS x fun c=>if c=true then tb σ H1 Q else Q (.bl false) H1
theorem zX{ta tb:TE}:A7 ta tb=xy ta tb:=by
 funext σ H Q
 unfold A7 xy
 congr 1
 funext x H'
 exact io.symm
def Dq(ta tb:TE):TE:=fun σ H Q=>ta σ H fun x H1=>rS x fun c=>if c=true then Q (.bl true) H1 else tb σ H1 Q
theorem CS{ta tb:TE}:yJ ta tb=Dq ta tb:=by
 funext σ H Q
 unfold yJ Dq
 congr 1
 funext x H'
 exact io.symm
def yz(ta:TE):TE:=fun σ H Q=>ta σ H fun x H1=>rS x fun c=>Q (.bl (!c)) H1
theorem AH{ta:TE}:Bi ta=yz ta:=by
 funext σ H Q
 unfold Bi yz
 congr 1
 funext x H'
 exact io.symm
def mI(C:Int->Int->Prop)(g:Int->Int->V):R2:=fun x y H Q=>isInt x fun i=>isInt y fun j=>C i j/\Q (g i j) H
theorem FA{C:Int->Int->Prop}{g:Int->Int->V}:rI C g=mI C g:=by
 funext x y H Q
 unfold rI mI
 rw[cA]
 simp only[cA]
 exact AM
def Fo(g:Int->Int->V):R2:=fun x y H Q=>isInt x fun i=>isInt y fun j=>Q (g i j) H
theorem Eo{g:Int->Int->V}:uO g=Fo g:=by
 funext x y H Q
 unfold uO Fo
 simp only[cA]
 exact AM
def mU(g:Int->V):V->Hp->VK->Prop:=fun x H Q=>isInt x fun i=>Q (g i) H
theorem E6{g:Int->V}:rU g=mU g:=by
 funext x H Q
 exact cA.symm
theorem kP{i j:Int}:uL (.int i) (.int j)=true:=rfl
theorem zt{i j:Bool}:uL (.bl i) (.bl j)=true:=rfl
def E3:R2:=fun x y H Q=>match x,y with | .int i,.int j=>Q (.bl (decide (i=j))) H|_,_=>DH x y H Q
theorem zZ{i j:Int}{H:Hp}{Q:VK}:E3 (.int i) (.int j) H Q=Q (.bl (decide (i=j))) H:=rfl
theorem Bm:DH=E3:=by
 funext x y H Q
 unfold E3
 split
 ·unfold DH
  show (uL _ _=true/\_)=_
  simp only[kP,V.int.injEq,true_and]
 ·rfl
theorem zd{x y:V}{H:Hp}{Q:VK}:E3 x y H Q=DH x y H Q:=by rw[Bm]
def EU:R2:=fun x y H Q=>match x,y with | .int i,.int j=>Q (.bl (!decide (i=j))) H|_,_=>DJ x y H Q
theorem zD{i j:Int}{H:Hp}{Q:VK}:EU (.int i) (.int j) H Q=Q (.bl (!decide (i=j))) H:=rfl
theorem AY:DJ=EU:=by
 funext x y H Q
 unfold EU
 split
 ·unfold DJ
  show (uL _ _=true/\_)=_
  simp only[kP,V.int.injEq,true_and]
 ·rfl
theorem zo{x y:V}{H:Hp}{Q:VK}:EU x y H Q=DJ x y H Q:=by rw[AY]
section
variable {K:W.Frag}
def Cm(K:W.Frag):R2:=fun x y H Q=>gN x fun p=>isInt y fun i=>∃ xs,vw K H p=some (.lst xs) /\ ∃ v,my xs i=some v/\Q v H
theorem Dp:rA K=Cm K:=by
 funext x y H Q
 unfold rA Cm
 simp only[cA,cV]
 exact AM
def CV(K:W.Frag):R2:=fun x y H Q=>gN x fun p=>isInt y fun i=>∃ xs,vw K H p=some (.tup xs) /\ ∃ v,my xs i=some v/\Q v H
theorem C8:sw K=CV K:=by
 funext x y H Q
 unfold sw CV
 simp only[cA,cV]
 exact AM
def Cn(K:W.Frag)(neg:Bool):R2:=fun x y H Q=>∃ d,aM (vw K H) d x /\ ∃ e,aM (vw K H) e y/\d.cmp/\e.cmp/\Q (.bl (cond neg (!vq d e) (vq d e))) H
theorem BJ{neg:Bool}:zx K neg=Cn K neg:=by
 funext x y H Q
 unfold zx Cn
 cases neg <;> exact AM
def CO(K:W.Frag)(neg:Bool):R2:=fun x y H Q=>gN x fun p=>gN y fun q=>∃ xs,vw K H p=some (.lst xs)/\vw K H q=some (.lst [])/\Q (.bl (cond neg (!xs.isEmpty) xs.isEmpty)) H
theorem Dm{neg:Bool}:Ew K neg=CO K neg:=by
 funext x y H Q
 unfold Ew CO
 simp only[cV]
 cases neg <;> exact AM
def x6(t:TE):TO:=fun σ H Q=>t σ H fun x H1=>isInt x fun i=>Q (some i) H1
theorem Ab{t:TE}:tR t=x6 t:=by
 funext σ H Q
 unfold tR x6
 congr 1
 funext x H'
 exact cA.symm
def DY(K:W.Frag):V->Option Int->Option Int->Hp->VK->Prop:=fun x lo hi H Q=>gN x fun a=>∃ xs,vw K H a=some (.lst xs)/\Nw K H (.lst (kX xs lo hi)) Q
theorem BX:ED K=DY K:=by
 funext x lo hi H Q
 exact cV.symm
def yx(K:W.Frag):V->List V->Hp->VK->Prop:=fun x vs H Q=>gN x fun l=>DG vs fun y=>∃ xs,vw K H l=some (.lst xs)/\xs.length<sizeLine/\yF K H l (.lst (xs ++ [y])) (Q .non)
theorem zF:xE K=yx K:=by
 funext x y H Q
 unfold xE yx
 simp only[cV,kq]
 exact AM
def wp(K:W.Frag):V->V->V->Hp->(Hp->Prop)->Prop:=fun o i v H Q=>gN o fun p=>isInt i fun k=>∃ xs,vw K H p=some (.lst xs) /\ ∃ j,sH xs.length k=some j/\yF K H p (.lst (xs.set j v)) Q
theorem zw:v6 K=wp K:=by
 funext x y v H Q
 unfold v6 wp
 simp only[cV,cA]
 exact AM
def C3(i j:Nat)(ta:TA):TS:=fun D σ H=>ta σ H fun vs H1=>ER vs fun v w=>D.nx ((σ.set i (some v)).set j (some w)) H1
theorem C9{i j:Nat}{ta:TA}:Aj i j ta=C3 i j ta:=by
 funext D σ H
 unfold Aj C3
 congr 1
 funext x H'
 exact oT.symm
def Er(i:Nat)(te:TE)(ti:yB):TS:=fun D σ H=>qJ σ[i]? fun x=>te σ H fun y H1=>ti x y H1 fun z H2=>D.nx (σ.set i (some z)) H2
theorem Dl{i:Nat}{te:TE}{ti:yB}:Dz i te ti=Er i te ti:=by
 funext D σ H
 exact jP.symm
def xg(K:W.Frag)(tl:TE):TI:=fun σ H R=>tl σ H fun x H1=>gN x fun a=>(∃ xs,jS K H1 a xs)/\R (EW K a) H1
theorem zY{tl:TE}:ul K tl=xg K tl:=by
 funext σ H R
 unfold ul xg
 congr 1
 funext x H'
 exact cV.symm
def wr(ta:TA):TI:=fun σ H R=>ta σ H fun vs H1=>DG vs fun x=>isInt x fun j=>-(2 ^ 62)<=j/\j<2 ^ 62/\R (DE 0 j.toNat) H1
theorem AA{ta:TA}:tV ta=wr ta:=by
 funext σ H R
 unfold tV wr
 congr 1
 funext x H'
 simp only[kq,cA]
 exact propext ⟨fun ⟨j,a,b⟩=>⟨_,a,j,rfl,b⟩,fun ⟨_,a,j,e,b⟩=>⟨j,by rw[a,e],b⟩⟩
def pL(K:W.Frag):R2:=fun x y H Q=>match x,y with
 | .int i,.int j=>Q (.int (i+j)) H
 | .ref l,.ref b=>∃ xs,vw K H l=some (.lst xs) /\ ∃ zs,vw K H b=some (.lst zs)/\xs.length+zs.length<=sizeLine/\Nw K H (.lst (xs ++ zs)) Q
 | _,_=>ja K x y H Q
theorem uX{i j:Int}{H:Hp}{Q:VK}:pL K (.int i) (.int j) H Q=Q (.int (i+j)) H:=rfl
theorem vB{l b:Addr}{H:Hp}{Q:VK}:pL K (.ref l) (.ref b) H Q = ∃ xs,vw K H l=some (.lst xs) /\ ∃ zs,vw K H b=some (.lst zs)/\xs.length+zs.length<=sizeLine/\Nw K H (.lst (xs ++ zs)) Q:=rfl
theorem sP:ja K=pL K:=by
 funext x y H Q
 unfold pL
 split
 ·exact jE
 ·exact iq
 ·rfl
theorem uN{x y:V}{H:Hp}{Q:VK}:pL K x y H Q=ja K x y H Q:=by rw[sP]
def y7(K:W.Frag):R2:=fun x y H Q=>match x,y with
 | .int i,.int j=>IntMulOk i j/\Q (.int (i*j)) H
 | _,_=>gX K x y H Q
theorem vV{i j:Int}{H:Hp}{Q:VK}:y7 K (.int i) (.int j) H Q=(IntMulOk i j/\Q (.int (i*j)) H):=rfl
theorem yp:gX K=y7 K:=by
 funext x y H Q
 unfold y7
 split
 ·exact eU
 ·rfl
theorem wf{x y:V}{H:Hp}{Q:VK}:y7 K x y H Q=gX K x y H Q:=by rw[yp]
end
def Fk(P:Addr->Hp->VK->Prop)(t:TA):TE:=fun σ H Q=>t σ H fun vs H1=>DG vs fun x=>gN x fun p=>P p H1 Q
theorem D7{P:Addr->Hp->VK->Prop}{t:TA}:yG (fun xs H Q=>∃ p,xs=[.ref p]/\P p H Q) t=Fk P t:=by
 funext σ H Q
 unfold yG Fk
 congr 1
 funext x H'
 simp only[kq,cV]
 exact propext ⟨fun ⟨j,a,b⟩=>⟨_,a,j,rfl,b⟩,fun ⟨_,a,j,e,b⟩=>⟨j,by rw[a,e],b⟩⟩
def Fh(P:Int->Int->Hp->VK->Prop)(t:TA):TE:=fun σ H Q=>t σ H fun vs H1=>ER vs fun x y=>isInt x fun i=>isInt y fun j=>P i j H1 Q
theorem EA{P:Int->Int->Hp->VK->Prop}{t:TA}:yG (fun xs H Q=>∃ i j,xs=[.int i,.int j]/\P i j H Q) t=Fh P t:=by
 funext σ H Q
 unfold yG Fh
 congr 1
 funext x H'
 simp only[oT,cA]
 exact propext ⟨fun ⟨i,j,a,b⟩=>⟨_,_,a,i,rfl,j,rfl,b⟩,fun ⟨_,_,a,i,e,j,e',b⟩=>⟨i,j,by rw[a,e,e'],b⟩⟩
end L2
namespace L2
open PySem
theorem dy{α:Sort _}{g z:List Value->α}(us:List Value)(hl:us.length=1)(h:∀ a0,g [a0]=z [a0]):g us=z us:=by
 rcases us with _|⟨a0,_|⟨b,r⟩⟩
 all_goals first|exact h _|(simp at hl;done)
theorem cH{α:Sort _}{g z:List Value->α}(us:List Value)(hl:us.length=2)(h:∀ a0 a1,g [a0,a1]=z [a0,a1]):g us=z us:=by
 rcases us with _|⟨a0,_|⟨a1,_|⟨b,r⟩⟩⟩
 all_goals first|exact h _ _|(simp at hl;done)
theorem jT{α:Sort _}{g z:List Value->α}(us:List Value)(hl:us.length=3)(h:∀ a0 a1 a2,g [a0,a1,a2]=z [a0,a1,a2]):g us=z us:=by
 rcases us with _|⟨a0,_|⟨a1,_|⟨a2,_|⟨b,r⟩⟩⟩⟩
 all_goals first|exact h _ _ _|(simp at hl;done)
end L2
namespace L2
open PySem PySem.Spec PyProof.Rows
end L2
namespace L2
open PySem PySem.Spec PyProof.Rows
section
variable {X:Cx}
end
end L2
namespace L2
open PySem PySem.Spec PyProof.Rows
def ch:Nat->Nat->Nat
 | _,0=>1
 | 0,_+1=>0
 | n+1,k+1=>ch n k+ch n (k+1)
def dl(a:Rat)(s:Nat->Rat):Nat->Nat->Rat
 | 0,i=>s i
 | k+1,i=>dl a s k (i+1) - a*dl a s k i
end L2
namespace L2
open PySem PySem.Spec PyProof.Rows
def bw(t r:Nat->Rat):Nat->Nat->Rat
 | 0,h=>if h=0 then 1 else 0
 | k+1,h=>bw t r k (h+1)+t h*bw t r k h+(if h=0 then 0 else r h*bw t r k (h - 1))
end L2
namespace L2
open PySem PySem.Spec PyProof.Rows
section
variable {X:Cx}
end
end L2
namespace L2
end L2
namespace L2
open PySem PySem.Spec PyProof.Rows
section
variable {P:Program}{w:World}{K:W.Frag}{mg:Str->Option Value}{base:Heap}
theorem wP{N:List Str}{qual:Str}{scope:Scope}{f:Addr}{cd:Value}{A:Around}{outer:List Env}{s₀:Shared}{H₀:Hp}{E:XK}{e:Expr}{pos:Pos}{t:St->Hp->XK->Prop}
  (hb:QX (eN (jX P w) P w K mg base N qual scope f cd A outer s₀ H₀ E) e t)(hsw:swapsWith e none pos.line (eN (jX P w) P w K mg base N qual scope f cd A outer s₀ H₀ E).env=pure false:=by rfl):QS (eN (jX P w) P w K mg base N qual scope f cd A outer s₀ H₀ E) (.Expr e pos) (Bb E t):=⟨by
 intro pins s σ H D I h
 refine wpAny_Expr_any (wpAny_mono (hb.h pins s σ H E I h) (fun _ _ z=>z.elim) fun ev s' z=>?_) I.quiet hsw
 obtain⟨s1,H1,I1,z⟩:=z
 exact I1.passed rfl rfl rfl z fun _ _ _ q=>q⟩
end
end L2
namespace L2
open PySem PySem.Spec PyProof.Rows
end L2
namespace L2
open PySem PySem.Spec PyProof.Rows
def AQ(te:TE)(g1 g2:TG):TS:=fun D σ H=>te σ H fun v H1=>g1 v σ H1 fun σ1 H2=>g2 v σ1 H2 D.nx
theorem zP{X:Cx}{t1 t2 e:Expr}{te:TE}{g1 g2:TG}{pos:Pos}(he:QE X e te)(h1:QG X t1 g1)(h2:QG X t2 g2)
  (hz:(assignEach [t1,t2] X.env).map (·.2)=[assign t1 X.env,assign t2 X.env]:=by rfl)(hw:swappedStores [t1,t2] e X.env=pure none:=by rfl):QS X (.Assign [t1,t2] e pos) (AQ te g1 g2):=⟨by
 intro pins s σ H D I h
 refine wpAny_Assign_two (cn (he.h pins s σ H _ I h) fun v s1 ⟨x,H1,I1,r1,q1⟩=>?_) hz hw
 refine cn (h1.h pins s1 σ H1 x v _ I1 r1 q1) fun _ s2 ⟨σ2,H2,I2,q2⟩=>?_
 exact cn (h2.h pins s2 σ2 H2 x v _ I2 r1 q2) fun _ s3 q=>q⟩
end L2
namespace L2
open PySem PySem.Spec PyProof.Rows
end L2
namespace L2
open PySem PySem.Spec PyProof.Rows
end L2
namespace L2
open PySem PySem.Spec PyProof.Rows
structure DW where
 params:Arguments
 body:Expr
 scope:Scope
 Nl:List Str
 ixs:List Nat
 tl:TE
end L2
namespace L2
open PySem PySem.Spec PyProof.Rows
structure FE where
 t:Addr
 p:Addr
 c:Addr
 d:Addr
 ps:Arguments
 b:Expr
 sc:Scope
 ds:List D
section
variable {P:Addr}{G0 G G':Hp}{qual:Str}{cl:List (Str × Addr)}{cs:Addr}{xs:List FE}{x:FE}
section
variable {L1 L2 L3 L4:Hp}{p c' d t:Addr}{params:Arguments}{body:Expr}{scope:Scope}{ds:List D}{Kd:DW->Prop}{R:List D->DW->Prop}
end
end
end L2
namespace L2
open PySem PySem.Spec PyProof.Rows
def Ob(D:Int)(B:Nat)(f:Nat->Rat):Prop:=∀ k,∃ n:Int,f k=(n:Rat) / (D:Rat)/\Bt B n
section
variable {D E:Int}{a b e:Nat}{f g:Nat->Rat}
theorem FI{n:Nat}:Bt n 0:=Nat.two_pow_pos n
theorem Ob.mono(h:Ob D a f)(hl:a<=b):Ob D b f:=fun k=>by
 obtain⟨n,e1,h1⟩:=h k
 exact⟨n,e1,h1.mono hl⟩
theorem Ob.congr(h:Ob D a f)(e:∀ k,g k=f k):Ob D a g:=fun k=>by
 rw[e k]
 exact h k
theorem Ob.bq{qs:List (Int × Int)}(h:Ob D a (cf qs))(hD:D ≠ 0)(hb:Bt a D)(hF:∀ q ∈ qs,Fq q):∀ q ∈ qs,Bq a q:=fun q hq=>by
 obtain⟨k,hk,rfl⟩:=List.getElem_of_mem hq
 obtain⟨n,e1,h1⟩:=h k
 rw[di (List.getElem?_eq_getElem hk)] at e1
 rw[rT (hF _ hq) (m5 hD) (by rw[ma hD,e1])]
 exact tD hD h1 hb
theorem Ob.add(h1:Ob D a f)(h2:Ob D b g):Ob D (max a b+1) (fun k=>f k+g k):=fun k=>by
 obtain⟨m,e1,b1⟩:=h1 k
 obtain⟨n,e2,b2⟩:=h2 k
 refine⟨m+n,?_,b1.add b2⟩
 show f k+g k=_
 rw[e1,e2,Rat.intCast_add]
 grind
theorem Ob.pr(hD:D ≠ 0)(hE:E ≠ 0)(h1:Ob D a f)(h2:Ob E b g):∀ n,Ob (D*E) (a+b+n) (fun k=>pr f g n k)
 | 0=>fun k=>⟨0,by
  show (0:Rat)=((0:Int):Rat) / _
  have c0:((0:Int):Rat)=0:=rfl
  rw[c0]
  grind,FI⟩
 | n+1=>fun k=>by
  obtain⟨m,e1,b1⟩:=Ob.pr hD hE h1 h2 n k
  show ∃ m,L2.pr f g n k+(if n<=k then f n*g (k - n) else 0)=_/\_
  have e1:L2.pr f g n k=(m:Rat) / ((D*E:Int):Rat):=e1
  split
  ·obtain⟨x,e2,b2⟩:=h1 n
   obtain⟨y,e3,b3⟩:=h2 (k - n)
   refine⟨m+x*y,?_,(b1.add (b2.mul b3)).mono (by walk_at"o")⟩
   have:=az hD
   have:=az hE
   rw[e1,e2,e3,Rat.intCast_add,Rat.intCast_mul,Rat.intCast_mul]
   grind
  ·refine⟨m,?_,b1.mono (by walk_at"o")⟩
   rw[e1]
   grind
def Pb(a:Nat)(f:Nat->Rat):Prop:=∃ D:Int,D ≠ 0/\Bt a D/\Ob D a f
theorem Pb.mono(h:Pb a f)(hl:a<=b):Pb b f:=by
 obtain⟨D,h1,h2,h3⟩:=h
 exact⟨D,h1,h2.mono hl,h3.mono hl⟩
theorem Pb.congr(h:Pb a f)(e:∀ k,g k=f k):Pb a g:=by
 obtain⟨D,h1,h2,h3⟩:=h
 exact⟨D,h1,h2,h3.congr e⟩
theorem Pb.bq{qs:List (Int × Int)}(h:Pb a (cf qs))(hF:∀ q ∈ qs,Fq q):∀ q ∈ qs,Bq a q:=by
 obtain⟨D,h1,h2,h3⟩:=h
 exact h3.bq h1 h2 hF
theorem Pb.pr(h1:Pb a f)(h2:Pb b g)(n:Nat):Pb (a+b+n) (fun k=>L2.pr f g n k):=by
 obtain⟨D,d1,d2,d3⟩:=h1
 obtain⟨E,e1,e2,e3⟩:=h2
 exact⟨D*E,Int.mul_ne_zero d1 e1,(d2.mul e2).mono (by walk_at"o"),Ob.pr d1 e1 d3 e3 n⟩
end
def lin(p q:Rat)(f:Nat->Rat):Nat->Rat
 | 0=>f 0*p
 | k+1=>f (k+1)*p+f k*q
end L2
namespace L2
open PySem PySem.Spec PyProof.Rows
theorem qb{a b c:Int}(h:Int.gcd a b=1)(hd:a ∣ b*c):a ∣ c:=by
 rw[<- Int.natAbs_dvd_natAbs] at hd ⊢
 rw[Int.natAbs_mul] at hd
 exact Nat.Coprime.dvd_of_dvd_mul_left h hd
theorem Ao{b q E:Int}(hb:0<b)(hq:0<q)(h1:b ∣ E)(h2:q ∣ E):b*q.fdiv (Int.gcd b q:Int) ∣ E:=by
 obtain⟨_,_,_,hg,_⟩:=qf hb hq
 have e:=eM hg (Int.gcd_dvd_right b q)
 obtain⟨m,hm⟩:=Int.gcd_dvd_left b q
 obtain⟨g,hgg⟩ : ∃ g:Nat,g=Int.gcd b q:=⟨_,rfl⟩
 generalize hc:q.fdiv (Int.gcd b q:Int)=c at e
 rw[<- hgg] at hg e hm
 have hcop:Int.gcd c m=1:=by
  have z:Int.gcd b q=g*Int.gcd m c:=by
   rw[hm,<- e,Int.mul_comm c,Int.gcd_mul_left]
   simp
  rw[<- hgg] at z
  have g0:0<g:=by walk_at"o"
  have:Int.gcd m c=1:=by
   have:g*1=g*Int.gcd m c:=by walk_at"o"
   exact (Nat.eq_of_mul_eq_mul_left g0 this).symm
  rw[Int.gcd_comm]
  exact this
 obtain⟨u,hu⟩:=h1
 obtain⟨v,hv⟩:=h2
 have:c ∣ m*u:=by
  refine⟨v,?_⟩
  have z:(g:Int)*(m*u)=(g:Int)*(c*v):=by
   rw[<- Int.mul_assoc,<- hm,<- hu,hv,<- e]
   rw[Int.mul_comm c,Int.mul_assoc]
  exact Int.eq_of_mul_eq_mul_left hg z
 obtain⟨t,ht⟩:=qb hcop this
 exact⟨t,by rw[hu,ht,Int.mul_assoc]⟩
theorem v8{q:Int × Int}{n E:Int}(h:Fq q)(hE:E ≠ 0)(e:wv q=(n:Rat) / (E:Rat)):q.2 ∣ E:=by
 unfold wv at e
 have c1:=az h.ne
 have c2:=az hE
 have e1:(q.1:Rat)*(E:Rat)=(n:Rat)*(q.2:Rat):=by grind
 have e2:q.1*E=n*q.2:=by
  rw[<- Rat.intCast_mul,<- Rat.intCast_mul] at e1
  exact Rat.intCast_inj.mp e1
 refine qb (b:=q.1) (by rw[Int.gcd_comm];exact h.2) ⟨n,by rw[e2,Int.mul_comm]⟩
theorem rm{a:Nat}{qs:List (Int × Int)}{D:Int}{ns:List Int}(h:Pb a (cf qs))(hF:∀ q ∈ qs,Fq q)(hD:0<D)(hm:∀ E:Int,(∀ q ∈ qs,q.2 ∣ E)->D ∣ E)(hl:ns.length=qs.length)(hn:∀ (i:Nat)(n:Int)(q:Int × Int),ns[i]? = some n->qs[i]? = some q->(n:Rat)=wv q*(D:Rat)):Bt a D /\ ∀ n ∈ ns,Bt a n:=by
 obtain⟨E,hE,bE,oE⟩:=h
 obtain⟨t,ht⟩:=hm E fun q hq=>by
  obtain⟨k,hk,rfl⟩:=List.getElem_of_mem hq
  obtain⟨n,e,_⟩:=oE k
  rw[di (List.getElem?_eq_getElem hk)] at e
  exact v8 (hF _ hq) hE e
 have t0:t ≠ 0:=fun z=>hE (by rw[ht,z,Int.mul_zero])
 have le:∀ x:Int,x.natAbs<=(x*t).natAbs:=fun x=>by
  rw[Int.natAbs_mul]
  exact Nat.le_mul_of_pos_right _ (by walk_at"o")
 refine⟨?_,fun n hn'=>?_⟩
 ·unfold Bt at *
  have:=le D
  rw[<- ht] at this
  walk_at"o"
 ·obtain⟨i,hi,rfl⟩:=List.getElem_of_mem hn'
  have hi':i<qs.length:=by walk_at"o"
  have e1:=hn i _ _ (List.getElem?_eq_getElem hi) (List.getElem?_eq_getElem hi')
  obtain⟨m,e2,bm⟩:=oE i
  rw[di (List.getElem?_eq_getElem hi')] at e2
  have c1:=az hE
  have e3:((ns[i]*t:Int):Rat)=(m:Rat):=by
   rw[Rat.intCast_mul,e1,e2]
   have:(E:Rat)=(D:Rat)*(t:Rat):=by rw[ht,Rat.intCast_mul]
   have c2:(D:Rat) ≠ 0:=az (by walk_at"o")
   have c3:(t:Rat) ≠ 0:=az t0
   rw[this]
   grind
  have e4:=Rat.intCast_inj.mp e3
  unfold Bt at *
  have:=le ns[i]
  rw[e4] at this
  walk_at"o"
def d9(f:Nat->Rat):Nat->Rat->Rat
 | 0,_=>0
 | n+1,x=>d9 f n x+f n*cm x n
theorem mJ{f g:Nat->Rat}{x:Rat}:∀ n,(∀ k,k<n->f k=g k)->d9 f n x=d9 g n x
 | 0,_=>rfl
 | n+1,h=>by
  show d9 f n x+f n*_=d9 g n x+g n*_
  rw[mJ n (fun k hk=>h k (by walk_at"o")),h n (by walk_at"o")]
theorem oV{f g:Nat->Rat}{x:Rat}:∀ n,d9 (fun k=>f k+g k) n x=d9 f n x+d9 g n x
 | 0=>by show (0:Rat)=0+0;grind
 | n+1=>by
  show d9 (fun k=>f k+g k) n x+(f n+g n)*cm x n=d9 f n x+f n*cm x n+(d9 g n x+g n*cm x n)
  rw[oV n]
  grind
theorem li{f:Nat->Rat}{x:Rat}{n:Nat}(h:∀ k,n<=k->f k=0):∀ m,d9 f (n+m) x=d9 f n x
 | 0=>rfl
 | m+1=>by
  show d9 f (n+m) x+f (n+m)*_=_
  rw[li h m,h (n+m) (by walk_at"o")]
  grind
theorem tQ{p q:Rat}{f:Nat->Rat}{x:Rat}:∀ n,d9 (lin p q f) (n+1) x=p*d9 f (n+1) x+q*x*d9 f n x
 | 0=>by
  show 0+f 0*p*1=p*(0+f 0*1)+q*x*0
  grind
 | n+1=>by
  show d9 (lin p q f) (n+1) x+(f (n+1)*p+f n*q)*cm x (n+1)=p*(d9 f (n+1) x+f (n+1)*cm x (n+1))+q*x*(d9 f n x+f n*cm x n)
  rw[tQ n,nI]
  grind
def EV(f:Nat->Rat)(x:Rat):Rat:=d9 f 20 x
theorem oW{p q:Rat}{f:Nat->Rat}(h:f 19=0)(x:Rat):EV (lin p q f) x=(p+q*x)*EV f x:=by
 unfold EV
 rw[tQ 19]
 have:d9 f 20 x=d9 f 19 x:=by
  show d9 f 19 x+f 19*_=_
  rw[h]
  grind
 rw[this]
 grind
theorem eT{f g:Nat->Rat}(h:∀ k,f k=g k)(x:Rat):EV f x=EV g x:=mJ 20 fun k _=>h k
theorem oZ{f g:Nat->Rat}(x:Rat):EV (fun k=>f k+g k) x=EV f x+EV g x:=oV 20
def DF(f:Nat->Rat):Nat->Rat:=fun k=>((k+1:Nat):Int)*f (k+1)
theorem wZ{p:Rat}{f:Nat->Rat}(k:Nat):DF (lin p 1 f) k=lin p 1 (DF f) k+f k:=by
 cases k with
 | zero =>
  show (((0+1:Nat):Int):Rat)*(f 1*p+f 0*1)=(((0+1:Nat):Int):Rat)*f 1*p+f 0
  have c1:(((0+1:Nat):Int):Rat)=1:=rfl
  rw[c1]
  grind
 | succ k =>
  show (((k+1+1:Nat):Int):Rat)*(f (k+2)*p+f (k+1)*1)=(((k+1+1:Nat):Int):Rat)*f (k+2)*p+(((k+1:Nat):Int):Rat)*f (k+1)*1+f (k+1)
  have c1:(((k+1+1:Nat):Int):Rat)=(((k+1:Nat):Int):Rat)+1:=by
   rw[show ((k+1+1:Nat):Int)=((k+1:Nat):Int)+1 by walk_at"o",Rat.intCast_add]
   rfl
  rw[c1]
  grind
theorem m8{c:Rat}{g:Nat->Rat}{j:Nat}{x:Rat}:∀ M,d9 (fun k=>if j<=k then c*g (k - j) else 0) (j+M) x=c*cm x j*d9 g M x
 | 0=>by
  have:∀ n,n<=j->d9 (fun k=>if j<=k then c*g (k - j) else 0) n x=0:=fun n=>by
   induction n with
   | zero=>intro _;rfl
   | succ n ih =>
    intro hn
    show d9 (fun k=>if j<=k then c*g (k - j) else 0) n x+(if j<=n then c*g (n - j) else 0)*cm x n=0
    rw[ih (by walk_at"o"),if_neg (by walk_at"o")]
    grind
  rw[Nat.add_zero,this j (Nat.le_refl _)]
  show (0:Rat)=c*cm x j*0
  grind
 | M+1=>by
  show d9 (fun k=>if j<=k then c*g (k - j) else 0) (j+M) x+(if j<=j+M then c*g (j+M - j) else 0)*cm x (j+M)=c*cm x j*(d9 g M x+g M*cm x M)
  rw[m8 M,if_pos (by walk_at"o"),Nat.add_sub_cancel_left]
  have:cm x (j+M)=cm x j*cm x M:=by
   induction M with
   | zero=>show cm x j=cm x j*1;grind
   | succ M ih =>
    show cm x (j+M)*x=cm x j*(cm x M*x)
    rw[ih]
    grind
  rw[this]
  grind
theorem sr{f g:Nat->Rat}{x:Rat}{m:Nat}(hg:∀ k,m<=k->g k=0):∀ n,n+m<=20->EV (fun k=>pr f g n k) x=d9 f n x*d9 g m x
 | 0,_=>by
  have:∀ n,d9 (fun k=>pr f g 0 k) n x=0:=fun n=>by
   induction n with
   | zero=>rfl
   | succ n ih =>
    show d9 (fun k=>pr f g 0 k) n x+0*_=0
    rw[ih]
    grind
  show d9 _ 20 x=0*_
  rw[this]
  grind
 | n+1,h=>by
  have e:EV (fun k=>pr f g (n+1) k) x=EV (fun k=>pr f g n k) x+EV (fun k=>if n<=k then f n*g (k - n) else 0) x:=oZ x
  rw[e,sr hg n (by walk_at"o")]
  have s:EV (fun k=>if n<=k then f n*g (k - n) else 0) x=f n*cm x n*d9 g m x:=by
   show d9 _ 20 x=_
   have z:=m8 (c:=f n) (g:=g) (j:=n) (x:=x) (20 - n)
   rw[show n+(20 - n)=20 by walk_at"o"] at z
   rw[z]
   have z2:=li (x:=x) hg (20 - n - m)
   rw[show m+(20 - n - m)=20 - n by walk_at"o"] at z2
   rw[z2]
  rw[s]
  show _=(d9 f n x+f n*cm x n)*_
  grind
theorem ff{f:Nat->Rat}{n:Nat}(h:∀ k,n<=k->f k=0)(hn:n<=20)(x:Rat):EV f x=d9 f n x:=by
 have:=li (x:=x) h (20 - n)
 rw[show n+(20 - n)=20 by walk_at"o"] at this
 exact this
theorem Ez{fs gs:List (Int × Int)}(h:fs.length+gs.length<=20)(x:Rat):EV (fun k=>pr (cf fs) (cf gs) fs.length k) x=EV (cf fs) x*EV (cf gs) x:=by
 rw[sr (m:=gs.length) (fun k hk=>ci hk) _ h,ff (n:=fs.length) (fun k hk=>ci hk) (by walk_at"o"),ff (n:=gs.length) (fun k hk=>ci hk) (by walk_at"o")]
def d4:List Rat->Rat->Rat
 | [],_=>0
 | a :: l,x=>a+x*d4 l x
def A9(s:Rat):List Rat->List Rat
 | []=>[]
 | [_]=>[]
 | _ :: b :: l=>d4 (b :: l) s :: A9 s (b :: l)
theorem ue{s:Rat}:∀ l:List Rat,(A9 s l).length=l.length - 1
 | []=>rfl
 | [_]=>rfl
 | _ :: b :: l=>by
  show (A9 s (b :: l)).length+1=_
  rw[ue (b :: l)]
  rfl
theorem rQ{s x:Rat}:∀ l:List Rat,d4 l x - d4 l s=(x - s)*d4 (A9 s l) x
 | []=>by show (0:Rat) - 0=(x - s)*0;grind
 | [a]=>by show a+x*0 - (a+s*0)=(x - s)*0;grind
 | a :: b :: l=>by
  have:=rQ (s:=s) (x:=x) (b :: l)
  show a+x*d4 (b :: l) x - (a+s*d4 (b :: l) s)=(x - s)*(d4 (b :: l) s+x*d4 (A9 s (b :: l)) x)
  have e:(x - s)*(x*d4 (A9 s (b :: l)) x)=x*(d4 (b :: l) x - d4 (b :: l) s):=by rw[this];grind
  grind
theorem kQ:∀(S:List Rat)(l:List Rat),S.Nodup->l.length<=S.length->(∀ s ∈ S,d4 l s=0) -> ∀ x,d4 l x=0
 | [],l,_,hl,_,x=>by
  have:l=[]:=List.length_eq_zero_iff.mp (Nat.le_zero.mp hl)
  rw[this]
  rfl
 | s :: S,l,nd,hl,h,x=>by
  rw[List.nodup_cons] at nd
  have h0:=h s List.mem_cons_self
  have g:∀ x,d4 (A9 s l) x=0:=kQ S (A9 s l) nd.2 (by rw[ue];have:l.length<=S.length+1:=hl;walk_at"o") fun t ht=>by
   have e:=rQ (s:=s) (x:=t) l
   rw[h t (List.mem_cons_of_mem _ ht),h0] at e
   have hts:t - s=0->t=s:=fun z=>by grind
   have hne:t - s ≠ 0:=fun z=>nd.1 (by rw[<- hts z];exact ht)
   grind
  have e:=rQ (s:=s) (x:=x) l
  rw[g x,h0] at e
  grind
def pi(n:Nat)(f:Rat->Rat):Prop:=∃ l:List Rat,l.length<=n /\ ∀ x,f x=d4 l x
theorem pi.mono{m n:Nat}{f:Rat->Rat}(h:pi m f)(hl:m<=n):pi n f:=by
 obtain⟨l,h1,h2⟩:=h
 exact⟨l,by walk_at"o",h2⟩
theorem pi.zero{n:Nat}{f:Rat->Rat}{S:List Rat}(h:pi n f)(nd:S.Nodup)(hl:n<=S.length)(hz:∀ s ∈ S,f s=0)(x:Rat):f x=0:=by
 obtain⟨l,h1,h2⟩:=h
 rw[h2]
 exact kQ S l nd (by walk_at"o") (fun s hs=>by rw[<- h2];exact hz s hs) x
def vp:List Rat->List Rat->List Rat
 | [],b=>b
 | a,[]=>a
 | x :: a,y :: b=>(x+y) :: vp a b
theorem qe:∀ a b:List Rat,(vp a b).length=max a.length b.length
 | [],b=>by show b.length=max 0 b.length;walk_at"o"
 | x :: a,[]=>by show (x :: a).length=max (x :: a).length 0;walk_at"o"
 | x :: a,y :: b=>by
  show (vp a b).length+1=max (a.length+1) (b.length+1)
  rw[qe a b]
  walk_at"o"
theorem tx{t:Rat}:∀ a b:List Rat,d4 (vp a b) t=d4 a t+d4 b t
 | [],b=>by show d4 b t=0+d4 b t;grind
 | x :: a,[]=>by show d4 (x :: a) t=d4 (x :: a) t+0;grind
 | x :: a,y :: b=>by
  show x+y+t*d4 (vp a b) t=x+t*d4 a t+(y+t*d4 b t)
  rw[tx a b]
  grind
theorem pi.add{n:Nat}{f g:Rat->Rat}(h1:pi n f)(h2:pi n g):pi n (fun x=>f x+g x):=by
 obtain⟨a,a1,a2⟩:=h1
 obtain⟨b,b1,b2⟩:=h2
 refine⟨vp a b,by rw[qe];walk_at"o",fun x=>?_⟩
 show f x+g x=_
 rw[tx,a2,b2]
theorem vJ{c x:Rat}:∀ l:List Rat,d4 (l.map fun a=>a*c) x=d4 l x*c
 | []=>by show (0:Rat)=0*c;grind
 | a :: l=>by
  show a*c+x*d4 (l.map fun a=>a*c) x=(a+x*d4 l x)*c
  rw[vJ l]
  grind
theorem pi.sc{n:Nat}{f:Rat->Rat}(h:pi n f)(c:Rat):pi n (fun x=>f x*c):=by
 obtain⟨a,a1,a2⟩:=h
 refine⟨a.map fun a=>a*c,by rw[List.length_map];exact a1,fun x=>?_⟩
 show f x*c=_
 rw[vJ,a2]
theorem vR{f:Nat->Rat}:∀ n x,d9 f n x=d4 ((List.range n).map f) x
 | n,x=>by
  have key:∀ n j,d4 ((List.range n).map fun i=>f (j+i)) x*cm x j+d9 f j x=d9 f (j+n) x:=fun n=>by
   induction n with
   | zero =>
    intro j
    show 0*_+_=d9 f j x
    grind
   | succ n ih =>
    intro j
    rw[List.range_succ_eq_map,List.map_cons,List.map_map]
    show (f (j+0)+x*d4 ((List.range n).map ((fun i=>f (j+i)) ∘ Nat.succ)) x)*cm x j+d9 f j x=_
    have e:((fun i=>f (j+i)) ∘ Nat.succ)=fun i=>f (j+1+i):=by
     funext i
     show f (j+(i+1))=f (j+1+i)
     rw[show j+(i+1)=j+1+i by walk_at"o"]
    have:=ih (j+1)
    rw[e,show j+(n+1)=j+1+n by walk_at"o",<- this,nI]
    show _=_+(d9 f j x+f j*cm x j)
    rw[Nat.add_zero]
    grind
  have:=key n 0
  rw[Nat.zero_add] at this
  rw[<- this]
  have e:(fun i=>f (0+i))=f:=by funext i;rw[Nat.zero_add]
  rw[e]
  show _*1+0=_
  grind
theorem pi.of{f:Nat->Rat}{n:Nat}(h:∀ k,n<=k->f k=0)(hn:n<=20):pi n (EV f):=⟨(List.range n).map f,by simp,fun x=>by rw[ff h hn,vR]⟩
end L2
namespace L2
open PySem PySem.Spec PyProof.Rows
section
variable {X:Cx}
end
def En(K:W.Frag)(neg:Bool):R2:=fun x y H Q=>∃ d ds,aM (vw K H) d x/\aM (vw K H) (.lst ds) y/\d.cmp/\(D.lst ds).cmp/\Q (.bl (if neg then !(ds.any fun e=>vq e d) else ds.any fun e=>vq e d)) H
theorem tH{d:D}:∀ ds:List D,(D.pys ds).any (fun y=>y.eqv d.py)=ds.any fun e=>vq e d
 | []=>by simp only[D.pys];rfl
 | e :: ds=>by
  simp only[D.pys,List.any_cons]
  rw[tH ds]
  rfl
theorem tU{q:Int × Int}:∀ qs:List (Int × Int),((qs.map fr).any fun e=>vq e (fr q))=decide (q ∈ qs)
 | []=>by simp
 | p :: qs=>by
  rw[List.map_cons,List.any_cons,tU qs,vI]
  by_cases h:p=q
  ·subst h
   simp
  ·have:q ≠ p:=fun z=>h z.symm
   simp[h,this]
end L2
namespace L2
open PySem PySem.Spec PyProof.Rows
def FG(cs:List Fg):List Rat:=cs.map fun c=>wv c.1
def DV(cs:List Fg)(i:Nat):List Rat:=(FG cs).take i ++ (FG cs).drop (i+1)
end L2
namespace L2
open PySem PySem.Spec PyProof.Rows
def rF:Nat->List Rat
 | 0=>[]
 | n+1=>((n+1:Nat):Int) :: rF n
theorem lD:∀{n:Nat}{x:Rat},x ∈ rF n -> ∃ m:Nat,1<=m/\m<=n/\x=((m:Int):Rat)
 | n+1,x,h=>by
  rcases List.mem_cons.mp h with rfl|h
  ·exact⟨n+1,by walk_at"o",by walk_at"o",rfl⟩
  ·obtain⟨m,h1,h2,h3⟩:=lD h
   exact⟨m,h1,by walk_at"o",h3⟩
theorem oR:∀ n,(rF n).Nodup
 | 0=>List.nodup_nil
 | n+1=>by
  refine List.nodup_cons.mpr ⟨fun h=>?_,oR n⟩
  obtain⟨m,_,h2,h3⟩:=lD h
  have:=Rat.intCast_inj.mp h3
  walk_at"o"
theorem lT:∀ n,(rF n).length=n
 | 0=>rfl
 | n+1=>by show (rF n).length+1=_;rw[lT n]
theorem qo:∀ l:List Rat,(∀ x,d4 l x=0) -> ∀ a ∈ l,a=0
 | [],_,a,h=>by cases h
 | b :: l,h,a,ha=>by
  have h0:b=0:=by
   have:=h 0
   show b=0
   have e:d4 (b :: l) 0=b+0*d4 l 0:=rfl
   rw[e] at this
   grind
  have hl:∀ x,d4 l x=0:=kQ (rF l.length) l (oR _) (by rw[lT];exact Nat.le_refl _) fun s hs=>by
   obtain⟨m,h1,_,rfl⟩:=lD hs
   have:=h ((m:Int):Rat)
   have e:d4 (b :: l) ((m:Int):Rat)=b+((m:Int):Rat)*d4 l ((m:Int):Rat):=rfl
   rw[e,h0] at this
   have c:((m:Int):Rat) ≠ 0:=az (by walk_at"o")
   grind
  rcases List.mem_cons.mp ha with rfl|ha
  ·exact h0
  ·exact qo l hl a ha
theorem lI{f g:Nat->Rat}(hf:∀ k,20<=k->f k=0)(hg:∀ k,20<=k->g k=0)(h:∀ x,EV f x=EV g x)(k:Nat):f k=g k:=by
 rcases Nat.lt_or_ge k 20 with z|z
 ·have e:∀ x,d4 ((List.range 20).map fun k=>f k + -1*g k) x=0:=fun x=>by
   rw[<- vR,oV]
   have h1:d9 (fun k=>-1*g k) 20 x = -1*d9 g 20 x:=by
    have:∀ n,d9 (fun k=>-1*g k) n x = -1*d9 g n x:=fun n=>by
     induction n with
     | zero=>show (0:Rat) = -1*0;grind
     | succ n ih =>
      show d9 (fun k=>-1*g k) n x + -1*g n*cm x n = -1*(d9 g n x+g n*cm x n)
      rw[ih]
      grind
    exact this 20
   have h2:d9 f 20 x=d9 g 20 x:=h x
   rw[h1,h2]
   grind
  have:=qo _ e (f k + -1*g k) (List.mem_map.mpr ⟨k,List.mem_range.mpr z,rfl⟩)
  grind
 ·rw[hf k z,hg k z]
end L2
namespace L2
open PySem PySem.Spec PyProof.Rows
end L2
namespace L2
open PySem PySem.Spec PyProof.Rows
section
variable {X:Cx}
end
end L2
namespace L2
open PySem
abbrev Om:=List Bool->Int
def wg:Nat->(Nat->Int)->Om->Om
 | 0,_,_=>fun _=>0
 | m+1,v,o=>fun l=>match l with
  | []=>0
  | false :: l=>wg m v (fun k=>o (false :: k)) l
  | true :: l=>v m*o (false :: l) - wg m v (fun k=>o (true :: k)) l
theorem i3{m:Nat}{v:Nat->Int}{o:Om}{l:List Bool}:wg (m+1) v o (false :: l)=wg m v (fun k=>o (false :: k)) l:=rfl
theorem iN{m:Nat}{v:Nat->Int}{o:Om}{l:List Bool}:wg (m+1) v o (true :: l)=v m*o (false :: l) - wg m v (fun k=>o (true :: k)) l:=rfl
theorem jF{v:Nat->Int}{a b:Int}:∀ (m:Nat)(o p:Om)(l:List Bool),wg m v (fun k=>a*o k+b*p k) l=a*wg m v o l+b*wg m v p l
 | 0,o,p,l=>by show (0:Int)=a*0+b*0;rw[Int.mul_zero,Int.mul_zero];rfl
 | m+1,o,p,[]=>by show (0:Int)=a*0+b*0;rw[Int.mul_zero,Int.mul_zero];rfl
 | m+1,o,p,false :: l=>by
  rw[i3,i3,i3]
  exact jF m _ _ l
 | m+1,o,p,true :: l=>by
  rw[iN,iN,iN,jF m (fun k=>o (true :: k)) (fun k=>p (true :: k)) l]
  grind
theorem iE{v:Nat->Int}:∀ (m:Nat)(o:Om)(l:List Bool),(∀ k,o k=0)->wg m v o l=0
 | 0,o,l,h=>rfl
 | m+1,o,[],h=>rfl
 | m+1,o,false :: l,h=>by rw[i3];exact iE m _ l fun k=>h _
 | m+1,o,true :: l,h=>by rw[iN,h,iE m _ l fun k=>h _];walk_at"o"
theorem eV{v:Nat->Int}{m:Nat}{o p:Om}(h:∀ k,o k=p k)(l:List Bool):wg m v o l=wg m v p l:=by
 have:o=p:=funext h
 rw[this]
theorem gW{u v:Nat->Int}{a b:Int}:∀ (m:Nat)(o:Om)(l:List Bool),wg m (fun i=>a*u i+b*v i) o l=a*wg m u o l+b*wg m v o l
 | 0,o,l=>by show (0:Int)=a*0+b*0;rw[Int.mul_zero,Int.mul_zero];rfl
 | m+1,o,[]=>by show (0:Int)=a*0+b*0;rw[Int.mul_zero,Int.mul_zero];rfl
 | m+1,o,false :: l=>by
  rw[i3,i3,i3]
  exact gW m _ l
 | m+1,o,true :: l=>by
  rw[iN,iN,iN,gW m _ l]
  grind
theorem fQ{v:Nat->Int}:∀ (m:Nat)(o:Om)(l:List Bool),(∀ i,i<m->v i=0)->wg m v o l=0
 | 0,o,l,h=>rfl
 | m+1,o,[],h=>rfl
 | m+1,o,false :: l,h=>by rw[i3];exact fQ m _ l fun i hi=>h i (by walk_at"o")
 | m+1,o,true :: l,h=>by rw[iN,h m (by walk_at"o"),fQ m _ l fun i hi=>h i (by walk_at"o")];walk_at"o"
theorem iL{u v:Nat->Int}:∀ (m:Nat)(o:Om)(l:List Bool),wg m u (wg m v o) l = - wg m v (wg m u o) l
 | 0,o,l=>rfl
 | m+1,o,[]=>rfl
 | m+1,o,false :: l=>by
  rw[i3,i3]
  exact iL m (fun k=>o (false :: k)) l
 | m+1,o,true :: l=>by
  rw[iN,iN,i3,i3]
  have e1:=jF (v:=u) (a:=v m) (b:=-1) m (fun k=>o (false :: k)) (wg m v fun k=>o (true :: k)) l
  have e2:=jF (v:=v) (a:=u m) (b:=-1) m (fun k=>o (false :: k)) (wg m u fun k=>o (true :: k)) l
  have f1:wg m u (fun k=>wg (m+1) v o (true :: k)) l=wg m u (fun k=>v m*o (false :: k) + -1*wg m v (fun k=>o (true :: k)) k) l:=eV (fun k=>by rw[iN];walk_at"o") l
  have f2:wg m v (fun k=>wg (m+1) u o (true :: k)) l=wg m v (fun k=>u m*o (false :: k) + -1*wg m u (fun k=>o (true :: k)) k) l:=eV (fun k=>by rw[iN];walk_at"o") l
  have s:=iL (u:=u) (v:=v) m (fun k=>o (true :: k)) l
  rw[f1,f2,e1,e2]
  grind
theorem uw{v:Nat->Int}(m:Nat)(o:Om)(l:List Bool):wg m v (wg m v o) l=0:=by
 have:=iL (u:=v) (v:=v) m o l
 walk_at"o"
section
variable (W:Nat->Int)
def gm(i:Nat):Nat->Int:=fun j=>W (i+j)
def rL:Om:=fun l=>if l.all (fun b=>!b) then 1 else 0
def om(m:Nat):Nat->Om
 | 0=>rL
 | k+1=>wg m (gm W k) (om m k)
def jg:Nat->List Bool
 | 0=>[]
 | m+1=>true :: jg m
def iV(j:Nat):Nat->Int:=fun i=>if i=j then 1 else 0
def qk(k j:Nat):Int:=wg (k+1) (iV j) (om W (k+1) k) (jg (k+1))
def Dk(k:Nat):Int:=om W k k (jg k)
def Lq(k i:Nat):Int:=wg (k+1) (gm W i) (om W (k+1) k) (jg (k+1))
end
variable {W:Nat->Int}
theorem pU(m:Nat):∀(k:Nat)(l:List Bool),om W (m+1) k (false :: l)=om W m k l
 | 0,l=>by simp[om,rL]
 | k+1,l=>by
  show wg (m+1) (gm W k) (om W (m+1) k) (false :: l)=wg m (gm W k) (om W m k) l
  rw[i3]
  exact eV (fun j=>pU m k j) l
theorem uo(m:Nat):∀(k i:Nat)(l:List Bool),i<k->wg m (gm W i) (om W m k) l=0
 | 0,i,l,h=>by walk_at"o"
 | k+1,i,l,h=>by
  show wg m (gm W i) (wg m (gm W k) (om W m k)) l=0
  by_cases e:i=k
  ·rw[e];exact uw m _ l
  ·rw[iL,iE m _ l fun j=>uo m k i j (by walk_at"o")]
   rfl
theorem BB(k:Nat):qk W k k=Dk W k:=by
 show wg (k+1) (iV k) (om W (k+1) k) (true :: jg k)=om W k k (jg k)
 rw[iN,pU,fQ (v:=iV k) k _ _ fun i hi=>if_neg (by walk_at"o")]
 show (if k=k then (1:Int) else 0)*_ - 0=_
 rw[if_pos rfl]
 walk_at"o"
theorem xZ{k j:Nat}(h:k<j):qk W k j=0:=fQ _ _ _ fun i hi=>if_neg (by walk_at"o")
theorem AO{k i:Nat}(h:i<k):Lq W k i=0:=uo _ k i _ h
theorem Di(k:Nat):Lq W k k=Dk W (k+1):=rfl
def dU(f:Nat->Int):Nat->Int
 | 0=>0
 | n+1=>dU f n+f n
theorem kG{f g:Nat->Int}:∀ n,(∀ i,i<n->f i=g i)->dU f n=dU g n
 | 0,_=>rfl
 | n+1,h=>by
  show dU f n+f n=dU g n+g n
  rw[kG n fun i hi=>h i (by walk_at"o"),h n (by walk_at"o")]
theorem jK{f:Nat->Int}:∀ n,(∀ i,i<n->f i=0)->dU f n=0
 | 0,_=>rfl
 | n+1,h=>by
  show dU f n+f n=0
  rw[jK n fun i hi=>h i (by walk_at"o"),h n (by walk_at"o")]
  rfl
theorem jt{f:Nat->Int}{j:Nat}:∀ n,(∀ i,i<n->i ≠ j->f i=0)->j<n->dU f n=f j
 | 0,_,h=>by walk_at"o"
 | n+1,h,hj=>by
  show dU f n+f n=f j
  by_cases e:j=n
  ·rw[jK n fun i hi=>h i (by walk_at"o") (by walk_at"o"),e]
   walk_at"o"
  ·rw[jt n (fun i hi hn=>h i (by walk_at"o") hn) (by walk_at"o"),h n (by walk_at"o") (by walk_at"o")]
   walk_at"o"
theorem jy{v:Nat->Int}{M:Nat}{o:Om}{l:List Bool}:∀ n,wg M (fun i=>dU (fun j=>v j*iV j i) n) o l=dU (fun j=>v j*wg M (iV j) o l) n
 | 0=>fQ _ _ _ fun i _=>rfl
 | n+1=>by
  have e:=gW (u:=fun i=>dU (fun j=>v j*iV j i) n) (v:=iV n) (a:=1) (b:=v n) M o l
  have f:(fun i=>dU (fun j=>v j*iV j i) (n+1))=fun i=>1*dU (fun j=>v j*iV j i) n+v n*iV n i:=funext fun i=>by
   show dU _ n+v n*iV n i=_
   rw[Int.one_mul]
  rw[f,e,jy n]
  show _=dU _ n+v n*_
  rw[Int.one_mul]
theorem Dy(k i:Nat):Lq W k i=dU (fun j=>W (i+j)*qk W k j) (k+1):=by
 unfold Lq qk
 rw[<- jy (v:=fun j=>W (i+j)) (M:=k+1)]
 have:∀ m (o:Om)(l:List Bool)(u v:Nat->Int),(∀ i,i<m->u i=v i)->wg m u o l=wg m v o l:=fun m o l u v h=>by
  have e:=gW (u:=u) (v:=v) (a:=1) (b:=-1) m o l
  rw[fQ m o l fun i hi=>by rw[h i hi];walk_at"o"] at e
  walk_at"o"
 refine this _ _ _ _ _ fun c hc=>?_
 show W (i+c)=_
 rw[jt (j:=c) (k+1) (fun j _ hj=>by unfold iV;rw[if_neg (fun z=>hj z.symm),Int.mul_zero]) hc]
 unfold iV
 rw[if_pos rfl,Int.mul_one]
end L2
namespace L2
open PySem
variable {W:Nat->Int}
theorem sD{v:Nat->Int}{B C:Nat}(hv:∀ i,(v i).natAbs<=B):∀ (m:Nat)(o:Om)(l:List Bool),(∀ k,(o k).natAbs<=C)->(wg m v o l).natAbs<=m*(B*C)
 | 0,o,l,h=>by simp[wg]
 | m+1,o,[],h=>by simp[wg]
 | m+1,o,false :: l,h=>by
  rw[i3]
  have:=sD hv m (fun k=>o (false :: k)) l fun k=>h _
  rw[Nat.add_mul]
  walk_at"o"
 | m+1,o,true :: l,h=>by
  rw[iN]
  have h1:=sD hv m (fun k=>o (true :: k)) l fun k=>h _
  have h2:(v m*o (false :: l)).natAbs<=B*C:=by rw[Int.natAbs_mul];exact Nat.mul_le_mul (hv m) (h _)
  have h3:=Int.natAbs_sub_le (v m*o (false :: l)) (wg m v (fun k=>o (true :: k)) l)
  rw[Nat.add_mul]
  walk_at"o"
end L2
namespace L2
open PySem PySem.Spec PyProof.Rows
end L2
namespace L2
open PySem PySem.Spec PyProof.Rows
theorem Bl{D n:Int}{a:Nat}{q:Int × Int}(hq:Fq q)(e:wv q=(n:Rat) / (D:Rat))(hD:D ≠ 0)(h1:Bt a n)(h2:Bt a D):Bq a q:=by
 rw[rT hq (m5 hD) (by rw[ma hD,e])]
 exact tD hD h1 h2
theorem EK{D E:Int}{a b:Nat}{f g:Nat->Rat}(hD:D ≠ 0)(hE:E ≠ 0)(h1:Ob D a f)(h2:Ob E b g)(j l:Nat):Ob (D*E) (a+b+j+1) (fun k=>qr f g j l k):=by
 have hp:=Ob.pr hD hE h1 h2 j
 have hx:Ob (D*E) (a+b) (fun k=>if j<=k/\k - j<l then f j*g (k - j) else 0):=fun k=>by
  by_cases hc:j<=k/\k - j<l
  ·obtain⟨m,e1,b1⟩:=h1 j
   obtain⟨n,e2,b2⟩:=h2 (k - j)
   refine⟨m*n,?_,b1.mul b2⟩
   show (if _ then _ else _)=_
   rw[if_pos hc,e1,e2,Rat.intCast_mul,Rat.intCast_mul]
   have n1:(D:Rat) ≠ 0:=az hD
   have n2:(E:Rat) ≠ 0:=az hE
   grind
  ·refine⟨0,?_,by unfold Bt;exact Nat.pow_pos (by decide)⟩
   show (if _ then _ else _)=_
   rw[if_neg hc]
   have:((0:Int):Rat)=0:=rfl
   rw[this]
   grind
 exact (Ob.add hp hx).mono (by walk_at"o")
end L2
namespace L2
open PySem PySem.Spec PyProof.Rows
theorem qF{f g h:Nat->Rat}:∀ n,bT (fun i=>f i+g i) h n=bT f h n+bT g h n
 | 0=>by show (0:Rat)=0+0;grind
 | n+1=>by
  show bT (fun i=>f i+g i) h n+(f n+g n)*h n=(bT f h n+f n*h n)+(bT g h n+g n*h n)
  rw[qF n]
  grind
theorem iu{f h:Nat->Rat}:∀ n,(∀ i,i<n->f i*h i=0)->bT f h n=0
 | 0,_=>rfl
 | n+1,hz=>by
  show bT f h n+f n*h n=0
  rw[iu n fun i hi=>hz i (by walk_at"o"),hz n (by walk_at"o")]
  grind
theorem jw{f h:Nat->Rat}{n:Nat}(hz:∀ i,n<=i->f i*h i=0):∀ m,bT f h (n+m)=bT f h n
 | 0=>rfl
 | m+1=>by
  show bT f h (n+m)+f (n+m)*h (n+m)=bT f h n
  rw[jw hz m,hz (n+m) (by walk_at"o")]
  grind
theorem sZ{F G:Nat->Rat}{f g:Nat->Int}{c d:Rat}(hc:c ≠ 0)(hd:d ≠ 0)(hF:∀ i,F i=((f i:Int):Rat) / c)(hG:∀ i,G i=((g i:Int):Rat) / d):∀ n,bT F G n=((dU (fun i=>g i*f i) n:Int):Rat) / (c*d)
 | 0=>by
  show (0:Rat)=((0:Int):Rat) / (c*d)
  have:((0:Int):Rat)=0:=rfl
  rw[this]
  grind
 | n+1=>by
  show bT F G n+F n*G n=((dU (fun i=>g i*f i) n+g n*f n:Int):Rat) / (c*d)
  rw[sZ hc hd hF hG n,hF n,hG n,Rat.intCast_add,Rat.intCast_mul]
  grind
section
variable {W:Nat->Int}{B:Int}{k:Nat}{P S:Nat->Rat}
theorem xB(hD:Dk W k ≠ 0)(hB:B ≠ 0)(hP:∀ j,P j=((qk W k j:Int):Rat) / ((Dk W k:Int):Rat))(hS:∀ i,((W i:Int):Rat)=S i*(B:Rat))(i:Nat):bT P (fun j=>S (i+j)) (k+1)=((Lq W k i:Int):Rat) / (((Dk W k:Int):Rat)*(B:Rat)):=by
 have cB:(B:Rat) ≠ 0:=az hB
 rw[sZ (f:=qk W k) (g:=fun j=>W (i+j)) (c:=((Dk W k:Int):Rat)) (d:=(B:Rat)) (az hD) cB hP (fun j=>by have:=hS (i+j);grind),<- Dy]
end
end L2
namespace L2
open PySem PySem.Spec PyProof.Rows
theorem pY{f g h:Nat->Rat}:∀ n,bT f (fun i=>g i+h i) n=bT f g n+bT f h n
 | 0=>by show (0:Rat)=0+0;grind
 | n+1=>by
  show bT f (fun i=>g i+h i) n+f n*(g n+h n)=(bT f g n+f n*g n)+(bT f h n+f n*h n)
  rw[pY n]
  grind
theorem kR{f h:Nat->Rat}{c:Rat}:∀ n,bT (fun i=>c*f i) h n=c*bT f h n
 | 0=>by show (0:Rat)=c*0;grind
 | n+1=>by
  show bT (fun i=>c*f i) h n+(c*f n)*h n=c*(bT f h n+f n*h n)
  rw[kR n]
  grind
theorem pE{f h:Nat->Rat}{c:Rat}:∀ n,bT f (fun i=>c*h i) n=c*bT f h n
 | 0=>by show (0:Rat)=c*0;grind
 | n+1=>by
  show bT f (fun i=>c*h i) n+f n*(c*h n)=c*(bT f h n+f n*h n)
  rw[pE n]
  grind
def ip(S u v:Nat->Rat)(m n:Nat):Rat:=bT u (fun i=>bT v (fun j=>S (i+j)) n) m
theorem fY{S u v:Nat->Rat}{n:Nat}:∀ m,ip S u v m n=ip S v u n m
 | 0=>by
  unfold ip
  show (0:Rat)=bT v (fun j=>0) n
  rw[iu n fun i _=>by grind]
 | m+1=>by
  have h:=fY (S:=S) (u:=u) (v:=v) (n:=n) m
  unfold ip at h ⊢
  show bT u (fun i=>bT v (fun j=>S (i+j)) n) m+u m*bT v (fun j=>S (m+j)) n=bT v (fun i=>bT u (fun j=>S (i+j)) m+u m*S (i+m)) n
  rw[pY,pE,h]
  congr 2
  exact jQ n (fun _ _=>rfl) fun i _=>by rw[Nat.add_comm]
section
variable {S:Nat->Rat}{P:Nat->Nat->Rat}{h:Nat->Rat}{M n:Nat}
end
section
variable {W:Nat->Int}{B:Int}{S:Nat->Rat}
theorem Cw{k m:Nat}{p v:Nat->Rat}(hD:Dk W k ≠ 0)(hB:B ≠ 0)(hP:∀ j,p j=((qk W k j:Int):Rat) / ((Dk W k:Int):Rat))(hS:∀ i,((W i:Int):Rat)=S i*(B:Rat))(hm:k+1<=m)(n:Nat):ip S v p n m=bT v (fun i=>((Lq W k i:Int):Rat) / (((Dk W k:Int):Rat)*(B:Rat))) n:=by
 refine jQ n (fun _ _=>rfl) fun i _=>?_
 rw[<- xB hD hB hP hS i]
 have:=jw (f:=p) (h:=fun j=>S (i+j)) (n:=k+1) (fun j hj=>by
  have z:((0:Int):Rat)=0:=rfl
  rw[hP j,xZ (by walk_at"o"),z]
  grind) (m - (k+1))
 rw[show k+1+(m - (k+1))=m by walk_at"o"] at this
 exact this
end
end L2
namespace L2
open PySem PySem.Spec PyProof.Rows
theorem tX{v:Nat->Rat}{x c:Rat}:∀ n,bT v (fun j=>c*cm x j) n=c*d9 v n x
 | 0=>by show (0:Rat)=c*0;grind
 | n+1=>by
  show bT v (fun j=>c*cm x j) n+v n*(c*cm x n)=c*(d9 v n x+v n*cm x n)
  rw[tX n]
  grind
theorem ze(y:Rat):0<=y*y:=by
 rcases Rat.le_total (a:=0) (b:=y) with h|h
 ·exact Rat.mul_nonneg h h
 ·have:=Rat.mul_nonneg (Rat.neg_le_neg h) (Rat.neg_le_neg h)
  grind
section
variable {W:Nat->Int}{B:Int}{cs:List Fg}
def Pk(W:Nat->Int)(k:Nat):Nat->Rat:=fun j=>((qk W k j:Int):Rat) / ((Dk W k:Int):Rat)
theorem Dt{k j:Nat}(h:k<j):Pk W k j=0:=by
 have z:((0:Int):Rat)=0:=rfl
 unfold Pk
 rw[xZ h,z]
 grind
theorem DC{k:Nat}(h:Dk W k ≠ 0):Pk W k k=1:=by
 have:=az h
 unfold Pk
 rw[BB]
 grind
end
end L2
namespace L2
open PySem PySem.Spec PyProof.Rows
end L2
namespace L2
open PySem PySem.Spec PyProof.Rows
section
variable {W:Nat->Int}{B:Int}{S:Nat->Rat}{M:Nat}
end
end L2
namespace L2
open PySem PySem.Spec PyProof.Rows
end L2
namespace L2
open PySem PyProof.Rows
theorem Fx{i:Int}(h:0<=i):Builtin.bitAnd i 1=i % 2:=by
 rw[PyProof.Rows.bitAnd_pp h (by decide)]
 show ((i.toNat &&& 1:Nat):Int)=_
 rw[Nat.and_one_is_mod]
 walk_at"o"
section
variable {X:Cx}
theorem Ap:eD X (binaryOp .BitAnd) (rI (fun i j=>0<=i/\j=1) fun i j=>.int (i % 2)):=DT fun i j _ _ _ _ _ hc q=>by
 obtain⟨h0,rfl⟩:=hc
 refine and_int ?_
 rw[Fx h0]
 exact q
end
end L2
namespace L2
open PySem PySem.Spec PyProof.Rows
section
variable {W:Nat->Int}{k:Nat}
end
end L2
namespace L2
open PySem PySem.Spec PyProof.Rows
section
variable {P:Program}{w:World}{K:W.Frag}{mg:Str->Option Value}{base:Heap}
end
end L2
namespace L2
open PySem PySem.Spec PyProof.Rows
section
variable {X:Cx}{a b:Expr}{pos:Pos}{t:St->Hp->XK->Prop}
end
section
variable {P:Program}{w:World}{K:W.Frag}{mg:Str->Option Value}{base:Heap}
end
end L2
namespace L2
open PySem PySem.Spec PyProof.Rows
structure Lm where
 p:Addr
 c:Addr
 ps:Arguments
 b:Expr
 sc:Scope
section
variable {P:Addr}{G0 G G' L0 L1 L3:Hp}{qual:Str}{cl:List (Str × Addr)}{cs p c':Addr}{xs:List Lm}{params:Arguments}{body:Expr}{scope:Scope}
end
end L2
namespace L2
open PySem PySem.Spec PyProof.Rows
structure mv (P:Program)(base:Heap):Prop where
 seer:base.NoSeer
 tree:P.given.tree=none
def yZ(_ j:Int):Prop:=j ≠ 0
theorem hU{X:Cx}{k:Nat}(N:mv X.prog X.base)(hr:cF k X.A)(hst:X.stack=X.env :: X.outer)(hgen:X.env.scope.isGenerator=false)(hco:X.env.scope.isCoroutine=false) :
  eD X (binaryOp .FloorDiv) (rI yZ fun i j=>.int (i.fdiv j)):=by
 intro pins s σ H x y v u Q I rx ry h
 obtain⟨i,j,rfl,rfl,hc,q⟩:=h
 obtain⟨t,rfl⟩:=rx
 obtain⟨t',rfl⟩:=ry
 refine floordiv_int hc ⟨.int (i.fdiv j),H,I.tok _,⟨_,rfl⟩,q⟩ (.inr ?_)
 refine PySem.PylongRoom.of I.nolimit ?_ (PySem.SeerAt.of (N.seer.keeps I.bk) N.tree (I.ok.frames.trans (congrArg some hst)) hgen hco I.ok.blt I.ok.glob)
 have:=hr.dp
 show X.A.depth+100<recursionLimit
 walk_at"o"
end L2
namespace L2
open PySem
def hR(W:Nat->Int)(B:Int)(k:Nat):Rat:=((Dk W (k+1):Int):Rat) / ((Dk W k*B:Int):Rat)
theorem wn{v:Nat->Rat}{x:Rat}:EV v x=bT v (fun j=>1*cm x j) 20:=by
 rw[tX]
 unfold EV
 grind
section
variable {W:Nat->Int}{B:Int}{x:Rat}{m:Nat}
end
def tb:Nat->Nat
 | 0=>1
 | k+1=>tb k+(360*k+280)
end L2
namespace L2
open PySem
def dw(M:Nat):List (Nat->Int)->Om
 | []=>rL
 | r :: rs=>wg M r (dw M rs)
def dt(M:Nat)(rows:List (Nat->Int)):Int:=dw M rows (jg M)
theorem Cv{v:Nat->Int}{m:Nat}{o p:Om}(h:∀ k,o k = - p k)(l:List Bool):wg m v o l = - wg m v p l:=by
 have e:=jF (v:=v) (a:=-1) (b:=0) m p p l
 rw[<- eV (o:=o) (p:=fun k=>-1*p k+0*p k) (fun k=>by rw[h];walk_at"o") l] at e
 walk_at"o"
theorem t9{v:Nat->Int}{a:Int}{m:Nat}{o p:Om}(h:∀ k,o k=a*p k)(l:List Bool):wg m v o l=a*wg m v p l:=by
 have e:=jF (v:=v) (a:=a) (b:=0) m p p l
 rw[<- eV (o:=o) (p:=fun k=>a*p k+0*p k) (fun k=>by rw[h];walk_at"o") l] at e
 walk_at"o"
theorem BZ{u v:Nat->Int}{m:Nat}{o:Om}{l:List Bool}(h:∀ i,i<m->u i=v i):wg m u o l=wg m v o l:=by
 have e:=gW (u:=u) (v:=v) (a:=1) (b:=-1) m o l
 rw[fQ m o l fun i hi=>by rw[h i hi];walk_at"o"] at e
 walk_at"o"
def Pm(x y:Int):Prop:=x=y\/x = -y
theorem Pm.rfl'{x:Int}:Pm x x:=.inl rfl
theorem Pm.symm{x y:Int}(h:Pm x y):Pm y x:=by rcases h with e|e <;> unfold Pm <;> walk_at"o"
theorem Pm.trans{x y z:Int}(h:Pm x y)(g:Pm y z):Pm x z:=by rcases h with e|e <;> rcases g with f|f <;> unfold Pm <;> walk_at"o"
theorem Pm.mul{x y:Int}(h:Pm x y)(a:Int):Pm (a*x) (a*y):=by
 rcases h with e|e
 ·exact .inl (by rw[e])
 ·exact .inr (by rw[e,Int.mul_neg])
theorem Pm.of_mul{a x y:Int}(h:Pm (a*x) (a*y))(ha:a ≠ 0):Pm x y:=by
 rcases h with e|e
 ·exact .inl (Int.eq_of_mul_eq_mul_left ha e)
 ·exact .inr (Int.eq_of_mul_eq_mul_left ha (by rw[e,Int.mul_neg]))
theorem rJ{M:Nat}{x:Nat->Int}:∀ {rows:List (Nat->Int)},x ∈ rows -> ∀ l,wg M x (dw M rows) l=0
 | [],h,_=>by cases h
 | y :: rs,h,l=>by
  show wg M x (wg M y (dw M rs)) l=0
  rcases List.mem_cons.mp h with rfl|z
  ·exact uw M _ l
  ·rw[iL,iE M _ l fun k=>rJ z k]
   rfl
theorem yO{M:Nat}{a b:List (Nat->Int)}(h:a.Perm b):(∀ l,dw M a l=dw M b l) \/ ∀ l,dw M a l = - dw M b l:=by
 induction h with
 | nil=>exact .inl fun _=>rfl
 | cons x _ ih =>
  rcases ih with e|e
  ·exact .inl fun l=>eV e l
  ·exact .inr fun l=>Cv e l
 | swap x y l=>exact .inr fun k=>iL M _ k
 | trans _ _ ih1 ih2 =>
  rcases ih1 with e|e <;> rcases ih2 with f|f
  ·exact .inl fun l=>by rw[e,f]
  ·exact .inr fun l=>by rw[e,f]
  ·exact .inr fun l=>by rw[e,f]
  ·exact .inl fun l=>by rw[e,f];walk_at"o"
theorem ol{M:Nat}{a b:List (Nat->Int)}(h:a.Perm b):Pm (dt M a) (dt M b):=by
 rcases yO (M:=M) h with e|e
 ·exact .inl (e _)
 ·exact .inr (e _)
theorem qx{m:Nat}:∀(rs:List (Nat->Int))(l:List Bool),dw (m+1) rs (false :: l)=dw m rs l
 | [],l=>by simp[dw,rL]
 | r :: rs,l=>by
  show wg (m+1) r (dw (m+1) rs) (false :: l)=wg m r (dw m rs) l
  rw[i3]
  exact eV (fun k=>qx rs k) l
theorem tG{m:Nat}:∀{rs:List (Nat->Int)},(∀ r ∈ rs,r m=0) -> ∀ l,dw (m+1) rs (true :: l)=0
 | [],_,l=>by simp[dw,rL]
 | r :: rs,h,l=>by
  show wg (m+1) r (dw (m+1) rs) (true :: l)=0
  rw[iN,h r List.mem_cons_self,iE m _ l fun k=>tG (fun x hx=>h x (List.mem_cons_of_mem _ hx)) k]
  walk_at"o"
theorem CM{m:Nat}{r:Nat->Int}{rs:List (Nat->Int)}(h:∀ x ∈ rs,x m=0):dt (m+1) (r :: rs)=r m*dt m rs:=by
 show wg (m+1) r (dw (m+1) rs) (true :: jg m)=r m*dw m rs (jg m)
 rw[iN,qx,iE m _ _ fun k=>tG h k]
 walk_at"o"
def st(g:Nat->Nat->Int)(lo:Nat):Nat->List (Nat->Int)
 | 0=>[]
 | n+1=>g (lo+n) :: st g lo n
theorem iW{g:Nat->Nat->Int}{lo:Nat}{x:Nat->Int}:∀ {n:Nat},x ∈ st g lo n -> ∃ i,i<n/\x=g (lo+i)
 | 0,h=>by cases h
 | n+1,h=>by
  rcases List.mem_cons.mp h with rfl|z
  ·exact⟨n,by walk_at"o",rfl⟩
  ·obtain⟨i,hi,e⟩:=iW z
   exact⟨i,by walk_at"o",e⟩
theorem wJ{g:Nat->Nat->Int}{lo i:Nat}:∀ {n:Nat},i<n->g (lo+i) ∈ st g lo n
 | 0,h=>by walk_at"o"
 | n+1,h=>by
  by_cases e:i=n
  ·rw[e];exact List.mem_cons_self
  ·exact List.mem_cons_of_mem _ (wJ (by walk_at"o"))
theorem rO(g:Nat->Nat->Int)(lo n:Nat):∀ m,st g lo (n+m)=st g (lo+n) m ++ st g lo n
 | 0=>rfl
 | m+1=>by
  show g (lo+(n+m)) :: st g lo (n+m)=g (lo+n+m) :: (st g (lo+n) m ++ st g lo n)
  rw[rO g lo n m,Nat.add_assoc]
theorem ik{g:Nat->Nat->Int}{c:Int}{d0 lo:Nat}{X:List (Nat->Int)}(h1:∀ i,g i (d0+i)=c)(h2:∀ i k,d0+i<k->g i k=0)(hX:∀ x ∈ X,∀ k,d0+lo<=k->x k=0):∀ n,dt (d0+lo+n) (st g lo n ++ X)=c ^ n*dt (d0+lo) X
 | 0=>by show dt (d0+lo) X=c ^ 0*_;rw[Int.pow_zero,Int.one_mul]
 | n+1=>by
  show dt (d0+lo+n+1) (g (lo+n) :: (st g lo n ++ X))=_
  rw[CM,ik h1 h2 hX n,show d0+lo+n=d0+(lo+n) by walk_at"o",h1,Int.pow_succ,Int.mul_comm (c ^ n) c,Int.mul_assoc]
  intro x hx
  rcases List.mem_append.mp hx with z|z
  ·obtain⟨i,hi,rfl⟩:=iW z
   exact h2 _ _ (by walk_at"o")
  ·exact hX x z _ (by walk_at"o")
def ql(M:Nat)(X:List (Nat->Int))(v:Nat->Int):Prop:=∀ rows:List (Nat->Int),(∀ x ∈ X,x ∈ rows) -> ∀ l,wg M v (dw M rows) l=0
theorem ql.mem{M:Nat}{X:List (Nat->Int)}{v:Nat->Int}(h:v ∈ X):ql M X v:=fun rows hr l=>rJ (hr v h) l
theorem ql.zero{M:Nat}{X:List (Nat->Int)}:ql M X fun _=>0:=fun rows _ l=>fQ M _ l fun _ _=>rfl
theorem ql.lin{M:Nat}{X:List (Nat->Int)}{u v:Nat->Int}{a b:Int}(hu:ql M X u)(hv:ql M X v):ql M X fun k=>a*u k+b*v k:=fun rows hr l=>by
 rw[gW,hu rows hr l,hv rows hr l]
 walk_at"o"
theorem ql.sum{M:Nat}{X:List (Nat->Int)}{q:Nat->Int}{g:Nat->Nat->Int}:∀ n,(∀ i,i<n->g i ∈ X)->ql M X fun k=>dU (fun i=>q i*g i k) n
 | 0,_=>ql.zero
 | n+1,h=>by
  have e:=ql.lin (a:=1) (b:=q n) (ql.sum (q:=q) n fun i hi=>h i (by walk_at"o")) (ql.mem (M:=M) (h n (by walk_at"o")))
  have f:(fun k=>1*dU (fun i=>q i*g i k) n+q n*g n k)=fun k=>dU (fun i=>q i*g i k) (n+1):=by
   funext k
   show 1*_+_=dU _ n+q n*g n k
   walk_at"o"
  rw[f] at e
  exact e
theorem xL{M:Nat}{f r:Nat->Nat->Int}{c b:Int}{X:List (Nat->Int)}:∀ n,(∀ i,i<n -> ∃ v,ql M X v /\ ∀ k,c*f i k=b*r i k+v k) -> ∀ l,c ^ n*dw M (st f 0 n ++ X) l=b ^ n*dw M (st r 0 n ++ X) l
 | 0,_,l=>by rw[Int.pow_zero,Int.pow_zero];rfl
 | n+1,h,l=>by
  have ih:=xL n fun i hi=>h i (by walk_at"o")
  obtain⟨v,hv,e⟩:=h n (by walk_at"o")
  show c ^ (n+1)*wg M (f (0+n)) (dw M (st f 0 n ++ X)) l=b ^ (n+1)*wg M (r (0+n)) (dw M (st r 0 n ++ X)) l
  rw[Nat.zero_add]
  have e1:c ^ n*wg M (f n) (dw M (st f 0 n ++ X)) l=b ^ n*wg M (f n) (dw M (st r 0 n ++ X)) l:=by
   rw[<- t9 (o:=fun k=>c ^ n*dw M (st f 0 n ++ X) k) (fun _=>rfl) l,<- t9 (o:=fun k=>b ^ n*dw M (st r 0 n ++ X) k) (fun _=>rfl) l]
   exact eV ih l
  have e2:c*wg M (f n) (dw M (st r 0 n ++ X)) l=b*wg M (r n) (dw M (st r 0 n ++ X)) l:=by
   have a1:=gW (u:=f n) (v:=f n) (a:=c) (b:=0) M (dw M (st r 0 n ++ X)) l
   have a2:=gW (u:=r n) (v:=v) (a:=b) (b:=1) M (dw M (st r 0 n ++ X)) l
   rw[hv _ (fun x hx=>List.mem_append_right _ hx) l] at a2
   have a3:(fun i=>c*f n i+0*f n i)=fun i=>b*r n i+1*v i:=by
    funext k
    have:=e k
    walk_at"o"
   rw[a3,a2] at a1
   walk_at"o"
  rw[Int.pow_succ,Int.pow_succ,Int.mul_comm (c ^ n) c,Int.mul_assoc,e1,Int.mul_left_comm,e2,Int.mul_assoc]
theorem Bw{M:Nat}{f r:Nat->Nat->Int}{c b:Int}{X:List (Nat->Int)}(n:Nat)(h:∀ i,i<n -> ∃ v,ql M X v /\ ∀ k,c*f i k=b*r i k+v k):c ^ n*dt M (st f 0 n ++ X)=b ^ n*dt M (st r 0 n ++ X):=xL n h _
def sh(f:Nat->Int)(i k:Nat):Int:=if i<=k then f (k - i) else 0
def Ej(j k:Nat):List (Nat->Int):=((List.range (j+1)).filter fun i=>decide (i ≠ k)).map iV
theorem rV{j k:Nat}{x:Nat->Int}(h:x ∈ Ej j k) {m:Nat}(hm:j<m):x m=0:=by
 obtain⟨i,hi,rfl⟩:=List.mem_map.mp h
 have:=List.mem_range.mp (List.mem_filter.mp hi).1
 exact if_neg (by walk_at"o")
theorem vG:∀ n,st iV 0 n=((List.range n).reverse).map iV
 | 0=>rfl
 | n+1=>by
  rw[List.range_succ,List.reverse_append]
  show iV (0+n) :: st iV 0 n=iV n :: _
  rw[vG n,Nat.zero_add]
  rfl
theorem zU(n:Nat):dt n (st iV 0 n)=1:=by
 have e:=ik (g:=iV) (c:=1) (d0:=0) (lo:=0) (X:=[]) (fun i=>by rw[Nat.zero_add];exact if_pos rfl) (fun i k h=>if_neg (by walk_at"o")) (fun x hx=>by cases hx) n
 rw[List.append_nil,Int.one_pow,Nat.zero_add,Nat.zero_add] at e
 rw[e]
 rfl
theorem t5{j k:Nat}(h:k<=j):(iV k :: Ej j k).Perm (st iV 0 (j+1)):=by
 rw[vG]
 show (List.map iV (k :: (List.range (j+1)).filter fun i=>decide (i ≠ k))).Perm _
 refine List.Perm.map _ (List.Perm.trans ?_ (List.reverse_perm _).symm)
 have nd:(List.range (j+1)).Nodup:=List.nodup_range
 have e:(List.range (j+1)).filter (fun i=>decide (i ≠ k))=(List.range (j+1)).erase k:=by
  rw[nd.erase_eq_filter]
  congr 1
  funext i
  by_cases z:i=k
  ·simp[z]
  ·simp[z]
 rw[e]
 exact (List.perm_cons_erase (List.mem_range.mpr (by walk_at"o"))).symm
theorem wt{j k:Nat}{R:Nat->Int}(h:k<=j):Pm (dt (j+1) (R :: Ej j k)) (R k):=by
 have e:dt (j+1) (R :: Ej j k)=R k*dt (j+1) (iV k :: Ej j k):=by
  show wg (j+1) R (dw (j+1) (Ej j k)) (jg (j+1))=R k*wg (j+1) (iV k) (dw (j+1) (Ej j k)) (jg (j+1))
  have e1:wg (j+1) R (dw (j+1) (Ej j k)) (jg (j+1))=wg (j+1) (fun i=>dU (fun a=>R a*iV a i) (j+1)) (dw (j+1) (Ej j k)) (jg (j+1)):=BZ fun i hi=>by
   rw[jt (j:=i) (j+1) (fun a _ ha=>by rw[show iV a i=0 from if_neg (fun z=>ha z.symm)];walk_at"o") hi,show iV i i=1 from if_pos rfl]
   walk_at"o"
  rw[e1,jy]
  refine jt (j+1) (fun i hi hn=>?_) (by walk_at"o")
  have z:iV i ∈ Ej j k:=List.mem_map.mpr ⟨i,List.mem_filter.mpr ⟨List.mem_range.mpr hi,decide_eq_true hn⟩,rfl⟩
  rw[rJ z]
  walk_at"o"
 rw[e]
 have p:=(ol (M:=j+1) (t5 h)).mul (R k)
 rw[zU,Int.mul_one] at p
 exact p
end L2
namespace L2
open PySem
def SR(f g:Nat->Int)(a b j k:Nat):Int:=dt (a+b - j) (st (sh f) 0 (b - j) ++ (st (sh g) 0 (a - j) ++ Ej j k))
theorem sB{f:Nat->Int}{a i:Nat}:sh f i (a+i)=f a:=by
 unfold sh
 rw[if_pos (by walk_at"o"),show a+i - i=a by walk_at"o"]
theorem jO{f:Nat->Int}{a:Nat}(h:∀ k,a<k->f k=0) {i k:Nat}(hk:a+i<k):sh f i k=0:=by
 unfold sh
 rw[if_pos (by walk_at"o")]
 exact h _ (by walk_at"o")
def cv(q g:Nat->Int)(n k:Nat):Int:=dU (fun t=>q t*sh g t k) n
theorem Co{q g:Nat->Int}{i n:Nat}:∀ k,sh (cv q g n) i k=dU (fun t=>q t*sh g (i+t) k) n:=fun k=>by
 unfold sh
 by_cases h:i<=k
 ·rw[if_pos h]
  refine kG n fun t _=>?_
  show q t*(if t<=k - i then g (k - i - t) else 0)=q t*(if i+t<=k then g (k - (i+t)) else 0)
  by_cases z:t<=k - i
  ·rw[if_pos z,if_pos (by walk_at"o"),show k - i - t=k - (i+t) by walk_at"o"]
  ·rw[if_neg z,if_neg (by walk_at"o")]
 ·rw[if_neg h]
  refine (jK n fun t _=>?_).symm
  rw[if_neg (by walk_at"o")]
  exact Int.mul_zero _
theorem vO{f g q r:Nat->Int}{a b j k:Nat}{γ β:Int}(ab:b<=a)(jb:j<=b)(e:∀ k,γ*f k=cv q g (a - b+1) k+β*r k) :
  γ ^ (b - j)*SR f g a b j k=β ^ (b - j)*dt (a+b - j) (st (sh r) 0 (b - j) ++ (st (sh g) 0 (a - j) ++ Ej j k)):=by
 refine Bw (b - j) fun i hi=>⟨fun k=>dU (fun t=>q t*sh g (i+t) k) (a - b+1),ql.sum (g:=fun t=>sh g (i+t)) _ fun t ht=>List.mem_append_left _ ?_,fun k=>?_⟩
 ·have:=wJ (g:=sh g) (lo:=0) (i:=i+t) (n:=a - j) (by walk_at"o")
  rwa [Nat.zero_add] at this
 ·show γ*sh f i k=β*sh r i k+dU (fun t=>q t*sh g (i+t) k) (a - b+1)
  rw[<- Co]
  unfold sh
  by_cases h:i<=k
  ·rw[if_pos h,if_pos h,if_pos h,e]
   walk_at"o"
  ·rw[if_neg h,if_neg h,if_neg h]
   walk_at"o"
theorem za{f g q r:Nat->Int}{a b d j k:Nat}{γ β c:Int}(ab:b<=a)(db:d<b)(jd:j<=d)(hg:g b=c)(g0:∀ k,b<k->g k=0)(r0:∀ k,d<k->r k=0)(e:∀ k,γ*f k=cv q g (a - b+1) k+β*r k) :
  Pm (γ ^ (b - j)*SR f g a b j k) (β ^ (b - j)*(c ^ (a - d)*SR g r b d j k)):=by
 rw[vO ab (by walk_at"o") e]
 refine Pm.mul ?_ _
 have p:(st (sh r) 0 (b - j) ++ (st (sh g) 0 (a - j) ++ Ej j k)).Perm (st (sh g) (d - j) (a - d) ++ (st (sh g) 0 (d - j) ++ (st (sh r) 0 (b - j) ++ Ej j k))):=by
  have s:=rO (sh g) 0 (d - j) (a - d)
  rw[show d - j+(a - d)=a - j by walk_at"o",Nat.zero_add] at s
  rw[s,<- List.append_assoc,<- List.append_assoc,<- List.append_assoc,<- List.append_assoc]
  refine List.Perm.append_right _ ?_
  rw[List.append_assoc,List.append_assoc]
  exact (List.perm_append_comm).trans (by rw[List.append_assoc])
 refine (ol p).trans ?_
 rw[show a+b - j=b+(d - j)+(a - d) by walk_at"o",ik (d0:=b) (c:=c) (fun i=>by rw[sB];exact hg) (fun i k h=>jO g0 h) ?_ (a - d)]
 ·rw[show b+(d - j)=b+d - j by walk_at"o"]
  exact Pm.rfl'
 ·intro x hx k hk
  rcases List.mem_append.mp hx with z|z
  ·obtain⟨i,hi,rfl⟩:=iW z
   exact jO g0 (by walk_at"o")
  ·rcases List.mem_append.mp z with z|z
   ·obtain⟨i,hi,rfl⟩:=iW z
    exact jO r0 (by walk_at"o")
   ·exact rV z (by walk_at"o")
theorem sY(x:Int):x ^ 1=x:=by rw[Int.pow_succ,Int.pow_zero,Int.one_mul]
theorem zB{f g q r:Nat->Int}{a b k:Nat}{c:Int}(ab:b<=a)(hb:1<=b)(hk:k<b)(hg:g b=c)(hc:c ≠ 0)(g0:∀ k,b<k->g k=0)(r0:∀ k,b<=k->r k=0)(e:∀ k,c ^ (a - b+1)*f k=cv q g (a - b+1) k+r k) :
  Pm (SR f g a b (b - 1) k) (r k):=by
 refine Pm.of_mul (a:=c ^ (a - b+1)) ?_ (Int.pow_ne_zero hc)
 have s:=vO (j:=b - 1) (k:=k) (q:=q) (g:=g) (f:=f) (γ:=c ^ (a - b+1)) (β:=1) ab (by walk_at"o") (r:=r) (fun k=>by rw[e k];walk_at"o")
 rw[show b - (b - 1)=1 by walk_at"o",sY,sY,Int.one_mul] at s
 rw[s,show a+b - (b - 1)=b+0+(a - b+1) by walk_at"o",show a - (b - 1)=a - b+1 by walk_at"o"]
 have p:(st (sh r) 0 1 ++ (st (sh g) 0 (a - b+1) ++ Ej (b - 1) k)).Perm (st (sh g) 0 (a - b+1) ++ (sh r 0 :: Ej (b - 1) k)):=by
  show (sh r (0+0) :: (st (sh g) 0 (a - b+1) ++ Ej (b - 1) k)).Perm _
  exact List.perm_middle.symm
 refine (ol p).trans ?_
 rw[ik (d0:=b) (c:=c) (fun i=>by rw[sB];exact hg) (fun i k h=>jO g0 h) ?_ (a - b+1)]
 ·refine Pm.mul ?_ _
  have d:=wt (j:=b - 1) (k:=k) (R:=sh r 0) (by walk_at"o")
  rw[show b - 1+1=b+0 by walk_at"o"] at d
  refine d.trans (.inl ?_)
  show sh r 0 k=r k
  unfold sh
  rw[if_pos (by walk_at"o"),Nat.sub_zero]
 ·intro x hx m hm
  rcases List.mem_cons.mp hx with rfl|z
  ·unfold sh
   rw[if_pos (by walk_at"o")]
   exact r0 _ (by walk_at"o")
  ·exact rV z (by walk_at"o")
theorem zz{f g:Nat->Int}{a b:Nat}{c:Int}(ab:b<a)(hg:g b=c)(g0:∀ k,b<k->g k=0):Pm (SR f g a b b b) (c ^ (a - b)):=by
 unfold SR
 rw[show b - b=0 by walk_at"o"]
 show Pm (dt (a+b - b) (st (sh g) 0 (a - b) ++ Ej b b)) _
 obtain⟨n,hn⟩ : ∃ n,a - b=n+1:=⟨a - b - 1,by walk_at"o"⟩
 have s:=rO (sh g) 0 1 n
 rw[show 1+n=n+1 by walk_at"o"] at s
 rw[hn,s,show a+b - b=b+1+n by walk_at"o",List.append_assoc,ik (d0:=b) (lo:=1) (c:=c) (fun i=>by rw[sB];exact hg) (fun i k h=>jO g0 h) ?_ n]
 ·rw[Int.pow_succ]
  refine Pm.mul ?_ _
  have d:=wt (j:=b) (k:=b) (R:=sh g 0) (by walk_at"o")
  have e:sh g 0 b=c:=by
   unfold sh
   rw[if_pos (by walk_at"o"),Nat.sub_zero,hg]
  rw[e] at d
  exact d
 ·intro x hx m hm
  rcases List.mem_append.mp hx with z|z
  ·obtain⟨i,hi,rfl⟩:=iW z
   exact jO g0 (by walk_at"o")
  ·exact rV z (by walk_at"o")
theorem yw{M C:Nat}(hM:1<=M*C):∀ {rows:List (Nat->Int)},(∀ r ∈ rows,∀ i,(r i).natAbs<=C) -> ∀ l,(dw M rows l).natAbs<=(M*C) ^ rows.length
 | [],_,l=>by
  show (rL l).natAbs<=1
  unfold rL
  split <;> decide
 | r :: rs,h,l=>by
  have ih:=yw hM (fun x hx=>h x (List.mem_cons_of_mem _ hx))
  have:=sD (h r List.mem_cons_self) M (dw M rs) l ih
  show (wg M r (dw M rs) l).natAbs<=(M*C) ^ (rs.length+1)
  rw[Nat.pow_succ,Nat.mul_comm _ (M*C),Nat.mul_assoc]
  exact this
theorem oq{g:Nat->Nat->Int}{lo:Nat}:∀ n,(st g lo n).length=n
 | 0=>rfl
 | n+1=>by
  show (st g lo n).length+1=n+1
  rw[oq n]
theorem vN{j k:Nat}(h:k<=j):(Ej j k).length=j:=by
 have:=(t5 h).length_eq
 rw[oq] at this
 simp at this
 exact this
theorem yo{f:Nat->Int}{C:Nat}(h:∀ i,(f i).natAbs<=C)(i k:Nat):(sh f i k).natAbs<=C:=by
 unfold sh
 split
 ·exact h _
 ·exact Nat.zero_le _
end L2
namespace L2
open PySem
theorem E2(a:Int)(m n:Nat):a ^ (m+n)=a ^ m*a ^ n:=Int.pow_add a m n
theorem imp(a b:Int)(n:Nat):(a*b) ^ n=a ^ n*b ^ n:=Int.mul_pow
theorem EY(a:Int)(m n:Nat):(a ^ m) ^ n=a ^ (m*n):=Int.pow_mul.symm
theorem Fa{h h' c:Int}{e m:Nat}(H:h'*h ^ e=c ^ (e+1)):h ^ ((e+1)*(m+1))*c ^ (e+1+(m+1))*h' ^ m=c ^ ((e+2)*(m+1))*h ^ (e+1+m):=by
 have k:h' ^ m*h ^ (e*m)=c ^ ((e+1)*m):=by rw[<- EY,<- imp,H,EY]
 have e1:(e+1)*(m+1)=e*m+(e+1+m):=by simp only[Nat.mul_add,Nat.add_mul];walk_at"o"
 have e2:(e+2)*(m+1)=(e+1)*m+(e+1+(m+1)):=by simp only[Nat.mul_add,Nat.add_mul];walk_at"o"
 rw[e1,e2,E2 h,E2 c ((e+1)*m),<- k]
 generalize h ^ (e*m)=u
 generalize h ^ (e+1+m)=v
 generalize c ^ (e+1+(m+1))=w
 generalize h' ^ m=z
 grind
structure mz (S1:Nat->Nat->Int)(F G:Nat->Int)(A B:Nat)(x h:Int):Prop where
 ba:B<=A
 x0:x ≠ 0
 h0:h ≠ 0
 one:A=B->h=1
 main:∀ j k,j<=B->k<=j->Pm (SR F G A B j k) (x ^ (B - j)*(h ^ (A - j - 1)*S1 j k))
theorem mz.first{F G:Nat->Int}{A B:Nat}(h:B<=A):mz (SR F G A B) F G A B 1 1:=⟨h,by decide,by decide,fun _=>rfl,fun j k _ _=>.inl (by rw[Int.one_pow,Int.one_pow,Int.one_mul,Int.one_mul])⟩
section
variable {S1:Nat->Nat->Int}{F G q R r:Nat->Int}{A B d:Nat}{x h c h':Int}
theorem mz.rest(I:mz S1 F G A B x h)(hg:G B=c)(hc:c ≠ 0)(g0:∀ k,B<k->G k=0)(r0:∀ k,B<=k->R k=0)(e:∀ k,c ^ (A - B+1)*F k=cv q G (A - B+1) k+R k)(k:Nat)(hk:k<B):Pm (R k) (x*h ^ (A - B)*S1 (B - 1) k):=by
 have s:=(zB I.ba (by walk_at"o") hk hg hc g0 r0 e).symm.trans (I.main (B - 1) k (by walk_at"o") (by walk_at"o"))
 rw[show B - (B - 1)=1 by walk_at"o",sY,show A - (B - 1) - 1=A - B by have:=I.ba;walk_at"o",<- Int.mul_assoc] at s
 exact s
theorem mz.high(I:mz S1 F G A B x h)(hg:G B=c)(g0:∀ k,B<k->G k=0)(ab:B<A):Pm (c ^ (A - B)) (h ^ (A - B - 1)*S1 B B):=by
 have s:=(zz (f:=F) ab hg g0).symm.trans (I.main B B (by walk_at"o") (by walk_at"o"))
 rw[show B - B=0 by walk_at"o",Int.pow_zero,Int.one_mul] at s
 exact s
theorem mz.step(I:mz S1 F G A B x h)(hg:G B=c)(hc:c ≠ 0)(g0:∀ k,B<k->G k=0)(e:∀ k,c ^ (A - B+1)*F k=cv q G (A - B+1) k+x*h ^ (A - B)*r k)(r0:∀ k,d<k->r k=0)(hd:d<B)(n0:h' ≠ 0)(hh:A=B/\h'=h\/B<A/\h'*h ^ (A - B - 1)=c ^ (A - B)):mz S1 G r B d c h':=by
 refine⟨by walk_at"o",hc,n0,fun z=>by walk_at"o",fun j k hj hk=>?_⟩
 have ab:=I.ba
 have s:=za (k:=k) I.ba hd hj hg g0 r0 e
 have m:=(I.main j k (by walk_at"o") hk).mul ((c ^ (A - B+1)) ^ (B - j))
 have p:=s.symm.trans m
 refine Pm.of_mul (a:=(x*h ^ (A - B)) ^ (B - j)*c ^ (A - d)) ?_ (Int.mul_ne_zero (Int.pow_ne_zero (Int.mul_ne_zero I.x0 (Int.pow_ne_zero I.h0))) (Int.pow_ne_zero hc))
 rw[Int.mul_assoc]
 refine p.trans (.inl ?_)
 obtain⟨n,hn⟩ : ∃ n,B - j=n+1:=⟨B - j - 1,by walk_at"o"⟩
 rw[show B - j - 1=n by walk_at"o",hn,imp,EY,EY,show A - j - 1=A - B+n by walk_at"o"]
 have key:h ^ ((A - B)*(n+1))*c ^ (A - d)*(c ^ (d - j)*h' ^ n)=c ^ ((A - B+1)*(n+1))*h ^ (A - B+n):=by
  have e1:c ^ (A - d)*c ^ (d - j)=c ^ (A - B+(n+1)):=by rw[<- E2];congr 1;walk_at"o"
  rw[Int.mul_assoc,<- Int.mul_assoc (c ^ (A - d)),e1,<- Int.mul_assoc]
  rcases hh with ⟨z1,z2⟩|⟨z1,z2⟩
  ·have h1:=I.one z1
   rw[z2,h1,Int.one_pow,Int.one_pow,Int.one_pow,show A - B=0 by walk_at"o",Int.one_mul,Int.mul_one,Int.mul_one]
   congr 1
   walk_at"o"
  ·obtain⟨e',he⟩ : ∃ e',A - B=e'+1:=⟨A - B - 1,by walk_at"o"⟩
   rw[show A - B - 1=e' by walk_at"o",he] at z2
   rw[he]
   exact Fa z2
 generalize h ^ ((A - B)*(n+1))=u at *
 generalize h ^ (A - B+n)=v at *
 generalize c ^ ((A - B+1)*(n+1))=w at *
 generalize c ^ (A - d)=y at *
 generalize c ^ (d - j)=y' at *
 generalize h' ^ n=z at *
 generalize x ^ (n+1)=t at *
 generalize S1 j k=S at *
 have k2:t*(u*y*(y'*z))*S=t*(w*v)*S:=by rw[key]
 grind
end
end L2
namespace L2
open PySem
theorem lw{f f' g:Nat->Rat}:∀ n,(∀ i,i<n->f i=f' i) -> ∀ k,pr f g n k=pr f' g n k
 | 0,_,_=>rfl
 | n+1,h,k=>by
  show pr f g n k+(if n<=k then f n*g (k - n) else 0)=pr f' g n k+(if n<=k then f' n*g (k - n) else 0)
  rw[lw n (fun i hi=>h i (by walk_at"o")) k,h n (by walk_at"o")]
theorem qB{q q' g r r':Nat->Rat}{n n' d:Nat}(hg:∀ j,d<j->g j=0)(hd:g d ≠ 0)(hr:∀ k,d<=k->r k=0)(hr':∀ k,d<=k->r' k=0)
  (h:∀ k,pr q g n k+r k=pr q' g n' k+r' k):∀ k,r k=r' k :=
 (rh (q:=fun i=>if i<n then q i else 0) (q':=fun i=>if i<n' then q' i else 0) (n:=n) (n':=n') (fun i hi=>if_neg (by walk_at"o")) (fun i hi=>if_neg (by walk_at"o")) hg hd hr hr' fun k=>by
  rw[lw n (f':=q) (fun i hi=>if_pos hi),lw n' (f':=q') (fun i hi=>if_pos hi)]
  exact h k).2
end L2
namespace L2
open PySem
theorem Bc{q g:Nat->Int}{k:Nat}:∀ n,cv q g n k=pz q g n k
 | 0=>rfl
 | n+1=>by
  show cv q g n k+q n*sh g n k=pz q g n k+if n<=k then q n*g (k - n) else 0
  rw[Bc n]
  unfold sh
  split
  ·rfl
  ·rw[Int.mul_zero]
theorem Bt.pm{n:Nat}{x y:Int}(h:Bt n x)(p:Pm y x):Bt n y:=by
 unfold Bt at *
 rcases p with e|e <;> walk_at"o"
theorem Bt.pow{b:Nat}{x:Int}(h:Bt b x):∀ n,1<=n->Bt (b*n) (x ^ n)
 | 0,h0=>by walk_at"o"
 | 1,_=>by rw[sY,Nat.mul_one];exact h
 | n+2,_=>by
  rw[Int.pow_succ,Nat.mul_succ]
  exact (Bt.pow h (n+1) (by walk_at"o")).mul h
theorem Bt.pow1{b:Nat}{x:Int}(h:Bt b x)(n:Nat):Bt (b*n+1) (x ^ n):=by
 cases n with
 | zero=>rw[Int.pow_zero];exact Bt.mono (m:=1) (by decide) (by walk_at"o")
 | succ n=>exact (Bt.pow h (n+1) (by walk_at"o")).mono (by walk_at"o")
section
variable {Z:Nat}{S1:Nat->Nat->Int}{F G q R:Nat->Int}{A B:Nat}{x h:Int}
end
theorem gL{q g:Nat->Int}{n k:Nat}:((pz q g n k:Int):Rat)=pr (fun i=>(q i:Rat)) (fun i=>(g i:Rat)) n k:=by
 rw[sG (F:=fun i=>(q i:Rat)) (G:=fun i=>(g i:Rat)) (c:=1) (d:=1) (fun i=>by grind) (fun i=>by grind)]
 grind
end L2
namespace L2
open PySem
def eX(ns:List Int)(k:Nat):Rat:=((nz ns k:Int):Rat)
theorem zj{l:List Int}{k:Nat}(h:l.length<=k):eX l k=0:=by
 show ((nz l k:Int):Rat)=0
 rw[aW h]
 rfl
end L2
namespace L2
open PySem
end L2
namespace L2
open PySem PySem.Spec PyProof.Rows
theorem xC{X:Cx}{k:Nat}{env:Env}{l:List Env}(N:mv X.prog X.base)(hr:cF k X.A)(hst:X.stack=env :: l)(hgen:env.scope.isGenerator=false)(hco:env.scope.isCoroutine=false)(hb:env.builtins=builtinsNs)(hg:env.globals=mainGlobals) :
  eD X (binaryOp .FloorDiv) (rI yZ fun i j=>.int (i.fdiv j)):=by
 intro pins s σ H x y v u Q I rx ry h
 obtain⟨i,j,rfl,rfl,hc,q⟩:=h
 obtain⟨t,rfl⟩:=rx
 obtain⟨t',rfl⟩:=ry
 refine floordiv_int hc ⟨.int (i.fdiv j),H,I.tok _,⟨_,rfl⟩,q⟩ (.inr ?_)
 refine PySem.PylongRoom.of I.nolimit ?_ (PySem.SeerAt.of (N.seer.keeps I.bk) N.tree (I.ok.frames.trans (congrArg some hst)) hgen hco hb hg)
 have:=hr.dp
 show X.A.depth+100<recursionLimit
 walk_at"o"
theorem Af{f g:Nat->Int}{a b j k B:Nat}(ha:a<=8)(hb:b<=a)(jb:j<=b)(kj:k<=j)(hB:1<=B)(hf:∀ i,(f i).natAbs<2 ^ B)(hg:∀ i,(g i).natAbs<2 ^ B):(SR f g a b j k).natAbs<2 ^ (65+16*B):=by
 by_cases h0:a+b - j=0
 ·have:SR f g a b j k=1:=by
   unfold SR
   rw[h0,show b - j=0 by walk_at"o",show a - j=0 by walk_at"o"]
   have:Ej j k=[]:=List.length_eq_zero_iff.mp (by rw[vN kj];walk_at"o")
   rw[show st (sh f) 0 0 ++ (st (sh g) 0 0 ++ Ej j k)=Ej j k from rfl,this]
   rfl
  rw[this]
  exact Nat.one_lt_two_pow (by walk_at"o")
 obtain⟨C,hC⟩ : ∃ C,C=2 ^ B:=⟨_,rfl⟩
 have c1:1<=C:=hC ▸ Nat.one_le_two_pow
 have r:=yw (M:=a+b - j) (C:=C) (rows:=st (sh f) 0 (b - j) ++ (st (sh g) 0 (a - j) ++ Ej j k)) (Nat.mul_pos (by walk_at"o") c1) (fun r hr i=>by
  rcases List.mem_append.mp hr with z|z
  ·obtain⟨i',_,rfl⟩:=iW z
   exact yo (fun i=>by have:=hf i;walk_at"o") _ _
  ·rcases List.mem_append.mp z with z|z
   ·obtain⟨i',_,rfl⟩:=iW z
    exact yo (fun i=>by have:=hg i;walk_at"o") _ _
   ·obtain⟨i',_,rfl⟩:=List.mem_map.mp z
    unfold iV
    split <;> simp <;> walk_at"o") (jg (a+b - j))
 have hl:(st (sh f) 0 (b - j) ++ (st (sh g) 0 (a - j) ++ Ej j k)).length=a+b - j:=by
  rw[List.length_append,List.length_append,oq,oq,vN kj]
  walk_at"o"
 rw[hl] at r
 have e1:((a+b - j)*C) ^ (a+b - j)<=(16*C) ^ 16:=Nat.le_trans (Nat.pow_le_pow_left (Nat.mul_le_mul_right _ (by walk_at"o")) _) (Nat.pow_le_pow_right (by walk_at"o") (by walk_at"o"))
 have e2:(16*C) ^ 16<2 ^ (65+16*B):=by
  rw[Nat.mul_pow,hC,<- Nat.pow_mul,Nat.pow_add,Nat.mul_comm B 16]
  exact Nat.mul_lt_mul_of_pos_right (by decide) Nat.one_le_two_pow
 unfold SR dt
 walk_at"o"
structure se (Z:Nat)(S1:Nat->Nat->Int)(F G:Nat->Int)(A B:Nat)(x h:Int):Prop where
 inv:mz S1 F G A B x h
 a6:A<=8
 bS:∀ j k,j<=B->k<=j->Bt Z (S1 j k)
 bF:∀ k,Bt Z (F k)
 bG:∀ k,Bt Z (G k)
 bx:Bt Z x
 bh:Bt Z h
 g1:G B ≠ 0
 g0:∀ k,B<k->G k=0
 f0:∀ k,A<k->F k=0
theorem se.first{F G:Nat->Int}{A B b:Nat}(h:B<=A)(ha:A<=8)(hb:1<=b)(bF:∀ k,Bt b (F k))(bG:∀ k,Bt b (G k))(g1:G B ≠ 0)(g0:∀ k,B<k->G k=0)(f0:∀ k,A<k->F k=0):se (65+16*b) (SR F G A B) F G A B 1 1 :=
 ⟨.first h,ha,fun j k hj hk=>Af ha h hj hk hb bF bG,fun k=>(bF k).mono (by walk_at"o"),fun k=>(bG k).mono (by walk_at"o"),Bt.mono (m:=1) (by decide) (by walk_at"o"),Bt.mono (m:=1) (by decide) (by walk_at"o"),g1,g0,f0⟩
section
variable {Z:Nat}{S1:Nat->Nat->Int}{F G q R:Nat->Int}{A B:Nat}{x h:Int}
theorem se.rest(I:se Z S1 F G A B x h)(r0:∀ k,B<=k->R k=0)(e:∀ k,G B ^ (A - B+1)*F k=pz q G (A - B+1) k+R k) :
  ∃ (r:Nat->Int)(h':Int),(∀ k,R k=x*h ^ (A - B)*r k)/\(∀ k,Bt Z (r k))/\(∀ k,B<=k->r k=0)/\h' ≠ 0/\Bt Z h'/\(A=B/\h'=h\/B<A/\h'*h ^ (A - B - 1)=G B ^ (A - B)) /\
   ∀ d,d<B->r d ≠ 0->(∀ k,d<k->r k=0)->se Z S1 G r B d (G B) h':=by
 have e':∀ k,G B ^ (A - B+1)*F k=cv q G (A - B+1) k+R k:=fun k=>by rw[Bc];exact e k
 have dv:∀ k,∃ y:Int,R k=x*h ^ (A - B)*y/\Bt Z y/\(B<=k->y=0):=fun k=>by
  by_cases hk:k<B
  ·have p:=I.inv.rest rfl I.g1 I.g0 r0 e' k hk
   have b:=I.bS (B - 1) k (by walk_at"o") (by walk_at"o")
   rcases p with z|z
   ·exact⟨_,z,b,fun _=>by walk_at"o"⟩
   ·exact⟨- S1 (B - 1) k,by rw[z,Int.mul_neg],b.pm (.inr rfl),fun _=>by walk_at"o"⟩
  ·exact⟨0,by rw[r0 k (by walk_at"o"),Int.mul_zero],gy,fun _=>rfl⟩
 have hi:∃ h':Int,h' ≠ 0/\Bt Z h'/\(A=B/\h'=h\/B<A/\h'*h ^ (A - B - 1)=G B ^ (A - B)):=by
  by_cases ab:A=B
  ·exact⟨h,I.inv.h0,I.bh,.inl ⟨ab,rfl⟩⟩
  ·have ba:=I.inv.ba
   have p:=I.inv.high rfl I.g0 (by walk_at"o")
   have b:=I.bS B B (by walk_at"o") (by walk_at"o")
   have nz:G B ^ (A - B) ≠ 0:=Int.pow_ne_zero I.g1
   rcases p with z|z
   ·exact⟨S1 B B,fun y=>nz (by rw[z,y,Int.mul_zero]),b,.inr ⟨by walk_at"o",by rw[z,Int.mul_comm]⟩⟩
   ·exact⟨- S1 B B,fun y=>nz (by rw[z,show S1 B B=0 by walk_at"o",Int.mul_zero];rfl),b.pm (.inr rfl),.inr ⟨by walk_at"o",by rw[z,Int.neg_mul,Int.mul_comm]⟩⟩
 obtain⟨h',n0,bh',hh⟩:=hi
 refine⟨fun k=>(dv k).choose,h',fun k=>(dv k).choose_spec.1,fun k=>(dv k).choose_spec.2.1,fun k hk=>(dv k).choose_spec.2.2 hk,n0,bh',hh,fun d hd rd rz=>?_⟩
 refine⟨I.inv.step (q:=q) rfl I.g1 I.g0 (fun k=>?_) rz hd n0 hh,Nat.le_trans I.inv.ba I.a6,fun j k hj hk=>I.bS j k (by walk_at"o") hk,I.bG,fun k=>(dv k).choose_spec.2.1,I.bG B,bh',rd,rz,I.g0⟩
 rw[<- (dv k).choose_spec.1]
 exact e' k
end
def gq(b:Nat)(ns:List Int):Prop:=ns.length<=9/\(∀ x ∈ ns,Bt b x)/\(ns ≠ []->nz ns (ns.length - 1) ≠ 0)
theorem gq.up{b c:Nat}{l:List Int}(h:gq b l)(bc:b<=c):gq c l:=⟨h.1,fun x hx=>(h.2.1 x hx).mono bc,h.2.2⟩
end L2
namespace L2
open PySem PySem.Spec PyProof.Rows
theorem mS{q:List (Int × Int)}(h:ei q)(n:q ≠ []):cf q (q.length - 1) ≠ 0:=by
 have hl:0<q.length:=List.length_pos_iff.mpr n
 have e:q[q.length - 1]? = some (q[q.length - 1]'(by walk_at"o")):=List.getElem?_eq_getElem (by walk_at"o")
 rw[di e]
 intro z
 refine h.2 _ (by rw[List.getLast?_eq_getElem?,e]) ?_
 exact (kD (h.1 _ (List.getElem_mem _)).ne).mp z
def ab(a b:Rat):List (List Int × List Int × Int × Int)->Nat->Rat × Rat
 | _,0=>(a,b)
 | [],_+1=>(a,b)
 | row :: rows,n+1=>ab b (-(a*(row.2.2.1:Rat)) / (row.2.2.2:Rat)) rows n
end L2
namespace L2
open PySem PySem.Spec PyProof.Rows
theorem p8{X:Cx}{k:Nat}{env:Env}{l:List Env}(N:mv X.prog X.base)(hr:cF k X.A)(hst:X.stack=env :: l)(hgen:env.scope.isGenerator=false)(hco:env.scope.isCoroutine=false)(hb:env.builtins=builtinsNs)(hg:env.globals=mainGlobals) :
  eD X (binaryOp .FloorDiv) (rI yZ fun i j=>.int (i.fdiv j)):=by
 intro pins s σ H x y v u Q I rx ry h
 obtain⟨i,j,rfl,rfl,hc,q⟩:=h
 obtain⟨t,rfl⟩:=rx
 obtain⟨t',rfl⟩:=ry
 refine floordiv_int hc ⟨.int (i.fdiv j),H,I.tok _,⟨_,rfl⟩,q⟩ (.inr ?_)
 refine PySem.PylongRoom.of I.nolimit ?_ (PySem.SeerAt.of (N.seer.keeps I.bk) N.tree (I.ok.frames.trans (congrArg some hst)) hgen hco hb hg)
 have:=hr.dp
 show X.A.depth+100<recursionLimit
 walk_at"o"
section
variable {K:W.Frag}{σ:St}{H0:Hp}{t u:TE}{ta:TA}{b c:Bool}{m n:Nat}{fs gs:List (Int × Int)}
end
end L2
namespace L2
open PySem
section
variable {S u u' v v':Nat->Rat}{m n:Nat}
theorem A4{m':Nat}(h:∀ i,m<=i->u i=0)(hm:m<=m'):ip S u v m' n=ip S u v m n:=by
 obtain⟨d,rfl⟩ : ∃ d,m'=m+d:=⟨m' - m,by walk_at"o"⟩
 exact jw (fun i hi=>by rw[h i hi];grind) d
theorem wR:ip S (fun i=>u i+u' i) v m n=ip S u v m n+ip S u' v m n:=qF _
theorem xX{c:Rat}:ip S (fun i=>c*u i) v m n=c*ip S u v m n:=kR _
theorem C6:ip S u (fun i=>v i+v' i) m n=ip S u v m n+ip S u v' m n:=by
 rw[fY,wR,fY,fY (u:=v')]
theorem Bo{c:Rat}:ip S u (fun i=>c*v i) m n=c*ip S u v m n:=by
 rw[fY,xX,fY]
theorem xw(h:∀ i,u i=u' i):ip S u v m n=ip S u' v m n:=by rw[show u=u' from funext h]
end
section
variable {W:Nat->Int}{B:Int}{S:Nat->Rat}
theorem AZ{k n m:Nat}{v:Nat->Rat}(hD:Dk W k ≠ 0)(hB:B ≠ 0)(hS:∀ i,((W i:Int):Rat)=S i*(B:Rat))(hm:k+1<=m):ip S v (Pk W k) n m=bT v (fun i=>((Lq W k i:Int):Rat) / (((Dk W k:Int):Rat)*(B:Rat))) n:=Cw hD hB (fun _=>rfl) hS hm n
theorem kO(c:Rat):0<=c*c:=ze c
theorem pd(hB:0<B)(hS:∀ i,((W i:Int):Rat)=S i*(B:Rat)):∀ m,(∀ i,i<=m->0<Dk W i) -> ∀ r:Nat->Rat,(∀ i,m<=i->r i=0)->0<=ip S r r m m/\(ip S r r m m=0 -> ∀ i,r i=0)
 | 0,_,r,hr=>⟨Rat.le_refl,fun _ i=>hr i (Nat.zero_le _)⟩
 | m+1,hD,r,hr=>by
  have dm:=hD m (by walk_at"o")
  have dn:Dk W m ≠ 0:=by walk_at"o"
  have d1:=hD (m+1) (Nat.le_refl _)
  have bn:B ≠ 0:=by walk_at"o"
  obtain⟨r',hr'⟩ : ∃ r':Nat->Rat,∀ i,r' i=r i + -(r m)*Pk W m i:=⟨_,fun _=>rfl⟩
  have z':∀ i,m<=i->r' i=0:=fun i hi=>by
   rw[hr']
   by_cases e:i=m
   ·rw[e,DC dn]
    grind
   ·rw[Dt (by walk_at"o"),hr i (by walk_at"o")]
    grind
  obtain⟨p1,p2⟩:=pd hB hS m (fun i hi=>hD i (by walk_at"o")) r' z'
  have er:∀ i,r i=r' i+r m*Pk W m i:=fun i=>by rw[hr'];grind
  obtain⟨c,hc⟩ : ∃ c,c=r m:=⟨_,rfl⟩
  obtain⟨h,hh⟩ : ∃ h:Rat,h=((Dk W (m+1):Int):Rat) / (((Dk W m:Int):Rat)*(B:Rat)):=⟨_,rfl⟩
  have h0:0<h:=by
   rw[hh,Rat.div_def]
   refine Rat.mul_pos (by exact_mod_cast d1) (Rat.inv_pos.mpr (Rat.mul_pos (by exact_mod_cast dm) (by exact_mod_cast hB)))
  have e1:ip S r' (Pk W m) (m+1) (m+1)=0:=by
   rw[AZ dn bn hS (Nat.le_refl _)]
   refine iu _ fun i hi=>?_
   by_cases e:i=m
   ·rw[z' i (by walk_at"o")]
    grind
   ·rw[AO (by walk_at"o")]
    have z0:((0:Int):Rat)=0:=rfl
    rw[z0]
    grind
  have e2:ip S r (Pk W m) (m+1) (m+1)=c*h:=by
   rw[AZ dn bn hS (Nat.le_refl _)]
   show bT r _ m+r m*(((Lq W m m:Int):Rat) / _)=_
   rw[iu m fun i hi=>by rw[AO hi,show ((0:Int):Rat)=0 from rfl];grind,Di,hc,hh]
   grind
  have e3:ip S r r (m+1) (m+1)=ip S r' r' m m+c*c*h:=by
   have a1:ip S r r (m+1) (m+1)=ip S r' r (m+1) (m+1)+c*ip S (Pk W m) r (m+1) (m+1):=by
    rw[xw (u':=fun i=>r' i+c*Pk W m i) fun i=>by rw[er i,hc],wR,xX]
   have a2:ip S r' r (m+1) (m+1)=ip S r' r' (m+1) (m+1)+c*ip S r' (Pk W m) (m+1) (m+1):=by
    have er':r=fun i=>r' i+c*Pk W m i:=funext fun i=>by rw[er i,hc]
    have:ip S r' r (m+1) (m+1)=ip S r' (fun i=>r' i+c*Pk W m i) (m+1) (m+1):=by rw[<- er']
    rw[this,C6,Bo]
   rw[a1,a2,e1,fY (u:=Pk W m),e2,A4 z' (by walk_at"o"),fY,A4 z' (by walk_at"o")]
   grind
  have sq:=Rat.mul_nonneg (kO c) (Rat.le_of_lt h0)
  refine⟨by rw[e3];grind,fun e=>?_⟩
  rw[e3] at e
  have q1:ip S r' r' m m=0:=by grind
  have q2:c*c*h=0:=by grind
  have c0:c=0:=by
   have hn:h ≠ 0:=by grind
   have:c*c=0:=by grind
   grind
  intro i
  rw[er i,p2 q1 i,<- hc,c0]
  grind
end
end L2
namespace L2
open PySem PySem.Spec PyProof.Rows
theorem wX{X:Cx}{k:Nat}(N:mv X.prog X.base)(hr:cF k X.A)(hst:X.stack=X.env :: X.outer)(hgen:X.env.scope.isGenerator=false)(hco:X.env.scope.isCoroutine=false) :
  Bh X .FloorDiv (fun x y H Q=>∃ i j,x = .int i/\y = .int j/\yZ i j/\Q (.int (i.fdiv j)) H):=by
 intro pins s σ H x y v u Q I r1 r2 h
 obtain⟨i,j,rfl,rfl,m,q⟩:=h
 obtain⟨t,rfl⟩:=r1
 obtain⟨t',rfl⟩:=r2
 refine ifloordiv_int m ⟨.int _,H,I.tok _,⟨_,rfl⟩,q⟩ (.inr ?_)
 refine PySem.PylongRoom.of I.nolimit ?_ (PySem.SeerAt.of (N.seer.keeps I.bk) N.tree (I.ok.frames.trans (congrArg some hst)) hgen hco I.ok.blt I.ok.glob)
 have:=hr.dp
 show X.A.depth+100<recursionLimit
 walk_at"o"
def Bd(n:Nat)(f:Nat->Rat):Prop:=∀ i,n<=i->f i=0
def Tp(d:Nat)(f:Nat->Rat):Prop:=f d ≠ 0/\Bd (d+1) f
theorem Bd.mono{m n:Nat}{f:Nat->Rat}(h:Bd m f)(l:m<=n):Bd n f:=fun i hi=>h i (by walk_at"o")
theorem Bd.tp:∀{n:Nat}{f:Nat->Rat},Bd n f->(∀ i,f i=0) \/ ∃ d,d<n/\Tp d f
 | 0,f,h=>.inl fun i=>h i (Nat.zero_le _)
 | n+1,f,h=>by
  by_cases e:f n=0
  ·rcases Bd.tp (n:=n) (f:=f) (fun i hi=>by
    by_cases z:i=n
    ·rw[z,e]
    ·exact h i (by walk_at"o")) with z|⟨d,hd,t⟩
   ·exact .inl z
   ·exact .inr ⟨d,by walk_at"o",t⟩
  ·exact .inr ⟨n,by walk_at"o",e,h⟩
theorem j8{f:Nat->Rat}(h:∀ i,f i=0)(x:Rat):EV f x=0:=by
 rw[ff (n:=0) (fun k _=>h k) (by decide)]
 rfl
theorem i7{f g:Nat->Rat}{c:Rat}(x:Rat):EV (fun i=>f i+c*g i) x=EV f x+c*EV g x:=by
 have:EV (fun i=>c*g i) x=c*EV g x:=by rw[wn,wn (v:=g),kR]
 rw[oZ,this]
theorem Bd.pr{m n:Nat}{f g:Nat->Rat}(hg:Bd n g):Bd (m+n) (fun k=>L2.pr f g m k):=fun k hk=>fR hg _ _ (by walk_at"o")
theorem CD{m n:Nat}{f g:Nat->Rat}(hf:Bd m f)(hg:Bd n g)(h:m+n<=20)(x:Rat):EV (fun k=>pr f g m k) x=EV f x*EV g x:=by
 rw[sr hg m h,ff hf (by walk_at"o"),ff hg (by walk_at"o")]
theorem A3{f g:Nat->Rat}{c:Rat}(k:Nat):DF (fun i=>f i+c*g i) k=DF f k+c*DF g k:=by
 show (((k+1:Nat):Int):Rat)*(f (k+1)+c*g (k+1))=(((k+1:Nat):Int):Rat)*f (k+1)+c*((((k+1:Nat):Int):Rat)*g (k+1))
 grind
theorem vT{g:Nat->Rat}{m:Nat}(bg:Bd m g):∀ (n:Nat)(f h:Nat->Rat),Bd n f->n+m<=19->Bd 20 h->(∀ x,EV h x=EV f x*EV g x) -> ∀ x,EV (DF h) x=EV (DF f) x*EV g x+EV f x*EV (DF g) x
 | 0,f,h,bf,l,bh,e,x=>by
  have f0:∀ i,f i=0:=fun i=>bf i (Nat.zero_le _)
  have h0:∀ i,h i=0:=lI bh (g:=fun _=>0) (fun _ _=>rfl) fun x=>by rw[e x,j8 f0,j8 (f:=fun _=>0) fun _=>rfl];grind
  rw[j8 (f:=DF h) fun i=>by show _*h (i+1)=0;rw[h0];grind,j8 (f:=DF f) fun i=>by show _*f (i+1)=0;rw[f0];grind,j8 f0]
  grind
 | n+1,f,h,bf,l,bh,e,x=>by
  obtain⟨f1,hf1⟩ : ∃ f1:Nat->Rat,∀ k,f1 k=f (k+1):=⟨_,fun _=>rfl⟩
  have b1:Bd n f1:=fun i hi=>by rw[hf1,bf _ (by walk_at"o")]
  obtain⟨one,h1⟩ : ∃ one:Nat->Rat,∀ k,one k=if k=0 then 1 else 0:=⟨_,fun _=>rfl⟩
  have one1:∀ x,EV one x=1:=fun x=>by
   rw[ff (n:=1) (fun k hk=>by rw[h1,if_neg (by walk_at"o")]) (by decide)]
   show 0+one 0*1=(1:Rat)
   rw[h1,if_pos rfl]
   grind
  have ef:∀ k,f k=lin 0 1 f1 k+f 0*one k:=fun k=>by
   cases k with
   | zero=>show f 0=f1 0*0+f 0*one 0;rw[h1,if_pos rfl];grind
   | succ k=>show f (k+1)=f1 (k+1)*0+f1 k*1+f 0*one (k+1);rw[h1,if_neg (by walk_at"o"),hf1];grind
  have z1:f1 19=0:=b1 _ (by walk_at"o")
  have vf:∀ x,EV f x=x*EV f1 x+f 0:=fun x=>by rw[eT ef,i7,oW z1,one1];grind
  have df:∀ x,EV (DF f) x=x*EV (DF f1) x+EV f1 x:=fun x=>by
   have:∀ k,DF f k=lin 0 1 (DF f1) k+f1 k:=fun k=>by
    rw[show f=fun k=>lin 0 1 f1 k+f 0*one k from funext ef,A3,wZ]
    have:DF one k=0:=by show _*one (k+1)=0;rw[h1,if_neg (by walk_at"o")];grind
    rw[this]
    grind
   rw[eT this,oZ,oW (by show _*f1 20=0;rw[b1 _ (by walk_at"o")];grind)]
   grind
  obtain⟨u,hu⟩ : ∃ u:Nat->Rat,u=fun k=>pr f1 g n k:=⟨_,rfl⟩
  have bu:Bd 19 u:=by rw[hu];exact (Bd.pr bg).mono (by walk_at"o")
  have vu:∀ x,EV u x=EV f1 x*EV g x:=fun x=>by rw[hu,CD b1 bg (by walk_at"o")]
  have ih:=vT bg n f1 u b1 (by walk_at"o") (bu.mono (by walk_at"o")) vu
  have eh:∀ k,h k=lin 0 1 u k+f 0*g k:=lI bh (fun k hk=>by
   obtain⟨j,rfl⟩ : ∃ j,k=j+1:=⟨k - 1,by walk_at"o"⟩
   show u (j+1)*0+u j*1+f 0*g (j+1)=0
   rw[bu j (by walk_at"o"),bg _ (by walk_at"o")]
   grind) fun x=>by rw[e x,vf,i7,oW (bu 19 (by walk_at"o")),vu];grind
  have dh:EV (DF h) x=x*EV (DF u) x+EV u x+f 0*EV (DF g) x:=by
   have:∀ k,DF h k=(fun k=>lin 0 1 (DF u) k+u k) k+f 0*DF g k:=fun k=>by
    rw[show h=fun k=>lin 0 1 u k+f 0*g k from funext eh,A3,wZ]
   rw[eT this,i7,oZ,oW (by show _*u 20=0;rw[bu _ (by walk_at"o")];grind)]
   grind
  rw[dh,ih,vu,df,vf]
  grind
end L2
namespace L2
open PySem PySem.Spec PyProof.Rows
section
variable {X:Cx}
end
inductive m9:List Int->List Int->List (List Int × List Int × Int × Int)->Prop
 | nought {F:List Int}:m9 F [] []
 | last {F G Q:List Int}{S:Int}:G ≠ []->nz G (G.length - 1) ≠ 0->S ≠ 0->Q.length+G.length=F.length+1->(∀ k,S*nz F k=pz (nz Q) (nz G) Q.length k)->m9 F G []
 | more {F G R Q:List Int}{T S:Int}{rows:List (List Int × List Int × Int × Int)}:G ≠ []->nz G (G.length - 1) ≠ 0->S ≠ 0->T ≠ 0->R ≠ []->nz R (R.length - 1) ≠ 0->R.length<G.length->Q.length+G.length=F.length+1->(∀ k,S*nz F k=pz (nz Q) (nz G) Q.length k+T*nz R k)->m9 G R rows->m9 F G ((R,Q,T,S) :: rows)
def gn(G:List Int):List (List Int × List Int × Int × Int)->List Int
 | []=>G
 | row :: rows=>gn row.1 rows
theorem bZ(l:List Int):Bd l.length (eX l):=fun i hi=>zj hi
theorem kK{F G R Q:List Int}{S T:Int}(lq:Q.length+G.length<=20)(e:∀ k,S*nz F k=pz (nz Q) (nz G) Q.length k+T*nz R k)(x:Rat):(S:Rat)*EV (eX F) x=EV (eX Q) x*EV (eX G) x+(T:Rat)*EV (eX R) x:=by
 have c:∀ k,(fun k=>0+(S:Rat)*eX F k) k=(fun k=>pr (eX Q) (eX G) Q.length k) k+(T:Rat)*eX R k:=fun k=>by
  have:=e k
  have z:((S*nz F k:Int):Rat)=((pz (nz Q) (nz G) Q.length k+T*nz R k:Int):Rat):=by rw[this]
  rw[Rat.intCast_mul,Rat.intCast_add,Rat.intCast_mul,gL] at z
  show 0+(S:Rat)*((nz F k:Int):Rat)=pr (fun i=>((nz Q i:Int):Rat)) (fun i=>((nz G i:Int):Rat)) Q.length k+(T:Rat)*((nz R k:Int):Rat)
  grind
 have h1:=eT c x
 rw[i7,i7,CD (bZ Q) (bZ G) lq,j8 (f:=fun _=>0) fun _=>rfl] at h1
 grind
end L2
namespace L2
open PySem PySem.Spec PyProof.Rows
def sg(x:Rat):Int:=if 0<x then 1 else if x<0 then -1 else 0
theorem dz{x:Rat}(h:0<x):sg x=1:=if_pos h
theorem eZ{x:Rat}(h:x<0):sg x = -1:=by
 unfold sg
 rw[if_neg (by grind),if_pos h]
theorem tE:sg 0=0:=by decide +kernel
theorem bI(x:Rat):(0<x/\sg x=1)\/(x<0/\sg x = -1)\/(x=0/\sg x=0):=by
 by_cases h:0<x
 ·exact .inl ⟨h,dz h⟩
 ·by_cases h2:x<0
  ·exact .inr (.inl ⟨h2,eZ h2⟩)
  ·obtain rfl:x=0:=by grind
   exact .inr (.inr ⟨rfl,tE⟩)
theorem CW{x:Rat}:sg x=1 ↔ 0<x:=by
 refine⟨fun h=>?_,dz⟩
 rcases bI x with ⟨a,_⟩|⟨_,b⟩|⟨_,b⟩
 ·exact a
 ·walk_at"o"
 ·walk_at"o"
theorem wQ{x:Rat}:sg x = -1 ↔ x<0:=by
 refine⟨fun h=>?_,eZ⟩
 rcases bI x with ⟨_,b⟩|⟨a,_⟩|⟨_,b⟩
 ·walk_at"o"
 ·exact a
 ·walk_at"o"
theorem hV{x:Rat}:sg x=0 ↔ x=0:=by
 refine⟨fun h=>?_,fun h=>by rw[h];exact tE⟩
 rcases bI x with ⟨_,b⟩|⟨_,b⟩|⟨a,_⟩
 ·walk_at"o"
 ·walk_at"o"
 ·exact a
theorem jH{x y:Rat}:sg (x*y)=sg x*sg y:=by
 rcases bI x with ⟨a,e⟩|⟨a,e⟩|⟨a,e⟩ <;> rcases bI y with ⟨b,f⟩|⟨b,f⟩|⟨b,f⟩ <;> rw[e,f]
 ·exact dz (Rat.mul_pos a b)
 ·exact eZ (by have:=Rat.mul_pos a (show 0 < -y by grind);grind)
 ·rw[b];exact hV.mpr (by grind)
 ·exact eZ (by have:=Rat.mul_pos (show 0 < -x by grind) b;grind)
 ·exact dz (by have:=Rat.mul_pos (show 0 < -x by grind) (show 0 < -y by grind);grind)
 ·rw[b];exact hV.mpr (by grind)
 ·rw[a];exact hV.mpr (by grind)
 ·rw[a];exact hV.mpr (by grind)
 ·rw[a];exact hV.mpr (by grind)
def Sm(e x:Rat):Prop:=-e<=x/\x<=e
theorem Sm.mono{a b x:Rat}(h:Sm a x)(l:a<=b):Sm b x:=by
 unfold Sm at h ⊢
 grind
theorem Sm.mul{B e q g:Rat}(h:Sm B q)(h2:Sm e g):Sm (B*e) (q*g):=by
 obtain⟨a1,a2⟩:=h
 obtain⟨b1,b2⟩:=h2
 have p1:=Rat.mul_nonneg (show 0<=B - q by grind) (show 0<=e+g by grind)
 have p2:=Rat.mul_nonneg (show 0<=B+q by grind) (show 0<=e - g by grind)
 have p3:=Rat.mul_nonneg (show 0<=B - q by grind) (show 0<=e - g by grind)
 have p4:=Rat.mul_nonneg (show 0<=B+q by grind) (show 0<=e+g by grind)
 constructor
 ·grind
 ·grind
theorem Sm.add{a b x y:Rat}(h:Sm a x)(h2:Sm b y):Sm (a+b) (x+y):=by
 unfold Sm at *
 grind
theorem Sm.sub{a b x y:Rat}(h:Sm a x)(h2:Sm b y):Sm (a+b) (x - y):=by
 unfold Sm at *
 grind
def Wi(R x:Rat):Prop:=-R<=x/\x<=R
def gw(R:Rat)(f:Rat->Rat):Prop:=∃ B:Rat,0<B /\ ∀ x,Wi R x->Sm B (f x)
def sU(R:Rat)(f:Rat->Rat):Prop:=∃ L:Rat,0<L /\ ∀ x y,Wi R x->Wi R y->x<=y->Sm (L*(y - x)) (f y - f x)
theorem kL{u v e:Rat}(h:Sm e (v - u))(n:¬ (sg u=sg v/\sg u ≠ 0)):Sm e u/\Sm e v:=by
 unfold Sm at *
 rcases bI u with ⟨a,e1⟩|⟨a,e1⟩|⟨a,e1⟩ <;> rcases bI v with ⟨b,e2⟩|⟨b,e2⟩|⟨b,e2⟩ <;> first|(exfalso;exact n ⟨e1.trans e2.symm,fun z=>absurd (e1.symm.trans z) (by decide)⟩)|grind
def chg:Int->List Int->Nat
 | _,[]=>0
 | l,s :: r=>if s=0 then chg l r else (if s = -l then 1 else 0)+chg s r
theorem wW{l:Int}{r:List Int}:chg l (0 :: r)=chg l r:=if_pos rfl
theorem nk{l s:Int}{r:List Int}(h:s ≠ 0):chg l (s :: r)=(if s = -l then 1 else 0)+chg s r:=if_neg h
theorem pB{s:Int}{r:List Int}(h:s ≠ 0):chg 0 (s :: r)=chg s r:=by
 rw[nk h,if_neg (by walk_at"o"),Nat.zero_add]
def qt(x:Rat)(l:List (Rat->Rat)):List Int:=l.map fun f=>sg (f x)
inductive Ch (R:Rat):(Rat->Rat)->List (Rat->Rat)->Prop
 | one {f:Rat->Rat}{c:Rat}:c ≠ 0->(∀ x,f x=c)->Ch R f []
 | two {f g:Rat->Rat}:sU R f->Ch R g []->Ch R f [g]
 | more {f g h q:Rat->Rat}{a b:Rat}{l:List (Rat->Rat)}:sU R f->gw R q->0<a->0<b->(∀ x,a*f x=q x*g x - b*h x)->Ch R g (h :: l)->Ch R f (g :: h :: l)
theorem Ch.lip{R:Rat}{f:Rat->Rat}{l:List (Rat->Rat)}(h:Ch R f l):sU R f:=by
 cases h with
 | one _ e=>exact⟨1,by decide,fun x y _ _ l=>by rw[e,e];unfold Sm;grind⟩
 | two h _=>exact h
 | more h _ _ _ _ _=>exact h
def eI(R:Rat)(f g:Rat->Rat):Prop:=∃ e:Rat,0<e /\ ∀ x,Wi R x->Sm e (f x)->Sm e (g x)->False
theorem Ch.notBoth{R:Rat}{f:Rat->Rat}{l:List (Rat->Rat)}(h:Ch R f l):∀ g r,l=g :: r->eI R f g:=by
 induction h with
 | one _ _=>intro g r e;cases e
 | @two f g _ hg =>
  intro g' r e
  cases e
  cases hg with
  | @one _ c c0 ec =>
   rcases bI c with ⟨a,_⟩|⟨a,_⟩|⟨a,_⟩
   ·exact⟨c / 2,by grind,fun x _ _ s=>by rw[ec] at s;unfold Sm at s;grind⟩
   ·exact⟨-c / 2,by grind,fun x _ _ s=>by rw[ec] at s;unfold Sm at s;grind⟩
   ·exact absurd a c0
 | @more f g h q a b l _ hq a0 b0 e _ ih =>
  intro g' r e'
  cases e'
  obtain⟨B,B0,hB⟩:=hq
  obtain⟨ε,ε0,hε⟩:=ih h l rfl
  have s0:0<B+a+b:=by grind
  have t0:0<b / (B+a+b):=by rw[Rat.lt_div_iff s0];grind
  refine⟨ε*(b / (B+a+b)),Rat.mul_pos ε0 t0,fun x wx sf sg'=>hε x wx ?_ ?_⟩
  ·refine sg'.mono ?_
   have t1:b / (B+a+b)<=1:=Rat.not_lt.mp fun z=>by rw[Rat.lt_div_iff s0] at z;grind
   have:=Rat.mul_nonneg (Rat.le_of_lt ε0) (show 0<=1 - b / (B+a+b) by grind)
   grind
  ·obtain⟨t,ht⟩ : ∃ t,t=ε*(b / (B+a+b)):=⟨_,rfl⟩
   rw[<- ht] at sf sg'
   have tt:t*(B+a+b)=ε*b:=by rw[ht];grind
   have s1:=((hB x wx).mul sg').sub (Sm.mul (B:=a) (q:=a) ⟨by grind,by grind⟩ sf)
   have e1:q x*g x - a*f x=b*h x:=by have:=e x;grind
   rw[e1] at s1
   obtain⟨u1,u2⟩:=s1
   have tp:0<t:=by rw[ht];exact Rat.mul_pos ε0 t0
   have tb:=Rat.mul_pos tp b0
   have k:B*t+a*t<=b*ε:=by grind
   constructor
   ·refine Rat.not_lt.mp fun z=>?_
    have:=Rat.mul_pos b0 (show 0 < -ε - h x by grind)
    grind
   ·refine Rat.not_lt.mp fun z=>?_
    have:=Rat.mul_pos b0 (show 0<h x - ε by grind)
    grind
theorem yb{R a b:Rat}{f g h q:Rat->Rat}(hq:gw R q)(a0:0<a)(b0:0<b)(e:∀ x,a*f x=q x*g x - b*h x)(nb:eI R g h):∃ η:Rat,0<η /\ ∀ x,Wi R x->Sm η (g x)->sg (f x) = -sg (h x)/\sg (h x) ≠ 0:=by
 obtain⟨B,B0,hB⟩:=hq
 obtain⟨ε,ε0,hε⟩:=nb
 have s0:0<B+b:=by grind
 have t0:0<b / (B+b):=by rw[Rat.lt_div_iff s0];grind
 refine⟨ε*(b / (B+b)),Rat.mul_pos ε0 t0,fun x wx s=>?_⟩
 have t1:b / (B+b)<=1:=Rat.not_lt.mp fun z=>by rw[Rat.lt_div_iff s0] at z;grind
 have s2:Sm ε (g x):=s.mono (by
  have:=Rat.mul_nonneg (Rat.le_of_lt ε0) (show 0<=1 - b / (B+b) by grind)
  grind)
 have nh:¬ Sm ε (h x):=fun z=>hε x wx s2 z
 obtain⟨t,ht⟩ : ∃ t,t=ε*(b / (B+b)):=⟨_,rfl⟩
 rw[<- ht] at s
 have tt:t*(B+b)=ε*b:=by rw[ht];grind
 have tp:0<t:=by rw[ht];exact Rat.mul_pos ε0 t0
 have s1:=(hB x wx).mul s
 have e1:=e x
 have tb:=Rat.mul_pos tp b0
 obtain⟨u1,u2⟩:=s1
 by_cases hp:ε<h x
 ·have p1:=Rat.mul_pos b0 (show 0<h x - ε by grind)
  have fn:f x<0:=Rat.not_le.mp fun z=>by
   have:=Rat.mul_nonneg (Rat.le_of_lt a0) z
   grind
  exact⟨by rw[eZ fn,dz (by grind)],by rw[dz (by grind)];decide⟩
 ·have hn:h x < -ε:=by
   unfold Sm at nh
   grind
  have p1:=Rat.mul_pos b0 (show 0 < -ε - h x by grind)
  have fp:0<f x:=Rat.not_le.mp fun z=>by
   have:=Rat.mul_nonneg (Rat.le_of_lt a0) (show 0 <= -f x by grind)
   grind
  exact⟨by rw[dz fp,eZ (by grind)];decide,by rw[eZ (by grind)];decide⟩
def AX(R:Rat)(f:Rat->Rat)(l:List (Rat->Rat)):Prop:=∃ δ:Rat,0<δ /\ ∀ c d,Wi R c->Wi R d->c<=d->d - c<=δ->sg (f c)=sg (f d)->sg (f c) ≠ 0->chg (sg (f c)) (qt c l)=chg (sg (f d)) (qt d l)
theorem mw{a b c:Rat}(h1:0<a)(h2:0<b)(h3:0<c):∃ m:Rat,0<m/\m<=a/\m<=b/\m<=c:=by
 by_cases x:a<=b
 ·by_cases y:a<=c
  ·exact⟨a,h1,by grind,x,y⟩
  ·exact⟨c,h3,by grind,by grind,by grind⟩
 ·by_cases y:b<=c
  ·exact⟨b,h2,by grind,by grind,y⟩
  ·exact⟨c,h3,by grind,by grind,by grind⟩
theorem sU.near{R:Rat}{f:Rat->Rat}(h:sU R f) {e:Rat}(e0:0<e):∃ δ:Rat,0<δ /\ ∀ c d,Wi R c->Wi R d->c<=d->d - c<=δ->Sm e (f d - f c):=by
 obtain⟨L,L0,hL⟩:=h
 have p:0<e / L:=by rw[Rat.lt_div_iff L0];grind
 refine⟨e / L,p,fun c d wc wd l n=>(hL c d wc wd l).mono ?_⟩
 have:=Rat.mul_nonneg (Rat.le_of_lt L0) (show 0<=e / L - (d - c) by grind)
 have z:L*(e / L)=e:=by grind
 grind
theorem sJ{s t:Int}{r:List Int}(hs:s=1\/s = -1)(ht:t=0\/t=1\/t = -1):chg s (t :: (-s) :: r)=1+chg (-s) r:=by
 rcases hs with rfl|rfl <;> rcases ht with rfl|rfl|rfl <;> simp[chg]
theorem eK(x:Rat):sg x=0\/sg x=1\/sg x = -1:=by
 rcases bI x with ⟨_,e⟩|⟨_,e⟩|⟨_,e⟩
 ·exact .inr (.inl e)
 ·exact .inr (.inr e)
 ·exact .inl e
theorem Ch.keeps{R:Rat}{f:Rat->Rat}{l:List (Rat->Rat)}(h:Ch R f l):AX R f l /\ ∀ g r,l=g :: r->AX R g r:=by
 induction h with
 | one _ _=>exact⟨⟨1,by decide,fun _ _ _ _ _ _ _ _=>rfl⟩,fun g r e=>by cases e⟩
 | @two f g lf hg ih =>
  refine⟨?_,fun g' r e=>by cases e;exact ih.1⟩
  cases hg with
  | @one _ c c0 ec =>
   refine⟨1,by decide,fun c' d' _ _ _ _ e _=>?_⟩
   show chg _ [sg (g c')]=chg _ [sg (g d')]
   rw[ec,ec,e]
 | @more f g h q a b l lf hq a0 b0 e hg ih =>
  refine⟨?_,fun g' r e=>by cases e;exact ih.1⟩
  obtain⟨η,η0,op⟩:=yb hq a0 b0 e (hg.notBoth h l rfl)
  obtain⟨δ1,d1,k1⟩:=ih.1
  obtain⟨δ2,d2,k2⟩:=ih.2 h l rfl
  obtain⟨δ3,d3,k3⟩:=hg.lip.near η0
  obtain⟨δ,d0,m1,m2,m3⟩:=mw d1 d2 d3
  refine⟨δ,d0,fun c d wc wd cd n ef nf=>?_⟩
  show chg _ (sg (g c) :: qt c (h :: l))=chg _ (sg (g d) :: qt d (h :: l))
  by_cases same:sg (g c)=sg (g d)/\sg (g c) ≠ 0
  ·rw[nk same.2,nk (by rw[<- same.1];exact same.2),k1 c d wc wd cd (by grind) same.1 same.2,same.1,ef]
  ·obtain⟨sc,sd⟩:=kL (k3 c d wc wd cd (by grind)) same
   obtain⟨oc,nc⟩:=op c wc sc
   obtain⟨od,nd⟩:=op d wd sd
   have hh:sg (h c)=sg (h d):=by walk_at"o"
   have sf:sg (f d)=1\/sg (f d) = -1:=by
    have:=eK (f d)
    walk_at"o"
   show chg _ (sg (g c) :: sg (h c) :: qt c l)=chg _ (sg (g d) :: sg (h d) :: qt d l)
   have e1:sg (h c) = -sg (f d):=by walk_at"o"
   have e2:sg (h d) = -sg (f d):=by walk_at"o"
   have k:=k2 c d wc wd cd (by grind) hh nc
   rw[e1,e2] at k
   rw[ef,e1,e2,sJ sf (eK _),sJ sf (eK _),k]
def Vr(x:Rat)(l:List (Rat->Rat)):Nat:=chg 0 (qt x l)
def v1(f g:Rat->Rat)(x:Rat):Nat:=if sg (f x)*sg (g x) = -1 then 1 else 0
theorem yf{f g:Rat->Rat}{l:List (Rat->Rat)}{x:Rat}(h:sg (g x) ≠ 0):Vr x (f :: g :: l)=v1 f g x+chg (sg (g x)) (qt x l):=by
 show chg 0 (sg (f x) :: sg (g x) :: qt x l)=_
 unfold v1
 rcases eK (f x) with e|e|e
 ·rw[e,wW,pB h,Int.zero_mul,if_neg (by decide),Nat.zero_add]
 ·rw[e,pB (by decide),nk h,Int.one_mul]
 ·rw[e,pB (by decide),nk h]
  have:=eK (g x)
  rcases this with z|z|z <;> rw[z] <;> rfl
theorem xO{f:Rat->Rat}{l:List (Rat->Rat)}{x:Rat}(h:sg (f x) ≠ 0):Vr x (f :: l)=chg (sg (f x)) (qt x l):=pB h
def DU(R:Rat)(f g:Rat->Rat)(A:Rat->Nat):Prop:=∃ δ:Rat,0<δ /\ ∀ c d,Wi R c->Wi R d->c<=d->d - c<=δ->(sg (f c)=sg (f d)/\sg (f c) ≠ 0/\A c=A d)\/(sg (g c)=sg (g d)/\sg (g c) ≠ 0/\v1 f g c+A c=v1 f g d+A d)
theorem Ch.counts{R:Rat}{f g:Rat->Rat}{l:List (Rat->Rat)}{A:Rat->Nat}(h:Ch R f (g :: l))(loc:DU R f g A) {a b:Rat}(wa:Wi R a)(wb:Wi R b)(ab:a<=b):Vr a (f :: g :: l)+A a=Vr b (f :: g :: l)+A b:=by
 obtain⟨δ1,d1,k1⟩:=h.keeps.1
 obtain⟨δ2,d2,k2⟩:=h.keeps.2 g l rfl
 obtain⟨δ3,d3,k3⟩:=loc
 obtain⟨δ,d0,m1,m2,m3⟩:=mw d1 d2 d3
 have step:∀ c d,Wi R c->Wi R d->c<=d->d - c<=δ->Vr c (f :: g :: l)+A c=Vr d (f :: g :: l)+A d:=fun c d wc wd cd n=>by
  rcases k3 c d wc wd cd (by grind) with ⟨e,nz,ea⟩|⟨e,nz,ea⟩
  ·rw[xO nz,xO (by rw[<- e];exact nz),k1 c d wc wd cd (by grind) e nz,ea]
  ·rw[yf nz,yf (by rw[<- e];exact nz),k2 c d wc wd cd (by grind) e nz]
   walk_at"o"
 have all:∀ (n:Nat)(c:Rat),Wi R c->c<=b->b - c<=(n:Rat)*δ->Vr c (f :: g :: l)+A c=Vr b (f :: g :: l)+A b:=by
  intro n
  induction n with
  | zero =>
   intro c _ cb z
   obtain rfl:c=b:=by
    have:((0:Nat):Rat)=0:=rfl
    grind
   rfl
  | succ n ih =>
   intro c wc cb z
   by_cases y:b - c<=δ
   ·exact step c b wc wb cb y
   ·have wc':Wi R (c+δ):=by unfold Wi at *;grind
    rw[step c (c+δ) wc wc' (by grind) (by grind)]
    refine ih (c+δ) wc' (by grind) ?_
    have:((n+1:Nat):Rat)=(n:Rat)+1:=by rw[Rat.natCast_add];rfl
    rw[this] at z
    grind
 obtain⟨n,hn⟩ : ∃ n:Nat,b - a<=(n:Rat)*δ:=by
  obtain⟨x,hx⟩ : ∃ x,x=(b - a) / δ:=⟨_,rfl⟩
  refine⟨(x.ceil).toNat,?_⟩
  have h1:x<=((x.ceil:Int):Rat):=Rat.le_ceil
  have h2:((x.ceil:Int):Rat)<=((x.ceil.toNat:Nat):Rat):=by
   rw[show ((x.ceil.toNat:Nat):Rat)=(((x.ceil.toNat:Nat):Int):Rat) from rfl]
   exact Rat.intCast_le_intCast.mpr (Int.self_le_toNat _)
  have h3:=Rat.mul_nonneg (Rat.le_of_lt d0) (show 0<=((x.ceil.toNat:Nat):Rat) - x by grind)
  have h4:x*δ=b - a:=by rw[hx];grind
  grind
 exact all n a wa ab hn
end L2
namespace L2
open PySem PySem.Spec PyProof.Rows
inductive bV where
 | line (r:Rat)
 | root (n:Rat)
 | none (n:Rat)
def bV.ok:bV->Prop
 | .line _=>True
 | .root n=>0<n /\ ∀ r:Rat,r*r ≠ n
 | .none n=>0<n
def bV.p:bV->Rat->Rat
 | .line r,x=>x - r
 | .root n,x=>x*x - n
 | .none n,x=>x*x+n
def bV.d:bV->Rat->Rat
 | .line _,_=>1
 | .root _,x=>2*x
 | .none _,x=>2*x
def bV.A:bV->Rat->Nat
 | .line r,x=>if r<=x then 1 else 0
 | .root n,x=>if x*x<n then 1 else if x<0 then 0 else 2
 | .none _,_=>0
def gU:List (bV × Nat)->Rat->Rat
 | [],_=>1
 | q :: l,x=>q.1.p x*gU l x
def md:List (bV × Nat)->Rat->Rat
 | [],_=>0
 | q :: l,x=>((q.2:Nat):Rat)*q.1.d x*gU l x+q.1.p x*md l x
def iU:List (bV × Nat)->Rat->Nat
 | [],_=>0
 | q :: l,x=>q.1.A x+iU l x
theorem lU{l l':List (bV × Nat)}(h:l.Perm l')(x:Rat):gU l x=gU l' x:=by
 induction h with
 | nil=>rfl
 | cons q _ ih=>show q.1.p x*_=q.1.p x*_;rw[ih]
 | swap a b l=>show b.1.p x*(a.1.p x*gU l x)=a.1.p x*(b.1.p x*gU l x);grind
 | trans _ _ h1 h2=>rw[h1,h2]
theorem xk{l l':List (bV × Nat)}(h:l.Perm l')(x:Rat):md l x=md l' x:=by
 induction h with
 | nil=>rfl
 | cons q h ih=>show _*_*gU _ x+q.1.p x*md _ x=_*_*gU _ x+q.1.p x*md _ x;rw[ih,lU h]
 | swap a b l =>
  show ((b.2:Nat):Rat)*b.1.d x*(a.1.p x*gU l x)+b.1.p x*(((a.2:Nat):Rat)*a.1.d x*gU l x+a.1.p x*md l x)=((a.2:Nat):Rat)*a.1.d x*(b.1.p x*gU l x)+a.1.p x*(((b.2:Nat):Rat)*b.1.d x*gU l x+b.1.p x*md l x)
  grind
 | trans _ _ h1 h2=>rw[h1,h2]
theorem qh{l l':List (bV × Nat)}(h:l.Perm l')(x:Rat):iU l x=iU l' x:=by
 induction h with
 | nil=>rfl
 | cons q _ ih=>show q.1.A x+_=q.1.A x+_;rw[ih]
 | swap a b l=>show b.1.A x+(a.1.A x+iU l x)=a.1.A x+(b.1.A x+iU l x);walk_at"o"
 | trans _ _ h1 h2=>rw[h1,h2]
theorem gw.const{R:Rat}(c:Rat):gw R fun _=>c:=by
 rcases bI c with ⟨a,_⟩|⟨a,_⟩|⟨a,_⟩
 ·exact⟨c,a,fun x _=>by unfold Sm;grind⟩
 ·exact⟨-c,by grind,fun x _=>by unfold Sm;grind⟩
 ·exact⟨1,by decide,fun x _=>by unfold Sm;grind⟩
theorem gw.id{R:Rat}(h:0<=R):gw R fun x=>x:=⟨R+1,by grind,fun x w=>by unfold Sm;unfold Wi at w;grind⟩
theorem gw.mul{R:Rat}{f g:Rat->Rat}(h:gw R f)(h2:gw R g):gw R fun x=>f x*g x:=by
 obtain⟨a,a0,ha⟩:=h
 obtain⟨b,b0,hb⟩:=h2
 exact⟨a*b,Rat.mul_pos a0 b0,fun x w=>(ha x w).mul (hb x w)⟩
theorem gw.add{R:Rat}{f g:Rat->Rat}(h:gw R f)(h2:gw R g):gw R fun x=>f x+g x:=by
 obtain⟨a,a0,ha⟩:=h
 obtain⟨b,b0,hb⟩:=h2
 exact⟨a+b,by grind,fun x w=>(ha x w).add (hb x w)⟩
theorem gw.congr{R:Rat}{f g:Rat->Rat}(h:gw R f)(e:∀ x,g x=f x):gw R g:=by
 obtain⟨a,a0,ha⟩:=h
 exact⟨a,a0,fun x w=>by rw[e];exact ha x w⟩
theorem bV.bp{R:Rat}(h:0<=R):∀ q:bV,gw R q.p
 | .line r=>((gw.id h).add (.const (-r))).congr fun x=>by show x - r=x + -r;grind
 | .root n=>(((gw.id h).mul (.id h)).add (.const (-n))).congr fun x=>by show x*x - n=x*x + -n;grind
 | .none n=>((gw.id h).mul (.id h)).add (.const n)
theorem bV.bd{R:Rat}(h:0<=R):∀ q:bV,gw R q.d
 | .line _=>.const 1
 | .root _=>(gw.const 2).mul (.id h)
 | .none _=>(gw.const 2).mul (.id h)
theorem nN{R:Rat}(h:0<=R):∀ l:List (bV × Nat),gw R (gU l)
 | []=>.const 1
 | q :: l=>(q.1.bp h).mul (nN h l)
theorem oY{R:Rat}(h:0<=R):∀ l:List (bV × Nat),gw R (md l)
 | []=>.const 0
 | q :: l=>(((gw.const _).mul (q.1.bd h)).mul (nN h l)).add ((q.1.bp h).mul (oY h l))
theorem bV.lip{R:Rat}(h:0<=R):∀ q:bV,sU R q.p
 | .line r=>⟨1,by decide,fun x y _ _ l=>by show Sm _ (y - r - (x - r));unfold Sm;grind⟩
 | .root n=>⟨2*R+1,by grind,fun x y wx wy l=>by
   show Sm _ (y*y - n - (x*x - n))
   have s:Sm (2*R+1) (x+y):=by unfold Sm;unfold Wi at wx wy;grind
   have:=s.mul (show Sm (y - x) (y - x) by unfold Sm;grind)
   rwa [show y*y - n - (x*x - n)=(x+y)*(y - x) by grind]⟩
 | .none n=>⟨2*R+1,by grind,fun x y wx wy l=>by
   show Sm _ (y*y+n - (x*x+n))
   have s:Sm (2*R+1) (x+y):=by unfold Sm;unfold Wi at wx wy;grind
   have:=s.mul (show Sm (y - x) (y - x) by unfold Sm;grind)
   rwa [show y*y+n - (x*x+n)=(x+y)*(y - x) by grind]⟩
theorem sU.bdd{R:Rat}(h:0<=R) {f:Rat->Rat}(lf:sU R f):gw R f:=by
 obtain⟨L,L0,hL⟩:=lf
 obtain⟨a,a0,ha⟩:=gw.const (R:=R) (f 0)
 have w0:Wi R 0:=by unfold Wi;grind
 have lr:=Rat.mul_nonneg (Rat.le_of_lt L0) h
 refine⟨a+L*R,by grind,fun x wx=>?_⟩
 have h0:=ha x wx
 by_cases y:0<=x
 ·have:=hL 0 x w0 wx y
  have m:=Rat.mul_nonneg (Rat.le_of_lt L0) (show 0<=R - x by unfold Wi at wx;grind)
  unfold Sm at *
  grind
 ·have:=hL x 0 wx w0 (by grind)
  have m:=Rat.mul_nonneg (Rat.le_of_lt L0) (show 0<=R+x by unfold Wi at wx;grind)
  unfold Sm at *
  grind
def Bg(e x:Rat):Prop:=e<=x\/x <= -e
theorem Bg.of{e x:Rat}(h:¬ Sm e x):Bg e x:=by
 unfold Sm at h
 unfold Bg
 grind
theorem Bg.no{a b x:Rat}(h:Bg a x)(l:b<a):¬ Sm b x:=by
 unfold Bg at h
 unfold Sm
 grind
theorem Bg.mul{a b x y:Rat}(h:Bg a x)(h2:Bg b y)(a0:0<=a)(b0:0<=b):Bg (a*b) (x*y):=by
 rcases h with h|h <;> rcases h2 with k|k
 ·left
  have:=Rat.mul_nonneg (show 0<=x - a by grind) (show 0<=y by grind)
  have:=Rat.mul_nonneg a0 (show 0<=y - b by grind)
  grind
 ·right
  have:=Rat.mul_nonneg (show 0<=x - a by grind) (show 0 <= -y by grind)
  have:=Rat.mul_nonneg a0 (show 0 <= -y - b by grind)
  grind
 ·right
  have:=Rat.mul_nonneg (show 0 <= -x - a by grind) (show 0<=y by grind)
  have:=Rat.mul_nonneg a0 (show 0<=y - b by grind)
  grind
 ·left
  have:=Rat.mul_nonneg (show 0 <= -x - a by grind) (show 0 <= -y by grind)
  have:=Rat.mul_nonneg a0 (show 0 <= -y - b by grind)
  grind
theorem Bg.ne{e x:Rat}(h:Bg e x)(e0:0<e):sg x ≠ 0:=fun z=>by
 have:=hV.mp z
 unfold Bg at h
 grind
def gM(e:Rat):Nat->Rat
 | 0=>1
 | k+1=>e*gM e k
theorem kn{e:Rat}(h:0<e):∀ k,0<gM e k
 | 0=>by show (0:Rat)<1;decide
 | k+1=>Rat.mul_pos h (kn h k)
theorem nT{e x:Rat}(e0:0<e):∀ {l:List (bV × Nat)},(∀ q ∈ l,¬ Sm e (q.1.p x))->Bg (gM e l.length) (gU l x)
 | [],_=>.inl (by show (1:Rat)<=1;grind)
 | q :: l,h=>(Bg.of (h q List.mem_cons_self)).mul (nT e0 fun q' hq=>h q' (List.mem_cons_of_mem _ hq)) (Rat.le_of_lt e0) (Rat.le_of_lt (kn e0 _))
theorem xJ{α:Type}{P:α->Rat->Prop}(mono:∀ a e e',P a e->0<e'->e'<=e->P a e'):∀ l:List α,(∀ a ∈ l,∃ e:Rat,0<e/\P a e) -> ∃ e:Rat,0<e /\ ∀ a ∈ l,P a e
 | [],_=>⟨1,by decide,fun _ h=>by cases h⟩
 | a :: l,h=>by
  obtain⟨e,e0,he⟩:=h a List.mem_cons_self
  obtain⟨f,f0,hf⟩:=xJ mono l fun b hb=>h b (List.mem_cons_of_mem _ hb)
  obtain⟨m,m0,m1,m2,_⟩:=mw e0 f0 f0
  refine⟨m,m0,fun b hb=>?_⟩
  rcases List.mem_cons.mp hb with rfl|hb
  ·exact mono _ _ _ he m0 m1
  ·exact mono _ _ _ (hf b hb) m0 m2
theorem apart{R:Rat}(R0:0<=R) {f g a b:Rat->Rat}{c:Rat}(ha:gw R a)(hb:gw R b)(c0:c ≠ 0)(e:∀ x,a x*f x+b x*g x=c):eI R f g:=by
 obtain⟨A,A0,hA⟩:=ha
 obtain⟨B,B0,hB⟩:=hb
 obtain⟨k,k0,hk⟩ : ∃ k:Rat,0<k/\(k<=c\/k <= -c):=by
  rcases bI c with ⟨z,_⟩|⟨z,_⟩|⟨z,_⟩
  ·exact⟨c,z,.inl (by grind)⟩
  ·exact⟨-c,by grind,.inr (by grind)⟩
  ·exact absurd z c0
 have s0:0<A+B:=by grind
 have t0:0<k / 2 / (A+B):=by rw[Rat.lt_div_iff s0];grind
 refine⟨k / 2 / (A+B),t0,fun x wx sf sg'=>?_⟩
 have s1:=((hA x wx).mul sf).add ((hB x wx).mul sg')
 rw[e] at s1
 have:A*(k / 2 / (A+B))+B*(k / 2 / (A+B))=k / 2:=by grind
 rw[this] at s1
 unfold Sm at s1
 grind
theorem eI.symm{R:Rat}{f g:Rat->Rat}(h:eI R f g):eI R g f:=by
 obtain⟨e,e0,h⟩:=h
 exact⟨e,e0,fun x w a b=>h x w b a⟩
theorem never{R n:Rat}{g:Rat->Rat}(n0:0<n):eI R (bV.none n).p g:=⟨n / 2,by grind,fun x _ s _=>by
 have s:Sm (n / 2) (x*x+n):=s
 have:0<=x*x:=kO x
 unfold Sm at s
 grind⟩
theorem mC{R r n:Rat}(R0:0<=R)(hn:∀ r:Rat,r*r ≠ n):eI R (bV.line r).p (bV.root n).p:=by
 refine apart R0 (a:=fun x=>-(x+r)) (b:=fun _=>1) (c:=r*r - n) ((((gw.id R0).add (.const r)).mul (.const (-1))).congr fun x=>by grind) (.const 1) (fun z=>hn r (by grind)) fun x=>?_
 show -(x+r)*(x - r)+1*(x*x - n)=r*r - n
 grind
theorem bV.apart{R:Rat}(R0:0<=R) {q q':bV}(h:q.ok)(h':q'.ok)(n:q ≠ q'):eI R q.p q'.p:=by
 cases q with
 | none m=>exact never h
 | line r =>
  cases q' with
  | none m=>exact (never h').symm
  | line s =>
   refine L2.apart R0 (a:=fun _=>1) (b:=fun _=>-1) (c:=s - r) (.const 1) (.const (-1)) (fun z=>n (by rw[show r=s by grind])) fun x=>?_
   show 1*(x - r) + -1*(x - s)=s - r
   grind
  | root m=>exact mC R0 h'.2
 | root m =>
  cases q' with
  | none m'=>exact (never h').symm
  | line s=>exact (mC R0 h.2).symm
  | root m' =>
   refine L2.apart R0 (a:=fun _=>1) (b:=fun _=>-1) (c:=m' - m) (.const 1) (.const (-1)) (fun z=>n (by rw[show m=m' by grind])) fun x=>?_
   show 1*(x*x - m) + -1*(x*x - m')=m' - m
   grind
end L2
namespace L2
open PySem PySem.Spec PyProof.Rows
def bV.wd:bV->Rat->Prop
 | .line _,_=>True
 | .root n,e=>e<=1/\e<=n / 4
 | .none n,e=>e<=n / 4
theorem bV.steep(q:bV)(h:q.ok):∃ e:Rat,0<e/\q.wd e /\ ∀ x,Sm e (q.p x)->Bg e (q.d x):=by
 cases q with
 | line r=>exact⟨1,by decide,trivial,fun x _=>.inl (by show (1:Rat)<=1;grind)⟩
 | none n =>
  have n0:0<n:=h
  refine⟨n / 4,by grind,by show n / 4<=n / 4;grind,fun x s=>?_⟩
  have s:Sm (n / 4) (x*x+n):=s
  have:=kO x
  unfold Sm at s
  grind
 | root n =>
  obtain⟨n0,_⟩:=h
  obtain⟨m,m0,m1,m2,_⟩:=mw (show (0:Rat)<1 by decide) (show 0<n / 4 by grind) (show 0<n / 4 by grind)
  refine⟨m,m0,⟨m1,m2⟩,fun x s=>?_⟩
  have s:Sm m (x*x - n):=s
  show Bg m (2*x)
  refine Bg.of fun z=>?_
  have:=z.mul z
  have k:=Rat.mul_nonneg (Rat.le_of_lt m0) (show 0<=1 - m by grind)
  unfold Sm at *
  grind
theorem zn{a b e:Rat}(h:Bg (2*e) a)(k:Sm e b)(e0:0<e):sg (a+b)=sg a/\Bg e (a+b):=by
 unfold Sm at k
 rcases h with h|h
 ·exact⟨by rw[dz (by grind),dz (by grind)],.inl (by grind)⟩
 ·exact⟨by rw[eZ (by grind),eZ (by grind)],.inr (by grind)⟩
theorem Bg.mono{a b x:Rat}(h:Bg a x)(l:b<=a):Bg b x:=by
 unfold Bg at *
 grind
def DO(R:Rat)(l:List (bV × Nat))(q:bV × Nat)(e:Rat):Prop:=q.1.wd e /\ ∃ l',l.Perm (q :: l') /\ ∀ x,Wi R x->Sm e (q.1.p x)->Bg e (md l x)/\Bg e (gU l' x)/\sg (md l x)=sg (q.1.d x)*sg (gU l' x)/\sg (q.1.d x) ≠ 0 /\ ∀ q' ∈ l',¬ Sm e (q'.1.p x)
theorem DO.mono{R:Rat}{l:List (bV × Nat)}{q:bV × Nat}{e e':Rat}(h:DO R l q e)(e0:0<e')(le:e'<=e):DO R l q e':=by
 obtain⟨hw,l',p,h⟩:=h
 refine⟨?_,l',p,fun x wx s=>?_⟩
 ·cases hq:q.1 with
  | line _=>trivial
  | root n=>rw[hq] at hw;exact⟨by have:=hw.1;grind,by have:=hw.2;grind⟩
  | none n =>
   rw[hq] at hw
   have hw:e<=n / 4:=hw
   show e'<=n / 4
   grind
 ·obtain⟨a,b,c,d,f⟩:=h x wx (s.mono le)
  exact⟨a.mono le,b.mono le,c,d,fun q' hq z=>f q' hq (z.mono le)⟩
theorem Ax{R:Rat}(R0:0<=R) {l:List (bV × Nat)}(ok:∀ q ∈ l,q.1.ok/\1<=q.2)(un:l.Pairwise fun a b=>a.1 ≠ b.1) {q:bV × Nat}(hq:q ∈ l):∃ e:Rat,0<e/\DO R l q e:=by
 obtain⟨l',p⟩ : ∃ l',l.Perm (q :: l'):=by
  obtain⟨s,t,rfl⟩:=List.append_of_mem hq
  exact⟨s ++ t,List.perm_middle⟩
 have un':=(p.pairwise_iff (fun h=>Ne.symm h)).mp un
 obtain⟨uq,_⟩:=List.pairwise_cons.mp un'
 have ok':∀ q' ∈ l',q'.1.ok/\1<=q'.2:=fun q' h=>ok q' (p.mem_iff.mpr (List.mem_cons_of_mem _ h))
 obtain⟨η,η0,hη⟩:=xJ (P:=fun (q':bV × Nat) e=>∀ x,Wi R x->Sm e (q.1.p x)->Sm e (q'.1.p x)->False) (fun a e e' h _ le x w s1 s2=>h x w (s1.mono le) (s2.mono le)) l' fun q' h=>by
  obtain⟨e,e0,he⟩:=bV.apart R0 (ok q hq).1 (ok' q' h).1 (uq q' h)
  exact⟨e,e0,he⟩
 obtain⟨σ,σ0,hw,hσ⟩:=q.1.steep (ok q hq).1
 obtain⟨M,M0,hM⟩:=oY R0 l'
 have π0:=kn η0 l'.length
 obtain⟨π,hπ⟩ : ∃ π,π=gM η l'.length:=⟨_,rfl⟩
 rw[<- hπ] at π0
 have sp:=Rat.mul_pos σ0 π0
 have sp2:0<σ*π / 2 / M:=by rw[Rat.lt_div_iff M0];grind
 obtain⟨t1,t10,t11,t12,t13⟩:=mw η0 σ0 sp2
 obtain⟨e,e0,e1,e2,e3⟩:=mw t10 (show 0<σ*π / 2 by grind) π0
 refine⟨e,e0,?_,l',p,fun x wx s=>?_⟩
 ·cases hq':q.1 with
  | line _=>trivial
  | root n=>rw[hq'] at hw;exact⟨by have:=hw.1;grind,by have:=hw.2;grind⟩
  | none n =>
   rw[hq'] at hw
   have hw:σ<=n / 4:=hw
   show e<=n / 4
   grind
 have b1:Bg σ (q.1.d x):=hσ x (s.mono (by grind))
 have b2:Bg π (gU l' x):=by
  rw[hπ]
  exact nT η0 fun q' h z=>hη q' h x wx (s.mono (by grind)) z
 have b3:=b1.mul b2 (Rat.le_of_lt σ0) (Rat.le_of_lt π0)
 have m1:(1:Rat)<=((q.2:Nat):Rat):=by
  have:=(ok q hq).2
  have z:((1:Nat):Rat)<=((q.2:Nat):Rat):=Rat.natCast_le_natCast.mpr this
  exact z
 have b4:Bg (σ*π) (((q.2:Nat):Rat)*q.1.d x*gU l' x):=by
  have:=(show Bg 1 ((q.2:Nat):Rat) from .inl m1).mul b3 (by decide) (Rat.le_of_lt sp)
  rw[Rat.one_mul] at this
  rwa [Rat.mul_assoc]
 have s2:=s.mul (hM x wx)
 have le:e*M<=σ*π / 2:=by
  have k:e<=σ*π / 2 / M:=by grind
  have:=Rat.mul_nonneg (Rat.le_of_lt M0) (show 0<=σ*π / 2 / M - e by grind)
  have z:M*(σ*π / 2 / M)=σ*π / 2:=by grind
  grind
 have e5:md l x=((q.2:Nat):Rat)*q.1.d x*gU l' x+q.1.p x*md l' x:=xk p x
 obtain⟨n1,n2⟩:=zn (e:=σ*π / 2) (b4.mono (by grind)) (s2.mono le) (by grind)
 rw[<- e5] at n1 n2
 refine⟨n2.mono e2,b2.mono e3,?_,b1.ne σ0,fun q' h z=>hη q' h x wx (s.mono (by grind)) (z.mono (by grind))⟩
 rw[n1,jH,jH,dz (show 0<((q.2:Nat):Rat) by grind),Int.one_mul]
theorem bV.same{q:bV}{e c d:Rat}(h:q.ok)(hw:q.wd e)(cd:c<=d)(n:d - c<=e)(s:sg (q.p c)=sg (q.p d))(s0:sg (q.p c) ≠ 0):q.A c=q.A d:=by
 cases q with
 | none _=>rfl
 | line r =>
  show (if r<=c then 1 else 0)=(if r<=d then 1 else 0)
  have s:sg (c - r)=sg (d - r):=s
  have s0:sg (c - r) ≠ 0:=s0
  rcases bI (c - r) with ⟨a,e1⟩|⟨a,e1⟩|⟨a,e1⟩
  ·rw[if_pos (by grind),if_pos (by grind)]
  ·rw[e1] at s
   have:=wQ.mp s.symm
   rw[if_neg (by grind),if_neg (by grind)]
  ·exact absurd e1 s0
 | root m =>
  obtain⟨m0,_⟩:=h
  obtain⟨w1,w2⟩:=hw
  show (if c*c<m then 1 else if c<0 then 0 else 2)=(if d*d<m then 1 else if d<0 then 0 else 2)
  have s:sg (c*c - m)=sg (d*d - m):=s
  have s0:sg (c*c - m) ≠ 0:=s0
  rcases bI (c*c - m) with ⟨a,e1⟩|⟨a,e1⟩|⟨a,e1⟩
  ·rw[e1] at s
   have b:=CW.mp s.symm
   rw[if_neg (show ¬ c*c<m by grind),if_neg (show ¬ d*d<m by grind)]
   by_cases z:c<0
   ·rw[if_pos z,if_pos]
    refine Rat.not_le.mp fun y=>?_
    have k1:=Rat.mul_nonneg y (show 0<=e - d by grind)
    have k2:=Rat.mul_nonneg (show 0<=e by grind) (show 0<=1 - d by grind)
    grind
   ·rw[if_neg z,if_neg (show ¬ d<0 by grind)]
  ·rw[e1] at s
   have b:=wQ.mp s.symm
   rw[if_pos (show c*c<m by grind),if_pos (show d*d<m by grind)]
  ·exact absurd e1 s0
theorem bV.passed{q:bV}{e c d:Rat}(h:q.ok)(hw:q.wd e)(e0:0<e)(cd:c<=d)(n:d - c<=e)(sc:Sm e (q.p c))(sd:Sm e (q.p d)):(if sg (q.p c)*sg (q.d c) = -1 then 1 else 0)+q.A c=(if sg (q.p d)*sg (q.d d) = -1 then 1 else 0)+q.A d:=by
 cases q with
 | none m =>
  have hw:e<=m / 4:=hw
  have h:0<m:=h
  have sc:Sm e (c*c+m):=sc
  have:=kO c
  unfold Sm at sc
  grind
 | line r =>
  have key:∀ x:Rat,(if sg (x - r)*sg (1:Rat) = -1 then 1 else 0)+(if r<=x then 1 else 0)=(1:Nat):=fun x=>by
   rw[dz (show (0:Rat)<1 by decide),Int.mul_one]
   rcases bI (x - r) with ⟨a,e1⟩|⟨a,e1⟩|⟨a,e1⟩
   ·rw[e1,if_neg (by decide),if_pos (by grind)]
   ·rw[e1,if_pos rfl,if_neg (by grind)]
   ·rw[e1,if_neg (by decide),if_pos (by grind)]
  exact (key c).trans (key d).symm
 | root m =>
  obtain⟨m0,nm⟩:=h
  obtain⟨w1,w2⟩:=hw
  have sc:Sm e (c*c - m):=sc
  have sd:Sm e (d*d - m):=sd
  have key:∀ x:Rat,(x<0->(if sg (x*x - m)*sg (2*x) = -1 then 1 else 0)+(if x*x<m then 1 else if x<0 then 0 else 2)=(1:Nat))/\(0<x->(if sg (x*x - m)*sg (2*x) = -1 then 1 else 0)+(if x*x<m then 1 else if x<0 then 0 else 2)=(2:Nat)):=fun x=>by
   refine⟨fun y=>?_,fun y=>?_⟩
   ·rw[eZ (show 2*x<0 by grind)]
    rcases bI (x*x - m) with ⟨a,e1⟩|⟨a,e1⟩|⟨a,e1⟩
    ·rw[e1,if_pos (by decide),if_neg (by grind),if_pos y]
    ·rw[e1,if_neg (by decide),if_pos (by grind)]
    ·exact absurd (show x*x=m by grind) (nm x)
   ·rw[dz (show 0<2*x by grind)]
    rcases bI (x*x - m) with ⟨a,e1⟩|⟨a,e1⟩|⟨a,e1⟩
    ·rw[e1,if_neg (by decide),if_neg (by grind),if_neg (by grind)]
    ·rw[e1,if_pos (by decide),if_pos (by grind)]
    ·exact absurd (show x*x=m by grind) (nm x)
  have c0:c ≠ 0:=fun z=>by
   rw[z] at sc
   unfold Sm at sc
   grind
  have d0:d ≠ 0:=fun z=>by
   rw[z] at sd
   unfold Sm at sd
   grind
  show (if sg (c*c - m)*sg (2*c) = -1 then 1 else 0)+(if c*c<m then 1 else if c<0 then 0 else 2)=(if sg (d*d - m)*sg (2*d) = -1 then 1 else 0)+(if d*d<m then 1 else if d<0 then 0 else 2)
  by_cases z:c<0
  ·have dn:d<0:=Rat.not_le.mp fun y=>by
    have k1:=Rat.mul_nonneg y (show 0<=e - d by grind)
    have k2:=Rat.mul_nonneg (show 0<=e by grind) (show 0<=1 - d by grind)
    unfold Sm at sd
    grind
   rw[(key c).1 z,(key d).1 dn]
  ·rw[(key c).2 (by grind),(key d).2 (by grind)]
theorem lK{e c d:Rat}(cd:c<=d)(n:d - c<=e):∀ {l:List (bV × Nat)},(∀ q ∈ l,q.1.ok/\q.1.wd e/\sg (q.1.p c)=sg (q.1.p d)/\sg (q.1.p c) ≠ 0)->iU l c=iU l d
 | [],_=>rfl
 | q :: l,h=>by
  obtain⟨a,b,s,s0⟩:=h q List.mem_cons_self
  show q.1.A c+iU l c=q.1.A d+iU l d
  rw[bV.same a b cd n s s0,lK cd n fun q' h'=>h q' (List.mem_cons_of_mem _ h')]
theorem ku{u v e:Rat}(h:Sm e (v - u))(n:¬ Sm e u):sg u=sg v/\sg u ≠ 0:=Classical.byContradiction fun z=>n (kL h z).1
theorem yI{R:Rat}(R0:0<=R) {l:List (bV × Nat)}{f g:Rat->Rat}{κ:Rat}(ok:∀ q ∈ l,q.1.ok/\1<=q.2)(un:l.Pairwise fun a b=>a.1 ≠ b.1)(lf:sU R f)(lg:sU R g)(nb:eI R f g)(k0:0<κ)(id:∀ x,κ*(g x*gU l x)=f x*md l x):DU R f g (iU l):=by
 obtain⟨θ,θ0,hθ⟩:=xJ (P:=DO R l) (fun q e e' h h0 le=>h.mono h0 le) l fun q hq=>Ax R0 ok un hq
 obtain⟨ε,ε0,hε⟩:=nb
 obtain⟨G,G0,hG⟩:=lg.bdd R0
 obtain⟨P,P0,hP⟩:=oY R0 l
 obtain⟨τ,τ0,τθ,hτ⟩ : ∃ τ:Rat,0<τ/\τ<=θ /\ ∀ q ∈ l,∀ x,Wi R x->Sm τ (q.1.p x)->Sm ε (f x):=by
  obtain⟨τ,τ0,h⟩:=xJ (P:=fun (q:bV × Nat) t=>t<=θ /\ ∀ x,Wi R x->Sm t (q.1.p x)->Sm ε (f x)) (fun q e e' h _ le=>⟨by grind,fun x w s=>h.2 x w (s.mono le)⟩) l fun q hq=>by
   obtain⟨_,l',p,hx⟩:=hθ q hq
   obtain⟨H,H0,hH⟩:=nN R0 l'
   have z0:=Rat.mul_pos k0 (Rat.mul_pos G0 H0)
   have z1:0<θ*ε / 2 / (κ*(G*H)):=by rw[Rat.lt_div_iff z0];have:=Rat.mul_pos θ0 ε0;grind
   obtain⟨t,t0,t1,t2,_⟩:=mw θ0 z1 z1
   refine⟨t,t0,t1,fun x w s=>?_⟩
   obtain⟨b1,_⟩:=hx x w (s.mono t1)
   refine Classical.byContradiction fun nf=>?_
   have nf:=Bg.of nf
   have e1:=id x
   rw[lU p x] at e1
   have e1:κ*(g x*(q.1.p x*gU l' x))=f x*md l x:=e1
   have m1:=((hG x w).mul (s.mul (hH x w)))
   have m2:=(show Sm κ κ by unfold Sm;grind).mul m1
   rw[e1] at m2
   have b2:=nf.mul b1 (Rat.le_of_lt ε0) (Rat.le_of_lt θ0)
   have m3:κ*(G*(t*H))<=θ*ε / 2:=by
    have:=Rat.mul_nonneg (Rat.le_of_lt z0) (show 0<=θ*ε / 2 / (κ*(G*H)) - t by grind)
    have z:κ*(G*H)*(θ*ε / 2 / (κ*(G*H)))=θ*ε / 2:=by grind
    grind
   refine b2.no ?_ (m2.mono m3)
   have:=Rat.mul_pos θ0 ε0
   grind
  cases l with
  | nil=>exact⟨θ,θ0,by grind,fun q hq=>by cases hq⟩
  | cons q0 l0=>exact⟨τ,τ0,(h q0 List.mem_cons_self).1,fun q hq=>(h q hq).2⟩
 obtain⟨φ,φ0,hφ⟩ : ∃ φ:Rat,0<φ /\ ∀ x,Wi R x->(∀ q ∈ l,¬ Sm (τ / 2) (q.1.p x)) -> ¬ Sm φ (f x):=by
  have h2:0<τ / 2:=by grind
  have π0:=kn h2 l.length
  have z0:=Rat.mul_pos k0 (Rat.mul_pos ε0 π0)
  have z1:0<κ*(ε*gM (τ / 2) l.length) / 2 / P:=by rw[Rat.lt_div_iff P0];grind
  obtain⟨φ,φ0,f1,f2,_⟩:=mw ε0 z1 z1
  refine⟨φ,φ0,fun x w h s=>?_⟩
  have bg:=Bg.of fun z=>hε x w (s.mono f1) z
  have b1:=(show Bg κ κ from .inl (by grind)).mul (bg.mul (nT h2 h) (Rat.le_of_lt ε0) (Rat.le_of_lt π0)) (Rat.le_of_lt k0) (Rat.le_of_lt (Rat.mul_pos ε0 π0))
  have m1:=s.mul (hP x w)
  rw[<- id] at m1
  refine b1.no ?_ m1
  have:=Rat.mul_nonneg (Rat.le_of_lt P0) (show 0<=κ*(ε*gM (τ / 2) l.length) / 2 / P - φ by grind)
  have z:P*(κ*(ε*gM (τ / 2) l.length) / 2 / P)=κ*(ε*gM (τ / 2) l.length) / 2:=by grind
  grind
 obtain⟨δ1,p1,h1⟩:=lf.near φ0
 obtain⟨δ2,p2,h2⟩:=lg.near ε0
 obtain⟨δ3,p3,h3⟩:=xJ (P:=fun (q:bV × Nat) t=>∀ c d,Wi R c->Wi R d->c<=d->d - c<=t->Sm (τ / 2) (q.1.p d - q.1.p c)) (fun q e e' h _ le c d wc wd cd n=>h c d wc wd cd (by grind)) l fun q _=>(q.1.lip R0).near (by grind)
 obtain⟨δ4,p4,a1,a2,a3⟩:=mw p1 p2 p3
 obtain⟨δ,p,b1,b2,_⟩:=mw p4 θ0 θ0
 refine⟨δ,p,fun c d wc wd cd n=>?_⟩
 have hp:∀ q ∈ l,Sm (τ / 2) (q.1.p d - q.1.p c):=fun q hq=>h3 q hq c d wc wd cd (by grind)
 by_cases ex:∃ q ∈ l,Sm (τ / 2) (q.1.p c)
 ·obtain⟨q,hq,s⟩:=ex
  right
  have sc:Sm τ (q.1.p c):=s.mono (by grind)
  have sd:Sm τ (q.1.p d):=by
   have:=hp q hq
   unfold Sm at *
   grind
  have ng:=ku (h2 c d wc wd cd (by grind)) fun z=>hε c wc (hτ q hq c wc sc) z
  refine⟨ng.1,ng.2,?_⟩
  obtain⟨hw,l',pm,hx⟩:=hθ q hq
  have v:∀ x,Wi R x->Sm τ (q.1.p x)->v1 f g x=if sg (q.1.p x)*sg (q.1.d x) = -1 then 1 else 0:=fun x wx sx=>by
   obtain⟨_,q2,q3,q4,_⟩:=hx x wx (sx.mono τθ)
   have q5:=q2.ne θ0
   have q6:sg (g x) ≠ 0:=fun z=>hε x wx (hτ q hq x wx sx) (by rw[hV.mp z];unfold Sm;grind)
   have e1:=congrArg sg (id x)
   rw[lU pm x,jH,dz k0,Int.one_mul,jH,jH,q3] at e1
   have e1:sg (g x)*sg (q.1.p x*gU l' x)=sg (f x)*(sg (q.1.d x)*sg (gU l' x)):=e1
   rw[jH] at e1
   have e2:sg (f x)*sg (g x)=sg (q.1.p x)*sg (q.1.d x):=by
    rcases eK (gU l' x) with z1|z1|z1 <;> rcases eK (g x) with z2|z2|z2 <;> rcases eK (q.1.d x) with z3|z3|z3 <;> rw[z1,z2,z3] at e1 <;> rw[z2,z3] <;> walk_at"o"
   unfold v1
   rw[e2]
  rw[v c wc sc,v d wd sd,qh pm c,qh pm d]
  show _+(q.1.A c+iU l' c)=_+(q.1.A d+iU l' d)
  have ps:=bV.passed (ok q hq).1 hw θ0 cd (by grind) (sc.mono τθ) (sd.mono τθ)
  have pa:iU l' c=iU l' d:=lK cd (show d - c<=θ by grind) fun q' h'=>by
   have hq':q' ∈ l:=pm.mem_iff.mpr (List.mem_cons_of_mem _ h')
   obtain⟨_,_,_,_,nq⟩:=hx c wc (sc.mono τθ)
   obtain⟨y1,y2⟩:=ku ((hp q' hq').mono (show τ / 2<=θ by grind)) (nq q' h')
   exact⟨(ok q' hq').1,(hθ q' hq').1,y1,y2⟩
  walk_at"o"
 ·left
  have al:∀ q ∈ l,¬ Sm (τ / 2) (q.1.p c):=fun q hq s=>ex ⟨q,hq,s⟩
  have nf:=ku (h1 c d wc wd cd (by grind)) (hφ c wc al)
  refine⟨nf.1,nf.2,lK cd (show d - c<=θ by grind) fun q hq=>?_⟩
  obtain⟨y1,y2⟩:=ku (hp q hq) (al q hq)
  exact⟨(ok q hq).1,(hθ q hq).1,y1,y2⟩
theorem Ch.roots{R:Rat}(R0:0<=R) {l:List (bV × Nat)}{f g:Rat->Rat}{fs:List (Rat->Rat)}{κ:Rat}(h:Ch R f (g :: fs))(ok:∀ q ∈ l,q.1.ok/\1<=q.2)(un:l.Pairwise fun a b=>a.1 ≠ b.1)(lg:sU R g)(k0:0<κ)(id:∀ x,κ*(g x*gU l x)=f x*md l x) {a b:Rat}(wa:Wi R a)(wb:Wi R b)(ab:a<=b):Vr a (f :: g :: fs)+iU l a=Vr b (f :: g :: fs)+iU l b :=
 h.counts (yI R0 ok un h.lip lg (h.notBoth g fs rfl) k0 id) wa wb ab
end L2
namespace L2
open PySem PySem.Spec PyProof.Rows
def Py(f:Rat->Rat):Prop:=∃ l:List Rat,∀ x,f x=d4 l x
theorem Py.congr{f g:Rat->Rat}(h:Py f)(e:∀ x,g x=f x):Py g:=by
 obtain⟨l,h⟩:=h
 exact⟨l,fun x=>(e x).trans (h x)⟩
theorem Py.isP{f:Rat->Rat}(h:Py f):∃ n,pi n f:=by
 obtain⟨l,h⟩:=h
 exact⟨l.length,l,Nat.le_refl _,h⟩
theorem pi.py{n:Nat}{f:Rat->Rat}(h:pi n f):Py f:=by
 obtain⟨l,_,h⟩:=h
 exact⟨l,h⟩
theorem Py.const(c:Rat):Py fun _=>c:=⟨[c],fun x=>by show c=c+x*0;grind⟩
theorem Py.id:Py fun x=>x:=⟨[0,1],fun x=>by show x=0+x*(1+x*0);grind⟩
theorem Py.add{f g:Rat->Rat}(h:Py f)(k:Py g):Py fun x=>f x+g x:=by
 obtain⟨m,hm⟩:=h.isP
 obtain⟨n,hn⟩:=k.isP
 exact ((hm.mono (Nat.le_max_left m n)).add (hn.mono (Nat.le_max_right m n))).py
theorem Py.shift{f:Rat->Rat}(h:Py f):Py fun x=>x*f x:=by
 obtain⟨l,h⟩:=h
 exact⟨0 :: l,fun x=>by show x*f x=0+x*d4 l x;rw[h];grind⟩
theorem Py.sc{f:Rat->Rat}(h:Py f)(c:Rat):Py fun x=>c*f x:=by
 obtain⟨n,hn⟩:=h.isP
 exact (hn.sc c).py.congr fun x=>by grind
theorem Py.mul{f g:Rat->Rat}(h:Py f)(k:Py g):Py fun x=>f x*g x:=by
 obtain⟨l,h⟩:=h
 have:∀ l:List Rat,Py fun x=>d4 l x*g x:=by
  intro l
  induction l with
  | nil=>exact (Py.const 0).congr fun x=>by show 0*g x=0;grind
  | cons a l ih=>exact ((k.sc a).add ih.shift).congr fun x=>by show (a+x*d4 l x)*g x=a*g x+x*(d4 l x*g x);grind
 exact (this l).congr fun x=>by rw[h]
theorem Py.sub{f g:Rat->Rat}(h:Py f)(k:Py g):Py fun x=>f x - g x:=(h.add (k.sc (-1))).congr fun x=>by grind
theorem Ea{n:Nat}{u:Nat->Rat}(h:Bd n u)(l:n<=20):Py (EV u):=(pi.of h l).py
theorem nM{R:Rat}(R0:0<=R):∀ l:List Rat,gw R (d4 l)
 | []=>.const 0
 | a :: l=>(gw.const a).add ((gw.id R0).mul (nM R0 l))
theorem tL{R:Rat}(R0:0<=R):∀ l:List Rat,sU R (d4 l)
 | []=>⟨1,by decide,fun x y _ _ h=>by show Sm _ (0 - 0);unfold Sm;grind⟩
 | a :: l=>by
  obtain⟨L,L0,hL⟩:=tL R0 l
  obtain⟨B,B0,hB⟩:=nM R0 l
  have rl:=Rat.mul_nonneg R0 (Rat.le_of_lt L0)
  refine⟨R*L+B,by grind,fun x y wx wy h=>?_⟩
  show Sm _ (a+y*d4 l y - (a+x*d4 l x))
  have s1:=(show Sm R y from wy).mul (hL x y wx wy h)
  have s2:=(show Sm (y - x) (y - x) by unfold Sm;grind).mul (hB x wx)
  have:=s1.add s2
  rw[show a+y*d4 l y - (a+x*d4 l x)=y*(d4 l y - d4 l x)+(y - x)*d4 l x by grind]
  exact this.mono (by grind)
theorem Py.bdd{R:Rat}(R0:0<=R) {f:Rat->Rat}(h:Py f):gw R f:=by
 obtain⟨l,h⟩:=h
 exact (nM R0 l).congr h
theorem Py.lip{R:Rat}(R0:0<=R) {f:Rat->Rat}(h:Py f):sU R f:=by
 obtain⟨l,h⟩:=h
 obtain⟨L,L0,hL⟩:=tL R0 l
 exact⟨L,L0,fun x y wx wy k=>by rw[h,h];exact hL x y wx wy k⟩
theorem Py.zero{f g:Rat->Rat}(hf:Py f)(hg:Py g)(e:∀ x,f x*g x=0)(n:∃ x,g x ≠ 0):∀ x,f x=0:=by
 obtain⟨m,pm⟩:=hf.isP
 obtain⟨k,pk⟩:=hg.isP
 obtain⟨S,hS⟩ : ∃ S,S=rF (m+k):=⟨_,rfl⟩
 have nd:S.Nodup:=hS ▸ oR _
 have ln:S.length=m+k:=hS ▸ lT _
 have sp:(S.filter fun x=>decide (f x=0)).length+(S.filter fun x=>!decide (f x=0)).length=S.length:=by
  clear nd ln hS
  induction S with
  | nil=>rfl
  | cons a S ih =>
   by_cases z:f a=0
   ·rw[List.filter_cons_of_pos (by simpa using z),List.filter_cons_of_neg (by simpa using z),List.length_cons,List.length_cons]
    walk_at"o"
   ·rw[List.filter_cons_of_neg (by simpa using z),List.filter_cons_of_pos (by simpa using z),List.length_cons,List.length_cons]
    walk_at"o"
 by_cases a:m<=(S.filter fun x=>decide (f x=0)).length
 ·exact pm.zero (nd.sublist List.filter_sublist) a fun s hs=>of_decide_eq_true (List.mem_filter.mp hs).2
 ·obtain⟨x0,hx0⟩:=n
  refine absurd (pk.zero (nd.sublist (List.filter_sublist (p:=fun x=>!decide (f x=0)))) (by walk_at"o") (fun s hs=>?_) x0) hx0
  have z:=(List.mem_filter.mp hs).2
  rcases Rat.mul_eq_zero.mp (e s) with y|y
  ·rw[y] at z
   simp at z
  ·exact y
def Eb(q:Int):Prop:=2<=q /\ ∀ a b:Int,q ∣ a*b->q ∣ a\/q ∣ b
theorem BU:∀ n:Nat,2<=n -> ∃ q:Int,Eb q/\q ∣ (n:Int):=by
 intro n
 induction n using Nat.strongRecOn with
 | ind n ih =>
  intro h2
  by_cases ex:∃ d,2<=d/\d<n/\d ∣ n
  ·obtain⟨d,d2,dn,dd⟩:=ex
   obtain⟨q,pq,qd⟩:=ih d dn d2
   exact⟨q,pq,Int.dvd_trans qd (Int.natCast_dvd_natCast.mpr dd)⟩
  ·refine⟨n,⟨by walk_at"o",fun a b h=>?_⟩,Int.dvd_refl _⟩
   have h':n ∣ a.natAbs*b.natAbs:=by
    have:=Int.natAbs_dvd_natAbs.mpr h
    rwa [Int.natAbs_mul,Int.natAbs_natCast] at this
   have g1:=Nat.gcd_dvd_left n a.natAbs
   have g2:=Nat.gcd_dvd_right n a.natAbs
   by_cases z:Nat.gcd n a.natAbs=1
   ·right
    have:=Nat.Coprime.dvd_of_dvd_mul_left (show Nat.Coprime n a.natAbs from z) h'
    exact Int.natAbs_dvd_natAbs.mp (by rwa [Int.natAbs_natCast])
   ·left
    have gp:0<Nat.gcd n a.natAbs:=Nat.gcd_pos_of_pos_left _ (by walk_at"o")
    have le:=Nat.le_of_dvd (by walk_at"o") g1
    have:Nat.gcd n a.natAbs=n:=Classical.byContradiction fun y=>ex ⟨_,by walk_at"o",by walk_at"o",g1⟩
    rw[this] at g2
    exact Int.natAbs_dvd_natAbs.mp (by rwa [Int.natAbs_natCast])
theorem xT{c p:Nat->Int}{q:Int}{i j:Nat}(hc:∀ a,a<i->q ∣ c a)(hp:∀ b,b<j->q ∣ p b):∀ n,q ∣ pz c p n (i+j) - (if i<n then c i*p j else 0)
 | 0=>by show q ∣ 0 - (if i<0 then c i*p j else 0);rw[if_neg (by walk_at"o")];exact⟨0,by walk_at"o"⟩
 | n+1=>by
  have ih:=xT hc hp n
  show q ∣ pz c p n (i+j)+(if n<=i+j then c n*p (i+j - n) else 0) - (if i<n+1 then c i*p j else 0)
  rcases Nat.lt_trichotomy n i with z|z|z
  ·rw[if_neg (show ¬ i<n by walk_at"o")] at ih
   rw[if_pos (by walk_at"o"),if_neg (by walk_at"o")]
   have d:=Int.dvd_mul_of_dvd_left (c:=p (i+j - n)) (hc n z)
   have:=Int.dvd_add ih d
   rw[show pz c p n (i+j)+c n*p (i+j - n) - 0=pz c p n (i+j) - 0+c n*p (i+j - n) by walk_at"o"]
   exact this
  ·subst z
   rw[if_neg (show ¬ n<n by walk_at"o")] at ih
   rw[if_pos (by walk_at"o"),if_pos (by walk_at"o"),show n+j - n=j by walk_at"o"]
   rw[show pz c p n (n+j)+c n*p j - c n*p j=pz c p n (n+j) - 0 by walk_at"o"]
   exact ih
  ·rw[if_pos (show i<n by walk_at"o")] at ih
   rw[if_pos (show i<n+1 by walk_at"o")]
   by_cases y:n<=i+j
   ·rw[if_pos y]
    have d:q ∣ c n*p (i+j - n):=Int.dvd_mul_of_dvd_right (hp (i+j - n) (by walk_at"o"))
    have:=Int.dvd_add ih d
    rw[show pz c p n (i+j)+c n*p (i+j - n) - c i*p j=pz c p n (i+j) - c i*p j+c n*p (i+j - n) by walk_at"o"]
    exact this
   ·rw[if_neg y]
    rw[show pz c p n (i+j)+0 - c i*p j=pz c p n (i+j) - c i*p j by walk_at"o"]
    exact ih
theorem mH{q:Int}{c:Nat->Int}(h:¬ ∀ k,q ∣ c k):∃ i,¬ q ∣ c i /\ ∀ a,a<i->q ∣ c a:=by
 obtain⟨m,hm⟩ : ∃ m,¬ q ∣ c m:=Classical.not_forall.mp h
 induction m using Nat.strongRecOn with
 | ind m ih =>
  by_cases ex:∃ a,a<m /\ ¬ q ∣ c a
  ·obtain⟨a,am,ha⟩:=ex
   exact ih a am ha
  ·exact⟨m,hm,fun a ha=>Classical.byContradiction fun z=>ex ⟨a,ha,z⟩⟩
theorem CT{q:Int}(hq:Eb q) {c p:Nat->Int}{n:Nat}(bc:∀ i,n<=i->c i=0)(h:∀ k,q ∣ pz c p n k)(np:¬ ∀ k,q ∣ p k):∀ k,q ∣ c k:=Classical.byContradiction fun nc=>by
 obtain⟨i,hi,mi⟩:=mH nc
 obtain⟨j,hj,mj⟩:=mH np
 have d:=xT mi mj n
 have il:i<n:=Nat.lt_of_not_le fun z=>hi (by rw[bc i z];exact⟨0,by walk_at"o"⟩)
 rw[if_pos il] at d
 have:=Int.dvd_sub (h (i+j)) d
 rw[show pz c p n (i+j) - (pz c p n (i+j) - c i*p j)=c i*p j by walk_at"o"] at this
 rcases hq.2 _ _ this with z|z
 ·exact hi z
 ·exact hj z
def vz(p:Nat->Int):Prop:=∀ q:Int,(∀ k,q ∣ p k)->q.natAbs=1
theorem El{p:Nat->Int}(hp:vz p) {n:Nat}:∀ (m:Nat)(S:Int)(c:Nat->Int),S.natAbs=m->S ≠ 0->(∀ i,n<=i->c i=0)->(∀ k,S ∣ pz c p n k) -> ∀ k,S ∣ c k:=by
 intro m
 induction m using Nat.strongRecOn with
 | ind m ih =>
  intro S c e s0 bc h k
  by_cases m1:m=1
  ·have:S=1\/S = -1:=by walk_at"o"
   rcases this with rfl|rfl
   ·exact Int.one_dvd _
   ·exact Int.neg_dvd.mpr (Int.one_dvd _)
  ·obtain⟨q,pq,qd⟩:=BU m (by walk_at"o")
   have qS:q ∣ S:=by
    rw[<- e] at qd
    exact Int.dvd_natAbs.mp qd
   have qc:=CT pq bc (fun k=>Int.dvd_trans qS (h k)) fun z=>by
    have:=hp q z
    have:=pq.1
    walk_at"o"
   obtain⟨S',hS⟩:=qS
   obtain⟨c',hc⟩ : ∃ c':Nat->Int,∀ k,c k=q*c' k:=⟨fun k=>(qc k).choose,fun k=>(qc k).choose_spec⟩
   have q0:q ≠ 0:=by have:=pq.1;walk_at"o"
   have s1:S' ≠ 0:=fun z=>s0 (by rw[hS,z,Int.mul_zero])
   have lt:S'.natAbs<m:=by
    rw[<- e,hS,Int.natAbs_mul]
    have:2<=q.natAbs:=by have:=pq.1;walk_at"o"
    have:=Nat.mul_le_mul_right S'.natAbs this
    walk_at"o"
   have r:=ih _ lt S' c' rfl s1 (fun i hi=>by
    have:=hc i
    rw[bc i hi] at this
    rcases Int.mul_eq_zero.mp this.symm with z|z
    ·exact absurd z q0
    ·exact z) (fun k=>by
    have:=h k
    rw[show c=fun k=>q*c' k from funext hc,ox,hS] at this
    exact Int.dvd_of_mul_dvd_mul_left q0 this) k
   rw[hS,hc k]
   exact Int.mul_dvd_mul_left q r
end L2
namespace L2
open PySem PySem.Spec PyProof.Rows
def aU(F:List Int)(x:Rat):Rat:=EV (eX F) x
theorem fe{F:List Int}(h:F.length<=20):Py (aU F):=Ea (bZ F) h
theorem yU(x:Rat):aU [] x=0:=j8 (fun i=>by show ((nz [] i:Int):Rat)=0;rw[aW (by simp)];rfl) x
theorem tw(c:Int)(x:Rat):aU [c] x=(c:Rat):=by
 unfold aU
 rw[ff (n:=1) (bZ [c]) (by decide)]
 show 0+eX [c] 0*1=_
 show 0+((nz [c] 0:Int):Rat)*1=_
 rw[show nz [c] 0=c from rfl]
 grind
theorem sW{F G:List Int}(lF:F.length<=20)(lG:G.length<=20)(h:∀ x,aU F x=aU G x)(k:Nat):nz F k=nz G k:=by
 have:=lI ((bZ F).mono lF) ((bZ G).mono lG) h k
 exact Rat.intCast_inj.mp this
theorem fL{F G:List Int}{c:Int}(h:∀ k,nz F k=c*nz G k)(x:Rat):aU F x=(c:Rat)*aU G x:=by
 have e:∀ k,eX F k=(fun k=>0+(c:Rat)*eX G k) k:=fun k=>by
  show ((nz F k:Int):Rat)=0+(c:Rat)*((nz G k:Int):Rat)
  rw[h k,Rat.intCast_mul]
  grind
 unfold aU
 rw[eT e x,i7,j8 (f:=fun _=>0) fun _=>rfl]
 grind
theorem oX{F Q G:List Int}(l:Q.length+G.length<=20)(e:∀ k,nz F k=pz (nz Q) (nz G) Q.length k)(x:Rat):aU F x=aU Q x*aU G x:=by
 have:=kK (F:=F) (R:=[]) (S:=1) (T:=0) l (fun k=>by rw[e k];walk_at"o") x
 unfold aU
 have c1:((1:Int):Rat)=1:=rfl
 have c0:((0:Int):Rat)=0:=rfl
 rw[c1,c0] at this
 grind
theorem xS{F Q G:List Int}(l:Q.length+G.length<=20)(lF:F.length<=20)(e:∀ x,aU F x=aU Q x*aU G x)(k:Nat):nz F k=pz (nz Q) (nz G) Q.length k:=by
 have lz1:(lz 20 (fun k=>pz (nz Q) (nz G) Q.length k)).length<=20:=by rw[nV];walk_at"o"
 have e1:∀ k,nz (lz 20 (fun k=>pz (nz Q) (nz G) Q.length k)) k=pz (nz Q) (nz G) Q.length k:=fun k=>by
  by_cases z:k<20
  ·exact AR z
  ·rw[aW (by rw[nV];walk_at"o")]
   refine (Rat.intCast_inj.mp ?_)
   rw[gL]
   exact (fR (bZ G) Q.length k (by walk_at"o")).symm
 have:=sW lF lz1 (fun x=>by rw[e x,oX l e1]) k
 rw[this,e1]
def pI(P F:List Int):Prop:=∃ A:List Int,A.length<=F.length /\ ∀ x,aU F x=aU A x*aU P x
theorem m6{P F C:List Int}{S:Int}(hp:vz (nz P))(s0:S ≠ 0)(lC:C.length<=F.length)(lF:F.length<=9)(lP:P.length<=9)(e:∀ x,(S:Rat)*aU F x=aU C x*aU P x):pI P F:=by
 have c0:=az s0
 have k1:∀ k,S*nz F k=pz (nz C) (nz P) C.length k:=fun k=>by
  have:=xS (F:=F.map fun y=>S*y) (Q:=C) (G:=P) (by walk_at"o") (by rw[List.length_map];walk_at"o") (fun x=>by rw[fL (G:=F) (c:=S) (fun k=>dL k),e]) k
  rw[dL] at this
  exact this
 have d:=El hp _ S (nz C) rfl s0 (n:=C.length) (fun i hi=>aW hi) fun k=>⟨nz F k,(k1 k).symm⟩
 obtain⟨A,lA,hA⟩ : ∃ A:List Int,A.length=C.length /\ ∀ k,nz C k=S*nz A k:=by
  refine⟨C.map (· / S),by simp,fun k=>?_⟩
  by_cases z:k<C.length
  ·have e1:(C.map (· / S))[k]? = some (C[k] / S):=by rw[List.getElem?_map,List.getElem?_eq_getElem z];rfl
   rw[bC e1]
   have:=d k
   rw[bC (List.getElem?_eq_getElem z)] at this ⊢
   exact (Int.mul_ediv_cancel' this).symm
  ·rw[aW (by walk_at"o"),aW (by simp;walk_at"o"),Int.mul_zero]
 refine⟨A,by walk_at"o",fun x=>?_⟩
 have:=e x
 rw[fL hA] at this
 have:(S:Rat)*(aU F x - aU A x*aU P x)=0:=by grind
 rcases Rat.mul_eq_zero.mp this with z|z
 ·exact absurd z c0
 ·grind
theorem m9.div{F G:List Int}{rows:List (List Int × List Int × Int × Int)}(h:m9 F G rows):∀ {P:List Int}{g:Int},vz (nz P)->P.length<=9->G ≠ []->F.length<=9->G.length<=F.length->(∀ k,nz (gn G rows) k=g*nz P k)->pI P F/\pI P G /\ ∀ row ∈ rows,pI P row.1:=by
 induction h with
 | nought=>intro P g _ _ z;exact absurd rfl z
 | @last F G Q S g0 gl s0 lq e =>
  intro P g hp lP _ lF lG hl
  have hl:∀ k,nz G k=g*nz P k:=hl
  have gp:=List.length_pos_iff.mpr g0
  have dG:pI P G:=⟨[g],by simp;walk_at"o",fun x=>by rw[tw,fL hl]⟩
  refine⟨m6 (C:=Q.map fun y=>g*y) hp s0 (by rw[List.length_map];walk_at"o") lF lP fun x=>?_,dG,by simp⟩
  rw[fL (G:=Q) (c:=g) fun k=>dL k]
  have:=kK (F:=F) (R:=[]) (S:=S) (T:=0) (show Q.length+G.length<=20 by walk_at"o") (fun k=>by rw[e k];walk_at"o") x
  have c0:((0:Int):Rat)=0:=rfl
  rw[c0] at this
  show (S:Rat)*EV (eX F) x=_
  rw[this]
  have z:EV (eX G) x=(g:Rat)*aU P x:=fL hl x
  rw[z]
  show EV (eX Q) x*_+_=(g:Rat)*EV (eX Q) x*_
  grind
 | @more F G R Q T S rows g0 gl s0 t0 r0 rl lr lq e hr ih =>
  intro P g hp lP _ lF lG hl
  obtain⟨dG,dR,drs⟩:=ih hp lP r0 (by walk_at"o") (by walk_at"o") hl
  obtain⟨A,lA,eA⟩:=id dG
  obtain⟨B,lB,eB⟩:=id dR
  have gp:=List.length_pos_iff.mpr g0
  have hC:∀ k,nz (lz F.length fun k=>pz (nz Q) (nz A) Q.length k+T*nz B k) k=pz (nz Q) (nz A) Q.length k+T*nz B k:=fun k=>by
   by_cases z:k<F.length
   ·exact AR z
   ·rw[aW (by rw[nV];walk_at"o"),aW (ns:=B) (by walk_at"o")]
    have:pz (nz Q) (nz A) Q.length k=0:=by
     refine (Rat.intCast_inj.mp ?_)
     rw[gL]
     exact fR (bZ A) Q.length k (by walk_at"o")
    rw[this]
    walk_at"o"
  have eC:∀ x,aU (lz F.length fun k=>pz (nz Q) (nz A) Q.length k+T*nz B k) x=aU Q x*aU A x+(T:Rat)*aU B x:=fun x=>by
   have:=kK (F:=lz F.length fun k=>pz (nz Q) (nz A) Q.length k+T*nz B k) (Q:=Q) (G:=A) (R:=B) (S:=1) (T:=T) (by walk_at"o") (fun k=>by rw[hC k];walk_at"o") x
   have c1:((1:Int):Rat)=1:=rfl
   rw[c1,Rat.one_mul] at this
   exact this
  refine⟨m6 (C:=lz F.length fun k=>pz (nz Q) (nz A) Q.length k+T*nz B k) hp s0 (by rw[nV];walk_at"o") lF lP fun x=>?_,dG,fun row gm=>?_⟩
  ·have:=kK (show Q.length+G.length<=20 by walk_at"o") e x
   rw[eC]
   show (S:Rat)*EV (eX F) x=_
   rw[this]
   have z1:=eA x
   have z2:=eB x
   unfold aU at *
   grind
  ·rcases List.mem_cons.mp gm with rfl|z
   ·exact dR
   ·exact drs row z
def vZ(l:Rat->Rat)(a b:Int):List (List Int × List Int × Int × Int)->List (List Int)->Prop
 | [],hs=>hs=[]
 | row :: rows,[]=>False
 | row :: rows,h :: hs=>h.length<=9/\(∀ x,((-a*row.2.2.1.sign*row.2.2.2.sign:Int):Rat)*aU row.1 x=aU h x*l x)/\vZ l b (-a*row.2.2.1.sign*row.2.2.2.sign) rows hs
theorem dN{n:Int}(h:n ≠ 0):n.sign=1/\0<n\/n.sign = -1/\n<0:=by
 rcases Int.lt_trichotomy n 0 with z|z|z
 ·exact .inr ⟨Int.sign_eq_neg_one_of_neg z,z⟩
 ·exact absurd z h
 ·exact .inl ⟨Int.sign_eq_one_of_pos z,z⟩
theorem m9.ch{R:Rat}(R0:0<=R) {l:Rat->Rat}(pl:Py l)(l0:∃ x,l x ≠ 0) {F G:List Int}{rows:List (List Int × List Int × Int × Int)}(h:m9 F G rows):∀ {a b g:Int}{hF hG:List Int}{hs:List (List Int)},(a=1\/a = -1)->(b=1\/b = -1)->g ≠ 0->G ≠ []->F.length<=9->G.length<=F.length->hF.length<=9->hG.length<=9->(∀ x,(a:Rat)*aU F x=aU hF x*l x)->(∀ x,(b:Rat)*aU G x=aU hG x*l x)->vZ l a b rows hs->(∀ x,aU (gn G rows) x=(g:Rat)*l x)->Ch R (aU hF) (aU hG :: hs.map aU):=by
 have can:∀ {f:Rat->Rat},Py f->(∀ x,f x*l x=0) -> ∀ x,f x=0:=fun hf e=>Py.zero hf pl e l0
 induction h with
 | nought=>intro a b g hF hG hs _ _ _ z;exact absurd rfl z
 | @last F G Q S g0 gl s0 lq e =>
  intro a b g hF hG hs ha hb hg _ lF lG l1 l2 eF eG hh hl
  have hh:hs=[]:=hh
  subst hh
  have hl:∀ x,aU G x=(g:Rat)*l x:=hl
  have c:∀ x,aU hG x=((b*g:Int):Rat):=fun x=>by
   have:=can (f:=fun x=>aU hG x - ((b*g:Int):Rat)) ((fe (by walk_at"o")).sub (.const _)) (fun x=>by
    have:=eG x
    rw[hl x] at this
    rw[Rat.intCast_mul]
    grind) x
   grind
  refine .two ((fe (by walk_at"o")).lip R0) (.one (c:=((b*g:Int):Rat)) (az (Int.mul_ne_zero (by walk_at"o") hg)) c)
 | @more F G R' Q T S rows g0 gl s0 t0 r0 rl lr lq e hr ih =>
  intro a b g hF hG hs ha hb hg _ lF lG l1 l2 eF eG hh hl
  cases hs with
  | nil=>exact absurd hh (by simp[vZ])
  | cons hR hs =>
   obtain⟨l3,eR,hh⟩:=hh
   obtain⟨m,hm⟩ : ∃ m,m = -a*T.sign*S.sign:=⟨_,rfl⟩
   have hm':m=1\/m = -1:=by
    rw[hm]
    rcases dN t0 with ⟨z,_⟩|⟨z,_⟩ <;> rcases dN s0 with ⟨y,_⟩|⟨y,_⟩ <;> rcases ha with x|x <;> rw[x,y,z] <;> decide
   have eR:∀ x,(m:Rat)*aU R' x=aU hR x*l x:=by rw[hm];exact eR
   have hh:vZ l b m rows hs:=by rw[hm];exact hh
   have tail:=ih hb hm' hg r0 (by walk_at"o") (by walk_at"o") l2 l3 eG eR hh hl
   show Ch R (aU hF) (aU hG :: aU hR :: hs.map aU)
   have rs:=kK (show Q.length+G.length<=20 by walk_at"o") e
   have s1:(S:Rat)*((S.sign:Int):Rat)=((S.natAbs:Int):Rat):=by
    rw[<- Rat.intCast_mul]
    rcases dN s0 with ⟨z,y⟩|⟨z,y⟩ <;> rw[z] <;> congr 1 <;> walk_at"o"
   have t1:(T:Rat)*((S.sign:Int):Rat)*(a:Rat) = -(((T.natAbs:Int):Rat)*(m:Rat)):=by
    rw[<- Rat.intCast_mul,<- Rat.intCast_mul,<- Rat.intCast_mul,<- Rat.intCast_neg]
    congr 1
    rw[hm]
    rcases dN s0 with ⟨z,y⟩|⟨z,y⟩ <;> rcases dN t0 with ⟨z2,y2⟩|⟨z2,y2⟩ <;> rcases ha with x|x <;> rw[x,z,z2] <;> walk_at"o"
   have b1:(b:Rat)*(b:Rat)=1:=by rcases hb with x|x <;> rw[x] <;> decide +kernel
   refine .more (q:=fun x=>((S.sign*a*b:Int):Rat)*aU Q x) (a:=((S.natAbs:Int):Rat)) (b:=((T.natAbs:Int):Rat)) ((fe (by walk_at"o")).lip R0) (((fe (by walk_at"o")).sc _).bdd R0) (Rat.intCast_pos.mpr (by walk_at"o")) (Rat.intCast_pos.mpr (by walk_at"o")) (fun x=>?_) tail
   have:=can (f:=fun x=>((S.natAbs:Int):Rat)*aU hF x - ((S.sign*a*b:Int):Rat)*aU Q x*aU hG x+((T.natAbs:Int):Rat)*aU hR x) ((((fe (by walk_at"o")).sc _).sub (((fe (by walk_at"o")).sc _).mul (fe (by walk_at"o")))).add ((fe (by walk_at"o")).sc _)) (fun x=>?_) x
   ·grind
   have z1:=eF x
   have z2:=eG x
   have z3:=eR x
   have z4:(S:Rat)*aU F x=aU Q x*aU G x+(T:Rat)*aU R' x:=rs x
   rw[Rat.intCast_mul,Rat.intCast_mul]
   obtain⟨A,hA⟩ : ∃ A:Rat,A=(a:Rat):=⟨_,rfl⟩
   obtain⟨B,hB⟩ : ∃ B:Rat,B=(b:Rat):=⟨_,rfl⟩
   rw[<- hA] at z1 t1 ⊢
   rw[<- hB] at z2 b1 ⊢
   generalize ((S.natAbs:Int):Rat)=sa at s1 ⊢
   generalize ((T.natAbs:Int):Rat)=ta at t1 ⊢
   generalize ((S.sign:Int):Rat)=ss at s1 t1 ⊢
   have e1:sa*aU hF x*l x=(S:Rat)*ss*A*aU F x:=by rw[s1];grind
   have e2:ss*A*B*aU Q x*aU hG x*l x=ss*A*aU Q x*aU G x:=by
    have:aU hG x*l x=B*aU G x:=z2.symm
    grind
   have e3:ta*aU hR x*l x = -((T:Rat)*ss*A)*aU R' x:=by rw[t1];grind
   grind
end L2
namespace L2
open PySem PySem.Spec PyProof.Rows
theorem ui(x:Rat):∀ F:List Int,d4 (F.map fun n:Int=>(n:Rat)) x=sk F x
 | []=>rfl
 | a :: F=>by show (a:Rat)+x*_=(a:Rat)+x*_;rw[ui x F]
theorem yu{F:List Int}(h:F.length<=20)(x:Rat):aU F x=sk F x:=by
 unfold aU
 rw[ff (bZ F) h,vR,<- ui]
 congr 1
 refine List.ext_getElem (by simp) fun i h1 h2=>?_
 rw[List.getElem_map,List.getElem_map,List.getElem_range]
 show ((nz F i:Int):Rat)=_
 rw[bC (List.getElem?_eq_getElem (by simpa using h1))]
def dH(side:Int)(F:List Int):Int:=if F.length % 2=1 then (nz F (F.length - 1)).sign else side*(nz F (F.length - 1)).sign
theorem wE:∀ F:List Int,F ≠ []->nz F (F.length - 1) ≠ 0 -> ∃ R c:Rat,0<R/\0<c/\(∀ x,R<=x->c<=((dH 1 F:Int):Rat)*sk F x) /\ ∀ x,x <= -R->c<=((dH (-1) F:Int):Rat)*sk F x
 | [],h,_=>absurd rfl h
 | [a],_,h=>by
  have h:a ≠ 0:=h
  have e:∀ s,dH s [a]=a.sign:=fun s=>rfl
  have k:∀ x,(1:Rat)<=((a.sign:Int):Rat)*sk [a] x:=fun x=>by
   show (1:Rat)<=((a.sign:Int):Rat)*((a:Rat)+x*0)
   have z:((a.sign:Int):Rat)*(a:Rat)=((a.sign*a:Int):Rat):=by rw[Rat.intCast_mul]
   have y:(1:Int)<=a.sign*a:=by rcases dN h with ⟨q,r⟩|⟨q,r⟩ <;> rw[q] <;> walk_at"o"
   have:((1:Int):Rat)<=((a.sign*a:Int):Rat):=Rat.intCast_le_intCast.mpr y
   have c1:((1:Int):Rat)=1:=rfl
   grind
  exact⟨1,1,by decide,by decide,fun x _=>by rw[e];exact k x,fun x _=>by rw[e];exact k x⟩
 | a :: b :: F,_,h=>by
  have ld:nz (a :: b :: F) ((a :: b :: F).length - 1)=nz (b :: F) ((b :: F).length - 1):=by
   simp only[List.length_cons,Nat.add_sub_cancel]
   rfl
  rw[ld] at h
  obtain⟨R,c,R0,c0,h1,h2⟩:=wE (b :: F) (by simp) h
  obtain⟨t,t0,ht⟩:=gw.const (R:=0) (a:Rat)
  have ht:=ht 0 (by unfold Wi;grind)
  have tc:0<t / c:=by rw[Rat.lt_div_iff c0];grind
  have tcc:t / c*c=t:=by grind
  have s1:dH 1 (a :: b :: F)=dH 1 (b :: F):=by
   unfold dH
   rw[ld,Int.one_mul]
   split <;> split <;> rfl
  have s2:dH (-1) (a :: b :: F) = -dH (-1) (b :: F):=by
   unfold dH
   rw[ld]
   simp only[List.length_cons]
   by_cases z:(F.length+1) % 2=1
   ·rw[if_pos z,if_neg (by walk_at"o")];walk_at"o"
   ·rw[if_neg z,if_pos (by walk_at"o")];walk_at"o"
  have sm:∀ s:Int,(s=1\/s = -1)->Sm t ((s:Rat)*(a:Rat)):=fun s hs=>by
   have c1:((1:Int):Rat)=1:=rfl
   have c2:((-1:Int):Rat) = -1:=rfl
   unfold Sm at *
   rcases hs with z|z
   ·rw[z,c1];grind
   ·rw[z,c2];grind
  have pm:∀ s:Int,(s=1\/s = -1)->dH s (b :: F)=1\/dH s (b :: F) = -1:=fun s hs=>by
   unfold dH
   rcases dN h with ⟨z,_⟩|⟨z,_⟩ <;> rw[z] <;> rcases hs with y|y <;> rw[y] <;> split <;> walk_at"o"
  refine⟨R+1+t / c,c,by grind,c0,fun x hx=>?_,fun x hx=>?_⟩
  ·rw[s1]
   show c<=_*((a:Rat)+x*sk (b :: F) x)
   have k:=h1 x (by grind)
   have m:=Rat.mul_nonneg (show 0<=x by grind) (show 0<=((dH 1 (b :: F):Int):Rat)*sk (b :: F) x - c by grind)
   have m2:=Rat.mul_nonneg (Rat.le_of_lt c0) (show 0<=x - (1+t / c) by grind)
   have s:=sm _ (pm 1 (.inl rfl))
   unfold Sm at s
   grind
  ·rw[s2,Rat.intCast_neg]
   show c<=_*((a:Rat)+x*sk (b :: F) x)
   have k:=h2 x (by grind)
   have m:=Rat.mul_nonneg (show 0 <= -x by grind) (show 0<=((dH (-1) (b :: F):Int):Rat)*sk (b :: F) x - c by grind)
   have m2:=Rat.mul_nonneg (Rat.le_of_lt c0) (show 0 <= -x - (1+t / c) by grind)
   have s:=sm _ (pm (-1) (.inr rfl))
   unfold Sm at s
   grind
theorem yg{F:List Int}{s:Int}(h:nz F (F.length - 1) ≠ 0)(hs:s=1\/s = -1):dH s F=1\/dH s F = -1:=by
 unfold dH
 rcases dN h with ⟨z,_⟩|⟨z,_⟩ <;> rw[z] <;> rcases hs with y|y <;> rw[y] <;> split <;> walk_at"o"
theorem yn{s:Int}{y c:Rat}(hs:s=1\/s = -1)(c0:0<c)(h:c<=(s:Rat)*y):sg y=s:=by
 have c1:((1:Int):Rat)=1:=rfl
 have c2:((-1:Int):Rat) = -1:=rfl
 rcases hs with z|z
 ·rw[z,c1] at h
  rw[z,dz (by grind)]
 ·rw[z,c2] at h
  rw[z,eZ (by grind)]
theorem tN:∀ hs:List (List Int),(∀ F ∈ hs,F ≠ []/\F.length<=20/\nz F (F.length - 1) ≠ 0) -> ∃ R:Rat,0<R /\ ∀ x,R<=x->hs.map (dH 1)=qt x (hs.map aU)/\hs.map (dH (-1))=qt (-x) (hs.map aU)
 | [],_=>⟨1,by decide,fun _ _=>⟨rfl,rfl⟩⟩
 | F :: hs,h=>by
  obtain⟨R,R0,k⟩:=tN hs fun G hG=>h G (List.mem_cons_of_mem _ hG)
  obtain⟨f0,fl,fz⟩:=h F List.mem_cons_self
  obtain⟨R',c,R1,c0,h1,h2⟩:=wE F f0 fz
  refine⟨R+R',by grind,fun x hx=>?_⟩
  obtain⟨k1,k2⟩:=k x (by grind)
  have e1:=yn (yg fz (.inl rfl)) c0 (h1 x (by grind))
  have e2:=yn (yg fz (.inr rfl)) c0 (h2 (-x) (by grind))
  rw[<- yu fl] at e1 e2
  exact⟨by show dH 1 F :: _=sg (aU F x) :: _;rw[k1,e1];rfl,by show dH (-1) F :: _=sg (aU F (-x)) :: _;rw[k2,e2];rfl⟩
def bV.tot:bV->Nat
 | .line _=>1
 | .root _=>2
 | .none _=>0
def AV:List (bV × Nat)->Nat
 | []=>0
 | q :: l=>q.1.tot+AV l
theorem bV.out(q:bV)(h:q.ok):∃ R:Rat,0<R /\ ∀ x,R<=x->q.A x=q.tot/\q.A (-x)=0:=by
 cases q with
 | none n=>exact⟨1,by decide,fun _ _=>⟨rfl,rfl⟩⟩
 | line r =>
  obtain⟨t,t0,ht⟩:=gw.const (R:=0) r
  have ht:=ht 0 (by unfold Wi;grind)
  refine⟨t+1,by grind,fun x hx=>⟨if_pos ?_,if_neg ?_⟩⟩ <;> (unfold Sm at ht;grind)
 | root n =>
  obtain⟨n0,_⟩:=h
  refine⟨n+1,by grind,fun x hx=>?_⟩
  have m:=Rat.mul_nonneg (show 0<=x - (n+1) by grind) (show 0<=x by grind)
  have m2:=Rat.mul_nonneg (Rat.le_of_lt n0) (show 0<=x by grind)
  refine⟨?_,?_⟩
  ·show (if x*x<n then 1 else if x<0 then 0 else 2)=2
   rw[if_neg (by grind),if_neg (show ¬ x<0 by grind)]
  ·show (if -x * -x<n then 1 else if -x<0 then 0 else 2)=0
   rw[if_neg (by grind),if_pos (show -x<0 by grind)]
theorem uf:∀ l:List (bV × Nat),(∀ q ∈ l,q.1.ok/\1<=q.2) -> ∃ R:Rat,0<R /\ ∀ x,R<=x->iU l x=AV l/\iU l (-x)=0
 | [],_=>⟨1,by decide,fun _ _=>⟨rfl,rfl⟩⟩
 | q :: l,h=>by
  obtain⟨R,R0,k⟩:=uf l fun p hp=>h p (List.mem_cons_of_mem _ hp)
  obtain⟨R',R1,k'⟩:=q.1.out (h q List.mem_cons_self).1
  refine⟨R+R',by grind,fun x hx=>?_⟩
  obtain⟨a,b⟩:=k x (by grind)
  obtain⟨a',b'⟩:=k' x (by grind)
  exact⟨by show q.1.A x+iU l x=q.1.tot+AV l;rw[a,a'],by show q.1.A (-x)+iU l (-x)=0;rw[b,b']⟩
def i0(side:Int)(e:Option Rat)(hs:List (List Int)):List Int:=match e with
 | none=>hs.map (dH side)
 | some x=>qt x (hs.map aU)
def wD(l:List (bV × Nat)):Option Rat->Nat
 | none=>0
 | some x=>iU l x
def pV(l:List (bV × Nat)):Option Rat->Nat
 | none=>AV l
 | some x=>iU l x
theorem rf{l:List (bV × Nat)}{h0 h1:List Int}{hs:List (List Int)}{κ:Rat}(ch:∀ R:Rat,0<=R->Ch R (aU h0) (aU h1 :: hs.map aU))(ok:∀ q ∈ l,q.1.ok/\1<=q.2)(un:l.Pairwise fun a b=>a.1 ≠ b.1)(k0:0<κ)(id:∀ x,κ*(aU h1 x*gU l x)=aU h0 x*md l x)(nz0:∀ F ∈ h0 :: h1 :: hs,F ≠ []/\F.length<=20/\nz F (F.length - 1) ≠ 0) {lo hi:Option Rat}(lt:∀ a b,lo=some a->hi=some b->a<=b):chg 0 (i0 (-1) lo (h0 :: h1 :: hs))+wD l lo=chg 0 (i0 1 hi (h0 :: h1 :: hs))+pV l hi:=by
 obtain⟨R1,p1,f1⟩:=tN _ nz0
 obtain⟨R2,p2,f2⟩:=uf l ok
 obtain⟨A,A0,hA⟩:=gw.const (R:=0) (lo.getD 0)
 obtain⟨B,B0,hB⟩:=gw.const (R:=0) (hi.getD 0)
 have hA:=hA 0 (by unfold Wi;grind)
 have hB:=hB 0 (by unfold Wi;grind)
 obtain⟨R,hR⟩ : ∃ R,R=R1+R2+A+B:=⟨_,rfl⟩
 have lg:sU R (aU h1):=(fe (nz0 h1 (by simp)).2.1).lip (by grind)
 have key:∀ a b:Rat,Wi R a->Wi R b->a<=b->Vr a (aU h0 :: aU h1 :: hs.map aU)+iU l a=Vr b (aU h0 :: aU h1 :: hs.map aU)+iU l b:=fun a b wa wb ab=>Ch.roots (by grind) (ch R (by grind)) ok un lg k0 id wa wb ab
 obtain⟨q1,q2⟩:=f1 R (by grind)
 obtain⟨q3,q4⟩:=f2 R (by grind)
 have e1:∃ a,Wi R a/\chg 0 (i0 (-1) lo (h0 :: h1 :: hs))=Vr a (aU h0 :: aU h1 :: hs.map aU)/\wD l lo=iU l a/\(lo=none->a = -R) /\ ∀ x,lo=some x->a=x:=by
  cases lo with
  | none=>exact⟨-R,by unfold Wi;grind,by show chg 0 (_)=chg 0 _;rw[show i0 (-1) none (h0 :: h1 :: hs)=(h0 :: h1 :: hs).map (dH (-1)) from rfl,q2];rfl,q4.symm,fun _=>rfl,fun x z=>by cases z⟩
  | some x=>exact⟨x,by have hA:Sm A x:=hA;unfold Sm at hA;unfold Wi;grind,rfl,rfl,(fun z=>by cases z),(fun y z=>by cases z;rfl)⟩
 have e2:∃ b,Wi R b/\chg 0 (i0 1 hi (h0 :: h1 :: hs))=Vr b (aU h0 :: aU h1 :: hs.map aU)/\pV l hi=iU l b/\(hi=none->b=R) /\ ∀ x,hi=some x->b=x:=by
  cases hi with
  | none=>exact⟨R,by unfold Wi;grind,by show chg 0 (_)=chg 0 _;rw[show i0 1 none (h0 :: h1 :: hs)=(h0 :: h1 :: hs).map (dH 1) from rfl,q1];rfl,q3.symm,fun _=>rfl,fun x z=>by cases z⟩
  | some x=>exact⟨x,by have hB:Sm B x:=hB;unfold Sm at hB;unfold Wi;grind,rfl,rfl,(fun z=>by cases z),(fun y z=>by cases z;rfl)⟩
 obtain⟨a,wa,x1,x2,x3,x4⟩:=e1
 obtain⟨b,wb,y1,y2,y3,y4⟩:=e2
 rw[x1,x2,y1,y2]
 refine key a b wa wb ?_
 cases lo with
 | none=>rw[x3 rfl];exact wb.1
 | some u =>
  cases hi with
  | none=>rw[y3 rfl];exact wa.2
  | some v=>rw[x4 u rfl,y4 v rfl];exact lt u v rfl rfl
def iX:List (bV × Nat)->Rat->Rat
 | [],_=>1
 | q :: l,x=>gM (q.1.p x) q.2*iX l x
def bV.deg:bV->Nat
 | .line _=>1
 | .root _=>2
 | .none _=>2
def eO:List (bV × Nat)->Nat
 | []=>0
 | q :: l=>q.2*q.1.deg+eO l
def Dr(n:Nat)(f f':Rat->Rat):Prop:=∃ u:Nat->Rat,Bd (n+1) u/\(∀ x,EV u x=f x) /\ ∀ x,EV (DF u) x=f' x
theorem Dr.mul{m n:Nat}{f f' g g':Rat->Rat}(h:Dr m f f')(k:Dr n g g')(l:m+n<=17):Dr (m+n) (fun x=>f x*g x) (fun x=>f' x*g x+f x*g' x):=by
 obtain⟨u,bu,e1,e2⟩:=h
 obtain⟨v,bv,e3,e4⟩:=k
 have ev:∀ x,EV (fun k=>pr u v (m+1) k) x=EV u x*EV v x:=fun x=>CD bu bv (by walk_at"o") x
 refine⟨fun k=>pr u v (m+1) k,fun i hi=>fR bv _ _ (by walk_at"o"),fun x=>by rw[ev,e1,e3],fun x=>?_⟩
 rw[vT bv (m+1) u (fun k=>pr u v (m+1) k) bu (by walk_at"o") (fun i hi=>fR bv _ _ (by walk_at"o")) ev x,e1,e2,e3,e4]
theorem Dr.const(c:Rat):Dr 0 (fun _=>c) (fun _=>0):=by
 refine⟨fun k=>if k=0 then c else 0,fun i hi=>if_neg (by walk_at"o"),fun x=>?_,fun x=>?_⟩
 ·rw[ff (n:=1) (fun k hk=>if_neg (by walk_at"o")) (by decide)]
  show 0+c*1=c
  grind
 ·refine j8 (fun i=>?_) x
  show _*(if i+1=0 then c else 0)=(0:Rat)
  rw[if_neg (by walk_at"o")]
  grind
theorem Dr.quad(a b c:Rat):Dr 2 (fun x=>a+b*x+c*(x*x)) (fun x=>b+2*c*x):=by
 have p1:∀ x:Rat,cm x 1=x:=fun x=>by show 1*x=x;grind
 have p2:∀ x:Rat,cm x 2=x*x:=fun x=>by show 1*x*x=x*x;grind
 refine⟨fun k=>if k=0 then a else if k=1 then b else if k=2 then c else 0,fun i hi=>by show (if i=0 then a else if i=1 then b else if i=2 then c else 0)=0;rw[if_neg (by walk_at"o"),if_neg (by walk_at"o"),if_neg (by walk_at"o")],fun x=>?_,fun x=>?_⟩
 ·rw[ff (n:=3) (fun i hi=>by show (if i=0 then a else if i=1 then b else if i=2 then c else 0)=0;rw[if_neg (by walk_at"o"),if_neg (by walk_at"o"),if_neg (by walk_at"o")]) (by decide)]
  show ((0+a*cm x 0)+b*cm x 1)+c*cm x 2=_
  rw[p1,p2]
  show ((0+a*1)+b*x)+c*(x*x)=_
  grind
 ·rw[ff (n:=2) (fun i hi=>by show _*(if i+1=0 then a else if i+1=1 then b else if i+1=2 then c else 0)=(0:Rat);rw[if_neg (by walk_at"o"),if_neg (by walk_at"o"),if_neg (by walk_at"o")];grind) (by decide)]
  show (0+(((0+1:Nat):Int):Rat)*b*cm x 0)+(((1+1:Nat):Int):Rat)*c*cm x 1=_
  rw[p1]
  show (0+1*b*1)+2*c*x=_
  grind
theorem Dr.congr{n:Nat}{f f' g g':Rat->Rat}(h:Dr n f f')(e:∀ x,g x=f x)(e':∀ x,g' x=f' x):Dr n g g':=by
 obtain⟨u,b,e1,e2⟩:=h
 exact⟨u,b,fun x=>(e1 x).trans (e x).symm,fun x=>(e2 x).trans (e' x).symm⟩
theorem Dr.up{m n:Nat}{f f':Rat->Rat}(h:Dr m f f')(l:m<=n):Dr n f f':=by
 obtain⟨u,b,e⟩:=h
 exact⟨u,b.mono (by walk_at"o"),e⟩
theorem bV.dr(q:bV):Dr q.deg q.p q.d:=by
 cases q with
 | line r =>
  obtain⟨u,bu,e1,e2⟩:=Dr.quad (-r) 1 0
  refine⟨u,?_,fun x=>?_,fun x=>?_⟩
  ·intro i hi
   have:=lI (f:=u) (g:=fun k=>if k=0 then -r else if k=1 then 1 else 0) (bu.mono (by decide)) (fun i hi=>by show (if i=0 then -r else if i=1 then 1 else 0)=0;rw[if_neg (by walk_at"o"),if_neg (by walk_at"o")]) (fun x=>?_) i
   ·have hi:2<=i:=hi
    rw[this,if_neg (by walk_at"o"),if_neg (by walk_at"o")]
   ·rw[e1,ff (n:=2) (fun i hi=>by show (if i=0 then -r else if i=1 then 1 else 0)=0;rw[if_neg (by walk_at"o"),if_neg (by walk_at"o")]) (by decide)]
    show _=(0 + -r*1)+1*(1*x)
    grind
  ·rw[e1];show _=x - r;grind
  ·rw[e2];show _=(1:Rat);grind
 | root n=>exact (Dr.quad (-n) 0 1).congr (fun x=>by show x*x - n=_;grind) fun x=>by show 2*x=_;grind
 | none n=>exact (Dr.quad n 0 1).congr (fun x=>by show x*x+n=_;grind) fun x=>by show 2*x=_;grind
theorem bV.drp(q:bV):∀ k:Nat,k*q.deg<=17 -> ∃ f',Dr (k*q.deg) (fun x=>gM (q.p x) k) f' /\ ∀ x,f' x*q.p x=((k:Nat):Rat)*q.d x*gM (q.p x) k
 | 0,_=>⟨fun _=>0,(Dr.const 1).up (by walk_at"o"),fun x=>by show 0*q.p x=((0:Nat):Rat)*_*_;rw[show ((0:Nat):Rat)=0 from rfl];grind⟩
 | k+1,h=>by
  have hk:(k+1)*q.deg=q.deg+k*q.deg:=by rw[Nat.add_mul];walk_at"o"
  obtain⟨f',d,e⟩:=bV.drp q k (by walk_at"o")
  refine⟨_,hk ▸ (q.dr.mul d (by walk_at"o")),fun x=>?_⟩
  have:=e x
  show (q.d x*gM (q.p x) k+q.p x*f' x)*q.p x=((k+1:Nat):Rat)*q.d x*(q.p x*gM (q.p x) k)
  rw[Rat.natCast_add,show ((1:Nat):Rat)=1 from rfl]
  grind
theorem vQ:∀ l:List (bV × Nat),eO l<=17 -> ∃ f',Dr (eO l) (iX l) f' /\ ∀ x,f' x*gU l x=iX l x*md l x
 | [],_=>⟨fun _=>0,Dr.const 1,fun x=>by show 0*1=1*(0:Rat);grind⟩
 | q :: l,h=>by
  have h:q.2*q.1.deg+eO l<=17:=h
  obtain⟨f',d,e⟩:=vQ l (by walk_at"o")
  obtain⟨g',d2,e2⟩:=q.1.drp q.2 (by walk_at"o")
  refine⟨_,d2.mul d h,fun x=>?_⟩
  have a:=e x
  have b:=e2 x
  show (g' x*iX l x+gM (q.1.p x) q.2*f' x)*(q.1.p x*gU l x)=gM (q.1.p x) q.2*iX l x*(((q.2:Nat):Rat)*q.1.d x*gU l x+q.1.p x*md l x)
  have c1:g' x*iX l x*(q.1.p x*gU l x)=(g' x*q.1.p x)*(iX l x*gU l x):=by grind
  have c2:gM (q.1.p x) q.2*f' x*(q.1.p x*gU l x)=gM (q.1.p x) q.2*q.1.p x*(f' x*gU l x):=by grind
  rw[Rat.add_mul,c1,c2,a,b]
  grind
theorem wH{l:List (bV × Nat)}{W D:List Int}{c:Rat}(dl:eO l<=17)(lW:W.length<=9)(hD:∀ k,nz D k=((k+1:Nat):Int)*nz W (k+1))(e:∀ x,aU W x=c*iX l x)(x:Rat):aU D x*gU l x=aU W x*md l x:=by
 obtain⟨f',⟨u,bu,e1,e2⟩,e3⟩:=vQ l dl
 have eu:∀ k,eX W k=(fun k=>0+c*u k) k:=lI ((bZ W).mono (by walk_at"o")) (fun i hi=>by show 0+c*u i=0;rw[bu i (by walk_at"o")];grind) fun x=>by
  rw[i7,j8 (f:=fun _=>0) fun _=>rfl,e1]
  show aU W x=_
  rw[e x]
  grind
 have ed:∀ k,eX D k=(fun k=>0+c*DF u k) k:=fun k=>by
  show ((nz D k:Int):Rat)=0+c*((((k+1:Nat):Int):Rat)*u (k+1))
  rw[hD k,Rat.intCast_mul]
  have:=eu (k+1)
  have this:((nz W (k+1):Int):Rat)=0+c*u (k+1):=this
  rw[this]
  grind
 have w:aU D x=c*f' x:=by
  unfold aU
  rw[eT ed x,i7,j8 (f:=fun _=>0) fun _=>rfl,e2]
  grind
 have:=e3 x
 rw[w,e x]
 grind
end L2
namespace L2
open PySem PySem.Spec PyProof.Rows
def As(ms ns:List Int):Prop:=∃ Q:List Int,∀ k,nz ms k=pz (nz Q) (nz ns) Q.length k
theorem uU{ms qs rs ns:List Int}{n p:Nat}(ln:0<ns.length)(lr:rs.length=p+ns.length)(lq:qs.length=n)(e:∀ k,nz ms k=pz (nz qs) (nz ns) n k+nz rs k)(h0:nz ns (ns.length - 1) ≠ 0)(ex:As ms ns):nz ns (ns.length - 1) ∣ nz rs (p+(ns.length - 1)):=by
 obtain⟨Q,eQ⟩:=ex
 have key:∀ k,pr (fun i=>eX Q i - eX qs i) (eX ns) (Q.length+n) k=eX rs k:=fun k=>by
  rw[rK,jj (bZ Q),Nat.add_comm,jj (fun i hi=>bZ qs i (by walk_at"o"))]
  have e1:((nz ms k:Int):Rat)=((pz (nz Q) (nz ns) Q.length k:Int):Rat):=by rw[eQ k]
  have e2:((nz ms k:Int):Rat)=((pz (nz qs) (nz ns) n k+nz rs k:Int):Rat):=by rw[e k]
  rw[Rat.intCast_add,gL] at e2
  rw[gL] at e1
  show pr (fun i=>((nz Q i:Int):Rat)) (fun i=>((nz ns i:Int):Rat)) Q.length k - pr (fun i=>((nz qs i:Int):Rat)) (fun i=>((nz ns i:Int):Rat)) n k=((nz rs k:Int):Rat)
  grind
 have bd:Bd (Q.length+n) (fun i=>eX Q i - eX qs i):=fun i hi=>by
  show eX Q i - eX qs i=0
  rw[bZ Q i (by walk_at"o"),bZ qs i (by walk_at"o")]
  grind
 have hg:∀ j,ns.length - 1<j->eX ns j=0:=fun j hj=>bZ ns j (by walk_at"o")
 have l0:eX ns (ns.length - 1) ≠ 0:=az h0
 have fin:(∀ j,p<j->eX Q j - eX qs j=0)->nz ns (ns.length - 1) ∣ nz rs (p+(ns.length - 1)):=fun hp=>by
  have a:=lQ hg hp (Q.length+n)
  rw[key] at a
  by_cases z:p<Q.length+n
  ·rw[if_pos z] at a
   refine⟨nz Q p - nz qs p,Rat.intCast_inj.mp ?_⟩
   rw[Rat.intCast_mul,Rat.intCast_sub]
   show eX rs (p+(ns.length - 1))=eX ns (ns.length - 1)*(eX Q p - eX qs p)
   rw[a]
   grind
  ·rw[if_neg z] at a
   refine⟨0,Rat.intCast_inj.mp ?_⟩
   rw[Int.mul_zero]
   exact a
 rcases Bd.tp bd with z|⟨t,ht,tz,tb⟩
 ·exact fin fun j _=>z j
 ·have tb:∀ j,t<j->eX Q j - eX qs j=0:=fun j hj=>tb j (by walk_at"o")
  have a:=lQ hg tb (Q.length+n)
  rw[key,if_pos ht] at a
  have tp:t<=p:=Nat.le_of_not_lt fun y=>by
   rw[bZ rs _ (by walk_at"o")] at a
   rcases Rat.mul_eq_zero.mp a.symm with w|w
   ·exact tz w
   ·exact l0 w
  exact fin fun j hj=>tb j (by walk_at"o")
theorem BC{s:Rat}{N:Int}(h:s*s=(N:Rat)):∃ k:Int,k*k=N:=by
 have d0:((s.den:Int):Rat) ≠ 0:=az (by have:=s.den_pos;walk_at"o")
 have e:((s.num:Int):Rat)=s*((s.den:Int):Rat):=by
  have:=Rat.num_divInt_den s
  rw[Rat.divInt_eq_div] at this
  have z:(s.num:Rat) / ((s.den:Int):Rat)=s:=this
  grind
 have e2:((s.num*s.num:Int):Rat)=((N*(s.den*s.den):Int):Rat):=by
  rw[Rat.intCast_mul,Rat.intCast_mul,Rat.intCast_mul,e]
  grind
 have e3:s.num*s.num=N*(s.den*s.den):=Rat.intCast_inj.mp e2
 have dv:s.den ∣ s.num.natAbs*s.num.natAbs:=by
  rw[<- Int.natAbs_mul,e3]
  refine⟨N.natAbs*s.den,?_⟩
  rw[Int.natAbs_mul,Int.natAbs_mul,Int.natAbs_natCast]
  rw[Nat.mul_left_comm]
 have co:Nat.Coprime s.den s.num.natAbs:=s.reduced.symm
 have d1:=co.dvd_of_dvd_mul_left dv
 have:s.den ∣ 1:=by
  have:=Nat.dvd_gcd (Nat.dvd_refl s.den) d1
  rwa [show Nat.gcd s.den s.num.natAbs=1 from co] at this
 have one:s.den=1:=Nat.dvd_one.mp this
 rw[one] at e3
 exact⟨s.num,by walk_at"o"⟩
theorem kW{u v:Int}(v0:v ≠ 0)(h:∀ k:Int,k*k ≠ u*v)(r:Rat):r*r ≠ (u:Rat) / (v:Rat):=fun e=>by
 have c:=az v0
 obtain⟨k,hk⟩:=BC (s:=(v:Rat)*r) (N:=u*v) (by rw[Rat.intCast_mul];grind)
 exact h k hk
theorem sC{N:Int}{b:Nat}(hN:N<(b:Int)*b)(h:∀ k:Nat,k<b->(k:Int)*k ≠ N)(k:Int):k*k ≠ N:=fun e=>by
 have e1:(k.natAbs:Int)*k.natAbs=N:=by rw[<- e];exact Int.natAbs_mul_self' k
 by_cases z:k.natAbs<b
 ·exact h _ z e1
 ·have:b*b<=k.natAbs*k.natAbs:=Nat.mul_le_mul (by walk_at"o") (by walk_at"o")
  have:((b*b:Nat):Int)<=((k.natAbs*k.natAbs:Nat):Int):=by walk_at"o"
  rw[Int.natCast_mul,Int.natCast_mul] at this
  walk_at"o"
def DX:List (Int × Int):=[(2,1),(3,1),(5,1),(6,1),(1,2),(7,4),(3,4)]
theorem wG{q:Int × Int}(h:q ∈ DX):0<wv q /\ ∀ r:Rat,r*r ≠ wv q:=by
 have pos:∀ {q:Int × Int},0<q.1->0<q.2->0<wv q:=fun {q} a b=>by
  unfold wv
  rw[Rat.lt_div_iff (Rat.intCast_pos.mpr b)]
  have:=Rat.intCast_pos.mpr a
  grind
 unfold DX at h
 simp only[List.mem_cons,List.not_mem_nil,or_false] at h
 rcases h with rfl|rfl|rfl|rfl|rfl|rfl|rfl
 ·exact⟨pos (by decide) (by decide),kW (by decide) (sC (b:=6) (by decide) (by decide))⟩
 ·exact⟨pos (by decide) (by decide),kW (by decide) (sC (b:=6) (by decide) (by decide))⟩
 ·exact⟨pos (by decide) (by decide),kW (by decide) (sC (b:=6) (by decide) (by decide))⟩
 ·exact⟨pos (by decide) (by decide),kW (by decide) (sC (b:=6) (by decide) (by decide))⟩
 ·exact⟨pos (by decide) (by decide),kW (by decide) (sC (b:=6) (by decide) (by decide))⟩
 ·exact⟨pos (by decide) (by decide),kW (by decide) (sC (b:=6) (by decide) (by decide))⟩
 ·exact⟨pos (by decide) (by decide),kW (by decide) (sC (b:=6) (by decide) (by decide))⟩
theorem tF{e:Rat}(a:Nat):∀ b,gM e (a+b)=gM e a*gM e b
 | 0=>by show gM e a=gM e a*1;grind
 | b+1=>by
  show e*gM e (a+b)=gM e a*(e*gM e b)
  rw[tF a b]
  grind
theorem wL{l l':List (bV × Nat)}(h:l.Perm l')(x:Rat):iX l x=iX l' x:=by
 induction h with
 | nil=>rfl
 | cons q _ ih=>show gM (q.1.p x) q.2*_=gM (q.1.p x) q.2*_;rw[ih]
 | swap a b l=>show gM (b.1.p x) b.2*(gM (a.1.p x) a.2*iX l x)=gM (a.1.p x) a.2*(gM (b.1.p x) b.2*iX l x);grind
 | trans _ _ h1 h2=>rw[h1,h2]
theorem uA{l l':List (bV × Nat)}(h:l.Perm l'):eO l=eO l':=by
 induction h with
 | nil=>rfl
 | cons q _ ih=>show q.2*q.1.deg+_=q.2*q.1.deg+_;rw[ih]
 | swap a b l=>show b.2*b.1.deg+(a.2*a.1.deg+eO l)=a.2*a.1.deg+(b.2*b.1.deg+eO l);walk_at"o"
 | trans _ _ h1 h2=>rw[h1,h2]
theorem pA:∀ es:List (bV × Nat),(∀ q ∈ es,q.1.ok/\1<=q.2) -> ∃ l:List (bV × Nat),(∀ q ∈ l,q.1.ok/\1<=q.2)/\l.Pairwise (fun a b=>a.1 ≠ b.1)/\(∀ x,iX es x=iX l x)/\eO l=eO es /\ ∀ f,(∃ m,(f,m) ∈ l) ↔ ∃ m,(f,m) ∈ es
 | [],_=>⟨[],by simp,.nil,fun _=>rfl,rfl,fun f=>by simp⟩
 | q :: es,h=>by
  obtain⟨l,ok,un,e,d,m⟩:=pA es fun p hp=>h p (List.mem_cons_of_mem _ hp)
  have hq:=h q List.mem_cons_self
  by_cases ex:∃ n,(q.1,n) ∈ l
  ·obtain⟨n,hn⟩:=ex
   obtain⟨l',p⟩ : ∃ l',l.Perm ((q.1,n) :: l'):=by
    obtain⟨s,t,rfl⟩:=List.append_of_mem hn
    exact⟨s ++ t,List.perm_middle⟩
   have un':=(p.pairwise_iff (fun h=>Ne.symm h)).mp un
   obtain⟨u1,u2⟩:=List.pairwise_cons.mp un'
   refine⟨(q.1,q.2+n) :: l',fun p' hp=>?_,List.pairwise_cons.mpr ⟨u1,u2⟩,fun x=>?_,?_,fun f=>?_⟩
   ·rcases List.mem_cons.mp hp with rfl|z
    ·exact⟨hq.1,by have:=hq.2;show 1<=q.2+n;walk_at"o"⟩
    ·exact ok p' (p.mem_iff.mpr (List.mem_cons_of_mem _ z))
   ·show gM (q.1.p x) q.2*iX es x=gM (q.1.p x) (q.2+n)*iX l' x
    rw[e,wL p,tF]
    show _*(gM (q.1.p x) n*iX l' x)=_
    grind
   ·have:=uA p
    have z:eO l=n*q.1.deg+eO l':=this
    show (q.2+n)*q.1.deg+eO l'=q.2*q.1.deg+eO es
    rw[Nat.add_mul]
    walk_at"o"
   ·refine⟨fun ⟨k,hk⟩=>?_,fun ⟨k,hk⟩=>?_⟩
    ·rcases List.mem_cons.mp hk with z|z
     ·cases z
      exact⟨q.2,List.mem_cons_self⟩
     ·obtain⟨k',hk'⟩:=(m f).mp ⟨k,p.mem_iff.mpr (List.mem_cons_of_mem _ z)⟩
      exact⟨k',List.mem_cons_of_mem _ hk'⟩
    ·have z:f=q.1 \/ ∃ k,(f,k) ∈ l:=by
      rcases List.mem_cons.mp hk with z|z
      ·exact .inl (by rw[<- z])
      ·exact .inr ((m f).mpr ⟨k,z⟩)
     rcases z with rfl|⟨k',hk'⟩
     ·exact⟨_,List.mem_cons_self⟩
     ·rcases List.mem_cons.mp (p.mem_iff.mp hk') with y|y
      ·cases y
       exact⟨_,List.mem_cons_self⟩
      ·exact⟨k',List.mem_cons_of_mem _ y⟩
  ·refine⟨q :: l,fun p' hp=>?_,List.pairwise_cons.mpr ⟨fun p' hp z=>ex ⟨p'.2,by rw[z];exact hp⟩,un⟩,fun x=>?_,?_,fun f=>?_⟩
   ·rcases List.mem_cons.mp hp with rfl|z
    ·exact hq
    ·exact ok p' z
   ·show _*iX es x=_*iX l x
    rw[e]
   ·show _+eO l=_+eO es
    rw[d]
   ·refine⟨fun ⟨k,hk⟩=>?_,fun ⟨k,hk⟩=>?_⟩
    ·rcases List.mem_cons.mp hk with z|z
     ·exact⟨k,z ▸ List.mem_cons_self⟩
     ·obtain⟨k',hk'⟩:=(m f).mp ⟨k,z⟩
      exact⟨k',List.mem_cons_of_mem _ hk'⟩
    ·rcases List.mem_cons.mp hk with z|z
     ·exact⟨k,z ▸ List.mem_cons_self⟩
     ·obtain⟨k',hk'⟩:=(m f).mpr ⟨k,z⟩
      exact⟨k',List.mem_cons_of_mem _ hk'⟩
def cY(x:Rat):Rat:=if x<0 then -(x*x) else x*x
theorem w6{x y:Rat}(h:x<y):cY x<cY y:=by
 unfold cY
 by_cases a:x<0
 ·rw[if_pos a]
  by_cases b:y<0
  ·rw[if_pos b]
   have:=Rat.mul_pos (show 0<y - x by grind) (show 0 < -x - y by grind)
   grind
  ·rw[if_neg b]
   have:=Rat.mul_pos (show 0 < -x by grind) (show 0 < -x by grind)
   have:=kO y
   grind
 ·rw[if_neg a,if_neg (show ¬ y<0 by grind)]
  have:=Rat.mul_pos (show 0<y - x by grind) (show 0<y+x by grind)
  grind
theorem lX{x y:Rat}:cY x<=cY y ↔ x<=y:=by
 refine⟨fun h=>Rat.not_lt.mp fun z=>?_,fun h=>?_⟩
 ·have:=w6 z
  grind
 ·by_cases e:x=y
  ·rw[e];grind
  ·have:=w6 (show x<y by grind)
   grind
def bV.mk:bV->List Rat
 | .line r=>[cY r]
 | .root n=>[-n,n]
 | .none _=>[]
theorem bV.A_mk{q:bV}(h:q.ok)(x:Rat):q.A x=((q.mk).filter fun m=>decide (m<=cY x)).length:=by
 cases q with
 | none _=>rfl
 | line r =>
  show (if r<=x then 1 else 0)=([cY r].filter fun m=>decide (m<=cY x)).length
  by_cases z:r<=x
  ·rw[if_pos z,List.filter_cons_of_pos (by simpa using lX.mpr z)]
   rfl
  ·rw[if_neg z,List.filter_cons_of_neg (by simpa using fun y=>z (lX.mp y))]
   rfl
 | root n =>
  obtain⟨n0,nn⟩:=h
  show (if x*x<n then 1 else if x<0 then 0 else 2)=([-n,n].filter fun m=>decide (m<=cY x)).length
  have p:=kO x
  have ne:=nn x
  by_cases a:x*x<n
  ·have h1 : -n<=cY x:=by unfold cY;split <;> grind
   have h2:¬ n<=cY x:=by unfold cY;split <;> grind
   rw[if_pos a,List.filter_cons_of_pos (by simpa using h1),List.filter_cons_of_neg (by simpa using h2)]
   rfl
  ·rw[if_neg a]
   by_cases b:x<0
   ·have h1:¬ -n<=cY x:=by unfold cY;rw[if_pos b];grind
    have h2:¬ n<=cY x:=by unfold cY;rw[if_pos b];grind
    rw[if_pos b,List.filter_cons_of_neg (by simpa using h1),List.filter_cons_of_neg (by simpa using h2)]
    rfl
   ·have h1 : -n<=cY x:=by unfold cY;rw[if_neg b];grind
    have h2:n<=cY x:=by unfold cY;rw[if_neg b];grind
    rw[if_neg b,List.filter_cons_of_pos (by simpa using h1),List.filter_cons_of_pos (by simpa using h2)]
    rfl
def pj(l:List (bV × Nat)):List Rat:=l.flatMap fun q=>q.1.mk
theorem kI{x:Rat}:∀{l:List (bV × Nat)},(∀ q ∈ l,q.1.ok/\1<=q.2)->iU l x=((pj l).filter fun m=>decide (m<=cY x)).length
 | [],_=>rfl
 | q :: l,h=>by
  show q.1.A x+iU l x=((q.1.mk ++ pj l).filter _).length
  rw[List.filter_append,List.length_append,bV.A_mk (h q List.mem_cons_self).1,kI fun p hp=>h p (List.mem_cons_of_mem _ hp)]
theorem qX:∀ l:List (bV × Nat),AV l=(pj l).length
 | []=>rfl
 | q :: l=>by
  show q.1.tot+AV l=(q.1.mk ++ pj l).length
  rw[List.length_append,qX l]
  cases q.1 <;> rfl
theorem xG{r n:Rat}(h:cY r=n\/cY r = -n)(n0:0<n):r*r=n:=by
 unfold cY at h
 have:=kO r
 split at h <;> grind
theorem CI{l:List (bV × Nat)}(ok:∀ q ∈ l,q.1.ok/\1<=q.2)(un:l.Pairwise fun a b=>a.1 ≠ b.1):(pj l).Nodup:=by
 refine List.pairwise_flatMap.mpr ⟨fun q hq=>?_,?_⟩
 ·cases hq':q.1 with
  | line r=>exact List.pairwise_singleton _ _
  | none n=>exact .nil
  | root n =>
   have:=(ok q hq).1
   rw[hq'] at this
   have n0:=this.1
   exact List.pairwise_cons.mpr ⟨fun y hy=>by rw[List.mem_singleton.mp hy];grind,List.pairwise_singleton _ _⟩
 ·refine List.Pairwise.imp_of_mem (R:=fun a b=>a.1 ≠ b.1) (fun {a b} ha hb n x hx y hy e=>?_) un
  have oa:=(ok a ha).1
  have ob:=(ok b hb).1
  subst e
  cases ea:a.1 with
  | none m=>rw[ea] at hx;cases hx
  | line r =>
   rw[ea] at hx
   have hx:=List.mem_singleton.mp hx
   cases eb:b.1 with
   | none m=>rw[eb] at hy;cases hy
   | line s =>
    rw[eb] at hy
    have hy:=List.mem_singleton.mp hy
    have z:cY r=cY s:=hx.symm.trans hy
    have:r=s:=by
     have:=lX.mp (show cY r<=cY s by grind)
     have:=lX.mp (show cY s<=cY r by grind)
     grind
    exact n (by rw[ea,eb,this])
   | root m =>
    rw[eb] at hy ob
    refine ob.2 r (xG ?_ ob.1)
    rcases List.mem_cons.mp hy with z|z
    ·exact .inr (hx.symm.trans z)
    ·exact .inl (hx.symm.trans (List.mem_singleton.mp z))
  | root m =>
   rw[ea] at hx oa
   have hx:x = -m\/x=m:=by
    rcases List.mem_cons.mp hx with z|z
    ·exact .inl z
    ·exact .inr (List.mem_singleton.mp z)
   cases eb:b.1 with
   | none m'=>rw[eb] at hy;cases hy
   | line s =>
    rw[eb] at hy
    have hy:=List.mem_singleton.mp hy
    refine oa.2 s (xG ?_ oa.1)
    rcases hx with z|z
    ·exact .inr (hy.symm.trans z)
    ·exact .inl (hy.symm.trans z)
   | root m' =>
    rw[eb] at hy ob
    have hy:x = -m'\/x=m':=by
     rcases List.mem_cons.mp hy with z|z
     ·exact .inl z
     ·exact .inr (List.mem_singleton.mp z)
    have p1:=oa.1
    have p2:=ob.1
    have:m=m':=by grind
    exact n (by rw[ea,eb,this])
def jI(lo hi:Option Rat)(m:Rat):Bool:=(match lo with|none=>true|some a=>decide (cY a<m)) && (match hi with|none=>true|some b=>!decide (cY b<m))
theorem pS{lo hi:Option Rat}(lt:∀ a b,lo=some a->hi=some b->a<=b):∀ ms:List Rat,(ms.filter (jI lo hi)).length+(match lo with|none=>0|some a=>(ms.filter fun m=>decide (m<=cY a)).length)=(match hi with|none=>ms.length|some b=>(ms.filter fun m=>decide (m<=cY b)).length)
 | []=>by cases lo <;> cases hi <;> rfl
 | m :: ms=>by
  have ih:=pS lt ms
  have f1:∀ (p:Rat->Bool),((m :: ms).filter p).length=cond (p m) 1 0+(ms.filter p).length:=fun p=>by
   cases z:p m with
   | true=>rw[List.filter_cons_of_pos z,List.length_cons];show _=1+_;walk_at"o"
   | false=>rw[List.filter_cons_of_neg (by rw[z];decide)];show _=0+_;walk_at"o"
  have n1:∀ a:Rat,cY a<m->decide (m<=cY a)=false:=fun a z=>decide_eq_false (by grind)
  have n2:∀ a:Rat,¬ cY a<m->decide (m<=cY a)=true:=fun a z=>decide_eq_true (by grind)
  cases lo with
  | none =>
   cases hi with
   | none =>
    have ih:_+0=ms.length:=ih
    rw[f1]
    show 1+_+0=ms.length+1
    walk_at"o"
   | some b =>
    have ih:_+0=(ms.filter fun m=>decide (m<=cY b)).length:=ih
    rw[f1]
    show _+_+0=((m :: ms).filter fun m=>decide (m<=cY b)).length
    rw[f1]
    have e:jI none (some b) m=decide (m<=cY b):=by
     show (true && !decide (cY b<m))=_
     by_cases z:cY b<m
     ·rw[decide_eq_true z,n1 b z];rfl
     ·rw[decide_eq_false z,n2 b z];rfl
    rw[e]
    walk_at"o"
  | some a =>
   cases hi with
   | none =>
    have ih:_+(ms.filter fun m=>decide (m<=cY a)).length=ms.length:=ih
    rw[f1]
    show _+_+((m :: ms).filter fun m=>decide (m<=cY a)).length=ms.length+1
    rw[f1]
    have e:jI (some a) none m=decide (cY a<m):=by show (decide (cY a<m) && true)=_;rw[Bool.and_true]
    rw[e]
    by_cases z:cY a<m
    ·rw[decide_eq_true z,n1 a z]
     show 1+_+(0+_)=_
     walk_at"o"
    ·rw[decide_eq_false z,n2 a z]
     show 0+_+(1+_)=_
     walk_at"o"
   | some b =>
    have ab:=lX.mpr (lt a b rfl rfl)
    have ih:_+(ms.filter fun m=>decide (m<=cY a)).length=(ms.filter fun m=>decide (m<=cY b)).length:=ih
    rw[f1]
    show _+_+((m :: ms).filter fun m=>decide (m<=cY a)).length=((m :: ms).filter fun m=>decide (m<=cY b)).length
    rw[f1,f1]
    have e:jI (some a) (some b) m=(decide (cY a<m) && !decide (cY b<m)):=rfl
    rw[e]
    by_cases z:cY a<m
    ·rw[decide_eq_true z,n1 a z]
     by_cases y:cY b<m
     ·rw[decide_eq_true y,n1 b y]
      show 0+_+(0+_)=0+_
      walk_at"o"
     ·rw[decide_eq_false y,n2 b y]
      show 1+_+(0+_)=1+_
      walk_at"o"
    ·have y:¬ cY b<m:=by grind
     rw[decide_eq_false z,n2 a z,decide_eq_false y,n2 b y]
     show 0+_+(1+_)=1+_
     walk_at"o"
theorem uF{l:List (bV × Nat)}{ms:List Rat}{lo hi:Option Rat}(ok:∀ q ∈ l,q.1.ok/\1<=q.2)(un:l.Pairwise fun a b=>a.1 ≠ b.1)(nd:ms.Nodup)(hm:∀ v,v ∈ ms ↔ v ∈ pj l)(lt:∀ a b,lo=some a->hi=some b->a<=b):(ms.filter (jI lo hi)).length+wD l lo=pV l hi:=by
 have p:ms.Perm (pj l):=(List.perm_ext_iff_of_nodup nd (CI ok un)).mpr hm
 rw[(p.filter _).length_eq]
 have:=pS lt (pj l)
 cases lo with
 | none =>
  cases hi with
  | none=>show _+0=AV l;rw[qX];exact this
  | some b=>show _+0=iU l b;rw[kI ok];exact this
 | some a =>
  cases hi with
  | none=>show _+iU l a=AV l;rw[qX,kI ok];exact this
  | some b=>show _+iU l a=iU l b;rw[kI ok,kI ok];exact this
end L2
namespace L2
open PySem PySem.Spec PyProof.Rows
def oe(a b:Int):List (List Int × List Int × Int × Int)->List (List Int)
 | []=>[]
 | row :: rows=>(row.1.map fun y=>(-a*row.2.2.1.sign*row.2.2.2.sign)*y) :: oe b (-a*row.2.2.1.sign*row.2.2.2.sign) rows
def oh(a:Int):Prop:=a=1\/a = -1
theorem oh.next{a S T:Int}(h:oh a)(s0:S ≠ 0)(t0:T ≠ 0):oh (-a*T.sign*S.sign):=by
 unfold oh at *
 rcases dN t0 with ⟨z,_⟩|⟨z,_⟩ <;> rcases dN s0 with ⟨y,_⟩|⟨y,_⟩ <;> rcases h with x|x <;> rw[x,y,z] <;> decide
theorem m9.ne{F G:List Int}{rows:List (List Int × List Int × Int × Int)}(h:m9 F G rows):∀ row ∈ rows,row.2.2.1 ≠ 0/\row.2.2.2 ≠ 0/\row.1 ≠ []/\nz row.1 (row.1.length - 1) ≠ 0:=by
 induction h with
 | nought=>simp
 | last=>simp
 | more g0 gl s0 t0 r0 rl lr lq e hr ih =>
  intro row gm
  rcases List.mem_cons.mp gm with rfl|z
  ·exact⟨t0,s0,r0,rl⟩
  ·exact ih row z
theorem jk:∀(rows:List (List Int × List Int × Int × Int))(a b:Int)(G G1:List Int),(∀ row ∈ rows,row.2.2.1 ≠ 0/\row.2.2.2 ≠ 0)->oh a->oh b->(∀ k,nz G1 k=b*nz G k)->G1.length=G.length -> ∃ L s,(G1 :: oe a b rows).getLast? = some L/\oh s/\(∀ k,nz L k=s*nz (gn G rows) k)/\L.length=(gn G rows).length
 | [],a,b,G,G1,_,_,hb,h,hl=>⟨G1,b,rfl,hb,h,hl⟩
 | row :: rows,a,b,G,G1,hn,ha,hb,h,hl=>by
  obtain⟨L,s,e,ps,hL⟩:=jk rows b (-a*row.2.2.1.sign*row.2.2.2.sign) row.1 (row.1.map fun y=>(-a*row.2.2.1.sign*row.2.2.2.sign)*y) (fun r hr=>hn r (List.mem_cons_of_mem _ hr)) hb (ha.next (hn row List.mem_cons_self).2 (hn row List.mem_cons_self).1) (fun k=>dL k) (by rw[List.length_map])
  refine⟨L,s,?_,ps,hL⟩
  show (G1 :: (row.1.map _) :: oe b _ rows).getLast? = some L
  rw[List.getLast?_cons_cons]
  exact e
theorem m9.short{F G:List Int}{rows:List (List Int × List Int × Int × Int)}(h:m9 F G rows):(gn G rows).length<=G.length /\ ∀ row ∈ rows,(gn G rows).length<=row.1.length:=by
 induction h with
 | nought=>exact⟨Nat.le_refl _,by simp⟩
 | last=>exact⟨Nat.le_refl _,by simp⟩
 | @more F G R Q T S rows g0 gl s0 t0 r0 rl lr lq e hr ih =>
  have i1:(gn R rows).length<=R.length:=ih.1
  refine⟨by show (gn R rows).length<=G.length;walk_at"o",fun row gm=>?_⟩
  rcases List.mem_cons.mp gm with rfl|z
  ·exact i1
  ·exact ih.2 row z
theorem yV{W h P:List Int}(lW:W.length=1)(h0:h ≠ [])(hz:nz h (h.length - 1) ≠ 0)(P1:P.length=1)(Pz:nz P 0 ≠ 0)(e:∀ k,nz W k=pz (nz h) (nz P) h.length k):∃ c:Int,c ≠ 0/\h=[c]:=by
 have hp:=List.length_pos_iff.mpr h0
 have hg:∀ j,0<j->eX P j=0:=fun j hj=>bZ P j (by walk_at"o")
 have hf:∀ j,h.length - 1<j->eX h j=0:=fun j hj=>bZ h j (by walk_at"o")
 have a:=lQ hg hf h.length
 rw[if_pos (by walk_at"o")] at a
 have b:((nz W (h.length - 1):Int):Rat)=((pz (nz h) (nz P) h.length (h.length - 1):Int):Rat):=by rw[<- e]
 rw[gL] at b
 have l1:h.length=1:=Classical.byContradiction fun n=>by
  rw[aW (by walk_at"o")] at b
  have z:eX h (h.length - 1)*eX P 0=0:=a.symm.trans b.symm
  rcases Rat.mul_eq_zero.mp z with y|y
  ·exact az hz y
  ·exact az Pz y
 match h,l1,hz with
 | [c],_,hz=>exact⟨c,hz,rfl⟩
theorem pe:∀(rows:List (List Int × List Int × Int × Int))(a b:Int),(∀ row ∈ rows,row.2.2.1 ≠ 0/\row.2.2.2 ≠ 0)->oh a->oh b -> ∀ F ∈ oe a b rows,∃ row ∈ rows,∃ s,oh s/\F=row.1.map fun y=>s*y
 | [],_,_,_,_,_,_,h=>by cases h
 | row :: rows,a,b,hn,ha,hb,F,h=>by
  have hm:=ha.next (hn row List.mem_cons_self).2 (hn row List.mem_cons_self).1
  rcases List.mem_cons.mp h with z|z
  ·exact⟨row,List.mem_cons_self,_,hm,z⟩
  ·obtain⟨r,hr,s,hs,e⟩:=pe rows b _ (fun r hr=>hn r (List.mem_cons_of_mem _ hr)) hb hm F z
   exact⟨r,List.mem_cons_of_mem _ hr,s,hs,e⟩
theorem pI.exq{P F:List Int}(h:pI P F)(lF:F.length<=9)(lP:P.length<=9) {s:Int}:As (F.map fun y=>s*y) P:=by
 obtain⟨A,lA,e⟩:=h
 refine⟨A.map fun y=>s*y,xS (by rw[List.length_map];walk_at"o") (by rw[List.length_map];walk_at"o") fun x=>?_⟩
 rw[fL (G:=F) (c:=s) fun k=>dL k,fL (G:=A) (c:=s) fun k=>dL k,e x]
 grind
theorem Ag(F:List Int):(F.map fun y=>1*y)=F:=by
 rw[show (fun y:Int=>1*y)=id from funext fun y=>Int.one_mul y,List.map_id]
inductive uR (P:List Int):List (List Int)->List (List Int)->Prop
 | nil:uR P [] []
 | cons {F h:List Int}{Fs hs:List (List Int)}:h.length<=9->h ≠ []->nz h (h.length - 1) ≠ 0->(∀ k,nz F k=pz (nz h) (nz P) h.length k)->uR P Fs hs->uR P (F :: Fs) (h :: hs)
theorem uR.all{P:List Int}{Fs hs:List (List Int)}(h:uR P Fs hs):∀ x ∈ hs,x ≠ []/\x.length<=20/\nz x (x.length - 1) ≠ 0:=by
 induction h with
 | nil=>simp
 | cons a b c _ _ ih =>
  intro x hx
  rcases List.mem_cons.mp hx with rfl|z
  ·exact⟨b,by walk_at"o",c⟩
  ·exact ih x z
theorem uR.hsOk{P:List Int}(lP:P.length<=9):∀ {rows:List (List Int × List Int × Int × Int)}{a b:Int}{hs:List (List Int)},uR P (oe a b rows) hs->vZ (aU P) a b rows hs
 | [],a,b,hs,h=>by cases h;rfl
 | row :: rows,a,b,hs,h=>by
  cases h with
  | cons l _ _ e t =>
   refine⟨l,fun x=>?_,uR.hsOk lP t⟩
   rw[<- oX (by walk_at"o") e,fL (G:=row.1) (c:=-a*row.2.2.1.sign*row.2.2.2.sign) fun k=>dL k]
def CC(fs:List (Int × Int))(hs:List (List Int)):Prop:=(fs.length=1 /\ ∃ c:Int,c ≠ 0/\hs=[[c]]) \/ ∃ (h0 h1:List Int)(tl:List (List Int))(κ:Rat),hs=h0 :: h1 :: tl/\(∀ R:Rat,0<=R->Ch R (aU h0) (aU h1 :: tl.map aU))/\0<κ /\ ∀ (l:List (bV × Nat))(c:Rat),eO l<=17->(∀ x,EV (cf fs) x=c*iX l x) -> ∀ x,κ*(aU h1 x*gU l x)=aU h0 x*md l x
theorem uW{W O P L:List Int}{rows:List (List Int × List Int × Int × Int)}{g:Int}(rq:m9 W O rows)(o0:O ≠ [])(lW:W.length<=9)(lO:O.length<=W.length)(hp:vz (nz P))(lP:P.length<=9)(hL:(O :: oe 1 1 rows).getLast? = some L)(eL:∀ k,nz L k=g*nz P k)(lr:∀ row ∈ rows,row.1.length<=9):∀ F ∈ W :: O :: oe 1 1 rows,As F P:=by
 have hn:∀ row ∈ rows,row.2.2.1 ≠ 0/\row.2.2.2 ≠ 0:=fun row h=>⟨(rq.ne row h).1,(rq.ne row h).2.1⟩
 obtain⟨L',s,e,ps,hs,_⟩:=jk rows 1 1 O O hn (.inl rfl) (.inl rfl) (fun k=>by rw[Int.one_mul]) rfl
 rw[hL] at e
 cases e
 have el:∀ k,nz (gn O rows) k=(s*g)*nz P k:=fun k=>by
  have a:=hs k
  rw[eL k] at a
  have:s*(g*nz P k)=s*(s*nz (gn O rows) k):=by rw[a]
  rw[<- Int.mul_assoc,<- Int.mul_assoc,show s*s=1 by rcases ps with z|z <;> rw[z] <;> decide,Int.one_mul] at this
  exact this.symm
 obtain⟨dW,dO,dr⟩:=rq.div hp lP o0 lW lO el
 have one:∀ {F:List Int},pI P F->F.length<=9->As F P:=fun {F} d l=>by
  have:=d.exq l lP (s:=1)
  rwa [Ag] at this
 intro F hF
 rcases List.mem_cons.mp hF with rfl|hF
 ·exact one dW lW
 ·rcases List.mem_cons.mp hF with rfl|hF
  ·exact one dO (by walk_at"o")
  ·obtain⟨row,hr,s',_,rfl⟩:=pe rows 1 1 hn (.inl rfl) (.inl rfl) F hF
   exact (dr row hr).exq (lr row hr) lP
theorem DM{fs:List (Int × Int)}{W O P L S:List Int}{rows:List (List Int × List Int × Int × Int)}{hs:List (List Int)}{g g':Int}{C:Rat}(rq:m9 W O rows)(o0:O ≠ [])(lW:W.length<=9)(lO:O.length<=W.length)(p0:P ≠ [])(pz0:nz P (P.length - 1) ≠ 0)(lP:P.length<=9)(hL:(O :: oe 1 1 rows).getLast? = some L)(g0:g ≠ 0)(eL:∀ k,nz L k=g*nz P k)(hW:∀ k,eX W k=cf fs k*C)(hS:∀ k,nz S k=((k+1:Nat):Int)*nz W (k+1))(gp:0<g')(hO:∀ k,nz S k=g'*nz O k)(pt:uR P (W :: O :: oe 1 1 rows) hs):CC fs hs:=by
 have hn:∀ row ∈ rows,row.2.2.1 ≠ 0/\row.2.2.2 ≠ 0:=fun row h=>⟨(rq.ne row h).1,(rq.ne row h).2.1⟩
 obtain⟨L',s,e,ps,hs',_⟩:=jk rows 1 1 O O hn (.inl rfl) (.inl rfl) (fun k=>by rw[Int.one_mul]) rfl
 rw[hL] at e
 cases e
 have s2:s*s=1:=by rcases ps with z|z <;> rw[z] <;> decide
 have el:∀ k,nz (gn O rows) k=(s*g)*nz P k:=fun k=>by
  have a:=hs' k
  rw[eL k] at a
  have:s*(g*nz P k)=s*(s*nz (gn O rows) k):=by rw[a]
  rw[<- Int.mul_assoc,<- Int.mul_assoc,s2,Int.one_mul] at this
  exact this.symm
 have pl:Py (aU P):=fe (by walk_at"o")
 have l0:∃ x,aU P x ≠ 0:=Classical.byContradiction fun z=>pz0 (by
  have:=sW (F:=P) (G:=[]) (by walk_at"o") (by simp) (fun x=>by
   rw[yU]
   exact Classical.byContradiction fun y=>z ⟨x,y⟩) (P.length - 1)
  rw[this,aW (by simp)])
 cases pt with
 | @cons _ h0 _ _ a1 a2 a3 a4 pt =>
 cases pt with
 | @cons _ h1 _ tl b1 b2 b3 b4 pt =>
 have e0:∀ x,aU W x=aU h0 x*aU P x:=oX (by walk_at"o") a4
 have e1:∀ x,aU O x=aU h1 x*aU P x:=oX (by walk_at"o") b4
 have c1:((1:Int):Rat)=1:=rfl
 refine .inr ⟨h0,h1,tl,(g':Rat),rfl,fun R R0=>?_,Rat.intCast_pos.mpr gp,fun l c dl el' x=>?_⟩
 ·exact rq.ch R0 pl l0 (a:=1) (b:=1) (g:=s*g) (.inl rfl) (.inl rfl) (Int.mul_ne_zero (by rcases ps with z|z <;> walk_at"o") g0) o0 lW lO a1 b1 (fun x=>by rw[c1,Rat.one_mul];exact e0 x) (fun x=>by rw[c1,Rat.one_mul];exact e1 x) (pt.hsOk lP) fun x=>fL el x
 ·have eW:∀ x,aU W x=(c*C)*iX l x:=fun x=>by
   have:aU W x=EV (cf fs) x*C:=by
    unfold aU
    rw[eT (g:=fun k=>0+C*cf fs k) (fun k=>by rw[hW k];grind) x,i7,j8 (f:=fun _=>0) fun _=>rfl]
    grind
   rw[this,el' x]
   grind
  have sid:=wH dl lW hS eW
  have key:=Py.zero (f:=fun x=>(g':Rat)*(aU h1 x*gU l x) - aU h0 x*md l x) (g:=aU P) ?_ pl (fun x=>?_) l0 x
  ·grind
  ·have q1:∀ l:List (bV × Nat),Py (gU l)/\Py (md l):=by
    have fp:∀ q:bV,Py q.p/\Py q.d:=fun q=>by
     cases q with
     | line r=>exact⟨(Py.id.sub (.const r)).congr fun x=>rfl,(Py.const 1).congr fun x=>rfl⟩
     | root n=>exact⟨((Py.id.mul Py.id).sub (.const n)).congr fun x=>rfl,((Py.const 2).mul Py.id).congr fun x=>rfl⟩
     | none n=>exact⟨((Py.id.mul Py.id).add (.const n)).congr fun x=>rfl,((Py.const 2).mul Py.id).congr fun x=>rfl⟩
    intro l
    induction l with
    | nil=>exact⟨(Py.const 1).congr fun x=>rfl,(Py.const 0).congr fun x=>rfl⟩
    | cons q l ih=>exact⟨((fp q.1).1.mul ih.1).congr fun x=>rfl,((((Py.const _).mul (fp q.1).2).mul ih.1).add ((fp q.1).1.mul ih.2)).congr fun x=>rfl⟩
   exact (((fe (by walk_at"o")).mul (q1 l).1).sc _).sub ((fe (by walk_at"o")).mul (q1 l).2)
  ·have z1:=sid x
   have z2:aU S x=(g':Rat)*aU O x:=fL hO x
   rw[z2,e0 x,e1 x] at z1
   grind
theorem vW{fs:List (Int × Int)}{hs:List (List Int)}{l:List (bV × Nat)}{c:Rat}(h:CC fs hs)(all:∀ x ∈ hs,x ≠ []/\x.length<=20/\nz x (x.length - 1) ≠ 0)(ok:∀ q ∈ l,q.1.ok/\1<=q.2)(un:l.Pairwise fun a b=>a.1 ≠ b.1)(dl:eO l<=17)(d1:fs.length=eO l+1)(e:∀ x,EV (cf fs) x=c*iX l x) {lo hi:Option Rat}(lt:∀ a b,lo=some a->hi=some b->a<=b):chg 0 (i0 (-1) lo hs)+wD l lo=chg 0 (i0 1 hi hs)+pV l hi:=by
 rcases h with ⟨f1,a,a0,rfl⟩|⟨h0,h1,tl,κ,rfl,ch,k0,id⟩
 ·have l0:l=[]:=by
   cases l with
   | nil=>rfl
   | cons q l =>
    have h1:eO (q :: l)=q.2*q.1.deg+eO l:=rfl
    have h2:=(ok q List.mem_cons_self).2
    have h3:1<=q.1.deg:=by cases q.1 <;> simp[bV.deg]
    have:=Nat.mul_le_mul h2 h3
    walk_at"o"
  subst l0
  have e1:∀ x,wD [] x=0:=fun x=>by cases x <;> rfl
  have e2:∀ x,pV [] x=0:=fun x=>by cases x <;> rfl
  have one:∀ s:Int,chg 0 [s]=0:=fun s=>by
   by_cases z:s=0
   ·rw[z,wW];rfl
   ·rw[pB z];rfl
  have e3:∀ (side:Int)(y:Option Rat),chg 0 (i0 side y [[a]])=0:=fun side y=>by
   cases y with
   | none=>exact one _
   | some x=>exact one _
  rw[e1,e2,e3,e3]
 ·exact rf ch ok un k0 (id l c dl e) all lt
end L2
namespace L2
open PySem PySem.Spec PyProof.Rows
section
variable {κ:Type} [DecidableEq κ]
def lc(kvs:List (κ × V))(k:κ):Option V:=(kvs.find? fun kv=>decide (kv.1=k)).map (·.2)
def pZ(kvs:List (κ × V))(k:κ)(v:V):List (κ × V) :=
 if (kvs.any fun kv=>decide (kv.1=k))=true then kvs.map (fun kv=>if kv.1=k then (kv.1,v) else kv) else kvs ++ [(k,v)]
theorem qu{p:κ × V}{r:List (κ × V)}{k:κ}(e:p.1=k):lc (p :: r) k=some p.2:=by simp[lc,List.find?_cons,e]
theorem pG{p:κ × V}{r:List (κ × V)}{k:κ}(e:¬ p.1=k):lc (p :: r) k=lc r k:=by simp[lc,List.find?_cons,e]
theorem pO(kvs:List (κ × V))(k:κ)(v:V):(pZ kvs k v).length<=kvs.length+1:=by
 unfold pZ
 split
 ·rw[List.length_map];walk_at"o"
 ·rw[List.length_append,List.length_cons,List.length_nil];walk_at"o"
theorem KV.val{kvs:List (κ × V)}{vs:List (κ × Value)}(r:KV kvs vs)(k:κ):oD (lc kvs k) (valueAt vs k):=by
 unfold KV at r
 induction r with
 | nil=>exact True.intro
 | @cons p q ps qs h t ih =>
  obtain⟨h1,h2⟩:=h
  by_cases e:p.1=k
  ·have e':q.1=k:=h1.symm.trans e
   have b:valueAt (q :: qs) k=some q.2:=by simp[valueAt,List.find?_cons,e']
   rw[qu e,b];exact h2
  ·have e':¬ q.1=k:=fun z=>e (h1.trans z)
   have b:valueAt (q :: qs) k=valueAt qs k:=by simp[valueAt,List.find?_cons,e']
   rw[pG e,b];exact ih
theorem KV.any{kvs:List (κ × V)}{vs:List (κ × Value)}(r:KV kvs vs)(k:κ):(kvs.any fun kv=>decide (kv.1=k))=vs.any fun kv=>decide (kv.1=k):=by
 unfold KV at r
 induction r with
 | nil=>rfl
 | cons h t ih=>rw[List.any_cons,List.any_cons,ih,h.1]
theorem KV.repl{kvs:List (κ × V)}{vs:List (κ × Value)}(r:KV kvs vs)(k:κ) {y:V}{u:Value}(ry:aS y u) :
  KV (kvs.map fun kv=>if kv.1=k then (kv.1,y) else kv) (vs.map fun kv=>if kv.1=k then (kv.1,u) else kv):=by
 unfold KV at r ⊢
 induction r with
 | nil=>exact .nil
 | @cons p q ps qs h t ih =>
  rw[List.map_cons,List.map_cons]
  refine .cons ?_ ih
  obtain⟨h1,h2⟩:=h
  by_cases e:p.1=k
  ·rw[if_pos e,if_pos (h1.symm.trans e)];exact⟨h1,ry⟩
  ·rw[if_neg e,if_neg (fun z=>e (h1.trans z))];exact⟨h1,h2⟩
theorem KV.put{kvs:List (κ × V)}{vs:List (κ × Value)}(r:KV kvs vs)(k:κ) {y:V}{u:Value}(ry:aS y u):KV (pZ kvs k y) (stored vs k u):=by
 unfold pZ stored
 rw[r.any k]
 by_cases e:(vs.any fun kv=>decide (kv.1=k))=true
 ·rw[if_pos e,if_pos e];exact r.repl k ry
 ·rw[if_neg e,if_neg e];exact Paired.snoc r ⟨rfl,ry⟩
end
theorem yi{P:Program}{w:World}{k:fP}{u:Value}(r:aS (kV k) u):(cI P w).is k u=true:=by
 cases k with
 | inl i=>obtain⟨t,e⟩:=(show ∃ t,u=Value.int i t from r);subst e;exact pX P w i t
 | inr x=>obtain⟨t,e⟩:=(show ∃ t,u=Value.str x t from r);subst e;exact qy P w x t
theorem mY{P:Program}{w:World}:∀{ks:List fP}{us:List Value},aL (ks.map kV) us->ItemsAre (cI P w) ks us
 | [],_,r=>by rw[List.map_nil] at r;cases r;exact .nil
 | k :: ks,_,r=>by
  rw[List.map_cons] at r
  cases r with
  | cons h t=>exact .cons (yi h) (mY t)
abbrev KT (H:Hp):List (List fP × V)->List (List fP × Addr × Value)->Prop:=Paired fun p q=>p.1=q.1/\H q.2.1=some (.tup (p.1.map kV))/\aS p.2 q.2.2
theorem KT.val{H:Hp}{kvs:List (List fP × V)}{xs:List (List fP × Addr × Value)}(r:KT H kvs xs)(k:List fP):oD (lc kvs k) ((atKey xs k).map (·.2)):=by
 induction r with
 | nil=>exact True.intro
 | @cons p q ps qs h t ih =>
  obtain⟨h1,_,h2⟩:=h
  by_cases e:p.1=k
  ·have e':q.1=k:=h1.symm.trans e
   have b:atKey (q :: qs) k=some q.2:=by simp[atKey,List.find?_cons,e']
   rw[qu e,b];exact h2
  ·have e':¬ q.1=k:=fun z=>e (h1.trans z)
   have b:atKey (q :: qs) k=atKey qs k:=by simp[atKey,List.find?_cons,e']
   rw[pG e,b];exact ih
section
variable {P:Program}{w:World}{H:Hp}{h:Heap}{a:Addr}
theorem AL{u:HO}(ok:iJ P w H h)(e:Rd H a u):bY P w H h a u:=e.ok ok
theorem xq{kvs:List (fP × V)}(ok:iJ P w H h)(e:Rd H a (.dK kvs)):kvs.length<=sizeLine/\(a == sysModules)=false /\ ∃ vs,KV kvs vs/\h.DictOf (cI P w) a vs :=
 show bY P w H h a (.dK kvs) from AL ok e
theorem D6{kvs:List (fP × V)}(ok:iJ P w H h)(e:H a=some (.dK kvs)):kvs.length<=sizeLine/\(a == sysModules)=false /\ ∃ vs,KV kvs vs/\h.DictOf (cI P w) a vs:=xq ok (.inl e)
theorem yy{ks:List fP}(ok:iJ P w H h)(e:H a=some (.tup (ks.map kV))):(tupleKind (cI P w)).is h ks a:=by
 obtain⟨_,its,r,o,h1,h2,n,h3⟩:=(show bY P w H h a (.tup (ks.map kV)) from ok a _ e)
 exact⟨o,its.toArray,n,h1,h2,h3,by simpa using mY r⟩
theorem A2{kvs:List (List fP × V)}(ok:iJ P w H h)(e:Rd H a (.dT kvs)):kvs.length<=sizeLine/\(a == sysModules)=false /\
  ∃ xs,KT H kvs xs/\h.DictOfH (tupleKind (cI P w)) a xs:=by
 obtain⟨z,y,xs,r,o,es,ep,h1,h2,h3,h4,h5⟩:=(show bY P w H h a (.dT kvs) from AL ok e)
 refine⟨z,y,xs,r,o,es,ep,h1,h2,h3,h4,fun x hx=>?_,h5⟩
 have all:∀ {l:List (List fP × V)}{m:List (List fP × Addr × Value)},KT H l m -> ∀ x ∈ m,(tupleKind (cI P w)).is h x.1 x.2.1:=by
  intro l m q
  induction q with
  | nil=>intro x hx;exact nomatch hx
  | @cons p q ps qs hq t ih =>
   intro x hx
   rcases List.mem_cons.mp hx with e|hx
   ·subst e
    exact yy ok (by rw[<- hq.1];exact hq.2.1)
   ·exact ih x hx
 exact all r x hx
end
def Cc(H:Hp)(a:Addr)(y:V)(r:Option V):Prop :=
 (∃ kvs k,Rd H a (.dK kvs)/\y=kV k/\r=lc kvs k) \/ ∃ kvs k b,Rd H a (.dT kvs)/\y = .ref b/\H b=some (.tup (k.map kV))/\r=lc kvs k
section
variable {X:Cx}{pins:List (Addr × Obj)}{σ:St}{H:Hp}{s:Shared}{a:Addr}{y v:V}{u r:Value}{o:Option V}{A:Around}{E:Value->Shared->Prop}
theorem uI{Q:Value->Shared->Prop}(hu:A.units+1<cLine)(I:aw X pins σ H s)(g:Cc H a y (some v))(ry:aS y u)(h:∀ w' s',aw X pins σ H s'->aS v w'->Q w' s') :
  wpAny (model X.prog X.w) A (getItem (.ref a) u) Q E s:=by
 rcases g with ⟨kvs,k,e,ey,l⟩|⟨kvs,k,b,e,ey,eb,l⟩
 ·subst ey
  obtain⟨z,hd,vs,rel,dd⟩:=xq I.hok e
  obtain⟨w',hw,rw'⟩:=oD.some_of (v:=v) (o:=valueAt vs k) (by rw[l];exact rel.val k)
  exact wpAny_getItem_of (yi ry) dd.mapOf hw (h w' _ (I.tok _) rw')
 ·subst ey
  cases (show u=Value.ref b from ry)
  obtain⟨z,hd,xs,rel,dd⟩:=A2 I.hok e
  obtain⟨w',hw,rw'⟩:=oD.some_of (v:=v) (o:=(atKey xs k).map (·.2)) (by rw[l];exact rel.val k)
  obtain⟨p,hp,hp2⟩:=Option.map_eq_some_iff.mp hw
  refine wpAny_getItem_heap (tupleKind_room_in1 hu) (yy I.hok eb) dd hp ?_
  rw[hp2]
  exact h w' _ (I.tok _) rw'
theorem zc{h':Heap}{t':Nat}{ob:HO}(I:aw X pins σ H s)(mu:Ee (H a))(hs:Heap.SameBut a s.heap h')(he:∃ q,h'.get? a=some q)(new:bY X.prog X.w (upd H a ob) h' a ob) :
  aw X pins σ (upd H a ob) { s with heap:=h',toks:=t' } :=
 I.write (x:=a) (e:=a) mu (.inl rfl) (fun b q hb z=>(hs.2 b hb).trans z) he new
theorem C5{P:Program}{w:World}{H':Hp}{h':Heap}{kvs:List (fP × V)}{vs:List (fP × Value)}(z:kvs.length<=sizeLine)(hd:(a == sysModules)=false)(rel:KV kvs vs)(dd:h'.DictOf (cI P w) a vs) :
  bY P w H' h' a (.dK kvs):=⟨z,hd,vs,rel,dd⟩
end
section
variable {X:Cx}{pins:List (Addr × Obj)}{σ:St}{H:Hp}{s:Shared}{a:Addr}{kvs:List (fP × V)}{k:fP}{u:Value}{A:Around}{E:Value->Shared->Prop}
end
def DQ(i:Expr):Prop:=∀ ov iv,subscripted i false ov iv=operate [ov,iv] (getItem ov iv)
theorem yR{prog:Program}{w:World}{A:Around}{E:Value->Shared->Prop}{s:Shared}{env:Env}{value slice:Expr}{pos:Pos}{T id:String}{Q:Value->Shared->Prop}
  (hl:typeLookup (.type T) "__getitem__" = pure (some (.builtin id))) (hs:DQ slice)
  (h:wpAny (model prog w) A (eval value env) (fun o s₁=>wpAny (model prog w) A (eval slice env) (fun i s₂=>s₂.TypeIs o T/\wpAny (model prog w) A (getItem o i) Q E s₂) E s₁) E s) :
  wpAny (model prog w) A (eval (.Subscript value slice pos) env) Q E s:=by
 refine Subscript_ (wpAny_mono h (fun o s₁ h₁=>wpAny_mono h₁ (fun i s₂ h₂=>?_) fun _ _ x=>x) fun _ _ x=>x)
 obtain⟨hT,h₂⟩:=h₂
 unfold subscriptTail
 refine wpAny_bind ?_
 rw[getitemInPython_of_ne hT.not_modules]
 refine wpAny_bind (wpAny_specialOf hT hl ?_)
 have fin:wpAny (model prog w) A (subscripted slice false o i) (fun r s₃=>wpAny (model prog w) A (letTemporaryGo value o r >>= fun _=>pure r) Q E s₃) E s₂:=by
  rw[hs o i]
  exact wpAny_operating (wpAny_mono h₂ (fun r s₃ h₃=>wpAny_bind (wpAny_letTemporaryGo (wpAny_pure h₃))) fun _ _ x=>x)
 first
  | exact wpAny_pure (wpAny_bind fin)
  | exact wpAny_bind (wpAny_pure (wpAny_bind fin))
  | exact wpAny_bind fin
theorem qA{X:Cx}{pins:List (Addr × Obj)}{σ:St}{H:Hp}{s:Shared}{a:Addr}{y:V}{o:Option V}(I:aw X pins σ H s)(g:Cc H a y o):s.TypeIs (.ref a) "dict":=by
 rcases g with ⟨kvs,k,e,_,_⟩|⟨kvs,k,b,e,_,_,_⟩
 ·obtain⟨_,_,vs,_,dd⟩:=xq I.hok e
  exact dd.typeIs
 ·obtain⟨_,_,xs,_,dd⟩:=A2 I.hok e
  exact dd.typeIs
section
variable {X:Cx}{o i e value:Expr}{pos pos' tpos:Pos}{td ty tv:TE}
end
section
variable {X:Cx}{pos:Pos}
end
def oH:List (TE × TE)->St->Hp->(List (V × V)->Hp->Prop)->Prop
 | [],_,H,Q=>Q [] H
 | (tk,tv) :: r,σ,H,Q=>tk σ H fun x H1=>tv σ H1 fun y H2=>oH r σ H2 fun ps H3=>Q ((x,y) :: ps) H3
abbrev VV:List (V × V)->List (Value × Value)->Prop:=Paired fun p q=>aS p.1 q.1/\aS p.2 q.2
def EQ(X:Cx)(pos:Pos)(keys:List (Option Expr))(values:List Expr)(jg:List (TE × TE)):Prop :=
 ∀ (pins:List (Addr × Obj))(s:Shared)(σ:St)(H:Hp)(Q:List (V × V)->Hp->Prop),aw X pins σ H s->oH jg σ H Q ->
  wpAny (model X.prog X.w) X.A (evalPairs (pairTrees keys values X.env pos)) (fun vs s'=>∃ ps H',aw X pins σ H' s'/\VV ps vs/\Q ps H') X.xe s
theorem zG{X:Cx}{pos:Pos}:EQ X pos [] [] []:=fun pins s σ H Q I h=>pairTrees_nil_walk ⟨[],H,I,.nil,h⟩
theorem wS{X:Cx}{pos:Pos}{k v:Expr}{ks:List (Option Expr)}{vs:List Expr}{tk tv:TE}{jg:List (TE × TE)}(hk:PE X k tk)(hv:PE X v tv)(hr:EQ X pos ks vs jg) :
  EQ X pos (some k :: ks) (v :: vs) ((tk,tv) :: jg):=fun pins s σ H Q I h =>
 pairTrees_cons_walk (cn (hk pins s σ H _ I h) fun u s1 ⟨x,H1,I1,rx,q1⟩=>cn (hv pins s1 σ H1 _ I1 q1) fun w2 s2 ⟨y,H2,I2,ry,q2⟩ =>
  cn (hr pins s2 σ H2 _ I2 q2) fun ws s3 ⟨ps,H3,I3,rel,q3⟩=>⟨(x,y) :: ps,H3,I3,.cons ⟨rx,ry⟩ rel,q3⟩)
def jD(kvs more:List (fP × V)):List (fP × V):=more.foldl (fun acc kv=>pZ acc kv.1 kv.2) kvs
theorem KV.merge:∀{more:List (fP × V)}{rs:List (fP × Value)}{kvs:List (fP × V)}{vs:List (fP × Value)},KV more rs->KV kvs vs->KV (jD kvs more) (merged vs rs):=by
 intro more rs kvs vs r
 unfold KV at r
 induction r generalizing kvs vs with
 | nil=>intro q;exact q
 | @cons p q ps qs h t ih =>
  intro r0
  have e:KV (pZ kvs p.1 p.2) (stored vs q.1 q.2):=by
   have:=r0.put p.1 h.2
   rw[<- h.1];exact this
  exact ih e
theorem iS:∀(more kvs:List (fP × V)),(jD kvs more).length<=kvs.length+more.length
 | [],kvs=>by show kvs.length<=kvs.length+0;walk_at"o"
 | p :: r,kvs=>by
  have h1:=iS r (pZ kvs p.1 p.2)
  have h2:=pO kvs p.1 p.2
  show (jD (pZ kvs p.1 p.2) r).length<=_
  rw[List.length_cons];walk_at"o"
theorem kE{P:Program}{w:World}:∀{kvs:List (fP × V)}{ws:List (Value × Value)},VV (kvs.map fun kv=>(kV kv.1,kv.2)) ws -> ∃ rs,Carries (cI P w) ws rs/\KV kvs rs
 | [],_,r=>by rw[List.map_nil] at r;cases r;exact⟨[],True.intro,.nil⟩
 | p :: kvs,_,r=>by
  rw[List.map_cons] at r
  cases r with
  | @cons a b as bs h t =>
   obtain⟨rs,c,q⟩:=kE (P:=P) (w:=w) t
   obtain⟨b1,b2⟩:=b
   exact⟨(p.1,b2) :: rs,⟨yi h.1,rfl,c⟩,.cons ⟨rfl,h.2⟩ q⟩
end L2
namespace L2
open PySem PySem.Spec PyProof.Rows
section
variable {prog:Program}{w:World}{A:Around}{R:Result->Shared->Prop}{s:Shared}
end
end L2
namespace L2
open PySem PySem.Spec PyProof.Rows
section
variable {X:Cx}
end
end L2
namespace L2
open PySem PySem.Spec PyProof.Rows
section
variable {X:Cx}
def wY(K:W.Frag)(jg:List (TE × TE)):TE:=fun σ H Q=>∀ p H1,vw K H p=none->ar (vw K H) (vw K H1)->vw K H1 p=some (.dK [])->oH jg σ H1 fun ps H2=>vw K H2 p=some (.dK []) /\ ∃ kvs:List (fP × V),ps=kvs.map (fun kv=>(kV kv.1,kv.2))/\kvs.length<=15 /\
 ∀ H3,dS p (vw K H2) (vw K H3)->vw K H3 p=some (.dK (jD [] kvs))->Q (.ref p) H3
structure EO (X:Cx)(pos:Pos)(keys:List (Option Expr))(values:List Expr)(jg:List (TE × TE)):Prop where
 h:EQ X pos keys values jg
theorem zI{pos:Pos}:EO X pos [] [] []:=⟨zG⟩
theorem lM{pos:Pos}{k v:Expr}{ks:List (Option Expr)}{vs:List Expr}{tk tv:TE}{jg:List (TE × TE)}(hk:QE X k tk)(hv:QE X v tv)(hr:EO X pos ks vs jg):EO X pos (some k :: ks) (v :: vs) ((tk,tv) :: jg):=⟨wS hk.h hv.h hr.h⟩
theorem Av{pos:Pos}{keys:List (Option Expr)}{values:List Expr}{jg:List (TE × TE)}(h:EO X pos keys values jg)(hall:keys.all (·.isSome)=true)(hl:keys.length=values.length)(h0:keys ≠ [])
  (h15:keys.length<=15):QE X (.Dict keys values pos) (wY X.K jg):=⟨by
 intro pins s σ H Q I q
 have hn:=I.hok.fresh (Nat.le_refl s.heap.objs.size)
 have hk:=I.newK (Nat.le_refl s.heap.objs.size)
 have I1:=I.laid (a:=s.heap.objs.size) (o:=.dK []) (h':=s.heap.push { cls:=.type "dict",data:=.dict #[] }) (t':=s.toks) (fun _ _ q=>Heap.get?_push_of_some _ q) (Nat.le_refl _) (xA s.heap I.big)
 have q1:=q _ _ (by rw[cK hk];exact hn) (ki (ar.upd (o:=.dK []) hn)) (by rw[cK hk];exact aY)
 refine wpAny_Dict_walk (knd:=cI X.prog X.w) hall hl h0 h15 (cn (h.h pins _ σ _ _ I1 q1) fun ws s2 ⟨ps,H2,I2,rel,e,kvs,ep,lk,q2⟩=>?_)
 subst ep
 have e':H2 s.heap.objs.size=some (.dK []):=(cK hk).symm.trans e
 obtain⟨rs,c,rk⟩:=kE (P:=X.prog) (w:=X.w) rel
 obtain⟨z,hd,vs0,r0,dd⟩:=D6 I2.hok e'
 cases r0
 refine⟨rs,c,dd,fun h' dd' hs=>⟨.ref s.heap.objs.size,_,?_,rfl,q2 _ (oy dS.upd) (by rw[cK hk];exact aY)⟩⟩
 have hz:(jD [] kvs).length<=sizeLine:=by
  have h1:=iS kvs []
  rw[List.length_nil] at h1
  rw[sizeLine_eq];walk_at"o"
 have he:∃ q,h'.get? s.heap.objs.size=some q:=let ⟨q,_,_,hq,_⟩:=dd';⟨q,hq⟩
 exact zc I2 (by rw[e'];exact True.intro) hs he (C5 hz hd (rk.merge .nil) dd')⟩
def xH(K:W.Frag)(td ty:TE):TE:=fun σ H Q=>td σ H fun x H1=>ty σ H1 fun y H2=>∃ a,x = .ref a /\ ∃ kvs k,vw K H2 a=some (.dK kvs)/\y=kV k /\ ∃ v,lc kvs k=some v/\Q v H2
theorem yS{o i:Expr}{pos:Pos}{td ty:TE}(hu:X.A.units+64<cLine)(ho:QE X o td)(hi:QE X i ty)(hs:DQ i):QE X (.Subscript o i pos) (xH X.K td ty):=⟨by
 intro pins s σ H Q I h
 refine yR PySem.F.slot_dict_getitem.lookup hs (cn (ho.h pins s σ H _ I h) fun u s1 ⟨x,H1,I1,rx,q1⟩=>cn (hi.h pins s1 σ H1 _ I1 q1) fun iv s2 ⟨y,H2,I2,ry,a,ex,kvs,k,ha,ey,v,hv,q2⟩=>?_)
 subst ex
 obtain rfl:u=Value.ref a:=rx
 have g:Cc H2 a y (some v):=.inl ⟨kvs,k,.inl (gC ha fun _ z=>by cases z),ey,hv.symm⟩
 exact⟨qA I2 g,uI (by walk_at"o") I2 g ry fun w' s3 I3 rw'=>⟨v,H2,I3,rw',q2⟩⟩⟩
end
section
variable {P:Program}{w:World}{K:W.Frag}{mg:Str->Option Value}{base:Heap}
end
end L2
namespace L2
open PySem PySem.Spec PyProof.Rows PySem.W PySem.Calls
theorem vt{X:Cx}(hu:X.A.units+64<cLine):eD X (compareOp .NotIn) (En X.K true):=by
 intro pins s σ H x y v u Q I rx ry h
 obtain⟨d,ds,h1,h2,c1,c2,q⟩:=h
 obtain⟨as,r1⟩:=aM.reads I d x v h1 rx c1.1
 obtain⟨bs,r2⟩:=aM.reads I (.lst ds) y u h2 ry c2.1
 unfold D.py at r2
 have e1:=c2.1
 have e2:=c2.2
 unfold D.py at e1 e2
 refine SeqAt.notIn_list_reads r2 r1 (by unfold PyData.canLay0 at e1;exact e1) c1.1 (by have:=c1.2;walk_at"o") ⟨.bl _,H,I,rfl,?_⟩
 rw[tH]
 exact q
def Eg(xs:List V)(k:Nat)(y:V):List V:=xs.take k ++ y :: xs.drop k
def AN(K:W.Frag):V->List V->Hp->VK->Prop:=fun x vs H Q=>∃ l k y,x = .ref l/\vs=[.int k,y] /\ ∃ xs,vw K H l=some (.lst xs)/\xs.length<sizeLine/\0<=k/\k.toNat<=xs.length/\yF K H l (.lst (Eg xs k.toNat y)) (Q .non)
theorem mT:∀{ys:List V}{acc:List Value},aL ys acc -> ∀ k:Nat,aL (ys.take k) (acc.take k)
 | _,_,.nil,k=>by simp;exact .nil
 | _,_,.cons _ _,0=>.nil
 | _,_,.cons r t,k+1=>.cons r (mT t k)
theorem mP:∀{ys:List V}{acc:List Value},aL ys acc -> ∀ k:Nat,aL (ys.drop k) (acc.drop k)
 | _,_,.nil,k=>by simp;exact .nil
 | _,_,.cons r t,0=>.cons r t
 | _,_,.cons _ t,k+1=>mP t k
theorem qW{X:Cx}:Ed X "list.insert" (AN X.K):=by
 intro pins s σ H x vs v us Q I rx rv h
 obtain⟨l,k,y,rfl,rfl,xs,h1,hz,k0,k1,q⟩:=h
 have e':H l=some (.lst xs):=gC h1 fun _ z=>by cases z
 cases rx
 cases rv with
 | cons r rr =>
  cases rr with
  | @cons _ u _ _ ru rr' =>
   cases rr'
   obtain⟨t,rfl⟩:=r
   obtain⟨z,its,n,rr,hl,e⟩:=I.lstM e'
   have sl:xs.length<2 ^ 62:=Nat.lt_of_lt_of_le hz (by decide)
   refine call_meets F.slot_list_insert ⟨_,e,rfl⟩ F.entry_list_insert (F.args_list_insert_3 _ _ _) (PySem.AutoSeq1.list_insert_list_int_val_1 l its.toArray n k t u ?_ (by rw[List.size_toArray];walk_at"o")) ⟨e,?_⟩
   ·have a1:decide (-(2 ^ 63:Int)<=k)=true:=decide_eq_true (by walk_at"o")
    have a2:decide (k<(2 ^ 63:Int))=true:=decide_eq_true (by walk_at"o")
    simp[Builtin.List.listFitsIndex]
    walk_at"o"
   ·refine⟨.non,_,I.lset (its':=its.take k.toNat ++ u :: its.drop k.toNat) e' e ?_ (aL.append (mT rr k.toNat) (.cons ru (mP rr k.toNat))) ?_,rfl,q.ok (I.noK e')⟩
    ·show (its.toArray.extract 0 (if k<0 then (k+(its.toArray.size:Int)).toNat else min k.toNat its.toArray.size)).push u ++ its.toArray.extract (if k<0 then (k+(its.toArray.size:Int)).toNat else min k.toNat its.toArray.size)=_
     rw[if_neg (by walk_at"o"),Nat.min_eq_left (by rw[List.size_toArray];walk_at"o")]
     exact kl_ins_eq its k.toNat u
    ·rw[List.length_append,List.length_cons,List.length_take,List.length_drop];walk_at"o"
end L2
set_option maxHeartbeats 8000000
namespace M
open PySem L2
def dB(i:Nat):Stmt:=PySem.Challenge.pw_momentwright_k14_how_many_roots.main.body.getD i (.Pass ⟨0,0,0,0⟩)
abbrev be:Stmt:=dB 12
theorem fg:av ["one", "other"] ["one", "other"] (ag be):=by walk_at"a3"
abbrev fA:Stmt:=dB 13
theorem lH:av ["whole"] ["whole"] (ag fA):=by walk_at"a3"
abbrev iy:Stmt:=dB 14
theorem pF:av ["base", "many", "product", "turn"] ["base", "many"] (ag iy):=by walk_at"a3"
abbrev fB:Stmt:=dB 15
theorem kN:av ["numbers", "zero", "many"] ["numbers", "zero"] (ag fB):=by walk_at"a3"
abbrev fF:Stmt:=dB 16
theorem ll:av ["wholes", "divisor", "whole"] ["wholes"] (ag fF):=by walk_at"a3"
abbrev cE:Stmt:=dB 17
theorem gS:av ["wholes"] ["wholes"] (ag cE):=by walk_at"a3"
abbrev dF:Stmt:=dB 18
theorem je:av ["wholes", "top", "bottom", "total", "scale", "whole"] ["wholes", "top", "bottom"] (ag dF):=by walk_at"a3"
abbrev b9:Stmt:=dB 19
theorem gk:av ["one", "other", "last", "rest", "quotient", "scale", "place", "part", "k"] ["one", "other"] (ag b9):=by walk_at"a3"
abbrev cD:Stmt:=dB 20
theorem gQ:av ["one", "other", "told", "lead", "height", "gap", "bottom", "quotient", "rest", "scale", "top", "lack"] ["one", "other"] (ag cD):=by walk_at"a3"
abbrev fu:Stmt:=dB 22
theorem lV:av ["one", "other"] ["one", "other"] (ag fu):=by walk_at"a3"
abbrev fD:Stmt:=dB 24
theorem kJ:av ["f", "bottom", "number"] ["f"] (ag fD):=by walk_at"a3"
abbrev bH:Stmt:=dB 26
theorem cR:av ["f"] ["f"] (ag bH):=by walk_at"a3"
abbrev cu:Stmt:=dB 27
theorem gO:av ["one", "other", "told", "former", "latter", "rest", "quotient", "top", "bottom"] ["one", "other"] (ag cu):=by walk_at"a3"
abbrev cz:Stmt:=dB 28
theorem gR:av ["lists", "last"] ["lists"] (ag cz):=by walk_at"a3"
abbrev bQ:Stmt:=dB 29
theorem fV:av ["f", "wholes"] ["f"] (ag bQ):=by walk_at"a3"
abbrev en:Stmt:=dB 30
theorem jY:av ["lists", "top", "bottom"] ["lists", "top", "bottom"] (ag en):=by walk_at"a3"
abbrev dC:Stmt:=dB 31
theorem jr:av ["lists", "side"] ["lists", "side"] (ag dC):=by walk_at"a3"
abbrev fH:Stmt:=dB 32
theorem kT:av ["signs", "told", "last", "sign"] ["signs"] (ag fH):=by walk_at"a3"
abbrev ce:Stmt:=dB 33
theorem gu:av ["lists", "low", "high", "lows", "highs"] ["lists", "low", "high"] (ag ce):=by walk_at"a3"
abbrev du:Stmt:=dB 34
theorem fU:av ["f", "low", "high"] ["f", "low", "high"] (ag du):=by walk_at"a3"
abbrev fE:Stmt:=dB 36
theorem mE:av ["_law_script", "_law_k"] ["_law_script", "_law_k"] (ag fE):=by walk_at"a3"
abbrev iC:Stmt:=dB 37
theorem uh:av ["_law_script", "_law_k", "_law_cell"] ["_law_script", "_law_k"] (ag iC):=by walk_at"a3"
abbrev jL:Stmt:=dB 38
theorem vK:av ["_law_state_here", "_law_many", "_law_found", "_law_stirred"] ["_law_state_here", "_law_many"] (ag jL):=by walk_at"a3"
abbrev fw:Stmt:=dB 39
theorem nu:av ["_law_one", "_law_other"] ["_law_one", "_law_other"] (ag fw):=by walk_at"a3"
abbrev mX:Stmt:=dB 40
theorem Bk:av ["_law_top", "_law_bottom", "_law_by"] ["_law_top", "_law_bottom"] (ag mX):=by walk_at"a3"
abbrev iH:Stmt:=dB 41
theorem tZ:av ["_law_state_here"] ["_law_state_here"] (ag iH):=by walk_at"a3"
abbrev fv:Stmt:=dB 42
theorem mR:av ["_law_state_here", "_law_most", "_law_found", "_law_near", "_law_turn", "_law_number", "_law_kind", "_law_many", "_law_by"] ["_law_state_here", "_law_most"] (ag fv):=by walk_at"a3"
abbrev iA:Stmt:=dB 43
theorem ub:av ["_law_numbers", "_law_many"] ["_law_numbers"] (ag iA):=by walk_at"a3"
abbrev jJ:Stmt:=dB 44
theorem xD:av ["_law_one", "_law_other"] ["_law_one", "_law_other"] (ag jJ):=by walk_at"a3"
abbrev iK:Stmt:=dB 45
theorem sX:av ["_law_one", "_law_other"] ["_law_one", "_law_other"] (ag iK):=by walk_at"a3"
abbrev cU:Stmt:=dB 46
theorem jf:av ["_law_f", "_law_g", "_law_found", "_law_i", "_law_j"] ["_law_f", "_law_g"] (ag cU):=by walk_at"a3"
abbrev cS:Stmt:=dB 47
theorem jm:av ["_law_factors_here", "_law_found", "_law_kind", "_law_number", "_law_many", "_law_lesser", "_law_one", "_law_turn"] ["_law_factors_here"] (ag cS):=by walk_at"a3"
abbrev gh:Stmt:=dB 48
theorem qK:av ["_law_x"] ["_law_x"] (ag gh):=by walk_at"a3"
abbrev jv:Stmt:=dB 49
theorem yt:av ["_law_one", "_law_other"] ["_law_one", "_law_other"] (ag jv):=by walk_at"a3"
abbrev ix:Stmt:=dB 50
theorem tI:av ["_law_factors_here", "_law_found", "_law_kind", "_law_number", "_law_many", "_law_some", "_law_one"] ["_law_factors_here"] (ag ix):=by walk_at"a3"
abbrev gi:Stmt:=dB 51
theorem qC:av ["_law_marks_here", "_law_low_here", "_law_high", "_law_found", "_law_one", "_law_is_above"] ["_law_marks_here", "_law_low_here", "_law_high"] (ag gi):=by walk_at"a3"
abbrev fG:Stmt:=dB 52
theorem mF:av ["_law_call", "_law_error", "e", "_law_kinds"] ["_law_call"] (ag fG):=by walk_at"a3"
abbrev jN:Stmt:=dB 53
theorem xK:av ["_law_state_here", "_law_factors_here", "_law_some"] ["_law_state_here", "_law_factors_here"] (ag jN):=by walk_at"a3"
abbrev fJ:Stmt:=dB 54
theorem v9:av ["_law_script", "_law_k", "_law_state_here", "_law_factors_here", "_law_f", "_law_marks_here", "_law_pairs", "_law_low_here", "_law_high", "_law_due", "_law_found"] ["_law_script"] (ag fJ):=by walk_at"a3"
structure ge (K:W.Frag)(mg:Str->Option Value):Prop where
 non:True
 b_abs:mg "abs" = none
 b_range:mg "range" = none
 b_len:mg "len" = none
 b_reversed:mg "reversed" = none
 b_max:mg "max" = none
 b_list:mg "list" = none
 b_min:mg "min" = none
 b_isinstance:mg "isinstance" = none
 b_ValueError:mg "ValueError" = none
 b_bool:mg "bool" = none
set_option compiler.extract_closed false
local macro_rules | `(tactic| walk_at "m")=>`(tactic| try simp only [L2.start,List.map_cons,List.map_nil,List.cons_append,List.nil_append,List.replicate_succ,List.replicate_zero,List.length_cons,List.length_nil,Nat.reduceSub,Nat.reduceAdd,Nat.zero_add,ww,uE,Br,tK,Ff,zX,CS,AH,FA,Eo,E6,Bm,AY,Dp,C8,BJ,Dm,Ab,BX,zF,zw,C9,Dl,zY,AA,sP,yp,D7,EA])
local macro_rules | `(tactic| walk_at "d")=>`(tactic| try dsimp only [aQ,lZ,wz,BN,BW,Eh,xu,rg,ij,EI,m4,yv,CY,tC,Ae,Fe,Df,yG,Fw,BD,yh,Bz,By,E9,BM,E7,mV,qG,Ct,qY,id,Fy,nK,pP,EJ,ww,D5,aY,zr,List.getElem?_cons_zero,List.getElem?_cons_succ,List.set_cons_zero,List.set_cons_succ,L2.start,Option.join,Option.bind,List.map_cons,List.map_nil,List.replicate_succ,List.replicate_zero,List.cons_append,List.nil_append,List.length_cons,List.length_nil,Nat.reduceSub,Nat.reduceAdd,Nat.zero_add,Ef,ud,xy,Dq,yz,mI,Fo,mU,zZ,zD,Cm,CV,Cn,CO,x6,DY,yx,wp,C3,Er,xg,wr,uX,vB,vV,Fk,Fh,zL,ye,wF,xM,Cj,De,cond])
local macro_rules | `(tactic| walk_at "s")=>`(tactic| try simp only [kP,zt,List.map_cons,List.map_nil,List.cons_append,List.nil_append,List.replicate_succ,List.replicate_zero,Option.join,Option.bind,aY,EM,EF,rI,rU,io,cA,cV,jP,kq,oT,zd,zo,uN,wf,m4,yv,uO,DH,DJ,eU,kY,jE,iq,A5,pR,fO,iT,D3,AC,HO.lst.injEq,HO.tup.injEq,yQ,yd,Fi,vY,exists_eq_left,exists_eq_left',exists_and_left,exists_and_right,V.int.injEq,V.bl.injEq,V.ref.injEq,V.str.injEq,V.ty.injEq,List.cons.injEq,and_true,true_and,and_self,List.getElem?_cons_zero,List.getElem?_cons_succ,Option.some.injEq,List.set_cons_zero,List.set_cons_succ,reduceCtorEq,or_false,false_or,false_and,and_false,exists_false,exists_eq,exists_eq',and_assoc,List.length_cons,List.length_nil,Nat.reduceSub,Nat.reduceAdd,Nat.zero_add,Bool.not_eq_true',decide_eq_false_iff_not,decide_eq_true_eq,Ai,we,xh,u6,ne_eq,not_true_eq_false,not_false_eq_true,ite_true,ite_false,if_true,if_false,Bool.false_eq_true,Bool.not_true,Bool.not_false,Bool.true_eq_false])
local macro_rules | `(tactic| walk_at "vc")=>`(tactic| (walk_at "d"; walk_at "s"; walk_at "d"; walk_at "s"; walk_at "d"; walk_at "s"))
local macro_rules | `(tactic| walk_at "vc*")=>`(tactic| (walk_at "vc"; (repeat (simp only [*]; walk_at "vc"))))
section
variable {P:Program}{w:World}{K:W.Frag}{mg:Str->Option Value}{base:Heap}{f:Addr}{fd:FuncData}
def aZ(K:W.Frag):Sp:=fun vs H Q _=>∃ a b:Int,vs=[.int a,.int b]/\Q (.int (Int.gcd a b)) H
theorem iO(F:eE K "greatest_divisor" "greatest_divisor" be f fd) (T:ge K mg):bB P w K mg base dZ 1 f fd ["one", "other"] (aZ K):=by
 have scN:=fg.nd
 refine F.okQ fg (fun vs H Q E h=>?_) (fun cdv A outer s H vs Q E hr h=>?_)
 ·obtain⟨a,b,rfl,_⟩:=h
  rfl
 ·obtain⟨a,b,rfl,h⟩:=h
  refine⟨_,(af (oO (i:=0) (j:=1) rfl scN rfl rfl (by decide) rfl rfl (aa (au jq (by rfl) T.b_abs oQ (aa (qv 0) ac)) (aa (au jq (by rfl) T.b_abs oQ (aa (qv 1) ac)) ac)) rfl)
   (af (gf PassesOwn.never (aF qw (qv 1) ae (aJ _)) (ah (oO (i:=0) (j:=1) rfl scN rfl rfl (by decide) rfl rfl (aa (qv 1) (aa (ap fk (qv 0) (qv 1)) ac)) rfl)))
   (ah (aB (qv 0))))),?_⟩
  walk_at"m"
  walk_at"vc"
  refine⟨fun m σ H'=>H'=H /\ ∃ x y:Int,σ=[some (.int x),some (.int y)]/\Int.gcd x y=Int.gcd a b/\0<=x/\0<=y/\m=y.natAbs,⟨_,rfl,_,_,rfl,?_,?_,?_,rfl⟩,?_⟩
  ·split <;> split <;> simp
  ·split <;> walk_at"o"
  ·split <;> walk_at"o"
  ·rintro m σ H' ⟨rfl,x,y,rfl,hg,hx,hy,rfl⟩
   walk_at"vc"
   refine cO (fun hy0=>?_) (fun hy0=>?_)
   ·refine⟨_,fun σ' H' h=>h,?_⟩
    walk_at"vc"
    exact⟨hy0,_,uk x hy0,by rw[qL,hg],hy,Int.fmod_nonneg_of_pos x (by walk_at"o"),rfl⟩
   ·walk_at"vc"
    have e:((Int.gcd a b:Nat):Int)=x:=by
     rw[<- hg,show y=0 by walk_at"o"]
     simp
     walk_at"o"
    rw[<- e]
    exact h
def gI(K:W.Frag):Sp:=fun vs H Q _=>∃ (a:Addr)(qs:List (Int × Int))(B:Nat),vs=[.ref a]/\cG (vw K H) a qs/\qs.length<=14/\B<=4000000/\(∀ q ∈ qs,Fq q/\Bq B q) /\
 ∀ p b H' (D:Int)(ns:List Int),ar (vw K H) (vw K H')->vw K H' p=some (.tup [.ref b,.int D])->vw K H' b=some (.lst (ns.map V.int))->vw K H b=none->0<D->Bt (1+qs.length*B) D->ns.length=qs.length ->
  (∀ (i:Nat)(n:Int)(q:Int × Int),ns[i]? = some n->qs[i]? = some q->(n:Rat)=wv q*(D:Rat)/\Bt (1+qs.length*B+B) n)->(∀ E:Int,(∀ q ∈ qs,q.2 ∣ E)->D ∣ E)->Q (.ref p) H'
theorem rN(F:eE K "cleared" "cleared" fD f fd) (T:ge K mg)(N_:mv P base)(C_greatest_divisor:bU P w K mg base "greatest_divisor" ["one", "other"] 1 (aZ K)):bB P w K mg base dZ 2 f fd ["f"] (gI K):=by
 have scN:=kJ.nd
 refine F.okQ kJ (fun vs H Q E h=>?_) (fun cdv A outer s H vs Q E hr h=>?_)
 ·obtain⟨a,_,_,rfl,_⟩:=h
  rfl
 ·obtain⟨a,qs,B,rfl,ha,hql,hB,hq,h⟩:=h
  refine⟨_,(af (ao (i:=1) scN rfl (by walk_at"a1") ae)
   (af (cL PassesOwn.never rfl (bz (qv 0)) (ak (i:=2) scN rfl (by walk_at"a1")) (ah (hJ (i:=1) scN rfl (by walk_at"a1") (ap (hU N_ hr rfl rfl rfl) (ay cy (qv 2) ae (fun _ _=>rfl)) (aj C_greatest_divisor (hr.mono (by walk_at"a2")) rfl (aa (qv 1) (aa (ay cy (qv 2) ae (fun _ _=>rfl)) ac)))) kz)))
   (ah (aB (aD (aa (dI (own:=["top", "own"]) (outs:=["bottom"]) (ixs:=[1]) rfl (bz (qv 0)) rfl ⟨rfl,rfl,rfl,⟨rfl,trivial⟩,rfl,⟨⟨rfl,rfl,rfl,_,rfl⟩,trivial⟩⟩ (fun _ _ _ _=>⟨(show QG _ _ (pR K 2 _) from eJ (n:=2) rfl (aI (ak (i:=0) (show (["top", "own", "bottom"]:List Str).Nodup by decide +kernel) rfl (by walk_at"a1")) (aI (ak (i:=1) (show (["top", "own", "bottom"]:List Str).Nodup by decide +kernel) rfl (by walk_at"a1")) eH))),eY,(ap (show eD _ _ (gX K) from aV) (qv 0) (ap (p8 N_ hr rfl rfl rfl rfl rfl) (qv 2) (qv 1)))⟩)) (aa (qv 1) ac))))))),?_⟩
  walk_at"m"
  walk_at"vc"
  obtain⟨xs,hxs,rxs⟩:=id ha
  have hlx:xs.length=qs.length:=by rw[rxs.length,List.length_map]
  have hLB:∀ i,i<=qs.length->i*B<=56000000:=fun i hi=>Nat.le_trans (Nat.mul_le_mul (Nat.le_trans hi hql) hB) (by decide)
  refine⟨⟨xs,.of (aC hxs)⟩,?_⟩
  obtain⟨Pv,hPv⟩ : ∃ Pv:Nat->St->Hp->Prop,∀ i σ H',Pv i σ H' ↔ H'=H /\ ∃ b y,σ=[some (.ref a),some (.int b),y]/\0<b/\Bt (1+i*B) b/\(∀ q ∈ qs.take i,q.2 ∣ b) /\ ∀ E:Int,(∀ q ∈ qs.take i,q.2 ∣ E)->b ∣ E:=⟨_,fun _ _ _=>Iff.rfl⟩
  refine aO (its:=xs) Pv (fun i σ H' _ p=>?_) ((hPv _ _ _).mpr ⟨rfl,_,_,rfl,by decide,by rw[Nat.zero_mul];decide,(by simp),fun E _=>Int.one_dvd E⟩) (fun i x σ H1 hi hx pv=>?_) (fun σ H1 pv=>?_)
  ·obtain⟨rfl,_⟩:=(hPv _ _ _).mp p
   exact aE hxs
  ·obtain⟨rfl,b,y,rfl,hb,bb,hd,hm⟩:=(hPv _ _ _).mp pv
   have hi':i<qs.length:=by walk_at"o"
   obtain⟨d,e,r⟩:=rxs.get hx
   rw[List.getElem?_map,List.getElem?_eq_getElem hi'] at e
   cases e
   obtain⟨p,rfl,hp⟩:=r.fr_at
   obtain⟨fq,bq⟩:=hq qs[i] (List.getElem_mem hi')
   obtain⟨l1,l2,l3,l4,l5⟩:=qf hb fq.1
   walk_at"vc"
   simp only[aZ]
   walk_at"vc"
   refine⟨_,hp,_,iT,_,hp,_,iT,_,rfl,?_⟩
   walk_at"vc"
   have hgb:Bt B (Int.gcd b qs[i].2:Int):=bq.2.le (by walk_at"o") l5
   have hcb:Bt B (qs[i].2.fdiv (Int.gcd b qs[i].2:Int)):=bq.2.le (by walk_at"o") l2
   have:=hLB i (by walk_at"o")
   refine⟨l4,cw bb hcb (by walk_at"o"),(hPv _ _ _).mpr ⟨rfl,_,_,rfl,Int.mul_pos hb l1,(bb.mul hcb).mono (by rw[Nat.add_mul];walk_at"o"),fun q hq'=>?_,fun E hE=>?_⟩⟩
   ·rw[List.take_add_one,List.getElem?_eq_getElem hi'] at hq'
    rcases List.mem_append.mp hq' with z|z
    ·exact Int.dvd_trans (hd q z) (Int.dvd_mul_right _ _)
    ·cases List.mem_singleton.mp z
     exact l3
   ·rw[List.take_add_one,List.getElem?_eq_getElem hi'] at hE
    exact Ao hb fq.1 (hm E fun q z=>hE q (List.mem_append.mpr (.inl z))) (hE _ (List.mem_append.mpr (.inr (List.mem_singleton.mpr rfl))))
  ·obtain⟨rfl,D,y,rfl,hD,bD,hd,hmin⟩:=(hPv _ _ _).mp pv
   rw[hlx] at bD hd hmin
   rw[List.take_length] at hd hmin
   have hLBq:=hLB qs.length (Nat.le_refl _)
   walk_at"vc"
   refine⟨⟨xs,.of (aC hxs)⟩,fun c H2 hc S2 h2=>?_⟩
   refine re (its:=xs) (ps:=qs.map fun q=>(V.int q.1,V.int q.2)) (fun i ys H'=>ar (vw K H1) (vw K H')/\ys=(qs.take i).map fun q=>V.int (q.1*D.fdiv q.2)) (by rw[List.length_map];exact hlx) (fun i ys H' _ _ p=>⟨aE (p.1 _ _ hxs),fun j u v e=>?_⟩) h2 ⟨S2,rfl⟩ (fun i u v ys H' hi huv h' p=>?_) (fun ys H' h' p=>?_)
   ·rw[List.getElem?_map] at e
    cases e2:qs[j]? with
    | none=>rw[e2] at e;cases e
    | some q =>
     rw[e2] at e
     cases e
     obtain⟨x,e3,r⟩:=rxs.at (i:=j) (d:=fr q) (by rw[List.getElem?_map,e2];rfl)
     obtain⟨p2,rfl,hp2⟩:=r.fr_at
     exact⟨p2,e3,p.1 _ _ hp2⟩
   ·obtain⟨S',rfl⟩:=p
    rw[List.length_map] at hi
    rw[List.getElem?_map,List.getElem?_eq_getElem hi] at huv
    cases huv
    obtain⟨fq,bq⟩:=hq qs[i] (List.getElem_mem hi)
    obtain⟨c1,c2,c3⟩:=pK fq (hd qs[i] (List.getElem_mem hi)) hD bD bq.1
    walk_at"vc"
    refine⟨(show yZ _ _ from fun z=>by have:=fq.1;walk_at"o"),cw bq.1 c3 (by walk_at"o"),.mk2 h' ?_ fun H5 B5 h5=>⟨fun b o e=>B5 _ _ (ai e hc) (S' _ _ e),?_⟩⟩
    ·rw[List.length_map,List.length_take]
     have:1000<=sizeLine:=by decide
     walk_at"o"
    ·rw[List.take_add_one,List.getElem?_eq_getElem hi,List.map_append]
     rfl
   ·obtain⟨S',rfl⟩:=p
    rw[List.length_map,List.take_length] at h'
    walk_at"vc"
    refine⟨by decide,fun p5 H5 hp5 S5 h5=>h p5 c H5 D (qs.map fun q=>q.1*D.fdiv q.2) (S'.trans S5) h5 (by rw[List.map_map];exact S5 _ _ h') hc hD bD (by rw[List.length_map]) (fun i n q e1 e2=>?_) hmin⟩
    rw[List.getElem?_map,e2] at e1
    cases e1
    have hm:=List.mem_of_getElem? e2
    obtain⟨fq,bq⟩:=hq q hm
    obtain⟨c1,c2,c3⟩:=pK fq (hd q hm) hD bD bq.1
    exact⟨c1,c2⟩
def jV(K:W.Frag):Sp:=fun vs H Q _=>∃ (a:Addr)(ns:List Int),vs=[.ref a,.int 0]/\vw K H a=some (.lst (ns.map V.int)) /\
 ∀ b H' (ms:List Int),ar (vw K H) (vw K H')->vw K H' b=some (.lst (ms.map V.int))->vw K H b=none->(∀ k,nz ms k=nz ns k)->ms.length<=ns.length->(ms.length ≠ 0->nz ms (ms.length - 1) ≠ 0)->Q (.ref b) H'
def gJ(K:W.Frag):Sp:=fun vs H Q E=>(∃ (a z:Addr)(qs:List (Int × Int)),vs=[.ref a,.ref z]/\cG (vw K H) a qs/\vw K H z=some (.tup [.int 0,.int 1])/\(∀ q ∈ qs,Fq q) /\
 ∀ b H' (rs:List (Int × Int)),ar (vw K H) (vw K H')->cG (vw K H') b rs->vw K H b=none->ei rs->(∀ k,cf rs k=cf qs k)->rs.length<=qs.length->(∀ q ∈ rs,q ∈ qs)->Q (.ref b) H')\/jV K vs H Q E
theorem rB(F:eE K "trimmed" "trimmed" fB f fd) (T:ge K mg):bB P w K mg base dZ 1 f fd ["numbers", "zero"] (gJ K):=by
 have scN:=kN.nd
 refine F.okQ kN (fun vs H Q E h=>?_) (fun cdv A outer s H vs Q E hr h=>?_)
 ·rcases h with ⟨a,_,_,rfl,_⟩|⟨a,_,rfl,_⟩ <;> rfl
 rcases h with ⟨a,z,qs,rfl,ha,hz,hF,h⟩|⟨a,ns,rfl,ha,h⟩
 ·skip
  refine⟨_,(af (ao (i:=2) scN rfl (by walk_at"a1") (au aN (by rfl) T.b_len ck (aa (qv 0) ac)))
   (af (gf PassesOwn.never (QW.pt (gF (aF pQ (qv 2) ae (aJ _)) (gE (aF (rX hr.u64) (ay dX (qv 0) (ap dA (qv 2) ae) (fun _ _=>rfl)) (qv 1) (aJ _))))) (ah (hJ (i:=2) scN rfl (by walk_at"a1") ae rC)))
   (ah (aB (lY kU (qv 0) ph (oJ (qv 2))))))),?_⟩
  walk_at"m"
  walk_at"vc"
  refine⟨_,ha.len,fun m σ H'=>H'=H/\m<=qs.length/\(∀ q ∈ qs.drop m,q.1=0)/\σ=[some (.ref a),some (.ref z),some (.int m)],⟨_,rfl,Nat.le_refl _,by simp,rfl⟩,?_⟩
  rintro k σ H' ⟨rfl,hk,hdr,rfl⟩
  obtain⟨xs,hax,rx⟩:=ha
  have hlx:xs.length=qs.length:=by rw[rx.length,List.length_map]
  have fin:(∀ q,(qs.take k).getLast? = some q->q.1 ≠ 0)->Nw K H' (HO.lst (kX xs none (some (k:Int)))) Q:=fun hq p H2 hp S2 h2=>by
   rw[rR (by walk_at"o")] at h2
   refine h p H2 (qs.take k) S2 ⟨_,h2,?_⟩ hp ⟨fun q hq'=>hF q (List.mem_of_mem_take hq'),hq⟩ (uj hF hdr) (by rw[List.length_take];walk_at"o") fun q hq'=>List.mem_of_mem_take hq'
   rw[List.map_take]
   exact (rx.take k).same S2
  walk_at"vc"
  refine cO (fun h0=>?_) (fun h0=>?_)
  ·have hk1:k - 1<qs.length:=by walk_at"o"
   obtain⟨x,hx,r⟩:=rx.at (i:=k - 1) (d:=fr qs[k - 1]) (by rw[List.getElem?_map,List.getElem?_eq_getElem hk1];rfl)
   have e1:((k:Int) - 1)=((k - 1:Nat):Int):=by walk_at"o"
   have fq:=hF qs[k - 1] (List.getElem_mem hk1)
   refine⟨_,hax,_,by rw[e1];exact cq hx,_,r,fr (0,1),aT hz,rZ _,rZ _,?_⟩
   rw[vI]
   refine cO (fun hq=>?_) (fun hq=>?_)
   ·have hq0:qs[k - 1].1=0:=(tf fq).mp (of_decide_eq_true hq)
    refine⟨_,fun σ' H'' z=>z,?_⟩
    refine⟨_,_,rfl,rfl,k - 1,by walk_at"o",rfl,by walk_at"o",fun q' hq'=>?_,by rw[<- e1]⟩
    rw[List.drop_eq_getElem_cons hk1,show k - 1+1=k by walk_at"o"] at hq'
    rcases List.mem_cons.mp hq' with z|z
    ·rw[z]
     exact hq0
    ·exact hdr q' z
   ·refine⟨_,hax,fin fun q hq2=>?_⟩
    have:(qs.take k).getLast? = some qs[k - 1]:=by
     rw[List.getLast?_eq_getElem?,List.length_take,List.getElem?_take]
     rw[if_pos (by walk_at"o"),show min k qs.length - 1=k - 1 by walk_at"o",List.getElem?_eq_getElem hk1]
    rw[this] at hq2
    cases hq2
    exact fun e=>hq (decide_eq_true ((tf fq).mpr e))
  ·refine⟨_,hax,fin fun q hq=>?_⟩
   rw[show k=0 by walk_at"o"] at hq
   cases hq
 ·refine⟨_,(af (ao (i:=2) scN rfl (by walk_at"a1") (au aN (by rfl) T.b_len ck (aa (qv 0) ac)))
   (af (gf PassesOwn.never (QW.pt (gF (aF pQ (qv 2) ae (aJ _)) (gE (aF (rX hr.u64) (ay dX (qv 0) (ap dA (qv 2) ae) (fun _ _=>rfl)) (qv 1) (aJ _))))) (ah (hJ (i:=2) scN rfl (by walk_at"a1") ae rC)))
   (ah (aB (lY kU (qv 0) ph (oJ (qv 2))))))),?_⟩
  walk_at"m"
  walk_at"vc"
  have hln:gT (vw K H) a=some ns.length:=by simp only[gT,ha,List.length_map]
  refine⟨_,hln,fun m σ H'=>H'=H/\m<=ns.length/\(∀ q ∈ ns.drop m,q=0)/\σ=[some (.ref a),some (.int 0),some (.int m)],⟨_,rfl,Nat.le_refl _,by simp,rfl⟩,?_⟩
  rintro k σ H' ⟨rfl,hk,hdr,rfl⟩
  have fin:(k ≠ 0->nz ns (k - 1) ≠ 0)->Nw K H' (HO.lst (kX (ns.map V.int) none (some (k:Int)))) Q:=fun hz p H2 hp S2 h2=>by
   rw[rR (by simpa using hk),<- List.map_take] at h2
   exact h p H2 (ns.take k) S2 h2 hp (sI hdr) (by rw[List.length_take];walk_at"o") (by rw[List.length_take,Nat.min_eq_left hk,sI hdr];exact hz)
  walk_at"vc"
  refine cO (fun h0=>?_) (fun h0=>?_)
  ·have hk1:k - 1<ns.length:=by walk_at"o"
   have e1:((k:Int) - 1)=((k - 1:Nat):Int):=by walk_at"o"
   have hx:(ns.map V.int)[k - 1]? = some (V.int ns[k - 1]):=by rw[List.getElem?_map,List.getElem?_eq_getElem hk1];rfl
   refine⟨_,ha,_,by rw[e1];exact cq hx,_,.mk_int _,.int 0,.mk_int _,t8 _,t8 _,?_⟩
   rw[zp]
   refine cO (fun hq=>?_) (fun hq=>?_)
   ·have hq0:ns[k - 1]=0:=of_decide_eq_true hq
    refine⟨_,fun σ' H'' z=>z,?_⟩
    refine⟨_,_,rfl,rfl,k - 1,by walk_at"o",rfl,by walk_at"o",fun q' hq'=>?_,by rw[<- e1]⟩
    rw[List.drop_eq_getElem_cons hk1,show k - 1+1=k by walk_at"o"] at hq'
    rcases List.mem_cons.mp hq' with z|z
    ·rw[z]
     exact hq0
    ·exact hdr q' z
   ·exact⟨_,ha,fin fun _=>by rw[bC (List.getElem?_eq_getElem hk1)];exact fun e=>hq (decide_eq_true e)⟩
  ·exact⟨_,ha,fin fun z=>by walk_at"o"⟩
def bM(K:W.Frag):Sp:=fun vs H Q _=>∃ (a b:Addr)(ms ns:List Int)(m c:Nat),vs=[.ref a,.ref b]/\vw K H a=some (.lst (ms.map V.int))/\vw K H b=some (.lst (ns.map V.int))/\0<ns.length/\nz ns (ns.length - 1) ≠ 0/\ms.length<=14/\ns.length<=9/\m<=40000000/\c<=20000/\(∀ x ∈ ms,Bt m x)/\(∀ x ∈ ns,Bt c x) /\
 ∀ (p qa ra:Addr)(S:Int)(qs rs:List Int)(H':Hp),ar (vw K H) (vw K H')->vw K H' p=some (.tup [.ref qa,.ref ra,.int S])->vw K H' qa=some (.lst (qs.map V.int))->vw K H' ra=some (.lst (rs.map V.int))->vw K H ra=none->qs.length=ms.length+1 - ns.length->rs.length<ns.length->(∃ e,e<=ms.length+1 - ns.length/\S=nz ns (ns.length - 1) ^ e)->(As ms ns->S=1)->Bt 300000 S->(∀ x ∈ qs,Bt (m+400000) x)->(∀ x ∈ rs,Bt (m+400000) x)->(rs.length ≠ 0->nz rs (rs.length - 1) ≠ 0)->(∀ k,S*nz ms k=pz (nz qs) (nz ns) qs.length k+nz rs k)->Q (.ref p) H'
theorem jA(F:eE K "wholes_parted" "wholes_parted" b9 f fd) (T:ge K mg)(N_:mv P base)(C_trimmed:bU P w K mg base "trimmed" ["numbers", "zero"] 1 (gJ K)):bB P w K mg base dZ 2 f fd ["one", "other"] (bM K):=by
 have scN:=gk.nd
 refine F.okQ gk (fun vs H Q E h=>?_) (fun cdv A outer s H vs Q E hr h=>?_)
 ·obtain⟨a,_,_,_,_,_,rfl,_⟩:=h
  rfl
 ·obtain⟨a,b,ms,ns,m,c,rfl,ha,hb,ln0,hL,lm,ln,hm,hc,bm,bn,h⟩:=h
  refine⟨_,(af (ao (i:=2) scN rfl (by walk_at"a1") (ay dX (qv 1) (fS dM ae) (fun _ _=>rfl)))
   (af (ao (i:=3) scN rfl (by walk_at"a1") (mB ly (by rfl) T.b_list ur (aa (qv 0) ac)))
   (af (ao (i:=4) scN rfl (by walk_at"a1") (ap aV (aK (aa ae ac)) (au (m7 rfl) (by rfl) T.b_max vU (aa ae (aa (ap bJ (ap dA (au aN (by rfl) T.b_len ck (aa (qv 0) ac)) (au aN (by rfl) T.b_len ck (aa (qv 1) ac))) ae) ac)))))
   (af (ao (i:=5) scN rfl (by walk_at"a1") ae)
   (af (cL PassesOwn.never rfl (u4 rfl T.b_range (aa (ap dA (au aN (by rfl) T.b_len ck (aa (qv 0) ac)) (au aN (by rfl) T.b_len ck (aa (qv 1) ac))) (aa (fS dM ae) (aa (fS dM ae) ac)))) (ak (i:=6) scN rfl (by walk_at"a1")) (af (ao (i:=7) scN rfl (by walk_at"a1") (BF PySem.F.plainAttrs_list PySem.F.slot_list_pop PySem.F.type_list_pop AI (qv 3)))
   (af (cW (aF hZ (ap fk (qv 7) (qv 2)) ae (aJ _)) (ah (hJ (i:=7) scN rfl (by walk_at"a1") (qv 2) (wX N_ hr rfl rfl rfl))) (af (hJ (i:=5) scN rfl (by walk_at"a1") (qv 2) kz)
   (af (kB (i:=4) (own:=["whole"]) (outs:=["last"]) (ixs:=[2]) scN rfl (by walk_at"a1") rfl (bz (qv 4)) rfl ⟨rfl,rfl,rfl,⟨rfl,trivial⟩,rfl,⟨⟨rfl,rfl,rfl,_,rfl⟩,trivial⟩⟩ (fun _ _ _ _=>⟨(ak (i:=0) (show (["whole", "last"]:List Str).Nodup by decide +kernel) rfl (by walk_at"a1")),eY,(ap (show eD _ _ (gX K) from aV) (qv 1) (qv 0))⟩))
   (ah (kB (i:=3) (own:=["whole"]) (outs:=["last"]) (ixs:=[2]) scN rfl (by walk_at"a1") rfl (bz (qv 3)) rfl ⟨rfl,rfl,rfl,⟨rfl,trivial⟩,rfl,⟨⟨rfl,rfl,rfl,_,rfl⟩,trivial⟩⟩ (fun _ _ _ _=>⟨(ak (i:=0) (show (["whole", "last"]:List Str).Nodup by decide +kernel) rfl (by walk_at"a1")),eY,(ap (show eD _ _ (gX K) from aV) (qv 1) (qv 0))⟩))))))
   (af (gz (qv 7) (oB (qv 4) (qv 6) gv))
   (ah (cL PassesOwn.never rfl (cT rfl T.b_range (aa (ap dA (au aN (by rfl) T.b_len ck (aa (qv 1) ac)) ae) ac)) (ak (i:=8) scN rfl (by walk_at"a1")) (ah (Ar (qv 3) (ap bJ (qv 6) (qv 8)) uS (ap aV (qv 7) (ay dX (qv 1) (qv 8) (fun _ _=>rfl))) rC gv))))))))
   (ah (aB (aD (aa (qv 4) (aa (aj C_trimmed (hr.mono (by walk_at"a2")) rfl (aa (qv 3) (aa ae ac))) (aa (qv 5) ac))))))))))),?_⟩
  walk_at"m"
  skip
  obtain⟨L,hLd⟩ : ∃ L,L=nz ns (ns.length - 1):=⟨_,rfl⟩
  have hgl:ns.length - 1<ns.length:=by walk_at"o"
  have nl:ns[ns.length - 1]=L:=by rw[hLd,bC (List.getElem?_eq_getElem hgl)]
  have bL:Bt c L:=nl ▸ bn _ (List.getElem_mem hgl)
  rw[<- hLd] at hL
  have xl:(ns.map V.int).getLast? = some (.int L):=by
   rw[List.getLast?_eq_getElem?,List.length_map,List.getElem?_map,List.getElem?_eq_getElem hgl,nl]
   rfl
  refine aQ.gen fun N1 hN1=>?_
  walk_at"vc"
  refine⟨_,hb,_,iz xl,hN1 _ _ ?_⟩
  refine aQ.gen fun N2 hN2=>?_
  walk_at"vc"
  refine⟨_,ha,fun r1 H1 hr1 S1 h1=>hN2 _ _ ?_⟩
  refine aQ.gen fun N3 hN3=>?_
  walk_at"vc"
  have lena:∀ {H':Hp},ar (vw K H) (vw K H')->gT (vw K H') a=some ms.length:=fun S=>by simp only[gT,S _ _ ha,List.length_map]
  have lenb:∀ {H':Hp},ar (vw K H) (vw K H')->gT (vw K H') b=some ns.length:=fun S=>by simp only[gT,S _ _ hb,List.length_map]
  refine⟨by decide,fun p2 H2 hp2 S2 h2=>?_⟩
  have S02:=S1.trans S2
  refine⟨_,lena S02,_,lenb S02,?_⟩
  obtain⟨n,hn,hnn⟩ : ∃ n:Nat,(if (ms.length:Int) - (ns.length:Int)+1 > 0 then (ms.length:Int) - (ns.length:Int)+1 else 0)=(n:Int)/\n=ms.length+1 - ns.length:=by
   refine⟨ms.length+1 - ns.length,?_,rfl⟩
   split <;> walk_at"o"
  rw[hn,kY]
  refine⟨_,h2,by walk_at"o",by walk_at"o",?_,fun q1 H3 hq1 S3 h3=>hN3 _ _ ?_⟩
  ·have:1000<=sizeLine:=by decide
   simp
   walk_at"o"
  rw[show ((n:Nat):Int).toNat=n by walk_at"o",qM] at h3
  have S03:=S02.trans S3
  refine aQ.gen fun N4 hN4=>?_
  walk_at"vc"
  refine hN4 _ _ ?_
  refine aQ.gen fun N5 hN5=>?_
  walk_at"vc"
  simp only[xm]
  walk_at"vc"
  refine⟨_,lena S03,_,lenb S03,by walk_at"o",by walk_at"o",by decide,by decide,?_⟩
  rw[show ((ms.length:Int) - (ns.length:Int) - -1).toNat=n by walk_at"o"]
  have nr1:vw K H r1=none:=hr1
  have nq1:vw K H q1=none:=S02.none hq1
  obtain⟨Pv,hPv⟩ : ∃ Pv:Nat->St->Hp->Prop,∀ i σ H',Pv i σ H' ↔ ∃ (ra qa:Addr)(rs qs:List Int)(S:Int)(o6 o7 o8:Option V),σ=[some (.ref a),some (.ref b),some (.int L),some (.ref ra),some (.ref qa),some (.int S),o6,o7,o8]/\ar (vw K H) (vw K H') /\
    vw K H' ra=some (.lst (rs.map V.int))/\vw K H' qa=some (.lst (qs.map V.int))/\vw K H ra=none/\vw K H qa=none/\ra ≠ qa/\rs.length+i=ms.length/\qs.length=n/\(∃ e,e<=i/\S=L ^ e/\(As ms ns->S=1))/\Bt (1+c*i) S/\(∀ x ∈ rs,Bt (m+(c+1)*i) x)/\(∀ x ∈ qs,Bt (m+(c+1)*i) x) /\
    (∀ k,k+i+ns.length<=ms.length->nz qs k=0)/\(∀ k,S*nz ms k=pz (nz qs) (nz ns) n k+nz rs k):=⟨_,fun _ _ _=>Iff.rfl⟩
  refine aO (its:=vD ((ms.length:Int) - (ns.length:Int)) n) Pv (fun _ _ _ _ _=>wC) ((hPv _ _ _).mpr ⟨r1,q1,ms,List.replicate n 0,1,_,_,_,rfl,S03,(S2.trans S3) _ _ h1,?_,nr1,nq1,?_,by walk_at"o",by simp,⟨0,by walk_at"o",(Int.pow_zero _).symm,fun _=>rfl⟩,?_,fun x hx=>(bm x hx).mono (by walk_at"o"),fun x hx=>?_,fun k _=>?_,fun k=>?_⟩) (fun i x σ H4 hi hx pv=>?_) (fun σ H4 pv=>?_)
  ·rw[h3,t6]
  ·exact ai (S2 _ _ h1) hq1
  ·exact Bt.mono (m:=1) (by decide) (by walk_at"o")
  ·rw[(List.mem_replicate.mp hx).2]
   exact gy
  ·unfold nz
   rw[List.getD_eq_getElem?_getD,List.getElem?_replicate]
   split <;> rfl
  ·rw[sM (f:=nz (List.replicate n 0)) (fun i=>by
    unfold nz
    rw[List.getD_eq_getElem?_getD,List.getElem?_replicate]
    split <;> rfl)]
   walk_at"o"
  ·obtain⟨ra,qa,rs,qs,S,o6,o7,o8,rfl,S4,hra,hqa,nra,nqa,nrq,lrs,lqs,nS,bS,br,bq,zq,ev⟩:=(hPv _ _ _).mp pv
   obtain⟨hi',rfl⟩:=Dw hx
   obtain⟨p,hp⟩ : ∃ p:Nat,(ms.length:Int) - (ns.length:Int) - (i:Int)=(p:Int):=⟨ms.length - ns.length - i,by walk_at"o"⟩
   have hpi:p+i+ns.length=ms.length:=by walk_at"o"
   have hrl:rs.length - 1<rs.length:=by walk_at"o"
   obtain⟨Pt,hPt⟩ : ∃ Pt,Pt=rs[rs.length - 1]:=⟨_,rfl⟩
   have hi9:i<=13:=by walk_at"o"
   have hci:(c+1)*i<=20001*13:=Nat.mul_le_mul (by walk_at"o") hi9
   have hci2:c*i<=20000*13:=Nat.mul_le_mul hc hi9
   rw[hp]
   simp only[ij]
   refine aQ.gen fun M1 hM1=>?_
   walk_at"vc"
   have xp:(rs.map V.int)[(rs.map V.int).length - 1]? = some (.int Pt):=by
    rw[List.length_map,List.getElem?_map,List.getElem?_eq_getElem hrl,hPt]
    rfl
   refine⟨jM hra,_,hra,_,xp,fun H5 B5 h5=>hM1 _ _ ?_⟩
   rw[<- List.map_dropLast] at h5
   have S5:ar (vw K H) (vw K H5):=fun y o e=>B5 _ _ (ai e nra) (S4 _ _ e)
   have hqa5:=B5 _ _ nrq.symm hqa
   have bP:Bt (m+(c+1)*i) Pt:=hPt ▸ br _ (List.getElem_mem hrl)
   have dB:rs.length - 1=p+(ns.length - 1):=by walk_at"o"
   have nP:nz rs (p+(ns.length - 1))=Pt:=by rw[<- dB,bC (List.getElem?_eq_getElem hrl),hPt]
   have ldl:rs.dropLast.length+(i+1)=ms.length:=by rw[List.length_dropLast];walk_at"o"
   refine aQ.gen fun M2 hM2=>?_
   have key:∀ (ra' qa':Addr)(R:Nat->Int)(rs1 qs1:List Int)(S1 part:Int)(H':Hp),ar (vw K H) (vw K H')->vw K H' ra'=some (.lst (rs1.map V.int))->vw K H' qa'=some (.lst (qs1.map V.int))->vw K H ra'=none->vw K H qa'=none->ra' ≠ qa'->rs1.length+(i+1)=ms.length->qs1.length=n->(∃ e,e<=i+1/\S1=L ^ e/\(As ms ns->S1=1))->Bt (1+c*(i+1)) S1 ->
     (∀ x ∈ rs1,Bt (m+(c+1)*i+c) x)->(∀ x ∈ qs1,Bt (m+(c+1)*i+c) x)->Bt (m+(c+1)*i) part->(∀ k,k+i+ns.length<=ms.length->nz qs1 k=0)->(∀ k,S1*nz ms k=pz (nz qs1) (nz ns) n k+R k)->R (p+(ns.length - 1))=part*L->(∀ k,nz rs1 k=if k=p+(ns.length - 1) then 0 else R k) ->
     M2 [some (.ref a),some (.ref b),some (.int L),some (.ref ra'),some (.ref qa'),some (.int S1),some (.int p),some (.int part),o8] H':=by
    intro ra' qa' R rs1 qs1 S1 part H' Sx hr' hq' nr' nq' ne' l1 l2 n1 b1 b2 b3 b4 z1 e1 e2 e3
    refine hM2 _ _ ?_
    refine aQ.gen fun M3 hM3=>?_
    walk_at"vc"
    refine⟨_,hq',p,ou (by rw[List.length_map];walk_at"o"),fun H7 B7 h7=>hM3 _ _ ?_⟩
    rw[<- List.map_set] at h7
    have S7:ar (vw K H) (vw K H7):=fun y o e=>B7 _ _ (ai e nq') (Sx _ _ e)
    have hr7:=B7 _ _ ne' hr'
    walk_at"vc"
    refine⟨_,lenb S7,by walk_at"o",by walk_at"o",?_⟩
    rw[show ((ns.length:Int) - 1).toNat=ns.length - 1 by walk_at"o"]
    obtain⟨Pw,hPw⟩ : ∃ Pw:Nat->St->Hp->Prop,∀ l σ H',Pw l σ H' ↔ ∃ (rs2:List Int)(o8:Option V),σ=[some (.ref a),some (.ref b),some (.int L),some (.ref ra'),some (.ref qa'),some (.int S1),some (.int p),some (.int part),o8]/\ar (vw K H) (vw K H')/\vw K H' ra'=some (.lst (rs2.map V.int))/\vw K H' qa'=some (.lst ((qs1.set p part).map V.int))/\rs2.length=rs1.length /\
      (∀ x ∈ rs2,Bt (m+(c+1)*(i+1)) x) /\ ∀ k,nz rs2 k=nz rs1 k - if p<=k/\k<p+l then part*nz ns (k - p) else 0:=⟨_,fun _ _ _=>Iff.rfl⟩
    have more:(c+1)*(i+1)=(c+1)*i+(c+1):=by rw[Nat.mul_add];walk_at"o"
    refine aO (its:=gd 0 (ns.length - 1)) Pw (fun _ _ _ _ _=>bK) ((hPw _ _ _).mpr ⟨rs1,_,rfl,S7,hr7,h7,rfl,fun x hx=>(b2 x hx).mono (by walk_at"o"),fun k=>by rw[if_neg (by walk_at"o")];walk_at"o"⟩) (fun l x σ H8 hl hx pw=>?_) (fun σ H8 pw=>?_)
    ·obtain⟨rs2,o8',rfl,S8,hr8,hq8,l8,b8,e8⟩:=(hPw _ _ _).mp pw
     obtain⟨hl',rfl⟩:=gH hx
     have hpl:p+l<rs2.length:=by walk_at"o"
     have hln:l<ns.length:=by walk_at"o"
     simp only[yj,Ft]
     walk_at"vc"
     have xr:(rs2.map V.int)[p+l]? = some (.int rs2[p+l]):=by rw[List.getElem?_map,List.getElem?_eq_getElem hpl];rfl
     have xn:(ns.map V.int)[l]? = some (.int ns[l]):=by rw[List.getElem?_map,List.getElem?_eq_getElem hln];rfl
     have epl:(p:Int)+(0+(l:Int))=((p+l:Nat):Int):=by walk_at"o"
     have vr:rs2[p+l]=nz rs1 (p+l):=by
      have:=e8 (p+l)
      rw[bC (List.getElem?_eq_getElem hpl),if_neg (by walk_at"o")] at this
      walk_at"o"
     have vn:ns[l]=nz ns l:=(bC (List.getElem?_eq_getElem hln)).symm
     refine⟨_,hr8,_,by rw[epl];exact cq xr,_,S8 _ _ hb,_,by rw[Int.zero_add];exact cq xn,?_⟩
     rw[eU]
     refine⟨cw b4 (bn _ (List.getElem_mem hln)) (by walk_at"o"),_,rfl,_,rfl,_,hr8,p+l,by rw[epl];exact ou (by rw[List.length_map];exact hpl),fun H9 B9 h9=>?_⟩
     rw[<- List.map_set] at h9
     refine (hPw _ _ _).mpr ⟨rs2.set (p+l) (rs2[p+l] - part*ns[l]),_,rfl,fun y o e=>B9 _ _ (ai e nr') (S8 _ _ e),h9,B9 _ _ ne'.symm hq8,by rw[List.length_set];exact l8,fun x hx=>?_,fun k=>?_⟩
     ·rcases List.mem_or_eq_of_mem_set hx with z|rfl
      ·exact b8 x z
      ·have y1:Bt (m+(c+1)*i+c) rs2[p+l]:=by rw[vr];exact wk b2 _
       have y2:Bt (m+(c+1)*i+c) (part*ns[l]):=b4.mul (bn _ (List.getElem_mem hln))
       unfold Bt at y1 y2 ⊢
       rw[more,show m+((c+1)*i+(c+1))=(m+(c+1)*i+c)+1 by walk_at"o",Nat.pow_succ]
       walk_at"o"
     ·rw[oC hpl,e8 k]
      by_cases hk:k=p+l
      ·subst hk
       rw[if_pos rfl,if_pos (by walk_at"o"),show p+l - p=l by walk_at"o",vr,vn]
      ·rw[if_neg hk]
       by_cases hk2:p<=k/\k<p+l
       ·rw[if_pos hk2,if_pos (by walk_at"o")]
       ·rw[if_neg hk2,if_neg (by walk_at"o")]
    ·obtain⟨rs2,o8',rfl,S8,hr8,hq8,l8,b8,e8⟩:=(hPw _ _ _).mp pw
     rw[cJ] at e8
     refine (hPv _ _ _).mpr ⟨ra',qa',rs2,qs1.set p part,S1,_,_,_,rfl,S8,hr8,hq8,nr',nq',ne',by walk_at"o",by rw[List.length_set];exact l2,n1,b1,b8,fun x hx=>?_,fun k hk=>?_,?_⟩
     ·rcases List.mem_or_eq_of_mem_set hx with z|rfl
      ·exact (b3 x z).mono (by walk_at"o")
      ·exact b4.mono (by walk_at"o")
     ·rw[oC (by walk_at"o"),if_neg (by walk_at"o")]
      exact z1 k (by walk_at"o")
     ·exact uQ (l:=ns.length - 1) e1 (z1 p (by walk_at"o")) (fun k=>oC (by walk_at"o")) (by walk_at"o") (fun j hj=>aW (by walk_at"o")) (by rw[e2,hLd]) e3 e8
   walk_at"vc"
   refine⟨hL,cO (fun e0=>?_) (fun e0=>?_)⟩
   ·have dv:L ∣ Pt:=Int.dvd_of_fmod_eq_zero e0
    have em:Pt.fdiv L*L=Pt:=eM hL dv
    have bd:Bt (m+(c+1)*i) (Pt.fdiv L):=by
     unfold Bt at bP ⊢
     have e1:(Pt.fdiv L).natAbs*L.natAbs=Pt.natAbs:=by rw[<- Int.natAbs_mul,em]
     have e2:(Pt.fdiv L).natAbs*1<=(Pt.fdiv L).natAbs*L.natAbs:=Nat.mul_le_mul_left _ (by walk_at"o")
     walk_at"o"
    refine⟨hL,key ra qa (nz rs) rs.dropLast qs S (Pt.fdiv L) H5 S5 h5 hqa5 nra nqa nrq ldl lqs (nS.elim fun e z=>⟨e,by walk_at"o",z.2⟩) (bS.mono (by rw[Nat.mul_add];walk_at"o")) (fun x hx=>(br x ((List.dropLast_sublist _).subset hx)).mono (by walk_at"o")) (fun x hx=>(bq x hx).mono (by walk_at"o")) bd zq ev (by rw[nP,em]) (fun k=>by rw[jU,dB])⟩
   ·refine⟨cw bS bL (by walk_at"o"),⟨_,.of (aC hqa5)⟩,fun q6 H6 hq6 S6 h6=>?_⟩
    refine aX (its:=qs.map V.int) (fun j zs H'=>ar (vw K H5) (vw K H')/\zs=((qs.take j).map fun x=>L*x).map V.int) (fun j zs H' _ _ z=>aE (z.1 _ _ hqa5)) h6 ⟨S6,rfl⟩ (fun j x zs H' hj hx h' z=>?_) (fun zs H7 h7 z=>?_)
    ·obtain⟨z1,rfl⟩:=z
     rw[List.length_map] at hj
     rw[List.getElem?_map,List.getElem?_eq_getElem hj] at hx
     cases hx
     walk_at"vc"
     refine⟨cw bL (bq _ (List.getElem_mem hj)) (by walk_at"o"),.mk h' ?_ fun H8 B8 h8=>⟨fun y o e=>B8 _ _ (ai e hq6) (z1 _ _ e),?_⟩⟩
     ·rw[List.length_map,List.length_map,List.length_take]
      have:1000<=sizeLine:=by decide
      walk_at"o"
     ·rw[List.take_add_one,List.getElem?_eq_getElem hj,List.map_append,List.map_append]
      rfl
    obtain⟨S57,rfl⟩:=z
    rw[List.length_map,List.take_length] at h7
    have h57:=S57 _ _ h5
    refine⟨⟨_,.of (aC h57)⟩,fun r8 H8 hr8 S8 h8=>?_⟩
    refine aX (its:=rs.dropLast.map V.int) (fun j zs H'=>ar (vw K H7) (vw K H')/\zs=((rs.dropLast.take j).map fun x=>L*x).map V.int) (fun j zs H' _ _ z=>aE (z.1 _ _ h57)) h8 ⟨S8,rfl⟩ (fun j x zs H' hj hx h' z=>?_) (fun zs H9 h9 z=>?_)
    ·obtain⟨z1,rfl⟩:=z
     rw[List.length_map] at hj
     rw[List.getElem?_map,List.getElem?_eq_getElem hj] at hx
     cases hx
     walk_at"vc"
     refine⟨cw bL (br _ ((List.dropLast_sublist _).subset (List.getElem_mem hj))) (by walk_at"o"),.mk h' ?_ fun H8 B8 h8=>⟨fun y o e=>B8 _ _ (ai e hr8) (z1 _ _ e),?_⟩⟩
     ·rw[List.length_map,List.length_map,List.length_take]
      have:1000<=sizeLine:=by decide
      walk_at"o"
     ·rw[List.take_add_one,List.getElem?_eq_getElem hj,List.map_append,List.map_append]
      rfl
    obtain⟨S79,rfl⟩:=z
    rw[List.length_map,List.take_length] at h9
    have S07:=S5.trans S57
    refine key r8 q6 (fun k=>L*nz rs k) _ _ (S*L) Pt H9 (S07.trans S79) h9 (S79 _ _ h7) (S07.none hr8) (S5.none hq6) (ai h7 hr8).symm (by rw[List.length_map];exact ldl) (by rw[List.length_map];exact lqs) (nS.elim fun e z=>⟨e+1,by walk_at"o",by rw[z.2.1,Int.pow_succ],fun ex=>absurd (Int.fmod_eq_zero_of_dvd (by have dv:=uU ln0 (show rs.length=p+ns.length by walk_at"o") lqs (fun k=>by rw[<- ev k,z.2.2 ex,Int.one_mul]) (hLd ▸ hL) ex;rw[nP,<- hLd] at dv;exact dv)) e0⟩) ((bS.mul bL).mono (by rw[Nat.mul_add];walk_at"o")) (fun x hx=>?_) (fun x hx=>?_) bP (fun k hk=>?_) (fun k=>?_) ?_ (fun k=>?_)
    ·obtain⟨y,hy,rfl⟩:=List.mem_map.mp hx
     exact (bL.mul (br y ((List.dropLast_sublist _).subset hy))).mono (by walk_at"o")
    ·obtain⟨y,hy,rfl⟩:=List.mem_map.mp hx
     exact (bL.mul (bq y hy)).mono (by walk_at"o")
    ·rw[dL,zq k hk]
     walk_at"o"
    ·rw[show nz (qs.map fun x=>L*x)=fun k=>L*nz qs k from funext fun k=>dL k,ox,<- Int.mul_add,<- ev k,Int.mul_comm S L,Int.mul_assoc]
    ·show L*nz rs (p+(ns.length - 1))=Pt*L
     rw[nP,Int.mul_comm]
    ·rw[dL,jU,dB]
     split <;> simp
  ·obtain⟨ra,qa,rs,qs,S,o6,o7,o8,rfl,S4,hra,hqa,nra,nqa,nrq,lrs,lqs,nS,bS,br,bq,zq,ev⟩:=(hPv _ _ _).mp pv
   rw[AF] at lrs nS bS br bq zq
   refine hN5 _ _ ?_
   walk_at"vc"
   simp only[gJ]
   refine .inr ?_
   simp only[jV]
   walk_at"vc"
   refine⟨rs,hra,fun d H5 ts S5 hd nd e5 l5 z5=>⟨by decide,fun p6 H6 hp6 S6 h6=>?_⟩⟩
   have n9:n<=14:=by walk_at"o"
   have k1:c*n<=20000*14:=Nat.mul_le_mul hc n9
   have k2:(c+1)*n<=20001*14:=Nat.mul_le_mul (by walk_at"o") n9
   refine h p6 qa d S qs ts H6 (S4.trans (S5.trans S6)) h6 ((S5.trans S6) _ _ hqa) (S6 _ _ hd) (S4.none nd) (by walk_at"o") (by walk_at"o") (nS.elim fun e z=>⟨e,by walk_at"o",z.2.1.trans (by rw[hLd])⟩) (nS.elim fun e z=>z.2.2) (bS.mono (by walk_at"o")) (fun x hx=>(bq x hx).mono (by walk_at"o")) (fun x hx=>?_) z5 (fun k=>?_)
   ·obtain⟨k,hk⟩:=List.getElem?_of_mem hx
    have e:=e5 k
    rw[bC hk] at e
    rw[e]
    exact (wk br k).mono (by walk_at"o")
   ·rw[lqs,e5 k]
    exact ev k
def jh(K:W.Frag):Sp:=fun vs H Q _=>∃ (x:Int)(n b:Nat),vs=[.int x,.int n]/\n<=20/\b<=20000/\Bt b x/\Q (.int (x ^ n)) H
theorem xI(F:eE K "power" "power" iy f fd) (T:ge K mg):bB P w K mg base dZ 1 f fd ["base", "many"] (jh K):=by
 have scN:=pF.nd
 refine F.okQ pF (fun vs H Q E h=>?_) (fun cdv A outer s H vs Q E hr h=>?_)
 ·obtain⟨_,_,_,rfl,_⟩:=h
  rfl
 ·obtain⟨x,n,b,rfl,hn,hb,bx,h⟩:=h
  refine⟨_,(af (ao (i:=2) scN rfl (by walk_at"a1") ae)
   (af (cL PassesOwn.never rfl (cT rfl T.b_range (aa (qv 1) ac)) (ak (i:=3) scN rfl (by walk_at"a1")) (ah (hJ (i:=2) scN rfl (by walk_at"a1") (qv 0) kz)))
   (ah (aB (qv 2))))),?_⟩
  walk_at"m"
  walk_at"vc"
  refine⟨by walk_at"o",by walk_at"o",?_⟩
  rw[show ((n:Nat):Int).toNat=n by walk_at"o"]
  obtain⟨Pv,hPv⟩ : ∃ Pv:Nat->St->Hp->Prop,∀ i σ H',Pv i σ H' ↔ H'=H /\ ∃ o,σ=[some (.int x),some (.int n),some (.int (x ^ i)),o]:=⟨_,fun _ _ _=>Iff.rfl⟩
  refine aO (its:=gd 0 n) Pv (fun _ _ _ _ _=>bK) ((hPv _ _ _).mpr ⟨rfl,_,by rw[Int.pow_zero]⟩) (fun i y σ H1 hi hy pv=>?_) (fun σ H1 pv=>?_)
  ·obtain⟨rfl,o,rfl⟩:=(hPv _ _ _).mp pv
   obtain⟨hi',rfl⟩:=gH hy
   walk_at"vc"
   have b1:=bx.pow1 i
   have:b*i<=20000*20:=Nat.mul_le_mul hb (by walk_at"o")
   refine⟨cw b1 bx (by walk_at"o"),(hPv _ _ _).mpr ⟨rfl,_,by rw[Int.pow_succ]⟩⟩
  ·obtain⟨rfl,o,rfl⟩:=(hPv _ _ _).mp pv
   rw[cJ]
   walk_at"vc"
   exact h
def dk(K:W.Frag):Sp:=fun vs H Q _=>∃ (a:Addr)(ns:List Int)(b:Nat),vs=[.ref a]/\vw K H a=some (.lst (ns.map V.int))/\ns.length<=40/\b<=20000/\(∀ x ∈ ns,Bt b x)/\(ns ≠ []->nz ns (ns.length - 1) ≠ 0) /\
 ∀ d H' (ms:List Int)(g:Int),ar (vw K H) (vw K H')->vw K H' d=some (.lst (ms.map V.int))->vw K H d=none->ms.length=ns.length->0<g->(∀ k,nz ns k=g*nz ms k)->(ns ≠ []->vz (nz ms))->(∀ x ∈ ms,Bt b x)->Q (.ref d) H'
theorem qZ(F:eE K "lowered" "lowered" fF f fd) (T:ge K mg)(N_:mv P base)(C_greatest_divisor:bU P w K mg base "greatest_divisor" ["one", "other"] 1 (aZ K)):bB P w K mg base dZ 2 f fd ["wholes"] (dk K):=by
 have scN:=ll.nd
 refine F.okQ ll (fun vs H Q E h=>?_) (fun cdv A outer s H vs Q E hr h=>?_)
 ·obtain⟨_,_,_,rfl,_⟩:=h
  rfl
 ·obtain⟨a,ns,b,rfl,ha,hl,hb,bn,nl,h⟩:=h
  refine⟨_,(af (ao (i:=1) scN rfl (by walk_at"a1") ae)
   (af (cL PassesOwn.never rfl (bz (qv 0)) (ak (i:=2) scN rfl (by walk_at"a1")) (ah (ao (i:=1) scN rfl (by walk_at"a1") (aj C_greatest_divisor (hr.mono (by walk_at"a2")) rfl (aa (qv 1) (aa (qv 2) ac))))))
   (ah (aB (dI (own:=["whole"]) (outs:=["divisor"]) (ixs:=[1]) rfl (bz (qv 0)) rfl ⟨rfl,rfl,rfl,⟨rfl,trivial⟩,rfl,⟨⟨rfl,rfl,rfl,_,rfl⟩,trivial⟩⟩ (fun _ _ _ _=>⟨(ak (i:=0) (show (["whole", "divisor"]:List Str).Nodup by decide +kernel) rfl (by walk_at"a1")),eY,(ap (p8 N_ hr rfl rfl rfl rfl rfl) (qv 0) (qv 1))⟩)))))),?_⟩
  walk_at"m"
  refine aQ.gen fun N1 hN1=>?_
  walk_at"vc"
  refine hN1 _ _ ?_
  refine aQ.gen fun N2 hN2=>?_
  walk_at"vc"
  refine⟨⟨_,.of (aC ha)⟩,?_⟩
  obtain⟨Pv,hPv⟩ : ∃ Pv:Nat->St->Hp->Prop,∀ i σ H',Pv i σ H' ↔ H'=H /\ ∃ (g:Int)(o:Option V),σ=[some (.ref a),some (.int g),o]/\(∀ x ∈ ns.take i,g ∣ x)/\0<=g /\ ∀ e:Int,(∀ x ∈ ns.take i,e ∣ x)->e ∣ g:=⟨_,fun _ _ _=>Iff.rfl⟩
  refine aO (its:=ns.map V.int) Pv (fun i σ H' _ p=>?_) ((hPv _ _ _).mpr ⟨rfl,_,_,rfl,by simp,by decide,fun e _=>Int.dvd_zero e⟩) (fun i y σ H1 hi hy pv=>?_) (fun σ H1 pv=>?_)
  ·obtain⟨rfl,_⟩:=(hPv _ _ _).mp p
   exact aE ha
  ·obtain⟨rfl,g,o,rfl,hg,gp,hd⟩:=(hPv _ _ _).mp pv
   rw[List.length_map] at hi
   rw[List.getElem?_map,List.getElem?_eq_getElem hi] at hy
   cases hy
   walk_at"vc"
   simp only[aZ]
   walk_at"vc"
   refine (hPv _ _ _).mpr ⟨rfl,_,_,rfl,fun x hx=>?_,by walk_at"o",fun e he=>?_⟩
   ·rw[List.take_add_one,List.getElem?_eq_getElem hi] at hx
    rcases List.mem_append.mp hx with z|z
    ·exact Int.dvd_trans (Int.gcd_dvd_left _ _) (hg x z)
    ·cases List.mem_singleton.mp z
     exact Int.gcd_dvd_right _ _
   ·rw[List.take_add_one,List.getElem?_eq_getElem hi] at he
    exact Int.dvd_coe_gcd (hd e fun x z=>he x (List.mem_append_left _ z)) (he _ (List.mem_append_right _ (List.mem_singleton.mpr rfl)))
  ·obtain⟨rfl,g,o,rfl,hg,gp,hd⟩:=(hPv _ _ _).mp pv
   rw[List.length_map,List.take_length] at hg hd
   refine hN2 _ _ ?_
   walk_at"vc"
   have hgn:ns ≠ []->g ≠ 0/\Bt b g:=fun z=>by
    have lp:ns.length - 1<ns.length:=by have:=List.length_pos_iff.mpr z;walk_at"o"
    have n1:=nl z
    rw[bC (List.getElem?_eq_getElem lp)] at n1
    have d1:=hg _ (List.getElem_mem lp)
    have b1:=bn _ (List.getElem_mem lp)
    refine⟨fun e=>n1 (by rw[e] at d1;exact Int.zero_dvd.mp d1),?_⟩
    have:=Nat.le_of_dvd (by walk_at"o") (Int.natAbs_dvd_natAbs.mpr d1)
    unfold Bt at b1 ⊢
    walk_at"o"
   refine⟨⟨_,.of (aC ha)⟩,fun d H2 hnd S2 h2=>?_⟩
   refine aX (its:=ns.map V.int) (fun j zs H'=>ar (vw K H1) (vw K H')/\zs=((ns.take j).map fun x=>x.fdiv g).map V.int) (fun j zs H' _ _ z=>aE (z.1 _ _ ha)) h2 ⟨S2,rfl⟩ (fun j x zs H' hj hx h' z=>?_) (fun zs H3 h3 z=>?_)
   ·obtain⟨z1,rfl⟩:=z
    rw[List.length_map] at hj
    rw[List.getElem?_map,List.getElem?_eq_getElem hj] at hx
    cases hx
    obtain⟨g1,g2⟩:=hgn (fun e=>by rw[e] at hj;simp at hj)
    walk_at"vc"
    refine⟨g1,.mk h' ?_ fun H8 B8 h8=>⟨fun y o e=>B8 _ _ (ai e hnd) (z1 _ _ e),?_⟩⟩
    ·rw[List.length_map,List.length_map,List.length_take]
     have:1000<=sizeLine:=by decide
     walk_at"o"
    ·rw[List.take_add_one,List.getElem?_eq_getElem hj,List.map_append,List.map_append]
     rfl
   ·obtain⟨z1,rfl⟩:=z
    rw[List.length_map,List.take_length] at h3
    by_cases e:ns=[]
    ·subst e
     exact h d H3 [] 1 z1 h3 hnd rfl (by decide) (fun k=>by rw[Int.one_mul]) (fun z=>absurd rfl z) (by simp)
    obtain⟨g1,g2⟩:=hgn e
    have em:∀ x ∈ ns,x=g*x.fdiv g:=fun x hx=>by rw[Int.mul_comm];exact (eM g1 (hg x hx)).symm
    have nm:∀ k,nz ns k=g*nz (ns.map fun x=>x.fdiv g) k:=fun k=>?_
    refine h d H3 _ g z1 h3 hnd (by rw[List.length_map]) (by walk_at"o") nm (fun _ q hq=>?_) (fun x hx=>?_)
    ·have d1:g*q ∣ g:=hd (g*q) fun x hx=>by
      obtain⟨k,hk⟩:=List.getElem?_of_mem hx
      have e1:=nm k
      rw[bC hk] at e1
      rw[e1]
      exact Int.mul_dvd_mul_left g (hq k)
     obtain⟨c,hc⟩:=d1
     have hc':g*1=g*(q*c):=by rw[Int.mul_one,<- Int.mul_assoc];exact hc
     have q1:1=q*c:=Int.eq_of_mul_eq_mul_left g1 hc'
     have:=congrArg Int.natAbs q1
     rw[Int.natAbs_mul] at this
     exact Nat.eq_one_of_mul_eq_one_right this.symm
    ·obtain⟨y,hy,rfl⟩:=List.mem_map.mp hx
     have e1:(g*y.fdiv g).natAbs=g.natAbs*(y.fdiv g).natAbs:=Int.natAbs_mul _ _
     rw[<- em y hy] at e1
     have e2:1*(y.fdiv g).natAbs<=g.natAbs*(y.fdiv g).natAbs:=Nat.mul_le_mul_right _ (by walk_at"o")
     have b1:=bn y hy
     unfold Bt at b1 ⊢
     walk_at"o"
    ·cases ek:ns[k]? with
     | none =>
      have l:=List.getElem?_eq_none_iff.mp ek
      rw[aW l,aW (by rw[List.length_map];exact l),Int.mul_zero]
     | some y =>
      rw[bC ek,bC (n:=y.fdiv g) (by rw[List.getElem?_map,ek];rfl)]
      exact em y (List.mem_of_getElem? ek)
def mL(G:Hp)(t:Addr)(tv:List V)(rows:List (List Int × List Int × Int × Int)):Prop:=tv.length=rows.length /\ ∀ (k:Nat) row,rows[k]? = some row -> ∃ p ra qa:Addr,tv[k]? = some (.ref p)/\G p=some (.tup [.ref ra,.ref qa,.int row.2.2.1,.int row.2.2.2])/\G ra=some (.lst (row.1.map V.int))/\G qa=some (.lst (row.2.1.map V.int))/\ra ≠ t/\qa ≠ t
theorem mL.same{G G':Hp}{t:Addr}{tv:List V}{rows:List (List Int × List Int × Int × Int)}(h:mL G t tv rows)(S:ar G G'):mL G' t tv rows:=⟨h.1,fun k row e=>by
 obtain⟨p,ra,qa,a,b,c,d,n⟩:=h.2 k row e
 exact⟨p,ra,qa,a,S _ _ b,S _ _ c,S _ _ d,n⟩⟩
def BE(row:List Int × List Int × Int × Int):Prop:=row.1.length<=9/\(∀ x ∈ row.1,Bt 17840 x)/\Bt 200000 row.2.2.1/\Bt 200000 row.2.2.2/\row.2.1.length<=9/\1<=row.2.1.length /\ ∀ x ∈ row.2.1,Bt 700000 x
def dc(K:W.Frag):Sp:=fun vs H Q _=>∃ (a b:Addr)(ms ns:List Int),vs=[.ref a,.ref b]/\vw K H a=some (.lst (ms.map V.int))/\vw K H b=some (.lst (ns.map V.int))/\ms ≠ []/\ns.length<=ms.length/\gq 1110 ms/\gq 1110 ns /\
 ∀ (d:Addr)(H':Hp)(tv:List V) rows,ar (vw K H) (vw K H')->vw K H' d=some (.lst tv)->mL (vw K H') d tv rows->m9 ms ns rows->rows.length<=9->(∀ row ∈ rows,BE row)->Q (.ref d) H'
theorem ka(F:eE K "wholes_rests" "wholes_rests" cD f fd) (T:ge K mg)(N_:mv P base)(C_power:bU P w K mg base "power" ["base", "many"] 1 (jh K)) (C_wholes_parted:bU P w K mg base "wholes_parted" ["one", "other"] 2 (bM K)):bB P w K mg base dZ 3 f fd ["one", "other"] (dc K):=by
 have scN:=gQ.nd
 refine F.okQ gQ (fun vs H Q E h=>?_) (fun cdv A outer s H vs Q E hr h=>?_)
 ·obtain⟨_,_,_,_,rfl,_⟩:=h
  rfl
 ·obtain⟨a,b,ms,ns,rfl,ha,hb,m0,lmn,im,il,h⟩:=h
  refine⟨_,(af (ao (i:=2) scN rfl (by walk_at"a1") (aK ac))
   (af (gz (aD (aa ae (aa ae ac))) (eJ (n:=2) rfl (aI (ak (i:=3) scN rfl (by walk_at"a1")) (aI (ak (i:=4) scN rfl (by walk_at"a1")) eH))))
   (af (gf PassesOwn.never (cX (qv 1) (fun _=>rfl)) (af (ao (i:=5) scN rfl (by walk_at"a1") (ap dA (au aN (by rfl) T.b_len ck (aa (qv 0) ac)) (au aN (by rfl) T.b_len ck (aa (qv 1) ac))))
   (af (ao (i:=6) scN rfl (by walk_at"a1") (aj C_power (hr.mono (by walk_at"a2")) rfl (aa (ay dX (qv 1) (fS dM ae) (fun _ _=>rfl)) (aa (ap bJ (qv 5) ae) ac))))
   (af (gz (aj C_wholes_parted (hr.mono (by walk_at"a2")) rfl (aa (qv 0) (aa (qv 1) ac))) (eJ (n:=3) rfl (aI (ak (i:=7) scN rfl (by walk_at"a1")) (aI (ak (i:=8) scN rfl (by walk_at"a1")) (aI (ak (i:=9) scN rfl (by walk_at"a1")) eH)))))
   (af (ao (i:=10) scN rfl (by walk_at"a1") (ap aV (qv 3) (aj C_power (hr.mono (by walk_at"a2")) rfl (aa (qv 4) (aa (qv 5) ac)))))
   (af (cW (cX (qv 8) (fun _=>rfl)) (af (ao (i:=11) scN rfl (by walk_at"a1") (ap (hU N_ hr rfl rfl rfl) (qv 6) (qv 9)))
   (af (kB (i:=8) (own:=["whole"]) (outs:=["top", "lack"]) (ixs:=[10,11]) scN rfl (by walk_at"a1") rfl (bz (qv 8)) rfl ⟨rfl,rfl,rfl,⟨rfl,⟨rfl,trivial⟩⟩,rfl,⟨⟨rfl,rfl,rfl,_,rfl⟩,⟨⟨rfl,rfl,rfl,_,rfl⟩,trivial⟩⟩⟩ (fun _ _ _ _=>⟨(ak (i:=0) (show (["whole", "top", "lack"]:List Str).Nodup by decide +kernel) rfl (by walk_at"a1")),eY,(ap (xC N_ hr rfl rfl rfl rfl rfl) (ap (show eD _ _ (gX K) from aV) (qv 2) (qv 0)) (qv 1))⟩))
   (ah (gK (nF PySem.F.plainAttrs_list PySem.F.slot_list_append PySem.F.type_list_append fK (qv 2) (aa (aD (aa (qv 8) (aa (dI (own:=["whole"]) (outs:=["lack"]) (ixs:=[11]) rfl (bz (qv 7)) rfl ⟨rfl,rfl,rfl,⟨rfl,trivial⟩,rfl,⟨⟨rfl,rfl,rfl,_,rfl⟩,trivial⟩⟩ (fun _ _ _ _=>⟨(ak (i:=0) (show (["whole", "lack"]:List Str).Nodup by decide +kernel) rfl (by walk_at"a1")),eY,(ap (show eD _ _ (gX K) from aV) (qv 1) (qv 0))⟩)) (aa (qv 10) (aa (qv 6) ac))))) ac)))))) bj)
   (af (oO (i:=0) (j:=1) rfl scN rfl rfl (by decide) rfl rfl (aa (qv 1) (aa (qv 8) ac)) rfl)
   (af (ao (i:=3) scN rfl (by walk_at"a1") (ay dX (qv 0) (fS dM ae) (fun _ _=>rfl)))
   (ah (cW (aF pQ (qv 5) ae (aJ _)) (ah (ao (i:=4) scN rfl (by walk_at"a1") (ap (hU N_ hr rfl rfl rfl) (aj C_power (hr.mono (by walk_at"a2")) rfl (aa (qv 3) (aa (qv 5) ac))) (aj C_power (hr.mono (by walk_at"a2")) rfl (aa (qv 4) (aa (ap dA (qv 5) ae) ac)))))) bj))))))))))
   (ah (aB (qv 2)))))),?_⟩
  walk_at"m"
  skip
  refine aQ.gen fun N1 hN1=>?_
  walk_at"vc"
  refine⟨by decide,fun t H1 ht S1 h1=>hN1 _ _ ?_⟩
  refine aQ.gen fun N2 hN2=>?_
  walk_at"vc"
  refine⟨by decide,fun p2 H2 hp2 S2 h2=>⟨_,rfl,_,h2,rfl,_,_,rfl,_,_,rfl,rfl,hN2 _ _ ?_⟩⟩
  refine aQ.gen fun N3 hN3=>?_
  walk_at"vc"
  have nt:vw K H t=none:=ht
  have S02:=S1.trans S2
  obtain⟨W,hW⟩ : ∃ W:Nat->St->Hp->Prop,∀ m σ H',W m σ H' ↔ ∃ (oa ra:Addr)(Fs Gs:List Int)(tv:List V)(rows:List (List Int × List Int × Int × Int))(x g:Int)(o5 o6 o7 o8 o9 o10 o11:Option V),σ=[some (.ref oa),some (.ref ra),some (.ref t),some (.int x),some (.int g),o5,o6,o7,o8,o9,o10,o11]/\m=Gs.length/\ar (vw K H) (vw K H')/\vw K H' t=some (.lst tv)/\vw K H' oa=some (.lst (Fs.map V.int))/\vw K H' ra=some (.lst (Gs.map V.int))/\oa ≠ t/\ra ≠ t /\
    Fs ≠ []/\tv.length+Gs.length<=9/\Gs.length<=Fs.length/\gq 17825 Fs/\gq 17825 Gs/\(∀ r,m9 Fs Gs r->m9 ms ns (rows ++ r))/\(Gs ≠ [] -> ∃ S1,se 17825 S1 (nz Fs) (nz Gs) (Fs.length - 1) (Gs.length - 1) x g) /\
    mL (vw K H') t tv rows /\ ∀ row ∈ rows,BE row:=⟨_,fun _ _ _=>Iff.rfl⟩
  have btn:∀ {n:Nat}{l:List Int},gq n l -> ∀ k,Bt n (nz l k):=fun i k=>wk i.2.1 k
  have up:∀ {l:List Int},gq 1110 l->gq 17825 l:=fun i=>i.up (by decide)
  have lp:∀ {l:List Int},l ≠ []->0<l.length:=fun h=>List.length_pos_iff.mpr h
  refine⟨W,⟨_,(hW _ _ _).mpr ⟨a,b,ms,ns,[],[],1,1,_,_,_,_,_,_,_,rfl,rfl,S02,S2 _ _ h1,S02 _ _ ha,S02 _ _ hb,ai ha nt,ai hb nt,m0,by have:=il.1;simp;walk_at"o",lmn,up im,up il,fun r z=>z,fun n0=>⟨_,se.first (b:=1110) (by walk_at"o") (by have:=im.1;walk_at"o") (by decide) (btn im) (btn il) (il.2.2 n0) (fun k hk=>aW (by have:=lp n0;walk_at"o")) (fun k hk=>aW (by have:=lp m0;walk_at"o"))⟩,⟨rfl,by simp⟩,by simp⟩⟩,fun m σ H3 hw=>?_⟩
  obtain⟨oa,ra,Fs,Gs,tv,rows,x,g,o5,o6,o7,o8,o9,o10,o11,rfl,rfl,S3,ht3,hF,hG,noa,nra,f0,lt7,lGF,iF,iG,gc,gs,rt,rwb⟩:=(hW _ _ _).mp hw
  refine⟨_,rfl,_,i5 hG,cO (fun hc=>⟨_,fun σ' H' z=>z,?_⟩) (fun hc=>hN3 _ _ ?_)⟩
  ·have g0:Gs ≠ []:=fun z=>by rw[z] at hc;cases hc
   obtain⟨Sx,I⟩:=gs g0
   have lg:=lp g0
   obtain⟨δ,hδ⟩ : ∃ δ,δ=Fs.length - Gs.length:=⟨_,rfl⟩
   have hδ2:Fs.length - 1 - (Gs.length - 1)=δ:=by walk_at"o"
   have hgl:Gs.length - 1<Gs.length:=by walk_at"o"
   obtain⟨c,hcd⟩ : ∃ c,c=nz Gs (Gs.length - 1):=⟨_,rfl⟩
   have hce:Gs[Gs.length - 1]=c:=by rw[hcd,bC (List.getElem?_eq_getElem hgl)]
   have bc:Bt 17825 c:=hcd ▸ btn iG _
   have c0:c ≠ 0:=hcd ▸ iG.2.2 g0
   have xl:(Gs.map V.int).getLast? = some (.int c):=by
    rw[List.getLast?_eq_getElem?,List.length_map,List.getElem?_map,List.getElem?_eq_getElem hgl,hce]
    rfl
   have lF7:=iF.1
   refine aQ.gen fun M1 hM1=>?_
   walk_at"vc"
   refine⟨Fs.length,by simp only[gT,hF,List.length_map],Gs.length,by simp only[gT,hG,List.length_map],hM1 _ _ ?_⟩
   rw[show (Fs.length:Int) - (Gs.length:Int)=(δ:Int) by walk_at"o"]
   refine aQ.gen fun M2 hM2=>?_
   walk_at"vc"
   refine⟨_,hG,_,iz xl,⟨c,δ+1,17825,rfl,by walk_at"o",by decide,bc,hM2 _ _ ?_⟩⟩
   refine aQ.gen fun M3 hM3=>?_
   walk_at"vc"
   simp only[bM]
   refine⟨oa,ra,Fs,Gs,17825,17825,rfl,hF,hG,lg,iG.2.2 g0,by walk_at"o",by walk_at"o",by decide,by decide,iF.2.1,iG.2.1,fun p4 qa rb S qs rs H4 S4 h4 hqa hrb nrb lq lr hSe _ bS bq br lrz ev=>⟨_,rfl,_,h4,rfl,_,_,rfl,_,_,rfl,_,_,rfl,rfl,hM3 _ _ ?_⟩⟩
   obtain⟨e,he,hS⟩:=hSe
   rw[<- hcd] at hS
   have lq2:qs.length=δ+1:=by walk_at"o"
   have S0:S ≠ 0:=by rw[hS];exact Int.pow_ne_zero c0
   obtain⟨lack,hlack⟩ : ∃ lack,lack=c ^ (δ+1 - e):=⟨_,rfl⟩
   have elk:c ^ (δ+1)=lack*S:=by rw[hlack,hS,<- E2,show δ+1 - e+e=δ+1 by walk_at"o"]
   obtain⟨dB,htop⟩ : ∃ dB,dB=x*g ^ δ:=⟨_,rfl⟩
   have top0:dB ≠ 0:=by rw[htop];exact Int.mul_ne_zero I.inv.x0 (Int.pow_ne_zero I.inv.h0)
   have δ6:17825*δ<=17825*8:=Nat.mul_le_mul_left _ (by walk_at"o")
   have btop:Bt 200000 dB:=by rw[htop];exact (I.bx.mul (I.bh.pow1 δ)).mono (by walk_at"o")
   have black:Bt 200000 lack:=by
    rw[hlack]
    refine (bc.pow1 _).mono ?_
    have:17825*(δ+1 - e)<=17825*9:=Nat.mul_le_mul_left _ (by walk_at"o")
    walk_at"o"
   have bgam:Bt 200000 (c ^ (δ+1)):=by
    refine (bc.pow1 _).mono ?_
    have:17825*(δ+1)<=17825*9:=Nat.mul_le_mul_left _ (by walk_at"o")
    walk_at"o"
   refine aQ.gen fun M4 hM4=>?_
   walk_at"vc"
   simp only[jh]
   refine⟨g,δ,17825,rfl,by walk_at"o",by decide,I.bh,?_⟩
   rw[eU]
   refine⟨cw I.bx (I.bh.pow1 δ) (by walk_at"o"),hM4 _ _ ?_⟩
   rw[<- htop]
   have BH:∀ k,c ^ (δ+1)*nz Fs k=pz (fun i=>lack*nz qs i) (nz Gs) (δ+1) k+lack*nz rs k:=fun k=>by
    rw[ox,<- Int.mul_add,<- lq2,<- ev k,<- Int.mul_assoc,<- elk,lq2]
   obtain⟨r,g',hR,bR,r0,ng',bg',hh,next⟩:=I.rest (q:=fun i=>lack*nz qs i) (R:=fun k=>lack*nz rs k) (fun k hk=>by rw[aW (by walk_at"o"),Int.mul_zero]) (fun k=>by rw[<- hcd,hδ2];exact BH k)
   rw[hδ2,<- htop] at hR
   rw[<- hcd,hδ2] at hh
   rw[<- hcd] at next
   refine aQ.gen fun M5 hM5=>?_
   have key:∀ (rc:Addr)(Rs:List Int)(tv':List V)(rows':List (List Int × List Int × Int × Int))(H':Hp)(u7 u11:Option V),ar (vw K H) (vw K H')->vw K H' t=some (.lst tv')->vw K H' ra=some (.lst (Gs.map V.int))->vw K H' rc=some (.lst (Rs.map V.int))->rc ≠ t->Rs.length<Gs.length->tv'.length+Rs.length<=9->(∀ k,nz Rs k=r k)->gq 17825 Rs->(∀ r,m9 Gs Rs r->m9 ms ns (rows' ++ r))->mL (vw K H') t tv' rows'->(∀ row ∈ rows',BE row)->M5 [some (.ref oa),some (.ref ra),some (.ref t),some (.int x),some (.int g),some (.int δ),some (.int (c ^ (δ+1))),u7,some (.ref rc),some (.int S),some (.int dB),u11] H':=by
    intro rc Rs tv' rows' H' u7 u11 Sx' ht' hG' hR' nrc lR lt' eR iR gc' rt' rb'
    have fin:∀ u7 u11:Option V,∃ m',m'<Gs.length/\W m' [some (.ref ra),some (.ref rc),some (.ref t),some (.int c),some (.int g'),some (.int δ),some (.int (c ^ (δ+1))),u7,some (.ref rc),some (.int S),some (.int dB),u11] H':=fun u7 u11=>by
     refine⟨Rs.length,lR,(hW _ _ _).mpr ⟨ra,rc,Gs,Rs,tv',rows',c,g',_,_,_,_,_,_,_,rfl,rfl,Sx',ht',hG',hR',nra,nrc,g0,lt',by walk_at"o",iG,iR,gc',fun z=>?_,rt',rb'⟩⟩
     have lz:=lp z
     have e1:r=nz Rs:=funext fun k=>(eR k).symm
     have nx:=next (Rs.length - 1) (by walk_at"o") (by rw[<- eR];exact iR.2.2 z) (fun k hk=>by rw[<- eR];exact aW (by walk_at"o"))
     rw[e1] at nx
     exact⟨_,nx⟩
    refine hM5 _ _ ?_
    walk_at"vc"
    refine⟨_,hG',_,iz xl,cO (fun h0=>?_) (fun h0=>?_)⟩
    ·rcases hh with ⟨z,_⟩|⟨_,z2⟩
     ·walk_at"o"
     have δ5:17825*(δ - 1)<=17825*8:=Nat.mul_le_mul_left _ (by walk_at"o")
     have u0:g ^ (δ - 1) ≠ 0:=Int.pow_ne_zero I.inv.h0
     refine⟨c,δ,17825,rfl,by walk_at"o",by decide,bc,⟨g,δ - 1,17825,by rw[show ((δ:Int) - 1)=((δ - 1:Nat):Int) by walk_at"o"],by walk_at"o",by decide,I.bh,_,rfl,_,rfl,u0,?_⟩⟩
     have e1:(c ^ δ).fdiv (g ^ (δ - 1))=g':=Int.eq_of_mul_eq_mul_right u0 (by rw[eM u0 ⟨g',by rw[<- z2,Int.mul_comm]⟩,z2])
     rw[e1]
     exact fin u7 u11
    ·rcases hh with ⟨_,z⟩|⟨z,_⟩
     ·rw[<- z]
      exact fin u7 u11
     ·walk_at"o"
   have nt4:t ≠ rb:=ai ht3 nrb
   walk_at"vc"
   refine⟨_,i5 hrb,cO (fun hc2=>?_) (fun hc2=>?_)⟩
   ·have ef:(c ^ (δ+1)).fdiv S=lack:=Int.eq_of_mul_eq_mul_right S0 (by rw[eM S0 ⟨lack,by rw[elk,Int.mul_comm]⟩,elk])
    rw[ef]
    have rs0:rs ≠ []:=fun z=>by rw[z] at hc2;cases hc2
    have lrs:=lp rs0
    refine⟨S0,⟨_,.of (aC hrb)⟩,fun d6 H6 hd6 S6 h6=>?_⟩
    refine aX (its:=rs.map V.int) (fun j zs H'=>ar (vw K H4) (vw K H')/\zs=((rs.take j).map fun y=>(lack*y).fdiv dB).map V.int) (fun j zs H' _ _ z=>aE (z.1 _ _ hrb)) h6 ⟨S6,rfl⟩ (fun j y zs H' hj hy h' z=>?_) (fun zs H7 h7 z=>?_)
    ·obtain⟨z1,rfl⟩:=z
     rw[List.length_map] at hj
     rw[List.getElem?_map,List.getElem?_eq_getElem hj] at hy
     cases hy
     walk_at"vc"
     refine⟨cw black (br _ (List.getElem_mem hj)) (by walk_at"o"),top0,.mk h' ?_ fun H8 B8 h8=>⟨fun y o e=>B8 _ _ (ai e hd6) (z1 _ _ e),?_⟩⟩
     ·rw[List.length_map,List.length_map,List.length_take]
      have:1000<=sizeLine:=by decide
      walk_at"o"
     ·rw[List.take_add_one,List.getElem?_eq_getElem hj,List.map_append,List.map_append]
      rfl
    obtain⟨S47,rfl⟩:=z
    rw[List.length_map,List.take_length] at h7
    refine⟨jM (S47 _ _ (S4 _ _ ht3)),⟨_,.of (aC (S47 _ _ hqa))⟩,fun d8 H8 hd8 S8 h8=>?_⟩
    refine aX (its:=qs.map V.int) (fun j zs H'=>ar (vw K H7) (vw K H')/\zs=((qs.take j).map fun y=>lack*y).map V.int) (fun j zs H' _ _ z=>aE (z.1 _ _ (S47 _ _ hqa))) h8 ⟨S8,rfl⟩ (fun j y zs H' hj hy h' z=>?_) (fun zs H9 h9 z=>?_)
    ·obtain⟨z1,rfl⟩:=z
     rw[List.length_map] at hj
     rw[List.getElem?_map,List.getElem?_eq_getElem hj] at hy
     cases hy
     walk_at"vc"
     refine⟨cw black (bq _ (List.getElem_mem hj)) (by walk_at"o"),.mk h' ?_ fun H8 B8 h8=>⟨fun y o e=>B8 _ _ (ai e hd8) (z1 _ _ e),?_⟩⟩
     ·rw[List.length_map,List.length_map,List.length_take]
      have:1000<=sizeLine:=by decide
      walk_at"o"
     ·rw[List.take_add_one,List.getElem?_eq_getElem hj,List.map_append,List.map_append]
      rfl
    obtain⟨S79,rfl⟩:=z
    have S49:=S47.trans S79
    refine⟨by decide,fun p10 H10 hp10 S10 h10=>?_⟩
    have ht10:=S10 _ _ (S49 _ _ (S4 _ _ ht3))
    refine⟨tv,ht10,?_,fun H11 B11 h11=>?_⟩
    ·have:1000<=sizeLine:=by decide
     walk_at"o"
    have nt6:t ≠ d6:=ai (S4 _ _ ht3) hd6
    have nt10:p10 ≠ t:=(ai (S49 _ _ (S4 _ _ ht3)) hp10).symm
    have S410:=S49.trans S10
    have hd7:=(S79.trans S10) _ _ h7
    have lRs:(rs.map fun y=>(lack*y).fdiv dB).length=rs.length:=List.length_map _
    have eR:∀ k,nz (rs.map fun y=>(lack*y).fdiv dB) k=r k:=fun k=>by
     have q1:=hR k
     cases ek:rs[k]? with
     | none =>
      have l:=List.getElem?_eq_none_iff.mp ek
      rw[aW l,Int.mul_zero] at q1
      rw[aW (by rw[lRs];exact l)]
      rcases Int.mul_eq_zero.mp q1.symm with z|z
      ·exact absurd z top0
      ·exact z.symm
     | some y =>
      rw[bC ek] at q1
      rw[bC (n:=(lack*y).fdiv dB) (by rw[List.getElem?_map,ek];rfl)]
      exact Int.eq_of_mul_eq_mul_right top0 (by rw[eM top0 ⟨_,q1⟩,q1,Int.mul_comm])
    have R0:(rs.map fun y=>(lack*y).fdiv dB) ≠ []:=fun z=>rs0 (List.map_eq_nil_iff.mp z)
    have Rl0:nz (rs.map fun y=>(lack*y).fdiv dB) ((rs.map fun y=>(lack*y).fdiv dB).length - 1) ≠ 0:=by
     rw[lRs,eR]
     intro z
     have q1:=hR (rs.length - 1)
     rw[z,Int.mul_zero] at q1
     rcases Int.mul_eq_zero.mp q1 with y|y
     ·exact Int.pow_ne_zero c0 (hlack ▸ y)
     ·exact lrz (by walk_at"o") y
    have Rb:∀ x ∈ (rs.map fun y=>(lack*y).fdiv dB),Bt 17825 x:=fun x hx=>by
     obtain⟨k,hk⟩:=List.getElem?_of_mem hx
     rw[<- bC hk,eR]
     exact bR k
    have nzq:∀ i,nz (qs.map fun y=>lack*y) i=lack*nz qs i:=fun i=>by
     cases ek:qs[i]? with
     | none =>
      have l:=List.getElem?_eq_none_iff.mp ek
      rw[aW l,aW (by rw[List.length_map];exact l),Int.mul_zero]
     | some y=>rw[bC ek,bC (n:=lack*y) (by rw[List.getElem?_map,ek];rfl)]
    have sk:∀ k,c ^ (δ+1)*nz Fs k=pz (nz (qs.map fun y=>lack*y)) (nz Gs) (qs.map fun y=>lack*y).length k+dB*nz (rs.map fun y=>(lack*y).fdiv dB) k:=fun k=>by
     rw[show nz (qs.map fun y=>lack*y)=fun i=>lack*nz qs i from funext nzq,List.length_map,lq2,BH k,eR,hR k]
    rw[List.length_map,List.take_length] at h9
    have hq10:=S10 _ _ h9
    have nt8:d8 ≠ t:=(ai ((S47) _ _ (S4 _ _ ht3)) hd8).symm
    refine key d6 _ (tv ++ [.ref p10]) (rows ++ [(rs.map fun y=>(lack*y).fdiv dB,qs.map fun y=>lack*y,dB,c ^ (δ+1))]) H11 _ _ (fun y o e=>B11 _ _ (ai e nt) ((S3.trans (S4.trans S410)) _ _ e)) h11 (B11 _ _ nra ((S4.trans S410) _ _ hG)) (B11 _ _ nt6.symm hd7) nt6.symm (by rw[lRs];exact lr) (by rw[lRs,List.length_append];simp;walk_at"o") eR ⟨by rw[lRs];walk_at"o",Rb,fun _=>Rl0⟩ (fun r' z=>?_) ⟨by simp[rt.1],fun k row e=>?_⟩ (fun row gm=>?_)
    ·rw[List.append_assoc]
     exact gc _ (.more g0 (iG.2.2 g0) (Int.pow_ne_zero c0) top0 R0 Rl0 (by rw[lRs];exact lr) (by rw[List.length_map];walk_at"o") sk z)
    ·by_cases hk:k<rows.length
     ·rw[List.getElem?_append_left hk] at e
      obtain⟨p,ra',qa',a1,a2,a3,a4,a5,a6⟩:=rt.2 k row e
      have S3z:=S4.trans S410
      exact⟨p,ra',qa',by rw[List.getElem?_append_left (by rw[rt.1];exact hk)];exact a1,B11 _ _ (fun z=>by rw[z,ht3] at a2;cases a2) (S3z _ _ a2),B11 _ _ a5 (S3z _ _ a3),B11 _ _ a6 (S3z _ _ a4),a5,a6⟩
     ·have hk2:k=rows.length:=by
       have:=(List.getElem?_eq_some_iff.mp e).1
       simp at this
       walk_at"o"
      subst hk2
      rw[List.getElem?_append_right (by walk_at"o"),Nat.sub_self] at e
      cases e
      exact⟨p10,d6,d8,by rw[List.getElem?_append_right (by rw[rt.1];walk_at"o"),rt.1,Nat.sub_self];rfl,B11 _ _ nt10 h10,B11 _ _ nt6.symm hd7,B11 _ _ nt8 hq10,nt6.symm,nt8⟩
    ·rcases List.mem_append.mp gm with z|z
     ·exact rwb row z
     ·cases List.mem_singleton.mp z
      refine⟨by rw[lRs];walk_at"o",fun x hx=>(Rb x hx).mono (by decide),btop,bgam,by rw[List.length_map];walk_at"o",by rw[List.length_map];walk_at"o",fun x hx=>?_⟩
      obtain⟨y,hy,rfl⟩:=List.mem_map.mp hx
      exact (black.mul (bq y hy)).mono (by decide)
   ·have r1:rs=[]:=by
     cases rs with
     | nil=>rfl
     | cons _ _=>exact absurd rfl hc2
    subst r1
    refine key rb [] tv rows H4 _ _ (S3.trans S4) (S4 _ _ ht3) (S4 _ _ hG) hrb nt4.symm (by simp;walk_at"o") (by simp;walk_at"o") (fun k=>?_) ⟨by simp,by simp,fun z=>absurd rfl z⟩ (fun r' z=>?_) (rt.same S4) rwb
    ·have:=hR k
     rw[show nz [] k=0 from aW (by simp),Int.mul_zero] at this
     rcases Int.mul_eq_zero.mp this.symm with z|z
     ·exact absurd z top0
     ·rw[show nz [] k=0 from aW (by simp),z]
    ·have er:r'=[]:=by
      cases z with
      | nought=>rfl
      | last h _ _ _ _=>exact absurd rfl h
      | more h _ _ _ _ _ _ _ _ _=>exact absurd rfl h
     subst er
     refine gc _ (.last g0 (iG.2.2 g0) S0 (Q:=qs) (by walk_at"o") fun k=>?_)
     rw[ev k,show nz [] k=0 from aW (by simp)]
     walk_at"o"
  ·have g1:Gs=[]:=by
    cases Gs with
    | nil=>rfl
    | cons _ _=>exact absurd rfl hc
   subst g1
   walk_at"vc"
   have:=gc [] .nought
   rw[List.append_nil] at this
   exact h t H3 tv rows S3 ht3 rt this (by rw[<- rt.1];walk_at"o") rwb
def de(K:W.Frag):Sp:=fun vs H Q _=>∃ (a:Addr)(ns:List Int),vs=[.ref a]/\vw K H a=some (.lst (ns.map V.int))/\ns.length<=9/\(∀ x ∈ ns,Bt 200 x) /\
 ∀ d H' (ms:List Int),ar (vw K H) (vw K H')->vw K H' d=some (.lst (ms.map V.int))->vw K H d=none->ms.length=ns.length - 1->(∀ k,nz ms k=((k+1:Nat):Int)*nz ns (k+1))->(∀ x ∈ ms,Bt 220 x)->Q (.ref d) H'
theorem ke(F:eE K "wholes_slope" "wholes_slope" cE f fd) (T:ge K mg):bB P w K mg base dZ 1 f fd ["wholes"] (de K):=by
 have scN:=gS.nd
 refine F.okQ gS (fun vs H Q E h=>?_) (fun cdv A outer s H vs Q E hr h=>?_)
 ·obtain⟨a,_,rfl,_⟩:=h
  rfl
 ·obtain⟨a,ns,rfl,ha,lf,hf,h⟩:=h
  refine⟨_,(ah (aB (dI (own:=["k"]) (outs:=["wholes"]) (ixs:=[0]) rfl (uK rfl T.b_range (aa ae (aa (au aN (by rfl) T.b_len ck (aa (qv 0) ac)) ac))) rfl ⟨rfl,rfl,rfl,⟨rfl,trivial⟩,rfl,⟨⟨rfl,rfl,rfl,_,rfl⟩,trivial⟩⟩ (fun _ _ _ _=>⟨(ak (i:=0) (show (["k", "wholes"]:List Str).Nodup by decide +kernel) rfl (by walk_at"a1")),eY,(ap (show eD _ _ (gX K) from aV) (qv 0) (ay (show qN _ (rA K) from dX) (qv 1) (qv 0) (fun _ _=>rfl)))⟩)))),?_⟩
  walk_at"m"
  walk_at"vc"
  refine⟨ns.length,by simp only[gT,ha,List.length_map],by walk_at"o",by walk_at"o",by walk_at"o",by walk_at"o",fun d H1 hd S1 h1=>?_⟩
  rw[show ((ns.length:Int) - 1).toNat=ns.length - 1 by walk_at"o"]
  refine aX (its:=gd 1 (ns.length - 1)) (fun i zs H'=>ar (vw K H) (vw K H') /\ ∃ ms:List Int,ms.length=i/\zs=ms.map V.int/\(∀ x ∈ ms,Bt 220 x) /\ ∀ (j:Nat)(x:Int),ms[j]? = some x->x=((j+1:Nat):Int)*nz ns (j+1))
   (fun _ _ _ _ _ _=>bK) h1 ⟨S1,[],rfl,rfl,by simp,by simp⟩ (fun i x zs H2 hi hx h2 p=>?_) (fun zs H2 h2 p=>?_)
  ·obtain⟨S2,ms,lv,rfl,bv,hv⟩:=p
   obtain⟨hi',rfl⟩:=gH hx
   rw[show (1:Int)+(i:Int)=((i+1:Nat):Int) by walk_at"o"]
   have hi2:i+1<ns.length:=by walk_at"o"
   have bi:Bt 5 ((i+1:Nat):Int):=by
    show (((i+1:Nat):Int)).natAbs<2 ^ 5
    walk_at"o"
   have bn:=hf ns[i+1] (List.getElem_mem hi2)
   walk_at"vc"
   refine⟨_,S2 _ _ ha,V.int ns[i+1],cq (by rw[List.getElem?_map,List.getElem?_eq_getElem hi2];rfl),?_⟩
   rw[eU]
   refine⟨cw bi bn (by decide),.mk h2 ?_ fun H5 B5 h5=>⟨fun b o e=>B5 _ _ (ai e hd) (S2 _ _ e),ms ++ [((i+1:Nat):Int)*ns[i+1]],by simp[lv],by simp,fun q hq=>?_,fun j q e=>?_⟩⟩
   ·rw[List.length_map,lv]
    have:1000<=sizeLine:=by decide
    walk_at"o"
   ·rcases List.mem_append.mp hq with z|z
    ·exact bv q z
    ·cases List.mem_singleton.mp z
     exact (bi.mul bn).mono (by decide)
   ·by_cases hj:j<ms.length
    ·rw[List.getElem?_append_left hj] at e
     exact hv j q e
    ·have hj2:j=i:=by
      have:=(List.getElem?_eq_some_iff.mp e).1
      simp at this
      walk_at"o"
     subst hj2
     rw[List.getElem?_append_right (by walk_at"o"),lv,Nat.sub_self] at e
     cases e
     rw[bC (List.getElem?_eq_getElem hi2)]
  ·obtain⟨S2,ms,lv,rfl,bv,hv⟩:=p
   rw[cJ] at lv
   refine h d H2 ms S2 h2 hd lv (fun k=>?_) bv
   by_cases hk:k<ms.length
   ·rw[bC (List.getElem?_eq_getElem hk)]
    exact hv k _ (List.getElem?_eq_getElem hk)
   ·rw[aW (by walk_at"o"),aW (by walk_at"o"),Int.mul_zero]
def ft(K:W.Frag):Sp:=fun vs H Q _=>∃ (a:Addr)(ns:List Int)(t b:Int)(W B:Nat),vs=[.ref a,.int t,.int b]/\vw K H a=some (.lst (ns.map V.int))/\ns.length<=40/\W<=1000000/\B<=10000/\(∀ n ∈ ns,Bt W n)/\b ≠ 0/\Bt B t/\Bt B b /\
 ∀ p H' (u s:Int),ar (vw K H) (vw K H')->vw K H' p=some (.tup [.int u,.int s])->s ≠ 0->(0<b->0<s)->(u:Rat) / (s:Rat)=sk ns ((t:Rat) / (b:Rat))->Bt (1+ns.length*B) s->Bt (W+1+ns.length*(B+2)) u->Q (.ref p) H'
theorem nU(F:eE K "wholes_at" "wholes_at" dF f fd) (T:ge K mg):bB P w K mg base dZ 1 f fd ["wholes", "top", "bottom"] (ft K):=by
 have scN:=je.nd
 refine F.okQ je (fun vs H Q E h=>?_) (fun cdv A outer s H vs Q E hr h=>?_)
 ·obtain⟨a,_,_,_,_,_,rfl,_⟩:=h
  rfl
 ·obtain⟨a,ns,t,b,W,B,rfl,ha,ln,hW,hB,bn,nb,bt,bb,h⟩:=h
  refine⟨_,(af (gz (aD (aa ae (aa ae ac))) (eJ (n:=2) rfl (aI (ak (i:=3) scN rfl (by walk_at"a1")) (aI (ak (i:=4) scN rfl (by walk_at"a1")) eH))))
   (af (cL PassesOwn.never rfl (Cf rfl T.b_reversed (aa (qv 0) ac)) (ak (i:=5) scN rfl (by walk_at"a1")) (af (hJ (i:=4) scN rfl (by walk_at"a1") (qv 2) kz)
   (ah (ao (i:=3) scN rfl (by walk_at"a1") (ap bJ (ap aV (qv 3) (qv 1)) (ap aV (qv 5) (qv 4)))))))
   (ah (aB (aD (aa (qv 3) (aa (qv 4) ac))))))),?_⟩
  walk_at"m"
  walk_at"vc"
  refine⟨by decide,fun p0 H0 hp0 S0 h0=>⟨p0,rfl,_,h0,rfl,?_⟩⟩
  walk_at"vc"
  simp only[CK]
  walk_at"vc"
  replace h:=fun p H' u s (S:ar (vw K H0) (vw K H'))=>h p H' u s (S0.trans S)
  replace ha:=S0 _ _ ha
  clear S0 hp0 h0
  refine⟨_,ha,?_⟩
  have hLB:∀ i,i<=ns.length->i*B<=400000/\i*(B+2)<=400080:=fun i hi=>⟨Nat.le_trans (Nat.mul_le_mul (Nat.le_trans hi ln) hB) (by decide),Nat.le_trans (Nat.mul_le_mul (Nat.le_trans hi ln) (show B+2<=10002 by walk_at"o")) (by decide)⟩
  obtain⟨Pv,hPv⟩ : ∃ Pv:Nat->St->Hp->Prop,∀ j σ H',Pv j σ H' ↔ H'=H0 /\ ∃ (u s:Int)(y:Option V),σ=[some (.ref a),some (.int t),some (.int b),some (.int u),some (.int s),y]/\s ≠ 0/\(0<b->0<s)/\(u:Rat) / (s:Rat)=sk (ns.drop (ns.length - j)) ((t:Rat) / (b:Rat))/\Bt (1+j*B) s/\Bt (W+1+j*(B+2)) u:=⟨_,fun _ _ _=>Iff.rfl⟩
  refine aO (its:=(ns.map V.int).reverse) Pv (fun j σ H' _ p=>?_) ((hPv _ _ _).mpr ⟨rfl,0,1,_,rfl,by decide,fun _=>by decide,?_,?_,?_⟩) (fun j x σ H1 hj hx pv=>?_) (fun σ H1 pv=>?_)
  ·obtain⟨rfl,_⟩:=(hPv _ _ _).mp p
   exact u8 ha
  ·rw[Nat.sub_zero,List.drop_length]
   show ((0:Int):Rat) / ((1:Int):Rat)=0
   have e0:((0:Int):Rat)=0:=rfl
   rw[e0]
   grind
  ·rw[Nat.zero_mul]
   decide
  ·exact (show Bt 0 0 by decide).mono (by walk_at"o")
  ·obtain⟨rfl,u,s,y,rfl,s0,sp,hv,bs,bu⟩:=(hPv _ _ _).mp pv
   simp only[List.length_reverse,List.length_map] at hj
   rw[List.getElem?_reverse (by rw[List.length_map];exact hj),List.length_map,List.getElem?_map,List.getElem?_eq_getElem (show ns.length - 1 - j<ns.length by walk_at"o")] at hx
   cases hx
   have bw:=bn _ (List.getElem_mem (show ns.length - 1 - j<ns.length by walk_at"o"))
   have hd:=vi hj
   generalize ns[ns.length - 1 - j]'(by walk_at"o")=w at bw hd
   obtain⟨q1,q2⟩:=hLB j (by walk_at"o")
   have hjb:j*(B+2)=j*B+j*2:=Nat.mul_add j B 2
   walk_at"vc"
   refine⟨cw bs bb (by walk_at"o"),?_⟩
   have bs':=bs.mul bb
   walk_at"vc"
   refine⟨cw bu bt (by walk_at"o"),cw bw bs' (by walk_at"o"),?_⟩
   refine (hPv _ _ _).mpr ⟨rfl,_,_,_,rfl,Int.mul_ne_zero s0 nb,fun hb0=>Int.mul_pos (sp hb0) hb0,?_,bs'.mono (by rw[Nat.add_mul];walk_at"o"),((bu.mul bt).add (bw.mul bs')).mono (by rw[Nat.add_mul];walk_at"o")⟩
   rw[hd]
   show _=(w:Rat)+_*sk (ns.drop (ns.length - j)) _
   rw[<- hv]
   have c1:=az s0
   have c2:=az nb
   simp only[Rat.intCast_add,Rat.intCast_mul]
   grind
  ·obtain⟨rfl,u,s,y,rfl,s0,sp,hv,bs,bu⟩:=(hPv _ _ _).mp pv
   simp only[List.length_reverse,List.length_map,Nat.sub_self,List.drop_zero] at hv bs bu
   walk_at"vc"
   exact⟨by decide,fun p5 H5 hp5 S5 h5=>h p5 H5 u s S5 h5 s0 sp hv bs bu⟩
def fM(K:W.Frag):Sp:=fun vs H Q _=>∃ x y p q,vs=[x,y]/\aM (vw K H) (fr p) x/\aM (vw K H) (fr q) y/\Bq 20000 p/\Bq 20000 q/\Q (.bl (yE p q)) H
theorem sy(F:eE K "is_less" "is_less" fu f fd) (T:ge K mg):bB P w K mg base dZ 1 f fd ["one", "other"] (fM K):=by
 have scN:=lV.nd
 refine F.okQ lV (fun vs H Q E h=>?_) (fun cdv A outer s H vs Q E hr h=>?_)
 ·obtain⟨_,_,_,_,rfl,_⟩:=h
  rfl
 ·obtain⟨x,y,p,q,rfl,hx,hy,bp,bq,h⟩:=h
  refine⟨_,(ah (aB (i8 uu (ap aV (ay cy (qv 0) ae (fun _ _=>rfl)) (ay cy (qv 1) ae (fun _ _=>rfl))) (ap aV (ay cy (qv 1) ae (fun _ _=>rfl)) (ay cy (qv 0) ae (fun _ _=>rfl))) (aJ _)))),?_⟩
  walk_at"m"
  obtain⟨a,rfl,ha⟩:=hx.fr_at
  obtain⟨b,rfl,hb⟩:=hy.fr_at
  walk_at"vc*"
  exact⟨cw bp.1 bq.2 (by decide),cw bq.1 bp.2 (by decide),h⟩
def cx(K:W.Frag):Sp:=fun vs H Q _=>∃ (a:Addr)(xs:List V),vs=[.ref a]/\vw K H a=some (.lst xs)/\xs ≠ [] /\ ∀ H',ar (vw K H) (vw K H')->Q .non H'
theorem jR(F:eE K "refuse_nought" "refuse_nought" bH f fd) (T:ge K mg):bB P w K mg base dZ 1 f fd ["f"] (cx K):=by
 have scN:=cR.nd
 refine F.okQ cR (fun vs H Q E h=>?_) (fun cdv A outer s H vs Q E hr h=>?_)
 ·obtain⟨_,_,rfl,_⟩:=h
  rfl
 ·obtain⟨a,xs,rfl,ha,x0,h⟩:=h
  refine⟨_,(ah (cW (jx (cX (qv 0) (fun _=>rfl))) (ah xz) bj)),?_⟩
  walk_at"m"
  walk_at"vc"
  refine⟨_,i5 ha,?_⟩
  exact j9 (by cases xs with|nil=>exact absurd rfl x0|cons _ _=>simp) (h H (ar.refl _))
def cN(C:Addr)(K:W.Frag):Sp:=fun vs H _ E=>∃ (a:Addr),vs=[.ref a]/\vw K H a=some (.lst []) /\ ∀ H',ar (vw K H) (vw K H')->E (.ref C) none H'
theorem jp{C:Addr}(F:eE K "refuse_nought" "refuse_nought" bH f fd) (T:ge K mg)(zx_NoPolynomial:pJ K C)(hgx_NoPolynomial:mg "NoPolynomial" = some (.ref C)):bB P w K mg base (jX P w) 1 f fd ["f"] (cN C K):=by
 have scN:=cR.nd
 refine F.okX cR (fun vs H Q E h=>?_) (fun cdv A outer s H vs Q E hr h=>?_)
 ·obtain⟨_,rfl,_⟩:=h
  rfl
 ·obtain⟨a,rfl,ha,h⟩:=h
  refine⟨_,(ah (cW (jx (cX (qv 0) (fun _=>rfl))) (ah (wu zx_NoPolynomial rfl hgx_NoPolynomial (aa dJ ac))) bj)),?_⟩
  walk_at"m"
  walk_at"vc"
  refine⟨_,i5 ha,?_⟩
  refine oA rfl ?_
  simp only[sj]
  walk_at"vc"
  exact⟨by decide,h H (ar.refl _)⟩
def dq(K:W.Frag):Sp:=fun vs H Q _=>∃ n:Int,vs=[.int n]/\Q (.int n.sign) H
theorem rH(F:eE K "sign_of" "sign_of" fA f fd) (T:ge K mg):bB P w K mg base dZ 1 f fd ["whole"] (dq K):=by
 have scN:=lH.nd
 refine F.okQ lH (fun vs H Q E h=>?_) (fun cdv A outer s H vs Q E hr h=>?_)
 ·obtain⟨_,rfl,_⟩:=h
  rfl
 ·obtain⟨n,rfl,h⟩:=h
  refine⟨_,(af (cW (aF hZ (qv 0) ae (aJ _)) (ah (aB ae)) bj)
   (ah (aB (eP (aF pQ (qv 0) ae (aJ _)) ae (fS dM ae))))),?_⟩
  walk_at"m"
  refine aQ.gen fun N1 hN1=>?_
  walk_at"vc"
  refine cO (fun z=>?_) (fun z=>hN1 _ _ ?_)
  ·rw[z] at h
   exact h
  ·walk_at"vc"
   refine cO (fun y=>?_) (fun y=>?_)
   ·rwa [Int.sign_eq_one_of_pos y] at h
   ·rwa [Int.sign_eq_neg_one_of_neg (by walk_at"o")] at h
def iM(G:Hp)(t:Addr)(Fs:List (List Int)):Prop:=∃ xs,G t=some (.lst xs)/\xs.length=Fs.length /\ ∀ (k:Nat) F,Fs[k]? = some F -> ∃ l:Addr,xs[k]? = some (.ref l)/\l ≠ t/\G l=some (.lst (F.map V.int))
theorem iM.same{G G':Hp}{t:Addr}{Fs:List (List Int)}(h:iM G t Fs)(S:ar G G'):iM G' t Fs:=by
 obtain⟨xs,a,b,c⟩:=h
 refine⟨xs,S _ _ a,b,fun k F e=>?_⟩
 obtain⟨l,e1,e2,e3⟩:=c k F e
 exact⟨l,e1,e2,S _ _ e3⟩
theorem iM.snoc{G G':Hp}{t l:Addr}{xs:List V}{Fs:List (List Int)}{F:List Int}(h:iM G t Fs)(hx:G t=some (.lst xs))(B:dS t G G')(nl:l ≠ t)(hl:G l=some (.lst (F.map V.int)))(e:G' t=some (.lst (xs ++ [.ref l]))):iM G' t (Fs ++ [F]):=by
 obtain⟨ys,a,b,c⟩:=h
 rw[hx] at a
 cases a
 refine⟨_,e,by simp[b],fun k F' ek=>?_⟩
 by_cases hk:k<Fs.length
 ·rw[List.getElem?_append_left hk] at ek
  obtain⟨m,e1,e2,e3⟩:=c k F' ek
  exact⟨m,by rw[List.getElem?_append_left (by walk_at"o")];exact e1,e2,B _ _ e2 e3⟩
 ·have hk2:k=Fs.length:=by
   have:=(List.getElem?_eq_some_iff.mp ek).1
   simp at this
   walk_at"o"
  subst hk2
  rw[List.getElem?_append_right (by walk_at"o"),Nat.sub_self] at ek
  cases ek
  exact⟨l,by rw[List.getElem?_append_right (by walk_at"o"),b,Nat.sub_self];rfl,nl,B _ _ nl hl⟩
def gx(K:W.Frag):Sp:=fun vs H Q _=>∃ (a:Addr)(ss:List Int),vs=[.ref a]/\vw K H a=some (.lst (ss.map V.int))/\Q (.int ((chg 0 ss:Nat):Int)) H
theorem rM(F:eE K "changes" "changes" fH f fd) (T:ge K mg):bB P w K mg base dZ 1 f fd ["signs"] (gx K):=by
 have scN:=kT.nd
 refine F.okQ kT (fun vs H Q E h=>?_) (fun cdv A outer s H vs Q E hr h=>?_)
 ·obtain⟨_,_,rfl,_⟩:=h
  rfl
 ·obtain⟨a,ss,rfl,ha,h⟩:=h
  refine⟨_,(af (ao (i:=1) scN rfl (by walk_at"a1") ae)
   (af (ao (i:=2) scN rfl (by walk_at"a1") ae)
   (af (cL PassesOwn.never rfl (bz (qv 0)) (ak (i:=3) scN rfl (by walk_at"a1")) (ah (cW (aF qw (qv 3) ae (aJ _)) (af (cW (aF hZ (qv 3) (fS dM (qv 2)) (aJ _)) (ah (hJ (i:=1) scN rfl (by walk_at"a1") ae BQ)) bj)
   (ah (ao (i:=2) scN rfl (by walk_at"a1") (qv 3)))) bj)))
   (ah (aB (qv 1)))))),?_⟩
  walk_at"m"
  refine aQ.gen fun N1 hN1=>?_
  walk_at"vc"
  refine hN1 _ _ ?_
  refine aQ.gen fun N2 hN2=>?_
  walk_at"vc"
  refine hN2 _ _ ?_
  refine aQ.gen fun N3 hN3=>?_
  walk_at"vc"
  refine⟨⟨_,.of (aC ha)⟩,?_⟩
  obtain⟨Pv,hPv⟩ : ∃ Pv:Nat->St->Hp->Prop,∀ i σ H',Pv i σ H' ↔ H'=H /\ ∃ (n:Nat)(l:Int)(o:Option V),σ=[some (.ref a),some (.int n),some (.int l),o]/\n+chg l (ss.drop i)=chg 0 ss:=⟨_,fun _ _ _=>Iff.rfl⟩
  refine aO (its:=ss.map V.int) Pv (fun i σ H' _ p=>?_) ((hPv _ _ _).mpr ⟨rfl,0,0,_,rfl,by rw[List.drop_zero];walk_at"o"⟩) (fun i y σ H1 hi hy pv=>?_) (fun σ H1 pv=>?_)
  ·obtain⟨rfl,_⟩:=(hPv _ _ _).mp p
   exact aE ha
  ·obtain⟨rfl,n,l,o,rfl,e⟩:=(hPv _ _ _).mp pv
   rw[List.length_map] at hi
   rw[List.getElem?_map,List.getElem?_eq_getElem hi] at hy
   cases hy
   rw[List.drop_eq_getElem_cons hi] at e
   walk_at"vc"
   refine cO (fun z=>?_) (fun z=>(hPv _ _ _).mpr ⟨rfl,n,l,_,rfl,?_⟩)
   ·rw[nk z] at e
    refine cO (fun y=>?_) (fun y=>?_)
    ·rw[if_pos y] at e
     exact⟨_,_,rfl,rfl,(hPv (i+1) _ _).mpr ⟨rfl,n+1,ss[i],_,rfl,by walk_at"o"⟩⟩
    ·rw[if_neg y] at e
     exact (hPv (i+1) _ _).mpr ⟨rfl,n,ss[i],_,rfl,by walk_at"o"⟩
   ·have z:ss[i]=0:=Classical.not_not.mp z
    rw[z,wW] at e
    exact e
  ·obtain⟨rfl,n,l,o,rfl,e⟩:=(hPv _ _ _).mp pv
   rw[List.length_map,List.drop_length] at e
   have e:n+0=chg 0 ss:=e
   refine hN3 _ _ ?_
   walk_at"vc"
   rw[<- e] at h
   exact h
theorem y9{u s:Int}{y:Rat}(s0:0<s)(e:(u:Rat) / (s:Rat)=y):u.sign=sg y:=by
 have c:=az (show s ≠ 0 by walk_at"o")
 have sp:(0:Rat)<(s:Rat):=Rat.intCast_pos.mpr s0
 have e:(u:Rat)=y*(s:Rat):=by grind
 rcases Int.lt_trichotomy u 0 with z|z|z
 ·rw[Int.sign_eq_neg_one_of_neg z,eZ]
  have:(u:Rat)<((0:Int):Rat):=Rat.intCast_lt_intCast.mpr z
  refine Rat.not_le.mp fun w=>?_
  have:=Rat.mul_nonneg w (Rat.le_of_lt sp)
  have c0:((0:Int):Rat)=0:=rfl
  grind
 ·rw[z]
  refine (hV.mpr ?_).symm
  have c0:((0:Int):Rat)=0:=rfl
  rw[z,c0] at e
  rcases Rat.mul_eq_zero.mp e.symm with w|w
  ·exact w
  ·exact absurd w c
 ·rw[Int.sign_eq_one_of_pos z,dz]
  have:(0:Rat)<(u:Rat):=Rat.intCast_pos.mpr z
  refine Rat.not_le.mp fun w=>?_
  have:=Rat.mul_nonneg (show 0 <= -y by grind) (Rat.le_of_lt sp)
  grind
def D4(B:Nat)(hs:List (List Int)):Prop:=hs.length<=12 /\ ∀ F ∈ hs,F ≠ []/\F.length<=20 /\ ∀ x ∈ F,Bt B x
def ii(K:W.Frag):Sp:=fun vs H Q _=>∃ (a:Addr)(hs:List (List Int))(t b:Int),vs=[.ref a,.int t,.int b]/\iM (vw K H) a hs/\D4 600000 hs/\0<b/\Bt 9000 t/\Bt 9000 b /\
 ∀ d H',ar (vw K H) (vw K H')->vw K H' d=some (.lst ((qt ((t:Rat) / (b:Rat)) (hs.map aU)).map V.int))->Q (.ref d) H'
theorem qE(F:eE K "signs_of" "signs_of" en f fd) (T:ge K mg)(C_sign_of:bU P w K mg base "sign_of" ["whole"] 1 (dq K)) (C_wholes_at:bU P w K mg base "wholes_at" ["wholes", "top", "bottom"] 1 (ft K)):bB P w K mg base dZ 2 f fd ["lists", "top", "bottom"] (ii K):=by
 have scN:=jY.nd
 refine F.okQ jY (fun vs H Q E h=>?_) (fun cdv A outer s H vs Q E hr h=>?_)
 ·obtain⟨_,_,_,_,rfl,_⟩:=h
  rfl
 ·obtain⟨a,hs,t,b,rfl,ha,lb,b0,bt,bb,h⟩:=h
  refine⟨_,(ah (aB (dI (own:=["one"]) (outs:=["top", "bottom"]) (ixs:=[1,2]) rfl (bz (qv 0)) rfl ⟨rfl,rfl,rfl,⟨rfl,⟨rfl,trivial⟩⟩,rfl,⟨⟨rfl,rfl,rfl,_,rfl⟩,⟨⟨rfl,rfl,rfl,_,rfl⟩,trivial⟩⟩⟩ (fun _ _ _ _=>⟨(ak (i:=0) (show (["one", "top", "bottom"]:List Str).Nodup by decide +kernel) rfl (by walk_at"a1")),eY,(aj C_sign_of (hr.mono (by walk_at"a2")) rfl (aa (ay (show qN _ (sw K) from cy) (aj C_wholes_at (hr.mono (by walk_at"a2")) rfl (aa (qv 0) (aa (qv 1) (aa (qv 2) ac)))) ae (fun _ _=>rfl)) ac))⟩)))),?_⟩
  walk_at"m"
  obtain⟨xs,hxs,lxs,cxs⟩:=id ha
  walk_at"vc"
  refine⟨⟨_,.of (aC hxs)⟩,fun d H2 hd S2 h2=>?_⟩
  refine aX (its:=xs) (fun j zs H'=>ar (vw K H) (vw K H')/\zs=(qt ((t:Rat) / (b:Rat)) ((hs.take j).map aU)).map V.int) (fun j zs H' _ _ z=>aE (z.1 _ _ hxs)) h2 ⟨S2,rfl⟩ (fun j x zs H' hj hx h' z=>?_) (fun zs H3 h3 z=>?_)
  ·obtain⟨z1,rfl⟩:=z
   have hj':j<hs.length:=by walk_at"o"
   obtain⟨l,e1,_,e3⟩:=cxs j _ (List.getElem?_eq_getElem hj')
   rw[hx] at e1
   cases e1
   obtain⟨f0,fl,fb⟩:=lb.2 _ (List.getElem_mem hj')
   walk_at"vc"
   simp only[ft,dq]
   refine⟨l,_,t,b,600000,9000,rfl,z1 _ _ e3,by walk_at"o",by decide,by decide,fb,by walk_at"o",bt,bb,fun p H4 u s S4 h4 s0 sp ev _ _=>⟨p,rfl,_,h4,_,fO,u,rfl,?_⟩⟩
   refine .mk (S4 _ _ h') ?_ fun H8 B8 h8=>⟨fun y o e=>B8 _ _ (ai e hd) (S4 _ _ (z1 _ _ e)),?_⟩
   ·have:=lb.1
    have:1000<=sizeLine:=by decide
    simp[qt]
    walk_at"o"
   ·rw[y9 (sp b0) ev,<- yu fl,List.take_add_one,List.getElem?_eq_getElem hj',List.map_append]
    unfold qt
    rw[List.map_append,List.map_append]
    rfl
  ·obtain⟨z1,rfl⟩:=z
   refine h d H3 z1 ?_
   rw[h3,lxs,List.take_length]
def gA(K:W.Frag):Sp:=fun vs H Q _=>∃ (a:Addr)(hs:List (List Int))(side:Int),vs=[.ref a,.int side]/\iM (vw K H) a hs/\D4 600000 hs/\oh side /\
 ∀ d H',ar (vw K H) (vw K H')->vw K H' d=some (.lst ((hs.map (dH side)).map V.int))->Q (.ref d) H'
theorem oM(F:eE K "signs_far" "signs_far" dC f fd) (T:ge K mg)(C_sign_of:bU P w K mg base "sign_of" ["whole"] 1 (dq K)):bB P w K mg base dZ 2 f fd ["lists", "side"] (gA K):=by
 have scN:=jr.nd
 refine F.okQ jr (fun vs H Q E h=>?_) (fun cdv A outer s H vs Q E hr h=>?_)
 ·obtain⟨_,_,_,rfl,_⟩:=h
  rfl
 ·obtain⟨a,hs,side,rfl,ha,lb,ps,h⟩:=h
  refine⟨_,(ah (aB (dI (own:=["one"]) (outs:=["side"]) (ixs:=[1]) rfl (bz (qv 0)) rfl ⟨rfl,rfl,rfl,⟨rfl,trivial⟩,rfl,⟨⟨rfl,rfl,rfl,_,rfl⟩,trivial⟩⟩ (fun _ _ _ _=>⟨(ak (i:=0) (show (["one", "side"]:List Str).Nodup by decide +kernel) rfl (by walk_at"a1")),eY,(eP (show QT _ _ (zR K _) from cX (ap Ap (au (show dE _ _ (fun xs H Q=>∃ p,xs=[V.ref p] /\ ∃ n:Nat,gT (vw K H) p=some n/\Q (V.int n) H) from aN) (by rfl) T.b_len ck (aa (qv 0) ac)) ae) (fun _=>rfl)) (aj C_sign_of (hr.mono (by walk_at"a2")) rfl (aa (ay (show qN _ (rA K) from dX) (qv 0) (fS dM ae) (fun _ _=>rfl)) ac)) (ap (show eD _ _ (gX K) from aV) (qv 1) (aj C_sign_of (hr.mono (by walk_at"a2")) rfl (aa (ay (show qN _ (rA K) from dX) (qv 0) (fS dM ae) (fun _ _=>rfl)) ac))))⟩)))),?_⟩
  walk_at"m"
  obtain⟨xs,hxs,lxs,cxs⟩:=id ha
  walk_at"vc"
  refine⟨⟨_,.of (aC hxs)⟩,fun d H2 hd S2 h2=>?_⟩
  refine aX (its:=xs) (fun j zs H'=>ar (vw K H) (vw K H')/\zs=((hs.take j).map (dH side)).map V.int) (fun j zs H' _ _ z=>aE (z.1 _ _ hxs)) h2 ⟨S2,rfl⟩ (fun j x zs H' hj hx h' z=>?_) (fun zs H3 h3 z=>?_)
  ·obtain⟨z1,rfl⟩:=z
   have hj':j<hs.length:=by walk_at"o"
   obtain⟨l,e1,_,e3⟩:=cxs j _ (List.getElem?_eq_getElem hj')
   rw[hx] at e1
   cases e1
   obtain⟨f0,fl,fb⟩:=lb.2 _ (List.getElem_mem hj')
   walk_at"vc"
   simp only[zR]
   walk_at"vc"
   have e3':=z1 _ _ e3
   have fp:=List.length_pos_iff.mpr f0
   have xl:(hs[j].map V.int).getLast? = some (.int (nz hs[j] (hs[j].length - 1))):=by
    rw[List.getLast?_eq_getElem?,List.length_map,List.getElem?_map,List.getElem?_eq_getElem (show hs[j].length - 1<hs[j].length by walk_at"o"),bC (List.getElem?_eq_getElem (show hs[j].length - 1<hs[j].length by walk_at"o"))]
    rfl
   have fin:Bp K d (CN K d [some (V.int side)] (fun zs H'=>ar (vw K H) (vw K H')/\zs=List.map V.int (List.map (dH side) (List.take (j+1) hs))) [some (V.ref l),some (V.int side)]) (.int (dH side hs[j])) H':=by
    refine .mk h' ?_ fun H8 B8 h8=>⟨fun y o e=>B8 _ _ (ai e hd) (z1 _ _ e),?_⟩
    ·have:=lb.1
     have:1000<=sizeLine:=by decide
     simp
     walk_at"o"
    ·rw[List.take_add_one,List.getElem?_eq_getElem hj',List.map_append,List.map_append]
     rfl
   refine⟨hs[j].length,by simp only[gT,e3',List.length_map],by walk_at"o",cO (fun z=>⟨_,e3',_,iz xl,_,rfl,?_⟩) (fun z=>⟨_,e3',_,iz xl,_,rfl,?_⟩)⟩
   ·have o:hs[j].length % 2=1:=by
     have:((hs[j].length:Nat):Int) % 2 ≠ 0:=by simpa using z
     walk_at"o"
    have e:dH side hs[j]=(nz hs[j] (hs[j].length - 1)).sign:=if_pos o
    rw[e] at fin
    exact fin
   ·have o:¬ hs[j].length % 2=1:=fun y=>by
     have:((hs[j].length:Nat):Int) % 2=0:=by simpa using z
     walk_at"o"
    have e:dH side hs[j]=side*(nz hs[j] (hs[j].length - 1)).sign:=if_neg o
    rw[e] at fin
    show gX K (V.int side) (V.int _) H' _
    rw[eU]
    refine⟨cw (m:=2) (n:=2) ?_ ?_ (by decide),fin⟩
    ·rcases ps with y|y <;> rw[y] <;> decide
    ·rcases Int.lt_trichotomy (nz hs[j] (hs[j].length - 1)) 0 with y|y|y
     ·rw[Int.sign_eq_neg_one_of_neg y];decide
     ·rw[y];decide
     ·rw[Int.sign_eq_one_of_pos y];decide
  ·obtain⟨z1,rfl⟩:=z
   refine h d H3 z1 ?_
   rw[h3,lxs,List.take_length]
def jn(ms ns:List Int)(rows:List (List Int × List Int × Int × Int)):List (List Int):=if ns=[] then [ms] else ms :: ns :: oe 1 1 rows
def dj(K:W.Frag):Sp:=fun vs H Q _=>∃ (a b:Addr)(ms ns:List Int),vs=[.ref a,.ref b]/\vw K H a=some (.lst (ms.map V.int))/\vw K H b=some (.lst (ns.map V.int))/\ms ≠ []/\ns.length<=ms.length/\gq 1110 ms/\gq 1110 ns /\
 ∀ (d:Addr)(H':Hp) rows,ar (vw K H) (vw K H')->iM (vw K H') d (jn ms ns rows)->m9 ms ns rows->rows.length<=9->(∀ row ∈ rows,row.1.length<=9 /\ ∀ x ∈ row.1,Bt 17840 x)->Q (.ref d) H'
theorem kg(F:eE K "signed_chain" "signed_chain" cu f fd) (T:ge K mg)(C_wholes_rests:bU P w K mg base "wholes_rests" ["one", "other"] 3 (dc K)) (C_sign_of:bU P w K mg base "sign_of" ["whole"] 1 (dq K)):bB P w K mg base dZ 4 f fd ["one", "other"] (dj K):=by
 have scN:=gO.nd
 refine F.okQ gO (fun vs H Q E h=>?_) (fun cdv A outer s H vs Q E hr h=>?_)
 ·obtain⟨_,_,_,_,rfl,_⟩:=h
  rfl
 ·obtain⟨a,b,ms,ns,rfl,ha,hb,m0,lmn,im,il,h⟩:=h
  refine⟨_,(af (ao (i:=2) scN rfl (by walk_at"a1") (eP (cX (qv 1) (fun _=>rfl)) (aK (aa (qv 0) (aa (qv 1) ac))) (aK (aa (qv 0) ac))))
   (af (zP ae (ak (i:=3) scN rfl (by walk_at"a1")) (ak (i:=4) scN rfl (by walk_at"a1")))
   (af (cL PassesOwn.never rfl (bz (aj C_wholes_rests (hr.mono (by walk_at"a2")) rfl (aa (qv 0) (aa (qv 1) ac)))) (eJ (n:=4) rfl (aI (ak (i:=5) scN rfl (by walk_at"a1")) (aI (ak (i:=6) scN rfl (by walk_at"a1")) (aI (ak (i:=7) scN rfl (by walk_at"a1")) (aI (ak (i:=8) scN rfl (by walk_at"a1")) eH))))) (af (gz (aD (aa (qv 4) (aa (ap aV (ap aV (fS dM (qv 3)) (aj C_sign_of (hr.mono (by walk_at"a2")) rfl (aa (qv 7) ac))) (aj C_sign_of (hr.mono (by walk_at"a2")) rfl (aa (qv 8) ac))) ac))) (eJ (n:=2) rfl (aI (ak (i:=3) scN rfl (by walk_at"a1")) (aI (ak (i:=4) scN rfl (by walk_at"a1")) eH))))
   (ah (gK (nF PySem.F.plainAttrs_list PySem.F.slot_list_append PySem.F.type_list_append fK (qv 2) (aa (dI (own:=["whole"]) (outs:=["latter"]) (ixs:=[4]) rfl (bz (qv 5)) rfl ⟨rfl,rfl,rfl,⟨rfl,trivial⟩,rfl,⟨⟨rfl,rfl,rfl,_,rfl⟩,trivial⟩⟩ (fun _ _ _ _=>⟨(ak (i:=0) (show (["whole", "latter"]:List Str).Nodup by decide +kernel) rfl (by walk_at"a1")),eY,(ap (show eD _ _ (gX K) from aV) (qv 1) (qv 0))⟩)) ac))))))
   (ah (aB (qv 2)))))),?_⟩
  walk_at"m"
  refine aQ.gen fun N1 hN1=>?_
  have key:∀ (t:Addr)(H1:Hp),ar (vw K H) (vw K H1)->vw K H t=none->iM (vw K H1) t (jn ms ns [])->N1 [some (.ref a),some (.ref b),some (.ref t),none,none,none,none,none,none] H1:=fun t H1 S1 ht l1=>hN1 _ _ ?_
  ·walk_at"vc"
   refine⟨_,i5 hb,cO (fun hc=>⟨by decide,fun t H1 ht S1 h1=>key t H1 S1 ht ?_⟩) (fun hc=>⟨by decide,fun t H1 ht S1 h1=>key t H1 S1 ht ?_⟩)⟩
   ·have n0:ns ≠ []:=fun z=>by rw[z] at hc;cases hc
    unfold jn
    rw[if_neg n0]
    refine⟨_,h1,rfl,fun k F e=>?_⟩
    match k,e with
    | 0,e=>cases e;exact⟨a,rfl,ai ha ht,S1 _ _ ha⟩
    | 1,e=>cases e;exact⟨b,rfl,ai hb ht,S1 _ _ hb⟩
   ·have n0:ns=[]:=by
     cases ns with
     | nil=>rfl
     | cons _ _=>exact absurd rfl hc
    unfold jn
    rw[if_pos n0]
    refine⟨_,h1,rfl,fun k F e=>?_⟩
    match k,e with
    | 0,e=>cases e;exact⟨a,rfl,ai ha ht,S1 _ _ ha⟩
  clear hN1
  refine aQ.gen fun N2 hN2=>?_
  simp only[AQ]
  walk_at"vc"
  refine hN2 _ _ ?_
  refine aQ.gen fun N3 hN3=>?_
  walk_at"vc"
  simp only[dc]
  refine⟨a,b,ms,ns,rfl,S1 _ _ ha,S1 _ _ hb,m0,lmn,im,il,fun d H2 tv rows S2 h2 rr rst lrw rb=>⟨d,rfl,⟨_,.of (aC h2)⟩,?_⟩⟩
  have S02:=S1.trans S2
  have l2:=l1.same S2
  obtain⟨ys,hys,lys,cys⟩:=id l2
  have h0:(jn ms ns [])[0]? = some ms:=by
   unfold jn
   split <;> rfl
  obtain⟨l0,y0,_,hz0⟩:=cys 0 ms h0
  have ndt:d ≠ t:=fun z=>by
   subst z
   rw[h2] at hys
   cases hys
   have:0<tv.length:=(List.getElem?_eq_some_iff.mp y0).1
   have hr0:0<rows.length:=by rw[<- rr.1];exact this
   obtain⟨p',_,_,q1,q2,_⟩:=rr.2 0 _ (List.getElem?_eq_getElem hr0)
   rw[q1] at y0
   cases y0
   rw[hz0] at q2
   cases q2
  have nint:∀ (l:Addr)(is:List Int),vw K H2 l=some (.lst (is.map V.int))->l ≠ t:=fun l is e z=>by
   subst z
   rw[hys] at e
   cases e
   rw[List.getElem?_map] at y0
   cases q:is[0]? with
   | none=>rw[q] at y0;cases y0
   | some _=>rw[q] at y0;cases y0
  have ntup:∀ (l:Addr) us,vw K H2 l=some (.tup us)->l ≠ t:=fun l us e z=>by
   subst z
   rw[hys] at e
   cases e
  obtain⟨Pv,hPv⟩ : ∃ Pv:Nat->St->Hp->Prop,∀ i σ H',Pv i σ H' ↔ ∃ (o5 o6 o7 o8:Option V)(p q:Int)(dn:List (List Int)),σ=[some (.ref a),some (.ref b),some (.ref t),some (.int p),some (.int q),o5,o6,o7,o8]/\dS t (vw K H2) (vw K H')/\iM (vw K H') t (jn ms ns [] ++ dn)/\oh p/\oh q/\dn.length=i/\oe 1 1 rows=dn ++ oe p q (rows.drop i):=⟨_,fun _ _ _=>Iff.rfl⟩
  refine aO (its:=tv) Pv (fun i σ H' _ q=>?_) ((hPv _ _ _).mpr ⟨_,_,_,_,1,1,[],rfl,fun _ _ _ z=>z,by rw[List.append_nil];exact l2,.inl rfl,.inl rfl,rfl,rfl⟩) (fun i x σ H9 hi hx pv=>?_) (fun σ H9 pv=>?_)
  ·obtain⟨_,_,_,_,_,_,_,_,B',_⟩:=(hPv _ _ _).mp q
   exact aE (B' _ _ ndt h2)
  ·obtain⟨o5,o6,o7,o8,p,q,dn,rfl,B9,l9,pp,pq,ldn,esc⟩:=(hPv _ _ _).mp pv
   have hir:i<rows.length:=by rw[<- rr.1];exact hi
   obtain⟨row,gm⟩ : ∃ row,rows[i]? = some row:=⟨_,List.getElem?_eq_getElem hir⟩
   obtain⟨p',ra,qa,t1,t2,t3,t4,_,_⟩:=rr.2 i row gm
   rw[t1] at hx
   cases hx
   have hmem:=List.mem_of_getElem? gm
   obtain⟨rl,rbt,_⟩:=rb row hmem
   obtain⟨T0,S0,_⟩:=rst.ne row hmem
   walk_at"vc"
   refine⟨_,B9 _ _ (ntup _ _ t2) t2,rfl,_,_,rfl,_,_,rfl,_,_,rfl,_,_,rfl,rfl,?_⟩
   simp only[dq]
   have pb:∀ {y:Int},oh y->Bt 2 y:=fun h=>by rcases h with z|z <;> rw[z] <;> decide
   have sb:∀ {y:Int},y ≠ 0->oh y.sign:=fun h=>by
    rcases dN h with ⟨z,_⟩|⟨z,_⟩
    ·exact .inl z
    ·exact .inr z
   have pn:oh (-p):=by rcases pp with z|z <;> rw[z] <;> first|exact .inl rfl|exact .inr rfl
   have pm2:∀ {x y:Int},oh x->oh y->oh (x*y):=fun h k=>by rcases h with z|z <;> rcases k with u|u <;> rw[z,u] <;> first|exact .inl rfl|exact .inr rfl
   have p1:=pm2 pn (sb T0)
   have p2:=pm2 p1 (sb S0)
   refine⟨_,rfl,?_⟩
   rw[eU]
   refine⟨cw (pb pn) (pb (sb T0)) (by decide),_,rfl,?_⟩
   rw[eU]
   obtain⟨μ,hμ⟩ : ∃ μ,μ = -p*row.2.2.1.sign*row.2.2.2.sign:=⟨_,rfl⟩
   rw[<- hμ] at p2 ⊢
   refine⟨cw (pb p1) (pb (sb S0)) (by decide),by decide,fun u Ha hu Sa ha'=>⟨u,rfl,_,ha',rfl,_,_,rfl,_,_,rfl,rfl,?_⟩⟩
   obtain⟨ws,hws,lws,cws⟩:=id l9
   have hra:vw K Ha ra=some (.lst (row.1.map V.int)):=Sa _ _ (B9 _ _ (nint _ _ t3) t3)
   refine⟨jM (Sa _ _ hws),ra,rfl,⟨_,.of (aC hra)⟩,fun d2 Hc hd2 Sc hdc=>?_⟩
   refine aX (its:=row.1.map V.int) (fun j zs H'=>ar (vw K Ha) (vw K H')/\zs=((row.1.take j).map fun y=>μ*y).map V.int) (fun j zs H' _ _ z=>aE (z.1 _ _ hra)) hdc ⟨Sc,rfl⟩ (fun j y zs H' hj hy h' z=>?_) (fun zs Hd hdd z=>?_)
   ·obtain⟨z1,rfl⟩:=z
    rw[List.length_map] at hj
    rw[List.getElem?_map,List.getElem?_eq_getElem hj] at hy
    cases hy
    walk_at"vc"
    refine⟨cw (pb p2) (rbt _ (List.getElem_mem hj)) (by decide),.mk h' ?_ fun H8 B8 h8=>⟨fun y o e=>B8 _ _ (ai e hd2) (z1 _ _ e),?_⟩⟩
    ·rw[List.length_map,List.length_map,List.length_take]
     have:1000<=sizeLine:=by decide
     walk_at"o"
    ·rw[List.take_add_one,List.getElem?_eq_getElem hj,List.map_append,List.map_append]
     rfl
   obtain⟨Sad,rfl⟩:=z
   rw[List.length_map,List.take_length] at hdd
   have S9d:=Sa.trans Sad
   have nd2:d2 ≠ t:=(ai (Sa _ _ hws) hd2).symm
   refine⟨ws,S9d _ _ hws,?_,fun Hf Bf hf=>(hPv _ _ _).mpr ⟨_,_,_,_,q,μ,dn ++ [row.1.map fun y=>μ*y],rfl,(B9.same_trans S9d).trans Bf,?_,pq,p2,by simp[ldn],?_⟩⟩
   ·have l3:(jn ms ns []).length<=2:=by
     unfold jn
     split <;> simp[oe]
    rw[lws,List.length_append]
    have:1000<=sizeLine:=by decide
    walk_at"o"
   ·rw[<- List.append_assoc]
    exact (l9.same S9d).snoc (S9d _ _ hws) Bf nd2 hdd hf
   ·rw[esc,List.append_assoc]
    congr 1
    have ed:rows.drop i=row :: rows.drop (i+1):=by
     rw[List.drop_eq_getElem_cons hir]
     congr 1
     rw[List.getElem?_eq_getElem hir] at gm
     cases gm
     rfl
    rw[ed,hμ]
    rfl
  ·obtain⟨o5,o6,o7,o8,p,q,dn,rfl,B9,l9,pp,pq,ldn,esc⟩:=(hPv _ _ _).mp pv
   refine hN3 _ _ ?_
   walk_at"vc"
   refine h t H9 rows (fun y o e=>B9 _ _ (ai e ht) (S02 _ _ e)) ?_ rst lrw fun row hr=>⟨(rb row hr).1,(rb row hr).2.1⟩
   have e1:rows.drop tv.length=[]:=List.drop_eq_nil_of_le (by rw[rr.1];walk_at"o")
   rw[e1] at esc
   have e2:oe 1 1 rows=dn:=by rw[esc];exact List.append_nil _
   have e3:jn ms ns rows=jn ms ns [] ++ dn:=by
    unfold jn
    by_cases n0:ns=[]
    ·rw[if_pos n0,if_pos n0]
     subst n0
     have:rows=[]:=by
      cases rst with
      | nought=>rfl
      | last n=>exact absurd rfl n
      | more n=>exact absurd rfl n
     subst this
     rw[<- e2]
     rfl
    ·rw[if_neg n0,if_neg n0,e2]
     rfl
   rw[e3]
   exact l9
theorem wV{P:List Int}{Fs hs:List (List Int)}{F h:List Int}(p:uR P Fs hs)(l:h.length<=9)(n:h ≠ [])(z:nz h (h.length - 1) ≠ 0)(e:∀ k,nz F k=pz (nz h) (nz P) h.length k):uR P (Fs ++ [F]) (hs ++ [h]):=by
 induction p with
 | nil=>exact .cons l n z e .nil
 | cons a b c d _ ih=>exact .cons a b c d ih
theorem wO{F h P:List Int}(f0:nz F (F.length - 1) ≠ 0)(p0:0<P.length)(lh:h.length=F.length+1 - P.length)(lF:P.length<=F.length)(e:∀ k,nz F k=pz (nz h) (nz P) h.length k):nz h (h.length - 1) ≠ 0:=fun z=>f0 (by
 have hg:∀ j,P.length - 1<j->eX P j=0:=fun j hj=>bZ P j (by walk_at"o")
 have hf:∀ j,h.length - 1<j->eX h j=0:=fun j hj=>bZ h j (by walk_at"o")
 have a:=lQ hg hf h.length
 rw[if_pos (by walk_at"o"),show h.length - 1+(P.length - 1)=F.length - 1 by walk_at"o"] at a
 have b:((nz F (F.length - 1):Int):Rat)=((pz (nz h) (nz P) h.length (F.length - 1):Int):Rat):=by rw[<- e]
 rw[gL] at b
 have c:eX h (h.length - 1)=0:=by show ((nz h (h.length - 1):Int):Rat)=0;rw[z];rfl
 rw[c,Rat.zero_mul] at a
 exact Rat.intCast_inj.mp (b.trans a))
theorem uY{F h P rs:List Int}(p0:nz P (P.length - 1) ≠ 0)(pl:0<P.length)(lr:rs.length<P.length)(lz1:rs.length ≠ 0->nz rs (rs.length - 1) ≠ 0)(e:∀ k,nz F k=pz (nz h) (nz P) h.length k+nz rs k)(ex:As F P):rs=[]:=Classical.byContradiction fun n=>by
 obtain⟨Q,eQ⟩:=ex
 have ln:=List.length_pos_iff.mpr n
 have r:=qB (q:=eX Q) (q':=eX h) (g:=eX P) (r:=fun _=>0) (r':=eX rs) (n:=Q.length) (n':=h.length) (d:=P.length - 1) (fun j hj=>bZ P j (by walk_at"o")) (az p0) (fun _ _=>rfl) (fun k hk=>bZ rs k (by walk_at"o")) (fun k=>by
  have a:((nz F k:Int):Rat)=((pz (nz Q) (nz P) Q.length k:Int):Rat):=by rw[<- eQ]
  have b:((nz F k:Int):Rat)=((pz (nz h) (nz P) h.length k+nz rs k:Int):Rat):=by rw[<- e]
  rw[gL] at a
  rw[Rat.intCast_add,gL] at b
  show pr (fun i=>((nz Q i:Int):Rat)) (fun i=>((nz P i:Int):Rat)) Q.length k+0=pr (fun i=>((nz h i:Int):Rat)) (fun i=>((nz P i:Int):Rat)) h.length k+((nz rs k:Int):Rat)
  grind) (rs.length - 1)
 exact absurd r.symm (az (lz1 (by walk_at"o")))
def cZ(K:W.Frag):Sp:=fun vs H Q _=>∃ (a:Addr)(Fs:List (List Int))(L:List Int),vs=[.ref a]/\iM (vw K H) a Fs/\Fs.getLast? = some L/\Fs.length<=12/\(∀ F ∈ Fs,F ≠ []/\F.length<=9/\nz F (F.length - 1) ≠ 0/\L.length<=F.length /\ ∀ x ∈ F,Bt 17850 x)/\(∀ (P:List Int)(g:Int),0<g->P.length=L.length->(∀ k,nz L k=g*nz P k)->vz (nz P) -> ∀ F ∈ Fs,As F P) /\
 ∀ (d:Addr)(H':Hp)(P:List Int)(g:Int) hs,ar (vw K H) (vw K H')->iM (vw K H') d hs->0<g->P.length=L.length->(∀ k,nz L k=g*nz P k)->uR P Fs hs->D4 600000 hs->Q (.ref d) H'
theorem j7(F:eE K "parted_chain" "parted_chain" cz f fd) (T:ge K mg)(C_lowered:bU P w K mg base "lowered" ["wholes"] 2 (dk K)) (C_wholes_parted:bU P w K mg base "wholes_parted" ["one", "other"] 2 (bM K)):bB P w K mg base dZ 3 f fd ["lists"] (cZ K):=by
 have scN:=gR.nd
 refine F.okQ gR (fun vs H Q E h=>?_) (fun cdv A outer s H vs Q E hr h=>?_)
 ·obtain⟨_,_,_,rfl,_⟩:=h
  rfl
 ·obtain⟨a,Fs,L,rfl,ha,hL,l12,hF,hX,h⟩:=h
  refine⟨_,(af (ao (i:=1) scN rfl (by walk_at"a1") (aj C_lowered (hr.mono (by walk_at"a2")) rfl (aa (ay dX (qv 0) (fS dM ae) (fun _ _=>rfl)) ac)))
   (ah (aB (dI (own:=["one"]) (outs:=["last"]) (ixs:=[1]) rfl (bz (qv 0)) rfl ⟨rfl,rfl,rfl,⟨rfl,trivial⟩,rfl,⟨⟨rfl,rfl,rfl,_,rfl⟩,trivial⟩⟩ (fun _ _ _ _=>⟨(ak (i:=0) (show (["one", "last"]:List Str).Nodup by decide +kernel) rfl (by walk_at"a1")),eY,(ay (show qN _ (sw K) from cy) (aj C_wholes_parted (hr.mono (by walk_at"a2")) rfl (aa (qv 0) (aa (qv 1) ac))) ae (fun _ _=>rfl))⟩))))),?_⟩
  walk_at"m"
  obtain⟨xs,hxs,lxs,cxs⟩:=id ha
  have lm:=List.mem_of_getLast? hL
  obtain⟨L0,L9,Lz,_,Lb⟩:=hF L lm
  have fp:0<Fs.length:=List.length_pos_of_mem lm
  have eL:Fs[Fs.length - 1]? = some L:=by rw[<- List.getLast?_eq_getElem?];exact hL
  obtain⟨la,e1,_,e3⟩:=cxs _ L eL
  have xl:xs.getLast? = some (.ref la):=by rw[List.getLast?_eq_getElem?,lxs];exact e1
  refine aQ.gen fun N1 hN1=>?_
  walk_at"vc"
  simp only[dk]
  refine⟨xs,hxs,_,iz xl,la,L,17850,rfl,e3,by walk_at"o",by decide,Lb,fun _=>Lz,fun p H1 P g S1 hp np lP g0 hg prm bP=>hN1 _ _ ?_⟩
  walk_at"vc"
  refine⟨⟨_,.of (aC (S1 _ _ hxs))⟩,fun d H2 hd S2 h2=>?_⟩
  have L0':=List.length_pos_iff.mpr L0
  have Pz:nz P (P.length - 1) ≠ 0:=fun z=>Lz (by rw[hg,<- lP,z,Int.mul_zero])
  have exq:=hX P g g0 lP hg (prm L0)
  refine aX (its:=xs) (fun j zs H'=>ar (vw K H1) (vw K H') /\ ∃ hs,iM (vw K H') d hs/\uR P (Fs.take j) hs/\hs.length=j /\ ∀ F ∈ hs,F ≠ []/\F.length<=20 /\ ∀ x ∈ F,Bt 600000 x) (fun j zs H' _ _ z=>aE (z.1 _ _ (S1 _ _ hxs))) h2 ⟨S2,[],⟨[],h2,rfl,by simp⟩,.nil,rfl,by simp⟩ (fun j x zs H' hj hx h' z=>?_) (fun zs H3 h3 z=>?_)
  ·obtain⟨z1,hs,lh,pt,ln,bh⟩:=z
   have hj':j<Fs.length:=by walk_at"o"
   obtain⟨l,f1,f2,f3⟩:=cxs j _ (List.getElem?_eq_getElem hj')
   rw[hx] at f1
   cases f1
   have hm:=List.getElem_mem hj'
   obtain⟨F0,F9,Fz,FL,Fb⟩:=hF _ hm
   walk_at"vc"
   simp only[bM]
   refine⟨l,p,_,P,17850,17850,rfl,z1 _ _ (S1 _ _ f3),z1 _ _ hp,by walk_at"o",Pz,by walk_at"o",by walk_at"o",by decide,by decide,Fb,bP,fun p4 qa ra S qs rs H4 S4 h4 hqa hra nra lq lr _ ex bS bq br lrz ev=>⟨_,rfl,_,h4,_,fO,?_⟩⟩
   have xF:=exq _ hm
   have s1:S=1:=ex xF
   subst s1
   have ev':∀ k,nz Fs[j] k=pz (nz qs) (nz P) qs.length k+nz rs k:=fun k=>by rw[<- ev k,Int.one_mul]
   have rn:=uY Pz (by walk_at"o") lr lrz ev' xF
   subst rn
   have BH:∀ k,nz Fs[j] k=pz (nz qs) (nz P) qs.length k:=fun k=>by rw[ev' k,aW (by simp)];walk_at"o"
   have q0:0<qs.length:=by walk_at"o"
   have nqd:qa ≠ d:=fun e=>by
    subst e
    rw[S4 _ _ h'] at hqa
    cases hqa
    obtain⟨ys,y1,y2,y3⟩:=lh
    rw[h'] at y1
    cases y1
    rw[List.length_map] at y2
    have hh:0<hs.length:=by walk_at"o"
    obtain⟨l',w1,_⟩:=y3 0 _ (List.getElem?_eq_getElem hh)
    rw[List.getElem?_map,List.getElem?_eq_getElem q0] at w1
    cases w1
   refine .mk (S4 _ _ h') ?_ fun H8 B8 h8=>⟨fun y o e=>B8 _ _ (ai e hd) (S4 _ _ (z1 _ _ e)),hs ++ [qs],(lh.same S4).snoc (S4 _ _ h') B8 nqd hqa h8,?_,by simp[ln],fun F hF'=>?_⟩
   ·obtain⟨ys,y1,y2,_⟩:=lh
    rw[h'] at y1
    cases y1
    have:1000<=sizeLine:=by decide
    walk_at"o"
   ·rw[List.take_add_one,List.getElem?_eq_getElem hj']
    exact wV pt (by walk_at"o") (List.length_pos_iff.mp q0) (wO Fz (by walk_at"o") (by walk_at"o") (by walk_at"o") BH) BH
   ·rcases List.mem_append.mp hF' with y|y
    ·exact bh F y
    ·rw[List.mem_singleton.mp y]
     exact⟨List.length_pos_iff.mp q0,by walk_at"o",fun x hx=>(bq x hx).mono (by decide)⟩
  ·obtain⟨z1,hs,lh,pt,ln,bh⟩:=z
   rw[lxs,List.take_length] at pt
   exact h d H3 P g hs (S1.trans z1) lh g0 lP hg pt ⟨by walk_at"o",bh⟩
def cg(K:W.Frag):Sp:=fun vs H Q _=>∃ (a:Addr)(fs:List (Int × Int)),vs=[.ref a]/\cG (vw K H) a fs/\fs ≠ []/\fs.length<=9/\ei fs/\Pb 185 (cf fs) /\
 ∀ (d:Addr)(H':Hp) hs,ar (vw K H) (vw K H')->iM (vw K H') d hs->CC fs hs->(∀ x ∈ hs,x ≠ []/\x.length<=20/\nz x (x.length - 1) ≠ 0)->D4 600000 hs->Q (.ref d) H'
theorem ji(F:eE K "counting_chain" "counting_chain" bQ f fd) (T:ge K mg)(C_lowered:bU P w K mg base "lowered" ["wholes"] 2 (dk K)) (C_cleared:bU P w K mg base "cleared" ["f"] 2 (gI K)) (C_parted_chain:bU P w K mg base "parted_chain" ["lists"] 3 (cZ K)) (C_signed_chain:bU P w K mg base "signed_chain" ["one", "other"] 4 (dj K)) (C_wholes_slope:bU P w K mg base "wholes_slope" ["wholes"] 1 (de K)):bB P w K mg base dZ 5 f fd ["f"] (cg K):=by
 have scN:=fV.nd
 refine F.okQ fV (fun vs H Q E h=>?_) (fun cdv A outer s H vs Q E hr h=>?_)
 ·obtain⟨_,_,rfl,_⟩:=h
  rfl
 ·obtain⟨a,fs,rfl,ha,f0,lf,pf,bf,h⟩:=h
  refine⟨_,(af (ao (i:=1) scN rfl (by walk_at"a1") (aj C_lowered (hr.mono (by walk_at"a2")) rfl (aa (ay cy (aj C_cleared (hr.mono (by walk_at"a2")) rfl (aa (qv 0) ac)) ae (fun _ _=>rfl)) ac)))
   (ah (aB (aj C_parted_chain (hr.mono (by walk_at"a2")) rfl (aa (aj C_signed_chain (hr.mono (by walk_at"a2")) rfl (aa (qv 1) (aa (aj C_lowered (hr.mono (by walk_at"a2")) rfl (aa (aj C_wholes_slope (hr.mono (by walk_at"a2")) rfl (aa (qv 1) ac)) ac)) ac))) ac))))),?_⟩
  walk_at"m"
  refine aQ.gen fun N1 hN1=>?_
  walk_at"vc"
  simp only[gI,dk]
  have bq:=bf.bq pf.1
  refine⟨a,fs,185,rfl,ha,by walk_at"o",by decide,fun q z=>⟨pf.1 q z,bq q z⟩,fun p b H2 D ns S2 h2 hb nb hD _ ln hn hm=>⟨_,rfl,_,h2,_,fO,?_⟩⟩
  have hc2:=rm bf pf.1 hD hm ln fun i n q e1 e2=>(hn i n q e1 e2).1
  have cl:=wT ln fun i n q e1 e2=>(hn i n q e1 e2).1
  have D0:(D:Rat) ≠ 0:=az (by walk_at"o")
  have lfp:0<fs.length:=List.length_pos_iff.mpr f0
  have nl:nz ns (ns.length - 1) ≠ 0:=fun z=>by
   have q1:=cl (ns.length - 1)
   have q2:=mS pf f0
   rw[z,ln] at q1
   have:cf fs (fs.length - 1)*(D:Rat)=0:=q1.symm
   rcases Rat.mul_eq_zero.mp this with y|y
   ·exact q2 y
   ·exact D0 y
  refine⟨b,ns,200,rfl,hb,by walk_at"o",by decide,fun x z=>(hc2.2 x z).mono (by decide),fun _=>nl,fun wa H3 W g S3 hW nW lW g0 hg prW bW=>hN1 _ _ ?_⟩
  have Wz:nz W (W.length - 1) ≠ 0:=fun z=>nl (by rw[hg,<- lW,z,Int.mul_zero])
  have W0:W ≠ []:=fun z=>by rw[z] at lW;simp at lW;walk_at"o"
  walk_at"vc"
  simp only[de,dk]
  refine⟨wa,W,rfl,hW,by walk_at"o",fun x z=>(bW x z).mono (by decide),fun sa H4 S S4 hS nS lS eS bS=>?_⟩
  have Sz:S ≠ []->nz S (S.length - 1) ≠ 0:=fun z=>by
   have:=List.length_pos_iff.mpr z
   rw[eS,show S.length - 1+1=W.length - 1 by walk_at"o"]
   exact Int.mul_ne_zero (by walk_at"o") Wz
  refine⟨sa,S,220,rfl,hS,by walk_at"o",by decide,bS,Sz,fun oa H5 O g' S5 hO nO lO g0' hg' prO bO=>?_⟩
  simp only[dj]
  have Oz:O ≠ []->nz O (O.length - 1) ≠ 0:=fun z y=>by
   have:=List.length_pos_iff.mpr z
   have z2:S ≠ []:=List.length_pos_iff.mp (by walk_at"o")
   refine Sz z2 ?_
   rw[hg',<- lO,y,Int.mul_zero]
  have up:∀ {x:Int}{n:Nat},n<=1110->Bt n x->Bt 1110 x:=fun l b=>b.mono l
  refine⟨wa,oa,W,O,rfl,(S4.trans S5) _ _ hW,hO,W0,by walk_at"o",⟨by walk_at"o",fun x z=>up (by decide) (bW x z),fun _=>Wz⟩,⟨by walk_at"o",fun x z=>up (by decide) (bO x z),Oz⟩,fun d H6 rows S6 l6 rst lrw rb=>?_⟩
  simp only[cZ]
  have S06:=S2.trans (S3.trans (S4.trans (S5.trans S6)))
  have hW':∀ k,eX W k=cf fs k*((D:Rat) / (g:Rat)):=fun k=>by
   have e1:=cl k
   rw[hg k,Rat.intCast_mul] at e1
   have c:=az (show g ≠ 0 by walk_at"o")
   show ((nz W k:Int):Rat)=_
   grind
  have hn:∀ row ∈ rows,row.2.2.1 ≠ 0/\row.2.2.2 ≠ 0:=fun row z=>⟨(rst.ne row z).1,(rst.ne row z).2.1⟩
  by_cases o0:O=[]
  ·have lo:O.length=0:=by rw[o0];rfl
   have W1:W.length=1:=by
    have:=List.length_pos_iff.mpr W0
    walk_at"o"
   have e6:jn W O rows=[W]:=if_pos o0
   rw[e6] at l6
   refine⟨d,[W],W,rfl,l6,rfl,by simp,fun F hF=>?_,fun P g2 g20 lP hP prm F hF=>?_,fun d7 H7 P g2 hs S7 l7 g20 lP hP pt lb=>?_⟩
   ·rw[List.mem_singleton.mp hF]
    exact⟨W0,by walk_at"o",Wz,Nat.le_refl _,fun x z=>(bW x z).mono (by decide)⟩
   ·rw[List.mem_singleton.mp hF]
    refine⟨[g2],xS (by simp;walk_at"o") (by walk_at"o") fun x=>?_⟩
    rw[tw,fL hP]
   ·refine h d7 H7 hs (S06.trans S7) l7 ?_ pt.all lb
    cases pt with
    | @cons _ h1 _ _ a1 a2 a3 a4 pt =>
     cases pt with
     | nil =>
      have Pz:nz P 0 ≠ 0:=fun z=>Wz (by rw[hP,W1,z,Int.mul_zero])
      obtain⟨c,c0,rfl⟩:=yV W1 a2 a3 (by walk_at"o") Pz a4
      exact .inl ⟨by walk_at"o",c,c0,rfl⟩
  ·have e6:jn W O rows=W :: O :: oe 1 1 rows:=if_neg o0
   rw[e6] at l6
   obtain⟨L,s',eL,ps,nL,lL⟩:=jk rows 1 1 O O hn (.inl rfl) (.inl rfl) (fun k=>by rw[Int.one_mul]) rfl
   obtain⟨sh1,sh2⟩:=rst.short
   have bnd:∀ F ∈ W :: O :: oe 1 1 rows,F ≠ []/\F.length<=9/\nz F (F.length - 1) ≠ 0/\L.length<=F.length /\ ∀ x ∈ F,Bt 17850 x:=fun F hF=>by
    rcases List.mem_cons.mp hF with rfl|hF
    ·exact⟨W0,by walk_at"o",Wz,by walk_at"o",fun x z=>(bW x z).mono (by decide)⟩
    ·rcases List.mem_cons.mp hF with rfl|hF
     ·exact⟨o0,by walk_at"o",Oz o0,by walk_at"o",fun x z=>(bO x z).mono (by decide)⟩
     ·obtain⟨row,hr,s2,ps2,rfl⟩:=pe rows 1 1 hn (.inl rfl) (.inl rfl) F hF
      obtain⟨_,_,r0,rz⟩:=rst.ne row hr
      obtain⟨r9,rb'⟩:=rb row hr
      have:=sh2 row hr
      refine⟨by simpa using r0,by rw[List.length_map];exact r9,?_,by rw[List.length_map];walk_at"o",fun x hx=>?_⟩
      ·rw[List.length_map,dL]
       exact Int.mul_ne_zero (by rcases ps2 with z|z <;> rw[z] <;> decide) rz
      ·obtain⟨y,hy,rfl⟩:=List.mem_map.mp hx
       have:=rb' y hy
       have b2:Bt 2 s2:=by rcases ps2 with z|z <;> rw[z] <;> decide
       exact (b2.mul this).mono (by decide)
   have lsl:(W :: O :: oe 1 1 rows).getLast? = some L:=by rw[List.getLast?_cons_cons];exact eL
   have lsc:∀ (rs:List (List Int × List Int × Int × Int))(x y:Int),(oe x y rs).length=rs.length:=fun rs=>by
    induction rs with
    | nil=>intro x y;rfl
    | cons r rs ih=>intro x y;show (oe _ _ rs).length+1=_;rw[ih];rfl
   have L9:L.length<=9:=by walk_at"o"
   obtain⟨L0,_,Lz,_⟩:=bnd L (List.mem_of_getLast? lsl)
   refine⟨d,_,L,rfl,l6,lsl,by simp only[List.length_cons,lsc];walk_at"o",bnd,fun P g2 g20 lP hP prm=>uW rst o0 (by walk_at"o") (by walk_at"o") prm (by walk_at"o") eL hP fun row hr=>(rb row hr).1,fun d7 H7 P g2 hs S7 l7 g20 lP hP pt lb=>h d7 H7 hs (S06.trans S7) l7 ?_ pt.all lb⟩
   have Pz:nz P (P.length - 1) ≠ 0:=fun z=>Lz (by rw[hP,<- lP,z,Int.mul_zero])
   have P0:P ≠ []:=fun z=>by
    have z2:P.length=0:=by rw[z];rfl
    have:=List.length_pos_iff.mpr L0
    walk_at"o"
   exact DM rst o0 (by walk_at"o") (by walk_at"o") P0 Pz (by walk_at"o") eL (by walk_at"o") hP hW' eS g0' hg' pt
theorem u9{X:Cx}{sts:List Stmt}:qP X sts lZ:=⟨ux⟩
def dP(G:Hp)(v:V):Option (Int × Int)->Prop
 | none=>v = .non
 | some q=>aM G (fr q) v/\Fq q/\Bq 100 q
theorem dP.same{G G':Hp}{v:V}{o:Option (Int × Int)}(h:dP G v o)(S:ar G G'):dP G' v o:=by
 cases o with
 | none=>exact h
 | some q=>exact⟨aM.same S _ _ h.1,h.2⟩
def cC(K:W.Frag):Sp:=fun vs H Q _=>∃ (d:Addr)(x y:V)(hs:List (List Int))(lo hi:Option (Int × Int)),vs=[.ref d,x,y]/\iM (vw K H) d hs/\D4 600000 hs/\dP (vw K H) x lo/\dP (vw K H) y hi /\
 ∀ H',ar (vw K H) (vw K H')->Q (.int (((chg 0 (i0 (-1) (lo.map wv) hs):Nat):Int) - ((chg 0 (i0 1 (hi.map wv) hs):Nat):Int))) H'
theorem jz(F:eE K "count_between" "count_between" ce f fd) (T:ge K mg)(C_signs_far:bU P w K mg base "signs_far" ["lists", "side"] 2 (gA K)) (C_signs_of:bU P w K mg base "signs_of" ["lists", "top", "bottom"] 2 (ii K)) (C_changes:bU P w K mg base "changes" ["signs"] 1 (gx K)):bB P w K mg base dZ 3 f fd ["lists", "low", "high"] (cC K):=by
 have scN:=gu.nd
 refine F.okQ gu (fun vs H Q E h=>?_) (fun cdv A outer s H vs Q E hr h=>?_)
 ·obtain⟨_,_,_,_,_,_,rfl,_⟩:=h
  rfl
 ·obtain⟨d,x,y,hs,lo,hi,rfl,hd,lb,hx,hy,h⟩:=h
  refine⟨_,(af (ao (i:=3) scN rfl (by walk_at"a1") (eP (aF oI (qv 1) dY (aJ _)) (aj C_signs_far (hr.mono (by walk_at"a2")) rfl (aa (qv 0) (aa (fS dM ae) ac))) (aj C_signs_of (hr.mono (by walk_at"a2")) rfl (aa (qv 0) (aa (ay cy (qv 1) ae (fun _ _=>rfl)) (aa (ay cy (qv 1) ae (fun _ _=>rfl)) ac))))))
   (af (ao (i:=4) scN rfl (by walk_at"a1") (eP (aF oI (qv 2) dY (aJ _)) (aj C_signs_far (hr.mono (by walk_at"a2")) rfl (aa (qv 0) (aa ae ac))) (aj C_signs_of (hr.mono (by walk_at"a2")) rfl (aa (qv 0) (aa (ay cy (qv 2) ae (fun _ _=>rfl)) (aa (ay cy (qv 2) ae (fun _ _=>rfl)) ac))))))
   (ah (aB (ap dA (aj C_changes (hr.mono (by walk_at"a2")) rfl (aa (qv 3) ac)) (aj C_changes (hr.mono (by walk_at"a2")) rfl (aa (qv 4) ac))))))),?_⟩
  walk_at"m"
  refine aQ.gen fun N1 hN1=>?_
  have k1:∀ (a:Addr) H1,ar (vw K H) (vw K H1)->vw K H1 a=some (.lst ((i0 (-1) (lo.map wv) hs).map V.int))->N1 [some (.ref d),some x,some y,some (.ref a),none] H1:=fun a H1 S1 h1=>hN1 _ _ ?_
  ·walk_at"vc"
   cases lo with
   | none=>exact oA hx ⟨d,hs,-1,rfl,hd,lb,.inr rfl,fun a H1 S1 h1=>k1 a H1 S1 h1⟩
   | some q =>
    obtain⟨rx,fx,bx⟩:=id hx
    obtain⟨k,rfl,hk⟩:=rx.fr_at
    exact j9 (by simp) ⟨k,rfl,_,hk,_,fO,k,rfl,_,hk,_,iT,d,hs,q.1,q.2,rfl,hd,lb,fx.1,bx.1.mono (by decide),bx.2.mono (by decide),fun a H1 S1 h1=>k1 a H1 S1 h1⟩
  clear hN1
  refine aQ.gen fun N2 hN2=>?_
  have k2:∀ (b:Addr) H2,ar (vw K H1) (vw K H2)->vw K H2 b=some (.lst ((i0 1 (hi.map wv) hs).map V.int))->N2 [some (.ref d),some x,some y,some (.ref a),some (.ref b)] H2:=fun b H2 S2 h2=>hN2 _ _ ?_
  ·have hd1:=hd.same S1
   have hy1:=hy.same S1
   walk_at"vc"
   cases hi with
   | none=>exact oA hy ⟨d,hs,1,rfl,hd1,lb,.inl rfl,fun b H2 S2 h2=>k2 b H2 S2 h2⟩
   | some q =>
    obtain⟨rx,fx,bx⟩:=id hy1
    obtain⟨k,rfl,hk⟩:=rx.fr_at
    exact j9 (by simp) ⟨k,rfl,_,hk,_,fO,k,rfl,_,hk,_,iT,d,hs,q.1,q.2,rfl,hd1,lb,fx.1,bx.1.mono (by decide),bx.2.mono (by decide),fun b H2 S2 h2=>k2 b H2 S2 h2⟩
  clear hN2
  walk_at"vc"
  simp only[gx]
  exact⟨a,_,rfl,S2 _ _ h1,b,_,rfl,h2,_,rfl,_,rfl,h H2 (S1.trans S2)⟩
def jc(lo hi:Option (Int × Int)):Prop:=∃ p q,lo=some p/\hi=some q/\yE p q=false
def fT(K:W.Frag):Sp:=fun vs H Q _=>∃ (a:Addr)(x y:V)(fs:List (Int × Int))(lo hi:Option (Int × Int)),vs=[.ref a,x,y]/\cG (vw K H) a fs/\fs ≠ []/\fs.length<=9/\ei fs/\Pb 185 (cf fs)/\dP (vw K H) x lo/\dP (vw K H) y hi /\
 ∀ (r:Int) H',ar (vw K H) (vw K H')->((jc lo hi/\r=0)\/(¬ jc lo hi /\ ∃ hs,CC fs hs/\(∀ x ∈ hs,x ≠ []/\x.length<=20/\nz x (x.length - 1) ≠ 0)/\r=((chg 0 (i0 (-1) (lo.map wv) hs):Nat):Int) - ((chg 0 (i0 1 (hi.map wv) hs):Nat):Int)))->Q (.int r) H'
theorem qz(F:eE K "how_many" "how_many" du f fd) (T:ge K mg)(C_refuse_nought:bU P w K mg base "refuse_nought" ["f"] 1 (cx K)) (C_is_less:bU P w K mg base "is_less" ["one", "other"] 1 (fM K)) (C_count_between:bU P w K mg base "count_between" ["lists", "low", "high"] 3 (cC K)) (C_counting_chain:bU P w K mg base "counting_chain" ["f"] 5 (cg K)):bB P w K mg base dZ 6 f fd ["f", "low", "high"] (fT K):=by
 have scN:=fU.nd
 refine F.okQ fU (fun vs H Q E h=>?_) (fun cdv A outer s H vs Q E hr h=>?_)
 ·obtain⟨_,_,_,_,_,_,rfl,_⟩:=h
  rfl
 ·obtain⟨a,x,y,fs,lo,hi,rfl,ha,f0,lf,pf,bf,hx,hy,h⟩:=h
  refine⟨_,(af (gK (aj C_refuse_nought (hr.mono (by walk_at"a2")) rfl (aa (qv 0) ac)))
   (af (cW (QW.pt (gF (aF kA (qv 1) dY (aJ _)) (gF (aF kA (qv 2) dY (aJ _)) (gE (jx (jB (aj C_is_less (hr.mono (by walk_at"a2")) rfl (aa (qv 1) (aa (qv 2) ac))))))))) (ah (aB ae)) bj)
   (ah (aB (aj C_count_between (hr.mono (by walk_at"a2")) rfl (aa (aj C_counting_chain (hr.mono (by walk_at"a2")) rfl (aa (qv 0) ac)) (aa (qv 1) (aa (qv 2) ac)))))))),?_⟩
  walk_at"m"
  obtain⟨xs,hxs,rxs⟩:=id ha
  have lx:xs.length=fs.length:=by rw[rxs.length,List.length_map]
  have x0:xs ≠ []:=fun z=>f0 (List.length_eq_zero_iff.mp (by rw[<- lx,z];rfl))
  refine aQ.gen fun N1 hN1=>?_
  walk_at"vc"
  simp only[cx]
  refine⟨a,xs,rfl,hxs,x0,fun H1 S1=>hN1 _ _ ?_⟩
  have hx1:=hx.same S1
  have hy1:=hy.same S1
  refine aQ.gen fun N2 hN2=>?_
  have k2:¬ jc lo hi->N2 [some (.ref a),some x,some y] H1:=fun nn=>hN2 _ _ ?_
  ·walk_at"vc"
   cases lo with
   | none=>exact j9 (fun z=>z hx) (k2 fun ⟨_,_,z,_⟩=>by cases z)
   | some p =>
    obtain⟨rx,fx,bx⟩:=id hx1
    obtain⟨kx,rfl,hkx⟩:=id rx.fr_at
    refine oA (by simp) ?_
    cases hi with
    | none=>exact j9 (fun z=>z hy) (k2 fun ⟨_,_,_,z,_⟩=>by cases z)
    | some q =>
     obtain⟨ry,fy,by'⟩:=id hy1
     obtain⟨ky,rfl,hky⟩:=id ry.fr_at
     refine oA (by simp) ?_
     simp only[fM]
     refine⟨_,_,p,q,rfl,rx,ry,bx.mono (by decide),by'.mono (by decide),_,rfl,cO (fun z=>h 0 H1 S1 (.inl ⟨⟨p,q,rfl,rfl,z⟩,rfl⟩)) (fun z=>k2 ?_)⟩
     rintro ⟨p',q',e1,e2,e3⟩
     cases e1
     cases e2
     exact z e3
  clear hN2
  walk_at"vc"
  simp only[cg,cC]
  exact⟨a,fs,rfl,ha.same S1,f0,lf,pf,bf,fun d H2 hs S2 l2 cc all lb=>⟨d,x,y,hs,lo,hi,rfl,l2,lb,hx1.same S2,hy1.same S2,fun H3 S3=>h _ H3 (S1.trans (S2.trans S3)) (.inr ⟨nn,hs,cc,all,rfl⟩)⟩⟩
def dQ(C:Addr)(K:W.Frag):Sp:=fun vs H _ E=>∃ (a:Addr)(x y:V),vs=[.ref a,x,y]/\vw K H a=some (.lst []) /\ ∀ H',ar (vw K H) (vw K H')->E (.ref C) none H'
theorem nR{C:Addr}(F:eE K "how_many" "how_many" du f fd) (T:ge K mg)(zx_NoPolynomial:pJ K C)(hgx_NoPolynomial:mg "NoPolynomial" = some (.ref C)) (C_refuse_nought:bU P w K mg base "refuse_nought" ["f"] 1 (cx K)) (C_is_less:bU P w K mg base "is_less" ["one", "other"] 1 (fM K)) (C_count_between:bU P w K mg base "count_between" ["lists", "low", "high"] 3 (cC K)) (C_counting_chain:bU P w K mg base "counting_chain" ["f"] 5 (cg K))
  (CX_refuse_nought:wm P w K mg base "refuse_nought" ["f"] 1 (cN C K)):bB P w K mg base (jX P w) 6 f fd ["f", "low", "high"] (dQ C K):=by
 have scN:=fU.nd
 refine F.okX fU (fun vs H Q E h=>?_) (fun cdv A outer s H vs Q E hr h=>?_)
 ·obtain⟨_,_,_,rfl,_⟩:=h
  rfl
 ·obtain⟨a,x,y,rfl,ha,h⟩:=h
  refine⟨_,(af (wP (rG CX_refuse_nought (hr.mono (by decide)) rfl (fun _=>(aa (qv 0) ac))))
   u9),?_⟩
  walk_at"m"
  refine aQ.gen fun N1 hN1=>?_
  simp only[Bb,sV]
  walk_at"vc"
  simp only[cN]
  exact⟨a,rfl,ha,h⟩
def iw(K:W.Frag):Sp:=fun vs H Q _=>∃ a b:Int,vs=[.int a,.int b]/\Q (.int (Int.gcd a b)) H
theorem vk(F:eE K "_law_divisor" "_law_divisor" fw f fd) (T:ge K mg):bB P w K mg base dZ 1 f fd ["_law_one", "_law_other"] (iw K):=by
 have scN:=nu.nd
 refine F.okQ nu (fun vs H Q E h=>?_) (fun cdv A outer s H vs Q E hr h=>?_)
 ·obtain⟨a,b,rfl,_⟩:=h
  rfl
 ·obtain⟨a,b,rfl,h⟩:=h
  refine⟨_,(af (gf PassesOwn.never (aF qw (qv 1) ae (aJ _)) (ah (oO (i:=0) (j:=1) rfl scN rfl rfl (by decide) rfl rfl (aa (qv 1) (aa (ap fk (qv 0) (qv 1)) ac)) rfl)))
   (ah (aB (au jq (by rfl) T.b_abs oQ (aa (qv 0) ac))))),?_⟩
  walk_at"m"
  walk_at"vc"
  refine⟨fun m σ H'=>H'=H /\ ∃ x y:Int,σ=[some (.int x),some (.int y)]/\Int.gcd x y=Int.gcd a b/\m=y.natAbs,⟨_,rfl,_,_,rfl,rfl,rfl⟩,?_⟩
  rintro m σ H' ⟨rfl,x,y,rfl,hg,rfl⟩
  walk_at"vc"
  refine cO (fun hy0=>?_) (fun hy0=>?_)
  ·refine⟨_,fun σ' H' h=>h,?_⟩
   walk_at"vc"
   exact⟨hy0,_,uk x hy0,by rw[qL,hg],rfl⟩
  ·walk_at"vc"
   have e:((Int.gcd a b:Nat):Int)=if x<0 then -x else x:=by
    rw[<- hg,show y=0 by walk_at"o"]
    simp
    split <;> walk_at"o"
   rw[<- e]
   exact h
def jW(K:W.Frag):Sp:=fun vs H Q _=>∃ a b:Int,vs=[.int a,.int b]/\b ≠ 0/\b.natAbs<2 ^ 4000000 /\ ∀ v H',ar (vw K H) (vw K H')->aM (vw K H') (fr (lo a b)) v->Q v H'
theorem DS(F:eE K "_law_low" "_law_low" mX f fd) (T:ge K mg)(N_:mv P base)(zCdivisor:bU P w K mg base "_law_divisor" ["_law_one", "_law_other"] 1 (iw K)):bB P w K mg base dZ 2 f fd ["_law_top", "_law_bottom"] (jW K):=by
 have scN:=Bk.nd
 refine F.okQ Bk (fun vs H Q E h=>?_) (fun cdv A outer s H vs Q E hr h=>?_)
 ·obtain⟨a,b,rfl,_⟩:=h
  rfl
 ·obtain⟨a,b,rfl,hb,hbb,h⟩:=h
  refine⟨_,(af (ao (i:=2) scN rfl (by walk_at"a1") (aj zCdivisor (hr.mono (by walk_at"a2")) rfl (aa (qv 0) (aa (qv 1) ac))))
   (af (cW (aF uu (qv 1) ae (aJ _)) (ah (ao (i:=2) scN rfl (by walk_at"a1") (ap dA ae (qv 2)))) bj)
   (ah (aB (aD (aa (ap (hU N_ hr rfl rfl rfl) (qv 0) (qv 2)) (aa (ap (hU N_ hr rfl rfl rfl) (qv 1) (qv 2)) ac))))))),?_⟩
  walk_at"m"
  walk_at"vc"
  simp only[iw]
  walk_at"vc"
  have hgn:Int.gcd a b ≠ 0:=fun e=>hb (Int.gcd_eq_zero_iff.mp e).2
  have e1:lg a b=if b<0 then 0 - (Int.gcd a b:Int) else (Int.gcd a b:Int):=by
   unfold lg
   split <;> walk_at"o"
  have d1:yZ a (0 - (Int.gcd a b:Int)):=by unfold yZ;walk_at"o"
  have d2:yZ a (Int.gcd a b:Int):=by unfold yZ;walk_at"o"
  refine cO (fun hn=>?_) (fun hn=>?_)
  ·rw[if_pos hn] at e1
   refine⟨d1,d1,by decide,fun p H2 hp S hp2=>?_⟩
   refine h _ H2 S ?_
   rw[<- e1] at hp2
   simp only[fr,lo,aM,aA]
   exact⟨p,_,rfl,hp2,_,_,rfl,rfl,_,_,rfl,rfl,rfl⟩
  ·rw[if_neg hn] at e1
   refine⟨d2,d2,by decide,fun p H2 hp S hp2=>?_⟩
   refine h _ H2 S ?_
   rw[<- e1] at hp2
   simp only[fr,lo,aM,aA]
   exact⟨p,_,rfl,hp2,_,_,rfl,rfl,_,_,rfl,rfl,rfl⟩
def kw(K:W.Frag):Sp:=fun vs H Q _=>∃ (a:Addr)(qs:List (Int × Int)),vs=[.ref a]/\cG (vw K H) a qs /\
 ∀ b H' n,n<=qs.length->(∀ q,(qs.take n).getLast? = some q->q.1 ≠ 0)->(∀ q ∈ qs.drop n,q.1=0)->vw K H b=none->ar (vw K H) (vw K H')->cG (vw K H') b (qs.take n)->Q (.ref b) H'
theorem zM(F:eE K "_law_clean" "_law_clean" iA f fd) (T:ge K mg):bB P w K mg base dZ 1 f fd ["_law_numbers"] (kw K):=by
 have scN:=ub.nd
 refine F.okQ ub (fun vs H Q E h=>?_) (fun cdv A outer s H vs Q E hr h=>?_)
 ·obtain⟨a,_,rfl,_⟩:=h
  rfl
 ·obtain⟨a,qs,rfl,ha,h⟩:=h
  refine⟨_,(af (ao (i:=1) scN rfl (by walk_at"a1") (au aN (by rfl) T.b_len ck (aa (qv 0) ac)))
   (af (gf PassesOwn.never (QW.pt (gF (aF pQ (qv 1) ae (aJ _)) (gE (aF hZ (ay cy (ay dX (qv 0) (ap dA (qv 1) ae) (fun _ _=>rfl)) ae (fun _ _=>rfl)) ae (aJ _))))) (ah (ao (i:=1) scN rfl (by walk_at"a1") (ap dA (qv 1) ae))))
   (ah (aB (mB ly (by rfl) T.b_list ur (aa (lY kU (qv 0) ph (oJ (qv 1))) ac)))))),?_⟩
  walk_at"m"
  walk_at"vc"
  refine⟨_,ha.len,fun m σ H'=>H'=H/\m<=qs.length/\(∀ q ∈ qs.drop m,q.1=0)/\σ=[some (.ref a),some (.int m)],⟨_,rfl,Nat.le_refl _,by simp,rfl⟩,?_⟩
  rintro k σ H' ⟨rfl,hk,hdr,rfl⟩
  obtain⟨xs,hax,rx⟩:=ha
  have hlx:xs.length=qs.length:=by rw[rx.length,List.length_map]
  have fin:(∀ q,(qs.take k).getLast? = some q->q.1 ≠ 0)->Nw K H' (HO.lst (kX xs none (some (k:Int)))) fun x H1=>∃ p,x=V.ref p /\ ∃ ys,vw K H1 p=some (HO.lst ys)/\Nw K H1 (HO.lst ys) Q:=fun hq p H2 hp S2 h2=>by
   rw[rR (by walk_at"o")] at h2
   refine⟨p,rfl,_,h2,fun p2 H3 hp2 S3 h3=>h p2 H3 k hk hq hdr ?_ (S2.trans S3) ⟨_,h3,?_⟩⟩
   ·cases e:vw K H' p2 with
    | none=>rfl
    | some o=>rw[S2 _ _ e] at hp2;cases hp2
   ·rw[List.map_take]
    exact (rx.take k).same (S2.trans S3)
  walk_at"vc"
  refine cO (fun h0=>?_) (fun h0=>?_)
  ·have hk1:k - 1<qs.length:=by walk_at"o"
   obtain⟨x,hx,r⟩:=rx.at (i:=k - 1) (d:=fr qs[k - 1]) (by rw[List.getElem?_map,List.getElem?_eq_getElem hk1];rfl)
   obtain⟨p,rfl,hp⟩:=r.fr_at
   have e1:((k:Int) - 1)=((k - 1:Nat):Int):=by walk_at"o"
   refine⟨_,hax,_,by rw[e1];exact cq hx,p,rfl,_,hp,_,fO,?_⟩
   walk_at"vc"
   refine cO (fun hq=>?_) (fun hq=>?_)
   ·refine⟨_,fun σ' H'' z=>z,k - 1,by walk_at"o",rfl,by walk_at"o",fun q' hq'=>?_,by rw[e1]⟩
    rw[List.drop_eq_getElem_cons hk1,show k - 1+1=k by walk_at"o"] at hq'
    rcases List.mem_cons.mp hq' with z|z
    ·rw[z]
     exact hq
    ·exact hdr q' z
   ·refine⟨_,hax,fin fun q hq2=>?_⟩
    have:(qs.take k).getLast? = some qs[k - 1]:=by
     rw[List.getLast?_eq_getElem?,List.length_take,List.getElem?_take]
     rw[if_pos (by walk_at"o"),show min k qs.length - 1=k - 1 by walk_at"o",List.getElem?_eq_getElem hk1]
    rw[this] at hq2
    cases hq2
    exact hq
  ·refine⟨_,hax,fin fun q hq=>?_⟩
   rw[show k=0 by walk_at"o"] at hq
   cases hq
def jG(K:W.Frag):Sp:=fun vs H Q _=>∃ x y p q,vs=[x,y]/\aM (vw K H) (fr p) x/\aM (vw K H) (fr q) y/\p.2 ≠ 0/\q.2 ≠ 0/\Bq 1000000 p/\Bq 1000000 q/\Bt 4000000 (p.2*q.2) /\ ∀ v H',ar (vw K H) (vw K H')->aM (vw K H') (fr (mr p q)) v->Q v H'
theorem DB(F:eE K "_law_plus" "_law_plus" jJ f fd) (T:ge K mg)(zClow:bU P w K mg base "_law_low" ["_law_top", "_law_bottom"] 2 (jW K)):bB P w K mg base dZ 3 f fd ["_law_one", "_law_other"] (jG K):=by
 have scN:=xD.nd
 refine F.okQ xD (fun vs H Q E h=>?_) (fun cdv A outer s H vs Q E hr h=>?_)
 ·obtain⟨_,_,_,_,rfl,_⟩:=h
  rfl
 ·obtain⟨x,y,p,q,rfl,hx,hy,np,nq,bp,bq,bb,h⟩:=h
  refine⟨_,(ah (aB (aj zClow (hr.mono (by walk_at"a2")) rfl (aa (ap bJ (ap aV (ay cy (qv 0) ae (fun _ _=>rfl)) (ay cy (qv 1) ae (fun _ _=>rfl))) (ap aV (ay cy (qv 1) ae (fun _ _=>rfl)) (ay cy (qv 0) ae (fun _ _=>rfl)))) (aa (ap aV (ay cy (qv 0) ae (fun _ _=>rfl)) (ay cy (qv 1) ae (fun _ _=>rfl))) ac))))),?_⟩
  walk_at"m"
  obtain⟨a,rfl,ha⟩:=hx.fr_at
  obtain⟨b,rfl,hb⟩:=hy.fr_at
  walk_at"vc*"
  simp only[jW]
  walk_at"vc*"
  exact⟨cw bp.1 bq.2 (by decide),cw bq.1 bp.2 (by decide),cw bp.2 bq.2 (by decide),Int.mul_ne_zero np nq,h⟩
def iI(K:W.Frag):Sp:=fun vs H Q _=>∃ x y p q,vs=[x,y]/\aM (vw K H) (fr p) x/\aM (vw K H) (fr q) y/\p.2 ≠ 0/\q.2 ≠ 0/\Bq 1000000 p/\Bq 1000000 q/\Bt 4000000 (p.2*q.2) /\ ∀ v H',ar (vw K H) (vw K H')->aM (vw K H') (fr (uV p q)) v->Q v H'
theorem yX(F:eE K "_law_times" "_law_times" iK f fd) (T:ge K mg)(zClow:bU P w K mg base "_law_low" ["_law_top", "_law_bottom"] 2 (jW K)):bB P w K mg base dZ 3 f fd ["_law_one", "_law_other"] (iI K):=by
 have scN:=sX.nd
 refine F.okQ sX (fun vs H Q E h=>?_) (fun cdv A outer s H vs Q E hr h=>?_)
 ·obtain⟨_,_,_,_,rfl,_⟩:=h
  rfl
 ·obtain⟨x,y,p,q,rfl,hx,hy,np,nq,bp,bq,bb,h⟩:=h
  refine⟨_,(ah (aB (aj zClow (hr.mono (by walk_at"a2")) rfl (aa (ap aV (ay cy (qv 0) ae (fun _ _=>rfl)) (ay cy (qv 1) ae (fun _ _=>rfl))) (aa (ap aV (ay cy (qv 0) ae (fun _ _=>rfl)) (ay cy (qv 1) ae (fun _ _=>rfl))) ac))))),?_⟩
  walk_at"m"
  obtain⟨a,rfl,ha⟩:=hx.fr_at
  obtain⟨b,rfl,hb⟩:=hy.fr_at
  walk_at"vc*"
  simp only[jW]
  walk_at"vc*"
  exact⟨cw bp.1 bq.1 (by decide),cw bp.2 bq.2 (by decide),Int.mul_ne_zero np nq,h⟩
def iB(K:W.Frag):Sp:=fun vs H Q _=>∃ (a:Addr)(ns:List Int)(k:Nat),vs=[.ref a,.int k]/\iQ K H a (ns.map V.int) /\ ∀ x:Int,Q (.int x) H
theorem uH(F:eE K "_law_cell_at" "_law_cell_at" fE f fd) (T:ge K mg):bB P w K mg base dZ 1 f fd ["_law_script", "_law_k"] (iB K):=by
 have scN:=mE.nd
 refine F.okQ mE (fun vs H Q E h=>?_) (fun cdv A outer s H vs Q E hr h=>?_)
 ·obtain⟨a,ns,k,rfl,_⟩:=h
  rfl
 ·obtain⟨a,ns,k,rfl,hS,h⟩:=h
  refine⟨_,(af (cW (aF uu (qv 1) (au gG (by rfl) T.b_len ck (aa (qv 0) ac)) (aJ _)) (ah (aB (ay tO (qv 0) (qv 1) (fun _ _=>rfl)))) bj)
   (ah (aB ae))),?_⟩
  walk_at"m"
  walk_at"vc"
  refine⟨_,.inl hS.sq,cO (fun hk=>?_) (fun hk=>h 0)⟩
  simp only[List.length_map] at hk
  have hk':k<ns.length:=by walk_at"o"
  exact⟨_,hS.sq,_,cq (by rw[List.getElem?_map,List.getElem?_eq_getElem hk'];rfl),h _⟩
def km(K:W.Frag):Sp:=fun vs H Q _=>∃ (a:Addr)(ns:List Int)(k:Nat),vs=[.ref a,.int k]/\iQ K H a (ns.map V.int) /\ ∀ st H',vw K H st=none->ar (vw K H) (vw K H')->ee (vw K H') st->Q (.ref st) H'
theorem Au(F:eE K "_law_state" "_law_state" iC f fd) (T:ge K mg)(zCcell_at:bU P w K mg base "_law_cell_at" ["_law_script", "_law_k"] 1 (iB K)):bB P w K mg base dZ 2 f fd ["_law_script", "_law_k"] (km K):=by
 have scN:=uh.nd
 refine F.okQ uh (fun vs H Q E h=>?_) (fun cdv A outer s H vs Q E hr h=>?_)
 ·obtain⟨a,ns,k,rfl,_⟩:=h
  rfl
 ·obtain⟨a,ns,k,rfl,hS,h⟩:=h
  refine⟨_,(af (ao (i:=2) scN rfl (by walk_at"a1") (aj zCcell_at (hr.mono (by walk_at"a2")) rfl (aa (qv 0) (aa (qv 1) ac))))
   (af (cW (aF Ep (qv 2) (ap rY ae ae) (aJ _)) (ah (aB (aK (aa (ap dA (qv 2) (ap rY ae ae)) (aa qj ac))))) bj)
   (ah (aB (aK (aa (ap fk (qv 2) ae) (aa qj ac))))))),?_⟩
  walk_at"m"
  walk_at"vc"
  simp only[iB]
  walk_at"vc"
  refine⟨⟨k,rfl⟩,⟨ns,hS⟩,fun x=>⟨ug (by decide),cO (fun hx=>⟨ug (by decide),by decide,fun p H2 hp S hp2=>h p H2 hp S ⟨_,_,hp2,fun z=>by cases z⟩⟩) (fun hx=>⟨by decide,by decide,fun p H2 hp S hp2=>h p H2 hp S ⟨_,_,hp2,fun _=>?_⟩⟩)⟩⟩
  exact⟨Int.fmod_nonneg_of_pos x (by decide),Int.fmod_lt_of_pos x (by decide)⟩
def ig(K:W.Frag):Sp:=fun vs H Q _=>∃ (st:Addr)(m:Int),vs=[.ref st,.int m]/\ee (vw K H) st/\0<m/\m<=2147483587 /\ ∀ r H',0<=r->r<m->dS st (vw K H) (vw K H')->ee (vw K H') st->Q (.int r) H'
theorem Dn(F:eE K "_law_take" "_law_take" jL f fd) (T:ge K mg):bB P w K mg base dZ 1 f fd ["_law_state_here", "_law_many"] (ig K):=by
 have scN:=vK.nd
 refine F.okQ vK (fun vs H Q E h=>?_) (fun cdv A outer s H vs Q E hr h=>?_)
 ·obtain⟨a,ns,rfl,_⟩:=h
  rfl
 ·obtain⟨st,m,rfl,⟨x,b,hst,hx⟩,hm,hm2,h⟩:=h
  refine⟨_,(af (cW (cX (ay dX (qv 0) ae (fun _ _=>rfl)) (fun _=>rfl)) (af (ao (i:=2) scN rfl (by walk_at"a1") (ap fk (ay dX (qv 0) ae (fun _ _=>rfl)) (qv 1)))
   (af (gz (ap pC (ay dX (qv 0) ae (fun _ _=>rfl)) (qv 1)) (oB (qv 0) ae gv))
   (ah (aB (qv 2))))) bj)
   (af (gz (ap fk (ap bJ (ap aV (ay dX (qv 0) ae (fun _ _=>rfl)) ae) ae) ae) (oB (qv 0) ae gv))
   (af (ao (i:=3) scN rfl (by walk_at"a1") (ap fk (ap bJ (ap bJ (ap aV (ay dX (qv 0) ae (fun _ _=>rfl)) (ay dX (qv 0) ae (fun _ _=>rfl))) (ap aV ae (ay dX (qv 0) ae (fun _ _=>rfl)))) ae) ae))
   (af (ao (i:=3) scN rfl (by walk_at"a1") (ap fk (ap bJ (ap aV (qv 3) (qv 3)) (ap aV ae (qv 3))) ae))
   (ah (aB (ap fk (ap pC (qv 3) ae) (qv 1)))))))),?_⟩
  walk_at"m"
  have hm0:m ≠ 0:=by walk_at"o"
  cases b with
  | true =>
   walk_at"vc*"
   refine⟨Ek hm0 (by unfold Bt;walk_at"o"),fun H2 B h2=>h _ _ (Int.fmod_nonneg_of_pos x hm) (Int.fmod_lt_of_pos x hm) B ⟨_,_,h2,fun z=>by cases z⟩⟩
  | false =>
   walk_at"vc*"
   refine⟨Al (by decide),by decide,fun H2 B h2=>?_⟩
   have b1:Bt 31 ((x*48271+29).fmod 2147483647):=sO (by decide) (by decide)
   have b3:0<=(x*48271+29).fmod 2147483647/\(x*48271+29).fmod 2147483647<2147483647:=⟨Int.fmod_nonneg_of_pos _ (by decide),Int.fmod_lt_of_pos _ (by decide)⟩
   generalize (x*48271+29).fmod 2147483647=y at *
   walk_at"vc*"
   have b2:Bt 31 ((y*y+39373*y+7).fmod 2147483629):=sO (by decide) (by decide)
   generalize e2:(y*y+39373*y+7).fmod 2147483629=z at *
   refine⟨kr (b1.mono (by decide)),kr (by decide),by decide,kr (b2.mono (by decide)),kr (by decide),by decide,Ek (by decide) (by decide),?_⟩
   exact h _ _ (Int.fmod_nonneg_of_pos _ hm) (Int.fmod_lt_of_pos _ hm) B ⟨_,_,h2,fun _=>b3⟩
def gD(K:W.Frag):Sp:=fun vs H Q _=>∃ st:Addr,vs=[.ref st]/\ee (vw K H) st /\ ∀ v H' q,dS st (vw K H) (vw K H')->ee (vw K H') st->aM (vw K H') (fr q) v->Fq q->Bt 10 q.1->Bt 10 q.2->Sx 36 q->Q v H'
theorem yP(F:eE K "_law_small" "_law_small" iH f fd) (T:ge K mg)(zClow:bU P w K mg base "_law_low" ["_law_top", "_law_bottom"] 2 (jW K))
  (zCtake:bU P w K mg base "_law_take" ["_law_state_here", "_law_many"] 1 (ig K)):bB P w K mg base dZ 3 f fd ["_law_state_here"] (gD K):=by
 have scN:=tZ.nd
 refine F.okQ tZ (fun vs H Q E h=>?_) (fun cdv A outer s H vs Q E hr h=>?_)
 ·obtain⟨a,rfl,_⟩:=h
  rfl
 ·obtain⟨st,rfl,hst,h⟩:=h
  refine⟨_,(ah (aB (aj zClow (hr.mono (by walk_at"a2")) rfl (aa (ap dA (aj zCtake (hr.mono (by walk_at"a2")) rfl (aa (qv 0) (aa ae ac))) ae) (aa (ap bJ ae (ay dX (aK (aa ae (aa ae (aa (aj zCtake (hr.mono (by walk_at"a2")) rfl (aa (qv 0) (aa ae ac))) ac)))) (aj zCtake (hr.mono (by walk_at"a2")) rfl (aa (qv 0) (aa ae ac))) (fun _ _=>rfl))) ac))))),?_⟩
  walk_at"m"
  walk_at"vc"
  simp only[ig,jW]
  walk_at"vc"
  refine⟨hst,by decide,by decide,fun r1 H1 r10 r11 B1 S1=>⟨S1,by decide,by decide,fun r2 H2 r20 r21 B2 S2=>⟨by decide,?_⟩⟩⟩
  intro p H3 hp S3 h3
  refine⟨S2.same S3,by decide,by decide,fun r4 H4 r40 r41 B4 S4=>?_⟩
  have h4:=B4 _ _ (S2.ne hp) h3
  obtain⟨v,hv,hm⟩:=tW (xs:=[V.int 0,V.int 0,V.int r2]) r40 (by simpa using r41)
  obtain⟨z,rfl,hz0,hz1⟩ : ∃ z,v = .int z/\0<=z/\z<3:=by
   simp only[List.mem_cons,List.not_mem_nil,or_false] at hm
   rcases hm with rfl|rfl|rfl
   ·exact⟨0,rfl,by decide,by decide⟩
   ·exact⟨0,rfl,by decide,by decide⟩
   ·exact⟨r2,rfl,r20,r21⟩
  walk_at"vc"
  refine⟨_,h4,_,hv,?_⟩
  walk_at"vc"
  have hz:1+z ≠ 0:=by walk_at"o"
  have hb:(1+z).natAbs<2 ^ 10:=by walk_at"o"
  refine⟨hz,Nat.lt_of_lt_of_le hb (Nat.pow_le_pow_right (by decide) (by decide)),fun v H5 S5 r5=>?_⟩
  have q2:=fo (a:=r1 - 6) hz
  have q1:=fX (a:=r1 - 6) hz
  have hl:lg (r1 - 6) (1+z) ≠ 0:=ym hz
  refine h v H5 _ (((B1.trans B2).same_trans S3).trans (B4.same_trans S5)) (S4.same S5) r5 (m5 hz) ?_ ?_ (Sx.lo hz0 hz1 (by walk_at"o"))
  ·unfold Bt
   have:=Int.natAbs_mul (lo (r1 - 6) (1+z)).1 (lg (r1 - 6) (1+z))
   rw[q1] at this
   have:=Nat.le_mul_of_pos_right (lo (r1 - 6) (1+z)).1.natAbs (show 0<(lg (r1 - 6) (1+z)).natAbs by walk_at"o")
   walk_at"o"
  ·unfold Bt
   have:=Int.natAbs_mul (lo (r1 - 6) (1+z)).2 (lg (r1 - 6) (1+z))
   rw[q2] at this
   have:=Nat.le_mul_of_pos_right (lo (r1 - 6) (1+z)).2.natAbs (show 0<(lg (r1 - 6) (1+z)).natAbs by walk_at"o")
   walk_at"o"
def fh(K:W.Frag):Sp:=fun vs H Q _=>∃ (a b:Addr)(fs gs:List (Int × Int))(A B:Nat),vs=[.ref a,.ref b]/\cG (vw K H) a fs/\cG (vw K H) b gs/\fs.length<=40/\gs.length<=40/\A+B<=400000/\(∀ q ∈ fs,Fq q)/\(∀ q ∈ gs,Fq q)/\Pb A (cf fs)/\Pb B (cf gs) /\
 ∀ d H' (rs:List (Int × Int)),ar (vw K H) (vw K H')->cG (vw K H') d rs->vw K H d=none->ei rs->(∀ k,cf rs k=pr (cf fs) (cf gs) fs.length k)->rs.length<=fs.length+gs.length->Q (.ref d) H'
theorem oo(F:eE K "_law_multiplied" "_law_multiplied" cU f fd) (T:ge K mg)(zCclean:bU P w K mg base "_law_clean" ["_law_numbers"] 1 (kw K)) (zCplus:bU P w K mg base "_law_plus" ["_law_one", "_law_other"] 3 (jG K)) (zCtimes:bU P w K mg base "_law_times" ["_law_one", "_law_other"] 3 (iI K)):bB P w K mg base dZ 4 f fd ["_law_f", "_law_g"] (fh K):=by
 have scN:=jf.nd
 refine F.okQ jf (fun vs H Q E h=>?_) (fun cdv A outer s H vs Q E hr h=>?_)
 ·obtain⟨a,_,_,_,_,_,rfl,_⟩:=h
  rfl
 ·obtain⟨a,b,fs,gs,A',B,rfl,ha,hb,lf,lg',hAB,hf,hg,⟨D1,d1,d2,d3⟩,⟨E1,e1',e2',e3'⟩,h⟩:=h
  have bf:=Ob.bq d3 d1 d2 hf
  have bg:=Ob.bq e3' e1' e2' hg
  have hX:=Int.mul_ne_zero d1 e1'
  have bX:=d2.mul e2'
  refine⟨_,(af (ao (i:=2) scN rfl (by walk_at"a1") (ap aV (aK (aa (aD (aa ae (aa ae ac))) ac)) (ap bJ (au aN (by rfl) T.b_len ck (aa (qv 0) ac)) (au aN (by rfl) T.b_len ck (aa (qv 1) ac)))))
   (af (cL PassesOwn.never rfl (cT rfl T.b_range (aa (au aN (by rfl) T.b_len ck (aa (qv 0) ac)) ac)) (ak (i:=3) scN rfl (by walk_at"a1")) (ah (cL PassesOwn.never rfl (cT rfl T.b_range (aa (au aN (by rfl) T.b_len ck (aa (qv 1) ac)) ac)) (ak (i:=4) scN rfl (by walk_at"a1")) (ah (gz (aj zCplus (hr.mono (by walk_at"a2")) rfl (aa (ay dX (qv 2) (ap bJ (qv 3) (qv 4)) (fun _ _=>rfl)) (aa (aj zCtimes (hr.mono (by walk_at"a2")) rfl (aa (ay dX (qv 0) (qv 3) (fun _ _=>rfl)) (aa (ay dX (qv 1) (qv 4) (fun _ _=>rfl)) ac))) ac))) (oB (qv 2) (ap bJ (qv 3) (qv 4)) gv))))))
   (ah (aB (aj zCclean (hr.mono (by walk_at"a2")) rfl (aa (qv 2) ac)))))),?_⟩
  walk_at"m"
  walk_at"vc"
  obtain⟨xs,hxs,rxs⟩:=id ha
  obtain⟨ys,hys,rys⟩:=id hb
  refine⟨by decide,fun p2 H2 hp2 S2 h2=>⟨by decide,fun p3 H3 hp3 S3 h3=>?_⟩⟩
  have S03:=S2.trans S3
  refine⟨_,(ha.same S03).len,_,(hb.same S03).len,?_⟩
  rw[show (fs.length:Int)+(gs.length:Int)=((fs.length+gs.length:Nat):Int) by walk_at"o",kY]
  refine⟨_,h3,by walk_at"o",by walk_at"o",?_,fun e H5 he S5 h5=>?_⟩
  ·have:1000<=sizeLine:=by decide
   simp
   walk_at"o"
  rw[show ((fs.length+gs.length:Nat):Int).toNat=fs.length+gs.length by walk_at"o",qM] at h5
  have S05:=S03.trans S5
  have r2:aM (vw K H5) (fr (0,1)) (.ref p2):=aT ((S3.trans S5) _ _ h2)
  have ne:vw K H e=none:=S03.none he
  refine⟨_,(ha.same S05).len,by walk_at"o",by walk_at"o",?_⟩
  obtain⟨n,hn⟩ : ∃ n,n=fs.length+gs.length:=⟨_,rfl⟩
  rw[<- hn] at h5
  obtain⟨Pv,hPv⟩ : ∃ Pv:Nat->St->Hp->Prop,∀ i σ H',Pv i σ H' ↔ ∃ o3 o4,σ=[some (.ref a),some (.ref b),some (.ref e),o3,o4]/\ar (vw K H) (vw K H') /\ ∃ qs,cG (vw K H') e qs/\qs.length=n/\(∀ q ∈ qs,Fq q)/\(∀ k,k<n->cf qs k=pr (cf fs) (cf gs) i k):=⟨_,fun _ _ _=>Iff.rfl⟩
  refine aO (its:=gd 0 fs.length) Pv (fun _ _ _ _ _=>bK) ((hPv _ _ _).mpr ⟨_,_,rfl,S05,List.replicate n (0,1),⟨_,h5,?_⟩,by simp,fun q hq=>?_,fun k hk=>?_⟩) (fun i x σ H6 hi hx pv=>?_) (fun σ H6 pv=>?_)
  ·rw[t6]
   exact aA.repl r2 n
  ·rw[(List.mem_replicate.mp hq).2]
   exact wj
  ·rw[di (List.getElem?_replicate_of_lt hk),sK]
   rfl
  ·obtain⟨o3,o4,rfl,S6,qs,l6,n6,f6,c6⟩:=(hPv _ _ _).mp pv
   obtain⟨hi',rfl⟩:=gH hx
   rw[Int.zero_add]
   walk_at"vc"
   refine⟨_,(hb.same S6).len,by walk_at"o",by walk_at"o",?_⟩
   obtain⟨Pw,hPw⟩ : ∃ Pw:Nat->St->Hp->Prop,∀ j σ H',Pw j σ H' ↔ ∃ o4,σ=[some (.ref a),some (.ref b),some (.ref e),some (.int i),o4]/\ar (vw K H) (vw K H') /\ ∃ qs,cG (vw K H') e qs/\qs.length=n/\(∀ q ∈ qs,Fq q)/\(∀ k,k<n->cf qs k=qr (cf fs) (cf gs) i j k):=⟨_,fun _ _ _=>Iff.rfl⟩
   refine aO (its:=gd 0 gs.length) Pw (fun _ _ _ _ _=>bK) ((hPw _ _ _).mpr ⟨_,rfl,S6,qs,l6,n6,f6,fun k hk=>?_⟩) (fun j x σ H7 hj hx pw=>?_) (fun σ H7 pw=>?_)
   ·rw[Fj]
    exact c6 k hk
   ·obtain⟨o4,rfl,S7,ps,l7,n7,f7,c7⟩:=(hPw _ _ _).mp pw
    obtain⟨hj',rfl⟩:=gH hx
    rw[Int.zero_add]
    obtain⟨zs,hzs,rzs⟩:=id l7
    have hiq:i+j<ps.length:=by walk_at"o"
    obtain⟨x0,e0,r0⟩:=rzs.at (i:=i+j) (d:=fr ps[i+j]) (by rw[List.getElem?_map,List.getElem?_eq_getElem hiq];rfl)
    obtain⟨x1,e1,r1⟩:=rxs.at (i:=i) (d:=fr fs[i]) (by rw[List.getElem?_map,List.getElem?_eq_getElem hi'];rfl)
    obtain⟨x2,e2,r2'⟩:=rys.at (i:=j) (d:=fr gs[j]) (by rw[List.getElem?_map,List.getElem?_eq_getElem hj'];rfl)
    have k1:=f7 ps[i+j] (List.getElem_mem hiq)
    have k3:Bq (A'+B+100) ps[i+j]:=by
     obtain⟨m,em,bm⟩:=EK d1 e1' d3 e3' i j (i+j)
     have em':qr (cf fs) (cf gs) i j (i+j)=_:=em
     refine Bl k1 (n:=m) (by rw[<- em',<- c7 (i+j) (by walk_at"o"),di (List.getElem?_eq_getElem hiq)]) hX (bm.mono (by walk_at"o")) (bX.mono (by walk_at"o"))
    have g1:=hg gs[j] (List.getElem_mem hj')
    have g2:=bg gs[j] (List.getElem_mem hj')
    have u1:=hf fs[i] (List.getElem_mem hi')
    have u2:=bf fs[i] (List.getElem_mem hi')
    walk_at"vc"
    rw[show (i:Int)+(j:Int)=((i+j:Nat):Int) by walk_at"o"]
    refine⟨zs,hzs,x0,cq e0,xs,S7 _ _ hxs,x1,cq e1,ys,S7 _ _ hys,x2,cq e2,?_⟩
    simp only[iI]
    walk_at"vc"
    refine⟨_,aM.same S7 _ _ r1,_,aM.same S7 _ _ r2',u1.ne,g1.ne,u2.mono (by walk_at"o"),g2.mono (by walk_at"o"),(u2.2.mul g2.2).mono (by walk_at"o"),fun v3 H8 S8 r3=>?_⟩
    have f3:=um u1 g1
    have b3:=tu u1 g1 u2 g2
    simp only[jG]
    walk_at"vc"
    refine⟨_,aM.same S8 _ _ r0,_,r3,k1.ne,f3.ne,k3.mono (by walk_at"o"),b3.mono (by walk_at"o"),(k3.2.mul b3.2).mono (by walk_at"o"),fun v4 H9 S9 r4=>?_⟩
    have f4:=tm k1 f3
    have S79:=S8.trans S9
    have hlz:zs.length=ps.length:=by rw[rzs.length,List.length_map]
    refine⟨zs,S79 _ _ hzs,i+j,by rw[hlz];exact ou hiq,fun H10 B10 h10=>(hPw _ _ _).mpr ⟨_,rfl,fun x o e'=>B10 _ _ (ai e' ne) (S79 _ _ (S7 _ _ e')),ps.set (i+j) (mr ps[i+j] (uV fs[i] gs[j])),cG.chg (S79 _ _ hzs) (rzs.same S79) r4 B10 h10,by rw[List.length_set];exact n7,fun q hq=>?_,fun k hk=>?_⟩⟩
    ·rcases List.mem_or_eq_of_mem_set hq with z|z
     ·exact f7 q z
     ·rw[z]
      exact f4
    ·rw[Aq hiq,Ex]
     by_cases hk:k=i+j
     ·rw[if_pos hk,if_pos hk,Cb k1.ne f3.ne,vF u1.ne g1.ne,<- di (List.getElem?_eq_getElem hiq),<- di (List.getElem?_eq_getElem hi'),<- di (List.getElem?_eq_getElem hj'),c7 (i+j) (by walk_at"o")]
     ·rw[if_neg hk,if_neg hk,c7 k (by assumption)]
   ·obtain⟨o4,rfl,S7,ps,l7,n7,f7,c7⟩:=(hPw _ _ _).mp pw
    rw[cJ] at c7
    refine (hPv _ _ _).mpr ⟨_,_,rfl,S7,ps,l7,n7,f7,fun k hk=>?_⟩
    rw[c7 k hk,Ci fun i hi=>ci hi]
  ·obtain⟨o3,o4,rfl,S6,qs,l6,n6,f6,c6⟩:=(hPv _ _ _).mp pv
   rw[cJ] at c6
   walk_at"vc"
   simp only[kw]
   walk_at"vc"
   have hF:∀ q ∈ qs,Fq q:=f6
   refine⟨qs,l6,fun d H7 n' hn' hz hd hnd S7 l7=>h d H7 (qs.take n') (S6.trans S7) l7 (S6.none hnd) (vE hF hz) (fun k=>?_) (by rw[List.length_take];walk_at"o")⟩
   rw[uj hF hd k]
   by_cases hk:k<n
   ·exact c6 k hk
   ·rw[ci (by walk_at"o"),fR (n:=gs.length) (fun i hi=>ci hi) _ _ (by walk_at"o")]
theorem uz(F:eE K "_law_refused" "_law_refused" fG f fd) (T:ge K mg) {A:Around}{outer:List Env}{s:Shared}{H:Hp}{p C:Addr}{i kl:Nat}{Q:VK}(hb:jl K fd ["_law_call"] []) (hr0:cF (kl+1) A)(e0:mx P w K mg base A outer s H)(L_:DP P w K mg base kl p C s H outer)(Z:uM K mg C i)(hi:i<9)
  (h:∀ q H',ar (vw K H) (vw K H')->vw K H q=none->vw K H' q=some (.lst [.int i])->Q (.ref q) H'):codeAny (model P w) A (.call (.ref f) ⟨[.ref p],[]⟩) (CR dZ outer P w H s Q E0) s:=by
 have scN:=mF.nd
 refine F.runQ mF hr0 e0 hb (vs:=[.ref p]) (.cons rfl .nil) rfl fun cdv hr=>?_
 have hrL:=hr
 obtain⟨z_NoFraction,hg_NoFraction,k0⟩:=Z.kinds 0 _ rfl
 obtain⟨z_NoPolynomial,hg_NoPolynomial,k1⟩:=Z.kinds 1 _ rfl
 obtain⟨z_NoSums,hg_NoSums,k2⟩:=Z.kinds 2 _ rfl
 obtain⟨z_NoFlock,hg_NoFlock,k3⟩:=Z.kinds 3 _ rfl
 obtain⟨z_NoWalk,hg_NoWalk,k4⟩:=Z.kinds 4 _ rfl
 obtain⟨z_NoSum,hg_NoSum,k5⟩:=Z.kinds 5 _ rfl
 obtain⟨z_NoDeed,hg_NoDeed,k6⟩:=Z.kinds 6 _ rfl
 obtain⟨z_NoText,hg_NoText,k7⟩:=Z.kinds 7 _ rfl
 obtain⟨z_NoRow,hg_NoRow,k8⟩:=Z.kinds 8 _ rfl
 obtain⟨cM,hg_MomentError,kM⟩:=Z.mom
 refine⟨_,(af (ao (i:=1) scN rfl (by walk_at"a1") dY)
   (af (Bx (i:=2) rfl rfl rfl (CB (i:=0) rfl L_ hrL rfl (Or.inl rfl)) scN rfl rfl rfl hg_MomentError (fun _=>(ah (ao (i:=1) scN rfl (by walk_at"a1") (qv 2)))))
   (af (ao (i:=3) scN rfl (by walk_at"a1") (aK (aa (au bA (by rfl) T.b_isinstance aR (aa (qv 1) (aa (fi (v:=V.ref z_NoFraction) rfl hg_NoFraction rfl) ac))) (aa (au bA (by rfl) T.b_isinstance aR (aa (qv 1) (aa (fi (v:=V.ref z_NoPolynomial) rfl hg_NoPolynomial rfl) ac))) (aa (au bA (by rfl) T.b_isinstance aR (aa (qv 1) (aa (fi (v:=V.ref z_NoSums) rfl hg_NoSums rfl) ac))) ac)))))
   (af (ao (i:=3) scN rfl (by walk_at"a1") (ap bJ (qv 3) (aK (aa (au bA (by rfl) T.b_isinstance aR (aa (qv 1) (aa (fi (v:=V.ref z_NoFlock) rfl hg_NoFlock rfl) ac))) (aa (au bA (by rfl) T.b_isinstance aR (aa (qv 1) (aa (fi (v:=V.ref z_NoWalk) rfl hg_NoWalk rfl) ac))) (aa (au bA (by rfl) T.b_isinstance aR (aa (qv 1) (aa (fi (v:=V.ref z_NoSum) rfl hg_NoSum rfl) ac))) ac))))))
   (af (ao (i:=3) scN rfl (by walk_at"a1") (ap bJ (qv 3) (aK (aa (au bA (by rfl) T.b_isinstance aR (aa (qv 1) (aa (fi (v:=V.ref z_NoDeed) rfl hg_NoDeed rfl) ac))) (aa (au bA (by rfl) T.b_isinstance aR (aa (qv 1) (aa (fi (v:=V.ref z_NoText) rfl hg_NoText rfl) ac))) (aa (au bA (by rfl) T.b_isinstance aR (aa (qv 1) (aa (fi (v:=V.ref z_NoRow) rfl hg_NoRow rfl) ac))) ac))))))
   (af (cW (jx (jB (au bA (by rfl) T.b_isinstance aR (aa (qv 1) (aa (tJ (v:=V.ty "ValueError") rfl T.b_ValueError mh rfl) ac))))) (ah (aB dY)) bj)
   (ah (aB (dI (own:=["_law_k"]) (outs:=["_law_kinds"]) (ixs:=[3]) rfl (cT rfl T.b_range (aa ae ac)) rfl ⟨rfl,rfl,rfl,⟨rfl,trivial⟩,rfl,⟨⟨rfl,rfl,rfl,_,rfl⟩,trivial⟩⟩ (fun _ _ _ _=>⟨(ak (i:=0) (show (["_law_k", "_law_kinds"]:List Str).Nodup by decide +kernel) rfl (by walk_at"a1")),(rP (show QT _ _ (zR K _) from cX (ay (show qN _ (rA K) from dX) (qv 1) (qv 0) (fun _ _=>rfl)) (fun _=>rfl))),(qv 0)⟩)))))))))),?_⟩
 walk_at"m"
 walk_at"vc"
 simp only[Ds]
 refine⟨rfl,rfl,fun H1 S1=>⟨C,rfl,kM,fun a H2 hna S2 hx=>?_⟩⟩
 walk_at"vc"
 refine⟨C,hx,Z.cls,_,rfl,_,k0,C,hx,Z.cls,_,rfl,_,k1,C,hx,Z.cls,_,rfl,_,k2,by decide,fun p3 H3 _ S3 h3=>?_⟩
 have hx3:=S3 _ _ hx
 walk_at"vc"
 refine⟨C,hx3,Z.cls,_,rfl,_,k3,C,hx3,Z.cls,_,rfl,_,k4,C,hx3,Z.cls,_,rfl,_,k5,by decide,fun p4 H4 _ S4 h4=>?_⟩
 walk_at"vc"
 refine⟨_,S4 _ _ h3,_,h4,(show 6<=sizeLine by decide),fun p5 H5 _ S5 h5=>?_⟩
 have hx5:=S5 _ _ (S4 _ _ hx3)
 walk_at"vc"
 refine⟨C,hx5,Z.cls,_,rfl,_,k6,C,hx5,Z.cls,_,rfl,_,k7,C,hx5,Z.cls,_,rfl,_,k8,by decide,fun p6 H6 _ S6 h6=>?_⟩
 walk_at"vc"
 refine⟨_,S6 _ _ h5,_,h6,(show 9<=sizeLine by decide),fun p7 H7 _ S7 h7=>?_⟩
 have hx7:=S7 _ _ (S6 _ _ hx5)
 walk_at"vc"
 refine⟨C,hx7,Z.cls,_,rfl,_,Z.ve,?_⟩
 walk_at"vc"
 have e9:vw K H7 p7=some (.lst (lz 9 fun j=>V.bl (decide (j=i)))):=h7
 have S07:ar (vw K H) (vw K H7):=S1.trans (S2.trans (S3.trans (S4.trans (S5.trans (S6.trans S7)))))
 refine⟨by decide,by decide,fun c H8 hc S8 h8=>?_⟩
 refine aX (its:=gd 0 9) (fun j zs H'=>ar (vw K H7) (vw K H')/\zs=if i<j then [V.int i] else []) (fun _ _ _ _ _ _=>bK) h8 ⟨S8,by rw[if_neg (by walk_at"o")]⟩ (fun j x zs H9 hj hx' h9 pv=>?_) (fun zs H9 h9 pv=>?_)
 ·obtain⟨S9,rfl⟩:=pv
  obtain⟨hj',rfl⟩:=gH hx'
  rw[Int.zero_add]
  simp only[zR]
  walk_at"vc"
  refine⟨_,S9 _ _ e9,_,cq (xY hj'),_,rfl,?_⟩
  refine cO (fun e=>?_) (fun e=>?_)
  ·have eji:j=i:=of_decide_eq_true e
   subst eji
   rw[if_neg (by walk_at"o")] at h9
   refine .mk h9 (by decide) fun H10 B10 h10=>⟨fun b o e'=>B10 _ _ (ai e' hc) (S9 _ _ e'),?_⟩
   rw[if_pos (by walk_at"o")]
   rfl
  ·have eji:j ≠ i:=fun z=>e (decide_eq_true z)
   refine⟨⟨_,rfl⟩,_,h9,S9,?_⟩
   by_cases hij:i<j
   ·rw[if_pos hij,if_pos (by walk_at"o")]
   ·rw[if_neg hij,if_neg (by walk_at"o")]
 ·obtain⟨S9,rfl⟩:=pv
  rw[cJ,if_pos (by walk_at"o")] at h9
  exact h c H9 (S07.trans S9) (S07.free hc) h9
def kS:Nat->Str
 | 0=>"line"
 | 1=>"root"
 | _=>"none"
abbrev ow:=Nat × (Int × Int) × Nat × Nat
def qQ(c:ow):D:=.tup [.str (kS c.1),fr c.2.1,.int c.2.2.1]
def rp(c:ow):Prop:=c.1<=2/\Fq c.2.1/\Bq c.2.2.2 c.2.1/\(c.1 ≠ 0->c.2.1 ∈ DX)/\1<=c.2.2.1/\c.2.2.2<=100
def qR(c:ow):Nat:=(if c.1=0 then 1 else 2)*c.2.2.1
def yD(c:ow):Nat:=(c.2.2.2+8)*c.2.2.1
theorem cQ:∀(cs:List ow),D.flats (cs.map qQ)=true
 | []=>by simp[D.flats]
 | c :: cs=>by
  have:=cQ cs
  simp[D.flats,qQ,D.flat,fr,this]
theorem jZ(cs:List ow):∀ i b,cs.map qQ ≠ [.int i,.bl b]:=fun i b e=>by
 cases cs with
 | nil=>cases e
 | cons c cs =>
  rw[List.map_cons] at e
  cases (List.cons.inj e).1
theorem AT{q:Int × Int}(f:Fq q)(h:Sx 36 q):Bq 6 q:=by
 obtain⟨n,e,hn⟩:=h
 refine Bl (D:=6) (n:=n) f e (by decide) ?_ (by decide)
 unfold Bt
 walk_at"o"
def ir(K:W.Frag):Sp:=fun vs H Q _=>∃ (st:Addr),vs=[.ref st,.int 2]/\ee (vw K H) st /\
 ∀ (p t:Addr)(v:V) H' (its:List ow)(q:Int × Int),dS st (vw K H) (vw K H')->ee (vw K H') st->vw K H' p=some (.tup [.ref t,v])->fZ (vw K H') t (its.map qQ)->vw K H t=none->aM (vw K H') (fr q) v->Fq q->q.1 ≠ 0->Bq 6 q->(∀ c ∈ its,rp c)->(its.map qR).sum<=8->(its.map yD).sum<=174->its.length<=4->Q (.ref p) H'
theorem uP(F:eE K "_law_factors" "_law_factors" fv f fd) (T:ge K mg)(zCtake:bU P w K mg base "_law_take" ["_law_state_here", "_law_many"] 1 (ig K)) (zCsmall:bU P w K mg base "_law_small" ["_law_state_here"] 3 (gD K)) (zCplus:bU P w K mg base "_law_plus" ["_law_one", "_law_other"] 3 (jG K)):bB P w K mg base dZ 4 f fd ["_law_state_here", "_law_most"] (ir K):=by
 have scN:=mR.nd
 refine F.okQ mR (fun vs H Q E h=>?_) (fun cdv A outer s H vs Q E hr h=>?_)
 ·obtain⟨_,rfl,_⟩:=h
  rfl
 ·obtain⟨st,rfl,hst,h⟩:=h
  refine⟨_,(af (ao (i:=2) scN rfl (by walk_at"a1") (aK ac))
   (af (ao (i:=3) scN rfl (by walk_at"a1") (i8 hZ (aj zCtake (hr.mono (by walk_at"a2")) rfl (aa (qv 0) (aa ae ac))) ae (aJ _)))
   (af (cL PassesOwn.never rfl (cT rfl T.b_range (aa (aj zCtake (hr.mono (by walk_at"a2")) rfl (aa (qv 0) (aa (ap bJ (qv 1) ae) ac))) ac)) (ak (i:=4) scN rfl (by walk_at"a1")) (af (ao (i:=5) scN rfl (by walk_at"a1") (ay dX (aK (aa (aD (aa ae (aa ae ac))) (aa (aD (aa ae (aa ae ac))) (aa (aD (aa ae (aa ae ac))) (aa (aD (aa ae (aa ae ac))) (aa (aD (aa ae (aa ae ac))) (aa (aD (aa ae (aa ae ac))) (aa (aD (aa ae (aa ae ac))) ac)))))))) (aj zCtake (hr.mono (by walk_at"a2")) rfl (aa (qv 0) (aa ae ac))) (fun _ _=>rfl)))
   (af (ao (i:=6) scN rfl (by walk_at"a1") (ay dX (aK (aa dJ (aa dJ (aa dJ (aa dJ ac))))) (aj zCtake (hr.mono (by walk_at"a2")) rfl (aa (qv 0) (aa ae ac))) (fun _ _=>rfl)))
   (af (ao (i:=7) scN rfl (by walk_at"a1") (ap bJ ae (ay dX (aK (aa ae (aa ae (aa ae (aa ae (aa ae (aa ae ac))))))) (aj zCtake (hr.mono (by walk_at"a2")) rfl (aa (qv 0) (aa ae ac))) (fun _ _=>rfl))))
   (af (cW (aF hZ (qv 6) dJ (aJ _)) (ah (ao (i:=5) scN rfl (by walk_at"a1") (aj zCsmall (hr.mono (by walk_at"a2")) rfl (aa (qv 0) ac)))) bj)
   (af (gK (nF PySem.F.plainAttrs_list PySem.F.slot_list_append PySem.F.type_list_append fK (qv 2) (aa (aD (aa (qv 6) (aa (qv 5) (aa (eP (aF hZ (qv 6) dJ (aJ _)) (qv 7) (au (ni rfl) (by rfl) T.b_min xj (aa (qv 7) (aa ae ac)))) ac)))) ac)))
   (ah (cW (QW.pt (gF (cX (qv 3) (fun _=>rfl)) (gE (aF hZ (qv 6) dJ (aJ _))))) (af (gK (nF PySem.F.plainAttrs_list PySem.F.slot_list_append PySem.F.type_list_append fK (qv 2) (aa (aD (aa (qv 6) (aa (aj zCplus (hr.mono (by walk_at"a2")) rfl (aa (qv 5) (aa (aD (aa ae (aa (ap rY ae ae) ac))) ac))) (aa ae ac)))) ac)))
   (ah (ao (i:=3) scN rfl (by walk_at"a1") qj))) bj))))))))
   (af (ao (i:=8) scN rfl (by walk_at"a1") (aj zCsmall (hr.mono (by walk_at"a2")) rfl (aa (qv 0) ac)))
   (ah (aB (aD (aa (qv 2) (aa (eP (aF qw (ay cy (qv 8) ae (fun _ _=>rfl)) ae (aJ _)) (qv 8) (aD (aa (fS dM ae) (aa ae ac)))) ac))))))))),?_⟩
  walk_at"m"
  skip
  refine aQ.gen fun N1 hN1=>?_
  walk_at"vc"
  refine⟨by decide,fun t H1 ht S1 h1=>hN1 _ _ ?_⟩
  have nst:st ≠ t:=(hst.ne ht).symm
  refine aQ.gen fun N2 hN2=>?_
  walk_at"vc"
  simp only[ig]
  refine⟨st,4,rfl,hst.same S1,by decide,by decide,fun r2 H2 _ _ B2 S2=>⟨rfl,hN2 _ _ ?_⟩⟩
  refine aQ.gen fun N3 hN3=>?_
  walk_at"vc"
  refine⟨st,3,rfl,S2,by decide,by decide,fun n H3 n0 n1 B3 S3=>⟨n,rfl,by walk_at"o",by walk_at"o",?_⟩⟩
  have h3:=B3 _ _ nst.symm (B2 _ _ nst.symm h1)
  have B03:dS st (vw K H) (vw K H3):=((S1.but st).trans B2).trans B3
  obtain⟨Pv,hPv⟩ : ∃ Pv:Nat->St->Hp->Prop,∀ i σ H',Pv i σ H' ↔ ∃ (b:Bool)(o4 o5 o6 o7 o8:Option V)(its:List ow),σ=[some (.ref st),some (.int 2),some (.ref t),some (.bl b),o4,o5,o6,o7,o8]/\dS st (vw K H) (vw K H')/\ee (vw K H') st/\fZ (vw K H') t (its.map qQ)/\(∀ c ∈ its,rp c)/\(its.map qR).sum<=4*i/\(its.map yD).sum<=87*i/\its.length<=2*i:=⟨_,fun _ _ _=>Iff.rfl⟩
  refine aO (its:=gd 0 n.toNat) Pv (fun _ _ _ _ _=>bK) ((hPv _ _ _).mpr ⟨_,_,_,_,_,_,[],rfl,B03,S3,⟨[],h3,.mk_nil⟩,by simp,by simp,by simp,by simp⟩) (fun i x σ H4 hi hx pv=>?_) (fun σ H4 pv=>?_)
  ·obtain⟨b,o4,o5,o6,o7,o8,its,rfl,B4,S4,l4,ok4,dg4,cs4,ln4⟩:=(hPv _ _ _).mp pv
   rw[cJ] at hi
   refine aQ.gen fun M1 hM1=>?_
   walk_at"vc"
   refine⟨by decide,fun p1 G1 hp1 T1 g1=>⟨by decide,fun p2 G2 hp2 T2 g2=>⟨by decide,fun p3 G3 hp3 T3 g3=>⟨by decide,fun p4 G4 hp4 T4 g4=>⟨by decide,fun p5 G5 hp5 T5 g5=>⟨by decide,fun p6 G6 hp6 T6 g6=>⟨by decide,fun p7 G7 hp7 T7 g7=>⟨by decide,fun l8 G8 hp8 T8 g8=>?_⟩⟩⟩⟩⟩⟩⟩⟩
   have T68:=T7.trans T8
   have T58:=T6.trans T68
   have T48:=T5.trans T58
   have T38:=T4.trans T48
   have T28:=T3.trans T38
   have T18:=T2.trans T28
   have T08:=T1.trans T18
   have st8:=S4.same T08
   refine⟨st,7,rfl,st8,by decide,by decide,fun r5 H5 q0 q1 B5 S5=>⟨l8,rfl,r5,rfl,_,B5 _ _ (S4.same (T1.trans (T2.trans (T3.trans (T4.trans (T5.trans (T6.trans T7))))) ) |>.ne hp8) g8,?_⟩⟩
   obtain⟨_,_,z8,_⟩:=id st8
   have rr:∀ {p:Addr}{q:Int × Int},vw K G8 p=some (.tup [.int q.1,.int q.2])->aM (vw K H5) (fr q) (.ref p):=fun e=>aM.flat_but z8 B5 _ _ (fW _) (aT e)
   obtain⟨v5,nb5,e5,r5',f5,b5,n5⟩ : ∃ (v5:V)(nb5:Int × Int),my [V.ref p1,V.ref p2,V.ref p3,V.ref p4,V.ref p5,V.ref p6,V.ref p7] r5=some v5/\aM (vw K H5) (fr nb5) v5/\Fq nb5/\Bq 6 nb5/\nb5 ∈ DX:=by
    have:r5=0\/r5=1\/r5=2\/r5=3\/r5=4\/r5=5\/r5=6:=by walk_at"o"
    rcases this with rfl|rfl|rfl|rfl|rfl|rfl|rfl
    ·exact⟨_,(2,1),rfl,rr (T18 _ _ g1),⟨by decide,by decide⟩,⟨by decide,by decide⟩,by decide⟩
    ·exact⟨_,(3,1),rfl,rr (T28 _ _ g2),⟨by decide,by decide⟩,⟨by decide,by decide⟩,by decide⟩
    ·exact⟨_,(5,1),rfl,rr (T38 _ _ g3),⟨by decide,by decide⟩,⟨by decide,by decide⟩,by decide⟩
    ·exact⟨_,(6,1),rfl,rr (T48 _ _ g4),⟨by decide,by decide⟩,⟨by decide,by decide⟩,by decide⟩
    ·exact⟨_,(1,2),rfl,rr (T58 _ _ g5),⟨by decide,by decide⟩,⟨by decide,by decide⟩,by decide⟩
    ·exact⟨_,(7,4),rfl,rr (T68 _ _ g6),⟨by decide,by decide⟩,⟨by decide,by decide⟩,by decide⟩
    ·exact⟨_,(3,4),rfl,rr (T8 _ _ g7),⟨by decide,by decide⟩,⟨by decide,by decide⟩,by decide⟩
   refine⟨v5,e5,hM1 _ _ ?_⟩
   have B45:dS st (vw K H4) (vw K H5):=(T08.but st).trans B5
   have l5:=(l4.same T08).stBut (cQ _) (jZ _) st8 B5
   refine aQ.gen fun M2 hM2=>?_
   walk_at"vc"
   refine⟨by decide,fun l9 G9 hp9 T9 g9=>⟨st,4,rfl,S5.same T9,by decide,by decide,fun r6 H6 u0 u1 B6 S6=>⟨l9,rfl,r6,rfl,_,B6 _ _ (S5.ne hp9) g9,?_⟩⟩⟩
   obtain⟨kd,hkd,e6⟩ : ∃ kd:Nat,kd<=2/\my [V.str (Str.ofString "line"),V.str (Str.ofString "line"),V.str (Str.ofString "root"),V.str (Str.ofString "none")] r6=some (.str (kS kd)):=by
    have:r6=0\/r6=1\/r6=2\/r6=3:=by walk_at"o"
    rcases this with rfl|rfl|rfl|rfl
    ·exact⟨0,by decide,rfl⟩
    ·exact⟨0,by decide,rfl⟩
    ·exact⟨1,by decide,rfl⟩
    ·exact⟨2,by decide,rfl⟩
   refine⟨_,e6,hM2 _ _ ?_⟩
   have B46:dS st (vw K H4) (vw K H6):=(B45.same_trans T9).trans B6
   have l6:=(l5.same T9).stBut (cQ _) (jZ _) (S5.same T9) B6
   have r6':aM (vw K H6) (fr nb5) v5:=by
    obtain⟨_,_,z,_⟩:=id (S5.same T9)
    exact aM.flat_but z B6 _ _ (fW _) (aM.same T9 _ _ r5')
   refine aQ.gen fun M3 hM3=>?_
   walk_at"vc"
   refine⟨by decide,fun l10 G10 hp10 T10 g10=>⟨st,6,rfl,S6.same T10,by decide,by decide,fun r7 H7 w0 w1 B7 S7=>⟨l10,rfl,r7,rfl,_,B7 _ _ (S6.ne hp10) g10,?_⟩⟩⟩
   obtain⟨mn,m1,m3,e7⟩ : ∃ mn:Nat,1<=mn/\mn<=3/\my [V.int 0,V.int 0,V.int 0,V.int 1,V.int 1,V.int 2] r7=some (.int ((mn:Int) - 1)):=by
    have:r7=0\/r7=1\/r7=2\/r7=3\/r7=4\/r7=5:=by walk_at"o"
    rcases this with rfl|rfl|rfl|rfl|rfl|rfl
    ·exact⟨1,by decide,by decide,rfl⟩
    ·exact⟨1,by decide,by decide,rfl⟩
    ·exact⟨1,by decide,by decide,rfl⟩
    ·exact⟨2,by decide,by decide,rfl⟩
    ·exact⟨2,by decide,by decide,rfl⟩
    ·exact⟨3,by decide,by decide,rfl⟩
   refine⟨_,e7,?_⟩
   rw[jE,show (1:Int)+((mn:Int) - 1)=(mn:Int) by walk_at"o"]
   refine hM3 _ _ ?_
   have B47:dS st (vw K H4) (vw K H7):=(B46.same_trans T10).trans B7
   have l7:=(l6.same T10).stBut (cQ _) (jZ _) (S6.same T10) B7
   have r7':aM (vw K H7) (fr nb5) v5:=by
    obtain⟨_,_,z,_⟩:=id (S6.same T10)
    exact aM.flat_but z B7 _ _ (fW _) (aM.same T10 _ _ r6')
   refine aQ.gen fun M4 hM4=>?_
   have kline:kS kd=Str.ofString "line" ↔ kd=0:=by
    have:kd=0\/kd=1\/kd=2:=by walk_at"o"
    rcases this with rfl|rfl|rfl
    ·exact⟨fun _=>rfl,fun _=>rfl⟩
    ·exact⟨fun z=>absurd z (by decide),fun z=>by cases z⟩
    ·exact⟨fun z=>absurd z (by decide),fun z=>by cases z⟩
   have key:∀ (v:V)(nb:Int × Int)(H8:Hp),dS st (vw K H4) (vw K H8)->ee (vw K H8) st->fZ (vw K H8) t (its.map qQ)->aM (vw K H8) (fr nb) v->Fq nb->Bq 6 nb->(kd ≠ 0->nb ∈ DX)->M4 [some (.ref st),some (.int 2),some (.ref t),some (.bl b),some x,some v,some (.str (kS kd)),some (.int mn),o8] H8:=by
    intro v nb H8 B48 S8 l8 r8 f8 b8 ns8
    refine hM4 _ _ ?_
    refine aQ.gen fun M5 hM5=>?_
    have app:∀ mm:Nat,mm<=3->(kd ≠ 0->mm<=2)->1<=mm->(3<=sizeLine/\Nw K H8 (.tup [.str (kS kd),v,.int mm]) fun x1 H1=>∃ xs,vw K H1 t=some (.lst xs)/\xs.length<sizeLine/\yF K H1 t (.lst (xs ++ [x1])) fun H1=>M5 [some (.ref st),some (.int 2),some (.ref t),some (.bl b),some x,some v,some (.str (kS kd)),some (.int mn),o8] H1):=by
     intro mm mm3 mm2 mm1
     refine⟨by decide,fun p9 H9 hp9 S9 h9=>?_⟩
     obtain⟨xs,hxs,rxs⟩:=id (l8.same S9)
     have lxs:xs.length=its.length:=by rw[rxs.length,List.length_map]
     refine⟨xs,hxs,?_,fun Ha Ba ha=>hM5 _ _ ?_⟩
     ·have:1000<=sizeLine:=by decide
      walk_at"o"
     have np:p9 ≠ t:=fun e=>by rw[e,hxs] at h9;cases h9
     have Sa:ee (vw K Ha) st:=(S8.same S9).but hxs nst Ba
     have ra:aM (vw K Ha) (fr nb) v:=aM.flat_but hxs Ba _ _ (fW _) (aM.same S9 _ _ r8)
     have la:fZ (vw K Ha) t ((its ++ [(kd,nb,mm,6)]).map qQ):=by
      refine⟨_,ha,?_⟩
      rw[List.map_append]
      exact (aA.flat_but hxs Ba _ _ (cQ its) rxs).snoc (.mk_tup (Ba _ _ np h9) (.mk_cons (.mk_str _) (.mk_cons ra (.mk_cons (.mk_int _) .mk_nil))))
     have B0a:dS st (vw K H) (vw K Ha):=fun c o hc e=>Ba _ _ (ai e ht) (S9 _ _ (B48 _ _ hc (B4 _ _ hc e)))
     have ok':∀ c ∈ its ++ [(kd,nb,mm,6)],rp c:=fun c hc=>by
      rcases List.mem_append.mp hc with z|z
      ·exact ok4 c z
      ·cases List.mem_singleton.mp z
       exact⟨hkd,f8,b8,ns8,mm1,show 6<=100 by decide⟩
     have d0:qR (kd,nb,mm,6)<=if kd=0 then 3 else 4:=by
      unfold qR
      show (if kd=0 then 1 else 2)*mm<=_
      by_cases z:kd=0
      ·rw[if_pos z,if_pos z]
       walk_at"o"
      ·rw[if_neg z,if_neg z]
       have:=mm2 z
       walk_at"o"
     have c0:yD (kd,nb,mm,6)<=42:=by
      show (6+8)*mm<=42
      walk_at"o"
     walk_at"vc"
     have sm:∀ (g:ow->Nat)(xs:List ow)(c:ow),((xs ++ [c]).map g).sum=(xs.map g).sum+g c:=fun g xs c=>by simp
     have fin:∀ b':Bool,Pv (i+1) [some (.ref st),some (.int 2),some (.ref t),some (.bl b'),some x,some v,some (.str (kS kd)),some (.int mn),o8] Ha:=fun b'=>by
      refine (hPv _ _ _).mpr ⟨b',_,_,_,_,_,its ++ [(kd,nb,mm,6)],rfl,B0a,Sa,la,ok',?_,?_,by simp;walk_at"o"⟩
      ·rw[sm]
       have:(if kd=0 then 3 else 4)<=4:=by split <;> walk_at"o"
       walk_at"o"
      ·rw[sm]
       walk_at"o"
     refine cO (fun zb=>⟨rfl,cO (fun zk=>?_) (fun _=>fin b)⟩) (fun _=>fin b)
     have k0:kd=0:=kline.mp zk
     rw[if_pos k0] at d0
     refine⟨la.ty,⟨by decide,by decide⟩,by decide,fun pb Hb hpb Sb hb=>?_⟩
     have fN:Fq (1,10 ^ Int.toNat 9):=⟨by decide,by decide⟩
     have bN:Bq 30 (1,10 ^ Int.toNat 9):=⟨by decide,by decide⟩
     simp only[jG]
     refine⟨v,.ref pb,nb,(1,10 ^ Int.toNat 9),rfl,aM.same Sb _ _ ra,aT hb,f8.ne,fN.ne,b8.mono (by decide),bN.mono (by decide),(b8.2.mul bN.2).mono (by decide),fun v2 Hc Sc rc=>⟨by decide,fun pd Hd hpd Sd hd=>?_⟩⟩
     have S1d:=Sb.trans (Sc.trans Sd)
     obtain⟨ys,hys,rys⟩:=id (la.same S1d)
     have lys:ys.length=its.length+1:=by rw[rys.length,List.length_map,List.length_append];rfl
     refine⟨ys,hys,?_,fun He Be he=>?_⟩
     ·have:1000<=sizeLine:=by decide
      walk_at"o"
     have npd:pd ≠ t:=fun e=>by rw[e,hys] at hd;cases hd
     have Se:ee (vw K He) st:=(Sa.same S1d).but hys nst Be
     have rce:aM (vw K He) (fr (mr nb (1,10 ^ Int.toNat 9))) v2:=aM.flat_but hys Be _ _ (fW _) (aM.same Sd _ _ rc)
     have le:fZ (vw K He) t ((its ++ [(kd,nb,mm,6)] ++ [(kd,mr nb (1,10 ^ Int.toNat 9),1,37)]).map qQ):=by
      refine⟨_,he,?_⟩
      rw[List.map_append]
      exact (aA.flat_but hys Be _ _ (cQ _) rys).snoc (.mk_tup (Be _ _ npd hd) (.mk_cons (.mk_str _) (.mk_cons rce (.mk_cons (.mk_int _) .mk_nil))))
     have B0e:dS st (vw K H) (vw K He):=fun c o hc e=>Be _ _ (ai e ht) (S1d _ _ (B0a _ _ hc e))
     refine (hPv _ _ _).mpr ⟨false,_,_,_,_,_,_,rfl,B0e,Se,le,fun c hc=>?_,?_,?_,by simp;walk_at"o"⟩
     ·rcases List.mem_append.mp hc with z|z
      ·exact ok' c z
      ·cases List.mem_singleton.mp z
       exact⟨hkd,tm f8 fN,(zV f8 fN b8 bN).mono (Nat.le_refl 37),fun k=>absurd k0 k,Nat.le_refl 1,show 37<=100 by decide⟩
     ·rw[sm,sm]
      have:qR (kd,mr nb (1,10 ^ Int.toNat 9),1,37)=1:=by
       unfold qR
       rw[if_pos k0]
       rfl
      walk_at"o"
     ·rw[sm,sm]
      have:yD (kd,mr nb (1,10 ^ Int.toNat 9),1,37)=45:=rfl
      walk_at"o"
    walk_at"vc"
    refine⟨l8.ty,rfl,cO (fun z=>app mn m3 (fun k0=>absurd (kline.mp z) k0) m1) (fun z=>?_)⟩
    by_cases h2:(2:Int)<(mn:Int)
    ·rw[if_pos h2]
     exact app 2 (by decide) (fun _=>by decide) (by decide)
    ·rw[if_neg h2]
     exact app mn m3 (fun _=>by walk_at"o") m1
   walk_at"vc"
   refine⟨rfl,cO (fun z=>?_) (fun z=>key v5 nb5 H7 B47 S7 l7 r7' f5 b5 fun _=>n5)⟩
   simp only[gD]
   exact⟨st,rfl,S7,fun v H8 q B8 S8 r8 f8 _ _ x8=>key v q H8 (B47.trans B8) S8 (l7.stBut (cQ _) (jZ _) S7 B8) r8 f8 (AT f8 x8) fun k=>absurd (kline.mp z) k⟩
  ·obtain⟨b,o4,o5,o6,o7,o8,its,rfl,B4,S4,l4,ok4,dg4,cs4,ln4⟩:=(hPv _ _ _).mp pv
   rw[cJ] at dg4 cs4 ln4
   refine hN3 _ _ ?_
   walk_at"vc"
   simp only[gD]
   refine⟨st,rfl,S4,fun v H5 q B5 S5 r5 f5 c1 c2 x5=>?_⟩
   obtain⟨a5,rfl,h5⟩:=r5.fr_at
   have l5:=l4.stBut (cQ _) (jZ _) S4 B5
   have B05:=B4.trans B5
   refine⟨a5,rfl,_,h5,_,fO,rfl,?_⟩
   refine cO (fun z=>⟨by decide,fun p H6 hp S6 h6=>h p t (.ref a5) H6 its q (B05.same_trans S6) (S5.same S6) h6 (l5.same S6) ht (aM.same S6 _ _ r5) f5 (fun e=>z (by rw[e])) (AT f5 x5) ok4 (by walk_at"o") (by walk_at"o") (by walk_at"o")⟩) (fun z=>⟨by decide,fun p6 H6 hp6 S6 h6=>⟨by decide,fun p H7 hp S7 h7=>h p t (.ref p6) H7 its (-3,2) (B05.same_trans (S6.trans S7)) (S5.same (S6.trans S7)) h7 (l5.same (S6.trans S7)) ht (aT (S7 _ _ h6)) ⟨by decide,by decide⟩ (by decide) ⟨by decide,by decide⟩ ok4 (by walk_at"o") (by walk_at"o") (by walk_at"o")⟩⟩)
theorem wI{D:Int}(h:D ≠ 0):(0:Rat)=((0:Int):Rat) / (D:Rat):=by
 have c0:((0:Int):Rat)=0:=rfl
 have:=az h
 rw[c0,Rat.div_def]
 grind
theorem A8{D:Int}(h:D ≠ 0):wv (1,1)=(D:Rat) / (D:Rat):=by
 show ((1:Int):Rat) / ((1:Int):Rat)=_
 have c1:((1:Int):Rat)=1:=rfl
 have:=az h
 rw[c1,Rat.div_def,Rat.div_def]
 grind
theorem nQ:wv (1,1) ≠ 0:=by
 show ((1:Int):Rat) / ((1:Int):Rat) ≠ 0
 have c1:((1:Int):Rat)=1:=rfl
 rw[c1]
 grind
theorem sK:wv (0,1)=0:=by
 show ((0:Int):Rat) / ((1:Int):Rat)=0
 have c1:((1:Int):Rat)=1:=rfl
 have c0:((0:Int):Rat)=0:=rfl
 rw[c1,c0]
 grind
theorem D9{y:Int × Int}{b:Nat}(fy:Fq y)(hb:Bq b y):ei [y,(1,1)]/\Pb b (cf [y,(1,1)]):=by
 refine⟨⟨fun q hq=>?_,fun q hq=>?_⟩,y.2,fy.ne,hb.2,fun k=>?_⟩
 ·rcases List.mem_cons.mp hq with rfl|z
  ·exact fy
  ·cases List.mem_singleton.mp z
   exact⟨by decide,by decide⟩
 ·cases hq
  exact Int.one_ne_zero
 ·match k with
  | 0=>exact⟨y.1,rfl,hb.1⟩
  | 1=>exact⟨y.2,A8 fy.ne,hb.2⟩
  | k+2=>exact⟨0,by rw[ci (by simp)];exact wI fy.ne,gy⟩
theorem zW{y:Int × Int}{b:Nat}(fy:Fq y)(hb:Bq b y):ei [y,(0,1),(1,1)]/\Pb b (cf [y,(0,1),(1,1)]):=by
 refine⟨⟨fun q hq=>?_,fun q hq=>?_⟩,y.2,fy.ne,hb.2,fun k=>?_⟩
 ·rcases List.mem_cons.mp hq with rfl|z
  ·exact fy
  ·rcases List.mem_cons.mp z with rfl|z
   ·exact wj
   ·cases List.mem_singleton.mp z
    exact⟨by decide,by decide⟩
 ·cases hq
  exact Int.one_ne_zero
 ·match k with
  | 0=>exact⟨y.1,rfl,hb.1⟩
  | 1=>exact⟨0,sK.trans (wI fy.ne),gy⟩
  | 2=>exact⟨y.2,A8 fy.ne,hb.2⟩
  | k+3=>exact⟨0,by rw[ci (by simp)];exact wI fy.ne,gy⟩
def fc(c:ow):bV:=if c.1=0 then .line (wv c.2.1) else if c.1=1 then .root (wv c.2.1) else .none (wv c.2.1)
def qO(c:ow):bV × Nat:=(fc c,c.2.2.1)
theorem BH{y:Int × Int}(x:Rat):EV (cf [y,(1,1)]) x=wv y+x:=by
 rw[ff (n:=2) (fun i hi=>ci (by simpa using hi)) (by decide)]
 show (0+wv y*1)+wv (1,1)*(1*x)=wv y+x
 have:wv (1,1)=1:=by
  show ((1:Int):Rat) / ((1:Int):Rat)=1
  have c1:((1:Int):Rat)=1:=rfl
  rw[c1]
  grind
 grind
theorem FC{y:Int × Int}(x:Rat):EV (cf [y,(0,1),(1,1)]) x=wv y+x*x:=by
 rw[ff (n:=3) (fun i hi=>ci (by simpa using hi)) (by decide)]
 show ((0+wv y*1)+wv (0,1)*(1*x))+wv (1,1)*(1*x*x)=wv y+x*x
 have:wv (1,1)=1:=by
  show ((1:Int):Rat) / ((1:Int):Rat)=1
  have c1:((1:Int):Rat)=1:=rfl
  rw[c1]
  grind
 have:wv (0,1)=0:=sK
 grind
theorem oU(q:Int × Int):wv (0 - q.1,q.2) = -wv q:=by
 show ((0 - q.1:Int):Rat) / (q.2:Rat) = -((q.1:Rat) / (q.2:Rat))
 rw[Rat.intCast_sub,show ((0:Int):Rat)=0 from rfl,Rat.div_def,Rat.div_def]
 grind
theorem pW{q:bV × Nat}{x:Rat}:∀ l:List (bV × Nat),iX (l ++ [q]) x=iX l x*gM (q.1.p x) q.2
 | []=>by show gM _ _*1=1*_;grind
 | a :: l=>by
  show _*iX (l ++ [q]) x=_*iX l x*_
  rw[pW l]
  grind
theorem kF:∀ its:List ow,eO (its.map qO)=(its.map qR).sum
 | []=>rfl
 | c :: its=>by
  show c.2.2.1*(fc c).deg+eO (its.map qO)=qR c+(its.map qR).sum
  rw[kF its]
  congr 1
  unfold qR fc
  split
  ·rw[Nat.mul_comm];rfl
  ·split <;> (rw[Nat.mul_comm];rfl)
def fj(K:W.Frag):Sp:=fun vs H Q _=>∃ (p t:Addr)(v:V)(its:List ow)(q:Int × Int),vs=[.ref p]/\vw K H p=some (.tup [.ref t,v])/\fZ (vw K H) t (its.map qQ)/\aM (vw K H) (fr q) v/\Fq q/\q.1 ≠ 0/\Bq 6 q/\(∀ c ∈ its,rp c)/\(its.map qR).sum<=8/\(its.map yD).sum<=174/\its.length<=4 /\
 ∀ d H' (fs:List (Int × Int)),ar (vw K H) (vw K H')->vw K H d=none->cG (vw K H') d fs->fs ≠ []->fs.length<=9->ei fs->Pb 185 (cf fs)->fs.length=eO (its.map qO)+1->(∀ x,EV (cf fs) x=wv q*iX (its.map qO) x)->Q (.ref d) H'
theorem ot(F:eE K "_law_of_factors" "_law_of_factors" cS f fd) (T:ge K mg)(zCmultiplied:bU P w K mg base "_law_multiplied" ["_law_f", "_law_g"] 4 (fh K)):bB P w K mg base dZ 5 f fd ["_law_factors_here"] (fj K):=by
 have scN:=jm.nd
 refine F.okQ jm (fun vs H Q E h=>?_) (fun cdv A outer s H vs Q E hr h=>?_)
 ·obtain⟨_,_,_,_,_,rfl,_⟩:=h
  rfl
 ·obtain⟨p,t,v,its,q,rfl,hp,ht,rv,fq,q0,bq,ok,dg,cs,ln,h⟩:=h
  refine⟨_,(af (ao (i:=1) scN rfl (by walk_at"a1") (aK (aa (ay cy (qv 0) ae (fun _ _=>rfl)) ac)))
   (af (cL PassesOwn.never rfl (bz (ay cy (qv 0) ae (fun _ _=>rfl))) (eJ (n:=3) rfl (aI (ak (i:=2) scN rfl (by walk_at"a1")) (aI (ak (i:=3) scN rfl (by walk_at"a1")) (aI (ak (i:=4) scN rfl (by walk_at"a1")) eH)))) (af (ao (i:=5) scN rfl (by walk_at"a1") (aD (aa (ap dA ae (ay cy (qv 3) ae (fun _ _=>rfl))) (aa (ay cy (qv 3) ae (fun _ _=>rfl)) ac))))
   (af (ao (i:=6) scN rfl (by walk_at"a1") (yS hr.u64 (Av (lM dJ (aK (aa (qv 5) (aa (aD (aa ae (aa ae ac))) ac))) (lM dJ (aK (aa (qv 5) (aa (aD (aa ae (aa ae ac))) (aa (aD (aa ae (aa ae ac))) ac)))) (lM dJ (aK (aa (qv 3) (aa (aD (aa ae (aa ae ac))) (aa (aD (aa ae (aa ae ac))) ac)))) zI))) rfl rfl (by decide) (by decide)) (qv 2) (fun _ _=>rfl)))
   (ah (cL PassesOwn.never rfl (cT rfl T.b_range (aa (qv 4) ac)) (ak (i:=7) scN rfl (by walk_at"a1")) (ah (ao (i:=1) scN rfl (by walk_at"a1") (aj zCmultiplied (hr.mono (by walk_at"a2")) rfl (aa (qv 1) (aa (qv 6) ac))))))))))
   (ah (aB (qv 1))))),?_⟩
  walk_at"m"
  skip
  refine aQ.gen fun N1 hN1=>?_
  walk_at"vc"
  refine⟨_,hp,_,iT,by decide,fun d0 H1 hd0 S1 h1=>hN1 _ _ ?_⟩
  refine aQ.gen fun N2 hN2=>?_
  walk_at"vc"
  obtain⟨ts,hts,rts⟩:=id ht
  refine⟨_,S1 _ _ hp,_,fO,t,rfl,⟨_,.of (aC (S1 _ _ hts))⟩,?_⟩
  obtain⟨Pv,hPv⟩ : ∃ Pv:Nat->St->Hp->Prop,∀ i σ H',Pv i σ H' ↔ ∃ (d:Addr)(o2 o3 o4 o5 o6 o7:Option V)(fs:List (Int × Int)),σ=[some (.ref p),some (.ref d),o2,o3,o4,o5,o6,o7]/\ar (vw K H) (vw K H')/\vw K H d=none/\cG (vw K H') d fs/\fs ≠ []/\ei fs/\fs.length=1+((its.take i).map qR).sum/\Pb (6+((its.take i).map yD).sum) (cf fs)/\(∀ x,EV (cf fs) x=wv q*iX ((its.take i).map qO) x):=⟨_,fun _ _ _=>Iff.rfl⟩
  refine aO (its:=ts) Pv (fun i σ H' _ z=>?_) ((hPv _ _ _).mpr ⟨d0,_,_,_,_,_,_,[q],rfl,S1,hd0,⟨_,h1,.mk_cons (aM.same S1 _ _ rv) .mk_nil⟩,by simp,⟨by simpa using fq,by simpa using q0⟩,by simp,?_,fun x=>?_⟩) (fun i x σ H2 hi hx pv=>?_) (fun σ H2 pv=>?_)
  ·obtain⟨_,_,_,_,_,_,_,_,_,S',_⟩:=(hPv _ _ _).mp z
   exact aE (S' _ _ hts)
  ·refine⟨q.2,fq.ne,bq.2.mono (by walk_at"o"),fun k=>?_⟩
   cases k with
   | zero=>exact⟨q.1,rfl,bq.1.mono (by walk_at"o")⟩
   | succ k =>
    refine⟨0,?_,gy⟩
    rw[ci (by simp)]
    have c0:((0:Int):Rat)=0:=rfl
    have:=az fq.ne
    rw[c0,Rat.div_def]
    grind
  ·rw[ff (n:=1) (fun i hi=>ci (by simpa using hi)) (by decide)]
   show 0+wv q*1=wv q*1
   grind
  ·obtain⟨d,o2,o3,o4,o5,o6,o7,fs,rfl,S2,nd,ld,f0,pf,lf,bf,ev⟩:=(hPv _ _ _).mp pv
   have hi':i<its.length:=by rw[<- List.length_map (f:=qQ),<- rts.length];exact hi
   obtain⟨c,hc⟩ : ∃ c,its[i]? = some c:=⟨_,List.getElem?_eq_getElem hi'⟩
   obtain⟨x',ex,rx⟩:=rts.at (i:=i) (d:=qQ c) (by rw[List.getElem?_map,hc];rfl)
   rw[hx] at ex
   cases ex
   obtain⟨kd,nb,mn,b⟩:=c
   obtain⟨hk,fn,bn,_,_⟩:=ok _ (List.mem_of_getElem? hc)
   obtain⟨xa,us,rfl,hxa,rus⟩:=aM.tup_at (aM.same S2 _ _ rx)
   obtain⟨u1,us1,rfl,ru1,rus1⟩ : ∃ x r,us=x :: r/\aM (vw K H2) (.str (kS kd)) x/\aA (vw K H2) [fr nb,.int mn] r:=by
    unfold aA at rus
    exact rus
   obtain⟨u2,us2,rfl,ru2,rus2⟩ : ∃ x r,us1=x :: r/\aM (vw K H2) (fr nb) x/\aA (vw K H2) [.int mn] r:=by
    unfold aA at rus1
    exact rus1
   obtain⟨u3,us3,rfl,ru3,rus3⟩ : ∃ x r,us2=x :: r/\aM (vw K H2) (.int mn) x/\aA (vw K H2) [] r:=by
    unfold aA at rus2
    exact rus2
   have:us3=[]:=by
    unfold aA at rus3
    exact rus3
   subst this
   obtain⟨na,rfl,hna⟩:=ru2.fr_at
   have:u1 = .str (kS kd):=by
    unfold aM at ru1
    exact ru1
   subst this
   have:u3 = .int mn:=ru3.int_at
   subst this
   walk_at"vc"
   refine⟨_,hxa,rfl,_,_,rfl,_,_,rfl,_,_,rfl,rfl,na,rfl,_,hna,_,fO,_,rfl,na,rfl,_,hna,_,iT,by decide,fun la H3 hla S3 h3=>?_⟩
   simp only[xH,wY,oH]
   walk_at"vc"
   intro pd G1 hpd T1 g1
   refine⟨by decide,fun a1 G2 k2 T2 g2=>⟨by decide,fun l1 G3 k3 T3 g3=>⟨by decide,fun a2 G4 k4 T4 g4=>⟨by decide,fun a3 G5 k5 T5 g5=>⟨by decide,fun l2 G6 k6 T6 g6=>⟨by decide,fun a4 G7 k7 T7 g7=>⟨by decide,fun a5 G8 k8 T8 g8=>⟨by decide,fun l3 G9 k9 T9 g9=>?_⟩⟩⟩⟩⟩⟩⟩⟩
   have U8:=T9
   have U7:=T8.trans U8
   have U6:=T7.trans U7
   have U5:=T6.trans U6
   have U4:=T5.trans U5
   have U3:=T4.trans U4
   have U2:=T3.trans U3
   have U1:=T2.trans U2
   refine⟨U1 _ _ g1,[(Sum.inr "line",.ref l1),(Sum.inr "root",.ref l2),(Sum.inr "none",.ref l3)],rfl,(show 3<=15 by decide),fun H4 B4 h4=>⟨_,h4,Sum.inr (kS kd),rfl,?_⟩⟩
   have S24:ar (vw K H2) (vw K H4):=fun y o e=>B4 _ _ (ai (S3 _ _ e) hpd) (U1 _ _ (T1 _ _ (S3 _ _ e)))
   have nd3:∀ {y:Addr}{xs:List V},vw K G9 y=some (.tup xs)->vw K H4 y=some (.tup xs):=fun e=>B4 _ _ (fun z=>by rw[z,U1 _ _ g1] at e;cases e) e
   have ndl:∀ {y:Addr}{xs:List V},vw K G9 y=some (.lst xs)->vw K H4 y=some (.lst xs):=fun e=>B4 _ _ (fun z=>by rw[z,U1 _ _ g1] at e;cases e) e
   have fl:Fq (0 - nb.1,nb.2):=⟨fn.1,by have:=fn.2;rw[Int.zero_sub,Int.neg_gcd];exact this⟩
   have bl:Bq b (0 - nb.1,nb.2):=⟨by have z:Bt b nb.1:=bn.1;unfold Bt at z ⊢;show (0 - nb.1).natAbs<_;walk_at"o",bn.2⟩
   have rla:aM (vw K H4) (fr (0 - nb.1,nb.2)) (.ref la):=aT (nd3 (U1 _ _ (T1 _ _ h3)))
   have rna:aM (vw K H4) (fr nb) (.ref na):=aT (nd3 (U1 _ _ (T1 _ _ (S3 _ _ hna))))
   obtain⟨oa,one,eo,lo',po,bo,ln1,tp,evo⟩ : ∃ (oa:Addr)(one:List (Int × Int)),lc (jD [] [((Sum.inr "line" : fP),V.ref l1),(Sum.inr "root",.ref l2),(Sum.inr "none",.ref l3)]) (Sum.inr (kS kd))=some (.ref oa)/\cG (vw K H4) oa one/\ei one/\Pb b (cf one)/\one.length=1+(if kd=0 then 1 else 2)/\cf one (one.length - 1) ≠ 0 /\ ∀ x,EV (cf one) x=(fc (kd,nb,mn,b)).p x:=by
    have:kd=0\/kd=1\/kd=2:=by
     have:kd<=2:=hk
     walk_at"o"
    rcases this with rfl|rfl|rfl
    ·exact⟨l1,[(0 - nb.1,nb.2),(1,1)],rfl,⟨_,ndl (U3 _ _ g3),.mk_cons rla (.mk_cons (aT (nd3 (U2 _ _ g2))) .mk_nil)⟩,(D9 fl bl).1,(D9 fl bl).2,rfl,nQ,fun x=>by rw[BH,oU];show _=x - wv nb;grind⟩
    ·exact⟨l2,[(0 - nb.1,nb.2),(0,1),(1,1)],rfl,⟨_,ndl (U6 _ _ g6),.mk_cons rla (.mk_cons (aT (nd3 (U4 _ _ g4))) (.mk_cons (aT (nd3 (U5 _ _ g5))) .mk_nil))⟩,(zW fl bl).1,(zW fl bl).2,rfl,nQ,fun x=>by rw[FC,oU];show _=x*x - wv nb;grind⟩
    ·exact⟨l3,[nb,(0,1),(1,1)],rfl,⟨_,ndl g9,.mk_cons rna (.mk_cons (aT (nd3 (U7 _ _ g7))) (.mk_cons (aT (nd3 (U8 _ _ g8))) .mk_nil))⟩,(zW fn bn).1,(zW fn bn).2,rfl,nQ,fun x=>by rw[FC];show _=x*x+wv nb;grind⟩
   refine⟨_,eo,?_⟩
   have smd:∀ g:ow->Nat,((its.take (i+1)).map g).sum=((its.take i).map g).sum+g (kd,nb,mn,b):=fun g=>by
    rw[List.take_add_one,hc]
    simp
   have tot:∀ g:ow->Nat,((its.take (i+1)).map g).sum<=(its.map g).sum:=fun g=>by
    have:=congrArg (fun l=>(l.map g).sum) (List.take_append_drop (i+1) its)
    simp only[List.map_append,List.sum_append] at this
    walk_at"o"
   have d1:=smd qR
   have c1:=smd yD
   have d2:=tot qR
   have c2:=tot yD
   have ed:qR (kd,nb,mn,b)=(if kd=0 then 1 else 2)*mn:=rfl
   have ec:yD (kd,nb,mn,b)=(b+8)*mn:=rfl
   obtain⟨un,hun⟩ : ∃ un,un=(if kd=0 then 1 else 2):=⟨_,rfl⟩
   rw[<- hun] at ed ln1
   have m174:mn<=174:=by
    have:mn<=(b+8)*mn:=Nat.le_mul_of_pos_left _ (by walk_at"o")
    walk_at"o"
   refine⟨by walk_at"o",by walk_at"o",?_⟩
   obtain⟨Pw,hPw⟩ : ∃ Pw:Nat->St->Hp->Prop,∀ j σ H',Pw j σ H' ↔ ∃ (d:Addr)(o7:Option V)(fs:List (Int × Int)),σ=[some (.ref p),some (.ref d),some (.str (kS kd)),some (.ref na),some (.int mn),some (.ref la),some (.ref oa),o7]/\ar (vw K H4) (vw K H')/\vw K H d=none/\cG (vw K H') d fs/\fs ≠ []/\ei fs/\fs.length=1+((its.take i).map qR).sum+un*j/\Pb (6+((its.take i).map yD).sum+(b+8)*j) (cf fs)/\(∀ x,EV (cf fs) x=wv q*iX ((its.take i).map qO) x*gM ((fc (kd,nb,mn,b)).p x) j):=⟨_,fun _ _ _=>Iff.rfl⟩
   have S04:=S2.trans S24
   refine aO (its:=gd 0 mn) Pw (fun _ _ _ _ _=>bK) ((hPw _ _ _).mpr ⟨d,_,fs,rfl,fun _ _ z=>z,nd,ld.same S24,f0,pf,by rw[Nat.mul_zero];walk_at"o",by rw[Nat.mul_zero];exact bf,fun x=>by rw[ev x];show _=_*1;grind⟩) (fun j x σ H5 hj hx pw=>?_) (fun σ H5 pw=>?_)
   ·obtain⟨d',o7',fs',rfl,S5,nd',ld',f0',pf',lf',bf',ev'⟩:=(hPw _ _ _).mp pw
    rw[cJ] at hj
    have j1:un*(j+1)<=un*mn:=Nat.mul_le_mul_left _ hj
    have j2:(b+8)*(j+1)<=(b+8)*mn:=Nat.mul_le_mul_left _ hj
    have j3:un*(j+1)=un*j+un:=Nat.mul_succ _ _
    have j4:(b+8)*(j+1)=(b+8)*j+(b+8):=Nat.mul_succ _ _
    have un1:1<=un:=by rw[hun];split <;> walk_at"o"
    walk_at"vc"
    simp only[fh]
    have l1:0<fs'.length:=List.length_pos_iff.mpr f0'
    refine⟨d',oa,fs',one,_,b,rfl,ld',lo'.same S5,by walk_at"o",by walk_at"o",by walk_at"o",pf'.1,po.1,bf',bo,fun e H6 rs S6 le ne' pr' cr _=>?_⟩
    have tz:cf rs (fs'.length - 1+(one.length - 1)) ≠ 0:=fun z=>by
     have q1:=lQ (f:=cf fs') (g:=cf one) (d:=one.length - 1) (i:=fs'.length - 1) (fun j hj=>ci (by walk_at"o")) (fun j hj=>ci (by walk_at"o")) fs'.length
     rw[<- cr,z,if_pos (by walk_at"o")] at q1
     rcases Rat.mul_eq_zero.mp q1.symm with y|y
     ·exact mS pf' f0' y
     ·exact tp y
    have lr1:fs'.length - 1+(one.length - 1)<rs.length:=Nat.lt_of_not_le fun z=>tz (ci z)
    have lr2:rs.length<=fs'.length+one.length - 1:=DA pr' fun k hk=>by
     rw[cr k]
     exact fR (n:=one.length) (fun i hi=>ci hi) _ _ (by walk_at"o")
    refine (hPw _ _ _).mpr ⟨e,_,rs,rfl,S5.trans S6,(S04.trans S5).none ne',le,fun z=>by rw[z] at lr1;simp at lr1,pr',by walk_at"o",?_,fun x=>?_⟩
    ·exact ((bf'.pr bo fs'.length).congr cr).mono (by walk_at"o")
    ·rw[eT cr x,Ez (by walk_at"o"),ev' x,evo x]
     show _=_*(_*gM _ j)
     grind
   ·obtain⟨d',o7',fs',rfl,S5,nd',ld',f0',pf',lf',bf',ev'⟩:=(hPw _ _ _).mp pw
    rw[cJ] at lf' bf' ev'
    exact (hPv _ _ _).mpr ⟨d',_,_,_,_,_,_,fs',rfl,S04.trans S5,nd',ld',f0',pf',by rw[d1,ed];walk_at"o",bf'.mono (by rw[c1,ec];walk_at"o"),fun x=>by rw[ev' x,List.take_add_one,hc];show _=wv q*iX ((its.take i ++ [(kd,nb,mn,b)]).map qO) x;rw[List.map_append];show _=wv q*iX (_ ++ [qO (kd,nb,mn,b)]) x;rw[pW,<- Rat.mul_assoc];rfl⟩
  ·obtain⟨d,o2,o3,o4,o5,o6,o7,fs,rfl,S2,nd,ld,f0,pf,lf,bf,ev⟩:=(hPv _ _ _).mp pv
   have e1:its.take ts.length=its:=List.take_of_length_le (by rw[rts.length,List.length_map];walk_at"o")
   rw[e1] at lf bf ev
   refine hN2 _ _ ?_
   walk_at"vc"
   exact h d H2 fs S2 nd ld f0 (by walk_at"o") pf (bf.mono (by walk_at"o")) (by rw[kF];walk_at"o") ev
def iY(K:W.Frag):Sp:=fun vs H Q _=>∃ x y p q,vs=[x,y]/\aM (vw K H) (fr p) x/\aM (vw K H) (fr q) y/\Bq 20000 p/\Bq 20000 q/\Q (.bl (yE p q)) H
theorem Cd(F:eE K "_law_less" "_law_less" jv f fd) (T:ge K mg):bB P w K mg base dZ 1 f fd ["_law_one", "_law_other"] (iY K):=by
 have scN:=yt.nd
 refine F.okQ yt (fun vs H Q E h=>?_) (fun cdv A outer s H vs Q E hr h=>?_)
 ·obtain⟨_,_,_,_,rfl,_⟩:=h
  rfl
 ·obtain⟨x,y,p,q,rfl,hx,hy,bp,bq,h⟩:=h
  refine⟨_,(ah (aB (i8 uu (ap aV (ay cy (qv 0) ae (fun _ _=>rfl)) (ay cy (qv 1) ae (fun _ _=>rfl))) (ap aV (ay cy (qv 1) ae (fun _ _=>rfl)) (ay cy (qv 0) ae (fun _ _=>rfl))) (aJ _)))),?_⟩
  walk_at"m"
  obtain⟨a,rfl,ha⟩:=hx.fr_at
  obtain⟨b,rfl,hb⟩:=hy.fr_at
  walk_at"vc*"
  exact⟨cw bp.1 bq.2 (by decide),cw bq.1 bp.2 (by decide),h⟩
theorem BP{q:Int × Int}(h:Fq q):Fq ((if q.1<0 then -q.1 else q.1),q.2):=by
 refine⟨h.1,?_⟩
 have:=h.2
 show Int.gcd (if q.1<0 then -q.1 else q.1) q.2=1
 split
 ·rw[Int.neg_gcd];exact this
 ·exact this
def gY(K:W.Frag):Sp:=fun vs H Q _=>∃ (x:V)(q:Int × Int),vs=[x]/\aM (vw K H) (fr q) x/\Fq q/\Bq 100 q /\ ∀ v H' (r:Int × Int),ar (vw K H) (vw K H')->aM (vw K H') (fr r) v->Fq r->Bq 300 r->wv r=cY (wv q)->Q v H'
theorem wo(F:eE K "_law_signed" "_law_signed" gh f fd) (T:ge K mg)(zCtimes:bU P w K mg base "_law_times" ["_law_one", "_law_other"] 3 (iI K)):bB P w K mg base dZ 4 f fd ["_law_x"] (gY K):=by
 have scN:=qK.nd
 refine F.okQ qK (fun vs H Q E h=>?_) (fun cdv A outer s H vs Q E hr h=>?_)
 ·obtain⟨_,_,rfl,_⟩:=h
  rfl
 ·obtain⟨x,q,rfl,hx,fq,bq,h⟩:=h
  refine⟨_,(ah (aB (aj zCtimes (hr.mono (by walk_at"a2")) rfl (aa (qv 0) (aa (aD (aa (au jq (by rfl) T.b_abs oQ (aa (ay cy (qv 0) ae (fun _ _=>rfl)) ac)) (aa (ay cy (qv 0) ae (fun _ _=>rfl)) ac))) ac))))),?_⟩
  walk_at"m"
  obtain⟨k,rfl,hk⟩:=id hx.fr_at
  walk_at"vc"
  refine⟨_,hk,_,fO,_,rfl,_,hk,_,iT,by decide,fun p1 H1 hp1 S1 h1=>?_⟩
  simp only[iI]
  have fa:=BP fq
  have ba:Bq 100 ((if q.1<0 then -q.1 else q.1),q.2):=⟨by have:=bq.1;unfold Bt at this ⊢;show (if q.1<0 then -q.1 else q.1).natAbs<_;split <;> walk_at"o",bq.2⟩
  refine⟨_,_,q,_,rfl,aM.same S1 _ _ hx,aT h1,fq.ne,fa.ne,bq.mono (by decide),ba.mono (by decide),(bq.2.mul ba.2).mono (by decide),fun v H2 S2 r2=>h v H2 _ (S1.trans S2) r2 (um fq fa) ((tu fq fa bq ba).mono (by decide)) ?_⟩
  rw[vF fq.ne fa.ne]
  have p2:(0:Rat)<(q.2:Rat):=Rat.intCast_pos.mpr fq.1
  have ab:wv ((if q.1<0 then -q.1 else q.1),q.2)=if wv q<0 then -wv q else wv q:=by
   have s1:wv q<0 ↔ q.1<0:=by
    refine⟨fun z=>?_,fun z=>?_⟩
    ·refine Classical.byContradiction fun y=>?_
     have c:(0:Rat)<=(q.1:Rat):=Rat.intCast_nonneg.mpr (by walk_at"o")
     unfold wv at z
     rw[Rat.div_lt_iff p2] at z
     grind
    ·unfold wv
     rw[Rat.div_lt_iff p2]
     have c:(q.1:Rat)<((0:Int):Rat):=Rat.intCast_lt_intCast.mpr z
     have c0:((0:Int):Rat)=0:=rfl
     grind
   by_cases z:q.1<0
   ·rw[if_pos (s1.mpr z)]
    show (((if q.1<0 then -q.1 else q.1):Int):Rat) / _=_
    rw[if_pos z,Rat.intCast_neg]
    unfold wv
    rw[Rat.div_def,Rat.div_def]
    grind
   ·rw[if_neg fun y=>z (s1.mp y)]
    show (((if q.1<0 then -q.1 else q.1):Int):Rat) / _=_
    rw[if_neg z]
    rfl
  rw[ab]
  unfold cY
  by_cases z:wv q<0
  ·rw[if_pos z,if_pos z];grind
  ·rw[if_neg z,if_neg z]
def pH(ms:List (Int × Int))(L:List Rat):Prop:=(∀ q ∈ ms,Fq q/\Bq 300 q)/\(ms.map wv).Nodup /\ ∀ y,y ∈ ms.map wv ↔ y ∈ L
theorem pH.has{ms:List (Int × Int)}{L:List Rat}{r:Int × Int}(h:pH ms L)(hr:r ∈ ms):pH ms (L ++ [wv r]):=by
 obtain⟨a,b,c⟩:=h
 refine⟨a,b,fun y=>⟨fun z=>List.mem_append_left _ ((c y).mp z),fun z=>?_⟩⟩
 rcases List.mem_append.mp z with w|w
 ·exact (c y).mpr w
 ·rw[List.mem_singleton.mp w]
  exact List.mem_map.mpr ⟨r,hr,rfl⟩
theorem pH.ins{ms:List (Int × Int)}{L:List Rat}{r:Int × Int}(h:pH ms L)(fr':Fq r)(br:Bq 300 r)(hr:r ∉ ms)(n:Nat):pH (ms.take n ++ r :: ms.drop n) (L ++ [wv r]):=by
 obtain⟨a,b,c⟩:=h
 have p:(ms.take n ++ r :: ms.drop n).Perm (r :: ms):=by
  have:=List.perm_middle (a:=r) (l₁:=ms.take n) (l₂:=ms.drop n)
  rwa [List.take_append_drop] at this
 have pm:=p.map wv
 refine⟨fun q hq=>?_,pm.nodup_iff.mpr ?_,fun y=>?_⟩
 ·rcases List.mem_cons.mp (p.mem_iff.mp hq) with rfl|z
  ·exact⟨fr',br⟩
  ·exact a q z
 ·rw[List.map_cons]
  refine List.nodup_cons.mpr ⟨fun z=>?_,b⟩
  obtain⟨q,hq,e⟩:=List.mem_map.mp z
  exact hr (rT (a q hq).1 fr' e ▸ hq)
 ·rw[pm.mem_iff,List.map_cons,List.mem_cons,List.mem_append,c y,List.mem_singleton]
  exact or_comm
def ko(K:W.Frag):Sp:=fun vs H Q _=>∃ (p t:Addr)(v:V)(its:List ow),vs=[.ref p]/\vw K H p=some (.tup [.ref t,v])/\fZ (vw K H) t (its.map qQ)/\(∀ c ∈ its,rp c/\c.2.2.2<=100)/\its.length<=4 /\
 ∀ d H' (ms:List (Int × Int)),ar (vw K H) (vw K H')->vw K H d=none->cG (vw K H') d ms->(∀ q ∈ ms,Fq q/\Bq 300 q)->(ms.map wv).Nodup->(∀ y,y ∈ ms.map wv ↔ y ∈ pj (its.map qO))->ms.length<=8->Q (.ref d) H'
theorem zO(F:eE K "_law_marks" "_law_marks" ix f fd) (T:ge K mg)(zCsigned:bU P w K mg base "_law_signed" ["_law_x"] 4 (gY K)) (zCless:bU P w K mg base "_law_less" ["_law_one", "_law_other"] 1 (iY K)):bB P w K mg base dZ 5 f fd ["_law_factors_here"] (ko K):=by
 have scN:=tI.nd
 refine F.okQ tI (fun vs H Q E h=>?_) (fun cdv A outer s H vs Q E hr h=>?_)
 ·obtain⟨_,_,_,_,rfl,_⟩:=h
  rfl
 ·obtain⟨p,t,v,its,rfl,hp,ht,ok,ln,h⟩:=h
  refine⟨_,(af (ao (i:=1) scN rfl (by walk_at"a1") (aK ac))
   (af (cL PassesOwn.never rfl (bz (ay cy (qv 0) ae (fun _ _=>rfl))) (eJ (n:=3) rfl (aI (ak (i:=2) scN rfl (by walk_at"a1")) (aI (ak (i:=3) scN rfl (by walk_at"a1")) (aI (ak (i:=4) scN rfl (by walk_at"a1")) eH)))) (af (ao (i:=5) scN rfl (by walk_at"a1") (eP (aF hZ (qv 2) dJ (aJ _)) (aK (aa (aj zCsigned (hr.mono (by walk_at"a2")) rfl (aa (qv 3) ac)) ac)) (aK ac)))
   (af (cW (aF hZ (qv 2) dJ (aJ _)) (ah (ao (i:=5) scN rfl (by walk_at"a1") (aK (aa (aD (aa (ap dA ae (ay cy (qv 3) ae (fun _ _=>rfl))) (aa (ay cy (qv 3) ae (fun _ _=>rfl)) ac))) (aa (qv 3) ac))))) bj)
   (ah (cL PassesOwn.never rfl (bz (qv 5)) (ak (i:=6) scN rfl (by walk_at"a1")) (ah (cW (aF (vt hr.u64) (qv 6) (qv 1) (by rfl)) (ah (gK (nF PySem.F.plainAttrs_list PySem.F.slot_list_insert PySem.F.type_list_insert qW (qv 1) (aa (au aN (by rfl) T.b_len ck (aa (dI (own:=["_law_other"]) (outs:=["_law_one"]) (ixs:=[6]) rfl (bz (qv 1)) rfl ⟨rfl,rfl,rfl,⟨rfl,trivial⟩,rfl,⟨⟨rfl,rfl,rfl,_,rfl⟩,trivial⟩⟩ (fun _ _ _ _=>⟨(ak (i:=0) (show (["_law_other", "_law_one"]:List Str).Nodup by decide +kernel) rfl (by walk_at"a1")),(rP (jB (aj zCless (hr.mono (by walk_at"a2")) rfl (aa (qv 0) (aa (qv 1) ac))))),(qv 0)⟩)) ac)) (aa (qv 6) ac))))) bj)))))))
   (ah (aB (qv 1))))),?_⟩
  walk_at"m"
  skip
  refine aQ.gen fun N1 hN1=>?_
  walk_at"vc"
  refine⟨by decide,fun d H1 hd S1 h1=>hN1 _ _ ?_⟩
  refine aQ.gen fun N2 hN2=>?_
  walk_at"vc"
  obtain⟨ts,hts,rts⟩:=id ht
  refine⟨_,S1 _ _ hp,_,fO,t,rfl,⟨_,.of (aC (S1 _ _ hts))⟩,?_⟩
  have ndp:∀ {b:Addr}{o:HO},vw K H b=some o->b ≠ d:=fun e=>ai e hd
  obtain⟨Pv,hPv⟩ : ∃ Pv:Nat->St->Hp->Prop,∀ i σ H',Pv i σ H' ↔ ∃ (o2 o3 o4 o5 o6:Option V)(ms:List (Int × Int)),σ=[some (.ref p),some (.ref d),o2,o3,o4,o5,o6]/\ar (vw K H) (vw K H')/\cG (vw K H') d ms/\pH ms (pj ((its.take i).map qO))/\ms.length<=2*i:=⟨_,fun _ _ _=>Iff.rfl⟩
  refine aO (its:=ts) Pv (fun i σ H' _ z=>?_) ((hPv _ _ _).mpr ⟨_,_,_,_,_,[],rfl,S1,⟨[],h1,.mk_nil⟩,⟨by simp,by simp,fun y=>by simp[pj]⟩,by simp⟩) (fun i x σ H2 hi hx pv=>?_) (fun σ H2 pv=>?_)
  ·obtain⟨_,_,_,_,_,_,_,S',_⟩:=(hPv _ _ _).mp z
   exact aE (S' _ _ hts)
  ·obtain⟨o2,o3,o4,o5,o6,ms,rfl,S2,ld,mk,lm⟩:=(hPv _ _ _).mp pv
   have hi':i<its.length:=by rw[<- List.length_map (f:=qQ),<- rts.length];exact hi
   obtain⟨c,hc⟩ : ∃ c,its[i]? = some c:=⟨_,List.getElem?_eq_getElem hi'⟩
   obtain⟨x',ex,rx⟩:=rts.at (i:=i) (d:=qQ c) (by rw[List.getElem?_map,hc];rfl)
   rw[hx] at ex
   cases ex
   obtain⟨⟨hk,fn,bn,hns,_⟩,b100⟩:=ok _ (List.mem_of_getElem? hc)
   obtain⟨kd,nb,mn,b⟩:=c
   obtain⟨xa,us,rfl,hxa,rus⟩:=aM.tup_at (aM.same S2 _ _ rx)
   obtain⟨u1,us1,rfl,ru1,rus1⟩:=rus.cons_at
   obtain⟨u2,us2,rfl,ru2,rus2⟩:=rus1.cons_at
   obtain⟨u3,us3,rfl,ru3,rus3⟩:=rus2.cons_at
   cases rus3.nil_at
   obtain⟨na,rfl,hna⟩:=id ru2.fr_at
   have:u1 = .str (kS kd):=by
    unfold aM at ru1
    exact ru1
   subst this
   have:u3 = .int mn:=ru3.int_at
   subst this
   have bn':Bq 100 nb:=bn.mono b100
   refine⟨_,rfl,_,hxa,rfl,_,_,rfl,_,_,rfl,_,_,rfl,rfl,?_⟩
   have hk2:kd=0\/kd=1\/kd=2:=by
    have:kd<=2:=hk
    walk_at"o"
   have kline:kS kd=Str.ofString "line" ↔ kd=0:=by
    rcases hk2 with rfl|rfl|rfl
    ·exact⟨fun _=>rfl,fun _=>rfl⟩
    ·exact⟨fun z=>absurd z (by decide),fun z=>by cases z⟩
    ·exact⟨fun z=>absurd z (by decide),fun z=>by cases z⟩
   have kroot:kS kd=Str.ofString "root" ↔ kd=1:=by
    rcases hk2 with rfl|rfl|rfl
    ·exact⟨fun z=>absurd z (by decide),fun z=>by cases z⟩
    ·exact⟨fun _=>rfl,fun _=>rfl⟩
    ·exact⟨fun z=>absurd z (by decide),fun z=>by cases z⟩
   have emk:pj ((its.take (i+1)).map qO)=pj ((its.take i).map qO) ++ (fc (kd,nb,mn,b)).mk:=by
    rw[List.take_add_one,hc]
    show pj ((its.take i ++ [(kd,nb,mn,b)]).map qO)=_
    rw[List.map_append]
    unfold pj
    rw[List.flatMap_append]
    simp[qO]
   refine aQ.gen fun M1 hM1=>?_
   have k1:∀ (sa:Addr)(H3:Hp)(rs:List (Int × Int)),ar (vw K H2) (vw K H3)->cG (vw K H3) sa rs->vw K H2 sa=none->(kd ≠ 1->rs.map wv=(fc (kd,nb,mn,b)).mk)->(∀ q ∈ rs,Fq q/\Bq 300 q)->rs.length<=1->M1 [some (.ref p),some (.ref d),some (.str (kS kd)),some (.ref na),some (.int mn),some (.ref sa),o6] H3:=by
    intro sa H3 rs S3 ls nsa ers brs lrs
    refine hM1 _ _ ?_
    refine aQ.gen fun M2 hM2=>?_
    have key:∀ (sa:Addr)(H4:Hp)(rs:List (Int × Int)),ar (vw K H2) (vw K H4)->cG (vw K H4) sa rs->vw K H2 sa=none->rs.map wv=(fc (kd,nb,mn,b)).mk->(∀ q ∈ rs,Fq q/\Bq 300 q)->rs.length<=2->M2 [some (.ref p),some (.ref d),some (.str (kS kd)),some (.ref na),some (.int mn),some (.ref sa),o6] H4:=by
     intro sa H4 rs S4 ls nsa ers brs lrs
     refine hM2 _ _ ?_
     walk_at"vc"
     obtain⟨ss,hss,rss⟩:=id ls
     have lss:ss.length=rs.length:=by rw[rss.length,List.length_map]
     have nsd:sa ≠ d:=by
      obtain⟨ys,hys,_⟩:=id ld
      exact (ai hys nsa).symm
     obtain⟨Pw,hPw⟩ : ∃ Pw:Nat->St->Hp->Prop,∀ j σ H',Pw j σ H' ↔ ∃ (o6:Option V)(ms':List (Int × Int)),σ=[some (.ref p),some (.ref d),some (.str (kS kd)),some (.ref na),some (.int mn),some (.ref sa),o6]/\ar (vw K H) (vw K H')/\vw K H' sa=some (.lst ss)/\aA (vw K H') (rs.map fr) ss/\cG (vw K H') d ms'/\pH ms' (pj ((its.take i).map qO) ++ (rs.take j).map wv)/\ms'.length<=2*i+j:=⟨_,fun _ _ _=>Iff.rfl⟩
     refine⟨⟨_,.of (aC hss)⟩,aO (its:=ss) Pw (fun j σ H' _ z=>?_) ((hPw _ _ _).mpr ⟨_,ms,rfl,S2.trans S4,hss,rss,ld.same S4,by rw[List.take_zero,List.map_nil,List.append_nil];exact mk,by walk_at"o"⟩) (fun j y σ H5 hj hy pw=>?_) (fun σ H5 pw=>?_)⟩
     ·obtain⟨_,_,_,_,z1,_⟩:=(hPw _ _ _).mp z
      exact aE z1
     ·obtain⟨o6',ms',rfl,S5,hs5,rs5,ld5,mk5,lm5⟩:=(hPw _ _ _).mp pw
      have hj':j<rs.length:=by walk_at"o"
      obtain⟨r,hr⟩ : ∃ r,rs[j]? = some r:=⟨_,List.getElem?_eq_getElem hj'⟩
      obtain⟨y',ey,ry⟩:=rs5.at (i:=j) (d:=fr r) (by rw[List.getElem?_map,hr];rfl)
      rw[hy] at ey
      cases ey
      obtain⟨fr1,br1⟩:=brs r (List.mem_of_getElem? hr)
      have et:(rs.take (j+1)).map wv=(rs.take j).map wv ++ [wv r]:=by rw[List.take_add_one,hr];simp
      obtain⟨xs,hxs,rxs⟩:=id ld5
      walk_at"vc"
      simp only[En]
      refine⟨_,_,ry,ld5.rep,rZ r,yW ms',!decide (r ∈ ms'),by rw[if_pos trivial,tU],cO (fun z=>?_) (fun z=>?_)⟩
      ·have nr:r ∉ ms':=by simpa using z
       refine⟨jM hxs,⟨_,.of (aC hxs)⟩,fun a6 H6 ha6 S6 h6=>?_⟩
       have lxs:xs.length=ms'.length:=by rw[rxs.length,List.length_map]
       refine aX (its:=xs) (fun k zs H'=>ar (vw K H5) (vw K H')/\zs.length<=k) (fun k zs H' _ _ w=>aE (w.1 _ _ hxs)) h6 ⟨S6,Nat.le_refl 0⟩ (fun k x zs H' hk hx h' w=>?_) (fun zs H7 h7 w=>?_)
       ·obtain⟨w1,w2⟩:=w
        have hk':k<ms'.length:=by walk_at"o"
        obtain⟨x',ex,rx'⟩:=rxs.at (i:=k) (d:=fr ms'[k]) (by rw[List.getElem?_map,List.getElem?_eq_getElem hk'];rfl)
        rw[hx] at ex
        cases ex
        have bm:=(mk5.1 _ (List.getElem_mem hk')).2
        walk_at"vc"
        simp only[iY]
        refine⟨_,_,ms'[k],r,rfl,aM.same w1 _ _ rx',aM.same w1 _ _ ry,bm.mono (by decide),br1.mono (by decide),_,rfl,cO (fun _=>.mk h' ?_ fun H8 B8 h8=>⟨fun b o e=>B8 _ _ (ai e ha6) (w1 _ _ e),by simp;walk_at"o"⟩) (fun _=>.mk h' ⟨w1,by walk_at"o"⟩)⟩
        have:1000<=sizeLine:=by decide
        walk_at"o"
       ·obtain⟨w1,w2⟩:=w
        refine⟨zs.length,by simp only[gT,h7],?_⟩
        simp only[AN]
        refine⟨d,_,_,rfl,rfl,xs,w1 _ _ hxs,?_,by walk_at"o",by rw[Int.toNat_natCast];walk_at"o",fun H8 B8 h8=>?_⟩
        ·have:1000<=sizeLine:=by decide
         walk_at"o"
        rw[Int.toNat_natCast] at h8
        have hx7:=w1 _ _ hxs
        refine (hPw _ _ _).mpr ⟨_,ms'.take zs.length ++ r :: ms'.drop zs.length,rfl,fun b o e=>B8 _ _ (ndp e) (w1 _ _ (S5 _ _ e)),B8 _ _ nsd (w1 _ _ hs5),aA.flat_but hx7 B8 _ _ (gZ _) (rs5.same w1),⟨_,h8,?_⟩,by rw[et,<- List.append_assoc];exact mk5.ins fr1 br1 nr _,by rw[List.length_append,List.length_cons,List.length_take,List.length_drop];walk_at"o"⟩
        have r8:=aA.flat_but hx7 B8 _ _ (gZ _) (rxs.same w1)
        have y8:=aM.flat_but hx7 B8 _ _ (fW _) (aM.same w1 _ _ ry)
        unfold Eg
        rw[List.map_append,List.map_cons,List.map_take,List.map_drop]
        exact (r8.take _).app (.mk_cons y8 (r8.drop _))
      ·have yr:r ∈ ms':=by simpa using z
       exact (hPw _ _ _).mpr ⟨_,ms',rfl,S5,hs5,rs5,ld5,by rw[et,<- List.append_assoc];exact mk5.has yr,by walk_at"o"⟩
     ·obtain⟨o6',ms',rfl,S5,hs5,rs5,ld5,mk5,lm5⟩:=(hPw _ _ _).mp pw
      rw[List.take_of_length_le (l:=rs) (by walk_at"o"),ers,<- emk] at mk5
      exact (hPv _ _ _).mpr ⟨_,_,_,_,_,ms',rfl,S5,ld5,mk5,by walk_at"o"⟩
    walk_at"vc"
    refine⟨rfl,cO (fun z=>?_) (fun z=>key sa H3 rs S3 ls nsa (ers fun y=>z (kroot.mpr y)) brs (by walk_at"o"))⟩
    have k1:=kroot.mp z
    have hna3:=S3 _ _ hna
    refine⟨_,hna3,_,fO,_,rfl,_,hna3,_,iT,by decide,fun p5 H5 hp5 S5 h5=>⟨by decide,fun l6 H6 hl6 S6 h6=>key l6 H6 [(0 - nb.1,nb.2),nb] (S3.trans (S5.trans S6)) ⟨_,h6,.mk_cons (aT (S6 _ _ h5)) (.mk_cons (aT ((S5.trans S6) _ _ hna3)) .mk_nil)⟩ ((S3.trans S5).none hl6) ?_ (fun q hq=>?_) (by simp)⟩⟩
    ·rw[k1]
     show [wv (0 - nb.1,nb.2),wv nb]=[-wv nb,wv nb]
     rw[oU]
    ·simp only[List.mem_cons,List.not_mem_nil,or_false] at hq
     rcases hq with rfl|rfl
     ·exact⟨⟨fn.1,by have:=fn.2;rw[Int.zero_sub,Int.neg_gcd];exact this⟩,⟨by have z:Bt 100 nb.1:=bn'.1;exact Bt.mono (m:=100) (by unfold Bt at z ⊢;show (0 - nb.1).natAbs<_;walk_at"o") (by decide),bn'.2.mono (by decide)⟩⟩
     ·exact⟨fn,bn'.mono (by decide)⟩
   walk_at"vc"
   refine⟨rfl,cO (fun z=>?_) (fun z=>⟨by decide,fun l3 H3 hl3 S3 h3=>k1 l3 H3 [] S3 ⟨_,h3,.mk_nil⟩ hl3 (fun n1=>?_) (by simp) (by simp)⟩)⟩
   ·have k0:=kline.mp z
    simp only[gY]
    refine⟨_,nb,rfl,ru2,fn,bn',fun v3 H3 r S3 r3 f3 b3 w3=>⟨by decide,fun l4 H4 hl4 S4 h4=>k1 l4 H4 [r] (S3.trans S4) ⟨_,h4,.mk_cons (aM.same S4 _ _ r3) .mk_nil⟩ (S3.none hl4) (fun _=>?_) (by simpa using ⟨f3,b3⟩) (by simp)⟩⟩
    rw[k0]
    show [wv r]=[cY (wv nb)]
    rw[w3]
   ·have k2:kd=2:=by
     have:kd ≠ 0:=fun y=>z (kline.mpr y)
     walk_at"o"
    rw[k2]
    rfl
  ·obtain⟨o2,o3,o4,o5,o6,ms,rfl,S2,ld,mk,lm⟩:=(hPv _ _ _).mp pv
   have e1:its.take ts.length=its:=List.take_of_length_le (by rw[rts.length,List.length_map];walk_at"o")
   rw[e1] at mk
   refine hN2 _ _ ?_
   walk_at"vc"
   exact h d H2 ms S2 hd ld mk.1 mk.2.1 mk.2.2 (by have:=rts.length;rw[List.length_map] at this;walk_at"o")
theorem si{p q:Int × Int}(hp:Fq p)(hq:Fq q):yE p q=decide (wv p<wv q):=by
 unfold yE
 refine decide_eq_decide.mpr ?_
 have p2:(0:Rat)<((p.2:Int):Rat):=Rat.intCast_pos.mpr hp.1
 have q2:(0:Rat)<((q.2:Int):Rat):=Rat.intCast_pos.mpr hq.1
 rw[<- Rat.intCast_lt_intCast,Rat.intCast_mul,Rat.intCast_mul]
 unfold wv
 rw[Rat.div_lt_iff p2]
 have:(q.1:Rat) / (q.2:Rat)*(p.2:Rat)=((q.1:Rat)*(p.2:Rat)) / (q.2:Rat):=by grind
 rw[this,Rat.lt_div_iff q2]
def ju(K:W.Frag):Sp:=fun vs H Q _=>∃ (d:Addr)(x y:V)(ms:List (Int × Int))(lo hi:Option (Int × Int)),vs=[.ref d,x,y]/\cG (vw K H) d ms/\(∀ q ∈ ms,Fq q/\Bq 300 q)/\ms.length<=8/\dP (vw K H) x lo/\dP (vw K H) y hi /\
 ∀ (e:Addr) H' (zs:List V),ar (vw K H) (vw K H')->vw K H' e=some (.lst zs)->zs.length=((ms.map wv).filter (jI (lo.map wv) (hi.map wv))).length->Q (.ref e) H'
theorem vL(F:eE K "_law_inside" "_law_inside" gi f fd) (T:ge K mg)(zCless:bU P w K mg base "_law_less" ["_law_one", "_law_other"] 1 (iY K)) (zCsigned:bU P w K mg base "_law_signed" ["_law_x"] 4 (gY K)):bB P w K mg base dZ 5 f fd ["_law_marks_here", "_law_low_here", "_law_high"] (ju K):=by
 have scN:=qC.nd
 refine F.okQ qC (fun vs H Q E h=>?_) (fun cdv A outer s H vs Q E hr h=>?_)
 ·obtain⟨_,_,_,_,_,_,rfl,_⟩:=h
  rfl
 ·obtain⟨d,x,y,ms,lo,hi,rfl,hd,fm,lm,hx,hy,h⟩:=h
  refine⟨_,(af (ao (i:=3) scN rfl (by walk_at"a1") (aK ac))
   (af (cL PassesOwn.never rfl (bz (qv 0)) (ak (i:=4) scN rfl (by walk_at"a1")) (af (ao (i:=5) scN rfl (by walk_at"a1") (Em (i8 oI (qv 1) dY (aJ _)) (CP (aj zCless (hr.mono (by walk_at"a2")) rfl (aa (aj zCsigned (hr.mono (by walk_at"a2")) rfl (aa (qv 1) ac)) (aa (qv 4) ac))))))
   (ah (cW (QW.pt (gF (cX (qv 5) (fun _=>rfl)) (gE (QW.pt (Bj (aF oI (qv 2) dY (aJ _)) (yk (jx (jB (aj zCless (hr.mono (by walk_at"a2")) rfl (aa (aj zCsigned (hr.mono (by walk_at"a2")) rfl (aa (qv 2) ac)) (aa (qv 4) ac))))))))))) (ah (gK (nF PySem.F.plainAttrs_list PySem.F.slot_list_append PySem.F.type_list_append fK (qv 3) (aa (qv 4) ac)))) bj))))
   (ah (aB (qv 3))))),?_⟩
  walk_at"m"
  skip
  obtain⟨xs,hxs,rxs⟩:=id hd
  have lxs:xs.length=ms.length:=by rw[rxs.length,List.length_map]
  refine aQ.gen fun N1 hN1=>?_
  walk_at"vc"
  refine⟨by decide,fun e H1 he S1 h1=>hN1 _ _ ?_⟩
  refine aQ.gen fun N2 hN2=>?_
  walk_at"vc"
  obtain⟨Pv,hPv⟩ : ∃ Pv:Nat->St->Hp->Prop,∀ i σ H',Pv i σ H' ↔ ∃ (o4 o5:Option V)(zs:List V),σ=[some (.ref d),some x,some y,some (.ref e),o4,o5]/\ar (vw K H) (vw K H')/\vw K H' e=some (.lst zs)/\zs.length=(((ms.take i).map wv).filter (jI (lo.map wv) (hi.map wv))).length:=⟨_,fun _ _ _=>Iff.rfl⟩
  refine⟨⟨_,.of (aC (S1 _ _ hxs))⟩,aO (its:=xs) Pv (fun i σ H' _ z=>?_) ((hPv _ _ _).mpr ⟨_,_,[],rfl,S1,h1,rfl⟩) (fun i v σ H2 hi' hv pv=>?_) (fun σ H2 pv=>?_)⟩
  ·obtain⟨_,_,_,_,S',_⟩:=(hPv _ _ _).mp z
   exact aE (S' _ _ hxs)
  ·obtain⟨o4,o5,zs,rfl,S2,h2,lz⟩:=(hPv _ _ _).mp pv
   have him:i<ms.length:=by walk_at"o"
   obtain⟨m,hm⟩ : ∃ m,ms[i]? = some m:=⟨_,List.getElem?_eq_getElem him⟩
   obtain⟨v',ev,rv⟩:=rxs.at (i:=i) (d:=fr m) (by rw[List.getElem?_map,hm];rfl)
   rw[hv] at ev
   cases ev
   obtain⟨fm1,bm1⟩:=fm m (List.mem_of_getElem? hm)
   have et:(((ms.take (i+1)).map wv).filter (jI (lo.map wv) (hi.map wv))).length=(((ms.take i).map wv).filter (jI (lo.map wv) (hi.map wv))).length+(if jI (lo.map wv) (hi.map wv) (wv m)=true then 1 else 0):=by
    rw[List.take_add_one,hm]
    show (((ms.take i ++ [m]).map wv).filter _).length=_
    rw[List.map_append,List.filter_append,List.length_append]
    congr 1
    show ([wv m].filter _).length=_
    by_cases z:jI (lo.map wv) (hi.map wv) (wv m)=true
    ·rw[List.filter_cons_of_pos z,if_pos z];rfl
    ·rw[List.filter_cons_of_neg z,if_neg z];rfl
   have ne:∀ {b:Addr}{o:HO},vw K H b=some o->b ≠ e:=fun z=>ai z he
   refine aQ.gen fun M1 hM1=>?_
   obtain⟨lb,hlb⟩ : ∃ b,b=(match lo.map wv with|none=>true|some a=>decide (cY a<wv m)):=⟨_,rfl⟩
   obtain⟨hb,hhb⟩ : ∃ b,b=(match hi.map wv with|none=>true|some a=>!decide (cY a<wv m)):=⟨_,rfl⟩
   have ein:jI (lo.map wv) (hi.map wv) (wv m)=(lb && hb):=by rw[hlb,hhb];rfl
   rw[ein] at et
   have k1:∀ H3,ar (vw K H2) (vw K H3)->M1 [some (.ref d),some x,some y,some (.ref e),some v,some (.bl lb)] H3:=fun H3 S3=>hM1 _ _ ?_
   ·walk_at"vc"
    cases lo with
    | none =>
     rw[show (true:Bool)=lb from hlb.symm]
     exact oA hx (k1 H2 .rfl)
    | some q =>
     obtain⟨rx,fx,bx⟩:=id (hx.same S2)
     obtain⟨kx,rfl,hkx⟩:=id rx.fr_at
     refine j9 (by simp) ⟨_,q,rfl,rx,fx,bx,fun v3 H3 r S3 r3 f3 b3 w3=>⟨_,_,r,m,rfl,r3,aM.same (S2.trans S3) _ _ rv,b3.mono (by decide),bm1.mono (by decide),?_⟩⟩
     have:yE r m=lb:=by rw[hlb,si f3 fm1,w3];rfl
     rw[this]
     exact k1 H3 S3
   clear hM1
   have S03:=S2.trans S3
   have no:∀ H4,ar (vw K H3) (vw K H4)->(lb && hb)=false->Pv (i+1) [some (.ref d),some x,some y,some (.ref e),some v,some (.bl lb)] H4:=fun H4 S4 z=>(hPv _ _ _).mpr ⟨_,_,zs,rfl,S03.trans S4,S4 _ _ (S3 _ _ h2),by rw[et,if_neg (by rw[z];decide),lz];rfl⟩
   have yes:∀ H4,ar (vw K H3) (vw K H4)->(lb && hb)=true->DI K "list" (V.ref e) H4 /\ ∃ xs,vw K H4 e=some (.lst xs)/\xs.length<sizeLine/\yF K H4 e (.lst (xs ++ [v])) fun H1=>Pv (i+1) [some (.ref d),some x,some y,some (.ref e),some v,some (.bl lb)] H1:=fun H4 S4 z=>by
    have h4:=S4 _ _ (S3 _ _ h2)
    refine⟨jM h4,zs,h4,?_,fun H5 B5 h5=>(hPv _ _ _).mpr ⟨_,_,zs ++ [v],rfl,fun b o w=>B5 _ _ (ne w) ((S03.trans S4) _ _ w),h5,by rw[et,if_pos z,List.length_append,lz];rfl⟩⟩
    have q1:(((ms.take i).map wv).filter (jI (lo.map wv) (hi.map wv))).length<=((ms.take i).map wv).length:=List.length_filter_le _ _
    rw[List.length_map,List.length_take] at q1
    have:1000<=sizeLine:=by decide
    walk_at"o"
   walk_at"vc"
   refine cO (fun z=>?_) (fun z=>no H3 .rfl (by rw[Bool.eq_false_iff.mpr z,Bool.false_and]))
   cases hi with
   | none=>exact oA hy (yes H3 .rfl (by rw[z,hhb];rfl))
   | some q =>
    obtain⟨ry,fy,by'⟩:=id (hy.same S03)
    obtain⟨ky,rfl,hky⟩:=id ry.fr_at
    refine j9 (by simp) ⟨_,q,rfl,ry,fy,by',fun v4 H4 r S4 r4 f4 b4 w4=>⟨_,_,r,m,rfl,r4,aM.same (S03.trans S4) _ _ rv,b4.mono (by decide),bm1.mono (by decide),_,rfl,?_⟩⟩
    have e2:hb = !yE r m:=by rw[hhb,si f4 fm1,w4];rfl
    exact cO (fun w=>yes H4 S4 (by rw[z,e2,w];rfl)) (fun w=>no H4 S4 (by rw[e2,show yE r m=true by simpa using w,z];rfl))
  ·obtain⟨o4,o5,zs,rfl,S2,h2,lz⟩:=(hPv _ _ _).mp pv
   rw[lxs,List.take_length] at lz
   refine hN2 _ _ ?_
   walk_at"vc"
   exact h e H2 zs S2 h2 lz
def oi(K:W.Frag):Sp:=fun vs H Q _=>∃ (st p t:Addr)(v:V)(its:List ow),vs=[.ref st,.ref p]/\ee (vw K H) st/\vw K H p=some (.tup [.ref t,v])/\fZ (vw K H) t (its.map qQ)/\(∀ c ∈ its,rp c/\c.2.2.2<=100)/\its.length<=4 /\
 ∀ x H' (o:Option (Int × Int)),dS st (vw K H) (vw K H')->ee (vw K H') st->dP (vw K H') x o->Q x H'
theorem Cz(F:eE K "_law_ends" "_law_ends" jN f fd) (T:ge K mg)(zCsmall:bU P w K mg base "_law_small" ["_law_state_here"] 3 (gD K)) (zCtake:bU P w K mg base "_law_take" ["_law_state_here", "_law_many"] 1 (ig K)):bB P w K mg base dZ 4 f fd ["_law_state_here", "_law_factors_here"] (oi K):=by
 have scN:=xK.nd
 refine F.okQ xK (fun vs H Q E h=>?_) (fun cdv A outer s H vs Q E hr h=>?_)
 ·obtain⟨_,_,_,_,_,rfl,_⟩:=h
  rfl
 ·obtain⟨st,p,t,v,its,rfl,hst,hp,ht,ok,ln,h⟩:=h
  refine⟨_,(af (ao (i:=2) scN rfl (by walk_at"a1") (ap bJ (aK (aa (aj zCsmall (hr.mono (by walk_at"a2")) rfl (aa (qv 0) ac)) (aa dY (aa (aD (aa ae (aa ae ac))) (aa (aD (aa ae (aa ae ac))) (aa (aD (aa (fS dM ae) (aa ae ac))) ac)))))) (dI (own:=["_law_one"]) (outs:=[]) (ixs:=[]) rfl (bz (ay cy (qv 1) ae (fun _ _=>rfl))) rfl ⟨rfl,rfl,rfl,trivial,rfl,trivial⟩ (fun _ _ _ _=>⟨(ak (i:=0) (show (["_law_one"]:List Str).Nodup by decide +kernel) rfl (by walk_at"a1")),(rP (aF hZ (ay (show qN _ (sw K) from cy) (qv 0) ae (fun _ _=>rfl)) dJ (aJ _))),(ay (show qN _ (sw K) from cy) (qv 0) ae (fun _ _=>rfl))⟩))))
   (ah (aB (ay dX (qv 2) (aj zCtake (hr.mono (by walk_at"a2")) rfl (aa (qv 0) (aa (au aN (by rfl) T.b_len ck (aa (qv 2) ac)) ac))) (fun _ _=>rfl))))),?_⟩
  walk_at"m"
  skip
  refine aQ.gen fun N1 hN1=>?_
  walk_at"vc"
  simp only[gD]
  refine⟨st,rfl,hst,fun v3 H3 q3 B3 st3 r3 f3 b31 b32 x3=>⟨by decide,fun p4 H4 hp4 S4 h4=>⟨by decide,fun p5 H5 hp5 S5 h5=>⟨by decide,fun p6 H6 hp6 S6 h6=>⟨by decide,fun l7 H7 hl7 S7 h7=>?_⟩⟩⟩⟩⟩
  have S67:=S7
  have S57:=S6.trans S7
  have S47:=S5.trans S57
  have S37:=S4.trans S47
  have st7:=st3.same S37
  obtain⟨_,_,est,_⟩:=id hst
  have np:p ≠ st:=fun z=>by
   rw[z,est] at hp
   cases hp
  have hp7:=S37 _ _ (B3 _ _ np hp)
  have ht7:=(ht.stBut (cQ its) (jZ its) hst B3).same S37
  obtain⟨ts,hts,rts⟩:=id ht7
  have lts:ts.length=its.length:=by rw[rts.length,List.length_map]
  have five:∀ z ∈ [v3,.non,.ref p4,.ref p5,.ref p6],∃ o,dP (vw K H7) z o:=fun z hz=>by
   simp only[List.mem_cons,List.not_mem_nil,or_false] at hz
   rcases hz with rfl|rfl|rfl|rfl|rfl
   ·exact⟨some q3,aM.same S37 _ _ r3,f3,b31.mono (by decide),b32.mono (by decide)⟩
   ·exact⟨none,rfl⟩
   ·exact⟨some (0,1),aT (S47 _ _ h4),wj,⟨by decide,by decide⟩⟩
   ·exact⟨some (7,1),aT (S57 _ _ h5),⟨by decide,by decide⟩,⟨by decide,by decide⟩⟩
   ·exact⟨some (-13,2),aT (S67 _ _ h6),⟨by decide,by decide⟩,⟨by decide,by decide⟩⟩
  have obut:∀ {G G':Hp}{a:Addr}{o':HO}{z:V}{o:Option (Int × Int)},G a=some o'->(∀ xs,o' ≠ .tup xs)->dS a G G'->dP G z o->dP G' z o:=fun {G G' a o' z o} e n B w=>by
   cases o with
   | none=>exact w
   | some q =>
    obtain⟨w1,w2⟩:=w
    obtain⟨k,rfl,hk⟩:=w1.fr_at
    exact⟨aT (B _ _ (fun y=>by rw[y,e] at hk;cases hk;exact n _ rfl) hk),w2⟩
  refine⟨_,hp7,_,fO,t,rfl,⟨_,.of (aC hts)⟩,fun a8 H8 ha8 S8 h8=>?_⟩
  refine aX (its:=ts) (fun j zs H'=>ar (vw K H7) (vw K H')/\zs.length<=j /\ ∀ z ∈ zs,∃ o,dP (vw K H') z o) (fun j zs H' _ _ w=>aE (w.1 _ _ hts)) h8 ⟨S8,Nat.le_refl 0,by simp⟩ (fun j x zs H' hj hx h' w=>?_) (fun zs H9 h9 w=>?_)
  ·obtain⟨w1,w2,w3⟩:=w
   have hj':j<its.length:=by walk_at"o"
   obtain⟨c,hc⟩ : ∃ c,its[j]? = some c:=⟨_,List.getElem?_eq_getElem hj'⟩
   obtain⟨x',ex,rx⟩:=rts.at (i:=j) (d:=qQ c) (by rw[List.getElem?_map,hc];rfl)
   rw[hx] at ex
   cases ex
   obtain⟨⟨hk,fn,bn,hns,_⟩,b100⟩:=ok _ (List.mem_of_getElem? hc)
   obtain⟨kd,nb,mn,b⟩:=c
   obtain⟨xa,us,rfl,hxa,rus⟩:=aM.tup_at (aM.same w1 _ _ rx)
   obtain⟨u1,us1,rfl,ru1,rus1⟩:=rus.cons_at
   obtain⟨u2,us2,rfl,ru2,rus2⟩:=rus1.cons_at
   have:u1 = .str (kS kd):=by
    unfold aM at ru1
    exact ru1
   subst this
   walk_at"vc"
   refine⟨_,hxa,_,fO,rfl,cO (fun _=>⟨_,hxa,_,iT,.mk h' ?_ fun H10 B10 h10=>⟨fun y o e=>B10 _ _ (ai e ha8) (w1 _ _ e),by simp;walk_at"o",fun z hz=>?_⟩⟩) (fun _=>.mk h' ⟨w1,by walk_at"o",w3⟩)⟩
   ·have:1000<=sizeLine:=by decide
    walk_at"o"
   ·rcases List.mem_append.mp hz with y|y
    ·obtain⟨o,ho⟩:=w3 z y
     exact⟨o,obut h' (by simp) B10 ho⟩
    ·rw[List.mem_singleton.mp y]
     exact⟨some nb,obut h' (by simp) B10 ⟨ru2,fn,bn.mono b100⟩⟩
  ·obtain⟨w1,w2,w3⟩:=w
   rw[iq]
   have h79:=w1 _ _ h7
   refine⟨_,h79,_,h9,?_,fun l10 H10 hl10 S10 h10=>hN1 _ _ ?_⟩
   ·have:1000<=sizeLine:=by decide
    simp
    walk_at"o"
   have S710:=w1.trans S10
   have st10:=st7.same S710
   have al:∀ z ∈ [v3,.non,.ref p4,.ref p5,.ref p6] ++ zs,∃ o,dP (vw K H10) z o:=fun z hz=>by
    rcases List.mem_append.mp hz with y|y
    ·obtain⟨o,ho⟩:=five z y
     exact⟨o,ho.same S710⟩
    ·obtain⟨o,ho⟩:=w3 z y
     exact⟨o,ho.same S10⟩
   walk_at"vc"
   obtain⟨us,hus⟩ : ∃ us,us=[v3,.non,.ref p4,.ref p5,.ref p6] ++ zs:=⟨_,rfl⟩
   rw[<- hus] at h10 al
   have lus:0<us.length:=by rw[hus];simp
   have lus2:us.length<=9:=by rw[hus];simp;walk_at"o"
   refine⟨us.length,by simp only[gT,h10],?_⟩
   simp only[ig]
   refine⟨st,_,rfl,st10,by walk_at"o",by walk_at"o",fun r H11 r0 r1 B11 st11=>?_⟩
   have nl:l10 ≠ st:=(st7.same w1).ne hl10
   obtain⟨x,hx,hm⟩:=tW (xs:=us) r0 (by walk_at"o")
   obtain⟨o,ho⟩:=al x hm
   refine⟨r,rfl,_,B11 _ _ nl h10,x,hx,h x H11 o (B3.trans ((dS.of (S37.trans S710)).trans B11)) st11 ?_⟩
   obtain⟨_,_,e10,_⟩:=id st10
   exact obut e10 (by simp) B11 ho
theorem oN{G G':Hp}{Pt st:Addr}{qual:Str}(h:cp G Pt qual)(hst:ee G st)(B:dS st G G'):cp G' Pt qual:=by
 obtain⟨x,b,e,z⟩:=hst
 exact h.butL e B
theorem i6{G G':Hp}{a:Addr}{us:List V}{z:V}{o:Option (Int × Int)}(e:G a=some (.lst us))(B:dS a G G')(w:dP G z o):dP G' z o:=by
 cases o with
 | none=>exact w
 | some q =>
  obtain⟨w1,w2⟩:=w
  obtain⟨k,rfl,hk⟩:=w1.fr_at
  exact⟨aT (B _ _ (fun y=>by rw[y,e] at hk;cases hk) hk),w2⟩
def AU(G:Hp)(z:V):Prop:=∃(k:Addr)(x y:V)(lo hi:Option (Int × Int)),z = .ref k/\G k=some (.tup [x,y])/\dP G x lo/\dP G y hi
theorem AU.same{G G':Hp}{z:V}(h:AU G z)(S:ar G G'):AU G' z:=by
 obtain⟨k,x,y,lo,hi,e,a,b,c⟩:=h
 exact⟨k,x,y,lo,hi,e,S _ _ a,b.same S,c.same S⟩
theorem AU.but{G G':Hp}{a:Addr}{us:List V}{z:V}(h:AU G z)(e:G a=some (.lst us))(B:dS a G G'):AU G' z:=by
 obtain⟨k,x,y,lo,hi,e1,e2,b,c⟩:=h
 exact⟨k,x,y,lo,hi,e1,B _ _ (fun w=>by rw[w,e] at e2;cases e2) e2,i6 e B b,i6 e B c⟩
def spLaw(K:W.Frag):Sp:=fun vs H Q _=>∃ (a:Addr)(ns:List Int),vs=[.ref a]/\iQ K H a (ns.map V.int)/\ns.length<=63/\cp (vw K H) 379 (vx "law") /\ ∀ H',Q (.bl true) H'
theorem Cy{c CF:Addr}(F:eE K "law" "law" fJ f fd) (T:ge K mg)(M_:Fu K mg base fd c 379)(R_:tY P w K mg base 8)(Z_:uM K mg CF 1)
  (zCstate:bU P w K mg base "_law_state" ["_law_script", "_law_k"] 2 (km K)) (zCfactors:bU P w K mg base "_law_factors" ["_law_state_here", "_law_most"] 4 (ir K)) (zCof_factors:bU P w K mg base "_law_of_factors" ["_law_factors_here"] 5 (fj K)) (zCmarks:bU P w K mg base "_law_marks" ["_law_factors_here"] 5 (ko K)) (zCends:bU P w K mg base "_law_ends" ["_law_state_here", "_law_factors_here"] 4 (oi K)) (zCinside:bU P w K mg base "_law_inside" ["_law_marks_here", "_law_low_here", "_law_high"] 5 (ju K)) (zCless:bU P w K mg base "_law_less" ["_law_one", "_law_other"] 1 (iY K)) (C_how_many:bU P w K mg base "how_many" ["f", "low", "high"] 6 (fT K)) (CX_how_many:wm P w K mg base "how_many" ["f", "low", "high"] 6 (dQ CF K)):bB P w K mg base dZ 10 f fd ["_law_script"] (spLaw K):=by
 have scN:=v9.nd
 refine F.okM v9 (fun vs H Q E h=>?_) (fun cdv A outer s H vs Q E hcode hr h=>?_)
 ·obtain⟨a,_,rfl,_⟩:=h
  rfl
 ·obtain⟨a,ns,rfl,hS,hl,hT1,h⟩:=h
  refine⟨_,(zg (cL PassesOwn.never rfl (cT rfl T.b_range (aa (au (m7 rfl) (by rfl) T.b_max vU (aa ae (aa (au (ni rfl) (by rfl) T.b_min xj (aa (au gG (by rfl) T.b_len ck (aa (qv 0) ac)) (aa ae ac))) ac))) ac)) (ak (i:=1) scN rfl (by walk_at"a1")) (af (ao (i:=2) scN rfl (by walk_at"a1") (aj zCstate (hr.mono (by walk_at"a2")) rfl (aa (qv 0) (aa (qv 1) ac))))
   (af (ao (i:=3) scN rfl (by walk_at"a1") (aj zCfactors (hr.mono (by walk_at"a2")) rfl (aa (qv 2) (aa ae ac))))
   (af (ao (i:=4) scN rfl (by walk_at"a1") (aj zCof_factors (hr.mono (by walk_at"a2")) rfl (aa (qv 3) ac)))
   (af (ao (i:=5) scN rfl (by walk_at"a1") (aj zCmarks (hr.mono (by walk_at"a2")) rfl (aa (qv 3) ac)))
   (af (kB (i:=6) (own:=["_law_turn"]) (outs:=["_law_state_here", "_law_factors_here"]) (ixs:=[2,3]) scN rfl (by walk_at"a1") rfl (cT rfl T.b_range (aa ae ac)) rfl ⟨rfl,rfl,rfl,⟨rfl,⟨rfl,trivial⟩⟩,rfl,⟨⟨rfl,rfl,rfl,_,rfl⟩,⟨⟨rfl,rfl,rfl,_,rfl⟩,trivial⟩⟩⟩ (fun _ _ _ _=>⟨(ak (i:=0) (show (["_law_turn", "_law_state_here", "_law_factors_here"]:List Str).Nodup by decide +kernel) rfl (by walk_at"a1")),eY,(show QE _ _ (mV K _) from aD (aa (aj zCends (hr.mono (by walk_at"a2")) rfl (aa (qv 1) (aa (qv 2) ac))) (aa (aj zCends (hr.mono (by walk_at"a2")) rfl (aa (qv 1) (aa (qv 2) ac))) ac)))⟩))
   (af (cL PassesOwn.never rfl (bz (ap bJ (qv 6) (aK (aa (aD (aa dY (aa dY ac))) ac)))) (eJ (n:=2) rfl (aI (ak (i:=7) scN rfl (by walk_at"a1")) (aI (ak (i:=8) scN rfl (by walk_at"a1")) eH))) (af (ao (i:=9) scN rfl (by walk_at"a1") (au aN (by rfl) T.b_len ck (aa (aj zCinside (hr.mono (by walk_at"a2")) rfl (aa (qv 5) (aa (qv 7) (aa (qv 8) ac)))) ac)))
   (af (cW (QW.pt (gF (aF kA (qv 7) dY (aJ _)) (gF (aF kA (qv 8) dY (aJ _)) (gE (jx (jB (aj zCless (hr.mono (by walk_at"a2")) rfl (aa (qv 7) (aa (qv 8) ac))))))))) (ah (ao (i:=9) scN rfl (by walk_at"a1") ae)) bj)
   (af (ao (i:=10) scN rfl (by walk_at"a1") (aj C_how_many (hr.mono (by walk_at"a2")) rfl (aa (qv 4) (aa (qv 7) (aa (qv 8) ac)))))
   (ah (cW (QW.pt (Bj (jB (au pN (by rfl) T.b_isinstance aR (aa (qv 10) (aa (tJ (v:=V.ty "bool") rfl T.b_bool yM rfl) ac)))) (yk (aF qw (qv 10) (qv 9) (aJ _))))) (ah (aB qj)) bj))))))
   (af (gz (ay dX (qv 6) ae (fun _ _=>rfl)) (eJ (n:=2) rfl (aI (ak (i:=7) scN rfl (by walk_at"a1")) (aI (ak (i:=8) scN rfl (by walk_at"a1")) eH))))
   (ah (cW (aF (Cu hr.u64) (sT (Nl:=["_law_low_here", "_law_high"]) (ixs:=[7,8]) (kl:=7) R_ (qp hcode M_) (hr.mono (by walk_at"a2")) rfl Z_ (by decide) (fun _=>rfl) rfl (sN (sc:=ag fJ) rfl (by decide +kernel)) rfl (mQ (by decide +kernel)) ⟨rfl,rfl⟩ (fun _ _ _ _=>rfl) rfl (fun j x hx=>by rcases j with _|_|j <;> first|(cases hx;exact⟨rfl,_,rfl,rfl⟩)|cases hx) (fun _ _ _ _ _ _ _ hrl=>rG CX_how_many (hrl.mono (by decide)) rfl (fun _=>(aa (show QE _ _ (pP K _) from aK ac) (aa (qv 0) (aa (qv 1) ac)))))) (aK (aa ae ac)) (aJ _)) (ah (aB qj)) bj))))))))))
   (ah (aB (i8 (rX hr.u64) (sT (Nl:=[]) (ixs:=[]) (kl:=7) R_ (qp hcode M_) (hr.mono (by walk_at"a2")) rfl Z_ (by decide) (fun _=>rfl) rfl (sN (sc:=ag fJ) rfl (by decide +kernel)) rfl (mQ (by decide +kernel)) ⟨rfl,rfl⟩ (fun _ _ _ _=>rfl) rfl (fun j x hx=>by rcases j with j <;> first|(cases hx;exact⟨rfl,_,rfl,rfl⟩)|cases hx) (fun _ _ _ _ _ _ _ hrl=>rG CX_how_many (hrl.mono (by decide)) rfl (fun _=>(aa (show QE _ _ (pP K _) from aK ac) (aa (show QE _ _ (mV K _) from aD (aa ae (aa ae ac))) (aa (show QE _ _ (mV K _) from aD (aa ae (aa ae ac))) ac)))))) (aK (aa ae ac)) (aJ _))))),?_⟩
  walk_at"m"
  obtain⟨X1,hX1⟩ : ∃ X1,eN dZ P w K mg base ["_law_script", "_law_k", "_law_state_here", "_law_factors_here", "_law_f", "_law_marks_here", "_law_pairs", "_law_low_here", "_law_high", "_law_due", "_law_found"] "law" (ag fJ) f cdv A outer s H E=X1:=⟨_,rfl⟩
  have hq:i4 X1.nox=vx "law":=by rw[<- hX1];rfl
  skip
  refine xV.mk (fun σ H2=>∃ o1 o2 o3 o4 o5 o6 o7 o8 o9 o10,σ=[some (.ref a),o1,o2,o3,o4,o5,o6,o7,o8,o9,o10]/\cp (vw K H2) 379 (vx "law")) ?_ ?_
  ·walk_at"vc"
   refine⟨_,.inl hS.sq,?_⟩
   simp only[List.length_map]
   obtain⟨Pv,hPv⟩ : ∃ Pv:Nat->St->Hp->Prop,∀ k σ H',Pv k σ H' ↔ ∃ o1 o2 o3 o4 o5 o6 o7 o8 o9 o10,σ=[some (.ref a),o1,o2,o3,o4,o5,o6,o7,o8,o9,o10]/\nA (vw K H) (vw K H')/\cp (vw K H') 379 (vx "law"):=⟨_,fun _ _ _=>Iff.rfl⟩
   refine⟨by repeat' split <;> walk_at"o",by repeat' split <;> walk_at"o",aO (its:=gd 0 _) Pv (fun _ _ _ _ _=>bK) ((hPv _ _ _).mpr ⟨_,_,_,_,_,_,_,_,_,_,rfl,.rfl,hT1⟩) (fun i x σ H1 hi hx pv=>?_) (fun σ H1 pv=>?_)⟩
   ·obtain⟨o1,o2,o3,o4,o5,o6,o7,o8,o9,o10,rfl,s1,T1⟩:=(hPv _ _ _).mp pv
    obtain⟨hi',rfl⟩:=gH hx
    refine aQ.gen fun N1 hN1=>?_
    walk_at"vc"
    simp only[km]
    walk_at"vc"
    refine⟨⟨i,by simp⟩,⟨ns,hS.smT s1⟩,fun st H2 hst0 s2 st2=>hN1 _ _ ?_⟩
    refine aQ.gen fun N2 hN2=>?_
    walk_at"vc"
    simp only[ir]
    refine⟨st,rfl,st2,fun p4 t4 v4 H4 its q4 B4 st4 h4 l4 nt4 r4 f4 q40 bq4 ok4 dg4 cs4 ln4=>hN2 _ _ ?_⟩
    refine aQ.gen fun N3 hN3=>?_
    walk_at"vc"
    simp only[fj]
    refine⟨p4,t4,v4,its,q4,rfl,h4,l4,r4,f4,q40,bq4,ok4,dg4,cs4,ln4,fun d5 H5 fs S5 nd5 l5 f50 lf5 pf5 bf5 dl5 ev5=>hN3 _ _ ?_⟩
    have ok4':∀ c ∈ its,rp c/\c.2.2.2<=100:=fun c hc=>⟨ok4 c hc,(ok4 c hc).2.2.2.2.2⟩
    refine aQ.gen fun N4 hN4=>?_
    walk_at"vc"
    simp only[ko]
    refine⟨p4,t4,v4,its,rfl,S5 _ _ h4,l4.same S5,ok4',ln4,fun d6 H6 ms S6 nd6 l6 fm6 nd6' mk6 lm6=>hN4 _ _ ?_⟩
    have S46:=S5.trans S6
    have T6:cp (vw K H6) 379 (vx "law"):=(oN (T1.same s2) st2 B4).same S46
    have st6:=st4.same S46
    have s16:nA (vw K H1) (vw K H6):=nA.of ((s2.but_trans hst0 B4).trans S46)
    obtain⟨l,okl,unl,el,dgl,ml⟩:=pA (its.map qO) fun q hq=>by
     obtain⟨c,hc,rfl⟩:=List.mem_map.mp hq
     obtain⟨k1,_,_,k4,k5,_⟩:=ok4 c hc
     refine⟨?_,k5⟩
     show (fc c).ok
     unfold fc
     split
     ·trivial
     ·split
      ·exact wG (k4 (by assumption))
      ·exact (wG (k4 (by assumption))).1
    have mk7:∀ y,y ∈ ms.map wv ↔ y ∈ pj l:=fun y=>by
     rw[mk6 y]
     unfold pj
     rw[List.mem_flatMap,List.mem_flatMap]
     refine⟨fun ⟨q,hq,hy⟩=>?_,fun ⟨q,hq,hy⟩=>?_⟩
     ·obtain⟨m,hm⟩:=(ml q.1).mpr ⟨q.2,hq⟩
      exact⟨_,hm,hy⟩
     ·obtain⟨m,hm⟩:=(ml q.1).mp ⟨q.2,hq⟩
      exact⟨_,hm,hy⟩
    have dsm:eO (its.map qO)<=8:=by rw[kF];exact dg4
    refine aQ.gen fun N5 hN5=>?_
    walk_at"vc"
    refine⟨by decide,by decide,fun a7 H7 ha7 S7 h7=>?_⟩
    have st7:=st6.same S7
    have h46:=S46 _ _ h4
    have l46:=l4.same S46
    have np4:p4 ≠ st:=fun z=>by
     obtain⟨_,_,e,_⟩:=st6
     rw[z,e] at h46
     cases h46
    have n7:a7 ≠ st:=st6.ne ha7
    refine aX (its:=gd 0 4) (fun j zs H'=>dS st (vw K H6) (vw K H')/\ee (vw K H') st/\zs.length=j/\(∀ z ∈ zs,AU (vw K H') z)/\cp (vw K H') 379 (vx "law")) (fun _ _ _ _ _ _=>bK) h7 ⟨dS.of S7,st7,rfl,by simp,T6.same S7⟩ (fun j x zs H' hj hx h' w=>?_) (fun zs H8 h8 w=>?_)
    ·obtain⟨B',st',lz,pz,T'⟩:=w
     rw[cJ] at hj
     walk_at"vc"
     simp only[oi]
     refine⟨st,p4,t4,v4,its,rfl,st',B' _ _ np4 h46,l46.stBut (cQ its) (jZ its) st6 B',ok4',ln4,fun x8 H8 o8 B8 st8 op8=>⟨st,p4,t4,v4,its,rfl,st8,B8 _ _ np4 (B' _ _ np4 h46),l46.stBut (cQ its) (jZ its) st6 (B'.trans B8),ok4',ln4,fun x9 H9 o9 B9 st9 op9=>⟨by decide,fun p10 H10 hp10 S10 h10=>?_⟩⟩⟩
     obtain⟨_,_,e',_⟩:=id st'
     obtain⟨_,_,e8,_⟩:=id st8
     have h'':=S10 _ _ (B9 _ _ n7 (B8 _ _ n7 h'))
     refine .mk h'' ?_ fun H11 B11 h11=>⟨fun b o nb e=>B11 _ _ (ai e ha7) (S10 _ _ (B9 _ _ nb (B8 _ _ nb (B' _ _ nb e)))),(st9.same S10).but h'' n7.symm B11,by simp[lz],fun z hz=>?_,(((oN (oN T' st' B8) st8 B9).same S10).butL h'' B11)⟩
     ·have:1000<=sizeLine:=by decide
      walk_at"o"
     ·rcases List.mem_append.mp hz with y|y
      ·exact (((((pz z y).but e' B8).but e8 B9).same S10).but h'' B11)
      ·rw[List.mem_singleton.mp y]
       exact⟨p10,x8,x9,o8,o9,rfl,B11 _ _ (fun w=>by rw[w,h''] at h10;cases h10) h10,i6 h'' B11 ((i6 e8 B9 op8).same S10),i6 h'' B11 (op9.same S10)⟩
    obtain⟨B8,st8,lz,pz,T8⟩:=w
    rw[cJ] at lz
    refine hN5 _ _ ?_
    have s18:nA (vw K H1) (vw K H8):=nA.of fun b o e=>B8 _ _ (ai e hst0) ((s2.but_trans hst0 B4).trans S46 _ _ e)
    have l58:=(l5.same S6).stBut st6 B8
    have l68:=l6.stBut st6 B8
    refine aQ.gen fun N6 hN6=>?_
    walk_at"vc"
    refine⟨by decide,fun p9 H9 hp9 S9 h9=>⟨by decide,fun l10 H10 hl10 S10 h10=>?_⟩⟩
    show ja K (V.ref a7) (V.ref l10) H10 _
    rw[iq]
    have S810:=S9.trans S10
    refine⟨_,S810 _ _ h8,_,h10,?_,fun l11 H11 hl11 S11 h11=>⟨l11,rfl,⟨_,.of (aC h11)⟩,?_⟩⟩
    ·have:1000<=sizeLine:=by decide
     simp
     walk_at"o"
    have S811:=S810.trans S11
    have al:∀ z ∈ zs ++ [.ref p9],AU (vw K H11) z:=fun z hz=>by
     rcases List.mem_append.mp hz with y|y
     ·exact (pz z y).same S811
     ·rw[List.mem_singleton.mp y]
      exact⟨p9,_,_,none,none,rfl,(S10.trans S11) _ _ h9,rfl,rfl⟩
    obtain⟨Pw,hPw⟩ : ∃ Pw:Nat->St->Hp->Prop,∀ j σ H',Pw j σ H' ↔ ∃ o7 o8 o9 o10,σ=[some (.ref a),some (.int (0+i)),some (.ref st),some (.ref p4),some (.ref d5),some (.ref d6),some (.ref a7),o7,o8,o9,o10]/\ar (vw K H11) (vw K H'):=⟨_,fun _ _ _=>Iff.rfl⟩
    refine aO (its:=zs ++ [.ref p9]) Pw (fun j σ H' _ z=>?_) ((hPw _ _ _).mpr ⟨_,_,_,_,rfl,.rfl⟩) (fun j z σ H12 hj hz pw=>?_) (fun σ H12 pw=>?_)
    ·obtain⟨_,_,_,_,_,S'⟩:=(hPw _ _ _).mp z
     exact aE (S' _ _ h11)
    ·obtain⟨o7,o8,o9,o10,rfl,S12⟩:=(hPw _ _ _).mp pw
     obtain⟨k,x,y,lo,hi,rfl,hk,opx,opy⟩:=(al z (List.mem_of_getElem? hz)).same S12
     have S812:=S811.trans S12
     refine⟨_,rfl,_,hk,rfl,_,_,rfl,_,_,rfl,rfl,?_⟩
     refine aQ.gen fun M1 hM1=>?_
     walk_at"vc"
     simp only[ju]
     refine⟨d6,x,y,ms,lo,hi,rfl,l68.same S812,fm6,lm6,opx,opy,fun e H13 us S13 h13 lu=>⟨e,rfl,us.length,by simp only[gT,h13],hM1 _ _ ?_⟩⟩
     refine aQ.gen fun M2 hM2=>?_
     have k2:∀ D:Nat,(jc lo hi/\D=0)\/(¬ jc lo hi/\D=us.length)->M2 [some (.ref a),some (.int (0+i)),some (.ref st),some (.ref p4),some (.ref d5),some (.ref d6),some (.ref a7),some x,some y,some (.int D),o10] H13:=fun D hD=>hM2 _ _ ?_
     ·walk_at"vc"
      have opx3:=opx.same S13
      have opy3:=opy.same S13
      cases lo with
      | none=>exact j9 (fun z=>z opx) (k2 _ (.inr ⟨(fun ⟨_,_,z,_⟩=>by cases z),rfl⟩))
      | some p =>
       obtain⟨rx,fx,bx⟩:=id opx3
       obtain⟨kx,rfl,hkx⟩:=id rx.fr_at
       refine oA (by simp) ?_
       cases hi with
       | none=>exact j9 (fun z=>z opy) (k2 _ (.inr ⟨(fun ⟨_,_,_,z,_⟩=>by cases z),rfl⟩))
       | some q =>
        obtain⟨ry,fy,by'⟩:=id opy3
        obtain⟨ky,rfl,hky⟩:=id ry.fr_at
        refine oA (by simp) ?_
        simp only[iY]
        refine⟨_,_,p,q,rfl,rx,ry,bx.mono (by decide),by'.mono (by decide),_,rfl,cO (fun z=>k2 0 (.inl ⟨⟨p,q,rfl,rfl,z⟩,rfl⟩)) (fun z=>k2 _ (.inr ⟨?_,rfl⟩))⟩
        rintro ⟨p',q',e1,e2,e3⟩
        cases e1
        cases e2
        exact z e3
     clear hM2
     refine aQ.gen fun M3 hM3=>?_
     walk_at"vc"
     simp only[fT]
     refine⟨d5,x,y,fs,lo,hi,rfl,l58.same (S812.trans S13),f50,lf5,pf5,bf5,opx.same S13,opy.same S13,fun r H14 S14 hr'=>hM3 _ _ ?_⟩
     have er:r=(D:Int):=by
      rcases hr' with ⟨n1,r0⟩|⟨n1,hs,cc,all,er⟩
      ·rcases hD with ⟨_,d0⟩|⟨n2,_⟩
       ·rw[r0,d0];rfl
       ·exact absurd n1 n2
      ·rcases hD with ⟨n2,_⟩|⟨_,d0⟩
       ·exact absurd n2 n1
       ·have lt:∀ u v,lo.map wv=some u->hi.map wv=some v->u<=v:=fun u v e1 e2=>by
         cases lo with
         | none=>cases e1
         | some p =>
          cases hi with
          | none=>cases e2
          | some q =>
           cases e1
           cases e2
           have n3:yE p q=true:=by
            cases w:yE p q with
            | true=>rfl
            | false=>exact absurd ⟨p,q,rfl,rfl,w⟩ n1
           rw[si opx.2.1 opy.2.1] at n3
           exact Rat.le_of_lt (of_decide_eq_true n3)
        have c1:=vW cc all okl unl (by walk_at"o") (by walk_at"o") (fun x=>by rw[ev5 x,el x]) lt
        have c2:=uF okl unl nd6' mk7 lt
        rw[er,d0,lu]
        walk_at"o"
     walk_at"vc"
     exact⟨_,rfl,j9 (by simp[t7]) (j9 (fun z=>z er) ((hPw _ _ _).mpr ⟨_,_,_,_,rfl,S12.trans (S13.trans S14)⟩))⟩
    ·obtain⟨o7,o8,o9,o10,rfl,S12⟩:=(hPw _ _ _).mp pw
     refine hN6 _ _ ?_
     have S812:=S811.trans S12
     have lz4:0<zs.length:=by rw[lz];decide
     have m0:zs[0] ∈ zs:=List.getElem_mem lz4
     obtain⟨k,x,y,lo,hi,ek,hk,opx,opy⟩:=(pz _ m0).same S812
     have T12:=T8.same S812
     refine aQ.gen fun N7 hN7=>?_
     walk_at"vc"
     refine⟨zs,S812 _ _ h8,zs[0],cq (j:=0) (List.getElem?_eq_getElem lz4),k,ek,_,hk,rfl,_,_,rfl,_,_,rfl,rfl,hN7 _ _ ?_⟩
     walk_at"vc"
     simp only[tj,sV]
     refine⟨T12,fun H3 B3 T3=>⟨_,rfl,?_,fun c4 H4 S4 hn4 h4=>?_⟩⟩
     ·walk_at"vc"
      simp only[dQ]
      exact⟨by decide,fun n5 H5 hn5 S5 h5=>⟨n5,_,_,rfl,h5,fun H' S'=>⟨trivial,trivial,S5.trans S'⟩⟩⟩
     ·refine⟨by decide,fun c5 H5 hn5 S5 h5=>?_⟩
      have d1:aM (vw K H5) (.lst [.int 1]) (.ref c4):=.mk_lst (S5 _ _ h4) (.mk_cons (.mk_int _) .mk_nil)
      have d2:aM (vw K H5) (.lst [.int 1]) (.ref c5):=.mk_lst h5 (.mk_cons (.mk_int _) .mk_nil)
      refine⟨_,d1,_,d2,gj 1,gj 1,?_⟩
      rw[qi (gj 1)]
      exact j9 (by decide) ((hPv _ _ _).mpr ⟨_,_,_,_,_,_,_,_,_,_,rfl,(s1.trans (s18.trans (nA.of S812))).trans ((T12.smT B3 T3).trans (nA.of (S4.trans S5))),T3.same (S4.trans S5)⟩)
   ·obtain⟨o1,o2,o3,o4,o5,o6,o7,o8,o9,o10,rfl,s1,T1⟩:=(hPv _ _ _).mp pv
    exact⟨⟨o1,o2,o3,o4,o5,o6,o7,o8,o9,o10,rfl⟩,T1⟩
  ·rintro σ H2 ⟨o1,o2,o3,o4,o5,o6,o7,o8,o9,o10,rfl,T2⟩
   walk_at"vc"
   simp only[tj,sV]
   refine⟨T2,fun H3 B3 T3=>⟨_,rfl,?_,fun c4 H4 S4 hn4 h4=>?_⟩⟩
   ·walk_at"vc"
    simp only[dQ]
    exact⟨by decide,fun n5 H5 hn5 S5 h5=>⟨by decide,fun p6 H6 hp6 S6 h6=>⟨by decide,fun p7 H7 hp7 S7 h7=>⟨n5,_,_,rfl,(S6.trans S7) _ _ h5,fun H' S'=>⟨trivial,trivial,S5.trans (S6.trans (S7.trans S'))⟩⟩⟩⟩⟩
   ·refine⟨by decide,fun c5 H5 hn5 S5 h5=>?_⟩
    have d1:aM (vw K H5) (.lst [.int 1]) (.ref c4):=.mk_lst (S5 _ _ h4) (.mk_cons (.mk_int _) .mk_nil)
    have d2:aM (vw K H5) (.lst [.int 1]) (.ref c5):=.mk_lst h5 (.mk_cons (.mk_int _) .mk_nil)
    refine⟨_,d1,_,d2,gj 1,gj 1,?_⟩
    rw[qi (gj 1)]
    exact h H5
end
theorem all_mk{l:PySem.W.OpenLaw}{w:World}{K:W.Frag}{h:Heap}{mg:Str->Option Value}{fa f0 f1 f2 f3 f4 f5 f6 f7 f8 f9 f10 f11 f12 f13 f14 f15 f16 f17 f18 f19 f20 f21 f22 f23 f24 f25 f26 f27 f28 f29 f30 f31 f32 f33 f34 f35 f36 f37 f38:Addr}(X:K.In h)(G:h.Ns mainGlobals mg)(hfa:mg "law" = some (.ref fa)) (hst:l.prog.given.tree=none)
  {od0 an0 od1 an1 od2 an2 od3 an3 od4 an4 od5 an5 od6 an6 od7 an7 od8 an8 od9 an9 od10 an10 od11 an11 od12 an12 od13 an13 od14 an14 od15 an15 od16 an16 od17 an17 od18 an18 od19 an19 od20 an20 od21 an21 od22 an22 od23 an23 od24 an24 od25 an25 od26 an26 od27 an27 od28 an28 od29 an29 od30 an30 od31 an31 od32 an32 od33 an33 od34 an34 od35 an35 od36 an36 od37 an37 od38 an38:Option Addr}{sl0 sl1 sl2 sl3 sl4 sl5 sl6 sl7 sl8 sl9 sl10 sl11 sl12 sl13 sl14 sl15 sl16 sl17 sl18 sl19 sl20 sl21 sl22 sl23 sl24 sl25 sl26 sl27 sl28 sl29 sl30 sl31 sl32 sl33 sl34 sl35 sl36 sl37 sl38:Array (Option Value)}
  {oc0 kV0 dc0 pm0 cd0 ct0 oc1 kV1 dc1 pm1 cd1 ct1 oc2 kV2 dc2 pm2 cd2 ct2 oc3 kV3 dc3 pm3 cd3 ct3 oc4 kV4 dc4 pm4 cd4 ct4 oc5 kV5 dc5 pm5 cd5 ct5 oc6 kV6 dc6 pm6 cd6 ct6 oc7 kV7 dc7 pm7 cd7 ct7 oc8 kV8 dc8 pm8 cd8 ct8 oc9 kV9 dc9 pm9 cd9 ct9 oc10 kV10 dc10 pm10 cd10 ct10 oc11 kV11 dc11 pm11 cd11 ct11 oc12 kV12 dc12 pm12 cd12 ct12 oc13 kV13 dc13 pm13 cd13 ct13 oc14 kV14 dc14 pm14 cd14 ct14 oc15 kV15 dc15 pm15 cd15 ct15 oc16 kV16 dc16 pm16 cd16 ct16 oc17 kV17 dc17 pm17 cd17 ct17 oc18 kV18 dc18 pm18 cd18 ct18 oc19 kV19 dc19 pm19 cd19 ct19 oc20 kV20 dc20 pm20 cd20 ct20 oc21 kV21 dc21 pm21 cd21 ct21 oc22 kV22 dc22 pm22 cd22 ct22 oc23 kV23 dc23 pm23 cd23 ct23 oc24 kV24 dc24 pm24 cd24 ct24 oc25 kV25 dc25 pm25 cd25 ct25 oc26 kV26 dc26 pm26 cd26 ct26 oc27 kV27 dc27 pm27 cd27 ct27 oc28 kV28 dc28 pm28 cd28 ct28 oc29 kV29 dc29 pm29 cd29 ct29 oc30 kV30 dc30 pm30 cd30 ct30 oc31 kV31 dc31 pm31 cd31 ct31 oc32 kV32 dc32 pm32 cd32 ct32 oc33 kV33 dc33 pm33 cd33 ct33 oc34 kV34 dc34 pm34 cd34 ct34 oc35 kV35 dc35 pm35 cd35 ct35 oc36 kV36 dc36 pm36 cd36 ct36 oc37 kV37 dc37 pm37 cd37 ct37 oc38 kV38 dc38 pm38 cd38 ct38:Value}
  (a0:PySem.W.nsIn K mainGlobals "greatest_divisor" = some (some (.ref f0))) (l0:K.lookup f0=some ⟨oc0,od0,.func (PySem.W.fnOf "greatest_divisor" "greatest_divisor" (ax be) (aq be) (ag be) .none kV0 dc0 pm0 an0 cd0 ct0),sl0⟩) (c0:PySem.W.codeIn K cd0 "greatest_divisor" = true) (k0:PySem.W.keepIn K (.ref f0)=true)
  (a1:PySem.W.nsIn K mainGlobals "sign_of" = some (some (.ref f1))) (l1:K.lookup f1=some ⟨oc1,od1,.func (PySem.W.fnOf "sign_of" "sign_of" (ax fA) (aq fA) (ag fA) .none kV1 dc1 pm1 an1 cd1 ct1),sl1⟩) (c1:PySem.W.codeIn K cd1 "sign_of" = true) (k1:PySem.W.keepIn K (.ref f1)=true)
  (a2:PySem.W.nsIn K mainGlobals "power" = some (some (.ref f2))) (l2:K.lookup f2=some ⟨oc2,od2,.func (PySem.W.fnOf "power" "power" (ax iy) (aq iy) (ag iy) .none kV2 dc2 pm2 an2 cd2 ct2),sl2⟩) (c2:PySem.W.codeIn K cd2 "power" = true) (k2:PySem.W.keepIn K (.ref f2)=true)
  (a3:PySem.W.nsIn K mainGlobals "trimmed" = some (some (.ref f3))) (l3:K.lookup f3=some ⟨oc3,od3,.func (PySem.W.fnOf "trimmed" "trimmed" (ax fB) (aq fB) (ag fB) .none kV3 dc3 pm3 an3 cd3 ct3),sl3⟩) (c3:PySem.W.codeIn K cd3 "trimmed" = true) (k3:PySem.W.keepIn K (.ref f3)=true)
  (a4:PySem.W.nsIn K mainGlobals "lowered" = some (some (.ref f4))) (l4:K.lookup f4=some ⟨oc4,od4,.func (PySem.W.fnOf "lowered" "lowered" (ax fF) (aq fF) (ag fF) .none kV4 dc4 pm4 an4 cd4 ct4),sl4⟩) (c4:PySem.W.codeIn K cd4 "lowered" = true) (k4:PySem.W.keepIn K (.ref f4)=true)
  (a5:PySem.W.nsIn K mainGlobals "wholes_slope" = some (some (.ref f5))) (l5:K.lookup f5=some ⟨oc5,od5,.func (PySem.W.fnOf "wholes_slope" "wholes_slope" (ax cE) (aq cE) (ag cE) .none kV5 dc5 pm5 an5 cd5 ct5),sl5⟩) (c5:PySem.W.codeIn K cd5 "wholes_slope" = true) (k5:PySem.W.keepIn K (.ref f5)=true)
  (a6:PySem.W.nsIn K mainGlobals "wholes_at" = some (some (.ref f6))) (l6:K.lookup f6=some ⟨oc6,od6,.func (PySem.W.fnOf "wholes_at" "wholes_at" (ax dF) (aq dF) (ag dF) .none kV6 dc6 pm6 an6 cd6 ct6),sl6⟩) (c6:PySem.W.codeIn K cd6 "wholes_at" = true) (k6:PySem.W.keepIn K (.ref f6)=true)
  (a7:PySem.W.nsIn K mainGlobals "wholes_parted" = some (some (.ref f7))) (l7:K.lookup f7=some ⟨oc7,od7,.func (PySem.W.fnOf "wholes_parted" "wholes_parted" (ax b9) (aq b9) (ag b9) .none kV7 dc7 pm7 an7 cd7 ct7),sl7⟩) (c7:PySem.W.codeIn K cd7 "wholes_parted" = true) (k7:PySem.W.keepIn K (.ref f7)=true)
  (a8:PySem.W.nsIn K mainGlobals "wholes_rests" = some (some (.ref f8))) (l8:K.lookup f8=some ⟨oc8,od8,.func (PySem.W.fnOf "wholes_rests" "wholes_rests" (ax cD) (aq cD) (ag cD) .none kV8 dc8 pm8 an8 cd8 ct8),sl8⟩) (c8:PySem.W.codeIn K cd8 "wholes_rests" = true) (k8:PySem.W.keepIn K (.ref f8)=true)
  (a9:PySem.W.nsIn K mainGlobals "is_less" = some (some (.ref f9))) (l9:K.lookup f9=some ⟨oc9,od9,.func (PySem.W.fnOf "is_less" "is_less" (ax fu) (aq fu) (ag fu) .none kV9 dc9 pm9 an9 cd9 ct9),sl9⟩) (c9:PySem.W.codeIn K cd9 "is_less" = true) (k9:PySem.W.keepIn K (.ref f9)=true)
  (a10:PySem.W.nsIn K mainGlobals "cleared" = some (some (.ref f10))) (l10:K.lookup f10=some ⟨oc10,od10,.func (PySem.W.fnOf "cleared" "cleared" (ax fD) (aq fD) (ag fD) .none kV10 dc10 pm10 an10 cd10 ct10),sl10⟩) (c10:PySem.W.codeIn K cd10 "cleared" = true) (k10:PySem.W.keepIn K (.ref f10)=true)
  (a11:PySem.W.nsIn K mainGlobals "refuse_nought" = some (some (.ref f11))) (l11:K.lookup f11=some ⟨oc11,od11,.func (PySem.W.fnOf "refuse_nought" "refuse_nought" (ax bH) (aq bH) (ag bH) .none kV11 dc11 pm11 an11 cd11 ct11),sl11⟩) (c11:PySem.W.codeIn K cd11 "refuse_nought" = true) (k11:PySem.W.keepIn K (.ref f11)=true)
  (a12:PySem.W.nsIn K mainGlobals "signed_chain" = some (some (.ref f12))) (l12:K.lookup f12=some ⟨oc12,od12,.func (PySem.W.fnOf "signed_chain" "signed_chain" (ax cu) (aq cu) (ag cu) .none kV12 dc12 pm12 an12 cd12 ct12),sl12⟩) (c12:PySem.W.codeIn K cd12 "signed_chain" = true) (k12:PySem.W.keepIn K (.ref f12)=true)
  (a13:PySem.W.nsIn K mainGlobals "parted_chain" = some (some (.ref f13))) (l13:K.lookup f13=some ⟨oc13,od13,.func (PySem.W.fnOf "parted_chain" "parted_chain" (ax cz) (aq cz) (ag cz) .none kV13 dc13 pm13 an13 cd13 ct13),sl13⟩) (c13:PySem.W.codeIn K cd13 "parted_chain" = true) (k13:PySem.W.keepIn K (.ref f13)=true)
  (a14:PySem.W.nsIn K mainGlobals "counting_chain" = some (some (.ref f14))) (l14:K.lookup f14=some ⟨oc14,od14,.func (PySem.W.fnOf "counting_chain" "counting_chain" (ax bQ) (aq bQ) (ag bQ) .none kV14 dc14 pm14 an14 cd14 ct14),sl14⟩) (c14:PySem.W.codeIn K cd14 "counting_chain" = true) (k14:PySem.W.keepIn K (.ref f14)=true)
  (a15:PySem.W.nsIn K mainGlobals "signs_of" = some (some (.ref f15))) (l15:K.lookup f15=some ⟨oc15,od15,.func (PySem.W.fnOf "signs_of" "signs_of" (ax en) (aq en) (ag en) .none kV15 dc15 pm15 an15 cd15 ct15),sl15⟩) (c15:PySem.W.codeIn K cd15 "signs_of" = true) (k15:PySem.W.keepIn K (.ref f15)=true)
  (a16:PySem.W.nsIn K mainGlobals "signs_far" = some (some (.ref f16))) (l16:K.lookup f16=some ⟨oc16,od16,.func (PySem.W.fnOf "signs_far" "signs_far" (ax dC) (aq dC) (ag dC) .none kV16 dc16 pm16 an16 cd16 ct16),sl16⟩) (c16:PySem.W.codeIn K cd16 "signs_far" = true) (k16:PySem.W.keepIn K (.ref f16)=true)
  (a17:PySem.W.nsIn K mainGlobals "changes" = some (some (.ref f17))) (l17:K.lookup f17=some ⟨oc17,od17,.func (PySem.W.fnOf "changes" "changes" (ax fH) (aq fH) (ag fH) .none kV17 dc17 pm17 an17 cd17 ct17),sl17⟩) (c17:PySem.W.codeIn K cd17 "changes" = true) (k17:PySem.W.keepIn K (.ref f17)=true)
  (a18:PySem.W.nsIn K mainGlobals "count_between" = some (some (.ref f18))) (l18:K.lookup f18=some ⟨oc18,od18,.func (PySem.W.fnOf "count_between" "count_between" (ax ce) (aq ce) (ag ce) .none kV18 dc18 pm18 an18 cd18 ct18),sl18⟩) (c18:PySem.W.codeIn K cd18 "count_between" = true) (k18:PySem.W.keepIn K (.ref f18)=true)
  (a19:PySem.W.nsIn K mainGlobals "how_many" = some (some (.ref f19))) (l19:K.lookup f19=some ⟨oc19,od19,.func (PySem.W.fnOf "how_many" "how_many" (ax du) (aq du) (ag du) .none kV19 dc19 pm19 an19 cd19 ct19),sl19⟩) (c19:PySem.W.codeIn K cd19 "how_many" = true) (k19:PySem.W.keepIn K (.ref f19)=true)
  (a20:PySem.W.nsIn K mainGlobals "_law_cell_at" = some (some (.ref f20))) (l20:K.lookup f20=some ⟨oc20,od20,.func (PySem.W.fnOf "_law_cell_at" "_law_cell_at" (ax fE) (aq fE) (ag fE) .none kV20 dc20 pm20 an20 cd20 ct20),sl20⟩) (c20:PySem.W.codeIn K cd20 "_law_cell_at" = true) (k20:PySem.W.keepIn K (.ref f20)=true)
  (a21:PySem.W.nsIn K mainGlobals "_law_state" = some (some (.ref f21))) (l21:K.lookup f21=some ⟨oc21,od21,.func (PySem.W.fnOf "_law_state" "_law_state" (ax iC) (aq iC) (ag iC) .none kV21 dc21 pm21 an21 cd21 ct21),sl21⟩) (c21:PySem.W.codeIn K cd21 "_law_state" = true) (k21:PySem.W.keepIn K (.ref f21)=true)
  (a22:PySem.W.nsIn K mainGlobals "_law_take" = some (some (.ref f22))) (l22:K.lookup f22=some ⟨oc22,od22,.func (PySem.W.fnOf "_law_take" "_law_take" (ax jL) (aq jL) (ag jL) .none kV22 dc22 pm22 an22 cd22 ct22),sl22⟩) (c22:PySem.W.codeIn K cd22 "_law_take" = true) (k22:PySem.W.keepIn K (.ref f22)=true)
  (a23:PySem.W.nsIn K mainGlobals "_law_divisor" = some (some (.ref f23))) (l23:K.lookup f23=some ⟨oc23,od23,.func (PySem.W.fnOf "_law_divisor" "_law_divisor" (ax fw) (aq fw) (ag fw) .none kV23 dc23 pm23 an23 cd23 ct23),sl23⟩) (c23:PySem.W.codeIn K cd23 "_law_divisor" = true) (k23:PySem.W.keepIn K (.ref f23)=true)
  (a24:PySem.W.nsIn K mainGlobals "_law_low" = some (some (.ref f24))) (l24:K.lookup f24=some ⟨oc24,od24,.func (PySem.W.fnOf "_law_low" "_law_low" (ax mX) (aq mX) (ag mX) .none kV24 dc24 pm24 an24 cd24 ct24),sl24⟩) (c24:PySem.W.codeIn K cd24 "_law_low" = true) (k24:PySem.W.keepIn K (.ref f24)=true)
  (a25:PySem.W.nsIn K mainGlobals "_law_small" = some (some (.ref f25))) (l25:K.lookup f25=some ⟨oc25,od25,.func (PySem.W.fnOf "_law_small" "_law_small" (ax iH) (aq iH) (ag iH) .none kV25 dc25 pm25 an25 cd25 ct25),sl25⟩) (c25:PySem.W.codeIn K cd25 "_law_small" = true) (k25:PySem.W.keepIn K (.ref f25)=true)
  (a26:PySem.W.nsIn K mainGlobals "_law_factors" = some (some (.ref f26))) (l26:K.lookup f26=some ⟨oc26,od26,.func (PySem.W.fnOf "_law_factors" "_law_factors" (ax fv) (aq fv) (ag fv) .none kV26 dc26 pm26 an26 cd26 ct26),sl26⟩) (c26:PySem.W.codeIn K cd26 "_law_factors" = true) (k26:PySem.W.keepIn K (.ref f26)=true)
  (a27:PySem.W.nsIn K mainGlobals "_law_clean" = some (some (.ref f27))) (l27:K.lookup f27=some ⟨oc27,od27,.func (PySem.W.fnOf "_law_clean" "_law_clean" (ax iA) (aq iA) (ag iA) .none kV27 dc27 pm27 an27 cd27 ct27),sl27⟩) (c27:PySem.W.codeIn K cd27 "_law_clean" = true) (k27:PySem.W.keepIn K (.ref f27)=true)
  (a28:PySem.W.nsIn K mainGlobals "_law_plus" = some (some (.ref f28))) (l28:K.lookup f28=some ⟨oc28,od28,.func (PySem.W.fnOf "_law_plus" "_law_plus" (ax jJ) (aq jJ) (ag jJ) .none kV28 dc28 pm28 an28 cd28 ct28),sl28⟩) (c28:PySem.W.codeIn K cd28 "_law_plus" = true) (k28:PySem.W.keepIn K (.ref f28)=true)
  (a29:PySem.W.nsIn K mainGlobals "_law_times" = some (some (.ref f29))) (l29:K.lookup f29=some ⟨oc29,od29,.func (PySem.W.fnOf "_law_times" "_law_times" (ax iK) (aq iK) (ag iK) .none kV29 dc29 pm29 an29 cd29 ct29),sl29⟩) (c29:PySem.W.codeIn K cd29 "_law_times" = true) (k29:PySem.W.keepIn K (.ref f29)=true)
  (a30:PySem.W.nsIn K mainGlobals "_law_multiplied" = some (some (.ref f30))) (l30:K.lookup f30=some ⟨oc30,od30,.func (PySem.W.fnOf "_law_multiplied" "_law_multiplied" (ax cU) (aq cU) (ag cU) .none kV30 dc30 pm30 an30 cd30 ct30),sl30⟩) (c30:PySem.W.codeIn K cd30 "_law_multiplied" = true) (k30:PySem.W.keepIn K (.ref f30)=true)
  (a31:PySem.W.nsIn K mainGlobals "_law_of_factors" = some (some (.ref f31))) (l31:K.lookup f31=some ⟨oc31,od31,.func (PySem.W.fnOf "_law_of_factors" "_law_of_factors" (ax cS) (aq cS) (ag cS) .none kV31 dc31 pm31 an31 cd31 ct31),sl31⟩) (c31:PySem.W.codeIn K cd31 "_law_of_factors" = true) (k31:PySem.W.keepIn K (.ref f31)=true)
  (a32:PySem.W.nsIn K mainGlobals "_law_signed" = some (some (.ref f32))) (l32:K.lookup f32=some ⟨oc32,od32,.func (PySem.W.fnOf "_law_signed" "_law_signed" (ax gh) (aq gh) (ag gh) .none kV32 dc32 pm32 an32 cd32 ct32),sl32⟩) (c32:PySem.W.codeIn K cd32 "_law_signed" = true) (k32:PySem.W.keepIn K (.ref f32)=true)
  (a33:PySem.W.nsIn K mainGlobals "_law_less" = some (some (.ref f33))) (l33:K.lookup f33=some ⟨oc33,od33,.func (PySem.W.fnOf "_law_less" "_law_less" (ax jv) (aq jv) (ag jv) .none kV33 dc33 pm33 an33 cd33 ct33),sl33⟩) (c33:PySem.W.codeIn K cd33 "_law_less" = true) (k33:PySem.W.keepIn K (.ref f33)=true)
  (a34:PySem.W.nsIn K mainGlobals "_law_marks" = some (some (.ref f34))) (l34:K.lookup f34=some ⟨oc34,od34,.func (PySem.W.fnOf "_law_marks" "_law_marks" (ax ix) (aq ix) (ag ix) .none kV34 dc34 pm34 an34 cd34 ct34),sl34⟩) (c34:PySem.W.codeIn K cd34 "_law_marks" = true) (k34:PySem.W.keepIn K (.ref f34)=true)
  (a35:PySem.W.nsIn K mainGlobals "_law_inside" = some (some (.ref f35))) (l35:K.lookup f35=some ⟨oc35,od35,.func (PySem.W.fnOf "_law_inside" "_law_inside" (ax gi) (aq gi) (ag gi) .none kV35 dc35 pm35 an35 cd35 ct35),sl35⟩) (c35:PySem.W.codeIn K cd35 "_law_inside" = true) (k35:PySem.W.keepIn K (.ref f35)=true)
  (a36:PySem.W.nsIn K mainGlobals "_law_refused" = some (some (.ref f36))) (l36:K.lookup f36=some ⟨oc36,od36,.func (PySem.W.fnOf "_law_refused" "_law_refused" (ax fG) (aq fG) (ag fG) .none kV36 dc36 pm36 an36 cd36 ct36),sl36⟩) (c36:PySem.W.codeIn K cd36 "_law_refused" = true) (k36:PySem.W.keepIn K (.ref f36)=true)
  (a37:PySem.W.nsIn K mainGlobals "_law_ends" = some (some (.ref f37))) (l37:K.lookup f37=some ⟨oc37,od37,.func (PySem.W.fnOf "_law_ends" "_law_ends" (ax jN) (aq jN) (ag jN) .none kV37 dc37 pm37 an37 cd37 ct37),sl37⟩) (c37:PySem.W.codeIn K cd37 "_law_ends" = true) (k37:PySem.W.keepIn K (.ref f37)=true)
  (a38:PySem.W.nsIn K mainGlobals "law" = some (some (.ref f38))) (l38:K.lookup f38=some ⟨oc38,od38,.func (PySem.W.fnOf "law" "law" (ax fJ) (aq fJ) (ag fJ) .none kV38 dc38 pm38 an38 cd38 ct38),sl38⟩) (c38:PySem.W.codeIn K cd38 "law" = true) (k38:PySem.W.keepIn K (.ref f38)=true)
  (z0:PySem.W.nsIn K mainGlobals "abs" = some none)
  (z1:PySem.W.nsIn K mainGlobals "range" = some none)
  (z2:PySem.W.nsIn K mainGlobals "len" = some none)
  (z3:PySem.W.nsIn K mainGlobals "reversed" = some none)
  (z4:PySem.W.nsIn K mainGlobals "max" = some none)
  (z5:PySem.W.nsIn K mainGlobals "list" = some none)
  (z6:PySem.W.nsIn K mainGlobals "min" = some none)
  (z7:PySem.W.nsIn K mainGlobals "isinstance" = some none)
  (z8:PySem.W.nsIn K mainGlobals "ValueError" = some none)
  (z9:PySem.W.nsIn K mainGlobals "bool" = some none)
  {e0 e1 e2 e3 e4 e5 e6 e7 e8 em:Addr}
  (n0:PySem.W.nsIn K mainGlobals "NoFraction" = some (some (.ref e0)))
  (n1:PySem.W.nsIn K mainGlobals "NoPolynomial" = some (some (.ref e1)))
  (n2:PySem.W.nsIn K mainGlobals "NoSums" = some (some (.ref e2)))
  (n3:PySem.W.nsIn K mainGlobals "NoFlock" = some (some (.ref e3)))
  (n4:PySem.W.nsIn K mainGlobals "NoWalk" = some (some (.ref e4)))
  (n5:PySem.W.nsIn K mainGlobals "NoSum" = some (some (.ref e5)))
  (n6:PySem.W.nsIn K mainGlobals "NoDeed" = some (some (.ref e6)))
  (n7:PySem.W.nsIn K mainGlobals "NoText" = some (some (.ref e7)))
  (n8:PySem.W.nsIn K mainGlobals "NoRow" = some (some (.ref e8)))
  (nm:PySem.W.nsIn K mainGlobals "MomentError" = some (some (.ref em))) (xo:pJ K e1)
  (q0:PySem.W.kitOne K (.ref e1) (.ref e0)=some false)
  (q1:PySem.W.kitOne K (.ref e1) (.ref e1)=some true)
  (q2:PySem.W.kitOne K (.ref e1) (.ref e2)=some false)
  (q3:PySem.W.kitOne K (.ref e1) (.ref e3)=some false)
  (q4:PySem.W.kitOne K (.ref e1) (.ref e4)=some false)
  (q5:PySem.W.kitOne K (.ref e1) (.ref e5)=some false)
  (q6:PySem.W.kitOne K (.ref e1) (.ref e6)=some false)
  (q7:PySem.W.kitOne K (.ref e1) (.ref e7)=some false)
  (q8:PySem.W.kitOne K (.ref e1) (.ref e8)=some false)
  (qm:PySem.W.exmOne K (.ref e1) (.ref em)=some true)(qv:PySem.W.kitOne K (.ref e1) (.type "ValueError")=some true)
  (y1:PySem.W.findIn K (.ref e1) "__getattribute__" = some (some (.builtin "BaseException.__getattribute__"))) (y2:PySem.W.findIn K (.ref e1) "__getattr__" = some none) (y3:PySem.W.findIn K (.ref e1) "__class__" = some (some (.builtin "object.__class__")))
  (y4:PySem.W.mroIn K e1 (.type "object")=some true) (y5:PySem.W.mroIn K e1 (.type "BaseException")=some true) (y6:(PySem.W.clsIn K e1).isSome=true)
  (m38:cd38 = .ref 381)(o38:PySem.W.codeHdIn K 381 379=true)
  : ∃ fd:FuncData,(∀ (s:Shared)(v:Value),BindsTo s fd ⟨[v],[]⟩ [("_law_script",v)]) /\ ∀ base:Heap,K.In base->base.Ns mainGlobals mg->sv mg base->base.NoSeer->bB l.prog w K mg base dZ 10 fa fd ["_law_script"] (spLaw K):=by
 have e:=hfa.symm.trans (PySem.W.mg_of X G a38)
 cases e
 have T:ge K mg:=⟨trivial,PySem.W.mg_none_of X G z0,PySem.W.mg_none_of X G z1,PySem.W.mg_none_of X G z2,PySem.W.mg_none_of X G z3,PySem.W.mg_none_of X G z4,PySem.W.mg_none_of X G z5,PySem.W.mg_none_of X G z6,PySem.W.mg_none_of X G z7,PySem.W.mg_none_of X G z8,PySem.W.mg_none_of X G z9⟩
 have Z_:uM K mg e1 1:=by
  refine⟨⟨y1,y2,y3,y4,y5,y6⟩,fun j n hn=>?_,⟨em,PySem.W.mg_of X G nm,qm⟩,qv⟩
  rcases j with _|_|_|_|_|_|_|_|_|j
  ·cases hn;exact⟨e0,PySem.W.mg_of X G n0,q0⟩
  ·cases hn;exact⟨e1,PySem.W.mg_of X G n1,q1⟩
  ·cases hn;exact⟨e2,PySem.W.mg_of X G n2,q2⟩
  ·cases hn;exact⟨e3,PySem.W.mg_of X G n3,q3⟩
  ·cases hn;exact⟨e4,PySem.W.mg_of X G n4,q4⟩
  ·cases hn;exact⟨e5,PySem.W.mg_of X G n5,q5⟩
  ·cases hn;exact⟨e6,PySem.W.mg_of X G n6,q6⟩
  ·cases hn;exact⟨e7,PySem.W.mg_of X G n7,q7⟩
  ·cases hn;exact⟨e8,PySem.W.mg_of X G n8,q8⟩
  ·cases hn
 refine⟨PySem.W.fnOf "law" "law" (ax fJ) (aq fJ) (ag fJ) .none kV38 dc38 pm38 an38 cd38 ct38,fun s v=>.of_eq rfl,fun base kb nb hB hSe=>?_⟩
 have N_:mv l.prog base:=⟨hSe,hst⟩
 have F_greatest_divisor:=aH (st:=be) l0 c0 k0
 have C_greatest_divisor:bU l.prog w K mg base "greatest_divisor" ["one", "other"] 1 (aZ K):=⟨_,_,iO F_greatest_divisor T ,PySem.W.mg_of X G a0,k0,(F_greatest_divisor.binds fun _ _ _ _ _ _ us hl=>cH (g:=fun us=>bindArgs _ ⟨us,[]⟩) (z:=fun us=>pure (List.zip _ us)) us hl fun _ _=>rfl)⟩
 have F_sign_of:=aH (st:=fA) l1 c1 k1
 have C_sign_of:bU l.prog w K mg base "sign_of" ["whole"] 1 (dq K):=⟨_,_,rH F_sign_of T ,PySem.W.mg_of X G a1,k1,(F_sign_of.binds fun _ _ _ _ _ _ us hl=>dy (g:=fun us=>bindArgs _ ⟨us,[]⟩) (z:=fun us=>pure (List.zip _ us)) us hl fun _=>rfl)⟩
 have F_power:=aH (st:=iy) l2 c2 k2
 have C_power:bU l.prog w K mg base "power" ["base", "many"] 1 (jh K):=⟨_,_,xI F_power T ,PySem.W.mg_of X G a2,k2,(F_power.binds fun _ _ _ _ _ _ us hl=>cH (g:=fun us=>bindArgs _ ⟨us,[]⟩) (z:=fun us=>pure (List.zip _ us)) us hl fun _ _=>rfl)⟩
 have F_trimmed:=aH (st:=fB) l3 c3 k3
 have C_trimmed:bU l.prog w K mg base "trimmed" ["numbers", "zero"] 1 (gJ K):=⟨_,_,rB F_trimmed T ,PySem.W.mg_of X G a3,k3,(F_trimmed.binds fun _ _ _ _ _ _ us hl=>cH (g:=fun us=>bindArgs _ ⟨us,[]⟩) (z:=fun us=>pure (List.zip _ us)) us hl fun _ _=>rfl)⟩
 have F_lowered:=aH (st:=fF) l4 c4 k4
 have C_lowered:bU l.prog w K mg base "lowered" ["wholes"] 2 (dk K):=⟨_,_,qZ F_lowered T (N_:=N_) (C_greatest_divisor:=C_greatest_divisor),PySem.W.mg_of X G a4,k4,(F_lowered.binds fun _ _ _ _ _ _ us hl=>dy (g:=fun us=>bindArgs _ ⟨us,[]⟩) (z:=fun us=>pure (List.zip _ us)) us hl fun _=>rfl)⟩
 have F_wholes_slope:=aH (st:=cE) l5 c5 k5
 have C_wholes_slope:bU l.prog w K mg base "wholes_slope" ["wholes"] 1 (de K):=⟨_,_,ke F_wholes_slope T ,PySem.W.mg_of X G a5,k5,(F_wholes_slope.binds fun _ _ _ _ _ _ us hl=>dy (g:=fun us=>bindArgs _ ⟨us,[]⟩) (z:=fun us=>pure (List.zip _ us)) us hl fun _=>rfl)⟩
 have F_wholes_at:=aH (st:=dF) l6 c6 k6
 have C_wholes_at:bU l.prog w K mg base "wholes_at" ["wholes", "top", "bottom"] 1 (ft K):=⟨_,_,nU F_wholes_at T ,PySem.W.mg_of X G a6,k6,(F_wholes_at.binds fun _ _ _ _ _ _ us hl=>jT (g:=fun us=>bindArgs _ ⟨us,[]⟩) (z:=fun us=>pure (List.zip _ us)) us hl fun _ _ _=>rfl)⟩
 have F_wholes_parted:=aH (st:=b9) l7 c7 k7
 have C_wholes_parted:bU l.prog w K mg base "wholes_parted" ["one", "other"] 2 (bM K):=⟨_,_,jA F_wholes_parted T (N_:=N_) (C_trimmed:=C_trimmed),PySem.W.mg_of X G a7,k7,(F_wholes_parted.binds fun _ _ _ _ _ _ us hl=>cH (g:=fun us=>bindArgs _ ⟨us,[]⟩) (z:=fun us=>pure (List.zip _ us)) us hl fun _ _=>rfl)⟩
 have F_wholes_rests:=aH (st:=cD) l8 c8 k8
 have C_wholes_rests:bU l.prog w K mg base "wholes_rests" ["one", "other"] 3 (dc K):=⟨_,_,ka F_wholes_rests T (N_:=N_) (C_power:=C_power) (C_wholes_parted:=C_wholes_parted),PySem.W.mg_of X G a8,k8,(F_wholes_rests.binds fun _ _ _ _ _ _ us hl=>cH (g:=fun us=>bindArgs _ ⟨us,[]⟩) (z:=fun us=>pure (List.zip _ us)) us hl fun _ _=>rfl)⟩
 have F_is_less:=aH (st:=fu) l9 c9 k9
 have C_is_less:bU l.prog w K mg base "is_less" ["one", "other"] 1 (fM K):=⟨_,_,sy F_is_less T ,PySem.W.mg_of X G a9,k9,(F_is_less.binds fun _ _ _ _ _ _ us hl=>cH (g:=fun us=>bindArgs _ ⟨us,[]⟩) (z:=fun us=>pure (List.zip _ us)) us hl fun _ _=>rfl)⟩
 have F_cleared:=aH (st:=fD) l10 c10 k10
 have C_cleared:bU l.prog w K mg base "cleared" ["f"] 2 (gI K):=⟨_,_,rN F_cleared T (N_:=N_) (C_greatest_divisor:=C_greatest_divisor),PySem.W.mg_of X G a10,k10,(F_cleared.binds fun _ _ _ _ _ _ us hl=>dy (g:=fun us=>bindArgs _ ⟨us,[]⟩) (z:=fun us=>pure (List.zip _ us)) us hl fun _=>rfl)⟩
 have F_refuse_nought:=aH (st:=bH) l11 c11 k11
 have C_refuse_nought:bU l.prog w K mg base "refuse_nought" ["f"] 1 (cx K):=⟨_,_,jR F_refuse_nought T ,PySem.W.mg_of X G a11,k11,(F_refuse_nought.binds fun _ _ _ _ _ _ us hl=>dy (g:=fun us=>bindArgs _ ⟨us,[]⟩) (z:=fun us=>pure (List.zip _ us)) us hl fun _=>rfl)⟩
 have CX_refuse_nought:wm l.prog w K mg base "refuse_nought" ["f"] 1 (cN e1 K):=⟨_,_,jp F_refuse_nought T xo (PySem.W.mg_of X G n1) ,PySem.W.mg_of X G a11,k11,(F_refuse_nought.binds fun _ _ _ _ _ _ us hl=>dy (g:=fun us=>bindArgs _ ⟨us,[]⟩) (z:=fun us=>pure (List.zip _ us)) us hl fun _=>rfl)⟩
 have F_signed_chain:=aH (st:=cu) l12 c12 k12
 have C_signed_chain:bU l.prog w K mg base "signed_chain" ["one", "other"] 4 (dj K):=⟨_,_,kg F_signed_chain T (C_wholes_rests:=C_wholes_rests) (C_sign_of:=C_sign_of),PySem.W.mg_of X G a12,k12,(F_signed_chain.binds fun _ _ _ _ _ _ us hl=>cH (g:=fun us=>bindArgs _ ⟨us,[]⟩) (z:=fun us=>pure (List.zip _ us)) us hl fun _ _=>rfl)⟩
 have F_parted_chain:=aH (st:=cz) l13 c13 k13
 have C_parted_chain:bU l.prog w K mg base "parted_chain" ["lists"] 3 (cZ K):=⟨_,_,j7 F_parted_chain T (C_wholes_parted:=C_wholes_parted) (C_lowered:=C_lowered),PySem.W.mg_of X G a13,k13,(F_parted_chain.binds fun _ _ _ _ _ _ us hl=>dy (g:=fun us=>bindArgs _ ⟨us,[]⟩) (z:=fun us=>pure (List.zip _ us)) us hl fun _=>rfl)⟩
 have F_counting_chain:=aH (st:=bQ) l14 c14 k14
 have C_counting_chain:bU l.prog w K mg base "counting_chain" ["f"] 5 (cg K):=⟨_,_,ji F_counting_chain T (C_parted_chain:=C_parted_chain) (C_signed_chain:=C_signed_chain) (C_lowered:=C_lowered) (C_wholes_slope:=C_wholes_slope) (C_cleared:=C_cleared),PySem.W.mg_of X G a14,k14,(F_counting_chain.binds fun _ _ _ _ _ _ us hl=>dy (g:=fun us=>bindArgs _ ⟨us,[]⟩) (z:=fun us=>pure (List.zip _ us)) us hl fun _=>rfl)⟩
 have F_signs_of:=aH (st:=en) l15 c15 k15
 have C_signs_of:bU l.prog w K mg base "signs_of" ["lists", "top", "bottom"] 2 (ii K):=⟨_,_,qE F_signs_of T (C_sign_of:=C_sign_of) (C_wholes_at:=C_wholes_at),PySem.W.mg_of X G a15,k15,(F_signs_of.binds fun _ _ _ _ _ _ us hl=>jT (g:=fun us=>bindArgs _ ⟨us,[]⟩) (z:=fun us=>pure (List.zip _ us)) us hl fun _ _ _=>rfl)⟩
 have F_signs_far:=aH (st:=dC) l16 c16 k16
 have C_signs_far:bU l.prog w K mg base "signs_far" ["lists", "side"] 2 (gA K):=⟨_,_,oM F_signs_far T (C_sign_of:=C_sign_of),PySem.W.mg_of X G a16,k16,(F_signs_far.binds fun _ _ _ _ _ _ us hl=>cH (g:=fun us=>bindArgs _ ⟨us,[]⟩) (z:=fun us=>pure (List.zip _ us)) us hl fun _ _=>rfl)⟩
 have F_changes:=aH (st:=fH) l17 c17 k17
 have C_changes:bU l.prog w K mg base "changes" ["signs"] 1 (gx K):=⟨_,_,rM F_changes T ,PySem.W.mg_of X G a17,k17,(F_changes.binds fun _ _ _ _ _ _ us hl=>dy (g:=fun us=>bindArgs _ ⟨us,[]⟩) (z:=fun us=>pure (List.zip _ us)) us hl fun _=>rfl)⟩
 have F_count_between:=aH (st:=ce) l18 c18 k18
 have C_count_between:bU l.prog w K mg base "count_between" ["lists", "low", "high"] 3 (cC K):=⟨_,_,jz F_count_between T (C_changes:=C_changes) (C_signs_far:=C_signs_far) (C_signs_of:=C_signs_of),PySem.W.mg_of X G a18,k18,(F_count_between.binds fun _ _ _ _ _ _ us hl=>jT (g:=fun us=>bindArgs _ ⟨us,[]⟩) (z:=fun us=>pure (List.zip _ us)) us hl fun _ _ _=>rfl)⟩
 have F_how_many:=aH (st:=du) l19 c19 k19
 have C_how_many:bU l.prog w K mg base "how_many" ["f", "low", "high"] 6 (fT K):=⟨_,_,qz F_how_many T (C_count_between:=C_count_between) (C_counting_chain:=C_counting_chain) (C_is_less:=C_is_less) (C_refuse_nought:=C_refuse_nought),PySem.W.mg_of X G a19,k19,(F_how_many.binds fun _ _ _ _ _ _ us hl=>jT (g:=fun us=>bindArgs _ ⟨us,[]⟩) (z:=fun us=>pure (List.zip _ us)) us hl fun _ _ _=>rfl)⟩
 have CX_how_many:wm l.prog w K mg base "how_many" ["f", "low", "high"] 6 (dQ e1 K):=⟨_,_,nR F_how_many T xo (PySem.W.mg_of X G n1) (C_count_between:=C_count_between) (C_counting_chain:=C_counting_chain) (C_is_less:=C_is_less) (C_refuse_nought:=C_refuse_nought) (CX_refuse_nought:=CX_refuse_nought),PySem.W.mg_of X G a19,k19,(F_how_many.binds fun _ _ _ _ _ _ us hl=>jT (g:=fun us=>bindArgs _ ⟨us,[]⟩) (z:=fun us=>pure (List.zip _ us)) us hl fun _ _ _=>rfl)⟩
 have zFcell_at:=aH (st:=fE) l20 c20 k20
 have zCcell_at:bU l.prog w K mg base "_law_cell_at" ["_law_script", "_law_k"] 1 (iB K):=⟨_,_,uH zFcell_at T ,PySem.W.mg_of X G a20,k20,(zFcell_at.binds fun _ _ _ _ _ _ us hl=>cH (g:=fun us=>bindArgs _ ⟨us,[]⟩) (z:=fun us=>pure (List.zip _ us)) us hl fun _ _=>rfl)⟩
 have zFstate:=aH (st:=iC) l21 c21 k21
 have zCstate:bU l.prog w K mg base "_law_state" ["_law_script", "_law_k"] 2 (km K):=⟨_,_,Au zFstate T (zCcell_at:=zCcell_at),PySem.W.mg_of X G a21,k21,(zFstate.binds fun _ _ _ _ _ _ us hl=>cH (g:=fun us=>bindArgs _ ⟨us,[]⟩) (z:=fun us=>pure (List.zip _ us)) us hl fun _ _=>rfl)⟩
 have zFtake:=aH (st:=jL) l22 c22 k22
 have zCtake:bU l.prog w K mg base "_law_take" ["_law_state_here", "_law_many"] 1 (ig K):=⟨_,_,Dn zFtake T ,PySem.W.mg_of X G a22,k22,(zFtake.binds fun _ _ _ _ _ _ us hl=>cH (g:=fun us=>bindArgs _ ⟨us,[]⟩) (z:=fun us=>pure (List.zip _ us)) us hl fun _ _=>rfl)⟩
 have zFdivisor:=aH (st:=fw) l23 c23 k23
 have zCdivisor:bU l.prog w K mg base "_law_divisor" ["_law_one", "_law_other"] 1 (iw K):=⟨_,_,vk zFdivisor T ,PySem.W.mg_of X G a23,k23,(zFdivisor.binds fun _ _ _ _ _ _ us hl=>cH (g:=fun us=>bindArgs _ ⟨us,[]⟩) (z:=fun us=>pure (List.zip _ us)) us hl fun _ _=>rfl)⟩
 have zFlow:=aH (st:=mX) l24 c24 k24
 have zClow:bU l.prog w K mg base "_law_low" ["_law_top", "_law_bottom"] 2 (jW K):=⟨_,_,DS zFlow T (N_:=N_) (zCdivisor:=zCdivisor),PySem.W.mg_of X G a24,k24,(zFlow.binds fun _ _ _ _ _ _ us hl=>cH (g:=fun us=>bindArgs _ ⟨us,[]⟩) (z:=fun us=>pure (List.zip _ us)) us hl fun _ _=>rfl)⟩
 have zFsmall:=aH (st:=iH) l25 c25 k25
 have zCsmall:bU l.prog w K mg base "_law_small" ["_law_state_here"] 3 (gD K):=⟨_,_,yP zFsmall T (zClow:=zClow) (zCtake:=zCtake),PySem.W.mg_of X G a25,k25,(zFsmall.binds fun _ _ _ _ _ _ us hl=>dy (g:=fun us=>bindArgs _ ⟨us,[]⟩) (z:=fun us=>pure (List.zip _ us)) us hl fun _=>rfl)⟩
 have zFplus:=aH (st:=jJ) l28 c28 k28
 have zCplus:bU l.prog w K mg base "_law_plus" ["_law_one", "_law_other"] 3 (jG K):=⟨_,_,DB zFplus T (zClow:=zClow),PySem.W.mg_of X G a28,k28,(zFplus.binds fun _ _ _ _ _ _ us hl=>cH (g:=fun us=>bindArgs _ ⟨us,[]⟩) (z:=fun us=>pure (List.zip _ us)) us hl fun _ _=>rfl)⟩
 have zFfactors:=aH (st:=fv) l26 c26 k26
 have zCfactors:bU l.prog w K mg base "_law_factors" ["_law_state_here", "_law_most"] 4 (ir K):=⟨_,_,uP zFfactors T (zCsmall:=zCsmall) (zCtake:=zCtake) (zCplus:=zCplus),PySem.W.mg_of X G a26,k26,(zFfactors.binds fun _ _ _ _ _ _ us hl=>cH (g:=fun us=>bindArgs _ ⟨us,[]⟩) (z:=fun us=>pure (List.zip _ us)) us hl fun _ _=>rfl)⟩
 have zFclean:=aH (st:=iA) l27 c27 k27
 have zCclean:bU l.prog w K mg base "_law_clean" ["_law_numbers"] 1 (kw K):=⟨_,_,zM zFclean T ,PySem.W.mg_of X G a27,k27,(zFclean.binds fun _ _ _ _ _ _ us hl=>dy (g:=fun us=>bindArgs _ ⟨us,[]⟩) (z:=fun us=>pure (List.zip _ us)) us hl fun _=>rfl)⟩
 have zFtimes:=aH (st:=iK) l29 c29 k29
 have zCtimes:bU l.prog w K mg base "_law_times" ["_law_one", "_law_other"] 3 (iI K):=⟨_,_,yX zFtimes T (zClow:=zClow),PySem.W.mg_of X G a29,k29,(zFtimes.binds fun _ _ _ _ _ _ us hl=>cH (g:=fun us=>bindArgs _ ⟨us,[]⟩) (z:=fun us=>pure (List.zip _ us)) us hl fun _ _=>rfl)⟩
 have zFmultiplied:=aH (st:=cU) l30 c30 k30
 have zCmultiplied:bU l.prog w K mg base "_law_multiplied" ["_law_f", "_law_g"] 4 (fh K):=⟨_,_,oo zFmultiplied T (zCclean:=zCclean) (zCplus:=zCplus) (zCtimes:=zCtimes),PySem.W.mg_of X G a30,k30,(zFmultiplied.binds fun _ _ _ _ _ _ us hl=>cH (g:=fun us=>bindArgs _ ⟨us,[]⟩) (z:=fun us=>pure (List.zip _ us)) us hl fun _ _=>rfl)⟩
 have zFof_factors:=aH (st:=cS) l31 c31 k31
 have zCof_factors:bU l.prog w K mg base "_law_of_factors" ["_law_factors_here"] 5 (fj K):=⟨_,_,ot zFof_factors T (zCmultiplied:=zCmultiplied),PySem.W.mg_of X G a31,k31,(zFof_factors.binds fun _ _ _ _ _ _ us hl=>dy (g:=fun us=>bindArgs _ ⟨us,[]⟩) (z:=fun us=>pure (List.zip _ us)) us hl fun _=>rfl)⟩
 have zFsigned:=aH (st:=gh) l32 c32 k32
 have zCsigned:bU l.prog w K mg base "_law_signed" ["_law_x"] 4 (gY K):=⟨_,_,wo zFsigned T (zCtimes:=zCtimes),PySem.W.mg_of X G a32,k32,(zFsigned.binds fun _ _ _ _ _ _ us hl=>dy (g:=fun us=>bindArgs _ ⟨us,[]⟩) (z:=fun us=>pure (List.zip _ us)) us hl fun _=>rfl)⟩
 have zFless:=aH (st:=jv) l33 c33 k33
 have zCless:bU l.prog w K mg base "_law_less" ["_law_one", "_law_other"] 1 (iY K):=⟨_,_,Cd zFless T ,PySem.W.mg_of X G a33,k33,(zFless.binds fun _ _ _ _ _ _ us hl=>cH (g:=fun us=>bindArgs _ ⟨us,[]⟩) (z:=fun us=>pure (List.zip _ us)) us hl fun _ _=>rfl)⟩
 have zFmarks:=aH (st:=ix) l34 c34 k34
 have zCmarks:bU l.prog w K mg base "_law_marks" ["_law_factors_here"] 5 (ko K):=⟨_,_,zO zFmarks T (zCless:=zCless) (zCsigned:=zCsigned),PySem.W.mg_of X G a34,k34,(zFmarks.binds fun _ _ _ _ _ _ us hl=>dy (g:=fun us=>bindArgs _ ⟨us,[]⟩) (z:=fun us=>pure (List.zip _ us)) us hl fun _=>rfl)⟩
 have zFinside:=aH (st:=gi) l35 c35 k35
 have zCinside:bU l.prog w K mg base "_law_inside" ["_law_marks_here", "_law_low_here", "_law_high"] 5 (ju K):=⟨_,_,vL zFinside T (zCless:=zCless) (zCsigned:=zCsigned),PySem.W.mg_of X G a35,k35,(zFinside.binds fun _ _ _ _ _ _ us hl=>jT (g:=fun us=>bindArgs _ ⟨us,[]⟩) (z:=fun us=>pure (List.zip _ us)) us hl fun _ _ _=>rfl)⟩
 have zFrefused:=aH (st:=fG) l36 c36 k36
 have R_:tY l.prog w K mg base 8:=⟨_,PySem.W.mg_of X G a36,k36,fun A outer s H p C i Q hr e0 L Z hi hq=>uz zFrefused T (zFrefused.binds fun _ _ _ _ _ _ us hl=>dy (g:=fun us=>bindArgs _ ⟨us,[]⟩) (z:=fun us=>pure (List.zip _ us)) us hl fun _=>rfl) hr e0 L Z hi hq⟩
 have zFends:=aH (st:=jN) l37 c37 k37
 have zCends:bU l.prog w K mg base "_law_ends" ["_law_state_here", "_law_factors_here"] 4 (oi K):=⟨_,_,Cz zFends T (zCtake:=zCtake) (zCsmall:=zCsmall),PySem.W.mg_of X G a37,k37,(zFends.binds fun _ _ _ _ _ _ us hl=>cH (g:=fun us=>bindArgs _ ⟨us,[]⟩) (z:=fun us=>pure (List.zip _ us)) us hl fun _ _=>rfl)⟩
 have M_law:Fu K mg base (PySem.W.fnOf "law" "law" (ax fJ) (aq fJ) (ag fJ) .none kV38 dc38 pm38 an38 cd38 ct38) 381 379:=⟨m38,PySem.W.codeHd_of_K kb o38,hB⟩
 have F_law:=aH (st:=fJ) l38 c38 k38
 exact Cy F_law T M_law R_ Z_ (C_how_many:=C_how_many) (zCless:=zCless) (zCinside:=zCinside) (zCends:=zCends) (zCmarks:=zCmarks) (zCof_factors:=zCof_factors) (zCfactors:=zCfactors) (zCstate:=zCstate) (CX_how_many:=CX_how_many)
theorem walk{l:PySem.W.OpenLaw}{q:Program}{loose:List Str}{XP:(Str->Option Value)->Heap->Prop}{YP:World->Heap->Prop}{d:DefRec}{K:Params->W.Frag}(hn:l.most=some 63)(hdf:d.params.defaults=[])(hi:PyProof.Rows.importsNone q=true)
  (hY:∀ (w:World)(h:Heap),YP w h->(K w.params).In h /\ ∀ q ∈ ([(381,379)]:List (Addr × Addr)),PySem.W.codeHdIn (K w.params) q.1 q.2=true/\(K w.params).lookup q.2=none/\h.get? q.2=some (PySem.W.tabObj #[]))
  (F:∀ (w:World)(mg:Str->Option Value)(fa:Addr)(h:Heap),(K w.params).In h->h.Ns mainGlobals mg->mg d.name=some (.ref fa) ->
   ∃ fd:FuncData,(∀ (s:Shared)(u:Value),BindsTo s fd ⟨[u],[]⟩ [("_law_script",u)]) /\ ∀ base:Heap,(K w.params).In base->base.Ns mainGlobals mg->sv mg base->base.NoSeer->bB l.prog w (K w.params) mg base dZ 10 fa fd ["_law_script"] (spLaw (K w.params))) :
  PySem.W.WalkO q loose XP YP l.row.toRowW d [] (fun f vs=>PySem.call f vs) :=
 L2.walk_ofM (ts:=fun _=>[(381,379)]) (n:=63) (k:=10) (x:="_law_script") (CX:=fun _=>dZ) (sp:=fun w=>spLaw (K w.params)) hn (by decide) hdf ⟨rfl,by decide,by decide⟩ hi hY F (fun _ _ a ns hl hT hK hS=>⟨a,ns,rfl,.of hS hK,hl,.start (hT (381,379) (by simp)),fun _=>rfl⟩) fun _ _ _ _ _ z=>z
end M
open PySem PySem.W PyProof.Rows
inductive PySem.W.Fast.tw11266082978075524171 : Type
inductive PySem.W.Fast.tw15668358173717647775 : Type
inductive PySem.W.Fast.tw10351527507747263838 : Type
inductive PySem.W.Fast.tw8226719408587065059 : Type
inductive PySem.W.Fast.tw9849610955009087418 : Type
inductive PySem.W.Fast.tw17521936454510577575 : Type
inductive PySem.W.Fast.tw16670228334811359734 : Type
inductive PySem.W.Fast.tw7339437559640526673 : Type
set_option maxRecDepth 100000 in
set_option maxHeartbeats 0 in
theorem PySem.Challenge.cw_momentwright_k14_how_many_roots_holds : PySem.Challenge.rw_momentwright_k14_how_many_roots.Holds := by
 w_on;o_law;k_head;(case hw=>w_witness2)
 k_fill
 refine M.walk (l:=PySem.Challenge.rw_momentwright_k14_how_many_roots) rfl rfl ?hi (fun w h Y=>⟨PySem.W.km_in_of Y,?T⟩) ?F
 case hi=>exact (by decide +kernel)
 case T =>
  have hT:=PySem.W.km_tabs_of Y
  intro q hq
  simp only[List.mem_cons,List.not_mem_nil,or_false] at hq
  rcases hq with rfl
  ·exact⟨by kernel_rfl,by kernel_rfl,hT _ (by simp)⟩
 case F =>
  intro w mg fa h KX G hmg
  refine' M.all_mk KX G hmg rfl ?a0 ?l0 ?c0 ?k0 ?a1 ?l1 ?c1 ?k1 ?a2 ?l2 ?c2 ?k2 ?a3 ?l3 ?c3 ?k3 ?a4 ?l4 ?c4 ?k4 ?a5 ?l5 ?c5 ?k5 ?a6 ?l6 ?c6 ?k6 ?a7 ?l7 ?c7 ?k7 ?a8 ?l8 ?c8 ?k8 ?a9 ?l9 ?c9 ?k9 ?a10 ?l10 ?c10 ?k10 ?a11 ?l11 ?c11 ?k11 ?a12 ?l12 ?c12 ?k12 ?a13 ?l13 ?c13 ?k13 ?a14 ?l14 ?c14 ?k14 ?a15 ?l15 ?c15 ?k15 ?a16 ?l16 ?c16 ?k16 ?a17 ?l17 ?c17 ?k17 ?a18 ?l18 ?c18 ?k18 ?a19 ?l19 ?c19 ?k19 ?a20 ?l20 ?c20 ?k20 ?a21 ?l21 ?c21 ?k21 ?a22 ?l22 ?c22 ?k22 ?a23 ?l23 ?c23 ?k23 ?a24 ?l24 ?c24 ?k24 ?a25 ?l25 ?c25 ?k25 ?a26 ?l26 ?c26 ?k26 ?a27 ?l27 ?c27 ?k27 ?a28 ?l28 ?c28 ?k28 ?a29 ?l29 ?c29 ?k29 ?a30 ?l30 ?c30 ?k30 ?a31 ?l31 ?c31 ?k31 ?a32 ?l32 ?c32 ?k32 ?a33 ?l33 ?c33 ?k33 ?a34 ?l34 ?c34 ?k34 ?a35 ?l35 ?c35 ?k35 ?a36 ?l36 ?c36 ?k36 ?a37 ?l37 ?c37 ?k37 ?a38 ?l38 ?c38 ?k38   ?z0 ?z1 ?z2 ?z3 ?z4 ?z5 ?z6 ?z7 ?z8 ?z9 ?n0 ?n1 ?n2 ?n3 ?n4 ?n5 ?n6 ?n7 ?n8 ?nm ?xo ?q0 ?q1 ?q2 ?q3 ?q4 ?q5 ?q6 ?q7 ?q8 ?qm ?qv ?y1 ?y2 ?y3 ?y4 ?y5 ?y6 ?m38 ?o38
  (case a0=>k_is);(case l0=>k_is);(case c0=>k_is);(case k0=>k_is)
  (case a1=>k_is);(case l1=>k_is);(case c1=>k_is);(case k1=>k_is)
  (case a2=>k_is);(case l2=>k_is);(case c2=>k_is);(case k2=>k_is)
  (case a3=>k_is);(case l3=>k_is);(case c3=>k_is);(case k3=>k_is)
  (case a4=>k_is);(case l4=>k_is);(case c4=>k_is);(case k4=>k_is)
  (case a5=>k_is);(case l5=>k_is);(case c5=>k_is);(case k5=>k_is)
  (case a6=>k_is);(case l6=>k_is);(case c6=>k_is);(case k6=>k_is)
  (case a7=>k_is);(case l7=>k_is);(case c7=>k_is);(case k7=>k_is)
  (case a8=>k_is);(case l8=>k_is);(case c8=>k_is);(case k8=>k_is)
  (case a9=>k_is);(case l9=>k_is);(case c9=>k_is);(case k9=>k_is)
  (case a10=>k_is);(case l10=>k_is);(case c10=>k_is);(case k10=>k_is)
  (case a11=>k_is);(case l11=>k_is);(case c11=>k_is);(case k11=>k_is)
  (case a12=>k_is);(case l12=>k_is);(case c12=>k_is);(case k12=>k_is)
  (case a13=>k_is);(case l13=>k_is);(case c13=>k_is);(case k13=>k_is)
  (case a14=>k_is);(case l14=>k_is);(case c14=>k_is);(case k14=>k_is)
  (case a15=>k_is);(case l15=>k_is);(case c15=>k_is);(case k15=>k_is)
  (case a16=>k_is);(case l16=>k_is);(case c16=>k_is);(case k16=>k_is)
  (case a17=>k_is);(case l17=>k_is);(case c17=>k_is);(case k17=>k_is)
  (case a18=>k_is);(case l18=>k_is);(case c18=>k_is);(case k18=>k_is)
  (case a19=>k_is);(case l19=>k_is);(case c19=>k_is);(case k19=>k_is)
  (case a20=>k_is);(case l20=>k_is);(case c20=>k_is);(case k20=>k_is)
  (case a21=>k_is);(case l21=>k_is);(case c21=>k_is);(case k21=>k_is)
  (case a22=>k_is);(case l22=>k_is);(case c22=>k_is);(case k22=>k_is)
  (case a23=>k_is);(case l23=>k_is);(case c23=>k_is);(case k23=>k_is)
  (case a24=>k_is);(case l24=>k_is);(case c24=>k_is);(case k24=>k_is)
  (case a25=>k_is);(case l25=>k_is);(case c25=>k_is);(case k25=>k_is)
  (case a26=>k_is);(case l26=>k_is);(case c26=>k_is);(case k26=>k_is)
  (case a27=>k_is);(case l27=>k_is);(case c27=>k_is);(case k27=>k_is)
  (case a28=>k_is);(case l28=>k_is);(case c28=>k_is);(case k28=>k_is)
  (case a29=>k_is);(case l29=>k_is);(case c29=>k_is);(case k29=>k_is)
  (case a30=>k_is);(case l30=>k_is);(case c30=>k_is);(case k30=>k_is)
  (case a31=>k_is);(case l31=>k_is);(case c31=>k_is);(case k31=>k_is)
  (case a32=>k_is);(case l32=>k_is);(case c32=>k_is);(case k32=>k_is)
  (case a33=>k_is);(case l33=>k_is);(case c33=>k_is);(case k33=>k_is)
  (case a34=>k_is);(case l34=>k_is);(case c34=>k_is);(case k34=>k_is)
  (case a35=>k_is);(case l35=>k_is);(case c35=>k_is);(case k35=>k_is)
  (case a36=>k_is);(case l36=>k_is);(case c36=>k_is);(case k36=>k_is)
  (case a37=>k_is);(case l37=>k_is);(case c37=>k_is);(case k37=>k_is)
  (case a38=>k_is);(case l38=>k_is);(case c38=>k_is);(case k38=>k_is)
  (case z0=>k_is)
  (case z1=>k_is)
  (case z2=>k_is)
  (case z3=>k_is)
  (case z4=>k_is)
  (case z5=>k_is)
  (case z6=>k_is)
  (case z7=>k_is)
  (case z8=>k_is)
  (case z9=>k_is)
  (case n0=>k_is)
  (case n1=>k_is)
  (case n2=>k_is)
  (case n3=>k_is)
  (case n4=>k_is)
  (case n5=>k_is)
  (case n6=>k_is)
  (case n7=>k_is)
  (case n8=>k_is)
  (case nm=>k_is)
  (case xo=>show PySem.W.excIn _ _ _ _=true;kernel_rfl)
  (case q0=>kernel_rfl)
  (case q1=>kernel_rfl)
  (case q2=>kernel_rfl)
  (case q3=>kernel_rfl)
  (case q4=>kernel_rfl)
  (case q5=>kernel_rfl)
  (case q6=>kernel_rfl)
  (case q7=>kernel_rfl)
  (case q8=>kernel_rfl)
  (case qm=>kernel_rfl)
  (case qv=>kernel_rfl)
  (case y1=>kernel_rfl)
  (case y2=>kernel_rfl)
  (case y3=>kernel_rfl)
  (case y4=>kernel_rfl)
  (case y5=>kernel_rfl)
  (case y6=>kernel_rfl)
  (case m38=>rfl)
  (case o38=>kernel_rfl)
#print axioms PySem.Challenge.cw_momentwright_k14_how_many_roots_holds

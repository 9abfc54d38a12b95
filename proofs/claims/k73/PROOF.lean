import PyProof.Rows.All
import Wide.All
import OpenK.AllK
import Wide.FinOn
import Lean
import PyProof.EqAt
import PyProof.EqKinds
import PyProof.TupleCall
import PySem.Challenge.RW_momentwright_k73_whole_from_a_spot_on
set_option compiler.extract_closed false
local macro_rules | `(tactic| walk_at "o")=>`(tactic| first | lia | omega)
local macro_rules | `(tactic| walk_at "a1")=>`(tactic| first | exact Or.inl rfl | exact Or.inr rfl)
local macro_rules | `(tactic| walk_at "a2")=>`(tactic| first | decide | walk_at "o")
local macro_rules | `(tactic| walk_at "a3")=>`(tactic| exact ⟨rfl,rfl,rfl,by decide +kernel,rfl,by decide +kernel,by decide +kernel⟩)
set_option Elab.async false
set_option linter.all false
set_option maxRecDepth 100000
namespace L2
open PySem PySem.Spec PyProof.Rows
abbrev rP:=Sum Int Str
def C5:rP->Value->Bool
 | .inl k,v=>Value.isInt k v
 | .inr x,v=>Value.isStrOf x v
def Hj(w:World):rP->Int
 | .inl k=>hashInt k
 | .inr x=>hashStr w x
theorem cL:∀{k:rP}{v:Value},C5 k v=true->(∃ i t,k=Sum.inl i/\v=Value.int i t)\/(∃ x t,k=Sum.inr x/\v=Value.str x t)
 | .inl i,v,h=>by
  obtain⟨t,e⟩:=Value.isInt_shape (k:=i) (v:=v) h
  exact .inl ⟨i,t,rfl,e⟩
 | .inr x,v,h=>by
  obtain⟨t,e⟩:=Value.isStrOf_shape (x:=x) (v:=v) h
  exact .inr ⟨x,t,rfl,e⟩
theorem FB(a b:Int):decide ((Sum.inl a:rP)=Sum.inl b)=(a == b):=by
 by_cases e:a=b
 ·subst e;simp
 ·have h:¬ (Sum.inl a:rP)=Sum.inl b:=fun q=>e (Sum.inl.inj q)
  rw[decide_eq_false h]
  exact (beq_eq_false_iff_ne.mpr e).symm
theorem DL(a b:Str):decide ((Sum.inr a:rP)=Sum.inr b)=decide (a=b):=by
 by_cases e:a=b
 ·subst e;simp
 ·have h:¬ (Sum.inr a:rP)=Sum.inr b:=fun q=>e (Sum.inr.inj q)
  rw[decide_eq_false h,decide_eq_false e]
theorem Ef(a:Int)(b:Str):decide ((Sum.inl a:rP)=Sum.inr b)=false:=decide_eq_false (fun q=>nomatch q)
theorem Fj(a:Str)(b:Int):decide ((Sum.inr a:rP)=Sum.inl b)=false:=decide_eq_false (fun q=>nomatch q)
def qO(prog:Program)(w:World):PySem.KeyKind prog w rP where
 is:=C5
 hash:=Hj w
 inj:=fun v a b ha hb=>by
  rcases cL ha with ⟨i,t,rfl,rfl⟩|⟨x,t,rfl,rfl⟩
  ·rcases cL hb with ⟨j,u,rfl,e⟩|⟨y,u,rfl,e⟩
   ·injection e with e1 _;rw[e1]
   ·exact nomatch e
  ·rcases cL hb with ⟨j,u,rfl,e⟩|⟨y,u,rfl,e⟩
   ·exact nomatch e
   ·injection e with e1 _;rw[e1]
 byValue:=fun k v h=>by
  rcases cL h with ⟨i,t,rfl,rfl⟩|⟨x,t,rfl,rfl⟩ <;> rfl
 pyHash:=fun hv h=>by
  rcases cL hv with ⟨i,t,rfl,rfl⟩|⟨x,t,rfl,rfl⟩
  ·exact wpAny_pyHash_int h
  ·exact wpAny_pyHash_str h
 eqBool:=fun hu hv h=>by
  rcases cL hu with ⟨i,t,rfl,rfl⟩|⟨x,t,rfl,rfl⟩
  ·rcases cL hv with ⟨j,u,rfl,rfl⟩|⟨y,u,rfl,rfl⟩
   ·rw[FB] at h;exact wpAny_eqBool_int h
   ·rw[Ef] at h;exact SeqAt.EqAt.int_str i t y u _ _ _ _ h
  ·rcases cL hv with ⟨j,u,rfl,rfl⟩|⟨y,u,rfl,rfl⟩
   ·rw[Fj] at h;exact SeqAt.EqAt.str_int x t j u _ _ _ _ h
   ·rw[DL] at h;exact wpAny_eqBool_str h
 «strs»:=fun k x t v h=>by
  rcases cL h with ⟨i,u,rfl,e⟩|⟨y,u,rfl,e⟩
  ·exact nomatch e
  ·injection e with e1 _
   subst e1
   cases v <;> rfl
end L2
namespace L2
open PySem PySem.Spec PyProof.Rows
inductive V where
 | non|bl (b:Bool)|int (i:Int)|str (x:Str)|byt (b:Array UInt8)|flt (b:UInt64)|ref (a:Addr)|ty (n:String)
 deriving DecidableEq
def bX:V->Value->Prop
 | .non,u=>u=Value.none
 | .bl b,u=>u=Value.bool b
 | .int i,u=>∃ t,u=Value.int i t
 | .str x,u=>∃ t,u=Value.str x t
 | .byt b,u=>∃ t,u=Value.bytes b t
 | .flt b,u=>∃ t,u=Value.float b t
 | .ref a,u=>u=Value.ref a
 | .ty n,u=>u=Value.type n
abbrev bA:List V->List Value->Prop:=Paired bX
theorem bA.length{xs:List V}{us:List Value}(r:bA xs us):xs.length=us.length:=Paired.length r
theorem bA.get:∀{xs:List V}{us:List Value}{i:Nat}{x:V},bA xs us->xs[i]? = some x -> ∃ u,us[i]? = some u/\bX x u
 | _,_,_,_,.nil,e=>by simp at e
 | _,_,0,_,.cons r _,e=>by simp at e;subst e;exact⟨_,rfl,r⟩
 | _,_,i+1,x,.cons _ t,e=>by
  obtain⟨u,h1,h2⟩:=bA.get (i:=i) (x:=x) t (by simpa using e)
  exact⟨u,by simpa using h1,h2⟩
theorem bA.set{x:V}{u:Value}(r:bX x u):∀ {xs:List V}{us:List Value}(i:Nat),bA xs us->bA (xs.set i x) (us.set i u)
 | _,_,_,.nil=>.nil
 | _,_,0,.cons _ t=>.cons r t
 | _,_,i+1,.cons q t=>.cons q (bA.set r i t)
theorem bA.append:∀{xs ys:List V}{us ws:List Value},bA xs us->bA ys ws->bA (xs ++ ys) (us ++ ws)
 | _,_,_,_,.nil,s=>s
 | _,_,_,_,.cons r t,s=>.cons r (bA.append t s)
theorem bA.take:∀{xs:List V}{us:List Value}(n:Nat),bA xs us->bA (xs.take n) (us.take n)
 | _,_,0,_=>.nil
 | _,_,_+1,.nil=>.nil
 | _,_,n+1,.cons r t=>.cons r (bA.take n t)
theorem bA.drop:∀{xs:List V}{us:List Value}(n:Nat),bA xs us->bA (xs.drop n) (us.drop n)
 | _,_,0,r=>r
 | _,_,_+1,.nil=>.nil
 | _,_,n+1,.cons _ t=>bA.drop n t
def EZ:Option V->Option Value->Prop
 | some v,some u=>bX v u
 | none,none=>True
 | _,_=>False
def KV{κ:Type}:List (κ × V)->List (κ × Value)->Prop:=Paired fun (p:κ × V)(q:κ × Value)=>p.1=q.1/\bX p.2 q.2
def kV:rP->V
 | .inl i=>.int i
 | .inr x=>.str x
inductive HO where
 /-- a list -/
 | lst (xs:List V)
 /-- a tuple (never changes) -/
 | tup (xs:List V)
 /-- a dict whose keys are ints and texts;one whose keys are tuples of ints and texts (the empty one is both) -/
 | dK (kvs:List (rP × V))|dT (kvs:List (List rP × V))
 /-- a set of ints: its members,its size -/
 | set (S:Int->Bool)(n:Nat)
 /-- an instance of the class at C,its dict at dx,its attributes -/
 | ins (C dx:Addr)(fs:List (Str × V))
 /-- the dict of the instance at x -/
 | own (x:Addr)
 /-- the dict of an exception -/
 | xd (fs:List (Str × V))
 /-- a bound method,f of x -/
 | met (f x:Addr)
 /-- a range object lo,lo+1,.. below hi -/
 | rng (lo hi:Int)
 /-- a thing that is known to the object (the script;a dict while a loop walks it): read,never written while it is so -/
 | frz (o:Obj)(u:HO)
 /-- a code object's table -/
 | tbl (ps:Array Value)
 /-- any other thing,by what is true of its one object (a def of one's own: SetO a S n:=HO.ext fun h=>..) -/
 | ext (φ:Heap->Prop)
abbrev Hp:=Addr->Option HO
def upd(H:Hp)(a:Addr)(o:HO):Hp:=fun b=>if b=a then some o else H b
theorem cJ{H:Hp}{a:Addr}{o:HO}:upd H a o a=some o:=by unfold upd;rw[if_pos rfl]
theorem cm{H:Hp}{a b:Addr}{o:HO}(h:b ≠ a):upd H a o b=H b:=by unfold upd;rw[if_neg h]
theorem aj{H:Hp}{a b:Addr}{o:HO}(h:H a=some o)(h':H b=none):a ≠ b:=by
 intro e;subst e;rw[h] at h';cases h'
section
variable (P:Program)(w:World)
def fh(H:Hp)(h:Heap)(a:Addr):HO->Prop
 | .lst xs=>xs.length<=sizeLine /\ ∃ (its:List Value)(n:Nat),bA xs its/\h.get? a=some { cls:=.type "list",data:=.seq its.toArray n }
 | .tup xs=>xs.length<=sizeLine /\ ∃ its:List Value,bA xs its/\IsTup h a its.toArray
 | .dK kvs=>kvs.length<=sizeLine/\(a == sysModules)=false /\ ∃ vs,KV kvs vs/\h.DictOf (qO P w) a vs
 | .dT kvs=>kvs.length<=sizeLine/\(a == sysModules)=false /\ ∃ xs:List (List rP × Addr × Value),
   Paired (fun (p:List rP × V)(q:List rP × Addr × Value)=>p.1=q.1/\H q.2.1=some (.tup (p.1.map kV))/\bX p.2 q.2.2) kvs xs /\
   ∃ o es ep,h.get? a=some o/\o.ExactDict/\o.data = .dict es ep/\es.toList=xs.map (entryOfKey (tupleKind (qO P w)))/\(xs.map (·.1)).Nodup
 | .set S n=>h.SetOf (intKind P w) a S n
 | .ins C dx fs=>H dx=some (.own a)/\fs.length<=1000/\dx ≠ a/\h.get? a=some (PySem.W.instObj C dx) /\
   ∃ mA,h.Ns1 dx mA/\(∀ f,EZ (fs.lookup f) (mA f))/\PySem.Within mA (fs.map (·.1))
 | .own _=>∃ o,h.get? a=some o
 | .xd fs=>∃ mA,h.Ns1 a mA /\ ∀ f,EZ (fs.lookup f) (mA f)
 | .rng lo hi=>∃ t u v,h.get? a=some { cls:=.type "range",data:=.fields #[.int lo t,.int hi u,.int 1 v] }
 | .frz o u=>h.get? a=some o/\fh H h a u
 | .tbl ps=>h.get? a=some { cls:=.none,data:=.fields ps }
 | .met f x=>h.get? a=some (PySem.W.methodObj (.ref f) (.ref x))
 | .ext φ=>φ h/\(∃ o,h.get? a=some o) /\ ∀ h1 h2:Heap,φ h1->(∀ o,h1.get? a=some o->h2.get? a=some o)->φ h2
def mS(H:Hp)(h:Heap):Prop:=∀ a o,H a=some o->fh P w H h a o
end
section
variable {P:Program}{w:World}{H H':Hp}{h h':Heap}{a:Addr}{o:HO}
theorem fh.lt(x:fh P w H h a o):a<h.objs.size:=by
 cases o with
 | lst xs=>obtain⟨_,_,_,_,e⟩:=x;exact Heap.lt_size e
 | tup xs=>obtain⟨_,_,_,p⟩:=x;exact p.lt
 | dK kvs=>obtain⟨_,_,_,_,o,_,_,e,_⟩:=x;exact Heap.lt_size e
 | dT kvs=>obtain⟨_,_,_,_,o,_,_,e,_⟩:=x;exact Heap.lt_size e
 | set S n=>obtain⟨o,_,_,_,e,_⟩:=x;exact Heap.lt_size e
 | ins C dx fs=>obtain⟨_,_,_,e,_⟩:=x;exact Heap.lt_size e
 | own y=>obtain⟨_,e⟩:=x;exact Heap.lt_size e
 | xd fs=>obtain⟨_,⟨_,_,_,e,_⟩,_⟩:=x;exact Heap.lt_size e
 | rng lo hi=>obtain⟨_,_,_,e⟩:=x;exact Heap.lt_size e
 | frz ob u=>obtain⟨e,_⟩:=x;exact Heap.lt_size e
 | tbl ps=>exact Heap.lt_size (show h.get? a=some _ from x)
 | met f y=>exact Heap.lt_size (show h.get? a=some _ from x)
 | ext φ=>obtain⟨_,⟨_,e⟩,_⟩:=x;exact Heap.lt_size e
theorem Paired.mapP{α β:Type}{F G:α->β->Prop}:∀ {l₁:List α}{l₂:List β},Paired F l₁ l₂->(∀ a b,F a b->G a b)->Paired G l₁ l₂
 | _,_,.nil,_=>.nil
 | _,_,.cons r t,f=>.cons (f _ _ r) (Paired.mapP t f)
theorem fh.stay(x:fh P w H h a o)(k:∀ b u,(b=a\/H b=some (.own a))->h.get? b=some u->h'.get? b=some u)
  (ho:∀ b,H b=some (.own a)->H' b=some (.own a))(ht:∀ b xs,H b=some (.tup xs)->H' b=some (.tup xs)):fh P w H' h' a o:=by
 induction o with
 | lst xs=>obtain⟨z,its,n,r,e⟩:=x;exact⟨z,its,n,r,k _ _ (.inl rfl) e⟩
 | tup xs=>obtain⟨z,its,r,ob,e,c⟩:=x;exact⟨z,its,r,ob,k _ _ (.inl rfl) e,c⟩
 | dK kvs=>obtain⟨z,y,vs,r,ob,es,ep,e,c⟩:=x;exact⟨z,y,vs,r,ob,es,ep,k _ _ (.inl rfl) e,c⟩
 | dT kvs =>
  obtain⟨z,y,xs,r,ob,es,ep,e,c⟩:=x
  exact⟨z,y,xs,Paired.mapP r fun p q z=>⟨z.1,ht _ _ z.2.1,z.2.2⟩,ob,es,ep,k _ _ (.inl rfl) e,c⟩
 | set S n=>obtain⟨ob,es,ep,t,e,c⟩:=x;exact⟨ob,es,ep,t,k _ _ (.inl rfl) e,c⟩
 | ins C dx fs =>
  obtain⟨d,z,ne,e,mA,⟨od,es,ep,e2,c⟩,r⟩:=x
  exact⟨ho _ d,z,ne,k _ _ (.inl rfl) e,mA,⟨od,es,ep,k _ _ (.inr d) e2,c⟩,r⟩
 | own y=>obtain⟨ob,e⟩:=x;exact⟨ob,k _ _ (.inl rfl) e⟩
 | xd fs=>obtain⟨mA,⟨od,es,ep,e,c⟩,r⟩:=x;exact⟨mA,⟨od,es,ep,k _ _ (.inl rfl) e,c⟩,r⟩
 | rng lo hi=>obtain⟨t,u,v,e⟩:=x;exact⟨t,u,v,k _ _ (.inl rfl) e⟩
 | frz ob u ih=>obtain⟨e,q⟩:=x;exact⟨k _ _ (.inl rfl) e,ih q⟩
 | tbl ps =>
  have e:h.get? a=some { cls:=.none,data:=.fields ps }:=x
  show h'.get? a=some { cls:=.none,data:=.fields ps }
  exact k a _ (.inl rfl) e
 | met f y =>
  have e:h.get? a=some (PySem.W.methodObj (.ref f) (.ref y)):=x
  show h'.get? a=some (PySem.W.methodObj (.ref f) (.ref y))
  exact k a _ (.inl rfl) e
 | ext φ=>obtain⟨p,⟨o,e⟩,st⟩:=x;exact⟨st _ _ p fun o q=>k _ _ (.inl rfl) q,⟨o,k _ _ (.inl rfl) e⟩,st⟩
theorem mS.lt(x:mS P w H h)(e:H a=some o):a<h.objs.size:=(x a o e).lt
theorem mS.fresh(x:mS P w H h)(e:h.objs.size<=a):H a=none:=by
 cases q:H a with
 | none=>rfl
 | some u=>exact absurd (Nat.lt_of_lt_of_le (x.lt q) e) (Nat.lt_irrefl _)
theorem mS.kept(x:mS P w H h)(k:∀ b u,h.get? b=some u->h'.get? b=some u):mS P w H h':=fun a o e =>
 (x a o e).stay (fun b u _ q=>k b u q) (fun _ q=>q) fun _ _ q=>q
theorem mS.laid(x:mS P w H h)(k:∀ b u,h.get? b=some u->h'.get? b=some u)(hp:h.objs.size<=a)(new:fh P w (upd H a o) h' a o):mS P w (upd H a o) h':=fun b u e=>by
 have hn:=x.fresh hp
 by_cases hb:b=a
 ·subst hb;rw[cJ] at e;cases e;exact new
 ·rw[cm hb] at e
  exact (x b u e).stay (fun c v _ q=>k c v q) (fun c q=>by rw[cm (aj q hn)];exact q) fun c xs q=>by rw[cm (aj q hn)];exact q
end
def Rd(H:Hp)(a:Addr)(u:HO):Prop:=H a=some u \/ ∃ o,H a=some (.frz o u)
theorem Rd.ok{P:Program}{w:World}{H:Hp}{h:Heap}{a:Addr}{u:HO}(r:Rd H a u)(x:mS P w H h):fh P w H h a u:=by
 rcases r with r|⟨o,r⟩
 ·exact x a u r
 ·obtain⟨_,q⟩:=x a _ r
  exact q
def GH:Option HO->Prop
 | some (.lst _)=>True
 | some (.dK _)=>True
 | some (.dT _)=>True
 | some (.set _ _)=>True
 | some (.ins _ _ _)=>True
 | some (.ext _)=>True
 | _=>False
section
variable {P:Program}{w:World}{H:Hp}{h h':Heap}{x e:Addr}{o':HO}
theorem mS.write(ok:mS P w H h)(mu:GH (H x))(he:e=x\/H e=some (.own x))(k:∀ b u,b ≠ e->h.get? b=some u->h'.get? b=some u)(heo:∃ u,h'.get? e=some u)
  (new:fh P w (upd H x o') h' x o'):mS P w (upd H x o') h':=fun b u q=>by
 have nown:∀ c y,H c=some (.own y)->c ≠ x:=fun c y r z=>by subst z;rw[r] at mu;exact mu
 have ntup:∀ c xs,H c=some (.tup xs)->c ≠ x:=fun c xs r z=>by subst z;rw[r] at mu;exact mu
 by_cases hb:b=x
 ·subst hb;rw[cJ] at q;cases q;exact new
 ·rw[cm hb] at q
  by_cases hbe:b=e
  ·have q':H b=some (.own x):=by
    rcases he with z|z
    ·exact absurd (hbe.trans z) hb
    ·rw[hbe];exact z
   rw[q] at q';cases q'
   obtain⟨v,hv⟩:=heo
   exact⟨v,by rw[hbe];exact hv⟩
  ·refine (ok b u q).stay (fun c v hc r=>k c v ?_ r) (fun c r=>by rw[cm (nown c b r)];exact r) fun c xs r=>by rw[cm (ntup c xs r)];exact r
   rcases hc with rfl|hc
   ·exact hbe
   ·rintro rfl
    rcases he with z|z
    ·exact nown c b hc z
    ·rw[hc] at z;cases z;exact hb rfl
end
structure Un (fs ex:List Addr)(H H':Hp)(h h':Heap):Prop where
 keep:∀ b o,h.get? b=some o->H b=none->b ∉ fs->b ∉ ex->h'.get? b=some o
 slot:∀ b o,h.get? b=some o->H b=none->b ∈ fs->b ∉ ex -> ∃ sl,h'.get? b=some { o with slots:=sl }
 free:∀ b o,h.get? b=some o->H b=none->b ∉ ex->H' b=none
 there:∀ b o,h.get? b=some o->b ∉ ex -> ∃ o',h'.get? b=some o'
 tups:∀ b xs,H b=some (.tup xs)->H' b=some (.tup xs)
 frzs:∀ b o u,H b=some (.frz o u)->H' b=some (.frz o u)
 tbls:∀ b ps,H b=some (.tbl ps) -> ∃ more,H' b=some (.tbl (ps ++ more))
section
variable {fs fs' ex ex':List Addr}{H H1 H2:Hp}{h h1 h2 h':Heap}{a x e:Addr}{o:HO}
theorem Un.any(u:Un fs ex H H1 h h1) {b:Addr}{ob:Obj}(q:h.get? b=some ob)(n:H b=none)(hx:b ∉ ex):∃ sl,h1.get? b=some { ob with slots:=sl }:=by
 by_cases hb:b ∈ fs
 ·exact u.slot b ob q n hb hx
 ·exact⟨ob.slots,u.keep b ob q n hb hx⟩
theorem Un.kept(k:∀ b u,h.get? b=some u->h'.get? b=some u):Un fs ex H H h h' :=
 ⟨fun b ob q _ _ _=>k b ob q,fun b ob q _ _ _=>⟨ob.slots,k b ob q⟩,fun _ _ _ n _=>n,fun b ob q _=>⟨ob,k b ob q⟩,fun _ _ q=>q,fun _ _ _ q=>q,fun _ ps q=>⟨#[],by rw[q];simp⟩⟩
theorem Un.refl:Un fs ex H H h h:=Un.kept fun _ _ q=>q
theorem Un.laid(k:∀ b u,h.get? b=some u->h'.get? b=some u)(hp:h.objs.size<=a)(hn:H a=none):Un fs ex H (upd H a o) h h' where
 keep:=fun b u q _ _ _=>k b u q
 slot:=fun b u q _ _ _=>⟨u.slots,k b u q⟩
 free:=fun b u q n _=>by rw[cm (Nat.ne_of_lt (Nat.lt_of_lt_of_le (Heap.lt_size q) hp))];exact n
 there:=fun b u q _=>⟨u,k b u q⟩
 tups:=fun b xs q=>by rw[cm (aj q hn)];exact q
 frzs:=fun b u xs q=>by rw[cm (aj q hn)];exact q
 tbls:=fun b ps q=>⟨#[],by rw[cm (aj q hn),q];simp⟩
theorem Un.write(mu:GH (H x))(he:e=x\/H e=some (.own x))(k:∀ b u,b ≠ e->h.get? b=some u->h'.get? b=some u)(heo:∃ u,h'.get? e=some u):Un fs ex H (upd H x o) h h':=by
 have hx:∀ b,H b=none->b ≠ x:=fun b n z=>by subst z;rw[n] at mu;exact mu
 have hb:∀ b,H b=none->b ≠ e:=fun b n z=>by
  subst z
  rcases he with r|r
  ·exact hx b n r
  ·rw[n] at r;cases r
 have hm:∀ b u,H b=some u -> ¬ GH (some u)->b ≠ x:=fun b u q nm z=>by subst z;rw[q] at mu;exact nm mu
 refine⟨fun b u q n _ _=>k b u (hb b n) q,fun b u q n _ _=>⟨u.slots,k b u (hb b n) q⟩,fun b u q n _=>by rw[cm (hx b n)];exact n,fun b u q _=>?_,
  fun b xs q=>by rw[cm (hm b _ q fun z=>z)];exact q,fun b u xs q=>by rw[cm (hm b _ q fun z=>z)];exact q,fun b ps q=>⟨#[],by rw[cm (hm b _ q fun z=>z),q];simp⟩⟩
 by_cases hbe:b=e
 ·subst hbe;exact heo
 ·exact⟨u,k b u hbe q⟩
end
def GD(h:Heap)(H:Hp):List Addr:=(List.range h.objs.size).filter fun a=>(H a).isSome
def nL(h:Heap)(H:Hp):Heap:=PySem.W.hideAll h (GD h H)
theorem xt(h:Heap)(H:Hp):(nL h H).objs.size=h.objs.size:=PySem.W.hideAll_size _ _
theorem zY{h:Heap}{H:Hp}{b:Addr}{o:Obj}(e:h.get? b=some o)(n:H b=none):(nL h H).get? b=some o :=
 PySem.W.hideAll_get _ e fun hm=>by
  have q:(H b).isSome=true:=(List.mem_filter.mp hm).2
  rw[n] at q;simp at q
theorem BP{h:Heap}{H:Hp}{b:Addr}{o:Obj}(e:(nL h H).get? b=some o):h.get? b=some o/\H b=none:=by
 have e':h.get? b=some o:=PySem.W.of_hideAll (GD h H) e
 refine⟨e',?_⟩
 cases q:H b with
 | none=>rfl
 | some x =>
  have hm:b ∈ GD h H:=List.mem_filter.mpr ⟨List.mem_range.mpr (Heap.lt_size e'),by simp[q]⟩
  have z:(nL h H).get? b=none:=PySem.W.hideAll_none (GD h H) hm
  rw[z] at e;cases e
def Ca(g h:Heap)(L:Addr):List (Addr × Obj):=(List.range h.objs.size).filterMap fun a=>if a=L\/(g.get? a).isSome=true then none else (h.get? a).map fun o=>(a,o)
def rest(g h:Heap)(L d:Addr):List (Addr × Obj):=(Ca g h L).filter fun p=>decide (p.1 ≠ d)
end L2
namespace L2
open PySem PySem.Spec PyProof.Rows
structure Mod (K:W.Frag)(mg:Str->Option Value)(base:Heap):Prop where
 kin:K.In base
 glob:base.Ns mainGlobals mg
 blt:∃ mb,base.Ns builtinsNs mb /\ ∀ x:Str,x ≠ "__name__" -> mb x=bootBuiltins x
 nolimit:base.NoLimit
structure Cx where
 prog:Program
 w:World
 K:W.Frag
 mg:Str->Option Value
 base:Heap
 A:Around
 N:List Str
 s₀:Shared
 H₀:Hp
 env:Env
 outer:List Env
 stack:List Env
 ex:List Addr
 fn:Str->Bool
 calm:Bool
 pn:List (Addr × Obj)
 xe:Value->Shared->Prop
def yg(l:List Env):List Addr:=l.filterMap (·.frame)
abbrev Cx.fs (X:Cx):List Addr:=yg X.outer
def Gv(sc:Scope)(x:Str):Prop:=sc.names.lookup x=some .local\/sc.names.lookup x=some .cell\/sc.names.lookup x=some .free
def AM(sc:Scope)(x:Str):Prop:=sc.names.lookup x=some .local\/sc.names.lookup x=some .cell
def G4(env:Env)(h:Heap)(m:Str->Option Value)(x:Str)(u:Value):Prop :=
 (env.kindOf x=some .local/\m x=some u)\/((env.kindOf x=some .cell\/env.kindOf x=some .free) /\ ∃ c,env.cells.lookup x=some c/\h.IsCell c (some u))
structure Cx.Ok (X:Cx):Prop where
 mod:Mod X.K X.mg X.base
 kind:X.env.scope.kind = .function
 glob:X.env.globals=mainGlobals
 blt:X.env.builtins=builtinsNs
 above:X.s₀.heap.objs.size<=X.env.locals
 inj:∀ x y c,X.env.cells.lookup x=some c->X.env.cells.lookup y=some c->x=y
 has:∀ x,(X.env.kindOf x=some .cell\/X.env.kindOf x=some .free) -> ∃ c,X.env.cells.lookup x=some c
 cab:∀ x c,X.fn x=true->X.env.cells.lookup x=some c->X.s₀.heap.objs.size<=c
 hd:X.calm=true->X.A.handled=none
 frames:X.A.frames=some X.stack
 stk:X.stack=X.outer\/(X.stack=X.env :: X.outer/\X.env.frame=some X.env.locals)
 exf:∀ b ∈ X.ex,b ≠ X.env.locals /\ ∀ x c,X.env.cells.lookup x=some c->c ≠ b
 bs:∀ b o,X.base.get? b=some o->X.s₀.heap.get? b=some o/\X.H₀ b=none
 bsz:X.base.objs.size<=X.s₀.heap.objs.size
 noex:∀ b o,X.base.get? b=some o->b ∉ X.ex
 exfs:∀ b ∈ X.ex,b ∉ X.fs
 funs:X.s₀.heap.FunFrames X.base X.outer
 frf:∀ b ∈ X.fs,X.H₀ b=none
structure aK (X:Cx)(pins:List (Addr × Obj))(σ:List (Option V))(H:Hp)(s:Shared):Prop where
 ok:X.Ok
 os:s.os=X.s₀.os
 bare:AllBare s.gens
 base:Un X.fs X.ex X.H₀ H X.s₀.heap s.heap
 loc:∃ m,s.heap.Ns X.env.locals m /\ ∀ (i:Nat)(x:Str)(v:V),X.N[i]? = some x->σ[i]? = some (some v)->Gv X.env.scope x -> ∃ u,bX v u/\G4 X.env s.heap m x u
 cell:∀ x c,X.env.cells.lookup x=some c -> ∃ v,s.heap.IsCell c v
 free:H X.env.locals=none
 freeC:∀ x c,X.env.cells.lookup x=some c->H c=none
 pin:∀ p ∈ X.pn ++ pins,s.heap.get? p.1=some p.2/\H p.1=none/\p.1 ≠ X.env.locals/\p.1 ∉ X.fs /\ ∀ v,p.2.data ≠ .cell v
 hok:mS X.prog X.w H s.heap
 len:σ.length=X.N.length
section
variable {X:Cx}{pins:List (Addr × Obj)}{σ:List (Option V)}{H H':Hp}{s:Shared}{h':Heap}
theorem Cx.Ok.nofr(ok:X.Ok){b:Addr}{o:Obj}(e:X.base.get? b=some o):b ∉ X.fs:=fun hb=>by
 have:=(ok.funs.mem hb).1
 rw[e] at this;cases this
theorem aK.bs(I:aK X pins σ H s):∀ b o,X.base.get? b=some o->s.heap.get? b=some o/\H b=none:=fun b o e =>
 ⟨I.base.keep b o (I.ok.bs b o e).1 (I.ok.bs b o e).2 (I.ok.nofr e) (I.ok.noex b o e),I.base.free b o (I.ok.bs b o e).1 (I.ok.bs b o e).2 (I.ok.noex b o e)⟩
theorem aK.bk(I:aK X pins σ H s):∀ b o,X.base.get? b=some o->s.heap.get? b=some o:=fun b o e=>(I.bs b o e).1
theorem aK.mod(I:aK X pins σ H s):Mod X.K X.mg X.base:=I.ok.mod
theorem aK.kIn(I:aK X pins σ H s):X.K.In s.heap:=I.ok.mod.kin.keeps I.bk
theorem aK.nolimit(I:aK X pins σ H s):s.heap.NoLimit:=I.ok.mod.nolimit.keeps I.bk
theorem aK.lt(I:aK X pins σ H s):X.env.locals<s.heap.objs.size:=let ⟨_,hn,_⟩:=I.loc;hn.lt
theorem aK.sz(I:aK X pins σ H s):X.s₀.heap.objs.size<=s.heap.objs.size:=Nat.le_trans I.ok.above (Nat.le_of_lt I.lt)
theorem aK.nofs(I:aK X pins σ H s) {a:Addr}(h:s.heap.objs.size<=a):a ∉ X.fs:=fun hb=>by
 obtain⟨_,o,ho,_⟩:=I.ok.funs.mem hb
 exact absurd (Nat.lt_of_lt_of_le (Heap.lt_size ho) (Nat.le_trans I.sz h)) (Nat.lt_irrefl _)
theorem aK.cne(I:aK X pins σ H s):∀ x c,X.env.cells.lookup x=some c->c ≠ X.env.locals:=fun x c e z=>by
 obtain⟨v,o,ho,hd⟩:=I.cell x c e
 obtain⟨m,⟨o',es,ep,ho',hd',_⟩,_⟩:=I.loc
 rw[z,ho'] at ho;cases ho;rw[hd'] at hd;cases hd
theorem aK.funs(I:aK X pins σ H s):s.heap.FunFrames X.base X.outer:=by
 have all:∀ (l:List Env),(∀ b ∈ yg l,b ∈ X.fs)->X.s₀.heap.FunFrames X.base l->s.heap.FunFrames X.base l:=by
  intro l
  induction l with
  | nil=>intro _ _;trivial
  | cons env r ih =>
   intro hs hl
   obtain⟨hk,⟨L,o,hf,hn,ho,hd⟩,hr⟩:=hl
   have hL:L ∈ X.fs:=hs L (by unfold yg;rw[List.filterMap_cons,hf];exact List.mem_cons_self)
   obtain⟨sl,e⟩:=I.base.slot L o ho (I.ok.frf L hL) hL fun z=>I.ok.exfs L z hL
   exact⟨hk,⟨L,_,hf,hn,e,hd⟩,ih (fun b hb=>hs b (by unfold yg;rw[List.filterMap_cons,hf];exact List.mem_cons_of_mem _ hb)) hr⟩
 exact all X.outer (fun _ hb=>hb) I.ok.funs
theorem aK.stack(I:aK X pins σ H s):s.heap.FunFrames X.base X.stack:=by
 rcases I.ok.stk with e|⟨e,hf⟩
 ·rw[e];exact I.funs
 ·rw[e]
  obtain⟨m,hn,_⟩:=I.loc
  refine .cons (by rw[I.ok.kind];decide) hf hn ?_ I.funs
  exact Heap.get?_none_of_le (Nat.le_trans I.ok.bsz I.ok.above)
theorem aK.stkSub(I:aK X pins σ H s):∀ b ∈ yg X.stack,b ∈ X.env.locals :: X.fs:=fun b hb=>by
 rcases I.ok.stk with e|⟨e,hf⟩
 ·rw[e] at hb;exact List.mem_cons_of_mem _ hb
 ·rw[e] at hb
  unfold yg at hb
  rw[List.filterMap_cons,hf] at hb
  exact hb
theorem aK.stkFree(I:aK X pins σ H s):∀ b ∈ yg X.stack,H b=none:=fun b hb=>by
 rcases List.mem_cons.mp (I.stkSub b hb) with e|hb
 ·rw[e];exact I.free
 ·obtain⟨_,o,ho,_⟩:=I.ok.funs.mem hb
  exact I.base.free b o ho (I.ok.frf b hb) fun z=>I.ok.exfs b z hb
theorem aK.step{g':Array GenState}{t':Nat}{d':Drawn}{ch:List Addr}(I:aK X pins σ H s)
  (hch:∀ b ∈ ch,(b ∈ X.ex\/X.s₀.heap.objs.size<=b)/\b ≠ X.env.locals/\(∀ x c,X.env.cells.lookup x=some c->c ≠ b) /\ ∀ p ∈ X.pn ++ pins,p.1 ≠ b)
  (keep:∀ b o,b ≠ X.env.locals->b ∉ X.fs->b ∉ ch->s.heap.get? b=some o->H b=none->h'.get? b=some o)
  (slot:∀ b o,b ≠ X.env.locals->b ∈ X.fs->b ∉ ch->s.heap.get? b=some o->H b=none -> ∃ sl,h'.get? b=some { o with slots:=sl })(free:∀ b o,b ∉ ch->s.heap.get? b=some o->H b=none->H' b=none)
  (there:∀ b o,b ∉ ch->s.heap.get? b=some o -> ∃ o',h'.get? b=some o')
  (tups:∀ b xs,H b=some (.tup xs)->H' b=some (.tup xs))(frzs:∀ b o u,H b=some (.frz o u)->H' b=some (.frz o u))(tbls:∀ b ps,H b=some (.tbl ps) -> ∃ more,H' b=some (.tbl (ps ++ more)))
  (ns:∀ m,s.heap.Ns X.env.locals m->h'.Ns X.env.locals m)(hok:mS X.prog X.w H' h')(hg:AllBare g') :
  aK X pins σ H' { s with heap:=h',gens:=g',drawn:=d',toks:=t' }:=by
 have neL:∀ b o,X.s₀.heap.get? b=some o->b ≠ X.env.locals:=fun b o e=>Nat.ne_of_lt (Nat.lt_of_lt_of_le (Heap.lt_size e) I.ok.above)
 have neC:∀ b o,X.s₀.heap.get? b=some o->b ∉ X.ex->b ∉ ch:=fun b o e hx hb=>by
  rcases (hch b hb).1 with z|z
  ·exact hx z
  ·exact absurd (Nat.lt_of_lt_of_le (Heap.lt_size e) z) (Nat.lt_irrefl _)
 have cellK:∀ x c,X.env.cells.lookup x=some c -> ∀ v,s.heap.IsCell c v->h'.IsCell c v:=fun x c e v ⟨o,ho,hd⟩=>by
  have nch:c ∉ ch:=fun z=>(hch c z).2.2.1 x c e rfl
  by_cases hc:c ∈ X.fs
  ·obtain⟨sl,q⟩:=slot c o (I.cne x c e) hc nch ho (I.freeC x c e)
   exact⟨_,q,hd⟩
  ·exact⟨o,keep c o (I.cne x c e) hc nch ho (I.freeC x c e),hd⟩
 refine⟨I.ok,I.os,hg,⟨fun b o e n hb hx=>?_,fun b o e n hb hx=>?_,fun b o e n hx=>?_,fun b o e hx=>?_,fun b xs e=>tups b xs (I.base.tups b xs e),fun b o xs e=>frzs b o xs (I.base.frzs b o xs e),fun b ps e=>?_⟩,?_,fun x c e=>?_,?_,fun x c e=>?_,fun p hp=>?_,hok,I.len⟩
 ·exact keep b o (neL b o e) hb (neC b o e hx) (I.base.keep b o e n hb hx) (I.base.free b o e n hx)
 ·obtain⟨sl,e1⟩:=I.base.slot b o e n hb hx
  obtain⟨sl',e2⟩:=slot b _ (neL b o e) hb (neC b o e hx) e1 (I.base.free b o e n hx)
  exact⟨sl',e2⟩
 ·obtain⟨o',e1⟩:=I.base.there b o e hx
  exact free b o' (neC b o e hx) e1 (I.base.free b o e n hx)
 ·obtain⟨o',e1⟩:=I.base.there b o e hx
  exact there b o' (neC b o e hx) e1
 ·obtain⟨m1,e1⟩:=I.base.tbls b ps e
  obtain⟨m2,e2⟩:=tbls b _ e1
  exact⟨m1 ++ m2,by rw[e2,Array.append_assoc]⟩
 ·obtain⟨m,hn,hl⟩:=I.loc
  refine⟨m,ns m hn,fun i x v e1 e2 e3=>?_⟩
  obtain⟨u,r,l⟩:=hl i x v e1 e2 e3
  refine⟨u,r,?_⟩
  rcases l with l|⟨k,c,e,z⟩
  ·exact .inl l
  ·exact .inr ⟨k,c,e,cellK x c e _ z⟩
 ·obtain⟨v,z⟩:=I.cell x c e
  exact⟨v,cellK x c e v z⟩
 ·obtain⟨m,⟨o,_,_,ho,_⟩,_⟩:=I.loc
  exact free _ o (fun z=>(hch _ z).2.1 rfl) ho I.free
 ·obtain⟨v,o,ho,hd⟩:=I.cell x c e
  exact free c o (fun z=>(hch c z).2.2.1 x c e rfl) ho (I.freeC x c e)
 ·obtain⟨e,n,ne,nf,d⟩:=I.pin p hp
  have nch:p.1 ∉ ch:=fun z=>(hch p.1 z).2.2.2 p hp rfl
  exact⟨keep p.1 p.2 ne nf nch e n,free p.1 p.2 nch e n,ne,nf,d⟩
theorem aK.un{t':Nat}(I:aK X pins σ H s)(u:Un X.fs [] H H' s.heap h')(hok:mS X.prog X.w H' h'):aK X pins σ H' { s with heap:=h',toks:=t' }:=by
 obtain⟨m,⟨o,es,ep,ho,r⟩,_⟩:=id I.loc
 obtain⟨sl,hL⟩:=u.any ho I.free (by simp)
 exact I.step (g':=s.gens) (d':=s.drawn) (ch:=[]) (fun _ z=>nomatch z) (fun b o _ hb _ e n=>u.keep b o e n hb (by simp)) (fun b o _ hb _ e n=>u.slot b o e n hb (by simp)) (fun b o _ e n=>u.free b o e n (by simp)) (fun b o _ e=>u.there b o e (by simp)) u.tups u.frzs u.tbls (fun m' hm=>by
  obtain⟨o',es',ep',ho',r'⟩:=hm
  rw[ho] at ho';cases ho'
  exact⟨_,es',ep',hL,r'⟩) hok I.bare
theorem aK.call{g':Array GenState}{t':Nat}{d':Drawn}{ch:List Addr}(I:aK X pins σ H s)(u:Un (yg X.stack) ch H H' s.heap h')(hok:mS X.prog X.w H' h')(hg:AllBare g')
  (hch:∀ b ∈ ch,(b ∈ X.ex\/X.s₀.heap.objs.size<=b)/\b ≠ X.env.locals/\(∀ x c,X.env.cells.lookup x=some c->c ≠ b) /\ ∀ p ∈ X.pn ++ pins,p.1 ≠ b) :
  aK X pins σ H' { s with heap:=h',gens:=g',drawn:=d',toks:=t' }:=by
 obtain⟨m,⟨o,es,ep,ho,r⟩,_⟩:=id I.loc
 obtain⟨sl,hL⟩:=u.any ho I.free fun z=>(hch _ z).2.1 rfl
 exact I.step (ch:=ch) hch (fun b o hL hb hc e n=>u.keep b o e n (fun z=>(List.mem_cons.mp (I.stkSub b z)).elim hL hb) hc) (fun b o _ _ hc e n=>u.any e n hc) (fun b o hc e n=>u.free b o e n hc) (fun b o hc e=>u.there b o e hc) u.tups u.frzs u.tbls (fun m' hm=>by
  obtain⟨o',es',ep',ho',r'⟩:=hm
  rw[ho] at ho';cases ho'
  exact⟨_,es',ep',hL,r'⟩) hok hg
theorem aK.turned{t':Nat}{it:Addr}(I:aK X pins σ H s)(k:∀ b o,b ≠ it->s.heap.get? b=some o->h'.get? b=some o)(hn:H it=none)(hL:it ≠ X.env.locals)
  (h1:it ∈ X.ex\/X.s₀.heap.objs.size<=it)(h2:∀ x c,X.env.cells.lookup x=some c->c ≠ it)(h3:∀ p ∈ X.pn ++ pins,p.1 ≠ it):aK X pins σ H { s with heap:=h',toks:=t' }:=by
 have nit:∀ b u,H b=some u->b ≠ it:=fun b u e z=>by rw[z,hn] at e;cases e
 refine I.step (g':=s.gens) (d':=s.drawn) (ch:=[it]) (fun b hb=>?_) (fun b o _ _ hc e _=>k b o (fun z=>hc (by simp[z])) e) (fun b o _ _ hc e _=>⟨o.slots,k b o (fun z=>hc (by simp[z])) e⟩) (fun _ _ _ _ n=>n)
  (fun b o hc e=>⟨o,k b o (fun z=>hc (by simp[z])) e⟩) (fun _ _ e=>e) (fun _ _ _ e=>e) (fun b ps e=>⟨#[],by rw[e];simp⟩) (fun m hm=>?_) (fun b u e=>?_) I.bare
 ·have e:b=it:=by simpa using hb
  subst e
  exact⟨h1,hL,h2,h3⟩
 ·obtain⟨o,es,ep,ho,r⟩:=hm
  exact⟨o,es,ep,k _ o (Ne.symm hL) ho,r⟩
 ·refine (I.hok b u e).stay (fun c v hc q=>k c v ?_ q) (fun _ q=>q) fun _ _ q=>q
  rcases hc with z|z
  ·rw[z];exact nit b u e
  ·exact nit c _ z
theorem aK.tok(I:aK X pins σ H s)(t:Nat):aK X pins σ H { s with toks:=t }:=I.un (h':=s.heap) (t':=t) Un.refl I.hok
theorem aK.kept{t':Nat}(I:aK X pins σ H s)(k:∀ b u,s.heap.get? b=some u->h'.get? b=some u):aK X pins σ H { s with heap:=h',toks:=t' }:=I.un (Un.kept k) (I.hok.kept k)
theorem aK.laid{a:Addr}{o:HO}{t':Nat}(I:aK X pins σ H s)(k:∀ b u,s.heap.get? b=some u->h'.get? b=some u)(hp:s.heap.objs.size<=a)(new:fh X.prog X.w (upd H a o) h' a o) :
  aK X pins σ (upd H a o) { s with heap:=h',toks:=t' }:=I.un (Un.laid k hp (I.hok.fresh hp)) (I.hok.laid k hp new)
theorem aK.write{x e:Addr}{o:HO}{t':Nat}(I:aK X pins σ H s)(mu:GH (H x))(he:e=x\/H e=some (.own x))(k:∀ b u,b ≠ e->s.heap.get? b=some u->h'.get? b=some u)(heo:∃ u,h'.get? e=some u)
  (new:fh X.prog X.w (upd H x o) h' x o):aK X pins σ (upd H x o) { s with heap:=h',toks:=t' }:=I.un (Un.write mu he k heo) (I.hok.write mu he k heo new)
theorem aK.pins_of{pins':List (Addr × Obj)}(I:aK X pins σ H s)(h:∀ p ∈ pins',s.heap.get? p.1=some p.2/\H p.1=none/\p.1 ≠ X.env.locals/\p.1 ∉ X.fs /\ ∀ v,p.2.data ≠ .cell v):aK X pins' σ H s :=
 ⟨I.ok,I.os,I.bare,I.base,I.loc,I.cell,I.free,I.freeC,fun p hp=>(List.mem_append.mp hp).elim (fun z=>I.pin p (List.mem_append_left _ z)) (h p),I.hok,I.len⟩
theorem rQ{N:List Str}(hN:N.Nodup) {i j:Nat}{x:Str}(a:N[i]? = some x)(b:N[j]? = some x):i=j:=by
 obtain⟨h1,e1⟩:=List.getElem?_eq_some_iff.mp a
 obtain⟨h2,e2⟩:=List.getElem?_eq_some_iff.mp b
 exact (List.getElem_inj hN).mp (e1.trans e2.symm)
theorem pI{M:Model}{A:Around}{E:Value->Shared->Prop}{i:Nat}{x:Str}{v:V}{u:Value}{Q:Unit->Shared->Prop}(I:aK X pins σ H s)(hN:X.N.Nodup)(hi:X.N[i]? = some x)(hx:AM X.env.scope x)(r:bX v u)
  (h:∀ s',aK X pins (σ.set i (some v)) H s'->(∃ a,Heap.SameBut a s.heap s'.heap/\(a=X.env.locals\/X.env.cells.lookup x=some a))->Q () s')(hf:X.fn x=true\/X.env.scope.names.lookup x=some .local:=by first|exact .inl rfl|exact .inr rfl|assumption):wpAny M A (storeName X.env x u) Q E s:=by
 obtain⟨m,hn,hl⟩:=id I.loc
 have hcls:(X.env.scope.kind == .class || (X.env.scope.kind == .module && X.env.locals != X.env.globals))=false:=by rw[I.ok.kind];rfl
 have hiσ:i<σ.length:=by rw[I.len];exact (List.getElem?_eq_some_iff.mp hi).1
 have cne:=I.cne
 have tracked:∀ {a:Addr}{h':Heap},(∃ o,s.heap.get? a=some o/\H a=none)->Heap.SameBut a s.heap h'->mS X.prog X.w H h':=fun {a h'} ha hs b ob e=>by
  obtain⟨_,_,hfree⟩:=ha
  refine (I.hok b ob e).stay (fun c w' hc q=>(hs.2 c ?_).trans q) (fun _ q=>q) fun _ _ q=>q
  rintro rfl
  rcases hc with rfl|hc
  ·rw[hfree] at e;cases e
  ·rw[hfree] at hc;cases hc
 rcases hx with hk|hk
 ·refine wpAny_storeName_local hk hn (fun h' hn' hs=>?_) hcls
  obtain⟨oL,_,_,hoL,_⟩:=id hn
  refine h _ ⟨I.ok,I.os,I.bare,⟨fun b o e n hb hx=>?_,fun b o e n hb hx=>?_,I.base.free,fun b o e hx=>?_,I.base.tups,I.base.frzs,I.base.tbls⟩,⟨_,hn',fun j y v' e1 e2 e3=>?_⟩,fun y c e=>?_,I.free,I.freeC,fun p hp=>?_,tracked ⟨oL,hoL,I.free⟩ hs,by simpa using I.len⟩ ⟨_,hs,.inl rfl⟩
  ·exact (hs.2 b (Nat.ne_of_lt (Nat.lt_of_lt_of_le (Heap.lt_size e) I.ok.above))).trans (I.base.keep b o e n hb hx)
  ·obtain⟨sl,e1⟩:=I.base.slot b o e n hb hx
   exact⟨sl,(hs.2 b (Nat.ne_of_lt (Nat.lt_of_lt_of_le (Heap.lt_size e) I.ok.above))).trans e1⟩
  ·obtain⟨o',e1⟩:=I.base.there b o e hx
   exact⟨o',(hs.2 b (Nat.ne_of_lt (Nat.lt_of_lt_of_le (Heap.lt_size e) I.ok.above))).trans e1⟩
  ·by_cases hj:j=i
   ·subst hj
    rw[hi] at e1;cases e1
    rw[List.getElem?_set_self hiσ] at e2
    cases e2
    exact⟨u,r,.inl ⟨hk,by simp⟩⟩
   ·rw[List.getElem?_set_ne (Ne.symm hj)] at e2
    obtain⟨u',r',q⟩:=hl j y v' e1 e2 e3
    refine⟨u',r',?_⟩
    rcases q with ⟨k,e⟩|⟨k,c,e,z⟩
    ·refine .inl ⟨k,?_⟩
     have:y ≠ x:=fun e=>hj (rQ hN e1 (e ▸ hi))
     simp[this,e]
    ·exact .inr ⟨k,c,e,z.sameBut hs (cne y c e)⟩
  ·obtain⟨w',z⟩:=I.cell y c e
   exact⟨w',z.sameBut hs (cne y c e)⟩
  ·obtain⟨e,n,ne,nf,d⟩:=I.pin p hp
   exact⟨(hs.2 p.1 ne).trans e,n,ne,nf,d⟩
 ·have hfn:X.fn x=true:=by
   rcases hf with z|z
   ·exact z
   ·rw[z] at hk;cases hk
  obtain⟨c,hc⟩:=I.ok.has x (.inl hk)
  obtain⟨w',z⟩:=I.cell x c hc
  refine wpAny_storeName_cell I.ok.kind hk hc z (fun h' hc' hs=>?_)
  obtain⟨oc,hoc,hocd⟩:=id z
  refine h { s with heap:=h' } ⟨I.ok,I.os,I.bare,⟨fun b o e n hb hx=>?_,fun b o e n hb hx=>?_,I.base.free,fun b o e hx=>?_,I.base.tups,I.base.frzs,I.base.tbls⟩,⟨m,hn.sameBut hs (Ne.symm (cne x c hc)),fun j y v' e1 e2 e3=>?_⟩,fun y c' e=>?_,I.free,I.freeC,fun p hp=>?_,tracked ⟨oc,hoc,I.freeC x c hc⟩ hs,by simpa using I.len⟩ ⟨c,hs,.inr hc⟩
  ·exact (hs.2 b (Nat.ne_of_lt (Nat.lt_of_lt_of_le (Heap.lt_size e) (I.ok.cab x c hfn hc)))).trans (I.base.keep b o e n hb hx)
  ·obtain⟨sl,e1⟩:=I.base.slot b o e n hb hx
   exact⟨sl,(hs.2 b (Nat.ne_of_lt (Nat.lt_of_lt_of_le (Heap.lt_size e) (I.ok.cab x c hfn hc)))).trans e1⟩
  ·obtain⟨o',e1⟩:=I.base.there b o e hx
   exact⟨o',(hs.2 b (Nat.ne_of_lt (Nat.lt_of_lt_of_le (Heap.lt_size e) (I.ok.cab x c hfn hc)))).trans e1⟩
  ·by_cases hj:j=i
   ·subst hj
    rw[hi] at e1;cases e1
    rw[List.getElem?_set_self hiσ] at e2
    cases e2
    exact⟨u,r,.inr ⟨.inl hk,c,hc,hc'⟩⟩
   ·rw[List.getElem?_set_ne (Ne.symm hj)] at e2
    obtain⟨u',r',q⟩:=hl j y v' e1 e2 e3
    refine⟨u',r',?_⟩
    rcases q with q|⟨k,c',e,z'⟩
    ·exact .inl q
    ·refine .inr ⟨k,c',e,z'.sameBut hs ?_⟩
     rintro rfl
     exact hj (rQ hN e1 (I.ok.inj _ _ _ e hc ▸ hi))
  ·by_cases hcc:c'=c
   ·subst hcc;exact⟨_,hc'⟩
   ·obtain⟨w2,z2⟩:=I.cell y c' e
    exact⟨w2,z2.sameBut hs hcc⟩
  ·obtain⟨e,n,ne,nf,d⟩:=I.pin p hp
   refine⟨(hs.2 p.1 ?_).trans e,n,ne,nf,d⟩
   intro q
   rw[q,hoc] at e
   have q':oc=p.2:=Option.some.inj e
   exact d w' (by rw[<- q'];exact hocd)
theorem fX{M:Model}{A:Around}{E:Value->Shared->Prop}{i:Nat}{x:Str}{v:V}{u:Value}{Q:Unit->Shared->Prop}(I:aK X pins σ H s)(hN:X.N.Nodup)(hi:X.N[i]? = some x)(hx:AM X.env.scope x)(r:bX v u)
  (h:∀ s',aK X pins (σ.set i (some v)) H s'->Q () s')(hf:X.fn x=true\/X.env.scope.names.lookup x=some .local:=by first|exact .inl rfl|exact .inr rfl|assumption):wpAny M A (storeName X.env x u) Q E s :=
 pI I hN hi hx r (fun s' I' _=>h s' I') hf
theorem aK.call'{s':Shared}{ch:List Addr}(I:aK X pins σ H s)(ho:s'.os=s.os)(u:Un (yg X.stack) ch H H' s.heap s'.heap)(hok:mS X.prog X.w H' s'.heap)(hg:AllBare s'.gens)
  (hch:∀ b ∈ ch,(b ∈ X.ex\/X.s₀.heap.objs.size<=b)/\b ≠ X.env.locals/\(∀ x c,X.env.cells.lookup x=some c->c ≠ b) /\ ∀ p ∈ X.pn ++ pins,p.1 ≠ b):aK X pins σ H' s':=by
 obtain⟨h',g',d',t',o'⟩:=s'
 have e:o'=s.os:=ho
 subst e
 exact I.call (g':=g') (t':=t') (d':=d') u hok hg hch
end
abbrev XK:=Value->Option Addr->Hp->Prop
abbrev St:=List (Option V)
abbrev VK:=V->Hp->Prop
abbrev TE:=St->Hp->VK->Prop
abbrev TT:=St->Hp->(Bool->Hp->Prop)->Prop
abbrev TA:=St->Hp->(List V->Hp->Prop)->Prop
structure mH where
 nx:St->Hp->Prop
 rt:VK
 bk:St->Hp->Prop:=fun _ _=>False
 ct:St->Hp->Prop:=fun _ _=>False
abbrev TS:=mH->St->Hp->Prop
def EP(X:Cx)(pins:List (Addr × Obj))(σ:St)(Q:VK)(u:Value)(s':Shared):Prop:=∃ v H',aK X pins σ H' s'/\bX v u/\Q v H'
def TP(X:Cx)(pins:List (Addr × Obj))(σ:St)(Q:Bool->Hp->Prop)(b:Bool)(s':Shared):Prop:=∃ H',aK X pins σ H' s'/\Q b H'
def AP(X:Cx)(pins:List (Addr × Obj))(σ:St)(Q:List V->Hp->Prop)(us:List Value)(s':Shared):Prop:=∃ vs H',aK X pins σ H' s'/\bA vs us/\Q vs H'
def SP(X:Cx)(pins:List (Addr × Obj))(D:mH)(f:Flow)(s':Shared):Prop :=
 match f with
 | .next=>∃ σ' H',aK X pins σ' H' s'/\D.nx σ' H'
 | .brk=>∃ σ' H',aK X pins σ' H' s'/\D.bk σ' H'
 | .cont=>∃ σ' H',aK X pins σ' H' s'/\D.ct σ' H'
 | .ret u=>∃ v σ' H',aK X pins σ' H' s'/\bX v u/\D.rt v H'
def PE(X:Cx)(e:Expr)(t:TE):Prop :=
 ∀ (pins:List (Addr × Obj))(s:Shared)(σ:St)(H:Hp)(Q:VK),aK X pins σ H s->t σ H Q->wpAny (model X.prog X.w) X.A (eval e X.env) (EP X pins σ Q) X.xe s
def PT(X:Cx)(e:Expr)(t:TT):Prop :=
 ∀ (pins:List (Addr × Obj))(s:Shared)(σ:St)(H:Hp)(Q:Bool->Hp->Prop),aK X pins σ H s->t σ H Q->wpAny (model X.prog X.w) X.A (isTrue e X.env (eval e X.env)) (TP X pins σ Q) X.xe s
def PW(X:Cx)(e:Expr)(t:TT):Prop :=
 ∀ (whole:Sem Value)(pins:List (Addr × Obj))(s:Shared)(σ:St)(H:Hp)(Q:Bool->Hp->Prop),aK X pins σ H s->t σ H Q->wpAny (model X.prog X.w) X.A (isTrue e X.env whole) (TP X pins σ Q) X.xe s
theorem PW.pt{X:Cx}{e:Expr}{t:TT}(h:PW X e t):PT X e t:=h _
def PA(X:Cx)(es:List Expr)(t:TA):Prop :=
 ∀ (pos:Pos)(pins:List (Addr × Obj))(s:Shared)(σ:St)(H:Hp)(Q:List V->Hp->Prop),aK X pins σ H s->t σ H Q->wpAny (model X.prog X.w) X.A (spliced (backTo pos (starEach es X.env))) (AP X pins σ Q) X.xe s
def PS(X:Cx)(st:Stmt)(t:TS):Prop :=
 ∀ (pins:List (Addr × Obj))(s:Shared)(σ:St)(H:Hp)(D:mH),aK X pins σ H s->t D σ H->wpAny (model X.prog X.w) X.A (exec st X.env) (SP X pins D) X.xe s
def tH(X:Cx)(st:List Stmt)(t:TS):Prop :=
 ∀ (pins:List (Addr × Obj))(s:Shared)(σ:St)(H:Hp)(D:mH),aK X pins σ H s->t D σ H->wpAny (model X.prog X.w) X.A (execs st X.env) (SP X pins D) X.xe s
theorem cQ{α:Type}{t:Sem α}{Q Q':α->Shared->Prop}{M:Model}{A:Around}{E:Value->Shared->Prop}{s:Shared}(h:wpAny M A t Q E s)(hQ:∀ a s,Q a s->Q' a s):wpAny M A t Q' E s:=wpAny_mono h hQ fun _ _ x=>x
end L2
namespace L2
open PySem PySem.Spec PyProof.Rows
section
variable {X:Cx}
def CU(i:Nat):TE:=fun σ H Q=>∃ v,σ[i]? = some (some v)/\Q v H
def tC(v:V):TE:=fun _ H Q=>Q v H
theorem EY{i:Nat}{x:Str}{pos:Pos}(hN:X.N[i]? = some x)(hv:Gv X.env.scope x)(hd:(x == ("__debug__" : Str))=false:=by decide) (hcd:(x == ("__classdict__" : Str))=false:=by decide):PE X (.Name x pos) (CU i):=by
 intro pins s σ H Q I h
 obtain⟨v,e,h⟩:=h
 obtain⟨m,hn,hl⟩:=I.loc
 obtain⟨u,r,l⟩:=hl i x v hN e hv
 have fin:EP X pins σ Q u s:=⟨v,H,I,r,h⟩
 rcases l with ⟨hk,hm⟩|⟨hk,c,hc,hcell⟩
 ·exact wpAny_Name (wpAny_loadName_local I.ok.kind hk hn hm fin) hd
 ·rcases hk with hk|hk
  ·exact wpAny_Name (wpAny_loadName_cell I.ok.kind hk hc hcell fin) hd
  ·exact wpAny_Name (wpAny_loadName_free I.ok.kind hk hc hcell fin hcd) hd
theorem Fe {i j pos}:PE X (.Constant (.int i) j pos) (tC (.int i)):=fun _ _ _ H _ I h=>wpAny_Constant_int ⟨.int i,H,I.tok _,⟨_,rfl⟩,h⟩
theorem Gm {b j pos}:PE X (.Constant (.bool b) j pos) (tC (.bl b)):=fun _ _ _ H _ I h=>Constant_bool ⟨.bl b,H,I,rfl,h⟩
theorem EL {j pos}:PE X (.Constant .none j pos) (tC .non):=fun _ _ _ H _ I h=>Constant_none ⟨.non,H,I,rfl,h⟩
theorem Fa {x j pos}:PE X (.Constant (.str x) j pos) (tC (.str x)):=fun _ _ _ H _ I h=>Calls.Constant_str ⟨.str x,H,I.tok _,⟨_,rfl⟩,h⟩
def Gl(X:Cx)(x:Str):Prop:=X.env.kindOf x=some .globalImplicit
theorem vW{E:Value->Shared->Prop}{pins:List (Addr × Obj)}{s:Shared}{σ:St}{H:Hp}{x:Str}{u:Value}{pos:Pos}{Q:Value->Shared->Prop}(I:aK X pins σ H s)(hg:Gl X x)(hm:X.mg x=some u)(h:Q u s)
  (hd:(x == ("__debug__" : Str))=false:=by decide):wpAny (model X.prog X.w) X.A (eval (.Name x pos) X.env) Q E s :=
 Calls.Name_function_global I.ok.kind hg (Calls.loadGlobal_global (by rw[I.ok.glob];exact I.mod.glob.keeps I.bk) hm h) hd
theorem i7{E:Value->Shared->Prop}{pins:List (Addr × Obj)}{s:Shared}{σ:St}{H:Hp}{x:Str}{u:Value}{pos:Pos}{Q:Value->Shared->Prop}(I:aK X pins σ H s)(hg:Gl X x)(hm:X.mg x=none)(hv:bootBuiltins x=some u)(h:Q u s)
  (hn:x ≠ "__name__":=by decide) (hd:(x == ("__debug__" : Str))=false:=by decide):wpAny (model X.prog X.w) X.A (eval (.Name x pos) X.env) Q E s:=by
 obtain⟨mb,h1,h2⟩:=I.mod.blt
 exact Calls.Name_function_global I.ok.kind hg (Calls.loadGlobal_builtin (by rw[I.ok.glob];exact I.mod.glob.keeps I.bk) hm (by rw[I.ok.blt];exact h1.keeps I.bk) ((h2 x hn).trans hv) h) hd
theorem BN{x:Str}{v:V}{u:Value}{pos:Pos}(hg:Gl X x)(hm:X.mg x=some u)(r:bX v u)(hd:(x == ("__debug__" : Str))=false:=by decide):PE X (.Name x pos) (tC v) :=
 fun _ _ _ H _ I h=>vW I hg hm ⟨v,H,I,r,h⟩ hd
theorem Cy{x:Str}{v:V}{u:Value}{pos:Pos}(hg:Gl X x)(hm:X.mg x=none)(hv:bootBuiltins x=some u)(r:bX v u)(hn:x ≠ "__name__":=by decide) (hd:(x == ("__debug__" : Str))=false:=by decide):PE X (.Name x pos) (tC v) :=
 fun _ _ _ H _ I h=>i7 I hg hm hv ⟨v,H,I,r,h⟩ hn hd
variable {a b:Expr}{ta tb:TE}{pos:Pos}
def tB(t:TE):TT:=fun σ H Q=>t σ H fun x H1=>∃ c,x = .bl c/\Q c H1
theorem Dw{e:Expr}{t:TE}(h:PE X e t)(he:∀ whole,isTrue e X.env whole=(do let v <- whole;standAt e.pos;holding [v] (truthy v)):=by intro _;rfl):PT X e (tB t):=by
 intro pins s σ H Q I hw
 refine isTrue_plain (cQ (h pins s σ H _ I hw) fun v s1 ⟨x,H1,I1,r1,q1⟩=>?_) (he _)
 obtain⟨d,rfl,q⟩:=q1
 cases r1
 exact wpAny_truthy_bool ⟨H1,I1,q⟩
variable {tA tB':TT}{rest:List Expr}
def Ft(t u:TT):TT:=fun σ H Q=>t σ H fun c H1=>if c=true then u σ H1 Q else Q false H1
def GY(t u:TT):TT:=fun σ H Q=>t σ H fun c H1=>if c=true then Q true H1 else u σ H1 Q
def E2(t:TT):TT:=fun σ H Q=>t σ H fun c H1=>Q (!c) H1
theorem Bm(ha:PT X a tA):PW X (.BoolOp .And [a] pos) tA:=by
 intro wh pins s σ H Q I h
 refine isTrue_and (cQ (ha pins s σ H Q I h) fun c s1 e=>?_)
 cases c with
 | true=>exact isTrue_and_nil e
 | false=>exact e
theorem Ed(ha:PT X a tA):PW X (.BoolOp .Or [a] pos) tA:=by
 intro wh pins s σ H Q I h
 refine isTrue_or (cQ (ha pins s σ H Q I h) fun c s1 e=>?_)
 cases c with
 | false=>exact isTrue_or_nil e
 | true=>exact e
theorem Eh(ha:PT X a tA)(hb:PW X (.BoolOp .And (b :: rest) pos) tB'):PW X (.BoolOp .And (a :: b :: rest) pos) (Ft tA tB'):=by
 intro wh pins s σ H Q I h
 refine isTrue_and (cQ (ha pins s σ H _ I h) fun c s1 ⟨H1,I1,q1⟩=>?_)
 cases c with
 | true=>exact hb wh pins s1 σ H1 Q I1 q1
 | false=>exact⟨H1,I1,q1⟩
theorem FT(ha:PT X a tA)(hb:PW X (.BoolOp .Or (b :: rest) pos) tB'):PW X (.BoolOp .Or (a :: b :: rest) pos) (GY tA tB'):=by
 intro wh pins s σ H Q I h
 refine isTrue_or (cQ (ha pins s σ H _ I h) fun c s1 ⟨H1,I1,q1⟩=>?_)
 cases c with
 | true=>exact⟨H1,I1,q1⟩
 | false=>exact hb wh pins s1 σ H1 Q I1 q1
theorem ES(ha:PT X a tA):PT X (.UnaryOp .Not a pos) (E2 tA):=by
 intro pins s σ H Q I h
 exact isTrue_not (ha pins s σ H (fun c H1=>Q (!c) H1) I h)
def vY(ta tb:TE):TE:=fun σ H Q=>ta σ H fun x H1=>∃ c,x = .bl c/\if c=true then tb σ H1 Q else Q (.bl false) H1
def Bs(ta tb:TE):TE:=fun σ H Q=>ta σ H fun x H1=>∃ c,x = .bl c/\if c=true then Q (.bl true) H1 else tb σ H1 Q
def wU(ta:TE):TE:=fun σ H Q=>ta σ H fun x H1=>∃ c,x = .bl c/\Q (.bl (!c)) H1
theorem Et {op}{t:TE}(h:PE X a t):PE X (.BoolOp op [a] pos) t:=fun pins s σ H Q I hw=>BoolOp_one (h pins s σ H Q I hw)
theorem EQ(ha:PE X a ta)(hb:PE X (.BoolOp .And (b :: rest) pos) tb):PE X (.BoolOp .And (a :: b :: rest) pos) (vY ta tb):=by
 intro pins s σ H Q I h
 refine BoolOp_and (cQ (ha pins s σ H _ I h) fun v s1 ⟨x,H1,I1,r1,q1⟩=>?_)
 obtain⟨c,rfl,q1⟩:=q1
 cases r1
 refine wpAny_truthy_bool ?_
 cases c with
 | true=>exact hb pins s1 σ H1 Q I1 q1
 | false=>exact⟨.bl false,H1,I1,rfl,q1⟩
theorem FQ(ha:PE X a ta)(hb:PE X (.BoolOp .Or (b :: rest) pos) tb):PE X (.BoolOp .Or (a :: b :: rest) pos) (Bs ta tb):=by
 intro pins s σ H Q I h
 refine BoolOp_or (cQ (ha pins s σ H _ I h) fun v s1 ⟨x,H1,I1,r1,q1⟩=>?_)
 obtain⟨c,rfl,q1⟩:=q1
 cases r1
 refine wpAny_truthy_bool ?_
 cases c with
 | false=>exact hb pins s1 σ H1 Q I1 q1
 | true=>exact⟨.bl true,H1,I1,rfl,q1⟩
theorem Eo(ha:PE X a ta):PE X (.UnaryOp .Not a pos) (wU ta):=by
 intro pins s σ H Q I h
 refine UnaryOp_ (cQ (ha pins s σ H _ I h) fun v s1 ⟨x,H1,I1,r1,q1⟩=>?_)
 obtain⟨c,rfl,q1⟩:=q1
 cases r1
 exact not_of (wpAny_truthy_bool ⟨.bl (!c),H1,I1,rfl,q1⟩)
def G7(t:TT)(ta tb:TE):TE:=fun σ H Q=>t σ H fun c H1=>if c=true then ta σ H1 Q else tb σ H1 Q
theorem yv{c:Expr}(hc:PT X c tA)(ha:PE X a ta)(hb:PE X b tb):PE X (.IfExp c a b pos) (G7 tA ta tb):=by
 intro pins s σ H Q I h
 refine wpAny_IfExp (cQ (hc pins s σ H _ I h) fun d s1 ⟨H1,I1,q1⟩=>?_)
 cases d with
 | true=>exact ha pins s1 σ H1 Q I1 q1
 | false=>exact hb pins s1 σ H1 Q I1 q1
end
end L2
namespace L2
open PySem PySem.Spec PyProof.Rows
def j6(K:W.Frag)(H:Hp)(a:Addr)(xs:List V):Prop :=
 Rd H a (.lst xs) \/
  ∃ (o:Obj)(its:Array Value)(n:Nat),K.lookup a=some o/\o.cls = .type "list" /\ o.dict=none/\o.data = .seq its n/\its.size<=sizeLine/\bA xs its.toList
def pB(K:W.Frag)(H:Hp)(a:Addr)(xs:List V):Prop :=
 Rd H a (.tup xs) \/
  ∃ (o:Obj)(its:Array Value)(n:Nat),K.lookup a=some o/\o.cls = .type "tuple" /\ o.data = .seq its n/\its.size<=sizeLine/\bA xs its.toList
def Gw:Value->Option V
 | .none=>some .non
 | .bool b=>some (.bl b)
 | .int i _=>some (.int i)
 | .str x _=>some (.str x)
 | .bytes b _=>some (.byt b)
 | .float b _=>some (.flt b)
 | .ref a=>some (.ref a)
 | .type n=>some (.ty n)
 | _=>none
theorem bX.abs{x:V}{u:Value}(r:bX x u):Gw u=some x:=by
 cases x with
 | non=>cases r;rfl
 | bl _=>cases r;rfl
 | int _=>obtain⟨t,rfl⟩:=r;rfl
 | str _=>obtain⟨t,rfl⟩:=r;rfl
 | byt _=>obtain⟨t,rfl⟩:=r;rfl
 | flt _=>obtain⟨t,rfl⟩:=r;rfl
 | ref _=>cases r;rfl
 | ty _=>cases r;rfl
theorem bX.inj{x y:V}{u:Value}(r:bX x u)(q:bX y u):x=y:=Option.some.inj (r.abs.symm.trans q.abs)
theorem bA.inj:∀{xs ys:List V}{us:List Value},bA xs us->bA ys us->xs=ys
 | _,_,_,.nil,.nil=>rfl
 | _,_,_,.cons r t,.cons r' t'=>by rw[r.inj r',bA.inj t t']
section
variable {X:Cx}{pins:List (Addr × Obj)}{σ:St}{H:Hp}{s:Shared}{a:Addr}{xs ys:List V}
theorem j6.of{K:W.Frag}(h:H a=some (.lst xs)):j6 K H a xs:=.inl (.inl h)
theorem pB.of{K:W.Frag}(h:H a=some (.tup xs)):pB K H a xs:=.inl (.inl h)
theorem aK.list(I:aK X pins σ H s)(h:j6 X.K H a xs):∃ its:List Value,bA xs its/\PlainL s.heap a its.toArray/\xs.length<=sizeLine:=by
 rcases h with h|⟨o,its,n,hk,hc,hd,hs,hz,r⟩
 ·obtain⟨z,its,n,r,e⟩:=h.ok I.hok
  exact⟨its,r,⟨_,n,e,rfl,rfl,rfl⟩,z⟩
 ·refine⟨its.toList,r,⟨o,n,I.kIn a o hk,hc,hd,by simpa using hs⟩,?_⟩
  have e:=r.length
  simp only[Array.length_toList] at e
  walk_at"o"
theorem aK.tuple(I:aK X pins σ H s)(h:pB X.K H a xs):∃ its:List Value,bA xs its/\IsTup s.heap a its.toArray/\xs.length<=sizeLine:=by
 rcases h with h|⟨o,its,n,hk,hc,hs,hz,r⟩
 ·obtain⟨z,its,r,p⟩:=h.ok I.hok
  exact⟨its,r,p,z⟩
 ·refine⟨its.toList,r,⟨o,I.kIn a o hk,hc,n,by simpa using hs⟩,?_⟩
  have e:=r.length
  simp only[Array.length_toList] at e
  walk_at"o"
theorem aK.list_inj(I:aK X pins σ H s)(h:j6 X.K H a xs)(h':j6 X.K H a ys):xs=ys:=by
 obtain⟨its,r,⟨o,n,e,_,_,d⟩,_⟩:=I.list h
 obtain⟨its',r',⟨o',n',e',_,_,d'⟩,_⟩:=I.list h'
 rw[e] at e';cases e'
 rw[d] at d'
 injection d' with d1 _
 have:its=its':=by simpa using congrArg Array.toList d1
 subst this
 exact r.inj r'
theorem aK.tuple_inj(I:aK X pins σ H s)(h:pB X.K H a xs)(h':pB X.K H a ys):xs=ys:=by
 obtain⟨its,r,⟨o,e,_,n,d⟩,_⟩:=I.tuple h
 obtain⟨its',r',⟨o',e',_,n',d'⟩,_⟩:=I.tuple h'
 rw[e] at e';cases e'
 rw[d] at d'
 injection d' with d1 _
 have:its=its':=by simpa using congrArg Array.toList d1
 subst this
 exact r.inj r'
end
abbrev Cx.wish (X:Cx)(E:Value->Shared->Prop):Cx:={ X with xe:=E }
abbrev Cx.nox (X:Cx):Cx:=X.wish fun _ _=>False
theorem Cx.Ok.wish{X:Cx}(ok:X.Ok)(E:Value->Shared->Prop):(X.wish E).Ok :=
 ⟨ok.mod,ok.kind,ok.glob,ok.blt,ok.above,ok.inj,ok.has,ok.cab,ok.hd,ok.frames,ok.stk,ok.exf,ok.bs,ok.bsz,ok.noex,ok.exfs,ok.funs,ok.frf⟩
theorem Cx.Ok.unwish{X:Cx}{E:Value->Shared->Prop}(ok:(X.wish E).Ok):X.Ok :=
 ⟨ok.mod,ok.kind,ok.glob,ok.blt,ok.above,ok.inj,ok.has,ok.cab,ok.hd,ok.frames,ok.stk,ok.exf,ok.bs,ok.bsz,ok.noex,ok.exfs,ok.funs,ok.frf⟩
section
variable {X:Cx}{pins:List (Addr × Obj)}{σ:St}{H:Hp}{s:Shared}{E:Value->Shared->Prop}
theorem aK.wish(I:aK X pins σ H s)(E:Value->Shared->Prop):aK (X.wish E) pins σ H s:=⟨I.ok.wish E,I.os,I.bare,I.base,I.loc,I.cell,I.free,I.freeC,I.pin,I.hok,I.len⟩
theorem aK.unwish(I:aK (X.wish E) pins σ H s):aK X pins σ H s:=⟨I.ok.unwish,I.os,I.bare,I.base,I.loc,I.cell,I.free,I.freeC,I.pin,I.hok,I.len⟩
theorem SP.unwish{D:mH}{f:Flow}{s':Shared}(h:SP (X.wish E) pins D f s'):SP X pins D f s':=by
 cases f with
 | next=>obtain⟨σ',H',I,q⟩:=h;exact⟨σ',H',I.unwish,q⟩
 | brk=>obtain⟨σ',H',I,q⟩:=h;exact⟨σ',H',I.unwish,q⟩
 | cont=>obtain⟨σ',H',I,q⟩:=h;exact⟨σ',H',I.unwish,q⟩
 | ret u=>obtain⟨v,σ',H',I,r,q⟩:=h;exact⟨v,σ',H',I.unwish,r,q⟩
theorem tH.nox{st:List Stmt}{t:TS}(h:tH X.nox st t):tH X st t:=fun pins s σ H D I hw =>
 wpAny_mono (h pins s σ H D (I.wish _) hw) (fun _ _ q=>q.unwish) fun _ _ z=>False.elim z
end
section
variable {X:Cx}{st:Stmt}{rest:List Stmt}{t u:TS}{e:Expr}{te:TE}{pos:Pos}
def zh:TS:=fun D σ H=>D.nx σ H
def aR(t u:TS):TS:=fun D σ H=>t { D with nx:=u D } σ H
theorem BH:tH X [] zh:=fun _ _ σ H _ I h=>wpAny_execs_nil ⟨σ,H,I,h⟩
theorem Aj(h1:PS X st t)(h2:tH X rest u):tH X (st :: rest) (aR t u):=by
 intro pins s σ H D I h
 refine wpAny_execs_cons (cQ (h1 pins s σ H { D with nx:=u D } I h) fun f s1 q=>?_)
 cases f with
 | next =>
  obtain⟨σ',H',I',q⟩:=q
  exact h2 pins s1 σ' H' D I' q
 | ret v=>exact q
 | brk=>exact q
 | cont=>exact q
theorem A6(h1:PS X st t):tH X [st] t:=by
 intro pins s σ H D I h
 refine wpAny_execs_cons (cQ (h1 pins s σ H D I h) fun f s1 q=>?_)
 cases f with
 | next=>exact wpAny_execs_nil q
 | ret v=>exact q
 | brk=>exact q
 | cont=>exact q
theorem aK.quiet{pins:List (Addr × Obj)}{σ:St}{H:Hp}{s:Shared}(I:aK X pins σ H s):interactive X.env=false:=by simp[interactive,I.ok.kind]
def yl(te:TE):TS:=fun D σ H=>te σ H fun _ H1=>D.nx σ H1
theorem A2(he:PE X e te)(hs:swapsWith e none pos.line X.env=pure false:=by rfl):PS X (.Expr e pos) (yl te):=by
 intro pins s σ H D I h
 exact wpAny_Expr_any (cQ (he pins s σ H _ I h) fun v s1 ⟨x,H1,I1,r1,q1⟩=>⟨σ,H1,I1,q1⟩) I.quiet hs
def D7(te:TE):TS:=fun D σ H=>te σ H D.rt
theorem DN(he:PE X e te):PS X (.Return (some e) pos) (D7 te):=by
 intro pins s σ H D I h
 exact wpAny_Return_some (cQ (he pins s σ H _ I h) fun v s1 ⟨x,H1,I1,r1,q1⟩=>⟨x,σ,H1,I1,r1,q1⟩)
def F2:TS:=fun D _ H=>D.rt .non H
def D3(c:TT)(t u:TS):TS:=fun D σ H=>c σ H fun b H1=>if b=true then t D σ H1 else u D σ H1
theorem Gg{c:Expr}{a b:List Stmt}{tc:TT}(hc:PT X c tc)(ha:tH X a t)(hb:tH X b u):PS X (.If c a b pos) (D3 tc t u):=by
 intro pins s σ H D I h
 refine wpAny_If (cQ (hc pins s σ H _ I h) fun d s1 ⟨H1,I1,q1⟩=>?_)
 cases d with
 | true=>exact ha pins s1 σ H1 D I1 q1
 | false=>exact hb pins s1 σ H1 D I1 q1
def tY:TS:=fun _ _ _=>False
theorem AG:PS X st tY:=fun _ _ _ _ _ _ h=>h.elim
end
abbrev TG:=V->St->Hp->(St->Hp->Prop)->Prop
abbrev yh:=List V->St->Hp->(St->Hp->Prop)->Prop
def PG(X:Cx)(target:Expr)(t:TG):Prop :=
 ∀ (pins:List (Addr × Obj))(s:Shared)(σ:St)(H:Hp)(v:V)(u:Value)(Q:St->Hp->Prop),aK X pins σ H s->bX v u->t v σ H Q ->
  wpAny (model X.prog X.w) X.A (assign target X.env u) (fun _ s'=>∃ σ' H',aK X pins σ' H' s'/\Q σ' H') X.xe s
def FK(X:Cx)(ts:List Expr)(t:yh):Prop :=
 ∀ (pins:List (Addr × Obj))(s:Shared)(σ:St)(H:Hp)(vs:List V)(us:List Value)(Q:St->Hp->Prop),aK X pins σ H s->bA vs us->t vs σ H Q ->
  wpAny (model X.prog X.w) X.A (assignInOrder ((assignEach ts X.env).map (·.2)) us) (fun _ s'=>∃ σ' H',aK X pins σ' H' s'/\Q σ' H') X.xe s
abbrev ud:=V->V->V->Hp->(Hp->Prop)->Prop
def xI(X:Cx)(t:ud):Prop :=
 ∀ (pins:List (Addr × Obj))(s:Shared)(σ:St)(H:Hp)(o i v:V)(ov iv u:Value)(Q:Hp->Prop),aK X pins σ H s->bX o ov->bX i iv->bX v u->t o i v H Q ->
  wpAny (model X.prog X.w) X.A (setItem ov iv u) (fun _ s'=>∃ H',aK X pins σ H' s'/\Q H') X.xe s
abbrev zZ:=V->V->Hp->VK->Prop
def Ci(X:Cx)(op:Operator)(t:zZ):Prop :=
 ∀ (pins:List (Addr × Obj))(s:Shared)(σ:St)(H:Hp)(x y:V)(v u:Value)(Q:VK),aK X pins σ H s->bX x v->bX y u->t x y H Q ->
  wpAny (model X.prog X.w) X.A (inplaceOp op v u) (EP X pins σ Q) X.xe s
section
variable {X:Cx}{pos:Pos}
def gH(i:Nat):TG:=fun v σ H Q=>Q (σ.set i (some v)) H
theorem BV{i:Nat}{x:Str}(hN:X.N.Nodup)(hi:X.N[i]? = some x)(hx:AM X.env.scope x)(hf:X.fn x=true\/X.env.scope.names.lookup x=some .local:=by first|exact .inl rfl|exact .inr rfl|assumption):PG X (.Name x pos) (gH i):=by
 intro pins s σ H v u Q I r h
 exact wpAny_assign_Name (fX I hN hi hx r (fun s' I'=>⟨_,H,I',h⟩) hf)
def uu:yh:=fun vs σ H Q=>vs=[]/\Q σ H
def jY(t:TG)(u:yh):yh:=fun vs σ H Q=>∃ v r,vs=v :: r/\t v σ H fun σ' H'=>u r σ' H' Q
theorem Br:FK X [] uu:=by
 intro pins s σ H vs us Q I r h
 obtain⟨e,h⟩:=h
 subst e
 cases r
 exact assignInOrder_nil ⟨σ,H,I,h⟩
theorem zu{e:Expr}{es:List Expr}{t:TG}{u:yh}(h1:PG X e t)(h2:FK X es u)
  (hs:(assignEach (e :: es) X.env).map (·.2)=assign e X.env :: (assignEach es X.env).map (·.2):=by rfl):FK X (e :: es) (jY t u):=by
 intro pins s σ H vs us Q I r h
 obtain⟨v,vr,e1,h⟩:=h
 subst e1
 cases r with
 | cons r rr =>
  rw[hs]
  refine assignInOrder_cons (cQ (h1 pins s σ H _ _ _ I r h) fun _ s1 ⟨σ1,H1,I1,q1⟩=>?_)
  exact h2 pins s1 σ1 H1 _ _ Q I1 rr q1
def F3(K:W.Frag)(n:Nat)(t:yh):TG:=fun v σ H Q=>∃ a xs,v = .ref a/\pB K H a xs/\xs.length=n/\t xs σ H Q
theorem Ey{es:List Expr}{k:Nat}{t:yh}{n:Nat}(hc:X.calm=true)(h:FK X es t)
  (hn:(assignEach es X.env).length=n:=by rfl)(hst:(assignEach es X.env).findIdx? (·.1)=none:=by rfl):PG X (.Tuple es k pos) (F3 X.K n t):=by
 intro pins s σ H v u Q I r hw
 obtain⟨a,xs,e1,hq,hl,hw⟩:=hw
 subst e1
 cases r
 obtain⟨its,rv,ht,hz⟩:=I.tuple hq
 refine assign_Tuple_tuple (I.ok.hd hc) ht (by simp[hn,<- hl,rv.length]) hst fun h' hx=>?_
 have I1:aK X pins σ H { s with heap:=h' }:=I.kept (t':=s.toks) fun b o e=>hx b o (Nat.ne_of_lt (Heap.lt_size e)) e
 exact h pins _ σ H xs _ Q I1 (by simpa using rv) hw
def DD(to ti:TE)(t:ud):TG:=fun v σ H Q=>to σ H fun o H1=>ti σ H1 fun i H2=>t o i v H2 fun H3=>Q σ H3
theorem FD{o i:Expr}{to ti:TE}{t:ud}(ho:PE X o to)(hi:PE X i ti)(hs:xI X t)
  (ha:∀ v,assign (.Subscript o i pos) X.env v=(do
   let ov <- holding [v] (eval o X.env)
   let iv <- holding [v,ov] (eval i X.env)
   standAt pos
   holding [v,ov,iv] (setItem ov iv v)
   release [v,ov,iv] []):=by intro _;rfl):PG X (.Subscript o i pos) (DD to ti t):=by
 intro pins s σ H v u Q I r h
 rw[ha]
 refine wpAny_bind (wpAny_holding (cQ (ho pins s σ H _ I h) fun ov s1 ⟨x,H1,I1,r1,q1⟩=>?_))
 refine wpAny_bind (wpAny_holding (cQ (hi pins s1 σ H1 _ I1 q1) fun iv s2 ⟨y,H2,I2,r2,q2⟩=>?_))
 refine wpAny_bind (wpAny_standAt (wpAny_bind (wpAny_holding (cQ (hs pins s2 σ H2 x y v ov iv u _ I2 r1 r2 r q2) fun _ s3 ⟨H3,I3,q3⟩=>?_))))
 exact wpAny_release ⟨σ,H3,I3,q3⟩
def ux(te:TE)(g:TG):TS:=fun D σ H=>te σ H fun x H1=>g x σ H1 D.nx
theorem EI{tg e:Expr}{te:TE}{g:TG}(he:PE X e te)(hg:PG X tg g)(hs:swapsWithSole [tg] e pos.line X.env=pure false:=by rfl)(hw:swappedStores [tg] e X.env=pure none:=by rfl)
  (h1:(assignEach [tg] X.env).map (·.2)=[assign tg X.env]:=by rfl):PS X (.Assign [tg] e pos) (ux te g):=by
 intro pins s σ H D I h
 refine wpAny_Assign_stores (cQ (he pins s σ H _ I h) fun v s1 ⟨x,H1,I1,r1,q1⟩=>?_) hs hw
 rw[h1]
 exact cQ (hg pins s1 σ H1 x v _ I1 r1 q1) fun _ s2 q=>q
theorem Fo{i:Nat}{x:Str}{e:Expr}{te:TE}{pos':Pos}(hN:X.N.Nodup)(hi:X.N[i]? = some x)(hx:AM X.env.scope x)(he:PE X e te)(hs:swapsWith e (some (.Name x pos')) pos.line X.env=pure false:=by rfl)(hf:X.fn x=true\/X.env.scope.names.lookup x=some .local:=by first|exact .inl rfl|exact .inr rfl|assumption) :
  PS X (.Assign [.Name x pos'] e pos) (ux te (gH i)):=by
 intro pins s σ H D I h
 refine wpAny_Assign_Name (cQ (he pins s σ H _ I h) fun v s1 ⟨y,H1,I1,r1,q1⟩=>?_) hs
 exact fX I1 hN hi hx r1 (fun s2 I2=>⟨_,H1,I2,q1⟩) hf
def BJ(i j:Nat)(ta:TA):TS:=fun D σ H=>ta σ H fun vs H1=>∃ v w,vs=[v,w]/\D.nx ((σ.set i (some v)).set j (some w)) H1
theorem Fy{i j:Nat}{x y:Str}{a b:Expr}{ta:TA}{px py pt:Pos} {kt k2 pt2}(hc:X.calm=true)(hN:X.N.Nodup)(hi:X.N[i]? = some x)(hj:X.N[j]? = some y)(hij:i ≠ j)
  (hx:X.env.scope.names.lookup x=some .local)(hy:X.env.scope.names.lookup y=some .local)(ha:PA X [a,b] ta)
  (hw:swappedStores [.Tuple [.Name x px,.Name y py] kt pt] (.Tuple [a,b] k2 pt2) X.env=pure (some [x,y]))
  (hs:swapsWithSole [.Tuple [.Name x px,.Name y py] kt pt] (.Tuple [a,b] k2 pt2) pos.line X.env=pure false:=by rfl) :
  PS X (.Assign [.Tuple [.Name x px,.Name y py] kt pt] (.Tuple [a,b] k2 pt2) pos) (BJ i j ta):=by
 intro pins s σ H D I h
 rw[exec_Assign_arm]
 refine wpAny_bind (wpAny_standAt ?_)
 rw[hs]
 refine wpAny_bind (wpAny_pure ?_)
 rw[if_neg (by decide)]
 refine wpAny_bind (Tuple_ (cQ (ha _ pins s σ H _ I h) fun us s1 ⟨vs,H1,I1,r1,q1⟩=>?_))
 obtain⟨v,w,e1,q1⟩:=q1
 subst e1
 obtain⟨u1,u2,rfl,rv,rw'⟩ : ∃ u1 u2,us=[u1,u2]/\bX v u1/\bX w u2:=by
  cases r1 with
  | cons p q =>
   cases q with
   | cons p' q' =>
    cases q'
    exact⟨_,_,rfl,p,p'⟩
 refine wpAny_newObj_type ?_ (by show 2<=sizeLine;decide)
 have I2:aK X pins σ H1 { s1 with heap:=s1.heap.push { cls:=.type "tuple",data:=.seq [u1,u2].toArray } }:=I1.kept (t':=s1.toks) fun b o e=>Heap.get?_push_of_some _ e
 rw[hw]
 refine wpAny_bind (wpAny_pure ?_)
 show wpAny (model X.prog X.w) X.A (do rule "assign.swapped-stores";let items <- unpackItems (.ref s1.heap.objs.size) 2 none;assignInOrder [fun v=>bindName X.env y v,fun v=>bindName X.env x v] items.reverse;pure Flow.next) _ _ _
 refine wpAny_bind (wpAny_rule (wpAny_bind (unpackItems_tuple (items:=#[u1,u2]) (I.ok.hd hc) (IsTup.new s1.heap _) fun h' hx'=>?_)))
 have I3:=I2.kept (h':=h') (t':=s1.toks) fun b o e=>hx' b o (Nat.ne_of_lt (Heap.lt_size e)) e
 show wpAny _ _ (assignInOrder [fun v=>bindName X.env y v,fun v=>bindName X.env x v] [u2,u1] >>= fun _=>pure Flow.next) _ _ _
 refine wpAny_bind (assignInOrder_cons (wpAny_bindName (fX I3 hN hj (.inl hy) rw' (fun s2 I4=>?_) (.inr hy))))
 refine assignInOrder_cons (wpAny_bindName (fX I4 hN hi (.inl hx) rv (fun s3 I5=>assignInOrder_nil (wpAny_pure ?_)) (.inr hx)))
 rw[List.set_comm _ _ (Ne.symm hij)] at I5
 exact⟨_,H1,I5,q1⟩
def DZ(i:Nat)(te:TE)(ti:zZ):TS:=fun D σ H=>∃ x,σ[i]? = some (some x)/\te σ H fun y H1=>ti x y H1 fun z H2=>D.nx (σ.set i (some z)) H2
theorem Eg{i:Nat}{x:Str}{e:Expr}{te:TE}{op:Operator}{ti:zZ}{pos':Pos}(hN:X.N.Nodup)(hi:X.N[i]? = some x)(hx:AM X.env.scope x)(he:PE X e te)(ho:Ci X op ti)(hf:X.fn x=true\/X.env.scope.names.lookup x=some .local:=by first|exact .inl rfl|exact .inr rfl|assumption) :
  PS X (.AugAssign (.Name x pos') op e pos) (DZ i te ti):=by
 intro pins s σ H D I h
 obtain⟨v,e1,h⟩:=h
 obtain⟨m,hn,hl⟩:=I.loc
 have vis:Gv X.env.scope x:=by rcases hx with k|k;exact .inl k;exact .inr (.inl k)
 obtain⟨u,r,l⟩:=hl i x v hi e1 vis
 refine wpAny_AugAssign_Name ?_
 have go:wpAny (model X.prog X.w) X.A (eval e X.env) (fun w s₂=>wpAny (model X.prog X.w) X.A (inplaceOp op u w) (fun r s₃=>wpAny (model X.prog X.w) X.A (storeName X.env x r) (fun _=>SP X pins D .next) X.xe s₃) X.xe s₂) X.xe s:=by
  refine cQ (he pins s σ H _ I h) fun w s1 ⟨y,H1,I1,r1,q1⟩=>?_
  refine cQ (ho pins s1 σ H1 v y u w _ I1 r r1 q1) fun z s2 ⟨zv,H2,I2,r2,q2⟩=>?_
  exact fX I2 hN hi hx r2 (fun s3 I3=>⟨_,H2,I3,q2⟩) hf
 rcases l with ⟨hk,hm⟩|⟨hk,c,hc,hcell⟩
 ·exact wpAny_loadName_local I.ok.kind hk hn hm go
 ·rcases hk with hk|hk
  ·exact wpAny_loadName_cell I.ok.kind hk hc hcell go
  ·rcases hx with k|k
   ·have:X.env.scope.names.lookup x=some .free:=hk
    rw[k] at this;cases this
   ·have:X.env.scope.names.lookup x=some .free:=hk
    rw[k] at this;cases this
def nW(to ti te:TE)(tget:V->V->Hp->VK->Prop)(tip:zZ)(tset:ud):TS:=fun D σ H=>to σ H fun o H1=>ti σ H1 fun i H2=>tget o i H2 fun x H3=>te σ H3 fun y H4=>tip x y H4 fun z H5=>tset o i z H5 fun H6=>D.nx σ H6
def D5(X:Cx)(t:V->V->Hp->VK->Prop):Prop :=
 ∀ (pins:List (Addr × Obj))(s:Shared)(σ:St)(H:Hp)(o i:V)(ov iv:Value)(Q:VK),aK X pins σ H s->bX o ov->bX i iv->t o i H Q ->
  wpAny (model X.prog X.w) X.A (getItem ov iv) (EP X pins σ Q) X.xe s
theorem BI{o i e:Expr}{to ti te:TE}{tget:V->V->Hp->VK->Prop}{tip:zZ}{tset:ud}{op:Operator}{tpos:Pos}(ho:PE X o to)(hi:PE X i ti)(hg:D5 X tget)(he:PE X e te)(hp:Ci X op tip)(hs:xI X tset)
  (ha:∀ ov iv new,augStore i ov iv new=(do holding [new,ov,iv] (setItem ov iv new);release [new,ov,iv] [];pure .next):=by intros;rfl):PS X (.AugAssign (.Subscript o i tpos) op e pos) (nW to ti te tget tip tset):=by
 intro pins s σ H D I h
 refine wpAny_AugAssign_SubscriptAny (cQ (ho pins s σ H _ I h) fun ov s1 ⟨x1,H1,I1,r1,q1⟩=>?_) ha
 refine cQ (hi pins s1 σ H1 _ I1 q1) fun iv s2 ⟨x2,H2,I2,r2,q2⟩=>?_
 refine cQ (hg pins s2 σ H2 x1 x2 ov iv _ I2 r1 r2 q2) fun old s3 ⟨x3,H3,I3,r3,q3⟩=>?_
 refine cQ (he pins s3 σ H3 _ I3 q3) fun v s4 ⟨x4,H4,I4,r4,q4⟩=>?_
 refine cQ (hp pins s4 σ H4 x3 x4 old v _ I4 r3 r4 q4) fun new s5 ⟨x5,H5,I5,r5,q5⟩=>?_
 exact cQ (hs pins s5 σ H5 x1 x2 x5 ov iv new _ I5 r1 r2 r5 q5) fun _ s6 ⟨H6,I6,q6⟩=>⟨σ,H6,I6,q6⟩
def DS(f:Int->Int->Int):zZ:=fun x y H Q=>∃ i j,x = .int i/\y = .int j/\Q (.int (f i j)) H
theorem uj:Ci X .Add (DS fun i j=>i+j):=by
 intro pins s σ H x y v u Q I r1 r2 h
 obtain⟨i,j,e1,e2,q⟩:=h
 subst e1;subst e2
 obtain⟨t,rfl⟩:=r1
 obtain⟨t',rfl⟩:=r2
 exact iadd_int ⟨.int _,H,I.tok _,⟨_,rfl⟩,q⟩
theorem nJ:Ci X .Sub (DS fun i j=>i - j):=by
 intro pins s σ H x y v u Q I r1 r2 h
 obtain⟨i,j,e1,e2,q⟩:=h
 subst e1;subst e2
 obtain⟨t,rfl⟩:=r1
 obtain⟨t',rfl⟩:=r2
 exact isub_int ⟨.int _,H,I.tok _,⟨_,rfl⟩,q⟩
end
section
variable {X:Cx}{pos:Pos}
def zi(c:TT)(tb:TS):TS:=fun D σ H=>∃ W:Nat->St->Hp->Prop,(∃ m,W m σ H) /\ ∀ m σ H,W m σ H ->
 c σ H fun b H1=>if b=true then ∃ N:St->Hp->Prop,(∀ σ' H',N σ' H' -> ∃ m',m'<m/\W m' σ' H')/\tb { D with nx:=N,ct:=N,bk:=D.nx } σ H1 else D.nx σ H1
theorem zg{c:Expr}{body:List Stmt}{tc:TT}{tb:TS}(hp:PassesOwn (model X.prog X.w) X.A X.env X.xe)(hc:PT X c tc)(hb:tH X body tb):PS X (.While c body [] pos) (zi tc tb):=by
 intro pins s σ H D I h
 obtain⟨W,⟨m0,w0⟩,turn⟩:=h
 refine wpAny_While (codeAny_whileLoop (fun n s'=>∃ σ' H',aK X pins σ' H' s'/\W n σ' H') ?_ m0 ⟨σ,H,I,w0⟩)
 rintro n s1 ⟨σ1,H1,I1,w1⟩
 refine wpAny_passesOwn hp (cQ (hc pins s1 σ1 H1 _ I1 (turn n σ1 H1 w1)) fun b s2 ⟨H2,I2,q2⟩=>?_)
 cases b with
 | true =>
  obtain⟨N,hN,q2⟩:=q2
  rw[if_pos rfl]
  refine wpAny_passesOwn hp (cQ (hb pins s2 σ1 H2 _ I2 q2) fun f s3 q3=>?_)
  cases f with
  | next =>
   obtain⟨σ3,H3,I3,n3⟩:=q3
   obtain⟨m',hm,w3⟩:=hN σ3 H3 n3
   exact⟨m',hm,σ3,H3,I3,w3⟩
  | cont =>
   obtain⟨σ3,H3,I3,n3⟩:=q3
   obtain⟨m',hm,w3⟩:=hN σ3 H3 n3
   exact⟨m',hm,σ3,H3,I3,w3⟩
  | brk=>exact q3
  | ret v=>exact q3
 | false =>
  rw[if_neg Bool.false_ne_true]
  exact wpAny_execs_nil ⟨σ1,H2,I2,q2⟩
end
structure It where
 go:Nat->Hp->Prop
 yld:Nat->Hp->V->Hp->Prop
 stop:Nat->Hp->Prop
def lJ(X:Cx)(pins:List (Addr × Obj))(H:Hp)(b:Addr):Prop :=
 H b=none/\b ≠ X.env.locals/\b ∉ X.fs/\(b ∈ X.ex\/X.s₀.heap.objs.size<=b)/\(∀ x c,X.env.cells.lookup x=some c->c ≠ b) /\ ∀ p ∈ X.pn ++ pins,p.1 ≠ b
theorem aK.fpOk{X:Cx}{pins:List (Addr × Obj)}{σ:St}{H H':Hp}{s:Shared}{b:Addr}(I:aK X pins σ H s)(hb:s.heap.objs.size<=b)(hn:H' b=none):lJ X pins H' b:=by
 refine⟨hn,Nat.ne_of_gt (Nat.lt_of_lt_of_le I.lt hb),I.nofs hb,.inr (Nat.le_trans I.sz hb),fun x c e z=>?_,fun p hp z=>?_⟩
 ·obtain⟨v,q⟩:=I.cell x c e
  exact absurd (Nat.lt_of_lt_of_le q.lt (by rw[z];exact hb)) (Nat.lt_irrefl _)
 ·exact absurd (Nat.lt_of_lt_of_le (Heap.lt_size (I.pin p hp).1) (by rw[z];exact hb)) (Nat.lt_irrefl _)
structure uJ (P:Program)(w:World)(K:W.Frag)(tg:Expr)(J:It)(fp:List Addr)(it:Addr)(tn:Nat->Heap->Prop):Prop where
 mem:it ∈ fp
 obj:∀ i h,tn i h -> ∀ b ∈ fp,∃ o,h.get? b=some o /\ ∀ v,o.data ≠ .cell v
 keep:∀ i h h',tn i h->(∀ b ∈ fp,∀ o,h.get? b=some o->h'.get? b=some o)->tn i h'
 item:∀ (X:Cx),X.prog=P->X.w=w->X.K=K->X.calm=true -> ∀ (i:Nat)(pins:List (Addr × Obj))(s:Shared)(σ:St)(H:Hp)(E:Value->Shared->Prop),aK X pins σ H s->(∀ b ∈ fp,lJ X pins H b)->tn i s.heap->J.go i H ->
  wpAny (model P w) X.A (pyNext (.ref it)) (fun r s1=>∃ u,r=some u /\
   wpAny (model P w) X.A (letOwnedTupleGo tg (.ref it) u) (fun _ s2=>∃ x H',aK X pins σ H' s2/\bX x u/\J.yld i H x H'/\tn (i+1) s2.heap /\ ∀ b ∈ fp,H' b=none) E s1) E s
 done:∀ (X:Cx),X.prog=P->X.w=w->X.K=K->X.calm=true -> ∀ (i:Nat)(pins:List (Addr × Obj))(s:Shared)(σ:St)(H:Hp)(E:Value->Shared->Prop),aK X pins σ H s->(∀ b ∈ fp,lJ X pins H b)->tn i s.heap->J.stop i H ->
  wpAny (model P w) X.A (pyNext (.ref it)) (fun r s1=>r=none/\aK X pins σ H s1) E s
 self:∀ (A:Around)(i:Nat)(s:Shared)(Q:Value->Shared->Prop)(E:Value->Shared->Prop),tn i s.heap->Q (.ref it) s->wpAny (model P w) A (pyIter (.ref it)) Q E s
abbrev TI:=St->Hp->(It->Hp->Prop)->Prop
def Hr(X:Cx)(pins:List (Addr × Obj))(σ:St)(tg:Expr)(R:It->Hp->Prop)(itv:Value)(s2:Shared):Prop :=
 ∃ (it:Addr)(fp:List Addr)(tn:Nat->Heap->Prop)(J:It)(H':Hp),itv = .ref it/\aK X pins σ H' s2/\uJ X.prog X.w X.K tg J fp it tn/\tn 0 s2.heap/\(∀ b ∈ fp,lJ X pins H' b)/\R J H'
def PI(X:Cx)(tg iter:Expr)(wi:TI):Prop :=
 ∀ (pins:List (Addr × Obj))(s:Shared)(σ:St)(H:Hp)(R:It->Hp->Prop),aK X pins σ H s->wi σ H R ->
  wpAny (model X.prog X.w) X.A (eval iter X.env) (fun v s1=>wpAny (model X.prog X.w) X.A (pyIter v) (Hr X pins σ tg R) X.xe s1) X.xe s
theorem vA{M:Model}{A:Around}{E:Value->Shared->Prop}{s:Shared}{tg:Expr}{it:Addr}{u:Value}{o:Obj}{n:String}{vs:Array Value}{Q:Unit->Shared->Prop}(ho:s.heap.get? it=some o)(hc:o.cls = .type n)(hd:o.data = .fields vs)
  (hn:["enumerate", "zip", "dict_itemiterator", "dict_reverseitemiterator", "odict_iterator", "itertools.zip_longest", "itertools.pairwise"].contains n=false) (hQ:Q () s):wpAny M A (letOwnedTupleGo tg (.ref it) u) Q E s:=by
 unfold letOwnedTupleGo
 cases tg <;> first
  | exact wpAny_pure hQ
  | (cases u <;> first
    | exact wpAny_pure hQ
    | (refine wpAny_bind (wpAny_load ho ?_)
       rw[hc,hd]
       show wpAny M A (if (["enumerate", "zip", "dict_itemiterator", "dict_reverseitemiterator", "odict_iterator", "itertools.zip_longest", "itertools.pairwise"].contains n && vs[0]? == some (rawInt _))=true then _ else _) Q E s
       rw[if_neg (by intro h;rw[hn,Bool.false_and] at h;cases h)]
       exact wpAny_pure hQ))
def GG(K:W.Frag)(a:Addr):It :=
 ⟨fun i H=>∃ xs x,j6 K H a xs/\xs[i]? = some x,fun i H x H'=>H'=H /\ ∀ xs,j6 K H a xs->xs[i]? = some x,fun i H=>∃ xs,j6 K H a xs/\xs.length<=i⟩
def Hq(K:W.Frag)(a:Addr):It :=
 ⟨fun i H=>∃ xs x,pB K H a xs/\xs[i]? = some x,fun i H x H'=>H'=H /\ ∀ xs,pB K H a xs->xs[i]? = some x,fun i H=>∃ xs,pB K H a xs/\xs.length<=i⟩
def FI(lo:Int)(n:Nat):It:=⟨fun i _=>i<n,fun i H x H'=>H'=H/\x = .int (lo+i),fun i _=>n<=i⟩
theorem xJ{P:Program}{w:World}{K:W.Frag}{tg:Expr}(a it:Addr):uJ P w K tg (GG K a) [it] it (fun i h=>h.IsListIter it a i) where
 mem:=by simp
 obj:=fun i h st b hb=>by
  have e:b=it:=by simpa using hb
  subst e
  obtain⟨o,e,c,d⟩:=st
  exact⟨o,e,fun v z=>by rw[d] at z;cases z⟩
 keep:=fun i h h' st k=>st.at fun o e=>k it (by simp) o e
 item:=by
  intro X hP hw hK hc i pins s σ H E I hf st hg
  subst hP hw hK
  obtain⟨xs,x,hq,hx⟩:=hg
  obtain⟨its,rv,p,hz⟩:=I.list hq
  obtain⟨u,hu,ru⟩:=rv.get hx
  obtain⟨f0,f1,f2,f3,f4,f5⟩:=hf it (by simp)
  refine wpAny_pyNext_list_item st p.isList (x:=u) (by simpa using hu) fun h' st' sb=>?_
  have I1:aK X pins σ H { s with heap:=h' }:=I.turned (t':=s.toks) (fun b o hb e=>(sb.2 b hb).trans e) f0 f1 f3 f4 f5
  obtain⟨o,e,c,d⟩:=id st'
  exact⟨u,rfl,vA (s:={ s with heap:=h' }) e c d (by decide) ⟨x,H,I1,ru,⟨rfl,fun ys hy=>by rw[I.list_inj hy hq];exact hx⟩,st',fun b hb=>(hf b hb).1⟩⟩
 done:=by
  intro X hP hw hK hc i pins s σ H E I hf st hg
  subst hP hw hK
  obtain⟨xs,hq,hx⟩:=hg
  obtain⟨its,rv,p,hz⟩:=I.list hq
  obtain⟨f0,f1,f2,f3,f4,f5⟩:=hf it (by simp)
  have hl:=rv.length
  exact wpAny_pyNext_list_end (I.ok.hd hc) st p.isList (by simp;walk_at"o") fun h' eb=>⟨rfl,I.turned (t':=s.toks) (fun b o hb e=>eb b o hb e) f0 f1 f3 f4 f5⟩
 self:=fun _ _ _ _ _ st h=>wpAny_pyIter_listiter st h
theorem tM{P:Program}{w:World}{K:W.Frag}{tg:Expr}(a it:Addr):uJ P w K tg (Hq K a) [it] it (fun i h=>h.IsTupleIter it a i) where
 mem:=by simp
 obj:=fun i h st b hb=>by
  have e:b=it:=by simpa using hb
  subst e
  obtain⟨o,e,c,d⟩:=st
  exact⟨o,e,fun v z=>by rw[d] at z;cases z⟩
 keep:=fun i h h' st k=>st.at fun o e=>k it (by simp) o e
 item:=by
  intro X hP hw hK hc i pins s σ H E I hf st hg
  subst hP hw hK
  obtain⟨xs,x,hq,hx⟩:=hg
  obtain⟨its,rv,p,hz⟩:=I.tuple hq
  obtain⟨u,hu,ru⟩:=rv.get hx
  obtain⟨f0,f1,f2,f3,f4,f5⟩:=hf it (by simp)
  refine wpAny_pyNext_tuple_item st (show s.heap.IsTuple a its.toArray from p) (x:=u) (by simpa using hu) fun h' st' sb=>?_
  have I1:aK X pins σ H { s with heap:=h' }:=I.turned (t':=s.toks) (fun b o hb e=>(sb.2 b hb).trans e) f0 f1 f3 f4 f5
  obtain⟨o,e,c,d⟩:=id st'
  exact⟨u,rfl,vA (s:={ s with heap:=h' }) e c d (by decide) ⟨x,H,I1,ru,⟨rfl,fun ys hy=>by rw[I.tuple_inj hy hq];exact hx⟩,st',fun b hb=>(hf b hb).1⟩⟩
 done:=by
  intro X hP hw hK hc i pins s σ H E I hf st hg
  subst hP hw hK
  obtain⟨xs,hq,hx⟩:=hg
  obtain⟨its,rv,p,hz⟩:=I.tuple hq
  obtain⟨f0,f1,f2,f3,f4,f5⟩:=hf it (by simp)
  have hl:=rv.length
  exact wpAny_pyNext_tuple_end (I.ok.hd hc) st (show s.heap.IsTuple a its.toArray from p) (by simp;walk_at"o") fun h' eb=>⟨rfl,I.turned (t':=s.toks) (fun b o hb e=>eb b o hb e) f0 f1 f3 f4 f5⟩
 self:=fun _ _ _ _ _ st h=>wpAny_pyIter_tupleiter st h
theorem uv{P:Program}{w:World}{K:W.Frag}{tg:Expr}(it:Addr)(lo:Int)(n:Nat):uJ P w K tg (FI lo n) [it] it (fun i h=>IsRangeIter h it (lo+(i:Nat)*1) ((n:Int) - (i:Nat)) 1) where
 mem:=by simp
 obj:=fun i h st b hb=>by
  have e:b=it:=by simpa using hb
  subst e
  exact⟨_,st,fun v z=>by
   have z':Data.fields _=Data.cell v:=z
   cases z'⟩
 keep:=fun i h h' st k=>k it (by simp) _ st
 item:=by
  intro X hP hw hK hc i pins s σ H E I hf st hg
  subst hP hw hK
  obtain⟨f0,f1,f2,f3,f4,f5⟩:=hf it (by simp)
  have W:=Walks.range (prog:=X.prog) (w:=X.w) (I.ok.hd hc) it lo 1 n
  refine W.item i s _ _ hg st fun v h' tk hv st' kk=>?_
  obtain⟨t,rfl⟩:=hv
  have I1:aK X pins σ H { s with heap:=h',toks:=tk }:=I.turned (fun b o hb e=>kk b o (by simpa using hb) e) f0 f1 f3 f4 f5
  refine⟨_,rfl,vA (s:={ s with heap:=h',toks:=tk }) (n:="range_iterator") st' rfl rfl (by decide) ⟨.int (lo+i),H,I1,⟨t,?_⟩,⟨rfl,rfl⟩,st',fun b hb=>(hf b hb).1⟩⟩
  rw[Int.mul_one]
 done:=by
  intro X hP hw hK hc i pins s σ H E I hf st hg
  subst hP hw hK
  obtain⟨f0,f1,f2,f3,f4,f5⟩:=hf it (by simp)
  exact wpAny_pyNext_range_end (I.ok.hd hc) st (by have:n<=i:=hg;walk_at"o") fun h' eb=>⟨rfl,I.turned (t':=s.toks) (fun b o hb e=>eb b o hb e) f0 f1 f3 f4 f5⟩
 self:=fun _ _ _ _ _ st h=>wpAny_pyIter_rangeiter st h
end L2
namespace L2
open PySem PySem.Spec PyProof.Rows
section
variable {X:Cx}{tg:Expr}
def vJ(K:W.Frag)(tl:TE):TI:=fun σ H R=>tl σ H fun x H1=>∃ a,x = .ref a/\(∃ xs,j6 K H1 a xs)/\R (GG K a) H1
def Fc(K:W.Frag)(tl:TE):TI:=fun σ H R=>tl σ H fun x H1=>∃ a,x = .ref a/\(∃ xs,pB K H1 a xs)/\R (Hq K a) H1
theorem Cf{l:Expr}{tl:TE}(hl:PE X l tl):PI X tg l (vJ X.K tl):=by
 intro pins s σ H R I h
 refine cQ (hl pins s σ H _ I h) fun v s1 ⟨x,H1,I1,r1,q1⟩=>?_
 obtain⟨a,e,⟨xs,hq⟩,q⟩:=q1
 subst e
 cases r1
 obtain⟨its,rv,p,hz⟩:=I1.list hq
 refine wpAny_pyIter_list p.isList ?_
 refine⟨s1.heap.objs.size,[s1.heap.objs.size],_,_,H1,rfl,I1.kept (t':=s1.toks) fun b o e=>Heap.get?_push_of_some _ e,xJ a _,⟨_,Heap.get?_push_size _ rfl,rfl,rfl⟩,fun b hb=>?_,q⟩
 have e:b=s1.heap.objs.size:=by simpa using hb
 subst e
 exact I1.fpOk (Nat.le_refl _) (I1.hok.fresh (Nat.le_refl _))
theorem EC{l:Expr}{tl:TE}(hl:PE X l tl):PI X tg l (Fc X.K tl):=by
 intro pins s σ H R I h
 refine cQ (hl pins s σ H _ I h) fun v s1 ⟨x,H1,I1,r1,q1⟩=>?_
 obtain⟨a,e,⟨xs,hq⟩,q⟩:=q1
 subst e
 cases r1
 obtain⟨its,rv,p,hz⟩:=I1.tuple hq
 refine wpAny_pyIter_tuple (show s1.heap.IsTuple a its.toArray from p) ?_
 refine⟨s1.heap.objs.size,[s1.heap.objs.size],_,_,H1,rfl,I1.kept (t':=s1.toks) fun b o e=>Heap.get?_push_of_some _ e,tM a _,⟨_,Heap.get?_push_size _ rfl,rfl,rfl⟩,fun b hb=>?_,q⟩
 have e:b=s1.heap.objs.size:=by simpa using hb
 subst e
 exact I1.fpOk (Nat.le_refl _) (I1.hok.fresh (Nat.le_refl _))
theorem sT{pins:List (Addr × Obj)}{σ:St}{H:Hp}{s:Shared}{R:It->Hp->Prop}{E:Value->Shared->Prop}{lo hi:Int}{t u v:Tok}{tk:Nat}(I:aK X pins σ H s)(h1 : -(2 ^ 62)<=lo)(h2:lo<2 ^ 62)(h3 : -(2 ^ 62)<=hi)(h4:hi<2 ^ 62)
  (q:R (FI lo (hi - lo).toNat) H):wpAny (model X.prog X.w) X.A (pyIter (.ref s.heap.objs.size)) (Hr X pins σ tg R) E { s with heap:=s.heap.push { cls:=.type "range",data:=.fields #[.int lo t,.int hi u,.int 1 v] },toks:=tk }:=by
 refine wpAny_pyIter_range (IsRange.new ..) (small_one h1 h2 h3 h4) ?_
 have I1:aK X pins σ H { s with heap:=s.heap.push { cls:=.type "range",data:=.fields #[.int lo t,.int hi u,.int 1 v] },toks:=tk }:=I.kept fun b o e=>Heap.get?_push_of_some _ e
 refine⟨(s.heap.push { cls:=.type "range",data:=.fields #[.int lo t,.int hi u,.int 1 v] }).objs.size,[(s.heap.push { cls:=.type "range",data:=.fields #[.int lo t,.int hi u,.int 1 v] }).objs.size],_,_,H,rfl,
  I1.kept (t':=tk) fun b o e=>Heap.get?_push_of_some _ e,uv _ lo (hi - lo).toNat,?_,fun b hb=>?_,q⟩
 ·have e1:lo+((0:Nat):Int)*1=lo:=by simp
  have e2:(((hi - lo).toNat:Nat):Int) - ((0:Nat):Int)=Builtin.Range.rangeSize lo hi 1:=by rw[rangeSize_one];split <;> walk_at"o"
  show IsRangeIter _ _ (lo+((0:Nat):Int)*1) ((((hi - lo).toNat:Nat):Int) - ((0:Nat):Int)) 1
  rw[e1,e2]
  exact Heap.get?_push_size _ rfl
 ·have e:b=(s.heap.push { cls:=.type "range",data:=.fields #[.int lo t,.int hi u,.int 1 v] }).objs.size:=by simpa using hb
  subst e
  exact I1.fpOk (Nat.le_refl _) (I1.hok.fresh (Nat.le_refl _))
def wR(ta:TA):TI:=fun σ H R=>ta σ H fun vs H1=>∃ j:Int,vs=[.int j] /\ -(2 ^ 62)<=j/\j<2 ^ 62/\R (FI 0 j.toNat) H1
def Ae(ta:TA):TI:=fun σ H R=>ta σ H fun vs H1=>∃ i j:Int,vs=[.int i,.int j]/\(-(2 ^ 62)<=i/\i<2 ^ 62 /\ -(2 ^ 62)<=j/\j<2 ^ 62)/\R (FI i (j - i).toNat) H1
theorem ya{a:Expr}{ta:TA}{p pos:Pos}(hg:Gl X "range") (hm:X.mg "range" = none) (ha:PA X [a] ta)(hs:starEach [a] X.env=[(false,eval a X.env)]:=by rfl):PI X tg (.Call (.Name "range" p) [a] [] pos) (wR ta):=by
 intro pins s σ H R I h
 refine Call_ (i7 I hg hm boot_range (PyProof.Rows.callWith_type1 (cQ (ha pos pins s σ H _ I h) fun us s1 ⟨vs,H1,I1,r1,q1⟩=>?_) hs rfl))
 obtain⟨j,e,q1,q2,q⟩:=q1
 subst e
 cases r1 with
 | cons r rr =>
  cases rr
  obtain⟨t,rfl⟩:=r
  exact call_range_1 (sT I1 (by walk_at"o") (by walk_at"o") q1 q2 (by simpa using q))
theorem xK{a b:Expr}{ta:TA}{p pos:Pos}(hg:Gl X "range") (hm:X.mg "range" = none) (ha:PA X [a,b] ta)(hs:starEach [a,b] X.env=[(false,eval a X.env),(false,eval b X.env)]:=by rfl)(hs2:starEach [b] X.env=[(false,eval b X.env)]:=by rfl) :
  PI X tg (.Call (.Name "range" p) [a,b] [] pos) (Ae ta):=by
 intro pins s σ H R I h
 refine Call_ (i7 I hg hm boot_range (PyProof.Rows.callWith_type1 (cQ (ha pos pins s σ H _ I h) fun us s1 ⟨vs,H1,I1,r1,q1⟩=>?_) (by rw[hs,hs2]) (by rw[hs2];rfl)))
 obtain⟨i,j,e,⟨q1,q2,q3,q4⟩,q⟩:=q1
 subst e
 cases r1 with
 | cons r rr =>
  cases rr with
  | cons r' rr =>
   cases rr
   obtain⟨t,rfl⟩:=r
   obtain⟨t',rfl⟩:=r'
   exact call_range_2 (sT I1 q1 q2 q3 q4 q)
def EK(wi:TI)(g:TG)(tb:TS):TS:=fun D σ H=>wi σ H fun J H1=>∃ W:Nat->Nat->St->Hp->Prop,(∃ m,W 0 m σ H1) /\ ∀ i m σ H,W i m σ H ->
 (J.stop i H/\D.nx σ H)\/(J.go i H /\ ∃ N:St->Hp->Prop,(∀ σ' H',N σ' H' -> ∃ m',m'<m/\W (i+1) m' σ' H') /\ ∀ x H',J.yld i H x H'->g x σ H' fun σ2 H2=>tb { D with nx:=N,ct:=N,bk:=D.nx } σ2 H2)
def nZ(fp:List Addr)(h:Heap):List (Addr × Obj):=fp.filterMap fun b=>(h.get? b).map fun o=>(b,o)
theorem iH{fp:List Addr}{h:Heap}{b:Addr}{o:Obj}(hb:b ∈ fp)(e:h.get? b=some o):(b,o) ∈ nZ fp h:=List.mem_filterMap.mpr ⟨b,hb,by rw[e];rfl⟩
theorem xh{fp:List Addr}{h:Heap}{p:Addr × Obj}(hp:p ∈ nZ fp h):p.1 ∈ fp/\h.get? p.1=some p.2:=by
 obtain⟨b,hb,e⟩:=List.mem_filterMap.mp hp
 cases q:h.get? b with
 | none=>rw[q] at e;cases e
 | some o =>
  rw[q] at e
  have e':(b,o)=p:=Option.some.inj e
  subst e'
  exact⟨hb,q⟩
theorem aK.pinned{pins:List (Addr × Obj)}{σ:St}{H:Hp}{s:Shared}{fp:List Addr}(I:aK X pins σ H s)(hf:∀ b ∈ fp,lJ X pins H b)(ho:∀ b ∈ fp,∃ o,s.heap.get? b=some o /\ ∀ v,o.data ≠ .cell v):aK X (pins ++ nZ fp s.heap) σ H s :=
 I.pins_of fun p hp=>(List.mem_append.mp hp).elim (fun z=>I.pin p (List.mem_append_right _ z)) fun z=>by
  obtain⟨hb,e⟩:=xh z
  obtain⟨f0,f1,f2,_⟩:=hf p.1 hb
  obtain⟨o,e',d⟩:=ho p.1 hb
  rw[e] at e';cases e'
  exact⟨e,f0,f1,f2,d⟩
theorem aK.unpinned{pins pl:List (Addr × Obj)}{σ:St}{H:Hp}{s:Shared}(I:aK X (pins ++ pl) σ H s):aK X pins σ H s:=I.pins_of fun p hp=>I.pin p (List.mem_append_right _ (List.mem_append_left _ hp))
theorem DO{iter:Expr}{body:List Stmt}{wi:TI}{g:TG}{tb:TS}{pos:Pos}(hp:PassesOwn (model X.prog X.w) X.A X.env X.xe)(hc:X.calm=true)(hi:PI X tg iter wi)(hg:PG X tg g)(hb:tH X body tb)
  (hs:∀ x,foldedSetIterable iter X.env x=pure x:=by intro _;rfl):PS X (.For tg iter body [] pos) (EK wi g tb):=by
 intro pins s σ H D I h
 refine wpAny_For (cQ (hi pins s σ H _ I h) fun v s1 h1=>cQ h1 fun itv s2 h2=>?_) hs
 obtain⟨it,fp,tn,J,H2,e,I2,T,st2,f2,W,⟨m0,w0⟩,turn⟩:=h2
 subst e
 have stat:∀ {H':Hp},(∀ b ∈ fp,H' b=none) -> ∀ b ∈ fp,lJ X pins H' b:=fun hn b hb=>⟨hn b hb,(f2 b hb).2⟩
 refine codeAny_forLoop_any (fun n s'=>∃ i σ' H',aK X pins σ' H' s'/\tn i s'.heap/\(∀ b ∈ fp,H' b=none)/\W i n σ' H') ?_ m0 ⟨0,σ,H2,I2,st2,fun b hb=>(f2 b hb).1,w0⟩
 rintro n s3 ⟨i,σ3,H3,I3,st3,fr3,w3⟩
 rcases turn i n σ3 H3 w3 with ⟨stop,qn⟩|⟨go,N,hN,step⟩
 ·refine wpAny_passesOwn hp (cQ (T.done X rfl rfl rfl hc i pins s3 σ3 H3 X.xe I3 (stat fr3) st3 stop) fun r s4 ⟨hr,I4⟩=>?_)
  subst hr
  exact wpAny_execs_nil ⟨σ3,H3,I4,qn⟩
 ·refine wpAny_passesOwn hp (cQ (T.item X rfl rfl rfl hc i pins s3 σ3 H3 X.xe I3 (stat fr3) st3 go) fun r s4 ⟨u,hr,h4⟩=>?_)
  subst hr
  refine wpAny_passesOwn hp (cQ h4 fun _ s5 ⟨x,H5,I5,r5,y5,st5,fr5⟩=>?_)
  have I5':=I5.pinned (stat fr5) (T.obj _ _ st5)
  refine wpAny_passesOwn hp (cQ (hg _ s5 σ3 H5 x u _ I5' r5 (step x H5 y5)) fun _ s6 ⟨σ6,H6,I6,q6⟩=>?_)
  refine wpAny_passesOwn hp (cQ (hb _ s6 σ6 H6 _ I6 q6) fun f s7 q7=>?_)
  have again:∀ {σ7:St}{H7:Hp},aK X (pins ++ nZ fp s5.heap) σ7 H7 s7->N σ7 H7 -> ∃ m,m<n /\ ∃ i σ' H',aK X pins σ' H' s7/\tn i s7.heap/\(∀ b ∈ fp,H' b=none)/\W i m σ' H':=fun {σ7 H7} I7 n7=>by
   obtain⟨m',hm,w7⟩:=hN σ7 H7 n7
   refine⟨m',hm,i+1,σ7,H7,I7.unpinned,T.keep _ _ _ st5 fun b hb o e=>(I7.pin (b,o) (List.mem_append_right _ (List.mem_append_right _ (iH hb e)))).1,fun b hb=>?_,w7⟩
   obtain⟨o,e,d⟩:=T.obj _ _ st5 b hb
   exact (I7.pin (b,o) (List.mem_append_right _ (List.mem_append_right _ (iH hb e)))).2.1
  cases f with
  | next=>obtain⟨σ7,H7,I7,n7⟩:=q7;exact again I7 n7
  | cont=>obtain⟨σ7,H7,I7,n7⟩:=q7;exact again I7 n7
  | brk=>obtain⟨σ7,H7,I7,q7⟩:=q7;exact⟨σ7,H7,I7.unpinned,q7⟩
  | ret v=>obtain⟨x7,σ7,H7,I7,r7,q7⟩:=q7;exact⟨x7,σ7,H7,I7.unpinned,r7,q7⟩
end
end L2
namespace L2
open PySem PySem.Spec PyProof.Rows
abbrev R2:=V->V->Hp->VK->Prop
def eK(X:Cx)(f:Value->Value->Sem Value)(r:R2):Prop :=
 ∀ (pins:List (Addr × Obj))(s:Shared)(σ:St)(H:Hp)(x y:V)(v u:Value)(Q:VK),aK X pins σ H s->bX x v->bX y u->r x y H Q ->
  wpAny (model X.prog X.w) X.A (f v u) (EP X pins σ Q) X.xe s
def GE(X:Cx)(f:Value->Sem Value)(r:V->Hp->VK->Prop):Prop :=
 ∀ (pins:List (Addr × Obj))(s:Shared)(σ:St)(H:Hp)(x:V)(v:Value)(Q:VK),aK X pins σ H s->bX x v->r x H Q ->
  wpAny (model X.prog X.w) X.A (f v) (EP X pins σ Q) X.xe s
def fF(X:Cx)(f:Value)(r:List V->Hp->VK->Prop):Prop :=
 ∀ (pins:List (Addr × Obj))(s:Shared)(σ:St)(H:Hp)(xs:List V)(us:List Value)(Q:VK),aK X pins σ H s->bA xs us->r xs H Q ->
  wpAny (model X.prog X.w) X.A (call f us) (EP X pins σ Q) X.xe s
def He(X:Cx)(r:V->Hp->(Bool->Hp->Prop)->Prop):Prop :=
 ∀ (pins:List (Addr × Obj))(s:Shared)(σ:St)(H:Hp)(x:V)(v:Value)(Q:Bool->Hp->Prop),aK X pins σ H s->bX x v->r x H Q ->
  wpAny (model X.prog X.w) X.A (truthy v) (TP X pins σ Q) X.xe s
def BQ(r:R2)(ta tb:TE):TE:=fun σ H Q=>ta σ H fun x H1=>tb σ H1 fun y H2=>r x y H2 Q
def GU(r:V->Hp->VK->Prop)(ta:TE):TE:=fun σ H Q=>ta σ H fun x H1=>r x H1 Q
def rI(C:Int->Int->Prop)(g:Int->Int->V):R2:=fun x y H Q=>∃ i j,x = .int i/\y = .int j/\C i j/\Q (g i j) H
def vN(g:Int->Int->V):R2:=fun x y H Q=>∃ i j,x = .int i/\y = .int j/\Q (g i j) H
def rU(g:Int->V):V->Hp->VK->Prop:=fun x H Q=>∃ i,x = .int i/\Q (g i) H
section
variable {X:Cx}{a b c:Expr}{ta tb tc:TE}{pos:Pos}
theorem Ff(ha:PE X a ta)(hb:PE X b tb) {pins:List (Addr × Obj)}{s:Shared}{σ:St}{H:Hp}{R:V->V->Hp->Prop}(I:aK X pins σ H s)
  (h:ta σ H fun x H1=>tb σ H1 fun y H2=>R x y H2) {Q:Value->Shared->Prop}{f:Value->Value->Sem Value}
  (hf:∀ v u s2 x y H2,aK X pins σ H2 s2->bX x v->bX y u->R x y H2->wpAny (model X.prog X.w) X.A (f v u) Q X.xe s2) :
  wpAny (model X.prog X.w) X.A (eval a X.env) (fun v s₁=>wpAny (model X.prog X.w) X.A (eval b X.env) (fun u s₂=>wpAny (model X.prog X.w) X.A (f v u) Q X.xe s₂) X.xe s₁) X.xe s:=by
 refine cQ (ha pins s σ H _ I h) fun v s1 ⟨x,H1,I1,r1,q1⟩=>?_
 refine cQ (hb pins s1 σ H1 _ I1 q1) fun u s2 ⟨y,H2,I2,r2,q2⟩=>?_
 exact hf v u s2 x y H2 I2 r1 r2 q2
theorem Gk{op:Operator}{r:R2}(ho:eK X (binaryOp op) r)(ha:PE X a ta)(hb:PE X b tb):PE X (.BinOp a op b pos) (BQ r ta tb):=by
 intro pins s σ H Q I h
 exact wpAny_BinOp (Ff ha hb I h fun v u s2 x y H2 I2 rx ry q=>ho pins s2 σ H2 x y v u Q I2 rx ry q)
theorem GB{op:UnaryOp}{r:V->Hp->VK->Prop}(ho:GE X (unaryOp op) r)(ha:PE X a ta):PE X (.UnaryOp op a pos) (GU r ta):=by
 intro pins s σ H Q I h
 exact UnaryOp_ (cQ (ha pins s σ H _ I h) fun v s1 ⟨x,H1,I1,r1,q1⟩=>ho pins s1 σ H1 x v Q I1 r1 q1)
theorem Gu{f:Value->Value->Sem Value}{C:Int->Int->Prop}{g:Int->Int->Int}
  (rule:∀ (i j:Int)(t u:Tok)(s:Shared)(Q:Value->Shared->Prop)(E:Value->Shared->Prop),C i j->Q (.int (g i j) s.toks) { s with toks:=s.toks+1 } -> wpAny (model X.prog X.w) X.A (f (.int i t) (.int j u)) Q E s) :
  eK X f (rI C fun i j=>.int (g i j)):=by
 intro pins s σ H x y v u Q I rx ry h
 obtain⟨i,j,rfl,rfl,hc,q⟩:=h
 obtain⟨t,rfl⟩:=rx
 obtain⟨t',rfl⟩:=ry
 exact rule i j t t' s _ _ hc ⟨.int (g i j),H,I.tok _,⟨_,rfl⟩,q⟩
theorem Gz{f:Value->Value->Sem Value}{g:Int->Int->Int}
  (rule:∀ (i j:Int)(t u:Tok)(s:Shared)(Q:Value->Shared->Prop)(E:Value->Shared->Prop),Q (.int (g i j) s.toks) { s with toks:=s.toks+1 } -> wpAny (model X.prog X.w) X.A (f (.int i t) (.int j u)) Q E s) :
  eK X f (vN fun i j=>.int (g i j)):=by
 intro pins s σ H x y v u Q I rx ry h
 obtain⟨i,j,rfl,rfl,q⟩:=h
 obtain⟨t,rfl⟩:=rx
 obtain⟨t',rfl⟩:=ry
 exact rule i j t t' s _ _ ⟨.int (g i j),H,I.tok _,⟨_,rfl⟩,q⟩
theorem Bw{f:Value->Value->Sem Value}{g:Int->Int->Bool}
  (rule:∀ (i j:Int)(t u:Tok)(s:Shared)(Q:Value->Shared->Prop)(E:Value->Shared->Prop),Q (.bool (g i j)) s->wpAny (model X.prog X.w) X.A (f (.int i t) (.int j u)) Q E s) :
  eK X f (vN fun i j=>.bl (g i j)):=by
 intro pins s σ H x y v u Q I rx ry h
 obtain⟨i,j,rfl,rfl,q⟩:=h
 obtain⟨t,rfl⟩:=rx
 obtain⟨t',rfl⟩:=ry
 exact rule i j t t' s _ _ ⟨.bl (g i j),H,I,rfl,q⟩
def F7(i j:Int):Prop:=0<=j/\j<=1000000/\i.natAbs<2 ^ 64
theorem Dz:eK X (binaryOp .Add) (vN fun i j=>.int (i+j)):=Gz fun _ _ _ _ _ _ _ q=>add_int q
theorem dE:eK X (binaryOp .Sub) (vN fun i j=>.int (i - j)):=Gz fun _ _ _ _ _ _ _ q=>sub_int q
theorem AW:eK X (binaryOp .Mod) (rI (fun _ j=>j ≠ 0) fun i j=>.int (i.fmod j)):=Gu fun _ _ _ _ _ _ _ hc q=>mod_int' hc q
theorem zB:eK X (binaryOp .Pow) (rI F7 fun i j=>.int (i ^ j.toNat)):=Gu fun _ _ _ _ _ _ _ hc q=>pow_int_small hc.1 hc.2.1 hc.2.2 q
theorem Hy{f:Value->Sem Value}{g:Int->Int}
  (rule:∀ (i:Int)(t:Tok)(s:Shared)(Q:Value->Shared->Prop)(E:Value->Shared->Prop),Q (.int (g i) s.toks) { s with toks:=s.toks+1 } -> wpAny (model X.prog X.w) X.A (f (.int i t)) Q E s) :
  GE X f (rU fun i=>.int (g i)):=by
 intro pins s σ H x v Q I rx h
 obtain⟨i,rfl,q⟩:=h
 obtain⟨t,rfl⟩:=rx
 exact rule i t s _ _ ⟨.int (g i),H,I.tok _,⟨_,rfl⟩,q⟩
theorem cn:GE X (unaryOp .USub) (rU fun i=>.int (-i)):=Hy fun _ _ _ _ _ q=>neg_int q
end
def yc:V->V->Bool
 | .non,.non=>true | .non,.int _=>true | .int _,.non=>true | .non,.bl _=>true | .bl _,.non=>true | .non,.str _=>true | .str _,.non=>true
 | .int _,.int _=>true | .bl _,.bl _=>true | .str _,.str _=>true | .byt _,.byt _=>true
 | .int _,.str _=>true | .str _,.int _=>true | .bl _,.str _=>true | .str _,.bl _=>true
 | _,_=>false
def FL:R2:=fun x y H Q=>yc x y=true/\Q (.bl (decide (x=y))) H
def FN:R2:=fun x y H Q=>yc x y=true/\Q (.bl (!decide (x=y))) H
theorem wc{i j:Int}:decide (V.int i=V.int j)=(i == j):=by
 rw[Bool.eq_iff_iff]
 simp
theorem zJ{i j:Bool}:decide (V.bl i=V.bl j)=(i == j):=by
 rw[Bool.eq_iff_iff]
 simp
theorem wP{i j:Str}:decide (V.str i=V.str j)=(i == j):=by
 rw[Bool.eq_iff_iff]
 simp
theorem uY{i j:Array UInt8}:decide (V.byt i=V.byt j)=(i.toList == j.toList):=by
 rw[Bool.eq_iff_iff]
 cases i
 cases j
 simp
section
variable {X:Cx}{a b c:Expr}{ta tb tc:TE}{pos:Pos}
theorem bV{pins:List (Addr × Obj)}{σ:St}{H:Hp}{s:Shared}{Q:VK}{k k':Bool}(I:aK X pins σ H s)(q:Q (.bl k) H)(e:k=k'):EP X pins σ Q (.bool k') s:=by
 subst e
 exact⟨.bl k,H,I,rfl,q⟩
theorem gX:eK X (compareOp .Eq) FL:=by
 intro pins s σ H x y v u Q I rx ry h
 obtain⟨hs,q⟩:=h
 cases x with
 | non =>
  cases rx
  cases y with
  | non=>cases ry;exact PySem.EqNone.eq_none_none (bV I q (by simp))
  | bl j=>cases ry;exact PySem.EqNone.eq_none_bool (bV I q (by simp))
  | int j=>obtain⟨t',rfl⟩:=ry;exact PySem.EqNone.eq_none_int (bV I q (by simp))
  | str j=>obtain⟨t',rfl⟩:=ry;exact PySem.EqNone.eq_none_str (bV I q (by simp))
  | _=>exact absurd (show false=true from hs) Bool.false_ne_true
 | bl i =>
  cases rx
  cases y with
  | non=>cases ry;exact PySem.EqNone.eq_bool_none (bV I q (by simp))
  | bl j=>cases ry;exact eq_bool (bV I q zJ)
  | str j=>obtain⟨t',rfl⟩:=ry;exact PySem.EqMixed.eq_bool_str (bV I q (by simp))
  | _=>exact absurd (show false=true from hs) Bool.false_ne_true
 | int i =>
  obtain⟨t,rfl⟩:=rx
  cases y with
  | non=>cases ry;exact PySem.EqNone.eq_int_none (bV I q (by simp))
  | int j=>obtain⟨t',rfl⟩:=ry;exact eq_int (bV I q wc)
  | str j=>obtain⟨t',rfl⟩:=ry;exact PySem.EqMixed.eq_int_str (bV I q (by simp))
  | _=>exact absurd (show false=true from hs) Bool.false_ne_true
 | str i =>
  obtain⟨t,rfl⟩:=rx
  cases y with
  | non=>cases ry;exact PySem.EqNone.eq_str_none (bV I q (by simp))
  | bl j=>cases ry;exact PySem.EqMixed.eq_str_bool (bV I q (by simp))
  | int j=>obtain⟨t',rfl⟩:=ry;exact PySem.EqMixed.eq_str_int (bV I q (by simp))
  | str j=>obtain⟨t',rfl⟩:=ry;exact eq_str (bV I q wP)
  | _=>exact absurd (show false=true from hs) Bool.false_ne_true
 | byt i =>
  obtain⟨t,rfl⟩:=rx
  cases y with
  | byt j=>obtain⟨t',rfl⟩:=ry;exact PySem.W.eq_bytes (bV I q uY)
  | _=>exact absurd (show false=true from hs) Bool.false_ne_true
 | _=>cases y <;> exact absurd (show false=true from hs) Bool.false_ne_true
theorem vC:eK X (compareOp .NotEq) FN:=by
 intro pins s σ H x y v u Q I rx ry h
 obtain⟨hs,q⟩:=h
 cases x with
 | non =>
  cases rx
  cases y with
  | non=>cases ry;exact PySem.EqNone.ne_none_none (bV I q (by simp))
  | bl j=>cases ry;exact PySem.EqNone.ne_none_bool (bV I q (by simp))
  | int j=>obtain⟨t',rfl⟩:=ry;exact PySem.EqNone.ne_none_int (bV I q (by simp))
  | str j=>obtain⟨t',rfl⟩:=ry;exact PySem.EqNone.ne_none_str (bV I q (by simp))
  | _=>exact absurd (show false=true from hs) Bool.false_ne_true
 | bl i =>
  cases rx
  cases y with
  | non=>cases ry;exact PySem.EqNone.ne_bool_none (bV I q (by simp))
  | bl j=>cases ry;exact ne_bool (bV I q (congrArg not zJ))
  | str j=>obtain⟨t',rfl⟩:=ry;exact PySem.EqMixed.ne_bool_str (bV I q (by simp))
  | _=>exact absurd (show false=true from hs) Bool.false_ne_true
 | int i =>
  obtain⟨t,rfl⟩:=rx
  cases y with
  | non=>cases ry;exact PySem.EqNone.ne_int_none (bV I q (by simp))
  | int j=>obtain⟨t',rfl⟩:=ry;exact ne_int (bV I q (congrArg not wc))
  | str j=>obtain⟨t',rfl⟩:=ry;exact PySem.EqMixed.ne_int_str (bV I q (by simp))
  | _=>exact absurd (show false=true from hs) Bool.false_ne_true
 | str i =>
  obtain⟨t,rfl⟩:=rx
  cases y with
  | non=>cases ry;exact PySem.EqNone.ne_str_none (bV I q (by simp))
  | bl j=>cases ry;exact PySem.EqMixed.ne_str_bool (bV I q (by simp))
  | int j=>obtain⟨t',rfl⟩:=ry;exact PySem.EqMixed.ne_str_int (bV I q (by simp))
  | str j=>obtain⟨t',rfl⟩:=ry;exact ne_str (bV I q (congrArg not wP))
  | _=>exact absurd (show false=true from hs) Bool.false_ne_true
 | byt i =>
  obtain⟨t,rfl⟩:=rx
  cases y with
  | byt j=>obtain⟨t',rfl⟩:=ry;exact PySem.W.ne_bytes (bV I q (congrArg not uY))
  | _=>exact absurd (show false=true from hs) Bool.false_ne_true
 | _=>cases y <;> exact absurd (show false=true from hs) Bool.false_ne_true
theorem mv:eK X (compareOp .Lt) (vN fun i j=>.bl (decide (i<j))):=Bw fun _ _ _ _ _ _ _ q=>lt_int q
theorem C4:eK X (compareOp .LtE) (vN fun i j=>.bl (decide (i<=j))):=Bw fun _ _ _ _ _ _ _ q=>le_int q
theorem mq:eK X (compareOp .Gt) (vN fun i j=>.bl (decide (j<i))):=Bw fun _ _ _ _ _ _ _ q=>gt_int q
theorem Gr:eK X (compareOp .GtE) (vN fun i j=>.bl (decide (j<=i))):=Bw fun _ _ _ _ _ _ _ q=>ge_int q
theorem eK.or{f:Value->Value->Sem Value}{r r':R2}(h:eK X f r)(h':eK X f r'):eK X f (fun x y H Q=>r x y H Q\/r' x y H Q):=by
 intro pins s σ H x y v u Q I rx ry q
 rcases q with q|q
 ·exact h pins s σ H x y v u Q I rx ry q
 ·exact h' pins s σ H x y v u Q I rx ry q
theorem aI(b:Expr){op:CmpOp}(h:op ≠ .In:=by decide)(h2:op ≠ .NotIn:=by decide):behindInMarks op b=false:=by
 have e1:(op == CmpOp.In)=false:=by cases op <;> first|rfl|exact absurd rfl h
 have e2:(op == CmpOp.NotIn)=false:=by cases op <;> first|rfl|exact absurd rfl h2
 cases b <;> simp[behindInMarks,e1,e2]
theorem Cs{op:CmpOp}{r:R2}(ho:eK X (compareOp op) r)(ha:PE X a ta)(hb:PE X b tb)(hm:behindInMarks op b=false):PE X (.Compare a [op] [b] pos) (BQ r ta tb):=by
 intro pins s σ H Q I h
 exact wpAny_Compare1 (Ff ha hb I h fun v u s2 x y H2 I2 rx ry q=>ho pins s2 σ H2 x y v u Q I2 rx ry q) hm
def vL(t:TE):TT:=fun σ H Q=>t σ H fun x H'=>∃ k,x = .bl k/\Q k H'
theorem Cz{op:CmpOp}{r:R2}(ho:eK X (compareOp op) r)(ha:PE X a ta)(hb:PE X b tb)(hm:behindInMarks op b=false):PT X (.Compare a [op] [b] pos) (vL (BQ r ta tb)):=by
 intro pins s σ H Q I h
 refine wpAny_isTrue_Compare1 (cQ (ha pins s σ H _ I h) fun v s1 ⟨x,H1,I1,r1,q1⟩=>cQ (hb pins s1 σ H1 _ I1 q1) fun u s2 ⟨y,H2,I2,r2,q2⟩ =>
  cQ (ho pins s2 σ H2 x y v u _ I2 r1 r2 q2) fun c s3 ⟨z,H3,I3,r3,k,e,q3⟩=>?_) hm
 subst e
 cases r3
 exact wpAny_truthy_bool ⟨H3,I3,q3⟩
def rJ(K:W.Frag)(x:V)(H:Hp)(k:Bool):Prop :=
 match x with
 | .non=>k=false
 | .bl b=>k=b
 | .int i=>k=(i != 0)
 | .str y=>y.length<=sizeLine/\k=((y.length:Int) != 0)
 | .byt y=>y.size<=sizeLine/\k=((y.size:Int) != 0)
 | .ref p=>(∃ xs,j6 K H p xs/\k = !xs.isEmpty)\/(∃ xs,pB K H p xs/\k = !xs.isEmpty) \/ ∃ kvs,H p=some (.dK kvs)/\k = !kvs.isEmpty
 | _=>False
theorem uF{κ:Type}{kvs:List (κ × V)}{vs:List (κ × Value)}(r:KV kvs vs):(!vs.isEmpty) = !kvs.isEmpty:=by
 cases r <;> rfl
theorem oJ{xs:List V}{its:List Value}(r:bA xs its):(!its.toArray.isEmpty) = !xs.isEmpty:=by
 cases r <;> simp
theorem lZ:(sizeLine:Nat)<2 ^ 63:=by rw[sizeLine_eq];decide
theorem uG:He X (fun x H Q=>∃ k,rJ X.K x H k/\Q k H):=by
 intro pins s σ H x v Q I rx h
 obtain⟨k,e,q⟩:=h
 have hl:=lZ
 have hs:sizeLine=16777216:=sizeLine_eq
 cases x with
 | non =>
  cases rx
  have e':k=false:=e
  subst e'
  exact truthy_none ⟨H,I,q⟩
 | bl b =>
  cases rx
  have e':k=b:=e
  subst e'
  exact wpAny_truthy_bool ⟨H,I,q⟩
 | int i =>
  obtain⟨t,rfl⟩:=rx
  have e':k=(i != 0):=e
  subst e'
  exact PySem.P.truthy_int ⟨H,I,q⟩
 | str y =>
  obtain⟨t,rfl⟩:=rx
  obtain⟨hy,e'⟩ : y.length<=sizeLine/\k=((y.length:Int) != 0):=e
  subst e'
  exact PySem.P.truthy_str (by walk_at"o") ⟨H,I.tok _,q⟩
 | byt y =>
  obtain⟨t,rfl⟩:=rx
  obtain⟨hy,e'⟩ : y.size<=sizeLine/\k=((y.size:Int) != 0):=e
  subst e'
  exact PySem.W.truthy_bytes (by walk_at"o") ⟨H,I.tok _,q⟩
 | ref p =>
  cases rx
  have e':(∃ xs,j6 X.K H p xs/\k = !xs.isEmpty)\/(∃ xs,pB X.K H p xs/\k = !xs.isEmpty) \/ ∃ kvs,H p=some (.dK kvs)/\k = !kvs.isEmpty:=e
  rcases e' with ⟨xs,hx,e'⟩|⟨xs,hx,e'⟩|⟨kvs,hx,e'⟩
  ·subst e'
   obtain⟨its,r,pl,hz⟩:=I.list hx
   have hlen:=r.length
   exact wpAny_truthy_list pl.isList (by simp only[List.size_toArray];walk_at"o") ⟨H,I.tok _,by rw[oJ r];exact q⟩
  ·subst e'
   obtain⟨its,r,pl,hz⟩:=I.tuple hx
   have hlen:=r.length
   exact truthy_tuple pl (by simp only[List.size_toArray];walk_at"o") ⟨H,I.tok _,by rw[oJ r];exact q⟩
  ·subst e'
   obtain⟨hz,hS,vs,r,m⟩ : kvs.length<=sizeLine/\(p == sysModules)=false /\ ∃ vs,KV kvs vs/\s.heap.DictOf (qO X.prog X.w) p vs:=I.hok p _ hx
   have hlen:kvs.length=vs.length:=Paired.length r
   exact wpAny_truthy_dict hS m (by walk_at"o") ⟨H,I.tok _,by rw[uF r];exact q⟩
 | _=>exact (show False from e).elim
theorem Af(ha:PE X a ta)(he:∀ whole,isTrue a X.env whole=(do let v <- whole;standAt a.pos;holding [v] (truthy v))) :
  PT X a (fun σ H Q=>ta σ H fun x H'=>∃ k,rJ X.K x H' k/\Q k H'):=by
 intro pins s σ H Q I h
 exact isTrue_plain (cQ (ha pins s σ H _ I h) fun v s1 ⟨x,H1,I1,r1,q1⟩=>uG pins s1 σ H1 x v Q I1 r1 q1) (he _)
theorem yQ{x:V}{us:List Value}(r:bA [x] us):∃ u,us=[u]/\bX x u:=by
 cases r with
 | cons r1 r2=>cases r2;exact⟨_,rfl,r1⟩
theorem y8{x y:V}{us:List Value}(r:bA [x,y] us):∃ u w',us=[u,w']/\bX x u/\bX y w':=by
 cases r with
 | cons r1 r2 =>
  cases r2 with
  | cons r3 r4=>cases r4;exact⟨_,_,rfl,r1,r3⟩
theorem nv:fF X (.builtin "abs") (fun xs H Q=>∃ i,xs=[.int i]/\Q (.int (if i<0 then -i else i)) H):=by
 intro pins s σ H xs us Q I r h
 obtain⟨i,rfl,q⟩:=h
 obtain⟨u,rfl,t,rfl⟩:=yQ r
 exact call_abs_int fun u tk=>⟨.int (if i<0 then -i else i),H,I.tok _,⟨_,rfl⟩,q⟩
theorem pP(hc:X.calm=true):fF X (.builtin "max") (fun xs H Q=>∃ i j,xs=[.int i,.int j]/\Q (.int (if j > i then j else i)) H):=by
 intro pins s σ H xs us Q I r h
 obtain⟨i,j,rfl,q⟩:=h
 obtain⟨u,w',rfl,⟨t,rfl⟩,⟨t',rfl⟩⟩:=y8 r
 refine max_two_ints (I.ok.hd hc) fun h' tk k=>⟨_,H,I.kept k,?_,q⟩
 by_cases hj:j > i
 ·rw[if_pos hj,if_pos hj];exact⟨_,rfl⟩
 ·rw[if_neg hj,if_neg hj];exact⟨_,rfl⟩
theorem xb(hc:X.calm=true):fF X (.builtin "min") (fun xs H Q=>∃ i j,xs=[.int i,.int j]/\Q (.int (if j<i then j else i)) H):=by
 intro pins s σ H xs us Q I r h
 obtain⟨i,j,rfl,q⟩:=h
 obtain⟨u,w',rfl,⟨t,rfl⟩,⟨t',rfl⟩⟩:=y8 r
 refine min_two_ints (I.ok.hd hc) fun h' tk k=>⟨_,H,I.kept k,?_,q⟩
 by_cases hj:j<i
 ·rw[if_pos hj,if_pos hj];exact⟨_,rfl⟩
 ·rw[if_neg hj,if_neg hj];exact⟨_,rfl⟩
end
end L2
namespace L2
open PySem PySem.Spec PyProof.Rows
structure Dt (h:Heap)(x dx C:Addr)(mA:Str->Option Value):Prop where
 obj:h.get? x=some (PySem.W.instObj C dx)
 ns:h.Ns1 dx mA
 ne:dx ≠ x
theorem x9{h:Heap}{dx:Addr}{mA:Str->Option Value}(n:h.Ns1 dx mA):∃ od,h.get? dx=some od /\ ∀ name,PySem.W.lookIn name od=some (mA name):=by
 obtain⟨o,es,ep,ho,hd,hk,_,hm⟩:=n
 refine⟨o,ho,fun name=>?_⟩
 have e:=hm name
 unfold nsFind findBy at e
 rw[<- Array.find?_toList] at e
 unfold PySem.W.lookIn
 rw[hd]
 dsimp only
 split
 ·rename_i y q
  rw[q] at e
  exact congrArg some e
 ·rename_i q
  rw[q] at e
  have a:es.toList.any (·.refKey)=false:=by
   rw[List.any_eq_false]
   intro y hy
   obtain⟨z,t,hkey⟩:=hk y (Array.mem_toList_iff.mp hy)
   simp[DictEntry.refKey,hkey]
  have a':¬ es.toList.any (·.refKey)=true:=by rw[a];exact Bool.false_ne_true
  rw[if_neg a']
  exact congrArg some e
theorem Dt.look{h:Heap}{x dx C:Addr}{mA:Str->Option Value}(I:Dt h x dx C mA):∃ od,PySem.W.InstAt h x (PySem.W.instObj C dx) C (some od) /\ ∀ name,PySem.W.lookIn name od=some (mA name) :=
 let ⟨od,ho,hl⟩:=x9 I.ns
 ⟨od,⟨I.obj,rfl,rfl,ho⟩,hl⟩
section
variable {prog:Program}{w:World}{A:Around}{E:Value->Shared->Prop}{s:Shared}{K:W.Frag}{x dx C f:Addr}{mA:Str->Option Value}{name:Str}{v:Value}
end
section
variable {P:Program}{w:World}{H H':Hp}{h h':Heap}{a C dx:Addr}{fs fs':List (Str × V)}
theorem AV(hok:mS P w H h)(e:H a=some (.ins C dx fs)):∃ mA,Dt h a dx C mA/\(∀ f,EZ (fs.lookup f) (mA f))/\PySem.Within mA (fs.map (·.1))/\fs.length<=1000/\H dx=some (.own a):=by
 obtain⟨d,z,ne,ob,mA,n,r,q⟩:=(show fh P w H h a (.ins C dx fs) from hok a _ e)
 exact⟨mA,⟨ob,n,ne⟩,r,q,z,d⟩
end
structure Hg (K:W.Frag)(C:Addr):Prop where
 pg:PySem.W.plainGet K C Str.empty=true
 hd:PySem.W.hasDictIn K C=true
 po:PySem.W.plainOver K C=true
 sa:PySem.W.findIn K (.ref C) "__setattr__" = some (some (.builtin "object.__setattr__"))
theorem Hg.get{K:W.Frag}{C:Addr}(c:Hg K C)(f:Str):PySem.W.plainGet K C f=true:=c.pg
section
variable {X:Cx}{pins:List (Addr × Obj)}{σ:St}{H:Hp}{s:Shared}{a C dx:Addr}{fs:List (Str × V)}{f:Str}{v:V}{A:Around}{E:Value->Shared->Prop}
end
section
variable {X:Cx}{o e value:Expr}{f:Str}{pos pos' tpos:Pos}{ta tv:TE}
end
section
variable {X:Cx}{pins:List (Addr × Obj)}{σ:St}{H:Hp}{s:Shared}{A:Around}{E:Value->Shared->Prop}{Q:Value->Shared->Prop}{c:Value}{b:Bool}
inductive mE (K:W.Frag)(H:Hp):V->Value->Prop where
 | non:mE K H .non (.type "NoneType")
 | bl (x:Bool):mE K H (.bl x) (.type "bool")
 | int (i:Int):mE K H (.int i) (.type "int")
 | str (x:Str):mE K H (.str x) (.type "str")
 | flt (x:UInt64):mE K H (.flt x) (.type "float")
 | lst {a:Addr}{xs:List V}(e:H a=some (.lst xs)):mE K H (.ref a) (.type "list")
 | frz {a:Addr}{o:Obj}{xs:List V}(e:H a=some (.frz o (.lst xs))):mE K H (.ref a) (.type "list")
 | tup {a:Addr}{xs:List V}(e:H a=some (.tup xs)):mE K H (.ref a) (.type "tuple")
 | dK {a:Addr}{kvs:List (rP × V)}(e:H a=some (.dK kvs)):mE K H (.ref a) (.type "dict")
 | dT {a:Addr}{kvs:List (List rP × V)}(e:H a=some (.dT kvs)):mE K H (.ref a) (.type "dict")
 | ins {a C dx:Addr}{fs:List (Str × V)}(e:H a=some (.ins C dx fs))(cl:Hg K C)(ha:PySem.W.findIn K (.ref C) "__class__" = some (some (.builtin "object.__class__")))
   (hn:PySem.W.specialIn K (.builtin "object.__class__") "__get__" = some (some (.builtin "getset_descriptor.__get__"))) (htk:PySem.W.takesIn K (.builtin "object.__class__")=some true)
   (hm:PySem.W.mroIn K C (.type "object")=some true):mE K H (.ref a) (.ref C)
theorem fN{x:V}{u t:Value}(I:aK X pins σ H s)(rx:bX x u)(ty:mE X.K H x t)(e:PySem.W.kitOne X.K t c=some b)(h:∀ tk,Q (.bool b) { s with toks:=tk }) :
  wpAny (model X.prog X.w) A (call (.builtin "isinstance") [u,c]) Q E s:=by
 cases ty with
 | non=>cases (show u=Value.none from rx);exact PySem.W.kia_one PySem.W.kitx_none I.kIn True.intro e (fun z=>nomatch z) h
 | bl y=>cases (show u=Value.bool y from rx);exact PySem.W.kia_one PySem.W.kitx_bool I.kIn True.intro e (fun z=>nomatch z) h
 | int i=>obtain⟨t,q⟩:=(show ∃ t,u=Value.int i t from rx);cases q;exact PySem.W.kia_one PySem.W.kitx_int I.kIn True.intro e (fun z=>nomatch z) h
 | str y=>obtain⟨t,q⟩:=(show ∃ t,u=Value.str y t from rx);cases q;exact PySem.W.kia_one PySem.W.kitx_str I.kIn True.intro e (fun z=>nomatch z) h
 | flt y=>obtain⟨t,q⟩:=(show ∃ t,u=Value.float y t from rx);cases q;exact PySem.W.kia_one PySem.W.kitx_float I.kIn True.intro e (fun z=>nomatch z) h
 | @lst a xs ea =>
  cases (show u=Value.ref a from rx)
  obtain⟨_,_,n,_,h1⟩:=(show fh X.prog X.w H s.heap a (.lst xs) from I.hok a _ ea)
  exact PySem.W.kia_one PySem.W.kitx_list I.kIn ⟨_,h1,rfl⟩ e (fun z=>nomatch z) h
 | @frz a ob xs ea =>
  cases (show u=Value.ref a from rx)
  obtain⟨_,_,_,n,_,h1⟩:=(show fh X.prog X.w H s.heap a (.frz ob (.lst xs)) from I.hok a _ ea)
  exact PySem.W.kia_one PySem.W.kitx_list I.kIn ⟨_,h1,rfl⟩ e (fun z=>nomatch z) h
 | @tup a xs ea =>
  cases (show u=Value.ref a from rx)
  obtain⟨_,_,_,p⟩:=(show fh X.prog X.w H s.heap a (.tup xs) from I.hok a _ ea)
  obtain⟨o,h1,h2,_⟩:=p
  exact PySem.W.kia_one PySem.W.kitx_tuple I.kIn ⟨o,h1,h2⟩ e (fun z=>nomatch z) h
 | @dK a kvs ea =>
  cases (show u=Value.ref a from rx)
  obtain⟨_,_,vs,_,p⟩:=(show fh X.prog X.w H s.heap a (.dK kvs) from I.hok a _ ea)
  obtain⟨o,es,ep,h1,h2,_⟩:=p
  exact PySem.W.kia_one PySem.W.kitx_dict I.kIn ⟨o,h1,h2.1⟩ e (fun z=>nomatch z) h
 | @dT a kvs ea =>
  cases (show u=Value.ref a from rx)
  obtain⟨_,_,xs,_,o,es,ep,h1,h2,_⟩:=(show fh X.prog X.w H s.heap a (.dT kvs) from I.hok a _ ea)
  exact PySem.W.kia_one PySem.W.kitx_dict I.kIn ⟨o,h1,h2.1⟩ e (fun z=>nomatch z) h
 | @ins a C dx fs ea cl ha hn htk hm =>
  cases (show u=Value.ref a from rx)
  obtain⟨mA,O,_⟩:=AV I.hok ea
  obtain⟨od,J,_⟩:=O.look
  exact PySem.W.kia_one (PySem.W.kitx_own (cl.get _) cl.hd ha hn htk hm) I.kIn J e (fun z=>nomatch z) h
end
end L2
namespace L2
open PySem PySem.Spec PyProof.Rows
structure ge (k:Nat)(A:Around):Prop where
 hd:A.handled=none
 dp:A.depth+3*k+105<recursionLimit
 un:A.units+16*k+200<cLine
theorem ge.mono{j k:Nat}{A:Around}(r:ge k A)(h:j<=k):ge j A:=⟨r.hd,by have:=r.dp;walk_at"o",by have:=r.un;walk_at"o"⟩
theorem ge.deeper{k:Nat}{A:Around}(r:ge (k+1) A)(env:Env):ge k (A.deeper env) :=
 ⟨r.hd,by have:=r.dp;show A.depth+1+3*k+105<_;walk_at"o",by have:=r.un;show A.units+3+16*k+200<_;walk_at"o"⟩
theorem ge.depth{k:Nat}{A:Around}(r:ge k A):A.depth<recursionLimit:=by have:=r.dp;walk_at"o"
def D8:TA:=fun _ H Q=>Q [] H
def AD(ta:TE)(tr:TA):TA:=fun σ H Q=>ta σ H fun x H1=>tr σ H1 fun xs H2=>Q (x :: xs) H2
section
variable {X:Cx}{e:Expr}{es:List Expr}{te:TE}{t:TA}{pos:Pos}
theorem Dr:PA X [] D8:=fun _ _ _ _ H Q I h=>Calls.spliced_nil ⟨[],H,I,.nil,h⟩
theorem Bx(ha:PE X e te)(hr:PA X es t)(hs:starEach (e :: es) X.env=(false,eval e X.env) :: starEach es X.env:=by rfl):PA X (e :: es) (AD te t):=by
 intro pos pins s σ H Q I h
 rw[hs]
 show wpAny _ _ (spliced ((false,eval e X.env) :: backTo pos (starEach es X.env))) _ _ s
 refine Calls.spliced_cons (cQ (ha pins s σ H _ I h) fun u s1 ⟨x,H1,I1,r1,q1⟩=>?_)
 exact cQ (hr pos pins s1 σ H1 _ I1 q1) fun us s2 ⟨xs,H2,I2,r2,q2⟩=>⟨x :: xs,H2,I2,.cons r1 r2,q2⟩
end
abbrev Sp:=List V->Hp->VK->XK->Prop
abbrev xg:=List Env->Hp->Shared->XK->Value->Shared->Prop
structure CP (P:Program)(w:World)(K:W.Frag)(mg:Str->Option Value)(base:Heap)(A:Around)(outer:List Env)(s:Shared)(H:Hp):Prop where
 frames:A.frames=some outer
 mod:Mod K mg base
 bs:∀ b o,base.get? b=some o->s.heap.get? b=some o/\H b=none
 bsz:base.objs.size<=s.heap.objs.size
 funs:s.heap.FunFrames base outer
 frf:∀ b ∈ yg outer,H b=none
 hok:mS P w H s.heap
 bare:AllBare s.gens
def CE(outer:List Env)(P:Program)(w:World)(H:Hp)(s:Shared)(Q:VK)(u:Value)(s':Shared):Prop :=
 ∃ v H',s'.os=s.os/\AllBare s'.gens/\Un (yg outer) [] H H' s.heap s'.heap/\mS P w H' s'.heap/\bX v u/\Q v H'
def CR(CX:xg)(outer:List Env)(P:Program)(w:World)(H:Hp)(s:Shared)(Q:VK)(E:XK)(r:Result)(s':Shared):Prop :=
 match r with
 | .ok (.ret u)=>CE outer P w H s Q u s'
 | .ok _=>False
 | .error e=>CX outer H s E e s'
structure bK (P:Program)(w:World)(K:W.Frag)(mg:Str->Option Value)(base:Heap)(CX:xg)(k:Nat)(f:Addr)(fd:FuncData)(ps:List Str)(sp:Sp):Prop where
 len:∀ vs H Q E,sp vs H Q E->vs.length=ps.length
 run:∀ (A:Around)(outer:List Env)(s:Shared)(H:Hp)(args:Args)(us:List Value)(vs:List V)(Q:VK)(E:XK),ge k A->CP P w K mg base A outer s H->BindsTo s fd args (ps.zip us)->bA vs us->sp vs H Q E ->
  codeAny (model P w) A (.call (.ref f) args) (CR CX outer P w H s Q E) s
section
variable {X:Cx}{pins:List (Addr × Obj)}{σ:St}{H:Hp}{s s':Shared}
theorem aK.env0(I:aK X pins σ H s):CP X.prog X.w X.K X.mg X.base X.A X.stack s H :=
 ⟨I.ok.frames,I.ok.mod,I.bs,Nat.le_trans I.ok.bsz I.sz,I.stack,I.stkFree,I.hok,I.bare⟩
theorem aK.after{Q:VK}{u:Value}(I:aK X pins σ H s)(h:CE X.stack X.prog X.w H s Q u s'):EP X pins σ Q u s':=by
 obtain⟨v,H',os,bare,un,hok,r,q⟩:=h
 obtain⟨hh,g,d,t,os'⟩:=s'
 obtain rfl:os'=s.os:=os
 exact⟨v,H',I.call (h':=hh) (g':=g) (d':=d) (t':=t) (ch:=[]) un hok bare (fun b z=>absurd z (by simp)),r,q⟩
end
def FV(sp:Sp)(dvs:List V)(E:XK)(t:TA):TE:=fun σ H Q=>t σ H fun vs H1=>sp (vs ++ dvs) H1 Q E
def qi(K:W.Frag)(fd:FuncData)(ps:List Str)(ds:List Value):Prop :=
 ∀ (s:Shared)(us:List Value),K.In s.heap->(us ++ ds).length=ps.length->BindsTo s fd ⟨us,[]⟩ (ps.zip (us ++ ds))
theorem qi.all{K:W.Frag}{fd:FuncData}{ps:List Str}(h:∀ us:List Value,us.length=ps.length->bindArgs fd ⟨us,[]⟩=pure (ps.zip us)):qi K fd ps []:=fun s us _ hl=>by
 rw[List.append_nil] at hl ⊢
 exact .of_eq (h us hl)
def tI(CX:xg)(X:Cx)(E:XK):Prop:=∀(pins:List (Addr × Obj))(σ:St)(H:Hp)(s:Shared)(e:Value)(s':Shared),aK X pins σ H s->CX X.stack H s E e s'->X.xe e s'
section
variable {X:Cx}{CX:xg}{k:Nat}{f C:Addr}{fd:FuncData}{ps:List Str}{sp:Sp}{dvs:List V}{ds:List Value}{E:XK}{x m:Str}{p pos apos:Pos}{e o:Expr}{es:List Expr}{ta:TE}{t:TA}
theorem EX{pins:List (Addr × Obj)}{σ:St}{H:Hp}{s:Shared}{Q:VK}{us:List Value}{vs:List V}(F:bK X.prog X.w X.K X.mg X.base CX k f fd ps sp)(hr:ge k X.A)(hb:qi X.K fd ps ds)(hd:bA dvs ds)(hx:tI CX X E)
  (I:aK X pins σ H s)(r:bA vs us)(h:sp (vs ++ dvs) H Q E):wpAny (model X.prog X.w) X.A (call (.ref f) us) (EP X pins σ Q) X.xe s:=by
 have r2:bA (vs ++ dvs) (us ++ ds):=r.append hd
 have hl:(us ++ ds).length=ps.length:=by rw[<- r2.length];exact F.len _ _ _ _ h
 refine wpAny_call (codeAny_mono (F.run X.A X.stack s H ⟨us,[]⟩ (us ++ ds) (vs ++ dvs) Q E hr I.env0 (hb s us I.kIn hl) r2 h) fun r s' hq=>?_)
 cases r with
 | error e=>exact hx pins σ H s e s' I hq
 | ok fl =>
  cases fl with
  | ret u=>exact I.after hq
  | next=>exact False.elim hq
  | brk=>exact False.elim hq
  | cont=>exact False.elim hq
theorem Cd(F:bK X.prog X.w X.K X.mg X.base CX k f fd ps sp)(hr:ge k X.A)(hg:Gl X x)(hm:X.mg x=some (.ref f))(hk:PySem.W.keepIn X.K (.ref f)=true)(hb:qi X.K fd ps ds)(hd:bA dvs ds)(hx:tI CX X E)
  (ha:PA X (e :: es) t)(hdb:(x == ("__debug__" : Str))=false:=by decide) (he:starEach (e :: es) X.env=(false,eval e X.env) :: starEach es X.env:=by rfl)(hpl:(backTo pos (starEach es X.env)).any (·.1)=false:=by rfl) :
  PE X (.Call (.Name x p) (e :: es) [] pos) (FV sp dvs E t):=by
 intro pins s σ H Q I h
 refine wpAny_Call_Name_kw (vW I hg hm ?_ hdb)
 refine PySem.W.callWith_K (h₀:=X.base) I.ok.mod.kin hk (cQ (ha pos pins s σ H _ I h) fun us s1 ⟨vs,H1,I1,r,q⟩=>⟨I1.kIn,?_⟩) he hpl
 exact EX F hr hb hd hx I1 r q
end
section
variable {X:Cx}{CX:xg}{k:Nat}{f C:Addr}{fd:FuncData}{ps ks:List Str}{sp:Sp}{E:XK}{x m:Str}{p pos apos kpos:Pos}{e o:Expr}{es:List Expr}{kws:List Keyword}{te ta:TE}{t tk:TA}{nm:Option Str}
variable {g:List Value->List Value->List Value}{gV:List V->List V->List V}
end
structure aw (N P:List Str)(sc:Scope):Prop where
 kind:sc.kind = .function
 co:sc.isCoroutine=false
 gen:sc.isGenerator=false
 nd:N.Nodup
 pre:N.take P.length=P
 par:∀ x ∈ P,sc.names.lookup x=some .local\/sc.names.lookup x=some .cell
 nofree:∀ y ∈ sc.names,y.2 ≠ .free
theorem qe{kindOf:Str->Option NameKind}{x:Str}:∀ {binds:List (Str × Value)}{m:Str->Option Value},(∀ v,(x,v) ∉ binds)->bindL kindOf binds m x=m x
 | [],_,_=>rfl
 | (n,v) :: r,m,h=>by
  unfold bindL
  rw[qe fun w hw=>h w (List.mem_cons_of_mem _ hw)]
  split
  ·have:x ≠ n:=by rintro rfl;exact h v List.mem_cons_self
   simp[this]
  ·rfl
theorem pO{kindOf:Str->Option NameKind}{x:Str}:∀ {binds:List (Str × Value)}{m:Str->Option Value},(∀ v,(x,v) ∉ binds)->bindC kindOf binds m x=m x
 | [],_,_=>rfl
 | (n,v) :: r,m,h=>by
  unfold bindC
  rw[pO fun w hw=>h w (List.mem_cons_of_mem _ hw)]
  split
  ·rfl
  ·have:x ≠ n:=by rintro rfl;exact h v List.mem_cons_self
   simp[this]
theorem qb{kindOf:Str->Option NameKind}{x:Str}{v:Value}:∀ {P:List Str}{vs:List Value}{i:Nat}{m:Str->Option Value},P.Nodup->P[i]? = some x->vs[i]? = some v->kindOf x=some .local ->
  bindL kindOf (P.zip vs) m x=some v
 | [],_,_,_,_,h,_,_=>by simp at h
 | _ :: _,[],_,_,_,_,h,_=>by simp at h
 | p :: P,w :: vs,0,m,nd,h1,h2,hk=>by
  simp at h1 h2;subst h1;subst h2
  show bindL kindOf ((p,w) :: P.zip vs) m p=_
  unfold bindL
  rw[qe fun v hv=>(List.nodup_cons.mp nd).1 (List.of_mem_zip hv).1,if_pos hk]
  simp
 | p :: P,w :: vs,i+1,m,nd,h1,h2,hk=>by
  show bindL kindOf ((p,w) :: P.zip vs) m x=_
  unfold bindL
  exact qb (i:=i) (List.nodup_cons.mp nd).2 (by simpa using h1) (by simpa using h2) hk
theorem pK{kindOf:Str->Option NameKind}{x:Str}{v:Value}:∀ {P:List Str}{vs:List Value}{i:Nat}{m:Str->Option Value},P.Nodup->P[i]? = some x->vs[i]? = some v->kindOf x ≠ some .local ->
  bindC kindOf (P.zip vs) m x=some v
 | [],_,_,_,_,h,_,_=>by simp at h
 | _ :: _,[],_,_,_,_,h,_=>by simp at h
 | p :: P,w :: vs,0,m,nd,h1,h2,hk=>by
  simp at h1 h2;subst h1;subst h2
  show bindC kindOf ((p,w) :: P.zip vs) m p=_
  unfold bindC
  rw[pO fun v hv=>(List.nodup_cons.mp nd).1 (List.of_mem_zip hv).1,if_neg hk]
  simp
 | p :: P,w :: vs,i+1,m,nd,h1,h2,hk=>by
  show bindC kindOf ((p,w) :: P.zip vs) m x=_
  unfold bindC
  exact pK (i:=i) (List.nodup_cons.mp nd).2 (by simpa using h1) (by simpa using h2) hk
def start(N:List Str)(vs:List V):St:=vs.map some ++ List.replicate (N.length - vs.length) none
def qE(CX:xg)(P:Program)(w:World)(K:W.Frag)(mg:Str->Option Value)(base:Heap)(N:List Str)(qual:Str)(scope:Scope)(f:Addr)(cd:Value)(A:Around)(outer:List Env)(s:Shared)(H:Hp)(E:XK):Cx where
 prog:=P
 w:=w
 K:=K
 mg:=mg
 base:=base
 A:=A.deeper (envOfC qual scope s.heap.objs.size f cd)
 N:=N
 s₀:=s
 H₀:=H
 env:=envOfC qual scope s.heap.objs.size f cd
 outer:=outer
 stack:=envOfC qual scope s.heap.objs.size f cd :: outer
 ex:=[]
 calm:=true
 fn:=fun _=>true
 pn:=[]
 xe:=fun e s'=>wpAny (model P w) (A.deeper (envOfC qual scope s.heap.objs.size f cd)) (leaving (envOfC qual scope s.heap.objs.size f cd) e) (fun _ s''=>CX outer H s E e s'') (fun e' s''=>CX outer H s E e' s'') s'
theorem se{sc:Scope}{n:Nat}{x:Str}(h:sc.names.lookup x=some .cell):∃ c,(cellsFrom n sc.names []).lookup x=some c:=by
 have q:=PySem.W.cellsFrom_some sc.names n [] (.inl h)
 exact Option.isSome_iff_exists.mp q
theorem xD{CX:xg}{P:Program}{w:World}{K:W.Frag}{mg:Str->Option Value}{base:Heap}{N ps:List Str}{qual:Str}{scope:Scope}{f:Addr}{cd:Value}{A:Around}{outer:List Env}{s s1:Shared}{H:Hp}{E:XK}{us:List Value}{vs:List V}
  (S:aw N ps scope)(hd:A.handled=none)(e0:CP P w K mg base A outer s H)(hl:vs.length=ps.length)(r:bA vs us)
  (x:InCallC s s.heap.objs.size (bindL (envOfC qual scope s.heap.objs.size f cd).kindOf (ps.zip us) fun _=>none) (cellsFrom (s.heap.objs.size+1) scope.names []) (bindC (envOfC qual scope s.heap.objs.size f cd).kindOf (ps.zip us) fun _=>none) s1) :
  aK (qE CX P w K mg base N qual scope f cd A outer s H E) [] (start N vs) H s1:=by
 have hpl:ps.length<=N.length:=by have:=congrArg List.length S.pre;rw[List.length_take] at this;walk_at"o"
 obtain⟨h1,tk,rfl,hk⟩:=x.done
 have noA:∀ b:Addr,b ∉ (qE CX P w K mg base N qual scope f cd A outer s H E).ex:=fun b z=>absurd (show b ∈ ([]:List Addr) from z) (by simp)
 refine⟨⟨e0.mod,S.kind,rfl,rfl,Nat.le_refl _,fun y z c h1 h2=>?_,fun y hy=>?_,fun y c _ h=>?_,fun _=>hd,Around.frames_deeper e0.frames,.inr ⟨rfl,rfl⟩,fun b z=>absurd z (noA b),e0.bs,e0.bsz,fun b _ _=>noA b,fun b z=>absurd z (noA b),e0.funs,e0.frf⟩,
  rfl,e0.bare,Un.kept hk,⟨_,x.toInCall.ns,fun i y v h1 h2 h3=>?_⟩,fun y c h=>⟨_,x.cell y c h⟩,e0.hok.fresh (Nat.le_refl _),fun y c h=>?_,fun p hp=>absurd (show p ∈ ([]:List (Addr × Obj)) from hp) (by simp),e0.hok.kept hk,?_⟩
 ·exact name_of_addr x.apart (PySem.mem_of_lookup h1) (PySem.mem_of_lookup h2)
 ·have hy:scope.names.lookup y=some .cell\/scope.names.lookup y=some .free:=hy
  rcases hy with hy|hy
  ·exact se hy
  ·exact absurd rfl (S.nofree _ (PySem.mem_of_lookup hy))
 ·exact Nat.le_of_lt (x.above y c (PySem.mem_of_lookup h))
 ·have hi:i<vs.length:=by
   unfold start at h2
   by_cases hi:i<vs.length
   ·exact hi
   ·rw[List.getElem?_append_right (by simpa using hi)] at h2
    rw[List.getElem?_replicate] at h2
    split at h2 <;> cases h2
  have ha:vs[i]? = some v:=by
   unfold start at h2
   rw[List.getElem?_append_left (by simpa using hi),List.getElem?_map] at h2
   cases e:vs[i]? with
   | none=>rw[e] at h2;cases h2
   | some a=>rw[e] at h2;cases h2;rfl
  obtain⟨u,hu,rv⟩:=r.get ha
  have hp:ps[i]? = some y:=by
   rw[<- S.pre,List.getElem?_take_of_lt (by walk_at"o")];exact h1
  have ndP:ps.Nodup:=by rw[<- S.pre];exact S.nd.sublist (List.take_sublist _ _)
  refine⟨u,rv,?_⟩
  rcases S.par y (List.mem_of_getElem? hp) with k|k
  ·exact .inl ⟨k,qb ndP hp hu k⟩
  ·obtain⟨c,e⟩:=se (n:=s.heap.objs.size+1) k
   refine .inr ⟨.inl k,c,e,?_⟩
   have q:=x.cell y c e
   rw[pK ndP hp hu (by show scope.names.lookup y ≠ _;rw[k];decide)] at q
   exact q
 ·exact e0.hok.fresh (Nat.le_of_lt (x.above y c (PySem.mem_of_lookup h)))
 ·unfold start
  show _=N.length
  rw[List.length_append,List.length_map,List.length_replicate]
  walk_at"o"
theorem F4{CX:xg}{P:Program}{w:World}{K:W.Frag}{mg:Str->Option Value}{base:Heap}{k:Nat}{f:Addr}{name qual:Str}{params:Arguments}{body:List Stmt}{scope:Scope}{dV kV doc pm cdv ct oc:Value}{an od:Option Addr}
  {osl:Array (Option Value)}{N ps:List Str}{sp:Sp}(lk:K.lookup f=some ⟨oc,od,.func (PySem.W.fnOf name qual params body scope dV kV doc pm an cdv ct),osl⟩)(hcd:PySem.W.codeIn K cdv qual=true)(S:aw N ps scope)
  (len:∀ vs H Q E,sp vs H Q E->vs.length=ps.length)
  (hbody:∀ (A:Around)(outer:List Env)(s:Shared)(H:Hp)(vs:List V)(Q:VK)(E:XK),ge k (A.deeper (envOfC qual scope s.heap.objs.size f cdv))->sp vs H Q E ->
   ∃ t,tH (qE CX P w K mg base N qual scope f cdv A outer s H E) body t/\t { nx:=fun _ H'=>Q .non H',rt:=Q } (start N vs) H) :
  bK P w K mg base CX (k+1) f (PySem.W.fnOf name qual params body scope dV kV doc pm an cdv ct) ps sp:=by
 refine⟨len,fun A outer s H args us vs Q E hr e0 hb r hsp=>?_⟩
 have hl:=len _ _ _ _ hsp
 have KX:K.In s.heap:=e0.mod.kin.keeps fun b o e=>(e0.bs b o e).1
 have lim:s.heap.NoLimit:=e0.mod.nolimit.keeps fun b o e=>(e0.bs b o e).1
 have hkind:∀ y ∈ ps.zip us,scope.names.lookup y.1=some .local\/(scope.names.lookup y.1=some .cell/\((cellsFrom (s.heap.objs.size+1) scope.names []).lookup y.1).isSome=true):=fun ⟨n,v⟩ hy=>by
  rcases S.par n (List.of_mem_zip hy).1 with q|q
  ·exact .inl q
  ·exact .inr ⟨q,PySem.W.cellsFrom_some _ _ _ (.inl q)⟩
 refine codeAny_call_function hr.depth (KX _ _ lk) rfl S.co S.gen rfl (PySem.W.codeRec_of KX hcd) (hb _ _ _ _ ?_)
 refine wpAny_newFunctionEnv_cells S.kind hkind fun env he s1 x=>?_
 subst he
 refine⟨lim.keeps x.toInCall.keep,codeAny_func ?_⟩
 obtain⟨t,ht,hq⟩:=hbody A outer s H vs Q E (hr.deeper _) hsp
 have I:aK (qE CX P w K mg base N qual scope f cdv A outer s H E) [] (start N vs) H s1:=xD S hr.hd e0 hl r x
 refine wpAny_mono (ht [] s1 (start N vs) H _ I hq) (fun fl s' hs=>?_) fun e s' hs=>hs
 have fin:∀ {σ':St}{H':Hp}{v:V}{u:Value},aK (qE CX P w K mg base N qual scope f cdv A outer s H E) [] σ' H' s'->bX v u->Q v H'->CE outer P w H s Q u s' :=
  fun {σ' H' v u} J rv q=>⟨v,H',J.os,J.bare,J.base,J.hok,rv,q⟩
 cases fl with
 | ret u =>
  obtain⟨v,σ',H',J,rv,q⟩:=hs
  exact fin J rv q
 | next =>
  obtain⟨σ',H',J,q⟩:=hs
  exact fin (v:=V.non) (u:=Value.none) J rfl q
 | brk =>
  obtain⟨_,_,_,q⟩:=hs
  exact False.elim q
 | cont =>
  obtain⟨_,_,_,q⟩:=hs
  exact False.elim q
end L2
namespace L2
open PySem PySem.Spec PyProof.Rows
section
variable {X:Cx}{x:Str}{p pos:Pos}{e:Expr}{es:List Expr}{t:TA}{id T:String}{r:List V->Hp->VK->Prop}
def AZ(r:List V->Hp->VK->Prop)(t:TA):TE:=fun σ H Q=>t σ H fun vs H1=>r vs H1 Q
theorem yx(hc:fF X (.builtin id) r)(hg:Gl X x)(hm:X.mg x=none)(hv:bootBuiltins x=some (.builtin id))(ha:PA X (e :: es) t)(hn:x ≠ "__name__":=by decide) (hdb:(x == ("__debug__" : Str))=false:=by decide)
  (he:starEach (e :: es) X.env=(false,eval e X.env) :: starEach es X.env:=by rfl)(hpl:(backTo pos (starEach es X.env)).any (·.1)=false:=by rfl):PE X (.Call (.Name x p) (e :: es) [] pos) (AZ r t):=by
 intro pins s σ H Q I h
 refine wpAny_Call_Name_kw (i7 I hg hm hv ?_ hn hdb)
 exact PyProof.Rows.callWith_builtin1 (cQ (ha pos pins s σ H _ I h) fun us s1 ⟨vs,H1,I1,r1,q1⟩=>hc pins s1 σ H1 vs us Q I1 r1 q1) he hpl
theorem xw(hc:fF X (.type T) r)(hg:Gl X x)(hm:X.mg x=none)(hv:bootBuiltins x=some (.type T))(ha:PA X (e :: es) t)(hn:x ≠ "__name__":=by decide) (hdb:(x == ("__debug__" : Str))=false:=by decide)
  (he:starEach (e :: es) X.env=(false,eval e X.env) :: starEach es X.env:=by rfl)(hpl:(backTo pos (starEach es X.env)).any (·.1)=false:=by rfl):PE X (.Call (.Name x p) (e :: es) [] pos) (AZ r t):=by
 intro pins s σ H Q I h
 refine wpAny_Call_Name_kw (i7 I hg hm hv ?_ hn hdb)
 exact PyProof.Rows.callWith_type1 (cQ (ha pos pins s σ H _ I h) fun us s1 ⟨vs,H1,I1,r1,q1⟩=>hc pins s1 σ H1 vs us Q I1 r1 q1) he hpl
end
end L2
namespace HT
open PySem PyProof.Rows
section
open PySem.SeqAt
open PySem.AutoSeq1 (wpAny_loadPart')
open PySem.MeetsSeq PySem.MeetsSeq2 PySem.MeetsSeq3
end
section
variable {prog:Program}{w:World}{A:Around}{E:Value->Shared->Prop}{s:Shared}
theorem cat_tup{t b:Addr}{vs ws:List Value}{Q:Value->Shared->Prop}(ht:IsTup s.heap t vs.toArray)(hb:IsTup s.heap b ws.toArray)(hv:vs ≠ [])
  (h1:ws=[]->Q (.ref t) s)(h2:ws ≠ []->Q (.ref s.heap.objs.size) { s with heap:=s.heap.push { cls:=.type "tuple",data:=.seq (vs ++ ws).toArray } })
  (hsz:vs.length+ws.length<=sizeLine):wpAny (model prog w) A (binaryOp .Add (.ref t) (.ref b)) Q E s:=by
 obtain⟨⟨cls,dd,data,sl⟩,ho,hc,n,hd⟩:=id ht
 obtain⟨⟨cls2,dd2,data2,sl2⟩,ho2,hc2,n2,hd2⟩:=id hb
 simp only at hc hd hc2 hd2
 subst hc hd hc2 hd2
 have e:vs.toArray ++ ws.toArray=(vs ++ ws).toArray:=by simp
 by_cases hw:ws=[]
 ·exact concat_meets ⟨_,ho,rfl⟩ ⟨_,ho2,rfl⟩ noFill_tuple_add seq_tuple_add PySem.F.slot_tuple_add PySem.F.entry_tuple_add (PySem.F.args_tuple_add_2 _ _)
   (tuple_addW1 t b vs.toArray ws.toArray n n2 dd dd2 sl sl2 (by simpa using hv) (by simp[hw])) ⟨ho,ho2,h1 hw⟩
 ·refine concat_meets ⟨_,ho,rfl⟩ ⟨_,ho2,rfl⟩ noFill_tuple_add seq_tuple_add PySem.F.slot_tuple_add PySem.F.entry_tuple_add (PySem.F.args_tuple_add_2 _ _)
   (tuple_addW2 t b vs.toArray ws.toArray n n2 dd dd2 sl sl2 (by simpa using hv) (by simpa using hw) (by rw[List.size_toArray,List.size_toArray];exact hsz)) ⟨ho,ho2,?_⟩
  rw[e]
  exact h2 hw
def sIx(n d:Nat):Option Int->Nat
 | none=>d
 | some v=>if v<0 then (v+(n:Int)).toNat else min v.toNat n
theorem rH(n d k:Nat):sIx n d (some (k:Int))=min k n:=by
 show (if (k:Int)<0 then ((k:Int)+(n:Int)).toNat else min (k:Int).toNat n)=min k n
 rw[if_neg (by walk_at"o"),Int.toNat_natCast]
theorem Dy(n d:Nat)(hd:d<=n)(o:Option Int):sIx n d o<=n:=by
 cases o with
 | none=>exact hd
 | some v =>
  show (if v<0 then (v+(n:Int)).toNat else min v.toNat n)<=n
  by_cases hv:v<0
  ·rw[if_pos hv];walk_at"o"
  ·rw[if_neg hv];exact Nat.min_le_right _ _
theorem wE(v:Int)(n d:Nat):(if v<0 then max (v+(n:Int)) 0 else min v (n:Int))=((sIx n d (some v):Nat):Int):=by
 show (if v<0 then max (v+(n:Int)) 0 else min v (n:Int))=(((if v<0 then (v+(n:Int)).toNat else min v.toNat n):Nat):Int)
 by_cases hv:v<0
 ·simp only[if_pos hv];walk_at"o"
 ·simp only[if_neg hv];walk_at"o"
theorem tK(lo hi:Option Int)(n:Nat):Builtin.Slice.sliceAdjust lo hi 1 (n:Int)=(((sIx n 0 lo:Nat):Int),((sIx n n hi:Nat):Int)):=by
 have h1:¬ ((1:Int)<0):=by walk_at"o"
 unfold Builtin.Slice.sliceAdjust
 simp only[h1,if_false]
 refine Prod.ext ?_ ?_
 ·cases lo with
  | none=>rfl
  | some v=>exact wE v n 0
 ·cases hi with
  | none=>rfl
  | some v=>exact wE v n n
theorem tS (i j:Nat):Builtin.Slice.slicePlaces (i:Int) (j:Int) 1=j - i:=by
 unfold Builtin.Slice.slicePlaces
 have h1:(1:Int) > 0:=by walk_at"o"
 simp only[h1,if_true,Int.ediv_one]
 split <;> walk_at"o"
theorem nE{v:Value}{o:Option Int}{Q:Option Int->Shared->Prop}(p:IsPart v o)(h:Q o s):wpAny (model prog w) A (Builtin.Slice.slicePartIndex v) Q E s:=by
 cases p with
 | none=>exact slicePart_none h
 | int i t=>exact slicePart_int h
theorem lT{sl:Addr}{vl vu:Value}{lo hi:Option Int}{n:Nat}{Q:Int × Int × Nat->Shared->Prop}(hs:s.heap.IsSliceOf sl vl vu .none)(pl:IsPart vl lo)(pu:IsPart vu hi)
  (h:Q (((sIx n 0 lo:Nat):Int),1,sIx n n hi - sIx n 0 lo) s):wpAny (model prog w) A (Builtin.Slice.sliceApplied (.ref sl) (pure (n:Int))) Q E s:=by
 obtain⟨os,hos,hcs,hds⟩:=id hs
 unfold Builtin.Slice.sliceApplied Builtin.Slice.sliceFields
 refine wpAny_bind (wpAny_bind (wpAny_field hos hds (x:=vl) rfl (wpAny_bind (wpAny_field hos hds (x:=vu) rfl (wpAny_bind (wpAny_field hos hds (x:=.none) rfl (wpAny_pure ?_)))))))
 refine wpAny_bind (slicePart_none ?_)
 show wpAny _ _ (if ((1:Int) == 0)=true then _ else _) _ _ s
 rw[if_neg (by decide)]
 refine wpAny_bind (nE pl (wpAny_bind (nE pu (wpAny_bind (wpAny_pure ?_)))))
 show wpAny _ _ (match Builtin.Slice.sliceAdjust lo hi 1 (n:Int) with|(lo,hi)=>pure (lo,(1:Int),Builtin.Slice.slicePlaces lo hi 1)) _ _ s
 rw[tK lo hi n]
 show wpAny _ _ (pure (((sIx n 0 lo:Nat):Int),(1:Int),Builtin.Slice.slicePlaces ((sIx n 0 lo:Nat):Int) ((sIx n n hi:Nat):Int) 1)) _ _ s
 rw[tS]
 exact wpAny_pure h
theorem zn(xs:Array Value)(i k:Nat):((List.range k).filterMap fun (m:Nat)=>xs[((i:Int)+(m:Int)*1).toNat]?).toArray=((xs.toList.drop i).take k).toArray:=by
 have e:(fun (m:Nat)=>xs[((i:Int)+(m:Int)*1).toNat]?)=fun m=>xs[i+m]?:=by
  funext m
  have:((i:Int)+(m:Int)*1).toNat=i+m:=by walk_at"o"
  rw[this]
 rw[e]
 have:=pick_run xs i k
 rw[List.filterMap_map] at this
 have e2:((fun x=>xs[x]?) ∘ fun x=>i+x)=fun m=>xs[i+m]?:=rfl
 rw[e2] at this
 rw[this]
theorem getItem_tuple_cut{t sl:Addr}{items:Array Value}{vl vu:Value}{lo hi:Option Int}{Q:Value->Shared->Prop}(ht:IsTup s.heap t items)(hs:s.heap.IsSliceOf sl vl vu .none)(pl:IsPart vl lo)(pu:IsPart vu hi)
  (hw:¬ (sIx items.size 0 lo=0/\sIx items.size items.size hi=items.size))
  (h:Q (.ref s.heap.objs.size) { s with heap:=s.heap.push { cls:=.type "tuple",data:=.seq ((items.toList.drop (sIx items.size 0 lo)).take (sIx items.size items.size hi - sIx items.size 0 lo)).toArray } })
  (hsz:items.size<=sizeLine):wpAny (model prog w) A (getItem (.ref t) (.ref sl)) Q E s:=by
 have htake:sizeOk (.seq ((items.toList.drop (sIx items.size 0 lo)).take (sIx items.size items.size hi - sIx items.size 0 lo)).toArray):=by
  show ((items.toList.drop (sIx items.size 0 lo)).take (sIx items.size items.size hi - sIx items.size 0 lo)).toArray.size<=sizeLine
  rw[List.size_toArray,List.length_take,List.length_drop,Array.length_toList]
  walk_at"o"
 have hj:sIx items.size items.size hi<=items.size:=Dy _ _ (Nat.le_refl _) hi
 obtain⟨os,hos,hcs,hds⟩:=id hs
 have hTs:s.TypeIs (.ref sl) "slice":=⟨os,hos,hcs⟩
 unfold getItem
 try with_reducible refine wpAny_holding ?_
 first|refine wpAny_bind (wpAny_pure ?_)|skip
 refine wpAny_bind (wpAny_sequenceKey ht.typeIs (by decide) ?_)
 refine wpAny_bind (wpAny_callSpecial?_slot (name:=Str.ofString "__getitem__") ht.typeIs PyProof.Rows.slot_tuple_getitem
  (wpAny_call_entry PyProof.Rows.slot_tuple_getitem ht.typeIs entry_tuple_getitem ?_ (args_tuple_getitem _ _)))
 show wpAny _ _ (Builtin.Tuple.tupleItemsOf (.ref t) >>= _) _ _ s
 refine wpAny_bind (tupleItemsOf_ ht ?_)
 refine wpAny_bind (wpAny_typeOf hTs ?_)
 rw[if_pos (by decide)]
 refine wpAny_bind (lT hs pl pu ?_)
 have hno:¬ ((((sIx items.size 0 lo:Nat):Int) == 0 && (1:Int) == 1 && (sIx items.size items.size hi - sIx items.size 0 lo) == items.size)=true):=by
  intro q
  rw[Bool.and_eq_true,Bool.and_eq_true] at q
  have q1:((sIx items.size 0 lo:Nat):Int)=0:=eq_of_beq q.1.1
  have q2:sIx items.size items.size hi - sIx items.size 0 lo=items.size:=eq_of_beq q.2
  exact hw ⟨by walk_at"o",by walk_at"o"⟩
 show wpAny _ _ (if (((sIx items.size 0 lo:Nat):Int) == 0 && (1:Int) == 1 && (sIx items.size items.size hi - sIx items.size 0 lo) == items.size)=true then _ else _) _ _ s
 rw[if_neg hno,zn]
 first
  | exact wpAny_bind (m:=Builtin.Tuple.tupleExact _) (wpAny_newObj_type (wpAny_pure ⟨_,rfl,wpAny_pure h⟩) htake)
  | exact wpAny_bind (m:=Builtin.Tuple.tupleExact _) (wpAny_newObj_type (wpAny_bind (wpAny_pure (wpAny_pure ⟨_,rfl,wpAny_pure h⟩))) htake)
  | exact wpAny_bind (wpAny_bind (m:=Builtin.Tuple.tupleExact _) (wpAny_newObj_type (wpAny_pure (wpAny_pure ⟨_,rfl,wpAny_pure h⟩)) htake))
  | exact wpAny_bind (wpAny_bind (m:=Builtin.Tuple.tupleExact _) (wpAny_newObj_type (wpAny_pure ⟨_,rfl,wpAny_pure h⟩) htake))
end
end HT
namespace L2
open PySem PySem.Spec PyProof.Rows
abbrev TO:=St->Hp->(Option Int->Hp->Prop)->Prop
def PO(X:Cx)(e:Option Expr)(t:TO):Prop :=
 ∀ (pins:List (Addr × Obj))(s:Shared)(σ:St)(H:Hp)(Q:Option Int->Hp->Prop),aK X pins σ H s->t σ H Q ->
  wpAny (model X.prog X.w) X.A (evalPart e X.env) (fun u s'=>∃ o H',aK X pins σ H' s'/\IsPart u o/\Q o H') X.xe s
def qM:TO:=fun _ H Q=>Q none H
def wu(t:TE):TO:=fun σ H Q=>t σ H fun x H1=>∃ i,x = .int i/\Q (some i) H1
section
variable {X:Cx}{e:Expr}{te:TE}{lo hi:Option Expr}{tl th:TO}{pos p2:Pos}
theorem Ce:PO X none qM:=by
 intro pins s σ H Q I h
 rw[evalPart_none]
 exact wpAny_pure ⟨none,H,I,.none,h⟩
theorem AU(h:PE X e te):PO X (some e) (wu te):=by
 intro pins s σ H Q I hw
 rw[evalPart_some]
 refine cQ (h pins s σ H _ I hw) fun u s1 ⟨x,H1,I1,r1,q1⟩=>?_
 obtain⟨i,rfl,q⟩:=q1
 obtain⟨t,rfl⟩:=r1
 exact⟨some i,H1,I1,.int i t,q⟩
def xz(X:Cx)(r:V->Option Int->Option Int->Hp->VK->Prop):Prop :=
 ∀ (pins:List (Addr × Obj))(s:Shared)(σ:St)(H:Hp)(x:V)(v vl vu:Value)(lo hi:Option Int)(sl:Addr)(Q:VK),aK X pins σ H s->bX x v->s.heap.IsSliceOf sl vl vu .none->IsPart vl lo->IsPart vu hi->r x lo hi H Q ->
  ∃ T id,typeLookup (.type T) "__getitem__" = pure (some (.builtin id))/\s.TypeIs v T/\wpAny (model X.prog X.w) X.A (getItem v (.ref sl)) (EP X pins σ Q) X.xe s
def Hi(r:V->Option Int->Option Int->Hp->VK->Prop)(te:TE)(tl th:TO):TE:=fun σ H Q=>te σ H fun x H1=>tl σ H1 fun l H2=>th σ H2 fun u H3=>r x l u H3 Q
theorem yS{r:V->Option Int->Option Int->Hp->VK->Prop}(hr:xz X r)(he:PE X e te)(hl:PO X lo tl)(hu:PO X hi th):PE X (.Subscript e (.Slice lo hi none p2) pos) (Hi r te tl th):=by
 intro pins s σ H Q I h
 refine Subscript_ (cQ (he pins s σ H _ I h) fun v s1 ⟨x,H1,I1,r1,q1⟩=>?_)
 refine wpAny_Slice (cQ (hl pins s1 σ H1 _ I1 q1) fun vl s2 ⟨l,H2,I2,pl,q2⟩=>cQ (hu pins s2 σ H2 _ I2 q2) fun vu s3 ⟨u,H3,I3,pu,q3⟩=>?_)
 rw[evalPart_none]
 refine wpAny_pure ?_
 have I4:aK X pins σ H3 { s3 with heap:=s3.heap.push { cls:=.type "slice",data:=.fields #[vl,vu,.none] } }:=I3.kept (t':=s3.toks) fun b ob q=>Heap.get?_push_of_some _ q
 obtain⟨T,id,hT,ht,hg⟩:=hr pins { s3 with heap:=s3.heap.push { cls:=.type "slice",data:=.fields #[vl,vu,.none] } } σ H3 x v vl vu l u s3.heap.objs.size Q I4 r1 (Heap.IsSliceOf.new ..) pl pu q3
 show wpAny (model X.prog X.w) X.A (subscriptTail e (.Slice lo hi none p2) v (.ref s3.heap.objs.size)) (EP X pins σ Q) X.xe { s3 with heap:=s3.heap.push { cls:=.type "slice",data:=.fields #[vl,vu,.none] } }
 exact tail_any (ops:=[.ref s3.heap.objs.size,v]) ht hT hg (by with_unfolding_all rfl)
def gu(xs:List V)(lo hi:Option Int):List V:=(xs.drop (HT.sIx xs.length 0 lo)).take (HT.sIx xs.length xs.length hi - HT.sIx xs.length 0 lo)
theorem mw(xs:List V)(lo hi:Option Int):(gu xs lo hi).length<=xs.length:=by
 unfold gu
 rw[List.length_take,List.length_drop]
 walk_at"o"
def GX(K:W.Frag):V->Option Int->Option Int->Hp->VK->Prop:=fun x lo hi H Q=>∃ a xs,x = .ref a/\pB K H a xs /\
 ¬ (HT.sIx xs.length 0 lo=0/\HT.sIx xs.length xs.length hi=xs.length) /\ ∀ p,H p=none->Q (.ref p) (upd H p (.tup (gu xs lo hi)))
theorem Fp:xz X (GX X.K):=by
 intro pins s σ H x v vl vu lo hi sl Q I rx hs pl pu h
 obtain⟨a,xs,rfl,hx,hw,q⟩:=h
 cases rx
 obtain⟨its,r,ht,hz⟩:=I.tuple hx
 have hlen:its.toArray.size=xs.length:=by rw[List.size_toArray];exact r.length.symm
 refine⟨"tuple",_,PyProof.Rows.slot_tuple_getitem.lookup,ht.typeIs,?_⟩
 refine HT.getItem_tuple_cut ht hs pl pu (by rw[hlen];exact hw) ?_ (by rw[hlen];exact hz)
 rw[hlen]
 refine⟨.ref s.heap.objs.size,_,I.laid (t':=s.toks) (o:=.tup (gu xs lo hi)) (fun b ob q=>Heap.get?_push_of_some _ q) (Nat.le_refl _) ?_,rfl,q _ (I.hok.fresh (Nat.le_refl _))⟩
 exact⟨Nat.le_trans (mw xs lo hi) hz,_,(r.drop (HT.sIx xs.length 0 lo)).take (HT.sIx xs.length xs.length hi - HT.sIx xs.length 0 lo),IsTup.new _ _⟩
def Gj(K:W.Frag):R2:=fun x y H Q=>∃ a b xs ys,x = .ref a/\y = .ref b/\pB K H a xs/\pB K H b ys/\xs ≠ []/\xs.length+ys.length<=sizeLine /\
 (ys=[]->Q (.ref a) H)/\(ys ≠ [] -> ∀ p,H p=none->Q (.ref p) (upd H p (.tup (xs ++ ys))))
theorem bA.nil_iff{xs:List V}{us:List Value}(r:bA xs us):us=[] ↔ xs=[]:=by
 cases r with
 | nil=>simp
 | cons _ _=>simp
theorem CB:eK X (binaryOp .Add) (Gj X.K):=by
 intro pins s σ H x y v u Q I rx ry h
 obtain⟨a,b,xs,ys,rfl,rfl,ha,hb,hx,hz,q1,q2⟩:=h
 cases rx
 cases ry
 obtain⟨its,r1,p1,_⟩:=I.tuple ha
 obtain⟨its2,r2,p2,_⟩:=I.tuple hb
 refine HT.cat_tup p1 p2 (fun z=>hx (r1.nil_iff.mp z)) (fun z=>⟨.ref a,H,I,rfl,q1 (r2.nil_iff.mp z)⟩) (fun z=>?_) (by rw[<- r1.length,<- r2.length];exact hz)
 refine⟨.ref s.heap.objs.size,_,I.laid (t':=s.toks) (o:=.tup (xs ++ ys)) (fun b ob q=>Heap.get?_push_of_some _ q) (Nat.le_refl _) ?_,rfl,q2 (fun w=>z (r2.nil_iff.mpr w)) _ (I.hok.fresh (Nat.le_refl _))⟩
 exact⟨by rw[List.length_append];exact hz,_,r1.append r2,IsTup.new _ _⟩
end
end L2
namespace L2
open PySem PySem.Spec PyProof.Rows
def tR(n:Nat)(i:Int):Option Nat:=if 0<=i then (if i<n then some i.toNat else none) else if -(n:Int)<=i then some (i+n).toNat else none
def mL{α:Type}(xs:List α)(i:Int):Option α:=(tR xs.length i).bind fun j=>xs[j]?
theorem wC{n:Nat}{i:Int}{j:Nat}(h:tR n i=some j):seqIndex? i n=some j/\j<n /\ -(n:Int)<=i/\i<n:=by
 unfold tR at h
 by_cases h0:0<=i
 ·rw[if_pos h0] at h
  by_cases h1:i<n
  ·rw[if_pos h1] at h
   have e:i.toNat=j:=Option.some.inj h
   exact⟨by rw[seqIndex_of h0 h1,e],by walk_at"o",by walk_at"o",h1⟩
  ·rw[if_neg h1] at h;cases h
 ·rw[if_neg h0] at h
  by_cases h1 : -(n:Int)<=i
  ·rw[if_pos h1] at h
   have e:(i+n).toNat=j:=Option.some.inj h
   exact⟨by rw[seqIndex_neg (by walk_at"o") h1,e],by walk_at"o",h1,by walk_at"o"⟩
  ·rw[if_neg h1] at h;cases h
theorem qu{α:Type}{xs:List α}{i:Int}{v:α}(h:mL xs i=some v):∃ j,seqIndex? i xs.length=some j/\xs[j]? = some v/\j<xs.length /\ -(xs.length:Int)<=i/\i<xs.length:=by
 unfold mL at h
 cases e:tR xs.length i with
 | none=>rw[e] at h;cases h
 | some j =>
  rw[e] at h
  obtain⟨h1,h2,h3,h4⟩:=wC e
  exact⟨j,h1,h,h2,h3,h4⟩
theorem dj{α:Type}{xs:List α}{j:Nat}{v:α}(h:xs[j]? = some v):mL xs (j:Int)=some v:=by
 have hj:j<xs.length:=(List.getElem?_eq_some_iff.mp h).1
 have e:tR xs.length (j:Int)=some j:=by
  unfold tR
  rw[if_pos (by walk_at"o"),if_pos (by walk_at"o")];simp
 unfold mL;rw[e];exact h
theorem oy{α:Type}(xs:List α)(v:α):mL (xs ++ [v]) (-1)=some v:=by
 have hl:(xs ++ [v]).length=xs.length+1:=by simp
 have e:tR (xs ++ [v]).length (-1)=some xs.length:=by
  unfold tR
  rw[hl,if_neg (by decide),if_pos (by walk_at"o")]
  congr 1
  walk_at"o"
 unfold mL
 rw[e]
 show (xs ++ [v])[xs.length]? = some v
 simp
def wk(b:Expr):Prop:=∀ o i,subscripted b false o i=operate [o,i] (getItem o i)
def uX(X:Cx)(r:R2):Prop :=
 ∀ (value slice:Expr)(pins:List (Addr × Obj))(s:Shared)(σ:St)(H:Hp)(x y:V)(v u:Value)(Q:VK),aK X pins σ H s->bX x v->bX y u->r x y H Q ->
  subscripted slice false v u=operate [v,u] (getItem v u)->wpAny (model X.prog X.w) X.A (subscriptTail value slice v u) (EP X pins σ Q) X.xe s
def GF(X:Cx)(id:String)(r:V->List V->Hp->VK->Prop):Prop :=
 ∀ (pins:List (Addr × Obj))(s:Shared)(σ:St)(H:Hp)(x:V)(xs:List V)(v:Value)(us:List Value)(Q:VK),aK X pins σ H s->bX x v->bA xs us->r x xs H Q ->
  wpAny (model X.prog X.w) X.A (call (.builtin id) (v :: us)) (EP X pins σ Q) X.xe s
section
variable {X:Cx}{a b:Expr}{ta tb:TE}{pos:Pos}
theorem F9{r:R2}(hr:uX X r)(ha:PE X a ta)(hb:PE X b tb)(hs:wk b):PE X (.Subscript a b pos) (BQ r ta tb):=by
 intro pins s σ H Q I h
 exact Subscript_ (Ff ha hb I h fun v u s2 x y H2 I2 rx ry q=>hr a b pins s2 σ H2 x y v u Q I2 rx ry q (hs _ _))
def FW(K:W.Frag):R2:=fun x y H Q=>∃ p xs i v,x = .ref p/\y = .int i/\j6 K H p xs/\mL xs i=some v/\Q v H
def Gx(K:W.Frag):R2:=fun x y H Q=>∃ p xs i v,x = .ref p/\y = .int i/\pB K H p xs/\mL xs i=some v/\Q v H
theorem wK:uX X (FW X.K):=by
 intro value slice pins s σ H x y v u Q I rx ry h hs
 obtain⟨p,xs,i,z,rfl,rfl,hq,he,q⟩:=h
 cases rx
 obtain⟨t,rfl⟩:=ry
 obtain⟨its,r,pl,hz⟩:=I.list hq
 obtain⟨j,h1,h2,h3,h4,h5⟩:=qu he
 obtain⟨w,ew,rw'⟩:=r.get h2
 have hl:=r.length
 have hn:=lZ
 have fin:EP X pins σ Q w s:=⟨z,H,I,rw',q⟩
 by_cases h0:0<=i
 ·have hj:i.toNat=j:=by
   rw[seqIndex_of h0 h5] at h1
   exact Option.some.inj h1
  exact item_listR pl.isList h0 (by walk_at"o") (by rw[hj];simpa using ew) fin hs
 ·have hj:(i+(its.toArray.size:Int)).toNat=j:=by
   rw[seqIndex_neg (by walk_at"o") h4] at h1
   rw[List.size_toArray,<- hl]
   exact Option.some.inj h1
  exact subscriptTail_builtinR (x:=w) pl.isList.typeIs slot_list_getitem.lookup
   (wpAny_getItem_list_neg (Q:=fun r s'=>r=w/\EP X pins σ Q r s') pl.isList (by walk_at"o") (by rw[List.size_toArray] <;> walk_at"o") (by walk_at"o") (by rw[hj];simpa using ew) ⟨rfl,fin⟩) hs
theorem Ea:uX X (Gx X.K):=by
 intro value slice pins s σ H x y v u Q I rx ry h hs
 obtain⟨p,xs,i,z,rfl,rfl,hq,he,q⟩:=h
 cases rx
 obtain⟨t,rfl⟩:=ry
 obtain⟨its,r,pl,hz⟩:=I.tuple hq
 obtain⟨j,h1,h2,h3,h4,h5⟩:=qu he
 obtain⟨w,ew,rw'⟩:=r.get h2
 have hl:=r.length
 have hn:=lZ
 have fin:EP X pins σ Q w s:=⟨z,H,I,rw',q⟩
 exact subscriptTail_builtinR (x:=w) pl.typeIs slot_tuple_getitem.lookup
  (getItem_tuple (j:=j) (Q:=fun r s'=>r=w/\EP X pins σ Q r s') pl (by walk_at"o") (by walk_at"o") (by rw[List.size_toArray,<- hl];exact h1) (by simpa using ew) ⟨rfl,fin⟩) hs
theorem uB(its:List Value)(n j:Nat)(u:Value):Obj.mapSeq (·.setIfInBounds j u) { cls:=.type "list",data:=.seq its.toArray n } = { cls:=.type "list",data:=.seq (its.set j u).toArray n }:=by
 simp[Obj.mapSeq]
theorem aK.lst{pins:List (Addr × Obj)}{σ:St}{H:Hp}{s:Shared}{p:Addr}{xs:List V}(I:aK X pins σ H s)(h:H p=some (.lst xs)) :
  ∃ (its:List Value)(n:Nat),bA xs its/\s.heap.get? p=some { cls:=.type "list",data:=.seq its.toArray n } /\ xs.length<=sizeLine:=by
 obtain⟨z,its,n,r,e⟩:=I.hok p _ h
 exact⟨its,n,r,e,z⟩
theorem aK.lstUpd{pins:List (Addr × Obj)}{σ:St}{H:Hp}{s:Shared}{p:Addr}{xs ys:List V}{its its':List Value}{n n':Nat}{f:Obj->Obj}(I:aK X pins σ H s)(h:H p=some (.lst xs))
  (ho:s.heap.get? p=some { cls:=.type "list",data:=.seq its.toArray n }) (hf:f { cls:=.type "list",data:=.seq its.toArray n } = { cls:=.type "list",data:=.seq its'.toArray n' }) (r:bA ys its')(hz:ys.length<=sizeLine)(t:Nat) :
  aK X pins σ (upd H p (.lst ys)) { s with heap:=s.heap.update p f,toks:=t }:=by
 have e:(s.heap.update p f).get? p=some { cls:=.type "list",data:=.seq its'.toArray n' }:=by
  rw[Heap.get?_update_self f ho (by rw[hf] <;> rfl),hf]
 refine I.write (x:=p) (e:=p) (by rw[h];trivial) (.inl rfl) (fun b u hb q=>(Heap.get?_update_other _ _ (Ne.symm hb)).trans q) ⟨_,e⟩ ?_
 exact⟨hz,its',n',r,e⟩
def FP:V->V->V->Hp->(Hp->Prop)->Prop:=fun o i v H Q=>∃ p xs k j,o = .ref p/\i = .int k/\H p=some (.lst xs)/\tR xs.length k=some j/\Q (upd H p (.lst (xs.set j v)))
theorem Av:xI X FP:=by
 intro pins s σ H o i v ov iv u Q I ro ri rv h
 obtain⟨p,xs,k,j,rfl,rfl,hp,hj,q⟩:=h
 cases ro
 obtain⟨t,rfl⟩:=ri
 obtain⟨its,n,r,ho,hz⟩:=I.lst hp
 obtain⟨h1,h2,h3,h4⟩:=wC hj
 have hl:=r.length
 have hn:=lZ
 have I':aK X pins σ (upd H p (.lst (xs.set j v))) { s with heap:=s.heap.update p (Obj.mapSeq (·.setIfInBounds j u)) } :=
  I.lstUpd hp ho (uB its n j u) (r.set rv j) (by rw[List.length_set];exact hz) s.toks
 by_cases h0:0<=k
 ·have hk:k.toNat=j:=by
   rw[seqIndex_of h0 h4] at h1
   exact Option.some.inj h1
  exact PySem.W.ki_setAt ho h0 (by walk_at"o") (by rw[List.size_toArray,<- hl];exact h4) (by rw[hk];exact⟨_,I',q⟩)
 ·have hk:(k+(its.toArray.size:Int)).toNat=j:=by
   rw[seqIndex_neg (by walk_at"o") h3] at h1
   rw[List.size_toArray,<- hl]
   exact Option.some.inj h1
  exact PySem.W.ki_setBack ho (by walk_at"o") (by rw[List.size_toArray,<- hl];exact h3) (by walk_at"o") (by rw[hk];exact⟨_,I',q⟩)
theorem rL(lo hi:Option Int)(n:Nat):(sliceBounds lo hi none n).1=((HT.sIx n 0 lo:Nat):Int)/\(sliceBounds lo hi none n).2.1=((HT.sIx n n hi:Nat):Int)/\(sliceBounds lo hi none n).2.2=1:=by
 refine⟨?_,?_,rfl⟩
 ·cases lo with
  | none=>simp[sliceBounds,HT.sIx]
  | some i =>
   simp only[sliceBounds,HT.sIx,Option.getD_none,show (1:Int) > 0 by decide,if_true]
   by_cases h:i<0
   ·simp only[h,if_true] <;> walk_at"o"
   ·simp only[h,if_false] <;> walk_at"o"
 ·cases hi with
  | none=>simp[sliceBounds,HT.sIx]
  | some i =>
   simp only[sliceBounds,HT.sIx,Option.getD_none,show (1:Int) > 0 by decide,if_true]
   by_cases h:i<0
   ·simp only[h,if_true] <;> walk_at"o"
   ·simp only[h,if_false] <;> walk_at"o"
theorem pA(its:List Value)(lo hi:Option Int):slicePick its.toArray lo hi none=((its.drop (HT.sIx its.length 0 lo)).take (HT.sIx its.length its.length hi - HT.sIx its.length 0 lo)).toArray:=by
 obtain⟨h1,h2,h3⟩:=rL lo hi its.toArray.size
 unfold slicePick
 rw[h1,h2,h3]
 simp only[sliceRange_one,pick_run,List.size_toArray] <;> rfl
def G6(K:W.Frag):V->Option Int->Option Int->Hp->VK->Prop:=fun x lo hi H Q=>∃ a xs,x = .ref a/\j6 K H a xs /\ ∀ p,H p=none->Q (.ref p) (upd H p (.lst (gu xs lo hi)))
theorem Bn:xz X (G6 X.K):=by
 intro pins s σ H x v vl vu lo hi sl Q I rx hs pl pu h
 obtain⟨a,xs,rfl,hx,q⟩:=h
 cases rx
 obtain⟨its,r,ht,hz⟩:=I.list hx
 have hlen:=r.length
 refine⟨"list",_,slot_list_getitem.lookup,ht.isList.typeIs,?_⟩
 refine wpAny_getItem_list_slice ht.isList hs pl pu .none (by simp) ?_ (by rw[List.size_toArray] <;> walk_at"o")
 rw[pA,<- hlen]
 refine⟨.ref s.heap.objs.size,_,I.laid (t':=s.toks) (o:=.lst (gu xs lo hi)) (fun b ob q=>Heap.get?_push_of_some _ q) (Nat.le_refl _) ?_,rfl,q _ (I.hok.fresh (Nat.le_refl _))⟩
 exact⟨Nat.le_trans (mw xs lo hi) hz,_,0,(r.drop (HT.sIx xs.length 0 lo)).take (HT.sIx xs.length xs.length hi - HT.sIx xs.length 0 lo),Heap.get?_push_size _ rfl⟩
def mB:V->Bool
 | .non=>true
 | .bl _=>true
 | .int _=>true
 | .str _=>true
 | _=>false
def CI:V->V->Bool
 | .non,.non=>true
 | .bl a,.bl b=>a == b
 | .bl a,.int b=>(if a then 1 else 0) == b
 | .int a,.bl b=>a == (if b then 1 else 0)
 | .int a,.int b=>a == b
 | .str a,.str b=>a == b
 | _,_=>false
theorem Ex{A:Around}{s:Shared}{y x:V}{u v:Value}(ry:bX y u)(rx:bX x v)(fy:mB y=true)(fx:mB x=true):SeqAt.EqAt A s u v (CI y x):=by
 cases y with
 | non =>
  cases ry
  cases x with
  | non=>cases rx;exact SeqAt.EqAt.same _
  | bl b=>cases rx;exact SeqAt.EqAt.none_bool b
  | int b=>obtain⟨t,rfl⟩:=rx;exact SeqAt.EqAt.none_int b t
  | str b=>obtain⟨t,rfl⟩:=rx;exact SeqAt.EqAt.none_str b t
  | _=>exact absurd (show false=true from fx) Bool.false_ne_true
 | bl a =>
  cases ry
  cases x with
  | non=>cases rx;exact SeqAt.EqAt.bool_none a
  | bl b=>cases rx;exact SeqAt.EqAt.bool_bool a b
  | int b=>obtain⟨t,rfl⟩:=rx;exact SeqAt.EqAt.bool_int a b t
  | str b=>obtain⟨t,rfl⟩:=rx;exact SeqAt.EqAt.bool_str a b t
  | _=>exact absurd (show false=true from fx) Bool.false_ne_true
 | int a =>
  obtain⟨t',rfl⟩:=ry
  cases x with
  | non=>cases rx;exact SeqAt.EqAt.int_none a t'
  | bl b=>cases rx;exact SeqAt.EqAt.int_bool a t' b
  | int b=>obtain⟨t,rfl⟩:=rx;exact SeqAt.EqAt.int_int a t' b t
  | str b=>obtain⟨t,rfl⟩:=rx;exact SeqAt.EqAt.int_str a t' b t
  | _=>exact absurd (show false=true from fx) Bool.false_ne_true
 | str a =>
  obtain⟨t',rfl⟩:=ry
  cases x with
  | non=>cases rx;exact SeqAt.EqAt.str_none a t'
  | bl b=>cases rx;exact SeqAt.EqAt.str_bool a t' b
  | int b=>obtain⟨t,rfl⟩:=rx;exact SeqAt.EqAt.str_int a t' b t
  | str b=>obtain⟨t,rfl⟩:=rx;exact SeqAt.EqAt.str_str a t' b t
  | _=>exact absurd (show false=true from fx) Bool.false_ne_true
 | _=>exact absurd (show false=true from fy) Bool.false_ne_true
def AR(x:V)(u:Value):Bool:=match u with
 | .none=>CI .non x
 | .bool b=>CI (.bl b) x
 | .int i _=>CI (.int i) x
 | .str z _=>CI (.str z) x
 | _=>false
theorem zp{x y:V}{u:Value}(r:bX y u)(f:mB y=true):AR x u=CI y x:=by
 cases y with
 | non=>cases r;rfl
 | bl b=>cases r;rfl
 | int i=>obtain⟨t,rfl⟩:=r;rfl
 | str z=>obtain⟨t,rfl⟩:=r;rfl
 | _=>exact absurd (show false=true from f) Bool.false_ne_true
theorem qC{x:V}:∀{xs:List V}{us:List Value},bA xs us->xs.all mB=true->us.any (AR x)=xs.any fun y=>CI y x
 | _,_,.nil,_=>rfl
 | y :: xs,u :: us,.cons r t,f=>by
  rw[List.all_cons,Bool.and_eq_true] at f
  rw[List.any_cons,List.any_cons,zp r f.1,qC t f.2]
theorem nG{A:Around}{s:Shared}{x:V}{v:Value}(rx:bX x v)(fx:mB x=true):∀ {xs:List V}{us:List Value},bA xs us->xs.all mB=true -> ∀ u ∈ us,SeqAt.EqAt A s u v (AR x u)
 | _,_,.nil,_=>fun u hu=>by cases hu
 | y :: xs,u :: us,.cons r t,f=>fun u' hu=>by
  rw[List.all_cons,Bool.and_eq_true] at f
  rcases List.mem_cons.mp hu with rfl|hu
  ·rw[zp r f.1];exact Ex r rx f.1 fx
  ·exact nG rx fx t f.2 u' hu
def yd(x:V)(xs:List V):Bool:=xs.any fun y=>CI y x
def HB(K:W.Frag)(neg:Bool):R2:=fun x y H Q=>∃ p xs,y = .ref p/\(j6 K H p xs\/pB K H p xs)/\mB x=true/\xs.all mB=true/\Q (.bl (if neg then !yd x xs else yd x xs)) H
theorem kI:eK X (compareOp .NotIn) (HB X.K true):=by
 intro pins s σ H x y v u Q I rx ry h
 obtain⟨p,xs,rfl,hq,fx,fs,q⟩:=h
 cases ry
 rcases hq with hq|hq
 ·obtain⟨its,r,pl,hz⟩:=I.list hq
  refine SeqAt.notIn_listAt (AR x) pl.isList (fun w hw=>nG rx fx r fs w (by simpa using hw)) ⟨.bl _,H,I,rfl,?_⟩
  rw[show its.toArray.any (AR x)=its.any (AR x) by simp,qC r fs]
  exact q
 ·obtain⟨its,r,pl,hz⟩:=I.tuple hq
  refine SeqAt.notIn_tupleAt (AR x) pl (fun w hw=>nG rx fx r fs w (by simpa using hw)) ⟨.bl _,H,I,rfl,?_⟩
  rw[show its.toArray.any (AR x)=its.any (AR x) by simp,qC r fs]
  exact q
theorem iA:fF X (.builtin "len") (fun xs H Q=>∃ p ys,xs=[.ref p]/\(j6 X.K H p ys\/pB X.K H p ys)/\Q (.int ys.length) H):=by
 intro pins s σ H xs us Q I r h
 obtain⟨p,ys,rfl,hq,q⟩:=h
 obtain⟨u,rfl,rx⟩:=yQ r
 cases rx
 have hn:=lZ
 rcases hq with hq|hq
 ·obtain⟨its,r',pl,hz⟩:=I.list hq
  have hlen:=r'.length
  exact Calls.call_len_list pl.isList (by simp only[List.size_toArray] <;> walk_at"o") ⟨.int ys.length,H,I.tok _,⟨s.toks+1,by rw[List.size_toArray,hlen]⟩,q⟩
 ·obtain⟨its,r',pl,hz⟩:=I.tuple hq
  have hlen:=r'.length
  exact len_tuple pl (by simp only[List.size_toArray] <;> walk_at"o") ⟨.int ys.length,H,I.tok _,⟨s.toks+1,by rw[List.size_toArray,hlen]⟩,q⟩
theorem qw:fF X (.type "list") (fun xs H Q=>∃ p ys,xs=[.ref p]/\(j6 X.K H p ys\/pB X.K H p ys) /\ ∀ l,H l=none->Q (.ref l) (upd H l (.lst ys))):=by
 intro pins s σ H xs us Q I r h
 obtain⟨p,ys,rfl,hq,q⟩:=h
 obtain⟨u,rfl,rx⟩:=yQ r
 cases rx
 have fin:∀ (its:List Value),bA ys its->ys.length<=sizeLine -> ∀ (h':Heap)(c':Nat),(∀ b o',s.heap.get? b=some o'->h'.get? b=some o') ->
   h'.get? s.heap.objs.size=some { cls:=.type "list",dict:=none,data:=.seq its.toArray c',slots:=#[] } -> EP X pins σ Q (.ref s.heap.objs.size) { s with heap:=h' }:=fun its r' hz h' c' kp e =>
  ⟨.ref s.heap.objs.size,_,I.laid (t':=s.toks) kp (Nat.le_refl _) (show fh X.prog X.w _ h' _ (.lst ys) from ⟨hz,its,c',r',e⟩),rfl,q _ (I.hok.fresh (Nat.le_refl _))⟩
 rcases hq with hq|hq
 ·obtain⟨its,r',pl,hz⟩:=I.list hq
  have hlen:=r'.length
  obtain⟨o,ho,hc,n,hd⟩:=pl.isList
  exact call_list_seq p (.inl rfl) ho hc hd (fun h' c' kp e=>fin its r' hz h' c' kp e) (by simp only[List.size_toArray] <;> walk_at"o")
 ·obtain⟨its,r',pl,hz⟩:=I.tuple hq
  have hlen:=r'.length
  obtain⟨o,ho,hc,n,hd⟩:=pl
  exact call_list_seq p (.inr rfl) ho hc hd (fun h' c' kp e=>fin its r' hz h' c' kp e) (by simp only[List.size_toArray] <;> walk_at"o")
def GA(K:W.Frag)(T:String)(x:V)(H:Hp):Prop:=match x with
 | .str _=>T = "str"
 | .int _=>T = "int"
 | .ref p=>(T = "list" /\ ∃ xs,j6 K H p xs)\/(T = "tuple" /\ ∃ o,K.lookup p=some o/\o.cls = .type "tuple" /\ o.dict=none) \/
   (T = "dict" /\ ((∃ kvs,H p=some (.dK kvs)) \/ ∃ kvs,H p=some (.dT kvs)))\/(T = "set" /\ ∃ S n,H p=some (.set S n))
 | _=>False
theorem zR{pins:List (Addr × Obj)}{σ:St}{H:Hp}{s:Shared}{T:String}{x:V}{v:Value}(I:aK X pins σ H s)(r:bX x v)(ty:GA X.K T x H) :
  s.TypeIs v T /\ ∀ a,v = .ref a -> ∃ ob,s.heap.get? a=some ob/\ob.dict=none:=by
 cases x with
 | str z =>
  obtain⟨t,rfl⟩:=r
  cases (show T = "str" from ty)
  exact⟨typeIs_str s z t,fun _ e=>nomatch e⟩
 | int i =>
  obtain⟨t,rfl⟩:=r
  cases (show T = "int" from ty)
  exact⟨typeIs_int s i t,fun _ e=>nomatch e⟩
 | ref p =>
  cases r
  rcases ty with ⟨rfl,xs,hq⟩|⟨rfl,o,hk,hc,hd⟩|⟨rfl,hk⟩|⟨rfl,S,n,hk⟩
  ·obtain⟨its,_,pl,_⟩:=I.list hq
   refine⟨pl.isList.typeIs,fun a e=>?_⟩
   cases e
   obtain⟨o,n,e,c,hd,_⟩:=pl
   exact⟨o,e,hd⟩
  ·refine⟨⟨o,I.kIn p o hk,hc⟩,fun a e=>?_⟩
   cases e
   exact⟨o,I.kIn _ o hk,hd⟩
  ·have z:∃ o,s.heap.get? p=some o/\o.ExactDict:=by
    rcases hk with ⟨kvs,hk⟩|⟨kvs,hk⟩
    ·obtain⟨_,_,_,_,o,_,_,e,ex,_⟩:=I.hok p _ hk
     exact⟨o,e,ex⟩
    ·obtain⟨_,_,_,_,o,_,_,e,ex,_⟩:=I.hok p _ hk
     exact⟨o,e,ex⟩
   obtain⟨o,e,ex⟩:=z
   refine⟨⟨o,e,ex.1⟩,fun a e2=>?_⟩
   cases e2
   exact⟨o,e,ex.2.1⟩
  ·obtain⟨o,_,_,_,e,ex,_⟩:=I.hok p _ hk
   refine⟨⟨o,e,ex.1⟩,fun a e2=>?_⟩
   cases e2
   exact⟨o,e,ex.2.1⟩
 | _=>exact False.elim ty
def EN(K:W.Frag)(T:String)(r:V->List V->Hp->VK->Prop)(to:TE):TE:=fun σ H Q=>to σ H fun x H1=>GA K T x H1/\r x [] H1 Q
def Ho(K:W.Frag)(T:String)(r:V->List V->Hp->VK->Prop)(to:TE)(t:TA):TE:=fun σ H Q=>to σ H fun x H1=>GA K T x H1/\t σ H1 fun xs H2=>r x xs H2 Q
variable {o e:Expr}{es:List Expr}{to:TE}{t:TA}{name:Str}{apos cpos:Pos}{T id:String}{r:V->List V->Hp->VK->Prop}
theorem Ew(pa:PlainAttrs T)(slot:Slot T name id)(hty:typeOf (.builtin id)=pure (.type "method_descriptor")) (hm:GF X id r)(ho:PE X o to)
  (hbase:attributeBase o name X.env (eval o X.env)=eval o X.env:=by rfl)(hline:(apos.endLine == cpos.line)=true:=by rfl):PE X (.Call (.Attribute o name apos) [] [] cpos) (EN X.K T r to):=by
 intro pins s σ H Q I h
 refine wpAny_Call_method0_late hbase hline (cQ (ho pins s σ H _ I h) fun v s1 ⟨x,H1,I1,r1,ty,q1⟩=>?_)
 obtain⟨h1,h2⟩:=zR I1 r1 ty
 exact⟨T,id,pa,slot,hty,h1,h2,Calls.callWith_builtin rfl (PySem.evalArgs_none (hm pins s1 σ H1 x [] v [] Q I1 r1 .nil q1))⟩
theorem F6(pa:PlainAttrs T)(slot:Slot T name id)(hty:typeOf (.builtin id)=pure (.type "method_descriptor")) (hm:GF X id r)(ho:PE X o to)(ha:PA X (e :: es) t)
  (hbase:attributeBase o name X.env (eval o X.env)=eval o X.env:=by rfl)
  (hfew:((backTo cpos (starEach (e :: es) X.env)).all (fun x=>!x.1) && (backToKw cpos (keywordEach [] X.env)).all (fun x=>x.1.isSome)
   && decide ((e :: es).length+([]:List Keyword).length+(if ([]:List Keyword).isEmpty then 0 else 1)<30))=true:=by rfl)
  (hline:(apos.endLine == cpos.line)=true:=by rfl)(hs:starEach (e :: es) X.env=(false,eval e X.env) :: starEach es X.env:=by rfl)(hplain:(backTo cpos (starEach es X.env)).any (·.1)=false:=by rfl) :
  PE X (.Call (.Attribute o name apos) (e :: es) [] cpos) (Ho X.K T r to t):=by
 intro pins s σ H Q I h
 refine wpAny_Call_method_late hbase hfew hline rfl (cQ (ho pins s σ H _ I h) fun v s1 ⟨x,H1,I1,r1,ty,q1⟩=>?_)
 obtain⟨h1,h2⟩:=zR I1 r1 ty
 refine⟨T,id,pa,slot,hty,h1,h2,?_⟩
 have hA:=ha cpos pins s1 σ H1 _ I1 q1
 rw[hs] at hA ⊢
 refine Calls.callWith_builtin (by show (false || (backTo cpos (starEach es X.env)).any (·.1))=false;rw[hplain] <;> rfl) (Calls.evalArgs_plain ?_)
 exact cQ hA fun us s2 ⟨vs,H2,I2,r2,q2⟩=>hm pins s2 σ H2 x vs v us Q I2 r1 r2 q2
end
end L2
namespace L2
open PySem PySem.Spec PyProof.Rows
def GR(X:Cx)(id:String)(r:V->List V->Hp->VK->Prop):Prop :=
 ∀ (pins:List (Addr × Obj))(s:Shared)(σ:St)(H:Hp)(x:V)(xs:List V)(v:Value)(us:List Value)(Q:VK),aK X pins σ H s->bX x v->bA xs us->r x xs H Q ->
  wpAny (model X.prog X.w) X.A (call (.builtin id) (v :: us)) (EP X pins σ Q) X.xe s
theorem bA.one:∀{x:V}{us:List Value},bA [x] us -> ∃ u,us=[u]/\bX x u
 | _,_,.cons r .nil=>⟨_,rfl,r⟩
theorem bA.zero:∀{us:List Value},bA [] us->us=[]
 | _,.nil=>rfl
theorem bA.dropLast{xs:List V}{us:List Value}(h:bA xs us):bA xs.dropLast us.dropLast:=by
 induction h with
 | nil=>exact .nil
 | cons r t ih =>
  cases t with
  | nil=>exact .nil
  | cons q t'=>exact .cons r ih
theorem bA.rep{xs:List V}{us:List Value}(h:bA xs us):∀ k:Nat,bA (List.replicate k xs).flatten (List.replicate k us).flatten
 | 0=>.nil
 | k+1=>by
  rw[List.replicate_succ,List.replicate_succ,List.flatten_cons,List.flatten_cons]
  exact bA.append h (bA.rep h k)
theorem ui{α:Type}(l:List α):l.eraseIdx (l.length - 1)=l.dropLast:=by
 induction l with
 | nil=>rfl
 | cons a r ih =>
  cases r with
  | nil=>rfl
  | cons b r =>
   have e:(a :: b :: r).length - 1=((b :: r).length - 1)+1:=by
    have h1:(a :: b :: r).length=r.length+2:=rfl
    have h2:(b :: r).length=r.length+1:=rfl
    walk_at"o"
   rw[e,List.eraseIdx_cons_succ,ih]
   all_goals rfl
theorem pJ(its:List Value):∀ (k:Nat)(acc:List Value),
  List.foldl (fun x1 x2=>x1 ++ x2) acc.toArray (List.replicate k its.toArray)=(acc ++ (List.replicate k its).flatten).toArray
 | 0,acc=>by simp
 | k+1,acc=>by
  have e:acc.toArray ++ its.toArray=(acc ++ its).toArray:=by simp
  have e2:(acc ++ its) ++ (List.replicate k its).flatten=acc ++ (List.replicate (k+1) its).flatten:=by
   rw[List.replicate_succ,List.flatten_cons,List.append_assoc]
  rw[<- e2,<- pJ its k (acc ++ its),<- e,List.replicate_succ,List.foldl_cons]
section
variable {X:Cx}{pins:List (Addr × Obj)}{σ:St}{H:Hp}{s:Shared}{l b:Addr}{xs ys zs:List V}
theorem aK.lset{its its':List Value}{n:Nat}{f:Array Value->Array Value}{t':Nat}(I:aK X pins σ H s)(hH:H l=some (.lst xs))
  (e:s.heap.get? l=some { cls:=.type "list",data:=.seq its.toArray n }) (hf:f its.toArray=its'.toArray)(hv:bA ys its')(hz:ys.length<=sizeLine) :
  aK X pins σ (upd H l (.lst ys)) { s with heap:=s.heap.update l (Obj.mapSeq f),toks:=t' }:=by
 have q:=PySem.IsL.update e f
 rw[hf] at q
 refine I.write (x:=l) (e:=l) (by rw[hH];exact trivial) (.inl rfl) (fun b' u hb hu=>(Heap.get?_update_other s.heap (Obj.mapSeq f) (Ne.symm hb)).trans hu) ⟨_,q⟩ ?_
 exact⟨hz,its',_,hv,q⟩
theorem aK.lnew{its:List Value}{t':Nat}(I:aK X pins σ H s)(hv:bA ys its)(hz:ys.length<=sizeLine) :
  aK X pins σ (upd H s.heap.objs.size (.lst ys)) { s with heap:=s.heap.push { cls:=.type "list",data:=.seq its.toArray },toks:=t' } :=
 I.laid (fun _ _ q=>Heap.get?_push_of_some _ q) (Nat.le_refl _) ⟨hz,its,0,hv,Heap.get?_push_size _ rfl⟩
theorem aK.fresh(I:aK X pins σ H s):H s.heap.objs.size=none:=I.hok.fresh (Nat.le_refl _)
theorem aK.lstM(I:aK X pins σ H s)(hH:H l=some (.lst xs)):xs.length<=sizeLine /\ ∃ (its:List Value)(n:Nat),bA xs its/\xs.length=its.length/\s.heap.get? l=some { cls:=.type "list",data:=.seq its.toArray n }:=by
 obtain⟨z,its,n,r,e⟩:=I.hok l _ hH
 exact⟨z,its,n,r,r.length,e⟩
theorem tm{n:Nat}(h:n<=sizeLine):Builtin.List.listTooLong n=false:=by
 unfold Builtin.List.listTooLong
 exact decide_eq_false (by walk_at"o")
end
section
variable {X:Cx}
def Ct:V->List V->Hp->VK->Prop:=fun x vs H Q=>∃ l xs y,x = .ref l/\vs=[y]/\H l=some (.lst xs)/\xs.length<sizeLine/\Q .non (upd H l (.lst (xs ++ [y])))
theorem pN:GR X "list.append" Ct:=by
 intro pins s σ H x vs v us Q I rx rv h
 obtain⟨l,xs,y,rfl,rfl,hH,hz,q⟩:=h
 cases rx
 obtain⟨u,rfl,ru⟩:=rv.one
 obtain⟨z,its,n,r,hl,e⟩:=I.lstM hH
 refine call_meets F.slot_list_append ⟨_,e,rfl⟩ F.entry_list_append (F.args_list_append_2 _ _) (PySem.list_append l its.toArray n u (by rw[List.size_toArray];walk_at"o")) ⟨e,?_⟩
 refine⟨.non,_,I.lset (its':=its ++ [u]) hH e (by simp) (r.append (.cons ru .nil)) ?_,rfl,q⟩
 rw[List.length_append,List.length_singleton]
 walk_at"o"
def G3:V->List V->Hp->VK->Prop:=fun x vs H Q=>∃ l xs y,x = .ref l/\vs=[]/\H l=some (.lst xs)/\xs[xs.length - 1]? = some y/\Q y (upd H l (.lst xs.dropLast))
theorem DP:GR X "list.pop" G3:=by
 intro pins s σ H x vs v us Q I rx rv h
 obtain⟨l,xs,y,rfl,rfl,hH,hy,q⟩:=h
 cases rx
 have hus:=rv.zero
 subst hus
 obtain⟨z,its,n,r,hl,e⟩:=I.lstM hH
 obtain⟨u,hu,ru⟩:=r.get hy
 have hy':its.toArray[its.toArray.size - 1]? = some u:=by
  show its.toArray[its.length - 1]? = some u
  rw[<- Array.getElem?_toList,<- hl]
  exact hu
 refine call_meets F.slot_list_pop ⟨_,e,rfl⟩ F.entry_list_pop (F.args_list_pop_1 _) (MeetsSeq.list_pop_last l its.toArray n u hy' (by rw[List.size_toArray];walk_at"o")) ⟨e,?_⟩
 refine⟨y,_,I.lset (its':=its.dropLast) hH e ?_ r.dropLast ?_,ru,q⟩
 ·show its.toArray.eraseIdxIfInBounds (its.toArray.size - 1)=its.dropLast.toArray
  rw[List.size_toArray,List.eraseIdxIfInBounds_toArray,ui]
 ·rw[List.length_dropLast]
  walk_at"o"
def Hm:R2:=fun x y H Q=>∃ l b xs zs,x = .ref l/\y = .ref b/\H l=some (.lst xs)/\H b=some (.lst zs)/\xs.length+zs.length<=sizeLine /\ ∀ p,H p=none->Q (.ref p) (upd H p (.lst (xs ++ zs)))
theorem FC:eK X (binaryOp .Add) Hm:=by
 intro pins s σ H x y v u Q I rx ry h
 obtain⟨l,b,xs,zs,rfl,rfl,hH,hB,hz,q⟩:=h
 cases rx
 cases ry
 obtain⟨z,its,n,r,hl,e⟩:=I.lstM hH
 obtain⟨z2,its2,n2,r2,hl2,e2⟩:=I.lstM hB
 refine PySem.P.add_list e e2 ?_ (by rw[List.size_toArray,List.size_toArray];walk_at"o")
 have ea:its.toArray ++ its2.toArray=(its ++ its2).toArray:=by simp
 rw[ea]
 exact⟨.ref _,_,I.lnew (t':=s.toks) (r.append r2) (by rw[List.length_append];walk_at"o"),rfl,q _ I.fresh⟩
def G9:R2:=fun x y H Q=>∃ l k xs,x = .ref l/\y = .int k/\H l=some (.lst xs) /\ -(2 ^ 63)<=k/\k<2 ^ 63/\xs.length*k.toNat<=sizeLine /\
 ∀ p,H p=none->Q (.ref p) (upd H p (.lst (List.replicate k.toNat xs).flatten))
theorem CQ{α:Type}(xs:List α)(k:Nat):(List.replicate k xs).flatten.length=k*xs.length:=by
 induction k with
 | zero=>simp
 | succ k ih=>rw[List.replicate_succ,List.flatten_cons,List.length_append,ih,Nat.succ_mul,Nat.add_comm]
theorem DB:eK X (binaryOp .Mult) G9:=by
 intro pins s σ H x y v u Q I rx ry h
 obtain⟨l,k,xs,rfl,rfl,hH,h1,h2,hz,q⟩:=h
 cases rx
 obtain⟨t,rfl⟩:=ry
 obtain⟨z,its,n,r,hl,e⟩:=I.lstM hH
 have hlen:its.toArray.size*k.toNat<=sizeLine:=by rw[List.size_toArray,<- hl];exact hz
 have hcap:¬ its.toArray.size*k.toNat > (2 ^ 63 - 1) / 8:=by
  have:(sizeLine:Nat)<=(2 ^ 63 - 1) / 8:=by decide
  walk_at"o"
 have hfit:¬ (!Builtin.List.listFitsIndex k)=true:=by
  rw[fitsIndex_both h1 h2]
  exact Bool.false_ne_true
 have hlong:¬ Builtin.List.listTooLong (its.toArray.size*k.toNat)=true:=by
  rw[tm hlen]
  exact Bool.false_ne_true
 have hnew:List.foldl (fun x1 x2=>x1 ++ x2) #[] (List.replicate (if its.toArray.isEmpty=true then 0 else k.toNat) its.toArray)=(List.replicate k.toNat its).flatten.toArray:=by
  have f0:∀ m:Nat,List.foldl (fun x1 x2=>x1 ++ x2) #[] (List.replicate m its.toArray)=(List.replicate m its).flatten.toArray:=fun m=>by
   have:=pJ its m []
   rw[List.nil_append] at this
   exact this
  rw[f0]
  cases its with
  | nil=>simp
  | cons a r'=>rw[if_neg (by simp)]
 refine wpAny_binaryOp_repeat_ref (T:="list") (U:="int") (by decide) ⟨_,e,rfl⟩ (fun s'=>typeIs_int s' k t) noFill_list_mul F.fills_int_mul F.slot_int_rmul repeat_list F.slot_int_index.lookup
  (call_meets F.slot_int_rmul (typeIs_int s k t) F.entry_int_rmul (F.args_int_rmul_2 _ _) (int___rmul___int_list k t l its.toArray n)
   ⟨e,rfl,⟨_,e,rfl⟩,call_meets F.slot_list_mul ⟨_,e,rfl⟩ F.entry_list_mul (F.args_list_mul_2 _ _) (AutoListH.list___mul___list_int_3 l its.toArray n k t hfit hcap hlong) ⟨e,?_⟩⟩)
 rw[hnew]
 exact⟨.ref _,_,I.lnew (t':=s.toks) (r.rep k.toNat) (by rw[CQ,Nat.mul_comm];exact hz),rfl,q _ I.fresh⟩
end
section
variable {prog:Program}{w:World}{A:Around}{E:Value->Shared->Prop}{s:Shared}
end
section
variable {X:Cx}
end
end L2
namespace Att
open PySem PySem.W PySem.Calls PyProof.Rows
theorem mM{P:Params}{h:Heap}:∀(ns:List Int)(vs:List Value),WellAll P h vs (ns.map WData.int)->IntsAre vs ns:=by
 intro ns
 induction ns with
 | nil =>
  intro vs w
  rw[List.map_nil] at w
  cases w
  exact .nil
 | cons n ns ih =>
  intro vs w
  rw[List.map_cons] at w
  cases w with
  | cons a b =>
   cases a
   exact .cons _ _ (ih _ b)
theorem xB{l:OpenLaw}{n:Nat}(hn:l.most=some n) {P:Params}{h:Heap}{args:List WData}{vals:List Value}
  (hpre:l.row.toRowW.claim.pre args=true)(hwl:WellAll P h vals args) :
  ∃ a vs ns,vals=[Value.ref a]/\args=[WData.list (ns.map WData.int)]/\h.get? a=some { cls:=.type "list",data:=.seq vs.toArray } /\ IntsAre vs ns/\ns.length<=n:=by
 have hsh:WShape.hasAll [] args [.list .int]=true:=(pre_splitW hpre).1
 have hc:l.pre.holds [] { args:=args } = true:=(pre_splitW hpre).2
 obtain⟨d,r,rfl,h1,h2⟩:=hasAllW_cons hsh
 obtain rfl:=hasAllW_nil h2
 obtain⟨xs,rfl,h3⟩:=hasW_list h1
 obtain⟨ns,rfl⟩:=items_int h3
 have hlen:ns.length<=n:=by
  unfold OpenLaw.pre at hc
  have h4:(WTm.not (.lt (.lit (.int (n:Int))) (.len (.arg 0)))).holds [] { args:=[.list (ns.map .int)] } = true:=by
   have h4:=(holds_andW hc).1
   rw[hn] at h4
   exact h4
  have h5:=condW_of h4 (w_not (w_lt w_lit (w_len_list (w_arg rfl))))
  rw[List.length_map] at h5
  refine Nat.le_of_not_lt fun q=>?_
  have q':(n:Int)<((ns.length:Nat):Int):=by walk_at"o"
  first
   | (rw[decide_eq_true q'] at h5;exact absurd h5 (by decide))
   | (simp at h5;walk_at"o")
 cases hwl with
 | cons w1 w2 =>
  cases w2
  cases w1 with
  | list ho hall=>exact⟨_,_,ns,rfl,rfl,ho,mM ns _ hall,hlen⟩
theorem xf(l:OpenLaw)(args:List WData):l.row.toRowW.claim.post args (.bool true) args=true :=
 postW_of (r:=l.row.toRowW) (X:=(true == true))
  (show WShape.has [] (.bool true) .bool=true by first|rfl|decide|simp[WShape.has,WShape.arms,WShape.armsAll])
  (show (WTm.eq .res (.lit (.bool true))).value [] { args:=args,res:=some (.bool true),after:=args } = some (.bool (true == true)) from w_eq_bool (w_res rfl) w_lit) rfl
theorem attach_call{l:OpenLaw}{n:Nat}{q:Program}{loose:List Str}{XP:(Str->Option Value)->Heap->Prop}{YP:World->Heap->Prop}{d:DefRec}
  (hn:l.most=some n)(hdf:d.params.defaults=[])
  (call:∀ (w:World)(s₀ s₁:Shared)(mg mb:Str->Option Value)(fa:Addr)(o:Obj)(pm cd doc:Value)(a:Addr)(vs:List Value)(ns:List Int),
   Ground q loose [] XP w s₀ mg mb s₁.heap->YP w s₁.heap ->
   s₁.heap.get? fa=some o->o.data = .func (docDef d.name d.params d.body d.scope pm cd doc)->s₁.heap.CodeRec cd d.name->mg d.name=some (.ref fa) ->
   s₁.heap.get? a=some { cls:=.type "list",data:=.seq vs.toArray } -> IntsAre vs ns->ns.length<=n->s₁.gens = #[] ->
   codeAny (model l.prog w) callerA (.call (.ref fa) ⟨[.ref a],[]⟩) (fun r s'=>r = .ok (.ret (.bool true))/\OldK s₁.heap s'.heap/\s'.os=s₁.os/\AllBare s'.gens) s₁) :
  WalkO q loose XP YP l.row.toRowW d [] (fun f vs=>PySem.call f vs):=by
 intro w s₀ s₁ mg mb G Y fa o pm cd doc dV kV ho hd hcd hD hmg hg args vals as hpre hlay hrd hwl hlo
 obtain rfl:dV = .none:=Dflts.none hD hdf
 obtain rfl:kV = .none:=Dflts.noKw hD
 obtain⟨a,vs,ns,rfl,rfl,hobj,hints,hlen⟩:=xB hn hpre hwl
 refine enter_call (codeAny_mono (call w s₀ s₁ mg mb fa o pm cd doc a vs ns G Y ho (fd_plain hd) hcd hmg hobj hints hlen hg) fun r s' hq=>?_)
 obtain⟨rfl,h2,h3,h4⟩:=hq
 exact⟨.inl ⟨.bool true,.bool true,[],rfl,fun _=>rfl,.bool true,xf l _,fun _=>⟨List.Pairwise.nil,fun _ hm=>(nomatch hm)⟩⟩,h2,h3,h4⟩
section
variable {prog:Program}{w:World}{A:Around}{E:Value->Shared->Prop}{s:Shared}{K:Frag}
end
end Att
namespace L2
open PySem PySem.Spec PyProof.Rows
theorem pH:∀{vs:List Value}{ns:List Int},IntsAre vs ns->bA (ns.map V.int) vs
 | _,_,.nil=>.nil
 | _,_,.cons n t h=>.cons ⟨t,rfl⟩ (pH h)
end L2
namespace L2
open PySem PySem.Spec PyProof.Rows
end L2
namespace L2
open PySem PySem.Spec PyProof.Rows
def av(s:Stmt):Arguments:=match s with
 | .FunctionDef _ a _ _ _ _ _ _ _ _=>a
 | _=>{ posonlyargs:=[],args:=[],vararg:=none,kwonlyargs:=[],kw_defaults:=[],kwarg:=none,defaults:=[] }
def aq(s:Stmt):List Stmt:=match s with
 | .FunctionDef _ _ b _ _ _ _ _ _ _=>b
 | _=>[]
def ag(s:Stmt):Scope:=match s with
 | .FunctionDef _ _ _ _ _ _ sc _ _ _=>sc
 | _=>{ kind:=.function,names:=[],isGenerator:=false,isCoroutine:=false }
abbrev eI:xg:=fun _ _ _ _ _ _=>False
abbrev E0:XK:=fun _ _ _=>False
theorem FY{X:Cx}:tI eI X E0:=fun _ _ _ _ _ _ _ h=>h.elim
structure eM (K:W.Frag)(x qual:Str)(st:Stmt)(f:Addr)(fd:FuncData):Prop where
 ex:∃ (oc:Value)(od:Option Addr)(kV doc pm:Value)(an:Option Addr)(cdv ct:Value)(osl:Array (Option Value)),
  fd=PySem.W.fnOf x qual (av st) (aq st) (ag st) .none kV doc pm an cdv ct/\K.lookup f=some ⟨oc,od,.func fd,osl⟩/\PySem.W.codeIn K cdv qual=true
 kp:PySem.W.keepIn K (.ref f)=true
section
variable {P:Program}{w:World}{K:W.Frag}{mg:Str->Option Value}{base:Heap}
theorem eM.ok{x qual:Str}{st:Stmt}{f:Addr}{fd:FuncData}{N ps:List Str}{k:Nat}{sp:Sp}(F:eM K x qual st f fd)(S:aw N ps (ag st))(len:∀ vs H Q E,sp vs H Q E->vs.length=ps.length)
  (hbody:∀ (cdv:Value)(A:Around)(outer:List Env)(s:Shared)(H:Hp)(vs:List V)(Q:VK)(E:XK),ge k (A.deeper (envOfC qual (ag st) s.heap.objs.size f cdv))->sp vs H Q E ->
   ∃ t,tH (qE eI P w K mg base N qual (ag st) f cdv A outer s H E).nox (aq st) t/\t { nx:=fun _ H'=>Q .non H',rt:=Q } (start N vs) H):bK P w K mg base eI (k+1) f fd ps sp:=by
 obtain⟨oc,od,kV,doc,pm,an,cdv,ct,osl,rfl,lk,hcd⟩:=F.ex
 refine F4 lk hcd S len fun A outer s H vs Q E hr hsp=>?_
 obtain⟨t,h,q⟩:=hbody cdv A outer s H vs Q E hr hsp
 exact⟨t,h.nox,q⟩
theorem eM.binds{x qual:Str}{st:Stmt}{f:Addr}{fd:FuncData}{ps:List Str}(F:eM K x qual st f fd)
  (h:∀ (kV doc pm:Value)(an:Option Addr)(cdv ct:Value)(us:List Value),us.length=ps.length->bindArgs (PySem.W.fnOf x qual (av st) (aq st) (ag st) .none kV doc pm an cdv ct) ⟨us,[]⟩=pure (ps.zip us)):qi K fd ps []:=by
 obtain⟨oc,od,kV,doc,pm,an,cdv,ct,osl,rfl,lk,hcd⟩:=F.ex
 exact .all (h kV doc pm an cdv ct)
theorem aD{x qual:Str}{st:Stmt}{f:Addr}{oc:Value}{od an:Option Addr}{osl:Array (Option Value)}{kV doc pm cdv ct:Value}(l:K.lookup f=some ⟨oc,od,.func (PySem.W.fnOf x qual (av st) (aq st) (ag st) .none kV doc pm an cdv ct),osl⟩)
  (c:PySem.W.codeIn K cdv qual=true)(k:PySem.W.keepIn K (.ref f)=true):eM K x qual st f (PySem.W.fnOf x qual (av st) (aq st) (ag st) .none kV doc pm an cdv ct):=⟨⟨oc,od,kV,doc,pm,an,cdv,ct,osl,rfl,l,c⟩,k⟩
end
section
variable {X:Cx}
theorem pv(i:Nat){x:Str}{pos:Pos}(hN:X.N[i]? = some x:=by rfl)(hv:Gv X.env.scope x:=by first|exact Or.inl rfl|exact Or.inr (Or.inl rfl)|exact Or.inr (Or.inr rfl))(hd:(x == ("__debug__" : Str))=false:=by decide)
  (hcd:(x == ("__classdict__" : Str))=false:=by decide):PE X (.Name x pos) (CU i):=EY hN hv hd hcd
end
theorem ce{c A B:Prop} [Decidable c] (h1:c->A)(h2:¬ c->B):if c then A else B:=by
 by_cases h:c
 ·rw[if_pos h]
  exact h1 h
 ·rw[if_neg h]
  exact h2 h
def ay(H H':Hp):Prop:=∀ b o,H b=some o->H' b=some o
theorem ay.trans{H H1 H2:Hp}(a:ay H H1)(b:ay H1 H2):ay H H2:=fun c o h=>b c o (a c o h)
theorem ay.free{H H':Hp}(e:ay H H') {l:Addr}(h:H' l=Option.none):H l=Option.none:=by
 cases q:H l with
 | none=>rfl
 | some o =>
  rw[e l o q] at h
  cases h
end L2
namespace L2
open PySem PySem.Spec PyProof.Rows
structure aS (P:Program)(w:World)(K:W.Frag)(mg:Str->Option Value)(base:Heap)(x:Str)(ps:List Str)(k:Nat)(sp:Sp):Prop where
 ex:∃ f fd,bK P w K mg base eI k f fd ps sp/\mg x=some (.ref f)/\PySem.W.keepIn K (.ref f)=true/\qi K fd ps []
section
variable {X:Cx}{x:Str}{p pos:Pos}{e:Expr}{es:List Expr}{t:TA}{ps:List Str}{k:Nat}{sp:Sp}
def Fb(sp:Sp)(t:TA):TE:=fun σ H Q=>t σ H fun vs H1=>sp vs H1 Q E0
theorem En(C:aS X.prog X.w X.K X.mg X.base x ps k sp)(hr:ge k X.A)(hg:Gl X x)(ha:PA X (e :: es) t)(hdb:(x == ("__debug__" : Str))=false:=by decide)
  (he:starEach (e :: es) X.env=(false,eval e X.env) :: starEach es X.env:=by rfl)(hpl:(backTo pos (starEach es X.env)).any (·.1)=false:=by rfl) :
  PE X (.Call (.Name x p) (e :: es) [] pos) (Fb sp t):=by
 obtain⟨f,fd,F,hm,hk,hb⟩:=C.ex
 intro pins s σ H Q I h
 refine Cd (E:=E0) (dvs:=[]) F hr hg hm hk hb .nil FY ha hdb he hpl pins s σ H Q I ?_
 show t σ H fun vs H1=>sp (vs ++ []) H1 Q E0
 have e:(fun (vs:List V) H1=>sp (vs ++ []) H1 Q E0)=fun vs H1=>sp vs H1 Q E0:=by
  funext vs H1
  rw[List.append_nil]
 rw[e]
 exact h
end
section
variable {X:Cx}
theorem CT:eK X (binaryOp .Mult) (rI IntMulOk fun i j=>.int (i*j)):=Gu fun _ _ _ _ _ _ _ hc q=>mul_int q hc
def C7(_ j:Int):Prop:=j ≠ 0/\j.natAbs.log2<9000
theorem nu:eK X (binaryOp .FloorDiv) (rI C7 fun i j=>.int (i.fdiv j)):=Gu fun _ _ _ _ _ _ _ hc q=>floordiv_int hc.1 q (.inl (PyProof.noPylong_of_log2 hc.2))
theorem gr:eK X (binaryOp .Mod) (rI (fun _ j=>j ≠ 0) fun i j=>.int (i.fmod j)):=AW
theorem Ek:eK X (compareOp .Is) (fun x y H Q=>∃ b c,x = .bl b/\y = .bl c/\Q (.bl (b == c)) H):=by
 intro pins s σ H x y v u Q I rx ry h
 obtain⟨b,c,rfl,rfl,q⟩:=h
 cases rx
 cases ry
 exact is_bool ⟨.bl _,H,I,rfl,q⟩
theorem xU:eK X (compareOp .IsNot) (fun x y H Q=>∃ b c,x = .bl b/\y = .bl c/\Q (.bl (b != c)) H):=by
 intro pins s σ H x y v u Q I rx ry h
 obtain⟨b,c,rfl,rfl,q⟩:=h
 cases rx
 cases ry
 exact isnot_bool ⟨.bl _,H,I,rfl,q⟩
end
theorem zH{CX:xg}{P:Program}{w:World}{K:W.Frag}{mg:Str->Option Value}{base:Heap}{N:List Str}{qual:Str}{scope:Scope}{f:Addr}{cd:Value}{A:Around}{outer:List Env}{s:Shared}{H:Hp}{E:XK} :
  (qE CX P w K mg base N qual scope f cd A outer s H E).K=K:=rfl
def xc:List Value->Option (List V)
 | []=>some []
 | u :: us=>match Gw u,xc us with
  | some x,some xs=>some (x :: xs)
  | _,_=>none
theorem pD:∀{us:List Value}{xs:List V},xc us=some xs->bA xs us
 | [],xs,h=>by cases h;exact .nil
 | u :: us,xs,h=>by
  unfold xc at h
  split at h
  ·rename_i x ys e1 e2
   cases h
   refine .cons ?_ (pD e2)
   cases u <;> first|(cases e1;first|exact rfl|exact⟨_,rfl⟩)|cases e1
  ·cases h
def uI(o:Obj):Option HO:=match o.data with
 | .seq its _=>if o.cls = .type "tuple" /\ its.size<=sizeLine then (xc its.toList).map HO.tup else none
 | _=>none
def vw(K:W.Frag)(H:Hp):Hp:=fun a=>match K.lookup a with
 | some o=>uI o
 | none=>H a
theorem zA{o:Obj}{u:HO}(h:uI o=some u):∃ xs,u = .tup xs:=by
 unfold uI at h
 split at h
 ·split at h
  ·cases e:xc _ with
   | none=>rw[e] at h;cases h
   | some xs=>rw[e] at h;cases h;exact⟨xs,rfl⟩
  ·cases h
 ·cases h
theorem eE{K:W.Frag}{H:Hp}{a:Addr}(hk:K.lookup a=none):vw K H a=H a:=by
 unfold vw
 rw[hk]
theorem cY{K:W.Frag}{H:Hp}{a:Addr}{xs:List V}(h:vw K H a=some (.tup xs)):pB K H a xs:=by
 unfold vw at h
 split at h
 ·rename_i o ho
  unfold uI at h
  split at h
  ·rename_i its n hd
   split at h
   ·rename_i hc
    cases e:xc its.toList with
    | none=>rw[e] at h;cases h
    | some ys =>
     rw[e] at h
     cases h
     exact .inr ⟨o,its,n,ho,hc.1,hd,hc.2,pD e⟩
   ·cases h
  ·cases h
 ·exact .of h
theorem rh{K:W.Frag}{H:Hp}{a:Addr}{u:HO}(h:vw K H a=some u)(hu:∀ xs,u ≠ .tup xs):H a=some u:=by
 unfold vw at h
 split at h
 ·obtain⟨xs,rfl⟩:=zA h
  exact absurd rfl (hu xs)
 ·exact h
theorem aF{K:W.Frag}{H:Hp}{a:Addr}{xs:List V}(h:vw K H a=some (.lst xs)):H a=some (.lst xs):=rh h fun _ e=>by cases e
theorem ky{K:W.Frag}{H H':Hp}(S:ay H H'):ay (vw K H) (vw K H'):=fun b o e=>by
 unfold vw at e ⊢
 split at e
 ·exact e
 ·exact S _ _ e
def iT(l:Addr)(H H':Hp):Prop:=∀ b o,b ≠ l->H b=some o->H' b=some o
theorem yu{K:W.Frag}{l:Addr}{H H':Hp}(S:iT l H H'):iT l (vw K H) (vw K H'):=fun b o hb e=>by
 unfold vw at e ⊢
 split at e
 ·exact e
 ·exact S _ _ hb e
theorem aK.noK{X:Cx}{pins:List (Addr × Obj)}{σ:St}{H:Hp}{s:Shared}{p:Addr}{o:HO}(I:aK X pins σ H s)(h:H p=some o):X.K.lookup p=none:=by
 cases e:X.K.lookup p with
 | none=>rfl
 | some ob =>
  have:=(I.bs p ob (I.mod.kin p ob e)).2
  rw[h] at this
  cases this
theorem aK.newK{X:Cx}{pins:List (Addr × Obj)}{σ:St}{H:Hp}{s:Shared}{p:Addr}(I:aK X pins σ H s)(hp:s.heap.objs.size<=p):X.K.lookup p=none:=by
 cases e:X.K.lookup p with
 | none=>rfl
 | some o=>exact absurd (Nat.lt_of_lt_of_le (Heap.lt_size (I.kIn p o e)) hp) (Nat.lt_irrefl _)
def Kf(K:W.Frag)(v:V)(H:Hp):Prop:=∀ p o,v = .ref p->H p=some o->K.lookup p=none
section
variable {X:Cx}
theorem eK.kf{f:Value->Value->Sem Value}{r:R2}(h:eK X f r):eK X f (fun x y H Q=>r x y H fun v H'=>Kf X.K v H'->Q v H'):=fun pins s σ H x y v u Q I rx ry q =>
 cQ (h pins s σ H x y v u _ I rx ry q) fun u' s' ⟨v',H',I',r',q'⟩=>⟨v',H',I',r',q' fun p o _ hp=>I'.noK hp⟩
theorem fF.kf{f:Value}{r:List V->Hp->VK->Prop}(h:fF X f r):fF X f (fun xs H Q=>r xs H fun v H'=>Kf X.K v H'->Q v H'):=fun pins s σ H xs us Q I rs q =>
 cQ (h pins s σ H xs us _ I rs q) fun u' s' ⟨v',H',I',r',q'⟩=>⟨v',H',I',r',q' fun p o _ hp=>I'.noK hp⟩
theorem xz.kf{r:V->Option Int->Option Int->Hp->VK->Prop}(h:xz X r):xz X (fun x a b H Q=>r x a b H fun v H'=>Kf X.K v H'->Q v H'):=by
 intro pins s σ H x v vl vu lo hi sl Q I rx hs pl pu q
 obtain⟨T,id,e1,e2,e3⟩:=h pins s σ H x v vl vu lo hi sl _ I rx hs pl pu q
 exact⟨T,id,e1,e2,cQ e3 fun u' s' ⟨v',H',I',r',q'⟩=>⟨v',H',I',r',q' fun p o _ hp=>I'.noK hp⟩⟩
end
theorem ay.upd{H:Hp}{p:Addr}{o:HO}(hp:H p=none):ay H (upd H p o):=fun b u e=>by
 rw[cm (aj e hp)]
 exact e
theorem iT.upd{H:Hp}{l:Addr}{o:HO}:iT l H (upd H l o):=fun b u hb e=>by
 rw[cm hb]
 exact e
theorem ay.but{H H':Hp}(h:ay H H')(l:Addr):iT l H H':=fun b o _ e=>h b o e
theorem iT.trans{l:Addr}{H H1 H2:Hp}(a:iT l H H1)(b:iT l H1 H2):iT l H H2:=fun c o hc h=>b c o hc (a c o hc h)
def FH(H:Hp):V->Option String
 | .non=>some "NoneType"
 | .bl _=>some "bool"
 | .int _=>some "int"
 | .str _=>some "str"
 | .ref a=>match H a with
  | some (.lst _)=>some "list"
  | some (.frz _ (.lst _))=>some "list"
  | some (.tup _)=>some "tuple"
  | some (.dK _)=>some "dict"
  | _=>none
 | _=>none
def iQ(n c:String):Bool:=n == c || (n == "bool" && c == "int")
def Ei(n:String):Prop:=n = "NoneType" \/ n = "bool" \/ n = "int" \/ n = "str" \/ n = "list" \/ n = "tuple" \/ n = "dict"
def pR(c:String):Prop:=c = "bool" \/ c = "int" \/ c = "list" \/ c = "tuple" \/ c = "str" \/ c = "dict"
theorem eY{K:W.Frag}{n c:String}(hn:Ei n)(hc:pR c):PySem.W.kitOne K (.type n) (.type c)=some (iQ n c):=by
 rcases hn with rfl|rfl|rfl|rfl|rfl|rfl|rfl <;> rcases hc with rfl|rfl|rfl|rfl|rfl|rfl <;> rfl
section
variable {X:Cx}
theorem fj:fF X (.builtin "isinstance") (fun xs H Q=>∃ x c n,xs=[x,.ty c]/\pR c/\FH (vw X.K H) x=some n/\Q (.bl (iQ n c)) H):=by
 intro pins s σ H xs us Q I r h
 obtain⟨x,c,n,rfl,hc,hn,q⟩:=h
 obtain⟨u,w',rfl,rx,ry⟩:=y8 r
 cases ry
 have fin:∀ tk,EP X pins σ Q (.bool (iQ n c)) { s with toks:=tk }:=fun tk=>⟨.bl _,H,I.tok tk,rfl,q⟩
 cases x with
 | non=>cases hn;exact fN I rx .non (eY (.inl rfl) hc) fin
 | bl b=>cases hn;exact fN I rx (.bl b) (eY (.inr (.inl rfl)) hc) fin
 | int b=>cases hn;exact fN I rx (.int b) (eY (.inr (.inr (.inl rfl))) hc) fin
 | str b=>cases hn;exact fN I rx (.str b) (eY (.inr (.inr (.inr (.inl rfl)))) hc) fin
 | flt b=>cases hn
 | byt b=>cases hn
 | ty b=>cases hn
 | ref a =>
  unfold FH at hn
  dsimp only at hn
  split at hn
  ·rename_i e;cases hn;exact fN I rx (.lst (aF e)) (eY (.inr (.inr (.inr (.inr (.inl rfl))))) hc) fin
  ·rename_i e;cases hn;exact fN I rx (.frz (rh e fun _ z=>by cases z)) (eY (.inr (.inr (.inr (.inr (.inl rfl))))) hc) fin
  ·rename_i ys e
   cases hn
   cases (show u=Value.ref a from rx)
   obtain⟨its,rv,p,hz⟩:=I.tuple (cY e)
   obtain⟨o,h1,h2,_⟩:=p
   exact PySem.W.kia_one PySem.W.kitx_tuple I.kIn ⟨o,h1,h2⟩ (eY (.inr (.inr (.inr (.inr (.inr (.inl rfl)))))) hc) (fun z=>nomatch z) fin
  ·rename_i e;cases hn;exact fN I rx (.dK (rh e fun _ z=>by cases z)) (eY (.inr (.inr (.inr (.inr (.inr (.inr rfl)))))) hc) fin
  ·cases hn
end
theorem CK:pR "int":=.inr (.inl rfl)
theorem Al:pR "bool":=.inl rfl
theorem Aw:pR "list":=.inr (.inr (.inl rfl))
theorem xu:pR "tuple":=.inr (.inr (.inr (.inl rfl)))
theorem tN:bootBuiltins "abs" = some (.builtin "abs"):=by decide +kernel
theorem aV:bootBuiltins "len" = some (.builtin "len"):=by decide +kernel
theorem dA:bootBuiltins "isinstance" = some (.builtin "isinstance"):=by decide +kernel
theorem zb:bootBuiltins "max" = some (.builtin "max"):=by decide +kernel
theorem DG:bootBuiltins "min" = some (.builtin "min"):=by decide +kernel
theorem DY:bootBuiltins "int" = some (.type "int"):=by decide +kernel
theorem Bi:bootBuiltins "bool" = some (.type "bool"):=by decide +kernel
theorem gR:bootBuiltins "list" = some (.type "list"):=by decide +kernel
theorem oh:bootBuiltins "tuple" = some (.type "tuple"):=by decide +kernel
theorem rC:bootBuiltins "enumerate" = some (.type "enumerate"):=by decide +kernel
theorem DV:bootBuiltins "zip" = some (.type "zip"):=by decide +kernel
section
variable {X:Cx}
theorem uX.imp{r r':R2}(h:uX X r)(hi:∀ x y H Q,r' x y H Q->r x y H Q):uX X r':=fun v sl pins s σ H x y vv u Q I rx ry q hs=>h v sl pins s σ H x y vv u Q I rx ry (hi _ _ _ _ q) hs
theorem fF.imp{f:Value}{r r':List V->Hp->VK->Prop}(h:fF X f r)(hi:∀ xs H Q,r' xs H Q->r xs H Q):fF X f r':=fun pins s σ H xs us Q I rs q=>h pins s σ H xs us Q I rs (hi _ _ _ q)
def xG(K:W.Frag):R2:=fun x y H Q=>∃ p i,x = .ref p/\y = .int i /\ ∃ xs,vw K H p=some (.lst xs) /\ ∃ v,mL xs i=some v/\Q v H
def yD(K:W.Frag):R2:=fun x y H Q=>∃ p i,x = .ref p/\y = .int i /\ ∃ xs,vw K H p=some (.tup xs) /\ ∃ v,mL xs i=some v/\Q v H
theorem dL:uX X (xG X.K):=wK.imp fun _ _ _ _ ⟨p,i,e1,e2,xs,e3,v,e4,q⟩=>⟨p,xs,i,v,e1,e2,.of (aF e3),e4,q⟩
theorem b9:uX X (yD X.K):=Ea.imp fun _ _ _ _ ⟨p,i,e1,e2,xs,e3,v,e4,q⟩=>⟨p,xs,i,v,e1,e2,cY e3,e4,q⟩
def fz(H:Hp)(p:Addr):Option Nat:=match H p with
 | some (.lst xs)=>some xs.length
 | some (.frz _ (.lst xs))=>some xs.length
 | some (.tup xs)=>some xs.length
 | _=>none
theorem aB:fF X (.builtin "len") (fun xs H Q=>∃ p,xs=[.ref p] /\ ∃ n:Nat,fz (vw X.K H) p=some n/\Q (.int n) H):=iA.imp fun xs H Q ⟨p,e,n,hn,q⟩=>by
 unfold fz at hn
 split at hn
 ·rename_i ys hp
  cases hn
  exact⟨p,ys,e,.inl (.of (aF hp)),q⟩
 ·rename_i o ys hp
  cases hn
  exact⟨p,ys,e,.inl (.inl (.inr ⟨o,rh hp fun _ z=>by cases z⟩)),q⟩
 ·rename_i ys hp
  cases hn
  exact⟨p,ys,e,.inr (cY hp),q⟩
 ·cases hn
def i6(K:W.Frag)(n:Nat)(t:yh):TG:=fun v σ H Q=>∃ a,v = .ref a /\ ∃ xs,vw K H a=some (.tup xs)/\xs.length=n/\t xs σ H Q
theorem A9{es:List Expr}{k:Nat}{t:yh}{n:Nat}{pos:Pos}(hc:X.calm=true)(h:FK X es t)
  (hn:(assignEach es X.env).length=n:=by rfl)(hst:(assignEach es X.env).findIdx? (·.1)=none:=by rfl):PG X (.Tuple es k pos) (i6 X.K n t) :=
 fun pins s σ H v u Q I r ⟨a,e,xs,hx,hl,q⟩=>Ey hc h hn hst pins s σ H v u Q I r ⟨a,xs,e,cY hx,hl,q⟩
theorem dJ{α:Type}{x:α}{xs:List α}:mL (x :: xs) 0=some x:=dj (j:=0) rfl
theorem gm{α:Type}{x y:α}{xs:List α}:mL (x :: y :: xs) 1=some y:=dj (j:=1) rfl
theorem Do{α:Type}{x y z:α}{xs:List α}:mL (x :: y :: z :: xs) 2=some z:=dj (j:=2) rfl
theorem u8{α:Type}{xs:List α}{r:Int}(h0:0<=r)(h1:r<xs.length):∃ v,mL xs r=some v/\v ∈ xs:=by
 have h2:r.toNat<xs.length:=by walk_at"o"
 refine⟨xs[r.toNat],?_,List.getElem_mem h2⟩
 have e:=dj (xs:=xs) (j:=r.toNat) (v:=xs[r.toNat]) (List.getElem?_eq_getElem h2)
 rw[show ((r.toNat:Nat):Int)=r by walk_at"o"] at e
 exact e
theorem ay.but_trans{H H1 H2:Hp}{st:Addr}(s:ay H H1)(hn:H st=none)(b:iT st H1 H2):ay H H2:=fun c o e=>b c o (aj e hn) (s c o e)
theorem iT.same_trans{H H1 H2:Hp}{st:Addr}(b:iT st H H1)(s:ay H1 H2):iT st H H2:=b.trans (s.but st)
theorem CS:tR 2 0=some 0:=rfl
theorem Bf{K:W.Frag}{b k:Bool}{H:Hp}:rJ K (.bl b) H k=(k=b):=rfl
theorem yF{K:W.Frag}{i:Int}{k:Bool}{H:Hp}:rJ K (.int i) H k=(k=(i != 0)):=rfl
theorem vt{i j:Int}(h:0<=j/\j<=1000000/\i.natAbs<2 ^ 64):F7 i j:=h
end
def Nw(K:W.Frag)(H:Hp)(o:HO)(Q:VK):Prop:=∀ p H2,vw K H p=none->ay (vw K H) (vw K H2)->vw K H2 p=some o->Q (.ref p) H2
theorem Nw.ok{K:W.Frag}{H:Hp}{o:HO}{Q:VK}(h:Nw K H o Q) {p:Addr}(hk:K.lookup p=none)(hp:H p=none):Q (.ref p) (upd H p o) :=
 h p _ (by rw[eE hk];exact hp) (ky (ay.upd hp)) (by rw[eE hk];exact cJ)
theorem Nw.al{K:W.Frag}{H:Hp}{o:HO}{Q:VK}(h:Nw K H o Q):∀ p,H p=none->Kf K (.ref p) (upd H p o)->Q (.ref p) (upd H p o):=fun p hp hk=>h.ok (hk p _ rfl cJ) hp
def wI(K:W.Frag)(t:TA):TE:=fun σ H Q=>t σ H fun xs H1=>xs.length<=sizeLine/\Nw K H1 (.tup xs) Q
def y9(K:W.Frag)(t:TA):TE:=fun σ H Q=>t σ H fun xs H1=>xs.length<=sizeLine/\Nw K H1 (.lst xs) Q
def GC(K:W.Frag):TE:=fun _ H Q=>Nw K H (.dK []) Q
section
variable {X:Cx}{es:List Expr}{t:TA}{pos:Pos}
theorem BA {x1}(h:PA X es t):PE X (.Tuple es x1 pos) (wI X.K t):=by
 intro pins s σ H Q I hq
 refine wpAny_Tuple_spliced (cQ (h pos pins s σ H _ I hq) fun us s1 ⟨xs,H1,I1,r,z,q⟩=>⟨by rw[<- r.length];exact z,?_⟩)
 have hf:H1 s1.heap.objs.size=none:=I1.hok.fresh (Nat.le_refl _)
 refine⟨.ref s1.heap.objs.size,upd H1 s1.heap.objs.size (.tup xs),I1.laid (t':=s1.toks) (fun b u e=>Heap.get?_push_of_some _ e) (Nat.le_refl _) ?_,rfl,q.ok (I1.newK (Nat.le_refl _)) hf⟩
 exact⟨z,us,r,⟨_,Heap.get?_push_size _ rfl,rfl,_,rfl⟩⟩
theorem Cg(h:PA X es t):PE X (.List es pos) (y9 X.K t):=by
 intro pins s σ H Q I hq
 refine wpAny_List_spliced (cQ (h pos pins s σ H _ I hq) fun us s1 ⟨xs,H1,I1,r,z,q⟩=>⟨by rw[<- r.length];exact z,?_⟩)
 have hf:H1 s1.heap.objs.size=none:=I1.hok.fresh (Nat.le_refl _)
 refine⟨.ref s1.heap.objs.size,upd H1 s1.heap.objs.size (.lst xs),I1.laid (t':=s1.toks) (fun b u e=>Heap.get?_push_of_some _ e) (Nat.le_refl _) ?_,rfl,q.ok (I1.newK (Nat.le_refl _)) hf⟩
 exact⟨z,us,0,r,Heap.get?_push_size _ rfl⟩
theorem eK.imp{f:Value->Value->Sem Value}{r r':R2}(h:eK X f r)(hi:∀ x y H Q,r' x y H Q->r x y H Q):eK X f r':=fun pins s σ H x y v u Q I rx ry q=>h pins s σ H x y v u Q I rx ry (hi _ _ _ _ q)
def wA(K:W.Frag):R2:=fun x y H Q=>∃ l b,x = .ref l/\y = .ref b /\ ∃ xs,vw K H l=some (.lst xs) /\ ∃ zs,vw K H b=some (.lst zs)/\xs.length+zs.length<=sizeLine/\Nw K H (.lst (xs ++ zs)) Q
theorem CG:eK X (binaryOp .Add) (wA X.K):=FC.kf.imp fun _ _ _ _ ⟨l,b,e1,e2,xs,h1,zs,h2,z,q⟩=>⟨l,b,xs,zs,e1,e2,aF h1,aF h2,z,q.al⟩
def wG(K:W.Frag):R2:=fun x y H Q=>∃ l k,x = .ref l/\y = .int k /\ ∃ xs,vw K H l=some (.lst xs) /\ -(2 ^ 63)<=k/\k<2 ^ 63/\xs.length*k.toNat<=sizeLine/\Nw K H (.lst (List.replicate k.toNat xs).flatten) Q
theorem BB:eK X (binaryOp .Mult) (wG X.K):=DB.kf.imp fun _ _ _ _ ⟨l,k,e1,e2,xs,h1,z1,z2,z3,q⟩=>⟨l,k,xs,e1,e2,aF h1,z1,z2,z3,q.al⟩
def gK(K:W.Frag):R2:=fun x y H Q=>rI IntMulOk (fun i j=>.int (i*j)) x y H Q\/wG K x y H Q
def jk(K:W.Frag):R2:=fun x y H Q=>vN (fun i j=>.int (i+j)) x y H Q\/wA K x y H Q
theorem aH:eK X (binaryOp .Mult) (gK X.K):=CT.or BB
theorem cb:eK X (binaryOp .Add) (jk X.K):=Dz.or CG
theorem gE{K:W.Frag}{i j:Int}{H:Hp}{Q:VK}:gK K (.int i) (.int j) H Q=(IntMulOk i j/\Q (.int (i*j)) H):=by
 simp[gK,rI,wG]
theorem ki{K:W.Frag}{l:Addr}{j:Int}{H:Hp}{Q:VK}:gK K (.ref l) (.int j) H Q = ∃ xs,vw K H l=some (.lst xs) /\ -(2 ^ 63)<=j/\j<2 ^ 63/\xs.length*j.toNat<=sizeLine/\Nw K H (.lst (List.replicate j.toNat xs).flatten) Q:=by
 simp[gK,rI,wG]
theorem ql{K:W.Frag}{i j:Int}{H:Hp}{Q:VK}:jk K (.int i) (.int j) H Q=Q (.int (i+j)) H:=by
 simp[jk,vN,wA]
theorem jE{K:W.Frag}{l b:Addr}{H:Hp}{Q:VK}:jk K (.ref l) (.ref b) H Q = ∃ xs,vw K H l=some (.lst xs) /\ ∃ zs,vw K H b=some (.lst zs)/\xs.length+zs.length<=sizeLine/\Nw K H (.lst (xs ++ zs)) Q:=by
 simp[jk,vN,wA]
theorem eV:fF X (.type "list") (fun xs H Q=>∃ p,xs=[.ref p] /\ ∃ ys,vw X.K H p=some (.lst ys)/\Nw X.K H (.lst ys) Q):=qw.kf.imp fun _ _ _ ⟨p,e,ys,h,q⟩=>⟨p,ys,e,.inl (.of (aF h)),q.al⟩
theorem xz.imp{r r':V->Option Int->Option Int->Hp->VK->Prop}(h:xz X r)(hi:∀ x a b H Q,r' x a b H Q->r x a b H Q):xz X r':=by
 intro value p2 pins s σ H x lo hi' v vl vh sl Q
 intros
 apply h <;> first|assumption|(apply hi;assumption)
def Eb(K:W.Frag):V->Option Int->Option Int->Hp->VK->Prop:=fun x lo hi H Q=>∃ a,x = .ref a /\ ∃ xs,vw K H a=some (.lst xs)/\Nw K H (.lst (gu xs lo hi)) Q
theorem fB:xz X (Eb X.K):=Bn.kf.imp fun _ _ _ _ _ ⟨a,e,xs,h,q⟩=>⟨a,xs,e,.of (aF h),q.al⟩
def C9(K:W.Frag)(H:Hp)(l:Addr)(o:HO)(Q:Hp->Prop):Prop:=∀ H2,iT l (vw K H) (vw K H2)->vw K H2 l=some o->Q H2
theorem C9.ok{K:W.Frag}{H:Hp}{l:Addr}{o:HO}{Q:Hp->Prop}(h:C9 K H l o Q)(hk:K.lookup l=none):Q (upd H l o):=h _ (yu iT.upd) (by rw[eE hk];exact cJ)
def zK(K:W.Frag):V->V->V->Hp->(Hp->Prop)->Prop:=fun o i v H Q=>∃ p k,o = .ref p/\i = .int k /\ ∃ xs,vw K H p=some (.lst xs) /\ ∃ j,tR xs.length k=some j/\C9 K H p (.lst (xs.set j v)) Q
theorem fb:xI X (zK X.K):=fun pins s σ H o i v ov iv u Q I ro ri rv ⟨p,k,e1,e2,xs,h,j,e3,q⟩=>Av pins s σ H o i v ov iv u Q I ro ri rv ⟨p,xs,k,j,e1,e2,aF h,e3,q.ok (I.noK (aF h))⟩
def zG(K:W.Frag):V->List V->Hp->VK->Prop:=fun x vs H Q=>∃ l y,x = .ref l/\vs=[y] /\ ∃ xs,vw K H l=some (.lst xs)/\xs.length<sizeLine/\C9 K H l (.lst (xs ++ [y])) (Q .non)
theorem fR:GR X "list.append" (zG X.K):=fun pins s σ H x vs v us Q I rx rv ⟨l,y,e1,e2,xs,h,z,q⟩=>pN pins s σ H x vs v us Q I rx rv ⟨l,xs,y,e1,e2,aF h,z,q.ok (I.noK (aF h))⟩
def C2(K:W.Frag):V->List V->Hp->VK->Prop:=fun x vs H Q=>∃ l,x = .ref l/\vs=[] /\ ∃ xs,vw K H l=some (.lst xs) /\ ∃ y,xs[xs.length - 1]? = some y/\C9 K H l (.lst xs.dropLast) (Q y)
theorem Cq:GR X "list.pop" (C2 X.K):=fun pins s σ H x vs v us Q I rx rv ⟨l,e1,e2,xs,h,y,e3,q⟩=>DP pins s σ H x vs v us Q I rx rv ⟨l,xs,y,e1,e2,aF h,e3,q.ok (I.noK (aF h))⟩
end
def vo(J:It)(g:TG)(tb:TS)(D:mH)(σ:St)(H1:Hp):Prop:=∃ W:Nat->Nat->St->Hp->Prop,(∃ m,W 0 m σ H1) /\ ∀ i m σ H,W i m σ H ->
 (J.stop i H/\D.nx σ H)\/(J.go i H /\ ∃ N:St->Hp->Prop,(∀ σ' H',N σ' H' -> ∃ m',m'<m/\W (i+1) m' σ' H') /\ ∀ x H',J.yld i H x H'->g x σ H' fun σ2 H2=>tb { D with nx:=N,ct:=N,bk:=D.nx } σ2 H2)
theorem Bz(wi:TI)(g:TG)(tb:TS)(D:mH)(σ:St)(H:Hp):EK wi g tb D σ H=wi σ H fun J H1=>vo J g tb D σ H1:=rfl
end L2
namespace L2
open PySem PySem.Spec PyProof.Rows
inductive D where
 | non|bl (b:Bool)|int (i:Int)|str (x:Str)|dict|tup (ds:List D)|lst (ds:List D)
mutual
def aJ(H:Hp):D->V->Prop
 | .non,v=>v = .non
 | .bl b,v=>v = .bl b
 | .int i,v=>v = .int i
 | .str x,v=>v = .str x
 | .dict,v=>∃ a kvs,v = .ref a/\H a=some (.dK kvs)
 | .tup ds,v=>∃ a xs,v = .ref a/\H a=some (.tup xs)/\aE H ds xs
 | .lst ds,v=>∃ a xs,v = .ref a/\H a=some (.lst xs)/\aE H ds xs
def aE(H:Hp):List D->List V->Prop
 | [],xs=>xs=[]
 | d :: ds,xs=>∃ x r,xs=x :: r/\aJ H d x/\aE H ds r
end
mutual
theorem aJ.same{H H':Hp}(S:ay H H'):∀ (d:D)(v:V),aJ H d v->aJ H' d v
 | .non,v,h=>by unfold aJ at h ⊢;exact h
 | .bl b,v,h=>by unfold aJ at h ⊢;exact h
 | .int i,v,h=>by unfold aJ at h ⊢;exact h
 | .str x,v,h=>by unfold aJ at h ⊢;exact h
 | .dict,v,h=>by
  unfold aJ at h ⊢
  obtain⟨a,kvs,e,h⟩:=h
  exact⟨a,kvs,e,S _ _ h⟩
 | .tup ds,v,h=>by
  unfold aJ at h ⊢
  obtain⟨a,xs,e,h,r⟩:=h
  exact⟨a,xs,e,S _ _ h,aE.same S ds xs r⟩
 | .lst ds,v,h=>by
  unfold aJ at h ⊢
  obtain⟨a,xs,e,h,r⟩:=h
  exact⟨a,xs,e,S _ _ h,aE.same S ds xs r⟩
theorem aE.same{H H':Hp}(S:ay H H'):∀ (ds:List D)(xs:List V),aE H ds xs->aE H' ds xs
 | [],xs,h=>by unfold aE at h ⊢;exact h
 | d :: ds,xs,h=>by
  unfold aE at h ⊢
  obtain⟨x,r,e,h1,h2⟩:=h
  exact⟨x,r,e,aJ.same S d x h1,aE.same S ds r h2⟩
end
theorem aE.get{H:Hp}:∀{ds:List D}{xs:List V}{i:Nat}{x:V},aE H ds xs->xs[i]? = some x -> ∃ d,ds[i]? = some d/\aJ H d x
 | [],xs,i,x,h,e=>by
  unfold aE at h
  subst h
  simp at e
 | d :: ds,xs,i,x,h,e=>by
  unfold aE at h
  obtain⟨y,r,rfl,h1,h2⟩:=h
  cases i with
  | zero =>
   have e':y=x:=by simpa using e
   subst e'
   exact⟨d,by simp,h1⟩
  | succ i =>
   obtain⟨d',e1,e2⟩:=aE.get (i:=i) h2 (by simpa using e)
   exact⟨d',by simpa using e1,e2⟩
theorem aE.length{H:Hp}:∀{ds:List D}{xs:List V},aE H ds xs->xs.length=ds.length
 | [],xs,h=>by
  unfold aE at h
  subst h
  rfl
 | d :: ds,xs,h=>by
  unfold aE at h
  obtain⟨y,r,rfl,_,h2⟩:=h
  simp[aE.length h2]
def D.ty:D->String
 | .non=>"NoneType" | .bl _=>"bool" | .int _=>"int" | .str _=>"str" | .dict=>"dict" | .tup _=>"tuple" | .lst _=>"list"
theorem aJ.ty{H:Hp}{d:D}{v:V}(h:aJ H d v):FH H v=some d.ty:=by
 cases d <;> unfold aJ at h
 ·subst h;rfl
 ·subst h;rfl
 ·subst h;rfl
 ·subst h;rfl
 ·obtain⟨a,kvs,rfl,h⟩:=h
  simp only[FH,h,D.ty]
 ·obtain⟨a,xs,rfl,h,_⟩:=h
  simp only[FH,h,D.ty]
 ·obtain⟨a,xs,rfl,h,_⟩:=h
  simp only[FH,h,D.ty]
theorem sr(a b:Int):Int.gcd b (a.fmod b)=Int.gcd a b:=by
 rw[Int.fmod_def,Int.gcd_comm a b]
 have:a - b*a.fdiv b=a+b*(- a.fdiv b):=by rw[Int.mul_neg];walk_at"o"
 rw[this]
 simp
theorem vB(a:Int){b:Int}(hb:b ≠ 0):(a.fmod b).natAbs<b.natAbs:=by
 rcases Int.lt_or_gt_of_ne hb with h|h
 ·obtain⟨n,rfl⟩ : ∃ n:Nat,b=Int.negSucc n:=⟨(-b - 1).toNat,by walk_at"o"⟩
  cases a with
  | ofNat m =>
   cases m with
   | zero=>simp[Int.fmod]
   | succ m =>
    show (Int.subNatNat (m % (n+1)) n).natAbs<n+1
    have:=Nat.mod_lt m (show 0<n+1 by walk_at"o")
    rw[Int.subNatNat_eq_coe]
    generalize m % (n+1)=z at *
    walk_at"o"
  | negSucc m =>
   show (-((((m+1) % (n+1):Nat)):Int)).natAbs<n+1
   have:=Nat.mod_lt (m+1) (show 0<n+1 by walk_at"o")
   generalize (m+1) % (n+1)=z at *
   walk_at"o"
 ·have h1:=Int.fmod_nonneg_of_pos a h
  have h2:=Int.fmod_lt_of_pos a h
  walk_at"o"
def lg(a b:Int):Int:=if b<0 then -(Int.gcd a b:Int) else (Int.gcd a b:Int)
def lo(a b:Int):Int × Int:=(a.fdiv (lg a b),b.fdiv (lg a b))
def fr(q:Int × Int):D:=.tup [.int q.1,.int q.2]
def Fq(q:Int × Int):Prop:=0<q.2/\Int.gcd q.1 q.2=1
theorem zF{a b:Int}(hb:b ≠ 0):lg a b ≠ 0:=by
 have h:Int.gcd a b ≠ 0:=fun e=>hb (Int.gcd_eq_zero_iff.mp e).2
 unfold lg
 split <;> walk_at"o"
theorem tz(a b:Int):lg a b ∣ a:=by
 unfold lg
 split
 ·exact Int.neg_dvd.mpr (Int.gcd_dvd_left ..)
 ·exact Int.gcd_dvd_left ..
theorem rN(a b:Int):lg a b ∣ b:=by
 unfold lg
 split
 ·exact Int.neg_dvd.mpr (Int.gcd_dvd_right ..)
 ·exact Int.gcd_dvd_right ..
theorem eX{a b:Int}(hb:b ≠ 0):(lo a b).1*lg a b=a:=by
 show a.fdiv (lg a b)*lg a b=a
 exact Int.fdiv_mul_cancel (tz a b)
theorem fH{a b:Int}(hb:b ≠ 0):(lo a b).2*lg a b=b:=by
 show b.fdiv (lg a b)*lg a b=b
 exact Int.fdiv_mul_cancel (rN a b)
theorem xq(a b:Int):(lg a b).natAbs=Int.gcd a b:=by
 unfold lg
 split <;> walk_at"o"
theorem ir{a b:Int}(hb:b ≠ 0):Fq (lo a b):=by
 have h1:=eX (a:=a) hb
 have h2:=fH (a:=a) hb
 have hg:0<Int.gcd a b:=Nat.pos_of_ne_zero fun e=>hb (Int.gcd_eq_zero_iff.mp e).2
 constructor
 ·by_cases hn:b<0
  ·have e:lg a b = -(Int.gcd a b:Int):=if_pos hn
   rw[e] at h2
   rcases Int.lt_trichotomy (lo a b).2 0 with h|h|h
   ·have:=Int.mul_nonneg_of_nonpos_of_nonpos (Int.le_of_lt h) (show -(Int.gcd a b:Int)<=0 by walk_at"o")
    walk_at"o"
   ·rw[h] at h2;walk_at"o"
   ·exact h
  ·have e:lg a b=(Int.gcd a b:Int):=if_neg hn
   rw[e] at h2
   rcases Int.lt_trichotomy (lo a b).2 0 with h|h|h
   ·have:=Int.mul_nonpos_of_nonpos_of_nonneg (Int.le_of_lt h) (show 0<=(Int.gcd a b:Int) by walk_at"o")
    walk_at"o"
   ·rw[h] at h2;walk_at"o"
   ·exact h
 ·have e:Int.gcd ((lo a b).1*lg a b) ((lo a b).2*lg a b)=Int.gcd (lo a b).1 (lo a b).2*(lg a b).natAbs:=Int.gcd_mul_right ..
  rw[h1,h2,xq] at e
  have:1*Int.gcd a b=Int.gcd (lo a b).1 (lo a b).2*Int.gcd a b:=by walk_at"o"
  exact (Nat.eq_of_mul_eq_mul_right hg this).symm
mutual
def D.noSt:D->Bool
 | .lst [.int _,.bl _]=>false
 | .lst ds=>D.noSts ds
 | .tup ds=>D.noSts ds
 | _=>true
def D.noSts:List D->Bool
 | []=>true
 | d :: ds=>d.noSt && D.noSts ds
end
def gj(H:Hp)(st:Addr):Prop:=∃ x b,H st=some (.lst [.int x,.bl b])/\(b=false->0<=x/\x<2147483647)
theorem aJ.lst_st{H:Hp}{ds:List D}{x:Int}{b:Bool}(h:aE H ds [.int x,.bl b]):ds=[.int x,.bl b]:=by
 match ds with
 | []=>unfold aE at h;cases h
 | [d] =>
  unfold aE at h
  obtain⟨_,_,e,_,h⟩:=h
  unfold aE at h
  subst h
  cases e
 | d1 :: d2 :: d3 :: r =>
  have:=aE.length h
  simp at this
 | [d1,d2] =>
  unfold aE at h
  obtain⟨_,_,e,h1,h⟩:=h
  cases e
  unfold aE at h
  obtain⟨_,_,e,h2,h⟩:=h
  cases e
  have e1:d1 = .int x:=by
   cases d1 <;> unfold aJ at h1 <;> first|(cases h1;rfl)|(obtain⟨_,_,e,_⟩:=h1;cases e)|cases h1
  have e2:d2 = .bl b:=by
   cases d2 <;> unfold aJ at h2 <;> first|(cases h2;rfl)|(obtain⟨_,_,e,_⟩:=h2;cases e)|cases h2
  rw[e1,e2]
theorem gj.same{H H':Hp}{st:Addr}(h:gj H st)(S:ay H H'):gj H' st:=by
 obtain⟨x,b,e,k⟩:=h
 exact⟨x,b,S _ _ e,k⟩
theorem gj.ne{H:Hp}{st p:Addr}(h:gj H st)(hp:H p=none):p ≠ st:=by
 obtain⟨x,b,e,k⟩:=h
 exact (aj e hp).symm
def D.isInt:D->Bool
 | .int _=>true
 | _=>false
def D.frac:D->Bool
 | .tup [.int t,.int b]=>decide (0<b) && decide (Int.gcd t b=1)
 | _=>false
theorem frac_fr{q:Int × Int}(h:Fq q):(fr q).frac=true:=by
 simp[fr,D.frac,h.1,h.2]
theorem aJ.tup_at{H:Hp}{ds:List D}{v:V}(h:aJ H (.tup ds) v):∃ a xs,v = .ref a/\H a=some (.tup xs)/\aE H ds xs:=by
 unfold aJ at h
 exact h
theorem aJ.lst_at{H:Hp}{ds:List D}{v:V}(h:aJ H (.lst ds) v):∃ a xs,v = .ref a/\H a=some (.lst xs)/\aE H ds xs:=by
 unfold aJ at h
 exact h
theorem aE.nil_at{H:Hp}{xs:List V}(h:aE H [] xs):xs=[]:=by
 unfold aE at h
 exact h
theorem aE.cons_at{H:Hp}{d:D}{ds:List D}{xs:List V}(h:aE H (d :: ds) xs):∃ x r,xs=x :: r/\aJ H d x/\aE H ds r:=by
 unfold aE at h
 exact h
theorem aJ.int_at{H:Hp}{i:Int}{v:V}(h:aJ H (.int i) v):v = .int i:=by
 unfold aJ at h
 exact h
theorem aE.pair{H:Hp}{ds:List D}{xs:List V}(h:aE H ds xs)(hl:xs.length=2):∃ d1 d2 x1 x2,ds=[d1,d2]/\xs=[x1,x2]/\aJ H d1 x1/\aJ H d2 x2:=by
 have e:=h.length
 match ds,e with
 | [],e=>rw[hl] at e;cases e
 | [_],e=>rw[hl] at e;cases e
 | _ :: _ :: _ :: _,e=>rw[hl] at e;cases e
 | [d1,d2],_ =>
  obtain⟨x1,r,rfl,h1,h⟩:=h.cons_at
  obtain⟨x2,r,rfl,h2,h⟩:=h.cons_at
  cases h.nil_at
  exact⟨_,_,_,_,rfl,rfl,h1,h2⟩
theorem aJ.mk_int{H:Hp}(i:Int):aJ H (.int i) (.int i):=by unfold aJ;rfl
theorem aE.mk_nil{H:Hp}:aE H [] []:=by unfold aE;rfl
theorem aE.mk_cons{H:Hp}{d:D}{ds:List D}{x:V}{xs:List V}(h1:aJ H d x)(h2:aE H ds xs):aE H (d :: ds) (x :: xs):=by unfold aE;exact⟨_,_,rfl,h1,h2⟩
theorem aJ.mk_tup{H:Hp}{a:Addr}{ds:List D}{xs:List V}(h:H a=some (.tup xs))(r:aE H ds xs):aJ H (.tup ds) (.ref a):=by unfold aJ;exact⟨_,_,rfl,h,r⟩
theorem aJ.mk_lst{H:Hp}{a:Addr}{ds:List D}{xs:List V}(h:H a=some (.lst xs))(r:aE H ds xs):aJ H (.lst ds) (.ref a):=by unfold aJ;exact⟨_,_,rfl,h,r⟩
theorem aJ.fr_at{H:Hp}{q:Int × Int}{v:V}(h:aJ H (fr q) v):∃ a,v = .ref a/\H a=some (.tup [.int q.1,.int q.2]):=by
 obtain⟨a,xs,e,ha,r⟩:=h.tup_at
 obtain⟨x1,r1,rfl,h1,r⟩:=r.cons_at
 obtain⟨x2,r2,rfl,h2,r⟩:=r.cons_at
 cases r.nil_at
 rw[h1.int_at,h2.int_at] at ha
 exact⟨a,e,ha⟩
theorem D.frac_tup{ds:List D}(h:(D.tup ds).frac=true):∃ a b,ds=[.int a,.int b]/\Fq (a,b):=by
 unfold D.frac at h
 split at h
 ·rename_i t b e
  cases e
  simp at h
  exact⟨_,_,rfl,h.1,h.2⟩
 ·cases h
abbrev Bt (n:Nat)(x:Int):Prop:=x.natAbs<2 ^ n
theorem Bt.ib{n:Nat}{x:Int}(h:Bt n x):Builtin.Int.intBits x<=n:=by
 unfold Builtin.Int.intBits
 split
 ·exact Nat.zero_le _
 ·rename_i h0
  have h1:x.natAbs ≠ 0:=by
   intro e
   apply h0
   have:x=0:=by walk_at"o"
   rw[this]
   rfl
  have:=(Nat.log2_lt h1).mpr h
  walk_at"o"
theorem bO{m n:Nat}{x y:Int}(hx:Bt m x)(hy:Bt n y)(h:m+n<=134217728:=by decide):IntMulOk x y:=PySem.IntMulOk.of_le hx.ib hy.ib h
theorem Bt.mono{m n:Nat}{x:Int}(hx:Bt m x)(h:m<=n):Bt n x:=Nat.lt_of_lt_of_le hx (Nat.pow_le_pow_right (by decide) h)
theorem Bt.mul{m n:Nat}{x y:Int}(hx:Bt m x)(hy:Bt n y):Bt (m+n) (x*y):=by
 unfold Bt
 rw[Int.natAbs_mul,Nat.pow_add]
 exact Nat.mul_lt_mul'' hx hy
theorem Bt.add{m n:Nat}{x y:Int}(hx:Bt m x)(hy:Bt n y):Bt (max m n+1) (x+y):=by
 have h1:=hx.mono (Nat.le_max_left m n)
 have h2:=hy.mono (Nat.le_max_right m n)
 unfold Bt at *
 rw[Nat.pow_succ]
 have:=Int.natAbs_add_le x y
 walk_at"o"
theorem Bt.sub{m n:Nat}{x y:Int}(hx:Bt m x)(hy:Bt n y):Bt (max m n+1) (x - y):=by
 have h1:=hx.mono (Nat.le_max_left m n)
 have h2:=hy.mono (Nat.le_max_right m n)
 unfold Bt at *
 rw[Nat.pow_succ]
 have:=Int.natAbs_sub_le x y
 walk_at"o"
theorem Fh{x y:Int}(h:y ≠ 0)(hb:Bt 9000 y):C7 x y:=⟨h,by
 by_cases h0:y.natAbs=0
 ·rw[h0];decide +kernel
 ·exact (Nat.log2_lt h0).mpr hb⟩
theorem vU{x k:Int}{n:Nat}(hk:0<k)(h:k.natAbs<=2 ^ n):Bt n (x.fmod k):=by
 have h1:=Int.fmod_nonneg_of_pos x hk
 have h2:=Int.fmod_lt_of_pos x hk
 unfold Bt
 walk_at"o"
theorem jv{x y:Int}(hx:Bt 64 x):IntMulOk x y:=.of_left hx.ib
theorem A5{x y:Int}(hy:Bt 64 y):IntMulOk x y:=.of_right hy.ib
end L2
namespace L2
theorem oU{c A B:Prop} [Decidable c] (hc:c)(h:A):if c then A else B:=by rw[if_pos hc];exact h
theorem io{c A B:Prop} [Decidable c] (hc:¬ c)(h:B):if c then A else B:=by rw[if_neg hc];exact h
end L2
namespace L2
theorem D.isInt_of{d:D}(h:¬ d.isInt=false):∃ i,d = .int i:=by
 cases d <;> first|exact⟨_,rfl⟩|exact absurd rfl h
theorem Cb{t b:Int}(h:b<1):(D.tup [.int t,.int b]).frac=false:=by
 simp only[D.frac,decide_eq_false (show ¬ (0:Int)<b by walk_at"o"),Bool.false_and]
theorem A7{t b:Int}(h:0<b):(D.tup [.int t,.int b]).frac=decide (((Int.gcd t b:Nat):Int)=1):=by
 simp only[D.frac,decide_eq_true h,Bool.true_and]
 apply decide_eq_decide.mpr
 walk_at"o"
end L2
namespace L2
open PySem
def D.len:D->Nat
 | .lst ds=>ds.length
 | _=>0
mutual
def D.ib:D->Bool
 | .int i=>decide (i.natAbs<2 ^ 200)
 | .tup ds=>D.ibs ds
 | .lst ds=>D.ibs ds
 | _=>true
def D.ibs:List D->Bool
 | []=>true
 | d :: ds=>d.ib && D.ibs ds
end
end L2
namespace L2
open PySem PySem.Spec PyProof.Rows
section
variable {prog:Program}{w:World}{A:Around}{R:Result->Shared->Prop}{s:Shared}
theorem qU{elt target iter:Expr}{ifs:List Expr}{scope:Scope}{pos:Pos}{it acc:Value}{env:Env}{EE:Value->Shared->Prop}(hEE:EE=notedBy (model prog w) A env fun e s'=>R (.error e) s')(Iv:Nat->Shared->Prop)
  (turn:∀ n s,Iv n s->wpAny (model prog w) A (pyNext it) (fun r s1=>match r with
   | none=>R (.ok .next) s1
   | some v=>wpAny (model prog w) A (letOwnedTupleGo target it v) (fun _ s2=>wpAny (model prog w) A (assign target env v) (fun _ s3 =>
     wpAny (model prog w) A (forIn ifs true fun c r=>if r=true then do let ok <- isTrue c env (eval c env);pure (ForInStep.yield ok) else pure (ForInStep.yield r)) (fun ok s4 =>
      if ok=true then wpAny (model prog w) A (eval elt env) (fun x s5=>wpAny (model prog w) A (call (.builtin "list.append") [acc,x]) (fun _ s6=>∃ m,m<n/\Iv m s6) EE s5) EE s4
      else ∃ m,m<n/\Iv m s4) EE s3) EE s2) EE s1) EE s)
  (n:Nat)(h:Iv n s):codeAny (model prog w) A (.compLoop (.ListComp elt [⟨target,iter,ifs,0⟩] scope pos) 0 it acc env) R s:=by
 subst hEE
 refine codeAny_loop rfl Iv (fun n s hI=>?_) n h
 show wpAny _ A ((compTurn (.ListComp elt [⟨target,iter,ifs,0⟩] scope pos) 0 it acc env).onRaise (fun x=>do noteFrame x env;theTreesLotGoes x)) _ _ s
 refine wpAny_noted ?_
 rw[compTurn_list]
 refine wpAny_bind (wpAny_standAt (wpAny_bind (wpAny_mono (turn n s hI) (fun r s1 h1=>?_) fun _ _ h'=>h')))
 cases r with
 | none=>exact wpAny_pure h1
 | some v =>
  refine wpAny_bind (wpAny_mono h1 (fun _ s2 h2=>?_) fun _ _ h'=>h')
  refine wpAny_bind (wpAny_mono h2 (fun _ s3 h3=>wpAny_bind (wpAny_mono h3 (fun ok s4 h4=>?_) fun _ _ h'=>h')) fun _ _ h'=>h')
  cases ok with
  | false=>exact wpAny_pure ⟨rfl,h4⟩
  | true=>exact wpAny_bind (wpAny_bind (wpAny_mono h4 (fun x s5 h5=>wpAny_bind (wpAny_mono h5 (fun _ s6 h6=>wpAny_pure (wpAny_pure ⟨rfl,h6⟩)) fun _ _ h'=>h')) fun _ _ h'=>h'))
end
def mx(X:Cx)(scope:Scope)(cl:List (Str × Addr))(N:List Str)(C:Addr)(s:Shared)(H:Hp)(ex:List Addr):Cx :=
 { X with N:=N,s₀:=s,H₀:=H,env:=compEnvC scope cl C X.env,outer:=X.stack,ex:=ex,fn:=fun _=>false,pn:=[],xe:=fun _ _=>False }
def sQ(X:Cx)(scope:Scope)(cl:List (Str × Addr)):List Str->List Nat->Prop
 | [],[]=>True
 | x :: xs,j :: js=>(X.N[j]? = some x /\ X.env.kindOf x = some .cell /\ (relabel scope X.env).names.lookup x = some .cell /\ (∃ c,cl.lookup x = some c)) /\ sQ X scope cl xs js
 | _,_=>False
theorem sQ.length{X:Cx}{scope:Scope}{cl:List (Str × Addr)}:∀ {xs:List Str}{js:List Nat},sQ X scope cl xs js->js.length=xs.length
 | [],[],_=>rfl
 | _ :: _,_ :: _,h=>by simp[sQ.length h.2]
 | [],_ :: _,h=>h.elim
 | _ :: _,[],h=>h.elim
theorem sQ.get{X:Cx}{scope:Scope}{cl:List (Str × Addr)}:∀ {xs:List Str}{js:List Nat}{k j:Nat}{x:Str},sQ X scope cl xs js->xs[k]? = some x->js[k]? = some j ->
  X.N[j]? = some x /\ X.env.kindOf x = some .cell /\ (relabel scope X.env).names.lookup x = some .cell /\ ∃ c,cl.lookup x = some c
 | [],_,_,_,_,_,e,_=>by simp at e
 | _ :: _,[],_,_,_,_,_,e=>by simp at e
 | x :: xs,j :: js,0,_,_,h,e1,e2=>by
  simp at e1 e2
  subst e1
  subst e2
  exact h.1
 | x :: xs,j :: js,k+1,_,_,h,e1,e2=>sQ.get (k:=k) h.2 (by simpa using e1) (by simpa using e2)
def kS(X:Cx):List (Str × Addr)->Prop
 | []=>True
 | p :: r=>X.env.cells.lookup p.1=some p.2/\kS X r
theorem kS.mem{X:Cx}:∀{cl:List (Str × Addr)},kS X cl -> ∀ p ∈ cl,X.env.cells.lookup p.1=some p.2
 | [],_,p,hp=>by cases hp
 | q :: r,h,p,hp=>by
  rcases List.mem_cons.mp hp with rfl|hp
  ·exact h.1
  ·exact kS.mem h.2 p hp
structure nI (X:Cx)(scope:Scope)(cl:List (Str × Addr))(own outs:List Str)(ixs:List Nat):Prop where
 nocell:(scope.names.all fun y=>y.2 != .cell)=true
 kind:scope.kind = .function
 names:(scope.names.all fun y=>y.2 != .local || scope.names.lookup y.1 == some .local)=true
 cells:kS X cl
 has:((relabel scope X.env).names.all fun y=>!(y.2 == .cell || y.2 == .free) || (cl.lookup y.1).isSome) = true
 outs:sQ X scope cl outs ixs
def PF(X:Cx)(ifs:List Expr)(t:TT):Prop :=
 ∀ (pins:List (Addr × Obj))(s:Shared)(σ:St)(H:Hp)(Q:Bool->Hp->Prop),aK X pins σ H s->t σ H Q ->
  wpAny (model X.prog X.w) X.A (forIn ifs true fun c r=>if r=true then do let ok <- isTrue c X.env (eval c X.env);pure (ForInStep.yield ok) else pure (ForInStep.yield r)) (TP X pins σ Q) X.xe s
def Ee:TT:=fun _ H Q=>Q true H
theorem FE{X:Cx}:PF X [] Ee:=fun _ _ _ H _ I h=>wpAny_tests_nil ⟨H,I,h⟩
def nO(K:W.Frag)(J:It)(g:TG)(tif:TT)(te:TE)(a:Addr)(σ0:St)(H0:Hp)(Q:Hp->Prop):Prop:=∃ W:Nat->Nat->St->Hp->Prop,(∃ m,W 0 m σ0 H0) /\ ∀ i m σ H,W i m σ H ->
 (J.stop i H/\Q H)\/(J.go i H /\ ∃ N:St->Hp->Prop,(∀ σ' H',N σ' H' -> ∃ m',m'<m/\W (i+1) m' σ' H') /\ ∀ x H',J.yld i H x H'->g x σ H' fun σ2 H2=>tif σ2 H2 fun b H3=>if b=true then te σ2 H3 fun v H4=>∃ xs,vw K H4 a=some (.lst xs)/\xs.length<sizeLine /\
  ∀ H5,iT a (vw K H4) (vw K H5)->vw K H5 a=some (.lst (xs ++ [v]))->N σ2 H5 else N σ2 H3)
def uO(σ:St)(ixs:List Nat):St:=ixs.map fun j=>(σ[j]?).join
def sF(K:W.Frag)(wi:TI)(n:Nat)(ixs:List Nat)(g:TG)(tif:TT)(te:TE):TE:=fun σ H Q=>wi σ H fun J H1=>∀ a H2,vw K H1 a=none->ay (vw K H1) (vw K H2)->vw K H2 a=some (.lst [])->nO K J g tif te a (List.replicate n none ++ uO σ ixs) H2 (Q (.ref a))
section
variable {X:Cx}
theorem pC{tg iter elt:Expr}{ifs:List Expr}{scope:Scope}{pos ipos:Pos}{wi:TI}{g:TG}{tif:TT}{te:TE}{cl:List (Str × Addr)}{own outs:List Str}{ixs:List Nat}{use:Option (Value->Sem Unit)}{Qv:Value->Shared->Prop}
  (hc:X.calm=true)(hi:PI X tg iter wi)(hclos:closureFor scope X.env=pure cl)(S:nI X scope cl own outs ixs)
  {G:Shared->Hp->List Addr->Prop}(hb:∀ C s H ex,G s H ex->PG (mx X scope cl (own ++ outs) C s H ex) tg g/\PF (mx X scope cl (own ++ outs) C s H ex) ifs tif/\PE (mx X scope cl (own ++ outs) C s H ex) elt te)
  (hs:∀ x,foldedSetIterable iter X.env x=pure x) {pins:List (Addr × Obj)}{s:Shared}{σ:St}{H:Hp}(hG:∀ s2 H1 H2 fp,aK X pins σ H2 s2->(∀ b ∈ fp,lJ X pins H1 b)->G s2 H2 fp)(I:aK X pins σ H s)(Qd:Addr->Hp->Prop)
  (hfin:∀ (a C:Addr)(H':Hp)(s4:Shared)(m:Str->Option Value),aK X pins σ H' s4->lJ X pins H' C->s4.heap.Ns C m->Qd a H'->compPost (model X.prog X.w) X.A X.xe use Qv (.ref a) C (.ok .next) s4)
  (h:wi σ H fun J H1=>∀ a H2,vw X.K H1 a=none->ay (vw X.K H1) (vw X.K H2)->vw X.K H2 a=some (.lst [])->nO X.K J g tif te a (List.replicate own.length none ++ uO σ ixs) H2 (Qd a)) :
  wpAny (model X.prog X.w) X.A (comprehension (.ListComp elt [⟨tg,iter,ifs,0⟩] scope pos) scope X.env ipos (newList []) false (eval iter X.env) use) Qv X.xe s:=by
 have Snc:∀ y ∈ scope.names,y.2 ≠ .cell:=fun y hy z=>by
  have:=List.all_eq_true.mp S.nocell y hy
  rw[z] at this
  cases this
 have Snm:∀ y ∈ scope.names,y.2 = .local->scope.names.lookup y.1=some .local:=fun y hy z=>by
  have:=List.all_eq_true.mp S.names y hy
  rw[z] at this
  simpa using this
 have Shs:∀ y ∈ (relabel scope X.env).names,(y.2 = .cell \/ y.2 = .free) -> (cl.lookup y.1).isSome = true:=fun y hy z=>by
  have:=List.all_eq_true.mp S.has y hy
  rcases z with z|z
  ·rw[z] at this
   simpa using this
  ·rw[z] at this
   simpa using this
 refine wpAny_comprehension_free (use:=use) rfl hs hclos S.kind Snm (wpAny_mono (hi pins s σ H _ I h) (fun xv s1 h1=>wpAny_mono h1 (fun itv s2 h2=>?_) fun _ _ e=>e) fun _ _ e=>e)
 obtain⟨it,fp,tn,J,H1,rfl,I1,T,st1,f1,q⟩:=h2
 refine wpAny_newObj_type (wpAny_newFunctionEnv Snc (by intro y hy;simp at hy) (fun h₁ hns₁ hsb₁=>?_) S.kind)
 dsimp only at hns₁ hsb₁ ⊢
 have I2:aK X pins σ (upd H1 s2.heap.objs.size (.lst [])) { s2 with heap:=s2.heap.push { cls:=.type "list",dict:=none,data:=.seq ([]:List Value).toArray } }:=I1.lnew (t':=s2.toks) .nil (Nat.zero_le _)
 have q2:=q s2.heap.objs.size (upd H1 s2.heap.objs.size (.lst [])) (by rw[eE (I1.newK (Nat.le_refl _))];exact I1.fresh) (ky (ay.upd I1.fresh)) (by rw[eE (I1.newK (Nat.le_refl _))];exact cJ)
 have fr2:∀ b ∈ fp,(upd H1 s2.heap.objs.size (.lst [])) b=none:=fun b hb=>by
  obtain⟨o,ho,_⟩:=T.obj _ _ st1 b hb
  rw[cm (Nat.ne_of_lt (Heap.lt_size ho))]
  exact (f1 b hb).1
 generalize hH2:upd H1 s2.heap.objs.size (.lst [])=H2 at I2 q2 fr2
 generalize hs3:s2.heap.push { cls:=.type "list",dict:=none,data:=.seq ([]:List Value).toArray } = hp3 at I2 hns₁ hsb₁ ⊢
 have old23:∀ b o,s2.heap.get? b=some o->hp3.get? b=some o:=fun b o e=>hs3 ▸ Heap.get?_push_of_some _ e
 have ltC:∀ {b:Addr}{o:Obj},hp3.get? b=some o->b ≠ hp3.objs.size:=fun e=>Nat.ne_of_lt (Heap.lt_size e)
 have old:∀ b o,hp3.get? b=some o->h₁.get? b=some o:=fun b o e=>hsb₁.extBut b o (ltC e) (Heap.get?_push_of_some _ e)
 have clc:∀ x c,cl.lookup x=some c->X.env.cells.lookup x=some c:=fun x c e=>S.cells.mem (x,c) (PySem.mem_of_lookup e)
 obtain⟨W,⟨m0,w0⟩,turn⟩:=q2
 have fpo:∀ b ∈ fp,∃ o,hp3.get? b=some o:=fun b hb=>by
  obtain⟨o,ho,_⟩:=T.obj _ _ st1 b hb
  exact⟨o,old23 b o ho⟩
 have ok:(mx X scope cl (own ++ outs) hp3.objs.size { s2 with heap:=hp3 } H2 fp).Ok:=by
  refine⟨I.ok.mod,S.kind,I.ok.glob,I.ok.blt,Nat.le_refl _,fun x y c e1 e2=>I.ok.inj x y c (clc x c e1) (clc y c e2),fun x hx=>?_,fun x c hf _=>(by cases hf),I.ok.hd,I.ok.frames,.inl rfl,fun b hb=>⟨?_,fun x c e=>?_⟩,I2.bs,Nat.le_trans I.ok.bsz I2.sz,fun b o e hb=>?_,fun b hb hz=>?_,I2.stack,I2.stkFree⟩
  ·have hx':(relabel scope X.env).names.lookup x = some .cell \/ (relabel scope X.env).names.lookup x = some .free:=hx
   have:(cl.lookup x).isSome=true:=by
    rcases hx' with e|e
    ·exact Shs _ (PySem.mem_of_lookup e) (.inl rfl)
    ·exact Shs _ (PySem.mem_of_lookup e) (.inr rfl)
   exact Option.isSome_iff_exists.mp this
  ·obtain⟨o,ho⟩:=fpo b hb
   exact ltC ho
  ·exact (f1 b hb).2.2.2.2.1 x c (clc x c e)
  ·rcases (f1 b hb).2.2.2.1 with z|z
   ·exact I.ok.noex b o e z
   ·exact absurd (Nat.lt_of_lt_of_le (Heap.lt_size e) (Nat.le_trans I.ok.bsz z)) (Nat.lt_irrefl _)
  ·rcases List.mem_cons.mp (I2.stkSub b hz) with z|z
   ·exact (f1 b hb).2.1 z
   ·exact (f1 b hb).2.2.1 z
 have I4:aK (mx X scope cl (own ++ outs) hp3.objs.size { s2 with heap:=hp3 } H2 fp) [] (List.replicate own.length none ++ uO σ ixs) H2 { s2 with heap:=h₁,toks:=s2.toks+([]:List (Str × Value)).length }:=by
  refine⟨ok,rfl,I2.bare,Un.kept old,⟨_,hns₁,fun i x v e1 e2 e3=>?_⟩,fun x c e=>?_,I2.hok.fresh (Nat.le_refl _),fun x c e=>I2.freeC x c (clc x c e),fun p hp=>by simp[mx] at hp,I2.hok.kept old,?_⟩
  ·have e1':(own ++ outs)[i]? = some x:=e1
   have hi':own.length<=i:=by
    by_cases hlt:i<own.length
    ·rw[List.getElem?_append_left (by simpa using hlt),List.getElem?_replicate,if_pos hlt] at e2
     cases e2
    ·walk_at"o"
   rw[List.getElem?_append_right (by simpa using hi')] at e2
   rw[List.getElem?_append_right hi'] at e1'
   rw[List.length_replicate] at e2
   unfold uO at e2
   rw[List.getElem?_map] at e2
   cases ej:ixs[i - own.length]? with
   | none=>rw[ej] at e2;cases e2
   | some j =>
    rw[ej] at e2
    obtain⟨hN,hk,hr,c,hcl⟩:=S.outs.get e1' ej
    have e4:(σ[j]?).join=some v:=Option.some.inj e2
    have e5:σ[j]? = some (some v):=by
     cases es:σ[j]? with
     | none=>rw[es] at e4;cases e4
     | some o=>rw[es] at e4;exact congrArg some e4
    obtain⟨m,hn,hl⟩:=I2.loc
    obtain⟨u,ru,l⟩:=hl j x v hN e5 (.inr (.inl hk))
    refine⟨u,ru,.inr ⟨.inl hr,c,hcl,?_⟩⟩
    rcases l with ⟨z,_⟩|⟨_,c',hc',cell⟩
    ·rw[hk] at z;cases z
    ·rw[clc x c hcl] at hc'
     cases hc'
     obtain⟨o,ho,hd⟩:=cell
     exact⟨o,old _ _ ho,hd⟩
  ·obtain⟨v,o,ho,hd⟩:=I2.cell x c (clc x c e)
   exact⟨v,o,old _ _ ho,hd⟩
  ·show (List.replicate own.length none ++ uO σ ixs).length=(own ++ outs).length
   unfold uO
   rw[List.length_append,List.length_append,List.length_replicate,List.length_map,S.outs.length]
 obtain⟨hg,hf,he⟩:=hb hp3.objs.size { s2 with heap:=hp3 } H2 fp (hG _ _ _ _ I2 f1)
 have stat:∀ {H':Hp},(∀ b ∈ fp,H' b=none) -> ∀ b ∈ fp,lJ (mx X scope cl (own ++ outs) hp3.objs.size { s2 with heap:=hp3 } H2 fp) [] H' b:=fun hn b hb =>
  ⟨hn b hb,(ok.exf b hb).1,ok.exfs b hb,.inl hb,(ok.exf b hb).2,fun p hp=>by simp[mx] at hp⟩
 have noE:∀ {α:Type}{t:Sem α}{Q':α->Shared->Prop}{s':Shared}{E':Value->Shared->Prop},wpAny (model X.prog X.w) X.A t Q' (fun _ _=>False) s'->wpAny (model X.prog X.w) X.A t Q' E' s':=fun h=>wpAny_mono h (fun _ _ z=>z) fun _ _ z=>z.elim
 have loop:codeAny (model X.prog X.w) X.A (.compLoop (.ListComp elt [⟨tg,iter,ifs,0⟩] scope pos) 0 (.ref it) (.ref s2.heap.objs.size) (compEnvC scope cl hp3.objs.size X.env))
   (compPost (model X.prog X.w) X.A X.xe use Qv (.ref s2.heap.objs.size) hp3.objs.size) { s2 with heap:=h₁,toks:=s2.toks+([]:List (Str × Value)).length }:=by
  refine qU rfl (fun n s'=>∃ i σ' H',aK (mx X scope cl (own ++ outs) hp3.objs.size { s2 with heap:=hp3 } H2 fp) [] σ' H' s'/\tn i s'.heap/\(∀ b ∈ fp,H' b=none)/\W i n σ' H') ?_ m0
   ⟨0,_,H2,I4,T.keep _ _ _ st1 fun b hb o e=>old b o (old23 b o e),fr2,w0⟩
  rintro n s' ⟨i,σ',H',I',st',fr',w'⟩
  rcases turn i n σ' H' w' with ⟨stop,qn⟩|⟨go,N,hN,step⟩
  ·refine cQ (T.done (mx X scope cl (own ++ outs) hp3.objs.size { s2 with heap:=hp3 } H2 fp) rfl rfl rfl hc i [] s' σ' H' _ I' (stat fr') st' stop) fun r s4 ⟨hr,I4'⟩=>?_
   subst hr
   obtain⟨m,hn,_⟩:=I4'.loc
   have kC:∀ b o,b ≠ hp3.objs.size->s4.heap.get? b=some o->s4.heap.get? b=some o:=fun b o hb e=>e
   have tC:∀ b u,H' b=some u->b ≠ hp3.objs.size:=fun b u e z=>by
    have:=I4'.free
    rw[z] at e
    rw[show H' hp3.objs.size=none from this] at e
    cases e
   have base:=I4'.base
   have un:Un (yg X.stack) fp H2 H' hp3 s4.heap:=⟨fun b o e n1 hb hx=>kC b o (ltC e) (base.keep b o e n1 hb hx),fun b o e n1 hb hx=>by
     obtain⟨sl,z⟩:=base.slot b o e n1 hb hx
     exact⟨sl,kC b _ (ltC e) z⟩,base.free,fun b o e hx=>by
     obtain⟨o',z⟩:=base.there b o e hx
     exact⟨o',kC b o' (ltC e) z⟩,base.tups,base.frzs,base.tbls⟩
   exact hfin _ _ H' s4 m (I2.call' (s':=s4) (ch:=fp) I4'.os un I4'.hok I4'.bare (fun b hb=>⟨(f1 b hb).2.2.2.1,(f1 b hb).2.1,(f1 b hb).2.2.2.2.1,(f1 b hb).2.2.2.2.2⟩)) (I2.fpOk (Nat.le_refl _) I4'.free) hn qn
  ·refine cQ (T.item (mx X scope cl (own ++ outs) hp3.objs.size { s2 with heap:=hp3 } H2 fp) rfl rfl rfl hc i [] s' σ' H' _ I' (stat fr') st' go) fun r s4 ⟨u,hr,h4⟩=>?_
   subst hr
   refine cQ h4 fun _ s5 ⟨x,H5,I5,r5,y5,st5,fr5⟩=>?_
   have I5':=I5.pinned (stat fr5) (T.obj _ _ st5)
   have back:∀ {σ7:St}{H7:Hp}{s7:Shared},aK (mx X scope cl (own ++ outs) hp3.objs.size { s2 with heap:=hp3 } H2 fp) ([] ++ nZ fp s5.heap) σ7 H7 s7 -> ∀ m',m'<n->W (i+1) m' σ7 H7 ->
     ∃ m,m<n /\ ∃ i σ' H',aK (mx X scope cl (own ++ outs) hp3.objs.size { s2 with heap:=hp3 } H2 fp) [] σ' H' s7/\tn i s7.heap/\(∀ b ∈ fp,H' b=none)/\W i m σ' H':=fun {σ7 H7 s7} I7 m' hm w7=>by
    refine⟨m',hm,i+1,σ7,H7,I7.unpinned,T.keep _ _ _ st5 fun b hb o e=>(I7.pin (b,o) (List.mem_append_right _ (List.mem_append_right _ (iH hb e)))).1,fun b hb=>?_,w7⟩
    obtain⟨o,e,d⟩:=T.obj _ _ st5 b hb
    exact (I7.pin (b,o) (List.mem_append_right _ (List.mem_append_right _ (iH hb e)))).2.1
   refine cQ (noE (hg _ s5 σ' H5 x u _ I5' r5 (step x H5 y5))) fun _ s6 ⟨σ6,H6,I6,q6⟩=>?_
   refine cQ (noE (hf _ s6 σ6 H6 _ I6 q6)) fun ok s7 ⟨H7,I7,q7⟩=>?_
   cases ok with
   | false =>
    rw[if_neg Bool.false_ne_true] at q7 ⊢
    obtain⟨m',hm,w7⟩:=hN _ _ q7
    exact back I7 m' hm w7
   | true =>
    rw[if_pos rfl] at q7 ⊢
    refine cQ (noE (he _ s7 σ6 H7 _ I7 q7)) fun v s8 ⟨xv,H8,I8,r8,q8⟩=>?_
    obtain⟨xs,hxs,hz,q8⟩:=q8
    refine cQ (noE (pN _ s8 σ6 H8 (.ref s2.heap.objs.size) [xv] _ [v] (fun _ H9=>N σ6 H9) I8 rfl (.cons r8 .nil) ⟨_,xs,xv,rfl,rfl,aF hxs,hz,q8 _ (yu iT.upd) ((eE (show X.K.lookup _=none from I8.noK (aF hxs))).trans cJ)⟩)) fun _ s9 ⟨_,H9,I9,_,n9⟩=>?_
    obtain⟨m',hm,w9⟩:=hN _ _ n9
    exact back I9 m' hm w9
 exact codeAny_compStart_list loop (T.self _ 0 _ _ _ (T.keep _ _ _ st1 fun b hb o e=>old b o (old23 b o e)) loop)
theorem BW{tg iter elt:Expr}{ifs:List Expr}{scope:Scope}{pos:Pos}{wi:TI}{g:TG}{tif:TT}{te:TE}{cl:List (Str × Addr)}{own outs:List Str}{ixs:List Nat}
  (hc:X.calm=true)(hi:PI X tg iter wi)(hclos:closureFor scope X.env=pure cl)(S:nI X scope cl own outs ixs)
  (hb:∀ C s H ex,PG (mx X scope cl (own ++ outs) C s H ex) tg g/\PF (mx X scope cl (own ++ outs) C s H ex) ifs tif/\PE (mx X scope cl (own ++ outs) C s H ex) elt te)
  (hs:∀ x,foldedSetIterable iter X.env x=pure x:=by intro _;rfl) :
  PE X (.ListComp elt [⟨tg,iter,ifs,0⟩] scope pos) (sF X.K wi own.length ixs g tif te):=by
 intro pins s σ H Q I h
 rw[eval_ListComp]
 refine pC (G:=fun _ _ _=>True) hc hi hclos S (fun C s H ex _=>hb C s H ex) hs (fun _ _ _ _ _ _=>trivial) I (fun a H'=>Q (.ref a) H') (fun a C H' s4 m J4 fC hn q=>⟨m,hn,fun h' hsb=>?_⟩) h
 obtain⟨f0,f1,f2,f3,f4,f5⟩:=fC
 exact⟨.ref a,H',J4.turned (t':=s4.toks) (fun b o hb e=>hsb.extBut b o hb e) f0 f1 f3 f4 f5,rfl,q⟩
theorem Bj{tg iter elt:Expr}{ifs:List Expr}{scope:Scope}{pos spos py:Pos}{y:Str}{i:Nat}{wi:TI}{g:TG}{tif:TT}{te:TE}{cl:List (Str × Addr)}{own outs:List Str}{ixs:List Nat}
  (hN:X.N.Nodup)(hy:X.N[i]? = some y)(hx:AM X.env.scope y)(hc:X.calm=true)(hi:PI X tg iter wi)(hclos:closureFor scope X.env=pure cl)(S:nI X scope cl own outs ixs)
  (hb:∀ C s H ex,PG (mx X scope cl (own ++ outs) C s H ex) tg g/\PF (mx X scope cl (own ++ outs) C s H ex) ifs tif/\PE (mx X scope cl (own ++ outs) C s H ex) elt te)
  (hsw:swapsWith (.ListComp elt [⟨tg,iter,ifs,0⟩] scope pos) (some (.Name y py)) spos.line X.env=pure true:=by rfl)
  (hs:∀ x,foldedSetIterable iter X.env x=pure x:=by intro _;rfl)(hf:X.fn y=true\/X.env.scope.names.lookup y=some .local:=by first|exact .inl rfl|exact .inr rfl|assumption) :
  PS X (.Assign [.Name y py] (.ListComp elt [⟨tg,iter,ifs,0⟩] scope pos) spos) (ux (sF X.K wi own.length ixs g tif te) (gH i)):=by
 intro pins s σ H D I h
 rw[exec_Assign_Name_used _ _ _ _ hsw]
 refine wpAny_bind (wpAny_standAt (wpAny_bind ?_))
 show wpAny _ X.A (do let _ <- comprehension (.ListComp elt [⟨tg,iter,ifs,0⟩] scope pos) scope X.env _ (newList []) false (eval iter X.env) (some (assign (.Name y py) X.env))) _ _ s
 refine wpAny_bind (wpAny_mono (pC (use:=some (assign (.Name y py) X.env)) (Qv:=fun _ s'=>SP X pins D .next s') (G:=fun _ _ _=>True) hc hi hclos S (fun C s H ex _=>hb C s H ex) hs (fun _ _ _ _ _ _=>trivial) I (fun a H'=>D.nx (σ.set i (some (.ref a))) H') (fun a C H' s4 m J4 fC hn q=>?_) h) (fun _ s' hq=>wpAny_pure (wpAny_pure hq)) fun _ _ e=>e)
 obtain⟨f0,f1,f2,f3,f4,f5⟩:=fC
 refine wpAny_assign_Name (pI J4 hN hy hx (v:=.ref a) rfl (fun s5 I5 hsame=>?_) hf)
 obtain⟨b,sb,hb'⟩:=hsame
 have nb:C ≠ b:=fun e=>by
  rcases hb' with z|z
  ·exact f1 (e.trans z)
  ·exact f4 _ _ z e.symm
 exact⟨m,hn.sameBut sb nb,fun h' hsb=>⟨_,H',I5.turned (t':=s5.toks) (fun b o hb e=>hsb.extBut b o hb e) f0 f1 f3 f4 f5,q⟩⟩
end
theorem Go{X:Cx}{scope:Scope}{cl:List (Str × Addr)}{N:List Str}{C:Addr}{s:Shared}{H:Hp}{ex:List Addr}:(mx X scope cl N C s H ex).K=X.K:=rfl
mutual
def D.py:D->PyData
 | .non=>.none
 | .bl b=>.bool b
 | .int i=>.int i
 | .str x=>.str x
 | .dict=>.dict []
 | .tup ds=>.tuple (D.pys ds)
 | .lst ds=>.list (D.pys ds)
def D.pys:List D->List PyData
 | []=>[]
 | d :: ds=>d.py :: D.pys ds
end
def D.cmp(d:D):Prop:=d.py.canLay0=true/\d.py.depth<=30
def AQ(d e:D):Bool:=PyData.eqv d.py e.py
section
variable {X:Cx}{pins:List (Addr × Obj)}{σ:St}{H:Hp}{s:Shared}
mutual
theorem aJ.reads(I:aK X pins σ H s):∀ (d:D)(v:V)(u:Value),aJ (vw X.K H) d v->bX v u->d.py.canLay0=true -> ∃ as,Reads s.heap u d.py as
 | .non,v,u,h,r,_=>by
  unfold aJ at h;subst h;cases r
  exact⟨_,by unfold D.py;exact .none⟩
 | .bl b,v,u,h,r,_=>by
  unfold aJ at h;subst h;cases r
  exact⟨_,by unfold D.py;exact .bool b⟩
 | .int i,v,u,h,r,_=>by
  unfold aJ at h;subst h;obtain⟨t,rfl⟩:=r
  exact⟨_,by unfold D.py;exact .int i t⟩
 | .str x,v,u,h,r,_=>by
  unfold aJ at h;subst h;obtain⟨t,rfl⟩:=r
  exact⟨_,by unfold D.py;exact .str x t⟩
 | .dict,v,u,h,r,hc=>by
  unfold D.py PyData.canLay0 at hc
  cases hc
 | .tup ds,v,u,h,r,hc=>by
  obtain⟨a,xs,rfl,ha,rs⟩:=h.tup_at
  cases r
  unfold D.py at hc ⊢
  obtain⟨its,rv,p,hz⟩:=I.tuple (cY ha)
  obtain⟨o,h1,h2,n,h3⟩:=p
  obtain⟨as,ra⟩:=aE.reads I ds xs its rs rv (by unfold PyData.canLay0 at hc;exact hc)
  exact⟨_,.tuple h1 h2 h3 (by simpa using ra)⟩
 | .lst ds,v,u,h,r,hc=>by
  obtain⟨a,xs,rfl,ha,rs⟩:=h.lst_at
  cases r
  unfold D.py at hc ⊢
  obtain⟨its,rv,p,hz⟩:=I.list (j6.of (K:=X.K) (aF ha))
  obtain⟨o,n,h1,h2,h3,h4⟩:=p
  obtain⟨as,ra⟩:=aE.reads I ds xs its rs rv (by unfold PyData.canLay0 at hc;exact hc)
  exact⟨_,.list h1 h2 h4 (by simpa using ra)⟩
theorem aE.reads(I:aK X pins σ H s):∀ (ds:List D)(xs:List V)(us:List Value),aE (vw X.K H) ds xs->bA xs us->PyData.canLayAll0 (D.pys ds)=true -> ∃ as,ReadsAll s.heap us (D.pys ds) as
 | [],xs,us,h,r,_=>by
  cases h.nil_at
  cases r
  exact⟨_,by unfold D.pys;exact .nil⟩
 | d :: ds,xs,us,h,r,hc=>by
  obtain⟨x,ys,rfl,h1,h2⟩:=h.cons_at
  cases r with
  | cons r1 r2 =>
   unfold D.pys PyData.canLayAll0 at hc
   rw[Bool.and_eq_true] at hc
   obtain⟨as,ra⟩:=aJ.reads I d x _ h1 r1 hc.1
   obtain⟨bs,rb⟩:=aE.reads I ds ys _ h2 r2 hc.2
   exact⟨_,by unfold D.pys;exact .cons ra rb⟩
end
end
def A1(K:W.Frag)(neg:Bool):R2:=fun x y H Q=>∃ d e,aJ (vw K H) d x/\aJ (vw K H) e y/\d.cmp/\e.cmp/\Q (.bl (if neg then !AQ d e else AQ d e)) H
section
variable {X:Cx}
theorem lO(hu:X.A.units+64<cLine):eK X (compareOp .Eq) (A1 X.K false):=by
 intro pins s σ H x y v u Q I rx ry h
 obtain⟨d,e,h1,h2,c1,c2,q⟩:=h
 obtain⟨as,r1⟩:=aJ.reads I d x v h1 rx c1.1
 obtain⟨bs,r2⟩:=aJ.reads I e y u h2 ry c2.1
 exact SeqAt.compareEq_reads r1 r2 c1.1 c2.1 (by have:=c1.2;walk_at"o") ⟨.bl _,H,I,rfl,q⟩
theorem ub(hu:X.A.units+64<cLine):eK X (compareOp .NotEq) (A1 X.K true):=by
 intro pins s σ H x y v u Q I rx ry h
 obtain⟨d,e,h1,h2,c1,c2,q⟩:=h
 obtain⟨as,r1⟩:=aJ.reads I d x v h1 rx c1.1
 obtain⟨bs,r2⟩:=aJ.reads I e y u h2 ry c2.1
 exact SeqAt.compareNe_reads r1 r2 c1.1 c2.1 (by have:=c1.2;walk_at"o") ⟨.bl _,H,I,rfl,q⟩
end
def jV(K:W.Frag)(H:Hp)(a:Addr)(xs:List V):Prop:=(K.lookup a=none/\Rd H a (.lst xs)) \/
 ∃ (o:Obj)(its:Array Value)(n:Nat),K.lookup a=some o/\o.cls = .type "list" /\ o.dict=none/\o.data = .seq its n/\its.size<=sizeLine/\bA xs its.toList
theorem jV.sq{K:W.Frag}{H:Hp}{a:Addr}{xs:List V}(h:jV K H a xs):j6 K H a xs:=h.imp (fun z=>z.2) fun z=>z
theorem jV.of{K:W.Frag}{H:Hp}{a:Addr}{xs:List V}(h:j6 K H a xs)(hk:H a ≠ none->K.lookup a=none):jV K H a xs:=by
 rcases h with h|h
 ·refine .inl ⟨hk ?_,h⟩
  rcases h with h|⟨o,h⟩ <;> rw[h] <;> simp
 ·exact .inr h
theorem jV.same{K:W.Frag}{H H':Hp}{a:Addr}{xs:List V}(h:jV K H a xs)(S:ay (vw K H) (vw K H')):jV K H' a xs:=by
 rcases h with ⟨hk,h⟩|h
 ·refine .inl ⟨hk,?_⟩
  rcases h with h|⟨o,h⟩
  ·have:=S a _ ((eE hk).trans h)
   rw[eE hk] at this
   exact .inl this
  ·have:=S a _ ((eE hk).trans h)
   rw[eE hk] at this
   exact .inr ⟨o,this⟩
 ·exact .inr h
end L2
namespace L2
open PySem PySem.Spec PyProof.Rows
mutual
def D.flat:D->Bool
 | .lst _=>false
 | .tup ds=>D.flats ds
 | _=>true
def D.flats:List D->Bool
 | []=>true
 | d :: ds=>d.flat && D.flats ds
end
section
variable {H H':Hp}{l:Addr}{xs:List V}
mutual
theorem aJ.flat_but(hl:H l=some (.lst xs))(S:iT l H H'):∀ (d:D)(v:V),d.flat=true->aJ H d v->aJ H' d v
 | .non,v,_,h=>by unfold aJ at h ⊢;exact h
 | .bl b,v,_,h=>by unfold aJ at h ⊢;exact h
 | .int i,v,_,h=>by unfold aJ at h ⊢;exact h
 | .str x,v,_,h=>by unfold aJ at h ⊢;exact h
 | .dict,v,_,h=>by
  unfold aJ at h ⊢
  obtain⟨a,kvs,rfl,h⟩:=h
  exact⟨a,kvs,rfl,S _ _ (fun e=>by rw[e,hl] at h;cases h) h⟩
 | .tup ds,v,hf,h=>by
  obtain⟨a,ys,rfl,h,rs⟩:=h.tup_at
  unfold D.flat at hf
  exact .mk_tup (S _ _ (fun e=>by rw[e,hl] at h;cases h) h) (aE.flat_but hl S ds ys hf rs)
 | .lst ds,v,hf,h=>by unfold D.flat at hf;cases hf
theorem aE.flat_but(hl:H l=some (.lst xs))(S:iT l H H'):∀ (ds:List D)(ys:List V),D.flats ds=true->aE H ds ys->aE H' ds ys
 | [],ys,_,h=>by cases h.nil_at;exact .mk_nil
 | d :: ds,ys,hf,h=>by
  obtain⟨y,r,rfl,h1,h2⟩:=h.cons_at
  unfold D.flats at hf
  rw[Bool.and_eq_true] at hf
  exact .mk_cons (aJ.flat_but hl S d y hf.1 h1) (aE.flat_but hl S ds r hf.2 h2)
end
end
theorem cr(q:Int × Int):(fr q).flat=true:=by simp[fr,D.flat,D.flats]
theorem dP:∀(qs:List (Int × Int)),D.flats (qs.map fr)=true
 | []=>by simp[D.flats]
 | q :: qs=>by
  rw[List.map_cons]
  unfold D.flats
  rw[cr,dP qs]
  rfl
theorem aE.app{H:Hp}:∀{ds es:List D}{xs ys:List V},aE H ds xs->aE H es ys->aE H (ds ++ es) (xs ++ ys)
 | [],es,xs,ys,h,g=>by cases h.nil_at;exact g
 | d :: ds,es,xs,ys,h,g=>by
  obtain⟨x,r,rfl,h1,h2⟩:=h.cons_at
  exact .mk_cons h1 (aE.app h2 g)
theorem aE.snoc{H:Hp}{ds:List D}{xs:List V}{d:D}{x:V}(h:aE H ds xs)(g:aJ H d x):aE H (ds ++ [d]) (xs ++ [x]):=h.app (.mk_cons g .mk_nil)
theorem aE.at{H:Hp}{ds:List D}{xs:List V}(h:aE H ds xs) {i:Nat}{d:D}(hd:ds[i]? = some d):∃ x,xs[i]? = some x/\aJ H d x:=by
 have hi:i<ds.length:=(List.getElem?_eq_some_iff.mp hd).1
 have hi':i<xs.length:=by rw[h.length];exact hi
 obtain⟨d',e,r⟩:=h.get (List.getElem?_eq_getElem hi')
 rw[hd] at e
 cases e
 exact⟨_,List.getElem?_eq_getElem hi',r⟩
theorem aE.take{H:Hp}:∀{ds:List D}{xs:List V}(n:Nat),aE H ds xs->aE H (ds.take n) (xs.take n)
 | ds,xs,0,h=>by simp;exact .mk_nil
 | [],xs,n+1,h=>by cases h.nil_at;exact .mk_nil
 | d :: ds,xs,n+1,h=>by
  obtain⟨x,r,rfl,h1,h2⟩:=h.cons_at
  exact .mk_cons h1 (h2.take n)
theorem aE.drop{H:Hp}:∀{ds:List D}{xs:List V}(n:Nat),aE H ds xs->aE H (ds.drop n) (xs.drop n)
 | ds,xs,0,h=>h
 | [],xs,n+1,h=>by cases h.nil_at;exact .mk_nil
 | d :: ds,xs,n+1,h=>by
  obtain⟨x,r,rfl,h1,h2⟩:=h.cons_at
  exact h2.drop n
def aM(G:Hp)(a:Addr)(qs:List (Int × Int)):Prop:=∃ xs,G a=some (.lst xs)/\aE G (qs.map fr) xs
section
variable {G G':Hp}{a l:Addr}{qs:List (Int × Int)}{xs:List V}
theorem aM.same(h:aM G a qs)(S:ay G G'):aM G' a qs:=by
 obtain⟨ys,h1,h2⟩:=h
 exact⟨ys,S _ _ h1,h2.same S⟩
theorem aM.but(h:aM G a qs)(hl:G l=some (.lst xs))(hn:a ≠ l)(S:iT l G G'):aM G' a qs:=by
 obtain⟨ys,h1,h2⟩:=h
 exact⟨ys,S _ _ hn h1,aE.flat_but hl S _ _ (dP qs) h2⟩
theorem aM.rep(h:aM G a qs):aJ G (.lst (qs.map fr)) (.ref a):=by
 obtain⟨ys,h1,h2⟩:=h
 exact .mk_lst h1 h2
theorem aM.len(h:aM G a qs):fz G a=some qs.length:=by
 obtain⟨ys,h1,h2⟩:=h
 unfold fz
 rw[h1]
 simp only[h2.length,List.length_map]
theorem aM.ne_st{st:Addr}(h:aM G a qs)(hst:gj G st):a ≠ st:=by
 rintro rfl
 obtain⟨ys,h1,h2⟩:=h
 obtain⟨x,b,h3,_⟩:=hst
 rw[h1] at h3
 cases h3
 cases qs with
 | nil=>cases h2.nil_at
 | cons q qs =>
  obtain⟨y,r,e,h4,h5⟩:=aE.cons_at h2
  cases e
  obtain⟨c,e,_⟩:=h4.fr_at
  cases e
theorem aM.stBut{st:Addr}(h:aM G a qs)(hst:gj G st)(S:iT st G G'):aM G' a qs:=by
 obtain⟨x,b,h3,_⟩:=hst
 exact h.but h3 (h.ne_st ⟨x,b,h3,by assumption⟩) S
theorem gj.but{st:Addr}(h:gj G st)(hl:G l=some (.lst xs))(hn:st ≠ l)(S:iT l G G'):gj G' st:=by
 obtain⟨x,b,h3,h4⟩:=h
 exact⟨x,b,S _ _ hn h3,h4⟩
end
theorem xQ{CX:xg}{P:Program}{w:World}{K:W.Frag}{mg:Str->Option Value}{base:Heap}{N:List Str}{qual:Str}{scope:Scope}{f:Addr}{cd:Value}{A:Around}{outer:List Env}{s:Shared}{H:Hp}{E:XK} :
  (qE CX P w K mg base N qual scope f cd A outer s H E).nox.K=K:=rfl
def zU(t u:TS):TS:=fun D σ H=>∃ R:St->Hp->Prop,(∀ σ' H',R σ' H'->u D σ' H')/\t { D with nx:=R } σ H
theorem zU.mk{t u:TS}{D:mH}{σ:St}{H:Hp}(R:St->Hp->Prop)(h1:t { D with nx:=R } σ H)(h2:∀ σ' H',R σ' H'->u D σ' H'):zU t u D σ H:=⟨R,h2,h1⟩
theorem CD{X:Cx}{st:Stmt}{rest:List Stmt}{t u:TS}(h1:PS X st t)(h2:tH X rest u):tH X (st :: rest) (zU t u):=by
 rintro pins s σ H D I ⟨R,hR,h⟩
 refine wpAny_execs_cons (cQ (h1 pins s σ H { D with nx:=R } I h) fun f s1 q=>?_)
 cases f with
 | next =>
  obtain⟨σ',H',I',q⟩:=q
  exact h2 pins s1 σ' H' D I' (hR _ _ q)
 | ret v=>exact q
 | brk=>exact q
 | cont=>exact q
def oM(J:It)(H:Hp)(its:List V):Prop:=(∀ i,i<its.length->J.go i H)/\(∀ i x H',i<its.length->J.yld i H x H'->H'=H/\its[i]? = some x)/\J.stop its.length H
def hJ(lo:Int)(n:Nat):List V:=(List.range n).map fun (k:Nat)=>V.int (lo+k)
theorem cK{lo:Int}{n:Nat}{H:Hp}:oM (FI lo n) H (hJ lo n):=by
 refine⟨fun i hi=>by show i<n;simpa [hJ] using hi,fun i x H' hi y=>⟨y.1,?_⟩,by show n<=(hJ lo n).length;simp[hJ]⟩
 have hi':i<n:=by simpa [hJ] using hi
 rw[y.2]
 simp[hJ,hi']
theorem aU{K:W.Frag}{H:Hp}{a:Addr}{xs:List V}(h:vw K H a=some (.lst xs)):oM (GG K a) H xs :=
 ⟨fun i hi=>⟨xs,xs[i],.of (aF h),by simp[hi]⟩,fun i x H' _ y=>⟨y.1,y.2 xs (.of (aF h))⟩,⟨xs,.of (aF h),Nat.le_refl _⟩⟩
theorem qd{K:W.Frag}{H:Hp}{a:Addr}{xs:List V}(h:vw K H a=some (.tup xs)):oM (Hq K a) H xs :=
 ⟨fun i hi=>⟨xs,xs[i],cY h,by simp[hi]⟩,fun i x H' _ y=>⟨y.1,y.2 xs (cY h)⟩,⟨xs,cY h,Nat.le_refl _⟩⟩
theorem cg{J:It}{its:List V}{g:TG}{tb:TS}{D:mH}{σ:St}{H:Hp}(Pv:Nat->St->Hp->Prop)(hl:∀ i σ H,i<=its.length->Pv i σ H->oM J H its)(h0:Pv 0 σ H)
  (hs:∀ i x σ H,i<its.length->its[i]? = some x->Pv i σ H->g x σ H fun σ2 H2=>tb { D with nx:=Pv (i+1),ct:=Pv (i+1),bk:=D.nx } σ2 H2)(hd:∀ σ H,Pv its.length σ H->D.nx σ H):vo J g tb D σ H:=by
 refine⟨fun i m σ H=>m=its.length - i/\i<=its.length/\Pv i σ H,⟨its.length,by simp,Nat.zero_le _,h0⟩,?_⟩
 rintro i m σ H ⟨rfl,hi,p⟩
 obtain⟨q1,q2,q3⟩:=hl i σ H hi p
 by_cases hlt:i<its.length
 ·refine .inr ⟨q1 i hlt,Pv (i+1),fun σ' H' p'=>⟨its.length - (i+1),by walk_at"o",rfl,hlt,p'⟩,fun x H' y=>?_⟩
  obtain⟨e,y2⟩:=q2 i x H' hlt y
  subst e
  exact hs i x σ _ hlt y2 p
 ·have e:i=its.length:=by walk_at"o"
  subst e
  exact .inl ⟨q3,hd σ H p⟩
def CN(K:W.Frag)(a:Addr)(σr:St)(Pv:List V->Hp->Prop):St->Hp->Prop:=fun σ H=>(∃ y,σ=y :: σr) /\ ∃ xs,vw K H a=some (.lst xs)/\Pv xs H
def Ep(K:W.Frag)(a:Addr)(N:Hp->Prop):V->Hp->Prop:=fun v H4=>∃ xs,vw K H4 a=some (.lst xs)/\xs.length<sizeLine /\ ∀ H5,iT a (vw K H4) (vw K H5)->vw K H5 a=some (.lst (xs ++ [v]))->N H5
theorem bY{K:W.Frag}{J:It}{its:List V}{tif:TT}{te:TE}{a:Addr}{x0:Option V}{σr:St}{H0:Hp}{Q:Hp->Prop}(Pv:Nat->List V->Hp->Prop)
  (hl:∀ i xs H,i<=its.length->vw K H a=some (.lst xs)->Pv i xs H->oM J H its)(ha:vw K H0 a=some (.lst []))(h0:Pv 0 [] H0)
  (hs:∀ i x xs H,i<its.length->its[i]? = some x->vw K H a=some (.lst xs)->Pv i xs H->tif (some x :: σr) H fun b H3=>if b=true then te (some x :: σr) H3 (Ep K a (CN K a σr (Pv (i+1)) (some x :: σr))) else CN K a σr (Pv (i+1)) (some x :: σr) H3)
  (hd:∀ xs H,vw K H a=some (.lst xs)->Pv its.length xs H->Q H):nO K J (gH 0) tif te a (x0 :: σr) H0 Q:=by
 refine⟨fun i m σ H=>m=its.length - i/\i<=its.length/\CN K a σr (Pv i) σ H,⟨its.length,by simp,Nat.zero_le _,⟨_,rfl⟩,_,ha,h0⟩,?_⟩
 rintro i m σ H ⟨rfl,hi,⟨y,rfl⟩,xs,hxs,p⟩
 obtain⟨q1,q2,q3⟩:=hl i xs H hi hxs p
 by_cases hlt:i<its.length
 ·refine .inr ⟨q1 i hlt,CN K a σr (Pv (i+1)),fun σ' H' p'=>⟨its.length - (i+1),by walk_at"o",rfl,hlt,p'⟩,fun x H' y=>?_⟩
  obtain⟨e,y2⟩:=q2 i x H' hlt y
  subst e
  exact hs i x xs _ hlt y2 hxs p
 ·have e:i=its.length:=by walk_at"o"
  subst e
  exact .inl ⟨q3,hd xs H hxs p⟩
theorem Ep.mk{K:W.Frag}{a:Addr}{σr:St}{Pv:List V->Hp->Prop}{x:Option V}{v:V}{H:Hp}{xs:List V}(h:vw K H a=some (.lst xs))(hz:xs.length<sizeLine)
  (q:∀ H5,iT a (vw K H) (vw K H5)->vw K H5 a=some (.lst (xs ++ [v]))->Pv (xs ++ [v]) H5):Ep K a (CN K a σr Pv (x :: σr)) v H:=⟨xs,h,hz,fun H5 B h5=>⟨⟨_,rfl⟩,_,h5,q H5 B h5⟩⟩
theorem gT{lo:Int}{n i:Nat}{x:V}(h:(hJ lo n)[i]? = some x):i<n/\x = .int (lo+i):=by
 have hi:i<n:=by simpa [hJ] using (List.getElem?_eq_some_iff.mp h).1
 simp[hJ,hi] at h
 exact⟨hi,h.symm⟩
theorem eJ{lo:Int}{n:Nat}:(hJ lo n).length=n:=by simp[hJ]
theorem rH{n d:Nat}{k:Nat}(h:k<=n):HT.sIx n d (some (k:Int))=k:=by
 unfold HT.sIx
 simp only[Int.toNat_natCast]
 rw[if_neg (by walk_at"o")]
 walk_at"o"
theorem qD{xs:List V}{k:Nat}(h:k<=xs.length):gu xs none (some (k:Int))=xs.take k:=by
 unfold gu
 rw[rH h]
 simp[HT.sIx]
theorem kr{xs:List V}{k:Nat}(h:k<=xs.length):gu xs (some (k:Int)) none=xs.drop k:=by
 unfold gu
 rw[rH h]
 simp[HT.sIx]
 rw[List.take_of_length_le]
 simp
theorem eP{α:Type}{xs:List α}{x:α}(h:xs.getLast? = some x):mL xs (-1)=some x:=by
 obtain⟨ys,rfl⟩:=List.getLast?_eq_some_iff.mp h
 exact oy ys x
def Fv(K:W.Frag)(neg:Bool):R2:=fun x y H Q=>∃ p q,x = .ref p/\y = .ref q /\ ∃ xs,vw K H p=some (.lst xs)/\vw K H q=some (.lst [])/\Q (.bl (if neg then !xs.isEmpty else xs.isEmpty)) H
section
variable {X:Cx}
theorem An(hu:X.A.units<cLine):eK X (compareOp .Eq) (Fv X.K false):=by
 intro pins s σ H x y v u Q I rx ry h
 obtain⟨p,q,rfl,rfl,xs,h1,h2,k⟩:=h
 cases rx
 cases ry
 obtain⟨its,r,⟨o,n,e1,e2,e3,e4⟩,_⟩:=I.list (j6.of (K:=X.K) (aF h1))
 obtain⟨its2,r2,⟨o2,n2,f1,f2,f3,f4⟩,_⟩:=I.list (j6.of (K:=X.K) (aF h2))
 cases r2
 have fin:EP X pins σ Q (.bool xs.isEmpty) s:=⟨.bl _,H,I,rfl,k⟩
 cases xs with
 | nil =>
  cases r
  exact SeqAt.RcAt.lists (e:=fun _=>true) ⟨_,e1,e2,_,e4⟩ ⟨_,f1,f2,_,f4⟩ rfl hu (fun j h1=>absurd h1 (by simp)) _ _ _ _ fin
 | cons x xs =>
  cases r
  exact SeqAt.RcAt.lists_lengths ⟨_,e1,e2,_,e4⟩ ⟨_,f1,f2,_,f4⟩ (by simp) hu _ _ _ _ fin
end
theorem ge.ul{k:Nat}{A:Around}(r:ge k A):A.units<cLine:=by have:=r.un;walk_at"o"
theorem ge.u64{k:Nat}{A:Around}(r:ge k A):A.units+64<cLine:=by have:=r.un;walk_at"o"
theorem lC(p q:Int × Int):AQ (fr p) (fr q)=decide (p=q):=by
 unfold AQ fr D.py D.pys D.pys D.pys D.py
 simp only[PyData.eqv,PyData.eqvAll]
 rw[Bool.eq_iff_iff]
 simp[Prod.ext_iff]
theorem gi(q:Int × Int):(fr q).cmp:=by
 unfold D.cmp fr D.py D.pys D.pys D.pys D.py
 exact⟨rfl,Nat.le_of_ble_eq_true rfl⟩
def GT(K:W.Frag)(mg:Str->Option Value)(x:Str)(xs:List V):Prop:=∃ a,mg x=some (.ref a) /\ ∀ H,vw K H a=some (.tup xs)
theorem GT.mk{K:W.Frag}{mg:Str->Option Value}{x:Str}{a:Addr}{o:Obj}{xs:List V}(h:mg x=some (.ref a))(hl:K.lookup a=some o)(hk:uI o=some (.tup xs)):GT K mg x xs :=
 ⟨a,h,fun H=>by unfold vw;rw[hl];exact hk⟩
theorem aE.last{H:Hp}{ds:List D}{xs:List V}(h:aE H ds xs) {d:D}(hd:ds.getLast? = some d):∃ x,xs.getLast? = some x/\aJ H d x:=by
 rw[List.getLast?_eq_getElem?] at hd
 obtain⟨x,e,r⟩:=h.at hd
 rw[<- h.length,<- List.getLast?_eq_getElem?] at e
 exact⟨x,e,r⟩
theorem bU{H:Hp}{a:Addr}{i j:Int}(h:H a=some (.tup [.int i,.int j])):aJ H (fr (i,j)) (.ref a):=.mk_tup h (.mk_cons (.mk_int _) (.mk_cons (.mk_int _) .mk_nil))
def j7(ds:List D):Bool:=match ds.getLast? with
 | some (.tup [.int 0,.int 1])=>false
 | _=>true
def D.poly:D->Bool
 | .lst ds=>ds.all D.frac && j7 ds
 | _=>false
theorem lY{ds:List D}{q:Int × Int}(h:ds.getLast? = some (fr q)):j7 ds = !decide (q=(0,1)):=by
 unfold j7
 rw[h]
 obtain⟨a,b⟩:=q
 unfold fr
 simp only[Prod.mk.injEq]
 split
 ·rename_i e
  simp only[Option.some.injEq,D.tup.injEq,List.cons.injEq,D.int.injEq,and_true] at e
  simp[e]
 ·rename_i e
  by_cases h1:a=0
  ·by_cases h2:b=1
   ·subst h1 h2
    exact absurd rfl e
   ·simp[h2]
  ·simp[h1]
theorem D.frac_fr{d:D}(h:d.frac=true):∃ q,d=fr q/\Fq q:=by
 cases d with
 | tup ds =>
  obtain⟨a,b,rfl,hq⟩:=D.frac_tup h
  exact⟨(a,b),rfl,hq⟩
 | _=>unfold D.frac at h;cases h
theorem uD{ds:List D}(h:ds.all D.frac=true)(hn:ds ≠ []):∃ q,ds.getLast? = some (fr q)/\Fq q:=by
 obtain⟨d,hd⟩:=Option.isSome_iff_exists.mp (by rw[List.getLast?_isSome];exact hn:ds.getLast?.isSome=true)
 obtain⟨q,rfl,hq⟩:=D.frac_fr (List.all_eq_true.mp h d (List.mem_of_getLast? hd))
 exact⟨q,hd,hq⟩
def oY(xs:List V):Prop:=∀ b,V.bl b ∉ xs
end L2
namespace L2
open PySem PySem.Spec PyProof.Rows
theorem aE.repl{H:Hp}{d:D}{x:V}(h:aJ H d x):∀ n,aE H (List.replicate n d) (List.replicate n x)
 | 0=>.mk_nil
 | n+1=>.mk_cons h (aE.repl h n)
theorem BF{qs:List (Int × Int)}(h:∀ q ∈ qs,Fq q)(hl:∀ q,qs.getLast? = some q->q.1 ≠ 0):(D.lst (qs.map fr)).poly=true:=by
 show ((qs.map fr).all D.frac && j7 (qs.map fr))=true
 rw[Bool.and_eq_true]
 refine⟨List.all_eq_true.mpr fun d hd=>?_,?_⟩
 ·obtain⟨q,hq,rfl⟩:=List.mem_map.mp hd
  exact frac_fr (h q hq)
 ·cases e:qs.getLast? with
  | none =>
   unfold j7
   rw[List.getLast?_map,e]
   rfl
  | some q =>
   rw[lY (q:=q) (by rw[List.getLast?_map,e];rfl)]
   have:=hl q e
   simp
   rintro rfl
   exact this rfl
theorem ay.rfl{H:Hp}:ay H H:=fun _ _ z=>z
section
variable {K:W.Frag}{σ:St}{H0:Hp}{t u:TE}{ta:TA}{b c:Bool}{m n:Nat}
end
end L2
set_option autoImplicit true
namespace L2
open PySem PySem.Spec PyProof.Rows
structure QE (X:Cx)(e:Expr)(t:TE):Prop where
 h:PE X e t
structure QT (X:Cx)(e:Expr)(t:TT):Prop where
 h:PT X e t
structure QW (X:Cx)(e:Expr)(t:TT):Prop where
 h:PW X e t
structure QA (X:Cx)(e:List Expr)(t:TA):Prop where
 h:PA X e t
structure QS (X:Cx)(e:Stmt)(t:TS):Prop where
 h:PS X e t
structure AF (X:Cx)(e:List Stmt)(t:TS):Prop where
 h:tH X e t
structure QG (X:Cx)(e:Expr)(t:TG):Prop where
 h:PG X e t
structure GN (X:Cx)(e:List Expr)(t:yh):Prop where
 h:FK X e t
structure QF (X:Cx)(e:List Expr)(t:TT):Prop where
 h:PF X e t
structure QO (X:Cx)(e:Option Expr)(t:TO):Prop where
 h:PO X e t
structure QI (X:Cx)(tg e:Expr)(t:TI):Prop where
 h:PI X tg e t
section
variable {X:Cx}{pos p p2 apos cpos pos':Pos}{a b e o l:Expr}{es rest:List Expr}{te ta tb to:TE}{tA tB':TT}{st:Stmt}{rest':List Stmt}{lo hi:Option Expr}{id:String}
theorem fZ {b j pos}:QE X (.Constant (.bool b) j pos) (tC (.bl b)):=⟨Gm ⟩
theorem af {i j pos}:QE X (.Constant (.int i) j pos) (tC (.int i)):=⟨Fe ⟩
theorem El {j pos}:QE X (.Constant .none j pos) (tC .non):=⟨EL ⟩
theorem eF {x j pos}:QE X (.Constant (.str x) j pos) (tC (.str x)):=⟨Fa ⟩
theorem eC{x:Str}{v:V}{u:Value}{pos:Pos}(hg:Gl X x)(hm:X.mg x=some u)(r:bX v u)(hd:(x == ("__debug__" : Str))=false:=by decide):QE X (.Name x pos) (tC v):=⟨BN (hg:=hg) (hm:=hm) (r:=r) (hd:=hd)⟩
theorem jN{x:Str}{v:V}{u:Value}{pos:Pos}(hg:Gl X x)(hm:X.mg x=none)(hv:bootBuiltins x=some u)(r:bX v u)(hn:x ≠ "__name__":=by decide) (hd:(x == ("__debug__" : Str))=false:=by decide):QE X (.Name x pos) (tC v):=⟨Cy (hg:=hg) (hm:=hm) (hv:=hv) (r:=r) (hn:=hn) (hd:=hd)⟩
theorem ao{op:Operator}{r:R2}(ho:eK X (binaryOp op) r)(ha:QE X a ta)(hb:QE X b tb):QE X (.BinOp a op b pos) (BQ r ta tb):=⟨Gk (ho:=ho) (ha:=ha.h) (hb:=hb.h)⟩
theorem de{op:UnaryOp}{r:V->Hp->VK->Prop}(ho:GE X (unaryOp op) r)(ha:QE X a ta):QE X (.UnaryOp op a pos) (GU r ta):=⟨GB (ho:=ho) (ha:=ha.h)⟩
theorem EJ(ha:QE X a ta):QE X (.UnaryOp .Not a pos) (wU ta):=⟨Eo (ha:=ha.h)⟩
theorem lI(ha:QE X a ta)(hb:QE X (.BoolOp .And (b :: rest) pos) tb):QE X (.BoolOp .And (a :: b :: rest) pos) (vY ta tb):=⟨EQ (ha:=ha.h) (hb:=hb.h)⟩
theorem y6(ha:QE X a ta)(hb:QE X (.BoolOp .Or (b :: rest) pos) tb):QE X (.BoolOp .Or (a :: b :: rest) pos) (Bs ta tb):=⟨FQ (ha:=ha.h) (hb:=hb.h)⟩
theorem lU {op}{t:TE}(h:QE X a t):QE X (.BoolOp op [a] pos) t:=⟨Et (h:=h.h)⟩
theorem cE{op:CmpOp}{r:R2}(ho:eK X (compareOp op) r)(ha:QE X a ta)(hb:QE X b tb)(hm:behindInMarks op b=false):QE X (.Compare a [op] [b] pos) (BQ r ta tb):=⟨Cs (ho:=ho) (ha:=ha.h) (hb:=hb.h) (hm:=hm)⟩
theorem tG{c:Expr}(hc:QT X c tA)(ha:QE X a ta)(hb:QE X b tb):QE X (.IfExp c a b pos) (G7 tA ta tb):=⟨yv (hc:=hc.h) (ha:=ha.h) (hb:=hb.h)⟩
theorem bQ {x1}(h:QA X es t):QE X (.Tuple es x1 pos) (wI X.K t):=⟨BA (h:=h.h)⟩
theorem bC(h:QA X es t):QE X (.List es pos) (y9 X.K t):=⟨Cg (h:=h.h)⟩
theorem cR{r:V->Option Int->Option Int->Hp->VK->Prop}(hr:xz X r)(he:QE X e te)(hl:QO X lo tl)(hu:QO X hi th):QE X (.Subscript e (.Slice lo hi none p2) pos) (Hi r te tl th):=⟨yS (hr:=hr) (he:=he.h) (hl:=hl.h) (hu:=hu.h)⟩
theorem dZ  : QO X none qM:=⟨Ce ⟩
theorem dU(h:QE X e te):QO X (some e) (wu te):=⟨AU (h:=h.h)⟩
theorem aA{r:R2}(hr:uX X r)(ha:QE X a ta)(hb:QE X b tb)(hs:wk b):QE X (.Subscript a b pos) (BQ r ta tb):=⟨F9 (hr:=hr) (ha:=ha.h) (hb:=hb.h) (hs:=hs)⟩
theorem ai(C:aS X.prog X.w X.K X.mg X.base x ps k sp)(hr:ge k X.A)(hg:Gl X x)(ha:QA X (e :: es) t)(hdb:(x == ("__debug__" : Str))=false:=by decide) (he:starEach (e :: es) X.env=(false,eval e X.env) :: starEach es X.env:=by rfl)(hpl:(backTo pos (starEach es X.env)).any (·.1)=false:=by rfl) :
  QE X (.Call (.Name x p) (e :: es) [] pos) (Fb sp t):=⟨En (C:=C) (hr:=hr) (hg:=hg) (ha:=ha.h) (hdb:=hdb) (he:=he) (hpl:=hpl)⟩
theorem au(hc:fF X (.builtin id) r)(hg:Gl X x)(hm:X.mg x=none)(hv:bootBuiltins x=some (.builtin id))(ha:QA X (e :: es) t)(hn:x ≠ "__name__":=by decide) (hdb:(x == ("__debug__" : Str))=false:=by decide) (he:starEach (e :: es) X.env=(false,eval e X.env) :: starEach es X.env:=by rfl)(hpl:(backTo pos (starEach es X.env)).any (·.1)=false:=by rfl):QE X (.Call (.Name x p) (e :: es) [] pos) (AZ r t):=⟨yx (hc:=hc) (hg:=hg) (hm:=hm) (hv:=hv) (ha:=ha.h) (hn:=hn) (hdb:=hdb) (he:=he) (hpl:=hpl)⟩
theorem fM(hc:fF X (.type T) r)(hg:Gl X x)(hm:X.mg x=none)(hv:bootBuiltins x=some (.type T))(ha:QA X (e :: es) t)(hn:x ≠ "__name__":=by decide) (hdb:(x == ("__debug__" : Str))=false:=by decide) (he:starEach (e :: es) X.env=(false,eval e X.env) :: starEach es X.env:=by rfl)(hpl:(backTo pos (starEach es X.env)).any (·.1)=false:=by rfl):QE X (.Call (.Name x p) (e :: es) [] pos) (AZ r t):=⟨xw (hc:=hc) (hg:=hg) (hm:=hm) (hv:=hv) (ha:=ha.h) (hn:=hn) (hdb:=hdb) (he:=he) (hpl:=hpl)⟩
theorem pF(pa:PlainAttrs T)(slot:Slot T name id)(hty:typeOf (.builtin id)=pure (.type "method_descriptor")) (hm:GF X id r)(ho:QE X o to)(ha:QA X (e :: es) t)(hbase:attributeBase o name X.env (eval o X.env)=eval o X.env:=by rfl)(hfew:((backTo cpos (starEach (e :: es) X.env)).all (fun x=>!x.1) && (backToKw cpos (keywordEach [] X.env)).all (fun x=>x.1.isSome)
   && decide ((e :: es).length+([]:List Keyword).length+(if ([]:List Keyword).isEmpty then 0 else 1)<30))=true:=by rfl) (hline:(apos.endLine == cpos.line)=true:=by rfl)(hs:starEach (e :: es) X.env=(false,eval e X.env) :: starEach es X.env:=by rfl)(hplain:(backTo cpos (starEach es X.env)).any (·.1)=false:=by rfl) :
  QE X (.Call (.Attribute o name apos) (e :: es) [] cpos) (Ho X.K T r to t):=⟨F6 (pa:=pa) (slot:=slot) (hty:=hty) (hm:=hm) (ho:=ho.h) (ha:=ha.h) (hbase:=hbase) (hfew:=hfew) (hline:=hline) (hs:=hs) (hplain:=hplain)⟩
theorem Fx(pa:PlainAttrs T)(slot:Slot T name id)(hty:typeOf (.builtin id)=pure (.type "method_descriptor")) (hm:GF X id r)(ho:QE X o to)(hbase:attributeBase o name X.env (eval o X.env)=eval o X.env:=by rfl)(hline:(apos.endLine == cpos.line)=true:=by rfl):QE X (.Call (.Attribute o name apos) [] [] cpos) (EN X.K T r to):=⟨Ew (pa:=pa) (slot:=slot) (hty:=hty) (hm:=hm) (ho:=ho.h) (hbase:=hbase) (hline:=hline)⟩
theorem ac  : QA X [] D8:=⟨Dr ⟩
theorem aa(ha:QE X e te)(hr:QA X es t)(hs:starEach (e :: es) X.env=(false,eval e X.env) :: starEach es X.env:=by rfl):QA X (e :: es) (AD te t):=⟨Bx (ha:=ha.h) (hr:=hr.h) (hs:=hs)⟩
theorem aQ{op:CmpOp}{r:R2}(ho:eK X (compareOp op) r)(ha:QE X a ta)(hb:QE X b tb)(hm:behindInMarks op b=false):QT X (.Compare a [op] [b] pos) (vL (BQ r ta tb)):=⟨Cz (ho:=ho) (ha:=ha.h) (hb:=hb.h) (hm:=hm)⟩
theorem dO(ha:QT X a tA):QT X (.UnaryOp .Not a pos) (E2 tA):=⟨ES (ha:=ha.h)⟩
theorem QW.pt{X:Cx}{e:Expr}{t:TT}(h:QW X e t):QT X e t:=⟨PW.pt (h:=h.h)⟩
theorem gY(ha:QT X a tA):QW X (.BoolOp .And [a] pos) tA:=⟨Bm (ha:=ha.h)⟩
theorem iD(ha:QT X a tA)(hb:QW X (.BoolOp .And (b :: rest) pos) tB'):QW X (.BoolOp .And (a :: b :: rest) pos) (Ft tA tB'):=⟨Eh (ha:=ha.h) (hb:=hb.h)⟩
theorem kW(ha:QT X a tA):QW X (.BoolOp .Or [a] pos) tA:=⟨Ed (ha:=ha.h)⟩
theorem mh(ha:QT X a tA)(hb:QW X (.BoolOp .Or (b :: rest) pos) tB'):QW X (.BoolOp .Or (a :: b :: rest) pos) (GY tA tB'):=⟨FT (ha:=ha.h) (hb:=hb.h)⟩
theorem cX(ha:QE X a ta)(he:∀ whole,isTrue a X.env whole=(do let v <- whole;standAt a.pos;holding [v] (truthy v))) :
  QT X a (fun σ H Q=>ta σ H fun x H'=>∃ k,rJ X.K x H' k/\Q k H'):=⟨Af (ha:=ha.h) (he:=he)⟩
theorem dH{e:Expr}{t:TE}(h:QE X e t)(he:∀ whole,isTrue e X.env whole=(do let v <- whole;standAt e.pos;holding [v] (truthy v)):=by intro _;rfl):QT X e (tB t):=⟨Dw (h:=h.h) (he:=he)⟩
theorem ak{i:Nat}{x:Str}(hN:X.N.Nodup)(hi:X.N[i]? = some x)(hx:AM X.env.scope x)(hf:X.fn x=true\/X.env.scope.names.lookup x=some .local:=by first|exact .inl rfl|exact .inr rfl|assumption):QG X (.Name x pos) (gH i):=⟨BV (hN:=hN) (hi:=hi) (hx:=hx) (hf:=hf)⟩
theorem aX{es:List Expr}{k:Nat}{t:yh}{n:Nat}{pos:Pos}(hc:X.calm=true)(h:GN X es t)(hn:(assignEach es X.env).length=n:=by rfl)(hst:(assignEach es X.env).findIdx? (·.1)=none:=by rfl):QG X (.Tuple es k pos) (i6 X.K n t):=⟨A9 (hc:=hc) (h:=h.h) (hn:=hn) (hst:=hst)⟩
theorem aY  : GN X [] uu:=⟨Br ⟩
theorem am{e:Expr}{es:List Expr}{t:TG}{u:yh}(h1:QG X e t)(h2:GN X es u)(hs:(assignEach (e :: es) X.env).map (·.2)=assign e X.env :: (assignEach es X.env).map (·.2):=by rfl):GN X (e :: es) (jY t u):=⟨zu (h1:=h1.h) (h2:=h2.h) (hs:=hs)⟩
theorem tX{o i:Expr}{to ti:TE}{t:ud}(ho:QE X o to)(hi:QE X i ti)(hs:xI X t)(ha:∀ v,assign (.Subscript o i pos) X.env v=(do
   let ov <- holding [v] (eval o X.env)
   let iv <- holding [v,ov] (eval i X.env)
   standAt pos
   holding [v,ov,iv] (setItem ov iv v)
   release [v,ov,iv] []):=by intro _;rfl):QG X (.Subscript o i pos) (DD to ti t):=⟨FD (ho:=ho.h) (hi:=hi.h) (hs:=hs) (ha:=ha)⟩
theorem fg{a:Expr}{ta:TA}{p pos:Pos}(hg:Gl X "range") (hm:X.mg "range" = none) (ha:QA X [a] ta)(hs:starEach [a] X.env=[(false,eval a X.env)]:=by rfl):QI X tg (.Call (.Name "range" p) [a] [] pos) (wR ta):=⟨ya (hg:=hg) (hm:=hm) (ha:=ha.h) (hs:=hs)⟩
theorem wZ{a b:Expr}{ta:TA}{p pos:Pos}(hg:Gl X "range") (hm:X.mg "range" = none) (ha:QA X [a,b] ta)(hs:starEach [a,b] X.env=[(false,eval a X.env),(false,eval b X.env)]:=by rfl)(hs2:starEach [b] X.env=[(false,eval b X.env)]:=by rfl) :
  QI X tg (.Call (.Name "range" p) [a,b] [] pos) (Ae ta):=⟨xK (hg:=hg) (hm:=hm) (ha:=ha.h) (hs:=hs) (hs2:=hs2)⟩
theorem DK{l:Expr}{tl:TE}(hl:QE X l tl):QI X tg l (Fc X.K tl):=⟨EC (hl:=hl.h)⟩
theorem cu{l:Expr}{tl:TE}(hl:QE X l tl):QI X tg l (vJ X.K tl):=⟨Cf (hl:=hl.h)⟩
theorem ap(he:QE X e te):QS X (.Return (some e) pos) (D7 te):=⟨DN (he:=he.h)⟩
theorem jD(he:QE X e te)(hs:swapsWith e none pos.line X.env=pure false:=by rfl):QS X (.Expr e pos) (yl te):=⟨A2 (he:=he.h) (hs:=hs)⟩
theorem cc{c:Expr}{a b:List Stmt}{tc:TT}(hc:QT X c tc)(ha:AF X a t)(hb:AF X b u):QS X (.If c a b pos) (D3 tc t u):=⟨Gg (hc:=hc.h) (ha:=ha.h) (hb:=hb.h)⟩
theorem gG{c:Expr}{body:List Stmt}{tc:TT}{tb:TS}(hp:PassesOwn (model X.prog X.w) X.A X.env X.xe)(hc:QT X c tc)(hb:AF X body tb):QS X (.While c body [] pos) (zi tc tb):=⟨zg (hp:=hp) (hc:=hc.h) (hb:=hb.h)⟩
theorem cT{iter:Expr}{body:List Stmt}{wi:TI}{g:TG}{tb:TS}{pos:Pos}(hp:PassesOwn (model X.prog X.w) X.A X.env X.xe)(hc:X.calm=true)(hi:QI X tg iter wi)(hg:QG X tg g)(hb:AF X body tb)(hs:∀ x,foldedSetIterable iter X.env x=pure x:=by intro _;rfl):QS X (.For tg iter body [] pos) (EK wi g tb):=⟨DO (hp:=hp) (hc:=hc) (hi:=hi.h) (hg:=hg.h) (hb:=hb.h) (hs:=hs)⟩
theorem aC{i:Nat}{x:Str}{e:Expr}{te:TE}{pos':Pos}(hN:X.N.Nodup)(hi:X.N[i]? = some x)(hx:AM X.env.scope x)(he:QE X e te)(hs:swapsWith e (some (.Name x pos')) pos.line X.env=pure false:=by rfl)(hf:X.fn x=true\/X.env.scope.names.lookup x=some .local:=by first|exact .inl rfl|exact .inr rfl|assumption) :
  QS X (.Assign [.Name x pos'] e pos) (ux te (gH i)):=⟨Fo (hN:=hN) (hi:=hi) (hx:=hx) (he:=he.h) (hs:=hs) (hf:=hf)⟩
theorem qT{i j:Nat}{x y:Str}{a b:Expr}{ta:TA}{px py pt:Pos} {kt k2 pt2}(hc:X.calm=true)(hN:X.N.Nodup)(hi:X.N[i]? = some x)(hj:X.N[j]? = some y)(hij:i ≠ j)(hx:X.env.scope.names.lookup x=some .local)(hy:X.env.scope.names.lookup y=some .local)(ha:QA X [a,b] ta)(hw:swappedStores [.Tuple [.Name x px,.Name y py] kt pt] (.Tuple [a,b] k2 pt2) X.env=pure (some [x,y]))(hs:swapsWithSole [.Tuple [.Name x px,.Name y py] kt pt] (.Tuple [a,b] k2 pt2) pos.line X.env=pure false:=by rfl) :
  QS X (.Assign [.Tuple [.Name x px,.Name y py] kt pt] (.Tuple [a,b] k2 pt2) pos) (BJ i j ta):=⟨Fy (hc:=hc) (hN:=hN) (hi:=hi) (hj:=hj) (hij:=hij) (hx:=hx) (hy:=hy) (ha:=ha.h) (hw:=hw) (hs:=hs)⟩
theorem cM{tg e:Expr}{te:TE}{g:TG}(he:QE X e te)(hg:QG X tg g)(hs:swapsWithSole [tg] e pos.line X.env=pure false:=by rfl)(hw:swappedStores [tg] e X.env=pure none:=by rfl)(h1:(assignEach [tg] X.env).map (·.2)=[assign tg X.env]:=by rfl):QS X (.Assign [tg] e pos) (ux te g):=⟨EI (he:=he.h) (hg:=hg.h) (hs:=hs) (hw:=hw) (h1:=h1)⟩
theorem iC{i:Nat}{x:Str}{e:Expr}{te:TE}{op:Operator}{ti:zZ}{pos':Pos}(hN:X.N.Nodup)(hi:X.N[i]? = some x)(hx:AM X.env.scope x)(he:QE X e te)(ho:Ci X op ti)(hf:X.fn x=true\/X.env.scope.names.lookup x=some .local:=by first|exact .inl rfl|exact .inr rfl|assumption) :
  QS X (.AugAssign (.Name x pos') op e pos) (DZ i te ti):=⟨Eg (hN:=hN) (hi:=hi) (hx:=hx) (he:=he.h) (ho:=ho) (hf:=hf)⟩
theorem kJ{o i e:Expr}{to ti te:TE}{tget:V->V->Hp->VK->Prop}{tip:zZ}{tset:ud}{op:Operator}{tpos:Pos}(ho:QE X o to)(hi:QE X i ti)(hg:D5 X tget)(he:QE X e te)(hp:Ci X op tip)(hs:xI X tset)(ha:∀ ov iv new,augStore i ov iv new=(do holding [new,ov,iv] (setItem ov iv new);release [new,ov,iv] [];pure .next):=by intros;rfl):QS X (.AugAssign (.Subscript o i tpos) op e pos) (nW to ti te tget tip tset):=⟨BI (ho:=ho.h) (hi:=hi.h) (hg:=hg) (he:=he.h) (hp:=hp) (hs:=hs) (ha:=ha)⟩
theorem aN  : AF X [] zh:=⟨BH ⟩
theorem ah(h1:QS X st t):AF X [st] t:=⟨A6 (h1:=h1.h)⟩
theorem ae(h1:QS X st t)(h2:AF X rest' u):AF X (st :: rest') (aR t u):=⟨Aj (h1:=h1.h) (h2:=h2.h)⟩
theorem BC{X:Cx}{st:Stmt}{rest':List Stmt}{t u:TS}(h1:QS X st t)(h2:AF X rest' u):AF X (st :: rest') (zU t u):=⟨CD (h1:=h1.h) (h2:=h2.h)⟩
theorem dg{X:Cx}:QF X [] Ee:=⟨FE ⟩
theorem qv(i:Nat){x:Str}{pos:Pos}(hN:X.N[i]? = some x:=by rfl)(hv:Gv X.env.scope x:=by first|exact Or.inl rfl|exact Or.inr (Or.inl rfl)|exact Or.inr (Or.inr rfl))(hd:(x == ("__debug__" : Str))=false:=by decide) (hcd:(x == ("__classdict__" : Str))=false:=by decide):QE X (.Name x pos) (CU i):=⟨pv (i:=i) (hN:=hN) (hv:=hv) (hd:=hd) (hcd:=hcd)⟩
theorem dF{tg iter elt:Expr}{ifs:List Expr}{scope:Scope}{wi:TI}{g:TG}{tif:TT}{te:TE}{cl:List (Str × Addr)}{own outs:List Str}{ixs:List Nat}
  (hc:X.calm=true)(hi:QI X tg iter wi)(hclos:closureFor scope X.env=pure cl)(S:nI X scope cl own outs ixs)
  (hb:∀ C s H ex,QG (mx X scope cl (own ++ outs) C s H ex) tg g/\QF (mx X scope cl (own ++ outs) C s H ex) ifs tif/\QE (mx X scope cl (own ++ outs) C s H ex) elt te)
  (hs:∀ x,foldedSetIterable iter X.env x=pure x:=by intro _;rfl):QE X (.ListComp elt [⟨tg,iter,ifs,0⟩] scope pos) (sF X.K wi own.length ixs g tif te) :=
 ⟨BW hc hi.h hclos S (fun C s H ex=>⟨(hb C s H ex).1.h,(hb C s H ex).2.1.h,(hb C s H ex).2.2.h⟩) hs⟩
theorem kQ{tg iter elt:Expr}{ifs:List Expr}{scope:Scope}{spos py:Pos}{y:Str}{i:Nat}{wi:TI}{g:TG}{tif:TT}{te:TE}{cl:List (Str × Addr)}{own outs:List Str}{ixs:List Nat}
  (hN:X.N.Nodup)(hy:X.N[i]? = some y)(hx:AM X.env.scope y)(hc:X.calm=true)(hi:QI X tg iter wi)(hclos:closureFor scope X.env=pure cl)(S:nI X scope cl own outs ixs)
  (hb:∀ C s H ex,QG (mx X scope cl (own ++ outs) C s H ex) tg g/\QF (mx X scope cl (own ++ outs) C s H ex) ifs tif/\QE (mx X scope cl (own ++ outs) C s H ex) elt te)
  (hsw:swapsWith (.ListComp elt [⟨tg,iter,ifs,0⟩] scope pos) (some (.Name y py)) spos.line X.env=pure true:=by rfl)
  (hs:∀ x,foldedSetIterable iter X.env x=pure x:=by intro _;rfl)(hf:X.fn y=true\/X.env.scope.names.lookup y=some .local:=by first|exact .inl rfl|exact .inr rfl|assumption) :
  QS X (.Assign [.Name y py] (.ListComp elt [⟨tg,iter,ifs,0⟩] scope pos) spos) (ux (sF X.K wi own.length ixs g tif te) (gH i)) :=
 ⟨Bj hN hy hx hc hi.h hclos S (fun C s H ex=>⟨(hb C s H ex).1.h,(hb C s H ex).2.1.h,(hb C s H ex).2.2.h⟩) hsw hs hf⟩
end
section
variable {P:Program}{w:World}{K:W.Frag}{mg:Str->Option Value}{base:Heap}
theorem eM.okQ{x qual:Str}{st:Stmt}{f:Addr}{fd:FuncData}{N ps:List Str}{k:Nat}{sp:Sp}(F:eM K x qual st f fd)(S:aw N ps (ag st))(len:∀ vs H Q E,sp vs H Q E->vs.length=ps.length)
  (hbody:∀ (cdv:Value)(A:Around)(outer:List Env)(s:Shared)(H:Hp)(vs:List V)(Q:VK)(E:XK),ge k (A.deeper (envOfC qual (ag st) s.heap.objs.size f cdv))->sp vs H Q E ->
   ∃ t,AF (qE eI P w K mg base N qual (ag st) f cdv A outer s H E).nox (aq st) t/\t { nx:=fun _ H'=>Q .non H',rt:=Q } (start N vs) H):bK P w K mg base eI (k+1) f fd ps sp :=
 F.ok S len fun cdv A outer s H vs Q E hr h=>(hbody cdv A outer s H vs Q E hr h).imp fun t z=>⟨z.1.h,z.2⟩
end
end L2
namespace L2
open PySem PySem.Spec PyProof.Rows
section
variable {X:Cx}{pins:List (Addr × Obj)}{σ:St}{H:Hp}{s:Shared}{h':Heap}
theorem aK.turnT{t':Nat}{ch:List Addr}{T:Addr}{xs:List V}{its:List Value}(I:aK X pins σ H s)(k:∀ b o,b ∉ ch->s.heap.get? b=some o->h'.get? b=some o)(hf:∀ b ∈ ch,lJ X pins H b)
  (hT:s.heap.objs.size<=T)(hz:xs.length<=sizeLine)(rv:bA xs its)(ht:IsTup h' T its.toArray):aK X pins σ (upd H T (.tup xs)) { s with heap:=h',toks:=t' }:=by
 have hn:H T=none:=I.hok.fresh hT
 have nT:∀ b o,s.heap.get? b=some o->b ≠ T:=fun b o e=>Nat.ne_of_lt (Nat.lt_of_lt_of_le (Heap.lt_size e) hT)
 refine I.step (g':=s.gens) (d':=s.drawn) (ch:=ch) (fun b hb=>?_) (fun b o _ _ hc e _=>k b o hc e) (fun b o _ _ hc e _=>⟨o.slots,k b o hc e⟩) (fun b o _ e n=>?_)
  (fun b o hc e=>⟨o,k b o hc e⟩) (fun b ys e=>?_) (fun b o u e=>?_) (fun b ps e=>⟨#[],?_⟩) (fun m hm=>?_) (fun b u e=>?_) I.bare
 ·obtain⟨_,f1,_,f3,f4,f5⟩:=hf b hb
  exact⟨f3,f1,f4,f5⟩
 ·rw[cm (nT b o e)]
  exact n
 ·rw[cm (aj e hn)]
  exact e
 ·rw[cm (aj e hn)]
  exact e
 ·rw[cm (aj e hn),e]
  simp
 ·obtain⟨o,es,ep,ho,r⟩:=hm
  exact⟨o,es,ep,k _ o (fun z=>(hf _ z).2.1 rfl) ho,r⟩
 ·by_cases hb:b=T
  ·subst hb
   rw[cJ] at e
   cases e
   exact⟨hz,its,rv,ht⟩
  ·rw[cm hb] at e
   have nch:∀ c v,H c=some v->c ∉ ch:=fun c v z hc=>by
    rw[(hf c hc).1] at z
    cases z
   refine (I.hok b u e).stay (fun c v hc q=>k c v ?_ q) (fun c q=>?_) fun c ys q=>?_
   ·rcases hc with z|z
    ·rw[z]
     exact nch b u e
    ·exact nch c _ z
   ·rw[cm (aj q hn)]
    exact q
   ·rw[cm (aj q hn)]
    exact q
end
def ER(K:W.Frag)(R:Hp->List (List V)->Prop):It :=
 ⟨fun i H=>∃ ys t,R H ys/\ys[i]? = some t,fun i H x H'=>∃ p t,x = .ref p/\vw K H p=none/\ay (vw K H) (vw K H')/\vw K H' p=some (.tup t) /\ ∀ ys,R H ys->ys[i]? = some t,fun i H=>∃ ys,R H ys/\ys.length=i⟩
def yi(K:W.Frag)(a:Addr):Hp->List (List V)->Prop:=fun H ys=>∃ xs,H a=some (.lst xs)/\ys=xs.mapIdx fun i x=>[V.int i,x]
theorem xV{P:Program}{w:World}{K:W.Frag}{elts:List Expr}{x1:Nat}{pos:Pos}(a e it:Addr)(hne:e ≠ it)(ha:a ≠ e)(ha2:a ≠ it) :
  uJ P w K (.Tuple elts x1 pos) (ER K (yi K a)) [e,it] e (fun i h=>(∃ old,IsEnum h e it (i:Int) old)/\h.IsListIter it a i) where
 mem:=by simp
 obj:=fun i h st b hb=>by
  obtain⟨⟨old,h1⟩,o,h2,c,d⟩:=st
  simp only[List.mem_cons,List.not_mem_nil,or_false] at hb
  rcases hb with rfl|rfl
  ·exact⟨_,h1,fun v z=>by cases z⟩
  ·exact⟨o,h2,fun v z=>by rw[d] at z;cases z⟩
 keep:=fun i h h' st k=>by
  obtain⟨⟨old,h1⟩,h2⟩:=st
  exact⟨⟨old,k e (by simp) _ h1⟩,h2.at fun o z=>k it (by simp) o z⟩
 item:=by
  intro X hP hw hK hc i pins s σ H E I hf st hg
  subst hP hw hK
  obtain⟨⟨old,h1⟩,h2⟩:=st
  obtain⟨ys,t,⟨xs,hxs,rfl⟩,ht⟩:=hg
  rw[List.getElem?_mapIdx] at ht
  cases hx:xs[i]? with
  | none=>rw[hx] at ht;cases ht
  | some x =>
   rw[hx] at ht
   cases ht
   obtain⟨its,rv,p,hz⟩:=I.list (j6.of (K:=X.K) hxs)
   obtain⟨u,hu,ru⟩:=rv.get hx
   refine wpAny_pyNext_enum_item h1 h2 p.isList (x:=u) (by simpa using hu) hne fun h3 heo hit ht3 hz3 hk3=>⟨_,rfl,?_⟩
   refine wpAny_letOwnedTupleGo_enum (s:={ s with heap:=h3,toks:=s.toks+1 }) heo fun h4 he4 hs4=>?_
   have hes:e<s.heap.objs.size:=Heap.lt_size h1
   have ht4:=hs4.extBut _ _ (Nat.ne_of_gt hes) ht3
   have k4:∀ b o,b ∉ [e,it]->s.heap.get? b=some o->h4.get? b=some o:=fun b o hb z=>by
    simp only[List.mem_cons,List.not_mem_nil,or_false,not_or] at hb
    exact hs4.extBut _ _ hb.1 (hk3 b o hb.1 hb.2 z)
   have I4:aK X pins σ (upd H s.heap.objs.size (.tup [.int i,x])) { s with heap:=h4,toks:=s.toks+1 } :=
    I.turnT (its:=[.int i s.toks,u]) k4 hf (Nat.le_refl _) (show 2<=sizeLine by decide) (.cons ⟨_,rfl⟩ (.cons ru .nil)) ⟨_,ht4,rfl,_,rfl⟩
   have fr:=I.hok.fresh (Nat.le_refl s.heap.objs.size)
   have nk:=I.newK (Nat.le_refl s.heap.objs.size)
   refine⟨.ref s.heap.objs.size,_,I4,rfl,⟨_,_,rfl,by rw[eE nk];exact fr,ky (ay.upd fr),by rw[eE nk];exact cJ,?_⟩,⟨⟨_,he4⟩,hit.extBut hs4.extBut hne.symm⟩,fun b hb=>?_⟩
   ·rintro ys ⟨zs,hzs,rfl⟩
    rw[hxs] at hzs
    cases hzs
    rw[List.getElem?_mapIdx,hx]
    rfl
   ·have:b<s.heap.objs.size:=by
     simp only[List.mem_cons,List.not_mem_nil,or_false] at hb
     rcases hb with rfl|rfl
     ·exact hes
     ·obtain⟨_,z,_⟩:=h2
      exact Heap.lt_size z
    rw[cm (Nat.ne_of_lt this)]
    exact (hf b hb).1
 done:=by
  intro X hP hw hK hc i pins s σ H E I hf st hg
  subst hP hw hK
  obtain⟨⟨old,h1⟩,h2⟩:=st
  obtain⟨ys,⟨xs,hxs,rfl⟩,hl⟩:=hg
  obtain⟨its,rv,p,hz⟩:=I.list (j6.of (K:=X.K) hxs)
  have hl':=rv.length
  rw[List.length_mapIdx] at hl
  obtain⟨f0,f1,f2,f3,f4,f5⟩:=hf it (by simp)
  exact wpAny_pyNext_enum_end (I.ok.hd hc) h1 h2 p.isList (by simp;walk_at"o") fun h' eb=>⟨rfl,I.turned (t':=s.toks) (fun b o hb z=>eb b o hb z) f0 f1 f3 f4 f5⟩
 self:=fun _ _ _ _ _ st h=>by
  obtain⟨⟨old,h1⟩,_⟩:=st
  exact wpAny_pyIter_enum h1 h
def mC(K:W.Frag)(ta:TA):TI:=fun σ H R=>ta σ H fun vs H1=>∃ a,vs=[.ref a]/\(∃ xs,vw K H1 a=some (.lst xs))/\R (ER K (yi K a)) H1
theorem BK{X:Cx}{elts:List Expr}{x1:Nat}{tp p pos:Pos}{a:Expr}{ta:TA}(hg:Gl X "enumerate") (hm:X.mg "enumerate" = none) (ha:PA X [a] ta)(hs:starEach [a] X.env=[(false,eval a X.env)]:=by rfl) :
  PI X (.Tuple elts x1 tp) (.Call (.Name "enumerate" p) [a] [] pos) (mC X.K ta):=by
 intro pins s σ H R I h
 refine Call_ (i7 I hg hm rC (PyProof.Rows.callWith_type1 (cQ (ha pos pins s σ H _ I h) fun us s1 ⟨vs,H1,I1,r1,q1⟩=>?_) hs rfl))
 obtain⟨b,e,⟨xs,hx⟩,q⟩:=q1
 subst e
 cases r1 with
 | cons r rr =>
  cases rr
  cases r
  have hx':=aF hx
  obtain⟨hz,its,n,rv,ho⟩:=I1.hok b _ hx'
  refine call_enumerate_1 ho fun h2 he hit hsz hk=>?_
  refine wpAny_pyIter_enum (s:={ s1 with heap:=h2 }) he ?_
  have hb:b<s1.heap.objs.size:=Heap.lt_size ho
  refine⟨_,[s1.heap.objs.size+1,s1.heap.objs.size],_,_,H1,rfl,I1.kept (t':=s1.toks) hk,xV b _ _ (Nat.ne_of_gt (Nat.lt_succ_self _)) (Nat.ne_of_lt (Nat.lt_succ_of_lt hb)) (Nat.ne_of_lt hb),⟨⟨_,he⟩,hit⟩,fun c hc=>?_,q⟩
  have hc':s1.heap.objs.size<=c:=by
   simp only[List.mem_cons,List.not_mem_nil,or_false] at hc
   rcases hc with z|z
   ·rw[z]
    exact Nat.le_succ _
   ·rw[z]
    exact Nat.le_refl _
  exact I1.fpOk hc' (I1.hok.fresh hc')
theorem iV{K:W.Frag}{R:Hp->List (List V)->Prop}{rows:List (List V)}{g:TG}{tb:TS}{D:mH}{σ:St}{H:Hp}(Pv:Nat->St->Hp->Prop)(hl:∀ i σ H,i<=rows.length->Pv i σ H->R H rows)(h0:Pv 0 σ H)
  (hs:∀ i t σ H p H',i<rows.length->rows[i]? = some t->Pv i σ H->vw K H p=none->ay (vw K H) (vw K H')->vw K H' p=some (.tup t)->g (.ref p) σ H' fun σ2 H2=>tb { D with nx:=Pv (i+1),ct:=Pv (i+1),bk:=D.nx } σ2 H2)
  (hd:∀ σ H,Pv rows.length σ H->D.nx σ H):vo (ER K R) g tb D σ H:=by
 refine⟨fun i m σ H=>m=rows.length - i/\i<=rows.length/\Pv i σ H,⟨rows.length,by simp,Nat.zero_le _,h0⟩,?_⟩
 rintro i m σ H ⟨rfl,hi,p⟩
 have q:=hl i σ H hi p
 by_cases hlt:i<rows.length
 ·refine .inr ⟨⟨rows,rows[i],q,by simp[hlt]⟩,Pv (i+1),fun σ' H' p'=>⟨rows.length - (i+1),by walk_at"o",rfl,hlt,p'⟩,fun x H' y=>?_⟩
  obtain⟨a,t,rfl,y1,y2,y3,y4⟩:=y
  exact hs i t σ H a H' hlt (y4 rows q) p y1 y2 y3
 ·have e:i=rows.length:=by walk_at"o"
  subst e
  exact .inl ⟨⟨rows,q,rfl⟩,hd σ H p⟩
theorem jI{X:Cx}{elts:List Expr}{x1:Nat}{tp p pos:Pos}{a:Expr}{ta:TA}(hg:Gl X "enumerate") (hm:X.mg "enumerate" = none) (ha:QA X [a] ta)(hs:starEach [a] X.env=[(false,eval a X.env)]:=by rfl) :
  QI X (.Tuple elts x1 tp) (.Call (.Name "enumerate" p) [a] [] pos) (mC X.K ta):=⟨BK hg hm ha.h hs⟩
end L2
namespace L2
open PySem PySem.Spec PyProof.Rows
def Bq(n:Nat)(q:Int × Int):Prop:=Bt n q.1/\Bt n q.2
theorem Bq.mono{m n:Nat}{q:Int × Int}(h:Bq m q)(hl:m<=n):Bq n q:=⟨h.1.mono hl,h.2.mono hl⟩
def sD(p q:Int × Int):Bool:=decide (p.1*q.2<q.1*p.2)
def rO(p q:Int × Int):Int × Int:=lo (p.1*q.2+q.1*p.2) (p.2*q.2)
theorem yB{a b:Int}(hb:0<b):0<lg a b:=by
 unfold lg
 rw[if_neg (by walk_at"o")]
 have:Int.gcd a b ≠ 0:=fun e=>by
  have:=(Int.gcd_eq_zero_iff.mp e).2
  walk_at"o"
 walk_at"o"
theorem oB{a b:Int}{n:Nat}(hb:b ≠ 0)(h1:Bt n a)(h2:Bt n b):Bq n (lo a b):=by
 have e1:=eX (a:=a) hb
 have e2:=fH (a:=a) hb
 have hl:0<(lg a b).natAbs:=by have:=zF (a:=a) hb;walk_at"o"
 constructor
 ·unfold Bt at *
  have:=Int.natAbs_mul (lo a b).1 (lg a b)
  rw[e1] at this
  have:=Nat.le_mul_of_pos_right (lo a b).1.natAbs hl
  walk_at"o"
 ·unfold Bt at *
  have:=Int.natAbs_mul (lo a b).2 (lg a b)
  rw[e2] at this
  have:=Nat.le_mul_of_pos_right (lo a b).2.natAbs hl
  walk_at"o"
theorem rg{p q:Int × Int}(hp:Fq p)(hq:Fq q):Fq (rO p q):=ir (by have:=Int.mul_pos hp.1 hq.1;walk_at"o")
theorem A3{p q:Int × Int}(hp:Fq p)(hq:Fq q)(h0:0<q.1):sD p (rO p q)=true:=by
 have hd:0<p.2*q.2:=Int.mul_pos hp.1 hq.1
 have hb:p.2*q.2 ≠ 0:=by walk_at"o"
 have e1:=eX (a:=p.1*q.2+q.1*p.2) hb
 have e2:=fH (a:=p.1*q.2+q.1*p.2) hb
 have hg:=yB (a:=p.1*q.2+q.1*p.2) hd
 unfold sD rO
 generalize lo (p.1*q.2+q.1*p.2) (p.2*q.2)=r at *
 generalize lg (p.1*q.2+q.1*p.2) (p.2*q.2)=g at *
 apply decide_eq_true
 apply Int.lt_of_mul_lt_mul_right _ (Int.le_of_lt hg)
 have z1:p.1*r.2*g=p.1*(p.2*q.2):=by rw[Int.mul_assoc,e2]
 have z2:r.1*p.2*g=(p.1*q.2+q.1*p.2)*p.2:=by rw[<- e1];rw[Int.mul_right_comm]
 rw[z1,z2]
 have hq2:0<q.1*p.2*p.2:=Int.mul_pos (Int.mul_pos h0 hp.1) hp.1
 have z3:(p.1*q.2+q.1*p.2)*p.2=p.1*(p.2*q.2)+q.1*p.2*p.2:=by
  rw[Int.add_mul,Int.mul_assoc p.1 q.2 p.2,Int.mul_comm q.2 p.2]
 walk_at"o"
theorem vF{p q:Int × Int}{m n:Nat}(hp:Fq p)(hq:Fq q)(h1:Bq m p)(h2:Bq n q):Bq (m+n+1) (rO p q):=by
 refine oB (by have:=Int.mul_pos hp.1 hq.1;walk_at"o") ?_ ?_
 ·have:=(h1.1.mul h2.2).add (h2.1.mul h1.2)
  exact this.mono (by walk_at"o")
 ·exact (h1.2.mul h2.2).mono (by walk_at"o")
def ik(G:Hp)(a:Addr)(ds:List D):Prop:=∃ xs,G a=some (.lst xs)/\aE G ds xs
section
variable {G G':Hp}{a l:Addr}{ds:List D}{xs:List V}
theorem ik.same(h:ik G a ds)(S:ay G G'):ik G' a ds:=by
 obtain⟨ys,h1,h2⟩:=h
 exact⟨ys,S _ _ h1,h2.same S⟩
theorem ik.but(h:ik G a ds)(hf:D.flats ds=true)(hl:G l=some (.lst xs))(hn:a ≠ l)(S:iT l G G'):ik G' a ds:=by
 obtain⟨ys,h1,h2⟩:=h
 exact⟨ys,S _ _ hn h1,aE.flat_but hl S _ _ hf h2⟩
theorem ik.ne_st{st:Addr}(h:ik G a ds)(hd:∀ i b,ds ≠ [.int i,.bl b])(hst:gj G st):a ≠ st:=by
 rintro rfl
 obtain⟨ys,h1,h2⟩:=h
 obtain⟨x,b,h3,_⟩:=hst
 rw[h1] at h3
 cases h3
 exact hd _ _ (aJ.lst_st h2)
theorem ik.stBut{st:Addr}(h:ik G a ds)(hf:D.flats ds=true)(hd:∀ i b,ds ≠ [.int i,.bl b])(hst:gj G st)(S:iT st G G'):ik G' a ds:=by
 obtain⟨x,b,h3,h4⟩:=id hst
 exact h.but hf h3 (h.ne_st hd hst) S
end
theorem kg{K:W.Frag}{H:Hp}{p:Addr}{xs:List V}(h:vw K H p=some (.lst xs)):GA K "list" (.ref p) H:=.inl ⟨rfl,xs,.of (aF h)⟩
theorem ik.ty{K:W.Frag}{H:Hp}{p:Addr}{ds:List D}(h:ik (vw K H) p ds):GA K "list" (.ref p) H:=by
 obtain⟨xs,h,_⟩:=h
 exact kg h
abbrev dQ:=(Int × Int) × (Int × Int)
def sR(c:dQ):D:=.tup [fr c.1,fr c.2]
theorem fT:∀(cs:List dQ),D.flats (cs.map sR)=true
 | []=>by simp[D.flats]
 | c :: cs=>by
  rw[List.map_cons]
  unfold D.flats
  rw[fT cs]
  simp[sR,D.flat,D.flats,cr]
theorem nQ(cs:List dQ):∀ i b,cs.map sR ≠ [.int i,.bl b]:=fun i b e=>by
 cases cs with
 | nil=>cases e
 | cons c cs =>
  rw[List.map_cons] at e
  have:=(List.cons.inj e).1
  unfold sR at this
  cases this
theorem aJ.spt_at{H:Hp}{c:dQ}{v:V}(h:aJ H (sR c) v):∃ a x y,v = .ref a/\H a=some (.tup [x,y])/\aJ H (fr c.1) x/\aJ H (fr c.2) y:=by
 obtain⟨a,xs,rfl,ha,r⟩:=h.tup_at
 obtain⟨d1,d2,x1,x2,e1,rfl,r1,r2⟩:=r.pair (by rw[r.length];rfl)
 cases e1
 exact⟨a,x1,x2,rfl,ha,r1,r2⟩
theorem aJ.mk_spt{H:Hp}{c:dQ}{a:Addr}{x y:V}(h:H a=some (.tup [x,y]))(h1:aJ H (fr c.1) x)(h2:aJ H (fr c.2) y):aJ H (sR c) (.ref a):=.mk_tup h (.mk_cons h1 (.mk_cons h2 .mk_nil))
end L2
namespace L2
open PySem PySem.Spec PyProof.Rows
section
variable {K:W.Frag}{σ:St}{H0:Hp}{t u:TE}{ta:TA}{b c:Bool}{m n:Nat}
variable {st:Addr}
end
end L2
namespace L2
open PySem PySem.Spec PyProof.Rows
section
variable {prog:Program}{w:World}{A:Around}{E:Value->Shared->Prop}{s:Shared}
theorem yw{it t:Addr}{i:Nat}{its:Array Value}{x:Value}{Q:Value->Shared->Prop}(a:s.heap.IsTupleIter it t i)(b:s.heap.IsTuple t its)(c:its[i]? = some x)
  (q:∀ g,g.IsTupleIter it t (i+1)->Heap.SameBut it s.heap g->Q x { s with heap:=g }):wpAny (model prog w) A (Builtin.SmallTypes.nextOf (.ref it)) Q E s:=by
 obtain⟨u,a1,a2,a3⟩:=id a
 obtain⟨v,b1,_,bn,b2⟩:=b
 unfold Builtin.SmallTypes.nextOf
 refine wpAny_bind (wpAny_callSpecial?_slot (name:=Str.ofString "__next__") a.typeIs F.slot_tuple_iterator_next (wpAny_call_entry F.slot_tuple_iterator_next a.typeIs F.entry_tuple_iterator_next ?_ (F.args_tuple_iterator_next_1 _)))
 show wpAny _ _ (field (.ref it) 0 >>= _) _ _ s;refine wpAny_bind (wpAny_field a1 a3 (x:=.ref t) rfl ?_)
 show wpAny _ _ (if (Value.ref t == Value.none)=true then _ else _) _ _ s;rw[if_neg (show ¬ ((Value.ref t == Value.none)=true) from Bool.false_ne_true)]
 show wpAny _ _ (field (.ref it) 1 >>= _) _ _ s;refine wpAny_bind (wpAny_field a1 a3 (x:=.int i 0) rfl ?_)
 show wpAny _ _ (seqItems? (.ref t) >>= _) _ _ s;refine wpAny_bind (wpAny_seqItems b1 b2 ?_)
 simp only[Int.toNat_natCast,c]
 refine wpAny_bind (wpAny_setField a1 a3 (by simp) (wpAny_pure ⟨x,rfl,wpAny_pure (q _ ?_ (Heap.SameBut.update ..))⟩))
 exact⟨_,Heap.get?_update_self _ a1 (Obj.isFreed_of_fields (Obj.data_mapFields a3 _)),(Obj.cls_mapFields ..).trans a2,by rw[Obj.data_mapFields a3];simp[rawInt]⟩
theorem rn{it t:Addr}{i:Nat}{its:Array Value}{Q:Value->Shared->Prop}(hh:A.handled=none)(a:s.heap.IsTupleIter it t i)(b:s.heap.IsTuple t its)(c:its[i]? = none)
  (q:∀ g e,Heap.ExtBut it s.heap g->(∃ o,g.get? e=some o/\o.cls = .type "StopIteration")->E (.ref e) { s with heap:=g }):wpAny (model prog w) A (Builtin.SmallTypes.nextOf (.ref it)) Q E s:=by
 obtain⟨u,a1,a2,a3⟩:=id a
 obtain⟨v,b1,_,bn,b2⟩:=b
 unfold Builtin.SmallTypes.nextOf
 refine wpAny_bind (wpAny_callSpecial?_slot (name:=Str.ofString "__next__") a.typeIs F.slot_tuple_iterator_next (wpAny_call_entry F.slot_tuple_iterator_next a.typeIs F.entry_tuple_iterator_next ?_ (F.args_tuple_iterator_next_1 _)))
 show wpAny _ _ (field (.ref it) 0 >>= _) _ _ s;refine wpAny_bind (wpAny_field a1 a3 (x:=.ref t) rfl ?_)
 show wpAny _ _ (if (Value.ref t == Value.none)=true then _ else _) _ _ s;rw[if_neg (show ¬ ((Value.ref t == Value.none)=true) from Bool.false_ne_true)]
 show wpAny _ _ (field (.ref it) 1 >>= _) _ _ s;refine wpAny_bind (wpAny_field a1 a3 (x:=.int i 0) rfl ?_)
 show wpAny _ _ (seqItems? (.ref t) >>= _) _ _ s;refine wpAny_bind (wpAny_seqItems b1 b2 ?_)
 simp only[Int.toNat_natCast,c]
 refine wpAny_bind (wpAny_rule (wpAny_bind (wpAny_setField a1 a3 (by simp) ?_)));show wpAny _ _ (newExc (.type "StopIteration") [] >>= _) _ _ _
 refine wpAny_bind ?_;simp only[newExc,newTuple];refine wpAny_bind (wpAny_newObj_type ?_ (by size_fits))
 refine wpAny_bind (m:=firstArgMember _ _) (wpAny_of_eq (a:=Value.none) (by first|rfl|(simp only[firstArgMember];rfl)) ?_);refine wpAny_newObj_type ?_ (by size_fits)
 simp only[raiseNew];refine wpAny_bind (wpAny_handled ?_)
 (first|rw[show A.in1.handled=none from hh]|rw[hh]);refine wpAny_bind (wpAny_pure (wpAny_throw ?_))
 exact q _ _ (((Heap.SameBut.update ..).extBut.push _).push _) ⟨_,Heap.get?_push_size _ rfl,rfl⟩
end
theorem xX{prog:Program}{w:World}{A:Around}(hh:A.handled=none)(it l:Addr)(hne:l ≠ it)(its:Array Value) :
  Draws prog w A it [it,l] its.size (fun i v=>its[i]? = some v) (fun i h=>h.IsTupleIter it l i/\h.IsTuple l its) where
 live:=fun _ _ st=>let ⟨o,ho,_⟩:=st.1;⟨o,ho⟩
 frame:=fun _ _ _ st hk=>⟨(let ⟨o,ho,r⟩:=st.1;⟨o,hk it (by simp) o ho,r⟩),(let ⟨o,ho,r⟩:=st.2;⟨o,hk l (by simp) o ho,r⟩)⟩
 item:=fun i s Q E hi st q=>yw st.1 st.2 (x:=its[i]) (by simp[hi]) fun g a b=>q _ g s.toks (by simp[hi]) ⟨a,st.2.extBut b.extBut hne⟩ b
 done:=fun s Q E st q=>rn hh st.1 st.2 (by simp) q
section
variable {prog:Program}{w:World}{A:Around}{E:Value->Shared->Prop}{s:Shared}{z TI TO i1 i2:Addr}{f1 f2:List Addr}{n1 n2 k:Nat}{P1 P2:Nat->Value->Prop}{T1 T2:Nat->Heap->Prop}{a b:Value}
structure lE (z TI TO i1 i2:Addr)(f1 f2:List Addr):Prop where
 tiz:TI ≠ z
 toz:TO ≠ z
 tito:TI ≠ TO
 ti1:TI ≠ i1
 ti2:TI ≠ i2
 to1:TO ≠ i1
 to2:TO ≠ i2
 z1:z ≠ i1
 z2:z ≠ i2
 n12:i1 ≠ i2
 zf1:z ∉ f1
 zf2:z ∉ f2
 tf1:TO ∉ f1
 tf2:TO ∉ f2
 if1:i2 ∉ f1
 if2:i1 ∉ f2
theorem wW{Q:Value->Shared->Prop}(D1:Draws prog w A i1 f1 n1 P1 T1)(D2:Draws prog w A i2 f2 n2 P2 T2)(Z:lE z TI TO i1 i2 f1 f2)(hz:IsZip s.heap z TI TO .none)(hTI:IsPair s.heap TI (.ref i1) (.ref i2))(hTO:IsPair s.heap TO a b)
  (h1:T1 k s.heap)(h2:T2 k s.heap)(k1:k<n1)(k2:k<n2)
  (hQ:∀ x y g tk,P1 k x->P2 k y->IsZip g z TI TO (rawInt s.heap.objs.size)->IsPair g TO x y->T1 (k+1) g->T2 (k+1) g->IsPair g s.heap.objs.size x y->g.objs.size=s.heap.objs.size+1 ->
   (∀ c o,c ∉ [z,TO,i1,i2]->s.heap.get? c=some o->g.get? c=some o)->Q (.ref s.heap.objs.size) { s with heap:=g,toks:=tk }) :
  wpAny (model prog w) A (Builtin.«zip.__next__» ⟨[.ref z],[]⟩) (fun fin s'=>∃ v,fin = .done (.ret v)/\Q v s') E s:=by
 show wpAny _ _ (field (.ref z) 2 >>= _) _ _ _;refine wpAny_bind (wpAny_field hz rfl (x:=.bool false) rfl ?_)
 show wpAny _ _ (field (.ref z) 3 >>= _) _ _ _;refine wpAny_bind (wpAny_field hz rfl (x:=.ref TI) rfl ?_)
 refine wpAny_bind (wpAny_seqItems hTI rfl ?_);show wpAny _ _ (Builtin.SmallTypes.ownedTupleIsFree (.ref z) >>= _) _ _ _
 refine wpAny_bind ?_;unfold Builtin.SmallTypes.ownedTupleIsFree
 refine wpAny_bind (wpAny_field hz rfl (x:=.none) rfl (wpAny_pure ?_));simp only[if_true]
 refine wpAny_bind (wpAny_rule ?_);refine wpAny_bind (wpAny_field hz rfl (x:=.ref TO) rfl ?_)
 refine wpAny_bind (wpAny_setField_rec hz (by simp) fun g1 hz1 s1=>?_)
 replace hz1:IsZip g1 z TI TO .ellipsis:=hz1
 refine wpAny_bind ?_;simp only[List.zipIdx_cons,List.zipIdx_nil,List.forIn_cons,List.forIn_nil]
 refine wpAny_bind (wpAny_bind (wpAny_onRaise ?_));show wpAny _ _ (Builtin.SmallTypes.nextOf (.ref i1) >>= _) _ _ _
 refine wpAny_bind (D1.item k _ _ _ k1 (D1.frame k _ _ h1 fun c hc o e=>s1.extBut _ _ (fun z'=>Z.zf1 (z' ▸ hc)) e) fun x g2 tk2 p1 t1 s2=>wpAny_pure ?_)
 replace s2:Heap.SameBut i1 g1 g2:=s2
 have hTO2:IsPair g2 TO a b:=s2.extBut _ _ Z.to1 (s1.extBut _ _ Z.toz hTO)
 refine wpAny_bind (wpAny_seqItems hTO2 rfl ?_);refine wpAny_bind (wpAny_updateSeq_pair hTO2 fun g3 hTO3 s3=>?_)
 replace hTO3:IsPair g3 TO x b:=hTO3
 replace s3:Heap.SameBut TO g2 g3:=s3
 refine wpAny_bind (wpAny_letGo (wpAny_pure ?_));refine wpAny_bind (wpAny_bind (wpAny_onRaise ?_))
 show wpAny _ _ (Builtin.SmallTypes.nextOf (.ref i2) >>= _) _ _ _
 have t2':T2 k g3:=D2.frame k _ _ h2 fun c hc o e=>s3.extBut _ _ (fun z'=>Z.tf2 (z' ▸ hc)) (s2.extBut _ _ (fun z'=>Z.if2 (z' ▸ hc)) (s1.extBut _ _ (fun z'=>Z.zf2 (z' ▸ hc)) e))
 refine wpAny_bind (D2.item k _ _ _ k2 t2' fun y g4 tk4 p2 t2 s4=>wpAny_pure ?_)
 replace s4:Heap.SameBut i2 g3 g4:=s4
 have hTO4:IsPair g4 TO x b:=s4.extBut _ _ Z.to2 hTO3
 refine wpAny_bind (wpAny_seqItems hTO4 rfl ?_);refine wpAny_bind (wpAny_updateSeq_pair hTO4 fun g5 hTO5 s5=>?_)
 replace hTO5:IsPair g5 TO x y:=hTO5
 replace s5:Heap.SameBut TO g4 g5:=s5
 refine wpAny_bind (wpAny_letGo (wpAny_pure (wpAny_pure ?_)));refine wpAny_bind (wpAny_seqItems hTO5 rfl ?_)
 refine wpAny_bind (wpAny_newTuple ?_)
 have hsz:g5.objs.size=s.heap.objs.size:=by rw[s5.1,s4.1,s3.1,s2.1,s1.1]
 have hz5:IsZip g5 z TI TO .ellipsis:=s5.extBut _ _ Z.toz.symm (s4.extBut _ _ Z.z2 (s3.extBut _ _ Z.toz.symm (s2.extBut _ _ Z.z1 hz1)))
 have k5:∀ c o,c ∉ [z,TO,i1,i2]->s.heap.get? c=some o->g5.get? c=some o:=fun c o hc e=>by
  simp only[List.mem_cons,List.not_mem_nil,or_false,not_or] at hc
  exact s5.extBut _ _ hc.2.1 (s4.extBut _ _ hc.2.2.2 (s3.extBut _ _ hc.2.1 (s2.extBut _ _ hc.2.2.1 (s1.extBut _ _ hc.1 e))))
 have t15:T1 (k+1) g5:=D1.frame _ _ _ t1 fun c hc o e=>s5.extBut _ _ (fun z'=>Z.tf1 (z' ▸ hc)) (s4.extBut _ _ (fun z'=>Z.if1 (z' ▸ hc)) (s3.extBut _ _ (fun z'=>Z.tf1 (z' ▸ hc)) e))
 have t25:T2 (k+1) g5:=D2.frame _ _ _ t2 fun c hc o e=>s5.extBut _ _ (fun z'=>Z.tf2 (z' ▸ hc)) e
 have zlt:z<g5.objs.size:=Heap.lt_size hz5
 show wpAny _ _ (Builtin.SmallTypes.ownedTupleHandOut (.ref z) (.ref g5.objs.size) >>= _) _ _ _;refine wpAny_bind ?_
 unfold Builtin.SmallTypes.ownedTupleHandOut
 have hz6:IsZip (g5.push { cls:=.type "tuple",data:=.seq #[x,y] }) z TI TO .ellipsis:=Heap.get?_push_of_some _ hz5
 refine wpAny_bind (wpAny_setField_rec hz6 (by simp) fun g7 hz7 s7=>?_)
 replace hz7:IsZip g7 z TI TO (rawInt g5.objs.size):=hz7
 refine wpAny_setField_rec hz7 (by simp) fun g8 hz8 s8=>?_
 replace hz8:IsZip g8 z TI TO (rawInt g5.objs.size):=hz8
 have up:∀ c o,c ≠ z->g5.get? c=some o->g8.get? c=some o:=fun c o hc e=>s8.extBut _ _ hc (s7.extBut _ _ hc (Heap.get?_push_of_some _ e))
 have hT8:IsPair g8 g5.objs.size x y:=s8.extBut _ _ (Nat.ne_of_gt zlt) (s7.extBut _ _ (Nat.ne_of_gt zlt) (Heap.get?_push_size _ rfl))
 have hn8:g8.objs.size=g5.objs.size+1:=by rw[s8.1,s7.1,Heap.size_push]
 rw[hsz] at hz8 hT8 hn8
 refine wpAny_pure ⟨_,rfl,?_⟩;show Q (.ref g5.objs.size) _;rw[hsz]
 exact hQ x y g8 _ p1 p2 hz8 (up _ _ Z.toz hTO5) (D1.frame _ _ _ t15 fun c hc o e=>up c o (fun z'=>Z.zf1 (z' ▸ hc)) e) (D2.frame _ _ _ t25 fun c hc o e=>up c o (fun z'=>Z.zf2 (z' ▸ hc)) e) hT8 hn8
  fun c o hc e=>up c o (fun z'=>hc (by simp[z'])) (k5 c o hc e)
theorem zd{Q:Fin->Shared->Prop}(D1:Draws prog w A i1 f1 n1 P1 T1)(D2:Draws prog w A i2 f2 n2 P2 T2)(Z:lE z TI TO i1 i2 f1 f2)(hz:IsZip s.heap z TI TO .none)(hTI:IsPair s.heap TI (.ref i1) (.ref i2))(hTO:IsPair s.heap TO a b)
  (h1:T1 k s.heap)(h2:T2 k s.heap)(hk:k=n1\/(k<n1/\k=n2))
  (hE:∀ g tk e,(∀ c o,c ∉ [z,TO,i1,i2]->s.heap.get? c=some o->g.get? c=some o)->(∃ o,g.get? e=some o/\o.cls = .type "StopIteration")->E (.ref e) { s with heap:=g,toks:=tk }) :
  wpAny (model prog w) A (Builtin.«zip.__next__» ⟨[.ref z],[]⟩) Q E s:=by
 show wpAny _ _ (field (.ref z) 2 >>= _) _ _ _;refine wpAny_bind (wpAny_field hz rfl (x:=.bool false) rfl ?_)
 show wpAny _ _ (field (.ref z) 3 >>= _) _ _ _;refine wpAny_bind (wpAny_field hz rfl (x:=.ref TI) rfl ?_)
 refine wpAny_bind (wpAny_seqItems hTI rfl ?_);show wpAny _ _ (Builtin.SmallTypes.ownedTupleIsFree (.ref z) >>= _) _ _ _
 refine wpAny_bind ?_;unfold Builtin.SmallTypes.ownedTupleIsFree
 refine wpAny_bind (wpAny_field hz rfl (x:=.none) rfl (wpAny_pure ?_));simp only[if_true]
 refine wpAny_bind (wpAny_rule ?_);refine wpAny_bind (wpAny_field hz rfl (x:=.ref TO) rfl ?_)
 refine wpAny_bind (wpAny_setField_rec hz (by simp) fun g1 hz1 s1=>?_)
 replace hz1:IsZip g1 z TI TO .ellipsis:=hz1
 refine wpAny_bind ?_;simp only[List.zipIdx_cons,List.zipIdx_nil,List.forIn_cons,List.forIn_nil]
 refine wpAny_bind (wpAny_bind (wpAny_onRaise ?_));show wpAny _ _ (Builtin.SmallTypes.nextOf (.ref i1) >>= _) _ _ _
 have t1':T1 k g1:=D1.frame k _ _ h1 fun c hc o e=>s1.extBut _ _ (fun z'=>Z.zf1 (z' ▸ hc)) e
 rcases hk with rfl|⟨k1,rfl⟩
 ·refine wpAny_bind (D1.done _ _ _ t1' fun g2 e s2 he=>?_)
  obtain⟨oe,he1,he2⟩:=he
  have hz2:IsZip g2 z TI TO .ellipsis:=s2 _ _ Z.z1 hz1
  have hez:e ≠ z:=fun x=>by subst x;rw[hz2] at he1;cases he1;simp at he2
  refine wpAny_setField_rec hz2 (by simp) fun g3 _ s3=>hE g3 _ e (fun c o hc x=>?_) ⟨oe,s3.extBut _ _ hez he1,he2⟩
  simp only[List.mem_cons,List.not_mem_nil,or_false,not_or] at hc
  exact s3.extBut _ _ hc.1 (s2 _ _ hc.2.2.1 (s1.extBut _ _ hc.1 x))
 ·refine wpAny_bind (D1.item k _ _ _ k1 t1' fun x g2 tk2 p1 t1 s2=>wpAny_pure ?_)
  replace s2:Heap.SameBut i1 g1 g2:=s2
  have hTO2:IsPair g2 TO a b:=s2.extBut _ _ Z.to1 (s1.extBut _ _ Z.toz hTO)
  refine wpAny_bind (wpAny_seqItems hTO2 rfl ?_);refine wpAny_bind (wpAny_updateSeq_pair hTO2 fun g3 hTO3 s3=>?_)
  replace s3:Heap.SameBut TO g2 g3:=s3
  refine wpAny_bind (wpAny_letGo (wpAny_pure ?_));refine wpAny_bind (wpAny_bind (wpAny_onRaise ?_))
  show wpAny _ _ (Builtin.SmallTypes.nextOf (.ref i2) >>= _) _ _ _
  have t2':T2 k g3:=D2.frame k _ _ h2 fun c hc o e=>s3.extBut _ _ (fun z'=>Z.tf2 (z' ▸ hc)) (s2.extBut _ _ (fun z'=>Z.if2 (z' ▸ hc)) (s1.extBut _ _ (fun z'=>Z.zf2 (z' ▸ hc)) e))
  refine wpAny_bind (D2.done _ _ _ t2' fun g4 e s4 he=>?_)
  obtain⟨oe,he1,he2⟩:=he
  have hz4:IsZip g4 z TI TO .ellipsis:=s4 _ _ Z.z2 (s3.extBut _ _ Z.toz.symm (s2.extBut _ _ Z.z1 hz1))
  have hez:e ≠ z:=fun x=>by subst x;rw[hz4] at he1;cases he1;simp at he2
  refine wpAny_setField_rec hz4 (by simp) fun g5 _ s5=>hE g5 _ e (fun c o hc x=>?_) ⟨oe,s5.extBut _ _ hez he1,he2⟩
  simp only[List.mem_cons,List.not_mem_nil,or_false,not_or] at hc
  exact s5.extBut _ _ hc.1 (s4 _ _ hc.2.2.2 (s3.extBut _ _ hc.2.1 (s2.extBut _ _ hc.2.2.1 (s1.extBut _ _ hc.1 x))))
end
def iS:Bool->Heap->Addr->Addr->Nat->Prop
 | true,h,it,l,i=>h.IsListIter it l i
 | false,h,it,l,i=>h.IsTupleIter it l i
def fK:Bool->Heap->Addr->Array Value->Prop
 | true,h,l,its=>h.IsList l its
 | false,h,l,its=>h.IsTuple l its
def rp(K:W.Frag)(b:Bool)(H:Hp)(l:Addr)(xs:List V):Prop:=vw K H l=some (if b=true then .lst xs else .tup xs)
theorem jq{prog:Program}{w:World}{A:Around}(hh:A.handled=none)(b:Bool)(it l:Addr)(hne:l ≠ it)(its:Array Value) :
  Draws prog w A it [it,l] its.size (fun i v=>its[i]? = some v) (fun i h=>iS b h it l i/\fK b h l its):=by
 cases b with
 | true=>exact Draws.list hh it l hne its
 | false=>exact xX hh it l hne its
theorem iS.at{b:Bool}{h h':Heap}{it l:Addr}{i:Nat}(x:iS b h it l i)(e:∀ o,h.get? it=some o->h'.get? it=some o):iS b h' it l i:=by
 cases b with
 | true=>obtain⟨o,ho,r⟩:=x;exact⟨o,e o ho,r⟩
 | false=>obtain⟨o,ho,r⟩:=x;exact⟨o,e o ho,r⟩
theorem iS.obj{b:Bool}{h:Heap}{it l:Addr}{i:Nat}(x:iS b h it l i):∃ o,h.get? it=some o /\ ∀ v,o.data ≠ .cell v:=by
 cases b with
 | true=>obtain⟨o,ho,_,d⟩:=x;exact⟨o,ho,fun v z=>by rw[d] at z;cases z⟩
 | false=>obtain⟨o,ho,_,d⟩:=x;exact⟨o,ho,fun v z=>by rw[d] at z;cases z⟩
theorem fK.obj{b:Bool}{h:Heap}{l:Addr}{its:Array Value}(x:fK b h l its):∃ o,h.get? l=some o:=by
 cases b with
 | true=>obtain⟨o,ho,_⟩:=x;exact⟨o,ho⟩
 | false=>obtain⟨o,ho,_⟩:=x;exact⟨o,ho⟩
theorem aK.src{X:Cx}{pins:List (Addr × Obj)}{σ:St}{H:Hp}{s:Shared}(I:aK X pins σ H s) {b:Bool}{l:Addr}{xs:List V}(h:rp X.K b H l xs):∃ its:List Value,bA xs its/\fK b s.heap l its.toArray/\xs.length<=sizeLine:=by
 cases b with
 | true =>
  obtain⟨its,rv,p,hz⟩:=I.list (j6.of (K:=X.K) (aF h))
  exact⟨its,rv,p.isList,hz⟩
 | false =>
  obtain⟨its,rv,p,hz⟩:=I.tuple (cY h)
  exact⟨its,rv,p,hz⟩
theorem rp.inj{K:W.Frag}{b:Bool}{H:Hp}{l:Addr}{xs ys:List V}(h:rp K b H l xs)(g:rp K b H l ys):xs=ys:=by
 unfold rp at h g
 rw[h] at g
 cases b <;> cases g <;> rfl
def Ga(K:W.Frag)(b1 b2:Bool)(l1 l2:Addr):Hp->List (List V)->Prop:=fun H ys=>∃ xs zs,rp K b1 H l1 xs/\rp K b2 H l2 zs/\ys=List.zipWith (fun x z=>[x,z]) xs zs
end L2
namespace L2
open PySem PySem.Spec PyProof.Rows
section
variable {prog:Program}{w:World}{A:Around}{E:Value->Shared->Prop}{s:Shared}{z TI TO i1 i2 l1 l2:Addr}{k:Nat}{b1 b2:Bool}{u1 u2:Array Value}{a b:Value}
theorem Hw{n:Nat}(h1 : @LT.lt Nat _ l1 n)(h2 : @LT.lt Nat _ l2 n):lE (n+4) (n+2) (n+3) n (n+1) [n,l1] [n+1,l2]:=by
 constructor <;> (try simp only[List.mem_cons,List.not_mem_nil,or_false,not_or]) <;> (try constructor) <;> (intro e;have e':(_:Nat)=_:=e;walk_at"o")
theorem uN{Q:Option Value->Shared->Prop}(hh:A.handled=none)(Z:lE z TI TO i1 i2 [i1,l1] [i2,l2])(n1:l1 ≠ i1)(n2:l2 ≠ i2)(hz:IsZip s.heap z TI TO .none)(hTI:IsPair s.heap TI (.ref i1) (.ref i2))(hTO:IsPair s.heap TO a b)
  (h1:iS b1 s.heap i1 l1 k)(h2:iS b2 s.heap i2 l2 k)(p1:fK b1 s.heap l1 u1)(p2:fK b2 s.heap l2 u2)(k1:k<u1.size)(k2:k<u2.size)
  (hQ:∀ x y g tk,u1[k]? = some x->u2[k]? = some y->IsZip g z TI TO (rawInt s.heap.objs.size)->IsPair g TO x y->iS b1 g i1 l1 (k+1)->iS b2 g i2 l2 (k+1)->IsPair g s.heap.objs.size x y->g.objs.size=s.heap.objs.size+1 ->
   (∀ c o,c ∉ [z,TO,i1,i2]->s.heap.get? c=some o->g.get? c=some o)->Q (some (.ref s.heap.objs.size)) { s with heap:=g,toks:=tk }):wpAny (model prog w) A (pyNext (.ref z)) Q E s:=by
 have hT:s.TypeIs (.ref z) "zip":=⟨_,hz,rfl⟩
 unfold pyNext
 refine wpAny_bind (wpAny_attempt (wpAny_callSpecial?_slot (name:=Str.ofString "__next__") hT F.slot_zip_next (wpAny_call_entry F.slot_zip_next hT F.entry_zip_next ?_ (F.args_zip_next_1 _))))
 have D1:Draws prog w A.in1 i1 [i1,l1] u1.size _ _:=jq (A:=A.in1) hh b1 i1 l1 n1 u1
 have D2:Draws prog w A.in1 i2 [i2,l2] u2.size _ _:=jq (A:=A.in1) hh b2 i2 l2 n2 u2
 exact wW D1 D2 Z hz hTI hTO ⟨h1,p1⟩ ⟨h2,p2⟩ k1 k2 fun x y g tk e1 e2 c1 c2 c3 c4 c5 c6 c7=>wpAny_pure (hQ x y g tk e1 e2 c1 c2 c3.1 c4.1 c5 c6 c7)
theorem xZ{Q:Option Value->Shared->Prop}(hh:A.handled=none)(Z:lE z TI TO i1 i2 [i1,l1] [i2,l2])(n1:l1 ≠ i1)(n2:l2 ≠ i2)(hz:IsZip s.heap z TI TO .none)(hTI:IsPair s.heap TI (.ref i1) (.ref i2))(hTO:IsPair s.heap TO a b)
  (h1:iS b1 s.heap i1 l1 k)(h2:iS b2 s.heap i2 l2 k)(p1:fK b1 s.heap l1 u1)(p2:fK b2 s.heap l2 u2)(hk:k=u1.size\/(k<u1.size/\k=u2.size))
  (hQ:∀ g tk,(∀ c o,c ∉ [z,TO,i1,i2]->s.heap.get? c=some o->g.get? c=some o)->Q none { s with heap:=g,toks:=tk }):wpAny (model prog w) A (pyNext (.ref z)) Q E s:=by
 have hT:s.TypeIs (.ref z) "zip":=⟨_,hz,rfl⟩
 unfold pyNext
 refine wpAny_bind (wpAny_attempt (wpAny_callSpecial?_slot (name:=Str.ofString "__next__") hT F.slot_zip_next (wpAny_call_entry F.slot_zip_next hT F.entry_zip_next ?_ (F.args_zip_next_1 _))))
 have D1:Draws prog w A.in1 i1 [i1,l1] u1.size _ _:=jq (A:=A.in1) hh b1 i1 l1 n1 u1
 have D2:Draws prog w A.in1 i2 [i2,l2] u2.size _ _:=jq (A:=A.in1) hh b2 i2 l2 n2 u2
 refine zd D1 D2 Z hz hTI hTO ⟨h1,p1⟩ ⟨h2,p2⟩ hk fun g tk e hk he=>?_
 obtain⟨o,ho,hc⟩:=he
 refine wpAny_bind (wpAny_isInstance (T:="StopIteration") (b:=true) ⟨o,ho,hc⟩ isSubtype_stop (wpAny_pure (hQ _ _ hk)))
end
theorem aK.turnL{X:Cx}{pins:List (Addr × Obj)}{σ:St}{H:Hp}{s:Shared}{h':Heap}{t':Nat}{ch:List Addr}(I:aK X pins σ H s)(k:∀ b o,b ∉ ch->s.heap.get? b=some o->h'.get? b=some o)(hf:∀ b ∈ ch,lJ X pins H b):aK X pins σ H { s with heap:=h',toks:=t' }:=by
 have nch:∀ c v,H c=some v->c ∉ ch:=fun c v z hc=>by
  rw[(hf c hc).1] at z
  cases z
 refine I.step (g':=s.gens) (d':=s.drawn) (ch:=ch) (fun b hb=>?_) (fun b o _ _ hc e _=>k b o hc e) (fun b o _ _ hc e _=>⟨o.slots,k b o hc e⟩) (fun b o _ e n=>n)
  (fun b o hc e=>⟨o,k b o hc e⟩) (fun b ys e=>e) (fun b o u e=>e) (fun b ps e=>⟨#[],by rw[e];simp⟩) (fun m hm=>?_) (fun b u e=>?_) I.bare
 ·obtain⟨_,f1,_,f3,f4,f5⟩:=hf b hb
  exact⟨f3,f1,f4,f5⟩
 ·obtain⟨o,es,ep,ho,r⟩:=hm
  exact⟨o,es,ep,k _ o (fun z=>(hf _ z).2.1 rfl) ho,r⟩
 ·refine (I.hok b u e).stay (fun c v hc q=>k c v ?_ q) (fun c q=>q) fun c ys q=>q
  rcases hc with z|z
  ·rw[z]
   exact nch b u e
  ·exact nch c _ z
theorem yW{P:Program}{w:World}{K:W.Frag}{elts:List Expr}{x1:Nat}{pos:Pos}{b1 b2:Bool}(z TI TO i1 i2 l1 l2:Addr)(Z:lE z TI TO i1 i2 [i1,l1] [i2,l2])(n1:l1 ≠ i1)(n2:l2 ≠ i2) :
  uJ P w K (.Tuple elts x1 pos) (ER K (Ga K b1 b2 l1 l2)) [z,TO,i1,i2,TI] z (fun i h=>IsZip h z TI TO .none/\IsPair h TI (.ref i1) (.ref i2)/\(∃ a b,IsPair h TO a b)/\iS b1 h i1 l1 i/\iS b2 h i2 l2 i) where
 mem:=by simp
 obj:=fun i h st b hb=>by
  obtain⟨h1,h2,⟨a,c,h3⟩,h4,h5⟩:=st
  simp only[List.mem_cons,List.not_mem_nil,or_false] at hb
  rcases hb with rfl|rfl|rfl|rfl|rfl
  ·exact⟨_,h1,fun v e=>by cases e⟩
  ·exact⟨_,h3,fun v e=>by cases e⟩
  ·exact h4.obj
  ·exact h5.obj
  ·exact⟨_,h2,fun v e=>by cases e⟩
 keep:=fun i h h' st k=>by
  obtain⟨h1,h2,⟨a,c,h3⟩,h4,h5⟩:=st
  exact⟨k z (by simp) _ h1,k TI (by simp) _ h2,⟨a,c,k TO (by simp) _ h3⟩,h4.at fun o e=>k i1 (by simp) o e,h5.at fun o e=>k i2 (by simp) o e⟩
 item:=by
  intro X hP hw hK hc i pins s σ H E I hf st hg
  subst hP hw hK
  obtain⟨h1,h2,⟨a,c,h3⟩,h4,h5⟩:=st
  obtain⟨ys,t,⟨xs,zs,q1,q2,rfl⟩,ht⟩:=hg
  have hlt:i<xs.length/\i<zs.length:=by
   have:=(List.getElem?_eq_some_iff.mp ht).1
   simp at this
   walk_at"o"
  obtain⟨u1,r1,p1,z1⟩:=I.src q1
  obtain⟨u2,r2,p2,z2⟩:=I.src q2
  have e1:=r1.length
  have e2:=r2.length
  have tx:t=[xs[i]'hlt.1,zs[i]'hlt.2]:=by
   rw[List.getElem?_zipWith,List.getElem?_eq_getElem hlt.1,List.getElem?_eq_getElem hlt.2] at ht
   exact (Option.some.inj ht).symm
  refine uN (I.ok.hd hc) Z n1 n2 h1 h2 h3 h4 h5 p1 p2 (by simp;walk_at"o") (by simp;walk_at"o") fun x y g tk ex ey c1 c2 c3 c4 c5 c6 c7=>⟨_,rfl,?_⟩
  refine wpAny_letOwnedTupleGo_zip (s:={ s with heap:=g,toks:=tk }) c1 fun g2 d1 d2=>?_
  replace d2:Heap.SameBut z g g2:=d2
  have zs':z<s.heap.objs.size:=Heap.lt_size h1
  have rx:bX (xs[i]'hlt.1) x:=by
   obtain⟨u,hu,ru⟩:=r1.get (List.getElem?_eq_getElem hlt.1)
   rw[List.getElem?_toArray,hu] at ex
   cases ex
   exact ru
  have ry:bX (zs[i]'hlt.2) y:=by
   obtain⟨u,hu,ru⟩:=r2.get (List.getElem?_eq_getElem hlt.2)
   rw[List.getElem?_toArray,hu] at ey
   cases ey
   exact ru
  have hf4:∀ b ∈ [z,TO,i1,i2],lJ X pins H b:=fun b hb=>hf b (by simp only[List.mem_cons,List.not_mem_nil,or_false] at hb ⊢;rcases hb with e|e|e|e <;> simp[e])
  have I4:aK X pins σ (upd H s.heap.objs.size (.tup t)) { s with heap:=g2,toks:=tk }:=by
   rw[tx]
   exact I.turnT (its:=[x,y]) (fun b o hb e=>d2.extBut _ _ (fun e'=>hb (by simp[e'])) (c7 b o hb e)) hf4 (Nat.le_refl _) (show 2<=sizeLine by decide) (.cons rx (.cons ry .nil)) ⟨_,d2.extBut _ _ (Nat.ne_of_gt zs') c5,rfl,_,rfl⟩
  have fr:=I.hok.fresh (Nat.le_refl s.heap.objs.size)
  have nk:=I.newK (Nat.le_refl s.heap.objs.size)
  have hTI2:IsPair g2 TI (.ref i1) (.ref i2):=d2.extBut _ _ Z.tiz (c7 TI _ (by simp[Z.tiz,Z.tito,Z.ti1,Z.ti2]) h2)
  refine⟨.ref s.heap.objs.size,_,I4,rfl,⟨_,_,rfl,by rw[eE nk];exact fr,ky (ay.upd fr),by rw[eE nk];exact cJ,?_⟩,⟨d1,hTI2,⟨_,_,d2.extBut _ _ Z.toz c2⟩,c3.at fun o e=>d2.extBut _ _ Z.z1.symm e,c4.at fun o e=>d2.extBut _ _ Z.z2.symm e⟩,fun b hb=>?_⟩
  ·rintro ys ⟨xs',zs',q1',q2',rfl⟩
   cases q1.inj q1'
   cases q2.inj q2'
   exact ht
  ·have:b<s.heap.objs.size:=by
    simp only[List.mem_cons,List.not_mem_nil,or_false] at hb
    rcases hb with rfl|rfl|rfl|rfl|rfl
    ·exact zs'
    ·exact Heap.lt_size h3
    ·obtain⟨_,e,_⟩:=h4.obj;exact Heap.lt_size e
    ·obtain⟨_,e,_⟩:=h5.obj;exact Heap.lt_size e
    ·exact Heap.lt_size h2
   rw[cm (Nat.ne_of_lt this)]
   exact (hf b hb).1
 done:=by
  intro X hP hw hK hc i pins s σ H E I hf st hg
  subst hP hw hK
  obtain⟨h1,h2,⟨a,c,h3⟩,h4,h5⟩:=st
  obtain⟨ys,⟨xs,zs,q1,q2,rfl⟩,hl⟩:=hg
  obtain⟨u1,r1,p1,z1⟩:=I.src q1
  obtain⟨u2,r2,p2,z2⟩:=I.src q2
  have e1:=r1.length
  have e2:=r2.length
  have hk:i=u1.toArray.size\/(i<u1.toArray.size/\i=u2.toArray.size):=by
   rw[List.length_zipWith] at hl
   simp only[List.size_toArray]
   walk_at"o"
  have hf4:∀ b ∈ [z,TO,i1,i2],lJ X pins H b:=fun b hb=>hf b (by simp only[List.mem_cons,List.not_mem_nil,or_false] at hb ⊢;rcases hb with e|e|e|e <;> simp[e])
  exact xZ (I.ok.hd hc) Z n1 n2 h1 h2 h3 h4 h5 p1 p2 hk fun g tk k=>⟨rfl,I.turnL k hf4⟩
 self:=fun _ _ _ _ _ st h=>wpAny_pyIter_zip st.1 h
end L2
namespace L2
open PySem PySem.Spec PyProof.Rows
def C3(b:Bool)(l:Addr):Obj:=match b with
 | true=>{ cls:=.type "list_iterator",data:=.fields #[.ref l,.int 0 0] }
 | false=>{ cls:=.type "tuple_iterator",data:=.fields #[.ref l,.int 0 0] }
section
variable {prog:Program}{w:World}{A:Around}{E:Value->Shared->Prop}{s:Shared}
theorem wp{b:Bool}{l:Addr}{u:Array Value}{Q:Value->Shared->Prop}(h:fK b s.heap l u)(q:Q (.ref s.heap.objs.size) { s with heap:=s.heap.push (C3 b l) }):wpAny (model prog w) A (pyIter (.ref l)) Q E s:=by
 cases b with
 | true=>exact wpAny_pyIter_list h q
 | false=>exact wpAny_pyIter_tuple h q
end
theorem fK.push{b:Bool}{h:Heap}{l:Addr}{u:Array Value}(x:fK b h l u)(o:Obj):fK b (h.push o) l u:=by
 cases b with
 | true=>obtain⟨v,e,r⟩:=x;exact⟨v,Heap.get?_push_of_some _ e,r⟩
 | false=>obtain⟨v,e,r⟩:=x;exact⟨v,Heap.get?_push_of_some _ e,r⟩
theorem iS.new{b:Bool}{h:Heap}{it l:Addr}(e:h.get? it=some (C3 b l)):iS b h it l 0:=by
 cases b with
 | true=>exact⟨_,e,rfl,rfl⟩
 | false=>exact⟨_,e,rfl,rfl⟩
abbrev GQ (h:Heap)(b1:Bool)(l1:Addr):Heap:=h.push (C3 b1 l1)
abbrev GK (h:Heap)(b1 b2:Bool)(l1 l2:Addr):Heap:=(GQ h b1 l1).push (C3 b2 l2)
abbrev GJ (h:Heap)(b1 b2:Bool)(l1 l2:Addr):Heap:=(GK h b1 b2 l1 l2).push { cls:=.type "tuple",data:=.seq #[.ref h.objs.size,.ref (GQ h b1 l1).objs.size] }
abbrev GS (h:Heap)(b1 b2:Bool)(l1 l2:Addr):Heap:=(GJ h b1 b2 l1 l2).push { cls:=.type "tuple",data:=.seq #[.none,.none] }
abbrev FM (h:Heap)(b1 b2:Bool)(l1 l2:Addr):Heap:=(GS h b1 b2 l1 l2).push { cls:=.type "zip",data:=.fields #[.none,.bool false,.bool false,.ref (GK h b1 b2 l1 l2).objs.size,.ref (GJ h b1 b2 l1 l2).objs.size] }
theorem uq(b1 b2:Bool)(l1 l2:Addr)(u1 u2:Array Value) :
  Meets (Builtin.«zip.__new__» ⟨[.type "zip",.ref l1,.ref l2],[]⟩) (fun _ R s=>fK b1 s.heap l1 u1/\fK b2 s.heap l2 u2/\R (.ok (.ret (.ref (GS s.heap b1 b2 l1 l2).objs.size))) { s with heap:=FM s.heap b1 b2 l1 l2 }) :=
 .of_wp fun prog w A R s h=>by
  obtain⟨hp,g,d,tk,os⟩:=s;obtain⟨q1,q2,h⟩:=h
  have hsub:=sub_zip
  have y1:fK b1 (Shared.heap ⟨hp,g,d,tk,os⟩) l1 u1:=q1
  have y2:fK b2 (Shared.heap ⟨hp.push (C3 b1 l1),g,d,tk,os⟩) l2 u2:=fK.push q2 _
  wp_walk using wp y1,wp y2
  exact⟨_,rfl,h⟩
section
variable {prog:Program}{w:World}{A:Around}{E:Value->Shared->Prop}{s:Shared}
theorem F8{b1 b2:Bool}{l1 l2:Addr}{u1 u2:Array Value}{Q:Value->Shared->Prop}(q1:fK b1 s.heap l1 u1)(q2:fK b2 s.heap l2 u2)
  (h:∀ g,IsZip g (s.heap.objs.size+4) (s.heap.objs.size+2) (s.heap.objs.size+3) .none->IsPair g (s.heap.objs.size+2) (.ref s.heap.objs.size) (.ref (s.heap.objs.size+1))->IsPair g (s.heap.objs.size+3) .none .none ->
   iS b1 g s.heap.objs.size l1 0->iS b2 g (s.heap.objs.size+1) l2 0->(∀ c o,s.heap.get? c=some o->g.get? c=some o)->Q (.ref (s.heap.objs.size+4)) { s with heap:=g }) :
  wpAny (model prog w) A (call (.type "zip") [.ref l1,.ref l2]) Q E s:=by
 refine callType_new F.called_zip (by decide) (F.typeCall_zip_2 _ _) (F.newCall_zip_2 _ _) (fun obj=>F.args_object_init_3 obj _ _) F.entry_zip_new (uq b1 b2 l1 l2 u1 u2) ⟨q1,q2,?_⟩
 have v1:(GQ s.heap b1 l1).objs.size=s.heap.objs.size+1:=Heap.size_push ..
 have v2:(GK s.heap b1 b2 l1 l2).objs.size=s.heap.objs.size+2:=by rw[Heap.size_push,v1]
 have v3:(GJ s.heap b1 b2 l1 l2).objs.size=s.heap.objs.size+3:=by rw[Heap.size_push,v2]
 have v4:(GS s.heap b1 b2 l1 l2).objs.size=s.heap.objs.size+4:=by rw[Heap.size_push,v3]
 have g5:(FM s.heap b1 b2 l1 l2).get? (GS s.heap b1 b2 l1 l2).objs.size=some _:=Heap.get?_push_size _ rfl
 have g4:(FM s.heap b1 b2 l1 l2).get? (GJ s.heap b1 b2 l1 l2).objs.size=some _:=Heap.get?_push_of_some _ (Heap.get?_push_size _ rfl)
 have g3:(FM s.heap b1 b2 l1 l2).get? (GK s.heap b1 b2 l1 l2).objs.size=some _:=Heap.get?_push_of_some _ (Heap.get?_push_of_some _ (Heap.get?_push_size _ rfl))
 have nf:∀ b l,(C3 b l).isFreed=false:=fun b l=>by cases b <;> rfl
 have g2:(FM s.heap b1 b2 l1 l2).get? (GQ s.heap b1 l1).objs.size=some (C3 b2 l2):=Heap.get?_push_of_some _ (Heap.get?_push_of_some _ (Heap.get?_push_of_some _ (Heap.get?_push_size _ (nf _ _))))
 have g1:(FM s.heap b1 b2 l1 l2).get? s.heap.objs.size=some (C3 b1 l1):=Heap.get?_push_of_some _ (Heap.get?_push_of_some _ (Heap.get?_push_of_some _ (Heap.get?_push_of_some _ (Heap.get?_push_size _ (nf _ _)))))
 show _/\_
 rw[v2,v3,v4] at g5
 rw[v1,v2] at g3
 rw[v3] at g4
 rw[v1] at g2
 rw[v4]
 exact⟨⟨_,g5,rfl⟩,h _ g5 g3 g4 (.new g1) (.new g2) fun c o x=>Heap.get?_push_of_some _ (Heap.get?_push_of_some _ (Heap.get?_push_of_some _ (Heap.get?_push_of_some _ (Heap.get?_push_of_some _ x))))⟩
end
def yC(K:W.Frag)(ta:TA):TI:=fun σ H R=>ta σ H fun vs H1=>∃ a b,vs=[.ref a,.ref b] /\ ∃ c d,(∃ xs,rp K c H1 a xs)/\(∃ ys,rp K d H1 b ys)/\R (ER K (Ga K c d a b)) H1
theorem E3{X:Cx}{elts:List Expr}{x1:Nat}{tp p pos:Pos}{a b:Expr}{ta:TA}(hg:Gl X "zip") (hm:X.mg "zip" = none) (ha:PA X [a,b] ta)(hs:starEach [a,b] X.env=[(false,eval a X.env),(false,eval b X.env)]:=by rfl)(hs2:starEach [b] X.env=[(false,eval b X.env)]:=by rfl) :
  PI X (.Tuple elts x1 tp) (.Call (.Name "zip" p) [a,b] [] pos) (yC X.K ta):=by
 intro pins s σ H R I h
 refine Call_ (i7 I hg hm DV (PyProof.Rows.callWith_type1 (cQ (ha pos pins s σ H _ I h) fun us s1 ⟨vs,H1,I1,r1,q1⟩=>?_) (by rw[hs,hs2]) (by rw[hs2];rfl)))
 obtain⟨l1,l2,e,c,d,⟨xs,hx⟩,⟨ys,hy⟩,q⟩:=q1
 subst e
 cases r1 with
 | cons r rr =>
  cases rr with
  | cons r' rr =>
   cases rr
   cases r
   cases r'
   obtain⟨u1,t1,p1,_⟩:=I1.src hx
   obtain⟨u2,t2,p2,_⟩:=I1.src hy
   refine F8 p1 p2 fun g c1 c2 c3 c4 c5 k=>?_
   refine wpAny_pyIter_zip (s:={ s1 with heap:=g }) c1 ?_
   have m1:l1<s1.heap.objs.size:=by obtain⟨_,e⟩:=p1.obj;exact Heap.lt_size e
   have m2:l2<s1.heap.objs.size:=by obtain⟨_,e⟩:=p2.obj;exact Heap.lt_size e
   refine⟨_,_,_,_,H1,rfl,I1.kept (t':=s1.toks) k,yW _ _ _ _ _ l1 l2 (Hw m1 m2) (Nat.ne_of_lt m1) (Nat.ne_of_lt (Nat.lt_succ_of_lt m2)),⟨c1,c2,⟨_,_,c3⟩,c4,c5⟩,fun f hf=>?_,q⟩
   have hf':s1.heap.objs.size<=f:=by
    simp only[List.mem_cons,List.not_mem_nil,or_false] at hf
    rcases hf with z|z|z|z|z <;> rw[z]
    ·exact Nat.le_add_right _ 4
    ·exact Nat.le_add_right _ 3
    ·exact Nat.le_refl _
    ·exact Nat.le_add_right _ 1
    ·exact Nat.le_add_right _ 2
   exact I1.fpOk hf' (I1.hok.fresh hf')
theorem uP{X:Cx}{elts:List Expr}{x1:Nat}{tp p pos:Pos}{a b:Expr}{ta:TA}(hg:Gl X "zip") (hm:X.mg "zip" = none) (ha:QA X [a,b] ta)(hs:starEach [a,b] X.env=[(false,eval a X.env),(false,eval b X.env)]:=by rfl)(hs2:starEach [b] X.env=[(false,eval b X.env)]:=by rfl) :
  QI X (.Tuple elts x1 tp) (.Call (.Name "zip" p) [a,b] [] pos) (yC X.K ta):=⟨E3 hg hm ha.h hs hs2⟩
end L2
namespace L2
open PySem PySem.Spec PyProof.Rows
section
variable {X:Cx}{pins:List (Addr × Obj)}{σ:St}{H:Hp}{s:Shared}
end
def Cm(K:W.Frag)(a:Addr)(σr:St)(Pv:List V->Hp->Prop):St->Hp->Prop:=fun σ H=>(∃ y z,σ=y :: z :: σr) /\ ∃ xs,vw K H a=some (.lst xs)/\Pv xs H
theorem lW{K:W.Frag}{R:Hp->List (List V)->Prop}{ps:List (V × V)}{tif:TT}{te:TE}{a:Addr}{x0 x1:Option V}{σr:St}{H0:Hp}{Q:Hp->Prop}(Pv:Nat->List V->Hp->Prop)
  (hl:∀ i xs H,i<=ps.length->vw K H a=some (.lst xs)->Pv i xs H->R H (ps.map fun p=>[p.1,p.2]))(ha:vw K H0 a=some (.lst []))(h0:Pv 0 [] H0)
  (hs:∀ i x y xs H H',i<ps.length->ps[i]? = some (x,y)->vw K H' a=some (.lst xs)->Pv i xs H->ay (vw K H) (vw K H')->tif (some x :: some y :: σr) H' fun b H3=>if b=true then te (some x :: some y :: σr) H3 (Ep K a (Cm K a σr (Pv (i+1)) (some x :: some y :: σr))) else Cm K a σr (Pv (i+1)) (some x :: some y :: σr) H3)
  (hd:∀ xs H,vw K H a=some (.lst xs)->Pv ps.length xs H->Q H):nO K (ER K R) (i6 K 2 (jY (gH 0) (jY (gH 1) uu))) tif te a (x0 :: x1 :: σr) H0 Q:=by
 refine⟨fun i m σ H=>m=ps.length - i/\i<=ps.length/\Cm K a σr (Pv i) σ H,⟨ps.length,by simp,Nat.zero_le _,⟨_,_,rfl⟩,_,ha,h0⟩,?_⟩
 rintro i m σ H ⟨rfl,hi,⟨y,z,rfl⟩,xs,hxs,p⟩
 have q:=hl i xs H hi hxs p
 by_cases hlt:i<ps.length
 ·refine .inr ⟨⟨_,_,q,by rw[List.getElem?_map,List.getElem?_eq_getElem hlt];rfl⟩,Cm K a σr (Pv (i+1)),fun σ' H' p'=>⟨ps.length - (i+1),by walk_at"o",rfl,hlt,p'⟩,fun x H' y=>?_⟩
  obtain⟨b,t,rfl,y1,y2,y3,y4⟩:=y
  have e:=y4 _ q
  rw[List.getElem?_map,List.getElem?_eq_getElem hlt] at e
  cases e
  exact⟨b,rfl,_,y3,rfl,_,_,rfl,_,_,rfl,rfl,hs i _ _ xs H H' hlt (List.getElem?_eq_getElem hlt) (y2 _ _ hxs) p y2⟩
 ·have e:i=ps.length:=by walk_at"o"
  subst e
  exact .inl ⟨⟨_,q,by simp⟩,hd xs H hxs p⟩
theorem Ep.mk2{K:W.Frag}{a:Addr}{σr:St}{Pv:List V->Hp->Prop}{x y:Option V}{v:V}{H:Hp}{xs:List V}(h:vw K H a=some (.lst xs))(hz:xs.length<sizeLine)
  (q:∀ H5,iT a (vw K H) (vw K H5)->vw K H5 a=some (.lst (xs ++ [v]))->Pv (xs ++ [v]) H5):Ep K a (Cm K a σr Pv (x :: y :: σr)) v H:=⟨xs,h,hz,fun H5 B h5=>⟨⟨_,_,rfl⟩,_,h5,q H5 B h5⟩⟩
theorem oH{xs ys:List V}:List.zipWith (fun x z=>[x,z]) xs ys=(xs.zip ys).map fun p=>[p.1,p.2]:=by
 rw[List.zip,List.map_zipWith]
end L2
namespace L2
open PySem PySem.Spec PyProof.Rows
def wv(q:Int × Int):Rat:=(q.1:Rat) / (q.2:Rat)
theorem ar{b:Int}(h:b ≠ 0):(b:Rat) ≠ 0:=by simpa using h
theorem ii{a b:Int}(hb:b ≠ 0):wv (lo a b)=(a:Rat) / (b:Rat):=by
 have e1:=eX (a:=a) hb
 have e2:=fH (a:=a) hb
 have hg:=ar (zF (a:=a) hb)
 have hd:(lo a b).2 ≠ 0:=by have:=(ir (a:=a) hb).1;walk_at"o"
 have hd':=ar hd
 have c1:((lo a b).1:Rat)*(lg a b:Rat)=(a:Rat):=by
  have:=congrArg (fun i:Int=>(i:Rat)) e1
  simpa using this
 have c2:((lo a b).2:Rat)*(lg a b:Rat)=(b:Rat):=by
  have:=congrArg (fun i:Int=>(i:Rat)) e2
  simpa using this
 unfold wv
 rw[<- c1,<- c2]
 grind
theorem wm{a b c:Int}(h:b ∣ a*c)(hg:Int.gcd a b=1):b ∣ c:=by
 have h1:b.natAbs ∣ a.natAbs*c.natAbs:=by
  rw[<- Int.natAbs_mul]
  exact Int.natAbs_dvd_natAbs.mpr h
 have h2:Nat.Coprime b.natAbs a.natAbs:=by
  unfold Nat.Coprime
  rw[Nat.gcd_comm]
  exact hg
 exact Int.natAbs_dvd_natAbs.mp (Nat.Coprime.dvd_of_dvd_mul_left h2 h1)
theorem lA{p q:Int × Int}(hp:Fq p)(hq:Fq q)(h:wv p=wv q):p=q:=by
 have h1:=ar (show p.2 ≠ 0 by have:=hp.1;walk_at"o")
 have h2:=ar (show q.2 ≠ 0 by have:=hq.1;walk_at"o")
 have e:p.1*q.2=q.1*p.2:=by
  unfold wv at h
  have:(p.1:Rat)*(q.2:Rat)=(q.1:Rat)*(p.2:Rat):=by grind
  have h3:((p.1*q.2:Int):Rat)=((q.1*p.2:Int):Rat):=by simpa using this
  exact Rat.intCast_inj.mp h3
 have d1:p.2 ∣ q.2:=by
  have:p.2 ∣ p.1*q.2:=⟨q.1,by rw[e,Int.mul_comm]⟩
  exact wm this hp.2
 have d2:q.2 ∣ p.2:=by
  have:q.2 ∣ q.1*p.2:=⟨p.1,by rw[<- e,Int.mul_comm]⟩
  exact wm this hq.2
 have e2:p.2=q.2:=Int.dvd_antisymm (Int.le_of_lt hp.1) (Int.le_of_lt hq.1) d1 d2
 rw[e2] at e
 have e1:p.1=q.1:=Int.eq_of_mul_eq_mul_right (by have:=hq.1;walk_at"o") e
 exact Prod.ext e1 e2
theorem ur{p q:Int × Int}(hp:p.2 ≠ 0)(hq:q.2 ≠ 0):wv (rO p q)=wv p+wv q:=by
 unfold rO
 rw[ii (Int.mul_ne_zero hp hq)]
 unfold wv
 have h1:=ar hp
 have h2:=ar hq
 simp only[Rat.intCast_add,Rat.intCast_mul]
 grind
def sI(p q:Int × Int):Int × Int:=lo (p.1*q.1) (p.2*q.2)
theorem ww{p q:Int × Int}(hp:Fq p)(hq:Fq q):Fq (sI p q):=ir (by have:=Int.mul_pos hp.1 hq.1;walk_at"o")
theorem BD{p q:Int × Int}{m n:Nat}(hp:Fq p)(hq:Fq q)(h1:Bq m p)(h2:Bq n q):Bq (m+n) (sI p q):=oB (by have:=Int.mul_pos hp.1 hq.1;walk_at"o") (h1.1.mul h2.1) (h1.2.mul h2.2)
theorem Ag{p q:Int × Int}(hp:p.2 ≠ 0)(hq:q.2 ≠ 0):wv (sI p q)=wv p*wv q:=by
 unfold sI
 rw[ii (Int.mul_ne_zero hp hq)]
 unfold wv
 have h1:=ar hp
 have h2:=ar hq
 simp only[Rat.intCast_mul]
 grind
section
variable {X:Cx}
def kq:List Int->Int
 | []=>0
 | a :: as=>a+kq as
theorem oW(as bs:List Int):kq (as ++ bs)=kq as+kq bs:=by
 induction as with
 | nil=>simp[kq]
 | cons a as ih=>simp only[List.cons_append,kq,ih];walk_at"o"
theorem md(ns:List Int):∀ k,k<=ns.length->preSum (fun i=>ns.getD i 0) k=kq (ns.take k)
 | 0,_=>rfl
 | k+1,h=>by
  have hk:k<ns.length:=by walk_at"o"
  show preSum _ k+ns.getD k 0=_
  rw[md ns k (by walk_at"o"),List.take_add_one,List.getElem?_eq_getElem hk,oW]
  simp[kq,List.getD_eq_getElem?_getD,List.getElem?_eq_getElem hk]
theorem sk:∀{ns:List Int}{us:List Value},bA (ns.map V.int) us -> ∀ {i:Nat}{v:Value},us[i]? = some v -> ∃ t,v = .int (ns.getD i 0) t
 | [],us,h,i,v,e=>by cases h;cases e
 | n :: ns,us,h,i,v,e=>by
  cases h with
  | cons r rr =>
   cases i with
   | zero =>
    cases e
    obtain⟨t,rfl⟩:=r
    exact⟨t,rfl⟩
   | succ i =>
    obtain⟨t,q⟩:=sk rr (i:=i) e
    exact⟨t,by rw[q];simp⟩
theorem pE(hh:X.calm=true):fF X (.builtin "sum") (fun xs H Q=>∃ p,xs=[.ref p] /\ ∃ ns:List Int,vw X.K H p=some (.lst (ns.map V.int))/\Q (.int (kq ns)) H):=by
 intro pins s σ H xs us Q I r h
 obtain⟨p,rfl,ns,hp,q⟩:=h
 cases r with
 | cons r1 rr =>
  cases rr
  cases r1
  obtain⟨its,rv,pl,hz⟩:=I.list (j6.of (K:=X.K) (aF hp))
  have hl:=rv.length
  rw[List.length_map] at hl
  have hlt:p<s.heap.objs.size:=by obtain⟨o,n,e1,_⟩:=pl;exact Heap.lt_size e1
  refine call_sum_walkG (wpAny_pyIter_list pl.isList ⟨s.heap.objs.size,_,_,_,_,_,fun i=>ns.getD i 0,rfl,Walks.list (show X.A.in1.handled=none from I.ok.hd hh) _ p (Nat.ne_of_lt hlt) _,⟨⟨_,Heap.get?_push_size _ rfl,rfl,rfl⟩,pl.isList.push _⟩,?_,fun i v hv=>sk rv (by simpa using hv),fun h' tk t' hk=>?_⟩)
  ·intro b hb
   show b<(s.heap.push _).objs.size
   rw[Heap.size_push]
   simp only[List.mem_cons,List.not_mem_nil,or_false] at hb
   rcases hb with e|e
   ·rw[e];exact Nat.lt_succ_self _
   ·rw[e];exact Nat.lt_succ_of_lt hlt
  ·refine⟨.int (kq ns),H,I.kept fun b o e=>hk b o (fun z=>?_) (Heap.get?_push_of_some _ e),⟨t',?_⟩,q⟩
   ·rw[List.mem_singleton.mp z] at e
    exact absurd (Heap.lt_size e) (Nat.lt_irrefl _)
   ·rw[List.size_toArray,<- hl,md ns _ (Nat.le_refl _),List.take_length]
theorem nh:Ci X .Mult (fun x y H Q=>∃ i j,x = .int i/\y = .int j/\IntMulOk i j/\Q (.int (i*j)) H):=by
 intro pins s σ H x y v u Q I r1 r2 h
 obtain⟨i,j,rfl,rfl,m,q⟩:=h
 obtain⟨t,rfl⟩:=r1
 obtain⟨t',rfl⟩:=r2
 exact imul_int ⟨.int _,H,I.tok _,⟨_,rfl⟩,q⟩ m
theorem nY{st:Stmt}:QS X st tY:=⟨AG⟩
theorem zO:bootBuiltins "sum" = some (.builtin "sum"):=by decide +kernel
end
theorem oR{K:W.Frag}{J:It}{its:List V}{ps:List (V × V)}{tif:TT}{te:TE}{a:Addr}{x0 x1:Option V}{σr:St}{H0:Hp}{Q:Hp->Prop}(Pv:Nat->List V->Hp->Prop)(hlen:its.length=ps.length)
  (hl:∀ i xs H,i<=its.length->vw K H a=some (.lst xs)->Pv i xs H->oM J H its /\ ∀ (j:Nat)(x y:V),ps[j]? = some (x,y) -> ∃ p:Addr,its[j]? = some (V.ref p)/\vw K H p=some (HO.tup [x,y]))(ha:vw K H0 a=some (.lst []))(h0:Pv 0 [] H0)
  (hs:∀ i x y xs H,i<ps.length->ps[i]? = some (x,y)->vw K H a=some (.lst xs)->Pv i xs H->tif (some x :: some y :: σr) H fun b H3=>if b=true then te (some x :: some y :: σr) H3 (Ep K a (Cm K a σr (Pv (i+1)) (some x :: some y :: σr))) else Cm K a σr (Pv (i+1)) (some x :: some y :: σr) H3)
  (hd:∀ xs H,vw K H a=some (.lst xs)->Pv ps.length xs H->Q H):nO K J (i6 K 2 (jY (gH 0) (jY (gH 1) uu))) tif te a (x0 :: x1 :: σr) H0 Q:=by
 refine⟨fun i m σ H=>m=ps.length - i/\i<=ps.length/\Cm K a σr (Pv i) σ H,⟨ps.length,by simp,Nat.zero_le _,⟨_,_,rfl⟩,_,ha,h0⟩,?_⟩
 rintro i m σ H ⟨rfl,hi,⟨y,z,rfl⟩,xs,hxs,p⟩
 obtain⟨⟨q1,q2,q3⟩,q4⟩:=hl i xs H (by walk_at"o") hxs p
 by_cases hlt:i<ps.length
 ·refine .inr ⟨q1 i (by walk_at"o"),Cm K a σr (Pv (i+1)),fun σ' H' p'=>⟨ps.length - (i+1),by walk_at"o",rfl,hlt,p'⟩,fun x H' y=>?_⟩
  obtain⟨e,y2⟩:=q2 i x H' (by walk_at"o") y
  subst e
  obtain⟨b,e1,e2⟩:=q4 i _ _ (List.getElem?_eq_getElem hlt)
  rw[e1] at y2
  cases y2
  exact⟨b,rfl,_,e2,rfl,_,_,rfl,_,_,rfl,rfl,hs i _ _ xs _ hlt (List.getElem?_eq_getElem hlt) hxs p⟩
 ·have e:i=ps.length:=by walk_at"o"
  subst e
  exact .inl ⟨hlen ▸ q3,hd xs H hxs p⟩
theorem gF{g q:Int}(hg:g ≠ 0)(h:g ∣ q):q.fdiv g*g=q:=by
 obtain⟨m,rfl⟩:=h
 rw[Int.mul_comm g m,Int.mul_fdiv_cancel m hg]
theorem vb{a b:Int}(ha:0<=a)(hb:1<=b):a<=a*b:=by
 have:=Int.mul_le_mul_of_nonneg_left hb ha
 walk_at"o"
theorem sS{b q:Int}(hb:0<b)(hq:0<q):0<q.fdiv (Int.gcd b q:Int)/\q.fdiv (Int.gcd b q:Int)<=q/\q ∣ b*q.fdiv (Int.gcd b q:Int)/\(Int.gcd b q:Int) ≠ 0/\(Int.gcd b q:Int)<=q:=by
 have hg:(Int.gcd b q:Int) ≠ 0:=by
  have:Int.gcd b q ≠ 0:=fun e=>by
   have:=(Int.gcd_eq_zero_iff.mp e).2
   walk_at"o"
  walk_at"o"
 have hg0:0<(Int.gcd b q:Int):=by walk_at"o"
 have e:=gF hg (Int.gcd_dvd_right b q)
 have hle:(Int.gcd b q:Int)<=q:=Int.le_of_dvd hq (Int.gcd_dvd_right b q)
 generalize q.fdiv (Int.gcd b q:Int)=c at e
 obtain⟨m,hm⟩:=Int.gcd_dvd_left b q
 have hc:0<c:=by
  refine Int.pos_of_mul_pos_left ?_ hg0
  rw[e]
  exact hq
 refine⟨hc,?_,⟨m,?_⟩,hg,hle⟩
 ·rw[<- e]
  exact vb (by walk_at"o") (by walk_at"o")
 ·rw[<- e]
  generalize (Int.gcd b q:Int)=g at *
  rw[hm]
  rw[Int.mul_right_comm,Int.mul_comm c g]
theorem Bt.le{n:Nat}{x y:Int}(h:Bt n y)(h0:0<=x)(hl:x<=y):Bt n x:=by
 unfold Bt at *
 walk_at"o"
theorem sE{q:Int × Int}{D:Int}{m n:Nat}(hq:Fq q)(hd:q.2 ∣ D)(hD:0<D)(b1:Bt m D)(b2:Bt n q.1):((q.1*D.fdiv q.2:Int):Rat)=wv q*(D:Rat)/\Bt (m+n) (q.1*D.fdiv q.2)/\Bt m (D.fdiv q.2):=by
 have h2:q.2 ≠ 0:=by have:=hq.1;walk_at"o"
 have e:=gF h2 hd
 have hp:0<D.fdiv q.2:=by
  refine Int.pos_of_mul_pos_left ?_ hq.1
  rw[e]
  exact hD
 have hle:D.fdiv q.2<=D:=by
  have:=vb (Int.le_of_lt hp) (show 1<=q.2 by have:=hq.1;walk_at"o")
  rw[e] at this
  exact this
 have bm:=b1.le (Int.le_of_lt hp) hle
 refine⟨?_,(b2.mul bm).mono (by walk_at"o"),bm⟩
 generalize D.fdiv q.2=c at *
 have h3:=ar h2
 rw[<- e]
 unfold wv
 simp only[Rat.intCast_mul]
 grind
end L2
namespace L2
open PySem PySem.Spec PyProof.Rows
def aO(x:Rat):Nat->Rat
 | 0=>1
 | k+1=>aO x k*x
def cj:List dQ->Nat->Rat
 | [],_=>0
 | c :: cs,k=>wv c.2*aO (wv c.1) k+cj cs k
theorem oz{G:Hp}:∀{cs:List dQ}{xs:List V},aE G (cs.map sR) xs -> ∃ ps:List (V × V),ps.length=cs.length/\(∀ (j:Nat)(x y:V),ps[j]? = some (x,y) -> ∃ p:Addr,xs[j]? = some (V.ref p)/\G p=some (HO.tup [x,y])) /\
  aE G ((cs.map (·.1)).map fr) (ps.map (·.1))/\aE G ((cs.map (·.2)).map fr) (ps.map (·.2))
 | [],xs,h=>⟨[],rfl,by simp,.mk_nil,.mk_nil⟩
 | c :: cs,xs,h=>by
  obtain⟨x,r,rfl,h1,h2⟩:=aE.cons_at h
  obtain⟨ps,e1,e2,e3,e4⟩:=oz h2
  obtain⟨a,u,v,rfl,ha,r1,r2⟩:=h1.spt_at
  refine⟨(u,v) :: ps,by simp[e1],fun j x y e=>?_,.mk_cons r1 e3,.mk_cons r2 e4⟩
  cases j with
  | zero=>cases e;exact⟨a,rfl,ha⟩
  | succ j=>exact e2 j x y e
theorem cU(x:Rat)(k:Nat):aO x (k+1)=aO x k*x:=rfl
end L2
namespace L2
open PySem PySem.Spec PyProof.Rows
def sumQ:List (Int × Int)->Rat
 | []=>0
 | q :: qs=>wv q+sumQ qs
theorem zM(as bs:List (Int × Int)):sumQ (as ++ bs)=sumQ as+sumQ bs:=by
 induction as with
 | nil=>show sumQ bs=0+sumQ bs;grind
 | cons a as ih=>show wv a+sumQ (as ++ bs)=wv a+sumQ as+sumQ bs;rw[ih];grind
theorem sC{k:Nat}:∀{cs:List dQ}{qs:List (Int × Int)},qs.length=cs.length->(∀ (i:Nat)(q:Int × Int)(c:dQ),qs[i]? = some q->cs[i]? = some c->wv q=wv c.2*aO (wv c.1) k)->sumQ qs=cj cs k
 | [],[],_,_=>rfl
 | [],_ :: _,h,_=>by simp at h
 | _ :: _,[],h,_=>by simp at h
 | c :: cs,q :: qs,h,hw=>by
  show wv q+sumQ qs=wv c.2*aO (wv c.1) k+cj cs k
  rw[sC (cs:=cs) (qs:=qs) (by simpa using h) fun i n d e1 e2=>hw (i+1) n d (by simpa using e1) (by simpa using e2),hw 0 q c rfl rfl]
end L2
namespace L2
open PySem PySem.Spec PyProof.Rows
end L2
namespace L2
open PySem PySem.Spec PyProof.Rows
def rF(p q:Int × Int):Int × Int:=lo (p.1*q.2 - q.1*p.2) (p.2*q.2)
theorem vI{p q:Int × Int}(hp:Fq p)(hq:Fq q):Fq (rF p q):=ir (by have:=Int.mul_pos hp.1 hq.1;walk_at"o")
theorem uo{p q:Int × Int}(hp:p.2 ≠ 0)(hq:q.2 ≠ 0):wv (rF p q)=wv p - wv q:=by
 unfold rF
 rw[ii (Int.mul_ne_zero hp hq)]
 unfold wv
 have h1:=ar hp
 have h2:=ar hq
 simp only[Rat.intCast_sub,Rat.intCast_mul]
 grind
theorem iy{q:Int × Int}(hq:q.2 ≠ 0):wv q=0 ↔ q.1=0:=by
 have h2:=ar hq
 unfold wv
 constructor
 ·intro h
  have:(q.1:Rat)=0:=by grind
  simpa using this
 ·intro h
  have:(q.1:Rat)=0:=by rw[h];rfl
  rw[this]
  grind
end L2
namespace L2
open PySem PySem.Spec PyProof.Rows
def cf(qs:List (Int × Int))(k:Nat):Rat:=match qs[k]? with
 | some q=>wv q
 | none=>0
def aL(qs:List (Int × Int)):Prop:=(∀ q ∈ qs,Fq q) /\ ∀ q,qs.getLast? = some q->q.1 ≠ 0
theorem Fq.ne{q:Int × Int}(h:Fq q):q.2 ≠ 0:=by have:=h.1;walk_at"o"
theorem bJ{qs:List (Int × Int)}{k:Nat}{q:Int × Int}(h:qs[k]? = some q):cf qs k=wv q:=by unfold cf;rw[h]
theorem cC{qs:List (Int × Int)}{k:Nat}(h:qs.length<=k):cf qs k=0:=by unfold cf;rw[List.getElem?_eq_none h]
theorem yR(k:Nat):cf [] k=0:=rfl
theorem CH{qs:List (Int × Int)}{n:Nat}(hF:∀ q ∈ qs,Fq q)(hz:∀ q ∈ qs.drop n,q.1=0)(k:Nat):cf (qs.take n) k=cf qs k:=by
 by_cases hk:k<n
 ·unfold cf
  rw[List.getElem?_take,if_pos hk]
 ·unfold cf
  rw[List.getElem?_take,if_neg hk]
  cases e:qs[k]? with
  | none=>rfl
  | some q =>
   have hm:q ∈ qs.drop n:=List.mem_of_getElem? (i:=k - n) (by rw[List.getElem?_drop,show n+(k - n)=k by walk_at"o"];exact e)
   exact ((iy (hF q (List.mem_of_getElem? e)).ne).mpr (hz q hm)).symm
theorem mX{q:Int × Int}(h:Fq q):q=(0,1) ↔ q.1=0:=by
 constructor
 ·rintro rfl;rfl
 ·intro e
  obtain⟨h1,h2⟩:=h
  rw[e] at h2
  have:q.2.natAbs=1:=by simpa using h2
  exact Prod.ext e (by show q.2=1;walk_at"o")
end L2
namespace L2
open PySem PySem.Spec PyProof.Rows
def Hn:List Int->Rat->Rat
 | [],_=>0
 | n :: ns,x=>(n:Rat)+x*Hn ns x
end L2
namespace L2
open PySem PySem.Spec PyProof.Rows
def pz(f g:Nat->Int):Nat->Nat->Int
 | 0,_=>0
 | j+1,k=>pz f g j k+if j<=k then f j*g (k - j) else 0
def pr(f g:Nat->Rat):Nat->Nat->Rat
 | 0,_=>0
 | j+1,k=>pr f g j k+if j<=k then f j*g (k - j) else 0
theorem m7{f g:Nat->Int}{F G:Nat->Rat}{c d:Rat}(hf:∀ i,(f i:Rat)=F i*c)(hg:∀ i,(g i:Rat)=G i*d):∀ j k,((pz f g j k:Int):Rat)=pr F G j k*(c*d)
 | 0,k=>by
  show ((0:Int):Rat)=0*(c*d)
  grind
 | j+1,k=>by
  show (((pz f g j k+if j<=k then f j*g (k - j) else 0:Int)):Rat)=(pr F G j k+if j<=k then F j*G (k - j) else 0)*(c*d)
  rw[Rat.intCast_add,m7 hf hg j k]
  split
  ·rw[Rat.intCast_mul,hf,hg]
   grind
  ·grind
theorem jp{n:Nat}:Bt n 0:=by
 show (0:Int).natAbs<2 ^ n
 exact Nat.two_pow_pos n
theorem va{f g:Nat->Int}{m n:Nat}(hf:∀ i,Bt m (f i))(hg:∀ i,Bt n (g i)):∀ j k,Bt (m+n+j) (pz f g j k)
 | 0,k=>jp
 | j+1,k=>by
  have h1:=va hf hg j k
  have h2:Bt (m+n) (if j<=k then f j*g (k - j) else 0):=by
   split
   ·exact (hf j).mul (hg _)
   ·exact jp
  exact (h1.add h2).mono (by walk_at"o")
def qz(f g:Nat->Int)(j l k:Nat):Int:=pz f g j k+if j<=k/\k - j<l then f j*g (k - j) else 0
theorem Hl(f g:Nat->Int)(j k:Nat):qz f g j 0 k=pz f g j k:=by simp[qz]
theorem F5(f g:Nat->Int)(j l k:Nat):qz f g j (l+1) k=if k=j+l then qz f g j l (j+l)+f j*g l else qz f g j l k:=by
 by_cases h:k=j+l
 ·subst h
  rw[if_pos rfl]
  unfold qz
  rw[if_pos (by walk_at"o"),if_neg (by walk_at"o"),show j+l - j=l by walk_at"o"]
  walk_at"o"
 ·rw[if_neg h]
  unfold qz
  by_cases h2:j<=k/\k - j<l
  ·rw[if_pos h2,if_pos (by walk_at"o")]
  ·rw[if_neg h2,if_neg (by walk_at"o")]
theorem D6{f g:Nat->Int}{n:Nat}(hg:∀ i,n<=i->g i=0)(j k:Nat):qz f g j n k=pz f g (j+1) k:=by
 show _=pz f g j k+if j<=k then f j*g (k - j) else 0
 unfold qz
 by_cases h:j<=k
 ·rw[if_pos h]
  by_cases h2:k - j<n
  ·rw[if_pos ⟨h,h2⟩]
  ·rw[if_neg (by walk_at"o"),hg _ (by walk_at"o"),Int.mul_zero]
 ·rw[if_neg h,if_neg (by walk_at"o")]
theorem iz{f g:Nat->Rat}{n:Nat}(hg:∀ i,n<=i->g i=0):∀ (j k:Nat),j+n<=k+1->pr f g j k=0
 | 0,k,_=>rfl
 | j+1,k,h=>by
  show pr f g j k+(if j<=k then f j*g (k - j) else 0)=0
  rw[iz hg j k (by walk_at"o")]
  by_cases h1:j<=k
  ·rw[if_pos h1,hg _ (by walk_at"o")]
   grind
  ·rw[if_neg h1]
   grind
def lz{α:Type}(n:Nat)(h:Nat->α):List α:=(List.range n).map h
theorem aW{α:Type}{n:Nat}{h:Nat->α}:(lz n h).length=n:=by simp[lz]
theorem cV{α:Type}{n:Nat}{h:Nat->α}{i:Nat}(hi:i<n):(lz n h)[i]? = some (h i):=by simp[lz,hi]
theorem iu{α:Type}{n:Nat}{h g:Nat->α}(e:∀ k,k<n->h k=g k):lz n h=lz n g:=by
 apply List.ext_getElem?
 intro i
 by_cases hi:i<n
 ·rw[cV hi,cV hi,e i hi]
 ·rw[List.getElem?_eq_none (by rw[aW];walk_at"o"),List.getElem?_eq_none (by rw[aW];walk_at"o")]
theorem AA{α:Type}{n:Nat}{h:Nat->α}{i:Nat}{v:α}:(lz n h).set i v=lz n fun k=>if k=i then v else h k:=by
 apply List.ext_getElem?
 intro k
 by_cases hk:k<n
 ·rw[cV hk]
  by_cases e:k=i
  ·subst e
   rw[List.getElem?_set_self (by rw[aW];exact hk),if_pos rfl]
  ·rw[List.getElem?_set_ne (Ne.symm e),cV hk,if_neg e]
 ·rw[List.getElem?_eq_none (by rw[List.length_set,aW];walk_at"o"),List.getElem?_eq_none (by rw[aW];walk_at"o")]
theorem rf{α β:Type}{n:Nat}{h:Nat->α}(f:α->β):(lz n h).map f=lz n fun k=>f (h k):=by simp[lz]
theorem FF{α:Type}(n:Nat)(x:α):(List.replicate n [x]).flatten=lz n fun _=>x:=by
 induction n with
 | zero=>rfl
 | succ n ih =>
  apply List.ext_getElem?
  intro i
  rw[show (List.replicate (n+1) [x]).flatten=List.replicate (n+1) x by simp]
  by_cases hi:i<n+1
  ·rw[cV hi,List.getElem?_replicate_of_lt hi]
  ·rw[List.getElem?_eq_none (by simp;walk_at"o"),List.getElem?_eq_none (by rw[aW];walk_at"o")]
def nz(ns:List Int)(k:Nat):Int:=ns.getD k 0
theorem cp{ns:List Int}{k:Nat}{n:Int}(h:ns[k]? = some n):nz ns k=n:=by simp[nz,List.getD_eq_getElem?_getD,h]
theorem cF{ns:List Int}{k:Nat}(h:ns.length<=k):nz ns k=0:=by simp[nz,List.getD_eq_getElem?_getD,List.getElem?_eq_none h]
theorem i8{ns:List Int}{m:Nat}(h:∀ n ∈ ns,Bt m n)(k:Nat):Bt m (nz ns k):=by
 cases e:ns[k]? with
 | none=>rw[cF (List.getElem?_eq_none_iff.mp e)];exact jp
 | some n=>rw[cp e];exact h n (List.mem_of_getElem? e)
theorem uW{n k:Nat}{h:Nat->Int}(hk:k<n):nz (lz n h) k=h k:=cp (cV hk)
theorem fI{qs:List (Int × Int)}{ns:List Int}{D:Rat}(hl:ns.length=qs.length)(h:∀ (i:Nat)(n:Int)(q:Int × Int),ns[i]? = some n->qs[i]? = some q->(n:Rat)=wv q*D)(i:Nat):((nz ns i:Int):Rat)=cf qs i*D:=by
 by_cases hi:i<qs.length
 ·have e1:=List.getElem?_eq_getElem hi
  have e2:=List.getElem?_eq_getElem (show i<ns.length by walk_at"o")
  rw[cp e2,bJ e1]
  exact h i _ _ e2 e1
 ·rw[cF (by walk_at"o"),cC (by walk_at"o")]
  show ((0:Int):Rat)=0*D
  grind
theorem kl{n k:Nat}(h:k<n):tR n (k:Int)=some k:=by
 unfold tR
 simp
 walk_at"o"
end L2
namespace L2
open PySem PySem.Spec PyProof.Rows
theorem ig{X:Cx}:D5 X (fun o i H Q=>∃ p k,o = .ref p/\i = .int k /\ ∃ xs,vw X.K H p=some (.lst xs) /\ ∃ v,mL xs k=some v/\Q v H):=by
 intro pins s σ H x y v u Q I rx ry h
 obtain⟨p,k,rfl,rfl,xs,hx,z,he,q⟩:=h
 cases rx
 obtain⟨t,rfl⟩:=ry
 obtain⟨its,r,pl,hz⟩:=I.list (j6.of (K:=X.K) (aF hx))
 obtain⟨j,h1,h2,h3,h4,h5⟩:=qu he
 obtain⟨w,ew,rw'⟩:=r.get h2
 have hl:=r.length
 have hn:=lZ
 have fin:EP X pins σ Q w s:=⟨z,H,I,rw',q⟩
 by_cases h0:0<=k
 ·have hj:k.toNat=j:=by
   rw[seqIndex_of h0 h5] at h1
   exact Option.some.inj h1
  exact wpAny_getItem_list pl.isList h0 (by walk_at"o") (by rw[hj];simpa using ew) fin
 ·have hj:(k+(its.toArray.size:Int)).toNat=j:=by
   rw[seqIndex_neg (by walk_at"o") h4] at h1
   rw[List.size_toArray,<- hl]
   exact Option.some.inj h1
  exact wpAny_getItem_list_neg pl.isList (by walk_at"o") (by rw[List.size_toArray] <;> walk_at"o") (by walk_at"o") (by rw[hj];simpa using ew) fin
theorem iJ{K:W.Frag}{H:Hp}{p:Addr}{xs:List V}(h:vw K H p=some (.lst xs)):rJ K (.ref p) H (!xs.isEmpty):=.inl ⟨xs,.of (aF h),rfl⟩
end L2
namespace L2
open PySem PySem.Spec PyProof.Rows
theorem ay.none{G G':Hp}{c:Addr}(S:ay G G')(h:G' c=none):G c=none:=by
 cases e:G c with
 | none=>rfl
 | some o=>rw[S _ _ e] at h;cases h
theorem si:Fq (0,1):=⟨by decide,by decide⟩
theorem Dj{n:Nat}(h:1<=n):Bq n (0,1):=Bq.mono (m:=1) (q:=(0,1)) ⟨by decide,by decide⟩ h
theorem kz:wv (0,1)=0:=(iy (q:=(0,1)) (by decide)).mpr rfl
theorem Gf:wv (1,1)=1:=by
 show ((1:Int):Rat) / ((1:Int):Rat)=1
 have:((1:Int):Rat)=1:=rfl
 rw[this]
 grind
theorem rR{α:Type}(n:Nat)(x:α):(List.replicate n [x]).flatten=List.replicate n x:=by simp
theorem wd{α β:Type}(f:α->β)(n:Nat)(x:α):(List.replicate n x).map f=List.replicate n (f x):=by simp
end L2
namespace L2
open PySem PySem.Spec PyProof.Rows
theorem Gi(q:Int × Int):(fr q).py = .tuple [.int q.1,.int q.2]:=by
 unfold fr
 simp only[D.py,D.pys]
theorem Ah:∀(qs:List (Int × Int)),PyData.canLayAll0 (D.pys (qs.map fr))=true/\PyData.depthAll (D.pys (qs.map fr))<=4
 | []=>by
  simp only[List.map_nil,D.pys]
  exact⟨rfl,by simp[PyData.depthAll]⟩
 | c :: cs=>by
  obtain⟨h1,h2⟩:=Ah cs
  simp only[List.map_cons,D.pys,Gi,PyData.canLayAll0,PyData.canLay0,h1,PyData.depthAll,PyData.depth]
  refine⟨by decide,?_⟩
  walk_at"o"
theorem A4(fs:List (Int × Int)):(D.lst (fs.map fr)).cmp:=by
 obtain⟨h1,h2⟩:=Ah fs
 unfold D.cmp
 simp only[D.py,PyData.canLay0,PyData.depth]
 exact⟨h1,by walk_at"o"⟩
end L2
namespace L2
open PySem PySem.Spec PyProof.Rows
theorem xM{α:Type}{l:List α}(h:l ≠ []):∃ x,l.getLast? = some x:=by
 cases e:l.getLast? with
 | none=>exact absurd (List.getLast?_eq_none_iff.mp e) h
 | some x=>exact⟨x,rfl⟩
end L2
namespace L2
open PySem PySem.Spec PyProof.Rows
section
variable {X:Cx}{pins:List (Addr × Obj)}{σ:St}{H H':Hp}{s s':Shared}
end
end L2
namespace L2
open PySem PySem.Spec PyProof.Rows
section
variable {P:Program}{w:World}{K:W.Frag}{mg:Str->Option Value}{base:Heap}{N:List Str}{qual:Str}{scope:Scope}{f:Addr}{cd:Value}{A:Around}{outer:List Env}{s₀:Shared}{H₀:Hp}{E:XK}{C:Addr}
end
end L2
namespace L2
open PySem PySem.Spec PySem.Calls PyProof.Rows PySem.W PySem.Builtin PySem.Builtin.ObjectAttr PySem.Builtin.Getset_descriptor
section
variable {prog:Program}{w:World}{A:Around}{E:Value->Shared->Prop}{K:Frag}{x C:Addr}{ob:Obj}{hh:Heap}{g:Array GenState}{d:Drawn}{t:Nat}{os:OsState}
end
end L2
namespace L2
open PySem PySem.Spec PyProof.Rows
section
variable {X:Cx}{pins:List (Addr × Obj)}{σ:St}{H H':Hp}{s s':Shared}
end
end L2
namespace L2
open PySem PySem.Spec PyProof.Rows
section
variable {X:Cx}
end
end L2
namespace L2
open PySem PySem.Spec PyProof.Rows
end L2
namespace L2
open PySem PySem.Spec PyProof.Rows
end L2
namespace L2
open PySem PySem.Spec PyProof.Rows
end L2
namespace L2
open PySem PySem.Spec PyProof.Rows
end L2
namespace L2
open PySem PySem.Spec PyProof.Rows
end L2
namespace L2
open PySem PySem.Spec PyProof.Rows
end L2
namespace L2
open PySem PySem.Spec PyProof.Rows
section
variable {P:Program}{w:World}{K:W.Frag}{mg:Str->Option Value}{base:Heap}
end
section
variable {X:Cx}
end
end L2
namespace L2
open PySem PySem.Spec PyProof.Rows
def uQ(mg:Str->Option Value)(base:Heap):Prop:=∃ bm o,mg "__builtins__" = some (.ref bm)/\bm ≠ builtinsNs/\bm ≠ mainGlobals/\base.get? bm=some o/\o.cls = .type "module" /\ o.dict=some builtinsNs/\o.data = .plain
def FZ(ts:List (Addr × Addr))(H:Hp):Prop:=∀ b,H b=none\/(∃ o xs,H b=some (.frz o (.lst xs)))\/(H b=some (.tbl #[]) /\ ∃ q ∈ ts,q.2=b)
theorem xP{P:Program}{w:World}{K:W.Frag}{mg mb:Str->Option Value}{CX:xg}{k:Nat}{fa a:Addr}{fd:FuncData}{x:Str}{sp:Sp}{s₁:Shared}{vs:List Value}{ns:List Int}{ts:List (Addr × Addr)}
  (KX:K.In s₁.heap)(hns:s₁.heap.Ns mainGlobals mg)(hb:s₁.heap.Ns builtinsNs mb)(hbb:∀ x:Str,x ≠ "__name__" -> mb x=bootBuiltins x) (hlim:s₁.heap.NoLimit)(hg:s₁.gens = #[])
  (ha:s₁.heap.get? a=some { cls:=.type "list",data:=.seq vs.toArray }) (hi:IntsAre vs ns)(hl:ns.length<=sizeLine)(hr:ge k callerA)(hT:∀ q ∈ ts,PySem.W.codeHdIn K q.1 q.2=true/\K.lookup q.2=none/\s₁.heap.get? q.2=some (PySem.W.tabObj #[]))
  (hB:uQ mg s₁.heap)(hSr:s₁.heap.NoSeer)(F:∀ base:Heap,K.In base->base.Ns mainGlobals mg->uQ mg base->base.NoSeer->bK P w K mg base CX k fa fd [x] sp)(hbind:∀ (s:Shared)(u:Value),BindsTo s fd ⟨[u],[]⟩ [(x,u)])
  (hsp:∀ H:Hp,(∀ q ∈ ts,vw K H q.2=some (.tbl #[]))->(H a ≠ none->K.lookup a=none)->j6 K H a (ns.map V.int)->sp [.ref a] H (fun v _=>v = .bl true) fun _ _ _=>False)
  (hCX:∀ H e s',CX [] H s₁ (fun _ _ _=>False) e s'->False) :
  codeAny (model P w) callerA (.call (.ref fa) ⟨[.ref a],[]⟩) (fun r s'=>r = .ok (.ret (.bool true))/\OldK s₁.heap s'.heap/\s'.os=s₁.os/\AllBare s'.gens) s₁:=by
 have rv:=pH hi
 have lenV:=hi.length
 have na:∀ q ∈ ts,q.2 ≠ a:=fun q hq z=>by
  have:=(hT q hq).2.2
  rw[z,ha] at this
  cases this
 have core:∀ H:Hp,FZ ts H->(∀ q ∈ ts,H q.2=some (.tbl #[]))->j6 K H a (ns.map V.int)->mS P w H s₁.heap->(∀ b,H b ≠ none->b=a \/ ∃ q ∈ ts,q.2=b)->(H a ≠ none->K.lookup a=none) ->
   codeAny (model P w) callerA (.call (.ref fa) ⟨[.ref a],[]⟩) (fun r s'=>r = .ok (.ret (.bool true))/\OldK s₁.heap s'.heap/\s'.os=s₁.os/\AllBare s'.gens) s₁:=by
  intro H hO hTT hS hok hA hK
  have base_of:∀ {b:Addr}{o:Obj},s₁.heap.get? b=some o->H b=none->(nL s₁.heap H).get? b=some o:=fun e n=>zY e n
  have noA:∀ {b:Addr}{o:Obj}{es:Array DictEntry}{ep:Nat},s₁.heap.get? b=some o->o.data = .dict es ep->H b=none:=fun {b o es ep} e d=>by
   cases q:H b with
   | none=>rfl
   | some u =>
    rcases hA b (by rw[q];simp) with e'|⟨y,hy,e'⟩
    ·subst e'
     rw[ha] at e;cases e
     have d':Data.seq vs.toArray _=Data.dict es ep:=d
     cases d'
    ·subst e'
     rw[(hT y hy).2.2] at e;cases e
     have d':Data.fields (#[]:Array Value)=Data.dict es ep:=d
     cases d'
  have nsK:∀ {b:Addr}{m:Str->Option Value},s₁.heap.Ns b m->(nL s₁.heap H).Ns b m:=fun {b m} ⟨o,es,ep,e,d,r⟩=>⟨o,es,ep,base_of e (noA e d),d,r⟩
  have hKb:K.In (nL s₁.heap H):=fun b o e=>base_of (KX b o e) (by
   cases q:H b with
   | none=>rfl
   | some u =>
    rcases hA b (by rw[q];simp) with e'|⟨y,hy,e'⟩
    ·subst e'
     rw[hK (by rw[q];simp)] at e;cases e
    ·subst e'
     rw[(hT y hy).2.1] at e;cases e)
  have hM:Mod K mg (nL s₁.heap H):=⟨hKb,nsK hns,⟨mb,nsK hb,hbb⟩,let ⟨mc,h1,h2⟩:=hlim;⟨mc,nsK h1,h2⟩⟩
  have e0:CP P w K mg (nL s₁.heap H) callerA [] s₁ H:=⟨rfl,hM,fun b o e=>BP e,Nat.le_of_eq (xt _ _),trivial,fun b hb=>absurd (show b ∈ ([]:List Addr) from hb) (by simp),hok,.of_eq hg⟩
  have hBb:uQ mg (nL s₁.heap H):=by
   obtain⟨bm,ob,b1,b2,b3,b4,b5,b6,b7⟩:=hB
   refine⟨bm,ob,b1,b2,b3,base_of b4 ?_,b5,b6,b7⟩
   cases q:H bm with
   | none=>rfl
   | some u =>
    rcases hA bm (by rw[q];simp) with e'|⟨y,hy,e'⟩
    ·rw[e',ha] at b4;cases b4;simp at b5
    ·rw[<- e',(hT y hy).2.2] at b4;cases b4;cases b5
  have hSb:(nL s₁.heap H).NoSeer:=by
   refine⟨let ⟨mc,a,b⟩:=hSr.statics;⟨mc,nsK a,b⟩,let ⟨mm,a,b⟩:=hSr.mods;⟨mm,nsK a,b⟩,let ⟨mb,a,b⟩:=hSr.imp;⟨mb,nsK a,b⟩,?_⟩
   obtain⟨mg',bm,ob,b1,b2,b4,b5,b6⟩:=hSr.main
   refine⟨mg',bm,ob,nsK b1,b2,base_of b4 ?_,b5,b6⟩
   cases q:H bm with
   | none=>rfl
   | some u =>
    rcases hA bm (by rw[q];simp) with e'|⟨y,hy,e'⟩
    ·rw[e',ha] at b4;cases b4;simp at b5
    ·rw[<- e',(hT y hy).2.2] at b4;cases b4;cases b5
  refine codeAny_mono ((F _ hKb (nsK hns) hBb hSb).run callerA [] s₁ H ⟨[.ref a],[]⟩ [.ref a] [.ref a] _ _ hr e0 (hbind s₁ (.ref a)) (.cons rfl .nil) (hsp H (fun q hq=>(eE (hT q hq).2.1).trans (hTT q hq)) hK hS)) fun r s' h=>?_
  cases r with
  | error e=>exact (hCX H e s' h).elim
  | ok fl =>
   cases fl with
   | next=>exact False.elim h
   | brk=>exact False.elim h
   | cont=>exact False.elim h
   | ret u =>
    obtain⟨v,H',os,bare,un,hok',r',q⟩:=h
    have q':v = .bl true:=q
    subst q'
    obtain rfl:u=Value.bool true:=r'
    have key:∀ b o,s₁.heap.get? b=some o->s'.heap.get? b=some o\/((∃ y ∈ ts,y.2=b)/\o=PySem.W.tabObj #[] /\ ∃ more,s'.heap.get? b=some (PySem.W.tabObj more)):=fun b o e=>by
     cases q:H b with
     | none=>exact .inl (un.keep b o e q (by intro z;exact absurd (show b ∈ ([]:List Addr) from z) (by simp)) (by simp))
     | some u =>
      rcases hO b with z|⟨ob,xs,z⟩|⟨z,y,hy,e'⟩
      ·rw[q] at z;cases z
      ·have z2:=un.frzs b ob _ z
       obtain⟨e1,_⟩:=hok b _ z
       obtain⟨e2,_⟩:=hok' b _ z2
       rw[e] at e1;cases e1
       exact .inl e2
      ·obtain⟨more,z2⟩:=un.tbls b #[] z
       have e1:s₁.heap.get? b=some (PySem.W.tabObj #[]):=hok b _ z
       have e2:s'.heap.get? b=some (PySem.W.tabObj (#[] ++ more)):=hok' b _ z2
       rw[e] at e1;cases e1
       exact .inr ⟨⟨y,hy,e'⟩,rfl,_,e2⟩
    refine⟨rfl,⟨fun b o e=>?_,fun b o e=>?_⟩,os,bare⟩
    ·rcases key b o e with z|⟨⟨y,hy,e'⟩,z1,more,z2⟩
     ·exact .inl z
     ·subst z1 e'
      have cd:=PySem.W.codeHd_of_K KX (hT y hy).1
      exact .inr (.inl ⟨(cd.tab (hT y hy).2.2).isCodeTable,rfl,#[],more,rfl,by rw[z2];simp⟩)
    ·rcases key b o e with z|⟨_,_,more,z2⟩
     ·exact⟨o,z⟩
     ·exact⟨_,z2⟩
 have dec:∀ b,Decidable (∃ q ∈ ts,q.2=b):=fun b=>Classical.propDecidable _
 have tabH:∀ q ∈ ts,fh P w (fun _=>none) s₁.heap q.2 (.tbl #[]):=fun q hq=>(hT q hq).2.2
 cases hk:K.lookup a with
 | some o =>
  have e:=KX a o hk
  rw[ha] at e
  cases e
  refine core (fun b=>@ite _ (∃ q ∈ ts,q.2=b) (dec b) (some (.tbl #[])) none) (fun b=>?_) (fun q hq=>if_pos ⟨q,hq,rfl⟩) (.inr ⟨_,vs.toArray,_,hk,rfl,rfl,rfl,by rw[List.size_toArray,lenV];exact hl,by simpa using rv⟩) (fun b u z=>?_) (fun b z=>?_) fun z=>?_
  ·by_cases hb:∃ q ∈ ts,q.2=b
   ·exact .inr (.inr ⟨if_pos hb,hb⟩)
   ·exact .inl (if_neg hb)
  ·by_cases hb:∃ q ∈ ts,q.2=b
   ·have z':=(if_pos hb).symm.trans z
    cases z'
    obtain⟨q,hq,rfl⟩:=hb
    exact (hT q hq).2.2
   ·have z':=(if_neg hb).symm.trans z
    cases z'
  ·by_cases hb:∃ q ∈ ts,q.2=b
   ·exact .inr hb
   ·exact absurd (if_neg hb) z
  ·have:¬ ∃ q ∈ ts,q.2=a:=fun ⟨q,hq,e⟩=>na q hq e
   exact absurd (if_neg this) z
 | none =>
  have ia:¬ ∃ q ∈ ts,q.2=a:=fun ⟨q,hq,e⟩=>na q hq e
  refine core (fun b=>if b=a then some (.frz { cls:=.type "list",data:=.seq vs.toArray } (.lst (ns.map V.int))) else @ite _ (∃ q ∈ ts,q.2=b) (dec b) (some (.tbl #[])) none) (fun b=>?_) (fun q hq=>?_) (.inl (.inr ⟨{ cls:=.type "list",data:=.seq vs.toArray },if_pos rfl⟩)) (fun b u z=>?_) (fun b z=>?_) fun _=>hk
  ·by_cases hb:b=a
   ·exact .inr (.inl ⟨_,_,if_pos hb⟩)
   ·by_cases hb2:∃ q ∈ ts,q.2=b
    ·exact .inr (.inr ⟨(if_neg hb).trans (if_pos hb2),hb2⟩)
    ·exact .inl ((if_neg hb).trans (if_neg hb2))
  ·exact (if_neg (na q hq)).trans (if_pos ⟨q,hq,rfl⟩)
  ·by_cases hb:b=a
   ·have z':=(if_pos hb).symm.trans z
    cases z'
    subst hb
    exact⟨ha,by rw[List.length_map];exact hl,vs,_,rv,ha⟩
   ·by_cases hb2:∃ q ∈ ts,q.2=b
    ·have z':=((if_neg hb).trans (if_pos hb2)).symm.trans z
     cases z'
     obtain⟨q,hq,rfl⟩:=hb2
     exact (hT q hq).2.2
    ·have z':=((if_neg hb).trans (if_neg hb2)).symm.trans z
     cases z'
  ·by_cases hb:b=a
   ·exact .inl hb
   ·by_cases hb2:∃ q ∈ ts,q.2=b
    ·exact .inr hb2
    ·exact absurd ((if_neg hb).trans (if_neg hb2)) z
theorem walk_ofM{l:PySem.W.OpenLaw}{n k:Nat}{q:Program}{loose:List Str}{XP:(Str->Option Value)->Heap->Prop}{YP:World->Heap->Prop}{d:DefRec}{K:Params->W.Frag}{CX:World->xg}{sp:World->Sp}{x:Str}(ts:World->List (Addr × Addr))
  (hn:l.most=some n)(hn2:n<=sizeLine)(hdf:d.params.defaults=[])(hr:ge k callerA)(hi:importsNone q=true)
  (hY:∀ (w:World)(h:Heap),YP w h->(K w.params).In h /\ ∀ q ∈ ts w,PySem.W.codeHdIn (K w.params) q.1 q.2=true/\(K w.params).lookup q.2=none/\h.get? q.2=some (PySem.W.tabObj #[]))
  (F:∀ (w:World)(mg:Str->Option Value)(fa:Addr)(h:Heap),(K w.params).In h->h.Ns mainGlobals mg->mg d.name=some (.ref fa) ->
   ∃ fd:FuncData,(∀ (s:Shared)(u:Value),BindsTo s fd ⟨[u],[]⟩ [(x,u)]) /\
    ∀ base:Heap,(K w.params).In base->base.Ns mainGlobals mg->uQ mg base->base.NoSeer->bK l.prog w (K w.params) mg base (CX w) k fa fd [x] (sp w))
  (hsp:∀ (w:World)(H:Hp)(a:Addr)(ns:List Int),ns.length<=n->(∀ q ∈ ts w,vw (K w.params) H q.2=some (.tbl #[]))->(H a ≠ none->(K w.params).lookup a=none)->j6 (K w.params) H a (ns.map V.int)->sp w [.ref a] H (fun v _=>v = .bl true) fun _ _ _=>False)
  (hCX:∀ (w:World)(H:Hp)(s:Shared)(e:Value)(s':Shared),CX w [] H s (fun _ _ _=>False) e s'->False) :
  PySem.W.WalkO q loose XP YP l.row.toRowW d [] (fun f vs=>PySem.call f vs):=by
 refine Att.attach_call hn hdf fun w s₀ s₁ mg mb fa o pm cd doc a vs ns G Y ho hd hcd hmg hobj hints hlen hg=>?_
 obtain⟨KX,hT⟩:=hY w _ Y
 obtain⟨fd,hb,hF⟩:=F w mg fa _ KX G.T.g hmg
 have hB:uQ mg s₁.heap:=by
  obtain⟨bm,ob,b1,b2,b3,b4,b5,b6⟩:=G.T.bmain
  refine⟨bm,ob,b1,b2,fun z=>?_,b3,b4,b5,b6⟩
  obtain⟨o,es,ep,e,hd',_⟩:=G.T.g
  rw[z,e] at b3;cases b3;rw[hd'] at b6;cases b6
 exact xP KX G.T.g G.T.b G.T.builtins G.T.nolimit hg hobj hints (Nat.le_trans hlen hn2) hr hT hB (G.T.seer hi) hF hb (fun H hTT hK hS=>hsp w H a ns hlen hTT hK hS) fun H e s'=>hCX w H s₁ e s'
section
variable {P:Program}{w:World}{K:W.Frag}{mg:Str->Option Value}{base:Heap}
end
end L2
namespace L2
open PySem PySem.Spec PyProof.Rows
end L2
namespace L2
open PySem PySem.Spec PyProof.Rows
end L2
namespace L2
open PySem PySem.Spec PyProof.Rows
end L2
namespace L2
open PySem PySem.Spec PyProof.Rows
end L2
namespace L2
open PySem PySem.Spec PyProof.Rows
section
variable {P:Program}{w:World}{K:W.Frag}{mg:Str->Option Value}{base:Heap}
end
def aG(f g:Nat->Rat):Nat->Rat
 | 0=>0
 | n+1=>aG f g n+f n*g n
theorem zx{f g:Nat->Int}{F G:Nat->Rat}{c d:Rat}(hf:∀ i,(f i:Rat)=F i*c)(hg:∀ i,(g i:Rat)=G i*d):∀ n,((kq (lz n fun i=>f i*g i):Int):Rat)=aG F G n*(c*d)
 | 0=>by
  show ((0:Int):Rat)=0*(c*d)
  have:((0:Int):Rat)=0:=rfl
  rw[this]
  grind
 | n+1=>by
  have e:lz (n+1) (fun i=>f i*g i)=lz n (fun i=>f i*g i) ++ [f n*g n]:=by simp[lz,List.range_succ]
  rw[e,oW]
  have e2:kq [f n*g n]=f n*g n:=by simp[kq]
  rw[e2,Rat.intCast_add,Rat.intCast_mul,zx hf hg n,hf n,hg n]
  show _=(aG F G n+F n*G n)*(c*d)
  grind
theorem bI{f g f' g':Nat->Rat}:∀ n,(∀ i,i<n->f i=f' i)->(∀ i,i<n->g i=g' i)->aG f g n=aG f' g' n
 | 0,_,_=>rfl
 | n+1,h1,h2=>by
  show aG f g n+f n*g n=aG f' g' n+f' n*g' n
  rw[bI n (fun i hi=>h1 i (by walk_at"o")) (fun i hi=>h2 i (by walk_at"o")),h1 n (by walk_at"o"),h2 n (by walk_at"o")]
theorem yN{qs:List (Int × Int)}{n k:Nat}(h:k<n):cf (qs.take n) k=cf qs k:=by
 unfold cf
 rw[List.getElem?_take,if_pos h]
def Sx(b:Nat)(q:Int × Int):Prop:=∃ n:Int,wv q=(n:Rat) / 6/\n.natAbs<=b
theorem Sx.mono{a b:Nat}{q:Int × Int}(h:Sx a q)(hl:a<=b):Sx b q:=by
 obtain⟨n,h1,h2⟩:=h
 exact⟨n,h1,by walk_at"o"⟩
theorem Sx.add{a b:Nat}{p q:Int × Int}(hp:p.2 ≠ 0)(hq:q.2 ≠ 0)(h1:Sx a p)(h2:Sx b q):Sx (a+b) (rO p q):=by
 obtain⟨m,e1,l1⟩:=h1
 obtain⟨n,e2,l2⟩:=h2
 refine⟨m+n,?_,by walk_at"o"⟩
 rw[ur hp hq,e1,e2,Rat.intCast_add]
 grind
theorem Sx.lo{a z:Int}{b:Nat}(h0:0<=z)(h3:z<3)(ha:6*a.natAbs<=b):Sx b (lo a (1+z)):=by
 have hz:1+z ≠ 0:=by walk_at"o"
 have c1:((1:Int):Rat)=1:=rfl
 have c2:((2:Int):Rat)=2:=rfl
 have c3:((3:Int):Rat)=3:=rfl
 have c6:((6:Int):Rat)=6:=rfl
 rcases (show z=0\/z=1\/z=2 by walk_at"o") with rfl|rfl|rfl
 ·refine⟨6*a,?_,by walk_at"o"⟩
  rw[ii hz,show (1:Int)+0=1 from rfl,Rat.intCast_mul,c1,c6]
  grind
 ·refine⟨3*a,?_,by walk_at"o"⟩
  rw[ii hz,show (1:Int)+1=2 from rfl,Rat.intCast_mul,c2,c3]
  grind
 ·refine⟨2*a,?_,by walk_at"o"⟩
  rw[ii hz,show (1:Int)+2=3 from rfl,Rat.intCast_mul,c2,c3]
  grind
def oA:Nat->Int
 | 0=>6
 | k+1=>oA k*6
theorem m8:∀ k,0<oA k
 | 0=>by decide
 | k+1=>by show 0<oA k*6;have:=m8 k;walk_at"o"
def AO:Nat->Nat
 | 0=>1
 | k+1=>AO k*512
theorem zN:∀ k,AO k=2 ^ (9*k)
 | 0=>rfl
 | k+1=>by
  show AO k*512=_
  rw[zN k,show 9*(k+1)=9*k+9 by walk_at"o",Nat.pow_add]
theorem vG{s w:Int × Int}{b:Nat}(hs:Sx 300 s)(hw:Sx b w):∀ k,∃ n:Int,wv w*aO (wv s) k=(n:Rat) / (oA k:Rat)/\n.natAbs<=b*AO k
 | 0=>by
  obtain⟨n,e,l⟩:=hw
  refine⟨n,?_,by simpa [AO] using l⟩
  show wv w*1=(n:Rat) / ((6:Int):Rat)
  have c6:((6:Int):Rat)=6:=rfl
  rw[e,c6]
  grind
 | k+1=>by
  obtain⟨n,e,l⟩:=vG hs hw k
  obtain⟨m,e2,l2⟩:=hs
  refine⟨n*m,?_,?_⟩
  ·rw[cU]
   have h6:(oA k:Rat) ≠ 0:=ar (by have:=m8 k;walk_at"o")
   have c6:((6:Int):Rat)=6:=rfl
   show _=_ / ((oA k*6:Int):Rat)
   rw[e2] at e
   rw[Rat.intCast_mul,Rat.intCast_mul,c6,e2]
   have:wv w*(aO ((m:Rat) / 6) k*((m:Rat) / 6))=(wv w*aO ((m:Rat) / 6) k)*((m:Rat) / 6):=by grind
   rw[this,e]
   grind
  ·rw[Int.natAbs_mul]
   show _<=b*(AO k*512)
   rw[<- Nat.mul_assoc]
   exact Nat.mul_le_mul l (by walk_at"o")
theorem wH{k:Nat}:∀{cs:List dQ},(∀ c ∈ cs,Sx 300 c.1/\Sx 36 c.2) -> ∃ n:Int,cj cs k=(n:Rat) / (oA k:Rat)/\n.natAbs<=cs.length*(36*AO k)
 | [],_=>⟨0,by
   show (0:Rat)=((0:Int):Rat) / _
   have c0:((0:Int):Rat)=0:=rfl
   rw[c0]
   grind,by simp⟩
 | c :: cs,h=>by
  obtain⟨n,e1,l1⟩:=wH (k:=k) (cs:=cs) fun d hd=>h d (by simp[hd])
  obtain⟨h1,h2⟩:=h c (by simp)
  obtain⟨m,e2,l2⟩:=vG h1 h2 k
  refine⟨m+n,?_,?_⟩
  ·show wv c.2*aO (wv c.1) k+cj cs k=_
   rw[e1,e2,Rat.intCast_add]
   have h6:(oA k:Rat) ≠ 0:=ar (by have:=m8 k;walk_at"o")
   grind
  ·rw[List.length_cons,Nat.add_mul]
   walk_at"o"
end L2
namespace L2
open PySem PySem.Spec PyProof.Rows
theorem aR.gen{t u:TS}{D:mH}{σ:St}{H:Hp}(h:∀ N:St->Hp->Prop,(∀ σ' H',u D σ' H'->N σ' H')->t { D with nx:=N } σ H):aR t u D σ H:=h (u D) fun _ _ z=>z
end L2
namespace L2
open PySem PySem.Spec PyProof.Rows
theorem ko(a b:Int):Builtin.Range.rangeSize a b (-1)=if b<a then a - b else 0:=by
 unfold Builtin.Range.rangeSize
 simp only[show ¬ ((-1:Int) > 0) by decide,if_false,Int.neg_neg,Int.ediv_one]
 split <;> (try split) <;> walk_at"o"
theorem zI{a b:Int}(ha : -(2 ^ 61)<=a)(ha':a<2 ^ 61)(hb : -(2 ^ 61)<=b)(hb':b<2 ^ 61):Builtin.Range.small a b (-1)=true:=by
 unfold Builtin.Range.small
 rw[ko]
 simp only[Builtin.Range.rangeFitsLong,Bool.and_eq_true,Bool.or_eq_true,decide_eq_true_eq,beq_iff_eq,show ¬ ((-1:Int) > 0) by decide,if_false]
 split <;> walk_at"o"
def G5(lo:Int)(n:Nat):It:=⟨fun i _=>i<n,fun i H x H'=>H'=H/\x = .int (lo - i),fun i _=>n<=i⟩
theorem BL{P:Program}{w:World}{K:W.Frag}{tg:Expr}(it:Addr)(lo:Int)(n:Nat):uJ P w K tg (G5 lo n) [it] it (fun j hp=>IsRangeIter hp it (lo+(j:Nat)*(-1)) ((n:Int) - (j:Nat)) (-1)) where
 mem:=List.mem_singleton.mpr rfl
 obj:=fun j hp st b hb=>by
  cases List.mem_singleton.mp hb
  refine⟨_,st,fun v z=>?_⟩
  exact Data.noConfusion (show Data.fields _=Data.cell v from z)
 keep:=fun _ _ _ st k=>k it (List.mem_singleton.mpr rfl) _ st
 item:=by
  intro Y hP hw hK hc j pins s σ H E J hf st hg
  subst hP hw hK
  obtain⟨g0,g1,g2,g3,g4,g5⟩:=hf it (List.mem_singleton.mpr rfl)
  refine (Walks.range (prog:=Y.prog) (w:=Y.w) (J.ok.hd hc) it lo (-1) n).item j s _ _ hg st fun v hp tk hv st1 kk=>?_
  obtain⟨t,rfl⟩:=hv
  have J1:aK Y pins σ H { s with heap:=hp,toks:=tk }:=J.turned (fun b o hb e=>kk b o (fun z=>hb (List.mem_singleton.mp z)) e) g0 g1 g3 g4 g5
  refine⟨_,rfl,vA (s:={ s with heap:=hp,toks:=tk }) (n:="range_iterator") st1 rfl rfl (by decide) ⟨.int (lo - j),H,J1,⟨t,?_⟩,⟨rfl,rfl⟩,st1,fun b hb=>(hf b hb).1⟩⟩
  rw[show lo+(j:Nat)*(-1)=lo - (j:Int) by walk_at"o"]
 done:=by
  intro Y hP hw hK hc j pins s σ H E J hf st hg
  subst hP hw hK
  obtain⟨g0,g1,g2,g3,g4,g5⟩:=hf it (List.mem_singleton.mpr rfl)
  have hj:n<=j:=hg
  exact wpAny_pyNext_range_end (J.ok.hd hc) st (by walk_at"o") fun hp eb=>⟨rfl,J.turned (t':=s.toks) (fun b o hb e=>eb b o hb e) g0 g1 g3 g4 g5⟩
 self:=fun _ _ _ _ _ st h=>wpAny_pyIter_rangeiter st h
section
variable {X:Cx}{tg:Expr}
def AL(ta:TA):TI:=fun σ H R=>ta σ H fun vs H1=>∃ i j:Int,vs=[.int i,.int j,.int (-1)]/\(-(2 ^ 61)<=i/\i<2 ^ 61 /\ -(2 ^ 61)<=j/\j<2 ^ 61)/\R (G5 i (i - j).toNat) H1
theorem xk{a b c:Expr}{ta:TA}{p pos:Pos}(hg:Gl X "range") (hm:X.mg "range" = none) (ha:PA X [a,b,c] ta)(hs:starEach [a,b,c] X.env=[(false,eval a X.env),(false,eval b X.env),(false,eval c X.env)]:=by rfl)
  (hs2:starEach [b,c] X.env=[(false,eval b X.env),(false,eval c X.env)]:=by rfl):PI X tg (.Call (.Name "range" p) [a,b,c] [] pos) (AL ta):=by
 intro pins s σ H R I h
 refine Call_ (i7 I hg hm boot_range (PyProof.Rows.callWith_type1 (cQ (ha pos pins s σ H _ I h) fun us s1 ⟨vs,H1,I1,r1,q1⟩=>?_) (by rw[hs,hs2]) (by rw[hs2];rfl)))
 obtain⟨i,j,e,⟨q1,q2,q3,q4⟩,q⟩:=q1
 subst e
 cases r1 with
 | cons ri rr =>
  cases rr with
  | cons rj rr =>
   cases rr with
   | cons rk rr =>
    cases rr
    obtain⟨t1,rfl⟩:=ri
    obtain⟨t2,rfl⟩:=rj
    obtain⟨t3,rfl⟩:=rk
    refine call_range_3 (by decide) ?_ (.inl (PyProof.noPylong_of_log2 (by decide +kernel)))
    refine wpAny_pyIter_range (IsRange.new ..) (zI q1 q2 q3 q4) ?_
    have J:aK X pins σ H1 { s1 with heap:=s1.heap.push { cls:=.type "range",data:=.fields #[.int i t1,.int j t2,.int (-1) t3] },toks:=s1.toks }:=I1.kept fun b o e=>Heap.get?_push_of_some _ e
    obtain⟨a1,ha1⟩ : ∃ a1,a1=(s1.heap.push { cls:=.type "range",data:=.fields #[.int i t1,.int j t2,.int (-1) t3] }).objs.size:=⟨_,rfl⟩
    refine⟨_,[_],_,_,H1,rfl,J.kept (t':=s1.toks) fun b o e=>Heap.get?_push_of_some _ e,BL _ i (i - j).toNat,?_,fun b hb=>?_,q⟩
    ·have e1:i+((0:Nat):Int)*(-1)=i:=by simp
     have e2:(((i - j).toNat:Nat):Int) - ((0:Nat):Int)=Builtin.Range.rangeSize i j (-1):=by rw[ko];split <;> walk_at"o"
     show IsRangeIter _ _ (i+((0:Nat):Int)*(-1)) ((((i - j).toNat:Nat):Int) - ((0:Nat):Int)) (-1)
     rw[e1,e2]
     exact Heap.get?_push_size _ rfl
    ·cases List.mem_singleton.mp hb
     exact J.fpOk (Nat.le_refl _) (J.hok.fresh (Nat.le_refl _))
theorem xT{a b c:Expr}{ta:TA}{p pos:Pos}(hg:Gl X "range") (hm:X.mg "range" = none) (ha:QA X [a,b,c] ta)(hs:starEach [a,b,c] X.env=[(false,eval a X.env),(false,eval b X.env),(false,eval c X.env)]:=by rfl)
  (hs2:starEach [b,c] X.env=[(false,eval b X.env),(false,eval c X.env)]:=by rfl):QI X tg (.Call (.Name "range" p) [a,b,c] [] pos) (AL ta):=⟨xk hg hm ha.h hs hs2⟩
end
def ye(lo:Int)(n:Nat):List V:=(List.range n).map fun (k:Nat)=>V.int (lo - k)
theorem Cn{lo:Int}{n:Nat}:(ye lo n).length=n:=by simp[ye]
theorem Ez{lo:Int}{n i:Nat}{x:V}(h:(ye lo n)[i]? = some x):i<n/\x = .int (lo - i):=by
 have hi:i<n:=by
  have:=(List.getElem?_eq_some_iff.mp h).1
  simpa [ye] using this
 refine⟨hi,?_⟩
 simp[ye,hi] at h
 exact h.symm
theorem yP{lo:Int}{n:Nat}{H:Hp}:oM (G5 lo n) H (ye lo n):=by
 refine⟨fun i hi=>by show i<n;simpa [ye] using hi,fun i x H' hi y=>⟨y.1,?_⟩,by show n<=(ye lo n).length;simp[ye]⟩
 have hi':i<n:=by simpa [ye] using hi
 obtain⟨_,rfl⟩:=y
 simp[ye,hi']
end L2
namespace L2
open PySem PySem.Spec PyProof.Rows
theorem Df{f g:Nat->Rat}{d i:Nat}(hg:∀ j,d<j->g j=0)(hf:∀ j,i<j->f j=0):∀ n,pr f g n (i+d)=if i<n then f i*g d else 0
 | 0=>by simp[pr]
 | n+1=>by
  have ih:=Df hg hf n
  show pr f g n (i+d)+(if n<=i+d then f n*g (i+d - n) else 0)=_
  rw[ih]
  rcases Nat.lt_trichotomy i n with h|h|h
  ·rw[hf n h,if_pos h,if_pos (show i<n+1 by walk_at"o")]
   split <;> grind
  ·subst h
   rw[if_neg (by walk_at"o"),if_pos (by walk_at"o"),if_pos (by walk_at"o"),show i+d - i=d by walk_at"o"]
   grind
  ·rw[if_neg (by walk_at"o"),if_pos (by walk_at"o"),if_neg (by walk_at"o"),hg _ (by walk_at"o")]
   grind
theorem yn{f f' g:Nat->Rat}:∀ n k,pr (fun i=>f i - f' i) g n k=pr f g n k - pr f' g n k
 | 0,_=>by
  show (0:Rat)=0 - 0
  grind
 | n+1,k=>by
  show pr _ g n k+(if n<=k then (f n - f' n)*g (k - n) else 0)=(pr f g n k+if n<=k then f n*g (k - n) else 0) - (pr f' g n k+if n<=k then f' n*g (k - n) else 0)
  rw[yn n k]
  split <;> grind
theorem rD{f g:Nat->Rat}{n:Nat}(hf:∀ i,n<=i->f i=0):∀ m k,pr f g (n+m) k=pr f g n k
 | 0,_=>rfl
 | m+1,k=>by
  show pr f g (n+m) k+(if n+m<=k then f (n+m)*g (k - (n+m)) else 0)=_
  rw[rD hf m k,hf (n+m) (by walk_at"o")]
  split <;> grind
theorem yK{e g r:Nat->Rat}{n d:Nat}(he:∀ i,n<=i->e i=0)(hg:∀ j,d<j->g j=0)(hd:g d ≠ 0)(hr:∀ k,d<=k->r k=0)(h:∀ k,pr e g n k=r k):∀ i,e i=0:=by
 have step:∀ m i,n<=i+m->e i=0:=by
  intro m
  induction m with
  | zero=>intro i hi;exact he i hi
  | succ m ih =>
   intro i hi
   by_cases hin:n<=i
   ·exact he i hin
   have hab:∀ j,i<j->e j=0:=fun j hj=>ih j (by walk_at"o")
   have e1:=Df hg hab n
   rw[if_pos (by walk_at"o"),h,hr _ (by walk_at"o")] at e1
   rcases Rat.mul_eq_zero.mp e1.symm with z|z
   ·exact z
   ·exact absurd z hd
 intro i
 exact step n i (by walk_at"o")
theorem uK{q q' g r r':Nat->Rat}{n n' d:Nat}(hq:∀ i,n<=i->q i=0)(hq':∀ i,n'<=i->q' i=0)(hg:∀ j,d<j->g j=0)(hd:g d ≠ 0)(hr:∀ k,d<=k->r k=0)(hr':∀ k,d<=k->r' k=0)
  (h:∀ k,pr q g n k+r k=pr q' g n' k+r' k):(∀ i,q i=q' i) /\ ∀ k,r k=r' k:=by
 have a:∀ k,pr q g (n+n') k=pr q g n k:=fun k=>rD hq n' k
 have b:∀ k,pr q' g (n+n') k=pr q' g n' k:=fun k=>by rw[Nat.add_comm];exact rD hq' n k
 have z:=yK (e:=fun i=>q i - q' i) (g:=g) (r:=fun k=>r' k - r k) (n:=n+n') (d:=d) (fun i hi=>by
  show q i - q' i=0
  rw[hq i (by walk_at"o"),hq' i (by walk_at"o")]
  grind) hg hd (fun k hk=>by
  show r' k - r k=0
  rw[hr k hk,hr' k hk]
  grind) (fun k=>by
  rw[yn,a,b]
  have:=h k
  grind)
 have e:∀ i,q i=q' i:=fun i=>by
  have:q i - q' i=0:=z i
  grind
 refine⟨e,fun k=>?_⟩
 have e2:pr q g n k=pr q' g n' k:=by
  rw[<- a,<- b,show q=q' from funext e]
 have:=h k
 grind
end L2
namespace L2
open PySem PySem.Spec PyProof.Rows
theorem j9{rs:List (Int × Int)}(h:aL rs) {m:Nat}(hz:∀ k,m<=k->cf rs k=0):rs.length<=m:=by
 refine Nat.le_of_not_lt fun hm=>?_
 have hl:rs.length - 1<rs.length:=by walk_at"o"
 have e:rs.getLast? = some rs[rs.length - 1]:=by rw[List.getLast?_eq_getElem?,List.getElem?_eq_getElem hl]
 have z:=hz (rs.length - 1) (by walk_at"o")
 rw[bJ (List.getElem?_eq_getElem hl)] at z
 exact h.2 _ e ((iy (h.1 _ (List.getElem_mem hl)).ne).mp z)
theorem AE(s:Nat)(gs:List (Int × Int))(k:Nat):cf (List.replicate s (0,1) ++ gs) k=if k<s then 0 else cf gs (k - s):=by
 unfold cf
 by_cases h:k<s
 ·rw[if_pos h,List.getElem?_append_left (by simpa using h),List.getElem?_replicate,if_pos h]
  exact kz
 ·rw[if_neg h,List.getElem?_append_right (by simp;walk_at"o"),List.length_replicate]
theorem CM(m n:Int):AQ (.int m) (.int n)=decide (m=n):=by
 unfold AQ D.py
 simp only[PyData.eqv]
 rw[Bool.eq_iff_iff]
 simp
theorem rA(i:Int):(D.int i).cmp:=by
 unfold D.cmp D.py
 exact⟨rfl,Nat.le_of_ble_eq_true rfl⟩
theorem wy{ns:List Int}{m:Nat}(h:∀ n ∈ ns.drop m,n=0)(k:Nat):nz (ns.take m) k=nz ns k:=by
 unfold nz
 rw[List.getD_eq_getElem?_getD,List.getD_eq_getElem?_getD,List.getElem?_take]
 by_cases hk:k<m
 ·rw[if_pos hk]
 ·rw[if_neg hk]
  cases e:ns[k]? with
  | none=>rfl
  | some n =>
   have:n ∈ ns.drop m:=by
    have e2:(ns.drop m)[k - m]? = some n:=by rw[List.getElem?_drop,show m+(k - m)=k by walk_at"o"];exact e
    exact List.mem_of_getElem? e2
   rw[h n this]
   rfl
end L2
namespace L2
open PySem PySem.Spec PyProof.Rows
theorem zj{f g:Nat->Int}{i:Nat}{c:Int}(h0:f i=0):∀ n k,pz (fun j=>if j=i then c else f j) g n k=pz f g n k+if i<n/\i<=k then c*g (k - i) else 0
 | 0,k=>by
  show (0:Int)=0+_
  rw[if_neg (by walk_at"o")]
  rfl
 | n+1,k=>by
  show pz _ g n k+(if n<=k then (if n=i then c else f n)*g (k - n) else 0)=(pz f g n k+if n<=k then f n*g (k - n) else 0)+_
  rw[zj h0 n k]
  rcases Nat.lt_trichotomy n i with h|h|h
  ·simp only[if_neg (show ¬ (i<n/\i<=k) by walk_at"o"),if_neg (show ¬ n=i by walk_at"o"),if_neg (show ¬ (i<n+1/\i<=k) by walk_at"o")]
   walk_at"o"
  ·subst h
   rw[h0]
   by_cases hk:n<=k
   ·simp only[if_pos hk,if_pos (show n<n+1/\n<=k from ⟨by walk_at"o",hk⟩),if_neg (show ¬ (n<n/\n<=k) by walk_at"o"),Int.zero_mul,if_true]
    try walk_at"o"
   ·simp only[if_neg hk,if_neg (show ¬ (n<n+1/\n<=k) by walk_at"o"),if_neg (show ¬ (n<n/\n<=k) by walk_at"o")]
  ·simp only[if_neg (show ¬ n=i by walk_at"o")]
   by_cases hk:i<=k
   ·simp only[if_pos (show i<n/\i<=k from ⟨h,hk⟩),if_pos (show i<n+1/\i<=k from ⟨by walk_at"o",hk⟩)]
    walk_at"o"
   ·simp only[if_neg (show ¬ (i<n/\i<=k) by walk_at"o"),if_neg (show ¬ (i<n+1/\i<=k) by walk_at"o")]
    walk_at"o"
theorem t7{f g:Nat->Int}{c:Int}:∀ n k,pz (fun j=>c*f j) g n k=c*pz f g n k
 | 0,_=>by show (0:Int)=c*0;walk_at"o"
 | n+1,k=>by
  show pz _ g n k+(if n<=k then c*f n*g (k - n) else 0)=c*(pz f g n k+if n<=k then f n*g (k - n) else 0)
  rw[t7 n k]
  split
  ·rw[Int.mul_add,Int.mul_assoc]
  ·simp
theorem vS{f g:Nat->Int}(h:∀ i,f i=0):∀ n k,pz f g n k=0
 | 0,_=>rfl
 | n+1,k=>by
  show pz f g n k+(if n<=k then f n*g (k - n) else 0)=0
  rw[vS h n k,h n]
  simp
theorem rM{ns:List Int}{i k:Nat}{v:Int}(hi:i<ns.length):nz (ns.set i v) k=if k=i then v else nz ns k:=by
 unfold nz
 rw[List.getD_eq_getElem?_getD,List.getD_eq_getElem?_getD,List.getElem?_set]
 by_cases h:i=k
 ·subst h
  simp[hi]
 ·rw[if_neg h,if_neg (fun z=>h z.symm)]
theorem qF{ns:List Int}{c:Int}(k:Nat):nz (ns.map fun x=>c*x) k=c*nz ns k:=by
 unfold nz
 rw[List.getD_eq_getElem?_getD,List.getD_eq_getElem?_getD,List.getElem?_map]
 cases ns[k]? <;> simp
theorem mf{ns:List Int}(k:Nat):nz ns.dropLast k=if k=ns.length - 1 then 0 else nz ns k:=by
 unfold nz
 rw[List.getD_eq_getElem?_getD,List.getD_eq_getElem?_getD,List.getElem?_dropLast]
 by_cases h:k<ns.length - 1
 ·rw[if_pos h,if_neg (by walk_at"o")]
 ·rw[if_neg h]
  by_cases h2:k=ns.length - 1
  ·rw[if_pos h2]
   rfl
  ·rw[if_neg h2,List.getElem?_eq_none (by walk_at"o")]
theorem xE{ms:Nat->Int}{S P:Int}{Q Q' N R R1 R2:Nat->Int}{n p l:Nat}(h:∀ k,S*ms k=pz Q N n k+R k)(h0:Q p=0)(hQ:∀ k,Q' k=if k=p then P else Q k)(hp:p<n)(hN:∀ j,l<j->N j=0)
  (ht:R (p+l)=P*N l)(h1:∀ k,R1 k=if k=p+l then 0 else R k)(h2:∀ k,R2 k=R1 k - if p<=k/\k<p+l then P*N (k - p) else 0):∀ k,S*ms k=pz Q' N n k+R2 k:=by
 intro k
 rw[show Q'=fun j=>if j=p then P else Q j from funext hQ,zj h0,h k,h2 k,h1 k]
 by_cases a:p<=k
 ·rw[if_pos ⟨hp,a⟩]
  rcases Nat.lt_trichotomy k (p+l) with b|b|b
  ·rw[if_neg (show ¬ k=p+l by walk_at"o"),if_pos ⟨a,b⟩]
   walk_at"o"
  ·subst b
   rw[if_pos rfl,if_neg (by walk_at"o"),ht,show p+l - p=l by walk_at"o"]
   walk_at"o"
  ·rw[if_neg (show ¬ k=p+l by walk_at"o"),if_neg (by walk_at"o"),hN _ (show l<k - p by walk_at"o")]
   walk_at"o"
 ·rw[if_neg (by walk_at"o"),if_neg (show ¬ k=p+l by walk_at"o"),if_neg (by walk_at"o")]
  walk_at"o"
end L2
namespace L2
open PySem PySem.Spec PyProof.Rows
end L2
namespace L2
open PySem PySem.Spec PyProof.Rows
section
variable {X:Cx}{a b c:Expr}{ta tb tc:TE}{pos:Pos}
end
def EH:Nat->Int
 | 0=>1
 | e+1=>EH e*6
theorem yo:∀ e,Bt (3*e+1) (EH e)
 | 0=>by decide
 | e+1=>((yo e).mul (show Bt 3 6 by decide)).mono (by walk_at"o")
theorem vx(j:Nat):∀ e,oA (j+e)=oA j*EH e
 | 0=>by show oA j=oA j*1;walk_at"o"
 | e+1=>by
  show oA (j+e)*6=oA j*(EH e*6)
  rw[vx j e,Int.mul_assoc]
end L2
namespace L2
open PySem PySem.Spec PyProof.Rows
theorem wo{qs:List (Int × Int)}{n k:Nat}:cf (qs.drop n) k=cf qs (n+k):=by
 unfold cf
 rw[List.getElem?_drop]
end L2
namespace L2
open PySem PySem.Spec PyProof.Rows
def tZ(x:V)(P:Bool->Prop):Prop:=match x with | .bl k=>P k|_=>False
def isInt(x:V)(P:Int->Prop):Prop:=match x with | .int k=>P k|_=>False
def gZ(x:V)(P:Addr->Prop):Prop:=match x with | .ref k=>P k|_=>False
def sX(x:Option (Option V))(P:V->Prop):Prop:=match x with|some (some v)=>P v|_=>False
def FJ(x:List V)(P:V->Prop):Prop:=match x with|[v]=>P v|_=>False
def GL(x:List V)(P:V->V->Prop):Prop:=match x with|[v,u]=>P v u|_=>False
theorem Co{k:Bool}{P:Bool->Prop}:tZ (.bl k) P=P k:=rfl
theorem ze{k:Int}{P:Int->Prop}:isInt (.int k) P=P k:=rfl
theorem zS{k:Addr}{P:Addr->Prop}:gZ (.ref k) P=P k:=rfl
theorem yO{k:V}{P:V->Prop}:sX (some (some k)) P=P k:=rfl
theorem Fw{k:V}{P:V->Prop}:FJ [k] P=P k:=rfl
theorem Fi{k l:V}{P:V->V->Prop}:GL [k,l] P=P k l:=rfl
theorem jj{x:V}{P:Bool->Prop}:tZ x P = ∃ k,x = .bl k/\P k:=propext (by cases x <;> simp[tZ])
theorem cO{x:V}{P:Int->Prop}:isInt x P = ∃ k,x = .int k/\P k:=propext (by cases x <;> simp[isInt])
theorem cZ{x:V}{P:Addr->Prop}:gZ x P = ∃ k,x = .ref k/\P k:=propext (by cases x <;> simp[gZ])
theorem lh{x:Option (Option V)}{P:V->Prop}:sX x P = ∃ k,x=some (some k)/\P k:=propext (by rcases x with _|_|v <;> simp[sX])
theorem mO{x:List V}{P:V->Prop}:FJ x P = ∃ k,x=[k]/\P k:=propext (by rcases x with _|⟨v,_|⟨u,r⟩⟩ <;> simp[FJ])
theorem qx{x:List V}{P:V->V->Prop}:GL x P = ∃ k l,x=[k,l]/\P k l:=propext ⟨fun h=>match x,h with|[v,u],h=>⟨v,u,rfl,h⟩,fun ⟨k,l,e,h⟩=>by subst e;exact h⟩
theorem C8{α β:Sort _}{A:α->Prop}{B:β->Prop}{C:α->β->Prop}:(∃ i j,A i/\B j/\C i j) = ∃ i,A i /\ ∃ j,B j/\C i j:=propext ⟨fun ⟨i,j,a,b,c⟩=>⟨i,a,j,b,c⟩,fun ⟨i,a,j,b,c⟩=>⟨i,j,a,b,c⟩⟩
def Be(i:Nat):TE:=fun σ H Q=>sX σ[i]? fun v=>Q v H
theorem E6{i:Nat}:CU i=Be i:=by funext σ H Q;exact lh.symm
def u9(t:TE):TT:=fun σ H Q=>t σ H fun x H'=>tZ x fun k=>Q k H'
theorem wM{t:TE}:vL t=u9 t:=by
 funext σ H Q
 unfold vL u9
 congr 1
 funext x H'
 exact jj.symm
theorem G1{t:TE}:tB t=u9 t:=wM
def zT(ta tb:TE):TE:=fun σ H Q=>ta σ H fun x H1=>tZ x fun c=>if c=true then tb σ H1 Q else Q (.bl false) H1
theorem CO{ta tb:TE}:vY ta tb=zT ta tb:=by
 funext σ H Q
 unfold vY zT
 congr 1
 funext x H'
 exact jj.symm
def ET(ta tb:TE):TE:=fun σ H Q=>ta σ H fun x H1=>tZ x fun c=>if c=true then Q (.bl true) H1 else tb σ H1 Q
theorem DQ{ta tb:TE}:Bs ta tb=ET ta tb:=by
 funext σ H Q
 unfold Bs ET
 congr 1
 funext x H'
 exact jj.symm
def As(ta:TE):TE:=fun σ H Q=>ta σ H fun x H1=>tZ x fun c=>Q (.bl (!c)) H1
theorem CL{ta:TE}:wU ta=As ta:=by
 funext σ H Q
 unfold wU As
 congr 1
 funext x H'
 exact jj.symm
def mI(C:Int->Int->Prop)(g:Int->Int->V):R2:=fun x y H Q=>isInt x fun i=>isInt y fun j=>C i j/\Q (g i j) H
theorem Hf{C:Int->Int->Prop}{g:Int->Int->V}:rI C g=mI C g:=by
 funext x y H Q
 unfold rI mI
 rw[cO]
 simp only[cO]
 exact C8
def GV(g:Int->Int->V):R2:=fun x y H Q=>isInt x fun i=>isInt y fun j=>Q (g i j) H
theorem Gn{g:Int->Int->V}:vN g=GV g:=by
 funext x y H Q
 unfold vN GV
 simp only[cO]
 exact C8
def mU(g:Int->V):V->Hp->VK->Prop:=fun x H Q=>isInt x fun i=>Q (g i) H
theorem Hh{g:Int->V}:rU g=mU g:=by
 funext x H Q
 exact cO.symm
theorem ny{i j:Int}:yc (.int i) (.int j)=true:=rfl
theorem CW{i j:Bool}:yc (.bl i) (.bl j)=true:=rfl
def GM:R2:=fun x y H Q=>match x,y with | .int i,.int j=>Q (.bl (decide (i=j))) H|_,_=>FL x y H Q
theorem Bv{i j:Int}{H:Hp}{Q:VK}:GM (.int i) (.int j) H Q=Q (.bl (decide (i=j))) H:=rfl
theorem Di:FL=GM:=by
 funext x y H Q
 unfold GM
 split
 ·unfold FL
  show (yc _ _=true/\_)=_
  simp only[ny,V.int.injEq,true_and]
 ·rfl
theorem BY{x y:V}{H:Hp}{Q:VK}:GM x y H Q=FL x y H Q:=by rw[Di]
def GP:R2:=fun x y H Q=>match x,y with | .int i,.int j=>Q (.bl (!decide (i=j))) H|_,_=>FN x y H Q
theorem BO{i j:Int}{H:Hp}{Q:VK}:GP (.int i) (.int j) H Q=Q (.bl (!decide (i=j))) H:=rfl
theorem Dh:FN=GP:=by
 funext x y H Q
 unfold GP
 split
 ·unfold FN
  show (yc _ _=true/\_)=_
  simp only[ny,V.int.injEq,true_and]
 ·rfl
theorem BX{x y:V}{H:Hp}{Q:VK}:GP x y H Q=FN x y H Q:=by rw[Dh]
section
variable {K:W.Frag}
def E5(K:W.Frag):R2:=fun x y H Q=>gZ x fun p=>isInt y fun i=>∃ xs,vw K H p=some (.lst xs) /\ ∃ v,mL xs i=some v/\Q v H
theorem Fm:xG K=E5 K:=by
 funext x y H Q
 unfold xG E5
 simp only[cO,cZ]
 exact C8
def DJ(K:W.Frag):R2:=fun x y H Q=>gZ x fun p=>isInt y fun i=>∃ xs,vw K H p=some (.tup xs) /\ ∃ v,mL xs i=some v/\Q v H
theorem EM:yD K=DJ K:=by
 funext x y H Q
 unfold yD DJ
 simp only[cO,cZ]
 exact C8
def E9(K:W.Frag)(neg:Bool):R2:=fun x y H Q=>∃ d,aJ (vw K H) d x /\ ∃ e,aJ (vw K H) e y/\d.cmp/\e.cmp/\Q (.bl (cond neg (!AQ d e) (AQ d e))) H
theorem DI{neg:Bool}:A1 K neg=E9 K neg:=by
 funext x y H Q
 unfold A1 E9
 cases neg <;> exact C8
def Fz(K:W.Frag)(neg:Bool):R2:=fun x y H Q=>gZ x fun p=>gZ y fun q=>∃ xs,vw K H p=some (.lst xs)/\vw K H q=some (.lst [])/\Q (.bl (cond neg (!xs.isEmpty) xs.isEmpty)) H
theorem ED{neg:Bool}:Fv K neg=Fz K neg:=by
 funext x y H Q
 unfold Fv Fz
 simp only[cZ]
 cases neg <;> exact C8
def y7(t:TE):TO:=fun σ H Q=>t σ H fun x H1=>isInt x fun i=>Q (some i) H1
theorem Cw{t:TE}:wu t=y7 t:=by
 funext σ H Q
 unfold wu y7
 congr 1
 funext x H'
 exact cO.symm
def FU(K:W.Frag):V->Option Int->Option Int->Hp->VK->Prop:=fun x lo hi H Q=>gZ x fun a=>∃ xs,vw K H a=some (.lst xs)/\Nw K H (.lst (gu xs lo hi)) Q
theorem DE:Eb K=FU K:=by
 funext x lo hi H Q
 exact cZ.symm
def yA(K:W.Frag):V->List V->Hp->VK->Prop:=fun x vs H Q=>gZ x fun l=>FJ vs fun y=>∃ xs,vw K H l=some (.lst xs)/\xs.length<sizeLine/\C9 K H l (.lst (xs ++ [y])) (Q .non)
theorem Bh:zG K=yA K:=by
 funext x y H Q
 unfold zG yA
 simp only[cZ,mO]
 exact C8
def vO(K:W.Frag):V->V->V->Hp->(Hp->Prop)->Prop:=fun o i v H Q=>gZ o fun p=>isInt i fun k=>∃ xs,vw K H p=some (.lst xs) /\ ∃ j,tR xs.length k=some j/\C9 K H p (.lst (xs.set j v)) Q
theorem Cc:zK K=vO K:=by
 funext x y v H Q
 unfold zK vO
 simp only[cZ,cO]
 exact C8
def EB(i j:Nat)(ta:TA):TS:=fun D σ H=>ta σ H fun vs H1=>GL vs fun v w=>D.nx ((σ.set i (some v)).set j (some w)) H1
theorem DA{i j:Nat}{ta:TA}:BJ i j ta=EB i j ta:=by
 funext D σ H
 unfold BJ EB
 congr 1
 funext x H'
 exact qx.symm
def Gy(i:Nat)(te:TE)(ti:zZ):TS:=fun D σ H=>sX σ[i]? fun x=>te σ H fun y H1=>ti x y H1 fun z H2=>D.nx (σ.set i (some z)) H2
theorem Fl{i:Nat}{te:TE}{ti:zZ}:DZ i te ti=Gy i te ti:=by
 funext D σ H
 exact lh.symm
def zE(K:W.Frag)(tl:TE):TI:=fun σ H R=>tl σ H fun x H1=>gZ x fun a=>(∃ xs,j6 K H1 a xs)/\R (GG K a) H1
theorem Cr{tl:TE}:vJ K tl=zE K tl:=by
 funext σ H R
 unfold vJ zE
 congr 1
 funext x H'
 exact cZ.symm
def zV(ta:TA):TI:=fun σ H R=>ta σ H fun vs H1=>FJ vs fun x=>isInt x fun j=>-(2 ^ 62)<=j/\j<2 ^ 62/\R (FI 0 j.toNat) H1
theorem Cj{ta:TA}:wR ta=zV ta:=by
 funext σ H R
 unfold wR zV
 congr 1
 funext x H'
 simp only[mO,cO]
 exact propext ⟨fun ⟨j,a,b⟩=>⟨_,a,j,rfl,b⟩,fun ⟨_,a,j,e,b⟩=>⟨j,by rw[a,e],b⟩⟩
def sg(K:W.Frag):R2:=fun x y H Q=>match x,y with
 | .int i,.int j=>Q (.int (i+j)) H
 | .ref l,.ref b=>∃ xs,vw K H l=some (.lst xs) /\ ∃ zs,vw K H b=some (.lst zs)/\xs.length+zs.length<=sizeLine/\Nw K H (.lst (xs ++ zs)) Q
 | _,_=>jk K x y H Q
theorem wY{i j:Int}{H:Hp}{Q:VK}:sg K (.int i) (.int j) H Q=Q (.int (i+j)) H:=rfl
theorem xC{l b:Addr}{H:Hp}{Q:VK}:sg K (.ref l) (.ref b) H Q = ∃ xs,vw K H l=some (.lst xs) /\ ∃ zs,vw K H b=some (.lst zs)/\xs.length+zs.length<=sizeLine/\Nw K H (.lst (xs ++ zs)) Q:=rfl
theorem vK:jk K=sg K:=by
 funext x y H Q
 unfold sg
 split
 ·exact ql
 ·exact jE
 ·rfl
theorem xS{x y:V}{H:Hp}{Q:VK}:sg K x y H Q=jk K x y H Q:=by rw[vK]
def CC(K:W.Frag):R2:=fun x y H Q=>match x,y with
 | .int i,.int j=>IntMulOk i j/\Q (.int (i*j)) H
 | _,_=>gK K x y H Q
theorem yH{i j:Int}{H:Hp}{Q:VK}:CC K (.int i) (.int j) H Q=(IntMulOk i j/\Q (.int (i*j)) H):=rfl
theorem Ac:gK K=CC K:=by
 funext x y H Q
 unfold CC
 split
 ·exact gE
 ·rfl
theorem Aa{x y:V}{H:Hp}{Q:VK}:CC K x y H Q=gK K x y H Q:=by rw[Ac]
end
def G8(P:Addr->Hp->VK->Prop)(t:TA):TE:=fun σ H Q=>t σ H fun vs H1=>FJ vs fun x=>gZ x fun p=>P p H1 Q
theorem Gq{P:Addr->Hp->VK->Prop}{t:TA}:AZ (fun xs H Q=>∃ p,xs=[.ref p]/\P p H Q) t=G8 P t:=by
 funext σ H Q
 unfold AZ G8
 congr 1
 funext x H'
 simp only[mO,cZ]
 exact propext ⟨fun ⟨j,a,b⟩=>⟨_,a,j,rfl,b⟩,fun ⟨_,a,j,e,b⟩=>⟨j,by rw[a,e],b⟩⟩
def Hk(P:Int->Int->Hp->VK->Prop)(t:TA):TE:=fun σ H Q=>t σ H fun vs H1=>GL vs fun x y=>isInt x fun i=>isInt y fun j=>P i j H1 Q
theorem Gc{P:Int->Int->Hp->VK->Prop}{t:TA}:AZ (fun xs H Q=>∃ i j,xs=[.int i,.int j]/\P i j H Q) t=Hk P t:=by
 funext σ H Q
 unfold AZ Hk
 congr 1
 funext x H'
 simp only[qx,cO]
 exact propext ⟨fun ⟨i,j,a,b⟩=>⟨_,_,a,i,rfl,j,rfl,b⟩,fun ⟨_,_,a,i,e,j,e',b⟩=>⟨i,j,by rw[a,e,e'],b⟩⟩
end L2
namespace L2
open PySem
theorem eH{α:Sort _}{g z:List Value->α}(us:List Value)(hl:us.length=1)(h:∀ a0,g [a0]=z [a0]):g us=z us:=by
 rcases us with _|⟨a0,_|⟨b,r⟩⟩
 all_goals first|exact h _|(simp at hl;done)
theorem bN{α:Sort _}{g z:List Value->α}(us:List Value)(hl:us.length=2)(h:∀ a0 a1,g [a0,a1]=z [a0,a1]):g us=z us:=by
 rcases us with _|⟨a0,_|⟨a1,_|⟨b,r⟩⟩⟩
 all_goals first|exact h _ _|(simp at hl;done)
theorem j5{α:Sort _}{g z:List Value->α}(us:List Value)(hl:us.length=3)(h:∀ a0 a1 a2,g [a0,a1,a2]=z [a0,a1,a2]):g us=z us:=by
 rcases us with _|⟨a0,_|⟨a1,_|⟨a2,_|⟨b,r⟩⟩⟩⟩
 all_goals first|exact h _ _ _|(simp at hl;done)
end L2
namespace L2
open PySem PySem.Spec PyProof.Rows
end L2
namespace L2
open PySem PySem.Spec PyProof.Rows
theorem wT:typeLookup (.type "list") (dunderI "add")=pure (some (.builtin "list.__iadd__")):=by rw[typeLookup_type,builtinLookup_eq_fast];kernel_rfl
def zP(K:W.Frag):zZ:=fun x y H Q=>gZ x fun l=>gZ y fun b=>∃ xs,vw K H l=some (.lst xs) /\ ∃ zs,vw K H b=some (.lst zs)/\xs.length+zs.length<=sizeLine/\C9 K H l (.lst (xs ++ zs)) (Q (.ref l))
theorem BS{X:Cx}:Ci X .Add (zP X.K):=by
 intro pins s σ H x y v u Q I r1 r2 h
 unfold zP at h
 rw[cZ] at h
 obtain⟨l,rfl,h⟩:=h
 rw[cZ] at h
 obtain⟨b,rfl,xs,hx,zs,hz,hsz,q⟩:=h
 cases r1
 cases r2
 have hH:=aF hx
 have hB:=aF hz
 obtain⟨z,its,n,r,hl,e⟩:=I.lstM hH
 obtain⟨z2,its2,n2,r2,hl2,e2⟩:=I.lstM hB
 have hsz':its.toArray.size+its2.toArray.size<=sizeLine:=by rw[List.size_toArray,List.size_toArray];walk_at"o"
 have hlong:¬ (!its.toArray.isEmpty && Builtin.List.listTooLong (its.toArray.size+its2.toArray.size))=true:=by
  rw[tm hsz',Bool.and_false]
  exact Bool.false_ne_true
 have hfi:fillsInplaceSlot (.type "list") "add" (Operator.Add == .Add)=pure false:=by
  unfold fillsInplaceSlot
  show (typeLookup (.type "list") (dunderI "add") >>= fun fi=>pure (fi.isSome && !isSeqSlot fi))=pure false
  rw[wT];rfl
 have hsi:seqSlot? (.type "list") (dunderI "add")=pure (some (.builtin "list.__iadd__")):=by
  unfold seqSlot?
  rw[wT];rfl
 have ha:s.TypeIs (.ref l) "list":=⟨_,e,rfl⟩
 have hb:s.TypeIs (.ref b) "list":=⟨_,e2,rfl⟩
 unfold inplaceOp
 refine wpAny_holding ?_
 refine wpAny_bind (wpAny_typeOf ha (wpAny_bind (wpAny_of_eq hfi ?_)))
 show wpAny _ _ (if false=true then _ else _) _ _ s
 rw[if_neg Bool.false_ne_true]
 refine wpAny_bind (wpAny_binaryOp1_none (nm:="add") ha hb PySem.noFill_list_add ?_)
 refine wpAny_bind (wpAny_of_eq hsi ?_)
 refine wpAny_bind (wpAny_rule ?_)
 refine call_meets F.slot_list_iadd ha F.entry_list_iadd (F.args_list_iadd_2 _ _) (AutoSeq1.list___iadd___list_list_0 l its.toArray n b its2.toArray n2 hlong (by rw[List.size_toArray];walk_at"o") (by walk_at"o")) ⟨e,e2,?_⟩
 refine⟨.ref l,_,I.lset (its':=its ++ its2) hH e (by simp) (r.append r2) ?_,rfl,q.ok (I.noK hH)⟩
 rw[List.length_append]
 walk_at"o"
section
variable {X:Cx}
end
end L2
namespace L2
open PySem PySem.Spec PyProof.Rows
def ch:Nat->Nat->Nat
 | _,0=>1
 | 0,_+1=>0
 | n+1,k+1=>ch n k+ch n (k+1)
def dl(a:Rat)(s:Nat->Rat):Nat->Nat->Rat
 | 0,i=>s i
 | k+1,i=>dl a s k (i+1) - a*dl a s k i
theorem EG{xs:List V}(h:xs ≠ []):gu xs none (some (-1))=xs.dropLast:=by
 unfold gu
 have hl:0<xs.length:=List.length_pos_iff.mpr h
 have e:∀ d,HT.sIx xs.length d (some (-1))=xs.length - 1:=fun d=>by
  simp[HT.sIx]
  walk_at"o"
 rw[e]
 simp[HT.sIx,List.dropLast_eq_take]
theorem B0{xs:List V}{k:Nat}:gu xs none (some (k:Int))=xs.take k:=by
 by_cases h:k<=xs.length
 ·exact qD h
 ·unfold gu
  have e:∀ d,HT.sIx xs.length d (some (k:Int))=xs.length:=fun d=>by
   unfold HT.sIx
   simp only[Int.toNat_natCast]
   rw[if_neg (by walk_at"o")]
   walk_at"o"
  rw[e]
  simp[HT.sIx]
  rw[List.take_of_length_le (by walk_at"o")]
end L2
namespace L2
open PySem PySem.Spec PyProof.Rows
def fw(t r:Nat->Rat):Nat->Nat->Rat
 | 0,h=>if h=0 then 1 else 0
 | k+1,h=>(if h=0 then 0 else fw t r k (h - 1))+t h*fw t r k h+r (h+1)*fw t r k (h+1)
def bw(t r:Nat->Rat):Nat->Nat->Rat
 | 0,h=>if h=0 then 1 else 0
 | k+1,h=>bw t r k (h+1)+t h*bw t r k h+(if h=0 then 0 else r h*bw t r k (h - 1))
end L2
namespace L2
open PySem PySem.Spec PyProof.Rows
section
variable {X:Cx}
end
end L2
namespace L2
end L2
namespace L2
open PySem PySem.Spec PyProof.Rows
section
variable {P:Program}{w:World}{K:W.Frag}{mg:Str->Option Value}{base:Heap}
end
end L2
namespace L2
open PySem PySem.Spec PyProof.Rows
end L2
namespace L2
open PySem PySem.Spec PyProof.Rows
end L2
namespace L2
open PySem PySem.Spec PyProof.Rows
end L2
namespace L2
open PySem PySem.Spec PyProof.Rows
end L2
namespace L2
open PySem PySem.Spec PyProof.Rows
structure FO where
 params:Arguments
 body:Expr
 scope:Scope
 Nl:List Str
 ixs:List Nat
 tl:TE
end L2
namespace L2
open PySem PySem.Spec PyProof.Rows
structure Hu where
 t:Addr
 p:Addr
 c:Addr
 d:Addr
 ps:Arguments
 b:Expr
 sc:Scope
 ds:List D
section
variable {P:Addr}{G0 G G':Hp}{qual:Str}{cl:List (Str × Addr)}{cs:Addr}{xs:List Hu}{x:Hu}
section
variable {L1 L2 L3 L4:Hp}{p c' d t:Addr}{params:Arguments}{body:Expr}{scope:Scope}{ds:List D}{Kd:FO->Prop}{R:List D->FO->Prop}
end
end
end L2
namespace L2
open PySem PySem.Spec PyProof.Rows
def Ob(D:Int)(B:Nat)(f:Nat->Rat):Prop:=∀ k,∃ n:Int,f k=(n:Rat) / (D:Rat)/\Bt B n
section
variable {D E:Int}{a b e:Nat}{f g:Nat->Rat}
theorem Hs{n:Nat}:Bt n 0:=Nat.two_pow_pos n
theorem Ob.mono(h:Ob D a f)(hl:a<=b):Ob D b f:=fun k=>by
 obtain⟨n,e1,h1⟩:=h k
 exact⟨n,e1,h1.mono hl⟩
theorem Ob.congr(h:Ob D a f)(e:∀ k,g k=f k):Ob D a g:=fun k=>by
 rw[e k]
 exact h k
theorem Ob.bq{qs:List (Int × Int)}(h:Ob D a (cf qs))(hD:D ≠ 0)(hb:Bt a D)(hF:∀ q ∈ qs,Fq q):∀ q ∈ qs,Bq a q:=fun q hq=>by
 obtain⟨k,hk,rfl⟩:=List.getElem_of_mem hq
 obtain⟨n,e1,h1⟩:=h k
 rw[bJ (List.getElem?_eq_getElem hk)] at e1
 rw[lA (hF _ hq) (ir hD) (by rw[ii hD,e1])]
 exact oB hD h1 hb
theorem Ob.pr(hD:D ≠ 0)(hE:E ≠ 0)(h1:Ob D a f)(h2:Ob E b g):∀ n,Ob (D*E) (a+b+n) (fun k=>pr f g n k)
 | 0=>fun k=>⟨0,by
  show (0:Rat)=((0:Int):Rat) / _
  have c0:((0:Int):Rat)=0:=rfl
  rw[c0]
  grind,Hs⟩
 | n+1=>fun k=>by
  obtain⟨m,e1,b1⟩:=Ob.pr hD hE h1 h2 n k
  show ∃ m,L2.pr f g n k+(if n<=k then f n*g (k - n) else 0)=_/\_
  have e1:L2.pr f g n k=(m:Rat) / ((D*E:Int):Rat):=e1
  split
  ·obtain⟨x,e2,b2⟩:=h1 n
   obtain⟨y,e3,b3⟩:=h2 (k - n)
   refine⟨m+x*y,?_,(b1.add (b2.mul b3)).mono (by walk_at"o")⟩
   have:=ar hD
   have:=ar hE
   rw[e1,e2,e3,Rat.intCast_add,Rat.intCast_mul,Rat.intCast_mul]
   grind
  ·refine⟨m,?_,b1.mono (by walk_at"o")⟩
   rw[e1]
   grind
def Pb(a:Nat)(f:Nat->Rat):Prop:=∃ D:Int,D ≠ 0/\Bt a D/\Ob D a f
theorem Pb.mono(h:Pb a f)(hl:a<=b):Pb b f:=by
 obtain⟨D,h1,h2,h3⟩:=h
 exact⟨D,h1,h2.mono hl,h3.mono hl⟩
theorem Pb.congr(h:Pb a f)(e:∀ k,g k=f k):Pb a g:=by
 obtain⟨D,h1,h2,h3⟩:=h
 exact⟨D,h1,h2,h3.congr e⟩
theorem Pb.bq{qs:List (Int × Int)}(h:Pb a (cf qs))(hF:∀ q ∈ qs,Fq q):∀ q ∈ qs,Bq a q:=by
 obtain⟨D,h1,h2,h3⟩:=h
 exact h3.bq h1 h2 hF
theorem Pb.pr(h1:Pb a f)(h2:Pb b g)(n:Nat):Pb (a+b+n) (fun k=>L2.pr f g n k):=by
 obtain⟨D,d1,d2,d3⟩:=h1
 obtain⟨E,e1,e2,e3⟩:=h2
 exact⟨D*E,Int.mul_ne_zero d1 e1,(d2.mul e2).mono (by walk_at"o"),Ob.pr d1 e1 d3 e3 n⟩
end
theorem Fk{a:Nat}(h:1<=a):Pb a (cf []):=⟨1,by decide,Bt.mono (m:=1) (by decide) h,fun k=>⟨0,by
  show (0:Rat)=((0:Int):Rat) / _
  have c0:((0:Int):Rat)=0:=rfl
  rw[c0]
  grind,Hs⟩⟩
def lin(p q:Rat)(f:Nat->Rat):Nat->Rat
 | 0=>f 0*p
 | k+1=>f (k+1)*p+f k*q
end L2
namespace L2
open PySem PySem.Spec PyProof.Rows
theorem sj{a b c:Int}(h:Int.gcd a b=1)(hd:a ∣ b*c):a ∣ c:=by
 rw[<- Int.natAbs_dvd_natAbs] at hd ⊢
 rw[Int.natAbs_mul] at hd
 exact Nat.Coprime.dvd_of_dvd_mul_left h hd
theorem CV{b q E:Int}(hb:0<b)(hq:0<q)(h1:b ∣ E)(h2:q ∣ E):b*q.fdiv (Int.gcd b q:Int) ∣ E:=by
 obtain⟨_,_,_,hg,_⟩:=sS hb hq
 have e:=gF hg (Int.gcd_dvd_right b q)
 obtain⟨m,hm⟩:=Int.gcd_dvd_left b q
 obtain⟨g,hgg⟩ : ∃ g:Nat,g=Int.gcd b q:=⟨_,rfl⟩
 generalize hc:q.fdiv (Int.gcd b q:Int)=c at e
 rw[<- hgg] at hg e hm
 have hcop:Int.gcd c m=1:=by
  have z:Int.gcd b q=g*Int.gcd m c:=by
   rw[hm,<- e,Int.mul_comm c,Int.gcd_mul_left]
   simp
  rw[<- hgg] at z
  have g0:0<g:=by walk_at"o"
  have:Int.gcd m c=1:=by
   have:g*1=g*Int.gcd m c:=by walk_at"o"
   exact (Nat.eq_of_mul_eq_mul_left g0 this).symm
  rw[Int.gcd_comm]
  exact this
 obtain⟨u,hu⟩:=h1
 obtain⟨v,hv⟩:=h2
 have:c ∣ m*u:=by
  refine⟨v,?_⟩
  have z:(g:Int)*(m*u)=(g:Int)*(c*v):=by
   rw[<- Int.mul_assoc,<- hm,<- hu,hv,<- e]
   rw[Int.mul_comm c,Int.mul_assoc]
  exact Int.eq_of_mul_eq_mul_left hg z
 obtain⟨t,ht⟩:=sj hcop this
 exact⟨t,by rw[hu,ht,Int.mul_assoc]⟩
theorem oN{q:Int × Int}{n E:Int}(h:Fq q)(hE:E ≠ 0)(e:wv q=(n:Rat) / (E:Rat)):q.2 ∣ E:=by
 unfold wv at e
 have c1:=ar h.ne
 have c2:=ar hE
 have e1:(q.1:Rat)*(E:Rat)=(n:Rat)*(q.2:Rat):=by grind
 have e2:q.1*E=n*q.2:=by
  rw[<- Rat.intCast_mul,<- Rat.intCast_mul] at e1
  exact Rat.intCast_inj.mp e1
 refine sj (b:=q.1) (by rw[Int.gcd_comm];exact h.2) ⟨n,by rw[e2,Int.mul_comm]⟩
theorem gJ{a:Nat}{qs:List (Int × Int)}{D:Int}{ns:List Int}(h:Pb a (cf qs))(hF:∀ q ∈ qs,Fq q)(hD:0<D)(hm:∀ E:Int,(∀ q ∈ qs,q.2 ∣ E)->D ∣ E)(hl:ns.length=qs.length)(hn:∀ (i:Nat)(n:Int)(q:Int × Int),ns[i]? = some n->qs[i]? = some q->(n:Rat)=wv q*(D:Rat)):Bt a D /\ ∀ n ∈ ns,Bt a n:=by
 obtain⟨E,hE,bE,oE⟩:=h
 obtain⟨t,ht⟩:=hm E fun q hq=>by
  obtain⟨k,hk,rfl⟩:=List.getElem_of_mem hq
  obtain⟨n,e,_⟩:=oE k
  rw[bJ (List.getElem?_eq_getElem hk)] at e
  exact oN (hF _ hq) hE e
 have t0:t ≠ 0:=fun z=>hE (by rw[ht,z,Int.mul_zero])
 have le:∀ x:Int,x.natAbs<=(x*t).natAbs:=fun x=>by
  rw[Int.natAbs_mul]
  exact Nat.le_mul_of_pos_right _ (by walk_at"o")
 refine⟨?_,fun n hn'=>?_⟩
 ·unfold Bt at *
  have:=le D
  rw[<- ht] at this
  walk_at"o"
 ·obtain⟨i,hi,rfl⟩:=List.getElem_of_mem hn'
  have hi':i<qs.length:=by walk_at"o"
  have e1:=hn i _ _ (List.getElem?_eq_getElem hi) (List.getElem?_eq_getElem hi')
  obtain⟨m,e2,bm⟩:=oE i
  rw[bJ (List.getElem?_eq_getElem hi')] at e2
  have c1:=ar hE
  have e3:((ns[i]*t:Int):Rat)=(m:Rat):=by
   rw[Rat.intCast_mul,e1,e2]
   have:(E:Rat)=(D:Rat)*(t:Rat):=by rw[ht,Rat.intCast_mul]
   have c2:(D:Rat) ≠ 0:=ar (by walk_at"o")
   have c3:(t:Rat) ≠ 0:=ar t0
   rw[this]
   grind
  have e4:=Rat.intCast_inj.mp e3
  unfold Bt at *
  have:=le ns[i]
  rw[e4] at this
  walk_at"o"
def ck(f:Nat->Rat):Nat->Rat->Rat
 | 0,_=>0
 | n+1,x=>ck f n x+f n*aO x n
theorem qp{f g:Nat->Rat}{x:Rat}:∀ n,(∀ k,k<n->f k=g k)->ck f n x=ck g n x
 | 0,_=>rfl
 | n+1,h=>by
  show ck f n x+f n*_=ck g n x+g n*_
  rw[qp n (fun k hk=>h k (by walk_at"o")),h n (by walk_at"o")]
theorem qZ{f g:Nat->Rat}{x:Rat}:∀ n,ck (fun k=>f k+g k) n x=ck f n x+ck g n x
 | 0=>by show (0:Rat)=0+0;grind
 | n+1=>by
  show ck (fun k=>f k+g k) n x+(f n+g n)*aO x n=ck f n x+f n*aO x n+(ck g n x+g n*aO x n)
  rw[qZ n]
  grind
theorem ol{f:Nat->Rat}{x:Rat}{n:Nat}(h:∀ k,n<=k->f k=0):∀ m,ck f (n+m) x=ck f n x
 | 0=>rfl
 | m+1=>by
  show ck f (n+m) x+f (n+m)*_=_
  rw[ol h m,h (n+m) (by walk_at"o")]
  grind
theorem vd{p q:Rat}{f:Nat->Rat}{x:Rat}:∀ n,ck (lin p q f) (n+1) x=p*ck f (n+1) x+q*x*ck f n x
 | 0=>by
  show 0+f 0*p*1=p*(0+f 0*1)+q*x*0
  grind
 | n+1=>by
  show ck (lin p q f) (n+1) x+(f (n+1)*p+f n*q)*aO x (n+1)=p*(ck f (n+1) x+f (n+1)*aO x (n+1))+q*x*(ck f n x+f n*aO x n)
  rw[vd n,cU]
  grind
def EV(f:Nat->Rat)(x:Rat):Rat:=ck f 20 x
theorem qJ{p q:Rat}{f:Nat->Rat}(h:f 19=0)(x:Rat):EV (lin p q f) x=(p+q*x)*EV f x:=by
 unfold EV
 rw[vd 19]
 have:ck f 20 x=ck f 19 x:=by
  show ck f 19 x+f 19*_=_
  rw[h]
  grind
 rw[this]
 grind
theorem hZ{f g:Nat->Rat}(h:∀ k,f k=g k)(x:Rat):EV f x=EV g x:=qp 20 fun k _=>h k
theorem ow{f g:Nat->Rat}(x:Rat):EV (fun k=>f k+g k) x=EV f x+EV g x:=qZ 20
def DF(f:Nat->Rat):Nat->Rat:=fun k=>((k+1:Nat):Int)*f (k+1)
theorem zf{p:Rat}{f:Nat->Rat}(k:Nat):DF (lin p 1 f) k=lin p 1 (DF f) k+f k:=by
 cases k with
 | zero =>
  show (((0+1:Nat):Int):Rat)*(f 1*p+f 0*1)=(((0+1:Nat):Int):Rat)*f 1*p+f 0
  have c1:(((0+1:Nat):Int):Rat)=1:=rfl
  rw[c1]
  grind
 | succ k =>
  show (((k+1+1:Nat):Int):Rat)*(f (k+2)*p+f (k+1)*1)=(((k+1+1:Nat):Int):Rat)*f (k+2)*p+(((k+1:Nat):Int):Rat)*f (k+1)*1+f (k+1)
  have c1:(((k+1+1:Nat):Int):Rat)=(((k+1:Nat):Int):Rat)+1:=by
   rw[show ((k+1+1:Nat):Int)=((k+1:Nat):Int)+1 by walk_at"o",Rat.intCast_add]
   rfl
  rw[c1]
  grind
theorem pQ{c:Rat}{g:Nat->Rat}{j:Nat}{x:Rat}:∀ M,ck (fun k=>if j<=k then c*g (k - j) else 0) (j+M) x=c*aO x j*ck g M x
 | 0=>by
  have:∀ n,n<=j->ck (fun k=>if j<=k then c*g (k - j) else 0) n x=0:=fun n=>by
   induction n with
   | zero=>intro _;rfl
   | succ n ih =>
    intro hn
    show ck (fun k=>if j<=k then c*g (k - j) else 0) n x+(if j<=n then c*g (n - j) else 0)*aO x n=0
    rw[ih (by walk_at"o"),if_neg (by walk_at"o")]
    grind
  rw[Nat.add_zero,this j (Nat.le_refl _)]
  show (0:Rat)=c*aO x j*0
  grind
 | M+1=>by
  show ck (fun k=>if j<=k then c*g (k - j) else 0) (j+M) x+(if j<=j+M then c*g (j+M - j) else 0)*aO x (j+M)=c*aO x j*(ck g M x+g M*aO x M)
  rw[pQ M,if_pos (by walk_at"o"),Nat.add_sub_cancel_left]
  have:aO x (j+M)=aO x j*aO x M:=by
   induction M with
   | zero=>show aO x j=aO x j*1;grind
   | succ M ih =>
    show aO x (j+M)*x=aO x j*(aO x M*x)
    rw[ih]
    grind
  rw[this]
  grind
theorem At{f g:Nat->Rat}{x:Rat}{m:Nat}(hg:∀ k,m<=k->g k=0):∀ n,n+m<=20->EV (fun k=>pr f g n k) x=ck f n x*ck g m x
 | 0,_=>by
  have:∀ n,ck (fun k=>pr f g 0 k) n x=0:=fun n=>by
   induction n with
   | zero=>rfl
   | succ n ih =>
    show ck (fun k=>pr f g 0 k) n x+0*_=0
    rw[ih]
    grind
  show ck _ 20 x=0*_
  rw[this]
  grind
 | n+1,h=>by
  have e:EV (fun k=>pr f g (n+1) k) x=EV (fun k=>pr f g n k) x+EV (fun k=>if n<=k then f n*g (k - n) else 0) x:=ow x
  rw[e,At hg n (by walk_at"o")]
  have s:EV (fun k=>if n<=k then f n*g (k - n) else 0) x=f n*aO x n*ck g m x:=by
   show ck _ 20 x=_
   have z:=pQ (c:=f n) (g:=g) (j:=n) (x:=x) (20 - n)
   rw[show n+(20 - n)=20 by walk_at"o"] at z
   rw[z]
   have z2:=ol (x:=x) hg (20 - n - m)
   rw[show m+(20 - n - m)=20 - n by walk_at"o"] at z2
   rw[z2]
  rw[s]
  show _=(ck f n x+f n*aO x n)*_
  grind
theorem mz{f:Nat->Rat}{n:Nat}(h:∀ k,n<=k->f k=0)(hn:n<=20)(x:Rat):EV f x=ck f n x:=by
 have:=ol (x:=x) h (20 - n)
 rw[show n+(20 - n)=20 by walk_at"o"] at this
 exact this
def mD:List Rat->Rat->Rat
 | [],_=>0
 | a :: l,x=>a+x*mD l x
def Db(s:Rat):List Rat->List Rat
 | []=>[]
 | [_]=>[]
 | _ :: b :: l=>mD (b :: l) s :: Db s (b :: l)
theorem wV{s:Rat}:∀ l:List Rat,(Db s l).length=l.length - 1
 | []=>rfl
 | [_]=>rfl
 | _ :: b :: l=>by
  show (Db s (b :: l)).length+1=_
  rw[wV (b :: l)]
  rfl
theorem uw{s x:Rat}:∀ l:List Rat,mD l x - mD l s=(x - s)*mD (Db s l) x
 | []=>by show (0:Rat) - 0=(x - s)*0;grind
 | [a]=>by show a+x*0 - (a+s*0)=(x - s)*0;grind
 | a :: b :: l=>by
  have:=uw (s:=s) (x:=x) (b :: l)
  show a+x*mD (b :: l) x - (a+s*mD (b :: l) s)=(x - s)*(mD (b :: l) s+x*mD (Db s (b :: l)) x)
  have e:(x - s)*(x*mD (Db s (b :: l)) x)=x*(mD (b :: l) x - mD (b :: l) s):=by rw[this];grind
  grind
theorem n6:∀(S:List Rat)(l:List Rat),S.Nodup->l.length<=S.length->(∀ s ∈ S,mD l s=0) -> ∀ x,mD l x=0
 | [],l,_,hl,_,x=>by
  have:l=[]:=List.length_eq_zero_iff.mp (Nat.le_zero.mp hl)
  rw[this]
  rfl
 | s :: S,l,nd,hl,h,x=>by
  rw[List.nodup_cons] at nd
  have h0:=h s List.mem_cons_self
  have g:∀ x,mD (Db s l) x=0:=n6 S (Db s l) nd.2 (by rw[wV];have:l.length<=S.length+1:=hl;walk_at"o") fun t ht=>by
   have e:=uw (s:=s) (x:=t) l
   rw[h t (List.mem_cons_of_mem _ ht),h0] at e
   have hts:t - s=0->t=s:=fun z=>by grind
   have hne:t - s ≠ 0:=fun z=>nd.1 (by rw[<- hts z];exact ht)
   grind
  have e:=uw (s:=s) (x:=x) l
  rw[g x,h0] at e
  grind
def FG(n:Nat)(f:Rat->Rat):Prop:=∃ l:List Rat,l.length<=n /\ ∀ x,f x=mD l x
theorem FG.zero{n:Nat}{f:Rat->Rat}{S:List Rat}(h:FG n f)(nd:S.Nodup)(hl:n<=S.length)(hz:∀ s ∈ S,f s=0)(x:Rat):f x=0:=by
 obtain⟨l,h1,h2⟩:=h
 rw[h2]
 exact n6 S l nd (by walk_at"o") (fun s hs=>by rw[<- h2];exact hz s hs) x
theorem CY{f:Nat->Rat}:∀ n x,ck f n x=mD ((List.range n).map f) x
 | n,x=>by
  have key:∀ n j,mD ((List.range n).map fun i=>f (j+i)) x*aO x j+ck f j x=ck f (j+n) x:=fun n=>by
   induction n with
   | zero =>
    intro j
    show 0*_+_=ck f j x
    grind
   | succ n ih =>
    intro j
    rw[List.range_succ_eq_map,List.map_cons,List.map_map]
    show (f (j+0)+x*mD ((List.range n).map ((fun i=>f (j+i)) ∘ Nat.succ)) x)*aO x j+ck f j x=_
    have e:((fun i=>f (j+i)) ∘ Nat.succ)=fun i=>f (j+1+i):=by
     funext i
     show f (j+(i+1))=f (j+1+i)
     rw[show j+(i+1)=j+1+i by walk_at"o"]
    have:=ih (j+1)
    rw[e,show j+(n+1)=j+1+n by walk_at"o",<- this,cU]
    show _=_+(ck f j x+f j*aO x j)
    rw[Nat.add_zero]
    grind
  have:=key n 0
  rw[Nat.zero_add] at this
  rw[<- this]
  have e:(fun i=>f (0+i))=f:=by funext i;rw[Nat.zero_add]
  rw[e]
  show _*1+0=_
  grind
theorem FG.of{f:Nat->Rat}{n:Nat}(h:∀ k,n<=k->f k=0)(hn:n<=20):FG n (EV f):=⟨(List.range n).map f,by simp,fun x=>by rw[mz h hn,CY]⟩
end L2
namespace L2
open PySem PySem.Spec PyProof.Rows
section
variable {X:Cx}
def sN(K:W.Frag):V->Option Int->Option Int->Hp->VK->Prop:=fun x lo hi H Q=>∃ a,x = .ref a /\ ∃ xs,vw K H a=some (.tup xs) /\ ¬ (HT.sIx xs.length 0 lo=0/\HT.sIx xs.length xs.length hi=xs.length)/\Nw K H (.tup (gu xs lo hi)) Q
theorem mZ:xz X (sN X.K):=Fp.kf.imp fun _ _ _ _ _ ⟨a,e,xs,h,n,q⟩=>⟨a,xs,e,cY h,n,q.al⟩
end
end L2
namespace L2
open PySem PySem.Spec PyProof.Rows
def E4(cs:List dQ):List Rat:=cs.map fun c=>wv c.1
theorem mQ(cs:List dQ):(E4 cs).length=cs.length:=by unfold E4;rw[List.length_map]
theorem zl{cs:List dQ}{i:Nat}{c:dQ}(h:cs[i]? = some c):(E4 cs)[i]? = some (wv c.1):=by unfold E4;rw[List.getElem?_map,h];rfl
end L2
namespace L2
open PySem PySem.Spec PyProof.Rows
def wX:Nat->List Rat
 | 0=>[]
 | n+1=>((n+1:Nat):Int) :: wX n
theorem nF:∀{n:Nat}{x:Rat},x ∈ wX n -> ∃ m:Nat,1<=m/\m<=n/\x=((m:Int):Rat)
 | n+1,x,h=>by
  rcases List.mem_cons.mp h with rfl|h
  ·exact⟨n+1,by walk_at"o",by walk_at"o",rfl⟩
  ·obtain⟨m,h1,h2,h3⟩:=nF h
   exact⟨m,h1,by walk_at"o",h3⟩
theorem vH:∀ n,(wX n).Nodup
 | 0=>List.nodup_nil
 | n+1=>by
  refine List.nodup_cons.mpr ⟨fun h=>?_,vH n⟩
  obtain⟨m,_,h2,h3⟩:=nF h
  have:=Rat.intCast_inj.mp h3
  walk_at"o"
theorem sK:∀ n,(wX n).length=n
 | 0=>rfl
 | n+1=>by show (wX n).length+1=_;rw[sK n]
theorem tj:∀ l:List Rat,(∀ x,mD l x=0) -> ∀ a ∈ l,a=0
 | [],_,a,h=>by cases h
 | b :: l,h,a,ha=>by
  have h0:b=0:=by
   have:=h 0
   show b=0
   have e:mD (b :: l) 0=b+0*mD l 0:=rfl
   rw[e] at this
   grind
  have hl:∀ x,mD l x=0:=n6 (wX l.length) l (vH _) (by rw[sK];exact Nat.le_refl _) fun s hs=>by
   obtain⟨m,h1,_,rfl⟩:=nF hs
   have:=h ((m:Int):Rat)
   have e:mD (b :: l) ((m:Int):Rat)=b+((m:Int):Rat)*mD l ((m:Int):Rat):=rfl
   rw[e,h0] at this
   have c:((m:Int):Rat) ≠ 0:=ar (by walk_at"o")
   grind
  rcases List.mem_cons.mp ha with rfl|ha
  ·exact h0
  ·exact tj l hl a ha
theorem ka{f g:Nat->Rat}(hf:∀ k,20<=k->f k=0)(hg:∀ k,20<=k->g k=0)(h:∀ x,EV f x=EV g x)(k:Nat):f k=g k:=by
 rcases Nat.lt_or_ge k 20 with z|z
 ·have e:∀ x,mD ((List.range 20).map fun k=>f k + -1*g k) x=0:=fun x=>by
   rw[<- CY,qZ]
   have h1:ck (fun k=>-1*g k) 20 x = -1*ck g 20 x:=by
    have:∀ n,ck (fun k=>-1*g k) n x = -1*ck g n x:=fun n=>by
     induction n with
     | zero=>show (0:Rat) = -1*0;grind
     | succ n ih =>
      show ck (fun k=>-1*g k) n x + -1*g n*aO x n = -1*(ck g n x+g n*aO x n)
      rw[ih]
      grind
    exact this 20
   have h2:ck f 20 x=ck g 20 x:=h x
   rw[h1,h2]
   grind
  have:=tj _ e (f k + -1*g k) (List.mem_map.mpr ⟨k,List.mem_range.mpr z,rfl⟩)
  grind
 ·rw[hf k z,hg k z]
end L2
namespace L2
open PySem PySem.Spec PyProof.Rows
theorem sP{x:Rat}(i:Nat):∀ j,aO x (i+j)=aO x i*aO x j
 | 0=>by show aO x i=aO x i*1;grind
 | j+1=>by
  show aO x (i+j)*x=aO x i*(aO x j*x)
  rw[sP i j]
  grind
end L2
namespace L2
open PySem PySem.Spec PyProof.Rows
section
variable {X:Cx}
end
end L2
namespace L2
open PySem
abbrev Om:=List Bool->Int
def wg:Nat->(Nat->Int)->Om->Om
 | 0,_,_=>fun _=>0
 | m+1,v,o=>fun l=>match l with
  | []=>0
  | false :: l=>wg m v (fun k=>o (false :: k)) l
  | true :: l=>v m*o (false :: l) - wg m v (fun k=>o (true :: k)) l
theorem j8{m:Nat}{v:Nat->Int}{o:Om}{l:List Bool}:wg (m+1) v o (false :: l)=wg m v (fun k=>o (false :: k)) l:=rfl
theorem jR{m:Nat}{v:Nat->Int}{o:Om}{l:List Bool}:wg (m+1) v o (true :: l)=v m*o (false :: l) - wg m v (fun k=>o (true :: k)) l:=rfl
theorem lD{v:Nat->Int}{a b:Int}:∀ (m:Nat)(o p:Om)(l:List Bool),wg m v (fun k=>a*o k+b*p k) l=a*wg m v o l+b*wg m v p l
 | 0,o,p,l=>by show (0:Int)=a*0+b*0;rw[Int.mul_zero,Int.mul_zero];rfl
 | m+1,o,p,[]=>by show (0:Int)=a*0+b*0;rw[Int.mul_zero,Int.mul_zero];rfl
 | m+1,o,p,false :: l=>by
  rw[j8,j8,j8]
  exact lD m _ _ l
 | m+1,o,p,true :: l=>by
  rw[jR,jR,jR,lD m (fun k=>o (true :: k)) (fun k=>p (true :: k)) l]
  grind
theorem jx{v:Nat->Int}:∀ (m:Nat)(o:Om)(l:List Bool),(∀ k,o k=0)->wg m v o l=0
 | 0,o,l,h=>rfl
 | m+1,o,[],h=>rfl
 | m+1,o,false :: l,h=>by rw[j8];exact jx m _ l fun k=>h _
 | m+1,o,true :: l,h=>by rw[jR,h,jx m _ l fun k=>h _];walk_at"o"
theorem fY{v:Nat->Int}{m:Nat}{o p:Om}(h:∀ k,o k=p k)(l:List Bool):wg m v o l=wg m v p l:=by
 have:o=p:=funext h
 rw[this]
theorem jg{u v:Nat->Int}{a b:Int}:∀ (m:Nat)(o:Om)(l:List Bool),wg m (fun i=>a*u i+b*v i) o l=a*wg m u o l+b*wg m v o l
 | 0,o,l=>by show (0:Int)=a*0+b*0;rw[Int.mul_zero,Int.mul_zero];rfl
 | m+1,o,[]=>by show (0:Int)=a*0+b*0;rw[Int.mul_zero,Int.mul_zero];rfl
 | m+1,o,false :: l=>by
  rw[j8,j8,j8]
  exact jg m _ l
 | m+1,o,true :: l=>by
  rw[jR,jR,jR,jg m _ l]
  grind
theorem gM{v:Nat->Int}:∀ (m:Nat)(o:Om)(l:List Bool),(∀ i,i<m->v i=0)->wg m v o l=0
 | 0,o,l,h=>rfl
 | m+1,o,[],h=>rfl
 | m+1,o,false :: l,h=>by rw[j8];exact gM m _ l fun i hi=>h i (by walk_at"o")
 | m+1,o,true :: l,h=>by rw[jR,h m (by walk_at"o"),gM m _ l fun i hi=>h i (by walk_at"o")];walk_at"o"
theorem jn{u v:Nat->Int}:∀ (m:Nat)(o:Om)(l:List Bool),wg m u (wg m v o) l = - wg m v (wg m u o) l
 | 0,o,l=>rfl
 | m+1,o,[]=>rfl
 | m+1,o,false :: l=>by
  rw[j8,j8]
  exact jn m (fun k=>o (false :: k)) l
 | m+1,o,true :: l=>by
  rw[jR,jR,j8,j8]
  have e1:=lD (v:=u) (a:=v m) (b:=-1) m (fun k=>o (false :: k)) (wg m v fun k=>o (true :: k)) l
  have e2:=lD (v:=v) (a:=u m) (b:=-1) m (fun k=>o (false :: k)) (wg m u fun k=>o (true :: k)) l
  have f1:wg m u (fun k=>wg (m+1) v o (true :: k)) l=wg m u (fun k=>v m*o (false :: k) + -1*wg m v (fun k=>o (true :: k)) k) l:=fY (fun k=>by rw[jR];walk_at"o") l
  have f2:wg m v (fun k=>wg (m+1) u o (true :: k)) l=wg m v (fun k=>u m*o (false :: k) + -1*wg m u (fun k=>o (true :: k)) k) l:=fY (fun k=>by rw[jR];walk_at"o") l
  have s:=jn (u:=u) (v:=v) m (fun k=>o (true :: k)) l
  rw[f1,f2,e1,e2]
  grind
theorem wJ{v:Nat->Int}(m:Nat)(o:Om)(l:List Bool):wg m v (wg m v o) l=0:=by
 have:=jn (u:=v) (v:=v) m o l
 walk_at"o"
section
variable (W:Nat->Int)
def kx(i:Nat):Nat->Int:=fun j=>W (i+j)
def tO:Om:=fun l=>if l.all (fun b=>!b) then 1 else 0
def om(m:Nat):Nat->Om
 | 0=>tO
 | k+1=>wg m (kx W k) (om m k)
def uT:Nat->List Bool
 | 0=>[]
 | m+1=>true :: uT m
def jQ(j:Nat):Nat->Int:=fun i=>if i=j then 1 else 0
def qk(k j:Nat):Int:=wg (k+1) (jQ j) (om W (k+1) k) (uT (k+1))
def Dk(k:Nat):Int:=om W k k (uT k)
def Lq(k i:Nat):Int:=wg (k+1) (kx W i) (om W (k+1) k) (uT (k+1))
end
variable {W:Nat->Int}
theorem sL(m:Nat):∀(k:Nat)(l:List Bool),om W (m+1) k (false :: l)=om W m k l
 | 0,l=>by simp[om,tO]
 | k+1,l=>by
  show wg (m+1) (kx W k) (om W (m+1) k) (false :: l)=wg m (kx W k) (om W m k) l
  rw[j8]
  exact fY (fun j=>sL m k j) l
theorem u6(m:Nat):∀(k i:Nat)(l:List Bool),i<k->wg m (kx W i) (om W m k) l=0
 | 0,i,l,h=>by walk_at"o"
 | k+1,i,l,h=>by
  show wg m (kx W i) (wg m (kx W k) (om W m k)) l=0
  by_cases e:i=k
  ·rw[e];exact wJ m _ l
  ·rw[jn,jx m _ l fun j=>u6 m k i j (by walk_at"o")]
   rfl
theorem FA:Dk W 0=1:=rfl
theorem gh(k:Nat):qk W k k=Dk W k:=by
 show wg (k+1) (jQ k) (om W (k+1) k) (true :: uT k)=om W k k (uT k)
 rw[jR,sL,gM (v:=jQ k) k _ _ fun i hi=>if_neg (by walk_at"o")]
 show (if k=k then (1:Int) else 0)*_ - 0=_
 rw[if_pos rfl]
 walk_at"o"
theorem fD{k j:Nat}(h:k<j):qk W k j=0:=gM _ _ _ fun i hi=>if_neg (by walk_at"o")
theorem iP{k i:Nat}(h:i<k):Lq W k i=0:=u6 _ k i _ h
theorem fP(k:Nat):Lq W k k=Dk W (k+1):=rfl
def bH(f:Nat->Int):Nat->Int
 | 0=>0
 | n+1=>bH f n+f n
theorem eU{f g:Nat->Int}:∀ n,(∀ i,i<n->f i=g i)->bH f n=bH g n
 | 0,_=>rfl
 | n+1,h=>by
  show bH f n+f n=bH g n+g n
  rw[eU n fun i hi=>h i (by walk_at"o"),h n (by walk_at"o")]
theorem fS{f:Nat->Int}:∀ n,(∀ i,i<n->f i=0)->bH f n=0
 | 0,_=>rfl
 | n+1,h=>by
  show bH f n+f n=0
  rw[fS n fun i hi=>h i (by walk_at"o"),h n (by walk_at"o")]
  rfl
theorem qo{f:Nat->Int}{n:Nat}(h:∀ i,n<=i->f i=0):∀ m,bH f (n+m)=bH f n
 | 0=>rfl
 | m+1=>by
  show bH f (n+m)+f (n+m)=bH f n
  rw[qo h m,h (n+m) (by walk_at"o")]
  walk_at"o"
theorem hV{f:Nat->Int}{j:Nat}:∀ n,(∀ i,i<n->i ≠ j->f i=0)->j<n->bH f n=f j
 | 0,_,h=>by walk_at"o"
 | n+1,h,hj=>by
  show bH f n+f n=f j
  by_cases e:j=n
  ·rw[fS n fun i hi=>h i (by walk_at"o") (by walk_at"o"),e]
   walk_at"o"
  ·rw[hV n (fun i hi hn=>h i (by walk_at"o") hn) (by walk_at"o"),h n (by walk_at"o") (by walk_at"o")]
   walk_at"o"
theorem lX{v:Nat->Int}{M:Nat}{o:Om}{l:List Bool}:∀ n,wg M (fun i=>bH (fun j=>v j*jQ j i) n) o l=bH (fun j=>v j*wg M (jQ j) o l) n
 | 0=>gM _ _ _ fun i _=>rfl
 | n+1=>by
  have e:=jg (u:=fun i=>bH (fun j=>v j*jQ j i) n) (v:=jQ n) (a:=1) (b:=v n) M o l
  have f:(fun i=>bH (fun j=>v j*jQ j i) (n+1))=fun i=>1*bH (fun j=>v j*jQ j i) n+v n*jQ n i:=funext fun i=>by
   show bH _ n+v n*jQ n i=_
   rw[Int.one_mul]
  rw[f,e,lX n]
  show _=bH _ n+v n*_
  rw[Int.one_mul]
theorem rG(k i:Nat):Lq W k i=bH (fun j=>W (i+j)*qk W k j) (k+1):=by
 unfold Lq qk
 rw[<- lX (v:=fun j=>W (i+j)) (M:=k+1)]
 have:∀ m (o:Om)(l:List Bool)(u v:Nat->Int),(∀ i,i<m->u i=v i)->wg m u o l=wg m v o l:=fun m o l u v h=>by
  have e:=jg (u:=u) (v:=v) (a:=1) (b:=-1) m o l
  rw[gM m o l fun i hi=>by rw[h i hi];walk_at"o"] at e
  walk_at"o"
 refine this _ _ _ _ _ fun c hc=>?_
 show W (i+c)=_
 rw[hV (j:=c) (k+1) (fun j _ hj=>by unfold jQ;rw[if_neg (fun z=>hj z.symm),Int.mul_zero]) hc]
 unfold jQ
 rw[if_pos rfl,Int.mul_one]
end L2
namespace L2
open PySem
variable {W:Nat->Int}
theorem gb{f:Nat->Int}{a:Int}:∀ n,bH (fun i=>a*f i) n=a*bH f n
 | 0=>by show (0:Int)=a*0;rw[Int.mul_zero]
 | n+1=>by
  show bH (fun i=>a*f i) n+a*f n=a*(bH f n+f n)
  rw[gb n]
  grind
theorem jf{f g:Nat->Int}:∀ n,bH (fun i=>f i+g i) n=bH f n+bH g n
 | 0=>rfl
 | n+1=>by
  show bH (fun i=>f i+g i) n+(f n+g n)=(bH f n+f n)+(bH g n+g n)
  rw[jf n]
  walk_at"o"
theorem qg{f:Nat->Nat->Int}(M:Nat):∀ N,bH (fun i=>bH (fun j=>f i j) M) N=bH (fun j=>bH (fun i=>f i j) N) M
 | 0=>by
  show (0:Int)=bH (fun j=>bH (fun i=>f i j) 0) M
  exact (fS (f:=fun j=>bH (fun i=>f i j) 0) M fun i _=>rfl).symm
 | N+1=>by
  show bH _ N+bH (fun j=>f N j) M=bH (fun j=>bH (fun i=>f i j) N+f N j) M
  rw[qg M N,jf]
def LL(W:Nat->Int)(p:Nat->Int)(N i:Nat):Int:=bH (fun j=>W (i+j)*p j) N
theorem pe(k i:Nat):LL W (qk W k) (k+1) i=Lq W k i:=(rG k i).symm
theorem u4{p:Nat->Int}{n i:Nat}(h:∀ j,n<=j->p j=0)(m:Nat):LL W p (n+m) i=LL W p n i:=qo (fun j hj=>by rw[h j hj,Int.mul_zero]) m
theorem vT{a d:Nat->Int}{N M:Nat}:bH (fun i=>a i*LL W d M i) N=bH (fun j=>d j*LL W a N j) M:=by
 have e1:bH (fun i=>a i*LL W d M i) N=bH (fun i=>bH (fun j=>a i*(W (i+j)*d j)) M) N:=eU N fun i _=>(gb M).symm
 have e2:bH (fun j=>d j*LL W a N j) M=bH (fun j=>bH (fun i=>a i*(W (i+j)*d j)) N) M:=eU M fun j _=>by
  unfold LL
  rw[<- gb]
  exact eU N fun i _=>by rw[Nat.add_comm j i];grind
 rw[e1,e2]
 exact qg M N
theorem BG{d:Nat->Int}{k M:Nat}(hM:k+1<=M)(hD:∀ i,i<=k+1->Dk W i ≠ 0)(h0:∀ i,i<=k->LL W d M i=0)(hd:∀ j,k<j->d j=0):∀ j,d j=0:=by
 have down:∀ n,n<=k+1 -> ∀ j,k+1 - n<=j->d j=0:=by
  intro n
  induction n with
  | zero=>exact fun _ j hj=>hd j (by walk_at"o")
  | succ n ih =>
   intro hn j hj
   have ihn:=ih (by walk_at"o")
   by_cases e:j=k - n
   ·have hz:bH (fun i=>qk W (k - n) i*LL W d M i) (k - n+1)=0:=fS _ fun i hi=>by rw[h0 i (by walk_at"o"),Int.mul_zero]
    rw[vT,hV (j:=k - n) M (fun i hi hne=>?_) (by walk_at"o"),pe,fP] at hz
    ·rcases Int.mul_eq_zero.mp hz with z|z
     ·rw[e];exact z
     ·exact absurd z (hD _ (by walk_at"o"))
    ·by_cases hlt:i<k - n
     ·show d i*LL W (qk W (k - n)) (k - n+1) i=0
      rw[pe,iP hlt,Int.mul_zero]
     ·show d i*LL W (qk W (k - n)) (k - n+1) i=0
      rw[ihn i (by walk_at"o"),Int.zero_mul]
   ·exact ihn j (by walk_at"o")
 exact fun j=>down (k+1) (Nat.le_refl _) j (by walk_at"o")
def xa(p:Nat->Int):Nat->Int
 | 0=>0
 | j+1=>p j
theorem C0{p:Nat->Int}{i:Nat}:∀ N,LL W (xa p) (N+1) i=LL W p N (i+1)
 | 0=>by
  show (0:Int)+W (i+0)*0=0
  rw[Int.mul_zero]
  rfl
 | N+1=>by
  show LL W (xa p) (N+1) i+W (i+(N+1))*p N=LL W p N (i+1)+W (i+1+N)*p N
  rw[C0 N,show i+(N+1)=i+1+N by walk_at"o"]
theorem Au{n:Nat}(hD:Dk W (n+1) ≠ 0):qk W (n+1) n = - Lq W n (n+1):=by
 have h1:bH (fun i=>qk W n i*LL W (qk W (n+1)) (n+2) i) (n+1)=0:=fS _ fun i hi=>by rw[pe,iP (by walk_at"o"),Int.mul_zero]
 rw[vT] at h1
 have h2:bH (fun j=>qk W (n+1) j*LL W (qk W n) (n+1) j) (n+2)=qk W (n+1) n*Dk W (n+1)+qk W (n+1) (n+1)*Lq W n (n+1):=by
  show bH (fun j=>qk W (n+1) j*LL W (qk W n) (n+1) j) (n+1)+qk W (n+1) (n+1)*LL W (qk W n) (n+1) (n+1)=_
  rw[hV (j:=n) (n+1) (fun i hi hne=>by rw[pe,iP (by walk_at"o"),Int.mul_zero]) (by walk_at"o"),pe,pe,fP]
 rw[h2,gh] at h1
 have h3:Dk W (n+1)*(qk W (n+1) n+Lq W n (n+1))=0:=by grind
 rcases Int.mul_eq_zero.mp h3 with z|z
 ·exact absurd z hD
 ·walk_at"o"
def mG(W:Nat->Int):Nat->Int
 | 0=>Dk W 0*Lq W 0 1
 | n+1=>Dk W (n+1)*Lq W (n+1) (n+2)+Dk W (n+2)*qk W (n+1) n
def lB(W:Nat->Int):Nat->Nat->Int
 | 0,_=>0
 | n+1,j=>qk W n j
def Gd(W:Nat->Int):Nat->Nat->Int
 | 0,_=>0
 | n+1,i=>Lq W n i
theorem Er(k i:Nat):LL W (lB W k) (k+2) i=Gd W k i:=by
 cases k with
 | zero=>exact fS _ fun j _=>Int.mul_zero _
 | succ n =>
  show LL W (qk W n) (n+1+2) i=Lq W n i
  rw[u4 fun j hj=>fD (by walk_at"o"),pe]
theorem yk{k:Nat}(hD:∀ i,i<=k+1->Dk W i ≠ 0)(j:Nat) :
  Dk W k*Dk W (k+1)*xa (qk W k) j - mG W k*qk W k j - Dk W (k+1)*Dk W (k+1)*lB W k j=Dk W k*Dk W k*qk W (k+1) j:=by
 obtain⟨d,hd⟩ : ∃ d:Nat->Int,d=fun j=>(Dk W k*Dk W (k+1))*xa (qk W k) j+(-1)*(mG W k*qk W k j+(Dk W (k+1)*Dk W (k+1)*lB W k j+Dk W k*Dk W k*qk W (k+1) j)):=⟨_,rfl⟩
 have z:∀ j,d j=0:=by
  refine BG (k:=k) (M:=k+2) (by walk_at"o") hD (fun i hi=>?_) (fun j hj=>?_)
  ·have e:LL W d (k+2) i=Dk W k*Dk W (k+1)*Lq W k (i+1) - mG W k*Lq W k i - Dk W (k+1)*Dk W (k+1)*Gd W k i - Dk W k*Dk W k*Lq W (k+1) i:=by
    have f:LL W d (k+2) i=(Dk W k*Dk W (k+1))*LL W (xa (qk W k)) (k+2) i+(-1)*(mG W k*LL W (qk W k) (k+2) i+(Dk W (k+1)*Dk W (k+1)*LL W (lB W k) (k+2) i+Dk W k*Dk W k*LL W (qk W (k+1)) (k+2) i)):=by
     unfold LL
     rw[<- gb,<- gb,<- gb,<- gb,<- jf,<- jf,<- gb,<- jf]
     refine eU _ fun j _=>?_
     rw[hd]
     grind
    have m:LL W (qk W k) (k+2) i=Lq W k i:=by
     have:=u4 (W:=W) (p:=qk W k) (n:=k+1) (i:=i) (fun j hj=>fD (by walk_at"o")) 1
     rw[pe] at this
     exact this
    rw[f,C0,pe,m,Er,pe]
    grind
   rw[e,iP (k:=k+1) (by walk_at"o")]
   by_cases e1:i=k
   ·subst e1
    cases i with
    | zero =>
     show Dk W 0*Dk W 1*Lq W 0 1 - Dk W 0*Lq W 0 1*Lq W 0 0 - Dk W 1*Dk W 1*0 - Dk W 0*Dk W 0*0=0
     rw[fP]
     grind
    | succ n =>
     show Dk W (n+1)*Dk W (n+2)*Lq W (n+1) (n+2) - (Dk W (n+1)*Lq W (n+1) (n+2)+Dk W (n+2)*qk W (n+1) n)*Lq W (n+1) (n+1) - Dk W (n+2)*Dk W (n+2)*Lq W n (n+1) - Dk W (n+1)*Dk W (n+1)*0=0
     rw[fP,Au (hD _ (by walk_at"o"))]
     grind
   ·cases k with
    | zero=>walk_at"o"
    | succ n =>
     rw[iP (k:=n+1) (i:=i) (by walk_at"o")]
     show Dk W (n+1)*Dk W (n+2)*Lq W (n+1) (i+1) - mG W (n+1)*0 - Dk W (n+2)*Dk W (n+2)*Lq W n i - Dk W (n+1)*Dk W (n+1)*0=0
     by_cases e2:i=n
     ·rw[e2,fP,fP]
      grind
     ·rw[iP (k:=n+1) (by walk_at"o"),iP (k:=n) (by walk_at"o")]
      grind
  ·have b0:lB W k j=0:=by
    cases k with
    | zero=>rfl
    | succ n=>exact fD (by walk_at"o")
   rw[hd]
   show Dk W k*Dk W (k+1)*xa (qk W k) j + -1*(mG W k*qk W k j+(Dk W (k+1)*Dk W (k+1)*lB W k j+Dk W k*Dk W k*qk W (k+1) j))=0
   rw[b0,fD hj]
   obtain⟨j',rfl⟩ : ∃ j',j=j'+1:=⟨j - 1,by walk_at"o"⟩
   show Dk W k*Dk W (k+1)*qk W k j'+_=0
   by_cases e:j'=k
   ·rw[e,gh,gh]
    grind
   ·rw[fD (k:=k) (j:=j') (by walk_at"o"),fD (k:=k+1) (by walk_at"o")]
    grind
 have:=z j
 rw[hd] at this
 dsimp only at this
 grind
theorem nD{v:Nat->Int}{B C:Nat}(hv:∀ i,(v i).natAbs<=B):∀ (m:Nat)(o:Om)(l:List Bool),(∀ k,(o k).natAbs<=C)->(wg m v o l).natAbs<=m*(B*C)
 | 0,o,l,h=>by simp[wg]
 | m+1,o,[],h=>by simp[wg]
 | m+1,o,false :: l,h=>by
  rw[j8]
  have:=nD hv m (fun k=>o (false :: k)) l fun k=>h _
  rw[Nat.add_mul]
  walk_at"o"
 | m+1,o,true :: l,h=>by
  rw[jR]
  have h1:=nD hv m (fun k=>o (true :: k)) l fun k=>h _
  have h2:(v m*o (false :: l)).natAbs<=B*C:=by rw[Int.natAbs_mul];exact Nat.mul_le_mul (hv m) (h _)
  have h3:=Int.natAbs_sub_le (v m*o (false :: l)) (wg m v (fun k=>o (true :: k)) l)
  rw[Nat.add_mul]
  walk_at"o"
theorem Ap{B m:Nat}(hW:∀ i,(W i).natAbs<=B):∀ k l,(om W m k l).natAbs<=(m*B) ^ k
 | 0,l=>by
  show (if _ then (1:Int) else 0).natAbs<=1
  split <;> decide
 | k+1,l=>by
  have:=nD (v:=kx W k) (B:=B) (C:=(m*B) ^ k) (fun i=>hW _) m (om W m k) l (Ap hW k)
  rw[Nat.pow_succ,Nat.mul_comm,Nat.mul_assoc]
  exact this
theorem qq{B k:Nat}(hW:∀ i,(W i).natAbs<=B)(j:Nat):(qk W k j).natAbs<=(k+1)*((k+1)*B) ^ k:=by
 have:=nD (v:=jQ j) (B:=1) (C:=((k+1)*B) ^ k) (fun i=>by unfold jQ;split <;> decide) (k+1) (om W (k+1) k) (uT (k+1)) (Ap hW k)
 rw[Nat.one_mul] at this
 exact this
end L2
namespace L2
open PySem PySem.Spec PyProof.Rows
def IL(G:Hp)(a:Addr)(n:Nat)(p:Nat->Int):Prop:=G a=some (.lst (lz n fun i=>V.int (p i)))
theorem IL.same{G G':Hp}{a:Addr}{n:Nat}{p:Nat->Int}(h:IL G a n p)(S:ay G G'):IL G' a n p:=S _ _ h
theorem IL.len{G:Hp}{a:Addr}{n:Nat}{p:Nat->Int}(h:IL G a n p):fz G a=some n:=by
 unfold IL at h
 simp only[fz,h]
 rw[aW]
theorem oV{α:Type}{n:Nat}{h:Nat->α}{xs:List α}(hl:xs.length=n)(he:∀ i,i<n->xs[i]? = some (h i)):xs=lz n h:=by
 refine List.ext_getElem? fun i=>?_
 by_cases hi:i<n
 ·rw[he i hi,cV hi]
 ·rw[List.getElem?_eq_none (by walk_at"o"),List.getElem?_eq_none (by rw[aW];walk_at"o")]
theorem By{α:Type}{n k:Nat}{h:Nat->α}:(lz n h).drop k=lz (n - k) fun i=>h (k+i) :=
 oV (by rw[List.length_drop,aW]) fun i hi=>by rw[List.getElem?_drop,cV (by walk_at"o")]
theorem E7{α β:Type}{m n:Nat}{f:Nat->α}{g:Nat->β}(h:m<=n):(lz m f).zip (lz n g)=lz m fun i=>(f i,g i) :=
 oV (by rw[List.length_zip,aW,aW];walk_at"o") fun i hi=>by
  rw[List.getElem?_zip_eq_some]
  exact⟨cV hi,cV (by walk_at"o")⟩
theorem kD{α:Type}{n:Nat}{h:Nat->α}:lz (n+1) h=lz n h ++ [h n]:=by simp[lz,List.range_succ]
theorem m5{α:Type}{n:Nat}{h:Nat->α}:lz (n+1) h=h 0 :: lz n fun i=>h (i+1) :=
 (oV (by simp[aW]) fun i hi=>by
  cases i with
  | zero=>rfl
  | succ i =>
   rw[List.getElem?_cons_succ]
   exact cV (by walk_at"o")).symm
theorem vP{f:Nat->Int}:∀ n,kq (lz n f)=bH f n
 | 0=>rfl
 | n+1=>by
  rw[kD,oW,vP n]
  show _+(f n+0)=bH f n+f n
  walk_at"o"
theorem DX{α:Type}{n k:Nat}{h:Nat->α}(hk:k<n):mL (lz n h) (k:Int)=some (h k):=dj (cV hk)
theorem mT{α:Type}{n:Nat}{h:Nat->α}:mL (lz (n+1) h) (-1)=some (h n):=eP (by rw[kD];simp)
theorem AB{α:Type}{n:Nat}{h:Nat->α}:mL (lz (n+2) h) (-2)=some (h n):=by
 unfold mL tR
 rw[aW,if_neg (by decide),if_pos (by walk_at"o")]
 have e:((-2:Int)+((n+2:Nat):Int)).toNat=n:=by walk_at"o"
 show (lz (n+2) h)[((-2:Int)+((n+2:Nat):Int)).toNat]? = some (h n)
 rw[e,cV (by walk_at"o")]
theorem Bt.of_le{n m:Nat}{x:Int}(h:x.natAbs<=2 ^ n)(hn:n<m):Bt m x:=by
 unfold Bt
 exact Nat.lt_of_le_of_lt h (Nat.pow_lt_pow_right (by decide) hn)
theorem qc{W:Nat->Int}{b k j:Nat}(hW:∀ i,Bt b (W i))(hk:k<=5):Bt (5*b+19) (qk W k j):=by
 have h:=qq (W:=W) (B:=2 ^ b) (k:=k) (fun i=>Nat.le_of_lt (hW i)) j
 refine Bt.of_le (n:=5*b+18) (Nat.le_trans h ?_) (by walk_at"o")
 have h1:(k+1)*2 ^ b<=2 ^ (b+3):=by
  rw[Nat.pow_add,Nat.mul_comm]
  exact Nat.mul_le_mul_left _ (by walk_at"o")
 have h2:((k+1)*2 ^ b) ^ k<=2 ^ (5*b+15):=by
  refine Nat.le_trans (Nat.pow_le_pow_left h1 k) ?_
  rw[<- Nat.pow_mul]
  refine Nat.pow_le_pow_right (by decide) ?_
  have:(b+3)*k<=(b+3)*5:=Nat.mul_le_mul_left _ hk
  walk_at"o"
 have h3:(2:Nat) ^ (5*b+18)=8*2 ^ (5*b+15):=by
  rw[show 5*b+18=(5*b+15)+3 by walk_at"o",Nat.pow_add]
  walk_at"o"
 rw[h3]
 exact Nat.mul_le_mul (by walk_at"o") h2
theorem uV{f:Nat->Int}{b:Nat}(h:∀ i,Bt b (f i)):∀ n,Bt (b+n) (bH f n)
 | 0=>by
  show Bt (b+0) 0
  unfold Bt
  exact Nat.pow_pos (by decide)
 | n+1=>by
  have h1:=uV h n
  have h2:=h n
  unfold Bt at h1 h2 ⊢
  have e:(2:Nat) ^ (b+(n+1))=2 ^ (b+n)+2 ^ (b+n):=by rw[<- Nat.add_assoc,Nat.pow_succ];walk_at"o"
  have e2:(2:Nat) ^ b<=2 ^ (b+n):=Nat.pow_le_pow_right (by decide) (by walk_at"o")
  have h3:=Int.natAbs_add_le (bH f n) (f n)
  show (bH f n+f n).natAbs<_
  walk_at"o"
theorem C6{W:Nat->Int}{b k i:Nat}(hW:∀ i,Bt b (W i))(hk:k<=5):Bt (6*b+26) (Lq W k i):=by
 rw[rG]
 refine (uV (b:=b+(5*b+19)) (fun j=>(hW _).mul (qc hW hk)) (k+1)).mono (by walk_at"o")
theorem pG{W:Nat->Int}{b k:Nat}(hW:∀ i,Bt b (W i))(hk:k<=6):Bt (6*b+26) (Dk W k):=by
 cases k with
 | zero =>
  rw[FA]
  unfold Bt
  exact Nat.lt_of_lt_of_le (by decide:(1:Int).natAbs<2 ^ 1) (Nat.pow_le_pow_right (by decide) (by walk_at"o"))
 | succ k=>rw[<- fP];exact C6 hW (by walk_at"o")
end L2
namespace L2
open PySem PySem.Spec PyProof.Rows
theorem wN{D n:Int}{a:Nat}{q:Int × Int}(hq:Fq q)(e:wv q=(n:Rat) / (D:Rat))(hD:D ≠ 0)(h1:Bt a n)(h2:Bt a D):Bq a q:=by
 rw[lA hq (ir hD) (by rw[ii hD,e])]
 exact oB hD h1 h2
theorem yz{D E:Int}{a b:Nat}{f g:Nat->Rat}(hD:D ≠ 0)(hE:E ≠ 0)(h1:Ob D a f)(h2:Ob E b g):∀ j,∃ n:Int,aG f g j=(n:Rat) / ((D*E:Int):Rat)/\Bt (a+b+j) n
 | 0=>⟨0,by
   show (0:Rat)=_
   have:((0:Int):Rat)=0:=rfl
   rw[this]
   grind,by unfold Bt;exact Nat.pow_pos (by decide)⟩
 | j+1=>by
  obtain⟨n,e,bn⟩:=yz hD hE h1 h2 j
  obtain⟨x,e1,b1⟩:=h1 j
  obtain⟨y,e2,b2⟩:=h2 j
  refine⟨n+x*y,?_,?_⟩
  ·show aG f g j+f j*g j=_
   rw[e,e1,e2,Rat.intCast_add,Rat.intCast_mul,Rat.intCast_mul]
   have n1:(D:Rat) ≠ 0:=ar hD
   have n2:(E:Rat) ≠ 0:=ar hE
   grind
  ·have h3:=Bt.mul b1 b2
   unfold Bt at bn h3 ⊢
   have e3:(2:Nat) ^ (a+b+(j+1))=2 ^ (a+b+j)+2 ^ (a+b+j):=by rw[<- Nat.add_assoc,Nat.pow_succ];walk_at"o"
   have e4:(2:Nat) ^ (a+b)<=2 ^ (a+b+j):=Nat.pow_le_pow_right (by decide) (by walk_at"o")
   have h4:=Int.natAbs_add_le n (x*y)
   walk_at"o"
end L2
namespace L2
open PySem PySem.Spec PyProof.Rows
theorem og{f g h:Nat->Rat}:∀ n,aG (fun i=>f i+g i) h n=aG f h n+aG g h n
 | 0=>by show (0:Rat)=0+0;grind
 | n+1=>by
  show aG (fun i=>f i+g i) h n+(f n+g n)*h n=(aG f h n+f n*h n)+(aG g h n+g n*h n)
  rw[og n]
  grind
theorem aZ{f h:Nat->Rat}:∀ n,(∀ i,i<n->f i*h i=0)->aG f h n=0
 | 0,_=>rfl
 | n+1,hz=>by
  show aG f h n+f n*h n=0
  rw[aZ n fun i hi=>hz i (by walk_at"o"),hz n (by walk_at"o")]
  grind
theorem gv{f h:Nat->Rat}{n:Nat}(hz:∀ i,n<=i->f i*h i=0):∀ m,aG f h (n+m)=aG f h n
 | 0=>rfl
 | m+1=>by
  show aG f h (n+m)+f (n+m)*h (n+m)=aG f h n
  rw[gv hz m,hz (n+m) (by walk_at"o")]
  grind
theorem lP{g h:Nat->Rat}{c:Rat}{n:Nat}:∀ N,aG (fun m=>if n<=m then c*g (m - n) else 0) h N=c*aG g (fun j=>h (n+j)) (N - n)
 | 0=>by
  rw[Nat.zero_sub]
  show (0:Rat)=c*0
  grind
 | N+1=>by
  show aG (fun m=>if n<=m then c*g (m - n) else 0) h N+(if n<=N then c*g (N - n) else 0)*h N=_
  rw[lP N]
  by_cases e:n<=N
  ·rw[if_pos e,show N+1 - n=(N - n)+1 by walk_at"o"]
   show _=c*(aG g (fun j=>h (n+j)) (N - n)+g (N - n)*h (n+(N - n)))
   rw[show n+(N - n)=N by walk_at"o"]
   grind
  ·rw[if_neg e,show N+1 - n=0 by walk_at"o",show N - n=0 by walk_at"o"]
   show c*0+0*h N=c*0
   grind
theorem Ao{f g h:Nat->Rat}{N:Nat}:∀ n,aG (fun m=>pr f g n m) h N=aG f (fun i=>aG g (fun j=>h (i+j)) (N - i)) n
 | 0=>aZ N fun i _=>by
  show (0:Rat)*h i=0
  grind
 | n+1=>by
  have e:(fun m=>pr f g (n+1) m)=fun m=>pr f g n m+if n<=m then f n*g (m - n) else 0:=rfl
  rw[e,og,Ao n,lP]
  rfl
theorem we{F G:Nat->Rat}{f g:Nat->Int}{c d:Rat}(hc:c ≠ 0)(hd:d ≠ 0)(hF:∀ i,F i=((f i:Int):Rat) / c)(hG:∀ i,G i=((g i:Int):Rat) / d):∀ n,aG F G n=((bH (fun i=>g i*f i) n:Int):Rat) / (c*d)
 | 0=>by
  show (0:Rat)=((0:Int):Rat) / (c*d)
  have:((0:Int):Rat)=0:=rfl
  rw[this]
  grind
 | n+1=>by
  show aG F G n+F n*G n=((bH (fun i=>g i*f i) n+g n*f n:Int):Rat) / (c*d)
  rw[we hc hd hF hG n,hF n,hG n,Rat.intCast_add,Rat.intCast_mul]
  grind
section
variable {W:Nat->Int}{B:Int}{k:Nat}{P S:Nat->Rat}
theorem oj(hD:Dk W k ≠ 0)(hB:B ≠ 0)(hP:∀ j,P j=((qk W k j:Int):Rat) / ((Dk W k:Int):Rat))(hS:∀ i,((W i:Int):Rat)=S i*(B:Rat))(i:Nat):aG P (fun j=>S (i+j)) (k+1)=((Lq W k i:Int):Rat) / (((Dk W k:Int):Rat)*(B:Rat)):=by
 have cB:(B:Rat) ≠ 0:=ar hB
 rw[we (f:=qk W k) (g:=fun j=>W (i+j)) (c:=((Dk W k:Int):Rat)) (d:=(B:Rat)) (ar hD) cB hP (fun j=>by have:=hS (i+j);grind),<- rG]
end
end L2
namespace L2
open PySem PySem.Spec PyProof.Rows
theorem kw{f g h:Nat->Rat}:∀ n,aG f (fun i=>g i+h i) n=aG f g n+aG f h n
 | 0=>by show (0:Rat)=0+0;grind
 | n+1=>by
  show aG f (fun i=>g i+h i) n+f n*(g n+h n)=(aG f g n+f n*g n)+(aG f h n+f n*h n)
  rw[kw n]
  grind
theorem nX{f h:Nat->Rat}{c:Rat}:∀ n,aG (fun i=>c*f i) h n=c*aG f h n
 | 0=>by show (0:Rat)=c*0;grind
 | n+1=>by
  show aG (fun i=>c*f i) h n+(c*f n)*h n=c*(aG f h n+f n*h n)
  rw[nX n]
  grind
theorem sJ{f h:Nat->Rat}{c:Rat}:∀ n,aG f (fun i=>c*h i) n=c*aG f h n
 | 0=>by show (0:Rat)=c*0;grind
 | n+1=>by
  show aG f (fun i=>c*h i) n+f n*(c*h n)=c*(aG f h n+f n*h n)
  rw[sJ n]
  grind
def ip(S u v:Nat->Rat)(m n:Nat):Rat:=aG u (fun i=>aG v (fun j=>S (i+j)) n) m
theorem eQ{S u v:Nat->Rat}{n:Nat}:∀ m,ip S u v m n=ip S v u n m
 | 0=>by
  unfold ip
  show (0:Rat)=aG v (fun j=>0) n
  rw[aZ n fun i _=>by grind]
 | m+1=>by
  have h:=eQ (S:=S) (u:=u) (v:=v) (n:=n) m
  unfold ip at h ⊢
  show aG u (fun i=>aG v (fun j=>S (i+j)) n) m+u m*aG v (fun j=>S (m+j)) n=aG v (fun i=>aG u (fun j=>S (i+j)) m+u m*S (i+m)) n
  rw[kw,sJ,h]
  congr 2
  exact bI n (fun _ _=>rfl) fun i _=>by rw[Nat.add_comm]
section
variable {S:Nat->Rat}{P:Nat->Nat->Rat}{h:Nat->Rat}{M n:Nat}
end
section
variable {W:Nat->Int}{B:Int}{S:Nat->Rat}
theorem DW{k m:Nat}{p v:Nat->Rat}(hD:Dk W k ≠ 0)(hB:B ≠ 0)(hP:∀ j,p j=((qk W k j:Int):Rat) / ((Dk W k:Int):Rat))(hS:∀ i,((W i:Int):Rat)=S i*(B:Rat))(hm:k+1<=m)(n:Nat):ip S v p n m=aG v (fun i=>((Lq W k i:Int):Rat) / (((Dk W k:Int):Rat)*(B:Rat))) n:=by
 refine bI n (fun _ _=>rfl) fun i _=>?_
 rw[<- oj hD hB hP hS i]
 have:=gv (f:=p) (h:=fun j=>S (i+j)) (n:=k+1) (fun j hj=>by
  have z:((0:Int):Rat)=0:=rfl
  rw[hP j,fD (by walk_at"o"),z]
  grind) (m - (k+1))
 rw[show k+1+(m - (k+1))=m by walk_at"o"] at this
 exact this
end
end L2
namespace L2
open PySem PySem.Spec PyProof.Rows
theorem mV{v:Nat->Rat}{x c:Rat}:∀ n,aG v (fun j=>c*aO x j) n=c*ck v n x
 | 0=>by show (0:Rat)=c*0;grind
 | n+1=>by
  show aG v (fun j=>c*aO x j) n+v n*(c*aO x n)=c*(ck v n x+v n*aO x n)
  rw[mV n]
  grind
theorem rB{u v:Nat->Rat}{w x:Rat}{m n:Nat}:ip (fun k=>w*aO x k) u v m n=w*(ck u m x*ck v n x):=by
 unfold ip
 have e:aG u (fun i=>aG v (fun j=>w*aO x (i+j)) n) m=aG u (fun i=>(w*ck v n x)*aO x i) m:=bI m (fun _ _=>rfl) fun i _=>by
  have:aG v (fun j=>w*aO x (i+j)) n=aG v (fun j=>(w*aO x i)*aO x j) n:=bI n (fun _ _=>rfl) fun j _=>by rw[sP];grind
  rw[this,mV]
  grind
 rw[e,mV]
 grind
theorem km{S T u v:Nat->Rat}{m n:Nat}:ip (fun k=>S k+T k) u v m n=ip S u v m n+ip T u v m n:=by
 unfold ip
 rw[<- kw]
 exact bI m (fun _ _=>rfl) fun i _=>kw n
theorem oO{S T u v:Nat->Rat}{m n:Nat}(h:∀ i j,i<m->j<n->S (i+j)=T (i+j)):ip S u v m n=ip T u v m n :=
 bI m (fun _ _=>rfl) fun i hi=>bI n (fun _ _=>rfl) fun j hj=>h i j hi hj
def dW(F:Rat->Rat):List dQ->Rat
 | []=>0
 | c :: cs=>wv c.2*F (wv c.1)+dW F cs
theorem uE{u v:Nat->Rat}{m n:Nat}:∀ cs:List dQ,ip (cj cs) u v m n=dW (fun x=>ck u m x*ck v n x) cs
 | []=>by
  show aG u (fun i=>aG v (fun j=>0) n) m=0
  exact aZ m fun i _=>by rw[aZ n fun j _=>by grind];grind
 | c :: cs=>by
  have e:cj (c :: cs)=fun k=>(fun k=>wv c.2*aO (wv c.1) k) k+cj cs k:=rfl
  rw[e,km,rB,uE cs]
  rfl
theorem cN{F G:Rat->Rat}:∀ {cs:List dQ},(∀ c ∈ cs,F (wv c.1)=G (wv c.1))->dW F cs=dW G cs
 | [],_=>rfl
 | c :: cs,h=>by
  show wv c.2*F (wv c.1)+dW F cs=wv c.2*G (wv c.1)+dW G cs
  rw[h c (by simp),cN fun d hd=>h d (by simp[hd])]
theorem nr(y:Rat):0<=y*y:=by
 rcases Rat.le_total (a:=0) (b:=y) with h|h
 ·exact Rat.mul_nonneg h h
 ·have:=Rat.mul_nonneg (Rat.neg_le_neg h) (Rat.neg_le_neg h)
  grind
theorem mi{G:Rat->Rat}:∀ {cs:List dQ},(∀ c ∈ cs,0<wv c.2)->0<=dW (fun x=>G x*G x) cs
 | [],_=>by show (0:Rat)<=0;grind
 | c :: cs,h=>by
  show 0<=wv c.2*(G (wv c.1)*G (wv c.1))+dW (fun x=>G x*G x) cs
  have h1:=mi (G:=G) (cs:=cs) fun d hd=>h d (by simp[hd])
  have h2:=Rat.mul_nonneg (Rat.le_of_lt (h c (by simp))) (nr (G (wv c.1)))
  grind
theorem pU{G:Rat->Rat}:∀ {cs:List dQ},(∀ c ∈ cs,0<wv c.2)->dW (fun x=>G x*G x) cs=0 -> ∀ c ∈ cs,G (wv c.1)=0
 | [],_,_,c,hc=>by cases hc
 | d :: cs,h,e,c,hc=>by
  have e':wv d.2*(G (wv d.1)*G (wv d.1))+dW (fun x=>G x*G x) cs=0:=e
  have h0:=h d (by simp)
  have h1:=mi (G:=G) (cs:=cs) fun d hd=>h d (by simp[hd])
  have h2:=Rat.mul_nonneg (Rat.le_of_lt h0) (nr (G (wv d.1)))
  have z1:wv d.2*(G (wv d.1)*G (wv d.1))=0:=by grind
  have z2:dW (fun x=>G x*G x) cs=0:=by grind
  rcases List.mem_cons.mp hc with rfl|hm
  ·have:wv c.2 ≠ 0:=by grind
   grind
  ·exact pU (fun d hd=>h d (by simp[hd])) z2 c hm
section
variable {W:Nat->Int}{B:Int}{cs:List dQ}
def Pk(W:Nat->Int)(k:Nat):Nat->Rat:=fun j=>((qk W k j:Int):Rat) / ((Dk W k:Int):Rat)
theorem iW{k j:Nat}(h:k<j):Pk W k j=0:=by
 have z:((0:Int):Rat)=0:=rfl
 unfold Pk
 rw[fD h,z]
 grind
theorem oI{k:Nat}(h:Dk W k ≠ 0):Pk W k k=1:=by
 have:=ar h
 unfold Pk
 rw[gh]
 grind
theorem Fn{f:Nat->Rat}{n:Nat}(h:∀ k,n<=k->f k=0)(hn:n<=20)(x:Rat):ck f n x=EV f x:=(mz h hn x).symm
end
end L2
namespace L2
open PySem PySem.Spec PyProof.Rows
theorem Ay{W:Nat->Int}{b k j:Nat}(hW:∀ i,Bt b (W i))(hk:k<=5):Bt ((b+3)*k+4) (qk W k j):=by
 have h:=qq (W:=W) (B:=2 ^ b) (k:=k) (fun i=>Nat.le_of_lt (hW i)) j
 refine Bt.of_le (n:=(b+3)*k+3) (Nat.le_trans h ?_) (by walk_at"o")
 have h1:(k+1)*2 ^ b<=2 ^ (b+3):=by
  rw[Nat.pow_add,Nat.mul_comm]
  exact Nat.mul_le_mul_left _ (by walk_at"o")
 have h2:((k+1)*2 ^ b) ^ k<=2 ^ ((b+3)*k):=by
  refine Nat.le_trans (Nat.pow_le_pow_left h1 k) ?_
  rw[<- Nat.pow_mul]
  exact Nat.le_refl _
 have h3:(2:Nat) ^ ((b+3)*k+3)=8*2 ^ ((b+3)*k):=by
  rw[Nat.pow_add]
  walk_at"o"
 rw[h3]
 exact Nat.mul_le_mul (by walk_at"o") h2
theorem Dv{W:Nat->Int}{b k:Nat}(hW:∀ i,Bt b (W i))(hk:k<=5):Bt ((b+3)*k+4) (Dk W k):=by
 rw[<- gh]
 exact Ay hW hk
theorem rm{b:Nat}:∀{fs:List (Int × Int)},(∀ q ∈ fs,Fq q/\Bq b q)->Pb (b*fs.length+1) (cf fs)
 | [],_=>(Fk (a:=1) (by decide)).mono (by simp)
 | q :: qs,h=>by
  obtain⟨D,d0,bD,o⟩:=rm (b:=b) (fs:=qs) fun q hq=>h q (by simp[hq])
  obtain⟨f,bt,bb⟩:=h q (by simp)
  have c1:=ar f.ne
  have c2:=ar d0
  have e:b*(q :: qs).length+1=b+(b*qs.length+1):=by rw[List.length_cons,Nat.mul_add];walk_at"o"
  rw[e]
  refine⟨q.2*D,Int.mul_ne_zero f.ne d0,bb.mul bD,fun k=>?_⟩
  cases k with
  | zero =>
   refine⟨q.1*D,?_,bt.mul bD⟩
   rw[bJ (q:=q) rfl,Rat.intCast_mul,Rat.intCast_mul]
   unfold wv
   grind
  | succ k =>
   obtain⟨n,en,bn⟩:=o k
   refine⟨q.2*n,?_,bb.mul bn⟩
   have:cf (q :: qs) (k+1)=cf qs k:=rfl
   rw[this,en,Rat.intCast_mul,Rat.intCast_mul]
   grind
end L2
namespace L2
open PySem PySem.Spec PyProof.Rows
section
variable {W:Nat->Int}{B:Int}{S:Nat->Rat}{M:Nat}
end
end L2
namespace L2
open PySem PySem.Spec PyProof.Rows
end L2
namespace L2
open PySem PyProof.Rows
theorem GW{i:Int}(h:0<=i):Builtin.bitAnd i 1=i % 2:=by
 rw[PyProof.Rows.bitAnd_pp h (by decide)]
 show ((i.toNat &&& 1:Nat):Int)=_
 rw[Nat.and_one_is_mod]
 walk_at"o"
theorem zy{W:Nat->Int}{b k j:Nat}(hW:∀ i,Bt b (W i))(hk:k<=6):Bt (6*b+22) (qk W k j):=by
 have h:=qq (W:=W) (B:=2 ^ b) (k:=k) (fun i=>Nat.le_of_lt (hW i)) j
 refine Bt.of_le (n:=6*b+21) (Nat.le_trans h ?_) (by walk_at"o")
 have h1:(k+1)*2 ^ b<=2 ^ (b+3):=by
  rw[Nat.pow_add,Nat.mul_comm]
  exact Nat.mul_le_mul_left _ (by walk_at"o")
 have h2:((k+1)*2 ^ b) ^ k<=2 ^ (6*b+18):=by
  refine Nat.le_trans (Nat.pow_le_pow_left h1 k) ?_
  rw[<- Nat.pow_mul]
  refine Nat.pow_le_pow_right (by decide) ?_
  have:(b+3)*k<=(b+3)*6:=Nat.mul_le_mul_left _ hk
  walk_at"o"
 have h3:(2:Nat) ^ (6*b+21)=8*2 ^ (6*b+18):=by
  rw[show 6*b+21=(6*b+18)+3 by walk_at"o",Nat.pow_add]
  walk_at"o"
 rw[h3]
 exact Nat.mul_le_mul (by walk_at"o") h2
section
variable {X:Cx}
theorem vz:eK X (binaryOp .BitAnd) (rI (fun i j=>0<=i/\j=1) fun i j=>.int (i % 2)):=Gu fun i j _ _ _ _ _ hc q=>by
 obtain⟨h0,rfl⟩:=hc
 refine and_int ?_
 rw[GW h0]
 exact q
def FX(K:W.Frag)(ta tb:TE):TE:=fun σ H Q=>ta σ H fun x H1=>∃ k,rJ K x H1 k/\if k=true then Q x H1 else tb σ H1 Q
theorem DT{a b:Expr}{pos:Pos}{ta tb:TE}(ha:QE X a ta)(hb:QE X b tb):QE X (.BoolOp .Or [a,b] pos) (FX X.K ta tb):=⟨by
 intro pins s σ H Q I h
 refine BoolOp_or (cQ (ha.h pins s σ H _ I h) fun v s1 ⟨x,H1,I1,r1,k,e,q1⟩=>?_)
 refine cQ (uG pins s1 σ H1 x v (fun c H'=>H'=H1/\c=k) I1 r1 ⟨k,e,rfl,rfl⟩) fun c s2 ⟨H',I2,e1,e2⟩=>?_
 subst e1 e2
 cases c with
 | true=>rw[if_pos rfl] at q1 ⊢;exact⟨x,_,I2,r1,q1⟩
 | false=>rw[if_neg Bool.false_ne_true] at q1 ⊢;exact BoolOp_one (hb.h pins s2 σ _ Q I2 q1)⟩
end
end L2
namespace L2
open PySem PySem.Spec PyProof.Rows
section
variable {W:Nat->Int}{k:Nat}
end
end L2
namespace L2
open PySem PySem.Spec PyProof.Rows
section
variable {P:Program}{w:World}{K:W.Frag}{mg:Str->Option Value}{base:Heap}
end
end L2
namespace L2
open PySem PySem.Spec PyProof.Rows
section
variable {X:Cx}{a b:Expr}{pos:Pos}{t:St->Hp->XK->Prop}
end
section
variable {P:Program}{w:World}{K:W.Frag}{mg:Str->Option Value}{base:Heap}
end
end L2
namespace L2
open PySem PySem.Spec PyProof.Rows
structure Lm where
 p:Addr
 c:Addr
 ps:Arguments
 b:Expr
 sc:Scope
section
variable {P:Addr}{G0 G G' L0 L1 L3:Hp}{qual:Str}{cl:List (Str × Addr)}{cs p c':Addr}{xs:List Lm}{params:Arguments}{body:Expr}{scope:Scope}
end
end L2
namespace L2
open PySem PySem.Spec PyProof.Rows
structure oX (P:Program)(base:Heap):Prop where
 seer:base.NoSeer
 tree:P.given.tree=none
def xy(_ j:Int):Prop:=j ≠ 0
theorem gD{X:Cx}{k:Nat}(N:oX X.prog X.base)(hr:ge k X.A)(hst:X.stack=X.env :: X.outer)(hgen:X.env.scope.isGenerator=false)(hco:X.env.scope.isCoroutine=false) :
  eK X (binaryOp .FloorDiv) (rI xy fun i j=>.int (i.fdiv j)):=by
 intro pins s σ H x y v u Q I rx ry h
 obtain⟨i,j,rfl,rfl,hc,q⟩:=h
 obtain⟨t,rfl⟩:=rx
 obtain⟨t',rfl⟩:=ry
 refine floordiv_int hc ⟨.int (i.fdiv j),H,I.tok _,⟨_,rfl⟩,q⟩ (.inr ?_)
 refine PySem.PylongRoom.of I.nolimit ?_ (PySem.SeerAt.of (N.seer.keeps I.bk) N.tree (I.ok.frames.trans (congrArg some hst)) hgen hco I.ok.blt I.ok.glob)
 have:=hr.dp
 show X.A.depth+100<recursionLimit
 walk_at"o"
end L2
namespace L2
open PySem
def hR(W:Nat->Int)(B:Int)(k:Nat):Rat:=((Dk W (k+1):Int):Rat) / ((Dk W k*B:Int):Rat)
theorem zt{v:Nat->Rat}{x:Rat}:EV v x=aG v (fun j=>1*aO x j) 20:=by
 rw[mV]
 unfold EV
 grind
section
variable {W:Nat->Int}{B:Int}{x:Rat}{m:Nat}
end
def tb:Nat->Nat
 | 0=>1
 | k+1=>tb k+(360*k+280)
end L2
namespace L2
open PySem
def dw(M:Nat):List (Nat->Int)->Om
 | []=>tO
 | r :: rs=>wg M r (dw M rs)
def dt(M:Nat)(rows:List (Nat->Int)):Int:=dw M rows (uT M)
theorem Ds{v:Nat->Int}{m:Nat}{o p:Om}(h:∀ k,o k = - p k)(l:List Bool):wg m v o l = - wg m v p l:=by
 have e:=lD (v:=v) (a:=-1) (b:=0) m p p l
 rw[<- fY (o:=o) (p:=fun k=>-1*p k+0*p k) (fun k=>by rw[h];walk_at"o") l] at e
 walk_at"o"
theorem vy{v:Nat->Int}{a:Int}{m:Nat}{o p:Om}(h:∀ k,o k=a*p k)(l:List Bool):wg m v o l=a*wg m v p l:=by
 have e:=lD (v:=v) (a:=a) (b:=0) m p p l
 rw[<- fY (o:=o) (p:=fun k=>a*p k+0*p k) (fun k=>by rw[h];walk_at"o") l] at e
 walk_at"o"
theorem DC{u v:Nat->Int}{m:Nat}{o:Om}{l:List Bool}(h:∀ i,i<m->u i=v i):wg m u o l=wg m v o l:=by
 have e:=jg (u:=u) (v:=v) (a:=1) (b:=-1) m o l
 rw[gM m o l fun i hi=>by rw[h i hi];walk_at"o"] at e
 walk_at"o"
def Pm(x y:Int):Prop:=x=y\/x = -y
theorem Pm.rfl'{x:Int}:Pm x x:=.inl rfl
theorem Pm.symm{x y:Int}(h:Pm x y):Pm y x:=by rcases h with e|e <;> unfold Pm <;> walk_at"o"
theorem Pm.trans{x y z:Int}(h:Pm x y)(g:Pm y z):Pm x z:=by rcases h with e|e <;> rcases g with f|f <;> unfold Pm <;> walk_at"o"
theorem Pm.mul{x y:Int}(h:Pm x y)(a:Int):Pm (a*x) (a*y):=by
 rcases h with e|e
 ·exact .inl (by rw[e])
 ·exact .inr (by rw[e,Int.mul_neg])
theorem Pm.of_mul{a x y:Int}(h:Pm (a*x) (a*y))(ha:a ≠ 0):Pm x y:=by
 rcases h with e|e
 ·exact .inl (Int.eq_of_mul_eq_mul_left ha e)
 ·exact .inr (Int.eq_of_mul_eq_mul_left ha (by rw[e,Int.mul_neg]))
theorem tV{M:Nat}{x:Nat->Int}:∀ {rows:List (Nat->Int)},x ∈ rows -> ∀ l,wg M x (dw M rows) l=0
 | [],h,_=>by cases h
 | y :: rs,h,l=>by
  show wg M x (wg M y (dw M rs)) l=0
  rcases List.mem_cons.mp h with rfl|z
  ·exact wJ M _ l
  ·rw[jn,jx M _ l fun k=>tV z k]
   rfl
theorem Bc{M:Nat}{a b:List (Nat->Int)}(h:a.Perm b):(∀ l,dw M a l=dw M b l) \/ ∀ l,dw M a l = - dw M b l:=by
 induction h with
 | nil=>exact .inl fun _=>rfl
 | cons x _ ih =>
  rcases ih with e|e
  ·exact .inl fun l=>fY e l
  ·exact .inr fun l=>Ds e l
 | swap x y l=>exact .inr fun k=>jn M _ k
 | trans _ _ ih1 ih2 =>
  rcases ih1 with e|e <;> rcases ih2 with f|f
  ·exact .inl fun l=>by rw[e,f]
  ·exact .inr fun l=>by rw[e,f]
  ·exact .inr fun l=>by rw[e,f]
  ·exact .inl fun l=>by rw[e,f];walk_at"o"
theorem qK{M:Nat}{a b:List (Nat->Int)}(h:a.Perm b):Pm (dt M a) (dt M b):=by
 rcases Bc (M:=M) h with e|e
 ·exact .inl (e _)
 ·exact .inr (e _)
theorem sO{m:Nat}:∀(rs:List (Nat->Int))(l:List Bool),dw (m+1) rs (false :: l)=dw m rs l
 | [],l=>by simp[dw,tO]
 | r :: rs,l=>by
  show wg (m+1) r (dw (m+1) rs) (false :: l)=wg m r (dw m rs) l
  rw[j8]
  exact fY (fun k=>sO rs k) l
theorem vV{m:Nat}:∀{rs:List (Nat->Int)},(∀ r ∈ rs,r m=0) -> ∀ l,dw (m+1) rs (true :: l)=0
 | [],_,l=>by simp[dw,tO]
 | r :: rs,h,l=>by
  show wg (m+1) r (dw (m+1) rs) (true :: l)=0
  rw[jR,h r List.mem_cons_self,jx m _ l fun k=>vV (fun x hx=>h x (List.mem_cons_of_mem _ hx)) k]
  walk_at"o"
theorem EU{m:Nat}{r:Nat->Int}{rs:List (Nat->Int)}(h:∀ x ∈ rs,x m=0):dt (m+1) (r :: rs)=r m*dt m rs:=by
 show wg (m+1) r (dw (m+1) rs) (true :: uT m)=r m*dw m rs (uT m)
 rw[jR,sO,jx m _ _ fun k=>vV h k]
 walk_at"o"
def st(g:Nat->Nat->Int)(lo:Nat):Nat->List (Nat->Int)
 | 0=>[]
 | n+1=>g (lo+n) :: st g lo n
theorem ke{g:Nat->Nat->Int}{lo:Nat}{x:Nat->Int}:∀ {n:Nat},x ∈ st g lo n -> ∃ i,i<n/\x=g (lo+i)
 | 0,h=>by cases h
 | n+1,h=>by
  rcases List.mem_cons.mp h with rfl|z
  ·exact⟨n,by walk_at"o",rfl⟩
  ·obtain⟨i,hi,e⟩:=ke z
   exact⟨i,by walk_at"o",e⟩
theorem AJ{g:Nat->Nat->Int}{lo i:Nat}:∀ {n:Nat},i<n->g (lo+i) ∈ st g lo n
 | 0,h=>by walk_at"o"
 | n+1,h=>by
  by_cases e:i=n
  ·rw[e];exact List.mem_cons_self
  ·exact List.mem_cons_of_mem _ (AJ (by walk_at"o"))
theorem uc(g:Nat->Nat->Int)(lo n:Nat):∀ m,st g lo (n+m)=st g (lo+n) m ++ st g lo n
 | 0=>rfl
 | m+1=>by
  show g (lo+(n+m)) :: st g lo (n+m)=g (lo+n+m) :: (st g (lo+n) m ++ st g lo n)
  rw[uc g lo n m,Nat.add_assoc]
theorem jh{g:Nat->Nat->Int}{c:Int}{d0 lo:Nat}{X:List (Nat->Int)}(h1:∀ i,g i (d0+i)=c)(h2:∀ i k,d0+i<k->g i k=0)(hX:∀ x ∈ X,∀ k,d0+lo<=k->x k=0):∀ n,dt (d0+lo+n) (st g lo n ++ X)=c ^ n*dt (d0+lo) X
 | 0=>by show dt (d0+lo) X=c ^ 0*_;rw[Int.pow_zero,Int.one_mul]
 | n+1=>by
  show dt (d0+lo+n+1) (g (lo+n) :: (st g lo n ++ X))=_
  rw[EU,jh h1 h2 hX n,show d0+lo+n=d0+(lo+n) by walk_at"o",h1,Int.pow_succ,Int.mul_comm (c ^ n) c,Int.mul_assoc]
  intro x hx
  rcases List.mem_append.mp hx with z|z
  ·obtain⟨i,hi,rfl⟩:=ke z
   exact h2 _ _ (by walk_at"o")
  ·exact hX x z _ (by walk_at"o")
def rV(M:Nat)(X:List (Nat->Int))(v:Nat->Int):Prop:=∀ rows:List (Nat->Int),(∀ x ∈ X,x ∈ rows) -> ∀ l,wg M v (dw M rows) l=0
theorem rV.mem{M:Nat}{X:List (Nat->Int)}{v:Nat->Int}(h:v ∈ X):rV M X v:=fun rows hr l=>tV (hr v h) l
theorem rV.zero{M:Nat}{X:List (Nat->Int)}:rV M X fun _=>0:=fun rows _ l=>gM M _ l fun _ _=>rfl
theorem rV.lin{M:Nat}{X:List (Nat->Int)}{u v:Nat->Int}{a b:Int}(hu:rV M X u)(hv:rV M X v):rV M X fun k=>a*u k+b*v k:=fun rows hr l=>by
 rw[jg,hu rows hr l,hv rows hr l]
 walk_at"o"
theorem rV.sum{M:Nat}{X:List (Nat->Int)}{q:Nat->Int}{g:Nat->Nat->Int}:∀ n,(∀ i,i<n->g i ∈ X)->rV M X fun k=>bH (fun i=>q i*g i k) n
 | 0,_=>rV.zero
 | n+1,h=>by
  have e:=rV.lin (a:=1) (b:=q n) (rV.sum (q:=q) n fun i hi=>h i (by walk_at"o")) (rV.mem (M:=M) (h n (by walk_at"o")))
  have f:(fun k=>1*bH (fun i=>q i*g i k) n+q n*g n k)=fun k=>bH (fun i=>q i*g i k) (n+1):=by
   funext k
   show 1*_+_=bH _ n+q n*g n k
   walk_at"o"
  rw[f] at e
  exact e
theorem AH{M:Nat}{f r:Nat->Nat->Int}{c b:Int}{X:List (Nat->Int)}:∀ n,(∀ i,i<n -> ∃ v,rV M X v /\ ∀ k,c*f i k=b*r i k+v k) -> ∀ l,c ^ n*dw M (st f 0 n ++ X) l=b ^ n*dw M (st r 0 n ++ X) l
 | 0,_,l=>by rw[Int.pow_zero,Int.pow_zero];rfl
 | n+1,h,l=>by
  have ih:=AH n fun i hi=>h i (by walk_at"o")
  obtain⟨v,hv,e⟩:=h n (by walk_at"o")
  show c ^ (n+1)*wg M (f (0+n)) (dw M (st f 0 n ++ X)) l=b ^ (n+1)*wg M (r (0+n)) (dw M (st r 0 n ++ X)) l
  rw[Nat.zero_add]
  have e1:c ^ n*wg M (f n) (dw M (st f 0 n ++ X)) l=b ^ n*wg M (f n) (dw M (st r 0 n ++ X)) l:=by
   rw[<- vy (o:=fun k=>c ^ n*dw M (st f 0 n ++ X) k) (fun _=>rfl) l,<- vy (o:=fun k=>b ^ n*dw M (st r 0 n ++ X) k) (fun _=>rfl) l]
   exact fY ih l
  have e2:c*wg M (f n) (dw M (st r 0 n ++ X)) l=b*wg M (r n) (dw M (st r 0 n ++ X)) l:=by
   have a1:=jg (u:=f n) (v:=f n) (a:=c) (b:=0) M (dw M (st r 0 n ++ X)) l
   have a2:=jg (u:=r n) (v:=v) (a:=b) (b:=1) M (dw M (st r 0 n ++ X)) l
   rw[hv _ (fun x hx=>List.mem_append_right _ hx) l] at a2
   have a3:(fun i=>c*f n i+0*f n i)=fun i=>b*r n i+1*v i:=by
    funext k
    have:=e k
    walk_at"o"
   rw[a3,a2] at a1
   walk_at"o"
  rw[Int.pow_succ,Int.pow_succ,Int.mul_comm (c ^ n) c,Int.mul_assoc,e1,Int.mul_left_comm,e2,Int.mul_assoc]
theorem DR{M:Nat}{f r:Nat->Nat->Int}{c b:Int}{X:List (Nat->Int)}(n:Nat)(h:∀ i,i<n -> ∃ v,rV M X v /\ ∀ k,c*f i k=b*r i k+v k):c ^ n*dt M (st f 0 n ++ X)=b ^ n*dt M (st r 0 n ++ X):=AH n h _
def sh(f:Nat->Int)(i k:Nat):Int:=if i<=k then f (k - i) else 0
def Ej(j k:Nat):List (Nat->Int):=((List.range (j+1)).filter fun i=>decide (i ≠ k)).map jQ
theorem ue{j k:Nat}{x:Nat->Int}(h:x ∈ Ej j k) {m:Nat}(hm:j<m):x m=0:=by
 obtain⟨i,hi,rfl⟩:=List.mem_map.mp h
 have:=List.mem_range.mp (List.mem_filter.mp hi).1
 exact if_neg (by walk_at"o")
theorem yM:∀ n,st jQ 0 n=((List.range n).reverse).map jQ
 | 0=>rfl
 | n+1=>by
  rw[List.range_succ,List.reverse_append]
  show jQ (0+n) :: st jQ 0 n=jQ n :: _
  rw[yM n,Nat.zero_add]
  rfl
theorem Bp(n:Nat):dt n (st jQ 0 n)=1:=by
 have e:=jh (g:=jQ) (c:=1) (d0:=0) (lo:=0) (X:=[]) (fun i=>by rw[Nat.zero_add];exact if_pos rfl) (fun i k h=>if_neg (by walk_at"o")) (fun x hx=>by cases hx) n
 rw[List.append_nil,Int.one_pow,Nat.zero_add,Nat.zero_add] at e
 rw[e]
 rfl
theorem uZ{j k:Nat}(h:k<=j):(jQ k :: Ej j k).Perm (st jQ 0 (j+1)):=by
 rw[yM]
 show (List.map jQ (k :: (List.range (j+1)).filter fun i=>decide (i ≠ k))).Perm _
 refine List.Perm.map _ (List.Perm.trans ?_ (List.reverse_perm _).symm)
 have nd:(List.range (j+1)).Nodup:=List.nodup_range
 have e:(List.range (j+1)).filter (fun i=>decide (i ≠ k))=(List.range (j+1)).erase k:=by
  rw[nd.erase_eq_filter]
  congr 1
  funext i
  by_cases z:i=k
  ·simp[z]
  ·simp[z]
 rw[e]
 exact (List.perm_cons_erase (List.mem_range.mpr (by walk_at"o"))).symm
theorem Ar{j k:Nat}{R:Nat->Int}(h:k<=j):Pm (dt (j+1) (R :: Ej j k)) (R k):=by
 have e:dt (j+1) (R :: Ej j k)=R k*dt (j+1) (jQ k :: Ej j k):=by
  show wg (j+1) R (dw (j+1) (Ej j k)) (uT (j+1))=R k*wg (j+1) (jQ k) (dw (j+1) (Ej j k)) (uT (j+1))
  have e1:wg (j+1) R (dw (j+1) (Ej j k)) (uT (j+1))=wg (j+1) (fun i=>bH (fun a=>R a*jQ a i) (j+1)) (dw (j+1) (Ej j k)) (uT (j+1)):=DC fun i hi=>by
   rw[hV (j:=i) (j+1) (fun a _ ha=>by rw[show jQ a i=0 from if_neg (fun z=>ha z.symm)];walk_at"o") hi,show jQ i i=1 from if_pos rfl]
   walk_at"o"
  rw[e1,lX]
  refine hV (j+1) (fun i hi hn=>?_) (by walk_at"o")
  have z:jQ i ∈ Ej j k:=List.mem_map.mpr ⟨i,List.mem_filter.mpr ⟨List.mem_range.mpr hi,decide_eq_true hn⟩,rfl⟩
  rw[tV z]
  walk_at"o"
 rw[e]
 have p:=(qK (M:=j+1) (uZ h)).mul (R k)
 rw[Bp,Int.mul_one] at p
 exact p
end L2
namespace L2
open PySem
def SR(f g:Nat->Int)(a b j k:Nat):Int:=dt (a+b - j) (st (sh f) 0 (b - j) ++ (st (sh g) 0 (a - j) ++ Ej j k))
theorem tT{f:Nat->Int}{a i:Nat}:sh f i (a+i)=f a:=by
 unfold sh
 rw[if_pos (by walk_at"o"),show a+i - i=a by walk_at"o"]
theorem kY{f:Nat->Int}{a:Nat}(h:∀ k,a<k->f k=0) {i k:Nat}(hk:a+i<k):sh f i k=0:=by
 unfold sh
 rw[if_pos (by walk_at"o")]
 exact h _ (by walk_at"o")
def cv(q g:Nat->Int)(n k:Nat):Int:=bH (fun t=>q t*sh g t k) n
theorem EA{q g:Nat->Int}{i n:Nat}:∀ k,sh (cv q g n) i k=bH (fun t=>q t*sh g (i+t) k) n:=fun k=>by
 unfold sh
 by_cases h:i<=k
 ·rw[if_pos h]
  refine eU n fun t _=>?_
  show q t*(if t<=k - i then g (k - i - t) else 0)=q t*(if i+t<=k then g (k - (i+t)) else 0)
  by_cases z:t<=k - i
  ·rw[if_pos z,if_pos (by walk_at"o"),show k - i - t=k - (i+t) by walk_at"o"]
  ·rw[if_neg z,if_neg (by walk_at"o")]
 ·rw[if_neg h]
  refine (fS n fun t _=>?_).symm
  rw[if_neg (by walk_at"o")]
  exact Int.mul_zero _
theorem yX{f g q r:Nat->Int}{a b j k:Nat}{γ β:Int}(ab:b<=a)(jb:j<=b)(e:∀ k,γ*f k=cv q g (a - b+1) k+β*r k) :
  γ ^ (b - j)*SR f g a b j k=β ^ (b - j)*dt (a+b - j) (st (sh r) 0 (b - j) ++ (st (sh g) 0 (a - j) ++ Ej j k)):=by
 refine DR (b - j) fun i hi=>⟨fun k=>bH (fun t=>q t*sh g (i+t) k) (a - b+1),rV.sum (g:=fun t=>sh g (i+t)) _ fun t ht=>List.mem_append_left _ ?_,fun k=>?_⟩
 ·have:=AJ (g:=sh g) (lo:=0) (i:=i+t) (n:=a - j) (by walk_at"o")
  rwa [Nat.zero_add] at this
 ·show γ*sh f i k=β*sh r i k+bH (fun t=>q t*sh g (i+t) k) (a - b+1)
  rw[<- EA]
  unfold sh
  by_cases h:i<=k
  ·rw[if_pos h,if_pos h,if_pos h,e]
   walk_at"o"
  ·rw[if_neg h,if_neg h,if_neg h]
   walk_at"o"
theorem Cu{f g q r:Nat->Int}{a b d j k:Nat}{γ β c:Int}(ab:b<=a)(db:d<b)(jd:j<=d)(hg:g b=c)(g0:∀ k,b<k->g k=0)(r0:∀ k,d<k->r k=0)(e:∀ k,γ*f k=cv q g (a - b+1) k+β*r k) :
  Pm (γ ^ (b - j)*SR f g a b j k) (β ^ (b - j)*(c ^ (a - d)*SR g r b d j k)):=by
 rw[yX ab (by walk_at"o") e]
 refine Pm.mul ?_ _
 have p:(st (sh r) 0 (b - j) ++ (st (sh g) 0 (a - j) ++ Ej j k)).Perm (st (sh g) (d - j) (a - d) ++ (st (sh g) 0 (d - j) ++ (st (sh r) 0 (b - j) ++ Ej j k))):=by
  have s:=uc (sh g) 0 (d - j) (a - d)
  rw[show d - j+(a - d)=a - j by walk_at"o",Nat.zero_add] at s
  rw[s,<- List.append_assoc,<- List.append_assoc,<- List.append_assoc,<- List.append_assoc]
  refine List.Perm.append_right _ ?_
  rw[List.append_assoc,List.append_assoc]
  exact (List.perm_append_comm).trans (by rw[List.append_assoc])
 refine (qK p).trans ?_
 rw[show a+b - j=b+(d - j)+(a - d) by walk_at"o",jh (d0:=b) (c:=c) (fun i=>by rw[tT];exact hg) (fun i k h=>kY g0 h) ?_ (a - d)]
 ·rw[show b+(d - j)=b+d - j by walk_at"o"]
  exact Pm.rfl'
 ·intro x hx k hk
  rcases List.mem_append.mp hx with z|z
  ·obtain⟨i,hi,rfl⟩:=ke z
   exact kY g0 (by walk_at"o")
  ·rcases List.mem_append.mp z with z|z
   ·obtain⟨i,hi,rfl⟩:=ke z
    exact kY r0 (by walk_at"o")
   ·exact ue z (by walk_at"o")
theorem wF(x:Int):x ^ 1=x:=by rw[Int.pow_succ,Int.pow_zero,Int.one_mul]
theorem CA{f g q r:Nat->Int}{a b k:Nat}{c:Int}(ab:b<=a)(hb:1<=b)(hk:k<b)(hg:g b=c)(hc:c ≠ 0)(g0:∀ k,b<k->g k=0)(r0:∀ k,b<=k->r k=0)(e:∀ k,c ^ (a - b+1)*f k=cv q g (a - b+1) k+r k) :
  Pm (SR f g a b (b - 1) k) (r k):=by
 refine Pm.of_mul (a:=c ^ (a - b+1)) ?_ (Int.pow_ne_zero hc)
 have s:=yX (j:=b - 1) (k:=k) (q:=q) (g:=g) (f:=f) (γ:=c ^ (a - b+1)) (β:=1) ab (by walk_at"o") (r:=r) (fun k=>by rw[e k];walk_at"o")
 rw[show b - (b - 1)=1 by walk_at"o",wF,wF,Int.one_mul] at s
 rw[s,show a+b - (b - 1)=b+0+(a - b+1) by walk_at"o",show a - (b - 1)=a - b+1 by walk_at"o"]
 have p:(st (sh r) 0 1 ++ (st (sh g) 0 (a - b+1) ++ Ej (b - 1) k)).Perm (st (sh g) 0 (a - b+1) ++ (sh r 0 :: Ej (b - 1) k)):=by
  show (sh r (0+0) :: (st (sh g) 0 (a - b+1) ++ Ej (b - 1) k)).Perm _
  exact List.perm_middle.symm
 refine (qK p).trans ?_
 rw[jh (d0:=b) (c:=c) (fun i=>by rw[tT];exact hg) (fun i k h=>kY g0 h) ?_ (a - b+1)]
 ·refine Pm.mul ?_ _
  have d:=Ar (j:=b - 1) (k:=k) (R:=sh r 0) (by walk_at"o")
  rw[show b - 1+1=b+0 by walk_at"o"] at d
  refine d.trans (.inl ?_)
  show sh r 0 k=r k
  unfold sh
  rw[if_pos (by walk_at"o"),Nat.sub_zero]
 ·intro x hx m hm
  rcases List.mem_cons.mp hx with rfl|z
  ·unfold sh
   rw[if_pos (by walk_at"o")]
   exact r0 _ (by walk_at"o")
  ·exact ue z (by walk_at"o")
theorem Bb{f g:Nat->Int}{a b:Nat}{c:Int}(ab:b<a)(hg:g b=c)(g0:∀ k,b<k->g k=0):Pm (SR f g a b b b) (c ^ (a - b)):=by
 unfold SR
 rw[show b - b=0 by walk_at"o"]
 show Pm (dt (a+b - b) (st (sh g) 0 (a - b) ++ Ej b b)) _
 obtain⟨n,hn⟩ : ∃ n,a - b=n+1:=⟨a - b - 1,by walk_at"o"⟩
 have s:=uc (sh g) 0 1 n
 rw[show 1+n=n+1 by walk_at"o"] at s
 rw[hn,s,show a+b - b=b+1+n by walk_at"o",List.append_assoc,jh (d0:=b) (lo:=1) (c:=c) (fun i=>by rw[tT];exact hg) (fun i k h=>kY g0 h) ?_ n]
 ·rw[Int.pow_succ]
  refine Pm.mul ?_ _
  have d:=Ar (j:=b) (k:=b) (R:=sh g 0) (by walk_at"o")
  have e:sh g 0 b=c:=by
   unfold sh
   rw[if_pos (by walk_at"o"),Nat.sub_zero,hg]
  rw[e] at d
  exact d
 ·intro x hx m hm
  rcases List.mem_append.mp hx with z|z
  ·obtain⟨i,hi,rfl⟩:=ke z
   exact kY g0 (by walk_at"o")
  ·exact ue z (by walk_at"o")
theorem yI{M C:Nat}(hM:1<=M*C):∀ {rows:List (Nat->Int)},(∀ r ∈ rows,∀ i,(r i).natAbs<=C) -> ∀ l,(dw M rows l).natAbs<=(M*C) ^ rows.length
 | [],_,l=>by
  show (tO l).natAbs<=1
  unfold tO
  split <;> decide
 | r :: rs,h,l=>by
  have ih:=yI hM (fun x hx=>h x (List.mem_cons_of_mem _ hx))
  have:=nD (h r List.mem_cons_self) M (dw M rs) l ih
  show (wg M r (dw M rs) l).natAbs<=(M*C) ^ (rs.length+1)
  rw[Nat.pow_succ,Nat.mul_comm _ (M*C),Nat.mul_assoc]
  exact this
theorem qB{g:Nat->Nat->Int}{lo:Nat}:∀ n,(st g lo n).length=n
 | 0=>rfl
 | n+1=>by
  show (st g lo n).length+1=n+1
  rw[qB n]
theorem yj{j k:Nat}(h:k<=j):(Ej j k).length=j:=by
 have:=(uZ h).length_eq
 rw[qB] at this
 simp at this
 exact this
theorem za{f:Nat->Int}{C:Nat}(h:∀ i,(f i).natAbs<=C)(i k:Nat):(sh f i k).natAbs<=C:=by
 unfold sh
 split
 ·exact h _
 ·exact Nat.zero_le _
end L2
namespace L2
open PySem
theorem GI(a:Int)(m n:Nat):a ^ (m+n)=a ^ m*a ^ n:=Int.pow_add a m n
theorem imp(a b:Int)(n:Nat):(a*b) ^ n=a ^ n*b ^ n:=Int.mul_pow
theorem GO(a:Int)(m n:Nat):(a ^ m) ^ n=a ^ (m*n):=Int.pow_mul.symm
theorem G2{h h' c:Int}{e m:Nat}(H:h'*h ^ e=c ^ (e+1)):h ^ ((e+1)*(m+1))*c ^ (e+1+(m+1))*h' ^ m=c ^ ((e+2)*(m+1))*h ^ (e+1+m):=by
 have k:h' ^ m*h ^ (e*m)=c ^ ((e+1)*m):=by rw[<- GO,<- imp,H,GO]
 have e1:(e+1)*(m+1)=e*m+(e+1+m):=by simp only[Nat.mul_add,Nat.add_mul];walk_at"o"
 have e2:(e+2)*(m+1)=(e+1)*m+(e+1+(m+1)):=by simp only[Nat.mul_add,Nat.add_mul];walk_at"o"
 rw[e1,e2,GI h,GI c ((e+1)*m),<- k]
 generalize h ^ (e*m)=u
 generalize h ^ (e+1+m)=v
 generalize c ^ (e+1+(m+1))=w
 generalize h' ^ m=z
 grind
structure pk (S1:Nat->Nat->Int)(F G:Nat->Int)(A B:Nat)(x h:Int):Prop where
 ba:B<=A
 x0:x ≠ 0
 h0:h ≠ 0
 one:A=B->h=1
 main:∀ j k,j<=B->k<=j->Pm (SR F G A B j k) (x ^ (B - j)*(h ^ (A - j - 1)*S1 j k))
theorem pk.first{F G:Nat->Int}{A B:Nat}(h:B<=A):pk (SR F G A B) F G A B 1 1:=⟨h,by decide,by decide,fun _=>rfl,fun j k _ _=>.inl (by rw[Int.one_pow,Int.one_pow,Int.one_mul,Int.one_mul])⟩
section
variable {S1:Nat->Nat->Int}{F G q R r:Nat->Int}{A B d:Nat}{x h c h':Int}
theorem pk.rest(I:pk S1 F G A B x h)(hg:G B=c)(hc:c ≠ 0)(g0:∀ k,B<k->G k=0)(r0:∀ k,B<=k->R k=0)(e:∀ k,c ^ (A - B+1)*F k=cv q G (A - B+1) k+R k)(k:Nat)(hk:k<B):Pm (R k) (x*h ^ (A - B)*S1 (B - 1) k):=by
 have s:=(CA I.ba (by walk_at"o") hk hg hc g0 r0 e).symm.trans (I.main (B - 1) k (by walk_at"o") (by walk_at"o"))
 rw[show B - (B - 1)=1 by walk_at"o",wF,show A - (B - 1) - 1=A - B by have:=I.ba;walk_at"o",<- Int.mul_assoc] at s
 exact s
theorem pk.high(I:pk S1 F G A B x h)(hg:G B=c)(g0:∀ k,B<k->G k=0)(ab:B<A):Pm (c ^ (A - B)) (h ^ (A - B - 1)*S1 B B):=by
 have s:=(Bb (f:=F) ab hg g0).symm.trans (I.main B B (by walk_at"o") (by walk_at"o"))
 rw[show B - B=0 by walk_at"o",Int.pow_zero,Int.one_mul] at s
 exact s
theorem pk.step(I:pk S1 F G A B x h)(hg:G B=c)(hc:c ≠ 0)(g0:∀ k,B<k->G k=0)(e:∀ k,c ^ (A - B+1)*F k=cv q G (A - B+1) k+x*h ^ (A - B)*r k)(r0:∀ k,d<k->r k=0)(hd:d<B)(n0:h' ≠ 0)(hh:A=B/\h'=h\/B<A/\h'*h ^ (A - B - 1)=c ^ (A - B)):pk S1 G r B d c h':=by
 refine⟨by walk_at"o",hc,n0,fun z=>by walk_at"o",fun j k hj hk=>?_⟩
 have ab:=I.ba
 have s:=Cu (k:=k) I.ba hd hj hg g0 r0 e
 have m:=(I.main j k (by walk_at"o") hk).mul ((c ^ (A - B+1)) ^ (B - j))
 have p:=s.symm.trans m
 refine Pm.of_mul (a:=(x*h ^ (A - B)) ^ (B - j)*c ^ (A - d)) ?_ (Int.mul_ne_zero (Int.pow_ne_zero (Int.mul_ne_zero I.x0 (Int.pow_ne_zero I.h0))) (Int.pow_ne_zero hc))
 rw[Int.mul_assoc]
 refine p.trans (.inl ?_)
 obtain⟨n,hn⟩ : ∃ n,B - j=n+1:=⟨B - j - 1,by walk_at"o"⟩
 rw[show B - j - 1=n by walk_at"o",hn,imp,GO,GO,show A - j - 1=A - B+n by walk_at"o"]
 have key:h ^ ((A - B)*(n+1))*c ^ (A - d)*(c ^ (d - j)*h' ^ n)=c ^ ((A - B+1)*(n+1))*h ^ (A - B+n):=by
  have e1:c ^ (A - d)*c ^ (d - j)=c ^ (A - B+(n+1)):=by rw[<- GI];congr 1;walk_at"o"
  rw[Int.mul_assoc,<- Int.mul_assoc (c ^ (A - d)),e1,<- Int.mul_assoc]
  rcases hh with ⟨z1,z2⟩|⟨z1,z2⟩
  ·have h1:=I.one z1
   rw[z2,h1,Int.one_pow,Int.one_pow,Int.one_pow,show A - B=0 by walk_at"o",Int.one_mul,Int.mul_one,Int.mul_one]
   congr 1
   walk_at"o"
  ·obtain⟨e',he⟩ : ∃ e',A - B=e'+1:=⟨A - B - 1,by walk_at"o"⟩
   rw[show A - B - 1=e' by walk_at"o",he] at z2
   rw[he]
   exact G2 z2
 generalize h ^ ((A - B)*(n+1))=u at *
 generalize h ^ (A - B+n)=v at *
 generalize c ^ ((A - B+1)*(n+1))=w at *
 generalize c ^ (A - d)=y at *
 generalize c ^ (d - j)=y' at *
 generalize h' ^ n=z at *
 generalize x ^ (n+1)=t at *
 generalize S1 j k=S at *
 have k2:t*(u*y*(y'*z))*S=t*(w*v)*S:=by rw[key]
 grind
end
end L2
namespace L2
open PySem
theorem sB{f f' g:Nat->Rat}:∀ n,(∀ i,i<n->f i=f' i) -> ∀ k,pr f g n k=pr f' g n k
 | 0,_,_=>rfl
 | n+1,h,k=>by
  show pr f g n k+(if n<=k then f n*g (k - n) else 0)=pr f' g n k+(if n<=k then f' n*g (k - n) else 0)
  rw[sB n (fun i hi=>h i (by walk_at"o")) k,h n (by walk_at"o")]
theorem Gb{f g:Nat->Rat}:∀ n,(∀ i,i<n->f i=0) -> ∀ k,pr f g n k=0
 | 0,_,_=>rfl
 | n+1,h,k=>by
  show pr f g n k+(if n<=k then f n*g (k - n) else 0)=0
  rw[Gb n (fun i hi=>h i (by walk_at"o")) k,h n (by walk_at"o")]
  split <;> grind
end L2
namespace L2
open PySem
theorem C1{q g:Nat->Int}{k:Nat}:∀ n,cv q g n k=pz q g n k
 | 0=>rfl
 | n+1=>by
  show cv q g n k+q n*sh g n k=pz q g n k+if n<=k then q n*g (k - n) else 0
  rw[C1 n]
  unfold sh
  split
  ·rfl
  ·rw[Int.mul_zero]
theorem Bt.pm{n:Nat}{x y:Int}(h:Bt n x)(p:Pm y x):Bt n y:=by
 unfold Bt at *
 rcases p with e|e <;> walk_at"o"
theorem Bt.pow{b:Nat}{x:Int}(h:Bt b x):∀ n,1<=n->Bt (b*n) (x ^ n)
 | 0,h0=>by walk_at"o"
 | 1,_=>by rw[wF,Nat.mul_one];exact h
 | n+2,_=>by
  rw[Int.pow_succ,Nat.mul_succ]
  exact (Bt.pow h (n+1) (by walk_at"o")).mul h
theorem Bt.pow1{b:Nat}{x:Int}(h:Bt b x)(n:Nat):Bt (b*n+1) (x ^ n):=by
 cases n with
 | zero=>rw[Int.pow_zero];exact Bt.mono (m:=1) (by decide) (by walk_at"o")
 | succ n=>exact (Bt.pow h (n+1) (by walk_at"o")).mono (by walk_at"o")
section
variable {Z:Nat}{S1:Nat->Nat->Int}{F G q R:Nat->Int}{A B:Nat}{x h:Int}
end
theorem Fg{q g:Nat->Int}{n k:Nat}:((pz q g n k:Int):Rat)=pr (fun i=>(q i:Rat)) (fun i=>(g i:Rat)) n k:=by
 rw[m7 (F:=fun i=>(q i:Rat)) (G:=fun i=>(g i:Rat)) (c:=1) (d:=1) (fun i=>by grind) (fun i=>by grind)]
 grind
end L2
namespace L2
open PySem
def kU(ns:List Int)(k:Nat):Rat:=((nz ns k:Int):Rat)
theorem BU{l:List Int}{k:Nat}(h:l.length<=k):kU l k=0:=by
 show ((nz l k:Int):Rat)=0
 rw[cF h]
 rfl
end L2
namespace L2
open PySem
end L2
namespace L2
open PySem PySem.Spec PyProof.Rows
theorem zQ{X:Cx}{k:Nat}{env:Env}{l:List Env}(N:oX X.prog X.base)(hr:ge k X.A)(hst:X.stack=env :: l)(hgen:env.scope.isGenerator=false)(hco:env.scope.isCoroutine=false)(hb:env.builtins=builtinsNs)(hg:env.globals=mainGlobals) :
  eK X (binaryOp .FloorDiv) (rI xy fun i j=>.int (i.fdiv j)):=by
 intro pins s σ H x y v u Q I rx ry h
 obtain⟨i,j,rfl,rfl,hc,q⟩:=h
 obtain⟨t,rfl⟩:=rx
 obtain⟨t',rfl⟩:=ry
 refine floordiv_int hc ⟨.int (i.fdiv j),H,I.tok _,⟨_,rfl⟩,q⟩ (.inr ?_)
 refine PySem.PylongRoom.of I.nolimit ?_ (PySem.SeerAt.of (N.seer.keeps I.bk) N.tree (I.ok.frames.trans (congrArg some hst)) hgen hco hb hg)
 have:=hr.dp
 show X.A.depth+100<recursionLimit
 walk_at"o"
theorem A8{f g:Nat->Int}{a b j k B:Nat}(ha:a<=8)(hb:b<=a)(jb:j<=b)(kj:k<=j)(hB:1<=B)(hf:∀ i,(f i).natAbs<2 ^ B)(hg:∀ i,(g i).natAbs<2 ^ B):(SR f g a b j k).natAbs<2 ^ (65+16*B):=by
 by_cases h0:a+b - j=0
 ·have:SR f g a b j k=1:=by
   unfold SR
   rw[h0,show b - j=0 by walk_at"o",show a - j=0 by walk_at"o"]
   have:Ej j k=[]:=List.length_eq_zero_iff.mp (by rw[yj kj];walk_at"o")
   rw[show st (sh f) 0 0 ++ (st (sh g) 0 0 ++ Ej j k)=Ej j k from rfl,this]
   rfl
  rw[this]
  exact Nat.one_lt_two_pow (by walk_at"o")
 obtain⟨C,hC⟩ : ∃ C,C=2 ^ B:=⟨_,rfl⟩
 have c1:1<=C:=hC ▸ Nat.one_le_two_pow
 have r:=yI (M:=a+b - j) (C:=C) (rows:=st (sh f) 0 (b - j) ++ (st (sh g) 0 (a - j) ++ Ej j k)) (Nat.mul_pos (by walk_at"o") c1) (fun r hr i=>by
  rcases List.mem_append.mp hr with z|z
  ·obtain⟨i',_,rfl⟩:=ke z
   exact za (fun i=>by have:=hf i;walk_at"o") _ _
  ·rcases List.mem_append.mp z with z|z
   ·obtain⟨i',_,rfl⟩:=ke z
    exact za (fun i=>by have:=hg i;walk_at"o") _ _
   ·obtain⟨i',_,rfl⟩:=List.mem_map.mp z
    unfold jQ
    split <;> simp <;> walk_at"o") (uT (a+b - j))
 have hl:(st (sh f) 0 (b - j) ++ (st (sh g) 0 (a - j) ++ Ej j k)).length=a+b - j:=by
  rw[List.length_append,List.length_append,qB,qB,yj kj]
  walk_at"o"
 rw[hl] at r
 have e1:((a+b - j)*C) ^ (a+b - j)<=(16*C) ^ 16:=Nat.le_trans (Nat.pow_le_pow_left (Nat.mul_le_mul_right _ (by walk_at"o")) _) (Nat.pow_le_pow_right (by walk_at"o") (by walk_at"o"))
 have e2:(16*C) ^ 16<2 ^ (65+16*B):=by
  rw[Nat.mul_pow,hC,<- Nat.pow_mul,Nat.pow_add,Nat.mul_comm B 16]
  exact Nat.mul_lt_mul_of_pos_right (by decide) Nat.one_le_two_pow
 unfold SR dt
 walk_at"o"
structure uL (Z:Nat)(S1:Nat->Nat->Int)(F G:Nat->Int)(A B:Nat)(x h:Int):Prop where
 inv:pk S1 F G A B x h
 a6:A<=8
 bS:∀ j k,j<=B->k<=j->Bt Z (S1 j k)
 bF:∀ k,Bt Z (F k)
 bG:∀ k,Bt Z (G k)
 bx:Bt Z x
 bh:Bt Z h
 g1:G B ≠ 0
 g0:∀ k,B<k->G k=0
 f0:∀ k,A<k->F k=0
theorem uL.first{F G:Nat->Int}{A B b:Nat}(h:B<=A)(ha:A<=8)(hb:1<=b)(bF:∀ k,Bt b (F k))(bG:∀ k,Bt b (G k))(g1:G B ≠ 0)(g0:∀ k,B<k->G k=0)(f0:∀ k,A<k->F k=0):uL (65+16*b) (SR F G A B) F G A B 1 1 :=
 ⟨.first h,ha,fun j k hj hk=>A8 ha h hj hk hb bF bG,fun k=>(bF k).mono (by walk_at"o"),fun k=>(bG k).mono (by walk_at"o"),Bt.mono (m:=1) (by decide) (by walk_at"o"),Bt.mono (m:=1) (by decide) (by walk_at"o"),g1,g0,f0⟩
section
variable {Z:Nat}{S1:Nat->Nat->Int}{F G q R:Nat->Int}{A B:Nat}{x h:Int}
theorem uL.rest(I:uL Z S1 F G A B x h)(r0:∀ k,B<=k->R k=0)(e:∀ k,G B ^ (A - B+1)*F k=pz q G (A - B+1) k+R k) :
  ∃ (r:Nat->Int)(h':Int),(∀ k,R k=x*h ^ (A - B)*r k)/\(∀ k,Bt Z (r k))/\(∀ k,B<=k->r k=0)/\h' ≠ 0/\Bt Z h'/\(A=B/\h'=h\/B<A/\h'*h ^ (A - B - 1)=G B ^ (A - B)) /\
   ∀ d,d<B->r d ≠ 0->(∀ k,d<k->r k=0)->uL Z S1 G r B d (G B) h':=by
 have e':∀ k,G B ^ (A - B+1)*F k=cv q G (A - B+1) k+R k:=fun k=>by rw[C1];exact e k
 have dv:∀ k,∃ y:Int,R k=x*h ^ (A - B)*y/\Bt Z y/\(B<=k->y=0):=fun k=>by
  by_cases hk:k<B
  ·have p:=I.inv.rest rfl I.g1 I.g0 r0 e' k hk
   have b:=I.bS (B - 1) k (by walk_at"o") (by walk_at"o")
   rcases p with z|z
   ·exact⟨_,z,b,fun _=>by walk_at"o"⟩
   ·exact⟨- S1 (B - 1) k,by rw[z,Int.mul_neg],b.pm (.inr rfl),fun _=>by walk_at"o"⟩
  ·exact⟨0,by rw[r0 k (by walk_at"o"),Int.mul_zero],jp,fun _=>rfl⟩
 have hi:∃ h':Int,h' ≠ 0/\Bt Z h'/\(A=B/\h'=h\/B<A/\h'*h ^ (A - B - 1)=G B ^ (A - B)):=by
  by_cases ab:A=B
  ·exact⟨h,I.inv.h0,I.bh,.inl ⟨ab,rfl⟩⟩
  ·have ba:=I.inv.ba
   have p:=I.inv.high rfl I.g0 (by walk_at"o")
   have b:=I.bS B B (by walk_at"o") (by walk_at"o")
   have nz:G B ^ (A - B) ≠ 0:=Int.pow_ne_zero I.g1
   rcases p with z|z
   ·exact⟨S1 B B,fun y=>nz (by rw[z,y,Int.mul_zero]),b,.inr ⟨by walk_at"o",by rw[z,Int.mul_comm]⟩⟩
   ·exact⟨- S1 B B,fun y=>nz (by rw[z,show S1 B B=0 by walk_at"o",Int.mul_zero];rfl),b.pm (.inr rfl),.inr ⟨by walk_at"o",by rw[z,Int.neg_mul,Int.mul_comm]⟩⟩
 obtain⟨h',n0,bh',hh⟩:=hi
 refine⟨fun k=>(dv k).choose,h',fun k=>(dv k).choose_spec.1,fun k=>(dv k).choose_spec.2.1,fun k hk=>(dv k).choose_spec.2.2 hk,n0,bh',hh,fun d hd rd rz=>?_⟩
 refine⟨I.inv.step (q:=q) rfl I.g1 I.g0 (fun k=>?_) rz hd n0 hh,Nat.le_trans I.inv.ba I.a6,fun j k hj hk=>I.bS j k (by walk_at"o") hk,I.bG,fun k=>(dv k).choose_spec.2.1,I.bG B,bh',rd,rz,I.g0⟩
 rw[<- (dv k).choose_spec.1]
 exact e' k
end
def je(b:Nat)(ns:List Int):Prop:=ns.length<=9/\(∀ x ∈ ns,Bt b x)/\(ns ≠ []->nz ns (ns.length - 1) ≠ 0)
theorem je.up{b c:Nat}{l:List Int}(h:je b l)(bc:b<=c):je c l:=⟨h.1,fun x hx=>(h.2.1 x hx).mono bc,h.2.2⟩
end L2
namespace L2
open PySem PySem.Spec PyProof.Rows
theorem jz{q:List (Int × Int)}(h:aL q)(n:q ≠ []):cf q (q.length - 1) ≠ 0:=by
 have hl:0<q.length:=List.length_pos_iff.mpr n
 have e:q[q.length - 1]? = some (q[q.length - 1]'(by walk_at"o")):=List.getElem?_eq_getElem (by walk_at"o")
 rw[bJ e]
 intro z
 refine h.2 _ (by rw[List.getLast?_eq_getElem?,e]) ?_
 exact (iy (h.1 _ (List.getElem_mem _)).ne).mp z
def ab(a b:Rat):List (List Int × List Int × Int × Int)->Nat->Rat × Rat
 | _,0=>(a,b)
 | [],_+1=>(a,b)
 | row :: rows,n+1=>ab b (-(a*(row.2.2.1:Rat)) / (row.2.2.2:Rat)) rows n
theorem Pb.slope{a:Nat}{fs gs:List (Int × Int)}(h:Pb a (cf fs))(hl:fs.length<=9)(e:∀ k,cf gs k=((k+1:Nat):Int)*cf fs (k+1)):Pb (a+4) (cf gs):=by
 obtain⟨D,h0,h1,h2⟩:=h
 refine⟨D,h0,h1.mono (by walk_at"o"),fun k=>?_⟩
 by_cases hk:k+1<16
 ·obtain⟨n,e1,b1⟩:=h2 (k+1)
  refine⟨((k+1:Nat):Int)*n,?_,?_⟩
  ·rw[e k,e1,Rat.intCast_mul,Rat.div_def,Rat.div_def]
   grind
  ·have:Bt 4 ((k+1:Nat):Int):=by
    show (((k+1:Nat):Int)).natAbs<2 ^ 4
    walk_at"o"
   exact (this.mul b1).mono (by walk_at"o")
 ·refine⟨0,?_,jp⟩
  rw[e k,cC (by walk_at"o")]
  have c0:((0:Int):Rat)=0:=rfl
  rw[c0]
  have d:=ar h0
  grind
end L2
namespace L2
open PySem PySem.Spec PyProof.Rows
theorem sW{X:Cx}{k:Nat}{env:Env}{l:List Env}(N:oX X.prog X.base)(hr:ge k X.A)(hst:X.stack=env :: l)(hgen:env.scope.isGenerator=false)(hco:env.scope.isCoroutine=false)(hb:env.builtins=builtinsNs)(hg:env.globals=mainGlobals) :
  eK X (binaryOp .FloorDiv) (rI xy fun i j=>.int (i.fdiv j)):=by
 intro pins s σ H x y v u Q I rx ry h
 obtain⟨i,j,rfl,rfl,hc,q⟩:=h
 obtain⟨t,rfl⟩:=rx
 obtain⟨t',rfl⟩:=ry
 refine floordiv_int hc ⟨.int (i.fdiv j),H,I.tok _,⟨_,rfl⟩,q⟩ (.inr ?_)
 refine PySem.PylongRoom.of I.nolimit ?_ (PySem.SeerAt.of (N.seer.keeps I.bk) N.tree (I.ok.frames.trans (congrArg some hst)) hgen hco hb hg)
 have:=hr.dp
 show X.A.depth+100<recursionLimit
 walk_at"o"
def yY(K:W.Frag)(ta:TE):TE:=fun σ H Q=>ta σ H fun x H1=>∃ k,rJ K x H1 k/\Q (.bl (!k)) H1
theorem BE{X:Cx}{a:Expr}{ta:TE}{pos:Pos}(ha:PE X a ta):PE X (.UnaryOp .Not a pos) (yY X.K ta):=by
 intro pins s σ H Q I h
 refine UnaryOp_ (cQ (ha pins s σ H _ I h) fun v s1 ⟨x,H1,I1,r1,q1⟩=>?_)
 exact not_of (cQ (uG pins s1 σ H1 x v (fun k H'=>Q (.bl (!k)) H') I1 r1 q1) fun b s2 ⟨H2,I2,q2⟩=>⟨.bl (!b),H2,I2,rfl,q2⟩)
theorem wz{X:Cx}{a:Expr}{ta:TE}{pos:Pos}(ha:QE X a ta):QE X (.UnaryOp .Not a pos) (yY X.K ta):=⟨BE (ha:=ha.h)⟩
theorem EO{x y:Int × Int}(z:fr x=fr y):x=y:=by
 unfold fr at z
 injection z with z
 injection z with z1 z2
 injection z1 with z1
 injection z2 with z2 _
 injection z2 with z2
 exact Prod.ext z1 z2
theorem gQ{fs gs:List (Int × Int)}(e:D.lst (fs.map fr) = .lst (gs.map fr)):fs=gs:=by
 injection e with e
 exact List.map_inj_right (fun _ _ z=>EO z) |>.mp e
section
variable {K:W.Frag}{σ:St}{H0:Hp}{t u:TE}{ta:TA}{b c:Bool}{m n:Nat}{fs gs:List (Int × Int)}
end
theorem rE{d:D}(h:d.poly=true):∃ fs,d = .lst (fs.map fr)/\aL fs:=by
 cases d with
 | lst ds =>
  have h':(ds.all D.frac && j7 ds)=true:=h
  rw[Bool.and_eq_true] at h'
  obtain⟨h1,h2⟩:=h'
  have key:∀ ds:List D,ds.all D.frac=true -> ∃ fs:List (Int × Int),ds=fs.map fr /\ ∀ q ∈ fs,Fq q:=by
   intro ds
   induction ds with
   | nil=>exact fun _=>⟨[],rfl,by simp⟩
   | cons d ds ih =>
    intro z
    rw[List.all_cons,Bool.and_eq_true] at z
    obtain⟨q,rfl,fq⟩:=D.frac_fr z.1
    obtain⟨fs,rfl,hf⟩:=ih z.2
    refine⟨q :: fs,rfl,fun p hp=>?_⟩
    rcases List.mem_cons.mp hp with rfl|y
    ·exact fq
    ·exact hf p y
  obtain⟨fs,rfl,hf⟩:=key ds h1
  refine⟨fs,rfl,hf,fun q hq z=>?_⟩
  have hq':(fs.map fr).getLast? = some (fr q):=by rw[List.getLast?_map,hq];rfl
  have e:=lY hq'
  rw[h2] at e
  have fq:=hf q (List.mem_of_getLast? hq)
  have:q=(0,1):=(mX fq).mpr z
  rw[decide_eq_true this] at e
  cases e
 | _=>unfold D.poly at h;cases h
end L2
namespace L2
open PySem
section
variable {S u u' v v':Nat->Rat}{m n:Nat}
theorem pL{m':Nat}(h:∀ i,m<=i->u i=0)(hm:m<=m'):ip S u v m' n=ip S u v m n:=by
 obtain⟨d,rfl⟩ : ∃ d,m'=m+d:=⟨m' - m,by walk_at"o"⟩
 exact gv (fun i hi=>by rw[h i hi];grind) d
theorem tL:ip S (fun i=>u i+u' i) v m n=ip S u v m n+ip S u' v m n:=og _
theorem uk{c:Rat}:ip S (fun i=>c*u i) v m n=c*ip S u v m n:=nX _
theorem Es:ip S u (fun i=>v i+v' i) m n=ip S u v m n+ip S u v' m n:=by
 rw[eQ,tL,eQ,eQ (u:=v')]
theorem EF{c:Rat}:ip S u (fun i=>c*v i) m n=c*ip S u v m n:=by
 rw[eQ,uk,eQ]
theorem rS(h:∀ i,u i=u' i):ip S u v m n=ip S u' v m n:=by rw[show u=u' from funext h]
theorem sZ(h:∀ i,u i=0):ip S u v m n=0:=aZ m fun i _=>by rw[h i];grind
end
section
variable {W:Nat->Int}{B:Int}{S:Nat->Rat}
theorem qm{k n m:Nat}{v:Nat->Rat}(hD:Dk W k ≠ 0)(hB:B ≠ 0)(hS:∀ i,((W i:Int):Rat)=S i*(B:Rat))(hm:k+1<=m):ip S v (Pk W k) n m=aG v (fun i=>((Lq W k i:Int):Rat) / (((Dk W k:Int):Rat)*(B:Rat))) n:=DW hD hB (fun _=>rfl) hS hm n
theorem Gp(c:Rat):0<=c*c:=nr c
theorem pd(hB:0<B)(hS:∀ i,((W i:Int):Rat)=S i*(B:Rat)):∀ m,(∀ i,i<=m->0<Dk W i) -> ∀ r:Nat->Rat,(∀ i,m<=i->r i=0)->0<=ip S r r m m/\(ip S r r m m=0 -> ∀ i,r i=0)
 | 0,_,r,hr=>⟨Rat.le_refl,fun _ i=>hr i (Nat.zero_le _)⟩
 | m+1,hD,r,hr=>by
  have dm:=hD m (by walk_at"o")
  have dn:Dk W m ≠ 0:=by walk_at"o"
  have d1:=hD (m+1) (Nat.le_refl _)
  have bn:B ≠ 0:=by walk_at"o"
  obtain⟨r',hr'⟩ : ∃ r':Nat->Rat,∀ i,r' i=r i + -(r m)*Pk W m i:=⟨_,fun _=>rfl⟩
  have z':∀ i,m<=i->r' i=0:=fun i hi=>by
   rw[hr']
   by_cases e:i=m
   ·rw[e,oI dn]
    grind
   ·rw[iW (by walk_at"o"),hr i (by walk_at"o")]
    grind
  obtain⟨p1,p2⟩:=pd hB hS m (fun i hi=>hD i (by walk_at"o")) r' z'
  have er:∀ i,r i=r' i+r m*Pk W m i:=fun i=>by rw[hr'];grind
  obtain⟨c,hc⟩ : ∃ c,c=r m:=⟨_,rfl⟩
  obtain⟨h,hh⟩ : ∃ h:Rat,h=((Dk W (m+1):Int):Rat) / (((Dk W m:Int):Rat)*(B:Rat)):=⟨_,rfl⟩
  have h0:0<h:=by
   rw[hh,Rat.div_def]
   refine Rat.mul_pos (by exact_mod_cast d1) (Rat.inv_pos.mpr (Rat.mul_pos (by exact_mod_cast dm) (by exact_mod_cast hB)))
  have e1:ip S r' (Pk W m) (m+1) (m+1)=0:=by
   rw[qm dn bn hS (Nat.le_refl _)]
   refine aZ _ fun i hi=>?_
   by_cases e:i=m
   ·rw[z' i (by walk_at"o")]
    grind
   ·rw[iP (by walk_at"o")]
    have z0:((0:Int):Rat)=0:=rfl
    rw[z0]
    grind
  have e2:ip S r (Pk W m) (m+1) (m+1)=c*h:=by
   rw[qm dn bn hS (Nat.le_refl _)]
   show aG r _ m+r m*(((Lq W m m:Int):Rat) / _)=_
   rw[aZ m fun i hi=>by rw[iP hi,show ((0:Int):Rat)=0 from rfl];grind,fP,hc,hh]
   grind
  have e3:ip S r r (m+1) (m+1)=ip S r' r' m m+c*c*h:=by
   have a1:ip S r r (m+1) (m+1)=ip S r' r (m+1) (m+1)+c*ip S (Pk W m) r (m+1) (m+1):=by
    rw[rS (u':=fun i=>r' i+c*Pk W m i) fun i=>by rw[er i,hc],tL,uk]
   have a2:ip S r' r (m+1) (m+1)=ip S r' r' (m+1) (m+1)+c*ip S r' (Pk W m) (m+1) (m+1):=by
    have er':r=fun i=>r' i+c*Pk W m i:=funext fun i=>by rw[er i,hc]
    have:ip S r' r (m+1) (m+1)=ip S r' (fun i=>r' i+c*Pk W m i) (m+1) (m+1):=by rw[<- er']
    rw[this,Es,EF]
   rw[a1,a2,e1,eQ (u:=Pk W m),e2,pL z' (by walk_at"o"),eQ,pL z' (by walk_at"o")]
   grind
  have sq:=Rat.mul_nonneg (Gp c) (Rat.le_of_lt h0)
  refine⟨by rw[e3];grind,fun e=>?_⟩
  rw[e3] at e
  have q1:ip S r' r' m m=0:=by grind
  have q2:c*c*h=0:=by grind
  have c0:c=0:=by
   have hn:h ≠ 0:=by grind
   have:c*c=0:=by grind
   grind
  intro i
  rw[er i,p2 q1 i,<- hc,c0]
  grind
theorem Hv{m n:Nat}(hB:B ≠ 0)(hS:∀ i,((W i:Int):Rat)=S i*(B:Rat))(hD:Dk W m ≠ 0)(ng:∀ i,i+(m+1)<=n->Lq W m i=0):∀ (L:Nat)(f:Nat->Rat),(∀ i,L<=i->f i=0) -> ∃ r:Nat->Rat,(∀ i,m<=i->r i=0) /\ ∀ (v:Nat->Rat)(N:Nat),L+N<=n+1->ip S f v L N=ip S r v m N
 | 0,f,hf=>⟨fun _=>0,fun _ _=>rfl,fun v N _=>by rw[sZ fun i=>hf i (Nat.zero_le _),sZ fun _=>rfl]⟩
 | L+1,f,hf=>by
  by_cases hL:L<m
  ·exact⟨f,fun i hi=>hf i (by walk_at"o"),fun v N _=>(pL hf (by walk_at"o")).symm⟩
  ·obtain⟨p,hp⟩ : ∃ p:Nat->Rat,∀ i,p i=if L - m<=i then 1*Pk W m (i - (L - m)) else 0:=⟨_,fun _=>rfl⟩
   obtain⟨f',hf'⟩ : ∃ f':Nat->Rat,∀ i,f' i=f i + -(f L)*p i:=⟨_,fun _=>rfl⟩
   have z':∀ i,L<=i->f' i=0:=fun i hi=>by
    rw[hf',hp,if_pos (by walk_at"o")]
    by_cases e:i=L
    ·rw[e,show L - (L - m)=m by walk_at"o",oI hD]
     grind
    ·rw[hf i (by walk_at"o"),iW (by walk_at"o")]
     grind
   obtain⟨r,r0,hr⟩:=Hv hB hS hD ng L f' z'
   refine⟨r,r0,fun v N hN=>?_⟩
   rw[<- hr v N (by walk_at"o"),<- pL (m':=L+1) z' (by walk_at"o")]
   have e1:ip S p v (L+1) N=0:=by
    unfold ip
    rw[show p=fun i=>if L - m<=i then 1*Pk W m (i - (L - m)) else 0 from funext hp,lP,show L+1 - (L - m)=m+1 by walk_at"o"]
    have e2:aG (Pk W m) (fun j=>aG v (fun j_1=>S (L - m+j+j_1)) N) (m+1)=ip (fun i=>S (L - m+i)) (Pk W m) v (m+1) N:=by
     unfold ip
     refine bI _ (fun _ _=>rfl) fun i _=>bI _ (fun _ _=>rfl) fun j _=>?_
     show S (L - m+i+j)=S (L - m+(i+j))
     rw[Nat.add_assoc]
    rw[e2,eQ]
    unfold ip
    rw[aZ N fun j hj=>?_]
    ·grind
    ·have s:=oj (S:=S) (P:=Pk W m) hD hB (fun _=>rfl) hS (L - m+j)
     have e3:aG (Pk W m) (fun i=>S (L - m+(j+i))) (m+1)=((Lq W m (L - m+j):Int):Rat) / (((Dk W m:Int):Rat)*(B:Rat)):=by
      rw[<- s]
      exact bI _ (fun _ _=>rfl) fun i _=>by rw[Nat.add_assoc]
     rw[e3,ng _ (by walk_at"o"),show ((0:Int):Rat)=0 from rfl]
     grind
   have e4:ip S f v (L+1) N=ip S f' v (L+1) N+f L*ip S p v (L+1) N:=by
    rw[rS (u:=f) (u':=fun i=>f' i+f L*p i) fun i=>by rw[hf'];grind,tL,uk]
   rw[e4,e1]
   grind
end
end L2
namespace L2
open PySem PySem.Spec PyProof.Rows
theorem y0{X:Cx}{k:Nat}(N:oX X.prog X.base)(hr:ge k X.A)(hst:X.stack=X.env :: X.outer)(hgen:X.env.scope.isGenerator=false)(hco:X.env.scope.isCoroutine=false) :
  Ci X .FloorDiv (fun x y H Q=>∃ i j,x = .int i/\y = .int j/\xy i j/\Q (.int (i.fdiv j)) H):=by
 intro pins s σ H x y v u Q I r1 r2 h
 obtain⟨i,j,rfl,rfl,m,q⟩:=h
 obtain⟨t,rfl⟩:=r1
 obtain⟨t',rfl⟩:=r2
 refine ifloordiv_int m ⟨.int _,H,I.tok _,⟨_,rfl⟩,q⟩ (.inr ?_)
 refine PySem.PylongRoom.of I.nolimit ?_ (PySem.SeerAt.of (N.seer.keeps I.bk) N.tree (I.ok.frames.trans (congrArg some hst)) hgen hco I.ok.blt I.ok.glob)
 have:=hr.dp
 show X.A.depth+100<recursionLimit
 walk_at"o"
def Bd(n:Nat)(f:Nat->Rat):Prop:=∀ i,n<=i->f i=0
def Tp(d:Nat)(f:Nat->Rat):Prop:=f d ≠ 0/\Bd (d+1) f
theorem Bd.mono{m n:Nat}{f:Nat->Rat}(h:Bd m f)(l:m<=n):Bd n f:=fun i hi=>h i (by walk_at"o")
theorem Bd.add{n:Nat}{f g:Nat->Rat}{c:Rat}(h:Bd n f)(k:Bd n g):Bd n (fun i=>f i+c*g i):=fun i hi=>by
 show f i+c*g i=0
 rw[h i hi,k i hi]
 grind
theorem Bd.tp:∀{n:Nat}{f:Nat->Rat},Bd n f->(∀ i,f i=0) \/ ∃ d,d<n/\Tp d f
 | 0,f,h=>.inl fun i=>h i (Nat.zero_le _)
 | n+1,f,h=>by
  by_cases e:f n=0
  ·rcases Bd.tp (n:=n) (f:=f) (fun i hi=>by
    by_cases z:i=n
    ·rw[z,e]
    ·exact h i (by walk_at"o")) with z|⟨d,hd,t⟩
   ·exact .inl z
   ·exact .inr ⟨d,by walk_at"o",t⟩
  ·exact .inr ⟨n,by walk_at"o",e,h⟩
theorem iE{f:Nat->Rat}(h:∀ i,f i=0)(x:Rat):EV f x=0:=by
 rw[mz (n:=0) (fun k _=>h k) (by decide)]
 rfl
theorem ic{f g:Nat->Rat}{c:Rat}(x:Rat):EV (fun i=>f i+c*g i) x=EV f x+c*EV g x:=by
 have:EV (fun i=>c*g i) x=c*EV g x:=by rw[zt,zt (v:=g),nX]
 rw[ow,this]
theorem Bd.pr{m n:Nat}{f g:Nat->Rat}(hg:Bd n g):Bd (m+n) (fun k=>L2.pr f g m k):=fun k hk=>iz hg _ _ (by walk_at"o")
theorem kd{m n:Nat}{f g:Nat->Rat}(hf:Bd m f)(hg:Bd n g)(h:m+n<=20)(x:Rat):EV (fun k=>pr f g m k) x=EV f x*EV g x:=by
 rw[At hg m h,mz hf (by walk_at"o"),mz hg (by walk_at"o")]
theorem CF{g:Nat->Rat}{d:Nat}(hg:Tp d g):∀ (n:Nat)(f:Nat->Rat),Bd (n+d) f -> ∃ q r:Nat->Rat,Bd n q/\Bd d r /\ ∀ k,f k=pr q g n k+r k
 | 0,f,h=>⟨fun _=>0,f,fun _ _=>rfl,fun i hi=>h i (by walk_at"o"),fun k=>by show f k=0+f k;grind⟩
 | n+1,f,h=>by
  have g0:=hg.1
  obtain⟨c,hc⟩ : ∃ c,c=f (n+d) / g d:=⟨_,rfl⟩
  obtain⟨q,r,bq,br,e⟩:=CF hg n (fun k=>f k - if n<=k then c*g (k - n) else 0) (fun i hi=>by
   show f i - (if n<=i then c*g (i - n) else 0)=0
   rw[if_pos (by walk_at"o")]
   by_cases z:i=n+d
   ·rw[z,Nat.add_sub_cancel_left,hc]
    grind
   ·rw[h i (by walk_at"o"),hg.2 _ (by walk_at"o")]
    grind)
  refine⟨fun i=>if i=n then c else q i,r,fun i hi=>?_,br,fun k=>?_⟩
  ·show (if i=n then c else q i)=0
   rw[if_neg (by walk_at"o"),bq i (by walk_at"o")]
  ·show f k=pr _ g n k+(if n<=k then (if n=n then c else q n)*g (k - n) else 0)+r k
   rw[sB n (f':=q) fun i hi=>if_neg (by walk_at"o"),if_pos rfl]
   have:=e k
   grind
theorem oo{f q e:Nat->Rat}{n d:Nat}(hf:Bd n f)(hn:n<=20)(te:Tp d e)(d6:d<=6)(bq:Bd 13 q)(h:∀ x,EV f x=EV q x*EV e x):Bd (n - d) q/\(n<=d -> ∀ i,f i=0):=by
 have c:∀ k,f k=pr q e 13 k:=ka (hf.mono hn) ((Bd.pr te.2).mono (by walk_at"o")) fun x=>by rw[h x,kd bq te.2 (by walk_at"o")]
 obtain⟨q0,r0,b0,s0,z⟩:=CF te (n - d) f (hf.mono (by walk_at"o"))
 obtain⟨u1,u2⟩:=uK (q:=q) (q':=q0) (r:=fun _=>0) (r':=r0) bq b0 (fun j hj=>te.2 j (by walk_at"o")) te.1 (fun _ _=>rfl) s0 fun k=>by rw[<- z k,c k];grind
 have bq':Bd (n - d) q:=fun i hi=>by rw[u1 i,b0 i hi]
 refine⟨bq',fun hd i=>?_⟩
 have q0':∀ i,q i=0:=fun i=>bq' i (by walk_at"o")
 rw[c i,Gb _ fun j _=>q0' j]
theorem Da{f g q r:Nat->Rat}{n d:Nat}(te:Tp d g)(bq:Bd n q)(h:n+(d+1)<=20)(e:∀ k,f k=pr q g n k+r k)(x:Rat):EV f x=EV q x*EV g x+EV r x:=by
 rw[hZ (g:=fun k=>(fun k=>pr q g n k) k+r k) e,ow,kd bq te.2 h]
theorem jT{n:Nat}{f:Nat->Rat}(h:Bd (n+1) f):Bd n (DF f):=fun i hi=>by
 show (((i+1:Nat):Int):Rat)*f (i+1)=0
 rw[h _ (by walk_at"o")]
 grind
theorem De{f g:Nat->Rat}{c:Rat}(k:Nat):DF (fun i=>f i+c*g i) k=DF f k+c*DF g k:=by
 show (((k+1:Nat):Int):Rat)*(f (k+1)+c*g (k+1))=(((k+1:Nat):Int):Rat)*f (k+1)+c*((((k+1:Nat):Int):Rat)*g (k+1))
 grind
theorem zX{g:Nat->Rat}{m:Nat}(bg:Bd m g):∀ (n:Nat)(f h:Nat->Rat),Bd n f->n+m<=19->Bd 20 h->(∀ x,EV h x=EV f x*EV g x) -> ∀ x,EV (DF h) x=EV (DF f) x*EV g x+EV f x*EV (DF g) x
 | 0,f,h,bf,l,bh,e,x=>by
  have f0:∀ i,f i=0:=fun i=>bf i (Nat.zero_le _)
  have h0:∀ i,h i=0:=ka bh (g:=fun _=>0) (fun _ _=>rfl) fun x=>by rw[e x,iE f0,iE (f:=fun _=>0) fun _=>rfl];grind
  rw[iE (f:=DF h) fun i=>by show _*h (i+1)=0;rw[h0];grind,iE (f:=DF f) fun i=>by show _*f (i+1)=0;rw[f0];grind,iE f0]
  grind
 | n+1,f,h,bf,l,bh,e,x=>by
  obtain⟨f1,hf1⟩ : ∃ f1:Nat->Rat,∀ k,f1 k=f (k+1):=⟨_,fun _=>rfl⟩
  have b1:Bd n f1:=fun i hi=>by rw[hf1,bf _ (by walk_at"o")]
  obtain⟨one,h1⟩ : ∃ one:Nat->Rat,∀ k,one k=if k=0 then 1 else 0:=⟨_,fun _=>rfl⟩
  have one1:∀ x,EV one x=1:=fun x=>by
   rw[mz (n:=1) (fun k hk=>by rw[h1,if_neg (by walk_at"o")]) (by decide)]
   show 0+one 0*1=(1:Rat)
   rw[h1,if_pos rfl]
   grind
  have ef:∀ k,f k=lin 0 1 f1 k+f 0*one k:=fun k=>by
   cases k with
   | zero=>show f 0=f1 0*0+f 0*one 0;rw[h1,if_pos rfl];grind
   | succ k=>show f (k+1)=f1 (k+1)*0+f1 k*1+f 0*one (k+1);rw[h1,if_neg (by walk_at"o"),hf1];grind
  have z1:f1 19=0:=b1 _ (by walk_at"o")
  have vf:∀ x,EV f x=x*EV f1 x+f 0:=fun x=>by rw[hZ ef,ic,qJ z1,one1];grind
  have df:∀ x,EV (DF f) x=x*EV (DF f1) x+EV f1 x:=fun x=>by
   have:∀ k,DF f k=lin 0 1 (DF f1) k+f1 k:=fun k=>by
    rw[show f=fun k=>lin 0 1 f1 k+f 0*one k from funext ef,De,zf]
    have:DF one k=0:=by show _*one (k+1)=0;rw[h1,if_neg (by walk_at"o")];grind
    rw[this]
    grind
   rw[hZ this,ow,qJ (by show _*f1 20=0;rw[b1 _ (by walk_at"o")];grind)]
   grind
  obtain⟨u,hu⟩ : ∃ u:Nat->Rat,u=fun k=>pr f1 g n k:=⟨_,rfl⟩
  have bu:Bd 19 u:=by rw[hu];exact (Bd.pr bg).mono (by walk_at"o")
  have vu:∀ x,EV u x=EV f1 x*EV g x:=fun x=>by rw[hu,kd b1 bg (by walk_at"o")]
  have ih:=zX bg n f1 u b1 (by walk_at"o") (bu.mono (by walk_at"o")) vu
  have eh:∀ k,h k=lin 0 1 u k+f 0*g k:=ka bh (fun k hk=>by
   obtain⟨j,rfl⟩ : ∃ j,k=j+1:=⟨k - 1,by walk_at"o"⟩
   show u (j+1)*0+u j*1+f 0*g (j+1)=0
   rw[bu j (by walk_at"o"),bg _ (by walk_at"o")]
   grind) fun x=>by rw[e x,vf,ic,qJ (bu 19 (by walk_at"o")),vu];grind
  have dh:EV (DF h) x=x*EV (DF u) x+EV u x+f 0*EV (DF g) x:=by
   have:∀ k,DF h k=(fun k=>lin 0 1 (DF u) k+u k) k+f 0*DF g k:=fun k=>by
    rw[show h=fun k=>lin 0 1 u k+f 0*g k from funext eh,De,zf]
   rw[hZ this,ic,ow,qJ (by show _*u 20=0;rw[bu _ (by walk_at"o")];grind)]
   grind
  rw[dh,ih,vu,df,vf]
  grind
theorem Aq{S u v:Nat->Rat}{a b:Nat}(bv:Bd b v)(h:a+b<=20):ip S u v a b=aG (fun k=>pr u v a k) S 20:=by
 rw[Ao]
 unfold ip
 refine bI a (fun _ _=>rfl) fun i hi=>?_
 rw[show 20 - i=b+(20 - i - b) by walk_at"o"]
 exact (gv (fun j hj=>by rw[bv j hj];grind) _).symm
theorem Bl{S u v u' v':Nat->Rat}{a b a' b':Nat}(bu:Bd a u)(bv:Bd b v)(bu':Bd a' u')(bv':Bd b' v')(h:a+b<=20)(h':a'+b'<=20)(e:∀ x,EV u x*EV v x=EV u' x*EV v' x):ip S u v a b=ip S u' v' a' b':=by
 rw[Aq bv h,Aq bv' h']
 have:∀ k,pr u v a k=pr u' v' a' k:=ka ((Bd.pr bv).mono h) ((Bd.pr bv').mono h') fun x=>by rw[kd bu bv h,kd bu' bv' h',e x]
 rw[show (fun k=>pr u v a k)=fun k=>pr u' v' a' k from funext this]
def rX(e f:Nat->Rat):Prop:=∃ q,Bd 13 q /\ ∀ x,EV f x=EV q x*EV e x
theorem least{Φ:Nat->Prop}:∀ {n:Nat},Φ n -> ∃ m,Φ m /\ ∀ k,Φ k->m<=k:=by
 intro n
 induction n using Nat.strongRecOn with
 | ind n ih =>
  intro h
  by_cases e:∃ k,Φ k/\k<n
  ·obtain⟨k,hk,l⟩:=e
   exact ih k l hk
  ·exact⟨n,h,fun k hk=>Classical.byContradiction fun z=>e ⟨k,hk,by walk_at"o"⟩⟩
theorem rX.trans{s e f:Nat->Rat}{m n:Nat}(bq:∃ q,Bd m q /\ ∀ x,EV e x=EV q x*EV s x)(h:∃ q,Bd n q /\ ∀ x,EV f x=EV q x*EV e x)(l:m+n<=13):rX s f:=by
 obtain⟨q,b1,e1⟩:=bq
 obtain⟨p,b2,e2⟩:=h
 refine⟨fun k=>pr p q n k,(Bd.pr b1).mono (by walk_at"o"),fun x=>?_⟩
 rw[kd b2 b1 (by walk_at"o"),e2,e1]
 grind
end L2
namespace L2
open PySem PySem.Spec PyProof.Rows
section
variable {X:Cx}
def yr(i j k:Nat)(ta:TA):TS:=fun D σ H=>ta σ H fun vs H1=>∃ u v w,vs=[u,v,w]/\D.nx (((σ.set i (some u)).set j (some v)).set k (some w)) H1
theorem vg{i j k:Nat}{x y z:Str}{a b c:Expr}{ta:TA}{px py pz pt pos:Pos} {kt k2 pt2}(hc:X.calm=true)(hN:X.N.Nodup)(hi:X.N[i]? = some x)(hj:X.N[j]? = some y)(hk:X.N[k]? = some z)(hij:i ≠ j)(hik:i ≠ k)(hjk:j ≠ k)
  (hx:X.env.scope.names.lookup x=some .local)(hy:X.env.scope.names.lookup y=some .local)(hz:X.env.scope.names.lookup z=some .local)(ha:QA X [a,b,c] ta)
  (hw:swappedStores [.Tuple [.Name x px,.Name y py,.Name z pz] kt pt] (.Tuple [a,b,c] k2 pt2) X.env=pure (some [x,y,z]))
  (hs:swapsWithSole [.Tuple [.Name x px,.Name y py,.Name z pz] kt pt] (.Tuple [a,b,c] k2 pt2) pos.line X.env=pure false:=by rfl) :
  QS X (.Assign [.Tuple [.Name x px,.Name y py,.Name z pz] kt pt] (.Tuple [a,b,c] k2 pt2) pos) (yr i j k ta):=⟨by
 intro pins s σ H D I h
 rw[exec_Assign_arm]
 refine wpAny_bind (wpAny_standAt ?_)
 rw[hs]
 refine wpAny_bind (wpAny_pure ?_)
 rw[if_neg (by decide)]
 refine wpAny_bind (Tuple_ (cQ (ha.h _ pins s σ H _ I h) fun us s1 ⟨vs,H1,I1,r1,q1⟩=>?_))
 obtain⟨u,v,w,e1,q1⟩:=q1
 subst e1
 obtain⟨u1,u2,u3,rfl,ru,rv,rw'⟩ : ∃ u1 u2 u3,us=[u1,u2,u3]/\bX u u1/\bX v u2/\bX w u3:=by
  rcases r1 with _|⟨p,_|⟨p',_|⟨p'',_|_⟩⟩⟩
  exact⟨_,_,_,rfl,p,p',p''⟩
 refine wpAny_newObj_type ?_ (by show 3<=sizeLine;decide)
 have I2:aK X pins σ H1 { s1 with heap:=s1.heap.push { cls:=.type "tuple",data:=.seq [u1,u2,u3].toArray } }:=I1.kept (t':=s1.toks) fun b o e=>Heap.get?_push_of_some _ e
 rw[hw]
 refine wpAny_bind (wpAny_pure ?_)
 show wpAny (model X.prog X.w) X.A (do rule "assign.swapped-stores";let items <- unpackItems (.ref s1.heap.objs.size) 3 none;assignInOrder [fun v=>bindName X.env z v,fun v=>bindName X.env y v,fun v=>bindName X.env x v] items.reverse;pure Flow.next) _ _ _
 refine wpAny_bind (wpAny_rule (wpAny_bind (unpackItems_tuple (items:=#[u1,u2,u3]) (I.ok.hd hc) (IsTup.new s1.heap _) fun h' hx'=>?_)))
 have I3:=I2.kept (h':=h') (t':=s1.toks) fun b o e=>hx' b o (Nat.ne_of_lt (Heap.lt_size e)) e
 show wpAny _ _ (assignInOrder [fun v=>bindName X.env z v,fun v=>bindName X.env y v,fun v=>bindName X.env x v] [u3,u2,u1] >>= fun _=>pure Flow.next) _ _ _
 refine wpAny_bind (assignInOrder_cons (wpAny_bindName (fX I3 hN hk (.inl hz) rw' (fun s2 I4=>?_) (.inr hz))))
 refine assignInOrder_cons (wpAny_bindName (fX I4 hN hj (.inl hy) rv (fun s3 I5=>?_) (.inr hy)))
 refine assignInOrder_cons (wpAny_bindName (fX I5 hN hi (.inl hx) ru (fun s4 I6=>assignInOrder_nil (wpAny_pure ?_)) (.inr hx)))
 rw[List.set_comm (i:=k) (j:=j) _ _ (Ne.symm hjk),List.set_comm (i:=k) (j:=i) _ _ (Ne.symm hik),List.set_comm (i:=j) (j:=i) _ _ (Ne.symm hij)] at I6
 exact⟨_,H1,I6,q1⟩⟩
end
theorem yZ(x y:Int):(x.fdiv y).natAbs<=x.natAbs+1:=by
 rw[Int.fdiv_eq_ediv]
 have h1:=Int.natAbs_ediv_le_natAbs x y
 by_cases c:0<=y\/y ∣ x
 ·rw[if_pos c]
  walk_at"o"
 ·rw[if_neg c]
  have h2:=Int.natAbs_sub_le (x / y) 1
  walk_at"o"
theorem Bt.fdv{b:Nat}{x:Int}(h:Bt b x)(y:Int):Bt (b+1) (x.fdiv y):=by
 have:=yZ x y
 have p:=Nat.two_pow_pos b
 unfold Bt at *
 rw[Nat.pow_succ]
 walk_at"o"
inductive rW:List Int->List Int->List (List Int × List Int × Int × Int)->Prop
 | nought {F:List Int}:rW F [] []
 | last {F G Q:List Int}{S:Int}:G ≠ []->nz G (G.length - 1) ≠ 0->S ≠ 0->Q.length+G.length=F.length+1->(∀ k,S*nz F k=pz (nz Q) (nz G) Q.length k)->rW F G []
 | more {F G R Q:List Int}{T S:Int}{rows:List (List Int × List Int × Int × Int)}:G ≠ []->nz G (G.length - 1) ≠ 0->S ≠ 0->T ≠ 0->R ≠ []->nz R (R.length - 1) ≠ 0->R.length<G.length->Q.length+G.length=F.length+1->(∀ k,S*nz F k=pz (nz Q) (nz G) Q.length k+T*nz R k)->rW G R rows->rW F G ((R,Q,T,S) :: rows)
def gI(G:List Int):List (List Int × List Int × Int × Int)->List Int
 | []=>G
 | row :: rows=>gI row.1 rows
theorem xx(G:List Int):∀ rows:List (List Int × List Int × Int × Int),gI G rows=G \/ ∃ row ∈ rows,gI G rows=row.1:=by
 intro rows
 induction rows generalizing G with
 | nil=>exact .inl rfl
 | cons row rows ih =>
  rcases ih row.1 with z|⟨r,hr,z⟩
  ·exact .inr ⟨row,by simp,z⟩
  ·exact .inr ⟨r,by simp[hr],z⟩
theorem kZ(l:List Int):Bd l.length (kU l):=fun i hi=>BU hi
theorem zr{l:List Int}(h:l ≠ [])(z:nz l (l.length - 1) ≠ 0):Tp (l.length - 1) (kU l):=⟨ar z,(kZ l).mono (by have:=List.length_pos_iff.mpr h;walk_at"o")⟩
theorem yE{F G R Q:List Int}{S T:Int}(lq:Q.length+G.length<=20)(e:∀ k,S*nz F k=pz (nz Q) (nz G) Q.length k+T*nz R k)(x:Rat):(S:Rat)*EV (kU F) x=EV (kU Q) x*EV (kU G) x+(T:Rat)*EV (kU R) x:=by
 have c:∀ k,(fun k=>0+(S:Rat)*kU F k) k=(fun k=>pr (kU Q) (kU G) Q.length k) k+(T:Rat)*kU R k:=fun k=>by
  have:=e k
  have z:((S*nz F k:Int):Rat)=((pz (nz Q) (nz G) Q.length k+T*nz R k:Int):Rat):=by rw[this]
  rw[Rat.intCast_mul,Rat.intCast_add,Rat.intCast_mul,Fg] at z
  show 0+(S:Rat)*((nz F k:Int):Rat)=pr (fun i=>((nz Q i:Int):Rat)) (fun i=>((nz G i:Int):Rat)) Q.length k+(T:Rat)*((nz R k:Int):Rat)
  grind
 have h1:=hZ c x
 rw[ic,ic,kd (kZ Q) (kZ G) lq,iE (f:=fun _=>0) fun _=>rfl] at h1
 grind
theorem rW.dvs{F G:List Int}{rows:List (List Int × List Int × Int × Int)}(h:rW F G rows):G ≠ []->F.length<=7->G.length<=7->(gI G rows ≠ []/\nz (gI G rows) ((gI G rows).length - 1) ≠ 0/\(gI G rows).length<=7)/\rX (kU (gI G rows)) (kU F)/\rX (kU (gI G rows)) (kU G):=by
 induction h with
 | nought=>exact fun z=>absurd rfl z
 | @last F G Q S g0 gl s0 lq e =>
  intro _ lF lG
  have ls:=ar s0
  refine⟨⟨g0,gl,lG⟩,⟨fun i=>0+1 / (S:Rat)*kU Q i,Bd.add (fun _ _=>rfl) ((kZ Q).mono (by walk_at"o")),fun x=>?_⟩,⟨fun i=>if i=0 then 1 else 0,fun i hi=>if_neg (by walk_at"o"),fun x=>?_⟩⟩
  ·show EV (kU F) x=_
   have h1:=yE (F:=F) (G:=G) (Q:=Q) (R:=[]) (S:=S) (T:=0) (by walk_at"o") (fun k=>by rw[e k];walk_at"o") x
   rw[ic,iE (f:=fun _=>0) fun _=>rfl]
   show EV (kU F) x=(0+1 / (S:Rat)*EV (kU Q) x)*EV (kU G) x
   have c0:((0:Int):Rat)=0:=rfl
   rw[c0] at h1
   grind
  ·show EV (kU G) x=_
   rw[mz (f:=fun i=>if i=0 then (1:Rat) else 0) (n:=1) (fun k hk=>if_neg (by walk_at"o")) (by decide)]
   show EV (kU G) x=(0+1*1)*EV (kU G) x
   grind
 | @more F G R Q T S rows g0 gl s0 t0 r0 rl lR lq e hs ih =>
  intro _ lF lG
  obtain⟨⟨n0,nl,n7⟩,⟨a,ba,ea⟩,⟨b,bb,eb⟩⟩:=ih r0 lG (by walk_at"o")
  have tn:=zr n0 nl
  have ba':=(oo (kZ G) (by walk_at"o") tn (by walk_at"o") ba ea).1
  have ls:=ar s0
  refine⟨⟨n0,nl,n7⟩,⟨fun i=>(fun i=>0+1 / (S:Rat)*pr (kU Q) a Q.length i) i+(T:Rat) / (S:Rat)*b i,Bd.add (Bd.add (fun _ _=>rfl) ((Bd.pr ba').mono (by walk_at"o"))) bb,fun x=>?_⟩,⟨a,ba,ea⟩⟩
  have h1:=yE (F:=F) (G:=G) (Q:=Q) (R:=R) (S:=S) (T:=T) (by walk_at"o") e x
  rw[ic,ic,iE (f:=fun _=>0) fun _=>rfl,kd (kZ Q) ba' (by walk_at"o")]
  show EV (kU F) x=_*EV (kU (gI R rows)) x
  have h2:=ea x
  have h3:=eb x
  grind
theorem rW.few{F G:List Int}{rows:List (List Int × List Int × Int × Int)}(h:rW F G rows):rows.length<=G.length - 1:=by
 induction h with
 | nought=>exact Nat.zero_le _
 | last _ _ _ _ _=>exact Nat.zero_le _
 | @more F G R Q T S rows g0 gl s0 t0 r0 rl lR lq e hs ih =>
  have:=List.length_pos_iff.mpr r0
  simp only[List.length_cons]
  walk_at"o"
def re(f g:Nat->Rat):Prop:=∀ d e,1<=d->d<=6->Tp d e->rX e f->rX e g->False
theorem rX.sc{e f f':Nat->Rat}{c:Rat}(h:rX e f)(z:∀ k,f' k=c*f k):rX e f':=by
 obtain⟨q,bq,eq⟩:=h
 refine⟨fun i=>0+c*q i,Bd.add (fun _ _=>rfl) bq,fun x=>?_⟩
 rw[hZ (g:=fun k=>0+c*f k) (fun k=>by rw[z];grind),ic,ic,iE (f:=fun _=>0) fun _=>rfl,eq]
 grind
theorem rW.one{F G:List Int}{rows:List (List Int × List Int × Int × Int)}{f g:Nat->Rat}{c d:Rat}(h:rW F G rows)(g0:G ≠ [])(lF:F.length<=7)(lG:G.length<=7)(ef:∀ k,f k=c*kU F k)(eg:∀ k,g k=d*kU G k)(n:re f g):∃ x,gI G rows=[x]/\x ≠ 0:=by
 obtain⟨⟨n0,nl,n7⟩,h1,h2⟩:=h.dvs g0 lF lG
 have l1:(gI G rows).length=1:=Classical.byContradiction fun z=>by
  have:=List.length_pos_iff.mpr n0
  exact n ((gI G rows).length - 1) _ (by walk_at"o") (by walk_at"o") (zr n0 nl) (h1.sc ef) (h2.sc eg)
 obtain⟨x,hx⟩:=List.length_eq_one_iff.mp l1
 refine⟨x,hx,?_⟩
 rw[hx] at nl
 exact nl
end L2
namespace L2
open PySem PySem.Spec PyProof.Rows
section
variable {X:Cx}
def CZ(K:W.Frag):R2:=fun x y H Q=>∃ a b,x = .ref a/\y = .ref b /\ ∃ xs,vw K H a=some (.tup xs) /\ ∃ ys,vw K H b=some (.tup ys)/\xs.length+ys.length<=sizeLine /\
 ∀ p H2,ay (vw K H) (vw K H2)->vw K H2 p=some (.tup (xs ++ ys))->Q (.ref p) H2
theorem yL{prog:Program}{w:World}{A:Around}{E:Value->Shared->Prop}{s:Shared}{t b:Addr}{ws:List Value}{Q:Value->Shared->Prop}(ht:IsTup s.heap t ([]:List Value).toArray)(hb:IsTup s.heap b ws.toArray)(h:Q (.ref b) s):wpAny (model prog w) A (binaryOp .Add (.ref t) (.ref b)) Q E s:=by
 obtain⟨⟨c1,d1,e1,l1⟩,g1,k1,n1,z1⟩:=id ht
 obtain⟨⟨c2,d2,e2,l2⟩,g2,k2,n2,z2⟩:=id hb
 simp only at k1 z1 k2 z2
 subst k1 z1 k2 z2
 exact concat_meets ⟨_,g1,rfl⟩ ⟨_,g2,rfl⟩ noFill_tuple_add seq_tuple_add PySem.F.slot_tuple_add PySem.F.entry_tuple_add (PySem.F.args_tuple_add_2 _ _) (tuple_addW0 t b _ ws.toArray n1 n2 d1 d2 l1 l2 (by simp)) ⟨g1,g2,h⟩
theorem vk:eK X (binaryOp .Add) (CZ X.K):=by
 intro pins s σ H x y v u Q I rx ry h
 obtain⟨a,b,rfl,rfl,xs,ha,ys,hb,hz,q⟩:=h
 by_cases hx:xs=[]
 ·subst hx
  cases rx
  cases ry
  obtain⟨its,r1,p1,_⟩:=I.tuple (cY ha)
  obtain⟨its2,r2,p2,_⟩:=I.tuple (cY hb)
  cases r1
  exact yL p1 p2 ⟨.ref b,H,I,rfl,q b H (fun _ _ z=>z) hb⟩
 ·refine CB.kf pins s σ H _ _ v u Q I rx ry ⟨a,b,xs,ys,rfl,rfl,cY ha,cY hb,hx,hz,fun z _=>?_,fun z p hp hk=>?_⟩
  ·subst z
   exact q a H (fun _ _ z=>z) (by rw[List.append_nil];exact ha)
  ·have hl:=hk p _ rfl cJ
   exact q p _ (ky (ay.upd hp)) (by rw[eE hl];exact cJ)
end
section
variable {K:W.Frag}{σ:St}{H0:Hp}{t u:TE}{ta:TA}{d:D}{ds es:List D}
end
end L2
namespace L2
open PySem PySem.Spec PyProof.Rows
theorem HA{f:Nat->Rat}{m:Nat}(m6:m<=6)(tP:Tp m f)(nosq:∀ (d:Nat)(e q:Nat->Rat),1<=d->Tp d e->Bd (m - d+1 - d) q->(∀ x,EV f x=EV q x*EV e x*EV e x)->False) {d:Nat}{e:Nat->Rat}(d1:1<=d)(d6:d<=6)(te:Tp d e)(ha:rX e f)(hc:rX e (DF f)):False:=by
 obtain⟨d,⟨d1,d6,e,te,ha,hc⟩,mn⟩:=least (Φ:=fun d=>1<=d/\d<=6 /\ ∃ e,Tp d e/\rX e (f)/\rX e (DF (f))) ⟨d1,d6,e,te,ha,hc⟩
 obtain⟨a,ba,ea⟩:=ha
 obtain⟨c,bc,ec⟩:=hc
 have bP:Bd (m+1) (f):=tP.2
 obtain⟨ba',az⟩:=oo bP (by walk_at"o") te d6 ba ea
 have dm:d<=m:=Classical.byContradiction fun z=>tP.1 (az (by walk_at"o") m)
 have bc':=(oo (jT bP) (by walk_at"o") te d6 bc ec).1
 have rule:=zX (m:=d+1) te.2 (m+1 - d) a (f) ba' (by walk_at"o") (bP.mono (by walk_at"o")) ea
 have k1:∀ x,EV (DF e) x*EV a x=(EV c x - EV (DF a) x)*EV e x:=fun x=>by
  have:=rule x
  rw[ec x] at this
  grind
 obtain⟨q,t,bq,bt,eq⟩:=CF te (m+1 - d) a (ba'.mono (by walk_at"o"))
 have vq:=Da te bq (by walk_at"o") eq
 rcases Bd.tp bt with t0|⟨t',ht',tt⟩
 ·-- twice in it
  have v1:∀ x,EV (f) x=EV q x*EV e x*EV e x:=fun x=>by
   rw[ea x,vq x,iE t0]
   grind
  have bq2:Bd (m - d+1 - d) q:=by
   have:=(oo (f:=a) (n:=m+1 - d) ba' (by walk_at"o") te d6 (bq.mono (by walk_at"o")) fun x=>by rw[vq x,iE t0];grind).1
   exact this.mono (by walk_at"o")
  exact nosq d e q d1 te bq2 v1
 ·-- a smallest rest that does it
  have dv:rX e (fun k=>pr (DF e) t d k):=by
   refine⟨fun i=>c i + -1*(fun i=>DF a i+1*pr q (DF e) (m+1 - d) i) i,?_,fun x=>?_⟩
   ·refine Bd.add bc ?_
    exact Bd.add ((jT (n:=12) (ba.mono (by walk_at"o")))|>.mono (by walk_at"o")) ((Bd.pr (jT te.2)).mono (by walk_at"o"))
   ·rw[kd (jT te.2) bt (by walk_at"o"),ic,ic,kd bq (jT te.2) (by walk_at"o")]
    have:=k1 x
    rw[vq x] at this
    grind
  obtain⟨s,⟨sd,w,tw,q2,bq2,e2⟩,sm⟩:=least (Φ:=fun s=>s<d /\ ∃ w,Tp s w/\rX e (fun k=>pr (DF e) w d k)) ⟨ht',t,tt,dv⟩
  have bw:Bd (s+1) w:=tw.2
  have v2:∀ x,EV (DF e) x*EV w x=EV q2 x*EV e x:=fun x=>by rw[<- e2 x,kd (jT te.2) bw (by walk_at"o")]
  obtain⟨b2',z2⟩:=oo (f:=fun k=>pr (DF e) w d k) (n:=d+s) (fun i hi=>iz bw _ _ (by walk_at"o")) (by walk_at"o") te d6 bq2 e2
  by_cases s0:s=0
  ·-- the slope itself would be divided
   subst s0
   have z:=z2 (by walk_at"o") (d - 1)
   have d0:DF e (d - 1) ≠ 0:=by
    show (((d - 1+1:Nat):Int):Rat)*e (d - 1+1) ≠ 0
    rw[show d - 1+1=d by walk_at"o"]
    have:(((d:Nat):Int):Rat) ≠ 0:=ar (by walk_at"o")
    have:=te.1
    grind
   have e0:∀ x,EV (DF e) x*EV w x=0:=fun x=>by
    rw[<- kd (jT te.2) bw (by walk_at"o"),iE (z2 (by walk_at"o"))]
   have w0:∀ x,EV w x=w 0:=fun x=>by
    rw[mz (n:=1) (fun k hk=>bw k (by walk_at"o")) (by decide)]
    show 0+w 0*1=w 0
    grind
   have wn:=tw.1
   exact d0 (ka ((jT te.2).mono (by walk_at"o")) (g:=fun _=>0) (fun _ _=>rfl) (fun x=>by
    have:=e0 x
    rw[w0] at this
    rw[iE (f:=fun _=>0) fun _=>rfl]
    grind) (d - 1))
  ·obtain⟨q3,t3,b3,bt3,e3⟩:=CF tw (d+1 - s) e (te.2.mono (by walk_at"o"))
   have v3:=Da tw b3 (by walk_at"o") e3
   rcases Bd.tp bt3 with t0|⟨t',ht',tt⟩
   ·-- a smaller one in both
    have:=mn s ⟨by walk_at"o",by walk_at"o",w,tw,rX.trans (m:=6) (n:=7) ⟨q3,b3.mono (by walk_at"o"),fun x=>by rw[v3 x,iE t0];grind⟩ ⟨a,ba'.mono (by walk_at"o"),ea⟩ (by decide),rX.trans (m:=6) (n:=7) ⟨q3,b3.mono (by walk_at"o"),fun x=>by rw[v3 x,iE t0];grind⟩ ⟨c,bc'.mono (by walk_at"o"),ec⟩ (by decide)⟩
    walk_at"o"
   ·have:=sm t' ⟨by walk_at"o",t3,tt,fun i=>DF e i + -1*pr q3 q2 (d+1 - s) i,Bd.add ((jT te.2).mono (by walk_at"o")) ((Bd.pr b2').mono (by walk_at"o")),fun x=>?_⟩
    ·walk_at"o"
    ·rw[kd (jT te.2) bt3 (by walk_at"o"),ic,kd b3 b2' (by walk_at"o")]
     have h1:=v3 x
     have h2:=v2 x
     grind
end L2
namespace L2
open PySem PySem.Spec PyProof.Rows
def lx(s:Rat)(v:Nat->Rat)(j:Nat):Rat:=(if j=0 then 0 else v (j - 1)) - s*v j
theorem rZ{S S' v:Nat->Rat}{s:Rat}{i:Nat}:∀ b,(∀ j,j<b->S' (i+j)=S (i+j+1) - s*S (i+j))->aG v (fun j=>S' (i+j)) b=aG (lx s v) (fun j=>S (i+j)) b+(if b=0 then 0 else v (b - 1)*S (i+b))
 | 0,_=>by
  show (0:Rat)=0+_
  rw[if_pos rfl]
  grind
 | b+1,h=>by
  show aG v (fun j=>S' (i+j)) b+v b*S' (i+b)=(aG (lx s v) (fun j=>S (i+j)) b+lx s v b*S (i+b))+_
  rw[rZ b fun j hj=>h j (by walk_at"o"),h b (by walk_at"o"),if_neg (show ¬ (b+1=0) by walk_at"o"),Nat.add_sub_cancel,Nat.add_assoc]
  unfold lx
  by_cases z:b=0
  ·rw[if_pos z,if_pos z]
   grind
  ·rw[if_neg z,if_neg z]
   grind
theorem BZ{S S' u v:Nat->Rat}{s:Rat}{a b:Nat}(bv:Bd b v)(h:∀ i,i+1<a+b->S' i=S (i+1) - s*S i):ip S' u v a b=ip S u (lx s v) a (b+1):=by
 unfold ip
 refine bI a (fun _ _=>rfl) fun i hi=>?_
 rw[rZ b fun j hj=>h (i+j) (by walk_at"o")]
 show _=aG (lx s v) (fun j=>S (i+j)) b+lx s v b*S (i+b)
 unfold lx
 rw[bv b (Nat.le_refl _)]
 by_cases z:b=0
 ·rw[if_pos z,if_pos z]
  grind
 ·rw[if_neg z,if_neg z]
  grind
theorem Dq{s:Rat}{v:Nat->Rat}{k:Nat}(h:Tp k v):Tp (k+1) (lx s v):=by
 refine⟨?_,fun i hi=>?_⟩
 ·unfold lx
  rw[if_neg (by walk_at"o"),Nat.add_sub_cancel,h.2 (k+1) (Nat.le_refl _)]
  have:=h.1
  grind
 ·unfold lx
  rw[if_neg (by walk_at"o"),h.2 (i - 1) (by walk_at"o"),h.2 i (by walk_at"o")]
  grind
theorem oS{W:Nat->Int}{B:Int}{S f:Nat->Rat}{m:Nat}(hB:0<B)(hS:∀ i,((W i:Int):Rat)=S i*(B:Rat))(m6:m<=6)(tf:Tp m f)(hD:∀ i,i<=m->0<Dk W i)(orth:∀ q:Nat->Rat,Bd (m - 1) q->ip S q f (m - 1) (m+1)=0):re f (DF f):=by
 intro d e d1 d6 te ha hc
 refine HA m6 tf (fun d e q d1 te bq v1=>?_) d1 d6 te ha hc
 have bf:Bd (m+1) f:=tf.2
 have fin:(∀ x,EV f x=0)->False:=fun h=>tf.1 (ka (bf.mono (by walk_at"o")) (g:=fun _=>0) (fun _ _=>rfl) (fun x=>by rw[h,iE (f:=fun _=>0) fun _=>rfl]) m)
 by_cases z:m - d+1 - d=0
 ·have q0:∀ i,q i=0:=fun i=>bq i (by walk_at"o")
  exact fin fun x=>by rw[v1,iE q0];grind
 obtain⟨u,hu⟩ : ∃ u:Nat->Rat,u=fun j=>pr q e (m - d+1 - d) j:=⟨_,rfl⟩
 have te':Bd (d+1) e:=te.2
 have vu:∀ x,EV u x=EV q x*EV e x:=fun x=>by rw[hu,kd bq te' (by walk_at"o")]
 have bu:Bd m u:=by
  rw[hu]
  exact fun i hi=>iz te' _ _ (by walk_at"o")
 obtain⟨p1,p2⟩:=pd hB hS m hD u bu
 have bqk:Bd (m - 1) q:=bq.mono (by walk_at"o")
 have i1:ip S u u m m=ip S q f (m - 1) (m+1):=Bl bu bu bqk bf (by walk_at"o") (by walk_at"o") fun x=>by rw[vu,v1];grind
 have u0:=p2 (by rw[i1,orth q bqk])
 exact fin fun x=>by rw[v1,<- vu,iE u0];grind
theorem pT{W:Nat->Int}{B:Int}{S q:Nat->Rat}{k:Nat}(hB:0<B)(hS:∀ i,((W i:Int):Rat)=S i*(B:Rat))(dn:Dk W k ≠ 0)(m:Nat)(hm:m<=k):ip S q (Pk W k) m (k+1)=0:=by
 rw[qm dn (by walk_at"o") hS (Nat.le_refl _)]
 exact aZ m fun i hi=>by rw[iP (by walk_at"o"),show ((0:Int):Rat)=0 from rfl];grind
theorem qt{W:Nat->Int}{k:Nat}(dn:Dk W k ≠ 0):Tp k (Pk W k):=⟨by rw[oI dn];decide,fun i hi=>iW (by walk_at"o")⟩
theorem sH{W:Nat->Int}{B:Int}{S:Nat->Rat}{k:Nat}(hB:0<B)(hS:∀ i,((W i:Int):Rat)=S i*(B:Rat))(k6:k<=6)(hD:∀ i,i<=k->0<Dk W i):re (Pk W k) (DF (Pk W k)):=by
 have dn:Dk W k ≠ 0:=by have:=hD k (Nat.le_refl _);walk_at"o"
 exact oS hB hS k6 (qt dn) hD fun q _=>pT hB hS dn (k - 1) (by walk_at"o")
theorem Ak{W W':Nat->Int}{B B':Int}{S S':Nat->Rat}{s:Rat}{k:Nat}(hB:0<B)(hS:∀ i,((W i:Int):Rat)=S i*(B:Rat))(hB':0<B')(hS':∀ i,((W' i:Int):Rat)=S' i*(B':Rat))(k5:k<=5)(hD:∀ i,i<=k+1->0<Dk W i)(dn:Dk W' k ≠ 0)(h:∀ i,i<2*k->S' i=S (i+1) - s*S i):re (lx s (Pk W' k)) (DF (lx s (Pk W' k))) :=
 oS hB hS (by walk_at"o") (Dq (qt dn)) hD fun q bq=>by
  rw[Nat.add_sub_cancel,<- BZ (qt dn).2 fun i hi=>h i (by walk_at"o")]
  exact pT hB' hS' dn k (Nat.le_refl _)
end L2
namespace L2
open PySem PySem.Spec PyProof.Rows
def fA(S:Nat->Rat)(n:Nat):Prop:=∃ (f:Nat->Rat)(L:Nat)(v:Nat->Rat)(N:Nat),(∀ i,L<=i->f i=0)/\2*L<=n+1/\L+N<=n+1/\(ip S f f L L<0\/(ip S f f L L=0/\ip S f v L N ≠ 0))
theorem qf{S:Nat->Rat}{n:Nat}:¬ fA S n ↔ ∀ (f:Nat->Rat)(L:Nat),(∀ i,L<=i->f i=0)->2*L<=n+1->0<=ip S f f L L/\(ip S f f L L=0 -> ∀ (v:Nat->Rat)(N:Nat),L+N<=n+1->ip S f v L N=0):=by
 refine⟨fun h f L hf hL=>⟨?_,fun e v N hN=>?_⟩,fun h ⟨f,L,v,N,hf,hL,hN,z⟩=>?_⟩
 ·refine Classical.byContradiction fun z=>h ⟨f,L,f,L,hf,hL,by walk_at"o",.inl ?_⟩
  exact Rat.not_le.mp z
 ·exact Classical.byContradiction fun z=>h ⟨f,L,v,N,hf,hL,hN,.inr ⟨e,z⟩⟩
 ·obtain⟨a,b⟩:=h f L hf hL
  rcases z with z|⟨z,y⟩
  ·grind
  ·exact y (b z v N hN)
theorem fA.more{S T:Nat->Rat}{m n:Nat}(h:fA S m)(hm:m<=n)(e:∀ i,i<m->S i=T i):fA T n:=by
 obtain⟨f,L,v,N,hf,hL,hN,z⟩:=h
 have e1:ip S f f L L=ip T f f L L:=oO fun i j hi hj=>e _ (by walk_at"o")
 have e2:ip S f v L N=ip T f v L N:=oO fun i j hi hj=>e _ (by walk_at"o")
 rw[e1,e2] at z
 exact⟨f,L,v,N,hf,by walk_at"o",by walk_at"o",z⟩
theorem qR{f h:Nat->Rat}{c:Rat}:∀ n,aG f (fun i=>c*h i) n=c*aG f h n
 | 0=>by show (0:Rat)=c*0;grind
 | n+1=>by
  show aG f (fun i=>c*h i) n+f n*(c*h n)=c*(aG f h n+f n*h n)
  rw[qR n]
  grind
theorem Dx{S u v:Nat->Rat}{c:Rat}{m n:Nat}:ip (fun k=>c*S k) u v m n=c*ip S u v m n:=by
 unfold ip
 rw[<- qR]
 exact bI m (fun _ _=>rfl) fun i _=>qR n
theorem xj{S T:Nat->Rat}{c:Rat}{m n:Nat}(hc:0<c)(hm:m<=n)(hS:¬ fA S n)(hT:¬ fA T m):¬ fA (fun i=>T i+c*S i) m:=by
 rw[qf] at hS hT ⊢
 intro f L hf hL
 obtain⟨a1,a2⟩:=hS f L hf (by walk_at"o")
 obtain⟨b1,b2⟩:=hT f L hf hL
 have e:∀ (v:Nat->Rat)(N:Nat),ip (fun i=>T i+c*S i) f v L N=ip T f v L N+c*ip S f v L N:=fun v N=>by
  rw[show (fun i=>T i+c*S i)=fun i=>T i+(fun i=>c*S i) i from rfl,km,Dx]
 have c1:=Rat.mul_nonneg (Rat.le_of_lt hc) a1
 refine⟨by rw[e];grind,fun z v N hN=>?_⟩
 rw[e] at z
 have z1:ip T f f L L=0:=by grind
 have z2:ip S f f L L=0:=by
  have:c*ip S f f L L=0:=by grind
  rcases Rat.mul_eq_zero.mp this with y|y
  ·grind
  ·exact y
 rw[e,b2 z1 v N hN,a2 z2 v N (by walk_at"o")]
 grind
theorem gS{u v:Nat->Rat}{s:Rat}{m n:Nat}:∀ cs:List dQ,ip (fun k=>cj cs (k+1) - s*cj cs k) u v m n=dW (fun x=>(x - s)*(ck u m x*ck v n x)) cs
 | []=>by
  show aG u (fun i=>aG v (fun j=>0 - s*0) n) m=0
  exact aZ m fun i _=>by rw[aZ n fun j _=>by grind];grind
 | c :: cs=>by
  have e:(fun k=>cj (c :: cs) (k+1) - s*cj (c :: cs) k)=fun k=>(fun k=>(wv c.2*(wv c.1 - s))*aO (wv c.1) k) k+(fun k=>cj cs (k+1) - s*cj cs k) k:=funext fun k=>by
   show (wv c.2*aO (wv c.1) (k+1)+cj cs (k+1)) - s*(wv c.2*aO (wv c.1) k+cj cs k)=_
   rw[cU]
   grind
  rw[e,km,rB,gS cs]
  show _=wv c.2*((wv c.1 - s)*(ck u m (wv c.1)*ck v n (wv c.1)))+_
  grind
theorem vE{h G:Rat->Rat}:∀ {cs:List dQ},(∀ c ∈ cs,0<wv c.2/\0<=h (wv c.1))->0<=dW (fun x=>h x*(G x*G x)) cs/\(dW (fun x=>h x*(G x*G x)) cs=0 -> ∀ c ∈ cs,h (wv c.1)*G (wv c.1)=0)
 | [],_=>⟨by show (0:Rat)<=0;grind,fun _ c hc=>by cases hc⟩
 | d :: cs,H=>by
  obtain⟨i1,i2⟩:=vE (h:=h) (G:=G) (cs:=cs) fun c hc=>H c (List.mem_cons_of_mem _ hc)
  obtain⟨w0,h0⟩:=H d List.mem_cons_self
  have p1:=Rat.mul_nonneg h0 (nr (G (wv d.1)))
  have p2:=Rat.mul_nonneg (Rat.le_of_lt w0) p1
  have e:dW (fun x=>h x*(G x*G x)) (d :: cs)=wv d.2*(h (wv d.1)*(G (wv d.1)*G (wv d.1)))+dW (fun x=>h x*(G x*G x)) cs:=rfl
  rw[e]
  refine⟨by grind,fun z c hc=>?_⟩
  have z1:wv d.2*(h (wv d.1)*(G (wv d.1)*G (wv d.1)))=0:=by grind
  have z2:dW (fun x=>h x*(G x*G x)) cs=0:=by grind
  rcases List.mem_cons.mp hc with rfl|hc
  ·rcases Rat.mul_eq_zero.mp z1 with y|y
   ·grind
   ·rcases Rat.mul_eq_zero.mp y with y|y
    ·rw[y];grind
    ·rcases Rat.mul_eq_zero.mp y with y|y <;> (rw[y];grind)
  ·exact i2 z2 c hc
theorem ox{F:Rat->Rat}:∀ {cs:List dQ},(∀ c ∈ cs,F (wv c.1)=0)->dW F cs=0
 | [],_=>rfl
 | c :: cs,h=>by
  show wv c.2*F (wv c.1)+dW F cs=0
  rw[h c List.mem_cons_self,ox fun d hd=>h d (List.mem_cons_of_mem _ hd)]
  grind
theorem pS{cs:List dQ}(hw:∀ c ∈ cs,0<wv c.2)(n:Nat):¬ fA (cj cs) n:=qf.mpr fun f L hf hL=>by
 have k:∀ c ∈ cs,0<wv c.2/\(0:Rat)<=(fun _=>1) (wv c.1):=fun c hc=>⟨hw c hc,by show (0:Rat)<=1;decide⟩
 obtain⟨a,b⟩:=vE (h:=fun _=>1) (G:=fun x=>ck f L x) k
 have e:∀ (v:Nat->Rat)(N:Nat),ip (cj cs) f v L N=dW (fun x=>1*(ck f L x*ck v N x)) cs:=fun v N=>by
  rw[uE]
  exact cN fun c _=>by grind
 refine⟨by rw[e];exact a,fun z v N _=>?_⟩
 rw[e] at z ⊢
 exact ox fun c hc=>by
  have:=b z c hc
  grind
theorem um{cs:List dQ}{s:Rat}(hw:∀ c ∈ cs,0<wv c.2/\s<=wv c.1)(n:Nat):¬ fA (fun k=>cj cs (k+1) - s*cj cs k) n:=qf.mpr fun f L hf hL=>by
 have k:∀ c ∈ cs,0<wv c.2/\(0:Rat)<=(fun x=>x - s) (wv c.1):=fun c hc=>⟨(hw c hc).1,by have:=(hw c hc).2;show (0:Rat)<=wv c.1 - s;grind⟩
 obtain⟨a,b⟩:=vE (h:=fun x=>x - s) (G:=fun x=>ck f L x) k
 refine⟨by rw[gS];exact a,fun z v N _=>?_⟩
 rw[gS] at z ⊢
 exact ox fun c hc=>by
  have:=b z c hc
  grind
theorem wj{v:Nat->Rat}{s x:Rat}:∀ n,ck (lx s v) n x=(x - s)*ck v n x - (if n=0 then 0 else v (n - 1)*aO x n)
 | 0=>by
  show (0:Rat)=(x - s)*0 - _
  rw[if_pos rfl]
  grind
 | n+1=>by
  show ck (lx s v) n x+lx s v n*aO x n=(x - s)*(ck v n x+v n*aO x n) - _
  rw[wj n,if_neg (show ¬ (n+1=0) by walk_at"o"),Nat.add_sub_cancel,cU]
  unfold lx
  by_cases z:n=0
  ·rw[if_pos z,if_pos z]
   grind
  ·rw[if_neg z,if_neg z]
   grind
theorem zo{v:Nat->Rat}{s x:Rat}{n:Nat}(bv:Bd n v):ck (lx s v) (n+1) x=(x - s)*ck v n x:=by
 rw[wj,if_neg (show ¬ (n+1=0) by walk_at"o"),Nat.add_sub_cancel]
 show (x - s)*(ck v n x+v n*aO x n) - v n*aO x (n+1)=_
 rw[bv n (Nat.le_refl _)]
 grind
def iL:List Rat->Nat->Rat
 | []=>fun j=>if j=0 then 1 else 0
 | a :: as=>lx a (iL as)
theorem nV:∀ as:List Rat,Bd (as.length+1) (iL as)
 | []=>fun i hi=>by
  show (if i=0 then (1:Rat) else 0)=0
  rw[if_neg (by simp at hi;walk_at"o")]
 | a :: as=>fun i hi=>by
  have b:=nV as
  simp only[List.length_cons] at hi
  show lx a (iL as) i=0
  unfold lx
  rw[if_neg (by walk_at"o"),b (i - 1) (by walk_at"o"),b i (by walk_at"o")]
  grind
theorem sw{x:Rat}:∀ as:List Rat,ck (iL as) (as.length+1) x=0 ↔ x ∈ as
 | []=>by
  show 0+(1:Rat)*1=0 ↔ x ∈ []
  exact⟨fun z=>absurd z (by decide +kernel),fun z=>by cases z⟩
 | a :: as=>by
  show ck (lx a (iL as)) (as.length+1+1) x=0 ↔ _
  rw[zo (nV as),Rat.mul_eq_zero,sw as,List.mem_cons]
  exact or_congr_left ⟨fun z=>by grind,fun z=>by grind⟩
theorem Cp{c:dQ}{cs:List dQ}{s:Rat}{n:Nat}(hw:0<wv c.2)(hs:wv c.1<s)(hn:∀ d ∈ cs,wv d.1 ≠ wv c.1)(hl:2*(cs.length+1)<=n+1):fA (fun k=>cj (c :: cs) (k+1) - s*cj (c :: cs) k) n:=by
 have lm:(cs.map fun d=>wv d.1).length=cs.length:=List.length_map _
 refine⟨iL (cs.map fun d=>wv d.1),cs.length+1,iL (cs.map fun d=>wv d.1),0,by have:=nV (cs.map fun d=>wv d.1);rw[lm] at this;exact this,hl,by walk_at"o",.inl ?_⟩
 rw[gS]
 show wv c.2*((wv c.1 - s)*(ck (iL (cs.map fun d=>wv d.1)) (cs.length+1) (wv c.1)*ck (iL (cs.map fun d=>wv d.1)) (cs.length+1) (wv c.1)))+dW _ cs<0
 have z:∀ x,ck (iL (cs.map fun d=>wv d.1)) (cs.length+1) x=0 ↔ x ∈ cs.map fun d=>wv d.1:=fun x=>by
  have:=sw (x:=x) (cs.map fun d=>wv d.1)
  rwa [lm] at this
 rw[ox fun d hd=>by rw[(z _).mpr (List.mem_map.mpr ⟨d,hd,rfl⟩)];grind]
 have ne:ck (iL (cs.map fun d=>wv d.1)) (cs.length+1) (wv c.1) ≠ 0:=fun y=>by
  obtain⟨d,hd,e⟩:=List.mem_map.mp ((z _).mp y)
  exact hn d hd e
 obtain⟨y,hy⟩ : ∃ y,y=ck (iL (cs.map fun d=>wv d.1)) (cs.length+1) (wv c.1):=⟨_,rfl⟩
 rw[<- hy] at ne ⊢
 have p1:0<y*y:=by
  rcases Rat.le_total (a:=0) (b:=y) with h|h
  ·exact Rat.mul_pos (by grind) (by grind)
  ·have:=Rat.mul_pos (show 0 < -y by grind) (show 0 < -y by grind)
   grind
 have p2:=Rat.mul_pos (show 0<s - wv c.1 by grind) p1
 have p3:=Rat.mul_pos hw p2
 grind
theorem xA{W:Nat->Int}{B:Int}{S:Nat->Rat}{cs:List dQ}{n k:Nat}(hB:0<B)(hS:∀ i,((W i:Int):Rat)=S i*(B:Rat))(hm:∀ i,i<n->S i=cj cs i)(nd:(E4 cs).Nodup)(pw:∀ c ∈ cs,0<wv c.2)(hk:2*k+1<=n)(k6:k<=6)(h0:0<Dk W k)(h1:Dk W (k+1)=0):cs.length<=k:=Nat.le_of_not_lt fun z=>by
 have i0:ip S (Pk W k) (Pk W k) (k+1) (k+1)=0:=by
  rw[qm (by walk_at"o") (by walk_at"o") hS (Nat.le_refl _)]
  refine aZ (k+1) fun i hi=>?_
  by_cases e:i=k
  ·rw[e,fP,h1,show ((0:Int):Rat)=0 from rfl];grind
  ·rw[iP (by walk_at"o"),show ((0:Int):Rat)=0 from rfl];grind
 rw[oO (T:=cj cs) fun i j hi hj=>hm _ (by walk_at"o"),uE] at i0
 have zz:=pU (G:=fun x=>ck (Pk W k) (k+1) x) pw i0
 have isp:FG (k+1) (EV (Pk W k)):=FG.of (fun j hj=>iW (by walk_at"o")) (by walk_at"o")
 have y:=isp.zero nd (by rw[mQ];walk_at"o") fun s hs=>by
  obtain⟨c,hc,rfl⟩:=List.mem_map.mp hs
  rw[<- Fn (n:=k+1) (fun j hj=>iW (by walk_at"o")) (by walk_at"o")]
  exact zz c hc
 have e:=ka (f:=Pk W k) (g:=fun _=>0) (fun j hj=>iW (by walk_at"o")) (fun _ _=>rfl) (fun x=>by rw[y x,iE (f:=fun _=>0) fun _=>rfl]) k
 rw[oI (by walk_at"o")] at e
 exact absurd e (by decide)
end L2
namespace L2
open PySem PySem.Spec PyProof.Rows
theorem qy{f h:Nat->Rat}:∀ n,aG f h n=aG (fun i=>f (2*i)) (fun i=>h (2*i)) ((n+1) / 2)+aG (fun i=>f (2*i+1)) (fun i=>h (2*i+1)) (n / 2)
 | 0=>by show (0:Rat)=0+0;grind
 | n+1=>by
  show aG f h n+f n*h n=_
  rw[qy n]
  by_cases e:n % 2=0
  ·have e1:(n+1) / 2=n / 2:=by walk_at"o"
   have e2:(n+1+1) / 2=n / 2+1:=by walk_at"o"
   have e3:2*(n / 2)=n:=by walk_at"o"
   rw[e1,e2]
   show _=(aG (fun i=>f (2*i)) (fun i=>h (2*i)) (n / 2)+f (2*(n / 2))*h (2*(n / 2)))+_
   rw[e3]
   grind
  ·have e1:(n+1+1) / 2=(n+1) / 2:=by walk_at"o"
   have e2:(n+1) / 2=n / 2+1:=by walk_at"o"
   have e3:2*(n / 2)+1=n:=by walk_at"o"
   rw[e1,e2]
   show _=_+(aG (fun i=>f (2*i+1)) (fun i=>h (2*i+1)) (n / 2)+f (2*(n / 2)+1)*h (2*(n / 2)+1))
   rw[e3]
   grind
theorem qP{E T f v:Nat->Rat}{L N:Nat}(h0:∀ i,E (2*i)=T i)(h1:∀ i,E (2*i+1)=0):ip E f v L N=ip T (fun i=>f (2*i)) (fun i=>v (2*i)) ((L+1) / 2) ((N+1) / 2)+ip (fun i=>T (i+1)) (fun i=>f (2*i+1)) (fun i=>v (2*i+1)) (L / 2) (N / 2):=by
 unfold ip
 rw[qy L]
 have a:aG (fun i=>f (2*i)) (fun i=>aG v (fun j=>E (2*i+j)) N) ((L+1) / 2)=aG (fun i=>f (2*i)) (fun i=>aG (fun i=>v (2*i)) (fun j=>T (i+j)) ((N+1) / 2)) ((L+1) / 2):=bI _ (fun _ _=>rfl) fun i _=>by
  rw[qy N,aZ (N / 2) fun j _=>by rw[show 2*i+(2*j+1)=2*(i+j)+1 by walk_at"o",h1];grind]
  rw[bI ((N+1) / 2) (fun _ _=>rfl) fun j _=>by rw[show 2*i+2*j=2*(i+j) by walk_at"o",h0]]
  grind
 have b:aG (fun i=>f (2*i+1)) (fun i=>aG v (fun j=>E (2*i+1+j)) N) (L / 2)=aG (fun i=>f (2*i+1)) (fun i=>aG (fun i=>v (2*i+1)) (fun j=>T (i+j+1)) (N / 2)) (L / 2):=bI _ (fun _ _=>rfl) fun i _=>by
  rw[qy N,aZ ((N+1) / 2) fun j _=>by rw[show 2*i+1+2*j=2*(i+j)+1 by walk_at"o",h1];grind]
  rw[bI (N / 2) (fun _ _=>rfl) fun j _=>by rw[show 2*i+1+(2*j+1)=2*(i+j+1) by walk_at"o",h0]]
  grind
 exact congr (congrArg HAdd.hAdd a) b
theorem ym{E T:Nat->Rat}{n:Nat}(h0:∀ i,E (2*i)=T i)(h1:∀ i,E (2*i+1)=0)(n1:1<=n)(hT:¬ fA T n):fA E (2*n - 1) ↔ fA (fun i=>T (i+1)) (n - 1):=by
 refine⟨fun b=>Classical.byContradiction fun nb=>?_,fun ⟨f,L,v,N,hf,hL,hN,z⟩=>?_⟩
 ·refine qf.mpr (fun f L hf hL=>?_) b
  rw[qf] at hT nb
  obtain⟨a1,a2⟩:=hT (fun i=>f (2*i)) ((L+1) / 2) (fun i hi=>hf _ (by walk_at"o")) (by walk_at"o")
  obtain⟨b1,b2⟩:=nb (fun i=>f (2*i+1)) (L / 2) (fun i hi=>hf _ (by walk_at"o")) (by walk_at"o")
  refine⟨by rw[qP h0 h1];grind,fun z v N hN=>?_⟩
  rw[qP h0 h1] at z ⊢
  rw[a2 (by grind) (fun i=>v (2*i)) ((N+1) / 2) (by walk_at"o"),b2 (by grind) (fun i=>v (2*i+1)) (N / 2) (by walk_at"o")]
  grind
 ·obtain⟨F,hF⟩ : ∃ F:(Nat->Rat)->Nat->Rat,∀ g i,F g i=if i % 2=1 then g (i / 2) else 0:=⟨fun g i=>if i % 2=1 then g (i / 2) else 0,fun _ _=>rfl⟩
  have F0:∀ g i,F g (2*i)=0:=fun g i=>by rw[hF,if_neg (by walk_at"o")]
  have F1:∀ g i,F g (2*i+1)=g i:=fun g i=>by rw[hF,if_pos (by walk_at"o"),show (2*i+1) / 2=i by walk_at"o"]
  have e:∀ (g:Nat->Rat)(M:Nat),ip E (F f) (F g) (2*L) (2*M)=ip (fun i=>T (i+1)) f g L M:=fun g M=>by
   rw[qP h0 h1,sZ fun i=>F0 f i,show 2*L / 2=L by walk_at"o",show 2*M / 2=M by walk_at"o",show (fun i=>F f (2*i+1))=f from funext (F1 f),show (fun i=>F g (2*i+1))=g from funext (F1 g)]
   grind
  refine⟨F f,2*L,F v,2*N,fun i hi=>?_,by walk_at"o",by walk_at"o",by rw[e,e];exact z⟩
  rw[hF]
  split
  ·exact hf _ (by walk_at"o")
  ·rfl
theorem Dc{f:Nat->Rat}{y:Rat}:∀ n,ck f (n+1) y=f 0+y*ck (fun i=>f (i+1)) n y
 | 0=>by
  show 0+f 0*1=f 0+y*0
  grind
 | n+1=>by
  show ck f (n+1) y+f (n+1)*aO y (n+1)=f 0+y*(ck (fun i=>f (i+1)) n y+f (n+1)*aO y n)
  rw[Dc n,cU]
  grind
theorem wO{f g:Nat->Rat}{x:Rat}:∀ n,ck (fun i=>f i+g i) n x=ck f n x+ck g n x
 | 0=>by show (0:Rat)=0+0;grind
 | n+1=>by
  show ck (fun i=>f i+g i) n x+(f n+g n)*aO x n=(ck f n x+f n*aO x n)+(ck g n x+g n*aO x n)
  rw[wO n]
  grind
theorem Dn{a x:Rat}:∀ n,ck (fun j=>if j=0 then a else 0) (n+1) x=a
 | 0=>by
  show 0+(if (0:Nat)=0 then a else 0)*1=a
  rw[if_pos rfl]
  grind
 | n+1=>by
  show ck (fun j=>if j=0 then a else 0) (n+1) x+(if n+1=0 then a else 0)*aO x (n+1)=a
  rw[Dn n,if_neg (by walk_at"o")]
  grind
theorem tu(c:Rat):∀(L:Nat)(f:Nat->Rat),∃ g:Nat->Rat,Bd L g /\ ∀ x,ck g L x=ck f L (x+c)
 | 0,f=>⟨fun _=>0,fun _ _=>rfl,fun x=>rfl⟩
 | L+1,f=>by
  obtain⟨h,bh,eh⟩:=tu c L fun i=>f (i+1)
  refine⟨fun j=>(fun j=>if j=0 then f 0 else 0) j+lx (-c) h j,fun i hi=>?_,fun x=>?_⟩
  ·show (if i=0 then f 0 else 0)+lx (-c) h i=0
   unfold lx
   rw[if_neg (by walk_at"o"),if_neg (by walk_at"o"),bh (i - 1) (by walk_at"o"),bh i (by walk_at"o")]
   grind
  ·rw[wO,Dn,zo bh,eh,Dc]
   grind
def gL(s:Rat)(cs:List dQ)(k:Nat):Rat:=dW (fun x=>aO (x - s) k) cs
theorem ve{u v:Nat->Rat}{s:Rat}{m n:Nat}:∀ cs:List dQ,ip (gL s cs) u v m n=dW (fun x=>ck u m (x - s)*ck v n (x - s)) cs
 | []=>by
  show aG u (fun i=>aG v (fun j=>0) n) m=0
  exact aZ m fun i _=>by rw[aZ n fun j _=>by grind];grind
 | c :: cs=>by
  have e:gL s (c :: cs)=fun k=>(fun k=>wv c.2*aO (wv c.1 - s) k) k+gL s cs k:=rfl
  rw[e,km,rB,ve cs]
  rfl
theorem iY{u v:Nat->Rat}{s:Rat}{m n:Nat}:∀ cs:List dQ,ip (fun k=>gL s cs (k+1)) u v m n=dW (fun x=>(x - s)*(ck u m (x - s)*ck v n (x - s))) cs
 | []=>by
  show aG u (fun i=>aG v (fun j=>0) n) m=0
  exact aZ m fun i _=>by rw[aZ n fun j _=>by grind];grind
 | c :: cs=>by
  have e:(fun k=>gL s (c :: cs) (k+1))=fun k=>(fun k=>(wv c.2*(wv c.1 - s))*aO (wv c.1 - s) k) k+(fun k=>gL s cs (k+1)) k:=funext fun k=>by
   show wv c.2*aO (wv c.1 - s) (k+1)+gL s cs (k+1)=_
   rw[cU]
   grind
  rw[e,km,rB,iY cs]
  show _=wv c.2*((wv c.1 - s)*(ck u m (wv c.1 - s)*ck v n (wv c.1 - s)))+_
  grind
theorem uf{cs:List dQ}{s:Rat}(hw:∀ c ∈ cs,0<wv c.2)(n:Nat):¬ fA (gL s cs) n:=qf.mpr fun f L hf hL=>by
 have k:∀ c ∈ cs,0<wv c.2/\(0:Rat)<=(fun _=>1) (wv c.1):=fun c hc=>⟨hw c hc,by show (0:Rat)<=1;decide⟩
 obtain⟨a,b⟩:=vE (h:=fun _=>1) (G:=fun x=>ck f L (x - s)) k
 have e:∀ (v:Nat->Rat)(N:Nat),ip (gL s cs) f v L N=dW (fun x=>1*(ck f L (x - s)*ck v N (x - s))) cs:=fun v N=>by
  rw[ve]
  exact cN fun c _=>by grind
 refine⟨by rw[e];exact a,fun z v N _=>?_⟩
 rw[e] at z ⊢
 exact ox fun c hc=>by
  have:=b z c hc
  grind
theorem sy{cs:List dQ}{s:Rat}{m:Nat}:fA (fun k=>gL s cs (k+1)) m ↔ fA (fun k=>cj cs (k+1) - s*cj cs k) m:=by
 refine⟨fun ⟨f,L,v,N,hf,hL,hN,z⟩=>?_,fun ⟨f,L,v,N,hf,hL,hN,z⟩=>?_⟩
 ·obtain⟨g,bg,eg⟩:=tu (-s) L f
  obtain⟨u,_,eu⟩:=tu (-s) N v
  have q:∀ x:Rat,x + -s=x - s:=fun x=>by grind
  have a:ip (fun k=>cj cs (k+1) - s*cj cs k) g g L L=ip (fun k=>gL s cs (k+1)) f f L L:=by
   rw[gS,iY]
   exact cN fun c _=>by rw[eg,q]
  have b:ip (fun k=>cj cs (k+1) - s*cj cs k) g u L N=ip (fun k=>gL s cs (k+1)) f v L N:=by
   rw[gS,iY]
   exact cN fun c _=>by rw[eg,eu,q]
  exact⟨g,L,u,N,bg,hL,hN,by rw[a,b];exact z⟩
 ·obtain⟨g,bg,eg⟩:=tu s L f
  obtain⟨u,_,eu⟩:=tu s N v
  have q:∀ x:Rat,x - s+s=x:=fun x=>by grind
  have a:ip (fun k=>gL s cs (k+1)) g g L L=ip (fun k=>cj cs (k+1) - s*cj cs k) f f L L:=by
   rw[gS,iY]
   exact cN fun c _=>by rw[eg,q]
  have b:ip (fun k=>gL s cs (k+1)) g u L N=ip (fun k=>cj cs (k+1) - s*cj cs k) f v L N:=by
   rw[gS,iY]
   exact cN fun c _=>by rw[eg,eu,q]
  exact⟨g,L,u,N,bg,hL,hN,by rw[a,b];exact z⟩
end L2
set_option maxHeartbeats 8000000
namespace M
open PySem L2
def dc(i:Nat):Stmt:=PySem.Challenge.pw_momentwright_k73_whole_from_a_spot_on.main.body.getD i (.Pass ⟨0,0,0,0⟩)
abbrev fU:Stmt:=dc 5
theorem mj:aw ["thing"] ["thing"] (ag fU):=by walk_at"a3"
abbrev ci:Stmt:=dc 6
theorem gk:aw ["one", "other"] ["one", "other"] (ag ci):=by walk_at"a3"
abbrev jF:Stmt:=dc 7
theorem rY:aw ["base", "many", "product", "turn"] ["base", "many"] (ag jF):=by walk_at"a3"
abbrev gz:Stmt:=dc 8
theorem oP:aw ["numbers", "zero", "many"] ["numbers", "zero"] (ag gz):=by walk_at"a3"
abbrev bZ:Stmt:=dc 9
theorem ga:aw ["one", "other", "product", "j", "former", "k", "latter"] ["one", "other"] (ag bZ):=by walk_at"a3"
abbrev cI:Stmt:=dc 10
theorem g9:aw ["one", "other", "last", "rest", "quotient", "scale", "place", "part", "k"] ["one", "other"] (ag cI):=by walk_at"a3"
abbrev da:Stmt:=dc 11
theorem iO:aw ["one", "other", "told", "lead", "height", "gap", "bottom", "quotient", "rest", "scale", "top", "lack"] ["one", "other"] (ag da):=by walk_at"a3"
abbrev dz:Stmt:=dc 13
theorem i4:aw ["thing", "top", "bottom"] ["thing"] (ag dz):=by walk_at"a3"
abbrev jw:Stmt:=dc 14
theorem sn:aw ["top", "bottom", "divisor"] ["top", "bottom"] (ag jw):=by walk_at"a3"
abbrev jr:Stmt:=dc 15
theorem sG:aw ["one", "other"] ["one", "other"] (ag jr):=by walk_at"a3"
abbrev cH:Stmt:=dc 18
theorem ij:aw ["thing", "number"] ["thing"] (ag cH):=by walk_at"a3"
abbrev gx:Stmt:=dc 19
theorem oq:aw ["f", "bottom", "number"] ["f"] (ag gx):=by walk_at"a3"
abbrev gy:Stmt:=dc 20
theorem oT:aw ["wholes", "bottom"] ["wholes", "bottom"] (ag gy):=by walk_at"a3"
abbrev d9:Stmt:=dc 21
theorem j0:aw ["f", "g", "f_wholes", "f_bottom", "g_wholes", "g_bottom"] ["f", "g"] (ag d9):=by walk_at"a3"
abbrev jG:Stmt:=dc 22
theorem tq:aw ["f"] ["f"] (ag jG):=by walk_at"a3"
abbrev cP:Stmt:=dc 23
theorem iM:aw ["f", "g", "other", "f_wholes", "f_bottom", "g_wholes", "g_bottom", "rest", "scale"] ["f", "g", "other"] (ag cP):=by walk_at"a3"
abbrev gw:Stmt:=dc 24
theorem ou:aw ["f", "g", "wholes", "bottom", "former", "latter", "last", "rest", "quotient", "top", "scale", "numbers", "place", "whole"] ["f", "g"] (ag gw):=by walk_at"a3"
abbrev jB:Stmt:=dc 26
theorem sM:aw ["sums", "f", "numbers", "numbers_bottom", "wholes", "bottom"] ["sums", "f"] (ag jB):=by walk_at"a3"
abbrev eD:Stmt:=dc 27
theorem jW:aw ["sums", "f", "g"] ["sums", "f", "g"] (ag eD):=by walk_at"a3"
abbrev fu:Stmt:=dc 30
theorem kh:aw ["spot"] ["spot"] (ag fu):=by walk_at"a3"
abbrev eA:Stmt:=dc 31
theorem jX:aw ["above", "roots"] ["above", "roots"] (ag eA):=by walk_at"a3"
abbrev qh:Stmt:=dc 33
theorem Ax:aw ["wholes", "row", "k"] ["wholes", "row", "k"] (ag qh):=by walk_at"a3"
abbrev fQ:Stmt:=dc 34
theorem me:aw ["wholes", "row", "before", "k", "last", "height", "middle", "told", "place", "number"] ["wholes", "row", "before"] (ag fQ):=by walk_at"a3"
abbrev ff:Stmt:=dc 35
theorem kG:aw ["wholes", "rows", "before", "row"] ["wholes"] (ag ff):=by walk_at"a3"
abbrev jo:Stmt:=dc 36
theorem tF:aw ["sums", "wholes", "bottom", "told", "k", "row"] ["sums"] (ag jo):=by walk_at"a3"
abbrev cG:Stmt:=dc 37
theorem ie:aw ["sums", "row"] ["sums"] (ag cG):=by walk_at"a3"
abbrev lS:Stmt:=dc 39
theorem wD:aw ["sums", "f", "g"] ["sums", "f", "g"] (ag lS):=by walk_at"a3"
abbrev kX:Stmt:=dc 40
theorem vm:aw ["sums", "thing", "f", "square"] ["sums", "thing"] (ag kX):=by walk_at"a3"
abbrev dS:Stmt:=dc 41
theorem jZ:aw ["sums", "step", "k"] ["sums", "step"] (ag dS):=by walk_at"a3"
abbrev gB:Stmt:=dc 42
theorem oi:aw ["sums", "step", "square"] ["sums"] (ag gB):=by walk_at"a3"
abbrev hU:Stmt:=dc 43
theorem pV:aw ["told"] ["told"] (ag hU):=by walk_at"a3"
abbrev eo:Stmt:=dc 44
theorem jU:aw ["sums", "roots", "above"] ["sums", "roots"] (ag eo):=by walk_at"a3"
abbrev ma:Stmt:=dc 45
theorem wS:aw ["sums", "told"] ["sums"] (ag ma):=by walk_at"a3"
abbrev dD:Stmt:=dc 47
theorem iX:aw ["wholes", "spot", "top", "bottom"] ["wholes", "spot"] (ag dD):=by walk_at"a3"
abbrev fk:Stmt:=dc 48
theorem kP:aw ["sums", "spot", "wholes", "bottom"] ["sums", "spot"] (ag fk):=by walk_at"a3"
abbrev dy:Stmt:=dc 49
theorem iZ:aw ["sums", "spot", "wholes", "bottom", "told"] ["sums", "spot"] (ag dy):=by walk_at"a3"
abbrev fm:Stmt:=dc 50
theorem kv:aw ["sums", "spot", "told", "others", "behind", "word", "roots"] ["sums", "spot"] (ag fm):=by walk_at"a3"
abbrev cw:Stmt:=dc 51
theorem gO:aw ["sums", "spot", "thing"] ["sums", "spot", "thing"] (ag cw):=by walk_at"a3"
abbrev fe:Stmt:=dc 52
theorem ku:aw ["sums", "spot", "told", "number"] ["sums", "spot"] (ag fe):=by walk_at"a3"
abbrev pW:Stmt:=dc 54
theorem Ai:aw ["sums", "told"] ["sums"] (ag pW):=by walk_at"a3"
abbrev fO:Stmt:=dc 55
theorem mr:aw ["sums"] ["sums"] (ag fO):=by walk_at"a3"
abbrev lH:Stmt:=dc 57
theorem Am:aw ["_law_one", "_law_other"] ["_law_one", "_law_other"] (ag lH):=by walk_at"a3"
abbrev gC:Stmt:=dc 58
theorem pZ:aw ["_law_one", "_law_other"] ["_law_one", "_law_other"] (ag gC):=by walk_at"a3"
abbrev pY:Stmt:=dc 59
theorem Dg:aw ["_law_top", "_law_bottom", "_law_by"] ["_law_top", "_law_bottom"] (ag pY):=by walk_at"a3"
abbrev jP:Stmt:=dc 60
theorem vR:aw ["_law_one", "_law_other"] ["_law_one", "_law_other"] (ag jP):=by walk_at"a3"
abbrev gA:Stmt:=dc 61
theorem pX:aw ["_law_script", "_law_k"] ["_law_script", "_law_k"] (ag gA):=by walk_at"a3"
abbrev jt:Stmt:=dc 62
theorem wQ:aw ["_law_script", "_law_k", "_law_cell"] ["_law_script", "_law_k"] (ag jt):=by walk_at"a3"
abbrev lQ:Stmt:=dc 63
theorem zc:aw ["_law_state_here", "_law_many", "_law_found", "_law_mixed"] ["_law_state_here", "_law_many"] (ag lQ):=by walk_at"a3"
abbrev jM:Stmt:=dc 64
theorem vM:aw ["_law_state_here"] ["_law_state_here"] (ag jM):=by walk_at"a3"
abbrev jJ:Stmt:=dc 65
theorem vX:aw ["_law_state_here"] ["_law_state_here"] (ag jJ):=by walk_at"a3"
abbrev lV:Stmt:=dc 66
theorem yJ:aw ["_law_one", "_law_other"] ["_law_one", "_law_other"] (ag lV):=by walk_at"a3"
abbrev jC:Stmt:=dc 67
theorem uU:aw ["_law_state_here", "_law_most", "_law_found", "_law_spot", "_law_turn"] ["_law_state_here", "_law_most"] (ag jC):=by walk_at"a3"
abbrev ee:Stmt:=dc 68
theorem kA:aw ["_law_state_here", "_law_most", "_law_found"] ["_law_state_here", "_law_most"] (ag ee):=by walk_at"a3"
abbrev jy:Stmt:=dc 69
theorem vD:aw ["_law_one", "_law_other"] ["_law_one", "_law_other"] (ag jy):=by walk_at"a3"
abbrev dX:Stmt:=dc 70
theorem kT:aw ["_law_crowd_here", "_law_many", "_law_found", "_law_powers", "_law_k", "_law_amount", "_law_one"] ["_law_crowd_here", "_law_many"] (ag dX):=by walk_at"a3"
abbrev ju:Stmt:=dc 71
theorem wt:aw ["_law_crowd_here", "_law_sums", "_law_spot", "_law_found", "_law_has_one", "_law_few"] ["_law_crowd_here", "_law_sums", "_law_spot"] (ag ju):=by walk_at"a3"
abbrev kK:Stmt:=dc 72
theorem AK:aw ["_law_script", "_law_k", "_law_state_here", "_law_crowd_here", "_law_sums", "_law_least", "_law_spot"] ["_law_script"] (ag kK):=by walk_at"a3"
structure fL (K:W.Frag)(mg:Str->Option Value):Prop where
 non:True
 g_ZERO:GT K mg "ZERO" [V.int (0),V.int (1)]
 g_ONE:GT K mg "ONE" [V.int (1),V.int (1)]
 b_isinstance:mg "isinstance" = none
 b_bool:mg "bool" = none
 b_int:mg "int" = none
 b_abs:mg "abs" = none
 b_range:mg "range" = none
 b_len:mg "len" = none
 b_enumerate:mg "enumerate" = none
 b_max:mg "max" = none
 b_list:mg "list" = none
 b_tuple:mg "tuple" = none
 b_sum:mg "sum" = none
 b_zip:mg "zip" = none
 b_min:mg "min" = none
set_option compiler.extract_closed false
local macro_rules | `(tactic| walk_at "m")=>`(tactic| try simp only [L2.start,List.map_cons,List.map_nil,List.cons_append,List.nil_append,List.replicate_succ,List.replicate_zero,List.length_cons,List.length_nil,Nat.reduceSub,Nat.reduceAdd,Nat.zero_add,zH,xQ,E6,wM,G1,CO,DQ,CL,Hf,Gn,Hh,Di,Dh,Fm,EM,DI,ED,Cw,DE,Bh,Cc,DA,Fl,Cr,Cj,vK,Ac,Gq,Gc])
local macro_rules | `(tactic| walk_at "d")=>`(tactic| try dsimp only [aR,tY,zh,D3,D7,F2,yl,ux,gH,F3,jY,uu,DD,tC,BQ,GU,Fb,AZ,Ho,EN,AD,D8,Ft,GY,E2,G7,wI,sF,Ee,uO,id,Hi,qM,y9,GC,zH,Go,cJ,Bz,List.getElem?_cons_zero,List.getElem?_cons_succ,List.set_cons_zero,List.set_cons_succ,L2.start,Option.join,Option.bind,List.map_cons,List.map_nil,List.replicate_succ,List.replicate_zero,List.cons_append,List.nil_append,List.length_cons,List.length_nil,Nat.reduceSub,Nat.reduceAdd,Nat.zero_add,Be,u9,zT,ET,As,mI,GV,mU,Bv,BO,E5,DJ,E9,Fz,y7,FU,yA,vO,EB,Gy,zE,zV,wY,xC,yH,G8,Hk,Co,ze,zS,yO,Fw,Fi,cond])
local macro_rules | `(tactic| walk_at "s")=>`(tactic| try simp only [ny,CW,List.map_cons,List.map_nil,List.cons_append,List.nil_append,List.replicate_succ,List.replicate_zero,Option.join,Option.bind,cJ,FW,Gx,rI,rU,jj,cO,cZ,lh,mO,qx,BY,BX,xS,Aa,jY,uu,vN,FL,FN,gE,ki,ql,jE,C2,i6,dJ,gm,Do,CS,HO.lst.injEq,HO.tup.injEq,Bf,yF,Fc,Ae,exists_eq_left,exists_eq_left',exists_and_left,exists_and_right,V.int.injEq,V.bl.injEq,V.ref.injEq,V.str.injEq,V.ty.injEq,List.cons.injEq,and_true,true_and,and_self,List.getElem?_cons_zero,List.getElem?_cons_succ,Option.some.injEq,List.set_cons_zero,List.set_cons_succ,reduceCtorEq,or_false,false_or,false_and,and_false,exists_false,exists_eq,exists_eq',and_assoc,List.length_cons,List.length_nil,Nat.reduceSub,Nat.reduceAdd,Nat.zero_add,Bool.not_eq_true',decide_eq_false_iff_not,decide_eq_true_eq,CK,Al,Aw,xu,ne_eq,not_true_eq_false,not_false_eq_true,ite_true,ite_false,if_true,if_false,Bool.false_eq_true,Bool.not_true,Bool.not_false,Bool.true_eq_false])
local macro_rules | `(tactic| walk_at "vc")=>`(tactic| (walk_at "d"; walk_at "s"; walk_at "d"; walk_at "s"; walk_at "d"; walk_at "s"))
local macro_rules | `(tactic| walk_at "vc*")=>`(tactic| (walk_at "vc"; (repeat (simp only [*]; walk_at "vc"))))
section
variable {P:Program}{w:World}{K:W.Frag}{mg:Str->Option Value}{base:Heap}{f:Addr}{fd:FuncData}
def bj(K:W.Frag):Sp:=fun vs H Q _=>∃ a b:Int,vs=[.int a,.int b]/\Q (.int (Int.gcd a b)) H
theorem jS(F:eM K "greatest_divisor" "greatest_divisor" ci f fd) (T:fL K mg):bK P w K mg base eI 1 f fd ["one", "other"] (bj K):=by
 have scN:=gk.nd
 refine F.okQ gk (fun vs H Q E h=>?_) (fun cdv A outer s H vs Q E hr h=>?_)
 ·obtain⟨a,b,rfl,_⟩:=h
  rfl
 ·obtain⟨a,b,rfl,h⟩:=h
  refine⟨_,(ae (qT (i:=0) (j:=1) rfl scN rfl rfl (by decide) rfl rfl (aa (au nv (by rfl) T.b_abs tN (aa (qv 0) ac)) (aa (au nv (by rfl) T.b_abs tN (aa (qv 1) ac)) ac)) rfl)
   (ae (gG PassesOwn.never (aQ vC (qv 1) af (aI _)) (ah (qT (i:=0) (j:=1) rfl scN rfl rfl (by decide) rfl rfl (aa (qv 1) (aa (ao gr (qv 0) (qv 1)) ac)) rfl)))
   (ah (ap (qv 0))))),?_⟩
  walk_at"m"
  walk_at"vc"
  refine⟨fun m σ H'=>H'=H /\ ∃ x y:Int,σ=[some (.int x),some (.int y)]/\Int.gcd x y=Int.gcd a b/\0<=x/\0<=y/\m=y.natAbs,⟨_,rfl,_,_,rfl,?_,?_,?_,rfl⟩,?_⟩
  ·split <;> split <;> simp
  ·split <;> walk_at"o"
  ·split <;> walk_at"o"
  ·rintro m σ H' ⟨rfl,x,y,rfl,hg,hx,hy,rfl⟩
   walk_at"vc"
   refine ce (fun hy0=>?_) (fun hy0=>?_)
   ·refine⟨_,fun σ' H' h=>h,?_⟩
    walk_at"vc"
    exact⟨hy0,_,vB x hy0,by rw[sr,hg],hy,Int.fmod_nonneg_of_pos x (by walk_at"o"),rfl⟩
   ·walk_at"vc"
    have e:((Int.gcd a b:Nat):Int)=x:=by
     rw[<- hg,show y=0 by walk_at"o"]
     simp
     walk_at"o"
    rw[<- e]
    exact h
def cS(K:W.Frag):Sp:=fun vs H Q _=>∃ a b:Int,vs=[.int a,.int b]/\b ≠ 0/\Bt 90000000 b /\ ∀ v H',ay (vw K H) (vw K H')->aJ (vw K H') (fr (lo a b)) v->Q v H'
theorem zw(F:eM K "ratio" "ratio" jw f fd) (T:fL K mg)(N_:oX P base)(C_greatest_divisor:aS P w K mg base "greatest_divisor" ["one", "other"] 1 (bj K)):bK P w K mg base eI 2 f fd ["top", "bottom"] (cS K):=by
 have scN:=sn.nd
 refine F.okQ sn (fun vs H Q E h=>?_) (fun cdv A outer s H vs Q E hr h=>?_)
 ·obtain⟨a,b,rfl,_⟩:=h
  rfl
 ·obtain⟨a,b,rfl,hb,hbb,h⟩:=h
  refine⟨_,(ae (cc (aQ gX (qv 1) af (aI _)) (ah nY) aN)
   (ae (aC (i:=2) scN rfl (by walk_at"a1") (ai C_greatest_divisor (hr.mono (by walk_at"a2")) rfl (aa (qv 0) (aa (qv 1) ac))))
   (ae (cc (aQ mv (qv 1) af (aI _)) (ah (aC (i:=2) scN rfl (by walk_at"a1") (de cn (qv 2)))) aN)
   (ah (ap (bQ (aa (ao (gD N_ hr rfl rfl rfl) (qv 0) (qv 2)) (aa (ao (gD N_ hr rfl rfl rfl) (qv 1) (qv 2)) ac)))))))),?_⟩
  walk_at"m"
  walk_at"vc"
  simp only[bj]
  refine io hb ?_
  walk_at"vc"
  have hgn:Int.gcd a b ≠ 0:=fun e=>hb (Int.gcd_eq_zero_iff.mp e).2
  have e1:lg a b=if b<0 then -(Int.gcd a b:Int) else (Int.gcd a b:Int):=rfl
  have d1:xy a (-(Int.gcd a b:Int)):=by unfold xy;walk_at"o"
  have d2:xy a (Int.gcd a b:Int):=by unfold xy;walk_at"o"
  refine ce (fun hn=>?_) (fun hn=>?_)
  ·rw[if_pos hn] at e1
   refine⟨d1,d1,by decide,fun p H2 hp S hp2=>h _ H2 S ?_⟩
   rw[<- e1] at hp2
   exact bU hp2
  ·rw[if_neg hn] at e1
   refine⟨d2,d2,by decide,fun p H2 hp S hp2=>h _ H2 S ?_⟩
   rw[<- e1] at hp2
   exact bU hp2
def kH(K:W.Frag):Sp:=fun vs H Q _=>∃ x y p q,vs=[x,y]/\aJ (vw K H) (fr p) x/\aJ (vw K H) (fr q) y/\p.2 ≠ 0/\q.2 ≠ 0/\Bq 1000000 p/\Bq 1000000 q/\Bt 90000000 (p.2*q.2) /\ ∀ v H',ay (vw K H) (vw K H')->aJ (vw K H') (fr (sI p q)) v->Q v H'
theorem zD(F:eM K "times" "times" jr f fd) (T:fL K mg)(C_ratio:aS P w K mg base "ratio" ["top", "bottom"] 2 (cS K)):bK P w K mg base eI 3 f fd ["one", "other"] (kH K):=by
 have scN:=sG.nd
 refine F.okQ sG (fun vs H Q E h=>?_) (fun cdv A outer s H vs Q E hr h=>?_)
 ·obtain⟨_,_,_,_,rfl,_⟩:=h
  rfl
 ·obtain⟨x,y,p,q,rfl,hx,hy,np,nq,bp,bq,bb,h⟩:=h
  refine⟨_,(ah (ap (ai C_ratio (hr.mono (by walk_at"a2")) rfl (aa (ao aH (aA b9 (qv 0) af (fun _ _=>rfl)) (aA b9 (qv 1) af (fun _ _=>rfl))) (aa (ao aH (aA b9 (qv 0) af (fun _ _=>rfl)) (aA b9 (qv 1) af (fun _ _=>rfl))) ac))))),?_⟩
  walk_at"m"
  obtain⟨a,rfl,ha⟩:=hx.fr_at
  obtain⟨b,rfl,hb⟩:=hy.fr_at
  walk_at"vc*"
  simp only[cS]
  walk_at"vc*"
  exact⟨bO bp.1 bq.1 (by decide),bO bp.2 bq.2 (by decide),Int.mul_ne_zero np nq,h⟩
def aP(K:W.Frag):Sp:=fun vs H Q _=>∃ (a:Addr)(qs:List (Int × Int))(B:Nat),vs=[.ref a]/\aM (vw K H) a qs/\qs.length<=14/\B<=4000000/\(∀ q ∈ qs,Fq q/\Bq B q) /\
 ∀ p b H' (D:Int)(ns:List Int),ay (vw K H) (vw K H')->vw K H' p=some (.tup [.ref b,.int D])->vw K H' b=some (.lst (ns.map V.int))->vw K H b=none->0<D->Bt (1+qs.length*B) D->ns.length=qs.length ->
  (∀ (i:Nat)(n:Int)(q:Int × Int),ns[i]? = some n->qs[i]? = some q->(n:Rat)=wv q*(D:Rat)/\Bt (1+qs.length*B+B) n)->(∀ E:Int,(∀ q ∈ qs,q.2 ∣ E)->D ∣ E)->Q (.ref p) H'
theorem uz(F:eM K "cleared" "cleared" gx f fd) (T:fL K mg)(N_:oX P base)(C_greatest_divisor:aS P w K mg base "greatest_divisor" ["one", "other"] 1 (bj K)):bK P w K mg base eI 2 f fd ["f"] (aP K):=by
 have scN:=oq.nd
 refine F.okQ oq (fun vs H Q E h=>?_) (fun cdv A outer s H vs Q E hr h=>?_)
 ·obtain⟨a,_,_,rfl,_⟩:=h
  rfl
 ·obtain⟨a,qs,B,rfl,ha,hql,hB,hq,h⟩:=h
  refine⟨_,(ae (aC (i:=1) scN rfl (by walk_at"a1") af)
   (ae (cT PassesOwn.never rfl (cu (qv 0)) (ak (i:=2) scN rfl (by walk_at"a1")) (ah (iC (i:=1) scN rfl (by walk_at"a1") (ao (gD N_ hr rfl rfl rfl) (aA b9 (qv 2) af (fun _ _=>rfl)) (ai C_greatest_divisor (hr.mono (by walk_at"a2")) rfl (aa (qv 1) (aa (aA b9 (qv 2) af (fun _ _=>rfl)) ac)))) nh)))
   (ah (ap (bQ (aa (dF (own:=["top", "own"]) (outs:=["bottom"]) (ixs:=[1]) rfl (cu (qv 0)) rfl ⟨rfl,rfl,rfl,⟨rfl,trivial⟩,rfl,⟨⟨rfl,rfl,rfl,_,rfl⟩,trivial⟩⟩ (fun _ _ _ _=>⟨(show QG _ _ (i6 K 2 _) from aX (n:=2) rfl (am (ak (i:=0) (show (["top", "own", "bottom"]:List Str).Nodup by decide +kernel) rfl (by walk_at"a1")) (am (ak (i:=1) (show (["top", "own", "bottom"]:List Str).Nodup by decide +kernel) rfl (by walk_at"a1")) aY))),dg,(ao (show eK _ _ (gK K) from aH) (qv 0) (ao (sW N_ hr rfl rfl rfl rfl rfl) (qv 2) (qv 1)))⟩)) (aa (qv 1) ac))))))),?_⟩
  walk_at"m"
  walk_at"vc"
  obtain⟨xs,hxs,rxs⟩:=id ha
  have hlx:xs.length=qs.length:=by rw[rxs.length,List.length_map]
  have hLB:∀ i,i<=qs.length->i*B<=56000000:=fun i hi=>Nat.le_trans (Nat.mul_le_mul (Nat.le_trans hi hql) hB) (by decide)
  refine⟨⟨xs,.of (aF hxs)⟩,?_⟩
  obtain⟨Pv,hPv⟩ : ∃ Pv:Nat->St->Hp->Prop,∀ i σ H',Pv i σ H' ↔ H'=H /\ ∃ b y,σ=[some (.ref a),some (.int b),y]/\0<b/\Bt (1+i*B) b/\(∀ q ∈ qs.take i,q.2 ∣ b) /\ ∀ E:Int,(∀ q ∈ qs.take i,q.2 ∣ E)->b ∣ E:=⟨_,fun _ _ _=>Iff.rfl⟩
  refine cg (its:=xs) Pv (fun i σ H' _ p=>?_) ((hPv _ _ _).mpr ⟨rfl,_,_,rfl,by decide,by rw[Nat.zero_mul];decide,(by simp),fun E _=>Int.one_dvd E⟩) (fun i x σ H1 hi hx pv=>?_) (fun σ H1 pv=>?_)
  ·obtain⟨rfl,_⟩:=(hPv _ _ _).mp p
   exact aU hxs
  ·obtain⟨rfl,b,y,rfl,hb,bb,hd,hm⟩:=(hPv _ _ _).mp pv
   have hi':i<qs.length:=by walk_at"o"
   obtain⟨d,e,r⟩:=rxs.get hx
   rw[List.getElem?_map,List.getElem?_eq_getElem hi'] at e
   cases e
   obtain⟨p,rfl,hp⟩:=r.fr_at
   obtain⟨fq,bq⟩:=hq qs[i] (List.getElem_mem hi')
   obtain⟨l1,l2,l3,l4,l5⟩:=sS hb fq.1
   walk_at"vc"
   simp only[bj]
   walk_at"vc"
   refine⟨_,hp,_,gm,_,hp,_,gm,_,rfl,?_⟩
   walk_at"vc"
   have hgb:Bt B (Int.gcd b qs[i].2:Int):=bq.2.le (by walk_at"o") l5
   have hcb:Bt B (qs[i].2.fdiv (Int.gcd b qs[i].2:Int)):=bq.2.le (by walk_at"o") l2
   have:=hLB i (by walk_at"o")
   refine⟨l4,bO bb hcb (by walk_at"o"),(hPv _ _ _).mpr ⟨rfl,_,_,rfl,Int.mul_pos hb l1,(bb.mul hcb).mono (by rw[Nat.add_mul];walk_at"o"),fun q hq'=>?_,fun E hE=>?_⟩⟩
   ·rw[List.take_add_one,List.getElem?_eq_getElem hi'] at hq'
    rcases List.mem_append.mp hq' with z|z
    ·exact Int.dvd_trans (hd q z) (Int.dvd_mul_right _ _)
    ·cases List.mem_singleton.mp z
     exact l3
   ·rw[List.take_add_one,List.getElem?_eq_getElem hi'] at hE
    exact CV hb fq.1 (hm E fun q z=>hE q (List.mem_append.mpr (.inl z))) (hE _ (List.mem_append.mpr (.inr (List.mem_singleton.mpr rfl))))
  ·obtain⟨rfl,D,y,rfl,hD,bD,hd,hmin⟩:=(hPv _ _ _).mp pv
   rw[hlx] at bD hd hmin
   rw[List.take_length] at hd hmin
   have hLBq:=hLB qs.length (Nat.le_refl _)
   walk_at"vc"
   refine⟨⟨xs,.of (aF hxs)⟩,fun c H2 hc S2 h2=>?_⟩
   refine oR (its:=xs) (ps:=qs.map fun q=>(V.int q.1,V.int q.2)) (fun i ys H'=>ay (vw K H1) (vw K H')/\ys=(qs.take i).map fun q=>V.int (q.1*D.fdiv q.2)) (by rw[List.length_map];exact hlx) (fun i ys H' _ _ p=>⟨aU (p.1 _ _ hxs),fun j u v e=>?_⟩) h2 ⟨S2,rfl⟩ (fun i u v ys H' hi huv h' p=>?_) (fun ys H' h' p=>?_)
   ·rw[List.getElem?_map] at e
    cases e2:qs[j]? with
    | none=>rw[e2] at e;cases e
    | some q =>
     rw[e2] at e
     cases e
     obtain⟨x,e3,r⟩:=rxs.at (i:=j) (d:=fr q) (by rw[List.getElem?_map,e2];rfl)
     obtain⟨p2,rfl,hp2⟩:=r.fr_at
     exact⟨p2,e3,p.1 _ _ hp2⟩
   ·obtain⟨S',rfl⟩:=p
    rw[List.length_map] at hi
    rw[List.getElem?_map,List.getElem?_eq_getElem hi] at huv
    cases huv
    obtain⟨fq,bq⟩:=hq qs[i] (List.getElem_mem hi)
    obtain⟨c1,c2,c3⟩:=sE fq (hd qs[i] (List.getElem_mem hi)) hD bD bq.1
    walk_at"vc"
    refine⟨(show xy _ _ from fun z=>by have:=fq.1;walk_at"o"),bO bq.1 c3 (by walk_at"o"),.mk2 h' ?_ fun H5 B5 h5=>⟨fun b o e=>B5 _ _ (aj e hc) (S' _ _ e),?_⟩⟩
    ·rw[List.length_map,List.length_take]
     have:1000<=sizeLine:=by decide
     walk_at"o"
    ·rw[List.take_add_one,List.getElem?_eq_getElem hi,List.map_append]
     rfl
   ·obtain⟨S',rfl⟩:=p
    rw[List.length_map,List.take_length] at h'
    walk_at"vc"
    refine⟨by decide,fun p5 H5 hp5 S5 h5=>h p5 c H5 D (qs.map fun q=>q.1*D.fdiv q.2) (S'.trans S5) h5 (by rw[List.map_map];exact S5 _ _ h') hc hD bD (by rw[List.length_map]) (fun i n q e1 e2=>?_) hmin⟩
    rw[List.getElem?_map,e2] at e1
    cases e1
    have hm:=List.mem_of_getElem? e2
    obtain⟨fq,bq⟩:=hq q hm
    obtain⟨c1,c2,c3⟩:=sE fq (hd q hm) hD bD bq.1
    exact⟨c1,c2⟩
def ml(K:W.Frag):Sp:=fun vs H Q _=>∃ (a:Addr)(ns:List Int),vs=[.ref a,.int 0]/\vw K H a=some (.lst (ns.map V.int)) /\
 ∀ b H' (ms:List Int),ay (vw K H) (vw K H')->vw K H' b=some (.lst (ms.map V.int))->vw K H b=none->(∀ k,nz ms k=nz ns k)->ms.length<=ns.length->(ms.length ≠ 0->nz ms (ms.length - 1) ≠ 0)->Q (.ref b) H'
def dI(K:W.Frag):Sp:=fun vs H Q E=>(∃ (a z:Addr)(qs:List (Int × Int)),vs=[.ref a,.ref z]/\aM (vw K H) a qs/\vw K H z=some (.tup [.int 0,.int 1])/\(∀ q ∈ qs,Fq q) /\
 ∀ b H' (rs:List (Int × Int)),ay (vw K H) (vw K H')->aM (vw K H') b rs->vw K H b=none->aL rs->(∀ k,cf rs k=cf qs k)->rs.length<=qs.length->(∀ q ∈ rs,q ∈ qs)->Q (.ref b) H')\/ml K vs H Q E
theorem uC(F:eM K "trimmed" "trimmed" gz f fd) (T:fL K mg):bK P w K mg base eI 1 f fd ["numbers", "zero"] (dI K):=by
 have scN:=oP.nd
 refine F.okQ oP (fun vs H Q E h=>?_) (fun cdv A outer s H vs Q E hr h=>?_)
 ·rcases h with ⟨a,_,_,rfl,_⟩|⟨a,_,rfl,_⟩ <;> rfl
 rcases h with ⟨a,z,qs,rfl,ha,hz,hF,h⟩|⟨a,ns,rfl,ha,h⟩
 ·skip
  refine⟨_,(ae (aC (i:=2) scN rfl (by walk_at"a1") (au aB (by rfl) T.b_len aV (aa (qv 0) ac)))
   (ae (gG PassesOwn.never (QW.pt (iD (aQ mq (qv 2) af (aI _)) (gY (aQ (lO hr.u64) (aA dL (qv 0) (ao dE (qv 2) af) (fun _ _=>rfl)) (qv 1) (aI _))))) (ah (iC (i:=2) scN rfl (by walk_at"a1") af nJ)))
   (ah (ap (cR fB (qv 0) dZ (dU (qv 2))))))),?_⟩
  walk_at"m"
  walk_at"vc"
  refine⟨_,ha.len,fun m σ H'=>H'=H/\m<=qs.length/\(∀ q ∈ qs.drop m,q.1=0)/\σ=[some (.ref a),some (.ref z),some (.int m)],⟨_,rfl,Nat.le_refl _,by simp,rfl⟩,?_⟩
  rintro k σ H' ⟨rfl,hk,hdr,rfl⟩
  obtain⟨xs,hax,rx⟩:=ha
  have hlx:xs.length=qs.length:=by rw[rx.length,List.length_map]
  have fin:(∀ q,(qs.take k).getLast? = some q->q.1 ≠ 0)->Nw K H' (HO.lst (gu xs none (some (k:Int)))) Q:=fun hq p H2 hp S2 h2=>by
   rw[qD (by walk_at"o")] at h2
   refine h p H2 (qs.take k) S2 ⟨_,h2,?_⟩ hp ⟨fun q hq'=>hF q (List.mem_of_mem_take hq'),hq⟩ (CH hF hdr) (by rw[List.length_take];walk_at"o") fun q hq'=>List.mem_of_mem_take hq'
   rw[List.map_take]
   exact (rx.take k).same S2
  walk_at"vc"
  refine ce (fun h0=>?_) (fun h0=>?_)
  ·have hk1:k - 1<qs.length:=by walk_at"o"
   obtain⟨x,hx,r⟩:=rx.at (i:=k - 1) (d:=fr qs[k - 1]) (by rw[List.getElem?_map,List.getElem?_eq_getElem hk1];rfl)
   have e1:((k:Int) - 1)=((k - 1:Nat):Int):=by walk_at"o"
   have fq:=hF qs[k - 1] (List.getElem_mem hk1)
   refine⟨_,hax,_,by rw[e1];exact dj hx,_,r,fr (0,1),bU hz,gi _,gi _,?_⟩
   rw[lC]
   refine ce (fun hq=>?_) (fun hq=>?_)
   ·have hq0:qs[k - 1].1=0:=(mX fq).mp (of_decide_eq_true hq)
    refine⟨_,fun σ' H'' z=>z,?_⟩
    refine⟨_,_,rfl,rfl,k - 1,by walk_at"o",rfl,by walk_at"o",fun q' hq'=>?_,by rw[<- e1]⟩
    rw[List.drop_eq_getElem_cons hk1,show k - 1+1=k by walk_at"o"] at hq'
    rcases List.mem_cons.mp hq' with z|z
    ·rw[z]
     exact hq0
    ·exact hdr q' z
   ·refine⟨_,hax,fin fun q hq2=>?_⟩
    have:(qs.take k).getLast? = some qs[k - 1]:=by
     rw[List.getLast?_eq_getElem?,List.length_take,List.getElem?_take]
     rw[if_pos (by walk_at"o"),show min k qs.length - 1=k - 1 by walk_at"o",List.getElem?_eq_getElem hk1]
    rw[this] at hq2
    cases hq2
    exact fun e=>hq (decide_eq_true ((mX fq).mpr e))
  ·refine⟨_,hax,fin fun q hq=>?_⟩
   rw[show k=0 by walk_at"o"] at hq
   cases hq
 ·refine⟨_,(ae (aC (i:=2) scN rfl (by walk_at"a1") (au aB (by rfl) T.b_len aV (aa (qv 0) ac)))
   (ae (gG PassesOwn.never (QW.pt (iD (aQ mq (qv 2) af (aI _)) (gY (aQ (lO hr.u64) (aA dL (qv 0) (ao dE (qv 2) af) (fun _ _=>rfl)) (qv 1) (aI _))))) (ah (iC (i:=2) scN rfl (by walk_at"a1") af nJ)))
   (ah (ap (cR fB (qv 0) dZ (dU (qv 2))))))),?_⟩
  walk_at"m"
  walk_at"vc"
  have hln:fz (vw K H) a=some ns.length:=by simp only[fz,ha,List.length_map]
  refine⟨_,hln,fun m σ H'=>H'=H/\m<=ns.length/\(∀ q ∈ ns.drop m,q=0)/\σ=[some (.ref a),some (.int 0),some (.int m)],⟨_,rfl,Nat.le_refl _,by simp,rfl⟩,?_⟩
  rintro k σ H' ⟨rfl,hk,hdr,rfl⟩
  have fin:(k ≠ 0->nz ns (k - 1) ≠ 0)->Nw K H' (HO.lst (gu (ns.map V.int) none (some (k:Int)))) Q:=fun hz p H2 hp S2 h2=>by
   rw[qD (by simpa using hk),<- List.map_take] at h2
   exact h p H2 (ns.take k) S2 h2 hp (wy hdr) (by rw[List.length_take];walk_at"o") (by rw[List.length_take,Nat.min_eq_left hk,wy hdr];exact hz)
  walk_at"vc"
  refine ce (fun h0=>?_) (fun h0=>?_)
  ·have hk1:k - 1<ns.length:=by walk_at"o"
   have e1:((k:Int) - 1)=((k - 1:Nat):Int):=by walk_at"o"
   have hx:(ns.map V.int)[k - 1]? = some (V.int ns[k - 1]):=by rw[List.getElem?_map,List.getElem?_eq_getElem hk1];rfl
   refine⟨_,ha,_,by rw[e1];exact dj hx,_,.mk_int _,.int 0,.mk_int _,rA _,rA _,?_⟩
   rw[CM]
   refine ce (fun hq=>?_) (fun hq=>?_)
   ·have hq0:ns[k - 1]=0:=of_decide_eq_true hq
    refine⟨_,fun σ' H'' z=>z,?_⟩
    refine⟨_,_,rfl,rfl,k - 1,by walk_at"o",rfl,by walk_at"o",fun q' hq'=>?_,by rw[<- e1]⟩
    rw[List.drop_eq_getElem_cons hk1,show k - 1+1=k by walk_at"o"] at hq'
    rcases List.mem_cons.mp hq' with z|z
    ·rw[z]
     exact hq0
    ·exact hdr q' z
   ·exact⟨_,ha,fin fun _=>by rw[cp (List.getElem?_eq_getElem hk1)];exact fun e=>hq (decide_eq_true e)⟩
  ·exact⟨_,ha,fin fun z=>by walk_at"o"⟩
def cy(K:W.Frag):Sp:=fun vs H Q _=>∃ (a b:Addr)(ms ns:List Int)(m c:Nat),vs=[.ref a,.ref b]/\vw K H a=some (.lst (ms.map V.int))/\vw K H b=some (.lst (ns.map V.int))/\0<ns.length/\nz ns (ns.length - 1) ≠ 0/\ms.length<=14/\ns.length<=9/\m<=40000000/\c<=20000/\(∀ x ∈ ms,Bt m x)/\(∀ x ∈ ns,Bt c x) /\
 ∀ (p qa ra:Addr)(S:Int)(qs rs:List Int)(H':Hp),ay (vw K H) (vw K H')->vw K H' p=some (.tup [.ref qa,.ref ra,.int S])->vw K H' qa=some (.lst (qs.map V.int))->vw K H' ra=some (.lst (rs.map V.int))->vw K H ra=none->qs.length=ms.length+1 - ns.length->rs.length<ns.length->(∃ e,e<=ms.length+1 - ns.length/\S=nz ns (ns.length - 1) ^ e)->Bt 300000 S->(∀ x ∈ qs,Bt (m+400000) x)->(∀ x ∈ rs,Bt (m+400000) x)->(rs.length ≠ 0->nz rs (rs.length - 1) ≠ 0)->(∀ k,S*nz ms k=pz (nz qs) (nz ns) qs.length k+nz rs k)->Q (.ref p) H'
theorem lN(F:eM K "wholes_parted" "wholes_parted" cI f fd) (T:fL K mg)(N_:oX P base)(C_trimmed:aS P w K mg base "trimmed" ["numbers", "zero"] 1 (dI K)):bK P w K mg base eI 2 f fd ["one", "other"] (cy K):=by
 have scN:=g9.nd
 refine F.okQ g9 (fun vs H Q E h=>?_) (fun cdv A outer s H vs Q E hr h=>?_)
 ·obtain⟨a,_,_,_,_,_,rfl,_⟩:=h
  rfl
 ·obtain⟨a,b,ms,ns,m,c,rfl,ha,hb,ln0,hL,lm,ln,hm,hc,bm,bn,h⟩:=h
  refine⟨_,(ae (aC (i:=2) scN rfl (by walk_at"a1") (aA dL (qv 1) (de cn af) (fun _ _=>rfl)))
   (ae (aC (i:=3) scN rfl (by walk_at"a1") (fM eV (by rfl) T.b_list gR (aa (qv 0) ac)))
   (ae (aC (i:=4) scN rfl (by walk_at"a1") (ao aH (bC (aa af ac)) (au (pP rfl) (by rfl) T.b_max zb (aa af (aa (ao cb (ao dE (au aB (by rfl) T.b_len aV (aa (qv 0) ac)) (au aB (by rfl) T.b_len aV (aa (qv 1) ac))) af) ac)))))
   (ae (aC (i:=5) scN rfl (by walk_at"a1") af)
   (ae (cT PassesOwn.never rfl (xT rfl T.b_range (aa (ao dE (au aB (by rfl) T.b_len aV (aa (qv 0) ac)) (au aB (by rfl) T.b_len aV (aa (qv 1) ac))) (aa (de cn af) (aa (de cn af) ac)))) (ak (i:=6) scN rfl (by walk_at"a1")) (ae (aC (i:=7) scN rfl (by walk_at"a1") (Fx PySem.F.plainAttrs_list PySem.F.slot_list_pop PySem.F.type_list_pop Cq (qv 3)))
   (ae (cc (aQ gX (ao gr (qv 7) (qv 2)) af (aI _)) (ah (iC (i:=7) scN rfl (by walk_at"a1") (qv 2) (y0 N_ hr rfl rfl rfl))) (ae (iC (i:=5) scN rfl (by walk_at"a1") (qv 2) nh)
   (ae (kQ (i:=4) (own:=["whole"]) (outs:=["last"]) (ixs:=[2]) scN rfl (by walk_at"a1") rfl (cu (qv 4)) rfl ⟨rfl,rfl,rfl,⟨rfl,trivial⟩,rfl,⟨⟨rfl,rfl,rfl,_,rfl⟩,trivial⟩⟩ (fun _ _ _ _=>⟨(ak (i:=0) (show (["whole", "last"]:List Str).Nodup by decide +kernel) rfl (by walk_at"a1")),dg,(ao (show eK _ _ (gK K) from aH) (qv 1) (qv 0))⟩))
   (ah (kQ (i:=3) (own:=["whole"]) (outs:=["last"]) (ixs:=[2]) scN rfl (by walk_at"a1") rfl (cu (qv 3)) rfl ⟨rfl,rfl,rfl,⟨rfl,trivial⟩,rfl,⟨⟨rfl,rfl,rfl,_,rfl⟩,trivial⟩⟩ (fun _ _ _ _=>⟨(ak (i:=0) (show (["whole", "last"]:List Str).Nodup by decide +kernel) rfl (by walk_at"a1")),dg,(ao (show eK _ _ (gK K) from aH) (qv 1) (qv 0))⟩))))))
   (ae (cM (qv 7) (tX (qv 4) (qv 6) fb))
   (ah (cT PassesOwn.never rfl (fg rfl T.b_range (aa (ao dE (au aB (by rfl) T.b_len aV (aa (qv 1) ac)) af) ac)) (ak (i:=8) scN rfl (by walk_at"a1")) (ah (kJ (qv 3) (ao cb (qv 6) (qv 8)) ig (ao aH (qv 7) (aA dL (qv 1) (qv 8) (fun _ _=>rfl))) nJ fb))))))))
   (ah (ap (bQ (aa (qv 4) (aa (ai C_trimmed (hr.mono (by walk_at"a2")) rfl (aa (qv 3) (aa af ac))) (aa (qv 5) ac))))))))))),?_⟩
  walk_at"m"
  skip
  obtain⟨L,hLd⟩ : ∃ L,L=nz ns (ns.length - 1):=⟨_,rfl⟩
  have hgl:ns.length - 1<ns.length:=by walk_at"o"
  have nl:ns[ns.length - 1]=L:=by rw[hLd,cp (List.getElem?_eq_getElem hgl)]
  have bL:Bt c L:=nl ▸ bn _ (List.getElem_mem hgl)
  rw[<- hLd] at hL
  have xl:(ns.map V.int).getLast? = some (.int L):=by
   rw[List.getLast?_eq_getElem?,List.length_map,List.getElem?_map,List.getElem?_eq_getElem hgl,nl]
   rfl
  refine aR.gen fun N1 hN1=>?_
  walk_at"vc"
  refine⟨_,hb,_,eP xl,hN1 _ _ ?_⟩
  refine aR.gen fun N2 hN2=>?_
  walk_at"vc"
  refine⟨_,ha,fun r1 H1 hr1 S1 h1=>hN2 _ _ ?_⟩
  refine aR.gen fun N3 hN3=>?_
  walk_at"vc"
  have lena:∀ {H':Hp},ay (vw K H) (vw K H')->fz (vw K H') a=some ms.length:=fun S=>by simp only[fz,S _ _ ha,List.length_map]
  have lenb:∀ {H':Hp},ay (vw K H) (vw K H')->fz (vw K H') b=some ns.length:=fun S=>by simp only[fz,S _ _ hb,List.length_map]
  refine⟨by decide,fun p2 H2 hp2 S2 h2=>?_⟩
  have S02:=S1.trans S2
  refine⟨_,lena S02,_,lenb S02,?_⟩
  obtain⟨n,hn,hnn⟩ : ∃ n:Nat,(if (ms.length:Int) - (ns.length:Int)+1 > 0 then (ms.length:Int) - (ns.length:Int)+1 else 0)=(n:Int)/\n=ms.length+1 - ns.length:=by
   refine⟨ms.length+1 - ns.length,?_,rfl⟩
   split <;> walk_at"o"
  rw[hn,ki]
  refine⟨_,h2,by walk_at"o",by walk_at"o",?_,fun q1 H3 hq1 S3 h3=>hN3 _ _ ?_⟩
  ·have:1000<=sizeLine:=by decide
   simp
   walk_at"o"
  rw[show ((n:Nat):Int).toNat=n by walk_at"o",rR] at h3
  have S03:=S02.trans S3
  refine aR.gen fun N4 hN4=>?_
  walk_at"vc"
  refine hN4 _ _ ?_
  refine aR.gen fun N5 hN5=>?_
  walk_at"vc"
  simp only[AL]
  walk_at"vc"
  refine⟨_,lena S03,_,lenb S03,by walk_at"o",by walk_at"o",by decide,by decide,?_⟩
  rw[show ((ms.length:Int) - (ns.length:Int) - -1).toNat=n by walk_at"o"]
  have nr1:vw K H r1=none:=hr1
  have nq1:vw K H q1=none:=S02.none hq1
  obtain⟨Pv,hPv⟩ : ∃ Pv:Nat->St->Hp->Prop,∀ i σ H',Pv i σ H' ↔ ∃ (ra qa:Addr)(rs qs:List Int)(S:Int)(o6 o7 o8:Option V),σ=[some (.ref a),some (.ref b),some (.int L),some (.ref ra),some (.ref qa),some (.int S),o6,o7,o8]/\ay (vw K H) (vw K H') /\
    vw K H' ra=some (.lst (rs.map V.int))/\vw K H' qa=some (.lst (qs.map V.int))/\vw K H ra=none/\vw K H qa=none/\ra ≠ qa/\rs.length+i=ms.length/\qs.length=n/\(∃ e,e<=i/\S=L ^ e)/\Bt (1+c*i) S/\(∀ x ∈ rs,Bt (m+(c+1)*i) x)/\(∀ x ∈ qs,Bt (m+(c+1)*i) x) /\
    (∀ k,k+i+ns.length<=ms.length->nz qs k=0)/\(∀ k,S*nz ms k=pz (nz qs) (nz ns) n k+nz rs k):=⟨_,fun _ _ _=>Iff.rfl⟩
  refine cg (its:=ye ((ms.length:Int) - (ns.length:Int)) n) Pv (fun _ _ _ _ _=>yP) ((hPv _ _ _).mpr ⟨r1,q1,ms,List.replicate n 0,1,_,_,_,rfl,S03,(S2.trans S3) _ _ h1,?_,nr1,nq1,?_,by walk_at"o",by simp,⟨0,by walk_at"o",(Int.pow_zero _).symm⟩,?_,fun x hx=>(bm x hx).mono (by walk_at"o"),fun x hx=>?_,fun k _=>?_,fun k=>?_⟩) (fun i x σ H4 hi hx pv=>?_) (fun σ H4 pv=>?_)
  ·rw[h3,wd]
  ·exact aj (S2 _ _ h1) hq1
  ·exact Bt.mono (m:=1) (by decide) (by walk_at"o")
  ·rw[(List.mem_replicate.mp hx).2]
   exact jp
  ·unfold nz
   rw[List.getD_eq_getElem?_getD,List.getElem?_replicate]
   split <;> rfl
  ·rw[vS (f:=nz (List.replicate n 0)) (fun i=>by
    unfold nz
    rw[List.getD_eq_getElem?_getD,List.getElem?_replicate]
    split <;> rfl)]
   walk_at"o"
  ·obtain⟨ra,qa,rs,qs,S,o6,o7,o8,rfl,S4,hra,hqa,nra,nqa,nrq,lrs,lqs,nS,bS,br,bq,zq,ev⟩:=(hPv _ _ _).mp pv
   obtain⟨hi',rfl⟩:=Ez hx
   obtain⟨p,hp⟩ : ∃ p:Nat,(ms.length:Int) - (ns.length:Int) - (i:Int)=(p:Int):=⟨ms.length - ns.length - i,by walk_at"o"⟩
   have hpi:p+i+ns.length=ms.length:=by walk_at"o"
   have hrl:rs.length - 1<rs.length:=by walk_at"o"
   obtain⟨Pt,hPt⟩ : ∃ Pt,Pt=rs[rs.length - 1]:=⟨_,rfl⟩
   have hi9:i<=13:=by walk_at"o"
   have hci:(c+1)*i<=20001*13:=Nat.mul_le_mul (by walk_at"o") hi9
   have hci2:c*i<=20000*13:=Nat.mul_le_mul hc hi9
   rw[hp]
   simp only[gH]
   refine aR.gen fun M1 hM1=>?_
   walk_at"vc"
   have xp:(rs.map V.int)[(rs.map V.int).length - 1]? = some (.int Pt):=by
    rw[List.length_map,List.getElem?_map,List.getElem?_eq_getElem hrl,hPt]
    rfl
   refine⟨kg hra,_,hra,_,xp,fun H5 B5 h5=>hM1 _ _ ?_⟩
   rw[<- List.map_dropLast] at h5
   have S5:ay (vw K H) (vw K H5):=fun y o e=>B5 _ _ (aj e nra) (S4 _ _ e)
   have hqa5:=B5 _ _ nrq.symm hqa
   have bP:Bt (m+(c+1)*i) Pt:=hPt ▸ br _ (List.getElem_mem hrl)
   have dc:rs.length - 1=p+(ns.length - 1):=by walk_at"o"
   have nP:nz rs (p+(ns.length - 1))=Pt:=by rw[<- dc,cp (List.getElem?_eq_getElem hrl),hPt]
   have ldl:rs.dropLast.length+(i+1)=ms.length:=by rw[List.length_dropLast];walk_at"o"
   refine aR.gen fun M2 hM2=>?_
   have key:∀ (ra' qa':Addr)(R:Nat->Int)(rs1 qs1:List Int)(S1 part:Int)(H':Hp),ay (vw K H) (vw K H')->vw K H' ra'=some (.lst (rs1.map V.int))->vw K H' qa'=some (.lst (qs1.map V.int))->vw K H ra'=none->vw K H qa'=none->ra' ≠ qa'->rs1.length+(i+1)=ms.length->qs1.length=n->(∃ e,e<=i+1/\S1=L ^ e)->Bt (1+c*(i+1)) S1 ->
     (∀ x ∈ rs1,Bt (m+(c+1)*i+c) x)->(∀ x ∈ qs1,Bt (m+(c+1)*i+c) x)->Bt (m+(c+1)*i) part->(∀ k,k+i+ns.length<=ms.length->nz qs1 k=0)->(∀ k,S1*nz ms k=pz (nz qs1) (nz ns) n k+R k)->R (p+(ns.length - 1))=part*L->(∀ k,nz rs1 k=if k=p+(ns.length - 1) then 0 else R k) ->
     M2 [some (.ref a),some (.ref b),some (.int L),some (.ref ra'),some (.ref qa'),some (.int S1),some (.int p),some (.int part),o8] H':=by
    intro ra' qa' R rs1 qs1 S1 part H' Sx hr' hq' nr' nq' ne' l1 l2 n1 b1 b2 b3 b4 z1 e1 e2 e3
    refine hM2 _ _ ?_
    refine aR.gen fun M3 hM3=>?_
    walk_at"vc"
    refine⟨_,hq',p,kl (by rw[List.length_map];walk_at"o"),fun H7 B7 h7=>hM3 _ _ ?_⟩
    rw[<- List.map_set] at h7
    have S7:ay (vw K H) (vw K H7):=fun y o e=>B7 _ _ (aj e nq') (Sx _ _ e)
    have hr7:=B7 _ _ ne' hr'
    walk_at"vc"
    refine⟨_,lenb S7,by walk_at"o",by walk_at"o",?_⟩
    rw[show ((ns.length:Int) - 1).toNat=ns.length - 1 by walk_at"o"]
    obtain⟨Pw,hPw⟩ : ∃ Pw:Nat->St->Hp->Prop,∀ l σ H',Pw l σ H' ↔ ∃ (rs2:List Int)(o8:Option V),σ=[some (.ref a),some (.ref b),some (.int L),some (.ref ra'),some (.ref qa'),some (.int S1),some (.int p),some (.int part),o8]/\ay (vw K H) (vw K H')/\vw K H' ra'=some (.lst (rs2.map V.int))/\vw K H' qa'=some (.lst ((qs1.set p part).map V.int))/\rs2.length=rs1.length /\
      (∀ x ∈ rs2,Bt (m+(c+1)*(i+1)) x) /\ ∀ k,nz rs2 k=nz rs1 k - if p<=k/\k<p+l then part*nz ns (k - p) else 0:=⟨_,fun _ _ _=>Iff.rfl⟩
    have more:(c+1)*(i+1)=(c+1)*i+(c+1):=by rw[Nat.mul_add];walk_at"o"
    refine cg (its:=hJ 0 (ns.length - 1)) Pw (fun _ _ _ _ _=>cK) ((hPw _ _ _).mpr ⟨rs1,_,rfl,S7,hr7,h7,rfl,fun x hx=>(b2 x hx).mono (by walk_at"o"),fun k=>by rw[if_neg (by walk_at"o")];walk_at"o"⟩) (fun l x σ H8 hl hx pw=>?_) (fun σ H8 pw=>?_)
    ·obtain⟨rs2,o8',rfl,S8,hr8,hq8,l8,b8,e8⟩:=(hPw _ _ _).mp pw
     obtain⟨hl',rfl⟩:=gT hx
     have hpl:p+l<rs2.length:=by walk_at"o"
     have hln:l<ns.length:=by walk_at"o"
     simp only[nW,DS]
     walk_at"vc"
     have xr:(rs2.map V.int)[p+l]? = some (.int rs2[p+l]):=by rw[List.getElem?_map,List.getElem?_eq_getElem hpl];rfl
     have xn:(ns.map V.int)[l]? = some (.int ns[l]):=by rw[List.getElem?_map,List.getElem?_eq_getElem hln];rfl
     have epl:(p:Int)+(0+(l:Int))=((p+l:Nat):Int):=by walk_at"o"
     have vr:rs2[p+l]=nz rs1 (p+l):=by
      have:=e8 (p+l)
      rw[cp (List.getElem?_eq_getElem hpl),if_neg (by walk_at"o")] at this
      walk_at"o"
     have vn:ns[l]=nz ns l:=(cp (List.getElem?_eq_getElem hln)).symm
     refine⟨_,hr8,_,by rw[epl];exact dj xr,_,S8 _ _ hb,_,by rw[Int.zero_add];exact dj xn,?_⟩
     rw[gE]
     refine⟨bO b4 (bn _ (List.getElem_mem hln)) (by walk_at"o"),_,rfl,_,rfl,_,hr8,p+l,by rw[epl];exact kl (by rw[List.length_map];exact hpl),fun H9 B9 h9=>?_⟩
     rw[<- List.map_set] at h9
     refine (hPw _ _ _).mpr ⟨rs2.set (p+l) (rs2[p+l] - part*ns[l]),_,rfl,fun y o e=>B9 _ _ (aj e nr') (S8 _ _ e),h9,B9 _ _ ne'.symm hq8,by rw[List.length_set];exact l8,fun x hx=>?_,fun k=>?_⟩
     ·rcases List.mem_or_eq_of_mem_set hx with z|rfl
      ·exact b8 x z
      ·have y1:Bt (m+(c+1)*i+c) rs2[p+l]:=by rw[vr];exact i8 b2 _
       have y2:Bt (m+(c+1)*i+c) (part*ns[l]):=b4.mul (bn _ (List.getElem_mem hln))
       unfold Bt at y1 y2 ⊢
       rw[more,show m+((c+1)*i+(c+1))=(m+(c+1)*i+c)+1 by walk_at"o",Nat.pow_succ]
       walk_at"o"
     ·rw[rM hpl,e8 k]
      by_cases hk:k=p+l
      ·subst hk
       rw[if_pos rfl,if_pos (by walk_at"o"),show p+l - p=l by walk_at"o",vr,vn]
      ·rw[if_neg hk]
       by_cases hk2:p<=k/\k<p+l
       ·rw[if_pos hk2,if_pos (by walk_at"o")]
       ·rw[if_neg hk2,if_neg (by walk_at"o")]
    ·obtain⟨rs2,o8',rfl,S8,hr8,hq8,l8,b8,e8⟩:=(hPw _ _ _).mp pw
     rw[eJ] at e8
     refine (hPv _ _ _).mpr ⟨ra',qa',rs2,qs1.set p part,S1,_,_,_,rfl,S8,hr8,hq8,nr',nq',ne',by walk_at"o",by rw[List.length_set];exact l2,n1,b1,b8,fun x hx=>?_,fun k hk=>?_,?_⟩
     ·rcases List.mem_or_eq_of_mem_set hx with z|rfl
      ·exact (b3 x z).mono (by walk_at"o")
      ·exact b4.mono (by walk_at"o")
     ·rw[rM (by walk_at"o"),if_neg (by walk_at"o")]
      exact z1 k (by walk_at"o")
     ·exact xE (l:=ns.length - 1) e1 (z1 p (by walk_at"o")) (fun k=>rM (by walk_at"o")) (by walk_at"o") (fun j hj=>cF (by walk_at"o")) (by rw[e2,hLd]) e3 e8
   walk_at"vc"
   refine⟨hL,ce (fun e0=>?_) (fun e0=>?_)⟩
   ·have dv:L ∣ Pt:=Int.dvd_of_fmod_eq_zero e0
    have em:Pt.fdiv L*L=Pt:=gF hL dv
    have bd:Bt (m+(c+1)*i) (Pt.fdiv L):=by
     unfold Bt at bP ⊢
     have e1:(Pt.fdiv L).natAbs*L.natAbs=Pt.natAbs:=by rw[<- Int.natAbs_mul,em]
     have e2:(Pt.fdiv L).natAbs*1<=(Pt.fdiv L).natAbs*L.natAbs:=Nat.mul_le_mul_left _ (by walk_at"o")
     walk_at"o"
    refine⟨hL,key ra qa (nz rs) rs.dropLast qs S (Pt.fdiv L) H5 S5 h5 hqa5 nra nqa nrq ldl lqs (nS.elim fun e z=>⟨e,by walk_at"o",z.2⟩) (bS.mono (by rw[Nat.mul_add];walk_at"o")) (fun x hx=>(br x ((List.dropLast_sublist _).subset hx)).mono (by walk_at"o")) (fun x hx=>(bq x hx).mono (by walk_at"o")) bd zq ev (by rw[nP,em]) (fun k=>by rw[mf,dc])⟩
   ·refine⟨bO bS bL (by walk_at"o"),⟨_,.of (aF hqa5)⟩,fun q6 H6 hq6 S6 h6=>?_⟩
    refine bY (its:=qs.map V.int) (fun j zs H'=>ay (vw K H5) (vw K H')/\zs=((qs.take j).map fun x=>L*x).map V.int) (fun j zs H' _ _ z=>aU (z.1 _ _ hqa5)) h6 ⟨S6,rfl⟩ (fun j x zs H' hj hx h' z=>?_) (fun zs H7 h7 z=>?_)
    ·obtain⟨z1,rfl⟩:=z
     rw[List.length_map] at hj
     rw[List.getElem?_map,List.getElem?_eq_getElem hj] at hx
     cases hx
     walk_at"vc"
     refine⟨bO bL (bq _ (List.getElem_mem hj)) (by walk_at"o"),.mk h' ?_ fun H8 B8 h8=>⟨fun y o e=>B8 _ _ (aj e hq6) (z1 _ _ e),?_⟩⟩
     ·rw[List.length_map,List.length_map,List.length_take]
      have:1000<=sizeLine:=by decide
      walk_at"o"
     ·rw[List.take_add_one,List.getElem?_eq_getElem hj,List.map_append,List.map_append]
      rfl
    obtain⟨S57,rfl⟩:=z
    rw[List.length_map,List.take_length] at h7
    have h57:=S57 _ _ h5
    refine⟨⟨_,.of (aF h57)⟩,fun r8 H8 hr8 S8 h8=>?_⟩
    refine bY (its:=rs.dropLast.map V.int) (fun j zs H'=>ay (vw K H7) (vw K H')/\zs=((rs.dropLast.take j).map fun x=>L*x).map V.int) (fun j zs H' _ _ z=>aU (z.1 _ _ h57)) h8 ⟨S8,rfl⟩ (fun j x zs H' hj hx h' z=>?_) (fun zs H9 h9 z=>?_)
    ·obtain⟨z1,rfl⟩:=z
     rw[List.length_map] at hj
     rw[List.getElem?_map,List.getElem?_eq_getElem hj] at hx
     cases hx
     walk_at"vc"
     refine⟨bO bL (br _ ((List.dropLast_sublist _).subset (List.getElem_mem hj))) (by walk_at"o"),.mk h' ?_ fun H8 B8 h8=>⟨fun y o e=>B8 _ _ (aj e hr8) (z1 _ _ e),?_⟩⟩
     ·rw[List.length_map,List.length_map,List.length_take]
      have:1000<=sizeLine:=by decide
      walk_at"o"
     ·rw[List.take_add_one,List.getElem?_eq_getElem hj,List.map_append,List.map_append]
      rfl
    obtain⟨S79,rfl⟩:=z
    rw[List.length_map,List.take_length] at h9
    have S07:=S5.trans S57
    refine key r8 q6 (fun k=>L*nz rs k) _ _ (S*L) Pt H9 (S07.trans S79) h9 (S79 _ _ h7) (S07.none hr8) (S5.none hq6) (aj h7 hr8).symm (by rw[List.length_map];exact ldl) (by rw[List.length_map];exact lqs) (nS.elim fun e z=>⟨e+1,by walk_at"o",by rw[z.2,Int.pow_succ]⟩) ((bS.mul bL).mono (by rw[Nat.mul_add];walk_at"o")) (fun x hx=>?_) (fun x hx=>?_) bP (fun k hk=>?_) (fun k=>?_) ?_ (fun k=>?_)
    ·obtain⟨y,hy,rfl⟩:=List.mem_map.mp hx
     exact (bL.mul (br y ((List.dropLast_sublist _).subset hy))).mono (by walk_at"o")
    ·obtain⟨y,hy,rfl⟩:=List.mem_map.mp hx
     exact (bL.mul (bq y hy)).mono (by walk_at"o")
    ·rw[qF,zq k hk]
     walk_at"o"
    ·rw[show nz (qs.map fun x=>L*x)=fun k=>L*nz qs k from funext fun k=>qF k,t7,<- Int.mul_add,<- ev k,Int.mul_comm S L,Int.mul_assoc]
    ·show L*nz rs (p+(ns.length - 1))=Pt*L
     rw[nP,Int.mul_comm]
    ·rw[qF,mf,dc]
     split <;> simp
  ·obtain⟨ra,qa,rs,qs,S,o6,o7,o8,rfl,S4,hra,hqa,nra,nqa,nrq,lrs,lqs,nS,bS,br,bq,zq,ev⟩:=(hPv _ _ _).mp pv
   rw[Cn] at lrs nS bS br bq zq
   refine hN5 _ _ ?_
   walk_at"vc"
   simp only[dI]
   refine .inr ?_
   simp only[ml]
   walk_at"vc"
   refine⟨rs,hra,fun d H5 ts S5 hd nd e5 l5 z5=>⟨by decide,fun p6 H6 hp6 S6 h6=>?_⟩⟩
   have n9:n<=14:=by walk_at"o"
   have k1:c*n<=20000*14:=Nat.mul_le_mul hc n9
   have k2:(c+1)*n<=20001*14:=Nat.mul_le_mul (by walk_at"o") n9
   refine h p6 qa d S qs ts H6 (S4.trans (S5.trans S6)) h6 ((S5.trans S6) _ _ hqa) (S6 _ _ hd) (S4.none nd) (by walk_at"o") (by walk_at"o") (nS.elim fun e z=>⟨e,by walk_at"o",z.2.trans (by rw[hLd])⟩) (bS.mono (by walk_at"o")) (fun x hx=>(bq x hx).mono (by walk_at"o")) (fun x hx=>?_) z5 (fun k=>?_)
   ·obtain⟨k,hk⟩:=List.getElem?_of_mem hx
    have e:=e5 k
    rw[cp hk] at e
    rw[e]
    exact (i8 br k).mono (by walk_at"o")
   ·rw[lqs,e5 k]
    exact ev k
def kB(K:W.Frag):Sp:=fun vs H Q _=>∃ (x:Int)(n b:Nat),vs=[.int x,.int n]/\n<=20/\b<=20000/\Bt b x/\Q (.int (x ^ n)) H
theorem yU(F:eM K "power" "power" jF f fd) (T:fL K mg):bK P w K mg base eI 1 f fd ["base", "many"] (kB K):=by
 have scN:=rY.nd
 refine F.okQ rY (fun vs H Q E h=>?_) (fun cdv A outer s H vs Q E hr h=>?_)
 ·obtain⟨_,_,_,rfl,_⟩:=h
  rfl
 ·obtain⟨x,n,b,rfl,hn,hb,bx,h⟩:=h
  refine⟨_,(ae (aC (i:=2) scN rfl (by walk_at"a1") af)
   (ae (cT PassesOwn.never rfl (fg rfl T.b_range (aa (qv 1) ac)) (ak (i:=3) scN rfl (by walk_at"a1")) (ah (iC (i:=2) scN rfl (by walk_at"a1") (qv 0) nh)))
   (ah (ap (qv 2))))),?_⟩
  walk_at"m"
  walk_at"vc"
  refine⟨by walk_at"o",by walk_at"o",?_⟩
  rw[show ((n:Nat):Int).toNat=n by walk_at"o"]
  obtain⟨Pv,hPv⟩ : ∃ Pv:Nat->St->Hp->Prop,∀ i σ H',Pv i σ H' ↔ H'=H /\ ∃ o,σ=[some (.int x),some (.int n),some (.int (x ^ i)),o]:=⟨_,fun _ _ _=>Iff.rfl⟩
  refine cg (its:=hJ 0 n) Pv (fun _ _ _ _ _=>cK) ((hPv _ _ _).mpr ⟨rfl,_,by rw[Int.pow_zero]⟩) (fun i y σ H1 hi hy pv=>?_) (fun σ H1 pv=>?_)
  ·obtain⟨rfl,o,rfl⟩:=(hPv _ _ _).mp pv
   obtain⟨hi',rfl⟩:=gT hy
   walk_at"vc"
   have b1:=bx.pow1 i
   have:b*i<=20000*20:=Nat.mul_le_mul hb (by walk_at"o")
   refine⟨bO b1 bx (by walk_at"o"),(hPv _ _ _).mpr ⟨rfl,_,by rw[Int.pow_succ]⟩⟩
  ·obtain⟨rfl,o,rfl⟩:=(hPv _ _ _).mp pv
   rw[eJ]
   walk_at"vc"
   exact h
def qj(G:Hp)(t:Addr)(tv:List V)(rows:List (List Int × List Int × Int × Int)):Prop:=tv.length=rows.length /\ ∀ (k:Nat) row,rows[k]? = some row -> ∃ p ra qa:Addr,tv[k]? = some (.ref p)/\G p=some (.tup [.ref ra,.ref qa,.int row.2.2.1,.int row.2.2.2])/\G ra=some (.lst (row.1.map V.int))/\G qa=some (.lst (row.2.1.map V.int))/\ra ≠ t/\qa ≠ t
theorem qj.same{G G':Hp}{t:Addr}{tv:List V}{rows:List (List Int × List Int × Int × Int)}(h:qj G t tv rows)(S:ay G G'):qj G' t tv rows:=⟨h.1,fun k row e=>by
 obtain⟨p,ra,qa,a,b,c,d,n⟩:=h.2 k row e
 exact⟨p,ra,qa,a,S _ _ b,S _ _ c,S _ _ d,n⟩⟩
def Em(row:List Int × List Int × Int × Int):Prop:=row.1.length<=9/\(∀ x ∈ row.1,Bt 17840 x)/\Bt 200000 row.2.2.1/\Bt 200000 row.2.2.2/\row.2.1.length<=9/\1<=row.2.1.length /\ ∀ x ∈ row.2.1,Bt 700000 x
def eT(K:W.Frag):Sp:=fun vs H Q _=>∃ (a b:Addr)(ms ns:List Int),vs=[.ref a,.ref b]/\vw K H a=some (.lst (ms.map V.int))/\vw K H b=some (.lst (ns.map V.int))/\ms ≠ []/\ns.length<=ms.length/\je 1110 ms/\je 1110 ns /\
 ∀ (d:Addr)(H':Hp)(tv:List V) rows,ay (vw K H) (vw K H')->vw K H' d=some (.lst tv)->qj (vw K H') d tv rows->rW ms ns rows->rows.length<=9->(∀ row ∈ rows,Em row)->Q (.ref d) H'
theorem mK(F:eM K "wholes_rests" "wholes_rests" da f fd) (T:fL K mg)(N_:oX P base)(C_power:aS P w K mg base "power" ["base", "many"] 1 (kB K)) (C_wholes_parted:aS P w K mg base "wholes_parted" ["one", "other"] 2 (cy K)):bK P w K mg base eI 3 f fd ["one", "other"] (eT K):=by
 have scN:=iO.nd
 refine F.okQ iO (fun vs H Q E h=>?_) (fun cdv A outer s H vs Q E hr h=>?_)
 ·obtain⟨_,_,_,_,rfl,_⟩:=h
  rfl
 ·obtain⟨a,b,ms,ns,rfl,ha,hb,m0,lmn,im,il,h⟩:=h
  refine⟨_,(ae (aC (i:=2) scN rfl (by walk_at"a1") (bC ac))
   (ae (cM (bQ (aa af (aa af ac))) (aX (n:=2) rfl (am (ak (i:=3) scN rfl (by walk_at"a1")) (am (ak (i:=4) scN rfl (by walk_at"a1")) aY))))
   (ae (gG PassesOwn.never (cX (qv 1) (fun _=>rfl)) (ae (aC (i:=5) scN rfl (by walk_at"a1") (ao dE (au aB (by rfl) T.b_len aV (aa (qv 0) ac)) (au aB (by rfl) T.b_len aV (aa (qv 1) ac))))
   (ae (aC (i:=6) scN rfl (by walk_at"a1") (ai C_power (hr.mono (by walk_at"a2")) rfl (aa (aA dL (qv 1) (de cn af) (fun _ _=>rfl)) (aa (ao cb (qv 5) af) ac))))
   (ae (cM (ai C_wholes_parted (hr.mono (by walk_at"a2")) rfl (aa (qv 0) (aa (qv 1) ac))) (aX (n:=3) rfl (am (ak (i:=7) scN rfl (by walk_at"a1")) (am (ak (i:=8) scN rfl (by walk_at"a1")) (am (ak (i:=9) scN rfl (by walk_at"a1")) aY)))))
   (ae (aC (i:=10) scN rfl (by walk_at"a1") (ao aH (qv 3) (ai C_power (hr.mono (by walk_at"a2")) rfl (aa (qv 4) (aa (qv 5) ac)))))
   (ae (cc (cX (qv 8) (fun _=>rfl)) (ae (aC (i:=11) scN rfl (by walk_at"a1") (ao (gD N_ hr rfl rfl rfl) (qv 6) (qv 9)))
   (ae (kQ (i:=8) (own:=["whole"]) (outs:=["top", "lack"]) (ixs:=[10,11]) scN rfl (by walk_at"a1") rfl (cu (qv 8)) rfl ⟨rfl,rfl,rfl,⟨rfl,⟨rfl,trivial⟩⟩,rfl,⟨⟨rfl,rfl,rfl,_,rfl⟩,⟨⟨rfl,rfl,rfl,_,rfl⟩,trivial⟩⟩⟩ (fun _ _ _ _=>⟨(ak (i:=0) (show (["whole", "top", "lack"]:List Str).Nodup by decide +kernel) rfl (by walk_at"a1")),dg,(ao (zQ N_ hr rfl rfl rfl rfl rfl) (ao (show eK _ _ (gK K) from aH) (qv 2) (qv 0)) (qv 1))⟩))
   (ah (jD (pF PySem.F.plainAttrs_list PySem.F.slot_list_append PySem.F.type_list_append fR (qv 2) (aa (bQ (aa (qv 8) (aa (dF (own:=["whole"]) (outs:=["lack"]) (ixs:=[11]) rfl (cu (qv 7)) rfl ⟨rfl,rfl,rfl,⟨rfl,trivial⟩,rfl,⟨⟨rfl,rfl,rfl,_,rfl⟩,trivial⟩⟩ (fun _ _ _ _=>⟨(ak (i:=0) (show (["whole", "lack"]:List Str).Nodup by decide +kernel) rfl (by walk_at"a1")),dg,(ao (show eK _ _ (gK K) from aH) (qv 1) (qv 0))⟩)) (aa (qv 10) (aa (qv 6) ac))))) ac)))))) aN)
   (ae (qT (i:=0) (j:=1) rfl scN rfl rfl (by decide) rfl rfl (aa (qv 1) (aa (qv 8) ac)) rfl)
   (ae (aC (i:=3) scN rfl (by walk_at"a1") (aA dL (qv 0) (de cn af) (fun _ _=>rfl)))
   (ah (cc (aQ mq (qv 5) af (aI _)) (ah (aC (i:=4) scN rfl (by walk_at"a1") (ao (gD N_ hr rfl rfl rfl) (ai C_power (hr.mono (by walk_at"a2")) rfl (aa (qv 3) (aa (qv 5) ac))) (ai C_power (hr.mono (by walk_at"a2")) rfl (aa (qv 4) (aa (ao dE (qv 5) af) ac)))))) aN))))))))))
   (ah (ap (qv 2)))))),?_⟩
  walk_at"m"
  skip
  refine aR.gen fun N1 hN1=>?_
  walk_at"vc"
  refine⟨by decide,fun t H1 ht S1 h1=>hN1 _ _ ?_⟩
  refine aR.gen fun N2 hN2=>?_
  walk_at"vc"
  refine⟨by decide,fun p2 H2 hp2 S2 h2=>⟨_,rfl,_,h2,rfl,_,_,rfl,_,_,rfl,rfl,hN2 _ _ ?_⟩⟩
  refine aR.gen fun N3 hN3=>?_
  walk_at"vc"
  have nt:vw K H t=none:=ht
  have S02:=S1.trans S2
  obtain⟨W,hW⟩ : ∃ W:Nat->St->Hp->Prop,∀ m σ H',W m σ H' ↔ ∃ (oa ra:Addr)(Fs Gs:List Int)(tv:List V)(rows:List (List Int × List Int × Int × Int))(x g:Int)(o5 o6 o7 o8 o9 o10 o11:Option V),σ=[some (.ref oa),some (.ref ra),some (.ref t),some (.int x),some (.int g),o5,o6,o7,o8,o9,o10,o11]/\m=Gs.length/\ay (vw K H) (vw K H')/\vw K H' t=some (.lst tv)/\vw K H' oa=some (.lst (Fs.map V.int))/\vw K H' ra=some (.lst (Gs.map V.int))/\oa ≠ t/\ra ≠ t /\
    Fs ≠ []/\tv.length+Gs.length<=9/\Gs.length<=Fs.length/\je 17825 Fs/\je 17825 Gs/\(∀ r,rW Fs Gs r->rW ms ns (rows ++ r))/\(Gs ≠ [] -> ∃ S1,uL 17825 S1 (nz Fs) (nz Gs) (Fs.length - 1) (Gs.length - 1) x g) /\
    qj (vw K H') t tv rows /\ ∀ row ∈ rows,Em row:=⟨_,fun _ _ _=>Iff.rfl⟩
  have btn:∀ {n:Nat}{l:List Int},je n l -> ∀ k,Bt n (nz l k):=fun i k=>i8 i.2.1 k
  have up:∀ {l:List Int},je 1110 l->je 17825 l:=fun i=>i.up (by decide)
  have lp:∀ {l:List Int},l ≠ []->0<l.length:=fun h=>List.length_pos_iff.mpr h
  refine⟨W,⟨_,(hW _ _ _).mpr ⟨a,b,ms,ns,[],[],1,1,_,_,_,_,_,_,_,rfl,rfl,S02,S2 _ _ h1,S02 _ _ ha,S02 _ _ hb,aj ha nt,aj hb nt,m0,by have:=il.1;simp;walk_at"o",lmn,up im,up il,fun r z=>z,fun n0=>⟨_,uL.first (b:=1110) (by walk_at"o") (by have:=im.1;walk_at"o") (by decide) (btn im) (btn il) (il.2.2 n0) (fun k hk=>cF (by have:=lp n0;walk_at"o")) (fun k hk=>cF (by have:=lp m0;walk_at"o"))⟩,⟨rfl,by simp⟩,by simp⟩⟩,fun m σ H3 hw=>?_⟩
  obtain⟨oa,ra,Fs,Gs,tv,rows,x,g,o5,o6,o7,o8,o9,o10,o11,rfl,rfl,S3,ht3,hF,hG,noa,nra,f0,lt7,lGF,iF,iG,gc,gs,rt,rwb⟩:=(hW _ _ _).mp hw
  refine⟨_,rfl,_,iJ hG,ce (fun hc=>⟨_,fun σ' H' z=>z,?_⟩) (fun hc=>hN3 _ _ ?_)⟩
  ·have g0:Gs ≠ []:=fun z=>by rw[z] at hc;cases hc
   obtain⟨Sx,I⟩:=gs g0
   have lg:=lp g0
   obtain⟨δ,hδ⟩ : ∃ δ,δ=Fs.length - Gs.length:=⟨_,rfl⟩
   have hδ2:Fs.length - 1 - (Gs.length - 1)=δ:=by walk_at"o"
   have hgl:Gs.length - 1<Gs.length:=by walk_at"o"
   obtain⟨c,hcd⟩ : ∃ c,c=nz Gs (Gs.length - 1):=⟨_,rfl⟩
   have hce:Gs[Gs.length - 1]=c:=by rw[hcd,cp (List.getElem?_eq_getElem hgl)]
   have bc:Bt 17825 c:=hcd ▸ btn iG _
   have c0:c ≠ 0:=hcd ▸ iG.2.2 g0
   have xl:(Gs.map V.int).getLast? = some (.int c):=by
    rw[List.getLast?_eq_getElem?,List.length_map,List.getElem?_map,List.getElem?_eq_getElem hgl,hce]
    rfl
   have lF7:=iF.1
   refine aR.gen fun M1 hM1=>?_
   walk_at"vc"
   refine⟨Fs.length,by simp only[fz,hF,List.length_map],Gs.length,by simp only[fz,hG,List.length_map],hM1 _ _ ?_⟩
   rw[show (Fs.length:Int) - (Gs.length:Int)=(δ:Int) by walk_at"o"]
   refine aR.gen fun M2 hM2=>?_
   walk_at"vc"
   refine⟨_,hG,_,eP xl,⟨c,δ+1,17825,rfl,by walk_at"o",by decide,bc,hM2 _ _ ?_⟩⟩
   refine aR.gen fun M3 hM3=>?_
   walk_at"vc"
   simp only[cy]
   refine⟨oa,ra,Fs,Gs,17825,17825,rfl,hF,hG,lg,iG.2.2 g0,by walk_at"o",by walk_at"o",by decide,by decide,iF.2.1,iG.2.1,fun p4 qa rb S qs rs H4 S4 h4 hqa hrb nrb lq lr hSe bS bq br lrz ev=>⟨_,rfl,_,h4,rfl,_,_,rfl,_,_,rfl,_,_,rfl,rfl,hM3 _ _ ?_⟩⟩
   obtain⟨e,he,hS⟩:=hSe
   rw[<- hcd] at hS
   have lq2:qs.length=δ+1:=by walk_at"o"
   have S0:S ≠ 0:=by rw[hS];exact Int.pow_ne_zero c0
   obtain⟨lack,hlack⟩ : ∃ lack,lack=c ^ (δ+1 - e):=⟨_,rfl⟩
   have elk:c ^ (δ+1)=lack*S:=by rw[hlack,hS,<- GI,show δ+1 - e+e=δ+1 by walk_at"o"]
   obtain⟨dc,htop⟩ : ∃ dc,dc=x*g ^ δ:=⟨_,rfl⟩
   have top0:dc ≠ 0:=by rw[htop];exact Int.mul_ne_zero I.inv.x0 (Int.pow_ne_zero I.inv.h0)
   have δ6:17825*δ<=17825*8:=Nat.mul_le_mul_left _ (by walk_at"o")
   have btop:Bt 200000 dc:=by rw[htop];exact (I.bx.mul (I.bh.pow1 δ)).mono (by walk_at"o")
   have black:Bt 200000 lack:=by
    rw[hlack]
    refine (bc.pow1 _).mono ?_
    have:17825*(δ+1 - e)<=17825*9:=Nat.mul_le_mul_left _ (by walk_at"o")
    walk_at"o"
   have bgam:Bt 200000 (c ^ (δ+1)):=by
    refine (bc.pow1 _).mono ?_
    have:17825*(δ+1)<=17825*9:=Nat.mul_le_mul_left _ (by walk_at"o")
    walk_at"o"
   refine aR.gen fun M4 hM4=>?_
   walk_at"vc"
   simp only[kB]
   refine⟨g,δ,17825,rfl,by walk_at"o",by decide,I.bh,?_⟩
   rw[gE]
   refine⟨bO I.bx (I.bh.pow1 δ) (by walk_at"o"),hM4 _ _ ?_⟩
   rw[<- htop]
   have ev2:∀ k,c ^ (δ+1)*nz Fs k=pz (fun i=>lack*nz qs i) (nz Gs) (δ+1) k+lack*nz rs k:=fun k=>by
    rw[t7,<- Int.mul_add,<- lq2,<- ev k,<- Int.mul_assoc,<- elk,lq2]
   obtain⟨r,g',hR,bR,r0,ng',bg',hh,next⟩:=I.rest (q:=fun i=>lack*nz qs i) (R:=fun k=>lack*nz rs k) (fun k hk=>by rw[cF (by walk_at"o"),Int.mul_zero]) (fun k=>by rw[<- hcd,hδ2];exact ev2 k)
   rw[hδ2,<- htop] at hR
   rw[<- hcd,hδ2] at hh
   rw[<- hcd] at next
   refine aR.gen fun M5 hM5=>?_
   have key:∀ (rc:Addr)(Rs:List Int)(tv':List V)(rows':List (List Int × List Int × Int × Int))(H':Hp)(u7 u11:Option V),ay (vw K H) (vw K H')->vw K H' t=some (.lst tv')->vw K H' ra=some (.lst (Gs.map V.int))->vw K H' rc=some (.lst (Rs.map V.int))->rc ≠ t->Rs.length<Gs.length->tv'.length+Rs.length<=9->(∀ k,nz Rs k=r k)->je 17825 Rs->(∀ r,rW Gs Rs r->rW ms ns (rows' ++ r))->qj (vw K H') t tv' rows'->(∀ row ∈ rows',Em row)->M5 [some (.ref oa),some (.ref ra),some (.ref t),some (.int x),some (.int g),some (.int δ),some (.int (c ^ (δ+1))),u7,some (.ref rc),some (.int S),some (.int dc),u11] H':=by
    intro rc Rs tv' rows' H' u7 u11 Sx' ht' hG' hR' nrc lR lt' eR iR gc' rt' rb'
    have fin:∀ u7 u11:Option V,∃ m',m'<Gs.length/\W m' [some (.ref ra),some (.ref rc),some (.ref t),some (.int c),some (.int g'),some (.int δ),some (.int (c ^ (δ+1))),u7,some (.ref rc),some (.int S),some (.int dc),u11] H':=fun u7 u11=>by
     refine⟨Rs.length,lR,(hW _ _ _).mpr ⟨ra,rc,Gs,Rs,tv',rows',c,g',_,_,_,_,_,_,_,rfl,rfl,Sx',ht',hG',hR',nra,nrc,g0,lt',by walk_at"o",iG,iR,gc',fun z=>?_,rt',rb'⟩⟩
     have lz:=lp z
     have e1:r=nz Rs:=funext fun k=>(eR k).symm
     have nx:=next (Rs.length - 1) (by walk_at"o") (by rw[<- eR];exact iR.2.2 z) (fun k hk=>by rw[<- eR];exact cF (by walk_at"o"))
     rw[e1] at nx
     exact⟨_,nx⟩
    refine hM5 _ _ ?_
    walk_at"vc"
    refine⟨_,hG',_,eP xl,ce (fun h0=>?_) (fun h0=>?_)⟩
    ·rcases hh with ⟨z,_⟩|⟨_,z2⟩
     ·walk_at"o"
     have δ5:17825*(δ - 1)<=17825*8:=Nat.mul_le_mul_left _ (by walk_at"o")
     have u0:g ^ (δ - 1) ≠ 0:=Int.pow_ne_zero I.inv.h0
     refine⟨c,δ,17825,rfl,by walk_at"o",by decide,bc,⟨g,δ - 1,17825,by rw[show ((δ:Int) - 1)=((δ - 1:Nat):Int) by walk_at"o"],by walk_at"o",by decide,I.bh,_,rfl,_,rfl,u0,?_⟩⟩
     have e1:(c ^ δ).fdiv (g ^ (δ - 1))=g':=Int.eq_of_mul_eq_mul_right u0 (by rw[gF u0 ⟨g',by rw[<- z2,Int.mul_comm]⟩,z2])
     rw[e1]
     exact fin u7 u11
    ·rcases hh with ⟨_,z⟩|⟨z,_⟩
     ·rw[<- z]
      exact fin u7 u11
     ·walk_at"o"
   have nt4:t ≠ rb:=aj ht3 nrb
   walk_at"vc"
   refine⟨_,iJ hrb,ce (fun hc2=>?_) (fun hc2=>?_)⟩
   ·have ef:(c ^ (δ+1)).fdiv S=lack:=Int.eq_of_mul_eq_mul_right S0 (by rw[gF S0 ⟨lack,by rw[elk,Int.mul_comm]⟩,elk])
    rw[ef]
    have rs0:rs ≠ []:=fun z=>by rw[z] at hc2;cases hc2
    have lrs:=lp rs0
    refine⟨S0,⟨_,.of (aF hrb)⟩,fun d6 H6 hd6 S6 h6=>?_⟩
    refine bY (its:=rs.map V.int) (fun j zs H'=>ay (vw K H4) (vw K H')/\zs=((rs.take j).map fun y=>(lack*y).fdiv dc).map V.int) (fun j zs H' _ _ z=>aU (z.1 _ _ hrb)) h6 ⟨S6,rfl⟩ (fun j y zs H' hj hy h' z=>?_) (fun zs H7 h7 z=>?_)
    ·obtain⟨z1,rfl⟩:=z
     rw[List.length_map] at hj
     rw[List.getElem?_map,List.getElem?_eq_getElem hj] at hy
     cases hy
     walk_at"vc"
     refine⟨bO black (br _ (List.getElem_mem hj)) (by walk_at"o"),top0,.mk h' ?_ fun H8 B8 h8=>⟨fun y o e=>B8 _ _ (aj e hd6) (z1 _ _ e),?_⟩⟩
     ·rw[List.length_map,List.length_map,List.length_take]
      have:1000<=sizeLine:=by decide
      walk_at"o"
     ·rw[List.take_add_one,List.getElem?_eq_getElem hj,List.map_append,List.map_append]
      rfl
    obtain⟨S47,rfl⟩:=z
    rw[List.length_map,List.take_length] at h7
    refine⟨kg (S47 _ _ (S4 _ _ ht3)),⟨_,.of (aF (S47 _ _ hqa))⟩,fun d8 H8 hd8 S8 h8=>?_⟩
    refine bY (its:=qs.map V.int) (fun j zs H'=>ay (vw K H7) (vw K H')/\zs=((qs.take j).map fun y=>lack*y).map V.int) (fun j zs H' _ _ z=>aU (z.1 _ _ (S47 _ _ hqa))) h8 ⟨S8,rfl⟩ (fun j y zs H' hj hy h' z=>?_) (fun zs H9 h9 z=>?_)
    ·obtain⟨z1,rfl⟩:=z
     rw[List.length_map] at hj
     rw[List.getElem?_map,List.getElem?_eq_getElem hj] at hy
     cases hy
     walk_at"vc"
     refine⟨bO black (bq _ (List.getElem_mem hj)) (by walk_at"o"),.mk h' ?_ fun H8 B8 h8=>⟨fun y o e=>B8 _ _ (aj e hd8) (z1 _ _ e),?_⟩⟩
     ·rw[List.length_map,List.length_map,List.length_take]
      have:1000<=sizeLine:=by decide
      walk_at"o"
     ·rw[List.take_add_one,List.getElem?_eq_getElem hj,List.map_append,List.map_append]
      rfl
    obtain⟨S79,rfl⟩:=z
    have S49:=S47.trans S79
    refine⟨by decide,fun p10 H10 hp10 S10 h10=>?_⟩
    have ht10:=S10 _ _ (S49 _ _ (S4 _ _ ht3))
    refine⟨tv,ht10,?_,fun H11 B11 h11=>?_⟩
    ·have:1000<=sizeLine:=by decide
     walk_at"o"
    have nt6:t ≠ d6:=aj (S4 _ _ ht3) hd6
    have nt10:p10 ≠ t:=(aj (S49 _ _ (S4 _ _ ht3)) hp10).symm
    have S410:=S49.trans S10
    have hd7:=(S79.trans S10) _ _ h7
    have lRs:(rs.map fun y=>(lack*y).fdiv dc).length=rs.length:=List.length_map _
    have eR:∀ k,nz (rs.map fun y=>(lack*y).fdiv dc) k=r k:=fun k=>by
     have q1:=hR k
     cases ek:rs[k]? with
     | none =>
      have l:=List.getElem?_eq_none_iff.mp ek
      rw[cF l,Int.mul_zero] at q1
      rw[cF (by rw[lRs];exact l)]
      rcases Int.mul_eq_zero.mp q1.symm with z|z
      ·exact absurd z top0
      ·exact z.symm
     | some y =>
      rw[cp ek] at q1
      rw[cp (n:=(lack*y).fdiv dc) (by rw[List.getElem?_map,ek];rfl)]
      exact Int.eq_of_mul_eq_mul_right top0 (by rw[gF top0 ⟨_,q1⟩,q1,Int.mul_comm])
    have R0:(rs.map fun y=>(lack*y).fdiv dc) ≠ []:=fun z=>rs0 (List.map_eq_nil_iff.mp z)
    have Rl0:nz (rs.map fun y=>(lack*y).fdiv dc) ((rs.map fun y=>(lack*y).fdiv dc).length - 1) ≠ 0:=by
     rw[lRs,eR]
     intro z
     have q1:=hR (rs.length - 1)
     rw[z,Int.mul_zero] at q1
     rcases Int.mul_eq_zero.mp q1 with y|y
     ·exact Int.pow_ne_zero c0 (hlack ▸ y)
     ·exact lrz (by walk_at"o") y
    have Rb:∀ x ∈ (rs.map fun y=>(lack*y).fdiv dc),Bt 17825 x:=fun x hx=>by
     obtain⟨k,hk⟩:=List.getElem?_of_mem hx
     rw[<- cp hk,eR]
     exact bR k
    have nzq:∀ i,nz (qs.map fun y=>lack*y) i=lack*nz qs i:=fun i=>by
     cases ek:qs[i]? with
     | none =>
      have l:=List.getElem?_eq_none_iff.mp ek
      rw[cF l,cF (by rw[List.length_map];exact l),Int.mul_zero]
     | some y=>rw[cp ek,cp (n:=lack*y) (by rw[List.getElem?_map,ek];rfl)]
    have Hn:∀ k,c ^ (δ+1)*nz Fs k=pz (nz (qs.map fun y=>lack*y)) (nz Gs) (qs.map fun y=>lack*y).length k+dc*nz (rs.map fun y=>(lack*y).fdiv dc) k:=fun k=>by
     rw[show nz (qs.map fun y=>lack*y)=fun i=>lack*nz qs i from funext nzq,List.length_map,lq2,ev2 k,eR,hR k]
    rw[List.length_map,List.take_length] at h9
    have hq10:=S10 _ _ h9
    have nt8:d8 ≠ t:=(aj ((S47) _ _ (S4 _ _ ht3)) hd8).symm
    refine key d6 _ (tv ++ [.ref p10]) (rows ++ [(rs.map fun y=>(lack*y).fdiv dc,qs.map fun y=>lack*y,dc,c ^ (δ+1))]) H11 _ _ (fun y o e=>B11 _ _ (aj e nt) ((S3.trans (S4.trans S410)) _ _ e)) h11 (B11 _ _ nra ((S4.trans S410) _ _ hG)) (B11 _ _ nt6.symm hd7) nt6.symm (by rw[lRs];exact lr) (by rw[lRs,List.length_append];simp;walk_at"o") eR ⟨by rw[lRs];walk_at"o",Rb,fun _=>Rl0⟩ (fun r' z=>?_) ⟨by simp[rt.1],fun k row e=>?_⟩ (fun row kx=>?_)
    ·rw[List.append_assoc]
     exact gc _ (.more g0 (iG.2.2 g0) (Int.pow_ne_zero c0) top0 R0 Rl0 (by rw[lRs];exact lr) (by rw[List.length_map];walk_at"o") Hn z)
    ·by_cases hk:k<rows.length
     ·rw[List.getElem?_append_left hk] at e
      obtain⟨p,ra',qa',a1,a2,a3,a4,a5,a6⟩:=rt.2 k row e
      have S3z:=S4.trans S410
      exact⟨p,ra',qa',by rw[List.getElem?_append_left (by rw[rt.1];exact hk)];exact a1,B11 _ _ (fun z=>by rw[z,ht3] at a2;cases a2) (S3z _ _ a2),B11 _ _ a5 (S3z _ _ a3),B11 _ _ a6 (S3z _ _ a4),a5,a6⟩
     ·have hk2:k=rows.length:=by
       have:=(List.getElem?_eq_some_iff.mp e).1
       simp at this
       walk_at"o"
      subst hk2
      rw[List.getElem?_append_right (by walk_at"o"),Nat.sub_self] at e
      cases e
      exact⟨p10,d6,d8,by rw[List.getElem?_append_right (by rw[rt.1];walk_at"o"),rt.1,Nat.sub_self];rfl,B11 _ _ nt10 h10,B11 _ _ nt6.symm hd7,B11 _ _ nt8 hq10,nt6.symm,nt8⟩
    ·rcases List.mem_append.mp kx with z|z
     ·exact rwb row z
     ·cases List.mem_singleton.mp z
      refine⟨by rw[lRs];walk_at"o",fun x hx=>(Rb x hx).mono (by decide),btop,bgam,by rw[List.length_map];walk_at"o",by rw[List.length_map];walk_at"o",fun x hx=>?_⟩
      obtain⟨y,hy,rfl⟩:=List.mem_map.mp hx
      exact (black.mul (bq y hy)).mono (by decide)
   ·have r1:rs=[]:=by
     cases rs with
     | nil=>rfl
     | cons _ _=>exact absurd rfl hc2
    subst r1
    refine key rb [] tv rows H4 _ _ (S3.trans S4) (S4 _ _ ht3) (S4 _ _ hG) hrb nt4.symm (by simp;walk_at"o") (by simp;walk_at"o") (fun k=>?_) ⟨by simp,by simp,fun z=>absurd rfl z⟩ (fun r' z=>?_) (rt.same S4) rwb
    ·have:=hR k
     rw[show nz [] k=0 from cF (by simp),Int.mul_zero] at this
     rcases Int.mul_eq_zero.mp this.symm with z|z
     ·exact absurd z top0
     ·rw[show nz [] k=0 from cF (by simp),z]
    ·have er:r'=[]:=by
      cases z with
      | nought=>rfl
      | last h _ _ _ _=>exact absurd rfl h
      | more h _ _ _ _ _ _ _ _ _=>exact absurd rfl h
     subst er
     refine gc _ (.last g0 (iG.2.2 g0) S0 (Q:=qs) (by walk_at"o") fun k=>?_)
     rw[ev k,show nz [] k=0 from cF (by simp)]
     walk_at"o"
  ·have g1:Gs=[]:=by
    cases Gs with
    | nil=>rfl
    | cons _ _=>exact absurd rfl hc
   subst g1
   walk_at"vc"
   have:=gc [] .nought
   rw[List.append_nil] at this
   exact h t H3 tv rows S3 ht3 rt this (by rw[<- rt.1];walk_at"o") rwb
def kN(K:W.Frag):Sp:=fun vs H Q _=>∃ (a:Addr)(fs:List (Int × Int)),vs=[.ref a]/\aM (vw K H) a fs/\fs.length<=40/\(∀ q ∈ fs,Fq q/\Bq 1200 q)/\aL fs /\
 ∀ d H' (rs:List (Int × Int)),ay (vw K H) (vw K H')->aM (vw K H') d rs->vw K H d=none->aL rs->(∀ k,cf rs k=((k+1:Nat):Int)*cf fs (k+1))->rs.length=fs.length - 1->Q (.ref d) H'
theorem zW(F:eM K "slope" "slope" jG f fd) (T:fL K mg)(C_times:aS P w K mg base "times" ["one", "other"] 3 (kH K)):bK P w K mg base eI 4 f fd ["f"] (kN K):=by
 have scN:=tq.nd
 refine F.okQ tq (fun vs H Q E h=>?_) (fun cdv A outer s H vs Q E hr h=>?_)
 ·obtain⟨a,_,rfl,_⟩:=h
  rfl
 ·obtain⟨a,fs,rfl,ha,lf,hf,pf,h⟩:=h
  refine⟨_,(ah (ap (dF (own:=["k"]) (outs:=["f"]) (ixs:=[0]) rfl (wZ rfl T.b_range (aa af (aa (au aB (by rfl) T.b_len aV (aa (qv 0) ac)) ac))) rfl ⟨rfl,rfl,rfl,⟨rfl,trivial⟩,rfl,⟨⟨rfl,rfl,rfl,_,rfl⟩,trivial⟩⟩ (fun _ _ _ _=>⟨(ak (i:=0) (show (["k", "f"]:List Str).Nodup by decide +kernel) rfl (by walk_at"a1")),dg,(ai C_times (hr.mono (by walk_at"a2")) rfl (aa (show QE _ _ (wI K _) from bQ (aa (qv 0) (aa af ac))) (aa (aA (show uX _ (xG K) from dL) (qv 1) (qv 0) (fun _ _=>rfl)) ac)))⟩)))),?_⟩
  walk_at"m"
  walk_at"vc"
  obtain⟨xs,hxs,rxs⟩:=id ha
  have hlx:xs.length=fs.length:=by rw[rxs.length,List.length_map]
  refine⟨_,ha.len,by walk_at"o",by walk_at"o",by walk_at"o",by walk_at"o",fun d H1 hd S1 h1=>?_⟩
  rw[show ((fs.length:Int) - 1).toNat=fs.length - 1 by walk_at"o"]
  have f1:∀ k:Nat,Fq (((k:Nat):Int),1):=fun k=>⟨Int.one_pos,by simp⟩
  refine bY (its:=hJ 1 (fs.length - 1)) (fun i zs H'=>ay (vw K H) (vw K H') /\ ∃ vs:List (Int × Int),vs.length=i/\aE (vw K H') (vs.map fr) zs/\(∀ q ∈ vs,Fq q) /\ ∀ (j:Nat)(q:Int × Int),vs[j]? = some q->wv q=((j+1:Nat):Int)*cf fs (j+1))
   (fun _ _ _ _ _ _=>cK) h1 ⟨S1,[],rfl,.mk_nil,by simp,by simp⟩ (fun i x zs H2 hi hx h2 p=>?_) (fun zs H2 h2 p=>?_)
  ·obtain⟨S2,vs,lv,rv,fv,hv⟩:=p
   obtain⟨hi',rfl⟩:=gT hx
   rw[show (1:Int)+(i:Int)=((i+1:Nat):Int) by walk_at"o"]
   have hi2:i+1<fs.length:=by walk_at"o"
   obtain⟨x2,e2,r2⟩:=rxs.at (i:=i+1) (d:=fr fs[i+1]) (by rw[List.getElem?_map,List.getElem?_eq_getElem hi2];rfl)
   obtain⟨k1,k2⟩:=hf fs[i+1] (List.getElem_mem hi2)
   have bi:Bq 10 (((i+1:Nat):Int),1):=by
    refine⟨?_,(by decide:Bt 10 1)⟩
    show (((i+1:Nat):Int)).natAbs<2 ^ 10
    walk_at"o"
   walk_at"vc"
   refine⟨by decide,fun p3 H3 hp3 S3 h3=>⟨xs,S3 _ _ (S2 _ _ hxs),x2,dj e2,?_⟩⟩
   simp only[kH]
   walk_at"vc"
   refine⟨_,bU h3,_,aJ.same (S2.trans S3) _ _ r2,(f1 (i+1)).ne,k1.ne,bi.mono (by decide),k2.mono (by decide),(bi.2.mul k2.2).mono (by decide),fun v4 H4 S4 r4=>.mk ((S3.trans S4) _ _ h2) ?_ fun H5 B5 h5=>⟨fun b o e=>B5 _ _ (aj e hd) (S4 _ _ (S3 _ _ (S2 _ _ e))),vs ++ [sI (((i+1:Nat):Int),1) fs[i+1]],by simp[lv],?_,fun q hq=>?_,fun j q e=>?_⟩⟩
   ·rw[rv.length,List.length_map,lv]
    have:1000<=sizeLine:=by decide
    walk_at"o"
   ·rw[List.map_append]
    exact (aE.flat_but ((S3.trans S4) _ _ h2) B5 _ _ (dP vs) (rv.same (S3.trans S4))).snoc (aJ.flat_but ((S3.trans S4) _ _ h2) B5 _ _ (cr _) r4)
   ·rcases List.mem_append.mp hq with z|z
    ·exact fv q z
    ·cases List.mem_singleton.mp z
     exact ww (f1 (i+1)) k1
   ·by_cases hj:j<vs.length
    ·rw[List.getElem?_append_left hj] at e
     exact hv j q e
    ·have hj2:j=i:=by
      have:=(List.getElem?_eq_some_iff.mp e).1
      simp at this
      walk_at"o"
     subst hj2
     rw[List.getElem?_append_right (by walk_at"o"),lv,Nat.sub_self] at e
     cases e
     rw[Ag (f1 (j+1)).ne k1.ne,bJ (List.getElem?_eq_getElem hi2)]
     have e1:wv (((j+1:Nat):Int),1)=((j+1:Nat):Int):=by
      show (((j+1:Nat):Int):Rat) / ((1:Int):Rat)=_
      have:((1:Int):Rat)=1:=rfl
      rw[this]
      grind
     rw[e1]
  ·obtain⟨S2,vs,lv,rv,fv,hv⟩:=p
   rw[eJ] at lv
   refine h d H2 vs S2 ⟨zs,h2,rv⟩ hd ⟨fv,fun q hq=>?_⟩ (fun k=>?_) lv
   ·intro e0
    have hl:0<vs.length:=by
     cases vs with
     | nil=>cases hq
     | cons _ _=>simp
    rw[List.getLast?_eq_getElem?] at hq
    have e1:=hv _ q hq
    rw[(iy (fv q (List.mem_of_getElem? hq)).ne).mpr e0] at e1
    have e2:fs[vs.length - 1+1]? = some (fs[vs.length - 1+1]'(by walk_at"o")):=List.getElem?_eq_getElem (by walk_at"o")
    rw[bJ e2] at e1
    have e3:fs.getLast? = some (fs[vs.length - 1+1]'(by walk_at"o")):=by
     rw[List.getLast?_eq_getElem?,<- e2]
     congr 1
     walk_at"o"
    have e4:=pf.2 _ e3
    have e5:wv (fs[vs.length - 1+1]'(by walk_at"o")) ≠ 0:=fun z=>e4 ((iy (pf.1 _ (List.getElem_mem _)).ne).mp z)
    have e6:(((vs.length - 1+1:Nat):Int):Rat) ≠ 0:=ar (by walk_at"o")
    grind
   ·by_cases hk:k<vs.length
    ·rw[bJ (List.getElem?_eq_getElem hk)]
     exact hv k _ (List.getElem?_eq_getElem hk)
    ·rw[cC (by walk_at"o"),cC (qs:=fs) (by walk_at"o")]
     grind
def cz(K:W.Frag):Sp:=fun vs H Q _=>∃ (a:Addr)(ns:List Int)(d:Int),vs=[.ref a,.int d]/\vw K H a=some (.lst (ns.map V.int))/\ns.length<=100/\d ≠ 0/\Bt 80000000 d /\
 ∀ c H' (rs:List (Int × Int)),ay (vw K H) (vw K H')->aM (vw K H') c rs->vw K H c=none->aL rs->(∀ k,cf rs k=((nz ns k:Int):Rat) / (d:Rat))->rs.length<=ns.length->(∀ q ∈ rs,∃ n ∈ ns,q=lo n d)->Q (.ref c) H'
theorem uh(F:eM K "divided" "divided" gy f fd) (T:fL K mg)(C_trimmed:aS P w K mg base "trimmed" ["numbers", "zero"] 1 (dI K)) (C_ratio:aS P w K mg base "ratio" ["top", "bottom"] 2 (cS K)):bK P w K mg base eI 3 f fd ["wholes", "bottom"] (cz K):=by
 have scN:=oT.nd
 refine F.okQ oT (fun vs H Q E h=>?_) (fun cdv A outer s H vs Q E hr h=>?_)
 ·obtain⟨a,_,_,rfl,_⟩:=h
  rfl
 ·obtain⟨a,ns,d,rfl,ha,ln,nd,bd,h⟩:=h
  obtain⟨z_ZERO,hg_ZERO,hv_ZERO⟩:=T.g_ZERO
  refine⟨_,(ah (ap (ai C_trimmed (hr.mono (by walk_at"a2")) rfl (aa (dF (own:=["whole"]) (outs:=["bottom"]) (ixs:=[1]) rfl (cu (qv 0)) rfl ⟨rfl,rfl,rfl,⟨rfl,trivial⟩,rfl,⟨⟨rfl,rfl,rfl,_,rfl⟩,trivial⟩⟩ (fun _ _ _ _=>⟨(ak (i:=0) (show (["whole", "bottom"]:List Str).Nodup by decide +kernel) rfl (by walk_at"a1")),dg,(ai C_ratio (hr.mono (by walk_at"a2")) rfl (aa (qv 0) (aa (qv 1) ac)))⟩)) (aa (eC (v:=V.ref z_ZERO) rfl hg_ZERO rfl) ac))))),?_⟩
  walk_at"m"
  walk_at"vc"
  refine⟨⟨_,.of (aF ha)⟩,fun e H1 he S1 h1=>?_⟩
  refine bY (its:=ns.map V.int) (fun i zs H'=>ay (vw K H) (vw K H')/\aE (vw K H') (((ns.take i).map fun n=>lo n d).map fr) zs)
   (fun _ _ H' _ _ p=>aU (p.1 _ _ ha)) h1 ⟨S1,.mk_nil⟩ (fun i x zs H2 hi hx h2 p=>?_) (fun zs H2 h2 p=>?_)
  ·obtain⟨S2,rv⟩:=p
   rw[List.length_map] at hi
   rw[List.getElem?_map,List.getElem?_eq_getElem hi] at hx
   cases hx
   walk_at"vc"
   simp only[cS]
   walk_at"vc"
   refine⟨nd,bd.mono (by decide),fun v3 H3 S3 r3=>.mk (S3 _ _ h2) ?_ fun H4 B4 h4=>⟨fun b o e'=>B4 _ _ (aj e' he) (S3 _ _ (S2 _ _ e')),?_⟩⟩
   ·rw[rv.length,List.length_map,List.length_map,List.length_take]
    have:1000<=sizeLine:=by decide
    walk_at"o"
   ·rw[List.take_add_one,List.getElem?_eq_getElem hi,List.map_append,List.map_append]
    exact (aE.flat_but (S3 _ _ h2) B4 _ _ (dP _) (rv.same S3)).snoc (aJ.flat_but (S3 _ _ h2) B4 _ _ (cr _) r3)
  ·obtain⟨S2,rv⟩:=p
   rw[List.length_map,List.take_length] at rv
   walk_at"vc"
   simp only[dI]
   refine .inl ?_
   walk_at"vc"
   refine⟨_,⟨zs,h2,rv⟩,hv_ZERO _,fun q hq=>?_,fun c H3 rs S3 l3 n3 p3 c3 e3 m3=>h c H3 rs (S2.trans S3) l3 ?_ p3 (fun k=>?_) ?_ fun q hq=>?_⟩
   ·obtain⟨n,_,rfl⟩:=List.mem_map.mp hq
    exact ir nd
   ·cases e':vw K H c with
    | none=>rfl
    | some o=>rw[S2 _ _ e'] at n3;cases n3
   ·rw[c3 k]
    by_cases hk:k<ns.length
    ·rw[cp (List.getElem?_eq_getElem hk),bJ (q:=lo ns[k] d) (by rw[List.getElem?_map,List.getElem?_eq_getElem hk];rfl)]
     exact ii nd
    ·rw[cC (by rw[List.length_map];walk_at"o"),cF (by walk_at"o")]
     show 0=((0:Int):Rat) / (d:Rat)
     grind
   ·rw[List.length_map] at e3
    exact e3
   ·obtain⟨n,h1,h2⟩:=List.mem_map.mp (m3 q hq)
    exact⟨n,h1,h2.symm⟩
def aT(K:W.Frag):Sp:=fun vs H Q _=>∃ (a b:Addr)(ms ns:List Int)(m n:Nat),vs=[.ref a,.ref b]/\vw K H a=some (.lst (ms.map V.int))/\vw K H b=some (.lst (ns.map V.int))/\ms.length<=40/\ns.length<=40/\m<=40000000/\n<=40000000/\(∀ x ∈ ms,Bt m x)/\(∀ x ∈ ns,Bt n x) /\
 ∀ c H' L,ay (vw K H) (vw K H')->vw K H' c=some (.lst ((lz L (pz (nz ms) (nz ns) ms.length)).map V.int))->vw K H c=none->L<=ms.length+ns.length->(ms ≠ []->ns ≠ []->L+1=ms.length+ns.length)->(∀ k,L<=k->pz (nz ms) (nz ns) ms.length k=0)->Q (.ref c) H'
theorem i9(F:eM K "wholes_multiplied" "wholes_multiplied" bZ f fd) (T:fL K mg):bK P w K mg base eI 1 f fd ["one", "other"] (aT K):=by
 have scN:=ga.nd
 refine F.okQ ga (fun vs H Q E h=>?_) (fun cdv A outer s H vs Q E hr h=>?_)
 ·obtain⟨a,_,_,_,_,_,rfl,_⟩:=h
  rfl
 ·obtain⟨a,b,ms,ns,m,n,rfl,ha,hb,lm,ln,hm,hn,bm,bn,h⟩:=h
  refine⟨_,(ae (cc (QW.pt (mh (dO (cX (qv 0) (fun _=>rfl))) (kW (dO (cX (qv 1) (fun _=>rfl)))))) (ah (ap (bC ac))) aN)
   (ae (aC (i:=2) scN rfl (by walk_at"a1") (ao aH (bC (aa af ac)) (ao dE (ao cb (au aB (by rfl) T.b_len aV (aa (qv 0) ac)) (au aB (by rfl) T.b_len aV (aa (qv 1) ac))) af)))
   (ae (cT PassesOwn.never rfl (jI rfl T.b_enumerate (aa (qv 0) ac)) (aX (n:=2) rfl (am (ak (i:=3) scN rfl (by walk_at"a1")) (am (ak (i:=4) scN rfl (by walk_at"a1")) aY))) (ah (cT PassesOwn.never rfl (jI rfl T.b_enumerate (aa (qv 1) ac)) (aX (n:=2) rfl (am (ak (i:=5) scN rfl (by walk_at"a1")) (am (ak (i:=6) scN rfl (by walk_at"a1")) aY))) (ah (kJ (qv 2) (ao cb (qv 3) (qv 5)) ig (ao aH (qv 4) (qv 6)) uj fb)))))
   (ah (ap (qv 2)))))),?_⟩
  walk_at"m"
  walk_at"vc"
  have lena:fz (vw K H) a=some ms.length:=by simp only[fz,ha,List.length_map]
  have lenb:fz (vw K H) b=some ns.length:=by simp only[fz,hb,List.length_map]
  refine⟨_,iJ ha,ce (fun e=>?_) fun e=>?_⟩
  ·have e2:ms=[]:=by simpa using e
   subst e2
   exact⟨by decide,fun c H2 hc S2 h2=>h c H2 0 S2 h2 hc (by simp) (fun z=>absurd rfl z) fun k _=>rfl⟩
  refine⟨_,iJ hb,ce (fun e'=>?_) fun e'=>?_⟩
  ·have e2:ns=[]:=by simpa using e'
   subst e2
   refine⟨by decide,fun c H2 hc S2 h2=>h c H2 0 S2 h2 hc (by simp) (fun _ z=>absurd rfl z) fun k _=>?_⟩
   have z:∀ j,pz (nz ms) (nz []) j k=0:=fun j=>by
    induction j with
    | zero=>rfl
    | succ j ih =>
     show pz (nz ms) (nz []) j k+(if j<=k then nz ms j*nz [] (k - j) else 0)=0
     rw[ih,cF (ns:=[]) (by simp)]
     simp
   exact z _
  have em:0<ms.length:=by
   cases ms with
   | nil=>exact absurd rfl e
   | cons _ _=>simp
  have en:0<ns.length:=by
   cases ns with
   | nil=>exact absurd rfl e'
   | cons _ _=>simp
  refine⟨by decide,fun p1 H1 hp1 S1 h1=>⟨ms.length,(by simp only[fz,S1 _ _ ha,List.length_map]),ns.length,(by simp only[fz,S1 _ _ hb,List.length_map]),?_⟩⟩
  obtain⟨L,hL⟩ : ∃ L,ms.length+ns.length=L+1:=⟨ms.length+ns.length - 1,by walk_at"o"⟩
  rw[show (ms.length:Int)+(ns.length:Int) - 1=((L:Nat):Int) by walk_at"o",ki]
  refine⟨_,h1,by walk_at"o",by walk_at"o",?_,fun c H2 hc S2 h2=>?_⟩
  ·have:1000<=sizeLine:=by decide
   simp
   walk_at"o"
  rw[show ((L:Nat):Int).toNat=L by walk_at"o",FF] at h2
  have S02:=S1.trans S2
  have nc:vw K H c=none:=by
   cases e0:vw K H c with
   | none=>rfl
   | some o=>rw[S1 _ _ e0] at hc;cases hc
  simp only[mC]
  walk_at"vc"
  refine⟨⟨_,S02 _ _ ha⟩,?_⟩
  obtain⟨Pv,hPv⟩ : ∃ Pv:Nat->St->Hp->Prop,∀ j σ H',Pv j σ H' ↔ ∃ o3 o4 o5 o6,σ=[some (.ref a),some (.ref b),some (.ref c),o3,o4,o5,o6]/\ay (vw K H) (vw K H')/\vw K H' c=some (.lst (lz L fun k=>V.int (pz (nz ms) (nz ns) j k))):=⟨_,fun _ _ _=>Iff.rfl⟩
  refine iV (rows:=(ms.map V.int).mapIdx fun i x=>[V.int i,x]) Pv (fun j σ H' _ p=>?_) ((hPv _ _ _).mpr ⟨_,_,_,_,rfl,S02,h2⟩) (fun j t σ H3 p H4 hj ht pv hp S4 h4=>?_) (fun σ H3 pv=>?_)
  ·obtain⟨_,_,_,_,_,S,_⟩:=(hPv _ _ _).mp p
   exact⟨_,aF (S _ _ ha),rfl⟩
  ·obtain⟨o3,o4,o5,o6,rfl,S3,h3⟩:=(hPv _ _ _).mp pv
   rw[List.length_mapIdx,List.length_map] at hj
   rw[List.getElem?_mapIdx,List.getElem?_map,List.getElem?_eq_getElem hj] at ht
   cases ht
   walk_at"vc"
   refine⟨_,h4,rfl,?_⟩
   walk_at"vc"
   have S04:=S3.trans S4
   simp only[mC]
   walk_at"vc"
   refine⟨⟨_,S04 _ _ hb⟩,?_⟩
   obtain⟨Pw,hPw⟩ : ∃ Pw:Nat->St->Hp->Prop,∀ l σ H',Pw l σ H' ↔ ∃ o5 o6,σ=[some (.ref a),some (.ref b),some (.ref c),some (.int j),some (.int ms[j]),o5,o6]/\ay (vw K H) (vw K H')/\vw K H' c=some (.lst (lz L fun k=>V.int (qz (nz ms) (nz ns) j l k))):=⟨_,fun _ _ _=>Iff.rfl⟩
   refine iV (rows:=(ns.map V.int).mapIdx fun i x=>[V.int i,x]) Pw (fun l σ H' _ p=>?_) ((hPw _ _ _).mpr ⟨_,_,rfl,S04,?_⟩) (fun l t σ H5 p5 H6 hl ht pw hp5 S6 h6=>?_) (fun σ H5 pw=>?_)
   ·obtain⟨_,_,_,S,_⟩:=(hPw _ _ _).mp p
    exact⟨_,aF (S _ _ hb),rfl⟩
   ·rw[S4 _ _ h3]
    congr 2
    exact iu fun k _=>by rw[Hl]
   ·obtain⟨o5,o6,rfl,S5,h5⟩:=(hPw _ _ _).mp pw
    rw[List.length_mapIdx,List.length_map] at hl
    rw[List.getElem?_mapIdx,List.getElem?_map,List.getElem?_eq_getElem hl] at ht
    cases ht
    walk_at"vc"
    refine⟨_,h6,rfl,?_⟩
    walk_at"vc"
    simp only[nW,DS]
    walk_at"vc"
    have hx:=S6 _ _ h5
    have b1:=bm ms[j] (List.getElem_mem hj)
    have b2:=bn ns[l] (List.getElem_mem hl)
    rw[show (j:Int)+(l:Int)=((j+l:Nat):Int) by walk_at"o"]
    have hjl:j+l<L:=by walk_at"o"
    refine⟨_,hx,_,dj (cV hjl),bO b1 b2 (by walk_at"o"),_,rfl,_,hx,j+l,by rw[aW];exact kl hjl,fun H7 B7 h7=>(hPw _ _ _).mpr ⟨_,_,rfl,?_,?_⟩⟩
    ·exact fun x o e0=>B7 _ _ (aj e0 nc) (S6 _ _ (S5 _ _ e0))
    ·rw[h7,AA]
     congr 2
     refine iu fun k hk=>?_
     rw[F5,cp (List.getElem?_eq_getElem hj),cp (List.getElem?_eq_getElem hl)]
     split <;> rfl
   ·obtain⟨o5,o6,rfl,S5,h5⟩:=(hPw _ _ _).mp pw
    refine (hPv _ _ _).mpr ⟨_,_,_,_,rfl,S5,?_⟩
    rw[h5,List.length_mapIdx,List.length_map]
    congr 2
    refine iu fun k hk=>?_
    rw[D6 fun i hi=>cF hi]
  ·obtain⟨o3,o4,o5,o6,rfl,S3,h3⟩:=(hPv _ _ _).mp pv
   rw[List.length_mapIdx,List.length_map] at h3
   walk_at"vc"
   refine h c H3 L S3 (by rw[h3,rf]) nc (by walk_at"o") (fun _ _=>by walk_at"o") fun k hk=>?_
   have e1:=m7 (f:=nz ms) (g:=nz ns) (F:=fun i=>(nz ms i:Rat)) (G:=fun i=>(nz ns i:Rat)) (c:=1) (d:=1) (fun i=>by grind) (fun i=>by grind) ms.length k
   rw[iz (n:=ns.length) (fun i hi=>by rw[cF hi];rfl) ms.length k (by walk_at"o")] at e1
   have e2:((pz (nz ms) (nz ns) ms.length k:Int):Rat)=((0:Int):Rat):=by rw[e1];grind
   exact Rat.intCast_inj.mp e2
def ix(K:W.Frag):Sp:=fun vs H Q _=>∃ (a b:Addr)(fs gs:List (Int × Int)),vs=[.ref a,.ref b]/\aM (vw K H) a fs/\aM (vw K H) b gs/\fs ≠ []/\fs.length<gs.length/\gs.length<=7/\aL fs/\aL gs/\Pb 1110 (cf fs)/\Pb 1110 (cf gs)/\re (cf gs) (cf fs) /\
 ∀ d H' (rs:List (Int × Int)),ay (vw K H) (vw K H')->aM (vw K H') d rs->aL rs->rs.length<=8->(∀ q ∈ rs,Bq 3900000 q)->Q (.ref d) H'
theorem uy(F:eM K "inverse" "inverse" gw f fd) (T:fL K mg)(N_:oX P base)(C_cleared:aS P w K mg base "cleared" ["f"] 2 (aP K)) (C_wholes_rests:aS P w K mg base "wholes_rests" ["one", "other"] 3 (eT K)) (C_wholes_multiplied:aS P w K mg base "wholes_multiplied" ["one", "other"] 1 (aT K)) (C_divided:aS P w K mg base "divided" ["wholes", "bottom"] 3 (cz K)):bK P w K mg base eI 4 f fd ["f", "g"] (ix K):=by
 have scN:=ou.nd
 refine F.okQ ou (fun vs H Q E h=>?_) (fun cdv A outer s H vs Q E hr h=>?_)
 ·obtain⟨_,_,_,_,rfl,_⟩:=h
  rfl
 ·obtain⟨a,b,fs,gs,rfl,ha,hb,f0,lfg,lg7,pf,pg,bf,bg,ns',h⟩:=h
  refine⟨_,(ae (cM (ai C_cleared (hr.mono (by walk_at"a2")) rfl (aa (qv 0) ac)) (aX (n:=2) rfl (am (ak (i:=2) scN rfl (by walk_at"a1")) (am (ak (i:=3) scN rfl (by walk_at"a1")) aY))))
   (ae (vg (i:=4) (j:=5) (k:=6) rfl scN rfl rfl rfl (by decide) (by decide) (by decide) rfl rfl rfl (aa (bC ac) (aa (bC (aa af ac)) (aa (qv 2) ac))) rfl)
   (ae (cT PassesOwn.never rfl (cu (ai C_wholes_rests (hr.mono (by walk_at"a2")) rfl (aa (aA b9 (ai C_cleared (hr.mono (by walk_at"a2")) rfl (aa (qv 1) ac)) af (fun _ _=>rfl)) (aa (qv 2) ac)))) (aX (n:=4) rfl (am (ak (i:=7) scN rfl (by walk_at"a1")) (am (ak (i:=8) scN rfl (by walk_at"a1")) (am (ak (i:=9) scN rfl (by walk_at"a1")) (am (ak (i:=10) scN rfl (by walk_at"a1")) aY))))) (ae (kQ (i:=11) (own:=["whole"]) (outs:=[]) (ixs:=[]) scN rfl (by walk_at"a1") rfl (cu (ai C_wholes_multiplied (hr.mono (by walk_at"a2")) rfl (aa (qv 8) (aa (qv 5) ac)))) rfl ⟨rfl,rfl,rfl,trivial,rfl,trivial⟩ (fun _ _ _ _=>⟨(ak (i:=0) (show (["whole"]:List Str).Nodup by decide +kernel) rfl (by walk_at"a1")),dg,(de cn (qv 0))⟩))
   (ae (cT PassesOwn.never rfl (jI rfl T.b_enumerate (aa (qv 4) ac)) (aX (n:=2) rfl (am (ak (i:=12) scN rfl (by walk_at"a1")) (am (ak (i:=13) scN rfl (by walk_at"a1")) aY))) (ah (kJ (qv 11) (qv 12) ig (ao aH (qv 10) (qv 13)) uj fb)))
   (ah (vg (i:=4) (j:=5) (k:=6) rfl scN rfl rfl rfl (by decide) (by decide) (by decide) rfl rfl rfl (aa (qv 5) (aa (dF (own:=["whole"]) (outs:=["top"]) (ixs:=[9]) rfl (cu (qv 11)) rfl ⟨rfl,rfl,rfl,⟨rfl,trivial⟩,rfl,⟨⟨rfl,rfl,rfl,_,rfl⟩,trivial⟩⟩ (fun _ _ _ _=>⟨(ak (i:=0) (show (["whole", "top"]:List Str).Nodup by decide +kernel) rfl (by walk_at"a1")),dg,(ao (sW N_ hr rfl rfl rfl rfl rfl) (qv 0) (qv 1))⟩)) (aa (qv 7) ac))) rfl)))))
   (ah (ap (ai C_divided (hr.mono (by walk_at"a2")) rfl (aa (dF (own:=["whole"]) (outs:=["bottom"]) (ixs:=[3]) rfl (cu (qv 5)) rfl ⟨rfl,rfl,rfl,⟨rfl,trivial⟩,rfl,⟨⟨rfl,rfl,rfl,_,rfl⟩,trivial⟩⟩ (fun _ _ _ _=>⟨(ak (i:=0) (show (["whole", "bottom"]:List Str).Nodup by decide +kernel) rfl (by walk_at"a1")),dg,(ao (show eK _ _ (gK K) from aH) (qv 0) (qv 1))⟩)) (aa (aA dL (qv 6) af (fun _ _=>rfl)) ac)))))))),?_⟩
  walk_at"m"
  skip
  refine aR.gen fun N1 hN1=>?_
  walk_at"vc"
  simp only[aP]
  refine⟨a,fs,1110,rfl,ha,by walk_at"o",by decide,fun q hq=>⟨pf.1 q hq,bf.bq pf.1 q hq⟩,fun p1 b1 H1 D ns S1 h1 hb1 nb1 hD bD ln hn hm=>⟨_,rfl,_,h1,rfl,_,_,rfl,_,_,rfl,rfl,hN1 _ _ ?_⟩⟩
  have cl1:=gJ bf pf.1 hD hm ln fun i n q e1 e2=>(hn i n q e1 e2).1
  refine aR.gen fun N2 hN2=>?_
  walk_at"vc"
  simp only[yr]
  walk_at"vc"
  refine⟨by decide,fun fo H2 hfo S2 h2=>⟨by decide,fun la H3 hla S3 h3=>hN2 _ _ ?_⟩⟩
  refine aR.gen fun N3 hN3=>?_
  have S23:=S2.trans S3
  have S13:=S1.trans S23
  walk_at"vc"
  simp only[aP]
  refine⟨b,gs,1110,rfl,hb.same S13,by walk_at"o",by decide,fun q hq=>⟨pg.1 q hq,bg.bq pg.1 q hq⟩,fun p4 b4 H4 D4 ms S4 h4 hb4 nb4 hD4 bD4 lm hm4 hmm=>?_⟩
  have cl4:=gJ bg pg.1 hD4 hmm lm fun i n q e1 e2=>(hm4 i n q e1 e2).1
  refine⟨p4,rfl,_,h4,_,dJ,?_⟩
  simp only[eT]
  have lf1:=List.length_pos_iff.mpr f0
  have cA:∀ k,((nz ns k:Int):Rat)=cf fs k*(D:Rat):=fI ln fun i n q e1 e2=>(hn i n q e1 e2).1
  have cB:∀ k,((nz ms k:Int):Rat)=cf gs k*(D4:Rat):=fI lm fun i n q e1 e2=>(hm4 i n q e1 e2).1
  have cD:(D:Rat) ≠ 0:=ar (by walk_at"o")
  have cD4:(D4:Rat) ≠ 0:=ar (by walk_at"o")
  have nA:nz ns (ns.length - 1) ≠ 0:=fun z=>by
   have e:=cA (ns.length - 1)
   have p:=jz pf f0
   rw[z,ln,show ((0:Int):Rat)=0 from rfl] at e
   grind
  have nB:nz ms (ms.length - 1) ≠ 0:=fun z=>by
   have e:=cB (ms.length - 1)
   have p:=jz pg (fun z=>by rw[z] at lfg;simp at lfg)
   rw[z,lm,show ((0:Int):Rat)=0 from rfl] at e
   grind
  have ns0:ns ≠ []:=fun z=>by rw[z] at ln;simp at ln;walk_at"o"
  have ms0:ms ≠ []:=fun z=>by rw[z] at lm;simp at lm;walk_at"o"
  refine⟨b4,b1,ms,ns,rfl,hb4,(S23.trans S4) _ _ hb1,ms0,by walk_at"o",⟨by walk_at"o",cl4.2,fun _=>nB⟩,⟨by walk_at"o",cl1.2,fun _=>nA⟩,fun d5 H5 tv rows S5 h5 rr rsq lr rb=>⟨d5,rfl,⟨_,.of (aF h5)⟩,?_⟩⟩
  have few:=rsq.few
  have S25:=S4.trans S5
  obtain⟨Pv,hPv⟩ : ∃ Pv:Nat->St->Hp->Prop,∀ i σ H',Pv i σ H' ↔ ∃ (fo la ls:Addr)(us ws F G:List Int)(o7 o8 o9 o10 o11 o12 o13:Option V),σ=[some (.ref a),some (.ref b),some (.ref b1),some (.int D),some (.ref fo),some (.ref la),some (.ref ls),o7,o8,o9,o10,o11,o12,o13]/\ay (vw K H5) (vw K H')/\vw K H' fo=some (.lst (us.map V.int))/\vw K H' la=some (.lst (ws.map V.int))/\vw K H' ls=some (.lst (G.map V.int))/\rW F G (rows.drop i)/\G ≠ []/\ws.length+F.length=ms.length+1/\us.length<=ws.length/\ws ≠ []/\(∀ x ∈ us,Bt (1+700100*i) x)/\(∀ x ∈ ws,Bt (1+700100*i) x)/\gI G (rows.drop i)=gI ns rows:=⟨_,fun _ _ _=>Iff.rfl⟩
  refine cg (its:=tv) Pv (fun i σ H' _ q=>?_) ((hPv _ _ _).mpr ⟨fo,la,b1,[],[1],ms,ns,_,_,_,_,_,_,_,rfl,.rfl,(S3.trans S25) _ _ h2,S25 _ _ h3,(S23.trans S25) _ _ hb1,rsq,ns0,by simp;walk_at"o",by simp,by simp,by simp,fun x hx=>?_,rfl⟩) (fun i x σ H6 hi hx pv=>?_) (fun σ H6 pv=>hN3 _ _ ?_)
  ·obtain⟨_,_,_,_,_,_,_,_,_,_,_,_,_,_,_,S',_⟩:=(hPv _ _ _).mp q
   exact aU (S' _ _ h5)
  ·cases List.mem_singleton.mp hx
   decide
  ·obtain⟨fo,la,ls,us,ws,F,G,o7,o8,o9,o10,o11,o12,o13,rfl,S6,hfo,hla,hls,rq,G0,lw,luw,w0,bu,bw,elast⟩:=(hPv _ _ _).mp pv
   have hir:i<rows.length:=by rw[<- rr.1];exact hi
   have kx:rows[i]? = some rows[i]:=List.getElem?_eq_getElem hir
   obtain⟨p',ra,qa,t1,t2,t3,t4,_,_⟩:=rr.2 i _ kx
   obtain⟨_,_,bT,bS,q9,q1,bq⟩:=rb _ (List.getElem_mem hir)
   rw[List.drop_eq_getElem_cons hir] at rq elast
   obtain⟨R,Qw,Tt,Ss,erow⟩ : ∃ R Qw Tt Ss,rows[i]=(R,Qw,Tt,Ss):=⟨_,_,_,_,rfl⟩
   rw[erow] at rq elast t2 t3 t4 bT bS q9 q1 bq
   rw[t1] at hx
   cases hx
   obtain⟨T0,lq,R0,rq'⟩ : Tt ≠ 0/\Qw.length+G.length=F.length+1/\R ≠ []/\rW G R (rows.drop (i+1)):=by
    cases rq with
    | more _ _ _ h1 h2 _ _ h3 _ h4=>exact⟨h1,h3,h2,h4⟩
   have i5:i<=4:=by walk_at"o"
   replace q1:1<=Qw.length:=q1
   replace q9:Qw.length<=9:=q9
   replace bS:Bt 200000 Ss:=bS
   replace bq:∀ x ∈ Qw,Bt 700000 x:=bq
   have w1:=List.length_pos_iff.mpr w0
   have g1:=List.length_pos_iff.mpr G0
   walk_at"vc"
   refine⟨_,S6 _ _ t2,rfl,_,_,rfl,_,_,rfl,_,_,rfl,_,_,rfl,rfl,?_⟩
   simp only[aT]
   refine⟨qa,la,Qw,ws,700000,1+700100*i,rfl,S6 _ _ t4,hla,by walk_at"o",by walk_at"o",by decide,by walk_at"o",bq,bw,fun c7 H7 L S7 h7 n7 lL eL zL=>?_⟩
   have eL':=eL (fun z=>by rw[z] at q1;simp at q1) w0
   obtain⟨ys,hys⟩ : ∃ ys,ys=lz L (pz (nz Qw) (nz ws) Qw.length):=⟨_,rfl⟩
   rw[<- hys] at h7
   have lys:ys.length=L:=by rw[hys,aW]
   have S67:=S6.trans S7
   refine⟨c7,rfl,⟨_,.of (aF h7)⟩,fun c8 H8 hc8 S8 h8=>?_⟩
   refine bY (its:=ys.map V.int) (fun j zs H'=>ay (vw K H7) (vw K H')/\zs=(ys.take j).map fun y=>V.int (-y)) (fun j zs H' _ _ z=>aU (z.1 _ _ h7)) h8 ⟨S8,rfl⟩ (fun j y zs H' hj hy h' z=>?_) (fun zs H9 h9 z=>?_)
   ·obtain⟨z1,rfl⟩:=z
    rw[List.length_map] at hj
    rw[List.getElem?_map,List.getElem?_eq_getElem hj] at hy
    cases hy
    walk_at"vc"
    refine .mk h' ?_ fun H10 B10 h10=>⟨fun x o e=>B10 _ _ (aj e hc8) (z1 _ _ e),?_⟩
    ·rw[List.length_map,List.length_take]
     have:1000<=sizeLine:=by decide
     walk_at"o"
    ·rw[List.take_add_one,List.getElem?_eq_getElem hj,List.map_append]
     rfl
   obtain⟨S79,rfl⟩:=z
   rw[List.length_map,List.take_length] at h9
   have by0:∀ (k:Nat)(x:Int),(ys.map fun y=>-y)[k]? = some x->Bt (700011+700100*i) x:=fun k x e=>by
    rw[List.getElem?_map] at e
    cases e2:ys[k]? with
    | none=>rw[e2] at e;cases e
    | some y =>
     rw[e2] at e
     cases e
     have bz:=va (i8 bq) (i8 bw) Qw.length k
     have ey:nz ys k=pz (nz Qw) (nz ws) Qw.length k:=by rw[hys,uW (by rw[<- lys];exact (List.getElem?_eq_some_iff.mp e2).1)]
     rw[<- ey,cp e2] at bz
     have bz':Bt (700011+700100*i) y:=bz.mono (by walk_at"o")
     unfold Bt at bz' ⊢
     rw[Int.natAbs_neg]
     exact bz'
   simp only[mC]
   walk_at"vc"
   refine⟨⟨_,S79 _ _ (S7 _ _ hfo)⟩,?_⟩
   obtain⟨Pw,hPw⟩ : ∃ Pw:Nat->St->Hp->Prop,∀ j σ H',Pw j σ H' ↔ ∃ (o12 o13:Option V)(zs:List Int),σ=[some (.ref a),some (.ref b),some (.ref b1),some (.int D),some (.ref fo),some (.ref la),some (.ref ls),some (.ref ra),some (.ref qa),some (.int Tt),some (.int Ss),some (.ref c8),o12,o13]/\ay (vw K H7) (vw K H')/\vw K H' c8=some (.lst (zs.map V.int))/\zs.length=L/\(∀ (k:Nat)(x:Int),zs[k]? = some x->Bt (700012+700100*i) x) /\ ∀ (k:Nat)(x:Int),j<=k->zs[k]? = some x->Bt (700011+700100*i) x:=⟨_,fun _ _ _=>Iff.rfl⟩
   refine iV (rows:=(us.map V.int).mapIdx fun i x=>[V.int i,x]) Pw (fun l σ H' _ p=>?_) ((hPw _ _ _).mpr ⟨_,_,ys.map fun y=>-y,rfl,S79,by rw[List.map_map];exact h9,by rw[List.length_map];exact lys,fun k x e=>(by0 k x e).mono (by walk_at"o"),fun k x _ e=>by0 k x e⟩) (fun l t σ H10 p10 H11 hl ht pw hp10 S11 h11=>?_) (fun σ H10 pw=>?_)
   ·obtain⟨_,_,_,_,S',_⟩:=(hPw _ _ _).mp p
    exact⟨_,aF (S' _ _ (S7 _ _ hfo)),rfl⟩
   ·obtain⟨o12,o13,zs,rfl,S10,h10,lzs,bz,bz2⟩:=(hPw _ _ _).mp pw
    rw[List.length_mapIdx,List.length_map] at hl
    rw[List.getElem?_mapIdx,List.getElem?_map,List.getElem?_eq_getElem hl] at ht
    cases ht
    have hlz:l<zs.length:=by walk_at"o"
    walk_at"vc"
    refine⟨_,h11,rfl,?_⟩
    walk_at"vc"
    simp only[nW,DS]
    walk_at"vc"
    have hx:=S11 _ _ h10
    have b1':=bu us[l] (List.getElem_mem hl)
    have b2':=bz2 l zs[l] (Nat.le_refl _) (List.getElem?_eq_getElem hlz)
    refine⟨_,hx,_,dj (by rw[List.getElem?_map,List.getElem?_eq_getElem hlz];rfl),bO bS b1' (by walk_at"o"),_,rfl,_,hx,l,by rw[List.length_map];exact kl hlz,fun H12 B12 h12=>(hPw _ _ _).mpr ⟨_,_,zs.set l (zs[l]+Ss*us[l]),rfl,?_,?_,by rw[List.length_set];exact lzs,fun k x e=>?_,fun k x hk e=>?_⟩⟩
    ·exact fun x o e0=>B12 _ _ (aj e0 hc8) (S11 _ _ (S10 _ _ e0))
    ·rw[h12,List.map_set]
    ·rw[List.getElem?_set] at e
     split at e
     ·first|cases e|(split at e <;> cases e)
      exact (b2'.add ((bS.mul b1').mono (n:=700011+700100*i) (by walk_at"o"))).mono (by walk_at"o")
     ·exact bz k x e
    ·rw[List.getElem?_set_ne (by walk_at"o")] at e
     exact bz2 k x (by walk_at"o") e
   ·obtain⟨o12,o13,zs,rfl,S10,h10,lzs,bz,bz2⟩:=(hPw _ _ _).mp pw
    simp only[yr]
    walk_at"vc"
    refine⟨⟨_,.of (aF h10)⟩,fun d12 H12 hd12 S12 h12=>?_⟩
    refine bY (its:=zs.map V.int) (fun j vs H'=>ay (vw K H10) (vw K H')/\vs=((zs.take j).map fun y=>y.fdiv Tt).map V.int) (fun j vs H' _ _ z=>aU (z.1 _ _ h10)) h12 ⟨S12,rfl⟩ (fun j y vs H' hj hy h' z=>?_) (fun vs H13 h13 z=>?_)
    ·obtain⟨z1,rfl⟩:=z
     rw[List.length_map] at hj
     rw[List.getElem?_map,List.getElem?_eq_getElem hj] at hy
     cases hy
     walk_at"vc"
     refine⟨T0,.mk h' ?_ fun H14 B14 h14=>⟨fun x o e=>B14 _ _ (aj e hd12) (z1 _ _ e),?_⟩⟩
     ·rw[List.length_map,List.length_map,List.length_take]
      have:1000<=sizeLine:=by decide
      walk_at"o"
     ·rw[List.take_add_one,List.getElem?_eq_getElem hj,List.map_append,List.map_append]
      rfl
    ·obtain⟨S13',rfl⟩:=z
     rw[List.length_map,List.take_length] at h13
     have S713:=S10.trans S13'
     have S613:=S7.trans S713
     refine (hPv _ _ _).mpr ⟨la,d12,ra,ws,zs.map fun y=>y.fdiv Tt,G,R,_,_,_,_,_,_,_,rfl,S6.trans S613,S613 _ _ hla,h13,(S6.trans S613) _ _ t3,rq',R0,by rw[List.length_map];walk_at"o",by rw[List.length_map];walk_at"o",fun z=>?_,fun x hx=>(bw x hx).mono (by walk_at"o"),fun x hx=>?_,elast⟩
     ·have:=congrArg List.length z
      rw[List.length_map,lzs] at this
      simp at this
      walk_at"o"
     ·obtain⟨y,hy,rfl⟩:=List.mem_map.mp hx
      obtain⟨k,hk⟩:=List.getElem?_of_mem hy
      exact ((bz k y hk).fdv Tt).mono (by walk_at"o")
  ·obtain⟨fo,la,ls,us,ws,F,G,o7,o8,o9,o10,o11,o12,o13,rfl,S6,hfo,hla,hls,rq,G0,lw,luw,w0,bu,bw,elast⟩:=(hPv _ _ _).mp pv
   rw[rr.1,List.drop_length] at rq elast
   rw[rr.1] at bw
   have r5:rows.length<=5:=by walk_at"o"
   obtain⟨x,ex,x0⟩:=rsq.one (f:=cf gs) (g:=cf fs) (c:=1 / (D4:Rat)) (d:=1 / (D:Rat)) ns0 (by walk_at"o") (by walk_at"o") (fun k=>by show _=_*((nz ms k:Int):Rat);rw[cB];grind) (fun k=>by show _=_*((nz ns k:Int):Rat);rw[cA];grind) ns'
   have eG:G=[x]:=by rw[<- ex,<- elast];rfl
   subst eG
   have bx:Bt 17840 x:=by
    rcases xx ns rows with z|⟨row,kx,z⟩
    ·rw[ex] at z
     exact (cl1.2 x (by rw[<- z];simp)).mono (by decide)
    ·rw[ex] at z
     exact (rb row kx).2.1 x (by rw[<- z];simp)
   have S56:=S25.trans S6
   walk_at"vc"
   refine⟨⟨_,.of (aF hla)⟩,fun d7 H7 hd7 S7 h7=>?_⟩
   refine bY (its:=ws.map V.int) (fun j vs H'=>ay (vw K H6) (vw K H')/\vs=((ws.take j).map fun y=>y*D).map V.int) (fun j vs H' _ _ z=>aU (z.1 _ _ hla)) h7 ⟨S7,rfl⟩ (fun j y vs H' hj hy h' z=>?_) (fun vs H8 h8 z=>?_)
   ·obtain⟨z1,rfl⟩:=z
    rw[List.length_map] at hj
    rw[List.getElem?_map,List.getElem?_eq_getElem hj] at hy
    cases hy
    walk_at"vc"
    refine⟨bO (bw _ (List.getElem_mem hj)) cl1.1 (by walk_at"o"),.mk h' ?_ fun H14 B14 h14=>⟨fun x o e=>B14 _ _ (aj e hd7) (z1 _ _ e),?_⟩⟩
    ·rw[List.length_map,List.length_map,List.length_take]
     have:1000<=sizeLine:=by decide
     walk_at"o"
    ·rw[List.take_add_one,List.getElem?_eq_getElem hj,List.map_append,List.map_append]
     rfl
   ·obtain⟨S8,rfl⟩:=z
    rw[List.length_map,List.take_length] at h8
    refine⟨_,S8 _ _ hls,_,rfl,?_⟩
    simp only[cz]
    refine⟨d7,ws.map fun y=>y*D,x,rfl,h8,by rw[List.length_map];walk_at"o",x0,bx.mono (by walk_at"o"),fun c9 H9 rs S9 l9 n9 p9 c9' e9 q9=>h c9 H9 rs (S13.trans (S56.trans (S8.trans S9))) l9 p9 (by rw[List.length_map] at e9;walk_at"o") fun q hq=>?_⟩
    obtain⟨n,hn',rfl⟩:=q9 q hq
    obtain⟨y,hy,rfl⟩:=List.mem_map.mp hn'
    exact oB x0 (((bw y hy).mul cl1.1).mono (by walk_at"o")) (bx.mono (by walk_at"o"))
theorem uH{qs:List (Int × Int)}{ns:List Int}{D:Int}(p:aL qs)(q0:qs ≠ [])(ln:ns.length=qs.length)(hD:0<D)(c:∀ k,((nz ns k:Int):Rat)=cf qs k*(D:Rat)):nz ns (ns.length - 1) ≠ 0:=fun z=>by
 have e:=c (ns.length - 1)
 have p:=jz p q0
 have cD:(D:Rat) ≠ 0:=ar (by walk_at"o")
 rw[z,ln,show ((0:Int):Rat)=0 from rfl] at e
 grind
def eO(K:W.Frag):Sp:=fun vs H Q _=>∃ (a b c:Addr)(fs gs os:List (Int × Int)),vs=[.ref a,.ref b,.ref c]/\aM (vw K H) a fs/\aM (vw K H) b gs/\aM (vw K H) c os/\fs.length<=6/\gs.length<=8/\os ≠ []/\os.length<=7/\aL os/\Pb 1110 (cf os)/\(∀ q ∈ fs,Fq q/\Bq 5000 q)/\(∀ q ∈ gs,Fq q/\Bq 3900000 q) /\
 ∀ d H' (rs:List (Int × Int)),ay (vw K H) (vw K H')->aM (vw K H') d rs->vw K H d=none->aL rs->rs.length<os.length->Q (.ref d) H'
theorem mN(F:eM K "product_rest" "product_rest" cP f fd) (T:fL K mg)(C_cleared:aS P w K mg base "cleared" ["f"] 2 (aP K)) (C_wholes_multiplied:aS P w K mg base "wholes_multiplied" ["one", "other"] 1 (aT K)) (C_wholes_parted:aS P w K mg base "wholes_parted" ["one", "other"] 2 (cy K)) (C_divided:aS P w K mg base "divided" ["wholes", "bottom"] 3 (cz K)):bK P w K mg base eI 4 f fd ["f", "g", "other"] (eO K):=by
 have scN:=iM.nd
 refine F.okQ iM (fun vs H Q E h=>?_) (fun cdv A outer s H vs Q E hr h=>?_)
 ·obtain⟨_,_,_,_,_,_,rfl,_⟩:=h
  rfl
 ·obtain⟨a,b,c,fs,gs,os,rfl,ha,hb,hc,lf,lg',o0,lo',po,bo,hf,hg,h⟩:=h
  refine⟨_,(ae (cM (ai C_cleared (hr.mono (by walk_at"a2")) rfl (aa (qv 0) ac)) (aX (n:=2) rfl (am (ak (i:=3) scN rfl (by walk_at"a1")) (am (ak (i:=4) scN rfl (by walk_at"a1")) aY))))
   (ae (cM (ai C_cleared (hr.mono (by walk_at"a2")) rfl (aa (qv 1) ac)) (aX (n:=2) rfl (am (ak (i:=5) scN rfl (by walk_at"a1")) (am (ak (i:=6) scN rfl (by walk_at"a1")) aY))))
   (ae (cM (cR mZ (ai C_wholes_parted (hr.mono (by walk_at"a2")) rfl (aa (ai C_wholes_multiplied (hr.mono (by walk_at"a2")) rfl (aa (qv 3) (aa (qv 5) ac))) (aa (aA b9 (ai C_cleared (hr.mono (by walk_at"a2")) rfl (aa (qv 2) ac)) af (fun _ _=>rfl)) ac))) (dU af) dZ) (aX (n:=2) rfl (am (ak (i:=7) scN rfl (by walk_at"a1")) (am (ak (i:=8) scN rfl (by walk_at"a1")) aY))))
   (ah (ap (ai C_divided (hr.mono (by walk_at"a2")) rfl (aa (qv 7) (aa (ao aH (ao aH (qv 4) (qv 6)) (qv 8)) ac)))))))),?_⟩
  walk_at"m"
  skip
  refine aR.gen fun N1 hN1=>?_
  walk_at"vc"
  simp only[aP]
  refine⟨a,fs,5000,rfl,ha,by walk_at"o",by decide,hf,fun p1 b1 H1 D1 ms S1 h1 hb1 nb1 hD1 bD1 lm hm _=>⟨_,rfl,_,h1,rfl,_,_,rfl,_,_,rfl,rfl,hN1 _ _ ?_⟩⟩
  refine aR.gen fun N2 hN2=>?_
  walk_at"vc"
  simp only[aP]
  refine⟨b,gs,3900000,rfl,hb.same S1,by walk_at"o",by decide,hg,fun p2 b2 H2 D2 ns S2 h2 hb2 nb2 hD2 bD2 ln hn _=>⟨_,rfl,_,h2,rfl,_,_,rfl,_,_,rfl,rfl,hN2 _ _ ?_⟩⟩
  have S02:=S1.trans S2
  have bm:∀ x ∈ ms,Bt 40000 x:=fun x hx=>by
   obtain⟨i,hi⟩:=List.mem_iff_getElem?.mp hx
   have hil:=(List.getElem?_eq_some_iff.mp hi).1
   exact (hm i x _ hi (List.getElem?_eq_getElem (show i<fs.length by walk_at"o"))).2.mono (by walk_at"o")
  have bn:∀ x ∈ ns,Bt 35200000 x:=fun x hx=>by
   obtain⟨i,hi⟩:=List.mem_iff_getElem?.mp hx
   have hil:=(List.getElem?_eq_some_iff.mp hi).1
   exact (hn i x _ hi (List.getElem?_eq_getElem (show i<gs.length by walk_at"o"))).2.mono (by walk_at"o")
  refine aR.gen fun N3 hN3=>?_
  walk_at"vc"
  simp only[aT]
  refine⟨b1,b2,ms,ns,40000,35200000,rfl,S2 _ _ hb1,hb2,by walk_at"o",by walk_at"o",by decide,by decide,bm,bn,fun c3 H3 L S3 h3 n3 lL eL zL=>?_⟩
  simp only[aP]
  have S03:=S02.trans S3
  refine⟨c,os,1110,rfl,hc.same S03,by walk_at"o",by decide,fun q hq=>⟨po.1 q hq,bo.bq po.1 q hq⟩,fun p4 b4 H4 D4 us S4 h4 hb4 nb4 hD4 bD4 lu hu hmm=>?_⟩
  have cl4:=gJ bo po.1 hD4 hmm lu fun i n q e1 e2=>(hu i n q e1 e2).1
  refine⟨p4,rfl,_,h4,_,dJ,?_⟩
  simp only[cy]
  have l0:=List.length_pos_iff.mpr o0
  have nU:=uH po o0 lu hD4 (fI lu fun i n q e1 e2=>(hu i n q e1 e2).1)
  obtain⟨ys,hys⟩ : ∃ ys,ys=lz L (pz (nz ms) (nz ns) ms.length):=⟨_,rfl⟩
  rw[<- hys] at h3
  have lys:ys.length=L:=by rw[hys,aW]
  have bys:∀ x ∈ ys,Bt 35240100 x:=fun x hx=>by
   obtain⟨k,hk⟩:=List.getElem?_of_mem hx
   have bz:=va (i8 bm) (i8 bn) ms.length k
   have ey:nz ys k=pz (nz ms) (nz ns) ms.length k:=by rw[hys,uW (by rw[<- lys];exact (List.getElem?_eq_some_iff.mp hk).1)]
   rw[<- ey,cp hk] at bz
   exact bz.mono (by walk_at"o")
  refine⟨c3,b4,ys,us,35240100,1110,rfl,S4 _ _ h3,hb4,by walk_at"o",nU,by walk_at"o",by walk_at"o",by decide,by decide,bys,cl4.2,fun p5 qa ra S qs rs H5 S5 h5 hqa hra nra lq lr hSe bS bq br lrz ev=>?_⟩
  simp only[sN]
  have e5:gu [V.ref qa,V.ref ra,V.int S] (some 1) none=[V.ref ra,V.int S]:=rfl
  refine⟨p5,rfl,_,h5,(fun z=>absurd z.1 (show ¬ HT.sIx 3 0 (some 1)=0 by decide)),fun p6 H6 hp6 S6 h6=>?_⟩
  rw[e5] at h6
  refine⟨p6,rfl,_,h6,rfl,_,_,rfl,_,_,rfl,rfl,hN3 _ _ ?_⟩
  have S0:S ≠ 0:=by
   obtain⟨e,_,z⟩:=hSe
   rw[z]
   exact Int.pow_ne_zero nU
  have S05:=S03.trans (S4.trans S5)
  have bDD:=bD1.mul bD2
  walk_at"vc"
  simp only[cz]
  have S06:=S05.trans S6
  have nz':D1*D2*S ≠ 0:=Int.mul_ne_zero (Int.mul_ne_zero (by walk_at"o") (by walk_at"o")) S0
  exact⟨bO bD1 bD2 (by walk_at"o"),bO bDD bS (by walk_at"o"),ra,rs,_,rfl,S6 _ _ hra,by walk_at"o",nz',(bDD.mul bS).mono (by walk_at"o"),fun c7 H7 ts S7 l7 n7 p7 _ e7 _=>h c7 H7 ts (S06.trans S7) l7 (S06.none n7) p7 (by walk_at"o")⟩
def fV(K:W.Frag):Sp:=fun vs H Q _=>∃ (a b:Addr)(us rs:List (Int × Int)),vs=[.ref a,.ref b]/\aM (vw K H) a us/\aM (vw K H) b rs/\us.length<=6/\rs ≠ []/\rs.length<=7/\aL rs/\Pb 1100 (cf rs)/\(∀ q ∈ us,Fq q/\Bq 5000 q)/\(2<=rs.length->re (cf rs) (DF (cf rs))) /\
 ∀ d H' (ws:List (Int × Int)),ay (vw K H) (vw K H')->aM (vw K H') d ws->aL ws->Q (.ref d) H'
theorem pq(F:eM K "weights_by" "weights_by" eA f fd) (T:fL K mg)(C_product_rest:aS P w K mg base "product_rest" ["f", "g", "other"] 4 (eO K)) (C_inverse:aS P w K mg base "inverse" ["f", "g"] 4 (ix K)) (C_slope:aS P w K mg base "slope" ["f"] 4 (kN K)):bK P w K mg base eI 5 f fd ["above", "roots"] (fV K):=by
 have scN:=jX.nd
 refine F.okQ jX (fun vs H Q E h=>?_) (fun cdv A outer s H vs Q E hr h=>?_)
 ·obtain⟨_,_,_,_,rfl,_⟩:=h
  rfl
 ·obtain⟨a,b,us,rs,rfl,ha,hb,lu,r0,lr,pr',br,hu,ns,h⟩:=h
  refine⟨_,(ae (cc (aQ gX (au aB (by rfl) T.b_len aV (aa (qv 1) ac)) af (aI _)) (ah (ap (bC ac))) aN)
   (ah (ap (ai C_product_rest (hr.mono (by walk_at"a2")) rfl (aa (qv 0) (aa (ai C_inverse (hr.mono (by walk_at"a2")) rfl (aa (ai C_slope (hr.mono (by walk_at"a2")) rfl (aa (qv 1) ac)) (aa (qv 1) ac))) (aa (qv 1) ac))))))),?_⟩
  walk_at"m"
  skip
  have l0:=List.length_pos_iff.mpr r0
  refine aR.gen fun N1 hN1=>?_
  walk_at"vc"
  refine⟨_,hb.len,?_⟩
  refine ce (fun e=>⟨by decide,fun d H1 hd S1 h1=>h d H1 [] S1 ⟨[],h1,.mk_nil⟩ ⟨by simp,by simp⟩⟩) (fun e=>hN1 _ _ ?_)
  have l2:2<=rs.length:=by walk_at"o"
  walk_at"vc"
  simp only[kN]
  refine⟨b,rs,rfl,hb,by walk_at"o",fun q hq=>⟨pr'.1 q hq,(br.bq pr'.1 q hq).mono (by decide)⟩,pr',fun d1 H1 ss S1 l1 n1 p1 c1 ls=>?_⟩
  simp only[ix]
  have bs:Pb 1110 (cf ss):=(Pb.slope br (by walk_at"o") c1).mono (by decide)
  refine⟨d1,b,ss,rs,rfl,l1,hb.same S1,fun z=>by rw[z] at ls;simp at ls;walk_at"o",by walk_at"o",by walk_at"o",p1,pr',bs,br.mono (by decide),?_,fun d2 H2 is S2 l2' p2 li bi=>?_⟩
  ·have e:cf ss=DF (cf rs):=funext c1
   rw[e]
   exact ns l2
  simp only[eO]
  have S12:=S1.trans S2
  exact⟨a,d2,b,us,is,rs,rfl,ha.same S12,l2',hb.same S12,lu,li,r0,lr,pr',br.mono (by decide),hu,fun q hq=>⟨p2.1 q hq,bi q hq⟩,fun d3 H3 ws S3 l3 _ p3 _=>h d3 H3 ws (S12.trans S3) l3 p3⟩
def jL(K:W.Frag):Sp:=fun vs H Q _=>∃ a b:Int,vs=[.int a,.int b]/\Q (.int (Int.gcd a b)) H
theorem xY(F:eM K "_law_divisor" "_law_divisor" gC f fd) (T:fL K mg):bK P w K mg base eI 1 f fd ["_law_one", "_law_other"] (jL K):=by
 have scN:=pZ.nd
 refine F.okQ pZ (fun vs H Q E h=>?_) (fun cdv A outer s H vs Q E hr h=>?_)
 ·obtain⟨a,b,rfl,_⟩:=h
  rfl
 ·obtain⟨a,b,rfl,h⟩:=h
  refine⟨_,(ae (gG PassesOwn.never (aQ vC (qv 1) af (aI _)) (ah (qT (i:=0) (j:=1) rfl scN rfl rfl (by decide) rfl rfl (aa (qv 1) (aa (ao gr (qv 0) (qv 1)) ac)) rfl)))
   (ah (ap (au nv (by rfl) T.b_abs tN (aa (qv 0) ac))))),?_⟩
  walk_at"m"
  walk_at"vc"
  refine⟨fun m σ H'=>H'=H /\ ∃ x y:Int,σ=[some (.int x),some (.int y)]/\Int.gcd x y=Int.gcd a b/\m=y.natAbs,⟨_,rfl,_,_,rfl,rfl,rfl⟩,?_⟩
  rintro m σ H' ⟨rfl,x,y,rfl,hg,rfl⟩
  walk_at"vc"
  refine ce (fun hy0=>?_) (fun hy0=>?_)
  ·refine⟨_,fun σ' H' h=>h,?_⟩
   walk_at"vc"
   exact⟨hy0,_,vB x hy0,by rw[sr,hg],rfl⟩
  ·walk_at"vc"
   have e:((Int.gcd a b:Nat):Int)=if x<0 then -x else x:=by
    rw[<- hg,show y=0 by walk_at"o"]
    simp
    split <;> walk_at"o"
   rw[<- e]
   exact h
def iN(K:W.Frag):Sp:=fun vs H Q _=>∃ a b:Int,vs=[.int a,.int b]/\b ≠ 0/\b.natAbs<2 ^ 4000000 /\ ∀ v H',ay (vw K H) (vw K H')->aJ (vw K H') (fr (lo a b)) v->Q v H'
theorem Ge(F:eM K "_law_low" "_law_low" pY f fd) (T:fL K mg)(N_:oX P base)(zCdivisor:aS P w K mg base "_law_divisor" ["_law_one", "_law_other"] 1 (jL K)):bK P w K mg base eI 2 f fd ["_law_top", "_law_bottom"] (iN K):=by
 have scN:=Dg.nd
 refine F.okQ Dg (fun vs H Q E h=>?_) (fun cdv A outer s H vs Q E hr h=>?_)
 ·obtain⟨a,b,rfl,_⟩:=h
  rfl
 ·obtain⟨a,b,rfl,hb,hbb,h⟩:=h
  refine⟨_,(ae (aC (i:=2) scN rfl (by walk_at"a1") (ai zCdivisor (hr.mono (by walk_at"a2")) rfl (aa (qv 0) (aa (qv 1) ac))))
   (ae (cc (aQ mv (qv 1) af (aI _)) (ah (aC (i:=2) scN rfl (by walk_at"a1") (ao dE af (qv 2)))) aN)
   (ah (ap (bQ (aa (ao (gD N_ hr rfl rfl rfl) (qv 0) (qv 2)) (aa (ao (gD N_ hr rfl rfl rfl) (qv 1) (qv 2)) ac))))))),?_⟩
  walk_at"m"
  walk_at"vc"
  simp only[jL]
  walk_at"vc"
  have hgn:Int.gcd a b ≠ 0:=fun e=>hb (Int.gcd_eq_zero_iff.mp e).2
  have e1:lg a b=if b<0 then 0 - (Int.gcd a b:Int) else (Int.gcd a b:Int):=by
   unfold lg
   split <;> walk_at"o"
  have d1:xy a (0 - (Int.gcd a b:Int)):=by unfold xy;walk_at"o"
  have d2:xy a (Int.gcd a b:Int):=by unfold xy;walk_at"o"
  refine ce (fun hn=>?_) (fun hn=>?_)
  ·rw[if_pos hn] at e1
   refine⟨d1,d1,by decide,fun p H2 hp S hp2=>?_⟩
   refine h _ H2 S ?_
   rw[<- e1] at hp2
   simp only[fr,lo,aJ,aE]
   exact⟨p,_,rfl,hp2,_,_,rfl,rfl,_,_,rfl,rfl,rfl⟩
  ·rw[if_neg hn] at e1
   refine⟨d2,d2,by decide,fun p H2 hp S hp2=>?_⟩
   refine h _ H2 S ?_
   rw[<- e1] at hp2
   simp only[fr,lo,aJ,aE]
   exact⟨p,_,rfl,hp2,_,_,rfl,rfl,_,_,rfl,rfl,rfl⟩
def jH(K:W.Frag):Sp:=fun vs H Q _=>∃ (a:Addr)(ns:List Int)(k:Nat),vs=[.ref a,.int k]/\jV K H a (ns.map V.int) /\ ∀ x:Int,Q (.int x) H
theorem xN(F:eM K "_law_cell_at" "_law_cell_at" gA f fd) (T:fL K mg):bK P w K mg base eI 1 f fd ["_law_script", "_law_k"] (jH K):=by
 have scN:=pX.nd
 refine F.okQ pX (fun vs H Q E h=>?_) (fun cdv A outer s H vs Q E hr h=>?_)
 ·obtain⟨a,ns,k,rfl,_⟩:=h
  rfl
 ·obtain⟨a,ns,k,rfl,hS,h⟩:=h
  refine⟨_,(ae (cc (aQ mv (qv 1) (au iA (by rfl) T.b_len aV (aa (qv 0) ac)) (aI _)) (ah (ap (aA wK (qv 0) (qv 1) (fun _ _=>rfl)))) aN)
   (ah (ap af))),?_⟩
  walk_at"m"
  walk_at"vc"
  refine⟨_,.inl hS.sq,ce (fun hk=>?_) (fun hk=>h 0)⟩
  simp only[List.length_map] at hk
  have hk':k<ns.length:=by walk_at"o"
  exact⟨_,hS.sq,_,dj (by rw[List.getElem?_map,List.getElem?_eq_getElem hk'];rfl),h _⟩
def mR(K:W.Frag):Sp:=fun vs H Q _=>∃ (a:Addr)(ns:List Int)(k:Nat),vs=[.ref a,.int k]/\jV K H a (ns.map V.int) /\ ∀ st H',vw K H st=none->ay (vw K H) (vw K H')->gj (vw K H') st->Q (.ref st) H'
theorem Bo(F:eM K "_law_state" "_law_state" jt f fd) (T:fL K mg)(zCcell_at:aS P w K mg base "_law_cell_at" ["_law_script", "_law_k"] 1 (jH K)):bK P w K mg base eI 2 f fd ["_law_script", "_law_k"] (mR K):=by
 have scN:=wQ.nd
 refine F.okQ wQ (fun vs H Q E h=>?_) (fun cdv A outer s H vs Q E hr h=>?_)
 ·obtain⟨a,ns,k,rfl,_⟩:=h
  rfl
 ·obtain⟨a,ns,k,rfl,hS,h⟩:=h
  refine⟨_,(ae (aC (i:=2) scN rfl (by walk_at"a1") (ai zCcell_at (hr.mono (by walk_at"a2")) rfl (aa (qv 0) (aa (qv 1) ac))))
   (ae (cc (aQ Gr (qv 2) (ao zB af af) (aI _)) (ah (ap (bC (aa (ao dE (qv 2) (ao zB af af)) (aa fZ ac))))) aN)
   (ah (ap (bC (aa (ao gr (qv 2) af) (aa fZ ac))))))),?_⟩
  walk_at"m"
  walk_at"vc"
  simp only[jH]
  walk_at"vc"
  refine⟨⟨k,rfl⟩,⟨ns,hS⟩,fun x=>⟨vt (by decide),ce (fun hx=>⟨vt (by decide),by decide,fun p H2 hp S hp2=>h p H2 hp S ⟨_,_,hp2,fun z=>by cases z⟩⟩) (fun hx=>⟨by decide,by decide,fun p H2 hp S hp2=>h p H2 hp S ⟨_,_,hp2,fun _=>?_⟩⟩)⟩⟩
  exact⟨Int.fmod_nonneg_of_pos x (by decide),Int.fmod_lt_of_pos x (by decide)⟩
def g6(K:W.Frag):Sp:=fun vs H Q _=>∃ (st:Addr)(m:Int),vs=[.ref st,.int m]/\gj (vw K H) st/\0<m/\m<=2147483587 /\ ∀ r H',0<=r->r<m->iT st (vw K H) (vw K H')->gj (vw K H') st->Q (.int r) H'
theorem E8(F:eM K "_law_take" "_law_take" lQ f fd) (T:fL K mg):bK P w K mg base eI 1 f fd ["_law_state_here", "_law_many"] (g6 K):=by
 have scN:=zc.nd
 refine F.okQ zc (fun vs H Q E h=>?_) (fun cdv A outer s H vs Q E hr h=>?_)
 ·obtain⟨a,ns,rfl,_⟩:=h
  rfl
 ·obtain⟨st,m,rfl,⟨x,b,hst,hx⟩,hm,hm2,h⟩:=h
  refine⟨_,(ae (cc (cX (aA dL (qv 0) af (fun _ _=>rfl)) (fun _=>rfl)) (ae (aC (i:=2) scN rfl (by walk_at"a1") (ao gr (aA dL (qv 0) af (fun _ _=>rfl)) (qv 1)))
   (ae (cM (ao nu (aA dL (qv 0) af (fun _ _=>rfl)) (qv 1)) (tX (qv 0) af fb))
   (ah (ap (qv 2))))) aN)
   (ae (cM (ao gr (ao cb (ao aH (aA dL (qv 0) af (fun _ _=>rfl)) af) af) af) (tX (qv 0) af fb))
   (ae (aC (i:=3) scN rfl (by walk_at"a1") (ao gr (ao cb (ao cb (ao aH (aA dL (qv 0) af (fun _ _=>rfl)) (aA dL (qv 0) af (fun _ _=>rfl))) (ao aH af (aA dL (qv 0) af (fun _ _=>rfl)))) af) af))
   (ae (aC (i:=3) scN rfl (by walk_at"a1") (ao gr (ao cb (ao aH (qv 3) (qv 3)) (ao aH af (qv 3))) af))
   (ah (ap (ao gr (ao nu (qv 3) af) (qv 1)))))))),?_⟩
  walk_at"m"
  have hm0:m ≠ 0:=by walk_at"o"
  cases b with
  | true =>
   walk_at"vc*"
   refine⟨Fh hm0 (by unfold Bt;walk_at"o"),fun H2 B h2=>h _ _ (Int.fmod_nonneg_of_pos x hm) (Int.fmod_lt_of_pos x hm) B ⟨_,_,h2,fun z=>by cases z⟩⟩
  | false =>
   walk_at"vc*"
   refine⟨A5 (by decide),by decide,fun H2 B h2=>?_⟩
   have b1:Bt 31 ((x*48271+29).fmod 2147483647):=vU (by decide) (by decide)
   have b3:0<=(x*48271+29).fmod 2147483647/\(x*48271+29).fmod 2147483647<2147483647:=⟨Int.fmod_nonneg_of_pos _ (by decide),Int.fmod_lt_of_pos _ (by decide)⟩
   generalize (x*48271+29).fmod 2147483647=y at *
   walk_at"vc*"
   have b2:Bt 31 ((y*y+39373*y+7).fmod 2147483629):=vU (by decide) (by decide)
   generalize e2:(y*y+39373*y+7).fmod 2147483629=z at *
   refine⟨jv (b1.mono (by decide)),jv (by decide),by decide,jv (b2.mono (by decide)),jv (by decide),by decide,Fh (by decide) (by decide),?_⟩
   exact h _ _ (Int.fmod_nonneg_of_pos _ hm) (Int.fmod_lt_of_pos _ hm) B ⟨_,_,h2,fun _=>b3⟩
def jA(K:W.Frag):Sp:=fun vs H Q _=>∃ st:Addr,vs=[.ref st]/\gj (vw K H) st /\ ∀ v H' q,iT st (vw K H) (vw K H')->gj (vw K H') st->aJ (vw K H') (fr q) v->Fq q->Bt 10 q.1->Bt 10 q.2->Sx 36 q->Q v H'
theorem CJ(F:eM K "_law_small" "_law_small" jM f fd) (T:fL K mg)(zClow:aS P w K mg base "_law_low" ["_law_top", "_law_bottom"] 2 (iN K))
  (zCtake:aS P w K mg base "_law_take" ["_law_state_here", "_law_many"] 1 (g6 K)):bK P w K mg base eI 3 f fd ["_law_state_here"] (jA K):=by
 have scN:=vM.nd
 refine F.okQ vM (fun vs H Q E h=>?_) (fun cdv A outer s H vs Q E hr h=>?_)
 ·obtain⟨a,rfl,_⟩:=h
  rfl
 ·obtain⟨st,rfl,hst,h⟩:=h
  refine⟨_,(ah (ap (ai zClow (hr.mono (by walk_at"a2")) rfl (aa (ao dE (ai zCtake (hr.mono (by walk_at"a2")) rfl (aa (qv 0) (aa af ac))) af) (aa (ao cb af (aA dL (bC (aa af (aa af (aa (ai zCtake (hr.mono (by walk_at"a2")) rfl (aa (qv 0) (aa af ac))) ac)))) (ai zCtake (hr.mono (by walk_at"a2")) rfl (aa (qv 0) (aa af ac))) (fun _ _=>rfl))) ac))))),?_⟩
  walk_at"m"
  walk_at"vc"
  simp only[g6,iN]
  walk_at"vc"
  refine⟨hst,by decide,by decide,fun r1 H1 r10 r11 B1 S1=>⟨S1,by decide,by decide,fun r2 H2 r20 r21 B2 S2=>⟨by decide,?_⟩⟩⟩
  intro p H3 hp S3 h3
  refine⟨S2.same S3,by decide,by decide,fun r4 H4 r40 r41 B4 S4=>?_⟩
  have h4:=B4 _ _ (S2.ne hp) h3
  obtain⟨v,hv,hm⟩:=u8 (xs:=[V.int 0,V.int 0,V.int r2]) r40 (by simpa using r41)
  obtain⟨z,rfl,hz0,hz1⟩ : ∃ z,v = .int z/\0<=z/\z<3:=by
   simp only[List.mem_cons,List.not_mem_nil,or_false] at hm
   rcases hm with rfl|rfl|rfl
   ·exact⟨0,rfl,by decide,by decide⟩
   ·exact⟨0,rfl,by decide,by decide⟩
   ·exact⟨r2,rfl,r20,r21⟩
  walk_at"vc"
  refine⟨_,h4,_,hv,?_⟩
  walk_at"vc"
  have hz:1+z ≠ 0:=by walk_at"o"
  have hb:(1+z).natAbs<2 ^ 10:=by walk_at"o"
  refine⟨hz,Nat.lt_of_lt_of_le hb (Nat.pow_le_pow_right (by decide) (by decide)),fun v H5 S5 r5=>?_⟩
  have q2:=fH (a:=r1 - 6) hz
  have q1:=eX (a:=r1 - 6) hz
  have hl:lg (r1 - 6) (1+z) ≠ 0:=zF hz
  refine h v H5 _ (((B1.trans B2).same_trans S3).trans (B4.same_trans S5)) (S4.same S5) r5 (ir hz) ?_ ?_ (Sx.lo hz0 hz1 (by walk_at"o"))
  ·unfold Bt
   have:=Int.natAbs_mul (lo (r1 - 6) (1+z)).1 (lg (r1 - 6) (1+z))
   rw[q1] at this
   have:=Nat.le_mul_of_pos_right (lo (r1 - 6) (1+z)).1.natAbs (show 0<(lg (r1 - 6) (1+z)).natAbs by walk_at"o")
   walk_at"o"
  ·unfold Bt
   have:=Int.natAbs_mul (lo (r1 - 6) (1+z)).2 (lg (r1 - 6) (1+z))
   rw[q2] at this
   have:=Nat.le_mul_of_pos_right (lo (r1 - 6) (1+z)).2.natAbs (show 0<(lg (r1 - 6) (1+z)).natAbs by walk_at"o")
   walk_at"o"
def gN(K:W.Frag):Sp:=fun vs H Q _=>∃ st:Addr,vs=[.ref st]/\gj (vw K H) st /\ ∀ v H' q,iT st (vw K H) (vw K H')->gj (vw K H') st->aJ (vw K H') (fr q) v->Fq q->0<q.1->Bq 10 q->Sx 36 q->Q v H'
theorem AS(F:eM K "_law_above" "_law_above" jJ f fd) (T:fL K mg)(zClow:aS P w K mg base "_law_low" ["_law_top", "_law_bottom"] 2 (iN K))
  (zCtake:aS P w K mg base "_law_take" ["_law_state_here", "_law_many"] 1 (g6 K)):bK P w K mg base eI 3 f fd ["_law_state_here"] (gN K):=by
 have scN:=vX.nd
 refine F.okQ vX (fun vs H Q E h=>?_) (fun cdv A outer s H vs Q E hr h=>?_)
 ·obtain⟨a,rfl,_⟩:=h
  rfl
 ·obtain⟨st,rfl,hst,h⟩:=h
  refine⟨_,(ah (ap (ai zClow (hr.mono (by walk_at"a2")) rfl (aa (ao cb af (ai zCtake (hr.mono (by walk_at"a2")) rfl (aa (qv 0) (aa af ac)))) (aa (ao cb af (aA dL (bC (aa af (aa af (aa (ai zCtake (hr.mono (by walk_at"a2")) rfl (aa (qv 0) (aa af ac))) ac)))) (ai zCtake (hr.mono (by walk_at"a2")) rfl (aa (qv 0) (aa af ac))) (fun _ _=>rfl))) ac))))),?_⟩
  walk_at"m"
  walk_at"vc"
  simp only[g6,iN]
  walk_at"vc"
  refine⟨hst,by decide,by decide,fun r1 H1 r10 r11 B1 S1=>⟨S1,by decide,by decide,fun r2 H2 r20 r21 B2 S2=>⟨by decide,?_⟩⟩⟩
  intro p H3 hp S3 h3
  refine⟨S2.same S3,by decide,by decide,fun r4 H4 r40 r41 B4 S4=>?_⟩
  have h4:=B4 _ _ (S2.ne hp) h3
  obtain⟨v,hv,hm⟩:=u8 (xs:=[V.int 0,V.int 0,V.int r2]) r40 (by simpa using r41)
  obtain⟨z,rfl,hz0,hz1⟩ : ∃ z,v = .int z/\0<=z/\z<3:=by
   simp only[List.mem_cons,List.not_mem_nil,or_false] at hm
   rcases hm with rfl|rfl|rfl
   ·exact⟨0,rfl,by decide,by decide⟩
   ·exact⟨0,rfl,by decide,by decide⟩
   ·exact⟨r2,rfl,r20,r21⟩
  walk_at"vc"
  refine⟨_,h4,_,hv,?_⟩
  walk_at"vc"
  have hz:1+z ≠ 0:=by walk_at"o"
  have hb:(1+z).natAbs<2 ^ 10:=by walk_at"o"
  refine⟨hz,Nat.lt_of_lt_of_le hb (Nat.pow_le_pow_right (by decide) (by decide)),fun v H5 S5 r5=>?_⟩
  have q1:=eX (a:=1+r1) hz
  have hl:0<lg (1+r1) (1+z):=yB (by walk_at"o")
  refine h v H5 _ (((B1.trans B2).same_trans S3).trans (B4.same_trans S5)) (S4.same S5) r5 (ir hz) ?_ (oB hz (by unfold Bt;walk_at"o") hb) (Sx.lo hz0 hz1 (by walk_at"o"))
  refine Int.pos_of_mul_pos_left ?_ hl
  rw[q1]
  walk_at"o"
def ji(K:W.Frag):Sp:=fun vs H Q _=>∃ x y p q,vs=[x,y]/\aJ (vw K H) (fr p) x/\aJ (vw K H) (fr q) y/\p.2 ≠ 0/\q.2 ≠ 0/\Bq 1000000 p/\Bq 1000000 q/\Bt 4000000 (p.2*q.2) /\ ∀ v H',ay (vw K H) (vw K H')->aJ (vw K H') (fr (rO p q)) v->Q v H'
theorem Du(F:eM K "_law_plus" "_law_plus" lV f fd) (T:fL K mg)(zClow:aS P w K mg base "_law_low" ["_law_top", "_law_bottom"] 2 (iN K)):bK P w K mg base eI 3 f fd ["_law_one", "_law_other"] (ji K):=by
 have scN:=yJ.nd
 refine F.okQ yJ (fun vs H Q E h=>?_) (fun cdv A outer s H vs Q E hr h=>?_)
 ·obtain⟨_,_,_,_,rfl,_⟩:=h
  rfl
 ·obtain⟨x,y,p,q,rfl,hx,hy,np,nq,bp,bq,bb,h⟩:=h
  refine⟨_,(ah (ap (ai zClow (hr.mono (by walk_at"a2")) rfl (aa (ao cb (ao aH (aA b9 (qv 0) af (fun _ _=>rfl)) (aA b9 (qv 1) af (fun _ _=>rfl))) (ao aH (aA b9 (qv 1) af (fun _ _=>rfl)) (aA b9 (qv 0) af (fun _ _=>rfl)))) (aa (ao aH (aA b9 (qv 0) af (fun _ _=>rfl)) (aA b9 (qv 1) af (fun _ _=>rfl))) ac))))),?_⟩
  walk_at"m"
  obtain⟨a,rfl,ha⟩:=hx.fr_at
  obtain⟨b,rfl,hb⟩:=hy.fr_at
  walk_at"vc*"
  simp only[iN]
  walk_at"vc*"
  exact⟨bO bp.1 bq.2 (by decide),bO bq.1 bp.2 (by decide),bO bp.2 bq.2 (by decide),Int.mul_ne_zero np nq,h⟩
def nn(K:W.Frag):Sp:=fun vs H Q _=>∃ x y p q,vs=[x,y]/\aJ (vw K H) (fr p) x/\aJ (vw K H) (fr q) y/\p.2 ≠ 0/\q.2 ≠ 0/\Bq 1000000 p/\Bq 1000000 q/\Bt 4000000 (p.2*q.2) /\ ∀ v H',ay (vw K H) (vw K H')->aJ (vw K H') (fr (sI p q)) v->Q v H'
theorem AX(F:eM K "_law_times" "_law_times" jy f fd) (T:fL K mg)(zClow:aS P w K mg base "_law_low" ["_law_top", "_law_bottom"] 2 (iN K)):bK P w K mg base eI 3 f fd ["_law_one", "_law_other"] (nn K):=by
 have scN:=vD.nd
 refine F.okQ vD (fun vs H Q E h=>?_) (fun cdv A outer s H vs Q E hr h=>?_)
 ·obtain⟨_,_,_,_,rfl,_⟩:=h
  rfl
 ·obtain⟨x,y,p,q,rfl,hx,hy,np,nq,bp,bq,bb,h⟩:=h
  refine⟨_,(ah (ap (ai zClow (hr.mono (by walk_at"a2")) rfl (aa (ao aH (aA b9 (qv 0) af (fun _ _=>rfl)) (aA b9 (qv 1) af (fun _ _=>rfl))) (aa (ao aH (aA b9 (qv 0) af (fun _ _=>rfl)) (aA b9 (qv 1) af (fun _ _=>rfl))) ac))))),?_⟩
  walk_at"m"
  obtain⟨a,rfl,ha⟩:=hx.fr_at
  obtain⟨b,rfl,hb⟩:=hy.fr_at
  walk_at"vc*"
  simp only[iN]
  walk_at"vc*"
  exact⟨bO bp.1 bq.1 (by decide),bO bp.2 bq.2 (by decide),Int.mul_ne_zero np nq,h⟩
def nj(K:W.Frag):Sp:=fun vs H Q _=>∃ (st:Addr)(m:Nat),vs=[.ref st,.int m]/\m<=6/\gj (vw K H) st /\ ∀ (a:Addr)(H':Hp)(cs:List dQ),iT st (vw K H) (vw K H')->gj (vw K H') st->ik (vw K H') a (cs.map sR)->(∀ c ∈ cs,Fq c.1/\Fq c.2/\0<c.2.1)->(∀ c ∈ cs,Bq 100 c.1/\Bq 10 c.2)->(∀ c ∈ cs,Sx 300 c.1/\Sx 36 c.2) ->
 (∀ i c d,cs[i]? = some c->cs[i+1]? = some d->sD c.1 d.1=true)->cs.length<=m->vw K H a=none->Q (.ref a) H'
theorem Bu(F:eM K "_law_crowd" "_law_crowd" jC f fd) (T:fL K mg)(zCsmall:aS P w K mg base "_law_small" ["_law_state_here"] 3 (jA K)) (zCabove:aS P w K mg base "_law_above" ["_law_state_here"] 3 (gN K))
  (zCtake:aS P w K mg base "_law_take" ["_law_state_here", "_law_many"] 1 (g6 K)) (zCplus:aS P w K mg base "_law_plus" ["_law_one", "_law_other"] 3 (ji K)):bK P w K mg base eI 4 f fd ["_law_state_here", "_law_most"] (nj K):=by
 have scN:=uU.nd
 refine F.okQ uU (fun vs H Q E h=>?_) (fun cdv A outer s H vs Q E hr h=>?_)
 ·obtain⟨a,_,rfl,_⟩:=h
  rfl
 ·obtain⟨st,m,rfl,hm,hst,h⟩:=h
  refine⟨_,(ae (aC (i:=2) scN rfl (by walk_at"a1") (bC ac))
   (ae (aC (i:=3) scN rfl (by walk_at"a1") (ai zCsmall (hr.mono (by walk_at"a2")) rfl (aa (qv 0) ac)))
   (ae (cT PassesOwn.never rfl (fg rfl T.b_range (aa (ai zCtake (hr.mono (by walk_at"a2")) rfl (aa (qv 0) (aa (ao cb (qv 1) af) ac))) ac)) (ak (i:=4) scN rfl (by walk_at"a1")) (ae (jD (pF PySem.F.plainAttrs_list PySem.F.slot_list_append PySem.F.type_list_append fR (qv 2) (aa (bQ (aa (qv 3) (aa (ai zCabove (hr.mono (by walk_at"a2")) rfl (aa (qv 0) ac)) ac))) ac)))
   (ah (aC (i:=3) scN rfl (by walk_at"a1") (ai zCplus (hr.mono (by walk_at"a2")) rfl (aa (qv 3) (aa (ai zCabove (hr.mono (by walk_at"a2")) rfl (aa (qv 0) ac)) ac)))))))
   (ah (ap (qv 2)))))),?_⟩
  walk_at"m"
  walk_at"vc"
  simp only[g6,jA]
  walk_at"vc"
  refine⟨by decide,fun a H1 ha S1 h1=>⟨hst.same S1,fun v H2 q B2 S2 r2 f2 c1 c2 c5=>⟨S2,by walk_at"o",by walk_at"o",fun n H3 n0 n1 B3 S3=>⟨by walk_at"o",by walk_at"o",?_⟩⟩⟩⟩
  have nst:st ≠ a:=((hst.ne ha)).symm
  have h3:=B3 _ _ nst.symm (B2 _ _ nst.symm h1)
  have hr2:aJ (vw K H3) (fr q) v:=by
   obtain⟨_,_,z,_⟩:=id S2
   exact aJ.flat_but z B3 _ _ (cr q) r2
  refine cg (its:=hJ 0 n.toNat) (fun i σ H'=>∃ v y q cs,σ=[some (.ref st),some (.int m),some (.ref a),some v,y]/\iT st (vw K H) (vw K H')/\gj (vw K H') st/\ik (vw K H') a (cs.map sR)/\cs.length=i/\aJ (vw K H') (fr q) v/\Fq q/\Bq (10+12*i) q/\Sx (36+36*i) q/\(∀ c ∈ cs,Sx 300 c.1/\Sx 36 c.2) /\
   (∀ c ∈ cs,Fq c.1/\Fq c.2/\0<c.2.1)/\(∀ c ∈ cs,Bq 100 c.1/\Bq 10 c.2)/\(∀ i c d,cs[i]? = some c->cs[i+1]? = some d->sD c.1 d.1=true) /\ ∀ c,cs.getLast? = some c->sD c.1 q=true) (fun _ _ _ _ _=>cK)
   ⟨v,_,q,[],rfl,((S1.but st).trans B2).trans B3,S3,⟨[],h3,.mk_nil⟩,rfl,hr2,f2,⟨c1,c2⟩,c5,by simp,by simp,by simp,by simp,by simp⟩ ?_ ?_
  ·rintro i x σ H4 hi hx ⟨v,y,q,cs,rfl,B4,S4,l4,hl,r4,f4,b4,x4,c6,c1,c2,c3,c4⟩
   rw[eJ] at hi
   walk_at"vc"
   simp only[gN,ji]
   walk_at"vc"
   refine⟨l4.ty,S4,fun w5 H5 q5 B5 S5 r5 f5 p5 b5 x5=>⟨by decide,fun p6 H6 hp6 S6 h6=>?_⟩⟩
   have l6:ik (vw K H6) a (cs.map sR):=(l4.stBut (fT cs) (nQ cs) S4 B5).same S6
   have r46:aJ (vw K H6) (fr q) v:=by
    obtain⟨_,_,z,_⟩:=id S4
    exact aJ.same S6 _ _ (aJ.flat_but z B5 _ _ (cr q) r4)
   have r56:=aJ.same S6 _ _ r5
   obtain⟨xs,hxs,rxs⟩:=id l6
   refine⟨xs,hxs,?_,fun H7 B7 h7=>?_⟩
   ·rw[rxs.length,List.length_map]
    exact Nat.lt_of_lt_of_le (show cs.length<7 by walk_at"o") (by decide)
   have S7:gj (vw K H7) st:=(S5.same S6).but hxs nst B7
   have r47:=aJ.flat_but hxs B7 _ _ (cr q) r46
   have r57:=aJ.flat_but hxs B7 _ _ (cr q5) r56
   have ne6:p6 ≠ a:=fun e=>by
    obtain⟨_,z,_⟩:=l4.stBut (fT cs) (nQ cs) S4 B5
    rw[<- e,hp6] at z
    cases z
   have h67:=B7 _ _ ne6 h6
   have l7:ik (vw K H7) a ((cs ++ [(q,q5)]).map sR):=by
    refine⟨_,h7,?_⟩
    rw[List.map_append]
    exact (aE.flat_but hxs B7 _ _ (fT cs) rxs).snoc (.mk_spt h67 r47 r57)
   have B07:iT st (vw K H) (vw K H7):=fun b o hb e=>B7 _ _ (aj e ha) (S6 _ _ (B5 _ _ hb (B4 _ _ hb e)))
   refine⟨S7,fun w8 H8 q8 B8 S8 r8 f8 p8 b8 x8=>⟨q,?_⟩⟩
   obtain⟨_,_,zst,_⟩:=id S7
   have r48:=aJ.flat_but zst B8 _ _ (cr q) r47
   refine⟨r48,q8,r8,by have:=f4.1;walk_at"o",by have:=f8.1;walk_at"o",b4.mono (by walk_at"o"),b8.mono (by decide),(b4.2.mul b8.2).mono (by walk_at"o"),fun v9 H9 S9 r9=>?_⟩
   refine⟨(B07.trans B8).same_trans S9,S8.same S9,rO q q8,cs ++ [(q,q5)],(l7.stBut (fT _) (nQ _) S7 B8).same S9,by simp[hl],r9,rg f4 f8,(vF f4 f8 b4 b8).mono (by walk_at"o"),(x4.add f4.ne f8.ne x8).mono (by walk_at"o"),?_,?_,?_,?_,?_⟩
   ·intro c hc
    rcases List.mem_append.mp hc with z|z
    ·exact c6 c z
    ·cases List.mem_singleton.mp z
     exact⟨x4.mono (by walk_at"o"),x5⟩
   ·intro c hc
    rcases List.mem_append.mp hc with z|z
    ·exact c1 c z
    ·cases List.mem_singleton.mp z
     exact⟨f4,f5,p5⟩
   ·intro c hc
    rcases List.mem_append.mp hc with z|z
    ·exact c2 c z
    ·cases List.mem_singleton.mp z
     exact⟨b4.mono (by walk_at"o"),b5⟩
   ·intro j c d e1 e2
    by_cases hj:j+1<cs.length
    ·rw[List.getElem?_append_left (by walk_at"o")] at e1
     rw[List.getElem?_append_left hj] at e2
     exact c3 j c d e1 e2
    ·have hj2:j+1=cs.length:=by
      have:=(List.getElem?_eq_some_iff.mp e2).1
      simp at this
      walk_at"o"
     rw[List.getElem?_append_right (by walk_at"o"),hj2,Nat.sub_self] at e2
     cases e2
     rw[List.getElem?_append_left (by walk_at"o")] at e1
     refine c4 c ?_
     rw[List.getLast?_eq_getElem?,<- hj2]
     exact e1
   ·intro c hc
    rw[List.getLast?_concat] at hc
    cases hc
    exact A3 f4 f8 p8
  ·rintro σ H4 ⟨v,y,q,cs,rfl,B4,S4,l4,hl,r4,f4,b4,x4,c6,c1,c2,c3,c4⟩
   walk_at"vc"
   exact h a H4 cs B4 S4 l4 c1 c2 c6 c3 (by rw[hl,eJ];walk_at"o") ha
def gt(K:W.Frag):Sp:=fun vs H Q _=>∃ (a:Addr)(cs:List dQ)(m:Nat),vs=[.ref a,.int m]/\ik (vw K H) a (cs.map sR)/\cs.length<=6/\m<=13/\(∀ c ∈ cs,Fq c.1/\Fq c.2/\Bq 100 c.1/\Bq 10 c.2) /\
 ∀ (b:Addr)(H':Hp)(qs:List (Int × Int)),ay (vw K H) (vw K H')->aM (vw K H') b qs->vw K H b=none->qs.length=m->(∀ (k:Nat)(q:Int × Int),qs[k]? = some q->Fq q/\wv q=cj cs k)->Q (.ref b) H'
theorem qY(F:eM K "_law_crowd_sums" "_law_crowd_sums" dX f fd) (T:fL K mg)(zCplus:aS P w K mg base "_law_plus" ["_law_one", "_law_other"] 3 (ji K)) (zCtimes:aS P w K mg base "_law_times" ["_law_one", "_law_other"] 3 (nn K)):bK P w K mg base eI 4 f fd ["_law_crowd_here", "_law_many"] (gt K):=by
 have scN:=kT.nd
 refine F.okQ kT (fun vs H Q E h=>?_) (fun cdv A outer s H vs Q E hr h=>?_)
 ·obtain⟨a,_,_,rfl,_⟩:=h
  rfl
 ·obtain⟨a,cs,m,rfl,ha,hcl,hm,hc,h⟩:=h
  refine⟨_,(ae (aC (i:=2) scN rfl (by walk_at"a1") (bC ac))
   (ae (aC (i:=3) scN rfl (by walk_at"a1") (dF (own:=["_law_spot", "_law_weight"]) (outs:=[]) (ixs:=[]) rfl (cu (qv 0)) rfl ⟨rfl,rfl,rfl,trivial,rfl,trivial⟩ (fun _ _ _ _=>⟨(show QG _ _ (i6 K 2 _) from aX (n:=2) rfl (am (ak (i:=0) (show (["_law_spot", "_law_weight"]:List Str).Nodup by decide +kernel) rfl (by walk_at"a1")) (am (ak (i:=1) (show (["_law_spot", "_law_weight"]:List Str).Nodup by decide +kernel) rfl (by walk_at"a1")) aY))),dg,(qv 1)⟩)))
   (ae (cT PassesOwn.never rfl (fg rfl T.b_range (aa (qv 1) ac)) (ak (i:=4) scN rfl (by walk_at"a1")) (ae (aC (i:=5) scN rfl (by walk_at"a1") (bQ (aa af (aa af ac))))
   (ae (cT PassesOwn.never rfl (cu (qv 3)) (ak (i:=6) scN rfl (by walk_at"a1")) (ah (aC (i:=5) scN rfl (by walk_at"a1") (ai zCplus (hr.mono (by walk_at"a2")) rfl (aa (qv 5) (aa (qv 6) ac))))))
   (ae (jD (pF PySem.F.plainAttrs_list PySem.F.slot_list_append PySem.F.type_list_append fR (qv 2) (aa (qv 5) ac)))
   (ah (aC (i:=3) scN rfl (by walk_at"a1") (dF (own:=["_law_at"]) (outs:=["_law_powers", "_law_crowd_here"]) (ixs:=[3,0]) rfl (fg rfl T.b_range (aa (au aB (by rfl) T.b_len aV (aa (qv 0) ac)) ac)) rfl ⟨rfl,rfl,rfl,⟨rfl,⟨rfl,trivial⟩⟩,rfl,⟨⟨rfl,rfl,rfl,_,rfl⟩,⟨⟨rfl,rfl,rfl,_,rfl⟩,trivial⟩⟩⟩ (fun _ _ _ _=>⟨(ak (i:=0) (show (["_law_at", "_law_powers", "_law_crowd_here"]:List Str).Nodup by decide +kernel) rfl (by walk_at"a1")),dg,(ai zCtimes (hr.mono (by walk_at"a2")) rfl (aa (aA (show uX _ (xG K) from dL) (qv 1) (qv 0) (fun _ _=>rfl)) (aa (aA (show uX _ (yD K) from b9) (aA (show uX _ (xG K) from dL) (qv 2) (qv 0) (fun _ _=>rfl)) af (fun _ _=>rfl)) ac)))⟩))))))))
   (ah (ap (qv 2)))))),?_⟩
  walk_at"m"
  skip
  obtain⟨xs,hxs,rxs⟩:=id ha
  obtain⟨ps,p1,p2,p3,p4⟩:=oz rxs
  have hlx:xs.length=cs.length:=by rw[rxs.length,List.length_map]
  walk_at"vc"
  refine⟨by decide,fun t H1 ht S1 h1=>⟨⟨xs,.of (aF (S1 _ _ hxs))⟩,fun d H2 hd S2 h2=>?_⟩⟩
  have hxs1:=S1 _ _ hxs
  refine oR (its:=xs) (ps:=ps) (fun i ys H'=>ay (vw K H1) (vw K H')/\ys=(ps.take i).map (·.2)) (by rw[hlx,p1]) (fun i ys H' _ _ p=>⟨aU (p.1 _ _ hxs1),fun j u v e=>?_⟩) h2 ⟨S2,rfl⟩ (fun i u v ys H' hi huv h' p=>?_) (fun ys H3 h3 p=>?_)
  ·obtain⟨q,e1,e2⟩:=p2 j u v e
   exact⟨q,e1,p.1 _ _ (S1 _ _ e2)⟩
  ·obtain⟨S',rfl⟩:=p
   walk_at"vc"
   refine .mk2 h' ?_ fun H5 B5 h5=>⟨fun b o e=>B5 _ _ (aj e hd) (S' _ _ e),?_⟩
   ·rw[List.length_map,List.length_take]
    have:1000<=sizeLine:=by decide
    walk_at"o"
   ·rw[List.take_add_one,huv,List.map_append]
    rfl
  obtain⟨S3,rfl⟩:=p
  rw[List.take_length] at h3
  have S03:=S1.trans S3
  refine⟨by walk_at"o",by walk_at"o",?_⟩
  obtain⟨Pv,hPv⟩ : ∃ Pv:Nat->St->Hp->Prop,∀ k σ H',Pv k σ H' ↔ ∃ (w:Addr)(ws qs:List (Int × Int))(y z u:Option V),σ=[some (.ref a),some (.int m),some (.ref t),some (.ref w),y,z,u] /\
    ay (vw K H) (vw K H')/\w ≠ t/\aM (vw K H') w ws/\ws.length=cs.length/\(∀ (i:Nat)(q:Int × Int)(c:dQ),ws[i]? = some q->cs[i]? = some c->Fq q/\wv q=wv c.2*aO (wv c.1) k/\Bq (10+100*k) q) /\
    aM (vw K H') t qs/\qs.length=k /\ ∀ (j:Nat)(q:Int × Int),qs[j]? = some q->Fq q/\wv q=cj cs j:=⟨_,fun _ _ _=>Iff.rfl⟩
  refine cg (its:=hJ 0 (Int.toNat m)) Pv (fun _ _ _ _ _=>cK) ((hPv _ _ _).mpr ⟨d,cs.map (·.2),[],_,_,_,rfl,S03,(aj h1 hd).symm,⟨_,h3,p4.same S03⟩,by simp,fun i q c e1 e2=>?_,⟨[],S3 _ _ h1,.mk_nil⟩,rfl,by simp⟩) (fun k x σ H4 hk hx pv=>?_) (fun σ H4 pv=>?_)
  ·rw[List.getElem?_map,e2] at e1
   cases e1
   obtain⟨z1,z2,z3,z4⟩:=hc c (List.mem_of_getElem? e2)
   refine⟨z2,?_,z4⟩
   show wv c.2=wv c.2*1
   grind
  ·obtain⟨w,ws,qs,y,z,u,rfl,S4,nw,lw4,lw,hws,lt4,lq,hqs⟩:=(hPv _ _ _).mp pv
   rw[eJ] at hk
   have hk13:k<13:=by walk_at"o"
   obtain⟨_,rfl⟩:=gT hx
   walk_at"vc"
   refine⟨by decide,fun pz Hz hpz Sz hz=>?_⟩
   have lwz:=lw4.same Sz
   obtain⟨wx,hwx,rwx⟩:=id lwz
   have lwx:wx.length=cs.length:=by rw[rwx.length,List.length_map,lw]
   refine⟨⟨wx,.of (aF hwx)⟩,?_⟩
   obtain⟨Pw,hPw⟩ : ∃ Pw:Nat->St->Hp->Prop,∀ j σ H',Pw j σ H' ↔ ∃ (v:V)(q:Int × Int)(u:Option V),σ=[some (.ref a),some (.int m),some (.ref t),some (.ref w),some (.int (0+k)),some v,u]/\ay (vw K Hz) (vw K H')/\aJ (vw K H') (fr q) v/\Fq q/\wv q=sumQ (ws.take j)/\Bq (1+j*(11+100*k)) q:=⟨_,fun _ _ _=>Iff.rfl⟩
   refine cg (its:=wx) Pw (fun j σ H' _ p=>?_) ((hPw _ _ _).mpr ⟨_,(0,1),_,rfl,.rfl,bU hz,⟨by decide,by decide⟩,?_,?_⟩) (fun j x σ H5 hj hx5 pw=>?_) (fun σ H5 pw=>?_)
   ·obtain⟨_,_,_,_,S5,_⟩:=(hPw _ _ _).mp p
    exact aU (S5 _ _ hwx)
   ·show ((0:Int):Rat) / ((1:Int):Rat)=0
    have e0:((0:Int):Rat)=0:=rfl
    rw[e0]
    grind
   ·rw[Nat.zero_mul]
    exact⟨by decide,by decide⟩
   ·obtain⟨v,q,u5,rfl,S5,r5,f5,w5,b5⟩:=(hPw _ _ _).mp pw
    have jl:j<ws.length:=by walk_at"o"
    have jc:j<cs.length:=by walk_at"o"
    obtain⟨d5,e5,rx5⟩:=rwx.get hx5
    rw[List.getElem?_map,List.getElem?_eq_getElem jl] at e5
    cases e5
    obtain⟨fw,vw5,bw⟩:=hws j _ _ (List.getElem?_eq_getElem jl) (List.getElem?_eq_getElem jc)
    have hjk:j*(11+100*k)<=5*(11+100*12):=Nat.mul_le_mul (by walk_at"o") (by walk_at"o")
    walk_at"vc"
    simp only[ji]
    walk_at"vc"
    refine⟨q,r5,_,aJ.same S5 _ _ rx5,by have:=f5.1;walk_at"o",by have:=fw.1;walk_at"o",b5.mono (by walk_at"o"),bw.mono (by walk_at"o"),(b5.2.mul bw.2).mono (by walk_at"o"),fun v6 H6 S6 r6=>(hPw _ _ _).mpr ⟨_,_,_,rfl,S5.trans S6,r6,rg f5 fw,?_,(vF f5 fw b5 bw).mono ?_⟩⟩
    ·rw[ur (by have:=f5.1;walk_at"o") (by have:=fw.1;walk_at"o"),w5,List.take_add_one,List.getElem?_eq_getElem jl,zM]
     show _=sumQ (ws.take j)+(wv ws[j]+0)
     grind
    ·rw[Nat.add_mul]
     walk_at"o"
   ·obtain⟨v,q,u5,rfl,S5,r5,f5,w5,b5⟩:=(hPw _ _ _).mp pw
    rw[show wx.length=ws.length by walk_at"o",List.take_length] at w5
    have wq:wv q=cj cs k:=by
     rw[w5]
     exact sC lw fun i q c e1 e2=>(hws i q c e1 e2).2.1
    have S4z5:=Sz.trans S5
    obtain⟨tx,htx,rtx⟩:=lt4.same S4z5
    have nat':a ≠ t:=aj hxs ht
    walk_at"vc"
    refine⟨kg htx,tx,htx,?_,fun H6 B6 h6=>?_⟩
    ·rw[rtx.length,List.length_map,lq]
     exact Nat.lt_of_lt_of_le hk13 (by decide)
    have hxs6:=B6 _ _ nat' (S4z5 _ _ (S4 _ _ hxs))
    have S06:ay (vw K H) (vw K H6):=fun b o e=>B6 _ _ (aj e ht) (S4z5 _ _ (S4 _ _ e))
    have lw6:=(lw4.same S4z5).but htx nw B6
    have lt6:aM (vw K H6) t (qs ++ [q]):=by
     refine⟨_,h6,?_⟩
     rw[List.map_append]
     exact (aE.flat_but htx B6 _ _ (dP qs) rtx).snoc (aJ.flat_but htx B6 _ _ (cr _) r5)
    obtain⟨wx6,hwx6,rwx6⟩:=id lw6
    have hln:fz (vw K H6) a=some xs.length:=by simp only[fz,hxs6]
    refine⟨_,hln,by walk_at"o",by walk_at"o",fun c H7 hc7 S7 h7=>?_⟩
    have hct:c ≠ t:=(aj h6 hc7).symm
    rw[show (xs.length:Int).toNat=cs.length by walk_at"o"]
    refine bY (its:=hJ 0 cs.length) (fun i zs H'=>ay (vw K H6) (vw K H') /\ ∃ vs:List (Int × Int),vs.length=i/\aE (vw K H') (vs.map fr) zs /\ ∀ (j:Nat)(q:Int × Int)(c:dQ),vs[j]? = some q->cs[j]? = some c->Fq q/\wv q=wv c.2*aO (wv c.1) (k+1)/\Bq (10+100*(k+1)) q)
     (fun _ _ _ _ _ _=>cK) h7 ⟨S7,[],rfl,.mk_nil,by simp⟩ (fun i x zs H8 hi hx8 h8 p=>?_) (fun zs H8 h8 p=>?_)
    ·obtain⟨S8,vs,lv,rv,hv⟩:=p
     obtain⟨hi',rfl⟩:=gT hx8
     have iw:i<ws.length:=by walk_at"o"
     obtain⟨vi,e1,ri⟩:=rwx6.at (i:=i) (d:=fr ws[i]) (by rw[List.getElem?_map,List.getElem?_eq_getElem iw];rfl)
     obtain⟨xi,e2,rxi⟩:=rxs.at (i:=i) (d:=sR cs[i]) (by rw[List.getElem?_map,List.getElem?_eq_getElem hi'];rfl)
     obtain⟨b,x1,x2,rfl,hb,q1,q2⟩:=(aJ.same (S06.trans S8) _ _ rxi).spt_at
     obtain⟨fw,vw6,bw⟩:=hws i _ _ (List.getElem?_eq_getElem iw) (List.getElem?_eq_getElem hi')
     obtain⟨z1,z2,z3,z4⟩:=hc cs[i] (List.getElem_mem hi')
     walk_at"vc"
     simp only[nn]
     walk_at"vc"
     refine⟨_,S8 _ _ hwx6,vi,by rw[Int.zero_add];exact dj e1,xs,S8 _ _ hxs6,_,by rw[Int.zero_add];exact dj e2,b,rfl,_,hb,_,dJ,?_⟩
     refine⟨_,aJ.same S8 _ _ ri,_,q1,by have:=fw.1;walk_at"o",by have:=z1.1;walk_at"o",bw.mono (by walk_at"o"),z3.mono (by decide),(bw.2.mul z3.2).mono (by walk_at"o"),fun v9 H9 S9 r9=>.mk (S9 _ _ h8) ?_ fun H10 B10 h10=>⟨fun b o e=>B10 _ _ (aj e hc7) (S9 _ _ (S8 _ _ e)),vs ++ [sI ws[i] cs[i].1],by simp[lv],?_,fun j q c g1 g2=>?_⟩⟩
     ·rw[rv.length,List.length_map,lv]
      have:1000<=sizeLine:=by decide
      walk_at"o"
     ·rw[List.map_append]
      exact (aE.flat_but (S9 _ _ h8) B10 _ _ (dP vs) (rv.same S9)).snoc (aJ.flat_but (S9 _ _ h8) B10 _ _ (cr _) r9)
     ·by_cases hj:j<vs.length
      ·rw[List.getElem?_append_left hj] at g1
       exact hv j q c g1 g2
      ·have hj2:j=i:=by
        have:=(List.getElem?_eq_some_iff.mp g1).1
        simp at this
        walk_at"o"
       subst hj2
       rw[List.getElem?_append_right (by walk_at"o"),lv,Nat.sub_self] at g1
       cases g1
       rw[List.getElem?_eq_getElem hi'] at g2
       cases g2
       refine⟨ww fw z1,?_,(BD fw z1 bw z3).mono (by walk_at"o")⟩
       rw[Ag (by have:=fw.1;walk_at"o") (by have:=z1.1;walk_at"o"),vw6,cU]
       grind
    ·obtain⟨S8,vs,lv,rv,hv⟩:=p
     rw[eJ] at lv
     refine (hPv _ _ _).mpr ⟨c,vs,qs ++ [q],_,_,_,rfl,S06.trans S8,hct,⟨zs,h8,rv⟩,lv,hv,lt6.same S8,by simp[lq],fun j q' e=>?_⟩
     by_cases hj:j<qs.length
     ·rw[List.getElem?_append_left hj] at e
      exact hqs j q' e
     ·have hj2:j=k:=by
       have:=(List.getElem?_eq_some_iff.mp e).1
       simp at this
       walk_at"o"
      subst hj2
      rw[List.getElem?_append_right (by walk_at"o"),lq,Nat.sub_self] at e
      cases e
      exact⟨f5,wq⟩
  ·obtain⟨w,ws,qs,y,z,u,rfl,S4,nw,lw4,lw,hws,lt4,lq,hqs⟩:=(hPv _ _ _).mp pv
   rw[eJ] at lq
   walk_at"vc"
   exact h t H4 qs S4 lt4 ht (by walk_at"o") hqs
def uS:Int:=729000000*oA 12
theorem Dm:Bt 64 uS:=by decide
theorem Ad:uS ≠ 0:=by decide
def iB(q:Int × Int):Prop:=Fq q/\Bq 131 q /\ ∃ n:Int,wv q=(n:Rat) / (uS:Rat)/\Bt 168 n
def mJ(b:Nat)(q:Int × Int):Prop:=Fq q /\ ∃ n:Int,wv q=(n:Rat) / ((oA 12:Int):Rat)/\Bt b n
theorem mJ.mono{a b:Nat}{q:Int × Int}(h:mJ a q)(l:a<=b):mJ b q:=by
 obtain⟨f,n,e,t⟩:=h
 exact⟨f,n,e,t.mono l⟩
theorem qL{q:Int × Int}{n D c:Int}{b d:Nat}(f:Fq q)(e:wv q=(n:Rat) / (D:Rat))(hD:D*c=uS)(hn:Bt b n)(hc:Bt d c)(h1:b+d<=168)(h2:b<=131):iB q:=by
 have D0:D ≠ 0:=fun z=>by rw[z,Int.zero_mul] at hD;exact Ad hD.symm
 have c0:c ≠ 0:=fun z=>by rw[z,Int.mul_zero] at hD;exact Ad hD.symm
 have bD:Bt 64 D:=by
  have:=Dm
  rw[<- hD] at this
  unfold Bt at this ⊢
  rw[Int.natAbs_mul] at this
  exact Nat.lt_of_le_of_lt (Nat.le_mul_of_pos_right _ (by walk_at"o")) this
 refine⟨f,wN f e D0 (hn.mono h2) (bD.mono (by decide)),n*c,?_,(hn.mul hc).mono h1⟩
 have q1:=ar D0
 have q2:=ar c0
 rw[e,<- hD,Rat.intCast_mul,Rat.intCast_mul]
 grind
theorem mJ.sumQ{b:Nat}{q:Int × Int}(h:mJ b q)(l:b<=131):iB q:=by
 obtain⟨f,n,e,t⟩:=h
 exact qL (c:=729000000) (d:=30) f e (by decide) t (by decide) (by walk_at"o") l
theorem AY{b k:Nat}{q:Int × Int}{n:Int}(hq:Fq q)(hk:k<=12)(e:wv q=(n:Rat) / (oA k:Rat))(hn:Bt b n):mJ (b+(3*(12 - k)+1)) q:=by
 refine⟨hq,n*EH (12 - k),?_,hn.mul (yo _)⟩
 have s:oA 12=oA k*EH (12 - k):=by rw[<- vx,show k+(12 - k)=12 by walk_at"o"]
 have h6:(oA k:Rat) ≠ 0:=ar (by have:=m8 k;walk_at"o")
 have p6:((EH (12 - k):Int):Rat) ≠ 0:=fun z=>by
  have:((oA 12:Int):Rat) ≠ 0:=ar (by decide)
  rw[s,Rat.intCast_mul,z] at this
  grind
 rw[e,s,Rat.intCast_mul,Rat.intCast_mul]
 grind
theorem yt{cs:List dQ}{k:Nat}{q:Int × Int}(h:∀ c ∈ cs,Sx 300 c.1/\Sx 36 c.2)(hl:cs.length<=6)(hk:k<=10)(hq:Fq q)(e:wv q=cj cs k):mJ 110 q:=by
 obtain⟨n,e1,l1⟩:=wH (k:=k) h
 refine (AY (k:=k) (n:=n) (b:=9*k+8) hq (by walk_at"o") (e.trans e1) ?_).mono (by walk_at"o")
 unfold Bt
 have l3:cs.length*(36*AO k)<=6*(36*AO k):=Nat.mul_le_mul_right _ hl
 have l4:=zN k
 rw[Nat.pow_add,<- l4,show (2:Nat) ^ 8=256 from rfl]
 have:0<AO k:=by rw[l4];exact Nat.two_pow_pos _
 walk_at"o"
theorem ua{qs:List (Int × Int)}(h:∀ q ∈ qs,iB q):Pb 170 (cf qs):=by
 refine⟨uS,Ad,Dm.mono (by decide),fun k=>?_⟩
 cases e:qs[k]? with
 | none =>
  refine⟨0,?_,by decide⟩
  rw[cC (List.getElem?_eq_none_iff.mp e),show ((0:Int):Rat)=0 from rfl]
  grind
 | some q =>
  obtain⟨_,_,n,en,bn⟩:=h q (List.mem_of_getElem? e)
  exact⟨n,by rw[bJ e];exact en,bn.mono (by decide)⟩
def gW(q:Int × Int):Prop:=Fq q/\Bq 12 q/\q.2 ∣ 30
theorem vZ{q:Int × Int}{n:Int}(f:Fq q)(e:wv q=(n:Rat) / 30)(l:n.natAbs<4096):gW q:=by
 have e':wv q=(n:Rat) / ((30:Int):Rat):=e
 exact⟨f,wN f e' (by decide) (show Bt 12 n from l) (by decide),oN f (by decide) e'⟩
theorem pM{ss qs:List (Int × Int)}{q:Int × Int}(hs:∀ p ∈ ss,mJ 112 p)(hq:gW q)(l:qs.length=ss.length - 1)(h:∀ (k:Nat)(p:Int × Int),qs[k]? = some p->Fq p/\wv p=cf ss (k+1) - wv q*cf ss k):∀ p ∈ qs,iB p:=fun p hp=>by
 obtain⟨k,hk⟩:=List.getElem?_of_mem hp
 have lk:=(List.getElem?_eq_some_iff.mp hk).1
 obtain⟨f,e⟩:=h k p hk
 obtain⟨_,n1,e1,t1⟩:=hs ss[k+1] (List.getElem_mem (by walk_at"o"))
 obtain⟨_,n0,e0,t0⟩:=hs ss[k] (List.getElem_mem (by walk_at"o"))
 rw[bJ (List.getElem?_eq_getElem (show k+1<ss.length by walk_at"o")),bJ (List.getElem?_eq_getElem (show k<ss.length by walk_at"o")),e1,e0] at e
 obtain⟨fq,bq,c,hc⟩:=hq
 have h6:((oA 12:Int):Rat) ≠ 0:=ar (by decide)
 have cq:=ar fq.ne
 have e':wv p=((n1*q.2 - q.1*n0:Int):Rat) / ((oA 12*q.2:Int):Rat):=by
  rw[e,Rat.intCast_sub,Rat.intCast_mul,Rat.intCast_mul,Rat.intCast_mul]
  unfold wv
  grind
 have bc:Bt 5 c:=by
  have q0:=fq.1
  unfold Bt
  have:c.natAbs<=30:=by
   have:=congrArg Int.natAbs hc
   rw[Int.natAbs_mul] at this
   have:=Nat.le_mul_of_pos_left c.natAbs (show 0<q.2.natAbs by walk_at"o")
   simp at *
   walk_at"o"
  walk_at"o"
 refine qL (c:=24300000*c) (d:=30) f e' ?_ (((t1.mul bq.2).sub (bq.1.mul t0)).mono (by decide)) (((show Bt 25 24300000 by decide).mul bc).mono (by decide)) (by decide) (b:=125) (by decide)
 unfold uS
 rw[show (729000000:Int)=24300000*30 from rfl,hc]
 grind
theorem sV{F G:Rat->Rat}{c:Rat}:∀ cs:List dQ,dW F cs - c*dW G cs=dW (fun x=>F x - c*G x) cs
 | []=>by show (0:Rat) - c*0=0;grind
 | d :: cs=>by
  show (wv d.2*F (wv d.1)+dW F cs) - c*(wv d.2*G (wv d.1)+dW G cs)=wv d.2*(F (wv d.1) - c*G (wv d.1))+dW (fun x=>F x - c*G x) cs
  rw[<- sV cs]
  grind
theorem tE{k:Nat}:∀ cs:List dQ,cj cs k=dW (fun x=>aO x k) cs
 | []=>rfl
 | c :: cs=>by
  show wv c.2*aO (wv c.1) k+cj cs k=wv c.2*aO (wv c.1) k+dW (fun x=>aO x k) cs
  rw[tE cs]
theorem tU{s:Rat}{cs:List dQ}:∀ k i,dl s (cj cs) k i=dW (fun x=>aO (x - s) k*aO x i) cs
 | 0,i=>by
  show cj cs i=_
  rw[tE]
  exact cN fun c _=>by show _=1*_;grind
 | k+1,i=>by
  show dl s (cj cs) k (i+1) - s*dl s (cj cs) k i=_
  rw[tU k (i+1),tU k i,sV]
  exact cN fun c _=>by rw[cU,cU];grind
theorem oK{s:Rat}{u v:Nat->Rat}{n:Nat}(h:∀ i,i<n->u i=v i):∀ k i,k+i<n->dl s u k i=dl s v k i
 | 0,i,hi=>h i (by walk_at"o")
 | k+1,i,hi=>by
  show dl s u k (i+1) - s*dl s u k i=dl s v k (i+1) - s*dl s v k i
  rw[oK h k (i+1) (by walk_at"o"),oK h k i (by walk_at"o")]
theorem Bg{s:Rat}{cs:List dQ}{u:Nat->Rat}{n k:Nat}(h:∀ i,i<n->u i=cj cs i)(hk:k<n):dl s u k 0=gL s cs k:=by
 rw[oK h k 0 (by walk_at"o"),tU]
 exact cN fun c _=>by show _*1=_;grind
def wL:Nat->Int
 | 0=>6
 | k+1=>wL k*30
def EW:Nat->Nat
 | 0=>36
 | k+1=>EW k*262144
theorem qG:∀ k,0<wL k
 | 0=>by decide
 | k+1=>Int.mul_pos (qG k) (by decide)
theorem AC{x w:Int × Int}{s:Rat}(hm:∃ m:Int,wv x - s=(m:Rat) / 30/\m.natAbs<=262144)(hw:Sx 36 w):∀ k,∃ n:Int,wv w*aO (wv x - s) k=(n:Rat) / ((wL k:Int):Rat)/\n.natAbs<=EW k
 | 0=>by
  obtain⟨n,e,l⟩:=hw
  refine⟨n,?_,l⟩
  show wv w*1=(n:Rat) / ((6:Int):Rat)
  rw[e,show ((6:Int):Rat)=6 from rfl]
  grind
 | k+1=>by
  obtain⟨n,e,l⟩:=AC hm hw k
  obtain⟨m,e2,l2⟩:=hm
  refine⟨n*m,?_,?_⟩
  ·rw[cU]
   have h6:((wL k:Int):Rat) ≠ 0:=ar (by have:=qG k;walk_at"o")
   show _=_ / ((wL k*30:Int):Rat)
   rw[Rat.intCast_mul,Rat.intCast_mul,show ((30:Int):Rat)=30 from rfl,show wv w*(aO (wv x - s) k*(wv x - s))=(wv w*aO (wv x - s) k)*(wv x - s) by grind,e,e2]
   grind
  ·rw[Int.natAbs_mul]
   exact Nat.mul_le_mul l l2
theorem wB{s:Rat}{k:Nat}:∀{cs:List dQ},(∀ c ∈ cs,(∃ m:Int,wv c.1 - s=(m:Rat) / 30/\m.natAbs<=262144)/\Sx 36 c.2) -> ∃ n:Int,gL s cs k=(n:Rat) / ((wL k:Int):Rat)/\n.natAbs<=cs.length*EW k
 | [],_=>⟨0,by
   show (0:Rat)=((0:Int):Rat) / _
   rw[show ((0:Int):Rat)=0 from rfl]
   grind,by simp⟩
 | c :: cs,h=>by
  obtain⟨n,e1,l1⟩:=wB (k:=k) (cs:=cs) fun d hd=>h d (by simp[hd])
  obtain⟨h1,h2⟩:=h c (by simp)
  obtain⟨m,e2,l2⟩:=AC h1 h2 k
  refine⟨m+n,?_,?_⟩
  ·show wv c.2*aO (wv c.1 - s) k+gL s cs k=_
   rw[e1,e2,Rat.intCast_add]
   have h6:((wL k:Int):Rat) ≠ 0:=ar (by have:=qG k;walk_at"o")
   grind
  ·rw[List.length_cons,Nat.add_mul]
   walk_at"o"
theorem xO{x q:Int × Int}(hx:Sx 300 x)(hq:gW q):∃ m:Int,wv x - wv q=(m:Rat) / 30/\m.natAbs<=262144:=by
 obtain⟨n,e,l⟩:=hx
 obtain⟨fq,bq,c,hc⟩:=hq
 have q0:=fq.1
 have c30:c.natAbs<=30:=by
  have h1:=congrArg Int.natAbs hc
  rw[Int.natAbs_mul] at h1
  have h2:=Nat.le_mul_of_pos_left c.natAbs (show 0<q.2.natAbs by walk_at"o")
  have h3:Int.natAbs 30=30:=rfl
  walk_at"o"
 have b1:q.1.natAbs<4096:=bq.1
 have b2:(q.1*c).natAbs<=4096*30:=by
  rw[Int.natAbs_mul]
  exact Nat.mul_le_mul (by walk_at"o") c30
 refine⟨5*n - q.1*c,?_,by walk_at"o"⟩
 have cq:=ar fq.ne
 have e30:(30:Rat)=(q.2:Rat)*(c:Rat):=by
  rw[<- Rat.intCast_mul,<- hc]
  rfl
 have c0:(c:Rat) ≠ 0:=fun z=>by
  rw[z] at e30
  exact absurd e30 (by rw[Rat.mul_zero];decide +kernel)
 have ew:wv q=((q.1:Int):Rat)*(c:Rat) / 30:=by
  rw[e30]
  unfold wv
  grind
 rw[e,ew,Rat.intCast_sub,Rat.intCast_mul,Rat.intCast_mul,show ((5:Int):Rat)=5 from rfl]
 grind
theorem xm{cs:List dQ}{q p:Int × Int}{k:Nat}(h:∀ c ∈ cs,Sx 300 c.1/\Sx 36 c.2)(hl:cs.length<=6)(hq:gW q)(hk:k<=5)(fp:Fq p)(e:wv p=gL (wv q) cs k):iB p:=by
 obtain⟨n,e1,l1⟩:=wB (s:=wv q) (k:=k) (cs:=cs) fun c hc=>⟨xO (h c hc).1 hq,(h c hc).2⟩
 have l2:n.natAbs<=6*EW k:=Nat.le_trans l1 (Nat.mul_le_mul_right _ hl)
 have bn:Bt 98 n:=by
  have:EW k<=EW 5:=by
   rcases (by walk_at"o" : k=0\/k=1\/k=2\/k=3\/k=4\/k=5) with rfl|rfl|rfl|rfl|rfl|rfl <;> decide
  have:6*EW 5<2 ^ 98:=by decide
  unfold Bt
  walk_at"o"
 have ex:∃ c:Int,wL k*c=uS/\Bt 64 c:=by
  rcases (by walk_at"o" : k=0\/k=1\/k=2\/k=3\/k=4\/k=5) with rfl|rfl|rfl|rfl|rfl|rfl
  ·exact⟨uS / wL 0,by decide,by decide⟩
  ·exact⟨uS / wL 1,by decide,by decide⟩
  ·exact⟨uS / wL 2,by decide,by decide⟩
  ·exact⟨uS / wL 3,by decide,by decide⟩
  ·exact⟨uS / wL 4,by decide,by decide⟩
  ·exact⟨uS / wL 5,by decide,by decide⟩
 obtain⟨c,hc,bc⟩:=ex
 exact qL fp (e.trans e1) hc bn bc (by decide) (by decide)
def oG(K:W.Frag):Sp:=fun vs H Q _=>∃ (a b:Addr)(n m k:Nat)(W p:Nat->Int),vs=[.ref a,.ref b,.int k]/\IL (vw K H) a n W/\IL (vw K H) b m p/\k+m<=n/\m<=20/\(∀ i,Bt 2000 (W i))/\(∀ i,Bt 2000 (p i)) /\ ∀ H',ay (vw K H) (vw K H')->Q (.int (bH (fun i=>p i*W (k+i)) m)) H'
theorem DM(F:eM K "met" "met" qh f fd) (T:fL K mg):bK P w K mg base eI 1 f fd ["wholes", "row", "k"] (oG K):=by
 have scN:=Ax.nd
 refine F.okQ Ax (fun vs H Q E h=>?_) (fun cdv A outer s H vs Q E hr h=>?_)
 ·obtain⟨_,_,_,_,_,_,_,rfl,_⟩:=h
  rfl
 ·obtain⟨a,b,n,m,k,W,p,rfl,ha,hb,hk,hm,bW,bp,h⟩:=h
  refine⟨_,(ah (ap (au (pE rfl) (by rfl) T.b_sum zO (aa (dF (own:=["number", "whole"]) (outs:=[]) (ixs:=[]) rfl (uP rfl T.b_zip (aa (qv 1) (aa (cR fB (qv 0) (dU (qv 2)) dZ) ac))) rfl ⟨rfl,rfl,rfl,trivial,rfl,trivial⟩ (fun _ _ _ _=>⟨(show QG _ _ (i6 K 2 _) from aX (n:=2) rfl (am (ak (i:=0) (show (["number", "whole"]:List Str).Nodup by decide +kernel) rfl (by walk_at"a1")) (am (ak (i:=1) (show (["number", "whole"]:List Str).Nodup by decide +kernel) rfl (by walk_at"a1")) aY))),dg,(ao (show eK _ _ (gK K) from aH) (qv 0) (qv 1))⟩)) ac)))),?_⟩
  walk_at"m"
  walk_at"vc"
  simp only[yC]
  walk_at"vc"
  refine⟨_,ha,fun c H1 hc S1 h1=>?_⟩
  rw[kr (by rw[aW];walk_at"o"),By] at h1
  have hb1:=hb.same S1
  refine⟨c,rfl,true,⟨_,hb1⟩,true,⟨_,h1⟩,fun d H2 hd S2 h2=>?_⟩
  have ez:(lz m fun i=>V.int (p i)).zip (lz (n - k) fun i=>V.int (W (k+i)))=lz m fun i=>(V.int (p i),V.int (W (k+i))):=E7 (by walk_at"o")
  refine lW (ps:=(lz m fun i=>V.int (p i)).zip (lz (n - k) fun i=>V.int (W (k+i)))) (fun i zs H'=>ay (vw K H1) (vw K H')/\zs=lz i fun i=>V.int (p i*W (k+i))) (fun i zs H' _ _ q=>⟨_,_,q.1 _ _ hb1,q.1 _ _ h1,oH.symm⟩) h2 ⟨S2,rfl⟩ (fun i u v zs H8 H9 hi huv h9 q S89=>?_) (fun zs H8 h8 q=>?_)
  ·obtain⟨S8,rfl⟩:=q
   rw[ez] at hi huv
   rw[aW] at hi
   rw[cV hi] at huv
   cases huv
   walk_at"vc"
   refine⟨bO (bp i) (bW _) (by decide),.mk2 h9 ?_ fun H10 B10 h10=>⟨fun b o e=>B10 _ _ (aj e hd) (S89 _ _ (S8 _ _ e)),kD.symm⟩⟩
   rw[aW]
   exact Nat.lt_of_le_of_lt (show i<=20 by walk_at"o") (by decide)
  ·obtain⟨S8,rfl⟩:=q
   rw[ez,aW] at h8
   refine⟨lz m fun i=>p i*W (k+i),by rw[h8,rf],?_⟩
   rw[vP]
   exact h H8 (S1.trans S8)
def su:Nat->Nat
 | 0=>0
 | n+1=>n+1
theorem ni{W:Nat->Int}(k i:Nat):bH (fun j=>qk W k j*W (i+j)) (k+1)=Lq W k i:=by
 rw[rG]
 exact eU _ fun j _=>Int.mul_comm _ _
theorem wb{te:TE}{v0 v1 v2 v3 v4 v5 v6 o8 o9:Option V}{t e:Addr}{m N:Nat}{f p:Nat->Int}{c:Int}{H0 H1:Hp}{D:mH}(he:IL (vw K H0) e m p)(ht0:vw K H0 t=none)(S01:ay (vw K H0) (vw K H1))(ht:IL (vw K H1) t N f)(hm:m<=N)
  (hte:∀ i H' (Qk:VK),i<m->Qk (.int (c*p i)) H'->te [v0,v1,v2,v3,v4,v5,v6,some (.ref t),some (.int (i:Nat)),some (.int (p i))] H' Qk)
  (hQ:∀ o8 o9 H',ay (vw K H0) (vw K H')->IL (vw K H') t N (fun j=>f j - if j<m then c*p j else 0)->D.nx [v0,v1,v2,v3,v4,v5,v6,some (.ref t),o8,o9] H') :
  vo (ER K (yi K e)) (i6 K 2 (jY (gH 8) (jY (gH 9) uu))) (nW (Be 7) (Be 8) te (fun o i H Q=>∃ p,o=V.ref p /\ ∃ k,i=V.int k /\ ∃ xs,vw K H p=some (HO.lst xs) /\ ∃ v,mL xs k=some v/\Q v H) (DS fun i j=>i - j) (vO K)) D [v0,v1,v2,v3,v4,v5,v6,some (.ref t),o8,o9] H1:=by
 obtain⟨Pv,hPv⟩ : ∃ Pv:Nat->St->Hp->Prop,∀ i σ H',Pv i σ H' ↔ ∃ o8 o9,σ=[v0,v1,v2,v3,v4,v5,v6,some (.ref t),o8,o9]/\ay (vw K H0) (vw K H')/\IL (vw K H') t N (fun j=>f j - if j<i then c*p j else 0):=⟨_,fun _ _ _=>Iff.rfl⟩
 refine iV (rows:=(lz m fun i=>V.int (p i)).mapIdx fun i x=>[V.int i,x]) Pv (fun i σ H' _ q=>?_) ((hPv _ _ _).mpr ⟨_,_,rfl,S01,?_⟩) (fun i r σ H2 q H3 hi hr pv hq S3 h3=>?_) (fun σ H2 pv=>?_)
 ·obtain⟨_,_,_,S,_⟩:=(hPv _ _ _).mp q
  exact⟨_,aF (S _ _ he),rfl⟩
 ·unfold IL at ht ⊢
  rw[ht]
  congr 2
  exact iu fun j hj=>by dsimp only;rw[if_neg (by walk_at"o"),Int.sub_zero]
 ·obtain⟨o8,o9,rfl,S2,l2⟩:=(hPv _ _ _).mp pv
  rw[List.length_mapIdx,aW] at hi
  rw[List.getElem?_mapIdx,cV hi] at hr
  cases hr
  have l3:=l2.same S3
  walk_at"vc"
  simp only[nW,DS]
  walk_at"vc"
  refine⟨_,h3,rfl,_,_,rfl,_,_,rfl,rfl,_,rfl,_,l3,_,DX (show i<N by walk_at"o"),hte i H3 _ hi ⟨_,rfl,_,rfl,_,rfl,_,l3,i,by rw[aW];exact kl (by walk_at"o"),fun H4 B4 h4=>(hPv _ _ _).mpr ⟨_,_,rfl,fun x o z=>B4 _ _ (aj z ht0) (S3 _ _ (S2 _ _ z)),?_⟩⟩⟩
  unfold IL
  rw[h4,AA]
  congr 2
  refine iu fun j hj=>?_
  dsimp only
  by_cases ej:j=i
  ·rw[if_pos ej,ej,if_neg (by walk_at"o"),if_pos (by walk_at"o"),Int.sub_zero]
  ·rw[if_neg ej]
   by_cases z:j<i
   ·rw[if_pos z,if_pos (by walk_at"o")]
   ·rw[if_neg z,if_neg (by walk_at"o")]
 ·obtain⟨o8,o9,rfl,S2,l2⟩:=(hPv _ _ _).mp pv
  rw[List.length_mapIdx,aW] at l2
  exact hQ _ _ _ S2 l2
def iU(K:W.Frag):Sp:=fun vs H Q _=>∃ (a b c:Addr)(n k:Nat)(W:Nat->Int),vs=[.ref a,.ref b,.ref c]/\IL (vw K H) a n W/\IL (vw K H) b (k+1) (qk W k)/\IL (vw K H) c (su k) (lB W k)/\2*(k+1)<=n/\k<=5/\(∀ i,Bt 170 (W i))/\(∀ i,i<=k+1->0<Dk W i) /\
 ∀ d H',ay (vw K H) (vw K H')->vw K H d=none->IL (vw K H') d (k+2) (qk W (k+1))->Q (.ref d) H'
theorem tD(F:eM K "next_row" "next_row" fQ f fd) (T:fL K mg)(C_met:aS P w K mg base "met" ["wholes", "row", "k"] 1 (oG K)):bK P w K mg base eI 2 f fd ["wholes", "row", "before"] (iU K):=by
 have scN:=me.nd
 refine F.okQ me (fun vs H Q E h=>?_) (fun cdv A outer s H vs Q E hr h=>?_)
 ·obtain⟨_,_,_,_,_,_,rfl,_⟩:=h
  rfl
 ·obtain⟨a,b,c,n,k,W,rfl,ha,hb,hc,hn,hk,bW,hD,h⟩:=h
  refine⟨_,(ae (aC (i:=3) scN rfl (by walk_at"a1") (ao dE (au aB (by rfl) T.b_len aV (aa (qv 1) ac)) af))
   (ae (cM (bQ (aa (aA dL (qv 1) (de cn af) (fun _ _=>rfl)) (aa (ai C_met (hr.mono (by walk_at"a2")) rfl (aa (qv 0) (aa (qv 1) (aa (qv 3) ac)))) ac))) (aX (n:=2) rfl (am (ak (i:=4) scN rfl (by walk_at"a1")) (am (ak (i:=5) scN rfl (by walk_at"a1")) aY))))
   (ae (aC (i:=6) scN rfl (by walk_at"a1") (ao aH (qv 4) (ai C_met (hr.mono (by walk_at"a2")) rfl (aa (qv 0) (aa (qv 1) (aa (ao cb (qv 3) af) ac))))))
   (ae (cc (aQ mq (qv 3) af (aI _)) (ah (iC (i:=6) scN rfl (by walk_at"a1") (ao aH (qv 5) (aA dL (qv 1) (de cn af) (fun _ _=>rfl))) uj)) aN)
   (ae (kQ (i:=7) (own:=["number"]) (outs:=["last", "height"]) (ixs:=[4,5]) scN rfl (by walk_at"a1") rfl (cu (ao cb (bC (aa af ac)) (qv 1))) rfl ⟨rfl,rfl,rfl,⟨rfl,⟨rfl,trivial⟩⟩,rfl,⟨⟨rfl,rfl,rfl,_,rfl⟩,⟨⟨rfl,rfl,rfl,_,rfl⟩,trivial⟩⟩⟩ (fun _ _ _ _=>⟨(ak (i:=0) (show (["number", "last", "height"]:List Str).Nodup by decide +kernel) rfl (by walk_at"a1")),dg,(ao (show eK _ _ (gK K) from aH) (ao (show eK _ _ (gK K) from aH) (qv 1) (qv 2)) (qv 0))⟩))
   (ae (cT PassesOwn.never rfl (jI rfl T.b_enumerate (aa (qv 1) ac)) (aX (n:=2) rfl (am (ak (i:=8) scN rfl (by walk_at"a1")) (am (ak (i:=9) scN rfl (by walk_at"a1")) aY))) (ah (kJ (qv 7) (qv 8) ig (ao aH (qv 6) (qv 9)) nJ fb)))
   (ae (cT PassesOwn.never rfl (jI rfl T.b_enumerate (aa (qv 2) ac)) (aX (n:=2) rfl (am (ak (i:=8) scN rfl (by walk_at"a1")) (am (ak (i:=9) scN rfl (by walk_at"a1")) aY))) (ah (kJ (qv 7) (qv 8) ig (ao aH (ao aH (qv 5) (qv 5)) (qv 9)) nJ fb)))
   (ah (ap (dF (own:=["number"]) (outs:=["last"]) (ixs:=[4]) rfl (cu (qv 7)) rfl ⟨rfl,rfl,rfl,⟨rfl,trivial⟩,rfl,⟨⟨rfl,rfl,rfl,_,rfl⟩,trivial⟩⟩ (fun _ _ _ _=>⟨(ak (i:=0) (show (["number", "last"]:List Str).Nodup by decide +kernel) rfl (by walk_at"a1")),dg,(ao nu (qv 0) (ao (show eK _ _ (gK K) from aH) (qv 1) (qv 1)))⟩))))))))))),?_⟩
  walk_at"m"
  have bq:∀ i,Bt 1046 (qk W k i):=fun i=>(qc bW (by walk_at"o")).mono (by decide)
  have bq':∀ i,Bt 2000 (qk W k i):=fun i=>(bq i).mono (by decide)
  have bW':∀ i,Bt 2000 (W i):=fun i=>(bW i).mono (by decide)
  refine aR.gen fun N1 hN1=>?_
  walk_at"vc"
  refine⟨_,hb.len,hN1 _ _ ?_⟩
  rw[show (((k+1:Nat):Int) - 1)=(k:Int) by walk_at"o"]
  refine aR.gen fun N2 hN2=>?_
  walk_at"vc"
  refine⟨_,hb,_,mT,a,b,n,k+1,k,W,qk W k,rfl,ha,hb,by walk_at"o",by walk_at"o",bW',bq',fun H1 S1=>⟨by decide,fun t0 H2 ht0 S2 h2=>⟨t0,rfl,_,h2,rfl,_,_,rfl,_,_,rfl,rfl,hN2 _ _ ?_⟩⟩⟩
  have S02:=S1.trans S2
  rw[ni,fP,gh]
  have bD:Bt 1046 (Dk W k):=(pG bW (by walk_at"o")).mono (by decide)
  have bD1:Bt 1046 (Dk W (k+1)):=(pG bW (by walk_at"o")).mono (by decide)
  have bL:Bt 1046 (Lq W k (k+1)):=(C6 bW (by walk_at"o")).mono (by decide)
  refine aR.gen fun N3 hN3=>?_
  walk_at"vc"
  rw[show (k:Int)+1=((k+1:Nat):Int) by walk_at"o"]
  refine⟨a,b,n,k+1,k+1,W,qk W k,rfl,ha.same S02,hb.same S02,by walk_at"o",by walk_at"o",bW',bq',fun H3 S3=>?_⟩
  rw[ni]
  walk_at"vc"
  refine⟨bO bD bL (by decide),hN3 _ _ ?_⟩
  have S03:=S02.trans S3
  refine aR.gen fun N4 hN4=>?_
  have bM:Bt 2100 (mG W k):=by
   cases k with
   | zero=>exact (bD.mul bL).mono (by decide)
   | succ m =>
    have h1:Bt 2092 (Dk W (m+1)*Lq W (m+1) (m+2)):=bD.mul bL
    have h2:Bt 2092 (Dk W (m+2)*qk W (m+1) m):=bD1.mul (bq m)
    exact (h1.add h2).mono (by decide)
  have go:N4 [some (.ref a),some (.ref b),some (.ref c),some (.int k),some (.int (Dk W k)),some (.int (Dk W (k+1))),some (.int (mG W k)),none,none,none] H3:=by
   refine hN4 _ _ ?_
   refine aR.gen fun N5 hN5=>?_
   walk_at"vc"
   refine⟨by decide,fun z0 H4 hz0 S4 h4=>?_⟩
   walk_at"vc"
   refine⟨_,h4,_,S4 _ _ (S03 _ _ hb),?_,fun z1 H5 hz1 S5 h5=>⟨z1,rfl,⟨_,.of (aF h5)⟩,fun t H6 ht S6 h6=>?_⟩⟩
   ·rw[aW]
    exact Nat.le_trans (show _<=20 by simp;walk_at"o") (by decide)
   have e5:[V.int 0] ++ (lz (k+1) fun i=>V.int (qk W k i))=lz (k+2) fun i=>V.int (xa (qk W k) i):=(m5 (n:=k+1) (h:=fun i=>V.int (xa (qk W k) i))).symm
   rw[e5] at h5
   have bs:∀ i,Bt 1046 (xa (qk W k) i):=fun i=>by
    cases i with
    | zero=>show Bt 1046 0;decide
    | succ i=>exact bq i
   have bDD:Bt 2092 (Dk W k*Dk W (k+1)):=bD.mul bD1
   refine bY (its:=lz (k+2) fun i=>V.int (xa (qk W k) i)) (fun i zs H'=>ay (vw K H5) (vw K H')/\zs=lz i fun i=>V.int (Dk W k*Dk W (k+1)*xa (qk W k) i)) (fun i zs H' _ _ q=>aU (q.1 _ _ h5)) h6 ⟨S6,rfl⟩ (fun i x zs H8 hi hx h8 q=>?_) (fun zs H8 h8 q=>hN5 _ _ ?_)
   ·obtain⟨S8,rfl⟩:=q
    rw[aW] at hi
    rw[cV hi] at hx
    cases hx
    walk_at"vc"
    refine⟨bO bD bD1 (by decide),bO bDD (bs i) (by decide),.mk h8 ?_ fun H10 B10 h10=>⟨fun b o e=>B10 _ _ (aj e ht) (S8 _ _ e),kD.symm⟩⟩
    rw[aW]
    exact Nat.lt_of_le_of_lt (show i<=20 by walk_at"o") (by decide)
   obtain⟨S8,rfl⟩:=q
   rw[aW] at h8
   have S35:=S4.trans S5
   have S38:=S35.trans S8
   have ht3:=S35.free ht
   refine aR.gen fun N6 hN6=>?_
   walk_at"vc"
   simp only[mC]
   walk_at"vc"
   refine⟨⟨_,S38 _ _ (S03 _ _ hb)⟩,wb (p:=qk W k) (c:=mG W k) (m:=k+1) (N:=k+2) (f:=fun i=>Dk W k*Dk W (k+1)*xa (qk W k) i) (hb.same S03) ht3 S38 h8 (by walk_at"o") (fun i H' Qk hi z=>?_) (fun o8 o9 H9 S9 h9=>hN6 _ _ ?_)⟩
   ·walk_at"vc"
    exact⟨bO bM (bq i) (by decide),z⟩
   refine aR.gen fun N7 hN7=>?_
   walk_at"vc"
   simp only[mC]
   walk_at"vc"
   have bb:∀ i,Bt 1046 (lB W k i):=fun i=>by
    cases k with
    | zero=>show Bt 1046 0;decide
    | succ m=>exact (qc bW (by walk_at"o")).mono (by decide)
   refine⟨⟨_,S9 _ _ (S03 _ _ hc)⟩,wb (p:=lB W k) (c:=Dk W (k+1)*Dk W (k+1)) (m:=su k) (N:=k+2) (hc.same S03) ht3 S9 h9 (by cases k <;> simp[su]) (fun i H' Qk hi z=>?_) (fun o8 o9 Ha Sa ha'=>hN7 _ _ ?_)⟩
   ·walk_at"vc"
    exact⟨bO bD1 bD1 (by decide),bO (bD1.mul bD1) (bb i) (by decide),z⟩
   have hne:∀ i,i<=k+1->Dk W i ≠ 0:=fun i hi=>by have:=hD i hi;walk_at"o"
   have fin:∀ j,j<k+2->(Dk W k*Dk W (k+1)*xa (qk W k) j - if j<k+1 then mG W k*qk W k j else 0) - (if j<su k then Dk W (k+1)*Dk W (k+1)*lB W k j else 0)=Dk W k*Dk W k*qk W (k+1) j:=fun j hj=>by
    rw[<- yk hne j]
    have e1:(if j<k+1 then mG W k*qk W k j else 0)=mG W k*qk W k j:=by
     by_cases z:j<k+1
     ·rw[if_pos z]
     ·rw[if_neg z,fD (by walk_at"o"),Int.mul_zero]
    have e2:(if j<su k then Dk W (k+1)*Dk W (k+1)*lB W k j else 0)=Dk W (k+1)*Dk W (k+1)*lB W k j:=by
     by_cases z:j<su k
     ·rw[if_pos z]
     ·rw[if_neg z]
      cases k with
      | zero=>show _=_*(0:Int);rw[Int.mul_zero]
      | succ m =>
       show _=_*qk W m j
       rw[fD (by simp only[su] at z;walk_at"o"),Int.mul_zero]
    rw[e1,e2]
   have h11:IL (vw K Ha) t (k+2) (fun j=>Dk W k*Dk W k*qk W (k+1) j):=by
    unfold IL at ha' ⊢
    rw[ha']
    congr 2
    exact iu fun j hj=>congrArg V.int (fin j hj)
   walk_at"vc"
   refine⟨⟨_,.of (aF h11)⟩,fun d Hb hd Sb hb2=>?_⟩
   have hD0:Dk W k ≠ 0:=hne k (by walk_at"o")
   have bk1:∀ i,Bt 1046 (qk W (k+1) i):=fun i=>(zy bW (by walk_at"o")).mono (by decide)
   refine bY (its:=lz (k+2) fun j=>V.int (Dk W k*Dk W k*qk W (k+1) j)) (fun i zs H'=>ay (vw K Ha) (vw K H')/\zs=lz i fun i=>V.int (qk W (k+1) i)) (fun i zs H' _ _ q=>aU (q.1 _ _ h11)) hb2 ⟨Sb,rfl⟩ (fun i x zs Hc hi hx hc' q=>?_) (fun zs Hc hc' q=>?_)
   ·obtain⟨Sc,rfl⟩:=q
    rw[aW] at hi
    rw[cV hi] at hx
    cases hx
    walk_at"vc"
    have hDD:Dk W k*Dk W k ≠ 0:=Int.mul_ne_zero hD0 hD0
    refine⟨bO bD bD (by decide),Fh hDD ((bD.mul bD).mono (by decide)),?_⟩
    rw[Int.mul_comm (Dk W k*Dk W k) (qk W (k+1) i),Int.mul_fdiv_cancel _ hDD]
    refine .mk hc' ?_ fun H10 B10 h10=>⟨fun b o e=>B10 _ _ (aj e hd) (Sc _ _ e),kD.symm⟩
    rw[aW]
    exact Nat.lt_of_le_of_lt (show i<=20 by walk_at"o") (by decide)
   ·obtain⟨Sc,rfl⟩:=q
    rw[aW] at hc'
    exact h d Hc (S03.trans (Sa.trans Sc)) ((S03.trans Sa).free hd) hc'
  walk_at"vc"
  cases k with
  | zero=>exact io (by decide) go
  | succ m =>
   refine oU (by walk_at"o") ⟨_,S03 _ _ hb,_,AB,?_⟩
   rw[gE]
   exact⟨bO bD1 (bq m) (by decide),_,_,rfl,rfl,go⟩
def nN(G:Hp)(R:Addr)(W:Nat->Int)(n:Nat):Prop:=∃ as:List Addr,G R=some (.lst (as.map V.ref))/\as.length=n /\ ∀ i x,as[i]? = some x->IL G x (i+1) (qk W i)
theorem nN.same{G G':Hp}{R:Addr}{W:Nat->Int}{n:Nat}(h:nN G R W n)(S:ay G G'):nN G' R W n:=by
 obtain⟨as,h1,h2,h3⟩:=h
 exact⟨as,S _ _ h1,h2,fun i x e=>(h3 i x e).same S⟩
theorem Dl{G:Hp}{R x:Addr}{as:List Addr}{n:Nat}{p:Nat->Int}(h:G R=some (.lst (as.map V.ref)))(h0:as ≠ [])(hx:IL G x n p):x ≠ R:=fun e=>by
 unfold IL at hx
 rw[e,h] at hx
 cases as with
 | nil=>exact h0 rfl
 | cons a as =>
  cases n with
  | zero=>cases hx
  | succ n =>
   rw[m5] at hx
   cases hx
theorem oy{α:Type}{xs:List α}{n:Nat}{x:α}(hl:xs.length=n+1)(h:xs[n]? = some x):mL xs (-1)=some x:=eP (by rw[List.getLast?_eq_getElem?,hl];exact h)
theorem Gh{W:Nat->Int}:qk W 0 0=1:=by rw[gh,FA]
def fE(K:W.Frag):Sp:=fun vs H Q _=>∃ (a:Addr)(n:Nat)(W:Nat->Int),vs=[.ref a]/\IL (vw K H) a n W/\n<=12/\(∀ i,Bt 170 (W i)) /\
 ∀ R H' k,ay (vw K H) (vw K H')->nN (vw K H') R W (k+1)->k<=6->(∀ i,i<=k->0<Dk W i/\2*i<=n)->(n<2*(k+1)\/Dk W (k+1)<=0)->Q (.ref R) H'
theorem qW(F:eM K "step_rows" "step_rows" ff f fd) (T:fL K mg)(C_met:aS P w K mg base "met" ["wholes", "row", "k"] 1 (oG K)) (C_next_row:aS P w K mg base "next_row" ["wholes", "row", "before"] 2 (iU K)):bK P w K mg base eI 3 f fd ["wholes"] (fE K):=by
 have scN:=kG.nd
 refine F.okQ kG (fun vs H Q E h=>?_) (fun cdv A outer s H vs Q E hr h=>?_)
 ·obtain⟨_,_,_,rfl,_⟩:=h
  rfl
 ·obtain⟨a,n,W,rfl,ha,hn,bW,h⟩:=h
  refine⟨_,(ae (aC (i:=1) scN rfl (by walk_at"a1") (bC (aa (bC (aa af ac)) ac)))
   (ae (aC (i:=2) scN rfl (by walk_at"a1") (bC ac))
   (ae (gG PassesOwn.never (QW.pt (iD (aQ C4 (ao aH af (au aB (by rfl) T.b_len aV (aa (qv 1) ac))) (au aB (by rfl) T.b_len aV (aa (qv 0) ac)) (aI _)) (gY (aQ mq (ai C_met (hr.mono (by walk_at"a2")) rfl (aa (qv 0) (aa (aA dL (qv 1) (de cn af) (fun _ _=>rfl)) (aa (ao dE (au aB (by rfl) T.b_len aV (aa (qv 1) ac)) af) ac)))) af (aI _))))) (ae (aC (i:=3) scN rfl (by walk_at"a1") (ai C_next_row (hr.mono (by walk_at"a2")) rfl (aa (qv 0) (aa (aA dL (qv 1) (de cn af) (fun _ _=>rfl)) (aa (qv 2) ac)))))
   (ae (aC (i:=2) scN rfl (by walk_at"a1") (aA dL (qv 1) (de cn af) (fun _ _=>rfl)))
   (ah (jD (pF PySem.F.plainAttrs_list PySem.F.slot_list_append PySem.F.type_list_append fR (qv 1) (aa (qv 3) ac)))))))
   (ah (ap (qv 1)))))),?_⟩
  walk_at"m"
  have bW':∀ i,Bt 2000 (W i):=fun i=>(bW i).mono (by decide)
  refine aR.gen fun N1 hN1=>?_
  walk_at"vc"
  refine⟨by decide,fun r0 H1 hr0 S1 h1=>⟨by decide,fun R H2 hR S2 h2=>hN1 _ _ ?_⟩⟩
  refine aR.gen fun N2 hN2=>?_
  walk_at"vc"
  refine⟨Nat.zero_le _,fun bf H3 hbf S3 h3=>hN2 _ _ ?_⟩
  refine aR.gen fun N3 hN3=>?_
  have S03:=S1.trans (S2.trans S3)
  have hR0:vw K H R=none:=S1.free hR
  refine⟨fun m σ H'=>∃ (bf:Addr)(k:Nat)(o:Option V),m=20 - k/\k<=6/\σ=[some (.ref a),some (.ref R),some (.ref bf),o]/\ay (vw K H) (vw K H')/\nN (vw K H') R W (k+1)/\IL (vw K H') bf (su k) (lB W k) /\ ∀ i,i<=k->0<Dk W i/\2*i<=n,⟨20,bf,0,none,rfl,by decide,rfl,S03,⟨[r0],S3 _ _ h2,rfl,fun i x e=>?_⟩,h3,fun i hi=>?_⟩,?_⟩
  ·cases i with
   | zero =>
    cases e
    show vw K H3 r0=some (.lst (lz 1 fun i=>V.int (qk W 0 i)))
    rw[(S2.trans S3) _ _ h1,m5,Gh]
    rfl
   | succ i=>simp at e
  ·have:i=0:=by walk_at"o"
   rw[this,FA]
   exact⟨by decide,by walk_at"o"⟩
  rintro m σ H4 ⟨bf,k,o,rfl,hk,rfl,S4,rw4,b4,hD⟩
  obtain⟨as,hR4,las,has⟩:=id rw4
  have h0:as ≠ []:=fun z=>by rw[z] at las;cases las
  obtain⟨x,hx⟩ : ∃ x,as[k]? = some x:=⟨as[k],List.getElem?_eq_getElem (by walk_at"o")⟩
  have lx:=has k x hx
  have hx':mL (as.map V.ref) (-1)=some (.ref x):=oy (n:=k) (by rw[List.length_map,las]) (by rw[List.getElem?_map,hx];rfl)
  have done:n<2*(k+1)\/Dk W (k+1)<=0 -> ∀ H5,ay (vw K H4) (vw K H5)->N3 [some (.ref a),some (.ref R),some (.ref bf),o] H5:=fun hd H5 S5=>by
   refine hN3 _ _ ?_
   walk_at"vc"
   exact h R H5 k (S4.trans S5) (rw4.same S5) hk hD hd
  have lR:fz (vw K H4) R=some (k+1):=by
   simp only[fz,hR4]
   rw[List.length_map,las]
  walk_at"vc"
  refine⟨k+1,lR,jv (by decide),n,(ha.same S4).len,ce (fun e1=>⟨_,hR4,_,hx',k+1,lR,?_⟩) (fun e1=>done (.inl (by walk_at"o")) H4 (fun _ _ z=>z))⟩
  rw[show (((k+1:Nat):Int) - 1)=(k:Int) by walk_at"o"]
  have bq':∀ i,Bt 2000 (qk W k i):=fun i=>(zy bW (by walk_at"o")).mono (by decide)
  refine⟨a,x,n,k+1,k,W,qk W k,rfl,ha.same S4,lx,by walk_at"o",by walk_at"o",bW',bq',fun H5 S5=>⟨_,rfl,?_⟩⟩
  rw[ni,fP]
  refine ce (fun e2=>⟨_,fun σ' H' z=>z,_,S5 _ _ hR4,_,hx',?_⟩) (fun e2=>done (.inr (by walk_at"o")) H5 S5)
  have hn2:2*(k+1)<=n:=by walk_at"o"
  have S45:=S4.trans S5
  refine⟨a,x,bf,n,k,W,rfl,ha.same S45,lx.same S5,b4.same S5,hn2,by walk_at"o",bW,fun i hi=>?_,fun d H6 S6 hd l6=>?_⟩
  ·by_cases z:i<=k
   ·exact (hD i z).1
   ·rw[show i=k+1 by walk_at"o"]
    exact e2
  have S46:=S5.trans S6
  refine⟨_,S46 _ _ hR4,_,hx',kg (S46 _ _ hR4),_,S46 _ _ hR4,?_,fun H7 B7 h7=>⟨20 - (k+1),by walk_at"o",x,k+1,rfl,by walk_at"o",⟨_,rfl⟩,fun y o e=>B7 _ _ (aj e hR0) (S46 _ _ (S4 _ _ e)),⟨as ++ [d],?_,by rw[List.length_append,las];rfl,fun i y e=>?_⟩,?_,fun i hi=>?_⟩⟩
  ·rw[List.length_map,las]
   exact Nat.lt_of_le_of_lt (show _<=20 by walk_at"o") (by decide)
  ·rw[h7,List.map_append]
   rfl
  ·have l7:IL (vw K H6) y (i+1) (qk W i):=by
    by_cases z:i<as.length
    ·rw[List.getElem?_append_left z] at e
     exact (has i y e).same S46
    ·rw[List.getElem?_append_right (by walk_at"o")] at e
     have:i=k+1:=by
      have h1:=(List.getElem?_eq_some_iff.mp e).1
      simp at h1
      walk_at"o"
     rw[this,las,Nat.sub_self] at e
     cases e
     rw[this]
     exact l6
   exact B7 _ _ (Dl (S46 _ _ hR4) h0 l7) l7
  ·exact B7 _ _ (Dl (S46 _ _ hR4) h0 (lx.same S46)) (lx.same S46)
  ·by_cases z:i<=k
   ·exact hD i z
   ·rw[show i=k+1 by walk_at"o"]
    exact⟨e2,by walk_at"o"⟩
structure gg (W:Nat->Int)(B:Int)(k:Nat)(c:List (Int × Int) × (Int × Int)):Prop where
 po:aL c.1
 num:∀ j,cf c.1 j=((qk W k j:Int):Rat) / ((Dk W k:Int):Rat)
 fq:Fq c.2
 sqv:wv c.2=((Dk W (k+1):Int):Rat) / ((Dk W k*B:Int):Rat)
def kL(G:Hp)(t:Addr)(pss:List (List (Int × Int) × (Int × Int)))(Pr:Addr->Prop):Prop:=∃ xs,G t=some (.lst xs)/\xs.length=pss.length /\ ∀ (k:Nat) c,pss[k]? = some c -> ∃ (x l:Addr)(v:V),xs[k]? = some (.ref x)/\G x=some (.tup [.ref l,v])/\aM G l c.1/\aJ G (fr c.2) v/\Pr l
structure m4 (qs:List (Int × Int))(W:Nat->Int)(B:Int):Prop where
 pos:0<B
 val:∀ i,((W i:Int):Rat)=cf qs i*(B:Rat)
 least:∀ E:Int,(∀ q ∈ qs,q.2 ∣ E)->B ∣ E
 bt:∀ i,Bt 170 (W i)
theorem m4.dvd{qs:List (Int × Int)}{W:Nat->Int}{B:Int}(h:m4 qs W B)(hF:∀ q ∈ qs,Fq q):∀ q ∈ qs,q.2 ∣ B:=fun q hq=>by
 obtain⟨i,hi,rfl⟩:=List.getElem_of_mem hq
 have e:=h.val i
 rw[bJ (List.getElem?_eq_getElem hi)] at e
 have c1:(B:Rat) ≠ 0:=ar (by have:=h.pos;walk_at"o")
 exact oN (n:=W i) (hF _ hq) (by have:=h.pos;walk_at"o") (by rw[e];grind)
theorem m4.uniq{qs:List (Int × Int)}{W W':Nat->Int}{B B':Int}(h:m4 qs W B)(h':m4 qs W' B')(hF:∀ q ∈ qs,Fq q):B=B'/\W=W':=by
 have e:B=B':=Int.dvd_antisymm (Int.le_of_lt h.pos) (Int.le_of_lt h'.pos) (h.least _ (h'.dvd hF)) (h'.least _ (h.dvd hF))
 refine⟨e,funext fun i=>?_⟩
 have:=h.val i
 rw[e,<- h'.val i] at this
 exact Rat.intCast_inj.mp this
theorem kL.same{G G':Hp}{t:Addr}{pss:List (List (Int × Int) × (Int × Int))}{Pr:Addr->Prop}(h:kL G t pss Pr)(S:ay G G'):kL G' t pss Pr:=by
 obtain⟨xs,h1,h2,h3⟩:=h
 refine⟨xs,S _ _ h1,h2,fun k c e=>?_⟩
 obtain⟨x,l,v,e1,e2,e3,e4,e5⟩:=h3 k c e
 exact⟨x,l,v,e1,S _ _ e2,e3.same S,aJ.same S _ _ e4,e5⟩
structure pc (W:Nat->Int)(n M:Nat):Prop where
 one:1<=M
 up:∀ i,i<M->0<Dk W i
 most:2*M<=n+1
 all:n<=2*M\/Dk W M<=0
def kR(K:W.Frag):Sp:=fun vs H Q _=>∃ (a:Addr)(qs:List (Int × Int)),vs=[.ref a]/\aM (vw K H) a qs/\1<=qs.length/\qs.length<=11/\(∀ q ∈ qs,iB q) /\
 ∀ (t:Addr) H' W B pss,ay (vw K H) (vw K H')->vw K H t=none->m4 qs W B->pc W qs.length pss.length->kL (vw K H') t pss (fun l=>vw K H l=none/\l ≠ t)->(∀ k c,pss[k]? = some c->gg W B k c)->Q (.ref t) H'
theorem yV(F:eM K "steps" "steps" jo f fd) (T:fL K mg)(C_cleared:aS P w K mg base "cleared" ["f"] 2 (aP K)) (C_step_rows:aS P w K mg base "step_rows" ["wholes"] 3 (fE K)) (C_divided:aS P w K mg base "divided" ["wholes", "bottom"] 3 (cz K)) (C_ratio:aS P w K mg base "ratio" ["top", "bottom"] 2 (cS K)) (C_met:aS P w K mg base "met" ["wholes", "row", "k"] 1 (oG K)):bK P w K mg base eI 4 f fd ["sums"] (kR K):=by
 have scN:=tF.nd
 refine F.okQ tF (fun vs H Q E h=>?_) (fun cdv A outer s H vs Q E hr h=>?_)
 ·obtain⟨_,_,rfl,_⟩:=h
  rfl
 ·obtain⟨a,qs,rfl,ha,n1,n2,hq,h⟩:=h
  refine⟨_,(ae (cM (ai C_cleared (hr.mono (by walk_at"a2")) rfl (aa (qv 0) ac)) (aX (n:=2) rfl (am (ak (i:=1) scN rfl (by walk_at"a1")) (am (ak (i:=2) scN rfl (by walk_at"a1")) aY))))
   (ae (aC (i:=3) scN rfl (by walk_at"a1") (bC ac))
   (ae (cT PassesOwn.never rfl (jI rfl T.b_enumerate (aa (ai C_step_rows (hr.mono (by walk_at"a2")) rfl (aa (qv 1) ac)) ac)) (aX (n:=2) rfl (am (ak (i:=4) scN rfl (by walk_at"a1")) (am (ak (i:=5) scN rfl (by walk_at"a1")) aY))) (ah (cc (aQ mv (ao aH af (qv 4)) (au aB (by rfl) T.b_len aV (aa (qv 0) ac)) (aI _)) (ah (jD (pF PySem.F.plainAttrs_list PySem.F.slot_list_append PySem.F.type_list_append fR (qv 3) (aa (bQ (aa (ai C_divided (hr.mono (by walk_at"a2")) rfl (aa (qv 5) (aa (aA dL (qv 5) (de cn af) (fun _ _=>rfl)) ac))) (aa (ai C_ratio (hr.mono (by walk_at"a2")) rfl (aa (ai C_met (hr.mono (by walk_at"a2")) rfl (aa (qv 1) (aa (qv 5) (aa (qv 4) ac)))) (aa (ao aH (aA dL (qv 5) (de cn af) (fun _ _=>rfl)) (qv 2)) ac))) ac))) ac)))) aN)))
   (ah (ap (qv 3)))))),?_⟩
  walk_at"m"
  have hF:∀ q ∈ qs,Fq q:=fun q z=>(hq q z).1
  refine aR.gen fun N1 hN1=>?_
  walk_at"vc"
  simp only[aP]
  refine⟨a,qs,131,rfl,ha,by walk_at"o",by decide,fun q z=>⟨(hq q z).1,(hq q z).2.1⟩,fun p b H1 B ns S1 h1 hb nb hB _ ln hn hm=>⟨p,rfl,_,h1,rfl,_,_,rfl,_,_,rfl,rfl,hN1 _ _ ?_⟩⟩
  have hc2:=gJ (ua hq) hF hB hm ln fun i n q e1 e2=>(hn i n q e1 e2).1
  have clr:m4 qs (nz ns) B:=⟨hB,fI ln fun i n q e1 e2=>(hn i n q e1 e2).1,hm,i8 hc2.2⟩
  have lb:IL (vw K H1) b qs.length (nz ns):=by
   unfold IL
   rw[hb]
   congr 2
   exact oV (by rw[List.length_map,ln]) fun i hi=>by
    have hi':i<ns.length:=by walk_at"o"
    rw[List.getElem?_map,List.getElem?_eq_getElem hi',cp (List.getElem?_eq_getElem hi')]
    rfl
  refine aR.gen fun N2 hN2=>?_
  walk_at"vc"
  refine⟨Nat.zero_le _,fun t H2 ht S2 h2=>hN2 _ _ ?_⟩
  refine aR.gen fun N3 hN3=>?_
  walk_at"vc"
  simp only[mC]
  walk_at"vc"
  refine⟨b,qs.length,nz ns,rfl,lb.same S2,by walk_at"o",clr.bt,fun R H3 k S3 rw3 hk hD hend=>?_⟩
  walk_at"vc"
  obtain⟨as,hR,las,has⟩:=id rw3
  obtain⟨W,hW⟩ : ∃ W,W=nz ns:=⟨_,rfl⟩
  rw[<- hW] at clr lb hD hend has
  have h23:=S3 _ _ h2
  have S03:=S1.trans (S2.trans S3)
  have ht0:vw K H t=none:=S1.free ht
  have nR:R ≠ t:=fun z=>by
   rw[z,h23] at hR
   cases as with
   | nil=>cases las
   | cons x as=>cases hR
  have nx:∀ i x,as[i]? = some x->x ≠ t:=fun i x e z=>by
   have:=has i x e
   unfold IL at this
   rw[z,h23,m5] at this
   cases this
  have bD:∀ i,i<=6->Bt 1046 (Dk W i):=fun i hi=>(pG clr.bt hi).mono (by decide)
  have bB:Bt 170 B:=hc2.1
  obtain⟨Pv,hPv⟩ : ∃ Pv:Nat->St->Hp->Prop,∀ i σ H',Pv i σ H' ↔ ∃ (o4 o5:Option V)(pss:List (List (Int × Int) × (Int × Int))),σ=[some (.ref a),some (.ref b),some (.int B),some (.ref t),o4,o5]/\iT t (vw K H3) (vw K H')/\kL (vw K H') t pss (fun l=>vw K H l=none/\l ≠ t)/\pss.length=min i ((qs.length+1) / 2) /\ ∀ k c,pss[k]? = some c->gg W B k c:=⟨_,fun _ _ _=>Iff.rfl⟩
  refine⟨⟨_,hR⟩,iV (rows:=(as.map V.ref).mapIdx fun i x=>[V.int i,x]) Pv (fun i σ H' _ q=>?_) ((hPv _ _ _).mpr ⟨_,_,[],rfl,fun _ _ _ z=>z,⟨[],h23,rfl,fun k c e=>by simp at e⟩,by simp,fun k c e=>by simp at e⟩) (fun i r σ H4 q H5 hi hr pv hq S5 h5=>?_) (fun σ H4 pv=>?_)⟩
  ·obtain⟨_,_,_,_,B',_⟩:=(hPv _ _ _).mp q
   exact⟨_,aF (B' _ _ nR hR),rfl⟩
  ·obtain⟨o4,o5,pss,rfl,B4,st4,lp,ok4⟩:=(hPv _ _ _).mp pv
   rw[List.length_mapIdx,List.length_map,las] at hi
   have hia:i<as.length:=by walk_at"o"
   rw[List.getElem?_mapIdx,List.getElem?_map,List.getElem?_eq_getElem hia] at hr
   cases hr
   obtain⟨x,hx⟩ : ∃ x,as[i]? = some x:=⟨_,List.getElem?_eq_getElem hia⟩
   have ex:as[i]=x:=by
    rw[List.getElem?_eq_getElem hia] at hx
    exact Option.some.inj hx
   have B5:iT t (vw K H3) (vw K H5):=B4.same_trans S5
   have lx:IL (vw K H5) x (i+1) (qk W i):=B5 _ _ (nx i x hx) (has i x hx)
   have S05:ay (vw K H) (vw K H5):=fun y o e=>B5 _ _ (aj e ht0) (S03 _ _ e)
   have lb5:IL (vw K H5) b qs.length W:=B5 _ _ (aj lb ht) ((S2.trans S3) _ _ lb)
   have st5:=st4.same S5
   walk_at"vc"
   refine⟨_,h5,rfl,_,_,rfl,_,_,rfl,rfl,?_⟩
   rw[gE,ex]
   refine⟨jv (by decide),_,(ha.same S05).len,_,rfl,ce (fun e1=>?_) (fun e1=>?_)⟩
   ·obtain⟨xs,hxs,lxs,hxs'⟩:=id st5
    have lpi:pss.length=i:=by walk_at"o"
    have hDi:=hD i (by walk_at"o")
    have dn:Dk W i ≠ 0:=by walk_at"o"
    have dB:Dk W i*B ≠ 0:=Int.mul_ne_zero dn (by walk_at"o")
    have eN:lz (i+1) (fun j=>V.int (qk W i j))=(lz (i+1) fun j=>qk W i j).map V.int:=by rw[rf]
    refine⟨kg hxs,x,rfl,_,lx,_,mT,?_⟩
    rw[gh]
    refine⟨x,lz (i+1) fun j=>qk W i j,Dk W i,rfl,by rw[<- eN];exact lx,by rw[aW];walk_at"o",dn,(bD i (by walk_at"o")).mono (by decide),fun c H6 rs S6 lc nc po cf6 _ _=>?_⟩
    have bq':∀ j,Bt 2000 (qk W i j):=fun j=>(qc clr.bt (by walk_at"o")).mono (by decide)
    refine⟨b,x,qs.length,i+1,i,W,qk W i,rfl,lb5.same S6,lx.same S6,by walk_at"o",by walk_at"o",fun j=>(clr.bt j).mono (by decide),bq',fun H7 S7=>⟨x,rfl,_,(S6.trans S7) _ _ lx,_,mT,?_⟩⟩
    rw[ni,fP,gh,gE]
    refine⟨bO (bD i (by walk_at"o")) bB (by decide),Dk W (i+1),Dk W i*B,rfl,dB,((bD i (by walk_at"o")).mul bB).mono (by decide),fun v H8 S8 r8=>⟨by decide,fun y H9 hy S9 h9=>?_⟩⟩
    have S59:=S6.trans (S7.trans (S8.trans S9))
    refine⟨xs,S59 _ _ hxs,?_,fun Ha Ba ha2=>?_⟩
    ·rw[lxs,lpi]
     exact Nat.lt_of_le_of_lt (show i<=20 by walk_at"o") (by decide)
    have nct:c ≠ t:=fun z=>by
     rw[z,hxs] at nc
     cases nc
    have hxs9:=S59 _ _ hxs
    refine (hPv _ _ _).mpr ⟨_,_,pss ++ [(rs,lo (Dk W (i+1)) (Dk W i*B))],rfl,(B5.same_trans S59).trans Ba,⟨_,ha2,by rw[List.length_append,List.length_append,lxs];rfl,fun m d e=>?_⟩,by rw[List.length_append,lpi];simp;walk_at"o",fun m d e=>?_⟩
    ·by_cases z:m<pss.length
     ·rw[List.getElem?_append_left z] at e
      obtain⟨x',l,v',e1',e2',e3',e4',e5'⟩:=hxs' m d e
      have e2s:=S59 _ _ e2'
      refine⟨x',l,v',by rw[List.getElem?_append_left (by walk_at"o")];exact e1',Ba _ _ (fun z=>by rw[z,hxs9] at e2s;cases e2s) e2s,(e3'.same S59).but hxs9 e5'.2 Ba,aJ.flat_but hxs9 Ba _ _ (cr _) (aJ.same S59 _ _ e4'),e5'⟩
     ·rw[List.getElem?_append_right (by walk_at"o")] at e
      have hm0:m - pss.length=0:=by
       have:=(List.getElem?_eq_some_iff.mp e).1
       simp at this
       walk_at"o"
      rw[hm0] at e
      cases e
      refine⟨y,c,v,by rw[List.getElem?_append_right (by walk_at"o"),lxs,hm0];rfl,Ba _ _ (fun z=>by rw[z,hxs9] at h9;cases h9) h9,(lc.same (S7.trans (S8.trans S9))).but hxs9 nct Ba,aJ.flat_but hxs9 Ba _ _ (cr _) (aJ.same S9 _ _ r8),S05.free nc,nct⟩
    ·by_cases z:m<pss.length
     ·rw[List.getElem?_append_left z] at e
      exact ok4 m d e
     ·rw[List.getElem?_append_right (by walk_at"o")] at e
      have hm0:m - pss.length=0:=by
       have:=(List.getElem?_eq_some_iff.mp e).1
       simp at this
       walk_at"o"
      rw[hm0] at e
      cases e
      rw[show m=i by walk_at"o"]
      refine⟨po,fun j=>?_,ir dB,ii dB⟩
      rw[cf6 j]
      congr 2
      by_cases z2:j<i+1
      ·rw[cp (cV z2)]
      ·rw[cF (by rw[aW];walk_at"o"),fD (by walk_at"o")]
   ·exact (hPv _ _ _).mpr ⟨_,_,pss,rfl,B5,st5,by walk_at"o",ok4⟩
  ·obtain⟨o4,o5,pss,rfl,B4,st4,lp,ok4⟩:=(hPv _ _ _).mp pv
   rw[List.length_mapIdx,List.length_map,las] at lp
   refine hN3 _ _ ?_
   walk_at"vc"
   refine h t H4 W B pss (fun y o e=>B4 _ _ (aj e ht0) (S03 _ _ e)) ht0 clr ⟨by walk_at"o",fun i hi=>(hD i (by walk_at"o")).1,by walk_at"o",?_⟩ st4 ok4
   by_cases z:(qs.length+1) / 2<=k+1
   ·exact .inl (by walk_at"o")
   ·rcases hend with y|y
    ·exact .inl (by walk_at"o")
    ·right
     rw[show pss.length=k+1 by walk_at"o"]
     exact y
def gf(K:W.Frag):Sp:=fun vs H Q _=>∃ (a b:Addr)(qs fs:List (Int × Int)),vs=[.ref a,.ref b]/\aM (vw K H) a qs/\aM (vw K H) b fs/\fs.length<=qs.length/\qs.length<=12/\fs.length<=12/\(∀ q ∈ qs,Fq q/\Bq 131 q)/\(∀ q ∈ fs,Fq q/\Bq 290000 q) /\
 ∀ v H' r,ay (vw K H) (vw K H')->aJ (vw K H') (fr r) v->Fq r->wv r=aG (cf fs) (cf qs) fs.length->Q v H'
theorem Az(F:eM K "worth" "worth" jB f fd) (T:fL K mg)(C_cleared:aS P w K mg base "cleared" ["f"] 2 (aP K)) (C_ratio:aS P w K mg base "ratio" ["top", "bottom"] 2 (cS K)):bK P w K mg base eI 3 f fd ["sums", "f"] (gf K):=by
 have scN:=sM.nd
 refine F.okQ sM (fun vs H Q E h=>?_) (fun cdv A outer s H vs Q E hr h=>?_)
 ·obtain⟨a,_,_,_,rfl,_⟩:=h
  rfl
 ·obtain⟨a,b,qs,fs,rfl,ha,hb,lf,lq,lf6,hq,hf,h⟩:=h
  refine⟨_,(ae (cc (aQ mq (au aB (by rfl) T.b_len aV (aa (qv 1) ac)) (au aB (by rfl) T.b_len aV (aa (qv 0) ac)) (aI _)) (ah nY) aN)
   (ae (cM (ai C_cleared (hr.mono (by walk_at"a2")) rfl (aa (qv 1) ac)) (aX (n:=2) rfl (am (ak (i:=2) scN rfl (by walk_at"a1")) (am (ak (i:=3) scN rfl (by walk_at"a1")) aY))))
   (ae (cM (ai C_cleared (hr.mono (by walk_at"a2")) rfl (aa (cR fB (qv 0) dZ (dU (au aB (by rfl) T.b_len aV (aa (qv 1) ac)))) ac)) (aX (n:=2) rfl (am (ak (i:=4) scN rfl (by walk_at"a1")) (am (ak (i:=5) scN rfl (by walk_at"a1")) aY))))
   (ah (ap (ai C_ratio (hr.mono (by walk_at"a2")) rfl (aa (au (pE rfl) (by rfl) T.b_sum zO (aa (dF (own:=["number", "whole"]) (outs:=[]) (ixs:=[]) rfl (uP rfl T.b_zip (aa (qv 2) (aa (qv 4) ac))) rfl ⟨rfl,rfl,rfl,trivial,rfl,trivial⟩ (fun _ _ _ _=>⟨(show QG _ _ (i6 K 2 _) from aX (n:=2) rfl (am (ak (i:=0) (show (["number", "whole"]:List Str).Nodup by decide +kernel) rfl (by walk_at"a1")) (am (ak (i:=1) (show (["number", "whole"]:List Str).Nodup by decide +kernel) rfl (by walk_at"a1")) aY))),dg,(ao (show eK _ _ (gK K) from aH) (qv 0) (qv 1))⟩)) ac)) (aa (ao aH (qv 3) (qv 5)) ac)))))))),?_⟩
  walk_at"m"
  walk_at"vc"
  refine⟨_,hb.len,_,ha.len,?_⟩
  refine io (by walk_at"o") ?_
  walk_at"vc"
  simp only[aP]
  walk_at"vc"
  refine⟨fs,hb,by walk_at"o",290000,by decide,hf,fun p1 a1 H1 D1 ms S1 h1 ha1 _ hD1 bD1 lm hm _=>⟨_,h1,rfl,?_⟩⟩
  walk_at"vc"
  obtain⟨xs,hxs,rxs⟩:=id (ha.same S1)
  have hlx:xs.length=qs.length:=by rw[rxs.length,List.length_map]
  refine⟨_,(hb.same S1).len,xs,hxs,fun p2 H2 hp2 S2 h2=>?_⟩
  rw[qD (by walk_at"o")] at h2
  have lt:aM (vw K H2) p2 (qs.take fs.length):=⟨_,h2,by rw[List.map_take];exact (rxs.take _).same S2⟩
  walk_at"vc"
  have lt':(qs.take fs.length).length=fs.length:=by rw[List.length_take];walk_at"o"
  refine⟨_,lt,by walk_at"o",131,by decide,fun q z=>hq q (List.mem_of_mem_take z),fun p3 a3 H3 D2 ns S3 h3 ha3 _ hD2 bD2 ln hn _=>⟨_,h3,rfl,_,_,rfl,_,_,rfl,rfl,?_⟩⟩
  rw[lt'] at bD2 ln hn
  have ha13:=(S2.trans S3) _ _ ha1
  walk_at"vc"
  simp only[yC]
  walk_at"vc"
  refine⟨true,⟨_,ha13⟩,true,⟨_,ha3⟩,fun c H4 hc4 S4 h4=>?_⟩
  have ez:List.zipWith (· * ·) ms ns=lz fs.length fun i=>nz ms i*nz ns i:=by
   refine List.ext_getElem? fun i=>?_
   by_cases hi:i<fs.length
   ·have h1:i<ms.length:=by walk_at"o"
    have h2:i<ns.length:=by walk_at"o"
    rw[cV hi,List.getElem?_zipWith,List.getElem?_eq_getElem h1,List.getElem?_eq_getElem h2,cp (List.getElem?_eq_getElem h1),cp (List.getElem?_eq_getElem h2)]
   ·rw[List.getElem?_eq_none (by rw[List.length_zipWith];walk_at"o"),List.getElem?_eq_none (by rw[aW];walk_at"o")]
  refine lW (ps:=(ms.map V.int).zip (ns.map V.int)) (fun i zs H'=>ay (vw K H3) (vw K H')/\zs=((List.zipWith (· * ·) ms ns).take i).map V.int) (fun i zs H' _ _ p=>⟨_,_,p.1 _ _ ha13,p.1 _ _ ha3,oH.symm⟩) h4 ⟨S4,rfl⟩ (fun i u v zs H8 H9 hi huv h9 p S89=>?_) (fun zs H8 h8 p=>?_)
  ·obtain⟨S8,rfl⟩:=p
   rw[List.getElem?_zip_eq_some,List.getElem?_map,List.getElem?_map] at huv
   have li:i<ms.length/\i<ns.length:=by
    simp at hi
    walk_at"o"
   rw[List.getElem?_eq_getElem li.1,List.getElem?_eq_getElem li.2] at huv
   obtain⟨e1,e2⟩:=huv
   cases e1
   cases e2
   have w1:=(hm i _ _ (List.getElem?_eq_getElem li.1) (List.getElem?_eq_getElem (show i<fs.length by walk_at"o"))).2
   have w2:=(hn i _ _ (List.getElem?_eq_getElem li.2) (List.getElem?_eq_getElem (show i<(qs.take fs.length).length by walk_at"o"))).2
   walk_at"vc"
   refine⟨bO w1 w2 (by walk_at"o"),.mk2 h9 ?_ fun H10 B10 h10=>⟨fun b o e=>B10 _ _ (aj e hc4) (S89 _ _ (S8 _ _ e)),?_⟩⟩
   ·rw[List.length_map,List.length_take]
    have:1000<=sizeLine:=by decide
    walk_at"o"
   ·rw[List.take_add_one,List.getElem?_zipWith,List.getElem?_eq_getElem li.1,List.getElem?_eq_getElem li.2,List.map_append]
    rfl
  ·obtain⟨S8,rfl⟩:=p
   have lz1:(List.zipWith (· * ·) ms ns).length=fs.length:=by
    rw[List.length_zipWith,lm,ln]
    walk_at"o"
   have lz2:((ms.map V.int).zip (ns.map V.int)).length=fs.length:=by
    rw[List.length_zip,List.length_map,List.length_map,lm,ln]
    walk_at"o"
   rw[lz2,<- lz1,List.take_length] at h8
   have hD:D1*D2 ≠ 0:=by have:=Int.mul_pos hD1 hD2;walk_at"o"
   refine⟨_,h8,?_⟩
   walk_at"vc"
   simp only[cS]
   walk_at"vc"
   refine⟨bO bD1 bD2 (by walk_at"o"),hD,(bD1.mul bD2).mono (by walk_at"o"),fun v H9 S9 r9=>h v H9 _ (S1.trans (S2.trans (S3.trans (S8.trans S9)))) r9 (ir hD) ?_⟩
   rw[ii hD,ez,zx (F:=cf fs) (G:=cf (qs.take fs.length)) (c:=(D1:Rat)) (d:=(D2:Rat)) (fI lm fun i n q e1 e2=>(hm i n q e1 e2).1) (fI (by walk_at"o") fun i n q e1 e2=>(hn i n q e1 e2).1),Rat.intCast_mul]
   have n1:(D1:Rat) ≠ 0:=ar (by walk_at"o")
   have n2:(D2:Rat) ≠ 0:=ar (by walk_at"o")
   rw[bI fs.length (fun i _=>rfl) fun i hi=>yN hi]
   grind
theorem gg.one{W:Nat->Int}{B:Int}{k:Nat}{c:List (Int × Int) × (Int × Int)}(h:gg W B k c)(hD:Dk W k ≠ 0):cf c.1 k=1:=by
 have cD:((Dk W k:Int):Rat) ≠ 0:=ar hD
 rw[h.num,gh]
 grind
theorem gg.out{W:Nat->Int}{B:Int}{k:Nat}{c:List (Int × Int) × (Int × Int)}(h:gg W B k c) {j:Nat}(hj:k<j):cf c.1 j=0:=by
 have z:((0:Int):Rat)=0:=rfl
 rw[h.num,fD hj,z]
 grind
theorem gg.len{W:Nat->Int}{B:Int}{k:Nat}{c:List (Int × Int) × (Int × Int)}(h:gg W B k c)(hD:Dk W k ≠ 0):c.1.length=k+1:=by
 have h1:=j9 h.po (m:=k+1) fun j hj=>h.out (by walk_at"o")
 have h2:k<c.1.length:=Nat.lt_of_not_le fun z=>by
  have e:=h.one hD
  rw[cC z] at e
  exact absurd e (by decide)
 walk_at"o"
theorem tQ{ps:List (Int × Int)}(h:aL ps):(D.lst (ps.map fr)).poly=true:=BF h.1 h.2
def ei(K:W.Frag):Sp:=fun vs H Q _=>∃ (a:Addr)(qs:List (Int × Int)),vs=[.ref a]/\aM (vw K H) a qs/\1<=qs.length/\qs.length<=12/\(∀ q ∈ qs,iB q) /\
 ∀ (d:Addr) H' W B rs k,ay (vw K H) (vw K H')->vw K H d=none->m4 qs W B->aM (vw K H') d rs->aL rs->k<=6->(∀ i,i<=k->0<Dk W i/\2*i<=qs.length)->(qs.length<2*(k+1)\/Dk W (k+1)<=0)->(∀ j,cf rs j=((qk W k j:Int):Rat) / ((Dk W k:Int):Rat))->Q (.ref d) H'
theorem lK(F:eM K "furthest_step" "furthest_step" cG f fd) (T:fL K mg)(C_cleared:aS P w K mg base "cleared" ["f"] 2 (aP K)) (C_step_rows:aS P w K mg base "step_rows" ["wholes"] 3 (fE K)) (C_divided:aS P w K mg base "divided" ["wholes", "bottom"] 3 (cz K)):bK P w K mg base eI 4 f fd ["sums"] (ei K):=by
 have scN:=ie.nd
 refine F.okQ ie (fun vs H Q E h=>?_) (fun cdv A outer s H vs Q E hr h=>?_)
 ·obtain⟨_,_,rfl,_⟩:=h
  rfl
 ·obtain⟨a,qs,rfl,ha,l1,l11,sq,h⟩:=h
  refine⟨_,(ae (aC (i:=1) scN rfl (by walk_at"a1") (aA dL (ai C_step_rows (hr.mono (by walk_at"a2")) rfl (aa (aA b9 (ai C_cleared (hr.mono (by walk_at"a2")) rfl (aa (qv 0) ac)) af (fun _ _=>rfl)) ac)) (de cn af) (fun _ _=>rfl)))
   (ah (ap (ai C_divided (hr.mono (by walk_at"a2")) rfl (aa (qv 1) (aa (aA dL (qv 1) (de cn af) (fun _ _=>rfl)) ac)))))),?_⟩
  walk_at"m"
  skip
  walk_at"vc"
  have hF:∀ q ∈ qs,Fq q:=fun q z=>(sq q z).1
  simp only[aP]
  refine⟨a,qs,131,rfl,ha,by walk_at"o",by decide,fun q z=>⟨(sq q z).1,(sq q z).2.1⟩,fun p b H1 B ns S1 h1 hb nb hB _ ln hn hm=>⟨p,rfl,_,h1,_,rfl,?_⟩⟩
  have hc2:=gJ (ua sq) hF hB hm ln fun i n q e1 e2=>(hn i n q e1 e2).1
  have clr:m4 qs (nz ns) B:=⟨hB,fI ln fun i n q e1 e2=>(hn i n q e1 e2).1,hm,i8 hc2.2⟩
  have lb:IL (vw K H1) b qs.length (nz ns):=by
   unfold IL
   rw[hb]
   congr 2
   exact oV (by rw[List.length_map,ln]) fun i hi=>by
    have hi':i<ns.length:=by walk_at"o"
    rw[List.getElem?_map,List.getElem?_eq_getElem hi',cp (List.getElem?_eq_getElem hi')]
    rfl
  simp only[fE]
  refine⟨b,qs.length,nz ns,rfl,lb,l11,clr.bt,fun R H3 k S3 rw3 hk hD hend=>?_⟩
  obtain⟨as,hR,las,has⟩:=id rw3
  obtain⟨W,hW⟩ : ∃ W,W=nz ns:=⟨_,rfl⟩
  rw[<- hW] at clr lb hD hend has
  obtain⟨x,hx⟩ : ∃ x,as[k]? = some x:=⟨_,List.getElem?_eq_getElem (by walk_at"o")⟩
  have lx:=has k x hx
  have xl:(as.map V.ref).getLast? = some (.ref x):=by
   rw[List.getLast?_eq_getElem?,List.length_map,las,List.getElem?_map,show k+1 - 1=k by walk_at"o",hx]
   rfl
  have hDk:=(hD k (Nat.le_refl _)).1
  have dn:Dk W k ≠ 0:=by walk_at"o"
  have eN:lz (k+1) (fun j=>V.int (qk W k j))=(lz (k+1) fun j=>qk W k j).map V.int:=by rw[rf]
  refine⟨R,rfl,_,hR,_,eP xl,x,rfl,_,lx,_,mT,?_⟩
  rw[gh]
  simp only[cz]
  refine⟨x,lz (k+1) fun j=>qk W k j,Dk W k,rfl,by rw[<- eN];exact lx,by rw[aW];walk_at"o",dn,((pG clr.bt (by walk_at"o")).mono (by decide:_<=1046)).mono (by decide),fun c H6 rs S6 lc nc po cf6 _ _=>?_⟩
  have S06:=S1.trans (S3.trans S6)
  refine h c H6 W B rs k S06 ((S1.trans S3).none nc) clr lc po hk hD hend (fun j=>?_)
  rw[cf6 j]
  by_cases hj:j<k+1
  ·rw[uW hj]
  ·rw[cF (by rw[aW];walk_at"o"),fD (by walk_at"o")]
def eB(K:W.Frag):Sp:=fun vs H Q _=>∃ (p:Addr)(s:Str)(ys:List V)(b:Bool),vs=[.ref p]/\vw K H p=some (.tup (.str s :: ys))/\(b=false/\(s = "tight" \/ s = "open")\/b=true/\(s = "below" \/ s = "nought")) /\ ∀ H',ay (vw K H) (vw K H')->Q (.bl b) H'
theorem xL(F:eM K "is_bar" "is_bar" hU f fd) (T:fL K mg):bK P w K mg base eI 1 f fd ["told"] (eB K):=by
 have scN:=pV.nd
 refine F.okQ pV (fun vs H Q E h=>?_) (fun cdv A outer s H vs Q E hr h=>?_)
 ·obtain⟨_,_,_,_,rfl,_⟩:=h
  rfl
 ·obtain⟨p,s,ys,b,rfl,hp,hs,h⟩:=h
  refine⟨_,(ah (ap (cE kI (aA b9 (qv 0) af (fun _ _=>rfl)) (bQ (aa eF (aa eF ac))) (by rfl)))),?_⟩
  walk_at"m"
  skip
  walk_at"vc"
  refine⟨_,hp,_,dJ,by decide,fun t H2 ht S2 h2=>⟨t,_,rfl,.inr (cY h2),rfl,rfl,?_⟩⟩
  have e:(if true=true then !yd (V.str s) [V.str "tight",V.str "open"] else yd (V.str s) [V.str "tight",V.str "open"])=b:=by
   rcases hs with ⟨rfl,rfl|rfl⟩|⟨rfl,rfl|rfl⟩ <;> decide +kernel
  rw[e]
  exact h H2 S2
theorem sY{qs rs:List (Int × Int)}{r:Int × Int}{j:Nat}(bq:Pb 170 (cf qs))(br:Pb 1100 (cf rs))(l7:rs.length<=7)(fr':Fq r)(e:wv r=aG (cf (rs.drop j)) (cf qs) (rs.drop j).length):Bq 5000 r:=by
 obtain⟨D,d0,bD,oD⟩:=br
 obtain⟨E,e0,bE,oE⟩:=bq
 have oD':Ob D 1100 (cf (rs.drop j)):=fun k=>by
  rw[wo]
  exact oD (j+k)
 obtain⟨n,en,bn⟩:=yz d0 e0 oD' oE (rs.drop j).length
 have ll:(rs.drop j).length<=7:=by rw[List.length_drop];walk_at"o"
 exact wN fr' (e.trans en) (Int.mul_ne_zero d0 e0) (bn.mono (by walk_at"o")) ((bD.mul bE).mono (by decide))
def dq(K:W.Frag):Sp:=fun vs H Q _=>∃ (a b:Addr)(qs rs:List (Int × Int)),vs=[.ref a,.ref b]/\aM (vw K H) a qs/\aM (vw K H) b rs/\qs.length<=11/\(∀ q ∈ qs,iB q)/\rs ≠ []/\rs.length<=7/\rs.length<=qs.length+1/\aL rs/\Pb 1100 (cf rs)/\(2<=rs.length->re (cf rs) (DF (cf rs))) /\
 ∀ (p w:Addr) H' (ws:List (Int × Int)),ay (vw K H) (vw K H')->vw K H' p=some (.tup [.ref b,.ref w])->aM (vw K H') w ws->aL ws->Q (.ref p) H'
theorem pj(F:eM K "flock_with" "flock_with" eo f fd) (T:fL K mg)(C_trimmed:aS P w K mg base "trimmed" ["numbers", "zero"] 1 (dI K)) (C_worth:aS P w K mg base "worth" ["sums", "f"] 3 (gf K)) (C_weights_by:aS P w K mg base "weights_by" ["above", "roots"] 5 (fV K)):bK P w K mg base eI 6 f fd ["sums", "roots"] (dq K):=by
 have scN:=jU.nd
 refine F.okQ jU (fun vs H Q E h=>?_) (fun cdv A outer s H vs Q E hr h=>?_)
 ·obtain⟨_,_,_,_,rfl,_⟩:=h
  rfl
 ·obtain⟨a,b,qs,rs,rfl,ha,hb,l11,sq,r0,lr,lrq,po,br,ns,h⟩:=h
  obtain⟨z_ZERO,hg_ZERO,hv_ZERO⟩:=T.g_ZERO
  refine⟨_,(ae (aC (i:=2) scN rfl (by walk_at"a1") (ai C_trimmed (hr.mono (by walk_at"a2")) rfl (aa (dF (own:=["k"]) (outs:=["sums", "roots"]) (ixs:=[0,1]) rfl (fg rfl T.b_range (aa (ao dE (au aB (by rfl) T.b_len aV (aa (qv 1) ac)) af) ac)) rfl ⟨rfl,rfl,rfl,⟨rfl,⟨rfl,trivial⟩⟩,rfl,⟨⟨rfl,rfl,rfl,_,rfl⟩,⟨⟨rfl,rfl,rfl,_,rfl⟩,trivial⟩⟩⟩ (fun _ _ _ _=>⟨(ak (i:=0) (show (["k", "sums", "roots"]:List Str).Nodup by decide +kernel) rfl (by walk_at"a1")),dg,(ai C_worth (hr.mono (by walk_at"a2")) rfl (aa (qv 1) (aa (cR (show xz _ (Eb K) from fB) (qv 2) (dU (ao (show eK _ _ (jk K) from cb) (qv 0) af)) dZ) ac)))⟩)) (aa (eC (v:=V.ref z_ZERO) rfl hg_ZERO rfl) ac))))
   (ah (ap (bQ (aa (qv 1) (aa (ai C_weights_by (hr.mono (by walk_at"a2")) rfl (aa (qv 2) (aa (qv 1) ac))) ac)))))),?_⟩
  walk_at"m"
  skip
  have l0:=List.length_pos_iff.mpr r0
  refine aR.gen fun N1 hN1=>?_
  walk_at"vc"
  refine⟨_,hb.len,by walk_at"o",by walk_at"o",fun c1 H1 hc1 S1 h1=>?_⟩
  rw[show ((rs.length:Int) - 1).toNat=rs.length - 1 by walk_at"o"]
  obtain⟨xs,hxs,rxs⟩:=id hb
  have lx:xs.length=rs.length:=by rw[rxs.length,List.length_map]
  refine bY (its:=hJ 0 (rs.length - 1)) (fun i zs H'=>ay (vw K H) (vw K H') /\ ∃ us:List (Int × Int),aE (vw K H') (us.map fr) zs/\us.length=i /\ ∀ q ∈ us,Fq q/\Bq 5000 q) (fun _ _ _ _ _ _=>cK) h1 ⟨S1,[],.mk_nil,rfl,by simp⟩ (fun i x zs H2 hi hx h2 p=>?_) (fun zs H2 h2 p=>?_)
  ·obtain⟨S2,us,rz,lu,hu⟩:=p
   obtain⟨hi',rfl⟩:=gT hx
   rw[Int.zero_add]
   walk_at"vc"
   refine⟨xs,S2 _ _ hxs,fun p3 H3 hp3 S3 h3=>?_⟩
   rw[show ((i:Nat):Int)+1=((i+1:Nat):Int) by walk_at"o",kr (by walk_at"o")] at h3
   have S03:=S2.trans S3
   have l3:aM (vw K H3) p3 (rs.drop (i+1)):=⟨_,h3,by rw[List.map_drop];exact (rxs.drop _).same S03⟩
   have br':=br.bq po.1
   simp only[gf]
   refine⟨a,p3,qs,rs.drop (i+1),rfl,ha.same S03,l3,by rw[List.length_drop];walk_at"o",by walk_at"o",by rw[List.length_drop];walk_at"o",fun q hq=>⟨(sq q hq).1,(sq q hq).2.1⟩,fun q hq=>⟨po.1 q (List.mem_of_mem_drop hq),(br' q (List.mem_of_mem_drop hq)).mono (by decide)⟩,fun v H4 r S4 r4 f4 w4=>.mk ((S3.trans S4) _ _ h2) ?_ fun H5 B5 h5=>⟨fun b o e=>B5 _ _ (aj e hc1) ((S2.trans (S3.trans S4)) _ _ e),us ++ [r],?_,by simp[lu],fun q hq=>?_⟩⟩
   ·rw[rz.length,List.length_map]
    have:1000<=sizeLine:=by decide
    walk_at"o"
   ·rw[List.map_append]
    exact (aE.flat_but ((S3.trans S4) _ _ h2) B5 _ _ (dP _) (rz.same (S3.trans S4))).snoc (aJ.flat_but ((S3.trans S4) _ _ h2) B5 _ _ (cr _) r4)
   ·rcases List.mem_append.mp hq with z|z
    ·exact hu q z
    ·cases List.mem_singleton.mp z
     exact⟨f4,sY (ua sq) br lr f4 w4⟩
  ·obtain⟨S2,us,rz,lu,hu⟩:=p
   rw[eJ] at lu
   simp only[dI]
   refine .inl ⟨c1,_,us,rfl,⟨zs,h2,rz⟩,hv_ZERO _,fun q hq=>(hu q hq).1,fun d3 H3 vs S3 l3 n3 p3 _ e3 m3=>hN1 _ _ ?_⟩
   have S03:=S2.trans S3
   walk_at"vc"
   simp only[fV]
   exact⟨d3,b,vs,rs,rfl,l3,hb.same S03,by walk_at"o",r0,lr,po,br,fun q hq=>hu q (m3 q hq),ns,fun d4 H4 ws S4 l4 p4=>⟨by decide,fun p5 H5 hp5 S5 h5=>h p5 d4 H5 ws (S03.trans (S4.trans S5)) h5 (l4.same S5) p4⟩⟩
theorem vQ:iB (0,1):=⟨si,Dj (by decide),0,by
 rw[kz,show ((0:Int):Rat)=0 from rfl]
 grind,by decide⟩
def uR(W:Nat->Int)(k n:Nat):Prop:=∀ i,i+(k+1)<=n->Lq W k i=0
theorem t9{qs:List (Int × Int)}{W:Nat->Int}{B:Int}{k i:Nat}{c:List (Int × Int) × (Int × Int)}(cl:m4 qs W B)(h:gg W B k c)(hD:Dk W k ≠ 0):aG (cf c.1) (cf (qs.drop i)) (k+1)=((Lq W k i:Int):Rat) / ((Dk W k*B:Int):Rat):=by
 have e:cf (qs.drop i)=fun j=>cf qs (i+j):=funext fun j=>wo
 rw[e,oj hD (by have:=cl.pos;walk_at"o") h.num cl.val i,Rat.intCast_mul]
theorem gg.bq'{W:Nat->Int}{B:Int}{k:Nat}{c:List (Int × Int) × (Int × Int)}(h:gg W B k c)(hD:Dk W k ≠ 0)(hk:k<=5)(bW:∀ i,Bt 170 (W i)):∀ q ∈ c.1,Fq q/\Bq 1100 q:=fun q hq=>by
 obtain⟨j,hj⟩:=List.getElem?_of_mem hq
 have e:=h.num j
 rw[bJ hj] at e
 exact⟨h.po.1 q hq,wN (h.po.1 q hq) e hD ((qc bW hk).mono (by decide)) ((pG bW (by walk_at"o")).mono (by decide))⟩
def fW(K:W.Frag):Sp:=fun vs H Q _=>∃ (a l:Addr)(qs:List (Int × Int))(c:List (Int × Int) × (Int × Int))(W:Nat->Int)(B:Int)(k:Nat),vs=[.ref a,.ref l]/\aM (vw K H) a qs/\aM (vw K H) l c.1/\qs.length<=11/\(∀ q ∈ qs,iB q)/\m4 qs W B/\gg W B k c/\0<Dk W k/\k<=5/\c.1.length=k+1/\k+1<=qs.length /\
 (uR W k qs.length -> ∀ H',ay (vw K H) (vw K H')->Q .non H')/\(¬ uR W k qs.length -> ∀ H' (p l2:Addr)(i:Nat),ay (vw K H) (vw K H')->vw K H' p=some (.tup [.str "nought",.ref l,.ref l2])->aM (vw K H') l2 (List.replicate i (0,1) ++ [(1,1)])->i+(k+1)<=qs.length->Lq W k i ≠ 0->Q (.ref p) H')
theorem pi(F:eM K "nought_bar" "nought_bar" dS f fd) (T:fL K mg)(C_worth:aS P w K mg base "worth" ["sums", "f"] 3 (gf K)):bK P w K mg base eI 4 f fd ["sums", "step"] (fW K):=by
 have scN:=jZ.nd
 refine F.okQ jZ (fun vs H Q E h=>?_) (fun cdv A outer s H vs Q E hr h=>?_)
 ·obtain⟨_,_,_,_,_,_,_,rfl,_⟩:=h
  rfl
 ·obtain⟨a,l,qs,c,W,B,k,rfl,ha,hl,l11,sq,cl,so,dk,k5,lc,lkn,h1,h2⟩:=h
  obtain⟨z_ZERO,hg_ZERO,hv_ZERO⟩:=T.g_ZERO
  obtain⟨z_ONE,hg_ONE,hv_ONE⟩:=T.g_ONE
  refine⟨_,(ae (cT PassesOwn.never rfl (fg rfl T.b_range (aa (ao cb (ao dE (au aB (by rfl) T.b_len aV (aa (qv 0) ac)) (au aB (by rfl) T.b_len aV (aa (qv 1) ac))) af) ac)) (ak (i:=2) scN rfl (by walk_at"a1")) (ah (cc (aQ (ub hr.u64) (ai C_worth (hr.mono (by walk_at"a2")) rfl (aa (cR fB (qv 0) (dU (qv 2)) dZ) (aa (qv 1) ac))) (eC (v:=V.ref z_ZERO) rfl hg_ZERO rfl) (aI _)) (ah (ap (bQ (aa eF (aa (qv 1) (aa (ao cb (ao aH (bC (aa (eC (v:=V.ref z_ZERO) rfl hg_ZERO rfl) ac)) (qv 2)) (bC (aa (eC (v:=V.ref z_ONE) rfl hg_ONE rfl) ac))) ac)))))) aN)))
   (ah (ap El))),?_⟩
  walk_at"m"
  skip
  refine aR.gen fun N1 hN1=>?_
  walk_at"vc"
  refine⟨_,ha.len,_,hl.len,by walk_at"o",by walk_at"o",?_⟩
  rw[show ((qs.length:Int) - (c.1.length:Int)+1).toNat=qs.length - k by walk_at"o"]
  obtain⟨Pv,hPv⟩ : ∃ Pv:Nat->St->Hp->Prop,∀ i σ H',Pv i σ H' ↔ ∃ o,σ=[some (.ref a),some (.ref l),o]/\ay (vw K H) (vw K H') /\ ∀ j,j<i->Lq W k j=0:=⟨_,fun _ _ _=>Iff.rfl⟩
  have dn:Dk W k ≠ 0:=by walk_at"o"
  have dB:Dk W k*B ≠ 0:=Int.mul_ne_zero dn (by have:=cl.pos;walk_at"o")
  refine cg (its:=hJ 0 (qs.length - k)) Pv (fun _ _ _ _ _=>cK) ((hPv _ _ _).mpr ⟨_,rfl,.rfl,fun j z=>by walk_at"o"⟩) (fun i x σ H1 hi hx pv=>?_) (fun σ H1 pv=>hN1 _ _ ?_)
  ·obtain⟨o,rfl,S1,z1⟩:=(hPv _ _ _).mp pv
   obtain⟨hi',rfl⟩:=gT hx
   rw[Int.zero_add]
   obtain⟨xs,hxs,rxs⟩:=id (ha.same S1)
   have lx:xs.length=qs.length:=by rw[rxs.length,List.length_map]
   walk_at"vc"
   refine⟨xs,hxs,fun p2 H2 hp2 S2 h2'=>?_⟩
   rw[kr (by walk_at"o")] at h2'
   have l2:aM (vw K H2) p2 (qs.drop i):=⟨_,h2',by rw[List.map_drop];exact (rxs.drop i).same S2⟩
   have S02:=S1.trans S2
   simp only[gf]
   refine⟨p2,l,qs.drop i,c.1,rfl,l2,hl.same S02,by rw[List.length_drop];walk_at"o",by rw[List.length_drop];walk_at"o",by walk_at"o",fun q hq=>⟨(sq q (List.mem_of_mem_drop hq)).1,(sq q (List.mem_of_mem_drop hq)).2.1⟩,fun q hq=>⟨(so.bq' dn k5 cl.bt q hq).1,(so.bq' dn k5 cl.bt q hq).2.mono (by decide)⟩,fun v H3 r S3 r3 fr3 w3=>?_⟩
   rw[lc,t9 cl so dn] at w3
   refine⟨_,r3,_,bU (hv_ZERO _),gi _,gi _,?_⟩
   rw[lC]
   have zz:r=(0,1) ↔ Lq W k i=0:=by
    constructor
    ·intro z
     rw[z,kz] at w3
     have nB:=ar dB
     have:((Lq W k i:Int):Rat)=((0:Int):Rat):=by
      have c0:((0:Int):Rat)=0:=rfl
      rw[c0]
      grind
     exact_mod_cast this
    ·intro z
     refine lA fr3 si ?_
     rw[w3,z,kz]
     have c0:((0:Int):Rat)=0:=rfl
     rw[c0]
     grind
   refine ce (fun hz=>?_) (fun hz=>?_)
   ·have nz:¬ uR W k qs.length:=fun z=>by
     have:=zz.mpr (z i (by walk_at"o"))
     rw[this] at hz
     exact absurd hz (by decide)
    refine⟨by decide,fun p4 H4 hp4 S4 h4=>?_⟩
    show gK K (.ref p4) (.int _) H4 _
    rw[ki]
    refine⟨_,h4,by walk_at"o",by walk_at"o",?_,fun p5 H5 hp5 S5 h5=>⟨by decide,fun p6 H6 hp6 S6 h6=>?_⟩⟩
    ·have:1000<=sizeLine:=by decide
     simp
     walk_at"o"
    show jk K (.ref p5) (.ref p6) H6 _
    rw[jE]
    rw[show ((i:Nat):Int).toNat=i by walk_at"o",rR] at h5
    have Li:Lq W k i ≠ 0:=fun z=>by
     rw[zz.mpr z] at hz
     exact absurd hz (by decide)
    refine⟨_,S6 _ _ h5,_,h6,?_,fun p7 H7 hp7 S7 h7=>⟨by decide,fun p8 H8 hp8 S8 h8=>h2 nz H8 p8 p7 i (S02.trans (S3.trans (S4.trans (S5.trans (S6.trans (S7.trans S8)))))) h8 ⟨_,S8 _ _ h7,by rw[List.map_append,wd];exact (aE.repl (bU (hv_ZERO _)) i).app (.mk_cons (bU (hv_ONE _)) .mk_nil)⟩ (by walk_at"o") Li⟩⟩
    have:1000<=sizeLine:=by decide
    simp
    walk_at"o"
   ·refine (hPv _ _ _).mpr ⟨_,rfl,S02.trans S3,fun j hj=>?_⟩
    by_cases e:j=i
    ·rw[e]
     refine zz.mp ?_
     by_cases y:r=(0,1)
     ·exact y
     ·exact absurd (decide_eq_false y) hz
    ·exact z1 j (by walk_at"o")
  ·obtain⟨o,rfl,S1,z1⟩:=(hPv _ _ _).mp pv
   rw[eJ] at z1
   walk_at"vc"
   exact h1 (fun i hi=>z1 i (by walk_at"o")) H1 S1
theorem GZ{qs:List (Int × Int)}(i:Nat):cf (qs ++ [(0,1)]) i=cf qs i:=by
 by_cases h:i<qs.length
 ·rw[bJ (List.getElem?_eq_getElem (show i<(qs ++ [(0,1)]).length by simp;walk_at"o")),bJ (List.getElem?_eq_getElem h),List.getElem_append_left h]
 ·rw[cC (show qs.length<=i by walk_at"o")]
  by_cases e:i=qs.length
  ·rw[bJ (q:=(0,1)) (by rw[e];simp)]
   exact (iy (by decide)).mpr rfl
  ·exact cC (by simp;walk_at"o")
theorem m4.zero{qs:List (Int × Int)}{W:Nat->Int}{B:Int}(h:m4 qs W B):m4 (qs ++ [(0,1)]) W B :=
 ⟨h.pos,fun i=>by rw[GZ];exact h.val i,fun E hE=>h.least E fun q hq=>hE q (List.mem_append_left _ hq),h.bt⟩
structure yb (qs:List (Int × Int))(W:Nat->Int)(B:Int)(M:Nat)(G:Hp)(p:Addr)(s:Str):Prop where
 kind:(Dk W M<0/\s = "below")\/(Dk W M=0 /\ ¬ uR W (M - 1) qs.length/\s = "nought")\/(Dk W M=0/\uR W (M - 1) qs.length/\s = "tight")\/(0<Dk W M/\s = "open")
 at_:∃ (l:Addr)(ys:List V),G p=some (.tup (.str s :: .ref l :: ys))/\(s = "tight" \/ s = "open" -> ys=[])/\(s = "tight" -> ∃ rs,aM G l rs/\aL rs /\ ∀ j,cf rs j=((qk W (M - 1) j:Int):Rat) / ((Dk W (M - 1):Int):Rat))/\(s = "open" -> ∃ rs,aM G l rs/\aL rs /\ ∀ j,cf rs j=((qk W M j:Int):Rat) / ((Dk W M:Int):Rat))/\(s = "below" -> ys=[] /\ ∃ rs,aM G l rs/\aL rs /\ ∀ j,cf rs j=((qk W (M - 1) j:Int):Rat) / ((Dk W (M - 1):Int):Rat))/\(s = "nought" -> ∃ (l2:Addr)(i:Nat)(rs:List (Int × Int)),ys=[.ref l2]/\aM G l rs/\aL rs/\(∀ j,cf rs j=((qk W (M - 1) j:Int):Rat) / ((Dk W (M - 1):Int):Rat))/\aM G l2 (List.replicate i (0,1) ++ [(1,1)])/\i+M<=qs.length/\Lq W (M - 1) i ≠ 0)
def di(K:W.Frag):Sp:=fun vs H Q _=>∃ (a:Addr)(qs:List (Int × Int)),vs=[.ref a]/\aM (vw K H) a qs/\1<=qs.length/\qs.length<=11/\(∀ q ∈ qs,iB q) /\
 ∀ (p:Addr) H' W B M s,ay (vw K H) (vw K H')->m4 qs W B->pc W qs.length M->yb qs W B M (vw K H') p s->Q (.ref p) H'
theorem ut(F:eM K "outlook" "outlook" gB f fd) (T:fL K mg)(C_steps:aS P w K mg base "steps" ["sums"] 4 (kR K)) (C_nought_bar:aS P w K mg base "nought_bar" ["sums", "step"] 4 (fW K)) (C_furthest_step:aS P w K mg base "furthest_step" ["sums"] 4 (ei K)):bK P w K mg base eI 5 f fd ["sums"] (di K):=by
 have scN:=oi.nd
 refine F.okQ oi (fun vs H Q E h=>?_) (fun cdv A outer s H vs Q E hr h=>?_)
 ·obtain⟨_,_,rfl,_⟩:=h
  rfl
 ·obtain⟨a,qs,rfl,ha,l1,l11,sq,h⟩:=h
  obtain⟨z_ZERO,hg_ZERO,hv_ZERO⟩:=T.g_ZERO
  refine⟨_,(ae (cM (aA dL (ai C_steps (hr.mono (by walk_at"a2")) rfl (aa (qv 0) ac)) (de cn af) (fun _ _=>rfl)) (aX (n:=2) rfl (am (ak (i:=1) scN rfl (by walk_at"a1")) (am (ak (i:=2) scN rfl (by walk_at"a1")) aY))))
   (ae (cc (aQ mv (aA b9 (qv 2) af (fun _ _=>rfl)) af (aI _)) (ah (ap (bQ (aa eF (aa (qv 1) ac))))) aN)
   (ae (cc (aQ (lO hr.u64) (qv 2) (eC (v:=V.ref z_ZERO) rfl hg_ZERO rfl) (aI _)) (ah (ap (DT (ai C_nought_bar (hr.mono (by walk_at"a2")) rfl (aa (qv 0) (aa (qv 1) ac))) (bQ (aa eF (aa (qv 1) ac)))))) aN)
   (ah (ap (bQ (aa eF (aa (ai C_furthest_step (hr.mono (by walk_at"a2")) rfl (aa (tG (cX (ao vz (au aB (by rfl) T.b_len aV (aa (qv 0) ac)) af) (fun _=>rfl)) (ao cb (qv 0) (bC (aa (eC (v:=V.ref z_ZERO) rfl hg_ZERO rfl) ac))) (qv 0)) ac)) ac)))))))),?_⟩
  walk_at"m"
  skip
  refine aR.gen fun N1 hN1=>?_
  walk_at"vc"
  simp only[kR]
  refine⟨a,qs,rfl,ha,l1,l11,sq,fun t H1 W B pss S1 ht0 cl my sa so=>?_⟩
  obtain⟨xs,hxs,lxs,hx⟩:=id sa
  obtain⟨M,hM⟩ : ∃ M,M=pss.length:=⟨_,rfl⟩
  rw[<- hM] at my
  have m1:=my.one
  have m2:=my.most
  obtain⟨c,hc⟩ : ∃ c,pss[M - 1]? = some c:=⟨_,List.getElem?_eq_getElem (by walk_at"o")⟩
  obtain⟨x,l,v,e1,e2,e3,e4,e5⟩:=hx _ _ hc
  have soc:=so _ _ hc
  have dk:=my.up (M - 1) (by walk_at"o")
  have dn:Dk W (M - 1) ≠ 0:=by walk_at"o"
  have hB:=cl.pos
  have lc:=soc.len dn
  have dB:0<Dk W (M - 1)*B:=Int.mul_pos dk hB
  have sv:=soc.sqv
  rw[show M - 1+1=M by walk_at"o"] at sv
  have xl:xs.getLast? = some (.ref x):=by rw[List.getLast?_eq_getElem?,lxs,<- hM];exact e1
  refine⟨t,rfl,_,hxs,_,eP xl,x,rfl,_,e2,rfl,_,_,rfl,_,_,rfl,rfl,hN1 _ _ ?_⟩
  obtain⟨vp,rfl,hvp⟩:=id e4.fr_at
  have iq:c.2.1*(Dk W (M - 1)*B)=Dk W M*c.2.2:=by
   have n2:=ar (show c.2.2 ≠ 0 by have:=soc.fq.1;walk_at"o")
   have n3:=ar (show Dk W (M - 1)*B ≠ 0 by walk_at"o")
   have e:((c.2.1*(Dk W (M - 1)*B):Int):Rat)=((Dk W M*c.2.2:Int):Rat):=by
    rw[Rat.intCast_mul,Rat.intCast_mul]
    unfold wv at sv
    grind
   exact_mod_cast e
  have q2:=soc.fq.1
  have sneg:c.2.1<0->Dk W M<0:=fun z=>by
   have:=Int.mul_neg_of_neg_of_pos z dB
   rw[iq] at this
   exact Int.not_le.mp fun y=>by have:=Int.mul_nonneg y (Int.le_of_lt q2);walk_at"o"
  have szer:c.2.1=0->Dk W M=0:=fun z=>by
   rw[z,Int.zero_mul] at iq
   rcases Int.mul_eq_zero.mp iq.symm with y|y
   ·exact y
   ·walk_at"o"
  have spos:0<c.2.1->0<Dk W M:=fun z=>by
   have:=Int.mul_pos z dB
   rw[iq] at this
   exact Int.not_le.mp fun y=>by have:=Int.mul_le_mul_of_nonneg_right y (Int.le_of_lt q2);walk_at"o"
  refine aR.gen fun N2 hN2=>?_
  walk_at"vc"
  refine⟨_,hvp,_,dJ,_,rfl,ce (fun hneg=>?_) (fun hneg=>hN2 _ _ ?_)⟩
  ·exact⟨by decide,fun p H2 hp S2 h2=>h p H2 W B M "below" (S1.trans S2) cl my ⟨.inl ⟨sneg hneg,rfl⟩,l,[],h2,fun _=>rfl,fun z=>absurd z (by decide +kernel),fun z=>absurd z (by decide +kernel),fun _=>⟨rfl,c.1,e3.same S2,soc.po,soc.num⟩,fun z=>absurd z (by decide +kernel)⟩⟩
  refine aR.gen fun N3 hN3=>?_
  walk_at"vc"
  refine⟨_,e4,_,bU (hv_ZERO _),gi _,gi _,?_⟩
  rw[lC]
  refine ce (fun hz=>?_) (fun hz=>hN3 _ _ ?_)
  ·have d0:Dk W M=0:=szer (by rw[of_decide_eq_true hz])
   unfold FX
   walk_at"vc"
   simp only[fW]
   refine⟨a,l,qs,c,W,B,M - 1,rfl,ha.same S1,e3,l11,sq,cl,soc,dk,by walk_at"o",lc,by walk_at"o",fun hn H2 S2=>⟨false,rfl,io (by decide) ⟨by decide,fun p H3 hp S3 h3=>h p H3 W B M "tight" (S1.trans (S2.trans S3)) cl my ⟨.inr (.inr (.inl ⟨d0,hn,rfl⟩)),l,[],h3,fun _=>rfl,fun _=>⟨c.1,e3.same (S2.trans S3),soc.po,soc.num⟩,fun z=>absurd z (by decide +kernel),fun z=>absurd z (by decide +kernel),fun z=>absurd z (by decide +kernel)⟩⟩⟩,fun hn H2 p l2 i S2 h2 ll hi hL=>⟨true,?_,oU rfl (h p H2 W B M "nought" (S1.trans S2) cl my ⟨.inr (.inl ⟨d0,hn,rfl⟩),l,[.ref l2],h2,fun z=>absurd z (by decide +kernel),fun z=>absurd z (by decide +kernel),fun z=>absurd z (by decide +kernel),fun z=>absurd z (by decide +kernel),fun _=>⟨l2,i,c.1,rfl,e3.same S2,soc.po,soc.num,ll,by walk_at"o",hL⟩⟩)⟩⟩
   exact .inr (.inl ⟨_,cY h2,rfl⟩)
  ·have d1:0<Dk W M:=spos (by
    have:c.2 ≠ (0,1):=fun z=>hz (decide_eq_true z)
    have:c.2.1 ≠ 0:=fun z=>this ((mX soc.fq).mpr z)
    walk_at"o")
   walk_at"vc"
   have od:2*M=qs.length\/2*M=qs.length+1:=by
    rcases my.all with z|z <;> walk_at"o"
   simp only[ei]
   refine⟨_,(ha.same S1).len,by walk_at"o",ce (fun ho=>?_) (fun ho=>?_)⟩
   ·have o1:2*M=qs.length+1:=by
     have:((qs.length:Int) % 2) ≠ 0:=by simpa using ho
     walk_at"o"
    obtain⟨ax,hax,rax⟩:=id (ha.same S1)
    refine⟨by decide,fun p2 H2 hp2 S2 h2=>?_⟩
    show jk K (.ref a) (.ref p2) H2 _
    rw[jE]
    refine⟨ax,S2 _ _ hax,_,h2,?_,fun p3 H3 hp3 S3 h3=>?_⟩
    ·have:1000<=sizeLine:=by decide
     rw[rax.length]
     simp
     walk_at"o"
    have S23:=S2.trans S3
    have l3:aM (vw K H3) p3 (qs ++ [(0,1)]):=by
     refine⟨_,h3,?_⟩
     rw[List.map_append]
     exact (rax.same S23).app (.mk_cons (bU (hv_ZERO _)) .mk_nil)
    have sq0:∀ q ∈ qs ++ [(0,1)],iB q:=fun q hq=>by
     rcases List.mem_append.mp hq with z|z
     ·exact sq q z
     ·cases List.mem_singleton.mp z
      exact vQ
    refine⟨p3,qs ++ [(0,1)],rfl,l3,by simp,by simp;walk_at"o",sq0,fun d H4 W' B' rs k S4 nd cl' ld po k6 hD he num=>⟨by decide,fun p5 H5 hp5 S5 h5=>h p5 H5 W B M "open" (S1.trans (S23.trans (S4.trans S5))) cl my ⟨.inr (.inr (.inr ⟨d1,rfl⟩)),d,[],h5,fun _=>rfl,fun z=>absurd z (by decide +kernel),fun _=>⟨rs,ld.same S5,po,?_⟩,fun z=>absurd z (by decide +kernel),fun z=>absurd z (by decide +kernel)⟩⟩⟩
    obtain⟨_,eW⟩:=cl.zero.uniq cl' fun q hq=>(sq0 q hq).1
    subst eW
    rw[List.length_append,List.length_singleton] at hD he
    have hk1:=(hD k (Nat.le_refl _)).2
    have ek:k=M:=by
     by_cases z:k<M
     ·rcases he with y|y
      ·walk_at"o"
      ·by_cases e:k+1=M
       ·rw[e] at y
        walk_at"o"
       ·have:=my.up (k+1) (by walk_at"o")
        walk_at"o"
     ·walk_at"o"
    rw[<- ek]
    exact num
   ·have o1:2*M=qs.length:=by
     have:((qs.length:Int) % 2)=0:=by simpa using ho
     walk_at"o"
    refine⟨a,qs,rfl,ha.same S1,l1,by walk_at"o",sq,fun d H4 W' B' rs k S4 nd cl' ld po k6 hD he num=>⟨by decide,fun p5 H5 hp5 S5 h5=>h p5 H5 W B M "open" (S1.trans (S4.trans S5)) cl my ⟨.inr (.inr (.inr ⟨d1,rfl⟩)),d,[],h5,fun _=>rfl,fun z=>absurd z (by decide +kernel),fun _=>⟨rs,ld.same S5,po,?_⟩,fun z=>absurd z (by decide +kernel),fun z=>absurd z (by decide +kernel)⟩⟩⟩
    obtain⟨_,eW⟩:=cl.uniq cl' fun q hq=>(sq q hq).1
    subst eW
    have hk1:=(hD k (Nat.le_refl _)).2
    have ek:k=M:=by
     by_cases z:k<M
     ·rcases he with y|y
      ·walk_at"o"
      ·by_cases e:k+1=M
       ·rw[e] at y
        walk_at"o"
       ·have:=my.up (k+1) (by walk_at"o")
        walk_at"o"
     ·walk_at"o"
    rw[<- ek]
    exact num
def uA(W:Nat->Int)(n M:Nat):Prop:=Dk W M<0\/(Dk W M=0 /\ ¬ uR W (M - 1) n)
theorem Hx{qs:List (Int × Int)}{W:Nat->Int}{B:Int}{M:Nat}(cl:m4 qs W B)(my:pc W qs.length M)(nf:¬ uA W qs.length M) {f:Nat->Rat}{L:Nat}(hf:∀ i,L<=i->f i=0)(hL:2*L<=qs.length+1):0<=ip (cf qs) f f L L/\(ip (cf qs) f f L L=0 -> ∀ (v:Nat->Rat)(N:Nat),L+N<=qs.length+1->ip (cf qs) f v L N=0):=by
 have m1:=my.one
 have m2:=my.most
 have hB:=cl.pos
 by_cases d0:Dk W M=0
 ·have ng:uR W (M - 1) qs.length:=Classical.byContradiction fun z=>nf (.inr ⟨d0,z⟩)
  have dk:=my.up (M - 1) (by walk_at"o")
  obtain⟨r,r0,hr⟩:=Hv (n:=qs.length) (by walk_at"o") cl.val (show Dk W (M - 1) ≠ 0 by walk_at"o") ng L f hf
  have e1:ip (cf qs) f f L L=ip (cf qs) r r (M - 1) (M - 1):=by
   rw[hr f L (by walk_at"o"),eQ,hr r (M - 1) (by walk_at"o")]
  obtain⟨p1,p2⟩:=pd hB cl.val (M - 1) (fun i hi=>my.up i (by walk_at"o")) r r0
  rw[e1]
  refine⟨p1,fun z v N hN=>?_⟩
  rw[hr v N hN]
  exact sZ (p2 z)
 ·have d1:0<Dk W M:=by
   have:¬ Dk W M<0:=fun z=>nf (.inl z)
   walk_at"o"
  have lM:L<=M:=by
   rcases my.all with z|z <;> walk_at"o"
  obtain⟨p1,p2⟩:=pd hB cl.val M (fun i hi=>by
   by_cases e:i=M
   ·rw[e];exact d1
   ·exact my.up i (by walk_at"o")) f (fun i hi=>hf i (by walk_at"o"))
  have e1:ip (cf qs) f f L L=ip (cf qs) f f M M:=by
   rw[<- pL hf lM,eQ,<- pL hf lM]
  rw[e1]
  exact⟨p1,fun z v N _=>sZ (p2 z)⟩
theorem vj{qs:List (Int × Int)}{W:Nat->Int}{B:Int}{k:Nat}(cl:m4 qs W B)(dk:0<Dk W k):ip (cf qs) (Pk W k) (Pk W k) (k+1) (k+1)=((Dk W (k+1):Int):Rat) / (((Dk W k:Int):Rat)*(B:Rat)):=by
 rw[qm (by walk_at"o") (by have:=cl.pos;walk_at"o") cl.val (Nat.le_refl _)]
 show aG (Pk W k) _ k+Pk W k k*(((Lq W k k:Int):Rat) / _)=_
 rw[aZ k fun i hi=>by rw[iP hi,show ((0:Int):Rat)=0 from rfl];grind,fP,oI (by walk_at"o")]
 grind
theorem sf{qs:List (Int × Int)}{W:Nat->Int}{B:Int}{k i:Nat}{v:Nat->Rat}(cl:m4 qs W B)(dk:0<Dk W k)(hv:∀ j,v j=if j=i then 1 else 0):ip (cf qs) (Pk W k) v (k+1) (i+1)=((Lq W k i:Int):Rat) / (((Dk W k:Int):Rat)*(B:Rat)):=by
 rw[eQ,qm (by walk_at"o") (by have:=cl.pos;walk_at"o") cl.val (Nat.le_refl _)]
 show aG v _ i+v i*(((Lq W k i:Int):Rat) / _)=_
 rw[aZ i fun j hj=>by rw[hv,if_neg (by walk_at"o")];grind,hv,if_pos rfl]
 grind
theorem ja{qs:List (Int × Int)}{W:Nat->Int}{B:Int}{M:Nat}(cl:m4 qs W B)(my:pc W qs.length M)(nf:uA W qs.length M):fA (cf qs) qs.length:=by
 obtain⟨k,rfl⟩ : ∃ k,M=k+1:=⟨M - 1,by have:=my.one;walk_at"o"⟩
 have m2:=my.most
 have dk:=my.up k (by walk_at"o")
 have hB:=cl.pos
 have p:(0:Rat)<((Dk W k:Int):Rat)*(B:Rat):=Rat.mul_pos (by exact_mod_cast dk) (by exact_mod_cast hB)
 have ip:=Rat.inv_pos.mpr p
 have sq:=vj cl dk
 rcases nf with z|⟨z,ng⟩
 ·refine⟨Pk W k,k+1,fun _=>0,0,fun i hi=>iW (by walk_at"o"),by walk_at"o",by walk_at"o",.inl ?_⟩
  rw[sq,Rat.div_def]
  have zq:((Dk W (k+1):Int):Rat)<0:=by exact_mod_cast z
  have:=Rat.mul_pos (show (0:Rat) < -((Dk W (k+1):Int):Rat) by grind) ip
  grind
 ·obtain⟨i,hi⟩:=Classical.not_forall.mp ng
  obtain⟨hi,Li⟩:=Classical.not_imp.mp hi
  rw[Nat.add_sub_cancel] at hi Li
  refine⟨Pk W k,k+1,fun j=>if j=i then 1 else 0,i+1,fun i hi=>iW (by walk_at"o"),by walk_at"o",by walk_at"o",.inr ⟨?_,?_⟩⟩
  ·rw[sq,z,show ((0:Int):Rat)=0 from rfl]
   grind
  ·rw[sf cl dk fun _=>rfl]
   have c:=ar Li
   have pn:((Dk W k:Int):Rat)*(B:Rat) ≠ 0:=by grind
   rw[Rat.div_def]
   intro y
   rcases Rat.mul_eq_zero.mp y with y|y
   ·exact c y
   ·grind
theorem oF{qs:List (Int × Int)}{W:Nat->Int}{B:Int}{M:Nat}(cl:m4 qs W B)(my:pc W qs.length M)(b:fA (cf qs) qs.length):uA W qs.length M:=Classical.byContradiction fun nf=>by
 obtain⟨f,L,v,N,hf,hL,hN,z⟩:=b
 obtain⟨p1,p2⟩:=Hx cl my nf hf hL
 rcases z with z|⟨z,y⟩
 ·grind
 ·exact y (p2 z v N hN)
theorem m9{W:Nat->Int}{k:Nat}{rs:List (Int × Int)}(po:aL rs)(hD:Dk W k ≠ 0)(num:∀ j,cf rs j=((qk W k j:Int):Rat) / ((Dk W k:Int):Rat)):rs.length=k+1:=by
 have c0:((0:Int):Rat)=0:=rfl
 refine Nat.le_antisymm (j9 po fun j hj=>?_) (Nat.not_lt.mp fun z=>?_)
 ·rw[num,fD (by walk_at"o"),c0]
  grind
 ·have e:=num k
  rw[cC (by walk_at"o"),gh] at e
  have:=ar hD
  grind
theorem tJ{W:Nat->Int}{k:Nat}(hD:Dk W k ≠ 0)(hk:k<=6)(bW:∀ i,Bt 170 (W i)):Pb 1100 (Pk W k) :=
 ⟨Dk W k,hD,(pG bW hk).mono (by decide),fun j=>⟨qk W k j,rfl,by
  by_cases h:k<=5
  ·exact (qc bW h).mono (by decide)
  ·obtain rfl:k=6:=by walk_at"o"
   have:=qq (B:=2 ^ 170) (k:=6) (fun i=>Nat.le_of_lt (bW i)) j
   exact Nat.lt_of_le_of_lt this (by decide +kernel)⟩⟩
def Pl(fs:List (Int × Int)):Prop:=aL fs/\fs.length<=12 /\ ∀ q ∈ fs,Bq 2000 q
def Fu(d:D):Prop:=∃(w:Str)(fs:List (Int × Int)),(w = "below" \/ w = "nought")/\Pl fs/\(d = .tup [.str w,.lst (fs.map fr)] \/ ∃ gs:List (Int × Int),Pl gs/\d = .tup [.str w,.lst (fs.map fr),.lst (gs.map fr)])
theorem yb.same{qs:List (Int × Int)}{W:Nat->Int}{B:Int}{M:Nat}{G G':Hp}{p:Addr}{s:Str}(h:yb qs W B M G p s)(S:ay G G'):yb qs W B M G' p s:=by
 obtain⟨k,l,ys,h1,h2,h3,h4,h5,h6⟩:=h
 refine⟨k,l,ys,S _ _ h1,h2,fun z=>?_,fun z=>?_,fun z=>?_,fun z=>?_⟩
 ·obtain⟨rs,a,b⟩:=h3 z
  exact⟨rs,a.same S,b⟩
 ·obtain⟨rs,a,b⟩:=h4 z
  exact⟨rs,a.same S,b⟩
 ·obtain⟨e,rs,a,b⟩:=h5 z
  exact⟨e,rs,a.same S,b⟩
 ·obtain⟨l2,i,rs,e,a,b,c,d,f⟩:=h6 z
  exact⟨l2,i,rs,e,a.same S,b,c,d.same S,f⟩
theorem DU{W:Nat->Int}{k:Nat}(hD:Dk W k ≠ 0)(hk:k<=5)(bW:∀ i,Bt 170 (W i)):Pb 869 (Pk W k) :=
 ⟨Dk W k,hD,(Dv bW hk).mono (by walk_at"o"),fun j=>⟨qk W k j,rfl,(Ay bW hk).mono (by walk_at"o")⟩⟩
theorem yb.roots{qs:List (Int × Int)}{W:Nat->Int}{B:Int}{M:Nat}{G:Hp}{p:Addr}{s:Str}(o:yb qs W B M G p s)(l11:qs.length<=11)(my:pc W qs.length M)(ts:s = "tight" \/ s = "open"):∃ (l:Addr)(rs:List (Int × Int))(k:Nat),G p=some (.tup [.str s,.ref l])/\aM G l rs/\aL rs/\(∀ j,cf rs j=Pk W k j)/\(∀ i,i<=k->0<Dk W i)/\k<=M/\k<=6/\k<=qs.length/\2*k<=qs.length+1/\(s = "open" -> 0<Dk W M/\qs.length<=2*M):=by
 have m1:=my.one
 have m2:=my.most
 obtain⟨l,ys,hp,h2,h3,h4,_,_⟩:=o.at_
 obtain rfl:=h2 ts
 rcases o.kind with ⟨_,z⟩|⟨_,_,z⟩|⟨_,_,z⟩|⟨d,z⟩
 ·rcases ts with y|y <;> exact absurd (z.symm.trans y) (by decide +kernel)
 ·rcases ts with y|y <;> exact absurd (z.symm.trans y) (by decide +kernel)
 ·obtain⟨rs,a,b,c⟩:=h3 z
  exact⟨l,rs,M - 1,hp,a,b,c,fun i hi=>my.up i (by walk_at"o"),by walk_at"o",by walk_at"o",by walk_at"o",by walk_at"o",fun y=>absurd (z.symm.trans y) (by decide +kernel)⟩
 ·obtain⟨rs,a,b,c⟩:=h4 z
  refine⟨l,rs,M,hp,a,b,c,fun i hi=>?_,by walk_at"o",by walk_at"o",by walk_at"o",by walk_at"o",fun _=>⟨d,?_⟩⟩
  ·by_cases e:i=M
   ·rw[e];exact d
   ·exact my.up i (by walk_at"o")
  ·rcases my.all with y|y
   ·exact y
   ·walk_at"o"
theorem yb.which{qs:List (Int × Int)}{W:Nat->Int}{B:Int}{M:Nat}{G:Hp}{p:Addr}{s:Str}(o:yb qs W B M G p s):(s = "below" \/ s = "nought")\/s = "tight" \/ s = "open":=by
 rcases o.kind with ⟨_,z⟩|⟨_,_,z⟩|⟨_,_,z⟩|⟨_,z⟩
 ·exact .inl (.inl z)
 ·exact .inl (.inr z)
 ·exact .inr (.inl z)
 ·exact .inr (.inr z)
def gq(K:W.Frag):Sp:=fun vs H Q _=>∃ (y:V)(q:Int × Int),vs=[y]/\aJ (vw K H) (fr q) y /\ ∀ (b:Addr) H',ay (vw K H) (vw K H')->aM (vw K H') b [(-q.1,q.2),(1,1)]->Q (.ref b) H'
theorem rK(F:eM K "less_spot" "less_spot" fu f fd) (T:fL K mg):bK P w K mg base eI 1 f fd ["spot"] (gq K):=by
 have scN:=kh.nd
 refine F.okQ kh (fun vs H Q E h=>?_) (fun cdv A outer s H vs Q E hr h=>?_)
 ·obtain⟨_,_,rfl,_⟩:=h
  rfl
 ·obtain⟨y,q,rfl,hy,h⟩:=h
  obtain⟨z_ONE,hg_ONE,hv_ONE⟩:=T.g_ONE
  obtain⟨x,rfl,hx⟩:=hy.fr_at
  refine⟨_,(ah (ap (bC (aa (bQ (aa (de cn (aA b9 (qv 0) af (fun _ _=>rfl))) (aa (aA b9 (qv 0) af (fun _ _=>rfl)) ac))) (aa (eC (v:=V.ref z_ONE) rfl hg_ONE rfl) ac))))),?_⟩
  walk_at"m"
  walk_at"vc"
  refine⟨_,hx,_,dJ,_,rfl,_,hx,_,gm,by decide,fun p1 H1 hp1 S1 h1=>⟨by decide,fun p2 H2 hp2 S2 h2=>h p2 H2 (S1.trans S2) ⟨_,h2,.mk_cons (bU (S2 _ _ h1)) (.mk_cons (bU (hv_ONE _)) .mk_nil)⟩⟩⟩
theorem FR{q:Int × Int}{v:Nat->Rat}(f:Fq q)(j:Nat):pr (cf [(-q.1,q.2),(1,1)]) v 2 j=lx (wv q) v j:=by
 have c:=ar f.ne
 have e0:cf [(-q.1,q.2),(1,1)] 0 = -wv q:=by
  show wv (-q.1,q.2) = -wv q
  unfold wv
  rw[show (((-q.1:Int)):Rat) = -((q.1:Int):Rat) from Rat.intCast_neg _]
  grind
 have e1:cf [(-q.1,q.2),(1,1)] 1=1:=by
  show wv (1,1)=1
  decide +kernel
 show (0+(if 0<=j then cf [(-q.1,q.2),(1,1)] 0*v (j - 0) else 0))+(if 1<=j then cf [(-q.1,q.2),(1,1)] 1*v (j - 1) else 0)=_
 unfold lx
 rw[e0,e1,if_pos (Nat.zero_le _)]
 by_cases z:j=0
 ·rw[if_pos z,if_neg (by walk_at"o"),Nat.sub_zero]
  grind
 ·rw[if_neg z,if_pos (by walk_at"o"),Nat.sub_zero]
  grind
theorem E1{q:Int × Int}(f:Fq q):Fq (-q.1,q.2):=⟨f.1,by
 have:=f.2
 show Int.gcd (-q.1) q.2=1
 rw[Int.neg_gcd]
 exact this⟩
def wf(q:Int × Int)(ns:List Int):List Int:=List.zipWith (fun x y=>q.2*y - q.1*x) ns (ns.drop 1)
theorem jm{q:Int × Int}{ns:List Int}:(wf q ns).length=ns.length - 1:=by
 unfold wf
 rw[List.length_zipWith,List.length_drop]
 walk_at"o"
theorem zm{q:Int × Int}{ns:List Int}{i:Nat}(h:i+1<ns.length):(wf q ns)[i]? = some (q.2*ns[i+1] - q.1*ns[i]):=by
 unfold wf
 have e:(ns.drop 1)[i]? = some ns[i+1]:=by rw[List.getElem?_drop,Nat.add_comm 1 i,List.getElem?_eq_getElem h]
 rw[List.getElem?_zipWith,List.getElem?_eq_getElem (by walk_at"o" : i<ns.length),e]
def cW(K:W.Frag):Sp:=fun vs H Q _=>∃ (a:Addr)(y:V)(ns:List Int)(q:Int × Int)(B:Nat),vs=[.ref a,y]/\vw K H a=some (.lst (ns.map V.int))/\aJ (vw K H) (fr q) y/\1<=ns.length/\ns.length<=20/\(∀ n ∈ ns,Bt B n)/\B<=5000/\Bq 130 q /\
 ∀ (b:Addr) H',ay (vw K H) (vw K H')->vw K H b=none->vw K H' b=some (.lst ((wf q ns).map V.int))->Q (.ref b) H'
theorem nH(F:eM K "wholes_from" "wholes_from" dD f fd) (T:fL K mg):bK P w K mg base eI 1 f fd ["wholes", "spot"] (cW K):=by
 have scN:=iX.nd
 refine F.okQ iX (fun vs H Q E h=>?_) (fun cdv A outer s H vs Q E hr h=>?_)
 ·obtain⟨a,_,_,_,_,rfl,_⟩:=h
  rfl
 ·obtain⟨a,y,ns,q,B,rfl,ha,ry,hne,hl,hB,hB2,bq,h⟩:=h
  refine⟨_,(ae (cM (qv 1) (aX (n:=2) rfl (am (ak (i:=2) scN rfl (by walk_at"a1")) (am (ak (i:=3) scN rfl (by walk_at"a1")) aY))))
   (ah (ap (dF (own:=["before", "after"]) (outs:=["bottom", "top"]) (ixs:=[3,2]) rfl (uP rfl T.b_zip (aa (qv 0) (aa (cR fB (qv 0) (dU af) dZ) ac))) rfl ⟨rfl,rfl,rfl,⟨rfl,⟨rfl,trivial⟩⟩,rfl,⟨⟨rfl,rfl,rfl,_,rfl⟩,⟨⟨rfl,rfl,rfl,_,rfl⟩,trivial⟩⟩⟩ (fun _ _ _ _=>⟨(show QG _ _ (i6 K 2 _) from aX (n:=2) rfl (am (ak (i:=0) (show (["before", "after", "bottom", "top"]:List Str).Nodup by decide +kernel) rfl (by walk_at"a1")) (am (ak (i:=1) (show (["before", "after", "bottom", "top"]:List Str).Nodup by decide +kernel) rfl (by walk_at"a1")) aY))),dg,(ao dE (ao (show eK _ _ (gK K) from aH) (qv 2) (qv 1)) (ao (show eK _ _ (gK K) from aH) (qv 3) (qv 0)))⟩))))),?_⟩
  walk_at"m"
  obtain⟨p,rfl,hp⟩:=ry.fr_at
  walk_at"vc"
  refine⟨_,hp,rfl,?_⟩
  walk_at"vc"
  simp only[yC]
  walk_at"vc"
  refine⟨_,ha,fun p1 H1 hp1 S1 h1=>?_⟩
  rw[show (1:Int)=((1:Nat):Int) from rfl,kr (by simpa using hne),<- List.map_drop] at h1
  have ha1:=S1 _ _ ha
  refine⟨p1,rfl,true,⟨_,ha1⟩,true,⟨_,h1⟩,fun c H2 hc S2 h2=>?_⟩
  have lz:((ns.map V.int).zip ((ns.drop 1).map V.int)).length=(wf q ns).length:=by
   rw[jm,List.length_zip,List.length_map,List.length_map,List.length_drop]
   walk_at"o"
  refine lW (ps:=(ns.map V.int).zip ((ns.drop 1).map V.int)) (fun i zs H'=>ay (vw K H1) (vw K H')/\zs=((wf q ns).take i).map V.int) (fun i zs H' _ _ p=>⟨_,_,p.1 _ _ ha1,p.1 _ _ h1,oH.symm⟩) h2 ⟨S2,rfl⟩ (fun i u v zs H8 H9 hi huv h9 p S89=>?_) (fun zs H8 h8 p=>?_)
  ·obtain⟨S8,rfl⟩:=p
   rw[lz,jm] at hi
   have li:i+1<ns.length:=by walk_at"o"
   rw[List.getElem?_zip_eq_some,List.getElem?_map,List.getElem?_map,List.getElem?_drop,List.getElem?_eq_getElem (by walk_at"o" : i<ns.length),Nat.add_comm 1 i,List.getElem?_eq_getElem li] at huv
   obtain⟨e1,e2⟩:=huv
   cases e1
   cases e2
   walk_at"vc"
   refine⟨bO bq.2 (hB _ (List.getElem_mem li)) (by walk_at"o"),bO bq.1 (hB _ (List.getElem_mem _)) (by walk_at"o"),.mk2 h9 ?_ fun H10 B10 h10=>⟨fun b o e=>B10 _ _ (aj e hc) (S89 _ _ (S8 _ _ e)),?_⟩⟩
   ·rw[List.length_map,List.length_take]
    exact Nat.lt_of_le_of_lt (Nat.min_le_left _ _) (Nat.lt_of_lt_of_le (show i<20 by walk_at"o") (by decide))
   ·rw[List.take_add_one,zm li,List.map_append]
    rfl
  ·obtain⟨S8,rfl⟩:=p
   rw[lz,List.take_length] at h8
   exact h c H8 (S1.trans S8) (S1.none hc) h8
def dY(K:W.Frag):Sp:=fun vs H Q _=>∃ (a:Addr)(y:V)(ss:List (Int × Int))(q:Int × Int),vs=[.ref a,y]/\aM (vw K H) a ss/\aJ (vw K H) (fr q) y/\Fq q/\Bq 130 q/\1<=ss.length/\ss.length<=11/\(∀ p ∈ ss,Fq p/\Bq 131 p) /\
 ∀ (b:Addr) H' (qs:List (Int × Int)),ay (vw K H) (vw K H')->vw K H b=none->aM (vw K H') b qs->qs.length=ss.length - 1->(∀ (k:Nat)(p:Int × Int),qs[k]? = some p->Fq p/\wv p=cf ss (k+1) - wv q*cf ss k)->Q (.ref b) H'
theorem qN(F:eM K "sums_from" "sums_from" fk f fd) (T:fL K mg)(C_wholes_from:aS P w K mg base "wholes_from" ["wholes", "spot"] 1 (cW K)) (C_ratio:aS P w K mg base "ratio" ["top", "bottom"] 2 (cS K)) (C_cleared:aS P w K mg base "cleared" ["f"] 2 (aP K)):bK P w K mg base eI 3 f fd ["sums", "spot"] (dY K):=by
 have scN:=kP.nd
 refine F.okQ kP (fun vs H Q E h=>?_) (fun cdv A outer s H vs Q E hr h=>?_)
 ·obtain⟨a,_,_,_,rfl,_⟩:=h
  rfl
 ·obtain⟨a,y,ss,q,rfl,ha,ry,fq,bq,l1,l2,hs,h⟩:=h
  refine⟨_,(ae (cM (ai C_cleared (hr.mono (by walk_at"a2")) rfl (aa (qv 0) ac)) (aX (n:=2) rfl (am (ak (i:=2) scN rfl (by walk_at"a1")) (am (ak (i:=3) scN rfl (by walk_at"a1")) aY))))
   (ah (ap (dF (own:=["whole"]) (outs:=["bottom", "spot"]) (ixs:=[3,1]) rfl (cu (ai C_wholes_from (hr.mono (by walk_at"a2")) rfl (aa (qv 2) (aa (qv 1) ac)))) rfl ⟨rfl,rfl,rfl,⟨rfl,⟨rfl,trivial⟩⟩,rfl,⟨⟨rfl,rfl,rfl,_,rfl⟩,⟨⟨rfl,rfl,rfl,_,rfl⟩,trivial⟩⟩⟩ (fun _ _ _ _=>⟨(ak (i:=0) (show (["whole", "bottom", "spot"]:List Str).Nodup by decide +kernel) rfl (by walk_at"a1")),dg,(ai C_ratio (hr.mono (by walk_at"a2")) rfl (aa (qv 0) (aa (ao (show eK _ _ (gK K) from aH) (qv 1) (aA (show uX _ (yD K) from b9) (qv 2) af (fun _ _=>rfl))) ac)))⟩))))),?_⟩
  walk_at"m"
  obtain⟨yp,rfl,hyp⟩:=id ry.fr_at
  refine aR.gen fun N1 hN1=>?_
  walk_at"vc"
  simp only[aP]
  refine⟨a,ss,131,rfl,ha,by walk_at"o",by decide,hs,fun p1 b1 H1 D ns S1 h1 hb1 _ hD bD ln hn _=>?_⟩
  walk_at"vc"
  refine⟨_,h1,rfl,?_⟩
  walk_at"vc"
  refine hN1 _ _ ?_
  walk_at"vc"
  simp only[cW]
  have hB:∀ n ∈ ns,Bt 1573 n:=fun n z=>by
   obtain⟨i,hi⟩:=List.getElem?_of_mem z
   have li:=(List.getElem?_eq_some_iff.mp hi).1
   exact (hn i n _ hi (List.getElem?_eq_getElem (by walk_at"o"))).2.mono (by walk_at"o")
  have hyp1:=S1 _ _ hyp
  refine⟨b1,_,ns,q,1573,rfl,hb1,bU hyp1,by walk_at"o",by walk_at"o",hB,by decide,bq,fun b2 H2 S2 _ h2=>?_⟩
  have hne:D*q.2 ≠ 0:=Int.mul_ne_zero (by walk_at"o") fq.ne
  have bDq:Bt 1600 (D*q.2):=(bD.mul bq.2).mono (by walk_at"o")
  refine⟨b2,rfl,⟨_,.of (aF h2)⟩,fun c H3 hc S3 h3=>?_⟩
  refine bY (its:=(wf q ns).map V.int) (fun i zs H'=>ay (vw K H2) (vw K H')/\aE (vw K H') ((((wf q ns).take i).map fun n=>lo n (D*q.2)).map fr) zs) (fun i zs H' _ _ p=>aU (p.1 _ _ h2)) h3 ⟨S3,.mk_nil⟩ (fun i x zs H4 hi hx h4 p=>?_) (fun zs H4 h4 p=>?_)
  ·obtain⟨S4,r4⟩:=p
   rw[List.length_map,jm] at hi
   rw[List.getElem?_map] at hx
   cases e:(wf q ns)[i]? with
   | none=>rw[e] at hx;cases hx
   | some n =>
    rw[e] at hx
    cases hx
    walk_at"vc"
    refine⟨_,(S2.trans S4) _ _ hyp1,_,gm,?_⟩
    walk_at"vc"
    simp only[cS]
    refine⟨bO bD bq.2 (by walk_at"o"),n,_,rfl,hne,bDq.mono (by decide),fun v H5 S5 r5=>.mk (S5 _ _ h4) ?_ fun H6 B6 h6=>⟨fun b o e=>B6 _ _ (aj e hc) (S5 _ _ (S4 _ _ e)),?_⟩⟩
    ·rw[r4.length,List.length_map,List.length_map,List.length_take]
     exact Nat.lt_of_le_of_lt (Nat.min_le_left _ _) (Nat.lt_of_lt_of_le (show i<20 by walk_at"o") (by decide))
    ·rw[List.take_add_one,e,List.map_append,List.map_append]
     exact (aE.flat_but (S5 _ _ h4) B6 _ _ (dP _) (r4.same S5)).snoc (aJ.flat_but (S5 _ _ h4) B6 _ _ (cr _) r5)
  ·obtain⟨S4,r4⟩:=p
   rw[List.length_map,List.take_length] at r4
   refine h c H4 _ (S1.trans (S2.trans S4)) (S1.none (S2.none hc)) ⟨zs,h4,r4⟩ (by rw[List.length_map,jm,ln]) fun k p e=>?_
   rw[List.getElem?_map] at e
   have lk:k+1<ns.length:=by
    cases e2:(wf q ns)[k]? with
    | none=>rw[e2] at e;cases e
    | some n =>
     have:=(List.getElem?_eq_some_iff.mp e2).1
     rw[jm] at this
     walk_at"o"
   rw[zm lk] at e
   cases e
   refine⟨ir hne,?_⟩
   have w0:=(hn k _ _ (List.getElem?_eq_getElem (by walk_at"o")) (List.getElem?_eq_getElem (by walk_at"o"))).1
   have w1:=(hn (k+1) _ _ (List.getElem?_eq_getElem lk) (List.getElem?_eq_getElem (by walk_at"o"))).1
   rw[<- bJ (List.getElem?_eq_getElem (by walk_at"o" : k<ss.length))] at w0
   rw[<- bJ (List.getElem?_eq_getElem (by walk_at"o" : k+1<ss.length))] at w1
   rw[ii hne,Rat.intCast_sub,Rat.intCast_mul,Rat.intCast_mul,Rat.intCast_mul,w0,w1]
   have n1:(D:Rat) ≠ 0:=ar (by walk_at"o")
   have n2:(q.2:Rat) ≠ 0:=ar fq.ne
   show _=cf ss (k+1) - (q.1:Rat) / (q.2:Rat)*cf ss k
   grind
def du(K:W.Frag):Sp:=fun vs H Q _=>∃ (a b:Addr)(fs gs:List (Int × Int))(B:Nat),vs=[.ref a,.ref b]/\aM (vw K H) a fs/\aM (vw K H) b gs/\fs.length<=14/\gs.length<=14/\B<=20000/\fs.length*B+gs.length*B<=900000/\(∀ q ∈ fs,Fq q/\Bq B q)/\(∀ q ∈ gs,Fq q/\Bq B q) /\
 ∀ c H' (rs:List (Int × Int)),ay (vw K H) (vw K H')->aM (vw K H') c rs->vw K H c=none->aL rs->(∀ k,cf rs k=pr (cf fs) (cf gs) fs.length k)->rs.length<=fs.length+gs.length->(∀ q ∈ rs,Bq (2+fs.length*B+gs.length*B+B+B+fs.length) q)->Q (.ref c) H'
theorem ph(F:eM K "multiplied" "multiplied" d9 f fd) (T:fL K mg)(C_cleared:aS P w K mg base "cleared" ["f"] 2 (aP K)) (C_divided:aS P w K mg base "divided" ["wholes", "bottom"] 3 (cz K)) (C_wholes_multiplied:aS P w K mg base "wholes_multiplied" ["one", "other"] 1 (aT K)):bK P w K mg base eI 4 f fd ["f", "g"] (du K):=by
 have scN:=j0.nd
 refine F.okQ j0 (fun vs H Q E h=>?_) (fun cdv A outer s H vs Q E hr h=>?_)
 ·obtain⟨a,_,_,_,_,rfl,_⟩:=h
  rfl
 ·obtain⟨a,b,fs,gs,B,rfl,ha,hb,lf,lg',hB,hBB,hf,hg,h⟩:=h
  refine⟨_,(ae (cM (ai C_cleared (hr.mono (by walk_at"a2")) rfl (aa (qv 0) ac)) (aX (n:=2) rfl (am (ak (i:=2) scN rfl (by walk_at"a1")) (am (ak (i:=3) scN rfl (by walk_at"a1")) aY))))
   (ae (cM (ai C_cleared (hr.mono (by walk_at"a2")) rfl (aa (qv 1) ac)) (aX (n:=2) rfl (am (ak (i:=4) scN rfl (by walk_at"a1")) (am (ak (i:=5) scN rfl (by walk_at"a1")) aY))))
   (ah (ap (ai C_divided (hr.mono (by walk_at"a2")) rfl (aa (ai C_wholes_multiplied (hr.mono (by walk_at"a2")) rfl (aa (qv 2) (aa (qv 4) ac))) (aa (ao aH (qv 3) (qv 5)) ac))))))),?_⟩
  walk_at"m"
  walk_at"vc"
  simp only[aP]
  walk_at"vc"
  refine⟨fs,ha,lf,B,Nat.le_trans hB (by decide),hf,fun p1 a1 H1 D1 ms S1 h1 ha1 _ hD1 bD1 lm hm _=>⟨_,h1,rfl,?_⟩⟩
  walk_at"vc"
  refine⟨gs,hb.same S1,lg',B,Nat.le_trans hB (by decide),hg,fun p2 b1 H2 D2 ns S2 h2 hb1 _ hD2 bD2 ln hn _=>⟨_,h2,rfl,?_⟩⟩
  walk_at"vc"
  simp only[aT]
  walk_at"vc"
  have bm:∀ x ∈ ms,Bt (1+fs.length*B+B) x:=fun x hx=>by
   obtain⟨i,hi⟩:=List.mem_iff_getElem?.mp hx
   have hil:=(List.getElem?_eq_some_iff.mp hi).1
   exact (hm i x _ hi (List.getElem?_eq_getElem (show i<fs.length by walk_at"o"))).2
  have bn:∀ x ∈ ns,Bt (1+gs.length*B+B) x:=fun x hx=>by
   obtain⟨i,hi⟩:=List.mem_iff_getElem?.mp hx
   have hil:=(List.getElem?_eq_some_iff.mp hi).1
   exact (hn i x _ hi (List.getElem?_eq_getElem (show i<gs.length by walk_at"o"))).2
  refine⟨ms,S2 _ _ ha1,ns,hb1,by walk_at"o",by walk_at"o",1+fs.length*B+B,by walk_at"o",1+gs.length*B+B,by walk_at"o",bm,bn,fun c3 H3 L S3 h3 _ hL _ zL=>?_⟩
  walk_at"vc"
  refine⟨bO bD1 bD2 (by walk_at"o"),?_⟩
  simp only[cz]
  walk_at"vc"
  have nz1:D1*D2 ≠ 0:=Int.mul_ne_zero (by walk_at"o") (by walk_at"o")
  have bz:=va (i8 bm) (i8 bn) ms.length
  refine⟨_,h3,by rw[aW];walk_at"o",nz1,(bD1.mul bD2).mono (by walk_at"o"),fun c4 H4 rs S4 l4 n4 p4 c4' e4 q4=>h c4 H4 rs (S1.trans (S2.trans (S3.trans S4))) l4 ?_ p4 (fun k=>?_) (by rw[aW] at e4;walk_at"o") fun q hq=>?_⟩
  ·cases e:vw K H c4 with
   | none=>rfl
   | some o=>rw[S3 _ _ (S2 _ _ (S1 _ _ e))] at n4;cases n4
  ·rw[c4' k]
   have e1:nz (lz L (pz (nz ms) (nz ns) ms.length)) k=pz (nz ms) (nz ns) ms.length k:=by
    by_cases hk:k<L
    ·exact uW hk
    ·rw[zL k (by walk_at"o"),cF (by rw[aW];walk_at"o")]
   rw[e1,m7 (fI lm fun i n q e1 e2=>(hm i n q e1 e2).1) (fI ln fun i n q e1 e2=>(hn i n q e1 e2).1),Rat.intCast_mul,lm]
   have c1:=ar (show D1 ≠ 0 by walk_at"o")
   have c2:=ar (show D2 ≠ 0 by walk_at"o")
   grind
  ·obtain⟨n,hn',rfl⟩:=q4 q hq
   obtain⟨k,hk,rfl⟩:=List.mem_map.mp hn'
   exact oB nz1 ((bz k).mono (by walk_at"o")) ((bD1.mul bD2).mono (by walk_at"o"))
def eZ(K:W.Frag):Sp:=fun vs H Q _=>∃ x d,vs=[x]/\aJ (vw K H) d x/\Q (.bl d.isInt) H
theorem td(F:eM K "is_whole" "is_whole" fU f fd) (T:fL K mg):bK P w K mg base eI 1 f fd ["thing"] (eZ K):=by
 have scN:=mj.nd
 refine F.okQ mj (fun vs H Q E h=>?_) (fun cdv A outer s H vs Q E hr h=>?_)
 ·obtain⟨a,_,rfl,_⟩:=h
  rfl
 ·obtain⟨x,d,rfl,hx,h⟩:=h
  refine⟨_,(ah (ap (lI (au fj (by rfl) T.b_isinstance dA (aa (qv 0) (aa (jN (v:=V.ty "int") rfl T.b_int DY rfl) ac))) (lU (EJ (au fj (by rfl) T.b_isinstance dA (aa (qv 0) (aa (jN (v:=V.ty "bool") rfl T.b_bool Bi rfl) ac)))))))),?_⟩
  walk_at"m"
  have ht:=aJ.ty hx
  walk_at"vc*"
  cases d <;> simpa [D.ty,iQ,D.isInt] using h
def fJ(K:W.Frag):Sp:=fun vs H Q _=>∃ x d,vs=[x]/\aJ (vw K H) d x/\Q (.bl d.frac) H
theorem oC(F:eM K "is_fraction" "is_fraction" dz f fd) (T:fL K mg)(C_is_whole:aS P w K mg base "is_whole" ["thing"] 1 (eZ K))
  (C_greatest_divisor:aS P w K mg base "greatest_divisor" ["one", "other"] 1 (bj K)):bK P w K mg base eI 2 f fd ["thing"] (fJ K):=by
 have scN:=i4.nd
 refine F.okQ i4 (fun vs H Q E h=>?_) (fun cdv A outer s H vs Q E hr h=>?_)
 ·obtain⟨a,_,rfl,_⟩:=h
  rfl
 ·obtain⟨x,d,rfl,hx,h⟩:=h
  refine⟨_,(ae (cc (QW.pt (mh (dO (dH (au fj (by rfl) T.b_isinstance dA (aa (qv 0) (aa (jN (v:=V.ty "tuple") rfl T.b_tuple oh rfl) ac))))) (kW (aQ vC (au aB (by rfl) T.b_len aV (aa (qv 0) ac)) af (aI _))))) (ah (ap fZ)) aN)
   (ae (cM (qv 0) (aX (n:=2) rfl (am (ak (i:=1) scN rfl (by walk_at"a1")) (am (ak (i:=2) scN rfl (by walk_at"a1")) aY))))
   (ae (cc (QW.pt (mh (dO (dH (ai C_is_whole (hr.mono (by walk_at"a2")) rfl (aa (qv 1) ac)))) (mh (dO (dH (ai C_is_whole (hr.mono (by walk_at"a2")) rfl (aa (qv 2) ac)))) (kW (aQ mv (qv 2) af (aI _)))))) (ah (ap fZ)) aN)
   (ah (ap (cE gX (ai C_greatest_divisor (hr.mono (by walk_at"a2")) rfl (aa (qv 1) (aa (qv 2) ac))) af (aI _))))))),?_⟩
  walk_at"m"
  have ht:=aJ.ty hx
  walk_at"vc*"
  simp only[eZ,bj]
  walk_at"vc*"
  cases d with
  | tup ds =>
   obtain⟨a,xs,rfl,ha,r⟩:=hx.tup_at
   refine io (by simp[D.ty,iQ]) ⟨a,rfl,xs.length,by simp only[fz,ha],ce (fun hl=>?_) (fun hl=>?_)⟩
   ·have e:(D.tup ds).frac=false:=by
     cases e:(D.tup ds).frac with
     | false=>rfl
     | true =>
      obtain⟨_,_,rfl,_⟩:=D.frac_tup e
      have:=r.length
      simp at this
      walk_at"o"
    rw[e] at h
    exact h
   ·obtain⟨d1,d2,x1,x2,rfl,rfl,r1,r2⟩:=r.pair (by walk_at"o")
    refine⟨a,rfl,_,ha,rfl,_,_,rfl,_,_,rfl,rfl,d1,r1,ce (fun i1=>?_) (fun i1=>⟨d2,r2,ce (fun i2=>?_) (fun i2=>?_)⟩)⟩
    ·cases d1 <;> first|exact h|cases i1
    ·cases d1 <;> cases d2 <;> first|exact h|cases i2
    ·obtain⟨i1',rfl⟩:=D.isInt_of i1
     obtain⟨i2',rfl⟩:=D.isInt_of i2
     cases r1.int_at
     cases r2.int_at
     refine⟨_,rfl,ce (fun hi=>?_) (fun hi=>⟨_,rfl,_,rfl,?_⟩)⟩
     ·have e:=Cb (t:=i1') (b:=i2') (by walk_at"o")
      rw[e] at h
      exact h
     ·have e:=A7 (t:=i1') (b:=i2') (by walk_at"o")
      rw[e] at h
      exact h
  | _=>exact oU (by simp[D.ty,iQ]) h
def cx(K:W.Frag):Sp:=fun vs H Q _=>∃ x d,vs=[x]/\aJ (vw K H) d x/\Q (.bl d.poly) H
theorem lj(F:eM K "is_polynomial" "is_polynomial" cH f fd) (T:fL K mg)(C_is_fraction:aS P w K mg base "is_fraction" ["thing"] 2 (fJ K)):bK P w K mg base eI 3 f fd ["thing"] (cx K):=by
 have scN:=ij.nd
 refine F.okQ ij (fun vs H Q E h=>?_) (fun cdv A outer s H vs Q E hr h=>?_)
 ·obtain⟨a,_,rfl,_⟩:=h
  rfl
 ·obtain⟨x,d,rfl,hx,h⟩:=h
  obtain⟨z_ZERO,hg_ZERO,hv_ZERO⟩:=T.g_ZERO
  refine⟨_,(ae (cc (dO (dH (au fj (by rfl) T.b_isinstance dA (aa (qv 0) (aa (jN (v:=V.ty "list") rfl T.b_list gR rfl) ac))))) (ah (ap fZ)) aN)
   (ae (cT PassesOwn.never rfl (cu (qv 0)) (ak (i:=1) scN rfl (by walk_at"a1")) (ah (cc (dO (dH (ai C_is_fraction (hr.mono (by walk_at"a2")) rfl (aa (qv 1) ac)))) (ah (ap fZ)) aN)))
   (ah (ap (y6 (cE gX (au aB (by rfl) T.b_len aV (aa (qv 0) ac)) af (aI _)) (lU (cE (ub hr.u64) (aA dL (qv 0) (de cn af) (fun _ _=>rfl)) (eC (v:=V.ref z_ZERO) rfl hg_ZERO rfl) (aI _)))))))),?_⟩
  walk_at"m"
  have ht:=aJ.ty hx
  walk_at"vc*"
  cases d with
  | lst ds =>
   obtain⟨a,xs,rfl,ha,r⟩:=hx.lst_at
   refine io (by simp[D.ty,iQ]) ⟨a,rfl,⟨xs,.of (aF ha)⟩,?_⟩
   refine cg (its:=xs) (fun i σ H'=>H'=H/\(∃ y,σ=[some (.ref a),y])/\(ds.take i).all D.frac=true) (fun i σ H' _ p=>by cases p.1;exact aU ha) ⟨rfl,⟨_,rfl⟩,rfl⟩ ?_ ?_
   ·rintro i x σ H' hi hx' ⟨rfl,⟨y,rfl⟩,hall⟩
    obtain⟨d',hd',r'⟩:=r.get hx'
    walk_at"vc"
    simp only[fJ]
    walk_at"vc"
    refine⟨d',r',ce (fun hf=>?_) (fun hf=>?_)⟩
    ·have e:(D.lst ds).poly=false:=by
      unfold D.poly
      rw[Bool.and_eq_false_iff]
      exact .inl (List.all_eq_false.mpr ⟨d',List.mem_of_getElem? hd',by simpa using hf⟩)
     rw[e] at h
     exact h
    ·rw[List.take_add_one,hd']
     simp only[List.all_append,hall,Option.toList,List.all_cons,List.all_nil]
     simpa using hf
   ·rintro σ H' ⟨rfl,⟨y,rfl⟩,hall⟩
    have hall':ds.all D.frac=true:=by rwa [r.length,List.take_length] at hall
    have hlen:fz (vw K H') a=some xs.length:=by simp only[fz,ha]
    walk_at"vc"
    refine⟨_,hlen,ce (fun h0=>?_) (fun h0=>?_)⟩
    ·have e:ds=[]:=by
      have:=r.length
      exact List.eq_nil_of_length_eq_zero (by walk_at"o")
     subst e
     exact h
    ·have hn:ds ≠ []:=by
      rintro rfl
      exact h0 (by rw[r.length];rfl)
     obtain⟨q,hq,fq⟩:=uD hall' hn
     obtain⟨x,hx',rx⟩:=r.last hq
     refine⟨_,ha,x,eP hx',_,rx,fr (0,1),bU (hv_ZERO _),gi _,gi _,?_⟩
     rw[lC]
     have e:(D.lst ds).poly = !decide (q=(0,1)):=by
      show (ds.all D.frac && j7 ds)=_
      rw[hall',Bool.true_and]
      exact lY hq
     rw[e] at h
     exact h
  | _=>exact oU (by simp[D.ty,iQ]) h
def dC(K:W.Frag):Sp:=fun vs H Q _=>∃ (a b c:Addr)(qs fs gs:List (Int × Int)),vs=[.ref a,.ref b,.ref c]/\aM (vw K H) a qs/\aM (vw K H) b fs/\aM (vw K H) c gs/\qs.length<=12/\fs.length<=11/\gs.length<=14/\(∀ q ∈ qs,Fq q/\Bq 131 q)/\(∀ q ∈ fs,Fq q/\Bq 2000 q)/\(∀ q ∈ gs,Fq q/\Bq 2000 q) /\
 (∀ rs,aL rs->(∀ k,cf rs k=pr (cf fs) (cf gs) fs.length k)->rs.length<=qs.length) /\
 ∀ v H' r,ay (vw K H) (vw K H')->aJ (vw K H') (fr r) v->Fq r->wv r=aG (fun m=>pr (cf fs) (cf gs) fs.length m) (cf qs) (fs.length+gs.length)->Q v H'
theorem oZ(F:eM K "square_sum" "square_sum" eD f fd) (T:fL K mg)(C_worth:aS P w K mg base "worth" ["sums", "f"] 3 (gf K)) (C_multiplied:aS P w K mg base "multiplied" ["f", "g"] 4 (du K)):bK P w K mg base eI 5 f fd ["sums", "f", "g"] (dC K):=by
 have scN:=jW.nd
 refine F.okQ jW (fun vs H Q E h=>?_) (fun cdv A outer s H vs Q E hr h=>?_)
 ·obtain⟨a,_,_,_,_,_,rfl,_⟩:=h
  rfl
 ·obtain⟨a,b,c,qs,fs,gs,rfl,ha,hb,hc,lq,lf,lg',hq,hf,hg,hl,h⟩:=h
  refine⟨_,(ah (ap (ai C_worth (hr.mono (by walk_at"a2")) rfl (aa (qv 0) (aa (ai C_multiplied (hr.mono (by walk_at"a2")) rfl (aa (qv 1) (aa (qv 2) ac))) ac))))),?_⟩
  walk_at"m"
  walk_at"vc"
  simp only[du,gf]
  walk_at"vc"
  refine⟨fs,hb,gs,hc,by walk_at"o",by walk_at"o",2000,by decide,by walk_at"o",hf,hg,fun d H1 rs S1 l1 _ p1 w1 n1 b1=>?_⟩
  refine⟨qs,ha.same S1,rs,l1,hl rs p1 w1,lq,(by have:=hl rs p1 w1;walk_at"o"),hq,fun q hq'=>⟨p1.1 q hq',(b1 q hq').mono (by walk_at"o")⟩,fun v H2 r S2 r2 f2 w2=>h v H2 r (S1.trans S2) r2 f2 ?_⟩
  rw[w2,<- gv (n:=rs.length) (fun i hi=>by rw[cC hi];grind) (fs.length+gs.length - rs.length),show rs.length+(fs.length+gs.length - rs.length)=fs.length+gs.length by walk_at"o"]
  exact bI _ (fun i _=>w1 i) fun _ _=>rfl
def jO(K:W.Frag):Sp:=fun vs H Q _=>∃ (a b c:Addr)(qs fs gs:List (Int × Int)),vs=[.ref a,.ref b,.ref c]/\aM (vw K H) a qs/\aM (vw K H) b fs/\aM (vw K H) c gs /\ ∀ t:Bool,(t=true ↔ (fs=[]\/gs=[]\/fs.length+gs.length<=qs.length+1))->Q (.bl t) H
theorem AT(F:eM K "fits" "fits" lS f fd) (T:fL K mg):bK P w K mg base eI 1 f fd ["sums", "f", "g"] (jO K):=by
 have scN:=wD.nd
 refine F.okQ wD (fun vs H Q E h=>?_) (fun cdv A outer s H vs Q E hr h=>?_)
 ·obtain⟨a,_,_,_,_,_,rfl,_⟩:=h
  rfl
 ·obtain⟨a,b,c,qs,fs,gs,rfl,ha,hb,hc,h⟩:=h
  refine⟨_,(ah (ap (y6 (wz (qv 1)) (y6 (wz (qv 2)) (lU (cE C4 (ao dE (ao cb (au aB (by rfl) T.b_len aV (aa (qv 1) ac)) (au aB (by rfl) T.b_len aV (aa (qv 2) ac))) af) (au aB (by rfl) T.b_len aV (aa (qv 0) ac)) (aI _))))))),?_⟩
  walk_at"m"
  walk_at"vc"
  simp only[yY]
  walk_at"vc"
  obtain⟨xs,hxs,rxs⟩:=id hb
  obtain⟨ys,hys,rys⟩:=id hc
  have lx:=rxs.length
  have ly:=rys.length
  rw[List.length_map] at lx ly
  refine⟨_,iJ hxs,ce (fun e=>?_) (fun e=>⟨_,iJ hys,ce (fun e'=>?_) (fun e'=>⟨_,hb.len,_,hc.len,_,ha.len,?_⟩)⟩)⟩
  ·have e2:xs=[]:=by simpa using e
   exact h true ⟨fun _=>.inl (List.eq_nil_of_length_eq_zero (by rw[<- lx,e2];rfl)),fun _=>rfl⟩
  ·have e2:ys=[]:=by simpa using e'
   exact h true ⟨fun _=>.inr (.inl (List.eq_nil_of_length_eq_zero (by rw[<- ly,e2];rfl))),fun _=>rfl⟩
  ·refine h _ ⟨fun z=>?_,fun z=>?_⟩
   ·have z':=of_decide_eq_true z
    exact .inr (.inr (by walk_at"o"))
   ·rcases z with z|z|z
    ·rw[z] at lx
     exact absurd (by rw[List.eq_nil_of_length_eq_zero lx];rfl) e
    ·rw[z] at ly
     exact absurd (by rw[List.eq_nil_of_length_eq_zero ly];rfl) e'
    ·exact decide_eq_true (by walk_at"o")
theorem yT{S u v:Nat->Rat}{a b:Nat}(bv:Bd b v)(h:a+b<=20):aG (fun m=>pr u v a m) S (a+b)=ip S u v a b:=by
 rw[Aq bv h]
 have:=gv (f:=fun m=>pr u v a m) (h:=S) (n:=a+b) (fun i hi=>by
  show pr u v a i*S i=0
  rw[iz bv _ _ (by walk_at"o")]
  grind) (20 - (a+b))
 rw[show a+b+(20 - (a+b))=20 by walk_at"o"] at this
 exact this.symm
theorem yy(fs:List (Int × Int)):Bd fs.length (cf fs):=fun i hi=>cC hi
theorem Dp{f:Nat->Rat}:∀ n k,pr f (cf []) n k=0
 | 0,_=>rfl
 | n+1,k=>by
  show pr f (cf []) n k+(if n<=k then f n*cf [] (k - n) else 0)=0
  rw[Dp n k,yR]
  split <;> grind
def tW(n:Nat)(fs gs:List (Int × Int)):Prop:=fs=[]\/gs=[]\/fs.length+gs.length<=n+1
def yf(qs fs gs:List (Int × Int)):Rat:=ip (cf qs) (cf fs) (cf gs) fs.length gs.length
theorem qS{n:Nat}{fs gs us:List (Int × Int)}(h:tW n fs gs)(pu:aL us)(eu:∀ k,cf us k=pr (cf fs) (cf gs) fs.length k):us.length<=n:=by
 rcases h with z|z|z
 ·refine Nat.le_trans (j9 (m:=0) pu fun m hm=>?_) (by walk_at"o")
  rw[eu,z]
  rfl
 ·refine Nat.le_trans (j9 (m:=0) pu fun m hm=>?_) (by walk_at"o")
  rw[eu,z]
  exact Dp _ _
 ·by_cases e:fs.length+gs.length=0
  ·refine Nat.le_trans (j9 (m:=0) pu fun m hm=>?_) (by walk_at"o")
   rw[eu,show fs=[] from List.length_eq_zero_iff.mp (by walk_at"o")]
   rfl
  ·refine Nat.le_trans (j9 (m:=fs.length+gs.length - 1) pu fun m hm=>?_) (by walk_at"o")
   rw[eu]
   exact iz (n:=gs.length) (fun j hj=>cC hj) _ _ (by walk_at"o")
theorem zk{q:Int × Int}(f:Fq q):q.1<0 ↔ wv q<0:=by
 have p:(0:Rat)<((q.2:Int):Rat)⁻¹:=Rat.inv_pos.mpr (by exact_mod_cast f.1)
 unfold wv
 rw[Rat.div_def]
 constructor
 ·intro z
  have z':((q.1:Int):Rat)<0:=by exact_mod_cast z
  have:=Rat.mul_pos (show (0:Rat) < -((q.1:Int):Rat) by grind) p
  grind
 ·intro z
  refine Int.not_le.mp fun y=>?_
  have y':(0:Rat)<=((q.1:Int):Rat):=by exact_mod_cast y
  have:=Rat.mul_nonneg y' (Rat.le_of_lt p)
  grind
def qr(qs:List (Int × Int))(d:D):Prop:=(∃ fs,d = .tup [.str "below",.lst (fs.map fr)]/\aL fs/\tW qs.length fs fs/\yf qs fs fs<0) \/ ∃ fs gs,d = .tup [.str "nought",.lst (fs.map fr),.lst (gs.map fr)]/\aL fs/\aL gs/\tW qs.length fs fs/\tW qs.length fs gs/\yf qs fs fs=0/\yf qs fs gs ≠ 0
def Ht(d:D):Prop:=∀ ds,d = .tup ds -> ∀ e ∈ ds,∀ fs:List (Int × Int),e = .lst (fs.map fr)->aL fs->fs.length<=14 /\ ∀ q ∈ fs,Bq 2000 q
theorem mP{d:D}{w:Str}:AQ d (.str w)=true ↔ d = .str w:=by
 cases d <;> unfold AQ D.py <;> simp[PyData.eqv]
theorem qA{w:Str}(h:PyData.strOk w=true):(D.str w).cmp:=by
 unfold D.cmp D.py
 simp[PyData.canLay0,PyData.depth,h]
theorem Dd{H:Hp}{w:Str}:aJ H (.str w) (.str w):=by unfold aJ;rfl
def kE(K:W.Frag):Sp:=fun vs H Q _=>∃ (a:Addr)(x:V)(qs:List (Int × Int))(d:D),vs=[.ref a,x]/\aM (vw K H) a qs/\qs.length<=11/\(∀ q ∈ qs,iB q)/\aJ (vw K H) d x/\Ht d/\(∀ d0 ds,d = .tup (d0 :: ds)->d0.cmp) /\ ∀ (t:Bool) H',ay (vw K H) (vw K H')->(t=true ↔ qr qs d)->Q (.bl t) H'
theorem BR(F:eM K "bars" "bars" kX f fd) (T:fL K mg)(C_is_polynomial:aS P w K mg base "is_polynomial" ["thing"] 3 (cx K)) (C_fits:aS P w K mg base "fits" ["sums", "f", "g"] 1 (jO K)) (C_square_sum:aS P w K mg base "square_sum" ["sums", "f", "g"] 5 (dC K)):bK P w K mg base eI 6 f fd ["sums", "thing"] (kE K):=by
 have scN:=vm.nd
 refine F.okQ vm (fun vs H Q E h=>?_) (fun cdv A outer s H vs Q E hr h=>?_)
 ·obtain⟨_,_,_,_,rfl,_⟩:=h
  rfl
 ·obtain⟨a,x,qs,d,rfl,ha,l11,sq,hx,tb,sc,h⟩:=h
  obtain⟨z_ZERO,hg_ZERO,hv_ZERO⟩:=T.g_ZERO
  refine⟨_,(ae (cc (QW.pt (mh (dO (dH (au fj (by rfl) T.b_isinstance dA (aa (qv 1) (aa (jN (v:=V.ty "tuple") rfl T.b_tuple oh rfl) ac))))) (kW (aQ kI (au aB (by rfl) T.b_len aV (aa (qv 1) ac)) (bQ (aa af (aa af ac))) (by rfl))))) (ah (ap fZ)) aN)
   (ae (cT PassesOwn.never rfl (DK (cR mZ (qv 1) (dU af) dZ)) (ak (i:=2) scN rfl (by walk_at"a1")) (ah (cc (QW.pt (mh (dO (dH (ai C_is_polynomial (hr.mono (by walk_at"a2")) rfl (aa (qv 2) ac)))) (kW (dO (dH (ai C_fits (hr.mono (by walk_at"a2")) rfl (aa (qv 0) (aa (aA b9 (qv 1) af (fun _ _=>rfl)) (aa (qv 2) ac))))))))) (ah (ap fZ)) aN)))
   (ae (aC (i:=3) scN rfl (by walk_at"a1") (ai C_square_sum (hr.mono (by walk_at"a2")) rfl (aa (qv 0) (aa (aA b9 (qv 1) af (fun _ _=>rfl)) (aa (aA b9 (qv 1) af (fun _ _=>rfl)) ac)))))
   (ae (cc (aQ gX (au aB (by rfl) T.b_len aV (aa (qv 1) ac)) af (aI _)) (ah (ap (lI (cE (lO hr.u64) (aA b9 (qv 1) af (fun _ _=>rfl)) eF (aI _)) (lU (cE mv (aA b9 (qv 3) af (fun _ _=>rfl)) af (aI _)))))) aN)
   (ah (ap (lI (cE (lO hr.u64) (aA b9 (qv 1) af (fun _ _=>rfl)) eF (aI _)) (lI (cE (lO hr.u64) (qv 3) (eC (v:=V.ref z_ZERO) rfl hg_ZERO rfl) (aI _)) (lU (cE (ub hr.u64) (ai C_square_sum (hr.mono (by walk_at"a2")) rfl (aa (qv 0) (aa (aA b9 (qv 1) af (fun _ _=>rfl)) (aa (aA b9 (qv 1) af (fun _ _=>rfl)) ac)))) (eC (v:=V.ref z_ZERO) rfl hg_ZERO rfl) (aI _))))))))))),?_⟩
  walk_at"m"
  skip
  have no:¬ qr qs d -> ∀ H',ay (vw K H) (vw K H')->Q (.bl false) H':=fun n H' S=>h false H' S ⟨fun z=>(by cases z),fun z=>absurd z n⟩
  have ht:=aJ.ty hx
  have sm:∀ {us ws:List (Int × Int)},us.length<=11->ws.length<=11->tW qs.length us ws->us.length+ws.length<=20:=fun h1 h2 z=>by
   rcases z with z|z|z
   ·rw[z];simp;walk_at"o"
   ·rw[z];simp;walk_at"o"
   ·walk_at"o"
  refine aR.gen fun N1 hN1=>?_
  walk_at"vc"
  refine⟨_,ht,?_⟩
  cases d with
  | tup ds =>
   obtain⟨p,xs,rfl,hp,r⟩:=hx.tup_at
   have lds:=r.length
   refine io (by simp[D.ty,iQ]) ⟨p,rfl,xs.length,by simp only[fz,hp],by decide,fun t1 H1 ht1 S1 h1=>⟨t1,_,rfl,.inr (cY h1),rfl,rfl,?_⟩⟩
   by_cases l2:xs.length=2
   ·obtain⟨d0,d1,x0,x1,rfl,rfl,r0,r1⟩:=r.pair l2
    have e:(if true=true then !yd (V.int (([x0,x1]:List V).length:Nat)) [V.int 2,V.int 3] else yd (V.int (([x0,x1]:List V).length:Nat)) [V.int 2,V.int 3])=false:=by
     show (!yd (V.int 2) [V.int 2,V.int 3])=false
     decide +kernel
    rw[e]
    refine⟨false,rfl,io (by decide) (hN1 _ _ ?_)⟩
    have bt:∀ {fs:List (Int × Int)},d1 = .lst (fs.map fr)->qr qs (.tup [d0,d1])->aL fs/\d0 = .str "below" /\ tW qs.length fs fs/\yf qs fs fs<0:=fun e b=>by
     rcases b with ⟨gs,z,b1,b2,b3⟩|⟨gs,ks,z,_⟩
     ·injection z with z
      injection z with z0 z
      injection z with z1 _
      rw[e] at z1
      have:=gQ z1
      subst this
      exact⟨b1,z0,b2,b3⟩
     ·injection z with z
      have:=congrArg List.length z
      simp at this
    refine aR.gen fun N2 hN2=>?_
    walk_at"vc"
    simp only[sN]
    have e2:gu [x0,x1] (some 1) none=[x1]:=rfl
    refine⟨p,rfl,_,S1 _ _ hp,(fun z=>absurd z.1 (show ¬ HT.sIx 2 0 (some 1)=0 by decide)),fun p2 H2 hp2 S2 h2=>⟨p2,rfl,⟨_,cY h2⟩,?_⟩⟩
    rw[e2] at h2
    have S02:=S1.trans S2
    obtain⟨Pv,hPv⟩ : ∃ Pv:Nat->St->Hp->Prop,∀ i σ H',Pv i σ H' ↔ ∃ o,σ=[some (.ref a),some (.ref p),o,none]/\ay (vw K H2) (vw K H')/\(1<=i -> ∃ (l:Addr)(fs:List (Int × Int)),x1 = .ref l/\aM (vw K H) l fs/\d1 = .lst (fs.map fr)/\aL fs/\tW qs.length fs fs):=⟨_,fun _ _ _=>Iff.rfl⟩
    refine cg (its:=[x1]) Pv (fun i σ H' _ q=>?_) ((hPv _ _ _).mpr ⟨_,rfl,.rfl,by walk_at"o"⟩) (fun i y σ H3 hi hy pv=>?_) (fun σ H3 pv=>hN2 _ _ ?_)
    ·obtain⟨_,_,S',_⟩:=(hPv _ _ _).mp q
     exact qd (S' _ _ h2)
    ·obtain⟨o,rfl,S3,_⟩:=(hPv _ _ _).mp pv
     obtain rfl:i=0:=by simp at hi;walk_at"o"
     cases hy
     have S03:=S02.trans S3
     walk_at"vc"
     simp only[cx,jO]
     refine⟨_,d1,rfl,aJ.same S03 _ _ r1,_,rfl,ce (fun e5=>no (fun b=>?_) H3 S03) (fun e5=>?_)⟩
     ·rcases b with ⟨gs,z,b1,_⟩|⟨gs,ks,z,_⟩
      ·injection z with z
       injection z with _ z
       injection z with z1 _
       rw[z1,tQ b1] at e5
       cases e5
      ·injection z with z
       have:=congrArg List.length z
       simp at this
     obtain⟨fs,ed,pf⟩:=rE (by simpa using e5)
     obtain⟨l,ys,rfl,hl0,ry0⟩:=(ed ▸ r1).lst_at
     have hl:aM (vw K H) l fs:=⟨ys,hl0,ry0⟩
     refine⟨_,S03 _ _ hp,_,gm,a,l,l,qs,fs,fs,rfl,ha.same S03,hl.same S03,hl.same S03,fun t ht=>⟨_,rfl,ce (fun e6=>no (fun b=>?_) H3 S03) (fun e6=>?_)⟩⟩
     ·rw[e6] at ht
      cases ht.mpr (bt ed b).2.2.1
     ·exact (hPv _ _ _).mpr ⟨_,rfl,S3,fun _=>⟨l,fs,rfl,hl,ed,pf,ht.mp (by simpa using e6)⟩⟩
    ·obtain⟨o,rfl,S3,ft⟩:=(hPv _ _ _).mp pv
     obtain⟨l,fs,rfl,hl,ed,pf,fit⟩:=ft (by simp)
     have bf:∀ q ∈ fs,Bq 2000 q:=(tb _ rfl d1 (by simp) fs ed pf).2
     have lf:fs.length<=11:=by
      rcases fit with z|z|z
      ·rw[z];simp
      ·rw[z];simp
      ·walk_at"o"
     have S03:=S02.trans S3
     refine aR.gen fun N3 hN3=>?_
     walk_at"vc"
     simp only[dC]
     refine⟨_,S03 _ _ hp,_,gm,_,S03 _ _ hp,_,gm,a,l,l,qs,fs,fs,rfl,ha.same S03,hl.same S03,hl.same S03,by walk_at"o",lf,by walk_at"o",fun q hq=>⟨(sq q hq).1,(sq q hq).2.1⟩,fun q hq=>⟨pf.1 q hq,bf q hq⟩,fun q hq=>⟨pf.1 q hq,bf q hq⟩,fun us pu eu=>qS fit pu eu,fun v4 H4 r4 S4 rr4 fr4 w4=>hN3 _ _ ?_⟩
     rw[yT (yy fs) (sm lf lf fit)] at w4
     have S04:=S03.trans S4
     obtain⟨x4,rfl,hx4⟩:=rr4.fr_at
     have sc0:=sc d0 [d1] rfl
     refine aR.gen fun N4 hN4=>?_
     walk_at"vc"
     refine⟨2,by simp only[fz,S04 _ _ hp];rfl,oU rfl ⟨_,S04 _ _ hp,_,dJ,_,aJ.same S04 _ _ r0,.str _,Dd,sc0,qA (by decide +kernel),ce (fun e7=>?_) (fun e7=>?_)⟩⟩
     ·refine⟨_,hx4,_,dJ,_,rfl,h _ H4 S04 ⟨fun z=>.inl ⟨fs,?_,pf,fit,?_⟩,fun z=>decide_eq_true ?_⟩⟩
      ·rw[mP.mp e7,ed]
      ·show ip _ _ _ _ _<0
       rw[<- w4]
       exact (zk fr4).mp (of_decide_eq_true z)
      ·refine (zk fr4).mpr ?_
       rw[w4]
       exact (bt ed z).2.2.2
     ·exact no (fun b=>e7 (mP.mpr (bt ed b).2.1)) H4 S04
   ·by_cases l3:xs.length=3
    ·obtain⟨d0,d1,d2,rfl⟩ : ∃ d0 d1 d2,ds=[d0,d1,d2]:=by
      match ds,lds with
      | [],z=>simp only[List.length_nil] at z;walk_at"o"
      | [_],z=>simp only[List.length_cons,List.length_nil] at z;walk_at"o"
      | [_,_],z=>simp only[List.length_cons,List.length_nil] at z;walk_at"o"
      | [d0,d1,d2],_=>exact⟨d0,d1,d2,rfl⟩
      | _ :: _ :: _ :: _ :: _,z=>simp only[List.length_cons] at z;walk_at"o"
     obtain⟨x0,ra,rfl,r0,r⟩:=r.cons_at
     obtain⟨x1,rb,rfl,r1,r⟩:=r.cons_at
     obtain⟨x2,rc,rfl,r2,r⟩:=r.cons_at
     cases r.nil_at
     have e:(if true=true then !yd (V.int (([x0,x1,x2]:List V).length:Nat)) [V.int 2,V.int 3] else yd (V.int (([x0,x1,x2]:List V).length:Nat)) [V.int 2,V.int 3])=false:=by
      show (!yd (V.int 3) [V.int 2,V.int 3])=false
      decide +kernel
     rw[e]
     refine⟨false,rfl,io (by decide) (hN1 _ _ ?_)⟩
     have bp:qr qs (.tup [d0,d1,d2]) -> ∃ fs gs,d0 = .str "nought" /\ d1 = .lst (fs.map fr)/\d2 = .lst (gs.map fr)/\aL fs/\aL gs/\tW qs.length fs fs/\tW qs.length fs gs/\yf qs fs fs=0/\yf qs fs gs ≠ 0:=fun b=>by
      rcases b with ⟨gs,z,_⟩|⟨fs,gs,z,b⟩
      ·injection z with z
       have:=congrArg List.length z
       simp at this
      ·injection z with z
       injection z with z0 z
       injection z with z1 z
       injection z with z2 _
       exact⟨fs,gs,z0,z1,z2,b⟩
     refine aR.gen fun N2 hN2=>?_
     walk_at"vc"
     simp only[sN]
     have e2:gu [x0,x1,x2] (some 1) none=[x1,x2]:=rfl
     refine⟨p,rfl,_,S1 _ _ hp,(fun z=>absurd z.1 (show ¬ HT.sIx 3 0 (some 1)=0 by decide)),fun p2 H2 hp2 S2 h2=>⟨p2,rfl,⟨_,cY h2⟩,?_⟩⟩
     rw[e2] at h2
     have S02:=S1.trans S2
     obtain⟨Pv,hPv⟩ : ∃ Pv:Nat->St->Hp->Prop,∀ i σ H',Pv i σ H' ↔ ∃ o,σ=[some (.ref a),some (.ref p),o,none]/\ay (vw K H2) (vw K H')/\(1<=i -> ∃ (l:Addr)(fs:List (Int × Int)),x1 = .ref l/\aM (vw K H) l fs/\d1 = .lst (fs.map fr)/\aL fs/\tW qs.length fs fs/\(2<=i -> ∃ (l2:Addr)(gs:List (Int × Int)),x2 = .ref l2/\aM (vw K H) l2 gs/\d2 = .lst (gs.map fr)/\aL gs/\tW qs.length fs gs)):=⟨_,fun _ _ _=>Iff.rfl⟩
     refine cg (its:=[x1,x2]) Pv (fun i σ H' _ q=>?_) ((hPv _ _ _).mpr ⟨_,rfl,.rfl,by walk_at"o"⟩) (fun i y σ H3 hi hy pv=>?_) (fun σ H3 pv=>hN2 _ _ ?_)
     ·obtain⟨_,_,S',_⟩:=(hPv _ _ _).mp q
      exact qd (S' _ _ h2)
     ·obtain⟨o,rfl,S3,ft⟩:=(hPv _ _ _).mp pv
      have S03:=S02.trans S3
      have hi2:i=0\/i=1:=by simp at hi;walk_at"o"
      rcases hi2 with rfl|rfl
      ·cases hy
       walk_at"vc"
       simp only[cx,jO]
       refine⟨_,d1,rfl,aJ.same S03 _ _ r1,_,rfl,ce (fun e5=>no (fun b=>?_) H3 S03) (fun e5=>?_)⟩
       ·obtain⟨fs,gs,_,z1,_,b1,_⟩:=bp b
        rw[z1,tQ b1] at e5
        cases e5
       obtain⟨fs,ed,pf⟩:=rE (by simpa using e5)
       obtain⟨l,ys,rfl,hl0,ry0⟩:=(ed ▸ r1).lst_at
       have hl:aM (vw K H) l fs:=⟨ys,hl0,ry0⟩
       refine⟨_,S03 _ _ hp,_,gm,a,l,l,qs,fs,fs,rfl,ha.same S03,hl.same S03,hl.same S03,fun t ht=>⟨_,rfl,ce (fun e6=>no (fun b=>?_) H3 S03) (fun e6=>?_)⟩⟩
       ·obtain⟨fs',gs,_,z1,_,_,_,z3,_⟩:=bp b
        rw[ed] at z1
        have:=gQ z1
        subst this
        rw[e6] at ht
        cases ht.mpr z3
       ·exact (hPv _ _ _).mpr ⟨_,rfl,S3,fun _=>⟨l,fs,rfl,hl,ed,pf,ht.mp (by simpa using e6),by walk_at"o"⟩⟩
      ·cases hy
       obtain⟨l,fs,rfl,hl,ed,pf,fit,_⟩:=ft (by decide)
       walk_at"vc"
       simp only[cx,jO]
       refine⟨_,d2,rfl,aJ.same S03 _ _ r2,_,rfl,ce (fun e5=>no (fun b=>?_) H3 S03) (fun e5=>?_)⟩
       ·obtain⟨fs,gs,_,_,z2,_,b2,_⟩:=bp b
        rw[z2,tQ b2] at e5
        cases e5
       obtain⟨gs,ed2,pg⟩:=rE (by simpa using e5)
       obtain⟨l2',ys,rfl,hl0,ry0⟩:=(ed2 ▸ r2).lst_at
       have hl2:aM (vw K H) l2' gs:=⟨ys,hl0,ry0⟩
       refine⟨_,S03 _ _ hp,_,gm,a,l,l2',qs,fs,gs,rfl,ha.same S03,hl.same S03,hl2.same S03,fun t ht=>⟨_,rfl,ce (fun e6=>no (fun b=>?_) H3 S03) (fun e6=>?_)⟩⟩
       ·obtain⟨fs',gs',_,z1,z2,_,_,_,z4,_⟩:=bp b
        rw[ed] at z1
        rw[ed2] at z2
        have u1:=gQ z1
        have u2:=gQ z2
        subst u1 u2
        rw[e6] at ht
        cases ht.mpr z4
       ·exact (hPv _ _ _).mpr ⟨_,rfl,S3,fun _=>⟨l,fs,rfl,hl,ed,pf,fit,fun _=>⟨l2',gs,rfl,hl2,ed2,pg,ht.mp (by simpa using e6)⟩⟩⟩
     ·obtain⟨o,rfl,S3,ft⟩:=(hPv _ _ _).mp pv
      obtain⟨l,fs,rfl,hl,ed,pf,fit,ft2⟩:=ft (by simp)
      obtain⟨l2',gs,rfl,hl2,ed2,pg,fit2⟩:=ft2 (by simp)
      have bf:∀ q ∈ fs,Bq 2000 q:=(tb _ rfl d1 (by simp) fs ed pf).2
      obtain⟨lg',bg⟩:=tb _ rfl d2 (by simp) gs ed2 pg
      have lf:fs.length<=11:=by
       rcases fit with z|z|z
       ·rw[z];simp
       ·rw[z];simp
       ·walk_at"o"
      have sm2:fs.length+gs.length<=20:=by
       rcases fit2 with z|z|z
       ·rw[z];simp;walk_at"o"
       ·rw[z];simp;walk_at"o"
       ·walk_at"o"
      have S03:=S02.trans S3
      refine aR.gen fun N3 hN3=>?_
      walk_at"vc"
      simp only[dC]
      refine⟨_,S03 _ _ hp,_,gm,_,S03 _ _ hp,_,gm,a,l,l,qs,fs,fs,rfl,ha.same S03,hl.same S03,hl.same S03,by walk_at"o",lf,by walk_at"o",fun q hq=>⟨(sq q hq).1,(sq q hq).2.1⟩,fun q hq=>⟨pf.1 q hq,bf q hq⟩,fun q hq=>⟨pf.1 q hq,bf q hq⟩,fun us pu eu=>qS fit pu eu,fun v4 H4 r4 S4 rr4 fr4 w4=>hN3 _ _ ?_⟩
      rw[yT (yy fs) (sm lf lf fit)] at w4
      have S04:=S03.trans S4
      have sc0:=sc d0 [d1,d2] rfl
      refine aR.gen fun N4 hN4=>?_
      walk_at"vc"
      refine⟨3,by simp only[fz,S04 _ _ hp];rfl,io (by decide) (hN4 _ _ ?_)⟩
      walk_at"vc"
      refine⟨_,S04 _ _ hp,_,dJ,_,aJ.same S04 _ _ r0,.str _,Dd,sc0,qA (by decide +kernel),ce (fun e7=>⟨_,rr4,_,bU (hv_ZERO _),gi _,gi _,?_⟩) (fun e7=>no (fun b=>?_) H4 S04)⟩
      ·rw[lC]
       refine ce (fun e4=>?_) (fun e4=>no (fun b=>?_) H4 S04)
       ·have z4:r4=(0,1):=of_decide_eq_true e4
        subst z4
        rw[kz] at w4
        simp only[dC]
        refine⟨_,S04 _ _ hp,_,gm,_,S04 _ _ hp,_,Do,a,l,l2',qs,fs,gs,rfl,ha.same S04,hl.same S04,hl2.same S04,by walk_at"o",lf,lg',fun q hq=>⟨(sq q hq).1,(sq q hq).2.1⟩,fun q hq=>⟨pf.1 q hq,bf q hq⟩,fun q hq=>⟨pg.1 q hq,bg q hq⟩,fun us pu eu=>qS fit2 pu eu,fun v5 H5 r5 S5 rr5 fr5 w5=>⟨_,rr5,_,bU (hv_ZERO _),gi _,gi _,?_⟩⟩
        rw[yT (yy gs) sm2] at w5
        rw[lC]
        refine h _ H5 (S04.trans S5) ⟨fun z=>.inr ⟨fs,gs,?_,pf,pg,fit,fit2,w4.symm,fun y=>?_⟩,fun z=>?_⟩
        ·rw[mP.mp e7,ed,ed2]
        ·have y':wv r5=0:=by rw[w5];exact y
         have:r5=(0,1):=lA fr5 si (by rw[y',kz])
         rw[this] at z
         exact absurd z (by decide)
        ·obtain⟨fs',gs',_,z1,z2,_,_,_,_,_,z5⟩:=bp z
         rw[ed] at z1
         rw[ed2] at z2
         have u1:=gQ z1
         have u2:=gQ z2
         subst u1 u2
         have:r5 ≠ (0,1):=fun y=>z5 (by show ip _ _ _ _ _=0;rw[<- w5,y,kz])
         simp[this]
       ·obtain⟨fs',gs',_,z1,_,_,_,_,_,z5,_⟩:=bp b
        rw[ed] at z1
        have u1:=gQ z1
        subst u1
        refine absurd (decide_eq_true (lA fr4 si ?_)) e4
        rw[w4,kz]
        exact z5
      ·obtain⟨_,_,z0,_⟩:=bp b
       exact e7 (mP.mpr z0)
    ·have e:(if true=true then !yd (V.int (xs.length:Nat)) [V.int 2,V.int 3] else yd (V.int (xs.length:Nat)) [V.int 2,V.int 3])=true:=by
      have n2:((xs.length:Nat):Int) ≠ 2:=by walk_at"o"
      have n3:((xs.length:Nat):Int) ≠ 3:=by walk_at"o"
      show (!([V.int 2,V.int 3].any fun y=>CI y (V.int (xs.length:Nat))))=true
      simp only[List.any_cons,List.any_nil,Bool.or_false,Bool.not_eq_true',Bool.or_eq_false_iff]
      exact⟨by show (2 == ((xs.length:Nat):Int))=false;exact beq_eq_false_iff_ne.mpr (Ne.symm n2),by show (3 == ((xs.length:Nat):Int))=false;exact beq_eq_false_iff_ne.mpr (Ne.symm n3)⟩
     rw[e]
     refine⟨true,rfl,oU rfl (no ?_ H1 S1)⟩
     rintro (⟨fs,z,_⟩|⟨fs,gs,z,_⟩)
     ·injection z with z
      rw[z] at lds
      simp at lds
      walk_at"o"
     ·injection z with z
      rw[z] at lds
      simp at lds
      walk_at"o"
  | _=>exact oU (by simp[D.ty,iQ]) (no (by rintro (⟨fs,z,_⟩|⟨fs,gs,z,_⟩) <;> cases z) H .rfl)
def iK(qs:List (Int × Int))(q:Int × Int)(rs:List (Int × Int)):Prop:=rs.length=qs.length - 1 /\ ∀ (k:Nat)(p:Int × Int),rs[k]? = some p->Fq p/\wv p=cf qs (k+1) - wv q*cf qs k
theorem iK.uniq{qs rs rs':List (Int × Int)}{q:Int × Int}(h:iK qs q rs)(h':iK qs q rs'):rs=rs':=List.ext_getElem (h.1.trans h'.1.symm) fun i h1 h2=>by
 obtain⟨a1,a2⟩:=h.2 i _ (List.getElem?_eq_getElem h1)
 obtain⟨b1,b2⟩:=h'.2 i _ (List.getElem?_eq_getElem h2)
 exact lA a1 b1 (a2.trans b2.symm)
def oQ(qs:List (Int × Int))(q:Int × Int)(d:D):Prop:=∃ (ds:List D)(t:Int),d = .tup (ds ++ [.int t])/\((t=0/\qr qs (.tup ds))\/(t=1/\1<qs.length /\ ∃ rs,iK qs q rs/\qr rs (.tup ds)))
def xF(e:D):Prop:=e.cmp/\e.len<=1000 /\ ∀ fs:List (Int × Int),e = .lst (fs.map fr)->aL fs->fs.length<=14 /\ ∀ q ∈ fs,Bq 2000 q
def sA(d:D):Prop:=∀ ds,d = .tup ds -> ∀ e ∈ ds,xF e
theorem sA.part{es:List D}{e:D}(h:sA (.tup (es ++ [e]))):Ht (.tup es)/\(∀ ds,.tup es=D.tup ds -> ∀ e ∈ ds,e.len<=1000) /\ ∀ d0 ds,.tup es=D.tup (d0 :: ds)->d0.cmp:=by
 have g:∀ x ∈ es,xF x:=fun x hx=>h _ rfl x (List.mem_append_left _ hx)
 refine⟨fun ds z x hx fs e p=>?_,fun ds z x hx=>?_,fun d0 ds z=>?_⟩
 ·injection z with z
  subst z
  exact (g x hx).2.2 fs e p
 ·injection z with z
  subst z
  exact (g x hx).2.1
 ·injection z with z
  subst z
  exact (g d0 List.mem_cons_self).1
theorem gP{qs:List (Int × Int)}{q:Int × Int}{es:List D}{t:Int}:oQ qs q (.tup (es ++ [.int t])) ↔ (t=0/\qr qs (.tup es))\/(t=1/\1<qs.length /\ ∃ rs,iK qs q rs/\qr rs (.tup es)):=by
 refine⟨fun ⟨ds,t',e,h⟩=>?_,fun h=>⟨es,t,rfl,h⟩⟩
 injection e with e
 obtain⟨e1,e2⟩:=List.append_inj' e rfl
 injection e2 with e2 _
 injection e2 with e2
 subst e1 e2
 exact h
theorem xR{qs:List (Int × Int)}{q:Int × Int}{es:List D}{e:D}(h:oQ qs q (.tup (es ++ [e]))):e.isInt=true:=by
 obtain⟨ds,t',z,_⟩:=h
 injection z with z
 obtain⟨_,e2⟩:=List.append_inj' z rfl
 injection e2 with e2 _
 rw[e2]
 rfl
theorem ug{ds:List D}(h:ds ≠ []):∃ es e,ds=es ++ [e]:=⟨ds.dropLast,ds.getLast h,(List.dropLast_concat_getLast h).symm⟩
theorem xH{H:Hp}{es:List D}{e:D}{xs:List V}(r:aE H (es ++ [e]) xs):∃ ys x,xs=ys ++ [x]/\aE H es ys/\aJ H e x:=by
 have l:=r.length
 have lt:es.length<xs.length:=by rw[l];simp
 obtain⟨x,hx,rx⟩:=r.at (i:=es.length) (d:=e) (by simp)
 refine⟨xs.take es.length,x,?_,?_,rx⟩
 ·have:=List.take_append_drop es.length xs
  have d1:xs.drop es.length=[x]:=by
   rw[List.drop_eq_getElem_cons lt,List.drop_eq_nil_of_le (by rw[l];simp)]
   rw[List.getElem?_eq_getElem lt] at hx
   injection hx with hx
   rw[hx]
  rw[d1] at this
  exact this.symm
 ·have:=r.take es.length
  rwa [List.take_left'] at this
  rfl
theorem Fd(xs:List V):gu xs none (some (-1))=xs.take (xs.length - 1):=by
 unfold gu HT.sIx
 cases xs with
 | nil=>rfl
 | cons x xs =>
  simp
  walk_at"o"
def dG(K:W.Frag):Sp:=fun vs H Q _=>∃ (a:Addr)(y x:V)(qs:List (Int × Int))(q:Int × Int)(d:D),vs=[.ref a,y,x]/\aM (vw K H) a qs/\1<=qs.length/\qs.length<=11/\(∀ q ∈ qs,mJ 112 q)/\aJ (vw K H) (fr q) y/\gW q/\aJ (vw K H) d x/\sA d /\ ∀ (t:Bool) H',ay (vw K H) (vw K H')->(t=true ↔ oQ qs q d)->Q (.bl t) H'
theorem kF(F:eM K "bar_from_holds" "bar_from_holds" cw f fd) (T:fL K mg)(C_is_whole:aS P w K mg base "is_whole" ["thing"] 1 (eZ K)) (C_bars:aS P w K mg base "bars" ["sums", "thing"] 6 (kE K)) (C_sums_from:aS P w K mg base "sums_from" ["sums", "spot"] 3 (dY K)):bK P w K mg base eI 7 f fd ["sums", "spot", "thing"] (dG K):=by
 have scN:=gO.nd
 refine F.okQ gO (fun vs H Q E h=>?_) (fun cdv A outer s H vs Q E hr h=>?_)
 ·obtain⟨_,_,_,_,_,_,rfl,_⟩:=h
  rfl
 ·obtain⟨a,y,x,qs,q,d,rfl,ha,l1,l11,sb,hy,hq,hx,gd,h⟩:=h
  have sq:∀ q ∈ qs,iB q:=fun q hq=>(sb q hq).sumQ (by decide)
  refine⟨_,(ae (cc (QW.pt (mh (dO (dH (au fj (by rfl) T.b_isinstance dA (aa (qv 2) (aa (jN (v:=V.ty "tuple") rfl T.b_tuple oh rfl) ac))))) (mh (dO (cX (qv 2) (fun _=>rfl))) (kW (dO (dH (ai C_is_whole (hr.mono (by walk_at"a2")) rfl (aa (aA b9 (qv 2) (de cn af) (fun _ _=>rfl)) ac)))))))) (ah (ap fZ)) aN)
   (ae (cc (aQ gX (aA b9 (qv 2) (de cn af) (fun _ _=>rfl)) af (aI _)) (ah (ap (ai C_bars (hr.mono (by walk_at"a2")) rfl (aa (qv 0) (aa (cR mZ (qv 2) dZ (dU (de cn af))) ac))))) aN)
   (ah (ap (lI (cE gX (aA b9 (qv 2) (de cn af) (fun _ _=>rfl)) af (aI _)) (lI (cE mq (au aB (by rfl) T.b_len aV (aa (qv 0) ac)) af (aI _)) (lU (ai C_bars (hr.mono (by walk_at"a2")) rfl (aa (ai C_sums_from (hr.mono (by walk_at"a2")) rfl (aa (qv 0) (aa (qv 1) ac))) (aa (cR mZ (qv 2) dZ (dU (de cn af))) ac)))))))))),?_⟩
  walk_at"m"
  skip
  have no:¬ oQ qs q d -> ∀ H',ay (vw K H) (vw K H')->Q (.bl false) H':=fun n H' S=>h false H' S ⟨fun z=>(by cases z),fun z=>absurd z n⟩
  have ht:=aJ.ty hx
  refine aR.gen fun N1 hN1=>?_
  walk_at"vc"
  refine⟨_,ht,?_⟩
  cases d with
  | tup ds =>
   obtain⟨p,xs,rfl,hp,r⟩:=hx.tup_at
   refine io (by simp[D.ty,iQ]) ⟨_,.inr (.inl ⟨xs,cY hp,rfl⟩),ce (fun e1=>?_) (fun e1=>?_)⟩
   ·refine no ?_ H .rfl
    have z:xs=[]:=by simpa using e1
    rw[z] at r
    rintro ⟨es,t,e,_⟩
    injection e with e
    have:=r.length
    rw[e] at this
    simp at this
   have nd:ds ≠ []:=fun z=>by
    rw[z] at r
    rw[r.nil_at] at e1
    simp at e1
   obtain⟨es,e,rfl⟩:=ug nd
   obtain⟨zs,x,rfl,rz,rx⟩:=xH r
   have g:=gd.part
   have lst:∀ {v:V},(zs ++ [v]).getLast? = some v:=by simp
   simp only[eZ]
   refine⟨p,rfl,_,hp,_,eP lst,_,e,rfl,rx,_,rfl,ce (fun e2=>no (fun z=>?_) H .rfl) (fun e2=>hN1 _ _ ?_)⟩
   ·rw[xR z] at e2
    cases e2
   obtain⟨t,rfl⟩:=D.isInt_of e2
   cases rx.int_at
   have cut:∀ {H0:Hp}{Q0:VK},ay (vw K H) (vw K H0)->(∀ (p1:Addr) H1,ay (vw K H0) (vw K H1)->aJ (vw K H1) (.tup es) (.ref p1)->Q0 (.ref p1) H1)->sN K (.ref p) none (some (-1)) H0 Q0:=fun S0 k=>by
    refine⟨p,rfl,_,S0 _ _ hp,fun z=>?_,fun p1 H1 hp1 S1 h1=>k p1 H1 S1 (.mk_tup h1 ?_)⟩
    ·have z:=z.2
     unfold HT.sIx at z
     simp at z
     walk_at"o"
    ·rw[Fd,show (zs ++ [V.int t]).length - 1=zs.length by simp,List.take_left' rfl]
     exact (rz.same S0).same S1
   refine aR.gen fun N2 hN2=>?_
   walk_at"vc"
   have vi:∀ {i j:Int},(V.int i = .int j) ↔ i=j:=fun {i j}=>⟨fun z=>by injection z,fun z=>by rw[z]⟩
   refine⟨_,hp,_,eP lst,rfl,ce (fun e3=>?_) (fun e3=>hN2 _ _ ?_)⟩
   ·have e3:=vi.mp e3
    refine cut .rfl fun p3 H3 S3 r3=>?_
    simp only[kE]
    refine⟨a,.ref p3,qs,.tup es,rfl,ha.same S3,l11,sq,r3,g.1,g.2.2,fun b H4 S4 hb=>h b H4 (S3.trans S4) (hb.trans ⟨fun z=>gP.mpr (.inl ⟨e3,z⟩),fun z=>?_⟩)⟩
    rcases gP.mp z with ⟨_,y⟩|⟨y,_⟩
    ·exact y
    ·walk_at"o"
   have e3:t ≠ 0:=fun z=>e3 (vi.mpr z)
   walk_at"vc"
   refine⟨_,hp,_,eP lst,rfl,ce (fun e4=>⟨_,ha.len,ce (fun e5=>?_) (fun e5=>?_)⟩) (fun e4=>no (fun z=>?_) H .rfl)⟩
   ·have e4:=vi.mp e4
    simp only[dY]
    refine⟨a,y,qs,q,rfl,ha,hy,hq.1,hq.2.1.mono (by decide),l1,l11,fun p hp=>⟨(sq p hp).1,(sq p hp).2.1⟩,fun b6 H6 ts6 S6 nb6 l6 ln6 w6=>?_⟩
    have fl:iK qs q ts6:=⟨ln6,w6⟩
    refine cut S6 fun p7 H7 S7 r7=>?_
    simp only[kE]
    refine⟨b6,.ref p7,ts6,.tup es,rfl,l6.same S7,by walk_at"o",pM sb hq ln6 w6,r7,g.1,g.2.2,fun b H8 S8 hb=>h b H8 (S6.trans (S7.trans S8)) (hb.trans ⟨fun z=>gP.mpr (.inr ⟨e4,by walk_at"o",ts6,fl,z⟩),fun z=>?_⟩)⟩
    rcases gP.mp z with ⟨y,_⟩|⟨_,_,rs,f2,y⟩
    ·walk_at"o"
    ·rw[fl.uniq f2]
     exact y
   ·refine no (fun z=>?_) H .rfl
    rcases gP.mp z with ⟨y,_⟩|⟨_,y,_⟩ <;> walk_at"o"
   ·rcases gP.mp z with ⟨y,_⟩|⟨y,_⟩
    ·exact e3 y
    ·exact e4 (vi.mpr y)
  | _=>exact oU (by simp[D.ty,iQ]) (no (by rintro ⟨_,_,z,_⟩;cases z) H .rfl)
def zC(G:Hp)(p:Addr)(qs:List (Int × Int)):Prop:=∃ (l:Addr)(fs:List (Int × Int)),aL fs/\fs.length<=11/\(∀ q ∈ fs,Bq 2000 q)/\aM G l fs/\((G p=some (.tup [.str "below",.ref l])/\tW qs.length fs fs/\yf qs fs fs<0) \/ ∃ (l2:Addr)(gs:List (Int × Int)),G p=some (.tup [.str "nought",.ref l,.ref l2])/\aM G l2 gs/\aL gs/\gs.length<=11/\(∀ q ∈ gs,Bq 2000 q)/\tW qs.length fs fs/\tW qs.length fs gs/\yf qs fs fs=0/\yf qs fs gs ≠ 0)
theorem yb.barAt{qs:List (Int × Int)}{W:Nat->Int}{B:Int}{M:Nat}{G:Hp}{p:Addr}{s:Str}(o:yb qs W B M G p s)(l11:qs.length<=11)(cl:m4 qs W B)(my:pc W qs.length M)(nf:uA W qs.length M)(bs:s = "below" \/ s = "nought"):zC G p qs:=by
 obtain⟨k,rfl⟩ : ∃ k,M=k+1:=⟨M - 1,by have:=my.one;walk_at"o"⟩
 have m2:=my.most
 have dk:=my.up k (by walk_at"o")
 have hB:=cl.pos
 have pp:(0:Rat)<((Dk W k:Int):Rat)*(B:Rat):=Rat.mul_pos (by exact_mod_cast dk) (by exact_mod_cast hB)
 obtain⟨l,ys,hp,_,_,_,h5,h6⟩:=o.at_
 rw[Nat.add_sub_cancel] at h5 h6
 have kind:=o.kind
 rw[Nat.add_sub_cancel] at kind
 have fin:∀ {fs:List (Int × Int)},aL fs->(∀ j,cf fs j=Pk W k j)->fs.length=k+1/\(∀ q ∈ fs,Bq 2000 q)/\tW qs.length fs fs/\yf qs fs fs=((Dk W (k+1):Int):Rat) / (((Dk W k:Int):Rat)*(B:Rat)):=fun po num=>by
  have lr:=m9 po (show Dk W k ≠ 0 by walk_at"o") num
  have pb:=(tJ (show Dk W k ≠ 0 by walk_at"o") (by walk_at"o") cl.bt).congr num
  refine⟨lr,fun q hq=>(pb.bq po.1 q hq).mono (by decide),.inr (.inr (by walk_at"o")),?_⟩
  unfold yf
  rw[lr,show cf _=Pk W k from funext num]
  exact vj cl dk
 rcases bs with rfl|rfl
 ·obtain⟨rfl,rs,a1,a2,a3⟩:=h5 rfl
  obtain⟨lr,b2,ft,e⟩:=fin a2 a3
  refine⟨l,rs,a2,by walk_at"o",b2,a1,.inl ⟨hp,ft,?_⟩⟩
  have d0:Dk W (k+1)<0:=by
   rcases kind with ⟨z,_⟩|⟨_,_,z⟩|⟨_,_,z⟩|⟨_,z⟩
   ·exact z
   ·exact absurd z (by decide +kernel)
   ·exact absurd z (by decide +kernel)
   ·exact absurd z (by decide +kernel)
  rw[e,Rat.div_def]
  have zq:((Dk W (k+1):Int):Rat)<0:=by exact_mod_cast d0
  have:=Rat.mul_pos (show (0:Rat) < -((Dk W (k+1):Int):Rat) by grind) (Rat.inv_pos.mpr pp)
  grind
 ·obtain⟨l2,i,rs,rfl,a1,a2,a3,a4,a5,a6⟩:=h6 rfl
  obtain⟨lr,b2,ft,e⟩:=fin a2 a3
  have d0:Dk W (k+1)=0:=by
   rcases kind with ⟨_,z⟩|⟨z,_⟩|⟨_,_,z⟩|⟨_,z⟩
   ·exact absurd z (by decide +kernel)
   ·exact z
   ·exact absurd z (by decide +kernel)
   ·exact absurd z (by decide +kernel)
  have px:aL (List.replicate i (0,1) ++ [((1:Int),(1:Int))]):=⟨fun q hq=>by
   rcases List.mem_append.mp hq with z|z
   ·rw[(List.mem_replicate.mp z).2]
    exact si
   ·cases List.mem_singleton.mp z
    exact⟨by decide,by decide⟩,fun q hq=>by
   rw[List.getLast?_append] at hq
   cases hq
   decide⟩
  refine⟨l,rs,a2,by walk_at"o",b2,a1,.inr ⟨l2,_,hp,a4,px,by simp;walk_at"o",fun q hq=>?_,ft,.inr (.inr (by simp;walk_at"o")),?_,?_⟩⟩
  ·rcases List.mem_append.mp hq with z|z
   ·rw[(List.mem_replicate.mp z).2]
    exact Dj (by decide)
   ·cases List.mem_singleton.mp z
    exact Bq.mono (m:=2) ⟨by decide,by decide⟩ (by decide)
  ·rw[e,d0,show ((0:Int):Rat)=0 from rfl]
   grind
  ·unfold yf
   rw[lr,show cf rs=Pk W k from funext a3,show (List.replicate i ((0:Int),(1:Int)) ++ [((1:Int),(1:Int))]).length=i+1 by simp,sf cl dk (v:=cf (List.replicate i (0,1) ++ [((1:Int),(1:Int))])) fun j=>by
    rw[AE]
    by_cases z:j<i
    ·rw[if_pos z,if_neg (by walk_at"o")]
    ·rw[if_neg z]
     by_cases y:j=i
     ·rw[if_pos y,y,Nat.sub_self]
      exact Gf
     ·rw[if_neg y,cC (by simp;walk_at"o")]]
   have c:=ar a6
   have pn:((Dk W k:Int):Rat)*(B:Rat) ≠ 0:=by grind
   rw[Rat.div_def]
   intro y
   rcases Rat.mul_eq_zero.mp y with y|y
   ·exact c y
   ·grind
def Ev(d:D):Prop:=∃(ds:List D)(t:Int),Fu (.tup ds)/\(t=0\/t=1)/\d = .tup (ds ++ [.int t])
def oY(qs:List (Int × Int))(q:Int × Int):Prop:=¬ fA (cf qs) qs.length/\(1<qs.length -> ∀ rs,iK qs q rs -> ¬ fA (cf rs) rs.length)
def FS(qs:List (Int × Int))(q:Int × Int)(G:Hp)(v:V):Prop:=(¬ oY qs q /\ ∃ d,aJ G d v/\Ev d/\oQ qs q d)\/(oY qs q /\ ∃ (p:Addr)(r:V),v = .ref p/\G p=some (.tup [.str "flock",r]))
theorem zC.tree{G:Hp}{p:Addr}{qs:List (Int × Int)}(h:zC G p qs):∃ d,aJ G d (.ref p)/\Fu d/\qr qs d:=by
 obtain⟨l,fs,a,b,c,d,⟨e,f1,f2⟩|⟨l2,gs,e,f,g,h,i,j1,j2,j3,j4⟩⟩:=h
 ·exact⟨_,.mk_tup e (.mk_cons (by unfold aJ;rfl) (.mk_cons d.rep .mk_nil)),⟨"below",fs,.inl rfl,⟨a,by walk_at"o",c⟩,.inl rfl⟩,.inl ⟨fs,rfl,a,f1,f2⟩⟩
 ·exact⟨_,.mk_tup e (.mk_cons (by unfold aJ;rfl) (.mk_cons d.rep (.mk_cons f.rep .mk_nil))),⟨"nought",fs,.inr rfl,⟨a,by walk_at"o",c⟩,.inr ⟨gs,⟨g,by walk_at"o",i⟩,rfl⟩⟩,.inr ⟨fs,gs,rfl,a,g,j1,j2,j3,j4⟩⟩
theorem yb.nofl{qs:List (Int × Int)}{W:Nat->Int}{B:Int}{M:Nat}{G:Hp}{p:Addr}{s:Str}(o:yb qs W B M G p s):((s = "below" \/ s = "nought")->uA W qs.length M)/\((s = "tight" \/ s = "open") -> ¬ uA W qs.length M):=by
 rcases o.kind with ⟨d,z⟩|⟨d,n,z⟩|⟨d,n,z⟩|⟨d,z⟩
 ·exact⟨fun _=>.inl d,fun y=>by rcases y with y|y <;> exact absurd (z.symm.trans y) (by decide +kernel)⟩
 ·exact⟨fun _=>.inr ⟨d,n⟩,fun y=>by rcases y with y|y <;> exact absurd (z.symm.trans y) (by decide +kernel)⟩
 ·exact⟨fun y=>by rcases y with y|y <;> exact absurd (z.symm.trans y) (by decide +kernel),fun _ y=>by
   rcases y with y|⟨_,y⟩
   ·walk_at"o"
   ·exact y n⟩
 ·exact⟨fun y=>by rcases y with y|y <;> exact absurd (z.symm.trans y) (by decide +kernel),fun _ y=>by rcases y with y|⟨y,_⟩ <;> walk_at"o"⟩
theorem Fu.tup{d:D}(h:Fu d):∃ ds,d = .tup ds:=by
 obtain⟨w,fs,_,_,rfl|⟨gs,_,rfl⟩⟩:=h
 ·exact⟨_,rfl⟩
 ·exact⟨_,rfl⟩
theorem Fu.len{ds:List D}(h:Fu (.tup ds)):ds.length<=3:=by
 obtain⟨w,fs,_,_,z|⟨gs,_,z⟩⟩:=h
 ·injection z with z
  rw[z]
  simp
 ·injection z with z
  rw[z]
  simp
def dR(K:W.Frag):Sp:=fun vs H Q _=>∃ (a:Addr)(y:V)(qs:List (Int × Int))(q:Int × Int),vs=[.ref a,y]/\aM (vw K H) a qs/\1<=qs.length/\qs.length<=11/\(∀ q ∈ qs,mJ 112 q)/\aJ (vw K H) (fr q) y/\gW q /\ ∀ v H',ay (vw K H) (vw K H')->FS qs q (vw K H') v->Q v H'
theorem qX(F:eM K "back_from" "back_from" fm f fd) (T:fL K mg)(C_outlook:aS P w K mg base "outlook" ["sums"] 5 (di K)) (C_is_bar:aS P w K mg base "is_bar" ["told"] 1 (eB K)) (C_sums_from:aS P w K mg base "sums_from" ["sums", "spot"] 3 (dY K)) (C_multiplied:aS P w K mg base "multiplied" ["f", "g"] 4 (du K)) (C_less_spot:aS P w K mg base "less_spot" ["spot"] 1 (gq K)) (C_flock_with:aS P w K mg base "flock_with" ["sums", "roots"] 6 (dq K)):bK P w K mg base eI 7 f fd ["sums", "spot"] (dR K):=by
 have scN:=kv.nd
 refine F.okQ kv (fun vs H Q E h=>?_) (fun cdv A outer s H vs Q E hr h=>?_)
 ·obtain⟨_,_,_,_,rfl,_⟩:=h
  rfl
 ·obtain⟨a,y,qs,q,rfl,ha,l1,l11,sb,hy,hq,h⟩:=h
  obtain⟨z_ONE,hg_ONE,hv_ONE⟩:=T.g_ONE
  have sq:∀ q ∈ qs,iB q:=fun q hq=>(sb q hq).sumQ (by decide)
  refine⟨_,(ae (aC (i:=2) scN rfl (by walk_at"a1") (ai C_outlook (hr.mono (by walk_at"a2")) rfl (aa (qv 0) ac)))
   (ae (cc (dH (ai C_is_bar (hr.mono (by walk_at"a2")) rfl (aa (qv 2) ac))) (ah (ap (ao vk (qv 2) (bQ (aa af ac))))) aN)
   (ae (aC (i:=3) scN rfl (by walk_at"a1") (bC (aa (eC (v:=V.ref z_ONE) rfl hg_ONE rfl) ac)))
   (ae (cc (aQ mq (au aB (by rfl) T.b_len aV (aa (qv 0) ac)) af (aI _)) (ae (aC (i:=4) scN rfl (by walk_at"a1") (ai C_outlook (hr.mono (by walk_at"a2")) rfl (aa (ai C_sums_from (hr.mono (by walk_at"a2")) rfl (aa (qv 0) (aa (qv 1) ac))) ac)))
   (ae (cc (dH (ai C_is_bar (hr.mono (by walk_at"a2")) rfl (aa (qv 4) ac))) (ah (ap (ao vk (qv 4) (bQ (aa af ac))))) aN)
   (ah (aC (i:=3) scN rfl (by walk_at"a1") (aA b9 (qv 4) af (fun _ _=>rfl)))))) aN)
   (ae (cM (qv 2) (aX (n:=2) rfl (am (ak (i:=5) scN rfl (by walk_at"a1")) (am (ak (i:=6) scN rfl (by walk_at"a1")) aY))))
   (ae (cc (QW.pt (iD (aQ gX (qv 5) eF (aI _)) (gY (cX (ao vz (au aB (by rfl) T.b_len aV (aa (qv 0) ac)) af) (fun _=>rfl))))) (ah (aC (i:=6) scN rfl (by walk_at"a1") (ai C_multiplied (hr.mono (by walk_at"a2")) rfl (aa (ai C_less_spot (hr.mono (by walk_at"a2")) rfl (aa (qv 1) ac)) (aa (qv 3) ac))))) aN)
   (ah (ap (bQ (aa eF (aa (ai C_flock_with (hr.mono (by walk_at"a2")) rfl (aa (qv 0) (aa (qv 6) ac))) ac))))))))))),?_⟩
  walk_at"m"
  skip
  have bar:∀ {p p3:Addr}{H0:Hp}{d:D}{t:Int},aJ (vw K H0) d (.ref p)->Fu d->(t=0\/t=1)->(∀ ds,d = .tup ds->oQ qs q (.tup (ds ++ [.int t]))) -> ¬ oY qs q->vw K H0 p3=some (.tup [.int t])->ay (vw K H) (vw K H0)->CZ K (.ref p) (.ref p3) H0 Q:=by
   intro p p3 H0 d t rd bl ht hh nb h3 S
   obtain⟨ds,rfl⟩:=bl.tup
   obtain⟨a',xs,e,hx,r⟩:=rd.tup_at
   cases e
   refine⟨p,p3,rfl,rfl,xs,hx,_,h3,?_,fun p4 H4 S4 h4=>h _ H4 (S.trans S4) (.inl ⟨nb,_,.mk_tup h4 ((r.same S4).snoc (by unfold aJ;rfl)),⟨ds,_,bl,ht,rfl⟩,hh ds rfl⟩)⟩
   have:=bl.len
   have:1000<=sizeLine:=by decide
   rw[r.length]
   simp
   walk_at"o"
  refine aR.gen fun N1 hN1=>?_
  walk_at"vc"
  simp only[di]
  refine⟨a,qs,rfl,ha,l1,l11,sq,fun p H1 W B M s S1 cl my o=>hN1 _ _ ?_⟩
  obtain⟨l0,ys0,hp0,_⟩:=o.at_
  refine aR.gen fun N2 hN2=>?_
  walk_at"vc"
  simp only[eB]
  rcases o.which with bs|ts
  ·have nf:=o.nofl.1 bs
   obtain⟨d,rd,bl,bt⟩:=(o.barAt l11 cl my nf bs).tree
   have nb:¬ oY qs q:=fun z=>z.1 (ja cl my nf)
   exact⟨p,s,_,true,rfl,hp0,.inr ⟨rfl,bs⟩,fun H2 S2=>⟨true,rfl,oU rfl ⟨by decide,fun p3 H3 hp3 S3 h3=>bar (aJ.same (S2.trans S3) _ _ rd) bl (.inl rfl) (fun ds e=>gP.mpr (.inl ⟨rfl,e ▸ bt⟩)) nb h3 (S1.trans (S2.trans S3))⟩⟩⟩
  have nf:=o.nofl.2 ts
  have nb0:¬ fA (cf qs) qs.length:=fun b=>nf (oF cl my b)
  obtain⟨l,rs,k,hp,lrs,po,num,hD,kM,k6,kn,k2,op⟩:=o.roots l11 my ts
  refine⟨p,s,_,false,rfl,hp0,.inl ⟨rfl,ts⟩,fun H2 S2=>⟨false,rfl,io (by decide) (hN2 _ _ ?_)⟩⟩
  refine aR.gen fun N3 hN3=>?_
  walk_at"vc"
  refine⟨by decide,fun b3 H3 hb3 S3 h3=>hN3 _ _ ?_⟩
  have lO3:aM (vw K H3) b3 [(1,1)]:=⟨_,h3,.mk_cons (bU (hv_ONE _)) .mk_nil⟩
  have S13:=S2.trans S3
  have lk:=m9 po (show Dk W k ≠ 0 by have:=hD k (Nat.le_refl _);walk_at"o") num
  refine aR.gen fun N4 hN4=>?_
  have key:∀ (bo:Addr)(o4:Option V)(H4:Hp)(os:List (Int × Int)),ay (vw K H1) (vw K H4)->aM (vw K H4) bo os->aL os->os ≠ []->os.length<=6->Pb 869 (cf os)->(s = "open" -> qs.length % 2=1->os.length<=qs.length/\re (lx (wv q) (cf os)) (DF (lx (wv q) (cf os))))->(1<qs.length -> ∀ rs,iK qs q rs -> ¬ fA (cf rs) rs.length)->N4 [some (.ref a),some y,some (.ref p),some (.ref bo),o4,none,none] H4:=by
   intro bo o4 H4 os S14 los pos nos l6 bos ns nb1
   refine hN4 _ _ ?_
   have S04:=S1.trans S14
   refine aR.gen fun N5 hN5=>?_
   walk_at"vc"
   refine⟨_,S14 _ _ hp,rfl,_,_,rfl,_,_,rfl,rfl,hN5 _ _ ?_⟩
   refine aR.gen fun N6 hN6=>?_
   have fin:∀ (br:Addr)(us:List (Int × Int))(H6:Hp),ay (vw K H4) (vw K H6)->aM (vw K H6) br us->us ≠ []->us.length<=7->us.length<=qs.length+1->aL us->Pb 1100 (cf us)->re (cf us) (DF (cf us))->N6 [some (.ref a),some y,some (.ref p),some (.ref bo),o4,some (.str s),some (.ref br)] H6:=by
    intro br us H6 S6 lus nus l7 ln pu bu nsu
    refine hN6 _ _ ?_
    have S06:=S04.trans S6
    walk_at"vc"
    simp only[dq]
    exact⟨a,br,qs,us,rfl,ha.same S06,lus,l11,sq,nus,l7,ln,pu,bu,fun _=>nsu,fun p7 w7 H7 ws S7 h7 l7 _=>⟨by decide,fun p8 H8 hp8 S8 h8=>h _ H8 (S06.trans (S7.trans S8)) (.inr ⟨⟨nb0,nb1⟩,p8,_,rfl,h8⟩)⟩⟩
   have ec:cf rs=Pk W k:=funext num
   have plain:N6 [some (.ref a),some y,some (.ref p),some (.ref bo),o4,some (.str s),some (.ref l)] H4:=fin l rs H4 .rfl (lrs.same S14) (fun z=>by rw[z] at lk;simp at lk) (by walk_at"o") (by walk_at"o") po ((tJ (by have:=hD k (Nat.le_refl _);walk_at"o") k6 cl.bt).congr num) (by rw[ec];exact sH cl.pos cl.val k6 hD)
   walk_at"vc"
   refine⟨rfl,ce (fun so=>⟨_,(ha.same S04).len,by walk_at"o",ce (fun od=>?_) (fun _=>plain)⟩) (fun _=>plain)⟩
   have od':qs.length % 2=1:=by
    have z:((qs.length:Nat):Int) % 2 ≠ 0:=by simpa using od
    walk_at"o"
   obtain⟨ln,nsx⟩:=ns so od'
   simp only[gq]
   refine⟨y,q,rfl,aJ.same S04 _ _ hy,fun b7 H7 S7 l7=>?_⟩
   simp only[du]
   have f2:∀ x ∈ [(-q.1,q.2),((1:Int),(1:Int))],Fq x/\Bq 12 x:=fun x hx=>by
    simp only[List.mem_cons,List.not_mem_nil,or_false] at hx
    rcases hx with rfl|rfl
    ·exact⟨E1 hq.1,by have:=hq.2.1.1;unfold Bt at this ⊢;simpa using this,hq.2.1.2⟩
    ·exact⟨⟨by decide,by decide⟩,⟨by decide,by decide⟩⟩
   have bo':=bos.bq pos.1
   refine⟨b7,bo,_,os,900,rfl,l7,los.same S7,by simp,by walk_at"o",by decide,?_,fun x hx=>⟨(f2 x hx).1,(f2 x hx).2.mono (by decide)⟩,fun x hx=>⟨pos.1 x hx,(bo' x hx).mono (by decide)⟩,fun c8 H8 us S8 l8 _ p8 w8 n8 b8=>?_⟩
   ·simp only[List.length_cons,List.length_nil]
    walk_at"o"
   have e8:cf us=lx (wv q) (cf os):=funext fun j=>(w8 j).trans (FR hq.1 j)
   have lo:=List.length_pos_iff.mpr nos
   have dc:=jz pos nos
   have l8':us.length<=os.length+1:=j9 p8 fun j hj=>by
    rw[e8]
    unfold lx
    rw[if_neg (by walk_at"o"),cC (by walk_at"o"),cC (by walk_at"o")]
    grind
   refine fin c8 us H8 (S7.trans S8) l8 (fun z=>?_) (by walk_at"o") (by walk_at"o") p8 ?_ (by rw[e8];exact nsx)
   ·have z1:cf us os.length=0:=by rw[z];exact yR _
    rw[e8] at z1
    unfold lx at z1
    rw[if_neg (by walk_at"o"),cC (show os.length<=os.length from Nat.le_refl _)] at z1
    grind
   ·exact ((Pb.pr (rm f2) bos 2).congr w8).mono (by simp)
  walk_at"vc"
  refine⟨_,(ha.same (S1.trans S13)).len,ce (fun e5=>?_) (fun e5=>?_)⟩
  ·have n1:1<qs.length:=by walk_at"o"
   have S03:=S1.trans S13
   simp only[dY]
   refine⟨a,y,qs,q,rfl,ha.same S03,aJ.same S03 _ _ hy,hq.1,hq.2.1.mono (by decide),l1,l11,fun p hp=>⟨(sq p hp).1,(sq p hp).2.1⟩,fun b6 H6 ts6 S6 nb6 l6 ln6 w6=>?_⟩
   have sq6:=pM sb hq ln6 w6
   simp only[di]
   refine⟨b6,ts6,rfl,l6,by walk_at"o",by walk_at"o",sq6,fun p7 H7 W' B' M' s' S7 cl' my' o'=>?_⟩
   obtain⟨l0',ys0',hp0',_⟩:=o'.at_
   have S17:=S13.trans (S6.trans S7)
   simp only[eB]
   rcases o'.which with bs'|ts'
   ·have nf':=o'.nofl.1 bs'
    obtain⟨d,rd,bl,bt⟩:=(o'.barAt (by walk_at"o") cl' my' nf' bs').tree
    have nb:¬ oY qs q:=fun z=>z.2 n1 ts6 ⟨ln6,w6⟩ (ja cl' my' nf')
    exact⟨p7,s',_,true,rfl,hp0',.inr ⟨rfl,bs'⟩,fun H8 S8=>⟨true,rfl,oU rfl ⟨by decide,fun p9 H9 hp9 S9 h9=>bar (aJ.same (S8.trans S9) _ _ rd) bl (.inr rfl) (fun ds e=>gP.mpr (.inr ⟨rfl,n1,ts6,⟨ln6,w6⟩,e ▸ bt⟩)) nb h9 (S1.trans (S17.trans (S8.trans S9)))⟩⟩⟩
   obtain⟨l',rs',k',hp',lrs',po',num',hD',kM',k6',kn',k2',op'⟩:=o'.roots (by walk_at"o") my' ts'
   refine⟨p7,s',_,false,rfl,hp0',.inl ⟨rfl,ts'⟩,fun H8 S8=>⟨false,rfl,io (by decide) ?_⟩⟩
   have dn':Dk W' k' ≠ 0:=by have:=hD' k' (Nat.le_refl _);walk_at"o"
   have lk':=m9 po' dn' num'
   have ec':cf rs'=Pk W' k':=funext num'
   refine⟨_,rfl,_,S8 _ _ hp',_,gm,key l' _ H8 rs' (S17.trans S8) (lrs'.same S8) po' (fun z=>by rw[z] at lk';simp at lk') (by walk_at"o") ((DU dn' (by walk_at"o") cl'.bt).congr num') (fun so od=>⟨by walk_at"o",?_⟩) fun _ rs2 f2 b=>o'.nofl.2 ts' (oF cl' my' (by rw[iK.uniq (show iK qs q ts6 from ⟨ln6,w6⟩) f2];exact b))⟩
   obtain⟨dM,nM⟩:=op so
   rw[ec']
   refine Ak cl.pos cl.val cl'.pos cl'.val (by walk_at"o") (fun i hi=>?_) dn' fun i hi=>?_
   ·by_cases e:i=M
    ·rw[e];exact dM
    ·exact my.up i (by walk_at"o")
   ·have hi':i<ts6.length:=by walk_at"o"
    rw[bJ (List.getElem?_eq_getElem hi')]
    exact (w6 i _ (List.getElem?_eq_getElem hi')).2
  ·refine key b3 _ H3 [(1,1)] S13 lO3 ⟨fun q hq=>by rw[List.mem_singleton.mp hq];exact⟨by decide,by decide⟩,fun q hq=>by cases hq;decide⟩ (by simp) (by simp) ?_ (fun so _=>⟨l1,?_⟩) fun z=>absurd z (by walk_at"o")
   ·have:=rm (b:=2) (fs:=[(1,1)]) fun q hq=>by rw[List.mem_singleton.mp hq];exact⟨⟨by decide,by decide⟩,⟨by decide,by decide⟩⟩
    exact this.mono (by decide)
   ·obtain⟨dM,_⟩:=op so
    have m1:=my.one
    have m2:=my.most
    obtain rfl:M=1:=by walk_at"o"
    refine oS cl.pos cl.val (m:=1) (by decide) (Dq ⟨by decide +kernel,fun i hi=>cC (by simp;walk_at"o")⟩) (fun i hi=>?_) fun q _=>rfl
    by_cases e:i=1
    ·rw[e];exact dM
    ·exact my.up i (by walk_at"o")
def Hd(G:Hp)(v:V)(c:Prop):Prop:=∃(p:Addr)(w:Str)(xs:List V),v = .ref p/\G p=some (.tup (.str w :: xs))/\(w = "flock" ↔ c)
def mW(K:W.Frag):Sp:=fun vs H Q _=>∃ (a:Addr)(qs:List (Int × Int)),vs=[.ref a]/\aM (vw K H) a qs/\1<=qs.length/\qs.length<=11/\(∀ q ∈ qs,iB q) /\ ∀ v H',ay (vw K H) (vw K H')->Hd (vw K H') v (¬ fA (cf qs) qs.length)->Q v H'
theorem Ch(F:eM K "back" "back" ma f fd) (T:fL K mg)(C_outlook:aS P w K mg base "outlook" ["sums"] 5 (di K)) (C_is_bar:aS P w K mg base "is_bar" ["told"] 1 (eB K)) (C_flock_with:aS P w K mg base "flock_with" ["sums", "roots"] 6 (dq K)):bK P w K mg base eI 7 f fd ["sums"] (mW K):=by
 have scN:=wS.nd
 refine F.okQ wS (fun vs H Q E h=>?_) (fun cdv A outer s H vs Q E hr h=>?_)
 ·obtain⟨_,_,rfl,_⟩:=h
  rfl
 ·obtain⟨a,qs,rfl,ha,l1,l11,sq,h⟩:=h
  refine⟨_,(ae (aC (i:=1) scN rfl (by walk_at"a1") (ai C_outlook (hr.mono (by walk_at"a2")) rfl (aa (qv 0) ac)))
   (ah (ap (tG (dH (ai C_is_bar (hr.mono (by walk_at"a2")) rfl (aa (qv 1) ac))) (qv 1) (bQ (aa eF (aa (ai C_flock_with (hr.mono (by walk_at"a2")) rfl (aa (qv 0) (aa (aA b9 (qv 1) af (fun _ _=>rfl)) ac))) ac))))))),?_⟩
  walk_at"m"
  skip
  refine aR.gen fun N1 hN1=>?_
  walk_at"vc"
  simp only[di]
  refine⟨a,qs,rfl,ha,l1,l11,sq,fun p H1 W B M s S1 cl my o=>hN1 _ _ ?_⟩
  obtain⟨l0,ys0,hp0,_⟩:=o.at_
  walk_at"vc"
  simp only[eB]
  rcases o.which with bs|ts
  ·have nf:=o.nofl.1 bs
   refine⟨p,s,_,true,rfl,hp0,.inr ⟨rfl,bs⟩,fun H2 S2=>⟨true,rfl,oU rfl (h _ H2 (S1.trans S2) ⟨p,s,_,rfl,S2 _ _ hp0,fun z=>?_,fun z=>absurd (ja cl my nf) z⟩)⟩⟩
   rcases bs with y|y <;> exact absurd (y.symm.trans z) (by decide +kernel)
  ·have nf:=o.nofl.2 ts
   obtain⟨l,rs,k,hp,lrs,po,num,hD,kM,k6,kn,k2,op⟩:=o.roots l11 my ts
   have lk:=m9 po (show Dk W k ≠ 0 by have:=hD k (Nat.le_refl _);walk_at"o") num
   have ec:cf rs=Pk W k:=funext num
   refine⟨p,s,_,false,rfl,hp0,.inl ⟨rfl,ts⟩,fun H2 S2=>⟨false,rfl,io (by decide) ⟨_,S2 _ _ hp,_,gm,?_⟩⟩⟩
   simp only[dq]
   exact⟨a,l,qs,rs,rfl,ha.same (S1.trans S2),lrs.same S2,l11,sq,fun z=>by rw[z] at lk;simp at lk,by walk_at"o",by walk_at"o",po,(tJ (by have:=hD k (Nat.le_refl _);walk_at"o") k6 cl.bt).congr num,fun _=>by rw[ec];exact sH cl.pos cl.val k6 hD,fun p3 w3 H3 ws S3 h3 l3 _=>⟨by decide,fun p4 H4 hp4 S4 h4=>h _ H4 (S1.trans (S2.trans (S3.trans S4))) ⟨p4,_,_,rfl,h4,fun _ b=>nf (oF cl my b),fun _=>rfl⟩⟩⟩
def fG(K:W.Frag):Sp:=fun vs H Q _=>∃ (a:Addr)(y:V)(ss:List (Int × Int))(q:Int × Int),vs=[.ref a,y]/\aM (vw K H) a ss/\aJ (vw K H) (fr q) y/\Fq q/\Bq 130 q/\ss.length<=6/\(∀ p ∈ ss,Fq p/\Bq 131 p) /\
 ∀ (b:Addr) H' (qs:List (Int × Int)),ay (vw K H) (vw K H')->vw K H b=none->aM (vw K H') b qs->qs.length=ss.length->(∀ (k:Nat)(p:Int × Int),qs[k]? = some p->Fq p/\wv p=dl (wv q) (cf ss) k 0)->Q (.ref b) H'
theorem nC(F:eM K "powers_from" "powers_from" dy f fd) (T:fL K mg)(C_wholes_from:aS P w K mg base "wholes_from" ["wholes", "spot"] 1 (cW K)) (C_ratio:aS P w K mg base "ratio" ["top", "bottom"] 2 (cS K)) (C_cleared:aS P w K mg base "cleared" ["f"] 2 (aP K)):bK P w K mg base eI 3 f fd ["sums", "spot"] (fG K):=by
 have scN:=iZ.nd
 refine F.okQ iZ (fun vs H Q E h=>?_) (fun cdv A outer s H vs Q E hr h=>?_)
 ·obtain⟨a,_,_,_,rfl,_⟩:=h
  rfl
 ·obtain⟨a,y,ss,q,rfl,ha,ry,fq,bq,l2,hs,h⟩:=h
  refine⟨_,(ae (cM (ai C_cleared (hr.mono (by walk_at"a2")) rfl (aa (qv 0) ac)) (aX (n:=2) rfl (am (ak (i:=2) scN rfl (by walk_at"a1")) (am (ak (i:=3) scN rfl (by walk_at"a1")) aY))))
   (ae (aC (i:=4) scN rfl (by walk_at"a1") (bC ac))
   (ae (gG PassesOwn.never (cX (qv 2) (fun _=>rfl)) (ae (jD (pF PySem.F.plainAttrs_list PySem.F.slot_list_append PySem.F.type_list_append fR (qv 4) (aa (ai C_ratio (hr.mono (by walk_at"a2")) rfl (aa (aA dL (qv 2) af (fun _ _=>rfl)) (aa (qv 3) ac))) ac)))
   (ae (aC (i:=2) scN rfl (by walk_at"a1") (ai C_wholes_from (hr.mono (by walk_at"a2")) rfl (aa (qv 2) (aa (qv 1) ac))))
   (ah (iC (i:=3) scN rfl (by walk_at"a1") (aA b9 (qv 1) af (fun _ _=>rfl)) nh)))))
   (ah (ap (qv 4)))))),?_⟩
  walk_at"m"
  obtain⟨yp,rfl,hyp⟩:=id ry.fr_at
  refine aR.gen fun N1 hN1=>?_
  walk_at"vc"
  simp only[aP]
  refine⟨a,ss,131,rfl,ha,by walk_at"o",by decide,hs,fun p1 b1 H1 D ns S1 h1 hb1 _ hD bD ln hn _=>?_⟩
  walk_at"vc"
  refine⟨_,h1,rfl,?_⟩
  walk_at"vc"
  refine hN1 _ _ ?_
  refine aR.gen fun N2 hN2=>?_
  walk_at"vc"
  refine⟨by decide,fun t H2 ht S2 h2=>hN2 _ _ ?_⟩
  have ht0:=S1.none ht
  refine aR.gen fun N3 hN3=>?_
  walk_at"vc"
  obtain⟨W,hW⟩ : ∃ W:Nat->St->Hp->Prop,∀ m σ H',W m σ H' ↔ ∃ (k:Nat)(wa:Addr)(Bk:Int)(ws:List Int)(ts:List (Int × Int)),σ=[some (.ref a),some (.ref yp),some (.ref wa),some (.int Bk),some (.ref t)]/\m=ws.length/\k+ws.length=ss.length/\ay (vw K H) (vw K H')/\wa ≠ t/\vw K H' wa=some (.lst (ws.map V.int))/\0<Bk/\Bt (800+131*k) Bk /\
    (∀ (i:Nat)(n:Int),ws[i]? = some n->(n:Rat)=dl (wv q) (cf ss) k i*(Bk:Rat)/\Bt (950+132*k) n)/\aM (vw K H') t ts/\ts.length=k /\ ∀ (j:Nat)(p:Int × Int),ts[j]? = some p->Fq p/\wv p=dl (wv q) (cf ss) j 0:=⟨_,fun _ _ _=>Iff.rfl⟩
  refine⟨W,⟨_,(hW _ _ _).mpr ⟨0,b1,D,ns,[],rfl,rfl,by walk_at"o",S1.trans S2,aj hb1 ht,S2 _ _ hb1,hD,bD.mono (by walk_at"o"),fun i n e=>?_,⟨[],h2,.mk_nil⟩,rfl,by simp⟩⟩,fun m σ H3 hw=>?_⟩
  ·have li:=(List.getElem?_eq_some_iff.mp e).1
   obtain⟨z1,z2⟩:=hn i n _ e (List.getElem?_eq_getElem (by walk_at"o"))
   refine⟨?_,z2.mono (by walk_at"o")⟩
   rw[z1]
   show _=cf ss i*_
   rw[bJ (List.getElem?_eq_getElem (by walk_at"o" : i<ss.length))]
  obtain⟨k,wa,Bk,ws,ts,rfl,rfl,hk,S3,nw,hwa,hB,bB,hws,lt,lk,hts⟩:=(hW _ _ _).mp hw
  walk_at"vc"
  obtain⟨tx,htx,rtx⟩:=id lt
  have ltx:tx.length=k:=by rw[rtx.length,List.length_map,lk]
  refine⟨_,iJ hwa,ce (fun hc=>?_) (fun hc=>hN3 _ _ ?_)⟩
  ·cases ws with
   | nil=>cases hc
   | cons n0 wr =>
    rw[List.length_cons] at hk
    refine⟨_,fun σ' H' z=>z,kg htx,_,hwa,.int n0,dJ,?_⟩
    simp only[cS,cW]
    have hne:Bk ≠ 0:=by walk_at"o"
    refine⟨n0,Bk,rfl,hne,bB.mono (by walk_at"o"),fun v4 H4 S4 r4=>⟨tx,S4 _ _ htx,?_,fun H5 B5 h5=>?_⟩⟩
    ·rw[ltx]
     exact Nat.lt_of_lt_of_le (show k<20 by walk_at"o") (by decide)
    have hw5:=B5 _ _ nw (S4 _ _ hwa)
    have S05:ay (vw K H) (vw K H5):=fun b o e=>B5 _ _ (aj e ht0) (S4 _ _ (S3 _ _ e))
    have hyp5:=S05 _ _ hyp
    have htx4:=S4 _ _ htx
    have lt5:aM (vw K H5) t (ts ++ [lo n0 Bk]):=by
     refine⟨_,h5,?_⟩
     rw[List.map_append]
     exact (aE.flat_but htx4 B5 _ _ (dP ts) (rtx.same S4)).snoc (aJ.flat_but htx4 B5 _ _ (cr _) r4)
    have hb:∀ n ∈ n0 :: wr,Bt 2000 n:=fun n z=>by
     obtain⟨i,hi⟩:=List.getElem?_of_mem z
     exact (hws i n hi).2.mono (by walk_at"o")
    refine⟨wa,_,n0 :: wr,q,2000,rfl,hw5,bU hyp5,by simp,by rw[List.length_cons];walk_at"o",hb,by decide,bq,fun b6 H6 S6 hb6 h6=>⟨_,S6 _ _ hyp5,_,gm,q.2,rfl,bO bB bq.2 (by walk_at"o"),(wf q (n0 :: wr)).length,?_,(hW _ _ _).mpr ⟨k+1,b6,Bk*q.2,wf q (n0 :: wr),ts ++ [lo n0 Bk],rfl,rfl,?_,S05.trans S6,(aj h5 hb6).symm,h6,Int.mul_pos hB fq.1,(bB.mul bq.2).mono (by walk_at"o"),fun i n e=>?_,lt5.same S6,by simp[lk],fun j p e=>?_⟩⟩⟩
    ·rw[jm,List.length_cons]
     walk_at"o"
    ·rw[jm,List.length_cons]
     walk_at"o"
    ·have li:i+1<(n0 :: wr).length:=by
      have:=(List.getElem?_eq_some_iff.mp e).1
      rw[jm] at this
      walk_at"o"
     rw[zm li] at e
     cases e
     obtain⟨x1,y1⟩:=hws i _ (List.getElem?_eq_getElem (by walk_at"o"))
     obtain⟨x2,y2⟩:=hws (i+1) _ (List.getElem?_eq_getElem li)
     refine⟨?_,((bq.2.mul y2).sub (bq.1.mul y1)).mono (by walk_at"o")⟩
     rw[Rat.intCast_sub,Rat.intCast_mul,Rat.intCast_mul,Rat.intCast_mul,x1,x2]
     show _=(dl (wv q) (cf ss) k (i+1) - (q.1:Rat) / (q.2:Rat)*dl (wv q) (cf ss) k i)*_
     have n2:(q.2:Rat) ≠ 0:=ar fq.ne
     grind
    ·by_cases hj:j<ts.length
     ·rw[List.getElem?_append_left hj] at e
      exact hts j p e
     ·have hj2:j=k:=by
       have:=(List.getElem?_eq_some_iff.mp e).1
       rw[List.length_append,List.length_singleton] at this
       walk_at"o"
      subst hj2
      rw[List.getElem?_append_right (by walk_at"o"),lk,Nat.sub_self] at e
      cases e
      refine⟨ir hne,?_⟩
      rw[ii hne,(hws 0 n0 rfl).1]
      have:=ar hne
      grind
  ·cases ws with
   | cons n0 wr=>exact absurd rfl hc
   | nil =>
    walk_at"vc"
    exact h t H3 ts S3 ht0 lt (by rw[lk];exact hk) hts
def il(ts:List (Int × Int)):List (Int × Int):=ts.flatMap fun t=>[t,(0,1)]
theorem Cv(ts:List (Int × Int))(t:Int × Int):il (ts ++ [t])=il ts ++ [t,(0,1)]:=by simp[il]
theorem ot(ts:List (Int × Int)):(il ts).length=2*ts.length:=by
 induction ts with
 | nil=>rfl
 | cons t ts ih =>
  show ([t,(0,1)] ++ il ts).length=_
  rw[List.length_append,ih,List.length_cons]
  simp
  walk_at"o"
def gn(K:W.Frag):Sp:=fun vs H Q _=>∃ (a:Addr)(y:V)(ss:List (Int × Int))(q:Int × Int),vs=[.ref a,y]/\aM (vw K H) a ss/\aJ (vw K H) (fr q) y/\Fq q/\Bq 130 q/\1<=ss.length/\ss.length<=6/\(∀ p ∈ ss,Fq p/\Bq 131 p) /\
 ∀ (b:Addr) H' (ts:List (Int × Int)),ay (vw K H) (vw K H')->vw K H b=none->aM (vw K H') b (il ts).dropLast->ts.length=ss.length->(∀ (k:Nat)(p:Int × Int),ts[k]? = some p->Fq p/\wv p=dl (wv q) (cf ss) k 0)->Q (.ref b) H'
theorem qI(F:eM K "even_sums" "even_sums" fe f fd) (T:fL K mg)(C_powers_from:aS P w K mg base "powers_from" ["sums", "spot"] 3 (fG K)):bK P w K mg base eI 4 f fd ["sums", "spot"] (gn K):=by
 have scN:=ku.nd
 refine F.okQ ku (fun vs H Q E h=>?_) (fun cdv A outer s H vs Q E hr h=>?_)
 ·obtain⟨a,_,_,_,rfl,_⟩:=h
  rfl
 ·obtain⟨a,y,ss,q,rfl,ha,ry,fq,bq,l1,l2,hs,h⟩:=h
  obtain⟨z_ZERO,hg_ZERO,hv_ZERO⟩:=T.g_ZERO
  refine⟨_,(ae (aC (i:=2) scN rfl (by walk_at"a1") (bC ac))
   (ae (cT PassesOwn.never rfl (cu (ai C_powers_from (hr.mono (by walk_at"a2")) rfl (aa (qv 0) (aa (qv 1) ac)))) (ak (i:=3) scN rfl (by walk_at"a1")) (ah (iC (i:=2) scN rfl (by walk_at"a1") (bC (aa (qv 3) (aa (eC (v:=V.ref z_ZERO) rfl hg_ZERO rfl) ac))) BS)))
   (ah (ap (cR fB (qv 2) dZ (dU (de cn af))))))),?_⟩
  walk_at"m"
  refine aR.gen fun N1 hN1=>?_
  walk_at"vc"
  refine⟨by decide,fun t H1 ht S1 h1=>hN1 _ _ ?_⟩
  refine aR.gen fun N2 hN2=>?_
  walk_at"vc"
  simp only[fG]
  refine⟨a,y,ss,q,rfl,ha.same S1,aJ.same S1 _ _ ry,fq,bq,l2,hs,fun pa H2 ts S2 hpa lp lpl hts=>?_⟩
  obtain⟨px,hpx,rpx⟩:=id lp
  have lpx:px.length=ts.length:=by rw[rpx.length,List.length_map]
  have npt:pa ≠ t:=(aj h1 hpa).symm
  walk_at"vc"
  refine⟨⟨_,.of (aF hpx)⟩,?_⟩
  obtain⟨Pv,hPv⟩ : ∃ Pv:Nat->St->Hp->Prop,∀ k σ H',Pv k σ H' ↔ ∃ o3,σ=[some (.ref a),some y,some (.ref t),o3]/\ay (vw K H) (vw K H')/\vw K H' pa=some (.lst px)/\aE (vw K H') (ts.map fr) px/\aM (vw K H') t (il (ts.take k)):=⟨_,fun _ _ _=>Iff.rfl⟩
  refine cg (its:=px) Pv (fun k σ H' _ p=>?_) ((hPv _ _ _).mpr ⟨_,rfl,S1.trans S2,hpx,rpx,⟨[],S2 _ _ h1,.mk_nil⟩⟩) (fun k x σ H3 hk hx pv=>?_) (fun σ H3 pv=>?_)
  ·obtain⟨_,_,_,z,_⟩:=(hPv _ _ _).mp p
   exact aU z
  ·obtain⟨o3,rfl,S3,hp3,rp3,lt⟩:=(hPv _ _ _).mp pv
   obtain⟨tx,htx,rtx⟩:=id lt
   have hk':k<ts.length:=by walk_at"o"
   obtain⟨d,e,r⟩:=rp3.get hx
   rw[List.getElem?_map,List.getElem?_eq_getElem hk'] at e
   cases e
   walk_at"vc"
   simp only[zP]
   walk_at"vc"
   refine⟨by decide,fun b4 H4 hb4 S4 h4=>⟨b4,rfl,tx,S4 _ _ htx,_,h4,?_,fun H5 B5 h5=>(hPv _ _ _).mpr ⟨_,rfl,fun b o e=>B5 _ _ (aj e ht) (S4 _ _ (S3 _ _ e)),B5 _ _ npt (S4 _ _ hp3),aE.flat_but (S4 _ _ htx) B5 _ _ (dP ts) (rp3.same S4),⟨_,h5,?_⟩⟩⟩⟩
   ·rw[rtx.length,List.length_map,ot,List.length_take]
    exact Nat.le_trans (show 2*min k ts.length+2<=1000 by walk_at"o") (by decide)
   ·rw[List.take_add_one,List.getElem?_eq_getElem hk']
    show aE _ ((il (ts.take k ++ [ts[k]])).map fr) _
    rw[Cv,List.map_append]
    exact (aE.flat_but (S4 _ _ htx) B5 _ _ (dP _) (rtx.same S4)).app (.mk_cons (aJ.flat_but (S4 _ _ htx) B5 _ _ (cr _) (aJ.same S4 _ _ r)) (.mk_cons (bU (hv_ZERO _)) .mk_nil))
  ·obtain⟨o3,rfl,S3,hp3,rp3,lt⟩:=(hPv _ _ _).mp pv
   rw[lpx,List.take_length] at lt
   obtain⟨tx,htx,rtx⟩:=id lt
   refine hN2 _ _ ?_
   walk_at"vc"
   refine⟨tx,htx,fun b H4 hb S4 h4=>?_⟩
   have hne:tx ≠ []:=fun z=>by
    have:=rtx.length
    rw[z,List.length_map,ot] at this
    simp at this
    walk_at"o"
   rw[EG hne] at h4
   refine h b H4 ts (S3.trans S4) (S3.none hb) ⟨_,h4,?_⟩ lpl hts
   rw[List.dropLast_eq_take,List.dropLast_eq_take,List.map_take,<- rtx.length.trans (List.length_map ..)]
   exact (rtx.take _).same S4
def qH(K:W.Frag):Sp:=fun vs H Q _=>∃ (a:Addr)(qs:List (Int × Int)),vs=[.ref a]/\aM (vw K H) a qs/\1<=qs.length/\qs.length<=11/\(∀ q ∈ qs,iB q) /\ ¬ fA (cf qs) qs.length /\ ∀ (p:Addr) H' W B M s,ay (vw K H) (vw K H')->m4 qs W B->pc W qs.length M->yb qs W B M (vw K H') p s->Q (.ref p) H'
theorem Ec(F:eM K "had" "had" pW f fd) (T:fL K mg)(C_outlook:aS P w K mg base "outlook" ["sums"] 5 (di K)) (C_is_bar:aS P w K mg base "is_bar" ["told"] 1 (eB K)):bK P w K mg base eI 6 f fd ["sums"] (qH K):=by
 have scN:=Ai.nd
 refine F.okQ Ai (fun vs H Q E h=>?_) (fun cdv A outer s H vs Q E hr h=>?_)
 ·obtain⟨_,_,rfl,_⟩:=h
  rfl
 ·obtain⟨a,qs,rfl,ha,l1,l11,sq,nb,h⟩:=h
  refine⟨_,(ae (aC (i:=1) scN rfl (by walk_at"a1") (ai C_outlook (hr.mono (by walk_at"a2")) rfl (aa (qv 0) ac)))
   (ae (cc (dH (ai C_is_bar (hr.mono (by walk_at"a2")) rfl (aa (qv 1) ac))) (ah nY) aN)
   (ah (ap (qv 1))))),?_⟩
  walk_at"m"
  skip
  refine aR.gen fun N1 hN1=>?_
  walk_at"vc"
  simp only[di]
  refine⟨a,qs,rfl,ha,l1,l11,sq,fun p H1 W B M s S1 cl my o=>hN1 _ _ ?_⟩
  refine aR.gen fun N2 hN2=>?_
  walk_at"vc"
  simp only[eB]
  obtain⟨l,ys,hp,_⟩:=o.at_
  refine⟨p,s,_,false,rfl,hp,.inl ⟨rfl,o.which.resolve_left fun z=>nb (ja cl my (o.nofl.1 z))⟩,fun H2 S2=>?_⟩
  refine⟨false,rfl,io (by decide) (hN2 _ _ ?_)⟩
  walk_at"vc"
  exact h p H2 W B M s (S1.trans S2) cl my (o.same S2)
def gU(K:W.Frag):Sp:=fun vs H Q _=>∃ (a:Addr)(qs:List (Int × Int)),vs=[.ref a]/\aM (vw K H) a qs/\1<=qs.length/\qs.length<=11/\(∀ q ∈ qs,iB q) /\ ¬ fA (cf qs) qs.length /\ ∀ H' W B M,ay (vw K H) (vw K H')->m4 qs W B->pc W qs.length M->Q (.bl (decide (Dk W M=0))) H'
theorem rT(F:eM K "is_tight" "is_tight" fO f fd) (T:fL K mg)(C_had:aS P w K mg base "had" ["sums"] 6 (qH K)):bK P w K mg base eI 7 f fd ["sums"] (gU K):=by
 have scN:=mr.nd
 refine F.okQ mr (fun vs H Q E h=>?_) (fun cdv A outer s H vs Q E hr h=>?_)
 ·obtain⟨_,_,rfl,_⟩:=h
  rfl
 ·obtain⟨a,qs,rfl,ha,l1,l11,sq,nb,h⟩:=h
  refine⟨_,(ah (ap (cE gX (aA b9 (ai C_had (hr.mono (by walk_at"a2")) rfl (aa (qv 0) ac)) af (fun _ _=>rfl)) eF (aI _)))),?_⟩
  walk_at"m"
  walk_at"vc"
  simp only[qH]
  refine⟨a,qs,rfl,ha,l1,l11,sq,nb,fun p H1 W B M s S1 cl my o=>?_⟩
  have nf:¬ uA W qs.length M:=fun z=>nb (ja cl my z)
  have ts:s = "tight" \/ s = "open":=o.which.resolve_left fun z=>nf (o.nofl.1 z)
  obtain⟨l,rs,_,h1,_⟩:=o.roots l11 my ts
  have hs:(s = "tight" /\ Dk W M=0)\/(s = "open" /\ 0<Dk W M):=by
   rcases o.kind with ⟨d,_⟩|⟨d,y,_⟩|⟨d,_,z⟩|⟨d,z⟩
   ·exact absurd (.inl d) nf
   ·exact absurd (.inr ⟨d,y⟩) nf
   ·exact .inl ⟨z,d⟩
   ·exact .inr ⟨z,d⟩
  refine⟨_,rfl,_,h1,_,dJ,rfl,?_⟩
  have e:decide (V.str s=V.str (Str.ofString "tight"))=decide (Dk W M=0):=by
   rcases hs with ⟨z,y⟩|⟨z,y⟩
   ·rw[z,decide_eq_true y]
    rfl
   ·rw[z,decide_eq_false (show ¬ Dk W M=0 by walk_at"o")]
    decide +kernel
  rw[e]
  exact h H1 W B M S1 cl my
theorem uM{p q:Int × Int}(hp:Fq p)(hq:Fq q)(h:sD p q=true):wv p<wv q:=by
 unfold sD at h
 have h:=of_decide_eq_true h
 have h1:((p.1*q.2:Int):Rat)<((q.1*p.2:Int):Rat):=Rat.intCast_lt_intCast.mpr h
 have p2:(0:Rat)<((p.2:Int):Rat):=Rat.intCast_pos.mpr hp.1
 have q2:(0:Rat)<((q.2:Int):Rat):=Rat.intCast_pos.mpr hq.1
 rw[Rat.intCast_mul,Rat.intCast_mul] at h1
 unfold wv
 rw[Rat.div_lt_iff p2]
 have:(q.1:Rat) / (q.2:Rat)*(p.2:Rat)=((q.1:Rat)*(p.2:Rat)) / (q.2:Rat):=by grind
 rw[this,Rat.lt_div_iff q2]
 exact h1
theorem iI{cs:List dQ}(fc:∀ c ∈ cs,Fq c.1/\Fq c.2)(inc:∀ i c d,cs[i]? = some c->cs[i+1]? = some d->sD c.1 d.1=true):∀ (m i:Nat)(c d:dQ),cs[i]? = some c->cs[i+m+1]? = some d->wv c.1<wv d.1
 | 0,i,c,d,h1,h2=>uM (fc c (List.mem_of_getElem? h1)).1 (fc d (List.mem_of_getElem? h2)).1 (inc i c d h1 h2)
 | m+1,i,c,d,h1,h2=>by
  have hl:=(List.getElem?_eq_some_iff.mp h2).1
  obtain⟨e,he⟩ : ∃ e,cs[i+m+1]? = some e:=⟨_,List.getElem?_eq_getElem (by walk_at"o")⟩
  have a1:=iI fc inc m i c e h1 he
  have a2:=uM (fc e (List.mem_of_getElem? he)).1 (fc d (List.mem_of_getElem? h2)).1 (inc (i+m+1) e d he h2)
  grind
theorem AI{cs:List dQ}(fc:∀ c ∈ cs,Fq c.1/\Fq c.2)(inc:∀ i c d,cs[i]? = some c->cs[i+1]? = some d->sD c.1 d.1=true) {i j:Nat}{c d:dQ}(hne:i ≠ j)(h1:cs[i]? = some c)(h2:cs[j]? = some d):wv c.1 ≠ wv d.1:=by
 rcases Nat.lt_or_gt_of_ne hne with z|z
 ·obtain⟨m,rfl⟩ : ∃ m,j=i+m+1:=⟨j - i - 1,by walk_at"o"⟩
  have:=iI fc inc m i c d h1 h2
  grind
 ·obtain⟨m,rfl⟩ : ∃ m,i=j+m+1:=⟨i - j - 1,by walk_at"o"⟩
  have:=iI fc inc m j d c h2 h1
  grind
theorem sU{cs:List dQ}(fc:∀ c ∈ cs,Fq c.1/\Fq c.2)(inc:∀ i c d,cs[i]? = some c->cs[i+1]? = some d->sD c.1 d.1=true):(E4 cs).Nodup:=by
 rw[List.nodup_iff_pairwise_ne,List.pairwise_iff_getElem]
 intro i j hi hj hij
 rw[mQ] at hi hj
 have e1:=zl (List.getElem?_eq_getElem hi)
 have e2:=zl (List.getElem?_eq_getElem hj)
 rw[List.getElem?_eq_getElem (by rw[mQ];exact hi)] at e1
 rw[List.getElem?_eq_getElem (by rw[mQ];exact hj)] at e2
 rw[Option.some.inj e1,Option.some.inj e2]
 exact AI fc inc (by walk_at"o") (List.getElem?_eq_getElem hi) (List.getElem?_eq_getElem hj)
structure AN (cs:List dQ):Prop where
 fq:∀ c ∈ cs,Fq c.1/\Fq c.2/\0<c.2.1
 sx:∀ c ∈ cs,Sx 300 c.1/\Sx 36 c.2
 inc:∀ i c d,cs[i]? = some c->cs[i+1]? = some d->sD c.1 d.1=true
 l1:1<=cs.length
 l5:cs.length<=5
theorem AN.pos{cs:List dQ}(h:AN cs):∀ c ∈ cs,0<wv c.2:=fun c hc=>by
 obtain⟨_,f2,p⟩:=h.fq c hc
 unfold wv
 have z1:(0:Rat)<((c.2.1:Int):Rat):=Rat.intCast_pos.mpr p
 have z2:(0:Rat)<((c.2.2:Int):Rat):=Rat.intCast_pos.mpr f2.1
 rw[Rat.lt_div_iff z2]
 grind
theorem AN.nd{cs:List dQ}(h:AN cs):(E4 cs).Nodup:=sU (fun c hc=>⟨(h.fq c hc).1,(h.fq c hc).2.1⟩) h.inc
theorem AN.low{c:dQ}{cs:List dQ}(h:AN (c :: cs)):∀ d ∈ cs,wv c.1<wv d.1:=fun d hd=>by
 obtain⟨i,hi⟩:=List.getElem?_of_mem hd
 exact iI (fun c hc=>⟨(h.fq c hc).1,(h.fq c hc).2.1⟩) h.inc i 0 c d rfl (by rw[Nat.zero_add,List.getElem?_cons_succ];exact hi)
def kc(cs:List dQ)(qs:List (Int × Int)):Prop:=∀ (i:Nat)(p:Int × Int),qs[i]? = some p->Fq p/\wv p=cj cs i
theorem kc.val{cs:List dQ}{qs:List (Int × Int)}(h:kc cs qs) {i:Nat}(hi:i<qs.length):cf qs i=cj cs i:=by
 rw[bJ (List.getElem?_eq_getElem hi)]
 exact (h i _ (List.getElem?_eq_getElem hi)).2
theorem kc.take{cs:List dQ}{qs:List (Int × Int)}(h:kc cs qs)(n:Nat):kc cs (qs.take n):=fun i p e=>by
 rw[List.getElem?_take] at e
 split at e
 ·exact h i p e
 ·cases e
def mF(s:Rat)(cs:List dQ)(k:Nat):Rat:=cj cs (k+1) - s*cj cs k
theorem BM(qs:List (Int × Int))(q:Int × Int):∃ rs,iK qs q rs:=by
 refine⟨(List.range (qs.length - 1)).map fun k=>((cf qs (k+1) - wv q*cf qs k).num,((cf qs (k+1) - wv q*cf qs k).den:Int)),by simp,fun k p e=>?_⟩
 rw[List.getElem?_map] at e
 obtain⟨j,hj,rfl⟩:=Option.map_eq_some_iff.mp e
 obtain⟨_,hj⟩:=List.getElem?_eq_some_iff.mp hj
 rw[List.getElem_range] at hj
 subst hj
 obtain⟨x,hx⟩ : ∃ x:Rat,x=cf qs (k+1) - wv q*cf qs k:=⟨_,rfl⟩
 rw[<- hx]
 refine⟨⟨?_,?_⟩,?_⟩
 ·have:=x.den_pos
  show (0:Int)<(x.den:Int)
  walk_at"o"
 ·exact x.reduced
 ·show (x.num:Rat) / ((x.den:Int):Rat)=x
  rw[<- Rat.divInt_eq_div]
  exact Rat.num_divInt_den x
theorem kc.nob{cs:List dQ}{qs:List (Int × Int)}{q:Int × Int}(h:kc cs qs)(hp:∀ c ∈ cs,0<wv c.2):¬ fA (cf qs) qs.length:=fun b=>pS hp _ (b.more (Nat.le_refl _) fun i hi=>h.val hi)
theorem kO{cs:List dQ}{qs:List (Int × Int)}{q:Int × Int}(h:kc cs qs)(hp:∀ c ∈ cs,0<wv c.2):oY qs q ↔ (1<qs.length -> ¬ fA (mF (wv q) cs) (qs.length - 1)):=by
 have e:∀ rs,iK qs q rs -> ∀ i,i<qs.length - 1->cf rs i=mF (wv q) cs i:=fun rs f i hi=>by
  have hi':i<rs.length:=by rw[f.1];exact hi
  rw[bJ (List.getElem?_eq_getElem hi'),(f.2 i _ (List.getElem?_eq_getElem hi')).2,h.val (by walk_at"o"),h.val (by walk_at"o")]
  rfl
 refine⟨fun n n1 b=>?_,fun n=>⟨h.nob (q:=q) hp,fun n1 rs f b=>n n1 ?_⟩⟩
 ·obtain⟨rs,f⟩:=BM qs q
  exact n.2 n1 rs f (b.more (by rw[f.1];exact Nat.le_refl _) fun i hi=>(e rs f i hi).symm)
 ·rw[f.1] at b
  exact b.more (Nat.le_refl _) fun i hi=>e rs f i hi
theorem xo{cs:List dQ}{qs:List (Int × Int)}{q:Int × Int}(h:kc cs qs)(hp:∀ c ∈ cs,0<wv c.2)(hs:∀ c ∈ cs,wv q<=wv c.1):oY qs q:=(kO h hp).mpr fun _=>um (fun c hc=>⟨hp c hc,hs c hc⟩) _
theorem yq{cs:List dQ}{qs:List (Int × Int)}{q q':Int × Int}(h:kc cs qs)(hp:∀ c ∈ cs,0<wv c.2)(e:wv q'=wv q - 2 / 3)(n:oY qs q):oY qs q':=(kO h hp).mpr fun n1 b=>by
 refine xj (c:=2 / 3) (m:=qs.length - 1) (n:=qs.length - 1) (S:=cj cs) (T:=mF (wv q) cs) (by decide +kernel) (Nat.le_refl _) (pS hp _) ((kO h hp).mp n n1) (b.more (Nat.le_refl _) fun i _=>?_)
 show cj cs (i+1) - wv q'*cj cs i=cj cs (i+1) - wv q*cj cs i+2 / 3*cj cs i
 rw[e]
 grind
theorem xW{c:dQ}{cs:List dQ}{qs:List (Int × Int)}{q:Int × Int}{W:Nat->Int}{B:Int}{M:Nat}(hC:AN (c :: cs))(h:kc (c :: cs) qs)(l11:qs.length<=11)(cl:m4 qs W B)(my:pc W qs.length M)(hs:wv c.1<wv q)(n:oY qs q):Dk W M ≠ 0:=fun z=>by
 have m1:=my.one
 have m2:=my.most
 have few:=xA (k:=M - 1) cl.pos cl.val (fun i hi=>h.val hi) hC.nd hC.pos (by walk_at"o") (by walk_at"o") (my.up _ (by walk_at"o")) (by rw[show M - 1+1=M by walk_at"o"];exact z)
 rw[List.length_cons] at few
 exact (kO h hC.pos).mp n (by walk_at"o") (Cp (hC.pos c List.mem_cons_self) hs (fun d hd=>by have:=hC.low d hd;grind) (by walk_at"o"))
theorem yG:∀(ts:List (Int × Int))(j:Nat),(il ts)[j]? = if j % 2=0 then ts[j / 2]? else (ts[j / 2]?).map fun _=>((0:Int),(1:Int))
 | [],j=>by
  show ([]:List (Int × Int))[j]? = _
  simp
 | t :: ts,0=>rfl
 | t :: ts,1=>rfl
 | t :: ts,j+2=>by
  show (il ts)[j]? = _
  rw[yG ts j,show (j+2) % 2=j % 2 by walk_at"o",show (j+2) / 2=j / 2+1 by walk_at"o",List.getElem?_cons_succ]
def eS(T:Nat->Rat)(j:Nat):Rat:=if j % 2=0 then T (j / 2) else 0
theorem Ab{cs:List dQ}{qs ts:List (Int × Int)}{q:Int × Int}(h:kc cs qs)(hp:∀ c ∈ cs,0<wv c.2)(l1:1<=qs.length)(ln:ts.length=qs.length)(ht:∀ (k:Nat)(p:Int × Int),ts[k]? = some p->Fq p/\wv p=gL (wv q) cs k):(¬ fA (cf (il ts).dropLast) (il ts).dropLast.length) ↔ oY qs q:=by
 have le:(il ts).dropLast.length=2*qs.length - 1:=by rw[List.length_dropLast,ot,ln]
 have e:∀ i,i<2*qs.length - 1->cf (il ts).dropLast i=eS (gL (wv q) cs) i:=fun i hi=>by
  have e1:(il ts).dropLast[i]? = (il ts)[i]?:=by
   rw[List.dropLast_eq_take,List.getElem?_take_of_lt (by rw[ot];walk_at"o")]
  have e2:(il ts)[i]? = _:=yG ts i
  have l2:i / 2<ts.length:=by walk_at"o"
  rw[List.getElem?_eq_getElem l2] at e2
  unfold eS
  by_cases z:i % 2=0
  ·rw[if_pos z] at e2 ⊢
   rw[bJ (e1.trans e2)]
   exact (ht _ _ (List.getElem?_eq_getElem l2)).2
  ·rw[if_neg z] at e2 ⊢
   rw[bJ (e1.trans e2)]
   exact kz
 have ev:=ym (E:=eS (gL (wv q) cs)) (T:=gL (wv q) cs) (n:=qs.length) (fun i=>by unfold eS;rw[if_pos (by walk_at"o"),show 2*i / 2=i by walk_at"o"]) (fun i=>by unfold eS;rw[if_neg (by walk_at"o")]) l1 (uf hp _)
 rw[le,kO h hp]
 refine⟨fun n n1 b=>n ((ev.mpr (sy.mpr b)).more (Nat.le_refl _) fun i hi=>(e i hi).symm),fun n b=>?_⟩
 have b2:=ev.mp (b.more (Nat.le_refl _) e)
 by_cases n1:1<qs.length
 ·exact n n1 (sy.mp b2)
 ·obtain⟨f,L,v,N,hf,hL,hN,z⟩:=b2
  have L0:L=0:=by walk_at"o"
  subst L0
  have z1:∀ (S:Nat->Rat)(v:Nat->Rat)(N:Nat),ip S f v 0 N=0:=fun S v N=>rfl
  rw[z1,z1] at z
  rcases z with z|⟨_,z⟩
  ·exact absurd z (by decide)
  ·exact z rfl
theorem Ev.good{d:D}(h:Ev d):sA d:=by
 obtain⟨ds,t,bl,_,rfl⟩:=h
 have el:∀ {fs:List (Int × Int)},Pl fs->xF (.lst (fs.map fr)):=fun {fs} p=>⟨A4 fs,by show (fs.map fr).length<=1000;rw[List.length_map];have:=p.2.1;walk_at"o",fun gs e _=>by
  have:=gQ e
  subst this
  have:=p.2.1
  exact⟨by walk_at"o",p.2.2⟩⟩
 have no:∀ {e:D},e.cmp->(∀ ds,e ≠ .lst ds)->e.len<=1000->xF e:=fun c h l=>⟨c,l,fun fs z=>absurd z (h _)⟩
 have ew:∀ {w:Str},w = "below" \/ w = "nought" -> xF (.str w):=fun hw=>no (qA (by rcases hw with z|z <;> (rw[z];decide +kernel))) (by simp) (by simp[D.len])
 have et:xF (.int t):=no (rA t) (by simp) (by simp[D.len])
 intro es z e he
 injection z with z
 subst z
 obtain⟨w,fs,hw,pf,z|⟨gs,pg,z⟩⟩:=bl
 ·injection z with z
  subst z
  simp only[List.cons_append,List.nil_append,List.mem_cons,List.not_mem_nil,or_false] at he
  rcases he with rfl|rfl|rfl
  ·exact ew hw
  ·exact el pf
  ·exact et
 ·injection z with z
  subst z
  simp only[List.cons_append,List.nil_append,List.mem_cons,List.not_mem_nil,or_false] at he
  rcases he with rfl|rfl|rfl|rfl
  ·exact ew hw
  ·exact el pf
  ·exact el pg
  ·exact et
theorem FS.hd{qs:List (Int × Int)}{q:Int × Int}{G:Hp}{v:V}(h:FS qs q G v):Hd G v (oY qs q):=by
 rcases h with ⟨n,d,r,⟨ds,t,bl,_,rfl⟩,_⟩|⟨n,p,r,rfl,hp⟩
 ·obtain⟨w,fs,hw,pf,z⟩:=bl
  have nw:w ≠ "flock":=fun y=>by rcases hw with z|z <;> exact absurd (z.symm.trans y) (by decide +kernel)
  obtain⟨r1,hr1⟩ : ∃ r1,ds = .str w :: r1:=by
   rcases z with z|⟨gs,_,z⟩
   ·injection z with z
    exact⟨_,z⟩
   ·injection z with z
    exact⟨_,z⟩
  subst hr1
  obtain⟨a',xs,e,hx,r⟩:=r.tup_at
  obtain⟨x,hx0,rx⟩:=r.at (i:=0) (d:=.str w) rfl
  cases xs with
  | nil=>cases hx0
  | cons x0 xs =>
   cases hx0
   have:x = .str w:=by unfold aJ at rx;exact rx
   subst this
   exact⟨a',w,xs,e,hx,fun y=>absurd y nw,fun y=>absurd y n⟩
 ·exact⟨p,_,_,rfl,hp,fun _=>n,fun _=>rfl⟩
theorem FS.holds{qs:List (Int × Int)}{q:Int × Int}{G:Hp}{v:V}(h:FS qs q G v)(n:¬ oY qs q):∃ d,aJ G d v/\sA d/\oQ qs q d:=by
 rcases h with ⟨_,d,r,b,t⟩|⟨y,_⟩
 ·exact⟨d,r,b.good,t⟩
 ·exact absurd y n
def qQ(K:W.Frag):Sp:=fun vs H Q _=>∃ x y p q,vs=[x,y]/\aJ (vw K H) (fr p) x/\aJ (vw K H) (fr q) y/\Bq 20000 p/\Bq 20000 q/\Q (.bl (sD p q)) H
theorem DH(F:eM K "_law_less" "_law_less" lH f fd) (T:fL K mg):bK P w K mg base eI 1 f fd ["_law_one", "_law_other"] (qQ K):=by
 have scN:=Am.nd
 refine F.okQ Am (fun vs H Q E h=>?_) (fun cdv A outer s H vs Q E hr h=>?_)
 ·obtain⟨_,_,_,_,rfl,_⟩:=h
  rfl
 ·obtain⟨x,y,p,q,rfl,hx,hy,bp,bq,h⟩:=h
  refine⟨_,(ah (ap (cE mv (ao aH (aA b9 (qv 0) af (fun _ _=>rfl)) (aA b9 (qv 1) af (fun _ _=>rfl))) (ao aH (aA b9 (qv 1) af (fun _ _=>rfl)) (aA b9 (qv 0) af (fun _ _=>rfl))) (aI _)))),?_⟩
  walk_at"m"
  obtain⟨a,rfl,ha⟩:=hx.fr_at
  obtain⟨b,rfl,hb⟩:=hy.fr_at
  walk_at"vc*"
  exact⟨bO bp.1 bq.2 (by decide),bO bq.1 bp.2 (by decide),h⟩
def jK(K:W.Frag):Sp:=fun vs H Q _=>∃ x y p q,vs=[x,y]/\aJ (vw K H) (fr p) x/\aJ (vw K H) (fr q) y/\p.2 ≠ 0/\q.2 ≠ 0/\Bq 1000000 p/\Bq 1000000 q/\Bt 4000000 (p.2*q.2) /\ ∀ v H',ay (vw K H) (vw K H')->aJ (vw K H') (fr (rF p q)) v->Q v H'
theorem Ck(F:eM K "_law_minus" "_law_minus" jP f fd) (T:fL K mg)(zClow:aS P w K mg base "_law_low" ["_law_top", "_law_bottom"] 2 (iN K)):bK P w K mg base eI 3 f fd ["_law_one", "_law_other"] (jK K):=by
 have scN:=vR.nd
 refine F.okQ vR (fun vs H Q E h=>?_) (fun cdv A outer s H vs Q E hr h=>?_)
 ·obtain⟨_,_,_,_,rfl,_⟩:=h
  rfl
 ·obtain⟨x,y,p,q,rfl,hx,hy,np,nq,bp,bq,bb,h⟩:=h
  refine⟨_,(ah (ap (ai zClow (hr.mono (by walk_at"a2")) rfl (aa (ao dE (ao aH (aA b9 (qv 0) af (fun _ _=>rfl)) (aA b9 (qv 1) af (fun _ _=>rfl))) (ao aH (aA b9 (qv 1) af (fun _ _=>rfl)) (aA b9 (qv 0) af (fun _ _=>rfl)))) (aa (ao aH (aA b9 (qv 0) af (fun _ _=>rfl)) (aA b9 (qv 1) af (fun _ _=>rfl))) ac))))),?_⟩
  walk_at"m"
  obtain⟨a,rfl,ha⟩:=hx.fr_at
  obtain⟨b,rfl,hb⟩:=hy.fr_at
  walk_at"vc*"
  simp only[iN]
  walk_at"vc*"
  exact⟨bO bp.1 bq.2 (by decide),bO bq.1 bp.2 (by decide),bO bp.2 bq.2 (by decide),Int.mul_ne_zero np nq,h⟩
def gp(K:W.Frag):Sp:=fun vs H Q _=>∃ (st:Addr)(m:Nat),vs=[.ref st,.int m]/\m<=6/\1<=m/\gj (vw K H) st /\ ∀ (a:Addr)(H':Hp)(cs:List dQ),iT st (vw K H) (vw K H')->gj (vw K H') st->ik (vw K H') a (cs.map sR)->(∀ c ∈ cs,Fq c.1/\Fq c.2/\0<c.2.1)->(∀ c ∈ cs,Bq 100 c.1/\Bq 10 c.2)->(∀ c ∈ cs,Sx 300 c.1/\Sx 36 c.2)->(∀ i c d,cs[i]? = some c->cs[i+1]? = some d->sD c.1 d.1=true)->1<=cs.length->cs.length<=m->Q (.ref a) H'
theorem qV(F:eM K "_law_spot_crowd" "_law_spot_crowd" ee f fd) (T:fL K mg)(zCsmall:aS P w K mg base "_law_small" ["_law_state_here"] 3 (jA K)) (zCabove:aS P w K mg base "_law_above" ["_law_state_here"] 3 (gN K))
  (zCcrowd:aS P w K mg base "_law_crowd" ["_law_state_here", "_law_most"] 4 (nj K)):bK P w K mg base eI 5 f fd ["_law_state_here", "_law_most"] (gp K):=by
 have scN:=kA.nd
 refine F.okQ kA (fun vs H Q E h=>?_) (fun cdv A outer s H vs Q E hr h=>?_)
 ·obtain⟨_,_,rfl,_⟩:=h
  rfl
 ·obtain⟨st,m,rfl,hm,hm1,hst,h⟩:=h
  refine⟨_,(ae (aC (i:=2) scN rfl (by walk_at"a1") (ai zCcrowd (hr.mono (by walk_at"a2")) rfl (aa (qv 0) (aa (qv 1) ac))))
   (ae (cc (aQ (An hr.ul) (qv 2) (bC ac) (aI _)) (ah (aC (i:=2) scN rfl (by walk_at"a1") (bC (aa (bQ (aa (ai zCsmall (hr.mono (by walk_at"a2")) rfl (aa (qv 0) ac)) (aa (ai zCabove (hr.mono (by walk_at"a2")) rfl (aa (qv 0) ac)) ac))) ac)))) aN)
   (ah (ap (qv 2))))),?_⟩
  walk_at"m"
  refine aR.gen fun N1 hN1=>?_
  walk_at"vc"
  simp only[nj]
  refine⟨st,m,rfl,hm,hst,fun a H1 cs B1 st1 l1 f1 b1 s1 i1 n1 hn1=>hN1 _ _ ?_⟩
  obtain⟨xs,hxs,rxs⟩:=id l1
  have lxs:xs.length=cs.length:=by rw[rxs.length,List.length_map]
  refine aR.gen fun N2 hN2=>?_
  walk_at"vc"
  refine⟨by decide,fun e2 H2 he2 S2 h2=>⟨e2,rfl,xs,S2 _ _ hxs,h2,?_⟩⟩
  have st2:=st1.same S2
  refine ce (fun hc=>?_) (fun hc=>hN2 _ _ ?_)
  ·simp only[jA,gN]
   refine⟨st,rfl,st2,fun v3 H3 q3 B3 st3 r3 f3 b31 b32 s3=>⟨st,rfl,st3,fun v4 H4 q4 B4 st4 r4 f4 p4 b4 s4=>⟨by decide,fun t5 H5 ht5 S5 h5=>⟨by decide,fun l6 H6 hl6 S6 h6=>hN2 _ _ ?_⟩⟩⟩⟩
   obtain⟨_,_,e,_⟩:=id st3
   have r34:=aJ.flat_but e B4 _ _ (cr _) r3
   walk_at"vc"
   refine h l6 H6 [(q3,q4)] ((B1.same_trans S2).trans (B3.trans (B4.same_trans (S5.trans S6)))) (st4.same (S5.trans S6)) ⟨_,h6,.mk_cons (.mk_tup (S6 _ _ h5) (.mk_cons (aJ.same (S5.trans S6) _ _ r34) (.mk_cons (aJ.same (S5.trans S6) _ _ r4) .mk_nil))) .mk_nil⟩ (fun c hc=>?_) (fun c hc=>?_) (fun c hc=>?_) (fun i c d e1 e2=>by simp at e2) (by simp) (by simpa using hm1)
   ·cases List.mem_singleton.mp hc
    exact⟨f3,f4,p4⟩
   ·cases List.mem_singleton.mp hc
    exact⟨⟨b31.mono (by decide),b32.mono (by decide)⟩,b4⟩
   ·cases List.mem_singleton.mp hc
    exact⟨s3.mono (by decide),s4⟩
  ·have hcs:1<=cs.length:=by
    rcases Nat.eq_zero_or_pos cs.length with z|z
    ·rw[z] at lxs
     have:xs=[]:=List.length_eq_zero_iff.mp lxs
     subst this
     exact absurd rfl hc
    ·exact z
   walk_at"vc"
   exact h a H2 cs (B1.same_trans S2) st2 ⟨xs,S2 _ _ hxs,rxs.same S2⟩ f1 b1 s1 i1 hcs n1
theorem D9{p q:Int × Int}(hp:Fq p)(hq:Fq q)(h:wv p<wv q):sD p q=true:=by
 have p2:(0:Rat)<((p.2:Int):Rat):=Rat.intCast_pos.mpr hp.1
 have q2:(0:Rat)<((q.2:Int):Rat):=Rat.intCast_pos.mpr hq.1
 unfold sD
 refine decide_eq_true (Rat.intCast_lt_intCast.mp ?_)
 rw[Rat.intCast_mul,Rat.intCast_mul]
 unfold wv at h
 rw[Rat.div_lt_iff p2] at h
 have:(q.1:Rat) / (q.2:Rat)*(p.2:Rat)=((q.1:Rat)*(p.2:Rat)) / (q.2:Rat):=by grind
 rw[this,Rat.lt_div_iff q2] at h
 exact h
theorem nK{w:Str}{c:Prop} [d:Decidable c] (h:w = "flock" ↔ c):decide (V.str w=V.str (Str.ofString "flock"))=decide c:=by
 refine decide_eq_decide.mpr ⟨fun z=>h.mp ?_,fun z=>?_⟩
 ·injection z
 ·rw[h.mpr z]
theorem kc.sumB{cs:List dQ}{qs:List (Int × Int)}(h:kc cs qs)(C:AN cs)(l:qs.length<=11):∀ q ∈ qs,mJ 112 q:=fun p hp=>by
 obtain⟨k,hk⟩:=List.getElem?_of_mem hp
 obtain⟨z1,z2⟩:=h k p hk
 have lk:=(List.getElem?_eq_some_iff.mp hk).1
 exact (yt C.sx (by have:=C.l5;walk_at"o") (by walk_at"o") z1 z2).mono (by decide)
def mY(K:W.Frag):Sp:=fun vs H Q _=>∃ (ca a:Addr)(y:V)(c:dQ)(cs:List dQ)(qs:List (Int × Int))(q:Int × Int),vs=[.ref ca,.ref a,y]/\ik (vw K H) ca ((c :: cs).map sR)/\AN (c :: cs)/\Bq 100 c.1/\aM (vw K H) a qs/\kc (c :: cs) qs/\1<=qs.length/\qs.length<=11/\aJ (vw K H) (fr q) y/\gW q/\gW (rF q (2,3)) /\ ∀ H',ay (vw K H) (vw K H')->Q (.bl true) H'
theorem A0(F:eM K "_law_right" "_law_right" ju f fd) (T:fL K mg)(C_back_from:aS P w K mg base "back_from" ["sums", "spot"] 7 (dR K)) (C_bar_from_holds:aS P w K mg base "bar_from_holds" ["sums", "spot", "thing"] 7 (dG K)) (zCless:aS P w K mg base "_law_less" ["_law_one", "_law_other"] 1 (qQ K)) (C_is_tight:aS P w K mg base "is_tight" ["sums"] 7 (gU K)) (zCminus:aS P w K mg base "_law_minus" ["_law_one", "_law_other"] 3 (jK K)) (C_back:aS P w K mg base "back" ["sums"] 7 (mW K)) (C_even_sums:aS P w K mg base "even_sums" ["sums", "spot"] 4 (gn K)):bK P w K mg base eI 8 f fd ["_law_crowd_here", "_law_sums", "_law_spot"] (mY K):=by
 have scN:=wt.nd
 refine F.okQ wt (fun vs H Q E h=>?_) (fun cdv A outer s H vs Q E hr h=>?_)
 ·obtain⟨_,_,_,_,_,_,_,rfl,_⟩:=h
  rfl
 ·obtain⟨ca,a,y,c,cs,qs,q,rfl,hc,C,bc,ha,mo,l1,l11,ry,hq,hq',h⟩:=h
  have sb:=mo.sumB C l11
  have sq:∀ p ∈ qs,iB p:=fun p hp=>(sb p hp).sumQ (by decide)
  have nb0:¬ fA (cf qs) qs.length:=mo.nob (q:=q) C.pos
  obtain⟨xs,hxs,rxs⟩:=id ha
  refine⟨_,(ae (aC (i:=3) scN rfl (by walk_at"a1") (ai C_back_from (hr.mono (by walk_at"a2")) rfl (aa (fM eV (by rfl) T.b_list gR (aa (qv 1) ac)) (aa (qv 2) ac))))
   (ae (aC (i:=4) scN rfl (by walk_at"a1") (cE gX (aA b9 (qv 3) af (fun _ _=>rfl)) eF (aI _)))
   (ae (cc (QW.pt (iD (dO (cX (qv 4) (fun _=>rfl))) (gY (aQ xU (ai C_bar_from_holds (hr.mono (by walk_at"a2")) rfl (aa (fM eV (by rfl) T.b_list gR (aa (qv 1) ac)) (aa (qv 2) (aa (qv 3) ac)))) fZ (aI _))))) (ah (ap fZ)) aN)
   (ae (cc (QW.pt (iD (dO (dH (ai zCless (hr.mono (by walk_at"a2")) rfl (aa (aA b9 (aA dL (qv 0) af (fun _ _=>rfl)) af (fun _ _=>rfl)) (aa (qv 2) ac))))) (gY (dO (cX (qv 4) (fun _=>rfl)))))) (ah (ap fZ)) aN)
   (ae (cc (QW.pt (iD (dH (ai zCless (hr.mono (by walk_at"a2")) rfl (aa (aA b9 (aA dL (qv 0) af (fun _ _=>rfl)) af (fun _ _=>rfl)) (aa (qv 2) ac)))) (iD (cX (qv 4) (fun _=>rfl)) (gY (aQ Ek (ai C_is_tight (hr.mono (by walk_at"a2")) rfl (aa (fM eV (by rfl) T.b_list gR (aa (qv 1) ac)) ac)) fZ (aI _)))))) (ah (ap fZ)) aN)
   (ae (cc (QW.pt (iD (cX (qv 4) (fun _=>rfl)) (gY (aQ vC (aA b9 (ai C_back_from (hr.mono (by walk_at"a2")) rfl (aa (fM eV (by rfl) T.b_list gR (aa (qv 1) ac)) (aa (ai zCminus (hr.mono (by walk_at"a2")) rfl (aa (qv 2) (aa (bQ (aa af (aa af ac))) ac))) ac))) af (fun _ _=>rfl)) eF (aI _))))) (ah (ap fZ)) aN)
   (ae (aC (i:=5) scN rfl (by walk_at"a1") (cR fB (qv 1) dZ (dU af)))
   (ah (ap (cE gX (cE gX (aA b9 (ai C_back (hr.mono (by walk_at"a2")) rfl (aa (ai C_even_sums (hr.mono (by walk_at"a2")) rfl (aa (fM eV (by rfl) T.b_list gR (aa (qv 5) ac)) (aa (qv 2) ac))) ac)) af (fun _ _=>rfl)) eF (aI _)) (cE gX (aA b9 (ai C_back_from (hr.mono (by walk_at"a2")) rfl (aa (fM eV (by rfl) T.b_list gR (aa (qv 5) ac)) (aa (qv 2) ac))) af (fun _ _=>rfl)) eF (aI _)) (aI _))))))))))),?_⟩
  walk_at"m"
  skip
  refine aR.gen fun N1 hN1=>?_
  walk_at"vc"
  refine⟨xs,hxs,fun c1 H1 hc1 S1 h1=>?_⟩
  simp only[dR]
  refine⟨c1,y,qs,q,rfl,⟨xs,h1,rxs.same S1⟩,l1,l11,sb,aJ.same S1 _ _ ry,hq,fun v H2 S2 th=>hN1 _ _ ?_⟩
  have S02:=S1.trans S2
  obtain⟨p,w,ys,rfl,hp,hw⟩:=th.hd
  refine aR.gen fun N2 hN2=>?_
  walk_at"vc"
  refine⟨_,hp,_,dJ,rfl,?_⟩
  have dN:Decidable (oY qs q):=Classical.propDecidable _
  rw[nK hw]
  refine hN2 _ _ ?_
  have tru:∀ {b:Bool}{G:Hp},rJ K (V.bl b) G b:=rfl
  refine aR.gen fun N3 hN3=>?_
  have k3:∀ H3,ay (vw K H2) (vw K H3)->N3 [some (V.ref ca),some (V.ref a),some y,some (V.ref p),some (V.bl (decide (oY qs q))),none] H3:=fun H3 S3=>hN3 _ _ ?_
  ·walk_at"vc"
   refine ce (fun n=>?_) (fun _=>k3 H2 .rfl)
   obtain⟨d,rd,gd,hd⟩:=th.holds n
   refine⟨xs,S02 _ _ hxs,fun c3 H3 hc3 S3 h3=>?_⟩
   simp only[dG]
   exact⟨c3,y,_,qs,q,d,rfl,⟨xs,h3,rxs.same (S02.trans S3)⟩,l1,l11,sb,aJ.same (S02.trans S3) _ _ ry,hq,aJ.same S3 _ _ rd,gd,fun t H4 S4 ht=>⟨_,rfl,io (by rw[ht.mpr hd];decide) (k3 H4 (S3.trans S4))⟩⟩
  clear hN3
  have S03:=S02.trans S3
  refine aR.gen fun N4 hN4=>?_
  obtain⟨ds,hds,rds⟩:=id hc
  obtain⟨x0,dr,rfl,rx0,_⟩:=rds.cons_at
  obtain⟨p0,u0,w0,rfl,hp0,ru0⟩ : ∃ p u w,x0 = .ref p/\vw K H p=some (.tup [u,w])/\aJ (vw K H) (fr c.1) u:=by
   obtain⟨p,ys,rfl,hp,r⟩:=rx0.tup_at
   obtain⟨d1,d2,u,w,e,rfl,ru,rw'⟩:=r.pair (by rw[r.length];rfl)
   cases e
   exact⟨p,u,w,rfl,hp,ru⟩
  have f0:=(C.fq c List.mem_cons_self).1
  have least:sD c.1 q=false->oY qs q:=fun z=>xo mo C.pos fun d hd=>?_
  ·have less:∀ {G:Hp}{R:V->Hp->Prop},ay (vw K H) (vw K G)->R (.bl (sD c.1 q)) G->qQ K [u0,y] G R E0:=fun S r=>⟨_,_,_,_,rfl,aJ.same S _ _ ru0,aJ.same S _ _ ry,bc.mono (by decide),hq.2.1.mono (by decide),r⟩
   walk_at"vc"
   refine⟨_,S03 _ _ hds,_,dJ,p0,rfl,_,S03 _ _ hp0,_,dJ,less S03 ⟨_,rfl,?_⟩⟩
   have k4:N4 [some (V.ref ca),some (V.ref a),some y,some (V.ref p),some (V.bl (decide (oY qs q))),none] H3:=hN4 _ _ ?_
   ·exact ce (fun z=>io (fun n=>n (least z)) k4) (fun _=>k4)
   clear hN4
   refine aR.gen fun N5 hN5=>?_
   have k5:∀ H4,ay (vw K H3) (vw K H4)->N5 [some (V.ref ca),some (V.ref a),some y,some (V.ref p),some (V.bl (decide (oY qs q))),none] H4:=fun H4 S4=>hN5 _ _ ?_
   ·walk_at"vc"
    refine⟨_,S03 _ _ hds,_,dJ,p0,rfl,_,S03 _ _ hp0,_,dJ,less S03 ⟨_,rfl,?_⟩⟩
    refine ce (fun z=>ce (fun n=>?_) (fun _=>k5 H3 .rfl)) (fun _=>k5 H3 .rfl)
    refine⟨xs,S03 _ _ hxs,fun c4 H4 hc4 S4 h4=>?_⟩
    simp only[gU]
    refine⟨c4,qs,rfl,⟨xs,h4,rxs.same (S03.trans S4)⟩,l1,l11,sq,nb0,fun H5 W B M S5 cl my=>?_⟩
    rw[decide_eq_false (xW C mo l11 cl my (uM f0 hq.1 z) n)]
    exact⟨_,rfl,io (by decide) (k5 H5 (S4.trans S5))⟩
   clear hN5
   have S04:=S03.trans S4
   refine aR.gen fun N6 hN6=>?_
   have k6:∀ H5,ay (vw K H4) (vw K H5)->N6 [some (V.ref ca),some (V.ref a),some y,some (V.ref p),some (V.bl (decide (oY qs q))),none] H5:=fun H5 S5=>hN6 _ _ ?_
   ·walk_at"vc"
    refine ce (fun n=>?_) (fun _=>k6 H4 .rfl)
    refine⟨xs,S04 _ _ hxs,fun c5 H5 hc5 S5 h5=>⟨by decide,fun t6 H6 ht6 S6 h6=>?_⟩⟩
    simp only[jK]
    refine⟨_,_,_,(2,3),rfl,aJ.same (S04.trans (S5.trans S6)) _ _ ry,bU h6,hq.1.ne,by decide,hq.2.1.mono (by decide),(show Bq 10 (2,3) from ⟨by decide,by decide⟩).mono (by decide),(hq.2.1.2.mul (show Bt 2 (3:Int) by decide)).mono (by decide),fun v7 H7 S7 r7=>?_⟩
    have S47:=S5.trans (S6.trans S7)
    simp only[dR]
    refine⟨c5,v7,qs,_,rfl,⟨xs,(S6.trans S7) _ _ h5,rxs.same (S04.trans S47)⟩,l1,l11,sb,r7,hq',fun v8 H8 S8 th8=>?_⟩
    obtain⟨p8,w8,ys8,rfl,hp8,hw8⟩:=th8.hd
    have n8:oY qs (rF q (2,3)):=yq mo C.pos (by rw[uo hq.1.ne (by decide)];rfl) n
    have e8:=hw8.mpr n8
    refine⟨_,rfl,_,hp8,_,dJ,rfl,io ?_ (k6 H8 (S47.trans S8))⟩
    rw[e8]
    simp
   clear hN6
   have S05:=S04.trans S5
   have mo6:=mo.take 6
   have l6:(qs.take 6).length<=6:=by rw[List.length_take];walk_at"o"
   have l61:1<=(qs.take 6).length:=by rw[List.length_take];walk_at"o"
   have sb6:∀ p ∈ qs.take 6,mJ 112 p:=fun p hp=>sb p (List.mem_of_mem_take hp)
   refine aR.gen fun N7 hN7=>?_
   walk_at"vc"
   refine⟨xs,S05 _ _ hxs,fun b6 H6 hb6 S6 h6=>hN7 _ _ ?_⟩
   rw[show (6:Int)=((6:Nat):Int) from rfl,B0] at h6
   have S06:=S05.trans S6
   have r6:aE (vw K H6) ((qs.take 6).map fr) (xs.take 6):=by rw[List.map_take];exact (rxs.take _).same S06
   walk_at"vc"
   refine⟨_,h6,fun c7 H7 hc7 S7 h7=>?_⟩
   simp only[gn]
   refine⟨c7,y,qs.take 6,q,rfl,⟨_,h7,r6.same S7⟩,aJ.same (S06.trans S7) _ _ ry,hq.1,hq.2.1.mono (by decide),l61,l6,fun p hp=>⟨(sb6 p hp).1,((sb6 p hp).sumQ (by decide)).2.1⟩,fun b8 H8 ts S8 hb8 l8 ln8 t8=>?_⟩
   have t8':∀ (k:Nat)(p:Int × Int),ts[k]? = some p->Fq p/\wv p=gL (wv q) (c :: cs) k:=fun k p e=>by
    obtain⟨z1,z2⟩:=t8 k p e
    have lk:=(List.getElem?_eq_some_iff.mp e).1
    exact⟨z1,z2.trans (Bg (n:=(qs.take 6).length) (fun i hi=>mo6.val hi) (by walk_at"o"))⟩
   have le8:(il ts).dropLast.length=2*(qs.take 6).length - 1:=by rw[List.length_dropLast,ot,ln8]
   simp only[mW]
   refine⟨b8,_,rfl,l8,by walk_at"o",by walk_at"o",fun p hp=>?_,fun v9 H9 S9 hd9=>?_⟩
   ·obtain⟨j,hj⟩:=List.getElem?_of_mem (List.dropLast_subset _ hp)
    rw[yG] at hj
    split at hj
    ·obtain⟨z1,z2⟩:=t8' _ _ hj
     have lk:=(List.getElem?_eq_some_iff.mp hj).1
     exact xm C.sx (by have:=C.l5;walk_at"o") hq (by walk_at"o") z1 z2
    ·obtain⟨_,_,rfl⟩:=Option.map_eq_some_iff.mp hj
     exact vQ
   obtain⟨p9,w9,ys9,rfl,hp9,hw9⟩:=hd9
   have S69:=S7.trans (S8.trans S9)
   refine⟨_,rfl,_,hp9,_,dJ,rfl,_,S69 _ _ h6,fun c10 H10 hc10 S10 h10=>?_⟩
   simp only[dR]
   have S610:=S69.trans S10
   refine⟨c10,y,qs.take 6,q,rfl,⟨_,h10,r6.same S610⟩,l61,by walk_at"o",sb6,aJ.same (S06.trans S610) _ _ ry,hq,fun v11 H11 S11 th11=>?_⟩
   obtain⟨p11,w11,ys11,rfl,hp11,hw11⟩:=th11.hd
   refine⟨_,rfl,_,hp11,_,dJ,rfl,?_⟩
   have dN6:Decidable (oY (qs.take 6) q):=Classical.propDecidable _
   rw[nK (hw9.trans (Ab mo6 C.pos l61 ln8 t8')),nK hw11]
   have:=h H11 (S06.trans (S610.trans S11))
   simpa using this
  ·have n1:¬ wv c.1<wv q:=fun y=>absurd (D9 f0 hq.1 y) (by rw[z];decide)
   have n2:wv q<=wv c.1:=Rat.not_lt.mp n1
   rcases List.mem_cons.mp hd with rfl|hd
   ·exact n2
   ·have:=C.low d hd
    grind
def spLaw(K:W.Frag):Sp:=fun vs H Q _=>∃ (a:Addr)(ns:List Int),vs=[.ref a]/\jV K H a (ns.map V.int)/\ns.length<=63 /\ ∀ H',Q (.bl true) H'
theorem Eu(F:eM K "law" "law" kK f fd) (T:fL K mg)
  (zCstate:aS P w K mg base "_law_state" ["_law_script", "_law_k"] 2 (mR K)) (zCspot_crowd:aS P w K mg base "_law_spot_crowd" ["_law_state_here", "_law_most"] 5 (gp K)) (zCtake:aS P w K mg base "_law_take" ["_law_state_here", "_law_many"] 1 (g6 K)) (zCcrowd_sums:aS P w K mg base "_law_crowd_sums" ["_law_crowd_here", "_law_many"] 4 (gt K)) (zCabove:aS P w K mg base "_law_above" ["_law_state_here"] 3 (gN K)) (zCminus:aS P w K mg base "_law_minus" ["_law_one", "_law_other"] 3 (jK K)) (zCplus:aS P w K mg base "_law_plus" ["_law_one", "_law_other"] 3 (ji K)) (zCright:aS P w K mg base "_law_right" ["_law_crowd_here", "_law_sums", "_law_spot"] 8 (mY K)):bK P w K mg base eI 9 f fd ["_law_script"] (spLaw K):=by
 have scN:=AK.nd
 refine F.okQ AK (fun vs H Q E h=>?_) (fun cdv A outer s H vs Q E hr h=>?_)
 ·obtain⟨a,_,rfl,_⟩:=h
  rfl
 ·obtain⟨a,ns,rfl,hS,hl,h⟩:=h
  refine⟨_,(BC (cT PassesOwn.never rfl (fg rfl T.b_range (aa (au (pP rfl) (by rfl) T.b_max zb (aa af (aa (au (xb rfl) (by rfl) T.b_min DG (aa (au iA (by rfl) T.b_len aV (aa (qv 0) ac)) (aa af ac))) ac))) ac)) (ak (i:=1) scN rfl (by walk_at"a1")) (ae (aC (i:=2) scN rfl (by walk_at"a1") (ai zCstate (hr.mono (by walk_at"a2")) rfl (aa (qv 0) (aa (qv 1) ac))))
   (ae (aC (i:=3) scN rfl (by walk_at"a1") (ai zCspot_crowd (hr.mono (by walk_at"a2")) rfl (aa (qv 2) (aa af ac))))
   (ae (aC (i:=4) scN rfl (by walk_at"a1") (ai zCcrowd_sums (hr.mono (by walk_at"a2")) rfl (aa (qv 3) (aa (ao cb af (ai zCtake (hr.mono (by walk_at"a2")) rfl (aa (qv 2) (aa af ac)))) ac))))
   (ae (aC (i:=5) scN rfl (by walk_at"a1") (aA b9 (aA dL (qv 3) af (fun _ _=>rfl)) af (fun _ _=>rfl)))
   (ah (cT PassesOwn.never rfl (cu (bC (aa (qv 5) (aa (ai zCminus (hr.mono (by walk_at"a2")) rfl (aa (qv 5) (aa (ai zCabove (hr.mono (by walk_at"a2")) rfl (aa (qv 2) ac)) ac))) (aa (ai zCplus (hr.mono (by walk_at"a2")) rfl (aa (qv 5) (aa (bQ (aa af (aa af ac))) ac))) (aa (aA b9 (aA dL (qv 3) (de cn af) (fun _ _=>rfl)) af (fun _ _=>rfl)) ac)))))) (ak (i:=6) scN rfl (by walk_at"a1")) (ah (cc (dO (dH (ai zCright (hr.mono (by walk_at"a2")) rfl (aa (qv 3) (aa (qv 4) (aa (qv 6) ac)))))) (ah (ap fZ)) aN)))))))))
   (ah (ap fZ))),?_⟩
  walk_at"m"
  skip
  refine zU.mk (fun σ H2=>True) ?_ ?_
  ·walk_at"vc"
   refine⟨_,.inl hS.sq,?_⟩
   simp only[List.length_map]
   obtain⟨Pv,hPv⟩ : ∃ Pv:Nat->St->Hp->Prop,∀ k σ H',Pv k σ H' ↔ ∃ o1 o2 o3 o4 o5 o6,σ=[some (.ref a),o1,o2,o3,o4,o5,o6]/\ay (vw K H) (vw K H'):=⟨_,fun _ _ _=>Iff.rfl⟩
   refine⟨by repeat' split <;> walk_at"o",by repeat' split <;> walk_at"o",cg (its:=hJ 0 _) Pv (fun _ _ _ _ _=>cK) ((hPv _ _ _).mpr ⟨_,_,_,_,_,_,rfl,.rfl⟩) (fun i x σ H1 hi hx pv=>?_) (fun σ H1 pv=>trivial)⟩
   obtain⟨o1,o2,o3,o4,o5,o6,rfl,s1⟩:=(hPv _ _ _).mp pv
   obtain⟨hi',rfl⟩:=gT hx
   refine aR.gen fun N1 hN1=>?_
   walk_at"vc"
   simp only[mR]
   walk_at"vc"
   refine⟨⟨i,by simp⟩,⟨ns,hS.same s1⟩,fun st H2 hst0 s2 st2=>hN1 _ _ ?_⟩
   refine aR.gen fun N2 hN2=>?_
   walk_at"vc"
   simp only[gp]
   refine⟨st,5,rfl,by decide,by decide,st2,fun a3 H3 cs0 B3 st3 l3 f3 b3 x3 i3 n31 n32=>hN2 _ _ ?_⟩
   obtain⟨c,cs,rfl⟩ : ∃ c cs,cs0=c :: cs:=by
    cases cs0 with
    | nil=>simp at n31
    | cons c cs=>exact⟨c,cs,rfl⟩
   have C:AN (c :: cs):=⟨f3,x3,i3,n31,n32⟩
   have S13:ay (vw K H1) (vw K H3):=s2.but_trans hst0 B3
   refine aR.gen fun N3 hN3=>?_
   walk_at"vc"
   simp only[g6]
   walk_at"vc"
   refine⟨st3,by decide,by decide,fun r4 H4 r40 r41 B4 st4=>?_⟩
   obtain⟨m,hm⟩ : ∃ m:Nat,1+r4=(m:Int):=⟨(1+r4).toNat,by walk_at"o"⟩
   rw[hm]
   simp only[gt]
   have l4:=l3.stBut (fT (c :: cs)) (nQ (c :: cs)) st3 B4
   refine⟨a3,c :: cs,m,rfl,l4,by walk_at"o",by walk_at"o",fun d hd=>⟨(f3 d hd).1,(f3 d hd).2.1,(b3 d hd).1,(b3 d hd).2⟩,fun bq H5 qs S5 l5 _ n5 q5=>hN3 _ _ ?_⟩
   have st5:=st4.same S5
   have l35:=l4.same S5
   obtain⟨ds,hds,rds⟩:=id l35
   obtain⟨x0,dr,rfl,rx0,_⟩:=id rds.cons_at
   have key:∀ {G:Hp}{c:dQ}{x:V},aJ G (sR c) x -> ∃ p u w,x = .ref p/\G p=some (.tup [u,w])/\aJ G (fr c.1) u:=fun r=>by
    obtain⟨p,ys,rfl,hp,r⟩:=r.tup_at
    obtain⟨d1,d2,u,w,e,rfl,ru,rw'⟩:=r.pair (by rw[r.length];rfl)
    cases e
    exact⟨p,u,w,rfl,hp,ru⟩
   obtain⟨p0,u0,w0,rfl,hp0,ru0⟩:=key rx0
   have fc0:=(f3 c List.mem_cons_self).1
   have bc0:=(b3 c List.mem_cons_self).1
   have sx0:=(x3 c List.mem_cons_self).1
   refine aR.gen fun N4 hN4=>?_
   walk_at"vc"
   refine⟨_,hds,_,dJ,p0,rfl,_,hp0,_,dJ,hN4 _ _ ?_⟩
   walk_at"vc"
   simp only[gN,jK,ji]
   refine⟨st,rfl,st5,fun v6 H6 q6 B6 st6 r6 f6 _ b6 x6=>?_⟩
   obtain⟨_,_,e5,_⟩:=id st5
   have ru6:=aJ.flat_but e5 B6 _ _ (cr _) ru0
   refine⟨_,_,_,_,rfl,ru6,r6,fc0.ne,f6.ne,bc0.mono (by decide),b6.mono (by decide),(bc0.2.mul b6.2).mono (by decide),fun v7 H7 S7 r7=>⟨by decide,fun t8 H8 ht8 S8 h8=>?_⟩⟩
   have f15:Fq (1,5):=⟨by decide,by decide⟩
   have b15:Bq 10 (1,5):=⟨by decide,by decide⟩
   refine⟨_,_,_,(1,5),rfl,aJ.same (S7.trans S8) _ _ ru6,bU h8,fc0.ne,f15.ne,bc0.mono (by decide),b15.mono (by decide),(bc0.2.mul b15.2).mono (by decide),fun v9 H9 S9 r9=>?_⟩
   have S69:=S7.trans (S8.trans S9)
   have l9:=(l35.stBut (fT (c :: cs)) (nQ (c :: cs)) st5 B6).same S69
   have q9:=(l5.stBut st5 B6).same S69
   obtain⟨ys,hys,rys⟩:=id l9
   obtain⟨cl,hcl⟩:=xM (show c :: cs ≠ [] by simp)
   obtain⟨xl,hxl,rxl⟩:=rys.last (d:=sR cl) (by rw[List.getLast?_map,hcl];rfl)
   obtain⟨pl,ul,wl,rfl,hpl,rul⟩:=key rxl
   have hclm:=List.mem_of_getLast? hcl
   refine⟨ys,hys,_,eP hxl,pl,rfl,_,hpl,_,dJ,by decide,fun l10 H10 hl10 S10 h10=>?_⟩
   have S610:=S69.trans S10
   have two:∀ {q:Int × Int}{n:Int},Fq q->wv q=(n:Rat) / 30->n.natAbs<4000->gW q/\gW (rF q (2,3)):=fun {q n} f e l=>by
    refine⟨vZ f e (by walk_at"o"),vZ (n:=n - 20) (vI f ⟨by decide,by decide⟩) ?_ (by walk_at"o")⟩
    have z:wv (2,3)=2 / 3:=rfl
    rw[uo f.ne (by decide),e,z,Rat.intCast_sub,show ((20:Int):Rat)=20 from rfl]
    grind
   have sxt:∀ {q:Int × Int},Fq q->Sx 700 q->gW q/\gW (rF q (2,3)):=fun {q} f ⟨n,e,l⟩=>by
    refine two (n:=5*n) f ?_ (by walk_at"o")
    rw[e,Rat.intCast_mul,show ((5:Int):Rat)=5 from rfl]
    grind
   have good:∀ x ∈ [u0,v7,v9,ul],∃ q,aJ (vw K H10) (fr q) x/\gW q/\gW (rF q (2,3)):=fun x hx=>by
    simp only[List.mem_cons,List.not_mem_nil,or_false] at hx
    rcases hx with rfl|rfl|rfl|rfl
    ·exact⟨_,aJ.same S610 _ _ ru6,sxt fc0 (sx0.mono (by decide))⟩
    ·refine⟨_,aJ.same (S8.trans (S9.trans S10)) _ _ r7,sxt (vI fc0 f6) ?_⟩
     obtain⟨n,e,l⟩:=sx0
     obtain⟨m,e',l'⟩:=x6
     exact⟨n - m,by rw[uo fc0.ne f6.ne,e,e',Rat.intCast_sub];grind,by walk_at"o"⟩
    ·refine⟨_,aJ.same S10 _ _ r9,?_⟩
     obtain⟨n,e,l⟩:=sx0
     refine two (n:=5*n+6) (rg fc0 f15) ?_ (by walk_at"o")
     have z:wv (1,5)=1 / 5:=rfl
     rw[ur fc0.ne f15.ne,e,z,Rat.intCast_add,Rat.intCast_mul,show ((5:Int):Rat)=5 from rfl,show ((6:Int):Rat)=6 from rfl]
     grind
    ·exact⟨_,aJ.same S10 _ _ rul,sxt (f3 _ hclm).1 ((x3 _ hclm).1.mono (by decide))⟩
   refine⟨l10,rfl,⟨_,.of (aF h10)⟩,?_⟩
   obtain⟨Pw,hPw⟩ : ∃ Pw:Nat->St->Hp->Prop,∀ j σ H',Pw j σ H' ↔ ∃ o6,σ=[some (.ref a),some (.int (0+i)),some (.ref st),some (.ref a3),some (.ref bq),some u0,o6]/\ay (vw K H10) (vw K H'):=⟨_,fun _ _ _=>Iff.rfl⟩
   refine cg (its:=[u0,v7,v9,ul]) Pw (fun k σ H' _ z=>?_) ((hPw _ _ _).mpr ⟨_,rfl,.rfl⟩) (fun k z σ H11 hk hz pw=>?_) (fun σ H11 pw=>?_)
   ·obtain⟨_,_,S'⟩:=(hPw _ _ _).mp z
    exact aU (S' _ _ h10)
   ·obtain⟨o6,rfl,S11⟩:=(hPw _ _ _).mp pw
    obtain⟨q,rq,sp1,sp2⟩:=good z (List.mem_of_getElem? hz)
    walk_at"vc"
    simp only[mY]
    exact⟨a3,bq,z,c,cs,qs,q,rfl,l9.same (S10.trans S11),C,bc0,q9.same (S10.trans S11),q5,by walk_at"o",by walk_at"o",aJ.same S11 _ _ rq,sp1,sp2,fun H12 S12=>⟨_,rfl,io (by decide) ((hPw _ _ _).mpr ⟨_,rfl,S11.trans S12⟩)⟩⟩
   ·obtain⟨o6,rfl,S11⟩:=(hPw _ _ _).mp pw
    exact (hPv _ _ _).mpr ⟨_,_,_,_,_,_,rfl,s1.trans fun b o e=>S11 _ _ (S610 _ _ (B6 _ _ (aj e hst0) (S5 _ _ (B4 _ _ (aj e hst0) (S13 _ _ e)))))⟩
  ·walk_at"vc"
   intro σ H2 _
   exact h H2
end
theorem all_mk{l:PySem.W.OpenLaw}{w:World}{K:W.Frag}{h:Heap}{mg:Str->Option Value}{fa f0 f1 f2 f3 f4 f5 f6 f7 f8 f9 f10 f11 f12 f13 f14 f15 f16 f17 f18 f19 f20 f21 f22 f23 f24 f25 f26 f27 f28 f29 f30 f31 f32 f33 f34 f35 f36 f37 f38 f39 f40 f41 f42 f43 f44 f45 f46 f47 f48 f49 f50 f51 f52 f53 f54 f55 f56:Addr}(X:K.In h)(G:h.Ns mainGlobals mg)(hfa:mg "law" = some (.ref fa)) (hst:l.prog.given.tree=none)
  {od0 an0 od1 an1 od2 an2 od3 an3 od4 an4 od5 an5 od6 an6 od7 an7 od8 an8 od9 an9 od10 an10 od11 an11 od12 an12 od13 an13 od14 an14 od15 an15 od16 an16 od17 an17 od18 an18 od19 an19 od20 an20 od21 an21 od22 an22 od23 an23 od24 an24 od25 an25 od26 an26 od27 an27 od28 an28 od29 an29 od30 an30 od31 an31 od32 an32 od33 an33 od34 an34 od35 an35 od36 an36 od37 an37 od38 an38 od39 an39 od40 an40 od41 an41 od42 an42 od43 an43 od44 an44 od45 an45 od46 an46 od47 an47 od48 an48 od49 an49 od50 an50 od51 an51 od52 an52 od53 an53 od54 an54 od55 an55 od56 an56:Option Addr}{sl0 sl1 sl2 sl3 sl4 sl5 sl6 sl7 sl8 sl9 sl10 sl11 sl12 sl13 sl14 sl15 sl16 sl17 sl18 sl19 sl20 sl21 sl22 sl23 sl24 sl25 sl26 sl27 sl28 sl29 sl30 sl31 sl32 sl33 sl34 sl35 sl36 sl37 sl38 sl39 sl40 sl41 sl42 sl43 sl44 sl45 sl46 sl47 sl48 sl49 sl50 sl51 sl52 sl53 sl54 sl55 sl56:Array (Option Value)}
  {oc0 kV0 dc0 pm0 cd0 ct0 oc1 kV1 dc1 pm1 cd1 ct1 oc2 kV2 dc2 pm2 cd2 ct2 oc3 kV3 dc3 pm3 cd3 ct3 oc4 kV4 dc4 pm4 cd4 ct4 oc5 kV5 dc5 pm5 cd5 ct5 oc6 kV6 dc6 pm6 cd6 ct6 oc7 kV7 dc7 pm7 cd7 ct7 oc8 kV8 dc8 pm8 cd8 ct8 oc9 kV9 dc9 pm9 cd9 ct9 oc10 kV10 dc10 pm10 cd10 ct10 oc11 kV11 dc11 pm11 cd11 ct11 oc12 kV12 dc12 pm12 cd12 ct12 oc13 kV13 dc13 pm13 cd13 ct13 oc14 kV14 dc14 pm14 cd14 ct14 oc15 kV15 dc15 pm15 cd15 ct15 oc16 kV16 dc16 pm16 cd16 ct16 oc17 kV17 dc17 pm17 cd17 ct17 oc18 kV18 dc18 pm18 cd18 ct18 oc19 kV19 dc19 pm19 cd19 ct19 oc20 kV20 dc20 pm20 cd20 ct20 oc21 kV21 dc21 pm21 cd21 ct21 oc22 kV22 dc22 pm22 cd22 ct22 oc23 kV23 dc23 pm23 cd23 ct23 oc24 kV24 dc24 pm24 cd24 ct24 oc25 kV25 dc25 pm25 cd25 ct25 oc26 kV26 dc26 pm26 cd26 ct26 oc27 kV27 dc27 pm27 cd27 ct27 oc28 kV28 dc28 pm28 cd28 ct28 oc29 kV29 dc29 pm29 cd29 ct29 oc30 kV30 dc30 pm30 cd30 ct30 oc31 kV31 dc31 pm31 cd31 ct31 oc32 kV32 dc32 pm32 cd32 ct32 oc33 kV33 dc33 pm33 cd33 ct33 oc34 kV34 dc34 pm34 cd34 ct34 oc35 kV35 dc35 pm35 cd35 ct35 oc36 kV36 dc36 pm36 cd36 ct36 oc37 kV37 dc37 pm37 cd37 ct37 oc38 kV38 dc38 pm38 cd38 ct38 oc39 kV39 dc39 pm39 cd39 ct39 oc40 kV40 dc40 pm40 cd40 ct40 oc41 kV41 dc41 pm41 cd41 ct41 oc42 kV42 dc42 pm42 cd42 ct42 oc43 kV43 dc43 pm43 cd43 ct43 oc44 kV44 dc44 pm44 cd44 ct44 oc45 kV45 dc45 pm45 cd45 ct45 oc46 kV46 dc46 pm46 cd46 ct46 oc47 kV47 dc47 pm47 cd47 ct47 oc48 kV48 dc48 pm48 cd48 ct48 oc49 kV49 dc49 pm49 cd49 ct49 oc50 kV50 dc50 pm50 cd50 ct50 oc51 kV51 dc51 pm51 cd51 ct51 oc52 kV52 dc52 pm52 cd52 ct52 oc53 kV53 dc53 pm53 cd53 ct53 oc54 kV54 dc54 pm54 cd54 ct54 oc55 kV55 dc55 pm55 cd55 ct55 oc56 kV56 dc56 pm56 cd56 ct56:Value}
  (a0:PySem.W.nsIn K mainGlobals "is_whole" = some (some (.ref f0))) (l0:K.lookup f0=some ⟨oc0,od0,.func (PySem.W.fnOf "is_whole" "is_whole" (av fU) (aq fU) (ag fU) .none kV0 dc0 pm0 an0 cd0 ct0),sl0⟩) (c0:PySem.W.codeIn K cd0 "is_whole" = true) (k0:PySem.W.keepIn K (.ref f0)=true)
  (a1:PySem.W.nsIn K mainGlobals "greatest_divisor" = some (some (.ref f1))) (l1:K.lookup f1=some ⟨oc1,od1,.func (PySem.W.fnOf "greatest_divisor" "greatest_divisor" (av ci) (aq ci) (ag ci) .none kV1 dc1 pm1 an1 cd1 ct1),sl1⟩) (c1:PySem.W.codeIn K cd1 "greatest_divisor" = true) (k1:PySem.W.keepIn K (.ref f1)=true)
  (a2:PySem.W.nsIn K mainGlobals "power" = some (some (.ref f2))) (l2:K.lookup f2=some ⟨oc2,od2,.func (PySem.W.fnOf "power" "power" (av jF) (aq jF) (ag jF) .none kV2 dc2 pm2 an2 cd2 ct2),sl2⟩) (c2:PySem.W.codeIn K cd2 "power" = true) (k2:PySem.W.keepIn K (.ref f2)=true)
  (a3:PySem.W.nsIn K mainGlobals "trimmed" = some (some (.ref f3))) (l3:K.lookup f3=some ⟨oc3,od3,.func (PySem.W.fnOf "trimmed" "trimmed" (av gz) (aq gz) (ag gz) .none kV3 dc3 pm3 an3 cd3 ct3),sl3⟩) (c3:PySem.W.codeIn K cd3 "trimmed" = true) (k3:PySem.W.keepIn K (.ref f3)=true)
  (a4:PySem.W.nsIn K mainGlobals "wholes_multiplied" = some (some (.ref f4))) (l4:K.lookup f4=some ⟨oc4,od4,.func (PySem.W.fnOf "wholes_multiplied" "wholes_multiplied" (av bZ) (aq bZ) (ag bZ) .none kV4 dc4 pm4 an4 cd4 ct4),sl4⟩) (c4:PySem.W.codeIn K cd4 "wholes_multiplied" = true) (k4:PySem.W.keepIn K (.ref f4)=true)
  (a5:PySem.W.nsIn K mainGlobals "wholes_parted" = some (some (.ref f5))) (l5:K.lookup f5=some ⟨oc5,od5,.func (PySem.W.fnOf "wholes_parted" "wholes_parted" (av cI) (aq cI) (ag cI) .none kV5 dc5 pm5 an5 cd5 ct5),sl5⟩) (c5:PySem.W.codeIn K cd5 "wholes_parted" = true) (k5:PySem.W.keepIn K (.ref f5)=true)
  (a6:PySem.W.nsIn K mainGlobals "wholes_rests" = some (some (.ref f6))) (l6:K.lookup f6=some ⟨oc6,od6,.func (PySem.W.fnOf "wholes_rests" "wholes_rests" (av da) (aq da) (ag da) .none kV6 dc6 pm6 an6 cd6 ct6),sl6⟩) (c6:PySem.W.codeIn K cd6 "wholes_rests" = true) (k6:PySem.W.keepIn K (.ref f6)=true)
  (a7:PySem.W.nsIn K mainGlobals "is_fraction" = some (some (.ref f7))) (l7:K.lookup f7=some ⟨oc7,od7,.func (PySem.W.fnOf "is_fraction" "is_fraction" (av dz) (aq dz) (ag dz) .none kV7 dc7 pm7 an7 cd7 ct7),sl7⟩) (c7:PySem.W.codeIn K cd7 "is_fraction" = true) (k7:PySem.W.keepIn K (.ref f7)=true)
  (a8:PySem.W.nsIn K mainGlobals "ratio" = some (some (.ref f8))) (l8:K.lookup f8=some ⟨oc8,od8,.func (PySem.W.fnOf "ratio" "ratio" (av jw) (aq jw) (ag jw) .none kV8 dc8 pm8 an8 cd8 ct8),sl8⟩) (c8:PySem.W.codeIn K cd8 "ratio" = true) (k8:PySem.W.keepIn K (.ref f8)=true)
  (a9:PySem.W.nsIn K mainGlobals "times" = some (some (.ref f9))) (l9:K.lookup f9=some ⟨oc9,od9,.func (PySem.W.fnOf "times" "times" (av jr) (aq jr) (ag jr) .none kV9 dc9 pm9 an9 cd9 ct9),sl9⟩) (c9:PySem.W.codeIn K cd9 "times" = true) (k9:PySem.W.keepIn K (.ref f9)=true)
  (a10:PySem.W.nsIn K mainGlobals "is_polynomial" = some (some (.ref f10))) (l10:K.lookup f10=some ⟨oc10,od10,.func (PySem.W.fnOf "is_polynomial" "is_polynomial" (av cH) (aq cH) (ag cH) .none kV10 dc10 pm10 an10 cd10 ct10),sl10⟩) (c10:PySem.W.codeIn K cd10 "is_polynomial" = true) (k10:PySem.W.keepIn K (.ref f10)=true)
  (a11:PySem.W.nsIn K mainGlobals "cleared" = some (some (.ref f11))) (l11:K.lookup f11=some ⟨oc11,od11,.func (PySem.W.fnOf "cleared" "cleared" (av gx) (aq gx) (ag gx) .none kV11 dc11 pm11 an11 cd11 ct11),sl11⟩) (c11:PySem.W.codeIn K cd11 "cleared" = true) (k11:PySem.W.keepIn K (.ref f11)=true)
  (a12:PySem.W.nsIn K mainGlobals "divided" = some (some (.ref f12))) (l12:K.lookup f12=some ⟨oc12,od12,.func (PySem.W.fnOf "divided" "divided" (av gy) (aq gy) (ag gy) .none kV12 dc12 pm12 an12 cd12 ct12),sl12⟩) (c12:PySem.W.codeIn K cd12 "divided" = true) (k12:PySem.W.keepIn K (.ref f12)=true)
  (a13:PySem.W.nsIn K mainGlobals "multiplied" = some (some (.ref f13))) (l13:K.lookup f13=some ⟨oc13,od13,.func (PySem.W.fnOf "multiplied" "multiplied" (av d9) (aq d9) (ag d9) .none kV13 dc13 pm13 an13 cd13 ct13),sl13⟩) (c13:PySem.W.codeIn K cd13 "multiplied" = true) (k13:PySem.W.keepIn K (.ref f13)=true)
  (a14:PySem.W.nsIn K mainGlobals "slope" = some (some (.ref f14))) (l14:K.lookup f14=some ⟨oc14,od14,.func (PySem.W.fnOf "slope" "slope" (av jG) (aq jG) (ag jG) .none kV14 dc14 pm14 an14 cd14 ct14),sl14⟩) (c14:PySem.W.codeIn K cd14 "slope" = true) (k14:PySem.W.keepIn K (.ref f14)=true)
  (a15:PySem.W.nsIn K mainGlobals "product_rest" = some (some (.ref f15))) (l15:K.lookup f15=some ⟨oc15,od15,.func (PySem.W.fnOf "product_rest" "product_rest" (av cP) (aq cP) (ag cP) .none kV15 dc15 pm15 an15 cd15 ct15),sl15⟩) (c15:PySem.W.codeIn K cd15 "product_rest" = true) (k15:PySem.W.keepIn K (.ref f15)=true)
  (a16:PySem.W.nsIn K mainGlobals "inverse" = some (some (.ref f16))) (l16:K.lookup f16=some ⟨oc16,od16,.func (PySem.W.fnOf "inverse" "inverse" (av gw) (aq gw) (ag gw) .none kV16 dc16 pm16 an16 cd16 ct16),sl16⟩) (c16:PySem.W.codeIn K cd16 "inverse" = true) (k16:PySem.W.keepIn K (.ref f16)=true)
  (a17:PySem.W.nsIn K mainGlobals "worth" = some (some (.ref f17))) (l17:K.lookup f17=some ⟨oc17,od17,.func (PySem.W.fnOf "worth" "worth" (av jB) (aq jB) (ag jB) .none kV17 dc17 pm17 an17 cd17 ct17),sl17⟩) (c17:PySem.W.codeIn K cd17 "worth" = true) (k17:PySem.W.keepIn K (.ref f17)=true)
  (a18:PySem.W.nsIn K mainGlobals "square_sum" = some (some (.ref f18))) (l18:K.lookup f18=some ⟨oc18,od18,.func (PySem.W.fnOf "square_sum" "square_sum" (av eD) (aq eD) (ag eD) .none kV18 dc18 pm18 an18 cd18 ct18),sl18⟩) (c18:PySem.W.codeIn K cd18 "square_sum" = true) (k18:PySem.W.keepIn K (.ref f18)=true)
  (a19:PySem.W.nsIn K mainGlobals "less_spot" = some (some (.ref f19))) (l19:K.lookup f19=some ⟨oc19,od19,.func (PySem.W.fnOf "less_spot" "less_spot" (av fu) (aq fu) (ag fu) .none kV19 dc19 pm19 an19 cd19 ct19),sl19⟩) (c19:PySem.W.codeIn K cd19 "less_spot" = true) (k19:PySem.W.keepIn K (.ref f19)=true)
  (a20:PySem.W.nsIn K mainGlobals "weights_by" = some (some (.ref f20))) (l20:K.lookup f20=some ⟨oc20,od20,.func (PySem.W.fnOf "weights_by" "weights_by" (av eA) (aq eA) (ag eA) .none kV20 dc20 pm20 an20 cd20 ct20),sl20⟩) (c20:PySem.W.codeIn K cd20 "weights_by" = true) (k20:PySem.W.keepIn K (.ref f20)=true)
  (a21:PySem.W.nsIn K mainGlobals "met" = some (some (.ref f21))) (l21:K.lookup f21=some ⟨oc21,od21,.func (PySem.W.fnOf "met" "met" (av qh) (aq qh) (ag qh) .none kV21 dc21 pm21 an21 cd21 ct21),sl21⟩) (c21:PySem.W.codeIn K cd21 "met" = true) (k21:PySem.W.keepIn K (.ref f21)=true)
  (a22:PySem.W.nsIn K mainGlobals "next_row" = some (some (.ref f22))) (l22:K.lookup f22=some ⟨oc22,od22,.func (PySem.W.fnOf "next_row" "next_row" (av fQ) (aq fQ) (ag fQ) .none kV22 dc22 pm22 an22 cd22 ct22),sl22⟩) (c22:PySem.W.codeIn K cd22 "next_row" = true) (k22:PySem.W.keepIn K (.ref f22)=true)
  (a23:PySem.W.nsIn K mainGlobals "step_rows" = some (some (.ref f23))) (l23:K.lookup f23=some ⟨oc23,od23,.func (PySem.W.fnOf "step_rows" "step_rows" (av ff) (aq ff) (ag ff) .none kV23 dc23 pm23 an23 cd23 ct23),sl23⟩) (c23:PySem.W.codeIn K cd23 "step_rows" = true) (k23:PySem.W.keepIn K (.ref f23)=true)
  (a24:PySem.W.nsIn K mainGlobals "steps" = some (some (.ref f24))) (l24:K.lookup f24=some ⟨oc24,od24,.func (PySem.W.fnOf "steps" "steps" (av jo) (aq jo) (ag jo) .none kV24 dc24 pm24 an24 cd24 ct24),sl24⟩) (c24:PySem.W.codeIn K cd24 "steps" = true) (k24:PySem.W.keepIn K (.ref f24)=true)
  (a25:PySem.W.nsIn K mainGlobals "furthest_step" = some (some (.ref f25))) (l25:K.lookup f25=some ⟨oc25,od25,.func (PySem.W.fnOf "furthest_step" "furthest_step" (av cG) (aq cG) (ag cG) .none kV25 dc25 pm25 an25 cd25 ct25),sl25⟩) (c25:PySem.W.codeIn K cd25 "furthest_step" = true) (k25:PySem.W.keepIn K (.ref f25)=true)
  (a26:PySem.W.nsIn K mainGlobals "fits" = some (some (.ref f26))) (l26:K.lookup f26=some ⟨oc26,od26,.func (PySem.W.fnOf "fits" "fits" (av lS) (aq lS) (ag lS) .none kV26 dc26 pm26 an26 cd26 ct26),sl26⟩) (c26:PySem.W.codeIn K cd26 "fits" = true) (k26:PySem.W.keepIn K (.ref f26)=true)
  (a27:PySem.W.nsIn K mainGlobals "bars" = some (some (.ref f27))) (l27:K.lookup f27=some ⟨oc27,od27,.func (PySem.W.fnOf "bars" "bars" (av kX) (aq kX) (ag kX) .none kV27 dc27 pm27 an27 cd27 ct27),sl27⟩) (c27:PySem.W.codeIn K cd27 "bars" = true) (k27:PySem.W.keepIn K (.ref f27)=true)
  (a28:PySem.W.nsIn K mainGlobals "nought_bar" = some (some (.ref f28))) (l28:K.lookup f28=some ⟨oc28,od28,.func (PySem.W.fnOf "nought_bar" "nought_bar" (av dS) (aq dS) (ag dS) .none kV28 dc28 pm28 an28 cd28 ct28),sl28⟩) (c28:PySem.W.codeIn K cd28 "nought_bar" = true) (k28:PySem.W.keepIn K (.ref f28)=true)
  (a29:PySem.W.nsIn K mainGlobals "outlook" = some (some (.ref f29))) (l29:K.lookup f29=some ⟨oc29,od29,.func (PySem.W.fnOf "outlook" "outlook" (av gB) (aq gB) (ag gB) .none kV29 dc29 pm29 an29 cd29 ct29),sl29⟩) (c29:PySem.W.codeIn K cd29 "outlook" = true) (k29:PySem.W.keepIn K (.ref f29)=true)
  (a30:PySem.W.nsIn K mainGlobals "is_bar" = some (some (.ref f30))) (l30:K.lookup f30=some ⟨oc30,od30,.func (PySem.W.fnOf "is_bar" "is_bar" (av hU) (aq hU) (ag hU) .none kV30 dc30 pm30 an30 cd30 ct30),sl30⟩) (c30:PySem.W.codeIn K cd30 "is_bar" = true) (k30:PySem.W.keepIn K (.ref f30)=true)
  (a31:PySem.W.nsIn K mainGlobals "flock_with" = some (some (.ref f31))) (l31:K.lookup f31=some ⟨oc31,od31,.func (PySem.W.fnOf "flock_with" "flock_with" (av eo) (aq eo) (ag eo) .none kV31 dc31 pm31 an31 cd31 ct31),sl31⟩) (c31:PySem.W.codeIn K cd31 "flock_with" = true) (k31:PySem.W.keepIn K (.ref f31)=true)
  (a32:PySem.W.nsIn K mainGlobals "back" = some (some (.ref f32))) (l32:K.lookup f32=some ⟨oc32,od32,.func (PySem.W.fnOf "back" "back" (av ma) (aq ma) (ag ma) .none kV32 dc32 pm32 an32 cd32 ct32),sl32⟩) (c32:PySem.W.codeIn K cd32 "back" = true) (k32:PySem.W.keepIn K (.ref f32)=true)
  (a33:PySem.W.nsIn K mainGlobals "wholes_from" = some (some (.ref f33))) (l33:K.lookup f33=some ⟨oc33,od33,.func (PySem.W.fnOf "wholes_from" "wholes_from" (av dD) (aq dD) (ag dD) .none kV33 dc33 pm33 an33 cd33 ct33),sl33⟩) (c33:PySem.W.codeIn K cd33 "wholes_from" = true) (k33:PySem.W.keepIn K (.ref f33)=true)
  (a34:PySem.W.nsIn K mainGlobals "sums_from" = some (some (.ref f34))) (l34:K.lookup f34=some ⟨oc34,od34,.func (PySem.W.fnOf "sums_from" "sums_from" (av fk) (aq fk) (ag fk) .none kV34 dc34 pm34 an34 cd34 ct34),sl34⟩) (c34:PySem.W.codeIn K cd34 "sums_from" = true) (k34:PySem.W.keepIn K (.ref f34)=true)
  (a35:PySem.W.nsIn K mainGlobals "powers_from" = some (some (.ref f35))) (l35:K.lookup f35=some ⟨oc35,od35,.func (PySem.W.fnOf "powers_from" "powers_from" (av dy) (aq dy) (ag dy) .none kV35 dc35 pm35 an35 cd35 ct35),sl35⟩) (c35:PySem.W.codeIn K cd35 "powers_from" = true) (k35:PySem.W.keepIn K (.ref f35)=true)
  (a36:PySem.W.nsIn K mainGlobals "back_from" = some (some (.ref f36))) (l36:K.lookup f36=some ⟨oc36,od36,.func (PySem.W.fnOf "back_from" "back_from" (av fm) (aq fm) (ag fm) .none kV36 dc36 pm36 an36 cd36 ct36),sl36⟩) (c36:PySem.W.codeIn K cd36 "back_from" = true) (k36:PySem.W.keepIn K (.ref f36)=true)
  (a37:PySem.W.nsIn K mainGlobals "bar_from_holds" = some (some (.ref f37))) (l37:K.lookup f37=some ⟨oc37,od37,.func (PySem.W.fnOf "bar_from_holds" "bar_from_holds" (av cw) (aq cw) (ag cw) .none kV37 dc37 pm37 an37 cd37 ct37),sl37⟩) (c37:PySem.W.codeIn K cd37 "bar_from_holds" = true) (k37:PySem.W.keepIn K (.ref f37)=true)
  (a38:PySem.W.nsIn K mainGlobals "even_sums" = some (some (.ref f38))) (l38:K.lookup f38=some ⟨oc38,od38,.func (PySem.W.fnOf "even_sums" "even_sums" (av fe) (aq fe) (ag fe) .none kV38 dc38 pm38 an38 cd38 ct38),sl38⟩) (c38:PySem.W.codeIn K cd38 "even_sums" = true) (k38:PySem.W.keepIn K (.ref f38)=true)
  (a39:PySem.W.nsIn K mainGlobals "had" = some (some (.ref f39))) (l39:K.lookup f39=some ⟨oc39,od39,.func (PySem.W.fnOf "had" "had" (av pW) (aq pW) (ag pW) .none kV39 dc39 pm39 an39 cd39 ct39),sl39⟩) (c39:PySem.W.codeIn K cd39 "had" = true) (k39:PySem.W.keepIn K (.ref f39)=true)
  (a40:PySem.W.nsIn K mainGlobals "is_tight" = some (some (.ref f40))) (l40:K.lookup f40=some ⟨oc40,od40,.func (PySem.W.fnOf "is_tight" "is_tight" (av fO) (aq fO) (ag fO) .none kV40 dc40 pm40 an40 cd40 ct40),sl40⟩) (c40:PySem.W.codeIn K cd40 "is_tight" = true) (k40:PySem.W.keepIn K (.ref f40)=true)
  (a41:PySem.W.nsIn K mainGlobals "_law_less" = some (some (.ref f41))) (l41:K.lookup f41=some ⟨oc41,od41,.func (PySem.W.fnOf "_law_less" "_law_less" (av lH) (aq lH) (ag lH) .none kV41 dc41 pm41 an41 cd41 ct41),sl41⟩) (c41:PySem.W.codeIn K cd41 "_law_less" = true) (k41:PySem.W.keepIn K (.ref f41)=true)
  (a42:PySem.W.nsIn K mainGlobals "_law_divisor" = some (some (.ref f42))) (l42:K.lookup f42=some ⟨oc42,od42,.func (PySem.W.fnOf "_law_divisor" "_law_divisor" (av gC) (aq gC) (ag gC) .none kV42 dc42 pm42 an42 cd42 ct42),sl42⟩) (c42:PySem.W.codeIn K cd42 "_law_divisor" = true) (k42:PySem.W.keepIn K (.ref f42)=true)
  (a43:PySem.W.nsIn K mainGlobals "_law_low" = some (some (.ref f43))) (l43:K.lookup f43=some ⟨oc43,od43,.func (PySem.W.fnOf "_law_low" "_law_low" (av pY) (aq pY) (ag pY) .none kV43 dc43 pm43 an43 cd43 ct43),sl43⟩) (c43:PySem.W.codeIn K cd43 "_law_low" = true) (k43:PySem.W.keepIn K (.ref f43)=true)
  (a44:PySem.W.nsIn K mainGlobals "_law_minus" = some (some (.ref f44))) (l44:K.lookup f44=some ⟨oc44,od44,.func (PySem.W.fnOf "_law_minus" "_law_minus" (av jP) (aq jP) (ag jP) .none kV44 dc44 pm44 an44 cd44 ct44),sl44⟩) (c44:PySem.W.codeIn K cd44 "_law_minus" = true) (k44:PySem.W.keepIn K (.ref f44)=true)
  (a45:PySem.W.nsIn K mainGlobals "_law_cell_at" = some (some (.ref f45))) (l45:K.lookup f45=some ⟨oc45,od45,.func (PySem.W.fnOf "_law_cell_at" "_law_cell_at" (av gA) (aq gA) (ag gA) .none kV45 dc45 pm45 an45 cd45 ct45),sl45⟩) (c45:PySem.W.codeIn K cd45 "_law_cell_at" = true) (k45:PySem.W.keepIn K (.ref f45)=true)
  (a46:PySem.W.nsIn K mainGlobals "_law_state" = some (some (.ref f46))) (l46:K.lookup f46=some ⟨oc46,od46,.func (PySem.W.fnOf "_law_state" "_law_state" (av jt) (aq jt) (ag jt) .none kV46 dc46 pm46 an46 cd46 ct46),sl46⟩) (c46:PySem.W.codeIn K cd46 "_law_state" = true) (k46:PySem.W.keepIn K (.ref f46)=true)
  (a47:PySem.W.nsIn K mainGlobals "_law_take" = some (some (.ref f47))) (l47:K.lookup f47=some ⟨oc47,od47,.func (PySem.W.fnOf "_law_take" "_law_take" (av lQ) (aq lQ) (ag lQ) .none kV47 dc47 pm47 an47 cd47 ct47),sl47⟩) (c47:PySem.W.codeIn K cd47 "_law_take" = true) (k47:PySem.W.keepIn K (.ref f47)=true)
  (a48:PySem.W.nsIn K mainGlobals "_law_small" = some (some (.ref f48))) (l48:K.lookup f48=some ⟨oc48,od48,.func (PySem.W.fnOf "_law_small" "_law_small" (av jM) (aq jM) (ag jM) .none kV48 dc48 pm48 an48 cd48 ct48),sl48⟩) (c48:PySem.W.codeIn K cd48 "_law_small" = true) (k48:PySem.W.keepIn K (.ref f48)=true)
  (a49:PySem.W.nsIn K mainGlobals "_law_above" = some (some (.ref f49))) (l49:K.lookup f49=some ⟨oc49,od49,.func (PySem.W.fnOf "_law_above" "_law_above" (av jJ) (aq jJ) (ag jJ) .none kV49 dc49 pm49 an49 cd49 ct49),sl49⟩) (c49:PySem.W.codeIn K cd49 "_law_above" = true) (k49:PySem.W.keepIn K (.ref f49)=true)
  (a50:PySem.W.nsIn K mainGlobals "_law_plus" = some (some (.ref f50))) (l50:K.lookup f50=some ⟨oc50,od50,.func (PySem.W.fnOf "_law_plus" "_law_plus" (av lV) (aq lV) (ag lV) .none kV50 dc50 pm50 an50 cd50 ct50),sl50⟩) (c50:PySem.W.codeIn K cd50 "_law_plus" = true) (k50:PySem.W.keepIn K (.ref f50)=true)
  (a51:PySem.W.nsIn K mainGlobals "_law_crowd" = some (some (.ref f51))) (l51:K.lookup f51=some ⟨oc51,od51,.func (PySem.W.fnOf "_law_crowd" "_law_crowd" (av jC) (aq jC) (ag jC) .none kV51 dc51 pm51 an51 cd51 ct51),sl51⟩) (c51:PySem.W.codeIn K cd51 "_law_crowd" = true) (k51:PySem.W.keepIn K (.ref f51)=true)
  (a52:PySem.W.nsIn K mainGlobals "_law_spot_crowd" = some (some (.ref f52))) (l52:K.lookup f52=some ⟨oc52,od52,.func (PySem.W.fnOf "_law_spot_crowd" "_law_spot_crowd" (av ee) (aq ee) (ag ee) .none kV52 dc52 pm52 an52 cd52 ct52),sl52⟩) (c52:PySem.W.codeIn K cd52 "_law_spot_crowd" = true) (k52:PySem.W.keepIn K (.ref f52)=true)
  (a53:PySem.W.nsIn K mainGlobals "_law_times" = some (some (.ref f53))) (l53:K.lookup f53=some ⟨oc53,od53,.func (PySem.W.fnOf "_law_times" "_law_times" (av jy) (aq jy) (ag jy) .none kV53 dc53 pm53 an53 cd53 ct53),sl53⟩) (c53:PySem.W.codeIn K cd53 "_law_times" = true) (k53:PySem.W.keepIn K (.ref f53)=true)
  (a54:PySem.W.nsIn K mainGlobals "_law_crowd_sums" = some (some (.ref f54))) (l54:K.lookup f54=some ⟨oc54,od54,.func (PySem.W.fnOf "_law_crowd_sums" "_law_crowd_sums" (av dX) (aq dX) (ag dX) .none kV54 dc54 pm54 an54 cd54 ct54),sl54⟩) (c54:PySem.W.codeIn K cd54 "_law_crowd_sums" = true) (k54:PySem.W.keepIn K (.ref f54)=true)
  (a55:PySem.W.nsIn K mainGlobals "_law_right" = some (some (.ref f55))) (l55:K.lookup f55=some ⟨oc55,od55,.func (PySem.W.fnOf "_law_right" "_law_right" (av ju) (aq ju) (ag ju) .none kV55 dc55 pm55 an55 cd55 ct55),sl55⟩) (c55:PySem.W.codeIn K cd55 "_law_right" = true) (k55:PySem.W.keepIn K (.ref f55)=true)
  (a56:PySem.W.nsIn K mainGlobals "law" = some (some (.ref f56))) (l56:K.lookup f56=some ⟨oc56,od56,.func (PySem.W.fnOf "law" "law" (av kK) (aq kK) (ag kK) .none kV56 dc56 pm56 an56 cd56 ct56),sl56⟩) (c56:PySem.W.codeIn K cd56 "law" = true) (k56:PySem.W.keepIn K (.ref f56)=true)
  {ga0 ga1:Addr}{go0 go1:Obj}
  (u0:PySem.W.nsIn K mainGlobals "ZERO" = some (some (.ref ga0))) (v0:K.lookup ga0=some go0)(w0:uI go0=some (.tup [V.int (0),V.int (1)]))
  (u1:PySem.W.nsIn K mainGlobals "ONE" = some (some (.ref ga1))) (v1:K.lookup ga1=some go1)(w1:uI go1=some (.tup [V.int (1),V.int (1)]))
  (z0:PySem.W.nsIn K mainGlobals "isinstance" = some none)
  (z1:PySem.W.nsIn K mainGlobals "bool" = some none)
  (z2:PySem.W.nsIn K mainGlobals "int" = some none)
  (z3:PySem.W.nsIn K mainGlobals "abs" = some none)
  (z4:PySem.W.nsIn K mainGlobals "range" = some none)
  (z5:PySem.W.nsIn K mainGlobals "len" = some none)
  (z6:PySem.W.nsIn K mainGlobals "enumerate" = some none)
  (z7:PySem.W.nsIn K mainGlobals "max" = some none)
  (z8:PySem.W.nsIn K mainGlobals "list" = some none)
  (z9:PySem.W.nsIn K mainGlobals "tuple" = some none)
  (z10:PySem.W.nsIn K mainGlobals "sum" = some none)
  (z11:PySem.W.nsIn K mainGlobals "zip" = some none)
  (z12:PySem.W.nsIn K mainGlobals "min" = some none)
  : ∃ fd:FuncData,(∀ (s:Shared)(v:Value),BindsTo s fd ⟨[v],[]⟩ [("_law_script",v)]) /\ ∀ base:Heap,K.In base->base.Ns mainGlobals mg->uQ mg base->base.NoSeer->bK l.prog w K mg base eI 9 fa fd ["_law_script"] (spLaw K):=by
 have e:=hfa.symm.trans (PySem.W.mg_of X G a56)
 cases e
 have T:fL K mg:=⟨trivial,GT.mk (PySem.W.mg_of X G u0) v0 w0,GT.mk (PySem.W.mg_of X G u1) v1 w1,PySem.W.mg_none_of X G z0,PySem.W.mg_none_of X G z1,PySem.W.mg_none_of X G z2,PySem.W.mg_none_of X G z3,PySem.W.mg_none_of X G z4,PySem.W.mg_none_of X G z5,PySem.W.mg_none_of X G z6,PySem.W.mg_none_of X G z7,PySem.W.mg_none_of X G z8,PySem.W.mg_none_of X G z9,PySem.W.mg_none_of X G z10,PySem.W.mg_none_of X G z11,PySem.W.mg_none_of X G z12⟩
 refine⟨PySem.W.fnOf "law" "law" (av kK) (aq kK) (ag kK) .none kV56 dc56 pm56 an56 cd56 ct56,fun s v=>.of_eq rfl,fun base kb nb hB hSe=>?_⟩
 have N_:oX l.prog base:=⟨hSe,hst⟩
 have F_is_whole:=aD (st:=fU) l0 c0 k0
 have C_is_whole:aS l.prog w K mg base "is_whole" ["thing"] 1 (eZ K):=⟨_,_,td F_is_whole T ,PySem.W.mg_of X G a0,k0,(F_is_whole.binds fun _ _ _ _ _ _ us hl=>eH (g:=fun us=>bindArgs _ ⟨us,[]⟩) (z:=fun us=>pure (List.zip _ us)) us hl fun _=>rfl)⟩
 have F_greatest_divisor:=aD (st:=ci) l1 c1 k1
 have C_greatest_divisor:aS l.prog w K mg base "greatest_divisor" ["one", "other"] 1 (bj K):=⟨_,_,jS F_greatest_divisor T ,PySem.W.mg_of X G a1,k1,(F_greatest_divisor.binds fun _ _ _ _ _ _ us hl=>bN (g:=fun us=>bindArgs _ ⟨us,[]⟩) (z:=fun us=>pure (List.zip _ us)) us hl fun _ _=>rfl)⟩
 have F_power:=aD (st:=jF) l2 c2 k2
 have C_power:aS l.prog w K mg base "power" ["base", "many"] 1 (kB K):=⟨_,_,yU F_power T ,PySem.W.mg_of X G a2,k2,(F_power.binds fun _ _ _ _ _ _ us hl=>bN (g:=fun us=>bindArgs _ ⟨us,[]⟩) (z:=fun us=>pure (List.zip _ us)) us hl fun _ _=>rfl)⟩
 have F_trimmed:=aD (st:=gz) l3 c3 k3
 have C_trimmed:aS l.prog w K mg base "trimmed" ["numbers", "zero"] 1 (dI K):=⟨_,_,uC F_trimmed T ,PySem.W.mg_of X G a3,k3,(F_trimmed.binds fun _ _ _ _ _ _ us hl=>bN (g:=fun us=>bindArgs _ ⟨us,[]⟩) (z:=fun us=>pure (List.zip _ us)) us hl fun _ _=>rfl)⟩
 have F_wholes_multiplied:=aD (st:=bZ) l4 c4 k4
 have C_wholes_multiplied:aS l.prog w K mg base "wholes_multiplied" ["one", "other"] 1 (aT K):=⟨_,_,i9 F_wholes_multiplied T ,PySem.W.mg_of X G a4,k4,(F_wholes_multiplied.binds fun _ _ _ _ _ _ us hl=>bN (g:=fun us=>bindArgs _ ⟨us,[]⟩) (z:=fun us=>pure (List.zip _ us)) us hl fun _ _=>rfl)⟩
 have F_wholes_parted:=aD (st:=cI) l5 c5 k5
 have C_wholes_parted:aS l.prog w K mg base "wholes_parted" ["one", "other"] 2 (cy K):=⟨_,_,lN F_wholes_parted T (N_:=N_) (C_trimmed:=C_trimmed),PySem.W.mg_of X G a5,k5,(F_wholes_parted.binds fun _ _ _ _ _ _ us hl=>bN (g:=fun us=>bindArgs _ ⟨us,[]⟩) (z:=fun us=>pure (List.zip _ us)) us hl fun _ _=>rfl)⟩
 have F_wholes_rests:=aD (st:=da) l6 c6 k6
 have C_wholes_rests:aS l.prog w K mg base "wholes_rests" ["one", "other"] 3 (eT K):=⟨_,_,mK F_wholes_rests T (N_:=N_) (C_power:=C_power) (C_wholes_parted:=C_wholes_parted),PySem.W.mg_of X G a6,k6,(F_wholes_rests.binds fun _ _ _ _ _ _ us hl=>bN (g:=fun us=>bindArgs _ ⟨us,[]⟩) (z:=fun us=>pure (List.zip _ us)) us hl fun _ _=>rfl)⟩
 have F_is_fraction:=aD (st:=dz) l7 c7 k7
 have C_is_fraction:aS l.prog w K mg base "is_fraction" ["thing"] 2 (fJ K):=⟨_,_,oC F_is_fraction T (C_greatest_divisor:=C_greatest_divisor) (C_is_whole:=C_is_whole),PySem.W.mg_of X G a7,k7,(F_is_fraction.binds fun _ _ _ _ _ _ us hl=>eH (g:=fun us=>bindArgs _ ⟨us,[]⟩) (z:=fun us=>pure (List.zip _ us)) us hl fun _=>rfl)⟩
 have F_ratio:=aD (st:=jw) l8 c8 k8
 have C_ratio:aS l.prog w K mg base "ratio" ["top", "bottom"] 2 (cS K):=⟨_,_,zw F_ratio T (N_:=N_) (C_greatest_divisor:=C_greatest_divisor),PySem.W.mg_of X G a8,k8,(F_ratio.binds fun _ _ _ _ _ _ us hl=>bN (g:=fun us=>bindArgs _ ⟨us,[]⟩) (z:=fun us=>pure (List.zip _ us)) us hl fun _ _=>rfl)⟩
 have F_times:=aD (st:=jr) l9 c9 k9
 have C_times:aS l.prog w K mg base "times" ["one", "other"] 3 (kH K):=⟨_,_,zD F_times T (C_ratio:=C_ratio),PySem.W.mg_of X G a9,k9,(F_times.binds fun _ _ _ _ _ _ us hl=>bN (g:=fun us=>bindArgs _ ⟨us,[]⟩) (z:=fun us=>pure (List.zip _ us)) us hl fun _ _=>rfl)⟩
 have F_is_polynomial:=aD (st:=cH) l10 c10 k10
 have C_is_polynomial:aS l.prog w K mg base "is_polynomial" ["thing"] 3 (cx K):=⟨_,_,lj F_is_polynomial T (C_is_fraction:=C_is_fraction),PySem.W.mg_of X G a10,k10,(F_is_polynomial.binds fun _ _ _ _ _ _ us hl=>eH (g:=fun us=>bindArgs _ ⟨us,[]⟩) (z:=fun us=>pure (List.zip _ us)) us hl fun _=>rfl)⟩
 have F_cleared:=aD (st:=gx) l11 c11 k11
 have C_cleared:aS l.prog w K mg base "cleared" ["f"] 2 (aP K):=⟨_,_,uz F_cleared T (N_:=N_) (C_greatest_divisor:=C_greatest_divisor),PySem.W.mg_of X G a11,k11,(F_cleared.binds fun _ _ _ _ _ _ us hl=>eH (g:=fun us=>bindArgs _ ⟨us,[]⟩) (z:=fun us=>pure (List.zip _ us)) us hl fun _=>rfl)⟩
 have F_divided:=aD (st:=gy) l12 c12 k12
 have C_divided:aS l.prog w K mg base "divided" ["wholes", "bottom"] 3 (cz K):=⟨_,_,uh F_divided T (C_trimmed:=C_trimmed) (C_ratio:=C_ratio),PySem.W.mg_of X G a12,k12,(F_divided.binds fun _ _ _ _ _ _ us hl=>bN (g:=fun us=>bindArgs _ ⟨us,[]⟩) (z:=fun us=>pure (List.zip _ us)) us hl fun _ _=>rfl)⟩
 have F_multiplied:=aD (st:=d9) l13 c13 k13
 have C_multiplied:aS l.prog w K mg base "multiplied" ["f", "g"] 4 (du K):=⟨_,_,ph F_multiplied T (C_divided:=C_divided) (C_wholes_multiplied:=C_wholes_multiplied) (C_cleared:=C_cleared),PySem.W.mg_of X G a13,k13,(F_multiplied.binds fun _ _ _ _ _ _ us hl=>bN (g:=fun us=>bindArgs _ ⟨us,[]⟩) (z:=fun us=>pure (List.zip _ us)) us hl fun _ _=>rfl)⟩
 have F_slope:=aD (st:=jG) l14 c14 k14
 have C_slope:aS l.prog w K mg base "slope" ["f"] 4 (kN K):=⟨_,_,zW F_slope T (C_times:=C_times),PySem.W.mg_of X G a14,k14,(F_slope.binds fun _ _ _ _ _ _ us hl=>eH (g:=fun us=>bindArgs _ ⟨us,[]⟩) (z:=fun us=>pure (List.zip _ us)) us hl fun _=>rfl)⟩
 have F_product_rest:=aD (st:=cP) l15 c15 k15
 have C_product_rest:aS l.prog w K mg base "product_rest" ["f", "g", "other"] 4 (eO K):=⟨_,_,mN F_product_rest T (C_divided:=C_divided) (C_wholes_parted:=C_wholes_parted) (C_cleared:=C_cleared) (C_wholes_multiplied:=C_wholes_multiplied),PySem.W.mg_of X G a15,k15,(F_product_rest.binds fun _ _ _ _ _ _ us hl=>j5 (g:=fun us=>bindArgs _ ⟨us,[]⟩) (z:=fun us=>pure (List.zip _ us)) us hl fun _ _ _=>rfl)⟩
 have F_inverse:=aD (st:=gw) l16 c16 k16
 have C_inverse:aS l.prog w K mg base "inverse" ["f", "g"] 4 (ix K):=⟨_,_,uy F_inverse T (N_:=N_) (C_divided:=C_divided) (C_wholes_rests:=C_wholes_rests) (C_cleared:=C_cleared) (C_wholes_multiplied:=C_wholes_multiplied),PySem.W.mg_of X G a16,k16,(F_inverse.binds fun _ _ _ _ _ _ us hl=>bN (g:=fun us=>bindArgs _ ⟨us,[]⟩) (z:=fun us=>pure (List.zip _ us)) us hl fun _ _=>rfl)⟩
 have F_worth:=aD (st:=jB) l17 c17 k17
 have C_worth:aS l.prog w K mg base "worth" ["sums", "f"] 3 (gf K):=⟨_,_,Az F_worth T (C_ratio:=C_ratio) (C_cleared:=C_cleared),PySem.W.mg_of X G a17,k17,(F_worth.binds fun _ _ _ _ _ _ us hl=>bN (g:=fun us=>bindArgs _ ⟨us,[]⟩) (z:=fun us=>pure (List.zip _ us)) us hl fun _ _=>rfl)⟩
 have F_square_sum:=aD (st:=eD) l18 c18 k18
 have C_square_sum:aS l.prog w K mg base "square_sum" ["sums", "f", "g"] 5 (dC K):=⟨_,_,oZ F_square_sum T (C_worth:=C_worth) (C_multiplied:=C_multiplied),PySem.W.mg_of X G a18,k18,(F_square_sum.binds fun _ _ _ _ _ _ us hl=>j5 (g:=fun us=>bindArgs _ ⟨us,[]⟩) (z:=fun us=>pure (List.zip _ us)) us hl fun _ _ _=>rfl)⟩
 have F_less_spot:=aD (st:=fu) l19 c19 k19
 have C_less_spot:aS l.prog w K mg base "less_spot" ["spot"] 1 (gq K):=⟨_,_,rK F_less_spot T ,PySem.W.mg_of X G a19,k19,(F_less_spot.binds fun _ _ _ _ _ _ us hl=>eH (g:=fun us=>bindArgs _ ⟨us,[]⟩) (z:=fun us=>pure (List.zip _ us)) us hl fun _=>rfl)⟩
 have F_weights_by:=aD (st:=eA) l20 c20 k20
 have C_weights_by:aS l.prog w K mg base "weights_by" ["above", "roots"] 5 (fV K):=⟨_,_,pq F_weights_by T (C_product_rest:=C_product_rest) (C_inverse:=C_inverse) (C_slope:=C_slope),PySem.W.mg_of X G a20,k20,(F_weights_by.binds fun _ _ _ _ _ _ us hl=>bN (g:=fun us=>bindArgs _ ⟨us,[]⟩) (z:=fun us=>pure (List.zip _ us)) us hl fun _ _=>rfl)⟩
 have F_met:=aD (st:=qh) l21 c21 k21
 have C_met:aS l.prog w K mg base "met" ["wholes", "row", "k"] 1 (oG K):=⟨_,_,DM F_met T ,PySem.W.mg_of X G a21,k21,(F_met.binds fun _ _ _ _ _ _ us hl=>j5 (g:=fun us=>bindArgs _ ⟨us,[]⟩) (z:=fun us=>pure (List.zip _ us)) us hl fun _ _ _=>rfl)⟩
 have F_next_row:=aD (st:=fQ) l22 c22 k22
 have C_next_row:aS l.prog w K mg base "next_row" ["wholes", "row", "before"] 2 (iU K):=⟨_,_,tD F_next_row T (C_met:=C_met),PySem.W.mg_of X G a22,k22,(F_next_row.binds fun _ _ _ _ _ _ us hl=>j5 (g:=fun us=>bindArgs _ ⟨us,[]⟩) (z:=fun us=>pure (List.zip _ us)) us hl fun _ _ _=>rfl)⟩
 have F_step_rows:=aD (st:=ff) l23 c23 k23
 have C_step_rows:aS l.prog w K mg base "step_rows" ["wholes"] 3 (fE K):=⟨_,_,qW F_step_rows T (C_met:=C_met) (C_next_row:=C_next_row),PySem.W.mg_of X G a23,k23,(F_step_rows.binds fun _ _ _ _ _ _ us hl=>eH (g:=fun us=>bindArgs _ ⟨us,[]⟩) (z:=fun us=>pure (List.zip _ us)) us hl fun _=>rfl)⟩
 have F_steps:=aD (st:=jo) l24 c24 k24
 have C_steps:aS l.prog w K mg base "steps" ["sums"] 4 (kR K):=⟨_,_,yV F_steps T (C_step_rows:=C_step_rows) (C_ratio:=C_ratio) (C_met:=C_met) (C_divided:=C_divided) (C_cleared:=C_cleared),PySem.W.mg_of X G a24,k24,(F_steps.binds fun _ _ _ _ _ _ us hl=>eH (g:=fun us=>bindArgs _ ⟨us,[]⟩) (z:=fun us=>pure (List.zip _ us)) us hl fun _=>rfl)⟩
 have F_furthest_step:=aD (st:=cG) l25 c25 k25
 have C_furthest_step:aS l.prog w K mg base "furthest_step" ["sums"] 4 (ei K):=⟨_,_,lK F_furthest_step T (C_divided:=C_divided) (C_step_rows:=C_step_rows) (C_cleared:=C_cleared),PySem.W.mg_of X G a25,k25,(F_furthest_step.binds fun _ _ _ _ _ _ us hl=>eH (g:=fun us=>bindArgs _ ⟨us,[]⟩) (z:=fun us=>pure (List.zip _ us)) us hl fun _=>rfl)⟩
 have F_fits:=aD (st:=lS) l26 c26 k26
 have C_fits:aS l.prog w K mg base "fits" ["sums", "f", "g"] 1 (jO K):=⟨_,_,AT F_fits T ,PySem.W.mg_of X G a26,k26,(F_fits.binds fun _ _ _ _ _ _ us hl=>j5 (g:=fun us=>bindArgs _ ⟨us,[]⟩) (z:=fun us=>pure (List.zip _ us)) us hl fun _ _ _=>rfl)⟩
 have F_bars:=aD (st:=kX) l27 c27 k27
 have C_bars:aS l.prog w K mg base "bars" ["sums", "thing"] 6 (kE K):=⟨_,_,BR F_bars T (C_square_sum:=C_square_sum) (C_fits:=C_fits) (C_is_polynomial:=C_is_polynomial),PySem.W.mg_of X G a27,k27,(F_bars.binds fun _ _ _ _ _ _ us hl=>bN (g:=fun us=>bindArgs _ ⟨us,[]⟩) (z:=fun us=>pure (List.zip _ us)) us hl fun _ _=>rfl)⟩
 have F_nought_bar:=aD (st:=dS) l28 c28 k28
 have C_nought_bar:aS l.prog w K mg base "nought_bar" ["sums", "step"] 4 (fW K):=⟨_,_,pi F_nought_bar T (C_worth:=C_worth),PySem.W.mg_of X G a28,k28,(F_nought_bar.binds fun _ _ _ _ _ _ us hl=>bN (g:=fun us=>bindArgs _ ⟨us,[]⟩) (z:=fun us=>pure (List.zip _ us)) us hl fun _ _=>rfl)⟩
 have F_outlook:=aD (st:=gB) l29 c29 k29
 have C_outlook:aS l.prog w K mg base "outlook" ["sums"] 5 (di K):=⟨_,_,ut F_outlook T (C_furthest_step:=C_furthest_step) (C_nought_bar:=C_nought_bar) (C_steps:=C_steps),PySem.W.mg_of X G a29,k29,(F_outlook.binds fun _ _ _ _ _ _ us hl=>eH (g:=fun us=>bindArgs _ ⟨us,[]⟩) (z:=fun us=>pure (List.zip _ us)) us hl fun _=>rfl)⟩
 have F_is_bar:=aD (st:=hU) l30 c30 k30
 have C_is_bar:aS l.prog w K mg base "is_bar" ["told"] 1 (eB K):=⟨_,_,xL F_is_bar T ,PySem.W.mg_of X G a30,k30,(F_is_bar.binds fun _ _ _ _ _ _ us hl=>eH (g:=fun us=>bindArgs _ ⟨us,[]⟩) (z:=fun us=>pure (List.zip _ us)) us hl fun _=>rfl)⟩
 have F_flock_with:=aD (st:=eo) l31 c31 k31
 have C_flock_with:aS l.prog w K mg base "flock_with" ["sums", "roots"] 6 (dq K):=⟨_,_,pj F_flock_with T (C_weights_by:=C_weights_by) (C_trimmed:=C_trimmed) (C_worth:=C_worth),PySem.W.mg_of X G a31,k31,(F_flock_with.binds fun _ _ _ _ _ _ us hl=>bN (g:=fun us=>bindArgs _ ⟨us,[]⟩) (z:=fun us=>pure (List.zip _ us)) us hl fun _ _=>rfl)⟩
 have F_back:=aD (st:=ma) l32 c32 k32
 have C_back:aS l.prog w K mg base "back" ["sums"] 7 (mW K):=⟨_,_,Ch F_back T (C_is_bar:=C_is_bar) (C_flock_with:=C_flock_with) (C_outlook:=C_outlook),PySem.W.mg_of X G a32,k32,(F_back.binds fun _ _ _ _ _ _ us hl=>eH (g:=fun us=>bindArgs _ ⟨us,[]⟩) (z:=fun us=>pure (List.zip _ us)) us hl fun _=>rfl)⟩
 have F_wholes_from:=aD (st:=dD) l33 c33 k33
 have C_wholes_from:aS l.prog w K mg base "wholes_from" ["wholes", "spot"] 1 (cW K):=⟨_,_,nH F_wholes_from T ,PySem.W.mg_of X G a33,k33,(F_wholes_from.binds fun _ _ _ _ _ _ us hl=>bN (g:=fun us=>bindArgs _ ⟨us,[]⟩) (z:=fun us=>pure (List.zip _ us)) us hl fun _ _=>rfl)⟩
 have F_sums_from:=aD (st:=fk) l34 c34 k34
 have C_sums_from:aS l.prog w K mg base "sums_from" ["sums", "spot"] 3 (dY K):=⟨_,_,qN F_sums_from T (C_wholes_from:=C_wholes_from) (C_ratio:=C_ratio) (C_cleared:=C_cleared),PySem.W.mg_of X G a34,k34,(F_sums_from.binds fun _ _ _ _ _ _ us hl=>bN (g:=fun us=>bindArgs _ ⟨us,[]⟩) (z:=fun us=>pure (List.zip _ us)) us hl fun _ _=>rfl)⟩
 have F_powers_from:=aD (st:=dy) l35 c35 k35
 have C_powers_from:aS l.prog w K mg base "powers_from" ["sums", "spot"] 3 (fG K):=⟨_,_,nC F_powers_from T (C_wholes_from:=C_wholes_from) (C_ratio:=C_ratio) (C_cleared:=C_cleared),PySem.W.mg_of X G a35,k35,(F_powers_from.binds fun _ _ _ _ _ _ us hl=>bN (g:=fun us=>bindArgs _ ⟨us,[]⟩) (z:=fun us=>pure (List.zip _ us)) us hl fun _ _=>rfl)⟩
 have F_back_from:=aD (st:=fm) l36 c36 k36
 have C_back_from:aS l.prog w K mg base "back_from" ["sums", "spot"] 7 (dR K):=⟨_,_,qX F_back_from T (C_flock_with:=C_flock_with) (C_multiplied:=C_multiplied) (C_less_spot:=C_less_spot) (C_is_bar:=C_is_bar) (C_outlook:=C_outlook) (C_sums_from:=C_sums_from),PySem.W.mg_of X G a36,k36,(F_back_from.binds fun _ _ _ _ _ _ us hl=>bN (g:=fun us=>bindArgs _ ⟨us,[]⟩) (z:=fun us=>pure (List.zip _ us)) us hl fun _ _=>rfl)⟩
 have F_bar_from_holds:=aD (st:=cw) l37 c37 k37
 have C_bar_from_holds:aS l.prog w K mg base "bar_from_holds" ["sums", "spot", "thing"] 7 (dG K):=⟨_,_,kF F_bar_from_holds T (C_bars:=C_bars) (C_sums_from:=C_sums_from) (C_is_whole:=C_is_whole),PySem.W.mg_of X G a37,k37,(F_bar_from_holds.binds fun _ _ _ _ _ _ us hl=>j5 (g:=fun us=>bindArgs _ ⟨us,[]⟩) (z:=fun us=>pure (List.zip _ us)) us hl fun _ _ _=>rfl)⟩
 have F_even_sums:=aD (st:=fe) l38 c38 k38
 have C_even_sums:aS l.prog w K mg base "even_sums" ["sums", "spot"] 4 (gn K):=⟨_,_,qI F_even_sums T (C_powers_from:=C_powers_from),PySem.W.mg_of X G a38,k38,(F_even_sums.binds fun _ _ _ _ _ _ us hl=>bN (g:=fun us=>bindArgs _ ⟨us,[]⟩) (z:=fun us=>pure (List.zip _ us)) us hl fun _ _=>rfl)⟩
 have F_had:=aD (st:=pW) l39 c39 k39
 have C_had:aS l.prog w K mg base "had" ["sums"] 6 (qH K):=⟨_,_,Ec F_had T (C_is_bar:=C_is_bar) (C_outlook:=C_outlook),PySem.W.mg_of X G a39,k39,(F_had.binds fun _ _ _ _ _ _ us hl=>eH (g:=fun us=>bindArgs _ ⟨us,[]⟩) (z:=fun us=>pure (List.zip _ us)) us hl fun _=>rfl)⟩
 have F_is_tight:=aD (st:=fO) l40 c40 k40
 have C_is_tight:aS l.prog w K mg base "is_tight" ["sums"] 7 (gU K):=⟨_,_,rT F_is_tight T (C_had:=C_had),PySem.W.mg_of X G a40,k40,(F_is_tight.binds fun _ _ _ _ _ _ us hl=>eH (g:=fun us=>bindArgs _ ⟨us,[]⟩) (z:=fun us=>pure (List.zip _ us)) us hl fun _=>rfl)⟩
 have zFless:=aD (st:=lH) l41 c41 k41
 have zCless:aS l.prog w K mg base "_law_less" ["_law_one", "_law_other"] 1 (qQ K):=⟨_,_,DH zFless T ,PySem.W.mg_of X G a41,k41,(zFless.binds fun _ _ _ _ _ _ us hl=>bN (g:=fun us=>bindArgs _ ⟨us,[]⟩) (z:=fun us=>pure (List.zip _ us)) us hl fun _ _=>rfl)⟩
 have zFdivisor:=aD (st:=gC) l42 c42 k42
 have zCdivisor:aS l.prog w K mg base "_law_divisor" ["_law_one", "_law_other"] 1 (jL K):=⟨_,_,xY zFdivisor T ,PySem.W.mg_of X G a42,k42,(zFdivisor.binds fun _ _ _ _ _ _ us hl=>bN (g:=fun us=>bindArgs _ ⟨us,[]⟩) (z:=fun us=>pure (List.zip _ us)) us hl fun _ _=>rfl)⟩
 have zFlow:=aD (st:=pY) l43 c43 k43
 have zClow:aS l.prog w K mg base "_law_low" ["_law_top", "_law_bottom"] 2 (iN K):=⟨_,_,Ge zFlow T (N_:=N_) (zCdivisor:=zCdivisor),PySem.W.mg_of X G a43,k43,(zFlow.binds fun _ _ _ _ _ _ us hl=>bN (g:=fun us=>bindArgs _ ⟨us,[]⟩) (z:=fun us=>pure (List.zip _ us)) us hl fun _ _=>rfl)⟩
 have zFminus:=aD (st:=jP) l44 c44 k44
 have zCminus:aS l.prog w K mg base "_law_minus" ["_law_one", "_law_other"] 3 (jK K):=⟨_,_,Ck zFminus T (zClow:=zClow),PySem.W.mg_of X G a44,k44,(zFminus.binds fun _ _ _ _ _ _ us hl=>bN (g:=fun us=>bindArgs _ ⟨us,[]⟩) (z:=fun us=>pure (List.zip _ us)) us hl fun _ _=>rfl)⟩
 have zFcell_at:=aD (st:=gA) l45 c45 k45
 have zCcell_at:aS l.prog w K mg base "_law_cell_at" ["_law_script", "_law_k"] 1 (jH K):=⟨_,_,xN zFcell_at T ,PySem.W.mg_of X G a45,k45,(zFcell_at.binds fun _ _ _ _ _ _ us hl=>bN (g:=fun us=>bindArgs _ ⟨us,[]⟩) (z:=fun us=>pure (List.zip _ us)) us hl fun _ _=>rfl)⟩
 have zFstate:=aD (st:=jt) l46 c46 k46
 have zCstate:aS l.prog w K mg base "_law_state" ["_law_script", "_law_k"] 2 (mR K):=⟨_,_,Bo zFstate T (zCcell_at:=zCcell_at),PySem.W.mg_of X G a46,k46,(zFstate.binds fun _ _ _ _ _ _ us hl=>bN (g:=fun us=>bindArgs _ ⟨us,[]⟩) (z:=fun us=>pure (List.zip _ us)) us hl fun _ _=>rfl)⟩
 have zFtake:=aD (st:=lQ) l47 c47 k47
 have zCtake:aS l.prog w K mg base "_law_take" ["_law_state_here", "_law_many"] 1 (g6 K):=⟨_,_,E8 zFtake T ,PySem.W.mg_of X G a47,k47,(zFtake.binds fun _ _ _ _ _ _ us hl=>bN (g:=fun us=>bindArgs _ ⟨us,[]⟩) (z:=fun us=>pure (List.zip _ us)) us hl fun _ _=>rfl)⟩
 have zFsmall:=aD (st:=jM) l48 c48 k48
 have zCsmall:aS l.prog w K mg base "_law_small" ["_law_state_here"] 3 (jA K):=⟨_,_,CJ zFsmall T (zClow:=zClow) (zCtake:=zCtake),PySem.W.mg_of X G a48,k48,(zFsmall.binds fun _ _ _ _ _ _ us hl=>eH (g:=fun us=>bindArgs _ ⟨us,[]⟩) (z:=fun us=>pure (List.zip _ us)) us hl fun _=>rfl)⟩
 have zFabove:=aD (st:=jJ) l49 c49 k49
 have zCabove:aS l.prog w K mg base "_law_above" ["_law_state_here"] 3 (gN K):=⟨_,_,AS zFabove T (zClow:=zClow) (zCtake:=zCtake),PySem.W.mg_of X G a49,k49,(zFabove.binds fun _ _ _ _ _ _ us hl=>eH (g:=fun us=>bindArgs _ ⟨us,[]⟩) (z:=fun us=>pure (List.zip _ us)) us hl fun _=>rfl)⟩
 have zFplus:=aD (st:=lV) l50 c50 k50
 have zCplus:aS l.prog w K mg base "_law_plus" ["_law_one", "_law_other"] 3 (ji K):=⟨_,_,Du zFplus T (zClow:=zClow),PySem.W.mg_of X G a50,k50,(zFplus.binds fun _ _ _ _ _ _ us hl=>bN (g:=fun us=>bindArgs _ ⟨us,[]⟩) (z:=fun us=>pure (List.zip _ us)) us hl fun _ _=>rfl)⟩
 have zFcrowd:=aD (st:=jC) l51 c51 k51
 have zCcrowd:aS l.prog w K mg base "_law_crowd" ["_law_state_here", "_law_most"] 4 (nj K):=⟨_,_,Bu zFcrowd T (zCtake:=zCtake) (zCplus:=zCplus) (zCabove:=zCabove) (zCsmall:=zCsmall),PySem.W.mg_of X G a51,k51,(zFcrowd.binds fun _ _ _ _ _ _ us hl=>bN (g:=fun us=>bindArgs _ ⟨us,[]⟩) (z:=fun us=>pure (List.zip _ us)) us hl fun _ _=>rfl)⟩
 have zFspot_crowd:=aD (st:=ee) l52 c52 k52
 have zCspot_crowd:aS l.prog w K mg base "_law_spot_crowd" ["_law_state_here", "_law_most"] 5 (gp K):=⟨_,_,qV zFspot_crowd T (zCabove:=zCabove) (zCsmall:=zCsmall) (zCcrowd:=zCcrowd),PySem.W.mg_of X G a52,k52,(zFspot_crowd.binds fun _ _ _ _ _ _ us hl=>bN (g:=fun us=>bindArgs _ ⟨us,[]⟩) (z:=fun us=>pure (List.zip _ us)) us hl fun _ _=>rfl)⟩
 have zFtimes:=aD (st:=jy) l53 c53 k53
 have zCtimes:aS l.prog w K mg base "_law_times" ["_law_one", "_law_other"] 3 (nn K):=⟨_,_,AX zFtimes T (zClow:=zClow),PySem.W.mg_of X G a53,k53,(zFtimes.binds fun _ _ _ _ _ _ us hl=>bN (g:=fun us=>bindArgs _ ⟨us,[]⟩) (z:=fun us=>pure (List.zip _ us)) us hl fun _ _=>rfl)⟩
 have zFcrowd_sums:=aD (st:=dX) l54 c54 k54
 have zCcrowd_sums:aS l.prog w K mg base "_law_crowd_sums" ["_law_crowd_here", "_law_many"] 4 (gt K):=⟨_,_,qY zFcrowd_sums T (zCtimes:=zCtimes) (zCplus:=zCplus),PySem.W.mg_of X G a54,k54,(zFcrowd_sums.binds fun _ _ _ _ _ _ us hl=>bN (g:=fun us=>bindArgs _ ⟨us,[]⟩) (z:=fun us=>pure (List.zip _ us)) us hl fun _ _=>rfl)⟩
 have zFright:=aD (st:=ju) l55 c55 k55
 have zCright:aS l.prog w K mg base "_law_right" ["_law_crowd_here", "_law_sums", "_law_spot"] 8 (mY K):=⟨_,_,A0 zFright T (C_back:=C_back) (C_even_sums:=C_even_sums) (C_back_from:=C_back_from) (zCminus:=zCminus) (C_is_tight:=C_is_tight) (zCless:=zCless) (C_bar_from_holds:=C_bar_from_holds),PySem.W.mg_of X G a55,k55,(zFright.binds fun _ _ _ _ _ _ us hl=>j5 (g:=fun us=>bindArgs _ ⟨us,[]⟩) (z:=fun us=>pure (List.zip _ us)) us hl fun _ _ _=>rfl)⟩
 have F_law:=aD (st:=kK) l56 c56 k56
 exact Eu F_law T (zCplus:=zCplus) (zCminus:=zCminus) (zCabove:=zCabove) (zCright:=zCright) (zCcrowd_sums:=zCcrowd_sums) (zCtake:=zCtake) (zCspot_crowd:=zCspot_crowd) (zCstate:=zCstate)
theorem walk{l:PySem.W.OpenLaw}{q:Program}{loose:List Str}{XP:(Str->Option Value)->Heap->Prop}{YP:World->Heap->Prop}{d:DefRec}{K:Params->W.Frag}(hn:l.most=some 63)(hdf:d.params.defaults=[])(hi:PyProof.Rows.importsNone q=true)
  (hY:∀ (w:World)(h:Heap),YP w h->(K w.params).In h /\ ∀ q ∈ ([]:List (Addr × Addr)),PySem.W.codeHdIn (K w.params) q.1 q.2=true/\(K w.params).lookup q.2=none/\h.get? q.2=some (PySem.W.tabObj #[]))
  (F:∀ (w:World)(mg:Str->Option Value)(fa:Addr)(h:Heap),(K w.params).In h->h.Ns mainGlobals mg->mg d.name=some (.ref fa) ->
   ∃ fd:FuncData,(∀ (s:Shared)(u:Value),BindsTo s fd ⟨[u],[]⟩ [("_law_script",u)]) /\ ∀ base:Heap,(K w.params).In base->base.Ns mainGlobals mg->uQ mg base->base.NoSeer->bK l.prog w (K w.params) mg base eI 9 fa fd ["_law_script"] (spLaw (K w.params))) :
  PySem.W.WalkO q loose XP YP l.row.toRowW d [] (fun f vs=>PySem.call f vs) :=
 L2.walk_ofM (ts:=fun _=>[]) (n:=63) (k:=9) (x:="_law_script") (CX:=fun _=>eI) (sp:=fun w=>spLaw (K w.params)) hn (by decide) hdf ⟨rfl,by decide,by decide⟩ hi hY F (fun _ _ a ns hl hT hK hS=>⟨a,ns,rfl,.of hS hK,hl,fun _=>rfl⟩) fun _ _ _ _ _ z=>z
end M
open PySem PySem.W PyProof.Rows
inductive PySem.W.Fast.tw850471235558992466 : Type
inductive PySem.W.Fast.tw326807892960138793 : Type
inductive PySem.W.Fast.tw2545746903468857315 : Type
inductive PySem.W.Fast.tw9911943275375558052 : Type
inductive PySem.W.Fast.tw5926941732046313860 : Type
inductive PySem.W.Fast.tw17604319247929679808 : Type
inductive PySem.W.Fast.tw15661002650993657830 : Type
inductive PySem.W.Fast.tw15507205909560794907 : Type
inductive PySem.W.Fast.tw14034950858399862575 : Type
inductive PySem.W.Fast.tw11548792242464577182 : Type
inductive PySem.W.Fast.tw11641331102068178352 : Type
inductive PySem.W.Fast.tw13115099581172078248 : Type
inductive PySem.W.Fast.tw12672855554773855780 : Type
inductive PySem.W.Fast.tw2428876818053415383 : Type
inductive PySem.W.Fast.tw17835601385095916451 : Type
inductive PySem.W.Fast.tw9064218052374693245 : Type
inductive PySem.W.Fast.tw10745359801870834202 : Type
set_option maxRecDepth 100000 in
set_option maxHeartbeats 0 in
theorem PySem.Challenge.cw_momentwright_k73_whole_from_a_spot_on_holds : PySem.Challenge.rw_momentwright_k73_whole_from_a_spot_on.Holds := by
 w_on;o_law;k_head;(case hw=>w_witness2)
 k_fill
 refine M.walk (l:=PySem.Challenge.rw_momentwright_k73_whole_from_a_spot_on) rfl rfl ?hi (fun w h Y=>⟨PySem.W.kIn_of Y,fun q hq=>by cases hq⟩) ?F
 case hi=>exact (by decide +kernel)
 case F =>
  intro w mg fa h KX G hmg
  refine' M.all_mk KX G hmg rfl ?a0 ?l0 ?c0 ?k0 ?a1 ?l1 ?c1 ?k1 ?a2 ?l2 ?c2 ?k2 ?a3 ?l3 ?c3 ?k3 ?a4 ?l4 ?c4 ?k4 ?a5 ?l5 ?c5 ?k5 ?a6 ?l6 ?c6 ?k6 ?a7 ?l7 ?c7 ?k7 ?a8 ?l8 ?c8 ?k8 ?a9 ?l9 ?c9 ?k9 ?a10 ?l10 ?c10 ?k10 ?a11 ?l11 ?c11 ?k11 ?a12 ?l12 ?c12 ?k12 ?a13 ?l13 ?c13 ?k13 ?a14 ?l14 ?c14 ?k14 ?a15 ?l15 ?c15 ?k15 ?a16 ?l16 ?c16 ?k16 ?a17 ?l17 ?c17 ?k17 ?a18 ?l18 ?c18 ?k18 ?a19 ?l19 ?c19 ?k19 ?a20 ?l20 ?c20 ?k20 ?a21 ?l21 ?c21 ?k21 ?a22 ?l22 ?c22 ?k22 ?a23 ?l23 ?c23 ?k23 ?a24 ?l24 ?c24 ?k24 ?a25 ?l25 ?c25 ?k25 ?a26 ?l26 ?c26 ?k26 ?a27 ?l27 ?c27 ?k27 ?a28 ?l28 ?c28 ?k28 ?a29 ?l29 ?c29 ?k29 ?a30 ?l30 ?c30 ?k30 ?a31 ?l31 ?c31 ?k31 ?a32 ?l32 ?c32 ?k32 ?a33 ?l33 ?c33 ?k33 ?a34 ?l34 ?c34 ?k34 ?a35 ?l35 ?c35 ?k35 ?a36 ?l36 ?c36 ?k36 ?a37 ?l37 ?c37 ?k37 ?a38 ?l38 ?c38 ?k38 ?a39 ?l39 ?c39 ?k39 ?a40 ?l40 ?c40 ?k40 ?a41 ?l41 ?c41 ?k41 ?a42 ?l42 ?c42 ?k42 ?a43 ?l43 ?c43 ?k43 ?a44 ?l44 ?c44 ?k44 ?a45 ?l45 ?c45 ?k45 ?a46 ?l46 ?c46 ?k46 ?a47 ?l47 ?c47 ?k47 ?a48 ?l48 ?c48 ?k48 ?a49 ?l49 ?c49 ?k49 ?a50 ?l50 ?c50 ?k50 ?a51 ?l51 ?c51 ?k51 ?a52 ?l52 ?c52 ?k52 ?a53 ?l53 ?c53 ?k53 ?a54 ?l54 ?c54 ?k54 ?a55 ?l55 ?c55 ?k55 ?a56 ?l56 ?c56 ?k56  ?u0 ?v0 ?w0 ?u1 ?v1 ?w1 ?z0 ?z1 ?z2 ?z3 ?z4 ?z5 ?z6 ?z7 ?z8 ?z9 ?z10 ?z11 ?z12
  (case a0=>k_is);(case l0=>k_is);(case c0=>k_is);(case k0=>k_is)
  (case a1=>k_is);(case l1=>k_is);(case c1=>k_is);(case k1=>k_is)
  (case a2=>k_is);(case l2=>k_is);(case c2=>k_is);(case k2=>k_is)
  (case a3=>k_is);(case l3=>k_is);(case c3=>k_is);(case k3=>k_is)
  (case a4=>k_is);(case l4=>k_is);(case c4=>k_is);(case k4=>k_is)
  (case a5=>k_is);(case l5=>k_is);(case c5=>k_is);(case k5=>k_is)
  (case a6=>k_is);(case l6=>k_is);(case c6=>k_is);(case k6=>k_is)
  (case a7=>k_is);(case l7=>k_is);(case c7=>k_is);(case k7=>k_is)
  (case a8=>k_is);(case l8=>k_is);(case c8=>k_is);(case k8=>k_is)
  (case a9=>k_is);(case l9=>k_is);(case c9=>k_is);(case k9=>k_is)
  (case a10=>k_is);(case l10=>k_is);(case c10=>k_is);(case k10=>k_is)
  (case a11=>k_is);(case l11=>k_is);(case c11=>k_is);(case k11=>k_is)
  (case a12=>k_is);(case l12=>k_is);(case c12=>k_is);(case k12=>k_is)
  (case a13=>k_is);(case l13=>k_is);(case c13=>k_is);(case k13=>k_is)
  (case a14=>k_is);(case l14=>k_is);(case c14=>k_is);(case k14=>k_is)
  (case a15=>k_is);(case l15=>k_is);(case c15=>k_is);(case k15=>k_is)
  (case a16=>k_is);(case l16=>k_is);(case c16=>k_is);(case k16=>k_is)
  (case a17=>k_is);(case l17=>k_is);(case c17=>k_is);(case k17=>k_is)
  (case a18=>k_is);(case l18=>k_is);(case c18=>k_is);(case k18=>k_is)
  (case a19=>k_is);(case l19=>k_is);(case c19=>k_is);(case k19=>k_is)
  (case a20=>k_is);(case l20=>k_is);(case c20=>k_is);(case k20=>k_is)
  (case a21=>k_is);(case l21=>k_is);(case c21=>k_is);(case k21=>k_is)
  (case a22=>k_is);(case l22=>k_is);(case c22=>k_is);(case k22=>k_is)
  (case a23=>k_is);(case l23=>k_is);(case c23=>k_is);(case k23=>k_is)
  (case a24=>k_is);(case l24=>k_is);(case c24=>k_is);(case k24=>k_is)
  (case a25=>k_is);(case l25=>k_is);(case c25=>k_is);(case k25=>k_is)
  (case a26=>k_is);(case l26=>k_is);(case c26=>k_is);(case k26=>k_is)
  (case a27=>k_is);(case l27=>k_is);(case c27=>k_is);(case k27=>k_is)
  (case a28=>k_is);(case l28=>k_is);(case c28=>k_is);(case k28=>k_is)
  (case a29=>k_is);(case l29=>k_is);(case c29=>k_is);(case k29=>k_is)
  (case a30=>k_is);(case l30=>k_is);(case c30=>k_is);(case k30=>k_is)
  (case a31=>k_is);(case l31=>k_is);(case c31=>k_is);(case k31=>k_is)
  (case a32=>k_is);(case l32=>k_is);(case c32=>k_is);(case k32=>k_is)
  (case a33=>k_is);(case l33=>k_is);(case c33=>k_is);(case k33=>k_is)
  (case a34=>k_is);(case l34=>k_is);(case c34=>k_is);(case k34=>k_is)
  (case a35=>k_is);(case l35=>k_is);(case c35=>k_is);(case k35=>k_is)
  (case a36=>k_is);(case l36=>k_is);(case c36=>k_is);(case k36=>k_is)
  (case a37=>k_is);(case l37=>k_is);(case c37=>k_is);(case k37=>k_is)
  (case a38=>k_is);(case l38=>k_is);(case c38=>k_is);(case k38=>k_is)
  (case a39=>k_is);(case l39=>k_is);(case c39=>k_is);(case k39=>k_is)
  (case a40=>k_is);(case l40=>k_is);(case c40=>k_is);(case k40=>k_is)
  (case a41=>k_is);(case l41=>k_is);(case c41=>k_is);(case k41=>k_is)
  (case a42=>k_is);(case l42=>k_is);(case c42=>k_is);(case k42=>k_is)
  (case a43=>k_is);(case l43=>k_is);(case c43=>k_is);(case k43=>k_is)
  (case a44=>k_is);(case l44=>k_is);(case c44=>k_is);(case k44=>k_is)
  (case a45=>k_is);(case l45=>k_is);(case c45=>k_is);(case k45=>k_is)
  (case a46=>k_is);(case l46=>k_is);(case c46=>k_is);(case k46=>k_is)
  (case a47=>k_is);(case l47=>k_is);(case c47=>k_is);(case k47=>k_is)
  (case a48=>k_is);(case l48=>k_is);(case c48=>k_is);(case k48=>k_is)
  (case a49=>k_is);(case l49=>k_is);(case c49=>k_is);(case k49=>k_is)
  (case a50=>k_is);(case l50=>k_is);(case c50=>k_is);(case k50=>k_is)
  (case a51=>k_is);(case l51=>k_is);(case c51=>k_is);(case k51=>k_is)
  (case a52=>k_is);(case l52=>k_is);(case c52=>k_is);(case k52=>k_is)
  (case a53=>k_is);(case l53=>k_is);(case c53=>k_is);(case k53=>k_is)
  (case a54=>k_is);(case l54=>k_is);(case c54=>k_is);(case k54=>k_is)
  (case a55=>k_is);(case l55=>k_is);(case c55=>k_is);(case k55=>k_is)
  (case a56=>k_is);(case l56=>k_is);(case c56=>k_is);(case k56=>k_is)
  (case u0=>k_is);(case v0=>k_is);(case w0=>rfl)
  (case u1=>k_is);(case v1=>k_is);(case w1=>rfl)
  (case z0=>k_is)
  (case z1=>k_is)
  (case z2=>k_is)
  (case z3=>k_is)
  (case z4=>k_is)
  (case z5=>k_is)
  (case z6=>k_is)
  (case z7=>k_is)
  (case z8=>k_is)
  (case z9=>k_is)
  (case z10=>k_is)
  (case z11=>k_is)
  (case z12=>k_is)
#print axioms PySem.Challenge.cw_momentwright_k73_whole_from_a_spot_on_holds

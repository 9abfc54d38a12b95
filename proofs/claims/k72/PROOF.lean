import PyProof.Rows.All
import Wide.All
import OpenK.AllK
import Wide.FinOn
import Lean
import PyProof.EqAt
import PyProof.EqKinds
import PyProof.TupleCall
import PySem.Challenge.RW_momentwright_k72_bars_from_a_spot_on
set_option compiler.extract_closed false
local macro_rules | `(tactic| walk_at "o")=>`(tactic| first | lia | omega)
local macro_rules | `(tactic| walk_at "a1")=>`(tactic| first | exact Or.inl rfl | exact Or.inr rfl)
local macro_rules | `(tactic| walk_at "a2")=>`(tactic| first | decide | walk_at "o")
local macro_rules | `(tactic| walk_at "a3")=>`(tactic| exact ⟨rfl,rfl,rfl,by decide +kernel,rfl,by decide +kernel,by decide +kernel⟩)
set_option Elab.async false
set_option linter.all false
set_option maxRecDepth 100000
namespace L2
open PySem PySem.Spec PyProof.Rows
abbrev sS:=Sum Int Str
def Ds:sS->Value->Bool
 | .inl k,v=>Value.isInt k v
 | .inr x,v=>Value.isStrOf x v
def Hu(w:World):sS->Int
 | .inl k=>hashInt k
 | .inr x=>hashStr w x
theorem dy:∀{k:sS}{v:Value},Ds k v=true->(∃ i t,k=Sum.inl i/\v=Value.int i t)\/(∃ x t,k=Sum.inr x/\v=Value.str x t)
 | .inl i,v,h=>by
  obtain⟨t,e⟩:=Value.isInt_shape (k:=i) (v:=v) h
  exact .inl ⟨i,t,rfl,e⟩
 | .inr x,v,h=>by
  obtain⟨t,e⟩:=Value.isStrOf_shape (x:=x) (v:=v) h
  exact .inr ⟨x,t,rfl,e⟩
theorem FF(a b:Int):decide ((Sum.inl a:sS)=Sum.inl b)=(a == b):=by
 by_cases e:a=b
 ·subst e;simp
 ·have h:¬ (Sum.inl a:sS)=Sum.inl b:=fun q=>e (Sum.inl.inj q)
  rw[decide_eq_false h]
  exact (beq_eq_false_iff_ne.mpr e).symm
theorem FD(a b:Str):decide ((Sum.inr a:sS)=Sum.inr b)=decide (a=b):=by
 by_cases e:a=b
 ·subst e;simp
 ·have h:¬ (Sum.inr a:sS)=Sum.inr b:=fun q=>e (Sum.inr.inj q)
  rw[decide_eq_false h,decide_eq_false e]
theorem E4(a:Int)(b:Str):decide ((Sum.inl a:sS)=Sum.inr b)=false:=decide_eq_false (fun q=>nomatch q)
theorem ES(a:Str)(b:Int):decide ((Sum.inr a:sS)=Sum.inl b)=false:=decide_eq_false (fun q=>nomatch q)
def rW(prog:Program)(w:World):PySem.KeyKind prog w sS where
 is:=Ds
 hash:=Hu w
 inj:=fun v a b ha hb=>by
  rcases dy ha with ⟨i,t,rfl,rfl⟩|⟨x,t,rfl,rfl⟩
  ·rcases dy hb with ⟨j,u,rfl,e⟩|⟨y,u,rfl,e⟩
   ·injection e with e1 _;rw[e1]
   ·exact nomatch e
  ·rcases dy hb with ⟨j,u,rfl,e⟩|⟨y,u,rfl,e⟩
   ·exact nomatch e
   ·injection e with e1 _;rw[e1]
 byValue:=fun k v h=>by
  rcases dy h with ⟨i,t,rfl,rfl⟩|⟨x,t,rfl,rfl⟩ <;> rfl
 pyHash:=fun hv h=>by
  rcases dy hv with ⟨i,t,rfl,rfl⟩|⟨x,t,rfl,rfl⟩
  ·exact wpAny_pyHash_int h
  ·exact wpAny_pyHash_str h
 eqBool:=fun hu hv h=>by
  rcases dy hu with ⟨i,t,rfl,rfl⟩|⟨x,t,rfl,rfl⟩
  ·rcases dy hv with ⟨j,u,rfl,rfl⟩|⟨y,u,rfl,rfl⟩
   ·rw[FF] at h;exact wpAny_eqBool_int h
   ·rw[E4] at h;exact SeqAt.EqAt.int_str i t y u _ _ _ _ h
  ·rcases dy hv with ⟨j,u,rfl,rfl⟩|⟨y,u,rfl,rfl⟩
   ·rw[ES] at h;exact SeqAt.EqAt.str_int x t j u _ _ _ _ h
   ·rw[FD] at h;exact wpAny_eqBool_str h
 «strs»:=fun k x t v h=>by
  rcases dy h with ⟨i,u,rfl,e⟩|⟨y,u,rfl,e⟩
  ·exact nomatch e
  ·injection e with e1 _
   subst e1
   cases v <;> rfl
end L2
namespace L2
open PySem PySem.Spec PyProof.Rows
inductive V where
 | non|bl (b:Bool)|int (i:Int)|str (x:Str)|byt (b:Array UInt8)|flt (b:UInt64)|ref (a:Addr)|ty (n:String)
 deriving DecidableEq
def cw:V->Value->Prop
 | .non,u=>u=Value.none
 | .bl b,u=>u=Value.bool b
 | .int i,u=>∃ t,u=Value.int i t
 | .str x,u=>∃ t,u=Value.str x t
 | .byt b,u=>∃ t,u=Value.bytes b t
 | .flt b,u=>∃ t,u=Value.float b t
 | .ref a,u=>u=Value.ref a
 | .ty n,u=>u=Value.type n
abbrev bQ:List V->List Value->Prop:=Paired cw
theorem bQ.length{xs:List V}{us:List Value}(r:bQ xs us):xs.length=us.length:=Paired.length r
theorem bQ.get:∀{xs:List V}{us:List Value}{i:Nat}{x:V},bQ xs us->xs[i]? = some x -> ∃ u,us[i]? = some u/\cw x u
 | _,_,_,_,.nil,e=>by simp at e
 | _,_,0,_,.cons r _,e=>by simp at e;subst e;exact⟨_,rfl,r⟩
 | _,_,i+1,x,.cons _ t,e=>by
  obtain⟨u,h1,h2⟩:=bQ.get (i:=i) (x:=x) t (by simpa using e)
  exact⟨u,by simpa using h1,h2⟩
theorem bQ.set{x:V}{u:Value}(r:cw x u):∀ {xs:List V}{us:List Value}(i:Nat),bQ xs us->bQ (xs.set i x) (us.set i u)
 | _,_,_,.nil=>.nil
 | _,_,0,.cons _ t=>.cons r t
 | _,_,i+1,.cons q t=>.cons q (bQ.set r i t)
theorem bQ.append:∀{xs ys:List V}{us ws:List Value},bQ xs us->bQ ys ws->bQ (xs ++ ys) (us ++ ws)
 | _,_,_,_,.nil,s=>s
 | _,_,_,_,.cons r t,s=>.cons r (bQ.append t s)
theorem bQ.take:∀{xs:List V}{us:List Value}(n:Nat),bQ xs us->bQ (xs.take n) (us.take n)
 | _,_,0,_=>.nil
 | _,_,_+1,.nil=>.nil
 | _,_,n+1,.cons r t=>.cons r (bQ.take n t)
theorem bQ.drop:∀{xs:List V}{us:List Value}(n:Nat),bQ xs us->bQ (xs.drop n) (us.drop n)
 | _,_,0,r=>r
 | _,_,_+1,.nil=>.nil
 | _,_,n+1,.cons _ t=>bQ.drop n t
def DL:Option V->Option Value->Prop
 | some v,some u=>cw v u
 | none,none=>True
 | _,_=>False
def KV{κ:Type}:List (κ × V)->List (κ × Value)->Prop:=Paired fun (p:κ × V)(q:κ × Value)=>p.1=q.1/\cw p.2 q.2
def kV:sS->V
 | .inl i=>.int i
 | .inr x=>.str x
inductive HO where
 /-- a list -/
 | lst (xs:List V)
 /-- a tuple (never changes) -/
 | tup (xs:List V)
 /-- a dict whose keys are ints and texts;one whose keys are tuples of ints and texts (the empty one is both) -/
 | dK (kvs:List (sS × V))|dT (kvs:List (List sS × V))
 /-- a set of ints: its members,its size -/
 | set (S:Int->Bool)(n:Nat)
 /-- an instance of the class at C,its dict at dx,its attributes -/
 | ins (C dx:Addr)(fs:List (Str × V))
 /-- the dict of the instance at x -/
 | own (x:Addr)
 /-- the dict of an exception -/
 | xd (fs:List (Str × V))
 /-- a bound method,f of x -/
 | met (f x:Addr)
 /-- a range object lo,lo+1,.. below hi -/
 | rng (lo hi:Int)
 /-- a thing that is known to the object (the script;a dict while a loop walks it): read,never written while it is so -/
 | frz (o:Obj)(u:HO)
 /-- a code object's table -/
 | tbl (ps:Array Value)
 /-- any other thing,by what is true of its one object (a def of one's own: SetO a S n:=HO.ext fun h=>..) -/
 | ext (φ:Heap->Prop)
abbrev Hp:=Addr->Option HO
def upd(H:Hp)(a:Addr)(o:HO):Hp:=fun b=>if b=a then some o else H b
theorem dA{H:Hp}{a:Addr}{o:HO}:upd H a o a=some o:=by unfold upd;rw[if_pos rfl]
theorem cK{H:Hp}{a b:Addr}{o:HO}(h:b ≠ a):upd H a o b=H b:=by unfold upd;rw[if_neg h]
theorem yy{H:Hp}{a b:Addr}{o u:HO}(h:H a=some o)(h':H b=some u)(d:o ≠ u):a ≠ b:=by
 intro e;subst e;rw[h] at h';exact d (Option.some.inj h')
theorem aj{H:Hp}{a b:Addr}{o:HO}(h:H a=some o)(h':H b=none):a ≠ b:=by
 intro e;subst e;rw[h] at h';cases h'
section
variable (P:Program)(w:World)
def fc(H:Hp)(h:Heap)(a:Addr):HO->Prop
 | .lst xs=>xs.length<=sizeLine /\ ∃ (its:List Value)(n:Nat),bQ xs its/\h.get? a=some { cls:=.type "list",data:=.seq its.toArray n }
 | .tup xs=>xs.length<=sizeLine /\ ∃ its:List Value,bQ xs its/\IsTup h a its.toArray
 | .dK kvs=>kvs.length<=sizeLine/\(a == sysModules)=false /\ ∃ vs,KV kvs vs/\h.DictOf (rW P w) a vs
 | .dT kvs=>kvs.length<=sizeLine/\(a == sysModules)=false /\ ∃ xs:List (List sS × Addr × Value),
   Paired (fun (p:List sS × V)(q:List sS × Addr × Value)=>p.1=q.1/\H q.2.1=some (.tup (p.1.map kV))/\cw p.2 q.2.2) kvs xs /\
   ∃ o es ep,h.get? a=some o/\o.ExactDict/\o.data = .dict es ep/\es.toList=xs.map (entryOfKey (tupleKind (rW P w)))/\(xs.map (·.1)).Nodup
 | .set S n=>h.SetOf (intKind P w) a S n
 | .ins C dx fs=>H dx=some (.own a)/\fs.length<=1000/\dx ≠ a/\h.get? a=some (PySem.W.instObj C dx) /\
   ∃ mA,h.Ns1 dx mA/\(∀ f,DL (fs.lookup f) (mA f))/\PySem.Within mA (fs.map (·.1))
 | .own _=>∃ o,h.get? a=some o
 | .xd fs=>∃ mA,h.Ns1 a mA /\ ∀ f,DL (fs.lookup f) (mA f)
 | .rng lo hi=>∃ t u v,h.get? a=some { cls:=.type "range",data:=.fields #[.int lo t,.int hi u,.int 1 v] }
 | .frz o u=>h.get? a=some o/\fc H h a u
 | .tbl ps=>h.get? a=some { cls:=.none,data:=.fields ps }
 | .met f x=>h.get? a=some (PySem.W.methodObj (.ref f) (.ref x))
 | .ext φ=>φ h/\(∃ o,h.get? a=some o) /\ ∀ h1 h2:Heap,φ h1->(∀ o,h1.get? a=some o->h2.get? a=some o)->φ h2
def ow(H:Hp)(h:Heap):Prop:=∀ a o,H a=some o->fc P w H h a o
end
section
variable {P:Program}{w:World}{H H':Hp}{h h':Heap}{a:Addr}{o:HO}
theorem fc.lt(x:fc P w H h a o):a<h.objs.size:=by
 cases o with
 | lst xs=>obtain⟨_,_,_,_,e⟩:=x;exact Heap.lt_size e
 | tup xs=>obtain⟨_,_,_,p⟩:=x;exact p.lt
 | dK kvs=>obtain⟨_,_,_,_,o,_,_,e,_⟩:=x;exact Heap.lt_size e
 | dT kvs=>obtain⟨_,_,_,_,o,_,_,e,_⟩:=x;exact Heap.lt_size e
 | set S n=>obtain⟨o,_,_,_,e,_⟩:=x;exact Heap.lt_size e
 | ins C dx fs=>obtain⟨_,_,_,e,_⟩:=x;exact Heap.lt_size e
 | own y=>obtain⟨_,e⟩:=x;exact Heap.lt_size e
 | xd fs=>obtain⟨_,⟨_,_,_,e,_⟩,_⟩:=x;exact Heap.lt_size e
 | rng lo hi=>obtain⟨_,_,_,e⟩:=x;exact Heap.lt_size e
 | frz ob u=>obtain⟨e,_⟩:=x;exact Heap.lt_size e
 | tbl ps=>exact Heap.lt_size (show h.get? a=some _ from x)
 | met f y=>exact Heap.lt_size (show h.get? a=some _ from x)
 | ext φ=>obtain⟨_,⟨_,e⟩,_⟩:=x;exact Heap.lt_size e
theorem Paired.mapP{α β:Type}{F G:α->β->Prop}:∀ {l₁:List α}{l₂:List β},Paired F l₁ l₂->(∀ a b,F a b->G a b)->Paired G l₁ l₂
 | _,_,.nil,_=>.nil
 | _,_,.cons r t,f=>.cons (f _ _ r) (Paired.mapP t f)
theorem fc.stay(x:fc P w H h a o)(k:∀ b u,(b=a\/H b=some (.own a))->h.get? b=some u->h'.get? b=some u)
  (ho:∀ b,H b=some (.own a)->H' b=some (.own a))(ht:∀ b xs,H b=some (.tup xs)->H' b=some (.tup xs)):fc P w H' h' a o:=by
 induction o with
 | lst xs=>obtain⟨z,its,n,r,e⟩:=x;exact⟨z,its,n,r,k _ _ (.inl rfl) e⟩
 | tup xs=>obtain⟨z,its,r,ob,e,c⟩:=x;exact⟨z,its,r,ob,k _ _ (.inl rfl) e,c⟩
 | dK kvs=>obtain⟨z,y,vs,r,ob,es,ep,e,c⟩:=x;exact⟨z,y,vs,r,ob,es,ep,k _ _ (.inl rfl) e,c⟩
 | dT kvs =>
  obtain⟨z,y,xs,r,ob,es,ep,e,c⟩:=x
  exact⟨z,y,xs,Paired.mapP r fun p q z=>⟨z.1,ht _ _ z.2.1,z.2.2⟩,ob,es,ep,k _ _ (.inl rfl) e,c⟩
 | set S n=>obtain⟨ob,es,ep,t,e,c⟩:=x;exact⟨ob,es,ep,t,k _ _ (.inl rfl) e,c⟩
 | ins C dx fs =>
  obtain⟨d,z,ne,e,mA,⟨od,es,ep,e2,c⟩,r⟩:=x
  exact⟨ho _ d,z,ne,k _ _ (.inl rfl) e,mA,⟨od,es,ep,k _ _ (.inr d) e2,c⟩,r⟩
 | own y=>obtain⟨ob,e⟩:=x;exact⟨ob,k _ _ (.inl rfl) e⟩
 | xd fs=>obtain⟨mA,⟨od,es,ep,e,c⟩,r⟩:=x;exact⟨mA,⟨od,es,ep,k _ _ (.inl rfl) e,c⟩,r⟩
 | rng lo hi=>obtain⟨t,u,v,e⟩:=x;exact⟨t,u,v,k _ _ (.inl rfl) e⟩
 | frz ob u ih=>obtain⟨e,q⟩:=x;exact⟨k _ _ (.inl rfl) e,ih q⟩
 | tbl ps =>
  have e:h.get? a=some { cls:=.none,data:=.fields ps }:=x
  show h'.get? a=some { cls:=.none,data:=.fields ps }
  exact k a _ (.inl rfl) e
 | met f y =>
  have e:h.get? a=some (PySem.W.methodObj (.ref f) (.ref y)):=x
  show h'.get? a=some (PySem.W.methodObj (.ref f) (.ref y))
  exact k a _ (.inl rfl) e
 | ext φ=>obtain⟨p,⟨o,e⟩,st⟩:=x;exact⟨st _ _ p fun o q=>k _ _ (.inl rfl) q,⟨o,k _ _ (.inl rfl) e⟩,st⟩
theorem ow.lt(x:ow P w H h)(e:H a=some o):a<h.objs.size:=(x a o e).lt
theorem ow.fresh(x:ow P w H h)(e:h.objs.size<=a):H a=none:=by
 cases q:H a with
 | none=>rfl
 | some u=>exact absurd (Nat.lt_of_lt_of_le (x.lt q) e) (Nat.lt_irrefl _)
theorem ow.kept(x:ow P w H h)(k:∀ b u,h.get? b=some u->h'.get? b=some u):ow P w H h':=fun a o e =>
 (x a o e).stay (fun b u _ q=>k b u q) (fun _ q=>q) fun _ _ q=>q
theorem ow.laid(x:ow P w H h)(k:∀ b u,h.get? b=some u->h'.get? b=some u)(hp:h.objs.size<=a)(new:fc P w (upd H a o) h' a o):ow P w (upd H a o) h':=fun b u e=>by
 have hn:=x.fresh hp
 by_cases hb:b=a
 ·subst hb;rw[dA] at e;cases e;exact new
 ·rw[cK hb] at e
  exact (x b u e).stay (fun c v _ q=>k c v q) (fun c q=>by rw[cK (aj q hn)];exact q) fun c xs q=>by rw[cK (aj q hn)];exact q
end
def Rd(H:Hp)(a:Addr)(u:HO):Prop:=H a=some u \/ ∃ o,H a=some (.frz o u)
theorem Rd.ok{P:Program}{w:World}{H:Hp}{h:Heap}{a:Addr}{u:HO}(r:Rd H a u)(x:ow P w H h):fc P w H h a u:=by
 rcases r with r|⟨o,r⟩
 ·exact x a u r
 ·obtain⟨_,q⟩:=x a _ r
  exact q
def GP:Option HO->Prop
 | some (.lst _)=>True
 | some (.dK _)=>True
 | some (.dT _)=>True
 | some (.set _ _)=>True
 | some (.ins _ _ _)=>True
 | some (.ext _)=>True
 | _=>False
section
variable {P:Program}{w:World}{H:Hp}{h h':Heap}{x e:Addr}{o':HO}
theorem ow.write(ok:ow P w H h)(mu:GP (H x))(he:e=x\/H e=some (.own x))(k:∀ b u,b ≠ e->h.get? b=some u->h'.get? b=some u)(heo:∃ u,h'.get? e=some u)
  (new:fc P w (upd H x o') h' x o'):ow P w (upd H x o') h':=fun b u q=>by
 have nown:∀ c y,H c=some (.own y)->c ≠ x:=fun c y r z=>by subst z;rw[r] at mu;exact mu
 have ntup:∀ c xs,H c=some (.tup xs)->c ≠ x:=fun c xs r z=>by subst z;rw[r] at mu;exact mu
 by_cases hb:b=x
 ·subst hb;rw[dA] at q;cases q;exact new
 ·rw[cK hb] at q
  by_cases hbe:b=e
  ·have q':H b=some (.own x):=by
    rcases he with z|z
    ·exact absurd (hbe.trans z) hb
    ·rw[hbe];exact z
   rw[q] at q';cases q'
   obtain⟨v,hv⟩:=heo
   exact⟨v,by rw[hbe];exact hv⟩
  ·refine (ok b u q).stay (fun c v hc r=>k c v ?_ r) (fun c r=>by rw[cK (nown c b r)];exact r) fun c xs r=>by rw[cK (ntup c xs r)];exact r
   rcases hc with rfl|hc
   ·exact hbe
   ·rintro rfl
    rcases he with z|z
    ·exact nown c b hc z
    ·rw[hc] at z;cases z;exact hb rfl
end
structure Un (fs ex:List Addr)(H H':Hp)(h h':Heap):Prop where
 keep:∀ b o,h.get? b=some o->H b=none->b ∉ fs->b ∉ ex->h'.get? b=some o
 slot:∀ b o,h.get? b=some o->H b=none->b ∈ fs->b ∉ ex -> ∃ sl,h'.get? b=some { o with slots:=sl }
 free:∀ b o,h.get? b=some o->H b=none->b ∉ ex->H' b=none
 there:∀ b o,h.get? b=some o->b ∉ ex -> ∃ o',h'.get? b=some o'
 tups:∀ b xs,H b=some (.tup xs)->H' b=some (.tup xs)
 frzs:∀ b o u,H b=some (.frz o u)->H' b=some (.frz o u)
 tbls:∀ b ps,H b=some (.tbl ps) -> ∃ more,H' b=some (.tbl (ps ++ more))
section
variable {fs fs' ex ex':List Addr}{H H1 H2:Hp}{h h1 h2 h':Heap}{a x e:Addr}{o:HO}
theorem Un.any(u:Un fs ex H H1 h h1) {b:Addr}{ob:Obj}(q:h.get? b=some ob)(n:H b=none)(hx:b ∉ ex):∃ sl,h1.get? b=some { ob with slots:=sl }:=by
 by_cases hb:b ∈ fs
 ·exact u.slot b ob q n hb hx
 ·exact⟨ob.slots,u.keep b ob q n hb hx⟩
theorem Un.kept(k:∀ b u,h.get? b=some u->h'.get? b=some u):Un fs ex H H h h' :=
 ⟨fun b ob q _ _ _=>k b ob q,fun b ob q _ _ _=>⟨ob.slots,k b ob q⟩,fun _ _ _ n _=>n,fun b ob q _=>⟨ob,k b ob q⟩,fun _ _ q=>q,fun _ _ _ q=>q,fun _ ps q=>⟨#[],by rw[q];simp⟩⟩
theorem Un.refl:Un fs ex H H h h:=Un.kept fun _ _ q=>q
theorem Un.laid(k:∀ b u,h.get? b=some u->h'.get? b=some u)(hp:h.objs.size<=a)(hn:H a=none):Un fs ex H (upd H a o) h h' where
 keep:=fun b u q _ _ _=>k b u q
 slot:=fun b u q _ _ _=>⟨u.slots,k b u q⟩
 free:=fun b u q n _=>by rw[cK (Nat.ne_of_lt (Nat.lt_of_lt_of_le (Heap.lt_size q) hp))];exact n
 there:=fun b u q _=>⟨u,k b u q⟩
 tups:=fun b xs q=>by rw[cK (aj q hn)];exact q
 frzs:=fun b u xs q=>by rw[cK (aj q hn)];exact q
 tbls:=fun b ps q=>⟨#[],by rw[cK (aj q hn),q];simp⟩
theorem Un.write(mu:GP (H x))(he:e=x\/H e=some (.own x))(k:∀ b u,b ≠ e->h.get? b=some u->h'.get? b=some u)(heo:∃ u,h'.get? e=some u):Un fs ex H (upd H x o) h h':=by
 have hx:∀ b,H b=none->b ≠ x:=fun b n z=>by subst z;rw[n] at mu;exact mu
 have hb:∀ b,H b=none->b ≠ e:=fun b n z=>by
  subst z
  rcases he with r|r
  ·exact hx b n r
  ·rw[n] at r;cases r
 have hm:∀ b u,H b=some u -> ¬ GP (some u)->b ≠ x:=fun b u q nm z=>by subst z;rw[q] at mu;exact nm mu
 refine⟨fun b u q n _ _=>k b u (hb b n) q,fun b u q n _ _=>⟨u.slots,k b u (hb b n) q⟩,fun b u q n _=>by rw[cK (hx b n)];exact n,fun b u q _=>?_,
  fun b xs q=>by rw[cK (hm b _ q fun z=>z)];exact q,fun b u xs q=>by rw[cK (hm b _ q fun z=>z)];exact q,fun b ps q=>⟨#[],by rw[cK (hm b _ q fun z=>z),q];simp⟩⟩
 by_cases hbe:b=e
 ·subst hbe;exact heo
 ·exact⟨u,k b u hbe q⟩
end
def GV(h:Heap)(H:Hp):List Addr:=(List.range h.objs.size).filter fun a=>(H a).isSome
def oW(h:Heap)(H:Hp):Heap:=PySem.W.hideAll h (GV h H)
theorem xY(h:Heap)(H:Hp):(oW h H).objs.size=h.objs.size:=PySem.W.hideAll_size _ _
theorem yw{h:Heap}{H:Hp}{b:Addr}{o:Obj}(e:h.get? b=some o)(n:H b=none):(oW h H).get? b=some o :=
 PySem.W.hideAll_get _ e fun hm=>by
  have q:(H b).isSome=true:=(List.mem_filter.mp hm).2
  rw[n] at q;simp at q
theorem CZ{h:Heap}{H:Hp}{b:Addr}{o:Obj}(e:(oW h H).get? b=some o):h.get? b=some o/\H b=none:=by
 have e':h.get? b=some o:=PySem.W.of_hideAll (GV h H) e
 refine⟨e',?_⟩
 cases q:H b with
 | none=>rfl
 | some x =>
  have hm:b ∈ GV h H:=List.mem_filter.mpr ⟨List.mem_range.mpr (Heap.lt_size e'),by simp[q]⟩
  have z:(oW h H).get? b=none:=PySem.W.hideAll_none (GV h H) hm
  rw[z] at e;cases e
def BP(g h:Heap)(L:Addr):List (Addr × Obj):=(List.range h.objs.size).filterMap fun a=>if a=L\/(g.get? a).isSome=true then none else (h.get? a).map fun o=>(a,o)
def rest(g h:Heap)(L d:Addr):List (Addr × Obj):=(BP g h L).filter fun p=>decide (p.1 ≠ d)
end L2
namespace L2
open PySem PySem.Spec PyProof.Rows
structure Mod (K:W.Frag)(mg:Str->Option Value)(base:Heap):Prop where
 kin:K.In base
 glob:base.Ns mainGlobals mg
 blt:∃ mb,base.Ns builtinsNs mb /\ ∀ x:Str,x ≠ "__name__" -> mb x=bootBuiltins x
 nolimit:base.NoLimit
structure Cx where
 prog:Program
 w:World
 K:W.Frag
 mg:Str->Option Value
 base:Heap
 A:Around
 N:List Str
 s₀:Shared
 H₀:Hp
 env:Env
 outer:List Env
 stack:List Env
 ex:List Addr
 fn:Str->Bool
 calm:Bool
 pn:List (Addr × Obj)
 xe:Value->Shared->Prop
def yo(l:List Env):List Addr:=l.filterMap (·.frame)
abbrev Cx.fs (X:Cx):List Addr:=yo X.outer
def Gv(sc:Scope)(x:Str):Prop:=sc.names.lookup x=some .local\/sc.names.lookup x=some .cell\/sc.names.lookup x=some .free
def A3(sc:Scope)(x:Str):Prop:=sc.names.lookup x=some .local\/sc.names.lookup x=some .cell
def G5(env:Env)(h:Heap)(m:Str->Option Value)(x:Str)(u:Value):Prop :=
 (env.kindOf x=some .local/\m x=some u)\/((env.kindOf x=some .cell\/env.kindOf x=some .free) /\ ∃ c,env.cells.lookup x=some c/\h.IsCell c (some u))
structure Cx.Ok (X:Cx):Prop where
 mod:Mod X.K X.mg X.base
 kind:X.env.scope.kind = .function
 glob:X.env.globals=mainGlobals
 blt:X.env.builtins=builtinsNs
 above:X.s₀.heap.objs.size<=X.env.locals
 inj:∀ x y c,X.env.cells.lookup x=some c->X.env.cells.lookup y=some c->x=y
 has:∀ x,(X.env.kindOf x=some .cell\/X.env.kindOf x=some .free) -> ∃ c,X.env.cells.lookup x=some c
 cab:∀ x c,X.fn x=true->X.env.cells.lookup x=some c->X.s₀.heap.objs.size<=c
 hd:X.calm=true->X.A.handled=none
 frames:X.A.frames=some X.stack
 stk:X.stack=X.outer\/(X.stack=X.env :: X.outer/\X.env.frame=some X.env.locals)
 exf:∀ b ∈ X.ex,b ≠ X.env.locals /\ ∀ x c,X.env.cells.lookup x=some c->c ≠ b
 bs:∀ b o,X.base.get? b=some o->X.s₀.heap.get? b=some o/\X.H₀ b=none
 bsz:X.base.objs.size<=X.s₀.heap.objs.size
 noex:∀ b o,X.base.get? b=some o->b ∉ X.ex
 exfs:∀ b ∈ X.ex,b ∉ X.fs
 funs:X.s₀.heap.FunFrames X.base X.outer
 frf:∀ b ∈ X.fs,X.H₀ b=none
structure aT (X:Cx)(pins:List (Addr × Obj))(σ:List (Option V))(H:Hp)(s:Shared):Prop where
 ok:X.Ok
 os:s.os=X.s₀.os
 bare:AllBare s.gens
 base:Un X.fs X.ex X.H₀ H X.s₀.heap s.heap
 loc:∃ m,s.heap.Ns X.env.locals m /\ ∀ (i:Nat)(x:Str)(v:V),X.N[i]? = some x->σ[i]? = some (some v)->Gv X.env.scope x -> ∃ u,cw v u/\G5 X.env s.heap m x u
 cell:∀ x c,X.env.cells.lookup x=some c -> ∃ v,s.heap.IsCell c v
 free:H X.env.locals=none
 freeC:∀ x c,X.env.cells.lookup x=some c->H c=none
 pin:∀ p ∈ X.pn ++ pins,s.heap.get? p.1=some p.2/\H p.1=none/\p.1 ≠ X.env.locals/\p.1 ∉ X.fs /\ ∀ v,p.2.data ≠ .cell v
 hok:ow X.prog X.w H s.heap
 len:σ.length=X.N.length
section
variable {X:Cx}{pins:List (Addr × Obj)}{σ:List (Option V)}{H H':Hp}{s:Shared}{h':Heap}
theorem Cx.Ok.nofr(ok:X.Ok){b:Addr}{o:Obj}(e:X.base.get? b=some o):b ∉ X.fs:=fun hb=>by
 have:=(ok.funs.mem hb).1
 rw[e] at this;cases this
theorem aT.bs(I:aT X pins σ H s):∀ b o,X.base.get? b=some o->s.heap.get? b=some o/\H b=none:=fun b o e =>
 ⟨I.base.keep b o (I.ok.bs b o e).1 (I.ok.bs b o e).2 (I.ok.nofr e) (I.ok.noex b o e),I.base.free b o (I.ok.bs b o e).1 (I.ok.bs b o e).2 (I.ok.noex b o e)⟩
theorem aT.bk(I:aT X pins σ H s):∀ b o,X.base.get? b=some o->s.heap.get? b=some o:=fun b o e=>(I.bs b o e).1
theorem aT.mod(I:aT X pins σ H s):Mod X.K X.mg X.base:=I.ok.mod
theorem aT.kIn(I:aT X pins σ H s):X.K.In s.heap:=I.ok.mod.kin.keeps I.bk
theorem aT.nolimit(I:aT X pins σ H s):s.heap.NoLimit:=I.ok.mod.nolimit.keeps I.bk
theorem aT.lt(I:aT X pins σ H s):X.env.locals<s.heap.objs.size:=let ⟨_,hn,_⟩:=I.loc;hn.lt
theorem aT.sz(I:aT X pins σ H s):X.s₀.heap.objs.size<=s.heap.objs.size:=Nat.le_trans I.ok.above (Nat.le_of_lt I.lt)
theorem aT.nofs(I:aT X pins σ H s) {a:Addr}(h:s.heap.objs.size<=a):a ∉ X.fs:=fun hb=>by
 obtain⟨_,o,ho,_⟩:=I.ok.funs.mem hb
 exact absurd (Nat.lt_of_lt_of_le (Heap.lt_size ho) (Nat.le_trans I.sz h)) (Nat.lt_irrefl _)
theorem aT.cne(I:aT X pins σ H s):∀ x c,X.env.cells.lookup x=some c->c ≠ X.env.locals:=fun x c e z=>by
 obtain⟨v,o,ho,hd⟩:=I.cell x c e
 obtain⟨m,⟨o',es,ep,ho',hd',_⟩,_⟩:=I.loc
 rw[z,ho'] at ho;cases ho;rw[hd'] at hd;cases hd
theorem aT.funs(I:aT X pins σ H s):s.heap.FunFrames X.base X.outer:=by
 have all:∀ (l:List Env),(∀ b ∈ yo l,b ∈ X.fs)->X.s₀.heap.FunFrames X.base l->s.heap.FunFrames X.base l:=by
  intro l
  induction l with
  | nil=>intro _ _;trivial
  | cons env r ih =>
   intro hs hl
   obtain⟨hk,⟨L,o,hf,hn,ho,hd⟩,hr⟩:=hl
   have hL:L ∈ X.fs:=hs L (by unfold yo;rw[List.filterMap_cons,hf];exact List.mem_cons_self)
   obtain⟨sl,e⟩:=I.base.slot L o ho (I.ok.frf L hL) hL fun z=>I.ok.exfs L z hL
   exact⟨hk,⟨L,_,hf,hn,e,hd⟩,ih (fun b hb=>hs b (by unfold yo;rw[List.filterMap_cons,hf];exact List.mem_cons_of_mem _ hb)) hr⟩
 exact all X.outer (fun _ hb=>hb) I.ok.funs
theorem aT.stack(I:aT X pins σ H s):s.heap.FunFrames X.base X.stack:=by
 rcases I.ok.stk with e|⟨e,hf⟩
 ·rw[e];exact I.funs
 ·rw[e]
  obtain⟨m,hn,_⟩:=I.loc
  refine .cons (by rw[I.ok.kind];decide) hf hn ?_ I.funs
  exact Heap.get?_none_of_le (Nat.le_trans I.ok.bsz I.ok.above)
theorem aT.stkSub(I:aT X pins σ H s):∀ b ∈ yo X.stack,b ∈ X.env.locals :: X.fs:=fun b hb=>by
 rcases I.ok.stk with e|⟨e,hf⟩
 ·rw[e] at hb;exact List.mem_cons_of_mem _ hb
 ·rw[e] at hb
  unfold yo at hb
  rw[List.filterMap_cons,hf] at hb
  exact hb
theorem aT.stkFree(I:aT X pins σ H s):∀ b ∈ yo X.stack,H b=none:=fun b hb=>by
 rcases List.mem_cons.mp (I.stkSub b hb) with e|hb
 ·rw[e];exact I.free
 ·obtain⟨_,o,ho,_⟩:=I.ok.funs.mem hb
  exact I.base.free b o ho (I.ok.frf b hb) fun z=>I.ok.exfs b z hb
theorem aT.step{g':Array GenState}{t':Nat}{d':Drawn}{ch:List Addr}(I:aT X pins σ H s)
  (hch:∀ b ∈ ch,(b ∈ X.ex\/X.s₀.heap.objs.size<=b)/\b ≠ X.env.locals/\(∀ x c,X.env.cells.lookup x=some c->c ≠ b) /\ ∀ p ∈ X.pn ++ pins,p.1 ≠ b)
  (keep:∀ b o,b ≠ X.env.locals->b ∉ X.fs->b ∉ ch->s.heap.get? b=some o->H b=none->h'.get? b=some o)
  (slot:∀ b o,b ≠ X.env.locals->b ∈ X.fs->b ∉ ch->s.heap.get? b=some o->H b=none -> ∃ sl,h'.get? b=some { o with slots:=sl })(free:∀ b o,b ∉ ch->s.heap.get? b=some o->H b=none->H' b=none)
  (there:∀ b o,b ∉ ch->s.heap.get? b=some o -> ∃ o',h'.get? b=some o')
  (tups:∀ b xs,H b=some (.tup xs)->H' b=some (.tup xs))(frzs:∀ b o u,H b=some (.frz o u)->H' b=some (.frz o u))(tbls:∀ b ps,H b=some (.tbl ps) -> ∃ more,H' b=some (.tbl (ps ++ more)))
  (ns:∀ m,s.heap.Ns X.env.locals m->h'.Ns X.env.locals m)(hok:ow X.prog X.w H' h')(hg:AllBare g') :
  aT X pins σ H' { s with heap:=h',gens:=g',drawn:=d',toks:=t' }:=by
 have neL:∀ b o,X.s₀.heap.get? b=some o->b ≠ X.env.locals:=fun b o e=>Nat.ne_of_lt (Nat.lt_of_lt_of_le (Heap.lt_size e) I.ok.above)
 have neC:∀ b o,X.s₀.heap.get? b=some o->b ∉ X.ex->b ∉ ch:=fun b o e hx hb=>by
  rcases (hch b hb).1 with z|z
  ·exact hx z
  ·exact absurd (Nat.lt_of_lt_of_le (Heap.lt_size e) z) (Nat.lt_irrefl _)
 have cellK:∀ x c,X.env.cells.lookup x=some c -> ∀ v,s.heap.IsCell c v->h'.IsCell c v:=fun x c e v ⟨o,ho,hd⟩=>by
  have nch:c ∉ ch:=fun z=>(hch c z).2.2.1 x c e rfl
  by_cases hc:c ∈ X.fs
  ·obtain⟨sl,q⟩:=slot c o (I.cne x c e) hc nch ho (I.freeC x c e)
   exact⟨_,q,hd⟩
  ·exact⟨o,keep c o (I.cne x c e) hc nch ho (I.freeC x c e),hd⟩
 refine⟨I.ok,I.os,hg,⟨fun b o e n hb hx=>?_,fun b o e n hb hx=>?_,fun b o e n hx=>?_,fun b o e hx=>?_,fun b xs e=>tups b xs (I.base.tups b xs e),fun b o xs e=>frzs b o xs (I.base.frzs b o xs e),fun b ps e=>?_⟩,?_,fun x c e=>?_,?_,fun x c e=>?_,fun p hp=>?_,hok,I.len⟩
 ·exact keep b o (neL b o e) hb (neC b o e hx) (I.base.keep b o e n hb hx) (I.base.free b o e n hx)
 ·obtain⟨sl,e1⟩:=I.base.slot b o e n hb hx
  obtain⟨sl',e2⟩:=slot b _ (neL b o e) hb (neC b o e hx) e1 (I.base.free b o e n hx)
  exact⟨sl',e2⟩
 ·obtain⟨o',e1⟩:=I.base.there b o e hx
  exact free b o' (neC b o e hx) e1 (I.base.free b o e n hx)
 ·obtain⟨o',e1⟩:=I.base.there b o e hx
  exact there b o' (neC b o e hx) e1
 ·obtain⟨m1,e1⟩:=I.base.tbls b ps e
  obtain⟨m2,e2⟩:=tbls b _ e1
  exact⟨m1 ++ m2,by rw[e2,Array.append_assoc]⟩
 ·obtain⟨m,hn,hl⟩:=I.loc
  refine⟨m,ns m hn,fun i x v e1 e2 e3=>?_⟩
  obtain⟨u,r,l⟩:=hl i x v e1 e2 e3
  refine⟨u,r,?_⟩
  rcases l with l|⟨k,c,e,z⟩
  ·exact .inl l
  ·exact .inr ⟨k,c,e,cellK x c e _ z⟩
 ·obtain⟨v,z⟩:=I.cell x c e
  exact⟨v,cellK x c e v z⟩
 ·obtain⟨m,⟨o,_,_,ho,_⟩,_⟩:=I.loc
  exact free _ o (fun z=>(hch _ z).2.1 rfl) ho I.free
 ·obtain⟨v,o,ho,hd⟩:=I.cell x c e
  exact free c o (fun z=>(hch c z).2.2.1 x c e rfl) ho (I.freeC x c e)
 ·obtain⟨e,n,ne,nf,d⟩:=I.pin p hp
  have nch:p.1 ∉ ch:=fun z=>(hch p.1 z).2.2.2 p hp rfl
  exact⟨keep p.1 p.2 ne nf nch e n,free p.1 p.2 nch e n,ne,nf,d⟩
theorem aT.un{t':Nat}(I:aT X pins σ H s)(u:Un X.fs [] H H' s.heap h')(hok:ow X.prog X.w H' h'):aT X pins σ H' { s with heap:=h',toks:=t' }:=by
 obtain⟨m,⟨o,es,ep,ho,r⟩,_⟩:=id I.loc
 obtain⟨sl,hL⟩:=u.any ho I.free (by simp)
 exact I.step (g':=s.gens) (d':=s.drawn) (ch:=[]) (fun _ z=>nomatch z) (fun b o _ hb _ e n=>u.keep b o e n hb (by simp)) (fun b o _ hb _ e n=>u.slot b o e n hb (by simp)) (fun b o _ e n=>u.free b o e n (by simp)) (fun b o _ e=>u.there b o e (by simp)) u.tups u.frzs u.tbls (fun m' hm=>by
  obtain⟨o',es',ep',ho',r'⟩:=hm
  rw[ho] at ho';cases ho'
  exact⟨_,es',ep',hL,r'⟩) hok I.bare
theorem aT.call{g':Array GenState}{t':Nat}{d':Drawn}{ch:List Addr}(I:aT X pins σ H s)(u:Un (yo X.stack) ch H H' s.heap h')(hok:ow X.prog X.w H' h')(hg:AllBare g')
  (hch:∀ b ∈ ch,(b ∈ X.ex\/X.s₀.heap.objs.size<=b)/\b ≠ X.env.locals/\(∀ x c,X.env.cells.lookup x=some c->c ≠ b) /\ ∀ p ∈ X.pn ++ pins,p.1 ≠ b) :
  aT X pins σ H' { s with heap:=h',gens:=g',drawn:=d',toks:=t' }:=by
 obtain⟨m,⟨o,es,ep,ho,r⟩,_⟩:=id I.loc
 obtain⟨sl,hL⟩:=u.any ho I.free fun z=>(hch _ z).2.1 rfl
 exact I.step (ch:=ch) hch (fun b o hL hb hc e n=>u.keep b o e n (fun z=>(List.mem_cons.mp (I.stkSub b z)).elim hL hb) hc) (fun b o _ _ hc e n=>u.any e n hc) (fun b o hc e n=>u.free b o e n hc) (fun b o hc e=>u.there b o e hc) u.tups u.frzs u.tbls (fun m' hm=>by
  obtain⟨o',es',ep',ho',r'⟩:=hm
  rw[ho] at ho';cases ho'
  exact⟨_,es',ep',hL,r'⟩) hok hg
theorem aT.turned{t':Nat}{it:Addr}(I:aT X pins σ H s)(k:∀ b o,b ≠ it->s.heap.get? b=some o->h'.get? b=some o)(hn:H it=none)(hL:it ≠ X.env.locals)
  (h1:it ∈ X.ex\/X.s₀.heap.objs.size<=it)(h2:∀ x c,X.env.cells.lookup x=some c->c ≠ it)(h3:∀ p ∈ X.pn ++ pins,p.1 ≠ it):aT X pins σ H { s with heap:=h',toks:=t' }:=by
 have nit:∀ b u,H b=some u->b ≠ it:=fun b u e z=>by rw[z,hn] at e;cases e
 refine I.step (g':=s.gens) (d':=s.drawn) (ch:=[it]) (fun b hb=>?_) (fun b o _ _ hc e _=>k b o (fun z=>hc (by simp[z])) e) (fun b o _ _ hc e _=>⟨o.slots,k b o (fun z=>hc (by simp[z])) e⟩) (fun _ _ _ _ n=>n)
  (fun b o hc e=>⟨o,k b o (fun z=>hc (by simp[z])) e⟩) (fun _ _ e=>e) (fun _ _ _ e=>e) (fun b ps e=>⟨#[],by rw[e];simp⟩) (fun m hm=>?_) (fun b u e=>?_) I.bare
 ·have e:b=it:=by simpa using hb
  subst e
  exact⟨h1,hL,h2,h3⟩
 ·obtain⟨o,es,ep,ho,r⟩:=hm
  exact⟨o,es,ep,k _ o (Ne.symm hL) ho,r⟩
 ·refine (I.hok b u e).stay (fun c v hc q=>k c v ?_ q) (fun _ q=>q) fun _ _ q=>q
  rcases hc with z|z
  ·rw[z];exact nit b u e
  ·exact nit c _ z
theorem aT.tok(I:aT X pins σ H s)(t:Nat):aT X pins σ H { s with toks:=t }:=I.un (h':=s.heap) (t':=t) Un.refl I.hok
theorem aT.kept{t':Nat}(I:aT X pins σ H s)(k:∀ b u,s.heap.get? b=some u->h'.get? b=some u):aT X pins σ H { s with heap:=h',toks:=t' }:=I.un (Un.kept k) (I.hok.kept k)
theorem aT.laid{a:Addr}{o:HO}{t':Nat}(I:aT X pins σ H s)(k:∀ b u,s.heap.get? b=some u->h'.get? b=some u)(hp:s.heap.objs.size<=a)(new:fc X.prog X.w (upd H a o) h' a o) :
  aT X pins σ (upd H a o) { s with heap:=h',toks:=t' }:=I.un (Un.laid k hp (I.hok.fresh hp)) (I.hok.laid k hp new)
theorem aT.write{x e:Addr}{o:HO}{t':Nat}(I:aT X pins σ H s)(mu:GP (H x))(he:e=x\/H e=some (.own x))(k:∀ b u,b ≠ e->s.heap.get? b=some u->h'.get? b=some u)(heo:∃ u,h'.get? e=some u)
  (new:fc X.prog X.w (upd H x o) h' x o):aT X pins σ (upd H x o) { s with heap:=h',toks:=t' }:=I.un (Un.write mu he k heo) (I.hok.write mu he k heo new)
theorem aT.pins_of{pins':List (Addr × Obj)}(I:aT X pins σ H s)(h:∀ p ∈ pins',s.heap.get? p.1=some p.2/\H p.1=none/\p.1 ≠ X.env.locals/\p.1 ∉ X.fs /\ ∀ v,p.2.data ≠ .cell v):aT X pins' σ H s :=
 ⟨I.ok,I.os,I.bare,I.base,I.loc,I.cell,I.free,I.freeC,fun p hp=>(List.mem_append.mp hp).elim (fun z=>I.pin p (List.mem_append_left _ z)) (h p),I.hok,I.len⟩
theorem um{N:List Str}(hN:N.Nodup) {i j:Nat}{x:Str}(a:N[i]? = some x)(b:N[j]? = some x):i=j:=by
 obtain⟨h1,e1⟩:=List.getElem?_eq_some_iff.mp a
 obtain⟨h2,e2⟩:=List.getElem?_eq_some_iff.mp b
 exact (List.getElem_inj hN).mp (e1.trans e2.symm)
theorem qR{M:Model}{A:Around}{E:Value->Shared->Prop}{i:Nat}{x:Str}{v:V}{u:Value}{Q:Unit->Shared->Prop}(I:aT X pins σ H s)(hN:X.N.Nodup)(hi:X.N[i]? = some x)(hx:A3 X.env.scope x)(r:cw v u)
  (h:∀ s',aT X pins (σ.set i (some v)) H s'->(∃ a,Heap.SameBut a s.heap s'.heap/\(a=X.env.locals\/X.env.cells.lookup x=some a))->Q () s')(hf:X.fn x=true\/X.env.scope.names.lookup x=some .local:=by first|exact .inl rfl|exact .inr rfl|assumption):wpAny M A (storeName X.env x u) Q E s:=by
 obtain⟨m,hn,hl⟩:=id I.loc
 have hcls:(X.env.scope.kind == .class || (X.env.scope.kind == .module && X.env.locals != X.env.globals))=false:=by rw[I.ok.kind];rfl
 have hiσ:i<σ.length:=by rw[I.len];exact (List.getElem?_eq_some_iff.mp hi).1
 have cne:=I.cne
 have tracked:∀ {a:Addr}{h':Heap},(∃ o,s.heap.get? a=some o/\H a=none)->Heap.SameBut a s.heap h'->ow X.prog X.w H h':=fun {a h'} ha hs b ob e=>by
  obtain⟨_,_,hfree⟩:=ha
  refine (I.hok b ob e).stay (fun c w' hc q=>(hs.2 c ?_).trans q) (fun _ q=>q) fun _ _ q=>q
  rintro rfl
  rcases hc with rfl|hc
  ·rw[hfree] at e;cases e
  ·rw[hfree] at hc;cases hc
 rcases hx with hk|hk
 ·refine wpAny_storeName_local hk hn (fun h' hn' hs=>?_) hcls
  obtain⟨oL,_,_,hoL,_⟩:=id hn
  refine h _ ⟨I.ok,I.os,I.bare,⟨fun b o e n hb hx=>?_,fun b o e n hb hx=>?_,I.base.free,fun b o e hx=>?_,I.base.tups,I.base.frzs,I.base.tbls⟩,⟨_,hn',fun j y v' e1 e2 e3=>?_⟩,fun y c e=>?_,I.free,I.freeC,fun p hp=>?_,tracked ⟨oL,hoL,I.free⟩ hs,by simpa using I.len⟩ ⟨_,hs,.inl rfl⟩
  ·exact (hs.2 b (Nat.ne_of_lt (Nat.lt_of_lt_of_le (Heap.lt_size e) I.ok.above))).trans (I.base.keep b o e n hb hx)
  ·obtain⟨sl,e1⟩:=I.base.slot b o e n hb hx
   exact⟨sl,(hs.2 b (Nat.ne_of_lt (Nat.lt_of_lt_of_le (Heap.lt_size e) I.ok.above))).trans e1⟩
  ·obtain⟨o',e1⟩:=I.base.there b o e hx
   exact⟨o',(hs.2 b (Nat.ne_of_lt (Nat.lt_of_lt_of_le (Heap.lt_size e) I.ok.above))).trans e1⟩
  ·by_cases hj:j=i
   ·subst hj
    rw[hi] at e1;cases e1
    rw[List.getElem?_set_self hiσ] at e2
    cases e2
    exact⟨u,r,.inl ⟨hk,by simp⟩⟩
   ·rw[List.getElem?_set_ne (Ne.symm hj)] at e2
    obtain⟨u',r',q⟩:=hl j y v' e1 e2 e3
    refine⟨u',r',?_⟩
    rcases q with ⟨k,e⟩|⟨k,c,e,z⟩
    ·refine .inl ⟨k,?_⟩
     have:y ≠ x:=fun e=>hj (um hN e1 (e ▸ hi))
     simp[this,e]
    ·exact .inr ⟨k,c,e,z.sameBut hs (cne y c e)⟩
  ·obtain⟨w',z⟩:=I.cell y c e
   exact⟨w',z.sameBut hs (cne y c e)⟩
  ·obtain⟨e,n,ne,nf,d⟩:=I.pin p hp
   exact⟨(hs.2 p.1 ne).trans e,n,ne,nf,d⟩
 ·have hfn:X.fn x=true:=by
   rcases hf with z|z
   ·exact z
   ·rw[z] at hk;cases hk
  obtain⟨c,hc⟩:=I.ok.has x (.inl hk)
  obtain⟨w',z⟩:=I.cell x c hc
  refine wpAny_storeName_cell I.ok.kind hk hc z (fun h' hc' hs=>?_)
  obtain⟨oc,hoc,hocd⟩:=id z
  refine h { s with heap:=h' } ⟨I.ok,I.os,I.bare,⟨fun b o e n hb hx=>?_,fun b o e n hb hx=>?_,I.base.free,fun b o e hx=>?_,I.base.tups,I.base.frzs,I.base.tbls⟩,⟨m,hn.sameBut hs (Ne.symm (cne x c hc)),fun j y v' e1 e2 e3=>?_⟩,fun y c' e=>?_,I.free,I.freeC,fun p hp=>?_,tracked ⟨oc,hoc,I.freeC x c hc⟩ hs,by simpa using I.len⟩ ⟨c,hs,.inr hc⟩
  ·exact (hs.2 b (Nat.ne_of_lt (Nat.lt_of_lt_of_le (Heap.lt_size e) (I.ok.cab x c hfn hc)))).trans (I.base.keep b o e n hb hx)
  ·obtain⟨sl,e1⟩:=I.base.slot b o e n hb hx
   exact⟨sl,(hs.2 b (Nat.ne_of_lt (Nat.lt_of_lt_of_le (Heap.lt_size e) (I.ok.cab x c hfn hc)))).trans e1⟩
  ·obtain⟨o',e1⟩:=I.base.there b o e hx
   exact⟨o',(hs.2 b (Nat.ne_of_lt (Nat.lt_of_lt_of_le (Heap.lt_size e) (I.ok.cab x c hfn hc)))).trans e1⟩
  ·by_cases hj:j=i
   ·subst hj
    rw[hi] at e1;cases e1
    rw[List.getElem?_set_self hiσ] at e2
    cases e2
    exact⟨u,r,.inr ⟨.inl hk,c,hc,hc'⟩⟩
   ·rw[List.getElem?_set_ne (Ne.symm hj)] at e2
    obtain⟨u',r',q⟩:=hl j y v' e1 e2 e3
    refine⟨u',r',?_⟩
    rcases q with q|⟨k,c',e,z'⟩
    ·exact .inl q
    ·refine .inr ⟨k,c',e,z'.sameBut hs ?_⟩
     rintro rfl
     exact hj (um hN e1 (I.ok.inj _ _ _ e hc ▸ hi))
  ·by_cases hcc:c'=c
   ·subst hcc;exact⟨_,hc'⟩
   ·obtain⟨w2,z2⟩:=I.cell y c' e
    exact⟨w2,z2.sameBut hs hcc⟩
  ·obtain⟨e,n,ne,nf,d⟩:=I.pin p hp
   refine⟨(hs.2 p.1 ?_).trans e,n,ne,nf,d⟩
   intro q
   rw[q,hoc] at e
   have q':oc=p.2:=Option.some.inj e
   exact d w' (by rw[<- q'];exact hocd)
theorem gr{M:Model}{A:Around}{E:Value->Shared->Prop}{i:Nat}{x:Str}{v:V}{u:Value}{Q:Unit->Shared->Prop}(I:aT X pins σ H s)(hN:X.N.Nodup)(hi:X.N[i]? = some x)(hx:A3 X.env.scope x)(r:cw v u)
  (h:∀ s',aT X pins (σ.set i (some v)) H s'->Q () s')(hf:X.fn x=true\/X.env.scope.names.lookup x=some .local:=by first|exact .inl rfl|exact .inr rfl|assumption):wpAny M A (storeName X.env x u) Q E s :=
 qR I hN hi hx r (fun s' I' _=>h s' I') hf
theorem aT.call'{s':Shared}{ch:List Addr}(I:aT X pins σ H s)(ho:s'.os=s.os)(u:Un (yo X.stack) ch H H' s.heap s'.heap)(hok:ow X.prog X.w H' s'.heap)(hg:AllBare s'.gens)
  (hch:∀ b ∈ ch,(b ∈ X.ex\/X.s₀.heap.objs.size<=b)/\b ≠ X.env.locals/\(∀ x c,X.env.cells.lookup x=some c->c ≠ b) /\ ∀ p ∈ X.pn ++ pins,p.1 ≠ b):aT X pins σ H' s':=by
 obtain⟨h',g',d',t',o'⟩:=s'
 have e:o'=s.os:=ho
 subst e
 exact I.call (g':=g') (t':=t') (d':=d') u hok hg hch
end
abbrev XK:=Value->Option Addr->Hp->Prop
abbrev St:=List (Option V)
abbrev VK:=V->Hp->Prop
abbrev TE:=St->Hp->VK->Prop
abbrev TT:=St->Hp->(Bool->Hp->Prop)->Prop
abbrev TA:=St->Hp->(List V->Hp->Prop)->Prop
structure m4 where
 nx:St->Hp->Prop
 rt:VK
 bk:St->Hp->Prop:=fun _ _=>False
 ct:St->Hp->Prop:=fun _ _=>False
abbrev TS:=m4->St->Hp->Prop
def EP(X:Cx)(pins:List (Addr × Obj))(σ:St)(Q:VK)(u:Value)(s':Shared):Prop:=∃ v H',aT X pins σ H' s'/\cw v u/\Q v H'
def TP(X:Cx)(pins:List (Addr × Obj))(σ:St)(Q:Bool->Hp->Prop)(b:Bool)(s':Shared):Prop:=∃ H',aT X pins σ H' s'/\Q b H'
def AP(X:Cx)(pins:List (Addr × Obj))(σ:St)(Q:List V->Hp->Prop)(us:List Value)(s':Shared):Prop:=∃ vs H',aT X pins σ H' s'/\bQ vs us/\Q vs H'
def SP(X:Cx)(pins:List (Addr × Obj))(D:m4)(f:Flow)(s':Shared):Prop :=
 match f with
 | .next=>∃ σ' H',aT X pins σ' H' s'/\D.nx σ' H'
 | .brk=>∃ σ' H',aT X pins σ' H' s'/\D.bk σ' H'
 | .cont=>∃ σ' H',aT X pins σ' H' s'/\D.ct σ' H'
 | .ret u=>∃ v σ' H',aT X pins σ' H' s'/\cw v u/\D.rt v H'
def PE(X:Cx)(e:Expr)(t:TE):Prop :=
 ∀ (pins:List (Addr × Obj))(s:Shared)(σ:St)(H:Hp)(Q:VK),aT X pins σ H s->t σ H Q->wpAny (model X.prog X.w) X.A (eval e X.env) (EP X pins σ Q) X.xe s
def PT(X:Cx)(e:Expr)(t:TT):Prop :=
 ∀ (pins:List (Addr × Obj))(s:Shared)(σ:St)(H:Hp)(Q:Bool->Hp->Prop),aT X pins σ H s->t σ H Q->wpAny (model X.prog X.w) X.A (isTrue e X.env (eval e X.env)) (TP X pins σ Q) X.xe s
def PW(X:Cx)(e:Expr)(t:TT):Prop :=
 ∀ (whole:Sem Value)(pins:List (Addr × Obj))(s:Shared)(σ:St)(H:Hp)(Q:Bool->Hp->Prop),aT X pins σ H s->t σ H Q->wpAny (model X.prog X.w) X.A (isTrue e X.env whole) (TP X pins σ Q) X.xe s
theorem PW.pt{X:Cx}{e:Expr}{t:TT}(h:PW X e t):PT X e t:=h _
def PA(X:Cx)(es:List Expr)(t:TA):Prop :=
 ∀ (pos:Pos)(pins:List (Addr × Obj))(s:Shared)(σ:St)(H:Hp)(Q:List V->Hp->Prop),aT X pins σ H s->t σ H Q->wpAny (model X.prog X.w) X.A (spliced (backTo pos (starEach es X.env))) (AP X pins σ Q) X.xe s
def PS(X:Cx)(st:Stmt)(t:TS):Prop :=
 ∀ (pins:List (Addr × Obj))(s:Shared)(σ:St)(H:Hp)(D:m4),aT X pins σ H s->t D σ H->wpAny (model X.prog X.w) X.A (exec st X.env) (SP X pins D) X.xe s
def ux(X:Cx)(st:List Stmt)(t:TS):Prop :=
 ∀ (pins:List (Addr × Obj))(s:Shared)(σ:St)(H:Hp)(D:m4),aT X pins σ H s->t D σ H->wpAny (model X.prog X.w) X.A (execs st X.env) (SP X pins D) X.xe s
theorem dE{α:Type}{t:Sem α}{Q Q':α->Shared->Prop}{M:Model}{A:Around}{E:Value->Shared->Prop}{s:Shared}(h:wpAny M A t Q E s)(hQ:∀ a s,Q a s->Q' a s):wpAny M A t Q' E s:=wpAny_mono h hQ fun _ _ x=>x
end L2
namespace L2
open PySem PySem.Spec PyProof.Rows
section
variable {X:Cx}
def tVar(i:Nat):TE:=fun σ H Q=>∃ v,σ[i]? = some (some v)/\Q v H
def tC(v:V):TE:=fun _ H Q=>Q v H
theorem EB{i:Nat}{x:Str}{pos:Pos}(hN:X.N[i]? = some x)(hv:Gv X.env.scope x)(hd:(x == ("__debug__" : Str))=false:=by decide) (hcd:(x == ("__classdict__" : Str))=false:=by decide):PE X (.Name x pos) (tVar i):=by
 intro pins s σ H Q I h
 obtain⟨v,e,h⟩:=h
 obtain⟨m,hn,hl⟩:=I.loc
 obtain⟨u,r,l⟩:=hl i x v hN e hv
 have fin:EP X pins σ Q u s:=⟨v,H,I,r,h⟩
 rcases l with ⟨hk,hm⟩|⟨hk,c,hc,hcell⟩
 ·exact wpAny_Name (wpAny_loadName_local I.ok.kind hk hn hm fin) hd
 ·rcases hk with hk|hk
  ·exact wpAny_Name (wpAny_loadName_cell I.ok.kind hk hc hcell fin) hd
  ·exact wpAny_Name (wpAny_loadName_free I.ok.kind hk hc hcell fin hcd) hd
theorem DY {i j pos}:PE X (.Constant (.int i) j pos) (tC (.int i)):=fun _ _ _ H _ I h=>wpAny_Constant_int ⟨.int i,H,I.tok _,⟨_,rfl⟩,h⟩
theorem F6 {b j pos}:PE X (.Constant (.bool b) j pos) (tC (.bl b)):=fun _ _ _ H _ I h=>Constant_bool ⟨.bl b,H,I,rfl,h⟩
theorem DC {j pos}:PE X (.Constant .none j pos) (tC .non):=fun _ _ _ H _ I h=>Constant_none ⟨.non,H,I,rfl,h⟩
theorem DG {x j pos}:PE X (.Constant (.str x) j pos) (tC (.str x)):=fun _ _ _ H _ I h=>Calls.Constant_str ⟨.str x,H,I.tok _,⟨_,rfl⟩,h⟩
def Gl(X:Cx)(x:Str):Prop:=X.env.kindOf x=some .globalImplicit
theorem wI{E:Value->Shared->Prop}{pins:List (Addr × Obj)}{s:Shared}{σ:St}{H:Hp}{x:Str}{u:Value}{pos:Pos}{Q:Value->Shared->Prop}(I:aT X pins σ H s)(hg:Gl X x)(hm:X.mg x=some u)(h:Q u s)
  (hd:(x == ("__debug__" : Str))=false:=by decide):wpAny (model X.prog X.w) X.A (eval (.Name x pos) X.env) Q E s :=
 Calls.Name_function_global I.ok.kind hg (Calls.loadGlobal_global (by rw[I.ok.glob];exact I.mod.glob.keeps I.bk) hm h) hd
theorem jG{E:Value->Shared->Prop}{pins:List (Addr × Obj)}{s:Shared}{σ:St}{H:Hp}{x:Str}{u:Value}{pos:Pos}{Q:Value->Shared->Prop}(I:aT X pins σ H s)(hg:Gl X x)(hm:X.mg x=none)(hv:bootBuiltins x=some u)(h:Q u s)
  (hn:x ≠ "__name__":=by decide) (hd:(x == ("__debug__" : Str))=false:=by decide):wpAny (model X.prog X.w) X.A (eval (.Name x pos) X.env) Q E s:=by
 obtain⟨mb,h1,h2⟩:=I.mod.blt
 exact Calls.Name_function_global I.ok.kind hg (Calls.loadGlobal_builtin (by rw[I.ok.glob];exact I.mod.glob.keeps I.bk) hm (by rw[I.ok.blt];exact h1.keeps I.bk) ((h2 x hn).trans hv) h) hd
theorem BU{x:Str}{v:V}{u:Value}{pos:Pos}(hg:Gl X x)(hm:X.mg x=some u)(r:cw v u)(hd:(x == ("__debug__" : Str))=false:=by decide):PE X (.Name x pos) (tC v) :=
 fun _ _ _ H _ I h=>wI I hg hm ⟨v,H,I,r,h⟩ hd
theorem BV{x:Str}{v:V}{u:Value}{pos:Pos}(hg:Gl X x)(hm:X.mg x=none)(hv:bootBuiltins x=some u)(r:cw v u)(hn:x ≠ "__name__":=by decide) (hd:(x == ("__debug__" : Str))=false:=by decide):PE X (.Name x pos) (tC v) :=
 fun _ _ _ H _ I h=>jG I hg hm hv ⟨v,H,I,r,h⟩ hn hd
variable {a b:Expr}{ta tb:TE}{pos:Pos}
def tB(t:TE):TT:=fun σ H Q=>t σ H fun x H1=>∃ c,x = .bl c/\Q c H1
theorem Dx{e:Expr}{t:TE}(h:PE X e t)(he:∀ whole,isTrue e X.env whole=(do let v <- whole;standAt e.pos;holding [v] (truthy v)):=by intro _;rfl):PT X e (tB t):=by
 intro pins s σ H Q I hw
 refine isTrue_plain (dE (h pins s σ H _ I hw) fun v s1 ⟨x,H1,I1,r1,q1⟩=>?_) (he _)
 obtain⟨d,rfl,q⟩:=q1
 cases r1
 exact wpAny_truthy_bool ⟨H1,I1,q⟩
variable {tA tB':TT}{rest:List Expr}
def E7(t u:TT):TT:=fun σ H Q=>t σ H fun c H1=>if c=true then u σ H1 Q else Q false H1
def G7(t u:TT):TT:=fun σ H Q=>t σ H fun c H1=>if c=true then Q true H1 else u σ H1 Q
def EL(t:TT):TT:=fun σ H Q=>t σ H fun c H1=>Q (!c) H1
theorem BS(ha:PT X a tA):PW X (.BoolOp .And [a] pos) tA:=by
 intro wh pins s σ H Q I h
 refine isTrue_and (dE (ha pins s σ H Q I h) fun c s1 e=>?_)
 cases c with
 | true=>exact isTrue_and_nil e
 | false=>exact e
theorem Ec(ha:PT X a tA):PW X (.BoolOp .Or [a] pos) tA:=by
 intro wh pins s σ H Q I h
 refine isTrue_or (dE (ha pins s σ H Q I h) fun c s1 e=>?_)
 cases c with
 | false=>exact isTrue_or_nil e
 | true=>exact e
theorem EF(ha:PT X a tA)(hb:PW X (.BoolOp .And (b :: rest) pos) tB'):PW X (.BoolOp .And (a :: b :: rest) pos) (E7 tA tB'):=by
 intro wh pins s σ H Q I h
 refine isTrue_and (dE (ha pins s σ H _ I h) fun c s1 ⟨H1,I1,q1⟩=>?_)
 cases c with
 | true=>exact hb wh pins s1 σ H1 Q I1 q1
 | false=>exact⟨H1,I1,q1⟩
theorem Ge(ha:PT X a tA)(hb:PW X (.BoolOp .Or (b :: rest) pos) tB'):PW X (.BoolOp .Or (a :: b :: rest) pos) (G7 tA tB'):=by
 intro wh pins s σ H Q I h
 refine isTrue_or (dE (ha pins s σ H _ I h) fun c s1 ⟨H1,I1,q1⟩=>?_)
 cases c with
 | true=>exact⟨H1,I1,q1⟩
 | false=>exact hb wh pins s1 σ H1 Q I1 q1
theorem ED(ha:PT X a tA):PT X (.UnaryOp .Not a pos) (EL tA):=by
 intro pins s σ H Q I h
 exact isTrue_not (ha pins s σ H (fun c H1=>Q (!c) H1) I h)
def vS(ta tb:TE):TE:=fun σ H Q=>ta σ H fun x H1=>∃ c,x = .bl c/\if c=true then tb σ H1 Q else Q (.bl false) H1
def Bj(ta tb:TE):TE:=fun σ H Q=>ta σ H fun x H1=>∃ c,x = .bl c/\if c=true then Q (.bl true) H1 else tb σ H1 Q
def vP(ta:TE):TE:=fun σ H Q=>ta σ H fun x H1=>∃ c,x = .bl c/\Q (.bl (!c)) H1
theorem DW {op}{t:TE}(h:PE X a t):PE X (.BoolOp op [a] pos) t:=fun pins s σ H Q I hw=>BoolOp_one (h pins s σ H Q I hw)
theorem Fg(ha:PE X a ta)(hb:PE X (.BoolOp .And (b :: rest) pos) tb):PE X (.BoolOp .And (a :: b :: rest) pos) (vS ta tb):=by
 intro pins s σ H Q I h
 refine BoolOp_and (dE (ha pins s σ H _ I h) fun v s1 ⟨x,H1,I1,r1,q1⟩=>?_)
 obtain⟨c,rfl,q1⟩:=q1
 cases r1
 refine wpAny_truthy_bool ?_
 cases c with
 | true=>exact hb pins s1 σ H1 Q I1 q1
 | false=>exact⟨.bl false,H1,I1,rfl,q1⟩
theorem Gp(ha:PE X a ta)(hb:PE X (.BoolOp .Or (b :: rest) pos) tb):PE X (.BoolOp .Or (a :: b :: rest) pos) (Bj ta tb):=by
 intro pins s σ H Q I h
 refine BoolOp_or (dE (ha pins s σ H _ I h) fun v s1 ⟨x,H1,I1,r1,q1⟩=>?_)
 obtain⟨c,rfl,q1⟩:=q1
 cases r1
 refine wpAny_truthy_bool ?_
 cases c with
 | false=>exact hb pins s1 σ H1 Q I1 q1
 | true=>exact⟨.bl true,H1,I1,rfl,q1⟩
theorem Fw(ha:PE X a ta):PE X (.UnaryOp .Not a pos) (vP ta):=by
 intro pins s σ H Q I h
 refine UnaryOp_ (dE (ha pins s σ H _ I h) fun v s1 ⟨x,H1,I1,r1,q1⟩=>?_)
 obtain⟨c,rfl,q1⟩:=q1
 cases r1
 exact not_of (wpAny_truthy_bool ⟨.bl (!c),H1,I1,rfl,q1⟩)
def Hk(t:TT)(ta tb:TE):TE:=fun σ H Q=>t σ H fun c H1=>if c=true then ta σ H1 Q else tb σ H1 Q
theorem Av{c:Expr}(hc:PT X c tA)(ha:PE X a ta)(hb:PE X b tb):PE X (.IfExp c a b pos) (Hk tA ta tb):=by
 intro pins s σ H Q I h
 refine wpAny_IfExp (dE (hc pins s σ H _ I h) fun d s1 ⟨H1,I1,q1⟩=>?_)
 cases d with
 | true=>exact ha pins s1 σ H1 Q I1 q1
 | false=>exact hb pins s1 σ H1 Q I1 q1
end
end L2
namespace L2
open PySem PySem.Spec PyProof.Rows
def jQ(K:W.Frag)(H:Hp)(a:Addr)(xs:List V):Prop :=
 Rd H a (.lst xs) \/
  ∃ (o:Obj)(its:Array Value)(n:Nat),K.lookup a=some o/\o.cls = .type "list" /\ o.dict=none/\o.data = .seq its n/\its.size<=sizeLine/\bQ xs its.toList
def qj(K:W.Frag)(H:Hp)(a:Addr)(xs:List V):Prop :=
 Rd H a (.tup xs) \/
  ∃ (o:Obj)(its:Array Value)(n:Nat),K.lookup a=some o/\o.cls = .type "tuple" /\ o.data = .seq its n/\its.size<=sizeLine/\bQ xs its.toList
def GH:Value->Option V
 | .none=>some .non
 | .bool b=>some (.bl b)
 | .int i _=>some (.int i)
 | .str x _=>some (.str x)
 | .bytes b _=>some (.byt b)
 | .float b _=>some (.flt b)
 | .ref a=>some (.ref a)
 | .type n=>some (.ty n)
 | _=>none
theorem cw.abs{x:V}{u:Value}(r:cw x u):GH u=some x:=by
 cases x with
 | non=>cases r;rfl
 | bl _=>cases r;rfl
 | int _=>obtain⟨t,rfl⟩:=r;rfl
 | str _=>obtain⟨t,rfl⟩:=r;rfl
 | byt _=>obtain⟨t,rfl⟩:=r;rfl
 | flt _=>obtain⟨t,rfl⟩:=r;rfl
 | ref _=>cases r;rfl
 | ty _=>cases r;rfl
theorem cw.inj{x y:V}{u:Value}(r:cw x u)(q:cw y u):x=y:=Option.some.inj (r.abs.symm.trans q.abs)
theorem bQ.inj:∀{xs ys:List V}{us:List Value},bQ xs us->bQ ys us->xs=ys
 | _,_,_,.nil,.nil=>rfl
 | _,_,_,.cons r t,.cons r' t'=>by rw[r.inj r',bQ.inj t t']
section
variable {X:Cx}{pins:List (Addr × Obj)}{σ:St}{H:Hp}{s:Shared}{a:Addr}{xs ys:List V}
theorem jQ.of{K:W.Frag}(h:H a=some (.lst xs)):jQ K H a xs:=.inl (.inl h)
theorem qj.of{K:W.Frag}(h:H a=some (.tup xs)):qj K H a xs:=.inl (.inl h)
theorem aT.list(I:aT X pins σ H s)(h:jQ X.K H a xs):∃ its:List Value,bQ xs its/\PlainL s.heap a its.toArray/\xs.length<=sizeLine:=by
 rcases h with h|⟨o,its,n,hk,hc,hd,hs,hz,r⟩
 ·obtain⟨z,its,n,r,e⟩:=h.ok I.hok
  exact⟨its,r,⟨_,n,e,rfl,rfl,rfl⟩,z⟩
 ·refine⟨its.toList,r,⟨o,n,I.kIn a o hk,hc,hd,by simpa using hs⟩,?_⟩
  have e:=r.length
  simp only[Array.length_toList] at e
  walk_at"o"
theorem aT.tuple(I:aT X pins σ H s)(h:qj X.K H a xs):∃ its:List Value,bQ xs its/\IsTup s.heap a its.toArray/\xs.length<=sizeLine:=by
 rcases h with h|⟨o,its,n,hk,hc,hs,hz,r⟩
 ·obtain⟨z,its,r,p⟩:=h.ok I.hok
  exact⟨its,r,p,z⟩
 ·refine⟨its.toList,r,⟨o,I.kIn a o hk,hc,n,by simpa using hs⟩,?_⟩
  have e:=r.length
  simp only[Array.length_toList] at e
  walk_at"o"
theorem aT.list_inj(I:aT X pins σ H s)(h:jQ X.K H a xs)(h':jQ X.K H a ys):xs=ys:=by
 obtain⟨its,r,⟨o,n,e,_,_,d⟩,_⟩:=I.list h
 obtain⟨its',r',⟨o',n',e',_,_,d'⟩,_⟩:=I.list h'
 rw[e] at e';cases e'
 rw[d] at d'
 injection d' with d1 _
 have:its=its':=by simpa using congrArg Array.toList d1
 subst this
 exact r.inj r'
theorem aT.tuple_inj(I:aT X pins σ H s)(h:qj X.K H a xs)(h':qj X.K H a ys):xs=ys:=by
 obtain⟨its,r,⟨o,e,_,n,d⟩,_⟩:=I.tuple h
 obtain⟨its',r',⟨o',e',_,n',d'⟩,_⟩:=I.tuple h'
 rw[e] at e';cases e'
 rw[d] at d'
 injection d' with d1 _
 have:its=its':=by simpa using congrArg Array.toList d1
 subst this
 exact r.inj r'
end
abbrev Cx.wish (X:Cx)(E:Value->Shared->Prop):Cx:={ X with xe:=E }
abbrev Cx.nox (X:Cx):Cx:=X.wish fun _ _=>False
theorem Cx.Ok.wish{X:Cx}(ok:X.Ok)(E:Value->Shared->Prop):(X.wish E).Ok :=
 ⟨ok.mod,ok.kind,ok.glob,ok.blt,ok.above,ok.inj,ok.has,ok.cab,ok.hd,ok.frames,ok.stk,ok.exf,ok.bs,ok.bsz,ok.noex,ok.exfs,ok.funs,ok.frf⟩
theorem Cx.Ok.unwish{X:Cx}{E:Value->Shared->Prop}(ok:(X.wish E).Ok):X.Ok :=
 ⟨ok.mod,ok.kind,ok.glob,ok.blt,ok.above,ok.inj,ok.has,ok.cab,ok.hd,ok.frames,ok.stk,ok.exf,ok.bs,ok.bsz,ok.noex,ok.exfs,ok.funs,ok.frf⟩
section
variable {X:Cx}{pins:List (Addr × Obj)}{σ:St}{H:Hp}{s:Shared}{E:Value->Shared->Prop}
theorem aT.wish(I:aT X pins σ H s)(E:Value->Shared->Prop):aT (X.wish E) pins σ H s:=⟨I.ok.wish E,I.os,I.bare,I.base,I.loc,I.cell,I.free,I.freeC,I.pin,I.hok,I.len⟩
theorem aT.unwish(I:aT (X.wish E) pins σ H s):aT X pins σ H s:=⟨I.ok.unwish,I.os,I.bare,I.base,I.loc,I.cell,I.free,I.freeC,I.pin,I.hok,I.len⟩
theorem SP.unwish{D:m4}{f:Flow}{s':Shared}(h:SP (X.wish E) pins D f s'):SP X pins D f s':=by
 cases f with
 | next=>obtain⟨σ',H',I,q⟩:=h;exact⟨σ',H',I.unwish,q⟩
 | brk=>obtain⟨σ',H',I,q⟩:=h;exact⟨σ',H',I.unwish,q⟩
 | cont=>obtain⟨σ',H',I,q⟩:=h;exact⟨σ',H',I.unwish,q⟩
 | ret u=>obtain⟨v,σ',H',I,r,q⟩:=h;exact⟨v,σ',H',I.unwish,r,q⟩
theorem ux.nox{st:List Stmt}{t:TS}(h:ux X.nox st t):ux X st t:=fun pins s σ H D I hw =>
 wpAny_mono (h pins s σ H D (I.wish _) hw) (fun _ _ q=>q.unwish) fun _ _ z=>False.elim z
end
section
variable {X:Cx}{st:Stmt}{rest:List Stmt}{t u:TS}{e:Expr}{te:TE}{pos:Pos}
def AD:TS:=fun D σ H=>D.nx σ H
def aW(t u:TS):TS:=fun D σ H=>t { D with nx:=u D } σ H
theorem CV:ux X [] AD:=fun _ _ σ H _ I h=>wpAny_execs_nil ⟨σ,H,I,h⟩
theorem zI(h1:PS X st t)(h2:ux X rest u):ux X (st :: rest) (aW t u):=by
 intro pins s σ H D I h
 refine wpAny_execs_cons (dE (h1 pins s σ H { D with nx:=u D } I h) fun f s1 q=>?_)
 cases f with
 | next =>
  obtain⟨σ',H',I',q⟩:=q
  exact h2 pins s1 σ' H' D I' q
 | ret v=>exact q
 | brk=>exact q
 | cont=>exact q
theorem CT(h1:PS X st t):ux X [st] t:=by
 intro pins s σ H D I h
 refine wpAny_execs_cons (dE (h1 pins s σ H D I h) fun f s1 q=>?_)
 cases f with
 | next=>exact wpAny_execs_nil q
 | ret v=>exact q
 | brk=>exact q
 | cont=>exact q
theorem aT.quiet{pins:List (Addr × Obj)}{σ:St}{H:Hp}{s:Shared}(I:aT X pins σ H s):interactive X.env=false:=by simp[interactive,I.ok.kind]
def AC(te:TE):TS:=fun D σ H=>te σ H fun _ H1=>D.nx σ H1
theorem C2(he:PE X e te)(hs:swapsWith e none pos.line X.env=pure false:=by rfl):PS X (.Expr e pos) (AC te):=by
 intro pins s σ H D I h
 exact wpAny_Expr_any (dE (he pins s σ H _ I h) fun v s1 ⟨x,H1,I1,r1,q1⟩=>⟨σ,H1,I1,q1⟩) I.quiet hs
def Fo(te:TE):TS:=fun D σ H=>te σ H D.rt
theorem EY(he:PE X e te):PS X (.Return (some e) pos) (Fo te):=by
 intro pins s σ H D I h
 exact wpAny_Return_some (dE (he pins s σ H _ I h) fun v s1 ⟨x,H1,I1,r1,q1⟩=>⟨x,σ,H1,I1,r1,q1⟩)
def F9:TS:=fun D _ H=>D.rt .non H
def EN(c:TT)(t u:TS):TS:=fun D σ H=>c σ H fun b H1=>if b=true then t D σ H1 else u D σ H1
theorem GG{c:Expr}{a b:List Stmt}{tc:TT}(hc:PT X c tc)(ha:ux X a t)(hb:ux X b u):PS X (.If c a b pos) (EN tc t u):=by
 intro pins s σ H D I h
 refine wpAny_If (dE (hc pins s σ H _ I h) fun d s1 ⟨H1,I1,q1⟩=>?_)
 cases d with
 | true=>exact ha pins s1 σ H1 D I1 q1
 | false=>exact hb pins s1 σ H1 D I1 q1
def vD:TS:=fun _ _ _=>False
theorem zZ:PS X st vD:=fun _ _ _ _ _ _ h=>h.elim
end
abbrev TG:=V->St->Hp->(St->Hp->Prop)->Prop
abbrev yq:=List V->St->Hp->(St->Hp->Prop)->Prop
def PG(X:Cx)(target:Expr)(t:TG):Prop :=
 ∀ (pins:List (Addr × Obj))(s:Shared)(σ:St)(H:Hp)(v:V)(u:Value)(Q:St->Hp->Prop),aT X pins σ H s->cw v u->t v σ H Q ->
  wpAny (model X.prog X.w) X.A (assign target X.env u) (fun _ s'=>∃ σ' H',aT X pins σ' H' s'/\Q σ' H') X.xe s
def FJ(X:Cx)(ts:List Expr)(t:yq):Prop :=
 ∀ (pins:List (Addr × Obj))(s:Shared)(σ:St)(H:Hp)(vs:List V)(us:List Value)(Q:St->Hp->Prop),aT X pins σ H s->bQ vs us->t vs σ H Q ->
  wpAny (model X.prog X.w) X.A (assignInOrder ((assignEach ts X.env).map (·.2)) us) (fun _ s'=>∃ σ' H',aT X pins σ' H' s'/\Q σ' H') X.xe s
abbrev u9:=V->V->V->Hp->(Hp->Prop)->Prop
def yl(X:Cx)(t:u9):Prop :=
 ∀ (pins:List (Addr × Obj))(s:Shared)(σ:St)(H:Hp)(o i v:V)(ov iv u:Value)(Q:Hp->Prop),aT X pins σ H s->cw o ov->cw i iv->cw v u->t o i v H Q ->
  wpAny (model X.prog X.w) X.A (setItem ov iv u) (fun _ s'=>∃ H',aT X pins σ H' s'/\Q H') X.xe s
abbrev A0:=V->V->Hp->VK->Prop
def Dr(X:Cx)(op:Operator)(t:A0):Prop :=
 ∀ (pins:List (Addr × Obj))(s:Shared)(σ:St)(H:Hp)(x y:V)(v u:Value)(Q:VK),aT X pins σ H s->cw x v->cw y u->t x y H Q ->
  wpAny (model X.prog X.w) X.A (inplaceOp op v u) (EP X pins σ Q) X.xe s
section
variable {X:Cx}{pos:Pos}
def ig(i:Nat):TG:=fun v σ H Q=>Q (σ.set i (some v)) H
theorem Ci{i:Nat}{x:Str}(hN:X.N.Nodup)(hi:X.N[i]? = some x)(hx:A3 X.env.scope x)(hf:X.fn x=true\/X.env.scope.names.lookup x=some .local:=by first|exact .inl rfl|exact .inr rfl|assumption):PG X (.Name x pos) (ig i):=by
 intro pins s σ H v u Q I r h
 exact wpAny_assign_Name (gr I hN hi hx r (fun s' I'=>⟨_,H,I',h⟩) hf)
def u8:yq:=fun vs σ H Q=>vs=[]/\Q σ H
def kK(t:TG)(u:yq):yq:=fun vs σ H Q=>∃ v r,vs=v :: r/\t v σ H fun σ' H'=>u r σ' H' Q
theorem BA:FJ X [] u8:=by
 intro pins s σ H vs us Q I r h
 obtain⟨e,h⟩:=h
 subst e
 cases r
 exact assignInOrder_nil ⟨σ,H,I,h⟩
theorem Ar{e:Expr}{es:List Expr}{t:TG}{u:yq}(h1:PG X e t)(h2:FJ X es u)
  (hs:(assignEach (e :: es) X.env).map (·.2)=assign e X.env :: (assignEach es X.env).map (·.2):=by rfl):FJ X (e :: es) (kK t u):=by
 intro pins s σ H vs us Q I r h
 obtain⟨v,vr,e1,h⟩:=h
 subst e1
 cases r with
 | cons r rr =>
  rw[hs]
  refine assignInOrder_cons (dE (h1 pins s σ H _ _ _ I r h) fun _ s1 ⟨σ1,H1,I1,q1⟩=>?_)
  exact h2 pins s1 σ1 H1 _ _ Q I1 rr q1
def Gb(K:W.Frag)(n:Nat)(t:yq):TG:=fun v σ H Q=>∃ a xs,v = .ref a/\qj K H a xs/\xs.length=n/\t xs σ H Q
theorem FC{es:List Expr}{k:Nat}{t:yq}{n:Nat}(hc:X.calm=true)(h:FJ X es t)
  (hn:(assignEach es X.env).length=n:=by rfl)(hst:(assignEach es X.env).findIdx? (·.1)=none:=by rfl):PG X (.Tuple es k pos) (Gb X.K n t):=by
 intro pins s σ H v u Q I r hw
 obtain⟨a,xs,e1,hq,hl,hw⟩:=hw
 subst e1
 cases r
 obtain⟨its,rv,ht,hz⟩:=I.tuple hq
 refine assign_Tuple_tuple (I.ok.hd hc) ht (by simp[hn,<- hl,rv.length]) hst fun h' hx=>?_
 have I1:aT X pins σ H { s with heap:=h' }:=I.kept (t':=s.toks) fun b o e=>hx b o (Nat.ne_of_lt (Heap.lt_size e)) e
 exact h pins _ σ H xs _ Q I1 (by simpa using rv) hw
def EO(to ti:TE)(t:u9):TG:=fun v σ H Q=>to σ H fun o H1=>ti σ H1 fun i H2=>t o i v H2 fun H3=>Q σ H3
theorem Ey{o i:Expr}{to ti:TE}{t:u9}(ho:PE X o to)(hi:PE X i ti)(hs:yl X t)
  (ha:∀ v,assign (.Subscript o i pos) X.env v=(do
   let ov <- holding [v] (eval o X.env)
   let iv <- holding [v,ov] (eval i X.env)
   standAt pos
   holding [v,ov,iv] (setItem ov iv v)
   release [v,ov,iv] []):=by intro _;rfl):PG X (.Subscript o i pos) (EO to ti t):=by
 intro pins s σ H v u Q I r h
 rw[ha]
 refine wpAny_bind (wpAny_holding (dE (ho pins s σ H _ I h) fun ov s1 ⟨x,H1,I1,r1,q1⟩=>?_))
 refine wpAny_bind (wpAny_holding (dE (hi pins s1 σ H1 _ I1 q1) fun iv s2 ⟨y,H2,I2,r2,q2⟩=>?_))
 refine wpAny_bind (wpAny_standAt (wpAny_bind (wpAny_holding (dE (hs pins s2 σ H2 x y v ov iv u _ I2 r1 r2 r q2) fun _ s3 ⟨H3,I3,q3⟩=>?_))))
 exact wpAny_release ⟨σ,H3,I3,q3⟩
def tR(te:TE)(g:TG):TS:=fun D σ H=>te σ H fun x H1=>g x σ H1 D.nx
theorem Fu{tg e:Expr}{te:TE}{g:TG}(he:PE X e te)(hg:PG X tg g)(hs:swapsWithSole [tg] e pos.line X.env=pure false:=by rfl)(hw:swappedStores [tg] e X.env=pure none:=by rfl)
  (h1:(assignEach [tg] X.env).map (·.2)=[assign tg X.env]:=by rfl):PS X (.Assign [tg] e pos) (tR te g):=by
 intro pins s σ H D I h
 refine wpAny_Assign_stores (dE (he pins s σ H _ I h) fun v s1 ⟨x,H1,I1,r1,q1⟩=>?_) hs hw
 rw[h1]
 exact dE (hg pins s1 σ H1 x v _ I1 r1 q1) fun _ s2 q=>q
theorem Eb{i:Nat}{x:Str}{e:Expr}{te:TE}{pos':Pos}(hN:X.N.Nodup)(hi:X.N[i]? = some x)(hx:A3 X.env.scope x)(he:PE X e te)(hs:swapsWith e (some (.Name x pos')) pos.line X.env=pure false:=by rfl)(hf:X.fn x=true\/X.env.scope.names.lookup x=some .local:=by first|exact .inl rfl|exact .inr rfl|assumption) :
  PS X (.Assign [.Name x pos'] e pos) (tR te (ig i)):=by
 intro pins s σ H D I h
 refine wpAny_Assign_Name (dE (he pins s σ H _ I h) fun v s1 ⟨y,H1,I1,r1,q1⟩=>?_) hs
 exact gr I1 hN hi hx r1 (fun s2 I2=>⟨_,H1,I2,q1⟩) hf
def CK(i j:Nat)(ta:TA):TS:=fun D σ H=>ta σ H fun vs H1=>∃ v w,vs=[v,w]/\D.nx ((σ.set i (some v)).set j (some w)) H1
theorem DO{i j:Nat}{x y:Str}{a b:Expr}{ta:TA}{px py pt:Pos} {kt k2 pt2}(hc:X.calm=true)(hN:X.N.Nodup)(hi:X.N[i]? = some x)(hj:X.N[j]? = some y)(hij:i ≠ j)
  (hx:X.env.scope.names.lookup x=some .local)(hy:X.env.scope.names.lookup y=some .local)(ha:PA X [a,b] ta)
  (hw:swappedStores [.Tuple [.Name x px,.Name y py] kt pt] (.Tuple [a,b] k2 pt2) X.env=pure (some [x,y]))
  (hs:swapsWithSole [.Tuple [.Name x px,.Name y py] kt pt] (.Tuple [a,b] k2 pt2) pos.line X.env=pure false:=by rfl) :
  PS X (.Assign [.Tuple [.Name x px,.Name y py] kt pt] (.Tuple [a,b] k2 pt2) pos) (CK i j ta):=by
 intro pins s σ H D I h
 rw[exec_Assign_arm]
 refine wpAny_bind (wpAny_standAt ?_)
 rw[hs]
 refine wpAny_bind (wpAny_pure ?_)
 rw[if_neg (by decide)]
 refine wpAny_bind (Tuple_ (dE (ha _ pins s σ H _ I h) fun us s1 ⟨vs,H1,I1,r1,q1⟩=>?_))
 obtain⟨v,w,e1,q1⟩:=q1
 subst e1
 obtain⟨u1,u2,rfl,rv,rw'⟩ : ∃ u1 u2,us=[u1,u2]/\cw v u1/\cw w u2:=by
  cases r1 with
  | cons p q =>
   cases q with
   | cons p' q' =>
    cases q'
    exact⟨_,_,rfl,p,p'⟩
 refine wpAny_newObj_type ?_ (by show 2<=sizeLine;decide)
 have I2:aT X pins σ H1 { s1 with heap:=s1.heap.push { cls:=.type "tuple",data:=.seq [u1,u2].toArray } }:=I1.kept (t':=s1.toks) fun b o e=>Heap.get?_push_of_some _ e
 rw[hw]
 refine wpAny_bind (wpAny_pure ?_)
 show wpAny (model X.prog X.w) X.A (do rule "assign.swapped-stores";let items <- unpackItems (.ref s1.heap.objs.size) 2 none;assignInOrder [fun v=>bindName X.env y v,fun v=>bindName X.env x v] items.reverse;pure Flow.next) _ _ _
 refine wpAny_bind (wpAny_rule (wpAny_bind (unpackItems_tuple (items:=#[u1,u2]) (I.ok.hd hc) (IsTup.new s1.heap _) fun h' hx'=>?_)))
 have I3:=I2.kept (h':=h') (t':=s1.toks) fun b o e=>hx' b o (Nat.ne_of_lt (Heap.lt_size e)) e
 show wpAny _ _ (assignInOrder [fun v=>bindName X.env y v,fun v=>bindName X.env x v] [u2,u1] >>= fun _=>pure Flow.next) _ _ _
 refine wpAny_bind (assignInOrder_cons (wpAny_bindName (gr I3 hN hj (.inl hy) rw' (fun s2 I4=>?_) (.inr hy))))
 refine assignInOrder_cons (wpAny_bindName (gr I4 hN hi (.inl hx) rv (fun s3 I5=>assignInOrder_nil (wpAny_pure ?_)) (.inr hx)))
 rw[List.set_comm _ _ (Ne.symm hij)] at I5
 exact⟨_,H1,I5,q1⟩
def Ft(i:Nat)(te:TE)(ti:A0):TS:=fun D σ H=>∃ x,σ[i]? = some (some x)/\te σ H fun y H1=>ti x y H1 fun z H2=>D.nx (σ.set i (some z)) H2
theorem EX{i:Nat}{x:Str}{e:Expr}{te:TE}{op:Operator}{ti:A0}{pos':Pos}(hN:X.N.Nodup)(hi:X.N[i]? = some x)(hx:A3 X.env.scope x)(he:PE X e te)(ho:Dr X op ti)(hf:X.fn x=true\/X.env.scope.names.lookup x=some .local:=by first|exact .inl rfl|exact .inr rfl|assumption) :
  PS X (.AugAssign (.Name x pos') op e pos) (Ft i te ti):=by
 intro pins s σ H D I h
 obtain⟨v,e1,h⟩:=h
 obtain⟨m,hn,hl⟩:=I.loc
 have vis:Gv X.env.scope x:=by rcases hx with k|k;exact .inl k;exact .inr (.inl k)
 obtain⟨u,r,l⟩:=hl i x v hi e1 vis
 refine wpAny_AugAssign_Name ?_
 have go:wpAny (model X.prog X.w) X.A (eval e X.env) (fun w s₂=>wpAny (model X.prog X.w) X.A (inplaceOp op u w) (fun r s₃=>wpAny (model X.prog X.w) X.A (storeName X.env x r) (fun _=>SP X pins D .next) X.xe s₃) X.xe s₂) X.xe s:=by
  refine dE (he pins s σ H _ I h) fun w s1 ⟨y,H1,I1,r1,q1⟩=>?_
  refine dE (ho pins s1 σ H1 v y u w _ I1 r r1 q1) fun z s2 ⟨zv,H2,I2,r2,q2⟩=>?_
  exact gr I2 hN hi hx r2 (fun s3 I3=>⟨_,H2,I3,q2⟩) hf
 rcases l with ⟨hk,hm⟩|⟨hk,c,hc,hcell⟩
 ·exact wpAny_loadName_local I.ok.kind hk hn hm go
 ·rcases hk with hk|hk
  ·exact wpAny_loadName_cell I.ok.kind hk hc hcell go
  ·rcases hx with k|k
   ·have:X.env.scope.names.lookup x=some .free:=hk
    rw[k] at this;cases this
   ·have:X.env.scope.names.lookup x=some .free:=hk
    rw[k] at this;cases this
def pV(to ti te:TE)(tget:V->V->Hp->VK->Prop)(tip:A0)(tset:u9):TS:=fun D σ H=>to σ H fun o H1=>ti σ H1 fun i H2=>tget o i H2 fun x H3=>te σ H3 fun y H4=>tip x y H4 fun z H5=>tset o i z H5 fun H6=>D.nx σ H6
def FG(X:Cx)(t:V->V->Hp->VK->Prop):Prop :=
 ∀ (pins:List (Addr × Obj))(s:Shared)(σ:St)(H:Hp)(o i:V)(ov iv:Value)(Q:VK),aT X pins σ H s->cw o ov->cw i iv->t o i H Q ->
  wpAny (model X.prog X.w) X.A (getItem ov iv) (EP X pins σ Q) X.xe s
theorem Cn{o i e:Expr}{to ti te:TE}{tget:V->V->Hp->VK->Prop}{tip:A0}{tset:u9}{op:Operator}{tpos:Pos}(ho:PE X o to)(hi:PE X i ti)(hg:FG X tget)(he:PE X e te)(hp:Dr X op tip)(hs:yl X tset)
  (ha:∀ ov iv new,augStore i ov iv new=(do holding [new,ov,iv] (setItem ov iv new);release [new,ov,iv] [];pure .next):=by intros;rfl):PS X (.AugAssign (.Subscript o i tpos) op e pos) (pV to ti te tget tip tset):=by
 intro pins s σ H D I h
 refine wpAny_AugAssign_SubscriptAny (dE (ho pins s σ H _ I h) fun ov s1 ⟨x1,H1,I1,r1,q1⟩=>?_) ha
 refine dE (hi pins s1 σ H1 _ I1 q1) fun iv s2 ⟨x2,H2,I2,r2,q2⟩=>?_
 refine dE (hg pins s2 σ H2 x1 x2 ov iv _ I2 r1 r2 q2) fun old s3 ⟨x3,H3,I3,r3,q3⟩=>?_
 refine dE (he pins s3 σ H3 _ I3 q3) fun v s4 ⟨x4,H4,I4,r4,q4⟩=>?_
 refine dE (hp pins s4 σ H4 x3 x4 old v _ I4 r3 r4 q4) fun new s5 ⟨x5,H5,I5,r5,q5⟩=>?_
 exact dE (hs pins s5 σ H5 x1 x2 x5 ov iv new _ I5 r1 r2 r5 q5) fun _ s6 ⟨H6,I6,q6⟩=>⟨σ,H6,I6,q6⟩
def Fb(f:Int->Int->Int):A0:=fun x y H Q=>∃ i j,x = .int i/\y = .int j/\Q (.int (f i j)) H
theorem uZ:Dr X .Add (Fb fun i j=>i+j):=by
 intro pins s σ H x y v u Q I r1 r2 h
 obtain⟨i,j,e1,e2,q⟩:=h
 subst e1;subst e2
 obtain⟨t,rfl⟩:=r1
 obtain⟨t',rfl⟩:=r2
 exact iadd_int ⟨.int _,H,I.tok _,⟨_,rfl⟩,q⟩
theorem pH:Dr X .Sub (Fb fun i j=>i - j):=by
 intro pins s σ H x y v u Q I r1 r2 h
 obtain⟨i,j,e1,e2,q⟩:=h
 subst e1;subst e2
 obtain⟨t,rfl⟩:=r1
 obtain⟨t',rfl⟩:=r2
 exact isub_int ⟨.int _,H,I.tok _,⟨_,rfl⟩,q⟩
end
section
variable {X:Cx}{pos:Pos}
def yJ(c:TT)(tb:TS):TS:=fun D σ H=>∃ W:Nat->St->Hp->Prop,(∃ m,W m σ H) /\ ∀ m σ H,W m σ H ->
 c σ H fun b H1=>if b=true then ∃ N:St->Hp->Prop,(∀ σ' H',N σ' H' -> ∃ m',m'<m/\W m' σ' H')/\tb { D with nx:=N,ct:=N,bk:=D.nx } σ H1 else D.nx σ H1
theorem An{c:Expr}{body:List Stmt}{tc:TT}{tb:TS}(hp:PassesOwn (model X.prog X.w) X.A X.env X.xe)(hc:PT X c tc)(hb:ux X body tb):PS X (.While c body [] pos) (yJ tc tb):=by
 intro pins s σ H D I h
 obtain⟨W,⟨m0,w0⟩,turn⟩:=h
 refine wpAny_While (codeAny_whileLoop (fun n s'=>∃ σ' H',aT X pins σ' H' s'/\W n σ' H') ?_ m0 ⟨σ,H,I,w0⟩)
 rintro n s1 ⟨σ1,H1,I1,w1⟩
 refine wpAny_passesOwn hp (dE (hc pins s1 σ1 H1 _ I1 (turn n σ1 H1 w1)) fun b s2 ⟨H2,I2,q2⟩=>?_)
 cases b with
 | true =>
  obtain⟨N,hN,q2⟩:=q2
  rw[if_pos rfl]
  refine wpAny_passesOwn hp (dE (hb pins s2 σ1 H2 _ I2 q2) fun f s3 q3=>?_)
  cases f with
  | next =>
   obtain⟨σ3,H3,I3,n3⟩:=q3
   obtain⟨m',hm,w3⟩:=hN σ3 H3 n3
   exact⟨m',hm,σ3,H3,I3,w3⟩
  | cont =>
   obtain⟨σ3,H3,I3,n3⟩:=q3
   obtain⟨m',hm,w3⟩:=hN σ3 H3 n3
   exact⟨m',hm,σ3,H3,I3,w3⟩
  | brk=>exact q3
  | ret v=>exact q3
 | false =>
  rw[if_neg Bool.false_ne_true]
  exact wpAny_execs_nil ⟨σ1,H2,I2,q2⟩
end
structure It where
 go:Nat->Hp->Prop
 yld:Nat->Hp->V->Hp->Prop
 stop:Nat->Hp->Prop
def mJ(X:Cx)(pins:List (Addr × Obj))(H:Hp)(b:Addr):Prop :=
 H b=none/\b ≠ X.env.locals/\b ∉ X.fs/\(b ∈ X.ex\/X.s₀.heap.objs.size<=b)/\(∀ x c,X.env.cells.lookup x=some c->c ≠ b) /\ ∀ p ∈ X.pn ++ pins,p.1 ≠ b
theorem aT.fpOk{X:Cx}{pins:List (Addr × Obj)}{σ:St}{H H':Hp}{s:Shared}{b:Addr}(I:aT X pins σ H s)(hb:s.heap.objs.size<=b)(hn:H' b=none):mJ X pins H' b:=by
 refine⟨hn,Nat.ne_of_gt (Nat.lt_of_lt_of_le I.lt hb),I.nofs hb,.inr (Nat.le_trans I.sz hb),fun x c e z=>?_,fun p hp z=>?_⟩
 ·obtain⟨v,q⟩:=I.cell x c e
  exact absurd (Nat.lt_of_lt_of_le q.lt (by rw[z];exact hb)) (Nat.lt_irrefl _)
 ·exact absurd (Nat.lt_of_lt_of_le (Heap.lt_size (I.pin p hp).1) (by rw[z];exact hb)) (Nat.lt_irrefl _)
structure vm (P:Program)(w:World)(K:W.Frag)(tg:Expr)(J:It)(fp:List Addr)(it:Addr)(tn:Nat->Heap->Prop):Prop where
 mem:it ∈ fp
 obj:∀ i h,tn i h -> ∀ b ∈ fp,∃ o,h.get? b=some o /\ ∀ v,o.data ≠ .cell v
 keep:∀ i h h',tn i h->(∀ b ∈ fp,∀ o,h.get? b=some o->h'.get? b=some o)->tn i h'
 item:∀ (X:Cx),X.prog=P->X.w=w->X.K=K->X.calm=true -> ∀ (i:Nat)(pins:List (Addr × Obj))(s:Shared)(σ:St)(H:Hp)(E:Value->Shared->Prop),aT X pins σ H s->(∀ b ∈ fp,mJ X pins H b)->tn i s.heap->J.go i H ->
  wpAny (model P w) X.A (pyNext (.ref it)) (fun r s1=>∃ u,r=some u /\
   wpAny (model P w) X.A (letOwnedTupleGo tg (.ref it) u) (fun _ s2=>∃ x H',aT X pins σ H' s2/\cw x u/\J.yld i H x H'/\tn (i+1) s2.heap /\ ∀ b ∈ fp,H' b=none) E s1) E s
 done:∀ (X:Cx),X.prog=P->X.w=w->X.K=K->X.calm=true -> ∀ (i:Nat)(pins:List (Addr × Obj))(s:Shared)(σ:St)(H:Hp)(E:Value->Shared->Prop),aT X pins σ H s->(∀ b ∈ fp,mJ X pins H b)->tn i s.heap->J.stop i H ->
  wpAny (model P w) X.A (pyNext (.ref it)) (fun r s1=>r=none/\aT X pins σ H s1) E s
 self:∀ (A:Around)(i:Nat)(s:Shared)(Q:Value->Shared->Prop)(E:Value->Shared->Prop),tn i s.heap->Q (.ref it) s->wpAny (model P w) A (pyIter (.ref it)) Q E s
abbrev TI:=St->Hp->(It->Hp->Prop)->Prop
def HB(X:Cx)(pins:List (Addr × Obj))(σ:St)(tg:Expr)(R:It->Hp->Prop)(itv:Value)(s2:Shared):Prop :=
 ∃ (it:Addr)(fp:List Addr)(tn:Nat->Heap->Prop)(J:It)(H':Hp),itv = .ref it/\aT X pins σ H' s2/\vm X.prog X.w X.K tg J fp it tn/\tn 0 s2.heap/\(∀ b ∈ fp,mJ X pins H' b)/\R J H'
def PI(X:Cx)(tg iter:Expr)(wi:TI):Prop :=
 ∀ (pins:List (Addr × Obj))(s:Shared)(σ:St)(H:Hp)(R:It->Hp->Prop),aT X pins σ H s->wi σ H R ->
  wpAny (model X.prog X.w) X.A (eval iter X.env) (fun v s1=>wpAny (model X.prog X.w) X.A (pyIter v) (HB X pins σ tg R) X.xe s1) X.xe s
theorem wo{M:Model}{A:Around}{E:Value->Shared->Prop}{s:Shared}{tg:Expr}{it:Addr}{u:Value}{o:Obj}{n:String}{vs:Array Value}{Q:Unit->Shared->Prop}(ho:s.heap.get? it=some o)(hc:o.cls = .type n)(hd:o.data = .fields vs)
  (hn:["enumerate", "zip", "dict_itemiterator", "dict_reverseitemiterator", "odict_iterator", "itertools.zip_longest", "itertools.pairwise"].contains n=false) (hQ:Q () s):wpAny M A (letOwnedTupleGo tg (.ref it) u) Q E s:=by
 unfold letOwnedTupleGo
 cases tg <;> first
  | exact wpAny_pure hQ
  | (cases u <;> first
    | exact wpAny_pure hQ
    | (refine wpAny_bind (wpAny_load ho ?_)
       rw[hc,hd]
       show wpAny M A (if (["enumerate", "zip", "dict_itemiterator", "dict_reverseitemiterator", "odict_iterator", "itertools.zip_longest", "itertools.pairwise"].contains n && vs[0]? == some (rawInt _))=true then _ else _) Q E s
       rw[if_neg (by intro h;rw[hn,Bool.false_and] at h;cases h)]
       exact wpAny_pure hQ))
def GL(K:W.Frag)(a:Addr):It :=
 ⟨fun i H=>∃ xs x,jQ K H a xs/\xs[i]? = some x,fun i H x H'=>H'=H /\ ∀ xs,jQ K H a xs->xs[i]? = some x,fun i H=>∃ xs,jQ K H a xs/\xs.length<=i⟩
def Hg(K:W.Frag)(a:Addr):It :=
 ⟨fun i H=>∃ xs x,qj K H a xs/\xs[i]? = some x,fun i H x H'=>H'=H /\ ∀ xs,qj K H a xs->xs[i]? = some x,fun i H=>∃ xs,qj K H a xs/\xs.length<=i⟩
def FM(lo:Int)(n:Nat):It:=⟨fun i _=>i<n,fun i H x H'=>H'=H/\x = .int (lo+i),fun i _=>n<=i⟩
theorem xT{P:Program}{w:World}{K:W.Frag}{tg:Expr}(a it:Addr):vm P w K tg (GL K a) [it] it (fun i h=>h.IsListIter it a i) where
 mem:=by simp
 obj:=fun i h st b hb=>by
  have e:b=it:=by simpa using hb
  subst e
  obtain⟨o,e,c,d⟩:=st
  exact⟨o,e,fun v z=>by rw[d] at z;cases z⟩
 keep:=fun i h h' st k=>st.at fun o e=>k it (by simp) o e
 item:=by
  intro X hP hw hK hc i pins s σ H E I hf st hg
  subst hP hw hK
  obtain⟨xs,x,hq,hx⟩:=hg
  obtain⟨its,rv,p,hz⟩:=I.list hq
  obtain⟨u,hu,ru⟩:=rv.get hx
  obtain⟨f0,f1,f2,f3,f4,f5⟩:=hf it (by simp)
  refine wpAny_pyNext_list_item st p.isList (x:=u) (by simpa using hu) fun h' st' sb=>?_
  have I1:aT X pins σ H { s with heap:=h' }:=I.turned (t':=s.toks) (fun b o hb e=>(sb.2 b hb).trans e) f0 f1 f3 f4 f5
  obtain⟨o,e,c,d⟩:=id st'
  exact⟨u,rfl,wo (s:={ s with heap:=h' }) e c d (by decide) ⟨x,H,I1,ru,⟨rfl,fun ys hy=>by rw[I.list_inj hy hq];exact hx⟩,st',fun b hb=>(hf b hb).1⟩⟩
 done:=by
  intro X hP hw hK hc i pins s σ H E I hf st hg
  subst hP hw hK
  obtain⟨xs,hq,hx⟩:=hg
  obtain⟨its,rv,p,hz⟩:=I.list hq
  obtain⟨f0,f1,f2,f3,f4,f5⟩:=hf it (by simp)
  have hl:=rv.length
  exact wpAny_pyNext_list_end (I.ok.hd hc) st p.isList (by simp;walk_at"o") fun h' eb=>⟨rfl,I.turned (t':=s.toks) (fun b o hb e=>eb b o hb e) f0 f1 f3 f4 f5⟩
 self:=fun _ _ _ _ _ st h=>wpAny_pyIter_listiter st h
theorem u4{P:Program}{w:World}{K:W.Frag}{tg:Expr}(a it:Addr):vm P w K tg (Hg K a) [it] it (fun i h=>h.IsTupleIter it a i) where
 mem:=by simp
 obj:=fun i h st b hb=>by
  have e:b=it:=by simpa using hb
  subst e
  obtain⟨o,e,c,d⟩:=st
  exact⟨o,e,fun v z=>by rw[d] at z;cases z⟩
 keep:=fun i h h' st k=>st.at fun o e=>k it (by simp) o e
 item:=by
  intro X hP hw hK hc i pins s σ H E I hf st hg
  subst hP hw hK
  obtain⟨xs,x,hq,hx⟩:=hg
  obtain⟨its,rv,p,hz⟩:=I.tuple hq
  obtain⟨u,hu,ru⟩:=rv.get hx
  obtain⟨f0,f1,f2,f3,f4,f5⟩:=hf it (by simp)
  refine wpAny_pyNext_tuple_item st (show s.heap.IsTuple a its.toArray from p) (x:=u) (by simpa using hu) fun h' st' sb=>?_
  have I1:aT X pins σ H { s with heap:=h' }:=I.turned (t':=s.toks) (fun b o hb e=>(sb.2 b hb).trans e) f0 f1 f3 f4 f5
  obtain⟨o,e,c,d⟩:=id st'
  exact⟨u,rfl,wo (s:={ s with heap:=h' }) e c d (by decide) ⟨x,H,I1,ru,⟨rfl,fun ys hy=>by rw[I.tuple_inj hy hq];exact hx⟩,st',fun b hb=>(hf b hb).1⟩⟩
 done:=by
  intro X hP hw hK hc i pins s σ H E I hf st hg
  subst hP hw hK
  obtain⟨xs,hq,hx⟩:=hg
  obtain⟨its,rv,p,hz⟩:=I.tuple hq
  obtain⟨f0,f1,f2,f3,f4,f5⟩:=hf it (by simp)
  have hl:=rv.length
  exact wpAny_pyNext_tuple_end (I.ok.hd hc) st (show s.heap.IsTuple a its.toArray from p) (by simp;walk_at"o") fun h' eb=>⟨rfl,I.turned (t':=s.toks) (fun b o hb e=>eb b o hb e) f0 f1 f3 f4 f5⟩
 self:=fun _ _ _ _ _ st h=>wpAny_pyIter_tupleiter st h
theorem vE{P:Program}{w:World}{K:W.Frag}{tg:Expr}(it:Addr)(lo:Int)(n:Nat):vm P w K tg (FM lo n) [it] it (fun i h=>IsRangeIter h it (lo+(i:Nat)*1) ((n:Int) - (i:Nat)) 1) where
 mem:=by simp
 obj:=fun i h st b hb=>by
  have e:b=it:=by simpa using hb
  subst e
  exact⟨_,st,fun v z=>by
   have z':Data.fields _=Data.cell v:=z
   cases z'⟩
 keep:=fun i h h' st k=>k it (by simp) _ st
 item:=by
  intro X hP hw hK hc i pins s σ H E I hf st hg
  subst hP hw hK
  obtain⟨f0,f1,f2,f3,f4,f5⟩:=hf it (by simp)
  have W:=Walks.range (prog:=X.prog) (w:=X.w) (I.ok.hd hc) it lo 1 n
  refine W.item i s _ _ hg st fun v h' tk hv st' kk=>?_
  obtain⟨t,rfl⟩:=hv
  have I1:aT X pins σ H { s with heap:=h',toks:=tk }:=I.turned (fun b o hb e=>kk b o (by simpa using hb) e) f0 f1 f3 f4 f5
  refine⟨_,rfl,wo (s:={ s with heap:=h',toks:=tk }) (n:="range_iterator") st' rfl rfl (by decide) ⟨.int (lo+i),H,I1,⟨t,?_⟩,⟨rfl,rfl⟩,st',fun b hb=>(hf b hb).1⟩⟩
  rw[Int.mul_one]
 done:=by
  intro X hP hw hK hc i pins s σ H E I hf st hg
  subst hP hw hK
  obtain⟨f0,f1,f2,f3,f4,f5⟩:=hf it (by simp)
  exact wpAny_pyNext_range_end (I.ok.hd hc) st (by have:n<=i:=hg;walk_at"o") fun h' eb=>⟨rfl,I.turned (t':=s.toks) (fun b o hb e=>eb b o hb e) f0 f1 f3 f4 f5⟩
 self:=fun _ _ _ _ _ st h=>wpAny_pyIter_rangeiter st h
end L2
namespace L2
open PySem PySem.Spec PyProof.Rows
section
variable {X:Cx}{tg:Expr}
def wM(K:W.Frag)(tl:TE):TI:=fun σ H R=>tl σ H fun x H1=>∃ a,x = .ref a/\(∃ xs,jQ K H1 a xs)/\R (GL K a) H1
def E2(K:W.Frag)(tl:TE):TI:=fun σ H R=>tl σ H fun x H1=>∃ a,x = .ref a/\(∃ xs,qj K H1 a xs)/\R (Hg K a) H1
theorem BL{l:Expr}{tl:TE}(hl:PE X l tl):PI X tg l (wM X.K tl):=by
 intro pins s σ H R I h
 refine dE (hl pins s σ H _ I h) fun v s1 ⟨x,H1,I1,r1,q1⟩=>?_
 obtain⟨a,e,⟨xs,hq⟩,q⟩:=q1
 subst e
 cases r1
 obtain⟨its,rv,p,hz⟩:=I1.list hq
 refine wpAny_pyIter_list p.isList ?_
 refine⟨s1.heap.objs.size,[s1.heap.objs.size],_,_,H1,rfl,I1.kept (t':=s1.toks) fun b o e=>Heap.get?_push_of_some _ e,xT a _,⟨_,Heap.get?_push_size _ rfl,rfl,rfl⟩,fun b hb=>?_,q⟩
 have e:b=s1.heap.objs.size:=by simpa using hb
 subst e
 exact I1.fpOk (Nat.le_refl _) (I1.hok.fresh (Nat.le_refl _))
theorem Fz{l:Expr}{tl:TE}(hl:PE X l tl):PI X tg l (E2 X.K tl):=by
 intro pins s σ H R I h
 refine dE (hl pins s σ H _ I h) fun v s1 ⟨x,H1,I1,r1,q1⟩=>?_
 obtain⟨a,e,⟨xs,hq⟩,q⟩:=q1
 subst e
 cases r1
 obtain⟨its,rv,p,hz⟩:=I1.tuple hq
 refine wpAny_pyIter_tuple (show s1.heap.IsTuple a its.toArray from p) ?_
 refine⟨s1.heap.objs.size,[s1.heap.objs.size],_,_,H1,rfl,I1.kept (t':=s1.toks) fun b o e=>Heap.get?_push_of_some _ e,u4 a _,⟨_,Heap.get?_push_size _ rfl,rfl,rfl⟩,fun b hb=>?_,q⟩
 have e:b=s1.heap.objs.size:=by simpa using hb
 subst e
 exact I1.fpOk (Nat.le_refl _) (I1.hok.fresh (Nat.le_refl _))
theorem tS{pins:List (Addr × Obj)}{σ:St}{H:Hp}{s:Shared}{R:It->Hp->Prop}{E:Value->Shared->Prop}{lo hi:Int}{t u v:Tok}{tk:Nat}(I:aT X pins σ H s)(h1 : -(2 ^ 62)<=lo)(h2:lo<2 ^ 62)(h3 : -(2 ^ 62)<=hi)(h4:hi<2 ^ 62)
  (q:R (FM lo (hi - lo).toNat) H):wpAny (model X.prog X.w) X.A (pyIter (.ref s.heap.objs.size)) (HB X pins σ tg R) E { s with heap:=s.heap.push { cls:=.type "range",data:=.fields #[.int lo t,.int hi u,.int 1 v] },toks:=tk }:=by
 refine wpAny_pyIter_range (IsRange.new ..) (small_one h1 h2 h3 h4) ?_
 have I1:aT X pins σ H { s with heap:=s.heap.push { cls:=.type "range",data:=.fields #[.int lo t,.int hi u,.int 1 v] },toks:=tk }:=I.kept fun b o e=>Heap.get?_push_of_some _ e
 refine⟨(s.heap.push { cls:=.type "range",data:=.fields #[.int lo t,.int hi u,.int 1 v] }).objs.size,[(s.heap.push { cls:=.type "range",data:=.fields #[.int lo t,.int hi u,.int 1 v] }).objs.size],_,_,H,rfl,
  I1.kept (t':=tk) fun b o e=>Heap.get?_push_of_some _ e,vE _ lo (hi - lo).toNat,?_,fun b hb=>?_,q⟩
 ·have e1:lo+((0:Nat):Int)*1=lo:=by simp
  have e2:(((hi - lo).toNat:Nat):Int) - ((0:Nat):Int)=Builtin.Range.rangeSize lo hi 1:=by rw[rangeSize_one];split <;> walk_at"o"
  show IsRangeIter _ _ (lo+((0:Nat):Int)*1) ((((hi - lo).toNat:Nat):Int) - ((0:Nat):Int)) 1
  rw[e1,e2]
  exact Heap.get?_push_size _ rfl
 ·have e:b=(s.heap.push { cls:=.type "range",data:=.fields #[.int lo t,.int hi u,.int 1 v] }).objs.size:=by simpa using hb
  subst e
  exact I1.fpOk (Nat.le_refl _) (I1.hok.fresh (Nat.le_refl _))
def xo(ta:TA):TI:=fun σ H R=>ta σ H fun vs H1=>∃ j:Int,vs=[.int j] /\ -(2 ^ 62)<=j/\j<2 ^ 62/\R (FM 0 j.toNat) H1
def zb(ta:TA):TI:=fun σ H R=>ta σ H fun vs H1=>∃ i j:Int,vs=[.int i,.int j]/\(-(2 ^ 62)<=i/\i<2 ^ 62 /\ -(2 ^ 62)<=j/\j<2 ^ 62)/\R (FM i (j - i).toNat) H1
theorem xW{a:Expr}{ta:TA}{p pos:Pos}(hg:Gl X "range") (hm:X.mg "range" = none) (ha:PA X [a] ta)(hs:starEach [a] X.env=[(false,eval a X.env)]:=by rfl):PI X tg (.Call (.Name "range" p) [a] [] pos) (xo ta):=by
 intro pins s σ H R I h
 refine Call_ (jG I hg hm boot_range (PyProof.Rows.callWith_type1 (dE (ha pos pins s σ H _ I h) fun us s1 ⟨vs,H1,I1,r1,q1⟩=>?_) hs rfl))
 obtain⟨j,e,q1,q2,q⟩:=q1
 subst e
 cases r1 with
 | cons r rr =>
  cases rr
  obtain⟨t,rfl⟩:=r
  exact call_range_1 (tS I1 (by walk_at"o") (by walk_at"o") q1 q2 (by simpa using q))
theorem xV{a b:Expr}{ta:TA}{p pos:Pos}(hg:Gl X "range") (hm:X.mg "range" = none) (ha:PA X [a,b] ta)(hs:starEach [a,b] X.env=[(false,eval a X.env),(false,eval b X.env)]:=by rfl)(hs2:starEach [b] X.env=[(false,eval b X.env)]:=by rfl) :
  PI X tg (.Call (.Name "range" p) [a,b] [] pos) (zb ta):=by
 intro pins s σ H R I h
 refine Call_ (jG I hg hm boot_range (PyProof.Rows.callWith_type1 (dE (ha pos pins s σ H _ I h) fun us s1 ⟨vs,H1,I1,r1,q1⟩=>?_) (by rw[hs,hs2]) (by rw[hs2];rfl)))
 obtain⟨i,j,e,⟨q1,q2,q3,q4⟩,q⟩:=q1
 subst e
 cases r1 with
 | cons r rr =>
  cases rr with
  | cons r' rr =>
   cases rr
   obtain⟨t,rfl⟩:=r
   obtain⟨t',rfl⟩:=r'
   exact call_range_2 (tS I1 q1 q2 q3 q4 q)
def DN(wi:TI)(g:TG)(tb:TS):TS:=fun D σ H=>wi σ H fun J H1=>∃ W:Nat->Nat->St->Hp->Prop,(∃ m,W 0 m σ H1) /\ ∀ i m σ H,W i m σ H ->
 (J.stop i H/\D.nx σ H)\/(J.go i H /\ ∃ N:St->Hp->Prop,(∀ σ' H',N σ' H' -> ∃ m',m'<m/\W (i+1) m' σ' H') /\ ∀ x H',J.yld i H x H'->g x σ H' fun σ2 H2=>tb { D with nx:=N,ct:=N,bk:=D.nx } σ2 H2)
def pe(fp:List Addr)(h:Heap):List (Addr × Obj):=fp.filterMap fun b=>(h.get? b).map fun o=>(b,o)
theorem i9{fp:List Addr}{h:Heap}{b:Addr}{o:Obj}(hb:b ∈ fp)(e:h.get? b=some o):(b,o) ∈ pe fp h:=List.mem_filterMap.mpr ⟨b,hb,by rw[e];rfl⟩
theorem xJ{fp:List Addr}{h:Heap}{p:Addr × Obj}(hp:p ∈ pe fp h):p.1 ∈ fp/\h.get? p.1=some p.2:=by
 obtain⟨b,hb,e⟩:=List.mem_filterMap.mp hp
 cases q:h.get? b with
 | none=>rw[q] at e;cases e
 | some o =>
  rw[q] at e
  have e':(b,o)=p:=Option.some.inj e
  subst e'
  exact⟨hb,q⟩
theorem aT.pinned{pins:List (Addr × Obj)}{σ:St}{H:Hp}{s:Shared}{fp:List Addr}(I:aT X pins σ H s)(hf:∀ b ∈ fp,mJ X pins H b)(ho:∀ b ∈ fp,∃ o,s.heap.get? b=some o /\ ∀ v,o.data ≠ .cell v):aT X (pins ++ pe fp s.heap) σ H s :=
 I.pins_of fun p hp=>(List.mem_append.mp hp).elim (fun z=>I.pin p (List.mem_append_right _ z)) fun z=>by
  obtain⟨hb,e⟩:=xJ z
  obtain⟨f0,f1,f2,_⟩:=hf p.1 hb
  obtain⟨o,e',d⟩:=ho p.1 hb
  rw[e] at e';cases e'
  exact⟨e,f0,f1,f2,d⟩
theorem aT.unpinned{pins pl:List (Addr × Obj)}{σ:St}{H:Hp}{s:Shared}(I:aT X (pins ++ pl) σ H s):aT X pins σ H s:=I.pins_of fun p hp=>I.pin p (List.mem_append_right _ (List.mem_append_left _ hp))
theorem Ew{iter:Expr}{body:List Stmt}{wi:TI}{g:TG}{tb:TS}{pos:Pos}(hp:PassesOwn (model X.prog X.w) X.A X.env X.xe)(hc:X.calm=true)(hi:PI X tg iter wi)(hg:PG X tg g)(hb:ux X body tb)
  (hs:∀ x,foldedSetIterable iter X.env x=pure x:=by intro _;rfl):PS X (.For tg iter body [] pos) (DN wi g tb):=by
 intro pins s σ H D I h
 refine wpAny_For (dE (hi pins s σ H _ I h) fun v s1 h1=>dE h1 fun itv s2 h2=>?_) hs
 obtain⟨it,fp,tn,J,H2,e,I2,T,st2,f2,W,⟨m0,w0⟩,turn⟩:=h2
 subst e
 have stat:∀ {H':Hp},(∀ b ∈ fp,H' b=none) -> ∀ b ∈ fp,mJ X pins H' b:=fun hn b hb=>⟨hn b hb,(f2 b hb).2⟩
 refine codeAny_forLoop_any (fun n s'=>∃ i σ' H',aT X pins σ' H' s'/\tn i s'.heap/\(∀ b ∈ fp,H' b=none)/\W i n σ' H') ?_ m0 ⟨0,σ,H2,I2,st2,fun b hb=>(f2 b hb).1,w0⟩
 rintro n s3 ⟨i,σ3,H3,I3,st3,fr3,w3⟩
 rcases turn i n σ3 H3 w3 with ⟨stop,qn⟩|⟨go,N,hN,step⟩
 ·refine wpAny_passesOwn hp (dE (T.done X rfl rfl rfl hc i pins s3 σ3 H3 X.xe I3 (stat fr3) st3 stop) fun r s4 ⟨hr,I4⟩=>?_)
  subst hr
  exact wpAny_execs_nil ⟨σ3,H3,I4,qn⟩
 ·refine wpAny_passesOwn hp (dE (T.item X rfl rfl rfl hc i pins s3 σ3 H3 X.xe I3 (stat fr3) st3 go) fun r s4 ⟨u,hr,h4⟩=>?_)
  subst hr
  refine wpAny_passesOwn hp (dE h4 fun _ s5 ⟨x,H5,I5,r5,y5,st5,fr5⟩=>?_)
  have I5':=I5.pinned (stat fr5) (T.obj _ _ st5)
  refine wpAny_passesOwn hp (dE (hg _ s5 σ3 H5 x u _ I5' r5 (step x H5 y5)) fun _ s6 ⟨σ6,H6,I6,q6⟩=>?_)
  refine wpAny_passesOwn hp (dE (hb _ s6 σ6 H6 _ I6 q6) fun f s7 q7=>?_)
  have again:∀ {σ7:St}{H7:Hp},aT X (pins ++ pe fp s5.heap) σ7 H7 s7->N σ7 H7 -> ∃ m,m<n /\ ∃ i σ' H',aT X pins σ' H' s7/\tn i s7.heap/\(∀ b ∈ fp,H' b=none)/\W i m σ' H':=fun {σ7 H7} I7 n7=>by
   obtain⟨m',hm,w7⟩:=hN σ7 H7 n7
   refine⟨m',hm,i+1,σ7,H7,I7.unpinned,T.keep _ _ _ st5 fun b hb o e=>(I7.pin (b,o) (List.mem_append_right _ (List.mem_append_right _ (i9 hb e)))).1,fun b hb=>?_,w7⟩
   obtain⟨o,e,d⟩:=T.obj _ _ st5 b hb
   exact (I7.pin (b,o) (List.mem_append_right _ (List.mem_append_right _ (i9 hb e)))).2.1
  cases f with
  | next=>obtain⟨σ7,H7,I7,n7⟩:=q7;exact again I7 n7
  | cont=>obtain⟨σ7,H7,I7,n7⟩:=q7;exact again I7 n7
  | brk=>obtain⟨σ7,H7,I7,q7⟩:=q7;exact⟨σ7,H7,I7.unpinned,q7⟩
  | ret v=>obtain⟨x7,σ7,H7,I7,r7,q7⟩:=q7;exact⟨x7,σ7,H7,I7.unpinned,r7,q7⟩
end
end L2
namespace L2
open PySem PySem.Spec PyProof.Rows
abbrev R2:=V->V->Hp->VK->Prop
def fb(X:Cx)(f:Value->Value->Sem Value)(r:R2):Prop :=
 ∀ (pins:List (Addr × Obj))(s:Shared)(σ:St)(H:Hp)(x y:V)(v u:Value)(Q:VK),aT X pins σ H s->cw x v->cw y u->r x y H Q ->
  wpAny (model X.prog X.w) X.A (f v u) (EP X pins σ Q) X.xe s
def G2(X:Cx)(f:Value->Sem Value)(r:V->Hp->VK->Prop):Prop :=
 ∀ (pins:List (Addr × Obj))(s:Shared)(σ:St)(H:Hp)(x:V)(v:Value)(Q:VK),aT X pins σ H s->cw x v->r x H Q ->
  wpAny (model X.prog X.w) X.A (f v) (EP X pins σ Q) X.xe s
def eZ(X:Cx)(f:Value)(r:List V->Hp->VK->Prop):Prop :=
 ∀ (pins:List (Addr × Obj))(s:Shared)(σ:St)(H:Hp)(xs:List V)(us:List Value)(Q:VK),aT X pins σ H s->bQ xs us->r xs H Q ->
  wpAny (model X.prog X.w) X.A (call f us) (EP X pins σ Q) X.xe s
def Hi(X:Cx)(r:V->Hp->(Bool->Hp->Prop)->Prop):Prop :=
 ∀ (pins:List (Addr × Obj))(s:Shared)(σ:St)(H:Hp)(x:V)(v:Value)(Q:Bool->Hp->Prop),aT X pins σ H s->cw x v->r x H Q ->
  wpAny (model X.prog X.w) X.A (truthy v) (TP X pins σ Q) X.xe s
def yX(r:R2)(ta tb:TE):TE:=fun σ H Q=>ta σ H fun x H1=>tb σ H1 fun y H2=>r x y H2 Q
def GX(r:V->Hp->VK->Prop)(ta:TE):TE:=fun σ H Q=>ta σ H fun x H1=>r x H1 Q
def rI(C:Int->Int->Prop)(g:Int->Int->V):R2:=fun x y H Q=>∃ i j,x = .int i/\y = .int j/\C i j/\Q (g i j) H
def wJ(g:Int->Int->V):R2:=fun x y H Q=>∃ i j,x = .int i/\y = .int j/\Q (g i j) H
def rU(g:Int->V):V->Hp->VK->Prop:=fun x H Q=>∃ i,x = .int i/\Q (g i) H
section
variable {X:Cx}{a b c:Expr}{ta tb tc:TE}{pos:Pos}
theorem DZ(ha:PE X a ta)(hb:PE X b tb) {pins:List (Addr × Obj)}{s:Shared}{σ:St}{H:Hp}{R:V->V->Hp->Prop}(I:aT X pins σ H s)
  (h:ta σ H fun x H1=>tb σ H1 fun y H2=>R x y H2) {Q:Value->Shared->Prop}{f:Value->Value->Sem Value}
  (hf:∀ v u s2 x y H2,aT X pins σ H2 s2->cw x v->cw y u->R x y H2->wpAny (model X.prog X.w) X.A (f v u) Q X.xe s2) :
  wpAny (model X.prog X.w) X.A (eval a X.env) (fun v s₁=>wpAny (model X.prog X.w) X.A (eval b X.env) (fun u s₂=>wpAny (model X.prog X.w) X.A (f v u) Q X.xe s₂) X.xe s₁) X.xe s:=by
 refine dE (ha pins s σ H _ I h) fun v s1 ⟨x,H1,I1,r1,q1⟩=>?_
 refine dE (hb pins s1 σ H1 _ I1 q1) fun u s2 ⟨y,H2,I2,r2,q2⟩=>?_
 exact hf v u s2 x y H2 I2 r1 r2 q2
theorem GF{op:Operator}{r:R2}(ho:fb X (binaryOp op) r)(ha:PE X a ta)(hb:PE X b tb):PE X (.BinOp a op b pos) (yX r ta tb):=by
 intro pins s σ H Q I h
 exact wpAny_BinOp (DZ ha hb I h fun v u s2 x y H2 I2 rx ry q=>ho pins s2 σ H2 x y v u Q I2 rx ry q)
theorem Ga{op:UnaryOp}{r:V->Hp->VK->Prop}(ho:G2 X (unaryOp op) r)(ha:PE X a ta):PE X (.UnaryOp op a pos) (GX r ta):=by
 intro pins s σ H Q I h
 exact UnaryOp_ (dE (ha pins s σ H _ I h) fun v s1 ⟨x,H1,I1,r1,q1⟩=>ho pins s1 σ H1 x v Q I1 r1 q1)
theorem GA{f:Value->Value->Sem Value}{C:Int->Int->Prop}{g:Int->Int->Int}
  (rule:∀ (i j:Int)(t u:Tok)(s:Shared)(Q:Value->Shared->Prop)(E:Value->Shared->Prop),C i j->Q (.int (g i j) s.toks) { s with toks:=s.toks+1 } -> wpAny (model X.prog X.w) X.A (f (.int i t) (.int j u)) Q E s) :
  fb X f (rI C fun i j=>.int (g i j)):=by
 intro pins s σ H x y v u Q I rx ry h
 obtain⟨i,j,rfl,rfl,hc,q⟩:=h
 obtain⟨t,rfl⟩:=rx
 obtain⟨t',rfl⟩:=ry
 exact rule i j t t' s _ _ hc ⟨.int (g i j),H,I.tok _,⟨_,rfl⟩,q⟩
theorem FQ{f:Value->Value->Sem Value}{g:Int->Int->Int}
  (rule:∀ (i j:Int)(t u:Tok)(s:Shared)(Q:Value->Shared->Prop)(E:Value->Shared->Prop),Q (.int (g i j) s.toks) { s with toks:=s.toks+1 } -> wpAny (model X.prog X.w) X.A (f (.int i t) (.int j u)) Q E s) :
  fb X f (wJ fun i j=>.int (g i j)):=by
 intro pins s σ H x y v u Q I rx ry h
 obtain⟨i,j,rfl,rfl,q⟩:=h
 obtain⟨t,rfl⟩:=rx
 obtain⟨t',rfl⟩:=ry
 exact rule i j t t' s _ _ ⟨.int (g i j),H,I.tok _,⟨_,rfl⟩,q⟩
theorem CF{f:Value->Value->Sem Value}{g:Int->Int->Bool}
  (rule:∀ (i j:Int)(t u:Tok)(s:Shared)(Q:Value->Shared->Prop)(E:Value->Shared->Prop),Q (.bool (g i j)) s->wpAny (model X.prog X.w) X.A (f (.int i t) (.int j u)) Q E s) :
  fb X f (wJ fun i j=>.bl (g i j)):=by
 intro pins s σ H x y v u Q I rx ry h
 obtain⟨i,j,rfl,rfl,q⟩:=h
 obtain⟨t,rfl⟩:=rx
 obtain⟨t',rfl⟩:=ry
 exact rule i j t t' s _ _ ⟨.bl (g i j),H,I,rfl,q⟩
def Gz(i j:Int):Prop:=0<=j/\j<=1000000/\i.natAbs<2 ^ 64
theorem DH:fb X (binaryOp .Add) (wJ fun i j=>.int (i+j)):=FQ fun _ _ _ _ _ _ _ q=>add_int q
theorem cX:fb X (binaryOp .Sub) (wJ fun i j=>.int (i - j)):=FQ fun _ _ _ _ _ _ _ q=>sub_int q
theorem Cs:fb X (binaryOp .Mod) (rI (fun _ j=>j ≠ 0) fun i j=>.int (i.fmod j)):=GA fun _ _ _ _ _ _ _ hc q=>mod_int' hc q
theorem Am:fb X (binaryOp .Pow) (rI Gz fun i j=>.int (i ^ j.toNat)):=GA fun _ _ _ _ _ _ _ hc q=>pow_int_small hc.1 hc.2.1 hc.2.2 q
theorem HG{f:Value->Sem Value}{g:Int->Int}
  (rule:∀ (i:Int)(t:Tok)(s:Shared)(Q:Value->Shared->Prop)(E:Value->Shared->Prop),Q (.int (g i) s.toks) { s with toks:=s.toks+1 } -> wpAny (model X.prog X.w) X.A (f (.int i t)) Q E s) :
  G2 X f (rU fun i=>.int (g i)):=by
 intro pins s σ H x v Q I rx h
 obtain⟨i,rfl,q⟩:=h
 obtain⟨t,rfl⟩:=rx
 exact rule i t s _ _ ⟨.int (g i),H,I.tok _,⟨_,rfl⟩,q⟩
theorem bO:G2 X (unaryOp .USub) (rU fun i=>.int (-i)):=HG fun _ _ _ _ _ q=>neg_int q
end
def xK:V->V->Bool
 | .non,.non=>true | .non,.int _=>true | .int _,.non=>true | .non,.bl _=>true | .bl _,.non=>true | .non,.str _=>true | .str _,.non=>true
 | .int _,.int _=>true | .bl _,.bl _=>true | .str _,.str _=>true | .byt _,.byt _=>true
 | .int _,.str _=>true | .str _,.int _=>true | .bl _,.str _=>true | .str _,.bl _=>true
 | _,_=>false
def FN:R2:=fun x y H Q=>xK x y=true/\Q (.bl (decide (x=y))) H
def FK:R2:=fun x y H Q=>xK x y=true/\Q (.bl (!decide (x=y))) H
theorem wT{i j:Int}:decide (V.int i=V.int j)=(i == j):=by
 rw[Bool.eq_iff_iff]
 simp
theorem Ae{i j:Bool}:decide (V.bl i=V.bl j)=(i == j):=by
 rw[Bool.eq_iff_iff]
 simp
theorem xg{i j:Str}:decide (V.str i=V.str j)=(i == j):=by
 rw[Bool.eq_iff_iff]
 simp
theorem vM{i j:Array UInt8}:decide (V.byt i=V.byt j)=(i.toList == j.toList):=by
 rw[Bool.eq_iff_iff]
 cases i
 cases j
 simp
section
variable {X:Cx}{a b c:Expr}{ta tb tc:TE}{pos:Pos}
theorem cu{pins:List (Addr × Obj)}{σ:St}{H:Hp}{s:Shared}{Q:VK}{k k':Bool}(I:aT X pins σ H s)(q:Q (.bl k) H)(e:k=k'):EP X pins σ Q (.bool k') s:=by
 subst e
 exact⟨.bl k,H,I,rfl,q⟩
theorem fW:fb X (compareOp .Eq) FN:=by
 intro pins s σ H x y v u Q I rx ry h
 obtain⟨hs,q⟩:=h
 cases x with
 | non =>
  cases rx
  cases y with
  | non=>cases ry;exact PySem.EqNone.eq_none_none (cu I q (by simp))
  | bl j=>cases ry;exact PySem.EqNone.eq_none_bool (cu I q (by simp))
  | int j=>obtain⟨t',rfl⟩:=ry;exact PySem.EqNone.eq_none_int (cu I q (by simp))
  | str j=>obtain⟨t',rfl⟩:=ry;exact PySem.EqNone.eq_none_str (cu I q (by simp))
  | _=>exact absurd (show false=true from hs) Bool.false_ne_true
 | bl i =>
  cases rx
  cases y with
  | non=>cases ry;exact PySem.EqNone.eq_bool_none (cu I q (by simp))
  | bl j=>cases ry;exact eq_bool (cu I q Ae)
  | str j=>obtain⟨t',rfl⟩:=ry;exact PySem.EqMixed.eq_bool_str (cu I q (by simp))
  | _=>exact absurd (show false=true from hs) Bool.false_ne_true
 | int i =>
  obtain⟨t,rfl⟩:=rx
  cases y with
  | non=>cases ry;exact PySem.EqNone.eq_int_none (cu I q (by simp))
  | int j=>obtain⟨t',rfl⟩:=ry;exact eq_int (cu I q wT)
  | str j=>obtain⟨t',rfl⟩:=ry;exact PySem.EqMixed.eq_int_str (cu I q (by simp))
  | _=>exact absurd (show false=true from hs) Bool.false_ne_true
 | str i =>
  obtain⟨t,rfl⟩:=rx
  cases y with
  | non=>cases ry;exact PySem.EqNone.eq_str_none (cu I q (by simp))
  | bl j=>cases ry;exact PySem.EqMixed.eq_str_bool (cu I q (by simp))
  | int j=>obtain⟨t',rfl⟩:=ry;exact PySem.EqMixed.eq_str_int (cu I q (by simp))
  | str j=>obtain⟨t',rfl⟩:=ry;exact eq_str (cu I q xg)
  | _=>exact absurd (show false=true from hs) Bool.false_ne_true
 | byt i =>
  obtain⟨t,rfl⟩:=rx
  cases y with
  | byt j=>obtain⟨t',rfl⟩:=ry;exact PySem.W.eq_bytes (cu I q vM)
  | _=>exact absurd (show false=true from hs) Bool.false_ne_true
 | _=>cases y <;> exact absurd (show false=true from hs) Bool.false_ne_true
theorem pM:fb X (compareOp .NotEq) FK:=by
 intro pins s σ H x y v u Q I rx ry h
 obtain⟨hs,q⟩:=h
 cases x with
 | non =>
  cases rx
  cases y with
  | non=>cases ry;exact PySem.EqNone.ne_none_none (cu I q (by simp))
  | bl j=>cases ry;exact PySem.EqNone.ne_none_bool (cu I q (by simp))
  | int j=>obtain⟨t',rfl⟩:=ry;exact PySem.EqNone.ne_none_int (cu I q (by simp))
  | str j=>obtain⟨t',rfl⟩:=ry;exact PySem.EqNone.ne_none_str (cu I q (by simp))
  | _=>exact absurd (show false=true from hs) Bool.false_ne_true
 | bl i =>
  cases rx
  cases y with
  | non=>cases ry;exact PySem.EqNone.ne_bool_none (cu I q (by simp))
  | bl j=>cases ry;exact ne_bool (cu I q (congrArg not Ae))
  | str j=>obtain⟨t',rfl⟩:=ry;exact PySem.EqMixed.ne_bool_str (cu I q (by simp))
  | _=>exact absurd (show false=true from hs) Bool.false_ne_true
 | int i =>
  obtain⟨t,rfl⟩:=rx
  cases y with
  | non=>cases ry;exact PySem.EqNone.ne_int_none (cu I q (by simp))
  | int j=>obtain⟨t',rfl⟩:=ry;exact ne_int (cu I q (congrArg not wT))
  | str j=>obtain⟨t',rfl⟩:=ry;exact PySem.EqMixed.ne_int_str (cu I q (by simp))
  | _=>exact absurd (show false=true from hs) Bool.false_ne_true
 | str i =>
  obtain⟨t,rfl⟩:=rx
  cases y with
  | non=>cases ry;exact PySem.EqNone.ne_str_none (cu I q (by simp))
  | bl j=>cases ry;exact PySem.EqMixed.ne_str_bool (cu I q (by simp))
  | int j=>obtain⟨t',rfl⟩:=ry;exact PySem.EqMixed.ne_str_int (cu I q (by simp))
  | str j=>obtain⟨t',rfl⟩:=ry;exact ne_str (cu I q (congrArg not xg))
  | _=>exact absurd (show false=true from hs) Bool.false_ne_true
 | byt i =>
  obtain⟨t,rfl⟩:=rx
  cases y with
  | byt j=>obtain⟨t',rfl⟩:=ry;exact PySem.W.ne_bytes (cu I q (congrArg not vM))
  | _=>exact absurd (show false=true from hs) Bool.false_ne_true
 | _=>cases y <;> exact absurd (show false=true from hs) Bool.false_ne_true
theorem kF:fb X (compareOp .Lt) (wJ fun i j=>.bl (decide (i<j))):=CF fun _ _ _ _ _ _ _ q=>lt_int q
theorem Db:fb X (compareOp .LtE) (wJ fun i j=>.bl (decide (i<=j))):=CF fun _ _ _ _ _ _ _ q=>le_int q
theorem iE:fb X (compareOp .Gt) (wJ fun i j=>.bl (decide (j<i))):=CF fun _ _ _ _ _ _ _ q=>gt_int q
theorem Gc:fb X (compareOp .GtE) (wJ fun i j=>.bl (decide (j<=i))):=CF fun _ _ _ _ _ _ _ q=>ge_int q
theorem fb.or{f:Value->Value->Sem Value}{r r':R2}(h:fb X f r)(h':fb X f r'):fb X f (fun x y H Q=>r x y H Q\/r' x y H Q):=by
 intro pins s σ H x y v u Q I rx ry q
 rcases q with q|q
 ·exact h pins s σ H x y v u Q I rx ry q
 ·exact h' pins s σ H x y v u Q I rx ry q
theorem aI(b:Expr){op:CmpOp}(h:op ≠ .In:=by decide)(h2:op ≠ .NotIn:=by decide):behindInMarks op b=false:=by
 have e1:(op == CmpOp.In)=false:=by cases op <;> first|rfl|exact absurd rfl h
 have e2:(op == CmpOp.NotIn)=false:=by cases op <;> first|rfl|exact absurd rfl h2
 cases b <;> simp[behindInMarks,e1,e2]
theorem CM{op:CmpOp}{r:R2}(ho:fb X (compareOp op) r)(ha:PE X a ta)(hb:PE X b tb)(hm:behindInMarks op b=false):PE X (.Compare a [op] [b] pos) (yX r ta tb):=by
 intro pins s σ H Q I h
 exact wpAny_Compare1 (DZ ha hb I h fun v u s2 x y H2 I2 rx ry q=>ho pins s2 σ H2 x y v u Q I2 rx ry q) hm
def wH(t:TE):TT:=fun σ H Q=>t σ H fun x H'=>∃ k,x = .bl k/\Q k H'
theorem Cz{op:CmpOp}{r:R2}(ho:fb X (compareOp op) r)(ha:PE X a ta)(hb:PE X b tb)(hm:behindInMarks op b=false):PT X (.Compare a [op] [b] pos) (wH (yX r ta tb)):=by
 intro pins s σ H Q I h
 refine wpAny_isTrue_Compare1 (dE (ha pins s σ H _ I h) fun v s1 ⟨x,H1,I1,r1,q1⟩=>dE (hb pins s1 σ H1 _ I1 q1) fun u s2 ⟨y,H2,I2,r2,q2⟩ =>
  dE (ho pins s2 σ H2 x y v u _ I2 r1 r2 q2) fun c s3 ⟨z,H3,I3,r3,k,e,q3⟩=>?_) hm
 subst e
 cases r3
 exact wpAny_truthy_bool ⟨H3,I3,q3⟩
def sV(K:W.Frag)(x:V)(H:Hp)(k:Bool):Prop :=
 match x with
 | .non=>k=false
 | .bl b=>k=b
 | .int i=>k=(i != 0)
 | .str y=>y.length<=sizeLine/\k=((y.length:Int) != 0)
 | .byt y=>y.size<=sizeLine/\k=((y.size:Int) != 0)
 | .ref p=>(∃ xs,jQ K H p xs/\k = !xs.isEmpty)\/(∃ xs,qj K H p xs/\k = !xs.isEmpty) \/ ∃ kvs,H p=some (.dK kvs)/\k = !kvs.isEmpty
 | _=>False
theorem u6{κ:Type}{kvs:List (κ × V)}{vs:List (κ × Value)}(r:KV kvs vs):(!vs.isEmpty) = !kvs.isEmpty:=by
 cases r <;> rfl
theorem pJ{xs:List V}{its:List Value}(r:bQ xs its):(!its.toArray.isEmpty) = !xs.isEmpty:=by
 cases r <;> simp
theorem mW:(sizeLine:Nat)<2 ^ 63:=by rw[sizeLine_eq];decide
theorem uL:Hi X (fun x H Q=>∃ k,sV X.K x H k/\Q k H):=by
 intro pins s σ H x v Q I rx h
 obtain⟨k,e,q⟩:=h
 have hl:=mW
 have hs:sizeLine=16777216:=sizeLine_eq
 cases x with
 | non =>
  cases rx
  have e':k=false:=e
  subst e'
  exact truthy_none ⟨H,I,q⟩
 | bl b =>
  cases rx
  have e':k=b:=e
  subst e'
  exact wpAny_truthy_bool ⟨H,I,q⟩
 | int i =>
  obtain⟨t,rfl⟩:=rx
  have e':k=(i != 0):=e
  subst e'
  exact PySem.P.truthy_int ⟨H,I,q⟩
 | str y =>
  obtain⟨t,rfl⟩:=rx
  obtain⟨hy,e'⟩ : y.length<=sizeLine/\k=((y.length:Int) != 0):=e
  subst e'
  exact PySem.P.truthy_str (by walk_at"o") ⟨H,I.tok _,q⟩
 | byt y =>
  obtain⟨t,rfl⟩:=rx
  obtain⟨hy,e'⟩ : y.size<=sizeLine/\k=((y.size:Int) != 0):=e
  subst e'
  exact PySem.W.truthy_bytes (by walk_at"o") ⟨H,I.tok _,q⟩
 | ref p =>
  cases rx
  have e':(∃ xs,jQ X.K H p xs/\k = !xs.isEmpty)\/(∃ xs,qj X.K H p xs/\k = !xs.isEmpty) \/ ∃ kvs,H p=some (.dK kvs)/\k = !kvs.isEmpty:=e
  rcases e' with ⟨xs,hx,e'⟩|⟨xs,hx,e'⟩|⟨kvs,hx,e'⟩
  ·subst e'
   obtain⟨its,r,pl,hz⟩:=I.list hx
   have hlen:=r.length
   exact wpAny_truthy_list pl.isList (by simp only[List.size_toArray];walk_at"o") ⟨H,I.tok _,by rw[pJ r];exact q⟩
  ·subst e'
   obtain⟨its,r,pl,hz⟩:=I.tuple hx
   have hlen:=r.length
   exact truthy_tuple pl (by simp only[List.size_toArray];walk_at"o") ⟨H,I.tok _,by rw[pJ r];exact q⟩
  ·subst e'
   obtain⟨hz,hS,vs,r,m⟩ : kvs.length<=sizeLine/\(p == sysModules)=false /\ ∃ vs,KV kvs vs/\s.heap.DictOf (rW X.prog X.w) p vs:=I.hok p _ hx
   have hlen:kvs.length=vs.length:=Paired.length r
   exact wpAny_truthy_dict hS m (by walk_at"o") ⟨H,I.tok _,by rw[u6 r];exact q⟩
 | _=>exact (show False from e).elim
theorem y9(ha:PE X a ta)(he:∀ whole,isTrue a X.env whole=(do let v <- whole;standAt a.pos;holding [v] (truthy v))) :
  PT X a (fun σ H Q=>ta σ H fun x H'=>∃ k,sV X.K x H' k/\Q k H'):=by
 intro pins s σ H Q I h
 exact isTrue_plain (dE (ha pins s σ H _ I h) fun v s1 ⟨x,H1,I1,r1,q1⟩=>uL pins s1 σ H1 x v Q I1 r1 q1) (he _)
theorem xA{x:V}{us:List Value}(r:bQ [x] us):∃ u,us=[u]/\cw x u:=by
 cases r with
 | cons r1 r2=>cases r2;exact⟨_,rfl,r1⟩
theorem yT{x y:V}{us:List Value}(r:bQ [x,y] us):∃ u w',us=[u,w']/\cw x u/\cw y w':=by
 cases r with
 | cons r1 r2 =>
  cases r2 with
  | cons r3 r4=>cases r4;exact⟨_,_,rfl,r1,r3⟩
theorem oY:eZ X (.builtin "abs") (fun xs H Q=>∃ i,xs=[.int i]/\Q (.int (if i<0 then -i else i)) H):=by
 intro pins s σ H xs us Q I r h
 obtain⟨i,rfl,q⟩:=h
 obtain⟨u,rfl,t,rfl⟩:=xA r
 exact call_abs_int fun u tk=>⟨.int (if i<0 then -i else i),H,I.tok _,⟨_,rfl⟩,q⟩
theorem qq(hc:X.calm=true):eZ X (.builtin "max") (fun xs H Q=>∃ i j,xs=[.int i,.int j]/\Q (.int (if j > i then j else i)) H):=by
 intro pins s σ H xs us Q I r h
 obtain⟨i,j,rfl,q⟩:=h
 obtain⟨u,w',rfl,⟨t,rfl⟩,⟨t',rfl⟩⟩:=yT r
 refine max_two_ints (I.ok.hd hc) fun h' tk k=>⟨_,H,I.kept k,?_,q⟩
 by_cases hj:j > i
 ·rw[if_pos hj,if_pos hj];exact⟨_,rfl⟩
 ·rw[if_neg hj,if_neg hj];exact⟨_,rfl⟩
theorem ya(hc:X.calm=true):eZ X (.builtin "min") (fun xs H Q=>∃ i j,xs=[.int i,.int j]/\Q (.int (if j<i then j else i)) H):=by
 intro pins s σ H xs us Q I r h
 obtain⟨i,j,rfl,q⟩:=h
 obtain⟨u,w',rfl,⟨t,rfl⟩,⟨t',rfl⟩⟩:=yT r
 refine min_two_ints (I.ok.hd hc) fun h' tk k=>⟨_,H,I.kept k,?_,q⟩
 by_cases hj:j<i
 ·rw[if_pos hj,if_pos hj];exact⟨_,rfl⟩
 ·rw[if_neg hj,if_neg hj];exact⟨_,rfl⟩
end
end L2
namespace L2
open PySem PySem.Spec PyProof.Rows
structure Fd (h:Heap)(x dx C:Addr)(mA:Str->Option Value):Prop where
 obj:h.get? x=some (PySem.W.instObj C dx)
 ns:h.Ns1 dx mA
 ne:dx ≠ x
theorem xQ{h:Heap}{dx:Addr}{mA:Str->Option Value}(n:h.Ns1 dx mA):∃ od,h.get? dx=some od /\ ∀ name,PySem.W.lookIn name od=some (mA name):=by
 obtain⟨o,es,ep,ho,hd,hk,_,hm⟩:=n
 refine⟨o,ho,fun name=>?_⟩
 have e:=hm name
 unfold nsFind findBy at e
 rw[<- Array.find?_toList] at e
 unfold PySem.W.lookIn
 rw[hd]
 dsimp only
 split
 ·rename_i y q
  rw[q] at e
  exact congrArg some e
 ·rename_i q
  rw[q] at e
  have a:es.toList.any (·.refKey)=false:=by
   rw[List.any_eq_false]
   intro y hy
   obtain⟨z,t,hkey⟩:=hk y (Array.mem_toList_iff.mp hy)
   simp[DictEntry.refKey,hkey]
  have a':¬ es.toList.any (·.refKey)=true:=by rw[a];exact Bool.false_ne_true
  rw[if_neg a']
  exact congrArg some e
theorem Fd.look{h:Heap}{x dx C:Addr}{mA:Str->Option Value}(I:Fd h x dx C mA):∃ od,PySem.W.InstAt h x (PySem.W.instObj C dx) C (some od) /\ ∀ name,PySem.W.lookIn name od=some (mA name) :=
 let ⟨od,ho,hl⟩:=xQ I.ns
 ⟨od,⟨I.obj,rfl,rfl,ho⟩,hl⟩
section
variable {prog:Program}{w:World}{A:Around}{E:Value->Shared->Prop}{s:Shared}{K:W.Frag}{x dx C f:Addr}{mA:Str->Option Value}{name:Str}{v:Value}
end
section
variable {P:Program}{w:World}{H H':Hp}{h h':Heap}{a C dx:Addr}{fs fs':List (Str × V)}
theorem CI(hok:ow P w H h)(e:H a=some (.ins C dx fs)):∃ mA,Fd h a dx C mA/\(∀ f,DL (fs.lookup f) (mA f))/\PySem.Within mA (fs.map (·.1))/\fs.length<=1000/\H dx=some (.own a):=by
 obtain⟨d,z,ne,ob,mA,n,r,q⟩:=(show fc P w H h a (.ins C dx fs) from hok a _ e)
 exact⟨mA,⟨ob,n,ne⟩,r,q,z,d⟩
end
structure Hr (K:W.Frag)(C:Addr):Prop where
 pg:PySem.W.plainGet K C Str.empty=true
 hd:PySem.W.hasDictIn K C=true
 po:PySem.W.plainOver K C=true
 sa:PySem.W.findIn K (.ref C) "__setattr__" = some (some (.builtin "object.__setattr__"))
theorem Hr.get{K:W.Frag}{C:Addr}(c:Hr K C)(f:Str):PySem.W.plainGet K C f=true:=c.pg
section
variable {X:Cx}{pins:List (Addr × Obj)}{σ:St}{H:Hp}{s:Shared}{a C dx:Addr}{fs:List (Str × V)}{f:Str}{v:V}{A:Around}{E:Value->Shared->Prop}
end
section
variable {X:Cx}{o e value:Expr}{f:Str}{pos pos' tpos:Pos}{ta tv:TE}
end
section
variable {X:Cx}{pins:List (Addr × Obj)}{σ:St}{H:Hp}{s:Shared}{A:Around}{E:Value->Shared->Prop}{Q:Value->Shared->Prop}{c:Value}{b:Bool}
inductive nY (K:W.Frag)(H:Hp):V->Value->Prop where
 | non:nY K H .non (.type "NoneType")
 | bl (x:Bool):nY K H (.bl x) (.type "bool")
 | int (i:Int):nY K H (.int i) (.type "int")
 | str (x:Str):nY K H (.str x) (.type "str")
 | flt (x:UInt64):nY K H (.flt x) (.type "float")
 | lst {a:Addr}{xs:List V}(e:H a=some (.lst xs)):nY K H (.ref a) (.type "list")
 | frz {a:Addr}{o:Obj}{xs:List V}(e:H a=some (.frz o (.lst xs))):nY K H (.ref a) (.type "list")
 | tup {a:Addr}{xs:List V}(e:H a=some (.tup xs)):nY K H (.ref a) (.type "tuple")
 | dK {a:Addr}{kvs:List (sS × V)}(e:H a=some (.dK kvs)):nY K H (.ref a) (.type "dict")
 | dT {a:Addr}{kvs:List (List sS × V)}(e:H a=some (.dT kvs)):nY K H (.ref a) (.type "dict")
 | ins {a C dx:Addr}{fs:List (Str × V)}(e:H a=some (.ins C dx fs))(cl:Hr K C)(ha:PySem.W.findIn K (.ref C) "__class__" = some (some (.builtin "object.__class__")))
   (hn:PySem.W.specialIn K (.builtin "object.__class__") "__get__" = some (some (.builtin "getset_descriptor.__get__"))) (htk:PySem.W.takesIn K (.builtin "object.__class__")=some true)
   (hm:PySem.W.mroIn K C (.type "object")=some true):nY K H (.ref a) (.ref C)
theorem fZ{x:V}{u t:Value}(I:aT X pins σ H s)(rx:cw x u)(ty:nY X.K H x t)(e:PySem.W.kitOne X.K t c=some b)(h:∀ tk,Q (.bool b) { s with toks:=tk }) :
  wpAny (model X.prog X.w) A (call (.builtin "isinstance") [u,c]) Q E s:=by
 cases ty with
 | non=>cases (show u=Value.none from rx);exact PySem.W.kia_one PySem.W.kitx_none I.kIn True.intro e (fun z=>nomatch z) h
 | bl y=>cases (show u=Value.bool y from rx);exact PySem.W.kia_one PySem.W.kitx_bool I.kIn True.intro e (fun z=>nomatch z) h
 | int i=>obtain⟨t,q⟩:=(show ∃ t,u=Value.int i t from rx);cases q;exact PySem.W.kia_one PySem.W.kitx_int I.kIn True.intro e (fun z=>nomatch z) h
 | str y=>obtain⟨t,q⟩:=(show ∃ t,u=Value.str y t from rx);cases q;exact PySem.W.kia_one PySem.W.kitx_str I.kIn True.intro e (fun z=>nomatch z) h
 | flt y=>obtain⟨t,q⟩:=(show ∃ t,u=Value.float y t from rx);cases q;exact PySem.W.kia_one PySem.W.kitx_float I.kIn True.intro e (fun z=>nomatch z) h
 | @lst a xs ea =>
  cases (show u=Value.ref a from rx)
  obtain⟨_,_,n,_,h1⟩:=(show fc X.prog X.w H s.heap a (.lst xs) from I.hok a _ ea)
  exact PySem.W.kia_one PySem.W.kitx_list I.kIn ⟨_,h1,rfl⟩ e (fun z=>nomatch z) h
 | @frz a ob xs ea =>
  cases (show u=Value.ref a from rx)
  obtain⟨_,_,_,n,_,h1⟩:=(show fc X.prog X.w H s.heap a (.frz ob (.lst xs)) from I.hok a _ ea)
  exact PySem.W.kia_one PySem.W.kitx_list I.kIn ⟨_,h1,rfl⟩ e (fun z=>nomatch z) h
 | @tup a xs ea =>
  cases (show u=Value.ref a from rx)
  obtain⟨_,_,_,p⟩:=(show fc X.prog X.w H s.heap a (.tup xs) from I.hok a _ ea)
  obtain⟨o,h1,h2,_⟩:=p
  exact PySem.W.kia_one PySem.W.kitx_tuple I.kIn ⟨o,h1,h2⟩ e (fun z=>nomatch z) h
 | @dK a kvs ea =>
  cases (show u=Value.ref a from rx)
  obtain⟨_,_,vs,_,p⟩:=(show fc X.prog X.w H s.heap a (.dK kvs) from I.hok a _ ea)
  obtain⟨o,es,ep,h1,h2,_⟩:=p
  exact PySem.W.kia_one PySem.W.kitx_dict I.kIn ⟨o,h1,h2.1⟩ e (fun z=>nomatch z) h
 | @dT a kvs ea =>
  cases (show u=Value.ref a from rx)
  obtain⟨_,_,xs,_,o,es,ep,h1,h2,_⟩:=(show fc X.prog X.w H s.heap a (.dT kvs) from I.hok a _ ea)
  exact PySem.W.kia_one PySem.W.kitx_dict I.kIn ⟨o,h1,h2.1⟩ e (fun z=>nomatch z) h
 | @ins a C dx fs ea cl ha hn htk hm =>
  cases (show u=Value.ref a from rx)
  obtain⟨mA,O,_⟩:=CI I.hok ea
  obtain⟨od,J,_⟩:=O.look
  exact PySem.W.kia_one (PySem.W.kitx_own (cl.get _) cl.hd ha hn htk hm) I.kIn J e (fun z=>nomatch z) h
end
end L2
namespace L2
open PySem PySem.Spec PyProof.Rows
structure gy (k:Nat)(A:Around):Prop where
 hd:A.handled=none
 dp:A.depth+3*k+105<recursionLimit
 un:A.units+16*k+200<cLine
theorem gy.mono{j k:Nat}{A:Around}(r:gy k A)(h:j<=k):gy j A:=⟨r.hd,by have:=r.dp;walk_at"o",by have:=r.un;walk_at"o"⟩
theorem gy.deeper{k:Nat}{A:Around}(r:gy (k+1) A)(env:Env):gy k (A.deeper env) :=
 ⟨r.hd,by have:=r.dp;show A.depth+1+3*k+105<_;walk_at"o",by have:=r.un;show A.units+3+16*k+200<_;walk_at"o"⟩
theorem gy.depth{k:Nat}{A:Around}(r:gy k A):A.depth<recursionLimit:=by have:=r.dp;walk_at"o"
def oV:TA:=fun _ H Q=>Q [] H
def dQ(ta:TE)(tr:TA):TA:=fun σ H Q=>ta σ H fun x H1=>tr σ H1 fun xs H2=>Q (x :: xs) H2
section
variable {X:Cx}{e:Expr}{es:List Expr}{te:TE}{t:TA}{pos:Pos}
theorem Fy:PA X [] oV:=fun _ _ _ _ H Q I h=>Calls.spliced_nil ⟨[],H,I,.nil,h⟩
theorem Cj(ha:PE X e te)(hr:PA X es t)(hs:starEach (e :: es) X.env=(false,eval e X.env) :: starEach es X.env:=by rfl):PA X (e :: es) (dQ te t):=by
 intro pos pins s σ H Q I h
 rw[hs]
 show wpAny _ _ (spliced ((false,eval e X.env) :: backTo pos (starEach es X.env))) _ _ s
 refine Calls.spliced_cons (dE (ha pins s σ H _ I h) fun u s1 ⟨x,H1,I1,r1,q1⟩=>?_)
 exact dE (hr pos pins s1 σ H1 _ I1 q1) fun us s2 ⟨xs,H2,I2,r2,q2⟩=>⟨x :: xs,H2,I2,.cons r1 r2,q2⟩
end
abbrev Sp:=List V->Hp->VK->XK->Prop
abbrev yk:=List Env->Hp->Shared->XK->Value->Shared->Prop
structure BK (P:Program)(w:World)(K:W.Frag)(mg:Str->Option Value)(base:Heap)(A:Around)(outer:List Env)(s:Shared)(H:Hp):Prop where
 frames:A.frames=some outer
 mod:Mod K mg base
 bs:∀ b o,base.get? b=some o->s.heap.get? b=some o/\H b=none
 bsz:base.objs.size<=s.heap.objs.size
 funs:s.heap.FunFrames base outer
 frf:∀ b ∈ yo outer,H b=none
 hok:ow P w H s.heap
 bare:AllBare s.gens
def CE(outer:List Env)(P:Program)(w:World)(H:Hp)(s:Shared)(Q:VK)(u:Value)(s':Shared):Prop :=
 ∃ v H',s'.os=s.os/\AllBare s'.gens/\Un (yo outer) [] H H' s.heap s'.heap/\ow P w H' s'.heap/\cw v u/\Q v H'
def CR(CX:yk)(outer:List Env)(P:Program)(w:World)(H:Hp)(s:Shared)(Q:VK)(E:XK)(r:Result)(s':Shared):Prop :=
 match r with
 | .ok (.ret u)=>CE outer P w H s Q u s'
 | .ok _=>False
 | .error e=>CX outer H s E e s'
structure bU (P:Program)(w:World)(K:W.Frag)(mg:Str->Option Value)(base:Heap)(CX:yk)(k:Nat)(f:Addr)(fd:FuncData)(ps:List Str)(sp:Sp):Prop where
 len:∀ vs H Q E,sp vs H Q E->vs.length=ps.length
 run:∀ (A:Around)(outer:List Env)(s:Shared)(H:Hp)(args:Args)(us:List Value)(vs:List V)(Q:VK)(E:XK),gy k A->BK P w K mg base A outer s H->BindsTo s fd args (ps.zip us)->bQ vs us->sp vs H Q E ->
  codeAny (model P w) A (.call (.ref f) args) (CR CX outer P w H s Q E) s
section
variable {X:Cx}{pins:List (Addr × Obj)}{σ:St}{H:Hp}{s s':Shared}
theorem aT.env0(I:aT X pins σ H s):BK X.prog X.w X.K X.mg X.base X.A X.stack s H :=
 ⟨I.ok.frames,I.ok.mod,I.bs,Nat.le_trans I.ok.bsz I.sz,I.stack,I.stkFree,I.hok,I.bare⟩
theorem aT.after{Q:VK}{u:Value}(I:aT X pins σ H s)(h:CE X.stack X.prog X.w H s Q u s'):EP X pins σ Q u s':=by
 obtain⟨v,H',os,bare,un,hok,r,q⟩:=h
 obtain⟨hh,g,d,t,os'⟩:=s'
 obtain rfl:os'=s.os:=os
 exact⟨v,H',I.call (h':=hh) (g':=g) (d':=d) (t':=t) (ch:=[]) un hok bare (fun b z=>absurd z (by simp)),r,q⟩
end
def GD(sp:Sp)(dvs:List V)(E:XK)(t:TA):TE:=fun σ H Q=>t σ H fun vs H1=>sp (vs ++ dvs) H1 Q E
def qJ(K:W.Frag)(fd:FuncData)(ps:List Str)(ds:List Value):Prop :=
 ∀ (s:Shared)(us:List Value),K.In s.heap->(us ++ ds).length=ps.length->BindsTo s fd ⟨us,[]⟩ (ps.zip (us ++ ds))
theorem qJ.all{K:W.Frag}{fd:FuncData}{ps:List Str}(h:∀ us:List Value,us.length=ps.length->bindArgs fd ⟨us,[]⟩=pure (ps.zip us)):qJ K fd ps []:=fun s us _ hl=>by
 rw[List.append_nil] at hl ⊢
 exact .of_eq (h us hl)
def vC(CX:yk)(X:Cx)(E:XK):Prop:=∀(pins:List (Addr × Obj))(σ:St)(H:Hp)(s:Shared)(e:Value)(s':Shared),aT X pins σ H s->CX X.stack H s E e s'->X.xe e s'
section
variable {X:Cx}{CX:yk}{k:Nat}{f C:Addr}{fd:FuncData}{ps:List Str}{sp:Sp}{dvs:List V}{ds:List Value}{E:XK}{x m:Str}{p pos apos:Pos}{e o:Expr}{es:List Expr}{ta:TE}{t:TA}
theorem EZ{pins:List (Addr × Obj)}{σ:St}{H:Hp}{s:Shared}{Q:VK}{us:List Value}{vs:List V}(F:bU X.prog X.w X.K X.mg X.base CX k f fd ps sp)(hr:gy k X.A)(hb:qJ X.K fd ps ds)(hd:bQ dvs ds)(hx:vC CX X E)
  (I:aT X pins σ H s)(r:bQ vs us)(h:sp (vs ++ dvs) H Q E):wpAny (model X.prog X.w) X.A (call (.ref f) us) (EP X pins σ Q) X.xe s:=by
 have r2:bQ (vs ++ dvs) (us ++ ds):=r.append hd
 have hl:(us ++ ds).length=ps.length:=by rw[<- r2.length];exact F.len _ _ _ _ h
 refine wpAny_call (codeAny_mono (F.run X.A X.stack s H ⟨us,[]⟩ (us ++ ds) (vs ++ dvs) Q E hr I.env0 (hb s us I.kIn hl) r2 h) fun r s' hq=>?_)
 cases r with
 | error e=>exact hx pins σ H s e s' I hq
 | ok fl =>
  cases fl with
  | ret u=>exact I.after hq
  | next=>exact False.elim hq
  | brk=>exact False.elim hq
  | cont=>exact False.elim hq
theorem Bb(F:bU X.prog X.w X.K X.mg X.base CX k f fd ps sp)(hr:gy k X.A)(hg:Gl X x)(hm:X.mg x=some (.ref f))(hk:PySem.W.keepIn X.K (.ref f)=true)(hb:qJ X.K fd ps ds)(hd:bQ dvs ds)(hx:vC CX X E)
  (ha:PA X (e :: es) t)(hdb:(x == ("__debug__" : Str))=false:=by decide) (he:starEach (e :: es) X.env=(false,eval e X.env) :: starEach es X.env:=by rfl)(hpl:(backTo pos (starEach es X.env)).any (·.1)=false:=by rfl) :
  PE X (.Call (.Name x p) (e :: es) [] pos) (GD sp dvs E t):=by
 intro pins s σ H Q I h
 refine wpAny_Call_Name_kw (wI I hg hm ?_ hdb)
 refine PySem.W.callWith_K (h₀:=X.base) I.ok.mod.kin hk (dE (ha pos pins s σ H _ I h) fun us s1 ⟨vs,H1,I1,r,q⟩=>⟨I1.kIn,?_⟩) he hpl
 exact EZ F hr hb hd hx I1 r q
end
section
variable {X:Cx}{CX:yk}{k:Nat}{f C:Addr}{fd:FuncData}{ps ks:List Str}{sp:Sp}{E:XK}{x m:Str}{p pos apos kpos:Pos}{e o:Expr}{es:List Expr}{kws:List Keyword}{te ta:TE}{t tk:TA}{nm:Option Str}
variable {g:List Value->List Value->List Value}{gV:List V->List V->List V}
end
structure aB (N P:List Str)(sc:Scope):Prop where
 kind:sc.kind = .function
 co:sc.isCoroutine=false
 gen:sc.isGenerator=false
 nd:N.Nodup
 pre:N.take P.length=P
 par:∀ x ∈ P,sc.names.lookup x=some .local\/sc.names.lookup x=some .cell
 nofree:∀ y ∈ sc.names,y.2 ≠ .free
theorem rh{kindOf:Str->Option NameKind}{x:Str}:∀ {binds:List (Str × Value)}{m:Str->Option Value},(∀ v,(x,v) ∉ binds)->bindL kindOf binds m x=m x
 | [],_,_=>rfl
 | (n,v) :: r,m,h=>by
  unfold bindL
  rw[rh fun w hw=>h w (List.mem_cons_of_mem _ hw)]
  split
  ·have:x ≠ n:=by rintro rfl;exact h v List.mem_cons_self
   simp[this]
  ·rfl
theorem qx{kindOf:Str->Option NameKind}{x:Str}:∀ {binds:List (Str × Value)}{m:Str->Option Value},(∀ v,(x,v) ∉ binds)->bindC kindOf binds m x=m x
 | [],_,_=>rfl
 | (n,v) :: r,m,h=>by
  unfold bindC
  rw[qx fun w hw=>h w (List.mem_cons_of_mem _ hw)]
  split
  ·rfl
  ·have:x ≠ n:=by rintro rfl;exact h v List.mem_cons_self
   simp[this]
theorem qN{kindOf:Str->Option NameKind}{x:Str}{v:Value}:∀ {P:List Str}{vs:List Value}{i:Nat}{m:Str->Option Value},P.Nodup->P[i]? = some x->vs[i]? = some v->kindOf x=some .local ->
  bindL kindOf (P.zip vs) m x=some v
 | [],_,_,_,_,h,_,_=>by simp at h
 | _ :: _,[],_,_,_,_,h,_=>by simp at h
 | p :: P,w :: vs,0,m,nd,h1,h2,hk=>by
  simp at h1 h2;subst h1;subst h2
  show bindL kindOf ((p,w) :: P.zip vs) m p=_
  unfold bindL
  rw[rh fun v hv=>(List.nodup_cons.mp nd).1 (List.of_mem_zip hv).1,if_pos hk]
  simp
 | p :: P,w :: vs,i+1,m,nd,h1,h2,hk=>by
  show bindL kindOf ((p,w) :: P.zip vs) m x=_
  unfold bindL
  exact qN (i:=i) (List.nodup_cons.mp nd).2 (by simpa using h1) (by simpa using h2) hk
theorem qE{kindOf:Str->Option NameKind}{x:Str}{v:Value}:∀ {P:List Str}{vs:List Value}{i:Nat}{m:Str->Option Value},P.Nodup->P[i]? = some x->vs[i]? = some v->kindOf x ≠ some .local ->
  bindC kindOf (P.zip vs) m x=some v
 | [],_,_,_,_,h,_,_=>by simp at h
 | _ :: _,[],_,_,_,_,h,_=>by simp at h
 | p :: P,w :: vs,0,m,nd,h1,h2,hk=>by
  simp at h1 h2;subst h1;subst h2
  show bindC kindOf ((p,w) :: P.zip vs) m p=_
  unfold bindC
  rw[qx fun v hv=>(List.nodup_cons.mp nd).1 (List.of_mem_zip hv).1,if_neg hk]
  simp
 | p :: P,w :: vs,i+1,m,nd,h1,h2,hk=>by
  show bindC kindOf ((p,w) :: P.zip vs) m x=_
  unfold bindC
  exact qE (i:=i) (List.nodup_cons.mp nd).2 (by simpa using h1) (by simpa using h2) hk
def start(N:List Str)(vs:List V):St:=vs.map some ++ List.replicate (N.length - vs.length) none
def sF(CX:yk)(P:Program)(w:World)(K:W.Frag)(mg:Str->Option Value)(base:Heap)(N:List Str)(qual:Str)(scope:Scope)(f:Addr)(cd:Value)(A:Around)(outer:List Env)(s:Shared)(H:Hp)(E:XK):Cx where
 prog:=P
 w:=w
 K:=K
 mg:=mg
 base:=base
 A:=A.deeper (envOfC qual scope s.heap.objs.size f cd)
 N:=N
 s₀:=s
 H₀:=H
 env:=envOfC qual scope s.heap.objs.size f cd
 outer:=outer
 stack:=envOfC qual scope s.heap.objs.size f cd :: outer
 ex:=[]
 calm:=true
 fn:=fun _=>true
 pn:=[]
 xe:=fun e s'=>wpAny (model P w) (A.deeper (envOfC qual scope s.heap.objs.size f cd)) (leaving (envOfC qual scope s.heap.objs.size f cd) e) (fun _ s''=>CX outer H s E e s'') (fun e' s''=>CX outer H s E e' s'') s'
theorem tD{sc:Scope}{n:Nat}{x:Str}(h:sc.names.lookup x=some .cell):∃ c,(cellsFrom n sc.names []).lookup x=some c:=by
 have q:=PySem.W.cellsFrom_some sc.names n [] (.inl h)
 exact Option.isSome_iff_exists.mp q
theorem xS{CX:yk}{P:Program}{w:World}{K:W.Frag}{mg:Str->Option Value}{base:Heap}{N ps:List Str}{qual:Str}{scope:Scope}{f:Addr}{cd:Value}{A:Around}{outer:List Env}{s s1:Shared}{H:Hp}{E:XK}{us:List Value}{vs:List V}
  (S:aB N ps scope)(hd:A.handled=none)(e0:BK P w K mg base A outer s H)(hl:vs.length=ps.length)(r:bQ vs us)
  (x:InCallC s s.heap.objs.size (bindL (envOfC qual scope s.heap.objs.size f cd).kindOf (ps.zip us) fun _=>none) (cellsFrom (s.heap.objs.size+1) scope.names []) (bindC (envOfC qual scope s.heap.objs.size f cd).kindOf (ps.zip us) fun _=>none) s1) :
  aT (sF CX P w K mg base N qual scope f cd A outer s H E) [] (start N vs) H s1:=by
 have hpl:ps.length<=N.length:=by have:=congrArg List.length S.pre;rw[List.length_take] at this;walk_at"o"
 obtain⟨h1,tk,rfl,hk⟩:=x.done
 have noA:∀ b:Addr,b ∉ (sF CX P w K mg base N qual scope f cd A outer s H E).ex:=fun b z=>absurd (show b ∈ ([]:List Addr) from z) (by simp)
 refine⟨⟨e0.mod,S.kind,rfl,rfl,Nat.le_refl _,fun y z c h1 h2=>?_,fun y hy=>?_,fun y c _ h=>?_,fun _=>hd,Around.frames_deeper e0.frames,.inr ⟨rfl,rfl⟩,fun b z=>absurd z (noA b),e0.bs,e0.bsz,fun b _ _=>noA b,fun b z=>absurd z (noA b),e0.funs,e0.frf⟩,
  rfl,e0.bare,Un.kept hk,⟨_,x.toInCall.ns,fun i y v h1 h2 h3=>?_⟩,fun y c h=>⟨_,x.cell y c h⟩,e0.hok.fresh (Nat.le_refl _),fun y c h=>?_,fun p hp=>absurd (show p ∈ ([]:List (Addr × Obj)) from hp) (by simp),e0.hok.kept hk,?_⟩
 ·exact name_of_addr x.apart (PySem.mem_of_lookup h1) (PySem.mem_of_lookup h2)
 ·have hy:scope.names.lookup y=some .cell\/scope.names.lookup y=some .free:=hy
  rcases hy with hy|hy
  ·exact tD hy
  ·exact absurd rfl (S.nofree _ (PySem.mem_of_lookup hy))
 ·exact Nat.le_of_lt (x.above y c (PySem.mem_of_lookup h))
 ·have hi:i<vs.length:=by
   unfold start at h2
   by_cases hi:i<vs.length
   ·exact hi
   ·rw[List.getElem?_append_right (by simpa using hi)] at h2
    rw[List.getElem?_replicate] at h2
    split at h2 <;> cases h2
  have ha:vs[i]? = some v:=by
   unfold start at h2
   rw[List.getElem?_append_left (by simpa using hi),List.getElem?_map] at h2
   cases e:vs[i]? with
   | none=>rw[e] at h2;cases h2
   | some a=>rw[e] at h2;cases h2;rfl
  obtain⟨u,hu,rv⟩:=r.get ha
  have hp:ps[i]? = some y:=by
   rw[<- S.pre,List.getElem?_take_of_lt (by walk_at"o")];exact h1
  have ndP:ps.Nodup:=by rw[<- S.pre];exact S.nd.sublist (List.take_sublist _ _)
  refine⟨u,rv,?_⟩
  rcases S.par y (List.mem_of_getElem? hp) with k|k
  ·exact .inl ⟨k,qN ndP hp hu k⟩
  ·obtain⟨c,e⟩:=tD (n:=s.heap.objs.size+1) k
   refine .inr ⟨.inl k,c,e,?_⟩
   have q:=x.cell y c e
   rw[qE ndP hp hu (by show scope.names.lookup y ≠ _;rw[k];decide)] at q
   exact q
 ·exact e0.hok.fresh (Nat.le_of_lt (x.above y c (PySem.mem_of_lookup h)))
 ·unfold start
  show _=N.length
  rw[List.length_append,List.length_map,List.length_replicate]
  walk_at"o"
theorem FT{CX:yk}{P:Program}{w:World}{K:W.Frag}{mg:Str->Option Value}{base:Heap}{k:Nat}{f:Addr}{name qual:Str}{params:Arguments}{body:List Stmt}{scope:Scope}{dV kV doc pm cdv ct oc:Value}{an od:Option Addr}
  {osl:Array (Option Value)}{N ps:List Str}{sp:Sp}(lk:K.lookup f=some ⟨oc,od,.func (PySem.W.fnOf name qual params body scope dV kV doc pm an cdv ct),osl⟩)(hcd:PySem.W.codeIn K cdv qual=true)(S:aB N ps scope)
  (len:∀ vs H Q E,sp vs H Q E->vs.length=ps.length)
  (hbody:∀ (A:Around)(outer:List Env)(s:Shared)(H:Hp)(vs:List V)(Q:VK)(E:XK),gy k (A.deeper (envOfC qual scope s.heap.objs.size f cdv))->sp vs H Q E ->
   ∃ t,ux (sF CX P w K mg base N qual scope f cdv A outer s H E) body t/\t { nx:=fun _ H'=>Q .non H',rt:=Q } (start N vs) H) :
  bU P w K mg base CX (k+1) f (PySem.W.fnOf name qual params body scope dV kV doc pm an cdv ct) ps sp:=by
 refine⟨len,fun A outer s H args us vs Q E hr e0 hb r hsp=>?_⟩
 have hl:=len _ _ _ _ hsp
 have KX:K.In s.heap:=e0.mod.kin.keeps fun b o e=>(e0.bs b o e).1
 have lim:s.heap.NoLimit:=e0.mod.nolimit.keeps fun b o e=>(e0.bs b o e).1
 have hkind:∀ y ∈ ps.zip us,scope.names.lookup y.1=some .local\/(scope.names.lookup y.1=some .cell/\((cellsFrom (s.heap.objs.size+1) scope.names []).lookup y.1).isSome=true):=fun ⟨n,v⟩ hy=>by
  rcases S.par n (List.of_mem_zip hy).1 with q|q
  ·exact .inl q
  ·exact .inr ⟨q,PySem.W.cellsFrom_some _ _ _ (.inl q)⟩
 refine codeAny_call_function hr.depth (KX _ _ lk) rfl S.co S.gen rfl (PySem.W.codeRec_of KX hcd) (hb _ _ _ _ ?_)
 refine wpAny_newFunctionEnv_cells S.kind hkind fun env he s1 x=>?_
 subst he
 refine⟨lim.keeps x.toInCall.keep,codeAny_func ?_⟩
 obtain⟨t,ht,hq⟩:=hbody A outer s H vs Q E (hr.deeper _) hsp
 have I:aT (sF CX P w K mg base N qual scope f cdv A outer s H E) [] (start N vs) H s1:=xS S hr.hd e0 hl r x
 refine wpAny_mono (ht [] s1 (start N vs) H _ I hq) (fun fl s' hs=>?_) fun e s' hs=>hs
 have fin:∀ {σ':St}{H':Hp}{v:V}{u:Value},aT (sF CX P w K mg base N qual scope f cdv A outer s H E) [] σ' H' s'->cw v u->Q v H'->CE outer P w H s Q u s' :=
  fun {σ' H' v u} J rv q=>⟨v,H',J.os,J.bare,J.base,J.hok,rv,q⟩
 cases fl with
 | ret u =>
  obtain⟨v,σ',H',J,rv,q⟩:=hs
  exact fin J rv q
 | next =>
  obtain⟨σ',H',J,q⟩:=hs
  exact fin (v:=V.non) (u:=Value.none) J rfl q
 | brk =>
  obtain⟨_,_,_,q⟩:=hs
  exact False.elim q
 | cont =>
  obtain⟨_,_,_,q⟩:=hs
  exact False.elim q
end L2
namespace L2
open PySem PySem.Spec PyProof.Rows
section
variable {X:Cx}{x:Str}{p pos:Pos}{e:Expr}{es:List Expr}{t:TA}{id T:String}{r:List V->Hp->VK->Prop}
def A5(r:List V->Hp->VK->Prop)(t:TA):TE:=fun σ H Q=>t σ H fun vs H1=>r vs H1 Q
theorem yU(hc:eZ X (.builtin id) r)(hg:Gl X x)(hm:X.mg x=none)(hv:bootBuiltins x=some (.builtin id))(ha:PA X (e :: es) t)(hn:x ≠ "__name__":=by decide) (hdb:(x == ("__debug__" : Str))=false:=by decide)
  (he:starEach (e :: es) X.env=(false,eval e X.env) :: starEach es X.env:=by rfl)(hpl:(backTo pos (starEach es X.env)).any (·.1)=false:=by rfl):PE X (.Call (.Name x p) (e :: es) [] pos) (A5 r t):=by
 intro pins s σ H Q I h
 refine wpAny_Call_Name_kw (jG I hg hm hv ?_ hn hdb)
 exact PyProof.Rows.callWith_builtin1 (dE (ha pos pins s σ H _ I h) fun us s1 ⟨vs,H1,I1,r1,q1⟩=>hc pins s1 σ H1 vs us Q I1 r1 q1) he hpl
theorem xR(hc:eZ X (.type T) r)(hg:Gl X x)(hm:X.mg x=none)(hv:bootBuiltins x=some (.type T))(ha:PA X (e :: es) t)(hn:x ≠ "__name__":=by decide) (hdb:(x == ("__debug__" : Str))=false:=by decide)
  (he:starEach (e :: es) X.env=(false,eval e X.env) :: starEach es X.env:=by rfl)(hpl:(backTo pos (starEach es X.env)).any (·.1)=false:=by rfl):PE X (.Call (.Name x p) (e :: es) [] pos) (A5 r t):=by
 intro pins s σ H Q I h
 refine wpAny_Call_Name_kw (jG I hg hm hv ?_ hn hdb)
 exact PyProof.Rows.callWith_type1 (dE (ha pos pins s σ H _ I h) fun us s1 ⟨vs,H1,I1,r1,q1⟩=>hc pins s1 σ H1 vs us Q I1 r1 q1) he hpl
end
end L2
namespace HT
open PySem PyProof.Rows
section
open PySem.SeqAt
open PySem.AutoSeq1 (wpAny_loadPart')
open PySem.MeetsSeq PySem.MeetsSeq2 PySem.MeetsSeq3
end
section
variable {prog:Program}{w:World}{A:Around}{E:Value->Shared->Prop}{s:Shared}
theorem cat_tup{t b:Addr}{vs ws:List Value}{Q:Value->Shared->Prop}(ht:IsTup s.heap t vs.toArray)(hb:IsTup s.heap b ws.toArray)(hv:vs ≠ [])
  (h1:ws=[]->Q (.ref t) s)(h2:ws ≠ []->Q (.ref s.heap.objs.size) { s with heap:=s.heap.push { cls:=.type "tuple",data:=.seq (vs ++ ws).toArray } })
  (hsz:vs.length+ws.length<=sizeLine):wpAny (model prog w) A (binaryOp .Add (.ref t) (.ref b)) Q E s:=by
 obtain⟨⟨cls,dd,data,sl⟩,ho,hc,n,hd⟩:=id ht
 obtain⟨⟨cls2,dd2,data2,sl2⟩,ho2,hc2,n2,hd2⟩:=id hb
 simp only at hc hd hc2 hd2
 subst hc hd hc2 hd2
 have e:vs.toArray ++ ws.toArray=(vs ++ ws).toArray:=by simp
 by_cases hw:ws=[]
 ·exact concat_meets ⟨_,ho,rfl⟩ ⟨_,ho2,rfl⟩ noFill_tuple_add seq_tuple_add PySem.F.slot_tuple_add PySem.F.entry_tuple_add (PySem.F.args_tuple_add_2 _ _)
   (tuple_addW1 t b vs.toArray ws.toArray n n2 dd dd2 sl sl2 (by simpa using hv) (by simp[hw])) ⟨ho,ho2,h1 hw⟩
 ·refine concat_meets ⟨_,ho,rfl⟩ ⟨_,ho2,rfl⟩ noFill_tuple_add seq_tuple_add PySem.F.slot_tuple_add PySem.F.entry_tuple_add (PySem.F.args_tuple_add_2 _ _)
   (tuple_addW2 t b vs.toArray ws.toArray n n2 dd dd2 sl sl2 (by simpa using hv) (by simpa using hw) (by rw[List.size_toArray,List.size_toArray];exact hsz)) ⟨ho,ho2,?_⟩
  rw[e]
  exact h2 hw
def sIx(n d:Nat):Option Int->Nat
 | none=>d
 | some v=>if v<0 then (v+(n:Int)).toNat else min v.toNat n
theorem rN(n d k:Nat):sIx n d (some (k:Int))=min k n:=by
 show (if (k:Int)<0 then ((k:Int)+(n:Int)).toNat else min (k:Int).toNat n)=min k n
 rw[if_neg (by walk_at"o"),Int.toNat_natCast]
theorem Ex(n d:Nat)(hd:d<=n)(o:Option Int):sIx n d o<=n:=by
 cases o with
 | none=>exact hd
 | some v =>
  show (if v<0 then (v+(n:Int)).toNat else min v.toNat n)<=n
  by_cases hv:v<0
  ·rw[if_pos hv];walk_at"o"
  ·rw[if_neg hv];exact Nat.min_le_right _ _
theorem vN(v:Int)(n d:Nat):(if v<0 then max (v+(n:Int)) 0 else min v (n:Int))=((sIx n d (some v):Nat):Int):=by
 show (if v<0 then max (v+(n:Int)) 0 else min v (n:Int))=(((if v<0 then (v+(n:Int)).toNat else min v.toNat n):Nat):Int)
 by_cases hv:v<0
 ·simp only[if_pos hv];walk_at"o"
 ·simp only[if_neg hv];walk_at"o"
theorem uX(lo hi:Option Int)(n:Nat):Builtin.Slice.sliceAdjust lo hi 1 (n:Int)=(((sIx n 0 lo:Nat):Int),((sIx n n hi:Nat):Int)):=by
 have h1:¬ ((1:Int)<0):=by walk_at"o"
 unfold Builtin.Slice.sliceAdjust
 simp only[h1,if_false]
 refine Prod.ext ?_ ?_
 ·cases lo with
  | none=>rfl
  | some v=>exact vN v n 0
 ·cases hi with
  | none=>rfl
  | some v=>exact vN v n n
theorem vk (i j:Nat):Builtin.Slice.slicePlaces (i:Int) (j:Int) 1=j - i:=by
 unfold Builtin.Slice.slicePlaces
 have h1:(1:Int) > 0:=by walk_at"o"
 simp only[h1,if_true,Int.ediv_one]
 split <;> walk_at"o"
theorem pC{v:Value}{o:Option Int}{Q:Option Int->Shared->Prop}(p:IsPart v o)(h:Q o s):wpAny (model prog w) A (Builtin.Slice.slicePartIndex v) Q E s:=by
 cases p with
 | none=>exact slicePart_none h
 | int i t=>exact slicePart_int h
theorem nr{sl:Addr}{vl vu:Value}{lo hi:Option Int}{n:Nat}{Q:Int × Int × Nat->Shared->Prop}(hs:s.heap.IsSliceOf sl vl vu .none)(pl:IsPart vl lo)(pu:IsPart vu hi)
  (h:Q (((sIx n 0 lo:Nat):Int),1,sIx n n hi - sIx n 0 lo) s):wpAny (model prog w) A (Builtin.Slice.sliceApplied (.ref sl) (pure (n:Int))) Q E s:=by
 obtain⟨os,hos,hcs,hds⟩:=id hs
 unfold Builtin.Slice.sliceApplied Builtin.Slice.sliceFields
 refine wpAny_bind (wpAny_bind (wpAny_field hos hds (x:=vl) rfl (wpAny_bind (wpAny_field hos hds (x:=vu) rfl (wpAny_bind (wpAny_field hos hds (x:=.none) rfl (wpAny_pure ?_)))))))
 refine wpAny_bind (slicePart_none ?_)
 show wpAny _ _ (if ((1:Int) == 0)=true then _ else _) _ _ s
 rw[if_neg (by decide)]
 refine wpAny_bind (pC pl (wpAny_bind (pC pu (wpAny_bind (wpAny_pure ?_)))))
 show wpAny _ _ (match Builtin.Slice.sliceAdjust lo hi 1 (n:Int) with|(lo,hi)=>pure (lo,(1:Int),Builtin.Slice.slicePlaces lo hi 1)) _ _ s
 rw[uX lo hi n]
 show wpAny _ _ (pure (((sIx n 0 lo:Nat):Int),(1:Int),Builtin.Slice.slicePlaces ((sIx n 0 lo:Nat):Int) ((sIx n n hi:Nat):Int) 1)) _ _ s
 rw[vk]
 exact wpAny_pure h
theorem zg(xs:Array Value)(i k:Nat):((List.range k).filterMap fun (m:Nat)=>xs[((i:Int)+(m:Int)*1).toNat]?).toArray=((xs.toList.drop i).take k).toArray:=by
 have e:(fun (m:Nat)=>xs[((i:Int)+(m:Int)*1).toNat]?)=fun m=>xs[i+m]?:=by
  funext m
  have:((i:Int)+(m:Int)*1).toNat=i+m:=by walk_at"o"
  rw[this]
 rw[e]
 have:=pick_run xs i k
 rw[List.filterMap_map] at this
 have e2:((fun x=>xs[x]?) ∘ fun x=>i+x)=fun m=>xs[i+m]?:=rfl
 rw[e2] at this
 rw[this]
theorem getItem_tuple_cut{t sl:Addr}{items:Array Value}{vl vu:Value}{lo hi:Option Int}{Q:Value->Shared->Prop}(ht:IsTup s.heap t items)(hs:s.heap.IsSliceOf sl vl vu .none)(pl:IsPart vl lo)(pu:IsPart vu hi)
  (hw:¬ (sIx items.size 0 lo=0/\sIx items.size items.size hi=items.size))
  (h:Q (.ref s.heap.objs.size) { s with heap:=s.heap.push { cls:=.type "tuple",data:=.seq ((items.toList.drop (sIx items.size 0 lo)).take (sIx items.size items.size hi - sIx items.size 0 lo)).toArray } })
  (hsz:items.size<=sizeLine):wpAny (model prog w) A (getItem (.ref t) (.ref sl)) Q E s:=by
 have htake:sizeOk (.seq ((items.toList.drop (sIx items.size 0 lo)).take (sIx items.size items.size hi - sIx items.size 0 lo)).toArray):=by
  show ((items.toList.drop (sIx items.size 0 lo)).take (sIx items.size items.size hi - sIx items.size 0 lo)).toArray.size<=sizeLine
  rw[List.size_toArray,List.length_take,List.length_drop,Array.length_toList]
  walk_at"o"
 have hj:sIx items.size items.size hi<=items.size:=Ex _ _ (Nat.le_refl _) hi
 obtain⟨os,hos,hcs,hds⟩:=id hs
 have hTs:s.TypeIs (.ref sl) "slice":=⟨os,hos,hcs⟩
 unfold getItem
 try with_reducible refine wpAny_holding ?_
 first|refine wpAny_bind (wpAny_pure ?_)|skip
 refine wpAny_bind (wpAny_sequenceKey ht.typeIs (by decide) ?_)
 refine wpAny_bind (wpAny_callSpecial?_slot (name:=Str.ofString "__getitem__") ht.typeIs PyProof.Rows.slot_tuple_getitem
  (wpAny_call_entry PyProof.Rows.slot_tuple_getitem ht.typeIs entry_tuple_getitem ?_ (args_tuple_getitem _ _)))
 show wpAny _ _ (Builtin.Tuple.tupleItemsOf (.ref t) >>= _) _ _ s
 refine wpAny_bind (tupleItemsOf_ ht ?_)
 refine wpAny_bind (wpAny_typeOf hTs ?_)
 rw[if_pos (by decide)]
 refine wpAny_bind (nr hs pl pu ?_)
 have hno:¬ ((((sIx items.size 0 lo:Nat):Int) == 0 && (1:Int) == 1 && (sIx items.size items.size hi - sIx items.size 0 lo) == items.size)=true):=by
  intro q
  rw[Bool.and_eq_true,Bool.and_eq_true] at q
  have q1:((sIx items.size 0 lo:Nat):Int)=0:=eq_of_beq q.1.1
  have q2:sIx items.size items.size hi - sIx items.size 0 lo=items.size:=eq_of_beq q.2
  exact hw ⟨by walk_at"o",by walk_at"o"⟩
 show wpAny _ _ (if (((sIx items.size 0 lo:Nat):Int) == 0 && (1:Int) == 1 && (sIx items.size items.size hi - sIx items.size 0 lo) == items.size)=true then _ else _) _ _ s
 rw[if_neg hno,zg]
 first
  | exact wpAny_bind (m:=Builtin.Tuple.tupleExact _) (wpAny_newObj_type (wpAny_pure ⟨_,rfl,wpAny_pure h⟩) htake)
  | exact wpAny_bind (m:=Builtin.Tuple.tupleExact _) (wpAny_newObj_type (wpAny_bind (wpAny_pure (wpAny_pure ⟨_,rfl,wpAny_pure h⟩))) htake)
  | exact wpAny_bind (wpAny_bind (m:=Builtin.Tuple.tupleExact _) (wpAny_newObj_type (wpAny_pure (wpAny_pure ⟨_,rfl,wpAny_pure h⟩)) htake))
  | exact wpAny_bind (wpAny_bind (m:=Builtin.Tuple.tupleExact _) (wpAny_newObj_type (wpAny_pure ⟨_,rfl,wpAny_pure h⟩) htake))
end
end HT
namespace L2
open PySem PySem.Spec PyProof.Rows
abbrev TO:=St->Hp->(Option Int->Hp->Prop)->Prop
def PO(X:Cx)(e:Option Expr)(t:TO):Prop :=
 ∀ (pins:List (Addr × Obj))(s:Shared)(σ:St)(H:Hp)(Q:Option Int->Hp->Prop),aT X pins σ H s->t σ H Q ->
  wpAny (model X.prog X.w) X.A (evalPart e X.env) (fun u s'=>∃ o H',aT X pins σ H' s'/\IsPart u o/\Q o H') X.xe s
def lC:TO:=fun _ H Q=>Q none H
def qT(t:TE):TO:=fun σ H Q=>t σ H fun x H1=>∃ i,x = .int i/\Q (some i) H1
section
variable {X:Cx}{e:Expr}{te:TE}{lo hi:Option Expr}{tl th:TO}{pos p2:Pos}
theorem Cp:PO X none lC:=by
 intro pins s σ H Q I h
 rw[evalPart_none]
 exact wpAny_pure ⟨none,H,I,.none,h⟩
theorem BH(h:PE X e te):PO X (some e) (qT te):=by
 intro pins s σ H Q I hw
 rw[evalPart_some]
 refine dE (h pins s σ H _ I hw) fun u s1 ⟨x,H1,I1,r1,q1⟩=>?_
 obtain⟨i,rfl,q⟩:=q1
 obtain⟨t,rfl⟩:=r1
 exact⟨some i,H1,I1,.int i t,q⟩
def uA(X:Cx)(r:V->Option Int->Option Int->Hp->VK->Prop):Prop :=
 ∀ (pins:List (Addr × Obj))(s:Shared)(σ:St)(H:Hp)(x:V)(v vl vu:Value)(lo hi:Option Int)(sl:Addr)(Q:VK),aT X pins σ H s->cw x v->s.heap.IsSliceOf sl vl vu .none->IsPart vl lo->IsPart vu hi->r x lo hi H Q ->
  ∃ T id,typeLookup (.type T) "__getitem__" = pure (some (.builtin id))/\s.TypeIs v T/\wpAny (model X.prog X.w) X.A (getItem v (.ref sl)) (EP X pins σ Q) X.xe s
def Go(r:V->Option Int->Option Int->Hp->VK->Prop)(te:TE)(tl th:TO):TE:=fun σ H Q=>te σ H fun x H1=>tl σ H1 fun l H2=>th σ H2 fun u H3=>r x l u H3 Q
theorem zu{r:V->Option Int->Option Int->Hp->VK->Prop}(hr:uA X r)(he:PE X e te)(hl:PO X lo tl)(hu:PO X hi th):PE X (.Subscript e (.Slice lo hi none p2) pos) (Go r te tl th):=by
 intro pins s σ H Q I h
 refine Subscript_ (dE (he pins s σ H _ I h) fun v s1 ⟨x,H1,I1,r1,q1⟩=>?_)
 refine wpAny_Slice (dE (hl pins s1 σ H1 _ I1 q1) fun vl s2 ⟨l,H2,I2,pl,q2⟩=>dE (hu pins s2 σ H2 _ I2 q2) fun vu s3 ⟨u,H3,I3,pu,q3⟩=>?_)
 rw[evalPart_none]
 refine wpAny_pure ?_
 have I4:aT X pins σ H3 { s3 with heap:=s3.heap.push { cls:=.type "slice",data:=.fields #[vl,vu,.none] } }:=I3.kept (t':=s3.toks) fun b ob q=>Heap.get?_push_of_some _ q
 obtain⟨T,id,hT,ht,hg⟩:=hr pins { s3 with heap:=s3.heap.push { cls:=.type "slice",data:=.fields #[vl,vu,.none] } } σ H3 x v vl vu l u s3.heap.objs.size Q I4 r1 (Heap.IsSliceOf.new ..) pl pu q3
 show wpAny (model X.prog X.w) X.A (subscriptTail e (.Slice lo hi none p2) v (.ref s3.heap.objs.size)) (EP X pins σ Q) X.xe { s3 with heap:=s3.heap.push { cls:=.type "slice",data:=.fields #[vl,vu,.none] } }
 exact tail_any (ops:=[.ref s3.heap.objs.size,v]) ht hT hg (by with_unfolding_all rfl)
def gv(xs:List V)(lo hi:Option Int):List V:=(xs.drop (HT.sIx xs.length 0 lo)).take (HT.sIx xs.length xs.length hi - HT.sIx xs.length 0 lo)
theorem nE(xs:List V)(lo hi:Option Int):(gv xs lo hi).length<=xs.length:=by
 unfold gv
 rw[List.length_take,List.length_drop]
 walk_at"o"
def Hd(K:W.Frag):V->Option Int->Option Int->Hp->VK->Prop:=fun x lo hi H Q=>∃ a xs,x = .ref a/\qj K H a xs /\
 ¬ (HT.sIx xs.length 0 lo=0/\HT.sIx xs.length xs.length hi=xs.length) /\ ∀ p,H p=none->Q (.ref p) (upd H p (.tup (gv xs lo hi)))
theorem DS:uA X (Hd X.K):=by
 intro pins s σ H x v vl vu lo hi sl Q I rx hs pl pu h
 obtain⟨a,xs,rfl,hx,hw,q⟩:=h
 cases rx
 obtain⟨its,r,ht,hz⟩:=I.tuple hx
 have hlen:its.toArray.size=xs.length:=by rw[List.size_toArray];exact r.length.symm
 refine⟨"tuple",_,PyProof.Rows.slot_tuple_getitem.lookup,ht.typeIs,?_⟩
 refine HT.getItem_tuple_cut ht hs pl pu (by rw[hlen];exact hw) ?_ (by rw[hlen];exact hz)
 rw[hlen]
 refine⟨.ref s.heap.objs.size,_,I.laid (t':=s.toks) (o:=.tup (gv xs lo hi)) (fun b ob q=>Heap.get?_push_of_some _ q) (Nat.le_refl _) ?_,rfl,q _ (I.hok.fresh (Nat.le_refl _))⟩
 exact⟨Nat.le_trans (nE xs lo hi) hz,_,(r.drop (HT.sIx xs.length 0 lo)).take (HT.sIx xs.length xs.length hi - HT.sIx xs.length 0 lo),IsTup.new _ _⟩
def Gg(K:W.Frag):R2:=fun x y H Q=>∃ a b xs ys,x = .ref a/\y = .ref b/\qj K H a xs/\qj K H b ys/\xs ≠ []/\xs.length+ys.length<=sizeLine /\
 (ys=[]->Q (.ref a) H)/\(ys ≠ [] -> ∀ p,H p=none->Q (.ref p) (upd H p (.tup (xs ++ ys))))
theorem bQ.nil_iff{xs:List V}{us:List Value}(r:bQ xs us):us=[] ↔ xs=[]:=by
 cases r with
 | nil=>simp
 | cons _ _=>simp
theorem CW:fb X (binaryOp .Add) (Gg X.K):=by
 intro pins s σ H x y v u Q I rx ry h
 obtain⟨a,b,xs,ys,rfl,rfl,ha,hb,hx,hz,q1,q2⟩:=h
 cases rx
 cases ry
 obtain⟨its,r1,p1,_⟩:=I.tuple ha
 obtain⟨its2,r2,p2,_⟩:=I.tuple hb
 refine HT.cat_tup p1 p2 (fun z=>hx (r1.nil_iff.mp z)) (fun z=>⟨.ref a,H,I,rfl,q1 (r2.nil_iff.mp z)⟩) (fun z=>?_) (by rw[<- r1.length,<- r2.length];exact hz)
 refine⟨.ref s.heap.objs.size,_,I.laid (t':=s.toks) (o:=.tup (xs ++ ys)) (fun b ob q=>Heap.get?_push_of_some _ q) (Nat.le_refl _) ?_,rfl,q2 (fun w=>z (r2.nil_iff.mpr w)) _ (I.hok.fresh (Nat.le_refl _))⟩
 exact⟨by rw[List.length_append];exact hz,_,r1.append r2,IsTup.new _ _⟩
end
end L2
namespace L2
open PySem PySem.Spec PyProof.Rows
def uR(n:Nat)(i:Int):Option Nat:=if 0<=i then (if i<n then some i.toNat else none) else if -(n:Int)<=i then some (i+n).toNat else none
def nN{α:Type}(xs:List α)(i:Int):Option α:=(uR xs.length i).bind fun j=>xs[j]?
theorem wQ{n:Nat}{i:Int}{j:Nat}(h:uR n i=some j):seqIndex? i n=some j/\j<n /\ -(n:Int)<=i/\i<n:=by
 unfold uR at h
 by_cases h0:0<=i
 ·rw[if_pos h0] at h
  by_cases h1:i<n
  ·rw[if_pos h1] at h
   have e:i.toNat=j:=Option.some.inj h
   exact⟨by rw[seqIndex_of h0 h1,e],by walk_at"o",by walk_at"o",h1⟩
  ·rw[if_neg h1] at h;cases h
 ·rw[if_neg h0] at h
  by_cases h1 : -(n:Int)<=i
  ·rw[if_pos h1] at h
   have e:(i+n).toNat=j:=Option.some.inj h
   exact⟨by rw[seqIndex_neg (by walk_at"o") h1,e],by walk_at"o",h1,by walk_at"o"⟩
  ·rw[if_neg h1] at h;cases h
theorem sQ{α:Type}{xs:List α}{i:Int}{v:α}(h:nN xs i=some v):∃ j,seqIndex? i xs.length=some j/\xs[j]? = some v/\j<xs.length /\ -(xs.length:Int)<=i/\i<xs.length:=by
 unfold nN at h
 cases e:uR xs.length i with
 | none=>rw[e] at h;cases h
 | some j =>
  rw[e] at h
  obtain⟨h1,h2,h3,h4⟩:=wQ e
  exact⟨j,h1,h,h2,h3,h4⟩
theorem ck{α:Type}{xs:List α}{j:Nat}{v:α}(h:xs[j]? = some v):nN xs (j:Int)=some v:=by
 have hj:j<xs.length:=(List.getElem?_eq_some_iff.mp h).1
 have e:uR xs.length (j:Int)=some j:=by
  unfold uR
  rw[if_pos (by walk_at"o"),if_pos (by walk_at"o")];simp
 unfold nN;rw[e];exact h
theorem oZ{α:Type}(xs:List α)(v:α):nN (xs ++ [v]) (-1)=some v:=by
 have hl:(xs ++ [v]).length=xs.length+1:=by simp
 have e:uR (xs ++ [v]).length (-1)=some xs.length:=by
  unfold uR
  rw[hl,if_neg (by decide),if_pos (by walk_at"o")]
  congr 1
  walk_at"o"
 unfold nN
 rw[e]
 show (xs ++ [v])[xs.length]? = some v
 simp
def xb(b:Expr):Prop:=∀ o i,subscripted b false o i=operate [o,i] (getItem o i)
def uB(X:Cx)(r:R2):Prop :=
 ∀ (value slice:Expr)(pins:List (Addr × Obj))(s:Shared)(σ:St)(H:Hp)(x y:V)(v u:Value)(Q:VK),aT X pins σ H s->cw x v->cw y u->r x y H Q ->
  subscripted slice false v u=operate [v,u] (getItem v u)->wpAny (model X.prog X.w) X.A (subscriptTail value slice v u) (EP X pins σ Q) X.xe s
def GW(X:Cx)(id:String)(r:V->List V->Hp->VK->Prop):Prop :=
 ∀ (pins:List (Addr × Obj))(s:Shared)(σ:St)(H:Hp)(x:V)(xs:List V)(v:Value)(us:List Value)(Q:VK),aT X pins σ H s->cw x v->bQ xs us->r x xs H Q ->
  wpAny (model X.prog X.w) X.A (call (.builtin id) (v :: us)) (EP X pins σ Q) X.xe s
section
variable {X:Cx}{a b:Expr}{ta tb:TE}{pos:Pos}
theorem F2{r:R2}(hr:uB X r)(ha:PE X a ta)(hb:PE X b tb)(hs:xb b):PE X (.Subscript a b pos) (yX r ta tb):=by
 intro pins s σ H Q I h
 exact Subscript_ (DZ ha hb I h fun v u s2 x y H2 I2 rx ry q=>hr a b pins s2 σ H2 x y v u Q I2 rx ry q (hs _ _))
def FU(K:W.Frag):R2:=fun x y H Q=>∃ p xs i v,x = .ref p/\y = .int i/\jQ K H p xs/\nN xs i=some v/\Q v H
def GB(K:W.Frag):R2:=fun x y H Q=>∃ p xs i v,x = .ref p/\y = .int i/\qj K H p xs/\nN xs i=some v/\Q v H
theorem vK:uB X (FU X.K):=by
 intro value slice pins s σ H x y v u Q I rx ry h hs
 obtain⟨p,xs,i,z,rfl,rfl,hq,he,q⟩:=h
 cases rx
 obtain⟨t,rfl⟩:=ry
 obtain⟨its,r,pl,hz⟩:=I.list hq
 obtain⟨j,h1,h2,h3,h4,h5⟩:=sQ he
 obtain⟨w,ew,rw'⟩:=r.get h2
 have hl:=r.length
 have hn:=mW
 have fin:EP X pins σ Q w s:=⟨z,H,I,rw',q⟩
 by_cases h0:0<=i
 ·have hj:i.toNat=j:=by
   rw[seqIndex_of h0 h5] at h1
   exact Option.some.inj h1
  exact item_listR pl.isList h0 (by walk_at"o") (by rw[hj];simpa using ew) fin hs
 ·have hj:(i+(its.toArray.size:Int)).toNat=j:=by
   rw[seqIndex_neg (by walk_at"o") h4] at h1
   rw[List.size_toArray,<- hl]
   exact Option.some.inj h1
  exact subscriptTail_builtinR (x:=w) pl.isList.typeIs slot_list_getitem.lookup
   (wpAny_getItem_list_neg (Q:=fun r s'=>r=w/\EP X pins σ Q r s') pl.isList (by walk_at"o") (by rw[List.size_toArray] <;> walk_at"o") (by walk_at"o") (by rw[hj];simpa using ew) ⟨rfl,fin⟩) hs
theorem Fe:uB X (GB X.K):=by
 intro value slice pins s σ H x y v u Q I rx ry h hs
 obtain⟨p,xs,i,z,rfl,rfl,hq,he,q⟩:=h
 cases rx
 obtain⟨t,rfl⟩:=ry
 obtain⟨its,r,pl,hz⟩:=I.tuple hq
 obtain⟨j,h1,h2,h3,h4,h5⟩:=sQ he
 obtain⟨w,ew,rw'⟩:=r.get h2
 have hl:=r.length
 have hn:=mW
 have fin:EP X pins σ Q w s:=⟨z,H,I,rw',q⟩
 exact subscriptTail_builtinR (x:=w) pl.typeIs slot_tuple_getitem.lookup
  (getItem_tuple (j:=j) (Q:=fun r s'=>r=w/\EP X pins σ Q r s') pl (by walk_at"o") (by walk_at"o") (by rw[List.size_toArray,<- hl];exact h1) (by simpa using ew) ⟨rfl,fin⟩) hs
theorem uF(its:List Value)(n j:Nat)(u:Value):Obj.mapSeq (·.setIfInBounds j u) { cls:=.type "list",data:=.seq its.toArray n } = { cls:=.type "list",data:=.seq (its.set j u).toArray n }:=by
 simp[Obj.mapSeq]
theorem aT.lst{pins:List (Addr × Obj)}{σ:St}{H:Hp}{s:Shared}{p:Addr}{xs:List V}(I:aT X pins σ H s)(h:H p=some (.lst xs)) :
  ∃ (its:List Value)(n:Nat),bQ xs its/\s.heap.get? p=some { cls:=.type "list",data:=.seq its.toArray n } /\ xs.length<=sizeLine:=by
 obtain⟨z,its,n,r,e⟩:=I.hok p _ h
 exact⟨its,n,r,e,z⟩
theorem aT.lstUpd{pins:List (Addr × Obj)}{σ:St}{H:Hp}{s:Shared}{p:Addr}{xs ys:List V}{its its':List Value}{n n':Nat}{f:Obj->Obj}(I:aT X pins σ H s)(h:H p=some (.lst xs))
  (ho:s.heap.get? p=some { cls:=.type "list",data:=.seq its.toArray n }) (hf:f { cls:=.type "list",data:=.seq its.toArray n } = { cls:=.type "list",data:=.seq its'.toArray n' }) (r:bQ ys its')(hz:ys.length<=sizeLine)(t:Nat) :
  aT X pins σ (upd H p (.lst ys)) { s with heap:=s.heap.update p f,toks:=t }:=by
 have e:(s.heap.update p f).get? p=some { cls:=.type "list",data:=.seq its'.toArray n' }:=by
  rw[Heap.get?_update_self f ho (by rw[hf] <;> rfl),hf]
 refine I.write (x:=p) (e:=p) (by rw[h];trivial) (.inl rfl) (fun b u hb q=>(Heap.get?_update_other _ _ (Ne.symm hb)).trans q) ⟨_,e⟩ ?_
 exact⟨hz,its',n',r,e⟩
def F8:V->V->V->Hp->(Hp->Prop)->Prop:=fun o i v H Q=>∃ p xs k j,o = .ref p/\i = .int k/\H p=some (.lst xs)/\uR xs.length k=some j/\Q (upd H p (.lst (xs.set j v)))
theorem za:yl X F8:=by
 intro pins s σ H o i v ov iv u Q I ro ri rv h
 obtain⟨p,xs,k,j,rfl,rfl,hp,hj,q⟩:=h
 cases ro
 obtain⟨t,rfl⟩:=ri
 obtain⟨its,n,r,ho,hz⟩:=I.lst hp
 obtain⟨h1,h2,h3,h4⟩:=wQ hj
 have hl:=r.length
 have hn:=mW
 have I':aT X pins σ (upd H p (.lst (xs.set j v))) { s with heap:=s.heap.update p (Obj.mapSeq (·.setIfInBounds j u)) } :=
  I.lstUpd hp ho (uF its n j u) (r.set rv j) (by rw[List.length_set];exact hz) s.toks
 by_cases h0:0<=k
 ·have hk:k.toNat=j:=by
   rw[seqIndex_of h0 h4] at h1
   exact Option.some.inj h1
  exact PySem.W.ki_setAt ho h0 (by walk_at"o") (by rw[List.size_toArray,<- hl];exact h4) (by rw[hk];exact⟨_,I',q⟩)
 ·have hk:(k+(its.toArray.size:Int)).toNat=j:=by
   rw[seqIndex_neg (by walk_at"o") h3] at h1
   rw[List.size_toArray,<- hl]
   exact Option.some.inj h1
  exact PySem.W.ki_setBack ho (by walk_at"o") (by rw[List.size_toArray,<- hl];exact h3) (by walk_at"o") (by rw[hk];exact⟨_,I',q⟩)
theorem sL(lo hi:Option Int)(n:Nat):(sliceBounds lo hi none n).1=((HT.sIx n 0 lo:Nat):Int)/\(sliceBounds lo hi none n).2.1=((HT.sIx n n hi:Nat):Int)/\(sliceBounds lo hi none n).2.2=1:=by
 refine⟨?_,?_,rfl⟩
 ·cases lo with
  | none=>simp[sliceBounds,HT.sIx]
  | some i =>
   simp only[sliceBounds,HT.sIx,Option.getD_none,show (1:Int) > 0 by decide,if_true]
   by_cases h:i<0
   ·simp only[h,if_true] <;> walk_at"o"
   ·simp only[h,if_false] <;> walk_at"o"
 ·cases hi with
  | none=>simp[sliceBounds,HT.sIx]
  | some i =>
   simp only[sliceBounds,HT.sIx,Option.getD_none,show (1:Int) > 0 by decide,if_true]
   by_cases h:i<0
   ·simp only[h,if_true] <;> walk_at"o"
   ·simp only[h,if_false] <;> walk_at"o"
theorem qe(its:List Value)(lo hi:Option Int):slicePick its.toArray lo hi none=((its.drop (HT.sIx its.length 0 lo)).take (HT.sIx its.length its.length hi - HT.sIx its.length 0 lo)).toArray:=by
 obtain⟨h1,h2,h3⟩:=sL lo hi its.toArray.size
 unfold slicePick
 rw[h1,h2,h3]
 simp only[sliceRange_one,pick_run,List.size_toArray] <;> rfl
def G3(K:W.Frag):V->Option Int->Option Int->Hp->VK->Prop:=fun x lo hi H Q=>∃ a xs,x = .ref a/\jQ K H a xs /\ ∀ p,H p=none->Q (.ref p) (upd H p (.lst (gv xs lo hi)))
theorem CH:uA X (G3 X.K):=by
 intro pins s σ H x v vl vu lo hi sl Q I rx hs pl pu h
 obtain⟨a,xs,rfl,hx,q⟩:=h
 cases rx
 obtain⟨its,r,ht,hz⟩:=I.list hx
 have hlen:=r.length
 refine⟨"list",_,slot_list_getitem.lookup,ht.isList.typeIs,?_⟩
 refine wpAny_getItem_list_slice ht.isList hs pl pu .none (by simp) ?_ (by rw[List.size_toArray] <;> walk_at"o")
 rw[qe,<- hlen]
 refine⟨.ref s.heap.objs.size,_,I.laid (t':=s.toks) (o:=.lst (gv xs lo hi)) (fun b ob q=>Heap.get?_push_of_some _ q) (Nat.le_refl _) ?_,rfl,q _ (I.hok.fresh (Nat.le_refl _))⟩
 exact⟨Nat.le_trans (nE xs lo hi) hz,_,0,(r.drop (HT.sIx xs.length 0 lo)).take (HT.sIx xs.length xs.length hi - HT.sIx xs.length 0 lo),Heap.get?_push_size _ rfl⟩
def nJ:V->Bool
 | .non=>true
 | .bl _=>true
 | .int _=>true
 | .str _=>true
 | _=>false
def AU:V->V->Bool
 | .non,.non=>true
 | .bl a,.bl b=>a == b
 | .bl a,.int b=>(if a then 1 else 0) == b
 | .int a,.bl b=>a == (if b then 1 else 0)
 | .int a,.int b=>a == b
 | .str a,.str b=>a == b
 | _,_=>false
theorem Fx{A:Around}{s:Shared}{y x:V}{u v:Value}(ry:cw y u)(rx:cw x v)(fy:nJ y=true)(fx:nJ x=true):SeqAt.EqAt A s u v (AU y x):=by
 cases y with
 | non =>
  cases ry
  cases x with
  | non=>cases rx;exact SeqAt.EqAt.same _
  | bl b=>cases rx;exact SeqAt.EqAt.none_bool b
  | int b=>obtain⟨t,rfl⟩:=rx;exact SeqAt.EqAt.none_int b t
  | str b=>obtain⟨t,rfl⟩:=rx;exact SeqAt.EqAt.none_str b t
  | _=>exact absurd (show false=true from fx) Bool.false_ne_true
 | bl a =>
  cases ry
  cases x with
  | non=>cases rx;exact SeqAt.EqAt.bool_none a
  | bl b=>cases rx;exact SeqAt.EqAt.bool_bool a b
  | int b=>obtain⟨t,rfl⟩:=rx;exact SeqAt.EqAt.bool_int a b t
  | str b=>obtain⟨t,rfl⟩:=rx;exact SeqAt.EqAt.bool_str a b t
  | _=>exact absurd (show false=true from fx) Bool.false_ne_true
 | int a =>
  obtain⟨t',rfl⟩:=ry
  cases x with
  | non=>cases rx;exact SeqAt.EqAt.int_none a t'
  | bl b=>cases rx;exact SeqAt.EqAt.int_bool a t' b
  | int b=>obtain⟨t,rfl⟩:=rx;exact SeqAt.EqAt.int_int a t' b t
  | str b=>obtain⟨t,rfl⟩:=rx;exact SeqAt.EqAt.int_str a t' b t
  | _=>exact absurd (show false=true from fx) Bool.false_ne_true
 | str a =>
  obtain⟨t',rfl⟩:=ry
  cases x with
  | non=>cases rx;exact SeqAt.EqAt.str_none a t'
  | bl b=>cases rx;exact SeqAt.EqAt.str_bool a t' b
  | int b=>obtain⟨t,rfl⟩:=rx;exact SeqAt.EqAt.str_int a t' b t
  | str b=>obtain⟨t,rfl⟩:=rx;exact SeqAt.EqAt.str_str a t' b t
  | _=>exact absurd (show false=true from fx) Bool.false_ne_true
 | _=>exact absurd (show false=true from fy) Bool.false_ne_true
def Cr(x:V)(u:Value):Bool:=match u with
 | .none=>AU .non x
 | .bool b=>AU (.bl b) x
 | .int i _=>AU (.int i) x
 | .str z _=>AU (.str z) x
 | _=>false
theorem zh{x y:V}{u:Value}(r:cw y u)(f:nJ y=true):Cr x u=AU y x:=by
 cases y with
 | non=>cases r;rfl
 | bl b=>cases r;rfl
 | int i=>obtain⟨t,rfl⟩:=r;rfl
 | str z=>obtain⟨t,rfl⟩:=r;rfl
 | _=>exact absurd (show false=true from f) Bool.false_ne_true
theorem rQ{x:V}:∀{xs:List V}{us:List Value},bQ xs us->xs.all nJ=true->us.any (Cr x)=xs.any fun y=>AU y x
 | _,_,.nil,_=>rfl
 | y :: xs,u :: us,.cons r t,f=>by
  rw[List.all_cons,Bool.and_eq_true] at f
  rw[List.any_cons,List.any_cons,zh r f.1,rQ t f.2]
theorem pK{A:Around}{s:Shared}{x:V}{v:Value}(rx:cw x v)(fx:nJ x=true):∀ {xs:List V}{us:List Value},bQ xs us->xs.all nJ=true -> ∀ u ∈ us,SeqAt.EqAt A s u v (Cr x u)
 | _,_,.nil,_=>fun u hu=>by cases hu
 | y :: xs,u :: us,.cons r t,f=>fun u' hu=>by
  rw[List.all_cons,Bool.and_eq_true] at f
  rcases List.mem_cons.mp hu with rfl|hu
  ·rw[zh r f.1];exact Fx r rx f.1 fx
  ·exact pK rx fx t f.2 u' hu
def qB(x:V)(xs:List V):Bool:=xs.any fun y=>AU y x
def HE(K:W.Frag)(neg:Bool):R2:=fun x y H Q=>∃ p xs,y = .ref p/\(jQ K H p xs\/qj K H p xs)/\nJ x=true/\xs.all nJ=true/\Q (.bl (if neg then !qB x xs else qB x xs)) H
theorem gP:fb X (compareOp .NotIn) (HE X.K true):=by
 intro pins s σ H x y v u Q I rx ry h
 obtain⟨p,xs,rfl,hq,fx,fs,q⟩:=h
 cases ry
 rcases hq with hq|hq
 ·obtain⟨its,r,pl,hz⟩:=I.list hq
  refine SeqAt.notIn_listAt (Cr x) pl.isList (fun w hw=>pK rx fx r fs w (by simpa using hw)) ⟨.bl _,H,I,rfl,?_⟩
  rw[show its.toArray.any (Cr x)=its.any (Cr x) by simp,rQ r fs]
  exact q
 ·obtain⟨its,r,pl,hz⟩:=I.tuple hq
  refine SeqAt.notIn_tupleAt (Cr x) pl (fun w hw=>pK rx fx r fs w (by simpa using hw)) ⟨.bl _,H,I,rfl,?_⟩
  rw[show its.toArray.any (Cr x)=its.any (Cr x) by simp,rQ r fs]
  exact q
theorem jj:eZ X (.builtin "len") (fun xs H Q=>∃ p ys,xs=[.ref p]/\(jQ X.K H p ys\/qj X.K H p ys)/\Q (.int ys.length) H):=by
 intro pins s σ H xs us Q I r h
 obtain⟨p,ys,rfl,hq,q⟩:=h
 obtain⟨u,rfl,rx⟩:=xA r
 cases rx
 have hn:=mW
 rcases hq with hq|hq
 ·obtain⟨its,r',pl,hz⟩:=I.list hq
  have hlen:=r'.length
  exact Calls.call_len_list pl.isList (by simp only[List.size_toArray] <;> walk_at"o") ⟨.int ys.length,H,I.tok _,⟨s.toks+1,by rw[List.size_toArray,hlen]⟩,q⟩
 ·obtain⟨its,r',pl,hz⟩:=I.tuple hq
  have hlen:=r'.length
  exact len_tuple pl (by simp only[List.size_toArray] <;> walk_at"o") ⟨.int ys.length,H,I.tok _,⟨s.toks+1,by rw[List.size_toArray,hlen]⟩,q⟩
theorem lS:eZ X (.type "list") (fun xs H Q=>∃ p ys,xs=[.ref p]/\(jQ X.K H p ys\/qj X.K H p ys) /\ ∀ l,H l=none->Q (.ref l) (upd H l (.lst ys))):=by
 intro pins s σ H xs us Q I r h
 obtain⟨p,ys,rfl,hq,q⟩:=h
 obtain⟨u,rfl,rx⟩:=xA r
 cases rx
 have fin:∀ (its:List Value),bQ ys its->ys.length<=sizeLine -> ∀ (h':Heap)(c':Nat),(∀ b o',s.heap.get? b=some o'->h'.get? b=some o') ->
   h'.get? s.heap.objs.size=some { cls:=.type "list",dict:=none,data:=.seq its.toArray c',slots:=#[] } -> EP X pins σ Q (.ref s.heap.objs.size) { s with heap:=h' }:=fun its r' hz h' c' kp e =>
  ⟨.ref s.heap.objs.size,_,I.laid (t':=s.toks) kp (Nat.le_refl _) (show fc X.prog X.w _ h' _ (.lst ys) from ⟨hz,its,c',r',e⟩),rfl,q _ (I.hok.fresh (Nat.le_refl _))⟩
 rcases hq with hq|hq
 ·obtain⟨its,r',pl,hz⟩:=I.list hq
  have hlen:=r'.length
  obtain⟨o,ho,hc,n,hd⟩:=pl.isList
  exact call_list_seq p (.inl rfl) ho hc hd (fun h' c' kp e=>fin its r' hz h' c' kp e) (by simp only[List.size_toArray] <;> walk_at"o")
 ·obtain⟨its,r',pl,hz⟩:=I.tuple hq
  have hlen:=r'.length
  obtain⟨o,ho,hc,n,hd⟩:=pl
  exact call_list_seq p (.inr rfl) ho hc hd (fun h' c' kp e=>fin its r' hz h' c' kp e) (by simp only[List.size_toArray] <;> walk_at"o")
theorem qb:eZ X (.type "tuple") (fun xs H Q=>∃ p ys,xs=[.ref p]/\((jQ X.K H p ys /\ ∀ l,H l=none->Q (.ref l) (upd H l (.tup ys)))\/(qj X.K H p ys/\Q (.ref p) H))):=by
 intro pins s σ H xs us Q I r h
 obtain⟨p,ys,rfl,h⟩:=h
 obtain⟨u,rfl,rx⟩:=xA r
 cases rx
 rcases h with ⟨hq,q⟩|⟨hq,q⟩
 ·obtain⟨its,r',pl,hz⟩:=I.list hq
  have hlen:=r'.length
  refine call_tuple_list pl.isList (fun h' kp=>?_) (by simp only[List.size_toArray] <;> walk_at"o")
  have I1:aT X pins σ H { s with heap:=h' }:=I.kept (t':=s.toks) kp
  have I2:aT X pins σ (upd H h'.objs.size (.tup ys)) { s with heap:=h'.push { cls:=.type "tuple",data:=.seq its.toArray } } :=
   I1.laid (t':=s.toks) (fun b o e=>Heap.get?_push_of_some _ e) (Nat.le_refl _) (show fc X.prog X.w _ _ _ (.tup ys) from ⟨hz,its,r',IsTup.new _ _⟩)
  exact⟨.ref h'.objs.size,_,I2,rfl,q _ (I1.hok.fresh (Nat.le_refl _))⟩
 ·obtain⟨its,r',pl,hz⟩:=I.tuple hq
  exact call_tuple_same pl ⟨.ref p,H,I,rfl,q⟩
def F5(K:W.Frag)(T:String)(x:V)(H:Hp):Prop:=match x with
 | .str _=>T = "str"
 | .int _=>T = "int"
 | .ref p=>(T = "list" /\ ∃ xs,jQ K H p xs)\/(T = "tuple" /\ ∃ o,K.lookup p=some o/\o.cls = .type "tuple" /\ o.dict=none) \/
   (T = "dict" /\ ((∃ kvs,H p=some (.dK kvs)) \/ ∃ kvs,H p=some (.dT kvs)))\/(T = "set" /\ ∃ S n,H p=some (.set S n))
 | _=>False
theorem yQ{pins:List (Addr × Obj)}{σ:St}{H:Hp}{s:Shared}{T:String}{x:V}{v:Value}(I:aT X pins σ H s)(r:cw x v)(ty:F5 X.K T x H) :
  s.TypeIs v T /\ ∀ a,v = .ref a -> ∃ ob,s.heap.get? a=some ob/\ob.dict=none:=by
 cases x with
 | str z =>
  obtain⟨t,rfl⟩:=r
  cases (show T = "str" from ty)
  exact⟨typeIs_str s z t,fun _ e=>nomatch e⟩
 | int i =>
  obtain⟨t,rfl⟩:=r
  cases (show T = "int" from ty)
  exact⟨typeIs_int s i t,fun _ e=>nomatch e⟩
 | ref p =>
  cases r
  rcases ty with ⟨rfl,xs,hq⟩|⟨rfl,o,hk,hc,hd⟩|⟨rfl,hk⟩|⟨rfl,S,n,hk⟩
  ·obtain⟨its,_,pl,_⟩:=I.list hq
   refine⟨pl.isList.typeIs,fun a e=>?_⟩
   cases e
   obtain⟨o,n,e,c,hd,_⟩:=pl
   exact⟨o,e,hd⟩
  ·refine⟨⟨o,I.kIn p o hk,hc⟩,fun a e=>?_⟩
   cases e
   exact⟨o,I.kIn _ o hk,hd⟩
  ·have z:∃ o,s.heap.get? p=some o/\o.ExactDict:=by
    rcases hk with ⟨kvs,hk⟩|⟨kvs,hk⟩
    ·obtain⟨_,_,_,_,o,_,_,e,ex,_⟩:=I.hok p _ hk
     exact⟨o,e,ex⟩
    ·obtain⟨_,_,_,_,o,_,_,e,ex,_⟩:=I.hok p _ hk
     exact⟨o,e,ex⟩
   obtain⟨o,e,ex⟩:=z
   refine⟨⟨o,e,ex.1⟩,fun a e2=>?_⟩
   cases e2
   exact⟨o,e,ex.2.1⟩
  ·obtain⟨o,_,_,_,e,ex,_⟩:=I.hok p _ hk
   refine⟨⟨o,e,ex.1⟩,fun a e2=>?_⟩
   cases e2
   exact⟨o,e,ex.2.1⟩
 | _=>exact False.elim ty
def EG(K:W.Frag)(T:String)(r:V->List V->Hp->VK->Prop)(to:TE):TE:=fun σ H Q=>to σ H fun x H1=>F5 K T x H1/\r x [] H1 Q
def Hh(K:W.Frag)(T:String)(r:V->List V->Hp->VK->Prop)(to:TE)(t:TA):TE:=fun σ H Q=>to σ H fun x H1=>F5 K T x H1/\t σ H1 fun xs H2=>r x xs H2 Q
variable {o e:Expr}{es:List Expr}{to:TE}{t:TA}{name:Str}{apos cpos:Pos}{T id:String}{r:V->List V->Hp->VK->Prop}
theorem Ea(pa:PlainAttrs T)(slot:Slot T name id)(hty:typeOf (.builtin id)=pure (.type "method_descriptor")) (hm:GW X id r)(ho:PE X o to)
  (hbase:attributeBase o name X.env (eval o X.env)=eval o X.env:=by rfl)(hline:(apos.endLine == cpos.line)=true:=by rfl):PE X (.Call (.Attribute o name apos) [] [] cpos) (EG X.K T r to):=by
 intro pins s σ H Q I h
 refine wpAny_Call_method0_late hbase hline (dE (ho pins s σ H _ I h) fun v s1 ⟨x,H1,I1,r1,ty,q1⟩=>?_)
 obtain⟨h1,h2⟩:=yQ I1 r1 ty
 exact⟨T,id,pa,slot,hty,h1,h2,Calls.callWith_builtin rfl (PySem.evalArgs_none (hm pins s1 σ H1 x [] v [] Q I1 r1 .nil q1))⟩
theorem Gw(pa:PlainAttrs T)(slot:Slot T name id)(hty:typeOf (.builtin id)=pure (.type "method_descriptor")) (hm:GW X id r)(ho:PE X o to)(ha:PA X (e :: es) t)
  (hbase:attributeBase o name X.env (eval o X.env)=eval o X.env:=by rfl)
  (hfew:((backTo cpos (starEach (e :: es) X.env)).all (fun x=>!x.1) && (backToKw cpos (keywordEach [] X.env)).all (fun x=>x.1.isSome)
   && decide ((e :: es).length+([]:List Keyword).length+(if ([]:List Keyword).isEmpty then 0 else 1)<30))=true:=by rfl)
  (hline:(apos.endLine == cpos.line)=true:=by rfl)(hs:starEach (e :: es) X.env=(false,eval e X.env) :: starEach es X.env:=by rfl)(hplain:(backTo cpos (starEach es X.env)).any (·.1)=false:=by rfl) :
  PE X (.Call (.Attribute o name apos) (e :: es) [] cpos) (Hh X.K T r to t):=by
 intro pins s σ H Q I h
 refine wpAny_Call_method_late hbase hfew hline rfl (dE (ho pins s σ H _ I h) fun v s1 ⟨x,H1,I1,r1,ty,q1⟩=>?_)
 obtain⟨h1,h2⟩:=yQ I1 r1 ty
 refine⟨T,id,pa,slot,hty,h1,h2,?_⟩
 have hA:=ha cpos pins s1 σ H1 _ I1 q1
 rw[hs] at hA ⊢
 refine Calls.callWith_builtin (by show (false || (backTo cpos (starEach es X.env)).any (·.1))=false;rw[hplain] <;> rfl) (Calls.evalArgs_plain ?_)
 exact dE hA fun us s2 ⟨vs,H2,I2,r2,q2⟩=>hm pins s2 σ H2 x vs v us Q I2 r1 r2 q2
end
end L2
namespace L2
open PySem PySem.Spec PyProof.Rows
def GU(X:Cx)(id:String)(r:V->List V->Hp->VK->Prop):Prop :=
 ∀ (pins:List (Addr × Obj))(s:Shared)(σ:St)(H:Hp)(x:V)(xs:List V)(v:Value)(us:List Value)(Q:VK),aT X pins σ H s->cw x v->bQ xs us->r x xs H Q ->
  wpAny (model X.prog X.w) X.A (call (.builtin id) (v :: us)) (EP X pins σ Q) X.xe s
theorem bQ.one:∀{x:V}{us:List Value},bQ [x] us -> ∃ u,us=[u]/\cw x u
 | _,_,.cons r .nil=>⟨_,rfl,r⟩
theorem bQ.zero:∀{us:List Value},bQ [] us->us=[]
 | _,.nil=>rfl
theorem bQ.dropLast{xs:List V}{us:List Value}(h:bQ xs us):bQ xs.dropLast us.dropLast:=by
 induction h with
 | nil=>exact .nil
 | cons r t ih =>
  cases t with
  | nil=>exact .nil
  | cons q t'=>exact .cons r ih
theorem bQ.rep{xs:List V}{us:List Value}(h:bQ xs us):∀ k:Nat,bQ (List.replicate k xs).flatten (List.replicate k us).flatten
 | 0=>.nil
 | k+1=>by
  rw[List.replicate_succ,List.replicate_succ,List.flatten_cons,List.flatten_cons]
  exact bQ.append h (bQ.rep h k)
theorem vz{α:Type}(l:List α):l.eraseIdx (l.length - 1)=l.dropLast:=by
 induction l with
 | nil=>rfl
 | cons a r ih =>
  cases r with
  | nil=>rfl
  | cons b r =>
   have e:(a :: b :: r).length - 1=((b :: r).length - 1)+1:=by
    have h1:(a :: b :: r).length=r.length+2:=rfl
    have h2:(b :: r).length=r.length+1:=rfl
    walk_at"o"
   rw[e,List.eraseIdx_cons_succ,ih]
   all_goals rfl
theorem qM(its:List Value):∀ (k:Nat)(acc:List Value),
  List.foldl (fun x1 x2=>x1 ++ x2) acc.toArray (List.replicate k its.toArray)=(acc ++ (List.replicate k its).flatten).toArray
 | 0,acc=>by simp
 | k+1,acc=>by
  have e:acc.toArray ++ its.toArray=(acc ++ its).toArray:=by simp
  have e2:(acc ++ its) ++ (List.replicate k its).flatten=acc ++ (List.replicate (k+1) its).flatten:=by
   rw[List.replicate_succ,List.flatten_cons,List.append_assoc]
  rw[<- e2,<- qM its k (acc ++ its),<- e,List.replicate_succ,List.foldl_cons]
section
variable {X:Cx}{pins:List (Addr × Obj)}{σ:St}{H:Hp}{s:Shared}{l b:Addr}{xs ys zs:List V}
theorem aT.lset{its its':List Value}{n:Nat}{f:Array Value->Array Value}{t':Nat}(I:aT X pins σ H s)(hH:H l=some (.lst xs))
  (e:s.heap.get? l=some { cls:=.type "list",data:=.seq its.toArray n }) (hf:f its.toArray=its'.toArray)(hv:bQ ys its')(hz:ys.length<=sizeLine) :
  aT X pins σ (upd H l (.lst ys)) { s with heap:=s.heap.update l (Obj.mapSeq f),toks:=t' }:=by
 have q:=PySem.IsL.update e f
 rw[hf] at q
 refine I.write (x:=l) (e:=l) (by rw[hH];exact trivial) (.inl rfl) (fun b' u hb hu=>(Heap.get?_update_other s.heap (Obj.mapSeq f) (Ne.symm hb)).trans hu) ⟨_,q⟩ ?_
 exact⟨hz,its',_,hv,q⟩
theorem aT.lnew{its:List Value}{t':Nat}(I:aT X pins σ H s)(hv:bQ ys its)(hz:ys.length<=sizeLine) :
  aT X pins σ (upd H s.heap.objs.size (.lst ys)) { s with heap:=s.heap.push { cls:=.type "list",data:=.seq its.toArray },toks:=t' } :=
 I.laid (fun _ _ q=>Heap.get?_push_of_some _ q) (Nat.le_refl _) ⟨hz,its,0,hv,Heap.get?_push_size _ rfl⟩
theorem aT.fresh(I:aT X pins σ H s):H s.heap.objs.size=none:=I.hok.fresh (Nat.le_refl _)
theorem aT.lstM(I:aT X pins σ H s)(hH:H l=some (.lst xs)):xs.length<=sizeLine /\ ∃ (its:List Value)(n:Nat),bQ xs its/\xs.length=its.length/\s.heap.get? l=some { cls:=.type "list",data:=.seq its.toArray n }:=by
 obtain⟨z,its,n,r,e⟩:=I.hok l _ hH
 exact⟨z,its,n,r,r.length,e⟩
theorem y8{n:Nat}(h:n<=sizeLine):Builtin.List.listTooLong n=false:=by
 unfold Builtin.List.listTooLong
 exact decide_eq_false (by walk_at"o")
end
section
variable {X:Cx}
def Bs:V->List V->Hp->VK->Prop:=fun x vs H Q=>∃ l xs y,x = .ref l/\vs=[y]/\H l=some (.lst xs)/\xs.length<sizeLine/\Q .non (upd H l (.lst (xs ++ [y])))
theorem qo:GU X "list.append" Bs:=by
 intro pins s σ H x vs v us Q I rx rv h
 obtain⟨l,xs,y,rfl,rfl,hH,hz,q⟩:=h
 cases rx
 obtain⟨u,rfl,ru⟩:=rv.one
 obtain⟨z,its,n,r,hl,e⟩:=I.lstM hH
 refine call_meets F.slot_list_append ⟨_,e,rfl⟩ F.entry_list_append (F.args_list_append_2 _ _) (PySem.list_append l its.toArray n u (by rw[List.size_toArray];walk_at"o")) ⟨e,?_⟩
 refine⟨.non,_,I.lset (its':=its ++ [u]) hH e (by simp) (r.append (.cons ru .nil)) ?_,rfl,q⟩
 rw[List.length_append,List.length_singleton]
 walk_at"o"
def Hm:V->List V->Hp->VK->Prop:=fun x vs H Q=>∃ l xs y,x = .ref l/\vs=[]/\H l=some (.lst xs)/\xs[xs.length - 1]? = some y/\Q y (upd H l (.lst xs.dropLast))
theorem E3:GU X "list.pop" Hm:=by
 intro pins s σ H x vs v us Q I rx rv h
 obtain⟨l,xs,y,rfl,rfl,hH,hy,q⟩:=h
 cases rx
 have hus:=rv.zero
 subst hus
 obtain⟨z,its,n,r,hl,e⟩:=I.lstM hH
 obtain⟨u,hu,ru⟩:=r.get hy
 have hy':its.toArray[its.toArray.size - 1]? = some u:=by
  show its.toArray[its.length - 1]? = some u
  rw[<- Array.getElem?_toList,<- hl]
  exact hu
 refine call_meets F.slot_list_pop ⟨_,e,rfl⟩ F.entry_list_pop (F.args_list_pop_1 _) (MeetsSeq.list_pop_last l its.toArray n u hy' (by rw[List.size_toArray];walk_at"o")) ⟨e,?_⟩
 refine⟨y,_,I.lset (its':=its.dropLast) hH e ?_ r.dropLast ?_,ru,q⟩
 ·show its.toArray.eraseIdxIfInBounds (its.toArray.size - 1)=its.dropLast.toArray
  rw[List.size_toArray,List.eraseIdxIfInBounds_toArray,vz]
 ·rw[List.length_dropLast]
  walk_at"o"
def Hf:R2:=fun x y H Q=>∃ l b xs zs,x = .ref l/\y = .ref b/\H l=some (.lst xs)/\H b=some (.lst zs)/\xs.length+zs.length<=sizeLine /\ ∀ p,H p=none->Q (.ref p) (upd H p (.lst (xs ++ zs)))
theorem Dv:fb X (binaryOp .Add) Hf:=by
 intro pins s σ H x y v u Q I rx ry h
 obtain⟨l,b,xs,zs,rfl,rfl,hH,hB,hz,q⟩:=h
 cases rx
 cases ry
 obtain⟨z,its,n,r,hl,e⟩:=I.lstM hH
 obtain⟨z2,its2,n2,r2,hl2,e2⟩:=I.lstM hB
 refine PySem.P.add_list e e2 ?_ (by rw[List.size_toArray,List.size_toArray];walk_at"o")
 have ea:its.toArray ++ its2.toArray=(its ++ its2).toArray:=by simp
 rw[ea]
 exact⟨.ref _,_,I.lnew (t':=s.toks) (r.append r2) (by rw[List.length_append];walk_at"o"),rfl,q _ I.fresh⟩
def G4:R2:=fun x y H Q=>∃ l k xs,x = .ref l/\y = .int k/\H l=some (.lst xs) /\ -(2 ^ 63)<=k/\k<2 ^ 63/\xs.length*k.toNat<=sizeLine /\
 ∀ p,H p=none->Q (.ref p) (upd H p (.lst (List.replicate k.toNat xs).flatten))
theorem Cv{α:Type}(xs:List α)(k:Nat):(List.replicate k xs).flatten.length=k*xs.length:=by
 induction k with
 | zero=>simp
 | succ k ih=>rw[List.replicate_succ,List.flatten_cons,List.length_append,ih,Nat.succ_mul,Nat.add_comm]
theorem Fh:fb X (binaryOp .Mult) G4:=by
 intro pins s σ H x y v u Q I rx ry h
 obtain⟨l,k,xs,rfl,rfl,hH,h1,h2,hz,q⟩:=h
 cases rx
 obtain⟨t,rfl⟩:=ry
 obtain⟨z,its,n,r,hl,e⟩:=I.lstM hH
 have hlen:its.toArray.size*k.toNat<=sizeLine:=by rw[List.size_toArray,<- hl];exact hz
 have hcap:¬ its.toArray.size*k.toNat > (2 ^ 63 - 1) / 8:=by
  have:(sizeLine:Nat)<=(2 ^ 63 - 1) / 8:=by decide
  walk_at"o"
 have hfit:¬ (!Builtin.List.listFitsIndex k)=true:=by
  rw[fitsIndex_both h1 h2]
  exact Bool.false_ne_true
 have hlong:¬ Builtin.List.listTooLong (its.toArray.size*k.toNat)=true:=by
  rw[y8 hlen]
  exact Bool.false_ne_true
 have hnew:List.foldl (fun x1 x2=>x1 ++ x2) #[] (List.replicate (if its.toArray.isEmpty=true then 0 else k.toNat) its.toArray)=(List.replicate k.toNat its).flatten.toArray:=by
  have f0:∀ m:Nat,List.foldl (fun x1 x2=>x1 ++ x2) #[] (List.replicate m its.toArray)=(List.replicate m its).flatten.toArray:=fun m=>by
   have:=qM its m []
   rw[List.nil_append] at this
   exact this
  rw[f0]
  cases its with
  | nil=>simp
  | cons a r'=>rw[if_neg (by simp)]
 refine wpAny_binaryOp_repeat_ref (T:="list") (U:="int") (by decide) ⟨_,e,rfl⟩ (fun s'=>typeIs_int s' k t) noFill_list_mul F.fills_int_mul F.slot_int_rmul repeat_list F.slot_int_index.lookup
  (call_meets F.slot_int_rmul (typeIs_int s k t) F.entry_int_rmul (F.args_int_rmul_2 _ _) (int___rmul___int_list k t l its.toArray n)
   ⟨e,rfl,⟨_,e,rfl⟩,call_meets F.slot_list_mul ⟨_,e,rfl⟩ F.entry_list_mul (F.args_list_mul_2 _ _) (AutoListH.list___mul___list_int_3 l its.toArray n k t hfit hcap hlong) ⟨e,?_⟩⟩)
 rw[hnew]
 exact⟨.ref _,_,I.lnew (t':=s.toks) (r.rep k.toNat) (by rw[Cv,Nat.mul_comm];exact hz),rfl,q _ I.fresh⟩
end
section
variable {prog:Program}{w:World}{A:Around}{E:Value->Shared->Prop}{s:Shared}
end
section
variable {X:Cx}
end
end L2
namespace Att
open PySem PySem.W PySem.Calls PyProof.Rows
theorem nV{P:Params}{h:Heap}:∀(ns:List Int)(vs:List Value),WellAll P h vs (ns.map WData.int)->IntsAre vs ns:=by
 intro ns
 induction ns with
 | nil =>
  intro vs w
  rw[List.map_nil] at w
  cases w
  exact .nil
 | cons n ns ih =>
  intro vs w
  rw[List.map_cons] at w
  cases w with
  | cons a b =>
   cases a
   exact .cons _ _ (ih _ b)
theorem yd{l:OpenLaw}{n:Nat}(hn:l.most=some n) {P:Params}{h:Heap}{args:List WData}{vals:List Value}
  (hpre:l.row.toRowW.claim.pre args=true)(hwl:WellAll P h vals args) :
  ∃ a vs ns,vals=[Value.ref a]/\args=[WData.list (ns.map WData.int)]/\h.get? a=some { cls:=.type "list",data:=.seq vs.toArray } /\ IntsAre vs ns/\ns.length<=n:=by
 have hsh:WShape.hasAll [] args [.list .int]=true:=(pre_splitW hpre).1
 have hc:l.pre.holds [] { args:=args } = true:=(pre_splitW hpre).2
 obtain⟨d,r,rfl,h1,h2⟩:=hasAllW_cons hsh
 obtain rfl:=hasAllW_nil h2
 obtain⟨xs,rfl,h3⟩:=hasW_list h1
 obtain⟨ns,rfl⟩:=items_int h3
 have hlen:ns.length<=n:=by
  unfold OpenLaw.pre at hc
  have h4:(WTm.not (.lt (.lit (.int (n:Int))) (.len (.arg 0)))).holds [] { args:=[.list (ns.map .int)] } = true:=by
   have h4:=(holds_andW hc).1
   rw[hn] at h4
   exact h4
  have h5:=condW_of h4 (w_not (w_lt w_lit (w_len_list (w_arg rfl))))
  rw[List.length_map] at h5
  refine Nat.le_of_not_lt fun q=>?_
  have q':(n:Int)<((ns.length:Nat):Int):=by walk_at"o"
  first
   | (rw[decide_eq_true q'] at h5;exact absurd h5 (by decide))
   | (simp at h5;walk_at"o")
 cases hwl with
 | cons w1 w2 =>
  cases w2
  cases w1 with
  | list ho hall=>exact⟨_,_,ns,rfl,rfl,ho,nV ns _ hall,hlen⟩
theorem yb(l:OpenLaw)(args:List WData):l.row.toRowW.claim.post args (.bool true) args=true :=
 postW_of (r:=l.row.toRowW) (X:=(true == true))
  (show WShape.has [] (.bool true) .bool=true by first|rfl|decide|simp[WShape.has,WShape.arms,WShape.armsAll])
  (show (WTm.eq .res (.lit (.bool true))).value [] { args:=args,res:=some (.bool true),after:=args } = some (.bool (true == true)) from w_eq_bool (w_res rfl) w_lit) rfl
theorem attach_call{l:OpenLaw}{n:Nat}{q:Program}{loose:List Str}{XP:(Str->Option Value)->Heap->Prop}{YP:World->Heap->Prop}{d:DefRec}
  (hn:l.most=some n)(hdf:d.params.defaults=[])
  (call:∀ (w:World)(s₀ s₁:Shared)(mg mb:Str->Option Value)(fa:Addr)(o:Obj)(pm cd doc:Value)(a:Addr)(vs:List Value)(ns:List Int),
   Ground q loose [] XP w s₀ mg mb s₁.heap->YP w s₁.heap ->
   s₁.heap.get? fa=some o->o.data = .func (docDef d.name d.params d.body d.scope pm cd doc)->s₁.heap.CodeRec cd d.name->mg d.name=some (.ref fa) ->
   s₁.heap.get? a=some { cls:=.type "list",data:=.seq vs.toArray } -> IntsAre vs ns->ns.length<=n->s₁.gens = #[] ->
   codeAny (model l.prog w) callerA (.call (.ref fa) ⟨[.ref a],[]⟩) (fun r s'=>r = .ok (.ret (.bool true))/\OldK s₁.heap s'.heap/\s'.os=s₁.os/\AllBare s'.gens) s₁) :
  WalkO q loose XP YP l.row.toRowW d [] (fun f vs=>PySem.call f vs):=by
 intro w s₀ s₁ mg mb G Y fa o pm cd doc dV kV ho hd hcd hD hmg hg args vals as hpre hlay hrd hwl hlo
 obtain rfl:dV = .none:=Dflts.none hD hdf
 obtain rfl:kV = .none:=Dflts.noKw hD
 obtain⟨a,vs,ns,rfl,rfl,hobj,hints,hlen⟩:=yd hn hpre hwl
 refine enter_call (codeAny_mono (call w s₀ s₁ mg mb fa o pm cd doc a vs ns G Y ho (fd_plain hd) hcd hmg hobj hints hlen hg) fun r s' hq=>?_)
 obtain⟨rfl,h2,h3,h4⟩:=hq
 exact⟨.inl ⟨.bool true,.bool true,[],rfl,fun _=>rfl,.bool true,yb l _,fun _=>⟨List.Pairwise.nil,fun _ hm=>(nomatch hm)⟩⟩,h2,h3,h4⟩
section
variable {prog:Program}{w:World}{A:Around}{E:Value->Shared->Prop}{s:Shared}{K:Frag}
end
end Att
namespace L2
open PySem PySem.Spec PyProof.Rows
theorem qY:∀{vs:List Value}{ns:List Int},IntsAre vs ns->bQ (ns.map V.int) vs
 | _,_,.nil=>.nil
 | _,_,.cons n t h=>.cons ⟨t,rfl⟩ (qY h)
end L2
namespace L2
open PySem PySem.Spec PyProof.Rows
end L2
namespace L2
open PySem PySem.Spec PyProof.Rows
def aA(s:Stmt):Arguments:=match s with
 | .FunctionDef _ a _ _ _ _ _ _ _ _=>a
 | _=>{ posonlyargs:=[],args:=[],vararg:=none,kwonlyargs:=[],kw_defaults:=[],kwarg:=none,defaults:=[] }
def aw(s:Stmt):List Stmt:=match s with
 | .FunctionDef _ _ b _ _ _ _ _ _ _=>b
 | _=>[]
def ag(s:Stmt):Scope:=match s with
 | .FunctionDef _ _ _ _ _ _ sc _ _ _=>sc
 | _=>{ kind:=.function,names:=[],isGenerator:=false,isCoroutine:=false }
abbrev el:yk:=fun _ _ _ _ _ _=>False
abbrev E0:XK:=fun _ _ _=>False
theorem Gm{X:Cx}:vC el X E0:=fun _ _ _ _ _ _ _ h=>h.elim
structure et (K:W.Frag)(x qual:Str)(st:Stmt)(f:Addr)(fd:FuncData):Prop where
 ex:∃ (oc:Value)(od:Option Addr)(kV doc pm:Value)(an:Option Addr)(cdv ct:Value)(osl:Array (Option Value)),
  fd=PySem.W.fnOf x qual (aA st) (aw st) (ag st) .none kV doc pm an cdv ct/\K.lookup f=some ⟨oc,od,.func fd,osl⟩/\PySem.W.codeIn K cdv qual=true
 kp:PySem.W.keepIn K (.ref f)=true
section
variable {P:Program}{w:World}{K:W.Frag}{mg:Str->Option Value}{base:Heap}
theorem et.ok{x qual:Str}{st:Stmt}{f:Addr}{fd:FuncData}{N ps:List Str}{k:Nat}{sp:Sp}(F:et K x qual st f fd)(S:aB N ps (ag st))(len:∀ vs H Q E,sp vs H Q E->vs.length=ps.length)
  (hbody:∀ (cdv:Value)(A:Around)(outer:List Env)(s:Shared)(H:Hp)(vs:List V)(Q:VK)(E:XK),gy k (A.deeper (envOfC qual (ag st) s.heap.objs.size f cdv))->sp vs H Q E ->
   ∃ t,ux (sF el P w K mg base N qual (ag st) f cdv A outer s H E).nox (aw st) t/\t { nx:=fun _ H'=>Q .non H',rt:=Q } (start N vs) H):bU P w K mg base el (k+1) f fd ps sp:=by
 obtain⟨oc,od,kV,doc,pm,an,cdv,ct,osl,rfl,lk,hcd⟩:=F.ex
 refine FT lk hcd S len fun A outer s H vs Q E hr hsp=>?_
 obtain⟨t,h,q⟩:=hbody cdv A outer s H vs Q E hr hsp
 exact⟨t,h.nox,q⟩
theorem et.binds{x qual:Str}{st:Stmt}{f:Addr}{fd:FuncData}{ps:List Str}(F:et K x qual st f fd)
  (h:∀ (kV doc pm:Value)(an:Option Addr)(cdv ct:Value)(us:List Value),us.length=ps.length->bindArgs (PySem.W.fnOf x qual (aA st) (aw st) (ag st) .none kV doc pm an cdv ct) ⟨us,[]⟩=pure (ps.zip us)):qJ K fd ps []:=by
 obtain⟨oc,od,kV,doc,pm,an,cdv,ct,osl,rfl,lk,hcd⟩:=F.ex
 exact .all (h kV doc pm an cdv ct)
theorem aJ{x qual:Str}{st:Stmt}{f:Addr}{oc:Value}{od an:Option Addr}{osl:Array (Option Value)}{kV doc pm cdv ct:Value}(l:K.lookup f=some ⟨oc,od,.func (PySem.W.fnOf x qual (aA st) (aw st) (ag st) .none kV doc pm an cdv ct),osl⟩)
  (c:PySem.W.codeIn K cdv qual=true)(k:PySem.W.keepIn K (.ref f)=true):et K x qual st f (PySem.W.fnOf x qual (aA st) (aw st) (ag st) .none kV doc pm an cdv ct):=⟨⟨oc,od,kV,doc,pm,an,cdv,ct,osl,rfl,l,c⟩,k⟩
end
section
variable {X:Cx}
theorem pv(i:Nat){x:Str}{pos:Pos}(hN:X.N[i]? = some x:=by rfl)(hv:Gv X.env.scope x:=by first|exact Or.inl rfl|exact Or.inr (Or.inl rfl)|exact Or.inr (Or.inr rfl))(hd:(x == ("__debug__" : Str))=false:=by decide)
  (hcd:(x == ("__classdict__" : Str))=false:=by decide):PE X (.Name x pos) (tVar i):=EB hN hv hd hcd
end
theorem bY{c A B:Prop} [Decidable c] (h1:c->A)(h2:¬ c->B):if c then A else B:=by
 by_cases h:c
 ·rw[if_pos h]
  exact h1 h
 ·rw[if_neg h]
  exact h2 h
def aC(H H':Hp):Prop:=∀ b o,H b=some o->H' b=some o
theorem aC.trans{H H1 H2:Hp}(a:aC H H1)(b:aC H1 H2):aC H H2:=fun c o h=>b c o (a c o h)
theorem aC.free{H H':Hp}(e:aC H H') {l:Addr}(h:H' l=Option.none):H l=Option.none:=by
 cases q:H l with
 | none=>rfl
 | some o =>
  rw[e l o q] at h
  cases h
end L2
namespace L2
open PySem PySem.Spec PyProof.Rows
structure aU (P:Program)(w:World)(K:W.Frag)(mg:Str->Option Value)(base:Heap)(x:Str)(ps:List Str)(k:Nat)(sp:Sp):Prop where
 ex:∃ f fd,bU P w K mg base el k f fd ps sp/\mg x=some (.ref f)/\PySem.W.keepIn K (.ref f)=true/\qJ K fd ps []
section
variable {X:Cx}{x:Str}{p pos:Pos}{e:Expr}{es:List Expr}{t:TA}{ps:List Str}{k:Nat}{sp:Sp}
def Ef(sp:Sp)(t:TA):TE:=fun σ H Q=>t σ H fun vs H1=>sp vs H1 Q E0
theorem Dz(C:aU X.prog X.w X.K X.mg X.base x ps k sp)(hr:gy k X.A)(hg:Gl X x)(ha:PA X (e :: es) t)(hdb:(x == ("__debug__" : Str))=false:=by decide)
  (he:starEach (e :: es) X.env=(false,eval e X.env) :: starEach es X.env:=by rfl)(hpl:(backTo pos (starEach es X.env)).any (·.1)=false:=by rfl) :
  PE X (.Call (.Name x p) (e :: es) [] pos) (Ef sp t):=by
 obtain⟨f,fd,F,hm,hk,hb⟩:=C.ex
 intro pins s σ H Q I h
 refine Bb (E:=E0) (dvs:=[]) F hr hg hm hk hb .nil Gm ha hdb he hpl pins s σ H Q I ?_
 show t σ H fun vs H1=>sp (vs ++ []) H1 Q E0
 have e:(fun (vs:List V) H1=>sp (vs ++ []) H1 Q E0)=fun vs H1=>sp vs H1 Q E0:=by
  funext vs H1
  rw[List.append_nil]
 rw[e]
 exact h
end
section
variable {X:Cx}
theorem Bw:fb X (binaryOp .Mult) (rI IntMulOk fun i j=>.int (i*j)):=GA fun _ _ _ _ _ _ _ hc q=>mul_int q hc
def Dd(_ j:Int):Prop:=j ≠ 0/\j.natAbs.log2<9000
theorem pG:fb X (binaryOp .FloorDiv) (rI Dd fun i j=>.int (i.fdiv j)):=GA fun _ _ _ _ _ _ _ hc q=>floordiv_int hc.1 q (.inl (PyProof.noPylong_of_log2 hc.2))
theorem gL:fb X (binaryOp .Mod) (rI (fun _ j=>j ≠ 0) fun i j=>.int (i.fmod j)):=Cs
end
theorem rZ{CX:yk}{P:Program}{w:World}{K:W.Frag}{mg:Str->Option Value}{base:Heap}{N:List Str}{qual:Str}{scope:Scope}{f:Addr}{cd:Value}{A:Around}{outer:List Env}{s:Shared}{H:Hp}{E:XK} :
  (sF CX P w K mg base N qual scope f cd A outer s H E).K=K:=rfl
def xE:List Value->Option (List V)
 | []=>some []
 | u :: us=>match GH u,xE us with
  | some x,some xs=>some (x :: xs)
  | _,_=>none
theorem rg:∀{us:List Value}{xs:List V},xE us=some xs->bQ xs us
 | [],xs,h=>by cases h;exact .nil
 | u :: us,xs,h=>by
  unfold xE at h
  split at h
  ·rename_i x ys e1 e2
   cases h
   refine .cons ?_ (rg e2)
   cases u <;> first|(cases e1;first|exact rfl|exact⟨_,rfl⟩)|cases e1
  ·cases h
def uE(o:Obj):Option HO:=match o.data with
 | .seq its _=>if o.cls = .type "tuple" /\ its.size<=sizeLine then (xE its.toList).map HO.tup else none
 | _=>none
def vw(K:W.Frag)(H:Hp):Hp:=fun a=>match K.lookup a with
 | some o=>uE o
 | none=>H a
theorem zW{o:Obj}{u:HO}(h:uE o=some u):∃ xs,u = .tup xs:=by
 unfold uE at h
 split at h
 ·split at h
  ·cases e:xE _ with
   | none=>rw[e] at h;cases h
   | some xs=>rw[e] at h;cases h;exact⟨xs,rfl⟩
  ·cases h
 ·cases h
theorem fe{K:W.Frag}{H:Hp}{a:Addr}(hk:K.lookup a=none):vw K H a=H a:=by
 unfold vw
 rw[hk]
theorem cN{K:W.Frag}{H:Hp}{a:Addr}{xs:List V}(h:vw K H a=some (.tup xs)):qj K H a xs:=by
 unfold vw at h
 split at h
 ·rename_i o ho
  unfold uE at h
  split at h
  ·rename_i its n hd
   split at h
   ·rename_i hc
    cases e:xE its.toList with
    | none=>rw[e] at h;cases h
    | some ys =>
     rw[e] at h
     cases h
     exact .inr ⟨o,its,n,ho,hc.1,hd,hc.2,rg e⟩
   ·cases h
  ·cases h
 ·exact .of h
theorem rP{K:W.Frag}{H:Hp}{a:Addr}{u:HO}(h:vw K H a=some u)(hu:∀ xs,u ≠ .tup xs):H a=some u:=by
 unfold vw at h
 split at h
 ·obtain⟨xs,rfl⟩:=zW h
  exact absurd rfl (hu xs)
 ·exact h
theorem aN{K:W.Frag}{H:Hp}{a:Addr}{xs:List V}(h:vw K H a=some (.lst xs)):H a=some (.lst xs):=rP h fun _ e=>by cases e
theorem kW{K:W.Frag}{H H':Hp}(S:aC H H'):aC (vw K H) (vw K H'):=fun b o e=>by
 unfold vw at e ⊢
 split at e
 ·exact e
 ·exact S _ _ e
def fh(l:Addr)(H H':Hp):Prop:=∀ b o,b ≠ l->H b=some o->H' b=some o
theorem zT{K:W.Frag}{l:Addr}{H H':Hp}(S:fh l H H'):fh l (vw K H) (vw K H'):=fun b o hb e=>by
 unfold vw at e ⊢
 split at e
 ·exact e
 ·exact S _ _ hb e
theorem aT.noK{X:Cx}{pins:List (Addr × Obj)}{σ:St}{H:Hp}{s:Shared}{p:Addr}{o:HO}(I:aT X pins σ H s)(h:H p=some o):X.K.lookup p=none:=by
 cases e:X.K.lookup p with
 | none=>rfl
 | some ob =>
  have:=(I.bs p ob (I.mod.kin p ob e)).2
  rw[h] at this
  cases this
theorem aT.newK{X:Cx}{pins:List (Addr × Obj)}{σ:St}{H:Hp}{s:Shared}{p:Addr}(I:aT X pins σ H s)(hp:s.heap.objs.size<=p):X.K.lookup p=none:=by
 cases e:X.K.lookup p with
 | none=>rfl
 | some o=>exact absurd (Nat.lt_of_lt_of_le (Heap.lt_size (I.kIn p o e)) hp) (Nat.lt_irrefl _)
def Kf(K:W.Frag)(v:V)(H:Hp):Prop:=∀ p o,v = .ref p->H p=some o->K.lookup p=none
section
variable {X:Cx}
theorem fb.kf{f:Value->Value->Sem Value}{r:R2}(h:fb X f r):fb X f (fun x y H Q=>r x y H fun v H'=>Kf X.K v H'->Q v H'):=fun pins s σ H x y v u Q I rx ry q =>
 dE (h pins s σ H x y v u _ I rx ry q) fun u' s' ⟨v',H',I',r',q'⟩=>⟨v',H',I',r',q' fun p o _ hp=>I'.noK hp⟩
theorem eZ.kf{f:Value}{r:List V->Hp->VK->Prop}(h:eZ X f r):eZ X f (fun xs H Q=>r xs H fun v H'=>Kf X.K v H'->Q v H'):=fun pins s σ H xs us Q I rs q =>
 dE (h pins s σ H xs us _ I rs q) fun u' s' ⟨v',H',I',r',q'⟩=>⟨v',H',I',r',q' fun p o _ hp=>I'.noK hp⟩
theorem uA.kf{r:V->Option Int->Option Int->Hp->VK->Prop}(h:uA X r):uA X (fun x a b H Q=>r x a b H fun v H'=>Kf X.K v H'->Q v H'):=by
 intro pins s σ H x v vl vu lo hi sl Q I rx hs pl pu q
 obtain⟨T,id,e1,e2,e3⟩:=h pins s σ H x v vl vu lo hi sl _ I rx hs pl pu q
 exact⟨T,id,e1,e2,dE e3 fun u' s' ⟨v',H',I',r',q'⟩=>⟨v',H',I',r',q' fun p o _ hp=>I'.noK hp⟩⟩
end
theorem aC.upd{H:Hp}{p:Addr}{o:HO}(hp:H p=none):aC H (upd H p o):=fun b u e=>by
 rw[cK (aj e hp)]
 exact e
theorem fh.upd{H:Hp}{l:Addr}{o:HO}:fh l H (upd H l o):=fun b u hb e=>by
 rw[cK hb]
 exact e
theorem aC.but{H H':Hp}(h:aC H H')(l:Addr):fh l H H':=fun b o _ e=>h b o e
theorem fh.trans{l:Addr}{H H1 H2:Hp}(a:fh l H H1)(b:fh l H1 H2):fh l H H2:=fun c o hc h=>b c o hc (a c o hc h)
theorem aT.big{X:Cx}{pins:List (Addr × Obj)}{σ:St}{H:Hp}{s:Shared}(I:aT X pins σ H s):sysModules<s.heap.objs.size:=by
 have h:mainGlobals<s.heap.objs.size:=(I.mod.glob.keeps I.bk).lt
 exact Nat.lt_trans (by decide) h
theorem zt{P:Program}{w:World}{H:Hp}(h:Heap)(hb:sysModules<h.objs.size):fc P w H (h.push { cls:=.type "dict",data:=.dict #[] }) h.objs.size (.dK []) :=
 ⟨Nat.zero_le _,beq_eq_false_iff_ne.mpr (Ne.symm (Nat.ne_of_lt hb)),[],.nil,Heap.DictOf.new h⟩
def Fn:TE:=fun _ H Q=>∀ p,H p=none->Q (.ref p) (upd H p (.dK []))
theorem Ab{X:Cx}{pos:Pos}:PE X (.Dict [] [] pos) Fn:=fun pins s σ H Q I h =>
 wpAny_Dict_empty ⟨.ref s.heap.objs.size,_,I.laid (a:=s.heap.objs.size) (o:=.dK []) (t':=s.toks) (fun _ _ q=>Heap.get?_push_of_some _ q) (Nat.le_refl _) (zt s.heap I.big),rfl,h _ (I.hok.fresh (Nat.le_refl _))⟩
def FO(H:Hp):V->Option String
 | .non=>some "NoneType"
 | .bl _=>some "bool"
 | .int _=>some "int"
 | .str _=>some "str"
 | .ref a=>match H a with
  | some (.lst _)=>some "list"
  | some (.frz _ (.lst _))=>some "list"
  | some (.tup _)=>some "tuple"
  | some (.dK _)=>some "dict"
  | _=>none
 | _=>none
def eo(n c:String):Bool:=n == c || (n == "bool" && c == "int")
def E8(n:String):Prop:=n = "NoneType" \/ n = "bool" \/ n = "int" \/ n = "str" \/ n = "list" \/ n = "tuple" \/ n = "dict"
def qy(c:String):Prop:=c = "bool" \/ c = "int" \/ c = "list" \/ c = "tuple" \/ c = "str" \/ c = "dict"
theorem fK{K:W.Frag}{n c:String}(hn:E8 n)(hc:qy c):PySem.W.kitOne K (.type n) (.type c)=some (eo n c):=by
 rcases hn with rfl|rfl|rfl|rfl|rfl|rfl|rfl <;> rcases hc with rfl|rfl|rfl|rfl|rfl|rfl <;> rfl
section
variable {X:Cx}
theorem cn:eZ X (.builtin "isinstance") (fun xs H Q=>∃ x c n,xs=[x,.ty c]/\qy c/\FO (vw X.K H) x=some n/\Q (.bl (eo n c)) H):=by
 intro pins s σ H xs us Q I r h
 obtain⟨x,c,n,rfl,hc,hn,q⟩:=h
 obtain⟨u,w',rfl,rx,ry⟩:=yT r
 cases ry
 have fin:∀ tk,EP X pins σ Q (.bool (eo n c)) { s with toks:=tk }:=fun tk=>⟨.bl _,H,I.tok tk,rfl,q⟩
 cases x with
 | non=>cases hn;exact fZ I rx .non (fK (.inl rfl) hc) fin
 | bl b=>cases hn;exact fZ I rx (.bl b) (fK (.inr (.inl rfl)) hc) fin
 | int b=>cases hn;exact fZ I rx (.int b) (fK (.inr (.inr (.inl rfl))) hc) fin
 | str b=>cases hn;exact fZ I rx (.str b) (fK (.inr (.inr (.inr (.inl rfl)))) hc) fin
 | flt b=>cases hn
 | byt b=>cases hn
 | ty b=>cases hn
 | ref a =>
  unfold FO at hn
  dsimp only at hn
  split at hn
  ·rename_i e;cases hn;exact fZ I rx (.lst (aN e)) (fK (.inr (.inr (.inr (.inr (.inl rfl))))) hc) fin
  ·rename_i e;cases hn;exact fZ I rx (.frz (rP e fun _ z=>by cases z)) (fK (.inr (.inr (.inr (.inr (.inl rfl))))) hc) fin
  ·rename_i ys e
   cases hn
   cases (show u=Value.ref a from rx)
   obtain⟨its,rv,p,hz⟩:=I.tuple (cN e)
   obtain⟨o,h1,h2,_⟩:=p
   exact PySem.W.kia_one PySem.W.kitx_tuple I.kIn ⟨o,h1,h2⟩ (fK (.inr (.inr (.inr (.inr (.inr (.inl rfl)))))) hc) (fun z=>nomatch z) fin
  ·rename_i e;cases hn;exact fZ I rx (.dK (rP e fun _ z=>by cases z)) (fK (.inr (.inr (.inr (.inr (.inr (.inr rfl)))))) hc) fin
  ·cases hn
end
theorem A6:qy "int":=.inr (.inl rfl)
theorem zc:qy "bool":=.inl rfl
theorem Ac:qy "list":=.inr (.inr (.inl rfl))
theorem yi:qy "tuple":=.inr (.inr (.inr (.inl rfl)))
theorem vg:bootBuiltins "abs" = some (.builtin "abs"):=by decide +kernel
theorem aQ:bootBuiltins "len" = some (.builtin "len"):=by decide +kernel
theorem bj:bootBuiltins "isinstance" = some (.builtin "isinstance"):=by decide +kernel
theorem Ay:bootBuiltins "max" = some (.builtin "max"):=by decide +kernel
theorem EH:bootBuiltins "min" = some (.builtin "min"):=by decide +kernel
theorem AK:bootBuiltins "int" = some (.type "int"):=by decide +kernel
theorem rB:bootBuiltins "bool" = some (.type "bool"):=by decide +kernel
theorem EW:bootBuiltins "str" = some (.type "str"):=by decide +kernel
theorem je:bootBuiltins "list" = some (.type "list"):=by decide +kernel
theorem iB:bootBuiltins "tuple" = some (.type "tuple"):=by decide +kernel
theorem sC:bootBuiltins "enumerate" = some (.type "enumerate"):=by decide +kernel
theorem EU:bootBuiltins "zip" = some (.type "zip"):=by decide +kernel
section
variable {X:Cx}
theorem uB.imp{r r':R2}(h:uB X r)(hi:∀ x y H Q,r' x y H Q->r x y H Q):uB X r':=fun v sl pins s σ H x y vv u Q I rx ry q hs=>h v sl pins s σ H x y vv u Q I rx ry (hi _ _ _ _ q) hs
theorem eZ.imp{f:Value}{r r':List V->Hp->VK->Prop}(h:eZ X f r)(hi:∀ xs H Q,r' xs H Q->r xs H Q):eZ X f r':=fun pins s σ H xs us Q I rs q=>h pins s σ H xs us Q I rs (hi _ _ _ q)
def uc(K:W.Frag):R2:=fun x y H Q=>∃ p i,x = .ref p/\y = .int i /\ ∃ xs,vw K H p=some (.lst xs) /\ ∃ v,nN xs i=some v/\Q v H
def zJ(K:W.Frag):R2:=fun x y H Q=>∃ p i,x = .ref p/\y = .int i /\ ∃ xs,vw K H p=some (.tup xs) /\ ∃ v,nN xs i=some v/\Q v H
theorem cZ:uB X (uc X.K):=vK.imp fun _ _ _ _ ⟨p,i,e1,e2,xs,e3,v,e4,q⟩=>⟨p,xs,i,v,e1,e2,.of (aN e3),e4,q⟩
theorem cg:uB X (zJ X.K):=Fe.imp fun _ _ _ _ ⟨p,i,e1,e2,xs,e3,v,e4,q⟩=>⟨p,xs,i,v,e1,e2,cN e3,e4,q⟩
def eU(H:Hp)(p:Addr):Option Nat:=match H p with
 | some (.lst xs)=>some xs.length
 | some (.frz _ (.lst xs))=>some xs.length
 | some (.tup xs)=>some xs.length
 | _=>none
theorem av:eZ X (.builtin "len") (fun xs H Q=>∃ p,xs=[.ref p] /\ ∃ n:Nat,eU (vw X.K H) p=some n/\Q (.int n) H):=jj.imp fun xs H Q ⟨p,e,n,hn,q⟩=>by
 unfold eU at hn
 split at hn
 ·rename_i ys hp
  cases hn
  exact⟨p,ys,e,.inl (.of (aN hp)),q⟩
 ·rename_i o ys hp
  cases hn
  exact⟨p,ys,e,.inl (.inl (.inr ⟨o,rP hp fun _ z=>by cases z⟩)),q⟩
 ·rename_i ys hp
  cases hn
  exact⟨p,ys,e,.inr (cN hp),q⟩
 ·cases hn
def jB(K:W.Frag)(n:Nat)(t:yq):TG:=fun v σ H Q=>∃ a,v = .ref a /\ ∃ xs,vw K H a=some (.tup xs)/\xs.length=n/\t xs σ H Q
theorem Cm{es:List Expr}{k:Nat}{t:yq}{n:Nat}{pos:Pos}(hc:X.calm=true)(h:FJ X es t)
  (hn:(assignEach es X.env).length=n:=by rfl)(hst:(assignEach es X.env).findIdx? (·.1)=none:=by rfl):PG X (.Tuple es k pos) (jB X.K n t) :=
 fun pins s σ H v u Q I r ⟨a,e,xs,hx,hl,q⟩=>FC hc h hn hst pins s σ H v u Q I r ⟨a,xs,e,cN hx,hl,q⟩
theorem eD{α:Type}{x:α}{xs:List α}:nN (x :: xs) 0=some x:=ck (j:=0) rfl
theorem ei{α:Type}{x y:α}{xs:List α}:nN (x :: y :: xs) 1=some y:=ck (j:=1) rfl
theorem zX{α:Type}{x y z:α}{xs:List α}:nN (x :: y :: z :: xs) 2=some z:=ck (j:=2) rfl
theorem lK{α:Type}{xs:List α}{r:Int}(h0:0<=r)(h1:r<xs.length):∃ v,nN xs r=some v/\v ∈ xs:=by
 have h2:r.toNat<xs.length:=by walk_at"o"
 refine⟨xs[r.toNat],?_,List.getElem_mem h2⟩
 have e:=ck (xs:=xs) (j:=r.toNat) (v:=xs[r.toNat]) (List.getElem?_eq_getElem h2)
 rw[show ((r.toNat:Nat):Int)=r by walk_at"o"] at e
 exact e
theorem aC.but_trans{H H1 H2:Hp}{st:Addr}(s:aC H H1)(hn:H st=none)(b:fh st H1 H2):aC H H2:=fun c o e=>b c o (aj e hn) (s c o e)
theorem fh.same_trans{H H1 H2:Hp}{st:Addr}(b:fh st H H1)(s:aC H1 H2):fh st H H2:=b.trans (s.but st)
theorem Ch:uR 2 0=some 0:=rfl
theorem BC{K:W.Frag}{b k:Bool}{H:Hp}:sV K (.bl b) H k=(k=b):=rfl
theorem Ad{K:W.Frag}{i:Int}{k:Bool}{H:Hp}:sV K (.int i) H k=(k=(i != 0)):=rfl
theorem vH{i j:Int}(h:0<=j/\j<=1000000/\i.natAbs<2 ^ 64):Gz i j:=h
end
def Nw(K:W.Frag)(H:Hp)(o:HO)(Q:VK):Prop:=∀ p H2,vw K H p=none->aC (vw K H) (vw K H2)->vw K H2 p=some o->Q (.ref p) H2
theorem Nw.ok{K:W.Frag}{H:Hp}{o:HO}{Q:VK}(h:Nw K H o Q) {p:Addr}(hk:K.lookup p=none)(hp:H p=none):Q (.ref p) (upd H p o) :=
 h p _ (by rw[fe hk];exact hp) (kW (aC.upd hp)) (by rw[fe hk];exact dA)
theorem Nw.al{K:W.Frag}{H:Hp}{o:HO}{Q:VK}(h:Nw K H o Q):∀ p,H p=none->Kf K (.ref p) (upd H p o)->Q (.ref p) (upd H p o):=fun p hp hk=>h.ok (hk p _ rfl dA) hp
def ju(K:W.Frag)(t:TA):TE:=fun σ H Q=>t σ H fun xs H1=>xs.length<=sizeLine/\Nw K H1 (.tup xs) Q
def qL(K:W.Frag)(t:TA):TE:=fun σ H Q=>t σ H fun xs H1=>xs.length<=sizeLine/\Nw K H1 (.lst xs) Q
def vT(K:W.Frag):TE:=fun _ H Q=>Nw K H (.dK []) Q
section
variable {X:Cx}{es:List Expr}{t:TA}{pos:Pos}
theorem C4 {x1}(h:PA X es t):PE X (.Tuple es x1 pos) (ju X.K t):=by
 intro pins s σ H Q I hq
 refine wpAny_Tuple_spliced (dE (h pos pins s σ H _ I hq) fun us s1 ⟨xs,H1,I1,r,z,q⟩=>⟨by rw[<- r.length];exact z,?_⟩)
 have hf:H1 s1.heap.objs.size=none:=I1.hok.fresh (Nat.le_refl _)
 refine⟨.ref s1.heap.objs.size,upd H1 s1.heap.objs.size (.tup xs),I1.laid (t':=s1.toks) (fun b u e=>Heap.get?_push_of_some _ e) (Nat.le_refl _) ?_,rfl,q.ok (I1.newK (Nat.le_refl _)) hf⟩
 exact⟨z,us,r,⟨_,Heap.get?_push_size _ rfl,rfl,_,rfl⟩⟩
theorem Bl(h:PA X es t):PE X (.List es pos) (qL X.K t):=by
 intro pins s σ H Q I hq
 refine wpAny_List_spliced (dE (h pos pins s σ H _ I hq) fun us s1 ⟨xs,H1,I1,r,z,q⟩=>⟨by rw[<- r.length];exact z,?_⟩)
 have hf:H1 s1.heap.objs.size=none:=I1.hok.fresh (Nat.le_refl _)
 refine⟨.ref s1.heap.objs.size,upd H1 s1.heap.objs.size (.lst xs),I1.laid (t':=s1.toks) (fun b u e=>Heap.get?_push_of_some _ e) (Nat.le_refl _) ?_,rfl,q.ok (I1.newK (Nat.le_refl _)) hf⟩
 exact⟨z,us,0,r,Heap.get?_push_size _ rfl⟩
theorem C3:PE X (.Dict [] [] pos) (vT X.K):=fun pins s σ H Q I h=>dE (Ab pins s σ H (fun v H'=>Kf X.K v H'->Q v H') I h.al) fun u' s' ⟨v',H',I',r',q'⟩=>⟨v',H',I',r',q' fun p o _ hp=>I'.noK hp⟩
theorem fb.imp{f:Value->Value->Sem Value}{r r':R2}(h:fb X f r)(hi:∀ x y H Q,r' x y H Q->r x y H Q):fb X f r':=fun pins s σ H x y v u Q I rx ry q=>h pins s σ H x y v u Q I rx ry (hi _ _ _ _ q)
def vQ(K:W.Frag):R2:=fun x y H Q=>∃ l b,x = .ref l/\y = .ref b /\ ∃ xs,vw K H l=some (.lst xs) /\ ∃ zs,vw K H b=some (.lst zs)/\xs.length+zs.length<=sizeLine/\Nw K H (.lst (xs ++ zs)) Q
theorem A7:fb X (binaryOp .Add) (vQ X.K):=Dv.kf.imp fun _ _ _ _ ⟨l,b,e1,e2,xs,h1,zs,h2,z,q⟩=>⟨l,b,xs,zs,e1,e2,aN h1,aN h2,z,q.al⟩
def xh(K:W.Frag):R2:=fun x y H Q=>∃ l k,x = .ref l/\y = .int k /\ ∃ xs,vw K H l=some (.lst xs) /\ -(2 ^ 63)<=k/\k<2 ^ 63/\xs.length*k.toNat<=sizeLine/\Nw K H (.lst (List.replicate k.toNat xs).flatten) Q
theorem CG:fb X (binaryOp .Mult) (xh X.K):=Fh.kf.imp fun _ _ _ _ ⟨l,k,e1,e2,xs,h1,z1,z2,z3,q⟩=>⟨l,k,xs,e1,e2,aN h1,z1,z2,z3,q.al⟩
def gO(K:W.Frag):R2:=fun x y H Q=>rI IntMulOk (fun i j=>.int (i*j)) x y H Q\/xh K x y H Q
def iN(K:W.Frag):R2:=fun x y H Q=>wJ (fun i j=>.int (i+j)) x y H Q\/vQ K x y H Q
theorem aS:fb X (binaryOp .Mult) (gO X.K):=Bw.or CG
theorem aV:fb X (binaryOp .Add) (iN X.K):=DH.or A7
theorem ix{K:W.Frag}{i j:Int}{H:Hp}{Q:VK}:gO K (.int i) (.int j) H Q=(IntMulOk i j/\Q (.int (i*j)) H):=by
 simp[gO,rI,xh]
theorem i4{K:W.Frag}{l:Addr}{j:Int}{H:Hp}{Q:VK}:gO K (.ref l) (.int j) H Q = ∃ xs,vw K H l=some (.lst xs) /\ -(2 ^ 63)<=j/\j<2 ^ 63/\xs.length*j.toNat<=sizeLine/\Nw K H (.lst (List.replicate j.toNat xs).flatten) Q:=by
 simp[gO,rI,xh]
theorem rm{K:W.Frag}{i j:Int}{H:Hp}{Q:VK}:iN K (.int i) (.int j) H Q=Q (.int (i+j)) H:=by
 simp[iN,wJ,vQ]
theorem gZ{K:W.Frag}{l b:Addr}{H:Hp}{Q:VK}:iN K (.ref l) (.ref b) H Q = ∃ xs,vw K H l=some (.lst xs) /\ ∃ zs,vw K H b=some (.lst zs)/\xs.length+zs.length<=sizeLine/\Nw K H (.lst (xs ++ zs)) Q:=by
 simp[iN,wJ,vQ]
theorem ja:eZ X (.type "list") (fun xs H Q=>∃ p,xs=[.ref p] /\ ∃ ys,vw X.K H p=some (.lst ys)/\Nw X.K H (.lst ys) Q):=lS.kf.imp fun _ _ _ ⟨p,e,ys,h,q⟩=>⟨p,ys,e,.inl (.of (aN h)),q.al⟩
theorem tZ:eZ X (.type "tuple") (fun xs H Q=>∃ p,xs=[.ref p] /\ ∃ ys,vw X.K H p=some (.lst ys)/\Nw X.K H (.tup ys) Q):=qb.kf.imp fun _ _ _ ⟨p,e,ys,h,q⟩=>⟨p,ys,e,.inl ⟨.of (aN h),q.al⟩⟩
theorem uA.imp{r r':V->Option Int->Option Int->Hp->VK->Prop}(h:uA X r)(hi:∀ x a b H Q,r' x a b H Q->r x a b H Q):uA X r':=by
 intro value p2 pins s σ H x lo hi' v vl vh sl Q
 intros
 apply h <;> first|assumption|(apply hi;assumption)
def DK(K:W.Frag):V->Option Int->Option Int->Hp->VK->Prop:=fun x lo hi H Q=>∃ a,x = .ref a /\ ∃ xs,vw K H a=some (.lst xs)/\Nw K H (.lst (gv xs lo hi)) Q
theorem gB:uA X (DK X.K):=CH.kf.imp fun _ _ _ _ _ ⟨a,e,xs,h,q⟩=>⟨a,xs,e,.of (aN h),q.al⟩
def Fi(K:W.Frag)(H:Hp)(l:Addr)(o:HO)(Q:Hp->Prop):Prop:=∀ H2,fh l (vw K H) (vw K H2)->vw K H2 l=some o->Q H2
theorem Fi.ok{K:W.Frag}{H:Hp}{l:Addr}{o:HO}{Q:Hp->Prop}(h:Fi K H l o Q)(hk:K.lookup l=none):Q (upd H l o):=h _ (zT fh.upd) (by rw[fe hk];exact dA)
def AG(K:W.Frag):V->V->V->Hp->(Hp->Prop)->Prop:=fun o i v H Q=>∃ p k,o = .ref p/\i = .int k /\ ∃ xs,vw K H p=some (.lst xs) /\ ∃ j,uR xs.length k=some j/\Fi K H p (.lst (xs.set j v)) Q
theorem dX:yl X (AG X.K):=fun pins s σ H o i v ov iv u Q I ro ri rv ⟨p,k,e1,e2,xs,h,j,e3,q⟩=>za pins s σ H o i v ov iv u Q I ro ri rv ⟨p,xs,k,j,e1,e2,aN h,e3,q.ok (I.noK (aN h))⟩
def Aj(K:W.Frag):V->List V->Hp->VK->Prop:=fun x vs H Q=>∃ l y,x = .ref l/\vs=[y] /\ ∃ xs,vw K H l=some (.lst xs)/\xs.length<sizeLine/\Fi K H l (.lst (xs ++ [y])) (Q .non)
theorem ik:GU X "list.append" (Aj X.K):=fun pins s σ H x vs v us Q I rx rv ⟨l,y,e1,e2,xs,h,z,q⟩=>qo pins s σ H x vs v us Q I rx rv ⟨l,xs,y,e1,e2,aN h,z,q.ok (I.noK (aN h))⟩
def Dm(K:W.Frag):V->List V->Hp->VK->Prop:=fun x vs H Q=>∃ l,x = .ref l/\vs=[] /\ ∃ xs,vw K H l=some (.lst xs) /\ ∃ y,xs[xs.length - 1]? = some y/\Fi K H l (.lst xs.dropLast) (Q y)
theorem CU:GU X "list.pop" (Dm X.K):=fun pins s σ H x vs v us Q I rx rv ⟨l,e1,e2,xs,h,y,e3,q⟩=>E3 pins s σ H x vs v us Q I rx rv ⟨l,xs,y,e1,e2,aN h,e3,q.ok (I.noK (aN h))⟩
end
def vV(J:It)(g:TG)(tb:TS)(D:m4)(σ:St)(H1:Hp):Prop:=∃ W:Nat->Nat->St->Hp->Prop,(∃ m,W 0 m σ H1) /\ ∀ i m σ H,W i m σ H ->
 (J.stop i H/\D.nx σ H)\/(J.go i H /\ ∃ N:St->Hp->Prop,(∀ σ' H',N σ' H' -> ∃ m',m'<m/\W (i+1) m' σ' H') /\ ∀ x H',J.yld i H x H'->g x σ H' fun σ2 H2=>tb { D with nx:=N,ct:=N,bk:=D.nx } σ2 H2)
theorem Ca(wi:TI)(g:TG)(tb:TS)(D:m4)(σ:St)(H:Hp):DN wi g tb D σ H=wi σ H fun J H1=>vV J g tb D σ H1:=rfl
end L2
namespace L2
open PySem PySem.Spec PyProof.Rows
inductive D where
 | non|bl (b:Bool)|int (i:Int)|str (x:Str)|dict|tup (ds:List D)|lst (ds:List D)
mutual
def aF(H:Hp):D->V->Prop
 | .non,v=>v = .non
 | .bl b,v=>v = .bl b
 | .int i,v=>v = .int i
 | .str x,v=>v = .str x
 | .dict,v=>∃ a kvs,v = .ref a/\H a=some (.dK kvs)
 | .tup ds,v=>∃ a xs,v = .ref a/\H a=some (.tup xs)/\aG H ds xs
 | .lst ds,v=>∃ a xs,v = .ref a/\H a=some (.lst xs)/\aG H ds xs
def aG(H:Hp):List D->List V->Prop
 | [],xs=>xs=[]
 | d :: ds,xs=>∃ x r,xs=x :: r/\aF H d x/\aG H ds r
end
mutual
theorem aF.same{H H':Hp}(S:aC H H'):∀ (d:D)(v:V),aF H d v->aF H' d v
 | .non,v,h=>by unfold aF at h ⊢;exact h
 | .bl b,v,h=>by unfold aF at h ⊢;exact h
 | .int i,v,h=>by unfold aF at h ⊢;exact h
 | .str x,v,h=>by unfold aF at h ⊢;exact h
 | .dict,v,h=>by
  unfold aF at h ⊢
  obtain⟨a,kvs,e,h⟩:=h
  exact⟨a,kvs,e,S _ _ h⟩
 | .tup ds,v,h=>by
  unfold aF at h ⊢
  obtain⟨a,xs,e,h,r⟩:=h
  exact⟨a,xs,e,S _ _ h,aG.same S ds xs r⟩
 | .lst ds,v,h=>by
  unfold aF at h ⊢
  obtain⟨a,xs,e,h,r⟩:=h
  exact⟨a,xs,e,S _ _ h,aG.same S ds xs r⟩
theorem aG.same{H H':Hp}(S:aC H H'):∀ (ds:List D)(xs:List V),aG H ds xs->aG H' ds xs
 | [],xs,h=>by unfold aG at h ⊢;exact h
 | d :: ds,xs,h=>by
  unfold aG at h ⊢
  obtain⟨x,r,e,h1,h2⟩:=h
  exact⟨x,r,e,aF.same S d x h1,aG.same S ds r h2⟩
end
theorem aG.get{H:Hp}:∀{ds:List D}{xs:List V}{i:Nat}{x:V},aG H ds xs->xs[i]? = some x -> ∃ d,ds[i]? = some d/\aF H d x
 | [],xs,i,x,h,e=>by
  unfold aG at h
  subst h
  simp at e
 | d :: ds,xs,i,x,h,e=>by
  unfold aG at h
  obtain⟨y,r,rfl,h1,h2⟩:=h
  cases i with
  | zero =>
   have e':y=x:=by simpa using e
   subst e'
   exact⟨d,by simp,h1⟩
  | succ i =>
   obtain⟨d',e1,e2⟩:=aG.get (i:=i) h2 (by simpa using e)
   exact⟨d',by simpa using e1,e2⟩
theorem aG.length{H:Hp}:∀{ds:List D}{xs:List V},aG H ds xs->xs.length=ds.length
 | [],xs,h=>by
  unfold aG at h
  subst h
  rfl
 | d :: ds,xs,h=>by
  unfold aG at h
  obtain⟨y,r,rfl,_,h2⟩:=h
  simp[aG.length h2]
def D.ty:D->String
 | .non=>"NoneType" | .bl _=>"bool" | .int _=>"int" | .str _=>"str" | .dict=>"dict" | .tup _=>"tuple" | .lst _=>"list"
theorem aF.ty{H:Hp}{d:D}{v:V}(h:aF H d v):FO H v=some d.ty:=by
 cases d <;> unfold aF at h
 ·subst h;rfl
 ·subst h;rfl
 ·subst h;rfl
 ·subst h;rfl
 ·obtain⟨a,kvs,rfl,h⟩:=h
  simp only[FO,h,D.ty]
 ·obtain⟨a,xs,rfl,h,_⟩:=h
  simp only[FO,h,D.ty]
 ·obtain⟨a,xs,rfl,h,_⟩:=h
  simp only[FO,h,D.ty]
theorem ua(a b:Int):Int.gcd b (a.fmod b)=Int.gcd a b:=by
 rw[Int.fmod_def,Int.gcd_comm a b]
 have:a - b*a.fdiv b=a+b*(- a.fdiv b):=by rw[Int.mul_neg];walk_at"o"
 rw[this]
 simp
theorem wK(a:Int){b:Int}(hb:b ≠ 0):(a.fmod b).natAbs<b.natAbs:=by
 rcases Int.lt_or_gt_of_ne hb with h|h
 ·obtain⟨n,rfl⟩ : ∃ n:Nat,b=Int.negSucc n:=⟨(-b - 1).toNat,by walk_at"o"⟩
  cases a with
  | ofNat m =>
   cases m with
   | zero=>simp[Int.fmod]
   | succ m =>
    show (Int.subNatNat (m % (n+1)) n).natAbs<n+1
    have:=Nat.mod_lt m (show 0<n+1 by walk_at"o")
    rw[Int.subNatNat_eq_coe]
    generalize m % (n+1)=z at *
    walk_at"o"
  | negSucc m =>
   show (-((((m+1) % (n+1):Nat)):Int)).natAbs<n+1
   have:=Nat.mod_lt (m+1) (show 0<n+1 by walk_at"o")
   generalize (m+1) % (n+1)=z at *
   walk_at"o"
 ·have h1:=Int.fmod_nonneg_of_pos a h
  have h2:=Int.fmod_lt_of_pos a h
  walk_at"o"
def lg(a b:Int):Int:=if b<0 then -(Int.gcd a b:Int) else (Int.gcd a b:Int)
def lo(a b:Int):Int × Int:=(a.fdiv (lg a b),b.fdiv (lg a b))
def fr(q:Int × Int):D:=.tup [.int q.1,.int q.2]
def Fq(q:Int × Int):Prop:=0<q.2/\Int.gcd q.1 q.2=1
theorem zm{a b:Int}(hb:b ≠ 0):lg a b ≠ 0:=by
 have h:Int.gcd a b ≠ 0:=fun e=>hb (Int.gcd_eq_zero_iff.mp e).2
 unfold lg
 split <;> walk_at"o"
theorem tO(a b:Int):lg a b ∣ a:=by
 unfold lg
 split
 ·exact Int.neg_dvd.mpr (Int.gcd_dvd_left ..)
 ·exact Int.gcd_dvd_left ..
theorem sj(a b:Int):lg a b ∣ b:=by
 unfold lg
 split
 ·exact Int.neg_dvd.mpr (Int.gcd_dvd_right ..)
 ·exact Int.gcd_dvd_right ..
theorem fF{a b:Int}(hb:b ≠ 0):(lo a b).1*lg a b=a:=by
 show a.fdiv (lg a b)*lg a b=a
 exact Int.fdiv_mul_cancel (tO a b)
theorem fQ{a b:Int}(hb:b ≠ 0):(lo a b).2*lg a b=b:=by
 show b.fdiv (lg a b)*lg a b=b
 exact Int.fdiv_mul_cancel (sj a b)
theorem xL(a b:Int):(lg a b).natAbs=Int.gcd a b:=by
 unfold lg
 split <;> walk_at"o"
theorem iS{a b:Int}(hb:b ≠ 0):Fq (lo a b):=by
 have h1:=fF (a:=a) hb
 have h2:=fQ (a:=a) hb
 have hg:0<Int.gcd a b:=Nat.pos_of_ne_zero fun e=>hb (Int.gcd_eq_zero_iff.mp e).2
 constructor
 ·by_cases hn:b<0
  ·have e:lg a b = -(Int.gcd a b:Int):=if_pos hn
   rw[e] at h2
   rcases Int.lt_trichotomy (lo a b).2 0 with h|h|h
   ·have:=Int.mul_nonneg_of_nonpos_of_nonpos (Int.le_of_lt h) (show -(Int.gcd a b:Int)<=0 by walk_at"o")
    walk_at"o"
   ·rw[h] at h2;walk_at"o"
   ·exact h
  ·have e:lg a b=(Int.gcd a b:Int):=if_neg hn
   rw[e] at h2
   rcases Int.lt_trichotomy (lo a b).2 0 with h|h|h
   ·have:=Int.mul_nonpos_of_nonpos_of_nonneg (Int.le_of_lt h) (show 0<=(Int.gcd a b:Int) by walk_at"o")
    walk_at"o"
   ·rw[h] at h2;walk_at"o"
   ·exact h
 ·have e:Int.gcd ((lo a b).1*lg a b) ((lo a b).2*lg a b)=Int.gcd (lo a b).1 (lo a b).2*(lg a b).natAbs:=Int.gcd_mul_right ..
  rw[h1,h2,xL] at e
  have:1*Int.gcd a b=Int.gcd (lo a b).1 (lo a b).2*Int.gcd a b:=by walk_at"o"
  exact (Nat.eq_of_mul_eq_mul_right hg this).symm
mutual
def D.noSt:D->Bool
 | .lst [.int _,.bl _]=>false
 | .lst ds=>D.noSts ds
 | .tup ds=>D.noSts ds
 | _=>true
def D.noSts:List D->Bool
 | []=>true
 | d :: ds=>d.noSt && D.noSts ds
end
def dC(H:Hp)(st:Addr):Prop:=∃ x b,H st=some (.lst [.int x,.bl b])/\(b=false->0<=x/\x<2147483647)
theorem zi{ds:List D}(h:D.noSt (.lst ds)=true):D.noSts ds=true /\ ∀ i b,ds ≠ [.int i,.bl b]:=by
 unfold D.noSt at h
 split at h
 ·cases h
 ·rename_i hne e
  cases e
  exact⟨h,fun i b z=>hne i b (by rw[z])⟩
 ·rename_i e;cases e
 ·rename_i e _;exact (e _ rfl).elim
theorem aF.lst_st{H:Hp}{ds:List D}{x:Int}{b:Bool}(h:aG H ds [.int x,.bl b]):ds=[.int x,.bl b]:=by
 match ds with
 | []=>unfold aG at h;cases h
 | [d] =>
  unfold aG at h
  obtain⟨_,_,e,_,h⟩:=h
  unfold aG at h
  subst h
  cases e
 | d1 :: d2 :: d3 :: r =>
  have:=aG.length h
  simp at this
 | [d1,d2] =>
  unfold aG at h
  obtain⟨_,_,e,h1,h⟩:=h
  cases e
  unfold aG at h
  obtain⟨_,_,e,h2,h⟩:=h
  cases e
  have e1:d1 = .int x:=by
   cases d1 <;> unfold aF at h1 <;> first|(cases h1;rfl)|(obtain⟨_,_,e,_⟩:=h1;cases e)|cases h1
  have e2:d2 = .bl b:=by
   cases d2 <;> unfold aF at h2 <;> first|(cases h2;rfl)|(obtain⟨_,_,e,_⟩:=h2;cases e)|cases h2
  rw[e1,e2]
mutual
theorem aF.but{H H':Hp}{st:Addr}(S:fh st H H')(hst:dC H st):∀ (d:D)(v:V),d.noSt=true->aF H d v->aF H' d v
 | .non,v,_,h=>by unfold aF at h ⊢;exact h
 | .bl b,v,_,h=>by unfold aF at h ⊢;exact h
 | .int i,v,_,h=>by unfold aF at h ⊢;exact h
 | .str x,v,_,h=>by unfold aF at h ⊢;exact h
 | .dict,v,_,h=>by
  unfold aF at h ⊢
  obtain⟨a,kvs,e,h⟩:=h
  obtain⟨_,_,hs,_⟩:=hst
  exact⟨a,kvs,e,S _ _ (yy h hs (by intro z;cases z)) h⟩
 | .tup ds,v,hn,h=>by
  unfold aF at h ⊢
  obtain⟨a,xs,e,h,r⟩:=h
  obtain⟨x,b,hs,hb⟩:=id hst
  exact⟨a,xs,e,S _ _ (yy h hs (by intro z;cases z)) h,aG.but S hst ds xs (by unfold D.noSt at hn;exact hn) r⟩
 | .lst ds,v,hn,h=>by
  unfold aF at h ⊢
  obtain⟨a,xs,e,h,r⟩:=h
  obtain⟨x,b,hs,hb⟩:=id hst
  obtain⟨hn1,hn2⟩:=zi hn
  refine⟨a,xs,e,S _ _ (yy h hs fun z=>?_) h,aG.but S hst ds xs hn1 r⟩
  cases z
  exact hn2 _ _ (aF.lst_st r)
theorem aG.but{H H':Hp}{st:Addr}(S:fh st H H')(hst:dC H st):∀ (ds:List D)(xs:List V),D.noSts ds=true->aG H ds xs->aG H' ds xs
 | [],xs,_,h=>by unfold aG at h ⊢;exact h
 | d :: ds,xs,hn,h=>by
  unfold D.noSts at hn
  rw[Bool.and_eq_true] at hn
  unfold aG at h ⊢
  obtain⟨x,r,e,h1,h2⟩:=h
  exact⟨x,r,e,aF.but S hst d x hn.1 h1,aG.but S hst ds r hn.2 h2⟩
end
theorem dC.same{H H':Hp}{st:Addr}(h:dC H st)(S:aC H H'):dC H' st:=by
 obtain⟨x,b,e,k⟩:=h
 exact⟨x,b,S _ _ e,k⟩
theorem dC.ne{H:Hp}{st p:Addr}(h:dC H st)(hp:H p=none):p ≠ st:=by
 obtain⟨x,b,e,k⟩:=h
 exact (aj e hp).symm
theorem Cb(q:Int × Int):(fr q).noSt=true:=by simp[fr,D.noSt,D.noSts]
def D.isInt:D->Bool
 | .int _=>true
 | _=>false
def D.frac:D->Bool
 | .tup [.int t,.int b]=>decide (0<b) && decide (Int.gcd t b=1)
 | _=>false
theorem frac_fr{q:Int × Int}(h:Fq q):(fr q).frac=true:=by
 simp[fr,D.frac,h.1,h.2]
theorem aF.tup_at{H:Hp}{ds:List D}{v:V}(h:aF H (.tup ds) v):∃ a xs,v = .ref a/\H a=some (.tup xs)/\aG H ds xs:=by
 unfold aF at h
 exact h
theorem aF.lst_at{H:Hp}{ds:List D}{v:V}(h:aF H (.lst ds) v):∃ a xs,v = .ref a/\H a=some (.lst xs)/\aG H ds xs:=by
 unfold aF at h
 exact h
theorem aG.nil_at{H:Hp}{xs:List V}(h:aG H [] xs):xs=[]:=by
 unfold aG at h
 exact h
theorem aG.cons_at{H:Hp}{d:D}{ds:List D}{xs:List V}(h:aG H (d :: ds) xs):∃ x r,xs=x :: r/\aF H d x/\aG H ds r:=by
 unfold aG at h
 exact h
theorem aF.int_at{H:Hp}{i:Int}{v:V}(h:aF H (.int i) v):v = .int i:=by
 unfold aF at h
 exact h
theorem aG.pair{H:Hp}{ds:List D}{xs:List V}(h:aG H ds xs)(hl:xs.length=2):∃ d1 d2 x1 x2,ds=[d1,d2]/\xs=[x1,x2]/\aF H d1 x1/\aF H d2 x2:=by
 have e:=h.length
 match ds,e with
 | [],e=>rw[hl] at e;cases e
 | [_],e=>rw[hl] at e;cases e
 | _ :: _ :: _ :: _,e=>rw[hl] at e;cases e
 | [d1,d2],_ =>
  obtain⟨x1,r,rfl,h1,h⟩:=h.cons_at
  obtain⟨x2,r,rfl,h2,h⟩:=h.cons_at
  cases h.nil_at
  exact⟨_,_,_,_,rfl,rfl,h1,h2⟩
theorem aF.mk_int{H:Hp}(i:Int):aF H (.int i) (.int i):=by unfold aF;rfl
theorem aG.mk_nil{H:Hp}:aG H [] []:=by unfold aG;rfl
theorem aG.mk_cons{H:Hp}{d:D}{ds:List D}{x:V}{xs:List V}(h1:aF H d x)(h2:aG H ds xs):aG H (d :: ds) (x :: xs):=by unfold aG;exact⟨_,_,rfl,h1,h2⟩
theorem aF.mk_tup{H:Hp}{a:Addr}{ds:List D}{xs:List V}(h:H a=some (.tup xs))(r:aG H ds xs):aF H (.tup ds) (.ref a):=by unfold aF;exact⟨_,_,rfl,h,r⟩
theorem aF.mk_lst{H:Hp}{a:Addr}{ds:List D}{xs:List V}(h:H a=some (.lst xs))(r:aG H ds xs):aF H (.lst ds) (.ref a):=by unfold aF;exact⟨_,_,rfl,h,r⟩
theorem aF.fr_at{H:Hp}{q:Int × Int}{v:V}(h:aF H (fr q) v):∃ a,v = .ref a/\H a=some (.tup [.int q.1,.int q.2]):=by
 obtain⟨a,xs,e,ha,r⟩:=h.tup_at
 obtain⟨x1,r1,rfl,h1,r⟩:=r.cons_at
 obtain⟨x2,r2,rfl,h2,r⟩:=r.cons_at
 cases r.nil_at
 rw[h1.int_at,h2.int_at] at ha
 exact⟨a,e,ha⟩
theorem D.frac_tup{ds:List D}(h:(D.tup ds).frac=true):∃ a b,ds=[.int a,.int b]/\Fq (a,b):=by
 unfold D.frac at h
 split at h
 ·rename_i t b e
  cases e
  simp at h
  exact⟨_,_,rfl,h.1,h.2⟩
 ·cases h
abbrev Bt (n:Nat)(x:Int):Prop:=x.natAbs<2 ^ n
theorem Bt.ib{n:Nat}{x:Int}(h:Bt n x):Builtin.Int.intBits x<=n:=by
 unfold Builtin.Int.intBits
 split
 ·exact Nat.zero_le _
 ·rename_i h0
  have h1:x.natAbs ≠ 0:=by
   intro e
   apply h0
   have:x=0:=by walk_at"o"
   rw[this]
   rfl
  have:=(Nat.log2_lt h1).mpr h
  walk_at"o"
theorem cp{m n:Nat}{x y:Int}(hx:Bt m x)(hy:Bt n y)(h:m+n<=134217728:=by decide):IntMulOk x y:=PySem.IntMulOk.of_le hx.ib hy.ib h
theorem Bt.mono{m n:Nat}{x:Int}(hx:Bt m x)(h:m<=n):Bt n x:=Nat.lt_of_lt_of_le hx (Nat.pow_le_pow_right (by decide) h)
theorem Bt.mul{m n:Nat}{x y:Int}(hx:Bt m x)(hy:Bt n y):Bt (m+n) (x*y):=by
 unfold Bt
 rw[Int.natAbs_mul,Nat.pow_add]
 exact Nat.mul_lt_mul'' hx hy
theorem Bt.add{m n:Nat}{x y:Int}(hx:Bt m x)(hy:Bt n y):Bt (max m n+1) (x+y):=by
 have h1:=hx.mono (Nat.le_max_left m n)
 have h2:=hy.mono (Nat.le_max_right m n)
 unfold Bt at *
 rw[Nat.pow_succ]
 have:=Int.natAbs_add_le x y
 walk_at"o"
theorem Bt.sub{m n:Nat}{x y:Int}(hx:Bt m x)(hy:Bt n y):Bt (max m n+1) (x - y):=by
 have h1:=hx.mono (Nat.le_max_left m n)
 have h2:=hy.mono (Nat.le_max_right m n)
 unfold Bt at *
 rw[Nat.pow_succ]
 have:=Int.natAbs_sub_le x y
 walk_at"o"
theorem EK{x y:Int}(h:y ≠ 0)(hb:Bt 9000 y):Dd x y:=⟨h,by
 by_cases h0:y.natAbs=0
 ·rw[h0];decide +kernel
 ·exact (Nat.log2_lt h0).mpr hb⟩
theorem vX{x k:Int}{n:Nat}(hk:0<k)(h:k.natAbs<=2 ^ n):Bt n (x.fmod k):=by
 have h1:=Int.fmod_nonneg_of_pos x hk
 have h2:=Int.fmod_lt_of_pos x hk
 unfold Bt
 walk_at"o"
theorem j8{x y:Int}(hx:Bt 64 x):IntMulOk x y:=.of_left hx.ib
theorem Bp{x y:Int}(hy:Bt 64 y):IntMulOk x y:=.of_right hy.ib
end L2
namespace L2
theorem jx{c A B:Prop} [Decidable c] (hc:c)(h:A):if c then A else B:=by rw[if_pos hc];exact h
theorem gM{c A B:Prop} [Decidable c] (hc:¬ c)(h:B):if c then A else B:=by rw[if_neg hc];exact h
end L2
namespace L2
theorem D.isInt_of{d:D}(h:¬ d.isInt=false):∃ i,d = .int i:=by
 cases d <;> first|exact⟨_,rfl⟩|exact absurd rfl h
theorem wm{t b:Int}(h:b<1):(D.tup [.int t,.int b]).frac=false:=by
 simp only[D.frac,decide_eq_false (show ¬ (0:Int)<b by walk_at"o"),Bool.false_and]
theorem wz{t b:Int}(h:0<b):(D.tup [.int t,.int b]).frac=decide (((Int.gcd t b:Nat):Int)=1):=by
 simp only[D.frac,decide_eq_true h,Bool.true_and]
 apply decide_eq_decide.mpr
 walk_at"o"
end L2
namespace L2
open PySem
def D.len:D->Nat
 | .lst ds=>ds.length
 | _=>0
mutual
def D.ib:D->Bool
 | .int i=>decide (i.natAbs<2 ^ 200)
 | .tup ds=>D.ibs ds
 | .lst ds=>D.ibs ds
 | _=>true
def D.ibs:List D->Bool
 | []=>true
 | d :: ds=>d.ib && D.ibs ds
end
theorem sK{ds:List D}(h:D.noSts ds=true)(hn:∀ i b,ds ≠ [.int i,.bl b]):D.noSt (.lst ds)=true:=by
 unfold D.noSt
 split
 ·rename_i e;cases e;exact absurd rfl (hn _ _)
 ·rename_i e;cases e;exact h
 ·rename_i e;cases e
 ·rfl
end L2
namespace L2
open PySem PySem.Spec PyProof.Rows
section
variable {prog:Program}{w:World}{A:Around}{R:Result->Shared->Prop}{s:Shared}
theorem rR{elt target iter:Expr}{ifs:List Expr}{scope:Scope}{pos:Pos}{it acc:Value}{env:Env}{EE:Value->Shared->Prop}(hEE:EE=notedBy (model prog w) A env fun e s'=>R (.error e) s')(Iv:Nat->Shared->Prop)
  (turn:∀ n s,Iv n s->wpAny (model prog w) A (pyNext it) (fun r s1=>match r with
   | none=>R (.ok .next) s1
   | some v=>wpAny (model prog w) A (letOwnedTupleGo target it v) (fun _ s2=>wpAny (model prog w) A (assign target env v) (fun _ s3 =>
     wpAny (model prog w) A (forIn ifs true fun c r=>if r=true then do let ok <- isTrue c env (eval c env);pure (ForInStep.yield ok) else pure (ForInStep.yield r)) (fun ok s4 =>
      if ok=true then wpAny (model prog w) A (eval elt env) (fun x s5=>wpAny (model prog w) A (call (.builtin "list.append") [acc,x]) (fun _ s6=>∃ m,m<n/\Iv m s6) EE s5) EE s4
      else ∃ m,m<n/\Iv m s4) EE s3) EE s2) EE s1) EE s)
  (n:Nat)(h:Iv n s):codeAny (model prog w) A (.compLoop (.ListComp elt [⟨target,iter,ifs,0⟩] scope pos) 0 it acc env) R s:=by
 subst hEE
 refine codeAny_loop rfl Iv (fun n s hI=>?_) n h
 show wpAny _ A ((compTurn (.ListComp elt [⟨target,iter,ifs,0⟩] scope pos) 0 it acc env).onRaise (fun x=>do noteFrame x env;theTreesLotGoes x)) _ _ s
 refine wpAny_noted ?_
 rw[compTurn_list]
 refine wpAny_bind (wpAny_standAt (wpAny_bind (wpAny_mono (turn n s hI) (fun r s1 h1=>?_) fun _ _ h'=>h')))
 cases r with
 | none=>exact wpAny_pure h1
 | some v =>
  refine wpAny_bind (wpAny_mono h1 (fun _ s2 h2=>?_) fun _ _ h'=>h')
  refine wpAny_bind (wpAny_mono h2 (fun _ s3 h3=>wpAny_bind (wpAny_mono h3 (fun ok s4 h4=>?_) fun _ _ h'=>h')) fun _ _ h'=>h')
  cases ok with
  | false=>exact wpAny_pure ⟨rfl,h4⟩
  | true=>exact wpAny_bind (wpAny_bind (wpAny_mono h4 (fun x s5 h5=>wpAny_bind (wpAny_mono h5 (fun _ s6 h6=>wpAny_pure (wpAny_pure ⟨rfl,h6⟩)) fun _ _ h'=>h')) fun _ _ h'=>h'))
end
def nG(X:Cx)(scope:Scope)(cl:List (Str × Addr))(N:List Str)(C:Addr)(s:Shared)(H:Hp)(ex:List Addr):Cx :=
 { X with N:=N,s₀:=s,H₀:=H,env:=compEnvC scope cl C X.env,outer:=X.stack,ex:=ex,fn:=fun _=>false,pn:=[],xe:=fun _ _=>False }
def tY(X:Cx)(scope:Scope)(cl:List (Str × Addr)):List Str->List Nat->Prop
 | [],[]=>True
 | x :: xs,j :: js=>(X.N[j]? = some x /\ X.env.kindOf x = some .cell /\ (relabel scope X.env).names.lookup x = some .cell /\ (∃ c,cl.lookup x = some c)) /\ tY X scope cl xs js
 | _,_=>False
theorem tY.length{X:Cx}{scope:Scope}{cl:List (Str × Addr)}:∀ {xs:List Str}{js:List Nat},tY X scope cl xs js->js.length=xs.length
 | [],[],_=>rfl
 | _ :: _,_ :: _,h=>by simp[tY.length h.2]
 | [],_ :: _,h=>h.elim
 | _ :: _,[],h=>h.elim
theorem tY.get{X:Cx}{scope:Scope}{cl:List (Str × Addr)}:∀ {xs:List Str}{js:List Nat}{k j:Nat}{x:Str},tY X scope cl xs js->xs[k]? = some x->js[k]? = some j ->
  X.N[j]? = some x /\ X.env.kindOf x = some .cell /\ (relabel scope X.env).names.lookup x = some .cell /\ ∃ c,cl.lookup x = some c
 | [],_,_,_,_,_,e,_=>by simp at e
 | _ :: _,[],_,_,_,_,_,e=>by simp at e
 | x :: xs,j :: js,0,_,_,h,e1,e2=>by
  simp at e1 e2
  subst e1
  subst e2
  exact h.1
 | x :: xs,j :: js,k+1,_,_,h,e1,e2=>tY.get (k:=k) h.2 (by simpa using e1) (by simpa using e2)
def lP(X:Cx):List (Str × Addr)->Prop
 | []=>True
 | p :: r=>X.env.cells.lookup p.1=some p.2/\lP X r
theorem lP.mem{X:Cx}:∀{cl:List (Str × Addr)},lP X cl -> ∀ p ∈ cl,X.env.cells.lookup p.1=some p.2
 | [],_,p,hp=>by cases hp
 | q :: r,h,p,hp=>by
  rcases List.mem_cons.mp hp with rfl|hp
  ·exact h.1
  ·exact lP.mem h.2 p hp
structure oG (X:Cx)(scope:Scope)(cl:List (Str × Addr))(own outs:List Str)(ixs:List Nat):Prop where
 nocell:(scope.names.all fun y=>y.2 != .cell)=true
 kind:scope.kind = .function
 names:(scope.names.all fun y=>y.2 != .local || scope.names.lookup y.1 == some .local)=true
 cells:lP X cl
 has:((relabel scope X.env).names.all fun y=>!(y.2 == .cell || y.2 == .free) || (cl.lookup y.1).isSome) = true
 outs:tY X scope cl outs ixs
def PF(X:Cx)(ifs:List Expr)(t:TT):Prop :=
 ∀ (pins:List (Addr × Obj))(s:Shared)(σ:St)(H:Hp)(Q:Bool->Hp->Prop),aT X pins σ H s->t σ H Q ->
  wpAny (model X.prog X.w) X.A (forIn ifs true fun c r=>if r=true then do let ok <- isTrue c X.env (eval c X.env);pure (ForInStep.yield ok) else pure (ForInStep.yield r)) (TP X pins σ Q) X.xe s
def FE:TT:=fun _ H Q=>Q true H
theorem DM{X:Cx}:PF X [] FE:=fun _ _ _ H _ I h=>wpAny_tests_nil ⟨H,I,h⟩
theorem Ev{X:Cx}{c:Expr}{t:TT}(h:PT X c t):PF X [c] t:=fun pins s σ H Q I q=>wpAny_tests_one (h pins s σ H Q I q)
def pA(K:W.Frag)(J:It)(g:TG)(tif:TT)(te:TE)(a:Addr)(σ0:St)(H0:Hp)(Q:Hp->Prop):Prop:=∃ W:Nat->Nat->St->Hp->Prop,(∃ m,W 0 m σ0 H0) /\ ∀ i m σ H,W i m σ H ->
 (J.stop i H/\Q H)\/(J.go i H /\ ∃ N:St->Hp->Prop,(∀ σ' H',N σ' H' -> ∃ m',m'<m/\W (i+1) m' σ' H') /\ ∀ x H',J.yld i H x H'->g x σ H' fun σ2 H2=>tif σ2 H2 fun b H3=>if b=true then te σ2 H3 fun v H4=>∃ xs,vw K H4 a=some (.lst xs)/\xs.length<sizeLine /\
  ∀ H5,fh a (vw K H4) (vw K H5)->vw K H5 a=some (.lst (xs ++ [v]))->N σ2 H5 else N σ2 H3)
def uY(σ:St)(ixs:List Nat):St:=ixs.map fun j=>(σ[j]?).join
def ue(K:W.Frag)(wi:TI)(n:Nat)(ixs:List Nat)(g:TG)(tif:TT)(te:TE):TE:=fun σ H Q=>wi σ H fun J H1=>∀ a H2,vw K H1 a=none->aC (vw K H1) (vw K H2)->vw K H2 a=some (.lst [])->pA K J g tif te a (List.replicate n none ++ uY σ ixs) H2 (Q (.ref a))
section
variable {X:Cx}
theorem qV{tg iter elt:Expr}{ifs:List Expr}{scope:Scope}{pos ipos:Pos}{wi:TI}{g:TG}{tif:TT}{te:TE}{cl:List (Str × Addr)}{own outs:List Str}{ixs:List Nat}{use:Option (Value->Sem Unit)}{Qv:Value->Shared->Prop}
  (hc:X.calm=true)(hi:PI X tg iter wi)(hclos:closureFor scope X.env=pure cl)(S:oG X scope cl own outs ixs)
  {G:Shared->Hp->List Addr->Prop}(hb:∀ C s H ex,G s H ex->PG (nG X scope cl (own ++ outs) C s H ex) tg g/\PF (nG X scope cl (own ++ outs) C s H ex) ifs tif/\PE (nG X scope cl (own ++ outs) C s H ex) elt te)
  (hs:∀ x,foldedSetIterable iter X.env x=pure x) {pins:List (Addr × Obj)}{s:Shared}{σ:St}{H:Hp}(hG:∀ s2 H1 H2 fp,aT X pins σ H2 s2->(∀ b ∈ fp,mJ X pins H1 b)->G s2 H2 fp)(I:aT X pins σ H s)(Qd:Addr->Hp->Prop)
  (hfin:∀ (a C:Addr)(H':Hp)(s4:Shared)(m:Str->Option Value),aT X pins σ H' s4->mJ X pins H' C->s4.heap.Ns C m->Qd a H'->compPost (model X.prog X.w) X.A X.xe use Qv (.ref a) C (.ok .next) s4)
  (h:wi σ H fun J H1=>∀ a H2,vw X.K H1 a=none->aC (vw X.K H1) (vw X.K H2)->vw X.K H2 a=some (.lst [])->pA X.K J g tif te a (List.replicate own.length none ++ uY σ ixs) H2 (Qd a)) :
  wpAny (model X.prog X.w) X.A (comprehension (.ListComp elt [⟨tg,iter,ifs,0⟩] scope pos) scope X.env ipos (newList []) false (eval iter X.env) use) Qv X.xe s:=by
 have Snc:∀ y ∈ scope.names,y.2 ≠ .cell:=fun y hy z=>by
  have:=List.all_eq_true.mp S.nocell y hy
  rw[z] at this
  cases this
 have Snm:∀ y ∈ scope.names,y.2 = .local->scope.names.lookup y.1=some .local:=fun y hy z=>by
  have:=List.all_eq_true.mp S.names y hy
  rw[z] at this
  simpa using this
 have Shs:∀ y ∈ (relabel scope X.env).names,(y.2 = .cell \/ y.2 = .free) -> (cl.lookup y.1).isSome = true:=fun y hy z=>by
  have:=List.all_eq_true.mp S.has y hy
  rcases z with z|z
  ·rw[z] at this
   simpa using this
  ·rw[z] at this
   simpa using this
 refine wpAny_comprehension_free (use:=use) rfl hs hclos S.kind Snm (wpAny_mono (hi pins s σ H _ I h) (fun xv s1 h1=>wpAny_mono h1 (fun itv s2 h2=>?_) fun _ _ e=>e) fun _ _ e=>e)
 obtain⟨it,fp,tn,J,H1,rfl,I1,T,st1,f1,q⟩:=h2
 refine wpAny_newObj_type (wpAny_newFunctionEnv Snc (by intro y hy;simp at hy) (fun h₁ hns₁ hsb₁=>?_) S.kind)
 dsimp only at hns₁ hsb₁ ⊢
 have I2:aT X pins σ (upd H1 s2.heap.objs.size (.lst [])) { s2 with heap:=s2.heap.push { cls:=.type "list",dict:=none,data:=.seq ([]:List Value).toArray } }:=I1.lnew (t':=s2.toks) .nil (Nat.zero_le _)
 have q2:=q s2.heap.objs.size (upd H1 s2.heap.objs.size (.lst [])) (by rw[fe (I1.newK (Nat.le_refl _))];exact I1.fresh) (kW (aC.upd I1.fresh)) (by rw[fe (I1.newK (Nat.le_refl _))];exact dA)
 have fr2:∀ b ∈ fp,(upd H1 s2.heap.objs.size (.lst [])) b=none:=fun b hb=>by
  obtain⟨o,ho,_⟩:=T.obj _ _ st1 b hb
  rw[cK (Nat.ne_of_lt (Heap.lt_size ho))]
  exact (f1 b hb).1
 generalize hH2:upd H1 s2.heap.objs.size (.lst [])=H2 at I2 q2 fr2
 generalize hs3:s2.heap.push { cls:=.type "list",dict:=none,data:=.seq ([]:List Value).toArray } = hp3 at I2 hns₁ hsb₁ ⊢
 have old23:∀ b o,s2.heap.get? b=some o->hp3.get? b=some o:=fun b o e=>hs3 ▸ Heap.get?_push_of_some _ e
 have ltC:∀ {b:Addr}{o:Obj},hp3.get? b=some o->b ≠ hp3.objs.size:=fun e=>Nat.ne_of_lt (Heap.lt_size e)
 have old:∀ b o,hp3.get? b=some o->h₁.get? b=some o:=fun b o e=>hsb₁.extBut b o (ltC e) (Heap.get?_push_of_some _ e)
 have clc:∀ x c,cl.lookup x=some c->X.env.cells.lookup x=some c:=fun x c e=>S.cells.mem (x,c) (PySem.mem_of_lookup e)
 obtain⟨W,⟨m0,w0⟩,turn⟩:=q2
 have fpo:∀ b ∈ fp,∃ o,hp3.get? b=some o:=fun b hb=>by
  obtain⟨o,ho,_⟩:=T.obj _ _ st1 b hb
  exact⟨o,old23 b o ho⟩
 have ok:(nG X scope cl (own ++ outs) hp3.objs.size { s2 with heap:=hp3 } H2 fp).Ok:=by
  refine⟨I.ok.mod,S.kind,I.ok.glob,I.ok.blt,Nat.le_refl _,fun x y c e1 e2=>I.ok.inj x y c (clc x c e1) (clc y c e2),fun x hx=>?_,fun x c hf _=>(by cases hf),I.ok.hd,I.ok.frames,.inl rfl,fun b hb=>⟨?_,fun x c e=>?_⟩,I2.bs,Nat.le_trans I.ok.bsz I2.sz,fun b o e hb=>?_,fun b hb hz=>?_,I2.stack,I2.stkFree⟩
  ·have hx':(relabel scope X.env).names.lookup x = some .cell \/ (relabel scope X.env).names.lookup x = some .free:=hx
   have:(cl.lookup x).isSome=true:=by
    rcases hx' with e|e
    ·exact Shs _ (PySem.mem_of_lookup e) (.inl rfl)
    ·exact Shs _ (PySem.mem_of_lookup e) (.inr rfl)
   exact Option.isSome_iff_exists.mp this
  ·obtain⟨o,ho⟩:=fpo b hb
   exact ltC ho
  ·exact (f1 b hb).2.2.2.2.1 x c (clc x c e)
  ·rcases (f1 b hb).2.2.2.1 with z|z
   ·exact I.ok.noex b o e z
   ·exact absurd (Nat.lt_of_lt_of_le (Heap.lt_size e) (Nat.le_trans I.ok.bsz z)) (Nat.lt_irrefl _)
  ·rcases List.mem_cons.mp (I2.stkSub b hz) with z|z
   ·exact (f1 b hb).2.1 z
   ·exact (f1 b hb).2.2.1 z
 have I4:aT (nG X scope cl (own ++ outs) hp3.objs.size { s2 with heap:=hp3 } H2 fp) [] (List.replicate own.length none ++ uY σ ixs) H2 { s2 with heap:=h₁,toks:=s2.toks+([]:List (Str × Value)).length }:=by
  refine⟨ok,rfl,I2.bare,Un.kept old,⟨_,hns₁,fun i x v e1 e2 e3=>?_⟩,fun x c e=>?_,I2.hok.fresh (Nat.le_refl _),fun x c e=>I2.freeC x c (clc x c e),fun p hp=>by simp[nG] at hp,I2.hok.kept old,?_⟩
  ·have e1':(own ++ outs)[i]? = some x:=e1
   have hi':own.length<=i:=by
    by_cases hlt:i<own.length
    ·rw[List.getElem?_append_left (by simpa using hlt),List.getElem?_replicate,if_pos hlt] at e2
     cases e2
    ·walk_at"o"
   rw[List.getElem?_append_right (by simpa using hi')] at e2
   rw[List.getElem?_append_right hi'] at e1'
   rw[List.length_replicate] at e2
   unfold uY at e2
   rw[List.getElem?_map] at e2
   cases ej:ixs[i - own.length]? with
   | none=>rw[ej] at e2;cases e2
   | some j =>
    rw[ej] at e2
    obtain⟨hN,hk,hr,c,hcl⟩:=S.outs.get e1' ej
    have e4:(σ[j]?).join=some v:=Option.some.inj e2
    have e5:σ[j]? = some (some v):=by
     cases es:σ[j]? with
     | none=>rw[es] at e4;cases e4
     | some o=>rw[es] at e4;exact congrArg some e4
    obtain⟨m,hn,hl⟩:=I2.loc
    obtain⟨u,ru,l⟩:=hl j x v hN e5 (.inr (.inl hk))
    refine⟨u,ru,.inr ⟨.inl hr,c,hcl,?_⟩⟩
    rcases l with ⟨z,_⟩|⟨_,c',hc',cell⟩
    ·rw[hk] at z;cases z
    ·rw[clc x c hcl] at hc'
     cases hc'
     obtain⟨o,ho,hd⟩:=cell
     exact⟨o,old _ _ ho,hd⟩
  ·obtain⟨v,o,ho,hd⟩:=I2.cell x c (clc x c e)
   exact⟨v,o,old _ _ ho,hd⟩
  ·show (List.replicate own.length none ++ uY σ ixs).length=(own ++ outs).length
   unfold uY
   rw[List.length_append,List.length_append,List.length_replicate,List.length_map,S.outs.length]
 obtain⟨hg,hf,he⟩:=hb hp3.objs.size { s2 with heap:=hp3 } H2 fp (hG _ _ _ _ I2 f1)
 have stat:∀ {H':Hp},(∀ b ∈ fp,H' b=none) -> ∀ b ∈ fp,mJ (nG X scope cl (own ++ outs) hp3.objs.size { s2 with heap:=hp3 } H2 fp) [] H' b:=fun hn b hb =>
  ⟨hn b hb,(ok.exf b hb).1,ok.exfs b hb,.inl hb,(ok.exf b hb).2,fun p hp=>by simp[nG] at hp⟩
 have noE:∀ {α:Type}{t:Sem α}{Q':α->Shared->Prop}{s':Shared}{E':Value->Shared->Prop},wpAny (model X.prog X.w) X.A t Q' (fun _ _=>False) s'->wpAny (model X.prog X.w) X.A t Q' E' s':=fun h=>wpAny_mono h (fun _ _ z=>z) fun _ _ z=>z.elim
 have loop:codeAny (model X.prog X.w) X.A (.compLoop (.ListComp elt [⟨tg,iter,ifs,0⟩] scope pos) 0 (.ref it) (.ref s2.heap.objs.size) (compEnvC scope cl hp3.objs.size X.env))
   (compPost (model X.prog X.w) X.A X.xe use Qv (.ref s2.heap.objs.size) hp3.objs.size) { s2 with heap:=h₁,toks:=s2.toks+([]:List (Str × Value)).length }:=by
  refine rR rfl (fun n s'=>∃ i σ' H',aT (nG X scope cl (own ++ outs) hp3.objs.size { s2 with heap:=hp3 } H2 fp) [] σ' H' s'/\tn i s'.heap/\(∀ b ∈ fp,H' b=none)/\W i n σ' H') ?_ m0
   ⟨0,_,H2,I4,T.keep _ _ _ st1 fun b hb o e=>old b o (old23 b o e),fr2,w0⟩
  rintro n s' ⟨i,σ',H',I',st',fr',w'⟩
  rcases turn i n σ' H' w' with ⟨stop,qn⟩|⟨go,N,hN,step⟩
  ·refine dE (T.done (nG X scope cl (own ++ outs) hp3.objs.size { s2 with heap:=hp3 } H2 fp) rfl rfl rfl hc i [] s' σ' H' _ I' (stat fr') st' stop) fun r s4 ⟨hr,I4'⟩=>?_
   subst hr
   obtain⟨m,hn,_⟩:=I4'.loc
   have kC:∀ b o,b ≠ hp3.objs.size->s4.heap.get? b=some o->s4.heap.get? b=some o:=fun b o hb e=>e
   have tC:∀ b u,H' b=some u->b ≠ hp3.objs.size:=fun b u e z=>by
    have:=I4'.free
    rw[z] at e
    rw[show H' hp3.objs.size=none from this] at e
    cases e
   have base:=I4'.base
   have un:Un (yo X.stack) fp H2 H' hp3 s4.heap:=⟨fun b o e n1 hb hx=>kC b o (ltC e) (base.keep b o e n1 hb hx),fun b o e n1 hb hx=>by
     obtain⟨sl,z⟩:=base.slot b o e n1 hb hx
     exact⟨sl,kC b _ (ltC e) z⟩,base.free,fun b o e hx=>by
     obtain⟨o',z⟩:=base.there b o e hx
     exact⟨o',kC b o' (ltC e) z⟩,base.tups,base.frzs,base.tbls⟩
   exact hfin _ _ H' s4 m (I2.call' (s':=s4) (ch:=fp) I4'.os un I4'.hok I4'.bare (fun b hb=>⟨(f1 b hb).2.2.2.1,(f1 b hb).2.1,(f1 b hb).2.2.2.2.1,(f1 b hb).2.2.2.2.2⟩)) (I2.fpOk (Nat.le_refl _) I4'.free) hn qn
  ·refine dE (T.item (nG X scope cl (own ++ outs) hp3.objs.size { s2 with heap:=hp3 } H2 fp) rfl rfl rfl hc i [] s' σ' H' _ I' (stat fr') st' go) fun r s4 ⟨u,hr,h4⟩=>?_
   subst hr
   refine dE h4 fun _ s5 ⟨x,H5,I5,r5,y5,st5,fr5⟩=>?_
   have I5':=I5.pinned (stat fr5) (T.obj _ _ st5)
   have back:∀ {σ7:St}{H7:Hp}{s7:Shared},aT (nG X scope cl (own ++ outs) hp3.objs.size { s2 with heap:=hp3 } H2 fp) ([] ++ pe fp s5.heap) σ7 H7 s7 -> ∀ m',m'<n->W (i+1) m' σ7 H7 ->
     ∃ m,m<n /\ ∃ i σ' H',aT (nG X scope cl (own ++ outs) hp3.objs.size { s2 with heap:=hp3 } H2 fp) [] σ' H' s7/\tn i s7.heap/\(∀ b ∈ fp,H' b=none)/\W i m σ' H':=fun {σ7 H7 s7} I7 m' hm w7=>by
    refine⟨m',hm,i+1,σ7,H7,I7.unpinned,T.keep _ _ _ st5 fun b hb o e=>(I7.pin (b,o) (List.mem_append_right _ (List.mem_append_right _ (i9 hb e)))).1,fun b hb=>?_,w7⟩
    obtain⟨o,e,d⟩:=T.obj _ _ st5 b hb
    exact (I7.pin (b,o) (List.mem_append_right _ (List.mem_append_right _ (i9 hb e)))).2.1
   refine dE (noE (hg _ s5 σ' H5 x u _ I5' r5 (step x H5 y5))) fun _ s6 ⟨σ6,H6,I6,q6⟩=>?_
   refine dE (noE (hf _ s6 σ6 H6 _ I6 q6)) fun ok s7 ⟨H7,I7,q7⟩=>?_
   cases ok with
   | false =>
    rw[if_neg Bool.false_ne_true] at q7 ⊢
    obtain⟨m',hm,w7⟩:=hN _ _ q7
    exact back I7 m' hm w7
   | true =>
    rw[if_pos rfl] at q7 ⊢
    refine dE (noE (he _ s7 σ6 H7 _ I7 q7)) fun v s8 ⟨xv,H8,I8,r8,q8⟩=>?_
    obtain⟨xs,hxs,hz,q8⟩:=q8
    refine dE (noE (qo _ s8 σ6 H8 (.ref s2.heap.objs.size) [xv] _ [v] (fun _ H9=>N σ6 H9) I8 rfl (.cons r8 .nil) ⟨_,xs,xv,rfl,rfl,aN hxs,hz,q8 _ (zT fh.upd) ((fe (show X.K.lookup _=none from I8.noK (aN hxs))).trans dA)⟩)) fun _ s9 ⟨_,H9,I9,_,n9⟩=>?_
    obtain⟨m',hm,w9⟩:=hN _ _ n9
    exact back I9 m' hm w9
 exact codeAny_compStart_list loop (T.self _ 0 _ _ _ (T.keep _ _ _ st1 fun b hb o e=>old b o (old23 b o e)) loop)
theorem BO{tg iter elt:Expr}{ifs:List Expr}{scope:Scope}{pos:Pos}{wi:TI}{g:TG}{tif:TT}{te:TE}{cl:List (Str × Addr)}{own outs:List Str}{ixs:List Nat}
  (hc:X.calm=true)(hi:PI X tg iter wi)(hclos:closureFor scope X.env=pure cl)(S:oG X scope cl own outs ixs)
  (hb:∀ C s H ex,PG (nG X scope cl (own ++ outs) C s H ex) tg g/\PF (nG X scope cl (own ++ outs) C s H ex) ifs tif/\PE (nG X scope cl (own ++ outs) C s H ex) elt te)
  (hs:∀ x,foldedSetIterable iter X.env x=pure x:=by intro _;rfl) :
  PE X (.ListComp elt [⟨tg,iter,ifs,0⟩] scope pos) (ue X.K wi own.length ixs g tif te):=by
 intro pins s σ H Q I h
 rw[eval_ListComp]
 refine qV (G:=fun _ _ _=>True) hc hi hclos S (fun C s H ex _=>hb C s H ex) hs (fun _ _ _ _ _ _=>trivial) I (fun a H'=>Q (.ref a) H') (fun a C H' s4 m J4 fC hn q=>⟨m,hn,fun h' hsb=>?_⟩) h
 obtain⟨f0,f1,f2,f3,f4,f5⟩:=fC
 exact⟨.ref a,H',J4.turned (t':=s4.toks) (fun b o hb e=>hsb.extBut b o hb e) f0 f1 f3 f4 f5,rfl,q⟩
theorem Be{tg iter elt:Expr}{ifs:List Expr}{scope:Scope}{pos spos py:Pos}{y:Str}{i:Nat}{wi:TI}{g:TG}{tif:TT}{te:TE}{cl:List (Str × Addr)}{own outs:List Str}{ixs:List Nat}
  (hN:X.N.Nodup)(hy:X.N[i]? = some y)(hx:A3 X.env.scope y)(hc:X.calm=true)(hi:PI X tg iter wi)(hclos:closureFor scope X.env=pure cl)(S:oG X scope cl own outs ixs)
  (hb:∀ C s H ex,PG (nG X scope cl (own ++ outs) C s H ex) tg g/\PF (nG X scope cl (own ++ outs) C s H ex) ifs tif/\PE (nG X scope cl (own ++ outs) C s H ex) elt te)
  (hsw:swapsWith (.ListComp elt [⟨tg,iter,ifs,0⟩] scope pos) (some (.Name y py)) spos.line X.env=pure true:=by rfl)
  (hs:∀ x,foldedSetIterable iter X.env x=pure x:=by intro _;rfl)(hf:X.fn y=true\/X.env.scope.names.lookup y=some .local:=by first|exact .inl rfl|exact .inr rfl|assumption) :
  PS X (.Assign [.Name y py] (.ListComp elt [⟨tg,iter,ifs,0⟩] scope pos) spos) (tR (ue X.K wi own.length ixs g tif te) (ig i)):=by
 intro pins s σ H D I h
 rw[exec_Assign_Name_used _ _ _ _ hsw]
 refine wpAny_bind (wpAny_standAt (wpAny_bind ?_))
 show wpAny _ X.A (do let _ <- comprehension (.ListComp elt [⟨tg,iter,ifs,0⟩] scope pos) scope X.env _ (newList []) false (eval iter X.env) (some (assign (.Name y py) X.env))) _ _ s
 refine wpAny_bind (wpAny_mono (qV (use:=some (assign (.Name y py) X.env)) (Qv:=fun _ s'=>SP X pins D .next s') (G:=fun _ _ _=>True) hc hi hclos S (fun C s H ex _=>hb C s H ex) hs (fun _ _ _ _ _ _=>trivial) I (fun a H'=>D.nx (σ.set i (some (.ref a))) H') (fun a C H' s4 m J4 fC hn q=>?_) h) (fun _ s' hq=>wpAny_pure (wpAny_pure hq)) fun _ _ e=>e)
 obtain⟨f0,f1,f2,f3,f4,f5⟩:=fC
 refine wpAny_assign_Name (qR J4 hN hy hx (v:=.ref a) rfl (fun s5 I5 hsame=>?_) hf)
 obtain⟨b,sb,hb'⟩:=hsame
 have nb:C ≠ b:=fun e=>by
  rcases hb' with z|z
  ·exact f1 (e.trans z)
  ·exact f4 _ _ z e.symm
 exact⟨m,hn.sameBut sb nb,fun h' hsb=>⟨_,H',I5.turned (t':=s5.toks) (fun b o hb e=>hsb.extBut b o hb e) f0 f1 f3 f4 f5,q⟩⟩
end
theorem F1{X:Cx}{scope:Scope}{cl:List (Str × Addr)}{N:List Str}{C:Addr}{s:Shared}{H:Hp}{ex:List Addr}:(nG X scope cl N C s H ex).K=X.K:=rfl
mutual
def D.py:D->PyData
 | .non=>.none
 | .bl b=>.bool b
 | .int i=>.int i
 | .str x=>.str x
 | .dict=>.dict []
 | .tup ds=>.tuple (D.pys ds)
 | .lst ds=>.list (D.pys ds)
def D.pys:List D->List PyData
 | []=>[]
 | d :: ds=>d.py :: D.pys ds
end
def D.cmp(d:D):Prop:=d.py.canLay0=true/\d.py.depth<=30
def A2(d e:D):Bool:=PyData.eqv d.py e.py
section
variable {X:Cx}{pins:List (Addr × Obj)}{σ:St}{H:Hp}{s:Shared}
mutual
theorem aF.reads(I:aT X pins σ H s):∀ (d:D)(v:V)(u:Value),aF (vw X.K H) d v->cw v u->d.py.canLay0=true -> ∃ as,Reads s.heap u d.py as
 | .non,v,u,h,r,_=>by
  unfold aF at h;subst h;cases r
  exact⟨_,by unfold D.py;exact .none⟩
 | .bl b,v,u,h,r,_=>by
  unfold aF at h;subst h;cases r
  exact⟨_,by unfold D.py;exact .bool b⟩
 | .int i,v,u,h,r,_=>by
  unfold aF at h;subst h;obtain⟨t,rfl⟩:=r
  exact⟨_,by unfold D.py;exact .int i t⟩
 | .str x,v,u,h,r,_=>by
  unfold aF at h;subst h;obtain⟨t,rfl⟩:=r
  exact⟨_,by unfold D.py;exact .str x t⟩
 | .dict,v,u,h,r,hc=>by
  unfold D.py PyData.canLay0 at hc
  cases hc
 | .tup ds,v,u,h,r,hc=>by
  obtain⟨a,xs,rfl,ha,rs⟩:=h.tup_at
  cases r
  unfold D.py at hc ⊢
  obtain⟨its,rv,p,hz⟩:=I.tuple (cN ha)
  obtain⟨o,h1,h2,n,h3⟩:=p
  obtain⟨as,ra⟩:=aG.reads I ds xs its rs rv (by unfold PyData.canLay0 at hc;exact hc)
  exact⟨_,.tuple h1 h2 h3 (by simpa using ra)⟩
 | .lst ds,v,u,h,r,hc=>by
  obtain⟨a,xs,rfl,ha,rs⟩:=h.lst_at
  cases r
  unfold D.py at hc ⊢
  obtain⟨its,rv,p,hz⟩:=I.list (jQ.of (K:=X.K) (aN ha))
  obtain⟨o,n,h1,h2,h3,h4⟩:=p
  obtain⟨as,ra⟩:=aG.reads I ds xs its rs rv (by unfold PyData.canLay0 at hc;exact hc)
  exact⟨_,.list h1 h2 h4 (by simpa using ra)⟩
theorem aG.reads(I:aT X pins σ H s):∀ (ds:List D)(xs:List V)(us:List Value),aG (vw X.K H) ds xs->bQ xs us->PyData.canLayAll0 (D.pys ds)=true -> ∃ as,ReadsAll s.heap us (D.pys ds) as
 | [],xs,us,h,r,_=>by
  cases h.nil_at
  cases r
  exact⟨_,by unfold D.pys;exact .nil⟩
 | d :: ds,xs,us,h,r,hc=>by
  obtain⟨x,ys,rfl,h1,h2⟩:=h.cons_at
  cases r with
  | cons r1 r2 =>
   unfold D.pys PyData.canLayAll0 at hc
   rw[Bool.and_eq_true] at hc
   obtain⟨as,ra⟩:=aF.reads I d x _ h1 r1 hc.1
   obtain⟨bs,rb⟩:=aG.reads I ds ys _ h2 r2 hc.2
   exact⟨_,by unfold D.pys;exact .cons ra rb⟩
end
end
def Cu(K:W.Frag)(neg:Bool):R2:=fun x y H Q=>∃ d e,aF (vw K H) d x/\aF (vw K H) e y/\d.cmp/\e.cmp/\Q (.bl (if neg then !A2 d e else A2 d e)) H
section
variable {X:Cx}
theorem mX(hu:X.A.units+64<cLine):fb X (compareOp .Eq) (Cu X.K false):=by
 intro pins s σ H x y v u Q I rx ry h
 obtain⟨d,e,h1,h2,c1,c2,q⟩:=h
 obtain⟨as,r1⟩:=aF.reads I d x v h1 rx c1.1
 obtain⟨bs,r2⟩:=aF.reads I e y u h2 ry c2.1
 exact SeqAt.compareEq_reads r1 r2 c1.1 c2.1 (by have:=c1.2;walk_at"o") ⟨.bl _,H,I,rfl,q⟩
theorem sO(hu:X.A.units+64<cLine):fb X (compareOp .NotEq) (Cu X.K true):=by
 intro pins s σ H x y v u Q I rx ry h
 obtain⟨d,e,h1,h2,c1,c2,q⟩:=h
 obtain⟨as,r1⟩:=aF.reads I d x v h1 rx c1.1
 obtain⟨bs,r2⟩:=aF.reads I e y u h2 ry c2.1
 exact SeqAt.compareNe_reads r1 r2 c1.1 c2.1 (by have:=c1.2;walk_at"o") ⟨.bl _,H,I,rfl,q⟩
end
def kB(K:W.Frag)(H:Hp)(a:Addr)(xs:List V):Prop:=(K.lookup a=none/\Rd H a (.lst xs)) \/
 ∃ (o:Obj)(its:Array Value)(n:Nat),K.lookup a=some o/\o.cls = .type "list" /\ o.dict=none/\o.data = .seq its n/\its.size<=sizeLine/\bQ xs its.toList
theorem kB.sq{K:W.Frag}{H:Hp}{a:Addr}{xs:List V}(h:kB K H a xs):jQ K H a xs:=h.imp (fun z=>z.2) fun z=>z
theorem kB.of{K:W.Frag}{H:Hp}{a:Addr}{xs:List V}(h:jQ K H a xs)(hk:H a ≠ none->K.lookup a=none):kB K H a xs:=by
 rcases h with h|h
 ·refine .inl ⟨hk ?_,h⟩
  rcases h with h|⟨o,h⟩ <;> rw[h] <;> simp
 ·exact .inr h
theorem kB.same{K:W.Frag}{H H':Hp}{a:Addr}{xs:List V}(h:kB K H a xs)(S:aC (vw K H) (vw K H')):kB K H' a xs:=by
 rcases h with ⟨hk,h⟩|h
 ·refine .inl ⟨hk,?_⟩
  rcases h with h|⟨o,h⟩
  ·have:=S a _ ((fe hk).trans h)
   rw[fe hk] at this
   exact .inl this
  ·have:=S a _ ((fe hk).trans h)
   rw[fe hk] at this
   exact .inr ⟨o,this⟩
 ·exact .inr h
end L2
namespace L2
open PySem PySem.Spec PyProof.Rows
mutual
def D.flat:D->Bool
 | .lst _=>false
 | .tup ds=>D.flats ds
 | _=>true
def D.flats:List D->Bool
 | []=>true
 | d :: ds=>d.flat && D.flats ds
end
section
variable {H H':Hp}{l:Addr}{xs:List V}
mutual
theorem aF.flat_but(hl:H l=some (.lst xs))(S:fh l H H'):∀ (d:D)(v:V),d.flat=true->aF H d v->aF H' d v
 | .non,v,_,h=>by unfold aF at h ⊢;exact h
 | .bl b,v,_,h=>by unfold aF at h ⊢;exact h
 | .int i,v,_,h=>by unfold aF at h ⊢;exact h
 | .str x,v,_,h=>by unfold aF at h ⊢;exact h
 | .dict,v,_,h=>by
  unfold aF at h ⊢
  obtain⟨a,kvs,rfl,h⟩:=h
  exact⟨a,kvs,rfl,S _ _ (fun e=>by rw[e,hl] at h;cases h) h⟩
 | .tup ds,v,hf,h=>by
  obtain⟨a,ys,rfl,h,rs⟩:=h.tup_at
  unfold D.flat at hf
  exact .mk_tup (S _ _ (fun e=>by rw[e,hl] at h;cases h) h) (aG.flat_but hl S ds ys hf rs)
 | .lst ds,v,hf,h=>by unfold D.flat at hf;cases hf
theorem aG.flat_but(hl:H l=some (.lst xs))(S:fh l H H'):∀ (ds:List D)(ys:List V),D.flats ds=true->aG H ds ys->aG H' ds ys
 | [],ys,_,h=>by cases h.nil_at;exact .mk_nil
 | d :: ds,ys,hf,h=>by
  obtain⟨y,r,rfl,h1,h2⟩:=h.cons_at
  unfold D.flats at hf
  rw[Bool.and_eq_true] at hf
  exact .mk_cons (aF.flat_but hl S d y hf.1 h1) (aG.flat_but hl S ds r hf.2 h2)
end
end
theorem ce(q:Int × Int):(fr q).flat=true:=by simp[fr,D.flat,D.flats]
theorem cP:∀(qs:List (Int × Int)),D.flats (qs.map fr)=true
 | []=>by simp[D.flats]
 | q :: qs=>by
  rw[List.map_cons]
  unfold D.flats
  rw[ce,cP qs]
  rfl
theorem aG.app{H:Hp}:∀{ds es:List D}{xs ys:List V},aG H ds xs->aG H es ys->aG H (ds ++ es) (xs ++ ys)
 | [],es,xs,ys,h,g=>by cases h.nil_at;exact g
 | d :: ds,es,xs,ys,h,g=>by
  obtain⟨x,r,rfl,h1,h2⟩:=h.cons_at
  exact .mk_cons h1 (aG.app h2 g)
theorem aG.snoc{H:Hp}{ds:List D}{xs:List V}{d:D}{x:V}(h:aG H ds xs)(g:aF H d x):aG H (ds ++ [d]) (xs ++ [x]):=h.app (.mk_cons g .mk_nil)
theorem aG.at{H:Hp}{ds:List D}{xs:List V}(h:aG H ds xs) {i:Nat}{d:D}(hd:ds[i]? = some d):∃ x,xs[i]? = some x/\aF H d x:=by
 have hi:i<ds.length:=(List.getElem?_eq_some_iff.mp hd).1
 have hi':i<xs.length:=by rw[h.length];exact hi
 obtain⟨d',e,r⟩:=h.get (List.getElem?_eq_getElem hi')
 rw[hd] at e
 cases e
 exact⟨_,List.getElem?_eq_getElem hi',r⟩
theorem aG.take{H:Hp}:∀{ds:List D}{xs:List V}(n:Nat),aG H ds xs->aG H (ds.take n) (xs.take n)
 | ds,xs,0,h=>by simp;exact .mk_nil
 | [],xs,n+1,h=>by cases h.nil_at;exact .mk_nil
 | d :: ds,xs,n+1,h=>by
  obtain⟨x,r,rfl,h1,h2⟩:=h.cons_at
  exact .mk_cons h1 (h2.take n)
theorem aG.drop{H:Hp}:∀{ds:List D}{xs:List V}(n:Nat),aG H ds xs->aG H (ds.drop n) (xs.drop n)
 | ds,xs,0,h=>h
 | [],xs,n+1,h=>by cases h.nil_at;exact .mk_nil
 | d :: ds,xs,n+1,h=>by
  obtain⟨x,r,rfl,h1,h2⟩:=h.cons_at
  exact h2.drop n
def aP(G:Hp)(a:Addr)(qs:List (Int × Int)):Prop:=∃ xs,G a=some (.lst xs)/\aG G (qs.map fr) xs
section
variable {G G':Hp}{a l:Addr}{qs:List (Int × Int)}{xs:List V}
theorem aP.same(h:aP G a qs)(S:aC G G'):aP G' a qs:=by
 obtain⟨ys,h1,h2⟩:=h
 exact⟨ys,S _ _ h1,h2.same S⟩
theorem aP.but(h:aP G a qs)(hl:G l=some (.lst xs))(hn:a ≠ l)(S:fh l G G'):aP G' a qs:=by
 obtain⟨ys,h1,h2⟩:=h
 exact⟨ys,S _ _ hn h1,aG.flat_but hl S _ _ (cP qs) h2⟩
theorem aP.rep(h:aP G a qs):aF G (.lst (qs.map fr)) (.ref a):=by
 obtain⟨ys,h1,h2⟩:=h
 exact .mk_lst h1 h2
theorem aP.len(h:aP G a qs):eU G a=some qs.length:=by
 obtain⟨ys,h1,h2⟩:=h
 unfold eU
 rw[h1]
 simp only[h2.length,List.length_map]
theorem aP.ne_st{st:Addr}(h:aP G a qs)(hst:dC G st):a ≠ st:=by
 rintro rfl
 obtain⟨ys,h1,h2⟩:=h
 obtain⟨x,b,h3,_⟩:=hst
 rw[h1] at h3
 cases h3
 cases qs with
 | nil=>cases h2.nil_at
 | cons q qs =>
  obtain⟨y,r,e,h4,h5⟩:=aG.cons_at h2
  cases e
  obtain⟨c,e,_⟩:=h4.fr_at
  cases e
theorem aP.stBut{st:Addr}(h:aP G a qs)(hst:dC G st)(S:fh st G G'):aP G' a qs:=by
 obtain⟨x,b,h3,_⟩:=hst
 exact h.but h3 (h.ne_st ⟨x,b,h3,by assumption⟩) S
theorem dC.but{st:Addr}(h:dC G st)(hl:G l=some (.lst xs))(hn:st ≠ l)(S:fh l G G'):dC G' st:=by
 obtain⟨x,b,h3,h4⟩:=h
 exact⟨x,b,S _ _ hn h3,h4⟩
end
theorem mK{CX:yk}{P:Program}{w:World}{K:W.Frag}{mg:Str->Option Value}{base:Heap}{N:List Str}{qual:Str}{scope:Scope}{f:Addr}{cd:Value}{A:Around}{outer:List Env}{s:Shared}{H:Hp}{E:XK} :
  (sF CX P w K mg base N qual scope f cd A outer s H E).nox.K=K:=rfl
def Af(t u:TS):TS:=fun D σ H=>∃ R:St->Hp->Prop,(∀ σ' H',R σ' H'->u D σ' H')/\t { D with nx:=R } σ H
theorem Af.mk{t u:TS}{D:m4}{σ:St}{H:Hp}(R:St->Hp->Prop)(h1:t { D with nx:=R } σ H)(h2:∀ σ' H',R σ' H'->u D σ' H'):Af t u D σ H:=⟨R,h2,h1⟩
theorem BM{X:Cx}{st:Stmt}{rest:List Stmt}{t u:TS}(h1:PS X st t)(h2:ux X rest u):ux X (st :: rest) (Af t u):=by
 rintro pins s σ H D I ⟨R,hR,h⟩
 refine wpAny_execs_cons (dE (h1 pins s σ H { D with nx:=R } I h) fun f s1 q=>?_)
 cases f with
 | next =>
  obtain⟨σ',H',I',q⟩:=q
  exact h2 pins s1 σ' H' D I' (hR _ _ q)
 | ret v=>exact q
 | brk=>exact q
 | cont=>exact q
def pN(J:It)(H:Hp)(its:List V):Prop:=(∀ i,i<its.length->J.go i H)/\(∀ i x H',i<its.length->J.yld i H x H'->H'=H/\its[i]? = some x)/\J.stop its.length H
def gb(lo:Int)(n:Nat):List V:=(List.range n).map fun (k:Nat)=>V.int (lo+k)
theorem bK{lo:Int}{n:Nat}{H:Hp}:pN (FM lo n) H (gb lo n):=by
 refine⟨fun i hi=>by show i<n;simpa [gb] using hi,fun i x H' hi y=>⟨y.1,?_⟩,by show n<=(gb lo n).length;simp[gb]⟩
 have hi':i<n:=by simpa [gb] using hi
 rw[y.2]
 simp[gb,hi']
theorem aX{K:W.Frag}{H:Hp}{a:Addr}{xs:List V}(h:vw K H a=some (.lst xs)):pN (GL K a) H xs :=
 ⟨fun i hi=>⟨xs,xs[i],.of (aN h),by simp[hi]⟩,fun i x H' _ y=>⟨y.1,y.2 xs (.of (aN h))⟩,⟨xs,.of (aN h),Nat.le_refl _⟩⟩
theorem kd{K:W.Frag}{H:Hp}{a:Addr}{xs:List V}(h:vw K H a=some (.tup xs)):pN (Hg K a) H xs :=
 ⟨fun i hi=>⟨xs,xs[i],cN h,by simp[hi]⟩,fun i x H' _ y=>⟨y.1,y.2 xs (cN h)⟩,⟨xs,cN h,Nat.le_refl _⟩⟩
theorem cc{J:It}{its:List V}{g:TG}{tb:TS}{D:m4}{σ:St}{H:Hp}(Pv:Nat->St->Hp->Prop)(hl:∀ i σ H,i<=its.length->Pv i σ H->pN J H its)(h0:Pv 0 σ H)
  (hs:∀ i x σ H,i<its.length->its[i]? = some x->Pv i σ H->g x σ H fun σ2 H2=>tb { D with nx:=Pv (i+1),ct:=Pv (i+1),bk:=D.nx } σ2 H2)(hd:∀ σ H,Pv its.length σ H->D.nx σ H):vV J g tb D σ H:=by
 refine⟨fun i m σ H=>m=its.length - i/\i<=its.length/\Pv i σ H,⟨its.length,by simp,Nat.zero_le _,h0⟩,?_⟩
 rintro i m σ H ⟨rfl,hi,p⟩
 obtain⟨q1,q2,q3⟩:=hl i σ H hi p
 by_cases hlt:i<its.length
 ·refine .inr ⟨q1 i hlt,Pv (i+1),fun σ' H' p'=>⟨its.length - (i+1),by walk_at"o",rfl,hlt,p'⟩,fun x H' y=>?_⟩
  obtain⟨e,y2⟩:=q2 i x H' hlt y
  subst e
  exact hs i x σ _ hlt y2 p
 ·have e:i=its.length:=by walk_at"o"
  subst e
  exact .inl ⟨q3,hd σ H p⟩
def CN(K:W.Frag)(a:Addr)(σr:St)(Pv:List V->Hp->Prop):St->Hp->Prop:=fun σ H=>(∃ y,σ=y :: σr) /\ ∃ xs,vw K H a=some (.lst xs)/\Pv xs H
def Dw(K:W.Frag)(a:Addr)(N:Hp->Prop):V->Hp->Prop:=fun v H4=>∃ xs,vw K H4 a=some (.lst xs)/\xs.length<sizeLine /\ ∀ H5,fh a (vw K H4) (vw K H5)->vw K H5 a=some (.lst (xs ++ [v]))->N H5
theorem aY{K:W.Frag}{J:It}{its:List V}{tif:TT}{te:TE}{a:Addr}{x0:Option V}{σr:St}{H0:Hp}{Q:Hp->Prop}(Pv:Nat->List V->Hp->Prop)
  (hl:∀ i xs H,i<=its.length->vw K H a=some (.lst xs)->Pv i xs H->pN J H its)(ha:vw K H0 a=some (.lst []))(h0:Pv 0 [] H0)
  (hs:∀ i x xs H,i<its.length->its[i]? = some x->vw K H a=some (.lst xs)->Pv i xs H->tif (some x :: σr) H fun b H3=>if b=true then te (some x :: σr) H3 (Dw K a (CN K a σr (Pv (i+1)) (some x :: σr))) else CN K a σr (Pv (i+1)) (some x :: σr) H3)
  (hd:∀ xs H,vw K H a=some (.lst xs)->Pv its.length xs H->Q H):pA K J (ig 0) tif te a (x0 :: σr) H0 Q:=by
 refine⟨fun i m σ H=>m=its.length - i/\i<=its.length/\CN K a σr (Pv i) σ H,⟨its.length,by simp,Nat.zero_le _,⟨_,rfl⟩,_,ha,h0⟩,?_⟩
 rintro i m σ H ⟨rfl,hi,⟨y,rfl⟩,xs,hxs,p⟩
 obtain⟨q1,q2,q3⟩:=hl i xs H hi hxs p
 by_cases hlt:i<its.length
 ·refine .inr ⟨q1 i hlt,CN K a σr (Pv (i+1)),fun σ' H' p'=>⟨its.length - (i+1),by walk_at"o",rfl,hlt,p'⟩,fun x H' y=>?_⟩
  obtain⟨e,y2⟩:=q2 i x H' hlt y
  subst e
  exact hs i x xs _ hlt y2 hxs p
 ·have e:i=its.length:=by walk_at"o"
  subst e
  exact .inl ⟨q3,hd xs H hxs p⟩
theorem Dw.mk{K:W.Frag}{a:Addr}{σr:St}{Pv:List V->Hp->Prop}{x:Option V}{v:V}{H:Hp}{xs:List V}(h:vw K H a=some (.lst xs))(hz:xs.length<sizeLine)
  (q:∀ H5,fh a (vw K H) (vw K H5)->vw K H5 a=some (.lst (xs ++ [v]))->Pv (xs ++ [v]) H5):Dw K a (CN K a σr Pv (x :: σr)) v H:=⟨xs,h,hz,fun H5 B h5=>⟨⟨_,rfl⟩,_,h5,q H5 B h5⟩⟩
theorem CN.mk{K:W.Frag}{a:Addr}{σr:St}{Pv:List V->Hp->Prop}{x:Option V}{H:Hp}{xs:List V}(h:vw K H a=some (.lst xs))(q:Pv xs H):CN K a σr Pv (x :: σr) H:=⟨⟨_,rfl⟩,_,h,q⟩
theorem fu{lo:Int}{n i:Nat}{x:V}(h:(gb lo n)[i]? = some x):i<n/\x = .int (lo+i):=by
 have hi:i<n:=by simpa [gb] using (List.getElem?_eq_some_iff.mp h).1
 simp[gb,hi] at h
 exact⟨hi,h.symm⟩
theorem cx{lo:Int}{n:Nat}:(gb lo n).length=n:=by simp[gb]
theorem rN{n d:Nat}{k:Nat}(h:k<=n):HT.sIx n d (some (k:Int))=k:=by
 unfold HT.sIx
 simp only[Int.toNat_natCast]
 rw[if_neg (by walk_at"o")]
 walk_at"o"
theorem pO{xs:List V}{k:Nat}(h:k<=xs.length):gv xs none (some (k:Int))=xs.take k:=by
 unfold gv
 rw[rN h]
 simp[HT.sIx]
theorem iC{xs:List V}{k:Nat}(h:k<=xs.length):gv xs (some (k:Int)) none=xs.drop k:=by
 unfold gv
 rw[rN h]
 simp[HT.sIx]
 rw[List.take_of_length_le]
 simp
theorem dc{α:Type}{xs:List α}{x:α}(h:xs.getLast? = some x):nN xs (-1)=some x:=by
 obtain⟨ys,rfl⟩:=List.getLast?_eq_some_iff.mp h
 exact oZ ys x
def BQ(K:W.Frag)(neg:Bool):R2:=fun x y H Q=>∃ p q,x = .ref p/\y = .ref q /\ ∃ xs,vw K H p=some (.lst xs)/\vw K H q=some (.lst [])/\Q (.bl (if neg then !xs.isEmpty else xs.isEmpty)) H
section
variable {X:Cx}
theorem sT(hu:X.A.units<cLine):fb X (compareOp .Eq) (BQ X.K false):=by
 intro pins s σ H x y v u Q I rx ry h
 obtain⟨p,q,rfl,rfl,xs,h1,h2,k⟩:=h
 cases rx
 cases ry
 obtain⟨its,r,⟨o,n,e1,e2,e3,e4⟩,_⟩:=I.list (jQ.of (K:=X.K) (aN h1))
 obtain⟨its2,r2,⟨o2,n2,f1,f2,f3,f4⟩,_⟩:=I.list (jQ.of (K:=X.K) (aN h2))
 cases r2
 have fin:EP X pins σ Q (.bool xs.isEmpty) s:=⟨.bl _,H,I,rfl,k⟩
 cases xs with
 | nil =>
  cases r
  exact SeqAt.RcAt.lists (e:=fun _=>true) ⟨_,e1,e2,_,e4⟩ ⟨_,f1,f2,_,f4⟩ rfl hu (fun j h1=>absurd h1 (by simp)) _ _ _ _ fin
 | cons x xs =>
  cases r
  exact SeqAt.RcAt.lists_lengths ⟨_,e1,e2,_,e4⟩ ⟨_,f1,f2,_,f4⟩ (by simp) hu _ _ _ _ fin
theorem zC(hu:X.A.units<cLine):fb X (compareOp .NotEq) (BQ X.K true):=by
 intro pins s σ H x y v u Q I rx ry h
 obtain⟨p,q,rfl,rfl,xs,h1,h2,k⟩:=h
 cases rx
 cases ry
 obtain⟨its,r,⟨o,n,e1,e2,e3,e4⟩,_⟩:=I.list (jQ.of (K:=X.K) (aN h1))
 obtain⟨its2,r2,⟨o2,n2,f1,f2,f3,f4⟩,_⟩:=I.list (jQ.of (K:=X.K) (aN h2))
 cases r2
 have fin:EP X pins σ Q (.bool !xs.isEmpty) s:=⟨.bl _,H,I,rfl,k⟩
 cases xs with
 | nil =>
  cases r
  exact SeqAt.RcNeAt.lists (e:=fun _=>true) ⟨_,e1,e2,_,e4⟩ ⟨_,f1,f2,_,f4⟩ rfl hu (fun j h1=>absurd h1 (by simp)) _ _ _ _ fin
 | cons x xs =>
  cases r
  exact SeqAt.RcNeAt.lists_lengths ⟨_,e1,e2,_,e4⟩ ⟨_,f1,f2,_,f4⟩ (by simp) hu _ _ _ _ fin
end
theorem gy.ul{k:Nat}{A:Around}(r:gy k A):A.units<cLine:=by have:=r.un;walk_at"o"
theorem gy.u64{k:Nat}{A:Around}(r:gy k A):A.units+64<cLine:=by have:=r.un;walk_at"o"
theorem kU(p q:Int × Int):A2 (fr p) (fr q)=decide (p=q):=by
 unfold A2 fr D.py D.pys D.pys D.pys D.py
 simp only[PyData.eqv,PyData.eqvAll]
 rw[Bool.eq_iff_iff]
 simp[Prod.ext_iff]
theorem fO(q:Int × Int):(fr q).cmp:=by
 unfold D.cmp fr D.py D.pys D.pys D.pys D.py
 exact⟨rfl,Nat.le_of_ble_eq_true rfl⟩
def GT(K:W.Frag)(mg:Str->Option Value)(x:Str)(xs:List V):Prop:=∃ a,mg x=some (.ref a) /\ ∀ H,vw K H a=some (.tup xs)
theorem GT.mk{K:W.Frag}{mg:Str->Option Value}{x:Str}{a:Addr}{o:Obj}{xs:List V}(h:mg x=some (.ref a))(hl:K.lookup a=some o)(hk:uE o=some (.tup xs)):GT K mg x xs :=
 ⟨a,h,fun H=>by unfold vw;rw[hl];exact hk⟩
theorem aG.last{H:Hp}{ds:List D}{xs:List V}(h:aG H ds xs) {d:D}(hd:ds.getLast? = some d):∃ x,xs.getLast? = some x/\aF H d x:=by
 rw[List.getLast?_eq_getElem?] at hd
 obtain⟨x,e,r⟩:=h.at hd
 rw[<- h.length,<- List.getLast?_eq_getElem?] at e
 exact⟨x,e,r⟩
theorem bV{H:Hp}{a:Addr}{i j:Int}(h:H a=some (.tup [.int i,.int j])):aF H (fr (i,j)) (.ref a):=.mk_tup h (.mk_cons (.mk_int _) (.mk_cons (.mk_int _) .mk_nil))
def jh(ds:List D):Bool:=match ds.getLast? with
 | some (.tup [.int 0,.int 1])=>false
 | _=>true
def D.poly:D->Bool
 | .lst ds=>ds.all D.frac && jh ds
 | _=>false
theorem ki{ds:List D}{q:Int × Int}(h:ds.getLast? = some (fr q)):jh ds = !decide (q=(0,1)):=by
 unfold jh
 rw[h]
 obtain⟨a,b⟩:=q
 unfold fr
 simp only[Prod.mk.injEq]
 split
 ·rename_i e
  simp only[Option.some.injEq,D.tup.injEq,List.cons.injEq,D.int.injEq,and_true] at e
  simp[e]
 ·rename_i e
  by_cases h1:a=0
  ·by_cases h2:b=1
   ·subst h1 h2
    exact absurd rfl e
   ·simp[h2]
  ·simp[h1]
theorem D.frac_fr{d:D}(h:d.frac=true):∃ q,d=fr q/\Fq q:=by
 cases d with
 | tup ds =>
  obtain⟨a,b,rfl,hq⟩:=D.frac_tup h
  exact⟨(a,b),rfl,hq⟩
 | _=>unfold D.frac at h;cases h
theorem oN{ds:List D}(h:ds.all D.frac=true)(hn:ds ≠ []):∃ q,ds.getLast? = some (fr q)/\Fq q:=by
 obtain⟨d,hd⟩:=Option.isSome_iff_exists.mp (by rw[List.getLast?_isSome];exact hn:ds.getLast?.isSome=true)
 obtain⟨q,rfl,hq⟩:=D.frac_fr (List.all_eq_true.mp h d (List.mem_of_getLast? hd))
 exact⟨q,hd,hq⟩
end L2
namespace L2
open PySem PySem.Spec PyProof.Rows
theorem aG.repl{H:Hp}{d:D}{x:V}(h:aF H d x):∀ n,aG H (List.replicate n d) (List.replicate n x)
 | 0=>.mk_nil
 | n+1=>.mk_cons h (aG.repl h n)
theorem Bh{qs:List (Int × Int)}(h:∀ q ∈ qs,Fq q)(hl:∀ q,qs.getLast? = some q->q.1 ≠ 0):(D.lst (qs.map fr)).poly=true:=by
 show ((qs.map fr).all D.frac && jh (qs.map fr))=true
 rw[Bool.and_eq_true]
 refine⟨List.all_eq_true.mpr fun d hd=>?_,?_⟩
 ·obtain⟨q,hq,rfl⟩:=List.mem_map.mp hd
  exact frac_fr (h q hq)
 ·cases e:qs.getLast? with
  | none =>
   unfold jh
   rw[List.getLast?_map,e]
   rfl
  | some q =>
   rw[ki (q:=q) (by rw[List.getLast?_map,e];rfl)]
   have:=hl q e
   simp
   rintro rfl
   exact this rfl
theorem aC.rfl{H:Hp}:aC H H:=fun _ _ z=>z
section
variable {K:W.Frag}{σ:St}{H0:Hp}{t u:TE}{ta:TA}{b c:Bool}{m n:Nat}
end
end L2
set_option autoImplicit true
namespace L2
open PySem PySem.Spec PyProof.Rows
structure QE (X:Cx)(e:Expr)(t:TE):Prop where
 h:PE X e t
structure QT (X:Cx)(e:Expr)(t:TT):Prop where
 h:PT X e t
structure QW (X:Cx)(e:Expr)(t:TT):Prop where
 h:PW X e t
structure QA (X:Cx)(e:List Expr)(t:TA):Prop where
 h:PA X e t
structure QS (X:Cx)(e:Stmt)(t:TS):Prop where
 h:PS X e t
structure yY (X:Cx)(e:List Stmt)(t:TS):Prop where
 h:ux X e t
structure QG (X:Cx)(e:Expr)(t:TG):Prop where
 h:PG X e t
structure GO (X:Cx)(e:List Expr)(t:yq):Prop where
 h:FJ X e t
structure QF (X:Cx)(e:List Expr)(t:TT):Prop where
 h:PF X e t
structure QO (X:Cx)(e:Option Expr)(t:TO):Prop where
 h:PO X e t
structure QI (X:Cx)(tg e:Expr)(t:TI):Prop where
 h:PI X tg e t
section
variable {X:Cx}{pos p p2 apos cpos pos':Pos}{a b e o l:Expr}{es rest:List Expr}{te ta tb to:TE}{tA tB':TT}{st:Stmt}{rest':List Stmt}{lo hi:Option Expr}{id:String}
theorem fR {b j pos}:QE X (.Constant (.bool b) j pos) (tC (.bl b)):=⟨F6 ⟩
theorem ae {i j pos}:QE X (.Constant (.int i) j pos) (tC (.int i)):=⟨DY ⟩
theorem uC {j pos}:QE X (.Constant .none j pos) (tC .non):=⟨DC ⟩
theorem cR {x j pos}:QE X (.Constant (.str x) j pos) (tC (.str x)):=⟨DG ⟩
theorem fi{x:Str}{v:V}{u:Value}{pos:Pos}(hg:Gl X x)(hm:X.mg x=some u)(r:cw v u)(hd:(x == ("__debug__" : Str))=false:=by decide):QE X (.Name x pos) (tC v):=⟨BU (hg:=hg) (hm:=hm) (r:=r) (hd:=hd)⟩
theorem dZ{x:Str}{v:V}{u:Value}{pos:Pos}(hg:Gl X x)(hm:X.mg x=none)(hv:bootBuiltins x=some u)(r:cw v u)(hn:x ≠ "__name__":=by decide) (hd:(x == ("__debug__" : Str))=false:=by decide):QE X (.Name x pos) (tC v):=⟨BV (hg:=hg) (hm:=hm) (hv:=hv) (r:=r) (hn:=hn) (hd:=hd)⟩
theorem ao{op:Operator}{r:R2}(ho:fb X (binaryOp op) r)(ha:QE X a ta)(hb:QE X b tb):QE X (.BinOp a op b pos) (yX r ta tb):=⟨GF (ho:=ho) (ha:=ha.h) (hb:=hb.h)⟩
theorem cG{op:UnaryOp}{r:V->Hp->VK->Prop}(ho:G2 X (unaryOp op) r)(ha:QE X a ta):QE X (.UnaryOp op a pos) (GX r ta):=⟨Ga (ho:=ho) (ha:=ha.h)⟩
theorem yS(ha:QE X a ta):QE X (.UnaryOp .Not a pos) (vP ta):=⟨Fw (ha:=ha.h)⟩
theorem gC(ha:QE X a ta)(hb:QE X (.BoolOp .And (b :: rest) pos) tb):QE X (.BoolOp .And (a :: b :: rest) pos) (vS ta tb):=⟨Fg (ha:=ha.h) (hb:=hb.h)⟩
theorem xf(ha:QE X a ta)(hb:QE X (.BoolOp .Or (b :: rest) pos) tb):QE X (.BoolOp .Or (a :: b :: rest) pos) (Bj ta tb):=⟨Gp (ha:=ha.h) (hb:=hb.h)⟩
theorem gE {op}{t:TE}(h:QE X a t):QE X (.BoolOp op [a] pos) t:=⟨DW (h:=h.h)⟩
theorem cF{op:CmpOp}{r:R2}(ho:fb X (compareOp op) r)(ha:QE X a ta)(hb:QE X b tb)(hm:behindInMarks op b=false):QE X (.Compare a [op] [b] pos) (yX r ta tb):=⟨CM (ho:=ho) (ha:=ha.h) (hb:=hb.h) (hm:=hm)⟩
theorem AW{c:Expr}(hc:QT X c tA)(ha:QE X a ta)(hb:QE X b tb):QE X (.IfExp c a b pos) (Hk tA ta tb):=⟨Av (hc:=hc.h) (ha:=ha.h) (hb:=hb.h)⟩
theorem aH {x1}(h:QA X es t):QE X (.Tuple es x1 pos) (ju X.K t):=⟨C4 (h:=h.h)⟩
theorem aM(h:QA X es t):QE X (.List es pos) (qL X.K t):=⟨Bl (h:=h.h)⟩
theorem Bn  : QE X (.Dict [] [] pos) (vT X.K):=⟨C3 ⟩
theorem ci{r:V->Option Int->Option Int->Hp->VK->Prop}(hr:uA X r)(he:QE X e te)(hl:QO X lo tl)(hu:QO X hi th):QE X (.Subscript e (.Slice lo hi none p2) pos) (Go r te tl th):=⟨zu (hr:=hr) (he:=he.h) (hl:=hl.h) (hu:=hu.h)⟩
theorem cy  : QO X none lC:=⟨Cp ⟩
theorem cC(h:QE X e te):QO X (some e) (qT te):=⟨BH (h:=h.h)⟩
theorem ay{r:R2}(hr:uB X r)(ha:QE X a ta)(hb:QE X b tb)(hs:xb b):QE X (.Subscript a b pos) (yX r ta tb):=⟨F2 (hr:=hr) (ha:=ha.h) (hb:=hb.h) (hs:=hs)⟩
theorem ai(C:aU X.prog X.w X.K X.mg X.base x ps k sp)(hr:gy k X.A)(hg:Gl X x)(ha:QA X (e :: es) t)(hdb:(x == ("__debug__" : Str))=false:=by decide) (he:starEach (e :: es) X.env=(false,eval e X.env) :: starEach es X.env:=by rfl)(hpl:(backTo pos (starEach es X.env)).any (·.1)=false:=by rfl) :
  QE X (.Call (.Name x p) (e :: es) [] pos) (Ef sp t):=⟨Dz (C:=C) (hr:=hr) (hg:=hg) (ha:=ha.h) (hdb:=hdb) (he:=he) (hpl:=hpl)⟩
theorem am(hc:eZ X (.builtin id) r)(hg:Gl X x)(hm:X.mg x=none)(hv:bootBuiltins x=some (.builtin id))(ha:QA X (e :: es) t)(hn:x ≠ "__name__":=by decide) (hdb:(x == ("__debug__" : Str))=false:=by decide) (he:starEach (e :: es) X.env=(false,eval e X.env) :: starEach es X.env:=by rfl)(hpl:(backTo pos (starEach es X.env)).any (·.1)=false:=by rfl):QE X (.Call (.Name x p) (e :: es) [] pos) (A5 r t):=⟨yU (hc:=hc) (hg:=hg) (hm:=hm) (hv:=hv) (ha:=ha.h) (hn:=hn) (hdb:=hdb) (he:=he) (hpl:=hpl)⟩
theorem hV(hc:eZ X (.type T) r)(hg:Gl X x)(hm:X.mg x=none)(hv:bootBuiltins x=some (.type T))(ha:QA X (e :: es) t)(hn:x ≠ "__name__":=by decide) (hdb:(x == ("__debug__" : Str))=false:=by decide) (he:starEach (e :: es) X.env=(false,eval e X.env) :: starEach es X.env:=by rfl)(hpl:(backTo pos (starEach es X.env)).any (·.1)=false:=by rfl):QE X (.Call (.Name x p) (e :: es) [] pos) (A5 r t):=⟨xR (hc:=hc) (hg:=hg) (hm:=hm) (hv:=hv) (ha:=ha.h) (hn:=hn) (hdb:=hdb) (he:=he) (hpl:=hpl)⟩
theorem tU(pa:PlainAttrs T)(slot:Slot T name id)(hty:typeOf (.builtin id)=pure (.type "method_descriptor")) (hm:GW X id r)(ho:QE X o to)(ha:QA X (e :: es) t)(hbase:attributeBase o name X.env (eval o X.env)=eval o X.env:=by rfl)(hfew:((backTo cpos (starEach (e :: es) X.env)).all (fun x=>!x.1) && (backToKw cpos (keywordEach [] X.env)).all (fun x=>x.1.isSome)
   && decide ((e :: es).length+([]:List Keyword).length+(if ([]:List Keyword).isEmpty then 0 else 1)<30))=true:=by rfl) (hline:(apos.endLine == cpos.line)=true:=by rfl)(hs:starEach (e :: es) X.env=(false,eval e X.env) :: starEach es X.env:=by rfl)(hplain:(backTo cpos (starEach es X.env)).any (·.1)=false:=by rfl) :
  QE X (.Call (.Attribute o name apos) (e :: es) [] cpos) (Hh X.K T r to t):=⟨Gw (pa:=pa) (slot:=slot) (hty:=hty) (hm:=hm) (ho:=ho.h) (ha:=ha.h) (hbase:=hbase) (hfew:=hfew) (hline:=hline) (hs:=hs) (hplain:=hplain)⟩
theorem EJ(pa:PlainAttrs T)(slot:Slot T name id)(hty:typeOf (.builtin id)=pure (.type "method_descriptor")) (hm:GW X id r)(ho:QE X o to)(hbase:attributeBase o name X.env (eval o X.env)=eval o X.env:=by rfl)(hline:(apos.endLine == cpos.line)=true:=by rfl):QE X (.Call (.Attribute o name apos) [] [] cpos) (EG X.K T r to):=⟨Ea (pa:=pa) (slot:=slot) (hty:=hty) (hm:=hm) (ho:=ho.h) (hbase:=hbase) (hline:=hline)⟩
theorem ac  : QA X [] oV:=⟨Fy ⟩
theorem aa(ha:QE X e te)(hr:QA X es t)(hs:starEach (e :: es) X.env=(false,eval e X.env) :: starEach es X.env:=by rfl):QA X (e :: es) (dQ te t):=⟨Cj (ha:=ha.h) (hr:=hr.h) (hs:=hs)⟩
theorem aL{op:CmpOp}{r:R2}(ho:fb X (compareOp op) r)(ha:QE X a ta)(hb:QE X b tb)(hm:behindInMarks op b=false):QT X (.Compare a [op] [b] pos) (wH (yX r ta tb)):=⟨Cz (ho:=ho) (ha:=ha.h) (hb:=hb.h) (hm:=hm)⟩
theorem cQ(ha:QT X a tA):QT X (.UnaryOp .Not a pos) (EL tA):=⟨ED (ha:=ha.h)⟩
theorem QW.pt{X:Cx}{e:Expr}{t:TT}(h:QW X e t):QT X e t:=⟨PW.pt (h:=h.h)⟩
theorem kv(ha:QT X a tA):QW X (.BoolOp .And [a] pos) tA:=⟨BS (ha:=ha.h)⟩
theorem mN(ha:QT X a tA)(hb:QW X (.BoolOp .And (b :: rest) pos) tB'):QW X (.BoolOp .And (a :: b :: rest) pos) (E7 tA tB'):=⟨EF (ha:=ha.h) (hb:=hb.h)⟩
theorem ij(ha:QT X a tA):QW X (.BoolOp .Or [a] pos) tA:=⟨Ec (ha:=ha.h)⟩
theorem fY(ha:QT X a tA)(hb:QW X (.BoolOp .Or (b :: rest) pos) tB'):QW X (.BoolOp .Or (a :: b :: rest) pos) (G7 tA tB'):=⟨Ge (ha:=ha.h) (hb:=hb.h)⟩
theorem gq(ha:QE X a ta)(he:∀ whole,isTrue a X.env whole=(do let v <- whole;standAt a.pos;holding [v] (truthy v))) :
  QT X a (fun σ H Q=>ta σ H fun x H'=>∃ k,sV X.K x H' k/\Q k H'):=⟨y9 (ha:=ha.h) (he:=he)⟩
theorem cW{e:Expr}{t:TE}(h:QE X e t)(he:∀ whole,isTrue e X.env whole=(do let v <- whole;standAt e.pos;holding [v] (truthy v)):=by intro _;rfl):QT X e (tB t):=⟨Dx (h:=h.h) (he:=he)⟩
theorem ak{i:Nat}{x:Str}(hN:X.N.Nodup)(hi:X.N[i]? = some x)(hx:A3 X.env.scope x)(hf:X.fn x=true\/X.env.scope.names.lookup x=some .local:=by first|exact .inl rfl|exact .inr rfl|assumption):QG X (.Name x pos) (ig i):=⟨Ci (hN:=hN) (hi:=hi) (hx:=hx) (hf:=hf)⟩
theorem bJ{es:List Expr}{k:Nat}{t:yq}{n:Nat}{pos:Pos}(hc:X.calm=true)(h:GO X es t)(hn:(assignEach es X.env).length=n:=by rfl)(hst:(assignEach es X.env).findIdx? (·.1)=none:=by rfl):QG X (.Tuple es k pos) (jB X.K n t):=⟨Cm (hc:=hc) (h:=h.h) (hn:=hn) (hst:=hst)⟩
theorem bI  : GO X [] u8:=⟨BA ⟩
theorem ar{e:Expr}{es:List Expr}{t:TG}{u:yq}(h1:QG X e t)(h2:GO X es u)(hs:(assignEach (e :: es) X.env).map (·.2)=assign e X.env :: (assignEach es X.env).map (·.2):=by rfl):GO X (e :: es) (kK t u):=⟨Ar (h1:=h1.h) (h2:=h2.h) (hs:=hs)⟩
theorem oU{o i:Expr}{to ti:TE}{t:u9}(ho:QE X o to)(hi:QE X i ti)(hs:yl X t)(ha:∀ v,assign (.Subscript o i pos) X.env v=(do
   let ov <- holding [v] (eval o X.env)
   let iv <- holding [v,ov] (eval i X.env)
   standAt pos
   holding [v,ov,iv] (setItem ov iv v)
   release [v,ov,iv] []):=by intro _;rfl):QG X (.Subscript o i pos) (EO to ti t):=⟨Ey (ho:=ho.h) (hi:=hi.h) (hs:=hs) (ha:=ha)⟩
theorem cI{a:Expr}{ta:TA}{p pos:Pos}(hg:Gl X "range") (hm:X.mg "range" = none) (ha:QA X [a] ta)(hs:starEach [a] X.env=[(false,eval a X.env)]:=by rfl):QI X tg (.Call (.Name "range" p) [a] [] pos) (xo ta):=⟨xW (hg:=hg) (hm:=hm) (ha:=ha.h) (hs:=hs)⟩
theorem yn{a b:Expr}{ta:TA}{p pos:Pos}(hg:Gl X "range") (hm:X.mg "range" = none) (ha:QA X [a,b] ta)(hs:starEach [a,b] X.env=[(false,eval a X.env),(false,eval b X.env)]:=by rfl)(hs2:starEach [b] X.env=[(false,eval b X.env)]:=by rfl) :
  QI X tg (.Call (.Name "range" p) [a,b] [] pos) (zb ta):=⟨xV (hg:=hg) (hm:=hm) (ha:=ha.h) (hs:=hs) (hs2:=hs2)⟩
theorem va{l:Expr}{tl:TE}(hl:QE X l tl):QI X tg l (E2 X.K tl):=⟨Fz (hl:=hl.h)⟩
theorem cJ{l:Expr}{tl:TE}(hl:QE X l tl):QI X tg l (wM X.K tl):=⟨BL (hl:=hl.h)⟩
theorem aq(he:QE X e te):QS X (.Return (some e) pos) (Fo te):=⟨EY (he:=he.h)⟩
theorem lZ(he:QE X e te)(hs:swapsWith e none pos.line X.env=pure false:=by rfl):QS X (.Expr e pos) (AC te):=⟨C2 (he:=he.h) (hs:=hs)⟩
theorem cj{c:Expr}{a b:List Stmt}{tc:TT}(hc:QT X c tc)(ha:yY X a t)(hb:yY X b u):QS X (.If c a b pos) (EN tc t u):=⟨GG (hc:=hc.h) (ha:=ha.h) (hb:=hb.h)⟩
theorem ir{c:Expr}{body:List Stmt}{tc:TT}{tb:TS}(hp:PassesOwn (model X.prog X.w) X.A X.env X.xe)(hc:QT X c tc)(hb:yY X body tb):QS X (.While c body [] pos) (yJ tc tb):=⟨An (hp:=hp) (hc:=hc.h) (hb:=hb.h)⟩
theorem cO{iter:Expr}{body:List Stmt}{wi:TI}{g:TG}{tb:TS}{pos:Pos}(hp:PassesOwn (model X.prog X.w) X.A X.env X.xe)(hc:X.calm=true)(hi:QI X tg iter wi)(hg:QG X tg g)(hb:yY X body tb)(hs:∀ x,foldedSetIterable iter X.env x=pure x:=by intro _;rfl):QS X (.For tg iter body [] pos) (DN wi g tb):=⟨Ew (hp:=hp) (hc:=hc) (hi:=hi.h) (hg:=hg.h) (hb:=hb.h) (hs:=hs)⟩
theorem aE{i:Nat}{x:Str}{e:Expr}{te:TE}{pos':Pos}(hN:X.N.Nodup)(hi:X.N[i]? = some x)(hx:A3 X.env.scope x)(he:QE X e te)(hs:swapsWith e (some (.Name x pos')) pos.line X.env=pure false:=by rfl)(hf:X.fn x=true\/X.env.scope.names.lookup x=some .local:=by first|exact .inl rfl|exact .inr rfl|assumption) :
  QS X (.Assign [.Name x pos'] e pos) (tR te (ig i)):=⟨Eb (hN:=hN) (hi:=hi) (hx:=hx) (he:=he.h) (hs:=hs) (hf:=hf)⟩
theorem oF{i j:Nat}{x y:Str}{a b:Expr}{ta:TA}{px py pt:Pos} {kt k2 pt2}(hc:X.calm=true)(hN:X.N.Nodup)(hi:X.N[i]? = some x)(hj:X.N[j]? = some y)(hij:i ≠ j)(hx:X.env.scope.names.lookup x=some .local)(hy:X.env.scope.names.lookup y=some .local)(ha:QA X [a,b] ta)(hw:swappedStores [.Tuple [.Name x px,.Name y py] kt pt] (.Tuple [a,b] k2 pt2) X.env=pure (some [x,y]))(hs:swapsWithSole [.Tuple [.Name x px,.Name y py] kt pt] (.Tuple [a,b] k2 pt2) pos.line X.env=pure false:=by rfl) :
  QS X (.Assign [.Tuple [.Name x px,.Name y py] kt pt] (.Tuple [a,b] k2 pt2) pos) (CK i j ta):=⟨DO (hc:=hc) (hN:=hN) (hi:=hi) (hj:=hj) (hij:=hij) (hx:=hx) (hy:=hy) (ha:=ha.h) (hw:=hw) (hs:=hs)⟩
theorem cY{tg e:Expr}{te:TE}{g:TG}(he:QE X e te)(hg:QG X tg g)(hs:swapsWithSole [tg] e pos.line X.env=pure false:=by rfl)(hw:swappedStores [tg] e X.env=pure none:=by rfl)(h1:(assignEach [tg] X.env).map (·.2)=[assign tg X.env]:=by rfl):QS X (.Assign [tg] e pos) (tR te g):=⟨Fu (he:=he.h) (hg:=hg.h) (hs:=hs) (hw:=hw) (h1:=h1)⟩
theorem kT{i:Nat}{x:Str}{e:Expr}{te:TE}{op:Operator}{ti:A0}{pos':Pos}(hN:X.N.Nodup)(hi:X.N[i]? = some x)(hx:A3 X.env.scope x)(he:QE X e te)(ho:Dr X op ti)(hf:X.fn x=true\/X.env.scope.names.lookup x=some .local:=by first|exact .inl rfl|exact .inr rfl|assumption) :
  QS X (.AugAssign (.Name x pos') op e pos) (Ft i te ti):=⟨EX (hN:=hN) (hi:=hi) (hx:=hx) (he:=he.h) (ho:=ho) (hf:=hf)⟩
theorem lV{o i e:Expr}{to ti te:TE}{tget:V->V->Hp->VK->Prop}{tip:A0}{tset:u9}{op:Operator}{tpos:Pos}(ho:QE X o to)(hi:QE X i ti)(hg:FG X tget)(he:QE X e te)(hp:Dr X op tip)(hs:yl X tset)(ha:∀ ov iv new,augStore i ov iv new=(do holding [new,ov,iv] (setItem ov iv new);release [new,ov,iv] [];pure .next):=by intros;rfl):QS X (.AugAssign (.Subscript o i tpos) op e pos) (pV to ti te tget tip tset):=⟨Cn (ho:=ho.h) (hi:=hi.h) (hg:=hg) (he:=he.h) (hp:=hp) (hs:=hs) (ha:=ha)⟩
theorem aO  : yY X [] AD:=⟨CV ⟩
theorem ah(h1:QS X st t):yY X [st] t:=⟨CT (h1:=h1.h)⟩
theorem af(h1:QS X st t)(h2:yY X rest' u):yY X (st :: rest') (aW t u):=⟨zI (h1:=h1.h) (h2:=h2.h)⟩
theorem CD{X:Cx}{st:Stmt}{rest':List Stmt}{t u:TS}(h1:QS X st t)(h2:yY X rest' u):yY X (st :: rest') (Af t u):=⟨BM (h1:=h1.h) (h2:=h2.h)⟩
theorem cS{X:Cx}:QF X [] FE:=⟨DM ⟩
theorem DI{X:Cx}{c:Expr}{t:TT}(h:QT X c t):QF X [c] t:=⟨Ev (h:=h.h)⟩
theorem qv(i:Nat){x:Str}{pos:Pos}(hN:X.N[i]? = some x:=by rfl)(hv:Gv X.env.scope x:=by first|exact Or.inl rfl|exact Or.inr (Or.inl rfl)|exact Or.inr (Or.inr rfl))(hd:(x == ("__debug__" : Str))=false:=by decide) (hcd:(x == ("__classdict__" : Str))=false:=by decide):QE X (.Name x pos) (tVar i):=⟨pv (i:=i) (hN:=hN) (hv:=hv) (hd:=hd) (hcd:=hcd)⟩
theorem cL{tg iter elt:Expr}{ifs:List Expr}{scope:Scope}{wi:TI}{g:TG}{tif:TT}{te:TE}{cl:List (Str × Addr)}{own outs:List Str}{ixs:List Nat}
  (hc:X.calm=true)(hi:QI X tg iter wi)(hclos:closureFor scope X.env=pure cl)(S:oG X scope cl own outs ixs)
  (hb:∀ C s H ex,QG (nG X scope cl (own ++ outs) C s H ex) tg g/\QF (nG X scope cl (own ++ outs) C s H ex) ifs tif/\QE (nG X scope cl (own ++ outs) C s H ex) elt te)
  (hs:∀ x,foldedSetIterable iter X.env x=pure x:=by intro _;rfl):QE X (.ListComp elt [⟨tg,iter,ifs,0⟩] scope pos) (ue X.K wi own.length ixs g tif te) :=
 ⟨BO hc hi.h hclos S (fun C s H ex=>⟨(hb C s H ex).1.h,(hb C s H ex).2.1.h,(hb C s H ex).2.2.h⟩) hs⟩
theorem mh{tg iter elt:Expr}{ifs:List Expr}{scope:Scope}{spos py:Pos}{y:Str}{i:Nat}{wi:TI}{g:TG}{tif:TT}{te:TE}{cl:List (Str × Addr)}{own outs:List Str}{ixs:List Nat}
  (hN:X.N.Nodup)(hy:X.N[i]? = some y)(hx:A3 X.env.scope y)(hc:X.calm=true)(hi:QI X tg iter wi)(hclos:closureFor scope X.env=pure cl)(S:oG X scope cl own outs ixs)
  (hb:∀ C s H ex,QG (nG X scope cl (own ++ outs) C s H ex) tg g/\QF (nG X scope cl (own ++ outs) C s H ex) ifs tif/\QE (nG X scope cl (own ++ outs) C s H ex) elt te)
  (hsw:swapsWith (.ListComp elt [⟨tg,iter,ifs,0⟩] scope pos) (some (.Name y py)) spos.line X.env=pure true:=by rfl)
  (hs:∀ x,foldedSetIterable iter X.env x=pure x:=by intro _;rfl)(hf:X.fn y=true\/X.env.scope.names.lookup y=some .local:=by first|exact .inl rfl|exact .inr rfl|assumption) :
  QS X (.Assign [.Name y py] (.ListComp elt [⟨tg,iter,ifs,0⟩] scope pos) spos) (tR (ue X.K wi own.length ixs g tif te) (ig i)) :=
 ⟨Be hN hy hx hc hi.h hclos S (fun C s H ex=>⟨(hb C s H ex).1.h,(hb C s H ex).2.1.h,(hb C s H ex).2.2.h⟩) hsw hs hf⟩
end
section
variable {P:Program}{w:World}{K:W.Frag}{mg:Str->Option Value}{base:Heap}
theorem et.okQ{x qual:Str}{st:Stmt}{f:Addr}{fd:FuncData}{N ps:List Str}{k:Nat}{sp:Sp}(F:et K x qual st f fd)(S:aB N ps (ag st))(len:∀ vs H Q E,sp vs H Q E->vs.length=ps.length)
  (hbody:∀ (cdv:Value)(A:Around)(outer:List Env)(s:Shared)(H:Hp)(vs:List V)(Q:VK)(E:XK),gy k (A.deeper (envOfC qual (ag st) s.heap.objs.size f cdv))->sp vs H Q E ->
   ∃ t,yY (sF el P w K mg base N qual (ag st) f cdv A outer s H E).nox (aw st) t/\t { nx:=fun _ H'=>Q .non H',rt:=Q } (start N vs) H):bU P w K mg base el (k+1) f fd ps sp :=
 F.ok S len fun cdv A outer s H vs Q E hr h=>(hbody cdv A outer s H vs Q E hr h).imp fun t z=>⟨z.1.h,z.2⟩
end
end L2
namespace L2
open PySem PySem.Spec PyProof.Rows
section
variable {X:Cx}{pins:List (Addr × Obj)}{σ:St}{H:Hp}{s:Shared}{h':Heap}
theorem aT.turnT{t':Nat}{ch:List Addr}{T:Addr}{xs:List V}{its:List Value}(I:aT X pins σ H s)(k:∀ b o,b ∉ ch->s.heap.get? b=some o->h'.get? b=some o)(hf:∀ b ∈ ch,mJ X pins H b)
  (hT:s.heap.objs.size<=T)(hz:xs.length<=sizeLine)(rv:bQ xs its)(ht:IsTup h' T its.toArray):aT X pins σ (upd H T (.tup xs)) { s with heap:=h',toks:=t' }:=by
 have hn:H T=none:=I.hok.fresh hT
 have nT:∀ b o,s.heap.get? b=some o->b ≠ T:=fun b o e=>Nat.ne_of_lt (Nat.lt_of_lt_of_le (Heap.lt_size e) hT)
 refine I.step (g':=s.gens) (d':=s.drawn) (ch:=ch) (fun b hb=>?_) (fun b o _ _ hc e _=>k b o hc e) (fun b o _ _ hc e _=>⟨o.slots,k b o hc e⟩) (fun b o _ e n=>?_)
  (fun b o hc e=>⟨o,k b o hc e⟩) (fun b ys e=>?_) (fun b o u e=>?_) (fun b ps e=>⟨#[],?_⟩) (fun m hm=>?_) (fun b u e=>?_) I.bare
 ·obtain⟨_,f1,_,f3,f4,f5⟩:=hf b hb
  exact⟨f3,f1,f4,f5⟩
 ·rw[cK (nT b o e)]
  exact n
 ·rw[cK (aj e hn)]
  exact e
 ·rw[cK (aj e hn)]
  exact e
 ·rw[cK (aj e hn),e]
  simp
 ·obtain⟨o,es,ep,ho,r⟩:=hm
  exact⟨o,es,ep,k _ o (fun z=>(hf _ z).2.1 rfl) ho,r⟩
 ·by_cases hb:b=T
  ·subst hb
   rw[dA] at e
   cases e
   exact⟨hz,its,rv,ht⟩
  ·rw[cK hb] at e
   have nch:∀ c v,H c=some v->c ∉ ch:=fun c v z hc=>by
    rw[(hf c hc).1] at z
    cases z
   refine (I.hok b u e).stay (fun c v hc q=>k c v ?_ q) (fun c q=>?_) fun c ys q=>?_
   ·rcases hc with z|z
    ·rw[z]
     exact nch b u e
    ·exact nch c _ z
   ·rw[cK (aj q hn)]
    exact q
   ·rw[cK (aj q hn)]
    exact q
end
def FB(K:W.Frag)(R:Hp->List (List V)->Prop):It :=
 ⟨fun i H=>∃ ys t,R H ys/\ys[i]? = some t,fun i H x H'=>∃ p t,x = .ref p/\vw K H p=none/\aC (vw K H) (vw K H')/\vw K H' p=some (.tup t) /\ ∀ ys,R H ys->ys[i]? = some t,fun i H=>∃ ys,R H ys/\ys.length=i⟩
def zr(K:W.Frag)(a:Addr):Hp->List (List V)->Prop:=fun H ys=>∃ xs,H a=some (.lst xs)/\ys=xs.mapIdx fun i x=>[V.int i,x]
theorem yg{P:Program}{w:World}{K:W.Frag}{elts:List Expr}{x1:Nat}{pos:Pos}(a e it:Addr)(hne:e ≠ it)(ha:a ≠ e)(ha2:a ≠ it) :
  vm P w K (.Tuple elts x1 pos) (FB K (zr K a)) [e,it] e (fun i h=>(∃ old,IsEnum h e it (i:Int) old)/\h.IsListIter it a i) where
 mem:=by simp
 obj:=fun i h st b hb=>by
  obtain⟨⟨old,h1⟩,o,h2,c,d⟩:=st
  simp only[List.mem_cons,List.not_mem_nil,or_false] at hb
  rcases hb with rfl|rfl
  ·exact⟨_,h1,fun v z=>by cases z⟩
  ·exact⟨o,h2,fun v z=>by rw[d] at z;cases z⟩
 keep:=fun i h h' st k=>by
  obtain⟨⟨old,h1⟩,h2⟩:=st
  exact⟨⟨old,k e (by simp) _ h1⟩,h2.at fun o z=>k it (by simp) o z⟩
 item:=by
  intro X hP hw hK hc i pins s σ H E I hf st hg
  subst hP hw hK
  obtain⟨⟨old,h1⟩,h2⟩:=st
  obtain⟨ys,t,⟨xs,hxs,rfl⟩,ht⟩:=hg
  rw[List.getElem?_mapIdx] at ht
  cases hx:xs[i]? with
  | none=>rw[hx] at ht;cases ht
  | some x =>
   rw[hx] at ht
   cases ht
   obtain⟨its,rv,p,hz⟩:=I.list (jQ.of (K:=X.K) hxs)
   obtain⟨u,hu,ru⟩:=rv.get hx
   refine wpAny_pyNext_enum_item h1 h2 p.isList (x:=u) (by simpa using hu) hne fun h3 heo hit ht3 hz3 hk3=>⟨_,rfl,?_⟩
   refine wpAny_letOwnedTupleGo_enum (s:={ s with heap:=h3,toks:=s.toks+1 }) heo fun h4 he4 hs4=>?_
   have hes:e<s.heap.objs.size:=Heap.lt_size h1
   have ht4:=hs4.extBut _ _ (Nat.ne_of_gt hes) ht3
   have k4:∀ b o,b ∉ [e,it]->s.heap.get? b=some o->h4.get? b=some o:=fun b o hb z=>by
    simp only[List.mem_cons,List.not_mem_nil,or_false,not_or] at hb
    exact hs4.extBut _ _ hb.1 (hk3 b o hb.1 hb.2 z)
   have I4:aT X pins σ (upd H s.heap.objs.size (.tup [.int i,x])) { s with heap:=h4,toks:=s.toks+1 } :=
    I.turnT (its:=[.int i s.toks,u]) k4 hf (Nat.le_refl _) (show 2<=sizeLine by decide) (.cons ⟨_,rfl⟩ (.cons ru .nil)) ⟨_,ht4,rfl,_,rfl⟩
   have fr:=I.hok.fresh (Nat.le_refl s.heap.objs.size)
   have nk:=I.newK (Nat.le_refl s.heap.objs.size)
   refine⟨.ref s.heap.objs.size,_,I4,rfl,⟨_,_,rfl,by rw[fe nk];exact fr,kW (aC.upd fr),by rw[fe nk];exact dA,?_⟩,⟨⟨_,he4⟩,hit.extBut hs4.extBut hne.symm⟩,fun b hb=>?_⟩
   ·rintro ys ⟨zs,hzs,rfl⟩
    rw[hxs] at hzs
    cases hzs
    rw[List.getElem?_mapIdx,hx]
    rfl
   ·have:b<s.heap.objs.size:=by
     simp only[List.mem_cons,List.not_mem_nil,or_false] at hb
     rcases hb with rfl|rfl
     ·exact hes
     ·obtain⟨_,z,_⟩:=h2
      exact Heap.lt_size z
    rw[cK (Nat.ne_of_lt this)]
    exact (hf b hb).1
 done:=by
  intro X hP hw hK hc i pins s σ H E I hf st hg
  subst hP hw hK
  obtain⟨⟨old,h1⟩,h2⟩:=st
  obtain⟨ys,⟨xs,hxs,rfl⟩,hl⟩:=hg
  obtain⟨its,rv,p,hz⟩:=I.list (jQ.of (K:=X.K) hxs)
  have hl':=rv.length
  rw[List.length_mapIdx] at hl
  obtain⟨f0,f1,f2,f3,f4,f5⟩:=hf it (by simp)
  exact wpAny_pyNext_enum_end (I.ok.hd hc) h1 h2 p.isList (by simp;walk_at"o") fun h' eb=>⟨rfl,I.turned (t':=s.toks) (fun b o hb z=>eb b o hb z) f0 f1 f3 f4 f5⟩
 self:=fun _ _ _ _ _ st h=>by
  obtain⟨⟨old,h1⟩,_⟩:=st
  exact wpAny_pyIter_enum h1 h
def ny(K:W.Frag)(ta:TA):TI:=fun σ H R=>ta σ H fun vs H1=>∃ a,vs=[.ref a]/\(∃ xs,vw K H1 a=some (.lst xs))/\R (FB K (zr K a)) H1
theorem Bu{X:Cx}{elts:List Expr}{x1:Nat}{tp p pos:Pos}{a:Expr}{ta:TA}(hg:Gl X "enumerate") (hm:X.mg "enumerate" = none) (ha:PA X [a] ta)(hs:starEach [a] X.env=[(false,eval a X.env)]:=by rfl) :
  PI X (.Tuple elts x1 tp) (.Call (.Name "enumerate" p) [a] [] pos) (ny X.K ta):=by
 intro pins s σ H R I h
 refine Call_ (jG I hg hm sC (PyProof.Rows.callWith_type1 (dE (ha pos pins s σ H _ I h) fun us s1 ⟨vs,H1,I1,r1,q1⟩=>?_) hs rfl))
 obtain⟨b,e,⟨xs,hx⟩,q⟩:=q1
 subst e
 cases r1 with
 | cons r rr =>
  cases rr
  cases r
  have hx':=aN hx
  obtain⟨hz,its,n,rv,ho⟩:=I1.hok b _ hx'
  refine call_enumerate_1 ho fun h2 he hit hsz hk=>?_
  refine wpAny_pyIter_enum (s:={ s1 with heap:=h2 }) he ?_
  have hb:b<s1.heap.objs.size:=Heap.lt_size ho
  refine⟨_,[s1.heap.objs.size+1,s1.heap.objs.size],_,_,H1,rfl,I1.kept (t':=s1.toks) hk,yg b _ _ (Nat.ne_of_gt (Nat.lt_succ_self _)) (Nat.ne_of_lt (Nat.lt_succ_of_lt hb)) (Nat.ne_of_lt hb),⟨⟨_,he⟩,hit⟩,fun c hc=>?_,q⟩
  have hc':s1.heap.objs.size<=c:=by
   simp only[List.mem_cons,List.not_mem_nil,or_false] at hc
   rcases hc with z|z
   ·rw[z]
    exact Nat.le_succ _
   ·rw[z]
    exact Nat.le_refl _
  exact I1.fpOk hc' (I1.hok.fresh hc')
theorem jI{K:W.Frag}{R:Hp->List (List V)->Prop}{rows:List (List V)}{g:TG}{tb:TS}{D:m4}{σ:St}{H:Hp}(Pv:Nat->St->Hp->Prop)(hl:∀ i σ H,i<=rows.length->Pv i σ H->R H rows)(h0:Pv 0 σ H)
  (hs:∀ i t σ H p H',i<rows.length->rows[i]? = some t->Pv i σ H->vw K H p=none->aC (vw K H) (vw K H')->vw K H' p=some (.tup t)->g (.ref p) σ H' fun σ2 H2=>tb { D with nx:=Pv (i+1),ct:=Pv (i+1),bk:=D.nx } σ2 H2)
  (hd:∀ σ H,Pv rows.length σ H->D.nx σ H):vV (FB K R) g tb D σ H:=by
 refine⟨fun i m σ H=>m=rows.length - i/\i<=rows.length/\Pv i σ H,⟨rows.length,by simp,Nat.zero_le _,h0⟩,?_⟩
 rintro i m σ H ⟨rfl,hi,p⟩
 have q:=hl i σ H hi p
 by_cases hlt:i<rows.length
 ·refine .inr ⟨⟨rows,rows[i],q,by simp[hlt]⟩,Pv (i+1),fun σ' H' p'=>⟨rows.length - (i+1),by walk_at"o",rfl,hlt,p'⟩,fun x H' y=>?_⟩
  obtain⟨a,t,rfl,y1,y2,y3,y4⟩:=y
  exact hs i t σ H a H' hlt (y4 rows q) p y1 y2 y3
 ·have e:i=rows.length:=by walk_at"o"
  subst e
  exact .inl ⟨⟨rows,q,rfl⟩,hd σ H p⟩
theorem jS{X:Cx}{elts:List Expr}{x1:Nat}{tp p pos:Pos}{a:Expr}{ta:TA}(hg:Gl X "enumerate") (hm:X.mg "enumerate" = none) (ha:QA X [a] ta)(hs:starEach [a] X.env=[(false,eval a X.env)]:=by rfl) :
  QI X (.Tuple elts x1 tp) (.Call (.Name "enumerate" p) [a] [] pos) (ny X.K ta):=⟨Bu hg hm ha.h hs⟩
end L2
namespace L2
open PySem PySem.Spec PyProof.Rows
def Bq(n:Nat)(q:Int × Int):Prop:=Bt n q.1/\Bt n q.2
theorem Bq.mono{m n:Nat}{q:Int × Int}(h:Bq m q)(hl:m<=n):Bq n q:=⟨h.1.mono hl,h.2.mono hl⟩
def F4(p q:Int × Int):Bool:=decide (p.1*q.2<q.1*p.2)
def oH(p q:Int × Int):Int × Int:=lo (p.1*q.2+q.1*p.2) (p.2*q.2)
theorem AE{a b:Int}(hb:0<b):0<lg a b:=by
 unfold lg
 rw[if_neg (by walk_at"o")]
 have:Int.gcd a b ≠ 0:=fun e=>by
  have:=(Int.gcd_eq_zero_iff.mp e).2
  walk_at"o"
 walk_at"o"
theorem nL{a b:Int}{n:Nat}(hb:b ≠ 0)(h1:Bt n a)(h2:Bt n b):Bq n (lo a b):=by
 have e1:=fF (a:=a) hb
 have e2:=fQ (a:=a) hb
 have hl:0<(lg a b).natAbs:=by have:=zm (a:=a) hb;walk_at"o"
 constructor
 ·unfold Bt at *
  have:=Int.natAbs_mul (lo a b).1 (lg a b)
  rw[e1] at this
  have:=Nat.le_mul_of_pos_right (lo a b).1.natAbs hl
  walk_at"o"
 ·unfold Bt at *
  have:=Int.natAbs_mul (lo a b).2 (lg a b)
  rw[e2] at this
  have:=Nat.le_mul_of_pos_right (lo a b).2.natAbs hl
  walk_at"o"
theorem kr{p q:Int × Int}(hp:Fq p)(hq:Fq q):Fq (oH p q):=iS (by have:=Int.mul_pos hp.1 hq.1;walk_at"o")
theorem Bc{p q:Int × Int}(hp:Fq p)(hq:Fq q)(h0:0<q.1):F4 p (oH p q)=true:=by
 have hd:0<p.2*q.2:=Int.mul_pos hp.1 hq.1
 have hb:p.2*q.2 ≠ 0:=by walk_at"o"
 have e1:=fF (a:=p.1*q.2+q.1*p.2) hb
 have e2:=fQ (a:=p.1*q.2+q.1*p.2) hb
 have hg:=AE (a:=p.1*q.2+q.1*p.2) hd
 unfold F4 oH
 generalize lo (p.1*q.2+q.1*p.2) (p.2*q.2)=r at *
 generalize lg (p.1*q.2+q.1*p.2) (p.2*q.2)=g at *
 apply decide_eq_true
 apply Int.lt_of_mul_lt_mul_right _ (Int.le_of_lt hg)
 have z1:p.1*r.2*g=p.1*(p.2*q.2):=by rw[Int.mul_assoc,e2]
 have z2:r.1*p.2*g=(p.1*q.2+q.1*p.2)*p.2:=by rw[<- e1];rw[Int.mul_right_comm]
 rw[z1,z2]
 have hq2:0<q.1*p.2*p.2:=Int.mul_pos (Int.mul_pos h0 hp.1) hp.1
 have z3:(p.1*q.2+q.1*p.2)*p.2=p.1*(p.2*q.2)+q.1*p.2*p.2:=by
  rw[Int.add_mul,Int.mul_assoc p.1 q.2 p.2,Int.mul_comm q.2 p.2]
 walk_at"o"
theorem vJ{p q:Int × Int}{m n:Nat}(hp:Fq p)(hq:Fq q)(h1:Bq m p)(h2:Bq n q):Bq (m+n+1) (oH p q):=by
 refine nL (by have:=Int.mul_pos hp.1 hq.1;walk_at"o") ?_ ?_
 ·have:=(h1.1.mul h2.2).add (h2.1.mul h1.2)
  exact this.mono (by walk_at"o")
 ·exact (h1.2.mul h2.2).mono (by walk_at"o")
def ji(G:Hp)(a:Addr)(ds:List D):Prop:=∃ xs,G a=some (.lst xs)/\aG G ds xs
section
variable {G G':Hp}{a l:Addr}{ds:List D}{xs:List V}
theorem ji.same(h:ji G a ds)(S:aC G G'):ji G' a ds:=by
 obtain⟨ys,h1,h2⟩:=h
 exact⟨ys,S _ _ h1,h2.same S⟩
theorem ji.but(h:ji G a ds)(hf:D.flats ds=true)(hl:G l=some (.lst xs))(hn:a ≠ l)(S:fh l G G'):ji G' a ds:=by
 obtain⟨ys,h1,h2⟩:=h
 exact⟨ys,S _ _ hn h1,aG.flat_but hl S _ _ hf h2⟩
theorem ji.ne_st{st:Addr}(h:ji G a ds)(hd:∀ i b,ds ≠ [.int i,.bl b])(hst:dC G st):a ≠ st:=by
 rintro rfl
 obtain⟨ys,h1,h2⟩:=h
 obtain⟨x,b,h3,_⟩:=hst
 rw[h1] at h3
 cases h3
 exact hd _ _ (aF.lst_st h2)
theorem ji.stBut{st:Addr}(h:ji G a ds)(hf:D.flats ds=true)(hd:∀ i b,ds ≠ [.int i,.bl b])(hst:dC G st)(S:fh st G G'):ji G' a ds:=by
 obtain⟨x,b,h3,h4⟩:=id hst
 exact h.but hf h3 (h.ne_st hd hst) S
end
theorem mH{K:W.Frag}{H:Hp}{p:Addr}{xs:List V}(h:vw K H p=some (.lst xs)):F5 K "list" (.ref p) H:=.inl ⟨rfl,xs,.of (aN h)⟩
theorem ji.ty{K:W.Frag}{H:Hp}{p:Addr}{ds:List D}(h:ji (vw K H) p ds):F5 K "list" (.ref p) H:=by
 obtain⟨xs,h,_⟩:=h
 exact mH h
abbrev sR:=(Int × Int) × (Int × Int)
def tH(c:sR):D:=.tup [fr c.1,fr c.2]
theorem fH:∀(cs:List sR),D.flats (cs.map tH)=true
 | []=>by simp[D.flats]
 | c :: cs=>by
  rw[List.map_cons]
  unfold D.flats
  rw[fH cs]
  simp[tH,D.flat,D.flats,ce]
theorem mG(cs:List sR):∀ i b,cs.map tH ≠ [.int i,.bl b]:=fun i b e=>by
 cases cs with
 | nil=>cases e
 | cons c cs =>
  rw[List.map_cons] at e
  have:=(List.cons.inj e).1
  unfold tH at this
  cases this
theorem aF.spt_at{H:Hp}{c:sR}{v:V}(h:aF H (tH c) v):∃ a x y,v = .ref a/\H a=some (.tup [x,y])/\aF H (fr c.1) x/\aF H (fr c.2) y:=by
 obtain⟨a,xs,rfl,ha,r⟩:=h.tup_at
 obtain⟨d1,d2,x1,x2,e1,rfl,r1,r2⟩:=r.pair (by rw[r.length];rfl)
 cases e1
 exact⟨a,x1,x2,rfl,ha,r1,r2⟩
theorem aF.mk_spt{H:Hp}{c:sR}{a:Addr}{x y:V}(h:H a=some (.tup [x,y]))(h1:aF H (fr c.1) x)(h2:aF H (fr c.2) y):aF H (tH c) (.ref a):=.mk_tup h (.mk_cons h1 (.mk_cons h2 .mk_nil))
end L2
namespace L2
open PySem PySem.Spec PyProof.Rows
section
variable {K:W.Frag}{σ:St}{H0:Hp}{t u:TE}{ta:TA}{b c:Bool}{m n:Nat}
variable {st:Addr}
end
end L2
namespace L2
open PySem PySem.Spec PyProof.Rows
section
variable {prog:Program}{w:World}{A:Around}{E:Value->Shared->Prop}{s:Shared}
theorem zx{it t:Addr}{i:Nat}{its:Array Value}{x:Value}{Q:Value->Shared->Prop}(a:s.heap.IsTupleIter it t i)(b:s.heap.IsTuple t its)(c:its[i]? = some x)
  (q:∀ g,g.IsTupleIter it t (i+1)->Heap.SameBut it s.heap g->Q x { s with heap:=g }):wpAny (model prog w) A (Builtin.SmallTypes.nextOf (.ref it)) Q E s:=by
 obtain⟨u,a1,a2,a3⟩:=id a
 obtain⟨v,b1,_,bn,b2⟩:=b
 unfold Builtin.SmallTypes.nextOf
 refine wpAny_bind (wpAny_callSpecial?_slot (name:=Str.ofString "__next__") a.typeIs F.slot_tuple_iterator_next (wpAny_call_entry F.slot_tuple_iterator_next a.typeIs F.entry_tuple_iterator_next ?_ (F.args_tuple_iterator_next_1 _)))
 show wpAny _ _ (field (.ref it) 0 >>= _) _ _ s;refine wpAny_bind (wpAny_field a1 a3 (x:=.ref t) rfl ?_)
 show wpAny _ _ (if (Value.ref t == Value.none)=true then _ else _) _ _ s;rw[if_neg (show ¬ ((Value.ref t == Value.none)=true) from Bool.false_ne_true)]
 show wpAny _ _ (field (.ref it) 1 >>= _) _ _ s;refine wpAny_bind (wpAny_field a1 a3 (x:=.int i 0) rfl ?_)
 show wpAny _ _ (seqItems? (.ref t) >>= _) _ _ s;refine wpAny_bind (wpAny_seqItems b1 b2 ?_)
 simp only[Int.toNat_natCast,c]
 refine wpAny_bind (wpAny_setField a1 a3 (by simp) (wpAny_pure ⟨x,rfl,wpAny_pure (q _ ?_ (Heap.SameBut.update ..))⟩))
 exact⟨_,Heap.get?_update_self _ a1 (Obj.isFreed_of_fields (Obj.data_mapFields a3 _)),(Obj.cls_mapFields ..).trans a2,by rw[Obj.data_mapFields a3];simp[rawInt]⟩
theorem sP{it t:Addr}{i:Nat}{its:Array Value}{Q:Value->Shared->Prop}(hh:A.handled=none)(a:s.heap.IsTupleIter it t i)(b:s.heap.IsTuple t its)(c:its[i]? = none)
  (q:∀ g e,Heap.ExtBut it s.heap g->(∃ o,g.get? e=some o/\o.cls = .type "StopIteration")->E (.ref e) { s with heap:=g }):wpAny (model prog w) A (Builtin.SmallTypes.nextOf (.ref it)) Q E s:=by
 obtain⟨u,a1,a2,a3⟩:=id a
 obtain⟨v,b1,_,bn,b2⟩:=b
 unfold Builtin.SmallTypes.nextOf
 refine wpAny_bind (wpAny_callSpecial?_slot (name:=Str.ofString "__next__") a.typeIs F.slot_tuple_iterator_next (wpAny_call_entry F.slot_tuple_iterator_next a.typeIs F.entry_tuple_iterator_next ?_ (F.args_tuple_iterator_next_1 _)))
 show wpAny _ _ (field (.ref it) 0 >>= _) _ _ s;refine wpAny_bind (wpAny_field a1 a3 (x:=.ref t) rfl ?_)
 show wpAny _ _ (if (Value.ref t == Value.none)=true then _ else _) _ _ s;rw[if_neg (show ¬ ((Value.ref t == Value.none)=true) from Bool.false_ne_true)]
 show wpAny _ _ (field (.ref it) 1 >>= _) _ _ s;refine wpAny_bind (wpAny_field a1 a3 (x:=.int i 0) rfl ?_)
 show wpAny _ _ (seqItems? (.ref t) >>= _) _ _ s;refine wpAny_bind (wpAny_seqItems b1 b2 ?_)
 simp only[Int.toNat_natCast,c]
 refine wpAny_bind (wpAny_rule (wpAny_bind (wpAny_setField a1 a3 (by simp) ?_)));show wpAny _ _ (newExc (.type "StopIteration") [] >>= _) _ _ _
 refine wpAny_bind ?_;simp only[newExc,newTuple];refine wpAny_bind (wpAny_newObj_type ?_ (by size_fits))
 refine wpAny_bind (m:=firstArgMember _ _) (wpAny_of_eq (a:=Value.none) (by first|rfl|(simp only[firstArgMember];rfl)) ?_);refine wpAny_newObj_type ?_ (by size_fits)
 simp only[raiseNew];refine wpAny_bind (wpAny_handled ?_)
 (first|rw[show A.in1.handled=none from hh]|rw[hh]);refine wpAny_bind (wpAny_pure (wpAny_throw ?_))
 exact q _ _ (((Heap.SameBut.update ..).extBut.push _).push _) ⟨_,Heap.get?_push_size _ rfl,rfl⟩
end
theorem xN{prog:Program}{w:World}{A:Around}(hh:A.handled=none)(it l:Addr)(hne:l ≠ it)(its:Array Value) :
  Draws prog w A it [it,l] its.size (fun i v=>its[i]? = some v) (fun i h=>h.IsTupleIter it l i/\h.IsTuple l its) where
 live:=fun _ _ st=>let ⟨o,ho,_⟩:=st.1;⟨o,ho⟩
 frame:=fun _ _ _ st hk=>⟨(let ⟨o,ho,r⟩:=st.1;⟨o,hk it (by simp) o ho,r⟩),(let ⟨o,ho,r⟩:=st.2;⟨o,hk l (by simp) o ho,r⟩)⟩
 item:=fun i s Q E hi st q=>zx st.1 st.2 (x:=its[i]) (by simp[hi]) fun g a b=>q _ g s.toks (by simp[hi]) ⟨a,st.2.extBut b.extBut hne⟩ b
 done:=fun s Q E st q=>sP hh st.1 st.2 (by simp) q
section
variable {prog:Program}{w:World}{A:Around}{E:Value->Shared->Prop}{s:Shared}{z TI TO i1 i2:Addr}{f1 f2:List Addr}{n1 n2 k:Nat}{P1 P2:Nat->Value->Prop}{T1 T2:Nat->Heap->Prop}{a b:Value}
structure mL (z TI TO i1 i2:Addr)(f1 f2:List Addr):Prop where
 tiz:TI ≠ z
 toz:TO ≠ z
 tito:TI ≠ TO
 ti1:TI ≠ i1
 ti2:TI ≠ i2
 to1:TO ≠ i1
 to2:TO ≠ i2
 z1:z ≠ i1
 z2:z ≠ i2
 n12:i1 ≠ i2
 zf1:z ∉ f1
 zf2:z ∉ f2
 tf1:TO ∉ f1
 tf2:TO ∉ f2
 if1:i2 ∉ f1
 if2:i1 ∉ f2
theorem xC{Q:Value->Shared->Prop}(D1:Draws prog w A i1 f1 n1 P1 T1)(D2:Draws prog w A i2 f2 n2 P2 T2)(Z:mL z TI TO i1 i2 f1 f2)(hz:IsZip s.heap z TI TO .none)(hTI:IsPair s.heap TI (.ref i1) (.ref i2))(hTO:IsPair s.heap TO a b)
  (h1:T1 k s.heap)(h2:T2 k s.heap)(k1:k<n1)(k2:k<n2)
  (hQ:∀ x y g tk,P1 k x->P2 k y->IsZip g z TI TO (rawInt s.heap.objs.size)->IsPair g TO x y->T1 (k+1) g->T2 (k+1) g->IsPair g s.heap.objs.size x y->g.objs.size=s.heap.objs.size+1 ->
   (∀ c o,c ∉ [z,TO,i1,i2]->s.heap.get? c=some o->g.get? c=some o)->Q (.ref s.heap.objs.size) { s with heap:=g,toks:=tk }) :
  wpAny (model prog w) A (Builtin.«zip.__next__» ⟨[.ref z],[]⟩) (fun fin s'=>∃ v,fin = .done (.ret v)/\Q v s') E s:=by
 show wpAny _ _ (field (.ref z) 2 >>= _) _ _ _;refine wpAny_bind (wpAny_field hz rfl (x:=.bool false) rfl ?_)
 show wpAny _ _ (field (.ref z) 3 >>= _) _ _ _;refine wpAny_bind (wpAny_field hz rfl (x:=.ref TI) rfl ?_)
 refine wpAny_bind (wpAny_seqItems hTI rfl ?_);show wpAny _ _ (Builtin.SmallTypes.ownedTupleIsFree (.ref z) >>= _) _ _ _
 refine wpAny_bind ?_;unfold Builtin.SmallTypes.ownedTupleIsFree
 refine wpAny_bind (wpAny_field hz rfl (x:=.none) rfl (wpAny_pure ?_));simp only[if_true]
 refine wpAny_bind (wpAny_rule ?_);refine wpAny_bind (wpAny_field hz rfl (x:=.ref TO) rfl ?_)
 refine wpAny_bind (wpAny_setField_rec hz (by simp) fun g1 hz1 s1=>?_)
 replace hz1:IsZip g1 z TI TO .ellipsis:=hz1
 refine wpAny_bind ?_;simp only[List.zipIdx_cons,List.zipIdx_nil,List.forIn_cons,List.forIn_nil]
 refine wpAny_bind (wpAny_bind (wpAny_onRaise ?_));show wpAny _ _ (Builtin.SmallTypes.nextOf (.ref i1) >>= _) _ _ _
 refine wpAny_bind (D1.item k _ _ _ k1 (D1.frame k _ _ h1 fun c hc o e=>s1.extBut _ _ (fun z'=>Z.zf1 (z' ▸ hc)) e) fun x g2 tk2 p1 t1 s2=>wpAny_pure ?_)
 replace s2:Heap.SameBut i1 g1 g2:=s2
 have hTO2:IsPair g2 TO a b:=s2.extBut _ _ Z.to1 (s1.extBut _ _ Z.toz hTO)
 refine wpAny_bind (wpAny_seqItems hTO2 rfl ?_);refine wpAny_bind (wpAny_updateSeq_pair hTO2 fun g3 hTO3 s3=>?_)
 replace hTO3:IsPair g3 TO x b:=hTO3
 replace s3:Heap.SameBut TO g2 g3:=s3
 refine wpAny_bind (wpAny_letGo (wpAny_pure ?_));refine wpAny_bind (wpAny_bind (wpAny_onRaise ?_))
 show wpAny _ _ (Builtin.SmallTypes.nextOf (.ref i2) >>= _) _ _ _
 have t2':T2 k g3:=D2.frame k _ _ h2 fun c hc o e=>s3.extBut _ _ (fun z'=>Z.tf2 (z' ▸ hc)) (s2.extBut _ _ (fun z'=>Z.if2 (z' ▸ hc)) (s1.extBut _ _ (fun z'=>Z.zf2 (z' ▸ hc)) e))
 refine wpAny_bind (D2.item k _ _ _ k2 t2' fun y g4 tk4 p2 t2 s4=>wpAny_pure ?_)
 replace s4:Heap.SameBut i2 g3 g4:=s4
 have hTO4:IsPair g4 TO x b:=s4.extBut _ _ Z.to2 hTO3
 refine wpAny_bind (wpAny_seqItems hTO4 rfl ?_);refine wpAny_bind (wpAny_updateSeq_pair hTO4 fun g5 hTO5 s5=>?_)
 replace hTO5:IsPair g5 TO x y:=hTO5
 replace s5:Heap.SameBut TO g4 g5:=s5
 refine wpAny_bind (wpAny_letGo (wpAny_pure (wpAny_pure ?_)));refine wpAny_bind (wpAny_seqItems hTO5 rfl ?_)
 refine wpAny_bind (wpAny_newTuple ?_)
 have hsz:g5.objs.size=s.heap.objs.size:=by rw[s5.1,s4.1,s3.1,s2.1,s1.1]
 have hz5:IsZip g5 z TI TO .ellipsis:=s5.extBut _ _ Z.toz.symm (s4.extBut _ _ Z.z2 (s3.extBut _ _ Z.toz.symm (s2.extBut _ _ Z.z1 hz1)))
 have k5:∀ c o,c ∉ [z,TO,i1,i2]->s.heap.get? c=some o->g5.get? c=some o:=fun c o hc e=>by
  simp only[List.mem_cons,List.not_mem_nil,or_false,not_or] at hc
  exact s5.extBut _ _ hc.2.1 (s4.extBut _ _ hc.2.2.2 (s3.extBut _ _ hc.2.1 (s2.extBut _ _ hc.2.2.1 (s1.extBut _ _ hc.1 e))))
 have t15:T1 (k+1) g5:=D1.frame _ _ _ t1 fun c hc o e=>s5.extBut _ _ (fun z'=>Z.tf1 (z' ▸ hc)) (s4.extBut _ _ (fun z'=>Z.if1 (z' ▸ hc)) (s3.extBut _ _ (fun z'=>Z.tf1 (z' ▸ hc)) e))
 have t25:T2 (k+1) g5:=D2.frame _ _ _ t2 fun c hc o e=>s5.extBut _ _ (fun z'=>Z.tf2 (z' ▸ hc)) e
 have zlt:z<g5.objs.size:=Heap.lt_size hz5
 show wpAny _ _ (Builtin.SmallTypes.ownedTupleHandOut (.ref z) (.ref g5.objs.size) >>= _) _ _ _;refine wpAny_bind ?_
 unfold Builtin.SmallTypes.ownedTupleHandOut
 have hz6:IsZip (g5.push { cls:=.type "tuple",data:=.seq #[x,y] }) z TI TO .ellipsis:=Heap.get?_push_of_some _ hz5
 refine wpAny_bind (wpAny_setField_rec hz6 (by simp) fun g7 hz7 s7=>?_)
 replace hz7:IsZip g7 z TI TO (rawInt g5.objs.size):=hz7
 refine wpAny_setField_rec hz7 (by simp) fun g8 hz8 s8=>?_
 replace hz8:IsZip g8 z TI TO (rawInt g5.objs.size):=hz8
 have up:∀ c o,c ≠ z->g5.get? c=some o->g8.get? c=some o:=fun c o hc e=>s8.extBut _ _ hc (s7.extBut _ _ hc (Heap.get?_push_of_some _ e))
 have hT8:IsPair g8 g5.objs.size x y:=s8.extBut _ _ (Nat.ne_of_gt zlt) (s7.extBut _ _ (Nat.ne_of_gt zlt) (Heap.get?_push_size _ rfl))
 have hn8:g8.objs.size=g5.objs.size+1:=by rw[s8.1,s7.1,Heap.size_push]
 rw[hsz] at hz8 hT8 hn8
 refine wpAny_pure ⟨_,rfl,?_⟩;show Q (.ref g5.objs.size) _;rw[hsz]
 exact hQ x y g8 _ p1 p2 hz8 (up _ _ Z.toz hTO5) (D1.frame _ _ _ t15 fun c hc o e=>up c o (fun z'=>Z.zf1 (z' ▸ hc)) e) (D2.frame _ _ _ t25 fun c hc o e=>up c o (fun z'=>Z.zf2 (z' ▸ hc)) e) hT8 hn8
  fun c o hc e=>up c o (fun z'=>hc (by simp[z'])) (k5 c o hc e)
theorem zV{Q:Fin->Shared->Prop}(D1:Draws prog w A i1 f1 n1 P1 T1)(D2:Draws prog w A i2 f2 n2 P2 T2)(Z:mL z TI TO i1 i2 f1 f2)(hz:IsZip s.heap z TI TO .none)(hTI:IsPair s.heap TI (.ref i1) (.ref i2))(hTO:IsPair s.heap TO a b)
  (h1:T1 k s.heap)(h2:T2 k s.heap)(hk:k=n1\/(k<n1/\k=n2))
  (hE:∀ g tk e,(∀ c o,c ∉ [z,TO,i1,i2]->s.heap.get? c=some o->g.get? c=some o)->(∃ o,g.get? e=some o/\o.cls = .type "StopIteration")->E (.ref e) { s with heap:=g,toks:=tk }) :
  wpAny (model prog w) A (Builtin.«zip.__next__» ⟨[.ref z],[]⟩) Q E s:=by
 show wpAny _ _ (field (.ref z) 2 >>= _) _ _ _;refine wpAny_bind (wpAny_field hz rfl (x:=.bool false) rfl ?_)
 show wpAny _ _ (field (.ref z) 3 >>= _) _ _ _;refine wpAny_bind (wpAny_field hz rfl (x:=.ref TI) rfl ?_)
 refine wpAny_bind (wpAny_seqItems hTI rfl ?_);show wpAny _ _ (Builtin.SmallTypes.ownedTupleIsFree (.ref z) >>= _) _ _ _
 refine wpAny_bind ?_;unfold Builtin.SmallTypes.ownedTupleIsFree
 refine wpAny_bind (wpAny_field hz rfl (x:=.none) rfl (wpAny_pure ?_));simp only[if_true]
 refine wpAny_bind (wpAny_rule ?_);refine wpAny_bind (wpAny_field hz rfl (x:=.ref TO) rfl ?_)
 refine wpAny_bind (wpAny_setField_rec hz (by simp) fun g1 hz1 s1=>?_)
 replace hz1:IsZip g1 z TI TO .ellipsis:=hz1
 refine wpAny_bind ?_;simp only[List.zipIdx_cons,List.zipIdx_nil,List.forIn_cons,List.forIn_nil]
 refine wpAny_bind (wpAny_bind (wpAny_onRaise ?_));show wpAny _ _ (Builtin.SmallTypes.nextOf (.ref i1) >>= _) _ _ _
 have t1':T1 k g1:=D1.frame k _ _ h1 fun c hc o e=>s1.extBut _ _ (fun z'=>Z.zf1 (z' ▸ hc)) e
 rcases hk with rfl|⟨k1,rfl⟩
 ·refine wpAny_bind (D1.done _ _ _ t1' fun g2 e s2 he=>?_)
  obtain⟨oe,he1,he2⟩:=he
  have hz2:IsZip g2 z TI TO .ellipsis:=s2 _ _ Z.z1 hz1
  have hez:e ≠ z:=fun x=>by subst x;rw[hz2] at he1;cases he1;simp at he2
  refine wpAny_setField_rec hz2 (by simp) fun g3 _ s3=>hE g3 _ e (fun c o hc x=>?_) ⟨oe,s3.extBut _ _ hez he1,he2⟩
  simp only[List.mem_cons,List.not_mem_nil,or_false,not_or] at hc
  exact s3.extBut _ _ hc.1 (s2 _ _ hc.2.2.1 (s1.extBut _ _ hc.1 x))
 ·refine wpAny_bind (D1.item k _ _ _ k1 t1' fun x g2 tk2 p1 t1 s2=>wpAny_pure ?_)
  replace s2:Heap.SameBut i1 g1 g2:=s2
  have hTO2:IsPair g2 TO a b:=s2.extBut _ _ Z.to1 (s1.extBut _ _ Z.toz hTO)
  refine wpAny_bind (wpAny_seqItems hTO2 rfl ?_);refine wpAny_bind (wpAny_updateSeq_pair hTO2 fun g3 hTO3 s3=>?_)
  replace s3:Heap.SameBut TO g2 g3:=s3
  refine wpAny_bind (wpAny_letGo (wpAny_pure ?_));refine wpAny_bind (wpAny_bind (wpAny_onRaise ?_))
  show wpAny _ _ (Builtin.SmallTypes.nextOf (.ref i2) >>= _) _ _ _
  have t2':T2 k g3:=D2.frame k _ _ h2 fun c hc o e=>s3.extBut _ _ (fun z'=>Z.tf2 (z' ▸ hc)) (s2.extBut _ _ (fun z'=>Z.if2 (z' ▸ hc)) (s1.extBut _ _ (fun z'=>Z.zf2 (z' ▸ hc)) e))
  refine wpAny_bind (D2.done _ _ _ t2' fun g4 e s4 he=>?_)
  obtain⟨oe,he1,he2⟩:=he
  have hz4:IsZip g4 z TI TO .ellipsis:=s4 _ _ Z.z2 (s3.extBut _ _ Z.toz.symm (s2.extBut _ _ Z.z1 hz1))
  have hez:e ≠ z:=fun x=>by subst x;rw[hz4] at he1;cases he1;simp at he2
  refine wpAny_setField_rec hz4 (by simp) fun g5 _ s5=>hE g5 _ e (fun c o hc x=>?_) ⟨oe,s5.extBut _ _ hez he1,he2⟩
  simp only[List.mem_cons,List.not_mem_nil,or_false,not_or] at hc
  exact s5.extBut _ _ hc.1 (s4 _ _ hc.2.2.2 (s3.extBut _ _ hc.2.1 (s2.extBut _ _ hc.2.2.1 (s1.extBut _ _ hc.1 x))))
end
def jw:Bool->Heap->Addr->Addr->Nat->Prop
 | true,h,it,l,i=>h.IsListIter it l i
 | false,h,it,l,i=>h.IsTupleIter it l i
def fN:Bool->Heap->Addr->Array Value->Prop
 | true,h,l,its=>h.IsList l its
 | false,h,l,its=>h.IsTuple l its
def rM(K:W.Frag)(b:Bool)(H:Hp)(l:Addr)(xs:List V):Prop:=vw K H l=some (if b=true then .lst xs else .tup xs)
theorem km{prog:Program}{w:World}{A:Around}(hh:A.handled=none)(b:Bool)(it l:Addr)(hne:l ≠ it)(its:Array Value) :
  Draws prog w A it [it,l] its.size (fun i v=>its[i]? = some v) (fun i h=>jw b h it l i/\fN b h l its):=by
 cases b with
 | true=>exact Draws.list hh it l hne its
 | false=>exact xN hh it l hne its
theorem jw.at{b:Bool}{h h':Heap}{it l:Addr}{i:Nat}(x:jw b h it l i)(e:∀ o,h.get? it=some o->h'.get? it=some o):jw b h' it l i:=by
 cases b with
 | true=>obtain⟨o,ho,r⟩:=x;exact⟨o,e o ho,r⟩
 | false=>obtain⟨o,ho,r⟩:=x;exact⟨o,e o ho,r⟩
theorem jw.obj{b:Bool}{h:Heap}{it l:Addr}{i:Nat}(x:jw b h it l i):∃ o,h.get? it=some o /\ ∀ v,o.data ≠ .cell v:=by
 cases b with
 | true=>obtain⟨o,ho,_,d⟩:=x;exact⟨o,ho,fun v z=>by rw[d] at z;cases z⟩
 | false=>obtain⟨o,ho,_,d⟩:=x;exact⟨o,ho,fun v z=>by rw[d] at z;cases z⟩
theorem fN.obj{b:Bool}{h:Heap}{l:Addr}{its:Array Value}(x:fN b h l its):∃ o,h.get? l=some o:=by
 cases b with
 | true=>obtain⟨o,ho,_⟩:=x;exact⟨o,ho⟩
 | false=>obtain⟨o,ho,_⟩:=x;exact⟨o,ho⟩
theorem aT.src{X:Cx}{pins:List (Addr × Obj)}{σ:St}{H:Hp}{s:Shared}(I:aT X pins σ H s) {b:Bool}{l:Addr}{xs:List V}(h:rM X.K b H l xs):∃ its:List Value,bQ xs its/\fN b s.heap l its.toArray/\xs.length<=sizeLine:=by
 cases b with
 | true =>
  obtain⟨its,rv,p,hz⟩:=I.list (jQ.of (K:=X.K) (aN h))
  exact⟨its,rv,p.isList,hz⟩
 | false =>
  obtain⟨its,rv,p,hz⟩:=I.tuple (cN h)
  exact⟨its,rv,p,hz⟩
theorem rM.inj{K:W.Frag}{b:Bool}{H:Hp}{l:Addr}{xs ys:List V}(h:rM K b H l xs)(g:rM K b H l ys):xs=ys:=by
 unfold rM at h g
 rw[h] at g
 cases b <;> cases g <;> rfl
def F0(K:W.Frag)(b1 b2:Bool)(l1 l2:Addr):Hp->List (List V)->Prop:=fun H ys=>∃ xs zs,rM K b1 H l1 xs/\rM K b2 H l2 zs/\ys=List.zipWith (fun x z=>[x,z]) xs zs
end L2
namespace L2
open PySem PySem.Spec PyProof.Rows
section
variable {prog:Program}{w:World}{A:Around}{E:Value->Shared->Prop}{s:Shared}{z TI TO i1 i2 l1 l2:Addr}{k:Nat}{b1 b2:Bool}{u1 u2:Array Value}{a b:Value}
theorem HC{n:Nat}(h1 : @LT.lt Nat _ l1 n)(h2 : @LT.lt Nat _ l2 n):mL (n+4) (n+2) (n+3) n (n+1) [n,l1] [n+1,l2]:=by
 constructor <;> (try simp only[List.mem_cons,List.not_mem_nil,or_false,not_or]) <;> (try constructor) <;> (intro e;have e':(_:Nat)=_:=e;walk_at"o")
theorem uJ{Q:Option Value->Shared->Prop}(hh:A.handled=none)(Z:mL z TI TO i1 i2 [i1,l1] [i2,l2])(n1:l1 ≠ i1)(n2:l2 ≠ i2)(hz:IsZip s.heap z TI TO .none)(hTI:IsPair s.heap TI (.ref i1) (.ref i2))(hTO:IsPair s.heap TO a b)
  (h1:jw b1 s.heap i1 l1 k)(h2:jw b2 s.heap i2 l2 k)(p1:fN b1 s.heap l1 u1)(p2:fN b2 s.heap l2 u2)(k1:k<u1.size)(k2:k<u2.size)
  (hQ:∀ x y g tk,u1[k]? = some x->u2[k]? = some y->IsZip g z TI TO (rawInt s.heap.objs.size)->IsPair g TO x y->jw b1 g i1 l1 (k+1)->jw b2 g i2 l2 (k+1)->IsPair g s.heap.objs.size x y->g.objs.size=s.heap.objs.size+1 ->
   (∀ c o,c ∉ [z,TO,i1,i2]->s.heap.get? c=some o->g.get? c=some o)->Q (some (.ref s.heap.objs.size)) { s with heap:=g,toks:=tk }):wpAny (model prog w) A (pyNext (.ref z)) Q E s:=by
 have hT:s.TypeIs (.ref z) "zip":=⟨_,hz,rfl⟩
 unfold pyNext
 refine wpAny_bind (wpAny_attempt (wpAny_callSpecial?_slot (name:=Str.ofString "__next__") hT F.slot_zip_next (wpAny_call_entry F.slot_zip_next hT F.entry_zip_next ?_ (F.args_zip_next_1 _))))
 have D1:Draws prog w A.in1 i1 [i1,l1] u1.size _ _:=km (A:=A.in1) hh b1 i1 l1 n1 u1
 have D2:Draws prog w A.in1 i2 [i2,l2] u2.size _ _:=km (A:=A.in1) hh b2 i2 l2 n2 u2
 exact xC D1 D2 Z hz hTI hTO ⟨h1,p1⟩ ⟨h2,p2⟩ k1 k2 fun x y g tk e1 e2 c1 c2 c3 c4 c5 c6 c7=>wpAny_pure (hQ x y g tk e1 e2 c1 c2 c3.1 c4.1 c5 c6 c7)
theorem xX{Q:Option Value->Shared->Prop}(hh:A.handled=none)(Z:mL z TI TO i1 i2 [i1,l1] [i2,l2])(n1:l1 ≠ i1)(n2:l2 ≠ i2)(hz:IsZip s.heap z TI TO .none)(hTI:IsPair s.heap TI (.ref i1) (.ref i2))(hTO:IsPair s.heap TO a b)
  (h1:jw b1 s.heap i1 l1 k)(h2:jw b2 s.heap i2 l2 k)(p1:fN b1 s.heap l1 u1)(p2:fN b2 s.heap l2 u2)(hk:k=u1.size\/(k<u1.size/\k=u2.size))
  (hQ:∀ g tk,(∀ c o,c ∉ [z,TO,i1,i2]->s.heap.get? c=some o->g.get? c=some o)->Q none { s with heap:=g,toks:=tk }):wpAny (model prog w) A (pyNext (.ref z)) Q E s:=by
 have hT:s.TypeIs (.ref z) "zip":=⟨_,hz,rfl⟩
 unfold pyNext
 refine wpAny_bind (wpAny_attempt (wpAny_callSpecial?_slot (name:=Str.ofString "__next__") hT F.slot_zip_next (wpAny_call_entry F.slot_zip_next hT F.entry_zip_next ?_ (F.args_zip_next_1 _))))
 have D1:Draws prog w A.in1 i1 [i1,l1] u1.size _ _:=km (A:=A.in1) hh b1 i1 l1 n1 u1
 have D2:Draws prog w A.in1 i2 [i2,l2] u2.size _ _:=km (A:=A.in1) hh b2 i2 l2 n2 u2
 refine zV D1 D2 Z hz hTI hTO ⟨h1,p1⟩ ⟨h2,p2⟩ hk fun g tk e hk he=>?_
 obtain⟨o,ho,hc⟩:=he
 refine wpAny_bind (wpAny_isInstance (T:="StopIteration") (b:=true) ⟨o,ho,hc⟩ isSubtype_stop (wpAny_pure (hQ _ _ hk)))
end
theorem aT.turnL{X:Cx}{pins:List (Addr × Obj)}{σ:St}{H:Hp}{s:Shared}{h':Heap}{t':Nat}{ch:List Addr}(I:aT X pins σ H s)(k:∀ b o,b ∉ ch->s.heap.get? b=some o->h'.get? b=some o)(hf:∀ b ∈ ch,mJ X pins H b):aT X pins σ H { s with heap:=h',toks:=t' }:=by
 have nch:∀ c v,H c=some v->c ∉ ch:=fun c v z hc=>by
  rw[(hf c hc).1] at z
  cases z
 refine I.step (g':=s.gens) (d':=s.drawn) (ch:=ch) (fun b hb=>?_) (fun b o _ _ hc e _=>k b o hc e) (fun b o _ _ hc e _=>⟨o.slots,k b o hc e⟩) (fun b o _ e n=>n)
  (fun b o hc e=>⟨o,k b o hc e⟩) (fun b ys e=>e) (fun b o u e=>e) (fun b ps e=>⟨#[],by rw[e];simp⟩) (fun m hm=>?_) (fun b u e=>?_) I.bare
 ·obtain⟨_,f1,_,f3,f4,f5⟩:=hf b hb
  exact⟨f3,f1,f4,f5⟩
 ·obtain⟨o,es,ep,ho,r⟩:=hm
  exact⟨o,es,ep,k _ o (fun z=>(hf _ z).2.1 rfl) ho,r⟩
 ·refine (I.hok b u e).stay (fun c v hc q=>k c v ?_ q) (fun c q=>q) fun c ys q=>q
  rcases hc with z|z
  ·rw[z]
   exact nch b u e
  ·exact nch c _ z
theorem Az{P:Program}{w:World}{K:W.Frag}{elts:List Expr}{x1:Nat}{pos:Pos}{b1 b2:Bool}(z TI TO i1 i2 l1 l2:Addr)(Z:mL z TI TO i1 i2 [i1,l1] [i2,l2])(n1:l1 ≠ i1)(n2:l2 ≠ i2) :
  vm P w K (.Tuple elts x1 pos) (FB K (F0 K b1 b2 l1 l2)) [z,TO,i1,i2,TI] z (fun i h=>IsZip h z TI TO .none/\IsPair h TI (.ref i1) (.ref i2)/\(∃ a b,IsPair h TO a b)/\jw b1 h i1 l1 i/\jw b2 h i2 l2 i) where
 mem:=by simp
 obj:=fun i h st b hb=>by
  obtain⟨h1,h2,⟨a,c,h3⟩,h4,h5⟩:=st
  simp only[List.mem_cons,List.not_mem_nil,or_false] at hb
  rcases hb with rfl|rfl|rfl|rfl|rfl
  ·exact⟨_,h1,fun v e=>by cases e⟩
  ·exact⟨_,h3,fun v e=>by cases e⟩
  ·exact h4.obj
  ·exact h5.obj
  ·exact⟨_,h2,fun v e=>by cases e⟩
 keep:=fun i h h' st k=>by
  obtain⟨h1,h2,⟨a,c,h3⟩,h4,h5⟩:=st
  exact⟨k z (by simp) _ h1,k TI (by simp) _ h2,⟨a,c,k TO (by simp) _ h3⟩,h4.at fun o e=>k i1 (by simp) o e,h5.at fun o e=>k i2 (by simp) o e⟩
 item:=by
  intro X hP hw hK hc i pins s σ H E I hf st hg
  subst hP hw hK
  obtain⟨h1,h2,⟨a,c,h3⟩,h4,h5⟩:=st
  obtain⟨ys,t,⟨xs,zs,q1,q2,rfl⟩,ht⟩:=hg
  have hlt:i<xs.length/\i<zs.length:=by
   have:=(List.getElem?_eq_some_iff.mp ht).1
   simp at this
   walk_at"o"
  obtain⟨u1,r1,p1,z1⟩:=I.src q1
  obtain⟨u2,r2,p2,z2⟩:=I.src q2
  have e1:=r1.length
  have e2:=r2.length
  have tx:t=[xs[i]'hlt.1,zs[i]'hlt.2]:=by
   rw[List.getElem?_zipWith,List.getElem?_eq_getElem hlt.1,List.getElem?_eq_getElem hlt.2] at ht
   exact (Option.some.inj ht).symm
  refine uJ (I.ok.hd hc) Z n1 n2 h1 h2 h3 h4 h5 p1 p2 (by simp;walk_at"o") (by simp;walk_at"o") fun x y g tk ex ey c1 c2 c3 c4 c5 c6 c7=>⟨_,rfl,?_⟩
  refine wpAny_letOwnedTupleGo_zip (s:={ s with heap:=g,toks:=tk }) c1 fun g2 d1 d2=>?_
  replace d2:Heap.SameBut z g g2:=d2
  have zs':z<s.heap.objs.size:=Heap.lt_size h1
  have rx:cw (xs[i]'hlt.1) x:=by
   obtain⟨u,hu,ru⟩:=r1.get (List.getElem?_eq_getElem hlt.1)
   rw[List.getElem?_toArray,hu] at ex
   cases ex
   exact ru
  have ry:cw (zs[i]'hlt.2) y:=by
   obtain⟨u,hu,ru⟩:=r2.get (List.getElem?_eq_getElem hlt.2)
   rw[List.getElem?_toArray,hu] at ey
   cases ey
   exact ru
  have hf4:∀ b ∈ [z,TO,i1,i2],mJ X pins H b:=fun b hb=>hf b (by simp only[List.mem_cons,List.not_mem_nil,or_false] at hb ⊢;rcases hb with e|e|e|e <;> simp[e])
  have I4:aT X pins σ (upd H s.heap.objs.size (.tup t)) { s with heap:=g2,toks:=tk }:=by
   rw[tx]
   exact I.turnT (its:=[x,y]) (fun b o hb e=>d2.extBut _ _ (fun e'=>hb (by simp[e'])) (c7 b o hb e)) hf4 (Nat.le_refl _) (show 2<=sizeLine by decide) (.cons rx (.cons ry .nil)) ⟨_,d2.extBut _ _ (Nat.ne_of_gt zs') c5,rfl,_,rfl⟩
  have fr:=I.hok.fresh (Nat.le_refl s.heap.objs.size)
  have nk:=I.newK (Nat.le_refl s.heap.objs.size)
  have hTI2:IsPair g2 TI (.ref i1) (.ref i2):=d2.extBut _ _ Z.tiz (c7 TI _ (by simp[Z.tiz,Z.tito,Z.ti1,Z.ti2]) h2)
  refine⟨.ref s.heap.objs.size,_,I4,rfl,⟨_,_,rfl,by rw[fe nk];exact fr,kW (aC.upd fr),by rw[fe nk];exact dA,?_⟩,⟨d1,hTI2,⟨_,_,d2.extBut _ _ Z.toz c2⟩,c3.at fun o e=>d2.extBut _ _ Z.z1.symm e,c4.at fun o e=>d2.extBut _ _ Z.z2.symm e⟩,fun b hb=>?_⟩
  ·rintro ys ⟨xs',zs',q1',q2',rfl⟩
   cases q1.inj q1'
   cases q2.inj q2'
   exact ht
  ·have:b<s.heap.objs.size:=by
    simp only[List.mem_cons,List.not_mem_nil,or_false] at hb
    rcases hb with rfl|rfl|rfl|rfl|rfl
    ·exact zs'
    ·exact Heap.lt_size h3
    ·obtain⟨_,e,_⟩:=h4.obj;exact Heap.lt_size e
    ·obtain⟨_,e,_⟩:=h5.obj;exact Heap.lt_size e
    ·exact Heap.lt_size h2
   rw[cK (Nat.ne_of_lt this)]
   exact (hf b hb).1
 done:=by
  intro X hP hw hK hc i pins s σ H E I hf st hg
  subst hP hw hK
  obtain⟨h1,h2,⟨a,c,h3⟩,h4,h5⟩:=st
  obtain⟨ys,⟨xs,zs,q1,q2,rfl⟩,hl⟩:=hg
  obtain⟨u1,r1,p1,z1⟩:=I.src q1
  obtain⟨u2,r2,p2,z2⟩:=I.src q2
  have e1:=r1.length
  have e2:=r2.length
  have hk:i=u1.toArray.size\/(i<u1.toArray.size/\i=u2.toArray.size):=by
   rw[List.length_zipWith] at hl
   simp only[List.size_toArray]
   walk_at"o"
  have hf4:∀ b ∈ [z,TO,i1,i2],mJ X pins H b:=fun b hb=>hf b (by simp only[List.mem_cons,List.not_mem_nil,or_false] at hb ⊢;rcases hb with e|e|e|e <;> simp[e])
  exact xX (I.ok.hd hc) Z n1 n2 h1 h2 h3 h4 h5 p1 p2 hk fun g tk k=>⟨rfl,I.turnL k hf4⟩
 self:=fun _ _ _ _ _ st h=>wpAny_pyIter_zip st.1 h
end L2
namespace L2
open PySem PySem.Spec PyProof.Rows
def C9(b:Bool)(l:Addr):Obj:=match b with
 | true=>{ cls:=.type "list_iterator",data:=.fields #[.ref l,.int 0 0] }
 | false=>{ cls:=.type "tuple_iterator",data:=.fields #[.ref l,.int 0 0] }
section
variable {prog:Program}{w:World}{A:Around}{E:Value->Shared->Prop}{s:Shared}
theorem wp{b:Bool}{l:Addr}{u:Array Value}{Q:Value->Shared->Prop}(h:fN b s.heap l u)(q:Q (.ref s.heap.objs.size) { s with heap:=s.heap.push (C9 b l) }):wpAny (model prog w) A (pyIter (.ref l)) Q E s:=by
 cases b with
 | true=>exact wpAny_pyIter_list h q
 | false=>exact wpAny_pyIter_tuple h q
end
theorem fN.push{b:Bool}{h:Heap}{l:Addr}{u:Array Value}(x:fN b h l u)(o:Obj):fN b (h.push o) l u:=by
 cases b with
 | true=>obtain⟨v,e,r⟩:=x;exact⟨v,Heap.get?_push_of_some _ e,r⟩
 | false=>obtain⟨v,e,r⟩:=x;exact⟨v,Heap.get?_push_of_some _ e,r⟩
theorem jw.new{b:Bool}{h:Heap}{it l:Addr}(e:h.get? it=some (C9 b l)):jw b h it l 0:=by
 cases b with
 | true=>exact⟨_,e,rfl,rfl⟩
 | false=>exact⟨_,e,rfl,rfl⟩
abbrev GR (h:Heap)(b1:Bool)(l1:Addr):Heap:=h.push (C9 b1 l1)
abbrev GM (h:Heap)(b1 b2:Bool)(l1 l2:Addr):Heap:=(GR h b1 l1).push (C9 b2 l2)
abbrev GY (h:Heap)(b1 b2:Bool)(l1 l2:Addr):Heap:=(GM h b1 b2 l1 l2).push { cls:=.type "tuple",data:=.seq #[.ref h.objs.size,.ref (GR h b1 l1).objs.size] }
abbrev GK (h:Heap)(b1 b2:Bool)(l1 l2:Addr):Heap:=(GY h b1 b2 l1 l2).push { cls:=.type "tuple",data:=.seq #[.none,.none] }
abbrev FI (h:Heap)(b1 b2:Bool)(l1 l2:Addr):Heap:=(GK h b1 b2 l1 l2).push { cls:=.type "zip",data:=.fields #[.none,.bool false,.bool false,.ref (GM h b1 b2 l1 l2).objs.size,.ref (GY h b1 b2 l1 l2).objs.size] }
theorem uP(b1 b2:Bool)(l1 l2:Addr)(u1 u2:Array Value) :
  Meets (Builtin.«zip.__new__» ⟨[.type "zip",.ref l1,.ref l2],[]⟩) (fun _ R s=>fN b1 s.heap l1 u1/\fN b2 s.heap l2 u2/\R (.ok (.ret (.ref (GK s.heap b1 b2 l1 l2).objs.size))) { s with heap:=FI s.heap b1 b2 l1 l2 }) :=
 .of_wp fun prog w A R s h=>by
  obtain⟨hp,g,d,tk,os⟩:=s;obtain⟨q1,q2,h⟩:=h
  have hsub:=sub_zip
  have y1:fN b1 (Shared.heap ⟨hp,g,d,tk,os⟩) l1 u1:=q1
  have y2:fN b2 (Shared.heap ⟨hp.push (C9 b1 l1),g,d,tk,os⟩) l2 u2:=fN.push q2 _
  wp_walk using wp y1,wp y2
  exact⟨_,rfl,h⟩
section
variable {prog:Program}{w:World}{A:Around}{E:Value->Shared->Prop}{s:Shared}
theorem Gd{b1 b2:Bool}{l1 l2:Addr}{u1 u2:Array Value}{Q:Value->Shared->Prop}(q1:fN b1 s.heap l1 u1)(q2:fN b2 s.heap l2 u2)
  (h:∀ g,IsZip g (s.heap.objs.size+4) (s.heap.objs.size+2) (s.heap.objs.size+3) .none->IsPair g (s.heap.objs.size+2) (.ref s.heap.objs.size) (.ref (s.heap.objs.size+1))->IsPair g (s.heap.objs.size+3) .none .none ->
   jw b1 g s.heap.objs.size l1 0->jw b2 g (s.heap.objs.size+1) l2 0->(∀ c o,s.heap.get? c=some o->g.get? c=some o)->Q (.ref (s.heap.objs.size+4)) { s with heap:=g }) :
  wpAny (model prog w) A (call (.type "zip") [.ref l1,.ref l2]) Q E s:=by
 refine callType_new F.called_zip (by decide) (F.typeCall_zip_2 _ _) (F.newCall_zip_2 _ _) (fun obj=>F.args_object_init_3 obj _ _) F.entry_zip_new (uP b1 b2 l1 l2 u1 u2) ⟨q1,q2,?_⟩
 have v1:(GR s.heap b1 l1).objs.size=s.heap.objs.size+1:=Heap.size_push ..
 have v2:(GM s.heap b1 b2 l1 l2).objs.size=s.heap.objs.size+2:=by rw[Heap.size_push,v1]
 have v3:(GY s.heap b1 b2 l1 l2).objs.size=s.heap.objs.size+3:=by rw[Heap.size_push,v2]
 have v4:(GK s.heap b1 b2 l1 l2).objs.size=s.heap.objs.size+4:=by rw[Heap.size_push,v3]
 have g5:(FI s.heap b1 b2 l1 l2).get? (GK s.heap b1 b2 l1 l2).objs.size=some _:=Heap.get?_push_size _ rfl
 have g4:(FI s.heap b1 b2 l1 l2).get? (GY s.heap b1 b2 l1 l2).objs.size=some _:=Heap.get?_push_of_some _ (Heap.get?_push_size _ rfl)
 have g3:(FI s.heap b1 b2 l1 l2).get? (GM s.heap b1 b2 l1 l2).objs.size=some _:=Heap.get?_push_of_some _ (Heap.get?_push_of_some _ (Heap.get?_push_size _ rfl))
 have nf:∀ b l,(C9 b l).isFreed=false:=fun b l=>by cases b <;> rfl
 have g2:(FI s.heap b1 b2 l1 l2).get? (GR s.heap b1 l1).objs.size=some (C9 b2 l2):=Heap.get?_push_of_some _ (Heap.get?_push_of_some _ (Heap.get?_push_of_some _ (Heap.get?_push_size _ (nf _ _))))
 have g1:(FI s.heap b1 b2 l1 l2).get? s.heap.objs.size=some (C9 b1 l1):=Heap.get?_push_of_some _ (Heap.get?_push_of_some _ (Heap.get?_push_of_some _ (Heap.get?_push_of_some _ (Heap.get?_push_size _ (nf _ _)))))
 show _/\_
 rw[v2,v3,v4] at g5
 rw[v1,v2] at g3
 rw[v3] at g4
 rw[v1] at g2
 rw[v4]
 exact⟨⟨_,g5,rfl⟩,h _ g5 g3 g4 (.new g1) (.new g2) fun c o x=>Heap.get?_push_of_some _ (Heap.get?_push_of_some _ (Heap.get?_push_of_some _ (Heap.get?_push_of_some _ (Heap.get?_push_of_some _ x))))⟩
end
def yA(K:W.Frag)(ta:TA):TI:=fun σ H R=>ta σ H fun vs H1=>∃ a b,vs=[.ref a,.ref b] /\ ∃ c d,(∃ xs,rM K c H1 a xs)/\(∃ ys,rM K d H1 b ys)/\R (FB K (F0 K c d a b)) H1
theorem EQ{X:Cx}{elts:List Expr}{x1:Nat}{tp p pos:Pos}{a b:Expr}{ta:TA}(hg:Gl X "zip") (hm:X.mg "zip" = none) (ha:PA X [a,b] ta)(hs:starEach [a,b] X.env=[(false,eval a X.env),(false,eval b X.env)]:=by rfl)(hs2:starEach [b] X.env=[(false,eval b X.env)]:=by rfl) :
  PI X (.Tuple elts x1 tp) (.Call (.Name "zip" p) [a,b] [] pos) (yA X.K ta):=by
 intro pins s σ H R I h
 refine Call_ (jG I hg hm EU (PyProof.Rows.callWith_type1 (dE (ha pos pins s σ H _ I h) fun us s1 ⟨vs,H1,I1,r1,q1⟩=>?_) (by rw[hs,hs2]) (by rw[hs2];rfl)))
 obtain⟨l1,l2,e,c,d,⟨xs,hx⟩,⟨ys,hy⟩,q⟩:=q1
 subst e
 cases r1 with
 | cons r rr =>
  cases rr with
  | cons r' rr =>
   cases rr
   cases r
   cases r'
   obtain⟨u1,t1,p1,_⟩:=I1.src hx
   obtain⟨u2,t2,p2,_⟩:=I1.src hy
   refine Gd p1 p2 fun g c1 c2 c3 c4 c5 k=>?_
   refine wpAny_pyIter_zip (s:={ s1 with heap:=g }) c1 ?_
   have m1:l1<s1.heap.objs.size:=by obtain⟨_,e⟩:=p1.obj;exact Heap.lt_size e
   have m2:l2<s1.heap.objs.size:=by obtain⟨_,e⟩:=p2.obj;exact Heap.lt_size e
   refine⟨_,_,_,_,H1,rfl,I1.kept (t':=s1.toks) k,Az _ _ _ _ _ l1 l2 (HC m1 m2) (Nat.ne_of_lt m1) (Nat.ne_of_lt (Nat.lt_succ_of_lt m2)),⟨c1,c2,⟨_,_,c3⟩,c4,c5⟩,fun f hf=>?_,q⟩
   have hf':s1.heap.objs.size<=f:=by
    simp only[List.mem_cons,List.not_mem_nil,or_false] at hf
    rcases hf with z|z|z|z|z <;> rw[z]
    ·exact Nat.le_add_right _ 4
    ·exact Nat.le_add_right _ 3
    ·exact Nat.le_refl _
    ·exact Nat.le_add_right _ 1
    ·exact Nat.le_add_right _ 2
   exact I1.fpOk hf' (I1.hok.fresh hf')
theorem uI{X:Cx}{elts:List Expr}{x1:Nat}{tp p pos:Pos}{a b:Expr}{ta:TA}(hg:Gl X "zip") (hm:X.mg "zip" = none) (ha:QA X [a,b] ta)(hs:starEach [a,b] X.env=[(false,eval a X.env),(false,eval b X.env)]:=by rfl)(hs2:starEach [b] X.env=[(false,eval b X.env)]:=by rfl) :
  QI X (.Tuple elts x1 tp) (.Call (.Name "zip" p) [a,b] [] pos) (yA X.K ta):=⟨EQ hg hm ha.h hs hs2⟩
end L2
namespace L2
open PySem PySem.Spec PyProof.Rows
section
variable {X:Cx}{pins:List (Addr × Obj)}{σ:St}{H:Hp}{s:Shared}
end
def CP(K:W.Frag)(a:Addr)(σr:St)(Pv:List V->Hp->Prop):St->Hp->Prop:=fun σ H=>(∃ y z,σ=y :: z :: σr) /\ ∃ xs,vw K H a=some (.lst xs)/\Pv xs H
theorem m8{K:W.Frag}{R:Hp->List (List V)->Prop}{ps:List (V × V)}{tif:TT}{te:TE}{a:Addr}{x0 x1:Option V}{σr:St}{H0:Hp}{Q:Hp->Prop}(Pv:Nat->List V->Hp->Prop)
  (hl:∀ i xs H,i<=ps.length->vw K H a=some (.lst xs)->Pv i xs H->R H (ps.map fun p=>[p.1,p.2]))(ha:vw K H0 a=some (.lst []))(h0:Pv 0 [] H0)
  (hs:∀ i x y xs H H',i<ps.length->ps[i]? = some (x,y)->vw K H' a=some (.lst xs)->Pv i xs H->aC (vw K H) (vw K H')->tif (some x :: some y :: σr) H' fun b H3=>if b=true then te (some x :: some y :: σr) H3 (Dw K a (CP K a σr (Pv (i+1)) (some x :: some y :: σr))) else CP K a σr (Pv (i+1)) (some x :: some y :: σr) H3)
  (hd:∀ xs H,vw K H a=some (.lst xs)->Pv ps.length xs H->Q H):pA K (FB K R) (jB K 2 (kK (ig 0) (kK (ig 1) u8))) tif te a (x0 :: x1 :: σr) H0 Q:=by
 refine⟨fun i m σ H=>m=ps.length - i/\i<=ps.length/\CP K a σr (Pv i) σ H,⟨ps.length,by simp,Nat.zero_le _,⟨_,_,rfl⟩,_,ha,h0⟩,?_⟩
 rintro i m σ H ⟨rfl,hi,⟨y,z,rfl⟩,xs,hxs,p⟩
 have q:=hl i xs H hi hxs p
 by_cases hlt:i<ps.length
 ·refine .inr ⟨⟨_,_,q,by rw[List.getElem?_map,List.getElem?_eq_getElem hlt];rfl⟩,CP K a σr (Pv (i+1)),fun σ' H' p'=>⟨ps.length - (i+1),by walk_at"o",rfl,hlt,p'⟩,fun x H' y=>?_⟩
  obtain⟨b,t,rfl,y1,y2,y3,y4⟩:=y
  have e:=y4 _ q
  rw[List.getElem?_map,List.getElem?_eq_getElem hlt] at e
  cases e
  exact⟨b,rfl,_,y3,rfl,_,_,rfl,_,_,rfl,rfl,hs i _ _ xs H H' hlt (List.getElem?_eq_getElem hlt) (y2 _ _ hxs) p y2⟩
 ·have e:i=ps.length:=by walk_at"o"
  subst e
  exact .inl ⟨⟨_,q,by simp⟩,hd xs H hxs p⟩
theorem Dw.mk2{K:W.Frag}{a:Addr}{σr:St}{Pv:List V->Hp->Prop}{x y:Option V}{v:V}{H:Hp}{xs:List V}(h:vw K H a=some (.lst xs))(hz:xs.length<sizeLine)
  (q:∀ H5,fh a (vw K H) (vw K H5)->vw K H5 a=some (.lst (xs ++ [v]))->Pv (xs ++ [v]) H5):Dw K a (CP K a σr Pv (x :: y :: σr)) v H:=⟨xs,h,hz,fun H5 B h5=>⟨⟨_,_,rfl⟩,_,h5,q H5 B h5⟩⟩
theorem oT{xs ys:List V}:List.zipWith (fun x z=>[x,z]) xs ys=(xs.zip ys).map fun p=>[p.1,p.2]:=by
 rw[List.zip,List.map_zipWith]
end L2
namespace L2
open PySem PySem.Spec PyProof.Rows
def wv(q:Int × Int):Rat:=(q.1:Rat) / (q.2:Rat)
theorem aD{b:Int}(h:b ≠ 0):(b:Rat) ≠ 0:=by simpa using h
theorem iQ{a b:Int}(hb:b ≠ 0):wv (lo a b)=(a:Rat) / (b:Rat):=by
 have e1:=fF (a:=a) hb
 have e2:=fQ (a:=a) hb
 have hg:=aD (zm (a:=a) hb)
 have hd:(lo a b).2 ≠ 0:=by have:=(iS (a:=a) hb).1;walk_at"o"
 have hd':=aD hd
 have c1:((lo a b).1:Rat)*(lg a b:Rat)=(a:Rat):=by
  have:=congrArg (fun i:Int=>(i:Rat)) e1
  simpa using this
 have c2:((lo a b).2:Rat)*(lg a b:Rat)=(b:Rat):=by
  have:=congrArg (fun i:Int=>(i:Rat)) e2
  simpa using this
 unfold wv
 rw[<- c1,<- c2]
 grind
theorem xB{a b c:Int}(h:b ∣ a*c)(hg:Int.gcd a b=1):b ∣ c:=by
 have h1:b.natAbs ∣ a.natAbs*c.natAbs:=by
  rw[<- Int.natAbs_mul]
  exact Int.natAbs_dvd_natAbs.mpr h
 have h2:Nat.Coprime b.natAbs a.natAbs:=by
  unfold Nat.Coprime
  rw[Nat.gcd_comm]
  exact hg
 exact Int.natAbs_dvd_natAbs.mp (Nat.Coprime.dvd_of_dvd_mul_left h2 h1)
theorem kR{p q:Int × Int}(hp:Fq p)(hq:Fq q)(h:wv p=wv q):p=q:=by
 have h1:=aD (show p.2 ≠ 0 by have:=hp.1;walk_at"o")
 have h2:=aD (show q.2 ≠ 0 by have:=hq.1;walk_at"o")
 have e:p.1*q.2=q.1*p.2:=by
  unfold wv at h
  have:(p.1:Rat)*(q.2:Rat)=(q.1:Rat)*(p.2:Rat):=by grind
  have h3:((p.1*q.2:Int):Rat)=((q.1*p.2:Int):Rat):=by simpa using this
  exact Rat.intCast_inj.mp h3
 have d1:p.2 ∣ q.2:=by
  have:p.2 ∣ p.1*q.2:=⟨q.1,by rw[e,Int.mul_comm]⟩
  exact xB this hp.2
 have d2:q.2 ∣ p.2:=by
  have:q.2 ∣ q.1*p.2:=⟨p.1,by rw[<- e,Int.mul_comm]⟩
  exact xB this hq.2
 have e2:p.2=q.2:=Int.dvd_antisymm (Int.le_of_lt hp.1) (Int.le_of_lt hq.1) d1 d2
 rw[e2] at e
 have e1:p.1=q.1:=Int.eq_of_mul_eq_mul_right (by have:=hq.1;walk_at"o") e
 exact Prod.ext e1 e2
theorem mQ{p q:Int × Int}(hp:p.2 ≠ 0)(hq:q.2 ≠ 0):wv (oH p q)=wv p+wv q:=by
 unfold oH
 rw[iQ (Int.mul_ne_zero hp hq)]
 unfold wv
 have h1:=aD hp
 have h2:=aD hq
 simp only[Rat.intCast_add,Rat.intCast_mul]
 grind
def qh(p q:Int × Int):Int × Int:=lo (p.1*q.1) (p.2*q.2)
theorem lX{p q:Int × Int}(hp:Fq p)(hq:Fq q):Fq (qh p q):=iS (by have:=Int.mul_pos hp.1 hq.1;walk_at"o")
theorem n5{p q:Int × Int}{m n:Nat}(hp:Fq p)(hq:Fq q)(h1:Bq m p)(h2:Bq n q):Bq (m+n) (qh p q):=nL (by have:=Int.mul_pos hp.1 hq.1;walk_at"o") (h1.1.mul h2.1) (h1.2.mul h2.2)
theorem pU{p q:Int × Int}(hp:p.2 ≠ 0)(hq:q.2 ≠ 0):wv (qh p q)=wv p*wv q:=by
 unfold qh
 rw[iQ (Int.mul_ne_zero hp hq)]
 unfold wv
 have h1:=aD hp
 have h2:=aD hq
 simp only[Rat.intCast_mul]
 grind
section
variable {X:Cx}
def lB:List Int->Int
 | []=>0
 | a :: as=>a+lB as
theorem oS(as bs:List Int):lB (as ++ bs)=lB as+lB bs:=by
 induction as with
 | nil=>simp[lB]
 | cons a as ih=>simp only[List.cons_append,lB,ih];walk_at"o"
theorem nv(ns:List Int):∀ k,k<=ns.length->preSum (fun i=>ns.getD i 0) k=lB (ns.take k)
 | 0,_=>rfl
 | k+1,h=>by
  have hk:k<ns.length:=by walk_at"o"
  show preSum _ k+ns.getD k 0=_
  rw[nv ns k (by walk_at"o"),List.take_add_one,List.getElem?_eq_getElem hk,oS]
  simp[lB,List.getD_eq_getElem?_getD,List.getElem?_eq_getElem hk]
theorem tV:∀{ns:List Int}{us:List Value},bQ (ns.map V.int) us -> ∀ {i:Nat}{v:Value},us[i]? = some v -> ∃ t,v = .int (ns.getD i 0) t
 | [],us,h,i,v,e=>by cases h;cases e
 | n :: ns,us,h,i,v,e=>by
  cases h with
  | cons r rr =>
   cases i with
   | zero =>
    cases e
    obtain⟨t,rfl⟩:=r
    exact⟨t,rfl⟩
   | succ i =>
    obtain⟨t,q⟩:=tV rr (i:=i) e
    exact⟨t,by rw[q];simp⟩
theorem qp(hh:X.calm=true):eZ X (.builtin "sum") (fun xs H Q=>∃ p,xs=[.ref p] /\ ∃ ns:List Int,vw X.K H p=some (.lst (ns.map V.int))/\Q (.int (lB ns)) H):=by
 intro pins s σ H xs us Q I r h
 obtain⟨p,rfl,ns,hp,q⟩:=h
 cases r with
 | cons r1 rr =>
  cases rr
  cases r1
  obtain⟨its,rv,pl,hz⟩:=I.list (jQ.of (K:=X.K) (aN hp))
  have hl:=rv.length
  rw[List.length_map] at hl
  have hlt:p<s.heap.objs.size:=by obtain⟨o,n,e1,_⟩:=pl;exact Heap.lt_size e1
  refine call_sum_walkG (wpAny_pyIter_list pl.isList ⟨s.heap.objs.size,_,_,_,_,_,fun i=>ns.getD i 0,rfl,Walks.list (show X.A.in1.handled=none from I.ok.hd hh) _ p (Nat.ne_of_lt hlt) _,⟨⟨_,Heap.get?_push_size _ rfl,rfl,rfl⟩,pl.isList.push _⟩,?_,fun i v hv=>tV rv (by simpa using hv),fun h' tk t' hk=>?_⟩)
  ·intro b hb
   show b<(s.heap.push _).objs.size
   rw[Heap.size_push]
   simp only[List.mem_cons,List.not_mem_nil,or_false] at hb
   rcases hb with e|e
   ·rw[e];exact Nat.lt_succ_self _
   ·rw[e];exact Nat.lt_succ_of_lt hlt
  ·refine⟨.int (lB ns),H,I.kept fun b o e=>hk b o (fun z=>?_) (Heap.get?_push_of_some _ e),⟨t',?_⟩,q⟩
   ·rw[List.mem_singleton.mp z] at e
    exact absurd (Heap.lt_size e) (Nat.lt_irrefl _)
   ·rw[List.size_toArray,<- hl,nv ns _ (Nat.le_refl _),List.take_length]
theorem rE:Dr X .Mult (fun x y H Q=>∃ i j,x = .int i/\y = .int j/\IntMulOk i j/\Q (.int (i*j)) H):=by
 intro pins s σ H x y v u Q I r1 r2 h
 obtain⟨i,j,rfl,rfl,m,q⟩:=h
 obtain⟨t,rfl⟩:=r1
 obtain⟨t',rfl⟩:=r2
 exact imul_int ⟨.int _,H,I.tok _,⟨_,rfl⟩,q⟩ m
theorem tQ{st:Stmt}:QS X st vD:=⟨zZ⟩
theorem zE:bootBuiltins "sum" = some (.builtin "sum"):=by decide +kernel
end
theorem pF{K:W.Frag}{J:It}{its:List V}{ps:List (V × V)}{tif:TT}{te:TE}{a:Addr}{x0 x1:Option V}{σr:St}{H0:Hp}{Q:Hp->Prop}(Pv:Nat->List V->Hp->Prop)(hlen:its.length=ps.length)
  (hl:∀ i xs H,i<=its.length->vw K H a=some (.lst xs)->Pv i xs H->pN J H its /\ ∀ (j:Nat)(x y:V),ps[j]? = some (x,y) -> ∃ p:Addr,its[j]? = some (V.ref p)/\vw K H p=some (HO.tup [x,y]))(ha:vw K H0 a=some (.lst []))(h0:Pv 0 [] H0)
  (hs:∀ i x y xs H,i<ps.length->ps[i]? = some (x,y)->vw K H a=some (.lst xs)->Pv i xs H->tif (some x :: some y :: σr) H fun b H3=>if b=true then te (some x :: some y :: σr) H3 (Dw K a (CP K a σr (Pv (i+1)) (some x :: some y :: σr))) else CP K a σr (Pv (i+1)) (some x :: some y :: σr) H3)
  (hd:∀ xs H,vw K H a=some (.lst xs)->Pv ps.length xs H->Q H):pA K J (jB K 2 (kK (ig 0) (kK (ig 1) u8))) tif te a (x0 :: x1 :: σr) H0 Q:=by
 refine⟨fun i m σ H=>m=ps.length - i/\i<=ps.length/\CP K a σr (Pv i) σ H,⟨ps.length,by simp,Nat.zero_le _,⟨_,_,rfl⟩,_,ha,h0⟩,?_⟩
 rintro i m σ H ⟨rfl,hi,⟨y,z,rfl⟩,xs,hxs,p⟩
 obtain⟨⟨q1,q2,q3⟩,q4⟩:=hl i xs H (by walk_at"o") hxs p
 by_cases hlt:i<ps.length
 ·refine .inr ⟨q1 i (by walk_at"o"),CP K a σr (Pv (i+1)),fun σ' H' p'=>⟨ps.length - (i+1),by walk_at"o",rfl,hlt,p'⟩,fun x H' y=>?_⟩
  obtain⟨e,y2⟩:=q2 i x H' (by walk_at"o") y
  subst e
  obtain⟨b,e1,e2⟩:=q4 i _ _ (List.getElem?_eq_getElem hlt)
  rw[e1] at y2
  cases y2
  exact⟨b,rfl,_,e2,rfl,_,_,rfl,_,_,rfl,rfl,hs i _ _ xs _ hlt (List.getElem?_eq_getElem hlt) hxs p⟩
 ·have e:i=ps.length:=by walk_at"o"
  subst e
  exact .inl ⟨hlen ▸ q3,hd xs H hxs p⟩
theorem iz{g q:Int}(hg:g ≠ 0)(h:g ∣ q):q.fdiv g*g=q:=by
 obtain⟨m,rfl⟩:=h
 rw[Int.mul_comm g m,Int.mul_fdiv_cancel m hg]
theorem wk{a b:Int}(ha:0<=a)(hb:1<=b):a<=a*b:=by
 have:=Int.mul_le_mul_of_nonneg_left hb ha
 walk_at"o"
theorem ud{b q:Int}(hb:0<b)(hq:0<q):0<q.fdiv (Int.gcd b q:Int)/\q.fdiv (Int.gcd b q:Int)<=q/\q ∣ b*q.fdiv (Int.gcd b q:Int)/\(Int.gcd b q:Int) ≠ 0/\(Int.gcd b q:Int)<=q:=by
 have hg:(Int.gcd b q:Int) ≠ 0:=by
  have:Int.gcd b q ≠ 0:=fun e=>by
   have:=(Int.gcd_eq_zero_iff.mp e).2
   walk_at"o"
  walk_at"o"
 have hg0:0<(Int.gcd b q:Int):=by walk_at"o"
 have e:=iz hg (Int.gcd_dvd_right b q)
 have hle:(Int.gcd b q:Int)<=q:=Int.le_of_dvd hq (Int.gcd_dvd_right b q)
 generalize q.fdiv (Int.gcd b q:Int)=c at e
 obtain⟨m,hm⟩:=Int.gcd_dvd_left b q
 have hc:0<c:=by
  refine Int.pos_of_mul_pos_left ?_ hg0
  rw[e]
  exact hq
 refine⟨hc,?_,⟨m,?_⟩,hg,hle⟩
 ·rw[<- e]
  exact wk (by walk_at"o") (by walk_at"o")
 ·rw[<- e]
  generalize (Int.gcd b q:Int)=g at *
  rw[hm]
  rw[Int.mul_right_comm,Int.mul_comm c g]
theorem Bt.le{n:Nat}{x y:Int}(h:Bt n y)(h0:0<=x)(hl:x<=y):Bt n x:=by
 unfold Bt at *
 walk_at"o"
theorem tT{q:Int × Int}{D:Int}{m n:Nat}(hq:Fq q)(hd:q.2 ∣ D)(hD:0<D)(b1:Bt m D)(b2:Bt n q.1):((q.1*D.fdiv q.2:Int):Rat)=wv q*(D:Rat)/\Bt (m+n) (q.1*D.fdiv q.2)/\Bt m (D.fdiv q.2):=by
 have h2:q.2 ≠ 0:=by have:=hq.1;walk_at"o"
 have e:=iz h2 hd
 have hp:0<D.fdiv q.2:=by
  refine Int.pos_of_mul_pos_left ?_ hq.1
  rw[e]
  exact hD
 have hle:D.fdiv q.2<=D:=by
  have:=wk (Int.le_of_lt hp) (show 1<=q.2 by have:=hq.1;walk_at"o")
  rw[e] at this
  exact this
 have bm:=b1.le (Int.le_of_lt hp) hle
 refine⟨?_,(b2.mul bm).mono (by walk_at"o"),bm⟩
 generalize D.fdiv q.2=c at *
 have h3:=aD h2
 rw[<- e]
 unfold wv
 simp only[Rat.intCast_mul]
 grind
end L2
namespace L2
open PySem PySem.Spec PyProof.Rows
def de(x:Rat):Nat->Rat
 | 0=>1
 | k+1=>de x k*x
def qg:List sR->Nat->Rat
 | [],_=>0
 | c :: cs,k=>wv c.2*de (wv c.1) k+qg cs k
theorem pR{G:Hp}:∀{cs:List sR}{xs:List V},aG G (cs.map tH) xs -> ∃ ps:List (V × V),ps.length=cs.length/\(∀ (j:Nat)(x y:V),ps[j]? = some (x,y) -> ∃ p:Addr,xs[j]? = some (V.ref p)/\G p=some (HO.tup [x,y])) /\
  aG G ((cs.map (·.1)).map fr) (ps.map (·.1))/\aG G ((cs.map (·.2)).map fr) (ps.map (·.2))
 | [],xs,h=>⟨[],rfl,by simp,.mk_nil,.mk_nil⟩
 | c :: cs,xs,h=>by
  obtain⟨x,r,rfl,h1,h2⟩:=aG.cons_at h
  obtain⟨ps,e1,e2,e3,e4⟩:=pR h2
  obtain⟨a,u,v,rfl,ha,r1,r2⟩:=h1.spt_at
  refine⟨(u,v) :: ps,by simp[e1],fun j x y e=>?_,.mk_cons r1 e3,.mk_cons r2 e4⟩
  cases j with
  | zero=>cases e;exact⟨a,rfl,ha⟩
  | succ j=>exact e2 j x y e
theorem ku(x:Rat)(k:Nat):de x (k+1)=de x k*x:=rfl
end L2
namespace L2
open PySem PySem.Spec PyProof.Rows
def sumQ:List (Int × Int)->Rat
 | []=>0
 | q :: qs=>wv q+sumQ qs
theorem Ao(as bs:List (Int × Int)):sumQ (as ++ bs)=sumQ as+sumQ bs:=by
 induction as with
 | nil=>show sumQ bs=0+sumQ bs;grind
 | cons a as ih=>show wv a+sumQ (as ++ bs)=wv a+sumQ as+sumQ bs;rw[ih];grind
theorem uv{k:Nat}:∀{cs:List sR}{qs:List (Int × Int)},qs.length=cs.length->(∀ (i:Nat)(q:Int × Int)(c:sR),qs[i]? = some q->cs[i]? = some c->wv q=wv c.2*de (wv c.1) k)->sumQ qs=qg cs k
 | [],[],_,_=>rfl
 | [],_ :: _,h,_=>by simp at h
 | _ :: _,[],h,_=>by simp at h
 | c :: cs,q :: qs,h,hw=>by
  show wv q+sumQ qs=wv c.2*de (wv c.1) k+qg cs k
  rw[uv (cs:=cs) (qs:=qs) (by simpa using h) fun i n d e1 e2=>hw (i+1) n d (by simpa using e1) (by simpa using e2),hw 0 q c rfl rfl]
end L2
namespace L2
open PySem PySem.Spec PyProof.Rows
end L2
namespace L2
open PySem PySem.Spec PyProof.Rows
def yB(p q:Int × Int):Int × Int:=lo (p.1*q.2 - q.1*p.2) (p.2*q.2)
theorem wr{p q:Int × Int}(hp:Fq p)(hq:Fq q):Fq (yB p q):=iS (by have:=Int.mul_pos hp.1 hq.1;walk_at"o")
theorem zo{p q:Int × Int}(hp:p.2 ≠ 0)(hq:q.2 ≠ 0):wv (yB p q)=wv p - wv q:=by
 unfold yB
 rw[iQ (Int.mul_ne_zero hp hq)]
 unfold wv
 have h1:=aD hp
 have h2:=aD hq
 simp only[Rat.intCast_sub,Rat.intCast_mul]
 grind
theorem iO{q:Int × Int}(hq:q.2 ≠ 0):wv q=0 ↔ q.1=0:=by
 have h2:=aD hq
 unfold wv
 constructor
 ·intro h
  have:(q.1:Rat)=0:=by grind
  simpa using this
 ·intro h
  have:(q.1:Rat)=0:=by rw[h];rfl
  rw[this]
  grind
end L2
namespace L2
open PySem PySem.Spec PyProof.Rows
def cf(qs:List (Int × Int))(k:Nat):Rat:=match qs[k]? with
 | some q=>wv q
 | none=>0
def aR(qs:List (Int × Int)):Prop:=(∀ q ∈ qs,Fq q) /\ ∀ q,qs.getLast? = some q->q.1 ≠ 0
theorem Fq.ne{q:Int × Int}(h:Fq q):q.2 ≠ 0:=by have:=h.1;walk_at"o"
theorem aZ{qs:List (Int × Int)}{k:Nat}{q:Int × Int}(h:qs[k]? = some q):cf qs k=wv q:=by unfold cf;rw[h]
theorem cz{qs:List (Int × Int)}{k:Nat}(h:qs.length<=k):cf qs k=0:=by unfold cf;rw[List.getElem?_eq_none h]
theorem yR(k:Nat):cf [] k=0:=rfl
theorem wu{qs:List (Int × Int)}{n:Nat}(hF:∀ q ∈ qs,Fq q)(hz:∀ q ∈ qs.drop n,q.1=0)(k:Nat):cf (qs.take n) k=cf qs k:=by
 by_cases hk:k<n
 ·unfold cf
  rw[List.getElem?_take,if_pos hk]
 ·unfold cf
  rw[List.getElem?_take,if_neg hk]
  cases e:qs[k]? with
  | none=>rfl
  | some q =>
   have hm:q ∈ qs.drop n:=List.mem_of_getElem? (i:=k - n) (by rw[List.getElem?_drop,show n+(k - n)=k by walk_at"o"];exact e)
   exact ((iO (hF q (List.mem_of_getElem? e)).ne).mpr (hz q hm)).symm
theorem og{q:Int × Int}(h:Fq q):q=(0,1) ↔ q.1=0:=by
 constructor
 ·rintro rfl;rfl
 ·intro e
  obtain⟨h1,h2⟩:=h
  rw[e] at h2
  have:q.2.natAbs=1:=by simpa using h2
  exact Prod.ext e (by show q.2=1;walk_at"o")
end L2
namespace L2
open PySem PySem.Spec PyProof.Rows
def Hl:List Int->Rat->Rat
 | [],_=>0
 | n :: ns,x=>(n:Rat)+x*Hl ns x
end L2
namespace L2
open PySem PySem.Spec PyProof.Rows
def pz(f g:Nat->Int):Nat->Nat->Int
 | 0,_=>0
 | j+1,k=>pz f g j k+if j<=k then f j*g (k - j) else 0
def pr(f g:Nat->Rat):Nat->Nat->Rat
 | 0,_=>0
 | j+1,k=>pr f g j k+if j<=k then f j*g (k - j) else 0
theorem oq{f g:Nat->Int}{F G:Nat->Rat}{c d:Rat}(hf:∀ i,(f i:Rat)=F i*c)(hg:∀ i,(g i:Rat)=G i*d):∀ j k,((pz f g j k:Int):Rat)=pr F G j k*(c*d)
 | 0,k=>by
  show ((0:Int):Rat)=0*(c*d)
  grind
 | j+1,k=>by
  show (((pz f g j k+if j<=k then f j*g (k - j) else 0:Int)):Rat)=(pr F G j k+if j<=k then F j*G (k - j) else 0)*(c*d)
  rw[Rat.intCast_add,oq hf hg j k]
  split
  ·rw[Rat.intCast_mul,hf,hg]
   grind
  ·grind
theorem j9{n:Nat}:Bt n 0:=by
 show (0:Int).natAbs<2 ^ n
 exact Nat.two_pow_pos n
theorem wb{f g:Nat->Int}{m n:Nat}(hf:∀ i,Bt m (f i))(hg:∀ i,Bt n (g i)):∀ j k,Bt (m+n+j) (pz f g j k)
 | 0,k=>j9
 | j+1,k=>by
  have h1:=wb hf hg j k
  have h2:Bt (m+n) (if j<=k then f j*g (k - j) else 0):=by
   split
   ·exact (hf j).mul (hg _)
   ·exact j9
  exact (h1.add h2).mono (by walk_at"o")
def qz(f g:Nat->Int)(j l k:Nat):Int:=pz f g j k+if j<=k/\k - j<l then f j*g (k - j) else 0
theorem G9(f g:Nat->Int)(j k:Nat):qz f g j 0 k=pz f g j k:=by simp[qz]
theorem Gn(f g:Nat->Int)(j l k:Nat):qz f g j (l+1) k=if k=j+l then qz f g j l (j+l)+f j*g l else qz f g j l k:=by
 by_cases h:k=j+l
 ·subst h
  rw[if_pos rfl]
  unfold qz
  rw[if_pos (by walk_at"o"),if_neg (by walk_at"o"),show j+l - j=l by walk_at"o"]
  walk_at"o"
 ·rw[if_neg h]
  unfold qz
  by_cases h2:j<=k/\k - j<l
  ·rw[if_pos h2,if_pos (by walk_at"o")]
  ·rw[if_neg h2,if_neg (by walk_at"o")]
theorem Er{f g:Nat->Int}{n:Nat}(hg:∀ i,n<=i->g i=0)(j k:Nat):qz f g j n k=pz f g (j+1) k:=by
 show _=pz f g j k+if j<=k then f j*g (k - j) else 0
 unfold qz
 by_cases h:j<=k
 ·rw[if_pos h]
  by_cases h2:k - j<n
  ·rw[if_pos ⟨h,h2⟩]
  ·rw[if_neg (by walk_at"o"),hg _ (by walk_at"o"),Int.mul_zero]
 ·rw[if_neg h,if_neg (by walk_at"o")]
def qr(f g:Nat->Rat)(j l k:Nat):Rat:=pr f g j k+if j<=k/\k - j<l then f j*g (k - j) else 0
theorem Hs(f g:Nat->Rat)(j k:Nat):qr f g j 0 k=pr f g j k:=by
 unfold qr
 rw[if_neg (by walk_at"o")]
 grind
theorem Gu(f g:Nat->Rat)(j l k:Nat):qr f g j (l+1) k=if k=j+l then qr f g j l (j+l)+f j*g l else qr f g j l k:=by
 by_cases h:k=j+l
 ·subst h
  rw[if_pos rfl]
  unfold qr
  rw[if_pos (by walk_at"o"),if_neg (by walk_at"o"),show j+l - j=l by walk_at"o"]
  grind
 ·rw[if_neg h]
  unfold qr
  by_cases h2:j<=k/\k - j<l
  ·rw[if_pos h2,if_pos (by walk_at"o")]
  ·rw[if_neg h2,if_neg (by walk_at"o")]
theorem Fp{f g:Nat->Rat}{n:Nat}(hg:∀ i,n<=i->g i=0)(j k:Nat):qr f g j n k=pr f g (j+1) k:=by
 show _=pr f g j k+if j<=k then f j*g (k - j) else 0
 unfold qr
 by_cases h:j<=k
 ·rw[if_pos h]
  by_cases h2:k - j<n
  ·rw[if_pos ⟨h,h2⟩]
  ·rw[if_neg (by walk_at"o"),hg _ (by walk_at"o")]
   grind
 ·rw[if_neg h,if_neg (by walk_at"o")]
theorem gR{f g:Nat->Rat}{n:Nat}(hg:∀ i,n<=i->g i=0):∀ (j k:Nat),j+n<=k+1->pr f g j k=0
 | 0,k,_=>rfl
 | j+1,k,h=>by
  show pr f g j k+(if j<=k then f j*g (k - j) else 0)=0
  rw[gR hg j k (by walk_at"o")]
  by_cases h1:j<=k
  ·rw[if_pos h1,hg _ (by walk_at"o")]
   grind
  ·rw[if_neg h1]
   grind
def lz{α:Type}(n:Nat)(h:Nat->α):List α:=(List.range n).map h
theorem bH{α:Type}{n:Nat}{h:Nat->α}:(lz n h).length=n:=by simp[lz]
theorem dG{α:Type}{n:Nat}{h:Nat->α}{i:Nat}(hi:i<n):(lz n h)[i]? = some (h i):=by simp[lz,hi]
theorem iX{α:Type}{n:Nat}{h g:Nat->α}(e:∀ k,k<n->h k=g k):lz n h=lz n g:=by
 apply List.ext_getElem?
 intro i
 by_cases hi:i<n
 ·rw[dG hi,dG hi,e i hi]
 ·rw[List.getElem?_eq_none (by rw[bH];walk_at"o"),List.getElem?_eq_none (by rw[bH];walk_at"o")]
theorem yt{α:Type}{n:Nat}{h:Nat->α}{i:Nat}{v:α}:(lz n h).set i v=lz n fun k=>if k=i then v else h k:=by
 apply List.ext_getElem?
 intro k
 by_cases hk:k<n
 ·rw[dG hk]
  by_cases e:k=i
  ·subst e
   rw[List.getElem?_set_self (by rw[bH];exact hk),if_pos rfl]
  ·rw[List.getElem?_set_ne (Ne.symm e),dG hk,if_neg e]
 ·rw[List.getElem?_eq_none (by rw[List.length_set,bH];walk_at"o"),List.getElem?_eq_none (by rw[bH];walk_at"o")]
theorem sM{α β:Type}{n:Nat}{h:Nat->α}(f:α->β):(lz n h).map f=lz n fun k=>f (h k):=by simp[lz]
theorem Fa{α:Type}(n:Nat)(x:α):(List.replicate n [x]).flatten=lz n fun _=>x:=by
 induction n with
 | zero=>rfl
 | succ n ih =>
  apply List.ext_getElem?
  intro i
  rw[show (List.replicate (n+1) [x]).flatten=List.replicate (n+1) x by simp]
  by_cases hi:i<n+1
  ·rw[dG hi,List.getElem?_replicate_of_lt hi]
  ·rw[List.getElem?_eq_none (by simp;walk_at"o"),List.getElem?_eq_none (by rw[bH];walk_at"o")]
def nz(ns:List Int)(k:Nat):Int:=ns.getD k 0
theorem cM{ns:List Int}{k:Nat}{n:Int}(h:ns[k]? = some n):nz ns k=n:=by simp[nz,List.getD_eq_getElem?_getD,h]
theorem dg{ns:List Int}{k:Nat}(h:ns.length<=k):nz ns k=0:=by simp[nz,List.getD_eq_getElem?_getD,List.getElem?_eq_none h]
theorem jz{ns:List Int}{m:Nat}(h:∀ n ∈ ns,Bt m n)(k:Nat):Bt m (nz ns k):=by
 cases e:ns[k]? with
 | none=>rw[dg (List.getElem?_eq_none_iff.mp e)];exact j9
 | some n=>rw[cM e];exact h n (List.mem_of_getElem? e)
theorem xu{n k:Nat}{h:Nat->Int}(hk:k<n):nz (lz n h) k=h k:=cM (dG hk)
theorem fS{qs:List (Int × Int)}{ns:List Int}{D:Rat}(hl:ns.length=qs.length)(h:∀ (i:Nat)(n:Int)(q:Int × Int),ns[i]? = some n->qs[i]? = some q->(n:Rat)=wv q*D)(i:Nat):((nz ns i:Int):Rat)=cf qs i*D:=by
 by_cases hi:i<qs.length
 ·have e1:=List.getElem?_eq_getElem hi
  have e2:=List.getElem?_eq_getElem (show i<ns.length by walk_at"o")
  rw[cM e2,aZ e1]
  exact h i _ _ e2 e1
 ·rw[dg (by walk_at"o"),cz (by walk_at"o")]
  show ((0:Int):Rat)=0*D
  grind
theorem aG.set{H:Hp}:∀{ds:List D}{xs:List V}(i:Nat) {d:D}{x:V},aG H ds xs->aF H d x->aG H (ds.set i d) (xs.set i x)
 | [],xs,i,d,x,h,g=>by
  cases h.nil_at
  exact .mk_nil
 | d0 :: ds,xs,i,d,x,h,g=>by
  obtain⟨x0,r,rfl,h1,h2⟩:=h.cons_at
  cases i with
  | zero=>exact .mk_cons g h2
  | succ i=>exact .mk_cons h1 (h2.set i g)
theorem BJ{qs:List (Int × Int)}{i k:Nat}{q:Int × Int}(hi:i<qs.length):cf (qs.set i q) k=if k=i then wv q else cf qs k:=by
 by_cases h:k=i
 ·subst h
  rw[if_pos rfl,aZ (List.getElem?_set_self hi)]
 ·rw[if_neg h]
  unfold cf
  rw[List.getElem?_set_ne (Ne.symm h)]
theorem jm{n k:Nat}(h:k<n):uR n (k:Int)=some k:=by
 unfold uR
 simp
 walk_at"o"
end L2
namespace L2
open PySem PySem.Spec PyProof.Rows
theorem iY{X:Cx}:FG X (fun o i H Q=>∃ p k,o = .ref p/\i = .int k /\ ∃ xs,vw X.K H p=some (.lst xs) /\ ∃ v,nN xs k=some v/\Q v H):=by
 intro pins s σ H x y v u Q I rx ry h
 obtain⟨p,k,rfl,rfl,xs,hx,z,he,q⟩:=h
 cases rx
 obtain⟨t,rfl⟩:=ry
 obtain⟨its,r,pl,hz⟩:=I.list (jQ.of (K:=X.K) (aN hx))
 obtain⟨j,h1,h2,h3,h4,h5⟩:=sQ he
 obtain⟨w,ew,rw'⟩:=r.get h2
 have hl:=r.length
 have hn:=mW
 have fin:EP X pins σ Q w s:=⟨z,H,I,rw',q⟩
 by_cases h0:0<=k
 ·have hj:k.toNat=j:=by
   rw[seqIndex_of h0 h5] at h1
   exact Option.some.inj h1
  exact wpAny_getItem_list pl.isList h0 (by walk_at"o") (by rw[hj];simpa using ew) fin
 ·have hj:(k+(its.toArray.size:Int)).toNat=j:=by
   rw[seqIndex_neg (by walk_at"o") h4] at h1
   rw[List.size_toArray,<- hl]
   exact Option.some.inj h1
  exact wpAny_getItem_list_neg pl.isList (by walk_at"o") (by rw[List.size_toArray] <;> walk_at"o") (by walk_at"o") (by rw[hj];simpa using ew) fin
theorem jR{K:W.Frag}{H:Hp}{p:Addr}{xs:List V}(h:vw K H p=some (.lst xs)):sV K (.ref p) H (!xs.isEmpty):=.inl ⟨xs,.of (aN h),rfl⟩
end L2
namespace L2
open PySem PySem.Spec PyProof.Rows
theorem aC.none{G G':Hp}{c:Addr}(S:aC G G')(h:G' c=none):G c=none:=by
 cases e:G c with
 | none=>rfl
 | some o=>rw[S _ _ e] at h;cases h
theorem pk:Fq (0,1):=⟨by decide,by decide⟩
theorem FR{n:Nat}(h:1<=n):Bq n (0,1):=Bq.mono (m:=1) (q:=(0,1)) ⟨by decide,by decide⟩ h
theorem lU:wv (0,1)=0:=(iO (q:=(0,1)) (by decide)).mpr rfl
theorem lJ{α:Type}(n:Nat)(x:α):(List.replicate n [x]).flatten=List.replicate n x:=by simp
theorem oz{α β:Type}(f:α->β)(n:Nat)(x:α):(List.replicate n x).map f=List.replicate n (f x):=by simp
theorem AL{qs:List (Int × Int)}{n:Nat}(hF:∀ q ∈ qs,Fq q)(hz:∀ q,(qs.take n).getLast? = some q->q.1 ≠ 0):aR (qs.take n):=⟨fun q hq=>hF q (List.mem_of_mem_take hq),hz⟩
theorem aP.chg{G G':Hp}{e:Addr}{qs:List (Int × Int)}{xs:List V}{i:Nat}{q:Int × Int}{v:V}(h:G e=some (.lst xs))(r:aG G (qs.map fr) xs)(rv:aF G (fr q) v)(B:fh e G G')(h':G' e=some (.lst (xs.set i v))):aP G' e (qs.set i q):=by
 refine⟨_,h',?_⟩
 have r':=aG.flat_but h B _ _ (cP qs) r
 have:=r'.set i (aF.flat_but h B _ _ (ce q) rv)
 rw[List.map_set]
 exact this
end L2
namespace L2
open PySem PySem.Spec PyProof.Rows
theorem FY(q:Int × Int):(fr q).py = .tuple [.int q.1,.int q.2]:=by
 unfold fr
 simp only[D.py,D.pys]
theorem uO:∀(qs:List (Int × Int)),PyData.canLayAll0 (D.pys (qs.map fr))=true/\PyData.depthAll (D.pys (qs.map fr))<=4
 | []=>by
  simp only[List.map_nil,D.pys]
  exact⟨rfl,by simp[PyData.depthAll]⟩
 | c :: cs=>by
  obtain⟨h1,h2⟩:=uO cs
  simp only[List.map_cons,D.pys,FY,PyData.canLayAll0,PyData.canLay0,h1,PyData.depthAll,PyData.depth]
  refine⟨by decide,?_⟩
  walk_at"o"
theorem Cq(fs:List (Int × Int)):(D.lst (fs.map fr)).cmp:=by
 obtain⟨h1,h2⟩:=uO fs
 unfold D.cmp
 simp only[D.py,PyData.canLay0,PyData.depth]
 exact⟨h1,by walk_at"o"⟩
end L2
namespace L2
open PySem PySem.Spec PyProof.Rows
theorem xF{α:Type}{l:List α}(h:l ≠ []):∃ x,l.getLast? = some x:=by
 cases e:l.getLast? with
 | none=>exact absurd (List.getLast?_eq_none_iff.mp e) h
 | some x=>exact⟨x,rfl⟩
end L2
namespace L2
open PySem PySem.Spec PyProof.Rows
section
variable {X:Cx}{pins:List (Addr × Obj)}{σ:St}{H H':Hp}{s s':Shared}
end
end L2
namespace L2
open PySem PySem.Spec PyProof.Rows
section
variable {P:Program}{w:World}{K:W.Frag}{mg:Str->Option Value}{base:Heap}{N:List Str}{qual:Str}{scope:Scope}{f:Addr}{cd:Value}{A:Around}{outer:List Env}{s₀:Shared}{H₀:Hp}{E:XK}{C:Addr}
end
end L2
namespace L2
open PySem PySem.Spec PySem.Calls PyProof.Rows PySem.W PySem.Builtin PySem.Builtin.ObjectAttr PySem.Builtin.Getset_descriptor
section
variable {prog:Program}{w:World}{A:Around}{E:Value->Shared->Prop}{K:Frag}{x C:Addr}{ob:Obj}{hh:Heap}{g:Array GenState}{d:Drawn}{t:Nat}{os:OsState}
end
end L2
namespace L2
open PySem PySem.Spec PyProof.Rows
section
variable {X:Cx}{pins:List (Addr × Obj)}{σ:St}{H H':Hp}{s s':Shared}
end
end L2
namespace L2
open PySem PySem.Spec PyProof.Rows
section
variable {X:Cx}
end
end L2
namespace L2
open PySem PySem.Spec PyProof.Rows
end L2
namespace L2
open PySem PySem.Spec PyProof.Rows
end L2
namespace L2
open PySem PySem.Spec PyProof.Rows
end L2
namespace L2
open PySem PySem.Spec PyProof.Rows
end L2
namespace L2
open PySem PySem.Spec PyProof.Rows
end L2
namespace L2
open PySem PySem.Spec PyProof.Rows
end L2
namespace L2
open PySem PySem.Spec PyProof.Rows
section
variable {P:Program}{w:World}{K:W.Frag}{mg:Str->Option Value}{base:Heap}
end
section
variable {X:Cx}
end
end L2
namespace L2
open PySem PySem.Spec PyProof.Rows
def vb(mg:Str->Option Value)(base:Heap):Prop:=∃ bm o,mg "__builtins__" = some (.ref bm)/\bm ≠ builtinsNs/\bm ≠ mainGlobals/\base.get? bm=some o/\o.cls = .type "module" /\ o.dict=some builtinsNs/\o.data = .plain
def Gk(ts:List (Addr × Addr))(H:Hp):Prop:=∀ b,H b=none\/(∃ o xs,H b=some (.frz o (.lst xs)))\/(H b=some (.tbl #[]) /\ ∃ q ∈ ts,q.2=b)
theorem xI{P:Program}{w:World}{K:W.Frag}{mg mb:Str->Option Value}{CX:yk}{k:Nat}{fa a:Addr}{fd:FuncData}{x:Str}{sp:Sp}{s₁:Shared}{vs:List Value}{ns:List Int}{ts:List (Addr × Addr)}
  (KX:K.In s₁.heap)(hns:s₁.heap.Ns mainGlobals mg)(hb:s₁.heap.Ns builtinsNs mb)(hbb:∀ x:Str,x ≠ "__name__" -> mb x=bootBuiltins x) (hlim:s₁.heap.NoLimit)(hg:s₁.gens = #[])
  (ha:s₁.heap.get? a=some { cls:=.type "list",data:=.seq vs.toArray }) (hi:IntsAre vs ns)(hl:ns.length<=sizeLine)(hr:gy k callerA)(hT:∀ q ∈ ts,PySem.W.codeHdIn K q.1 q.2=true/\K.lookup q.2=none/\s₁.heap.get? q.2=some (PySem.W.tabObj #[]))
  (hB:vb mg s₁.heap)(hSr:s₁.heap.NoSeer)(F:∀ base:Heap,K.In base->base.Ns mainGlobals mg->vb mg base->base.NoSeer->bU P w K mg base CX k fa fd [x] sp)(hbind:∀ (s:Shared)(u:Value),BindsTo s fd ⟨[u],[]⟩ [(x,u)])
  (hsp:∀ H:Hp,(∀ q ∈ ts,vw K H q.2=some (.tbl #[]))->(H a ≠ none->K.lookup a=none)->jQ K H a (ns.map V.int)->sp [.ref a] H (fun v _=>v = .bl true) fun _ _ _=>False)
  (hCX:∀ H e s',CX [] H s₁ (fun _ _ _=>False) e s'->False) :
  codeAny (model P w) callerA (.call (.ref fa) ⟨[.ref a],[]⟩) (fun r s'=>r = .ok (.ret (.bool true))/\OldK s₁.heap s'.heap/\s'.os=s₁.os/\AllBare s'.gens) s₁:=by
 have rv:=qY hi
 have lenV:=hi.length
 have na:∀ q ∈ ts,q.2 ≠ a:=fun q hq z=>by
  have:=(hT q hq).2.2
  rw[z,ha] at this
  cases this
 have core:∀ H:Hp,Gk ts H->(∀ q ∈ ts,H q.2=some (.tbl #[]))->jQ K H a (ns.map V.int)->ow P w H s₁.heap->(∀ b,H b ≠ none->b=a \/ ∃ q ∈ ts,q.2=b)->(H a ≠ none->K.lookup a=none) ->
   codeAny (model P w) callerA (.call (.ref fa) ⟨[.ref a],[]⟩) (fun r s'=>r = .ok (.ret (.bool true))/\OldK s₁.heap s'.heap/\s'.os=s₁.os/\AllBare s'.gens) s₁:=by
  intro H hO hTT hS hok hA hK
  have base_of:∀ {b:Addr}{o:Obj},s₁.heap.get? b=some o->H b=none->(oW s₁.heap H).get? b=some o:=fun e n=>yw e n
  have noA:∀ {b:Addr}{o:Obj}{es:Array DictEntry}{ep:Nat},s₁.heap.get? b=some o->o.data = .dict es ep->H b=none:=fun {b o es ep} e d=>by
   cases q:H b with
   | none=>rfl
   | some u =>
    rcases hA b (by rw[q];simp) with e'|⟨y,hy,e'⟩
    ·subst e'
     rw[ha] at e;cases e
     have d':Data.seq vs.toArray _=Data.dict es ep:=d
     cases d'
    ·subst e'
     rw[(hT y hy).2.2] at e;cases e
     have d':Data.fields (#[]:Array Value)=Data.dict es ep:=d
     cases d'
  have nsK:∀ {b:Addr}{m:Str->Option Value},s₁.heap.Ns b m->(oW s₁.heap H).Ns b m:=fun {b m} ⟨o,es,ep,e,d,r⟩=>⟨o,es,ep,base_of e (noA e d),d,r⟩
  have hKb:K.In (oW s₁.heap H):=fun b o e=>base_of (KX b o e) (by
   cases q:H b with
   | none=>rfl
   | some u =>
    rcases hA b (by rw[q];simp) with e'|⟨y,hy,e'⟩
    ·subst e'
     rw[hK (by rw[q];simp)] at e;cases e
    ·subst e'
     rw[(hT y hy).2.1] at e;cases e)
  have hM:Mod K mg (oW s₁.heap H):=⟨hKb,nsK hns,⟨mb,nsK hb,hbb⟩,let ⟨mc,h1,h2⟩:=hlim;⟨mc,nsK h1,h2⟩⟩
  have e0:BK P w K mg (oW s₁.heap H) callerA [] s₁ H:=⟨rfl,hM,fun b o e=>CZ e,Nat.le_of_eq (xY _ _),trivial,fun b hb=>absurd (show b ∈ ([]:List Addr) from hb) (by simp),hok,.of_eq hg⟩
  have hBb:vb mg (oW s₁.heap H):=by
   obtain⟨bm,ob,b1,b2,b3,b4,b5,b6,b7⟩:=hB
   refine⟨bm,ob,b1,b2,b3,base_of b4 ?_,b5,b6,b7⟩
   cases q:H bm with
   | none=>rfl
   | some u =>
    rcases hA bm (by rw[q];simp) with e'|⟨y,hy,e'⟩
    ·rw[e',ha] at b4;cases b4;simp at b5
    ·rw[<- e',(hT y hy).2.2] at b4;cases b4;cases b5
  have hSb:(oW s₁.heap H).NoSeer:=by
   refine⟨let ⟨mc,a,b⟩:=hSr.statics;⟨mc,nsK a,b⟩,let ⟨mm,a,b⟩:=hSr.mods;⟨mm,nsK a,b⟩,let ⟨mb,a,b⟩:=hSr.imp;⟨mb,nsK a,b⟩,?_⟩
   obtain⟨mg',bm,ob,b1,b2,b4,b5,b6⟩:=hSr.main
   refine⟨mg',bm,ob,nsK b1,b2,base_of b4 ?_,b5,b6⟩
   cases q:H bm with
   | none=>rfl
   | some u =>
    rcases hA bm (by rw[q];simp) with e'|⟨y,hy,e'⟩
    ·rw[e',ha] at b4;cases b4;simp at b5
    ·rw[<- e',(hT y hy).2.2] at b4;cases b4;cases b5
  refine codeAny_mono ((F _ hKb (nsK hns) hBb hSb).run callerA [] s₁ H ⟨[.ref a],[]⟩ [.ref a] [.ref a] _ _ hr e0 (hbind s₁ (.ref a)) (.cons rfl .nil) (hsp H (fun q hq=>(fe (hT q hq).2.1).trans (hTT q hq)) hK hS)) fun r s' h=>?_
  cases r with
  | error e=>exact (hCX H e s' h).elim
  | ok fl =>
   cases fl with
   | next=>exact False.elim h
   | brk=>exact False.elim h
   | cont=>exact False.elim h
   | ret u =>
    obtain⟨v,H',os,bare,un,hok',r',q⟩:=h
    have q':v = .bl true:=q
    subst q'
    obtain rfl:u=Value.bool true:=r'
    have key:∀ b o,s₁.heap.get? b=some o->s'.heap.get? b=some o\/((∃ y ∈ ts,y.2=b)/\o=PySem.W.tabObj #[] /\ ∃ more,s'.heap.get? b=some (PySem.W.tabObj more)):=fun b o e=>by
     cases q:H b with
     | none=>exact .inl (un.keep b o e q (by intro z;exact absurd (show b ∈ ([]:List Addr) from z) (by simp)) (by simp))
     | some u =>
      rcases hO b with z|⟨ob,xs,z⟩|⟨z,y,hy,e'⟩
      ·rw[q] at z;cases z
      ·have z2:=un.frzs b ob _ z
       obtain⟨e1,_⟩:=hok b _ z
       obtain⟨e2,_⟩:=hok' b _ z2
       rw[e] at e1;cases e1
       exact .inl e2
      ·obtain⟨more,z2⟩:=un.tbls b #[] z
       have e1:s₁.heap.get? b=some (PySem.W.tabObj #[]):=hok b _ z
       have e2:s'.heap.get? b=some (PySem.W.tabObj (#[] ++ more)):=hok' b _ z2
       rw[e] at e1;cases e1
       exact .inr ⟨⟨y,hy,e'⟩,rfl,_,e2⟩
    refine⟨rfl,⟨fun b o e=>?_,fun b o e=>?_⟩,os,bare⟩
    ·rcases key b o e with z|⟨⟨y,hy,e'⟩,z1,more,z2⟩
     ·exact .inl z
     ·subst z1 e'
      have cd:=PySem.W.codeHd_of_K KX (hT y hy).1
      exact .inr (.inl ⟨(cd.tab (hT y hy).2.2).isCodeTable,rfl,#[],more,rfl,by rw[z2];simp⟩)
    ·rcases key b o e with z|⟨_,_,more,z2⟩
     ·exact⟨o,z⟩
     ·exact⟨_,z2⟩
 have dec:∀ b,Decidable (∃ q ∈ ts,q.2=b):=fun b=>Classical.propDecidable _
 have tabH:∀ q ∈ ts,fc P w (fun _=>none) s₁.heap q.2 (.tbl #[]):=fun q hq=>(hT q hq).2.2
 cases hk:K.lookup a with
 | some o =>
  have e:=KX a o hk
  rw[ha] at e
  cases e
  refine core (fun b=>@ite _ (∃ q ∈ ts,q.2=b) (dec b) (some (.tbl #[])) none) (fun b=>?_) (fun q hq=>if_pos ⟨q,hq,rfl⟩) (.inr ⟨_,vs.toArray,_,hk,rfl,rfl,rfl,by rw[List.size_toArray,lenV];exact hl,by simpa using rv⟩) (fun b u z=>?_) (fun b z=>?_) fun z=>?_
  ·by_cases hb:∃ q ∈ ts,q.2=b
   ·exact .inr (.inr ⟨if_pos hb,hb⟩)
   ·exact .inl (if_neg hb)
  ·by_cases hb:∃ q ∈ ts,q.2=b
   ·have z':=(if_pos hb).symm.trans z
    cases z'
    obtain⟨q,hq,rfl⟩:=hb
    exact (hT q hq).2.2
   ·have z':=(if_neg hb).symm.trans z
    cases z'
  ·by_cases hb:∃ q ∈ ts,q.2=b
   ·exact .inr hb
   ·exact absurd (if_neg hb) z
  ·have:¬ ∃ q ∈ ts,q.2=a:=fun ⟨q,hq,e⟩=>na q hq e
   exact absurd (if_neg this) z
 | none =>
  have ia:¬ ∃ q ∈ ts,q.2=a:=fun ⟨q,hq,e⟩=>na q hq e
  refine core (fun b=>if b=a then some (.frz { cls:=.type "list",data:=.seq vs.toArray } (.lst (ns.map V.int))) else @ite _ (∃ q ∈ ts,q.2=b) (dec b) (some (.tbl #[])) none) (fun b=>?_) (fun q hq=>?_) (.inl (.inr ⟨{ cls:=.type "list",data:=.seq vs.toArray },if_pos rfl⟩)) (fun b u z=>?_) (fun b z=>?_) fun _=>hk
  ·by_cases hb:b=a
   ·exact .inr (.inl ⟨_,_,if_pos hb⟩)
   ·by_cases hb2:∃ q ∈ ts,q.2=b
    ·exact .inr (.inr ⟨(if_neg hb).trans (if_pos hb2),hb2⟩)
    ·exact .inl ((if_neg hb).trans (if_neg hb2))
  ·exact (if_neg (na q hq)).trans (if_pos ⟨q,hq,rfl⟩)
  ·by_cases hb:b=a
   ·have z':=(if_pos hb).symm.trans z
    cases z'
    subst hb
    exact⟨ha,by rw[List.length_map];exact hl,vs,_,rv,ha⟩
   ·by_cases hb2:∃ q ∈ ts,q.2=b
    ·have z':=((if_neg hb).trans (if_pos hb2)).symm.trans z
     cases z'
     obtain⟨q,hq,rfl⟩:=hb2
     exact (hT q hq).2.2
    ·have z':=((if_neg hb).trans (if_neg hb2)).symm.trans z
     cases z'
  ·by_cases hb:b=a
   ·exact .inl hb
   ·by_cases hb2:∃ q ∈ ts,q.2=b
    ·exact .inr hb2
    ·exact absurd ((if_neg hb).trans (if_neg hb2)) z
theorem walk_ofM{l:PySem.W.OpenLaw}{n k:Nat}{q:Program}{loose:List Str}{XP:(Str->Option Value)->Heap->Prop}{YP:World->Heap->Prop}{d:DefRec}{K:Params->W.Frag}{CX:World->yk}{sp:World->Sp}{x:Str}(ts:World->List (Addr × Addr))
  (hn:l.most=some n)(hn2:n<=sizeLine)(hdf:d.params.defaults=[])(hr:gy k callerA)(hi:importsNone q=true)
  (hY:∀ (w:World)(h:Heap),YP w h->(K w.params).In h /\ ∀ q ∈ ts w,PySem.W.codeHdIn (K w.params) q.1 q.2=true/\(K w.params).lookup q.2=none/\h.get? q.2=some (PySem.W.tabObj #[]))
  (F:∀ (w:World)(mg:Str->Option Value)(fa:Addr)(h:Heap),(K w.params).In h->h.Ns mainGlobals mg->mg d.name=some (.ref fa) ->
   ∃ fd:FuncData,(∀ (s:Shared)(u:Value),BindsTo s fd ⟨[u],[]⟩ [(x,u)]) /\
    ∀ base:Heap,(K w.params).In base->base.Ns mainGlobals mg->vb mg base->base.NoSeer->bU l.prog w (K w.params) mg base (CX w) k fa fd [x] (sp w))
  (hsp:∀ (w:World)(H:Hp)(a:Addr)(ns:List Int),ns.length<=n->(∀ q ∈ ts w,vw (K w.params) H q.2=some (.tbl #[]))->(H a ≠ none->(K w.params).lookup a=none)->jQ (K w.params) H a (ns.map V.int)->sp w [.ref a] H (fun v _=>v = .bl true) fun _ _ _=>False)
  (hCX:∀ (w:World)(H:Hp)(s:Shared)(e:Value)(s':Shared),CX w [] H s (fun _ _ _=>False) e s'->False) :
  PySem.W.WalkO q loose XP YP l.row.toRowW d [] (fun f vs=>PySem.call f vs):=by
 refine Att.attach_call hn hdf fun w s₀ s₁ mg mb fa o pm cd doc a vs ns G Y ho hd hcd hmg hobj hints hlen hg=>?_
 obtain⟨KX,hT⟩:=hY w _ Y
 obtain⟨fd,hb,hF⟩:=F w mg fa _ KX G.T.g hmg
 have hB:vb mg s₁.heap:=by
  obtain⟨bm,ob,b1,b2,b3,b4,b5,b6⟩:=G.T.bmain
  refine⟨bm,ob,b1,b2,fun z=>?_,b3,b4,b5,b6⟩
  obtain⟨o,es,ep,e,hd',_⟩:=G.T.g
  rw[z,e] at b3;cases b3;rw[hd'] at b6;cases b6
 exact xI KX G.T.g G.T.b G.T.builtins G.T.nolimit hg hobj hints (Nat.le_trans hlen hn2) hr hT hB (G.T.seer hi) hF hb (fun H hTT hK hS=>hsp w H a ns hlen hTT hK hS) fun H e s'=>hCX w H s₁ e s'
section
variable {P:Program}{w:World}{K:W.Frag}{mg:Str->Option Value}{base:Heap}
end
end L2
namespace L2
open PySem PySem.Spec PyProof.Rows
end L2
namespace L2
open PySem PySem.Spec PyProof.Rows
end L2
namespace L2
open PySem PySem.Spec PyProof.Rows
theorem fh.of{P:Addr}{G G':Hp}(S:aC G G'):fh P G G':=fun b o _ e=>S b o e
end L2
namespace L2
open PySem PySem.Spec PyProof.Rows
end L2
namespace L2
open PySem PySem.Spec PyProof.Rows
section
variable {P:Program}{w:World}{K:W.Frag}{mg:Str->Option Value}{base:Heap}
end
theorem fh.none{G G':Hp}{st a:Addr}(B:fh st G G')(hst:dC G' st)(h:G' a=Option.none):G a=Option.none:=by
 cases e:G a with
 | none=>rfl
 | some o =>
  rw[B a o (hst.ne h) e] at h
  cases h
def bZ(f g:Nat->Rat):Nat->Rat
 | 0=>0
 | n+1=>bZ f g n+f n*g n
theorem Ai{f g:Nat->Int}{F G:Nat->Rat}{c d:Rat}(hf:∀ i,(f i:Rat)=F i*c)(hg:∀ i,(g i:Rat)=G i*d):∀ n,((lB (lz n fun i=>f i*g i):Int):Rat)=bZ F G n*(c*d)
 | 0=>by
  show ((0:Int):Rat)=0*(c*d)
  have:((0:Int):Rat)=0:=rfl
  rw[this]
  grind
 | n+1=>by
  have e:lz (n+1) (fun i=>f i*g i)=lz n (fun i=>f i*g i) ++ [f n*g n]:=by simp[lz,List.range_succ]
  rw[e,oS]
  have e2:lB [f n*g n]=f n*g n:=by simp[lB]
  rw[e2,Rat.intCast_add,Rat.intCast_mul,Ai hf hg n,hf n,hg n]
  show _=(bZ F G n+F n*G n)*(c*d)
  grind
theorem fD{f g f' g':Nat->Rat}:∀ n,(∀ i,i<n->f i=f' i)->(∀ i,i<n->g i=g' i)->bZ f g n=bZ f' g' n
 | 0,_,_=>rfl
 | n+1,h1,h2=>by
  show bZ f g n+f n*g n=bZ f' g' n+f' n*g' n
  rw[fD n (fun i hi=>h1 i (by walk_at"o")) (fun i hi=>h2 i (by walk_at"o")),h1 n (by walk_at"o"),h2 n (by walk_at"o")]
theorem As{qs:List (Int × Int)}{n k:Nat}(h:k<n):cf (qs.take n) k=cf qs k:=by
 unfold cf
 rw[List.getElem?_take,if_pos h]
def Sx(b:Nat)(q:Int × Int):Prop:=∃ n:Int,wv q=(n:Rat) / 6/\n.natAbs<=b
theorem Sx.mono{a b:Nat}{q:Int × Int}(h:Sx a q)(hl:a<=b):Sx b q:=by
 obtain⟨n,h1,h2⟩:=h
 exact⟨n,h1,by walk_at"o"⟩
theorem Sx.add{a b:Nat}{p q:Int × Int}(hp:p.2 ≠ 0)(hq:q.2 ≠ 0)(h1:Sx a p)(h2:Sx b q):Sx (a+b) (oH p q):=by
 obtain⟨m,e1,l1⟩:=h1
 obtain⟨n,e2,l2⟩:=h2
 refine⟨m+n,?_,by walk_at"o"⟩
 rw[mQ hp hq,e1,e2,Rat.intCast_add]
 grind
theorem Sx.lo{a z:Int}{b:Nat}(h0:0<=z)(h3:z<3)(ha:6*a.natAbs<=b):Sx b (lo a (1+z)):=by
 have hz:1+z ≠ 0:=by walk_at"o"
 have c1:((1:Int):Rat)=1:=rfl
 have c2:((2:Int):Rat)=2:=rfl
 have c3:((3:Int):Rat)=3:=rfl
 have c6:((6:Int):Rat)=6:=rfl
 rcases (show z=0\/z=1\/z=2 by walk_at"o") with rfl|rfl|rfl
 ·refine⟨6*a,?_,by walk_at"o"⟩
  rw[iQ hz,show (1:Int)+0=1 from rfl,Rat.intCast_mul,c1,c6]
  grind
 ·refine⟨3*a,?_,by walk_at"o"⟩
  rw[iQ hz,show (1:Int)+1=2 from rfl,Rat.intCast_mul,c2,c3]
  grind
 ·refine⟨2*a,?_,by walk_at"o"⟩
  rw[iQ hz,show (1:Int)+2=3 from rfl,Rat.intCast_mul,c2,c3]
  grind
def mv:Nat->Int
 | 0=>6
 | k+1=>mv k*6
theorem ml:∀ k,0<mv k
 | 0=>by decide
 | k+1=>by show 0<mv k*6;have:=ml k;walk_at"o"
theorem rV:∀ k,Bt (3*(k+1)) (mv k)
 | 0=>by decide
 | k+1=>by
  have h:=(rV k).mul (show Bt 3 6 by decide)
  exact h.mono (by walk_at"o")
def xD:Nat->Nat
 | 0=>1
 | k+1=>xD k*512
theorem uV:∀ k,xD k=2 ^ (9*k)
 | 0=>rfl
 | k+1=>by
  show xD k*512=_
  rw[uV k,show 9*(k+1)=9*k+9 by walk_at"o",Nat.pow_add]
theorem wN{s w:Int × Int}{b:Nat}(hs:Sx 300 s)(hw:Sx b w):∀ k,∃ n:Int,wv w*de (wv s) k=(n:Rat) / (mv k:Rat)/\n.natAbs<=b*xD k
 | 0=>by
  obtain⟨n,e,l⟩:=hw
  refine⟨n,?_,by simpa [xD] using l⟩
  show wv w*1=(n:Rat) / ((6:Int):Rat)
  have c6:((6:Int):Rat)=6:=rfl
  rw[e,c6]
  grind
 | k+1=>by
  obtain⟨n,e,l⟩:=wN hs hw k
  obtain⟨m,e2,l2⟩:=hs
  refine⟨n*m,?_,?_⟩
  ·rw[ku]
   have h6:(mv k:Rat) ≠ 0:=aD (by have:=ml k;walk_at"o")
   have c6:((6:Int):Rat)=6:=rfl
   show _=_ / ((mv k*6:Int):Rat)
   rw[e2] at e
   rw[Rat.intCast_mul,Rat.intCast_mul,c6,e2]
   have:wv w*(de ((m:Rat) / 6) k*((m:Rat) / 6))=(wv w*de ((m:Rat) / 6) k)*((m:Rat) / 6):=by grind
   rw[this,e]
   grind
  ·rw[Int.natAbs_mul]
   show _<=b*(xD k*512)
   rw[<- Nat.mul_assoc]
   exact Nat.mul_le_mul l (by walk_at"o")
theorem sy{k:Nat}:∀{cs:List sR},(∀ c ∈ cs,Sx 300 c.1/\Sx 36 c.2) -> ∃ n:Int,qg cs k=(n:Rat) / (mv k:Rat)/\n.natAbs<=cs.length*(36*xD k)
 | [],_=>⟨0,by
   show (0:Rat)=((0:Int):Rat) / _
   have c0:((0:Int):Rat)=0:=rfl
   rw[c0]
   grind,by simp⟩
 | c :: cs,h=>by
  obtain⟨n,e1,l1⟩:=sy (k:=k) (cs:=cs) fun d hd=>h d (by simp[hd])
  obtain⟨h1,h2⟩:=h c (by simp)
  obtain⟨m,e2,l2⟩:=wN h1 h2 k
  refine⟨m+n,?_,?_⟩
  ·show wv c.2*de (wv c.1) k+qg cs k=_
   rw[e1,e2,Rat.intCast_add]
   have h6:(mv k:Rat) ≠ 0:=aD (by have:=ml k;walk_at"o")
   grind
  ·rw[List.length_cons,Nat.add_mul]
   walk_at"o"
theorem D7{cs:List sR}{k:Nat}{q:Int × Int}(h:∀ c ∈ cs,Sx 300 c.1/\Sx 36 c.2)(hl:cs.length<=6)(hk:k<=12)(hq:Fq q)(e:wv q=qg cs k):Bq 120 q:=by
 obtain⟨n,e1,l1⟩:=sy (k:=k) h
 have h6:mv k ≠ 0:=by have:=ml k;walk_at"o"
 have:q=lo n (mv k):=kR hq (iS h6) (by rw[iQ h6,e,e1])
 rw[this]
 refine nL h6 (Bt.mono (m:=9*k+8) ?_ (by walk_at"o")) ((rV k).mono (by walk_at"o"))
 unfold Bt
 have l3:cs.length*(36*xD k)<=6*(36*xD k):=Nat.mul_le_mul_right _ hl
 have l4:=uV k
 rw[Nat.pow_add,<- l4,show (2:Nat) ^ 8=256 from rfl]
 have:0<xD k:=by rw[l4];exact Nat.two_pow_pos _
 walk_at"o"
end L2
namespace L2
open PySem PySem.Spec PyProof.Rows
theorem aW.gen{t u:TS}{D:m4}{σ:St}{H:Hp}(h:∀ N:St->Hp->Prop,(∀ σ' H',u D σ' H'->N σ' H')->t { D with nx:=N } σ H):aW t u D σ H:=h (u D) fun _ _ z=>z
end L2
namespace L2
open PySem PySem.Spec PyProof.Rows
theorem lj(a b:Int):Builtin.Range.rangeSize a b (-1)=if b<a then a - b else 0:=by
 unfold Builtin.Range.rangeSize
 simp only[show ¬ ((-1:Int) > 0) by decide,if_false,Int.neg_neg,Int.ediv_one]
 split <;> (try split) <;> walk_at"o"
theorem zQ{a b:Int}(ha : -(2 ^ 61)<=a)(ha':a<2 ^ 61)(hb : -(2 ^ 61)<=b)(hb':b<2 ^ 61):Builtin.Range.small a b (-1)=true:=by
 unfold Builtin.Range.small
 rw[lj]
 simp only[Builtin.Range.rangeFitsLong,Bool.and_eq_true,Bool.or_eq_true,decide_eq_true_eq,beq_iff_eq,show ¬ ((-1:Int) > 0) by decide,if_false]
 split <;> walk_at"o"
def Hv(lo:Int)(n:Nat):It:=⟨fun i _=>i<n,fun i H x H'=>H'=H/\x = .int (lo - i),fun i _=>n<=i⟩
theorem B0{P:Program}{w:World}{K:W.Frag}{tg:Expr}(it:Addr)(lo:Int)(n:Nat):vm P w K tg (Hv lo n) [it] it (fun j hp=>IsRangeIter hp it (lo+(j:Nat)*(-1)) ((n:Int) - (j:Nat)) (-1)) where
 mem:=List.mem_singleton.mpr rfl
 obj:=fun j hp st b hb=>by
  cases List.mem_singleton.mp hb
  refine⟨_,st,fun v z=>?_⟩
  exact Data.noConfusion (show Data.fields _=Data.cell v from z)
 keep:=fun _ _ _ st k=>k it (List.mem_singleton.mpr rfl) _ st
 item:=by
  intro Y hP hw hK hc j pins s σ H E J hf st hg
  subst hP hw hK
  obtain⟨g0,g1,g2,g3,g4,g5⟩:=hf it (List.mem_singleton.mpr rfl)
  refine (Walks.range (prog:=Y.prog) (w:=Y.w) (J.ok.hd hc) it lo (-1) n).item j s _ _ hg st fun v hp tk hv st1 kk=>?_
  obtain⟨t,rfl⟩:=hv
  have J1:aT Y pins σ H { s with heap:=hp,toks:=tk }:=J.turned (fun b o hb e=>kk b o (fun z=>hb (List.mem_singleton.mp z)) e) g0 g1 g3 g4 g5
  refine⟨_,rfl,wo (s:={ s with heap:=hp,toks:=tk }) (n:="range_iterator") st1 rfl rfl (by decide) ⟨.int (lo - j),H,J1,⟨t,?_⟩,⟨rfl,rfl⟩,st1,fun b hb=>(hf b hb).1⟩⟩
  rw[show lo+(j:Nat)*(-1)=lo - (j:Int) by walk_at"o"]
 done:=by
  intro Y hP hw hK hc j pins s σ H E J hf st hg
  subst hP hw hK
  obtain⟨g0,g1,g2,g3,g4,g5⟩:=hf it (List.mem_singleton.mpr rfl)
  have hj:n<=j:=hg
  exact wpAny_pyNext_range_end (J.ok.hd hc) st (by walk_at"o") fun hp eb=>⟨rfl,J.turned (t':=s.toks) (fun b o hb e=>eb b o hb e) g0 g1 g3 g4 g5⟩
 self:=fun _ _ _ _ _ st h=>wpAny_pyIter_rangeiter st h
section
variable {X:Cx}{tg:Expr}
def Aw(ta:TA):TI:=fun σ H R=>ta σ H fun vs H1=>∃ i j:Int,vs=[.int i,.int j,.int (-1)]/\(-(2 ^ 61)<=i/\i<2 ^ 61 /\ -(2 ^ 61)<=j/\j<2 ^ 61)/\R (Hv i (i - j).toNat) H1
theorem yf{a b c:Expr}{ta:TA}{p pos:Pos}(hg:Gl X "range") (hm:X.mg "range" = none) (ha:PA X [a,b,c] ta)(hs:starEach [a,b,c] X.env=[(false,eval a X.env),(false,eval b X.env),(false,eval c X.env)]:=by rfl)
  (hs2:starEach [b,c] X.env=[(false,eval b X.env),(false,eval c X.env)]:=by rfl):PI X tg (.Call (.Name "range" p) [a,b,c] [] pos) (Aw ta):=by
 intro pins s σ H R I h
 refine Call_ (jG I hg hm boot_range (PyProof.Rows.callWith_type1 (dE (ha pos pins s σ H _ I h) fun us s1 ⟨vs,H1,I1,r1,q1⟩=>?_) (by rw[hs,hs2]) (by rw[hs2];rfl)))
 obtain⟨i,j,e,⟨q1,q2,q3,q4⟩,q⟩:=q1
 subst e
 cases r1 with
 | cons ri rr =>
  cases rr with
  | cons rj rr =>
   cases rr with
   | cons rk rr =>
    cases rr
    obtain⟨t1,rfl⟩:=ri
    obtain⟨t2,rfl⟩:=rj
    obtain⟨t3,rfl⟩:=rk
    refine call_range_3 (by decide) ?_ (.inl (PyProof.noPylong_of_log2 (by decide +kernel)))
    refine wpAny_pyIter_range (IsRange.new ..) (zQ q1 q2 q3 q4) ?_
    have J:aT X pins σ H1 { s1 with heap:=s1.heap.push { cls:=.type "range",data:=.fields #[.int i t1,.int j t2,.int (-1) t3] },toks:=s1.toks }:=I1.kept fun b o e=>Heap.get?_push_of_some _ e
    obtain⟨a1,ha1⟩ : ∃ a1,a1=(s1.heap.push { cls:=.type "range",data:=.fields #[.int i t1,.int j t2,.int (-1) t3] }).objs.size:=⟨_,rfl⟩
    refine⟨_,[_],_,_,H1,rfl,J.kept (t':=s1.toks) fun b o e=>Heap.get?_push_of_some _ e,B0 _ i (i - j).toNat,?_,fun b hb=>?_,q⟩
    ·have e1:i+((0:Nat):Int)*(-1)=i:=by simp
     have e2:(((i - j).toNat:Nat):Int) - ((0:Nat):Int)=Builtin.Range.rangeSize i j (-1):=by rw[lj];split <;> walk_at"o"
     show IsRangeIter _ _ (i+((0:Nat):Int)*(-1)) ((((i - j).toNat:Nat):Int) - ((0:Nat):Int)) (-1)
     rw[e1,e2]
     exact Heap.get?_push_size _ rfl
    ·cases List.mem_singleton.mp hb
     exact J.fpOk (Nat.le_refl _) (J.hok.fresh (Nat.le_refl _))
theorem ye{a b c:Expr}{ta:TA}{p pos:Pos}(hg:Gl X "range") (hm:X.mg "range" = none) (ha:QA X [a,b,c] ta)(hs:starEach [a,b,c] X.env=[(false,eval a X.env),(false,eval b X.env),(false,eval c X.env)]:=by rfl)
  (hs2:starEach [b,c] X.env=[(false,eval b X.env),(false,eval c X.env)]:=by rfl):QI X tg (.Call (.Name "range" p) [a,b,c] [] pos) (Aw ta):=⟨yf hg hm ha.h hs hs2⟩
end
def yr(lo:Int)(n:Nat):List V:=(List.range n).map fun (k:Nat)=>V.int (lo - k)
theorem Ct{lo:Int}{n:Nat}:(yr lo n).length=n:=by simp[yr]
theorem DB{lo:Int}{n i:Nat}{x:V}(h:(yr lo n)[i]? = some x):i<n/\x = .int (lo - i):=by
 have hi:i<n:=by
  have:=(List.getElem?_eq_some_iff.mp h).1
  simpa [yr] using this
 refine⟨hi,?_⟩
 simp[yr,hi] at h
 exact h.symm
theorem zH{lo:Int}{n:Nat}{H:Hp}:pN (Hv lo n) H (yr lo n):=by
 refine⟨fun i hi=>by show i<n;simpa [yr] using hi,fun i x H' hi y=>⟨y.1,?_⟩,by show n<=(yr lo n).length;simp[yr]⟩
 have hi':i<n:=by simpa [yr] using hi
 obtain⟨_,rfl⟩:=y
 simp[yr,hi']
end L2
namespace L2
open PySem PySem.Spec PyProof.Rows
theorem Da{f g:Nat->Rat}{d i:Nat}(hg:∀ j,d<j->g j=0)(hf:∀ j,i<j->f j=0):∀ n,pr f g n (i+d)=if i<n then f i*g d else 0
 | 0=>by simp[pr]
 | n+1=>by
  have ih:=Da hg hf n
  show pr f g n (i+d)+(if n<=i+d then f n*g (i+d - n) else 0)=_
  rw[ih]
  rcases Nat.lt_trichotomy i n with h|h|h
  ·rw[hf n h,if_pos h,if_pos (show i<n+1 by walk_at"o")]
   split <;> grind
  ·subst h
   rw[if_neg (by walk_at"o"),if_pos (by walk_at"o"),if_pos (by walk_at"o"),show i+d - i=d by walk_at"o"]
   grind
  ·rw[if_neg (by walk_at"o"),if_pos (by walk_at"o"),if_neg (by walk_at"o"),hg _ (by walk_at"o")]
   grind
theorem zj{f f' g:Nat->Rat}:∀ n k,pr (fun i=>f i - f' i) g n k=pr f g n k - pr f' g n k
 | 0,_=>by
  show (0:Rat)=0 - 0
  grind
 | n+1,k=>by
  show pr _ g n k+(if n<=k then (f n - f' n)*g (k - n) else 0)=(pr f g n k+if n<=k then f n*g (k - n) else 0) - (pr f' g n k+if n<=k then f' n*g (k - n) else 0)
  rw[zj n k]
  split <;> grind
theorem sE{f g:Nat->Rat}{n:Nat}(hf:∀ i,n<=i->f i=0):∀ m k,pr f g (n+m) k=pr f g n k
 | 0,_=>rfl
 | m+1,k=>by
  show pr f g (n+m) k+(if n+m<=k then f (n+m)*g (k - (n+m)) else 0)=_
  rw[sE hf m k,hf (n+m) (by walk_at"o")]
  split <;> grind
theorem yE{e g r:Nat->Rat}{n d:Nat}(he:∀ i,n<=i->e i=0)(hg:∀ j,d<j->g j=0)(hd:g d ≠ 0)(hr:∀ k,d<=k->r k=0)(h:∀ k,pr e g n k=r k):∀ i,e i=0:=by
 have step:∀ m i,n<=i+m->e i=0:=by
  intro m
  induction m with
  | zero=>intro i hi;exact he i hi
  | succ m ih =>
   intro i hi
   by_cases hin:n<=i
   ·exact he i hin
   have hab:∀ j,i<j->e j=0:=fun j hj=>ih j (by walk_at"o")
   have e1:=Da hg hab n
   rw[if_pos (by walk_at"o"),h,hr _ (by walk_at"o")] at e1
   rcases Rat.mul_eq_zero.mp e1.symm with z|z
   ·exact z
   ·exact absurd z hd
 intro i
 exact step n i (by walk_at"o")
theorem uS{q q' g r r':Nat->Rat}{n n' d:Nat}(hq:∀ i,n<=i->q i=0)(hq':∀ i,n'<=i->q' i=0)(hg:∀ j,d<j->g j=0)(hd:g d ≠ 0)(hr:∀ k,d<=k->r k=0)(hr':∀ k,d<=k->r' k=0)
  (h:∀ k,pr q g n k+r k=pr q' g n' k+r' k):(∀ i,q i=q' i) /\ ∀ k,r k=r' k:=by
 have a:∀ k,pr q g (n+n') k=pr q g n k:=fun k=>sE hq n' k
 have b:∀ k,pr q' g (n+n') k=pr q' g n' k:=fun k=>by rw[Nat.add_comm];exact sE hq' n k
 have z:=yE (e:=fun i=>q i - q' i) (g:=g) (r:=fun k=>r' k - r k) (n:=n+n') (d:=d) (fun i hi=>by
  show q i - q' i=0
  rw[hq i (by walk_at"o"),hq' i (by walk_at"o")]
  grind) hg hd (fun k hk=>by
  show r' k - r k=0
  rw[hr k hk,hr' k hk]
  grind) (fun k=>by
  rw[zj,a,b]
  have:=h k
  grind)
 have e:∀ i,q i=q' i:=fun i=>by
  have:q i - q' i=0:=z i
  grind
 refine⟨e,fun k=>?_⟩
 have e2:pr q g n k=pr q' g n' k:=by
  rw[<- a,<- b,show q=q' from funext e]
 have:=h k
 grind
end L2
namespace L2
open PySem PySem.Spec PyProof.Rows
theorem kO{rs:List (Int × Int)}(h:aR rs) {m:Nat}(hz:∀ k,m<=k->cf rs k=0):rs.length<=m:=by
 refine Nat.le_of_not_lt fun hm=>?_
 have hl:rs.length - 1<rs.length:=by walk_at"o"
 have e:rs.getLast? = some rs[rs.length - 1]:=by rw[List.getLast?_eq_getElem?,List.getElem?_eq_getElem hl]
 have z:=hz (rs.length - 1) (by walk_at"o")
 rw[aZ (List.getElem?_eq_getElem hl)] at z
 exact h.2 _ e ((iO (h.1 _ (List.getElem_mem hl)).ne).mp z)
theorem Bm(m n:Int):A2 (.int m) (.int n)=decide (m=n):=by
 unfold A2 D.py
 simp only[PyData.eqv]
 rw[Bool.eq_iff_iff]
 simp
theorem sg(i:Int):(D.int i).cmp:=by
 unfold D.cmp D.py
 exact⟨rfl,Nat.le_of_ble_eq_true rfl⟩
theorem vL{ns:List Int}{m:Nat}(h:∀ n ∈ ns.drop m,n=0)(k:Nat):nz (ns.take m) k=nz ns k:=by
 unfold nz
 rw[List.getD_eq_getElem?_getD,List.getD_eq_getElem?_getD,List.getElem?_take]
 by_cases hk:k<m
 ·rw[if_pos hk]
 ·rw[if_neg hk]
  cases e:ns[k]? with
  | none=>rfl
  | some n =>
   have:n ∈ ns.drop m:=by
    have e2:(ns.drop m)[k - m]? = some n:=by rw[List.getElem?_drop,show m+(k - m)=k by walk_at"o"];exact e
    exact List.mem_of_getElem? e2
   rw[h n this]
   rfl
end L2
namespace L2
open PySem PySem.Spec PyProof.Rows
theorem AT{f g:Nat->Int}{i:Nat}{c:Int}(h0:f i=0):∀ n k,pz (fun j=>if j=i then c else f j) g n k=pz f g n k+if i<n/\i<=k then c*g (k - i) else 0
 | 0,k=>by
  show (0:Int)=0+_
  rw[if_neg (by walk_at"o")]
  rfl
 | n+1,k=>by
  show pz _ g n k+(if n<=k then (if n=i then c else f n)*g (k - n) else 0)=(pz f g n k+if n<=k then f n*g (k - n) else 0)+_
  rw[AT h0 n k]
  rcases Nat.lt_trichotomy n i with h|h|h
  ·simp only[if_neg (show ¬ (i<n/\i<=k) by walk_at"o"),if_neg (show ¬ n=i by walk_at"o"),if_neg (show ¬ (i<n+1/\i<=k) by walk_at"o")]
   walk_at"o"
  ·subst h
   rw[h0]
   by_cases hk:n<=k
   ·simp only[if_pos hk,if_pos (show n<n+1/\n<=k from ⟨by walk_at"o",hk⟩),if_neg (show ¬ (n<n/\n<=k) by walk_at"o"),Int.zero_mul,if_true]
    try walk_at"o"
   ·simp only[if_neg hk,if_neg (show ¬ (n<n+1/\n<=k) by walk_at"o"),if_neg (show ¬ (n<n/\n<=k) by walk_at"o")]
  ·simp only[if_neg (show ¬ n=i by walk_at"o")]
   by_cases hk:i<=k
   ·simp only[if_pos (show i<n/\i<=k from ⟨h,hk⟩),if_pos (show i<n+1/\i<=k from ⟨by walk_at"o",hk⟩)]
    walk_at"o"
   ·simp only[if_neg (show ¬ (i<n/\i<=k) by walk_at"o"),if_neg (show ¬ (i<n+1/\i<=k) by walk_at"o")]
    walk_at"o"
theorem uT{f g:Nat->Int}{c:Int}:∀ n k,pz (fun j=>c*f j) g n k=c*pz f g n k
 | 0,_=>by show (0:Int)=c*0;walk_at"o"
 | n+1,k=>by
  show pz _ g n k+(if n<=k then c*f n*g (k - n) else 0)=c*(pz f g n k+if n<=k then f n*g (k - n) else 0)
  rw[uT n k]
  split
  ·rw[Int.mul_add,Int.mul_assoc]
  ·simp
theorem wS{f g:Nat->Int}(h:∀ i,f i=0):∀ n k,pz f g n k=0
 | 0,_=>rfl
 | n+1,k=>by
  show pz f g n k+(if n<=k then f n*g (k - n) else 0)=0
  rw[wS h n k,h n]
  simp
theorem rF{ns:List Int}{i k:Nat}{v:Int}(hi:i<ns.length):nz (ns.set i v) k=if k=i then v else nz ns k:=by
 unfold nz
 rw[List.getD_eq_getElem?_getD,List.getD_eq_getElem?_getD,List.getElem?_set]
 by_cases h:i=k
 ·subst h
  simp[hi]
 ·rw[if_neg h,if_neg (fun z=>h z.symm)]
theorem rC{ns:List Int}{c:Int}(k:Nat):nz (ns.map fun x=>c*x) k=c*nz ns k:=by
 unfold nz
 rw[List.getD_eq_getElem?_getD,List.getD_eq_getElem?_getD,List.getElem?_map]
 cases ns[k]? <;> simp
theorem nF{ns:List Int}(k:Nat):nz ns.dropLast k=if k=ns.length - 1 then 0 else nz ns k:=by
 unfold nz
 rw[List.getD_eq_getElem?_getD,List.getD_eq_getElem?_getD,List.getElem?_dropLast]
 by_cases h:k<ns.length - 1
 ·rw[if_pos h,if_neg (by walk_at"o")]
 ·rw[if_neg h]
  by_cases h2:k=ns.length - 1
  ·rw[if_pos h2]
   rfl
  ·rw[if_neg h2,List.getElem?_eq_none (by walk_at"o")]
theorem xP{ms:Nat->Int}{S P:Int}{Q Q' N R R1 R2:Nat->Int}{n p l:Nat}(h:∀ k,S*ms k=pz Q N n k+R k)(h0:Q p=0)(hQ:∀ k,Q' k=if k=p then P else Q k)(hp:p<n)(hN:∀ j,l<j->N j=0)
  (ht:R (p+l)=P*N l)(h1:∀ k,R1 k=if k=p+l then 0 else R k)(h2:∀ k,R2 k=R1 k - if p<=k/\k<p+l then P*N (k - p) else 0):∀ k,S*ms k=pz Q' N n k+R2 k:=by
 intro k
 rw[show Q'=fun j=>if j=p then P else Q j from funext hQ,AT h0,h k,h2 k,h1 k]
 by_cases a:p<=k
 ·rw[if_pos ⟨hp,a⟩]
  rcases Nat.lt_trichotomy k (p+l) with b|b|b
  ·rw[if_neg (show ¬ k=p+l by walk_at"o"),if_pos ⟨a,b⟩]
   walk_at"o"
  ·subst b
   rw[if_pos rfl,if_neg (by walk_at"o"),ht,show p+l - p=l by walk_at"o"]
   walk_at"o"
  ·rw[if_neg (show ¬ k=p+l by walk_at"o"),if_neg (by walk_at"o"),hN _ (show l<k - p by walk_at"o")]
   walk_at"o"
 ·rw[if_neg (by walk_at"o"),if_neg (show ¬ k=p+l by walk_at"o"),if_neg (by walk_at"o")]
  walk_at"o"
end L2
namespace L2
open PySem PySem.Spec PyProof.Rows
end L2
namespace L2
open PySem PySem.Spec PyProof.Rows
section
variable {X:Cx}{a b c:Expr}{ta tb tc:TE}{pos:Pos}
end
def EA:Nat->Int
 | 0=>1
 | e+1=>EA e*6
theorem zB:∀ e,Bt (3*e+1) (EA e)
 | 0=>by decide
 | e+1=>((zB e).mul (show Bt 3 6 by decide)).mono (by walk_at"o")
theorem ww(j:Nat):∀ e,mv (j+e)=mv j*EA e
 | 0=>by show mv j=mv j*1;walk_at"o"
 | e+1=>by
  show mv (j+e)*6=mv j*(EA e*6)
  rw[ww j e,Int.mul_assoc]
end L2
namespace L2
open PySem PySem.Spec PyProof.Rows
theorem xm{qs:List (Int × Int)}{n k:Nat}:cf (qs.drop n) k=cf qs (n+k):=by
 unfold cf
 rw[List.getElem?_drop]
end L2
namespace L2
open PySem PySem.Spec PyProof.Rows
def uK(x:V)(P:Bool->Prop):Prop:=match x with | .bl k=>P k|_=>False
def isInt(x:V)(P:Int->Prop):Prop:=match x with | .int k=>P k|_=>False
def jv(x:V)(P:Addr->Prop):Prop:=match x with | .ref k=>P k|_=>False
def uw(x:Option (Option V))(P:V->Prop):Prop:=match x with|some (some v)=>P v|_=>False
def FL(x:List V)(P:V->Prop):Prop:=match x with|[v]=>P v|_=>False
def GN(x:List V)(P:V->V->Prop):Prop:=match x with|[v,u]=>P v u|_=>False
theorem CL{k:Bool}{P:Bool->Prop}:uK (.bl k) P=P k:=rfl
theorem yM{k:Int}{P:Int->Prop}:isInt (.int k) P=P k:=rfl
theorem zF{k:Addr}{P:Addr->Prop}:jv (.ref k) P=P k:=rfl
theorem AM{k:V}{P:V->Prop}:uw (some (some k)) P=P k:=rfl
theorem Dy{k:V}{P:V->Prop}:FL [k] P=P k:=rfl
theorem EC{k l:V}{P:V->V->Prop}:GN [k,l] P=P k l:=rfl
theorem jE{x:V}{P:Bool->Prop}:uK x P = ∃ k,x = .bl k/\P k:=propext (by cases x <;> simp[uK])
theorem dH{x:V}{P:Int->Prop}:isInt x P = ∃ k,x = .int k/\P k:=propext (by cases x <;> simp[isInt])
theorem eY{x:V}{P:Addr->Prop}:jv x P = ∃ k,x = .ref k/\P k:=propext (by cases x <;> simp[jv])
theorem mR{x:Option (Option V)}{P:V->Prop}:uw x P = ∃ k,x=some (some k)/\P k:=propext (by rcases x with _|_|v <;> simp[uw])
theorem ot{x:List V}{P:V->Prop}:FL x P = ∃ k,x=[k]/\P k:=propext (by rcases x with _|⟨v,_|⟨u,r⟩⟩ <;> simp[FL])
theorem sH{x:List V}{P:V->V->Prop}:GN x P = ∃ k l,x=[k,l]/\P k l:=propext ⟨fun h=>match x,h with|[v,u],h=>⟨v,u,rfl,h⟩,fun ⟨k,l,e,h⟩=>by subst e;exact h⟩
theorem Di{α β:Sort _}{A:α->Prop}{B:β->Prop}{C:α->β->Prop}:(∃ i j,A i/\B j/\C i j) = ∃ i,A i /\ ∃ j,B j/\C i j:=propext ⟨fun ⟨i,j,a,b,c⟩=>⟨i,a,j,b,c⟩,fun ⟨i,a,j,b,c⟩=>⟨i,j,a,b,c⟩⟩
def CQ(i:Nat):TE:=fun σ H Q=>uw σ[i]? fun v=>Q v H
theorem Eh{i:Nat}:tVar i=CQ i:=by funext σ H Q;exact mR.symm
def wO(t:TE):TT:=fun σ H Q=>t σ H fun x H'=>uK x fun k=>Q k H'
theorem wR{t:TE}:wH t=wO t:=by
 funext σ H Q
 unfold wH wO
 congr 1
 funext x H'
 exact jE.symm
theorem Hn{t:TE}:tB t=wO t:=wR
def zN(ta tb:TE):TE:=fun σ H Q=>ta σ H fun x H1=>uK x fun c=>if c=true then tb σ H1 Q else Q (.bl false) H1
theorem BD{ta tb:TE}:vS ta tb=zN ta tb:=by
 funext σ H Q
 unfold vS zN
 congr 1
 funext x H'
 exact jE.symm
def Ee(ta tb:TE):TE:=fun σ H Q=>ta σ H fun x H1=>uK x fun c=>if c=true then Q (.bl true) H1 else tb σ H1 Q
theorem D0{ta tb:TE}:Bj ta tb=Ee ta tb:=by
 funext σ H Q
 unfold Bj Ee
 congr 1
 funext x H'
 exact jE.symm
def yZ(ta:TE):TE:=fun σ H Q=>ta σ H fun x H1=>uK x fun c=>Q (.bl (!c)) H1
theorem BR{ta:TE}:vP ta=yZ ta:=by
 funext σ H Q
 unfold vP yZ
 congr 1
 funext x H'
 exact jE.symm
def mI(C:Int->Int->Prop)(g:Int->Int->V):R2:=fun x y H Q=>isInt x fun i=>isInt y fun j=>C i j/\Q (g i j) H
theorem Hx{C:Int->Int->Prop}{g:Int->Int->V}:rI C g=mI C g:=by
 funext x y H Q
 unfold rI mI
 rw[dH]
 simp only[dH]
 exact Di
def He(g:Int->Int->V):R2:=fun x y H Q=>isInt x fun i=>isInt y fun j=>Q (g i j) H
theorem FS{g:Int->Int->V}:wJ g=He g:=by
 funext x y H Q
 unfold wJ He
 simp only[dH]
 exact Di
def mU(g:Int->V):V->Hp->VK->Prop:=fun x H Q=>isInt x fun i=>Q (g i) H
theorem Ho{g:Int->V}:rU g=mU g:=by
 funext x H Q
 exact dH.symm
theorem pi{i j:Int}:xK (.int i) (.int j)=true:=rfl
theorem BI{i j:Bool}:xK (.bl i) (.bl j)=true:=rfl
def GS:R2:=fun x y H Q=>match x,y with | .int i,.int j=>Q (.bl (decide (i=j))) H|_,_=>FN x y H Q
theorem A9{i j:Int}{H:Hp}{Q:VK}:GS (.int i) (.int j) H Q=Q (.bl (decide (i=j))) H:=rfl
theorem C7:FN=GS:=by
 funext x y H Q
 unfold GS
 split
 ·unfold FN
  show (xK _ _=true/\_)=_
  simp only[pi,V.int.injEq,true_and]
 ·rfl
theorem Bv{x y:V}{H:Hp}{Q:VK}:GS x y H Q=FN x y H Q:=by rw[C7]
def GQ:R2:=fun x y H Q=>match x,y with | .int i,.int j=>Q (.bl (!decide (i=j))) H|_,_=>FK x y H Q
theorem BY{i j:Int}{H:Hp}{Q:VK}:GQ (.int i) (.int j) H Q=Q (.bl (!decide (i=j))) H:=rfl
theorem De:FK=GQ:=by
 funext x y H Q
 unfold GQ
 split
 ·unfold FK
  show (xK _ _=true/\_)=_
  simp only[pi,V.int.injEq,true_and]
 ·rfl
theorem BN{x y:V}{H:Hp}{Q:VK}:GQ x y H Q=FK x y H Q:=by rw[De]
section
variable {K:W.Frag}
def DV(K:W.Frag):R2:=fun x y H Q=>jv x fun p=>isInt y fun i=>∃ xs,vw K H p=some (.lst xs) /\ ∃ v,nN xs i=some v/\Q v H
theorem DR:uc K=DV K:=by
 funext x y H Q
 unfold uc DV
 simp only[dH,eY]
 exact Di
def Es(K:W.Frag):R2:=fun x y H Q=>jv x fun p=>isInt y fun i=>∃ xs,vw K H p=some (.tup xs) /\ ∃ v,nN xs i=some v/\Q v H
theorem Et:zJ K=Es K:=by
 funext x y H Q
 unfold zJ Es
 simp only[dH,eY]
 exact Di
def DU(K:W.Frag)(neg:Bool):R2:=fun x y H Q=>∃ d,aF (vw K H) d x /\ ∃ e,aF (vw K H) e y/\d.cmp/\e.cmp/\Q (.bl (cond neg (!A2 d e) (A2 d e))) H
theorem Fc{neg:Bool}:Cu K neg=DU K neg:=by
 funext x y H Q
 unfold Cu DU
 cases neg <;> exact Di
def Ez(K:W.Frag)(neg:Bool):R2:=fun x y H Q=>jv x fun p=>jv y fun q=>∃ xs,vw K H p=some (.lst xs)/\vw K H q=some (.lst [])/\Q (.bl (cond neg (!xs.isEmpty) xs.isEmpty)) H
theorem E9{neg:Bool}:BQ K neg=Ez K neg:=by
 funext x y H Q
 unfold BQ Ez
 simp only[eY]
 cases neg <;> exact Di
def At(t:TE):TO:=fun σ H Q=>t σ H fun x H1=>isInt x fun i=>Q (some i) H1
theorem Cc{t:TE}:qT t=At t:=by
 funext σ H Q
 unfold qT At
 congr 1
 funext x H'
 exact dH.symm
def FW(K:W.Frag):V->Option Int->Option Int->Hp->VK->Prop:=fun x lo hi H Q=>jv x fun a=>∃ xs,vw K H a=some (.lst xs)/\Nw K H (.lst (gv xs lo hi)) Q
theorem Fk:DK K=FW K:=by
 funext x lo hi H Q
 exact eY.symm
def AA(K:W.Frag):V->List V->Hp->VK->Prop:=fun x vs H Q=>jv x fun l=>FL vs fun y=>∃ xs,vw K H l=some (.lst xs)/\xs.length<sizeLine/\Fi K H l (.lst (xs ++ [y])) (Q .non)
theorem Bi:Aj K=AA K:=by
 funext x y H Q
 unfold Aj AA
 simp only[eY,ot]
 exact Di
def vO(K:W.Frag):V->V->V->Hp->(Hp->Prop)->Prop:=fun o i v H Q=>jv o fun p=>isInt i fun k=>∃ xs,vw K H p=some (.lst xs) /\ ∃ j,uR xs.length k=some j/\Fi K H p (.lst (xs.set j v)) Q
theorem Bz:AG K=vO K:=by
 funext x y v H Q
 unfold AG vO
 simp only[eY,dH]
 exact Di
def Ed(i j:Nat)(ta:TA):TS:=fun D σ H=>ta σ H fun vs H1=>GN vs fun v w=>D.nx ((σ.set i (some v)).set j (some w)) H1
theorem Fj{i j:Nat}{ta:TA}:CK i j ta=Ed i j ta:=by
 funext D σ H
 unfold CK Ed
 congr 1
 funext x H'
 exact sH.symm
def F3(i:Nat)(te:TE)(ti:A0):TS:=fun D σ H=>uw σ[i]? fun x=>te σ H fun y H1=>ti x y H1 fun z H2=>D.nx (σ.set i (some z)) H2
theorem Ei{i:Nat}{te:TE}{ti:A0}:Ft i te ti=F3 i te ti:=by
 funext D σ H
 exact mR.symm
def yG(K:W.Frag)(tl:TE):TI:=fun σ H R=>tl σ H fun x H1=>jv x fun a=>(∃ xs,jQ K H1 a xs)/\R (GL K a) H1
theorem Bk{tl:TE}:wM K tl=yG K tl:=by
 funext σ H R
 unfold wM yG
 congr 1
 funext x H'
 exact eY.symm
def AS(ta:TA):TI:=fun σ H R=>ta σ H fun vs H1=>FL vs fun x=>isInt x fun j=>-(2 ^ 62)<=j/\j<2 ^ 62/\R (FM 0 j.toNat) H1
theorem A8{ta:TA}:xo ta=AS ta:=by
 funext σ H R
 unfold xo AS
 congr 1
 funext x H'
 simp only[ot,dH]
 exact propext ⟨fun ⟨j,a,b⟩=>⟨_,a,j,rfl,b⟩,fun ⟨_,a,j,e,b⟩=>⟨j,by rw[a,e],b⟩⟩
def uh(K:W.Frag):R2:=fun x y H Q=>match x,y with
 | .int i,.int j=>Q (.int (i+j)) H
 | .ref l,.ref b=>∃ xs,vw K H l=some (.lst xs) /\ ∃ zs,vw K H b=some (.lst zs)/\xs.length+zs.length<=sizeLine/\Nw K H (.lst (xs ++ zs)) Q
 | _,_=>iN K x y H Q
theorem xG{i j:Int}{H:Hp}{Q:VK}:uh K (.int i) (.int j) H Q=Q (.int (i+j)) H:=rfl
theorem xU{l b:Addr}{H:Hp}{Q:VK}:uh K (.ref l) (.ref b) H Q = ∃ xs,vw K H l=some (.lst xs) /\ ∃ zs,vw K H b=some (.lst zs)/\xs.length+zs.length<=sizeLine/\Nw K H (.lst (xs ++ zs)) Q:=rfl
theorem vU:iN K=uh K:=by
 funext x y H Q
 unfold uh
 split
 ·exact rm
 ·exact gZ
 ·rfl
theorem yc{x y:V}{H:Hp}{Q:VK}:uh K x y H Q=iN K x y H Q:=by rw[vU]
def Cy(K:W.Frag):R2:=fun x y H Q=>match x,y with
 | .int i,.int j=>IntMulOk i j/\Q (.int (i*j)) H
 | _,_=>gO K x y H Q
theorem zk{i j:Int}{H:Hp}{Q:VK}:Cy K (.int i) (.int j) H Q=(IntMulOk i j/\Q (.int (i*j)) H):=rfl
theorem y7:gO K=Cy K:=by
 funext x y H Q
 unfold Cy
 split
 ·exact ix
 ·rfl
theorem AI{x y:V}{H:Hp}{Q:VK}:Cy K x y H Q=gO K x y H Q:=by rw[y7]
end
def Hj(P:Addr->Hp->VK->Prop)(t:TA):TE:=fun σ H Q=>t σ H fun vs H1=>FL vs fun x=>jv x fun p=>P p H1 Q
theorem Gr{P:Addr->Hp->VK->Prop}{t:TA}:A5 (fun xs H Q=>∃ p,xs=[.ref p]/\P p H Q) t=Hj P t:=by
 funext σ H Q
 unfold A5 Hj
 congr 1
 funext x H'
 simp only[ot,eY]
 exact propext ⟨fun ⟨j,a,b⟩=>⟨_,a,j,rfl,b⟩,fun ⟨_,a,j,e,b⟩=>⟨j,by rw[a,e],b⟩⟩
def Hw(P:Int->Int->Hp->VK->Prop)(t:TA):TE:=fun σ H Q=>t σ H fun vs H1=>GN vs fun x y=>isInt x fun i=>isInt y fun j=>P i j H1 Q
theorem Gx{P:Int->Int->Hp->VK->Prop}{t:TA}:A5 (fun xs H Q=>∃ i j,xs=[.int i,.int j]/\P i j H Q) t=Hw P t:=by
 funext σ H Q
 unfold A5 Hw
 congr 1
 funext x H'
 simp only[sH,dH]
 exact propext ⟨fun ⟨i,j,a,b⟩=>⟨_,_,a,i,rfl,j,rfl,b⟩,fun ⟨_,_,a,i,e,j,e',b⟩=>⟨i,j,by rw[a,e,e'],b⟩⟩
end L2
namespace L2
open PySem
theorem dN{α:Sort _}{g z:List Value->α}(us:List Value)(hl:us.length=1)(h:∀ a0,g [a0]=z [a0]):g us=z us:=by
 rcases us with _|⟨a0,_|⟨b,r⟩⟩
 all_goals first|exact h _|(simp at hl;done)
theorem cb{α:Sort _}{g z:List Value->α}(us:List Value)(hl:us.length=2)(h:∀ a0 a1,g [a0,a1]=z [a0,a1]):g us=z us:=by
 rcases us with _|⟨a0,_|⟨a1,_|⟨b,r⟩⟩⟩
 all_goals first|exact h _ _|(simp at hl;done)
theorem jg{α:Sort _}{g z:List Value->α}(us:List Value)(hl:us.length=3)(h:∀ a0 a1 a2,g [a0,a1,a2]=z [a0,a1,a2]):g us=z us:=by
 rcases us with _|⟨a0,_|⟨a1,_|⟨a2,_|⟨b,r⟩⟩⟩⟩
 all_goals first|exact h _ _ _|(simp at hl;done)
end L2
namespace L2
open PySem PySem.Spec PyProof.Rows
end L2
namespace L2
open PySem PySem.Spec PyProof.Rows
section
variable {X:Cx}
end
end L2
namespace L2
open PySem PySem.Spec PyProof.Rows
def ch:Nat->Nat->Nat
 | _,0=>1
 | 0,_+1=>0
 | n+1,k+1=>ch n k+ch n (k+1)
end L2
namespace L2
open PySem PySem.Spec PyProof.Rows
def fw(t r:Nat->Rat):Nat->Nat->Rat
 | 0,h=>if h=0 then 1 else 0
 | k+1,h=>(if h=0 then 0 else fw t r k (h - 1))+t h*fw t r k h+r (h+1)*fw t r k (h+1)
def bw(t r:Nat->Rat):Nat->Nat->Rat
 | 0,h=>if h=0 then 1 else 0
 | k+1,h=>bw t r k (h+1)+t h*bw t r k h+(if h=0 then 0 else r h*bw t r k (h - 1))
end L2
namespace L2
open PySem PySem.Spec PyProof.Rows
section
variable {X:Cx}
end
end L2
namespace L2
end L2
namespace L2
open PySem PySem.Spec PyProof.Rows
section
variable {P:Program}{w:World}{K:W.Frag}{mg:Str->Option Value}{base:Heap}
end
end L2
namespace L2
open PySem PySem.Spec PyProof.Rows
end L2
namespace L2
open PySem PySem.Spec PyProof.Rows
end L2
namespace L2
open PySem PySem.Spec PyProof.Rows
end L2
namespace L2
open PySem PySem.Spec PyProof.Rows
end L2
namespace L2
open PySem PySem.Spec PyProof.Rows
structure Gj where
 params:Arguments
 body:Expr
 scope:Scope
 Nl:List Str
 ixs:List Nat
 tl:TE
end L2
namespace L2
open PySem PySem.Spec PyProof.Rows
structure Hy where
 t:Addr
 p:Addr
 c:Addr
 d:Addr
 ps:Arguments
 b:Expr
 sc:Scope
 ds:List D
section
variable {P:Addr}{G0 G G':Hp}{qual:Str}{cl:List (Str × Addr)}{cs:Addr}{xs:List Hy}{x:Hy}
section
variable {L1 L2 L3 L4:Hp}{p c' d t:Addr}{params:Arguments}{body:Expr}{scope:Scope}{ds:List D}{Kd:Gj->Prop}{R:List D->Gj->Prop}
end
end
end L2
namespace L2
open PySem PySem.Spec PyProof.Rows
def Ob(D:Int)(B:Nat)(f:Nat->Rat):Prop:=∀ k,∃ n:Int,f k=(n:Rat) / (D:Rat)/\Bt B n
section
variable {D E:Int}{a b e:Nat}{f g:Nat->Rat}
theorem HA{n:Nat}:Bt n 0:=Nat.two_pow_pos n
theorem Ob.mono(h:Ob D a f)(hl:a<=b):Ob D b f:=fun k=>by
 obtain⟨n,e1,h1⟩:=h k
 exact⟨n,e1,h1.mono hl⟩
theorem Ob.congr(h:Ob D a f)(e:∀ k,g k=f k):Ob D a g:=fun k=>by
 rw[e k]
 exact h k
theorem Ob.bq{qs:List (Int × Int)}(h:Ob D a (cf qs))(hD:D ≠ 0)(hb:Bt a D)(hF:∀ q ∈ qs,Fq q):∀ q ∈ qs,Bq a q:=fun q hq=>by
 obtain⟨k,hk,rfl⟩:=List.getElem_of_mem hq
 obtain⟨n,e1,h1⟩:=h k
 rw[aZ (List.getElem?_eq_getElem hk)] at e1
 rw[kR (hF _ hq) (iS hD) (by rw[iQ hD,e1])]
 exact nL hD h1 hb
theorem Ob.add(h1:Ob D a f)(h2:Ob D b g):Ob D (max a b+1) (fun k=>f k+g k):=fun k=>by
 obtain⟨m,e1,b1⟩:=h1 k
 obtain⟨n,e2,b2⟩:=h2 k
 refine⟨m+n,?_,b1.add b2⟩
 show f k+g k=_
 rw[e1,e2,Rat.intCast_add]
 grind
theorem Ob.pr(hD:D ≠ 0)(hE:E ≠ 0)(h1:Ob D a f)(h2:Ob E b g):∀ n,Ob (D*E) (a+b+n) (fun k=>pr f g n k)
 | 0=>fun k=>⟨0,by
  show (0:Rat)=((0:Int):Rat) / _
  have c0:((0:Int):Rat)=0:=rfl
  rw[c0]
  grind,HA⟩
 | n+1=>fun k=>by
  obtain⟨m,e1,b1⟩:=Ob.pr hD hE h1 h2 n k
  show ∃ m,L2.pr f g n k+(if n<=k then f n*g (k - n) else 0)=_/\_
  have e1:L2.pr f g n k=(m:Rat) / ((D*E:Int):Rat):=e1
  split
  ·obtain⟨x,e2,b2⟩:=h1 n
   obtain⟨y,e3,b3⟩:=h2 (k - n)
   refine⟨m+x*y,?_,(b1.add (b2.mul b3)).mono (by walk_at"o")⟩
   have:=aD hD
   have:=aD hE
   rw[e1,e2,e3,Rat.intCast_add,Rat.intCast_mul,Rat.intCast_mul]
   grind
  ·refine⟨m,?_,b1.mono (by walk_at"o")⟩
   rw[e1]
   grind
def Pb(a:Nat)(f:Nat->Rat):Prop:=∃ D:Int,D ≠ 0/\Bt a D/\Ob D a f
theorem Pb.mono(h:Pb a f)(hl:a<=b):Pb b f:=by
 obtain⟨D,h1,h2,h3⟩:=h
 exact⟨D,h1,h2.mono hl,h3.mono hl⟩
theorem Pb.congr(h:Pb a f)(e:∀ k,g k=f k):Pb a g:=by
 obtain⟨D,h1,h2,h3⟩:=h
 exact⟨D,h1,h2,h3.congr e⟩
theorem Pb.bq{qs:List (Int × Int)}(h:Pb a (cf qs))(hF:∀ q ∈ qs,Fq q):∀ q ∈ qs,Bq a q:=by
 obtain⟨D,h1,h2,h3⟩:=h
 exact h3.bq h1 h2 hF
theorem Pb.pr(h1:Pb a f)(h2:Pb b g)(n:Nat):Pb (a+b+n) (fun k=>L2.pr f g n k):=by
 obtain⟨D,d1,d2,d3⟩:=h1
 obtain⟨E,e1,e2,e3⟩:=h2
 exact⟨D*E,Int.mul_ne_zero d1 e1,(d2.mul e2).mono (by walk_at"o"),Ob.pr d1 e1 d3 e3 n⟩
end
theorem FH{a:Nat}(h:1<=a):Pb a (cf []):=⟨1,by decide,Bt.mono (m:=1) (by decide) h,fun k=>⟨0,by
  show (0:Rat)=((0:Int):Rat) / _
  have c0:((0:Int):Rat)=0:=rfl
  rw[c0]
  grind,HA⟩⟩
def lin(p q:Rat)(f:Nat->Rat):Nat->Rat
 | 0=>f 0*p
 | k+1=>f (k+1)*p+f k*q
end L2
namespace L2
open PySem PySem.Spec PyProof.Rows
theorem tm{a b c:Int}(h:Int.gcd a b=1)(hd:a ∣ b*c):a ∣ c:=by
 rw[<- Int.natAbs_dvd_natAbs] at hd ⊢
 rw[Int.natAbs_mul] at hd
 exact Nat.Coprime.dvd_of_dvd_mul_left h hd
theorem Cf{b q E:Int}(hb:0<b)(hq:0<q)(h1:b ∣ E)(h2:q ∣ E):b*q.fdiv (Int.gcd b q:Int) ∣ E:=by
 obtain⟨_,_,_,hg,_⟩:=ud hb hq
 have e:=iz hg (Int.gcd_dvd_right b q)
 obtain⟨m,hm⟩:=Int.gcd_dvd_left b q
 obtain⟨g,hgg⟩ : ∃ g:Nat,g=Int.gcd b q:=⟨_,rfl⟩
 generalize hc:q.fdiv (Int.gcd b q:Int)=c at e
 rw[<- hgg] at hg e hm
 have hcop:Int.gcd c m=1:=by
  have z:Int.gcd b q=g*Int.gcd m c:=by
   rw[hm,<- e,Int.mul_comm c,Int.gcd_mul_left]
   simp
  rw[<- hgg] at z
  have g0:0<g:=by walk_at"o"
  have:Int.gcd m c=1:=by
   have:g*1=g*Int.gcd m c:=by walk_at"o"
   exact (Nat.eq_of_mul_eq_mul_left g0 this).symm
  rw[Int.gcd_comm]
  exact this
 obtain⟨u,hu⟩:=h1
 obtain⟨v,hv⟩:=h2
 have:c ∣ m*u:=by
  refine⟨v,?_⟩
  have z:(g:Int)*(m*u)=(g:Int)*(c*v):=by
   rw[<- Int.mul_assoc,<- hm,<- hu,hv,<- e]
   rw[Int.mul_comm c,Int.mul_assoc]
  exact Int.eq_of_mul_eq_mul_left hg z
 obtain⟨t,ht⟩:=tm hcop this
 exact⟨t,by rw[hu,ht,Int.mul_assoc]⟩
theorem jK{q:Int × Int}{n E:Int}(h:Fq q)(hE:E ≠ 0)(e:wv q=(n:Rat) / (E:Rat)):q.2 ∣ E:=by
 unfold wv at e
 have c1:=aD h.ne
 have c2:=aD hE
 have e1:(q.1:Rat)*(E:Rat)=(n:Rat)*(q.2:Rat):=by grind
 have e2:q.1*E=n*q.2:=by
  rw[<- Rat.intCast_mul,<- Rat.intCast_mul] at e1
  exact Rat.intCast_inj.mp e1
 refine tm (b:=q.1) (by rw[Int.gcd_comm];exact h.2) ⟨n,by rw[e2,Int.mul_comm]⟩
theorem iu{a:Nat}{qs:List (Int × Int)}{D:Int}{ns:List Int}(h:Pb a (cf qs))(hF:∀ q ∈ qs,Fq q)(hD:0<D)(hm:∀ E:Int,(∀ q ∈ qs,q.2 ∣ E)->D ∣ E)(hl:ns.length=qs.length)(hn:∀ (i:Nat)(n:Int)(q:Int × Int),ns[i]? = some n->qs[i]? = some q->(n:Rat)=wv q*(D:Rat)):Bt a D /\ ∀ n ∈ ns,Bt a n:=by
 obtain⟨E,hE,bE,oE⟩:=h
 obtain⟨t,ht⟩:=hm E fun q hq=>by
  obtain⟨k,hk,rfl⟩:=List.getElem_of_mem hq
  obtain⟨n,e,_⟩:=oE k
  rw[aZ (List.getElem?_eq_getElem hk)] at e
  exact jK (hF _ hq) hE e
 have t0:t ≠ 0:=fun z=>hE (by rw[ht,z,Int.mul_zero])
 have le:∀ x:Int,x.natAbs<=(x*t).natAbs:=fun x=>by
  rw[Int.natAbs_mul]
  exact Nat.le_mul_of_pos_right _ (by walk_at"o")
 refine⟨?_,fun n hn'=>?_⟩
 ·unfold Bt at *
  have:=le D
  rw[<- ht] at this
  walk_at"o"
 ·obtain⟨i,hi,rfl⟩:=List.getElem_of_mem hn'
  have hi':i<qs.length:=by walk_at"o"
  have e1:=hn i _ _ (List.getElem?_eq_getElem hi) (List.getElem?_eq_getElem hi')
  obtain⟨m,e2,bm⟩:=oE i
  rw[aZ (List.getElem?_eq_getElem hi')] at e2
  have c1:=aD hE
  have e3:((ns[i]*t:Int):Rat)=(m:Rat):=by
   rw[Rat.intCast_mul,e1,e2]
   have:(E:Rat)=(D:Rat)*(t:Rat):=by rw[ht,Rat.intCast_mul]
   have c2:(D:Rat) ≠ 0:=aD (by walk_at"o")
   have c3:(t:Rat) ≠ 0:=aD t0
   rw[this]
   grind
  have e4:=Rat.intCast_inj.mp e3
  unfold Bt at *
  have:=le ns[i]
  rw[e4] at this
  walk_at"o"
def gh(f:Nat->Rat):Nat->Rat->Rat
 | 0,_=>0
 | n+1,x=>gh f n x+f n*de x n
theorem qF{f g:Nat->Rat}{x:Rat}:∀ n,(∀ k,k<n->f k=g k)->gh f n x=gh g n x
 | 0,_=>rfl
 | n+1,h=>by
  show gh f n x+f n*_=gh g n x+g n*_
  rw[qF n (fun k hk=>h k (by walk_at"o")),h n (by walk_at"o")]
theorem si{f g:Nat->Rat}{x:Rat}:∀ n,gh (fun k=>f k+g k) n x=gh f n x+gh g n x
 | 0=>by show (0:Rat)=0+0;grind
 | n+1=>by
  show gh (fun k=>f k+g k) n x+(f n+g n)*de x n=gh f n x+f n*de x n+(gh g n x+g n*de x n)
  rw[si n]
  grind
theorem pW{f:Nat->Rat}{x:Rat}{n:Nat}(h:∀ k,n<=k->f k=0):∀ m,gh f (n+m) x=gh f n x
 | 0=>rfl
 | m+1=>by
  show gh f (n+m) x+f (n+m)*_=_
  rw[pW h m,h (n+m) (by walk_at"o")]
  grind
theorem vR{p q:Rat}{f:Nat->Rat}{x:Rat}:∀ n,gh (lin p q f) (n+1) x=p*gh f (n+1) x+q*x*gh f n x
 | 0=>by
  show 0+f 0*p*1=p*(0+f 0*1)+q*x*0
  grind
 | n+1=>by
  show gh (lin p q f) (n+1) x+(f (n+1)*p+f n*q)*de x (n+1)=p*(gh f (n+1) x+f (n+1)*de x (n+1))+q*x*(gh f n x+f n*de x n)
  rw[vR n,ku]
  grind
def EV(f:Nat->Rat)(x:Rat):Rat:=gh f 20 x
theorem sw{p q:Rat}{f:Nat->Rat}(h:f 19=0)(x:Rat):EV (lin p q f) x=(p+q*x)*EV f x:=by
 unfold EV
 rw[vR 19]
 have:gh f 20 x=gh f 19 x:=by
  show gh f 19 x+f 19*_=_
  rw[h]
  grind
 rw[this]
 grind
theorem iZ{f g:Nat->Rat}(h:∀ k,f k=g k)(x:Rat):EV f x=EV g x:=qF 20 fun k _=>h k
theorem pD{f g:Nat->Rat}(x:Rat):EV (fun k=>f k+g k) x=EV f x+EV g x:=si 20
def DF(f:Nat->Rat):Nat->Rat:=fun k=>((k+1:Nat):Int)*f (k+1)
theorem yx{p:Rat}{f:Nat->Rat}(k:Nat):DF (lin p 1 f) k=lin p 1 (DF f) k+f k:=by
 cases k with
 | zero =>
  show (((0+1:Nat):Int):Rat)*(f 1*p+f 0*1)=(((0+1:Nat):Int):Rat)*f 1*p+f 0
  have c1:(((0+1:Nat):Int):Rat)=1:=rfl
  rw[c1]
  grind
 | succ k =>
  show (((k+1+1:Nat):Int):Rat)*(f (k+2)*p+f (k+1)*1)=(((k+1+1:Nat):Int):Rat)*f (k+2)*p+(((k+1:Nat):Int):Rat)*f (k+1)*1+f (k+1)
  have c1:(((k+1+1:Nat):Int):Rat)=(((k+1:Nat):Int):Rat)+1:=by
   rw[show ((k+1+1:Nat):Int)=((k+1:Nat):Int)+1 by walk_at"o",Rat.intCast_add]
   rfl
  rw[c1]
  grind
theorem qI{c:Rat}{g:Nat->Rat}{j:Nat}{x:Rat}:∀ M,gh (fun k=>if j<=k then c*g (k - j) else 0) (j+M) x=c*de x j*gh g M x
 | 0=>by
  have:∀ n,n<=j->gh (fun k=>if j<=k then c*g (k - j) else 0) n x=0:=fun n=>by
   induction n with
   | zero=>intro _;rfl
   | succ n ih =>
    intro hn
    show gh (fun k=>if j<=k then c*g (k - j) else 0) n x+(if j<=n then c*g (n - j) else 0)*de x n=0
    rw[ih (by walk_at"o"),if_neg (by walk_at"o")]
    grind
  rw[Nat.add_zero,this j (Nat.le_refl _)]
  show (0:Rat)=c*de x j*0
  grind
 | M+1=>by
  show gh (fun k=>if j<=k then c*g (k - j) else 0) (j+M) x+(if j<=j+M then c*g (j+M - j) else 0)*de x (j+M)=c*de x j*(gh g M x+g M*de x M)
  rw[qI M,if_pos (by walk_at"o"),Nat.add_sub_cancel_left]
  have:de x (j+M)=de x j*de x M:=by
   induction M with
   | zero=>show de x j=de x j*1;grind
   | succ M ih =>
    show de x (j+M)*x=de x j*(de x M*x)
    rw[ih]
    grind
  rw[this]
  grind
theorem AH{f g:Nat->Rat}{x:Rat}{m:Nat}(hg:∀ k,m<=k->g k=0):∀ n,n+m<=20->EV (fun k=>pr f g n k) x=gh f n x*gh g m x
 | 0,_=>by
  have:∀ n,gh (fun k=>pr f g 0 k) n x=0:=fun n=>by
   induction n with
   | zero=>rfl
   | succ n ih =>
    show gh (fun k=>pr f g 0 k) n x+0*_=0
    rw[ih]
    grind
  show gh _ 20 x=0*_
  rw[this]
  grind
 | n+1,h=>by
  have e:EV (fun k=>pr f g (n+1) k) x=EV (fun k=>pr f g n k) x+EV (fun k=>if n<=k then f n*g (k - n) else 0) x:=pD x
  rw[e,AH hg n (by walk_at"o")]
  have s:EV (fun k=>if n<=k then f n*g (k - n) else 0) x=f n*de x n*gh g m x:=by
   show gh _ 20 x=_
   have z:=qI (c:=f n) (g:=g) (j:=n) (x:=x) (20 - n)
   rw[show n+(20 - n)=20 by walk_at"o"] at z
   rw[z]
   have z2:=pW (x:=x) hg (20 - n - m)
   rw[show m+(20 - n - m)=20 - n by walk_at"o"] at z2
   rw[z2]
  rw[s]
  show _=(gh f n x+f n*de x n)*_
  grind
theorem rf{f:Nat->Rat}{n:Nat}(h:∀ k,n<=k->f k=0)(hn:n<=20)(x:Rat):EV f x=gh f n x:=by
 have:=pW (x:=x) h (20 - n)
 rw[show n+(20 - n)=20 by walk_at"o"] at this
 exact this
def nO:List Rat->Rat->Rat
 | [],_=>0
 | a :: l,x=>a+x*nO l x
def C8(s:Rat):List Rat->List Rat
 | []=>[]
 | [_]=>[]
 | _ :: b :: l=>nO (b :: l) s :: C8 s (b :: l)
theorem vW{s:Rat}:∀ l:List Rat,(C8 s l).length=l.length - 1
 | []=>rfl
 | [_]=>rfl
 | _ :: b :: l=>by
  show (C8 s (b :: l)).length+1=_
  rw[vW (b :: l)]
  rfl
theorem uU{s x:Rat}:∀ l:List Rat,nO l x - nO l s=(x - s)*nO (C8 s l) x
 | []=>by show (0:Rat) - 0=(x - s)*0;grind
 | [a]=>by show a+x*0 - (a+s*0)=(x - s)*0;grind
 | a :: b :: l=>by
  have:=uU (s:=s) (x:=x) (b :: l)
  show a+x*nO (b :: l) x - (a+s*nO (b :: l) s)=(x - s)*(nO (b :: l) s+x*nO (C8 s (b :: l)) x)
  have e:(x - s)*(x*nO (C8 s (b :: l)) x)=x*(nO (b :: l) x - nO (b :: l) s):=by rw[this];grind
  grind
theorem tq:∀(S:List Rat)(l:List Rat),S.Nodup->l.length<=S.length->(∀ s ∈ S,nO l s=0) -> ∀ x,nO l x=0
 | [],l,_,hl,_,x=>by
  have:l=[]:=List.length_eq_zero_iff.mp (Nat.le_zero.mp hl)
  rw[this]
  rfl
 | s :: S,l,nd,hl,h,x=>by
  rw[List.nodup_cons] at nd
  have h0:=h s List.mem_cons_self
  have g:∀ x,nO (C8 s l) x=0:=tq S (C8 s l) nd.2 (by rw[vW];have:l.length<=S.length+1:=hl;walk_at"o") fun t ht=>by
   have e:=uU (s:=s) (x:=t) l
   rw[h t (List.mem_cons_of_mem _ ht),h0] at e
   have hts:t - s=0->t=s:=fun z=>by grind
   have hne:t - s ≠ 0:=fun z=>nd.1 (by rw[<- hts z];exact ht)
   grind
  have e:=uU (s:=s) (x:=x) l
  rw[g x,h0] at e
  grind
theorem GJ{f:Nat->Rat}:∀ n x,gh f n x=nO ((List.range n).map f) x
 | n,x=>by
  have key:∀ n j,nO ((List.range n).map fun i=>f (j+i)) x*de x j+gh f j x=gh f (j+n) x:=fun n=>by
   induction n with
   | zero =>
    intro j
    show 0*_+_=gh f j x
    grind
   | succ n ih =>
    intro j
    rw[List.range_succ_eq_map,List.map_cons,List.map_map]
    show (f (j+0)+x*nO ((List.range n).map ((fun i=>f (j+i)) ∘ Nat.succ)) x)*de x j+gh f j x=_
    have e:((fun i=>f (j+i)) ∘ Nat.succ)=fun i=>f (j+1+i):=by
     funext i
     show f (j+(i+1))=f (j+1+i)
     rw[show j+(i+1)=j+1+i by walk_at"o"]
    have:=ih (j+1)
    rw[e,show j+(n+1)=j+1+n by walk_at"o",<- this,ku]
    show _=_+(gh f j x+f j*de x j)
    rw[Nat.add_zero]
    grind
  have:=key n 0
  rw[Nat.zero_add] at this
  rw[<- this]
  have e:(fun i=>f (0+i))=f:=by funext i;rw[Nat.zero_add]
  rw[e]
  show _*1+0=_
  grind
end L2
namespace L2
open PySem PySem.Spec PyProof.Rows
section
variable {X:Cx}
def ie(K:W.Frag):V->Option Int->Option Int->Hp->VK->Prop:=fun x lo hi H Q=>∃ a,x = .ref a /\ ∃ xs,vw K H a=some (.tup xs) /\ ¬ (HT.sIx xs.length 0 lo=0/\HT.sIx xs.length xs.length hi=xs.length)/\Nw K H (.tup (gv xs lo hi)) Q
theorem dP:uA X (ie X.K):=DS.kf.imp fun _ _ _ _ _ ⟨a,e,xs,h,n,q⟩=>⟨a,xs,e,cN h,n,q.al⟩
end
end L2
namespace L2
open PySem PySem.Spec PyProof.Rows
end L2
namespace L2
open PySem PySem.Spec PyProof.Rows
def xO:Nat->List Rat
 | 0=>[]
 | n+1=>((n+1:Nat):Int) :: xO n
theorem oO:∀{n:Nat}{x:Rat},x ∈ xO n -> ∃ m:Nat,1<=m/\m<=n/\x=((m:Int):Rat)
 | n+1,x,h=>by
  rcases List.mem_cons.mp h with rfl|h
  ·exact⟨n+1,by walk_at"o",by walk_at"o",rfl⟩
  ·obtain⟨m,h1,h2,h3⟩:=oO h
   exact⟨m,h1,by walk_at"o",h3⟩
theorem wU:∀ n,(xO n).Nodup
 | 0=>List.nodup_nil
 | n+1=>by
  refine List.nodup_cons.mpr ⟨fun h=>?_,wU n⟩
  obtain⟨m,_,h2,h3⟩:=oO h
  have:=Rat.intCast_inj.mp h3
  walk_at"o"
theorem tJ:∀ n,(xO n).length=n
 | 0=>rfl
 | n+1=>by show (xO n).length+1=_;rw[tJ n]
theorem t8:∀ l:List Rat,(∀ x,nO l x=0) -> ∀ a ∈ l,a=0
 | [],_,a,h=>by cases h
 | b :: l,h,a,ha=>by
  have h0:b=0:=by
   have:=h 0
   show b=0
   have e:nO (b :: l) 0=b+0*nO l 0:=rfl
   rw[e] at this
   grind
  have hl:∀ x,nO l x=0:=tq (xO l.length) l (wU _) (by rw[tJ];exact Nat.le_refl _) fun s hs=>by
   obtain⟨m,h1,_,rfl⟩:=oO hs
   have:=h ((m:Int):Rat)
   have e:nO (b :: l) ((m:Int):Rat)=b+((m:Int):Rat)*nO l ((m:Int):Rat):=rfl
   rw[e,h0] at this
   have c:((m:Int):Rat) ≠ 0:=aD (by walk_at"o")
   grind
  rcases List.mem_cons.mp ha with rfl|ha
  ·exact h0
  ·exact t8 l hl a ha
theorem m5{f g:Nat->Rat}(hf:∀ k,20<=k->f k=0)(hg:∀ k,20<=k->g k=0)(h:∀ x,EV f x=EV g x)(k:Nat):f k=g k:=by
 rcases Nat.lt_or_ge k 20 with z|z
 ·have e:∀ x,nO ((List.range 20).map fun k=>f k + -1*g k) x=0:=fun x=>by
   rw[<- GJ,si]
   have h1:gh (fun k=>-1*g k) 20 x = -1*gh g 20 x:=by
    have:∀ n,gh (fun k=>-1*g k) n x = -1*gh g n x:=fun n=>by
     induction n with
     | zero=>show (0:Rat) = -1*0;grind
     | succ n ih =>
      show gh (fun k=>-1*g k) n x + -1*g n*de x n = -1*(gh g n x+g n*de x n)
      rw[ih]
      grind
    exact this 20
   have h2:gh f 20 x=gh g 20 x:=h x
   rw[h1,h2]
   grind
  have:=t8 _ e (f k + -1*g k) (List.mem_map.mpr ⟨k,List.mem_range.mpr z,rfl⟩)
  grind
 ·rw[hf k z,hg k z]
end L2
namespace L2
open PySem PySem.Spec PyProof.Rows
end L2
namespace L2
open PySem PySem.Spec PyProof.Rows
section
variable {X:Cx}
end
end L2
namespace L2
open PySem
abbrev Om:=List Bool->Int
def wg:Nat->(Nat->Int)->Om->Om
 | 0,_,_=>fun _=>0
 | m+1,v,o=>fun l=>match l with
  | []=>0
  | false :: l=>wg m v (fun k=>o (false :: k)) l
  | true :: l=>v m*o (false :: l) - wg m v (fun k=>o (true :: k)) l
theorem kP{m:Nat}{v:Nat->Int}{o:Om}{l:List Bool}:wg (m+1) v o (false :: l)=wg m v (fun k=>o (false :: k)) l:=rfl
theorem kz{m:Nat}{v:Nat->Int}{o:Om}{l:List Bool}:wg (m+1) v o (true :: l)=v m*o (false :: l) - wg m v (fun k=>o (true :: k)) l:=rfl
theorem mZ{v:Nat->Int}{a b:Int}:∀ (m:Nat)(o p:Om)(l:List Bool),wg m v (fun k=>a*o k+b*p k) l=a*wg m v o l+b*wg m v p l
 | 0,o,p,l=>by show (0:Int)=a*0+b*0;rw[Int.mul_zero,Int.mul_zero];rfl
 | m+1,o,p,[]=>by show (0:Int)=a*0+b*0;rw[Int.mul_zero,Int.mul_zero];rfl
 | m+1,o,p,false :: l=>by
  rw[kP,kP,kP]
  exact mZ m _ _ l
 | m+1,o,p,true :: l=>by
  rw[kz,kz,kz,mZ m (fun k=>o (true :: k)) (fun k=>p (true :: k)) l]
  grind
theorem j4{v:Nat->Int}:∀ (m:Nat)(o:Om)(l:List Bool),(∀ k,o k=0)->wg m v o l=0
 | 0,o,l,h=>rfl
 | m+1,o,[],h=>rfl
 | m+1,o,false :: l,h=>by rw[kP];exact j4 m _ l fun k=>h _
 | m+1,o,true :: l,h=>by rw[kz,h,j4 m _ l fun k=>h _];walk_at"o"
theorem gu{v:Nat->Int}{m:Nat}{o p:Om}(h:∀ k,o k=p k)(l:List Bool):wg m v o l=wg m v p l:=by
 have:o=p:=funext h
 rw[this]
theorem jD{u v:Nat->Int}{a b:Int}:∀ (m:Nat)(o:Om)(l:List Bool),wg m (fun i=>a*u i+b*v i) o l=a*wg m u o l+b*wg m v o l
 | 0,o,l=>by show (0:Int)=a*0+b*0;rw[Int.mul_zero,Int.mul_zero];rfl
 | m+1,o,[]=>by show (0:Int)=a*0+b*0;rw[Int.mul_zero,Int.mul_zero];rfl
 | m+1,o,false :: l=>by
  rw[kP,kP,kP]
  exact jD m _ l
 | m+1,o,true :: l=>by
  rw[kz,kz,kz,jD m _ l]
  grind
theorem iH{v:Nat->Int}:∀ (m:Nat)(o:Om)(l:List Bool),(∀ i,i<m->v i=0)->wg m v o l=0
 | 0,o,l,h=>rfl
 | m+1,o,[],h=>rfl
 | m+1,o,false :: l,h=>by rw[kP];exact iH m _ l fun i hi=>h i (by walk_at"o")
 | m+1,o,true :: l,h=>by rw[kz,h m (by walk_at"o"),iH m _ l fun i hi=>h i (by walk_at"o")];walk_at"o"
theorem j3{u v:Nat->Int}:∀ (m:Nat)(o:Om)(l:List Bool),wg m u (wg m v o) l = - wg m v (wg m u o) l
 | 0,o,l=>rfl
 | m+1,o,[]=>rfl
 | m+1,o,false :: l=>by
  rw[kP,kP]
  exact j3 m (fun k=>o (false :: k)) l
 | m+1,o,true :: l=>by
  rw[kz,kz,kP,kP]
  have e1:=mZ (v:=u) (a:=v m) (b:=-1) m (fun k=>o (false :: k)) (wg m v fun k=>o (true :: k)) l
  have e2:=mZ (v:=v) (a:=u m) (b:=-1) m (fun k=>o (false :: k)) (wg m u fun k=>o (true :: k)) l
  have f1:wg m u (fun k=>wg (m+1) v o (true :: k)) l=wg m u (fun k=>v m*o (false :: k) + -1*wg m v (fun k=>o (true :: k)) k) l:=gu (fun k=>by rw[kz];walk_at"o") l
  have f2:wg m v (fun k=>wg (m+1) u o (true :: k)) l=wg m v (fun k=>u m*o (false :: k) + -1*wg m u (fun k=>o (true :: k)) k) l:=gu (fun k=>by rw[kz];walk_at"o") l
  have s:=j3 (u:=u) (v:=v) m (fun k=>o (true :: k)) l
  rw[f1,f2,e1,e2]
  grind
theorem wB{v:Nat->Int}(m:Nat)(o:Om)(l:List Bool):wg m v (wg m v o) l=0:=by
 have:=j3 (u:=v) (v:=v) m o l
 walk_at"o"
section
variable (W:Nat->Int)
def lO(i:Nat):Nat->Int:=fun j=>W (i+j)
def ve:Om:=fun l=>if l.all (fun b=>!b) then 1 else 0
def om(m:Nat):Nat->Om
 | 0=>ve
 | k+1=>wg m (lO W k) (om m k)
def uH:Nat->List Bool
 | 0=>[]
 | m+1=>true :: uH m
def kA(j:Nat):Nat->Int:=fun i=>if i=j then 1 else 0
def qk(k j:Nat):Int:=wg (k+1) (kA j) (om W (k+1) k) (uH (k+1))
def Dk(k:Nat):Int:=om W k k (uH k)
def Lq(k i:Nat):Int:=wg (k+1) (lO W i) (om W (k+1) k) (uH (k+1))
end
variable {W:Nat->Int}
theorem uu(m:Nat):∀(k:Nat)(l:List Bool),om W (m+1) k (false :: l)=om W m k l
 | 0,l=>by simp[om,ve]
 | k+1,l=>by
  show wg (m+1) (lO W k) (om W (m+1) k) (false :: l)=wg m (lO W k) (om W m k) l
  rw[kP]
  exact gu (fun j=>uu m k j) l
theorem xk(m:Nat):∀(k i:Nat)(l:List Bool),i<k->wg m (lO W i) (om W m k) l=0
 | 0,i,l,h=>by walk_at"o"
 | k+1,i,l,h=>by
  show wg m (lO W i) (wg m (lO W k) (om W m k)) l=0
  by_cases e:i=k
  ·rw[e];exact wB m _ l
  ·rw[j3,j4 m _ l fun j=>xk m k i j (by walk_at"o")]
   rfl
theorem DT:Dk W 0=1:=rfl
theorem gD(k:Nat):qk W k k=Dk W k:=by
 show wg (k+1) (kA k) (om W (k+1) k) (true :: uH k)=om W k k (uH k)
 rw[kz,uu,iH (v:=kA k) k _ _ fun i hi=>if_neg (by walk_at"o")]
 show (if k=k then (1:Int) else 0)*_ - 0=_
 rw[if_pos rfl]
 walk_at"o"
theorem fT{k j:Nat}(h:k<j):qk W k j=0:=iH _ _ _ fun i hi=>if_neg (by walk_at"o")
theorem kI{k i:Nat}(h:i<k):Lq W k i=0:=xk _ k i _ h
theorem ic(k:Nat):Lq W k k=Dk W (k+1):=rfl
def ca(f:Nat->Int):Nat->Int
 | 0=>0
 | n+1=>ca f n+f n
theorem fA{f g:Nat->Int}:∀ n,(∀ i,i<n->f i=g i)->ca f n=ca g n
 | 0,_=>rfl
 | n+1,h=>by
  show ca f n+f n=ca g n+g n
  rw[fA n fun i hi=>h i (by walk_at"o"),h n (by walk_at"o")]
theorem ge{f:Nat->Int}:∀ n,(∀ i,i<n->f i=0)->ca f n=0
 | 0,_=>rfl
 | n+1,h=>by
  show ca f n+f n=0
  rw[ge n fun i hi=>h i (by walk_at"o"),h n (by walk_at"o")]
  rfl
theorem qH{f:Nat->Int}{n:Nat}(h:∀ i,n<=i->f i=0):∀ m,ca f (n+m)=ca f n
 | 0=>rfl
 | m+1=>by
  show ca f (n+m)+f (n+m)=ca f n
  rw[qH h m,h (n+m) (by walk_at"o")]
  walk_at"o"
theorem iT{f:Nat->Int}{j:Nat}:∀ n,(∀ i,i<n->i ≠ j->f i=0)->j<n->ca f n=f j
 | 0,_,h=>by walk_at"o"
 | n+1,h,hj=>by
  show ca f n+f n=f j
  by_cases e:j=n
  ·rw[ge n fun i hi=>h i (by walk_at"o") (by walk_at"o"),e]
   walk_at"o"
  ·rw[iT n (fun i hi hn=>h i (by walk_at"o") hn) (by walk_at"o"),h n (by walk_at"o") (by walk_at"o")]
   walk_at"o"
theorem mD{v:Nat->Int}{M:Nat}{o:Om}{l:List Bool}:∀ n,wg M (fun i=>ca (fun j=>v j*kA j i) n) o l=ca (fun j=>v j*wg M (kA j) o l) n
 | 0=>iH _ _ _ fun i _=>rfl
 | n+1=>by
  have e:=jD (u:=fun i=>ca (fun j=>v j*kA j i) n) (v:=kA n) (a:=1) (b:=v n) M o l
  have f:(fun i=>ca (fun j=>v j*kA j i) (n+1))=fun i=>1*ca (fun j=>v j*kA j i) n+v n*kA n i:=funext fun i=>by
   show ca _ n+v n*kA n i=_
   rw[Int.one_mul]
  rw[f,e,mD n]
  show _=ca _ n+v n*_
  rw[Int.one_mul]
theorem rG(k i:Nat):Lq W k i=ca (fun j=>W (i+j)*qk W k j) (k+1):=by
 unfold Lq qk
 rw[<- mD (v:=fun j=>W (i+j)) (M:=k+1)]
 have:∀ m (o:Om)(l:List Bool)(u v:Nat->Int),(∀ i,i<m->u i=v i)->wg m u o l=wg m v o l:=fun m o l u v h=>by
  have e:=jD (u:=u) (v:=v) (a:=1) (b:=-1) m o l
  rw[iH m o l fun i hi=>by rw[h i hi];walk_at"o"] at e
  walk_at"o"
 refine this _ _ _ _ _ fun c hc=>?_
 show W (i+c)=_
 rw[iT (j:=c) (k+1) (fun j _ hj=>by unfold kA;rw[if_neg (fun z=>hj z.symm),Int.mul_zero]) hc]
 unfold kA
 rw[if_pos rfl,Int.mul_one]
end L2
namespace L2
open PySem
variable {W:Nat->Int}
theorem gA{f:Nat->Int}{a:Int}:∀ n,ca (fun i=>a*f i) n=a*ca f n
 | 0=>by show (0:Int)=a*0;rw[Int.mul_zero]
 | n+1=>by
  show ca (fun i=>a*f i) n+a*f n=a*(ca f n+f n)
  rw[gA n]
  grind
theorem jA{f g:Nat->Int}:∀ n,ca (fun i=>f i+g i) n=ca f n+ca g n
 | 0=>rfl
 | n+1=>by
  show ca (fun i=>f i+g i) n+(f n+g n)=(ca f n+f n)+(ca g n+g n)
  rw[jA n]
  walk_at"o"
theorem qt{f:Nat->Nat->Int}(M:Nat):∀ N,ca (fun i=>ca (fun j=>f i j) M) N=ca (fun j=>ca (fun i=>f i j) N) M
 | 0=>by
  show (0:Int)=ca (fun j=>ca (fun i=>f i j) 0) M
  exact (ge (f:=fun j=>ca (fun i=>f i j) 0) M fun i _=>rfl).symm
 | N+1=>by
  show ca _ N+ca (fun j=>f N j) M=ca (fun j=>ca (fun i=>f i j) N+f N j) M
  rw[qt M N,jA]
def LL(W:Nat->Int)(p:Nat->Int)(N i:Nat):Int:=ca (fun j=>W (i+j)*p j) N
theorem qm(k i:Nat):LL W (qk W k) (k+1) i=Lq W k i:=(rG k i).symm
theorem xc{p:Nat->Int}{n i:Nat}(h:∀ j,n<=j->p j=0)(m:Nat):LL W p (n+m) i=LL W p n i:=qH (fun j hj=>by rw[h j hj,Int.mul_zero]) m
theorem wG{a d:Nat->Int}{N M:Nat}:ca (fun i=>a i*LL W d M i) N=ca (fun j=>d j*LL W a N j) M:=by
 have e1:ca (fun i=>a i*LL W d M i) N=ca (fun i=>ca (fun j=>a i*(W (i+j)*d j)) M) N:=fA N fun i _=>(gA M).symm
 have e2:ca (fun j=>d j*LL W a N j) M=ca (fun j=>ca (fun i=>a i*(W (i+j)*d j)) N) M:=fA M fun j _=>by
  unfold LL
  rw[<- gA]
  exact fA N fun i _=>by rw[Nat.add_comm j i];grind
 rw[e1,e2]
 exact qt M N
theorem CB{d:Nat->Int}{k M:Nat}(hM:k+1<=M)(hD:∀ i,i<=k+1->Dk W i ≠ 0)(h0:∀ i,i<=k->LL W d M i=0)(hd:∀ j,k<j->d j=0):∀ j,d j=0:=by
 have down:∀ n,n<=k+1 -> ∀ j,k+1 - n<=j->d j=0:=by
  intro n
  induction n with
  | zero=>exact fun _ j hj=>hd j (by walk_at"o")
  | succ n ih =>
   intro hn j hj
   have ihn:=ih (by walk_at"o")
   by_cases e:j=k - n
   ·have hz:ca (fun i=>qk W (k - n) i*LL W d M i) (k - n+1)=0:=ge _ fun i hi=>by rw[h0 i (by walk_at"o"),Int.mul_zero]
    rw[wG,iT (j:=k - n) M (fun i hi hne=>?_) (by walk_at"o"),qm,ic] at hz
    ·rcases Int.mul_eq_zero.mp hz with z|z
     ·rw[e];exact z
     ·exact absurd z (hD _ (by walk_at"o"))
    ·by_cases hlt:i<k - n
     ·show d i*LL W (qk W (k - n)) (k - n+1) i=0
      rw[qm,kI hlt,Int.mul_zero]
     ·show d i*LL W (qk W (k - n)) (k - n+1) i=0
      rw[ihn i (by walk_at"o"),Int.zero_mul]
   ·exact ihn j (by walk_at"o")
 exact fun j=>down (k+1) (Nat.le_refl _) j (by walk_at"o")
def ym(p:Nat->Int):Nat->Int
 | 0=>0
 | j+1=>p j
theorem Dq{p:Nat->Int}{i:Nat}:∀ N,LL W (ym p) (N+1) i=LL W p N (i+1)
 | 0=>by
  show (0:Int)+W (i+0)*0=0
  rw[Int.mul_zero]
  rfl
 | N+1=>by
  show LL W (ym p) (N+1) i+W (i+(N+1))*p N=LL W p N (i+1)+W (i+1+N)*p N
  rw[Dq N,show i+(N+1)=i+1+N by walk_at"o"]
theorem AV{n:Nat}(hD:Dk W (n+1) ≠ 0):qk W (n+1) n = - Lq W n (n+1):=by
 have h1:ca (fun i=>qk W n i*LL W (qk W (n+1)) (n+2) i) (n+1)=0:=ge _ fun i hi=>by rw[qm,kI (by walk_at"o"),Int.mul_zero]
 rw[wG] at h1
 have h2:ca (fun j=>qk W (n+1) j*LL W (qk W n) (n+1) j) (n+2)=qk W (n+1) n*Dk W (n+1)+qk W (n+1) (n+1)*Lq W n (n+1):=by
  show ca (fun j=>qk W (n+1) j*LL W (qk W n) (n+1) j) (n+1)+qk W (n+1) (n+1)*LL W (qk W n) (n+1) (n+1)=_
  rw[iT (j:=n) (n+1) (fun i hi hne=>by rw[qm,kI (by walk_at"o"),Int.mul_zero]) (by walk_at"o"),qm,qm,ic]
 rw[h2,gD] at h1
 have h3:Dk W (n+1)*(qk W (n+1) n+Lq W n (n+1))=0:=by grind
 rcases Int.mul_eq_zero.mp h3 with z|z
 ·exact absurd z hD
 ·walk_at"o"
def nQ(W:Nat->Int):Nat->Int
 | 0=>Dk W 0*Lq W 0 1
 | n+1=>Dk W (n+1)*Lq W (n+1) (n+2)+Dk W (n+2)*qk W (n+1) n
def mC(W:Nat->Int):Nat->Nat->Int
 | 0,_=>0
 | n+1,j=>qk W n j
def GC(W:Nat->Int):Nat->Nat->Int
 | 0,_=>0
 | n+1,i=>Lq W n i
theorem DP(k i:Nat):LL W (mC W k) (k+2) i=GC W k i:=by
 cases k with
 | zero=>exact ge _ fun j _=>Int.mul_zero _
 | succ n =>
  show LL W (qk W n) (n+1+2) i=Lq W n i
  rw[xc fun j hj=>fT (by walk_at"o"),qm]
theorem zf{k:Nat}(hD:∀ i,i<=k+1->Dk W i ≠ 0)(j:Nat) :
  Dk W k*Dk W (k+1)*ym (qk W k) j - nQ W k*qk W k j - Dk W (k+1)*Dk W (k+1)*mC W k j=Dk W k*Dk W k*qk W (k+1) j:=by
 obtain⟨d,hd⟩ : ∃ d:Nat->Int,d=fun j=>(Dk W k*Dk W (k+1))*ym (qk W k) j+(-1)*(nQ W k*qk W k j+(Dk W (k+1)*Dk W (k+1)*mC W k j+Dk W k*Dk W k*qk W (k+1) j)):=⟨_,rfl⟩
 have z:∀ j,d j=0:=by
  refine CB (k:=k) (M:=k+2) (by walk_at"o") hD (fun i hi=>?_) (fun j hj=>?_)
  ·have e:LL W d (k+2) i=Dk W k*Dk W (k+1)*Lq W k (i+1) - nQ W k*Lq W k i - Dk W (k+1)*Dk W (k+1)*GC W k i - Dk W k*Dk W k*Lq W (k+1) i:=by
    have f:LL W d (k+2) i=(Dk W k*Dk W (k+1))*LL W (ym (qk W k)) (k+2) i+(-1)*(nQ W k*LL W (qk W k) (k+2) i+(Dk W (k+1)*Dk W (k+1)*LL W (mC W k) (k+2) i+Dk W k*Dk W k*LL W (qk W (k+1)) (k+2) i)):=by
     unfold LL
     rw[<- gA,<- gA,<- gA,<- gA,<- jA,<- jA,<- gA,<- jA]
     refine fA _ fun j _=>?_
     rw[hd]
     grind
    have m:LL W (qk W k) (k+2) i=Lq W k i:=by
     have:=xc (W:=W) (p:=qk W k) (n:=k+1) (i:=i) (fun j hj=>fT (by walk_at"o")) 1
     rw[qm] at this
     exact this
    rw[f,Dq,qm,m,DP,qm]
    grind
   rw[e,kI (k:=k+1) (by walk_at"o")]
   by_cases e1:i=k
   ·subst e1
    cases i with
    | zero =>
     show Dk W 0*Dk W 1*Lq W 0 1 - Dk W 0*Lq W 0 1*Lq W 0 0 - Dk W 1*Dk W 1*0 - Dk W 0*Dk W 0*0=0
     rw[ic]
     grind
    | succ n =>
     show Dk W (n+1)*Dk W (n+2)*Lq W (n+1) (n+2) - (Dk W (n+1)*Lq W (n+1) (n+2)+Dk W (n+2)*qk W (n+1) n)*Lq W (n+1) (n+1) - Dk W (n+2)*Dk W (n+2)*Lq W n (n+1) - Dk W (n+1)*Dk W (n+1)*0=0
     rw[ic,AV (hD _ (by walk_at"o"))]
     grind
   ·cases k with
    | zero=>walk_at"o"
    | succ n =>
     rw[kI (k:=n+1) (i:=i) (by walk_at"o")]
     show Dk W (n+1)*Dk W (n+2)*Lq W (n+1) (i+1) - nQ W (n+1)*0 - Dk W (n+2)*Dk W (n+2)*Lq W n i - Dk W (n+1)*Dk W (n+1)*0=0
     by_cases e2:i=n
     ·rw[e2,ic,ic]
      grind
     ·rw[kI (k:=n+1) (by walk_at"o"),kI (k:=n) (by walk_at"o")]
      grind
  ·have b0:mC W k j=0:=by
    cases k with
    | zero=>rfl
    | succ n=>exact fT (by walk_at"o")
   rw[hd]
   show Dk W k*Dk W (k+1)*ym (qk W k) j + -1*(nQ W k*qk W k j+(Dk W (k+1)*Dk W (k+1)*mC W k j+Dk W k*Dk W k*qk W (k+1) j))=0
   rw[b0,fT hj]
   obtain⟨j',rfl⟩ : ∃ j',j=j'+1:=⟨j - 1,by walk_at"o"⟩
   show Dk W k*Dk W (k+1)*qk W k j'+_=0
   by_cases e:j'=k
   ·rw[e,gD,gD]
    grind
   ·rw[fT (k:=k) (j:=j') (by walk_at"o"),fT (k:=k+1) (by walk_at"o")]
    grind
 have:=z j
 rw[hd] at this
 dsimp only at this
 grind
theorem oB{v:Nat->Int}{B C:Nat}(hv:∀ i,(v i).natAbs<=B):∀ (m:Nat)(o:Om)(l:List Bool),(∀ k,(o k).natAbs<=C)->(wg m v o l).natAbs<=m*(B*C)
 | 0,o,l,h=>by simp[wg]
 | m+1,o,[],h=>by simp[wg]
 | m+1,o,false :: l,h=>by
  rw[kP]
  have:=oB hv m (fun k=>o (false :: k)) l fun k=>h _
  rw[Nat.add_mul]
  walk_at"o"
 | m+1,o,true :: l,h=>by
  rw[kz]
  have h1:=oB hv m (fun k=>o (true :: k)) l fun k=>h _
  have h2:(v m*o (false :: l)).natAbs<=B*C:=by rw[Int.natAbs_mul];exact Nat.mul_le_mul (hv m) (h _)
  have h3:=Int.natAbs_sub_le (v m*o (false :: l)) (wg m v (fun k=>o (true :: k)) l)
  rw[Nat.add_mul]
  walk_at"o"
theorem Ak{B m:Nat}(hW:∀ i,(W i).natAbs<=B):∀ k l,(om W m k l).natAbs<=(m*B) ^ k
 | 0,l=>by
  show (if _ then (1:Int) else 0).natAbs<=1
  split <;> decide
 | k+1,l=>by
  have:=oB (v:=lO W k) (B:=B) (C:=(m*B) ^ k) (fun i=>hW _) m (om W m k) l (Ak hW k)
  rw[Nat.pow_succ,Nat.mul_comm,Nat.mul_assoc]
  exact this
theorem sr{B k:Nat}(hW:∀ i,(W i).natAbs<=B)(j:Nat):(qk W k j).natAbs<=(k+1)*((k+1)*B) ^ k:=by
 have:=oB (v:=kA j) (B:=1) (C:=((k+1)*B) ^ k) (fun i=>by unfold kA;split <;> decide) (k+1) (om W (k+1) k) (uH (k+1)) (Ak hW k)
 rw[Nat.one_mul] at this
 exact this
end L2
namespace L2
open PySem PySem.Spec PyProof.Rows
def IL(G:Hp)(a:Addr)(n:Nat)(p:Nat->Int):Prop:=G a=some (.lst (lz n fun i=>V.int (p i)))
theorem IL.same{G G':Hp}{a:Addr}{n:Nat}{p:Nat->Int}(h:IL G a n p)(S:aC G G'):IL G' a n p:=S _ _ h
theorem IL.len{G:Hp}{a:Addr}{n:Nat}{p:Nat->Int}(h:IL G a n p):eU G a=some n:=by
 unfold IL at h
 simp only[eU,h]
 rw[bH]
theorem oI{α:Type}{n:Nat}{h:Nat->α}{xs:List α}(hl:xs.length=n)(he:∀ i,i<n->xs[i]? = some (h i)):xs=lz n h:=by
 refine List.ext_getElem? fun i=>?_
 by_cases hi:i<n
 ·rw[he i hi,dG hi]
 ·rw[List.getElem?_eq_none (by walk_at"o"),List.getElem?_eq_none (by rw[bH];walk_at"o")]
theorem BG{α:Type}{n k:Nat}{h:Nat->α}:(lz n h).drop k=lz (n - k) fun i=>h (k+i) :=
 oI (by rw[List.length_drop,bH]) fun i hi=>by rw[List.getElem?_drop,dG (by walk_at"o")]
theorem DJ{α β:Type}{m n:Nat}{f:Nat->α}{g:Nat->β}(h:m<=n):(lz m f).zip (lz n g)=lz m fun i=>(f i,g i) :=
 oI (by rw[List.length_zip,bH,bH];walk_at"o") fun i hi=>by
  rw[List.getElem?_zip_eq_some]
  exact⟨dG hi,dG (by walk_at"o")⟩
theorem kZ{α:Type}{n:Nat}{h:Nat->α}:lz (n+1) h=lz n h ++ [h n]:=by simp[lz,List.range_succ]
theorem ox{α:Type}{n:Nat}{h:Nat->α}:lz (n+1) h=h 0 :: lz n fun i=>h (i+1) :=
 (oI (by simp[bH]) fun i hi=>by
  cases i with
  | zero=>rfl
  | succ i =>
   rw[List.getElem?_cons_succ]
   exact dG (by walk_at"o")).symm
theorem wA{f:Nat->Int}:∀ n,lB (lz n f)=ca f n
 | 0=>rfl
 | n+1=>by
  rw[kZ,oS,wA n]
  show _+(f n+0)=ca f n+f n
  walk_at"o"
theorem EM{α:Type}{n k:Nat}{h:Nat->α}(hk:k<n):nN (lz n h) (k:Int)=some (h k):=ck (dG hk)
theorem oi{α:Type}{n:Nat}{h:Nat->α}:nN (lz (n+1) h) (-1)=some (h n):=dc (by rw[kZ];simp)
theorem yV{α:Type}{n:Nat}{h:Nat->α}:nN (lz (n+2) h) (-2)=some (h n):=by
 unfold nN uR
 rw[bH,if_neg (by decide),if_pos (by walk_at"o")]
 have e:((-2:Int)+((n+2:Nat):Int)).toNat=n:=by walk_at"o"
 show (lz (n+2) h)[((-2:Int)+((n+2:Nat):Int)).toNat]? = some (h n)
 rw[e,dG (by walk_at"o")]
theorem Bt.of_le{n m:Nat}{x:Int}(h:x.natAbs<=2 ^ n)(hn:n<m):Bt m x:=by
 unfold Bt
 exact Nat.lt_of_le_of_lt h (Nat.pow_lt_pow_right (by decide) hn)
theorem qP{W:Nat->Int}{b k j:Nat}(hW:∀ i,Bt b (W i))(hk:k<=5):Bt (5*b+19) (qk W k j):=by
 have h:=sr (W:=W) (B:=2 ^ b) (k:=k) (fun i=>Nat.le_of_lt (hW i)) j
 refine Bt.of_le (n:=5*b+18) (Nat.le_trans h ?_) (by walk_at"o")
 have h1:(k+1)*2 ^ b<=2 ^ (b+3):=by
  rw[Nat.pow_add,Nat.mul_comm]
  exact Nat.mul_le_mul_left _ (by walk_at"o")
 have h2:((k+1)*2 ^ b) ^ k<=2 ^ (5*b+15):=by
  refine Nat.le_trans (Nat.pow_le_pow_left h1 k) ?_
  rw[<- Nat.pow_mul]
  refine Nat.pow_le_pow_right (by decide) ?_
  have:(b+3)*k<=(b+3)*5:=Nat.mul_le_mul_left _ hk
  walk_at"o"
 have h3:(2:Nat) ^ (5*b+18)=8*2 ^ (5*b+15):=by
  rw[show 5*b+18=(5*b+15)+3 by walk_at"o",Nat.pow_add]
  walk_at"o"
 rw[h3]
 exact Nat.mul_le_mul (by walk_at"o") h2
theorem xj{f:Nat->Int}{b:Nat}(h:∀ i,Bt b (f i)):∀ n,Bt (b+n) (ca f n)
 | 0=>by
  show Bt (b+0) 0
  unfold Bt
  exact Nat.pow_pos (by decide)
 | n+1=>by
  have h1:=xj h n
  have h2:=h n
  unfold Bt at h1 h2 ⊢
  have e:(2:Nat) ^ (b+(n+1))=2 ^ (b+n)+2 ^ (b+n):=by rw[<- Nat.add_assoc,Nat.pow_succ];walk_at"o"
  have e2:(2:Nat) ^ b<=2 ^ (b+n):=Nat.pow_le_pow_right (by decide) (by walk_at"o")
  have h3:=Int.natAbs_add_le (ca f n) (f n)
  show (ca f n+f n).natAbs<_
  walk_at"o"
theorem Dp{W:Nat->Int}{b k i:Nat}(hW:∀ i,Bt b (W i))(hk:k<=5):Bt (6*b+26) (Lq W k i):=by
 rw[rG]
 refine (xj (b:=b+(5*b+19)) (fun j=>(hW _).mul (qP hW hk)) (k+1)).mono (by walk_at"o")
theorem qK{W:Nat->Int}{b k:Nat}(hW:∀ i,Bt b (W i))(hk:k<=6):Bt (6*b+26) (Dk W k):=by
 cases k with
 | zero =>
  rw[DT]
  unfold Bt
  exact Nat.lt_of_lt_of_le (by decide:(1:Int).natAbs<2 ^ 1) (Nat.pow_le_pow_right (by decide) (by walk_at"o"))
 | succ k=>rw[<- ic];exact Dp hW (by walk_at"o")
end L2
namespace L2
open PySem PySem.Spec PyProof.Rows
theorem pB{D n:Int}{a:Nat}{q:Int × Int}(hq:Fq q)(e:wv q=(n:Rat) / (D:Rat))(hD:D ≠ 0)(h1:Bt a n)(h2:Bt a D):Bq a q:=by
 rw[kR hq (iS hD) (by rw[iQ hD,e])]
 exact nL hD h1 h2
theorem GI{D E:Int}{a b:Nat}{f g:Nat->Rat}(hD:D ≠ 0)(hE:E ≠ 0)(h1:Ob D a f)(h2:Ob E b g)(j l:Nat):Ob (D*E) (a+b+j+1) (fun k=>qr f g j l k):=by
 have hp:=Ob.pr hD hE h1 h2 j
 have hx:Ob (D*E) (a+b) (fun k=>if j<=k/\k - j<l then f j*g (k - j) else 0):=fun k=>by
  by_cases hc:j<=k/\k - j<l
  ·obtain⟨m,e1,b1⟩:=h1 j
   obtain⟨n,e2,b2⟩:=h2 (k - j)
   refine⟨m*n,?_,b1.mul b2⟩
   show (if _ then _ else _)=_
   rw[if_pos hc,e1,e2,Rat.intCast_mul,Rat.intCast_mul]
   have n1:(D:Rat) ≠ 0:=aD hD
   have n2:(E:Rat) ≠ 0:=aD hE
   grind
  ·refine⟨0,?_,by unfold Bt;exact Nat.pow_pos (by decide)⟩
   show (if _ then _ else _)=_
   rw[if_neg hc]
   have:((0:Int):Rat)=0:=rfl
   rw[this]
   grind
 exact (Ob.add hp hx).mono (by walk_at"o")
theorem vj{D E:Int}{a b:Nat}{f g:Nat->Rat}(hD:D ≠ 0)(hE:E ≠ 0)(h1:Ob D a f)(h2:Ob E b g):∀ j,∃ n:Int,bZ f g j=(n:Rat) / ((D*E:Int):Rat)/\Bt (a+b+j) n
 | 0=>⟨0,by
   show (0:Rat)=_
   have:((0:Int):Rat)=0:=rfl
   rw[this]
   grind,by unfold Bt;exact Nat.pow_pos (by decide)⟩
 | j+1=>by
  obtain⟨n,e,bn⟩:=vj hD hE h1 h2 j
  obtain⟨x,e1,b1⟩:=h1 j
  obtain⟨y,e2,b2⟩:=h2 j
  refine⟨n+x*y,?_,?_⟩
  ·show bZ f g j+f j*g j=_
   rw[e,e1,e2,Rat.intCast_add,Rat.intCast_mul,Rat.intCast_mul]
   have n1:(D:Rat) ≠ 0:=aD hD
   have n2:(E:Rat) ≠ 0:=aD hE
   grind
  ·have h3:=Bt.mul b1 b2
   unfold Bt at bn h3 ⊢
   have e3:(2:Nat) ^ (a+b+(j+1))=2 ^ (a+b+j)+2 ^ (a+b+j):=by rw[<- Nat.add_assoc,Nat.pow_succ];walk_at"o"
   have e4:(2:Nat) ^ (a+b)<=2 ^ (a+b+j):=Nat.pow_le_pow_right (by decide) (by walk_at"o")
   have h4:=Int.natAbs_add_le n (x*y)
   walk_at"o"
end L2
namespace L2
open PySem PySem.Spec PyProof.Rows
theorem pc{f g h:Nat->Rat}:∀ n,bZ (fun i=>f i+g i) h n=bZ f h n+bZ g h n
 | 0=>by show (0:Rat)=0+0;grind
 | n+1=>by
  show bZ (fun i=>f i+g i) h n+(f n+g n)*h n=(bZ f h n+f n*h n)+(bZ g h n+g n*h n)
  rw[pc n]
  grind
theorem hU{f h:Nat->Rat}:∀ n,(∀ i,i<n->f i*h i=0)->bZ f h n=0
 | 0,_=>rfl
 | n+1,hz=>by
  show bZ f h n+f n*h n=0
  rw[hU n fun i hi=>hz i (by walk_at"o"),hz n (by walk_at"o")]
  grind
theorem gi{f h:Nat->Rat}{n:Nat}(hz:∀ i,n<=i->f i*h i=0):∀ m,bZ f h (n+m)=bZ f h n
 | 0=>rfl
 | m+1=>by
  show bZ f h (n+m)+f (n+m)*h (n+m)=bZ f h n
  rw[gi hz m,hz (n+m) (by walk_at"o")]
  grind
theorem qu{g h:Nat->Rat}{c:Rat}{n:Nat}:∀ N,bZ (fun m=>if n<=m then c*g (m - n) else 0) h N=c*bZ g (fun j=>h (n+j)) (N - n)
 | 0=>by
  rw[Nat.zero_sub]
  show (0:Rat)=c*0
  grind
 | N+1=>by
  show bZ (fun m=>if n<=m then c*g (m - n) else 0) h N+(if n<=N then c*g (N - n) else 0)*h N=_
  rw[qu N]
  by_cases e:n<=N
  ·rw[if_pos e,show N+1 - n=(N - n)+1 by walk_at"o"]
   show _=c*(bZ g (fun j=>h (n+j)) (N - n)+g (N - n)*h (n+(N - n)))
   rw[show n+(N - n)=N by walk_at"o"]
   grind
  ·rw[if_neg e,show N+1 - n=0 by walk_at"o",show N - n=0 by walk_at"o"]
   show c*0+0*h N=c*0
   grind
theorem AN{f g h:Nat->Rat}{N:Nat}:∀ n,bZ (fun m=>pr f g n m) h N=bZ f (fun i=>bZ g (fun j=>h (i+j)) (N - i)) n
 | 0=>hU N fun i _=>by
  show (0:Rat)*h i=0
  grind
 | n+1=>by
  have e:(fun m=>pr f g (n+1) m)=fun m=>pr f g n m+if n<=m then f n*g (m - n) else 0:=rfl
  rw[e,pc,AN n,qu]
  rfl
theorem vG{F G:Nat->Rat}{f g:Nat->Int}{c d:Rat}(hc:c ≠ 0)(hd:d ≠ 0)(hF:∀ i,F i=((f i:Int):Rat) / c)(hG:∀ i,G i=((g i:Int):Rat) / d):∀ n,bZ F G n=((ca (fun i=>g i*f i) n:Int):Rat) / (c*d)
 | 0=>by
  show (0:Rat)=((0:Int):Rat) / (c*d)
  have:((0:Int):Rat)=0:=rfl
  rw[this]
  grind
 | n+1=>by
  show bZ F G n+F n*G n=((ca (fun i=>g i*f i) n+g n*f n:Int):Rat) / (c*d)
  rw[vG hc hd hF hG n,hF n,hG n,Rat.intCast_add,Rat.intCast_mul]
  grind
section
variable {W:Nat->Int}{B:Int}{k:Nat}{P S:Nat->Rat}
theorem tW(hD:Dk W k ≠ 0)(hB:B ≠ 0)(hP:∀ j,P j=((qk W k j:Int):Rat) / ((Dk W k:Int):Rat))(hS:∀ i,((W i:Int):Rat)=S i*(B:Rat))(i:Nat):bZ P (fun j=>S (i+j)) (k+1)=((Lq W k i:Int):Rat) / (((Dk W k:Int):Rat)*(B:Rat)):=by
 have cB:(B:Rat) ≠ 0:=aD hB
 rw[vG (f:=qk W k) (g:=fun j=>W (i+j)) (c:=((Dk W k:Int):Rat)) (d:=(B:Rat)) (aD hD) cB hP (fun j=>by have:=hS (i+j);grind),<- rG]
end
end L2
namespace L2
open PySem PySem.Spec PyProof.Rows
theorem ug{f g h:Nat->Rat}:∀ n,bZ f (fun i=>g i+h i) n=bZ f g n+bZ f h n
 | 0=>by show (0:Rat)=0+0;grind
 | n+1=>by
  show bZ f (fun i=>g i+h i) n+f n*(g n+h n)=(bZ f g n+f n*g n)+(bZ f h n+f n*h n)
  rw[ug n]
  grind
theorem oX{f h:Nat->Rat}{c:Rat}:∀ n,bZ (fun i=>c*f i) h n=c*bZ f h n
 | 0=>by show (0:Rat)=c*0;grind
 | n+1=>by
  show bZ (fun i=>c*f i) h n+(c*f n)*h n=c*(bZ f h n+f n*h n)
  rw[oX n]
  grind
theorem ut{f h:Nat->Rat}{c:Rat}:∀ n,bZ f (fun i=>c*h i) n=c*bZ f h n
 | 0=>by show (0:Rat)=c*0;grind
 | n+1=>by
  show bZ f (fun i=>c*h i) n+f n*(c*h n)=c*(bZ f h n+f n*h n)
  rw[ut n]
  grind
def ip(S u v:Nat->Rat)(m n:Nat):Rat:=bZ u (fun i=>bZ v (fun j=>S (i+j)) n) m
theorem iJ{S u v:Nat->Rat}{n:Nat}:∀ m,ip S u v m n=ip S v u n m
 | 0=>by
  unfold ip
  show (0:Rat)=bZ v (fun j=>0) n
  rw[hU n fun i _=>by grind]
 | m+1=>by
  have h:=iJ (S:=S) (u:=u) (v:=v) (n:=n) m
  unfold ip at h ⊢
  show bZ u (fun i=>bZ v (fun j=>S (i+j)) n) m+u m*bZ v (fun j=>S (m+j)) n=bZ v (fun i=>bZ u (fun j=>S (i+j)) m+u m*S (i+m)) n
  rw[ug,ut,h]
  congr 2
  exact fD n (fun _ _=>rfl) fun i _=>by rw[Nat.add_comm]
section
variable {S:Nat->Rat}{P:Nat->Nat->Rat}{h:Nat->Rat}{M n:Nat}
end
section
variable {W:Nat->Int}{B:Int}{S:Nat->Rat}
theorem ET{k m:Nat}{p v:Nat->Rat}(hD:Dk W k ≠ 0)(hB:B ≠ 0)(hP:∀ j,p j=((qk W k j:Int):Rat) / ((Dk W k:Int):Rat))(hS:∀ i,((W i:Int):Rat)=S i*(B:Rat))(hm:k+1<=m)(n:Nat):ip S v p n m=bZ v (fun i=>((Lq W k i:Int):Rat) / (((Dk W k:Int):Rat)*(B:Rat))) n:=by
 refine fD n (fun _ _=>rfl) fun i _=>?_
 rw[<- tW hD hB hP hS i]
 have:=gi (f:=p) (h:=fun j=>S (i+j)) (n:=k+1) (fun j hj=>by
  have z:((0:Int):Rat)=0:=rfl
  rw[hP j,fT (by walk_at"o"),z]
  grind) (m - (k+1))
 rw[show k+1+(m - (k+1))=m by walk_at"o"] at this
 exact this
end
end L2
namespace L2
open PySem PySem.Spec PyProof.Rows
theorem xw{v:Nat->Rat}{x c:Rat}:∀ n,bZ v (fun j=>c*de x j) n=c*gh v n x
 | 0=>by show (0:Rat)=c*0;grind
 | n+1=>by
  show bZ v (fun j=>c*de x j) n+v n*(c*de x n)=c*(gh v n x+v n*de x n)
  rw[xw n]
  grind
theorem BW(y:Rat):0<=y*y:=by
 rcases Rat.le_total (a:=0) (b:=y) with h|h
 ·exact Rat.mul_nonneg h h
 ·have:=Rat.mul_nonneg (Rat.neg_le_neg h) (Rat.neg_le_neg h)
  grind
section
variable {W:Nat->Int}{B:Int}{cs:List sR}
def Pk(W:Nat->Int)(k:Nat):Nat->Rat:=fun j=>((qk W k j:Int):Rat) / ((Dk W k:Int):Rat)
theorem y6{k j:Nat}(h:k<j):Pk W k j=0:=by
 have z:((0:Int):Rat)=0:=rfl
 unfold Pk
 rw[fT h,z]
 grind
theorem Au{k:Nat}(h:Dk W k ≠ 0):Pk W k k=1:=by
 have:=aD h
 unfold Pk
 rw[gD]
 grind
end
end L2
namespace L2
open PySem PySem.Spec PyProof.Rows
theorem yu{W:Nat->Int}{b k j:Nat}(hW:∀ i,Bt b (W i))(hk:k<=5):Bt ((b+3)*k+4) (qk W k j):=by
 have h:=sr (W:=W) (B:=2 ^ b) (k:=k) (fun i=>Nat.le_of_lt (hW i)) j
 refine Bt.of_le (n:=(b+3)*k+3) (Nat.le_trans h ?_) (by walk_at"o")
 have h1:(k+1)*2 ^ b<=2 ^ (b+3):=by
  rw[Nat.pow_add,Nat.mul_comm]
  exact Nat.mul_le_mul_left _ (by walk_at"o")
 have h2:((k+1)*2 ^ b) ^ k<=2 ^ ((b+3)*k):=by
  refine Nat.le_trans (Nat.pow_le_pow_left h1 k) ?_
  rw[<- Nat.pow_mul]
  exact Nat.le_refl _
 have h3:(2:Nat) ^ ((b+3)*k+3)=8*2 ^ ((b+3)*k):=by
  rw[Nat.pow_add]
  walk_at"o"
 rw[h3]
 exact Nat.mul_le_mul (by walk_at"o") h2
theorem D9{W:Nat->Int}{b k:Nat}(hW:∀ i,Bt b (W i))(hk:k<=5):Bt ((b+3)*k+4) (Dk W k):=by
 rw[<- gD]
 exact yu hW hk
theorem j5{b:Nat}:∀{fs:List (Int × Int)},(∀ q ∈ fs,Fq q/\Bq b q)->Pb (b*fs.length+1) (cf fs)
 | [],_=>(FH (a:=1) (by decide)).mono (by simp)
 | q :: qs,h=>by
  obtain⟨D,d0,bD,o⟩:=j5 (b:=b) (fs:=qs) fun q hq=>h q (by simp[hq])
  obtain⟨f,bt,bb⟩:=h q (by simp)
  have c1:=aD f.ne
  have c2:=aD d0
  have e:b*(q :: qs).length+1=b+(b*qs.length+1):=by rw[List.length_cons,Nat.mul_add];walk_at"o"
  rw[e]
  refine⟨q.2*D,Int.mul_ne_zero f.ne d0,bb.mul bD,fun k=>?_⟩
  cases k with
  | zero =>
   refine⟨q.1*D,?_,bt.mul bD⟩
   rw[aZ (q:=q) rfl,Rat.intCast_mul,Rat.intCast_mul]
   unfold wv
   grind
  | succ k =>
   obtain⟨n,en,bn⟩:=o k
   refine⟨q.2*n,?_,bb.mul bn⟩
   have:cf (q :: qs) (k+1)=cf qs k:=rfl
   rw[this,en,Rat.intCast_mul,Rat.intCast_mul]
   grind
end L2
namespace L2
open PySem PySem.Spec PyProof.Rows
section
variable {W:Nat->Int}{B:Int}{S:Nat->Rat}{M:Nat}
end
end L2
namespace L2
open PySem PySem.Spec PyProof.Rows
end L2
namespace L2
open PySem PyProof.Rows
theorem G6{i:Int}(h:0<=i):Builtin.bitAnd i 1=i % 2:=by
 rw[PyProof.Rows.bitAnd_pp h (by decide)]
 show ((i.toNat &&& 1:Nat):Int)=_
 rw[Nat.and_one_is_mod]
 walk_at"o"
theorem zG{W:Nat->Int}{b k j:Nat}(hW:∀ i,Bt b (W i))(hk:k<=6):Bt (6*b+22) (qk W k j):=by
 have h:=sr (W:=W) (B:=2 ^ b) (k:=k) (fun i=>Nat.le_of_lt (hW i)) j
 refine Bt.of_le (n:=6*b+21) (Nat.le_trans h ?_) (by walk_at"o")
 have h1:(k+1)*2 ^ b<=2 ^ (b+3):=by
  rw[Nat.pow_add,Nat.mul_comm]
  exact Nat.mul_le_mul_left _ (by walk_at"o")
 have h2:((k+1)*2 ^ b) ^ k<=2 ^ (6*b+18):=by
  refine Nat.le_trans (Nat.pow_le_pow_left h1 k) ?_
  rw[<- Nat.pow_mul]
  refine Nat.pow_le_pow_right (by decide) ?_
  have:(b+3)*k<=(b+3)*6:=Nat.mul_le_mul_left _ hk
  walk_at"o"
 have h3:(2:Nat) ^ (6*b+21)=8*2 ^ (6*b+18):=by
  rw[show 6*b+21=(6*b+18)+3 by walk_at"o",Nat.pow_add]
  walk_at"o"
 rw[h3]
 exact Nat.mul_le_mul (by walk_at"o") h2
section
variable {X:Cx}
theorem wV:fb X (binaryOp .BitAnd) (rI (fun i j=>0<=i/\j=1) fun i j=>.int (i % 2)):=GA fun i j _ _ _ _ _ hc q=>by
 obtain⟨h0,rfl⟩:=hc
 refine and_int ?_
 rw[G6 h0]
 exact q
def Gq(K:W.Frag)(ta tb:TE):TE:=fun σ H Q=>ta σ H fun x H1=>∃ k,sV K x H1 k/\if k=true then Q x H1 else tb σ H1 Q
theorem Ep{a b:Expr}{pos:Pos}{ta tb:TE}(ha:QE X a ta)(hb:QE X b tb):QE X (.BoolOp .Or [a,b] pos) (Gq X.K ta tb):=⟨by
 intro pins s σ H Q I h
 refine BoolOp_or (dE (ha.h pins s σ H _ I h) fun v s1 ⟨x,H1,I1,r1,k,e,q1⟩=>?_)
 refine dE (uL pins s1 σ H1 x v (fun c H'=>H'=H1/\c=k) I1 r1 ⟨k,e,rfl,rfl⟩) fun c s2 ⟨H',I2,e1,e2⟩=>?_
 subst e1 e2
 cases c with
 | true=>rw[if_pos rfl] at q1 ⊢;exact⟨x,_,I2,r1,q1⟩
 | false=>rw[if_neg Bool.false_ne_true] at q1 ⊢;exact BoolOp_one (hb.h pins s2 σ _ Q I2 q1)⟩
end
end L2
namespace L2
open PySem PySem.Spec PyProof.Rows
section
variable {W:Nat->Int}{k:Nat}
end
end L2
namespace L2
open PySem PySem.Spec PyProof.Rows
section
variable {P:Program}{w:World}{K:W.Frag}{mg:Str->Option Value}{base:Heap}
end
end L2
namespace L2
open PySem PySem.Spec PyProof.Rows
section
variable {X:Cx}{a b:Expr}{pos:Pos}{t:St->Hp->XK->Prop}
end
section
variable {P:Program}{w:World}{K:W.Frag}{mg:Str->Option Value}{base:Heap}
end
end L2
namespace L2
open PySem PySem.Spec PyProof.Rows
structure Lm where
 p:Addr
 c:Addr
 ps:Arguments
 b:Expr
 sc:Scope
section
variable {P:Addr}{G0 G G' L0 L1 L3:Hp}{qual:Str}{cl:List (Str × Addr)}{cs p c':Addr}{xs:List Lm}{params:Arguments}{body:Expr}{scope:Scope}
end
end L2
namespace L2
open PySem PySem.Spec PyProof.Rows
structure oP (P:Program)(base:Heap):Prop where
 seer:base.NoSeer
 tree:P.given.tree=none
def xZ(_ j:Int):Prop:=j ≠ 0
theorem iy{X:Cx}{k:Nat}(N:oP X.prog X.base)(hr:gy k X.A)(hst:X.stack=X.env :: X.outer)(hgen:X.env.scope.isGenerator=false)(hco:X.env.scope.isCoroutine=false) :
  fb X (binaryOp .FloorDiv) (rI xZ fun i j=>.int (i.fdiv j)):=by
 intro pins s σ H x y v u Q I rx ry h
 obtain⟨i,j,rfl,rfl,hc,q⟩:=h
 obtain⟨t,rfl⟩:=rx
 obtain⟨t',rfl⟩:=ry
 refine floordiv_int hc ⟨.int (i.fdiv j),H,I.tok _,⟨_,rfl⟩,q⟩ (.inr ?_)
 refine PySem.PylongRoom.of I.nolimit ?_ (PySem.SeerAt.of (N.seer.keeps I.bk) N.tree (I.ok.frames.trans (congrArg some hst)) hgen hco I.ok.blt I.ok.glob)
 have:=hr.dp
 show X.A.depth+100<recursionLimit
 walk_at"o"
end L2
namespace L2
open PySem
def hR(W:Nat->Int)(B:Int)(k:Nat):Rat:=((Dk W (k+1):Int):Rat) / ((Dk W k*B:Int):Rat)
theorem yI{v:Nat->Rat}{x:Rat}:EV v x=bZ v (fun j=>1*de x j) 20:=by
 rw[xw]
 unfold EV
 grind
section
variable {W:Nat->Int}{B:Int}{x:Rat}{m:Nat}
end
def tb:Nat->Nat
 | 0=>1
 | k+1=>tb k+(360*k+280)
end L2
namespace L2
open PySem
def dw(M:Nat):List (Nat->Int)->Om
 | []=>ve
 | r :: rs=>wg M r (dw M rs)
def dt(M:Nat)(rows:List (Nat->Int)):Int:=dw M rows (uH M)
theorem DE{v:Nat->Int}{m:Nat}{o p:Om}(h:∀ k,o k = - p k)(l:List Bool):wg m v o l = - wg m v p l:=by
 have e:=mZ (v:=v) (a:=-1) (b:=0) m p p l
 rw[<- gu (o:=o) (p:=fun k=>-1*p k+0*p k) (fun k=>by rw[h];walk_at"o") l] at e
 walk_at"o"
theorem wP{v:Nat->Int}{a:Int}{m:Nat}{o p:Om}(h:∀ k,o k=a*p k)(l:List Bool):wg m v o l=a*wg m v p l:=by
 have e:=mZ (v:=v) (a:=a) (b:=0) m p p l
 rw[<- gu (o:=o) (p:=fun k=>a*p k+0*p k) (fun k=>by rw[h];walk_at"o") l] at e
 walk_at"o"
theorem Fl{u v:Nat->Int}{m:Nat}{o:Om}{l:List Bool}(h:∀ i,i<m->u i=v i):wg m u o l=wg m v o l:=by
 have e:=jD (u:=u) (v:=v) (a:=1) (b:=-1) m o l
 rw[iH m o l fun i hi=>by rw[h i hi];walk_at"o"] at e
 walk_at"o"
def Pm(x y:Int):Prop:=x=y\/x = -y
theorem Pm.rfl'{x:Int}:Pm x x:=.inl rfl
theorem Pm.symm{x y:Int}(h:Pm x y):Pm y x:=by rcases h with e|e <;> unfold Pm <;> walk_at"o"
theorem Pm.trans{x y z:Int}(h:Pm x y)(g:Pm y z):Pm x z:=by rcases h with e|e <;> rcases g with f|f <;> unfold Pm <;> walk_at"o"
theorem Pm.mul{x y:Int}(h:Pm x y)(a:Int):Pm (a*x) (a*y):=by
 rcases h with e|e
 ·exact .inl (by rw[e])
 ·exact .inr (by rw[e,Int.mul_neg])
theorem Pm.of_mul{a x y:Int}(h:Pm (a*x) (a*y))(ha:a ≠ 0):Pm x y:=by
 rcases h with e|e
 ·exact .inl (Int.eq_of_mul_eq_mul_left ha e)
 ·exact .inr (Int.eq_of_mul_eq_mul_left ha (by rw[e,Int.mul_neg]))
theorem uG{M:Nat}{x:Nat->Int}:∀ {rows:List (Nat->Int)},x ∈ rows -> ∀ l,wg M x (dw M rows) l=0
 | [],h,_=>by cases h
 | y :: rs,h,l=>by
  show wg M x (wg M y (dw M rs)) l=0
  rcases List.mem_cons.mp h with rfl|z
  ·exact wB M _ l
  ·rw[j3,j4 M _ l fun k=>uG z k]
   rfl
theorem BZ{M:Nat}{a b:List (Nat->Int)}(h:a.Perm b):(∀ l,dw M a l=dw M b l) \/ ∀ l,dw M a l = - dw M b l:=by
 induction h with
 | nil=>exact .inl fun _=>rfl
 | cons x _ ih =>
  rcases ih with e|e
  ·exact .inl fun l=>gu e l
  ·exact .inr fun l=>DE e l
 | swap x y l=>exact .inr fun k=>j3 M _ k
 | trans _ _ ih1 ih2 =>
  rcases ih1 with e|e <;> rcases ih2 with f|f
  ·exact .inl fun l=>by rw[e,f]
  ·exact .inr fun l=>by rw[e,f]
  ·exact .inr fun l=>by rw[e,f]
  ·exact .inl fun l=>by rw[e,f];walk_at"o"
theorem sB{M:Nat}{a b:List (Nat->Int)}(h:a.Perm b):Pm (dt M a) (dt M b):=by
 rcases BZ (M:=M) h with e|e
 ·exact .inl (e _)
 ·exact .inr (e _)
theorem tX{m:Nat}:∀(rs:List (Nat->Int))(l:List Bool),dw (m+1) rs (false :: l)=dw m rs l
 | [],l=>by simp[dw,ve]
 | r :: rs,l=>by
  show wg (m+1) r (dw (m+1) rs) (false :: l)=wg m r (dw m rs) l
  rw[kP]
  exact gu (fun k=>tX rs k) l
theorem wF{m:Nat}:∀{rs:List (Nat->Int)},(∀ r ∈ rs,r m=0) -> ∀ l,dw (m+1) rs (true :: l)=0
 | [],_,l=>by simp[dw,ve]
 | r :: rs,h,l=>by
  show wg (m+1) r (dw (m+1) rs) (true :: l)=0
  rw[kz,h r List.mem_cons_self,j4 m _ l fun k=>wF (fun x hx=>h x (List.mem_cons_of_mem _ hx)) k]
  walk_at"o"
theorem DD{m:Nat}{r:Nat->Int}{rs:List (Nat->Int)}(h:∀ x ∈ rs,x m=0):dt (m+1) (r :: rs)=r m*dt m rs:=by
 show wg (m+1) r (dw (m+1) rs) (true :: uH m)=r m*dw m rs (uH m)
 rw[kz,tX,j4 m _ _ fun k=>wF h k]
 walk_at"o"
def st(g:Nat->Nat->Int)(lo:Nat):Nat->List (Nat->Int)
 | 0=>[]
 | n+1=>g (lo+n) :: st g lo n
theorem kQ{g:Nat->Nat->Int}{lo:Nat}{x:Nat->Int}:∀ {n:Nat},x ∈ st g lo n -> ∃ i,i<n/\x=g (lo+i)
 | 0,h=>by cases h
 | n+1,h=>by
  rcases List.mem_cons.mp h with rfl|z
  ·exact⟨n,by walk_at"o",rfl⟩
  ·obtain⟨i,hi,e⟩:=kQ z
   exact⟨i,by walk_at"o",e⟩
theorem Aq{g:Nat->Nat->Int}{lo i:Nat}:∀ {n:Nat},i<n->g (lo+i) ∈ st g lo n
 | 0,h=>by walk_at"o"
 | n+1,h=>by
  by_cases e:i=n
  ·rw[e];exact List.mem_cons_self
  ·exact List.mem_cons_of_mem _ (Aq (by walk_at"o"))
theorem uW(g:Nat->Nat->Int)(lo n:Nat):∀ m,st g lo (n+m)=st g (lo+n) m ++ st g lo n
 | 0=>rfl
 | m+1=>by
  show g (lo+(n+m)) :: st g lo (n+m)=g (lo+n+m) :: (st g (lo+n) m ++ st g lo n)
  rw[uW g lo n m,Nat.add_assoc]
theorem jO{g:Nat->Nat->Int}{c:Int}{d0 lo:Nat}{X:List (Nat->Int)}(h1:∀ i,g i (d0+i)=c)(h2:∀ i k,d0+i<k->g i k=0)(hX:∀ x ∈ X,∀ k,d0+lo<=k->x k=0):∀ n,dt (d0+lo+n) (st g lo n ++ X)=c ^ n*dt (d0+lo) X
 | 0=>by show dt (d0+lo) X=c ^ 0*_;rw[Int.pow_zero,Int.one_mul]
 | n+1=>by
  show dt (d0+lo+n+1) (g (lo+n) :: (st g lo n ++ X))=_
  rw[DD,jO h1 h2 hX n,show d0+lo+n=d0+(lo+n) by walk_at"o",h1,Int.pow_succ,Int.mul_comm (c ^ n) c,Int.mul_assoc]
  intro x hx
  rcases List.mem_append.mp hx with z|z
  ·obtain⟨i,hi,rfl⟩:=kQ z
   exact h2 _ _ (by walk_at"o")
  ·exact hX x z _ (by walk_at"o")
def tu(M:Nat)(X:List (Nat->Int))(v:Nat->Int):Prop:=∀ rows:List (Nat->Int),(∀ x ∈ X,x ∈ rows) -> ∀ l,wg M v (dw M rows) l=0
theorem tu.mem{M:Nat}{X:List (Nat->Int)}{v:Nat->Int}(h:v ∈ X):tu M X v:=fun rows hr l=>uG (hr v h) l
theorem tu.zero{M:Nat}{X:List (Nat->Int)}:tu M X fun _=>0:=fun rows _ l=>iH M _ l fun _ _=>rfl
theorem tu.lin{M:Nat}{X:List (Nat->Int)}{u v:Nat->Int}{a b:Int}(hu:tu M X u)(hv:tu M X v):tu M X fun k=>a*u k+b*v k:=fun rows hr l=>by
 rw[jD,hu rows hr l,hv rows hr l]
 walk_at"o"
theorem tu.sum{M:Nat}{X:List (Nat->Int)}{q:Nat->Int}{g:Nat->Nat->Int}:∀ n,(∀ i,i<n->g i ∈ X)->tu M X fun k=>ca (fun i=>q i*g i k) n
 | 0,_=>tu.zero
 | n+1,h=>by
  have e:=tu.lin (a:=1) (b:=q n) (tu.sum (q:=q) n fun i hi=>h i (by walk_at"o")) (tu.mem (M:=M) (h n (by walk_at"o")))
  have f:(fun k=>1*ca (fun i=>q i*g i k) n+q n*g n k)=fun k=>ca (fun i=>q i*g i k) (n+1):=by
   funext k
   show 1*_+_=ca _ n+q n*g n k
   walk_at"o"
  rw[f] at e
  exact e
theorem Aa{M:Nat}{f r:Nat->Nat->Int}{c b:Int}{X:List (Nat->Int)}:∀ n,(∀ i,i<n -> ∃ v,tu M X v /\ ∀ k,c*f i k=b*r i k+v k) -> ∀ l,c ^ n*dw M (st f 0 n ++ X) l=b ^ n*dw M (st r 0 n ++ X) l
 | 0,_,l=>by rw[Int.pow_zero,Int.pow_zero];rfl
 | n+1,h,l=>by
  have ih:=Aa n fun i hi=>h i (by walk_at"o")
  obtain⟨v,hv,e⟩:=h n (by walk_at"o")
  show c ^ (n+1)*wg M (f (0+n)) (dw M (st f 0 n ++ X)) l=b ^ (n+1)*wg M (r (0+n)) (dw M (st r 0 n ++ X)) l
  rw[Nat.zero_add]
  have e1:c ^ n*wg M (f n) (dw M (st f 0 n ++ X)) l=b ^ n*wg M (f n) (dw M (st r 0 n ++ X)) l:=by
   rw[<- wP (o:=fun k=>c ^ n*dw M (st f 0 n ++ X) k) (fun _=>rfl) l,<- wP (o:=fun k=>b ^ n*dw M (st r 0 n ++ X) k) (fun _=>rfl) l]
   exact gu ih l
  have e2:c*wg M (f n) (dw M (st r 0 n ++ X)) l=b*wg M (r n) (dw M (st r 0 n ++ X)) l:=by
   have a1:=jD (u:=f n) (v:=f n) (a:=c) (b:=0) M (dw M (st r 0 n ++ X)) l
   have a2:=jD (u:=r n) (v:=v) (a:=b) (b:=1) M (dw M (st r 0 n ++ X)) l
   rw[hv _ (fun x hx=>List.mem_append_right _ hx) l] at a2
   have a3:(fun i=>c*f n i+0*f n i)=fun i=>b*r n i+1*v i:=by
    funext k
    have:=e k
    walk_at"o"
   rw[a3,a2] at a1
   walk_at"o"
  rw[Int.pow_succ,Int.pow_succ,Int.mul_comm (c ^ n) c,Int.mul_assoc,e1,Int.mul_left_comm,e2,Int.mul_assoc]
theorem E6{M:Nat}{f r:Nat->Nat->Int}{c b:Int}{X:List (Nat->Int)}(n:Nat)(h:∀ i,i<n -> ∃ v,tu M X v /\ ∀ k,c*f i k=b*r i k+v k):c ^ n*dt M (st f 0 n ++ X)=b ^ n*dt M (st r 0 n ++ X):=Aa n h _
def sh(f:Nat->Int)(i k:Nat):Int:=if i<=k then f (k - i) else 0
def Ej(j k:Nat):List (Nat->Int):=((List.range (j+1)).filter fun i=>decide (i ≠ k)).map kA
theorem vA{j k:Nat}{x:Nat->Int}(h:x ∈ Ej j k) {m:Nat}(hm:j<m):x m=0:=by
 obtain⟨i,hi,rfl⟩:=List.mem_map.mp h
 have:=List.mem_range.mp (List.mem_filter.mp hi).1
 exact if_neg (by walk_at"o")
theorem AQ:∀ n,st kA 0 n=((List.range n).reverse).map kA
 | 0=>rfl
 | n+1=>by
  rw[List.range_succ,List.reverse_append]
  show kA (0+n) :: st kA 0 n=kA n :: _
  rw[AQ n,Nat.zero_add]
  rfl
theorem Bf(n:Nat):dt n (st kA 0 n)=1:=by
 have e:=jO (g:=kA) (c:=1) (d0:=0) (lo:=0) (X:=[]) (fun i=>by rw[Nat.zero_add];exact if_pos rfl) (fun i k h=>if_neg (by walk_at"o")) (fun x hx=>by cases hx) n
 rw[List.append_nil,Int.one_pow,Nat.zero_add,Nat.zero_add] at e
 rw[e]
 rfl
theorem wY{j k:Nat}(h:k<=j):(kA k :: Ej j k).Perm (st kA 0 (j+1)):=by
 rw[AQ]
 show (List.map kA (k :: (List.range (j+1)).filter fun i=>decide (i ≠ k))).Perm _
 refine List.Perm.map _ (List.Perm.trans ?_ (List.reverse_perm _).symm)
 have nd:(List.range (j+1)).Nodup:=List.nodup_range
 have e:(List.range (j+1)).filter (fun i=>decide (i ≠ k))=(List.range (j+1)).erase k:=by
  rw[nd.erase_eq_filter]
  congr 1
  funext i
  by_cases z:i=k
  ·simp[z]
  ·simp[z]
 rw[e]
 exact (List.perm_cons_erase (List.mem_range.mpr (by walk_at"o"))).symm
theorem zM{j k:Nat}{R:Nat->Int}(h:k<=j):Pm (dt (j+1) (R :: Ej j k)) (R k):=by
 have e:dt (j+1) (R :: Ej j k)=R k*dt (j+1) (kA k :: Ej j k):=by
  show wg (j+1) R (dw (j+1) (Ej j k)) (uH (j+1))=R k*wg (j+1) (kA k) (dw (j+1) (Ej j k)) (uH (j+1))
  have e1:wg (j+1) R (dw (j+1) (Ej j k)) (uH (j+1))=wg (j+1) (fun i=>ca (fun a=>R a*kA a i) (j+1)) (dw (j+1) (Ej j k)) (uH (j+1)):=Fl fun i hi=>by
   rw[iT (j:=i) (j+1) (fun a _ ha=>by rw[show kA a i=0 from if_neg (fun z=>ha z.symm)];walk_at"o") hi,show kA i i=1 from if_pos rfl]
   walk_at"o"
  rw[e1,mD]
  refine iT (j+1) (fun i hi hn=>?_) (by walk_at"o")
  have z:kA i ∈ Ej j k:=List.mem_map.mpr ⟨i,List.mem_filter.mpr ⟨List.mem_range.mpr hi,decide_eq_true hn⟩,rfl⟩
  rw[uG z]
  walk_at"o"
 rw[e]
 have p:=(sB (M:=j+1) (wY h)).mul (R k)
 rw[Bf,Int.mul_one] at p
 exact p
end L2
namespace L2
open PySem
def SR(f g:Nat->Int)(a b j k:Nat):Int:=dt (a+b - j) (st (sh f) 0 (b - j) ++ (st (sh g) 0 (a - j) ++ Ej j k))
theorem vy{f:Nat->Int}{a i:Nat}:sh f i (a+i)=f a:=by
 unfold sh
 rw[if_pos (by walk_at"o"),show a+i - i=a by walk_at"o"]
theorem m9{f:Nat->Int}{a:Nat}(h:∀ k,a<k->f k=0) {i k:Nat}(hk:a+i<k):sh f i k=0:=by
 unfold sh
 rw[if_pos (by walk_at"o")]
 exact h _ (by walk_at"o")
def cv(q g:Nat->Int)(n k:Nat):Int:=ca (fun t=>q t*sh g t k) n
theorem D3{q g:Nat->Int}{i n:Nat}:∀ k,sh (cv q g n) i k=ca (fun t=>q t*sh g (i+t) k) n:=fun k=>by
 unfold sh
 by_cases h:i<=k
 ·rw[if_pos h]
  refine fA n fun t _=>?_
  show q t*(if t<=k - i then g (k - i - t) else 0)=q t*(if i+t<=k then g (k - (i+t)) else 0)
  by_cases z:t<=k - i
  ·rw[if_pos z,if_pos (by walk_at"o"),show k - i - t=k - (i+t) by walk_at"o"]
  ·rw[if_neg z,if_neg (by walk_at"o")]
 ·rw[if_neg h]
  refine (ge n fun t _=>?_).symm
  rw[if_neg (by walk_at"o")]
  exact Int.mul_zero _
theorem zD{f g q r:Nat->Int}{a b j k:Nat}{γ β:Int}(ab:b<=a)(jb:j<=b)(e:∀ k,γ*f k=cv q g (a - b+1) k+β*r k) :
  γ ^ (b - j)*SR f g a b j k=β ^ (b - j)*dt (a+b - j) (st (sh r) 0 (b - j) ++ (st (sh g) 0 (a - j) ++ Ej j k)):=by
 refine E6 (b - j) fun i hi=>⟨fun k=>ca (fun t=>q t*sh g (i+t) k) (a - b+1),tu.sum (g:=fun t=>sh g (i+t)) _ fun t ht=>List.mem_append_left _ ?_,fun k=>?_⟩
 ·have:=Aq (g:=sh g) (lo:=0) (i:=i+t) (n:=a - j) (by walk_at"o")
  rwa [Nat.zero_add] at this
 ·show γ*sh f i k=β*sh r i k+ca (fun t=>q t*sh g (i+t) k) (a - b+1)
  rw[<- D3]
  unfold sh
  by_cases h:i<=k
  ·rw[if_pos h,if_pos h,if_pos h,e]
   walk_at"o"
  ·rw[if_neg h,if_neg h,if_neg h]
   walk_at"o"
theorem Ce{f g q r:Nat->Int}{a b d j k:Nat}{γ β c:Int}(ab:b<=a)(db:d<b)(jd:j<=d)(hg:g b=c)(g0:∀ k,b<k->g k=0)(r0:∀ k,d<k->r k=0)(e:∀ k,γ*f k=cv q g (a - b+1) k+β*r k) :
  Pm (γ ^ (b - j)*SR f g a b j k) (β ^ (b - j)*(c ^ (a - d)*SR g r b d j k)):=by
 rw[zD ab (by walk_at"o") e]
 refine Pm.mul ?_ _
 have p:(st (sh r) 0 (b - j) ++ (st (sh g) 0 (a - j) ++ Ej j k)).Perm (st (sh g) (d - j) (a - d) ++ (st (sh g) 0 (d - j) ++ (st (sh r) 0 (b - j) ++ Ej j k))):=by
  have s:=uW (sh g) 0 (d - j) (a - d)
  rw[show d - j+(a - d)=a - j by walk_at"o",Nat.zero_add] at s
  rw[s,<- List.append_assoc,<- List.append_assoc,<- List.append_assoc,<- List.append_assoc]
  refine List.Perm.append_right _ ?_
  rw[List.append_assoc,List.append_assoc]
  exact (List.perm_append_comm).trans (by rw[List.append_assoc])
 refine (sB p).trans ?_
 rw[show a+b - j=b+(d - j)+(a - d) by walk_at"o",jO (d0:=b) (c:=c) (fun i=>by rw[vy];exact hg) (fun i k h=>m9 g0 h) ?_ (a - d)]
 ·rw[show b+(d - j)=b+d - j by walk_at"o"]
  exact Pm.rfl'
 ·intro x hx k hk
  rcases List.mem_append.mp hx with z|z
  ·obtain⟨i,hi,rfl⟩:=kQ z
   exact m9 g0 (by walk_at"o")
  ·rcases List.mem_append.mp z with z|z
   ·obtain⟨i,hi,rfl⟩:=kQ z
    exact m9 r0 (by walk_at"o")
   ·exact vA z (by walk_at"o")
theorem wa(x:Int):x ^ 1=x:=by rw[Int.pow_succ,Int.pow_zero,Int.one_mul]
theorem CJ{f g q r:Nat->Int}{a b k:Nat}{c:Int}(ab:b<=a)(hb:1<=b)(hk:k<b)(hg:g b=c)(hc:c ≠ 0)(g0:∀ k,b<k->g k=0)(r0:∀ k,b<=k->r k=0)(e:∀ k,c ^ (a - b+1)*f k=cv q g (a - b+1) k+r k) :
  Pm (SR f g a b (b - 1) k) (r k):=by
 refine Pm.of_mul (a:=c ^ (a - b+1)) ?_ (Int.pow_ne_zero hc)
 have s:=zD (j:=b - 1) (k:=k) (q:=q) (g:=g) (f:=f) (γ:=c ^ (a - b+1)) (β:=1) ab (by walk_at"o") (r:=r) (fun k=>by rw[e k];walk_at"o")
 rw[show b - (b - 1)=1 by walk_at"o",wa,wa,Int.one_mul] at s
 rw[s,show a+b - (b - 1)=b+0+(a - b+1) by walk_at"o",show a - (b - 1)=a - b+1 by walk_at"o"]
 have p:(st (sh r) 0 1 ++ (st (sh g) 0 (a - b+1) ++ Ej (b - 1) k)).Perm (st (sh g) 0 (a - b+1) ++ (sh r 0 :: Ej (b - 1) k)):=by
  show (sh r (0+0) :: (st (sh g) 0 (a - b+1) ++ Ej (b - 1) k)).Perm _
  exact List.perm_middle.symm
 refine (sB p).trans ?_
 rw[jO (d0:=b) (c:=c) (fun i=>by rw[vy];exact hg) (fun i k h=>m9 g0 h) ?_ (a - b+1)]
 ·refine Pm.mul ?_ _
  have d:=zM (j:=b - 1) (k:=k) (R:=sh r 0) (by walk_at"o")
  rw[show b - 1+1=b+0 by walk_at"o"] at d
  refine d.trans (.inl ?_)
  show sh r 0 k=r k
  unfold sh
  rw[if_pos (by walk_at"o"),Nat.sub_zero]
 ·intro x hx m hm
  rcases List.mem_cons.mp hx with rfl|z
  ·unfold sh
   rw[if_pos (by walk_at"o")]
   exact r0 _ (by walk_at"o")
  ·exact vA z (by walk_at"o")
theorem CA{f g:Nat->Int}{a b:Nat}{c:Int}(ab:b<a)(hg:g b=c)(g0:∀ k,b<k->g k=0):Pm (SR f g a b b b) (c ^ (a - b)):=by
 unfold SR
 rw[show b - b=0 by walk_at"o"]
 show Pm (dt (a+b - b) (st (sh g) 0 (a - b) ++ Ej b b)) _
 obtain⟨n,hn⟩ : ∃ n,a - b=n+1:=⟨a - b - 1,by walk_at"o"⟩
 have s:=uW (sh g) 0 1 n
 rw[show 1+n=n+1 by walk_at"o"] at s
 rw[hn,s,show a+b - b=b+1+n by walk_at"o",List.append_assoc,jO (d0:=b) (lo:=1) (c:=c) (fun i=>by rw[vy];exact hg) (fun i k h=>m9 g0 h) ?_ n]
 ·rw[Int.pow_succ]
  refine Pm.mul ?_ _
  have d:=zM (j:=b) (k:=b) (R:=sh g 0) (by walk_at"o")
  have e:sh g 0 b=c:=by
   unfold sh
   rw[if_pos (by walk_at"o"),Nat.sub_zero,hg]
  rw[e] at d
  exact d
 ·intro x hx m hm
  rcases List.mem_append.mp hx with z|z
  ·obtain⟨i,hi,rfl⟩:=kQ z
   exact m9 g0 (by walk_at"o")
  ·exact vA z (by walk_at"o")
theorem AX{M C:Nat}(hM:1<=M*C):∀ {rows:List (Nat->Int)},(∀ r ∈ rows,∀ i,(r i).natAbs<=C) -> ∀ l,(dw M rows l).natAbs<=(M*C) ^ rows.length
 | [],_,l=>by
  show (ve l).natAbs<=1
  unfold ve
  split <;> decide
 | r :: rs,h,l=>by
  have ih:=AX hM (fun x hx=>h x (List.mem_cons_of_mem _ hx))
  have:=oB (h r List.mem_cons_self) M (dw M rs) l ih
  show (wg M r (dw M rs) l).natAbs<=(M*C) ^ (rs.length+1)
  rw[Nat.pow_succ,Nat.mul_comm _ (M*C),Nat.mul_assoc]
  exact this
theorem rT{g:Nat->Nat->Int}{lo:Nat}:∀ n,(st g lo n).length=n
 | 0=>rfl
 | n+1=>by
  show (st g lo n).length+1=n+1
  rw[rT n]
theorem yC{j k:Nat}(h:k<=j):(Ej j k).length=j:=by
 have:=(wY h).length_eq
 rw[rT] at this
 simp at this
 exact this
theorem Ap{f:Nat->Int}{C:Nat}(h:∀ i,(f i).natAbs<=C)(i k:Nat):(sh f i k).natAbs<=C:=by
 unfold sh
 split
 ·exact h _
 ·exact Nat.zero_le _
end L2
namespace L2
open PySem
theorem GZ(a:Int)(m n:Nat):a ^ (m+n)=a ^ m*a ^ n:=Int.pow_add a m n
theorem imp(a b:Int)(n:Nat):(a*b) ^ n=a ^ n*b ^ n:=Int.mul_pow
theorem G1(a:Int)(m n:Nat):(a ^ m) ^ n=a ^ (m*n):=Int.pow_mul.symm
theorem Ht{h h' c:Int}{e m:Nat}(H:h'*h ^ e=c ^ (e+1)):h ^ ((e+1)*(m+1))*c ^ (e+1+(m+1))*h' ^ m=c ^ ((e+2)*(m+1))*h ^ (e+1+m):=by
 have k:h' ^ m*h ^ (e*m)=c ^ ((e+1)*m):=by rw[<- G1,<- imp,H,G1]
 have e1:(e+1)*(m+1)=e*m+(e+1+m):=by simp only[Nat.mul_add,Nat.add_mul];walk_at"o"
 have e2:(e+2)*(m+1)=(e+1)*m+(e+1+(m+1)):=by simp only[Nat.mul_add,Nat.add_mul];walk_at"o"
 rw[e1,e2,GZ h,GZ c ((e+1)*m),<- k]
 generalize h ^ (e*m)=u
 generalize h ^ (e+1+m)=v
 generalize c ^ (e+1+(m+1))=w
 generalize h' ^ m=z
 grind
structure qd (S1:Nat->Nat->Int)(F G:Nat->Int)(A B:Nat)(x h:Int):Prop where
 ba:B<=A
 x0:x ≠ 0
 h0:h ≠ 0
 one:A=B->h=1
 main:∀ j k,j<=B->k<=j->Pm (SR F G A B j k) (x ^ (B - j)*(h ^ (A - j - 1)*S1 j k))
theorem qd.first{F G:Nat->Int}{A B:Nat}(h:B<=A):qd (SR F G A B) F G A B 1 1:=⟨h,by decide,by decide,fun _=>rfl,fun j k _ _=>.inl (by rw[Int.one_pow,Int.one_pow,Int.one_mul,Int.one_mul])⟩
section
variable {S1:Nat->Nat->Int}{F G q R r:Nat->Int}{A B d:Nat}{x h c h':Int}
theorem qd.rest(I:qd S1 F G A B x h)(hg:G B=c)(hc:c ≠ 0)(g0:∀ k,B<k->G k=0)(r0:∀ k,B<=k->R k=0)(e:∀ k,c ^ (A - B+1)*F k=cv q G (A - B+1) k+R k)(k:Nat)(hk:k<B):Pm (R k) (x*h ^ (A - B)*S1 (B - 1) k):=by
 have s:=(CJ I.ba (by walk_at"o") hk hg hc g0 r0 e).symm.trans (I.main (B - 1) k (by walk_at"o") (by walk_at"o"))
 rw[show B - (B - 1)=1 by walk_at"o",wa,show A - (B - 1) - 1=A - B by have:=I.ba;walk_at"o",<- Int.mul_assoc] at s
 exact s
theorem qd.high(I:qd S1 F G A B x h)(hg:G B=c)(g0:∀ k,B<k->G k=0)(ab:B<A):Pm (c ^ (A - B)) (h ^ (A - B - 1)*S1 B B):=by
 have s:=(CA (f:=F) ab hg g0).symm.trans (I.main B B (by walk_at"o") (by walk_at"o"))
 rw[show B - B=0 by walk_at"o",Int.pow_zero,Int.one_mul] at s
 exact s
theorem qd.step(I:qd S1 F G A B x h)(hg:G B=c)(hc:c ≠ 0)(g0:∀ k,B<k->G k=0)(e:∀ k,c ^ (A - B+1)*F k=cv q G (A - B+1) k+x*h ^ (A - B)*r k)(r0:∀ k,d<k->r k=0)(hd:d<B)(n0:h' ≠ 0)(hh:A=B/\h'=h\/B<A/\h'*h ^ (A - B - 1)=c ^ (A - B)):qd S1 G r B d c h':=by
 refine⟨by walk_at"o",hc,n0,fun z=>by walk_at"o",fun j k hj hk=>?_⟩
 have ab:=I.ba
 have s:=Ce (k:=k) I.ba hd hj hg g0 r0 e
 have m:=(I.main j k (by walk_at"o") hk).mul ((c ^ (A - B+1)) ^ (B - j))
 have p:=s.symm.trans m
 refine Pm.of_mul (a:=(x*h ^ (A - B)) ^ (B - j)*c ^ (A - d)) ?_ (Int.mul_ne_zero (Int.pow_ne_zero (Int.mul_ne_zero I.x0 (Int.pow_ne_zero I.h0))) (Int.pow_ne_zero hc))
 rw[Int.mul_assoc]
 refine p.trans (.inl ?_)
 obtain⟨n,hn⟩ : ∃ n,B - j=n+1:=⟨B - j - 1,by walk_at"o"⟩
 rw[show B - j - 1=n by walk_at"o",hn,imp,G1,G1,show A - j - 1=A - B+n by walk_at"o"]
 have key:h ^ ((A - B)*(n+1))*c ^ (A - d)*(c ^ (d - j)*h' ^ n)=c ^ ((A - B+1)*(n+1))*h ^ (A - B+n):=by
  have e1:c ^ (A - d)*c ^ (d - j)=c ^ (A - B+(n+1)):=by rw[<- GZ];congr 1;walk_at"o"
  rw[Int.mul_assoc,<- Int.mul_assoc (c ^ (A - d)),e1,<- Int.mul_assoc]
  rcases hh with ⟨z1,z2⟩|⟨z1,z2⟩
  ·have h1:=I.one z1
   rw[z2,h1,Int.one_pow,Int.one_pow,Int.one_pow,show A - B=0 by walk_at"o",Int.one_mul,Int.mul_one,Int.mul_one]
   congr 1
   walk_at"o"
  ·obtain⟨e',he⟩ : ∃ e',A - B=e'+1:=⟨A - B - 1,by walk_at"o"⟩
   rw[show A - B - 1=e' by walk_at"o",he] at z2
   rw[he]
   exact Ht z2
 generalize h ^ ((A - B)*(n+1))=u at *
 generalize h ^ (A - B+n)=v at *
 generalize c ^ ((A - B+1)*(n+1))=w at *
 generalize c ^ (A - d)=y at *
 generalize c ^ (d - j)=y' at *
 generalize h' ^ n=z at *
 generalize x ^ (n+1)=t at *
 generalize S1 j k=S at *
 have k2:t*(u*y*(y'*z))*S=t*(w*v)*S:=by rw[key]
 grind
end
end L2
namespace L2
open PySem
theorem ur{f f' g:Nat->Rat}:∀ n,(∀ i,i<n->f i=f' i) -> ∀ k,pr f g n k=pr f' g n k
 | 0,_,_=>rfl
 | n+1,h,k=>by
  show pr f g n k+(if n<=k then f n*g (k - n) else 0)=pr f' g n k+(if n<=k then f' n*g (k - n) else 0)
  rw[ur n (fun i hi=>h i (by walk_at"o")) k,h n (by walk_at"o")]
theorem GE{f g:Nat->Rat}:∀ n,(∀ i,i<n->f i=0) -> ∀ k,pr f g n k=0
 | 0,_,_=>rfl
 | n+1,h,k=>by
  show pr f g n k+(if n<=k then f n*g (k - n) else 0)=0
  rw[GE n (fun i hi=>h i (by walk_at"o")) k,h n (by walk_at"o")]
  split <;> grind
end L2
namespace L2
open PySem
theorem Dj{q g:Nat->Int}{k:Nat}:∀ n,cv q g n k=pz q g n k
 | 0=>rfl
 | n+1=>by
  show cv q g n k+q n*sh g n k=pz q g n k+if n<=k then q n*g (k - n) else 0
  rw[Dj n]
  unfold sh
  split
  ·rfl
  ·rw[Int.mul_zero]
theorem Bt.pm{n:Nat}{x y:Int}(h:Bt n x)(p:Pm y x):Bt n y:=by
 unfold Bt at *
 rcases p with e|e <;> walk_at"o"
theorem Bt.pow{b:Nat}{x:Int}(h:Bt b x):∀ n,1<=n->Bt (b*n) (x ^ n)
 | 0,h0=>by walk_at"o"
 | 1,_=>by rw[wa,Nat.mul_one];exact h
 | n+2,_=>by
  rw[Int.pow_succ,Nat.mul_succ]
  exact (Bt.pow h (n+1) (by walk_at"o")).mul h
theorem Bt.pow1{b:Nat}{x:Int}(h:Bt b x)(n:Nat):Bt (b*n+1) (x ^ n):=by
 cases n with
 | zero=>rw[Int.pow_zero];exact Bt.mono (m:=1) (by decide) (by walk_at"o")
 | succ n=>exact (Bt.pow h (n+1) (by walk_at"o")).mono (by walk_at"o")
section
variable {Z:Nat}{S1:Nat->Nat->Int}{F G q R:Nat->Int}{A B:Nat}{x h:Int}
end
theorem Eg{q g:Nat->Int}{n k:Nat}:((pz q g n k:Int):Rat)=pr (fun i=>(q i:Rat)) (fun i=>(g i:Rat)) n k:=by
 rw[oq (F:=fun i=>(q i:Rat)) (G:=fun i=>(g i:Rat)) (c:=1) (d:=1) (fun i=>by grind) (fun i=>by grind)]
 grind
end L2
namespace L2
open PySem
def mw(ns:List Int)(k:Nat):Rat:=((nz ns k:Int):Rat)
theorem Br{l:List Int}{k:Nat}(h:l.length<=k):mw l k=0:=by
 show ((nz l k:Int):Rat)=0
 rw[dg h]
 rfl
end L2
namespace L2
open PySem
end L2
namespace L2
open PySem PySem.Spec PyProof.Rows
theorem yK{X:Cx}{k:Nat}{env:Env}{l:List Env}(N:oP X.prog X.base)(hr:gy k X.A)(hst:X.stack=env :: l)(hgen:env.scope.isGenerator=false)(hco:env.scope.isCoroutine=false)(hb:env.builtins=builtinsNs)(hg:env.globals=mainGlobals) :
  fb X (binaryOp .FloorDiv) (rI xZ fun i j=>.int (i.fdiv j)):=by
 intro pins s σ H x y v u Q I rx ry h
 obtain⟨i,j,rfl,rfl,hc,q⟩:=h
 obtain⟨t,rfl⟩:=rx
 obtain⟨t',rfl⟩:=ry
 refine floordiv_int hc ⟨.int (i.fdiv j),H,I.tok _,⟨_,rfl⟩,q⟩ (.inr ?_)
 refine PySem.PylongRoom.of I.nolimit ?_ (PySem.SeerAt.of (N.seer.keeps I.bk) N.tree (I.ok.frames.trans (congrArg some hst)) hgen hco hb hg)
 have:=hr.dp
 show X.A.depth+100<recursionLimit
 walk_at"o"
theorem BE{f g:Nat->Int}{a b j k B:Nat}(ha:a<=8)(hb:b<=a)(jb:j<=b)(kj:k<=j)(hB:1<=B)(hf:∀ i,(f i).natAbs<2 ^ B)(hg:∀ i,(g i).natAbs<2 ^ B):(SR f g a b j k).natAbs<2 ^ (65+16*B):=by
 by_cases h0:a+b - j=0
 ·have:SR f g a b j k=1:=by
   unfold SR
   rw[h0,show b - j=0 by walk_at"o",show a - j=0 by walk_at"o"]
   have:Ej j k=[]:=List.length_eq_zero_iff.mp (by rw[yC kj];walk_at"o")
   rw[show st (sh f) 0 0 ++ (st (sh g) 0 0 ++ Ej j k)=Ej j k from rfl,this]
   rfl
  rw[this]
  exact Nat.one_lt_two_pow (by walk_at"o")
 obtain⟨C,hC⟩ : ∃ C,C=2 ^ B:=⟨_,rfl⟩
 have c1:1<=C:=hC ▸ Nat.one_le_two_pow
 have r:=AX (M:=a+b - j) (C:=C) (rows:=st (sh f) 0 (b - j) ++ (st (sh g) 0 (a - j) ++ Ej j k)) (Nat.mul_pos (by walk_at"o") c1) (fun r hr i=>by
  rcases List.mem_append.mp hr with z|z
  ·obtain⟨i',_,rfl⟩:=kQ z
   exact Ap (fun i=>by have:=hf i;walk_at"o") _ _
  ·rcases List.mem_append.mp z with z|z
   ·obtain⟨i',_,rfl⟩:=kQ z
    exact Ap (fun i=>by have:=hg i;walk_at"o") _ _
   ·obtain⟨i',_,rfl⟩:=List.mem_map.mp z
    unfold kA
    split <;> simp <;> walk_at"o") (uH (a+b - j))
 have hl:(st (sh f) 0 (b - j) ++ (st (sh g) 0 (a - j) ++ Ej j k)).length=a+b - j:=by
  rw[List.length_append,List.length_append,rT,rT,yC kj]
  walk_at"o"
 rw[hl] at r
 have e1:((a+b - j)*C) ^ (a+b - j)<=(16*C) ^ 16:=Nat.le_trans (Nat.pow_le_pow_left (Nat.mul_le_mul_right _ (by walk_at"o")) _) (Nat.pow_le_pow_right (by walk_at"o") (by walk_at"o"))
 have e2:(16*C) ^ 16<2 ^ (65+16*B):=by
  rw[Nat.mul_pow,hC,<- Nat.pow_mul,Nat.pow_add,Nat.mul_comm B 16]
  exact Nat.mul_lt_mul_of_pos_right (by decide) Nat.one_le_two_pow
 unfold SR dt
 walk_at"o"
structure uQ (Z:Nat)(S1:Nat->Nat->Int)(F G:Nat->Int)(A B:Nat)(x h:Int):Prop where
 inv:qd S1 F G A B x h
 a6:A<=8
 bS:∀ j k,j<=B->k<=j->Bt Z (S1 j k)
 bF:∀ k,Bt Z (F k)
 bG:∀ k,Bt Z (G k)
 bx:Bt Z x
 bh:Bt Z h
 g1:G B ≠ 0
 g0:∀ k,B<k->G k=0
 f0:∀ k,A<k->F k=0
theorem uQ.first{F G:Nat->Int}{A B b:Nat}(h:B<=A)(ha:A<=8)(hb:1<=b)(bF:∀ k,Bt b (F k))(bG:∀ k,Bt b (G k))(g1:G B ≠ 0)(g0:∀ k,B<k->G k=0)(f0:∀ k,A<k->F k=0):uQ (65+16*b) (SR F G A B) F G A B 1 1 :=
 ⟨.first h,ha,fun j k hj hk=>BE ha h hj hk hb bF bG,fun k=>(bF k).mono (by walk_at"o"),fun k=>(bG k).mono (by walk_at"o"),Bt.mono (m:=1) (by decide) (by walk_at"o"),Bt.mono (m:=1) (by decide) (by walk_at"o"),g1,g0,f0⟩
section
variable {Z:Nat}{S1:Nat->Nat->Int}{F G q R:Nat->Int}{A B:Nat}{x h:Int}
theorem uQ.rest(I:uQ Z S1 F G A B x h)(r0:∀ k,B<=k->R k=0)(e:∀ k,G B ^ (A - B+1)*F k=pz q G (A - B+1) k+R k) :
  ∃ (r:Nat->Int)(h':Int),(∀ k,R k=x*h ^ (A - B)*r k)/\(∀ k,Bt Z (r k))/\(∀ k,B<=k->r k=0)/\h' ≠ 0/\Bt Z h'/\(A=B/\h'=h\/B<A/\h'*h ^ (A - B - 1)=G B ^ (A - B)) /\
   ∀ d,d<B->r d ≠ 0->(∀ k,d<k->r k=0)->uQ Z S1 G r B d (G B) h':=by
 have e':∀ k,G B ^ (A - B+1)*F k=cv q G (A - B+1) k+R k:=fun k=>by rw[Dj];exact e k
 have dv:∀ k,∃ y:Int,R k=x*h ^ (A - B)*y/\Bt Z y/\(B<=k->y=0):=fun k=>by
  by_cases hk:k<B
  ·have p:=I.inv.rest rfl I.g1 I.g0 r0 e' k hk
   have b:=I.bS (B - 1) k (by walk_at"o") (by walk_at"o")
   rcases p with z|z
   ·exact⟨_,z,b,fun _=>by walk_at"o"⟩
   ·exact⟨- S1 (B - 1) k,by rw[z,Int.mul_neg],b.pm (.inr rfl),fun _=>by walk_at"o"⟩
  ·exact⟨0,by rw[r0 k (by walk_at"o"),Int.mul_zero],j9,fun _=>rfl⟩
 have hi:∃ h':Int,h' ≠ 0/\Bt Z h'/\(A=B/\h'=h\/B<A/\h'*h ^ (A - B - 1)=G B ^ (A - B)):=by
  by_cases ab:A=B
  ·exact⟨h,I.inv.h0,I.bh,.inl ⟨ab,rfl⟩⟩
  ·have ba:=I.inv.ba
   have p:=I.inv.high rfl I.g0 (by walk_at"o")
   have b:=I.bS B B (by walk_at"o") (by walk_at"o")
   have nz:G B ^ (A - B) ≠ 0:=Int.pow_ne_zero I.g1
   rcases p with z|z
   ·exact⟨S1 B B,fun y=>nz (by rw[z,y,Int.mul_zero]),b,.inr ⟨by walk_at"o",by rw[z,Int.mul_comm]⟩⟩
   ·exact⟨- S1 B B,fun y=>nz (by rw[z,show S1 B B=0 by walk_at"o",Int.mul_zero];rfl),b.pm (.inr rfl),.inr ⟨by walk_at"o",by rw[z,Int.neg_mul,Int.mul_comm]⟩⟩
 obtain⟨h',n0,bh',hh⟩:=hi
 refine⟨fun k=>(dv k).choose,h',fun k=>(dv k).choose_spec.1,fun k=>(dv k).choose_spec.2.1,fun k hk=>(dv k).choose_spec.2.2 hk,n0,bh',hh,fun d hd rd rz=>?_⟩
 refine⟨I.inv.step (q:=q) rfl I.g1 I.g0 (fun k=>?_) rz hd n0 hh,Nat.le_trans I.inv.ba I.a6,fun j k hj hk=>I.bS j k (by walk_at"o") hk,I.bG,fun k=>(dv k).choose_spec.2.1,I.bG B,bh',rd,rz,I.g0⟩
 rw[<- (dv k).choose_spec.1]
 exact e' k
end
def jM(b:Nat)(ns:List Int):Prop:=ns.length<=9/\(∀ x ∈ ns,Bt b x)/\(ns ≠ []->nz ns (ns.length - 1) ≠ 0)
theorem jM.up{b c:Nat}{l:List Int}(h:jM b l)(bc:b<=c):jM c l:=⟨h.1,fun x hx=>(h.2.1 x hx).mono bc,h.2.2⟩
end L2
namespace L2
open PySem PySem.Spec PyProof.Rows
theorem g6{q:List (Int × Int)}(h:aR q)(n:q ≠ []):cf q (q.length - 1) ≠ 0:=by
 have hl:0<q.length:=List.length_pos_iff.mpr n
 have e:q[q.length - 1]? = some (q[q.length - 1]'(by walk_at"o")):=List.getElem?_eq_getElem (by walk_at"o")
 rw[aZ e]
 intro z
 refine h.2 _ (by rw[List.getLast?_eq_getElem?,e]) ?_
 exact (iO (h.1 _ (List.getElem_mem _)).ne).mp z
def ab(a b:Rat):List (List Int × List Int × Int × Int)->Nat->Rat × Rat
 | _,0=>(a,b)
 | [],_+1=>(a,b)
 | row :: rows,n+1=>ab b (-(a*(row.2.2.1:Rat)) / (row.2.2.2:Rat)) rows n
theorem Pb.slope{a:Nat}{fs gs:List (Int × Int)}(h:Pb a (cf fs))(hl:fs.length<=9)(e:∀ k,cf gs k=((k+1:Nat):Int)*cf fs (k+1)):Pb (a+4) (cf gs):=by
 obtain⟨D,h0,h1,h2⟩:=h
 refine⟨D,h0,h1.mono (by walk_at"o"),fun k=>?_⟩
 by_cases hk:k+1<16
 ·obtain⟨n,e1,b1⟩:=h2 (k+1)
  refine⟨((k+1:Nat):Int)*n,?_,?_⟩
  ·rw[e k,e1,Rat.intCast_mul,Rat.div_def,Rat.div_def]
   grind
  ·have:Bt 4 ((k+1:Nat):Int):=by
    show (((k+1:Nat):Int)).natAbs<2 ^ 4
    walk_at"o"
   exact (this.mul b1).mono (by walk_at"o")
 ·refine⟨0,?_,j9⟩
  rw[e k,cz (by walk_at"o")]
  have c0:((0:Int):Rat)=0:=rfl
  rw[c0]
  have d:=aD h0
  grind
end L2
namespace L2
open PySem PySem.Spec PyProof.Rows
theorem tE{X:Cx}{k:Nat}{env:Env}{l:List Env}(N:oP X.prog X.base)(hr:gy k X.A)(hst:X.stack=env :: l)(hgen:env.scope.isGenerator=false)(hco:env.scope.isCoroutine=false)(hb:env.builtins=builtinsNs)(hg:env.globals=mainGlobals) :
  fb X (binaryOp .FloorDiv) (rI xZ fun i j=>.int (i.fdiv j)):=by
 intro pins s σ H x y v u Q I rx ry h
 obtain⟨i,j,rfl,rfl,hc,q⟩:=h
 obtain⟨t,rfl⟩:=rx
 obtain⟨t',rfl⟩:=ry
 refine floordiv_int hc ⟨.int (i.fdiv j),H,I.tok _,⟨_,rfl⟩,q⟩ (.inr ?_)
 refine PySem.PylongRoom.of I.nolimit ?_ (PySem.SeerAt.of (N.seer.keeps I.bk) N.tree (I.ok.frames.trans (congrArg some hst)) hgen hco hb hg)
 have:=hr.dp
 show X.A.depth+100<recursionLimit
 walk_at"o"
theorem uM{X:Cx}:eZ X (.type "list") (fun xs H Q=>∃ p,xs=[.ref p] /\ ∃ ys,vw X.K H p=some (.tup ys)/\Nw X.K H (.lst ys) Q):=lS.kf.imp fun _ _ _ ⟨p,e,ys,h,q⟩=>⟨p,ys,e,.inr (cN h),q.al⟩
def AR(K:W.Frag)(ta:TE):TE:=fun σ H Q=>ta σ H fun x H1=>∃ k,sV K x H1 k/\Q (.bl (!k)) H1
theorem C0{X:Cx}{a:Expr}{ta:TE}{pos:Pos}(ha:PE X a ta):PE X (.UnaryOp .Not a pos) (AR X.K ta):=by
 intro pins s σ H Q I h
 refine UnaryOp_ (dE (ha pins s σ H _ I h) fun v s1 ⟨x,H1,I1,r1,q1⟩=>?_)
 exact not_of (dE (uL pins s1 σ H1 x v (fun k H'=>Q (.bl (!k)) H') I1 r1 q1) fun b s2 ⟨H2,I2,q2⟩=>⟨.bl (!b),H2,I2,rfl,q2⟩)
theorem xa{X:Cx}{a:Expr}{ta:TE}{pos:Pos}(ha:QE X a ta):QE X (.UnaryOp .Not a pos) (AR X.K ta):=⟨C0 (ha:=ha.h)⟩
theorem D6{x y:Int × Int}(z:fr x=fr y):x=y:=by
 unfold fr at z
 injection z with z
 injection z with z1 z2
 injection z1 with z1
 injection z2 with z2 _
 injection z2 with z2
 exact Prod.ext z1 z2
theorem dD{fs gs:List (Int × Int)}(e:D.lst (fs.map fr) = .lst (gs.map fr)):fs=gs:=by
 injection e with e
 exact List.map_inj_right (fun _ _ z=>D6 z) |>.mp e
theorem pL:∀ fs:List (Int × Int),D.noSts (fs.map fr)=true
 | []=>by simp[D.noSts]
 | f :: fs=>by
  rw[List.map_cons]
  unfold D.noSts
  rw[Cb,pL fs]
  rfl
section
variable {K:W.Frag}{σ:St}{H0:Hp}{t u:TE}{ta:TA}{b c:Bool}{m n:Nat}{fs gs:List (Int × Int)}
end
theorem jY{d:D}(h:d.poly=true):∃ fs,d = .lst (fs.map fr)/\aR fs:=by
 cases d with
 | lst ds =>
  have h':(ds.all D.frac && jh ds)=true:=h
  rw[Bool.and_eq_true] at h'
  obtain⟨h1,h2⟩:=h'
  have key:∀ ds:List D,ds.all D.frac=true -> ∃ fs:List (Int × Int),ds=fs.map fr /\ ∀ q ∈ fs,Fq q:=by
   intro ds
   induction ds with
   | nil=>exact fun _=>⟨[],rfl,by simp⟩
   | cons d ds ih =>
    intro z
    rw[List.all_cons,Bool.and_eq_true] at z
    obtain⟨q,rfl,fq⟩:=D.frac_fr z.1
    obtain⟨fs,rfl,hf⟩:=ih z.2
    refine⟨q :: fs,rfl,fun p hp=>?_⟩
    rcases List.mem_cons.mp hp with rfl|y
    ·exact fq
    ·exact hf p y
  obtain⟨fs,rfl,hf⟩:=key ds h1
  refine⟨fs,rfl,hf,fun q hq z=>?_⟩
  have hq':(fs.map fr).getLast? = some (fr q):=by rw[List.getLast?_map,hq];rfl
  have e:=ki hq'
  rw[h2] at e
  have fq:=hf q (List.mem_of_getLast? hq)
  have:q=(0,1):=(og fq).mpr z
  rw[decide_eq_true this] at e
  cases e
 | _=>unfold D.poly at h;cases h
end L2
namespace L2
open PySem
section
variable {S u u' v v':Nat->Rat}{m n:Nat}
theorem Dn{m':Nat}(h:∀ i,m<=i->u i=0)(hm:m<=m'):ip S u v m' n=ip S u v m n:=by
 obtain⟨d,rfl⟩ : ∃ d,m'=m+d:=⟨m' - m,by walk_at"o"⟩
 exact gi (fun i hi=>by rw[h i hi];grind) d
theorem yL:ip S (fun i=>u i+u' i) v m n=ip S u v m n+ip S u' v m n:=pc _
theorem AJ{c:Rat}:ip S (fun i=>c*u i) v m n=c*ip S u v m n:=oX _
theorem El:ip S u (fun i=>v i+v' i) m n=ip S u v m n+ip S u v' m n:=by
 rw[iJ,yL,iJ,iJ (u:=v')]
theorem Fm{c:Rat}:ip S u (fun i=>c*v i) m n=c*ip S u v m n:=by
 rw[iJ,AJ,iJ]
theorem AB(h:∀ i,u i=u' i):ip S u v m n=ip S u' v m n:=by rw[show u=u' from funext h]
end
section
variable {W:Nat->Int}{B:Int}{S:Nat->Rat}
theorem Ah{k n m:Nat}{v:Nat->Rat}(hD:Dk W k ≠ 0)(hB:B ≠ 0)(hS:∀ i,((W i:Int):Rat)=S i*(B:Rat))(hm:k+1<=m):ip S v (Pk W k) n m=bZ v (fun i=>((Lq W k i:Int):Rat) / (((Dk W k:Int):Rat)*(B:Rat))) n:=ET hD hB (fun _=>rfl) hS hm n
theorem Gi(c:Rat):0<=c*c:=BW c
theorem pd(hB:0<B)(hS:∀ i,((W i:Int):Rat)=S i*(B:Rat)):∀ m,(∀ i,i<=m->0<Dk W i) -> ∀ r:Nat->Rat,(∀ i,m<=i->r i=0)->0<=ip S r r m m/\(ip S r r m m=0 -> ∀ i,r i=0)
 | 0,_,r,hr=>⟨Rat.le_refl,fun _ i=>hr i (Nat.zero_le _)⟩
 | m+1,hD,r,hr=>by
  have dm:=hD m (by walk_at"o")
  have dn:Dk W m ≠ 0:=by walk_at"o"
  have d1:=hD (m+1) (Nat.le_refl _)
  have bn:B ≠ 0:=by walk_at"o"
  obtain⟨r',hr'⟩ : ∃ r':Nat->Rat,∀ i,r' i=r i + -(r m)*Pk W m i:=⟨_,fun _=>rfl⟩
  have z':∀ i,m<=i->r' i=0:=fun i hi=>by
   rw[hr']
   by_cases e:i=m
   ·rw[e,Au dn]
    grind
   ·rw[y6 (by walk_at"o"),hr i (by walk_at"o")]
    grind
  obtain⟨p1,p2⟩:=pd hB hS m (fun i hi=>hD i (by walk_at"o")) r' z'
  have er:∀ i,r i=r' i+r m*Pk W m i:=fun i=>by rw[hr'];grind
  obtain⟨c,hc⟩ : ∃ c,c=r m:=⟨_,rfl⟩
  obtain⟨h,hh⟩ : ∃ h:Rat,h=((Dk W (m+1):Int):Rat) / (((Dk W m:Int):Rat)*(B:Rat)):=⟨_,rfl⟩
  have h0:0<h:=by
   rw[hh,Rat.div_def]
   refine Rat.mul_pos (by exact_mod_cast d1) (Rat.inv_pos.mpr (Rat.mul_pos (by exact_mod_cast dm) (by exact_mod_cast hB)))
  have e1:ip S r' (Pk W m) (m+1) (m+1)=0:=by
   rw[Ah dn bn hS (Nat.le_refl _)]
   refine hU _ fun i hi=>?_
   by_cases e:i=m
   ·rw[z' i (by walk_at"o")]
    grind
   ·rw[kI (by walk_at"o")]
    have z0:((0:Int):Rat)=0:=rfl
    rw[z0]
    grind
  have e2:ip S r (Pk W m) (m+1) (m+1)=c*h:=by
   rw[Ah dn bn hS (Nat.le_refl _)]
   show bZ r _ m+r m*(((Lq W m m:Int):Rat) / _)=_
   rw[hU m fun i hi=>by rw[kI hi,show ((0:Int):Rat)=0 from rfl];grind,ic,hc,hh]
   grind
  have e3:ip S r r (m+1) (m+1)=ip S r' r' m m+c*c*h:=by
   have a1:ip S r r (m+1) (m+1)=ip S r' r (m+1) (m+1)+c*ip S (Pk W m) r (m+1) (m+1):=by
    rw[AB (u':=fun i=>r' i+c*Pk W m i) fun i=>by rw[er i,hc],yL,AJ]
   have a2:ip S r' r (m+1) (m+1)=ip S r' r' (m+1) (m+1)+c*ip S r' (Pk W m) (m+1) (m+1):=by
    have er':r=fun i=>r' i+c*Pk W m i:=funext fun i=>by rw[er i,hc]
    have:ip S r' r (m+1) (m+1)=ip S r' (fun i=>r' i+c*Pk W m i) (m+1) (m+1):=by rw[<- er']
    rw[this,El,Fm]
   rw[a1,a2,e1,iJ (u:=Pk W m),e2,Dn z' (by walk_at"o"),iJ,Dn z' (by walk_at"o")]
   grind
  have sq:=Rat.mul_nonneg (Gi c) (Rat.le_of_lt h0)
  refine⟨by rw[e3];grind,fun e=>?_⟩
  rw[e3] at e
  have q1:ip S r' r' m m=0:=by grind
  have q2:c*c*h=0:=by grind
  have c0:c=0:=by
   have hn:h ≠ 0:=by grind
   have:c*c=0:=by grind
   grind
  intro i
  rw[er i,p2 q1 i,<- hc,c0]
  grind
end
end L2
namespace L2
open PySem PySem.Spec PyProof.Rows
theorem yv{X:Cx}{k:Nat}(N:oP X.prog X.base)(hr:gy k X.A)(hst:X.stack=X.env :: X.outer)(hgen:X.env.scope.isGenerator=false)(hco:X.env.scope.isCoroutine=false) :
  Dr X .FloorDiv (fun x y H Q=>∃ i j,x = .int i/\y = .int j/\xZ i j/\Q (.int (i.fdiv j)) H):=by
 intro pins s σ H x y v u Q I r1 r2 h
 obtain⟨i,j,rfl,rfl,m,q⟩:=h
 obtain⟨t,rfl⟩:=r1
 obtain⟨t',rfl⟩:=r2
 refine ifloordiv_int m ⟨.int _,H,I.tok _,⟨_,rfl⟩,q⟩ (.inr ?_)
 refine PySem.PylongRoom.of I.nolimit ?_ (PySem.SeerAt.of (N.seer.keeps I.bk) N.tree (I.ok.frames.trans (congrArg some hst)) hgen hco I.ok.blt I.ok.glob)
 have:=hr.dp
 show X.A.depth+100<recursionLimit
 walk_at"o"
def Bd(n:Nat)(f:Nat->Rat):Prop:=∀ i,n<=i->f i=0
def Tp(d:Nat)(f:Nat->Rat):Prop:=f d ≠ 0/\Bd (d+1) f
theorem Bd.mono{m n:Nat}{f:Nat->Rat}(h:Bd m f)(l:m<=n):Bd n f:=fun i hi=>h i (by walk_at"o")
theorem Bd.add{n:Nat}{f g:Nat->Rat}{c:Rat}(h:Bd n f)(k:Bd n g):Bd n (fun i=>f i+c*g i):=fun i hi=>by
 show f i+c*g i=0
 rw[h i hi,k i hi]
 grind
theorem Bd.tp:∀{n:Nat}{f:Nat->Rat},Bd n f->(∀ i,f i=0) \/ ∃ d,d<n/\Tp d f
 | 0,f,h=>.inl fun i=>h i (Nat.zero_le _)
 | n+1,f,h=>by
  by_cases e:f n=0
  ·rcases Bd.tp (n:=n) (f:=f) (fun i hi=>by
    by_cases z:i=n
    ·rw[z,e]
    ·exact h i (by walk_at"o")) with z|⟨d,hd,t⟩
   ·exact .inl z
   ·exact .inr ⟨d,by walk_at"o",t⟩
  ·exact .inr ⟨n,by walk_at"o",e,h⟩
theorem jy{f:Nat->Rat}(h:∀ i,f i=0)(x:Rat):EV f x=0:=by
 rw[rf (n:=0) (fun k _=>h k) (by decide)]
 rfl
theorem i8{f g:Nat->Rat}{c:Rat}(x:Rat):EV (fun i=>f i+c*g i) x=EV f x+c*EV g x:=by
 have:EV (fun i=>c*g i) x=c*EV g x:=by rw[yI,yI (v:=g),oX]
 rw[pD,this]
theorem Bd.pr{m n:Nat}{f g:Nat->Rat}(hg:Bd n g):Bd (m+n) (fun k=>L2.pr f g m k):=fun k hk=>gR hg _ _ (by walk_at"o")
theorem kS{m n:Nat}{f g:Nat->Rat}(hf:Bd m f)(hg:Bd n g)(h:m+n<=20)(x:Rat):EV (fun k=>pr f g m k) x=EV f x*EV g x:=by
 rw[AH hg m h,rf hf (by walk_at"o"),rf hg (by walk_at"o")]
theorem Bx{g:Nat->Rat}{d:Nat}(hg:Tp d g):∀ (n:Nat)(f:Nat->Rat),Bd (n+d) f -> ∃ q r:Nat->Rat,Bd n q/\Bd d r /\ ∀ k,f k=pr q g n k+r k
 | 0,f,h=>⟨fun _=>0,f,fun _ _=>rfl,fun i hi=>h i (by walk_at"o"),fun k=>by show f k=0+f k;grind⟩
 | n+1,f,h=>by
  have g0:=hg.1
  obtain⟨c,hc⟩ : ∃ c,c=f (n+d) / g d:=⟨_,rfl⟩
  obtain⟨q,r,bq,br,e⟩:=Bx hg n (fun k=>f k - if n<=k then c*g (k - n) else 0) (fun i hi=>by
   show f i - (if n<=i then c*g (i - n) else 0)=0
   rw[if_pos (by walk_at"o")]
   by_cases z:i=n+d
   ·rw[z,Nat.add_sub_cancel_left,hc]
    grind
   ·rw[h i (by walk_at"o"),hg.2 _ (by walk_at"o")]
    grind)
  refine⟨fun i=>if i=n then c else q i,r,fun i hi=>?_,br,fun k=>?_⟩
  ·show (if i=n then c else q i)=0
   rw[if_neg (by walk_at"o"),bq i (by walk_at"o")]
  ·show f k=pr _ g n k+(if n<=k then (if n=n then c else q n)*g (k - n) else 0)+r k
   rw[ur n (f':=q) fun i hi=>if_neg (by walk_at"o"),if_pos rfl]
   have:=e k
   grind
theorem pj{f q e:Nat->Rat}{n d:Nat}(hf:Bd n f)(hn:n<=20)(te:Tp d e)(d6:d<=6)(bq:Bd 13 q)(h:∀ x,EV f x=EV q x*EV e x):Bd (n - d) q/\(n<=d -> ∀ i,f i=0):=by
 have c:∀ k,f k=pr q e 13 k:=m5 (hf.mono hn) ((Bd.pr te.2).mono (by walk_at"o")) fun x=>by rw[h x,kS bq te.2 (by walk_at"o")]
 obtain⟨q0,r0,b0,s0,z⟩:=Bx te (n - d) f (hf.mono (by walk_at"o"))
 obtain⟨u1,u2⟩:=uS (q:=q) (q':=q0) (r:=fun _=>0) (r':=r0) bq b0 (fun j hj=>te.2 j (by walk_at"o")) te.1 (fun _ _=>rfl) s0 fun k=>by rw[<- z k,c k];grind
 have bq':Bd (n - d) q:=fun i hi=>by rw[u1 i,b0 i hi]
 refine⟨bq',fun hd i=>?_⟩
 have q0':∀ i,q i=0:=fun i=>bq' i (by walk_at"o")
 rw[c i,GE _ fun j _=>q0' j]
theorem Du{f g q r:Nat->Rat}{n d:Nat}(te:Tp d g)(bq:Bd n q)(h:n+(d+1)<=20)(e:∀ k,f k=pr q g n k+r k)(x:Rat):EV f x=EV q x*EV g x+EV r x:=by
 rw[iZ (g:=fun k=>(fun k=>pr q g n k) k+r k) e,pD,kS bq te.2 h]
theorem kG{n:Nat}{f:Nat->Rat}(h:Bd (n+1) f):Bd n (DF f):=fun i hi=>by
 show (((i+1:Nat):Int):Rat)*f (i+1)=0
 rw[h _ (by walk_at"o")]
 grind
theorem Df{f g:Nat->Rat}{c:Rat}(k:Nat):DF (fun i=>f i+c*g i) k=DF f k+c*DF g k:=by
 show (((k+1:Nat):Int):Rat)*(f (k+1)+c*g (k+1))=(((k+1:Nat):Int):Rat)*f (k+1)+c*((((k+1:Nat):Int):Rat)*g (k+1))
 grind
theorem zY{g:Nat->Rat}{m:Nat}(bg:Bd m g):∀ (n:Nat)(f h:Nat->Rat),Bd n f->n+m<=19->Bd 20 h->(∀ x,EV h x=EV f x*EV g x) -> ∀ x,EV (DF h) x=EV (DF f) x*EV g x+EV f x*EV (DF g) x
 | 0,f,h,bf,l,bh,e,x=>by
  have f0:∀ i,f i=0:=fun i=>bf i (Nat.zero_le _)
  have h0:∀ i,h i=0:=m5 bh (g:=fun _=>0) (fun _ _=>rfl) fun x=>by rw[e x,jy f0,jy (f:=fun _=>0) fun _=>rfl];grind
  rw[jy (f:=DF h) fun i=>by show _*h (i+1)=0;rw[h0];grind,jy (f:=DF f) fun i=>by show _*f (i+1)=0;rw[f0];grind,jy f0]
  grind
 | n+1,f,h,bf,l,bh,e,x=>by
  obtain⟨f1,hf1⟩ : ∃ f1:Nat->Rat,∀ k,f1 k=f (k+1):=⟨_,fun _=>rfl⟩
  have b1:Bd n f1:=fun i hi=>by rw[hf1,bf _ (by walk_at"o")]
  obtain⟨one,h1⟩ : ∃ one:Nat->Rat,∀ k,one k=if k=0 then 1 else 0:=⟨_,fun _=>rfl⟩
  have one1:∀ x,EV one x=1:=fun x=>by
   rw[rf (n:=1) (fun k hk=>by rw[h1,if_neg (by walk_at"o")]) (by decide)]
   show 0+one 0*1=(1:Rat)
   rw[h1,if_pos rfl]
   grind
  have ef:∀ k,f k=lin 0 1 f1 k+f 0*one k:=fun k=>by
   cases k with
   | zero=>show f 0=f1 0*0+f 0*one 0;rw[h1,if_pos rfl];grind
   | succ k=>show f (k+1)=f1 (k+1)*0+f1 k*1+f 0*one (k+1);rw[h1,if_neg (by walk_at"o"),hf1];grind
  have z1:f1 19=0:=b1 _ (by walk_at"o")
  have vf:∀ x,EV f x=x*EV f1 x+f 0:=fun x=>by rw[iZ ef,i8,sw z1,one1];grind
  have df:∀ x,EV (DF f) x=x*EV (DF f1) x+EV f1 x:=fun x=>by
   have:∀ k,DF f k=lin 0 1 (DF f1) k+f1 k:=fun k=>by
    rw[show f=fun k=>lin 0 1 f1 k+f 0*one k from funext ef,Df,yx]
    have:DF one k=0:=by show _*one (k+1)=0;rw[h1,if_neg (by walk_at"o")];grind
    rw[this]
    grind
   rw[iZ this,pD,sw (by show _*f1 20=0;rw[b1 _ (by walk_at"o")];grind)]
   grind
  obtain⟨u,hu⟩ : ∃ u:Nat->Rat,u=fun k=>pr f1 g n k:=⟨_,rfl⟩
  have bu:Bd 19 u:=by rw[hu];exact (Bd.pr bg).mono (by walk_at"o")
  have vu:∀ x,EV u x=EV f1 x*EV g x:=fun x=>by rw[hu,kS b1 bg (by walk_at"o")]
  have ih:=zY bg n f1 u b1 (by walk_at"o") (bu.mono (by walk_at"o")) vu
  have eh:∀ k,h k=lin 0 1 u k+f 0*g k:=m5 bh (fun k hk=>by
   obtain⟨j,rfl⟩ : ∃ j,k=j+1:=⟨k - 1,by walk_at"o"⟩
   show u (j+1)*0+u j*1+f 0*g (j+1)=0
   rw[bu j (by walk_at"o"),bg _ (by walk_at"o")]
   grind) fun x=>by rw[e x,vf,i8,sw (bu 19 (by walk_at"o")),vu];grind
  have dh:EV (DF h) x=x*EV (DF u) x+EV u x+f 0*EV (DF g) x:=by
   have:∀ k,DF h k=(fun k=>lin 0 1 (DF u) k+u k) k+f 0*DF g k:=fun k=>by
    rw[show h=fun k=>lin 0 1 u k+f 0*g k from funext eh,Df,yx]
   rw[iZ this,i8,pD,sw (by show _*u 20=0;rw[bu _ (by walk_at"o")];grind)]
   grind
  rw[dh,ih,vu,df,vf]
  grind
theorem zd{S u v:Nat->Rat}{a b:Nat}(bv:Bd b v)(h:a+b<=20):ip S u v a b=bZ (fun k=>pr u v a k) S 20:=by
 rw[AN]
 unfold ip
 refine fD a (fun _ _=>rfl) fun i hi=>?_
 rw[show 20 - i=b+(20 - i - b) by walk_at"o"]
 exact (gi (fun j hj=>by rw[bv j hj];grind) _).symm
theorem Bo{S u v u' v':Nat->Rat}{a b a' b':Nat}(bu:Bd a u)(bv:Bd b v)(bu':Bd a' u')(bv':Bd b' v')(h:a+b<=20)(h':a'+b'<=20)(e:∀ x,EV u x*EV v x=EV u' x*EV v' x):ip S u v a b=ip S u' v' a' b':=by
 rw[zd bv h,zd bv' h']
 have:∀ k,pr u v a k=pr u' v' a' k:=m5 ((Bd.pr bv).mono h) ((Bd.pr bv').mono h') fun x=>by rw[kS bu bv h,kS bu' bv' h',e x]
 rw[show (fun k=>pr u v a k)=fun k=>pr u' v' a' k from funext this]
def uj(e f:Nat->Rat):Prop:=∃ q,Bd 13 q /\ ∀ x,EV f x=EV q x*EV e x
theorem least{Φ:Nat->Prop}:∀ {n:Nat},Φ n -> ∃ m,Φ m /\ ∀ k,Φ k->m<=k:=by
 intro n
 induction n using Nat.strongRecOn with
 | ind n ih =>
  intro h
  by_cases e:∃ k,Φ k/\k<n
  ·obtain⟨k,hk,l⟩:=e
   exact ih k l hk
  ·exact⟨n,h,fun k hk=>Classical.byContradiction fun z=>e ⟨k,hk,by walk_at"o"⟩⟩
theorem uj.trans{s e f:Nat->Rat}{m n:Nat}(bq:∃ q,Bd m q /\ ∀ x,EV e x=EV q x*EV s x)(h:∃ q,Bd n q /\ ∀ x,EV f x=EV q x*EV e x)(l:m+n<=13):uj s f:=by
 obtain⟨q,b1,e1⟩:=bq
 obtain⟨p,b2,e2⟩:=h
 refine⟨fun k=>pr p q n k,(Bd.pr b1).mono (by walk_at"o"),fun x=>?_⟩
 rw[kS b2 b1 (by walk_at"o"),e2,e1]
 grind
end L2
namespace L2
open PySem PySem.Spec PyProof.Rows
section
variable {X:Cx}
def zO(i j k:Nat)(ta:TA):TS:=fun D σ H=>ta σ H fun vs H1=>∃ u v w,vs=[u,v,w]/\D.nx (((σ.set i (some u)).set j (some v)).set k (some w)) H1
theorem we{i j k:Nat}{x y z:Str}{a b c:Expr}{ta:TA}{px py pz pt pos:Pos} {kt k2 pt2}(hc:X.calm=true)(hN:X.N.Nodup)(hi:X.N[i]? = some x)(hj:X.N[j]? = some y)(hk:X.N[k]? = some z)(hij:i ≠ j)(hik:i ≠ k)(hjk:j ≠ k)
  (hx:X.env.scope.names.lookup x=some .local)(hy:X.env.scope.names.lookup y=some .local)(hz:X.env.scope.names.lookup z=some .local)(ha:QA X [a,b,c] ta)
  (hw:swappedStores [.Tuple [.Name x px,.Name y py,.Name z pz] kt pt] (.Tuple [a,b,c] k2 pt2) X.env=pure (some [x,y,z]))
  (hs:swapsWithSole [.Tuple [.Name x px,.Name y py,.Name z pz] kt pt] (.Tuple [a,b,c] k2 pt2) pos.line X.env=pure false:=by rfl) :
  QS X (.Assign [.Tuple [.Name x px,.Name y py,.Name z pz] kt pt] (.Tuple [a,b,c] k2 pt2) pos) (zO i j k ta):=⟨by
 intro pins s σ H D I h
 rw[exec_Assign_arm]
 refine wpAny_bind (wpAny_standAt ?_)
 rw[hs]
 refine wpAny_bind (wpAny_pure ?_)
 rw[if_neg (by decide)]
 refine wpAny_bind (Tuple_ (dE (ha.h _ pins s σ H _ I h) fun us s1 ⟨vs,H1,I1,r1,q1⟩=>?_))
 obtain⟨u,v,w,e1,q1⟩:=q1
 subst e1
 obtain⟨u1,u2,u3,rfl,ru,rv,rw'⟩ : ∃ u1 u2 u3,us=[u1,u2,u3]/\cw u u1/\cw v u2/\cw w u3:=by
  rcases r1 with _|⟨p,_|⟨p',_|⟨p'',_|_⟩⟩⟩
  exact⟨_,_,_,rfl,p,p',p''⟩
 refine wpAny_newObj_type ?_ (by show 3<=sizeLine;decide)
 have I2:aT X pins σ H1 { s1 with heap:=s1.heap.push { cls:=.type "tuple",data:=.seq [u1,u2,u3].toArray } }:=I1.kept (t':=s1.toks) fun b o e=>Heap.get?_push_of_some _ e
 rw[hw]
 refine wpAny_bind (wpAny_pure ?_)
 show wpAny (model X.prog X.w) X.A (do rule "assign.swapped-stores";let items <- unpackItems (.ref s1.heap.objs.size) 3 none;assignInOrder [fun v=>bindName X.env z v,fun v=>bindName X.env y v,fun v=>bindName X.env x v] items.reverse;pure Flow.next) _ _ _
 refine wpAny_bind (wpAny_rule (wpAny_bind (unpackItems_tuple (items:=#[u1,u2,u3]) (I.ok.hd hc) (IsTup.new s1.heap _) fun h' hx'=>?_)))
 have I3:=I2.kept (h':=h') (t':=s1.toks) fun b o e=>hx' b o (Nat.ne_of_lt (Heap.lt_size e)) e
 show wpAny _ _ (assignInOrder [fun v=>bindName X.env z v,fun v=>bindName X.env y v,fun v=>bindName X.env x v] [u3,u2,u1] >>= fun _=>pure Flow.next) _ _ _
 refine wpAny_bind (assignInOrder_cons (wpAny_bindName (gr I3 hN hk (.inl hz) rw' (fun s2 I4=>?_) (.inr hz))))
 refine assignInOrder_cons (wpAny_bindName (gr I4 hN hj (.inl hy) rv (fun s3 I5=>?_) (.inr hy)))
 refine assignInOrder_cons (wpAny_bindName (gr I5 hN hi (.inl hx) ru (fun s4 I6=>assignInOrder_nil (wpAny_pure ?_)) (.inr hx)))
 rw[List.set_comm (i:=k) (j:=j) _ _ (Ne.symm hjk),List.set_comm (i:=k) (j:=i) _ _ (Ne.symm hik),List.set_comm (i:=j) (j:=i) _ _ (Ne.symm hij)] at I6
 exact⟨_,H1,I6,q1⟩⟩
end
theorem zS(x y:Int):(x.fdiv y).natAbs<=x.natAbs+1:=by
 rw[Int.fdiv_eq_ediv]
 have h1:=Int.natAbs_ediv_le_natAbs x y
 by_cases c:0<=y\/y ∣ x
 ·rw[if_pos c]
  walk_at"o"
 ·rw[if_neg c]
  have h2:=Int.natAbs_sub_le (x / y) 1
  walk_at"o"
theorem Bt.fdv{b:Nat}{x:Int}(h:Bt b x)(y:Int):Bt (b+1) (x.fdiv y):=by
 have:=zS x y
 have p:=Nat.two_pow_pos b
 unfold Bt at *
 rw[Nat.pow_succ]
 walk_at"o"
inductive uo:List Int->List Int->List (List Int × List Int × Int × Int)->Prop
 | nought {F:List Int}:uo F [] []
 | last {F G Q:List Int}{S:Int}:G ≠ []->nz G (G.length - 1) ≠ 0->S ≠ 0->Q.length+G.length=F.length+1->(∀ k,S*nz F k=pz (nz Q) (nz G) Q.length k)->uo F G []
 | more {F G R Q:List Int}{T S:Int}{rows:List (List Int × List Int × Int × Int)}:G ≠ []->nz G (G.length - 1) ≠ 0->S ≠ 0->T ≠ 0->R ≠ []->nz R (R.length - 1) ≠ 0->R.length<G.length->Q.length+G.length=F.length+1->(∀ k,S*nz F k=pz (nz Q) (nz G) Q.length k+T*nz R k)->uo G R rows->uo F G ((R,Q,T,S) :: rows)
def ii(G:List Int):List (List Int × List Int × Int × Int)->List Int
 | []=>G
 | row :: rows=>ii row.1 rows
theorem yh(G:List Int):∀ rows:List (List Int × List Int × Int × Int),ii G rows=G \/ ∃ row ∈ rows,ii G rows=row.1:=by
 intro rows
 induction rows generalizing G with
 | nil=>exact .inl rfl
 | cons row rows ih =>
  rcases ih row.1 with z|⟨r,hr,z⟩
  ·exact .inr ⟨row,by simp,z⟩
  ·exact .inr ⟨r,by simp[hr],z⟩
theorem mE(l:List Int):Bd l.length (mw l):=fun i hi=>Br hi
theorem AZ{l:List Int}(h:l ≠ [])(z:nz l (l.length - 1) ≠ 0):Tp (l.length - 1) (mw l):=⟨aD z,(mE l).mono (by have:=List.length_pos_iff.mpr h;walk_at"o")⟩
theorem zl{F G R Q:List Int}{S T:Int}(lq:Q.length+G.length<=20)(e:∀ k,S*nz F k=pz (nz Q) (nz G) Q.length k+T*nz R k)(x:Rat):(S:Rat)*EV (mw F) x=EV (mw Q) x*EV (mw G) x+(T:Rat)*EV (mw R) x:=by
 have c:∀ k,(fun k=>0+(S:Rat)*mw F k) k=(fun k=>pr (mw Q) (mw G) Q.length k) k+(T:Rat)*mw R k:=fun k=>by
  have:=e k
  have z:((S*nz F k:Int):Rat)=((pz (nz Q) (nz G) Q.length k+T*nz R k:Int):Rat):=by rw[this]
  rw[Rat.intCast_mul,Rat.intCast_add,Rat.intCast_mul,Eg] at z
  show 0+(S:Rat)*((nz F k:Int):Rat)=pr (fun i=>((nz Q i:Int):Rat)) (fun i=>((nz G i:Int):Rat)) Q.length k+(T:Rat)*((nz R k:Int):Rat)
  grind
 have h1:=iZ c x
 rw[i8,i8,kS (mE Q) (mE G) lq,jy (f:=fun _=>0) fun _=>rfl] at h1
 grind
theorem uo.dvs{F G:List Int}{rows:List (List Int × List Int × Int × Int)}(h:uo F G rows):G ≠ []->F.length<=7->G.length<=7->(ii G rows ≠ []/\nz (ii G rows) ((ii G rows).length - 1) ≠ 0/\(ii G rows).length<=7)/\uj (mw (ii G rows)) (mw F)/\uj (mw (ii G rows)) (mw G):=by
 induction h with
 | nought=>exact fun z=>absurd rfl z
 | @last F G Q S g0 gl s0 lq e =>
  intro _ lF lG
  have ls:=aD s0
  refine⟨⟨g0,gl,lG⟩,⟨fun i=>0+1 / (S:Rat)*mw Q i,Bd.add (fun _ _=>rfl) ((mE Q).mono (by walk_at"o")),fun x=>?_⟩,⟨fun i=>if i=0 then 1 else 0,fun i hi=>if_neg (by walk_at"o"),fun x=>?_⟩⟩
  ·show EV (mw F) x=_
   have h1:=zl (F:=F) (G:=G) (Q:=Q) (R:=[]) (S:=S) (T:=0) (by walk_at"o") (fun k=>by rw[e k];walk_at"o") x
   rw[i8,jy (f:=fun _=>0) fun _=>rfl]
   show EV (mw F) x=(0+1 / (S:Rat)*EV (mw Q) x)*EV (mw G) x
   have c0:((0:Int):Rat)=0:=rfl
   rw[c0] at h1
   grind
  ·show EV (mw G) x=_
   rw[rf (f:=fun i=>if i=0 then (1:Rat) else 0) (n:=1) (fun k hk=>if_neg (by walk_at"o")) (by decide)]
   show EV (mw G) x=(0+1*1)*EV (mw G) x
   grind
 | @more F G R Q T S rows g0 gl s0 t0 r0 rl lR lq e hs ih =>
  intro _ lF lG
  obtain⟨⟨n0,nl,n7⟩,⟨a,ba,ea⟩,⟨b,bb,eb⟩⟩:=ih r0 lG (by walk_at"o")
  have tn:=AZ n0 nl
  have ba':=(pj (mE G) (by walk_at"o") tn (by walk_at"o") ba ea).1
  have ls:=aD s0
  refine⟨⟨n0,nl,n7⟩,⟨fun i=>(fun i=>0+1 / (S:Rat)*pr (mw Q) a Q.length i) i+(T:Rat) / (S:Rat)*b i,Bd.add (Bd.add (fun _ _=>rfl) ((Bd.pr ba').mono (by walk_at"o"))) bb,fun x=>?_⟩,⟨a,ba,ea⟩⟩
  have h1:=zl (F:=F) (G:=G) (Q:=Q) (R:=R) (S:=S) (T:=T) (by walk_at"o") e x
  rw[i8,i8,jy (f:=fun _=>0) fun _=>rfl,kS (mE Q) ba' (by walk_at"o")]
  show EV (mw F) x=_*EV (mw (ii R rows)) x
  have h2:=ea x
  have h3:=eb x
  grind
theorem uo.few{F G:List Int}{rows:List (List Int × List Int × Int × Int)}(h:uo F G rows):rows.length<=G.length - 1:=by
 induction h with
 | nought=>exact Nat.zero_le _
 | last _ _ _ _ _=>exact Nat.zero_le _
 | @more F G R Q T S rows g0 gl s0 t0 r0 rl lR lq e hs ih =>
  have:=List.length_pos_iff.mpr r0
  simp only[List.length_cons]
  walk_at"o"
def su(f g:Nat->Rat):Prop:=∀ d e,1<=d->d<=6->Tp d e->uj e f->uj e g->False
theorem uj.sc{e f f':Nat->Rat}{c:Rat}(h:uj e f)(z:∀ k,f' k=c*f k):uj e f':=by
 obtain⟨q,bq,eq⟩:=h
 refine⟨fun i=>0+c*q i,Bd.add (fun _ _=>rfl) bq,fun x=>?_⟩
 rw[iZ (g:=fun k=>0+c*f k) (fun k=>by rw[z];grind),i8,i8,jy (f:=fun _=>0) fun _=>rfl,eq]
 grind
theorem uo.one{F G:List Int}{rows:List (List Int × List Int × Int × Int)}{f g:Nat->Rat}{c d:Rat}(h:uo F G rows)(g0:G ≠ [])(lF:F.length<=7)(lG:G.length<=7)(ef:∀ k,f k=c*mw F k)(eg:∀ k,g k=d*mw G k)(n:su f g):∃ x,ii G rows=[x]/\x ≠ 0:=by
 obtain⟨⟨n0,nl,n7⟩,h1,h2⟩:=h.dvs g0 lF lG
 have l1:(ii G rows).length=1:=Classical.byContradiction fun z=>by
  have:=List.length_pos_iff.mpr n0
  exact n ((ii G rows).length - 1) _ (by walk_at"o") (by walk_at"o") (AZ n0 nl) (h1.sc ef) (h2.sc eg)
 obtain⟨x,hx⟩:=List.length_eq_one_iff.mp l1
 refine⟨x,hx,?_⟩
 rw[hx] at nl
 exact nl
end L2
namespace L2
open PySem PySem.Spec PyProof.Rows
section
variable {X:Cx}
def qC(K:W.Frag):R2:=fun x y H Q=>∃ a b,x = .ref a/\y = .ref b /\ ∃ xs,vw K H a=some (.tup xs) /\ ∃ ys,vw K H b=some (.tup ys)/\xs.length+ys.length<=sizeLine /\
 ∀ p H2,aC (vw K H) (vw K H2)->vw K H2 p=some (.tup (xs ++ ys))->Q (.ref p) H2
theorem yP{prog:Program}{w:World}{A:Around}{E:Value->Shared->Prop}{s:Shared}{t b:Addr}{ws:List Value}{Q:Value->Shared->Prop}(ht:IsTup s.heap t ([]:List Value).toArray)(hb:IsTup s.heap b ws.toArray)(h:Q (.ref b) s):wpAny (model prog w) A (binaryOp .Add (.ref t) (.ref b)) Q E s:=by
 obtain⟨⟨c1,d1,e1,l1⟩,g1,k1,n1,z1⟩:=id ht
 obtain⟨⟨c2,d2,e2,l2⟩,g2,k2,n2,z2⟩:=id hb
 simp only at k1 z1 k2 z2
 subst k1 z1 k2 z2
 exact concat_meets ⟨_,g1,rfl⟩ ⟨_,g2,rfl⟩ noFill_tuple_add seq_tuple_add PySem.F.slot_tuple_add PySem.F.entry_tuple_add (PySem.F.args_tuple_add_2 _ _) (tuple_addW0 t b _ ws.toArray n1 n2 d1 d2 l1 l2 (by simp)) ⟨g1,g2,h⟩
theorem iK:fb X (binaryOp .Add) (qC X.K):=by
 intro pins s σ H x y v u Q I rx ry h
 obtain⟨a,b,rfl,rfl,xs,ha,ys,hb,hz,q⟩:=h
 by_cases hx:xs=[]
 ·subst hx
  cases rx
  cases ry
  obtain⟨its,r1,p1,_⟩:=I.tuple (cN ha)
  obtain⟨its2,r2,p2,_⟩:=I.tuple (cN hb)
  cases r1
  exact yP p1 p2 ⟨.ref b,H,I,rfl,q b H (fun _ _ z=>z) hb⟩
 ·refine CW.kf pins s σ H _ _ v u Q I rx ry ⟨a,b,xs,ys,rfl,rfl,cN ha,cN hb,hx,hz,fun z _=>?_,fun z p hp hk=>?_⟩
  ·subst z
   exact q a H (fun _ _ z=>z) (by rw[List.append_nil];exact ha)
  ·have hl:=hk p _ rfl dA
   exact q p _ (kW (aC.upd hp)) (by rw[fe hl];exact dA)
end
def TD(K:W.Frag)(σ:St)(H0:Hp)(t:TE)(d:D):Prop:=∀ H (Q:VK),aC (vw K H0) (vw K H)->(∀ v H',aC (vw K H) (vw K H')->aF (vw K H') d v->Q v H')->t σ H Q
def Gy(K:W.Frag)(σ:St)(H0:Hp)(t:TA)(ds:List D):Prop:=∀ H (Q:List V->Hp->Prop),aC (vw K H0) (vw K H)->(∀ vs H',aC (vw K H) (vw K H')->aG (vw K H') ds vs->Q vs H')->t σ H Q
section
variable {K:W.Frag}{σ:St}{H0:Hp}{t u:TE}{ta:TA}{d:D}{ds es:List D}
theorem gF{i:Nat}{v:V}(hs:σ[i]? = some (some v))(h:aF (vw K H0) d v):TD K σ H0 (tVar i) d:=fun H Q S k=>⟨v,hs,k v H .rfl (aF.same S _ _ h)⟩
theorem iP{x:Str}:TD K σ H0 (tC (.str x)) (.str x):=fun H Q S k=>k _ H .rfl (by unfold aF;rfl)
theorem yW:TD K σ H0 (tC .non) .non:=fun H Q S k=>k _ H .rfl (by unfold aF;rfl)
theorem gG{i:Int}:TD K σ H0 (tC (.int i)) (.int i):=fun H Q S k=>k _ H .rfl (by unfold aF;rfl)
theorem Co:TD K σ H0 (vT K) .dict:=fun H Q S k=>fun p H2 hp S2 h2=>k _ H2 S2 (by unfold aF;exact⟨p,_,rfl,h2⟩)
theorem cr:Gy K σ H0 oV []:=fun H Q S k=>k [] H .rfl .mk_nil
theorem au(h1:TD K σ H0 t d)(h2:Gy K σ H0 ta ds):Gy K σ H0 (dQ t ta) (d :: ds):=fun H Q S k =>
 h1 H _ S fun v H1 S1 r1=>h2 H1 _ (S.trans S1) fun vs H2 S2 r2=>k (v :: vs) H2 (S1.trans S2) (.mk_cons (aF.same S2 _ _ r1) r2)
theorem fB(h:Gy K σ H0 ta ds)(hl:ds.length<=1000):TD K σ H0 (ju K ta) (.tup ds):=fun H Q S k =>
 h H _ S fun vs H1 S1 r1=>⟨by rw[r1.length];exact Nat.le_trans hl (by decide),fun p H2 hp S2 h2=>k _ H2 (S1.trans S2) (.mk_tup h2 (r1.same S2))⟩
theorem jf(h:Gy K σ H0 ta ds)(hl:ds.length<=1000):TD K σ H0 (qL K ta) (.lst ds):=fun H Q S k =>
 h H _ S fun vs H1 S1 r1=>⟨by rw[r1.length];exact Nat.le_trans hl (by decide),fun p H2 hp S2 h2=>k _ H2 (S1.trans S2) (.mk_lst h2 (r1.same S2))⟩
theorem rO(h1:TD K σ H0 t (.tup ds))(h2:TD K σ H0 u (.tup es))(hl:ds.length+es.length<=1000):TD K σ H0 (yX (qC K) t u) (.tup (ds ++ es)):=fun H Q S k =>
 h1 H _ S fun v H1 S1 r1=>h2 H1 _ (S.trans S1) fun w H2 S2 r2=>by
  obtain⟨a,xs,rfl,ha,ra⟩:=(aF.same S2 _ _ r1).tup_at
  obtain⟨b,ys,rfl,hb,rb⟩:=r2.tup_at
  refine⟨a,b,rfl,rfl,xs,ha,ys,hb,?_,fun p H3 S3 h3=>k _ H3 (S1.trans (S2.trans S3)) (.mk_tup h3 ((ra.same S3).app (rb.same S3)))⟩
  rw[ra.length,rb.length]
  exact Nat.le_trans hl (by decide)
theorem jo(h1:TD K σ H0 t (.lst ds))(h2:TD K σ H0 u (.lst es))(hl:ds.length+es.length<=1000):TD K σ H0 (yX (iN K) t u) (.lst (ds ++ es)):=fun H Q S k =>
 h1 H _ S fun v H1 S1 r1=>h2 H1 _ (S.trans S1) fun w H2 S2 r2=>by
  obtain⟨a,xs,rfl,ha,ra⟩:=(aF.same S2 _ _ r1).lst_at
  obtain⟨b,ys,rfl,hb,rb⟩:=r2.lst_at
  rw[gZ]
  refine⟨xs,ha,ys,hb,?_,fun p H3 hp S3 h3=>k _ H3 (S1.trans (S2.trans S3)) (.mk_lst h3 ((ra.same S3).app (rb.same S3)))⟩
  rw[ra.length,rb.length]
  exact Nat.le_trans hl (by decide)
theorem oK{g:TG}{D:m4}(h1:TD K σ H0 t d)(h:∀ v H',aC (vw K H0) (vw K H')->aF (vw K H') d v->g v σ H' D.nx):tR t g D σ H0:=h1 H0 _ .rfl h
end
end L2
namespace L2
open PySem PySem.Spec PyProof.Rows
theorem HD{f:Nat->Rat}{m:Nat}(m6:m<=6)(tP:Tp m f)(nosq:∀ (d:Nat)(e q:Nat->Rat),1<=d->Tp d e->Bd (m - d+1 - d) q->(∀ x,EV f x=EV q x*EV e x*EV e x)->False) {d:Nat}{e:Nat->Rat}(d1:1<=d)(d6:d<=6)(te:Tp d e)(ha:uj e f)(hc:uj e (DF f)):False:=by
 obtain⟨d,⟨d1,d6,e,te,ha,hc⟩,mn⟩:=least (Φ:=fun d=>1<=d/\d<=6 /\ ∃ e,Tp d e/\uj e (f)/\uj e (DF (f))) ⟨d1,d6,e,te,ha,hc⟩
 obtain⟨a,ba,ea⟩:=ha
 obtain⟨c,bc,ec⟩:=hc
 have bP:Bd (m+1) (f):=tP.2
 obtain⟨ba',az⟩:=pj bP (by walk_at"o") te d6 ba ea
 have dm:d<=m:=Classical.byContradiction fun z=>tP.1 (az (by walk_at"o") m)
 have bc':=(pj (kG bP) (by walk_at"o") te d6 bc ec).1
 have rule:=zY (m:=d+1) te.2 (m+1 - d) a (f) ba' (by walk_at"o") (bP.mono (by walk_at"o")) ea
 have k1:∀ x,EV (DF e) x*EV a x=(EV c x - EV (DF a) x)*EV e x:=fun x=>by
  have:=rule x
  rw[ec x] at this
  grind
 obtain⟨q,t,bq,bt,eq⟩:=Bx te (m+1 - d) a (ba'.mono (by walk_at"o"))
 have vq:=Du te bq (by walk_at"o") eq
 rcases Bd.tp bt with t0|⟨t',ht',tt⟩
 ·-- twice in it
  have v1:∀ x,EV (f) x=EV q x*EV e x*EV e x:=fun x=>by
   rw[ea x,vq x,jy t0]
   grind
  have bq2:Bd (m - d+1 - d) q:=by
   have:=(pj (f:=a) (n:=m+1 - d) ba' (by walk_at"o") te d6 (bq.mono (by walk_at"o")) fun x=>by rw[vq x,jy t0];grind).1
   exact this.mono (by walk_at"o")
  exact nosq d e q d1 te bq2 v1
 ·-- a smallest rest that does it
  have dv:uj e (fun k=>pr (DF e) t d k):=by
   refine⟨fun i=>c i + -1*(fun i=>DF a i+1*pr q (DF e) (m+1 - d) i) i,?_,fun x=>?_⟩
   ·refine Bd.add bc ?_
    exact Bd.add ((kG (n:=12) (ba.mono (by walk_at"o")))|>.mono (by walk_at"o")) ((Bd.pr (kG te.2)).mono (by walk_at"o"))
   ·rw[kS (kG te.2) bt (by walk_at"o"),i8,i8,kS bq (kG te.2) (by walk_at"o")]
    have:=k1 x
    rw[vq x] at this
    grind
  obtain⟨s,⟨sd,w,tw,q2,bq2,e2⟩,sm⟩:=least (Φ:=fun s=>s<d /\ ∃ w,Tp s w/\uj e (fun k=>pr (DF e) w d k)) ⟨ht',t,tt,dv⟩
  have bw:Bd (s+1) w:=tw.2
  have v2:∀ x,EV (DF e) x*EV w x=EV q2 x*EV e x:=fun x=>by rw[<- e2 x,kS (kG te.2) bw (by walk_at"o")]
  obtain⟨b2',z2⟩:=pj (f:=fun k=>pr (DF e) w d k) (n:=d+s) (fun i hi=>gR bw _ _ (by walk_at"o")) (by walk_at"o") te d6 bq2 e2
  by_cases s0:s=0
  ·-- the slope itself would be divided
   subst s0
   have z:=z2 (by walk_at"o") (d - 1)
   have d0:DF e (d - 1) ≠ 0:=by
    show (((d - 1+1:Nat):Int):Rat)*e (d - 1+1) ≠ 0
    rw[show d - 1+1=d by walk_at"o"]
    have:(((d:Nat):Int):Rat) ≠ 0:=aD (by walk_at"o")
    have:=te.1
    grind
   have e0:∀ x,EV (DF e) x*EV w x=0:=fun x=>by
    rw[<- kS (kG te.2) bw (by walk_at"o"),jy (z2 (by walk_at"o"))]
   have w0:∀ x,EV w x=w 0:=fun x=>by
    rw[rf (n:=1) (fun k hk=>bw k (by walk_at"o")) (by decide)]
    show 0+w 0*1=w 0
    grind
   have wn:=tw.1
   exact d0 (m5 ((kG te.2).mono (by walk_at"o")) (g:=fun _=>0) (fun _ _=>rfl) (fun x=>by
    have:=e0 x
    rw[w0] at this
    rw[jy (f:=fun _=>0) fun _=>rfl]
    grind) (d - 1))
  ·obtain⟨q3,t3,b3,bt3,e3⟩:=Bx tw (d+1 - s) e (te.2.mono (by walk_at"o"))
   have v3:=Du tw b3 (by walk_at"o") e3
   rcases Bd.tp bt3 with t0|⟨t',ht',tt⟩
   ·-- a smaller one in both
    have:=mn s ⟨by walk_at"o",by walk_at"o",w,tw,uj.trans (m:=6) (n:=7) ⟨q3,b3.mono (by walk_at"o"),fun x=>by rw[v3 x,jy t0];grind⟩ ⟨a,ba'.mono (by walk_at"o"),ea⟩ (by decide),uj.trans (m:=6) (n:=7) ⟨q3,b3.mono (by walk_at"o"),fun x=>by rw[v3 x,jy t0];grind⟩ ⟨c,bc'.mono (by walk_at"o"),ec⟩ (by decide)⟩
    walk_at"o"
   ·have:=sm t' ⟨by walk_at"o",t3,tt,fun i=>DF e i + -1*pr q3 q2 (d+1 - s) i,Bd.add ((kG te.2).mono (by walk_at"o")) ((Bd.pr b2').mono (by walk_at"o")),fun x=>?_⟩
    ·walk_at"o"
    ·rw[kS (kG te.2) bt3 (by walk_at"o"),i8,kS b3 b2' (by walk_at"o")]
     have h1:=v3 x
     have h2:=v2 x
     grind
end L2
set_option maxHeartbeats 8000000
namespace M
open PySem L2
def dz(i:Nat):Stmt:=PySem.Challenge.pw_momentwright_k72_bars_from_a_spot_on.main.body.getD i (.Pass ⟨0,0,0,0⟩)
abbrev gg:Stmt:=dz 5
theorem nD:aB ["thing"] ["thing"] (ag gg):=by walk_at"a3"
abbrev cH:Stmt:=dz 6
theorem gI:aB ["one", "other"] ["one", "other"] (ag cH):=by walk_at"a3"
abbrev ka:Stmt:=dz 7
theorem uf:aB ["base", "many", "product", "turn"] ["base", "many"] (ag ka):=by walk_at"a3"
abbrev hZ:Stmt:=dz 8
theorem pT:aB ["numbers", "zero", "many"] ["numbers", "zero"] (ag hZ):=by walk_at"a3"
abbrev cE:Stmt:=dz 9
theorem gz:aB ["one", "other", "product", "j", "former", "k", "latter"] ["one", "other"] (ag cE):=by walk_at"a3"
abbrev di:Stmt:=dz 10
theorem iW:aB ["one", "other", "last", "rest", "quotient", "scale", "place", "part", "k"] ["one", "other"] (ag di):=by walk_at"a3"
abbrev dF:Stmt:=dz 11
theorem jp:aB ["one", "other", "told", "lead", "height", "gap", "bottom", "quotient", "rest", "scale", "top", "lack"] ["one", "other"] (ag dF):=by walk_at"a3"
abbrev dU:Stmt:=dz 13
theorem jP:aB ["thing", "top", "bottom"] ["thing"] (ag dU):=by walk_at"a3"
abbrev jT:Stmt:=dz 14
theorem ub:aB ["top", "bottom", "divisor"] ["top", "bottom"] (ag jT):=by walk_at"a3"
abbrev jX:Stmt:=dz 15
theorem tj:aB ["one", "other"] ["one", "other"] (ag jX):=by walk_at"a3"
abbrev dq:Stmt:=dz 18
theorem i7:aB ["thing", "number"] ["thing"] (ag dq):=by walk_at"a3"
abbrev gW:Stmt:=dz 19
theorem oC:aB ["f", "bottom", "number"] ["f"] (ag gW):=by walk_at"a3"
abbrev gU:Stmt:=dz 20
theorem pI:aB ["wholes", "bottom"] ["wholes", "bottom"] (ag gU):=by walk_at"a3"
abbrev eV:Stmt:=dz 21
theorem kE:aB ["f", "g", "f_wholes", "f_bottom", "g_wholes", "g_bottom"] ["f", "g"] (ag eV):=by walk_at"a3"
abbrev j6:Stmt:=dz 22
theorem tK:aB ["f"] ["f"] (ag j6):=by walk_at"a3"
abbrev dI:Stmt:=dz 23
theorem jq:aB ["f", "g", "other", "f_wholes", "f_bottom", "g_wholes", "g_bottom", "rest", "scale"] ["f", "g", "other"] (ag dI):=by walk_at"a3"
abbrev gX:Stmt:=dz 24
theorem pE:aB ["f", "g", "wholes", "bottom", "former", "latter", "last", "rest", "quotient", "top", "scale", "numbers", "place", "whole"] ["f", "g"] (ag gX):=by walk_at"a3"
abbrev j7:Stmt:=dz 26
theorem t9:aB ["sums", "f", "numbers", "numbers_bottom", "wholes", "bottom"] ["sums", "f"] (ag j7):=by walk_at"a3"
abbrev eP:Stmt:=dz 27
theorem kN:aB ["sums", "f", "g"] ["sums", "f", "g"] (ag eP):=by walk_at"a3"
abbrev fI:Stmt:=dz 30
theorem mi:aB ["spot"] ["spot"] (ag fI):=by walk_at"a3"
abbrev eH:Stmt:=dz 31
theorem kH:aB ["above", "roots"] ["above", "roots"] (ag eH):=by walk_at"a3"
abbrev qD:Stmt:=dz 33
theorem yH:aB ["wholes", "row", "k"] ["wholes", "row", "k"] (ag qD):=by walk_at"a3"
abbrev gf:Stmt:=dz 34
theorem nu:aB ["wholes", "row", "before", "k", "last", "height", "middle", "told", "place", "number"] ["wholes", "row", "before"] (ag gf):=by walk_at"a3"
abbrev fG:Stmt:=dz 35
theorem mo:aB ["wholes", "rows", "before", "row"] ["wholes"] (ag fG):=by walk_at"a3"
abbrev ko:Stmt:=dz 36
theorem ui:aB ["sums", "wholes", "bottom", "told", "k", "row"] ["sums"] (ag ko):=by walk_at"a3"
abbrev du:Stmt:=dz 37
theorem iU:aB ["sums", "row"] ["sums"] (ag du):=by walk_at"a3"
abbrev nh:Stmt:=dz 39
theorem wE:aB ["sums", "f", "g"] ["sums", "f", "g"] (ag nh):=by walk_at"a3"
abbrev nj:Stmt:=dz 40
theorem vY:aB ["sums", "thing", "f", "square"] ["sums", "thing"] (ag nj):=by walk_at"a3"
abbrev eO:Stmt:=dz 41
theorem kD:aB ["sums", "step", "k"] ["sums", "step"] (ag eO):=by walk_at"a3"
abbrev gT:Stmt:=dz 42
theorem oA:aB ["sums", "step", "square"] ["sums"] (ag gT):=by walk_at"a3"
abbrev i3:Stmt:=dz 43
theorem qA:aB ["told"] ["told"] (ag i3):=by walk_at"a3"
abbrev eJ:Stmt:=dz 44
theorem kL:aB ["sums", "roots", "above"] ["sums", "roots"] (ag eJ):=by walk_at"a3"
abbrev dY:Stmt:=dz 46
theorem jC:aB ["wholes", "spot", "top", "bottom"] ["wholes", "spot"] (ag dY):=by walk_at"a3"
abbrev fM:Stmt:=dz 47
theorem md:aB ["sums", "spot", "wholes", "bottom"] ["sums", "spot"] (ag fM):=by walk_at"a3"
abbrev fL:Stmt:=dz 48
theorem kX:aB ["sums", "spot", "told", "others", "behind", "word", "roots"] ["sums", "spot"] (ag fL):=by walk_at"a3"
abbrev cV:Stmt:=dz 49
theorem iI:aB ["sums", "spot", "thing"] ["sums", "spot", "thing"] (ag cV):=by walk_at"a3"
abbrev ke:Stmt:=dz 51
theorem wW:aB ["_law_thing"] ["_law_thing"] (ag ke):=by walk_at"a3"
abbrev g9:Stmt:=dz 52
theorem qW:aB ["_law_one", "_law_other"] ["_law_one", "_law_other"] (ag g9):=by walk_at"a3"
abbrev dS:Stmt:=dz 53
theorem kJ:aB ["_law_thing"] ["_law_thing"] (ag dS):=by walk_at"a3"
abbrev dj:Stmt:=dz 54
theorem jt:aB ["_law_thing"] ["_law_thing"] (ag dj):=by walk_at"a3"
abbrev qS:Stmt:=dz 55
theorem Dh:aB ["_law_top", "_law_bottom", "_law_by"] ["_law_top", "_law_bottom"] (ag qS):=by walk_at"a3"
abbrev mF:Stmt:=dz 56
theorem yz:aB ["_law_one", "_law_other"] ["_law_one", "_law_other"] (ag mF):=by walk_at"a3"
abbrev j2:Stmt:=dz 57
theorem vI:aB ["_law_one", "_law_other"] ["_law_one", "_law_other"] (ag j2):=by walk_at"a3"
abbrev kl:Stmt:=dz 58
theorem wD:aB ["_law_numbers", "_law_many"] ["_law_numbers"] (ag kl):=by walk_at"a3"
abbrev eQ:Stmt:=dz 59
theorem lT:aB ["_law_f", "_law_g", "_law_found", "_law_i", "_law_j"] ["_law_f", "_law_g"] (ag eQ):=by walk_at"a3"
abbrev kc:Stmt:=dz 60
theorem xz:aB ["_law_sums_here", "_law_f", "_law_found", "_law_place"] ["_law_sums_here", "_law_f"] (ag kc):=by walk_at"a3"
abbrev iV:Stmt:=dz 61
theorem uk:aB ["_law_sums_here", "_law_f", "_law_g"] ["_law_sums_here", "_law_f", "_law_g"] (ag iV):=by walk_at"a3"
abbrev i6:Stmt:=dz 62
theorem tF:aB ["_law_sums_here", "_law_thing", "_law_f", "_law_square_here"] ["_law_sums_here", "_law_thing"] (ag i6):=by walk_at"a3"
abbrev kw:Stmt:=dz 63
theorem wL:aB ["_law_one", "_law_other"] ["_law_one", "_law_other"] (ag kw):=by walk_at"a3"
abbrev mx:Stmt:=dz 64
theorem AY:aB ["_law_sums_here", "_law_spot"] ["_law_sums_here", "_law_spot"] (ag mx):=by walk_at"a3"
abbrev mM:Stmt:=dz 65
theorem zR:aB ["_law_state_here", "_law_many", "_law_found", "_law_mixed"] ["_law_state_here", "_law_many"] (ag mM):=by walk_at"a3"
abbrev j1:Stmt:=dz 66
theorem wt:aB ["_law_state_here"] ["_law_state_here"] (ag j1):=by walk_at"a3"
abbrev eX:Stmt:=dz 67
theorem lE:aB ["_law_state_here", "_law_most"] ["_law_state_here", "_law_most"] (ag eX):=by walk_at"a3"
abbrev gY:Stmt:=dz 68
theorem qO:aB ["_law_script", "_law_k"] ["_law_script", "_law_k"] (ag gY):=by walk_at"a3"
abbrev kg:Stmt:=dz 69
theorem wy:aB ["_law_script", "_law_k", "_law_cell"] ["_law_script", "_law_k"] (ag kg):=by walk_at"a3"
abbrev eM:Stmt:=dz 70
theorem lY:aB ["_law_crowd_here", "_law_many", "_law_found", "_law_powers", "_law_k", "_law_amount", "_law_one"] ["_law_crowd_here", "_law_many"] (ag eM):=by walk_at"a3"
abbrev jV:Stmt:=dz 71
theorem wc:aB ["_law_state_here"] ["_law_state_here"] (ag jV):=by walk_at"a3"
abbrev kq:Stmt:=dz 72
theorem xy:aB ["_law_state_here", "_law_most", "_law_found", "_law_spot", "_law_turn"] ["_law_state_here", "_law_most"] (ag kq):=by walk_at"a3"
abbrev ng:Stmt:=dz 73
theorem zw:aB ["_law_state_here", "_law_many", "_law_way", "_law_found", "_law_at"] ["_law_state_here"] (ag ng):=by walk_at"a3"
abbrev eT:Stmt:=dz 74
theorem me:aB ["_law_state_here", "_law_most", "_law_found"] ["_law_state_here", "_law_most"] (ag eT):=by walk_at"a3"
abbrev fE:Stmt:=dz 75
theorem nI:aB ["_law_state_here", "_law_crowd_here", "_law_least", "_law_spots"] ["_law_state_here"] (ag fE):=by walk_at"a3"
abbrev qU:Stmt:=dz 76
theorem C6:aB ["_law_sums_here", "_law_spot", "_law_thing"] ["_law_sums_here", "_law_spot", "_law_thing"] (ag qU):=by walk_at"a3"
abbrev mz:Stmt:=dz 77
theorem zp:aB ["_law_state_here", "_law_sums_here", "_law_spot", "_law_found", "_law_f", "_law_g"] ["_law_state_here", "_law_sums_here", "_law_spot"] (ag mz):=by walk_at"a3"
abbrev mY:Stmt:=dz 78
theorem Ax:aB ["_law_state_here", "_law_bar", "_law_f", "_law_some_here"] ["_law_state_here", "_law_bar"] (ag mY):=by walk_at"a3"
abbrev lh:Stmt:=dz 79
theorem zP:aB ["_law_script", "_law_k", "_law_state_here", "_law_sums_here", "_law_spot", "_law_turn", "_law_bar", "_law_thing", "_law_found"] ["_law_script"] (ag lh):=by walk_at"a3"
structure ff (K:W.Frag)(mg:Str->Option Value):Prop where
 non:True
 g_ZERO:GT K mg "ZERO" [V.int (0),V.int (1)]
 g_ONE:GT K mg "ONE" [V.int (1),V.int (1)]
 b_isinstance:mg "isinstance" = none
 b_bool:mg "bool" = none
 b_int:mg "int" = none
 b_abs:mg "abs" = none
 b_range:mg "range" = none
 b_len:mg "len" = none
 b_enumerate:mg "enumerate" = none
 b_max:mg "max" = none
 b_list:mg "list" = none
 b_tuple:mg "tuple" = none
 b_sum:mg "sum" = none
 b_zip:mg "zip" = none
 b_str:mg "str" = none
 b_min:mg "min" = none
set_option compiler.extract_closed false
local macro_rules | `(tactic| walk_at "m")=>`(tactic| try simp only [L2.start,List.map_cons,List.map_nil,List.cons_append,List.nil_append,List.replicate_succ,List.replicate_zero,List.length_cons,List.length_nil,Nat.reduceSub,Nat.reduceAdd,Nat.zero_add,rZ,mK,Eh,wR,Hn,BD,D0,BR,Hx,FS,Ho,C7,De,DR,Et,Fc,E9,Cc,Fk,Bi,Bz,Fj,Ei,Bk,A8,vU,y7,Gr,Gx])
local macro_rules | `(tactic| walk_at "d")=>`(tactic| try dsimp only [aW,vD,AD,EN,Fo,F9,AC,tR,ig,Gb,kK,u8,EO,tC,yX,GX,Ef,A5,Hh,EG,dQ,oV,E7,G7,EL,Hk,ju,ue,FE,uY,id,Go,lC,qL,vT,rZ,F1,dA,Ca,List.getElem?_cons_zero,List.getElem?_cons_succ,List.set_cons_zero,List.set_cons_succ,L2.start,Option.join,Option.bind,List.map_cons,List.map_nil,List.replicate_succ,List.replicate_zero,List.cons_append,List.nil_append,List.length_cons,List.length_nil,Nat.reduceSub,Nat.reduceAdd,Nat.zero_add,CQ,wO,zN,Ee,yZ,mI,He,mU,A9,BY,DV,Es,DU,Ez,At,FW,AA,vO,Ed,F3,yG,AS,xG,xU,zk,Hj,Hw,CL,yM,zF,AM,Dy,EC,cond])
local macro_rules | `(tactic| walk_at "s")=>`(tactic| try simp only [pi,BI,List.map_cons,List.map_nil,List.cons_append,List.nil_append,List.replicate_succ,List.replicate_zero,Option.join,Option.bind,dA,FU,GB,rI,rU,jE,dH,eY,mR,ot,sH,Bv,BN,yc,AI,kK,u8,wJ,FN,FK,ix,i4,rm,gZ,Dm,jB,eD,ei,zX,Ch,HO.lst.injEq,HO.tup.injEq,BC,Ad,E2,zb,exists_eq_left,exists_eq_left',exists_and_left,exists_and_right,V.int.injEq,V.bl.injEq,V.ref.injEq,V.str.injEq,V.ty.injEq,List.cons.injEq,and_true,true_and,and_self,List.getElem?_cons_zero,List.getElem?_cons_succ,Option.some.injEq,List.set_cons_zero,List.set_cons_succ,reduceCtorEq,or_false,false_or,false_and,and_false,exists_false,exists_eq,exists_eq',and_assoc,List.length_cons,List.length_nil,Nat.reduceSub,Nat.reduceAdd,Nat.zero_add,Bool.not_eq_true',decide_eq_false_iff_not,decide_eq_true_eq,A6,zc,Ac,yi,ne_eq,not_true_eq_false,not_false_eq_true,ite_true,ite_false,if_true,if_false,Bool.false_eq_true,Bool.not_true,Bool.not_false,Bool.true_eq_false])
local macro_rules | `(tactic| walk_at "vc")=>`(tactic| (walk_at "d"; walk_at "s"; walk_at "d"; walk_at "s"; walk_at "d"; walk_at "s"))
local macro_rules | `(tactic| walk_at "vc*")=>`(tactic| (walk_at "vc"; (repeat (simp only [*]; walk_at "vc"))))
section
variable {P:Program}{w:World}{K:W.Frag}{mg:Str->Option Value}{base:Heap}{f:Addr}{fd:FuncData}
def bN(K:W.Frag):Sp:=fun vs H Q _=>∃ a b:Int,vs=[.int a,.int b]/\Q (.int (Int.gcd a b)) H
theorem ky(F:et K "greatest_divisor" "greatest_divisor" cH f fd) (T:ff K mg):bU P w K mg base el 1 f fd ["one", "other"] (bN K):=by
 have scN:=gI.nd
 refine F.okQ gI (fun vs H Q E h=>?_) (fun cdv A outer s H vs Q E hr h=>?_)
 ·obtain⟨a,b,rfl,_⟩:=h
  rfl
 ·obtain⟨a,b,rfl,h⟩:=h
  refine⟨_,(af (oF (i:=0) (j:=1) rfl scN rfl rfl (by decide) rfl rfl (aa (am oY (by rfl) T.b_abs vg (aa (qv 0) ac)) (aa (am oY (by rfl) T.b_abs vg (aa (qv 1) ac)) ac)) rfl)
   (af (ir PassesOwn.never (aL pM (qv 1) ae (aI _)) (ah (oF (i:=0) (j:=1) rfl scN rfl rfl (by decide) rfl rfl (aa (qv 1) (aa (ao gL (qv 0) (qv 1)) ac)) rfl)))
   (ah (aq (qv 0))))),?_⟩
  walk_at"m"
  walk_at"vc"
  refine⟨fun m σ H'=>H'=H /\ ∃ x y:Int,σ=[some (.int x),some (.int y)]/\Int.gcd x y=Int.gcd a b/\0<=x/\0<=y/\m=y.natAbs,⟨_,rfl,_,_,rfl,?_,?_,?_,rfl⟩,?_⟩
  ·split <;> split <;> simp
  ·split <;> walk_at"o"
  ·split <;> walk_at"o"
  ·rintro m σ H' ⟨rfl,x,y,rfl,hg,hx,hy,rfl⟩
   walk_at"vc"
   refine bY (fun hy0=>?_) (fun hy0=>?_)
   ·refine⟨_,fun σ' H' h=>h,?_⟩
    walk_at"vc"
    exact⟨hy0,_,wK x hy0,by rw[ua,hg],hy,Int.fmod_nonneg_of_pos x (by walk_at"o"),rfl⟩
   ·walk_at"vc"
    have e:((Int.gcd a b:Nat):Int)=x:=by
     rw[<- hg,show y=0 by walk_at"o"]
     simp
     walk_at"o"
    rw[<- e]
    exact h
def eC(K:W.Frag):Sp:=fun vs H Q _=>∃ a b:Int,vs=[.int a,.int b]/\b ≠ 0/\Bt 90000000 b /\ ∀ v H',aC (vw K H) (vw K H')->aF (vw K H') (fr (lo a b)) v->Q v H'
theorem zy(F:et K "ratio" "ratio" jT f fd) (T:ff K mg)(N_:oP P base)(C_greatest_divisor:aU P w K mg base "greatest_divisor" ["one", "other"] 1 (bN K)):bU P w K mg base el 2 f fd ["top", "bottom"] (eC K):=by
 have scN:=ub.nd
 refine F.okQ ub (fun vs H Q E h=>?_) (fun cdv A outer s H vs Q E hr h=>?_)
 ·obtain⟨a,b,rfl,_⟩:=h
  rfl
 ·obtain⟨a,b,rfl,hb,hbb,h⟩:=h
  refine⟨_,(af (cj (aL fW (qv 1) ae (aI _)) (ah tQ) aO)
   (af (aE (i:=2) scN rfl (by walk_at"a1") (ai C_greatest_divisor (hr.mono (by walk_at"a2")) rfl (aa (qv 0) (aa (qv 1) ac))))
   (af (cj (aL kF (qv 1) ae (aI _)) (ah (aE (i:=2) scN rfl (by walk_at"a1") (cG bO (qv 2)))) aO)
   (ah (aq (aH (aa (ao (iy N_ hr rfl rfl rfl) (qv 0) (qv 2)) (aa (ao (iy N_ hr rfl rfl rfl) (qv 1) (qv 2)) ac)))))))),?_⟩
  walk_at"m"
  walk_at"vc"
  simp only[bN]
  refine gM hb ?_
  walk_at"vc"
  have hgn:Int.gcd a b ≠ 0:=fun e=>hb (Int.gcd_eq_zero_iff.mp e).2
  have e1:lg a b=if b<0 then -(Int.gcd a b:Int) else (Int.gcd a b:Int):=rfl
  have d1:xZ a (-(Int.gcd a b:Int)):=by unfold xZ;walk_at"o"
  have d2:xZ a (Int.gcd a b:Int):=by unfold xZ;walk_at"o"
  refine bY (fun hn=>?_) (fun hn=>?_)
  ·rw[if_pos hn] at e1
   refine⟨d1,d1,by decide,fun p H2 hp S hp2=>h _ H2 S ?_⟩
   rw[<- e1] at hp2
   exact bV hp2
  ·rw[if_neg hn] at e1
   refine⟨d2,d2,by decide,fun p H2 hp S hp2=>h _ H2 S ?_⟩
   rw[<- e1] at hp2
   exact bV hp2
def lM(K:W.Frag):Sp:=fun vs H Q _=>∃ x y p q,vs=[x,y]/\aF (vw K H) (fr p) x/\aF (vw K H) (fr q) y/\p.2 ≠ 0/\q.2 ≠ 0/\Bq 1000000 p/\Bq 1000000 q/\Bt 90000000 (p.2*q.2) /\ ∀ v H',aC (vw K H) (vw K H')->aF (vw K H') (fr (qh p q)) v->Q v H'
theorem AF(F:et K "times" "times" jX f fd) (T:ff K mg)(C_ratio:aU P w K mg base "ratio" ["top", "bottom"] 2 (eC K)):bU P w K mg base el 3 f fd ["one", "other"] (lM K):=by
 have scN:=tj.nd
 refine F.okQ tj (fun vs H Q E h=>?_) (fun cdv A outer s H vs Q E hr h=>?_)
 ·obtain⟨_,_,_,_,rfl,_⟩:=h
  rfl
 ·obtain⟨x,y,p,q,rfl,hx,hy,np,nq,bp,bq,bb,h⟩:=h
  refine⟨_,(ah (aq (ai C_ratio (hr.mono (by walk_at"a2")) rfl (aa (ao aS (ay cg (qv 0) ae (fun _ _=>rfl)) (ay cg (qv 1) ae (fun _ _=>rfl))) (aa (ao aS (ay cg (qv 0) ae (fun _ _=>rfl)) (ay cg (qv 1) ae (fun _ _=>rfl))) ac))))),?_⟩
  walk_at"m"
  obtain⟨a,rfl,ha⟩:=hx.fr_at
  obtain⟨b,rfl,hb⟩:=hy.fr_at
  walk_at"vc*"
  simp only[eC]
  walk_at"vc*"
  exact⟨cp bp.1 bq.1 (by decide),cp bp.2 bq.2 (by decide),Int.mul_ne_zero np nq,h⟩
def bC(K:W.Frag):Sp:=fun vs H Q _=>∃ (a:Addr)(qs:List (Int × Int))(B:Nat),vs=[.ref a]/\aP (vw K H) a qs/\qs.length<=14/\B<=4000000/\(∀ q ∈ qs,Fq q/\Bq B q) /\
 ∀ p b H' (D:Int)(ns:List Int),aC (vw K H) (vw K H')->vw K H' p=some (.tup [.ref b,.int D])->vw K H' b=some (.lst (ns.map V.int))->vw K H b=none->0<D->Bt (1+qs.length*B) D->ns.length=qs.length ->
  (∀ (i:Nat)(n:Int)(q:Int × Int),ns[i]? = some n->qs[i]? = some q->(n:Rat)=wv q*(D:Rat)/\Bt (1+qs.length*B+B) n)->(∀ E:Int,(∀ q ∈ qs,q.2 ∣ E)->D ∣ E)->Q (.ref p) H'
theorem vd(F:et K "cleared" "cleared" gW f fd) (T:ff K mg)(N_:oP P base)(C_greatest_divisor:aU P w K mg base "greatest_divisor" ["one", "other"] 1 (bN K)):bU P w K mg base el 2 f fd ["f"] (bC K):=by
 have scN:=oC.nd
 refine F.okQ oC (fun vs H Q E h=>?_) (fun cdv A outer s H vs Q E hr h=>?_)
 ·obtain⟨a,_,_,rfl,_⟩:=h
  rfl
 ·obtain⟨a,qs,B,rfl,ha,hql,hB,hq,h⟩:=h
  refine⟨_,(af (aE (i:=1) scN rfl (by walk_at"a1") ae)
   (af (cO PassesOwn.never rfl (cJ (qv 0)) (ak (i:=2) scN rfl (by walk_at"a1")) (ah (kT (i:=1) scN rfl (by walk_at"a1") (ao (iy N_ hr rfl rfl rfl) (ay cg (qv 2) ae (fun _ _=>rfl)) (ai C_greatest_divisor (hr.mono (by walk_at"a2")) rfl (aa (qv 1) (aa (ay cg (qv 2) ae (fun _ _=>rfl)) ac)))) rE)))
   (ah (aq (aH (aa (cL (own:=["top", "own"]) (outs:=["bottom"]) (ixs:=[1]) rfl (cJ (qv 0)) rfl ⟨rfl,rfl,rfl,⟨rfl,trivial⟩,rfl,⟨⟨rfl,rfl,rfl,_,rfl⟩,trivial⟩⟩ (fun _ _ _ _=>⟨(show QG _ _ (jB K 2 _) from bJ (n:=2) rfl (ar (ak (i:=0) (show (["top", "own", "bottom"]:List Str).Nodup by decide +kernel) rfl (by walk_at"a1")) (ar (ak (i:=1) (show (["top", "own", "bottom"]:List Str).Nodup by decide +kernel) rfl (by walk_at"a1")) bI))),cS,(ao (show fb _ _ (gO K) from aS) (qv 0) (ao (tE N_ hr rfl rfl rfl rfl rfl) (qv 2) (qv 1)))⟩)) (aa (qv 1) ac))))))),?_⟩
  walk_at"m"
  walk_at"vc"
  obtain⟨xs,hxs,rxs⟩:=id ha
  have hlx:xs.length=qs.length:=by rw[rxs.length,List.length_map]
  have hLB:∀ i,i<=qs.length->i*B<=56000000:=fun i hi=>Nat.le_trans (Nat.mul_le_mul (Nat.le_trans hi hql) hB) (by decide)
  refine⟨⟨xs,.of (aN hxs)⟩,?_⟩
  obtain⟨Pv,hPv⟩ : ∃ Pv:Nat->St->Hp->Prop,∀ i σ H',Pv i σ H' ↔ H'=H /\ ∃ b y,σ=[some (.ref a),some (.int b),y]/\0<b/\Bt (1+i*B) b/\(∀ q ∈ qs.take i,q.2 ∣ b) /\ ∀ E:Int,(∀ q ∈ qs.take i,q.2 ∣ E)->b ∣ E:=⟨_,fun _ _ _=>Iff.rfl⟩
  refine cc (its:=xs) Pv (fun i σ H' _ p=>?_) ((hPv _ _ _).mpr ⟨rfl,_,_,rfl,by decide,by rw[Nat.zero_mul];decide,(by simp),fun E _=>Int.one_dvd E⟩) (fun i x σ H1 hi hx pv=>?_) (fun σ H1 pv=>?_)
  ·obtain⟨rfl,_⟩:=(hPv _ _ _).mp p
   exact aX hxs
  ·obtain⟨rfl,b,y,rfl,hb,bb,hd,hm⟩:=(hPv _ _ _).mp pv
   have hi':i<qs.length:=by walk_at"o"
   obtain⟨d,e,r⟩:=rxs.get hx
   rw[List.getElem?_map,List.getElem?_eq_getElem hi'] at e
   cases e
   obtain⟨p,rfl,hp⟩:=r.fr_at
   obtain⟨fq,bq⟩:=hq qs[i] (List.getElem_mem hi')
   obtain⟨l1,l2,l3,l4,l5⟩:=ud hb fq.1
   walk_at"vc"
   simp only[bN]
   walk_at"vc"
   refine⟨_,hp,_,ei,_,hp,_,ei,_,rfl,?_⟩
   walk_at"vc"
   have hgb:Bt B (Int.gcd b qs[i].2:Int):=bq.2.le (by walk_at"o") l5
   have hcb:Bt B (qs[i].2.fdiv (Int.gcd b qs[i].2:Int)):=bq.2.le (by walk_at"o") l2
   have:=hLB i (by walk_at"o")
   refine⟨l4,cp bb hcb (by walk_at"o"),(hPv _ _ _).mpr ⟨rfl,_,_,rfl,Int.mul_pos hb l1,(bb.mul hcb).mono (by rw[Nat.add_mul];walk_at"o"),fun q hq'=>?_,fun E hE=>?_⟩⟩
   ·rw[List.take_add_one,List.getElem?_eq_getElem hi'] at hq'
    rcases List.mem_append.mp hq' with z|z
    ·exact Int.dvd_trans (hd q z) (Int.dvd_mul_right _ _)
    ·cases List.mem_singleton.mp z
     exact l3
   ·rw[List.take_add_one,List.getElem?_eq_getElem hi'] at hE
    exact Cf hb fq.1 (hm E fun q z=>hE q (List.mem_append.mpr (.inl z))) (hE _ (List.mem_append.mpr (.inr (List.mem_singleton.mpr rfl))))
  ·obtain⟨rfl,D,y,rfl,hD,bD,hd,hmin⟩:=(hPv _ _ _).mp pv
   rw[hlx] at bD hd hmin
   rw[List.take_length] at hd hmin
   have hLBq:=hLB qs.length (Nat.le_refl _)
   walk_at"vc"
   refine⟨⟨xs,.of (aN hxs)⟩,fun c H2 hc S2 h2=>?_⟩
   refine pF (its:=xs) (ps:=qs.map fun q=>(V.int q.1,V.int q.2)) (fun i ys H'=>aC (vw K H1) (vw K H')/\ys=(qs.take i).map fun q=>V.int (q.1*D.fdiv q.2)) (by rw[List.length_map];exact hlx) (fun i ys H' _ _ p=>⟨aX (p.1 _ _ hxs),fun j u v e=>?_⟩) h2 ⟨S2,rfl⟩ (fun i u v ys H' hi huv h' p=>?_) (fun ys H' h' p=>?_)
   ·rw[List.getElem?_map] at e
    cases e2:qs[j]? with
    | none=>rw[e2] at e;cases e
    | some q =>
     rw[e2] at e
     cases e
     obtain⟨x,e3,r⟩:=rxs.at (i:=j) (d:=fr q) (by rw[List.getElem?_map,e2];rfl)
     obtain⟨p2,rfl,hp2⟩:=r.fr_at
     exact⟨p2,e3,p.1 _ _ hp2⟩
   ·obtain⟨S',rfl⟩:=p
    rw[List.length_map] at hi
    rw[List.getElem?_map,List.getElem?_eq_getElem hi] at huv
    cases huv
    obtain⟨fq,bq⟩:=hq qs[i] (List.getElem_mem hi)
    obtain⟨c1,c2,c3⟩:=tT fq (hd qs[i] (List.getElem_mem hi)) hD bD bq.1
    walk_at"vc"
    refine⟨(show xZ _ _ from fun z=>by have:=fq.1;walk_at"o"),cp bq.1 c3 (by walk_at"o"),.mk2 h' ?_ fun H5 B5 h5=>⟨fun b o e=>B5 _ _ (aj e hc) (S' _ _ e),?_⟩⟩
    ·rw[List.length_map,List.length_take]
     have:1000<=sizeLine:=by decide
     walk_at"o"
    ·rw[List.take_add_one,List.getElem?_eq_getElem hi,List.map_append]
     rfl
   ·obtain⟨S',rfl⟩:=p
    rw[List.length_map,List.take_length] at h'
    walk_at"vc"
    refine⟨by decide,fun p5 H5 hp5 S5 h5=>h p5 c H5 D (qs.map fun q=>q.1*D.fdiv q.2) (S'.trans S5) h5 (by rw[List.map_map];exact S5 _ _ h') hc hD bD (by rw[List.length_map]) (fun i n q e1 e2=>?_) hmin⟩
    rw[List.getElem?_map,e2] at e1
    cases e1
    have hm:=List.mem_of_getElem? e2
    obtain⟨fq,bq⟩:=hq q hm
    obtain⟨c1,c2,c3⟩:=tT fq (hd q hm) hD bD bq.1
    exact⟨c1,c2⟩
def nC(K:W.Frag):Sp:=fun vs H Q _=>∃ (a:Addr)(ns:List Int),vs=[.ref a,.int 0]/\vw K H a=some (.lst (ns.map V.int)) /\
 ∀ b H' (ms:List Int),aC (vw K H) (vw K H')->vw K H' b=some (.lst (ms.map V.int))->vw K H b=none->(∀ k,nz ms k=nz ns k)->ms.length<=ns.length->(ms.length ≠ 0->nz ms (ms.length - 1) ≠ 0)->Q (.ref b) H'
def eE(K:W.Frag):Sp:=fun vs H Q E=>(∃ (a z:Addr)(qs:List (Int × Int)),vs=[.ref a,.ref z]/\aP (vw K H) a qs/\vw K H z=some (.tup [.int 0,.int 1])/\(∀ q ∈ qs,Fq q) /\
 ∀ b H' (rs:List (Int × Int)),aC (vw K H) (vw K H')->aP (vw K H') b rs->vw K H b=none->aR rs->(∀ k,cf rs k=cf qs k)->rs.length<=qs.length->(∀ q ∈ rs,q ∈ qs)->Q (.ref b) H')\/nC K vs H Q E
theorem vx(F:et K "trimmed" "trimmed" hZ f fd) (T:ff K mg):bU P w K mg base el 1 f fd ["numbers", "zero"] (eE K):=by
 have scN:=pT.nd
 refine F.okQ pT (fun vs H Q E h=>?_) (fun cdv A outer s H vs Q E hr h=>?_)
 ·rcases h with ⟨a,_,_,rfl,_⟩|⟨a,_,rfl,_⟩ <;> rfl
 rcases h with ⟨a,z,qs,rfl,ha,hz,hF,h⟩|⟨a,ns,rfl,ha,h⟩
 ·skip
  refine⟨_,(af (aE (i:=2) scN rfl (by walk_at"a1") (am av (by rfl) T.b_len aQ (aa (qv 0) ac)))
   (af (ir PassesOwn.never (QW.pt (mN (aL iE (qv 2) ae (aI _)) (kv (aL (mX hr.u64) (ay cZ (qv 0) (ao cX (qv 2) ae) (fun _ _=>rfl)) (qv 1) (aI _))))) (ah (kT (i:=2) scN rfl (by walk_at"a1") ae pH)))
   (ah (aq (ci gB (qv 0) cy (cC (qv 2))))))),?_⟩
  walk_at"m"
  walk_at"vc"
  refine⟨_,ha.len,fun m σ H'=>H'=H/\m<=qs.length/\(∀ q ∈ qs.drop m,q.1=0)/\σ=[some (.ref a),some (.ref z),some (.int m)],⟨_,rfl,Nat.le_refl _,by simp,rfl⟩,?_⟩
  rintro k σ H' ⟨rfl,hk,hdr,rfl⟩
  obtain⟨xs,hax,rx⟩:=ha
  have hlx:xs.length=qs.length:=by rw[rx.length,List.length_map]
  have fin:(∀ q,(qs.take k).getLast? = some q->q.1 ≠ 0)->Nw K H' (HO.lst (gv xs none (some (k:Int)))) Q:=fun hq p H2 hp S2 h2=>by
   rw[pO (by walk_at"o")] at h2
   refine h p H2 (qs.take k) S2 ⟨_,h2,?_⟩ hp ⟨fun q hq'=>hF q (List.mem_of_mem_take hq'),hq⟩ (wu hF hdr) (by rw[List.length_take];walk_at"o") fun q hq'=>List.mem_of_mem_take hq'
   rw[List.map_take]
   exact (rx.take k).same S2
  walk_at"vc"
  refine bY (fun h0=>?_) (fun h0=>?_)
  ·have hk1:k - 1<qs.length:=by walk_at"o"
   obtain⟨x,hx,r⟩:=rx.at (i:=k - 1) (d:=fr qs[k - 1]) (by rw[List.getElem?_map,List.getElem?_eq_getElem hk1];rfl)
   have e1:((k:Int) - 1)=((k - 1:Nat):Int):=by walk_at"o"
   have fq:=hF qs[k - 1] (List.getElem_mem hk1)
   refine⟨_,hax,_,by rw[e1];exact ck hx,_,r,fr (0,1),bV hz,fO _,fO _,?_⟩
   rw[kU]
   refine bY (fun hq=>?_) (fun hq=>?_)
   ·have hq0:qs[k - 1].1=0:=(og fq).mp (of_decide_eq_true hq)
    refine⟨_,fun σ' H'' z=>z,?_⟩
    refine⟨_,_,rfl,rfl,k - 1,by walk_at"o",rfl,by walk_at"o",fun q' hq'=>?_,by rw[<- e1]⟩
    rw[List.drop_eq_getElem_cons hk1,show k - 1+1=k by walk_at"o"] at hq'
    rcases List.mem_cons.mp hq' with z|z
    ·rw[z]
     exact hq0
    ·exact hdr q' z
   ·refine⟨_,hax,fin fun q hq2=>?_⟩
    have:(qs.take k).getLast? = some qs[k - 1]:=by
     rw[List.getLast?_eq_getElem?,List.length_take,List.getElem?_take]
     rw[if_pos (by walk_at"o"),show min k qs.length - 1=k - 1 by walk_at"o",List.getElem?_eq_getElem hk1]
    rw[this] at hq2
    cases hq2
    exact fun e=>hq (decide_eq_true ((og fq).mpr e))
  ·refine⟨_,hax,fin fun q hq=>?_⟩
   rw[show k=0 by walk_at"o"] at hq
   cases hq
 ·refine⟨_,(af (aE (i:=2) scN rfl (by walk_at"a1") (am av (by rfl) T.b_len aQ (aa (qv 0) ac)))
   (af (ir PassesOwn.never (QW.pt (mN (aL iE (qv 2) ae (aI _)) (kv (aL (mX hr.u64) (ay cZ (qv 0) (ao cX (qv 2) ae) (fun _ _=>rfl)) (qv 1) (aI _))))) (ah (kT (i:=2) scN rfl (by walk_at"a1") ae pH)))
   (ah (aq (ci gB (qv 0) cy (cC (qv 2))))))),?_⟩
  walk_at"m"
  walk_at"vc"
  have hln:eU (vw K H) a=some ns.length:=by simp only[eU,ha,List.length_map]
  refine⟨_,hln,fun m σ H'=>H'=H/\m<=ns.length/\(∀ q ∈ ns.drop m,q=0)/\σ=[some (.ref a),some (.int 0),some (.int m)],⟨_,rfl,Nat.le_refl _,by simp,rfl⟩,?_⟩
  rintro k σ H' ⟨rfl,hk,hdr,rfl⟩
  have fin:(k ≠ 0->nz ns (k - 1) ≠ 0)->Nw K H' (HO.lst (gv (ns.map V.int) none (some (k:Int)))) Q:=fun hz p H2 hp S2 h2=>by
   rw[pO (by simpa using hk),<- List.map_take] at h2
   exact h p H2 (ns.take k) S2 h2 hp (vL hdr) (by rw[List.length_take];walk_at"o") (by rw[List.length_take,Nat.min_eq_left hk,vL hdr];exact hz)
  walk_at"vc"
  refine bY (fun h0=>?_) (fun h0=>?_)
  ·have hk1:k - 1<ns.length:=by walk_at"o"
   have e1:((k:Int) - 1)=((k - 1:Nat):Int):=by walk_at"o"
   have hx:(ns.map V.int)[k - 1]? = some (V.int ns[k - 1]):=by rw[List.getElem?_map,List.getElem?_eq_getElem hk1];rfl
   refine⟨_,ha,_,by rw[e1];exact ck hx,_,.mk_int _,.int 0,.mk_int _,sg _,sg _,?_⟩
   rw[Bm]
   refine bY (fun hq=>?_) (fun hq=>?_)
   ·have hq0:ns[k - 1]=0:=of_decide_eq_true hq
    refine⟨_,fun σ' H'' z=>z,?_⟩
    refine⟨_,_,rfl,rfl,k - 1,by walk_at"o",rfl,by walk_at"o",fun q' hq'=>?_,by rw[<- e1]⟩
    rw[List.drop_eq_getElem_cons hk1,show k - 1+1=k by walk_at"o"] at hq'
    rcases List.mem_cons.mp hq' with z|z
    ·rw[z]
     exact hq0
    ·exact hdr q' z
   ·exact⟨_,ha,fin fun _=>by rw[cM (List.getElem?_eq_getElem hk1)];exact fun e=>hq (decide_eq_true e)⟩
  ·exact⟨_,ha,fin fun z=>by walk_at"o"⟩
def cU(K:W.Frag):Sp:=fun vs H Q _=>∃ (a b:Addr)(ms ns:List Int)(m c:Nat),vs=[.ref a,.ref b]/\vw K H a=some (.lst (ms.map V.int))/\vw K H b=some (.lst (ns.map V.int))/\0<ns.length/\nz ns (ns.length - 1) ≠ 0/\ms.length<=14/\ns.length<=9/\m<=40000000/\c<=20000/\(∀ x ∈ ms,Bt m x)/\(∀ x ∈ ns,Bt c x) /\
 ∀ (p qa ra:Addr)(S:Int)(qs rs:List Int)(H':Hp),aC (vw K H) (vw K H')->vw K H' p=some (.tup [.ref qa,.ref ra,.int S])->vw K H' qa=some (.lst (qs.map V.int))->vw K H' ra=some (.lst (rs.map V.int))->vw K H ra=none->qs.length=ms.length+1 - ns.length->rs.length<ns.length->(∃ e,e<=ms.length+1 - ns.length/\S=nz ns (ns.length - 1) ^ e)->Bt 300000 S->(∀ x ∈ qs,Bt (m+400000) x)->(∀ x ∈ rs,Bt (m+400000) x)->(rs.length ≠ 0->nz rs (rs.length - 1) ≠ 0)->(∀ k,S*nz ms k=pz (nz qs) (nz ns) qs.length k+nz rs k)->Q (.ref p) H'
theorem mP(F:et K "wholes_parted" "wholes_parted" di f fd) (T:ff K mg)(N_:oP P base)(C_trimmed:aU P w K mg base "trimmed" ["numbers", "zero"] 1 (eE K)):bU P w K mg base el 2 f fd ["one", "other"] (cU K):=by
 have scN:=iW.nd
 refine F.okQ iW (fun vs H Q E h=>?_) (fun cdv A outer s H vs Q E hr h=>?_)
 ·obtain⟨a,_,_,_,_,_,rfl,_⟩:=h
  rfl
 ·obtain⟨a,b,ms,ns,m,c,rfl,ha,hb,ln0,hL,lm,ln,hm,hc,bm,bn,h⟩:=h
  refine⟨_,(af (aE (i:=2) scN rfl (by walk_at"a1") (ay cZ (qv 1) (cG bO ae) (fun _ _=>rfl)))
   (af (aE (i:=3) scN rfl (by walk_at"a1") (hV ja (by rfl) T.b_list je (aa (qv 0) ac)))
   (af (aE (i:=4) scN rfl (by walk_at"a1") (ao aS (aM (aa ae ac)) (am (qq rfl) (by rfl) T.b_max Ay (aa ae (aa (ao aV (ao cX (am av (by rfl) T.b_len aQ (aa (qv 0) ac)) (am av (by rfl) T.b_len aQ (aa (qv 1) ac))) ae) ac)))))
   (af (aE (i:=5) scN rfl (by walk_at"a1") ae)
   (af (cO PassesOwn.never rfl (ye rfl T.b_range (aa (ao cX (am av (by rfl) T.b_len aQ (aa (qv 0) ac)) (am av (by rfl) T.b_len aQ (aa (qv 1) ac))) (aa (cG bO ae) (aa (cG bO ae) ac)))) (ak (i:=6) scN rfl (by walk_at"a1")) (af (aE (i:=7) scN rfl (by walk_at"a1") (EJ PySem.F.plainAttrs_list PySem.F.slot_list_pop PySem.F.type_list_pop CU (qv 3)))
   (af (cj (aL fW (ao gL (qv 7) (qv 2)) ae (aI _)) (ah (kT (i:=7) scN rfl (by walk_at"a1") (qv 2) (yv N_ hr rfl rfl rfl))) (af (kT (i:=5) scN rfl (by walk_at"a1") (qv 2) rE)
   (af (mh (i:=4) (own:=["whole"]) (outs:=["last"]) (ixs:=[2]) scN rfl (by walk_at"a1") rfl (cJ (qv 4)) rfl ⟨rfl,rfl,rfl,⟨rfl,trivial⟩,rfl,⟨⟨rfl,rfl,rfl,_,rfl⟩,trivial⟩⟩ (fun _ _ _ _=>⟨(ak (i:=0) (show (["whole", "last"]:List Str).Nodup by decide +kernel) rfl (by walk_at"a1")),cS,(ao (show fb _ _ (gO K) from aS) (qv 1) (qv 0))⟩))
   (ah (mh (i:=3) (own:=["whole"]) (outs:=["last"]) (ixs:=[2]) scN rfl (by walk_at"a1") rfl (cJ (qv 3)) rfl ⟨rfl,rfl,rfl,⟨rfl,trivial⟩,rfl,⟨⟨rfl,rfl,rfl,_,rfl⟩,trivial⟩⟩ (fun _ _ _ _=>⟨(ak (i:=0) (show (["whole", "last"]:List Str).Nodup by decide +kernel) rfl (by walk_at"a1")),cS,(ao (show fb _ _ (gO K) from aS) (qv 1) (qv 0))⟩))))))
   (af (cY (qv 7) (oU (qv 4) (qv 6) dX))
   (ah (cO PassesOwn.never rfl (cI rfl T.b_range (aa (ao cX (am av (by rfl) T.b_len aQ (aa (qv 1) ac)) ae) ac)) (ak (i:=8) scN rfl (by walk_at"a1")) (ah (lV (qv 3) (ao aV (qv 6) (qv 8)) iY (ao aS (qv 7) (ay cZ (qv 1) (qv 8) (fun _ _=>rfl))) pH dX))))))))
   (ah (aq (aH (aa (qv 4) (aa (ai C_trimmed (hr.mono (by walk_at"a2")) rfl (aa (qv 3) (aa ae ac))) (aa (qv 5) ac))))))))))),?_⟩
  walk_at"m"
  skip
  obtain⟨L,hLd⟩ : ∃ L,L=nz ns (ns.length - 1):=⟨_,rfl⟩
  have hgl:ns.length - 1<ns.length:=by walk_at"o"
  have nl:ns[ns.length - 1]=L:=by rw[hLd,cM (List.getElem?_eq_getElem hgl)]
  have bL:Bt c L:=nl ▸ bn _ (List.getElem_mem hgl)
  rw[<- hLd] at hL
  have xl:(ns.map V.int).getLast? = some (.int L):=by
   rw[List.getLast?_eq_getElem?,List.length_map,List.getElem?_map,List.getElem?_eq_getElem hgl,nl]
   rfl
  refine aW.gen fun N1 hN1=>?_
  walk_at"vc"
  refine⟨_,hb,_,dc xl,hN1 _ _ ?_⟩
  refine aW.gen fun N2 hN2=>?_
  walk_at"vc"
  refine⟨_,ha,fun r1 H1 hr1 S1 h1=>hN2 _ _ ?_⟩
  refine aW.gen fun N3 hN3=>?_
  walk_at"vc"
  have lena:∀ {H':Hp},aC (vw K H) (vw K H')->eU (vw K H') a=some ms.length:=fun S=>by simp only[eU,S _ _ ha,List.length_map]
  have lenb:∀ {H':Hp},aC (vw K H) (vw K H')->eU (vw K H') b=some ns.length:=fun S=>by simp only[eU,S _ _ hb,List.length_map]
  refine⟨by decide,fun p2 H2 hp2 S2 h2=>?_⟩
  have S02:=S1.trans S2
  refine⟨_,lena S02,_,lenb S02,?_⟩
  obtain⟨n,hn,hnn⟩ : ∃ n:Nat,(if (ms.length:Int) - (ns.length:Int)+1 > 0 then (ms.length:Int) - (ns.length:Int)+1 else 0)=(n:Int)/\n=ms.length+1 - ns.length:=by
   refine⟨ms.length+1 - ns.length,?_,rfl⟩
   split <;> walk_at"o"
  rw[hn,i4]
  refine⟨_,h2,by walk_at"o",by walk_at"o",?_,fun q1 H3 hq1 S3 h3=>hN3 _ _ ?_⟩
  ·have:1000<=sizeLine:=by decide
   simp
   walk_at"o"
  rw[show ((n:Nat):Int).toNat=n by walk_at"o",lJ] at h3
  have S03:=S02.trans S3
  refine aW.gen fun N4 hN4=>?_
  walk_at"vc"
  refine hN4 _ _ ?_
  refine aW.gen fun N5 hN5=>?_
  walk_at"vc"
  simp only[Aw]
  walk_at"vc"
  refine⟨_,lena S03,_,lenb S03,by walk_at"o",by walk_at"o",by decide,by decide,?_⟩
  rw[show ((ms.length:Int) - (ns.length:Int) - -1).toNat=n by walk_at"o"]
  have nr1:vw K H r1=none:=hr1
  have nq1:vw K H q1=none:=S02.none hq1
  obtain⟨Pv,hPv⟩ : ∃ Pv:Nat->St->Hp->Prop,∀ i σ H',Pv i σ H' ↔ ∃ (ra qa:Addr)(rs qs:List Int)(S:Int)(o6 o7 o8:Option V),σ=[some (.ref a),some (.ref b),some (.int L),some (.ref ra),some (.ref qa),some (.int S),o6,o7,o8]/\aC (vw K H) (vw K H') /\
    vw K H' ra=some (.lst (rs.map V.int))/\vw K H' qa=some (.lst (qs.map V.int))/\vw K H ra=none/\vw K H qa=none/\ra ≠ qa/\rs.length+i=ms.length/\qs.length=n/\(∃ e,e<=i/\S=L ^ e)/\Bt (1+c*i) S/\(∀ x ∈ rs,Bt (m+(c+1)*i) x)/\(∀ x ∈ qs,Bt (m+(c+1)*i) x) /\
    (∀ k,k+i+ns.length<=ms.length->nz qs k=0)/\(∀ k,S*nz ms k=pz (nz qs) (nz ns) n k+nz rs k):=⟨_,fun _ _ _=>Iff.rfl⟩
  refine cc (its:=yr ((ms.length:Int) - (ns.length:Int)) n) Pv (fun _ _ _ _ _=>zH) ((hPv _ _ _).mpr ⟨r1,q1,ms,List.replicate n 0,1,_,_,_,rfl,S03,(S2.trans S3) _ _ h1,?_,nr1,nq1,?_,by walk_at"o",by simp,⟨0,by walk_at"o",(Int.pow_zero _).symm⟩,?_,fun x hx=>(bm x hx).mono (by walk_at"o"),fun x hx=>?_,fun k _=>?_,fun k=>?_⟩) (fun i x σ H4 hi hx pv=>?_) (fun σ H4 pv=>?_)
  ·rw[h3,oz]
  ·exact aj (S2 _ _ h1) hq1
  ·exact Bt.mono (m:=1) (by decide) (by walk_at"o")
  ·rw[(List.mem_replicate.mp hx).2]
   exact j9
  ·unfold nz
   rw[List.getD_eq_getElem?_getD,List.getElem?_replicate]
   split <;> rfl
  ·rw[wS (f:=nz (List.replicate n 0)) (fun i=>by
    unfold nz
    rw[List.getD_eq_getElem?_getD,List.getElem?_replicate]
    split <;> rfl)]
   walk_at"o"
  ·obtain⟨ra,qa,rs,qs,S,o6,o7,o8,rfl,S4,hra,hqa,nra,nqa,nrq,lrs,lqs,nS,bS,br,bq,zq,ev⟩:=(hPv _ _ _).mp pv
   obtain⟨hi',rfl⟩:=DB hx
   obtain⟨p,hp⟩ : ∃ p:Nat,(ms.length:Int) - (ns.length:Int) - (i:Int)=(p:Int):=⟨ms.length - ns.length - i,by walk_at"o"⟩
   have hpi:p+i+ns.length=ms.length:=by walk_at"o"
   have hrl:rs.length - 1<rs.length:=by walk_at"o"
   obtain⟨Pt,hPt⟩ : ∃ Pt,Pt=rs[rs.length - 1]:=⟨_,rfl⟩
   have hi9:i<=13:=by walk_at"o"
   have hci:(c+1)*i<=20001*13:=Nat.mul_le_mul (by walk_at"o") hi9
   have hci2:c*i<=20000*13:=Nat.mul_le_mul hc hi9
   rw[hp]
   simp only[ig]
   refine aW.gen fun M1 hM1=>?_
   walk_at"vc"
   have xp:(rs.map V.int)[(rs.map V.int).length - 1]? = some (.int Pt):=by
    rw[List.length_map,List.getElem?_map,List.getElem?_eq_getElem hrl,hPt]
    rfl
   refine⟨mH hra,_,hra,_,xp,fun H5 B5 h5=>hM1 _ _ ?_⟩
   rw[<- List.map_dropLast] at h5
   have S5:aC (vw K H) (vw K H5):=fun y o e=>B5 _ _ (aj e nra) (S4 _ _ e)
   have hqa5:=B5 _ _ nrq.symm hqa
   have bP:Bt (m+(c+1)*i) Pt:=hPt ▸ br _ (List.getElem_mem hrl)
   have dz:rs.length - 1=p+(ns.length - 1):=by walk_at"o"
   have nP:nz rs (p+(ns.length - 1))=Pt:=by rw[<- dz,cM (List.getElem?_eq_getElem hrl),hPt]
   have ldl:rs.dropLast.length+(i+1)=ms.length:=by rw[List.length_dropLast];walk_at"o"
   refine aW.gen fun M2 hM2=>?_
   have key:∀ (ra' qa':Addr)(R:Nat->Int)(rs1 qs1:List Int)(S1 part:Int)(H':Hp),aC (vw K H) (vw K H')->vw K H' ra'=some (.lst (rs1.map V.int))->vw K H' qa'=some (.lst (qs1.map V.int))->vw K H ra'=none->vw K H qa'=none->ra' ≠ qa'->rs1.length+(i+1)=ms.length->qs1.length=n->(∃ e,e<=i+1/\S1=L ^ e)->Bt (1+c*(i+1)) S1 ->
     (∀ x ∈ rs1,Bt (m+(c+1)*i+c) x)->(∀ x ∈ qs1,Bt (m+(c+1)*i+c) x)->Bt (m+(c+1)*i) part->(∀ k,k+i+ns.length<=ms.length->nz qs1 k=0)->(∀ k,S1*nz ms k=pz (nz qs1) (nz ns) n k+R k)->R (p+(ns.length - 1))=part*L->(∀ k,nz rs1 k=if k=p+(ns.length - 1) then 0 else R k) ->
     M2 [some (.ref a),some (.ref b),some (.int L),some (.ref ra'),some (.ref qa'),some (.int S1),some (.int p),some (.int part),o8] H':=by
    intro ra' qa' R rs1 qs1 S1 part H' Sx hr' hq' nr' nq' ne' l1 l2 n1 b1 b2 b3 b4 z1 e1 e2 e3
    refine hM2 _ _ ?_
    refine aW.gen fun M3 hM3=>?_
    walk_at"vc"
    refine⟨_,hq',p,jm (by rw[List.length_map];walk_at"o"),fun H7 B7 h7=>hM3 _ _ ?_⟩
    rw[<- List.map_set] at h7
    have S7:aC (vw K H) (vw K H7):=fun y o e=>B7 _ _ (aj e nq') (Sx _ _ e)
    have hr7:=B7 _ _ ne' hr'
    walk_at"vc"
    refine⟨_,lenb S7,by walk_at"o",by walk_at"o",?_⟩
    rw[show ((ns.length:Int) - 1).toNat=ns.length - 1 by walk_at"o"]
    obtain⟨Pw,hPw⟩ : ∃ Pw:Nat->St->Hp->Prop,∀ l σ H',Pw l σ H' ↔ ∃ (rs2:List Int)(o8:Option V),σ=[some (.ref a),some (.ref b),some (.int L),some (.ref ra'),some (.ref qa'),some (.int S1),some (.int p),some (.int part),o8]/\aC (vw K H) (vw K H')/\vw K H' ra'=some (.lst (rs2.map V.int))/\vw K H' qa'=some (.lst ((qs1.set p part).map V.int))/\rs2.length=rs1.length /\
      (∀ x ∈ rs2,Bt (m+(c+1)*(i+1)) x) /\ ∀ k,nz rs2 k=nz rs1 k - if p<=k/\k<p+l then part*nz ns (k - p) else 0:=⟨_,fun _ _ _=>Iff.rfl⟩
    have more:(c+1)*(i+1)=(c+1)*i+(c+1):=by rw[Nat.mul_add];walk_at"o"
    refine cc (its:=gb 0 (ns.length - 1)) Pw (fun _ _ _ _ _=>bK) ((hPw _ _ _).mpr ⟨rs1,_,rfl,S7,hr7,h7,rfl,fun x hx=>(b2 x hx).mono (by walk_at"o"),fun k=>by rw[if_neg (by walk_at"o")];walk_at"o"⟩) (fun l x σ H8 hl hx pw=>?_) (fun σ H8 pw=>?_)
    ·obtain⟨rs2,o8',rfl,S8,hr8,hq8,l8,b8,e8⟩:=(hPw _ _ _).mp pw
     obtain⟨hl',rfl⟩:=fu hx
     have hpl:p+l<rs2.length:=by walk_at"o"
     have hln:l<ns.length:=by walk_at"o"
     simp only[pV,Fb]
     walk_at"vc"
     have xr:(rs2.map V.int)[p+l]? = some (.int rs2[p+l]):=by rw[List.getElem?_map,List.getElem?_eq_getElem hpl];rfl
     have xn:(ns.map V.int)[l]? = some (.int ns[l]):=by rw[List.getElem?_map,List.getElem?_eq_getElem hln];rfl
     have epl:(p:Int)+(0+(l:Int))=((p+l:Nat):Int):=by walk_at"o"
     have vr:rs2[p+l]=nz rs1 (p+l):=by
      have:=e8 (p+l)
      rw[cM (List.getElem?_eq_getElem hpl),if_neg (by walk_at"o")] at this
      walk_at"o"
     have vn:ns[l]=nz ns l:=(cM (List.getElem?_eq_getElem hln)).symm
     refine⟨_,hr8,_,by rw[epl];exact ck xr,_,S8 _ _ hb,_,by rw[Int.zero_add];exact ck xn,?_⟩
     rw[ix]
     refine⟨cp b4 (bn _ (List.getElem_mem hln)) (by walk_at"o"),_,rfl,_,rfl,_,hr8,p+l,by rw[epl];exact jm (by rw[List.length_map];exact hpl),fun H9 B9 h9=>?_⟩
     rw[<- List.map_set] at h9
     refine (hPw _ _ _).mpr ⟨rs2.set (p+l) (rs2[p+l] - part*ns[l]),_,rfl,fun y o e=>B9 _ _ (aj e nr') (S8 _ _ e),h9,B9 _ _ ne'.symm hq8,by rw[List.length_set];exact l8,fun x hx=>?_,fun k=>?_⟩
     ·rcases List.mem_or_eq_of_mem_set hx with z|rfl
      ·exact b8 x z
      ·have y1:Bt (m+(c+1)*i+c) rs2[p+l]:=by rw[vr];exact jz b2 _
       have y2:Bt (m+(c+1)*i+c) (part*ns[l]):=b4.mul (bn _ (List.getElem_mem hln))
       unfold Bt at y1 y2 ⊢
       rw[more,show m+((c+1)*i+(c+1))=(m+(c+1)*i+c)+1 by walk_at"o",Nat.pow_succ]
       walk_at"o"
     ·rw[rF hpl,e8 k]
      by_cases hk:k=p+l
      ·subst hk
       rw[if_pos rfl,if_pos (by walk_at"o"),show p+l - p=l by walk_at"o",vr,vn]
      ·rw[if_neg hk]
       by_cases hk2:p<=k/\k<p+l
       ·rw[if_pos hk2,if_pos (by walk_at"o")]
       ·rw[if_neg hk2,if_neg (by walk_at"o")]
    ·obtain⟨rs2,o8',rfl,S8,hr8,hq8,l8,b8,e8⟩:=(hPw _ _ _).mp pw
     rw[cx] at e8
     refine (hPv _ _ _).mpr ⟨ra',qa',rs2,qs1.set p part,S1,_,_,_,rfl,S8,hr8,hq8,nr',nq',ne',by walk_at"o",by rw[List.length_set];exact l2,n1,b1,b8,fun x hx=>?_,fun k hk=>?_,?_⟩
     ·rcases List.mem_or_eq_of_mem_set hx with z|rfl
      ·exact (b3 x z).mono (by walk_at"o")
      ·exact b4.mono (by walk_at"o")
     ·rw[rF (by walk_at"o"),if_neg (by walk_at"o")]
      exact z1 k (by walk_at"o")
     ·exact xP (l:=ns.length - 1) e1 (z1 p (by walk_at"o")) (fun k=>rF (by walk_at"o")) (by walk_at"o") (fun j hj=>dg (by walk_at"o")) (by rw[e2,hLd]) e3 e8
   walk_at"vc"
   refine⟨hL,bY (fun e0=>?_) (fun e0=>?_)⟩
   ·have dv:L ∣ Pt:=Int.dvd_of_fmod_eq_zero e0
    have em:Pt.fdiv L*L=Pt:=iz hL dv
    have bd:Bt (m+(c+1)*i) (Pt.fdiv L):=by
     unfold Bt at bP ⊢
     have e1:(Pt.fdiv L).natAbs*L.natAbs=Pt.natAbs:=by rw[<- Int.natAbs_mul,em]
     have e2:(Pt.fdiv L).natAbs*1<=(Pt.fdiv L).natAbs*L.natAbs:=Nat.mul_le_mul_left _ (by walk_at"o")
     walk_at"o"
    refine⟨hL,key ra qa (nz rs) rs.dropLast qs S (Pt.fdiv L) H5 S5 h5 hqa5 nra nqa nrq ldl lqs (nS.elim fun e z=>⟨e,by walk_at"o",z.2⟩) (bS.mono (by rw[Nat.mul_add];walk_at"o")) (fun x hx=>(br x ((List.dropLast_sublist _).subset hx)).mono (by walk_at"o")) (fun x hx=>(bq x hx).mono (by walk_at"o")) bd zq ev (by rw[nP,em]) (fun k=>by rw[nF,dz])⟩
   ·refine⟨cp bS bL (by walk_at"o"),⟨_,.of (aN hqa5)⟩,fun q6 H6 hq6 S6 h6=>?_⟩
    refine aY (its:=qs.map V.int) (fun j zs H'=>aC (vw K H5) (vw K H')/\zs=((qs.take j).map fun x=>L*x).map V.int) (fun j zs H' _ _ z=>aX (z.1 _ _ hqa5)) h6 ⟨S6,rfl⟩ (fun j x zs H' hj hx h' z=>?_) (fun zs H7 h7 z=>?_)
    ·obtain⟨z1,rfl⟩:=z
     rw[List.length_map] at hj
     rw[List.getElem?_map,List.getElem?_eq_getElem hj] at hx
     cases hx
     walk_at"vc"
     refine⟨cp bL (bq _ (List.getElem_mem hj)) (by walk_at"o"),.mk h' ?_ fun H8 B8 h8=>⟨fun y o e=>B8 _ _ (aj e hq6) (z1 _ _ e),?_⟩⟩
     ·rw[List.length_map,List.length_map,List.length_take]
      have:1000<=sizeLine:=by decide
      walk_at"o"
     ·rw[List.take_add_one,List.getElem?_eq_getElem hj,List.map_append,List.map_append]
      rfl
    obtain⟨S57,rfl⟩:=z
    rw[List.length_map,List.take_length] at h7
    have h57:=S57 _ _ h5
    refine⟨⟨_,.of (aN h57)⟩,fun r8 H8 hr8 S8 h8=>?_⟩
    refine aY (its:=rs.dropLast.map V.int) (fun j zs H'=>aC (vw K H7) (vw K H')/\zs=((rs.dropLast.take j).map fun x=>L*x).map V.int) (fun j zs H' _ _ z=>aX (z.1 _ _ h57)) h8 ⟨S8,rfl⟩ (fun j x zs H' hj hx h' z=>?_) (fun zs H9 h9 z=>?_)
    ·obtain⟨z1,rfl⟩:=z
     rw[List.length_map] at hj
     rw[List.getElem?_map,List.getElem?_eq_getElem hj] at hx
     cases hx
     walk_at"vc"
     refine⟨cp bL (br _ ((List.dropLast_sublist _).subset (List.getElem_mem hj))) (by walk_at"o"),.mk h' ?_ fun H8 B8 h8=>⟨fun y o e=>B8 _ _ (aj e hr8) (z1 _ _ e),?_⟩⟩
     ·rw[List.length_map,List.length_map,List.length_take]
      have:1000<=sizeLine:=by decide
      walk_at"o"
     ·rw[List.take_add_one,List.getElem?_eq_getElem hj,List.map_append,List.map_append]
      rfl
    obtain⟨S79,rfl⟩:=z
    rw[List.length_map,List.take_length] at h9
    have S07:=S5.trans S57
    refine key r8 q6 (fun k=>L*nz rs k) _ _ (S*L) Pt H9 (S07.trans S79) h9 (S79 _ _ h7) (S07.none hr8) (S5.none hq6) (aj h7 hr8).symm (by rw[List.length_map];exact ldl) (by rw[List.length_map];exact lqs) (nS.elim fun e z=>⟨e+1,by walk_at"o",by rw[z.2,Int.pow_succ]⟩) ((bS.mul bL).mono (by rw[Nat.mul_add];walk_at"o")) (fun x hx=>?_) (fun x hx=>?_) bP (fun k hk=>?_) (fun k=>?_) ?_ (fun k=>?_)
    ·obtain⟨y,hy,rfl⟩:=List.mem_map.mp hx
     exact (bL.mul (br y ((List.dropLast_sublist _).subset hy))).mono (by walk_at"o")
    ·obtain⟨y,hy,rfl⟩:=List.mem_map.mp hx
     exact (bL.mul (bq y hy)).mono (by walk_at"o")
    ·rw[rC,zq k hk]
     walk_at"o"
    ·rw[show nz (qs.map fun x=>L*x)=fun k=>L*nz qs k from funext fun k=>rC k,uT,<- Int.mul_add,<- ev k,Int.mul_comm S L,Int.mul_assoc]
    ·show L*nz rs (p+(ns.length - 1))=Pt*L
     rw[nP,Int.mul_comm]
    ·rw[rC,nF,dz]
     split <;> simp
  ·obtain⟨ra,qa,rs,qs,S,o6,o7,o8,rfl,S4,hra,hqa,nra,nqa,nrq,lrs,lqs,nS,bS,br,bq,zq,ev⟩:=(hPv _ _ _).mp pv
   rw[Ct] at lrs nS bS br bq zq
   refine hN5 _ _ ?_
   walk_at"vc"
   simp only[eE]
   refine .inr ?_
   simp only[nC]
   walk_at"vc"
   refine⟨rs,hra,fun d H5 ts S5 hd nd e5 l5 z5=>⟨by decide,fun p6 H6 hp6 S6 h6=>?_⟩⟩
   have n9:n<=14:=by walk_at"o"
   have k1:c*n<=20000*14:=Nat.mul_le_mul hc n9
   have k2:(c+1)*n<=20001*14:=Nat.mul_le_mul (by walk_at"o") n9
   refine h p6 qa d S qs ts H6 (S4.trans (S5.trans S6)) h6 ((S5.trans S6) _ _ hqa) (S6 _ _ hd) (S4.none nd) (by walk_at"o") (by walk_at"o") (nS.elim fun e z=>⟨e,by walk_at"o",z.2.trans (by rw[hLd])⟩) (bS.mono (by walk_at"o")) (fun x hx=>(bq x hx).mono (by walk_at"o")) (fun x hx=>?_) z5 (fun k=>?_)
   ·obtain⟨k,hk⟩:=List.getElem?_of_mem hx
    have e:=e5 k
    rw[cM hk] at e
    rw[e]
    exact (jz br k).mono (by walk_at"o")
   ·rw[lqs,e5 k]
    exact ev k
def lN(K:W.Frag):Sp:=fun vs H Q _=>∃ (x:Int)(n b:Nat),vs=[.int x,.int n]/\n<=20/\b<=20000/\Bt b x/\Q (.int (x ^ n)) H
theorem zA(F:et K "power" "power" ka f fd) (T:ff K mg):bU P w K mg base el 1 f fd ["base", "many"] (lN K):=by
 have scN:=uf.nd
 refine F.okQ uf (fun vs H Q E h=>?_) (fun cdv A outer s H vs Q E hr h=>?_)
 ·obtain⟨_,_,_,rfl,_⟩:=h
  rfl
 ·obtain⟨x,n,b,rfl,hn,hb,bx,h⟩:=h
  refine⟨_,(af (aE (i:=2) scN rfl (by walk_at"a1") ae)
   (af (cO PassesOwn.never rfl (cI rfl T.b_range (aa (qv 1) ac)) (ak (i:=3) scN rfl (by walk_at"a1")) (ah (kT (i:=2) scN rfl (by walk_at"a1") (qv 0) rE)))
   (ah (aq (qv 2))))),?_⟩
  walk_at"m"
  walk_at"vc"
  refine⟨by walk_at"o",by walk_at"o",?_⟩
  rw[show ((n:Nat):Int).toNat=n by walk_at"o"]
  obtain⟨Pv,hPv⟩ : ∃ Pv:Nat->St->Hp->Prop,∀ i σ H',Pv i σ H' ↔ H'=H /\ ∃ o,σ=[some (.int x),some (.int n),some (.int (x ^ i)),o]:=⟨_,fun _ _ _=>Iff.rfl⟩
  refine cc (its:=gb 0 n) Pv (fun _ _ _ _ _=>bK) ((hPv _ _ _).mpr ⟨rfl,_,by rw[Int.pow_zero]⟩) (fun i y σ H1 hi hy pv=>?_) (fun σ H1 pv=>?_)
  ·obtain⟨rfl,o,rfl⟩:=(hPv _ _ _).mp pv
   obtain⟨hi',rfl⟩:=fu hy
   walk_at"vc"
   have b1:=bx.pow1 i
   have:b*i<=20000*20:=Nat.mul_le_mul hb (by walk_at"o")
   refine⟨cp b1 bx (by walk_at"o"),(hPv _ _ _).mpr ⟨rfl,_,by rw[Int.pow_succ]⟩⟩
  ·obtain⟨rfl,o,rfl⟩:=(hPv _ _ _).mp pv
   rw[cx]
   walk_at"vc"
   exact h
def qQ(G:Hp)(t:Addr)(tv:List V)(rows:List (List Int × List Int × Int × Int)):Prop:=tv.length=rows.length /\ ∀ (k:Nat) row,rows[k]? = some row -> ∃ p ra qa:Addr,tv[k]? = some (.ref p)/\G p=some (.tup [.ref ra,.ref qa,.int row.2.2.1,.int row.2.2.2])/\G ra=some (.lst (row.1.map V.int))/\G qa=some (.lst (row.2.1.map V.int))/\ra ≠ t/\qa ≠ t
theorem qQ.same{G G':Hp}{t:Addr}{tv:List V}{rows:List (List Int × List Int × Int × Int)}(h:qQ G t tv rows)(S:aC G G'):qQ G' t tv rows:=⟨h.1,fun k row e=>by
 obtain⟨p,ra,qa,a,b,c,d,n⟩:=h.2 k row e
 exact⟨p,ra,qa,a,S _ _ b,S _ _ c,S _ _ d,n⟩⟩
def Ff(row:List Int × List Int × Int × Int):Prop:=row.1.length<=9/\(∀ x ∈ row.1,Bt 17840 x)/\Bt 200000 row.2.2.1/\Bt 200000 row.2.2.2/\row.2.1.length<=9/\1<=row.2.1.length /\ ∀ x ∈ row.2.1,Bt 700000 x
def fj(K:W.Frag):Sp:=fun vs H Q _=>∃ (a b:Addr)(ms ns:List Int),vs=[.ref a,.ref b]/\vw K H a=some (.lst (ms.map V.int))/\vw K H b=some (.lst (ns.map V.int))/\ms ≠ []/\ns.length<=ms.length/\jM 1110 ms/\jM 1110 ns /\
 ∀ (d:Addr)(H':Hp)(tv:List V) rows,aC (vw K H) (vw K H')->vw K H' d=some (.lst tv)->qQ (vw K H') d tv rows->uo ms ns rows->rows.length<=9->(∀ row ∈ rows,Ff row)->Q (.ref d) H'
theorem nX(F:et K "wholes_rests" "wholes_rests" dF f fd) (T:ff K mg)(N_:oP P base)(C_power:aU P w K mg base "power" ["base", "many"] 1 (lN K)) (C_wholes_parted:aU P w K mg base "wholes_parted" ["one", "other"] 2 (cU K)):bU P w K mg base el 3 f fd ["one", "other"] (fj K):=by
 have scN:=jp.nd
 refine F.okQ jp (fun vs H Q E h=>?_) (fun cdv A outer s H vs Q E hr h=>?_)
 ·obtain⟨_,_,_,_,rfl,_⟩:=h
  rfl
 ·obtain⟨a,b,ms,ns,rfl,ha,hb,m0,lmn,im,il,h⟩:=h
  refine⟨_,(af (aE (i:=2) scN rfl (by walk_at"a1") (aM ac))
   (af (cY (aH (aa ae (aa ae ac))) (bJ (n:=2) rfl (ar (ak (i:=3) scN rfl (by walk_at"a1")) (ar (ak (i:=4) scN rfl (by walk_at"a1")) bI))))
   (af (ir PassesOwn.never (gq (qv 1) (fun _=>rfl)) (af (aE (i:=5) scN rfl (by walk_at"a1") (ao cX (am av (by rfl) T.b_len aQ (aa (qv 0) ac)) (am av (by rfl) T.b_len aQ (aa (qv 1) ac))))
   (af (aE (i:=6) scN rfl (by walk_at"a1") (ai C_power (hr.mono (by walk_at"a2")) rfl (aa (ay cZ (qv 1) (cG bO ae) (fun _ _=>rfl)) (aa (ao aV (qv 5) ae) ac))))
   (af (cY (ai C_wholes_parted (hr.mono (by walk_at"a2")) rfl (aa (qv 0) (aa (qv 1) ac))) (bJ (n:=3) rfl (ar (ak (i:=7) scN rfl (by walk_at"a1")) (ar (ak (i:=8) scN rfl (by walk_at"a1")) (ar (ak (i:=9) scN rfl (by walk_at"a1")) bI)))))
   (af (aE (i:=10) scN rfl (by walk_at"a1") (ao aS (qv 3) (ai C_power (hr.mono (by walk_at"a2")) rfl (aa (qv 4) (aa (qv 5) ac)))))
   (af (cj (gq (qv 8) (fun _=>rfl)) (af (aE (i:=11) scN rfl (by walk_at"a1") (ao (iy N_ hr rfl rfl rfl) (qv 6) (qv 9)))
   (af (mh (i:=8) (own:=["whole"]) (outs:=["top", "lack"]) (ixs:=[10,11]) scN rfl (by walk_at"a1") rfl (cJ (qv 8)) rfl ⟨rfl,rfl,rfl,⟨rfl,⟨rfl,trivial⟩⟩,rfl,⟨⟨rfl,rfl,rfl,_,rfl⟩,⟨⟨rfl,rfl,rfl,_,rfl⟩,trivial⟩⟩⟩ (fun _ _ _ _=>⟨(ak (i:=0) (show (["whole", "top", "lack"]:List Str).Nodup by decide +kernel) rfl (by walk_at"a1")),cS,(ao (yK N_ hr rfl rfl rfl rfl rfl) (ao (show fb _ _ (gO K) from aS) (qv 2) (qv 0)) (qv 1))⟩))
   (ah (lZ (tU PySem.F.plainAttrs_list PySem.F.slot_list_append PySem.F.type_list_append ik (qv 2) (aa (aH (aa (qv 8) (aa (cL (own:=["whole"]) (outs:=["lack"]) (ixs:=[11]) rfl (cJ (qv 7)) rfl ⟨rfl,rfl,rfl,⟨rfl,trivial⟩,rfl,⟨⟨rfl,rfl,rfl,_,rfl⟩,trivial⟩⟩ (fun _ _ _ _=>⟨(ak (i:=0) (show (["whole", "lack"]:List Str).Nodup by decide +kernel) rfl (by walk_at"a1")),cS,(ao (show fb _ _ (gO K) from aS) (qv 1) (qv 0))⟩)) (aa (qv 10) (aa (qv 6) ac))))) ac)))))) aO)
   (af (oF (i:=0) (j:=1) rfl scN rfl rfl (by decide) rfl rfl (aa (qv 1) (aa (qv 8) ac)) rfl)
   (af (aE (i:=3) scN rfl (by walk_at"a1") (ay cZ (qv 0) (cG bO ae) (fun _ _=>rfl)))
   (ah (cj (aL iE (qv 5) ae (aI _)) (ah (aE (i:=4) scN rfl (by walk_at"a1") (ao (iy N_ hr rfl rfl rfl) (ai C_power (hr.mono (by walk_at"a2")) rfl (aa (qv 3) (aa (qv 5) ac))) (ai C_power (hr.mono (by walk_at"a2")) rfl (aa (qv 4) (aa (ao cX (qv 5) ae) ac)))))) aO))))))))))
   (ah (aq (qv 2)))))),?_⟩
  walk_at"m"
  skip
  refine aW.gen fun N1 hN1=>?_
  walk_at"vc"
  refine⟨by decide,fun t H1 ht S1 h1=>hN1 _ _ ?_⟩
  refine aW.gen fun N2 hN2=>?_
  walk_at"vc"
  refine⟨by decide,fun p2 H2 hp2 S2 h2=>⟨_,rfl,_,h2,rfl,_,_,rfl,_,_,rfl,rfl,hN2 _ _ ?_⟩⟩
  refine aW.gen fun N3 hN3=>?_
  walk_at"vc"
  have nt:vw K H t=none:=ht
  have S02:=S1.trans S2
  obtain⟨W,hW⟩ : ∃ W:Nat->St->Hp->Prop,∀ m σ H',W m σ H' ↔ ∃ (oa ra:Addr)(Fs Gs:List Int)(tv:List V)(rows:List (List Int × List Int × Int × Int))(x g:Int)(o5 o6 o7 o8 o9 o10 o11:Option V),σ=[some (.ref oa),some (.ref ra),some (.ref t),some (.int x),some (.int g),o5,o6,o7,o8,o9,o10,o11]/\m=Gs.length/\aC (vw K H) (vw K H')/\vw K H' t=some (.lst tv)/\vw K H' oa=some (.lst (Fs.map V.int))/\vw K H' ra=some (.lst (Gs.map V.int))/\oa ≠ t/\ra ≠ t /\
    Fs ≠ []/\tv.length+Gs.length<=9/\Gs.length<=Fs.length/\jM 17825 Fs/\jM 17825 Gs/\(∀ r,uo Fs Gs r->uo ms ns (rows ++ r))/\(Gs ≠ [] -> ∃ S1,uQ 17825 S1 (nz Fs) (nz Gs) (Fs.length - 1) (Gs.length - 1) x g) /\
    qQ (vw K H') t tv rows /\ ∀ row ∈ rows,Ff row:=⟨_,fun _ _ _=>Iff.rfl⟩
  have btn:∀ {n:Nat}{l:List Int},jM n l -> ∀ k,Bt n (nz l k):=fun i k=>jz i.2.1 k
  have up:∀ {l:List Int},jM 1110 l->jM 17825 l:=fun i=>i.up (by decide)
  have lp:∀ {l:List Int},l ≠ []->0<l.length:=fun h=>List.length_pos_iff.mpr h
  refine⟨W,⟨_,(hW _ _ _).mpr ⟨a,b,ms,ns,[],[],1,1,_,_,_,_,_,_,_,rfl,rfl,S02,S2 _ _ h1,S02 _ _ ha,S02 _ _ hb,aj ha nt,aj hb nt,m0,by have:=il.1;simp;walk_at"o",lmn,up im,up il,fun r z=>z,fun n0=>⟨_,uQ.first (b:=1110) (by walk_at"o") (by have:=im.1;walk_at"o") (by decide) (btn im) (btn il) (il.2.2 n0) (fun k hk=>dg (by have:=lp n0;walk_at"o")) (fun k hk=>dg (by have:=lp m0;walk_at"o"))⟩,⟨rfl,by simp⟩,by simp⟩⟩,fun m σ H3 hw=>?_⟩
  obtain⟨oa,ra,Fs,Gs,tv,rows,x,g,o5,o6,o7,o8,o9,o10,o11,rfl,rfl,S3,ht3,hF,hG,noa,nra,f0,lt7,lGF,iF,iG,gc,gs,rt,rwb⟩:=(hW _ _ _).mp hw
  refine⟨_,rfl,_,jR hG,bY (fun hc=>⟨_,fun σ' H' z=>z,?_⟩) (fun hc=>hN3 _ _ ?_)⟩
  ·have g0:Gs ≠ []:=fun z=>by rw[z] at hc;cases hc
   obtain⟨Sx,I⟩:=gs g0
   have lg:=lp g0
   obtain⟨δ,hδ⟩ : ∃ δ,δ=Fs.length - Gs.length:=⟨_,rfl⟩
   have hδ2:Fs.length - 1 - (Gs.length - 1)=δ:=by walk_at"o"
   have hgl:Gs.length - 1<Gs.length:=by walk_at"o"
   obtain⟨c,hcd⟩ : ∃ c,c=nz Gs (Gs.length - 1):=⟨_,rfl⟩
   have hce:Gs[Gs.length - 1]=c:=by rw[hcd,cM (List.getElem?_eq_getElem hgl)]
   have bc:Bt 17825 c:=hcd ▸ btn iG _
   have c0:c ≠ 0:=hcd ▸ iG.2.2 g0
   have xl:(Gs.map V.int).getLast? = some (.int c):=by
    rw[List.getLast?_eq_getElem?,List.length_map,List.getElem?_map,List.getElem?_eq_getElem hgl,hce]
    rfl
   have lF7:=iF.1
   refine aW.gen fun M1 hM1=>?_
   walk_at"vc"
   refine⟨Fs.length,by simp only[eU,hF,List.length_map],Gs.length,by simp only[eU,hG,List.length_map],hM1 _ _ ?_⟩
   rw[show (Fs.length:Int) - (Gs.length:Int)=(δ:Int) by walk_at"o"]
   refine aW.gen fun M2 hM2=>?_
   walk_at"vc"
   refine⟨_,hG,_,dc xl,⟨c,δ+1,17825,rfl,by walk_at"o",by decide,bc,hM2 _ _ ?_⟩⟩
   refine aW.gen fun M3 hM3=>?_
   walk_at"vc"
   simp only[cU]
   refine⟨oa,ra,Fs,Gs,17825,17825,rfl,hF,hG,lg,iG.2.2 g0,by walk_at"o",by walk_at"o",by decide,by decide,iF.2.1,iG.2.1,fun p4 qa rb S qs rs H4 S4 h4 hqa hrb nrb lq lr hSe bS bq br lrz ev=>⟨_,rfl,_,h4,rfl,_,_,rfl,_,_,rfl,_,_,rfl,rfl,hM3 _ _ ?_⟩⟩
   obtain⟨e,he,hS⟩:=hSe
   rw[<- hcd] at hS
   have lq2:qs.length=δ+1:=by walk_at"o"
   have S0:S ≠ 0:=by rw[hS];exact Int.pow_ne_zero c0
   obtain⟨lack,hlack⟩ : ∃ lack,lack=c ^ (δ+1 - e):=⟨_,rfl⟩
   have elk:c ^ (δ+1)=lack*S:=by rw[hlack,hS,<- GZ,show δ+1 - e+e=δ+1 by walk_at"o"]
   obtain⟨dz,htop⟩ : ∃ dz,dz=x*g ^ δ:=⟨_,rfl⟩
   have top0:dz ≠ 0:=by rw[htop];exact Int.mul_ne_zero I.inv.x0 (Int.pow_ne_zero I.inv.h0)
   have δ6:17825*δ<=17825*8:=Nat.mul_le_mul_left _ (by walk_at"o")
   have btop:Bt 200000 dz:=by rw[htop];exact (I.bx.mul (I.bh.pow1 δ)).mono (by walk_at"o")
   have black:Bt 200000 lack:=by
    rw[hlack]
    refine (bc.pow1 _).mono ?_
    have:17825*(δ+1 - e)<=17825*9:=Nat.mul_le_mul_left _ (by walk_at"o")
    walk_at"o"
   have bgam:Bt 200000 (c ^ (δ+1)):=by
    refine (bc.pow1 _).mono ?_
    have:17825*(δ+1)<=17825*9:=Nat.mul_le_mul_left _ (by walk_at"o")
    walk_at"o"
   refine aW.gen fun M4 hM4=>?_
   walk_at"vc"
   simp only[lN]
   refine⟨g,δ,17825,rfl,by walk_at"o",by decide,I.bh,?_⟩
   rw[ix]
   refine⟨cp I.bx (I.bh.pow1 δ) (by walk_at"o"),hM4 _ _ ?_⟩
   rw[<- htop]
   have ev2:∀ k,c ^ (δ+1)*nz Fs k=pz (fun i=>lack*nz qs i) (nz Gs) (δ+1) k+lack*nz rs k:=fun k=>by
    rw[uT,<- Int.mul_add,<- lq2,<- ev k,<- Int.mul_assoc,<- elk,lq2]
   obtain⟨r,g',hR,bR,r0,ng',bg',hh,next⟩:=I.rest (q:=fun i=>lack*nz qs i) (R:=fun k=>lack*nz rs k) (fun k hk=>by rw[dg (by walk_at"o"),Int.mul_zero]) (fun k=>by rw[<- hcd,hδ2];exact ev2 k)
   rw[hδ2,<- htop] at hR
   rw[<- hcd,hδ2] at hh
   rw[<- hcd] at next
   refine aW.gen fun M5 hM5=>?_
   have key:∀ (rc:Addr)(Rs:List Int)(tv':List V)(rows':List (List Int × List Int × Int × Int))(H':Hp)(u7 u11:Option V),aC (vw K H) (vw K H')->vw K H' t=some (.lst tv')->vw K H' ra=some (.lst (Gs.map V.int))->vw K H' rc=some (.lst (Rs.map V.int))->rc ≠ t->Rs.length<Gs.length->tv'.length+Rs.length<=9->(∀ k,nz Rs k=r k)->jM 17825 Rs->(∀ r,uo Gs Rs r->uo ms ns (rows' ++ r))->qQ (vw K H') t tv' rows'->(∀ row ∈ rows',Ff row)->M5 [some (.ref oa),some (.ref ra),some (.ref t),some (.int x),some (.int g),some (.int δ),some (.int (c ^ (δ+1))),u7,some (.ref rc),some (.int S),some (.int dz),u11] H':=by
    intro rc Rs tv' rows' H' u7 u11 Sx' ht' hG' hR' nrc lR lt' eR iR gc' rt' rb'
    have fin:∀ u7 u11:Option V,∃ m',m'<Gs.length/\W m' [some (.ref ra),some (.ref rc),some (.ref t),some (.int c),some (.int g'),some (.int δ),some (.int (c ^ (δ+1))),u7,some (.ref rc),some (.int S),some (.int dz),u11] H':=fun u7 u11=>by
     refine⟨Rs.length,lR,(hW _ _ _).mpr ⟨ra,rc,Gs,Rs,tv',rows',c,g',_,_,_,_,_,_,_,rfl,rfl,Sx',ht',hG',hR',nra,nrc,g0,lt',by walk_at"o",iG,iR,gc',fun z=>?_,rt',rb'⟩⟩
     have lz:=lp z
     have e1:r=nz Rs:=funext fun k=>(eR k).symm
     have nx:=next (Rs.length - 1) (by walk_at"o") (by rw[<- eR];exact iR.2.2 z) (fun k hk=>by rw[<- eR];exact dg (by walk_at"o"))
     rw[e1] at nx
     exact⟨_,nx⟩
    refine hM5 _ _ ?_
    walk_at"vc"
    refine⟨_,hG',_,dc xl,bY (fun h0=>?_) (fun h0=>?_)⟩
    ·rcases hh with ⟨z,_⟩|⟨_,z2⟩
     ·walk_at"o"
     have δ5:17825*(δ - 1)<=17825*8:=Nat.mul_le_mul_left _ (by walk_at"o")
     have u0:g ^ (δ - 1) ≠ 0:=Int.pow_ne_zero I.inv.h0
     refine⟨c,δ,17825,rfl,by walk_at"o",by decide,bc,⟨g,δ - 1,17825,by rw[show ((δ:Int) - 1)=((δ - 1:Nat):Int) by walk_at"o"],by walk_at"o",by decide,I.bh,_,rfl,_,rfl,u0,?_⟩⟩
     have e1:(c ^ δ).fdiv (g ^ (δ - 1))=g':=Int.eq_of_mul_eq_mul_right u0 (by rw[iz u0 ⟨g',by rw[<- z2,Int.mul_comm]⟩,z2])
     rw[e1]
     exact fin u7 u11
    ·rcases hh with ⟨_,z⟩|⟨z,_⟩
     ·rw[<- z]
      exact fin u7 u11
     ·walk_at"o"
   have nt4:t ≠ rb:=aj ht3 nrb
   walk_at"vc"
   refine⟨_,jR hrb,bY (fun hc2=>?_) (fun hc2=>?_)⟩
   ·have ef:(c ^ (δ+1)).fdiv S=lack:=Int.eq_of_mul_eq_mul_right S0 (by rw[iz S0 ⟨lack,by rw[elk,Int.mul_comm]⟩,elk])
    rw[ef]
    have rs0:rs ≠ []:=fun z=>by rw[z] at hc2;cases hc2
    have lrs:=lp rs0
    refine⟨S0,⟨_,.of (aN hrb)⟩,fun d6 H6 hd6 S6 h6=>?_⟩
    refine aY (its:=rs.map V.int) (fun j zs H'=>aC (vw K H4) (vw K H')/\zs=((rs.take j).map fun y=>(lack*y).fdiv dz).map V.int) (fun j zs H' _ _ z=>aX (z.1 _ _ hrb)) h6 ⟨S6,rfl⟩ (fun j y zs H' hj hy h' z=>?_) (fun zs H7 h7 z=>?_)
    ·obtain⟨z1,rfl⟩:=z
     rw[List.length_map] at hj
     rw[List.getElem?_map,List.getElem?_eq_getElem hj] at hy
     cases hy
     walk_at"vc"
     refine⟨cp black (br _ (List.getElem_mem hj)) (by walk_at"o"),top0,.mk h' ?_ fun H8 B8 h8=>⟨fun y o e=>B8 _ _ (aj e hd6) (z1 _ _ e),?_⟩⟩
     ·rw[List.length_map,List.length_map,List.length_take]
      have:1000<=sizeLine:=by decide
      walk_at"o"
     ·rw[List.take_add_one,List.getElem?_eq_getElem hj,List.map_append,List.map_append]
      rfl
    obtain⟨S47,rfl⟩:=z
    rw[List.length_map,List.take_length] at h7
    refine⟨mH (S47 _ _ (S4 _ _ ht3)),⟨_,.of (aN (S47 _ _ hqa))⟩,fun d8 H8 hd8 S8 h8=>?_⟩
    refine aY (its:=qs.map V.int) (fun j zs H'=>aC (vw K H7) (vw K H')/\zs=((qs.take j).map fun y=>lack*y).map V.int) (fun j zs H' _ _ z=>aX (z.1 _ _ (S47 _ _ hqa))) h8 ⟨S8,rfl⟩ (fun j y zs H' hj hy h' z=>?_) (fun zs H9 h9 z=>?_)
    ·obtain⟨z1,rfl⟩:=z
     rw[List.length_map] at hj
     rw[List.getElem?_map,List.getElem?_eq_getElem hj] at hy
     cases hy
     walk_at"vc"
     refine⟨cp black (bq _ (List.getElem_mem hj)) (by walk_at"o"),.mk h' ?_ fun H8 B8 h8=>⟨fun y o e=>B8 _ _ (aj e hd8) (z1 _ _ e),?_⟩⟩
     ·rw[List.length_map,List.length_map,List.length_take]
      have:1000<=sizeLine:=by decide
      walk_at"o"
     ·rw[List.take_add_one,List.getElem?_eq_getElem hj,List.map_append,List.map_append]
      rfl
    obtain⟨S79,rfl⟩:=z
    have S49:=S47.trans S79
    refine⟨by decide,fun p10 H10 hp10 S10 h10=>?_⟩
    have ht10:=S10 _ _ (S49 _ _ (S4 _ _ ht3))
    refine⟨tv,ht10,?_,fun H11 B11 h11=>?_⟩
    ·have:1000<=sizeLine:=by decide
     walk_at"o"
    have nt6:t ≠ d6:=aj (S4 _ _ ht3) hd6
    have nt10:p10 ≠ t:=(aj (S49 _ _ (S4 _ _ ht3)) hp10).symm
    have S410:=S49.trans S10
    have hd7:=(S79.trans S10) _ _ h7
    have lRs:(rs.map fun y=>(lack*y).fdiv dz).length=rs.length:=List.length_map _
    have eR:∀ k,nz (rs.map fun y=>(lack*y).fdiv dz) k=r k:=fun k=>by
     have q1:=hR k
     cases ek:rs[k]? with
     | none =>
      have l:=List.getElem?_eq_none_iff.mp ek
      rw[dg l,Int.mul_zero] at q1
      rw[dg (by rw[lRs];exact l)]
      rcases Int.mul_eq_zero.mp q1.symm with z|z
      ·exact absurd z top0
      ·exact z.symm
     | some y =>
      rw[cM ek] at q1
      rw[cM (n:=(lack*y).fdiv dz) (by rw[List.getElem?_map,ek];rfl)]
      exact Int.eq_of_mul_eq_mul_right top0 (by rw[iz top0 ⟨_,q1⟩,q1,Int.mul_comm])
    have R0:(rs.map fun y=>(lack*y).fdiv dz) ≠ []:=fun z=>rs0 (List.map_eq_nil_iff.mp z)
    have Rl0:nz (rs.map fun y=>(lack*y).fdiv dz) ((rs.map fun y=>(lack*y).fdiv dz).length - 1) ≠ 0:=by
     rw[lRs,eR]
     intro z
     have q1:=hR (rs.length - 1)
     rw[z,Int.mul_zero] at q1
     rcases Int.mul_eq_zero.mp q1 with y|y
     ·exact Int.pow_ne_zero c0 (hlack ▸ y)
     ·exact lrz (by walk_at"o") y
    have Rb:∀ x ∈ (rs.map fun y=>(lack*y).fdiv dz),Bt 17825 x:=fun x hx=>by
     obtain⟨k,hk⟩:=List.getElem?_of_mem hx
     rw[<- cM hk,eR]
     exact bR k
    have nzq:∀ i,nz (qs.map fun y=>lack*y) i=lack*nz qs i:=fun i=>by
     cases ek:qs[i]? with
     | none =>
      have l:=List.getElem?_eq_none_iff.mp ek
      rw[dg l,dg (by rw[List.length_map];exact l),Int.mul_zero]
     | some y=>rw[cM ek,cM (n:=lack*y) (by rw[List.getElem?_map,ek];rfl)]
    have Hl:∀ k,c ^ (δ+1)*nz Fs k=pz (nz (qs.map fun y=>lack*y)) (nz Gs) (qs.map fun y=>lack*y).length k+dz*nz (rs.map fun y=>(lack*y).fdiv dz) k:=fun k=>by
     rw[show nz (qs.map fun y=>lack*y)=fun i=>lack*nz qs i from funext nzq,List.length_map,lq2,ev2 k,eR,hR k]
    rw[List.length_map,List.take_length] at h9
    have hq10:=S10 _ _ h9
    have nt8:d8 ≠ t:=(aj ((S47) _ _ (S4 _ _ ht3)) hd8).symm
    refine key d6 _ (tv ++ [.ref p10]) (rows ++ [(rs.map fun y=>(lack*y).fdiv dz,qs.map fun y=>lack*y,dz,c ^ (δ+1))]) H11 _ _ (fun y o e=>B11 _ _ (aj e nt) ((S3.trans (S4.trans S410)) _ _ e)) h11 (B11 _ _ nra ((S4.trans S410) _ _ hG)) (B11 _ _ nt6.symm hd7) nt6.symm (by rw[lRs];exact lr) (by rw[lRs,List.length_append];simp;walk_at"o") eR ⟨by rw[lRs];walk_at"o",Rb,fun _=>Rl0⟩ (fun r' z=>?_) ⟨by simp[rt.1],fun k row e=>?_⟩ (fun row lO=>?_)
    ·rw[List.append_assoc]
     exact gc _ (.more g0 (iG.2.2 g0) (Int.pow_ne_zero c0) top0 R0 Rl0 (by rw[lRs];exact lr) (by rw[List.length_map];walk_at"o") Hl z)
    ·by_cases hk:k<rows.length
     ·rw[List.getElem?_append_left hk] at e
      obtain⟨p,ra',qa',a1,a2,a3,a4,a5,a6⟩:=rt.2 k row e
      have S3z:=S4.trans S410
      exact⟨p,ra',qa',by rw[List.getElem?_append_left (by rw[rt.1];exact hk)];exact a1,B11 _ _ (fun z=>by rw[z,ht3] at a2;cases a2) (S3z _ _ a2),B11 _ _ a5 (S3z _ _ a3),B11 _ _ a6 (S3z _ _ a4),a5,a6⟩
     ·have hk2:k=rows.length:=by
       have:=(List.getElem?_eq_some_iff.mp e).1
       simp at this
       walk_at"o"
      subst hk2
      rw[List.getElem?_append_right (by walk_at"o"),Nat.sub_self] at e
      cases e
      exact⟨p10,d6,d8,by rw[List.getElem?_append_right (by rw[rt.1];walk_at"o"),rt.1,Nat.sub_self];rfl,B11 _ _ nt10 h10,B11 _ _ nt6.symm hd7,B11 _ _ nt8 hq10,nt6.symm,nt8⟩
    ·rcases List.mem_append.mp lO with z|z
     ·exact rwb row z
     ·cases List.mem_singleton.mp z
      refine⟨by rw[lRs];walk_at"o",fun x hx=>(Rb x hx).mono (by decide),btop,bgam,by rw[List.length_map];walk_at"o",by rw[List.length_map];walk_at"o",fun x hx=>?_⟩
      obtain⟨y,hy,rfl⟩:=List.mem_map.mp hx
      exact (black.mul (bq y hy)).mono (by decide)
   ·have r1:rs=[]:=by
     cases rs with
     | nil=>rfl
     | cons _ _=>exact absurd rfl hc2
    subst r1
    refine key rb [] tv rows H4 _ _ (S3.trans S4) (S4 _ _ ht3) (S4 _ _ hG) hrb nt4.symm (by simp;walk_at"o") (by simp;walk_at"o") (fun k=>?_) ⟨by simp,by simp,fun z=>absurd rfl z⟩ (fun r' z=>?_) (rt.same S4) rwb
    ·have:=hR k
     rw[show nz [] k=0 from dg (by simp),Int.mul_zero] at this
     rcases Int.mul_eq_zero.mp this.symm with z|z
     ·exact absurd z top0
     ·rw[show nz [] k=0 from dg (by simp),z]
    ·have er:r'=[]:=by
      cases z with
      | nought=>rfl
      | last h _ _ _ _=>exact absurd rfl h
      | more h _ _ _ _ _ _ _ _ _=>exact absurd rfl h
     subst er
     refine gc _ (.last g0 (iG.2.2 g0) S0 (Q:=qs) (by walk_at"o") fun k=>?_)
     rw[ev k,show nz [] k=0 from dg (by simp)]
     walk_at"o"
  ·have g1:Gs=[]:=by
    cases Gs with
    | nil=>rfl
    | cons _ _=>exact absurd rfl hc
   subst g1
   walk_at"vc"
   have:=gc [] .nought
   rw[List.append_nil] at this
   exact h t H3 tv rows S3 ht3 rt this (by rw[<- rt.1];walk_at"o") rwb
def lH(K:W.Frag):Sp:=fun vs H Q _=>∃ (a:Addr)(fs:List (Int × Int)),vs=[.ref a]/\aP (vw K H) a fs/\fs.length<=40/\(∀ q ∈ fs,Fq q/\Bq 1200 q)/\aR fs /\
 ∀ d H' (rs:List (Int × Int)),aC (vw K H) (vw K H')->aP (vw K H') d rs->vw K H d=none->aR rs->(∀ k,cf rs k=((k+1:Nat):Int)*cf fs (k+1))->rs.length=fs.length - 1->Q (.ref d) H'
theorem yN(F:et K "slope" "slope" j6 f fd) (T:ff K mg)(C_times:aU P w K mg base "times" ["one", "other"] 3 (lM K)):bU P w K mg base el 4 f fd ["f"] (lH K):=by
 have scN:=tK.nd
 refine F.okQ tK (fun vs H Q E h=>?_) (fun cdv A outer s H vs Q E hr h=>?_)
 ·obtain⟨a,_,rfl,_⟩:=h
  rfl
 ·obtain⟨a,fs,rfl,ha,lf,hf,pf,h⟩:=h
  refine⟨_,(ah (aq (cL (own:=["k"]) (outs:=["f"]) (ixs:=[0]) rfl (yn rfl T.b_range (aa ae (aa (am av (by rfl) T.b_len aQ (aa (qv 0) ac)) ac))) rfl ⟨rfl,rfl,rfl,⟨rfl,trivial⟩,rfl,⟨⟨rfl,rfl,rfl,_,rfl⟩,trivial⟩⟩ (fun _ _ _ _=>⟨(ak (i:=0) (show (["k", "f"]:List Str).Nodup by decide +kernel) rfl (by walk_at"a1")),cS,(ai C_times (hr.mono (by walk_at"a2")) rfl (aa (show QE _ _ (ju K _) from aH (aa (qv 0) (aa ae ac))) (aa (ay (show uB _ (uc K) from cZ) (qv 1) (qv 0) (fun _ _=>rfl)) ac)))⟩)))),?_⟩
  walk_at"m"
  walk_at"vc"
  obtain⟨xs,hxs,rxs⟩:=id ha
  have hlx:xs.length=fs.length:=by rw[rxs.length,List.length_map]
  refine⟨_,ha.len,by walk_at"o",by walk_at"o",by walk_at"o",by walk_at"o",fun d H1 hd S1 h1=>?_⟩
  rw[show ((fs.length:Int) - 1).toNat=fs.length - 1 by walk_at"o"]
  have f1:∀ k:Nat,Fq (((k:Nat):Int),1):=fun k=>⟨Int.one_pos,by simp⟩
  refine aY (its:=gb 1 (fs.length - 1)) (fun i zs H'=>aC (vw K H) (vw K H') /\ ∃ vs:List (Int × Int),vs.length=i/\aG (vw K H') (vs.map fr) zs/\(∀ q ∈ vs,Fq q) /\ ∀ (j:Nat)(q:Int × Int),vs[j]? = some q->wv q=((j+1:Nat):Int)*cf fs (j+1))
   (fun _ _ _ _ _ _=>bK) h1 ⟨S1,[],rfl,.mk_nil,by simp,by simp⟩ (fun i x zs H2 hi hx h2 p=>?_) (fun zs H2 h2 p=>?_)
  ·obtain⟨S2,vs,lv,rv,fv,hv⟩:=p
   obtain⟨hi',rfl⟩:=fu hx
   rw[show (1:Int)+(i:Int)=((i+1:Nat):Int) by walk_at"o"]
   have hi2:i+1<fs.length:=by walk_at"o"
   obtain⟨x2,e2,r2⟩:=rxs.at (i:=i+1) (d:=fr fs[i+1]) (by rw[List.getElem?_map,List.getElem?_eq_getElem hi2];rfl)
   obtain⟨k1,k2⟩:=hf fs[i+1] (List.getElem_mem hi2)
   have bi:Bq 10 (((i+1:Nat):Int),1):=by
    refine⟨?_,(by decide:Bt 10 1)⟩
    show (((i+1:Nat):Int)).natAbs<2 ^ 10
    walk_at"o"
   walk_at"vc"
   refine⟨by decide,fun p3 H3 hp3 S3 h3=>⟨xs,S3 _ _ (S2 _ _ hxs),x2,ck e2,?_⟩⟩
   simp only[lM]
   walk_at"vc"
   refine⟨_,bV h3,_,aF.same (S2.trans S3) _ _ r2,(f1 (i+1)).ne,k1.ne,bi.mono (by decide),k2.mono (by decide),(bi.2.mul k2.2).mono (by decide),fun v4 H4 S4 r4=>.mk ((S3.trans S4) _ _ h2) ?_ fun H5 B5 h5=>⟨fun b o e=>B5 _ _ (aj e hd) (S4 _ _ (S3 _ _ (S2 _ _ e))),vs ++ [qh (((i+1:Nat):Int),1) fs[i+1]],by simp[lv],?_,fun q hq=>?_,fun j q e=>?_⟩⟩
   ·rw[rv.length,List.length_map,lv]
    have:1000<=sizeLine:=by decide
    walk_at"o"
   ·rw[List.map_append]
    exact (aG.flat_but ((S3.trans S4) _ _ h2) B5 _ _ (cP vs) (rv.same (S3.trans S4))).snoc (aF.flat_but ((S3.trans S4) _ _ h2) B5 _ _ (ce _) r4)
   ·rcases List.mem_append.mp hq with z|z
    ·exact fv q z
    ·cases List.mem_singleton.mp z
     exact lX (f1 (i+1)) k1
   ·by_cases hj:j<vs.length
    ·rw[List.getElem?_append_left hj] at e
     exact hv j q e
    ·have hj2:j=i:=by
      have:=(List.getElem?_eq_some_iff.mp e).1
      simp at this
      walk_at"o"
     subst hj2
     rw[List.getElem?_append_right (by walk_at"o"),lv,Nat.sub_self] at e
     cases e
     rw[pU (f1 (j+1)).ne k1.ne,aZ (List.getElem?_eq_getElem hi2)]
     have e1:wv (((j+1:Nat):Int),1)=((j+1:Nat):Int):=by
      show (((j+1:Nat):Int):Rat) / ((1:Int):Rat)=_
      have:((1:Int):Rat)=1:=rfl
      rw[this]
      grind
     rw[e1]
  ·obtain⟨S2,vs,lv,rv,fv,hv⟩:=p
   rw[cx] at lv
   refine h d H2 vs S2 ⟨zs,h2,rv⟩ hd ⟨fv,fun q hq=>?_⟩ (fun k=>?_) lv
   ·intro e0
    have hl:0<vs.length:=by
     cases vs with
     | nil=>cases hq
     | cons _ _=>simp
    rw[List.getLast?_eq_getElem?] at hq
    have e1:=hv _ q hq
    rw[(iO (fv q (List.mem_of_getElem? hq)).ne).mpr e0] at e1
    have e2:fs[vs.length - 1+1]? = some (fs[vs.length - 1+1]'(by walk_at"o")):=List.getElem?_eq_getElem (by walk_at"o")
    rw[aZ e2] at e1
    have e3:fs.getLast? = some (fs[vs.length - 1+1]'(by walk_at"o")):=by
     rw[List.getLast?_eq_getElem?,<- e2]
     congr 1
     walk_at"o"
    have e4:=pf.2 _ e3
    have e5:wv (fs[vs.length - 1+1]'(by walk_at"o")) ≠ 0:=fun z=>e4 ((iO (pf.1 _ (List.getElem_mem _)).ne).mp z)
    have e6:(((vs.length - 1+1:Nat):Int):Rat) ≠ 0:=aD (by walk_at"o")
    grind
   ·by_cases hk:k<vs.length
    ·rw[aZ (List.getElem?_eq_getElem hk)]
     exact hv k _ (List.getElem?_eq_getElem hk)
    ·rw[cz (by walk_at"o"),cz (qs:=fs) (by walk_at"o")]
     grind
def da(K:W.Frag):Sp:=fun vs H Q _=>∃ (a:Addr)(ns:List Int)(d:Int),vs=[.ref a,.int d]/\vw K H a=some (.lst (ns.map V.int))/\ns.length<=100/\d ≠ 0/\Bt 80000000 d /\
 ∀ c H' (rs:List (Int × Int)),aC (vw K H) (vw K H')->aP (vw K H') c rs->vw K H c=none->aR rs->(∀ k,cf rs k=((nz ns k:Int):Rat) / (d:Rat))->rs.length<=ns.length->(∀ q ∈ rs,∃ n ∈ ns,q=lo n d)->Q (.ref c) H'
theorem vB(F:et K "divided" "divided" gU f fd) (T:ff K mg)(C_trimmed:aU P w K mg base "trimmed" ["numbers", "zero"] 1 (eE K)) (C_ratio:aU P w K mg base "ratio" ["top", "bottom"] 2 (eC K)):bU P w K mg base el 3 f fd ["wholes", "bottom"] (da K):=by
 have scN:=pI.nd
 refine F.okQ pI (fun vs H Q E h=>?_) (fun cdv A outer s H vs Q E hr h=>?_)
 ·obtain⟨a,_,_,rfl,_⟩:=h
  rfl
 ·obtain⟨a,ns,d,rfl,ha,ln,nd,bd,h⟩:=h
  obtain⟨z_ZERO,hg_ZERO,hv_ZERO⟩:=T.g_ZERO
  refine⟨_,(ah (aq (ai C_trimmed (hr.mono (by walk_at"a2")) rfl (aa (cL (own:=["whole"]) (outs:=["bottom"]) (ixs:=[1]) rfl (cJ (qv 0)) rfl ⟨rfl,rfl,rfl,⟨rfl,trivial⟩,rfl,⟨⟨rfl,rfl,rfl,_,rfl⟩,trivial⟩⟩ (fun _ _ _ _=>⟨(ak (i:=0) (show (["whole", "bottom"]:List Str).Nodup by decide +kernel) rfl (by walk_at"a1")),cS,(ai C_ratio (hr.mono (by walk_at"a2")) rfl (aa (qv 0) (aa (qv 1) ac)))⟩)) (aa (fi (v:=V.ref z_ZERO) rfl hg_ZERO rfl) ac))))),?_⟩
  walk_at"m"
  walk_at"vc"
  refine⟨⟨_,.of (aN ha)⟩,fun e H1 he S1 h1=>?_⟩
  refine aY (its:=ns.map V.int) (fun i zs H'=>aC (vw K H) (vw K H')/\aG (vw K H') (((ns.take i).map fun n=>lo n d).map fr) zs)
   (fun _ _ H' _ _ p=>aX (p.1 _ _ ha)) h1 ⟨S1,.mk_nil⟩ (fun i x zs H2 hi hx h2 p=>?_) (fun zs H2 h2 p=>?_)
  ·obtain⟨S2,rv⟩:=p
   rw[List.length_map] at hi
   rw[List.getElem?_map,List.getElem?_eq_getElem hi] at hx
   cases hx
   walk_at"vc"
   simp only[eC]
   walk_at"vc"
   refine⟨nd,bd.mono (by decide),fun v3 H3 S3 r3=>.mk (S3 _ _ h2) ?_ fun H4 B4 h4=>⟨fun b o e'=>B4 _ _ (aj e' he) (S3 _ _ (S2 _ _ e')),?_⟩⟩
   ·rw[rv.length,List.length_map,List.length_map,List.length_take]
    have:1000<=sizeLine:=by decide
    walk_at"o"
   ·rw[List.take_add_one,List.getElem?_eq_getElem hi,List.map_append,List.map_append]
    exact (aG.flat_but (S3 _ _ h2) B4 _ _ (cP _) (rv.same S3)).snoc (aF.flat_but (S3 _ _ h2) B4 _ _ (ce _) r3)
  ·obtain⟨S2,rv⟩:=p
   rw[List.length_map,List.take_length] at rv
   walk_at"vc"
   simp only[eE]
   refine .inl ?_
   walk_at"vc"
   refine⟨_,⟨zs,h2,rv⟩,hv_ZERO _,fun q hq=>?_,fun c H3 rs S3 l3 n3 p3 c3 e3 m3=>h c H3 rs (S2.trans S3) l3 ?_ p3 (fun k=>?_) ?_ fun q hq=>?_⟩
   ·obtain⟨n,_,rfl⟩:=List.mem_map.mp hq
    exact iS nd
   ·cases e':vw K H c with
    | none=>rfl
    | some o=>rw[S2 _ _ e'] at n3;cases n3
   ·rw[c3 k]
    by_cases hk:k<ns.length
    ·rw[cM (List.getElem?_eq_getElem hk),aZ (q:=lo ns[k] d) (by rw[List.getElem?_map,List.getElem?_eq_getElem hk];rfl)]
     exact iQ nd
    ·rw[cz (by rw[List.length_map];walk_at"o"),dg (by walk_at"o")]
     show 0=((0:Int):Rat) / (d:Rat)
     grind
   ·rw[List.length_map] at e3
    exact e3
   ·obtain⟨n,h1,h2⟩:=List.mem_map.mp (m3 q hq)
    exact⟨n,h1,h2.symm⟩
def bA(K:W.Frag):Sp:=fun vs H Q _=>∃ (a b:Addr)(ms ns:List Int)(m n:Nat),vs=[.ref a,.ref b]/\vw K H a=some (.lst (ms.map V.int))/\vw K H b=some (.lst (ns.map V.int))/\ms.length<=40/\ns.length<=40/\m<=40000000/\n<=40000000/\(∀ x ∈ ms,Bt m x)/\(∀ x ∈ ns,Bt n x) /\
 ∀ c H' L,aC (vw K H) (vw K H')->vw K H' c=some (.lst ((lz L (pz (nz ms) (nz ns) ms.length)).map V.int))->vw K H c=none->L<=ms.length+ns.length->(ms ≠ []->ns ≠ []->L+1=ms.length+ns.length)->(∀ k,L<=k->pz (nz ms) (nz ns) ms.length k=0)->Q (.ref c) H'
theorem jN(F:et K "wholes_multiplied" "wholes_multiplied" cE f fd) (T:ff K mg):bU P w K mg base el 1 f fd ["one", "other"] (bA K):=by
 have scN:=gz.nd
 refine F.okQ gz (fun vs H Q E h=>?_) (fun cdv A outer s H vs Q E hr h=>?_)
 ·obtain⟨a,_,_,_,_,_,rfl,_⟩:=h
  rfl
 ·obtain⟨a,b,ms,ns,m,n,rfl,ha,hb,lm,ln,hm,hn,bm,bn,h⟩:=h
  refine⟨_,(af (cj (QW.pt (fY (cQ (gq (qv 0) (fun _=>rfl))) (ij (cQ (gq (qv 1) (fun _=>rfl)))))) (ah (aq (aM ac))) aO)
   (af (aE (i:=2) scN rfl (by walk_at"a1") (ao aS (aM (aa ae ac)) (ao cX (ao aV (am av (by rfl) T.b_len aQ (aa (qv 0) ac)) (am av (by rfl) T.b_len aQ (aa (qv 1) ac))) ae)))
   (af (cO PassesOwn.never rfl (jS rfl T.b_enumerate (aa (qv 0) ac)) (bJ (n:=2) rfl (ar (ak (i:=3) scN rfl (by walk_at"a1")) (ar (ak (i:=4) scN rfl (by walk_at"a1")) bI))) (ah (cO PassesOwn.never rfl (jS rfl T.b_enumerate (aa (qv 1) ac)) (bJ (n:=2) rfl (ar (ak (i:=5) scN rfl (by walk_at"a1")) (ar (ak (i:=6) scN rfl (by walk_at"a1")) bI))) (ah (lV (qv 2) (ao aV (qv 3) (qv 5)) iY (ao aS (qv 4) (qv 6)) uZ dX)))))
   (ah (aq (qv 2)))))),?_⟩
  walk_at"m"
  walk_at"vc"
  have lena:eU (vw K H) a=some ms.length:=by simp only[eU,ha,List.length_map]
  have lenb:eU (vw K H) b=some ns.length:=by simp only[eU,hb,List.length_map]
  refine⟨_,jR ha,bY (fun e=>?_) fun e=>?_⟩
  ·have e2:ms=[]:=by simpa using e
   subst e2
   exact⟨by decide,fun c H2 hc S2 h2=>h c H2 0 S2 h2 hc (by simp) (fun z=>absurd rfl z) fun k _=>rfl⟩
  refine⟨_,jR hb,bY (fun e'=>?_) fun e'=>?_⟩
  ·have e2:ns=[]:=by simpa using e'
   subst e2
   refine⟨by decide,fun c H2 hc S2 h2=>h c H2 0 S2 h2 hc (by simp) (fun _ z=>absurd rfl z) fun k _=>?_⟩
   have z:∀ j,pz (nz ms) (nz []) j k=0:=fun j=>by
    induction j with
    | zero=>rfl
    | succ j ih =>
     show pz (nz ms) (nz []) j k+(if j<=k then nz ms j*nz [] (k - j) else 0)=0
     rw[ih,dg (ns:=[]) (by simp)]
     simp
   exact z _
  have em:0<ms.length:=by
   cases ms with
   | nil=>exact absurd rfl e
   | cons _ _=>simp
  have en:0<ns.length:=by
   cases ns with
   | nil=>exact absurd rfl e'
   | cons _ _=>simp
  refine⟨by decide,fun p1 H1 hp1 S1 h1=>⟨ms.length,(by simp only[eU,S1 _ _ ha,List.length_map]),ns.length,(by simp only[eU,S1 _ _ hb,List.length_map]),?_⟩⟩
  obtain⟨L,hL⟩ : ∃ L,ms.length+ns.length=L+1:=⟨ms.length+ns.length - 1,by walk_at"o"⟩
  rw[show (ms.length:Int)+(ns.length:Int) - 1=((L:Nat):Int) by walk_at"o",i4]
  refine⟨_,h1,by walk_at"o",by walk_at"o",?_,fun c H2 hc S2 h2=>?_⟩
  ·have:1000<=sizeLine:=by decide
   simp
   walk_at"o"
  rw[show ((L:Nat):Int).toNat=L by walk_at"o",Fa] at h2
  have S02:=S1.trans S2
  have nc:vw K H c=none:=by
   cases e0:vw K H c with
   | none=>rfl
   | some o=>rw[S1 _ _ e0] at hc;cases hc
  simp only[ny]
  walk_at"vc"
  refine⟨⟨_,S02 _ _ ha⟩,?_⟩
  obtain⟨Pv,hPv⟩ : ∃ Pv:Nat->St->Hp->Prop,∀ j σ H',Pv j σ H' ↔ ∃ o3 o4 o5 o6,σ=[some (.ref a),some (.ref b),some (.ref c),o3,o4,o5,o6]/\aC (vw K H) (vw K H')/\vw K H' c=some (.lst (lz L fun k=>V.int (pz (nz ms) (nz ns) j k))):=⟨_,fun _ _ _=>Iff.rfl⟩
  refine jI (rows:=(ms.map V.int).mapIdx fun i x=>[V.int i,x]) Pv (fun j σ H' _ p=>?_) ((hPv _ _ _).mpr ⟨_,_,_,_,rfl,S02,h2⟩) (fun j t σ H3 p H4 hj ht pv hp S4 h4=>?_) (fun σ H3 pv=>?_)
  ·obtain⟨_,_,_,_,_,S,_⟩:=(hPv _ _ _).mp p
   exact⟨_,aN (S _ _ ha),rfl⟩
  ·obtain⟨o3,o4,o5,o6,rfl,S3,h3⟩:=(hPv _ _ _).mp pv
   rw[List.length_mapIdx,List.length_map] at hj
   rw[List.getElem?_mapIdx,List.getElem?_map,List.getElem?_eq_getElem hj] at ht
   cases ht
   walk_at"vc"
   refine⟨_,h4,rfl,?_⟩
   walk_at"vc"
   have S04:=S3.trans S4
   simp only[ny]
   walk_at"vc"
   refine⟨⟨_,S04 _ _ hb⟩,?_⟩
   obtain⟨Pw,hPw⟩ : ∃ Pw:Nat->St->Hp->Prop,∀ l σ H',Pw l σ H' ↔ ∃ o5 o6,σ=[some (.ref a),some (.ref b),some (.ref c),some (.int j),some (.int ms[j]),o5,o6]/\aC (vw K H) (vw K H')/\vw K H' c=some (.lst (lz L fun k=>V.int (qz (nz ms) (nz ns) j l k))):=⟨_,fun _ _ _=>Iff.rfl⟩
   refine jI (rows:=(ns.map V.int).mapIdx fun i x=>[V.int i,x]) Pw (fun l σ H' _ p=>?_) ((hPw _ _ _).mpr ⟨_,_,rfl,S04,?_⟩) (fun l t σ H5 p5 H6 hl ht pw hp5 S6 h6=>?_) (fun σ H5 pw=>?_)
   ·obtain⟨_,_,_,S,_⟩:=(hPw _ _ _).mp p
    exact⟨_,aN (S _ _ hb),rfl⟩
   ·rw[S4 _ _ h3]
    congr 2
    exact iX fun k _=>by rw[G9]
   ·obtain⟨o5,o6,rfl,S5,h5⟩:=(hPw _ _ _).mp pw
    rw[List.length_mapIdx,List.length_map] at hl
    rw[List.getElem?_mapIdx,List.getElem?_map,List.getElem?_eq_getElem hl] at ht
    cases ht
    walk_at"vc"
    refine⟨_,h6,rfl,?_⟩
    walk_at"vc"
    simp only[pV,Fb]
    walk_at"vc"
    have hx:=S6 _ _ h5
    have b1:=bm ms[j] (List.getElem_mem hj)
    have b2:=bn ns[l] (List.getElem_mem hl)
    rw[show (j:Int)+(l:Int)=((j+l:Nat):Int) by walk_at"o"]
    have hjl:j+l<L:=by walk_at"o"
    refine⟨_,hx,_,ck (dG hjl),cp b1 b2 (by walk_at"o"),_,rfl,_,hx,j+l,by rw[bH];exact jm hjl,fun H7 B7 h7=>(hPw _ _ _).mpr ⟨_,_,rfl,?_,?_⟩⟩
    ·exact fun x o e0=>B7 _ _ (aj e0 nc) (S6 _ _ (S5 _ _ e0))
    ·rw[h7,yt]
     congr 2
     refine iX fun k hk=>?_
     rw[Gn,cM (List.getElem?_eq_getElem hj),cM (List.getElem?_eq_getElem hl)]
     split <;> rfl
   ·obtain⟨o5,o6,rfl,S5,h5⟩:=(hPw _ _ _).mp pw
    refine (hPv _ _ _).mpr ⟨_,_,_,_,rfl,S5,?_⟩
    rw[h5,List.length_mapIdx,List.length_map]
    congr 2
    refine iX fun k hk=>?_
    rw[Er fun i hi=>dg hi]
  ·obtain⟨o3,o4,o5,o6,rfl,S3,h3⟩:=(hPv _ _ _).mp pv
   rw[List.length_mapIdx,List.length_map] at h3
   walk_at"vc"
   refine h c H3 L S3 (by rw[h3,sM]) nc (by walk_at"o") (fun _ _=>by walk_at"o") fun k hk=>?_
   have e1:=oq (f:=nz ms) (g:=nz ns) (F:=fun i=>(nz ms i:Rat)) (G:=fun i=>(nz ns i:Rat)) (c:=1) (d:=1) (fun i=>by grind) (fun i=>by grind) ms.length k
   rw[gR (n:=ns.length) (fun i hi=>by rw[dg hi];rfl) ms.length k (by walk_at"o")] at e1
   have e2:((pz (nz ms) (nz ns) ms.length k:Int):Rat)=((0:Int):Rat):=by rw[e1];grind
   exact Rat.intCast_inj.mp e2
def jk(K:W.Frag):Sp:=fun vs H Q _=>∃ (a b:Addr)(fs gs:List (Int × Int)),vs=[.ref a,.ref b]/\aP (vw K H) a fs/\aP (vw K H) b gs/\fs ≠ []/\fs.length<gs.length/\gs.length<=7/\aR fs/\aR gs/\Pb 1110 (cf fs)/\Pb 1110 (cf gs)/\su (cf gs) (cf fs) /\
 ∀ d H' (rs:List (Int × Int)),aC (vw K H) (vw K H')->aP (vw K H') d rs->aR rs->rs.length<=8->(∀ q ∈ rs,Bq 3900000 q)->Q (.ref d) H'
theorem vo(F:et K "inverse" "inverse" gX f fd) (T:ff K mg)(N_:oP P base)(C_cleared:aU P w K mg base "cleared" ["f"] 2 (bC K)) (C_wholes_rests:aU P w K mg base "wholes_rests" ["one", "other"] 3 (fj K)) (C_wholes_multiplied:aU P w K mg base "wholes_multiplied" ["one", "other"] 1 (bA K)) (C_divided:aU P w K mg base "divided" ["wholes", "bottom"] 3 (da K)):bU P w K mg base el 4 f fd ["f", "g"] (jk K):=by
 have scN:=pE.nd
 refine F.okQ pE (fun vs H Q E h=>?_) (fun cdv A outer s H vs Q E hr h=>?_)
 ·obtain⟨_,_,_,_,rfl,_⟩:=h
  rfl
 ·obtain⟨a,b,fs,gs,rfl,ha,hb,f0,lfg,lg7,pf,pg,bf,bg,ns',h⟩:=h
  refine⟨_,(af (cY (ai C_cleared (hr.mono (by walk_at"a2")) rfl (aa (qv 0) ac)) (bJ (n:=2) rfl (ar (ak (i:=2) scN rfl (by walk_at"a1")) (ar (ak (i:=3) scN rfl (by walk_at"a1")) bI))))
   (af (we (i:=4) (j:=5) (k:=6) rfl scN rfl rfl rfl (by decide) (by decide) (by decide) rfl rfl rfl (aa (aM ac) (aa (aM (aa ae ac)) (aa (qv 2) ac))) rfl)
   (af (cO PassesOwn.never rfl (cJ (ai C_wholes_rests (hr.mono (by walk_at"a2")) rfl (aa (ay cg (ai C_cleared (hr.mono (by walk_at"a2")) rfl (aa (qv 1) ac)) ae (fun _ _=>rfl)) (aa (qv 2) ac)))) (bJ (n:=4) rfl (ar (ak (i:=7) scN rfl (by walk_at"a1")) (ar (ak (i:=8) scN rfl (by walk_at"a1")) (ar (ak (i:=9) scN rfl (by walk_at"a1")) (ar (ak (i:=10) scN rfl (by walk_at"a1")) bI))))) (af (mh (i:=11) (own:=["whole"]) (outs:=[]) (ixs:=[]) scN rfl (by walk_at"a1") rfl (cJ (ai C_wholes_multiplied (hr.mono (by walk_at"a2")) rfl (aa (qv 8) (aa (qv 5) ac)))) rfl ⟨rfl,rfl,rfl,trivial,rfl,trivial⟩ (fun _ _ _ _=>⟨(ak (i:=0) (show (["whole"]:List Str).Nodup by decide +kernel) rfl (by walk_at"a1")),cS,(cG bO (qv 0))⟩))
   (af (cO PassesOwn.never rfl (jS rfl T.b_enumerate (aa (qv 4) ac)) (bJ (n:=2) rfl (ar (ak (i:=12) scN rfl (by walk_at"a1")) (ar (ak (i:=13) scN rfl (by walk_at"a1")) bI))) (ah (lV (qv 11) (qv 12) iY (ao aS (qv 10) (qv 13)) uZ dX)))
   (ah (we (i:=4) (j:=5) (k:=6) rfl scN rfl rfl rfl (by decide) (by decide) (by decide) rfl rfl rfl (aa (qv 5) (aa (cL (own:=["whole"]) (outs:=["top"]) (ixs:=[9]) rfl (cJ (qv 11)) rfl ⟨rfl,rfl,rfl,⟨rfl,trivial⟩,rfl,⟨⟨rfl,rfl,rfl,_,rfl⟩,trivial⟩⟩ (fun _ _ _ _=>⟨(ak (i:=0) (show (["whole", "top"]:List Str).Nodup by decide +kernel) rfl (by walk_at"a1")),cS,(ao (tE N_ hr rfl rfl rfl rfl rfl) (qv 0) (qv 1))⟩)) (aa (qv 7) ac))) rfl)))))
   (ah (aq (ai C_divided (hr.mono (by walk_at"a2")) rfl (aa (cL (own:=["whole"]) (outs:=["bottom"]) (ixs:=[3]) rfl (cJ (qv 5)) rfl ⟨rfl,rfl,rfl,⟨rfl,trivial⟩,rfl,⟨⟨rfl,rfl,rfl,_,rfl⟩,trivial⟩⟩ (fun _ _ _ _=>⟨(ak (i:=0) (show (["whole", "bottom"]:List Str).Nodup by decide +kernel) rfl (by walk_at"a1")),cS,(ao (show fb _ _ (gO K) from aS) (qv 0) (qv 1))⟩)) (aa (ay cZ (qv 6) ae (fun _ _=>rfl)) ac)))))))),?_⟩
  walk_at"m"
  skip
  refine aW.gen fun N1 hN1=>?_
  walk_at"vc"
  simp only[bC]
  refine⟨a,fs,1110,rfl,ha,by walk_at"o",by decide,fun q hq=>⟨pf.1 q hq,bf.bq pf.1 q hq⟩,fun p1 b1 H1 D ns S1 h1 hb1 nb1 hD bD ln hn hm=>⟨_,rfl,_,h1,rfl,_,_,rfl,_,_,rfl,rfl,hN1 _ _ ?_⟩⟩
  have cl1:=iu bf pf.1 hD hm ln fun i n q e1 e2=>(hn i n q e1 e2).1
  refine aW.gen fun N2 hN2=>?_
  walk_at"vc"
  simp only[zO]
  walk_at"vc"
  refine⟨by decide,fun fo H2 hfo S2 h2=>⟨by decide,fun la H3 hla S3 h3=>hN2 _ _ ?_⟩⟩
  refine aW.gen fun N3 hN3=>?_
  have S23:=S2.trans S3
  have S13:=S1.trans S23
  walk_at"vc"
  simp only[bC]
  refine⟨b,gs,1110,rfl,hb.same S13,by walk_at"o",by decide,fun q hq=>⟨pg.1 q hq,bg.bq pg.1 q hq⟩,fun p4 b4 H4 D4 ms S4 h4 hb4 nb4 hD4 bD4 lm hm4 hmm=>?_⟩
  have cl4:=iu bg pg.1 hD4 hmm lm fun i n q e1 e2=>(hm4 i n q e1 e2).1
  refine⟨p4,rfl,_,h4,_,eD,?_⟩
  simp only[fj]
  have lf1:=List.length_pos_iff.mpr f0
  have cA:∀ k,((nz ns k:Int):Rat)=cf fs k*(D:Rat):=fS ln fun i n q e1 e2=>(hn i n q e1 e2).1
  have cB:∀ k,((nz ms k:Int):Rat)=cf gs k*(D4:Rat):=fS lm fun i n q e1 e2=>(hm4 i n q e1 e2).1
  have cD:(D:Rat) ≠ 0:=aD (by walk_at"o")
  have cD4:(D4:Rat) ≠ 0:=aD (by walk_at"o")
  have nA:nz ns (ns.length - 1) ≠ 0:=fun z=>by
   have e:=cA (ns.length - 1)
   have p:=g6 pf f0
   rw[z,ln,show ((0:Int):Rat)=0 from rfl] at e
   grind
  have nB:nz ms (ms.length - 1) ≠ 0:=fun z=>by
   have e:=cB (ms.length - 1)
   have p:=g6 pg (fun z=>by rw[z] at lfg;simp at lfg)
   rw[z,lm,show ((0:Int):Rat)=0 from rfl] at e
   grind
  have ns0:ns ≠ []:=fun z=>by rw[z] at ln;simp at ln;walk_at"o"
  have ms0:ms ≠ []:=fun z=>by rw[z] at lm;simp at lm;walk_at"o"
  refine⟨b4,b1,ms,ns,rfl,hb4,(S23.trans S4) _ _ hb1,ms0,by walk_at"o",⟨by walk_at"o",cl4.2,fun _=>nB⟩,⟨by walk_at"o",cl1.2,fun _=>nA⟩,fun d5 H5 tv rows S5 h5 rr rsq lr rb=>⟨d5,rfl,⟨_,.of (aN h5)⟩,?_⟩⟩
  have few:=rsq.few
  have S25:=S4.trans S5
  obtain⟨Pv,hPv⟩ : ∃ Pv:Nat->St->Hp->Prop,∀ i σ H',Pv i σ H' ↔ ∃ (fo la ls:Addr)(us ws F G:List Int)(o7 o8 o9 o10 o11 o12 o13:Option V),σ=[some (.ref a),some (.ref b),some (.ref b1),some (.int D),some (.ref fo),some (.ref la),some (.ref ls),o7,o8,o9,o10,o11,o12,o13]/\aC (vw K H5) (vw K H')/\vw K H' fo=some (.lst (us.map V.int))/\vw K H' la=some (.lst (ws.map V.int))/\vw K H' ls=some (.lst (G.map V.int))/\uo F G (rows.drop i)/\G ≠ []/\ws.length+F.length=ms.length+1/\us.length<=ws.length/\ws ≠ []/\(∀ x ∈ us,Bt (1+700100*i) x)/\(∀ x ∈ ws,Bt (1+700100*i) x)/\ii G (rows.drop i)=ii ns rows:=⟨_,fun _ _ _=>Iff.rfl⟩
  refine cc (its:=tv) Pv (fun i σ H' _ q=>?_) ((hPv _ _ _).mpr ⟨fo,la,b1,[],[1],ms,ns,_,_,_,_,_,_,_,rfl,.rfl,(S3.trans S25) _ _ h2,S25 _ _ h3,(S23.trans S25) _ _ hb1,rsq,ns0,by simp;walk_at"o",by simp,by simp,by simp,fun x hx=>?_,rfl⟩) (fun i x σ H6 hi hx pv=>?_) (fun σ H6 pv=>hN3 _ _ ?_)
  ·obtain⟨_,_,_,_,_,_,_,_,_,_,_,_,_,_,_,S',_⟩:=(hPv _ _ _).mp q
   exact aX (S' _ _ h5)
  ·cases List.mem_singleton.mp hx
   decide
  ·obtain⟨fo,la,ls,us,ws,F,G,o7,o8,o9,o10,o11,o12,o13,rfl,S6,hfo,hla,hls,rq,G0,lw,luw,w0,bu,bw,elast⟩:=(hPv _ _ _).mp pv
   have hir:i<rows.length:=by rw[<- rr.1];exact hi
   have lO:rows[i]? = some rows[i]:=List.getElem?_eq_getElem hir
   obtain⟨p',ra,qa,t1,t2,t3,t4,_,_⟩:=rr.2 i _ lO
   obtain⟨_,_,bT,bS,q9,q1,bq⟩:=rb _ (List.getElem_mem hir)
   rw[List.drop_eq_getElem_cons hir] at rq elast
   obtain⟨R,Qw,Tt,Ss,erow⟩ : ∃ R Qw Tt Ss,rows[i]=(R,Qw,Tt,Ss):=⟨_,_,_,_,rfl⟩
   rw[erow] at rq elast t2 t3 t4 bT bS q9 q1 bq
   rw[t1] at hx
   cases hx
   obtain⟨T0,lq,R0,rq'⟩ : Tt ≠ 0/\Qw.length+G.length=F.length+1/\R ≠ []/\uo G R (rows.drop (i+1)):=by
    cases rq with
    | more _ _ _ h1 h2 _ _ h3 _ h4=>exact⟨h1,h3,h2,h4⟩
   have i5:i<=4:=by walk_at"o"
   replace q1:1<=Qw.length:=q1
   replace q9:Qw.length<=9:=q9
   replace bS:Bt 200000 Ss:=bS
   replace bq:∀ x ∈ Qw,Bt 700000 x:=bq
   have w1:=List.length_pos_iff.mpr w0
   have g1:=List.length_pos_iff.mpr G0
   walk_at"vc"
   refine⟨_,S6 _ _ t2,rfl,_,_,rfl,_,_,rfl,_,_,rfl,_,_,rfl,rfl,?_⟩
   simp only[bA]
   refine⟨qa,la,Qw,ws,700000,1+700100*i,rfl,S6 _ _ t4,hla,by walk_at"o",by walk_at"o",by decide,by walk_at"o",bq,bw,fun c7 H7 L S7 h7 n7 lL eL zL=>?_⟩
   have eL':=eL (fun z=>by rw[z] at q1;simp at q1) w0
   obtain⟨ys,hys⟩ : ∃ ys,ys=lz L (pz (nz Qw) (nz ws) Qw.length):=⟨_,rfl⟩
   rw[<- hys] at h7
   have lys:ys.length=L:=by rw[hys,bH]
   have S67:=S6.trans S7
   refine⟨c7,rfl,⟨_,.of (aN h7)⟩,fun c8 H8 hc8 S8 h8=>?_⟩
   refine aY (its:=ys.map V.int) (fun j zs H'=>aC (vw K H7) (vw K H')/\zs=(ys.take j).map fun y=>V.int (-y)) (fun j zs H' _ _ z=>aX (z.1 _ _ h7)) h8 ⟨S8,rfl⟩ (fun j y zs H' hj hy h' z=>?_) (fun zs H9 h9 z=>?_)
   ·obtain⟨z1,rfl⟩:=z
    rw[List.length_map] at hj
    rw[List.getElem?_map,List.getElem?_eq_getElem hj] at hy
    cases hy
    walk_at"vc"
    refine .mk h' ?_ fun H10 B10 h10=>⟨fun x o e=>B10 _ _ (aj e hc8) (z1 _ _ e),?_⟩
    ·rw[List.length_map,List.length_take]
     have:1000<=sizeLine:=by decide
     walk_at"o"
    ·rw[List.take_add_one,List.getElem?_eq_getElem hj,List.map_append]
     rfl
   obtain⟨S79,rfl⟩:=z
   rw[List.length_map,List.take_length] at h9
   have by0:∀ (k:Nat)(x:Int),(ys.map fun y=>-y)[k]? = some x->Bt (700011+700100*i) x:=fun k x e=>by
    rw[List.getElem?_map] at e
    cases e2:ys[k]? with
    | none=>rw[e2] at e;cases e
    | some y =>
     rw[e2] at e
     cases e
     have bz:=wb (jz bq) (jz bw) Qw.length k
     have ey:nz ys k=pz (nz Qw) (nz ws) Qw.length k:=by rw[hys,xu (by rw[<- lys];exact (List.getElem?_eq_some_iff.mp e2).1)]
     rw[<- ey,cM e2] at bz
     have bz':Bt (700011+700100*i) y:=bz.mono (by walk_at"o")
     unfold Bt at bz' ⊢
     rw[Int.natAbs_neg]
     exact bz'
   simp only[ny]
   walk_at"vc"
   refine⟨⟨_,S79 _ _ (S7 _ _ hfo)⟩,?_⟩
   obtain⟨Pw,hPw⟩ : ∃ Pw:Nat->St->Hp->Prop,∀ j σ H',Pw j σ H' ↔ ∃ (o12 o13:Option V)(zs:List Int),σ=[some (.ref a),some (.ref b),some (.ref b1),some (.int D),some (.ref fo),some (.ref la),some (.ref ls),some (.ref ra),some (.ref qa),some (.int Tt),some (.int Ss),some (.ref c8),o12,o13]/\aC (vw K H7) (vw K H')/\vw K H' c8=some (.lst (zs.map V.int))/\zs.length=L/\(∀ (k:Nat)(x:Int),zs[k]? = some x->Bt (700012+700100*i) x) /\ ∀ (k:Nat)(x:Int),j<=k->zs[k]? = some x->Bt (700011+700100*i) x:=⟨_,fun _ _ _=>Iff.rfl⟩
   refine jI (rows:=(us.map V.int).mapIdx fun i x=>[V.int i,x]) Pw (fun l σ H' _ p=>?_) ((hPw _ _ _).mpr ⟨_,_,ys.map fun y=>-y,rfl,S79,by rw[List.map_map];exact h9,by rw[List.length_map];exact lys,fun k x e=>(by0 k x e).mono (by walk_at"o"),fun k x _ e=>by0 k x e⟩) (fun l t σ H10 p10 H11 hl ht pw hp10 S11 h11=>?_) (fun σ H10 pw=>?_)
   ·obtain⟨_,_,_,_,S',_⟩:=(hPw _ _ _).mp p
    exact⟨_,aN (S' _ _ (S7 _ _ hfo)),rfl⟩
   ·obtain⟨o12,o13,zs,rfl,S10,h10,lzs,bz,bz2⟩:=(hPw _ _ _).mp pw
    rw[List.length_mapIdx,List.length_map] at hl
    rw[List.getElem?_mapIdx,List.getElem?_map,List.getElem?_eq_getElem hl] at ht
    cases ht
    have hlz:l<zs.length:=by walk_at"o"
    walk_at"vc"
    refine⟨_,h11,rfl,?_⟩
    walk_at"vc"
    simp only[pV,Fb]
    walk_at"vc"
    have hx:=S11 _ _ h10
    have b1':=bu us[l] (List.getElem_mem hl)
    have b2':=bz2 l zs[l] (Nat.le_refl _) (List.getElem?_eq_getElem hlz)
    refine⟨_,hx,_,ck (by rw[List.getElem?_map,List.getElem?_eq_getElem hlz];rfl),cp bS b1' (by walk_at"o"),_,rfl,_,hx,l,by rw[List.length_map];exact jm hlz,fun H12 B12 h12=>(hPw _ _ _).mpr ⟨_,_,zs.set l (zs[l]+Ss*us[l]),rfl,?_,?_,by rw[List.length_set];exact lzs,fun k x e=>?_,fun k x hk e=>?_⟩⟩
    ·exact fun x o e0=>B12 _ _ (aj e0 hc8) (S11 _ _ (S10 _ _ e0))
    ·rw[h12,List.map_set]
    ·rw[List.getElem?_set] at e
     split at e
     ·first|cases e|(split at e <;> cases e)
      exact (b2'.add ((bS.mul b1').mono (n:=700011+700100*i) (by walk_at"o"))).mono (by walk_at"o")
     ·exact bz k x e
    ·rw[List.getElem?_set_ne (by walk_at"o")] at e
     exact bz2 k x (by walk_at"o") e
   ·obtain⟨o12,o13,zs,rfl,S10,h10,lzs,bz,bz2⟩:=(hPw _ _ _).mp pw
    simp only[zO]
    walk_at"vc"
    refine⟨⟨_,.of (aN h10)⟩,fun d12 H12 hd12 S12 h12=>?_⟩
    refine aY (its:=zs.map V.int) (fun j vs H'=>aC (vw K H10) (vw K H')/\vs=((zs.take j).map fun y=>y.fdiv Tt).map V.int) (fun j vs H' _ _ z=>aX (z.1 _ _ h10)) h12 ⟨S12,rfl⟩ (fun j y vs H' hj hy h' z=>?_) (fun vs H13 h13 z=>?_)
    ·obtain⟨z1,rfl⟩:=z
     rw[List.length_map] at hj
     rw[List.getElem?_map,List.getElem?_eq_getElem hj] at hy
     cases hy
     walk_at"vc"
     refine⟨T0,.mk h' ?_ fun H14 B14 h14=>⟨fun x o e=>B14 _ _ (aj e hd12) (z1 _ _ e),?_⟩⟩
     ·rw[List.length_map,List.length_map,List.length_take]
      have:1000<=sizeLine:=by decide
      walk_at"o"
     ·rw[List.take_add_one,List.getElem?_eq_getElem hj,List.map_append,List.map_append]
      rfl
    ·obtain⟨S13',rfl⟩:=z
     rw[List.length_map,List.take_length] at h13
     have S713:=S10.trans S13'
     have S613:=S7.trans S713
     refine (hPv _ _ _).mpr ⟨la,d12,ra,ws,zs.map fun y=>y.fdiv Tt,G,R,_,_,_,_,_,_,_,rfl,S6.trans S613,S613 _ _ hla,h13,(S6.trans S613) _ _ t3,rq',R0,by rw[List.length_map];walk_at"o",by rw[List.length_map];walk_at"o",fun z=>?_,fun x hx=>(bw x hx).mono (by walk_at"o"),fun x hx=>?_,elast⟩
     ·have:=congrArg List.length z
      rw[List.length_map,lzs] at this
      simp at this
      walk_at"o"
     ·obtain⟨y,hy,rfl⟩:=List.mem_map.mp hx
      obtain⟨k,hk⟩:=List.getElem?_of_mem hy
      exact ((bz k y hk).fdv Tt).mono (by walk_at"o")
  ·obtain⟨fo,la,ls,us,ws,F,G,o7,o8,o9,o10,o11,o12,o13,rfl,S6,hfo,hla,hls,rq,G0,lw,luw,w0,bu,bw,elast⟩:=(hPv _ _ _).mp pv
   rw[rr.1,List.drop_length] at rq elast
   rw[rr.1] at bw
   have r5:rows.length<=5:=by walk_at"o"
   obtain⟨x,ex,x0⟩:=rsq.one (f:=cf gs) (g:=cf fs) (c:=1 / (D4:Rat)) (d:=1 / (D:Rat)) ns0 (by walk_at"o") (by walk_at"o") (fun k=>by show _=_*((nz ms k:Int):Rat);rw[cB];grind) (fun k=>by show _=_*((nz ns k:Int):Rat);rw[cA];grind) ns'
   have eG:G=[x]:=by rw[<- ex,<- elast];rfl
   subst eG
   have bx:Bt 17840 x:=by
    rcases yh ns rows with z|⟨row,lO,z⟩
    ·rw[ex] at z
     exact (cl1.2 x (by rw[<- z];simp)).mono (by decide)
    ·rw[ex] at z
     exact (rb row lO).2.1 x (by rw[<- z];simp)
   have S56:=S25.trans S6
   walk_at"vc"
   refine⟨⟨_,.of (aN hla)⟩,fun d7 H7 hd7 S7 h7=>?_⟩
   refine aY (its:=ws.map V.int) (fun j vs H'=>aC (vw K H6) (vw K H')/\vs=((ws.take j).map fun y=>y*D).map V.int) (fun j vs H' _ _ z=>aX (z.1 _ _ hla)) h7 ⟨S7,rfl⟩ (fun j y vs H' hj hy h' z=>?_) (fun vs H8 h8 z=>?_)
   ·obtain⟨z1,rfl⟩:=z
    rw[List.length_map] at hj
    rw[List.getElem?_map,List.getElem?_eq_getElem hj] at hy
    cases hy
    walk_at"vc"
    refine⟨cp (bw _ (List.getElem_mem hj)) cl1.1 (by walk_at"o"),.mk h' ?_ fun H14 B14 h14=>⟨fun x o e=>B14 _ _ (aj e hd7) (z1 _ _ e),?_⟩⟩
    ·rw[List.length_map,List.length_map,List.length_take]
     have:1000<=sizeLine:=by decide
     walk_at"o"
    ·rw[List.take_add_one,List.getElem?_eq_getElem hj,List.map_append,List.map_append]
     rfl
   ·obtain⟨S8,rfl⟩:=z
    rw[List.length_map,List.take_length] at h8
    refine⟨_,S8 _ _ hls,_,rfl,?_⟩
    simp only[da]
    refine⟨d7,ws.map fun y=>y*D,x,rfl,h8,by rw[List.length_map];walk_at"o",x0,bx.mono (by walk_at"o"),fun c9 H9 rs S9 l9 n9 p9 c9' e9 q9=>h c9 H9 rs (S13.trans (S56.trans (S8.trans S9))) l9 p9 (by rw[List.length_map] at e9;walk_at"o") fun q hq=>?_⟩
    obtain⟨n,hn',rfl⟩:=q9 q hq
    obtain⟨y,hy,rfl⟩:=List.mem_map.mp hn'
    exact nL x0 (((bw y hy).mul cl1.1).mono (by walk_at"o")) (bx.mono (by walk_at"o"))
theorem uN{qs:List (Int × Int)}{ns:List Int}{D:Int}(p:aR qs)(q0:qs ≠ [])(ln:ns.length=qs.length)(hD:0<D)(c:∀ k,((nz ns k:Int):Rat)=cf qs k*(D:Rat)):nz ns (ns.length - 1) ≠ 0:=fun z=>by
 have e:=c (ns.length - 1)
 have p:=g6 p q0
 have cD:(D:Rat) ≠ 0:=aD (by walk_at"o")
 rw[z,ln,show ((0:Int):Rat)=0 from rfl] at e
 grind
def fz(K:W.Frag):Sp:=fun vs H Q _=>∃ (a b c:Addr)(fs gs os:List (Int × Int)),vs=[.ref a,.ref b,.ref c]/\aP (vw K H) a fs/\aP (vw K H) b gs/\aP (vw K H) c os/\fs.length<=6/\gs.length<=8/\os ≠ []/\os.length<=7/\aR os/\Pb 1110 (cf os)/\(∀ q ∈ fs,Fq q/\Bq 5000 q)/\(∀ q ∈ gs,Fq q/\Bq 3900000 q) /\
 ∀ d H' (rs:List (Int × Int)),aC (vw K H) (vw K H')->aP (vw K H') d rs->vw K H d=none->aR rs->rs.length<os.length->Q (.ref d) H'
theorem nW(F:et K "product_rest" "product_rest" dI f fd) (T:ff K mg)(C_cleared:aU P w K mg base "cleared" ["f"] 2 (bC K)) (C_wholes_multiplied:aU P w K mg base "wholes_multiplied" ["one", "other"] 1 (bA K)) (C_wholes_parted:aU P w K mg base "wholes_parted" ["one", "other"] 2 (cU K)) (C_divided:aU P w K mg base "divided" ["wholes", "bottom"] 3 (da K)):bU P w K mg base el 4 f fd ["f", "g", "other"] (fz K):=by
 have scN:=jq.nd
 refine F.okQ jq (fun vs H Q E h=>?_) (fun cdv A outer s H vs Q E hr h=>?_)
 ·obtain⟨_,_,_,_,_,_,rfl,_⟩:=h
  rfl
 ·obtain⟨a,b,c,fs,gs,os,rfl,ha,hb,hc,lf,lg',o0,lo',po,bo,hf,hg,h⟩:=h
  refine⟨_,(af (cY (ai C_cleared (hr.mono (by walk_at"a2")) rfl (aa (qv 0) ac)) (bJ (n:=2) rfl (ar (ak (i:=3) scN rfl (by walk_at"a1")) (ar (ak (i:=4) scN rfl (by walk_at"a1")) bI))))
   (af (cY (ai C_cleared (hr.mono (by walk_at"a2")) rfl (aa (qv 1) ac)) (bJ (n:=2) rfl (ar (ak (i:=5) scN rfl (by walk_at"a1")) (ar (ak (i:=6) scN rfl (by walk_at"a1")) bI))))
   (af (cY (ci dP (ai C_wholes_parted (hr.mono (by walk_at"a2")) rfl (aa (ai C_wholes_multiplied (hr.mono (by walk_at"a2")) rfl (aa (qv 3) (aa (qv 5) ac))) (aa (ay cg (ai C_cleared (hr.mono (by walk_at"a2")) rfl (aa (qv 2) ac)) ae (fun _ _=>rfl)) ac))) (cC ae) cy) (bJ (n:=2) rfl (ar (ak (i:=7) scN rfl (by walk_at"a1")) (ar (ak (i:=8) scN rfl (by walk_at"a1")) bI))))
   (ah (aq (ai C_divided (hr.mono (by walk_at"a2")) rfl (aa (qv 7) (aa (ao aS (ao aS (qv 4) (qv 6)) (qv 8)) ac)))))))),?_⟩
  walk_at"m"
  skip
  refine aW.gen fun N1 hN1=>?_
  walk_at"vc"
  simp only[bC]
  refine⟨a,fs,5000,rfl,ha,by walk_at"o",by decide,hf,fun p1 b1 H1 D1 ms S1 h1 hb1 nb1 hD1 bD1 lm hm _=>⟨_,rfl,_,h1,rfl,_,_,rfl,_,_,rfl,rfl,hN1 _ _ ?_⟩⟩
  refine aW.gen fun N2 hN2=>?_
  walk_at"vc"
  simp only[bC]
  refine⟨b,gs,3900000,rfl,hb.same S1,by walk_at"o",by decide,hg,fun p2 b2 H2 D2 ns S2 h2 hb2 nb2 hD2 bD2 ln hn _=>⟨_,rfl,_,h2,rfl,_,_,rfl,_,_,rfl,rfl,hN2 _ _ ?_⟩⟩
  have S02:=S1.trans S2
  have bm:∀ x ∈ ms,Bt 40000 x:=fun x hx=>by
   obtain⟨i,hi⟩:=List.mem_iff_getElem?.mp hx
   have hil:=(List.getElem?_eq_some_iff.mp hi).1
   exact (hm i x _ hi (List.getElem?_eq_getElem (show i<fs.length by walk_at"o"))).2.mono (by walk_at"o")
  have bn:∀ x ∈ ns,Bt 35200000 x:=fun x hx=>by
   obtain⟨i,hi⟩:=List.mem_iff_getElem?.mp hx
   have hil:=(List.getElem?_eq_some_iff.mp hi).1
   exact (hn i x _ hi (List.getElem?_eq_getElem (show i<gs.length by walk_at"o"))).2.mono (by walk_at"o")
  refine aW.gen fun N3 hN3=>?_
  walk_at"vc"
  simp only[bA]
  refine⟨b1,b2,ms,ns,40000,35200000,rfl,S2 _ _ hb1,hb2,by walk_at"o",by walk_at"o",by decide,by decide,bm,bn,fun c3 H3 L S3 h3 n3 lL eL zL=>?_⟩
  simp only[bC]
  have S03:=S02.trans S3
  refine⟨c,os,1110,rfl,hc.same S03,by walk_at"o",by decide,fun q hq=>⟨po.1 q hq,bo.bq po.1 q hq⟩,fun p4 b4 H4 D4 us S4 h4 hb4 nb4 hD4 bD4 lu hu hmm=>?_⟩
  have cl4:=iu bo po.1 hD4 hmm lu fun i n q e1 e2=>(hu i n q e1 e2).1
  refine⟨p4,rfl,_,h4,_,eD,?_⟩
  simp only[cU]
  have l0:=List.length_pos_iff.mpr o0
  have nU:=uN po o0 lu hD4 (fS lu fun i n q e1 e2=>(hu i n q e1 e2).1)
  obtain⟨ys,hys⟩ : ∃ ys,ys=lz L (pz (nz ms) (nz ns) ms.length):=⟨_,rfl⟩
  rw[<- hys] at h3
  have lys:ys.length=L:=by rw[hys,bH]
  have bys:∀ x ∈ ys,Bt 35240100 x:=fun x hx=>by
   obtain⟨k,hk⟩:=List.getElem?_of_mem hx
   have bz:=wb (jz bm) (jz bn) ms.length k
   have ey:nz ys k=pz (nz ms) (nz ns) ms.length k:=by rw[hys,xu (by rw[<- lys];exact (List.getElem?_eq_some_iff.mp hk).1)]
   rw[<- ey,cM hk] at bz
   exact bz.mono (by walk_at"o")
  refine⟨c3,b4,ys,us,35240100,1110,rfl,S4 _ _ h3,hb4,by walk_at"o",nU,by walk_at"o",by walk_at"o",by decide,by decide,bys,cl4.2,fun p5 qa ra S qs rs H5 S5 h5 hqa hra nra lq lr hSe bS bq br lrz ev=>?_⟩
  simp only[ie]
  have e5:gv [V.ref qa,V.ref ra,V.int S] (some 1) none=[V.ref ra,V.int S]:=rfl
  refine⟨p5,rfl,_,h5,(fun z=>absurd z.1 (show ¬ HT.sIx 3 0 (some 1)=0 by decide)),fun p6 H6 hp6 S6 h6=>?_⟩
  rw[e5] at h6
  refine⟨p6,rfl,_,h6,rfl,_,_,rfl,_,_,rfl,rfl,hN3 _ _ ?_⟩
  have S0:S ≠ 0:=by
   obtain⟨e,_,z⟩:=hSe
   rw[z]
   exact Int.pow_ne_zero nU
  have S05:=S03.trans (S4.trans S5)
  have bDD:=bD1.mul bD2
  walk_at"vc"
  simp only[da]
  have S06:=S05.trans S6
  have nz':D1*D2*S ≠ 0:=Int.mul_ne_zero (Int.mul_ne_zero (by walk_at"o") (by walk_at"o")) S0
  exact⟨cp bD1 bD2 (by walk_at"o"),cp bDD bS (by walk_at"o"),ra,rs,_,rfl,S6 _ _ hra,by walk_at"o",nz',(bDD.mul bS).mono (by walk_at"o"),fun c7 H7 ts S7 l7 n7 p7 _ e7 _=>h c7 H7 ts (S06.trans S7) l7 (S06.none n7) p7 (by walk_at"o")⟩
def gj(K:W.Frag):Sp:=fun vs H Q _=>∃ (a b:Addr)(us rs:List (Int × Int)),vs=[.ref a,.ref b]/\aP (vw K H) a us/\aP (vw K H) b rs/\us.length<=6/\rs ≠ []/\rs.length<=7/\aR rs/\Pb 1100 (cf rs)/\(∀ q ∈ us,Fq q/\Bq 5000 q)/\(2<=rs.length->su (cf rs) (DF (cf rs))) /\
 ∀ d H' (ws:List (Int × Int)),aC (vw K H) (vw K H')->aP (vw K H') d ws->aR ws->Q (.ref d) H'
theorem qc(F:et K "weights_by" "weights_by" eH f fd) (T:ff K mg)(C_product_rest:aU P w K mg base "product_rest" ["f", "g", "other"] 4 (fz K)) (C_inverse:aU P w K mg base "inverse" ["f", "g"] 4 (jk K)) (C_slope:aU P w K mg base "slope" ["f"] 4 (lH K)):bU P w K mg base el 5 f fd ["above", "roots"] (gj K):=by
 have scN:=kH.nd
 refine F.okQ kH (fun vs H Q E h=>?_) (fun cdv A outer s H vs Q E hr h=>?_)
 ·obtain⟨_,_,_,_,rfl,_⟩:=h
  rfl
 ·obtain⟨a,b,us,rs,rfl,ha,hb,lu,r0,lr,pr',br,hu,ns,h⟩:=h
  refine⟨_,(af (cj (aL fW (am av (by rfl) T.b_len aQ (aa (qv 1) ac)) ae (aI _)) (ah (aq (aM ac))) aO)
   (ah (aq (ai C_product_rest (hr.mono (by walk_at"a2")) rfl (aa (qv 0) (aa (ai C_inverse (hr.mono (by walk_at"a2")) rfl (aa (ai C_slope (hr.mono (by walk_at"a2")) rfl (aa (qv 1) ac)) (aa (qv 1) ac))) (aa (qv 1) ac))))))),?_⟩
  walk_at"m"
  skip
  have l0:=List.length_pos_iff.mpr r0
  refine aW.gen fun N1 hN1=>?_
  walk_at"vc"
  refine⟨_,hb.len,?_⟩
  refine bY (fun e=>⟨by decide,fun d H1 hd S1 h1=>h d H1 [] S1 ⟨[],h1,.mk_nil⟩ ⟨by simp,by simp⟩⟩) (fun e=>hN1 _ _ ?_)
  have l2:2<=rs.length:=by walk_at"o"
  walk_at"vc"
  simp only[lH]
  refine⟨b,rs,rfl,hb,by walk_at"o",fun q hq=>⟨pr'.1 q hq,(br.bq pr'.1 q hq).mono (by decide)⟩,pr',fun d1 H1 ss S1 l1 n1 p1 c1 ls=>?_⟩
  simp only[jk]
  have bs:Pb 1110 (cf ss):=(Pb.slope br (by walk_at"o") c1).mono (by decide)
  refine⟨d1,b,ss,rs,rfl,l1,hb.same S1,fun z=>by rw[z] at ls;simp at ls;walk_at"o",by walk_at"o",by walk_at"o",p1,pr',bs,br.mono (by decide),?_,fun d2 H2 is S2 l2' p2 li bi=>?_⟩
  ·have e:cf ss=DF (cf rs):=funext c1
   rw[e]
   exact ns l2
  simp only[fz]
  have S12:=S1.trans S2
  exact⟨a,d2,b,us,is,rs,rfl,ha.same S12,l2',hb.same S12,lu,li,r0,lr,pr',br.mono (by decide),hu,fun q hq=>⟨p2.1 q hq,bi q hq⟩,fun d3 H3 ws S3 l3 _ p3 _=>h d3 H3 ws (S12.trans S3) l3 p3⟩
def hJ(K:W.Frag):Sp:=fun vs H Q _=>∃ a b:Int,vs=[.int a,.int b]/\Q (.int (Int.gcd a b)) H
theorem yj(F:et K "_law_divisor" "_law_divisor" g9 f fd) (T:ff K mg):bU P w K mg base el 1 f fd ["_law_one", "_law_other"] (hJ K):=by
 have scN:=qW.nd
 refine F.okQ qW (fun vs H Q E h=>?_) (fun cdv A outer s H vs Q E hr h=>?_)
 ·obtain⟨a,b,rfl,_⟩:=h
  rfl
 ·obtain⟨a,b,rfl,h⟩:=h
  refine⟨_,(af (ir PassesOwn.never (aL pM (qv 1) ae (aI _)) (ah (oF (i:=0) (j:=1) rfl scN rfl rfl (by decide) rfl rfl (aa (qv 1) (aa (ao gL (qv 0) (qv 1)) ac)) rfl)))
   (ah (aq (am oY (by rfl) T.b_abs vg (aa (qv 0) ac))))),?_⟩
  walk_at"m"
  walk_at"vc"
  refine⟨fun m σ H'=>H'=H /\ ∃ x y:Int,σ=[some (.int x),some (.int y)]/\Int.gcd x y=Int.gcd a b/\m=y.natAbs,⟨_,rfl,_,_,rfl,rfl,rfl⟩,?_⟩
  rintro m σ H' ⟨rfl,x,y,rfl,hg,rfl⟩
  walk_at"vc"
  refine bY (fun hy0=>?_) (fun hy0=>?_)
  ·refine⟨_,fun σ' H' h=>h,?_⟩
   walk_at"vc"
   exact⟨hy0,_,wK x hy0,by rw[ua,hg],rfl⟩
  ·walk_at"vc"
   have e:((Int.gcd a b:Nat):Int)=if x<0 then -x else x:=by
    rw[<- hg,show y=0 by walk_at"o"]
    simp
    split <;> walk_at"o"
   rw[<- e]
   exact h
def jr(K:W.Frag):Sp:=fun vs H Q _=>∃ a b:Int,vs=[.int a,.int b]/\b ≠ 0/\b.natAbs<2 ^ 4000000 /\ ∀ v H',aC (vw K H) (vw K H')->aF (vw K H') (fr (lo a b)) v->Q v H'
theorem FV(F:et K "_law_low" "_law_low" qS f fd) (T:ff K mg)(N_:oP P base)(zCdivisor:aU P w K mg base "_law_divisor" ["_law_one", "_law_other"] 1 (hJ K)):bU P w K mg base el 2 f fd ["_law_top", "_law_bottom"] (jr K):=by
 have scN:=Dh.nd
 refine F.okQ Dh (fun vs H Q E h=>?_) (fun cdv A outer s H vs Q E hr h=>?_)
 ·obtain⟨a,b,rfl,_⟩:=h
  rfl
 ·obtain⟨a,b,rfl,hb,hbb,h⟩:=h
  refine⟨_,(af (aE (i:=2) scN rfl (by walk_at"a1") (ai zCdivisor (hr.mono (by walk_at"a2")) rfl (aa (qv 0) (aa (qv 1) ac))))
   (af (cj (aL kF (qv 1) ae (aI _)) (ah (aE (i:=2) scN rfl (by walk_at"a1") (ao cX ae (qv 2)))) aO)
   (ah (aq (aH (aa (ao (iy N_ hr rfl rfl rfl) (qv 0) (qv 2)) (aa (ao (iy N_ hr rfl rfl rfl) (qv 1) (qv 2)) ac))))))),?_⟩
  walk_at"m"
  walk_at"vc"
  simp only[hJ]
  walk_at"vc"
  have hgn:Int.gcd a b ≠ 0:=fun e=>hb (Int.gcd_eq_zero_iff.mp e).2
  have e1:lg a b=if b<0 then 0 - (Int.gcd a b:Int) else (Int.gcd a b:Int):=by
   unfold lg
   split <;> walk_at"o"
  have d1:xZ a (0 - (Int.gcd a b:Int)):=by unfold xZ;walk_at"o"
  have d2:xZ a (Int.gcd a b:Int):=by unfold xZ;walk_at"o"
  refine bY (fun hn=>?_) (fun hn=>?_)
  ·rw[if_pos hn] at e1
   refine⟨d1,d1,by decide,fun p H2 hp S hp2=>?_⟩
   refine h _ H2 S ?_
   rw[<- e1] at hp2
   simp only[fr,lo,aF,aG]
   exact⟨p,_,rfl,hp2,_,_,rfl,rfl,_,_,rfl,rfl,rfl⟩
  ·rw[if_neg hn] at e1
   refine⟨d2,d2,by decide,fun p H2 hp S hp2=>?_⟩
   refine h _ H2 S ?_
   rw[<- e1] at hp2
   simp only[fr,lo,aF,aG]
   exact⟨p,_,rfl,hp2,_,_,rfl,rfl,_,_,rfl,rfl,rfl⟩
def kh(K:W.Frag):Sp:=fun vs H Q _=>∃ (a:Addr)(ns:List Int)(k:Nat),vs=[.ref a,.int k]/\kB K H a (ns.map V.int) /\ ∀ x:Int,Q (.int x) H
theorem xM(F:et K "_law_cell_at" "_law_cell_at" gY f fd) (T:ff K mg):bU P w K mg base el 1 f fd ["_law_script", "_law_k"] (kh K):=by
 have scN:=qO.nd
 refine F.okQ qO (fun vs H Q E h=>?_) (fun cdv A outer s H vs Q E hr h=>?_)
 ·obtain⟨a,ns,k,rfl,_⟩:=h
  rfl
 ·obtain⟨a,ns,k,rfl,hS,h⟩:=h
  refine⟨_,(af (cj (aL kF (qv 1) (am jj (by rfl) T.b_len aQ (aa (qv 0) ac)) (aI _)) (ah (aq (ay vK (qv 0) (qv 1) (fun _ _=>rfl)))) aO)
   (ah (aq ae))),?_⟩
  walk_at"m"
  walk_at"vc"
  refine⟨_,.inl hS.sq,bY (fun hk=>?_) (fun hk=>h 0)⟩
  simp only[List.length_map] at hk
  have hk':k<ns.length:=by walk_at"o"
  exact⟨_,hS.sq,_,ck (by rw[List.getElem?_map,List.getElem?_eq_getElem hk'];rfl),h _⟩
def ou(K:W.Frag):Sp:=fun vs H Q _=>∃ (a:Addr)(ns:List Int)(k:Nat),vs=[.ref a,.int k]/\kB K H a (ns.map V.int) /\ ∀ st H',vw K H st=none->aC (vw K H) (vw K H')->dC (vw K H') st->Q (.ref st) H'
theorem CY(F:et K "_law_state" "_law_state" kg f fd) (T:ff K mg)(zCcell_at:aU P w K mg base "_law_cell_at" ["_law_script", "_law_k"] 1 (kh K)):bU P w K mg base el 2 f fd ["_law_script", "_law_k"] (ou K):=by
 have scN:=wy.nd
 refine F.okQ wy (fun vs H Q E h=>?_) (fun cdv A outer s H vs Q E hr h=>?_)
 ·obtain⟨a,ns,k,rfl,_⟩:=h
  rfl
 ·obtain⟨a,ns,k,rfl,hS,h⟩:=h
  refine⟨_,(af (aE (i:=2) scN rfl (by walk_at"a1") (ai zCcell_at (hr.mono (by walk_at"a2")) rfl (aa (qv 0) (aa (qv 1) ac))))
   (af (cj (aL Gc (qv 2) (ao Am ae ae) (aI _)) (ah (aq (aM (aa (ao cX (qv 2) (ao Am ae ae)) (aa fR ac))))) aO)
   (ah (aq (aM (aa (ao gL (qv 2) ae) (aa fR ac))))))),?_⟩
  walk_at"m"
  walk_at"vc"
  simp only[kh]
  walk_at"vc"
  refine⟨⟨k,rfl⟩,⟨ns,hS⟩,fun x=>⟨vH (by decide),bY (fun hx=>⟨vH (by decide),by decide,fun p H2 hp S hp2=>h p H2 hp S ⟨_,_,hp2,fun z=>by cases z⟩⟩) (fun hx=>⟨by decide,by decide,fun p H2 hp S hp2=>h p H2 hp S ⟨_,_,hp2,fun _=>?_⟩⟩)⟩⟩
  exact⟨Int.fmod_nonneg_of_pos x (by decide),Int.fmod_lt_of_pos x (by decide)⟩
def dJ(K:W.Frag):Sp:=fun vs H Q _=>∃ (st:Addr)(m:Int),vs=[.ref st,.int m]/\dC (vw K H) st/\0<m/\m<=2147483587 /\ ∀ r H',0<=r->r<m->fh st (vw K H) (vw K H')->dC (vw K H') st->Q (.int r) H'
theorem D5(F:et K "_law_take" "_law_take" mM f fd) (T:ff K mg):bU P w K mg base el 1 f fd ["_law_state_here", "_law_many"] (dJ K):=by
 have scN:=zR.nd
 refine F.okQ zR (fun vs H Q E h=>?_) (fun cdv A outer s H vs Q E hr h=>?_)
 ·obtain⟨a,ns,rfl,_⟩:=h
  rfl
 ·obtain⟨st,m,rfl,⟨x,b,hst,hx⟩,hm,hm2,h⟩:=h
  refine⟨_,(af (cj (gq (ay cZ (qv 0) ae (fun _ _=>rfl)) (fun _=>rfl)) (af (aE (i:=2) scN rfl (by walk_at"a1") (ao gL (ay cZ (qv 0) ae (fun _ _=>rfl)) (qv 1)))
   (af (cY (ao pG (ay cZ (qv 0) ae (fun _ _=>rfl)) (qv 1)) (oU (qv 0) ae dX))
   (ah (aq (qv 2))))) aO)
   (af (cY (ao gL (ao aV (ao aS (ay cZ (qv 0) ae (fun _ _=>rfl)) ae) ae) ae) (oU (qv 0) ae dX))
   (af (aE (i:=3) scN rfl (by walk_at"a1") (ao gL (ao aV (ao aV (ao aS (ay cZ (qv 0) ae (fun _ _=>rfl)) (ay cZ (qv 0) ae (fun _ _=>rfl))) (ao aS ae (ay cZ (qv 0) ae (fun _ _=>rfl)))) ae) ae))
   (af (aE (i:=3) scN rfl (by walk_at"a1") (ao gL (ao aV (ao aS (qv 3) (qv 3)) (ao aS ae (qv 3))) ae))
   (ah (aq (ao gL (ao pG (qv 3) ae) (qv 1)))))))),?_⟩
  walk_at"m"
  have hm0:m ≠ 0:=by walk_at"o"
  cases b with
  | true =>
   walk_at"vc*"
   refine⟨EK hm0 (by unfold Bt;walk_at"o"),fun H2 B h2=>h _ _ (Int.fmod_nonneg_of_pos x hm) (Int.fmod_lt_of_pos x hm) B ⟨_,_,h2,fun z=>by cases z⟩⟩
  | false =>
   walk_at"vc*"
   refine⟨Bp (by decide),by decide,fun H2 B h2=>?_⟩
   have b1:Bt 31 ((x*48271+29).fmod 2147483647):=vX (by decide) (by decide)
   have b3:0<=(x*48271+29).fmod 2147483647/\(x*48271+29).fmod 2147483647<2147483647:=⟨Int.fmod_nonneg_of_pos _ (by decide),Int.fmod_lt_of_pos _ (by decide)⟩
   generalize (x*48271+29).fmod 2147483647=y at *
   walk_at"vc*"
   have b2:Bt 31 ((y*y+39373*y+7).fmod 2147483629):=vX (by decide) (by decide)
   generalize e2:(y*y+39373*y+7).fmod 2147483629=z at *
   refine⟨j8 (b1.mono (by decide)),j8 (by decide),by decide,j8 (b2.mono (by decide)),j8 (by decide),by decide,EK (by decide) (by decide),?_⟩
   exact h _ _ (Int.fmod_nonneg_of_pos _ hm) (Int.fmod_lt_of_pos _ hm) B ⟨_,_,h2,fun _=>b3⟩
def dO(K:W.Frag):Sp:=fun vs H Q _=>∃ st:Addr,vs=[.ref st]/\dC (vw K H) st /\ ∀ v H' q,fh st (vw K H) (vw K H')->dC (vw K H') st->aF (vw K H') (fr q) v->Fq q->Bt 10 q.1->Bt 10 q.2->Sx 36 q->Q v H'
theorem Cg(F:et K "_law_small" "_law_small" j1 f fd) (T:ff K mg)(zClow:aU P w K mg base "_law_low" ["_law_top", "_law_bottom"] 2 (jr K))
  (zCtake:aU P w K mg base "_law_take" ["_law_state_here", "_law_many"] 1 (dJ K)):bU P w K mg base el 3 f fd ["_law_state_here"] (dO K):=by
 have scN:=wt.nd
 refine F.okQ wt (fun vs H Q E h=>?_) (fun cdv A outer s H vs Q E hr h=>?_)
 ·obtain⟨a,rfl,_⟩:=h
  rfl
 ·obtain⟨st,rfl,hst,h⟩:=h
  refine⟨_,(ah (aq (ai zClow (hr.mono (by walk_at"a2")) rfl (aa (ao cX (ai zCtake (hr.mono (by walk_at"a2")) rfl (aa (qv 0) (aa ae ac))) ae) (aa (ao aV ae (ay cZ (aM (aa ae (aa ae (aa (ai zCtake (hr.mono (by walk_at"a2")) rfl (aa (qv 0) (aa ae ac))) ac)))) (ai zCtake (hr.mono (by walk_at"a2")) rfl (aa (qv 0) (aa ae ac))) (fun _ _=>rfl))) ac))))),?_⟩
  walk_at"m"
  walk_at"vc"
  simp only[dJ,jr]
  walk_at"vc"
  refine⟨hst,by decide,by decide,fun r1 H1 r10 r11 B1 S1=>⟨S1,by decide,by decide,fun r2 H2 r20 r21 B2 S2=>⟨by decide,?_⟩⟩⟩
  intro p H3 hp S3 h3
  refine⟨S2.same S3,by decide,by decide,fun r4 H4 r40 r41 B4 S4=>?_⟩
  have h4:=B4 _ _ (S2.ne hp) h3
  obtain⟨v,hv,hm⟩:=lK (xs:=[V.int 0,V.int 0,V.int r2]) r40 (by simpa using r41)
  obtain⟨z,rfl,hz0,hz1⟩ : ∃ z,v = .int z/\0<=z/\z<3:=by
   simp only[List.mem_cons,List.not_mem_nil,or_false] at hm
   rcases hm with rfl|rfl|rfl
   ·exact⟨0,rfl,by decide,by decide⟩
   ·exact⟨0,rfl,by decide,by decide⟩
   ·exact⟨r2,rfl,r20,r21⟩
  walk_at"vc"
  refine⟨_,h4,_,hv,?_⟩
  walk_at"vc"
  have hz:1+z ≠ 0:=by walk_at"o"
  have hb:(1+z).natAbs<2 ^ 10:=by walk_at"o"
  refine⟨hz,Nat.lt_of_lt_of_le hb (Nat.pow_le_pow_right (by decide) (by decide)),fun v H5 S5 r5=>?_⟩
  have q2:=fQ (a:=r1 - 6) hz
  have q1:=fF (a:=r1 - 6) hz
  have hl:lg (r1 - 6) (1+z) ≠ 0:=zm hz
  refine h v H5 _ (((B1.trans B2).same_trans S3).trans (B4.same_trans S5)) (S4.same S5) r5 (iS hz) ?_ ?_ (Sx.lo hz0 hz1 (by walk_at"o"))
  ·unfold Bt
   have:=Int.natAbs_mul (lo (r1 - 6) (1+z)).1 (lg (r1 - 6) (1+z))
   rw[q1] at this
   have:=Nat.le_mul_of_pos_right (lo (r1 - 6) (1+z)).1.natAbs (show 0<(lg (r1 - 6) (1+z)).natAbs by walk_at"o")
   walk_at"o"
  ·unfold Bt
   have:=Int.natAbs_mul (lo (r1 - 6) (1+z)).2 (lg (r1 - 6) (1+z))
   rw[q2] at this
   have:=Nat.le_mul_of_pos_right (lo (r1 - 6) (1+z)).2.natAbs (show 0<(lg (r1 - 6) (1+z)).natAbs by walk_at"o")
   walk_at"o"
def iM(K:W.Frag):Sp:=fun vs H Q _=>∃ st:Addr,vs=[.ref st]/\dC (vw K H) st /\ ∀ v H' q,fh st (vw K H) (vw K H')->dC (vw K H') st->aF (vw K H') (fr q) v->Fq q->0<q.1->Bq 10 q->Sx 36 q->Q v H'
theorem Ck(F:et K "_law_above" "_law_above" jV f fd) (T:ff K mg)(zClow:aU P w K mg base "_law_low" ["_law_top", "_law_bottom"] 2 (jr K))
  (zCtake:aU P w K mg base "_law_take" ["_law_state_here", "_law_many"] 1 (dJ K)):bU P w K mg base el 3 f fd ["_law_state_here"] (iM K):=by
 have scN:=wc.nd
 refine F.okQ wc (fun vs H Q E h=>?_) (fun cdv A outer s H vs Q E hr h=>?_)
 ·obtain⟨a,rfl,_⟩:=h
  rfl
 ·obtain⟨st,rfl,hst,h⟩:=h
  refine⟨_,(ah (aq (ai zClow (hr.mono (by walk_at"a2")) rfl (aa (ao aV ae (ai zCtake (hr.mono (by walk_at"a2")) rfl (aa (qv 0) (aa ae ac)))) (aa (ao aV ae (ay cZ (aM (aa ae (aa ae (aa (ai zCtake (hr.mono (by walk_at"a2")) rfl (aa (qv 0) (aa ae ac))) ac)))) (ai zCtake (hr.mono (by walk_at"a2")) rfl (aa (qv 0) (aa ae ac))) (fun _ _=>rfl))) ac))))),?_⟩
  walk_at"m"
  walk_at"vc"
  simp only[dJ,jr]
  walk_at"vc"
  refine⟨hst,by decide,by decide,fun r1 H1 r10 r11 B1 S1=>⟨S1,by decide,by decide,fun r2 H2 r20 r21 B2 S2=>⟨by decide,?_⟩⟩⟩
  intro p H3 hp S3 h3
  refine⟨S2.same S3,by decide,by decide,fun r4 H4 r40 r41 B4 S4=>?_⟩
  have h4:=B4 _ _ (S2.ne hp) h3
  obtain⟨v,hv,hm⟩:=lK (xs:=[V.int 0,V.int 0,V.int r2]) r40 (by simpa using r41)
  obtain⟨z,rfl,hz0,hz1⟩ : ∃ z,v = .int z/\0<=z/\z<3:=by
   simp only[List.mem_cons,List.not_mem_nil,or_false] at hm
   rcases hm with rfl|rfl|rfl
   ·exact⟨0,rfl,by decide,by decide⟩
   ·exact⟨0,rfl,by decide,by decide⟩
   ·exact⟨r2,rfl,r20,r21⟩
  walk_at"vc"
  refine⟨_,h4,_,hv,?_⟩
  walk_at"vc"
  have hz:1+z ≠ 0:=by walk_at"o"
  have hb:(1+z).natAbs<2 ^ 10:=by walk_at"o"
  refine⟨hz,Nat.lt_of_lt_of_le hb (Nat.pow_le_pow_right (by decide) (by decide)),fun v H5 S5 r5=>?_⟩
  have q1:=fF (a:=1+r1) hz
  have hl:0<lg (1+r1) (1+z):=AE (by walk_at"o")
  refine h v H5 _ (((B1.trans B2).same_trans S3).trans (B4.same_trans S5)) (S4.same S5) r5 (iS hz) ?_ (nL hz (by unfold Bt;walk_at"o") hb) (Sx.lo hz0 hz1 (by walk_at"o"))
  refine Int.pos_of_mul_pos_left ?_ hl
  rw[q1]
  walk_at"o"
def mr(K:W.Frag):Sp:=fun vs H Q _=>∃ (a:Addr)(qs:List (Int × Int)),vs=[.ref a]/\aP (vw K H) a qs /\
 ∀ b H' n,n<=qs.length->(∀ q,(qs.take n).getLast? = some q->q.1 ≠ 0)->(∀ q ∈ qs.drop n,q.1=0)->vw K H b=none->aC (vw K H) (vw K H')->aP (vw K H') b (qs.take n)->Q (.ref b) H'
theorem CO(F:et K "_law_clean" "_law_clean" kl f fd) (T:ff K mg):bU P w K mg base el 1 f fd ["_law_numbers"] (mr K):=by
 have scN:=wD.nd
 refine F.okQ wD (fun vs H Q E h=>?_) (fun cdv A outer s H vs Q E hr h=>?_)
 ·obtain⟨a,_,rfl,_⟩:=h
  rfl
 ·obtain⟨a,qs,rfl,ha,h⟩:=h
  refine⟨_,(af (aE (i:=1) scN rfl (by walk_at"a1") (am av (by rfl) T.b_len aQ (aa (qv 0) ac)))
   (af (ir PassesOwn.never (QW.pt (mN (aL iE (qv 1) ae (aI _)) (kv (aL fW (ay cg (ay cZ (qv 0) (ao cX (qv 1) ae) (fun _ _=>rfl)) ae (fun _ _=>rfl)) ae (aI _))))) (ah (aE (i:=1) scN rfl (by walk_at"a1") (ao cX (qv 1) ae))))
   (ah (aq (hV ja (by rfl) T.b_list je (aa (ci gB (qv 0) cy (cC (qv 1))) ac)))))),?_⟩
  walk_at"m"
  walk_at"vc"
  refine⟨_,ha.len,fun m σ H'=>H'=H/\m<=qs.length/\(∀ q ∈ qs.drop m,q.1=0)/\σ=[some (.ref a),some (.int m)],⟨_,rfl,Nat.le_refl _,by simp,rfl⟩,?_⟩
  rintro k σ H' ⟨rfl,hk,hdr,rfl⟩
  obtain⟨xs,hax,rx⟩:=ha
  have hlx:xs.length=qs.length:=by rw[rx.length,List.length_map]
  have fin:(∀ q,(qs.take k).getLast? = some q->q.1 ≠ 0)->Nw K H' (HO.lst (gv xs none (some (k:Int)))) fun x H1=>∃ p,x=V.ref p /\ ∃ ys,vw K H1 p=some (HO.lst ys)/\Nw K H1 (HO.lst ys) Q:=fun hq p H2 hp S2 h2=>by
   rw[pO (by walk_at"o")] at h2
   refine⟨p,rfl,_,h2,fun p2 H3 hp2 S3 h3=>h p2 H3 k hk hq hdr ?_ (S2.trans S3) ⟨_,h3,?_⟩⟩
   ·cases e:vw K H' p2 with
    | none=>rfl
    | some o=>rw[S2 _ _ e] at hp2;cases hp2
   ·rw[List.map_take]
    exact (rx.take k).same (S2.trans S3)
  walk_at"vc"
  refine bY (fun h0=>?_) (fun h0=>?_)
  ·have hk1:k - 1<qs.length:=by walk_at"o"
   obtain⟨x,hx,r⟩:=rx.at (i:=k - 1) (d:=fr qs[k - 1]) (by rw[List.getElem?_map,List.getElem?_eq_getElem hk1];rfl)
   obtain⟨p,rfl,hp⟩:=r.fr_at
   have e1:((k:Int) - 1)=((k - 1:Nat):Int):=by walk_at"o"
   refine⟨_,hax,_,by rw[e1];exact ck hx,p,rfl,_,hp,_,eD,?_⟩
   walk_at"vc"
   refine bY (fun hq=>?_) (fun hq=>?_)
   ·refine⟨_,fun σ' H'' z=>z,k - 1,by walk_at"o",rfl,by walk_at"o",fun q' hq'=>?_,by rw[e1]⟩
    rw[List.drop_eq_getElem_cons hk1,show k - 1+1=k by walk_at"o"] at hq'
    rcases List.mem_cons.mp hq' with z|z
    ·rw[z]
     exact hq
    ·exact hdr q' z
   ·refine⟨_,hax,fin fun q hq2=>?_⟩
    have:(qs.take k).getLast? = some qs[k - 1]:=by
     rw[List.getLast?_eq_getElem?,List.length_take,List.getElem?_take]
     rw[if_pos (by walk_at"o"),show min k qs.length - 1=k - 1 by walk_at"o",List.getElem?_eq_getElem hk1]
    rw[this] at hq2
    cases hq2
    exact hq
  ·refine⟨_,hax,fin fun q hq=>?_⟩
   rw[show k=0 by walk_at"o"] at hq
   cases hq
def fX(K:W.Frag):Sp:=fun vs H Q _=>∃ x y p q,vs=[x,y]/\aF (vw K H) (fr p) x/\aF (vw K H) (fr q) y/\p.2 ≠ 0/\q.2 ≠ 0/\Bq 1000000 p/\Bq 1000000 q/\Bt 4000000 (p.2*q.2) /\ ∀ v H',aC (vw K H) (vw K H')->aF (vw K H') (fr (oH p q)) v->Q v H'
theorem Eu(F:et K "_law_plus" "_law_plus" mF f fd) (T:ff K mg)(zClow:aU P w K mg base "_law_low" ["_law_top", "_law_bottom"] 2 (jr K)):bU P w K mg base el 3 f fd ["_law_one", "_law_other"] (fX K):=by
 have scN:=yz.nd
 refine F.okQ yz (fun vs H Q E h=>?_) (fun cdv A outer s H vs Q E hr h=>?_)
 ·obtain⟨_,_,_,_,rfl,_⟩:=h
  rfl
 ·obtain⟨x,y,p,q,rfl,hx,hy,np,nq,bp,bq,bb,h⟩:=h
  refine⟨_,(ah (aq (ai zClow (hr.mono (by walk_at"a2")) rfl (aa (ao aV (ao aS (ay cg (qv 0) ae (fun _ _=>rfl)) (ay cg (qv 1) ae (fun _ _=>rfl))) (ao aS (ay cg (qv 1) ae (fun _ _=>rfl)) (ay cg (qv 0) ae (fun _ _=>rfl)))) (aa (ao aS (ay cg (qv 0) ae (fun _ _=>rfl)) (ay cg (qv 1) ae (fun _ _=>rfl))) ac))))),?_⟩
  walk_at"m"
  obtain⟨a,rfl,ha⟩:=hx.fr_at
  obtain⟨b,rfl,hb⟩:=hy.fr_at
  walk_at"vc*"
  simp only[jr]
  walk_at"vc*"
  exact⟨cp bp.1 bq.2 (by decide),cp bq.1 bp.2 (by decide),cp bp.2 bq.2 (by decide),Int.mul_ne_zero np nq,h⟩
def gm(K:W.Frag):Sp:=fun vs H Q _=>∃ x y p q,vs=[x,y]/\aF (vw K H) (fr p) x/\aF (vw K H) (fr q) y/\p.2 ≠ 0/\q.2 ≠ 0/\Bq 1000000 p/\Bq 1000000 q/\Bt 4000000 (p.2*q.2) /\ ∀ v H',aC (vw K H) (vw K H')->aF (vw K H') (fr (qh p q)) v->Q v H'
theorem By(F:et K "_law_times" "_law_times" j2 f fd) (T:ff K mg)(zClow:aU P w K mg base "_law_low" ["_law_top", "_law_bottom"] 2 (jr K)):bU P w K mg base el 3 f fd ["_law_one", "_law_other"] (gm K):=by
 have scN:=vI.nd
 refine F.okQ vI (fun vs H Q E h=>?_) (fun cdv A outer s H vs Q E hr h=>?_)
 ·obtain⟨_,_,_,_,rfl,_⟩:=h
  rfl
 ·obtain⟨x,y,p,q,rfl,hx,hy,np,nq,bp,bq,bb,h⟩:=h
  refine⟨_,(ah (aq (ai zClow (hr.mono (by walk_at"a2")) rfl (aa (ao aS (ay cg (qv 0) ae (fun _ _=>rfl)) (ay cg (qv 1) ae (fun _ _=>rfl))) (aa (ao aS (ay cg (qv 0) ae (fun _ _=>rfl)) (ay cg (qv 1) ae (fun _ _=>rfl))) ac))))),?_⟩
  walk_at"m"
  obtain⟨a,rfl,ha⟩:=hx.fr_at
  obtain⟨b,rfl,hb⟩:=hy.fr_at
  walk_at"vc*"
  simp only[jr]
  walk_at"vc*"
  exact⟨cp bp.1 bq.1 (by decide),cp bp.2 bq.2 (by decide),Int.mul_ne_zero np nq,h⟩
def jW(K:W.Frag):Sp:=fun vs H Q _=>∃ (st:Addr)(m:Nat),vs=[.ref st,.int m]/\m<=6/\dC (vw K H) st /\ ∀ (a:Addr)(H':Hp)(cs:List sR),fh st (vw K H) (vw K H')->dC (vw K H') st->ji (vw K H') a (cs.map tH)->(∀ c ∈ cs,Fq c.1/\Fq c.2/\0<c.2.1)->(∀ c ∈ cs,Bq 100 c.1/\Bq 10 c.2)->(∀ c ∈ cs,Sx 300 c.1/\Sx 36 c.2) ->
 (∀ i c d,cs[i]? = some c->cs[i+1]? = some d->F4 c.1 d.1=true)->cs.length<=m->vw K H a=none->Q (.ref a) H'
theorem A4(F:et K "_law_crowd" "_law_crowd" kq f fd) (T:ff K mg)(zCsmall:aU P w K mg base "_law_small" ["_law_state_here"] 3 (dO K)) (zCabove:aU P w K mg base "_law_above" ["_law_state_here"] 3 (iM K))
  (zCtake:aU P w K mg base "_law_take" ["_law_state_here", "_law_many"] 1 (dJ K)) (zCplus:aU P w K mg base "_law_plus" ["_law_one", "_law_other"] 3 (fX K)):bU P w K mg base el 4 f fd ["_law_state_here", "_law_most"] (jW K):=by
 have scN:=xy.nd
 refine F.okQ xy (fun vs H Q E h=>?_) (fun cdv A outer s H vs Q E hr h=>?_)
 ·obtain⟨a,_,rfl,_⟩:=h
  rfl
 ·obtain⟨st,m,rfl,hm,hst,h⟩:=h
  refine⟨_,(af (aE (i:=2) scN rfl (by walk_at"a1") (aM ac))
   (af (aE (i:=3) scN rfl (by walk_at"a1") (ai zCsmall (hr.mono (by walk_at"a2")) rfl (aa (qv 0) ac)))
   (af (cO PassesOwn.never rfl (cI rfl T.b_range (aa (ai zCtake (hr.mono (by walk_at"a2")) rfl (aa (qv 0) (aa (ao aV (qv 1) ae) ac))) ac)) (ak (i:=4) scN rfl (by walk_at"a1")) (af (lZ (tU PySem.F.plainAttrs_list PySem.F.slot_list_append PySem.F.type_list_append ik (qv 2) (aa (aH (aa (qv 3) (aa (ai zCabove (hr.mono (by walk_at"a2")) rfl (aa (qv 0) ac)) ac))) ac)))
   (ah (aE (i:=3) scN rfl (by walk_at"a1") (ai zCplus (hr.mono (by walk_at"a2")) rfl (aa (qv 3) (aa (ai zCabove (hr.mono (by walk_at"a2")) rfl (aa (qv 0) ac)) ac)))))))
   (ah (aq (qv 2)))))),?_⟩
  walk_at"m"
  walk_at"vc"
  simp only[dJ,dO]
  walk_at"vc"
  refine⟨by decide,fun a H1 ha S1 h1=>⟨hst.same S1,fun v H2 q B2 S2 r2 f2 c1 c2 c5=>⟨S2,by walk_at"o",by walk_at"o",fun n H3 n0 n1 B3 S3=>⟨by walk_at"o",by walk_at"o",?_⟩⟩⟩⟩
  have nst:st ≠ a:=((hst.ne ha)).symm
  have h3:=B3 _ _ nst.symm (B2 _ _ nst.symm h1)
  have hr2:aF (vw K H3) (fr q) v:=by
   obtain⟨_,_,z,_⟩:=id S2
   exact aF.flat_but z B3 _ _ (ce q) r2
  refine cc (its:=gb 0 n.toNat) (fun i σ H'=>∃ v y q cs,σ=[some (.ref st),some (.int m),some (.ref a),some v,y]/\fh st (vw K H) (vw K H')/\dC (vw K H') st/\ji (vw K H') a (cs.map tH)/\cs.length=i/\aF (vw K H') (fr q) v/\Fq q/\Bq (10+12*i) q/\Sx (36+36*i) q/\(∀ c ∈ cs,Sx 300 c.1/\Sx 36 c.2) /\
   (∀ c ∈ cs,Fq c.1/\Fq c.2/\0<c.2.1)/\(∀ c ∈ cs,Bq 100 c.1/\Bq 10 c.2)/\(∀ i c d,cs[i]? = some c->cs[i+1]? = some d->F4 c.1 d.1=true) /\ ∀ c,cs.getLast? = some c->F4 c.1 q=true) (fun _ _ _ _ _=>bK)
   ⟨v,_,q,[],rfl,((S1.but st).trans B2).trans B3,S3,⟨[],h3,.mk_nil⟩,rfl,hr2,f2,⟨c1,c2⟩,c5,by simp,by simp,by simp,by simp,by simp⟩ ?_ ?_
  ·rintro i x σ H4 hi hx ⟨v,y,q,cs,rfl,B4,S4,l4,hl,r4,f4,b4,x4,c6,c1,c2,c3,c4⟩
   rw[cx] at hi
   walk_at"vc"
   simp only[iM,fX]
   walk_at"vc"
   refine⟨l4.ty,S4,fun w5 H5 q5 B5 S5 r5 f5 p5 b5 x5=>⟨by decide,fun p6 H6 hp6 S6 h6=>?_⟩⟩
   have l6:ji (vw K H6) a (cs.map tH):=(l4.stBut (fH cs) (mG cs) S4 B5).same S6
   have r46:aF (vw K H6) (fr q) v:=by
    obtain⟨_,_,z,_⟩:=id S4
    exact aF.same S6 _ _ (aF.flat_but z B5 _ _ (ce q) r4)
   have r56:=aF.same S6 _ _ r5
   obtain⟨xs,hxs,rxs⟩:=id l6
   refine⟨xs,hxs,?_,fun H7 B7 h7=>?_⟩
   ·rw[rxs.length,List.length_map]
    exact Nat.lt_of_lt_of_le (show cs.length<7 by walk_at"o") (by decide)
   have S7:dC (vw K H7) st:=(S5.same S6).but hxs nst B7
   have r47:=aF.flat_but hxs B7 _ _ (ce q) r46
   have r57:=aF.flat_but hxs B7 _ _ (ce q5) r56
   have ne6:p6 ≠ a:=fun e=>by
    obtain⟨_,z,_⟩:=l4.stBut (fH cs) (mG cs) S4 B5
    rw[<- e,hp6] at z
    cases z
   have h67:=B7 _ _ ne6 h6
   have l7:ji (vw K H7) a ((cs ++ [(q,q5)]).map tH):=by
    refine⟨_,h7,?_⟩
    rw[List.map_append]
    exact (aG.flat_but hxs B7 _ _ (fH cs) rxs).snoc (.mk_spt h67 r47 r57)
   have B07:fh st (vw K H) (vw K H7):=fun b o hb e=>B7 _ _ (aj e ha) (S6 _ _ (B5 _ _ hb (B4 _ _ hb e)))
   refine⟨S7,fun w8 H8 q8 B8 S8 r8 f8 p8 b8 x8=>⟨q,?_⟩⟩
   obtain⟨_,_,zst,_⟩:=id S7
   have r48:=aF.flat_but zst B8 _ _ (ce q) r47
   refine⟨r48,q8,r8,by have:=f4.1;walk_at"o",by have:=f8.1;walk_at"o",b4.mono (by walk_at"o"),b8.mono (by decide),(b4.2.mul b8.2).mono (by walk_at"o"),fun v9 H9 S9 r9=>?_⟩
   refine⟨(B07.trans B8).same_trans S9,S8.same S9,oH q q8,cs ++ [(q,q5)],(l7.stBut (fH _) (mG _) S7 B8).same S9,by simp[hl],r9,kr f4 f8,(vJ f4 f8 b4 b8).mono (by walk_at"o"),(x4.add f4.ne f8.ne x8).mono (by walk_at"o"),?_,?_,?_,?_,?_⟩
   ·intro c hc
    rcases List.mem_append.mp hc with z|z
    ·exact c6 c z
    ·cases List.mem_singleton.mp z
     exact⟨x4.mono (by walk_at"o"),x5⟩
   ·intro c hc
    rcases List.mem_append.mp hc with z|z
    ·exact c1 c z
    ·cases List.mem_singleton.mp z
     exact⟨f4,f5,p5⟩
   ·intro c hc
    rcases List.mem_append.mp hc with z|z
    ·exact c2 c z
    ·cases List.mem_singleton.mp z
     exact⟨b4.mono (by walk_at"o"),b5⟩
   ·intro j c d e1 e2
    by_cases hj:j+1<cs.length
    ·rw[List.getElem?_append_left (by walk_at"o")] at e1
     rw[List.getElem?_append_left hj] at e2
     exact c3 j c d e1 e2
    ·have hj2:j+1=cs.length:=by
      have:=(List.getElem?_eq_some_iff.mp e2).1
      simp at this
      walk_at"o"
     rw[List.getElem?_append_right (by walk_at"o"),hj2,Nat.sub_self] at e2
     cases e2
     rw[List.getElem?_append_left (by walk_at"o")] at e1
     refine c4 c ?_
     rw[List.getLast?_eq_getElem?,<- hj2]
     exact e1
   ·intro c hc
    rw[List.getLast?_concat] at hc
    cases hc
    exact Bc f4 f8 p8
  ·rintro σ H4 ⟨v,y,q,cs,rfl,B4,S4,l4,hl,r4,f4,b4,x4,c6,c1,c2,c3,c4⟩
   walk_at"vc"
   exact h a H4 cs B4 S4 l4 c1 c2 c6 c3 (by rw[hl,cx];walk_at"o") ha
def eK(K:W.Frag):Sp:=fun vs H Q _=>∃ (a:Addr)(cs:List sR)(m:Nat),vs=[.ref a,.int m]/\ji (vw K H) a (cs.map tH)/\cs.length<=6/\m<=13/\(∀ c ∈ cs,Fq c.1/\Fq c.2/\Bq 100 c.1/\Bq 10 c.2) /\
 ∀ (b:Addr)(H':Hp)(qs:List (Int × Int)),aC (vw K H) (vw K H')->aP (vw K H') b qs->vw K H b=none->qs.length=m->(∀ (k:Nat)(q:Int × Int),qs[k]? = some q->Fq q/\wv q=qg cs k)->Q (.ref b) H'
theorem sJ(F:et K "_law_crowd_sums" "_law_crowd_sums" eM f fd) (T:ff K mg)(zCplus:aU P w K mg base "_law_plus" ["_law_one", "_law_other"] 3 (fX K)) (zCtimes:aU P w K mg base "_law_times" ["_law_one", "_law_other"] 3 (gm K)):bU P w K mg base el 4 f fd ["_law_crowd_here", "_law_many"] (eK K):=by
 have scN:=lY.nd
 refine F.okQ lY (fun vs H Q E h=>?_) (fun cdv A outer s H vs Q E hr h=>?_)
 ·obtain⟨a,_,_,rfl,_⟩:=h
  rfl
 ·obtain⟨a,cs,m,rfl,ha,hcl,hm,hc,h⟩:=h
  refine⟨_,(af (aE (i:=2) scN rfl (by walk_at"a1") (aM ac))
   (af (aE (i:=3) scN rfl (by walk_at"a1") (cL (own:=["_law_spot", "_law_weight"]) (outs:=[]) (ixs:=[]) rfl (cJ (qv 0)) rfl ⟨rfl,rfl,rfl,trivial,rfl,trivial⟩ (fun _ _ _ _=>⟨(show QG _ _ (jB K 2 _) from bJ (n:=2) rfl (ar (ak (i:=0) (show (["_law_spot", "_law_weight"]:List Str).Nodup by decide +kernel) rfl (by walk_at"a1")) (ar (ak (i:=1) (show (["_law_spot", "_law_weight"]:List Str).Nodup by decide +kernel) rfl (by walk_at"a1")) bI))),cS,(qv 1)⟩)))
   (af (cO PassesOwn.never rfl (cI rfl T.b_range (aa (qv 1) ac)) (ak (i:=4) scN rfl (by walk_at"a1")) (af (aE (i:=5) scN rfl (by walk_at"a1") (aH (aa ae (aa ae ac))))
   (af (cO PassesOwn.never rfl (cJ (qv 3)) (ak (i:=6) scN rfl (by walk_at"a1")) (ah (aE (i:=5) scN rfl (by walk_at"a1") (ai zCplus (hr.mono (by walk_at"a2")) rfl (aa (qv 5) (aa (qv 6) ac))))))
   (af (lZ (tU PySem.F.plainAttrs_list PySem.F.slot_list_append PySem.F.type_list_append ik (qv 2) (aa (qv 5) ac)))
   (ah (aE (i:=3) scN rfl (by walk_at"a1") (cL (own:=["_law_at"]) (outs:=["_law_powers", "_law_crowd_here"]) (ixs:=[3,0]) rfl (cI rfl T.b_range (aa (am av (by rfl) T.b_len aQ (aa (qv 0) ac)) ac)) rfl ⟨rfl,rfl,rfl,⟨rfl,⟨rfl,trivial⟩⟩,rfl,⟨⟨rfl,rfl,rfl,_,rfl⟩,⟨⟨rfl,rfl,rfl,_,rfl⟩,trivial⟩⟩⟩ (fun _ _ _ _=>⟨(ak (i:=0) (show (["_law_at", "_law_powers", "_law_crowd_here"]:List Str).Nodup by decide +kernel) rfl (by walk_at"a1")),cS,(ai zCtimes (hr.mono (by walk_at"a2")) rfl (aa (ay (show uB _ (uc K) from cZ) (qv 1) (qv 0) (fun _ _=>rfl)) (aa (ay (show uB _ (zJ K) from cg) (ay (show uB _ (uc K) from cZ) (qv 2) (qv 0) (fun _ _=>rfl)) ae (fun _ _=>rfl)) ac)))⟩))))))))
   (ah (aq (qv 2)))))),?_⟩
  walk_at"m"
  skip
  obtain⟨xs,hxs,rxs⟩:=id ha
  obtain⟨ps,p1,p2,p3,p4⟩:=pR rxs
  have hlx:xs.length=cs.length:=by rw[rxs.length,List.length_map]
  walk_at"vc"
  refine⟨by decide,fun t H1 ht S1 h1=>⟨⟨xs,.of (aN (S1 _ _ hxs))⟩,fun d H2 hd S2 h2=>?_⟩⟩
  have hxs1:=S1 _ _ hxs
  refine pF (its:=xs) (ps:=ps) (fun i ys H'=>aC (vw K H1) (vw K H')/\ys=(ps.take i).map (·.2)) (by rw[hlx,p1]) (fun i ys H' _ _ p=>⟨aX (p.1 _ _ hxs1),fun j u v e=>?_⟩) h2 ⟨S2,rfl⟩ (fun i u v ys H' hi huv h' p=>?_) (fun ys H3 h3 p=>?_)
  ·obtain⟨q,e1,e2⟩:=p2 j u v e
   exact⟨q,e1,p.1 _ _ (S1 _ _ e2)⟩
  ·obtain⟨S',rfl⟩:=p
   walk_at"vc"
   refine .mk2 h' ?_ fun H5 B5 h5=>⟨fun b o e=>B5 _ _ (aj e hd) (S' _ _ e),?_⟩
   ·rw[List.length_map,List.length_take]
    have:1000<=sizeLine:=by decide
    walk_at"o"
   ·rw[List.take_add_one,huv,List.map_append]
    rfl
  obtain⟨S3,rfl⟩:=p
  rw[List.take_length] at h3
  have S03:=S1.trans S3
  refine⟨by walk_at"o",by walk_at"o",?_⟩
  obtain⟨Pv,hPv⟩ : ∃ Pv:Nat->St->Hp->Prop,∀ k σ H',Pv k σ H' ↔ ∃ (w:Addr)(ws qs:List (Int × Int))(y z u:Option V),σ=[some (.ref a),some (.int m),some (.ref t),some (.ref w),y,z,u] /\
    aC (vw K H) (vw K H')/\w ≠ t/\aP (vw K H') w ws/\ws.length=cs.length/\(∀ (i:Nat)(q:Int × Int)(c:sR),ws[i]? = some q->cs[i]? = some c->Fq q/\wv q=wv c.2*de (wv c.1) k/\Bq (10+100*k) q) /\
    aP (vw K H') t qs/\qs.length=k /\ ∀ (j:Nat)(q:Int × Int),qs[j]? = some q->Fq q/\wv q=qg cs j:=⟨_,fun _ _ _=>Iff.rfl⟩
  refine cc (its:=gb 0 (Int.toNat m)) Pv (fun _ _ _ _ _=>bK) ((hPv _ _ _).mpr ⟨d,cs.map (·.2),[],_,_,_,rfl,S03,(aj h1 hd).symm,⟨_,h3,p4.same S03⟩,by simp,fun i q c e1 e2=>?_,⟨[],S3 _ _ h1,.mk_nil⟩,rfl,by simp⟩) (fun k x σ H4 hk hx pv=>?_) (fun σ H4 pv=>?_)
  ·rw[List.getElem?_map,e2] at e1
   cases e1
   obtain⟨z1,z2,z3,z4⟩:=hc c (List.mem_of_getElem? e2)
   refine⟨z2,?_,z4⟩
   show wv c.2=wv c.2*1
   grind
  ·obtain⟨w,ws,qs,y,z,u,rfl,S4,nw,lw4,lw,hws,lt4,lq,hqs⟩:=(hPv _ _ _).mp pv
   rw[cx] at hk
   have hk13:k<13:=by walk_at"o"
   obtain⟨_,rfl⟩:=fu hx
   walk_at"vc"
   refine⟨by decide,fun pz Hz hpz Sz hz=>?_⟩
   have lwz:=lw4.same Sz
   obtain⟨wx,hwx,rwx⟩:=id lwz
   have lwx:wx.length=cs.length:=by rw[rwx.length,List.length_map,lw]
   refine⟨⟨wx,.of (aN hwx)⟩,?_⟩
   obtain⟨Pw,hPw⟩ : ∃ Pw:Nat->St->Hp->Prop,∀ j σ H',Pw j σ H' ↔ ∃ (v:V)(q:Int × Int)(u:Option V),σ=[some (.ref a),some (.int m),some (.ref t),some (.ref w),some (.int (0+k)),some v,u]/\aC (vw K Hz) (vw K H')/\aF (vw K H') (fr q) v/\Fq q/\wv q=sumQ (ws.take j)/\Bq (1+j*(11+100*k)) q:=⟨_,fun _ _ _=>Iff.rfl⟩
   refine cc (its:=wx) Pw (fun j σ H' _ p=>?_) ((hPw _ _ _).mpr ⟨_,(0,1),_,rfl,.rfl,bV hz,⟨by decide,by decide⟩,?_,?_⟩) (fun j x σ H5 hj hx5 pw=>?_) (fun σ H5 pw=>?_)
   ·obtain⟨_,_,_,_,S5,_⟩:=(hPw _ _ _).mp p
    exact aX (S5 _ _ hwx)
   ·show ((0:Int):Rat) / ((1:Int):Rat)=0
    have e0:((0:Int):Rat)=0:=rfl
    rw[e0]
    grind
   ·rw[Nat.zero_mul]
    exact⟨by decide,by decide⟩
   ·obtain⟨v,q,u5,rfl,S5,r5,f5,w5,b5⟩:=(hPw _ _ _).mp pw
    have jl:j<ws.length:=by walk_at"o"
    have jc:j<cs.length:=by walk_at"o"
    obtain⟨d5,e5,rx5⟩:=rwx.get hx5
    rw[List.getElem?_map,List.getElem?_eq_getElem jl] at e5
    cases e5
    obtain⟨fw,vw5,bw⟩:=hws j _ _ (List.getElem?_eq_getElem jl) (List.getElem?_eq_getElem jc)
    have hjk:j*(11+100*k)<=5*(11+100*12):=Nat.mul_le_mul (by walk_at"o") (by walk_at"o")
    walk_at"vc"
    simp only[fX]
    walk_at"vc"
    refine⟨q,r5,_,aF.same S5 _ _ rx5,by have:=f5.1;walk_at"o",by have:=fw.1;walk_at"o",b5.mono (by walk_at"o"),bw.mono (by walk_at"o"),(b5.2.mul bw.2).mono (by walk_at"o"),fun v6 H6 S6 r6=>(hPw _ _ _).mpr ⟨_,_,_,rfl,S5.trans S6,r6,kr f5 fw,?_,(vJ f5 fw b5 bw).mono ?_⟩⟩
    ·rw[mQ (by have:=f5.1;walk_at"o") (by have:=fw.1;walk_at"o"),w5,List.take_add_one,List.getElem?_eq_getElem jl,Ao]
     show _=sumQ (ws.take j)+(wv ws[j]+0)
     grind
    ·rw[Nat.add_mul]
     walk_at"o"
   ·obtain⟨v,q,u5,rfl,S5,r5,f5,w5,b5⟩:=(hPw _ _ _).mp pw
    rw[show wx.length=ws.length by walk_at"o",List.take_length] at w5
    have wq:wv q=qg cs k:=by
     rw[w5]
     exact uv lw fun i q c e1 e2=>(hws i q c e1 e2).2.1
    have S4z5:=Sz.trans S5
    obtain⟨tx,htx,rtx⟩:=lt4.same S4z5
    have nat':a ≠ t:=aj hxs ht
    walk_at"vc"
    refine⟨mH htx,tx,htx,?_,fun H6 B6 h6=>?_⟩
    ·rw[rtx.length,List.length_map,lq]
     exact Nat.lt_of_lt_of_le hk13 (by decide)
    have hxs6:=B6 _ _ nat' (S4z5 _ _ (S4 _ _ hxs))
    have S06:aC (vw K H) (vw K H6):=fun b o e=>B6 _ _ (aj e ht) (S4z5 _ _ (S4 _ _ e))
    have lw6:=(lw4.same S4z5).but htx nw B6
    have lt6:aP (vw K H6) t (qs ++ [q]):=by
     refine⟨_,h6,?_⟩
     rw[List.map_append]
     exact (aG.flat_but htx B6 _ _ (cP qs) rtx).snoc (aF.flat_but htx B6 _ _ (ce _) r5)
    obtain⟨wx6,hwx6,rwx6⟩:=id lw6
    have hln:eU (vw K H6) a=some xs.length:=by simp only[eU,hxs6]
    refine⟨_,hln,by walk_at"o",by walk_at"o",fun c H7 hc7 S7 h7=>?_⟩
    have hct:c ≠ t:=(aj h6 hc7).symm
    rw[show (xs.length:Int).toNat=cs.length by walk_at"o"]
    refine aY (its:=gb 0 cs.length) (fun i zs H'=>aC (vw K H6) (vw K H') /\ ∃ vs:List (Int × Int),vs.length=i/\aG (vw K H') (vs.map fr) zs /\ ∀ (j:Nat)(q:Int × Int)(c:sR),vs[j]? = some q->cs[j]? = some c->Fq q/\wv q=wv c.2*de (wv c.1) (k+1)/\Bq (10+100*(k+1)) q)
     (fun _ _ _ _ _ _=>bK) h7 ⟨S7,[],rfl,.mk_nil,by simp⟩ (fun i x zs H8 hi hx8 h8 p=>?_) (fun zs H8 h8 p=>?_)
    ·obtain⟨S8,vs,lv,rv,hv⟩:=p
     obtain⟨hi',rfl⟩:=fu hx8
     have iw:i<ws.length:=by walk_at"o"
     obtain⟨vi,e1,ri⟩:=rwx6.at (i:=i) (d:=fr ws[i]) (by rw[List.getElem?_map,List.getElem?_eq_getElem iw];rfl)
     obtain⟨xi,e2,rxi⟩:=rxs.at (i:=i) (d:=tH cs[i]) (by rw[List.getElem?_map,List.getElem?_eq_getElem hi'];rfl)
     obtain⟨b,x1,x2,rfl,hb,q1,q2⟩:=(aF.same (S06.trans S8) _ _ rxi).spt_at
     obtain⟨fw,vw6,bw⟩:=hws i _ _ (List.getElem?_eq_getElem iw) (List.getElem?_eq_getElem hi')
     obtain⟨z1,z2,z3,z4⟩:=hc cs[i] (List.getElem_mem hi')
     walk_at"vc"
     simp only[gm]
     walk_at"vc"
     refine⟨_,S8 _ _ hwx6,vi,by rw[Int.zero_add];exact ck e1,xs,S8 _ _ hxs6,_,by rw[Int.zero_add];exact ck e2,b,rfl,_,hb,_,eD,?_⟩
     refine⟨_,aF.same S8 _ _ ri,_,q1,by have:=fw.1;walk_at"o",by have:=z1.1;walk_at"o",bw.mono (by walk_at"o"),z3.mono (by decide),(bw.2.mul z3.2).mono (by walk_at"o"),fun v9 H9 S9 r9=>.mk (S9 _ _ h8) ?_ fun H10 B10 h10=>⟨fun b o e=>B10 _ _ (aj e hc7) (S9 _ _ (S8 _ _ e)),vs ++ [qh ws[i] cs[i].1],by simp[lv],?_,fun j q c g1 g2=>?_⟩⟩
     ·rw[rv.length,List.length_map,lv]
      have:1000<=sizeLine:=by decide
      walk_at"o"
     ·rw[List.map_append]
      exact (aG.flat_but (S9 _ _ h8) B10 _ _ (cP vs) (rv.same S9)).snoc (aF.flat_but (S9 _ _ h8) B10 _ _ (ce _) r9)
     ·by_cases hj:j<vs.length
      ·rw[List.getElem?_append_left hj] at g1
       exact hv j q c g1 g2
      ·have hj2:j=i:=by
        have:=(List.getElem?_eq_some_iff.mp g1).1
        simp at this
        walk_at"o"
       subst hj2
       rw[List.getElem?_append_right (by walk_at"o"),lv,Nat.sub_self] at g1
       cases g1
       rw[List.getElem?_eq_getElem hi'] at g2
       cases g2
       refine⟨lX fw z1,?_,(n5 fw z1 bw z3).mono (by walk_at"o")⟩
       rw[pU (by have:=fw.1;walk_at"o") (by have:=z1.1;walk_at"o"),vw6,ku]
       grind
    ·obtain⟨S8,vs,lv,rv,hv⟩:=p
     rw[cx] at lv
     refine (hPv _ _ _).mpr ⟨c,vs,qs ++ [q],_,_,_,rfl,S06.trans S8,hct,⟨zs,h8,rv⟩,lv,hv,lt6.same S8,by simp[lq],fun j q' e=>?_⟩
     by_cases hj:j<qs.length
     ·rw[List.getElem?_append_left hj] at e
      exact hqs j q' e
     ·have hj2:j=k:=by
       have:=(List.getElem?_eq_some_iff.mp e).1
       simp at this
       walk_at"o"
      subst hj2
      rw[List.getElem?_append_right (by walk_at"o"),lq,Nat.sub_self] at e
      cases e
      exact⟨f5,wq⟩
  ·obtain⟨w,ws,qs,y,z,u,rfl,S4,nw,lw4,lw,hws,lt4,lq,hqs⟩:=(hPv _ _ _).mp pv
   rw[cx] at lq
   walk_at"vc"
   exact h t H4 qs S4 lt4 ht (by walk_at"o") hqs
def Eo:Int:=30*mv 12
theorem zK:Bt 39 Eo:=by decide
def ma(q:Int × Int):Prop:=Fq q/\Bq 131 q/\q.2 ∣ Eo
def gS(b:Nat)(q:Int × Int):Prop:=Fq q /\ ∃ n:Int,wv q=(n:Rat) / ((mv 12:Int):Rat)/\Bt b n
theorem gS.mono{a b:Nat}{q:Int × Int}(h:gS a q)(l:a<=b):gS b q:=by
 obtain⟨f,n,e,t⟩:=h
 exact⟨f,n,e,t.mono l⟩
theorem gS.sumQ{b:Nat}{q:Int × Int}(h:gS b q)(l:b<=131):ma q:=by
 obtain⟨f,n,e,t⟩:=h
 exact⟨f,pB f e (by decide) (t.mono l) ((rV 12).mono (by decide)),Int.dvd_trans (jK f (by decide) e) ⟨30,by unfold Eo;rw[Int.mul_comm]⟩⟩
theorem wX{b k:Nat}{q:Int × Int}{n:Int}(hq:Fq q)(hk:k<=12)(e:wv q=(n:Rat) / (mv k:Rat))(hn:Bt b n):gS (b+(3*(12 - k)+1)) q:=by
 refine⟨hq,n*EA (12 - k),?_,hn.mul (zB _)⟩
 have s:mv 12=mv k*EA (12 - k):=by rw[<- ww,show k+(12 - k)=12 by walk_at"o"]
 have h6:(mv k:Rat) ≠ 0:=aD (by have:=ml k;walk_at"o")
 have p6:((EA (12 - k):Int):Rat) ≠ 0:=fun z=>by
  have:((mv 12:Int):Rat) ≠ 0:=aD (by decide)
  rw[s,Rat.intCast_mul,z] at this
  grind
 rw[e,s,Rat.intCast_mul,Rat.intCast_mul]
 grind
theorem Sx.sumB{q:Int × Int}(hq:Fq q)(h:Sx 36 q):gS 60 q:=by
 obtain⟨n,e,l⟩:=h
 refine (wX (k:=0) (n:=n) (b:=10) hq (by decide) e ?_).mono (by decide)
 unfold Bt
 walk_at"o"
theorem tL{cs:List sR}{k:Nat}{q:Int × Int}(h:∀ c ∈ cs,Sx 300 c.1/\Sx 36 c.2)(hl:cs.length<=6)(hk:k<=10)(hq:Fq q)(e:wv q=qg cs k):gS 110 q:=by
 obtain⟨n,e1,l1⟩:=sy (k:=k) h
 refine (wX (k:=k) (n:=n) (b:=9*k+8) hq (by walk_at"o") (e.trans e1) ?_).mono (by walk_at"o")
 unfold Bt
 have l3:cs.length*(36*xD k)<=6*(36*xD k):=Nat.mul_le_mul_right _ hl
 have l4:=uV k
 rw[Nat.pow_add,<- l4,show (2:Nat) ^ 8=256 from rfl]
 have:0<xD k:=by rw[l4];exact Nat.two_pow_pos _
 walk_at"o"
theorem gS.add{p q:Int × Int}(hp:gS 110 p)(hq:gS 60 q):gS 112 (oH p q):=by
 obtain⟨f1,n1,e1,t1⟩:=hp
 obtain⟨f2,n2,e2,t2⟩:=hq
 refine⟨kr f1 f2,n1+n2,?_,(t1.add (t2.mono (show 60<=110 by decide))).mono (by decide)⟩
 have h6:((mv 12:Int):Rat) ≠ 0:=aD (by decide)
 rw[mQ f1.ne f2.ne,e1,e2,Rat.intCast_add]
 grind
theorem DX:gS 112 (0,1):=⟨pk,0,by
 rw[lU,show ((0:Int):Rat)=0 from rfl]
 grind,by decide⟩
theorem sf{qs:List (Int × Int)}(h:∀ q ∈ qs,ma q):Pb 170 (cf qs):=by
 refine⟨Eo,by decide,zK.mono (by decide),fun k=>?_⟩
 cases e:qs[k]? with
 | none =>
  refine⟨0,?_,by decide⟩
  rw[cz (List.getElem?_eq_none_iff.mp e)]
  have:((0:Int):Rat)=0:=rfl
  rw[this]
  grind
 | some q =>
  obtain⟨f,b,t,ht⟩:=h q (List.mem_of_getElem? e)
  have c1:=aD f.ne
  have c0:((Eo:Int):Rat) ≠ 0:=aD (by decide)
  refine⟨q.1*t,?_,(b.1.mul (n:=39) ?_).mono (by decide)⟩
  ·rw[aZ e]
   have e1:((Eo:Int):Rat)=(q.2:Rat)*(t:Rat):=by rw[ht,Rat.intCast_mul]
   rw[Rat.intCast_mul]
   unfold wv
   grind
  ·have h6:=zK
   unfold Bt at h6 ⊢
   rw[ht,Int.natAbs_mul] at h6
   have:=Nat.le_mul_of_pos_left t.natAbs (show 0<q.2.natAbs by have:=f.1;walk_at"o")
   walk_at"o"
def rL(K:W.Frag):Sp:=fun vs H Q _=>∃ (st:Addr),vs=[.ref st]/\dC (vw K H) st /\ ∀ (a:Addr)(H':Hp)(qs:List (Int × Int)),fh st (vw K H) (vw K H')->dC (vw K H') st->aP (vw K H') a qs->1<=qs.length->qs.length<=11->(∀ q ∈ qs,gS 112 q)->vw K H a=none->Q (.ref a) H'
theorem E5(F:et K "_law_sums" "_law_sums" ng f fd) (T:ff K mg)(zCtake:aU P w K mg base "_law_take" ["_law_state_here", "_law_many"] 1 (dJ K)) (zCsmall:aU P w K mg base "_law_small" ["_law_state_here"] 3 (dO K)) (zCcrowd:aU P w K mg base "_law_crowd" ["_law_state_here", "_law_most"] 4 (jW K))
  (zCcrowd_sums:aU P w K mg base "_law_crowd_sums" ["_law_crowd_here", "_law_many"] 4 (eK K)) (zCplus:aU P w K mg base "_law_plus" ["_law_one", "_law_other"] 3 (fX K)):bU P w K mg base el 5 f fd ["_law_state_here"] (rL K):=by
 have scN:=zw.nd
 refine F.okQ zw (fun vs H Q E h=>?_) (fun cdv A outer s H vs Q E hr h=>?_)
 ·obtain⟨a,rfl,_⟩:=h
  rfl
 ·obtain⟨st,rfl,hst,h⟩:=h
  refine⟨_,(af (aE (i:=1) scN rfl (by walk_at"a1") (ao aV ae (ai zCtake (hr.mono (by walk_at"a2")) rfl (aa (qv 0) (aa ae ac)))))
   (af (aE (i:=2) scN rfl (by walk_at"a1") (ai zCtake (hr.mono (by walk_at"a2")) rfl (aa (qv 0) (aa ae ac))))
   (af (cj (aL fW (qv 2) ae (aI _)) (ah (aq (cL (own:=["_law_k"]) (outs:=["_law_state_here"]) (ixs:=[0]) rfl (cI rfl T.b_range (aa (qv 1) ac)) rfl ⟨rfl,rfl,rfl,⟨rfl,trivial⟩,rfl,⟨⟨rfl,rfl,rfl,_,rfl⟩,trivial⟩⟩ (fun _ _ _ _=>⟨(ak (i:=0) (show (["_law_k", "_law_state_here"]:List Str).Nodup by decide +kernel) rfl (by walk_at"a1")),cS,(ai zCsmall (hr.mono (by walk_at"a2")) rfl (aa (qv 1) ac))⟩)))) aO)
   (af (cj (aL fW (qv 2) ae (aI _)) (ah (aq (ao aV (ao aS (aM (aa (aH (aa ae (aa ae ac))) ac)) (ao cX (qv 1) ae)) (aM (aa (ai zCsmall (hr.mono (by walk_at"a2")) rfl (aa (qv 0) ac)) ac))))) aO)
   (af (aE (i:=3) scN rfl (by walk_at"a1") (ai zCcrowd_sums (hr.mono (by walk_at"a2")) rfl (aa (ai zCcrowd (hr.mono (by walk_at"a2")) rfl (aa (qv 0) (aa (ay cZ (aM (aa ae (aa ae (aa ae (aa ae (aa ae ac)))))) (ai zCtake (hr.mono (by walk_at"a2")) rfl (aa (qv 0) (aa ae ac))) (fun _ _=>rfl)) ac))) (aa (qv 1) ac))))
   (af (cj (aL kF (qv 2) ae (aI _)) (af (aE (i:=4) scN rfl (by walk_at"a1") (ai zCtake (hr.mono (by walk_at"a2")) rfl (aa (qv 0) (aa (qv 1) ac))))
   (ah (cY (ai zCplus (hr.mono (by walk_at"a2")) rfl (aa (ay cZ (qv 3) (qv 4) (fun _ _=>rfl)) (aa (ay cZ (aM (aa (ai zCsmall (hr.mono (by walk_at"a2")) rfl (aa (qv 0) ac)) (aa (aH (aa ae (aa ae ac))) (aa (aH (aa (cG bO ae) (aa ae ac))) ac)))) (ai zCtake (hr.mono (by walk_at"a2")) rfl (aa (qv 0) (aa ae ac))) (fun _ _=>rfl)) ac))) (oU (qv 3) (qv 4) dX)))) aO)
   (ah (aq (qv 3))))))))),?_⟩
  walk_at"m"
  walk_at"vc"
  simp only[dJ]
  walk_at"vc"
  refine⟨hst,by decide,by decide,fun r H1 r0 r1 B1 S1=>⟨S1,by decide,by decide,fun y H2 y0 y1 B2 S2=>?_⟩⟩
  have B02:=B1.trans B2
  refine bY (fun e0=>?_) (fun e0=>?_)
  ·refine⟨by walk_at"o",by walk_at"o",fun a H3 ha S3 h3=>?_⟩
   have nst:st ≠ a:=(S2.ne ha).symm
   refine aY (its:=gb 0 (1+r).toNat) (fun i xs H'=>fh st (vw K H2) (vw K H')/\dC (vw K H') st /\ ∃ qs,qs.length=i/\aG (vw K H') (qs.map fr) xs /\ ∀ q ∈ qs,gS 112 q) (fun i xs H' _ _ _=>bK) h3 ⟨S3.but st,S2.same S3,[],rfl,.mk_nil,by simp⟩ (fun i x xs H' hi hx h' p=>?_) (fun xs H' h' p=>?_)
   ·obtain⟨B',S',qs,hl,rq,hq⟩:=p
    walk_at"vc"
    simp only[dO]
    walk_at"vc"
    refine⟨S',fun v H3 q B3 S3 r3 f3 b1 b2 x3=>.mk (B3 _ _ nst.symm h') ?_ fun H5 B5 h5=>?_⟩
    ·rw[rq.length,List.length_map,hl]
     rw[cx] at hi
     have:1000<=sizeLine:=by decide
     walk_at"o"
    ·have h3:=B3 _ _ nst.symm h'
     obtain⟨xx,bb,e,_⟩:=id S'
     refine⟨?_,S3.but h3 nst B5,qs ++ [q],by simp[hl],?_,?_⟩
     ·intro b o hb e
      have hba:=aj e ha
      exact B5 _ _ hba (B3 _ _ hb (B' _ _ hb e))
     ·rw[List.map_append]
      exact (aG.flat_but h3 B5 _ _ (cP qs) (aG.flat_but e B3 _ _ (cP qs) rq)).snoc (aF.flat_but h3 B5 _ _ (ce q) r3)
     ·intro q' hq'
      rcases List.mem_append.mp hq' with z|z
      ·exact hq q' z
      ·cases List.mem_singleton.mp z
       exact (Sx.sumB f3 x3).mono (by decide)
   ·obtain⟨B',S',qs,hl,rq,hq⟩:=p
    rw[cx] at hl
    exact h a H' qs (B02.trans B') S' ⟨xs,h',rq⟩ (by walk_at"o") (by walk_at"o") hq (B02.none S2 ha)
  refine bY (fun e1=>?_) (fun e1=>?_)
  ·simp only[dO]
   walk_at"vc"
   refine⟨by decide,fun p2 H3 hp2 S3 h3=>⟨by decide,fun p3 H4 hp3 S4 h4=>?_⟩⟩
   rw[show 1+r - 1=((r.toNat:Nat):Int) by walk_at"o"]
   show gO K (.ref p3) (.int _) H4 _
   rw[i4]
   refine⟨_,h4,by walk_at"o",by walk_at"o",?_,fun e H5 he S5 h5=>?_⟩
   ·have:1000<=sizeLine:=by decide
    simp
    walk_at"o"
   rw[show ((r.toNat:Nat):Int).toNat=r.toNat by walk_at"o",lJ] at h5
   have S25:=S3.trans (S4.trans S5)
   refine⟨S2.same S25,fun v H6 q B6 S6 r6 f6 b1 b2 x6=>⟨by decide,fun p7 H7 hp7 S7 h7=>?_⟩⟩
   have h6:=B6 _ _ ((S2.same (S3.trans S4)).ne he) h5
   have h26:=B6 _ _ (S2.ne hp2) ((S4.trans S5) _ _ h3)
   show iN K (.ref e) (.ref p7) H7 Q
   rw[gZ]
   refine⟨_,S7 _ _ h6,_,h7,?_,fun p8 H8 hp8 S8 h8=>?_⟩
   ·have:1000<=sizeLine:=by decide
    simp
    walk_at"o"
   have S68:=S7.trans S8
   have B67:fh st (vw K H) (vw K H7):=((B02.same_trans S25).trans B6).same_trans S7
   refine h p8 H8 (List.replicate r.toNat (0,1) ++ [q]) (B67.same_trans S8) (S6.same S68) ⟨_,h8,?_⟩ (by simp) (by simp;walk_at"o") (fun q' hq'=>?_) (B67.none (S6.same S7) hp8)
   ·rw[List.map_append,oz]
    exact aG.snoc (aG.repl (bV (S68 _ _ h26)) _) (aF.same S68 _ _ r6)
   ·rcases List.mem_append.mp hq' with z|z
    ·rw[(List.mem_replicate.mp z).2]
     exact DX
    ·cases List.mem_singleton.mp z
     exact (Sx.sumB f6 x6).mono (by decide)
  ·walk_at"vc"
   refine⟨by decide,fun p3 H3 hp3 S3 h3=>⟨S2.same S3,by decide,by decide,fun t H4 t0 t1 B4 S4=>?_⟩⟩
   have h4:=B4 _ _ (S2.ne hp3) h3
   obtain⟨v,hv,hm⟩:=lK (xs:=[V.int 5,V.int 5,V.int 5,V.int 2,V.int 3]) t0 (by simpa using t1)
   obtain⟨z,rfl,hz⟩ : ∃ z:Nat,v = .int z/\z<=5:=by
    simp only[List.mem_cons,List.not_mem_nil,or_false] at hm
    rcases hm with rfl|rfl|rfl|rfl|rfl
    ·exact⟨5,rfl,by decide⟩
    ·exact⟨5,rfl,by decide⟩
    ·exact⟨5,rfl,by decide⟩
    ·exact⟨2,rfl,by decide⟩
    ·exact⟨3,rfl,by decide⟩
   refine⟨p3,rfl,_,h4,_,hv,?_⟩
   simp only[jW]
   walk_at"vc"
   refine⟨z,rfl,by walk_at"o",S4,fun c H5 cs B5 S5 l5 c1 c2 c3 c4 lc hc=>?_⟩
   obtain⟨m,hm'⟩ : ∃ m:Nat,1+r=(m:Int):=⟨(1+r).toNat,by walk_at"o"⟩
   rw[hm']
   simp only[eK]
   walk_at"vc"
   refine⟨cs,m,rfl,l5,by walk_at"o",by walk_at"o",fun c hc=>⟨(c1 c hc).1,(c1 c hc).2.1,(c2 c hc).1,(c2 c hc).2⟩,fun b H6 qs S6 l6 hb lqs hqs=>?_⟩
   have bqs:∀ q ∈ qs,(Fq q/\Bq 120 q)/\gS 110 q:=fun q hq=>by
    obtain⟨k,hk⟩:=List.getElem?_of_mem hq
    have:=(List.getElem?_eq_some_iff.mp hk).1
    exact⟨⟨(hqs k q hk).1,D7 c3 (by walk_at"o") (by walk_at"o") (hqs k q hk).1 (hqs k q hk).2⟩,tL c3 (by walk_at"o") (by walk_at"o") (hqs k q hk).1 (hqs k q hk).2⟩
   have B05:fh st (vw K H) (vw K H5):=((B02.same_trans S3).trans B4).trans B5
   have B06:=B05.same_trans S6
   have nb0:vw K H b=none:=B05.none S5 hb
   refine bY (fun e2=>?_) (fun e2=>?_)
   ·walk_at"vc"
    refine⟨S5.same S6,by walk_at"o",by walk_at"o",fun t7 H7 t70 t71 B7 S7=>?_⟩
    have l7:aP (vw K H7) b qs:=l6.stBut (S5.same S6) B7
    have nbs:b ≠ st:=l7.ne_st S7
    obtain⟨xs,hxs,rxs⟩:=id l7
    have hlx:xs.length=qs.length:=by rw[rxs.length,List.length_map]
    obtain⟨j,rfl⟩ : ∃ j:Nat,t7=(j:Int):=⟨t7.toNat,by walk_at"o"⟩
    have hj:j<qs.length:=by walk_at"o"
    obtain⟨vi,e1,ri⟩:=rxs.at (i:=j) (d:=fr qs[j]) (by rw[List.getElem?_map,List.getElem?_eq_getElem hj];rfl)
    refine⟨xs,hxs,vi,ck e1,?_⟩
    simp only[dO]
    walk_at"vc"
    refine⟨S7,fun v8 H8 q8 B8 S8 r8 f8 b81 b82 x8=>⟨by decide,fun p9 H9 hp9 T9 h9=>⟨by decide,fun p10 H10 hp10 T10 h10=>⟨by decide,fun p11 H11 hp11 T11 h11=>⟨S8.same (T9.trans (T10.trans T11)),by decide,by decide,fun t12 H12 t120 t121 B12 S12=>?_⟩⟩⟩⟩⟩
    have T811:=T9.trans (T10.trans T11)
    have S11:=S8.same T811
    obtain⟨_,_,st7,_⟩:=id S7
    obtain⟨_,_,st11,_⟩:=id S11
    have h12:=B12 _ _ ((S8.same (T9.trans T10)).ne hp11) h11
    have hx12:=B12 _ _ nbs (T811 _ _ (B8 _ _ nbs hxs))
    have rx12:aG (vw K H12) (qs.map fr) xs:=aG.flat_but st11 B12 _ _ (cP qs) ((aG.flat_but st7 B8 _ _ (cP qs) rxs).same T811)
    obtain⟨vi',e1',ri'⟩:=rx12.at (i:=j) (d:=fr qs[j]) (by rw[List.getElem?_map,List.getElem?_eq_getElem hj];rfl)
    rw[e1] at e1'
    cases e1'
    obtain⟨v12,hv12,hm12⟩:=lK (xs:=[v8,V.ref p9,V.ref p10]) t120 (by simpa using t121)
    obtain⟨q12,r12,f12,b12,x12⟩ : ∃ q12,aF (vw K H12) (fr q12) v12/\Fq q12/\Bq 10 q12/\gS 60 q12:=by
     simp only[List.mem_cons,List.not_mem_nil,or_false] at hm12
     rcases hm12 with rfl|rfl|rfl
     ·exact⟨q8,aF.flat_but st11 B12 _ _ (ce q8) (aF.same T811 _ _ r8),f8,⟨b81,b82⟩,Sx.sumB f8 x8⟩
     ·exact⟨(1,1),bV (B12 _ _ (S8.ne hp9) ((T10.trans T11) _ _ h9)),⟨by decide,by decide⟩,⟨by decide,by decide⟩,Sx.sumB ⟨by decide,by decide⟩ (by first|exact⟨6,by decide +kernel,by decide⟩|exact⟨-6,by decide +kernel,by decide⟩)⟩
     ·exact⟨(-1,1),bV (B12 _ _ ((S8.same T9).ne hp10) (T11 _ _ h10)),⟨by decide,by decide⟩,⟨by decide,by decide⟩,Sx.sumB ⟨by decide,by decide⟩ (by first|exact⟨6,by decide +kernel,by decide⟩|exact⟨-6,by decide +kernel,by decide⟩)⟩
    obtain⟨⟨k1,k2⟩,k3⟩:=bqs _ (List.getElem_mem hj)
    refine⟨p11,rfl,_,h12,v12,hv12,?_⟩
    simp only[fX]
    walk_at"vc"
    refine⟨_,ri',q12,r12,k1.ne,f12.ne,k2.mono (by decide),b12.mono (by decide),(k2.2.mul b12.2).mono (by decide),fun v13 H13 S13 r13=>⟨xs,S13 _ _ hx12,j,jm (by walk_at"o"),fun H14 B14 h14=>?_⟩⟩
    have B0d:fh st (vw K H) (vw K H13):=((((B06.trans B7).trans B8).same_trans T811).trans B12).same_trans S13
    refine h b H14 _ (fun c o hc e=>B14 _ _ (aj e nb0) (B0d _ _ hc e)) ((S12.same S13).but (S13 _ _ hx12) nbs.symm B14) (aP.chg (S13 _ _ hx12) (rx12.same S13) r13 B14 h14) (by rw[List.length_set];walk_at"o") (by rw[List.length_set];walk_at"o") (fun q hq=>?_) nb0
    rcases List.mem_or_eq_of_mem_set hq with z|rfl
    ·exact (bqs q z).2.mono (by decide)
    ·exact gS.add k3 x12
   ·exact h b H6 qs B06 (S5.same S6) l6 (by walk_at"o") (by walk_at"o") (fun q hq=>(bqs q hq).2.mono (by decide)) nb0
def pS(K:W.Frag):Sp:=fun vs H Q _=>∃ (a b:Addr)(n m k:Nat)(W p:Nat->Int),vs=[.ref a,.ref b,.int k]/\IL (vw K H) a n W/\IL (vw K H) b m p/\k+m<=n/\m<=20/\(∀ i,Bt 2000 (W i))/\(∀ i,Bt 2000 (p i)) /\ ∀ H',aC (vw K H) (vw K H')->Q (.int (ca (fun i=>p i*W (k+i)) m)) H'
theorem DQ(F:et K "met" "met" qD f fd) (T:ff K mg):bU P w K mg base el 1 f fd ["wholes", "row", "k"] (pS K):=by
 have scN:=yH.nd
 refine F.okQ yH (fun vs H Q E h=>?_) (fun cdv A outer s H vs Q E hr h=>?_)
 ·obtain⟨_,_,_,_,_,_,_,rfl,_⟩:=h
  rfl
 ·obtain⟨a,b,n,m,k,W,p,rfl,ha,hb,hk,hm,bW,bp,h⟩:=h
  refine⟨_,(ah (aq (am (qp rfl) (by rfl) T.b_sum zE (aa (cL (own:=["number", "whole"]) (outs:=[]) (ixs:=[]) rfl (uI rfl T.b_zip (aa (qv 1) (aa (ci gB (qv 0) (cC (qv 2)) cy) ac))) rfl ⟨rfl,rfl,rfl,trivial,rfl,trivial⟩ (fun _ _ _ _=>⟨(show QG _ _ (jB K 2 _) from bJ (n:=2) rfl (ar (ak (i:=0) (show (["number", "whole"]:List Str).Nodup by decide +kernel) rfl (by walk_at"a1")) (ar (ak (i:=1) (show (["number", "whole"]:List Str).Nodup by decide +kernel) rfl (by walk_at"a1")) bI))),cS,(ao (show fb _ _ (gO K) from aS) (qv 0) (qv 1))⟩)) ac)))),?_⟩
  walk_at"m"
  walk_at"vc"
  simp only[yA]
  walk_at"vc"
  refine⟨_,ha,fun c H1 hc S1 h1=>?_⟩
  rw[iC (by rw[bH];walk_at"o"),BG] at h1
  have hb1:=hb.same S1
  refine⟨c,rfl,true,⟨_,hb1⟩,true,⟨_,h1⟩,fun d H2 hd S2 h2=>?_⟩
  have ez:(lz m fun i=>V.int (p i)).zip (lz (n - k) fun i=>V.int (W (k+i)))=lz m fun i=>(V.int (p i),V.int (W (k+i))):=DJ (by walk_at"o")
  refine m8 (ps:=(lz m fun i=>V.int (p i)).zip (lz (n - k) fun i=>V.int (W (k+i)))) (fun i zs H'=>aC (vw K H1) (vw K H')/\zs=lz i fun i=>V.int (p i*W (k+i))) (fun i zs H' _ _ q=>⟨_,_,q.1 _ _ hb1,q.1 _ _ h1,oT.symm⟩) h2 ⟨S2,rfl⟩ (fun i u v zs H8 H9 hi huv h9 q S89=>?_) (fun zs H8 h8 q=>?_)
  ·obtain⟨S8,rfl⟩:=q
   rw[ez] at hi huv
   rw[bH] at hi
   rw[dG hi] at huv
   cases huv
   walk_at"vc"
   refine⟨cp (bp i) (bW _) (by decide),.mk2 h9 ?_ fun H10 B10 h10=>⟨fun b o e=>B10 _ _ (aj e hd) (S89 _ _ (S8 _ _ e)),kZ.symm⟩⟩
   rw[bH]
   exact Nat.lt_of_le_of_lt (show i<=20 by walk_at"o") (by decide)
  ·obtain⟨S8,rfl⟩:=q
   rw[ez,bH] at h8
   refine⟨lz m fun i=>p i*W (k+i),by rw[h8,sM],?_⟩
   rw[wA]
   exact h H8 (S1.trans S8)
def tI:Nat->Nat
 | 0=>0
 | n+1=>n+1
theorem oj{W:Nat->Int}(k i:Nat):ca (fun j=>qk W k j*W (i+j)) (k+1)=Lq W k i:=by
 rw[rG]
 exact fA _ fun j _=>Int.mul_comm _ _
theorem wZ{te:TE}{v0 v1 v2 v3 v4 v5 v6 o8 o9:Option V}{t e:Addr}{m N:Nat}{f p:Nat->Int}{c:Int}{H0 H1:Hp}{D:m4}(he:IL (vw K H0) e m p)(ht0:vw K H0 t=none)(S01:aC (vw K H0) (vw K H1))(ht:IL (vw K H1) t N f)(hm:m<=N)
  (hte:∀ i H' (Qk:VK),i<m->Qk (.int (c*p i)) H'->te [v0,v1,v2,v3,v4,v5,v6,some (.ref t),some (.int (i:Nat)),some (.int (p i))] H' Qk)
  (hQ:∀ o8 o9 H',aC (vw K H0) (vw K H')->IL (vw K H') t N (fun j=>f j - if j<m then c*p j else 0)->D.nx [v0,v1,v2,v3,v4,v5,v6,some (.ref t),o8,o9] H') :
  vV (FB K (zr K e)) (jB K 2 (kK (ig 8) (kK (ig 9) u8))) (pV (CQ 7) (CQ 8) te (fun o i H Q=>∃ p,o=V.ref p /\ ∃ k,i=V.int k /\ ∃ xs,vw K H p=some (HO.lst xs) /\ ∃ v,nN xs k=some v/\Q v H) (Fb fun i j=>i - j) (vO K)) D [v0,v1,v2,v3,v4,v5,v6,some (.ref t),o8,o9] H1:=by
 obtain⟨Pv,hPv⟩ : ∃ Pv:Nat->St->Hp->Prop,∀ i σ H',Pv i σ H' ↔ ∃ o8 o9,σ=[v0,v1,v2,v3,v4,v5,v6,some (.ref t),o8,o9]/\aC (vw K H0) (vw K H')/\IL (vw K H') t N (fun j=>f j - if j<i then c*p j else 0):=⟨_,fun _ _ _=>Iff.rfl⟩
 refine jI (rows:=(lz m fun i=>V.int (p i)).mapIdx fun i x=>[V.int i,x]) Pv (fun i σ H' _ q=>?_) ((hPv _ _ _).mpr ⟨_,_,rfl,S01,?_⟩) (fun i r σ H2 q H3 hi hr pv hq S3 h3=>?_) (fun σ H2 pv=>?_)
 ·obtain⟨_,_,_,S,_⟩:=(hPv _ _ _).mp q
  exact⟨_,aN (S _ _ he),rfl⟩
 ·unfold IL at ht ⊢
  rw[ht]
  congr 2
  exact iX fun j hj=>by dsimp only;rw[if_neg (by walk_at"o"),Int.sub_zero]
 ·obtain⟨o8,o9,rfl,S2,l2⟩:=(hPv _ _ _).mp pv
  rw[List.length_mapIdx,bH] at hi
  rw[List.getElem?_mapIdx,dG hi] at hr
  cases hr
  have l3:=l2.same S3
  walk_at"vc"
  simp only[pV,Fb]
  walk_at"vc"
  refine⟨_,h3,rfl,_,_,rfl,_,_,rfl,rfl,_,rfl,_,l3,_,EM (show i<N by walk_at"o"),hte i H3 _ hi ⟨_,rfl,_,rfl,_,rfl,_,l3,i,by rw[bH];exact jm (by walk_at"o"),fun H4 B4 h4=>(hPv _ _ _).mpr ⟨_,_,rfl,fun x o z=>B4 _ _ (aj z ht0) (S3 _ _ (S2 _ _ z)),?_⟩⟩⟩
  unfold IL
  rw[h4,yt]
  congr 2
  refine iX fun j hj=>?_
  dsimp only
  by_cases ej:j=i
  ·rw[if_pos ej,ej,if_neg (by walk_at"o"),if_pos (by walk_at"o"),Int.sub_zero]
  ·rw[if_neg ej]
   by_cases z:j<i
   ·rw[if_pos z,if_pos (by walk_at"o")]
   ·rw[if_neg z,if_neg (by walk_at"o")]
 ·obtain⟨o8,o9,rfl,S2,l2⟩:=(hPv _ _ _).mp pv
  rw[List.length_mapIdx,bH] at l2
  exact hQ _ _ _ S2 l2
def jH(K:W.Frag):Sp:=fun vs H Q _=>∃ (a b c:Addr)(n k:Nat)(W:Nat->Int),vs=[.ref a,.ref b,.ref c]/\IL (vw K H) a n W/\IL (vw K H) b (k+1) (qk W k)/\IL (vw K H) c (tI k) (mC W k)/\2*(k+1)<=n/\k<=5/\(∀ i,Bt 170 (W i))/\(∀ i,i<=k+1->0<Dk W i) /\
 ∀ d H',aC (vw K H) (vw K H')->vw K H d=none->IL (vw K H') d (k+2) (qk W (k+1))->Q (.ref d) H'
theorem tG(F:et K "next_row" "next_row" gf f fd) (T:ff K mg)(C_met:aU P w K mg base "met" ["wholes", "row", "k"] 1 (pS K)):bU P w K mg base el 2 f fd ["wholes", "row", "before"] (jH K):=by
 have scN:=nu.nd
 refine F.okQ nu (fun vs H Q E h=>?_) (fun cdv A outer s H vs Q E hr h=>?_)
 ·obtain⟨_,_,_,_,_,_,rfl,_⟩:=h
  rfl
 ·obtain⟨a,b,c,n,k,W,rfl,ha,hb,hc,hn,hk,bW,hD,h⟩:=h
  refine⟨_,(af (aE (i:=3) scN rfl (by walk_at"a1") (ao cX (am av (by rfl) T.b_len aQ (aa (qv 1) ac)) ae))
   (af (cY (aH (aa (ay cZ (qv 1) (cG bO ae) (fun _ _=>rfl)) (aa (ai C_met (hr.mono (by walk_at"a2")) rfl (aa (qv 0) (aa (qv 1) (aa (qv 3) ac)))) ac))) (bJ (n:=2) rfl (ar (ak (i:=4) scN rfl (by walk_at"a1")) (ar (ak (i:=5) scN rfl (by walk_at"a1")) bI))))
   (af (aE (i:=6) scN rfl (by walk_at"a1") (ao aS (qv 4) (ai C_met (hr.mono (by walk_at"a2")) rfl (aa (qv 0) (aa (qv 1) (aa (ao aV (qv 3) ae) ac))))))
   (af (cj (aL iE (qv 3) ae (aI _)) (ah (kT (i:=6) scN rfl (by walk_at"a1") (ao aS (qv 5) (ay cZ (qv 1) (cG bO ae) (fun _ _=>rfl))) uZ)) aO)
   (af (mh (i:=7) (own:=["number"]) (outs:=["last", "height"]) (ixs:=[4,5]) scN rfl (by walk_at"a1") rfl (cJ (ao aV (aM (aa ae ac)) (qv 1))) rfl ⟨rfl,rfl,rfl,⟨rfl,⟨rfl,trivial⟩⟩,rfl,⟨⟨rfl,rfl,rfl,_,rfl⟩,⟨⟨rfl,rfl,rfl,_,rfl⟩,trivial⟩⟩⟩ (fun _ _ _ _=>⟨(ak (i:=0) (show (["number", "last", "height"]:List Str).Nodup by decide +kernel) rfl (by walk_at"a1")),cS,(ao (show fb _ _ (gO K) from aS) (ao (show fb _ _ (gO K) from aS) (qv 1) (qv 2)) (qv 0))⟩))
   (af (cO PassesOwn.never rfl (jS rfl T.b_enumerate (aa (qv 1) ac)) (bJ (n:=2) rfl (ar (ak (i:=8) scN rfl (by walk_at"a1")) (ar (ak (i:=9) scN rfl (by walk_at"a1")) bI))) (ah (lV (qv 7) (qv 8) iY (ao aS (qv 6) (qv 9)) pH dX)))
   (af (cO PassesOwn.never rfl (jS rfl T.b_enumerate (aa (qv 2) ac)) (bJ (n:=2) rfl (ar (ak (i:=8) scN rfl (by walk_at"a1")) (ar (ak (i:=9) scN rfl (by walk_at"a1")) bI))) (ah (lV (qv 7) (qv 8) iY (ao aS (ao aS (qv 5) (qv 5)) (qv 9)) pH dX)))
   (ah (aq (cL (own:=["number"]) (outs:=["last"]) (ixs:=[4]) rfl (cJ (qv 7)) rfl ⟨rfl,rfl,rfl,⟨rfl,trivial⟩,rfl,⟨⟨rfl,rfl,rfl,_,rfl⟩,trivial⟩⟩ (fun _ _ _ _=>⟨(ak (i:=0) (show (["number", "last"]:List Str).Nodup by decide +kernel) rfl (by walk_at"a1")),cS,(ao pG (qv 0) (ao (show fb _ _ (gO K) from aS) (qv 1) (qv 1)))⟩))))))))))),?_⟩
  walk_at"m"
  have bq:∀ i,Bt 1046 (qk W k i):=fun i=>(qP bW (by walk_at"o")).mono (by decide)
  have bq':∀ i,Bt 2000 (qk W k i):=fun i=>(bq i).mono (by decide)
  have bW':∀ i,Bt 2000 (W i):=fun i=>(bW i).mono (by decide)
  refine aW.gen fun N1 hN1=>?_
  walk_at"vc"
  refine⟨_,hb.len,hN1 _ _ ?_⟩
  rw[show (((k+1:Nat):Int) - 1)=(k:Int) by walk_at"o"]
  refine aW.gen fun N2 hN2=>?_
  walk_at"vc"
  refine⟨_,hb,_,oi,a,b,n,k+1,k,W,qk W k,rfl,ha,hb,by walk_at"o",by walk_at"o",bW',bq',fun H1 S1=>⟨by decide,fun t0 H2 ht0 S2 h2=>⟨t0,rfl,_,h2,rfl,_,_,rfl,_,_,rfl,rfl,hN2 _ _ ?_⟩⟩⟩
  have S02:=S1.trans S2
  rw[oj,ic,gD]
  have bD:Bt 1046 (Dk W k):=(qK bW (by walk_at"o")).mono (by decide)
  have bD1:Bt 1046 (Dk W (k+1)):=(qK bW (by walk_at"o")).mono (by decide)
  have bL:Bt 1046 (Lq W k (k+1)):=(Dp bW (by walk_at"o")).mono (by decide)
  refine aW.gen fun N3 hN3=>?_
  walk_at"vc"
  rw[show (k:Int)+1=((k+1:Nat):Int) by walk_at"o"]
  refine⟨a,b,n,k+1,k+1,W,qk W k,rfl,ha.same S02,hb.same S02,by walk_at"o",by walk_at"o",bW',bq',fun H3 S3=>?_⟩
  rw[oj]
  walk_at"vc"
  refine⟨cp bD bL (by decide),hN3 _ _ ?_⟩
  have S03:=S02.trans S3
  refine aW.gen fun N4 hN4=>?_
  have bM:Bt 2100 (nQ W k):=by
   cases k with
   | zero=>exact (bD.mul bL).mono (by decide)
   | succ m =>
    have h1:Bt 2092 (Dk W (m+1)*Lq W (m+1) (m+2)):=bD.mul bL
    have h2:Bt 2092 (Dk W (m+2)*qk W (m+1) m):=bD1.mul (bq m)
    exact (h1.add h2).mono (by decide)
  have go:N4 [some (.ref a),some (.ref b),some (.ref c),some (.int k),some (.int (Dk W k)),some (.int (Dk W (k+1))),some (.int (nQ W k)),none,none,none] H3:=by
   refine hN4 _ _ ?_
   refine aW.gen fun N5 hN5=>?_
   walk_at"vc"
   refine⟨by decide,fun z0 H4 hz0 S4 h4=>?_⟩
   walk_at"vc"
   refine⟨_,h4,_,S4 _ _ (S03 _ _ hb),?_,fun z1 H5 hz1 S5 h5=>⟨z1,rfl,⟨_,.of (aN h5)⟩,fun t H6 ht S6 h6=>?_⟩⟩
   ·rw[bH]
    exact Nat.le_trans (show _<=20 by simp;walk_at"o") (by decide)
   have e5:[V.int 0] ++ (lz (k+1) fun i=>V.int (qk W k i))=lz (k+2) fun i=>V.int (ym (qk W k) i):=(ox (n:=k+1) (h:=fun i=>V.int (ym (qk W k) i))).symm
   rw[e5] at h5
   have bs:∀ i,Bt 1046 (ym (qk W k) i):=fun i=>by
    cases i with
    | zero=>show Bt 1046 0;decide
    | succ i=>exact bq i
   have bDD:Bt 2092 (Dk W k*Dk W (k+1)):=bD.mul bD1
   refine aY (its:=lz (k+2) fun i=>V.int (ym (qk W k) i)) (fun i zs H'=>aC (vw K H5) (vw K H')/\zs=lz i fun i=>V.int (Dk W k*Dk W (k+1)*ym (qk W k) i)) (fun i zs H' _ _ q=>aX (q.1 _ _ h5)) h6 ⟨S6,rfl⟩ (fun i x zs H8 hi hx h8 q=>?_) (fun zs H8 h8 q=>hN5 _ _ ?_)
   ·obtain⟨S8,rfl⟩:=q
    rw[bH] at hi
    rw[dG hi] at hx
    cases hx
    walk_at"vc"
    refine⟨cp bD bD1 (by decide),cp bDD (bs i) (by decide),.mk h8 ?_ fun H10 B10 h10=>⟨fun b o e=>B10 _ _ (aj e ht) (S8 _ _ e),kZ.symm⟩⟩
    rw[bH]
    exact Nat.lt_of_le_of_lt (show i<=20 by walk_at"o") (by decide)
   obtain⟨S8,rfl⟩:=q
   rw[bH] at h8
   have S35:=S4.trans S5
   have S38:=S35.trans S8
   have ht3:=S35.free ht
   refine aW.gen fun N6 hN6=>?_
   walk_at"vc"
   simp only[ny]
   walk_at"vc"
   refine⟨⟨_,S38 _ _ (S03 _ _ hb)⟩,wZ (p:=qk W k) (c:=nQ W k) (m:=k+1) (N:=k+2) (f:=fun i=>Dk W k*Dk W (k+1)*ym (qk W k) i) (hb.same S03) ht3 S38 h8 (by walk_at"o") (fun i H' Qk hi z=>?_) (fun o8 o9 H9 S9 h9=>hN6 _ _ ?_)⟩
   ·walk_at"vc"
    exact⟨cp bM (bq i) (by decide),z⟩
   refine aW.gen fun N7 hN7=>?_
   walk_at"vc"
   simp only[ny]
   walk_at"vc"
   have bb:∀ i,Bt 1046 (mC W k i):=fun i=>by
    cases k with
    | zero=>show Bt 1046 0;decide
    | succ m=>exact (qP bW (by walk_at"o")).mono (by decide)
   refine⟨⟨_,S9 _ _ (S03 _ _ hc)⟩,wZ (p:=mC W k) (c:=Dk W (k+1)*Dk W (k+1)) (m:=tI k) (N:=k+2) (hc.same S03) ht3 S9 h9 (by cases k <;> simp[tI]) (fun i H' Qk hi z=>?_) (fun o8 o9 Ha Sa ha'=>hN7 _ _ ?_)⟩
   ·walk_at"vc"
    exact⟨cp bD1 bD1 (by decide),cp (bD1.mul bD1) (bb i) (by decide),z⟩
   have hne:∀ i,i<=k+1->Dk W i ≠ 0:=fun i hi=>by have:=hD i hi;walk_at"o"
   have fin:∀ j,j<k+2->(Dk W k*Dk W (k+1)*ym (qk W k) j - if j<k+1 then nQ W k*qk W k j else 0) - (if j<tI k then Dk W (k+1)*Dk W (k+1)*mC W k j else 0)=Dk W k*Dk W k*qk W (k+1) j:=fun j hj=>by
    rw[<- zf hne j]
    have e1:(if j<k+1 then nQ W k*qk W k j else 0)=nQ W k*qk W k j:=by
     by_cases z:j<k+1
     ·rw[if_pos z]
     ·rw[if_neg z,fT (by walk_at"o"),Int.mul_zero]
    have e2:(if j<tI k then Dk W (k+1)*Dk W (k+1)*mC W k j else 0)=Dk W (k+1)*Dk W (k+1)*mC W k j:=by
     by_cases z:j<tI k
     ·rw[if_pos z]
     ·rw[if_neg z]
      cases k with
      | zero=>show _=_*(0:Int);rw[Int.mul_zero]
      | succ m =>
       show _=_*qk W m j
       rw[fT (by simp only[tI] at z;walk_at"o"),Int.mul_zero]
    rw[e1,e2]
   have h11:IL (vw K Ha) t (k+2) (fun j=>Dk W k*Dk W k*qk W (k+1) j):=by
    unfold IL at ha' ⊢
    rw[ha']
    congr 2
    exact iX fun j hj=>congrArg V.int (fin j hj)
   walk_at"vc"
   refine⟨⟨_,.of (aN h11)⟩,fun d Hb hd Sb hb2=>?_⟩
   have hD0:Dk W k ≠ 0:=hne k (by walk_at"o")
   have bk1:∀ i,Bt 1046 (qk W (k+1) i):=fun i=>(zG bW (by walk_at"o")).mono (by decide)
   refine aY (its:=lz (k+2) fun j=>V.int (Dk W k*Dk W k*qk W (k+1) j)) (fun i zs H'=>aC (vw K Ha) (vw K H')/\zs=lz i fun i=>V.int (qk W (k+1) i)) (fun i zs H' _ _ q=>aX (q.1 _ _ h11)) hb2 ⟨Sb,rfl⟩ (fun i x zs Hc hi hx hc' q=>?_) (fun zs Hc hc' q=>?_)
   ·obtain⟨Sc,rfl⟩:=q
    rw[bH] at hi
    rw[dG hi] at hx
    cases hx
    walk_at"vc"
    have hDD:Dk W k*Dk W k ≠ 0:=Int.mul_ne_zero hD0 hD0
    refine⟨cp bD bD (by decide),EK hDD ((bD.mul bD).mono (by decide)),?_⟩
    rw[Int.mul_comm (Dk W k*Dk W k) (qk W (k+1) i),Int.mul_fdiv_cancel _ hDD]
    refine .mk hc' ?_ fun H10 B10 h10=>⟨fun b o e=>B10 _ _ (aj e hd) (Sc _ _ e),kZ.symm⟩
    rw[bH]
    exact Nat.lt_of_le_of_lt (show i<=20 by walk_at"o") (by decide)
   ·obtain⟨Sc,rfl⟩:=q
    rw[bH] at hc'
    exact h d Hc (S03.trans (Sa.trans Sc)) ((S03.trans Sa).free hd) hc'
  walk_at"vc"
  cases k with
  | zero=>exact gM (by decide) go
  | succ m =>
   refine jx (by walk_at"o") ⟨_,S03 _ _ hb,_,yV,?_⟩
   rw[ix]
   exact⟨cp bD1 (bq m) (by decide),_,_,rfl,rfl,go⟩
def pP(G:Hp)(R:Addr)(W:Nat->Int)(n:Nat):Prop:=∃ as:List Addr,G R=some (.lst (as.map V.ref))/\as.length=n /\ ∀ i x,as[i]? = some x->IL G x (i+1) (qk W i)
theorem pP.same{G G':Hp}{R:Addr}{W:Nat->Int}{n:Nat}(h:pP G R W n)(S:aC G G'):pP G' R W n:=by
 obtain⟨as,h1,h2,h3⟩:=h
 exact⟨as,S _ _ h1,h2,fun i x e=>(h3 i x e).same S⟩
theorem Dl{G:Hp}{R x:Addr}{as:List Addr}{n:Nat}{p:Nat->Int}(h:G R=some (.lst (as.map V.ref)))(h0:as ≠ [])(hx:IL G x n p):x ≠ R:=fun e=>by
 unfold IL at hx
 rw[e,h] at hx
 cases as with
 | nil=>exact h0 rfl
 | cons a as =>
  cases n with
  | zero=>cases hx
  | succ n =>
   rw[ox] at hx
   cases hx
theorem oZ{α:Type}{xs:List α}{n:Nat}{x:α}(hl:xs.length=n+1)(h:xs[n]? = some x):nN xs (-1)=some x:=dc (by rw[List.getLast?_eq_getElem?,hl];exact h)
theorem FX{W:Nat->Int}:qk W 0 0=1:=by rw[gD,DT]
def fV(K:W.Frag):Sp:=fun vs H Q _=>∃ (a:Addr)(n:Nat)(W:Nat->Int),vs=[.ref a]/\IL (vw K H) a n W/\n<=12/\(∀ i,Bt 170 (W i)) /\
 ∀ R H' k,aC (vw K H) (vw K H')->pP (vw K H') R W (k+1)->k<=6->(∀ i,i<=k->0<Dk W i/\2*i<=n)->(n<2*(k+1)\/Dk W (k+1)<=0)->Q (.ref R) H'
theorem rH(F:et K "step_rows" "step_rows" fG f fd) (T:ff K mg)(C_met:aU P w K mg base "met" ["wholes", "row", "k"] 1 (pS K)) (C_next_row:aU P w K mg base "next_row" ["wholes", "row", "before"] 2 (jH K)):bU P w K mg base el 3 f fd ["wholes"] (fV K):=by
 have scN:=mo.nd
 refine F.okQ mo (fun vs H Q E h=>?_) (fun cdv A outer s H vs Q E hr h=>?_)
 ·obtain⟨_,_,_,rfl,_⟩:=h
  rfl
 ·obtain⟨a,n,W,rfl,ha,hn,bW,h⟩:=h
  refine⟨_,(af (aE (i:=1) scN rfl (by walk_at"a1") (aM (aa (aM (aa ae ac)) ac)))
   (af (aE (i:=2) scN rfl (by walk_at"a1") (aM ac))
   (af (ir PassesOwn.never (QW.pt (mN (aL Db (ao aS ae (am av (by rfl) T.b_len aQ (aa (qv 1) ac))) (am av (by rfl) T.b_len aQ (aa (qv 0) ac)) (aI _)) (kv (aL iE (ai C_met (hr.mono (by walk_at"a2")) rfl (aa (qv 0) (aa (ay cZ (qv 1) (cG bO ae) (fun _ _=>rfl)) (aa (ao cX (am av (by rfl) T.b_len aQ (aa (qv 1) ac)) ae) ac)))) ae (aI _))))) (af (aE (i:=3) scN rfl (by walk_at"a1") (ai C_next_row (hr.mono (by walk_at"a2")) rfl (aa (qv 0) (aa (ay cZ (qv 1) (cG bO ae) (fun _ _=>rfl)) (aa (qv 2) ac)))))
   (af (aE (i:=2) scN rfl (by walk_at"a1") (ay cZ (qv 1) (cG bO ae) (fun _ _=>rfl)))
   (ah (lZ (tU PySem.F.plainAttrs_list PySem.F.slot_list_append PySem.F.type_list_append ik (qv 1) (aa (qv 3) ac)))))))
   (ah (aq (qv 1)))))),?_⟩
  walk_at"m"
  have bW':∀ i,Bt 2000 (W i):=fun i=>(bW i).mono (by decide)
  refine aW.gen fun N1 hN1=>?_
  walk_at"vc"
  refine⟨by decide,fun r0 H1 hr0 S1 h1=>⟨by decide,fun R H2 hR S2 h2=>hN1 _ _ ?_⟩⟩
  refine aW.gen fun N2 hN2=>?_
  walk_at"vc"
  refine⟨Nat.zero_le _,fun bf H3 hbf S3 h3=>hN2 _ _ ?_⟩
  refine aW.gen fun N3 hN3=>?_
  have S03:=S1.trans (S2.trans S3)
  have hR0:vw K H R=none:=S1.free hR
  refine⟨fun m σ H'=>∃ (bf:Addr)(k:Nat)(o:Option V),m=20 - k/\k<=6/\σ=[some (.ref a),some (.ref R),some (.ref bf),o]/\aC (vw K H) (vw K H')/\pP (vw K H') R W (k+1)/\IL (vw K H') bf (tI k) (mC W k) /\ ∀ i,i<=k->0<Dk W i/\2*i<=n,⟨20,bf,0,none,rfl,by decide,rfl,S03,⟨[r0],S3 _ _ h2,rfl,fun i x e=>?_⟩,h3,fun i hi=>?_⟩,?_⟩
  ·cases i with
   | zero =>
    cases e
    show vw K H3 r0=some (.lst (lz 1 fun i=>V.int (qk W 0 i)))
    rw[(S2.trans S3) _ _ h1,ox,FX]
    rfl
   | succ i=>simp at e
  ·have:i=0:=by walk_at"o"
   rw[this,DT]
   exact⟨by decide,by walk_at"o"⟩
  rintro m σ H4 ⟨bf,k,o,rfl,hk,rfl,S4,rw4,b4,hD⟩
  obtain⟨as,hR4,las,has⟩:=id rw4
  have h0:as ≠ []:=fun z=>by rw[z] at las;cases las
  obtain⟨x,hx⟩ : ∃ x,as[k]? = some x:=⟨as[k],List.getElem?_eq_getElem (by walk_at"o")⟩
  have lx:=has k x hx
  have hx':nN (as.map V.ref) (-1)=some (.ref x):=oZ (n:=k) (by rw[List.length_map,las]) (by rw[List.getElem?_map,hx];rfl)
  have done:n<2*(k+1)\/Dk W (k+1)<=0 -> ∀ H5,aC (vw K H4) (vw K H5)->N3 [some (.ref a),some (.ref R),some (.ref bf),o] H5:=fun hd H5 S5=>by
   refine hN3 _ _ ?_
   walk_at"vc"
   exact h R H5 k (S4.trans S5) (rw4.same S5) hk hD hd
  have lR:eU (vw K H4) R=some (k+1):=by
   simp only[eU,hR4]
   rw[List.length_map,las]
  walk_at"vc"
  refine⟨k+1,lR,j8 (by decide),n,(ha.same S4).len,bY (fun e1=>⟨_,hR4,_,hx',k+1,lR,?_⟩) (fun e1=>done (.inl (by walk_at"o")) H4 (fun _ _ z=>z))⟩
  rw[show (((k+1:Nat):Int) - 1)=(k:Int) by walk_at"o"]
  have bq':∀ i,Bt 2000 (qk W k i):=fun i=>(zG bW (by walk_at"o")).mono (by decide)
  refine⟨a,x,n,k+1,k,W,qk W k,rfl,ha.same S4,lx,by walk_at"o",by walk_at"o",bW',bq',fun H5 S5=>⟨_,rfl,?_⟩⟩
  rw[oj,ic]
  refine bY (fun e2=>⟨_,fun σ' H' z=>z,_,S5 _ _ hR4,_,hx',?_⟩) (fun e2=>done (.inr (by walk_at"o")) H5 S5)
  have hn2:2*(k+1)<=n:=by walk_at"o"
  have S45:=S4.trans S5
  refine⟨a,x,bf,n,k,W,rfl,ha.same S45,lx.same S5,b4.same S5,hn2,by walk_at"o",bW,fun i hi=>?_,fun d H6 S6 hd l6=>?_⟩
  ·by_cases z:i<=k
   ·exact (hD i z).1
   ·rw[show i=k+1 by walk_at"o"]
    exact e2
  have S46:=S5.trans S6
  refine⟨_,S46 _ _ hR4,_,hx',mH (S46 _ _ hR4),_,S46 _ _ hR4,?_,fun H7 B7 h7=>⟨20 - (k+1),by walk_at"o",x,k+1,rfl,by walk_at"o",⟨_,rfl⟩,fun y o e=>B7 _ _ (aj e hR0) (S46 _ _ (S4 _ _ e)),⟨as ++ [d],?_,by rw[List.length_append,las];rfl,fun i y e=>?_⟩,?_,fun i hi=>?_⟩⟩
  ·rw[List.length_map,las]
   exact Nat.lt_of_le_of_lt (show _<=20 by walk_at"o") (by decide)
  ·rw[h7,List.map_append]
   rfl
  ·have l7:IL (vw K H6) y (i+1) (qk W i):=by
    by_cases z:i<as.length
    ·rw[List.getElem?_append_left z] at e
     exact (has i y e).same S46
    ·rw[List.getElem?_append_right (by walk_at"o")] at e
     have:i=k+1:=by
      have h1:=(List.getElem?_eq_some_iff.mp e).1
      simp at h1
      walk_at"o"
     rw[this,las,Nat.sub_self] at e
     cases e
     rw[this]
     exact l6
   exact B7 _ _ (Dl (S46 _ _ hR4) h0 l7) l7
  ·exact B7 _ _ (Dl (S46 _ _ hR4) h0 (lx.same S46)) (lx.same S46)
  ·by_cases z:i<=k
   ·exact hD i z
   ·rw[show i=k+1 by walk_at"o"]
    exact⟨e2,by walk_at"o"⟩
structure gH (W:Nat->Int)(B:Int)(k:Nat)(c:List (Int × Int) × (Int × Int)):Prop where
 po:aR c.1
 num:∀ j,cf c.1 j=((qk W k j:Int):Rat) / ((Dk W k:Int):Rat)
 fq:Fq c.2
 sqv:wv c.2=((Dk W (k+1):Int):Rat) / ((Dk W k*B:Int):Rat)
def lW(G:Hp)(t:Addr)(pss:List (List (Int × Int) × (Int × Int)))(Pr:Addr->Prop):Prop:=∃ xs,G t=some (.lst xs)/\xs.length=pss.length /\ ∀ (k:Nat) c,pss[k]? = some c -> ∃ (x l:Addr)(v:V),xs[k]? = some (.ref x)/\G x=some (.tup [.ref l,v])/\aP G l c.1/\aF G (fr c.2) v/\Pr l
structure uz (qs:List (Int × Int))(W:Nat->Int)(B:Int):Prop where
 pos:0<B
 val:∀ i,((W i:Int):Rat)=cf qs i*(B:Rat)
 least:∀ E:Int,(∀ q ∈ qs,q.2 ∣ E)->B ∣ E
 bt:∀ i,Bt 170 (W i)
theorem uz.dvd{qs:List (Int × Int)}{W:Nat->Int}{B:Int}(h:uz qs W B)(hF:∀ q ∈ qs,Fq q):∀ q ∈ qs,q.2 ∣ B:=fun q hq=>by
 obtain⟨i,hi,rfl⟩:=List.getElem_of_mem hq
 have e:=h.val i
 rw[aZ (List.getElem?_eq_getElem hi)] at e
 have c1:(B:Rat) ≠ 0:=aD (by have:=h.pos;walk_at"o")
 exact jK (n:=W i) (hF _ hq) (by have:=h.pos;walk_at"o") (by rw[e];grind)
theorem uz.uniq{qs:List (Int × Int)}{W W':Nat->Int}{B B':Int}(h:uz qs W B)(h':uz qs W' B')(hF:∀ q ∈ qs,Fq q):B=B'/\W=W':=by
 have e:B=B':=Int.dvd_antisymm (Int.le_of_lt h.pos) (Int.le_of_lt h'.pos) (h.least _ (h'.dvd hF)) (h'.least _ (h.dvd hF))
 refine⟨e,funext fun i=>?_⟩
 have:=h.val i
 rw[e,<- h'.val i] at this
 exact Rat.intCast_inj.mp this
theorem lW.same{G G':Hp}{t:Addr}{pss:List (List (Int × Int) × (Int × Int))}{Pr:Addr->Prop}(h:lW G t pss Pr)(S:aC G G'):lW G' t pss Pr:=by
 obtain⟨xs,h1,h2,h3⟩:=h
 refine⟨xs,S _ _ h1,h2,fun k c e=>?_⟩
 obtain⟨x,l,v,e1,e2,e3,e4,e5⟩:=h3 k c e
 exact⟨x,l,v,e1,S _ _ e2,e3.same S,aF.same S _ _ e4,e5⟩
structure BB (W:Nat->Int)(n M:Nat):Prop where
 one:1<=M
 up:∀ i,i<M->0<Dk W i
 most:2*M<=n+1
 all:n<=2*M\/Dk W M<=0
def mf(K:W.Frag):Sp:=fun vs H Q _=>∃ (a:Addr)(qs:List (Int × Int)),vs=[.ref a]/\aP (vw K H) a qs/\1<=qs.length/\qs.length<=11/\(∀ q ∈ qs,ma q) /\
 ∀ (t:Addr) H' W B pss,aC (vw K H) (vw K H')->vw K H t=none->uz qs W B->BB W qs.length pss.length->lW (vw K H') t pss (fun l=>vw K H l=none/\l ≠ t)->(∀ k c,pss[k]? = some c->gH W B k c)->Q (.ref t) H'
theorem yO(F:et K "steps" "steps" ko f fd) (T:ff K mg)(C_cleared:aU P w K mg base "cleared" ["f"] 2 (bC K)) (C_step_rows:aU P w K mg base "step_rows" ["wholes"] 3 (fV K)) (C_divided:aU P w K mg base "divided" ["wholes", "bottom"] 3 (da K)) (C_ratio:aU P w K mg base "ratio" ["top", "bottom"] 2 (eC K)) (C_met:aU P w K mg base "met" ["wholes", "row", "k"] 1 (pS K)):bU P w K mg base el 4 f fd ["sums"] (mf K):=by
 have scN:=ui.nd
 refine F.okQ ui (fun vs H Q E h=>?_) (fun cdv A outer s H vs Q E hr h=>?_)
 ·obtain⟨_,_,rfl,_⟩:=h
  rfl
 ·obtain⟨a,qs,rfl,ha,n1,n2,hq,h⟩:=h
  refine⟨_,(af (cY (ai C_cleared (hr.mono (by walk_at"a2")) rfl (aa (qv 0) ac)) (bJ (n:=2) rfl (ar (ak (i:=1) scN rfl (by walk_at"a1")) (ar (ak (i:=2) scN rfl (by walk_at"a1")) bI))))
   (af (aE (i:=3) scN rfl (by walk_at"a1") (aM ac))
   (af (cO PassesOwn.never rfl (jS rfl T.b_enumerate (aa (ai C_step_rows (hr.mono (by walk_at"a2")) rfl (aa (qv 1) ac)) ac)) (bJ (n:=2) rfl (ar (ak (i:=4) scN rfl (by walk_at"a1")) (ar (ak (i:=5) scN rfl (by walk_at"a1")) bI))) (ah (cj (aL kF (ao aS ae (qv 4)) (am av (by rfl) T.b_len aQ (aa (qv 0) ac)) (aI _)) (ah (lZ (tU PySem.F.plainAttrs_list PySem.F.slot_list_append PySem.F.type_list_append ik (qv 3) (aa (aH (aa (ai C_divided (hr.mono (by walk_at"a2")) rfl (aa (qv 5) (aa (ay cZ (qv 5) (cG bO ae) (fun _ _=>rfl)) ac))) (aa (ai C_ratio (hr.mono (by walk_at"a2")) rfl (aa (ai C_met (hr.mono (by walk_at"a2")) rfl (aa (qv 1) (aa (qv 5) (aa (qv 4) ac)))) (aa (ao aS (ay cZ (qv 5) (cG bO ae) (fun _ _=>rfl)) (qv 2)) ac))) ac))) ac)))) aO)))
   (ah (aq (qv 3)))))),?_⟩
  walk_at"m"
  have hF:∀ q ∈ qs,Fq q:=fun q z=>(hq q z).1
  refine aW.gen fun N1 hN1=>?_
  walk_at"vc"
  simp only[bC]
  refine⟨a,qs,131,rfl,ha,by walk_at"o",by decide,fun q z=>⟨(hq q z).1,(hq q z).2.1⟩,fun p b H1 B ns S1 h1 hb nb hB _ ln hn hm=>⟨p,rfl,_,h1,rfl,_,_,rfl,_,_,rfl,rfl,hN1 _ _ ?_⟩⟩
  have hc2:=iu (sf hq) hF hB hm ln fun i n q e1 e2=>(hn i n q e1 e2).1
  have clr:uz qs (nz ns) B:=⟨hB,fS ln fun i n q e1 e2=>(hn i n q e1 e2).1,hm,jz hc2.2⟩
  have lb:IL (vw K H1) b qs.length (nz ns):=by
   unfold IL
   rw[hb]
   congr 2
   exact oI (by rw[List.length_map,ln]) fun i hi=>by
    have hi':i<ns.length:=by walk_at"o"
    rw[List.getElem?_map,List.getElem?_eq_getElem hi',cM (List.getElem?_eq_getElem hi')]
    rfl
  refine aW.gen fun N2 hN2=>?_
  walk_at"vc"
  refine⟨Nat.zero_le _,fun t H2 ht S2 h2=>hN2 _ _ ?_⟩
  refine aW.gen fun N3 hN3=>?_
  walk_at"vc"
  simp only[ny]
  walk_at"vc"
  refine⟨b,qs.length,nz ns,rfl,lb.same S2,by walk_at"o",clr.bt,fun R H3 k S3 rw3 hk hD hend=>?_⟩
  walk_at"vc"
  obtain⟨as,hR,las,has⟩:=id rw3
  obtain⟨W,hW⟩ : ∃ W,W=nz ns:=⟨_,rfl⟩
  rw[<- hW] at clr lb hD hend has
  have h23:=S3 _ _ h2
  have S03:=S1.trans (S2.trans S3)
  have ht0:vw K H t=none:=S1.free ht
  have nR:R ≠ t:=fun z=>by
   rw[z,h23] at hR
   cases as with
   | nil=>cases las
   | cons x as=>cases hR
  have nx:∀ i x,as[i]? = some x->x ≠ t:=fun i x e z=>by
   have:=has i x e
   unfold IL at this
   rw[z,h23,ox] at this
   cases this
  have bD:∀ i,i<=6->Bt 1046 (Dk W i):=fun i hi=>(qK clr.bt hi).mono (by decide)
  have bB:Bt 170 B:=hc2.1
  obtain⟨Pv,hPv⟩ : ∃ Pv:Nat->St->Hp->Prop,∀ i σ H',Pv i σ H' ↔ ∃ (o4 o5:Option V)(pss:List (List (Int × Int) × (Int × Int))),σ=[some (.ref a),some (.ref b),some (.int B),some (.ref t),o4,o5]/\fh t (vw K H3) (vw K H')/\lW (vw K H') t pss (fun l=>vw K H l=none/\l ≠ t)/\pss.length=min i ((qs.length+1) / 2) /\ ∀ k c,pss[k]? = some c->gH W B k c:=⟨_,fun _ _ _=>Iff.rfl⟩
  refine⟨⟨_,hR⟩,jI (rows:=(as.map V.ref).mapIdx fun i x=>[V.int i,x]) Pv (fun i σ H' _ q=>?_) ((hPv _ _ _).mpr ⟨_,_,[],rfl,fun _ _ _ z=>z,⟨[],h23,rfl,fun k c e=>by simp at e⟩,by simp,fun k c e=>by simp at e⟩) (fun i r σ H4 q H5 hi hr pv hq S5 h5=>?_) (fun σ H4 pv=>?_)⟩
  ·obtain⟨_,_,_,_,B',_⟩:=(hPv _ _ _).mp q
   exact⟨_,aN (B' _ _ nR hR),rfl⟩
  ·obtain⟨o4,o5,pss,rfl,B4,st4,lp,ok4⟩:=(hPv _ _ _).mp pv
   rw[List.length_mapIdx,List.length_map,las] at hi
   have hia:i<as.length:=by walk_at"o"
   rw[List.getElem?_mapIdx,List.getElem?_map,List.getElem?_eq_getElem hia] at hr
   cases hr
   obtain⟨x,hx⟩ : ∃ x,as[i]? = some x:=⟨_,List.getElem?_eq_getElem hia⟩
   have ex:as[i]=x:=by
    rw[List.getElem?_eq_getElem hia] at hx
    exact Option.some.inj hx
   have B5:fh t (vw K H3) (vw K H5):=B4.same_trans S5
   have lx:IL (vw K H5) x (i+1) (qk W i):=B5 _ _ (nx i x hx) (has i x hx)
   have S05:aC (vw K H) (vw K H5):=fun y o e=>B5 _ _ (aj e ht0) (S03 _ _ e)
   have lb5:IL (vw K H5) b qs.length W:=B5 _ _ (aj lb ht) ((S2.trans S3) _ _ lb)
   have st5:=st4.same S5
   walk_at"vc"
   refine⟨_,h5,rfl,_,_,rfl,_,_,rfl,rfl,?_⟩
   rw[ix,ex]
   refine⟨j8 (by decide),_,(ha.same S05).len,_,rfl,bY (fun e1=>?_) (fun e1=>?_)⟩
   ·obtain⟨xs,hxs,lxs,hxs'⟩:=id st5
    have lpi:pss.length=i:=by walk_at"o"
    have hDi:=hD i (by walk_at"o")
    have dn:Dk W i ≠ 0:=by walk_at"o"
    have dB:Dk W i*B ≠ 0:=Int.mul_ne_zero dn (by walk_at"o")
    have eN:lz (i+1) (fun j=>V.int (qk W i j))=(lz (i+1) fun j=>qk W i j).map V.int:=by rw[sM]
    refine⟨mH hxs,x,rfl,_,lx,_,oi,?_⟩
    rw[gD]
    refine⟨x,lz (i+1) fun j=>qk W i j,Dk W i,rfl,by rw[<- eN];exact lx,by rw[bH];walk_at"o",dn,(bD i (by walk_at"o")).mono (by decide),fun c H6 rs S6 lc nc po cf6 _ _=>?_⟩
    have bq':∀ j,Bt 2000 (qk W i j):=fun j=>(qP clr.bt (by walk_at"o")).mono (by decide)
    refine⟨b,x,qs.length,i+1,i,W,qk W i,rfl,lb5.same S6,lx.same S6,by walk_at"o",by walk_at"o",fun j=>(clr.bt j).mono (by decide),bq',fun H7 S7=>⟨x,rfl,_,(S6.trans S7) _ _ lx,_,oi,?_⟩⟩
    rw[oj,ic,gD,ix]
    refine⟨cp (bD i (by walk_at"o")) bB (by decide),Dk W (i+1),Dk W i*B,rfl,dB,((bD i (by walk_at"o")).mul bB).mono (by decide),fun v H8 S8 r8=>⟨by decide,fun y H9 hy S9 h9=>?_⟩⟩
    have S59:=S6.trans (S7.trans (S8.trans S9))
    refine⟨xs,S59 _ _ hxs,?_,fun Ha Ba ha2=>?_⟩
    ·rw[lxs,lpi]
     exact Nat.lt_of_le_of_lt (show i<=20 by walk_at"o") (by decide)
    have nct:c ≠ t:=fun z=>by
     rw[z,hxs] at nc
     cases nc
    have hxs9:=S59 _ _ hxs
    refine (hPv _ _ _).mpr ⟨_,_,pss ++ [(rs,lo (Dk W (i+1)) (Dk W i*B))],rfl,(B5.same_trans S59).trans Ba,⟨_,ha2,by rw[List.length_append,List.length_append,lxs];rfl,fun m d e=>?_⟩,by rw[List.length_append,lpi];simp;walk_at"o",fun m d e=>?_⟩
    ·by_cases z:m<pss.length
     ·rw[List.getElem?_append_left z] at e
      obtain⟨x',l,v',e1',e2',e3',e4',e5'⟩:=hxs' m d e
      have e2s:=S59 _ _ e2'
      refine⟨x',l,v',by rw[List.getElem?_append_left (by walk_at"o")];exact e1',Ba _ _ (fun z=>by rw[z,hxs9] at e2s;cases e2s) e2s,(e3'.same S59).but hxs9 e5'.2 Ba,aF.flat_but hxs9 Ba _ _ (ce _) (aF.same S59 _ _ e4'),e5'⟩
     ·rw[List.getElem?_append_right (by walk_at"o")] at e
      have hm0:m - pss.length=0:=by
       have:=(List.getElem?_eq_some_iff.mp e).1
       simp at this
       walk_at"o"
      rw[hm0] at e
      cases e
      refine⟨y,c,v,by rw[List.getElem?_append_right (by walk_at"o"),lxs,hm0];rfl,Ba _ _ (fun z=>by rw[z,hxs9] at h9;cases h9) h9,(lc.same (S7.trans (S8.trans S9))).but hxs9 nct Ba,aF.flat_but hxs9 Ba _ _ (ce _) (aF.same S9 _ _ r8),S05.free nc,nct⟩
    ·by_cases z:m<pss.length
     ·rw[List.getElem?_append_left z] at e
      exact ok4 m d e
     ·rw[List.getElem?_append_right (by walk_at"o")] at e
      have hm0:m - pss.length=0:=by
       have:=(List.getElem?_eq_some_iff.mp e).1
       simp at this
       walk_at"o"
      rw[hm0] at e
      cases e
      rw[show m=i by walk_at"o"]
      refine⟨po,fun j=>?_,iS dB,iQ dB⟩
      rw[cf6 j]
      congr 2
      by_cases z2:j<i+1
      ·rw[cM (dG z2)]
      ·rw[dg (by rw[bH];walk_at"o"),fT (by walk_at"o")]
   ·exact (hPv _ _ _).mpr ⟨_,_,pss,rfl,B5,st5,by walk_at"o",ok4⟩
  ·obtain⟨o4,o5,pss,rfl,B4,st4,lp,ok4⟩:=(hPv _ _ _).mp pv
   rw[List.length_mapIdx,List.length_map,las] at lp
   refine hN3 _ _ ?_
   walk_at"vc"
   refine h t H4 W B pss (fun y o e=>B4 _ _ (aj e ht0) (S03 _ _ e)) ht0 clr ⟨by walk_at"o",fun i hi=>(hD i (by walk_at"o")).1,by walk_at"o",?_⟩ st4 ok4
   by_cases z:(qs.length+1) / 2<=k+1
   ·exact .inl (by walk_at"o")
   ·rcases hend with y|y
    ·exact .inl (by walk_at"o")
    ·right
     rw[show pss.length=k+1 by walk_at"o"]
     exact y
def gx(K:W.Frag):Sp:=fun vs H Q _=>∃ (a b:Addr)(qs fs:List (Int × Int)),vs=[.ref a,.ref b]/\aP (vw K H) a qs/\aP (vw K H) b fs/\fs.length<=qs.length/\qs.length<=12/\fs.length<=12/\(∀ q ∈ qs,Fq q/\Bq 131 q)/\(∀ q ∈ fs,Fq q/\Bq 290000 q) /\
 ∀ v H' r,aC (vw K H) (vw K H')->aF (vw K H') (fr r) v->Fq r->wv r=bZ (cf fs) (cf qs) fs.length->Q v H'
theorem AO(F:et K "worth" "worth" j7 f fd) (T:ff K mg)(C_cleared:aU P w K mg base "cleared" ["f"] 2 (bC K)) (C_ratio:aU P w K mg base "ratio" ["top", "bottom"] 2 (eC K)):bU P w K mg base el 3 f fd ["sums", "f"] (gx K):=by
 have scN:=t9.nd
 refine F.okQ t9 (fun vs H Q E h=>?_) (fun cdv A outer s H vs Q E hr h=>?_)
 ·obtain⟨a,_,_,_,rfl,_⟩:=h
  rfl
 ·obtain⟨a,b,qs,fs,rfl,ha,hb,lf,lq,lf6,hq,hf,h⟩:=h
  refine⟨_,(af (cj (aL iE (am av (by rfl) T.b_len aQ (aa (qv 1) ac)) (am av (by rfl) T.b_len aQ (aa (qv 0) ac)) (aI _)) (ah tQ) aO)
   (af (cY (ai C_cleared (hr.mono (by walk_at"a2")) rfl (aa (qv 1) ac)) (bJ (n:=2) rfl (ar (ak (i:=2) scN rfl (by walk_at"a1")) (ar (ak (i:=3) scN rfl (by walk_at"a1")) bI))))
   (af (cY (ai C_cleared (hr.mono (by walk_at"a2")) rfl (aa (ci gB (qv 0) cy (cC (am av (by rfl) T.b_len aQ (aa (qv 1) ac)))) ac)) (bJ (n:=2) rfl (ar (ak (i:=4) scN rfl (by walk_at"a1")) (ar (ak (i:=5) scN rfl (by walk_at"a1")) bI))))
   (ah (aq (ai C_ratio (hr.mono (by walk_at"a2")) rfl (aa (am (qp rfl) (by rfl) T.b_sum zE (aa (cL (own:=["number", "whole"]) (outs:=[]) (ixs:=[]) rfl (uI rfl T.b_zip (aa (qv 2) (aa (qv 4) ac))) rfl ⟨rfl,rfl,rfl,trivial,rfl,trivial⟩ (fun _ _ _ _=>⟨(show QG _ _ (jB K 2 _) from bJ (n:=2) rfl (ar (ak (i:=0) (show (["number", "whole"]:List Str).Nodup by decide +kernel) rfl (by walk_at"a1")) (ar (ak (i:=1) (show (["number", "whole"]:List Str).Nodup by decide +kernel) rfl (by walk_at"a1")) bI))),cS,(ao (show fb _ _ (gO K) from aS) (qv 0) (qv 1))⟩)) ac)) (aa (ao aS (qv 3) (qv 5)) ac)))))))),?_⟩
  walk_at"m"
  walk_at"vc"
  refine⟨_,hb.len,_,ha.len,?_⟩
  refine gM (by walk_at"o") ?_
  walk_at"vc"
  simp only[bC]
  walk_at"vc"
  refine⟨fs,hb,by walk_at"o",290000,by decide,hf,fun p1 a1 H1 D1 ms S1 h1 ha1 _ hD1 bD1 lm hm _=>⟨_,h1,rfl,?_⟩⟩
  walk_at"vc"
  obtain⟨xs,hxs,rxs⟩:=id (ha.same S1)
  have hlx:xs.length=qs.length:=by rw[rxs.length,List.length_map]
  refine⟨_,(hb.same S1).len,xs,hxs,fun p2 H2 hp2 S2 h2=>?_⟩
  rw[pO (by walk_at"o")] at h2
  have lt:aP (vw K H2) p2 (qs.take fs.length):=⟨_,h2,by rw[List.map_take];exact (rxs.take _).same S2⟩
  walk_at"vc"
  have lt':(qs.take fs.length).length=fs.length:=by rw[List.length_take];walk_at"o"
  refine⟨_,lt,by walk_at"o",131,by decide,fun q z=>hq q (List.mem_of_mem_take z),fun p3 a3 H3 D2 ns S3 h3 ha3 _ hD2 bD2 ln hn _=>⟨_,h3,rfl,_,_,rfl,_,_,rfl,rfl,?_⟩⟩
  rw[lt'] at bD2 ln hn
  have ha13:=(S2.trans S3) _ _ ha1
  walk_at"vc"
  simp only[yA]
  walk_at"vc"
  refine⟨true,⟨_,ha13⟩,true,⟨_,ha3⟩,fun c H4 hc4 S4 h4=>?_⟩
  have ez:List.zipWith (· * ·) ms ns=lz fs.length fun i=>nz ms i*nz ns i:=by
   refine List.ext_getElem? fun i=>?_
   by_cases hi:i<fs.length
   ·have h1:i<ms.length:=by walk_at"o"
    have h2:i<ns.length:=by walk_at"o"
    rw[dG hi,List.getElem?_zipWith,List.getElem?_eq_getElem h1,List.getElem?_eq_getElem h2,cM (List.getElem?_eq_getElem h1),cM (List.getElem?_eq_getElem h2)]
   ·rw[List.getElem?_eq_none (by rw[List.length_zipWith];walk_at"o"),List.getElem?_eq_none (by rw[bH];walk_at"o")]
  refine m8 (ps:=(ms.map V.int).zip (ns.map V.int)) (fun i zs H'=>aC (vw K H3) (vw K H')/\zs=((List.zipWith (· * ·) ms ns).take i).map V.int) (fun i zs H' _ _ p=>⟨_,_,p.1 _ _ ha13,p.1 _ _ ha3,oT.symm⟩) h4 ⟨S4,rfl⟩ (fun i u v zs H8 H9 hi huv h9 p S89=>?_) (fun zs H8 h8 p=>?_)
  ·obtain⟨S8,rfl⟩:=p
   rw[List.getElem?_zip_eq_some,List.getElem?_map,List.getElem?_map] at huv
   have li:i<ms.length/\i<ns.length:=by
    simp at hi
    walk_at"o"
   rw[List.getElem?_eq_getElem li.1,List.getElem?_eq_getElem li.2] at huv
   obtain⟨e1,e2⟩:=huv
   cases e1
   cases e2
   have w1:=(hm i _ _ (List.getElem?_eq_getElem li.1) (List.getElem?_eq_getElem (show i<fs.length by walk_at"o"))).2
   have w2:=(hn i _ _ (List.getElem?_eq_getElem li.2) (List.getElem?_eq_getElem (show i<(qs.take fs.length).length by walk_at"o"))).2
   walk_at"vc"
   refine⟨cp w1 w2 (by walk_at"o"),.mk2 h9 ?_ fun H10 B10 h10=>⟨fun b o e=>B10 _ _ (aj e hc4) (S89 _ _ (S8 _ _ e)),?_⟩⟩
   ·rw[List.length_map,List.length_take]
    have:1000<=sizeLine:=by decide
    walk_at"o"
   ·rw[List.take_add_one,List.getElem?_zipWith,List.getElem?_eq_getElem li.1,List.getElem?_eq_getElem li.2,List.map_append]
    rfl
  ·obtain⟨S8,rfl⟩:=p
   have lz1:(List.zipWith (· * ·) ms ns).length=fs.length:=by
    rw[List.length_zipWith,lm,ln]
    walk_at"o"
   have lz2:((ms.map V.int).zip (ns.map V.int)).length=fs.length:=by
    rw[List.length_zip,List.length_map,List.length_map,lm,ln]
    walk_at"o"
   rw[lz2,<- lz1,List.take_length] at h8
   have hD:D1*D2 ≠ 0:=by have:=Int.mul_pos hD1 hD2;walk_at"o"
   refine⟨_,h8,?_⟩
   walk_at"vc"
   simp only[eC]
   walk_at"vc"
   refine⟨cp bD1 bD2 (by walk_at"o"),hD,(bD1.mul bD2).mono (by walk_at"o"),fun v H9 S9 r9=>h v H9 _ (S1.trans (S2.trans (S3.trans (S8.trans S9)))) r9 (iS hD) ?_⟩
   rw[iQ hD,ez,Ai (F:=cf fs) (G:=cf (qs.take fs.length)) (c:=(D1:Rat)) (d:=(D2:Rat)) (fS lm fun i n q e1 e2=>(hm i n q e1 e2).1) (fS (by walk_at"o") fun i n q e1 e2=>(hn i n q e1 e2).1),Rat.intCast_mul]
   have n1:(D1:Rat) ≠ 0:=aD (by walk_at"o")
   have n2:(D2:Rat) ≠ 0:=aD (by walk_at"o")
   rw[fD fs.length (fun i _=>rfl) fun i hi=>As hi]
   grind
theorem gH.one{W:Nat->Int}{B:Int}{k:Nat}{c:List (Int × Int) × (Int × Int)}(h:gH W B k c)(hD:Dk W k ≠ 0):cf c.1 k=1:=by
 have cD:((Dk W k:Int):Rat) ≠ 0:=aD hD
 rw[h.num,gD]
 grind
theorem gH.out{W:Nat->Int}{B:Int}{k:Nat}{c:List (Int × Int) × (Int × Int)}(h:gH W B k c) {j:Nat}(hj:k<j):cf c.1 j=0:=by
 have z:((0:Int):Rat)=0:=rfl
 rw[h.num,fT hj,z]
 grind
theorem gH.len{W:Nat->Int}{B:Int}{k:Nat}{c:List (Int × Int) × (Int × Int)}(h:gH W B k c)(hD:Dk W k ≠ 0):c.1.length=k+1:=by
 have h1:=kO h.po (m:=k+1) fun j hj=>h.out (by walk_at"o")
 have h2:k<c.1.length:=Nat.lt_of_not_le fun z=>by
  have e:=h.one hD
  rw[cz z] at e
  exact absurd e (by decide)
 walk_at"o"
theorem mB{ps:List (Int × Int)}(h:aR ps):(D.lst (ps.map fr)).poly=true:=Bh h.1 h.2
def eS(K:W.Frag):Sp:=fun vs H Q _=>∃ (a:Addr)(qs:List (Int × Int)),vs=[.ref a]/\aP (vw K H) a qs/\1<=qs.length/\qs.length<=12/\(∀ q ∈ qs,ma q) /\
 ∀ (d:Addr) H' W B rs k,aC (vw K H) (vw K H')->vw K H d=none->uz qs W B->aP (vw K H') d rs->aR rs->k<=6->(∀ i,i<=k->0<Dk W i/\2*i<=qs.length)->(qs.length<2*(k+1)\/Dk W (k+1)<=0)->(∀ j,cf rs j=((qk W k j:Int):Rat) / ((Dk W k:Int):Rat))->Q (.ref d) H'
theorem mV(F:et K "furthest_step" "furthest_step" du f fd) (T:ff K mg)(C_cleared:aU P w K mg base "cleared" ["f"] 2 (bC K)) (C_step_rows:aU P w K mg base "step_rows" ["wholes"] 3 (fV K)) (C_divided:aU P w K mg base "divided" ["wholes", "bottom"] 3 (da K)):bU P w K mg base el 4 f fd ["sums"] (eS K):=by
 have scN:=iU.nd
 refine F.okQ iU (fun vs H Q E h=>?_) (fun cdv A outer s H vs Q E hr h=>?_)
 ·obtain⟨_,_,rfl,_⟩:=h
  rfl
 ·obtain⟨a,qs,rfl,ha,l1,l11,sq,h⟩:=h
  refine⟨_,(af (aE (i:=1) scN rfl (by walk_at"a1") (ay cZ (ai C_step_rows (hr.mono (by walk_at"a2")) rfl (aa (ay cg (ai C_cleared (hr.mono (by walk_at"a2")) rfl (aa (qv 0) ac)) ae (fun _ _=>rfl)) ac)) (cG bO ae) (fun _ _=>rfl)))
   (ah (aq (ai C_divided (hr.mono (by walk_at"a2")) rfl (aa (qv 1) (aa (ay cZ (qv 1) (cG bO ae) (fun _ _=>rfl)) ac)))))),?_⟩
  walk_at"m"
  skip
  walk_at"vc"
  have hF:∀ q ∈ qs,Fq q:=fun q z=>(sq q z).1
  simp only[bC]
  refine⟨a,qs,131,rfl,ha,by walk_at"o",by decide,fun q z=>⟨(sq q z).1,(sq q z).2.1⟩,fun p b H1 B ns S1 h1 hb nb hB _ ln hn hm=>⟨p,rfl,_,h1,_,rfl,?_⟩⟩
  have hc2:=iu (sf sq) hF hB hm ln fun i n q e1 e2=>(hn i n q e1 e2).1
  have clr:uz qs (nz ns) B:=⟨hB,fS ln fun i n q e1 e2=>(hn i n q e1 e2).1,hm,jz hc2.2⟩
  have lb:IL (vw K H1) b qs.length (nz ns):=by
   unfold IL
   rw[hb]
   congr 2
   exact oI (by rw[List.length_map,ln]) fun i hi=>by
    have hi':i<ns.length:=by walk_at"o"
    rw[List.getElem?_map,List.getElem?_eq_getElem hi',cM (List.getElem?_eq_getElem hi')]
    rfl
  simp only[fV]
  refine⟨b,qs.length,nz ns,rfl,lb,l11,clr.bt,fun R H3 k S3 rw3 hk hD hend=>?_⟩
  obtain⟨as,hR,las,has⟩:=id rw3
  obtain⟨W,hW⟩ : ∃ W,W=nz ns:=⟨_,rfl⟩
  rw[<- hW] at clr lb hD hend has
  obtain⟨x,hx⟩ : ∃ x,as[k]? = some x:=⟨_,List.getElem?_eq_getElem (by walk_at"o")⟩
  have lx:=has k x hx
  have xl:(as.map V.ref).getLast? = some (.ref x):=by
   rw[List.getLast?_eq_getElem?,List.length_map,las,List.getElem?_map,show k+1 - 1=k by walk_at"o",hx]
   rfl
  have hDk:=(hD k (Nat.le_refl _)).1
  have dn:Dk W k ≠ 0:=by walk_at"o"
  have eN:lz (k+1) (fun j=>V.int (qk W k j))=(lz (k+1) fun j=>qk W k j).map V.int:=by rw[sM]
  refine⟨R,rfl,_,hR,_,dc xl,x,rfl,_,lx,_,oi,?_⟩
  rw[gD]
  simp only[da]
  refine⟨x,lz (k+1) fun j=>qk W k j,Dk W k,rfl,by rw[<- eN];exact lx,by rw[bH];walk_at"o",dn,((qK clr.bt (by walk_at"o")).mono (by decide:_<=1046)).mono (by decide),fun c H6 rs S6 lc nc po cf6 _ _=>?_⟩
  have S06:=S1.trans (S3.trans S6)
  refine h c H6 W B rs k S06 ((S1.trans S3).none nc) clr lc po hk hD hend (fun j=>?_)
  rw[cf6 j]
  by_cases hj:j<k+1
  ·rw[xu hj]
  ·rw[dg (by rw[bH];walk_at"o"),fT (by walk_at"o")]
def i0(K:W.Frag):Sp:=fun vs H Q _=>∃ (p:Addr)(s:Str)(ys:List V)(b:Bool),vs=[.ref p]/\vw K H p=some (.tup (.str s :: ys))/\(b=false/\(s = "tight" \/ s = "open")\/b=true/\(s = "below" \/ s = "nought")) /\ ∀ H',aC (vw K H) (vw K H')->Q (.bl b) H'
theorem xH(F:et K "is_bar" "is_bar" i3 f fd) (T:ff K mg):bU P w K mg base el 1 f fd ["told"] (i0 K):=by
 have scN:=qA.nd
 refine F.okQ qA (fun vs H Q E h=>?_) (fun cdv A outer s H vs Q E hr h=>?_)
 ·obtain⟨_,_,_,_,rfl,_⟩:=h
  rfl
 ·obtain⟨p,s,ys,b,rfl,hp,hs,h⟩:=h
  refine⟨_,(ah (aq (cF gP (ay cg (qv 0) ae (fun _ _=>rfl)) (aH (aa cR (aa cR ac))) (by rfl)))),?_⟩
  walk_at"m"
  skip
  walk_at"vc"
  refine⟨_,hp,_,eD,by decide,fun t H2 ht S2 h2=>⟨t,_,rfl,.inr (cN h2),rfl,rfl,?_⟩⟩
  have e:(if true=true then !qB (V.str s) [V.str "tight",V.str "open"] else qB (V.str s) [V.str "tight",V.str "open"])=b:=by
   rcases hs with ⟨rfl,rfl|rfl⟩|⟨rfl,rfl|rfl⟩ <;> decide +kernel
  rw[e]
  exact h H2 S2
theorem tM{qs rs:List (Int × Int)}{r:Int × Int}{j:Nat}(bq:Pb 170 (cf qs))(br:Pb 1100 (cf rs))(l7:rs.length<=7)(fr':Fq r)(e:wv r=bZ (cf (rs.drop j)) (cf qs) (rs.drop j).length):Bq 5000 r:=by
 obtain⟨D,d0,bD,oD⟩:=br
 obtain⟨E,e0,bE,oE⟩:=bq
 have oD':Ob D 1100 (cf (rs.drop j)):=fun k=>by
  rw[xm]
  exact oD (j+k)
 obtain⟨n,en,bn⟩:=vj d0 e0 oD' oE (rs.drop j).length
 have ll:(rs.drop j).length<=7:=by rw[List.length_drop];walk_at"o"
 exact pB fr' (e.trans en) (Int.mul_ne_zero d0 e0) (bn.mono (by walk_at"o")) ((bD.mul bE).mono (by decide))
def gp(K:W.Frag):Sp:=fun vs H Q _=>∃ (a b:Addr)(qs rs:List (Int × Int)),vs=[.ref a,.ref b]/\aP (vw K H) a qs/\aP (vw K H) b rs/\qs.length<=11/\(∀ q ∈ qs,ma q)/\rs ≠ []/\rs.length<=7/\rs.length<=qs.length+1/\aR rs/\Pb 1100 (cf rs)/\(2<=rs.length->su (cf rs) (DF (cf rs))) /\
 ∀ (p w:Addr) H' (ws:List (Int × Int)),aC (vw K H) (vw K H')->vw K H' p=some (.tup [.ref b,.ref w])->aP (vw K H') w ws->aR ws->Q (.ref p) H'
theorem pZ(F:et K "flock_with" "flock_with" eJ f fd) (T:ff K mg)(C_trimmed:aU P w K mg base "trimmed" ["numbers", "zero"] 1 (eE K)) (C_worth:aU P w K mg base "worth" ["sums", "f"] 3 (gx K)) (C_weights_by:aU P w K mg base "weights_by" ["above", "roots"] 5 (gj K)):bU P w K mg base el 6 f fd ["sums", "roots"] (gp K):=by
 have scN:=kL.nd
 refine F.okQ kL (fun vs H Q E h=>?_) (fun cdv A outer s H vs Q E hr h=>?_)
 ·obtain⟨_,_,_,_,rfl,_⟩:=h
  rfl
 ·obtain⟨a,b,qs,rs,rfl,ha,hb,l11,sq,r0,lr,lrq,po,br,ns,h⟩:=h
  obtain⟨z_ZERO,hg_ZERO,hv_ZERO⟩:=T.g_ZERO
  refine⟨_,(af (aE (i:=2) scN rfl (by walk_at"a1") (ai C_trimmed (hr.mono (by walk_at"a2")) rfl (aa (cL (own:=["k"]) (outs:=["sums", "roots"]) (ixs:=[0,1]) rfl (cI rfl T.b_range (aa (ao cX (am av (by rfl) T.b_len aQ (aa (qv 1) ac)) ae) ac)) rfl ⟨rfl,rfl,rfl,⟨rfl,⟨rfl,trivial⟩⟩,rfl,⟨⟨rfl,rfl,rfl,_,rfl⟩,⟨⟨rfl,rfl,rfl,_,rfl⟩,trivial⟩⟩⟩ (fun _ _ _ _=>⟨(ak (i:=0) (show (["k", "sums", "roots"]:List Str).Nodup by decide +kernel) rfl (by walk_at"a1")),cS,(ai C_worth (hr.mono (by walk_at"a2")) rfl (aa (qv 1) (aa (ci (show uA _ (DK K) from gB) (qv 2) (cC (ao (show fb _ _ (iN K) from aV) (qv 0) ae)) cy) ac)))⟩)) (aa (fi (v:=V.ref z_ZERO) rfl hg_ZERO rfl) ac))))
   (ah (aq (aH (aa (qv 1) (aa (ai C_weights_by (hr.mono (by walk_at"a2")) rfl (aa (qv 2) (aa (qv 1) ac))) ac)))))),?_⟩
  walk_at"m"
  skip
  have l0:=List.length_pos_iff.mpr r0
  refine aW.gen fun N1 hN1=>?_
  walk_at"vc"
  refine⟨_,hb.len,by walk_at"o",by walk_at"o",fun c1 H1 hc1 S1 h1=>?_⟩
  rw[show ((rs.length:Int) - 1).toNat=rs.length - 1 by walk_at"o"]
  obtain⟨xs,hxs,rxs⟩:=id hb
  have lx:xs.length=rs.length:=by rw[rxs.length,List.length_map]
  refine aY (its:=gb 0 (rs.length - 1)) (fun i zs H'=>aC (vw K H) (vw K H') /\ ∃ us:List (Int × Int),aG (vw K H') (us.map fr) zs/\us.length=i /\ ∀ q ∈ us,Fq q/\Bq 5000 q) (fun _ _ _ _ _ _=>bK) h1 ⟨S1,[],.mk_nil,rfl,by simp⟩ (fun i x zs H2 hi hx h2 p=>?_) (fun zs H2 h2 p=>?_)
  ·obtain⟨S2,us,rz,lu,hu⟩:=p
   obtain⟨hi',rfl⟩:=fu hx
   rw[Int.zero_add]
   walk_at"vc"
   refine⟨xs,S2 _ _ hxs,fun p3 H3 hp3 S3 h3=>?_⟩
   rw[show ((i:Nat):Int)+1=((i+1:Nat):Int) by walk_at"o",iC (by walk_at"o")] at h3
   have S03:=S2.trans S3
   have l3:aP (vw K H3) p3 (rs.drop (i+1)):=⟨_,h3,by rw[List.map_drop];exact (rxs.drop _).same S03⟩
   have br':=br.bq po.1
   simp only[gx]
   refine⟨a,p3,qs,rs.drop (i+1),rfl,ha.same S03,l3,by rw[List.length_drop];walk_at"o",by walk_at"o",by rw[List.length_drop];walk_at"o",fun q hq=>⟨(sq q hq).1,(sq q hq).2.1⟩,fun q hq=>⟨po.1 q (List.mem_of_mem_drop hq),(br' q (List.mem_of_mem_drop hq)).mono (by decide)⟩,fun v H4 r S4 r4 f4 w4=>.mk ((S3.trans S4) _ _ h2) ?_ fun H5 B5 h5=>⟨fun b o e=>B5 _ _ (aj e hc1) ((S2.trans (S3.trans S4)) _ _ e),us ++ [r],?_,by simp[lu],fun q hq=>?_⟩⟩
   ·rw[rz.length,List.length_map]
    have:1000<=sizeLine:=by decide
    walk_at"o"
   ·rw[List.map_append]
    exact (aG.flat_but ((S3.trans S4) _ _ h2) B5 _ _ (cP _) (rz.same (S3.trans S4))).snoc (aF.flat_but ((S3.trans S4) _ _ h2) B5 _ _ (ce _) r4)
   ·rcases List.mem_append.mp hq with z|z
    ·exact hu q z
    ·cases List.mem_singleton.mp z
     exact⟨f4,tM (sf sq) br lr f4 w4⟩
  ·obtain⟨S2,us,rz,lu,hu⟩:=p
   rw[cx] at lu
   simp only[eE]
   refine .inl ⟨c1,_,us,rfl,⟨zs,h2,rz⟩,hv_ZERO _,fun q hq=>(hu q hq).1,fun d3 H3 vs S3 l3 n3 p3 _ e3 m3=>hN1 _ _ ?_⟩
   have S03:=S2.trans S3
   walk_at"vc"
   simp only[gj]
   exact⟨d3,b,vs,rs,rfl,l3,hb.same S03,by walk_at"o",r0,lr,po,br,fun q hq=>hu q (m3 q hq),ns,fun d4 H4 ws S4 l4 p4=>⟨by decide,fun p5 H5 hp5 S5 h5=>h p5 d4 H5 ws (S03.trans (S4.trans S5)) h5 (l4.same S5) p4⟩⟩
def Al(W:Nat->Int)(k n:Nat):Prop:=∀ i,i+(k+1)<=n->Lq W k i=0
theorem vt{qs:List (Int × Int)}{W:Nat->Int}{B:Int}{k i:Nat}{c:List (Int × Int) × (Int × Int)}(cl:uz qs W B)(h:gH W B k c)(hD:Dk W k ≠ 0):bZ (cf c.1) (cf (qs.drop i)) (k+1)=((Lq W k i:Int):Rat) / ((Dk W k*B:Int):Rat):=by
 have e:cf (qs.drop i)=fun j=>cf qs (i+j):=funext fun j=>xm
 rw[e,tW hD (by have:=cl.pos;walk_at"o") h.num cl.val i,Rat.intCast_mul]
theorem gH.bq'{W:Nat->Int}{B:Int}{k:Nat}{c:List (Int × Int) × (Int × Int)}(h:gH W B k c)(hD:Dk W k ≠ 0)(hk:k<=5)(bW:∀ i,Bt 170 (W i)):∀ q ∈ c.1,Fq q/\Bq 1100 q:=fun q hq=>by
 obtain⟨j,hj⟩:=List.getElem?_of_mem hq
 have e:=h.num j
 rw[aZ hj] at e
 exact⟨h.po.1 q hq,pB (h.po.1 q hq) e hD ((qP bW hk).mono (by decide)) ((qK bW (by walk_at"o")).mono (by decide))⟩
def gn(K:W.Frag):Sp:=fun vs H Q _=>∃ (a l:Addr)(qs:List (Int × Int))(c:List (Int × Int) × (Int × Int))(W:Nat->Int)(B:Int)(k:Nat),vs=[.ref a,.ref l]/\aP (vw K H) a qs/\aP (vw K H) l c.1/\qs.length<=11/\(∀ q ∈ qs,ma q)/\uz qs W B/\gH W B k c/\0<Dk W k/\k<=5/\c.1.length=k+1/\k+1<=qs.length /\
 (Al W k qs.length -> ∀ H',aC (vw K H) (vw K H')->Q .non H')/\(¬ Al W k qs.length -> ∀ H' (p l2:Addr)(i:Nat),aC (vw K H) (vw K H')->vw K H' p=some (.tup [.str "nought",.ref l,.ref l2])->aP (vw K H') l2 (List.replicate i (0,1) ++ [(1,1)])->i+(k+1)<=qs.length->Lq W k i ≠ 0->Q (.ref p) H')
theorem pY(F:et K "nought_bar" "nought_bar" eO f fd) (T:ff K mg)(C_worth:aU P w K mg base "worth" ["sums", "f"] 3 (gx K)):bU P w K mg base el 4 f fd ["sums", "step"] (gn K):=by
 have scN:=kD.nd
 refine F.okQ kD (fun vs H Q E h=>?_) (fun cdv A outer s H vs Q E hr h=>?_)
 ·obtain⟨_,_,_,_,_,_,_,rfl,_⟩:=h
  rfl
 ·obtain⟨a,l,qs,c,W,B,k,rfl,ha,hl,l11,sq,cl,so,dk,k5,lc,lkn,h1,h2⟩:=h
  obtain⟨z_ZERO,hg_ZERO,hv_ZERO⟩:=T.g_ZERO
  obtain⟨z_ONE,hg_ONE,hv_ONE⟩:=T.g_ONE
  refine⟨_,(af (cO PassesOwn.never rfl (cI rfl T.b_range (aa (ao aV (ao cX (am av (by rfl) T.b_len aQ (aa (qv 0) ac)) (am av (by rfl) T.b_len aQ (aa (qv 1) ac))) ae) ac)) (ak (i:=2) scN rfl (by walk_at"a1")) (ah (cj (aL (sO hr.u64) (ai C_worth (hr.mono (by walk_at"a2")) rfl (aa (ci gB (qv 0) (cC (qv 2)) cy) (aa (qv 1) ac))) (fi (v:=V.ref z_ZERO) rfl hg_ZERO rfl) (aI _)) (ah (aq (aH (aa cR (aa (qv 1) (aa (ao aV (ao aS (aM (aa (fi (v:=V.ref z_ZERO) rfl hg_ZERO rfl) ac)) (qv 2)) (aM (aa (fi (v:=V.ref z_ONE) rfl hg_ONE rfl) ac))) ac)))))) aO)))
   (ah (aq uC))),?_⟩
  walk_at"m"
  skip
  refine aW.gen fun N1 hN1=>?_
  walk_at"vc"
  refine⟨_,ha.len,_,hl.len,by walk_at"o",by walk_at"o",?_⟩
  rw[show ((qs.length:Int) - (c.1.length:Int)+1).toNat=qs.length - k by walk_at"o"]
  obtain⟨Pv,hPv⟩ : ∃ Pv:Nat->St->Hp->Prop,∀ i σ H',Pv i σ H' ↔ ∃ o,σ=[some (.ref a),some (.ref l),o]/\aC (vw K H) (vw K H') /\ ∀ j,j<i->Lq W k j=0:=⟨_,fun _ _ _=>Iff.rfl⟩
  have dn:Dk W k ≠ 0:=by walk_at"o"
  have dB:Dk W k*B ≠ 0:=Int.mul_ne_zero dn (by have:=cl.pos;walk_at"o")
  refine cc (its:=gb 0 (qs.length - k)) Pv (fun _ _ _ _ _=>bK) ((hPv _ _ _).mpr ⟨_,rfl,.rfl,fun j z=>by walk_at"o"⟩) (fun i x σ H1 hi hx pv=>?_) (fun σ H1 pv=>hN1 _ _ ?_)
  ·obtain⟨o,rfl,S1,z1⟩:=(hPv _ _ _).mp pv
   obtain⟨hi',rfl⟩:=fu hx
   rw[Int.zero_add]
   obtain⟨xs,hxs,rxs⟩:=id (ha.same S1)
   have lx:xs.length=qs.length:=by rw[rxs.length,List.length_map]
   walk_at"vc"
   refine⟨xs,hxs,fun p2 H2 hp2 S2 h2'=>?_⟩
   rw[iC (by walk_at"o")] at h2'
   have l2:aP (vw K H2) p2 (qs.drop i):=⟨_,h2',by rw[List.map_drop];exact (rxs.drop i).same S2⟩
   have S02:=S1.trans S2
   simp only[gx]
   refine⟨p2,l,qs.drop i,c.1,rfl,l2,hl.same S02,by rw[List.length_drop];walk_at"o",by rw[List.length_drop];walk_at"o",by walk_at"o",fun q hq=>⟨(sq q (List.mem_of_mem_drop hq)).1,(sq q (List.mem_of_mem_drop hq)).2.1⟩,fun q hq=>⟨(so.bq' dn k5 cl.bt q hq).1,(so.bq' dn k5 cl.bt q hq).2.mono (by decide)⟩,fun v H3 r S3 r3 fr3 w3=>?_⟩
   rw[lc,vt cl so dn] at w3
   refine⟨_,r3,_,bV (hv_ZERO _),fO _,fO _,?_⟩
   rw[kU]
   have zz:r=(0,1) ↔ Lq W k i=0:=by
    constructor
    ·intro z
     rw[z,lU] at w3
     have nB:=aD dB
     have:((Lq W k i:Int):Rat)=((0:Int):Rat):=by
      have c0:((0:Int):Rat)=0:=rfl
      rw[c0]
      grind
     exact_mod_cast this
    ·intro z
     refine kR fr3 pk ?_
     rw[w3,z,lU]
     have c0:((0:Int):Rat)=0:=rfl
     rw[c0]
     grind
   refine bY (fun hz=>?_) (fun hz=>?_)
   ·have nz:¬ Al W k qs.length:=fun z=>by
     have:=zz.mpr (z i (by walk_at"o"))
     rw[this] at hz
     exact absurd hz (by decide)
    refine⟨by decide,fun p4 H4 hp4 S4 h4=>?_⟩
    show gO K (.ref p4) (.int _) H4 _
    rw[i4]
    refine⟨_,h4,by walk_at"o",by walk_at"o",?_,fun p5 H5 hp5 S5 h5=>⟨by decide,fun p6 H6 hp6 S6 h6=>?_⟩⟩
    ·have:1000<=sizeLine:=by decide
     simp
     walk_at"o"
    show iN K (.ref p5) (.ref p6) H6 _
    rw[gZ]
    rw[show ((i:Nat):Int).toNat=i by walk_at"o",lJ] at h5
    have Li:Lq W k i ≠ 0:=fun z=>by
     rw[zz.mpr z] at hz
     exact absurd hz (by decide)
    refine⟨_,S6 _ _ h5,_,h6,?_,fun p7 H7 hp7 S7 h7=>⟨by decide,fun p8 H8 hp8 S8 h8=>h2 nz H8 p8 p7 i (S02.trans (S3.trans (S4.trans (S5.trans (S6.trans (S7.trans S8)))))) h8 ⟨_,S8 _ _ h7,by rw[List.map_append,oz];exact (aG.repl (bV (hv_ZERO _)) i).app (.mk_cons (bV (hv_ONE _)) .mk_nil)⟩ (by walk_at"o") Li⟩⟩
    have:1000<=sizeLine:=by decide
    simp
    walk_at"o"
   ·refine (hPv _ _ _).mpr ⟨_,rfl,S02.trans S3,fun j hj=>?_⟩
    by_cases e:j=i
    ·rw[e]
     refine zz.mp ?_
     by_cases y:r=(0,1)
     ·exact y
     ·exact absurd (decide_eq_false y) hz
    ·exact z1 j (by walk_at"o")
  ·obtain⟨o,rfl,S1,z1⟩:=(hPv _ _ _).mp pv
   rw[cx] at z1
   walk_at"vc"
   exact h1 (fun i hi=>z1 i (by walk_at"o")) H1 S1
theorem Hq{qs:List (Int × Int)}(i:Nat):cf (qs ++ [(0,1)]) i=cf qs i:=by
 by_cases h:i<qs.length
 ·rw[aZ (List.getElem?_eq_getElem (show i<(qs ++ [(0,1)]).length by simp;walk_at"o")),aZ (List.getElem?_eq_getElem h),List.getElem_append_left h]
 ·rw[cz (show qs.length<=i by walk_at"o")]
  by_cases e:i=qs.length
  ·rw[aZ (q:=(0,1)) (by rw[e];simp)]
   exact (iO (by decide)).mpr rfl
  ·exact cz (by simp;walk_at"o")
theorem uz.zero{qs:List (Int × Int)}{W:Nat->Int}{B:Int}(h:uz qs W B):uz (qs ++ [(0,1)]) W B :=
 ⟨h.pos,fun i=>by rw[Hq];exact h.val i,fun E hE=>h.least E fun q hq=>hE q (List.mem_append_left _ hq),h.bt⟩
structure DA (qs:List (Int × Int))(W:Nat->Int)(B:Int)(M:Nat)(G:Hp)(p:Addr)(s:Str):Prop where
 kind:(Dk W M<0/\s = "below")\/(Dk W M=0 /\ ¬ Al W (M - 1) qs.length/\s = "nought")\/(Dk W M=0/\Al W (M - 1) qs.length/\s = "tight")\/(0<Dk W M/\s = "open")
 at_:∃ (l:Addr)(ys:List V),G p=some (.tup (.str s :: .ref l :: ys))/\(s = "tight" \/ s = "open" -> ys=[])/\(s = "tight" -> ∃ rs,aP G l rs/\aR rs /\ ∀ j,cf rs j=((qk W (M - 1) j:Int):Rat) / ((Dk W (M - 1):Int):Rat))/\(s = "open" -> ∃ rs,aP G l rs/\aR rs /\ ∀ j,cf rs j=((qk W M j:Int):Rat) / ((Dk W M:Int):Rat))/\(s = "below" -> ys=[] /\ ∃ rs,aP G l rs/\aR rs /\ ∀ j,cf rs j=((qk W (M - 1) j:Int):Rat) / ((Dk W (M - 1):Int):Rat))/\(s = "nought" -> ∃ (l2:Addr)(i:Nat)(rs:List (Int × Int)),ys=[.ref l2]/\aP G l rs/\aR rs/\(∀ j,cf rs j=((qk W (M - 1) j:Int):Rat) / ((Dk W (M - 1):Int):Rat))/\aP G l2 (List.replicate i (0,1) ++ [(1,1)])/\i+M<=qs.length/\Lq W (M - 1) i ≠ 0)
def iD(K:W.Frag):Sp:=fun vs H Q _=>∃ (a:Addr)(qs:List (Int × Int)),vs=[.ref a]/\aP (vw K H) a qs/\1<=qs.length/\qs.length<=11/\(∀ q ∈ qs,ma q) /\
 ∀ (p:Addr) H' W B M s,aC (vw K H) (vw K H')->uz qs W B->BB W qs.length M->DA qs W B M (vw K H') p s->Q (.ref p) H'
theorem vF(F:et K "outlook" "outlook" gT f fd) (T:ff K mg)(C_steps:aU P w K mg base "steps" ["sums"] 4 (mf K)) (C_nought_bar:aU P w K mg base "nought_bar" ["sums", "step"] 4 (gn K)) (C_furthest_step:aU P w K mg base "furthest_step" ["sums"] 4 (eS K)):bU P w K mg base el 5 f fd ["sums"] (iD K):=by
 have scN:=oA.nd
 refine F.okQ oA (fun vs H Q E h=>?_) (fun cdv A outer s H vs Q E hr h=>?_)
 ·obtain⟨_,_,rfl,_⟩:=h
  rfl
 ·obtain⟨a,qs,rfl,ha,l1,l11,sq,h⟩:=h
  obtain⟨z_ZERO,hg_ZERO,hv_ZERO⟩:=T.g_ZERO
  refine⟨_,(af (cY (ay cZ (ai C_steps (hr.mono (by walk_at"a2")) rfl (aa (qv 0) ac)) (cG bO ae) (fun _ _=>rfl)) (bJ (n:=2) rfl (ar (ak (i:=1) scN rfl (by walk_at"a1")) (ar (ak (i:=2) scN rfl (by walk_at"a1")) bI))))
   (af (cj (aL kF (ay cg (qv 2) ae (fun _ _=>rfl)) ae (aI _)) (ah (aq (aH (aa cR (aa (qv 1) ac))))) aO)
   (af (cj (aL (mX hr.u64) (qv 2) (fi (v:=V.ref z_ZERO) rfl hg_ZERO rfl) (aI _)) (ah (aq (Ep (ai C_nought_bar (hr.mono (by walk_at"a2")) rfl (aa (qv 0) (aa (qv 1) ac))) (aH (aa cR (aa (qv 1) ac)))))) aO)
   (ah (aq (aH (aa cR (aa (ai C_furthest_step (hr.mono (by walk_at"a2")) rfl (aa (AW (gq (ao wV (am av (by rfl) T.b_len aQ (aa (qv 0) ac)) ae) (fun _=>rfl)) (ao aV (qv 0) (aM (aa (fi (v:=V.ref z_ZERO) rfl hg_ZERO rfl) ac))) (qv 0)) ac)) ac)))))))),?_⟩
  walk_at"m"
  skip
  refine aW.gen fun N1 hN1=>?_
  walk_at"vc"
  simp only[mf]
  refine⟨a,qs,rfl,ha,l1,l11,sq,fun t H1 W B pss S1 ht0 cl my sa so=>?_⟩
  obtain⟨xs,hxs,lxs,hx⟩:=id sa
  obtain⟨M,hM⟩ : ∃ M,M=pss.length:=⟨_,rfl⟩
  rw[<- hM] at my
  have m1:=my.one
  have m2:=my.most
  obtain⟨c,hc⟩ : ∃ c,pss[M - 1]? = some c:=⟨_,List.getElem?_eq_getElem (by walk_at"o")⟩
  obtain⟨x,l,v,e1,e2,e3,e4,e5⟩:=hx _ _ hc
  have soc:=so _ _ hc
  have dk:=my.up (M - 1) (by walk_at"o")
  have dn:Dk W (M - 1) ≠ 0:=by walk_at"o"
  have hB:=cl.pos
  have lc:=soc.len dn
  have dB:0<Dk W (M - 1)*B:=Int.mul_pos dk hB
  have sv:=soc.sqv
  rw[show M - 1+1=M by walk_at"o"] at sv
  have xl:xs.getLast? = some (.ref x):=by rw[List.getLast?_eq_getElem?,lxs,<- hM];exact e1
  refine⟨t,rfl,_,hxs,_,dc xl,x,rfl,_,e2,rfl,_,_,rfl,_,_,rfl,rfl,hN1 _ _ ?_⟩
  obtain⟨vp,rfl,hvp⟩:=id e4.fr_at
  have iq:c.2.1*(Dk W (M - 1)*B)=Dk W M*c.2.2:=by
   have n2:=aD (show c.2.2 ≠ 0 by have:=soc.fq.1;walk_at"o")
   have n3:=aD (show Dk W (M - 1)*B ≠ 0 by walk_at"o")
   have e:((c.2.1*(Dk W (M - 1)*B):Int):Rat)=((Dk W M*c.2.2:Int):Rat):=by
    rw[Rat.intCast_mul,Rat.intCast_mul]
    unfold wv at sv
    grind
   exact_mod_cast e
  have q2:=soc.fq.1
  have sneg:c.2.1<0->Dk W M<0:=fun z=>by
   have:=Int.mul_neg_of_neg_of_pos z dB
   rw[iq] at this
   exact Int.not_le.mp fun y=>by have:=Int.mul_nonneg y (Int.le_of_lt q2);walk_at"o"
  have szer:c.2.1=0->Dk W M=0:=fun z=>by
   rw[z,Int.zero_mul] at iq
   rcases Int.mul_eq_zero.mp iq.symm with y|y
   ·exact y
   ·walk_at"o"
  have spos:0<c.2.1->0<Dk W M:=fun z=>by
   have:=Int.mul_pos z dB
   rw[iq] at this
   exact Int.not_le.mp fun y=>by have:=Int.mul_le_mul_of_nonneg_right y (Int.le_of_lt q2);walk_at"o"
  refine aW.gen fun N2 hN2=>?_
  walk_at"vc"
  refine⟨_,hvp,_,eD,_,rfl,bY (fun hneg=>?_) (fun hneg=>hN2 _ _ ?_)⟩
  ·exact⟨by decide,fun p H2 hp S2 h2=>h p H2 W B M "below" (S1.trans S2) cl my ⟨.inl ⟨sneg hneg,rfl⟩,l,[],h2,fun _=>rfl,fun z=>absurd z (by decide +kernel),fun z=>absurd z (by decide +kernel),fun _=>⟨rfl,c.1,e3.same S2,soc.po,soc.num⟩,fun z=>absurd z (by decide +kernel)⟩⟩
  refine aW.gen fun N3 hN3=>?_
  walk_at"vc"
  refine⟨_,e4,_,bV (hv_ZERO _),fO _,fO _,?_⟩
  rw[kU]
  refine bY (fun hz=>?_) (fun hz=>hN3 _ _ ?_)
  ·have d0:Dk W M=0:=szer (by rw[of_decide_eq_true hz])
   unfold Gq
   walk_at"vc"
   simp only[gn]
   refine⟨a,l,qs,c,W,B,M - 1,rfl,ha.same S1,e3,l11,sq,cl,soc,dk,by walk_at"o",lc,by walk_at"o",fun hn H2 S2=>⟨false,rfl,gM (by decide) ⟨by decide,fun p H3 hp S3 h3=>h p H3 W B M "tight" (S1.trans (S2.trans S3)) cl my ⟨.inr (.inr (.inl ⟨d0,hn,rfl⟩)),l,[],h3,fun _=>rfl,fun _=>⟨c.1,e3.same (S2.trans S3),soc.po,soc.num⟩,fun z=>absurd z (by decide +kernel),fun z=>absurd z (by decide +kernel),fun z=>absurd z (by decide +kernel)⟩⟩⟩,fun hn H2 p l2 i S2 h2 ll hi hL=>⟨true,?_,jx rfl (h p H2 W B M "nought" (S1.trans S2) cl my ⟨.inr (.inl ⟨d0,hn,rfl⟩),l,[.ref l2],h2,fun z=>absurd z (by decide +kernel),fun z=>absurd z (by decide +kernel),fun z=>absurd z (by decide +kernel),fun z=>absurd z (by decide +kernel),fun _=>⟨l2,i,c.1,rfl,e3.same S2,soc.po,soc.num,ll,by walk_at"o",hL⟩⟩)⟩⟩
   exact .inr (.inl ⟨_,cN h2,rfl⟩)
  ·have d1:0<Dk W M:=spos (by
    have:c.2 ≠ (0,1):=fun z=>hz (decide_eq_true z)
    have:c.2.1 ≠ 0:=fun z=>this ((og soc.fq).mpr z)
    walk_at"o")
   walk_at"vc"
   have od:2*M=qs.length\/2*M=qs.length+1:=by
    rcases my.all with z|z <;> walk_at"o"
   simp only[eS]
   refine⟨_,(ha.same S1).len,by walk_at"o",bY (fun ho=>?_) (fun ho=>?_)⟩
   ·have o1:2*M=qs.length+1:=by
     have:((qs.length:Int) % 2) ≠ 0:=by simpa using ho
     walk_at"o"
    obtain⟨ax,hax,rax⟩:=id (ha.same S1)
    refine⟨by decide,fun p2 H2 hp2 S2 h2=>?_⟩
    show iN K (.ref a) (.ref p2) H2 _
    rw[gZ]
    refine⟨ax,S2 _ _ hax,_,h2,?_,fun p3 H3 hp3 S3 h3=>?_⟩
    ·have:1000<=sizeLine:=by decide
     rw[rax.length]
     simp
     walk_at"o"
    have S23:=S2.trans S3
    have l3:aP (vw K H3) p3 (qs ++ [(0,1)]):=by
     refine⟨_,h3,?_⟩
     rw[List.map_append]
     exact (rax.same S23).app (.mk_cons (bV (hv_ZERO _)) .mk_nil)
    have sq0:∀ q ∈ qs ++ [(0,1)],ma q:=fun q hq=>by
     rcases List.mem_append.mp hq with z|z
     ·exact sq q z
     ·cases List.mem_singleton.mp z
      exact⟨pk,FR (by decide),Int.one_dvd _⟩
    refine⟨p3,qs ++ [(0,1)],rfl,l3,by simp,by simp;walk_at"o",sq0,fun d H4 W' B' rs k S4 nd cl' ld po k6 hD he num=>⟨by decide,fun p5 H5 hp5 S5 h5=>h p5 H5 W B M "open" (S1.trans (S23.trans (S4.trans S5))) cl my ⟨.inr (.inr (.inr ⟨d1,rfl⟩)),d,[],h5,fun _=>rfl,fun z=>absurd z (by decide +kernel),fun _=>⟨rs,ld.same S5,po,?_⟩,fun z=>absurd z (by decide +kernel),fun z=>absurd z (by decide +kernel)⟩⟩⟩
    obtain⟨_,eW⟩:=cl.zero.uniq cl' fun q hq=>(sq0 q hq).1
    subst eW
    rw[List.length_append,List.length_singleton] at hD he
    have hk1:=(hD k (Nat.le_refl _)).2
    have ek:k=M:=by
     by_cases z:k<M
     ·rcases he with y|y
      ·walk_at"o"
      ·by_cases e:k+1=M
       ·rw[e] at y
        walk_at"o"
       ·have:=my.up (k+1) (by walk_at"o")
        walk_at"o"
     ·walk_at"o"
    rw[<- ek]
    exact num
   ·have o1:2*M=qs.length:=by
     have:((qs.length:Int) % 2)=0:=by simpa using ho
     walk_at"o"
    refine⟨a,qs,rfl,ha.same S1,l1,by walk_at"o",sq,fun d H4 W' B' rs k S4 nd cl' ld po k6 hD he num=>⟨by decide,fun p5 H5 hp5 S5 h5=>h p5 H5 W B M "open" (S1.trans (S4.trans S5)) cl my ⟨.inr (.inr (.inr ⟨d1,rfl⟩)),d,[],h5,fun _=>rfl,fun z=>absurd z (by decide +kernel),fun _=>⟨rs,ld.same S5,po,?_⟩,fun z=>absurd z (by decide +kernel),fun z=>absurd z (by decide +kernel)⟩⟩⟩
    obtain⟨_,eW⟩:=cl.uniq cl' fun q hq=>(sq q hq).1
    subst eW
    have hk1:=(hD k (Nat.le_refl _)).2
    have ek:k=M:=by
     by_cases z:k<M
     ·rcases he with y|y
      ·walk_at"o"
      ·by_cases e:k+1=M
       ·rw[e] at y
        walk_at"o"
       ·have:=my.up (k+1) (by walk_at"o")
        walk_at"o"
     ·walk_at"o"
    rw[<- ek]
    exact num
def lx(s:Rat)(v:Nat->Rat)(j:Nat):Rat:=(if j=0 then 0 else v (j - 1)) - s*v j
theorem sU{S S' v:Nat->Rat}{s:Rat}{i:Nat}:∀ b,(∀ j,j<b->S' (i+j)=S (i+j+1) - s*S (i+j))->bZ v (fun j=>S' (i+j)) b=bZ (lx s v) (fun j=>S (i+j)) b+(if b=0 then 0 else v (b - 1)*S (i+b))
 | 0,_=>by
  show (0:Rat)=0+_
  rw[if_pos rfl]
  grind
 | b+1,h=>by
  show bZ v (fun j=>S' (i+j)) b+v b*S' (i+b)=(bZ (lx s v) (fun j=>S (i+j)) b+lx s v b*S (i+b))+_
  rw[sU b fun j hj=>h j (by walk_at"o"),h b (by walk_at"o"),if_neg (show ¬ (b+1=0) by walk_at"o"),Nat.add_sub_cancel,Nat.add_assoc]
  unfold lx
  by_cases z:b=0
  ·rw[if_pos z,if_pos z]
   grind
  ·rw[if_neg z,if_neg z]
   grind
theorem CS{S S' u v:Nat->Rat}{s:Rat}{a b:Nat}(bv:Bd b v)(h:∀ i,i+1<a+b->S' i=S (i+1) - s*S i):ip S' u v a b=ip S u (lx s v) a (b+1):=by
 unfold ip
 refine fD a (fun _ _=>rfl) fun i hi=>?_
 rw[sU b fun j hj=>h (i+j) (by walk_at"o")]
 show _=bZ (lx s v) (fun j=>S (i+j)) b+lx s v b*S (i+b)
 unfold lx
 rw[bv b (Nat.le_refl _)]
 by_cases z:b=0
 ·rw[if_pos z,if_pos z]
  grind
 ·rw[if_neg z,if_neg z]
  grind
theorem C5{s:Rat}{v:Nat->Rat}{k:Nat}(h:Tp k v):Tp (k+1) (lx s v):=by
 refine⟨?_,fun i hi=>?_⟩
 ·unfold lx
  rw[if_neg (by walk_at"o"),Nat.add_sub_cancel,h.2 (k+1) (Nat.le_refl _)]
  have:=h.1
  grind
 ·unfold lx
  rw[if_neg (by walk_at"o"),h.2 (i - 1) (by walk_at"o"),h.2 i (by walk_at"o")]
  grind
theorem oR{W:Nat->Int}{B:Int}{S f:Nat->Rat}{m:Nat}(hB:0<B)(hS:∀ i,((W i:Int):Rat)=S i*(B:Rat))(m6:m<=6)(tf:Tp m f)(hD:∀ i,i<=m->0<Dk W i)(orth:∀ q:Nat->Rat,Bd (m - 1) q->ip S q f (m - 1) (m+1)=0):su f (DF f):=by
 intro d e d1 d6 te ha hc
 refine HD m6 tf (fun d e q d1 te bq v1=>?_) d1 d6 te ha hc
 have bf:Bd (m+1) f:=tf.2
 have fin:(∀ x,EV f x=0)->False:=fun h=>tf.1 (m5 (bf.mono (by walk_at"o")) (g:=fun _=>0) (fun _ _=>rfl) (fun x=>by rw[h,jy (f:=fun _=>0) fun _=>rfl]) m)
 by_cases z:m - d+1 - d=0
 ·have q0:∀ i,q i=0:=fun i=>bq i (by walk_at"o")
  exact fin fun x=>by rw[v1,jy q0];grind
 obtain⟨u,hu⟩ : ∃ u:Nat->Rat,u=fun j=>pr q e (m - d+1 - d) j:=⟨_,rfl⟩
 have te':Bd (d+1) e:=te.2
 have vu:∀ x,EV u x=EV q x*EV e x:=fun x=>by rw[hu,kS bq te' (by walk_at"o")]
 have bu:Bd m u:=by
  rw[hu]
  exact fun i hi=>gR te' _ _ (by walk_at"o")
 obtain⟨p1,p2⟩:=pd hB hS m hD u bu
 have bqk:Bd (m - 1) q:=bq.mono (by walk_at"o")
 have i1:ip S u u m m=ip S q f (m - 1) (m+1):=Bo bu bu bqk bf (by walk_at"o") (by walk_at"o") fun x=>by rw[vu,v1];grind
 have u0:=p2 (by rw[i1,orth q bqk])
 exact fin fun x=>by rw[v1,<- vu,jy u0];grind
theorem qG{W:Nat->Int}{B:Int}{S q:Nat->Rat}{k:Nat}(hB:0<B)(hS:∀ i,((W i:Int):Rat)=S i*(B:Rat))(dn:Dk W k ≠ 0)(m:Nat)(hm:m<=k):ip S q (Pk W k) m (k+1)=0:=by
 rw[Ah dn (by walk_at"o") hS (Nat.le_refl _)]
 exact hU m fun i hi=>by rw[kI (by walk_at"o"),show ((0:Int):Rat)=0 from rfl];grind
theorem rY{W:Nat->Int}{k:Nat}(dn:Dk W k ≠ 0):Tp k (Pk W k):=⟨by rw[Au dn];decide,fun i hi=>y6 (by walk_at"o")⟩
theorem zU{W:Nat->Int}{B:Int}{S:Nat->Rat}{k:Nat}(hB:0<B)(hS:∀ i,((W i:Int):Rat)=S i*(B:Rat))(k6:k<=6)(hD:∀ i,i<=k->0<Dk W i):su (Pk W k) (DF (Pk W k)):=by
 have dn:Dk W k ≠ 0:=by have:=hD k (Nat.le_refl _);walk_at"o"
 exact oR hB hS k6 (rY dn) hD fun q _=>qG hB hS dn (k - 1) (by walk_at"o")
theorem ze{W W':Nat->Int}{B B':Int}{S S':Nat->Rat}{s:Rat}{k:Nat}(hB:0<B)(hS:∀ i,((W i:Int):Rat)=S i*(B:Rat))(hB':0<B')(hS':∀ i,((W' i:Int):Rat)=S' i*(B':Rat))(k5:k<=5)(hD:∀ i,i<=k+1->0<Dk W i)(dn:Dk W' k ≠ 0)(h:∀ i,i<2*k->S' i=S (i+1) - s*S i):su (lx s (Pk W' k)) (DF (lx s (Pk W' k))) :=
 oR hB hS (by walk_at"o") (C5 (rY dn)) hD fun q bq=>by
  rw[Nat.add_sub_cancel,<- CS (rY dn).2 fun i hi=>h i (by walk_at"o")]
  exact qG hB' hS' dn k (Nat.le_refl _)
theorem sN{W:Nat->Int}{k:Nat}{rs:List (Int × Int)}(po:aR rs)(hD:Dk W k ≠ 0)(num:∀ j,cf rs j=((qk W k j:Int):Rat) / ((Dk W k:Int):Rat)):rs.length=k+1:=by
 have c0:((0:Int):Rat)=0:=rfl
 refine Nat.le_antisymm (kO po fun j hj=>?_) (Nat.not_lt.mp fun z=>?_)
 ·rw[num,fT (by walk_at"o"),c0]
  grind
 ·have e:=num k
  rw[cz (by walk_at"o"),gD] at e
  have:=aD hD
  grind
theorem yD{W:Nat->Int}{k:Nat}(hD:Dk W k ≠ 0)(hk:k<=6)(bW:∀ i,Bt 170 (W i)):Pb 1100 (Pk W k) :=
 ⟨Dk W k,hD,(qK bW hk).mono (by decide),fun j=>⟨qk W k j,rfl,by
  by_cases h:k<=5
  ·exact (qP bW h).mono (by decide)
  ·obtain rfl:k=6:=by walk_at"o"
   have:=sr (B:=2 ^ 170) (k:=6) (fun i=>Nat.le_of_lt (bW i)) j
   exact Nat.lt_of_le_of_lt this (by decide +kernel)⟩⟩
theorem F7(i:Nat):aR (List.replicate i (0,1) ++ [((1:Int),(1:Int))]):=⟨fun q hq=>by
 rcases List.mem_append.mp hq with z|z
 ·rw[(List.mem_replicate.mp z).2]
  exact pk
 ·rw[List.mem_singleton.mp z]
  exact⟨by decide,by decide⟩,fun q hq=>by
 rw[List.getLast?_append] at hq
 cases hq
 decide⟩
theorem FP(i:Nat):∀ q ∈ List.replicate i (0,1) ++ [((1:Int),(1:Int))],Bq 2000 q:=fun q hq=>by
 have:Bq 2 q:=by
  rcases List.mem_append.mp hq with z|z
  ·rw[(List.mem_replicate.mp z).2]
   exact⟨by decide,by decide⟩
  ·rw[List.mem_singleton.mp z]
   exact⟨by decide,by decide⟩
 exact this.mono (by decide)
theorem gw(fs:List (Int × Int)):(D.lst (fs.map fr)).noSt=true:=sK (pL fs) fun i b e=>by
 cases fs with
 | nil=>cases e
 | cons f fs=>rw[List.map_cons] at e;cases e
theorem eA{d:D}{ds:List D}(h:d.noSt=true)(h2:D.noSts ds=true):D.noSts (d :: ds)=true:=by
 unfold D.noSts
 rw[h,h2]
 rfl
theorem mT:D.noSts []=true:=by
 unfold D.noSts
 rfl
theorem kY{ds:List D}(h:D.noSts ds=true):(D.tup ds).noSt=true:=by
 unfold D.noSt
 exact h
theorem sX{w:Str}:(D.str w).noSt=true:=by
 unfold D.noSt
 rfl
def Pl(fs:List (Int × Int)):Prop:=aR fs/\fs.length<=12 /\ ∀ q ∈ fs,Bq 2000 q
def Em(d:D):Prop:=∃(w:Str)(fs:List (Int × Int)),(w = "below" \/ w = "nought")/\Pl fs/\(d = .tup [.str w,.lst (fs.map fr)] \/ ∃ gs:List (Int × Int),Pl gs/\d = .tup [.str w,.lst (fs.map fr),.lst (gs.map fr)])
theorem D8{W:Nat->Int}{k:Nat}(hD:Dk W k ≠ 0)(hk:k<=5)(bW:∀ i,Bt 170 (W i)):Pb 869 (Pk W k) :=
 ⟨Dk W k,hD,(D9 bW hk).mono (by walk_at"o"),fun j=>⟨qk W k j,rfl,(yu bW hk).mono (by walk_at"o")⟩⟩
theorem DA.blk{qs:List (Int × Int)}{W:Nat->Int}{B:Int}{M:Nat}{G:Hp}{p:Addr}{s:Str}(o:DA qs W B M G p s)(l11:qs.length<=11)(cl:uz qs W B)(my:BB W qs.length M)(bs:s = "below" \/ s = "nought"):∃ d,aF G d (.ref p)/\Em d:=by
 obtain⟨k,rfl⟩ : ∃ k,M=k+1:=⟨M - 1,by have:=my.one;walk_at"o"⟩
 have m2:=my.most
 have dk:=my.up k (by walk_at"o")
 obtain⟨l,ys,hp,_,_,_,h5,h6⟩:=o.at_
 rw[Nat.add_sub_cancel] at h5 h6
 have fin:∀ {fs:List (Int × Int)},aR fs->(∀ j,cf fs j=Pk W k j)->Pl fs:=fun po num=>by
  have lr:=sN po (show Dk W k ≠ 0 by walk_at"o") num
  have pb:=(yD (show Dk W k ≠ 0 by walk_at"o") (by walk_at"o") cl.bt).congr num
  exact⟨po,by walk_at"o",fun q hq=>(pb.bq po.1 q hq).mono (by decide)⟩
 rcases bs with rfl|rfl
 ·obtain⟨rfl,rs,a1,a2,a3⟩:=h5 rfl
  exact⟨_,.mk_tup hp (.mk_cons (by unfold aF;rfl) (.mk_cons a1.rep .mk_nil)),_,rs,.inl rfl,fin a2 a3,.inl rfl⟩
 ·obtain⟨l2,i,rs,rfl,a1,a2,a3,a4,a5,a6⟩:=h6 rfl
  exact⟨_,.mk_tup hp (.mk_cons (by unfold aF;rfl) (.mk_cons a1.rep (.mk_cons a4.rep .mk_nil))),_,rs,.inr rfl,fin a2 a3,.inr ⟨_,⟨F7 i,by simp;walk_at"o",FP i⟩,rfl⟩⟩
theorem DA.roots{qs:List (Int × Int)}{W:Nat->Int}{B:Int}{M:Nat}{G:Hp}{p:Addr}{s:Str}(o:DA qs W B M G p s)(l11:qs.length<=11)(my:BB W qs.length M)(ts:s = "tight" \/ s = "open"):∃ (l:Addr)(rs:List (Int × Int))(k:Nat),G p=some (.tup [.str s,.ref l])/\aP G l rs/\aR rs/\(∀ j,cf rs j=Pk W k j)/\(∀ i,i<=k->0<Dk W i)/\k<=M/\k<=6/\k<=qs.length/\2*k<=qs.length+1/\(s = "open" -> 0<Dk W M/\qs.length<=2*M):=by
 have m1:=my.one
 have m2:=my.most
 obtain⟨l,ys,hp,h2,h3,h4,_,_⟩:=o.at_
 obtain rfl:=h2 ts
 rcases o.kind with ⟨_,z⟩|⟨_,_,z⟩|⟨_,_,z⟩|⟨d,z⟩
 ·rcases ts with y|y <;> exact absurd (z.symm.trans y) (by decide +kernel)
 ·rcases ts with y|y <;> exact absurd (z.symm.trans y) (by decide +kernel)
 ·obtain⟨rs,a,b,c⟩:=h3 z
  exact⟨l,rs,M - 1,hp,a,b,c,fun i hi=>my.up i (by walk_at"o"),by walk_at"o",by walk_at"o",by walk_at"o",by walk_at"o",fun y=>absurd (z.symm.trans y) (by decide +kernel)⟩
 ·obtain⟨rs,a,b,c⟩:=h4 z
  refine⟨l,rs,M,hp,a,b,c,fun i hi=>?_,by walk_at"o",by walk_at"o",by walk_at"o",by walk_at"o",fun _=>⟨d,?_⟩⟩
  ·by_cases e:i=M
   ·rw[e];exact d
   ·exact my.up i (by walk_at"o")
  ·rcases my.all with y|y
   ·exact y
   ·walk_at"o"
theorem DA.which{qs:List (Int × Int)}{W:Nat->Int}{B:Int}{M:Nat}{G:Hp}{p:Addr}{s:Str}(o:DA qs W B M G p s):(s = "below" \/ s = "nought")\/s = "tight" \/ s = "open":=by
 rcases o.kind with ⟨_,z⟩|⟨_,_,z⟩|⟨_,_,z⟩|⟨_,z⟩
 ·exact .inl (.inl z)
 ·exact .inl (.inr z)
 ·exact .inr (.inl z)
 ·exact .inr (.inr z)
def gQ(K:W.Frag):Sp:=fun vs H Q _=>∃ (y:V)(q:Int × Int),vs=[y]/\aF (vw K H) (fr q) y /\ ∀ (b:Addr) H',aC (vw K H) (vw K H')->aP (vw K H') b [(-q.1,q.2),(1,1)]->Q (.ref b) H'
theorem sA(F:et K "less_spot" "less_spot" fI f fd) (T:ff K mg):bU P w K mg base el 1 f fd ["spot"] (gQ K):=by
 have scN:=mi.nd
 refine F.okQ mi (fun vs H Q E h=>?_) (fun cdv A outer s H vs Q E hr h=>?_)
 ·obtain⟨_,_,rfl,_⟩:=h
  rfl
 ·obtain⟨y,q,rfl,hy,h⟩:=h
  obtain⟨z_ONE,hg_ONE,hv_ONE⟩:=T.g_ONE
  obtain⟨x,rfl,hx⟩:=hy.fr_at
  refine⟨_,(ah (aq (aM (aa (aH (aa (cG bO (ay cg (qv 0) ae (fun _ _=>rfl))) (aa (ay cg (qv 0) ae (fun _ _=>rfl)) ac))) (aa (fi (v:=V.ref z_ONE) rfl hg_ONE rfl) ac))))),?_⟩
  walk_at"m"
  walk_at"vc"
  refine⟨_,hx,_,eD,_,rfl,_,hx,_,ei,by decide,fun p1 H1 hp1 S1 h1=>⟨by decide,fun p2 H2 hp2 S2 h2=>h p2 H2 (S1.trans S2) ⟨_,h2,.mk_cons (bV (S2 _ _ h1)) (.mk_cons (bV (hv_ONE _)) .mk_nil)⟩⟩⟩
theorem Gf{q:Int × Int}{v:Nat->Rat}(f:Fq q)(j:Nat):pr (cf [(-q.1,q.2),(1,1)]) v 2 j=lx (wv q) v j:=by
 have c:=aD f.ne
 have e0:cf [(-q.1,q.2),(1,1)] 0 = -wv q:=by
  show wv (-q.1,q.2) = -wv q
  unfold wv
  rw[show (((-q.1:Int)):Rat) = -((q.1:Int):Rat) from Rat.intCast_neg _]
  grind
 have e1:cf [(-q.1,q.2),(1,1)] 1=1:=by
  show wv (1,1)=1
  decide +kernel
 show (0+(if 0<=j then cf [(-q.1,q.2),(1,1)] 0*v (j - 0) else 0))+(if 1<=j then cf [(-q.1,q.2),(1,1)] 1*v (j - 1) else 0)=_
 unfold lx
 rw[e0,e1,if_pos (Nat.zero_le _)]
 by_cases z:j=0
 ·rw[if_pos z,if_neg (by walk_at"o"),Nat.sub_zero]
  grind
 ·rw[if_neg z,if_pos (by walk_at"o"),Nat.sub_zero]
  grind
theorem ER{q:Int × Int}(f:Fq q):Fq (-q.1,q.2):=⟨f.1,by
 have:=f.2
 show Int.gcd (-q.1) q.2=1
 rw[Int.neg_gcd]
 exact this⟩
def wf(q:Int × Int)(ns:List Int):List Int:=List.zipWith (fun x y=>q.2*y - q.1*x) ns (ns.drop 1)
theorem oM{q:Int × Int}{ns:List Int}:(wf q ns).length=ns.length - 1:=by
 unfold wf
 rw[List.length_zipWith,List.length_drop]
 walk_at"o"
theorem Dc{q:Int × Int}{ns:List Int}{i:Nat}(h:i+1<ns.length):(wf q ns)[i]? = some (q.2*ns[i+1] - q.1*ns[i]):=by
 unfold wf
 have e:(ns.drop 1)[i]? = some ns[i+1]:=by rw[List.getElem?_drop,Nat.add_comm 1 i,List.getElem?_eq_getElem h]
 rw[List.getElem?_zipWith,List.getElem?_eq_getElem (by walk_at"o" : i<ns.length),e]
def fU(K:W.Frag):Sp:=fun vs H Q _=>∃ (a:Addr)(y:V)(ns:List Int)(q:Int × Int)(B:Nat),vs=[.ref a,y]/\vw K H a=some (.lst (ns.map V.int))/\aF (vw K H) (fr q) y/\1<=ns.length/\ns.length<=20/\(∀ n ∈ ns,Bt B n)/\B<=5000/\Bq 130 q /\
 ∀ (b:Addr) H',aC (vw K H) (vw K H')->vw K H b=none->vw K H' b=some (.lst ((wf q ns).map V.int))->Q (.ref b) H'
theorem ph(F:et K "wholes_from" "wholes_from" dY f fd) (T:ff K mg):bU P w K mg base el 1 f fd ["wholes", "spot"] (fU K):=by
 have scN:=jC.nd
 refine F.okQ jC (fun vs H Q E h=>?_) (fun cdv A outer s H vs Q E hr h=>?_)
 ·obtain⟨a,_,_,_,_,rfl,_⟩:=h
  rfl
 ·obtain⟨a,y,ns,q,B,rfl,ha,ry,hne,hl,hB,hB2,bq,h⟩:=h
  refine⟨_,(af (cY (qv 1) (bJ (n:=2) rfl (ar (ak (i:=2) scN rfl (by walk_at"a1")) (ar (ak (i:=3) scN rfl (by walk_at"a1")) bI))))
   (ah (aq (cL (own:=["before", "after"]) (outs:=["bottom", "top"]) (ixs:=[3,2]) rfl (uI rfl T.b_zip (aa (qv 0) (aa (ci gB (qv 0) (cC ae) cy) ac))) rfl ⟨rfl,rfl,rfl,⟨rfl,⟨rfl,trivial⟩⟩,rfl,⟨⟨rfl,rfl,rfl,_,rfl⟩,⟨⟨rfl,rfl,rfl,_,rfl⟩,trivial⟩⟩⟩ (fun _ _ _ _=>⟨(show QG _ _ (jB K 2 _) from bJ (n:=2) rfl (ar (ak (i:=0) (show (["before", "after", "bottom", "top"]:List Str).Nodup by decide +kernel) rfl (by walk_at"a1")) (ar (ak (i:=1) (show (["before", "after", "bottom", "top"]:List Str).Nodup by decide +kernel) rfl (by walk_at"a1")) bI))),cS,(ao cX (ao (show fb _ _ (gO K) from aS) (qv 2) (qv 1)) (ao (show fb _ _ (gO K) from aS) (qv 3) (qv 0)))⟩))))),?_⟩
  walk_at"m"
  obtain⟨p,rfl,hp⟩:=ry.fr_at
  walk_at"vc"
  refine⟨_,hp,rfl,?_⟩
  walk_at"vc"
  simp only[yA]
  walk_at"vc"
  refine⟨_,ha,fun p1 H1 hp1 S1 h1=>?_⟩
  rw[show (1:Int)=((1:Nat):Int) from rfl,iC (by simpa using hne),<- List.map_drop] at h1
  have ha1:=S1 _ _ ha
  refine⟨p1,rfl,true,⟨_,ha1⟩,true,⟨_,h1⟩,fun c H2 hc S2 h2=>?_⟩
  have lz:((ns.map V.int).zip ((ns.drop 1).map V.int)).length=(wf q ns).length:=by
   rw[oM,List.length_zip,List.length_map,List.length_map,List.length_drop]
   walk_at"o"
  refine m8 (ps:=(ns.map V.int).zip ((ns.drop 1).map V.int)) (fun i zs H'=>aC (vw K H1) (vw K H')/\zs=((wf q ns).take i).map V.int) (fun i zs H' _ _ p=>⟨_,_,p.1 _ _ ha1,p.1 _ _ h1,oT.symm⟩) h2 ⟨S2,rfl⟩ (fun i u v zs H8 H9 hi huv h9 p S89=>?_) (fun zs H8 h8 p=>?_)
  ·obtain⟨S8,rfl⟩:=p
   rw[lz,oM] at hi
   have li:i+1<ns.length:=by walk_at"o"
   rw[List.getElem?_zip_eq_some,List.getElem?_map,List.getElem?_map,List.getElem?_drop,List.getElem?_eq_getElem (by walk_at"o" : i<ns.length),Nat.add_comm 1 i,List.getElem?_eq_getElem li] at huv
   obtain⟨e1,e2⟩:=huv
   cases e1
   cases e2
   walk_at"vc"
   refine⟨cp bq.2 (hB _ (List.getElem_mem li)) (by walk_at"o"),cp bq.1 (hB _ (List.getElem_mem _)) (by walk_at"o"),.mk2 h9 ?_ fun H10 B10 h10=>⟨fun b o e=>B10 _ _ (aj e hc) (S89 _ _ (S8 _ _ e)),?_⟩⟩
   ·rw[List.length_map,List.length_take]
    exact Nat.lt_of_le_of_lt (Nat.min_le_left _ _) (Nat.lt_of_lt_of_le (show i<20 by walk_at"o") (by decide))
   ·rw[List.take_add_one,Dc li,List.map_append]
    rfl
  ·obtain⟨S8,rfl⟩:=p
   rw[lz,List.take_length] at h8
   exact h c H8 (S1.trans S8) (S1.none hc) h8
def eI(K:W.Frag):Sp:=fun vs H Q _=>∃ (a:Addr)(y:V)(ss:List (Int × Int))(q:Int × Int),vs=[.ref a,y]/\aP (vw K H) a ss/\aF (vw K H) (fr q) y/\Fq q/\Bq 130 q/\1<=ss.length/\ss.length<=11/\(∀ p ∈ ss,Fq p/\Bq 131 p) /\
 ∀ (b:Addr) H' (qs:List (Int × Int)),aC (vw K H) (vw K H')->vw K H b=none->aP (vw K H') b qs->qs.length=ss.length - 1->(∀ (k:Nat)(p:Int × Int),qs[k]? = some p->Fq p/\wv p=cf ss (k+1) - wv q*cf ss k)->Q (.ref b) H'
theorem sk(F:et K "sums_from" "sums_from" fM f fd) (T:ff K mg)(C_wholes_from:aU P w K mg base "wholes_from" ["wholes", "spot"] 1 (fU K)) (C_ratio:aU P w K mg base "ratio" ["top", "bottom"] 2 (eC K)) (C_cleared:aU P w K mg base "cleared" ["f"] 2 (bC K)):bU P w K mg base el 3 f fd ["sums", "spot"] (eI K):=by
 have scN:=md.nd
 refine F.okQ md (fun vs H Q E h=>?_) (fun cdv A outer s H vs Q E hr h=>?_)
 ·obtain⟨a,_,_,_,rfl,_⟩:=h
  rfl
 ·obtain⟨a,y,ss,q,rfl,ha,ry,fq,bq,l1,l2,hs,h⟩:=h
  refine⟨_,(af (cY (ai C_cleared (hr.mono (by walk_at"a2")) rfl (aa (qv 0) ac)) (bJ (n:=2) rfl (ar (ak (i:=2) scN rfl (by walk_at"a1")) (ar (ak (i:=3) scN rfl (by walk_at"a1")) bI))))
   (ah (aq (cL (own:=["whole"]) (outs:=["bottom", "spot"]) (ixs:=[3,1]) rfl (cJ (ai C_wholes_from (hr.mono (by walk_at"a2")) rfl (aa (qv 2) (aa (qv 1) ac)))) rfl ⟨rfl,rfl,rfl,⟨rfl,⟨rfl,trivial⟩⟩,rfl,⟨⟨rfl,rfl,rfl,_,rfl⟩,⟨⟨rfl,rfl,rfl,_,rfl⟩,trivial⟩⟩⟩ (fun _ _ _ _=>⟨(ak (i:=0) (show (["whole", "bottom", "spot"]:List Str).Nodup by decide +kernel) rfl (by walk_at"a1")),cS,(ai C_ratio (hr.mono (by walk_at"a2")) rfl (aa (qv 0) (aa (ao (show fb _ _ (gO K) from aS) (qv 1) (ay (show uB _ (zJ K) from cg) (qv 2) ae (fun _ _=>rfl))) ac)))⟩))))),?_⟩
  walk_at"m"
  obtain⟨yp,rfl,hyp⟩:=id ry.fr_at
  refine aW.gen fun N1 hN1=>?_
  walk_at"vc"
  simp only[bC]
  refine⟨a,ss,131,rfl,ha,by walk_at"o",by decide,hs,fun p1 b1 H1 D ns S1 h1 hb1 _ hD bD ln hn _=>?_⟩
  walk_at"vc"
  refine⟨_,h1,rfl,?_⟩
  walk_at"vc"
  refine hN1 _ _ ?_
  walk_at"vc"
  simp only[fU]
  have hB:∀ n ∈ ns,Bt 1573 n:=fun n z=>by
   obtain⟨i,hi⟩:=List.getElem?_of_mem z
   have li:=(List.getElem?_eq_some_iff.mp hi).1
   exact (hn i n _ hi (List.getElem?_eq_getElem (by walk_at"o"))).2.mono (by walk_at"o")
  have hyp1:=S1 _ _ hyp
  refine⟨b1,_,ns,q,1573,rfl,hb1,bV hyp1,by walk_at"o",by walk_at"o",hB,by decide,bq,fun b2 H2 S2 _ h2=>?_⟩
  have hne:D*q.2 ≠ 0:=Int.mul_ne_zero (by walk_at"o") fq.ne
  have bDq:Bt 1600 (D*q.2):=(bD.mul bq.2).mono (by walk_at"o")
  refine⟨b2,rfl,⟨_,.of (aN h2)⟩,fun c H3 hc S3 h3=>?_⟩
  refine aY (its:=(wf q ns).map V.int) (fun i zs H'=>aC (vw K H2) (vw K H')/\aG (vw K H') ((((wf q ns).take i).map fun n=>lo n (D*q.2)).map fr) zs) (fun i zs H' _ _ p=>aX (p.1 _ _ h2)) h3 ⟨S3,.mk_nil⟩ (fun i x zs H4 hi hx h4 p=>?_) (fun zs H4 h4 p=>?_)
  ·obtain⟨S4,r4⟩:=p
   rw[List.length_map,oM] at hi
   rw[List.getElem?_map] at hx
   cases e:(wf q ns)[i]? with
   | none=>rw[e] at hx;cases hx
   | some n =>
    rw[e] at hx
    cases hx
    walk_at"vc"
    refine⟨_,(S2.trans S4) _ _ hyp1,_,ei,?_⟩
    walk_at"vc"
    simp only[eC]
    refine⟨cp bD bq.2 (by walk_at"o"),n,_,rfl,hne,bDq.mono (by decide),fun v H5 S5 r5=>.mk (S5 _ _ h4) ?_ fun H6 B6 h6=>⟨fun b o e=>B6 _ _ (aj e hc) (S5 _ _ (S4 _ _ e)),?_⟩⟩
    ·rw[r4.length,List.length_map,List.length_map,List.length_take]
     exact Nat.lt_of_le_of_lt (Nat.min_le_left _ _) (Nat.lt_of_lt_of_le (show i<20 by walk_at"o") (by decide))
    ·rw[List.take_add_one,e,List.map_append,List.map_append]
     exact (aG.flat_but (S5 _ _ h4) B6 _ _ (cP _) (r4.same S5)).snoc (aF.flat_but (S5 _ _ h4) B6 _ _ (ce _) r5)
  ·obtain⟨S4,r4⟩:=p
   rw[List.length_map,List.take_length] at r4
   refine h c H4 _ (S1.trans (S2.trans S4)) (S1.none (S2.none hc)) ⟨zs,h4,r4⟩ (by rw[List.length_map,oM,ln]) fun k p e=>?_
   rw[List.getElem?_map] at e
   have lk:k+1<ns.length:=by
    cases e2:(wf q ns)[k]? with
    | none=>rw[e2] at e;cases e
    | some n =>
     have:=(List.getElem?_eq_some_iff.mp e2).1
     rw[oM] at this
     walk_at"o"
   rw[Dc lk] at e
   cases e
   refine⟨iS hne,?_⟩
   have w0:=(hn k _ _ (List.getElem?_eq_getElem (by walk_at"o")) (List.getElem?_eq_getElem (by walk_at"o"))).1
   have w1:=(hn (k+1) _ _ (List.getElem?_eq_getElem lk) (List.getElem?_eq_getElem (by walk_at"o"))).1
   rw[<- aZ (List.getElem?_eq_getElem (by walk_at"o" : k<ss.length))] at w0
   rw[<- aZ (List.getElem?_eq_getElem (by walk_at"o" : k+1<ss.length))] at w1
   rw[iQ hne,Rat.intCast_sub,Rat.intCast_mul,Rat.intCast_mul,Rat.intCast_mul,w0,w1]
   have n1:(D:Rat) ≠ 0:=aD (by walk_at"o")
   have n2:(q.2:Rat) ≠ 0:=aD fq.ne
   show _=cf ss (k+1) - (q.1:Rat) / (q.2:Rat)*cf ss k
   grind
def dW(K:W.Frag):Sp:=fun vs H Q _=>∃ (a b:Addr)(fs gs:List (Int × Int))(B:Nat),vs=[.ref a,.ref b]/\aP (vw K H) a fs/\aP (vw K H) b gs/\fs.length<=14/\gs.length<=14/\B<=20000/\fs.length*B+gs.length*B<=900000/\(∀ q ∈ fs,Fq q/\Bq B q)/\(∀ q ∈ gs,Fq q/\Bq B q) /\
 ∀ c H' (rs:List (Int × Int)),aC (vw K H) (vw K H')->aP (vw K H') c rs->vw K H c=none->aR rs->(∀ k,cf rs k=pr (cf fs) (cf gs) fs.length k)->rs.length<=fs.length+gs.length->(∀ q ∈ rs,Bq (2+fs.length*B+gs.length*B+B+B+fs.length) q)->Q (.ref c) H'
theorem pX(F:et K "multiplied" "multiplied" eV f fd) (T:ff K mg)(C_cleared:aU P w K mg base "cleared" ["f"] 2 (bC K)) (C_divided:aU P w K mg base "divided" ["wholes", "bottom"] 3 (da K)) (C_wholes_multiplied:aU P w K mg base "wholes_multiplied" ["one", "other"] 1 (bA K)):bU P w K mg base el 4 f fd ["f", "g"] (dW K):=by
 have scN:=kE.nd
 refine F.okQ kE (fun vs H Q E h=>?_) (fun cdv A outer s H vs Q E hr h=>?_)
 ·obtain⟨a,_,_,_,_,rfl,_⟩:=h
  rfl
 ·obtain⟨a,b,fs,gs,B,rfl,ha,hb,lf,lg',hB,hBB,hf,hg,h⟩:=h
  refine⟨_,(af (cY (ai C_cleared (hr.mono (by walk_at"a2")) rfl (aa (qv 0) ac)) (bJ (n:=2) rfl (ar (ak (i:=2) scN rfl (by walk_at"a1")) (ar (ak (i:=3) scN rfl (by walk_at"a1")) bI))))
   (af (cY (ai C_cleared (hr.mono (by walk_at"a2")) rfl (aa (qv 1) ac)) (bJ (n:=2) rfl (ar (ak (i:=4) scN rfl (by walk_at"a1")) (ar (ak (i:=5) scN rfl (by walk_at"a1")) bI))))
   (ah (aq (ai C_divided (hr.mono (by walk_at"a2")) rfl (aa (ai C_wholes_multiplied (hr.mono (by walk_at"a2")) rfl (aa (qv 2) (aa (qv 4) ac))) (aa (ao aS (qv 3) (qv 5)) ac))))))),?_⟩
  walk_at"m"
  walk_at"vc"
  simp only[bC]
  walk_at"vc"
  refine⟨fs,ha,lf,B,Nat.le_trans hB (by decide),hf,fun p1 a1 H1 D1 ms S1 h1 ha1 _ hD1 bD1 lm hm _=>⟨_,h1,rfl,?_⟩⟩
  walk_at"vc"
  refine⟨gs,hb.same S1,lg',B,Nat.le_trans hB (by decide),hg,fun p2 b1 H2 D2 ns S2 h2 hb1 _ hD2 bD2 ln hn _=>⟨_,h2,rfl,?_⟩⟩
  walk_at"vc"
  simp only[bA]
  walk_at"vc"
  have bm:∀ x ∈ ms,Bt (1+fs.length*B+B) x:=fun x hx=>by
   obtain⟨i,hi⟩:=List.mem_iff_getElem?.mp hx
   have hil:=(List.getElem?_eq_some_iff.mp hi).1
   exact (hm i x _ hi (List.getElem?_eq_getElem (show i<fs.length by walk_at"o"))).2
  have bn:∀ x ∈ ns,Bt (1+gs.length*B+B) x:=fun x hx=>by
   obtain⟨i,hi⟩:=List.mem_iff_getElem?.mp hx
   have hil:=(List.getElem?_eq_some_iff.mp hi).1
   exact (hn i x _ hi (List.getElem?_eq_getElem (show i<gs.length by walk_at"o"))).2
  refine⟨ms,S2 _ _ ha1,ns,hb1,by walk_at"o",by walk_at"o",1+fs.length*B+B,by walk_at"o",1+gs.length*B+B,by walk_at"o",bm,bn,fun c3 H3 L S3 h3 _ hL _ zL=>?_⟩
  walk_at"vc"
  refine⟨cp bD1 bD2 (by walk_at"o"),?_⟩
  simp only[da]
  walk_at"vc"
  have nz1:D1*D2 ≠ 0:=Int.mul_ne_zero (by walk_at"o") (by walk_at"o")
  have bz:=wb (jz bm) (jz bn) ms.length
  refine⟨_,h3,by rw[bH];walk_at"o",nz1,(bD1.mul bD2).mono (by walk_at"o"),fun c4 H4 rs S4 l4 n4 p4 c4' e4 q4=>h c4 H4 rs (S1.trans (S2.trans (S3.trans S4))) l4 ?_ p4 (fun k=>?_) (by rw[bH] at e4;walk_at"o") fun q hq=>?_⟩
  ·cases e:vw K H c4 with
   | none=>rfl
   | some o=>rw[S3 _ _ (S2 _ _ (S1 _ _ e))] at n4;cases n4
  ·rw[c4' k]
   have e1:nz (lz L (pz (nz ms) (nz ns) ms.length)) k=pz (nz ms) (nz ns) ms.length k:=by
    by_cases hk:k<L
    ·exact xu hk
    ·rw[zL k (by walk_at"o"),dg (by rw[bH];walk_at"o")]
   rw[e1,oq (fS lm fun i n q e1 e2=>(hm i n q e1 e2).1) (fS ln fun i n q e1 e2=>(hn i n q e1 e2).1),Rat.intCast_mul,lm]
   have c1:=aD (show D1 ≠ 0 by walk_at"o")
   have c2:=aD (show D2 ≠ 0 by walk_at"o")
   grind
  ·obtain⟨n,hn',rfl⟩:=q4 q hq
   obtain⟨k,hk,rfl⟩:=List.mem_map.mp hn'
   exact nL nz1 ((bz k).mono (by walk_at"o")) ((bD1.mul bD2).mono (by walk_at"o"))
def jZ(K:W.Frag):Sp:=fun vs H Q _=>∃ x y p q,vs=[x,y]/\aF (vw K H) (fr p) x/\aF (vw K H) (fr q) y/\p.2 ≠ 0/\q.2 ≠ 0/\Bq 1000000 p/\Bq 1000000 q/\Bt 4000000 (p.2*q.2) /\ ∀ v H',aC (vw K H) (vw K H')->aF (vw K H') (fr (yB p q)) v->Q v H'
theorem Cw(F:et K "_law_minus" "_law_minus" kw f fd) (T:ff K mg)(zClow:aU P w K mg base "_law_low" ["_law_top", "_law_bottom"] 2 (jr K)):bU P w K mg base el 3 f fd ["_law_one", "_law_other"] (jZ K):=by
 have scN:=wL.nd
 refine F.okQ wL (fun vs H Q E h=>?_) (fun cdv A outer s H vs Q E hr h=>?_)
 ·obtain⟨_,_,_,_,rfl,_⟩:=h
  rfl
 ·obtain⟨x,y,p,q,rfl,hx,hy,np,nq,bp,bq,bb,h⟩:=h
  refine⟨_,(ah (aq (ai zClow (hr.mono (by walk_at"a2")) rfl (aa (ao cX (ao aS (ay cg (qv 0) ae (fun _ _=>rfl)) (ay cg (qv 1) ae (fun _ _=>rfl))) (ao aS (ay cg (qv 1) ae (fun _ _=>rfl)) (ay cg (qv 0) ae (fun _ _=>rfl)))) (aa (ao aS (ay cg (qv 0) ae (fun _ _=>rfl)) (ay cg (qv 1) ae (fun _ _=>rfl))) ac))))),?_⟩
  walk_at"m"
  obtain⟨a,rfl,ha⟩:=hx.fr_at
  obtain⟨b,rfl,hb⟩:=hy.fr_at
  walk_at"vc*"
  simp only[jr]
  walk_at"vc*"
  exact⟨cp bp.1 bq.2 (by decide),cp bq.1 bp.2 (by decide),cp bp.2 bq.2 (by decide),Int.mul_ne_zero np nq,h⟩
def gK(K:W.Frag):Sp:=fun vs H Q _=>∃ (st:Addr)(m:Nat),vs=[.ref st,.int m]/\m<=6/\1<=m/\dC (vw K H) st /\ ∀ (a:Addr)(H':Hp)(cs:List sR),fh st (vw K H) (vw K H')->dC (vw K H') st->ji (vw K H') a (cs.map tH)->(∀ c ∈ cs,Fq c.1/\Fq c.2)->(∀ c ∈ cs,Bq 100 c.1/\Bq 10 c.2)->(∀ c ∈ cs,Sx 300 c.1/\Sx 36 c.2)->1<=cs.length->cs.length<=m->Q (.ref a) H'
theorem se(F:et K "_law_spot_crowd" "_law_spot_crowd" eT f fd) (T:ff K mg)(zCsmall:aU P w K mg base "_law_small" ["_law_state_here"] 3 (dO K)) (zCabove:aU P w K mg base "_law_above" ["_law_state_here"] 3 (iM K))
  (zCcrowd:aU P w K mg base "_law_crowd" ["_law_state_here", "_law_most"] 4 (jW K)):bU P w K mg base el 5 f fd ["_law_state_here", "_law_most"] (gK K):=by
 have scN:=me.nd
 refine F.okQ me (fun vs H Q E h=>?_) (fun cdv A outer s H vs Q E hr h=>?_)
 ·obtain⟨_,_,rfl,_⟩:=h
  rfl
 ·obtain⟨st,m,rfl,hm,hm1,hst,h⟩:=h
  refine⟨_,(af (aE (i:=2) scN rfl (by walk_at"a1") (ai zCcrowd (hr.mono (by walk_at"a2")) rfl (aa (qv 0) (aa (qv 1) ac))))
   (af (cj (aL (sT hr.ul) (qv 2) (aM ac) (aI _)) (ah (aE (i:=2) scN rfl (by walk_at"a1") (aM (aa (aH (aa (ai zCsmall (hr.mono (by walk_at"a2")) rfl (aa (qv 0) ac)) (aa (ai zCabove (hr.mono (by walk_at"a2")) rfl (aa (qv 0) ac)) ac))) ac)))) aO)
   (ah (aq (qv 2))))),?_⟩
  walk_at"m"
  refine aW.gen fun N1 hN1=>?_
  walk_at"vc"
  simp only[jW]
  refine⟨st,m,rfl,hm,hst,fun a H1 cs B1 st1 l1 f1 b1 s1 _ n1 hn1=>hN1 _ _ ?_⟩
  obtain⟨xs,hxs,rxs⟩:=id l1
  have lxs:xs.length=cs.length:=by rw[rxs.length,List.length_map]
  refine aW.gen fun N2 hN2=>?_
  walk_at"vc"
  refine⟨by decide,fun e2 H2 he2 S2 h2=>⟨e2,rfl,xs,S2 _ _ hxs,h2,?_⟩⟩
  have st2:=st1.same S2
  refine bY (fun hc=>?_) (fun hc=>hN2 _ _ ?_)
  ·simp only[dO,iM]
   refine⟨st,rfl,st2,fun v3 H3 q3 B3 st3 r3 f3 b31 b32 s3=>⟨st,rfl,st3,fun v4 H4 q4 B4 st4 r4 f4 _ b4 s4=>⟨by decide,fun t5 H5 ht5 S5 h5=>⟨by decide,fun l6 H6 hl6 S6 h6=>hN2 _ _ ?_⟩⟩⟩⟩
   obtain⟨_,_,e,_⟩:=id st3
   have r34:=aF.flat_but e B4 _ _ (ce _) r3
   walk_at"vc"
   refine h l6 H6 [(q3,q4)] ((B1.same_trans S2).trans (B3.trans (B4.same_trans (S5.trans S6)))) (st4.same (S5.trans S6)) ⟨_,h6,.mk_cons (.mk_tup (S6 _ _ h5) (.mk_cons (aF.same (S5.trans S6) _ _ r34) (.mk_cons (aF.same (S5.trans S6) _ _ r4) .mk_nil))) .mk_nil⟩ (fun c hc=>?_) (fun c hc=>?_) (fun c hc=>?_) (by simp) (by simpa using hm1)
   ·cases List.mem_singleton.mp hc
    exact⟨f3,f4⟩
   ·cases List.mem_singleton.mp hc
    exact⟨⟨b31.mono (by decide),b32.mono (by decide)⟩,b4⟩
   ·cases List.mem_singleton.mp hc
    exact⟨s3.mono (by decide),s4⟩
  ·have hcs:1<=cs.length:=by
    rcases Nat.eq_zero_or_pos cs.length with z|z
    ·rw[z] at lxs
     have:xs=[]:=List.length_eq_zero_iff.mp lxs
     subst this
     exact absurd rfl hc
    ·exact z
   walk_at"vc"
   exact h a H2 cs (B1.same_trans S2) st2 ⟨xs,S2 _ _ hxs,rxs.same S2⟩ (fun c hc=>⟨(f1 c hc).1,(f1 c hc).2.1⟩) b1 s1 hcs n1
def mj(q:Int × Int):Prop:=Fq q/\Bq 12 q/\q.2 ∣ 30
theorem wj{q:Int × Int}{n:Int}(f:Fq q)(e:wv q=(n:Rat) / 30)(l:n.natAbs<4096):mj q:=by
 have e':wv q=(n:Rat) / ((30:Int):Rat):=e
 exact⟨f,pB f e' (by decide) (show Bt 12 n from l) (by decide),jK f (by decide) e'⟩
theorem Sx.spot{q:Int × Int}(f:Fq q)(h:Sx 700 q):mj q:=by
 obtain⟨n,e,l⟩:=h
 refine wj (n:=5*n) f ?_ (by walk_at"o")
 rw[e,Rat.intCast_mul,show ((5:Int):Rat)=5 from rfl]
 grind
theorem mO{ss qs:List (Int × Int)}{q:Int × Int}(hs:∀ p ∈ ss,gS 112 p)(hq:mj q)(l:qs.length=ss.length - 1)(h:∀ (k:Nat)(p:Int × Int),qs[k]? = some p->Fq p/\wv p=cf ss (k+1) - wv q*cf ss k):∀ p ∈ qs,ma p:=fun p hp=>by
 obtain⟨k,hk⟩:=List.getElem?_of_mem hp
 have lk:=(List.getElem?_eq_some_iff.mp hk).1
 obtain⟨f,e⟩:=h k p hk
 obtain⟨_,n1,e1,t1⟩:=hs ss[k+1] (List.getElem_mem (by walk_at"o"))
 obtain⟨_,n0,e0,t0⟩:=hs ss[k] (List.getElem_mem (by walk_at"o"))
 rw[aZ (List.getElem?_eq_getElem (show k+1<ss.length by walk_at"o")),aZ (List.getElem?_eq_getElem (show k<ss.length by walk_at"o")),e1,e0] at e
 obtain⟨fq,bq,c,hc⟩:=hq
 have h6:((mv 12:Int):Rat) ≠ 0:=aD (by decide)
 have cq:=aD fq.ne
 have e':wv p=((n1*q.2 - q.1*n0:Int):Rat) / ((mv 12*q.2:Int):Rat):=by
  rw[e,Rat.intCast_sub,Rat.intCast_mul,Rat.intCast_mul,Rat.intCast_mul]
  unfold wv
  grind
 have ne:mv 12*q.2 ≠ 0:=Int.mul_ne_zero (by decide) fq.ne
 exact⟨f,pB f e' ne (((t1.mul bq.2).sub (bq.1.mul t0)).mono (by decide)) (((rV 12).mul bq.2).mono (by decide)),Int.dvd_trans (jK f ne e') ⟨c,by unfold Eo;rw[hc,Int.mul_comm];exact (Int.mul_assoc _ _ _).symm⟩⟩
def iL(K:W.Frag):Sp:=fun vs H Q _=>∃ (st:Addr),vs=[.ref st]/\dC (vw K H) st /\ ∀ (p a:Addr)(v:V)(H':Hp)(qs:List (Int × Int))(q:Int × Int),fh st (vw K H) (vw K H')->dC (vw K H') st->vw K H' p=some (.tup [.ref a,v])->aP (vw K H') a qs->aF (vw K H') (fr q) v->1<=qs.length->qs.length<=11->(∀ q ∈ qs,gS 112 q)->mj q->Q (.ref p) H'
theorem sZ(F:et K "_law_from_case" "_law_from_case" fE f fd) (T:ff K mg)(zCtake:aU P w K mg base "_law_take" ["_law_state_here", "_law_many"] 1 (dJ K)) (zCsmall:aU P w K mg base "_law_small" ["_law_state_here"] 3 (dO K)) (zCabove:aU P w K mg base "_law_above" ["_law_state_here"] 3 (iM K)) (zCminus:aU P w K mg base "_law_minus" ["_law_one", "_law_other"] 3 (jZ K))
  (zCspot_crowd:aU P w K mg base "_law_spot_crowd" ["_law_state_here", "_law_most"] 5 (gK K)) (zCsums:aU P w K mg base "_law_sums" ["_law_state_here"] 5 (rL K)) (zCcrowd_sums:aU P w K mg base "_law_crowd_sums" ["_law_crowd_here", "_law_many"] 4 (eK K)) (zCplus:aU P w K mg base "_law_plus" ["_law_one", "_law_other"] 3 (fX K)):bU P w K mg base el 6 f fd ["_law_state_here"] (iL K):=by
 have scN:=nI.nd
 refine F.okQ nI (fun vs H Q E h=>?_) (fun cdv A outer s H vs Q E hr h=>?_)
 ·obtain⟨_,rfl,_⟩:=h
  rfl
 ·obtain⟨st,rfl,hst,h⟩:=h
  refine⟨_,(af (cj (aL fW (ai zCtake (hr.mono (by walk_at"a2")) rfl (aa (qv 0) (aa ae ac))) ae (aI _)) (ah (aq (aH (aa (ai zCsums (hr.mono (by walk_at"a2")) rfl (aa (qv 0) ac)) (aa (ai zCsmall (hr.mono (by walk_at"a2")) rfl (aa (qv 0) ac)) ac))))) aO)
   (af (aE (i:=1) scN rfl (by walk_at"a1") (ai zCspot_crowd (hr.mono (by walk_at"a2")) rfl (aa (qv 0) (aa ae ac))))
   (af (aE (i:=2) scN rfl (by walk_at"a1") (ay cg (ay cZ (qv 1) ae (fun _ _=>rfl)) ae (fun _ _=>rfl)))
   (af (aE (i:=3) scN rfl (by walk_at"a1") (aM (aa (qv 2) (aa (ai zCminus (hr.mono (by walk_at"a2")) rfl (aa (qv 2) (aa (ai zCabove (hr.mono (by walk_at"a2")) rfl (aa (qv 0) ac)) ac))) (aa (ai zCplus (hr.mono (by walk_at"a2")) rfl (aa (qv 2) (aa (aH (aa ae (aa ae ac))) ac))) (aa (ai zCsmall (hr.mono (by walk_at"a2")) rfl (aa (qv 0) ac)) (aa (ay cg (ay cZ (qv 1) (cG bO ae) (fun _ _=>rfl)) ae (fun _ _=>rfl)) ac)))))))
   (ah (aq (aH (aa (ai zCcrowd_sums (hr.mono (by walk_at"a2")) rfl (aa (qv 1) (aa (ao aV ae (ai zCtake (hr.mono (by walk_at"a2")) rfl (aa (qv 0) (aa ae ac)))) ac))) (aa (ay cZ (qv 3) (ai zCtake (hr.mono (by walk_at"a2")) rfl (aa (qv 0) (aa ae ac))) (fun _ _=>rfl)) ac))))))))),?_⟩
  walk_at"m"
  refine aW.gen fun N1 hN1=>?_
  walk_at"vc"
  simp only[dJ]
  walk_at"vc"
  refine⟨hst,by decide,by decide,fun r1 H1 r10 r11 B1 st1=>bY (fun hr0=>?_) (fun hr0=>hN1 _ _ ?_)⟩
  ·simp only[rL,dO]
   refine⟨st,rfl,st1,fun a2 H2 qs B2 st2 l2 n21 n22 q2 _=>⟨st,rfl,st2,fun v3 H3 q3 B3 st3 r3 f3 b31 b32 x3=>⟨by decide,fun p4 H4 hp4 S4 h4=>?_⟩⟩⟩
   exact h p4 a2 v3 H4 qs q3 (B1.trans (B2.trans (B3.same_trans S4))) (st3.same S4) h4 ((l2.stBut st2 B3).same S4) (aF.same S4 _ _ r3) n21 n22 q2 (Sx.spot f3 (x3.mono (by decide)))
  refine aW.gen fun N2 hN2=>?_
  walk_at"vc"
  simp only[gK]
  refine⟨st,5,rfl,by decide,by decide,st1,fun a2 H2 cs B2 st2 l2 f2 b2 s2 n21 n22=>hN2 _ _ ?_⟩
  obtain⟨xs,hxs,rxs⟩:=id l2
  have n0:0<cs.length:=by walk_at"o"
  have key:∀ {G:Hp}{c:sR}{x:V},aF G (tH c) x -> ∃ p u w,x = .ref p/\G p=some (.tup [u,w])/\aF G (fr c.1) u:=fun r=>by
   obtain⟨p,ys,rfl,hp,r⟩:=r.tup_at
   obtain⟨d1,d2,u,w,e,rfl,ru,rw'⟩:=r.pair (by rw[r.length];rfl)
   cases e
   exact⟨p,u,w,rfl,hp,ru⟩
  obtain⟨x0,hx0,rx0⟩:=rxs.at (i:=0) (d:=tH cs[0]) (by rw[List.getElem?_map,List.getElem?_eq_getElem n0];rfl)
  obtain⟨p0,u0,w0,rfl,hp0,ru0⟩:=key rx0
  have fc0:=(f2 _ (List.getElem_mem n0)).1
  have bc0:=(b2 _ (List.getElem_mem n0)).1
  refine aW.gen fun N3 hN3=>?_
  walk_at"vc"
  refine⟨xs,hxs,_,show nN xs ((0:Nat):Int)=_ from ck hx0,p0,rfl,_,hp0,_,eD,hN3 _ _ ?_⟩
  refine aW.gen fun N4 hN4=>?_
  walk_at"vc"
  simp only[iM,jZ,fX,dO]
  refine⟨st,rfl,st2,fun v4 H4 q4 B4 st4 r4 f4 _ b4 x4=>?_⟩
  obtain⟨_,_,e2,_⟩:=id st2
  have ru4:=aF.flat_but e2 B4 _ _ (ce _) ru0
  refine⟨_,_,_,_,rfl,ru4,r4,fc0.ne,f4.ne,bc0.mono (by decide),b4.mono (by decide),(bc0.2.mul b4.2).mono (by decide),fun v5 H5 S5 r5=>⟨by decide,fun t6 H6 ht6 S6 h6=>?_⟩⟩
  have f15:Fq (1,5):=⟨by decide,by decide⟩
  have b15:Bq 10 (1,5):=⟨by decide,by decide⟩
  refine⟨_,_,_,(1,5),rfl,aF.same (S5.trans S6) _ _ ru4,bV h6,fc0.ne,f15.ne,bc0.mono (by decide),b15.mono (by decide),(bc0.2.mul b15.2).mono (by decide),fun v7 H7 S7 r7=>⟨st,rfl,st4.same (S5.trans (S6.trans S7)),fun v8 H8 q8 B8 st8 r8 f8 b81 b82 x8=>?_⟩⟩
  have S47:=S5.trans (S6.trans S7)
  have st7:=st4.same S47
  obtain⟨_,_,e7,_⟩:=id st7
  have l8:=((l2.stBut (fH cs) (mG cs) st2 B4).same S47).stBut (fH cs) (mG cs) st7 B8
  obtain⟨ys,hys,rys⟩:=id l8
  obtain⟨cl,hcl⟩:=xF (show cs ≠ [] from fun z=>by rw[z] at n0;exact absurd n0 (by decide))
  obtain⟨xl,hxl,rxl⟩:=rys.last (d:=tH cl) (by rw[List.getLast?_map,hcl];rfl)
  obtain⟨pl,ul,wl,rfl,hpl,rul⟩:=key rxl
  have hclm:=List.mem_of_getLast? hcl
  refine⟨ys,hys,_,dc hxl,pl,rfl,_,hpl,_,eD,by decide,fun l9 H9 hl9 S9 h9=>hN4 _ _ ?_⟩
  have ru8:=aF.flat_but e7 B8 _ _ (ce _) (aF.same S47 _ _ ru4)
  have r58:=aF.flat_but e7 B8 _ _ (ce _) (aF.same (S6.trans S7) _ _ r5)
  have r78:=aF.flat_but e7 B8 _ _ (ce _) r7
  have good:∀ x ∈ [u0,v5,v7,v8,ul],∃ q,aF (vw K H9) (fr q) x/\mj q:=fun x hx=>by
   simp only[List.mem_cons,List.not_mem_nil,or_false] at hx
   have x0:=(s2 _ (List.getElem_mem n0)).1
   rcases hx with rfl|rfl|rfl|rfl|rfl
   ·exact⟨_,aF.same S9 _ _ ru8,Sx.spot fc0 (x0.mono (by decide))⟩
   ·refine⟨_,aF.same S9 _ _ r58,Sx.spot (wr fc0 f4) ?_⟩
    obtain⟨n,e,l⟩:=x0
    obtain⟨m,e',l'⟩:=x4
    exact⟨n - m,by rw[zo fc0.ne f4.ne,e,e',Rat.intCast_sub];grind,by walk_at"o"⟩
   ·refine⟨_,aF.same S9 _ _ r78,?_⟩
    obtain⟨n,e,l⟩:=x0
    refine wj (n:=5*n+6) (kr fc0 f15) ?_ (by walk_at"o")
    have z:wv (1,5)=1 / 5:=rfl
    rw[mQ fc0.ne f15.ne,e,z,Rat.intCast_add,Rat.intCast_mul,show ((5:Int):Rat)=5 from rfl,show ((6:Int):Rat)=6 from rfl]
    grind
   ·exact⟨_,aF.same S9 _ _ r8,Sx.spot f8 (x8.mono (by decide))⟩
   ·exact⟨_,aF.same S9 _ _ rul,Sx.spot (f2 _ hclm).1 ((s2 _ hclm).1.mono (by decide))⟩
  have st9:=st8.same S9
  obtain⟨_,_,e9,_⟩:=id st9
  walk_at"vc"
  simp only[dJ]
  walk_at"vc"
  refine⟨st9,by decide,by decide,fun ra H10 ra0 ra1 B10 st10=>?_⟩
  obtain⟨m,hm⟩ : ∃ m:Nat,1+ra=(m:Int):=⟨(1+ra).toNat,by walk_at"o"⟩
  rw[hm]
  simp only[eK]
  refine⟨a2,cs,m,rfl,(l8.same S9).stBut (fH cs) (mG cs) st9 B10,by walk_at"o",by walk_at"o",fun c hc=>⟨(f2 c hc).1,(f2 c hc).2,(b2 c hc).1,(b2 c hc).2⟩,fun bq H11 qs S11 l11 _ n11 q11=>?_⟩
  have st11:=st10.same S11
  obtain⟨_,_,e11,_⟩:=id st11
  walk_at"vc"
  refine⟨st11,by decide,by decide,fun rb H12 rb0 rb1 B12 st12=>?_⟩
  obtain⟨v,hv,hmv⟩:=lK (xs:=[u0,v5,v7,v8,ul]) rb0 (by simpa using rb1)
  obtain⟨q,rq,fq⟩:=good v hmv
  have nl:l9 ≠ st:=st8.ne hl9
  refine⟨_,B12 _ _ nl (S11 _ _ (B10 _ _ nl h9)),v,hv,by decide,fun p13 H13 hp13 S13 h13=>?_⟩
  refine h p13 bq v H13 qs q (B1.trans (B2.trans (B4.trans ((fh.of S47).trans (B8.trans ((fh.of S9).trans (B10.trans ((fh.of S11).trans (B12.same_trans S13)))))))) ) (st12.same S13) h13 ((l11.stBut st11 B12).same S13) (aF.same S13 _ _ (aF.flat_but e11 B12 _ _ (ce _) (aF.same S11 _ _ (aF.flat_but e9 B10 _ _ (ce _) rq)))) (by walk_at"o") (by walk_at"o") (fun p hp=>?_) fq
  obtain⟨k,hk⟩:=List.getElem?_of_mem hp
  obtain⟨z1,z2⟩:=q11 k p hk
  have lk:=(List.getElem?_eq_some_iff.mp hk).1
  exact (tL s2 (by walk_at"o") (by walk_at"o") z1 z2).mono (by decide)
def uD(d:D):Prop:=∃(ds:List D)(t:Int),Em (.tup ds)/\(t=0\/t=1)/\d = .tup (ds ++ [.int t])
def HF(G:Hp)(v:V):Prop:=(∃ d,aF G d v/\uD d) \/ ∃ (p:Addr)(r:V),v = .ref p/\G p=some (.tup [.str "flock",r])
theorem Em.tup{d:D}(h:Em d):∃ ds,d = .tup ds:=by
 obtain⟨w,fs,_,_,rfl|⟨gs,_,rfl⟩⟩:=h
 ·exact⟨_,rfl⟩
 ·exact⟨_,rfl⟩
theorem Em.len{ds:List D}(h:Em (.tup ds)):ds.length<=3:=by
 obtain⟨w,fs,_,_,z|⟨gs,_,z⟩⟩:=h
 ·injection z with z
  rw[z]
  simp
 ·injection z with z
  rw[z]
  simp
def gJ(K:W.Frag):Sp:=fun vs H Q _=>∃ (a:Addr)(y:V)(qs:List (Int × Int))(q:Int × Int),vs=[.ref a,y]/\aP (vw K H) a qs/\1<=qs.length/\qs.length<=11/\(∀ q ∈ qs,gS 112 q)/\aF (vw K H) (fr q) y/\mj q /\ ∀ v H',aC (vw K H) (vw K H')->HF (vw K H') v->Q v H'
theorem rp(F:et K "back_from" "back_from" fL f fd) (T:ff K mg)(C_outlook:aU P w K mg base "outlook" ["sums"] 5 (iD K)) (C_is_bar:aU P w K mg base "is_bar" ["told"] 1 (i0 K)) (C_sums_from:aU P w K mg base "sums_from" ["sums", "spot"] 3 (eI K)) (C_multiplied:aU P w K mg base "multiplied" ["f", "g"] 4 (dW K)) (C_less_spot:aU P w K mg base "less_spot" ["spot"] 1 (gQ K)) (C_flock_with:aU P w K mg base "flock_with" ["sums", "roots"] 6 (gp K)):bU P w K mg base el 7 f fd ["sums", "spot"] (gJ K):=by
 have scN:=kX.nd
 refine F.okQ kX (fun vs H Q E h=>?_) (fun cdv A outer s H vs Q E hr h=>?_)
 ·obtain⟨_,_,_,_,rfl,_⟩:=h
  rfl
 ·obtain⟨a,y,qs,q,rfl,ha,l1,l11,sb,hy,hq,h⟩:=h
  obtain⟨z_ONE,hg_ONE,hv_ONE⟩:=T.g_ONE
  have sq:∀ q ∈ qs,ma q:=fun q hq=>(sb q hq).sumQ (by decide)
  refine⟨_,(af (aE (i:=2) scN rfl (by walk_at"a1") (ai C_outlook (hr.mono (by walk_at"a2")) rfl (aa (qv 0) ac)))
   (af (cj (cW (ai C_is_bar (hr.mono (by walk_at"a2")) rfl (aa (qv 2) ac))) (ah (aq (ao iK (qv 2) (aH (aa ae ac))))) aO)
   (af (aE (i:=3) scN rfl (by walk_at"a1") (aM (aa (fi (v:=V.ref z_ONE) rfl hg_ONE rfl) ac)))
   (af (cj (aL iE (am av (by rfl) T.b_len aQ (aa (qv 0) ac)) ae (aI _)) (af (aE (i:=4) scN rfl (by walk_at"a1") (ai C_outlook (hr.mono (by walk_at"a2")) rfl (aa (ai C_sums_from (hr.mono (by walk_at"a2")) rfl (aa (qv 0) (aa (qv 1) ac))) ac)))
   (af (cj (cW (ai C_is_bar (hr.mono (by walk_at"a2")) rfl (aa (qv 4) ac))) (ah (aq (ao iK (qv 4) (aH (aa ae ac))))) aO)
   (ah (aE (i:=3) scN rfl (by walk_at"a1") (ay cg (qv 4) ae (fun _ _=>rfl)))))) aO)
   (af (cY (qv 2) (bJ (n:=2) rfl (ar (ak (i:=5) scN rfl (by walk_at"a1")) (ar (ak (i:=6) scN rfl (by walk_at"a1")) bI))))
   (af (cj (QW.pt (mN (aL fW (qv 5) cR (aI _)) (kv (gq (ao wV (am av (by rfl) T.b_len aQ (aa (qv 0) ac)) ae) (fun _=>rfl))))) (ah (aE (i:=6) scN rfl (by walk_at"a1") (ai C_multiplied (hr.mono (by walk_at"a2")) rfl (aa (ai C_less_spot (hr.mono (by walk_at"a2")) rfl (aa (qv 1) ac)) (aa (qv 3) ac))))) aO)
   (ah (aq (aH (aa cR (aa (ai C_flock_with (hr.mono (by walk_at"a2")) rfl (aa (qv 0) (aa (qv 6) ac))) ac))))))))))),?_⟩
  walk_at"m"
  skip
  have bar:∀ {p p3:Addr}{H0:Hp}{d:D}{t:Int},aF (vw K H0) d (.ref p)->Em d->(t=0\/t=1)->vw K H0 p3=some (.tup [.int t])->aC (vw K H) (vw K H0)->qC K (.ref p) (.ref p3) H0 Q:=by
   intro p p3 H0 d t rd bl ht h3 S
   obtain⟨ds,rfl⟩:=bl.tup
   obtain⟨a',xs,e,hx,r⟩:=rd.tup_at
   cases e
   refine⟨p,p3,rfl,rfl,xs,hx,_,h3,?_,fun p4 H4 S4 h4=>h _ H4 (S.trans S4) (.inl ⟨_,.mk_tup h4 ((r.same S4).snoc (by unfold aF;rfl)),ds,_,bl,ht,rfl⟩)⟩
   have:=bl.len
   have:1000<=sizeLine:=by decide
   rw[r.length]
   simp
   walk_at"o"
  refine aW.gen fun N1 hN1=>?_
  walk_at"vc"
  simp only[iD]
  refine⟨a,qs,rfl,ha,l1,l11,sq,fun p H1 W B M s S1 cl my o=>hN1 _ _ ?_⟩
  obtain⟨l0,ys0,hp0,_⟩:=o.at_
  refine aW.gen fun N2 hN2=>?_
  walk_at"vc"
  simp only[i0]
  rcases o.which with bs|ts
  ·obtain⟨d,rd,bl⟩:=o.blk l11 cl my bs
   exact⟨p,s,_,true,rfl,hp0,.inr ⟨rfl,bs⟩,fun H2 S2=>⟨true,rfl,jx rfl ⟨by decide,fun p3 H3 hp3 S3 h3=>bar (aF.same (S2.trans S3) _ _ rd) bl (.inl rfl) h3 (S1.trans (S2.trans S3))⟩⟩⟩
  obtain⟨l,rs,k,hp,lrs,po,num,hD,kM,k6,kn,k2,op⟩:=o.roots l11 my ts
  refine⟨p,s,_,false,rfl,hp0,.inl ⟨rfl,ts⟩,fun H2 S2=>⟨false,rfl,gM (by decide) (hN2 _ _ ?_)⟩⟩
  refine aW.gen fun N3 hN3=>?_
  walk_at"vc"
  refine⟨by decide,fun b3 H3 hb3 S3 h3=>hN3 _ _ ?_⟩
  have lO3:aP (vw K H3) b3 [(1,1)]:=⟨_,h3,.mk_cons (bV (hv_ONE _)) .mk_nil⟩
  have S13:=S2.trans S3
  have lk:=sN po (show Dk W k ≠ 0 by have:=hD k (Nat.le_refl _);walk_at"o") num
  refine aW.gen fun N4 hN4=>?_
  have key:∀ (bo:Addr)(o4:Option V)(H4:Hp)(os:List (Int × Int)),aC (vw K H1) (vw K H4)->aP (vw K H4) bo os->aR os->os ≠ []->os.length<=6->Pb 869 (cf os)->(s = "open" -> qs.length % 2=1->os.length<=qs.length/\su (lx (wv q) (cf os)) (DF (lx (wv q) (cf os))))->N4 [some (.ref a),some y,some (.ref p),some (.ref bo),o4,none,none] H4:=by
   intro bo o4 H4 os S14 los pos nos l6 bos ns
   refine hN4 _ _ ?_
   have S04:=S1.trans S14
   refine aW.gen fun N5 hN5=>?_
   walk_at"vc"
   refine⟨_,S14 _ _ hp,rfl,_,_,rfl,_,_,rfl,rfl,hN5 _ _ ?_⟩
   refine aW.gen fun N6 hN6=>?_
   have fin:∀ (br:Addr)(us:List (Int × Int))(H6:Hp),aC (vw K H4) (vw K H6)->aP (vw K H6) br us->us ≠ []->us.length<=7->us.length<=qs.length+1->aR us->Pb 1100 (cf us)->su (cf us) (DF (cf us))->N6 [some (.ref a),some y,some (.ref p),some (.ref bo),o4,some (.str s),some (.ref br)] H6:=by
    intro br us H6 S6 lus nus l7 ln pu bu nsu
    refine hN6 _ _ ?_
    have S06:=S04.trans S6
    walk_at"vc"
    simp only[gp]
    exact⟨a,br,qs,us,rfl,ha.same S06,lus,l11,sq,nus,l7,ln,pu,bu,fun _=>nsu,fun p7 w7 H7 ws S7 h7 l7 _=>⟨by decide,fun p8 H8 hp8 S8 h8=>h _ H8 (S06.trans (S7.trans S8)) (.inr ⟨p8,_,rfl,h8⟩)⟩⟩
   have ec:cf rs=Pk W k:=funext num
   have plain:N6 [some (.ref a),some y,some (.ref p),some (.ref bo),o4,some (.str s),some (.ref l)] H4:=fin l rs H4 .rfl (lrs.same S14) (fun z=>by rw[z] at lk;simp at lk) (by walk_at"o") (by walk_at"o") po ((yD (by have:=hD k (Nat.le_refl _);walk_at"o") k6 cl.bt).congr num) (by rw[ec];exact zU cl.pos cl.val k6 hD)
   walk_at"vc"
   refine⟨rfl,bY (fun so=>⟨_,(ha.same S04).len,by walk_at"o",bY (fun od=>?_) (fun _=>plain)⟩) (fun _=>plain)⟩
   have od':qs.length % 2=1:=by
    have z:((qs.length:Nat):Int) % 2 ≠ 0:=by simpa using od
    walk_at"o"
   obtain⟨ln,nsx⟩:=ns so od'
   simp only[gQ]
   refine⟨y,q,rfl,aF.same S04 _ _ hy,fun b7 H7 S7 l7=>?_⟩
   simp only[dW]
   have f2:∀ x ∈ [(-q.1,q.2),((1:Int),(1:Int))],Fq x/\Bq 12 x:=fun x hx=>by
    simp only[List.mem_cons,List.not_mem_nil,or_false] at hx
    rcases hx with rfl|rfl
    ·exact⟨ER hq.1,by have:=hq.2.1.1;unfold Bt at this ⊢;simpa using this,hq.2.1.2⟩
    ·exact⟨⟨by decide,by decide⟩,⟨by decide,by decide⟩⟩
   have bo':=bos.bq pos.1
   refine⟨b7,bo,_,os,900,rfl,l7,los.same S7,by simp,by walk_at"o",by decide,?_,fun x hx=>⟨(f2 x hx).1,(f2 x hx).2.mono (by decide)⟩,fun x hx=>⟨pos.1 x hx,(bo' x hx).mono (by decide)⟩,fun c8 H8 us S8 l8 _ p8 w8 n8 b8=>?_⟩
   ·simp only[List.length_cons,List.length_nil]
    walk_at"o"
   have e8:cf us=lx (wv q) (cf os):=funext fun j=>(w8 j).trans (Gf hq.1 j)
   have lo:=List.length_pos_iff.mpr nos
   have dz:=g6 pos nos
   have l8':us.length<=os.length+1:=kO p8 fun j hj=>by
    rw[e8]
    unfold lx
    rw[if_neg (by walk_at"o"),cz (by walk_at"o"),cz (by walk_at"o")]
    grind
   refine fin c8 us H8 (S7.trans S8) l8 (fun z=>?_) (by walk_at"o") (by walk_at"o") p8 ?_ (by rw[e8];exact nsx)
   ·have z1:cf us os.length=0:=by rw[z];exact yR _
    rw[e8] at z1
    unfold lx at z1
    rw[if_neg (by walk_at"o"),cz (show os.length<=os.length from Nat.le_refl _)] at z1
    grind
   ·exact ((Pb.pr (j5 f2) bos 2).congr w8).mono (by simp)
  walk_at"vc"
  refine⟨_,(ha.same (S1.trans S13)).len,bY (fun e5=>?_) (fun e5=>?_)⟩
  ·have n1:1<qs.length:=by walk_at"o"
   have S03:=S1.trans S13
   simp only[eI]
   refine⟨a,y,qs,q,rfl,ha.same S03,aF.same S03 _ _ hy,hq.1,hq.2.1.mono (by decide),l1,l11,fun p hp=>⟨(sq p hp).1,(sq p hp).2.1⟩,fun b6 H6 ts6 S6 nb6 l6 ln6 w6=>?_⟩
   have sq6:=mO sb hq ln6 w6
   simp only[iD]
   refine⟨b6,ts6,rfl,l6,by walk_at"o",by walk_at"o",sq6,fun p7 H7 W' B' M' s' S7 cl' my' o'=>?_⟩
   obtain⟨l0',ys0',hp0',_⟩:=o'.at_
   have S17:=S13.trans (S6.trans S7)
   simp only[i0]
   rcases o'.which with bs'|ts'
   ·obtain⟨d,rd,bl⟩:=o'.blk (by walk_at"o") cl' my' bs'
    exact⟨p7,s',_,true,rfl,hp0',.inr ⟨rfl,bs'⟩,fun H8 S8=>⟨true,rfl,jx rfl ⟨by decide,fun p9 H9 hp9 S9 h9=>bar (aF.same (S8.trans S9) _ _ rd) bl (.inr rfl) h9 (S1.trans (S17.trans (S8.trans S9)))⟩⟩⟩
   obtain⟨l',rs',k',hp',lrs',po',num',hD',kM',k6',kn',k2',op'⟩:=o'.roots (by walk_at"o") my' ts'
   refine⟨p7,s',_,false,rfl,hp0',.inl ⟨rfl,ts'⟩,fun H8 S8=>⟨false,rfl,gM (by decide) ?_⟩⟩
   have dn':Dk W' k' ≠ 0:=by have:=hD' k' (Nat.le_refl _);walk_at"o"
   have lk':=sN po' dn' num'
   have ec':cf rs'=Pk W' k':=funext num'
   refine⟨_,rfl,_,S8 _ _ hp',_,ei,key l' _ H8 rs' (S17.trans S8) (lrs'.same S8) po' (fun z=>by rw[z] at lk';simp at lk') (by walk_at"o") ((D8 dn' (by walk_at"o") cl'.bt).congr num') fun so od=>⟨by walk_at"o",?_⟩⟩
   obtain⟨dM,nM⟩:=op so
   rw[ec']
   refine ze cl.pos cl.val cl'.pos cl'.val (by walk_at"o") (fun i hi=>?_) dn' fun i hi=>?_
   ·by_cases e:i=M
    ·rw[e];exact dM
    ·exact my.up i (by walk_at"o")
   ·have hi':i<ts6.length:=by walk_at"o"
    rw[aZ (List.getElem?_eq_getElem hi')]
    exact (w6 i _ (List.getElem?_eq_getElem hi')).2
  ·refine key b3 _ H3 [(1,1)] S13 lO3 ⟨fun q hq=>by rw[List.mem_singleton.mp hq];exact⟨by decide,by decide⟩,fun q hq=>by cases hq;decide⟩ (by simp) (by simp) ?_ fun so _=>⟨l1,?_⟩
   ·have:=j5 (b:=2) (fs:=[(1,1)]) fun q hq=>by rw[List.mem_singleton.mp hq];exact⟨⟨by decide,by decide⟩,⟨by decide,by decide⟩⟩
    exact this.mono (by decide)
   ·obtain⟨dM,_⟩:=op so
    have m1:=my.one
    have m2:=my.most
    obtain rfl:M=1:=by walk_at"o"
    refine oR cl.pos cl.val (m:=1) (by decide) (C5 ⟨by decide +kernel,fun i hi=>cz (by simp;walk_at"o")⟩) (fun i hi=>?_) fun q _=>rfl
    by_cases e:i=1
    ·rw[e];exact dM
    ·exact my.up i (by walk_at"o")
def fJ(K:W.Frag):Sp:=fun vs H Q _=>∃ x d,vs=[x]/\aF (vw K H) d x/\Q (.bl d.isInt) H
theorem tz(F:et K "is_whole" "is_whole" gg f fd) (T:ff K mg):bU P w K mg base el 1 f fd ["thing"] (fJ K):=by
 have scN:=nD.nd
 refine F.okQ nD (fun vs H Q E h=>?_) (fun cdv A outer s H vs Q E hr h=>?_)
 ·obtain⟨a,_,rfl,_⟩:=h
  rfl
 ·obtain⟨x,d,rfl,hx,h⟩:=h
  refine⟨_,(ah (aq (gC (am cn (by rfl) T.b_isinstance bj (aa (qv 0) (aa (dZ (v:=V.ty "int") rfl T.b_int AK rfl) ac))) (gE (yS (am cn (by rfl) T.b_isinstance bj (aa (qv 0) (aa (dZ (v:=V.ty "bool") rfl T.b_bool rB rfl) ac)))))))),?_⟩
  walk_at"m"
  have ht:=aF.ty hx
  walk_at"vc*"
  cases d <;> simpa [D.ty,eo,D.isInt] using h
def fP(K:W.Frag):Sp:=fun vs H Q _=>∃ x d,vs=[x]/\aF (vw K H) d x/\Q (.bl d.frac) H
theorem pp(F:et K "is_fraction" "is_fraction" dU f fd) (T:ff K mg)(C_is_whole:aU P w K mg base "is_whole" ["thing"] 1 (fJ K))
  (C_greatest_divisor:aU P w K mg base "greatest_divisor" ["one", "other"] 1 (bN K)):bU P w K mg base el 2 f fd ["thing"] (fP K):=by
 have scN:=jP.nd
 refine F.okQ jP (fun vs H Q E h=>?_) (fun cdv A outer s H vs Q E hr h=>?_)
 ·obtain⟨a,_,rfl,_⟩:=h
  rfl
 ·obtain⟨x,d,rfl,hx,h⟩:=h
  refine⟨_,(af (cj (QW.pt (fY (cQ (cW (am cn (by rfl) T.b_isinstance bj (aa (qv 0) (aa (dZ (v:=V.ty "tuple") rfl T.b_tuple iB rfl) ac))))) (ij (aL pM (am av (by rfl) T.b_len aQ (aa (qv 0) ac)) ae (aI _))))) (ah (aq fR)) aO)
   (af (cY (qv 0) (bJ (n:=2) rfl (ar (ak (i:=1) scN rfl (by walk_at"a1")) (ar (ak (i:=2) scN rfl (by walk_at"a1")) bI))))
   (af (cj (QW.pt (fY (cQ (cW (ai C_is_whole (hr.mono (by walk_at"a2")) rfl (aa (qv 1) ac)))) (fY (cQ (cW (ai C_is_whole (hr.mono (by walk_at"a2")) rfl (aa (qv 2) ac)))) (ij (aL kF (qv 2) ae (aI _)))))) (ah (aq fR)) aO)
   (ah (aq (cF fW (ai C_greatest_divisor (hr.mono (by walk_at"a2")) rfl (aa (qv 1) (aa (qv 2) ac))) ae (aI _))))))),?_⟩
  walk_at"m"
  have ht:=aF.ty hx
  walk_at"vc*"
  simp only[fJ,bN]
  walk_at"vc*"
  cases d with
  | tup ds =>
   obtain⟨a,xs,rfl,ha,r⟩:=hx.tup_at
   refine gM (by simp[D.ty,eo]) ⟨a,rfl,xs.length,by simp only[eU,ha],bY (fun hl=>?_) (fun hl=>?_)⟩
   ·have e:(D.tup ds).frac=false:=by
     cases e:(D.tup ds).frac with
     | false=>rfl
     | true =>
      obtain⟨_,_,rfl,_⟩:=D.frac_tup e
      have:=r.length
      simp at this
      walk_at"o"
    rw[e] at h
    exact h
   ·obtain⟨d1,d2,x1,x2,rfl,rfl,r1,r2⟩:=r.pair (by walk_at"o")
    refine⟨a,rfl,_,ha,rfl,_,_,rfl,_,_,rfl,rfl,d1,r1,bY (fun i1=>?_) (fun i1=>⟨d2,r2,bY (fun i2=>?_) (fun i2=>?_)⟩)⟩
    ·cases d1 <;> first|exact h|cases i1
    ·cases d1 <;> cases d2 <;> first|exact h|cases i2
    ·obtain⟨i1',rfl⟩:=D.isInt_of i1
     obtain⟨i2',rfl⟩:=D.isInt_of i2
     cases r1.int_at
     cases r2.int_at
     refine⟨_,rfl,bY (fun hi=>?_) (fun hi=>⟨_,rfl,_,rfl,?_⟩)⟩
     ·have e:=wm (t:=i1') (b:=i2') (by walk_at"o")
      rw[e] at h
      exact h
     ·have e:=wz (t:=i1') (b:=i2') (by walk_at"o")
      rw[e] at h
      exact h
  | _=>exact jx (by simp[D.ty,eo]) h
def cT(K:W.Frag):Sp:=fun vs H Q _=>∃ x d,vs=[x]/\aF (vw K H) d x/\Q (.bl d.poly) H
theorem mS(F:et K "is_polynomial" "is_polynomial" dq f fd) (T:ff K mg)(C_is_fraction:aU P w K mg base "is_fraction" ["thing"] 2 (fP K)):bU P w K mg base el 3 f fd ["thing"] (cT K):=by
 have scN:=i7.nd
 refine F.okQ i7 (fun vs H Q E h=>?_) (fun cdv A outer s H vs Q E hr h=>?_)
 ·obtain⟨a,_,rfl,_⟩:=h
  rfl
 ·obtain⟨x,d,rfl,hx,h⟩:=h
  obtain⟨z_ZERO,hg_ZERO,hv_ZERO⟩:=T.g_ZERO
  refine⟨_,(af (cj (cQ (cW (am cn (by rfl) T.b_isinstance bj (aa (qv 0) (aa (dZ (v:=V.ty "list") rfl T.b_list je rfl) ac))))) (ah (aq fR)) aO)
   (af (cO PassesOwn.never rfl (cJ (qv 0)) (ak (i:=1) scN rfl (by walk_at"a1")) (ah (cj (cQ (cW (ai C_is_fraction (hr.mono (by walk_at"a2")) rfl (aa (qv 1) ac)))) (ah (aq fR)) aO)))
   (ah (aq (xf (cF fW (am av (by rfl) T.b_len aQ (aa (qv 0) ac)) ae (aI _)) (gE (cF (sO hr.u64) (ay cZ (qv 0) (cG bO ae) (fun _ _=>rfl)) (fi (v:=V.ref z_ZERO) rfl hg_ZERO rfl) (aI _)))))))),?_⟩
  walk_at"m"
  have ht:=aF.ty hx
  walk_at"vc*"
  cases d with
  | lst ds =>
   obtain⟨a,xs,rfl,ha,r⟩:=hx.lst_at
   refine gM (by simp[D.ty,eo]) ⟨a,rfl,⟨xs,.of (aN ha)⟩,?_⟩
   refine cc (its:=xs) (fun i σ H'=>H'=H/\(∃ y,σ=[some (.ref a),y])/\(ds.take i).all D.frac=true) (fun i σ H' _ p=>by cases p.1;exact aX ha) ⟨rfl,⟨_,rfl⟩,rfl⟩ ?_ ?_
   ·rintro i x σ H' hi hx' ⟨rfl,⟨y,rfl⟩,hall⟩
    obtain⟨d',hd',r'⟩:=r.get hx'
    walk_at"vc"
    simp only[fP]
    walk_at"vc"
    refine⟨d',r',bY (fun hf=>?_) (fun hf=>?_)⟩
    ·have e:(D.lst ds).poly=false:=by
      unfold D.poly
      rw[Bool.and_eq_false_iff]
      exact .inl (List.all_eq_false.mpr ⟨d',List.mem_of_getElem? hd',by simpa using hf⟩)
     rw[e] at h
     exact h
    ·rw[List.take_add_one,hd']
     simp only[List.all_append,hall,Option.toList,List.all_cons,List.all_nil]
     simpa using hf
   ·rintro σ H' ⟨rfl,⟨y,rfl⟩,hall⟩
    have hall':ds.all D.frac=true:=by rwa [r.length,List.take_length] at hall
    have hlen:eU (vw K H') a=some xs.length:=by simp only[eU,ha]
    walk_at"vc"
    refine⟨_,hlen,bY (fun h0=>?_) (fun h0=>?_)⟩
    ·have e:ds=[]:=by
      have:=r.length
      exact List.eq_nil_of_length_eq_zero (by walk_at"o")
     subst e
     exact h
    ·have hn:ds ≠ []:=by
      rintro rfl
      exact h0 (by rw[r.length];rfl)
     obtain⟨q,hq,fq⟩:=oN hall' hn
     obtain⟨x,hx',rx⟩:=r.last hq
     refine⟨_,ha,x,dc hx',_,rx,fr (0,1),bV (hv_ZERO _),fO _,fO _,?_⟩
     rw[kU]
     have e:(D.lst ds).poly = !decide (q=(0,1)):=by
      show (ds.all D.frac && jh ds)=_
      rw[hall',Bool.true_and]
      exact ki hq
     rw[e] at h
     exact h
  | _=>exact jx (by simp[D.ty,eo]) h
def dR(K:W.Frag):Sp:=fun vs H Q _=>∃ (a b c:Addr)(qs fs gs:List (Int × Int)),vs=[.ref a,.ref b,.ref c]/\aP (vw K H) a qs/\aP (vw K H) b fs/\aP (vw K H) c gs/\qs.length<=12/\fs.length<=11/\gs.length<=14/\(∀ q ∈ qs,Fq q/\Bq 131 q)/\(∀ q ∈ fs,Fq q/\Bq 2000 q)/\(∀ q ∈ gs,Fq q/\Bq 2000 q) /\
 (∀ rs,aR rs->(∀ k,cf rs k=pr (cf fs) (cf gs) fs.length k)->rs.length<=qs.length) /\
 ∀ v H' r,aC (vw K H) (vw K H')->aF (vw K H') (fr r) v->Fq r->wv r=bZ (fun m=>pr (cf fs) (cf gs) fs.length m) (cf qs) (fs.length+gs.length)->Q v H'
theorem ql(F:et K "square_sum" "square_sum" eP f fd) (T:ff K mg)(C_worth:aU P w K mg base "worth" ["sums", "f"] 3 (gx K)) (C_multiplied:aU P w K mg base "multiplied" ["f", "g"] 4 (dW K)):bU P w K mg base el 5 f fd ["sums", "f", "g"] (dR K):=by
 have scN:=kN.nd
 refine F.okQ kN (fun vs H Q E h=>?_) (fun cdv A outer s H vs Q E hr h=>?_)
 ·obtain⟨a,_,_,_,_,_,rfl,_⟩:=h
  rfl
 ·obtain⟨a,b,c,qs,fs,gs,rfl,ha,hb,hc,lq,lf,lg',hq,hf,hg,hl,h⟩:=h
  refine⟨_,(ah (aq (ai C_worth (hr.mono (by walk_at"a2")) rfl (aa (qv 0) (aa (ai C_multiplied (hr.mono (by walk_at"a2")) rfl (aa (qv 1) (aa (qv 2) ac))) ac))))),?_⟩
  walk_at"m"
  walk_at"vc"
  simp only[dW,gx]
  walk_at"vc"
  refine⟨fs,hb,gs,hc,by walk_at"o",by walk_at"o",2000,by decide,by walk_at"o",hf,hg,fun d H1 rs S1 l1 _ p1 w1 n1 b1=>?_⟩
  refine⟨qs,ha.same S1,rs,l1,hl rs p1 w1,lq,(by have:=hl rs p1 w1;walk_at"o"),hq,fun q hq'=>⟨p1.1 q hq',(b1 q hq').mono (by walk_at"o")⟩,fun v H2 r S2 r2 f2 w2=>h v H2 r (S1.trans S2) r2 f2 ?_⟩
  rw[w2,<- gi (n:=rs.length) (fun i hi=>by rw[cz hi];grind) (fs.length+gs.length - rs.length),show rs.length+(fs.length+gs.length - rs.length)=fs.length+gs.length by walk_at"o"]
  exact fD _ (fun i _=>w1 i) fun _ _=>rfl
def kx(K:W.Frag):Sp:=fun vs H Q _=>∃ (a b c:Addr)(qs fs gs:List (Int × Int)),vs=[.ref a,.ref b,.ref c]/\aP (vw K H) a qs/\aP (vw K H) b fs/\aP (vw K H) c gs /\ ∀ t:Bool,(t=true ↔ (fs=[]\/gs=[]\/fs.length+gs.length<=qs.length+1))->Q (.bl t) H
theorem Bg(F:et K "fits" "fits" nh f fd) (T:ff K mg):bU P w K mg base el 1 f fd ["sums", "f", "g"] (kx K):=by
 have scN:=wE.nd
 refine F.okQ wE (fun vs H Q E h=>?_) (fun cdv A outer s H vs Q E hr h=>?_)
 ·obtain⟨a,_,_,_,_,_,rfl,_⟩:=h
  rfl
 ·obtain⟨a,b,c,qs,fs,gs,rfl,ha,hb,hc,h⟩:=h
  refine⟨_,(ah (aq (xf (xa (qv 1)) (xf (xa (qv 2)) (gE (cF Db (ao cX (ao aV (am av (by rfl) T.b_len aQ (aa (qv 1) ac)) (am av (by rfl) T.b_len aQ (aa (qv 2) ac))) ae) (am av (by rfl) T.b_len aQ (aa (qv 0) ac)) (aI _))))))),?_⟩
  walk_at"m"
  walk_at"vc"
  simp only[AR]
  walk_at"vc"
  obtain⟨xs,hxs,rxs⟩:=id hb
  obtain⟨ys,hys,rys⟩:=id hc
  have lx:=rxs.length
  have ly:=rys.length
  rw[List.length_map] at lx ly
  refine⟨_,jR hxs,bY (fun e=>?_) (fun e=>⟨_,jR hys,bY (fun e'=>?_) (fun e'=>⟨_,hb.len,_,hc.len,_,ha.len,?_⟩)⟩)⟩
  ·have e2:xs=[]:=by simpa using e
   exact h true ⟨fun _=>.inl (List.eq_nil_of_length_eq_zero (by rw[<- lx,e2];rfl)),fun _=>rfl⟩
  ·have e2:ys=[]:=by simpa using e'
   exact h true ⟨fun _=>.inr (.inl (List.eq_nil_of_length_eq_zero (by rw[<- ly,e2];rfl))),fun _=>rfl⟩
  ·refine h _ ⟨fun z=>?_,fun z=>?_⟩
   ·have z':=of_decide_eq_true z
    exact .inr (.inr (by walk_at"o"))
   ·rcases z with z|z|z
    ·rw[z] at lx
     exact absurd (by rw[List.eq_nil_of_length_eq_zero lx];rfl) e
    ·rw[z] at ly
     exact absurd (by rw[List.eq_nil_of_length_eq_zero ly];rfl) e'
    ·exact decide_eq_true (by walk_at"o")
theorem sY{S u v:Nat->Rat}{a b:Nat}(bv:Bd b v)(h:a+b<=20):bZ (fun m=>pr u v a m) S (a+b)=ip S u v a b:=by
 rw[zd bv h]
 have:=gi (f:=fun m=>pr u v a m) (h:=S) (n:=a+b) (fun i hi=>by
  show pr u v a i*S i=0
  rw[gR bv _ _ (by walk_at"o")]
  grind) (20 - (a+b))
 rw[show a+b+(20 - (a+b))=20 by walk_at"o"] at this
 exact this.symm
theorem sW(fs:List (Int × Int)):Bd fs.length (cf fs):=fun i hi=>cz hi
theorem Dt{f:Nat->Rat}:∀ n k,pr f (cf []) n k=0
 | 0,_=>rfl
 | n+1,k=>by
  show pr f (cf []) n k+(if n<=k then f n*cf [] (k - n) else 0)=0
  rw[Dt n k,yR]
  split <;> grind
def uy(n:Nat)(fs gs:List (Int × Int)):Prop:=fs=[]\/gs=[]\/fs.length+gs.length<=n+1
def Cd(qs fs gs:List (Int × Int)):Rat:=ip (cf qs) (cf fs) (cf gs) fs.length gs.length
theorem jn{n:Nat}{fs gs us:List (Int × Int)}(h:uy n fs gs)(pu:aR us)(eu:∀ k,cf us k=pr (cf fs) (cf gs) fs.length k):us.length<=n:=by
 rcases h with z|z|z
 ·refine Nat.le_trans (kO (m:=0) pu fun m hm=>?_) (by walk_at"o")
  rw[eu,z]
  rfl
 ·refine Nat.le_trans (kO (m:=0) pu fun m hm=>?_) (by walk_at"o")
  rw[eu,z]
  exact Dt _ _
 ·by_cases e:fs.length+gs.length=0
  ·refine Nat.le_trans (kO (m:=0) pu fun m hm=>?_) (by walk_at"o")
   rw[eu,show fs=[] from List.length_eq_zero_iff.mp (by walk_at"o")]
   rfl
  ·refine Nat.le_trans (kO (m:=fs.length+gs.length - 1) pu fun m hm=>?_) (by walk_at"o")
   rw[eu]
   exact gR (n:=gs.length) (fun j hj=>cz hj) _ _ (by walk_at"o")
theorem sG{q:Int × Int}(f:Fq q):q.1<0 ↔ wv q<0:=by
 have p:(0:Rat)<((q.2:Int):Rat)⁻¹:=Rat.inv_pos.mpr (by exact_mod_cast f.1)
 unfold wv
 rw[Rat.div_def]
 constructor
 ·intro z
  have z':((q.1:Int):Rat)<0:=by exact_mod_cast z
  have:=Rat.mul_pos (show (0:Rat) < -((q.1:Int):Rat) by grind) p
  grind
 ·intro z
  refine Int.not_le.mp fun y=>?_
  have y':(0:Rat)<=((q.1:Int):Rat):=by exact_mod_cast y
  have:=Rat.mul_nonneg y' (Rat.le_of_lt p)
  grind
def lA(qs:List (Int × Int))(d:D):Prop:=(∃ fs,d = .tup [.str "below",.lst (fs.map fr)]/\aR fs/\uy qs.length fs fs/\Cd qs fs fs<0) \/ ∃ fs gs,d = .tup [.str "nought",.lst (fs.map fr),.lst (gs.map fr)]/\aR fs/\aR gs/\uy qs.length fs fs/\uy qs.length fs gs/\Cd qs fs fs=0/\Cd qs fs gs ≠ 0
def G8(d:D):Prop:=∀ ds,d = .tup ds -> ∀ e ∈ ds,∀ fs:List (Int × Int),e = .lst (fs.map fr)->aR fs->fs.length<=14 /\ ∀ q ∈ fs,Bq 2000 q
theorem oy{d:D}{w:Str}:A2 d (.str w)=true ↔ d = .str w:=by
 cases d <;> unfold A2 D.py <;> simp[PyData.eqv]
theorem ol{w:Str}(h:PyData.strOk w=true):(D.str w).cmp:=by
 unfold D.cmp D.py
 simp[PyData.canLay0,PyData.depth,h]
theorem rA{H:Hp}{d:D}{x:V}{w:Str}(r:aF H d x):x = .str w ↔ d = .str w:=by
 cases d with
 | str y=>unfold aF at r;subst r;exact⟨fun z=>(by cases z;rfl),fun z=>(by cases z;rfl)⟩
 | non=>unfold aF at r;subst r;exact⟨fun z=>(by cases z),fun z=>(by cases z)⟩
 | bl b=>unfold aF at r;subst r;exact⟨fun z=>(by cases z),fun z=>(by cases z)⟩
 | int i=>unfold aF at r;subst r;exact⟨fun z=>(by cases z),fun z=>(by cases z)⟩
 | dict=>unfold aF at r;obtain⟨_,_,rfl,_⟩:=r;exact⟨fun z=>(by cases z),fun z=>(by cases z)⟩
 | tup ds=>obtain⟨_,_,rfl,_⟩:=r.tup_at;exact⟨fun z=>(by cases z),fun z=>(by cases z)⟩
 | lst ds=>obtain⟨_,_,rfl,_⟩:=r.lst_at;exact⟨fun z=>(by cases z),fun z=>(by cases z)⟩
theorem Do{H:Hp}{w:Str}:aF H (.str w) (.str w):=by unfold aF;rfl
def lQ(K:W.Frag):Sp:=fun vs H Q _=>∃ (a:Addr)(x:V)(qs:List (Int × Int))(d:D),vs=[.ref a,x]/\aP (vw K H) a qs/\qs.length<=11/\(∀ q ∈ qs,ma q)/\aF (vw K H) d x/\G8 d/\(∀ d0 ds,d = .tup (d0 :: ds)->d0.cmp) /\ ∀ (t:Bool) H',aC (vw K H) (vw K H')->(t=true ↔ lA qs d)->Q (.bl t) H'
theorem BX(F:et K "bars" "bars" nj f fd) (T:ff K mg)(C_is_polynomial:aU P w K mg base "is_polynomial" ["thing"] 3 (cT K)) (C_fits:aU P w K mg base "fits" ["sums", "f", "g"] 1 (kx K)) (C_square_sum:aU P w K mg base "square_sum" ["sums", "f", "g"] 5 (dR K)):bU P w K mg base el 6 f fd ["sums", "thing"] (lQ K):=by
 have scN:=vY.nd
 refine F.okQ vY (fun vs H Q E h=>?_) (fun cdv A outer s H vs Q E hr h=>?_)
 ·obtain⟨_,_,_,_,rfl,_⟩:=h
  rfl
 ·obtain⟨a,x,qs,d,rfl,ha,l11,sq,hx,tb,sc,h⟩:=h
  obtain⟨z_ZERO,hg_ZERO,hv_ZERO⟩:=T.g_ZERO
  refine⟨_,(af (cj (QW.pt (fY (cQ (cW (am cn (by rfl) T.b_isinstance bj (aa (qv 1) (aa (dZ (v:=V.ty "tuple") rfl T.b_tuple iB rfl) ac))))) (ij (aL gP (am av (by rfl) T.b_len aQ (aa (qv 1) ac)) (aH (aa ae (aa ae ac))) (by rfl))))) (ah (aq fR)) aO)
   (af (cO PassesOwn.never rfl (va (ci dP (qv 1) (cC ae) cy)) (ak (i:=2) scN rfl (by walk_at"a1")) (ah (cj (QW.pt (fY (cQ (cW (ai C_is_polynomial (hr.mono (by walk_at"a2")) rfl (aa (qv 2) ac)))) (ij (cQ (cW (ai C_fits (hr.mono (by walk_at"a2")) rfl (aa (qv 0) (aa (ay cg (qv 1) ae (fun _ _=>rfl)) (aa (qv 2) ac))))))))) (ah (aq fR)) aO)))
   (af (aE (i:=3) scN rfl (by walk_at"a1") (ai C_square_sum (hr.mono (by walk_at"a2")) rfl (aa (qv 0) (aa (ay cg (qv 1) ae (fun _ _=>rfl)) (aa (ay cg (qv 1) ae (fun _ _=>rfl)) ac)))))
   (af (cj (aL fW (am av (by rfl) T.b_len aQ (aa (qv 1) ac)) ae (aI _)) (ah (aq (gC (cF (mX hr.u64) (ay cg (qv 1) ae (fun _ _=>rfl)) cR (aI _)) (gE (cF kF (ay cg (qv 3) ae (fun _ _=>rfl)) ae (aI _)))))) aO)
   (ah (aq (gC (cF (mX hr.u64) (ay cg (qv 1) ae (fun _ _=>rfl)) cR (aI _)) (gC (cF (mX hr.u64) (qv 3) (fi (v:=V.ref z_ZERO) rfl hg_ZERO rfl) (aI _)) (gE (cF (sO hr.u64) (ai C_square_sum (hr.mono (by walk_at"a2")) rfl (aa (qv 0) (aa (ay cg (qv 1) ae (fun _ _=>rfl)) (aa (ay cg (qv 1) ae (fun _ _=>rfl)) ac)))) (fi (v:=V.ref z_ZERO) rfl hg_ZERO rfl) (aI _))))))))))),?_⟩
  walk_at"m"
  skip
  have no:¬ lA qs d -> ∀ H',aC (vw K H) (vw K H')->Q (.bl false) H':=fun n H' S=>h false H' S ⟨fun z=>(by cases z),fun z=>absurd z n⟩
  have ht:=aF.ty hx
  have sm:∀ {us ws:List (Int × Int)},us.length<=11->ws.length<=11->uy qs.length us ws->us.length+ws.length<=20:=fun h1 h2 z=>by
   rcases z with z|z|z
   ·rw[z];simp;walk_at"o"
   ·rw[z];simp;walk_at"o"
   ·walk_at"o"
  refine aW.gen fun N1 hN1=>?_
  walk_at"vc"
  refine⟨_,ht,?_⟩
  cases d with
  | tup ds =>
   obtain⟨p,xs,rfl,hp,r⟩:=hx.tup_at
   have lds:=r.length
   refine gM (by simp[D.ty,eo]) ⟨p,rfl,xs.length,by simp only[eU,hp],by decide,fun t1 H1 ht1 S1 h1=>⟨t1,_,rfl,.inr (cN h1),rfl,rfl,?_⟩⟩
   by_cases l2:xs.length=2
   ·obtain⟨d0,d1,x0,x1,rfl,rfl,r0,r1⟩:=r.pair l2
    have e:(if true=true then !qB (V.int (([x0,x1]:List V).length:Nat)) [V.int 2,V.int 3] else qB (V.int (([x0,x1]:List V).length:Nat)) [V.int 2,V.int 3])=false:=by
     show (!qB (V.int 2) [V.int 2,V.int 3])=false
     decide +kernel
    rw[e]
    refine⟨false,rfl,gM (by decide) (hN1 _ _ ?_)⟩
    have bt:∀ {fs:List (Int × Int)},d1 = .lst (fs.map fr)->lA qs (.tup [d0,d1])->aR fs/\d0 = .str "below" /\ uy qs.length fs fs/\Cd qs fs fs<0:=fun e b=>by
     rcases b with ⟨gs,z,b1,b2,b3⟩|⟨gs,ks,z,_⟩
     ·injection z with z
      injection z with z0 z
      injection z with z1 _
      rw[e] at z1
      have:=dD z1
      subst this
      exact⟨b1,z0,b2,b3⟩
     ·injection z with z
      have:=congrArg List.length z
      simp at this
    refine aW.gen fun N2 hN2=>?_
    walk_at"vc"
    simp only[ie]
    have e2:gv [x0,x1] (some 1) none=[x1]:=rfl
    refine⟨p,rfl,_,S1 _ _ hp,(fun z=>absurd z.1 (show ¬ HT.sIx 2 0 (some 1)=0 by decide)),fun p2 H2 hp2 S2 h2=>⟨p2,rfl,⟨_,cN h2⟩,?_⟩⟩
    rw[e2] at h2
    have S02:=S1.trans S2
    obtain⟨Pv,hPv⟩ : ∃ Pv:Nat->St->Hp->Prop,∀ i σ H',Pv i σ H' ↔ ∃ o,σ=[some (.ref a),some (.ref p),o,none]/\aC (vw K H2) (vw K H')/\(1<=i -> ∃ (l:Addr)(fs:List (Int × Int)),x1 = .ref l/\aP (vw K H) l fs/\d1 = .lst (fs.map fr)/\aR fs/\uy qs.length fs fs):=⟨_,fun _ _ _=>Iff.rfl⟩
    refine cc (its:=[x1]) Pv (fun i σ H' _ q=>?_) ((hPv _ _ _).mpr ⟨_,rfl,.rfl,by walk_at"o"⟩) (fun i y σ H3 hi hy pv=>?_) (fun σ H3 pv=>hN2 _ _ ?_)
    ·obtain⟨_,_,S',_⟩:=(hPv _ _ _).mp q
     exact kd (S' _ _ h2)
    ·obtain⟨o,rfl,S3,_⟩:=(hPv _ _ _).mp pv
     obtain rfl:i=0:=by simp at hi;walk_at"o"
     cases hy
     have S03:=S02.trans S3
     walk_at"vc"
     simp only[cT,kx]
     refine⟨_,d1,rfl,aF.same S03 _ _ r1,_,rfl,bY (fun e5=>no (fun b=>?_) H3 S03) (fun e5=>?_)⟩
     ·rcases b with ⟨gs,z,b1,_⟩|⟨gs,ks,z,_⟩
      ·injection z with z
       injection z with _ z
       injection z with z1 _
       rw[z1,mB b1] at e5
       cases e5
      ·injection z with z
       have:=congrArg List.length z
       simp at this
     obtain⟨fs,ed,pf⟩:=jY (by simpa using e5)
     obtain⟨l,ys,rfl,hl0,ry0⟩:=(ed ▸ r1).lst_at
     have hl:aP (vw K H) l fs:=⟨ys,hl0,ry0⟩
     refine⟨_,S03 _ _ hp,_,ei,a,l,l,qs,fs,fs,rfl,ha.same S03,hl.same S03,hl.same S03,fun t ht=>⟨_,rfl,bY (fun e6=>no (fun b=>?_) H3 S03) (fun e6=>?_)⟩⟩
     ·rw[e6] at ht
      cases ht.mpr (bt ed b).2.2.1
     ·exact (hPv _ _ _).mpr ⟨_,rfl,S3,fun _=>⟨l,fs,rfl,hl,ed,pf,ht.mp (by simpa using e6)⟩⟩
    ·obtain⟨o,rfl,S3,ft⟩:=(hPv _ _ _).mp pv
     obtain⟨l,fs,rfl,hl,ed,pf,fit⟩:=ft (by simp)
     have bf:∀ q ∈ fs,Bq 2000 q:=(tb _ rfl d1 (by simp) fs ed pf).2
     have lf:fs.length<=11:=by
      rcases fit with z|z|z
      ·rw[z];simp
      ·rw[z];simp
      ·walk_at"o"
     have S03:=S02.trans S3
     refine aW.gen fun N3 hN3=>?_
     walk_at"vc"
     simp only[dR]
     refine⟨_,S03 _ _ hp,_,ei,_,S03 _ _ hp,_,ei,a,l,l,qs,fs,fs,rfl,ha.same S03,hl.same S03,hl.same S03,by walk_at"o",lf,by walk_at"o",fun q hq=>⟨(sq q hq).1,(sq q hq).2.1⟩,fun q hq=>⟨pf.1 q hq,bf q hq⟩,fun q hq=>⟨pf.1 q hq,bf q hq⟩,fun us pu eu=>jn fit pu eu,fun v4 H4 r4 S4 rr4 fr4 w4=>hN3 _ _ ?_⟩
     rw[sY (sW fs) (sm lf lf fit)] at w4
     have S04:=S03.trans S4
     obtain⟨x4,rfl,hx4⟩:=rr4.fr_at
     have sc0:=sc d0 [d1] rfl
     refine aW.gen fun N4 hN4=>?_
     walk_at"vc"
     refine⟨2,by simp only[eU,S04 _ _ hp];rfl,jx rfl ⟨_,S04 _ _ hp,_,eD,_,aF.same S04 _ _ r0,.str _,Do,sc0,ol (by decide +kernel),bY (fun e7=>?_) (fun e7=>?_)⟩⟩
     ·refine⟨_,hx4,_,eD,_,rfl,h _ H4 S04 ⟨fun z=>.inl ⟨fs,?_,pf,fit,?_⟩,fun z=>decide_eq_true ?_⟩⟩
      ·rw[oy.mp e7,ed]
      ·show ip _ _ _ _ _<0
       rw[<- w4]
       exact (sG fr4).mp (of_decide_eq_true z)
      ·refine (sG fr4).mpr ?_
       rw[w4]
       exact (bt ed z).2.2.2
     ·exact no (fun b=>e7 (oy.mpr (bt ed b).2.1)) H4 S04
   ·by_cases l3:xs.length=3
    ·obtain⟨d0,d1,d2,rfl⟩ : ∃ d0 d1 d2,ds=[d0,d1,d2]:=by
      match ds,lds with
      | [],z=>simp only[List.length_nil] at z;walk_at"o"
      | [_],z=>simp only[List.length_cons,List.length_nil] at z;walk_at"o"
      | [_,_],z=>simp only[List.length_cons,List.length_nil] at z;walk_at"o"
      | [d0,d1,d2],_=>exact⟨d0,d1,d2,rfl⟩
      | _ :: _ :: _ :: _ :: _,z=>simp only[List.length_cons] at z;walk_at"o"
     obtain⟨x0,ra,rfl,r0,r⟩:=r.cons_at
     obtain⟨x1,rb,rfl,r1,r⟩:=r.cons_at
     obtain⟨x2,rc,rfl,r2,r⟩:=r.cons_at
     cases r.nil_at
     have e:(if true=true then !qB (V.int (([x0,x1,x2]:List V).length:Nat)) [V.int 2,V.int 3] else qB (V.int (([x0,x1,x2]:List V).length:Nat)) [V.int 2,V.int 3])=false:=by
      show (!qB (V.int 3) [V.int 2,V.int 3])=false
      decide +kernel
     rw[e]
     refine⟨false,rfl,gM (by decide) (hN1 _ _ ?_)⟩
     have bp:lA qs (.tup [d0,d1,d2]) -> ∃ fs gs,d0 = .str "nought" /\ d1 = .lst (fs.map fr)/\d2 = .lst (gs.map fr)/\aR fs/\aR gs/\uy qs.length fs fs/\uy qs.length fs gs/\Cd qs fs fs=0/\Cd qs fs gs ≠ 0:=fun b=>by
      rcases b with ⟨gs,z,_⟩|⟨fs,gs,z,b⟩
      ·injection z with z
       have:=congrArg List.length z
       simp at this
      ·injection z with z
       injection z with z0 z
       injection z with z1 z
       injection z with z2 _
       exact⟨fs,gs,z0,z1,z2,b⟩
     refine aW.gen fun N2 hN2=>?_
     walk_at"vc"
     simp only[ie]
     have e2:gv [x0,x1,x2] (some 1) none=[x1,x2]:=rfl
     refine⟨p,rfl,_,S1 _ _ hp,(fun z=>absurd z.1 (show ¬ HT.sIx 3 0 (some 1)=0 by decide)),fun p2 H2 hp2 S2 h2=>⟨p2,rfl,⟨_,cN h2⟩,?_⟩⟩
     rw[e2] at h2
     have S02:=S1.trans S2
     obtain⟨Pv,hPv⟩ : ∃ Pv:Nat->St->Hp->Prop,∀ i σ H',Pv i σ H' ↔ ∃ o,σ=[some (.ref a),some (.ref p),o,none]/\aC (vw K H2) (vw K H')/\(1<=i -> ∃ (l:Addr)(fs:List (Int × Int)),x1 = .ref l/\aP (vw K H) l fs/\d1 = .lst (fs.map fr)/\aR fs/\uy qs.length fs fs/\(2<=i -> ∃ (l2:Addr)(gs:List (Int × Int)),x2 = .ref l2/\aP (vw K H) l2 gs/\d2 = .lst (gs.map fr)/\aR gs/\uy qs.length fs gs)):=⟨_,fun _ _ _=>Iff.rfl⟩
     refine cc (its:=[x1,x2]) Pv (fun i σ H' _ q=>?_) ((hPv _ _ _).mpr ⟨_,rfl,.rfl,by walk_at"o"⟩) (fun i y σ H3 hi hy pv=>?_) (fun σ H3 pv=>hN2 _ _ ?_)
     ·obtain⟨_,_,S',_⟩:=(hPv _ _ _).mp q
      exact kd (S' _ _ h2)
     ·obtain⟨o,rfl,S3,ft⟩:=(hPv _ _ _).mp pv
      have S03:=S02.trans S3
      have hi2:i=0\/i=1:=by simp at hi;walk_at"o"
      rcases hi2 with rfl|rfl
      ·cases hy
       walk_at"vc"
       simp only[cT,kx]
       refine⟨_,d1,rfl,aF.same S03 _ _ r1,_,rfl,bY (fun e5=>no (fun b=>?_) H3 S03) (fun e5=>?_)⟩
       ·obtain⟨fs,gs,_,z1,_,b1,_⟩:=bp b
        rw[z1,mB b1] at e5
        cases e5
       obtain⟨fs,ed,pf⟩:=jY (by simpa using e5)
       obtain⟨l,ys,rfl,hl0,ry0⟩:=(ed ▸ r1).lst_at
       have hl:aP (vw K H) l fs:=⟨ys,hl0,ry0⟩
       refine⟨_,S03 _ _ hp,_,ei,a,l,l,qs,fs,fs,rfl,ha.same S03,hl.same S03,hl.same S03,fun t ht=>⟨_,rfl,bY (fun e6=>no (fun b=>?_) H3 S03) (fun e6=>?_)⟩⟩
       ·obtain⟨fs',gs,_,z1,_,_,_,z3,_⟩:=bp b
        rw[ed] at z1
        have:=dD z1
        subst this
        rw[e6] at ht
        cases ht.mpr z3
       ·exact (hPv _ _ _).mpr ⟨_,rfl,S3,fun _=>⟨l,fs,rfl,hl,ed,pf,ht.mp (by simpa using e6),by walk_at"o"⟩⟩
      ·cases hy
       obtain⟨l,fs,rfl,hl,ed,pf,fit,_⟩:=ft (by decide)
       walk_at"vc"
       simp only[cT,kx]
       refine⟨_,d2,rfl,aF.same S03 _ _ r2,_,rfl,bY (fun e5=>no (fun b=>?_) H3 S03) (fun e5=>?_)⟩
       ·obtain⟨fs,gs,_,_,z2,_,b2,_⟩:=bp b
        rw[z2,mB b2] at e5
        cases e5
       obtain⟨gs,ed2,pg⟩:=jY (by simpa using e5)
       obtain⟨l2',ys,rfl,hl0,ry0⟩:=(ed2 ▸ r2).lst_at
       have hl2:aP (vw K H) l2' gs:=⟨ys,hl0,ry0⟩
       refine⟨_,S03 _ _ hp,_,ei,a,l,l2',qs,fs,gs,rfl,ha.same S03,hl.same S03,hl2.same S03,fun t ht=>⟨_,rfl,bY (fun e6=>no (fun b=>?_) H3 S03) (fun e6=>?_)⟩⟩
       ·obtain⟨fs',gs',_,z1,z2,_,_,_,z4,_⟩:=bp b
        rw[ed] at z1
        rw[ed2] at z2
        have u1:=dD z1
        have u2:=dD z2
        subst u1 u2
        rw[e6] at ht
        cases ht.mpr z4
       ·exact (hPv _ _ _).mpr ⟨_,rfl,S3,fun _=>⟨l,fs,rfl,hl,ed,pf,fit,fun _=>⟨l2',gs,rfl,hl2,ed2,pg,ht.mp (by simpa using e6)⟩⟩⟩
     ·obtain⟨o,rfl,S3,ft⟩:=(hPv _ _ _).mp pv
      obtain⟨l,fs,rfl,hl,ed,pf,fit,ft2⟩:=ft (by simp)
      obtain⟨l2',gs,rfl,hl2,ed2,pg,fit2⟩:=ft2 (by simp)
      have bf:∀ q ∈ fs,Bq 2000 q:=(tb _ rfl d1 (by simp) fs ed pf).2
      obtain⟨lg',bg⟩:=tb _ rfl d2 (by simp) gs ed2 pg
      have lf:fs.length<=11:=by
       rcases fit with z|z|z
       ·rw[z];simp
       ·rw[z];simp
       ·walk_at"o"
      have sm2:fs.length+gs.length<=20:=by
       rcases fit2 with z|z|z
       ·rw[z];simp;walk_at"o"
       ·rw[z];simp;walk_at"o"
       ·walk_at"o"
      have S03:=S02.trans S3
      refine aW.gen fun N3 hN3=>?_
      walk_at"vc"
      simp only[dR]
      refine⟨_,S03 _ _ hp,_,ei,_,S03 _ _ hp,_,ei,a,l,l,qs,fs,fs,rfl,ha.same S03,hl.same S03,hl.same S03,by walk_at"o",lf,by walk_at"o",fun q hq=>⟨(sq q hq).1,(sq q hq).2.1⟩,fun q hq=>⟨pf.1 q hq,bf q hq⟩,fun q hq=>⟨pf.1 q hq,bf q hq⟩,fun us pu eu=>jn fit pu eu,fun v4 H4 r4 S4 rr4 fr4 w4=>hN3 _ _ ?_⟩
      rw[sY (sW fs) (sm lf lf fit)] at w4
      have S04:=S03.trans S4
      have sc0:=sc d0 [d1,d2] rfl
      refine aW.gen fun N4 hN4=>?_
      walk_at"vc"
      refine⟨3,by simp only[eU,S04 _ _ hp];rfl,gM (by decide) (hN4 _ _ ?_)⟩
      walk_at"vc"
      refine⟨_,S04 _ _ hp,_,eD,_,aF.same S04 _ _ r0,.str _,Do,sc0,ol (by decide +kernel),bY (fun e7=>⟨_,rr4,_,bV (hv_ZERO _),fO _,fO _,?_⟩) (fun e7=>no (fun b=>?_) H4 S04)⟩
      ·rw[kU]
       refine bY (fun e4=>?_) (fun e4=>no (fun b=>?_) H4 S04)
       ·have z4:r4=(0,1):=of_decide_eq_true e4
        subst z4
        rw[lU] at w4
        simp only[dR]
        refine⟨_,S04 _ _ hp,_,ei,_,S04 _ _ hp,_,zX,a,l,l2',qs,fs,gs,rfl,ha.same S04,hl.same S04,hl2.same S04,by walk_at"o",lf,lg',fun q hq=>⟨(sq q hq).1,(sq q hq).2.1⟩,fun q hq=>⟨pf.1 q hq,bf q hq⟩,fun q hq=>⟨pg.1 q hq,bg q hq⟩,fun us pu eu=>jn fit2 pu eu,fun v5 H5 r5 S5 rr5 fr5 w5=>⟨_,rr5,_,bV (hv_ZERO _),fO _,fO _,?_⟩⟩
        rw[sY (sW gs) sm2] at w5
        rw[kU]
        refine h _ H5 (S04.trans S5) ⟨fun z=>.inr ⟨fs,gs,?_,pf,pg,fit,fit2,w4.symm,fun y=>?_⟩,fun z=>?_⟩
        ·rw[oy.mp e7,ed,ed2]
        ·have y':wv r5=0:=by rw[w5];exact y
         have:r5=(0,1):=kR fr5 pk (by rw[y',lU])
         rw[this] at z
         exact absurd z (by decide)
        ·obtain⟨fs',gs',_,z1,z2,_,_,_,_,_,z5⟩:=bp z
         rw[ed] at z1
         rw[ed2] at z2
         have u1:=dD z1
         have u2:=dD z2
         subst u1 u2
         have:r5 ≠ (0,1):=fun y=>z5 (by show ip _ _ _ _ _=0;rw[<- w5,y,lU])
         simp[this]
       ·obtain⟨fs',gs',_,z1,_,_,_,_,_,z5,_⟩:=bp b
        rw[ed] at z1
        have u1:=dD z1
        subst u1
        refine absurd (decide_eq_true (kR fr4 pk ?_)) e4
        rw[w4,lU]
        exact z5
      ·obtain⟨_,_,z0,_⟩:=bp b
       exact e7 (oy.mpr z0)
    ·have e:(if true=true then !qB (V.int (xs.length:Nat)) [V.int 2,V.int 3] else qB (V.int (xs.length:Nat)) [V.int 2,V.int 3])=true:=by
      have n2:((xs.length:Nat):Int) ≠ 2:=by walk_at"o"
      have n3:((xs.length:Nat):Int) ≠ 3:=by walk_at"o"
      show (!([V.int 2,V.int 3].any fun y=>AU y (V.int (xs.length:Nat))))=true
      simp only[List.any_cons,List.any_nil,Bool.or_false,Bool.not_eq_true',Bool.or_eq_false_iff]
      exact⟨by show (2 == ((xs.length:Nat):Int))=false;exact beq_eq_false_iff_ne.mpr (Ne.symm n2),by show (3 == ((xs.length:Nat):Int))=false;exact beq_eq_false_iff_ne.mpr (Ne.symm n3)⟩
     rw[e]
     refine⟨true,rfl,jx rfl (no ?_ H1 S1)⟩
     rintro (⟨fs,z,_⟩|⟨fs,gs,z,_⟩)
     ·injection z with z
      rw[z] at lds
      simp at lds
      walk_at"o"
     ·injection z with z
      rw[z] at lds
      simp at lds
      walk_at"o"
  | _=>exact jx (by simp[D.ty,eo]) (no (by rintro (⟨fs,z,_⟩|⟨fs,gs,z,_⟩) <;> cases z) H .rfl)
def jU(K:W.Frag):Sp:=fun vs H Q _=>∃ x d,vs=[x]/\aF (vw K H) d x/\Q (.bl d.isInt) H
theorem BF(F:et K "_law_whole" "_law_whole" ke f fd) (T:ff K mg):bU P w K mg base el 1 f fd ["_law_thing"] (jU K):=by
 have scN:=wW.nd
 refine F.okQ wW (fun vs H Q E h=>?_) (fun cdv A outer s H vs Q E hr h=>?_)
 ·obtain⟨a,_,rfl,_⟩:=h
  rfl
 ·obtain⟨x,d,rfl,hx,h⟩:=h
  refine⟨_,(ah (aq (gC (am cn (by rfl) T.b_isinstance bj (aa (qv 0) (aa (dZ (v:=V.ty "int") rfl T.b_int AK rfl) ac))) (gE (yS (am cn (by rfl) T.b_isinstance bj (aa (qv 0) (aa (dZ (v:=V.ty "bool") rfl T.b_bool rB rfl) ac)))))))),?_⟩
  walk_at"m"
  have ht:=aF.ty hx
  walk_at"vc*"
  cases d <;> simpa [D.ty,eo,D.isInt] using h
def gk(K:W.Frag):Sp:=fun vs H Q _=>∃ x d,vs=[x]/\aF (vw K H) d x/\Q (.bl d.frac) H
theorem qi(F:et K "_law_is_fraction" "_law_is_fraction" dS f fd) (T:ff K mg)
  (zCdivisor:aU P w K mg base "_law_divisor" ["_law_one", "_law_other"] 1 (hJ K)) (zCwhole:aU P w K mg base "_law_whole" ["_law_thing"] 1 (jU K)):bU P w K mg base el 2 f fd ["_law_thing"] (gk K):=by
 have scN:=kJ.nd
 refine F.okQ kJ (fun vs H Q E h=>?_) (fun cdv A outer s H vs Q E hr h=>?_)
 ·obtain⟨a,_,rfl,_⟩:=h
  rfl
 ·obtain⟨x,d,rfl,hx,h⟩:=h
  refine⟨_,(af (cj (QW.pt (fY (cQ (cW (am cn (by rfl) T.b_isinstance bj (aa (qv 0) (aa (dZ (v:=V.ty "tuple") rfl T.b_tuple iB rfl) ac))))) (fY (aL pM (am av (by rfl) T.b_len aQ (aa (qv 0) ac)) ae (aI _)) (fY (cQ (cW (ai zCwhole (hr.mono (by walk_at"a2")) rfl (aa (ay cg (qv 0) ae (fun _ _=>rfl)) ac)))) (ij (cQ (cW (ai zCwhole (hr.mono (by walk_at"a2")) rfl (aa (ay cg (qv 0) ae (fun _ _=>rfl)) ac))))))))) (ah (aq fR)) aO)
   (ah (aq (gC (cF iE (ay cg (qv 0) ae (fun _ _=>rfl)) ae (aI _)) (gE (cF fW (ai zCdivisor (hr.mono (by walk_at"a2")) rfl (aa (ay cg (qv 0) ae (fun _ _=>rfl)) (aa (ay cg (qv 0) ae (fun _ _=>rfl)) ac))) ae (aI _))))))),?_⟩
  walk_at"m"
  have ht:=aF.ty hx
  walk_at"vc*"
  simp only[jU,hJ]
  walk_at"vc*"
  cases d with
  | tup ds =>
   obtain⟨a,xs,rfl,ha,r⟩:=hx.tup_at
   refine gM (by simp[D.ty,eo]) ⟨a,rfl,xs.length,by simp only[eU,ha],bY (fun hl=>?_) (fun hl=>?_)⟩
   ·have e:(D.tup ds).frac=false:=by
     cases e:(D.tup ds).frac with
     | false=>rfl
     | true =>
      obtain⟨_,_,rfl,_⟩:=D.frac_tup e
      have:=r.length
      simp at this
      walk_at"o"
    rw[e] at h
    exact h
   ·obtain⟨d1,d2,x1,x2,rfl,rfl,r1,r2⟩:=r.pair (by walk_at"o")
    refine⟨a,rfl,_,ha,_,eD,d1,r1,bY (fun i1=>?_) (fun i1=>⟨a,rfl,_,ha,_,ei,d2,r2,bY (fun i2=>?_) (fun i2=>?_)⟩)⟩
    ·cases d1 <;> first|exact h|cases i1
    ·cases d1 <;> cases d2 <;> first|exact h|cases i2
    ·obtain⟨i1',rfl⟩:=D.isInt_of i1
     obtain⟨i2',rfl⟩:=D.isInt_of i2
     cases r1.int_at
     cases r2.int_at
     refine⟨a,rfl,_,ha,_,ei,_,rfl,bY (fun hi=>⟨a,rfl,_,ha,_,eD,a,rfl,_,ha,_,ei,?_⟩) (fun hi=>?_)⟩
     ·have e:=wz (t:=i1') (b:=i2') (by walk_at"o")
      rw[e] at h
      exact⟨_,rfl,_,rfl,h⟩
     ·have e:=wm (t:=i1') (b:=i2') (by walk_at"o")
      rw[e] at h
      exact h
  | _=>exact jx (by simp[D.ty,eo]) h
def fg(K:W.Frag):Sp:=fun vs H Q _=>∃ x d,vs=[x]/\aF (vw K H) d x/\d.len<=1000 /\ ∀ H',aC (vw K H) (vw K H')->Q (.bl d.poly) H'
theorem nZ(F:et K "_law_is_polynomial" "_law_is_polynomial" dj f fd) (T:ff K mg)(zCis_fraction:aU P w K mg base "_law_is_fraction" ["_law_thing"] 2 (gk K)):bU P w K mg base el 3 f fd ["_law_thing"] (fg K):=by
 have scN:=jt.nd
 refine F.okQ jt (fun vs H Q E h=>?_) (fun cdv A outer s H vs Q E hr h=>?_)
 ·obtain⟨a,_,rfl,_⟩:=h
  rfl
 ·obtain⟨x,d,rfl,hx,hdl,h⟩:=h
  refine⟨_,(af (cj (QW.pt (fY (cQ (cW (am cn (by rfl) T.b_isinstance bj (aa (qv 0) (aa (dZ (v:=V.ty "list") rfl T.b_list je rfl) ac))))) (ij (aL (zC hr.ul) (cL (own:=["_law_one"]) (outs:=[]) (ixs:=[]) rfl (cJ (qv 0)) rfl ⟨rfl,rfl,rfl,trivial,rfl,trivial⟩ (fun _ _ _ _=>⟨(ak (i:=0) (show (["_law_one"]:List Str).Nodup by decide +kernel) rfl (by walk_at"a1")),(DI (cQ (cW (ai zCis_fraction (hr.mono (by walk_at"a2")) rfl (aa (qv 0) ac))))),(qv 0)⟩)) (aM ac) (aI _))))) (ah (aq fR)) aO)
   (ah (aq (xf (cF (sT hr.ul) (qv 0) (aM ac) (aI _)) (gE (cF (sO hr.u64) (ay cZ (qv 0) (cG bO ae) (fun _ _=>rfl)) (aH (aa ae (aa ae ac))) (aI _))))))),?_⟩
  walk_at"m"
  have ht:=aF.ty hx
  walk_at"vc*"
  cases d with
  | lst ds =>
   obtain⟨a,xs,rfl,ha,r⟩:=hx.lst_at
   refine gM (by simp[D.ty,eo]) ⟨a,rfl,⟨xs,.of (aN ha)⟩,fun c H2 hc S2 h2=>?_⟩
   have hac:a ≠ c:=aj ha hc
   refine aY (its:=xs) (fun i ys H'=>aC (vw K H) (vw K H')/\(ys=[] ↔ (ds.take i).all D.frac=true)/\ys.length<=i) (fun i ys H' _ _ p=>aX (p.1 _ _ ha)) h2 ⟨S2,by simp,Nat.le_refl _⟩ (fun i x ys H' hi hx' h' p=>?_) (fun ys H' h' p=>?_)
   ·obtain⟨S',hall,hlen⟩:=p
    obtain⟨d',hd',r'⟩:=r.get hx'
    have e1:(ds.take (i+1)).all D.frac=((ds.take i).all D.frac && d'.frac):=by
     rw[List.take_add_one,hd']
     simp
    walk_at"vc"
    simp only[gk]
    walk_at"vc"
    refine⟨d',aF.same S' _ _ r',bY (fun hf=>?_) (fun hf=>?_)⟩
    ·refine .mk h' ?_ fun H5 B5 h5=>⟨fun b o e=>B5 _ _ (aj e hc) (S' _ _ e),?_,?_⟩
     ·have h1:ds.length<=1000:=hdl
      have h2:=r.length
      have h3:1000<=sizeLine:=by decide
      walk_at"o"
     ·rw[e1,hf]
      simp
     ·simp
      walk_at"o"
    ·refine .mk h' ⟨S',?_,by walk_at"o"⟩
     rw[e1,hall]
     simp[hf]
   ·obtain⟨S',hall,hlen⟩:=p
    rw[r.length,List.take_length] at hall
    refine⟨by decide,fun p1 H3 hp1 S3 h3=>⟨p1,rfl,ys,S3 _ _ h',h3,?_⟩⟩
    cases hys:ds.all D.frac with
    | false =>
     refine jx ?_ ?_
     ·cases ys with
      | nil=>rw[hall.mp rfl] at hys;cases hys
      | cons _ _=>rfl
     ·have e:(D.lst ds).poly=false:=by
       show (ds.all D.frac && jh ds)=_
       rw[hys]
       rfl
      rw[e] at h
      exact h _ (S'.trans S3)
    | true =>
     refine gM ?_ ?_
     ·rw[hall.mpr hys]
      simp
     ·refine⟨by decide,fun p2 H4 hp2 S4 h4=>⟨a,rfl,p2,rfl,xs,(S'.trans (S3.trans S4)) _ _ ha,h4,bY (fun h0=>?_) (fun h0=>?_)⟩⟩
      ·have e:ds=[]:=by
        have:=r.length
        have z:xs=[]:=by simpa using h0
        rw[z] at this
        exact List.eq_nil_of_length_eq_zero this.symm
       subst e
       exact h _ (S'.trans (S3.trans S4))
      ·have hn:ds ≠ []:=by
        rintro rfl
        cases r.nil_at
        exact h0 rfl
       obtain⟨q,hq,fq⟩:=oN hys hn
       obtain⟨x,hx',rx⟩:=r.last hq
       refine⟨a,rfl,xs,(S'.trans (S3.trans S4)) _ _ ha,x,dc hx',by decide,fun p5 H5 hp5 S5 h5=>?_⟩
       have S05:=S'.trans (S3.trans (S4.trans S5))
       refine⟨_,aF.same S05 _ _ rx,fr (0,1),bV h5,fO _,fO _,?_⟩
       rw[kU]
       have e:(D.lst ds).poly = !decide (q=(0,1)):=by
        show (ds.all D.frac && jh ds)=_
        rw[hys,Bool.true_and]
        exact ki hq
       rw[e] at h
       exact h _ S05
  | _=>exact jx (by simp[D.ty,eo]) (h _ (fun _ _ z=>z))
def dL(K:W.Frag):Sp:=fun vs H Q _=>∃ (a b:Addr)(fs gs:List (Int × Int))(A B:Nat),vs=[.ref a,.ref b]/\aP (vw K H) a fs/\aP (vw K H) b gs/\fs.length<=40/\gs.length<=40/\A+B<=400000/\(∀ q ∈ fs,Fq q)/\(∀ q ∈ gs,Fq q)/\Pb A (cf fs)/\Pb B (cf gs) /\
 ∀ d H' (rs:List (Int × Int)),aC (vw K H) (vw K H')->aP (vw K H') d rs->vw K H d=none->aR rs->(∀ k,cf rs k=pr (cf fs) (cf gs) fs.length k)->rs.length<=fs.length+gs.length->Q (.ref d) H'
theorem rS(F:et K "_law_multiplied" "_law_multiplied" eQ f fd) (T:ff K mg)(zCclean:aU P w K mg base "_law_clean" ["_law_numbers"] 1 (mr K)) (zCplus:aU P w K mg base "_law_plus" ["_law_one", "_law_other"] 3 (fX K)) (zCtimes:aU P w K mg base "_law_times" ["_law_one", "_law_other"] 3 (gm K)):bU P w K mg base el 4 f fd ["_law_f", "_law_g"] (dL K):=by
 have scN:=lT.nd
 refine F.okQ lT (fun vs H Q E h=>?_) (fun cdv A outer s H vs Q E hr h=>?_)
 ·obtain⟨a,_,_,_,_,_,rfl,_⟩:=h
  rfl
 ·obtain⟨a,b,fs,gs,A',B,rfl,ha,hb,lf,lg',hAB,hf,hg,⟨D1,d1,d2,d3⟩,⟨E1,e1',e2',e3'⟩,h⟩:=h
  have bf:=Ob.bq d3 d1 d2 hf
  have bg:=Ob.bq e3' e1' e2' hg
  have hX:=Int.mul_ne_zero d1 e1'
  have bX:=d2.mul e2'
  refine⟨_,(af (aE (i:=2) scN rfl (by walk_at"a1") (ao aS (aM (aa (aH (aa ae (aa ae ac))) ac)) (ao aV (am av (by rfl) T.b_len aQ (aa (qv 0) ac)) (am av (by rfl) T.b_len aQ (aa (qv 1) ac)))))
   (af (cO PassesOwn.never rfl (cI rfl T.b_range (aa (am av (by rfl) T.b_len aQ (aa (qv 0) ac)) ac)) (ak (i:=3) scN rfl (by walk_at"a1")) (ah (cO PassesOwn.never rfl (cI rfl T.b_range (aa (am av (by rfl) T.b_len aQ (aa (qv 1) ac)) ac)) (ak (i:=4) scN rfl (by walk_at"a1")) (ah (cY (ai zCplus (hr.mono (by walk_at"a2")) rfl (aa (ay cZ (qv 2) (ao aV (qv 3) (qv 4)) (fun _ _=>rfl)) (aa (ai zCtimes (hr.mono (by walk_at"a2")) rfl (aa (ay cZ (qv 0) (qv 3) (fun _ _=>rfl)) (aa (ay cZ (qv 1) (qv 4) (fun _ _=>rfl)) ac))) ac))) (oU (qv 2) (ao aV (qv 3) (qv 4)) dX))))))
   (ah (aq (ai zCclean (hr.mono (by walk_at"a2")) rfl (aa (qv 2) ac)))))),?_⟩
  walk_at"m"
  walk_at"vc"
  obtain⟨xs,hxs,rxs⟩:=id ha
  obtain⟨ys,hys,rys⟩:=id hb
  refine⟨by decide,fun p2 H2 hp2 S2 h2=>⟨by decide,fun p3 H3 hp3 S3 h3=>?_⟩⟩
  have S03:=S2.trans S3
  refine⟨_,(ha.same S03).len,_,(hb.same S03).len,?_⟩
  rw[show (fs.length:Int)+(gs.length:Int)=((fs.length+gs.length:Nat):Int) by walk_at"o",i4]
  refine⟨_,h3,by walk_at"o",by walk_at"o",?_,fun e H5 he S5 h5=>?_⟩
  ·have:1000<=sizeLine:=by decide
   simp
   walk_at"o"
  rw[show ((fs.length+gs.length:Nat):Int).toNat=fs.length+gs.length by walk_at"o",lJ] at h5
  have S05:=S03.trans S5
  have r2:aF (vw K H5) (fr (0,1)) (.ref p2):=bV ((S3.trans S5) _ _ h2)
  have ne:vw K H e=none:=S03.none he
  refine⟨_,(ha.same S05).len,by walk_at"o",by walk_at"o",?_⟩
  obtain⟨n,hn⟩ : ∃ n,n=fs.length+gs.length:=⟨_,rfl⟩
  rw[<- hn] at h5
  obtain⟨Pv,hPv⟩ : ∃ Pv:Nat->St->Hp->Prop,∀ i σ H',Pv i σ H' ↔ ∃ o3 o4,σ=[some (.ref a),some (.ref b),some (.ref e),o3,o4]/\aC (vw K H) (vw K H') /\ ∃ qs,aP (vw K H') e qs/\qs.length=n/\(∀ q ∈ qs,Fq q)/\(∀ k,k<n->cf qs k=pr (cf fs) (cf gs) i k):=⟨_,fun _ _ _=>Iff.rfl⟩
  refine cc (its:=gb 0 fs.length) Pv (fun _ _ _ _ _=>bK) ((hPv _ _ _).mpr ⟨_,_,rfl,S05,List.replicate n (0,1),⟨_,h5,?_⟩,by simp,fun q hq=>?_,fun k hk=>?_⟩) (fun i x σ H6 hi hx pv=>?_) (fun σ H6 pv=>?_)
  ·rw[oz]
   exact aG.repl r2 n
  ·rw[(List.mem_replicate.mp hq).2]
   exact pk
  ·rw[aZ (List.getElem?_replicate_of_lt hk),lU]
   rfl
  ·obtain⟨o3,o4,rfl,S6,qs,l6,n6,f6,c6⟩:=(hPv _ _ _).mp pv
   obtain⟨hi',rfl⟩:=fu hx
   rw[Int.zero_add]
   walk_at"vc"
   refine⟨_,(hb.same S6).len,by walk_at"o",by walk_at"o",?_⟩
   obtain⟨Pw,hPw⟩ : ∃ Pw:Nat->St->Hp->Prop,∀ j σ H',Pw j σ H' ↔ ∃ o4,σ=[some (.ref a),some (.ref b),some (.ref e),some (.int i),o4]/\aC (vw K H) (vw K H') /\ ∃ qs,aP (vw K H') e qs/\qs.length=n/\(∀ q ∈ qs,Fq q)/\(∀ k,k<n->cf qs k=qr (cf fs) (cf gs) i j k):=⟨_,fun _ _ _=>Iff.rfl⟩
   refine cc (its:=gb 0 gs.length) Pw (fun _ _ _ _ _=>bK) ((hPw _ _ _).mpr ⟨_,rfl,S6,qs,l6,n6,f6,fun k hk=>?_⟩) (fun j x σ H7 hj hx pw=>?_) (fun σ H7 pw=>?_)
   ·rw[Hs]
    exact c6 k hk
   ·obtain⟨o4,rfl,S7,ps,l7,n7,f7,c7⟩:=(hPw _ _ _).mp pw
    obtain⟨hj',rfl⟩:=fu hx
    rw[Int.zero_add]
    obtain⟨zs,hzs,rzs⟩:=id l7
    have hiq:i+j<ps.length:=by walk_at"o"
    obtain⟨x0,e0,r0⟩:=rzs.at (i:=i+j) (d:=fr ps[i+j]) (by rw[List.getElem?_map,List.getElem?_eq_getElem hiq];rfl)
    obtain⟨x1,e1,r1⟩:=rxs.at (i:=i) (d:=fr fs[i]) (by rw[List.getElem?_map,List.getElem?_eq_getElem hi'];rfl)
    obtain⟨x2,e2,r2'⟩:=rys.at (i:=j) (d:=fr gs[j]) (by rw[List.getElem?_map,List.getElem?_eq_getElem hj'];rfl)
    have k1:=f7 ps[i+j] (List.getElem_mem hiq)
    have k3:Bq (A'+B+100) ps[i+j]:=by
     obtain⟨m,em,bm⟩:=GI d1 e1' d3 e3' i j (i+j)
     have em':qr (cf fs) (cf gs) i j (i+j)=_:=em
     refine pB k1 (n:=m) (by rw[<- em',<- c7 (i+j) (by walk_at"o"),aZ (List.getElem?_eq_getElem hiq)]) hX (bm.mono (by walk_at"o")) (bX.mono (by walk_at"o"))
    have g1:=hg gs[j] (List.getElem_mem hj')
    have g2:=bg gs[j] (List.getElem_mem hj')
    have u1:=hf fs[i] (List.getElem_mem hi')
    have u2:=bf fs[i] (List.getElem_mem hi')
    walk_at"vc"
    rw[show (i:Int)+(j:Int)=((i+j:Nat):Int) by walk_at"o"]
    refine⟨zs,hzs,x0,ck e0,xs,S7 _ _ hxs,x1,ck e1,ys,S7 _ _ hys,x2,ck e2,?_⟩
    simp only[gm]
    walk_at"vc"
    refine⟨_,aF.same S7 _ _ r1,_,aF.same S7 _ _ r2',u1.ne,g1.ne,u2.mono (by walk_at"o"),g2.mono (by walk_at"o"),(u2.2.mul g2.2).mono (by walk_at"o"),fun v3 H8 S8 r3=>?_⟩
    have f3:=lX u1 g1
    have b3:=n5 u1 g1 u2 g2
    simp only[fX]
    walk_at"vc"
    refine⟨_,aF.same S8 _ _ r0,_,r3,k1.ne,f3.ne,k3.mono (by walk_at"o"),b3.mono (by walk_at"o"),(k3.2.mul b3.2).mono (by walk_at"o"),fun v4 H9 S9 r4=>?_⟩
    have f4:=kr k1 f3
    have S79:=S8.trans S9
    have hlz:zs.length=ps.length:=by rw[rzs.length,List.length_map]
    refine⟨zs,S79 _ _ hzs,i+j,by rw[hlz];exact jm hiq,fun H10 B10 h10=>(hPw _ _ _).mpr ⟨_,rfl,fun x o e'=>B10 _ _ (aj e' ne) (S79 _ _ (S7 _ _ e')),ps.set (i+j) (oH ps[i+j] (qh fs[i] gs[j])),aP.chg (S79 _ _ hzs) (rzs.same S79) r4 B10 h10,by rw[List.length_set];exact n7,fun q hq=>?_,fun k hk=>?_⟩⟩
    ·rcases List.mem_or_eq_of_mem_set hq with z|z
     ·exact f7 q z
     ·rw[z]
      exact f4
    ·rw[BJ hiq,Gu]
     by_cases hk:k=i+j
     ·rw[if_pos hk,if_pos hk,mQ k1.ne f3.ne,pU u1.ne g1.ne,<- aZ (List.getElem?_eq_getElem hiq),<- aZ (List.getElem?_eq_getElem hi'),<- aZ (List.getElem?_eq_getElem hj'),c7 (i+j) (by walk_at"o")]
     ·rw[if_neg hk,if_neg hk,c7 k (by assumption)]
   ·obtain⟨o4,rfl,S7,ps,l7,n7,f7,c7⟩:=(hPw _ _ _).mp pw
    rw[cx] at c7
    refine (hPv _ _ _).mpr ⟨_,_,rfl,S7,ps,l7,n7,f7,fun k hk=>?_⟩
    rw[c7 k hk,Fp fun i hi=>cz hi]
  ·obtain⟨o3,o4,rfl,S6,qs,l6,n6,f6,c6⟩:=(hPv _ _ _).mp pv
   rw[cx] at c6
   walk_at"vc"
   simp only[mr]
   walk_at"vc"
   have hF:∀ q ∈ qs,Fq q:=f6
   refine⟨qs,l6,fun d H7 n' hn' hz hd hnd S7 l7=>h d H7 (qs.take n') (S6.trans S7) l7 (S6.none hnd) (AL hF hz) (fun k=>?_) (by rw[List.length_take];walk_at"o")⟩
   rw[wu hF hd k]
   by_cases hk:k<n
   ·exact c6 k hk
   ·rw[cz (by walk_at"o"),gR (n:=gs.length) (fun i hi=>cz hi) _ _ (by walk_at"o")]
def oo(K:W.Frag):Sp:=fun vs H Q _=>∃ (a b:Addr)(es qs fs:List (Int × Int))(A B:Nat),vs=[.ref a,.ref b]/\aP (vw K H) a es/\(∃ ext,es=qs ++ ext)/\aP (vw K H) b fs/\fs.length<=qs.length/\qs.length<=12/\(∀ q ∈ qs,Fq q)/\(∀ q ∈ fs,Fq q)/\Pb A (cf qs)/\Pb B (cf fs)/\A+B<=400000 /\
 ∀ v H' r,aC (vw K H) (vw K H')->aF (vw K H') (fr r) v->Fq r->wv r=bZ (cf fs) (cf qs) fs.length->Q v H'
theorem CC(F:et K "_law_worth" "_law_worth" kc f fd) (T:ff K mg)(zCplus:aU P w K mg base "_law_plus" ["_law_one", "_law_other"] 3 (fX K)) (zCtimes:aU P w K mg base "_law_times" ["_law_one", "_law_other"] 3 (gm K)):bU P w K mg base el 4 f fd ["_law_sums_here", "_law_f"] (oo K):=by
 have scN:=xz.nd
 refine F.okQ xz (fun vs H Q E h=>?_) (fun cdv A outer s H vs Q E hr h=>?_)
 ·obtain⟨a,_,_,_,_,_,_,rfl,_⟩:=h
  rfl
 ·obtain⟨a,b,es,qs,fs,A1,B1,rfl,ha,⟨ext,hex⟩,hb,lf,lq,hq,hf,⟨D1,d1,d2,d3⟩,⟨E1,e1',e2',e3'⟩,ab,h⟩:=h
  have bq:=Ob.bq d3 d1 d2 hq
  have bf:=Ob.bq e3' e1' e2' hf
  have hX:=Int.mul_ne_zero e1' d1
  have bX:=e2'.mul d2
  refine⟨_,(af (aE (i:=2) scN rfl (by walk_at"a1") (aH (aa ae (aa ae ac))))
   (af (cO PassesOwn.never rfl (cI rfl T.b_range (aa (am av (by rfl) T.b_len aQ (aa (qv 1) ac)) ac)) (ak (i:=3) scN rfl (by walk_at"a1")) (ah (aE (i:=2) scN rfl (by walk_at"a1") (ai zCplus (hr.mono (by walk_at"a2")) rfl (aa (qv 2) (aa (ai zCtimes (hr.mono (by walk_at"a2")) rfl (aa (ay cZ (qv 1) (qv 3) (fun _ _=>rfl)) (aa (ay cZ (qv 0) (qv 3) (fun _ _=>rfl)) ac))) ac))))))
   (ah (aq (qv 2))))),?_⟩
  walk_at"m"
  walk_at"vc"
  obtain⟨xs,hxs,rxs⟩:=id ha
  obtain⟨ys,hys,rys⟩:=id hb
  refine⟨by decide,fun p0 H0 hp0 S0 h0=>⟨_,(hb.same S0).len,by walk_at"o",by walk_at"o",?_⟩⟩
  obtain⟨Pv,hPv⟩ : ∃ Pv:Nat->St->Hp->Prop,∀ j σ H',Pv j σ H' ↔ ∃ (v:V)(q:Int × Int)(u:Option V),σ=[some (.ref a),some (.ref b),some v,u]/\aC (vw K H0) (vw K H')/\aF (vw K H') (fr q) v/\Fq q/\wv q=bZ (cf fs) (cf qs) j:=⟨_,fun _ _ _=>Iff.rfl⟩
  refine cc (its:=gb 0 fs.length) Pv (fun _ _ _ _ _=>bK) ((hPv _ _ _).mpr ⟨_,(0,1),_,rfl,.rfl,bV h0,⟨by decide,by decide⟩,lU⟩) (fun j x σ H2 hj hx pv=>?_) (fun σ H2 pv=>?_)
  ·obtain⟨v,q,u,rfl,S2,r2,f2,w2⟩:=(hPv _ _ _).mp pv
   obtain⟨hj',rfl⟩:=fu hx
   have hjq:j<qs.length:=by walk_at"o"
   obtain⟨vi,e1,ri⟩:=rys.at (i:=j) (d:=fr fs[j]) (by rw[List.getElem?_map,List.getElem?_eq_getElem hj'];rfl)
   obtain⟨xi,e2,rxi⟩:=rxs.at (i:=j) (d:=fr qs[j]) (by rw[List.getElem?_map,hex,List.getElem?_append_left hjq,List.getElem?_eq_getElem hjq];rfl)
   have k1:=hf _ (List.getElem_mem hj')
   have k2:=bf _ (List.getElem_mem hj')
   have k3:=hq _ (List.getElem_mem hjq)
   have k4:=bq _ (List.getElem_mem hjq)
   have b2:Bq (A1+B1+12) q:=by
    obtain⟨m,em,bm⟩:=vj e1' d1 e3' d3 j
    exact pB f2 (n:=m) (by rw[w2,em]) hX (bm.mono (by walk_at"o")) (bX.mono (by walk_at"o"))
   have S02:=S0.trans S2
   walk_at"vc"
   simp only[gm,fX]
   walk_at"vc"
   refine⟨_,S02 _ _ hys,vi,by rw[Int.zero_add];exact ck e1,_,S02 _ _ hxs,xi,by rw[Int.zero_add];exact ck e2,?_⟩
   refine⟨_,aF.same S02 _ _ ri,_,aF.same S02 _ _ rxi,k1.ne,k3.ne,k2.mono (by walk_at"o"),k4.mono (by walk_at"o"),(k2.2.mul k4.2).mono (by walk_at"o"),fun v3 H3 S3 r3=>?_⟩
   have f3:=lX k1 k3
   have b3:=n5 k1 k3 k2 k4
   refine⟨_,aF.same S3 _ _ r2,_,r3,f2.ne,f3.ne,b2.mono (by walk_at"o"),b3.mono (by walk_at"o"),(b2.2.mul b3.2).mono (by walk_at"o"),fun v4 H4 S4 r4=>(hPv _ _ _).mpr ⟨_,_,_,rfl,S2.trans (S3.trans S4),r4,kr f2 f3,?_⟩⟩
   rw[mQ f2.ne f3.ne,pU k1.ne k3.ne,w2]
   show _=bZ (cf fs) (cf qs) j+cf fs j*cf qs j
   rw[aZ (List.getElem?_eq_getElem hj'),aZ (List.getElem?_eq_getElem hjq)]
  ·obtain⟨v,q,u,rfl,S2,r2,f2,w2⟩:=(hPv _ _ _).mp pv
   rw[cx] at w2
   walk_at"vc"
   exact h v H2 q (S0.trans S2) r2 f2 w2
def jJ(K:W.Frag):Sp:=fun vs H Q _=>∃ (a b c:Addr)(es qs fs gs:List (Int × Int))(A B C:Nat),vs=[.ref a,.ref b,.ref c]/\aP (vw K H) a es/\(∃ ext,es=qs ++ ext)/\aP (vw K H) b fs/\aP (vw K H) c gs/\qs.length<=12/\fs.length<=14/\gs.length<=14/\(∀ q ∈ qs,Fq q)/\(∀ q ∈ fs,Fq q)/\(∀ q ∈ gs,Fq q)/\A+B+C<=300000/\Pb A (cf qs)/\Pb B (cf fs)/\Pb C (cf gs) /\
 (∀ rs,aR rs->(∀ k,cf rs k=pr (cf fs) (cf gs) fs.length k)->rs.length<=qs.length) /\
 ∀ v H' r,aC (vw K H) (vw K H')->aF (vw K H') (fr r) v->Fq r->wv r=bZ (fun m=>pr (cf fs) (cf gs) fs.length m) (cf qs) (fs.length+gs.length)->Q v H'
theorem Ag(F:et K "_law_square" "_law_square" iV f fd) (T:ff K mg)(zCworth:aU P w K mg base "_law_worth" ["_law_sums_here", "_law_f"] 4 (oo K)) (zCmultiplied:aU P w K mg base "_law_multiplied" ["_law_f", "_law_g"] 4 (dL K)):bU P w K mg base el 5 f fd ["_law_sums_here", "_law_f", "_law_g"] (jJ K):=by
 have scN:=uk.nd
 refine F.okQ uk (fun vs H Q E h=>?_) (fun cdv A outer s H vs Q E hr h=>?_)
 ·obtain⟨a,_,_,_,_,_,_,_,_,_,rfl,_⟩:=h
  rfl
 ·obtain⟨a,b,c,es,qs,fs,gs,A1,B1,C1,rfl,ha,hex,hb,hc,lq,lf,lg',hq,hf,hg,hA,pq,pf,pg,hl,h⟩:=h
  refine⟨_,(ah (aq (ai zCworth (hr.mono (by walk_at"a2")) rfl (aa (qv 0) (aa (ai zCmultiplied (hr.mono (by walk_at"a2")) rfl (aa (qv 1) (aa (qv 2) ac))) ac))))),?_⟩
  walk_at"m"
  walk_at"vc"
  simp only[dL,oo]
  walk_at"vc"
  refine⟨fs,hb,gs,hc,by walk_at"o",by walk_at"o",B1,C1,by walk_at"o",hf,hg,pf,pg,fun d H1 rs S1 l1 _ p1 w1 n1=>?_⟩
  refine⟨es,ha.same S1,qs,hex,rs,l1,hl rs p1 w1,lq,hq,p1.1,A1,pq,B1+C1+fs.length,(Pb.pr pf pg fs.length).congr w1,by walk_at"o",fun v H2 r S2 r2 f2 w2=>h v H2 r (S1.trans S2) r2 f2 ?_⟩
  rw[w2,<- gi (n:=rs.length) (fun i hi=>by rw[cz hi];grind) (fs.length+gs.length - rs.length),show rs.length+(fs.length+gs.length - rs.length)=fs.length+gs.length by walk_at"o"]
  exact fD _ (fun i _=>w1 i) fun _ _=>rfl
theorem En{n:Nat}{fs gs us:List (Int × Int)}(pf:aR fs)(pg:aR gs)(eu:∀ k,cf us k=pr (cf fs) (cf gs) fs.length k)(h:us.length<=n):uy n fs gs:=by
 by_cases a:fs=[]
 ·exact .inl a
 by_cases b:gs=[]
 ·exact .inr (.inl b)
 refine .inr (.inr ?_)
 have la:=List.length_pos_iff.mpr a
 have lb:=List.length_pos_iff.mpr b
 refine Nat.le_of_not_lt fun z=>?_
 obtain⟨m,hm⟩ : ∃ m,fs.length=m+1:=⟨fs.length - 1,by walk_at"o"⟩
 have e:=eu (m+(gs.length - 1))
 have t:pr (cf fs) (cf gs) (m+1) (m+(gs.length - 1))=pr (cf fs) (cf gs) m (m+(gs.length - 1))+(if m<=m+(gs.length - 1) then cf fs m*cf gs (m+(gs.length - 1) - m) else 0):=rfl
 rw[cz (by walk_at"o"),hm,t,gR (n:=gs.length) (fun i hi=>cz hi) _ _ (by walk_at"o"),if_pos (by walk_at"o"),Nat.add_sub_cancel_left] at e
 have p1:=g6 pf a
 have p2:=g6 pg b
 rw[hm,Nat.add_sub_cancel] at p1
 grind
theorem lA.parts{qs:List (Int × Int)}{d0:D}{ds:List D}(b:lA qs (.tup (d0 :: ds))):∀ e ∈ ds,e.poly=true:=by
 rcases b with ⟨fs,z,p,_⟩|⟨fs,gs,z,p1,p2,_⟩
 ·injection z with z
  injection z with _ z
  subst z
  intro e he
  rw[List.mem_singleton.mp he]
  exact mB p
 ·injection z with z
  injection z with _ z
  subst z
  intro e he
  rcases List.mem_cons.mp he with y|y
  ·rw[y];exact mB p1
  ·rw[List.mem_singleton.mp y];exact mB p2
def jL(K:W.Frag):Sp:=fun vs H Q _=>∃ (a:Addr)(x:V)(qs:List (Int × Int))(d:D),vs=[.ref a,x]/\aP (vw K H) a qs/\qs.length<=11/\(∀ q ∈ qs,ma q)/\aF (vw K H) d x/\G8 d/\(∀ ds,d = .tup ds -> ∀ e ∈ ds,e.len<=1000) /\ ∀ (t:Bool) H',aC (vw K H) (vw K H')->(t=true ↔ lA qs d)->Q (.bl t) H'
theorem yF(F:et K "_law_is_bar" "_law_is_bar" i6 f fd) (T:ff K mg)(zCis_polynomial:aU P w K mg base "_law_is_polynomial" ["_law_thing"] 3 (fg K)) (zCmultiplied:aU P w K mg base "_law_multiplied" ["_law_f", "_law_g"] 4 (dL K)) (zCsquare:aU P w K mg base "_law_square" ["_law_sums_here", "_law_f", "_law_g"] 5 (jJ K)):bU P w K mg base el 6 f fd ["_law_sums_here", "_law_thing"] (jL K):=by
 have scN:=tF.nd
 refine F.okQ tF (fun vs H Q E h=>?_) (fun cdv A outer s H vs Q E hr h=>?_)
 ·obtain⟨_,_,_,_,rfl,_⟩:=h
  rfl
 ·obtain⟨a,x,qs,d,rfl,ha,l11,sq,hx,tb,ln,h⟩:=h
  refine⟨_,(af (cj (QW.pt (fY (cQ (cW (am cn (by rfl) T.b_isinstance bj (aa (qv 1) (aa (dZ (v:=V.ty "tuple") rfl T.b_tuple iB rfl) ac))))) (fY (aL gP (am av (by rfl) T.b_len aQ (aa (qv 1) ac)) (aH (aa ae (aa ae ac))) (by rfl)) (ij (cQ (cW (am cn (by rfl) T.b_isinstance bj (aa (ay cg (qv 1) ae (fun _ _=>rfl)) (aa (dZ (v:=V.ty "str") rfl T.b_str EW rfl) ac))))))))) (ah (aq fR)) aO)
   (af (cO PassesOwn.never rfl (va (ci dP (qv 1) (cC ae) cy)) (ak (i:=2) scN rfl (by walk_at"a1")) (ah (cj (cQ (cW (ai zCis_polynomial (hr.mono (by walk_at"a2")) rfl (aa (qv 2) ac)))) (ah (aq fR)) aO)))
   (af (cO PassesOwn.never rfl (va (ci dP (qv 1) (cC ae) cy)) (ak (i:=2) scN rfl (by walk_at"a1")) (ah (cj (aL iE (am av (by rfl) T.b_len aQ (aa (ai zCmultiplied (hr.mono (by walk_at"a2")) rfl (aa (ay cg (qv 1) ae (fun _ _=>rfl)) (aa (qv 2) ac))) ac)) (am av (by rfl) T.b_len aQ (aa (qv 0) ac)) (aI _)) (ah (aq fR)) aO)))
   (af (aE (i:=3) scN rfl (by walk_at"a1") (ay cg (ai zCsquare (hr.mono (by walk_at"a2")) rfl (aa (qv 0) (aa (ay cg (qv 1) ae (fun _ _=>rfl)) (aa (ay cg (qv 1) ae (fun _ _=>rfl)) ac)))) ae (fun _ _=>rfl)))
   (af (cj (aL fW (am av (by rfl) T.b_len aQ (aa (qv 1) ac)) ae (aI _)) (ah (aq (gC (cF fW (ay cg (qv 1) ae (fun _ _=>rfl)) cR (aI _)) (gE (cF kF (qv 3) ae (aI _)))))) aO)
   (af (cj (aL iE (am av (by rfl) T.b_len aQ (aa (ai zCmultiplied (hr.mono (by walk_at"a2")) rfl (aa (ay cg (qv 1) ae (fun _ _=>rfl)) (aa (ay cg (qv 1) ae (fun _ _=>rfl)) ac))) ac)) (am av (by rfl) T.b_len aQ (aa (qv 0) ac)) (aI _)) (ah (aq fR)) aO)
   (ah (aq (gC (cF fW (ay cg (qv 1) ae (fun _ _=>rfl)) cR (aI _)) (gC (cF fW (qv 3) ae (aI _)) (gE (cF pM (ay cg (ai zCsquare (hr.mono (by walk_at"a2")) rfl (aa (qv 0) (aa (ay cg (qv 1) ae (fun _ _=>rfl)) (aa (ay cg (qv 1) ae (fun _ _=>rfl)) ac)))) ae (fun _ _=>rfl)) ae (aI _))))))))))))),?_⟩
  walk_at"m"
  skip
  have no:¬ lA qs d -> ∀ H',aC (vw K H) (vw K H')->Q (.bl false) H':=fun n H' S=>h false H' S ⟨fun z=>(by cases z),fun z=>absurd z n⟩
  have ht:=aF.ty hx
  refine aW.gen fun N1 hN1=>?_
  walk_at"vc"
  refine⟨_,ht,?_⟩
  cases d with
  | tup ds =>
   obtain⟨p,xs,rfl,hp,r⟩:=hx.tup_at
   have lds:=r.length
   have lnh:∀ H',aC (vw K H) (vw K H')->eU (vw K H') p=some xs.length:=fun H' S=>by simp only[eU,S _ _ hp]
   refine gM (by simp[D.ty,eo]) ⟨p,rfl,xs.length,lnh _ .rfl,by decide,fun t1 H1 ht1 S1 h1=>⟨t1,_,rfl,.inr (cN h1),rfl,rfl,?_⟩⟩
   by_cases l23:¬ (xs.length=2\/xs.length=3)
   ·have e:(if true=true then !qB (V.int (xs.length:Nat)) [V.int 2,V.int 3] else qB (V.int (xs.length:Nat)) [V.int 2,V.int 3])=true:=by
     have n2:((xs.length:Nat):Int) ≠ 2:=by walk_at"o"
     have n3:((xs.length:Nat):Int) ≠ 3:=by walk_at"o"
     show (!([V.int 2,V.int 3].any fun y=>AU y (V.int (xs.length:Nat))))=true
     simp only[List.any_cons,List.any_nil,Bool.or_false,Bool.not_eq_true',Bool.or_eq_false_iff]
     exact⟨by show (2 == ((xs.length:Nat):Int))=false;exact beq_eq_false_iff_ne.mpr (Ne.symm n2),by show (3 == ((xs.length:Nat):Int))=false;exact beq_eq_false_iff_ne.mpr (Ne.symm n3)⟩
    rw[e]
    refine⟨true,rfl,jx rfl (no ?_ H1 S1)⟩
    rintro (⟨fs,z,_⟩|⟨fs,gs,z,_⟩)
    ·injection z with z
     rw[z] at lds
     simp at lds
     walk_at"o"
    ·injection z with z
     rw[z] at lds
     simp at lds
     walk_at"o"
   have e:(if true=true then !qB (V.int (xs.length:Nat)) [V.int 2,V.int 3] else qB (V.int (xs.length:Nat)) [V.int 2,V.int 3])=false:=by
    rcases Classical.not_not.mp l23 with z|z <;> (rw[z];decide +kernel)
   have l23:=Classical.not_not.mp l23
   rw[e]
   obtain⟨d0,d1,dr,rfl,ldr⟩ : ∃ d0 d1 dr,ds=d0 :: d1 :: dr/\dr.length<=1:=by
    match ds,lds with
    | [],z=>simp only[List.length_nil] at z;walk_at"o"
    | [_],z=>simp only[List.length_cons,List.length_nil] at z;walk_at"o"
    | d0 :: d1 :: dr,z=>exact⟨d0,d1,dr,rfl,by simp only[List.length_cons] at z;walk_at"o"⟩
   obtain⟨x0,xr,rfl,r0,rr⟩:=r.cons_at
   refine⟨false,rfl,gM (by decide) ⟨p,rfl,_,S1 _ _ hp,_,eD,.inr (.inr (.inr (.inr (.inl rfl)))),_,aF.ty (aF.same S1 _ _ r0),bY (fun e4=>no ?_ H1 S1) (fun e4=>hN1 _ _ ?_)⟩⟩
   ·rintro (⟨fs,z,_⟩|⟨fs,gs,z,_⟩)
    ·injection z with z
     injection z with z _
     rw[z] at e4
     simp[D.ty,eo] at e4
    ·injection z with z
     injection z with z _
     rw[z] at e4
     simp[D.ty,eo] at e4
   obtain⟨w0,rfl⟩ : ∃ w0,d0 = .str w0:=by
    cases d0 <;> first|exact⟨_,rfl⟩|(exfalso;revert e4;simp[D.ty,eo])
   obtain rfl:=(rA r0).mpr rfl
   have lxr:=rr.length
   have e21:gv (.str w0 :: xr) (some 1) none=xr:=by
    have:=iC (xs:=V.str w0 :: xr) (k:=1) (by simp)
    simpa using this
   have nf:¬ (HT.sIx (V.str w0 :: xr).length 0 (some 1)=0/\HT.sIx (V.str w0 :: xr).length (V.str w0 :: xr).length none=(V.str w0 :: xr).length):=fun z=>absurd z.1 (by unfold HT.sIx;simp)
   refine aW.gen fun N2 hN2=>?_
   walk_at"vc"
   simp only[ie]
   refine⟨p,rfl,_,S1 _ _ hp,nf,fun p2 H2 hp2 S2 h2=>?_⟩
   rw[e21] at h2
   have S02:=S1.trans S2
   refine⟨p2,rfl,⟨_,cN h2⟩,?_⟩
   obtain⟨Pv,hPv⟩ : ∃ Pv:Nat->St->Hp->Prop,∀ i σ H',Pv i σ H' ↔ ∃ o,σ=[some (.ref a),some (.ref p),o,none]/\aC (vw K H2) (vw K H') /\ ∀ e ∈ (d1 :: dr).take i,e.poly=true:=⟨_,fun _ _ _=>Iff.rfl⟩
   refine cc (its:=xr) Pv (fun i σ H' _ z=>?_) ((hPv _ _ _).mpr ⟨_,rfl,.rfl,by simp⟩) (fun i x σ H3 hi hx' pv=>?_) (fun σ H3 pv=>hN2 _ _ ?_)
   ·obtain⟨_,_,S',_⟩:=(hPv _ _ _).mp z
    exact kd (S' _ _ h2)
   ·obtain⟨o,rfl,S',hal⟩:=(hPv _ _ _).mp pv
    obtain⟨d',hd',r'⟩:=rr.get hx'
    have hm:d' ∈ d1 :: dr:=List.mem_of_getElem? hd'
    walk_at"vc"
    simp only[fg]
    refine⟨_,d',rfl,aF.same (S02.trans S') _ _ r',ln _ rfl d' (List.mem_cons_of_mem _ hm),fun H4 S4=>⟨_,rfl,bY (fun hf=>no (fun b=>?_) _ (S02.trans (S'.trans S4))) (fun hf=>(hPv _ _ _).mpr ⟨_,rfl,S'.trans S4,fun e he=>?_⟩)⟩⟩
    ·rw[b.parts d' hm] at hf
     cases hf
    ·rw[List.take_add_one,hd'] at he
     simp only[Option.toList_some,List.mem_append,List.mem_singleton] at he
     rcases he with z|z
     ·exact hal e z
     ·rw[z];simpa using hf
   obtain⟨o,rfl,S',hall⟩:=(hPv _ _ _).mp pv
   rw[lxr,List.take_length] at hall
   have S04:=S02.trans S'
   obtain⟨fs,rfl,pf⟩:=jY (hall d1 List.mem_cons_self)
   obtain⟨x1,xq,rfl,r1,rq⟩:=rr.cons_at
   obtain⟨l,zs,rfl,hl0,rz0⟩:=r1.lst_at
   have hl:aP (vw K H) l fs:=⟨zs,hl0,rz0⟩
   obtain⟨lf,bf⟩:=tb _ rfl (.lst (fs.map fr)) (by simp) fs rfl pf
   have pbf:=j5 (b:=2000) (fs:=fs) fun q hq=>⟨pf.1 q hq,bf q hq⟩
   have bt:lA qs (.tup (.str w0 :: .lst (fs.map fr) :: dr))->uy qs.length fs fs /\ ∀ gs:List (Int × Int),.lst (gs.map fr) ∈ dr->uy qs.length fs gs:=fun b=>by
    rcases b with ⟨fs',z,_,b2,_⟩|⟨fs',gs',z,_,_,b3,b4,_⟩
    ·injection z with z
     injection z with _ z
     injection z with z1 z2
     have u1:=dD z1
     subst u1 z2
     exact⟨b2,fun gs hg=>by cases hg⟩
    ·injection z with z
     injection z with _ z
     injection z with z1 z2
     have u1:=dD z1
     subst u1 z2
     exact⟨b3,fun gs hg=>by have:=dD (List.mem_singleton.mp hg);subst this;exact b4⟩
   refine aW.gen fun N3 hN3=>?_
   walk_at"vc"
   simp only[ie]
   refine⟨p,rfl,_,S04 _ _ hp,nf,fun p5 H5 hp5 S5 h5=>?_⟩
   rw[e21] at h5
   have S05:=S04.trans S5
   refine⟨p5,rfl,⟨_,cN h5⟩,?_⟩
   obtain⟨Pw,hPw⟩ : ∃ Pw:Nat->St->Hp->Prop,∀ i σ H',Pw i σ H' ↔ ∃ o,σ=[some (.ref a),some (.ref p),o,none]/\aC (vw K H5) (vw K H') /\ ∀ gs:List (Int × Int),.lst (gs.map fr) ∈ (.lst (fs.map fr) :: dr).take i->uy qs.length fs gs:=⟨_,fun _ _ _=>Iff.rfl⟩
   refine cc (its:=.ref l :: xq) Pw (fun i σ H' _ z=>?_) ((hPw _ _ _).mpr ⟨_,rfl,.rfl,by simp⟩) (fun i x σ H6 hi hx' pw=>?_) (fun σ H6 pw=>hN3 _ _ ?_)
   ·obtain⟨_,_,S',_⟩:=(hPw _ _ _).mp z
    exact kd (S' _ _ h5)
   ·obtain⟨o,rfl,S',hal⟩:=(hPw _ _ _).mp pw
    obtain⟨d',hd',r'⟩:=rr.get hx'
    have hm:d' ∈ .lst (fs.map fr) :: dr:=List.mem_of_getElem? hd'
    obtain⟨gs,rfl,pg⟩:=jY (hall d' hm)
    obtain⟨l2,ws,rfl,hw0,rw0⟩:=r'.lst_at
    have hl2:aP (vw K H) l2 gs:=⟨ws,hw0,rw0⟩
    obtain⟨lg,bg⟩:=tb _ rfl (.lst (gs.map fr)) (List.mem_cons_of_mem _ hm) gs rfl pg
    have pbg:=j5 (b:=2000) (fs:=gs) fun q hq=>⟨pg.1 q hq,bg q hq⟩
    have S0:=S05.trans S'
    walk_at"vc"
    refine⟨_,S0 _ _ hp,_,ei,?_⟩
    simp only[dL]
    refine⟨l,l2,fs,gs,_,_,rfl,hl.same S0,hl2.same S0,by walk_at"o",by walk_at"o",?_,pf.1,pg.1,pbf,pbg,fun d7 H7 rs S7 l7 _ p7 w7 n7=>⟨d7,rfl,_,l7.len,_,(ha.same (S0.trans S7)).len,?_⟩⟩
    ·walk_at"o"
    refine bY (fun hf=>no (fun b=>?_) _ (S0.trans S7)) (fun hf=>(hPw _ _ _).mpr ⟨_,rfl,S'.trans S7,fun ks hk=>?_⟩)
    ·have ft:uy qs.length fs gs:=by
      rcases List.mem_cons.mp hm with z|z
      ·rw[dD z];exact (bt b).1
      ·exact (bt b).2 gs z
     have:=jn ft p7 w7
     walk_at"o"
    ·rw[List.take_add_one,hd'] at hk
     simp only[Option.toList_some,List.mem_append,List.mem_singleton] at hk
     rcases hk with z|z
     ·exact hal ks z
     ·rw[dD z]
      exact En pf pg w7 (by walk_at"o")
   obtain⟨o,rfl,S',hal⟩:=(hPw _ _ _).mp pw
   rw[lxr,List.take_length] at hal
   have S07:=S05.trans S'
   have fit:=hal fs List.mem_cons_self
   have lf11:fs.length<=11:=by
    rcases fit with z|z|z
    ·rw[z];simp
    ·rw[z];simp
    ·walk_at"o"
   have spb:=sf sq
   have ext:∃ ext,qs=qs ++ ext:=⟨[],by simp⟩
   refine aW.gen fun N4 hN4=>?_
   walk_at"vc"
   simp only[jJ]
   refine⟨_,S07 _ _ hp,_,ei,_,S07 _ _ hp,_,ei,a,l,l,qs,qs,fs,fs,_,_,_,rfl,ha.same S07,ext,hl.same S07,hl.same S07,by walk_at"o",by walk_at"o",by walk_at"o",fun q hq=>(sq q hq).1,pf.1,pf.1,?_,spb,pbf,pbf,fun us pu eu=>jn fit pu eu,fun v8 H8 r8 S8 rr8 f8 w8=>?_⟩
   ·walk_at"o"
   rw[sY (sW fs) (by rcases fit with z|z|z <;> first|(rw[z];simp;done)|walk_at"o")] at w8
   have S08:=S07.trans S8
   obtain⟨x8,rfl,hx8⟩:=rr8.fr_at
   refine⟨_,rfl,_,hx8,_,eD,hN4 _ _ ?_⟩
   have st:∀ {s:Str},(V.str w0 = .str s) ↔ w0=s:=fun {s}=>⟨fun z=>by injection z,fun z=>by rw[z]⟩
   refine aW.gen fun N5 hN5=>?_
   walk_at"vc"
   refine⟨_,lnh _ S08,bY (fun e9=>?_) (fun e9=>hN5 _ _ ?_)⟩
   ·obtain rfl:dr=[]:=List.eq_nil_of_length_eq_zero (by have:=rq.length;simp only[List.length_cons] at e9;walk_at"o")
    refine⟨_,S08 _ _ hp,_,eD,rfl,bY (fun e10=>?_) (fun e10=>no (fun b=>?_) _ S08)⟩
    ·refine h _ H8 S08 ⟨fun z=>.inl ⟨fs,by rw[st.mp e10],pf,fit,?_⟩,fun z=>decide_eq_true ((sG f8).mpr ?_)⟩
     ·show ip _ _ _ _ _<0
      rw[<- w8]
      exact (sG f8).mp (of_decide_eq_true z)
     ·rw[w8]
      rcases z with ⟨fs',z,_,_,b3⟩|⟨_,_,z,_⟩
      ·injection z with z
       injection z with _ z
       injection z with z1 _
       have u1:=dD z1
       subst u1
       exact b3
      ·injection z with z
       have:=congrArg List.length z
       simp at this
    ·rcases b with ⟨_,z,_⟩|⟨_,_,z,_⟩
     ·injection z with z
      injection z with z _
      injection z with z
      exact e10 (st.mpr z)
     ·injection z with z
      have:=congrArg List.length z
      simp at this
   obtain⟨d2,rfl⟩ : ∃ d2,dr=[d2]:=by
    match dr,ldr,rq.length with
    | [],_,z=>simp only[List.length_nil] at z;simp only[List.length_cons,z] at e9;exact absurd rfl e9
    | [d2],_,_=>exact⟨d2,rfl⟩
    | _ :: _ :: _,z,_=>simp only[List.length_cons] at z;walk_at"o"
   obtain⟨gs,rfl,pg⟩:=jY (hall d2 (by simp))
   obtain⟨x2,xs2,rfl,r2,rn⟩:=rq.cons_at
   cases rn.nil_at
   obtain⟨l2,ws,rfl,hw0,rw0⟩:=r2.lst_at
   have hl2:aP (vw K H) l2 gs:=⟨ws,hw0,rw0⟩
   obtain⟨lg,bg⟩:=tb _ rfl (.lst (gs.map fr)) (by simp) gs rfl pg
   have pbg:=j5 (b:=2000) (fs:=gs) fun q hq=>⟨pg.1 q hq,bg q hq⟩
   have fit2:=hal gs (by simp)
   have bp:lA qs (.tup [.str w0,.lst (fs.map fr),.lst (gs.map fr)])->w0 = "nought" /\ Cd qs fs fs=0/\Cd qs fs gs ≠ 0:=fun b=>by
    rcases b with ⟨_,z,_⟩|⟨fs',gs',z,_,_,_,_,b5,b6⟩
    ·injection z with z
     have:=congrArg List.length z
     simp at this
    ·injection z with z
     injection z with z0 z
     injection z with z1 z
     injection z with z2 _
     have u1:=dD z1
     have u2:=dD z2
     injection z0 with z0
     subst u1 u2
     exact⟨z0,b5,b6⟩
   have z0:∀ {q:Int × Int},Fq q->(q.1=0 ↔ wv q=0):=fun f=>(iO f.ne).symm
   have vi:∀ {i:Int},(V.int i = .int 0) ↔ i=0:=fun {i}=>⟨fun z=>by injection z,fun z=>by rw[z]⟩
   refine aW.gen fun N6 hN6=>?_
   walk_at"vc"
   simp only[dL]
   refine⟨_,S08 _ _ hp,_,ei,_,S08 _ _ hp,_,ei,l,l,fs,fs,_,_,rfl,hl.same S08,hl.same S08,by walk_at"o",by walk_at"o",?_,pf.1,pf.1,pbf,pbf,fun d9 H9 us S9 l9 _ p9 w9 n9=>⟨d9,rfl,_,l9.len,_,(ha.same (S08.trans S9)).len,gM ?_ (hN6 _ _ ?_)⟩⟩
   ·walk_at"o"
   ·have:=jn fit p9 w9
    walk_at"o"
   have S08':=S08.trans S9
   walk_at"vc"
   refine⟨_,S08' _ _ hp,_,eD,rfl,bY (fun e10=>?_) (fun e10=>no (fun b=>e10 (st.mpr (bp b).1)) _ S08')⟩
   refine bY (fun e11=>?_) (fun e11=>no (fun b=>e11 ((z0 f8).mpr (by rw[w8];exact (bp b).2.1))) _ S08')
   simp only[jJ]
   refine⟨_,S08' _ _ hp,_,ei,_,S08' _ _ hp,_,zX,a,l,l2,qs,qs,fs,gs,_,_,_,rfl,ha.same S08',ext,hl.same S08',hl2.same S08',by walk_at"o",by walk_at"o",by walk_at"o",fun q hq=>(sq q hq).1,pf.1,pg.1,?_,spb,pbf,pbg,fun us pu eu=>jn fit2 pu eu,fun v9 H10 r9 S10 rr9 f9 w9'=>?_⟩
   ·walk_at"o"
   rw[sY (sW gs) (by rcases fit2 with z|z|z <;> first|(rw[z];simp;walk_at"o")|walk_at"o")] at w9'
   have S09:=S08'.trans S10
   obtain⟨x9,rfl,hx9⟩:=rr9.fr_at
   have w80:Cd qs fs fs=0:=by
    show ip _ _ _ _ _=0
    rw[<- w8]
    exact (z0 f8).mp e11
   refine⟨_,rfl,_,hx9,_,eD,rfl,h _ H10 S09 ⟨fun z=>.inr ⟨fs,gs,by rw[st.mp e10],pf,pg,fit,fit2,w80,fun y=>?_⟩,fun z=>?_⟩⟩
   ·have y':wv r9=0:=by rw[w9'];exact y
    rw[(z0 f9).mpr y'] at z
    simp at z
   ·have n9:r9.1 ≠ 0:=fun y=>(bp z).2.2 (by show ip _ _ _ _ _=0;rw[<- w9'];exact (z0 f9).mp y)
    simp[n9]
  | _=>exact jx (by simp[D.ty,eo]) (no (by rintro (⟨fs,z,_⟩|⟨fs,gs,z,_⟩) <;> cases z) H .rfl)
def oJ(qs:List (Int × Int))(q:Int × Int)(rs:List (Int × Int)):Prop:=rs.length=qs.length - 1 /\ ∀ (k:Nat)(p:Int × Int),rs[k]? = some p->Fq p/\wv p=cf qs (k+1) - wv q*cf qs k
theorem oJ.uniq{qs rs rs':List (Int × Int)}{q:Int × Int}(h:oJ qs q rs)(h':oJ qs q rs'):rs=rs':=List.ext_getElem (h.1.trans h'.1.symm) fun i h1 h2=>by
 obtain⟨a1,a2⟩:=h.2 i _ (List.getElem?_eq_getElem h1)
 obtain⟨b1,b2⟩:=h'.2 i _ (List.getElem?_eq_getElem h2)
 exact kR a1 b1 (a2.trans b2.symm)
def qw(qs:List (Int × Int))(q:Int × Int)(d:D):Prop:=∃ (ds:List D)(t:Int),d = .tup (ds ++ [.int t])/\((t=0/\lA qs (.tup ds))\/(t=1/\1<qs.length /\ ∃ rs,oJ qs q rs/\lA rs (.tup ds)))
def iA(e:D):Prop:=e.cmp/\e.len<=1000 /\ ∀ fs:List (Int × Int),e = .lst (fs.map fr)->aR fs->fs.length<=14 /\ ∀ q ∈ fs,Bq 2000 q
def nK(d:D):Prop:=∀ ds,d = .tup ds -> ∀ e ∈ ds,iA e
theorem nK.part{es:List D}{e:D}(h:nK (.tup (es ++ [e]))):G8 (.tup es)/\(∀ ds,.tup es=D.tup ds -> ∀ e ∈ ds,e.len<=1000) /\ ∀ d0 ds,.tup es=D.tup (d0 :: ds)->d0.cmp:=by
 have g:∀ x ∈ es,iA x:=fun x hx=>h _ rfl x (List.mem_append_left _ hx)
 refine⟨fun ds z x hx fs e p=>?_,fun ds z x hx=>?_,fun d0 ds z=>?_⟩
 ·injection z with z
  subst z
  exact (g x hx).2.2 fs e p
 ·injection z with z
  subst z
  exact (g x hx).2.1
 ·injection z with z
  subst z
  exact (g d0 List.mem_cons_self).1
theorem fk{qs:List (Int × Int)}{q:Int × Int}{es:List D}{t:Int}:qw qs q (.tup (es ++ [.int t])) ↔ (t=0/\lA qs (.tup es))\/(t=1/\1<qs.length /\ ∃ rs,oJ qs q rs/\lA rs (.tup es)):=by
 refine⟨fun ⟨ds,t',e,h⟩=>?_,fun h=>⟨es,t,rfl,h⟩⟩
 injection e with e
 obtain⟨e1,e2⟩:=List.append_inj' e rfl
 injection e2 with e2 _
 injection e2 with e2
 subst e1 e2
 exact h
theorem qX{qs:List (Int × Int)}{q:Int × Int}{es:List D}{e:D}(h:qw qs q (.tup (es ++ [e]))):e.isInt=true:=by
 obtain⟨ds,t',z,_⟩:=h
 injection z with z
 obtain⟨_,e2⟩:=List.append_inj' z rfl
 injection e2 with e2 _
 rw[e2]
 rfl
theorem pQ{ds:List D}(h:ds ≠ []):∃ es e,ds=es ++ [e]:=⟨ds.dropLast,ds.getLast h,(List.dropLast_concat_getLast h).symm⟩
theorem m7{H:Hp}{es:List D}{e:D}{xs:List V}(r:aG H (es ++ [e]) xs):∃ ys x,xs=ys ++ [x]/\aG H es ys/\aF H e x:=by
 have l:=r.length
 have lt:es.length<xs.length:=by rw[l];simp
 obtain⟨x,hx,rx⟩:=r.at (i:=es.length) (d:=e) (by simp)
 refine⟨xs.take es.length,x,?_,?_,rx⟩
 ·have:=List.take_append_drop es.length xs
  have d1:xs.drop es.length=[x]:=by
   rw[List.drop_eq_getElem_cons lt,List.drop_eq_nil_of_le (by rw[l];simp)]
   rw[List.getElem?_eq_getElem lt] at hx
   injection hx with hx
   rw[hx]
  rw[d1] at this
  exact this.symm
 ·have:=r.take es.length
  rwa [List.take_left'] at this
  rfl
theorem sI(xs:List V):gv xs none (some (-1))=xs.take (xs.length - 1):=by
 unfold gv HT.sIx
 cases xs with
 | nil=>rfl
 | cons x xs =>
  simp
  walk_at"o"
def ee(K:W.Frag):Sp:=fun vs H Q _=>∃ (a:Addr)(y x:V)(qs:List (Int × Int))(q:Int × Int)(d:D),vs=[.ref a,y,x]/\aP (vw K H) a qs/\1<=qs.length/\qs.length<=11/\(∀ q ∈ qs,gS 112 q)/\aF (vw K H) (fr q) y/\mj q/\aF (vw K H) d x/\nK d /\ ∀ (t:Bool) H',aC (vw K H) (vw K H')->(t=true ↔ qw qs q d)->Q (.bl t) H'
theorem lD(F:et K "bar_from_holds" "bar_from_holds" cV f fd) (T:ff K mg)(C_is_whole:aU P w K mg base "is_whole" ["thing"] 1 (fJ K)) (C_bars:aU P w K mg base "bars" ["sums", "thing"] 6 (lQ K)) (C_sums_from:aU P w K mg base "sums_from" ["sums", "spot"] 3 (eI K)):bU P w K mg base el 7 f fd ["sums", "spot", "thing"] (ee K):=by
 have scN:=iI.nd
 refine F.okQ iI (fun vs H Q E h=>?_) (fun cdv A outer s H vs Q E hr h=>?_)
 ·obtain⟨_,_,_,_,_,_,rfl,_⟩:=h
  rfl
 ·obtain⟨a,y,x,qs,q,d,rfl,ha,l1,l11,sb,hy,hq,hx,gd,h⟩:=h
  have sq:∀ q ∈ qs,ma q:=fun q hq=>(sb q hq).sumQ (by decide)
  refine⟨_,(af (cj (QW.pt (fY (cQ (cW (am cn (by rfl) T.b_isinstance bj (aa (qv 2) (aa (dZ (v:=V.ty "tuple") rfl T.b_tuple iB rfl) ac))))) (fY (cQ (gq (qv 2) (fun _=>rfl))) (ij (cQ (cW (ai C_is_whole (hr.mono (by walk_at"a2")) rfl (aa (ay cg (qv 2) (cG bO ae) (fun _ _=>rfl)) ac)))))))) (ah (aq fR)) aO)
   (af (cj (aL fW (ay cg (qv 2) (cG bO ae) (fun _ _=>rfl)) ae (aI _)) (ah (aq (ai C_bars (hr.mono (by walk_at"a2")) rfl (aa (qv 0) (aa (ci dP (qv 2) cy (cC (cG bO ae))) ac))))) aO)
   (ah (aq (gC (cF fW (ay cg (qv 2) (cG bO ae) (fun _ _=>rfl)) ae (aI _)) (gC (cF iE (am av (by rfl) T.b_len aQ (aa (qv 0) ac)) ae (aI _)) (gE (ai C_bars (hr.mono (by walk_at"a2")) rfl (aa (ai C_sums_from (hr.mono (by walk_at"a2")) rfl (aa (qv 0) (aa (qv 1) ac))) (aa (ci dP (qv 2) cy (cC (cG bO ae))) ac)))))))))),?_⟩
  walk_at"m"
  skip
  have no:¬ qw qs q d -> ∀ H',aC (vw K H) (vw K H')->Q (.bl false) H':=fun n H' S=>h false H' S ⟨fun z=>(by cases z),fun z=>absurd z n⟩
  have ht:=aF.ty hx
  refine aW.gen fun N1 hN1=>?_
  walk_at"vc"
  refine⟨_,ht,?_⟩
  cases d with
  | tup ds =>
   obtain⟨p,xs,rfl,hp,r⟩:=hx.tup_at
   refine gM (by simp[D.ty,eo]) ⟨_,.inr (.inl ⟨xs,cN hp,rfl⟩),bY (fun e1=>?_) (fun e1=>?_)⟩
   ·refine no ?_ H .rfl
    have z:xs=[]:=by simpa using e1
    rw[z] at r
    rintro ⟨es,t,e,_⟩
    injection e with e
    have:=r.length
    rw[e] at this
    simp at this
   have nd:ds ≠ []:=fun z=>by
    rw[z] at r
    rw[r.nil_at] at e1
    simp at e1
   obtain⟨es,e,rfl⟩:=pQ nd
   obtain⟨zs,x,rfl,rz,rx⟩:=m7 r
   have g:=gd.part
   have lst:∀ {v:V},(zs ++ [v]).getLast? = some v:=by simp
   simp only[fJ]
   refine⟨p,rfl,_,hp,_,dc lst,_,e,rfl,rx,_,rfl,bY (fun e2=>no (fun z=>?_) H .rfl) (fun e2=>hN1 _ _ ?_)⟩
   ·rw[qX z] at e2
    cases e2
   obtain⟨t,rfl⟩:=D.isInt_of e2
   cases rx.int_at
   have cut:∀ {H0:Hp}{Q0:VK},aC (vw K H) (vw K H0)->(∀ (p1:Addr) H1,aC (vw K H0) (vw K H1)->aF (vw K H1) (.tup es) (.ref p1)->Q0 (.ref p1) H1)->ie K (.ref p) none (some (-1)) H0 Q0:=fun S0 k=>by
    refine⟨p,rfl,_,S0 _ _ hp,fun z=>?_,fun p1 H1 hp1 S1 h1=>k p1 H1 S1 (.mk_tup h1 ?_)⟩
    ·have z:=z.2
     unfold HT.sIx at z
     simp at z
     walk_at"o"
    ·rw[sI,show (zs ++ [V.int t]).length - 1=zs.length by simp,List.take_left' rfl]
     exact (rz.same S0).same S1
   refine aW.gen fun N2 hN2=>?_
   walk_at"vc"
   have vi:∀ {i j:Int},(V.int i = .int j) ↔ i=j:=fun {i j}=>⟨fun z=>by injection z,fun z=>by rw[z]⟩
   refine⟨_,hp,_,dc lst,rfl,bY (fun e3=>?_) (fun e3=>hN2 _ _ ?_)⟩
   ·have e3:=vi.mp e3
    refine cut .rfl fun p3 H3 S3 r3=>?_
    simp only[lQ]
    refine⟨a,.ref p3,qs,.tup es,rfl,ha.same S3,l11,sq,r3,g.1,g.2.2,fun b H4 S4 hb=>h b H4 (S3.trans S4) (hb.trans ⟨fun z=>fk.mpr (.inl ⟨e3,z⟩),fun z=>?_⟩)⟩
    rcases fk.mp z with ⟨_,y⟩|⟨y,_⟩
    ·exact y
    ·walk_at"o"
   have e3:t ≠ 0:=fun z=>e3 (vi.mpr z)
   walk_at"vc"
   refine⟨_,hp,_,dc lst,rfl,bY (fun e4=>⟨_,ha.len,bY (fun e5=>?_) (fun e5=>?_)⟩) (fun e4=>no (fun z=>?_) H .rfl)⟩
   ·have e4:=vi.mp e4
    simp only[eI]
    refine⟨a,y,qs,q,rfl,ha,hy,hq.1,hq.2.1.mono (by decide),l1,l11,fun p hp=>⟨(sq p hp).1,(sq p hp).2.1⟩,fun b6 H6 ts6 S6 nb6 l6 ln6 w6=>?_⟩
    have fl:oJ qs q ts6:=⟨ln6,w6⟩
    refine cut S6 fun p7 H7 S7 r7=>?_
    simp only[lQ]
    refine⟨b6,.ref p7,ts6,.tup es,rfl,l6.same S7,by walk_at"o",mO sb hq ln6 w6,r7,g.1,g.2.2,fun b H8 S8 hb=>h b H8 (S6.trans (S7.trans S8)) (hb.trans ⟨fun z=>fk.mpr (.inr ⟨e4,by walk_at"o",ts6,fl,z⟩),fun z=>?_⟩)⟩
    rcases fk.mp z with ⟨y,_⟩|⟨_,_,rs,f2,y⟩
    ·walk_at"o"
    ·rw[fl.uniq f2]
     exact y
   ·refine no (fun z=>?_) H .rfl
    rcases fk.mp z with ⟨y,_⟩|⟨_,y,_⟩ <;> walk_at"o"
   ·rcases fk.mp z with ⟨y,_⟩|⟨y,_⟩
    ·exact e3 y
    ·exact e4 (vi.mpr y)
  | _=>exact jx (by simp[D.ty,eo]) (no (by rintro ⟨_,_,z,_⟩;cases z) H .rfl)
def rJ(K:W.Frag):Sp:=fun vs H Q _=>∃ (a:Addr)(y:V)(ss:List (Int × Int))(q:Int × Int),vs=[.ref a,y]/\aP (vw K H) a ss/\aF (vw K H) (fr q) y/\Fq q/\Bq 130 q/\1<=ss.length/\ss.length<=11/\(∀ p ∈ ss,Fq p/\Bq 131 p) /\
 ∀ (b:Addr) H' (qs:List (Int × Int)),aC (vw K H) (vw K H')->vw K H b=none->aP (vw K H') b qs->qs.length=ss.length - 1->(∀ (k:Nat)(p:Int × Int),qs[k]? = some p->Fq p/\wv p=cf ss (k+1) - wv q*cf ss k)->Q (.ref b) H'
theorem FA(F:et K "_law_from" "_law_from" mx f fd) (T:ff K mg)(zCminus:aU P w K mg base "_law_minus" ["_law_one", "_law_other"] 3 (jZ K)) (zCtimes:aU P w K mg base "_law_times" ["_law_one", "_law_other"] 3 (gm K)):bU P w K mg base el 4 f fd ["_law_sums_here", "_law_spot"] (rJ K):=by
 have scN:=AY.nd
 refine F.okQ AY (fun vs H Q E h=>?_) (fun cdv A outer s H vs Q E hr h=>?_)
 ·obtain⟨a,_,_,_,rfl,_⟩:=h
  rfl
 ·obtain⟨a,y,ss,q,rfl,ha,ry,fq,bq,l1,l2,hs,h⟩:=h
  refine⟨_,(ah (aq (cL (own:=["_law_k"]) (outs:=["_law_sums_here", "_law_spot"]) (ixs:=[0,1]) rfl (cI rfl T.b_range (aa (ao cX (am av (by rfl) T.b_len aQ (aa (qv 0) ac)) ae) ac)) rfl ⟨rfl,rfl,rfl,⟨rfl,⟨rfl,trivial⟩⟩,rfl,⟨⟨rfl,rfl,rfl,_,rfl⟩,⟨⟨rfl,rfl,rfl,_,rfl⟩,trivial⟩⟩⟩ (fun _ _ _ _=>⟨(ak (i:=0) (show (["_law_k", "_law_sums_here", "_law_spot"]:List Str).Nodup by decide +kernel) rfl (by walk_at"a1")),cS,(ai zCminus (hr.mono (by walk_at"a2")) rfl (aa (ay (show uB _ (uc K) from cZ) (qv 1) (ao (show fb _ _ (iN K) from aV) (qv 0) ae) (fun _ _=>rfl)) (aa (ai zCtimes (hr.mono (by walk_at"a2")) rfl (aa (qv 2) (aa (ay (show uB _ (uc K) from cZ) (qv 1) (qv 0) (fun _ _=>rfl)) ac))) ac)))⟩)))),?_⟩
  walk_at"m"
  walk_at"vc"
  have e1:((ss.length:Int) - 1)=((ss.length - 1:Nat):Int):=by walk_at"o"
  refine⟨_,ha.len,?_⟩
  rw[e1]
  refine⟨by walk_at"o",by walk_at"o",fun c H1 hc S1 h1=>?_⟩
  refine aY (its:=gb 0 (Int.toNat ((ss.length - 1:Nat):Int))) (fun i zs H'=>aC (vw K H) (vw K H') /\ ∃ qs:List (Int × Int),aG (vw K H') (qs.map fr) zs/\qs.length=i /\ ∀ (k:Nat)(p:Int × Int),qs[k]? = some p->Fq p/\wv p=cf ss (k+1) - wv q*cf ss k) (fun _ _ _ _ _ _=>bK) h1 ⟨S1,[],.mk_nil,rfl,by simp⟩ (fun i x zs H2 hi hx h2 p=>?_) (fun zs H2 h2 p=>?_)
  ·obtain⟨S2,qs,rq,lq,hq⟩:=p
   rw[cx] at hi
   obtain⟨_,rfl⟩:=fu hx
   obtain⟨sx,hsx,rsx⟩:=ha.same S2
   have i1:i<ss.length:=by walk_at"o"
   have i2:i+1<ss.length:=by walk_at"o"
   obtain⟨x1,hx1,r1⟩:=rsx.at (i:=i) (d:=fr ss[i]) (by rw[List.getElem?_map,List.getElem?_eq_getElem i1];rfl)
   obtain⟨x2,hx2,r2⟩:=rsx.at (i:=i+1) (d:=fr ss[i+1]) (by rw[List.getElem?_map,List.getElem?_eq_getElem i2];rfl)
   have f1:=hs _ (List.getElem_mem i1)
   have f2:=hs _ (List.getElem_mem i2)
   have fm:=lX fq f1.1
   have bm:=n5 fq f1.1 bq f1.2
   walk_at"vc"
   refine⟨sx,hsx,x2,by rw[show 0+(i:Int)+1=((i+1:Nat):Int) by walk_at"o"];exact ck hx2,sx,hsx,x1,by rw[show 0+(i:Int)=(i:Int) by walk_at"o"];exact ck hx1,?_⟩
   simp only[gm,jZ]
   refine⟨_,_,_,_,rfl,aF.same S2 _ _ ry,r1,fq.ne,f1.1.ne,bq.mono (by decide),f1.2.mono (by decide),(bq.2.mul f1.2.2).mono (by decide),fun v3 H3 S3 r3=>⟨_,_,_,_,rfl,aF.same S3 _ _ r2,r3,f2.1.ne,fm.ne,f2.2.mono (by decide),bm.mono (by decide),(f2.2.2.mul bm.2).mono (by decide),fun v4 H4 S4 r4=>?_⟩⟩
   have h4:=S4 _ _ (S3 _ _ h2)
   refine .mk h4 ?_ fun H5 B5 h5=>⟨fun b o e=>B5 _ _ (aj e hc) (S4 _ _ (S3 _ _ (S2 _ _ e))),qs ++ [yB ss[i+1] (qh q ss[i])],?_,by simp[lq],fun k p e=>?_⟩
   ·rw[rq.length,List.length_map,lq]
    exact Nat.lt_of_lt_of_le (show i<20 by walk_at"o") (by decide)
   ·rw[List.map_append]
    exact (aG.flat_but h4 B5 _ _ (cP qs) (rq.same (S3.trans S4))).snoc (aF.flat_but h4 B5 _ _ (ce _) r4)
   ·by_cases hj:k<qs.length
    ·rw[List.getElem?_append_left hj] at e
     exact hq k p e
    ·have hj2:k=i:=by
      have:=(List.getElem?_eq_some_iff.mp e).1
      rw[List.length_append,List.length_singleton] at this
      walk_at"o"
     subst hj2
     rw[List.getElem?_append_right (by walk_at"o"),lq,Nat.sub_self] at e
     cases e
     exact⟨wr f2.1 fm,by rw[zo f2.1.ne fm.ne,pU fq.ne f1.1.ne,aZ (List.getElem?_eq_getElem i1),aZ (List.getElem?_eq_getElem i2)]⟩
  ·obtain⟨S2,qs,rq,lq,hq⟩:=p
   rw[cx] at lq
   exact h c H2 qs S2 hc ⟨zs,h2,rq⟩ (by walk_at"o") hq
def wC(K:W.Frag):Sp:=fun vs H Q _=>∃ (a:Addr)(y x:V)(qs:List (Int × Int))(q:Int × Int)(d:D),vs=[.ref a,y,x]/\aP (vw K H) a qs/\1<=qs.length/\qs.length<=11/\(∀ q ∈ qs,gS 112 q)/\aF (vw K H) (fr q) y/\mj q/\aF (vw K H) d x/\nK d /\ ∀ (t:Bool) H',aC (vw K H) (vw K H')->(t=true ↔ qw qs q d)->Q (.bl t) H'
theorem Gh(F:et K "_law_due" "_law_due" qU f fd) (T:ff K mg)(zCwhole:aU P w K mg base "_law_whole" ["_law_thing"] 1 (jU K)) (zCis_bar:aU P w K mg base "_law_is_bar" ["_law_sums_here", "_law_thing"] 6 (jL K)) (zCfrom:aU P w K mg base "_law_from" ["_law_sums_here", "_law_spot"] 4 (rJ K)):bU P w K mg base el 7 f fd ["_law_sums_here", "_law_spot", "_law_thing"] (wC K):=by
 have scN:=C6.nd
 refine F.okQ C6 (fun vs H Q E h=>?_) (fun cdv A outer s H vs Q E hr h=>?_)
 ·obtain⟨_,_,_,_,_,_,rfl,_⟩:=h
  rfl
 ·obtain⟨a,y,x,qs,q,d,rfl,ha,l1,l11,sb,hy,hq,hx,gd,h⟩:=h
  have sq:∀ q ∈ qs,ma q:=fun q hq=>(sb q hq).sumQ (by decide)
  refine⟨_,(af (cj (QW.pt (fY (cQ (cW (am cn (by rfl) T.b_isinstance bj (aa (qv 2) (aa (dZ (v:=V.ty "tuple") rfl T.b_tuple iB rfl) ac))))) (fY (aL kF (am av (by rfl) T.b_len aQ (aa (qv 2) ac)) ae (aI _)) (fY (cQ (cW (ai zCwhole (hr.mono (by walk_at"a2")) rfl (aa (ay cg (qv 2) (cG bO ae) (fun _ _=>rfl)) ac)))) (ij (aL gP (ay cg (qv 2) (cG bO ae) (fun _ _=>rfl)) (aH (aa ae (aa ae ac))) (by rfl))))))) (ah (aq fR)) aO)
   (af (cj (aL fW (ay cg (qv 2) (cG bO ae) (fun _ _=>rfl)) ae (aI _)) (ah (aq (ai zCis_bar (hr.mono (by walk_at"a2")) rfl (aa (qv 0) (aa (ci dP (qv 2) cy (cC (cG bO ae))) ac))))) aO)
   (ah (aq (gC (cF iE (am av (by rfl) T.b_len aQ (aa (qv 0) ac)) ae (aI _)) (gE (ai zCis_bar (hr.mono (by walk_at"a2")) rfl (aa (ai zCfrom (hr.mono (by walk_at"a2")) rfl (aa (qv 0) (aa (qv 1) ac))) (aa (ci dP (qv 2) cy (cC (cG bO ae))) ac))))))))),?_⟩
  walk_at"m"
  skip
  have no:¬ qw qs q d -> ∀ H',aC (vw K H) (vw K H')->Q (.bl false) H':=fun n H' S=>h false H' S ⟨fun z=>(by cases z),fun z=>absurd z n⟩
  have ht:=aF.ty hx
  refine aW.gen fun N1 hN1=>?_
  walk_at"vc"
  refine⟨_,ht,?_⟩
  cases d with
  | tup ds =>
   obtain⟨p,xs,rfl,hp,r⟩:=hx.tup_at
   have lds:=r.length
   refine gM (by simp[D.ty,eo]) ⟨p,rfl,xs.length,by simp only[eU,hp],bY (fun e1=>?_) (fun e1=>?_)⟩
   ·refine no ?_ H .rfl
    rintro ⟨es,t,e,⟨_,z⟩|⟨_,_,_,_,z⟩⟩
    ·injection e with e
     rw[e] at lds
     rcases z with ⟨fs,z,_⟩|⟨fs,gs,z,_⟩ <;> (injection z with z;rw[z] at lds;simp at lds;walk_at"o")
    ·injection e with e
     rw[e] at lds
     rcases z with ⟨fs,z,_⟩|⟨fs,gs,z,_⟩ <;> (injection z with z;rw[z] at lds;simp at lds;walk_at"o")
   have nd:ds ≠ []:=fun z=>by
    rw[z] at lds
    simp at lds
    rw[lds] at e1
    simp at e1
   obtain⟨es,e,rfl⟩:=pQ nd
   obtain⟨zs,x,rfl,rz,rx⟩:=m7 r
   have g:=gd.part
   have lst:∀ {v:V},(zs ++ [v]).getLast? = some v:=by simp
   simp only[jU]
   refine⟨p,rfl,_,hp,_,dc lst,_,e,rfl,rx,_,rfl,bY (fun e2=>no (fun z=>?_) H .rfl) (fun e2=>?_)⟩
   ·rw[qX z] at e2
    cases e2
   obtain⟨t,rfl⟩:=D.isInt_of e2
   cases rx.int_at
   have cut:∀ {H0:Hp}{Q0:VK},aC (vw K H) (vw K H0)->(∀ (p1:Addr) H1,aC (vw K H0) (vw K H1)->aF (vw K H1) (.tup es) (.ref p1)->Q0 (.ref p1) H1)->ie K (.ref p) none (some (-1)) H0 Q0:=fun S0 k=>by
    refine⟨p,rfl,_,S0 _ _ hp,fun z=>?_,fun p1 H1 hp1 S1 h1=>k p1 H1 S1 (.mk_tup h1 ?_)⟩
    ·have z:=z.2
     unfold HT.sIx at z
     simp at z
     walk_at"o"
    ·rw[sI,show (zs ++ [V.int t]).length - 1=zs.length by simp,List.take_left' rfl]
     exact (rz.same S0).same S1
   have vi:∀ {i j:Int},(V.int i = .int j) ↔ i=j:=fun {i j}=>⟨fun z=>by injection z,fun z=>by rw[z]⟩
   refine⟨p,rfl,_,hp,_,dc lst,by decide,fun p2 H2 hp2 S2 h2=>⟨p2,_,rfl,.inr (cN h2),rfl,rfl,?_⟩⟩
   by_cases h01:¬ (t=0\/t=1)
   ·have e:(if true=true then !qB (V.int t) [V.int 0,V.int 1] else qB (V.int t) [V.int 0,V.int 1])=true:=by
     show (!([V.int 0,V.int 1].any fun y=>AU y (V.int t)))=true
     simp only[List.any_cons,List.any_nil,Bool.or_false,Bool.not_eq_true',Bool.or_eq_false_iff]
     exact⟨by show (0 == t)=false;exact beq_eq_false_iff_ne.mpr (by walk_at"o"),by show (1 == t)=false;exact beq_eq_false_iff_ne.mpr (by walk_at"o")⟩
    rw[e]
    refine⟨true,rfl,jx rfl (no (fun z=>?_) _ S2)⟩
    rcases fk.mp z with ⟨y,_⟩|⟨y,_⟩
    ·exact h01 (.inl y)
    ·exact h01 (.inr y)
   have h01:=Classical.not_not.mp h01
   have e:(if true=true then !qB (V.int t) [V.int 0,V.int 1] else qB (V.int t) [V.int 0,V.int 1])=false:=by
    rcases h01 with z|z <;> (rw[z];decide +kernel)
   rw[e]
   refine⟨false,rfl,gM (by decide) (hN1 _ _ ?_)⟩
   refine aW.gen fun N2 hN2=>?_
   walk_at"vc"
   refine⟨_,S2 _ _ hp,_,dc lst,rfl,bY (fun e3=>?_) (fun e3=>hN2 _ _ ?_)⟩
   ·have e3:=vi.mp e3
    refine cut S2 fun p3 H3 S3 r3=>?_
    simp only[jL]
    refine⟨a,.ref p3,qs,.tup es,rfl,ha.same (S2.trans S3),l11,sq,r3,g.1,g.2.1,fun b H4 S4 hb=>h b H4 (S2.trans (S3.trans S4)) (hb.trans ⟨fun z=>fk.mpr (.inl ⟨e3,z⟩),fun z=>?_⟩)⟩
    rcases fk.mp z with ⟨_,y⟩|⟨y,_⟩
    ·exact y
    ·walk_at"o"
   have e3:t ≠ 0:=fun z=>e3 (vi.mpr z)
   have e4:t=1:=by walk_at"o"
   walk_at"vc"
   refine⟨_,(ha.same S2).len,bY (fun e5=>?_) (fun e5=>?_)⟩
   ·simp only[rJ]
    refine⟨a,y,qs,q,rfl,ha.same S2,aF.same S2 _ _ hy,hq.1,hq.2.1.mono (by decide),l1,l11,fun p hp=>⟨(sq p hp).1,(sq p hp).2.1⟩,fun b6 H6 ts6 S6 nb6 l6 ln6 w6=>?_⟩
    have fl:oJ qs q ts6:=⟨ln6,w6⟩
    refine cut (S2.trans S6) fun p7 H7 S7 r7=>?_
    simp only[jL]
    refine⟨b6,.ref p7,ts6,.tup es,rfl,l6.same S7,by walk_at"o",mO sb hq ln6 w6,r7,g.1,g.2.1,fun b H8 S8 hb=>h b H8 (S2.trans (S6.trans (S7.trans S8))) (hb.trans ⟨fun z=>fk.mpr (.inr ⟨e4,by walk_at"o",ts6,fl,z⟩),fun z=>?_⟩)⟩
    rcases fk.mp z with ⟨y,_⟩|⟨_,_,rs,f2,y⟩
    ·walk_at"o"
    ·rw[fl.uniq f2]
     exact y
   ·refine no (fun z=>?_) _ S2
    rcases fk.mp z with ⟨y,_⟩|⟨_,y,_⟩ <;> walk_at"o"
  | _=>exact jx (by simp[D.ty,eo]) (no (by rintro ⟨_,_,z,_⟩;cases z) H .rfl)
def gN(K:W.Frag):Sp:=fun vs H Q _=>∃ (st:Addr)(m:Nat),vs=[.ref st,.int m]/\m<=20/\dC (vw K H) st /\ ∀ a H' qs,fh st (vw K H) (vw K H')->dC (vw K H') st->aP (vw K H') a qs->(∀ q ∈ qs,Fq q/\Bt 10 q.1/\Bt 10 q.2/\Sx 36 q)->qs.length<=m->(∀ q,qs.getLast? = some q->q.1 ≠ 0)->vw K H a=none->Q (.ref a) H'
theorem rK(F:et K "_law_polynomial" "_law_polynomial" eX f fd) (T:ff K mg)(zCsmall:aU P w K mg base "_law_small" ["_law_state_here"] 3 (dO K))
  (zCtake:aU P w K mg base "_law_take" ["_law_state_here", "_law_many"] 1 (dJ K)) (zCclean:aU P w K mg base "_law_clean" ["_law_numbers"] 1 (mr K)):bU P w K mg base el 4 f fd ["_law_state_here", "_law_most"] (gN K):=by
 have scN:=lE.nd
 refine F.okQ lE (fun vs H Q E h=>?_) (fun cdv A outer s H vs Q E hr h=>?_)
 ·obtain⟨a,_,rfl,_⟩:=h
  rfl
 ·obtain⟨st,m,rfl,hm,hst,h⟩:=h
  refine⟨_,(ah (aq (ai zCclean (hr.mono (by walk_at"a2")) rfl (aa (cL (own:=["_law_place"]) (outs:=["_law_state_here"]) (ixs:=[0]) rfl (cI rfl T.b_range (aa (ai zCtake (hr.mono (by walk_at"a2")) rfl (aa (qv 0) (aa (ao aV (qv 1) ae) ac))) ac)) rfl ⟨rfl,rfl,rfl,⟨rfl,trivial⟩,rfl,⟨⟨rfl,rfl,rfl,_,rfl⟩,trivial⟩⟩ (fun _ _ _ _=>⟨(ak (i:=0) (show (["_law_place", "_law_state_here"]:List Str).Nodup by decide +kernel) rfl (by walk_at"a1")),cS,(ai zCsmall (hr.mono (by walk_at"a2")) rfl (aa (qv 1) ac))⟩)) ac)))),?_⟩
  walk_at"m"
  walk_at"vc"
  simp only[dJ]
  walk_at"vc"
  refine⟨hst,by walk_at"o",by walk_at"o",fun r H1 r0 r1 B1 S1=>⟨by walk_at"o",by walk_at"o",fun a H2 ha S2 h2=>?_⟩⟩
  have nst:st ≠ a:=(S1.ne ha).symm
  refine aY (its:=gb 0 r.toNat) (fun i xs H'=>fh st (vw K H1) (vw K H')/\dC (vw K H') st /\ ∃ qs,qs.length=i/\aG (vw K H') (qs.map fr) xs /\ ∀ q ∈ qs,Fq q/\Bt 10 q.1/\Bt 10 q.2/\Sx 36 q) (fun i xs H' _ _ _=>bK) h2 ⟨S2.but st,S1.same S2,[],rfl,.mk_nil,by simp⟩ (fun i x xs H' hi hx h' p=>?_) (fun xs H' h' p=>?_)
  ·obtain⟨B',S',qs,hl,rq,hq⟩:=p
   walk_at"vc"
   simp only[dO]
   walk_at"vc"
   refine⟨S',fun v H3 q B3 S3 r3 f3 b1 b2 x3=>.mk (B3 _ _ nst.symm h') ?_ fun H5 B5 h5=>?_⟩
   ·rw[rq.length,List.length_map,hl]
    rw[cx] at hi
    have:(r.toNat:Nat)<=20:=by walk_at"o"
    exact Nat.lt_of_lt_of_le (Nat.lt_of_lt_of_le hi this) (by decide)
   ·have h3:=B3 _ _ nst.symm h'
    obtain⟨xx,bb,e,_⟩:=id S'
    refine⟨?_,S3.but h3 nst B5,qs ++ [q],by simp[hl],?_,?_⟩
    ·intro b o hb e
     have hba:=aj e ha
     exact B5 _ _ hba (B3 _ _ hb (B' _ _ hb e))
    ·rw[List.map_append]
     exact (aG.flat_but h3 B5 _ _ (cP qs) (aG.flat_but e B3 _ _ (cP qs) rq)).snoc (aF.flat_but h3 B5 _ _ (ce q) r3)
    ·intro q' hq'
     rcases List.mem_append.mp hq' with z|z
     ·exact hq q' z
     ·cases List.mem_singleton.mp z
      exact⟨f3,b1,b2,x3⟩
  ·obtain⟨B',S',qs,hl,rq,hq⟩:=p
   refine⟨a,qs,rfl,⟨xs,h',rq⟩,fun b H3 n hn hz _ hb S3 l3=>h b H3 _ (B1.trans (B'.same_trans S3)) (S'.same S3) l3 (fun q z=>hq q (List.mem_of_mem_take z)) ?_ hz ?_⟩
   ·rw[List.length_take,hl,cx]
    walk_at"o"
   ·cases e:vw K H b with
    | none=>rfl
    | some o =>
     by_cases hbs:b=st
     ·subst hbs
      obtain⟨_,_,z,_⟩:=S'
      rw[z] at hb
      cases hb
     ·rw[B' _ _ hbs (B1 _ _ hbs e)] at hb
      cases hb
theorem uD.noSt{d:D}(h:uD d):d.noSt=true:=by
 obtain⟨ds,t,bl,_,rfl⟩:=h
 obtain⟨w,fs,_,_,z|⟨gs,_,z⟩⟩:=bl
 ·injection z with z
  subst z
  exact kY (eA sX (eA (gw fs) (eA (by unfold D.noSt;rfl) mT)))
 ·injection z with z
  subst z
  exact kY (eA sX (eA (gw fs) (eA (gw gs) (eA (by unfold D.noSt;rfl) mT))))
def rD(K:W.Frag):Sp:=fun vs H Q _=>∃ (st a:Addr)(y:V)(qs:List (Int × Int))(q:Int × Int),vs=[.ref st,.ref a,y]/\dC (vw K H) st/\aP (vw K H) a qs/\1<=qs.length/\qs.length<=11/\(∀ q ∈ qs,gS 112 q)/\aF (vw K H) (fr q) y/\mj q /\
 ∀ v H' d,fh st (vw K H) (vw K H')->dC (vw K H') st->aF (vw K H') d v->uD d->Q v H'
theorem Ek(F:et K "_law_some" "_law_some" mz f fd) (T:ff K mg)(C_back_from:aU P w K mg base "back_from" ["sums", "spot"] 7 (gJ K)) (zCtake:aU P w K mg base "_law_take" ["_law_state_here", "_law_many"] 1 (dJ K)) (zCpolynomial:aU P w K mg base "_law_polynomial" ["_law_state_here", "_law_most"] 4 (gN K)):bU P w K mg base el 8 f fd ["_law_state_here", "_law_sums_here", "_law_spot"] (rD K):=by
 have scN:=zp.nd
 refine F.okQ zp (fun vs H Q E h=>?_) (fun cdv A outer s H vs Q E hr h=>?_)
 ·obtain⟨_,_,_,_,_,rfl,_⟩:=h
  rfl
 ·obtain⟨st,a,y,qs,q,rfl,hst,ha,l1,l11,sb,hy,hq,h⟩:=h
  refine⟨_,((af (aE (i:=3) scN rfl (by walk_at"a1") (ai C_back_from (hr.mono (by walk_at"a2")) rfl (aa (hV ja (by rfl) T.b_list je (aa (qv 1) ac)) (aa (qv 2) ac))))
   (af (cj (QW.pt (mN (aL pM (ay cg (qv 3) ae (fun _ _=>rfl)) cR (aI _)) (kv (aL iE (ai zCtake (hr.mono (by walk_at"a2")) rfl (aa (qv 0) (aa ae ac))) ae (aI _))))) (ah (aq (qv 3))) aO)
   (af (oF (i:=4) (j:=5) rfl scN rfl rfl (by decide) rfl rfl (aa (ai zCpolynomial (hr.mono (by walk_at"a2")) rfl (aa (qv 0) (aa ae ac))) (aa (ai zCpolynomial (hr.mono (by walk_at"a2")) rfl (aa (qv 0) (aa ae ac))) ac)) rfl)
   (ah (aq (ay cZ (aM (aa (aH (aa cR (aa (qv 4) (aa ae ac)))) (aa (aH (aa cR (aa (qv 4) (aa ae ac)))) (aa (aH (aa cR (aa (qv 4) (aa (qv 5) (aa ae ac))))) (aa (aH (aa cR (aa (qv 4) (aa (qv 5) (aa ae ac))))) ac))))) (ai zCtake (hr.mono (by walk_at"a2")) rfl (aa (qv 0) (aa ae ac))) (fun _ _=>rfl)))))))),?_⟩
  simp only[mK,rZ,L2.start,List.map_cons,List.map_nil,List.cons_append,List.nil_append,List.replicate_succ,List.replicate_zero,List.length_cons,List.length_nil,Nat.reduceSub,Nat.reduceAdd,Nat.zero_add]
  refine aW.gen fun N1 hN1=>?_
  walk_at"m"
  walk_at"vc"
  obtain⟨xs,hxs,rxs⟩:=id ha
  refine⟨xs,hxs,fun a1 H1 ha1 S1 h1=>?_⟩
  simp only[gJ]
  refine⟨a1,y,qs,q,rfl,⟨xs,h1,rxs.same S1⟩,l1,l11,sb,aF.same S1 _ _ hy,hq,fun v2 H2 S2 th=>hN1 _ _ ?_⟩
  have S02:=S1.trans S2
  have st2:=hst.same S02
  refine aW.gen fun N2 hN2=>?_
  have key:∀ (H3:Hp),fh st (vw K H2) (vw K H3)->dC (vw K H3) st->N2 [some (.ref st),some (.ref a),some y,some v2,none,none] H3:=by
   intro H3 B3 st3
   refine hN2 _ _ ?_
   refine aW.gen fun N4 hN4=>?_
   walk_at"m"
   walk_at"vc"
   simp only[gN]
   refine⟨st,4,rfl,by decide,st3,fun a11 H11 gs B11 st11 l11' q11 ln11 nz11 na11=>⟨st,4,rfl,by decide,st11,fun a12 H12 ks B12 st12 l12' q12 ln12 nz12 na12=>hN4 _ _ ?_⟩⟩
   have plg:Pl gs:=⟨⟨fun q hq=>(q11 q hq).1,nz11⟩,by walk_at"o",fun q hq=>Bq.mono (m:=10) ⟨(q11 q hq).2.1,(q11 q hq).2.2.1⟩ (by decide)⟩
   have plk:Pl ks:=⟨⟨fun q hq=>(q12 q hq).1,nz12⟩,by walk_at"o",fun q hq=>Bq.mono (m:=10) ⟨(q12 q hq).2.1,(q12 q hq).2.2.1⟩ (by decide)⟩
   have lg12:=l11'.stBut st11 B12
   have B02:fh st (vw K H) (vw K H12):=(fh.of S02).trans (B3.trans (B11.trans B12))
   have td:TD K [some (.ref st),some (.ref a),some y,some v2,some (.ref a11),some (.ref a12)] H12 (qL K (dQ (ju K (dQ (tC (.str "below")) (dQ (L2.tVar 4) (dQ (tC (.int 0)) oV)))) (dQ (ju K (dQ (tC (.str "below")) (dQ (L2.tVar 4) (dQ (tC (.int 1)) oV)))) (dQ (ju K (dQ (tC (.str "nought")) (dQ (L2.tVar 4) (dQ (L2.tVar 5) (dQ (tC (.int 0)) oV))))) (dQ (ju K (dQ (tC (.str "nought")) (dQ (L2.tVar 4) (dQ (L2.tVar 5) (dQ (tC (.int 1)) oV))))) oV))))) _:=jf (au (fB (au iP (au (gF rfl lg12.rep) (au gG cr))) (by simp)) (au (fB (au iP (au (gF rfl lg12.rep) (au gG cr))) (by simp)) (au (fB (au iP (au (gF rfl lg12.rep) (au (gF rfl l12'.rep) (au gG cr)))) (by simp)) (au (fB (au iP (au (gF rfl lg12.rep) (au (gF rfl l12'.rep) (au gG cr)))) (by simp)) cr)))) (by simp)
   refine td H12 _ .rfl fun v13 H13 S13 r13=>?_
   obtain⟨b13,ws,rfl,h13,rws⟩:=r13.lst_at
   have lws:=rws.length
   simp only[List.length_cons,List.length_nil] at lws
   have st13:=st12.same S13
   have nb:b13 ≠ st:=fun z=>by
    obtain⟨_,_,e,_⟩:=st13
    rw[z,e] at h13
    cases h13
    simp at lws
   walk_at"m"
   walk_at"vc"
   simp only[dJ]
   refine⟨st,4,rfl,st13,by decide,by decide,fun r H14 r0 r1 B14 st14=>?_⟩
   obtain⟨j,rfl⟩ : ∃ j:Nat,r=(j:Int):=⟨r.toNat,by walk_at"o"⟩
   have hj:j<ws.length:=by walk_at"o"
   obtain⟨d,hd,rd⟩:=rws.get (List.getElem?_eq_getElem hj)
   have bl3:uD d:=by
    have hm:=List.mem_of_getElem? hd
    simp only[List.mem_cons,List.not_mem_nil,or_false] at hm
    rcases hm with rfl|rfl|rfl|rfl
    ·exact⟨[_,_],0,⟨_,gs,.inl rfl,plg,.inl rfl⟩,.inl rfl,rfl⟩
    ·exact⟨[_,_],1,⟨_,gs,.inl rfl,plg,.inl rfl⟩,.inr rfl,rfl⟩
    ·exact⟨[_,_,_],0,⟨_,gs,.inr rfl,plg,.inr ⟨ks,plk,rfl⟩⟩,.inl rfl,rfl⟩
    ·exact⟨[_,_,_],1,⟨_,gs,.inr rfl,plg,.inr ⟨ks,plk,rfl⟩⟩,.inr rfl,rfl⟩
   exact⟨_,rfl,_,B14 _ _ nb h13,_,ck (List.getElem?_eq_getElem hj),h _ H14 d ((B02.same_trans S13).trans B14) st14 (rd.but B14 st13 _ _ bl3.noSt) bl3⟩
  walk_at"m"
  walk_at"vc"
  rcases th with ⟨d,rd,bl3⟩|⟨p,r,rfl,hp⟩
  ·obtain⟨w0,es,hw,ed⟩ : ∃ (w0:Str)(es:List D),(w0 = "below" \/ w0 = "nought")/\d = .tup (.str w0 :: es):=by
    obtain⟨ds,t,bl,_,rfl⟩:=bl3
    obtain⟨w0,fs,hw,_,z|⟨gs,_,z⟩⟩:=bl
    ·injection z with z
     rw[z]
     exact⟨w0,_,hw,rfl⟩
    ·injection z with z
     rw[z]
     exact⟨w0,_,hw,rfl⟩
   obtain⟨p,xs,rfl,hx,rx⟩:=(ed ▸ rd).tup_at
   obtain⟨x0,xr,rfl,r0,_⟩:=rx.cons_at
   obtain rfl:=(rA r0).mpr rfl
   simp only[dJ]
   refine⟨p,rfl,_,hx,_,eD,rfl,jx ?_ ⟨st,3,rfl,st2,by decide,by decide,fun r H3 r0 r1 B3 st3=>⟨_,rfl,bY (fun _=>h _ H3 d ((fh.of S02).trans B3) st3 (rd.but B3 st2 _ _ bl3.noSt) bl3) (fun _=>key H3 B3 st3)⟩⟩⟩
   intro z
   injection z with z
   rcases hw with y|y
   ·rw[y] at z
    exact absurd z (by decide +kernel)
   ·rw[y] at z
    exact absurd z (by decide +kernel)
  ·exact⟨p,rfl,_,hp,_,eD,rfl,gM (fun z=>z rfl) (key H2 (fun _ _ _ z=>z) st2)⟩
def qf(r:List D)(t:Int):List D:=r ++ [.int t]
def jF(w:Str)(fs:List (Int × Int))(r:List D)(t:Int):List D:=[.tup (.str w :: .lst (fs.map fr) :: qf r t),.tup ((.str w :: .lst (fs.map fr) :: qf r t).take ((qf r t).length+1)),.tup ((.str w :: .lst (fs.map fr) :: qf r t) ++ [.int 0]),.tup (.str "below" :: .lst (fs.map fr) :: qf r t),.tup (.str "nought" :: .lst (fs.map fr) :: qf r t),.tup (.lst (fs.map fr) :: qf r t),.lst (.str w :: .lst (fs.map fr) :: qf r t)] ++ ([.int (1 - t),.bl true,.int 2,.str "0",.int (-1)].map fun x=>D.tup ((.str w :: .lst (fs.map fr) :: r) ++ [x])) ++ ([.lst (fs.map fr ++ [fr (0,1)]),.lst (fr (0,1) :: fs.map fr),.tup (fs.map fr),.lst (fs.map fr ++ [fr (1,1)])].map fun x=>D.tup (.str w :: x :: qf r t)) ++ [.tup [.str w,.lst (fs.map fr),.lst (fs.map fr),.int t],.non,.tup [],.tup [.int 0],.tup [.str "below",.int 0],.tup [.str "below",.lst [],.int 0],.tup [.str "nought",.lst [],.lst [],.int 1]] ++ [.dict,.str "below",.tup [.non,.lst (fs.map fr),.int 0]]
def rX(r:List D):Prop:=r.length<=1 /\ ∀ e ∈ r,∃ gs,Pl gs/\e = .lst (gs.map fr)
theorem uq{fs:List (Int × Int)}(h:fs.length<=14)(hb:∀ q ∈ fs,Bq 2000 q):iA (.lst (fs.map fr)):=⟨Cq fs,by show (fs.map fr).length<=1000;rw[List.length_map];walk_at"o",fun gs e p=>by
 have:=dD e
 subst this
 exact⟨h,hb⟩⟩
theorem qZ{e:D}(c:e.cmp)(h:∀ ds,e ≠ .lst ds):iA e:=⟨c,by cases e <;> first|exact absurd rfl (h _)|simp[D.len],fun fs z=>absurd z (h _)⟩
theorem io(i:Int):iA (.int i):=qZ (sg i) (by simp)
theorem zn(fs:List (Int × Int)):(D.tup (fs.map fr)).cmp:=by
 obtain⟨h1,h2⟩:=uO fs
 unfold D.cmp
 simp only[D.py,PyData.canLay0,PyData.depth]
 exact⟨h1,by walk_at"o"⟩
theorem cm{ds:List D}(h:∀ e ∈ ds,iA e):nK (.tup ds):=fun es z e he=>by
 injection z with z
 subst z
 exact h e he
theorem oh{d:D}(h:∀ ds,d ≠ .tup ds):nK d:=fun _ z=>absurd z (h _)
theorem aK{e:D}{ds:List D}(h1:iA e)(h2:∀ x ∈ ds,iA x):∀ x ∈ e :: ds,iA x:=fun x hx=>by
 rcases List.mem_cons.mp hx with rfl|z
 ·exact h1
 ·exact h2 x z
theorem ga:∀ x ∈ ([]:List D),iA x:=by simp
theorem nH{w:Str}{fs:List (Int × Int)}{r:List D}{t:Int}(hw:w = "below" \/ w = "nought") (hf:Pl fs)(hr:rX r) {e:D}(h:e ∈ jF w fs r t):nK e:=by
 have l12:=hf.2.1
 have sb:∀ {q:Int × Int},Bq 4 q->Bq 2000 q:=fun h=>h.mono (by decide)
 have er:∀ x ∈ r,iA x:=fun x hx=>by
  obtain⟨gs,pg,rfl⟩:=hr.2 x hx
  have:=pg.2.1
  exact uq (by walk_at"o") pg.2.2
 have eb:∀ x ∈ qf r t,iA x:=fun x hx=>by
  rcases List.mem_append.mp hx with z|z
  ·exact er x z
  ·rw[List.mem_singleton.mp z]
   exact io t
 have ew:iA (.str w):=qZ (ol (by rcases hw with z|z <;> (rw[z];decide +kernel))) (by simp)
 have es:∀ {s:Str},PyData.strOk s=true->iA (.str s):=fun h=>qZ (ol h) (by simp)
 have en:iA .non:=qZ (by unfold D.cmp D.py;simp[PyData.canLay0,PyData.depth]) (by simp)
 have eB:iA (.bl true):=qZ (by unfold D.cmp D.py;simp[PyData.canLay0,PyData.depth]) (by simp)
 have ef:iA (.lst (fs.map fr)):=uq (by walk_at"o") hf.2.2
 have e0:iA (.lst []):=uq (fs:=[]) (by simp) (by simp)
 have ea:∀ {q:Int × Int},Bq 4 q->iA (.lst (fs.map fr ++ [fr q])):=fun {q} hq=>by
  have:=uq (fs:=fs ++ [q]) (by simp;walk_at"o") fun x hx=>by
   rcases List.mem_append.mp hx with z|z
   ·exact hf.2.2 x z
   ·rw[List.mem_singleton.mp z]
    exact sb hq
  rwa [List.map_append] at this
 have eF:∀ x ∈ (.str w :: .lst (fs.map fr) :: qf r t:List D),iA x:=aK ew (aK ef eb)
 have app:∀ {as bs:List D},(∀ x ∈ as,iA x)->(∀ x ∈ bs,iA x) -> ∀ x ∈ as ++ bs,iA x:=fun h1 h2 x hx=>by
  rcases List.mem_append.mp hx with z|z
  ·exact h1 x z
  ·exact h2 x z
 simp only[jF,List.mem_append,List.mem_cons,List.not_mem_nil,or_false,List.map_cons,List.map_nil] at h
 rcases h with ((((rfl|rfl|rfl|rfl|rfl|rfl|rfl)|(rfl|rfl|rfl|rfl|rfl))|(rfl|rfl|rfl|rfl))|(rfl|rfl|rfl|rfl|rfl|rfl|rfl))|(rfl|rfl|rfl)
 ·exact cm eF
 ·exact cm fun x hx=>eF x (List.mem_of_mem_take hx)
 ·exact cm (app eF (aK (io 0) ga))
 ·exact cm (aK (es (by decide +kernel)) (aK ef eb))
 ·exact cm (aK (es (by decide +kernel)) (aK ef eb))
 ·exact cm (aK ef eb)
 ·exact oh (by simp)
 ·exact cm (app (aK ew (aK ef er)) (aK (io _) ga))
 ·exact cm (app (aK ew (aK ef er)) (aK eB ga))
 ·exact cm (app (aK ew (aK ef er)) (aK (io _) ga))
 ·exact cm (app (aK ew (aK ef er)) (aK (es (by decide +kernel)) ga))
 ·exact cm (app (aK ew (aK ef er)) (aK (io _) ga))
 ·exact cm (aK ew (aK (ea ⟨by decide,by decide⟩) eb))
 ·exact cm (aK ew (aK (uq (fs:=(0,1) :: fs) (by simp;walk_at"o") fun x hx=>by
   rcases List.mem_cons.mp hx with z|z
   ·rw[z]
    exact sb ⟨by decide,by decide⟩
   ·exact hf.2.2 x z) eb))
 ·exact cm (aK ew (aK (qZ (zn fs) (by simp)) eb))
 ·exact cm (aK ew (aK (ea ⟨by decide,by decide⟩) eb))
 ·exact cm (aK ew (aK ef (aK ef (aK (io t) ga))))
 ·exact oh (by simp)
 ·exact cm ga
 ·exact cm (aK (io 0) ga)
 ·exact cm (aK (es (by decide +kernel)) (aK (io 0) ga))
 ·exact cm (aK (es (by decide +kernel)) (aK e0 (aK (io 0) ga)))
 ·exact cm (aK (es (by decide +kernel)) (aK e0 (aK e0 (aK (io 1) ga))))
 ·exact oh (by simp)
 ·exact oh (by simp)
 ·exact cm (aK en (aK ef (aK (io 0) ga)))
theorem mq{d:D}(h:∀ ds,d ≠ .lst ds)(h2:∀ ds,d ≠ .tup ds):d.noSt=true:=by
 cases d with
 | lst ds=>exact absurd rfl (h _)
 | tup ds=>exact absurd rfl (h2 _)
 | _=>unfold D.noSt;rfl
theorem oQ{ds:List D}(h:∀ x ∈ ds,x.noSt=true):D.noSts ds=true:=by
 induction ds with
 | nil=>exact mT
 | cons d ds ih=>exact eA (h d List.mem_cons_self) (ih fun x hx=>h x (List.mem_cons_of_mem _ hx))
theorem tN{w:Str}(fs:List (Int × Int)) {r:List D}{t:Int}(hr:rX r):(D.lst (jF w fs r t)).noSt=true:=by
 have ni:∀ i:Int,(D.int i).noSt=true:=fun i=>mq (by simp) (by simp)
 have ns:∀ s:Str,(D.str s).noSt=true:=fun s=>mq (by simp) (by simp)
 have nn:D.non.noSt=true:=mq (by simp) (by simp)
 have nB:(D.bl true).noSt=true:=mq (by simp) (by simp)
 have nf:(D.lst (fs.map fr)).noSt=true:=gw fs
 have n0:(D.lst []).noSt=true:=gw []
 have er:∀ x ∈ r,x.noSt=true:=fun x hx=>by
  obtain⟨gs,_,rfl⟩:=hr.2 x hx
  exact gw gs
 have c:∀ {e:D}{ds:List D},e.noSt=true->(∀ x ∈ ds,x.noSt=true) -> ∀ x ∈ e :: ds,x.noSt=true:=fun h1 h2 x hx=>by
  rcases List.mem_cons.mp hx with rfl|z
  ·exact h1
  ·exact h2 x z
 have z:∀ x ∈ ([]:List D),x.noSt=true:=by simp
 have app:∀ {as bs:List D},(∀ x ∈ as,x.noSt=true)->(∀ x ∈ bs,x.noSt=true) -> ∀ x ∈ as ++ bs,x.noSt=true:=fun h1 h2 x hx=>by
  rcases List.mem_append.mp hx with z|z
  ·exact h1 x z
  ·exact h2 x z
 have eb:∀ x ∈ qf r t,x.noSt=true:=app er (c (ni t) z)
 have eF:∀ x ∈ (.str w :: .lst (fs.map fr) :: qf r t:List D),x.noSt=true:=c (ns _) (c nf eb)
 have T:∀ {ds:List D},(∀ x ∈ ds,x.noSt=true)->(D.tup ds).noSt=true:=fun h=>kY (oQ h)
 have ap:∀ q:Int × Int,(D.lst (fs.map fr ++ [fr q])).noSt=true:=fun q=>by
  have:=gw (fs ++ [q])
  rwa [List.map_append] at this
 refine sK (oQ fun e h=>?_) (by intro i b;unfold jF;simp)
 simp only[jF,List.mem_append,List.mem_cons,List.not_mem_nil,or_false,List.map_cons,List.map_nil] at h
 rcases h with ((((rfl|rfl|rfl|rfl|rfl|rfl|rfl)|(rfl|rfl|rfl|rfl|rfl))|(rfl|rfl|rfl|rfl))|(rfl|rfl|rfl|rfl|rfl|rfl|rfl))|(rfl|rfl|rfl)
 ·exact T eF
 ·exact T fun x hx=>eF x (List.mem_of_mem_take hx)
 ·exact T (app eF (c (ni 0) z))
 ·exact T (c (ns _) (c nf eb))
 ·exact T (c (ns _) (c nf eb))
 ·exact T (c nf eb)
 ·exact sK (oQ eF) (by simp)
 ·exact T (app (c (ns _) (c nf er)) (c (ni _) z))
 ·exact T (app (c (ns _) (c nf er)) (c nB z))
 ·exact T (app (c (ns _) (c nf er)) (c (ni _) z))
 ·exact T (app (c (ns _) (c nf er)) (c (ns _) z))
 ·exact T (app (c (ns _) (c nf er)) (c (ni _) z))
 ·exact T (c (ns _) (c (ap _) eb))
 ·exact T (c (ns _) (c (gw ((0,1) :: fs)) eb))
 ·exact T (c (ns _) (c (kY (pL fs)) eb))
 ·exact T (c (ns _) (c (ap _) eb))
 ·exact T (c (ns _) (c nf (c nf (c (ni t) z))))
 ·exact nn
 ·exact T z
 ·exact T (c (ni 0) z)
 ·exact T (c (ns _) (c (ni 0) z))
 ·exact T (c (ns _) (c n0 (c (ni 0) z)))
 ·exact T (c (ns _) (c n0 (c n0 (c (ni 1) z))))
 ·exact mq (by simp) (by simp)
 ·exact ns _
 ·exact T (c nn (c nf (c (ni 0) z)))
theorem sn{K:W.Frag}{σ:St}{H0:Hp}{t:TE}{d:D}{ds:List D}(h:TD K σ H0 t (.tup (d :: ds))):TD K σ H0 (Go (ie K) t (qT (tC (.int 1))) lC) (.tup ds):=fun H Q S k =>
 h H _ S fun v H1 S1 r1=>by
  obtain⟨a,xs,rfl,ha,ra⟩:=r1.tup_at
  obtain⟨x,xr,rfl,r0,rr⟩:=ra.cons_at
  refine⟨1,rfl,a,rfl,_,ha,fun z=>absurd z.1 (by unfold HT.sIx;simp),fun p H2 hp S2 h2=>k _ H2 (S1.trans S2) (.mk_tup h2 ?_)⟩
  have:=iC (xs:=x :: xr) (k:=1) (by simp)
  rw[show gv (x :: xr) (some 1) none=xr by simpa using this]
  exact rr.same S2
theorem FZ{K:W.Frag}{σ:St}{H0:Hp}{t:TE}{d:D}{ds:List D}(h:TD K σ H0 t (.tup (d :: ds))):TD K σ H0 (Go (ie K) t lC (qT (GX (rU fun i=>.int (-i)) (tC (.int 1))))) (.tup ((d :: ds).take ds.length)):=fun H Q S k =>
 h H _ S fun v H1 S1 r1=>by
  obtain⟨a,xs,rfl,ha,ra⟩:=r1.tup_at
  have lx:=ra.length
  refine⟨1,rfl,-1,rfl,a,rfl,xs,ha,fun z=>?_,fun p H2 hp S2 h2=>k _ H2 (S1.trans S2) (.mk_tup h2 ?_)⟩
  ·have z:=z.2
   rw[lx] at z
   unfold HT.sIx at z
   simp at z
   walk_at"o"
  ·rw[sI,lx,List.length_cons,Nat.add_sub_cancel]
   exact (ra.take _).same S2
theorem vZ{H:Hp}:∀{ds:List D}{xs:List V},xs.length=ds.length->(∀ (j:Nat) d x,ds[j]? = some d->xs[j]? = some x->aF H d x)->aG H ds xs
 | [],[],_,_=>.mk_nil
 | [],_ :: _,l,_=>by simp at l
 | _ :: _,[],l,_=>by simp at l
 | d :: ds,x :: xs,l,h=>.mk_cons (h 0 d x rfl rfl) (vZ (by simpa using l) fun j d' x' h1 h2=>h (j+1) d' x' h1 h2)
def Dg(K:W.Frag)(H0:Hp)(c:Addr)(ls:List D)(g:D->List D)(i:Nat)(ys:List V)(H':Hp):Prop:=aC (vw K H0) (vw K H')/\ys.length=i /\ ∀ (j:Nat) y,ys[j]? = some y -> ∃ (p:Addr)(xs:List V)(d:D),y = .ref p/\p ≠ c/\vw K H' p=some (.tup xs)/\ls[j]? = some d/\aG (vw K H0) (g d) xs
theorem Dg.add{K:W.Frag}{H0 H' H1 H2:Hp}{c p:Addr}{ls:List D}{g:D->List D}{i:Nat}{ys xs:List V}{d:D}(h:Dg K H0 c ls g i ys H')(hc0:vw K H0 c=none)(S:aC (vw K H') (vw K H1))(h1:vw K H1 c=some (.lst ys))(hp:vw K H1 p=some (.tup xs))(hd:ls[i]? = some d)(r:aG (vw K H0) (g d) xs)(B:fh c (vw K H1) (vw K H2)):Dg K H0 c ls g (i+1) (ys ++ [.ref p]) H2:=by
 obtain⟨a,b,k⟩:=h
 have np:p ≠ c:=fun z=>by rw[z,h1] at hp;cases hp
 refine⟨fun x o e=>B _ _ (aj e hc0) (S _ _ (a _ _ e)),by simp[b],fun j y hj=>?_⟩
 by_cases z:j<ys.length
 ·rw[List.getElem?_append_left z] at hj
  obtain⟨p',xs',d',e1,e2,e3,e4,e5⟩:=k j y hj
  exact⟨p',xs',d',e1,e2,B _ _ e2 (S _ _ e3),e4,e5⟩
 ·rw[List.getElem?_append_right (by walk_at"o")] at hj
  have j0:j - ys.length=0:=by
   have:=(List.getElem?_eq_some_iff.mp hj).1
   simp at this
   walk_at"o"
  rw[j0] at hj
  cases hj
  have:j=i:=by walk_at"o"
  subst this
  exact⟨p,xs,d,rfl,np,B _ _ np hp,hd,r⟩
theorem Dg.reps{K:W.Frag}{H0 H':Hp}{c:Addr}{ls:List D}{g:D->List D}{ys:List V}(h:Dg K H0 c ls g ls.length ys H'):aG (vw K H') (ls.map fun x=>D.tup (g x)) ys:=by
 obtain⟨a,b,k⟩:=h
 refine vZ (by rw[b,List.length_map]) fun j d x h1 h2=>?_
 obtain⟨p,xs,d',rfl,_,e3,e4,e5⟩:=k j x h2
 rw[List.getElem?_map,e4] at h1
 cases h1
 exact .mk_tup e3 (e5.same a)
def sD(K:W.Frag):Sp:=fun vs H Q _=>∃ (st:Addr)(v:V)(w:Str)(fs:List (Int × Int))(r:List D)(t:Int),vs=[.ref st,v]/\dC (vw K H) st/\aF (vw K H) (.tup (.str w :: .lst (fs.map fr) :: qf r t)) v/\Pl fs/\rX r /\
 ∀ x H' e,fh st (vw K H) (vw K H')->dC (vw K H') st->e ∈ jF w fs r t->aF (vw K H') e x->Q x H'
theorem EI(F:et K "_law_bent" "_law_bent" mY f fd) (T:ff K mg)(zCtake:aU P w K mg base "_law_take" ["_law_state_here", "_law_many"] 1 (dJ K)):bU P w K mg base el 2 f fd ["_law_state_here", "_law_bar"] (sD K):=by
 have scN:=Ax.nd
 refine F.okQ Ax (fun vs H Q E h=>?_) (fun cdv A outer s H vs Q E hr h=>?_)
 ·obtain⟨_,_,_,_,_,_,rfl,_⟩:=h
  rfl
 ·obtain⟨st,v,wd,fs,rr,t,rfl,hst,hv,pf,hp,h⟩:=h
  refine⟨_,((af (aE (i:=2) scN rfl (by walk_at"a1") (ay cg (qv 1) ae (fun _ _=>rfl)))
   (af (aE (i:=3) scN rfl (by walk_at"a1") (aM (aa (qv 1) (aa (ci dP (qv 1) cy (cC (cG bO ae))) (aa (ao iK (qv 1) (aH (aa ae ac))) (aa (ao iK (aH (aa cR ac)) (ci dP (qv 1) (cC ae) cy)) (aa (ao iK (aH (aa cR ac)) (ci dP (qv 1) (cC ae) cy)) (aa (ci dP (qv 1) (cC ae) cy) (aa (hV uM (by rfl) T.b_list je (aa (qv 1) ac)) ac)))))))))
   (af (aE (i:=3) scN rfl (by walk_at"a1") (ao aV (qv 3) (cL (own:=["_law_last"]) (outs:=["_law_bar"]) (ixs:=[1]) rfl (cJ (aM (aa (ao cX ae (ay cg (qv 1) (cG bO ae) (fun _ _=>rfl))) (aa fR (aa ae (aa cR (aa (cG bO ae) ac))))))) rfl ⟨rfl,rfl,rfl,⟨rfl,trivial⟩,rfl,⟨⟨rfl,rfl,rfl,_,rfl⟩,trivial⟩⟩ (fun _ _ _ _=>⟨(ak (i:=0) (show (["_law_last", "_law_bar"]:List Str).Nodup by decide +kernel) rfl (by walk_at"a1")),cS,(ao (show fb _ _ (qC K) from iK) (ci (show uA _ (ie K) from dP) (qv 1) cy (cC (cG bO ae))) (show QE _ _ (ju K _) from aH (aa (qv 0) ac)))⟩))))
   (af (aE (i:=3) scN rfl (by walk_at"a1") (ao aV (qv 3) (cL (own:=["_law_one"]) (outs:=["_law_bar"]) (ixs:=[1]) rfl (cJ (aM (aa (ao aV (qv 2) (aM (aa (aH (aa ae (aa ae ac))) ac))) (aa (ao aV (aM (aa (aH (aa ae (aa ae ac))) ac)) (qv 2)) (aa (hV tZ (by rfl) T.b_tuple iB (aa (qv 2) ac)) (aa (ao aV (qv 2) (aM (aa (aH (aa ae (aa ae ac))) ac))) ac)))))) rfl ⟨rfl,rfl,rfl,⟨rfl,trivial⟩,rfl,⟨⟨rfl,rfl,rfl,_,rfl⟩,trivial⟩⟩ (fun _ _ _ _=>⟨(ak (i:=0) (show (["_law_one", "_law_bar"]:List Str).Nodup by decide +kernel) rfl (by walk_at"a1")),cS,(ao (show fb _ _ (qC K) from iK) (ao (show fb _ _ (qC K) from iK) (ci (show uA _ (ie K) from dP) (qv 1) cy (cC ae)) (show QE _ _ (ju K _) from aH (aa (qv 0) ac))) (ci (show uA _ (ie K) from dP) (qv 1) (cC ae) cy))⟩))))
   (af (aE (i:=3) scN rfl (by walk_at"a1") (ao aV (qv 3) (aM (aa (aH (aa (ay cg (qv 1) ae (fun _ _=>rfl)) (aa (qv 2) (aa (qv 2) (aa (ay cg (qv 1) (cG bO ae) (fun _ _=>rfl)) ac))))) (aa uC (aa (aH ac) (aa (aH (aa ae ac)) (aa (aH (aa cR (aa ae ac))) (aa (aH (aa cR (aa (aM ac) (aa ae ac)))) (aa (aH (aa cR (aa (aM ac) (aa (aM ac) (aa ae ac))))) ac))))))))))
   (af (aE (i:=3) scN rfl (by walk_at"a1") (ao aV (qv 3) (aM (aa Bn (aa cR (aa (aH (aa uC (aa (qv 2) (aa ae ac)))) ac))))))
   (ah (aq (ay cZ (qv 3) (ai zCtake (hr.mono (by walk_at"a2")) rfl (aa (qv 0) (aa ae ac))) (fun _ _=>rfl))))))))))),?_⟩
  simp only[mK,rZ,L2.start,List.map_cons,List.map_nil,List.cons_append,List.nil_append,List.replicate_succ,List.replicate_zero,List.length_cons,List.length_nil,Nat.reduceSub,Nat.reduceAdd,Nat.zero_add]
  have lr:=hp.1
  have lb:(qf rr t).length<=2:=by unfold qf;simp;walk_at"o"
  obtain⟨p,xs,rfl,hx,rx⟩:=id hv.tup_at
  obtain⟨x0,xr,rfl,r0,rx1⟩:=rx.cons_at
  obtain⟨x1,xq,rfl,r1,rq⟩:=rx1.cons_at
  obtain⟨zs,xt,rfl,rz,rt⟩:=m7 rq
  cases rt.int_at
  have lz:=rz.length
  obtain rfl:=(rA r0).mpr rfl
  obtain⟨l,ws,rfl,hl0,rw0⟩:=r1.lst_at
  have l12:=pf.2.1
  have lws:=rw0.length
  rw[List.length_map] at lws
  have gl:∀ (as:List V)(v:V),(as ++ [v]).getLast? = some v:=fun as v=>by simp
  have lst:(V.str wd :: V.ref l :: (zs ++ [V.int t])).getLast? = some (V.int t):=gl (V.str wd :: V.ref l :: zs) _
  have cut:∀ {H0:Hp}{Q0:VK},aC (vw K H) (vw K H0)->(∀ (p1:Addr) H1,vw K H0 p1=none->aC (vw K H0) (vw K H1)->vw K H1 p1=some (.tup (V.str wd :: V.ref l :: zs))->Q0 (.ref p1) H1)->ie K (.ref p) none (some (-1)) H0 Q0:=fun S0 k=>by
   refine⟨p,rfl,_,S0 _ _ hx,fun z=>?_,fun p1 H1 hp1 S1 h1=>k p1 H1 hp1 S1 ?_⟩
   ·have z:=z.2
    unfold HT.sIx at z
    simp at z
    walk_at"o"
   ·have e:gv (V.str wd :: V.ref l :: (zs ++ [V.int t])) none (some (-1))=V.str wd :: V.ref l :: zs:=by
     rw[sI]
     show ((V.str wd :: V.ref l :: zs) ++ [V.int t]).take (((V.str wd :: V.ref l :: zs) ++ [V.int t]).length - 1)=_
     rw[show ((V.str wd :: V.ref l :: zs) ++ [V.int t]).length - 1=(V.str wd :: V.ref l :: zs).length by simp,List.take_left' rfl]
    rw[e] at h1
    exact h1
  refine aW.gen fun N1 hN1=>?_
  walk_at"m"
  walk_at"vc"
  refine⟨_,hx,_,ei,hN1 _ _ ?_⟩
  have tv:∀ {σ:St}{i:Nat}{H0:Hp},aC (vw K H) (vw K H0)->σ[i]? = some (some (.ref p))->TD K σ H0 (L2.tVar i) (.tup (.str wd :: .lst (fs.map fr) :: qf rr t)):=fun S e=>gF e (aF.same S _ _ hv)
  have tf:∀ {σ:St}{i:Nat}{H0:Hp},aC (vw K H) (vw K H0)->σ[i]? = some (some (.ref l))->TD K σ H0 (L2.tVar i) (.lst (fs.map fr)):=fun S e=>gF e (aF.same S _ _ r1)
  have one:∀ {σ:St}{i j:Int}{H0:Hp},TD K σ H0 (qL K (dQ (ju K (dQ (tC (.int i)) (dQ (tC (.int j)) oV))) oV)) (.lst [fr (i,j)]):=jf (au (fB (au gG (au gG cr)) (by simp)) cr) (by simp)
  refine aW.gen fun N2 hN2=>?_
  refine oK (jf (au (tv .rfl rfl) (au (FZ (tv .rfl rfl)) (au (rO (tv .rfl rfl) (fB (au gG cr) (by simp)) (by simp <;> walk_at"o")) (au (rO (fB (au iP cr) (by simp)) (sn (tv .rfl rfl)) (by simp <;> walk_at"o")) (au (rO (fB (au iP cr) (by simp)) (sn (tv .rfl rfl)) (by simp <;> walk_at"o")) (au (sn (tv .rfl rfl)) (au (d:=.lst (.str wd :: .lst (fs.map fr) :: qf rr t)) ?_ cr))))))) (by simp)) fun v3 H3 S3 r3=>hN2 _ _ ?_
  ·intro H9 Q9 S9 k9
   obtain⟨p9,xs9,e9,hx9,rx9⟩:=(aF.same S9 _ _ hv).tup_at
   cases e9
   exact⟨_,rfl,p,rfl,xs9,hx9,fun d10 H10 hd10 S10 h10=>k9 _ H10 S10 (.mk_lst h10 (rx9.same S10))⟩
  refine aW.gen fun N3 hN3=>?_
  refine oK (jo (gF rfl r3) (es:=[.int (1 - t),.bl true,.int 2,.str "0",.int (-1)].map fun x=>D.tup ((.str wd :: .lst (fs.map fr) :: rr) ++ [x])) ?_ (by simp)) fun v4 H4 S4 r4=>hN3 _ _ ?_
  ·intro H9 Q9 S9 k9
   have S09:=S3.trans S9
   walk_at"m"
   walk_at"vc"
   refine⟨_,S09 _ _ hx,_,dc lst,_,rfl,by decide,fun b10 H10 hb10 S10 h10=>⟨b10,rfl,⟨_,.of (aN h10)⟩,fun c11 H11 hc11 S11 h11=>?_⟩⟩
   have S010:=S09.trans S10
   have rI:aG (vw K H10) [.int (1 - t),.bl true,.int 2,.str "0",.int (-1)] [V.int (1 - t),V.bl true,V.int 2,V.str "0",V.int (-1)]:=.mk_cons (by unfold aF;rfl) (.mk_cons (by unfold aF;rfl) (.mk_cons (by unfold aF;rfl) (.mk_cons (by unfold aF;rfl) (.mk_cons (by unfold aF;rfl) .mk_nil))))
   refine aY (its:=[V.int (1 - t),V.bl true,V.int 2,V.str "0",V.int (-1)]) (Dg K H10 c11 [.int (1 - t),.bl true,.int 2,.str "0",.int (-1)] fun x=>(.str wd :: .lst (fs.map fr) :: rr) ++ [x]) (fun i ys H' _ _ g=>aX (g.1 _ _ h10)) h11 ⟨S11,rfl,by simp⟩ (fun i x ys H' hi hx' h' g=>?_) (fun ys H' h' g=>?_)
   ·obtain⟨d,hd,rd⟩:=rI.get hx'
    walk_at"m"
    walk_at"vc"
    refine cut (S010.trans g.1) fun p12 H12 hp12 S12 h12=>⟨by decide,fun p13 H13 hp13 S13 h13=>⟨p12,p13,rfl,rfl,_,S13 _ _ h12,_,h13,?_,fun p14 H14 S14 h14=>?_⟩⟩
    ·have:1000<=sizeLine:=by decide
     simp
     walk_at"o"
    have S1214:=S12.trans (S13.trans S14)
    refine .mk (S1214 _ _ h') ?_ fun H15 B15 h15=>g.add hc11 S1214 (S1214 _ _ h') h14 hd (.mk_cons (by unfold aF;rfl) (.mk_cons (aF.same S010 _ _ r1) ((rz.same S010).snoc rd))) B15
    have:1000<=sizeLine:=by decide
    have:=g.2.1
    simp at hi
    walk_at"o"
   ·exact k9 _ H' (S10.trans g.1) (.mk_lst h' g.reps)
  have S04:=S3.trans S4
  refine aW.gen fun N4 hN4=>?_
  refine oK (jo (gF rfl r4) (es:=[.lst (fs.map fr ++ [fr (0,1)]),.lst (fr (0,1) :: fs.map fr),.tup (fs.map fr),.lst (fs.map fr ++ [fr (1,1)])].map fun x=>D.tup (.str wd :: x :: qf rr t)) ?_ (by simp)) fun v5 H5 S5 r5=>hN4 _ _ ?_
  ·intro H9 Q9 S9 k9
   have S09:=S04.trans S9
   refine (jf (au (jo (tf S09 rfl) one (by simp <;> walk_at"o")) (au (jo one (tf S09 rfl) (by simp <;> walk_at"o")) (au (d:=.tup (fs.map fr)) ?_ (au (jo (tf S09 rfl) one (by simp <;> walk_at"o")) cr)))) (by simp)) H9 _ .rfl fun v10 H10 S10 r10=>?_
   ·intro H19 Q19 S19 k19
    obtain⟨p9,xs9,e9,hx9,rx9⟩:=(aF.same (S09.trans S19) _ _ r1).lst_at
    cases e9
    exact⟨_,rfl,l,rfl,xs9,hx9,fun d10 H10 hd10 S10 h10=>k19 _ H10 S10 (.mk_tup h10 (rx9.same S10))⟩
   obtain⟨b10,ts,rfl,h10,rI⟩:=r10.lst_at
   have S010:=S09.trans S10
   refine⟨b10,rfl,⟨_,.of (aN h10)⟩,fun c11 H11 hc11 S11 h11=>?_⟩
   have lI:=rI.length
   simp only[List.length_cons,List.length_nil] at lI
   refine aY (its:=ts) (Dg K H10 c11 [.lst (fs.map fr ++ [fr (0,1)]),.lst (fr (0,1) :: fs.map fr),.tup (fs.map fr),.lst (fs.map fr ++ [fr (1,1)])] fun x=>.str wd :: x :: qf rr t) (fun i ys H' _ _ g=>aX (g.1 _ _ h10)) h11 ⟨S11,rfl,by simp⟩ (fun i x ys H' hi hx' h' g=>?_) (fun ys H' h' g=>?_)
   ·obtain⟨d,hd,rd⟩:=rI.get hx'
    have S0':=S010.trans g.1
    walk_at"m"
    walk_at"vc"
    simp only[ie]
    refine⟨_,rfl,p,rfl,_,S0' _ _ hx,fun z=>?_,fun p12 H12 hp12 S12 h12=>⟨by decide,fun p13 H13 hp13 S13 h13=>?_⟩⟩
    ·have z:=z.2
     unfold HT.sIx at z
     simp at z
    have c3:gv (V.str wd :: V.ref l :: (zs ++ [V.int t])) none (some 1)=[V.str wd]:=by
     have:=pO (xs:=V.str wd :: V.ref l :: (zs ++ [V.int t])) (k:=1) (by simp)
     simpa using this
    have c2:gv (V.str wd :: V.ref l :: (zs ++ [V.int t])) (some 2) none=zs ++ [V.int t]:=by
     have:=iC (xs:=V.str wd :: V.ref l :: (zs ++ [V.int t])) (k:=2) (by simp)
     simpa using this
    rw[c3] at h12
    refine⟨p12,p13,rfl,rfl,_,S13 _ _ h12,_,h13,by simp;decide,fun p14 H14 S14 h14=>?_⟩
    have S1214:=S12.trans (S13.trans S14)
    refine⟨_,rfl,p,rfl,_,(S0'.trans S1214) _ _ hx,fun z=>?_,fun p15 H15 hp15 S15 h15=>?_⟩
    ·have z:=z.1
     unfold HT.sIx at z
     simp at z
    rw[c2] at h15
    refine⟨p14,p15,rfl,rfl,_,S15 _ _ h14,_,h15,?_,fun p16 H16 S16 h16=>?_⟩
    ·have:1000<=sizeLine:=by decide
     simp
     walk_at"o"
    have S1216:=S1214.trans (S15.trans S16)
    refine .mk (S1216 _ _ h') ?_ fun H17 B17 h17=>g.add hc11 S1216 (S1216 _ _ h') h16 hd (.mk_cons (by unfold aF;rfl) (.mk_cons rd (rq.same S010))) B17
    have:1000<=sizeLine:=by decide
    have:=g.2.1
    walk_at"o"
   ·exact k9 _ H' (S10.trans g.1) (.mk_lst h' (by have:=g;rw[lI] at this;exact Dg.reps this))
  have S05:=S04.trans S5
  refine aW.gen fun N5 hN5=>?_
  refine oK (jo (gF rfl r5) (jf (au (fB (au (d:=.str wd) ?_ (au (tf S05 rfl) (au (tf S05 rfl) (au (d:=.int t) ?_ cr)))) (by simp)) (au yW (au (fB cr (by simp)) (au (fB (au gG cr) (by simp)) (au (fB (au iP (au gG cr)) (by simp)) (au (fB (au iP (au (jf cr (by simp)) (au gG cr))) (by simp)) (au (fB (au iP (au (jf cr (by simp)) (au (jf cr (by simp)) (au gG cr)))) (by simp)) cr))))))) (by simp)) (by simp)) fun v6 H6 S6 r6=>hN5 _ _ ?_
  ·intro H9 Q9 S9 k9
   walk_at"m"
   walk_at"vc"
   exact⟨_,(S05.trans S9) _ _ hx,_,eD,k9 _ _ .rfl (by unfold aF;rfl)⟩
  ·intro H9 Q9 S9 k9
   walk_at"m"
   walk_at"vc"
   exact⟨_,(S05.trans S9) _ _ hx,_,dc lst,k9 _ _ .rfl (by unfold aF;rfl)⟩
  have S06:=S05.trans S6
  refine aW.gen fun N6 hN6=>?_
  refine oK (jo (gF rfl r6) (jf (au Co (au iP (au (fB (au yW (au (tf S06 rfl) (au gG cr))) (by simp)) cr))) (by simp)) (by simp)) fun v7 H7 S7 r7=>hN6 _ _ ?_
  have r8:aF (vw K H7) (.lst (jF wd fs rr t)) v7:=r7
  have S07:=S06.trans S7
  have st7:=hst.same S07
  walk_at"m"
  walk_at"vc"
  simp only[dJ]
  refine⟨st,26,rfl,st7,by decide,by decide,fun r H8 r0 r1 B8 st8=>?_⟩
  obtain⟨j,rfl⟩ : ∃ j:Nat,r=(j:Int):=⟨r.toNat,by walk_at"o"⟩
  have r9:=r8.but B8 st7 _ _ (tN fs hp)
  obtain⟨b9,us,rfl,h9,ru9⟩:=r9.lst_at
  have lw:=ru9.length
  have hj:j<us.length:=by
   rw[lw]
   show j<26
   walk_at"o"
  obtain⟨e,he,re⟩:=ru9.get (List.getElem?_eq_getElem hj)
  exact⟨_,rfl,_,rfl,_,h9,_,ck (List.getElem?_eq_getElem hj),h _ H8 e ((fh.of S07).trans B8) st8 (List.mem_of_getElem? he) re⟩
theorem uD.parts{d:D}(h:uD d):∃ (w:Str)(fs:List (Int × Int))(r:List D)(t:Int),(w = "below" \/ w = "nought")/\Pl fs/\rX r/\d = .tup (.str w :: .lst (fs.map fr) :: qf r t):=by
 obtain⟨ds,t,bl,_,rfl⟩:=h
 obtain⟨w,fs,hw,pf,z|⟨gs,pg,z⟩⟩:=bl
 ·injection z with z
  subst z
  exact⟨w,fs,[],t,hw,pf,⟨by simp,by simp⟩,rfl⟩
 ·injection z with z
  subst z
  exact⟨w,fs,[.lst (gs.map fr)],t,hw,pf,⟨by simp,fun e he=>⟨gs,pg,List.mem_singleton.mp he⟩⟩,rfl⟩
def spLaw(K:W.Frag):Sp:=fun vs H Q _=>∃ (a:Addr)(ns:List Int),vs=[.ref a]/\kB K H a (ns.map V.int)/\ns.length<=63 /\ ∀ H',Q (.bl true) H'
theorem Fv(F:et K "law" "law" lh f fd) (T:ff K mg)
  (zCstate:aU P w K mg base "_law_state" ["_law_script", "_law_k"] 2 (ou K)) (zCfrom_case:aU P w K mg base "_law_from_case" ["_law_state_here"] 6 (iL K)) (zCsome:aU P w K mg base "_law_some" ["_law_state_here", "_law_sums_here", "_law_spot"] 8 (rD K)) (zCbent:aU P w K mg base "_law_bent" ["_law_state_here", "_law_bar"] 2 (sD K)) (C_bar_from_holds:aU P w K mg base "bar_from_holds" ["sums", "spot", "thing"] 7 (ee K)) (zCdue:aU P w K mg base "_law_due" ["_law_sums_here", "_law_spot", "_law_thing"] 7 (wC K)):bU P w K mg base el 9 f fd ["_law_script"] (spLaw K):=by
 have scN:=zP.nd
 refine F.okQ zP (fun vs H Q E h=>?_) (fun cdv A outer s H vs Q E hr h=>?_)
 ·obtain⟨a,_,rfl,_⟩:=h
  rfl
 ·obtain⟨a,ns,rfl,hS,hl,h⟩:=h
  refine⟨_,(CD (cO PassesOwn.never rfl (cI rfl T.b_range (aa (am (qq rfl) (by rfl) T.b_max Ay (aa ae (aa (am (ya rfl) (by rfl) T.b_min EH (aa (am jj (by rfl) T.b_len aQ (aa (qv 0) ac)) (aa ae ac))) ac))) ac)) (ak (i:=1) scN rfl (by walk_at"a1")) (af (aE (i:=2) scN rfl (by walk_at"a1") (ai zCstate (hr.mono (by walk_at"a2")) rfl (aa (qv 0) (aa (qv 1) ac))))
   (af (cY (ai zCfrom_case (hr.mono (by walk_at"a2")) rfl (aa (qv 2) ac)) (bJ (n:=2) rfl (ar (ak (i:=3) scN rfl (by walk_at"a1")) (ar (ak (i:=4) scN rfl (by walk_at"a1")) bI))))
   (ah (cO PassesOwn.never rfl (cI rfl T.b_range (aa ae ac)) (ak (i:=5) scN rfl (by walk_at"a1")) (af (aE (i:=6) scN rfl (by walk_at"a1") (ai zCsome (hr.mono (by walk_at"a2")) rfl (aa (qv 2) (aa (qv 3) (aa (qv 4) ac)))))
   (ah (cO PassesOwn.never rfl (cJ (aM (aa (qv 6) (aa (ai zCbent (hr.mono (by walk_at"a2")) rfl (aa (qv 2) (aa (qv 6) ac))) ac)))) (ak (i:=7) scN rfl (by walk_at"a1")) (af (aE (i:=8) scN rfl (by walk_at"a1") (ai C_bar_from_holds (hr.mono (by walk_at"a2")) rfl (aa (hV ja (by rfl) T.b_list je (aa (qv 3) ac)) (aa (qv 4) (aa (qv 7) ac)))))
   (ah (cj (QW.pt (fY (cQ (cW (am cn (by rfl) T.b_isinstance bj (aa (qv 8) (aa (dZ (v:=V.ty "bool") rfl T.b_bool rB rfl) ac))))) (ij (aL pM (qv 8) (ai zCdue (hr.mono (by walk_at"a2")) rfl (aa (qv 3) (aa (qv 4) (aa (qv 7) ac)))) (aI _))))) (ah (aq fR)) aO)))))))))))
   (ah (aq fR))),?_⟩
  walk_at"m"
  skip
  refine Af.mk (fun σ H2=>True) ?_ ?_
  ·walk_at"vc"
   refine⟨_,.inl hS.sq,?_⟩
   simp only[List.length_map]
   obtain⟨Pv,hPv⟩ : ∃ Pv:Nat->St->Hp->Prop,∀ k σ H',Pv k σ H' ↔ ∃ o1 o2 o3 o4 o5 o6 o7 o8,σ=[some (.ref a),o1,o2,o3,o4,o5,o6,o7,o8]/\aC (vw K H) (vw K H'):=⟨_,fun _ _ _=>Iff.rfl⟩
   refine⟨by repeat' split <;> walk_at"o",by repeat' split <;> walk_at"o",cc (its:=gb 0 _) Pv (fun _ _ _ _ _=>bK) ((hPv _ _ _).mpr ⟨_,_,_,_,_,_,_,_,rfl,.rfl⟩) (fun i x σ H1 hi hx pv=>?_) (fun σ H1 pv=>trivial)⟩
   obtain⟨o1,o2,o3,o4,o5,o6,o7,o8,rfl,s1⟩:=(hPv _ _ _).mp pv
   obtain⟨hi',rfl⟩:=fu hx
   refine aW.gen fun N1 hN1=>?_
   walk_at"vc"
   simp only[ou]
   walk_at"vc"
   refine⟨⟨i,by simp⟩,⟨ns,hS.same s1⟩,fun st H2 hst0 s2 st2=>hN1 _ _ ?_⟩
   refine aW.gen fun N2 hN2=>?_
   walk_at"vc"
   simp only[iL]
   refine⟨st,rfl,st2,fun p3 u y H3 qs q B3 st3 h3 l3 ry3 q1 q2 q3 hq=>⟨_,rfl,_,h3,rfl,_,_,rfl,_,_,rfl,rfl,hN2 _ _ ?_⟩⟩
   have S13:aC (vw K H1) (vw K H3):=s2.but_trans hst0 B3
   have flt:∀ {G G':Hp},aF G (fr q) y->dC G st->fh st G G'->aF G' (fr q) y:=fun r hs B=>by
    obtain⟨_,_,e,_⟩:=hs
    exact aF.flat_but e B _ _ (ce _) r
   walk_at"vc"
   obtain⟨Pw,hPw⟩ : ∃ Pw:Nat->St->Hp->Prop,∀ j σ H',Pw j σ H' ↔ ∃ o5 o6 o7 o8,σ=[some (.ref a),some (.int (0+i)),some (.ref st),some (.ref u),some y,o5,o6,o7,o8]/\fh st (vw K H3) (vw K H')/\dC (vw K H') st:=⟨_,fun _ _ _=>Iff.rfl⟩
   refine⟨by decide,by decide,cc (its:=gb 0 5) Pw (fun _ _ _ _ _=>bK) ((hPw _ _ _).mpr ⟨_,_,_,_,rfl,fun _ _ _ z=>z,st3⟩) (fun j x σ H4 hj hx' pw=>?_) (fun σ H4 pw=>?_)⟩
   ·obtain⟨o5,o6,o7,o8,rfl,B4,st4⟩:=(hPw _ _ _).mp pw
    have l4:=l3.stBut st3 B4
    have ry4:=flt ry3 st3 B4
    refine aW.gen fun N3 hN3=>?_
    walk_at"vc"
    simp only[rD]
    refine⟨st,u,y,qs,q,rfl,st4,l4,q1,q2,q3,ry4,hq,fun v5 H5 d B5 st5 r5 bl=>hN3 _ _ ?_⟩
    have l5:=l4.stBut st4 B5
    have ry5:=flt ry4 st4 B5
    obtain⟨wd,fs,r,t,hw,pf,hp,rfl⟩:=bl.parts
    walk_at"vc"
    simp only[sD]
    refine⟨st,v5,wd,fs,r,t,rfl,st5,r5,pf,hp,fun x7 H7 e7 B7 st7 he r7=>⟨by decide,fun p8 H8 hp8 S8 h8=>⟨p8,rfl,⟨_,.of (aN h8)⟩,?_⟩⟩⟩
    have l8:aP (vw K H8) u qs:=(l5.stBut st5 B7).same S8
    have ry8:=aF.same S8 _ _ (flt ry5 st5 B7)
    have gd:∀ z ∈ [v5,x7],∃ d,aF (vw K H8) d z/\nK d:=fun z hz=>by
     rcases List.mem_cons.mp hz with rfl|hz
     ·exact⟨_,aF.same S8 _ _ (r5.but B7 st5 _ _ bl.noSt),nH (t:=t) hw pf hp (by unfold jF;simp)⟩
     ·rw[List.mem_singleton.mp hz]
      exact⟨e7,aF.same S8 _ _ r7,nH hw pf hp he⟩
    obtain⟨Px,hPx⟩ : ∃ Px:Nat->St->Hp->Prop,∀ k σ H',Px k σ H' ↔ ∃ o7 o8,σ=[some (.ref a),some (.int (0+i)),some (.ref st),some (.ref u),some y,some x,some v5,o7,o8]/\aC (vw K H8) (vw K H'):=⟨_,fun _ _ _=>Iff.rfl⟩
    refine cc (its:=[v5,x7]) Px (fun k σ H' _ z=>?_) ((hPx _ _ _).mpr ⟨_,_,rfl,.rfl⟩) (fun k z σ H9 hk hz px=>?_) (fun σ H9 px=>?_)
    ·obtain⟨_,_,_,S'⟩:=(hPx _ _ _).mp z
     exact aX (S' _ _ h8)
    ·obtain⟨o7,o8,rfl,S9⟩:=(hPx _ _ _).mp px
     obtain⟨d,rd,gt⟩:=gd z (List.mem_of_getElem? hz)
     have rd9:=aF.same S9 _ _ rd
     obtain⟨ys,hys,rys⟩:=id (l8.same S9)
     refine aW.gen fun N5 hN5=>?_
     walk_at"vc"
     refine⟨ys,hys,fun c10 H10 hc10 S10 h10=>?_⟩
     simp only[ee]
     refine⟨c10,y,z,qs,q,d,rfl,⟨ys,h10,rys.same S10⟩,q1,q2,q3,aF.same (S9.trans S10) _ _ ry8,hq,aF.same S10 _ _ rd9,gt,fun t1 H11 S11 ht=>hN5 _ _ ?_⟩
     have S911:=S10.trans S11
     walk_at"vc"
     refine⟨_,rfl,gM (by decide) ?_⟩
     simp only[wC]
     refine⟨u,y,z,qs,q,d,rfl,(l8.same S9).same S911,q1,q2,q3,aF.same (S9.trans S911) _ _ ry8,hq,aF.same S911 _ _ rd9,gt,fun t2 H12 S12 ht2=>⟨rfl,gM ?_ ((hPx _ _ _).mpr ⟨_,_,rfl,S9.trans (S911.trans S12)⟩)⟩⟩
     have e:t1=t2:=Bool.eq_iff_iff.mpr (ht.trans ht2.symm)
     exact fun z=>z (by rw[e])
    ·obtain⟨o7,o8,rfl,S9⟩:=(hPx _ _ _).mp px
     exact (hPw _ _ _).mpr ⟨_,_,_,_,rfl,(((B4.trans B5).trans B7).same_trans S8).same_trans S9,(st7.same S8).same S9⟩
   ·obtain⟨o5,o6,o7,o8,rfl,B4,st4⟩:=(hPw _ _ _).mp pw
    exact (hPv _ _ _).mpr ⟨_,_,_,_,_,_,_,_,rfl,s1.trans fun b o e=>B4 _ _ (aj e hst0) (S13 _ _ e)⟩
  ·walk_at"vc"
   intro σ H2 _
   exact h H2
end
theorem all_mk{l:PySem.W.OpenLaw}{w:World}{K:W.Frag}{h:Heap}{mg:Str->Option Value}{fa f0 f1 f2 f3 f4 f5 f6 f7 f8 f9 f10 f11 f12 f13 f14 f15 f16 f17 f18 f19 f20 f21 f22 f23 f24 f25 f26 f27 f28 f29 f30 f31 f32 f33 f34 f35 f36 f37 f38 f39 f40 f41 f42 f43 f44 f45 f46 f47 f48 f49 f50 f51 f52 f53 f54 f55 f56 f57 f58 f59 f60 f61 f62 f63 f64:Addr}(X:K.In h)(G:h.Ns mainGlobals mg)(hfa:mg "law" = some (.ref fa)) (hst:l.prog.given.tree=none)
  {od0 an0 od1 an1 od2 an2 od3 an3 od4 an4 od5 an5 od6 an6 od7 an7 od8 an8 od9 an9 od10 an10 od11 an11 od12 an12 od13 an13 od14 an14 od15 an15 od16 an16 od17 an17 od18 an18 od19 an19 od20 an20 od21 an21 od22 an22 od23 an23 od24 an24 od25 an25 od26 an26 od27 an27 od28 an28 od29 an29 od30 an30 od31 an31 od32 an32 od33 an33 od34 an34 od35 an35 od36 an36 od37 an37 od38 an38 od39 an39 od40 an40 od41 an41 od42 an42 od43 an43 od44 an44 od45 an45 od46 an46 od47 an47 od48 an48 od49 an49 od50 an50 od51 an51 od52 an52 od53 an53 od54 an54 od55 an55 od56 an56 od57 an57 od58 an58 od59 an59 od60 an60 od61 an61 od62 an62 od63 an63 od64 an64:Option Addr}{sl0 sl1 sl2 sl3 sl4 sl5 sl6 sl7 sl8 sl9 sl10 sl11 sl12 sl13 sl14 sl15 sl16 sl17 sl18 sl19 sl20 sl21 sl22 sl23 sl24 sl25 sl26 sl27 sl28 sl29 sl30 sl31 sl32 sl33 sl34 sl35 sl36 sl37 sl38 sl39 sl40 sl41 sl42 sl43 sl44 sl45 sl46 sl47 sl48 sl49 sl50 sl51 sl52 sl53 sl54 sl55 sl56 sl57 sl58 sl59 sl60 sl61 sl62 sl63 sl64:Array (Option Value)}
  {oc0 kV0 dc0 pm0 cd0 ct0 oc1 kV1 dc1 pm1 cd1 ct1 oc2 kV2 dc2 pm2 cd2 ct2 oc3 kV3 dc3 pm3 cd3 ct3 oc4 kV4 dc4 pm4 cd4 ct4 oc5 kV5 dc5 pm5 cd5 ct5 oc6 kV6 dc6 pm6 cd6 ct6 oc7 kV7 dc7 pm7 cd7 ct7 oc8 kV8 dc8 pm8 cd8 ct8 oc9 kV9 dc9 pm9 cd9 ct9 oc10 kV10 dc10 pm10 cd10 ct10 oc11 kV11 dc11 pm11 cd11 ct11 oc12 kV12 dc12 pm12 cd12 ct12 oc13 kV13 dc13 pm13 cd13 ct13 oc14 kV14 dc14 pm14 cd14 ct14 oc15 kV15 dc15 pm15 cd15 ct15 oc16 kV16 dc16 pm16 cd16 ct16 oc17 kV17 dc17 pm17 cd17 ct17 oc18 kV18 dc18 pm18 cd18 ct18 oc19 kV19 dc19 pm19 cd19 ct19 oc20 kV20 dc20 pm20 cd20 ct20 oc21 kV21 dc21 pm21 cd21 ct21 oc22 kV22 dc22 pm22 cd22 ct22 oc23 kV23 dc23 pm23 cd23 ct23 oc24 kV24 dc24 pm24 cd24 ct24 oc25 kV25 dc25 pm25 cd25 ct25 oc26 kV26 dc26 pm26 cd26 ct26 oc27 kV27 dc27 pm27 cd27 ct27 oc28 kV28 dc28 pm28 cd28 ct28 oc29 kV29 dc29 pm29 cd29 ct29 oc30 kV30 dc30 pm30 cd30 ct30 oc31 kV31 dc31 pm31 cd31 ct31 oc32 kV32 dc32 pm32 cd32 ct32 oc33 kV33 dc33 pm33 cd33 ct33 oc34 kV34 dc34 pm34 cd34 ct34 oc35 kV35 dc35 pm35 cd35 ct35 oc36 kV36 dc36 pm36 cd36 ct36 oc37 kV37 dc37 pm37 cd37 ct37 oc38 kV38 dc38 pm38 cd38 ct38 oc39 kV39 dc39 pm39 cd39 ct39 oc40 kV40 dc40 pm40 cd40 ct40 oc41 kV41 dc41 pm41 cd41 ct41 oc42 kV42 dc42 pm42 cd42 ct42 oc43 kV43 dc43 pm43 cd43 ct43 oc44 kV44 dc44 pm44 cd44 ct44 oc45 kV45 dc45 pm45 cd45 ct45 oc46 kV46 dc46 pm46 cd46 ct46 oc47 kV47 dc47 pm47 cd47 ct47 oc48 kV48 dc48 pm48 cd48 ct48 oc49 kV49 dc49 pm49 cd49 ct49 oc50 kV50 dc50 pm50 cd50 ct50 oc51 kV51 dc51 pm51 cd51 ct51 oc52 kV52 dc52 pm52 cd52 ct52 oc53 kV53 dc53 pm53 cd53 ct53 oc54 kV54 dc54 pm54 cd54 ct54 oc55 kV55 dc55 pm55 cd55 ct55 oc56 kV56 dc56 pm56 cd56 ct56 oc57 kV57 dc57 pm57 cd57 ct57 oc58 kV58 dc58 pm58 cd58 ct58 oc59 kV59 dc59 pm59 cd59 ct59 oc60 kV60 dc60 pm60 cd60 ct60 oc61 kV61 dc61 pm61 cd61 ct61 oc62 kV62 dc62 pm62 cd62 ct62 oc63 kV63 dc63 pm63 cd63 ct63 oc64 kV64 dc64 pm64 cd64 ct64:Value}
  (a0:PySem.W.nsIn K mainGlobals "is_whole" = some (some (.ref f0))) (l0:K.lookup f0=some ⟨oc0,od0,.func (PySem.W.fnOf "is_whole" "is_whole" (aA gg) (aw gg) (ag gg) .none kV0 dc0 pm0 an0 cd0 ct0),sl0⟩) (c0:PySem.W.codeIn K cd0 "is_whole" = true) (k0:PySem.W.keepIn K (.ref f0)=true)
  (a1:PySem.W.nsIn K mainGlobals "greatest_divisor" = some (some (.ref f1))) (l1:K.lookup f1=some ⟨oc1,od1,.func (PySem.W.fnOf "greatest_divisor" "greatest_divisor" (aA cH) (aw cH) (ag cH) .none kV1 dc1 pm1 an1 cd1 ct1),sl1⟩) (c1:PySem.W.codeIn K cd1 "greatest_divisor" = true) (k1:PySem.W.keepIn K (.ref f1)=true)
  (a2:PySem.W.nsIn K mainGlobals "power" = some (some (.ref f2))) (l2:K.lookup f2=some ⟨oc2,od2,.func (PySem.W.fnOf "power" "power" (aA ka) (aw ka) (ag ka) .none kV2 dc2 pm2 an2 cd2 ct2),sl2⟩) (c2:PySem.W.codeIn K cd2 "power" = true) (k2:PySem.W.keepIn K (.ref f2)=true)
  (a3:PySem.W.nsIn K mainGlobals "trimmed" = some (some (.ref f3))) (l3:K.lookup f3=some ⟨oc3,od3,.func (PySem.W.fnOf "trimmed" "trimmed" (aA hZ) (aw hZ) (ag hZ) .none kV3 dc3 pm3 an3 cd3 ct3),sl3⟩) (c3:PySem.W.codeIn K cd3 "trimmed" = true) (k3:PySem.W.keepIn K (.ref f3)=true)
  (a4:PySem.W.nsIn K mainGlobals "wholes_multiplied" = some (some (.ref f4))) (l4:K.lookup f4=some ⟨oc4,od4,.func (PySem.W.fnOf "wholes_multiplied" "wholes_multiplied" (aA cE) (aw cE) (ag cE) .none kV4 dc4 pm4 an4 cd4 ct4),sl4⟩) (c4:PySem.W.codeIn K cd4 "wholes_multiplied" = true) (k4:PySem.W.keepIn K (.ref f4)=true)
  (a5:PySem.W.nsIn K mainGlobals "wholes_parted" = some (some (.ref f5))) (l5:K.lookup f5=some ⟨oc5,od5,.func (PySem.W.fnOf "wholes_parted" "wholes_parted" (aA di) (aw di) (ag di) .none kV5 dc5 pm5 an5 cd5 ct5),sl5⟩) (c5:PySem.W.codeIn K cd5 "wholes_parted" = true) (k5:PySem.W.keepIn K (.ref f5)=true)
  (a6:PySem.W.nsIn K mainGlobals "wholes_rests" = some (some (.ref f6))) (l6:K.lookup f6=some ⟨oc6,od6,.func (PySem.W.fnOf "wholes_rests" "wholes_rests" (aA dF) (aw dF) (ag dF) .none kV6 dc6 pm6 an6 cd6 ct6),sl6⟩) (c6:PySem.W.codeIn K cd6 "wholes_rests" = true) (k6:PySem.W.keepIn K (.ref f6)=true)
  (a7:PySem.W.nsIn K mainGlobals "is_fraction" = some (some (.ref f7))) (l7:K.lookup f7=some ⟨oc7,od7,.func (PySem.W.fnOf "is_fraction" "is_fraction" (aA dU) (aw dU) (ag dU) .none kV7 dc7 pm7 an7 cd7 ct7),sl7⟩) (c7:PySem.W.codeIn K cd7 "is_fraction" = true) (k7:PySem.W.keepIn K (.ref f7)=true)
  (a8:PySem.W.nsIn K mainGlobals "ratio" = some (some (.ref f8))) (l8:K.lookup f8=some ⟨oc8,od8,.func (PySem.W.fnOf "ratio" "ratio" (aA jT) (aw jT) (ag jT) .none kV8 dc8 pm8 an8 cd8 ct8),sl8⟩) (c8:PySem.W.codeIn K cd8 "ratio" = true) (k8:PySem.W.keepIn K (.ref f8)=true)
  (a9:PySem.W.nsIn K mainGlobals "times" = some (some (.ref f9))) (l9:K.lookup f9=some ⟨oc9,od9,.func (PySem.W.fnOf "times" "times" (aA jX) (aw jX) (ag jX) .none kV9 dc9 pm9 an9 cd9 ct9),sl9⟩) (c9:PySem.W.codeIn K cd9 "times" = true) (k9:PySem.W.keepIn K (.ref f9)=true)
  (a10:PySem.W.nsIn K mainGlobals "is_polynomial" = some (some (.ref f10))) (l10:K.lookup f10=some ⟨oc10,od10,.func (PySem.W.fnOf "is_polynomial" "is_polynomial" (aA dq) (aw dq) (ag dq) .none kV10 dc10 pm10 an10 cd10 ct10),sl10⟩) (c10:PySem.W.codeIn K cd10 "is_polynomial" = true) (k10:PySem.W.keepIn K (.ref f10)=true)
  (a11:PySem.W.nsIn K mainGlobals "cleared" = some (some (.ref f11))) (l11:K.lookup f11=some ⟨oc11,od11,.func (PySem.W.fnOf "cleared" "cleared" (aA gW) (aw gW) (ag gW) .none kV11 dc11 pm11 an11 cd11 ct11),sl11⟩) (c11:PySem.W.codeIn K cd11 "cleared" = true) (k11:PySem.W.keepIn K (.ref f11)=true)
  (a12:PySem.W.nsIn K mainGlobals "divided" = some (some (.ref f12))) (l12:K.lookup f12=some ⟨oc12,od12,.func (PySem.W.fnOf "divided" "divided" (aA gU) (aw gU) (ag gU) .none kV12 dc12 pm12 an12 cd12 ct12),sl12⟩) (c12:PySem.W.codeIn K cd12 "divided" = true) (k12:PySem.W.keepIn K (.ref f12)=true)
  (a13:PySem.W.nsIn K mainGlobals "multiplied" = some (some (.ref f13))) (l13:K.lookup f13=some ⟨oc13,od13,.func (PySem.W.fnOf "multiplied" "multiplied" (aA eV) (aw eV) (ag eV) .none kV13 dc13 pm13 an13 cd13 ct13),sl13⟩) (c13:PySem.W.codeIn K cd13 "multiplied" = true) (k13:PySem.W.keepIn K (.ref f13)=true)
  (a14:PySem.W.nsIn K mainGlobals "slope" = some (some (.ref f14))) (l14:K.lookup f14=some ⟨oc14,od14,.func (PySem.W.fnOf "slope" "slope" (aA j6) (aw j6) (ag j6) .none kV14 dc14 pm14 an14 cd14 ct14),sl14⟩) (c14:PySem.W.codeIn K cd14 "slope" = true) (k14:PySem.W.keepIn K (.ref f14)=true)
  (a15:PySem.W.nsIn K mainGlobals "product_rest" = some (some (.ref f15))) (l15:K.lookup f15=some ⟨oc15,od15,.func (PySem.W.fnOf "product_rest" "product_rest" (aA dI) (aw dI) (ag dI) .none kV15 dc15 pm15 an15 cd15 ct15),sl15⟩) (c15:PySem.W.codeIn K cd15 "product_rest" = true) (k15:PySem.W.keepIn K (.ref f15)=true)
  (a16:PySem.W.nsIn K mainGlobals "inverse" = some (some (.ref f16))) (l16:K.lookup f16=some ⟨oc16,od16,.func (PySem.W.fnOf "inverse" "inverse" (aA gX) (aw gX) (ag gX) .none kV16 dc16 pm16 an16 cd16 ct16),sl16⟩) (c16:PySem.W.codeIn K cd16 "inverse" = true) (k16:PySem.W.keepIn K (.ref f16)=true)
  (a17:PySem.W.nsIn K mainGlobals "worth" = some (some (.ref f17))) (l17:K.lookup f17=some ⟨oc17,od17,.func (PySem.W.fnOf "worth" "worth" (aA j7) (aw j7) (ag j7) .none kV17 dc17 pm17 an17 cd17 ct17),sl17⟩) (c17:PySem.W.codeIn K cd17 "worth" = true) (k17:PySem.W.keepIn K (.ref f17)=true)
  (a18:PySem.W.nsIn K mainGlobals "square_sum" = some (some (.ref f18))) (l18:K.lookup f18=some ⟨oc18,od18,.func (PySem.W.fnOf "square_sum" "square_sum" (aA eP) (aw eP) (ag eP) .none kV18 dc18 pm18 an18 cd18 ct18),sl18⟩) (c18:PySem.W.codeIn K cd18 "square_sum" = true) (k18:PySem.W.keepIn K (.ref f18)=true)
  (a19:PySem.W.nsIn K mainGlobals "less_spot" = some (some (.ref f19))) (l19:K.lookup f19=some ⟨oc19,od19,.func (PySem.W.fnOf "less_spot" "less_spot" (aA fI) (aw fI) (ag fI) .none kV19 dc19 pm19 an19 cd19 ct19),sl19⟩) (c19:PySem.W.codeIn K cd19 "less_spot" = true) (k19:PySem.W.keepIn K (.ref f19)=true)
  (a20:PySem.W.nsIn K mainGlobals "weights_by" = some (some (.ref f20))) (l20:K.lookup f20=some ⟨oc20,od20,.func (PySem.W.fnOf "weights_by" "weights_by" (aA eH) (aw eH) (ag eH) .none kV20 dc20 pm20 an20 cd20 ct20),sl20⟩) (c20:PySem.W.codeIn K cd20 "weights_by" = true) (k20:PySem.W.keepIn K (.ref f20)=true)
  (a21:PySem.W.nsIn K mainGlobals "met" = some (some (.ref f21))) (l21:K.lookup f21=some ⟨oc21,od21,.func (PySem.W.fnOf "met" "met" (aA qD) (aw qD) (ag qD) .none kV21 dc21 pm21 an21 cd21 ct21),sl21⟩) (c21:PySem.W.codeIn K cd21 "met" = true) (k21:PySem.W.keepIn K (.ref f21)=true)
  (a22:PySem.W.nsIn K mainGlobals "next_row" = some (some (.ref f22))) (l22:K.lookup f22=some ⟨oc22,od22,.func (PySem.W.fnOf "next_row" "next_row" (aA gf) (aw gf) (ag gf) .none kV22 dc22 pm22 an22 cd22 ct22),sl22⟩) (c22:PySem.W.codeIn K cd22 "next_row" = true) (k22:PySem.W.keepIn K (.ref f22)=true)
  (a23:PySem.W.nsIn K mainGlobals "step_rows" = some (some (.ref f23))) (l23:K.lookup f23=some ⟨oc23,od23,.func (PySem.W.fnOf "step_rows" "step_rows" (aA fG) (aw fG) (ag fG) .none kV23 dc23 pm23 an23 cd23 ct23),sl23⟩) (c23:PySem.W.codeIn K cd23 "step_rows" = true) (k23:PySem.W.keepIn K (.ref f23)=true)
  (a24:PySem.W.nsIn K mainGlobals "steps" = some (some (.ref f24))) (l24:K.lookup f24=some ⟨oc24,od24,.func (PySem.W.fnOf "steps" "steps" (aA ko) (aw ko) (ag ko) .none kV24 dc24 pm24 an24 cd24 ct24),sl24⟩) (c24:PySem.W.codeIn K cd24 "steps" = true) (k24:PySem.W.keepIn K (.ref f24)=true)
  (a25:PySem.W.nsIn K mainGlobals "furthest_step" = some (some (.ref f25))) (l25:K.lookup f25=some ⟨oc25,od25,.func (PySem.W.fnOf "furthest_step" "furthest_step" (aA du) (aw du) (ag du) .none kV25 dc25 pm25 an25 cd25 ct25),sl25⟩) (c25:PySem.W.codeIn K cd25 "furthest_step" = true) (k25:PySem.W.keepIn K (.ref f25)=true)
  (a26:PySem.W.nsIn K mainGlobals "fits" = some (some (.ref f26))) (l26:K.lookup f26=some ⟨oc26,od26,.func (PySem.W.fnOf "fits" "fits" (aA nh) (aw nh) (ag nh) .none kV26 dc26 pm26 an26 cd26 ct26),sl26⟩) (c26:PySem.W.codeIn K cd26 "fits" = true) (k26:PySem.W.keepIn K (.ref f26)=true)
  (a27:PySem.W.nsIn K mainGlobals "bars" = some (some (.ref f27))) (l27:K.lookup f27=some ⟨oc27,od27,.func (PySem.W.fnOf "bars" "bars" (aA nj) (aw nj) (ag nj) .none kV27 dc27 pm27 an27 cd27 ct27),sl27⟩) (c27:PySem.W.codeIn K cd27 "bars" = true) (k27:PySem.W.keepIn K (.ref f27)=true)
  (a28:PySem.W.nsIn K mainGlobals "nought_bar" = some (some (.ref f28))) (l28:K.lookup f28=some ⟨oc28,od28,.func (PySem.W.fnOf "nought_bar" "nought_bar" (aA eO) (aw eO) (ag eO) .none kV28 dc28 pm28 an28 cd28 ct28),sl28⟩) (c28:PySem.W.codeIn K cd28 "nought_bar" = true) (k28:PySem.W.keepIn K (.ref f28)=true)
  (a29:PySem.W.nsIn K mainGlobals "outlook" = some (some (.ref f29))) (l29:K.lookup f29=some ⟨oc29,od29,.func (PySem.W.fnOf "outlook" "outlook" (aA gT) (aw gT) (ag gT) .none kV29 dc29 pm29 an29 cd29 ct29),sl29⟩) (c29:PySem.W.codeIn K cd29 "outlook" = true) (k29:PySem.W.keepIn K (.ref f29)=true)
  (a30:PySem.W.nsIn K mainGlobals "is_bar" = some (some (.ref f30))) (l30:K.lookup f30=some ⟨oc30,od30,.func (PySem.W.fnOf "is_bar" "is_bar" (aA i3) (aw i3) (ag i3) .none kV30 dc30 pm30 an30 cd30 ct30),sl30⟩) (c30:PySem.W.codeIn K cd30 "is_bar" = true) (k30:PySem.W.keepIn K (.ref f30)=true)
  (a31:PySem.W.nsIn K mainGlobals "flock_with" = some (some (.ref f31))) (l31:K.lookup f31=some ⟨oc31,od31,.func (PySem.W.fnOf "flock_with" "flock_with" (aA eJ) (aw eJ) (ag eJ) .none kV31 dc31 pm31 an31 cd31 ct31),sl31⟩) (c31:PySem.W.codeIn K cd31 "flock_with" = true) (k31:PySem.W.keepIn K (.ref f31)=true)
  (a32:PySem.W.nsIn K mainGlobals "wholes_from" = some (some (.ref f32))) (l32:K.lookup f32=some ⟨oc32,od32,.func (PySem.W.fnOf "wholes_from" "wholes_from" (aA dY) (aw dY) (ag dY) .none kV32 dc32 pm32 an32 cd32 ct32),sl32⟩) (c32:PySem.W.codeIn K cd32 "wholes_from" = true) (k32:PySem.W.keepIn K (.ref f32)=true)
  (a33:PySem.W.nsIn K mainGlobals "sums_from" = some (some (.ref f33))) (l33:K.lookup f33=some ⟨oc33,od33,.func (PySem.W.fnOf "sums_from" "sums_from" (aA fM) (aw fM) (ag fM) .none kV33 dc33 pm33 an33 cd33 ct33),sl33⟩) (c33:PySem.W.codeIn K cd33 "sums_from" = true) (k33:PySem.W.keepIn K (.ref f33)=true)
  (a34:PySem.W.nsIn K mainGlobals "back_from" = some (some (.ref f34))) (l34:K.lookup f34=some ⟨oc34,od34,.func (PySem.W.fnOf "back_from" "back_from" (aA fL) (aw fL) (ag fL) .none kV34 dc34 pm34 an34 cd34 ct34),sl34⟩) (c34:PySem.W.codeIn K cd34 "back_from" = true) (k34:PySem.W.keepIn K (.ref f34)=true)
  (a35:PySem.W.nsIn K mainGlobals "bar_from_holds" = some (some (.ref f35))) (l35:K.lookup f35=some ⟨oc35,od35,.func (PySem.W.fnOf "bar_from_holds" "bar_from_holds" (aA cV) (aw cV) (ag cV) .none kV35 dc35 pm35 an35 cd35 ct35),sl35⟩) (c35:PySem.W.codeIn K cd35 "bar_from_holds" = true) (k35:PySem.W.keepIn K (.ref f35)=true)
  (a36:PySem.W.nsIn K mainGlobals "_law_whole" = some (some (.ref f36))) (l36:K.lookup f36=some ⟨oc36,od36,.func (PySem.W.fnOf "_law_whole" "_law_whole" (aA ke) (aw ke) (ag ke) .none kV36 dc36 pm36 an36 cd36 ct36),sl36⟩) (c36:PySem.W.codeIn K cd36 "_law_whole" = true) (k36:PySem.W.keepIn K (.ref f36)=true)
  (a37:PySem.W.nsIn K mainGlobals "_law_divisor" = some (some (.ref f37))) (l37:K.lookup f37=some ⟨oc37,od37,.func (PySem.W.fnOf "_law_divisor" "_law_divisor" (aA g9) (aw g9) (ag g9) .none kV37 dc37 pm37 an37 cd37 ct37),sl37⟩) (c37:PySem.W.codeIn K cd37 "_law_divisor" = true) (k37:PySem.W.keepIn K (.ref f37)=true)
  (a38:PySem.W.nsIn K mainGlobals "_law_is_fraction" = some (some (.ref f38))) (l38:K.lookup f38=some ⟨oc38,od38,.func (PySem.W.fnOf "_law_is_fraction" "_law_is_fraction" (aA dS) (aw dS) (ag dS) .none kV38 dc38 pm38 an38 cd38 ct38),sl38⟩) (c38:PySem.W.codeIn K cd38 "_law_is_fraction" = true) (k38:PySem.W.keepIn K (.ref f38)=true)
  (a39:PySem.W.nsIn K mainGlobals "_law_is_polynomial" = some (some (.ref f39))) (l39:K.lookup f39=some ⟨oc39,od39,.func (PySem.W.fnOf "_law_is_polynomial" "_law_is_polynomial" (aA dj) (aw dj) (ag dj) .none kV39 dc39 pm39 an39 cd39 ct39),sl39⟩) (c39:PySem.W.codeIn K cd39 "_law_is_polynomial" = true) (k39:PySem.W.keepIn K (.ref f39)=true)
  (a40:PySem.W.nsIn K mainGlobals "_law_low" = some (some (.ref f40))) (l40:K.lookup f40=some ⟨oc40,od40,.func (PySem.W.fnOf "_law_low" "_law_low" (aA qS) (aw qS) (ag qS) .none kV40 dc40 pm40 an40 cd40 ct40),sl40⟩) (c40:PySem.W.codeIn K cd40 "_law_low" = true) (k40:PySem.W.keepIn K (.ref f40)=true)
  (a41:PySem.W.nsIn K mainGlobals "_law_plus" = some (some (.ref f41))) (l41:K.lookup f41=some ⟨oc41,od41,.func (PySem.W.fnOf "_law_plus" "_law_plus" (aA mF) (aw mF) (ag mF) .none kV41 dc41 pm41 an41 cd41 ct41),sl41⟩) (c41:PySem.W.codeIn K cd41 "_law_plus" = true) (k41:PySem.W.keepIn K (.ref f41)=true)
  (a42:PySem.W.nsIn K mainGlobals "_law_times" = some (some (.ref f42))) (l42:K.lookup f42=some ⟨oc42,od42,.func (PySem.W.fnOf "_law_times" "_law_times" (aA j2) (aw j2) (ag j2) .none kV42 dc42 pm42 an42 cd42 ct42),sl42⟩) (c42:PySem.W.codeIn K cd42 "_law_times" = true) (k42:PySem.W.keepIn K (.ref f42)=true)
  (a43:PySem.W.nsIn K mainGlobals "_law_clean" = some (some (.ref f43))) (l43:K.lookup f43=some ⟨oc43,od43,.func (PySem.W.fnOf "_law_clean" "_law_clean" (aA kl) (aw kl) (ag kl) .none kV43 dc43 pm43 an43 cd43 ct43),sl43⟩) (c43:PySem.W.codeIn K cd43 "_law_clean" = true) (k43:PySem.W.keepIn K (.ref f43)=true)
  (a44:PySem.W.nsIn K mainGlobals "_law_multiplied" = some (some (.ref f44))) (l44:K.lookup f44=some ⟨oc44,od44,.func (PySem.W.fnOf "_law_multiplied" "_law_multiplied" (aA eQ) (aw eQ) (ag eQ) .none kV44 dc44 pm44 an44 cd44 ct44),sl44⟩) (c44:PySem.W.codeIn K cd44 "_law_multiplied" = true) (k44:PySem.W.keepIn K (.ref f44)=true)
  (a45:PySem.W.nsIn K mainGlobals "_law_worth" = some (some (.ref f45))) (l45:K.lookup f45=some ⟨oc45,od45,.func (PySem.W.fnOf "_law_worth" "_law_worth" (aA kc) (aw kc) (ag kc) .none kV45 dc45 pm45 an45 cd45 ct45),sl45⟩) (c45:PySem.W.codeIn K cd45 "_law_worth" = true) (k45:PySem.W.keepIn K (.ref f45)=true)
  (a46:PySem.W.nsIn K mainGlobals "_law_square" = some (some (.ref f46))) (l46:K.lookup f46=some ⟨oc46,od46,.func (PySem.W.fnOf "_law_square" "_law_square" (aA iV) (aw iV) (ag iV) .none kV46 dc46 pm46 an46 cd46 ct46),sl46⟩) (c46:PySem.W.codeIn K cd46 "_law_square" = true) (k46:PySem.W.keepIn K (.ref f46)=true)
  (a47:PySem.W.nsIn K mainGlobals "_law_is_bar" = some (some (.ref f47))) (l47:K.lookup f47=some ⟨oc47,od47,.func (PySem.W.fnOf "_law_is_bar" "_law_is_bar" (aA i6) (aw i6) (ag i6) .none kV47 dc47 pm47 an47 cd47 ct47),sl47⟩) (c47:PySem.W.codeIn K cd47 "_law_is_bar" = true) (k47:PySem.W.keepIn K (.ref f47)=true)
  (a48:PySem.W.nsIn K mainGlobals "_law_minus" = some (some (.ref f48))) (l48:K.lookup f48=some ⟨oc48,od48,.func (PySem.W.fnOf "_law_minus" "_law_minus" (aA kw) (aw kw) (ag kw) .none kV48 dc48 pm48 an48 cd48 ct48),sl48⟩) (c48:PySem.W.codeIn K cd48 "_law_minus" = true) (k48:PySem.W.keepIn K (.ref f48)=true)
  (a49:PySem.W.nsIn K mainGlobals "_law_from" = some (some (.ref f49))) (l49:K.lookup f49=some ⟨oc49,od49,.func (PySem.W.fnOf "_law_from" "_law_from" (aA mx) (aw mx) (ag mx) .none kV49 dc49 pm49 an49 cd49 ct49),sl49⟩) (c49:PySem.W.codeIn K cd49 "_law_from" = true) (k49:PySem.W.keepIn K (.ref f49)=true)
  (a50:PySem.W.nsIn K mainGlobals "_law_take" = some (some (.ref f50))) (l50:K.lookup f50=some ⟨oc50,od50,.func (PySem.W.fnOf "_law_take" "_law_take" (aA mM) (aw mM) (ag mM) .none kV50 dc50 pm50 an50 cd50 ct50),sl50⟩) (c50:PySem.W.codeIn K cd50 "_law_take" = true) (k50:PySem.W.keepIn K (.ref f50)=true)
  (a51:PySem.W.nsIn K mainGlobals "_law_small" = some (some (.ref f51))) (l51:K.lookup f51=some ⟨oc51,od51,.func (PySem.W.fnOf "_law_small" "_law_small" (aA j1) (aw j1) (ag j1) .none kV51 dc51 pm51 an51 cd51 ct51),sl51⟩) (c51:PySem.W.codeIn K cd51 "_law_small" = true) (k51:PySem.W.keepIn K (.ref f51)=true)
  (a52:PySem.W.nsIn K mainGlobals "_law_polynomial" = some (some (.ref f52))) (l52:K.lookup f52=some ⟨oc52,od52,.func (PySem.W.fnOf "_law_polynomial" "_law_polynomial" (aA eX) (aw eX) (ag eX) .none kV52 dc52 pm52 an52 cd52 ct52),sl52⟩) (c52:PySem.W.codeIn K cd52 "_law_polynomial" = true) (k52:PySem.W.keepIn K (.ref f52)=true)
  (a53:PySem.W.nsIn K mainGlobals "_law_cell_at" = some (some (.ref f53))) (l53:K.lookup f53=some ⟨oc53,od53,.func (PySem.W.fnOf "_law_cell_at" "_law_cell_at" (aA gY) (aw gY) (ag gY) .none kV53 dc53 pm53 an53 cd53 ct53),sl53⟩) (c53:PySem.W.codeIn K cd53 "_law_cell_at" = true) (k53:PySem.W.keepIn K (.ref f53)=true)
  (a54:PySem.W.nsIn K mainGlobals "_law_state" = some (some (.ref f54))) (l54:K.lookup f54=some ⟨oc54,od54,.func (PySem.W.fnOf "_law_state" "_law_state" (aA kg) (aw kg) (ag kg) .none kV54 dc54 pm54 an54 cd54 ct54),sl54⟩) (c54:PySem.W.codeIn K cd54 "_law_state" = true) (k54:PySem.W.keepIn K (.ref f54)=true)
  (a55:PySem.W.nsIn K mainGlobals "_law_crowd_sums" = some (some (.ref f55))) (l55:K.lookup f55=some ⟨oc55,od55,.func (PySem.W.fnOf "_law_crowd_sums" "_law_crowd_sums" (aA eM) (aw eM) (ag eM) .none kV55 dc55 pm55 an55 cd55 ct55),sl55⟩) (c55:PySem.W.codeIn K cd55 "_law_crowd_sums" = true) (k55:PySem.W.keepIn K (.ref f55)=true)
  (a56:PySem.W.nsIn K mainGlobals "_law_above" = some (some (.ref f56))) (l56:K.lookup f56=some ⟨oc56,od56,.func (PySem.W.fnOf "_law_above" "_law_above" (aA jV) (aw jV) (ag jV) .none kV56 dc56 pm56 an56 cd56 ct56),sl56⟩) (c56:PySem.W.codeIn K cd56 "_law_above" = true) (k56:PySem.W.keepIn K (.ref f56)=true)
  (a57:PySem.W.nsIn K mainGlobals "_law_crowd" = some (some (.ref f57))) (l57:K.lookup f57=some ⟨oc57,od57,.func (PySem.W.fnOf "_law_crowd" "_law_crowd" (aA kq) (aw kq) (ag kq) .none kV57 dc57 pm57 an57 cd57 ct57),sl57⟩) (c57:PySem.W.codeIn K cd57 "_law_crowd" = true) (k57:PySem.W.keepIn K (.ref f57)=true)
  (a58:PySem.W.nsIn K mainGlobals "_law_sums" = some (some (.ref f58))) (l58:K.lookup f58=some ⟨oc58,od58,.func (PySem.W.fnOf "_law_sums" "_law_sums" (aA ng) (aw ng) (ag ng) .none kV58 dc58 pm58 an58 cd58 ct58),sl58⟩) (c58:PySem.W.codeIn K cd58 "_law_sums" = true) (k58:PySem.W.keepIn K (.ref f58)=true)
  (a59:PySem.W.nsIn K mainGlobals "_law_spot_crowd" = some (some (.ref f59))) (l59:K.lookup f59=some ⟨oc59,od59,.func (PySem.W.fnOf "_law_spot_crowd" "_law_spot_crowd" (aA eT) (aw eT) (ag eT) .none kV59 dc59 pm59 an59 cd59 ct59),sl59⟩) (c59:PySem.W.codeIn K cd59 "_law_spot_crowd" = true) (k59:PySem.W.keepIn K (.ref f59)=true)
  (a60:PySem.W.nsIn K mainGlobals "_law_from_case" = some (some (.ref f60))) (l60:K.lookup f60=some ⟨oc60,od60,.func (PySem.W.fnOf "_law_from_case" "_law_from_case" (aA fE) (aw fE) (ag fE) .none kV60 dc60 pm60 an60 cd60 ct60),sl60⟩) (c60:PySem.W.codeIn K cd60 "_law_from_case" = true) (k60:PySem.W.keepIn K (.ref f60)=true)
  (a61:PySem.W.nsIn K mainGlobals "_law_due" = some (some (.ref f61))) (l61:K.lookup f61=some ⟨oc61,od61,.func (PySem.W.fnOf "_law_due" "_law_due" (aA qU) (aw qU) (ag qU) .none kV61 dc61 pm61 an61 cd61 ct61),sl61⟩) (c61:PySem.W.codeIn K cd61 "_law_due" = true) (k61:PySem.W.keepIn K (.ref f61)=true)
  (a62:PySem.W.nsIn K mainGlobals "_law_some" = some (some (.ref f62))) (l62:K.lookup f62=some ⟨oc62,od62,.func (PySem.W.fnOf "_law_some" "_law_some" (aA mz) (aw mz) (ag mz) .none kV62 dc62 pm62 an62 cd62 ct62),sl62⟩) (c62:PySem.W.codeIn K cd62 "_law_some" = true) (k62:PySem.W.keepIn K (.ref f62)=true)
  (a63:PySem.W.nsIn K mainGlobals "_law_bent" = some (some (.ref f63))) (l63:K.lookup f63=some ⟨oc63,od63,.func (PySem.W.fnOf "_law_bent" "_law_bent" (aA mY) (aw mY) (ag mY) .none kV63 dc63 pm63 an63 cd63 ct63),sl63⟩) (c63:PySem.W.codeIn K cd63 "_law_bent" = true) (k63:PySem.W.keepIn K (.ref f63)=true)
  (a64:PySem.W.nsIn K mainGlobals "law" = some (some (.ref f64))) (l64:K.lookup f64=some ⟨oc64,od64,.func (PySem.W.fnOf "law" "law" (aA lh) (aw lh) (ag lh) .none kV64 dc64 pm64 an64 cd64 ct64),sl64⟩) (c64:PySem.W.codeIn K cd64 "law" = true) (k64:PySem.W.keepIn K (.ref f64)=true)
  {ga0 ga1:Addr}{go0 go1:Obj}
  (u0:PySem.W.nsIn K mainGlobals "ZERO" = some (some (.ref ga0))) (v0:K.lookup ga0=some go0)(w0:uE go0=some (.tup [V.int (0),V.int (1)]))
  (u1:PySem.W.nsIn K mainGlobals "ONE" = some (some (.ref ga1))) (v1:K.lookup ga1=some go1)(w1:uE go1=some (.tup [V.int (1),V.int (1)]))
  (z0:PySem.W.nsIn K mainGlobals "isinstance" = some none)
  (z1:PySem.W.nsIn K mainGlobals "bool" = some none)
  (z2:PySem.W.nsIn K mainGlobals "int" = some none)
  (z3:PySem.W.nsIn K mainGlobals "abs" = some none)
  (z4:PySem.W.nsIn K mainGlobals "range" = some none)
  (z5:PySem.W.nsIn K mainGlobals "len" = some none)
  (z6:PySem.W.nsIn K mainGlobals "enumerate" = some none)
  (z7:PySem.W.nsIn K mainGlobals "max" = some none)
  (z8:PySem.W.nsIn K mainGlobals "list" = some none)
  (z9:PySem.W.nsIn K mainGlobals "tuple" = some none)
  (z10:PySem.W.nsIn K mainGlobals "sum" = some none)
  (z11:PySem.W.nsIn K mainGlobals "zip" = some none)
  (z12:PySem.W.nsIn K mainGlobals "str" = some none)
  (z13:PySem.W.nsIn K mainGlobals "min" = some none)
  : ∃ fd:FuncData,(∀ (s:Shared)(v:Value),BindsTo s fd ⟨[v],[]⟩ [("_law_script",v)]) /\ ∀ base:Heap,K.In base->base.Ns mainGlobals mg->vb mg base->base.NoSeer->bU l.prog w K mg base el 9 fa fd ["_law_script"] (spLaw K):=by
 have e:=hfa.symm.trans (PySem.W.mg_of X G a64)
 cases e
 have T:ff K mg:=⟨trivial,GT.mk (PySem.W.mg_of X G u0) v0 w0,GT.mk (PySem.W.mg_of X G u1) v1 w1,PySem.W.mg_none_of X G z0,PySem.W.mg_none_of X G z1,PySem.W.mg_none_of X G z2,PySem.W.mg_none_of X G z3,PySem.W.mg_none_of X G z4,PySem.W.mg_none_of X G z5,PySem.W.mg_none_of X G z6,PySem.W.mg_none_of X G z7,PySem.W.mg_none_of X G z8,PySem.W.mg_none_of X G z9,PySem.W.mg_none_of X G z10,PySem.W.mg_none_of X G z11,PySem.W.mg_none_of X G z12,PySem.W.mg_none_of X G z13⟩
 refine⟨PySem.W.fnOf "law" "law" (aA lh) (aw lh) (ag lh) .none kV64 dc64 pm64 an64 cd64 ct64,fun s v=>.of_eq rfl,fun base kb nb hB hSe=>?_⟩
 have N_:oP l.prog base:=⟨hSe,hst⟩
 have F_is_whole:=aJ (st:=gg) l0 c0 k0
 have C_is_whole:aU l.prog w K mg base "is_whole" ["thing"] 1 (fJ K):=⟨_,_,tz F_is_whole T ,PySem.W.mg_of X G a0,k0,(F_is_whole.binds fun _ _ _ _ _ _ us hl=>dN (g:=fun us=>bindArgs _ ⟨us,[]⟩) (z:=fun us=>pure (List.zip _ us)) us hl fun _=>rfl)⟩
 have F_greatest_divisor:=aJ (st:=cH) l1 c1 k1
 have C_greatest_divisor:aU l.prog w K mg base "greatest_divisor" ["one", "other"] 1 (bN K):=⟨_,_,ky F_greatest_divisor T ,PySem.W.mg_of X G a1,k1,(F_greatest_divisor.binds fun _ _ _ _ _ _ us hl=>cb (g:=fun us=>bindArgs _ ⟨us,[]⟩) (z:=fun us=>pure (List.zip _ us)) us hl fun _ _=>rfl)⟩
 have F_power:=aJ (st:=ka) l2 c2 k2
 have C_power:aU l.prog w K mg base "power" ["base", "many"] 1 (lN K):=⟨_,_,zA F_power T ,PySem.W.mg_of X G a2,k2,(F_power.binds fun _ _ _ _ _ _ us hl=>cb (g:=fun us=>bindArgs _ ⟨us,[]⟩) (z:=fun us=>pure (List.zip _ us)) us hl fun _ _=>rfl)⟩
 have F_trimmed:=aJ (st:=hZ) l3 c3 k3
 have C_trimmed:aU l.prog w K mg base "trimmed" ["numbers", "zero"] 1 (eE K):=⟨_,_,vx F_trimmed T ,PySem.W.mg_of X G a3,k3,(F_trimmed.binds fun _ _ _ _ _ _ us hl=>cb (g:=fun us=>bindArgs _ ⟨us,[]⟩) (z:=fun us=>pure (List.zip _ us)) us hl fun _ _=>rfl)⟩
 have F_wholes_multiplied:=aJ (st:=cE) l4 c4 k4
 have C_wholes_multiplied:aU l.prog w K mg base "wholes_multiplied" ["one", "other"] 1 (bA K):=⟨_,_,jN F_wholes_multiplied T ,PySem.W.mg_of X G a4,k4,(F_wholes_multiplied.binds fun _ _ _ _ _ _ us hl=>cb (g:=fun us=>bindArgs _ ⟨us,[]⟩) (z:=fun us=>pure (List.zip _ us)) us hl fun _ _=>rfl)⟩
 have F_wholes_parted:=aJ (st:=di) l5 c5 k5
 have C_wholes_parted:aU l.prog w K mg base "wholes_parted" ["one", "other"] 2 (cU K):=⟨_,_,mP F_wholes_parted T (N_:=N_) (C_trimmed:=C_trimmed),PySem.W.mg_of X G a5,k5,(F_wholes_parted.binds fun _ _ _ _ _ _ us hl=>cb (g:=fun us=>bindArgs _ ⟨us,[]⟩) (z:=fun us=>pure (List.zip _ us)) us hl fun _ _=>rfl)⟩
 have F_wholes_rests:=aJ (st:=dF) l6 c6 k6
 have C_wholes_rests:aU l.prog w K mg base "wholes_rests" ["one", "other"] 3 (fj K):=⟨_,_,nX F_wholes_rests T (N_:=N_) (C_power:=C_power) (C_wholes_parted:=C_wholes_parted),PySem.W.mg_of X G a6,k6,(F_wholes_rests.binds fun _ _ _ _ _ _ us hl=>cb (g:=fun us=>bindArgs _ ⟨us,[]⟩) (z:=fun us=>pure (List.zip _ us)) us hl fun _ _=>rfl)⟩
 have F_is_fraction:=aJ (st:=dU) l7 c7 k7
 have C_is_fraction:aU l.prog w K mg base "is_fraction" ["thing"] 2 (fP K):=⟨_,_,pp F_is_fraction T (C_greatest_divisor:=C_greatest_divisor) (C_is_whole:=C_is_whole),PySem.W.mg_of X G a7,k7,(F_is_fraction.binds fun _ _ _ _ _ _ us hl=>dN (g:=fun us=>bindArgs _ ⟨us,[]⟩) (z:=fun us=>pure (List.zip _ us)) us hl fun _=>rfl)⟩
 have F_ratio:=aJ (st:=jT) l8 c8 k8
 have C_ratio:aU l.prog w K mg base "ratio" ["top", "bottom"] 2 (eC K):=⟨_,_,zy F_ratio T (N_:=N_) (C_greatest_divisor:=C_greatest_divisor),PySem.W.mg_of X G a8,k8,(F_ratio.binds fun _ _ _ _ _ _ us hl=>cb (g:=fun us=>bindArgs _ ⟨us,[]⟩) (z:=fun us=>pure (List.zip _ us)) us hl fun _ _=>rfl)⟩
 have F_times:=aJ (st:=jX) l9 c9 k9
 have C_times:aU l.prog w K mg base "times" ["one", "other"] 3 (lM K):=⟨_,_,AF F_times T (C_ratio:=C_ratio),PySem.W.mg_of X G a9,k9,(F_times.binds fun _ _ _ _ _ _ us hl=>cb (g:=fun us=>bindArgs _ ⟨us,[]⟩) (z:=fun us=>pure (List.zip _ us)) us hl fun _ _=>rfl)⟩
 have F_is_polynomial:=aJ (st:=dq) l10 c10 k10
 have C_is_polynomial:aU l.prog w K mg base "is_polynomial" ["thing"] 3 (cT K):=⟨_,_,mS F_is_polynomial T (C_is_fraction:=C_is_fraction),PySem.W.mg_of X G a10,k10,(F_is_polynomial.binds fun _ _ _ _ _ _ us hl=>dN (g:=fun us=>bindArgs _ ⟨us,[]⟩) (z:=fun us=>pure (List.zip _ us)) us hl fun _=>rfl)⟩
 have F_cleared:=aJ (st:=gW) l11 c11 k11
 have C_cleared:aU l.prog w K mg base "cleared" ["f"] 2 (bC K):=⟨_,_,vd F_cleared T (N_:=N_) (C_greatest_divisor:=C_greatest_divisor),PySem.W.mg_of X G a11,k11,(F_cleared.binds fun _ _ _ _ _ _ us hl=>dN (g:=fun us=>bindArgs _ ⟨us,[]⟩) (z:=fun us=>pure (List.zip _ us)) us hl fun _=>rfl)⟩
 have F_divided:=aJ (st:=gU) l12 c12 k12
 have C_divided:aU l.prog w K mg base "divided" ["wholes", "bottom"] 3 (da K):=⟨_,_,vB F_divided T (C_trimmed:=C_trimmed) (C_ratio:=C_ratio),PySem.W.mg_of X G a12,k12,(F_divided.binds fun _ _ _ _ _ _ us hl=>cb (g:=fun us=>bindArgs _ ⟨us,[]⟩) (z:=fun us=>pure (List.zip _ us)) us hl fun _ _=>rfl)⟩
 have F_multiplied:=aJ (st:=eV) l13 c13 k13
 have C_multiplied:aU l.prog w K mg base "multiplied" ["f", "g"] 4 (dW K):=⟨_,_,pX F_multiplied T (C_divided:=C_divided) (C_wholes_multiplied:=C_wholes_multiplied) (C_cleared:=C_cleared),PySem.W.mg_of X G a13,k13,(F_multiplied.binds fun _ _ _ _ _ _ us hl=>cb (g:=fun us=>bindArgs _ ⟨us,[]⟩) (z:=fun us=>pure (List.zip _ us)) us hl fun _ _=>rfl)⟩
 have F_slope:=aJ (st:=j6) l14 c14 k14
 have C_slope:aU l.prog w K mg base "slope" ["f"] 4 (lH K):=⟨_,_,yN F_slope T (C_times:=C_times),PySem.W.mg_of X G a14,k14,(F_slope.binds fun _ _ _ _ _ _ us hl=>dN (g:=fun us=>bindArgs _ ⟨us,[]⟩) (z:=fun us=>pure (List.zip _ us)) us hl fun _=>rfl)⟩
 have F_product_rest:=aJ (st:=dI) l15 c15 k15
 have C_product_rest:aU l.prog w K mg base "product_rest" ["f", "g", "other"] 4 (fz K):=⟨_,_,nW F_product_rest T (C_divided:=C_divided) (C_wholes_parted:=C_wholes_parted) (C_cleared:=C_cleared) (C_wholes_multiplied:=C_wholes_multiplied),PySem.W.mg_of X G a15,k15,(F_product_rest.binds fun _ _ _ _ _ _ us hl=>jg (g:=fun us=>bindArgs _ ⟨us,[]⟩) (z:=fun us=>pure (List.zip _ us)) us hl fun _ _ _=>rfl)⟩
 have F_inverse:=aJ (st:=gX) l16 c16 k16
 have C_inverse:aU l.prog w K mg base "inverse" ["f", "g"] 4 (jk K):=⟨_,_,vo F_inverse T (N_:=N_) (C_divided:=C_divided) (C_wholes_rests:=C_wholes_rests) (C_cleared:=C_cleared) (C_wholes_multiplied:=C_wholes_multiplied),PySem.W.mg_of X G a16,k16,(F_inverse.binds fun _ _ _ _ _ _ us hl=>cb (g:=fun us=>bindArgs _ ⟨us,[]⟩) (z:=fun us=>pure (List.zip _ us)) us hl fun _ _=>rfl)⟩
 have F_worth:=aJ (st:=j7) l17 c17 k17
 have C_worth:aU l.prog w K mg base "worth" ["sums", "f"] 3 (gx K):=⟨_,_,AO F_worth T (C_ratio:=C_ratio) (C_cleared:=C_cleared),PySem.W.mg_of X G a17,k17,(F_worth.binds fun _ _ _ _ _ _ us hl=>cb (g:=fun us=>bindArgs _ ⟨us,[]⟩) (z:=fun us=>pure (List.zip _ us)) us hl fun _ _=>rfl)⟩
 have F_square_sum:=aJ (st:=eP) l18 c18 k18
 have C_square_sum:aU l.prog w K mg base "square_sum" ["sums", "f", "g"] 5 (dR K):=⟨_,_,ql F_square_sum T (C_worth:=C_worth) (C_multiplied:=C_multiplied),PySem.W.mg_of X G a18,k18,(F_square_sum.binds fun _ _ _ _ _ _ us hl=>jg (g:=fun us=>bindArgs _ ⟨us,[]⟩) (z:=fun us=>pure (List.zip _ us)) us hl fun _ _ _=>rfl)⟩
 have F_less_spot:=aJ (st:=fI) l19 c19 k19
 have C_less_spot:aU l.prog w K mg base "less_spot" ["spot"] 1 (gQ K):=⟨_,_,sA F_less_spot T ,PySem.W.mg_of X G a19,k19,(F_less_spot.binds fun _ _ _ _ _ _ us hl=>dN (g:=fun us=>bindArgs _ ⟨us,[]⟩) (z:=fun us=>pure (List.zip _ us)) us hl fun _=>rfl)⟩
 have F_weights_by:=aJ (st:=eH) l20 c20 k20
 have C_weights_by:aU l.prog w K mg base "weights_by" ["above", "roots"] 5 (gj K):=⟨_,_,qc F_weights_by T (C_product_rest:=C_product_rest) (C_inverse:=C_inverse) (C_slope:=C_slope),PySem.W.mg_of X G a20,k20,(F_weights_by.binds fun _ _ _ _ _ _ us hl=>cb (g:=fun us=>bindArgs _ ⟨us,[]⟩) (z:=fun us=>pure (List.zip _ us)) us hl fun _ _=>rfl)⟩
 have F_met:=aJ (st:=qD) l21 c21 k21
 have C_met:aU l.prog w K mg base "met" ["wholes", "row", "k"] 1 (pS K):=⟨_,_,DQ F_met T ,PySem.W.mg_of X G a21,k21,(F_met.binds fun _ _ _ _ _ _ us hl=>jg (g:=fun us=>bindArgs _ ⟨us,[]⟩) (z:=fun us=>pure (List.zip _ us)) us hl fun _ _ _=>rfl)⟩
 have F_next_row:=aJ (st:=gf) l22 c22 k22
 have C_next_row:aU l.prog w K mg base "next_row" ["wholes", "row", "before"] 2 (jH K):=⟨_,_,tG F_next_row T (C_met:=C_met),PySem.W.mg_of X G a22,k22,(F_next_row.binds fun _ _ _ _ _ _ us hl=>jg (g:=fun us=>bindArgs _ ⟨us,[]⟩) (z:=fun us=>pure (List.zip _ us)) us hl fun _ _ _=>rfl)⟩
 have F_step_rows:=aJ (st:=fG) l23 c23 k23
 have C_step_rows:aU l.prog w K mg base "step_rows" ["wholes"] 3 (fV K):=⟨_,_,rH F_step_rows T (C_met:=C_met) (C_next_row:=C_next_row),PySem.W.mg_of X G a23,k23,(F_step_rows.binds fun _ _ _ _ _ _ us hl=>dN (g:=fun us=>bindArgs _ ⟨us,[]⟩) (z:=fun us=>pure (List.zip _ us)) us hl fun _=>rfl)⟩
 have F_steps:=aJ (st:=ko) l24 c24 k24
 have C_steps:aU l.prog w K mg base "steps" ["sums"] 4 (mf K):=⟨_,_,yO F_steps T (C_step_rows:=C_step_rows) (C_ratio:=C_ratio) (C_met:=C_met) (C_divided:=C_divided) (C_cleared:=C_cleared),PySem.W.mg_of X G a24,k24,(F_steps.binds fun _ _ _ _ _ _ us hl=>dN (g:=fun us=>bindArgs _ ⟨us,[]⟩) (z:=fun us=>pure (List.zip _ us)) us hl fun _=>rfl)⟩
 have F_furthest_step:=aJ (st:=du) l25 c25 k25
 have C_furthest_step:aU l.prog w K mg base "furthest_step" ["sums"] 4 (eS K):=⟨_,_,mV F_furthest_step T (C_divided:=C_divided) (C_step_rows:=C_step_rows) (C_cleared:=C_cleared),PySem.W.mg_of X G a25,k25,(F_furthest_step.binds fun _ _ _ _ _ _ us hl=>dN (g:=fun us=>bindArgs _ ⟨us,[]⟩) (z:=fun us=>pure (List.zip _ us)) us hl fun _=>rfl)⟩
 have F_fits:=aJ (st:=nh) l26 c26 k26
 have C_fits:aU l.prog w K mg base "fits" ["sums", "f", "g"] 1 (kx K):=⟨_,_,Bg F_fits T ,PySem.W.mg_of X G a26,k26,(F_fits.binds fun _ _ _ _ _ _ us hl=>jg (g:=fun us=>bindArgs _ ⟨us,[]⟩) (z:=fun us=>pure (List.zip _ us)) us hl fun _ _ _=>rfl)⟩
 have F_bars:=aJ (st:=nj) l27 c27 k27
 have C_bars:aU l.prog w K mg base "bars" ["sums", "thing"] 6 (lQ K):=⟨_,_,BX F_bars T (C_square_sum:=C_square_sum) (C_fits:=C_fits) (C_is_polynomial:=C_is_polynomial),PySem.W.mg_of X G a27,k27,(F_bars.binds fun _ _ _ _ _ _ us hl=>cb (g:=fun us=>bindArgs _ ⟨us,[]⟩) (z:=fun us=>pure (List.zip _ us)) us hl fun _ _=>rfl)⟩
 have F_nought_bar:=aJ (st:=eO) l28 c28 k28
 have C_nought_bar:aU l.prog w K mg base "nought_bar" ["sums", "step"] 4 (gn K):=⟨_,_,pY F_nought_bar T (C_worth:=C_worth),PySem.W.mg_of X G a28,k28,(F_nought_bar.binds fun _ _ _ _ _ _ us hl=>cb (g:=fun us=>bindArgs _ ⟨us,[]⟩) (z:=fun us=>pure (List.zip _ us)) us hl fun _ _=>rfl)⟩
 have F_outlook:=aJ (st:=gT) l29 c29 k29
 have C_outlook:aU l.prog w K mg base "outlook" ["sums"] 5 (iD K):=⟨_,_,vF F_outlook T (C_furthest_step:=C_furthest_step) (C_nought_bar:=C_nought_bar) (C_steps:=C_steps),PySem.W.mg_of X G a29,k29,(F_outlook.binds fun _ _ _ _ _ _ us hl=>dN (g:=fun us=>bindArgs _ ⟨us,[]⟩) (z:=fun us=>pure (List.zip _ us)) us hl fun _=>rfl)⟩
 have F_is_bar:=aJ (st:=i3) l30 c30 k30
 have C_is_bar:aU l.prog w K mg base "is_bar" ["told"] 1 (i0 K):=⟨_,_,xH F_is_bar T ,PySem.W.mg_of X G a30,k30,(F_is_bar.binds fun _ _ _ _ _ _ us hl=>dN (g:=fun us=>bindArgs _ ⟨us,[]⟩) (z:=fun us=>pure (List.zip _ us)) us hl fun _=>rfl)⟩
 have F_flock_with:=aJ (st:=eJ) l31 c31 k31
 have C_flock_with:aU l.prog w K mg base "flock_with" ["sums", "roots"] 6 (gp K):=⟨_,_,pZ F_flock_with T (C_weights_by:=C_weights_by) (C_trimmed:=C_trimmed) (C_worth:=C_worth),PySem.W.mg_of X G a31,k31,(F_flock_with.binds fun _ _ _ _ _ _ us hl=>cb (g:=fun us=>bindArgs _ ⟨us,[]⟩) (z:=fun us=>pure (List.zip _ us)) us hl fun _ _=>rfl)⟩
 have F_wholes_from:=aJ (st:=dY) l32 c32 k32
 have C_wholes_from:aU l.prog w K mg base "wholes_from" ["wholes", "spot"] 1 (fU K):=⟨_,_,ph F_wholes_from T ,PySem.W.mg_of X G a32,k32,(F_wholes_from.binds fun _ _ _ _ _ _ us hl=>cb (g:=fun us=>bindArgs _ ⟨us,[]⟩) (z:=fun us=>pure (List.zip _ us)) us hl fun _ _=>rfl)⟩
 have F_sums_from:=aJ (st:=fM) l33 c33 k33
 have C_sums_from:aU l.prog w K mg base "sums_from" ["sums", "spot"] 3 (eI K):=⟨_,_,sk F_sums_from T (C_wholes_from:=C_wholes_from) (C_ratio:=C_ratio) (C_cleared:=C_cleared),PySem.W.mg_of X G a33,k33,(F_sums_from.binds fun _ _ _ _ _ _ us hl=>cb (g:=fun us=>bindArgs _ ⟨us,[]⟩) (z:=fun us=>pure (List.zip _ us)) us hl fun _ _=>rfl)⟩
 have F_back_from:=aJ (st:=fL) l34 c34 k34
 have C_back_from:aU l.prog w K mg base "back_from" ["sums", "spot"] 7 (gJ K):=⟨_,_,rp F_back_from T (C_flock_with:=C_flock_with) (C_multiplied:=C_multiplied) (C_less_spot:=C_less_spot) (C_is_bar:=C_is_bar) (C_outlook:=C_outlook) (C_sums_from:=C_sums_from),PySem.W.mg_of X G a34,k34,(F_back_from.binds fun _ _ _ _ _ _ us hl=>cb (g:=fun us=>bindArgs _ ⟨us,[]⟩) (z:=fun us=>pure (List.zip _ us)) us hl fun _ _=>rfl)⟩
 have F_bar_from_holds:=aJ (st:=cV) l35 c35 k35
 have C_bar_from_holds:aU l.prog w K mg base "bar_from_holds" ["sums", "spot", "thing"] 7 (ee K):=⟨_,_,lD F_bar_from_holds T (C_bars:=C_bars) (C_sums_from:=C_sums_from) (C_is_whole:=C_is_whole),PySem.W.mg_of X G a35,k35,(F_bar_from_holds.binds fun _ _ _ _ _ _ us hl=>jg (g:=fun us=>bindArgs _ ⟨us,[]⟩) (z:=fun us=>pure (List.zip _ us)) us hl fun _ _ _=>rfl)⟩
 have zFwhole:=aJ (st:=ke) l36 c36 k36
 have zCwhole:aU l.prog w K mg base "_law_whole" ["_law_thing"] 1 (jU K):=⟨_,_,BF zFwhole T ,PySem.W.mg_of X G a36,k36,(zFwhole.binds fun _ _ _ _ _ _ us hl=>dN (g:=fun us=>bindArgs _ ⟨us,[]⟩) (z:=fun us=>pure (List.zip _ us)) us hl fun _=>rfl)⟩
 have zFdivisor:=aJ (st:=g9) l37 c37 k37
 have zCdivisor:aU l.prog w K mg base "_law_divisor" ["_law_one", "_law_other"] 1 (hJ K):=⟨_,_,yj zFdivisor T ,PySem.W.mg_of X G a37,k37,(zFdivisor.binds fun _ _ _ _ _ _ us hl=>cb (g:=fun us=>bindArgs _ ⟨us,[]⟩) (z:=fun us=>pure (List.zip _ us)) us hl fun _ _=>rfl)⟩
 have zFis_fraction:=aJ (st:=dS) l38 c38 k38
 have zCis_fraction:aU l.prog w K mg base "_law_is_fraction" ["_law_thing"] 2 (gk K):=⟨_,_,qi zFis_fraction T (zCdivisor:=zCdivisor) (zCwhole:=zCwhole),PySem.W.mg_of X G a38,k38,(zFis_fraction.binds fun _ _ _ _ _ _ us hl=>dN (g:=fun us=>bindArgs _ ⟨us,[]⟩) (z:=fun us=>pure (List.zip _ us)) us hl fun _=>rfl)⟩
 have zFis_polynomial:=aJ (st:=dj) l39 c39 k39
 have zCis_polynomial:aU l.prog w K mg base "_law_is_polynomial" ["_law_thing"] 3 (fg K):=⟨_,_,nZ zFis_polynomial T (zCis_fraction:=zCis_fraction),PySem.W.mg_of X G a39,k39,(zFis_polynomial.binds fun _ _ _ _ _ _ us hl=>dN (g:=fun us=>bindArgs _ ⟨us,[]⟩) (z:=fun us=>pure (List.zip _ us)) us hl fun _=>rfl)⟩
 have zFlow:=aJ (st:=qS) l40 c40 k40
 have zClow:aU l.prog w K mg base "_law_low" ["_law_top", "_law_bottom"] 2 (jr K):=⟨_,_,FV zFlow T (N_:=N_) (zCdivisor:=zCdivisor),PySem.W.mg_of X G a40,k40,(zFlow.binds fun _ _ _ _ _ _ us hl=>cb (g:=fun us=>bindArgs _ ⟨us,[]⟩) (z:=fun us=>pure (List.zip _ us)) us hl fun _ _=>rfl)⟩
 have zFplus:=aJ (st:=mF) l41 c41 k41
 have zCplus:aU l.prog w K mg base "_law_plus" ["_law_one", "_law_other"] 3 (fX K):=⟨_,_,Eu zFplus T (zClow:=zClow),PySem.W.mg_of X G a41,k41,(zFplus.binds fun _ _ _ _ _ _ us hl=>cb (g:=fun us=>bindArgs _ ⟨us,[]⟩) (z:=fun us=>pure (List.zip _ us)) us hl fun _ _=>rfl)⟩
 have zFtimes:=aJ (st:=j2) l42 c42 k42
 have zCtimes:aU l.prog w K mg base "_law_times" ["_law_one", "_law_other"] 3 (gm K):=⟨_,_,By zFtimes T (zClow:=zClow),PySem.W.mg_of X G a42,k42,(zFtimes.binds fun _ _ _ _ _ _ us hl=>cb (g:=fun us=>bindArgs _ ⟨us,[]⟩) (z:=fun us=>pure (List.zip _ us)) us hl fun _ _=>rfl)⟩
 have zFclean:=aJ (st:=kl) l43 c43 k43
 have zCclean:aU l.prog w K mg base "_law_clean" ["_law_numbers"] 1 (mr K):=⟨_,_,CO zFclean T ,PySem.W.mg_of X G a43,k43,(zFclean.binds fun _ _ _ _ _ _ us hl=>dN (g:=fun us=>bindArgs _ ⟨us,[]⟩) (z:=fun us=>pure (List.zip _ us)) us hl fun _=>rfl)⟩
 have zFmultiplied:=aJ (st:=eQ) l44 c44 k44
 have zCmultiplied:aU l.prog w K mg base "_law_multiplied" ["_law_f", "_law_g"] 4 (dL K):=⟨_,_,rS zFmultiplied T (zCclean:=zCclean) (zCplus:=zCplus) (zCtimes:=zCtimes),PySem.W.mg_of X G a44,k44,(zFmultiplied.binds fun _ _ _ _ _ _ us hl=>cb (g:=fun us=>bindArgs _ ⟨us,[]⟩) (z:=fun us=>pure (List.zip _ us)) us hl fun _ _=>rfl)⟩
 have zFworth:=aJ (st:=kc) l45 c45 k45
 have zCworth:aU l.prog w K mg base "_law_worth" ["_law_sums_here", "_law_f"] 4 (oo K):=⟨_,_,CC zFworth T (zCplus:=zCplus) (zCtimes:=zCtimes),PySem.W.mg_of X G a45,k45,(zFworth.binds fun _ _ _ _ _ _ us hl=>cb (g:=fun us=>bindArgs _ ⟨us,[]⟩) (z:=fun us=>pure (List.zip _ us)) us hl fun _ _=>rfl)⟩
 have zFsquare:=aJ (st:=iV) l46 c46 k46
 have zCsquare:aU l.prog w K mg base "_law_square" ["_law_sums_here", "_law_f", "_law_g"] 5 (jJ K):=⟨_,_,Ag zFsquare T (zCworth:=zCworth) (zCmultiplied:=zCmultiplied),PySem.W.mg_of X G a46,k46,(zFsquare.binds fun _ _ _ _ _ _ us hl=>jg (g:=fun us=>bindArgs _ ⟨us,[]⟩) (z:=fun us=>pure (List.zip _ us)) us hl fun _ _ _=>rfl)⟩
 have zFis_bar:=aJ (st:=i6) l47 c47 k47
 have zCis_bar:aU l.prog w K mg base "_law_is_bar" ["_law_sums_here", "_law_thing"] 6 (jL K):=⟨_,_,yF zFis_bar T (zCsquare:=zCsquare) (zCmultiplied:=zCmultiplied) (zCis_polynomial:=zCis_polynomial),PySem.W.mg_of X G a47,k47,(zFis_bar.binds fun _ _ _ _ _ _ us hl=>cb (g:=fun us=>bindArgs _ ⟨us,[]⟩) (z:=fun us=>pure (List.zip _ us)) us hl fun _ _=>rfl)⟩
 have zFminus:=aJ (st:=kw) l48 c48 k48
 have zCminus:aU l.prog w K mg base "_law_minus" ["_law_one", "_law_other"] 3 (jZ K):=⟨_,_,Cw zFminus T (zClow:=zClow),PySem.W.mg_of X G a48,k48,(zFminus.binds fun _ _ _ _ _ _ us hl=>cb (g:=fun us=>bindArgs _ ⟨us,[]⟩) (z:=fun us=>pure (List.zip _ us)) us hl fun _ _=>rfl)⟩
 have zFfrom:=aJ (st:=mx) l49 c49 k49
 have zCfrom:aU l.prog w K mg base "_law_from" ["_law_sums_here", "_law_spot"] 4 (rJ K):=⟨_,_,FA zFfrom T (zCminus:=zCminus) (zCtimes:=zCtimes),PySem.W.mg_of X G a49,k49,(zFfrom.binds fun _ _ _ _ _ _ us hl=>cb (g:=fun us=>bindArgs _ ⟨us,[]⟩) (z:=fun us=>pure (List.zip _ us)) us hl fun _ _=>rfl)⟩
 have zFtake:=aJ (st:=mM) l50 c50 k50
 have zCtake:aU l.prog w K mg base "_law_take" ["_law_state_here", "_law_many"] 1 (dJ K):=⟨_,_,D5 zFtake T ,PySem.W.mg_of X G a50,k50,(zFtake.binds fun _ _ _ _ _ _ us hl=>cb (g:=fun us=>bindArgs _ ⟨us,[]⟩) (z:=fun us=>pure (List.zip _ us)) us hl fun _ _=>rfl)⟩
 have zFsmall:=aJ (st:=j1) l51 c51 k51
 have zCsmall:aU l.prog w K mg base "_law_small" ["_law_state_here"] 3 (dO K):=⟨_,_,Cg zFsmall T (zClow:=zClow) (zCtake:=zCtake),PySem.W.mg_of X G a51,k51,(zFsmall.binds fun _ _ _ _ _ _ us hl=>dN (g:=fun us=>bindArgs _ ⟨us,[]⟩) (z:=fun us=>pure (List.zip _ us)) us hl fun _=>rfl)⟩
 have zFpolynomial:=aJ (st:=eX) l52 c52 k52
 have zCpolynomial:aU l.prog w K mg base "_law_polynomial" ["_law_state_here", "_law_most"] 4 (gN K):=⟨_,_,rK zFpolynomial T (zCclean:=zCclean) (zCtake:=zCtake) (zCsmall:=zCsmall),PySem.W.mg_of X G a52,k52,(zFpolynomial.binds fun _ _ _ _ _ _ us hl=>cb (g:=fun us=>bindArgs _ ⟨us,[]⟩) (z:=fun us=>pure (List.zip _ us)) us hl fun _ _=>rfl)⟩
 have zFcell_at:=aJ (st:=gY) l53 c53 k53
 have zCcell_at:aU l.prog w K mg base "_law_cell_at" ["_law_script", "_law_k"] 1 (kh K):=⟨_,_,xM zFcell_at T ,PySem.W.mg_of X G a53,k53,(zFcell_at.binds fun _ _ _ _ _ _ us hl=>cb (g:=fun us=>bindArgs _ ⟨us,[]⟩) (z:=fun us=>pure (List.zip _ us)) us hl fun _ _=>rfl)⟩
 have zFstate:=aJ (st:=kg) l54 c54 k54
 have zCstate:aU l.prog w K mg base "_law_state" ["_law_script", "_law_k"] 2 (ou K):=⟨_,_,CY zFstate T (zCcell_at:=zCcell_at),PySem.W.mg_of X G a54,k54,(zFstate.binds fun _ _ _ _ _ _ us hl=>cb (g:=fun us=>bindArgs _ ⟨us,[]⟩) (z:=fun us=>pure (List.zip _ us)) us hl fun _ _=>rfl)⟩
 have zFcrowd_sums:=aJ (st:=eM) l55 c55 k55
 have zCcrowd_sums:aU l.prog w K mg base "_law_crowd_sums" ["_law_crowd_here", "_law_many"] 4 (eK K):=⟨_,_,sJ zFcrowd_sums T (zCtimes:=zCtimes) (zCplus:=zCplus),PySem.W.mg_of X G a55,k55,(zFcrowd_sums.binds fun _ _ _ _ _ _ us hl=>cb (g:=fun us=>bindArgs _ ⟨us,[]⟩) (z:=fun us=>pure (List.zip _ us)) us hl fun _ _=>rfl)⟩
 have zFabove:=aJ (st:=jV) l56 c56 k56
 have zCabove:aU l.prog w K mg base "_law_above" ["_law_state_here"] 3 (iM K):=⟨_,_,Ck zFabove T (zClow:=zClow) (zCtake:=zCtake),PySem.W.mg_of X G a56,k56,(zFabove.binds fun _ _ _ _ _ _ us hl=>dN (g:=fun us=>bindArgs _ ⟨us,[]⟩) (z:=fun us=>pure (List.zip _ us)) us hl fun _=>rfl)⟩
 have zFcrowd:=aJ (st:=kq) l57 c57 k57
 have zCcrowd:aU l.prog w K mg base "_law_crowd" ["_law_state_here", "_law_most"] 4 (jW K):=⟨_,_,A4 zFcrowd T (zCtake:=zCtake) (zCplus:=zCplus) (zCabove:=zCabove) (zCsmall:=zCsmall),PySem.W.mg_of X G a57,k57,(zFcrowd.binds fun _ _ _ _ _ _ us hl=>cb (g:=fun us=>bindArgs _ ⟨us,[]⟩) (z:=fun us=>pure (List.zip _ us)) us hl fun _ _=>rfl)⟩
 have zFsums:=aJ (st:=ng) l58 c58 k58
 have zCsums:aU l.prog w K mg base "_law_sums" ["_law_state_here"] 5 (rL K):=⟨_,_,E5 zFsums T (zCplus:=zCplus) (zCsmall:=zCsmall) (zCtake:=zCtake) (zCcrowd_sums:=zCcrowd_sums) (zCcrowd:=zCcrowd),PySem.W.mg_of X G a58,k58,(zFsums.binds fun _ _ _ _ _ _ us hl=>dN (g:=fun us=>bindArgs _ ⟨us,[]⟩) (z:=fun us=>pure (List.zip _ us)) us hl fun _=>rfl)⟩
 have zFspot_crowd:=aJ (st:=eT) l59 c59 k59
 have zCspot_crowd:aU l.prog w K mg base "_law_spot_crowd" ["_law_state_here", "_law_most"] 5 (gK K):=⟨_,_,se zFspot_crowd T (zCabove:=zCabove) (zCsmall:=zCsmall) (zCcrowd:=zCcrowd),PySem.W.mg_of X G a59,k59,(zFspot_crowd.binds fun _ _ _ _ _ _ us hl=>cb (g:=fun us=>bindArgs _ ⟨us,[]⟩) (z:=fun us=>pure (List.zip _ us)) us hl fun _ _=>rfl)⟩
 have zFfrom_case:=aJ (st:=fE) l60 c60 k60
 have zCfrom_case:aU l.prog w K mg base "_law_from_case" ["_law_state_here"] 6 (iL K):=⟨_,_,sZ zFfrom_case T (zCtake:=zCtake) (zCcrowd_sums:=zCcrowd_sums) (zCsmall:=zCsmall) (zCplus:=zCplus) (zCminus:=zCminus) (zCabove:=zCabove) (zCspot_crowd:=zCspot_crowd) (zCsums:=zCsums),PySem.W.mg_of X G a60,k60,(zFfrom_case.binds fun _ _ _ _ _ _ us hl=>dN (g:=fun us=>bindArgs _ ⟨us,[]⟩) (z:=fun us=>pure (List.zip _ us)) us hl fun _=>rfl)⟩
 have zFdue:=aJ (st:=qU) l61 c61 k61
 have zCdue:aU l.prog w K mg base "_law_due" ["_law_sums_here", "_law_spot", "_law_thing"] 7 (wC K):=⟨_,_,Gh zFdue T (zCis_bar:=zCis_bar) (zCfrom:=zCfrom) (zCwhole:=zCwhole),PySem.W.mg_of X G a61,k61,(zFdue.binds fun _ _ _ _ _ _ us hl=>jg (g:=fun us=>bindArgs _ ⟨us,[]⟩) (z:=fun us=>pure (List.zip _ us)) us hl fun _ _ _=>rfl)⟩
 have zFsome:=aJ (st:=mz) l62 c62 k62
 have zCsome:aU l.prog w K mg base "_law_some" ["_law_state_here", "_law_sums_here", "_law_spot"] 8 (rD K):=⟨_,_,Ek zFsome T (zCtake:=zCtake) (zCpolynomial:=zCpolynomial) (C_back_from:=C_back_from),PySem.W.mg_of X G a62,k62,(zFsome.binds fun _ _ _ _ _ _ us hl=>jg (g:=fun us=>bindArgs _ ⟨us,[]⟩) (z:=fun us=>pure (List.zip _ us)) us hl fun _ _ _=>rfl)⟩
 have zFbent:=aJ (st:=mY) l63 c63 k63
 have zCbent:aU l.prog w K mg base "_law_bent" ["_law_state_here", "_law_bar"] 2 (sD K):=⟨_,_,EI zFbent T (zCtake:=zCtake),PySem.W.mg_of X G a63,k63,(zFbent.binds fun _ _ _ _ _ _ us hl=>cb (g:=fun us=>bindArgs _ ⟨us,[]⟩) (z:=fun us=>pure (List.zip _ us)) us hl fun _ _=>rfl)⟩
 have F_law:=aJ (st:=lh) l64 c64 k64
 exact Fv F_law T (zCbent:=zCbent) (zCdue:=zCdue) (C_bar_from_holds:=C_bar_from_holds) (zCsome:=zCsome) (zCfrom_case:=zCfrom_case) (zCstate:=zCstate)
theorem walk{l:PySem.W.OpenLaw}{q:Program}{loose:List Str}{XP:(Str->Option Value)->Heap->Prop}{YP:World->Heap->Prop}{d:DefRec}{K:Params->W.Frag}(hn:l.most=some 63)(hdf:d.params.defaults=[])(hi:PyProof.Rows.importsNone q=true)
  (hY:∀ (w:World)(h:Heap),YP w h->(K w.params).In h /\ ∀ q ∈ ([]:List (Addr × Addr)),PySem.W.codeHdIn (K w.params) q.1 q.2=true/\(K w.params).lookup q.2=none/\h.get? q.2=some (PySem.W.tabObj #[]))
  (F:∀ (w:World)(mg:Str->Option Value)(fa:Addr)(h:Heap),(K w.params).In h->h.Ns mainGlobals mg->mg d.name=some (.ref fa) ->
   ∃ fd:FuncData,(∀ (s:Shared)(u:Value),BindsTo s fd ⟨[u],[]⟩ [("_law_script",u)]) /\ ∀ base:Heap,(K w.params).In base->base.Ns mainGlobals mg->vb mg base->base.NoSeer->bU l.prog w (K w.params) mg base el 9 fa fd ["_law_script"] (spLaw (K w.params))) :
  PySem.W.WalkO q loose XP YP l.row.toRowW d [] (fun f vs=>PySem.call f vs) :=
 L2.walk_ofM (ts:=fun _=>[]) (n:=63) (k:=9) (x:="_law_script") (CX:=fun _=>el) (sp:=fun w=>spLaw (K w.params)) hn (by decide) hdf ⟨rfl,by decide,by decide⟩ hi hY F (fun _ _ a ns hl hT hK hS=>⟨a,ns,rfl,.of hS hK,hl,fun _=>rfl⟩) fun _ _ _ _ _ z=>z
end M
open PySem PySem.W PyProof.Rows
inductive PySem.W.Fast.tw18432507000228587827 : Type
inductive PySem.W.Fast.tw4195272596509450798 : Type
inductive PySem.W.Fast.tw7306588473144433670 : Type
inductive PySem.W.Fast.tw11313619970974238931 : Type
inductive PySem.W.Fast.tw18284906462728084478 : Type
inductive PySem.W.Fast.tw4619844509685671546 : Type
inductive PySem.W.Fast.tw11015251607935561970 : Type
inductive PySem.W.Fast.tw1689430495428358796 : Type
inductive PySem.W.Fast.tw13077237271003957248 : Type
inductive PySem.W.Fast.tw14094214430864271389 : Type
inductive PySem.W.Fast.tw11039795313183554873 : Type
inductive PySem.W.Fast.tw14150278227704944639 : Type
inductive PySem.W.Fast.tw16136898535251123671 : Type
inductive PySem.W.Fast.tw485450548075673314 : Type
inductive PySem.W.Fast.tw7703591035466340216 : Type
inductive PySem.W.Fast.tw7380872198964927613 : Type
inductive PySem.W.Fast.tw16342443632984390421 : Type
inductive PySem.W.Fast.tw4199288627181776193 : Type
inductive PySem.W.Fast.tw2735858670240831124 : Type
inductive PySem.W.Fast.tw14524719806798733101 : Type
inductive PySem.W.Fast.tw12739991357734434827 : Type
inductive PySem.W.Fast.tw6176656468953065401 : Type
inductive PySem.W.Fast.tw12333249891661805885 : Type
inductive PySem.W.Fast.tw9662173947820098108 : Type
inductive PySem.W.Fast.tw13340418333311163163 : Type
inductive PySem.W.Fast.tw16661629701734202340 : Type
inductive PySem.W.Fast.tw529876951750676798 : Type
inductive PySem.W.Fast.tw2754528388265403992 : Type
inductive PySem.W.Fast.tw45244269853993871 : Type
inductive PySem.W.Fast.tw965554024696152304 : Type
inductive PySem.W.Fast.tw1476662225299013681 : Type
inductive PySem.W.Fast.tw1135321246873522636 : Type
inductive PySem.W.Fast.tw575302794800563117 : Type
inductive PySem.W.Fast.tw17602902549039446740 : Type
inductive PySem.W.Fast.tw5286268482586531813 : Type
inductive PySem.W.Fast.tw14344140661958017724 : Type
inductive PySem.W.Fast.tw2849721749224598064 : Type
inductive PySem.W.Fast.tw13934461823447262645 : Type
inductive PySem.W.Fast.tw3876074026473967540 : Type
inductive PySem.W.Fast.tw9611394378008677515 : Type
inductive PySem.W.Fast.tw3039212319177283251 : Type
inductive PySem.W.Fast.tw6801672951079208890 : Type
inductive PySem.W.Fast.tw14102367150388023693 : Type
inductive PySem.W.Fast.tw14670131782099633699 : Type
inductive PySem.W.Fast.tw13560252478705194428 : Type
inductive PySem.W.Fast.tw11214463212189822101 : Type
inductive PySem.W.Fast.tw4637635322959305287 : Type
inductive PySem.W.Fast.tw2181508662301518434 : Type
inductive PySem.W.Fast.tw4100219642872353640 : Type
inductive PySem.W.Fast.tw16031102067760068150 : Type
inductive PySem.W.Fast.tw17758449136221654472 : Type
inductive PySem.W.Fast.tw2938290519587864989 : Type
inductive PySem.W.Fast.tw6084298141803457271 : Type
inductive PySem.W.Fast.tw17770579327688385747 : Type
inductive PySem.W.Fast.tw4389600797838558629 : Type
inductive PySem.W.Fast.tw6872780108492095106 : Type
inductive PySem.W.Fast.tw12002579651225789088 : Type
inductive PySem.W.Fast.tw5476281733798060352 : Type
inductive PySem.W.Fast.tw11226081710457025672 : Type
inductive PySem.W.Fast.tw3581118939629026613 : Type
inductive PySem.W.Fast.tw9825684949862691001 : Type
set_option maxRecDepth 100000 in
set_option maxHeartbeats 0 in
theorem PySem.Challenge.cw_momentwright_k72_bars_from_a_spot_on_holds : PySem.Challenge.rw_momentwright_k72_bars_from_a_spot_on.Holds := by
 w_on;o_law;k_head;(case hw=>w_witness2)
 k_fill
 refine M.walk (l:=PySem.Challenge.rw_momentwright_k72_bars_from_a_spot_on) rfl rfl ?hi (fun w h Y=>⟨PySem.W.kIn_of Y,fun q hq=>by cases hq⟩) ?F
 case hi=>exact (by decide +kernel)
 case F =>
  intro w mg fa h KX G hmg
  refine' M.all_mk KX G hmg rfl ?a0 ?l0 ?c0 ?k0 ?a1 ?l1 ?c1 ?k1 ?a2 ?l2 ?c2 ?k2 ?a3 ?l3 ?c3 ?k3 ?a4 ?l4 ?c4 ?k4 ?a5 ?l5 ?c5 ?k5 ?a6 ?l6 ?c6 ?k6 ?a7 ?l7 ?c7 ?k7 ?a8 ?l8 ?c8 ?k8 ?a9 ?l9 ?c9 ?k9 ?a10 ?l10 ?c10 ?k10 ?a11 ?l11 ?c11 ?k11 ?a12 ?l12 ?c12 ?k12 ?a13 ?l13 ?c13 ?k13 ?a14 ?l14 ?c14 ?k14 ?a15 ?l15 ?c15 ?k15 ?a16 ?l16 ?c16 ?k16 ?a17 ?l17 ?c17 ?k17 ?a18 ?l18 ?c18 ?k18 ?a19 ?l19 ?c19 ?k19 ?a20 ?l20 ?c20 ?k20 ?a21 ?l21 ?c21 ?k21 ?a22 ?l22 ?c22 ?k22 ?a23 ?l23 ?c23 ?k23 ?a24 ?l24 ?c24 ?k24 ?a25 ?l25 ?c25 ?k25 ?a26 ?l26 ?c26 ?k26 ?a27 ?l27 ?c27 ?k27 ?a28 ?l28 ?c28 ?k28 ?a29 ?l29 ?c29 ?k29 ?a30 ?l30 ?c30 ?k30 ?a31 ?l31 ?c31 ?k31 ?a32 ?l32 ?c32 ?k32 ?a33 ?l33 ?c33 ?k33 ?a34 ?l34 ?c34 ?k34 ?a35 ?l35 ?c35 ?k35 ?a36 ?l36 ?c36 ?k36 ?a37 ?l37 ?c37 ?k37 ?a38 ?l38 ?c38 ?k38 ?a39 ?l39 ?c39 ?k39 ?a40 ?l40 ?c40 ?k40 ?a41 ?l41 ?c41 ?k41 ?a42 ?l42 ?c42 ?k42 ?a43 ?l43 ?c43 ?k43 ?a44 ?l44 ?c44 ?k44 ?a45 ?l45 ?c45 ?k45 ?a46 ?l46 ?c46 ?k46 ?a47 ?l47 ?c47 ?k47 ?a48 ?l48 ?c48 ?k48 ?a49 ?l49 ?c49 ?k49 ?a50 ?l50 ?c50 ?k50 ?a51 ?l51 ?c51 ?k51 ?a52 ?l52 ?c52 ?k52 ?a53 ?l53 ?c53 ?k53 ?a54 ?l54 ?c54 ?k54 ?a55 ?l55 ?c55 ?k55 ?a56 ?l56 ?c56 ?k56 ?a57 ?l57 ?c57 ?k57 ?a58 ?l58 ?c58 ?k58 ?a59 ?l59 ?c59 ?k59 ?a60 ?l60 ?c60 ?k60 ?a61 ?l61 ?c61 ?k61 ?a62 ?l62 ?c62 ?k62 ?a63 ?l63 ?c63 ?k63 ?a64 ?l64 ?c64 ?k64  ?u0 ?v0 ?w0 ?u1 ?v1 ?w1 ?z0 ?z1 ?z2 ?z3 ?z4 ?z5 ?z6 ?z7 ?z8 ?z9 ?z10 ?z11 ?z12 ?z13
  (case a0=>k_is);(case l0=>k_is);(case c0=>k_is);(case k0=>k_is)
  (case a1=>k_is);(case l1=>k_is);(case c1=>k_is);(case k1=>k_is)
  (case a2=>k_is);(case l2=>k_is);(case c2=>k_is);(case k2=>k_is)
  (case a3=>k_is);(case l3=>k_is);(case c3=>k_is);(case k3=>k_is)
  (case a4=>k_is);(case l4=>k_is);(case c4=>k_is);(case k4=>k_is)
  (case a5=>k_is);(case l5=>k_is);(case c5=>k_is);(case k5=>k_is)
  (case a6=>k_is);(case l6=>k_is);(case c6=>k_is);(case k6=>k_is)
  (case a7=>k_is);(case l7=>k_is);(case c7=>k_is);(case k7=>k_is)
  (case a8=>k_is);(case l8=>k_is);(case c8=>k_is);(case k8=>k_is)
  (case a9=>k_is);(case l9=>k_is);(case c9=>k_is);(case k9=>k_is)
  (case a10=>k_is);(case l10=>k_is);(case c10=>k_is);(case k10=>k_is)
  (case a11=>k_is);(case l11=>k_is);(case c11=>k_is);(case k11=>k_is)
  (case a12=>k_is);(case l12=>k_is);(case c12=>k_is);(case k12=>k_is)
  (case a13=>k_is);(case l13=>k_is);(case c13=>k_is);(case k13=>k_is)
  (case a14=>k_is);(case l14=>k_is);(case c14=>k_is);(case k14=>k_is)
  (case a15=>k_is);(case l15=>k_is);(case c15=>k_is);(case k15=>k_is)
  (case a16=>k_is);(case l16=>k_is);(case c16=>k_is);(case k16=>k_is)
  (case a17=>k_is);(case l17=>k_is);(case c17=>k_is);(case k17=>k_is)
  (case a18=>k_is);(case l18=>k_is);(case c18=>k_is);(case k18=>k_is)
  (case a19=>k_is);(case l19=>k_is);(case c19=>k_is);(case k19=>k_is)
  (case a20=>k_is);(case l20=>k_is);(case c20=>k_is);(case k20=>k_is)
  (case a21=>k_is);(case l21=>k_is);(case c21=>k_is);(case k21=>k_is)
  (case a22=>k_is);(case l22=>k_is);(case c22=>k_is);(case k22=>k_is)
  (case a23=>k_is);(case l23=>k_is);(case c23=>k_is);(case k23=>k_is)
  (case a24=>k_is);(case l24=>k_is);(case c24=>k_is);(case k24=>k_is)
  (case a25=>k_is);(case l25=>k_is);(case c25=>k_is);(case k25=>k_is)
  (case a26=>k_is);(case l26=>k_is);(case c26=>k_is);(case k26=>k_is)
  (case a27=>k_is);(case l27=>k_is);(case c27=>k_is);(case k27=>k_is)
  (case a28=>k_is);(case l28=>k_is);(case c28=>k_is);(case k28=>k_is)
  (case a29=>k_is);(case l29=>k_is);(case c29=>k_is);(case k29=>k_is)
  (case a30=>k_is);(case l30=>k_is);(case c30=>k_is);(case k30=>k_is)
  (case a31=>k_is);(case l31=>k_is);(case c31=>k_is);(case k31=>k_is)
  (case a32=>k_is);(case l32=>k_is);(case c32=>k_is);(case k32=>k_is)
  (case a33=>k_is);(case l33=>k_is);(case c33=>k_is);(case k33=>k_is)
  (case a34=>k_is);(case l34=>k_is);(case c34=>k_is);(case k34=>k_is)
  (case a35=>k_is);(case l35=>k_is);(case c35=>k_is);(case k35=>k_is)
  (case a36=>k_is);(case l36=>k_is);(case c36=>k_is);(case k36=>k_is)
  (case a37=>k_is);(case l37=>k_is);(case c37=>k_is);(case k37=>k_is)
  (case a38=>k_is);(case l38=>k_is);(case c38=>k_is);(case k38=>k_is)
  (case a39=>k_is);(case l39=>k_is);(case c39=>k_is);(case k39=>k_is)
  (case a40=>k_is);(case l40=>k_is);(case c40=>k_is);(case k40=>k_is)
  (case a41=>k_is);(case l41=>k_is);(case c41=>k_is);(case k41=>k_is)
  (case a42=>k_is);(case l42=>k_is);(case c42=>k_is);(case k42=>k_is)
  (case a43=>k_is);(case l43=>k_is);(case c43=>k_is);(case k43=>k_is)
  (case a44=>k_is);(case l44=>k_is);(case c44=>k_is);(case k44=>k_is)
  (case a45=>k_is);(case l45=>k_is);(case c45=>k_is);(case k45=>k_is)
  (case a46=>k_is);(case l46=>k_is);(case c46=>k_is);(case k46=>k_is)
  (case a47=>k_is);(case l47=>k_is);(case c47=>k_is);(case k47=>k_is)
  (case a48=>k_is);(case l48=>k_is);(case c48=>k_is);(case k48=>k_is)
  (case a49=>k_is);(case l49=>k_is);(case c49=>k_is);(case k49=>k_is)
  (case a50=>k_is);(case l50=>k_is);(case c50=>k_is);(case k50=>k_is)
  (case a51=>k_is);(case l51=>k_is);(case c51=>k_is);(case k51=>k_is)
  (case a52=>k_is);(case l52=>k_is);(case c52=>k_is);(case k52=>k_is)
  (case a53=>k_is);(case l53=>k_is);(case c53=>k_is);(case k53=>k_is)
  (case a54=>k_is);(case l54=>k_is);(case c54=>k_is);(case k54=>k_is)
  (case a55=>k_is);(case l55=>k_is);(case c55=>k_is);(case k55=>k_is)
  (case a56=>k_is);(case l56=>k_is);(case c56=>k_is);(case k56=>k_is)
  (case a57=>k_is);(case l57=>k_is);(case c57=>k_is);(case k57=>k_is)
  (case a58=>k_is);(case l58=>k_is);(case c58=>k_is);(case k58=>k_is)
  (case a59=>k_is);(case l59=>k_is);(case c59=>k_is);(case k59=>k_is)
  (case a60=>k_is);(case l60=>k_is);(case c60=>k_is);(case k60=>k_is)
  (case a61=>k_is);(case l61=>k_is);(case c61=>k_is);(case k61=>k_is)
  (case a62=>k_is);(case l62=>k_is);(case c62=>k_is);(case k62=>k_is)
  (case a63=>k_is);(case l63=>k_is);(case c63=>k_is);(case k63=>k_is)
  (case a64=>k_is);(case l64=>k_is);(case c64=>k_is);(case k64=>k_is)
  (case u0=>k_is);(case v0=>k_is);(case w0=>rfl)
  (case u1=>k_is);(case v1=>k_is);(case w1=>rfl)
  (case z0=>k_is)
  (case z1=>k_is)
  (case z2=>k_is)
  (case z3=>k_is)
  (case z4=>k_is)
  (case z5=>k_is)
  (case z6=>k_is)
  (case z7=>k_is)
  (case z8=>k_is)
  (case z9=>k_is)
  (case z10=>k_is)
  (case z11=>k_is)
  (case z12=>k_is)
  (case z13=>k_is)
#print axioms PySem.Challenge.cw_momentwright_k72_bars_from_a_spot_on_holds

import PyProof.Rows.All
import Wide.All
import OpenK.AllK
import Wide.FinOn
import Lean
import PyProof.EqAt
import PyProof.EqKinds
import PyProof.TupleCall
import PySem.Challenge.RW_momentwright_k93_whole_gauges_as_new
set_option compiler.extract_closed false
set_option hygiene false
local macro_rules | `(tactic| walk_at "o")=>`(tactic| first | ((repeat (rename (_:Int)≠_=>h; clear h)); (repeat (rename (_:Nat)≠_=>h; clear h)); (repeat (rename _ ∨ _=>h; clear h)); lia) | lia | omega)
local macro_rules | `(nofun)=>`(hr.mono (by walk_at "a2"))
local macro_rules | `(())=>`(by walk_at "o")
local macro_rules | `(∅)=>`(by first | decide | decide +kernel)
local macro_rules | `(tactic| walk_at "q")=>`(tactic| (rotate_left; intro cdv A outer s H vs Q E hr h; rotate_right; intro vs H Q E h))
local macro_rules | `(⋯)=>`(by grind)
local macro_rules | `((·))=>`(by walk_at "a1")
local macro_rules | `(tactic| nofun)=>`(tactic| walk_at "o")
local macro_rules | `(tactic| symm)=>`(tactic| walk_at "vc")
local macro_rules | `(tactic| walk_at "a1")=>`(tactic| first | exact Or.inl rfl | exact Or.inr rfl)
local macro_rules | `(tactic| walk_at "a2")=>`(tactic| first | decide | walk_at "o")
local macro_rules | `(tactic| walk_at "a3")=>`(tactic| exact ⟨rfl,rfl,rfl,by decide +kernel,rfl,by decide +kernel,by decide +kernel⟩)
set_option Elab.async false
set_option linter.all false
set_option maxRecDepth 100000
theorem Ja:type_of% @decide_eq_false:=@decide_eq_false
theorem Jb:type_of% @if_pos:=@if_pos
theorem Jc:type_of% @if_neg:=@if_neg
theorem Jd:type_of% @Nat.lt_of_lt_of_le:=@Nat.lt_of_lt_of_le
theorem Je:type_of% @Nat.lt_irrefl:=@Nat.lt_irrefl
theorem Jf:type_of% @Nat.ne_of_lt:=@Nat.ne_of_lt
theorem Jg:type_of% @Nat.le_trans:=@Nat.le_trans
theorem Jh:type_of% @List.mem_cons_of_mem:=@List.mem_cons_of_mem
theorem Ji:type_of% @Option.some.inj:=@Option.some.inj
theorem Jj:type_of% @congrArg:=@congrArg
theorem Jk:type_of% @Bool.false_ne_true:=@Bool.false_ne_true
theorem Jl:type_of% @Nat.le_refl:=@Nat.le_refl
theorem Jm:type_of% @List.mem_append_right:=@List.mem_append_right
theorem Jn:type_of% @Bool.eq_iff_iff:=@Bool.eq_iff_iff
theorem Jo:type_of% @List.size_toArray:=@List.size_toArray
theorem Jp:type_of% @List.length_cons:=@List.length_cons
theorem Jq:type_of% @List.map_cons:=@List.map_cons
theorem Jr:type_of% @List.length_map:=@List.length_map
theorem Js:type_of% @Nat.zero_le:=@Nat.zero_le
theorem Jt:type_of% @List.length_take:=@List.length_take
theorem Ju:type_of% @PySem.mem_of_lookup:=@PySem.mem_of_lookup
theorem Jv:type_of% @List.getElem?_append_right:=@List.getElem?_append_right
theorem Jw:type_of% @List.getElem?_append_left:=@List.getElem?_append_left
theorem Jx:type_of% @List.getElem?_map:=@List.getElem?_map
theorem Jy:type_of% @List.mem_of_getElem?:=@List.mem_of_getElem?
theorem Jz:type_of% @List.length_append:=@List.length_append
theorem JA:type_of% @List.length_drop:=@List.length_drop
theorem JB:type_of% @Bool.and_eq_true:=@Bool.and_eq_true
theorem JC:type_of% @List.replicate_succ:=@List.replicate_succ
theorem JD:type_of% @List.getElem_mem:=@List.getElem_mem
theorem JE:type_of% @List.getElem?_eq_getElem:=@List.getElem?_eq_getElem
theorem JF:type_of% @Int.fmod_nonneg_of_pos:=@Int.fmod_nonneg_of_pos
theorem JG:type_of% @Int.fmod_lt_of_pos:=@Int.fmod_lt_of_pos
theorem JH:type_of% @Int.le_of_lt:=@Int.le_of_lt
theorem JI:type_of% @Nat.pow_le_pow_right:=@Nat.pow_le_pow_right
theorem JJ:type_of% @Int.natAbs_mul:=@Int.natAbs_mul
theorem JK:type_of% @Nat.pow_add:=@Nat.pow_add
theorem JL:type_of% @List.mem_cons:=@List.mem_cons
theorem JM:type_of% @List.not_mem_nil:=@List.not_mem_nil
theorem JN:type_of% @or_false:=@or_false
theorem JO:type_of% @Nat.le_mul_of_pos_right:=@Nat.le_mul_of_pos_right
theorem JP:type_of% @Int.mul_pos:=@Int.mul_pos
theorem JQ:type_of% @Int.mul_comm:=@Int.mul_comm
theorem JR:type_of% @Int.mul_ne_zero:=@Int.mul_ne_zero
theorem JS:type_of% @Rat.intCast_mul:=@Rat.intCast_mul
theorem JT:type_of% @List.take_add_one:=@List.take_add_one
theorem JU:type_of% @List.getD_eq_getElem?_getD:=@List.getD_eq_getElem?_getD
theorem JV:type_of% @List.take_length:=@List.take_length
theorem JW:type_of% @List.getElem?_eq_none:=@List.getElem?_eq_none
theorem JX:type_of% @List.getLast?_eq_getElem?:=@List.getLast?_eq_getElem?
theorem JY:type_of% @Nat.mul_le_mul:=@Nat.mul_le_mul
theorem JZ:type_of% @Int.mul_zero:=@Int.mul_zero
theorem J0:type_of% @Nat.lt_of_le_of_lt:=@Nat.lt_of_le_of_lt
theorem J1:type_of% @Nat.mul_le_mul_left:=@Nat.mul_le_mul_left
theorem J2:type_of% @PySem.W.mg_of:=@PySem.W.mg_of
theorem J3:type_of% @Iff.rfl:=@Iff.rfl
theorem J5:type_of% @List.map_append:=@List.map_append
theorem J6:type_of% @List.mem_of_mem_take:=@List.mem_of_mem_take
theorem J7:type_of% @PySem.F.plainAttrs_list:=@PySem.F.plainAttrs_list
theorem J8:type_of% @PySem.F.slot_list_append:=@PySem.F.slot_list_append
theorem J9:type_of% @PySem.F.type_list_append:=@PySem.F.type_list_append
theorem Ya:type_of% @Nat.add_sub_cancel:=@Nat.add_sub_cancel
theorem Yb:type_of% @PySem.W.mg_none_of:=@PySem.W.mg_none_of
namespace L2
open PySem PySem.Spec PyProof.Rows
abbrev mQ:=Sum Int Str
def wz:mQ->Value->Bool
 | .inl k,v=>Value.isInt k v
 | .inr x,v=>Value.isStrOf x v
def AI(w:World):mQ->Int
 | .inl k=>hashInt k
 | .inr x=>hashStr w x
theorem be:∀{k:mQ}{v:Value},wz k v=true->(∃i t,k=Sum.inl i/\v=Value.int i t)\/(∃x t,k=Sum.inr x/\v=Value.str x t)
 | .inl i,v,h=>by
  obtain⟨t,e⟩:=Value.isInt_shape (k:=i) (v:=v) h;exact .inl ⟨i,t,rfl,e⟩
 | .inr x,v,h=>by
  obtain⟨t,e⟩:=Value.isStrOf_shape (x:=x) (v:=v) h;exact .inr ⟨x,t,rfl,e⟩
theorem xn(a b:Int):decide ((Sum.inl a:mQ)=Sum.inl b)=(a==b):=by
 by_cases e:a=b
 .subst e;simp
 .have h:¬ (Sum.inl a:mQ)=Sum.inl b:=λq=>e (Sum.inl.inj q);rw[Ja h];exact (beq_eq_false_iff_ne.mpr e).symm
theorem xb(a b:Str):decide ((Sum.inr a:mQ)=Sum.inr b)=decide (a=b):=by
 by_cases e:a=b
 .subst e;simp
 .have h:¬ (Sum.inr a:mQ)=Sum.inr b:=λq=>e (Sum.inr.inj q);rw[Ja h,Ja e]
theorem yL(a:Int)(b:Str):decide ((Sum.inl a:mQ)=Sum.inr b)=false:=Ja (λq=>nomatch q)
theorem yu(a:Str)(b:Int):decide ((Sum.inr a:mQ)=Sum.inl b)=false:=Ja (λq=>nomatch q)
def lI(prog:Program)(w:World):PySem.KeyKind prog w mQ where
 is:=wz
 hash:=AI w
 inj:=λv a b ha hb=>by
  rcases be ha with ⟨i,t,rfl,rfl⟩|⟨x,t,rfl,rfl⟩
  .rcases be hb with ⟨j,u,rfl,e⟩|⟨y,u,rfl,e⟩
   .injection e with e1 _;rw[e1]
   .exact nomatch e
  .rcases be hb with ⟨j,u,rfl,e⟩|⟨y,u,rfl,e⟩
   .exact nomatch e
   .injection e with e1 _;rw[e1]
 byValue:=λk v h=>by
  rcases be h with ⟨i,t,rfl,rfl⟩|⟨x,t,rfl,rfl⟩<;>rfl
 pyHash:=λhv h=>by
  rcases be hv with ⟨i,t,rfl,rfl⟩|⟨x,t,rfl,rfl⟩
  .exact wpAny_pyHash_int h
  .exact wpAny_pyHash_str h
 eqBool:=λhu hv h=>by
  rcases be hu with ⟨i,t,rfl,rfl⟩|⟨x,t,rfl,rfl⟩
  .rcases be hv with ⟨j,u,rfl,rfl⟩|⟨y,u,rfl,rfl⟩
   .rw[xn] at h;exact wpAny_eqBool_int h
   .rw[yL] at h;exact SeqAt.EqAt.int_str i t y u _ _ _ _ h
  .rcases be hv with ⟨j,u,rfl,rfl⟩|⟨y,u,rfl,rfl⟩
   .rw[yu] at h;exact SeqAt.EqAt.str_int x t j u _ _ _ _ h
   .rw[xb] at h;exact wpAny_eqBool_str h
 «strs»:=λk x t v h=>by
  rcases be h with ⟨i,u,rfl,e⟩|⟨y,u,rfl,e⟩
  .exact nomatch e
  .injection e with e1 _
   subst e1;cases v<;>rfl
inductive V where
 | non|bl (b:Bool)|int (i:Int)|str (x:Str)|byt (b:Array UInt8)|flt (b:UInt64)|ref (a:Addr)|ty (n:String)
 deriving DecidableEq
def aV:V->Value->Prop
 | .non,u=>u=Value.none
 | .bl b,u=>u=Value.bool b
 | .int i,u=>∃t,u=Value.int i t
 | .str x,u=>∃t,u=Value.str x t
 | .byt b,u=>∃t,u=Value.bytes b t
 | .flt b,u=>∃t,u=Value.float b t
 | .ref a,u=>u=Value.ref a
 | .ty n,u=>u=Value.type n
abbrev aJ:List V->List Value->Prop:=Paired aV
theorem aJ.length{xs:List V}{us:List Value}(r:aJ xs us):xs.length=us.length:=Paired.length r
theorem aJ.get:∀{xs:List V}{us:List Value}{i:Nat}{x:V},aJ xs us->xs[i]? = some x -> ∃u,us[i]? = some u/\aV x u
 | _,_,_,_,.nil,e=>by simp at e
 | _,_,0,_,.cons r _,e=>by simp at e;subst e;exact⟨_,rfl,r⟩
 | _,_,i+1,x,.cons _ t,e=>by
  obtain⟨u,h1,h2⟩:=aJ.get (i:=i) (x:=x) t (by simpa using e)
  exact⟨u,by simpa using h1,h2⟩
theorem aJ.set{x:V}{u:Value}(r:aV x u):∀{xs:List V}{us:List Value}(i:Nat),aJ xs us->aJ (xs.set i x) (us.set i u)
 | _,_,_,.nil=>.nil
 | _,_,0,.cons _ t=>.cons r t
 | _,_,i+1,.cons q t=>.cons q (aJ.set r i t)
theorem aJ.append:∀{xs ys:List V}{us ws:List Value},aJ xs us->aJ ys ws->aJ (xs++ys) (us++ws)
 | _,_,_,_,.nil,s=>s
 | _,_,_,_,.cons r t,s=>.cons r (aJ.append t s)
theorem aJ.take:∀{xs:List V}{us:List Value}(n:Nat),aJ xs us->aJ (xs.take n) (us.take n)
 | _,_,0,_=>.nil
 | _,_,_+1,.nil=>.nil
 | _,_,n+1,.cons r t=>.cons r (aJ.take n t)
theorem aJ.drop:∀{xs:List V}{us:List Value}(n:Nat),aJ xs us->aJ (xs.drop n) (us.drop n)
 | _,_,0,r=>r
 | _,_,_+1,.nil=>.nil
 | _,_,n+1,.cons _ t=>aJ.drop n t
def jB:Option V->Option Value->Prop
 | some v,some u=>aV v u
 | none,none=>True
 | _,_=>False
def KV{κ:Type}:List (κ×V)->List (κ×Value)->Prop:=Paired λ(p:κ×V)(q:κ×Value)=>p.1=q.1/\aV p.2 q.2
def kV:mQ->V
 | .inl i=>.int i
 | .inr x=>.str x
inductive HO where
 /-- a list -/
 | lst (xs:List V)
 /-- a tuple (never changes) -/
 | tup (xs:List V)
 /-- a dict whose keys are ints and texts;one whose keys are tuples of ints and texts (the empty one is both) -/
 | dK (kvs:List (mQ×V))|dT (kvs:List (List mQ×V))
 /-- a set of ints: its members,its size -/
 | set (S:Int->Bool)(n:Nat)
 /-- an instance of the class at C,its dict at dx,its attributes -/
 | ins (C dx:Addr)(fs:List (Str×V))
 /-- the dict of the instance at x -/
 | own (x:Addr)
 /-- the dict of an exception -/
 | xd (fs:List (Str×V))
 /-- a bound method,f of x -/
 | met (f x:Addr)
 /-- a range object lo,lo+1,.. below hi -/
 | rng (lo hi:Int)
 /-- a thing that is known to the object (the script;a dict while a loop walks it): read,never written while it is so -/
 | frz (o:Obj)(u:HO)
 /-- a code object's table -/
 | tbl (ps:Array Value)
 /-- any other thing,by what is true of its one object (a def of one's own: SetO a S n:=HO.ext λh=>..) -/
 | ext (φ:Heap->Prop)
abbrev Hp:=Addr->Option HO
def upd(H:Hp)(a:Addr)(o:HO):Hp:=λb=>if b=a then some o else H b
theorem a9{H:Hp}{a:Addr}{o:HO}:upd H a o a=some o:=by unfold upd;rw[Jb rfl]
theorem aQ{H:Hp}{a b:Addr}{o:HO}(h:b≠a):upd H a o b=H b:=by unfold upd;rw[Jc h]
theorem aj{H:Hp}{a b:Addr}{o:HO}(h:H a=some o)(h':H b=none):a≠b:=by
 intro e;subst e;rw[h] at h';cases h'
section
variable (P:Program)(w:World)
def cZ(H:Hp)(h:Heap)(a:Addr):HO->Prop
 | .lst xs=>xs.length<=sizeLine /\ ∃(its:List Value)(n:Nat),aJ xs its/\h.get? a=some { cls:=.type "list",data:=.seq its.toArray n }
 | .tup xs=>xs.length<=sizeLine /\ ∃its:List Value,aJ xs its/\IsTup h a its.toArray
 | .dK kvs=>kvs.length<=sizeLine/\(a==sysModules)=false /\ ∃vs,KV kvs vs/\h.DictOf (lI P w) a vs
 | .dT kvs=>kvs.length<=sizeLine/\(a==sysModules)=false /\ ∃xs:List (List mQ×Addr×Value),
   Paired (λ(p:List mQ×V)(q:List mQ×Addr×Value)=>p.1=q.1/\H q.2.1=some (.tup (p.1.map kV))/\aV p.2 q.2.2) kvs xs /\
   ∃o es ep,h.get? a=some o/\o.ExactDict/\o.data=.dict es ep/\es.toList=xs.map (entryOfKey (tupleKind (lI P w)))/\(xs.map (·.1)).Nodup
 | .set S n=>h.SetOf (intKind P w) a S n
 | .ins C dx fs=>H dx=some (.own a)/\fs.length<=1000/\dx≠a/\h.get? a=some (PySem.W.instObj C dx) /\
   ∃mA,h.Ns1 dx mA/\(∀f,jB (fs.lookup f) (mA f))/\PySem.Within mA (fs.map (·.1))
 | .own _=>∃o,h.get? a=some o
 | .xd fs=>∃mA,h.Ns1 a mA /\ ∀f,jB (fs.lookup f) (mA f)
 | .rng lo hi=>∃t u v,h.get? a=some { cls:=.type "range",data:=.fields #[.int lo t,.int hi u,.int 1 v] }
 | .frz o u=>h.get? a=some o/\cZ H h a u
 | .tbl ps=>h.get? a=some { cls:=.none,data:=.fields ps }
 | .met f x=>h.get? a=some (PySem.W.methodObj (.ref f) (.ref x))
 | .ext φ=>φ h/\(∃o,h.get? a=some o) /\ ∀h1 h2:Heap,φ h1->(∀o,h1.get? a=some o->h2.get? a=some o)->φ h2
def gG(H:Hp)(h:Heap):Prop:=∀a o,H a=some o->cZ P w H h a o
end
section
variable {P:Program}{w:World}{H H':Hp}{h h':Heap}{a:Addr}{o:HO}
theorem cZ.lt(x:cZ P w H h a o):a<h.objs.size:=by
 cases o with
 | lst xs=>obtain⟨_,_,_,_,e⟩:=x;exact Heap.lt_size e
 | tup xs=>obtain⟨_,_,_,p⟩:=x;exact p.lt
 | dK kvs=>obtain⟨_,_,_,_,o,_,_,e,_⟩:=x;exact Heap.lt_size e
 | dT kvs=>obtain⟨_,_,_,_,o,_,_,e,_⟩:=x;exact Heap.lt_size e
 | set S n=>obtain⟨o,_,_,_,e,_⟩:=x;exact Heap.lt_size e
 | ins C dx fs=>obtain⟨_,_,_,e,_⟩:=x;exact Heap.lt_size e
 | own y=>obtain⟨_,e⟩:=x;exact Heap.lt_size e
 | xd fs=>obtain⟨_,⟨_,_,_,e,_⟩,_⟩:=x;exact Heap.lt_size e
 | rng lo hi=>obtain⟨_,_,_,e⟩:=x;exact Heap.lt_size e
 | frz ob u=>obtain⟨e,_⟩:=x;exact Heap.lt_size e
 | tbl ps=>exact Heap.lt_size (show h.get? a=some _ from x)
 | met f y=>exact Heap.lt_size (show h.get? a=some _ from x)
 | ext φ=>obtain⟨_,⟨_,e⟩,_⟩:=x;exact Heap.lt_size e
theorem Paired.mapP{α β:Type}{F G:α->β->Prop}:∀{l₁:List α}{l₂:List β},Paired F l₁ l₂->(∀a b,F a b->G a b)->Paired G l₁ l₂
 | _,_,.nil,_=>.nil
 | _,_,.cons r t,f=>.cons (f _ _ r) (Paired.mapP t f)
theorem cZ.stay(x:cZ P w H h a o)(k:∀b u,(b=a\/H b=some (.own a))->h.get? b=some u->h'.get? b=some u)
  (ho:∀b,H b=some (.own a)->H' b=some (.own a))(ht:∀b xs,H b=some (.tup xs)->H' b=some (.tup xs)):cZ P w H' h' a o:=by
 induction o with
 | lst xs=>obtain⟨z,its,n,r,e⟩:=x;exact⟨z,its,n,r,k _ _ (.inl rfl) e⟩
 | tup xs=>obtain⟨z,its,r,ob,e,c⟩:=x;exact⟨z,its,r,ob,k _ _ (.inl rfl) e,c⟩
 | dK kvs=>obtain⟨z,y,vs,r,ob,es,ep,e,c⟩:=x;exact⟨z,y,vs,r,ob,es,ep,k _ _ (.inl rfl) e,c⟩
 | dT kvs =>
  obtain⟨z,y,xs,r,ob,es,ep,e,c⟩:=x;exact⟨z,y,xs,Paired.mapP r λp q z=>⟨z.1,ht _ _ z.2.1,z.2.2⟩,ob,es,ep,k _ _ (.inl rfl) e,c⟩
 | set S n=>obtain⟨ob,es,ep,t,e,c⟩:=x;exact⟨ob,es,ep,t,k _ _ (.inl rfl) e,c⟩
 | ins C dx fs =>
  obtain⟨d,z,ne,e,mA,⟨od,es,ep,e2,c⟩,r⟩:=x;exact⟨ho _ d,z,ne,k _ _ (.inl rfl) e,mA,⟨od,es,ep,k _ _ (.inr d) e2,c⟩,r⟩
 | own y=>obtain⟨ob,e⟩:=x;exact⟨ob,k _ _ (.inl rfl) e⟩
 | xd fs=>obtain⟨mA,⟨od,es,ep,e,c⟩,r⟩:=x;exact⟨mA,⟨od,es,ep,k _ _ (.inl rfl) e,c⟩,r⟩
 | rng lo hi=>obtain⟨t,u,v,e⟩:=x;exact⟨t,u,v,k _ _ (.inl rfl) e⟩
 | frz ob u ih=>obtain⟨e,q⟩:=x;exact⟨k _ _ (.inl rfl) e,ih q⟩
 | tbl ps =>
  have e:h.get? a=some { cls:=.none,data:=.fields ps }:=x;show h'.get? a=some { cls:=.none,data:=.fields ps };exact k a _ (.inl rfl) e
 | met f y =>
  have e:h.get? a=some (PySem.W.methodObj (.ref f) (.ref y)):=x;show h'.get? a=some (PySem.W.methodObj (.ref f) (.ref y));exact k a _ (.inl rfl) e
 | ext φ=>obtain⟨p,⟨o,e⟩,st⟩:=x;exact⟨st _ _ p λo q=>k _ _ (.inl rfl) q,⟨o,k _ _ (.inl rfl) e⟩,st⟩
theorem gG.lt(x:gG P w H h)(e:H a=some o):a<h.objs.size:=(x a o e).lt
theorem gG.fresh(x:gG P w H h)(e:h.objs.size<=a):H a=none:=by
 cases q:H a with
 | none=>rfl
 | some u=>exact absurd (Jd (x.lt q) e) (Je _)
theorem gG.kept(x:gG P w H h)(k:∀b u,h.get? b=some u->h'.get? b=some u):gG P w H h':=λa o e =>
 (x a o e).stay (λb u _ q=>k b u q) (λ_ q=>q) λ_ _ q=>q
theorem gG.laid(x:gG P w H h)(k:∀b u,h.get? b=some u->h'.get? b=some u)(hp:h.objs.size<=a)(new:cZ P w (upd H a o) h' a o):gG P w (upd H a o) h':=λb u e=>by
 have hn:=x.fresh hp;by_cases hb:b=a
 .subst hb;rw[a9] at e;cases e;exact new
 .rw[aQ hb] at e;exact (x b u e).stay (λc v _ q=>k c v q) (λc q=>by rw[aQ (aj q hn)];exact q) λc xs q=>by rw[aQ (aj q hn)];exact q
end
def Rd(H:Hp)(a:Addr)(u:HO):Prop:=H a=some u \/ ∃o,H a=some (.frz o u)
theorem Rd.ok{P:Program}{w:World}{H:Hp}{h:Heap}{a:Addr}{u:HO}(r:Rd H a u)(x:gG P w H h):cZ P w H h a u:=by
 rcases r with r|⟨o,r⟩
 .exact x a u r
 .obtain⟨_,q⟩:=x a _ r;exact q
def Ai:Option HO->Prop
 | some (.lst _)=>True
 | some (.dK _)=>True
 | some (.dT _)=>True
 | some (.set _ _)=>True
 | some (.ins _ _ _)=>True
 | some (.ext _)=>True
 | _=>False
section
variable {P:Program}{w:World}{H:Hp}{h h':Heap}{x e:Addr}{o':HO}
theorem gG.write(ok:gG P w H h)(mu:Ai (H x))(he:e=x\/H e=some (.own x))(k:∀b u,b≠e->h.get? b=some u->h'.get? b=some u)(heo:∃u,h'.get? e=some u)
  (new:cZ P w (upd H x o') h' x o'):gG P w (upd H x o') h':=λb u q=>by
 have nown:∀c y,H c=some (.own y)->c≠x:=λc y r z=>by subst z;rw[r] at mu;exact mu
 have ntup:∀c xs,H c=some (.tup xs)->c≠x:=λc xs r z=>by subst z;rw[r] at mu;exact mu
 by_cases hb:b=x
 .subst hb;rw[a9] at q;cases q;exact new
 .rw[aQ hb] at q;by_cases hbe:b=e
  .have q':H b=some (.own x):=by
    rcases he with z|z
    .exact absurd (hbe.trans z) hb
    .rw[hbe];exact z
   rw[q] at q';cases q';obtain⟨v,hv⟩:=heo;exact⟨v,by rw[hbe];exact hv⟩
  .refine (ok b u q).stay (λc v hc r=>k c v ?_ r) (λc r=>by rw[aQ (nown c b r)];exact r) λc xs r=>by rw[aQ (ntup c xs r)];exact r
   rcases hc with rfl|hc
   .exact hbe
   .rintro rfl;rcases he with z|z
    .exact nown c b hc z
    .rw[hc] at z;cases z;exact hb rfl
end
structure Un (fs ex:List Addr)(H H':Hp)(h h':Heap):Prop where
 keep:∀b o,h.get? b=some o->H b=none->b∉fs->b∉ex->h'.get? b=some o
 slot:∀b o,h.get? b=some o->H b=none->b∈fs->b∉ex -> ∃sl,h'.get? b=some { o with slots:=sl }
 free:∀b o,h.get? b=some o->H b=none->b∉ex->H' b=none
 there:∀b o,h.get? b=some o->b∉ex -> ∃o',h'.get? b=some o'
 tups:∀b xs,H b=some (.tup xs)->H' b=some (.tup xs)
 frzs:∀b o u,H b=some (.frz o u)->H' b=some (.frz o u)
 tbls:∀b ps,H b=some (.tbl ps) -> ∃more,H' b=some (.tbl (ps++more))
section
variable {fs fs' ex ex':List Addr}{H H1 H2:Hp}{h h1 h2 h':Heap}{a x e:Addr}{o:HO}
theorem Un.any(u:Un fs ex H H1 h h1) {b:Addr}{ob:Obj}(q:h.get? b=some ob)(n:H b=none)(hx:b∉ex):∃sl,h1.get? b=some { ob with slots:=sl }:=by
 by_cases hb:b∈fs
 .exact u.slot b ob q n hb hx
 .exact⟨ob.slots,u.keep b ob q n hb hx⟩
theorem Un.kept(k:∀b u,h.get? b=some u->h'.get? b=some u):Un fs ex H H h h' :=
 ⟨λb ob q _ _ _=>k b ob q,λb ob q _ _ _=>⟨ob.slots,k b ob q⟩,λ_ _ _ n _=>n,λb ob q _=>⟨ob,k b ob q⟩,λ_ _ q=>q,λ_ _ _ q=>q,λ_ ps q=>⟨#[],by rw[q];simp⟩⟩
theorem Un.refl:Un fs ex H H h h:=Un.kept λ_ _ q=>q
theorem Un.laid(k:∀b u,h.get? b=some u->h'.get? b=some u)(hp:h.objs.size<=a)(hn:H a=none):Un fs ex H (upd H a o) h h' where
 keep:=λb u q _ _ _=>k b u q
 slot:=λb u q _ _ _=>⟨u.slots,k b u q⟩
 free:=λb u q n _=>by rw[aQ (Jf (Jd (Heap.lt_size q) hp))];exact n
 there:=λb u q _=>⟨u,k b u q⟩
 tups:=λb xs q=>by rw[aQ (aj q hn)];exact q
 frzs:=λb u xs q=>by rw[aQ (aj q hn)];exact q
 tbls:=λb ps q=>⟨#[],by rw[aQ (aj q hn),q];simp⟩
theorem Un.write(mu:Ai (H x))(he:e=x\/H e=some (.own x))(k:∀b u,b≠e->h.get? b=some u->h'.get? b=some u)(heo:∃u,h'.get? e=some u):Un fs ex H (upd H x o) h h':=by
 have hx:∀b,H b=none->b≠x:=λb n z=>by subst z;rw[n] at mu;exact mu
 have hb:∀b,H b=none->b≠e:=λb n z=>by
  subst z;rcases he with r|r
  .exact hx b n r
  .rw[n] at r;cases r
 have hm:∀b u,H b=some u -> ¬ Ai (some u)->b≠x:=λb u q nm z=>by subst z;rw[q] at mu;exact nm mu
 refine⟨λb u q n _ _=>k b u (hb b n) q,λb u q n _ _=>⟨u.slots,k b u (hb b n) q⟩,λb u q n _=>by rw[aQ (hx b n)];exact n,λb u q _=>?_,
  λb xs q=>by rw[aQ (hm b _ q λz=>z)];exact q,λb u xs q=>by rw[aQ (hm b _ q λz=>z)];exact q,λb ps q=>⟨#[],by rw[aQ (hm b _ q λz=>z),q];simp⟩⟩
 by_cases hbe:b=e
 .subst hbe;exact heo
 .exact⟨u,k b u hbe q⟩
end
def Ah(h:Heap)(H:Hp):List Addr:=(List.range h.objs.size).filter λa=>(H a).isSome
def jg(h:Heap)(H:Hp):Heap:=PySem.W.hideAll h (Ah h H)
theorem qo(h:Heap)(H:Hp):(jg h H).objs.size=h.objs.size:=PySem.W.hideAll_size _ _
theorem rk{h:Heap}{H:Hp}{b:Addr}{o:Obj}(e:h.get? b=some o)(n:H b=none):(jg h H).get? b=some o :=
 PySem.W.hideAll_get _ e λhm=>by
  have q:(H b).isSome=true:=(List.mem_filter.mp hm).2;rw[n] at q;simp at q
theorem uj{h:Heap}{H:Hp}{b:Addr}{o:Obj}(e:(jg h H).get? b=some o):h.get? b=some o/\H b=none:=by
 have e':h.get? b=some o:=PySem.W.of_hideAll (Ah h H) e;refine⟨e',?_⟩;cases q:H b with
 | none=>rfl
 | some x =>
  have hm:b∈Ah h H:=List.mem_filter.mpr ⟨List.mem_range.mpr (Heap.lt_size e'),by simp[q]⟩
  have z:(jg h H).get? b=none:=PySem.W.hideAll_none (Ah h H) hm;rw[z] at e;cases e
def vY(g h:Heap)(L:Addr):List (Addr×Obj):=(List.range h.objs.size).filterMap λa=>if a=L\/(g.get? a).isSome=true then none else (h.get? a).map λo=>(a,o)
def cG(g h:Heap)(L d:Addr):List (Addr×Obj):=(vY g h L).filter λp=>decide (p.1≠d)
structure Mod (K:W.Frag)(mg:Str->Option Value)(base:Heap):Prop where
 kin:K.In base
 glob:base.Ns mainGlobals mg
 blt:∃mb,base.Ns builtinsNs mb /\ ∀x:Str,x ≠ "__name__" -> mb x=bootBuiltins x
 nolimit:base.NoLimit
structure Cx where
 prog:Program
 w:World
 K:W.Frag
 mg:Str->Option Value
 base:Heap
 A:Around
 N:List Str
 s₀:Shared
 H₀:Hp
 env:Env
 outer:List Env
 stack:List Env
 ex:List Addr
 fn:Str->Bool
 calm:Bool
 pn:List (Addr×Obj)
 xe:Value->Shared->Prop
def fG(l:List Env):List Addr:=l.filterMap (·.frame)
abbrev Cx.fs (X:Cx):List Addr:=fG X.outer
def zp(sc:Scope)(x:Str):Prop:=sc.names.lookup x=some .local\/sc.names.lookup x=some .cell\/sc.names.lookup x=some .free
def ua(sc:Scope)(x:Str):Prop:=sc.names.lookup x=some .local\/sc.names.lookup x=some .cell
def AB(env:Env)(h:Heap)(m:Str->Option Value)(x:Str)(u:Value):Prop :=
 (env.kindOf x=some .local/\m x=some u)\/((env.kindOf x=some .cell\/env.kindOf x=some .free) /\ ∃c,env.cells.lookup x=some c/\h.IsCell c (some u))
structure Cx.Ok (X:Cx):Prop where
 mod:Mod X.K X.mg X.base
 kind:X.env.scope.kind=.function
 glob:X.env.globals=mainGlobals
 blt:X.env.builtins=builtinsNs
 above:X.s₀.heap.objs.size<=X.env.locals
 inj:∀x y c,X.env.cells.lookup x=some c->X.env.cells.lookup y=some c->x=y
 has:∀x,(X.env.kindOf x=some .cell\/X.env.kindOf x=some .free) -> ∃c,X.env.cells.lookup x=some c
 cab:∀x c,X.fn x=true->X.env.cells.lookup x=some c->X.s₀.heap.objs.size<=c
 hd:X.calm=true->X.A.handled=none
 frames:X.A.frames=some X.stack
 stk:X.stack=X.outer\/(X.stack=X.env::X.outer/\X.env.frame=some X.env.locals)
 exf:∀b∈X.ex,b≠X.env.locals /\ ∀x c,X.env.cells.lookup x=some c->c≠b
 bs:∀b o,X.base.get? b=some o->X.s₀.heap.get? b=some o/\X.H₀ b=none
 bsz:X.base.objs.size<=X.s₀.heap.objs.size
 noex:∀b o,X.base.get? b=some o->b∉X.ex
 exfs:∀b∈X.ex,b∉X.fs
 funs:X.s₀.heap.FunFrames X.base X.outer
 frf:∀b∈X.fs,X.H₀ b=none
structure au (X:Cx)(pins:List (Addr×Obj))(σ:List (Option V))(H:Hp)(s:Shared):Prop where
 ok:X.Ok
 os:s.os=X.s₀.os
 bare:AllBare s.gens
 base:Un X.fs X.ex X.H₀ H X.s₀.heap s.heap
 loc:∃m,s.heap.Ns X.env.locals m /\ ∀(i:Nat)(x:Str)(v:V),X.N[i]? = some x->σ[i]? = some (some v)->zp X.env.scope x -> ∃u,aV v u/\AB X.env s.heap m x u
 cell:∀x c,X.env.cells.lookup x=some c -> ∃v,s.heap.IsCell c v
 free:H X.env.locals=none
 freeC:∀x c,X.env.cells.lookup x=some c->H c=none
 pin:∀p∈X.pn++pins,s.heap.get? p.1=some p.2/\H p.1=none/\p.1≠X.env.locals/\p.1∉X.fs /\ ∀v,p.2.data ≠ .cell v
 hok:gG X.prog X.w H s.heap
 len:σ.length=X.N.length
section
variable {X:Cx}{pins:List (Addr×Obj)}{σ:List (Option V)}{H H':Hp}{s:Shared}{h':Heap}
theorem Cx.Ok.nofr(ok:X.Ok){b:Addr}{o:Obj}(e:X.base.get? b=some o):b∉X.fs:=λhb=>by
 have:=(ok.funs.mem hb).1;rw[e] at this;cases this
theorem au.bs(I:au X pins σ H s):∀b o,X.base.get? b=some o->s.heap.get? b=some o/\H b=none:=λb o e =>
 ⟨I.base.keep b o (I.ok.bs b o e).1 (I.ok.bs b o e).2 (I.ok.nofr e) (I.ok.noex b o e),I.base.free b o (I.ok.bs b o e).1 (I.ok.bs b o e).2 (I.ok.noex b o e)⟩
theorem au.bk(I:au X pins σ H s):∀b o,X.base.get? b=some o->s.heap.get? b=some o:=λb o e=>(I.bs b o e).1
theorem au.mod(I:au X pins σ H s):Mod X.K X.mg X.base:=I.ok.mod
theorem au.kIn(I:au X pins σ H s):X.K.In s.heap:=I.ok.mod.kin.keeps I.bk
theorem au.nolimit(I:au X pins σ H s):s.heap.NoLimit:=I.ok.mod.nolimit.keeps I.bk
theorem au.lt(I:au X pins σ H s):X.env.locals<s.heap.objs.size:=let ⟨_,hn,_⟩:=I.loc;hn.lt
theorem au.sz(I:au X pins σ H s):X.s₀.heap.objs.size<=s.heap.objs.size:=Jg I.ok.above (Nat.le_of_lt I.lt)
theorem au.nofs(I:au X pins σ H s) {a:Addr}(h:s.heap.objs.size<=a):a∉X.fs:=λhb=>by
 obtain⟨_,o,ho,_⟩:=I.ok.funs.mem hb;exact absurd (Jd (Heap.lt_size ho) (Jg I.sz h)) (Je _)
theorem au.cne(I:au X pins σ H s):∀x c,X.env.cells.lookup x=some c->c≠X.env.locals:=λx c e z=>by
 obtain⟨v,o,ho,hd⟩:=I.cell x c e;obtain⟨m,⟨o',es,ep,ho',hd',_⟩,_⟩:=I.loc;rw[z,ho'] at ho;cases ho;rw[hd'] at hd;cases hd
theorem au.funs(I:au X pins σ H s):s.heap.FunFrames X.base X.outer:=by
 have all:∀(l:List Env),(∀b∈fG l,b∈X.fs)->X.s₀.heap.FunFrames X.base l->s.heap.FunFrames X.base l:=by
  intro l;induction l with
  | nil=>intro _ _;trivial
  | cons env r ih =>
   intro hs hl;obtain⟨hk,⟨L,o,hf,hn,ho,hd⟩,hr⟩:=hl;have hL:L∈X.fs:=hs L (by unfold fG;rw[List.filterMap_cons,hf];exact List.mem_cons_self)
   obtain⟨sl,e⟩:=I.base.slot L o ho (I.ok.frf L hL) hL λz=>I.ok.exfs L z hL;exact⟨hk,⟨L,_,hf,hn,e,hd⟩,ih (λb hb=>hs b (by unfold fG;rw[List.filterMap_cons,hf];exact Jh _ hb)) hr⟩
 exact all X.outer (λ_ hb=>hb) I.ok.funs
theorem au.stack(I:au X pins σ H s):s.heap.FunFrames X.base X.stack:=by
 rcases I.ok.stk with e|⟨e,hf⟩
 .rw[e];exact I.funs
 .rw[e];obtain⟨m,hn,_⟩:=I.loc;refine .cons (by rw[I.ok.kind];decide) hf hn ?_ I.funs
  exact Heap.get?_none_of_le (Jg I.ok.bsz I.ok.above)
theorem au.stkSub(I:au X pins σ H s):∀b∈fG X.stack,b∈X.env.locals::X.fs:=λb hb=>by
 rcases I.ok.stk with e|⟨e,hf⟩
 .rw[e] at hb;exact Jh _ hb
 .rw[e] at hb;unfold fG at hb;rw[List.filterMap_cons,hf] at hb;exact hb
theorem au.stkFree(I:au X pins σ H s):∀b∈fG X.stack,H b=none:=λb hb=>by
 rcases JL.mp (I.stkSub b hb) with e|hb
 .rw[e];exact I.free
 .obtain⟨_,o,ho,_⟩:=I.ok.funs.mem hb;exact I.base.free b o ho (I.ok.frf b hb) λz=>I.ok.exfs b z hb
theorem au.step{g':Array GenState}{t':Nat}{d':Drawn}{ch:List Addr}(I:au X pins σ H s)
  (hch:∀b∈ch,(b∈X.ex\/X.s₀.heap.objs.size<=b)/\b≠X.env.locals/\(∀x c,X.env.cells.lookup x=some c->c≠b) /\ ∀p∈X.pn++pins,p.1≠b)
  (keep:∀b o,b≠X.env.locals->b∉X.fs->b∉ch->s.heap.get? b=some o->H b=none->h'.get? b=some o)
  (slot:∀b o,b≠X.env.locals->b∈X.fs->b∉ch->s.heap.get? b=some o->H b=none -> ∃sl,h'.get? b=some { o with slots:=sl })(free:∀b o,b∉ch->s.heap.get? b=some o->H b=none->H' b=none)
  (there:∀b o,b∉ch->s.heap.get? b=some o -> ∃o',h'.get? b=some o')
  (tups:∀b xs,H b=some (.tup xs)->H' b=some (.tup xs))(frzs:∀b o u,H b=some (.frz o u)->H' b=some (.frz o u))(tbls:∀b ps,H b=some (.tbl ps) -> ∃more,H' b=some (.tbl (ps++more)))
  (ns:∀m,s.heap.Ns X.env.locals m->h'.Ns X.env.locals m)(hok:gG X.prog X.w H' h')(hg:AllBare g') :
  au X pins σ H' { s with heap:=h',gens:=g',drawn:=d',toks:=t' }:=by
 have neL:∀b o,X.s₀.heap.get? b=some o->b≠X.env.locals:=λb o e=>Jf (Jd (Heap.lt_size e) I.ok.above);have neC:∀b o,X.s₀.heap.get? b=some o->b∉X.ex->b∉ch:=λb o e hx hb=>by
  rcases (hch b hb).1 with z|z
  .exact hx z
  .exact absurd (Jd (Heap.lt_size e) z) (Je _)
 have cellK:∀x c,X.env.cells.lookup x=some c -> ∀v,s.heap.IsCell c v->h'.IsCell c v:=λx c e v ⟨o,ho,hd⟩=>by
  have nch:c∉ch:=λz=>(hch c z).2.2.1 x c e rfl;by_cases hc:c∈X.fs
  .obtain⟨sl,q⟩:=slot c o (I.cne x c e) hc nch ho (I.freeC x c e);exact⟨_,q,hd⟩
  .exact⟨o,keep c o (I.cne x c e) hc nch ho (I.freeC x c e),hd⟩
 refine⟨I.ok,I.os,hg,⟨λb o e n hb hx=>?_,λb o e n hb hx=>?_,λb o e n hx=>?_,λb o e hx=>?_,λb xs e=>tups b xs (I.base.tups b xs e),λb o xs e=>frzs b o xs (I.base.frzs b o xs e),λb ps e=>?_⟩,?_,λx c e=>?_,?_,λx c e=>?_,λp hp=>?_,hok,I.len⟩
 .exact keep b o (neL b o e) hb (neC b o e hx) (I.base.keep b o e n hb hx) (I.base.free b o e n hx)
 .obtain⟨sl,e1⟩:=I.base.slot b o e n hb hx;obtain⟨sl',e2⟩:=slot b _ (neL b o e) hb (neC b o e hx) e1 (I.base.free b o e n hx);exact⟨sl',e2⟩
 .obtain⟨o',e1⟩:=I.base.there b o e hx;exact free b o' (neC b o e hx) e1 (I.base.free b o e n hx)
 .obtain⟨o',e1⟩:=I.base.there b o e hx;exact there b o' (neC b o e hx) e1
 .obtain⟨m1,e1⟩:=I.base.tbls b ps e;obtain⟨m2,e2⟩:=tbls b _ e1;exact⟨m1++m2,by rw[e2,Array.append_assoc]⟩
 .obtain⟨m,hn,hl⟩:=I.loc;refine⟨m,ns m hn,λi x v e1 e2 e3=>?_⟩;obtain⟨u,r,l⟩:=hl i x v e1 e2 e3;refine⟨u,r,?_⟩;rcases l with l|⟨k,c,e,z⟩
  .exact .inl l
  .exact .inr ⟨k,c,e,cellK x c e _ z⟩
 .obtain⟨v,z⟩:=I.cell x c e;exact⟨v,cellK x c e v z⟩
 .obtain⟨m,⟨o,_,_,ho,_⟩,_⟩:=I.loc;exact free _ o (λz=>(hch _ z).2.1 rfl) ho I.free
 .obtain⟨v,o,ho,hd⟩:=I.cell x c e;exact free c o (λz=>(hch c z).2.2.1 x c e rfl) ho (I.freeC x c e)
 .obtain⟨e,n,ne,nf,d⟩:=I.pin p hp;have nch:p.1∉ch:=λz=>(hch p.1 z).2.2.2 p hp rfl;exact⟨keep p.1 p.2 ne nf nch e n,free p.1 p.2 nch e n,ne,nf,d⟩
theorem au.un{t':Nat}(I:au X pins σ H s)(u:Un X.fs [] H H' s.heap h')(hok:gG X.prog X.w H' h'):au X pins σ H' { s with heap:=h',toks:=t' }:=by
 obtain⟨m,⟨o,es,ep,ho,r⟩,_⟩:=id I.loc;obtain⟨sl,hL⟩:=u.any ho I.free (by simp)
 exact I.step (g':=s.gens) (d':=s.drawn) (ch:=[]) (λ_ z=>nomatch z) (λb o _ hb _ e n=>u.keep b o e n hb (by simp)) (λb o _ hb _ e n=>u.slot b o e n hb (by simp)) (λb o _ e n=>u.free b o e n (by simp)) (λb o _ e=>u.there b o e (by simp)) u.tups u.frzs u.tbls (λm' hm=>by
  obtain⟨o',es',ep',ho',r'⟩:=hm;rw[ho] at ho';cases ho';exact⟨_,es',ep',hL,r'⟩) hok I.bare
theorem au.call{g':Array GenState}{t':Nat}{d':Drawn}{ch:List Addr}(I:au X pins σ H s)(u:Un (fG X.stack) ch H H' s.heap h')(hok:gG X.prog X.w H' h')(hg:AllBare g')
  (hch:∀b∈ch,(b∈X.ex\/X.s₀.heap.objs.size<=b)/\b≠X.env.locals/\(∀x c,X.env.cells.lookup x=some c->c≠b) /\ ∀p∈X.pn++pins,p.1≠b) :
  au X pins σ H' { s with heap:=h',gens:=g',drawn:=d',toks:=t' }:=by
 obtain⟨m,⟨o,es,ep,ho,r⟩,_⟩:=id I.loc;obtain⟨sl,hL⟩:=u.any ho I.free λz=>(hch _ z).2.1 rfl;exact I.step (ch:=ch) hch (λb o hL hb hc e n=>u.keep b o e n (λz=>(JL.mp (I.stkSub b z)).elim hL hb) hc) (λb o _ _ hc e n=>u.any e n hc) (λb o hc e n=>u.free b o e n hc) (λb o hc e=>u.there b o e hc) u.tups u.frzs u.tbls (λm' hm=>by
  obtain⟨o',es',ep',ho',r'⟩:=hm;rw[ho] at ho';cases ho';exact⟨_,es',ep',hL,r'⟩) hok hg
theorem au.turned{t':Nat}{it:Addr}(I:au X pins σ H s)(k:∀b o,b≠it->s.heap.get? b=some o->h'.get? b=some o)(hn:H it=none)(hL:it≠X.env.locals)
  (h1:it∈X.ex\/X.s₀.heap.objs.size<=it)(h2:∀x c,X.env.cells.lookup x=some c->c≠it)(h3:∀p∈X.pn++pins,p.1≠it):au X pins σ H { s with heap:=h',toks:=t' }:=by
 have nit:∀b u,H b=some u->b≠it:=λb u e z=>by rw[z,hn] at e;cases e
 refine I.step (g':=s.gens) (d':=s.drawn) (ch:=[it]) (λb hb=>?_) (λb o _ _ hc e _=>k b o (λz=>hc (by simp[z])) e) (λb o _ _ hc e _=>⟨o.slots,k b o (λz=>hc (by simp[z])) e⟩) (λ_ _ _ _ n=>n)
  (λb o hc e=>⟨o,k b o (λz=>hc (by simp[z])) e⟩) (λ_ _ e=>e) (λ_ _ _ e=>e) (λb ps e=>⟨#[],by rw[e];simp⟩) (λm hm=>?_) (λb u e=>?_) I.bare
 .have e:b=it:=by simpa using hb
  subst e;exact⟨h1,hL,h2,h3⟩
 .obtain⟨o,es,ep,ho,r⟩:=hm;exact⟨o,es,ep,k _ o (Ne.symm hL) ho,r⟩
 .refine (I.hok b u e).stay (λc v hc q=>k c v ?_ q) (λ_ q=>q) λ_ _ q=>q;rcases hc with z|z
  .rw[z];exact nit b u e
  .exact nit c _ z
theorem au.tok(I:au X pins σ H s)(t:Nat):au X pins σ H { s with toks:=t }:=I.un (h':=s.heap) (t':=t) Un.refl I.hok
theorem au.kept{t':Nat}(I:au X pins σ H s)(k:∀b u,s.heap.get? b=some u->h'.get? b=some u):au X pins σ H { s with heap:=h',toks:=t' }:=I.un (Un.kept k) (I.hok.kept k)
theorem au.laid{a:Addr}{o:HO}{t':Nat}(I:au X pins σ H s)(k:∀b u,s.heap.get? b=some u->h'.get? b=some u)(hp:s.heap.objs.size<=a)(new:cZ X.prog X.w (upd H a o) h' a o) :
  au X pins σ (upd H a o) { s with heap:=h',toks:=t' }:=I.un (Un.laid k hp (I.hok.fresh hp)) (I.hok.laid k hp new)
theorem au.write{x e:Addr}{o:HO}{t':Nat}(I:au X pins σ H s)(mu:Ai (H x))(he:e=x\/H e=some (.own x))(k:∀b u,b≠e->s.heap.get? b=some u->h'.get? b=some u)(heo:∃u,h'.get? e=some u)
  (new:cZ X.prog X.w (upd H x o) h' x o):au X pins σ (upd H x o) { s with heap:=h',toks:=t' }:=I.un (Un.write mu he k heo) (I.hok.write mu he k heo new)
theorem au.pins_of{pins':List (Addr×Obj)}(I:au X pins σ H s)(h:∀p∈pins',s.heap.get? p.1=some p.2/\H p.1=none/\p.1≠X.env.locals/\p.1∉X.fs /\ ∀v,p.2.data ≠ .cell v):au X pins' σ H s :=
 ⟨I.ok,I.os,I.bare,I.base,I.loc,I.cell,I.free,I.freeC,λp hp=>(List.mem_append.mp hp).elim (λz=>I.pin p (List.mem_append_left _ z)) (h p),I.hok,I.len⟩
theorem mC{N:List Str}(hN:N.Nodup) {i j:Nat}{x:Str}(a:N[i]? = some x)(b:N[j]? = some x):i=j:=by
 obtain⟨h1,e1⟩:=List.getElem?_eq_some_iff.mp a;obtain⟨h2,e2⟩:=List.getElem?_eq_some_iff.mp b;exact (List.getElem_inj hN).mp (e1.trans e2.symm)
theorem jR{M:Model}{A:Around}{E:Value->Shared->Prop}{i:Nat}{x:Str}{v:V}{u:Value}{Q:Unit->Shared->Prop}(I:au X pins σ H s)(hN:X.N.Nodup)(hi:X.N[i]? = some x)(hx:ua X.env.scope x)(r:aV v u)
  (h:∀s',au X pins (σ.set i (some v)) H s'->(∃a,Heap.SameBut a s.heap s'.heap/\(a=X.env.locals\/X.env.cells.lookup x=some a))->Q PUnit.unit s')(hf:X.fn x=true\/X.env.scope.names.lookup x=some .local:=by first|exact .inl rfl|exact .inr rfl|assumption):wpAny M A (storeName X.env x u) Q E s:=by
 obtain⟨m,hn,hl⟩:=id I.loc;have hcls:(X.env.scope.kind == .class || (X.env.scope.kind == .module && X.env.locals != X.env.globals))=false:=by rw[I.ok.kind];rfl
 have hiσ:i<σ.length:=by rw[I.len];exact (List.getElem?_eq_some_iff.mp hi).1
 have cne:=I.cne;have tracked:∀{a:Addr}{h':Heap},(∃o,s.heap.get? a=some o/\H a=none)->Heap.SameBut a s.heap h'->gG X.prog X.w H h':=λ{a h'} ha hs b ob e=>by
  obtain⟨_,_,hfree⟩:=ha;refine (I.hok b ob e).stay (λc w' hc q=>(hs.2 c ?_).trans q) (λ_ q=>q) λ_ _ q=>q;rintro rfl;rcases hc with rfl|hc
  .rw[hfree] at e;cases e
  .rw[hfree] at hc;cases hc
 rcases hx with hk|hk
 .refine wpAny_storeName_local hk hn (λh' hn' hs=>?_) hcls;obtain⟨oL,_,_,hoL,_⟩:=id hn;refine h _ ⟨I.ok,I.os,I.bare,⟨λb o e n hb hx=>?_,λb o e n hb hx=>?_,I.base.free,λb o e hx=>?_,I.base.tups,I.base.frzs,I.base.tbls⟩,⟨_,hn',λj y v' e1 e2 e3=>?_⟩,λy c e=>?_,I.free,I.freeC,λp hp=>?_,tracked ⟨oL,hoL,I.free⟩ hs,by simpa using I.len⟩ ⟨_,hs,.inl rfl⟩
  .exact (hs.2 b (Jf (Jd (Heap.lt_size e) I.ok.above))).trans (I.base.keep b o e n hb hx)
  .obtain⟨sl,e1⟩:=I.base.slot b o e n hb hx;exact⟨sl,(hs.2 b (Jf (Jd (Heap.lt_size e) I.ok.above))).trans e1⟩
  .obtain⟨o',e1⟩:=I.base.there b o e hx;exact⟨o',(hs.2 b (Jf (Jd (Heap.lt_size e) I.ok.above))).trans e1⟩
  .by_cases hj:j=i
   .subst hj;rw[hi] at e1;cases e1;rw[List.getElem?_set_self hiσ] at e2;cases e2;exact⟨u,r,.inl ⟨hk,by simp⟩⟩
   .rw[List.getElem?_set_ne (Ne.symm hj)] at e2;obtain⟨u',r',q⟩:=hl j y v' e1 e2 e3;refine⟨u',r',?_⟩;rcases q with ⟨k,e⟩|⟨k,c,e,z⟩
    .refine .inl ⟨k,?_⟩;have:y≠x:=λe=>hj (mC hN e1 (e▸hi));simp[this,e]
    .exact .inr ⟨k,c,e,z.sameBut hs (cne y c e)⟩
  .obtain⟨w',z⟩:=I.cell y c e;exact⟨w',z.sameBut hs (cne y c e)⟩
  .obtain⟨e,n,ne,nf,d⟩:=I.pin p hp;exact⟨(hs.2 p.1 ne).trans e,n,ne,nf,d⟩
 .have hfn:X.fn x=true:=by
   rcases hf with z|z
   .exact z
   .rw[z] at hk;cases hk
  obtain⟨c,hc⟩:=I.ok.has x (.inl hk);obtain⟨w',z⟩:=I.cell x c hc;refine wpAny_storeName_cell I.ok.kind hk hc z (λh' hc' hs=>?_);obtain⟨oc,hoc,hocd⟩:=id z;refine h { s with heap:=h' } ⟨I.ok,I.os,I.bare,⟨λb o e n hb hx=>?_,λb o e n hb hx=>?_,I.base.free,λb o e hx=>?_,I.base.tups,I.base.frzs,I.base.tbls⟩,⟨m,hn.sameBut hs (Ne.symm (cne x c hc)),λj y v' e1 e2 e3=>?_⟩,λy c' e=>?_,I.free,I.freeC,λp hp=>?_,tracked ⟨oc,hoc,I.freeC x c hc⟩ hs,by simpa using I.len⟩ ⟨c,hs,.inr hc⟩
  .exact (hs.2 b (Jf (Jd (Heap.lt_size e) (I.ok.cab x c hfn hc)))).trans (I.base.keep b o e n hb hx)
  .obtain⟨sl,e1⟩:=I.base.slot b o e n hb hx;exact⟨sl,(hs.2 b (Jf (Jd (Heap.lt_size e) (I.ok.cab x c hfn hc)))).trans e1⟩
  .obtain⟨o',e1⟩:=I.base.there b o e hx;exact⟨o',(hs.2 b (Jf (Jd (Heap.lt_size e) (I.ok.cab x c hfn hc)))).trans e1⟩
  .by_cases hj:j=i
   .subst hj;rw[hi] at e1;cases e1;rw[List.getElem?_set_self hiσ] at e2;cases e2;exact⟨u,r,.inr ⟨.inl hk,c,hc,hc'⟩⟩
   .rw[List.getElem?_set_ne (Ne.symm hj)] at e2;obtain⟨u',r',q⟩:=hl j y v' e1 e2 e3;refine⟨u',r',?_⟩;rcases q with q|⟨k,c',e,z'⟩
    .exact .inl q
    .refine .inr ⟨k,c',e,z'.sameBut hs ?_⟩;rintro rfl;exact hj (mC hN e1 (I.ok.inj _ _ _ e hc▸hi))
  .by_cases hcc:c'=c
   .subst hcc;exact⟨_,hc'⟩
   .obtain⟨w2,z2⟩:=I.cell y c' e;exact⟨w2,z2.sameBut hs hcc⟩
  .obtain⟨e,n,ne,nf,d⟩:=I.pin p hp;refine⟨(hs.2 p.1 ?_).trans e,n,ne,nf,d⟩;intro q;rw[q,hoc] at e;have q':oc=p.2:=Ji e;exact d w' (by rw[<-q'];exact hocd)
theorem e7{M:Model}{A:Around}{E:Value->Shared->Prop}{i:Nat}{x:Str}{v:V}{u:Value}{Q:Unit->Shared->Prop}(I:au X pins σ H s)(hN:X.N.Nodup)(hi:X.N[i]? = some x)(hx:ua X.env.scope x)(r:aV v u)
  (h:∀s',au X pins (σ.set i (some v)) H s'->Q PUnit.unit s')(hf:X.fn x=true\/X.env.scope.names.lookup x=some .local:=by first|exact .inl rfl|exact .inr rfl|assumption):wpAny M A (storeName X.env x u) Q E s :=
 jR I hN hi hx r (λs' I' _=>h s' I') hf
theorem au.call'{s':Shared}{ch:List Addr}(I:au X pins σ H s)(ho:s'.os=s.os)(u:Un (fG X.stack) ch H H' s.heap s'.heap)(hok:gG X.prog X.w H' s'.heap)(hg:AllBare s'.gens)
  (hch:∀b∈ch,(b∈X.ex\/X.s₀.heap.objs.size<=b)/\b≠X.env.locals/\(∀x c,X.env.cells.lookup x=some c->c≠b) /\ ∀p∈X.pn++pins,p.1≠b):au X pins σ H' s':=by
 obtain⟨h',g',d',t',o'⟩:=s';have e:o'=s.os:=ho;subst e;exact I.call (g':=g') (t':=t') (d':=d') u hok hg hch
end
abbrev XK:=Value->Option Addr->Hp->Prop
abbrev St:=List (Option V)
abbrev VK:=V->Hp->Prop
abbrev TE:=St->Hp->VK->Prop
abbrev TT:=St->Hp->(Bool->Hp->Prop)->Prop
abbrev TA:=St->Hp->(List V->Hp->Prop)->Prop
structure iC where
 nx:St->Hp->Prop
 rt:VK
 bk:St->Hp->Prop:=λ_ _=>False
 ct:St->Hp->Prop:=λ_ _=>False
abbrev TS:=iC->St->Hp->Prop
def EP(X:Cx)(pins:List (Addr×Obj))(σ:St)(Q:VK)(u:Value)(s':Shared):Prop:=∃v H',au X pins σ H' s'/\aV v u/\Q v H'
def TP(X:Cx)(pins:List (Addr×Obj))(σ:St)(Q:Bool->Hp->Prop)(b:Bool)(s':Shared):Prop:=∃H',au X pins σ H' s'/\Q b H'
def AP(X:Cx)(pins:List (Addr×Obj))(σ:St)(Q:List V->Hp->Prop)(us:List Value)(s':Shared):Prop:=∃vs H',au X pins σ H' s'/\aJ vs us/\Q vs H'
def SP(X:Cx)(pins:List (Addr×Obj))(D:iC)(f:Flow)(s':Shared):Prop :=
 match f with
 | .next=>∃σ' H',au X pins σ' H' s'/\D.nx σ' H'
 | .brk=>∃σ' H',au X pins σ' H' s'/\D.bk σ' H'
 | .cont=>∃σ' H',au X pins σ' H' s'/\D.ct σ' H'
 | .ret u=>∃v σ' H',au X pins σ' H' s'/\aV v u/\D.rt v H'
def PE(X:Cx)(e:Expr)(t:TE):Prop :=
 ∀(pins:List (Addr×Obj))(s:Shared)(σ:St)(H:Hp)(Q:VK),au X pins σ H s->t σ H Q->wpAny (model X.prog X.w) X.A (eval e X.env) (EP X pins σ Q) X.xe s
def PT(X:Cx)(e:Expr)(t:TT):Prop :=
 ∀(pins:List (Addr×Obj))(s:Shared)(σ:St)(H:Hp)(Q:Bool->Hp->Prop),au X pins σ H s->t σ H Q->wpAny (model X.prog X.w) X.A (isTrue e X.env (eval e X.env)) (TP X pins σ Q) X.xe s
def PW(X:Cx)(e:Expr)(t:TT):Prop :=
 ∀(whole:Sem Value)(pins:List (Addr×Obj))(s:Shared)(σ:St)(H:Hp)(Q:Bool->Hp->Prop),au X pins σ H s->t σ H Q->wpAny (model X.prog X.w) X.A (isTrue e X.env whole) (TP X pins σ Q) X.xe s
theorem PW.pt{X:Cx}{e:Expr}{t:TT}(h:PW X e t):PT X e t:=h _
def PA(X:Cx)(es:List Expr)(t:TA):Prop :=
 ∀(pos:Pos)(pins:List (Addr×Obj))(s:Shared)(σ:St)(H:Hp)(Q:List V->Hp->Prop),au X pins σ H s->t σ H Q->wpAny (model X.prog X.w) X.A (spliced (backTo pos (starEach es X.env))) (AP X pins σ Q) X.xe s
def PS(X:Cx)(st:Stmt)(t:TS):Prop :=
 ∀(pins:List (Addr×Obj))(s:Shared)(σ:St)(H:Hp)(D:iC),au X pins σ H s->t D σ H->wpAny (model X.prog X.w) X.A (exec st X.env) (SP X pins D) X.xe s
def mS(X:Cx)(st:List Stmt)(t:TS):Prop :=
 ∀(pins:List (Addr×Obj))(s:Shared)(σ:St)(H:Hp)(D:iC),au X pins σ H s->t D σ H->wpAny (model X.prog X.w) X.A (execs st X.env) (SP X pins D) X.xe s
theorem bi{α:Type}{t:Sem α}{Q Q':α->Shared->Prop}{M:Model}{A:Around}{E:Value->Shared->Prop}{s:Shared}(h:wpAny M A t Q E s)(hQ:∀a s,Q a s->Q' a s):wpAny M A t Q' E s:=wpAny_mono h hQ λ_ _ x=>x
section
variable {X:Cx}
def uk(i:Nat):TE:=λσ H Q=>∃v,σ[i]? = some (some v)/\Q v H
def tC(v:V):TE:=λ_ H Q=>Q v H
theorem yd{i:Nat}{x:Str}{pos:Pos}(hN:X.N[i]? = some x)(hv:zp X.env.scope x)(hd:(x==("__debug__" : Str))=false:=by decide) (hcd:(x==("__classdict__" : Str))=false:=by decide):PE X (.Name x pos) (uk i):=by
 intro pins s σ H Q I h;obtain⟨v,e,h⟩:=h;obtain⟨m,hn,hl⟩:=I.loc;obtain⟨u,r,l⟩:=hl i x v hN e hv;have fin:EP X pins σ Q u s:=⟨v,H,I,r,h⟩;rcases l with ⟨hk,hm⟩|⟨hk,c,hc,hcell⟩
 .exact wpAny_Name (wpAny_loadName_local I.ok.kind hk hn hm fin) hd
 .rcases hk with hk|hk
  .exact wpAny_Name (wpAny_loadName_cell I.ok.kind hk hc hcell fin) hd
  .exact wpAny_Name (wpAny_loadName_free I.ok.kind hk hc hcell fin hcd) hd
theorem xL {i j pos}:PE X (.Constant (.int i) j pos) (tC (.int i)):=λ_ _ _ H _ I h=>wpAny_Constant_int ⟨.int i,H,I.tok _,⟨_,rfl⟩,h⟩
theorem zO {b j pos}:PE X (.Constant (.bool b) j pos) (tC (.bl b)):=λ_ _ _ H _ I h=>Constant_bool ⟨.bl b,H,I,rfl,h⟩
theorem yv {j pos}:PE X (.Constant .none j pos) (tC .non):=λ_ _ _ H _ I h=>Constant_none ⟨.non,H,I,rfl,h⟩
theorem xt {x j pos}:PE X (.Constant (.str x) j pos) (tC (.str x)):=λ_ _ _ H _ I h=>Calls.Constant_str ⟨.str x,H,I.tok _,⟨_,rfl⟩,h⟩
def Gl(X:Cx)(x:Str):Prop:=X.env.kindOf x=some .globalImplicit
theorem gD{E:Value->Shared->Prop}{pins:List (Addr×Obj)}{s:Shared}{σ:St}{H:Hp}{x:Str}{u:Value}{pos:Pos}{Q:Value->Shared->Prop}(I:au X pins σ H s)(hg:Gl X x)(hm:X.mg x=some u)(h:Q u s)
  (hd:(x==("__debug__" : Str))=false:=by decide):wpAny (model X.prog X.w) X.A (eval (.Name x pos) X.env) Q E s :=
 Calls.Name_function_global I.ok.kind hg (Calls.loadGlobal_global (by rw[I.ok.glob];exact I.mod.glob.keeps I.bk) hm h) hd
theorem jr{E:Value->Shared->Prop}{pins:List (Addr×Obj)}{s:Shared}{σ:St}{H:Hp}{x:Str}{u:Value}{pos:Pos}{Q:Value->Shared->Prop}(I:au X pins σ H s)(hg:Gl X x)(hm:X.mg x=none)(hv:bootBuiltins x=some u)(h:Q u s)
  (hn:x ≠ "__name__":=by decide) (hd:(x==("__debug__" : Str))=false:=by decide):wpAny (model X.prog X.w) X.A (eval (.Name x pos) X.env) Q E s:=by
 obtain⟨mb,h1,h2⟩:=I.mod.blt;exact Calls.Name_function_global I.ok.kind hg (Calls.loadGlobal_builtin (by rw[I.ok.glob];exact I.mod.glob.keeps I.bk) hm (by rw[I.ok.blt];exact h1.keeps I.bk) ((h2 x hn).trans hv) h) hd
theorem uv{x:Str}{v:V}{u:Value}{pos:Pos}(hg:Gl X x)(hm:X.mg x=some u)(r:aV v u)(hd:(x==("__debug__" : Str))=false:=by decide):PE X (.Name x pos) (tC v) :=
 λ_ _ _ H _ I h=>gD I hg hm ⟨v,H,I,r,h⟩ hd
variable {a b:Expr}{ta tb:TE}{pos:Pos}
def tB(t:TE):TT:=λσ H Q=>t σ H λx H1=>∃c,x=.bl c/\Q c H1
theorem xa{e:Expr}{t:TE}(h:PE X e t)(he:∀whole,isTrue e X.env whole=(do let v <-whole;standAt e.pos;holding [v] (truthy v)):=by intro _;rfl):PT X e (tB t):=by
 intro pins s σ H Q I hw;refine isTrue_plain (bi (h pins s σ H _ I hw) λv s1 ⟨x,H1,I1,r1,q1⟩=>?_) (he _);obtain⟨d,rfl,q⟩:=q1;cases r1;exact wpAny_truthy_bool ⟨H1,I1,q⟩
variable {tA tB':TT}{cG:List Expr}
def xJ(t u:TT):TT:=λσ H Q=>t σ H λc H1=>if c=true then u σ H1 Q else Q false H1
def AM(t u:TT):TT:=λσ H Q=>t σ H λc H1=>if c=true then Q true H1 else u σ H1 Q
def xF(t:TT):TT:=λσ H Q=>t σ H λc H1=>Q (!c) H1
theorem vD(ha:PT X a tA):PW X (.BoolOp .And [a] pos) tA:=by
 intro wh pins s σ H Q I h;refine isTrue_and (bi (ha pins s σ H Q I h) λc s1 e=>?_);cases c with
 | true=>exact isTrue_and_nil e
 | false=>exact e
theorem xC(ha:PT X a tA):PW X (.BoolOp .Or [a] pos) tA:=by
 intro wh pins s σ H Q I h;refine isTrue_or (bi (ha pins s σ H Q I h) λc s1 e=>?_);cases c with
 | false=>exact isTrue_or_nil e
 | true=>exact e
theorem ye(ha:PT X a tA)(hb:PW X (.BoolOp .And (b::cG) pos) tB'):PW X (.BoolOp .And (a::b::cG) pos) (xJ tA tB'):=by
 intro wh pins s σ H Q I h;refine isTrue_and (bi (ha pins s σ H _ I h) λc s1 ⟨H1,I1,q1⟩=>?_);cases c with
 | true=>exact hb wh pins s1 σ H1 Q I1 q1
 | false=>exact⟨H1,I1,q1⟩
theorem zk(ha:PT X a tA)(hb:PW X (.BoolOp .Or (b::cG) pos) tB'):PW X (.BoolOp .Or (a::b::cG) pos) (AM tA tB'):=by
 intro wh pins s σ H Q I h;refine isTrue_or (bi (ha pins s σ H _ I h) λc s1 ⟨H1,I1,q1⟩=>?_);cases c with
 | true=>exact⟨H1,I1,q1⟩
 | false=>exact hb wh pins s1 σ H1 Q I1 q1
theorem xh(ha:PT X a tA):PT X (.UnaryOp .Not a pos) (xF tA):=by
 intro pins s σ H Q I h;exact isTrue_not (ha pins s σ H (λc H1=>Q (!c) H1) I h)
def ph(ta tb:TE):TE:=λσ H Q=>ta σ H λx H1=>∃c,x=.bl c/\if c=true then tb σ H1 Q else Q (.bl false) H1
def uA(ta tb:TE):TE:=λσ H Q=>ta σ H λx H1=>∃c,x=.bl c/\if c=true then Q (.bl true) H1 else tb σ H1 Q
def wR(ta:TE):TE:=λσ H Q=>ta σ H λx H1=>∃c,x=.bl c/\Q (.bl (!c)) H1
theorem xA {op}{t:TE}(h:PE X a t):PE X (.BoolOp op [a] pos) t:=λpins s σ H Q I hw=>BoolOp_one (h pins s σ H Q I hw)
theorem xy(ha:PE X a ta)(hb:PE X (.BoolOp .And (b::cG) pos) tb):PE X (.BoolOp .And (a::b::cG) pos) (ph ta tb):=by
 intro pins s σ H Q I h;refine BoolOp_and (bi (ha pins s σ H _ I h) λv s1 ⟨x,H1,I1,r1,q1⟩=>?_);obtain⟨c,rfl,q1⟩:=q1;cases r1;refine wpAny_truthy_bool ?_;cases c with
 | true=>exact hb pins s1 σ H1 Q I1 q1
 | false=>exact⟨.bl false,H1,I1,rfl,q1⟩
theorem z8(ha:PE X a ta)(hb:PE X (.BoolOp .Or (b::cG) pos) tb):PE X (.BoolOp .Or (a::b::cG) pos) (uA ta tb):=by
 intro pins s σ H Q I h;refine BoolOp_or (bi (ha pins s σ H _ I h) λv s1 ⟨x,H1,I1,r1,q1⟩=>?_);obtain⟨c,rfl,q1⟩:=q1;cases r1;refine wpAny_truthy_bool ?_;cases c with
 | false=>exact hb pins s1 σ H1 Q I1 q1
 | true=>exact⟨.bl true,H1,I1,rfl,q1⟩
def Ax(t:TT)(ta tb:TE):TE:=λσ H Q=>t σ H λc H1=>if c=true then ta σ H1 Q else tb σ H1 Q
theorem rL{c:Expr}(hc:PT X c tA)(ha:PE X a ta)(hb:PE X b tb):PE X (.IfExp c a b pos) (Ax tA ta tb):=by
 intro pins s σ H Q I h;refine wpAny_IfExp (bi (hc pins s σ H _ I h) λd s1 ⟨H1,I1,q1⟩=>?_);cases d with
 | true=>exact ha pins s1 σ H1 Q I1 q1
 | false=>exact hb pins s1 σ H1 Q I1 q1
end
def f6(K:W.Frag)(H:Hp)(a:Addr)(xs:List V):Prop :=
 Rd H a (.lst xs) \/
  ∃(o:Obj)(its:Array Value)(n:Nat),K.lookup a=some o/\o.cls=.type "list" /\ o.dict=none/\o.data=.seq its n/\its.size<=sizeLine/\aJ xs its.toList
def oA(K:W.Frag)(H:Hp)(a:Addr)(xs:List V):Prop :=
 Rd H a (.tup xs) \/
  ∃(o:Obj)(its:Array Value)(n:Nat),K.lookup a=some o/\o.cls=.type "tuple" /\ o.data=.seq its n/\its.size<=sizeLine/\aJ xs its.toList
def zJ:Value->Option V
 | .none=>some .non
 | .bool b=>some (.bl b)
 | .int i _=>some (.int i)
 | .str x _=>some (.str x)
 | .bytes b _=>some (.byt b)
 | .float b _=>some (.flt b)
 | .ref a=>some (.ref a)
 | .type n=>some (.ty n)
 | _=>none
theorem aV.abs{x:V}{u:Value}(r:aV x u):zJ u=some x:=by
 cases x with
 | non=>cases r;rfl
 | bl _=>cases r;rfl
 | int _=>obtain⟨t,rfl⟩:=r;rfl
 | str _=>obtain⟨t,rfl⟩:=r;rfl
 | byt _=>obtain⟨t,rfl⟩:=r;rfl
 | flt _=>obtain⟨t,rfl⟩:=r;rfl
 | ref _=>cases r;rfl
 | ty _=>cases r;rfl
theorem aV.inj{x y:V}{u:Value}(r:aV x u)(q:aV y u):x=y:=Ji (r.abs.symm.trans q.abs)
theorem aJ.inj:∀{xs ys:List V}{us:List Value},aJ xs us->aJ ys us->xs=ys
 | _,_,_,.nil,.nil=>rfl
 | _,_,_,.cons r t,.cons r' t'=>by rw[r.inj r',aJ.inj t t']
section
variable {X:Cx}{pins:List (Addr×Obj)}{σ:St}{H:Hp}{s:Shared}{a:Addr}{xs ys:List V}
theorem f6.of{K:W.Frag}(h:H a=some (.lst xs)):f6 K H a xs:=.inl (.inl h)
theorem oA.of{K:W.Frag}(h:H a=some (.tup xs)):oA K H a xs:=.inl (.inl h)
theorem au.list(I:au X pins σ H s)(h:f6 X.K H a xs):∃its:List Value,aJ xs its/\PlainL s.heap a its.toArray/\xs.length<=sizeLine:=by
 rcases h with h|⟨o,its,n,hk,hc,hd,hs,hz,r⟩
 .obtain⟨z,its,n,r,e⟩:=h.ok I.hok;exact⟨its,r,⟨_,n,e,rfl,rfl,rfl⟩,z⟩
 .refine⟨its.toList,r,⟨o,n,I.kIn a o hk,hc,hd,by simpa using hs⟩,?_⟩
  have e:=r.length;simp only[Array.length_toList] at e;nofun
theorem au.tuple(I:au X pins σ H s)(h:oA X.K H a xs):∃its:List Value,aJ xs its/\IsTup s.heap a its.toArray/\xs.length<=sizeLine:=by
 rcases h with h|⟨o,its,n,hk,hc,hs,hz,r⟩
 .obtain⟨z,its,r,p⟩:=h.ok I.hok;exact⟨its,r,p,z⟩
 .refine⟨its.toList,r,⟨o,I.kIn a o hk,hc,n,by simpa using hs⟩,?_⟩
  have e:=r.length;simp only[Array.length_toList] at e;nofun
theorem au.list_inj(I:au X pins σ H s)(h:f6 X.K H a xs)(h':f6 X.K H a ys):xs=ys:=by
 obtain⟨its,r,⟨o,n,e,_,_,d⟩,_⟩:=I.list h;obtain⟨its',r',⟨o',n',e',_,_,d'⟩,_⟩:=I.list h';rw[e] at e';cases e';rw[d] at d';injection d' with d1 _
 have:its=its':=by simpa using Jj Array.toList d1
 subst this;exact r.inj r'
end
abbrev Cx.wish (X:Cx)(E:Value->Shared->Prop):Cx:={ X with xe:=E }
abbrev Cx.nox (X:Cx):Cx:=X.wish λ_ _=>False
theorem Cx.Ok.wish{X:Cx}(ok:X.Ok)(E:Value->Shared->Prop):(X.wish E).Ok :=
 ⟨ok.mod,ok.kind,ok.glob,ok.blt,ok.above,ok.inj,ok.has,ok.cab,ok.hd,ok.frames,ok.stk,ok.exf,ok.bs,ok.bsz,ok.noex,ok.exfs,ok.funs,ok.frf⟩
theorem Cx.Ok.unwish{X:Cx}{E:Value->Shared->Prop}(ok:(X.wish E).Ok):X.Ok :=
 ⟨ok.mod,ok.kind,ok.glob,ok.blt,ok.above,ok.inj,ok.has,ok.cab,ok.hd,ok.frames,ok.stk,ok.exf,ok.bs,ok.bsz,ok.noex,ok.exfs,ok.funs,ok.frf⟩
section
variable {X:Cx}{pins:List (Addr×Obj)}{σ:St}{H:Hp}{s:Shared}{E:Value->Shared->Prop}
theorem au.wish(I:au X pins σ H s)(E:Value->Shared->Prop):au (X.wish E) pins σ H s:=⟨I.ok.wish E,I.os,I.bare,I.base,I.loc,I.cell,I.free,I.freeC,I.pin,I.hok,I.len⟩
theorem au.unwish(I:au (X.wish E) pins σ H s):au X pins σ H s:=⟨I.ok.unwish,I.os,I.bare,I.base,I.loc,I.cell,I.free,I.freeC,I.pin,I.hok,I.len⟩
theorem SP.unwish{D:iC}{f:Flow}{s':Shared}(h:SP (X.wish E) pins D f s'):SP X pins D f s':=by
 cases f with
 | next=>obtain⟨σ',H',I,q⟩:=h;exact⟨σ',H',I.unwish,q⟩
 | brk=>obtain⟨σ',H',I,q⟩:=h;exact⟨σ',H',I.unwish,q⟩
 | cont=>obtain⟨σ',H',I,q⟩:=h;exact⟨σ',H',I.unwish,q⟩
 | ret u=>obtain⟨v,σ',H',I,r,q⟩:=h;exact⟨v,σ',H',I.unwish,r,q⟩
theorem mS.nox{st:List Stmt}{t:TS}(h:mS X.nox st t):mS X st t:=λpins s σ H D I hw =>
 wpAny_mono (h pins s σ H D (I.wish _) hw) (λ_ _ q=>q.unwish) λ_ _ z=>False.elim z
end
section
variable {X:Cx}{st:Stmt}{cG:List Stmt}{t u:TS}{e:Expr}{te:TE}{pos:Pos}
def sX:TS:=λD σ H=>D.nx σ H
def aU(t u:TS):TS:=λD σ H=>t { D with nx:=u D } σ H
theorem vN:mS X [] sX:=λ_ _ σ H _ I h=>wpAny_execs_nil ⟨σ,H,I,h⟩
theorem sA(h1:PS X st t)(h2:mS X cG u):mS X (st::cG) (aU t u):=by
 intro pins s σ H D I h;refine wpAny_execs_cons (bi (h1 pins s σ H { D with nx:=u D } I h) λf s1 q=>?_)
 cases f with
 | next =>
  obtain⟨σ',H',I',q⟩:=q;exact h2 pins s1 σ' H' D I' q
 | ret v=>exact q
 | brk=>exact q
 | cont=>exact q
theorem vo(h1:PS X st t):mS X [st] t:=by
 intro pins s σ H D I h;refine wpAny_execs_cons (bi (h1 pins s σ H D I h) λf s1 q=>?_);cases f with
 | next=>exact wpAny_execs_nil q
 | ret v=>exact q
 | brk=>exact q
 | cont=>exact q
theorem au.quiet{pins:List (Addr×Obj)}{σ:St}{H:Hp}{s:Shared}(I:au X pins σ H s):interactive X.env=false:=by simp[interactive,I.ok.kind]
def sL(te:TE):TS:=λD σ H=>te σ H λ_ H1=>D.nx σ H1
theorem vq(he:PE X e te)(hs:swapsWith e none pos.line X.env=pure false:=by rfl):PS X (.Expr e pos) (sL te):=by
 intro pins s σ H D I h;exact wpAny_Expr_any (bi (he pins s σ H _ I h) λv s1 ⟨x,H1,I1,r1,q1⟩=>⟨σ,H1,I1,q1⟩) I.quiet hs
def xP(te:TE):TS:=λD σ H=>te σ H D.rt
theorem yx(he:PE X e te):PS X (.Return (some e) pos) (xP te):=by
 intro pins s σ H D I h;exact wpAny_Return_some (bi (he pins s σ H _ I h) λv s1 ⟨x,H1,I1,r1,q1⟩=>⟨x,σ,H1,I1,r1,q1⟩)
def zV:TS:=λD _ H=>D.rt .non H
def wU(c:TT)(t u:TS):TS:=λD σ H=>c σ H λb H1=>if b=true then t D σ H1 else u D σ H1
theorem zh{c:Expr}{a b:List Stmt}{tc:TT}(hc:PT X c tc)(ha:mS X a t)(hb:mS X b u):PS X (.If c a b pos) (wU tc t u):=by
 intro pins s σ H D I h;refine wpAny_If (bi (hc pins s σ H _ I h) λd s1 ⟨H1,I1,q1⟩=>?_);cases d with
 | true=>exact ha pins s1 σ H1 D I1 q1
 | false=>exact hb pins s1 σ H1 D I1 q1
def ot:TS:=λ_ _ _=>False
theorem rm:PS X st ot:=λ_ _ _ _ _ _ h=>h.elim
end
abbrev TG:=V->St->Hp->(St->Hp->Prop)->Prop
abbrev re:=List V->St->Hp->(St->Hp->Prop)->Prop
def PG(X:Cx)(target:Expr)(t:TG):Prop :=
 ∀(pins:List (Addr×Obj))(s:Shared)(σ:St)(H:Hp)(v:V)(u:Value)(Q:St->Hp->Prop),au X pins σ H s->aV v u->t v σ H Q ->
  wpAny (model X.prog X.w) X.A (assign target X.env u) (λ_ s'=>∃σ' H',au X pins σ' H' s'/\Q σ' H') X.xe s
def yZ(X:Cx)(ts:List Expr)(t:re):Prop :=
 ∀(pins:List (Addr×Obj))(s:Shared)(σ:St)(H:Hp)(vs:List V)(us:List Value)(Q:St->Hp->Prop),au X pins σ H s->aJ vs us->t vs σ H Q ->
  wpAny (model X.prog X.w) X.A (assignInOrder ((assignEach ts X.env).map (·.2)) us) (λ_ s'=>∃σ' H',au X pins σ' H' s'/\Q σ' H') X.xe s
abbrev m8:=V->V->V->Hp->(Hp->Prop)->Prop
def qH(X:Cx)(t:m8):Prop :=
 ∀(pins:List (Addr×Obj))(s:Shared)(σ:St)(H:Hp)(o i v:V)(ov iv u:Value)(Q:Hp->Prop),au X pins σ H s->aV o ov->aV i iv->aV v u->t o i v H Q ->
  wpAny (model X.prog X.w) X.A (setItem ov iv u) (λ_ s'=>∃H',au X pins σ H' s'/\Q H') X.xe s
abbrev ub:=V->V->Hp->VK->Prop
def yi(X:Cx)(op:Operator)(t:ub):Prop :=
 ∀(pins:List (Addr×Obj))(s:Shared)(σ:St)(H:Hp)(x y:V)(v u:Value)(Q:VK),au X pins σ H s->aV x v->aV y u->t x y H Q ->
  wpAny (model X.prog X.w) X.A (inplaceOp op v u) (EP X pins σ Q) X.xe s
section
variable {X:Cx}{pos:Pos}
def dR(i:Nat):TG:=λv σ H Q=>Q (σ.set i (some v)) H
theorem u6{i:Nat}{x:Str}(hN:X.N.Nodup)(hi:X.N[i]? = some x)(hx:ua X.env.scope x)(hf:X.fn x=true\/X.env.scope.names.lookup x=some .local:=by first|exact .inl rfl|exact .inr rfl|assumption):PG X (.Name x pos) (dR i):=by
 intro pins s σ H v u Q I r h;exact wpAny_assign_Name (e7 I hN hi hx r (λs' I'=>⟨_,H,I',h⟩) hf)
def ny:re:=λvs σ H Q=>vs=[]/\Q σ H
def fQ(t:TG)(u:re):re:=λvs σ H Q=>∃v r,vs=v::r/\t v σ H λσ' H'=>u r σ' H' Q
theorem wj:yZ X [] ny:=by
 intro pins s σ H vs us Q I r h;obtain⟨e,h⟩:=h;subst e;cases r;exact assignInOrder_nil ⟨σ,H,I,h⟩
theorem sd{e:Expr}{es:List Expr}{t:TG}{u:re}(h1:PG X e t)(h2:yZ X es u)
  (hs:(assignEach (e::es) X.env).map (·.2)=assign e X.env::(assignEach es X.env).map (·.2):=by rfl):yZ X (e::es) (fQ t u):=by
 intro pins s σ H vs us Q I r h;obtain⟨v,vr,e1,h⟩:=h;subst e1;cases r with
 | cons r rr =>
  rw[hs];refine assignInOrder_cons (bi (h1 pins s σ H _ _ _ I r h) λ_ s1 ⟨σ1,H1,I1,q1⟩=>?_);exact h2 pins s1 σ1 H1 _ _ Q I1 rr q1
def zK(K:W.Frag)(n:Nat)(t:re):TG:=λv σ H Q=>∃a xs,v=.ref a/\oA K H a xs/\xs.length=n/\t xs σ H Q
theorem x6{es:List Expr}{k:Nat}{t:re}{n:Nat}(hc:X.calm=true)(h:yZ X es t)
  (hn:(assignEach es X.env).length=n:=by rfl)(hst:(assignEach es X.env).findIdx? (·.1)=none:=by rfl):PG X (.Tuple es k pos) (zK X.K n t):=by
 intro pins s σ H v u Q I r hw;obtain⟨a,xs,e1,hq,hl,hw⟩:=hw;subst e1;cases r;obtain⟨its,rv,ht,hz⟩:=I.tuple hq;refine assign_Tuple_tuple (I.ok.hd hc) ht (by simp[hn,<-hl,rv.length]) hst λh' hx=>?_
 have I1:au X pins σ H { s with heap:=h' }:=I.kept (t':=s.toks) λb o e=>hx b o (Jf (Heap.lt_size e)) e
 exact h pins _ σ H xs _ Q I1 (by simpa using rv) hw
def xN(to ti:TE)(t:m8):TG:=λv σ H Q=>to σ H λo H1=>ti σ H1 λi H2=>t o i v H2 λH3=>Q σ H3
theorem yB{o i:Expr}{to ti:TE}{t:m8}(ho:PE X o to)(hi:PE X i ti)(hs:qH X t)
  (ha:∀v,assign (.Subscript o i pos) X.env v=(do
   let ov <-holding [v] (eval o X.env)
   let iv <-holding [v,ov] (eval i X.env)
   standAt pos
   holding [v,ov,iv] (setItem ov iv v)
   release [v,ov,iv] []):=by intro _;rfl):PG X (.Subscript o i pos) (xN to ti t):=by
 intro pins s σ H v u Q I r h;rw[ha];refine wpAny_bind (wpAny_holding (bi (ho pins s σ H _ I h) λov s1 ⟨x,H1,I1,r1,q1⟩=>?_));refine wpAny_bind (wpAny_holding (bi (hi pins s1 σ H1 _ I1 q1) λiv s2 ⟨y,H2,I2,r2,q2⟩=>?_));refine wpAny_bind (wpAny_standAt (wpAny_bind (wpAny_holding (bi (hs pins s2 σ H2 x y v ov iv u _ I2 r1 r2 r q2) λ_ s3 ⟨H3,I3,q3⟩=>?_))));exact wpAny_release ⟨σ,H3,I3,q3⟩
def m6(te:TE)(g:TG):TS:=λD σ H=>te σ H λx H1=>g x σ H1 D.nx
theorem xD{tg e:Expr}{te:TE}{g:TG}(he:PE X e te)(hg:PG X tg g)(hs:swapsWithSole [tg] e pos.line X.env=pure false:=by rfl)(hw:swappedStores [tg] e X.env=pure none:=by rfl)
  (h1:(assignEach [tg] X.env).map (·.2)=[assign tg X.env]:=by rfl):PS X (.Assign [tg] e pos) (m6 te g):=by
 intro pins s σ H D I h;refine wpAny_Assign_stores (bi (he pins s σ H _ I h) λv s1 ⟨x,H1,I1,r1,q1⟩=>?_) hs hw;rw[h1];exact bi (hg pins s1 σ H1 x v _ I1 r1 q1) λ_ s2 q=>q
theorem yj{i:Nat}{x:Str}{e:Expr}{te:TE}{pos':Pos}(hN:X.N.Nodup)(hi:X.N[i]? = some x)(hx:ua X.env.scope x)(he:PE X e te)(hs:swapsWith e (some (.Name x pos')) pos.line X.env=pure false:=by rfl)(hf:X.fn x=true\/X.env.scope.names.lookup x=some .local:=by first|exact .inl rfl|exact .inr rfl|assumption) :
  PS X (.Assign [.Name x pos'] e pos) (m6 te (dR i)):=by
 intro pins s σ H D I h;refine wpAny_Assign_Name (bi (he pins s σ H _ I h) λv s1 ⟨y,H1,I1,r1,q1⟩=>?_) hs;exact e7 I1 hN hi hx r1 (λs2 I2=>⟨_,H1,I2,q1⟩) hf
def vM(i j:Nat)(ta:TA):TS:=λD σ H=>ta σ H λvs H1=>∃v w,vs=[v,w]/\D.nx ((σ.set i (some v)).set j (some w)) H1
theorem yD{i j:Nat}{x y:Str}{a b:Expr}{ta:TA}{px py pt:Pos} {kt k2 pt2}(hc:X.calm=true)(hN:X.N.Nodup)(hi:X.N[i]? = some x)(hj:X.N[j]? = some y)(hij:i≠j)
  (hx:X.env.scope.names.lookup x=some .local)(hy:X.env.scope.names.lookup y=some .local)(ha:PA X [a,b] ta)
  (hw:swappedStores [.Tuple [.Name x px,.Name y py] kt pt] (.Tuple [a,b] k2 pt2) X.env=pure (some [x,y]))
  (hs:swapsWithSole [.Tuple [.Name x px,.Name y py] kt pt] (.Tuple [a,b] k2 pt2) pos.line X.env=pure false:=by rfl) :
  PS X (.Assign [.Tuple [.Name x px,.Name y py] kt pt] (.Tuple [a,b] k2 pt2) pos) (vM i j ta):=by
 intro pins s σ H D I h;rw[exec_Assign_arm];refine wpAny_bind (wpAny_standAt ?_);rw[hs];refine wpAny_bind (wpAny_pure ?_);rw[Jc ∅];refine wpAny_bind (Tuple_ (bi (ha _ pins s σ H _ I h) λus s1 ⟨vs,H1,I1,r1,q1⟩=>?_));obtain⟨v,w,e1,q1⟩:=q1;subst e1;obtain⟨u1,u2,rfl,rv,rw'⟩ : ∃u1 u2,us=[u1,u2]/\aV v u1/\aV w u2:=by
  cases r1 with
  | cons p q =>
   cases q with
   | cons p' q' =>
    cases q';exact⟨_,_,rfl,p,p'⟩
 refine wpAny_newObj_type ?_ (by show 2<=sizeLine;decide)
 have I2:au X pins σ H1 { s1 with heap:=s1.heap.push { cls:=.type "tuple",data:=.seq [u1,u2].toArray } }:=I1.kept (t':=s1.toks) λb o e=>Heap.get?_push_of_some _ e
 rw[hw];refine wpAny_bind (wpAny_pure ?_);show wpAny (model X.prog X.w) X.A (do rule "assign.swapped-stores";let items <-unpackItems (.ref s1.heap.objs.size) 2 none;assignInOrder [λv=>bindName X.env y v,λv=>bindName X.env x v] items.reverse;pure Flow.next) _ _ _
 refine wpAny_bind (wpAny_rule (wpAny_bind (unpackItems_tuple (items:=#[u1,u2]) (I.ok.hd hc) (IsTup.new s1.heap _) λh' hx'=>?_)));have I3:=I2.kept (h':=h') (t':=s1.toks) λb o e=>hx' b o (Jf (Heap.lt_size e)) e;show wpAny _ _ (assignInOrder [λv=>bindName X.env y v,λv=>bindName X.env x v] [u2,u1] >>= λ_=>pure Flow.next) _ _ _
 refine wpAny_bind (assignInOrder_cons (wpAny_bindName (e7 I3 hN hj (.inl hy) rw' (λs2 I4=>?_) (.inr hy))));refine assignInOrder_cons (wpAny_bindName (e7 I4 hN hi (.inl hx) rv (λs3 I5=>assignInOrder_nil (wpAny_pure ?_)) (.inr hx)));rw[List.set_comm _ _ (Ne.symm hij)] at I5;exact⟨_,H1,I5,q1⟩
def yf(i:Nat)(te:TE)(ti:ub):TS:=λD σ H=>∃x,σ[i]? = some (some x)/\te σ H λy H1=>ti x y H1 λz H2=>D.nx (σ.set i (some z)) H2
theorem yH{i:Nat}{x:Str}{e:Expr}{te:TE}{op:Operator}{ti:ub}{pos':Pos}(hN:X.N.Nodup)(hi:X.N[i]? = some x)(hx:ua X.env.scope x)(he:PE X e te)(ho:yi X op ti)(hf:X.fn x=true\/X.env.scope.names.lookup x=some .local:=by first|exact .inl rfl|exact .inr rfl|assumption) :
  PS X (.AugAssign (.Name x pos') op e pos) (yf i te ti):=by
 intro pins s σ H D I h;obtain⟨v,e1,h⟩:=h;obtain⟨m,hn,hl⟩:=I.loc;have vis:zp X.env.scope x:=by rcases hx with k|k;exact .inl k;exact .inr (.inl k)
 obtain⟨u,r,l⟩:=hl i x v hi e1 vis;refine wpAny_AugAssign_Name ?_;have go:wpAny (model X.prog X.w) X.A (eval e X.env) (λw s₂=>wpAny (model X.prog X.w) X.A (inplaceOp op u w) (λr s₃=>wpAny (model X.prog X.w) X.A (storeName X.env x r) (λ_=>SP X pins D .next) X.xe s₃) X.xe s₂) X.xe s:=by
  refine bi (he pins s σ H _ I h) λw s1 ⟨y,H1,I1,r1,q1⟩=>?_;refine bi (ho pins s1 σ H1 v y u w _ I1 r r1 q1) λz s2 ⟨zv,H2,I2,r2,q2⟩=>?_;exact e7 I2 hN hi hx r2 (λs3 I3=>⟨_,H2,I3,q2⟩) hf
 rcases l with ⟨hk,hm⟩|⟨hk,c,hc,hcell⟩
 .exact wpAny_loadName_local I.ok.kind hk hn hm go
 .rcases hk with hk|hk
  .exact wpAny_loadName_cell I.ok.kind hk hc hcell go
  .rcases hx with k|k
   .have:X.env.scope.names.lookup x=some .free:=hk;rw[k] at this;cases this
   .have:X.env.scope.names.lookup x=some .free:=hk;rw[k] at this;cases this
def pR(to ti te:TE)(tget:V->V->Hp->VK->Prop)(tip:ub)(tset:m8):TS:=λD σ H=>to σ H λo H1=>ti σ H1 λi H2=>tget o i H2 λx H3=>te σ H3 λy H4=>tip x y H4 λz H5=>tset o i z H5 λH6=>D.nx σ H6
def wV(X:Cx)(t:V->V->Hp->VK->Prop):Prop :=
 ∀(pins:List (Addr×Obj))(s:Shared)(σ:St)(H:Hp)(o i:V)(ov iv:Value)(Q:VK),au X pins σ H s->aV o ov->aV i iv->t o i H Q ->
  wpAny (model X.prog X.w) X.A (getItem ov iv) (EP X pins σ Q) X.xe s
theorem vW{o i e:Expr}{to ti te:TE}{tget:V->V->Hp->VK->Prop}{tip:ub}{tset:m8}{op:Operator}{tpos:Pos}(ho:PE X o to)(hi:PE X i ti)(hg:wV X tget)(he:PE X e te)(hp:yi X op tip)(hs:qH X tset)
  (ha:∀ov iv new,augStore i ov iv new=(do holding [new,ov,iv] (setItem ov iv new);release [new,ov,iv] [];pure .next):=by intros;rfl):PS X (.AugAssign (.Subscript o i tpos) op e pos) (pR to ti te tget tip tset):=by
 intro pins s σ H D I h;refine wpAny_AugAssign_SubscriptAny (bi (ho pins s σ H _ I h) λov s1 ⟨x1,H1,I1,r1,q1⟩=>?_) ha;refine bi (hi pins s1 σ H1 _ I1 q1) λiv s2 ⟨x2,H2,I2,r2,q2⟩=>?_;refine bi (hg pins s2 σ H2 x1 x2 ov iv _ I2 r1 r2 q2) λold s3 ⟨x3,H3,I3,r3,q3⟩=>?_;refine bi (he pins s3 σ H3 _ I3 q3) λv s4 ⟨x4,H4,I4,r4,q4⟩=>?_;refine bi (hp pins s4 σ H4 x3 x4 old v _ I4 r3 r4 q4) λnew s5 ⟨x5,H5,I5,r5,q5⟩=>?_;exact bi (hs pins s5 σ H5 x1 x2 x5 ov iv new _ I5 r1 r2 r5 q5) λ_ s6 ⟨H6,I6,q6⟩=>⟨σ,H6,I6,q6⟩
def Ak(f:Int->Int->Int):ub:=λx y H Q=>∃i j,x=.int i/\y=.int j/\Q (.int (f i j)) H
theorem yM:yi X .Add (Ak λi j=>i+j):=by
 intro pins s σ H x y v u Q I r1 r2 h;obtain⟨i,j,e1,e2,q⟩:=h;subst e1;subst e2;obtain⟨t,rfl⟩:=r1;obtain⟨t',rfl⟩:=r2;exact iadd_int ⟨.int _,H,I.tok _,⟨_,rfl⟩,q⟩
theorem k7:yi X .Sub (Ak λi j=>i-j):=by
 intro pins s σ H x y v u Q I r1 r2 h;obtain⟨i,j,e1,e2,q⟩:=h;subst e1;subst e2;obtain⟨t,rfl⟩:=r1;obtain⟨t',rfl⟩:=r2;exact isub_int ⟨.int _,H,I.tok _,⟨_,rfl⟩,q⟩
end
section
variable {X:Cx}{pos:Pos}
def rG(c:TT)(tb:TS):TS:=λD σ H=>∃W:Nat->St->Hp->Prop,(∃m,W m σ H) /\ ∀m σ H,W m σ H ->
 c σ H λb H1=>if b=true then ∃N:St->Hp->Prop,(∀σ' H',N σ' H' -> ∃m',m'<m/\W m' σ' H')/\tb { D with nx:=N,ct:=N,bk:=D.nx } σ H1 else D.nx σ H1
theorem tZ{c:Expr}{body:List Stmt}{tc:TT}{tb:TS}(hp:PassesOwn (model X.prog X.w) X.A X.env X.xe)(hc:PT X c tc)(hb:mS X body tb):PS X (.While c body [] pos) (rG tc tb):=by
 intro pins s σ H D I h;obtain⟨W,⟨m0,w0⟩,turn⟩:=h;refine wpAny_While (codeAny_whileLoop (λn s'=>∃σ' H',au X pins σ' H' s'/\W n σ' H') ?_ m0 ⟨σ,H,I,w0⟩);rintro n s1 ⟨σ1,H1,I1,w1⟩;refine wpAny_passesOwn hp (bi (hc pins s1 σ1 H1 _ I1 (turn n σ1 H1 w1)) λb s2 ⟨H2,I2,q2⟩=>?_);cases b with
 | true =>
  obtain⟨N,hN,q2⟩:=q2;rw[Jb rfl];refine wpAny_passesOwn hp (bi (hb pins s2 σ1 H2 _ I2 q2) λf s3 q3=>?_);cases f with
  | next =>
   obtain⟨σ3,H3,I3,n3⟩:=q3;obtain⟨m',hm,w3⟩:=hN σ3 H3 n3;exact⟨m',hm,σ3,H3,I3,w3⟩
  | cont =>
   obtain⟨σ3,H3,I3,n3⟩:=q3;obtain⟨m',hm,w3⟩:=hN σ3 H3 n3;exact⟨m',hm,σ3,H3,I3,w3⟩
  | brk=>exact q3
  | ret v=>exact q3
 | false =>
  rw[Jc Jk];exact wpAny_execs_nil ⟨σ1,H2,I2,q2⟩
end
structure It where
 go:Nat->Hp->Prop
 yld:Nat->Hp->V->Hp->Prop
 stop:Nat->Hp->Prop
def gU(X:Cx)(pins:List (Addr×Obj))(H:Hp)(b:Addr):Prop :=
 H b=none/\b≠X.env.locals/\b∉X.fs/\(b∈X.ex\/X.s₀.heap.objs.size<=b)/\(∀x c,X.env.cells.lookup x=some c->c≠b) /\ ∀p∈X.pn++pins,p.1≠b
theorem au.fpOk{X:Cx}{pins:List (Addr×Obj)}{σ:St}{H H':Hp}{s:Shared}{b:Addr}(I:au X pins σ H s)(hb:s.heap.objs.size<=b)(hn:H' b=none):gU X pins H' b:=by
 refine⟨hn,Nat.ne_of_gt (Jd I.lt hb),I.nofs hb,.inr (Jg I.sz hb),λx c e z=>?_,λp hp z=>?_⟩
 .obtain⟨v,q⟩:=I.cell x c e;exact absurd (Jd q.lt (by rw[z];exact hb)) (Je _)
 .exact absurd (Jd (Heap.lt_size (I.pin p hp).1) (by rw[z];exact hb)) (Je _)
structure sJ (P:Program)(w:World)(K:W.Frag)(tg:Expr)(J:It)(fp:List Addr)(it:Addr)(tn:Nat->Heap->Prop):Prop where
 mem:it∈fp
 obj:∀i h,tn i h -> ∀b∈fp,∃o,h.get? b=some o /\ ∀v,o.data ≠ .cell v
 keep:∀i h h',tn i h->(∀b∈fp,∀o,h.get? b=some o->h'.get? b=some o)->tn i h'
 item:∀(X:Cx),X.prog=P->X.w=w->X.K=K->X.calm=true -> ∀(i:Nat)(pins:List (Addr×Obj))(s:Shared)(σ:St)(H:Hp)(E:Value->Shared->Prop),au X pins σ H s->(∀b∈fp,gU X pins H b)->tn i s.heap->J.go i H ->
  wpAny (model P w) X.A (pyNext (.ref it)) (λr s1=>∃u,r=some u /\
   wpAny (model P w) X.A (letOwnedTupleGo tg (.ref it) u) (λ_ s2=>∃x H',au X pins σ H' s2/\aV x u/\J.yld i H x H'/\tn (i+1) s2.heap /\ ∀b∈fp,H' b=none) E s1) E s
 done:∀(X:Cx),X.prog=P->X.w=w->X.K=K->X.calm=true -> ∀(i:Nat)(pins:List (Addr×Obj))(s:Shared)(σ:St)(H:Hp)(E:Value->Shared->Prop),au X pins σ H s->(∀b∈fp,gU X pins H b)->tn i s.heap->J.stop i H ->
  wpAny (model P w) X.A (pyNext (.ref it)) (λr s1=>r=none/\au X pins σ H s1) E s
 self:∀(A:Around)(i:Nat)(s:Shared)(Q:Value->Shared->Prop)(E:Value->Shared->Prop),tn i s.heap->Q (.ref it) s->wpAny (model P w) A (pyIter (.ref it)) Q E s
abbrev TI:=St->Hp->(It->Hp->Prop)->Prop
def AS(X:Cx)(pins:List (Addr×Obj))(σ:St)(tg:Expr)(R:It->Hp->Prop)(itv:Value)(s2:Shared):Prop :=
 ∃(it:Addr)(fp:List Addr)(tn:Nat->Heap->Prop)(J:It)(H':Hp),itv=.ref it/\au X pins σ H' s2/\sJ X.prog X.w X.K tg J fp it tn/\tn 0 s2.heap/\(∀b∈fp,gU X pins H' b)/\R J H'
def PI(X:Cx)(tg iter:Expr)(wi:TI):Prop :=
 ∀(pins:List (Addr×Obj))(s:Shared)(σ:St)(H:Hp)(R:It->Hp->Prop),au X pins σ H s->wi σ H R ->
  wpAny (model X.prog X.w) X.A (eval iter X.env) (λv s1=>wpAny (model X.prog X.w) X.A (pyIter v) (AS X pins σ tg R) X.xe s1) X.xe s
theorem wL{M:Model}{A:Around}{E:Value->Shared->Prop}{s:Shared}{tg:Expr}{it:Addr}{u:Value}{o:Obj}{n:String}{vs:Array Value}{Q:Unit->Shared->Prop}(ho:s.heap.get? it=some o)(hc:o.cls=.type n)(hd:o.data=.fields vs)
  (hn:["enumerate", "zip", "dict_itemiterator", "dict_reverseitemiterator", "odict_iterator", "itertools.zip_longest", "itertools.pairwise"].contains n=false) (hQ:Q PUnit.unit s):wpAny M A (letOwnedTupleGo tg (.ref it) u) Q E s:=by
 unfold letOwnedTupleGo;cases tg<;>first
  | exact wpAny_pure hQ
  | (cases u<;>first
    | exact wpAny_pure hQ
    | (refine wpAny_bind (wpAny_load ho ?_)
       rw[hc,hd];show wpAny M A (if (["enumerate", "zip", "dict_itemiterator", "dict_reverseitemiterator", "odict_iterator", "itertools.zip_longest", "itertools.pairwise"].contains n && vs[0]? == some (rawInt _))=true then _ else _) Q E s
       rw[Jc (by intro h;rw[hn,Bool.false_and] at h;cases h)]
       exact wpAny_pure hQ))
def Ag(K:W.Frag)(a:Addr):It :=
 ⟨λi H=>∃xs x,f6 K H a xs/\xs[i]? = some x,λi H x H'=>H'=H /\ ∀xs,f6 K H a xs->xs[i]? = some x,λi H=>∃xs,f6 K H a xs/\xs.length<=i⟩
def AV(K:W.Frag)(a:Addr):It :=
 ⟨λi H=>∃xs x,oA K H a xs/\xs[i]? = some x,λi H x H'=>H'=H /\ ∀xs,oA K H a xs->xs[i]? = some x,λi H=>∃xs,oA K H a xs/\xs.length<=i⟩
def y7(lo:Int)(n:Nat):It:=⟨λi _=>i<n,λi H x H'=>H'=H/\x=.int (lo+i),λi _=>n<=i⟩
theorem qC{P:Program}{w:World}{K:W.Frag}{tg:Expr}(a it:Addr):sJ P w K tg (Ag K a) [it] it (λi h=>h.IsListIter it a i) where
 mem:=by simp
 obj:=λi h st b hb=>by
  have e:b=it:=by simpa using hb
  subst e;obtain⟨o,e,c,d⟩:=st;exact⟨o,e,λv z=>by rw[d] at z;cases z⟩
 keep:=λi h h' st k=>st.at λo e=>k it (by simp) o e
 item:=by
  intro X hP hw hK hc i pins s σ H E I hf st hg;subst hP hw hK;obtain⟨xs,x,hq,hx⟩:=hg;obtain⟨its,rv,p,hz⟩:=I.list hq;obtain⟨u,hu,ru⟩:=rv.get hx;obtain⟨f0,f1,f2,f3,f4,f5⟩:=hf it (by simp)
  refine wpAny_pyNext_list_item st p.isList (x:=u) (by simpa using hu) λh' st' sb=>?_
  have I1:au X pins σ H { s with heap:=h' }:=I.turned (t':=s.toks) (λb o hb e=>(sb.2 b hb).trans e) f0 f1 f3 f4 f5
  obtain⟨o,e,c,d⟩:=id st';exact⟨u,rfl,wL (s:={ s with heap:=h' }) e c d ∅ ⟨x,H,I1,ru,⟨rfl,λys hy=>by rw[I.list_inj hy hq];exact hx⟩,st',λb hb=>(hf b hb).1⟩⟩
 done:=by
  intro X hP hw hK hc i pins s σ H E I hf st hg;subst hP hw hK;obtain⟨xs,hq,hx⟩:=hg;obtain⟨its,rv,p,hz⟩:=I.list hq;obtain⟨f0,f1,f2,f3,f4,f5⟩:=hf it (by simp)
  have hl:=rv.length;exact wpAny_pyNext_list_end (I.ok.hd hc) st p.isList (by simp;nofun) λh' eb=>⟨rfl,I.turned (t':=s.toks) (λb o hb e=>eb b o hb e) f0 f1 f3 f4 f5⟩
 self:=λ_ _ _ _ _ st h=>wpAny_pyIter_listiter st h
theorem m5{P:Program}{w:World}{K:W.Frag}{tg:Expr}(it:Addr)(lo:Int)(n:Nat):sJ P w K tg (y7 lo n) [it] it (λi h=>IsRangeIter h it (lo+(i:Nat)*1) ((n:Int)-(i:Nat)) 1) where
 mem:=by simp
 obj:=λi h st b hb=>by
  have e:b=it:=by simpa using hb
  subst e;exact⟨_,st,λv z=>by
   have z':Data.fields _=Data.cell v:=z;cases z'⟩
 keep:=λi h h' st k=>k it (by simp) _ st
 item:=by
  intro X hP hw hK hc i pins s σ H E I hf st hg;subst hP hw hK;obtain⟨f0,f1,f2,f3,f4,f5⟩:=hf it (by simp)
  have W:=Walks.range (prog:=X.prog) (w:=X.w) (I.ok.hd hc) it lo 1 n;refine W.item i s _ _ hg st λv h' tk hv st' kk=>?_;obtain⟨t,rfl⟩:=hv;have I1:au X pins σ H { s with heap:=h',toks:=tk }:=I.turned (λb o hb e=>kk b o (by simpa using hb) e) f0 f1 f3 f4 f5
  refine⟨_,rfl,wL (s:={ s with heap:=h',toks:=tk }) (n:="range_iterator") st' rfl rfl ∅ ⟨.int (lo+i),H,I1,⟨t,?_⟩,⟨rfl,rfl⟩,st',λb hb=>(hf b hb).1⟩⟩
  rw[Int.mul_one]
 done:=by
  intro X hP hw hK hc i pins s σ H E I hf st hg;subst hP hw hK;obtain⟨f0,f1,f2,f3,f4,f5⟩:=hf it (by simp)
  exact wpAny_pyNext_range_end (I.ok.hd hc) st (by have:n<=i:=hg;nofun) λh' eb=>⟨rfl,I.turned (t':=s.toks) (λb o hb e=>eb b o hb e) f0 f1 f3 f4 f5⟩
 self:=λ_ _ _ _ _ st h=>wpAny_pyIter_rangeiter st h
section
variable {X:Cx}{tg:Expr}
def pj(K:W.Frag)(tl:TE):TI:=λσ H R=>tl σ H λx H1=>∃a,x=.ref a/\(∃xs,f6 K H1 a xs)/\R (Ag K a) H1
def Ay(K:W.Frag)(tl:TE):TI:=λσ H R=>tl σ H λx H1=>∃a,x=.ref a/\(∃xs,oA K H1 a xs)/\R (AV K a) H1
theorem vJ{l:Expr}{tl:TE}(hl:PE X l tl):PI X tg l (pj X.K tl):=by
 intro pins s σ H R I h;refine bi (hl pins s σ H _ I h) λv s1 ⟨x,H1,I1,r1,q1⟩=>?_;obtain⟨a,e,⟨xs,hq⟩,q⟩:=q1;subst e;cases r1;obtain⟨its,rv,p,hz⟩:=I1.list hq;refine wpAny_pyIter_list p.isList ?_;refine⟨s1.heap.objs.size,[s1.heap.objs.size],_,_,H1,rfl,I1.kept (t':=s1.toks) λb o e=>Heap.get?_push_of_some _ e,qC a _,⟨_,Heap.get?_push_size _ rfl,rfl,rfl⟩,λb hb=>?_,q⟩;have e:b=s1.heap.objs.size:=by simpa using hb
 subst e;exact I1.fpOk (Jl _) (I1.hok.fresh (Jl _))
theorem sK{pins:List (Addr×Obj)}{σ:St}{H:Hp}{s:Shared}{R:It->Hp->Prop}{E:Value->Shared->Prop}{lo hi:Int}{t u v:Tok}{tk:Nat}(I:au X pins σ H s)(h1 : -(2^62)<=lo)(h2:lo<2^62)(h3 : -(2^62)<=hi)(h4:hi<2^62)
  (q:R (y7 lo (hi-lo).toNat) H):wpAny (model X.prog X.w) X.A (pyIter (.ref s.heap.objs.size)) (AS X pins σ tg R) E { s with heap:=s.heap.push { cls:=.type "range",data:=.fields #[.int lo t,.int hi u,.int 1 v] },toks:=tk }:=by
 refine wpAny_pyIter_range (IsRange.new ..) (small_one h1 h2 h3 h4) ?_;have I1:au X pins σ H { s with heap:=s.heap.push { cls:=.type "range",data:=.fields #[.int lo t,.int hi u,.int 1 v] },toks:=tk }:=I.kept λb o e=>Heap.get?_push_of_some _ e
 refine⟨(s.heap.push { cls:=.type "range",data:=.fields #[.int lo t,.int hi u,.int 1 v] }).objs.size,[(s.heap.push { cls:=.type "range",data:=.fields #[.int lo t,.int hi u,.int 1 v] }).objs.size],_,_,H,rfl,
  I1.kept (t':=tk) λb o e=>Heap.get?_push_of_some _ e,m5 _ lo (hi-lo).toNat,?_,λb hb=>?_,q⟩
 .have e1:lo+((0:Nat):Int)*1=lo:=by simp
  have e2:(((hi-lo).toNat:Nat):Int)-((0:Nat):Int)=Builtin.Range.rangeSize lo hi 1:=by rw[rangeSize_one];split<;>nofun
  show IsRangeIter _ _ (lo+((0:Nat):Int)*1) ((((hi-lo).toNat:Nat):Int)-((0:Nat):Int)) 1;rw[e1,e2];exact Heap.get?_push_size _ rfl
 .have e:b=(s.heap.push { cls:=.type "range",data:=.fields #[.int lo t,.int hi u,.int 1 v] }).objs.size:=by simpa using hb
  subst e;exact I1.fpOk (Jl _) (I1.hok.fresh (Jl _))
def qg(ta:TA):TI:=λσ H R=>ta σ H λvs H1=>∃j:Int,vs=[.int j] /\ -(2^62)<=j/\j<2^62/\R (y7 0 j.toNat) H1
def y9(ta:TA):TI:=λσ H R=>ta σ H λvs H1=>∃i j:Int,vs=[.int i,.int j]/\(-(2^62)<=i/\i<2^62 /\ -(2^62)<=j/\j<2^62)/\R (y7 i (j-i).toNat) H1
theorem qi{a:Expr}{ta:TA}{p pos:Pos}(hg:Gl X "range") (hm:X.mg "range" = none) (ha:PA X [a] ta)(hs:starEach [a] X.env=[(false,eval a X.env)]:=by rfl):PI X tg (.Call (.Name "range" p) [a] [] pos) (qg ta):=by
 intro pins s σ H R I h;refine Call_ (jr I hg hm boot_range (PyProof.Rows.callWith_type1 (bi (ha pos pins s σ H _ I h) λus s1 ⟨vs,H1,I1,r1,q1⟩=>?_) hs rfl));obtain⟨j,e,q1,q2,q⟩:=q1;subst e;cases r1 with
 | cons r rr =>
  cases rr;obtain⟨t,rfl⟩:=r;exact call_range_1 (sK I1 () () q1 q2 (by simpa using q))
def xx(wi:TI)(g:TG)(tb:TS):TS:=λD σ H=>wi σ H λJ H1=>∃W:Nat->Nat->St->Hp->Prop,(∃m,W 0 m σ H1) /\ ∀i m σ H,W i m σ H ->
 (J.stop i H/\D.nx σ H)\/(J.go i H /\ ∃N:St->Hp->Prop,(∀σ' H',N σ' H' -> ∃m',m'<m/\W (i+1) m' σ' H') /\ ∀x H',J.yld i H x H'->g x σ H' λσ2 H2=>tb { D with nx:=N,ct:=N,bk:=D.nx } σ2 H2)
def iW(fp:List Addr)(h:Heap):List (Addr×Obj):=fp.filterMap λb=>(h.get? b).map λo=>(b,o)
theorem eD{fp:List Addr}{h:Heap}{b:Addr}{o:Obj}(hb:b∈fp)(e:h.get? b=some o):(b,o)∈iW fp h:=List.mem_filterMap.mpr ⟨b,hb,by rw[e];rfl⟩
theorem qz{fp:List Addr}{h:Heap}{p:Addr×Obj}(hp:p∈iW fp h):p.1∈fp/\h.get? p.1=some p.2:=by
 obtain⟨b,hb,e⟩:=List.mem_filterMap.mp hp;cases q:h.get? b with
 | none=>rw[q] at e;cases e
 | some o =>
  rw[q] at e;have e':(b,o)=p:=Ji e;subst e';exact⟨hb,q⟩
theorem au.pinned{pins:List (Addr×Obj)}{σ:St}{H:Hp}{s:Shared}{fp:List Addr}(I:au X pins σ H s)(hf:∀b∈fp,gU X pins H b)(ho:∀b∈fp,∃o,s.heap.get? b=some o /\ ∀v,o.data ≠ .cell v):au X (pins++iW fp s.heap) σ H s :=
 I.pins_of λp hp=>(List.mem_append.mp hp).elim (λz=>I.pin p (Jm _ z)) λz=>by
  obtain⟨hb,e⟩:=qz z;obtain⟨f0,f1,f2,_⟩:=hf p.1 hb;obtain⟨o,e',d⟩:=ho p.1 hb;rw[e] at e';cases e';exact⟨e,f0,f1,f2,d⟩
theorem au.unpinned{pins pl:List (Addr×Obj)}{σ:St}{H:Hp}{s:Shared}(I:au X (pins++pl) σ H s):au X pins σ H s:=I.pins_of λp hp=>I.pin p (Jm _ (List.mem_append_left _ hp))
theorem yn{iter:Expr}{body:List Stmt}{wi:TI}{g:TG}{tb:TS}{pos:Pos}(hp:PassesOwn (model X.prog X.w) X.A X.env X.xe)(hc:X.calm=true)(hi:PI X tg iter wi)(hg:PG X tg g)(hb:mS X body tb)
  (hs:∀x,foldedSetIterable iter X.env x=pure x:=by intro _;rfl):PS X (.For tg iter body [] pos) (xx wi g tb):=by
 intro pins s σ H D I h;refine wpAny_For (bi (hi pins s σ H _ I h) λv s1 h1=>bi h1 λitv s2 h2=>?_) hs;obtain⟨it,fp,tn,J,H2,e,I2,T,st2,f2,W,⟨m0,w0⟩,turn⟩:=h2;subst e;have stat:∀{H':Hp},(∀b∈fp,H' b=none) -> ∀b∈fp,gU X pins H' b:=λhn b hb=>⟨hn b hb,(f2 b hb).2⟩;refine codeAny_forLoop_any (λn s'=>∃i σ' H',au X pins σ' H' s'/\tn i s'.heap/\(∀b∈fp,H' b=none)/\W i n σ' H') ?_ m0 ⟨0,σ,H2,I2,st2,λb hb=>(f2 b hb).1,w0⟩;rintro n s3 ⟨i,σ3,H3,I3,st3,fr3,w3⟩;rcases turn i n σ3 H3 w3 with ⟨stop,qn⟩|⟨go,N,hN,step⟩
 .refine wpAny_passesOwn hp (bi (T.done X rfl rfl rfl hc i pins s3 σ3 H3 X.xe I3 (stat fr3) st3 stop) λr s4 ⟨hr,I4⟩=>?_);subst hr;exact wpAny_execs_nil ⟨σ3,H3,I4,qn⟩
 .refine wpAny_passesOwn hp (bi (T.item X rfl rfl rfl hc i pins s3 σ3 H3 X.xe I3 (stat fr3) st3 go) λr s4 ⟨u,hr,h4⟩=>?_);subst hr;refine wpAny_passesOwn hp (bi h4 λ_ s5 ⟨x,H5,I5,r5,y5,st5,fr5⟩=>?_);have I5':=I5.pinned (stat fr5) (T.obj _ _ st5);refine wpAny_passesOwn hp (bi (hg _ s5 σ3 H5 x u _ I5' r5 (step x H5 y5)) λ_ s6 ⟨σ6,H6,I6,q6⟩=>?_);refine wpAny_passesOwn hp (bi (hb _ s6 σ6 H6 _ I6 q6) λf s7 q7=>?_);have again:∀{σ7:St}{H7:Hp},au X (pins++iW fp s5.heap) σ7 H7 s7->N σ7 H7 -> ∃m,m<n /\ ∃i σ' H',au X pins σ' H' s7/\tn i s7.heap/\(∀b∈fp,H' b=none)/\W i m σ' H':=λ{σ7 H7} I7 n7=>by
   obtain⟨m',hm,w7⟩:=hN σ7 H7 n7;refine⟨m',hm,i+1,σ7,H7,I7.unpinned,T.keep _ _ _ st5 λb hb o e=>(I7.pin (b,o) (Jm _ (Jm _ (eD hb e)))).1,λb hb=>?_,w7⟩;obtain⟨o,e,d⟩:=T.obj _ _ st5 b hb;exact (I7.pin (b,o) (Jm _ (Jm _ (eD hb e)))).2.1
  cases f with
  | next=>obtain⟨σ7,H7,I7,n7⟩:=q7;exact again I7 n7
  | cont=>obtain⟨σ7,H7,I7,n7⟩:=q7;exact again I7 n7
  | brk=>obtain⟨σ7,H7,I7,q7⟩:=q7;exact⟨σ7,H7,I7.unpinned,q7⟩
  | ret v=>obtain⟨x7,σ7,H7,I7,r7,q7⟩:=q7;exact⟨x7,σ7,H7,I7.unpinned,r7,q7⟩
end
abbrev R2:=V->V->Hp->VK->Prop
def cV(X:Cx)(f:Value->Value->Sem Value)(r:R2):Prop :=
 ∀(pins:List (Addr×Obj))(s:Shared)(σ:St)(H:Hp)(x y:V)(v u:Value)(Q:VK),au X pins σ H s->aV x v->aV y u->r x y H Q ->
  wpAny (model X.prog X.w) X.A (f v u) (EP X pins σ Q) X.xe s
def Ad(X:Cx)(f:Value->Sem Value)(r:V->Hp->VK->Prop):Prop :=
 ∀(pins:List (Addr×Obj))(s:Shared)(σ:St)(H:Hp)(x:V)(v:Value)(Q:VK),au X pins σ H s->aV x v->r x H Q ->
  wpAny (model X.prog X.w) X.A (f v) (EP X pins σ Q) X.xe s
def dg(X:Cx)(f:Value)(r:List V->Hp->VK->Prop):Prop :=
 ∀(pins:List (Addr×Obj))(s:Shared)(σ:St)(H:Hp)(xs:List V)(us:List Value)(Q:VK),au X pins σ H s->aJ xs us->r xs H Q ->
  wpAny (model X.prog X.w) X.A (call f us) (EP X pins σ Q) X.xe s
def AA(X:Cx)(r:V->Hp->(Bool->Hp->Prop)->Prop):Prop :=
 ∀(pins:List (Addr×Obj))(s:Shared)(σ:St)(H:Hp)(x:V)(v:Value)(Q:Bool->Hp->Prop),au X pins σ H s->aV x v->r x H Q ->
  wpAny (model X.prog X.w) X.A (truthy v) (TP X pins σ Q) X.xe s
def uH(r:R2)(ta tb:TE):TE:=λσ H Q=>ta σ H λx H1=>tb σ H1 λy H2=>r x y H2 Q
def AC(r:V->Hp->VK->Prop)(ta:TE):TE:=λσ H Q=>ta σ H λx H1=>r x H1 Q
def rI(C:Int->Int->Prop)(g:Int->Int->V):R2:=λx y H Q=>∃i j,x=.int i/\y=.int j/\C i j/\Q (g i j) H
def pb(g:Int->Int->V):R2:=λx y H Q=>∃i j,x=.int i/\y=.int j/\Q (g i j) H
def rU(g:Int->V):V->Hp->VK->Prop:=λx H Q=>∃i,x=.int i/\Q (g i) H
section
variable {X:Cx}{a b c:Expr}{ta tb tc:TE}{pos:Pos}
theorem xS(ha:PE X a ta)(hb:PE X b tb) {pins:List (Addr×Obj)}{s:Shared}{σ:St}{H:Hp}{R:V->V->Hp->Prop}(I:au X pins σ H s)
  (h:ta σ H λx H1=>tb σ H1 λy H2=>R x y H2) {Q:Value->Shared->Prop}{f:Value->Value->Sem Value}
  (hf:∀v u s2 x y H2,au X pins σ H2 s2->aV x v->aV y u->R x y H2->wpAny (model X.prog X.w) X.A (f v u) Q X.xe s2) :
  wpAny (model X.prog X.w) X.A (eval a X.env) (λv s₁=>wpAny (model X.prog X.w) X.A (eval b X.env) (λu s₂=>wpAny (model X.prog X.w) X.A (f v u) Q X.xe s₂) X.xe s₁) X.xe s:=by
 refine bi (ha pins s σ H _ I h) λv s1 ⟨x,H1,I1,r1,q1⟩=>?_;refine bi (hb pins s1 σ H1 _ I1 q1) λu s2 ⟨y,H2,I2,r2,q2⟩=>?_;exact hf v u s2 x y H2 I2 r1 r2 q2
theorem zr{op:Operator}{r:R2}(ho:cV X (binaryOp op) r)(ha:PE X a ta)(hb:PE X b tb):PE X (.BinOp a op b pos) (uH r ta tb):=by
 intro pins s σ H Q I h;exact wpAny_BinOp (xS ha hb I h λv u s2 x y H2 I2 rx ry q=>ho pins s2 σ H2 x y v u Q I2 rx ry q)
theorem y8{op:UnaryOp}{r:V->Hp->VK->Prop}(ho:Ad X (unaryOp op) r)(ha:PE X a ta):PE X (.UnaryOp op a pos) (AC r ta):=by
 intro pins s σ H Q I h;exact UnaryOp_ (bi (ha pins s σ H _ I h) λv s1 ⟨x,H1,I1,r1,q1⟩=>ho pins s1 σ H1 x v Q I1 r1 q1)
theorem zd{f:Value->Value->Sem Value}{C:Int->Int->Prop}{g:Int->Int->Int}
  (rule:∀(i j:Int)(t u:Tok)(s:Shared)(Q:Value->Shared->Prop)(E:Value->Shared->Prop),C i j->Q (.int (g i j) s.toks) { s with toks:=s.toks+1 } -> wpAny (model X.prog X.w) X.A (f (.int i t) (.int j u)) Q E s) :
  cV X f (rI C λi j=>.int (g i j)):=by
 intro pins s σ H x y v u Q I rx ry h;obtain⟨i,j,rfl,rfl,hc,q⟩:=h;obtain⟨t,rfl⟩:=rx;obtain⟨t',rfl⟩:=ry;exact rule i j t t' s _ _ hc ⟨.int (g i j),H,I.tok _,⟨_,rfl⟩,q⟩
theorem zE{f:Value->Value->Sem Value}{g:Int->Int->Int}
  (rule:∀(i j:Int)(t u:Tok)(s:Shared)(Q:Value->Shared->Prop)(E:Value->Shared->Prop),Q (.int (g i j) s.toks) { s with toks:=s.toks+1 } -> wpAny (model X.prog X.w) X.A (f (.int i t) (.int j u)) Q E s) :
  cV X f (pb λi j=>.int (g i j)):=by
 intro pins s σ H x y v u Q I rx ry h;obtain⟨i,j,rfl,rfl,q⟩:=h;obtain⟨t,rfl⟩:=rx;obtain⟨t',rfl⟩:=ry;exact rule i j t t' s _ _ ⟨.int (g i j),H,I.tok _,⟨_,rfl⟩,q⟩
theorem wm{f:Value->Value->Sem Value}{g:Int->Int->Bool}
  (rule:∀(i j:Int)(t u:Tok)(s:Shared)(Q:Value->Shared->Prop)(E:Value->Shared->Prop),Q (.bool (g i j)) s->wpAny (model X.prog X.w) X.A (f (.int i t) (.int j u)) Q E s) :
  cV X f (pb λi j=>.bl (g i j)):=by
 intro pins s σ H x y v u Q I rx ry h;obtain⟨i,j,rfl,rfl,q⟩:=h;obtain⟨t,rfl⟩:=rx;obtain⟨t',rfl⟩:=ry;exact rule i j t t' s _ _ ⟨.bl (g i j),H,I,rfl,q⟩
def zm(i j:Int):Prop:=0<=j/\j<=1000000/\i.natAbs<2^64
theorem xZ:cV X (binaryOp .Add) (pb λi j=>.int (i+j)):=zE λ_ _ _ _ _ _ _ q=>add_int q
theorem db:cV X (binaryOp .Sub) (pb λi j=>.int (i-j)):=zE λ_ _ _ _ _ _ _ q=>sub_int q
theorem vK:cV X (binaryOp .Mod) (rI (λ_ j=>j≠0) λi j=>.int (i.fmod j)):=zd λ_ _ _ _ _ _ _ hc q=>mod_int' hc q
theorem mT:cV X (binaryOp .Pow) (rI zm λi j=>.int (i^j.toNat)):=zd λ_ _ _ _ _ _ _ hc q=>pow_int_small hc.1 hc.2.1 hc.2.2 q
theorem AU{f:Value->Sem Value}{g:Int->Int}
  (rule:∀(i:Int)(t:Tok)(s:Shared)(Q:Value->Shared->Prop)(E:Value->Shared->Prop),Q (.int (g i) s.toks) { s with toks:=s.toks+1 } -> wpAny (model X.prog X.w) X.A (f (.int i t)) Q E s) :
  Ad X f (rU λi=>.int (g i)):=by
 intro pins s σ H x v Q I rx h;obtain⟨i,rfl,q⟩:=h;obtain⟨t,rfl⟩:=rx;exact rule i t s _ _ ⟨.int (g i),H,I.tok _,⟨_,rfl⟩,q⟩
theorem df:Ad X (unaryOp .USub) (rU λi=>.int (-i)):=AU λ_ _ _ _ _ q=>neg_int q
end
def qV:V->V->Bool
 | .non,.non=>true | .non,.int _=>true | .int _,.non=>true | .non,.bl _=>true | .bl _,.non=>true | .non,.str _=>true | .str _,.non=>true
 | .int _,.int _=>true | .bl _,.bl _=>true | .str _,.str _=>true | .byt _,.byt _=>true
 | .int _,.str _=>true | .str _,.int _=>true | .bl _,.str _=>true | .str _,.bl _=>true
 | _,_=>false
def yX:R2:=λx y H Q=>qV x y=true/\Q (.bl (decide (x=y))) H
def yY:R2:=λx y H Q=>qV x y=true/\Q (.bl (!decide (x=y))) H
theorem pr{i j:Int}:decide (V.int i=V.int j)=(i==j):=by
 rw[Jn];simp
theorem tY{i j:Bool}:decide (V.bl i=V.bl j)=(i==j):=by
 rw[Jn];simp
theorem oX{i j:Str}:decide (V.str i=V.str j)=(i==j):=by
 rw[Jn];simp
theorem pL{i j:Array UInt8}:decide (V.byt i=V.byt j)=(i.toList==j.toList):=by
 rw[Jn];cases i;cases j;simp
section
variable {X:Cx}{a b c:Expr}{ta tb tc:TE}{pos:Pos}
theorem aM{pins:List (Addr×Obj)}{σ:St}{H:Hp}{s:Shared}{Q:VK}{k k':Bool}(I:au X pins σ H s)(q:Q (.bl k) H)(e:k=k'):EP X pins σ Q (.bool k') s:=by
 subst e;exact⟨.bl k,H,I,rfl,q⟩
theorem fP:cV X (compareOp .Eq) yX:=by
 intro pins s σ H x y v u Q I rx ry h;obtain⟨hs,q⟩:=h;cases x with
 | non =>
  cases rx;cases y with
  | non=>cases ry;exact PySem.EqNone.eq_none_none (aM I q (by simp))
  | bl j=>cases ry;exact PySem.EqNone.eq_none_bool (aM I q (by simp))
  | int j=>obtain⟨t',rfl⟩:=ry;exact PySem.EqNone.eq_none_int (aM I q (by simp))
  | str j=>obtain⟨t',rfl⟩:=ry;exact PySem.EqNone.eq_none_str (aM I q (by simp))
  | _=>exact absurd (show false=true from hs) Jk
 | bl i =>
  cases rx;cases y with
  | non=>cases ry;exact PySem.EqNone.eq_bool_none (aM I q (by simp))
  | bl j=>cases ry;exact eq_bool (aM I q tY)
  | str j=>obtain⟨t',rfl⟩:=ry;exact PySem.EqMixed.eq_bool_str (aM I q (by simp))
  | _=>exact absurd (show false=true from hs) Jk
 | int i =>
  obtain⟨t,rfl⟩:=rx;cases y with
  | non=>cases ry;exact PySem.EqNone.eq_int_none (aM I q (by simp))
  | int j=>obtain⟨t',rfl⟩:=ry;exact eq_int (aM I q pr)
  | str j=>obtain⟨t',rfl⟩:=ry;exact PySem.EqMixed.eq_int_str (aM I q (by simp))
  | _=>exact absurd (show false=true from hs) Jk
 | str i =>
  obtain⟨t,rfl⟩:=rx;cases y with
  | non=>cases ry;exact PySem.EqNone.eq_str_none (aM I q (by simp))
  | bl j=>cases ry;exact PySem.EqMixed.eq_str_bool (aM I q (by simp))
  | int j=>obtain⟨t',rfl⟩:=ry;exact PySem.EqMixed.eq_str_int (aM I q (by simp))
  | str j=>obtain⟨t',rfl⟩:=ry;exact eq_str (aM I q oX)
  | _=>exact absurd (show false=true from hs) Jk
 | byt i =>
  obtain⟨t,rfl⟩:=rx;cases y with
  | byt j=>obtain⟨t',rfl⟩:=ry;exact PySem.W.eq_bytes (aM I q pL)
  | _=>exact absurd (show false=true from hs) Jk
 | _=>cases y<;>exact absurd (show false=true from hs) Jk
theorem oJ:cV X (compareOp .NotEq) yY:=by
 intro pins s σ H x y v u Q I rx ry h;obtain⟨hs,q⟩:=h;cases x with
 | non =>
  cases rx;cases y with
  | non=>cases ry;exact PySem.EqNone.ne_none_none (aM I q (by simp))
  | bl j=>cases ry;exact PySem.EqNone.ne_none_bool (aM I q (by simp))
  | int j=>obtain⟨t',rfl⟩:=ry;exact PySem.EqNone.ne_none_int (aM I q (by simp))
  | str j=>obtain⟨t',rfl⟩:=ry;exact PySem.EqNone.ne_none_str (aM I q (by simp))
  | _=>exact absurd (show false=true from hs) Jk
 | bl i =>
  cases rx;cases y with
  | non=>cases ry;exact PySem.EqNone.ne_bool_none (aM I q (by simp))
  | bl j=>cases ry;exact ne_bool (aM I q (Jj not tY))
  | str j=>obtain⟨t',rfl⟩:=ry;exact PySem.EqMixed.ne_bool_str (aM I q (by simp))
  | _=>exact absurd (show false=true from hs) Jk
 | int i =>
  obtain⟨t,rfl⟩:=rx;cases y with
  | non=>cases ry;exact PySem.EqNone.ne_int_none (aM I q (by simp))
  | int j=>obtain⟨t',rfl⟩:=ry;exact ne_int (aM I q (Jj not pr))
  | str j=>obtain⟨t',rfl⟩:=ry;exact PySem.EqMixed.ne_int_str (aM I q (by simp))
  | _=>exact absurd (show false=true from hs) Jk
 | str i =>
  obtain⟨t,rfl⟩:=rx;cases y with
  | non=>cases ry;exact PySem.EqNone.ne_str_none (aM I q (by simp))
  | bl j=>cases ry;exact PySem.EqMixed.ne_str_bool (aM I q (by simp))
  | int j=>obtain⟨t',rfl⟩:=ry;exact PySem.EqMixed.ne_str_int (aM I q (by simp))
  | str j=>obtain⟨t',rfl⟩:=ry;exact ne_str (aM I q (Jj not oX))
  | _=>exact absurd (show false=true from hs) Jk
 | byt i =>
  obtain⟨t,rfl⟩:=rx;cases y with
  | byt j=>obtain⟨t',rfl⟩:=ry;exact PySem.W.ne_bytes (aM I q (Jj not pL))
  | _=>exact absurd (show false=true from hs) Jk
 | _=>cases y<;>exact absurd (show false=true from hs) Jk
theorem ij:cV X (compareOp .Lt) (pb λi j=>.bl (decide (i<j))):=wm λ_ _ _ _ _ _ _ q=>lt_int q
theorem zN:cV X (compareOp .LtE) (pb λi j=>.bl (decide (i<=j))):=wm λ_ _ _ _ _ _ _ q=>le_int q
theorem jQ:cV X (compareOp .Gt) (pb λi j=>.bl (decide (j<i))):=wm λ_ _ _ _ _ _ _ q=>gt_int q
theorem oY:cV X (compareOp .GtE) (pb λi j=>.bl (decide (j<=i))):=wm λ_ _ _ _ _ _ _ q=>ge_int q
theorem uR:cV X (compareOp .IsNot) (λx y H Q=>y=.non/\Q (.bl (!decide (x=.non))) H):=by
 intro pins s σ H x y v u Q I rx ry h;obtain⟨rfl,q⟩:=h;cases ry;refine isnot_none_gen (aM I q ?_);cases x<;>first
  | (cases rx;rfl)
  | (obtain⟨t,rfl⟩:=rx;rfl)
theorem cV.or{f:Value->Value->Sem Value}{r r':R2}(h:cV X f r)(h':cV X f r'):cV X f (λx y H Q=>r x y H Q\/r' x y H Q):=by
 intro pins s σ H x y v u Q I rx ry q;rcases q with q|q
 .exact h pins s σ H x y v u Q I rx ry q
 .exact h' pins s σ H x y v u Q I rx ry q
theorem aE(b:Expr){op:CmpOp}(h:op ≠ .In:=by decide)(h2:op ≠ .NotIn:=by decide):behindInMarks op b=false:=by
 have e1:(op==CmpOp.In)=false:=by cases op<;>first|rfl|exact absurd rfl h
 have e2:(op==CmpOp.NotIn)=false:=by cases op<;>first|rfl|exact absurd rfl h2
 cases b<;>simp[behindInMarks,e1,e2]
theorem uE{op:CmpOp}{r:R2}(ho:cV X (compareOp op) r)(ha:PE X a ta)(hb:PE X b tb)(hm:behindInMarks op b=false):PE X (.Compare a [op] [b] pos) (uH r ta tb):=by
 intro pins s σ H Q I h;exact wpAny_Compare1 (xS ha hb I h λv u s2 x y H2 I2 rx ry q=>ho pins s2 σ H2 x y v u Q I2 rx ry q) hm
def pP(t:TE):TT:=λσ H Q=>t σ H λx H'=>∃k,x=.bl k/\Q k H'
theorem wf{op:CmpOp}{r:R2}(ho:cV X (compareOp op) r)(ha:PE X a ta)(hb:PE X b tb)(hm:behindInMarks op b=false):PT X (.Compare a [op] [b] pos) (pP (uH r ta tb)):=by
 intro pins s σ H Q I h;refine wpAny_isTrue_Compare1 (bi (ha pins s σ H _ I h) λv s1 ⟨x,H1,I1,r1,q1⟩=>bi (hb pins s1 σ H1 _ I1 q1) λu s2 ⟨y,H2,I2,r2,q2⟩ =>
  bi (ho pins s2 σ H2 x y v u _ I2 r1 r2 q2) λc s3 ⟨z,H3,I3,r3,k,e,q3⟩=>?_) hm
 subst e;cases r3;exact wpAny_truthy_bool ⟨H3,I3,q3⟩
def nE(K:W.Frag)(x:V)(H:Hp)(k:Bool):Prop :=
 match x with
 | .non=>k=false
 | .bl b=>k=b
 | .int i=>k=(i != 0)
 | .str y=>y.length<=sizeLine/\k=((y.length:Int) != 0)
 | .byt y=>y.size<=sizeLine/\k=((y.size:Int) != 0)
 | .ref p=>(∃xs,f6 K H p xs/\k = !xs.isEmpty)\/(∃xs,oA K H p xs/\k = !xs.isEmpty) \/ ∃kvs,H p=some (.dK kvs)/\k = !kvs.isEmpty
 | _=>False
theorem nV{κ:Type}{kvs:List (κ×V)}{vs:List (κ×Value)}(r:KV kvs vs):(!vs.isEmpty) = !kvs.isEmpty:=by
 cases r<;>rfl
theorem ji{xs:List V}{its:List Value}(r:aJ xs its):(!its.toArray.isEmpty) = !xs.isEmpty:=by
 cases r<;>simp
theorem gK:(sizeLine:Nat)<2^63:=by rw[sizeLine_eq];decide
theorem sW:AA X (λx H Q=>∃k,nE X.K x H k/\Q k H):=by
 intro pins s σ H x v Q I rx h;obtain⟨k,e,q⟩:=h;have hl:=gK;have hs:sizeLine=16777216:=sizeLine_eq;cases x with
 | non =>
  cases rx;have e':k=false:=e;subst e';exact truthy_none ⟨H,I,q⟩
 | bl b =>
  cases rx;have e':k=b:=e;subst e';exact wpAny_truthy_bool ⟨H,I,q⟩
 | int i =>
  obtain⟨t,rfl⟩:=rx;have e':k=(i != 0):=e;subst e';exact PySem.P.truthy_int ⟨H,I,q⟩
 | str y =>
  obtain⟨t,rfl⟩:=rx;obtain⟨hy,e'⟩ : y.length<=sizeLine/\k=((y.length:Int) != 0):=e;subst e';exact PySem.P.truthy_str () ⟨H,I.tok _,q⟩
 | byt y =>
  obtain⟨t,rfl⟩:=rx;obtain⟨hy,e'⟩ : y.size<=sizeLine/\k=((y.size:Int) != 0):=e;subst e';exact PySem.W.truthy_bytes () ⟨H,I.tok _,q⟩
 | ref p =>
  cases rx;have e':(∃xs,f6 X.K H p xs/\k = !xs.isEmpty)\/(∃xs,oA X.K H p xs/\k = !xs.isEmpty) \/ ∃kvs,H p=some (.dK kvs)/\k = !kvs.isEmpty:=e;rcases e' with ⟨xs,hx,e'⟩|⟨xs,hx,e'⟩|⟨kvs,hx,e'⟩
  .subst e';obtain⟨its,r,pl,hz⟩:=I.list hx;have hlen:=r.length;exact wpAny_truthy_list pl.isList (by simp only[Jo];nofun) ⟨H,I.tok _,by rw[ji r];exact q⟩
  .subst e';obtain⟨its,r,pl,hz⟩:=I.tuple hx;have hlen:=r.length;exact truthy_tuple pl (by simp only[Jo];nofun) ⟨H,I.tok _,by rw[ji r];exact q⟩
  .subst e';obtain⟨hz,hS,vs,r,m⟩ : kvs.length<=sizeLine/\(p==sysModules)=false /\ ∃vs,KV kvs vs/\s.heap.DictOf (lI X.prog X.w) p vs:=I.hok p _ hx;have hlen:kvs.length=vs.length:=Paired.length r;exact wpAny_truthy_dict hS m () ⟨H,I.tok _,by rw[nV r];exact q⟩
 | _=>exact (show False from e).elim
theorem tu(ha:PE X a ta)(he:∀whole,isTrue a X.env whole=(do let v <-whole;standAt a.pos;holding [v] (truthy v))) :
  PT X a (λσ H Q=>ta σ H λx H'=>∃k,nE X.K x H' k/\Q k H'):=by
 intro pins s σ H Q I h;exact isTrue_plain (bi (ha pins s σ H _ I h) λv s1 ⟨x,H1,I1,r1,q1⟩=>sW pins s1 σ H1 x v Q I1 r1 q1) (he _)
theorem t3{x:V}{us:List Value}(r:aJ [x] us):∃u,us=[u]/\aV x u:=by
 cases r with
 | cons r1 r2=>cases r2;exact⟨_,rfl,r1⟩
theorem gE:dg X (.builtin "abs") (λxs H Q=>∃i,xs=[.int i]/\Q (.int (if i<0 then -i else i)) H):=by
 intro pins s σ H xs us Q I r h;obtain⟨i,rfl,q⟩:=h;obtain⟨u,rfl,t,rfl⟩:=t3 r;exact call_abs_int λu tk=>⟨.int (if i<0 then -i else i),H,I.tok _,⟨_,rfl⟩,q⟩
end
structure nh (h:Heap)(x dx C:Addr)(mA:Str->Option Value):Prop where
 obj:h.get? x=some (PySem.W.instObj C dx)
 ns:h.Ns1 dx mA
 ne:dx≠x
theorem qI{h:Heap}{dx:Addr}{mA:Str->Option Value}(n:h.Ns1 dx mA):∃od,h.get? dx=some od /\ ∀name,PySem.W.lookIn name od=some (mA name):=by
 obtain⟨o,es,ep,ho,hd,hk,_,hm⟩:=n;refine⟨o,ho,λname=>?_⟩;have e:=hm name;unfold nsFind findBy at e;rw[<-Array.find?_toList] at e;unfold PySem.W.lookIn;rw[hd];dsimp only;split
 .rename_i y q
  rw[q] at e;exact Jj some e
 .rename_i q
  rw[q] at e;have a:es.toList.any (·.refKey)=false:=by
   rw[List.any_eq_false];intro y hy;obtain⟨z,t,hkey⟩:=hk y (Array.mem_toList_iff.mp hy);simp[DictEntry.refKey,hkey]
  have a':¬ es.toList.any (·.refKey)=true:=by rw[a];exact Jk
  rw[Jc a'];exact Jj some e
theorem nh.look{h:Heap}{x dx C:Addr}{mA:Str->Option Value}(I:nh h x dx C mA):∃od,PySem.W.InstAt h x (PySem.W.instObj C dx) C (some od) /\ ∀name,PySem.W.lookIn name od=some (mA name) :=
 let ⟨od,ho,hl⟩:=qI I.ns
 ⟨od,⟨I.obj,rfl,rfl,ho⟩,hl⟩
section
variable {prog:Program}{w:World}{A:Around}{E:Value->Shared->Prop}{s:Shared}{K:W.Frag}{x dx C f:Addr}{mA:Str->Option Value}{name:Str}{v:Value}
theorem vF{expr:Bool}{Q:Value->Shared->Prop}(X:K.In s.heap)(I:nh s.heap x dx C mA)(hg:PySem.W.plainGet K C name=true)(hh:PySem.W.hasDictIn K C=true)
  (ha:PySem.W.findIn K (.ref C) name=some none)(hv:mA name=some v)(hv':PySem.W.handedIn v=true)(h:Q v { s with toks:=s.toks+1 }) :
  wpAny (model prog w) A (getAttr (.ref x) name expr) Q E s:=by
 obtain⟨od,J,hl⟩:=I.look;exact PySem.W.get_value X J (PySem.W.plainGet_of hg).1 (PySem.W.findObj_own hh ha rfl (by rw[hl,hv])) hv' h
theorem rB{pl:Sem Bool}{Q:Value×List Value->Shared->Prop}(X:K.In s.heap)(I:nh s.heap x dx C mA)(hg:PySem.W.plainGet K C name=true)
  (hf:PySem.W.findIn K (.ref C) name=some (some (.ref f)))(ht:PySem.W.isFn K (.ref f)=true)(hv:mA name=none)(h:Q (.ref f,[.ref x]) s) :
  wpAny (model prog w) A (getMethod (.ref x) name pl) Q E s:=by
 obtain⟨od,J,hl⟩:=I.look;exact PySem.W.method_fn X J (PySem.W.plainGet_of hg).1 (PySem.W.plainGet_of hg).2 hf (beq_iff_eq.mp ht) (by show (PySem.W.lookIn name od).map (·.isSome)=some false;rw[hl,hv];rfl) h
theorem ur{ns:List Str}{Q:Unit->Shared->Prop}(X:K.In s.heap)(I:nh s.heap x dx C mA)
  (hs:PySem.W.findIn K (.ref C) "__setattr__" = some (some (.builtin "object.__setattr__"))) (hp:PySem.W.plainOver K C=true)(ht:PySem.W.takerIn K C name=some none)(hh:PySem.W.hasDictIn K C=true)
  (hw:PySem.Within mA ns)(hsz:ns.length<=sizeLine)
  (h:∀h',nh h' x dx C (λy=>if y=name then some v else mA y)->Heap.SameBut dx s.heap h'->Q PUnit.unit { s with heap:=h',toks:=s.toks+2 }) :
  wpAny (model prog w) A (setAttr (.ref x) name v) Q E s:=by
 obtain⟨od,J,hl⟩:=I.look;refine PySem.W.set_plain X J hs (PySem.W.osa_open (s:={ s with toks:=s.toks+1 }) (r:=none) X J hp ht λb=>?_)
 obtain⟨cd,hc,hd'⟩:=PySem.W.any_some hh;have hx:s.heap.get? x=some ⟨.ref C,some dx,.plain,#[]⟩:=I.obj;refine wpAny_bind (wpAny_pure (wpAny_bind (wpAny_bind (wpAny_loadPart hx (wpAny_bind (PySem.W.Looks.here (s:={ s with toks:=s.toks+1 }) (PySem.W.looks_clsIn X hc) ?_))))))
 rw[hd'];refine wpAny_pure (a:=some dx) (wpAny_bind (wpAny_pure (wpAny_bind ?_)));refine wpAny_nsSet1 (s:={ s with toks:=s.toks+1 }) I.ns λh' hn2 hs2=>?_
 obtain⟨oD,esD,epD,hoD,hdD,hcD⟩:=hn2.count (PySem.Within.cons name v hw);refine wpAny_bind (wpAny_lookBehind hoD (by rw[hdD];exact pastItsLine_dict (Jg hcD (by rw[Jp];nofun))) ?_)
 exact wpAny_pure (h _ ⟨(hs2.2 _ (Ne.symm I.ne)).trans I.obj,hn2,I.ne⟩ hs2)
theorem tH{R:Result->Shared->Prop}{vs:List Value}{kw:List (Str×Value)}(X:K.In s.heap)(hm:PySem.W.makesIn K C=true)
  (hi:PySem.W.findIn K (.ref C) "__init__" = some (some (.ref f))) (hf:PySem.W.typeIn K (.ref f)=some (.type "function"))
  (h:codeAny (model prog w) (A.under (.builtin "type.__call__" ⟨.ref C::vs,kw⟩)) (.call (.ref f) ⟨.ref (s.heap.objs.size+1)::vs,kw⟩) (PySem.W.InitBack (s.heap.objs.size+1) R)
   { s with heap:=(s.heap.push PySem.W.emptyDict).push (PySem.W.instObj C s.heap.objs.size) }) :
  codeAny (model prog w) A (.call (.ref C) ⟨vs,kw⟩) R s:=by
 obtain⟨hh,g,d,t,os⟩:=s;exact PySem.W.make_core (PySem.W.makes_of X hm) (PySem.W.looks_findIn X hi) (λself=>PySem.W.bind_fn X self hf) (.inl rfl) h
end
def e9(f:Str)(v:V):List (Str×V)->List (Str×V)
 | []=>[(f,v)]
 | (g,x)::r=>if g=f then (g,v)::r else (g,x)::e9 f v r
theorem iu(f g:Str)(v:V):∀fs:List (Str×V),(e9 f v fs).lookup g=if g=f then some v else fs.lookup g
 | []=>by
  show List.lookup g [(f,v)]=_;by_cases h:g=f
  .have hb:(g==f)=true:=beq_iff_eq.mpr h;simp only[List.lookup,hb,Jb h]
  .have hb:(g==f)=false:=beq_eq_false_iff_ne.mpr h;simp only[List.lookup,hb,Jc h]
 | (k,x)::r=>by
  have ih:=iu f g v r;rw[show e9 f v ((k,x)::r)=(if k=f then (k,v)::r else (k,x)::e9 f v r) from rfl]
  by_cases hk:k=f
  .rw[Jb hk];by_cases h:g=k
   .have hb:(g==k)=true:=beq_iff_eq.mpr h;simp only[List.lookup,hb,Jb (h.trans hk)]
   .have hb:(g==k)=false:=beq_eq_false_iff_ne.mpr h;simp only[List.lookup,hb,Jc (λe:g=f=>h (e.trans hk.symm))]
  .rw[Jc hk];by_cases h:g=k
   .have hb:(g==k)=true:=beq_iff_eq.mpr h;simp only[List.lookup,hb,Jc (λe:g=f=>hk (h.symm.trans e))]
   .have hb:(g==k)=false:=beq_eq_false_iff_ne.mpr h;simp only[List.lookup,hb];exact ih
theorem gW(f:Str)(v:V):∀fs:List (Str×V),f∈(e9 f v fs).map (·.1) /\ ∀g,g∈fs.map (·.1)->g∈(e9 f v fs).map (·.1)
 | []=>⟨by simp[e9],λg h=>by simp at h⟩
 | (k,x)::r=>by
  obtain⟨i1,i2⟩:=gW f v r;rw[show e9 f v ((k,x)::r)=(if k=f then (k,v)::r else (k,x)::e9 f v r) from rfl]
  by_cases hk:k=f
  .rw[Jb hk];subst hk;exact⟨by simp,λg h=>by simpa using h⟩
  .rw[Jc hk];refine⟨?_,λg h=>?_⟩
   .rw[Jq];exact Jh _ i1
   .rw[Jq] at h ⊢;rcases JL.mp h with e|e
    .exact JL.mpr (.inl e)
    .exact Jh _ (i2 g e)
theorem il(f:Str)(v:V):∀fs:List (Str×V),(e9 f v fs).length<=fs.length+1
 | []=>by simp[e9]
 | (k,x)::r=>by
  have ih:=il f v r;rw[show e9 f v ((k,x)::r)=(if k=f then (k,v)::r else (k,x)::e9 f v r) from rfl]
  by_cases hk:k=f
  .rw[Jb hk,Jp,Jp];nofun
  .rw[Jc hk,Jp,Jp];nofun
theorem jB.some_of{v:V}{o:Option Value}(r:jB (some v) o):∃u,o=some u/\aV v u:=by
 cases o with
 | none=>exact (show False from r).elim
 | some u=>exact⟨u,rfl,r⟩
theorem jB.none_of{o:Option Value}(r:jB none o):o=none:=by
 cases o with
 | none=>rfl
 | some u=>exact (show False from r).elim
theorem qL{v:V}{u:Value}(r:aV v u):PySem.W.handedIn u=true:=by
 cases v with
 | non=>cases (show u=Value.none from r);rfl
 | bl b=>cases (show u=Value.bool b from r);rfl
 | int i=>obtain⟨t,e⟩:=(show ∃t,u=Value.int i t from r);cases e;rfl
 | str x=>obtain⟨t,e⟩:=(show ∃t,u=Value.str x t from r);cases e;rfl
 | byt b=>obtain⟨t,e⟩:=(show ∃t,u=Value.bytes b t from r);cases e;rfl
 | flt b=>obtain⟨t,e⟩:=(show ∃t,u=Value.float b t from r);cases e;rfl
 | ref a=>cases (show u=Value.ref a from r);rfl
 | ty n=>cases (show u=Value.type n from r);rfl
section
variable {P:Program}{w:World}{H H':Hp}{h h':Heap}{a C dx:Addr}{fs fs':List (Str×V)}
theorem kG(hok:gG P w H h)(e:H a=some (.ins C dx fs)):∃mA,nh h a dx C mA/\(∀f,jB (fs.lookup f) (mA f))/\PySem.Within mA (fs.map (·.1))/\fs.length<=1000/\H dx=some (.own a):=by
 obtain⟨d,z,ne,ob,mA,n,r,q⟩:=(show cZ P w H h a (.ins C dx fs) from hok a _ e)
 exact⟨mA,⟨ob,n,ne⟩,r,q,z,d⟩
end
structure y0 (K:W.Frag)(C:Addr):Prop where
 pg:PySem.W.plainGet K C Str.empty=true
 hd:PySem.W.hasDictIn K C=true
 po:PySem.W.plainOver K C=true
 sa:PySem.W.findIn K (.ref C) "__setattr__" = some (some (.builtin "object.__setattr__"))
theorem y0.get{K:W.Frag}{C:Addr}(c:y0 K C)(f:Str):PySem.W.plainGet K C f=true:=c.pg
def iO(K:W.Frag)(C:Addr)(f:Str):Prop:=PySem.W.findIn K (.ref C) f=some none
theorem iO.taker{K:W.Frag}{C:Addr}{f:Str}(n:iO K C f):PySem.W.takerIn K C f=some none:=by
 unfold PySem.W.takerIn;rw[show PySem.W.findIn K (.ref C) f=some none from n]
 rfl
structure vm (K:W.Frag)(C:Addr)(m:Str)(f:Addr):Prop where
 at_:PySem.W.findIn K (.ref C) m=some (some (.ref f))
 fn:PySem.W.isFn K (.ref f)=true
 kp:PySem.W.keepIn K (.ref f)=true
section
variable {X:Cx}{pins:List (Addr×Obj)}{σ:St}{H:Hp}{s:Shared}{a C dx:Addr}{fs:List (Str×V)}{f:Str}{v:V}{A:Around}{E:Value->Shared->Prop}
theorem oj{b:Bool}{Q:Value->Shared->Prop}(I:au X pins σ H s)(e:H a=some (.ins C dx fs))(c:y0 X.K C)(n:iO X.K C f)(l:fs.lookup f=some v)
  (h:∀u s',au X pins σ H s'->aV v u->Q u s'):wpAny (model X.prog X.w) A (getAttr (.ref a) f b) Q E s:=by
 obtain⟨mA,O,r,_,_,_⟩:=kG I.hok e;obtain⟨u,hu,ru⟩:=jB.some_of (v:=v) (o:=mA f) (by rw[<-l];exact r f)
 exact vF I.kIn O (c.get f) c.hd n hu (qL ru) (h u _ (I.tok _) ru)
theorem f9{m:Str}{g:Addr}{pl:Sem Bool}{Q:Value×List Value->Shared->Prop}(I:au X pins σ H s)(e:H a=some (.ins C dx fs))(c:y0 X.K C)(k:vm X.K C m g)(l:fs.lookup m=none)
  (h:Q (.ref g,[.ref a]) s):wpAny (model X.prog X.w) A (getMethod (.ref a) m pl) Q E s:=by
 obtain⟨mA,O,r,_,_,_⟩:=kG I.hok e;have hn:mA m=none:=jB.none_of (by rw[<-l];exact r m)
 exact rB I.kIn O (c.get m) k.at_ k.fn hn h
theorem je{y:V}{u:Value}{Q:Unit->Shared->Prop}(I:au X pins σ H s)(e:H a=some (.ins C dx fs))(c:y0 X.K C)(n:iO X.K C f)(hl:fs.length<1000)(ry:aV y u)
  (h:∀s',au X pins σ (upd H a (.ins C dx (e9 f y fs))) s'->Q PUnit.unit s'):wpAny (model X.prog X.w) A (setAttr (.ref a) f u) Q E s:=by
 obtain⟨mA,O,r,wi,_,ho⟩:=kG I.hok e;have hz:(fs.map (·.1)).length<=sizeLine:=by rw[Jr,sizeLine_eq];nofun
 refine ur I.kIn O c.sa c.po n.taker c.hd wi hz λh' O' sb=>h _ ?_;have hd:∃o,h'.get? dx=some o:=let ⟨o,_,_,e',_⟩:=O'.ns;⟨o,e'⟩;refine I.write (x:=a) (e:=dx) (by rw[e];exact True.intro) (.inr ho) (λb q hb z=>(sb.2 b hb).trans z) hd ?_
 refine⟨by rw[aQ O.ne];exact ho,?_,O.ne,O'.obj,_,O'.ns,λg=>?_,λg hg=>?_⟩
 .have:=il f y fs;nofun
 .show jB ((e9 f y fs).lookup g) (if g=f then some u else mA g)
  rw[iu];by_cases q:g=f
  .rw[Jb q,Jb q];exact ry
  .rw[Jc q,Jc q];exact r g
 .by_cases q:g=f
  .rw[q];exact (gW f y fs).1
  .refine (gW f y fs).2 g (wi g λz=>hg ?_);show (if g=f then some u else mA g)=none
   rw[Jc q];exact z
theorem au.made(I:au X pins σ H s):au X pins σ (upd (upd H s.heap.objs.size (.own (s.heap.objs.size+1))) (s.heap.objs.size+1) (.ins C s.heap.objs.size []))
  { s with heap:=(s.heap.push PySem.W.emptyDict).push (PySem.W.instObj C s.heap.objs.size) }:=by
 have e1:(s.heap.push PySem.W.emptyDict).get? s.heap.objs.size=some PySem.W.emptyDict:=Heap.get?_push_size s.heap rfl;have e2:((s.heap.push PySem.W.emptyDict).push (PySem.W.instObj C s.heap.objs.size)).get? (s.heap.objs.size+1)=some (PySem.W.instObj C s.heap.objs.size):=by
  have:=Heap.get?_push_size (s.heap.push PySem.W.emptyDict) (o:=PySem.W.instObj C s.heap.objs.size) rfl
  rwa [Heap.size_push] at this
 have e3:(s.heap.push PySem.W.emptyDict).Ns s.heap.objs.size (λ_=>none):=⟨PySem.W.emptyDict,#[],_,e1,rfl,(λe he=>absurd he (by simp)),λ_=>rfl⟩
 have I1:=I.laid (a:=s.heap.objs.size) (o:=.own (s.heap.objs.size+1)) (h':=s.heap.push PySem.W.emptyDict) (t':=s.toks) (λb u q=>Heap.get?_push_of_some _ q) (Jl _) ⟨_,e1⟩;refine I1.laid (a:=s.heap.objs.size+1) (o:=.ins C s.heap.objs.size []) (t':=s.toks) (λb u q=>Heap.get?_push_of_some _ q) (Nat.le_of_eq (Heap.size_push _ _)) ?_;have ne:s.heap.objs.size≠s.heap.objs.size+1:=Jf (Nat.lt_succ_self _);refine⟨by rw[aQ ne,a9],Js _,ne,e2,λ_=>none,(Heap.Ns1.of_empty e3).at λo q=>Heap.get?_push_of_some _ q,λ_=>True.intro,λy hy=>absurd rfl hy⟩
theorem vQ{prog:Program}{w:World}{env:Env}{e:Expr}{f:Str}{pos:Pos}{s:Shared}{Q:Value->Shared->Prop}(hb:attributeBase e f env (eval e env)=eval e env)
  (h:wpAny (model prog w) A (eval e env) (λo s₁=>wpAny (model prog w) A (getAttr o f true) Q E s₁) E s):wpAny (model prog w) A (eval (.Attribute e f pos) env) Q E s :=
 Attribute_any_ h (by rw[arm_eval_Attribute,hb])
end
structure b9 (k:Nat)(A:Around):Prop where
 hd:A.handled=none
 dp:A.depth+3*k+105<recursionLimit
 un:A.units+16*k+200<cLine
theorem b9.mono{j k:Nat}{A:Around}(r:b9 k A)(h:j<=k):b9 j A:=⟨r.hd,by have:=r.dp;nofun,by have:=r.un;nofun⟩
theorem b9.deeper{k:Nat}{A:Around}(r:b9 (k+1) A)(env:Env):b9 k (A.deeper env) :=
 ⟨r.hd,by have:=r.dp;show A.depth+1+3*k+105<_;nofun,by have:=r.un;show A.units+3+16*k+200<_;nofun⟩
theorem mX{A:Around}{C:Addr}{us:List Value}{kw:List (Str×Value)}:(A.under (.builtin "type.__call__" ⟨.ref C::us,kw⟩)).depth=A.depth+1:=by
 first|rfl|simp[Around.under,Code.weight,Code.isCreation,Code.isGuard,Code.isCaller,Code.frames,Code.isFrame,guardIds]
theorem ox{A:Around}{C:Addr}{us:List Value}{kw:List (Str×Value)}:(A.under (.builtin "type.__call__" ⟨.ref C::us,kw⟩)).units=A.units+1:=by
 first|rfl|simp[Around.under,Code.cUnits,Code.frames,Code.isFrame]
theorem b9.make{k:Nat}{A:Around}(r:b9 (k+1) A)(C:Addr)(us:List Value)(kw:List (Str×Value)):b9 k (A.under (.builtin "type.__call__" ⟨.ref C::us,kw⟩)) :=
 ⟨r.hd,by have:=r.dp;rw[mX];nofun,by have:=r.un;rw[ox];nofun⟩
theorem b9.depth{k:Nat}{A:Around}(r:b9 k A):A.depth<recursionLimit:=by have:=r.dp;nofun
def uO:TA:=λ_ H Q=>Q [] H
def rW(ta:TE)(tr:TA):TA:=λσ H Q=>ta σ H λx H1=>tr σ H1 λxs H2=>Q (x::xs) H2
section
variable {X:Cx}{e:Expr}{es:List Expr}{te:TE}{t:TA}{pos:Pos}
theorem xu:PA X [] uO:=λ_ _ _ _ H Q I h=>Calls.spliced_nil ⟨[],H,I,.nil,h⟩
theorem uW(ha:PE X e te)(hr:PA X es t)(hs:starEach (e::es) X.env=(false,eval e X.env)::starEach es X.env:=by rfl):PA X (e::es) (rW te t):=by
 intro pos pins s σ H Q I h;rw[hs];show wpAny _ _ (spliced ((false,eval e X.env)::backTo pos (starEach es X.env))) _ _ s;refine Calls.spliced_cons (bi (ha pins s σ H _ I h) λu s1 ⟨x,H1,I1,r1,q1⟩=>?_);exact bi (hr pos pins s1 σ H1 _ I1 q1) λus s2 ⟨xs,H2,I2,r2,q2⟩=>⟨x::xs,H2,I2,.cons r1 r2,q2⟩
end
abbrev Sp:=List V->Hp->VK->XK->Prop
abbrev oV:=List Env->Hp->Shared->XK->Value->Shared->Prop
structure nK (P:Program)(w:World)(K:W.Frag)(mg:Str->Option Value)(base:Heap)(A:Around)(outer:List Env)(s:Shared)(H:Hp):Prop where
 frames:A.frames=some outer
 mod:Mod K mg base
 bs:∀b o,base.get? b=some o->s.heap.get? b=some o/\H b=none
 bsz:base.objs.size<=s.heap.objs.size
 funs:s.heap.FunFrames base outer
 frf:∀b∈fG outer,H b=none
 hok:gG P w H s.heap
 bare:AllBare s.gens
def CE(outer:List Env)(P:Program)(w:World)(H:Hp)(s:Shared)(Q:VK)(u:Value)(s':Shared):Prop :=
 ∃v H',s'.os=s.os/\AllBare s'.gens/\Un (fG outer) [] H H' s.heap s'.heap/\gG P w H' s'.heap/\aV v u/\Q v H'
def CR(CX:oV)(outer:List Env)(P:Program)(w:World)(H:Hp)(s:Shared)(Q:VK)(E:XK)(r:Result)(s':Shared):Prop :=
 match r with
 | .ok (.ret u)=>CE outer P w H s Q u s'
 | .ok _=>False
 | .error e=>CX outer H s E e s'
structure aR (P:Program)(w:World)(K:W.Frag)(mg:Str->Option Value)(base:Heap)(CX:oV)(k:Nat)(f:Addr)(fd:FuncData)(ps:List Str)(sp:Sp):Prop where
 len:∀vs H Q E,sp vs H Q E->vs.length=ps.length
 run:∀(A:Around)(outer:List Env)(s:Shared)(H:Hp)(args:Args)(us:List Value)(vs:List V)(Q:VK)(E:XK),b9 k A->nK P w K mg base A outer s H->BindsTo s fd args (ps.zip us)->aJ vs us->sp vs H Q E ->
  codeAny (model P w) A (.call (.ref f) args) (CR CX outer P w H s Q E) s
theorem nK.make{P:Program}{w:World}{K:W.Frag}{mg:Str->Option Value}{base:Heap}{A:Around}{outer:List Env}{s:Shared}{H:Hp}(e:nK P w K mg base A outer s H)(C:Addr)(us:List Value)(kw:List (Str×Value)) :
  nK P w K mg base (A.under (.builtin "type.__call__" ⟨.ref C::us,kw⟩)) outer s H:=⟨by first|exact e.frames|(simpa [Around.under,Code.envs,Code.isFrame,pushEnvs] using e.frames),e.mod,e.bs,e.bsz,e.funs,e.frf,e.hok,e.bare⟩
section
variable {X:Cx}{pins:List (Addr×Obj)}{σ:St}{H:Hp}{s s':Shared}
theorem au.env0(I:au X pins σ H s):nK X.prog X.w X.K X.mg X.base X.A X.stack s H :=
 ⟨I.ok.frames,I.ok.mod,I.bs,Jg I.ok.bsz I.sz,I.stack,I.stkFree,I.hok,I.bare⟩
theorem au.after{Q:VK}{u:Value}(I:au X pins σ H s)(h:CE X.stack X.prog X.w H s Q u s'):EP X pins σ Q u s':=by
 obtain⟨v,H',os,bare,un,hok,r,q⟩:=h;obtain⟨hh,g,d,t,os'⟩:=s';obtain rfl:os'=s.os:=os;exact⟨v,H',I.call (h':=hh) (g':=g) (d':=d) (t':=t) (ch:=[]) un hok bare (λb z=>absurd z (by simp)),r,q⟩
end
def zB(sp:Sp)(dvs:List V)(E:XK)(t:TA):TE:=λσ H Q=>t σ H λvs H1=>sp (vs++dvs) H1 Q E
def gk(K:W.Frag)(fd:FuncData)(ps:List Str)(ds:List Value):Prop :=
 ∀(s:Shared)(us:List Value),K.In s.heap->(us++ds).length=ps.length->BindsTo s fd ⟨us,[]⟩ (ps.zip (us++ds))
theorem gk.all{K:W.Frag}{fd:FuncData}{ps:List Str}(h:∀us:List Value,us.length=ps.length->bindArgs fd ⟨us,[]⟩=pure (ps.zip us)):gk K fd ps []:=λs us _ hl=>by
 rw[List.append_nil] at hl ⊢;exact .of_eq (h us hl)
def oy(CX:oV)(X:Cx)(E:XK):Prop:=∀(pins:List (Addr×Obj))(σ:St)(H:Hp)(s:Shared)(e:Value)(s':Shared),au X pins σ H s->CX X.stack H s E e s'->X.xe e s'
section
variable {X:Cx}{CX:oV}{k:Nat}{f C:Addr}{fd:FuncData}{ps:List Str}{sp:Sp}{dvs:List V}{ds:List Value}{E:XK}{x m:Str}{p pos apos:Pos}{e o:Expr}{es:List Expr}{ta:TE}{t:TA}
theorem mZ{pins:List (Addr×Obj)}{σ:St}{H:Hp}{s:Shared}{Q:VK}{us:List Value}{vs:List V}(F:aR X.prog X.w X.K X.mg X.base CX k f fd ps sp)(hr:b9 k X.A)(hb:gk X.K fd ps ds)(hd:aJ dvs ds)(hx:oy CX X E)
  (I:au X pins σ H s)(r:aJ vs us)(h:sp (vs++dvs) H Q E):wpAny (model X.prog X.w) X.A (call (.ref f) us) (EP X pins σ Q) X.xe s:=by
 have r2:aJ (vs++dvs) (us++ds):=r.append hd;have hl:(us++ds).length=ps.length:=by rw[<-r2.length];exact F.len _ _ _ _ h
 refine wpAny_call (codeAny_mono (F.run X.A X.stack s H ⟨us,[]⟩ (us++ds) (vs++dvs) Q E hr I.env0 (hb s us I.kIn hl) r2 h) λr s' hq=>?_);cases r with
 | error e=>exact hx pins σ H s e s' I hq
 | ok fl =>
  cases fl with
  | ret u=>exact I.after hq
  | next=>exact False.elim hq
  | brk=>exact False.elim hq
  | cont=>exact False.elim hq
theorem uZ(F:aR X.prog X.w X.K X.mg X.base CX k f fd ps sp)(hr:b9 k X.A)(hg:Gl X x)(hm:X.mg x=some (.ref f))(hk:PySem.W.keepIn X.K (.ref f)=true)(hb:gk X.K fd ps ds)(hd:aJ dvs ds)(hx:oy CX X E)
  (ha:PA X (e::es) t)(hdb:(x==("__debug__" : Str))=false:=by decide) (he:starEach (e::es) X.env=(false,eval e X.env)::starEach es X.env:=by rfl)(hpl:(backTo pos (starEach es X.env)).any (·.1)=false:=by rfl) :
  PE X (.Call (.Name x p) (e::es) [] pos) (zB sp dvs E t):=by
 intro pins s σ H Q I h;refine wpAny_Call_Name_kw (gD I hg hm ?_ hdb);refine PySem.W.callWith_K (h₀:=X.base) I.ok.mod.kin hk (bi (ha pos pins s σ H _ I h) λus s1 ⟨vs,H1,I1,r,q⟩=>⟨I1.kIn,?_⟩) he hpl;exact mZ F hr hb hd hx I1 r q
structure Mk (K:W.Frag)(C f:Addr):Prop where
 makes:PySem.W.makesIn K C=true
 init:PySem.W.findIn K (.ref C) "__init__" = some (some (.ref f))
 fn:PySem.W.isFn K (.ref f)=true
 kp:PySem.W.keepIn K (.ref C)=true
end
structure ar (N P:List Str)(sc:Scope):Prop where
 kind:sc.kind=.function
 co:sc.isCoroutine=false
 gen:sc.isGenerator=false
 nd:N.Nodup
 pre:N.take P.length=P
 par:∀x∈P,sc.names.lookup x=some .local\/sc.names.lookup x=some .cell
 nofree:∀y∈sc.names,y.2 ≠ .free
theorem jY{kindOf:Str->Option NameKind}{x:Str}:∀{binds:List (Str×Value)}{m:Str->Option Value},(∀v,(x,v)∉binds)->bindL kindOf binds m x=m x
 | [],_,_=>rfl
 | (n,v)::r,m,h=>by
  unfold bindL;rw[jY λw hw=>h w (Jh _ hw)];split
  .have:x≠n:=by rintro rfl;exact h v List.mem_cons_self
   simp[this]
  .rfl
theorem jZ{kindOf:Str->Option NameKind}{x:Str}:∀{binds:List (Str×Value)}{m:Str->Option Value},(∀v,(x,v)∉binds)->bindC kindOf binds m x=m x
 | [],_,_=>rfl
 | (n,v)::r,m,h=>by
  unfold bindC;rw[jZ λw hw=>h w (Jh _ hw)];split
  .rfl
  .have:x≠n:=by rintro rfl;exact h v List.mem_cons_self
   simp[this]
theorem jL{kindOf:Str->Option NameKind}{x:Str}{v:Value}:∀{P:List Str}{vs:List Value}{i:Nat}{m:Str->Option Value},P.Nodup->P[i]? = some x->vs[i]? = some v->kindOf x=some .local ->
  bindL kindOf (P.zip vs) m x=some v
 | [],_,_,_,_,h,_,_=>by simp at h
 | _::_,[],_,_,_,_,h,_=>by simp at h
 | p::P,w::vs,0,m,nd,h1,h2,hk=>by
  simp at h1 h2;subst h1;subst h2;show bindL kindOf ((p,w)::P.zip vs) m p=_;unfold bindL;rw[jY λv hv=>(List.nodup_cons.mp nd).1 (List.of_mem_zip hv).1,Jb hk];simp
 | p::P,w::vs,i+1,m,nd,h1,h2,hk=>by
  show bindL kindOf ((p,w)::P.zip vs) m x=_;unfold bindL;exact jL (i:=i) (List.nodup_cons.mp nd).2 (by simpa using h1) (by simpa using h2) hk
theorem j6{kindOf:Str->Option NameKind}{x:Str}{v:Value}:∀{P:List Str}{vs:List Value}{i:Nat}{m:Str->Option Value},P.Nodup->P[i]? = some x->vs[i]? = some v->kindOf x≠some .local ->
  bindC kindOf (P.zip vs) m x=some v
 | [],_,_,_,_,h,_,_=>by simp at h
 | _::_,[],_,_,_,_,h,_=>by simp at h
 | p::P,w::vs,0,m,nd,h1,h2,hk=>by
  simp at h1 h2;subst h1;subst h2;show bindC kindOf ((p,w)::P.zip vs) m p=_;unfold bindC;rw[jZ λv hv=>(List.nodup_cons.mp nd).1 (List.of_mem_zip hv).1,Jc hk];simp
 | p::P,w::vs,i+1,m,nd,h1,h2,hk=>by
  show bindC kindOf ((p,w)::P.zip vs) m x=_;unfold bindC;exact j6 (i:=i) (List.nodup_cons.mp nd).2 (by simpa using h1) (by simpa using h2) hk
def start(N:List Str)(vs:List V):St:=vs.map some++List.replicate (N.length-vs.length) none
def fM(CX:oV)(P:Program)(w:World)(K:W.Frag)(mg:Str->Option Value)(base:Heap)(N:List Str)(qual:Str)(scope:Scope)(f:Addr)(cd:Value)(A:Around)(outer:List Env)(s:Shared)(H:Hp)(E:XK):Cx where
 prog:=P
 w:=w
 K:=K
 mg:=mg
 base:=base
 A:=A.deeper (envOfC qual scope s.heap.objs.size f cd)
 N:=N
 s₀:=s
 H₀:=H
 env:=envOfC qual scope s.heap.objs.size f cd
 outer:=outer
 stack:=envOfC qual scope s.heap.objs.size f cd::outer
 ex:=[]
 calm:=true
 fn:=λ_=>true
 pn:=[]
 xe:=λe s'=>wpAny (model P w) (A.deeper (envOfC qual scope s.heap.objs.size f cd)) (leaving (envOfC qual scope s.heap.objs.size f cd) e) (λ_ s''=>CX outer H s E e s'') (λe' s''=>CX outer H s E e' s'') s'
theorem mK{sc:Scope}{n:Nat}{x:Str}(h:sc.names.lookup x=some .cell):∃c,(cellsFrom n sc.names []).lookup x=some c:=by
 have q:=PySem.W.cellsFrom_some sc.names n [] (.inl h);exact Option.isSome_iff_exists.mp q
theorem qB{CX:oV}{P:Program}{w:World}{K:W.Frag}{mg:Str->Option Value}{base:Heap}{N ps:List Str}{qual:Str}{scope:Scope}{f:Addr}{cd:Value}{A:Around}{outer:List Env}{s s1:Shared}{H:Hp}{E:XK}{us:List Value}{vs:List V}
  (S:ar N ps scope)(hd:A.handled=none)(e0:nK P w K mg base A outer s H)(hl:vs.length=ps.length)(r:aJ vs us)
  (x:InCallC s s.heap.objs.size (bindL (envOfC qual scope s.heap.objs.size f cd).kindOf (ps.zip us) λ_=>none) (cellsFrom (s.heap.objs.size+1) scope.names []) (bindC (envOfC qual scope s.heap.objs.size f cd).kindOf (ps.zip us) λ_=>none) s1) :
  au (fM CX P w K mg base N qual scope f cd A outer s H E) [] (start N vs) H s1:=by
 have hpl:ps.length<=N.length:=by have:=Jj List.length S.pre;rw[Jt] at this;nofun
 obtain⟨h1,tk,rfl,hk⟩:=x.done;have noA:∀b:Addr,b∉(fM CX P w K mg base N qual scope f cd A outer s H E).ex:=λb z=>absurd (show b∈([]:List Addr) from z) (by simp)
 refine⟨⟨e0.mod,S.kind,rfl,rfl,Jl _,λy z c h1 h2=>?_,λy hy=>?_,λy c _ h=>?_,λ_=>hd,Around.frames_deeper e0.frames,.inr ⟨rfl,rfl⟩,λb z=>absurd z (noA b),e0.bs,e0.bsz,λb _ _=>noA b,λb z=>absurd z (noA b),e0.funs,e0.frf⟩,
  rfl,e0.bare,Un.kept hk,⟨_,x.toInCall.ns,λi y v h1 h2 h3=>?_⟩,λy c h=>⟨_,x.cell y c h⟩,e0.hok.fresh (Jl _),λy c h=>?_,λp hp=>absurd (show p∈([]:List (Addr×Obj)) from hp) (by simp),e0.hok.kept hk,?_⟩
 .exact name_of_addr x.apart (Ju h1) (Ju h2)
 .have hy:scope.names.lookup y=some .cell\/scope.names.lookup y=some .free:=hy;rcases hy with hy|hy
  .exact mK hy
  .exact absurd rfl (S.nofree _ (Ju hy))
 .exact Nat.le_of_lt (x.above y c (Ju h))
 .have hi:i<vs.length:=by
   unfold start at h2;by_cases hi:i<vs.length
   .exact hi
   .rw[Jv (by simpa using hi)] at h2
    rw[List.getElem?_replicate] at h2;split at h2<;>cases h2
  have ha:vs[i]? = some v:=by
   unfold start at h2;rw[Jw (by simpa using hi),Jx] at h2
   cases e:vs[i]? with
   | none=>rw[e] at h2;cases h2
   | some a=>rw[e] at h2;cases h2;rfl
  obtain⟨u,hu,rv⟩:=r.get ha;have hp:ps[i]? = some y:=by
   rw[<-S.pre,List.getElem?_take_of_lt ()];exact h1
  have ndP:ps.Nodup:=by rw[<-S.pre];exact S.nd.sublist (List.take_sublist _ _)
  refine⟨u,rv,?_⟩;rcases S.par y (Jy hp) with k|k
  .exact .inl ⟨k,jL ndP hp hu k⟩
  .obtain⟨c,e⟩:=mK (n:=s.heap.objs.size+1) k;refine .inr ⟨.inl k,c,e,?_⟩;have q:=x.cell y c e;rw[j6 ndP hp hu (by show scope.names.lookup y≠_;rw[k];decide)] at q
   exact q
 .exact e0.hok.fresh (Nat.le_of_lt (x.above y c (Ju h)))
 .unfold start;show _=N.length;rw[Jz,Jr,List.length_replicate];nofun
theorem wG{CX:oV}{P:Program}{w:World}{K:W.Frag}{mg:Str->Option Value}{base:Heap}{k:Nat}{f:Addr}{name qual:Str}{params:Arguments}{body:List Stmt}{scope:Scope}{dV kV doc pm cdv ct oc:Value}{an od:Option Addr}
  {osl:Array (Option Value)}{N ps:List Str}{sp:Sp}(lk:K.lookup f=some ⟨oc,od,.func (PySem.W.fnOf name qual params body scope dV kV doc pm an cdv ct),osl⟩)(hcd:PySem.W.codeIn K cdv qual=true)(S:ar N ps scope)
  (len:∀vs H Q E,sp vs H Q E->vs.length=ps.length)
  (hbody:∀(A:Around)(outer:List Env)(s:Shared)(H:Hp)(vs:List V)(Q:VK)(E:XK),b9 k (A.deeper (envOfC qual scope s.heap.objs.size f cdv))->sp vs H Q E ->
   ∃t,mS (fM CX P w K mg base N qual scope f cdv A outer s H E) body t/\t { nx:=λ_ H'=>Q .non H',rt:=Q } (start N vs) H) :
  aR P w K mg base CX (k+1) f (PySem.W.fnOf name qual params body scope dV kV doc pm an cdv ct) ps sp:=by
 refine⟨len,λA outer s H args us vs Q E hr e0 hb r hsp=>?_⟩;have hl:=len _ _ _ _ hsp;have KX:K.In s.heap:=e0.mod.kin.keeps λb o e=>(e0.bs b o e).1;have lim:s.heap.NoLimit:=e0.mod.nolimit.keeps λb o e=>(e0.bs b o e).1;have hkind:∀y∈ps.zip us,scope.names.lookup y.1=some .local\/(scope.names.lookup y.1=some .cell/\((cellsFrom (s.heap.objs.size+1) scope.names []).lookup y.1).isSome=true):=λ⟨n,v⟩ hy=>by
  rcases S.par n (List.of_mem_zip hy).1 with q|q
  .exact .inl q
  .exact .inr ⟨q,PySem.W.cellsFrom_some _ _ _ (.inl q)⟩
 refine codeAny_call_function hr.depth (KX _ _ lk) rfl S.co S.gen rfl (PySem.W.codeRec_of KX hcd) (hb _ _ _ _ ?_);refine wpAny_newFunctionEnv_cells S.kind hkind λenv he s1 x=>?_;subst he;refine⟨lim.keeps x.toInCall.keep,codeAny_func ?_⟩;obtain⟨t,ht,hq⟩:=hbody A outer s H vs Q E (hr.deeper _) hsp;have I:au (fM CX P w K mg base N qual scope f cdv A outer s H E) [] (start N vs) H s1:=qB S hr.hd e0 hl r x;refine wpAny_mono (ht [] s1 (start N vs) H _ I hq) (λfl s' hs=>?_) λe s' hs=>hs;have fin:∀{σ':St}{H':Hp}{v:V}{u:Value},au (fM CX P w K mg base N qual scope f cdv A outer s H E) [] σ' H' s'->aV v u->Q v H'->CE outer P w H s Q u s' :=
  λ{σ' H' v u} J rv q=>⟨v,H',J.os,J.bare,J.base,J.hok,rv,q⟩
 cases fl with
 | ret u =>
  obtain⟨v,σ',H',J,rv,q⟩:=hs;exact fin J rv q
 | next =>
  obtain⟨σ',H',J,q⟩:=hs;exact fin (v:=V.non) (u:=Value.none) J rfl q
 | brk =>
  obtain⟨_,_,_,q⟩:=hs;exact False.elim q
 | cont =>
  obtain⟨_,_,_,q⟩:=hs;exact False.elim q
section
variable {X:Cx}{x:Str}{p pos:Pos}{e:Expr}{es:List Expr}{t:TA}{id T:String}{r:List V->Hp->VK->Prop}
def u8(r:List V->Hp->VK->Prop)(t:TA):TE:=λσ H Q=>t σ H λvs H1=>r vs H1 Q
theorem sO(hc:dg X (.builtin id) r)(hg:Gl X x)(hm:X.mg x=none)(hv:bootBuiltins x=some (.builtin id))(ha:PA X (e::es) t)(hn:x ≠ "__name__":=by decide) (hdb:(x==("__debug__" : Str))=false:=by decide)
  (he:starEach (e::es) X.env=(false,eval e X.env)::starEach es X.env:=by rfl)(hpl:(backTo pos (starEach es X.env)).any (·.1)=false:=by rfl):PE X (.Call (.Name x p) (e::es) [] pos) (u8 r t):=by
 intro pins s σ H Q I h;refine wpAny_Call_Name_kw (jr I hg hm hv ?_ hn hdb);exact PyProof.Rows.callWith_builtin1 (bi (ha pos pins s σ H _ I h) λus s1 ⟨vs,H1,I1,r1,q1⟩=>hc pins s1 σ H1 vs us Q I1 r1 q1) he hpl
theorem qM(hc:dg X (.type T) r)(hg:Gl X x)(hm:X.mg x=none)(hv:bootBuiltins x=some (.type T))(ha:PA X (e::es) t)(hn:x ≠ "__name__":=by decide) (hdb:(x==("__debug__" : Str))=false:=by decide)
  (he:starEach (e::es) X.env=(false,eval e X.env)::starEach es X.env:=by rfl)(hpl:(backTo pos (starEach es X.env)).any (·.1)=false:=by rfl):PE X (.Call (.Name x p) (e::es) [] pos) (u8 r t):=by
 intro pins s σ H Q I h;refine wpAny_Call_Name_kw (jr I hg hm hv ?_ hn hdb);exact PyProof.Rows.callWith_type1 (bi (ha pos pins s σ H _ I h) λus s1 ⟨vs,H1,I1,r1,q1⟩=>hc pins s1 σ H1 vs us Q I1 r1 q1) he hpl
end
end L2
namespace HT
open PySem PyProof.Rows
section
open PySem.SeqAt
open PySem.AutoSeq1 (wpAny_loadPart')
open PySem.MeetsSeq PySem.MeetsSeq2 PySem.MeetsSeq3
end
section
variable {prog:Program}{w:World}{A:Around}{E:Value->Shared->Prop}{s:Shared}
def sIx(n d:Nat):Option Int->Nat
 | none=>d
 | some v=>if v<0 then (v+(n:Int)).toNat else min v.toNat n
theorem km(n d k:Nat):sIx n d (some (k:Int))=min k n:=by
 show (if (k:Int)<0 then ((k:Int)+(n:Int)).toNat else min (k:Int).toNat n)=min k n
 rw[Jc (),Int.toNat_natCast]
end
end HT
namespace L2
open PySem PySem.Spec PyProof.Rows
abbrev TO:=St->Hp->(Option Int->Hp->Prop)->Prop
def PO(X:Cx)(e:Option Expr)(t:TO):Prop :=
 ∀(pins:List (Addr×Obj))(s:Shared)(σ:St)(H:Hp)(Q:Option Int->Hp->Prop),au X pins σ H s->t σ H Q ->
  wpAny (model X.prog X.w) X.A (evalPart e X.env) (λu s'=>∃o H',au X pins σ H' s'/\IsPart u o/\Q o H') X.xe s
def kB:TO:=λ_ H Q=>Q none H
def pZ(t:TE):TO:=λσ H Q=>t σ H λx H1=>∃i,x=.int i/\Q (some i) H1
section
variable {X:Cx}{e:Expr}{te:TE}{lo hi:Option Expr}{tl th:TO}{pos p2:Pos}
theorem ux:PO X none kB:=by
 intro pins s σ H Q I h;rw[evalPart_none];exact wpAny_pure ⟨none,H,I,.none,h⟩
theorem vP(h:PE X e te):PO X (some e) (pZ te):=by
 intro pins s σ H Q I hw;rw[evalPart_some];refine bi (h pins s σ H _ I hw) λu s1 ⟨x,H1,I1,r1,q1⟩=>?_;obtain⟨i,rfl,q⟩:=q1;obtain⟨t,rfl⟩:=r1;exact⟨some i,H1,I1,.int i t,q⟩
def t8(X:Cx)(r:V->Option Int->Option Int->Hp->VK->Prop):Prop :=
 ∀(pins:List (Addr×Obj))(s:Shared)(σ:St)(H:Hp)(x:V)(v vl vu:Value)(lo hi:Option Int)(sl:Addr)(Q:VK),au X pins σ H s->aV x v->s.heap.IsSliceOf sl vl vu .none->IsPart vl lo->IsPart vu hi->r x lo hi H Q ->
  ∃T id,typeLookup (.type T) "__getitem__" = pure (some (.builtin id))/\s.TypeIs v T/\wpAny (model X.prog X.w) X.A (getItem v (.ref sl)) (EP X pins σ Q) X.xe s
def Az(r:V->Option Int->Option Int->Hp->VK->Prop)(te:TE)(tl th:TO):TE:=λσ H Q=>te σ H λx H1=>tl σ H1 λl H2=>th σ H2 λu H3=>r x l u H3 Q
theorem rA{r:V->Option Int->Option Int->Hp->VK->Prop}(hr:t8 X r)(he:PE X e te)(hl:PO X lo tl)(hu:PO X hi th):PE X (.Subscript e (.Slice lo hi none p2) pos) (Az r te tl th):=by
 intro pins s σ H Q I h;refine Subscript_ (bi (he pins s σ H _ I h) λv s1 ⟨x,H1,I1,r1,q1⟩=>?_);refine wpAny_Slice (bi (hl pins s1 σ H1 _ I1 q1) λvl s2 ⟨l,H2,I2,pl,q2⟩=>bi (hu pins s2 σ H2 _ I2 q2) λvu s3 ⟨u,H3,I3,pu,q3⟩=>?_);rw[evalPart_none];refine wpAny_pure ?_;have I4:au X pins σ H3 { s3 with heap:=s3.heap.push { cls:=.type "slice",data:=.fields #[vl,vu,.none] } }:=I3.kept (t':=s3.toks) λb ob q=>Heap.get?_push_of_some _ q
 obtain⟨T,id,hT,ht,hg⟩:=hr pins { s3 with heap:=s3.heap.push { cls:=.type "slice",data:=.fields #[vl,vu,.none] } } σ H3 x v vl vu l u s3.heap.objs.size Q I4 r1 (Heap.IsSliceOf.new ..) pl pu q3;show wpAny (model X.prog X.w) X.A (subscriptTail e (.Slice lo hi none p2) v (.ref s3.heap.objs.size)) (EP X pins σ Q) X.xe { s3 with heap:=s3.heap.push { cls:=.type "slice",data:=.fields #[vl,vu,.none] } }
 exact tail_any (ops:=[.ref s3.heap.objs.size,v]) ht hT hg (by with_unfolding_all rfl)
def gm(xs:List V)(lo hi:Option Int):List V:=(xs.drop (HT.sIx xs.length 0 lo)).take (HT.sIx xs.length xs.length hi-HT.sIx xs.length 0 lo)
theorem l9(xs:List V)(lo hi:Option Int):(gm xs lo hi).length<=xs.length:=by
 unfold gm;rw[Jt,JA];nofun
end
def ow(n:Nat)(i:Int):Option Nat:=if 0<=i then (if i<n then some i.toNat else none) else if -(n:Int)<=i then some (i+n).toNat else none
def iA{α:Type}(xs:List α)(i:Int):Option α:=(ow xs.length i).bind λj=>xs[j]?
theorem pc{n:Nat}{i:Int}{j:Nat}(h:ow n i=some j):seqIndex? i n=some j/\j<n /\ -(n:Int)<=i/\i<n:=by
 unfold ow at h;by_cases h0:0<=i
 .rw[Jb h0] at h;by_cases h1:i<n
  .rw[Jb h1] at h;have e:i.toNat=j:=Ji h;exact⟨by rw[seqIndex_of h0 h1,e],(),(),h1⟩
  .rw[Jc h1] at h;cases h
 .rw[Jc h0] at h;by_cases h1 : -(n:Int)<=i
  .rw[Jb h1] at h;have e:(i+n).toNat=j:=Ji h;exact⟨by rw[seqIndex_neg () h1,e],(),h1,()⟩
  .rw[Jc h1] at h;cases h
theorem lh{α:Type}{xs:List α}{i:Int}{v:α}(h:iA xs i=some v):∃j,seqIndex? i xs.length=some j/\xs[j]? = some v/\j<xs.length /\ -(xs.length:Int)<=i/\i<xs.length:=by
 unfold iA at h;cases e:ow xs.length i with
 | none=>rw[e] at h;cases h
 | some j =>
  rw[e] at h;obtain⟨h1,h2,h3,h4⟩:=pc e;exact⟨j,h1,h,h2,h3,h4⟩
theorem cw{α:Type}{xs:List α}{j:Nat}{v:α}(h:xs[j]? = some v):iA xs (j:Int)=some v:=by
 have hj:j<xs.length:=(List.getElem?_eq_some_iff.mp h).1;have e:ow xs.length (j:Int)=some j:=by
  unfold ow;rw[Jb (),Jb ()];simp
 unfold iA;rw[e];exact h
theorem iN{α:Type}(xs:List α)(v:α):iA (xs++[v]) (-1)=some v:=by
 have hl:(xs++[v]).length=xs.length+1:=by simp
 have e:ow (xs++[v]).length (-1)=some xs.length:=by
  unfold ow;rw[hl,Jc ∅,Jb ()];congr 1
  nofun
 unfold iA;rw[e];show (xs++[v])[xs.length]? = some v;simp
def pV(b:Expr):Prop:=∀o i,subscripted b false o i=operate [o,i] (getItem o i)
def rg(X:Cx)(r:R2):Prop :=
 ∀(value slice:Expr)(pins:List (Addr×Obj))(s:Shared)(σ:St)(H:Hp)(x y:V)(v u:Value)(Q:VK),au X pins σ H s->aV x v->aV y u->r x y H Q ->
  subscripted slice false v u=operate [v,u] (getItem v u)->wpAny (model X.prog X.w) X.A (subscriptTail value slice v u) (EP X pins σ Q) X.xe s
def AQ(X:Cx)(id:String)(r:V->List V->Hp->VK->Prop):Prop :=
 ∀(pins:List (Addr×Obj))(s:Shared)(σ:St)(H:Hp)(x:V)(xs:List V)(v:Value)(us:List Value)(Q:VK),au X pins σ H s->aV x v->aJ xs us->r x xs H Q ->
  wpAny (model X.prog X.w) X.A (call (.builtin id) (v::us)) (EP X pins σ Q) X.xe s
section
variable {X:Cx}{a b:Expr}{ta tb:TE}{pos:Pos}
theorem zn{r:R2}(hr:rg X r)(ha:PE X a ta)(hb:PE X b tb)(hs:pV b):PE X (.Subscript a b pos) (uH r ta tb):=by
 intro pins s σ H Q I h;exact Subscript_ (xS ha hb I h λv u s2 x y H2 I2 rx ry q=>hr a b pins s2 σ H2 x y v u Q I2 rx ry q (hs _ _))
def zc(K:W.Frag):R2:=λx y H Q=>∃p xs i v,x=.ref p/\y=.int i/\f6 K H p xs/\iA xs i=some v/\Q v H
def zt(K:W.Frag):R2:=λx y H Q=>∃p xs i v,x=.ref p/\y=.int i/\oA K H p xs/\iA xs i=some v/\Q v H
theorem pQ:rg X (zc X.K):=by
 intro value slice pins s σ H x y v u Q I rx ry h hs;obtain⟨p,xs,i,z,rfl,rfl,hq,he,q⟩:=h;cases rx;obtain⟨t,rfl⟩:=ry;obtain⟨its,r,pl,hz⟩:=I.list hq;obtain⟨j,h1,h2,h3,h4,h5⟩:=lh he;obtain⟨w,ew,rw'⟩:=r.get h2;have hl:=r.length;have hn:=gK;have fin:EP X pins σ Q w s:=⟨z,H,I,rw',q⟩;by_cases h0:0<=i
 .have hj:i.toNat=j:=by
   rw[seqIndex_of h0 h5] at h1;exact Ji h1
  exact item_listR pl.isList h0 () (by rw[hj];simpa using ew) fin hs
 .have hj:(i+(its.toArray.size:Int)).toNat=j:=by
   rw[seqIndex_neg () h4] at h1;rw[Jo,<-hl];exact Ji h1
  exact subscriptTail_builtinR (x:=w) pl.isList.typeIs slot_list_getitem.lookup
   (wpAny_getItem_list_neg (Q:=λr s'=>r=w/\EP X pins σ Q r s') pl.isList () (by rw[Jo]<;>nofun) () (by rw[hj];simpa using ew) ⟨rfl,fin⟩) hs
theorem xX:rg X (zt X.K):=by
 intro value slice pins s σ H x y v u Q I rx ry h hs;obtain⟨p,xs,i,z,rfl,rfl,hq,he,q⟩:=h;cases rx;obtain⟨t,rfl⟩:=ry;obtain⟨its,r,pl,hz⟩:=I.tuple hq;obtain⟨j,h1,h2,h3,h4,h5⟩:=lh he;obtain⟨w,ew,rw'⟩:=r.get h2;have hl:=r.length;have hn:=gK;have fin:EP X pins σ Q w s:=⟨z,H,I,rw',q⟩;exact subscriptTail_builtinR (x:=w) pl.typeIs slot_tuple_getitem.lookup
  (getItem_tuple (j:=j) (Q:=λr s'=>r=w/\EP X pins σ Q r s') pl () () (by rw[Jo,<-hl];exact h1) (by simpa using ew) ⟨rfl,fin⟩) hs
theorem nv(its:List Value)(n j:Nat)(u:Value):Obj.mapSeq (·.setIfInBounds j u) { cls:=.type "list",data:=.seq its.toArray n } = { cls:=.type "list",data:=.seq (its.set j u).toArray n }:=by
 simp[Obj.mapSeq]
theorem au.lst{pins:List (Addr×Obj)}{σ:St}{H:Hp}{s:Shared}{p:Addr}{xs:List V}(I:au X pins σ H s)(h:H p=some (.lst xs)) :
  ∃(its:List Value)(n:Nat),aJ xs its/\s.heap.get? p=some { cls:=.type "list",data:=.seq its.toArray n } /\ xs.length<=sizeLine:=by
 obtain⟨z,its,n,r,e⟩:=I.hok p _ h;exact⟨its,n,r,e,z⟩
theorem au.lstUpd{pins:List (Addr×Obj)}{σ:St}{H:Hp}{s:Shared}{p:Addr}{xs ys:List V}{its its':List Value}{n n':Nat}{f:Obj->Obj}(I:au X pins σ H s)(h:H p=some (.lst xs))
  (ho:s.heap.get? p=some { cls:=.type "list",data:=.seq its.toArray n }) (hf:f { cls:=.type "list",data:=.seq its.toArray n } = { cls:=.type "list",data:=.seq its'.toArray n' }) (r:aJ ys its')(hz:ys.length<=sizeLine)(t:Nat) :
  au X pins σ (upd H p (.lst ys)) { s with heap:=s.heap.update p f,toks:=t }:=by
 have e:(s.heap.update p f).get? p=some { cls:=.type "list",data:=.seq its'.toArray n' }:=by
  rw[Heap.get?_update_self f ho (by rw[hf]<;>rfl),hf]
 refine I.write (x:=p) (e:=p) (by rw[h];trivial) (.inl rfl) (λb u hb q=>(Heap.get?_update_other _ _ (Ne.symm hb)).trans q) ⟨_,e⟩ ?_
 exact⟨hz,its',n',r,e⟩
def zb:V->V->V->Hp->(Hp->Prop)->Prop:=λo i v H Q=>∃p xs k j,o=.ref p/\i=.int k/\H p=some (.lst xs)/\ow xs.length k=some j/\Q (upd H p (.lst (xs.set j v)))
theorem tO:qH X zb:=by
 intro pins s σ H o i v ov iv u Q I ro ri rv h;obtain⟨p,xs,k,j,rfl,rfl,hp,hj,q⟩:=h;cases ro;obtain⟨t,rfl⟩:=ri;obtain⟨its,n,r,ho,hz⟩:=I.lst hp;obtain⟨h1,h2,h3,h4⟩:=pc hj;have hl:=r.length;have hn:=gK;have I':au X pins σ (upd H p (.lst (xs.set j v))) { s with heap:=s.heap.update p (Obj.mapSeq (·.setIfInBounds j u)) } :=
  I.lstUpd hp ho (nv its n j u) (r.set rv j) (by rw[List.length_set];exact hz) s.toks
 by_cases h0:0<=k
 .have hk:k.toNat=j:=by
   rw[seqIndex_of h0 h4] at h1;exact Ji h1
  exact PySem.W.ki_setAt ho h0 () (by rw[Jo,<-hl];exact h4) (by rw[hk];exact⟨_,I',q⟩)
 .have hk:(k+(its.toArray.size:Int)).toNat=j:=by
   rw[seqIndex_neg () h3] at h1;rw[Jo,<-hl];exact Ji h1
  exact PySem.W.ki_setBack ho () (by rw[Jo,<-hl];exact h3) () (by rw[hk];exact⟨_,I',q⟩)
theorem kx(lo hi:Option Int)(n:Nat):(sliceBounds lo hi none n).1=((HT.sIx n 0 lo:Nat):Int)/\(sliceBounds lo hi none n).2.1=((HT.sIx n n hi:Nat):Int)/\(sliceBounds lo hi none n).2.2=1:=by
 refine⟨?_,?_,rfl⟩
 .cases lo with
  | none=>simp[sliceBounds,HT.sIx]
  | some i =>
   simp only[sliceBounds,HT.sIx,Option.getD_none,show (1:Int) > 0 by decide,if_true]
   by_cases h:i<0
   .simp only[h,if_true]<;>nofun
   .simp only[h,if_false]<;>nofun
 .cases hi with
  | none=>simp[sliceBounds,HT.sIx]
  | some i =>
   simp only[sliceBounds,HT.sIx,Option.getD_none,show (1:Int) > 0 by decide,if_true]
   by_cases h:i<0
   .simp only[h,if_true]<;>nofun
   .simp only[h,if_false]<;>nofun
theorem jD(its:List Value)(lo hi:Option Int):slicePick its.toArray lo hi none=((its.drop (HT.sIx its.length 0 lo)).take (HT.sIx its.length its.length hi-HT.sIx its.length 0 lo)).toArray:=by
 obtain⟨h1,h2,h3⟩:=kx lo hi its.toArray.size;unfold slicePick;rw[h1,h2,h3];simp only[sliceRange_one,pick_run,Jo]<;>rfl
def AE(K:W.Frag):V->Option Int->Option Int->Hp->VK->Prop:=λx lo hi H Q=>∃a xs,x=.ref a/\f6 K H a xs /\ ∀p,H p=none->Q (.ref p) (upd H p (.lst (gm xs lo hi)))
theorem uf:t8 X (AE X.K):=by
 intro pins s σ H x v vl vu lo hi sl Q I rx hs pl pu h;obtain⟨a,xs,rfl,hx,q⟩:=h;cases rx;obtain⟨its,r,ht,hz⟩:=I.list hx;have hlen:=r.length;refine⟨"list",_,slot_list_getitem.lookup,ht.isList.typeIs,?_⟩;refine wpAny_getItem_list_slice ht.isList hs pl pu .none (by simp) ?_ (by rw[Jo]<;>nofun)
 rw[jD,<-hlen];refine⟨.ref s.heap.objs.size,_,I.laid (t':=s.toks) (o:=.lst (gm xs lo hi)) (λb ob q=>Heap.get?_push_of_some _ q) (Jl _) ?_,rfl,q _ (I.hok.fresh (Jl _))⟩;exact⟨Jg (l9 xs lo hi) hz,_,0,(r.drop (HT.sIx xs.length 0 lo)).take (HT.sIx xs.length xs.length hi-HT.sIx xs.length 0 lo),Heap.get?_push_size _ rfl⟩
def ix:V->Bool
 | .non=>true
 | .bl _=>true
 | .int _=>true
 | .str _=>true
 | _=>false
def wp:V->V->Bool
 | .non,.non=>true
 | .bl a,.bl b=>a==b
 | .bl a,.int b=>(if a then 1 else 0)==b
 | .int a,.bl b=>a==(if b then 1 else 0)
 | .int a,.int b=>a==b
 | .str a,.str b=>a==b
 | _,_=>false
theorem yP{A:Around}{s:Shared}{y x:V}{u v:Value}(ry:aV y u)(rx:aV x v)(fy:ix y=true)(fx:ix x=true):SeqAt.EqAt A s u v (wp y x):=by
 cases y with
 | non =>
  cases ry;cases x with
  | non=>cases rx;exact SeqAt.EqAt.same _
  | bl b=>cases rx;exact SeqAt.EqAt.none_bool b
  | int b=>obtain⟨t,rfl⟩:=rx;exact SeqAt.EqAt.none_int b t
  | str b=>obtain⟨t,rfl⟩:=rx;exact SeqAt.EqAt.none_str b t
  | _=>exact absurd (show false=true from fx) Jk
 | bl a =>
  cases ry;cases x with
  | non=>cases rx;exact SeqAt.EqAt.bool_none a
  | bl b=>cases rx;exact SeqAt.EqAt.bool_bool a b
  | int b=>obtain⟨t,rfl⟩:=rx;exact SeqAt.EqAt.bool_int a b t
  | str b=>obtain⟨t,rfl⟩:=rx;exact SeqAt.EqAt.bool_str a b t
  | _=>exact absurd (show false=true from fx) Jk
 | int a =>
  obtain⟨t',rfl⟩:=ry;cases x with
  | non=>cases rx;exact SeqAt.EqAt.int_none a t'
  | bl b=>cases rx;exact SeqAt.EqAt.int_bool a t' b
  | int b=>obtain⟨t,rfl⟩:=rx;exact SeqAt.EqAt.int_int a t' b t
  | str b=>obtain⟨t,rfl⟩:=rx;exact SeqAt.EqAt.int_str a t' b t
  | _=>exact absurd (show false=true from fx) Jk
 | str a =>
  obtain⟨t',rfl⟩:=ry;cases x with
  | non=>cases rx;exact SeqAt.EqAt.str_none a t'
  | bl b=>cases rx;exact SeqAt.EqAt.str_bool a t' b
  | int b=>obtain⟨t,rfl⟩:=rx;exact SeqAt.EqAt.str_int a t' b t
  | str b=>obtain⟨t,rfl⟩:=rx;exact SeqAt.EqAt.str_str a t' b t
  | _=>exact absurd (show false=true from fx) Jk
 | _=>exact absurd (show false=true from fy) Jk
def oa(x:V)(u:Value):Bool:=match u with
 | .none=>wp .non x
 | .bool b=>wp (.bl b) x
 | .int i _=>wp (.int i) x
 | .str z _=>wp (.str z) x
 | _=>false
theorem rS{x y:V}{u:Value}(r:aV y u)(f:ix y=true):oa x u=wp y x:=by
 cases y with
 | non=>cases r;rfl
 | bl b=>cases r;rfl
 | int i=>obtain⟨t,rfl⟩:=r;rfl
 | str z=>obtain⟨t,rfl⟩:=r;rfl
 | _=>exact absurd (show false=true from f) Jk
theorem gC{x:V}:∀{xs:List V}{us:List Value},aJ xs us->xs.all ix=true->us.any (oa x)=xs.any λy=>wp y x
 | _,_,.nil,_=>rfl
 | y::xs,u::us,.cons r t,f=>by
  rw[List.all_cons,JB] at f;rw[List.any_cons,List.any_cons,rS r f.1,gC t f.2]
theorem fD{A:Around}{s:Shared}{x:V}{v:Value}(rx:aV x v)(fx:ix x=true):∀{xs:List V}{us:List Value},aJ xs us->xs.all ix=true -> ∀u∈us,SeqAt.EqAt A s u v (oa x u)
 | _,_,.nil,_=>λu hu=>by cases hu
 | y::xs,u::us,.cons r t,f=>λu' hu=>by
  rw[List.all_cons,JB] at f;rcases JL.mp hu with rfl|hu
  .rw[rS r f.1];exact yP r rx f.1 fx
  .exact fD rx fx t f.2 u' hu
def wP(x:V)(xs:List V):Bool:=xs.any λy=>wp y x
def AO(K:W.Frag)(neg:Bool):R2:=λx y H Q=>∃p xs,y=.ref p/\(f6 K H p xs\/oA K H p xs)/\ix x=true/\xs.all ix=true/\Q (.bl (if neg then !wP x xs else wP x xs)) H
theorem qw:cV X (compareOp .In) (AO X.K false):=by
 intro pins s σ H x y v u Q I rx ry h;obtain⟨p,xs,rfl,hq,fx,fs,q⟩:=h;cases ry;rcases hq with hq|hq
 .obtain⟨its,r,pl,hz⟩:=I.list hq;refine SeqAt.in_listAt (oa x) pl.isList (λw hw=>fD rx fx r fs w (by simpa using hw)) ⟨.bl _,H,I,rfl,?_⟩
  rw[show its.toArray.any (oa x)=its.any (oa x) by simp,gC r fs]
  exact q
 .obtain⟨its,r,pl,hz⟩:=I.tuple hq;refine SeqAt.in_tupleAt (oa x) pl (λw hw=>fD rx fx r fs w (by simpa using hw)) ⟨.bl _,H,I,rfl,?_⟩
  rw[show its.toArray.any (oa x)=its.any (oa x) by simp,gC r fs]
  exact q
theorem lu:cV X (compareOp .NotIn) (AO X.K true):=by
 intro pins s σ H x y v u Q I rx ry h;obtain⟨p,xs,rfl,hq,fx,fs,q⟩:=h;cases ry;rcases hq with hq|hq
 .obtain⟨its,r,pl,hz⟩:=I.list hq;refine SeqAt.notIn_listAt (oa x) pl.isList (λw hw=>fD rx fx r fs w (by simpa using hw)) ⟨.bl _,H,I,rfl,?_⟩
  rw[show its.toArray.any (oa x)=its.any (oa x) by simp,gC r fs]
  exact q
 .obtain⟨its,r,pl,hz⟩:=I.tuple hq;refine SeqAt.notIn_tupleAt (oa x) pl (λw hw=>fD rx fx r fs w (by simpa using hw)) ⟨.bl _,H,I,rfl,?_⟩
  rw[show its.toArray.any (oa x)=its.any (oa x) by simp,gC r fs]
  exact q
theorem gu:dg X (.builtin "len") (λxs H Q=>∃p ys,xs=[.ref p]/\(f6 X.K H p ys\/oA X.K H p ys)/\Q (.int ys.length) H):=by
 intro pins s σ H xs us Q I r h;obtain⟨p,ys,rfl,hq,q⟩:=h;obtain⟨u,rfl,rx⟩:=t3 r;cases rx;have hn:=gK;rcases hq with hq|hq
 .obtain⟨its,r',pl,hz⟩:=I.list hq;have hlen:=r'.length;exact Calls.call_len_list pl.isList (by simp only[Jo]<;>nofun) ⟨.int ys.length,H,I.tok _,⟨s.toks+1,by rw[Jo,hlen]⟩,q⟩
 .obtain⟨its,r',pl,hz⟩:=I.tuple hq;have hlen:=r'.length;exact len_tuple pl (by simp only[Jo]<;>nofun) ⟨.int ys.length,H,I.tok _,⟨s.toks+1,by rw[Jo,hlen]⟩,q⟩
theorem kQ:dg X (.type "list") (λxs H Q=>∃p ys,xs=[.ref p]/\(f6 X.K H p ys\/oA X.K H p ys) /\ ∀l,H l=none->Q (.ref l) (upd H l (.lst ys))):=by
 intro pins s σ H xs us Q I r h;obtain⟨p,ys,rfl,hq,q⟩:=h;obtain⟨u,rfl,rx⟩:=t3 r;cases rx;have fin:∀(its:List Value),aJ ys its->ys.length<=sizeLine -> ∀(h':Heap)(c':Nat),(∀b o',s.heap.get? b=some o'->h'.get? b=some o') ->
   h'.get? s.heap.objs.size=some { cls:=.type "list",dict:=none,data:=.seq its.toArray c',slots:=#[] } -> EP X pins σ Q (.ref s.heap.objs.size) { s with heap:=h' }:=λits r' hz h' c' kp e =>
  ⟨.ref s.heap.objs.size,_,I.laid (t':=s.toks) kp (Jl _) (show cZ X.prog X.w _ h' _ (.lst ys) from ⟨hz,its,c',r',e⟩),rfl,q _ (I.hok.fresh (Jl _))⟩
 rcases hq with hq|hq
 .obtain⟨its,r',pl,hz⟩:=I.list hq;have hlen:=r'.length;obtain⟨o,ho,hc,n,hd⟩:=pl.isList;exact call_list_seq p (.inl rfl) ho hc hd (λh' c' kp e=>fin its r' hz h' c' kp e) (by simp only[Jo]<;>nofun)
 .obtain⟨its,r',pl,hz⟩:=I.tuple hq;have hlen:=r'.length;obtain⟨o,ho,hc,n,hd⟩:=pl;exact call_list_seq p (.inr rfl) ho hc hd (λh' c' kp e=>fin its r' hz h' c' kp e) (by simp only[Jo]<;>nofun)
def zG(K:W.Frag)(T:String)(x:V)(H:Hp):Prop:=match x with
 | .str _=>T = "str"
 | .int _=>T = "int"
 | .ref p=>(T = "list" /\ ∃xs,f6 K H p xs)\/(T = "tuple" /\ ∃o,K.lookup p=some o/\o.cls=.type "tuple" /\ o.dict=none) \/
   (T = "dict" /\ ((∃kvs,H p=some (.dK kvs)) \/ ∃kvs,H p=some (.dT kvs)))\/(T = "set" /\ ∃S n,H p=some (.set S n))
 | _=>False
theorem wW{pins:List (Addr×Obj)}{σ:St}{H:Hp}{s:Shared}{T:String}{x:V}{v:Value}(I:au X pins σ H s)(r:aV x v)(ty:zG X.K T x H) :
  s.TypeIs v T /\ ∀a,v=.ref a -> ∃ob,s.heap.get? a=some ob/\ob.dict=none:=by
 cases x with
 | str z =>
  obtain⟨t,rfl⟩:=r;cases (show T = "str" from ty)
  exact⟨typeIs_str s z t,λ_ e=>nomatch e⟩
 | int i =>
  obtain⟨t,rfl⟩:=r;cases (show T = "int" from ty)
  exact⟨typeIs_int s i t,λ_ e=>nomatch e⟩
 | ref p =>
  cases r;rcases ty with ⟨rfl,xs,hq⟩|⟨rfl,o,hk,hc,hd⟩|⟨rfl,hk⟩|⟨rfl,S,n,hk⟩
  .obtain⟨its,_,pl,_⟩:=I.list hq;refine⟨pl.isList.typeIs,λa e=>?_⟩;cases e;obtain⟨o,n,e,c,hd,_⟩:=pl;exact⟨o,e,hd⟩
  .refine⟨⟨o,I.kIn p o hk,hc⟩,λa e=>?_⟩;cases e;exact⟨o,I.kIn _ o hk,hd⟩
  .have z:∃o,s.heap.get? p=some o/\o.ExactDict:=by
    rcases hk with ⟨kvs,hk⟩|⟨kvs,hk⟩
    .obtain⟨_,_,_,_,o,_,_,e,ex,_⟩:=I.hok p _ hk;exact⟨o,e,ex⟩
    .obtain⟨_,_,_,_,o,_,_,e,ex,_⟩:=I.hok p _ hk;exact⟨o,e,ex⟩
   obtain⟨o,e,ex⟩:=z;refine⟨⟨o,e,ex.1⟩,λa e2=>?_⟩;cases e2;exact⟨o,e,ex.2.1⟩
  .obtain⟨o,_,_,_,e,ex,_⟩:=I.hok p _ hk;refine⟨⟨o,e,ex.1⟩,λa e2=>?_⟩;cases e2;exact⟨o,e,ex.2.1⟩
 | _=>exact False.elim ty
def Av(K:W.Frag)(T:String)(r:V->List V->Hp->VK->Prop)(to:TE):TE:=λσ H Q=>to σ H λx H1=>zG K T x H1/\r x [] H1 Q
def AD(K:W.Frag)(T:String)(r:V->List V->Hp->VK->Prop)(to:TE)(t:TA):TE:=λσ H Q=>to σ H λx H1=>zG K T x H1/\t σ H1 λxs H2=>r x xs H2 Q
variable {o e:Expr}{es:List Expr}{to:TE}{t:TA}{name:Str}{apos cpos:Pos}{T id:String}{r:V->List V->Hp->VK->Prop}
theorem zY(pa:PlainAttrs T)(slot:Slot T name id)(hty:typeOf (.builtin id)=pure (.type "method_descriptor")) (hm:AQ X id r)(ho:PE X o to)(ha:PA X (e::es) t)
  (hbase:attributeBase o name X.env (eval o X.env)=eval o X.env:=by rfl)
  (hfew:((backTo cpos (starEach (e::es) X.env)).all (λx=>!x.1) && (backToKw cpos (keywordEach [] X.env)).all (λx=>x.1.isSome)
   && decide ((e::es).length+([]:List Keyword).length+(if ([]:List Keyword).isEmpty then 0 else 1)<30))=true:=by rfl)
  (hline:(apos.endLine==cpos.line)=true:=by rfl)(hs:starEach (e::es) X.env=(false,eval e X.env)::starEach es X.env:=by rfl)(hplain:(backTo cpos (starEach es X.env)).any (·.1)=false:=by rfl) :
  PE X (.Call (.Attribute o name apos) (e::es) [] cpos) (AD X.K T r to t):=by
 intro pins s σ H Q I h;refine wpAny_Call_method_late hbase hfew hline rfl (bi (ho pins s σ H _ I h) λv s1 ⟨x,H1,I1,r1,ty,q1⟩=>?_);obtain⟨h1,h2⟩:=wW I1 r1 ty;refine⟨T,id,pa,slot,hty,h1,h2,?_⟩;have hA:=ha cpos pins s1 σ H1 _ I1 q1;rw[hs] at hA ⊢;refine Calls.callWith_builtin (by show (false || (backTo cpos (starEach es X.env)).any (·.1))=false;rw[hplain]<;>rfl) (Calls.evalArgs_plain ?_)
 exact bi hA λus s2 ⟨vs,H2,I2,r2,q2⟩=>hm pins s2 σ H2 x vs v us Q I2 r1 r2 q2
end
def AT(X:Cx)(id:String)(r:V->List V->Hp->VK->Prop):Prop :=
 ∀(pins:List (Addr×Obj))(s:Shared)(σ:St)(H:Hp)(x:V)(xs:List V)(v:Value)(us:List Value)(Q:VK),au X pins σ H s->aV x v->aJ xs us->r x xs H Q ->
  wpAny (model X.prog X.w) X.A (call (.builtin id) (v::us)) (EP X pins σ Q) X.xe s
theorem aJ.one:∀{x:V}{us:List Value},aJ [x] us -> ∃u,us=[u]/\aV x u
 | _,_,.cons r .nil=>⟨_,rfl,r⟩
theorem aJ.rep{xs:List V}{us:List Value}(h:aJ xs us):∀k:Nat,aJ (List.replicate k xs).flatten (List.replicate k us).flatten
 | 0=>.nil
 | k+1=>by
  rw[JC,JC,List.flatten_cons,List.flatten_cons];exact aJ.append h (aJ.rep h k)
theorem j8(its:List Value):∀(k:Nat)(acc:List Value),
  List.foldl (λx1 x2=>x1++x2) acc.toArray (List.replicate k its.toArray)=(acc++(List.replicate k its).flatten).toArray
 | 0,acc=>by simp
 | k+1,acc=>by
  have e:acc.toArray++its.toArray=(acc++its).toArray:=by simp
  have e2:(acc++its)++(List.replicate k its).flatten=acc++(List.replicate (k+1) its).flatten:=by
   rw[JC,List.flatten_cons,List.append_assoc]
  rw[<-e2,<-j8 its k (acc++its),<-e,JC,List.foldl_cons]
section
variable {X:Cx}{pins:List (Addr×Obj)}{σ:St}{H:Hp}{s:Shared}{l b:Addr}{xs ys zs:List V}
theorem au.lset{its its':List Value}{n:Nat}{f:Array Value->Array Value}{t':Nat}(I:au X pins σ H s)(hH:H l=some (.lst xs))
  (e:s.heap.get? l=some { cls:=.type "list",data:=.seq its.toArray n }) (hf:f its.toArray=its'.toArray)(hv:aJ ys its')(hz:ys.length<=sizeLine) :
  au X pins σ (upd H l (.lst ys)) { s with heap:=s.heap.update l (Obj.mapSeq f),toks:=t' }:=by
 have q:=PySem.IsL.update e f;rw[hf] at q;refine I.write (x:=l) (e:=l) (by rw[hH];exact trivial) (.inl rfl) (λb' u hb hu=>(Heap.get?_update_other s.heap (Obj.mapSeq f) (Ne.symm hb)).trans hu) ⟨_,q⟩ ?_
 exact⟨hz,its',_,hv,q⟩
theorem au.lnew{its:List Value}{t':Nat}(I:au X pins σ H s)(hv:aJ ys its)(hz:ys.length<=sizeLine) :
  au X pins σ (upd H s.heap.objs.size (.lst ys)) { s with heap:=s.heap.push { cls:=.type "list",data:=.seq its.toArray },toks:=t' } :=
 I.laid (λ_ _ q=>Heap.get?_push_of_some _ q) (Jl _) ⟨hz,its,0,hv,Heap.get?_push_size _ rfl⟩
theorem au.fresh(I:au X pins σ H s):H s.heap.objs.size=none:=I.hok.fresh (Jl _)
theorem au.lstM(I:au X pins σ H s)(hH:H l=some (.lst xs)):xs.length<=sizeLine /\ ∃(its:List Value)(n:Nat),aJ xs its/\xs.length=its.length/\s.heap.get? l=some { cls:=.type "list",data:=.seq its.toArray n }:=by
 obtain⟨z,its,n,r,e⟩:=I.hok l _ hH;exact⟨z,its,n,r,r.length,e⟩
theorem rY{n:Nat}(h:n<=sizeLine):Builtin.List.listTooLong n=false:=by
 unfold Builtin.List.listTooLong;exact Ja ()
end
section
variable {X:Cx}
def vz:V->List V->Hp->VK->Prop:=λx vs H Q=>∃l xs y,x=.ref l/\vs=[y]/\H l=some (.lst xs)/\xs.length<sizeLine/\Q .non (upd H l (.lst (xs++[y])))
theorem jU:AT X "list.append" vz:=by
 intro pins s σ H x vs v us Q I rx rv h;obtain⟨l,xs,y,rfl,rfl,hH,hz,q⟩:=h;cases rx;obtain⟨u,rfl,ru⟩:=rv.one;obtain⟨z,its,n,r,hl,e⟩:=I.lstM hH;refine call_meets F.slot_list_append ⟨_,e,rfl⟩ F.entry_list_append (F.args_list_append_2 _ _) (PySem.list_append l its.toArray n u (by rw[Jo];nofun)) ⟨e,?_⟩
 refine⟨.non,_,I.lset (its':=its++[u]) hH e (by simp) (r.append (.cons ru .nil)) ?_,rfl,q⟩
 rw[Jz,List.length_singleton];nofun
def AL:R2:=λx y H Q=>∃l b xs zs,x=.ref l/\y=.ref b/\H l=some (.lst xs)/\H b=some (.lst zs)/\xs.length+zs.length<=sizeLine /\ ∀p,H p=none->Q (.ref p) (upd H p (.lst (xs++zs)))
theorem xw:cV X (binaryOp .Add) AL:=by
 intro pins s σ H x y v u Q I rx ry h;obtain⟨l,b,xs,zs,rfl,rfl,hH,hB,hz,q⟩:=h;cases rx;cases ry;obtain⟨z,its,n,r,hl,e⟩:=I.lstM hH;obtain⟨z2,its2,n2,r2,hl2,e2⟩:=I.lstM hB;refine PySem.P.add_list e e2 ?_ (by rw[Jo,Jo];nofun)
 have ea:its.toArray++its2.toArray=(its++its2).toArray:=by simp
 rw[ea];exact⟨.ref _,_,I.lnew (t':=s.toks) (r.append r2) (by rw[Jz];nofun),rfl,q _ I.fresh⟩
def Au:R2:=λx y H Q=>∃l k xs,x=.ref l/\y=.int k/\H l=some (.lst xs) /\ -(2^63)<=k/\k<2^63/\xs.length*k.toNat<=sizeLine /\
 ∀p,H p=none->Q (.ref p) (upd H p (.lst (List.replicate k.toNat xs).flatten))
theorem uz{α:Type}(xs:List α)(k:Nat):(List.replicate k xs).flatten.length=k*xs.length:=by
 induction k with
 | zero=>simp
 | succ k ih=>rw[JC,List.flatten_cons,Jz,ih,Nat.succ_mul,Nat.add_comm]
theorem yt:cV X (binaryOp .Mult) Au:=by
 intro pins s σ H x y v u Q I rx ry h;obtain⟨l,k,xs,rfl,rfl,hH,h1,h2,hz,q⟩:=h;cases rx;obtain⟨t,rfl⟩:=ry;obtain⟨z,its,n,r,hl,e⟩:=I.lstM hH;have hlen:its.toArray.size*k.toNat<=sizeLine:=by rw[Jo,<-hl];exact hz
 have hcap:¬ its.toArray.size*k.toNat > (2^63-1)/8:=by
  have:(sizeLine:Nat)<=(2^63-1)/8:=∅;nofun
 have hfit:¬ (!Builtin.List.listFitsIndex k)=true:=by
  rw[fitsIndex_both h1 h2];exact Jk
 have hlong:¬ Builtin.List.listTooLong (its.toArray.size*k.toNat)=true:=by
  rw[rY hlen];exact Jk
 have hnew:List.foldl (λx1 x2=>x1++x2) #[] (List.replicate (if its.toArray.isEmpty=true then 0 else k.toNat) its.toArray)=(List.replicate k.toNat its).flatten.toArray:=by
  have f0:∀m:Nat,List.foldl (λx1 x2=>x1++x2) #[] (List.replicate m its.toArray)=(List.replicate m its).flatten.toArray:=λm=>by
   have:=j8 its m [];rw[List.nil_append] at this;exact this
  rw[f0];cases its with
  | nil=>simp
  | cons a r'=>rw[Jc (by simp)]
 refine wpAny_binaryOp_repeat_ref (T:="list") (U:="int") ∅ ⟨_,e,rfl⟩ (λs'=>typeIs_int s' k t) noFill_list_mul F.fills_int_mul F.slot_int_rmul repeat_list F.slot_int_index.lookup
  (call_meets F.slot_int_rmul (typeIs_int s k t) F.entry_int_rmul (F.args_int_rmul_2 _ _) (int___rmul___int_list k t l its.toArray n)
   ⟨e,rfl,⟨_,e,rfl⟩,call_meets F.slot_list_mul ⟨_,e,rfl⟩ F.entry_list_mul (F.args_list_mul_2 _ _) (AutoListH.list___mul___list_int_3 l its.toArray n k t hfit hcap hlong) ⟨e,?_⟩⟩)
 rw[hnew];exact⟨.ref _,_,I.lnew (t':=s.toks) (r.rep k.toNat) (by rw[uz,Nat.mul_comm];exact hz),rfl,q _ I.fresh⟩
end
end L2
namespace Att
open PySem PySem.W PySem.Calls PyProof.Rows
theorem iz{P:Params}{h:Heap}:∀(ns:List Int)(vs:List Value),WellAll P h vs (ns.map WData.int)->IntsAre vs ns:=by
 intro ns;induction ns with
 | nil =>
  intro vs w;rw[List.map_nil] at w;cases w;exact .nil
 | cons n ns ih =>
  intro vs w;rw[Jq] at w;cases w with
  | cons a b =>
   cases a;exact .cons _ _ (ih _ b)
theorem qh{l:OpenLaw}{n:Nat}(hn:l.most=some n) {P:Params}{h:Heap}{args:List WData}{vals:List Value}
  (hpre:l.row.toRowW.claim.pre args=true)(hwl:WellAll P h vals args) :
  ∃a vs ns,vals=[Value.ref a]/\args=[WData.list (ns.map WData.int)]/\h.get? a=some { cls:=.type "list",data:=.seq vs.toArray } /\ IntsAre vs ns/\ns.length<=n:=by
 have hsh:WShape.hasAll [] args [.list .int]=true:=(pre_splitW hpre).1;have hc:l.pre.holds [] { args:=args } = true:=(pre_splitW hpre).2;obtain⟨d,r,rfl,h1,h2⟩:=hasAllW_cons hsh;obtain rfl:=hasAllW_nil h2;obtain⟨xs,rfl,h3⟩:=hasW_list h1;obtain⟨ns,rfl⟩:=items_int h3;have hlen:ns.length<=n:=by
  unfold OpenLaw.pre at hc;have h4:(WTm.not (.lt (.lit (.int (n:Int))) (.len (.arg 0)))).holds [] { args:=[.list (ns.map .int)] } = true:=by
   have h4:=(holds_andW hc).1;rw[hn] at h4;exact h4
  have h5:=condW_of h4 (w_not (w_lt w_lit (w_len_list (w_arg rfl))));rw[Jr] at h5;refine Nat.le_of_not_lt λq=>?_;have q':(n:Int)<((ns.length:Nat):Int):=()
  first
   | (rw[decide_eq_true q'] at h5;exact absurd h5 ∅)
   | (simp at h5;nofun)
 cases hwl with
 | cons w1 w2 =>
  cases w2;cases w1 with
  | list ho hall=>exact⟨_,_,ns,rfl,rfl,ho,iz ns _ hall,hlen⟩
theorem qx(l:OpenLaw)(args:List WData):l.row.toRowW.claim.post args (.bool true) args=true :=
 postW_of (r:=l.row.toRowW) (X:=(true==true))
  (show WShape.has [] (.bool true) .bool=true by first|rfl|decide|simp[WShape.has,WShape.arms,WShape.armsAll])
  (show (WTm.eq .res (.lit (.bool true))).value [] { args:=args,res:=some (.bool true),after:=args } = some (.bool (true==true)) from w_eq_bool (w_res rfl) w_lit) rfl
theorem attach_call{l:OpenLaw}{n:Nat}{q:Program}{loose:List Str}{XP:(Str->Option Value)->Heap->Prop}{YP:World->Heap->Prop}{d:DefRec}
  (hn:l.most=some n)(hdf:d.params.defaults=[])
  (call:∀(w:World)(s₀ s₁:Shared)(mg mb:Str->Option Value)(fa:Addr)(o:Obj)(pm cd doc:Value)(a:Addr)(vs:List Value)(ns:List Int),
   Ground q loose [] XP w s₀ mg mb s₁.heap->YP w s₁.heap ->
   s₁.heap.get? fa=some o->o.data=.func (docDef d.name d.params d.body d.scope pm cd doc)->s₁.heap.CodeRec cd d.name->mg d.name=some (.ref fa) ->
   s₁.heap.get? a=some { cls:=.type "list",data:=.seq vs.toArray } -> IntsAre vs ns->ns.length<=n->s₁.gens = #[] ->
   codeAny (model l.prog w) callerA (.call (.ref fa) ⟨[.ref a],[]⟩) (λr s'=>r=.ok (.ret (.bool true))/\OldK s₁.heap s'.heap/\s'.os=s₁.os/\AllBare s'.gens) s₁) :
  WalkO q loose XP YP l.row.toRowW d [] (λf vs=>PySem.call f vs):=by
 intro w s₀ s₁ mg mb G Y fa o pm cd doc dV kV ho hd hcd hD hmg hg args vals as hpre hlay hrd hwl hlo;obtain rfl:dV=.none:=Dflts.none hD hdf;obtain rfl:kV=.none:=Dflts.noKw hD;obtain⟨a,vs,ns,rfl,rfl,hobj,hints,hlen⟩:=qh hn hpre hwl;refine enter_call (codeAny_mono (call w s₀ s₁ mg mb fa o pm cd doc a vs ns G Y ho (fd_plain hd) hcd hmg hobj hints hlen hg) λr s' hq=>?_);obtain⟨rfl,h2,h3,h4⟩:=hq;exact⟨.inl ⟨.bool true,.bool true,[],rfl,λ_=>rfl,.bool true,qx l _,λ_=>⟨List.Pairwise.nil,λ_ hm=>(nomatch hm)⟩⟩,h2,h3,h4⟩
end Att
namespace L2
open PySem PySem.Spec PyProof.Rows
theorem jN:∀{vs:List Value}{ns:List Int},IntsAre vs ns->aJ (ns.map V.int) vs
 | _,_,.nil=>.nil
 | _,_,.cons n t h=>.cons ⟨t,rfl⟩ (jN h)
def fF(s:Stmt)(j:Nat):Stmt:=match s with
 | .ClassDef _ _ _ body _ _ _ _ _ _ _=>body.getD j (.Pass ⟨0,0,0,0⟩)
 | _=>.Pass ⟨0,0,0,0⟩
def bX(s:Stmt):Arguments:=match s with
 | .FunctionDef _ a _ _ _ _ _ _ _ _=>a
 | _=>{ posonlyargs:=[],args:=[],vararg:=none,kwonlyargs:=[],kw_defaults:=[],kwarg:=none,defaults:=[] }
def bj(s:Stmt):List Stmt:=match s with
 | .FunctionDef _ _ b _ _ _ _ _ _ _=>b
 | _=>[]
def ai(s:Stmt):Scope:=match s with
 | .FunctionDef _ _ _ _ _ _ sc _ _ _=>sc
 | _=>{ kind:=.function,names:=[],isGenerator:=false,isCoroutine:=false }
abbrev cA:oV:=λ_ _ _ _ _ _=>False
abbrev E0:XK:=λ_ _ _=>False
theorem oQ{X:Cx}:oy cA X E0:=λ_ _ _ _ _ _ _ h=>h.elim
structure cn (K:W.Frag)(x qual:Str)(st:Stmt)(f:Addr)(fd:FuncData):Prop where
 ex:∃(oc:Value)(od:Option Addr)(kV doc pm:Value)(an:Option Addr)(cdv ct:Value)(osl:Array (Option Value)),
  fd=PySem.W.fnOf x qual (bX st) (bj st) (ai st) .none kV doc pm an cdv ct/\K.lookup f=some ⟨oc,od,.func fd,osl⟩/\PySem.W.codeIn K cdv qual=true
 kp:PySem.W.keepIn K (.ref f)=true
section
variable {P:Program}{w:World}{K:W.Frag}{mg:Str->Option Value}{base:Heap}
theorem cn.ok{x qual:Str}{st:Stmt}{f:Addr}{fd:FuncData}{N ps:List Str}{k:Nat}{sp:Sp}(F:cn K x qual st f fd)(S:ar N ps (ai st))(len:∀vs H Q E,sp vs H Q E->vs.length=ps.length)
  (hbody:∀(cdv:Value)(A:Around)(outer:List Env)(s:Shared)(H:Hp)(vs:List V)(Q:VK)(E:XK),b9 k (A.deeper (envOfC qual (ai st) s.heap.objs.size f cdv))->sp vs H Q E ->
   ∃t,mS (fM cA P w K mg base N qual (ai st) f cdv A outer s H E).nox (bj st) t/\t { nx:=λ_ H'=>Q .non H',rt:=Q } (start N vs) H):aR P w K mg base cA (k+1) f fd ps sp:=by
 obtain⟨oc,od,kV,doc,pm,an,cdv,ct,osl,rfl,lk,hcd⟩:=F.ex;refine wG lk hcd S len λA outer s H vs Q E hr hsp=>?_;obtain⟨t,h,q⟩:=hbody cdv A outer s H vs Q E hr hsp;exact⟨t,h.nox,q⟩
theorem cn.binds{x qual:Str}{st:Stmt}{f:Addr}{fd:FuncData}{ps:List Str}(F:cn K x qual st f fd)
  (h:∀(kV doc pm:Value)(an:Option Addr)(cdv ct:Value)(us:List Value),us.length=ps.length->bindArgs (PySem.W.fnOf x qual (bX st) (bj st) (ai st) .none kV doc pm an cdv ct) ⟨us,[]⟩=pure (ps.zip us)):gk K fd ps []:=by
 obtain⟨oc,od,kV,doc,pm,an,cdv,ct,osl,rfl,lk,hcd⟩:=F.ex;exact .all (h kV doc pm an cdv ct)
theorem kv{x qual:Str}{st:Stmt}{f:Addr}{oc:Value}{od an:Option Addr}{osl:Array (Option Value)}{kV doc pm cdv ct:Value}(l:K.lookup f=some ⟨oc,od,.func (PySem.W.fnOf x qual (bX st) (bj st) (ai st) .none kV doc pm an cdv ct),osl⟩)
  (c:PySem.W.codeIn K cdv qual=true)(k:PySem.W.keepIn K (.ref f)=true):cn K x qual st f (PySem.W.fnOf x qual (bX st) (bj st) (ai st) .none kV doc pm an cdv ct):=⟨⟨oc,od,kV,doc,pm,an,cdv,ct,osl,rfl,l,c⟩,k⟩
end
section
variable {X:Cx}
theorem pv(i:Nat){x:Str}{pos:Pos}(hN:X.N[i]? = some x:=by rfl)(hv:zp X.env.scope x:=by first|exact Or.inl rfl|exact Or.inr (Or.inl rfl)|exact Or.inr (Or.inr rfl))(hd:(x==("__debug__" : Str))=false:=by decide)
  (hcd:(x==("__classdict__" : Str))=false:=by decide):PE X (.Name x pos) (uk i):=yd hN hv hd hcd
end
theorem cT{c A B:Prop} [Decidable c] (h1:c->A)(h2:¬ c->B):if c then A else B:=by
 by_cases h:c
 .rw[Jb h];exact h1 h
 .rw[Jc h];exact h2 h
def aw(H H':Hp):Prop:=∀b o,H b=some o->H' b=some o
theorem aw.trans{H H1 H2:Hp}(a:aw H H1)(b:aw H1 H2):aw H H2:=λc o h=>b c o (a c o h)
theorem aw.free{H H':Hp}(e:aw H H') {l:Addr}(h:H' l=Option.none):H l=Option.none:=by
 cases q:H l with
 | none=>rfl
 | some o =>
  rw[e l o q] at h;cases h
structure bY (P:Program)(w:World)(K:W.Frag)(mg:Str->Option Value)(base:Heap)(x:Str)(ps:List Str)(k:Nat)(sp:Sp):Prop where
 ex:∃f fd,aR P w K mg base cA k f fd ps sp/\mg x=some (.ref f)/\PySem.W.keepIn K (.ref f)=true/\gk K fd ps []
section
variable {X:Cx}{x:Str}{p pos:Pos}{e:Expr}{es:List Expr}{t:TA}{ps:List Str}{k:Nat}{sp:Sp}
def wY(sp:Sp)(t:TA):TE:=λσ H Q=>t σ H λvs H1=>sp vs H1 Q E0
theorem xH(C:bY X.prog X.w X.K X.mg X.base x ps k sp)(hr:b9 k X.A)(hg:Gl X x)(ha:PA X (e::es) t)(hdb:(x==("__debug__" : Str))=false:=by decide)
  (he:starEach (e::es) X.env=(false,eval e X.env)::starEach es X.env:=by rfl)(hpl:(backTo pos (starEach es X.env)).any (·.1)=false:=by rfl) :
  PE X (.Call (.Name x p) (e::es) [] pos) (wY sp t):=by
 obtain⟨f,fd,F,hm,hk,hb⟩:=C.ex;intro pins s σ H Q I h;refine uZ (E:=E0) (dvs:=[]) F hr hg hm hk hb .nil oQ ha hdb he hpl pins s σ H Q I ?_;show t σ H λvs H1=>sp (vs++[]) H1 Q E0;have e:(λ(vs:List V) H1=>sp (vs++[]) H1 Q E0)=λvs H1=>sp vs H1 Q E0:=by
  funext vs H1;rw[List.append_nil]
 rw[e];exact h
end
section
variable {X:Cx}
theorem va:cV X (binaryOp .Mult) (rI IntMulOk λi j=>.int (i*j)):=zd λ_ _ _ _ _ _ _ hc q=>mul_int q hc
def wA(_ j:Int):Prop:=j≠0/\j.natAbs.log2<9000
theorem et:cV X (binaryOp .FloorDiv) (rI wA λi j=>.int (i.fdiv j)):=zd λ_ _ _ _ _ _ _ hc q=>floordiv_int hc.1 q (.inl (PyProof.noPylong_of_log2 hc.2))
theorem du:cV X (binaryOp .Mod) (rI (λ_ j=>j≠0) λi j=>.int (i.fmod j)):=vK
end
theorem tj{CX:oV}{P:Program}{w:World}{K:W.Frag}{mg:Str->Option Value}{base:Heap}{N:List Str}{qual:Str}{scope:Scope}{f:Addr}{cd:Value}{A:Around}{outer:List Env}{s:Shared}{H:Hp}{E:XK} :
  (fM CX P w K mg base N qual scope f cd A outer s H E).K=K:=rfl
def qu:List Value->Option (List V)
 | []=>some []
 | u::us=>match zJ u,qu us with
  | some x,some xs=>some (x::xs)
  | _,_=>none
theorem jM:∀{us:List Value}{xs:List V},qu us=some xs->aJ xs us
 | [],xs,h=>by cases h;exact .nil
 | u::us,xs,h=>by
  unfold qu at h;split at h
  .rename_i x ys e1 e2
   cases h;refine .cons ?_ (jM e2);cases u<;>first|(cases e1;first|exact rfl|exact⟨_,rfl⟩)|cases e1
  .cases h
def nN(o:Obj):Option HO:=match o.data with
 | .seq its _=>if o.cls=.type "tuple" /\ its.size<=sizeLine then (qu its.toList).map HO.tup else none
 | _=>none
def vw(K:W.Frag)(H:Hp):Hp:=λa=>match K.lookup a with
 | some o=>nN o
 | none=>H a
theorem rX{o:Obj}{u:HO}(h:nN o=some u):∃xs,u=.tup xs:=by
 unfold nN at h;split at h
 .split at h
  .cases e:qu _ with
   | none=>rw[e] at h;cases h
   | some xs=>rw[e] at h;cases h;exact⟨xs,rfl⟩
  .cases h
 .cases h
theorem bv{K:W.Frag}{H:Hp}{a:Addr}(hk:K.lookup a=none):vw K H a=H a:=by
 unfold vw;rw[hk]
theorem eJ{K:W.Frag}{H:Hp}{a:Addr}{xs:List V}(h:vw K H a=some (.tup xs)):oA K H a xs:=by
 unfold vw at h;split at h
 .rename_i o ho
  unfold nN at h;split at h
  .rename_i its n hd
   split at h
   .rename_i hc
    cases e:qu its.toList with
    | none=>rw[e] at h;cases h
    | some ys =>
     rw[e] at h;cases h;exact .inr ⟨o,its,n,ho,hc.1,hd,hc.2,jM e⟩
   .cases h
  .cases h
 .exact .of h
theorem fA{K:W.Frag}{H:Hp}{a:Addr}{u:HO}(h:vw K H a=some u)(hu:∀xs,u ≠ .tup xs):H a=some u:=by
 unfold vw at h;split at h
 .obtain⟨xs,rfl⟩:=rX h;exact absurd rfl (hu xs)
 .exact h
theorem aI{K:W.Frag}{H:Hp}{a:Addr}{xs:List V}(h:vw K H a=some (.lst xs)):H a=some (.lst xs):=fA h λ_ e=>by cases e
theorem gn{K:W.Frag}{H H':Hp}(S:aw H H'):aw (vw K H) (vw K H'):=λb o e=>by
 unfold vw at e ⊢;split at e
 .exact e
 .exact S _ _ e
def c9(l:Addr)(H H':Hp):Prop:=∀b o,b≠l->H b=some o->H' b=some o
theorem kO{K:W.Frag}{l:Addr}{H H':Hp}(S:c9 l H H'):c9 l (vw K H) (vw K H'):=λb o hb e=>by
 unfold vw at e ⊢;split at e
 .exact e
 .exact S _ _ hb e
theorem au.noK{X:Cx}{pins:List (Addr×Obj)}{σ:St}{H:Hp}{s:Shared}{p:Addr}{o:HO}(I:au X pins σ H s)(h:H p=some o):X.K.lookup p=none:=by
 cases e:X.K.lookup p with
 | none=>rfl
 | some ob =>
  have:=(I.bs p ob (I.mod.kin p ob e)).2;rw[h] at this;cases this
theorem au.newK{X:Cx}{pins:List (Addr×Obj)}{σ:St}{H:Hp}{s:Shared}{p:Addr}(I:au X pins σ H s)(hp:s.heap.objs.size<=p):X.K.lookup p=none:=by
 cases e:X.K.lookup p with
 | none=>rfl
 | some o=>exact absurd (Jd (Heap.lt_size (I.kIn p o e)) hp) (Je _)
def Kf(K:W.Frag)(v:V)(H:Hp):Prop:=∀p o,v=.ref p->H p=some o->K.lookup p=none
section
variable {X:Cx}
theorem cV.kf{f:Value->Value->Sem Value}{r:R2}(h:cV X f r):cV X f (λx y H Q=>r x y H λv H'=>Kf X.K v H'->Q v H'):=λpins s σ H x y v u Q I rx ry q =>
 bi (h pins s σ H x y v u _ I rx ry q) λu' s' ⟨v',H',I',r',q'⟩=>⟨v',H',I',r',q' λp o _ hp=>I'.noK hp⟩
theorem dg.kf{f:Value}{r:List V->Hp->VK->Prop}(h:dg X f r):dg X f (λxs H Q=>r xs H λv H'=>Kf X.K v H'->Q v H'):=λpins s σ H xs us Q I rs q =>
 bi (h pins s σ H xs us _ I rs q) λu' s' ⟨v',H',I',r',q'⟩=>⟨v',H',I',r',q' λp o _ hp=>I'.noK hp⟩
theorem t8.kf{r:V->Option Int->Option Int->Hp->VK->Prop}(h:t8 X r):t8 X (λx a b H Q=>r x a b H λv H'=>Kf X.K v H'->Q v H'):=by
 intro pins s σ H x v vl vu lo hi sl Q I rx hs pl pu q;obtain⟨T,id,e1,e2,e3⟩:=h pins s σ H x v vl vu lo hi sl _ I rx hs pl pu q;exact⟨T,id,e1,e2,bi e3 λu' s' ⟨v',H',I',r',q'⟩=>⟨v',H',I',r',q' λp o _ hp=>I'.noK hp⟩⟩
end
theorem aw.upd{H:Hp}{p:Addr}{o:HO}(hp:H p=none):aw H (upd H p o):=λb u e=>by
 rw[aQ (aj e hp)];exact e
theorem c9.upd{H:Hp}{l:Addr}{o:HO}:c9 l H (upd H l o):=λb u hb e=>by
 rw[aQ hb];exact e
theorem aw.but{H H':Hp}(h:aw H H')(l:Addr):c9 l H H':=λb o _ e=>h b o e
theorem c9.trans{l:Addr}{H H1 H2:Hp}(a:c9 l H H1)(b:c9 l H1 H2):c9 l H H2:=λc o hc h=>b c o hc (a c o hc h)
def pF(c:String):Prop:=c = "bool" \/ c = "int" \/ c = "list" \/ c = "tuple" \/ c = "str" \/ c = "dict"
theorem vy:pF "int":=.inr (.inl rfl)
theorem rl:pF "bool":=.inl rfl
theorem sN:pF "list":=.inr (.inr (.inl rfl))
theorem qP:pF "tuple":=.inr (.inr (.inr (.inl rfl)))
theorem la:bootBuiltins "abs" = some (.builtin "abs"):=by decide +kernel
theorem ba:bootBuiltins "len" = some (.builtin "len"):=by decide +kernel
theorem vk:bootBuiltins "list" = some (.type "list"):=by decide +kernel
theorem kU:bootBuiltins "enumerate" = some (.type "enumerate"):=by decide +kernel
theorem yG:bootBuiltins "zip" = some (.type "zip"):=by decide +kernel
section
variable {X:Cx}
theorem rg.imp{r r':R2}(h:rg X r)(hi:∀x y H Q,r' x y H Q->r x y H Q):rg X r':=λv sl pins s σ H x y vv u Q I rx ry q hs=>h v sl pins s σ H x y vv u Q I rx ry (hi _ _ _ _ q) hs
theorem dg.imp{f:Value}{r r':List V->Hp->VK->Prop}(h:dg X f r)(hi:∀xs H Q,r' xs H Q->r xs H Q):dg X f r':=λpins s σ H xs us Q I rs q=>h pins s σ H xs us Q I rs (hi _ _ _ q)
def tT(K:W.Frag):R2:=λx y H Q=>∃p i,x=.ref p/\y=.int i /\ ∃xs,vw K H p=some (.lst xs) /\ ∃v,iA xs i=some v/\Q v H
def uC(K:W.Frag):R2:=λx y H Q=>∃p i,x=.ref p/\y=.int i /\ ∃xs,vw K H p=some (.tup xs) /\ ∃v,iA xs i=some v/\Q v H
theorem cX:rg X (tT X.K):=pQ.imp λ_ _ _ _ ⟨p,i,e1,e2,xs,e3,v,e4,q⟩=>⟨p,xs,i,v,e1,e2,.of (aI e3),e4,q⟩
theorem aT:rg X (uC X.K):=xX.imp λ_ _ _ _ ⟨p,i,e1,e2,xs,e3,v,e4,q⟩=>⟨p,xs,i,v,e1,e2,eJ e3,e4,q⟩
def gl(H:Hp)(p:Addr):Option Nat:=match H p with
 | some (.lst xs)=>some xs.length
 | some (.frz _ (.lst xs))=>some xs.length
 | some (.tup xs)=>some xs.length
 | _=>none
theorem aH:dg X (.builtin "len") (λxs H Q=>∃p,xs=[.ref p] /\ ∃n:Nat,gl (vw X.K H) p=some n/\Q (.int n) H):=gu.imp λxs H Q ⟨p,e,n,hn,q⟩=>by
 unfold gl at hn;split at hn
 .rename_i ys hp
  cases hn;exact⟨p,ys,e,.inl (.of (aI hp)),q⟩
 .rename_i o ys hp
  cases hn;exact⟨p,ys,e,.inl (.inl (.inr ⟨o,fA hp λ_ z=>by cases z⟩)),q⟩
 .rename_i ys hp
  cases hn;exact⟨p,ys,e,.inr (eJ hp),q⟩
 .cases hn
def fO(K:W.Frag)(n:Nat)(t:re):TG:=λv σ H Q=>∃a,v=.ref a /\ ∃xs,vw K H a=some (.tup xs)/\xs.length=n/\t xs σ H Q
theorem vG{es:List Expr}{k:Nat}{t:re}{n:Nat}{pos:Pos}(hc:X.calm=true)(h:yZ X es t)
  (hn:(assignEach es X.env).length=n:=by rfl)(hst:(assignEach es X.env).findIdx? (·.1)=none:=by rfl):PG X (.Tuple es k pos) (fO X.K n t) :=
 λpins s σ H v u Q I r ⟨a,e,xs,hx,hl,q⟩=>x6 hc h hn hst pins s σ H v u Q I r ⟨a,xs,e,eJ hx,hl,q⟩
theorem bF{α:Type}{x:α}{xs:List α}:iA (x::xs) 0=some x:=cw (j:=0) rfl
theorem bC{α:Type}{x y:α}{xs:List α}:iA (x::y::xs) 1=some y:=cw (j:=1) rfl
theorem zD{α:Type}{x y z:α}{xs:List α}:iA (x::y::z::xs) 2=some z:=cw (j:=2) rfl
theorem iI{α:Type}{xs:List α}{r:Int}(h0:0<=r)(h1:r<xs.length):∃v,iA xs r=some v/\v∈xs:=by
 have h2:r.toNat<xs.length:=();refine⟨xs[r.toNat],?_,JD h2⟩;have e:=cw (xs:=xs) (j:=r.toNat) (v:=xs[r.toNat]) (JE h2);rw[show ((r.toNat:Nat):Int)=r by nofun] at e
 exact e
theorem c9.same_trans{H H1 H2:Hp}{st:Addr}(b:c9 st H H1)(s:aw H1 H2):c9 st H H2:=b.trans (s.but st)
theorem u3:ow 2 0=some 0:=rfl
theorem vE{K:W.Frag}{b k:Bool}{H:Hp}:nE K (.bl b) H k=(k=b):=rfl
theorem rH{K:W.Frag}{i:Int}{k:Bool}{H:Hp}:nE K (.int i) H k=(k=(i != 0)):=rfl
theorem qa{i j:Int}(h:0<=j/\j<=1000000/\i.natAbs<2^64):zm i j:=h
end
def Nw(K:W.Frag)(H:Hp)(o:HO)(Q:VK):Prop:=∀p H2,vw K H p=none->aw (vw K H) (vw K H2)->vw K H2 p=some o->Q (.ref p) H2
theorem Nw.ok{K:W.Frag}{H:Hp}{o:HO}{Q:VK}(h:Nw K H o Q) {p:Addr}(hk:K.lookup p=none)(hp:H p=none):Q (.ref p) (upd H p o) :=
 h p _ (by rw[bv hk];exact hp) (gn (aw.upd hp)) (by rw[bv hk];exact a9)
theorem Nw.al{K:W.Frag}{H:Hp}{o:HO}{Q:VK}(h:Nw K H o Q):∀p,H p=none->Kf K (.ref p) (upd H p o)->Q (.ref p) (upd H p o):=λp hp hk=>h.ok (hk p _ rfl a9) hp
def tz(K:W.Frag)(t:TA):TE:=λσ H Q=>t σ H λxs H1=>xs.length<=sizeLine/\Nw K H1 (.tup xs) Q
def sY(K:W.Frag)(t:TA):TE:=λσ H Q=>t σ H λxs H1=>xs.length<=sizeLine/\Nw K H1 (.lst xs) Q
def zR(K:W.Frag):TE:=λ_ H Q=>Nw K H (.dK []) Q
section
variable {X:Cx}{es:List Expr}{t:TA}{pos:Pos}
theorem uJ {x1}(h:PA X es t):PE X (.Tuple es x1 pos) (tz X.K t):=by
 intro pins s σ H Q I hq;refine wpAny_Tuple_spliced (bi (h pos pins s σ H _ I hq) λus s1 ⟨xs,H1,I1,r,z,q⟩=>⟨by rw[<-r.length];exact z,?_⟩)
 have hf:H1 s1.heap.objs.size=none:=I1.hok.fresh (Jl _);refine⟨.ref s1.heap.objs.size,upd H1 s1.heap.objs.size (.tup xs),I1.laid (t':=s1.toks) (λb u e=>Heap.get?_push_of_some _ e) (Jl _) ?_,rfl,q.ok (I1.newK (Jl _)) hf⟩;exact⟨z,us,r,⟨_,Heap.get?_push_size _ rfl,rfl,_,rfl⟩⟩
theorem vZ(h:PA X es t):PE X (.List es pos) (sY X.K t):=by
 intro pins s σ H Q I hq;refine wpAny_List_spliced (bi (h pos pins s σ H _ I hq) λus s1 ⟨xs,H1,I1,r,z,q⟩=>⟨by rw[<-r.length];exact z,?_⟩)
 have hf:H1 s1.heap.objs.size=none:=I1.hok.fresh (Jl _);refine⟨.ref s1.heap.objs.size,upd H1 s1.heap.objs.size (.lst xs),I1.laid (t':=s1.toks) (λb u e=>Heap.get?_push_of_some _ e) (Jl _) ?_,rfl,q.ok (I1.newK (Jl _)) hf⟩;exact⟨z,us,0,r,Heap.get?_push_size _ rfl⟩
theorem cV.imp{f:Value->Value->Sem Value}{r r':R2}(h:cV X f r)(hi:∀x y H Q,r' x y H Q->r x y H Q):cV X f r':=λpins s σ H x y v u Q I rx ry q=>h pins s σ H x y v u Q I rx ry (hi _ _ _ _ q)
def pk(K:W.Frag):R2:=λx y H Q=>∃l b,x=.ref l/\y=.ref b /\ ∃xs,vw K H l=some (.lst xs) /\ ∃zs,vw K H b=some (.lst zs)/\xs.length+zs.length<=sizeLine/\Nw K H (.lst (xs++zs)) Q
theorem uP:cV X (binaryOp .Add) (pk X.K):=xw.kf.imp λ_ _ _ _ ⟨l,b,e1,e2,xs,h1,zs,h2,z,q⟩=>⟨l,b,xs,zs,e1,e2,aI h1,aI h2,z,q.al⟩
def oS(K:W.Frag):R2:=λx y H Q=>∃l k,x=.ref l/\y=.int k /\ ∃xs,vw K H l=some (.lst xs) /\ -(2^63)<=k/\k<2^63/\xs.length*k.toNat<=sizeLine/\Nw K H (.lst (List.replicate k.toNat xs).flatten) Q
theorem vS:cV X (binaryOp .Mult) (oS X.K):=yt.kf.imp λ_ _ _ _ ⟨l,k,e1,e2,xs,h1,z1,z2,z3,q⟩=>⟨l,k,xs,e1,e2,aI h1,z1,z2,z3,q.al⟩
def ga(K:W.Frag):R2:=λx y H Q=>rI IntMulOk (λi j=>.int (i*j)) x y H Q\/oS K x y H Q
def eU(K:W.Frag):R2:=λx y H Q=>pb (λi j=>.int (i+j)) x y H Q\/pk K x y H Q
theorem aN:cV X (binaryOp .Mult) (ga X.K):=va.or vS
theorem aZ:cV X (binaryOp .Add) (eU X.K):=xZ.or uP
theorem dD{K:W.Frag}{i j:Int}{H:Hp}{Q:VK}:ga K (.int i) (.int j) H Q=(IntMulOk i j/\Q (.int (i*j)) H):=by
 simp[ga,rI,oS]
theorem mo{K:W.Frag}{l:Addr}{j:Int}{H:Hp}{Q:VK}:ga K (.ref l) (.int j) H Q = ∃xs,vw K H l=some (.lst xs) /\ -(2^63)<=j/\j<2^63/\xs.length*j.toNat<=sizeLine/\Nw K H (.lst (List.replicate j.toNat xs).flatten) Q:=by
 simp[ga,rI,oS]
theorem hZ{K:W.Frag}{i j:Int}{H:Hp}{Q:VK}:eU K (.int i) (.int j) H Q=Q (.int (i+j)) H:=by
 simp[eU,pb,pk]
theorem ef{K:W.Frag}{l b:Addr}{H:Hp}{Q:VK}:eU K (.ref l) (.ref b) H Q = ∃xs,vw K H l=some (.lst xs) /\ ∃zs,vw K H b=some (.lst zs)/\xs.length+zs.length<=sizeLine/\Nw K H (.lst (xs++zs)) Q:=by
 simp[eU,pb,pk]
theorem ni:dg X (.type "list") (λxs H Q=>∃p,xs=[.ref p] /\ ∃ys,vw X.K H p=some (.lst ys)/\Nw X.K H (.lst ys) Q):=kQ.kf.imp λ_ _ _ ⟨p,e,ys,h,q⟩=>⟨p,ys,e,.inl (.of (aI h)),q.al⟩
theorem t8.imp{r r':V->Option Int->Option Int->Hp->VK->Prop}(h:t8 X r)(hi:∀x a b H Q,r' x a b H Q->r x a b H Q):t8 X r':=by
 intro value p2 pins s σ H x lo hi' v vl vh sl Q
 intros
 apply h<;>first|assumption|(apply hi;assumption)
def zA(K:W.Frag):V->Option Int->Option Int->Hp->VK->Prop:=λx lo hi H Q=>∃a,x=.ref a /\ ∃xs,vw K H a=some (.lst xs)/\Nw K H (.lst (gm xs lo hi)) Q
theorem cS:t8 X (zA X.K):=uf.kf.imp λ_ _ _ _ _ ⟨a,e,xs,h,q⟩=>⟨a,xs,e,.of (aI h),q.al⟩
def wK(K:W.Frag)(H:Hp)(l:Addr)(o:HO)(Q:Hp->Prop):Prop:=∀H2,c9 l (vw K H) (vw K H2)->vw K H2 l=some o->Q H2
theorem wK.ok{K:W.Frag}{H:Hp}{l:Addr}{o:HO}{Q:Hp->Prop}(h:wK K H l o Q)(hk:K.lookup l=none):Q (upd H l o):=h _ (kO c9.upd) (by rw[bv hk];exact a9)
def tE(K:W.Frag):V->V->V->Hp->(Hp->Prop)->Prop:=λo i v H Q=>∃p k,o=.ref p/\i=.int k /\ ∃xs,vw K H p=some (.lst xs) /\ ∃j,ow xs.length k=some j/\wK K H p (.lst (xs.set j v)) Q
theorem fJ:qH X (tE X.K):=λpins s σ H o i v ov iv u Q I ro ri rv ⟨p,k,e1,e2,xs,h,j,e3,q⟩=>tO pins s σ H o i v ov iv u Q I ro ri rv ⟨p,xs,k,j,e1,e2,aI h,e3,q.ok (I.noK (aI h))⟩
def tR(K:W.Frag):V->List V->Hp->VK->Prop:=λx vs H Q=>∃l y,x=.ref l/\vs=[y] /\ ∃xs,vw K H l=some (.lst xs)/\xs.length<sizeLine/\wK K H l (.lst (xs++[y])) (Q .non)
theorem cI:AT X "list.append" (tR X.K):=λpins s σ H x vs v us Q I rx rv ⟨l,y,e1,e2,xs,h,z,q⟩=>jU pins s σ H x vs v us Q I rx rv ⟨l,xs,y,e1,e2,aI h,z,q.ok (I.noK (aI h))⟩
def zH(K:W.Frag):V->List V->Hp->VK->Prop:=λx vs H Q=>∃l,x=.ref l/\vs=[] /\ ∃xs,vw K H l=some (.lst xs) /\ ∃y,xs[xs.length-1]? = some y/\wK K H l (.lst xs.dropLast) (Q y)
end
def oP(J:It)(g:TG)(tb:TS)(D:iC)(σ:St)(H1:Hp):Prop:=∃W:Nat->Nat->St->Hp->Prop,(∃m,W 0 m σ H1) /\ ∀i m σ H,W i m σ H ->
 (J.stop i H/\D.nx σ H)\/(J.go i H /\ ∃N:St->Hp->Prop,(∀σ' H',N σ' H' -> ∃m',m'<m/\W (i+1) m' σ' H') /\ ∀x H',J.yld i H x H'->g x σ H' λσ2 H2=>tb { D with nx:=N,ct:=N,bk:=D.nx } σ2 H2)
theorem vI(wi:TI)(g:TG)(tb:TS)(D:iC)(σ:St)(H:Hp):xx wi g tb D σ H=wi σ H λJ H1=>oP J g tb D σ H1:=rfl
inductive D where
 | non|bl (b:Bool)|int (i:Int)|str (x:Str)|dict|tup (ds:List D)|lst (ds:List D)
mutual
def aA(H:Hp):D->V->Prop
 | .non,v=>v=.non
 | .bl b,v=>v=.bl b
 | .int i,v=>v=.int i
 | .str x,v=>v=.str x
 | .dict,v=>∃a kvs,v=.ref a/\H a=some (.dK kvs)
 | .tup ds,v=>∃a xs,v=.ref a/\H a=some (.tup xs)/\av H ds xs
 | .lst ds,v=>∃a xs,v=.ref a/\H a=some (.lst xs)/\av H ds xs
def av(H:Hp):List D->List V->Prop
 | [],xs=>xs=[]
 | d::ds,xs=>∃x r,xs=x::r/\aA H d x/\av H ds r
end
mutual
theorem aA.same{H H':Hp}(S:aw H H'):∀(d:D)(v:V),aA H d v->aA H' d v
 | .non,v,h=>by unfold aA at h ⊢;exact h
 | .bl b,v,h=>by unfold aA at h ⊢;exact h
 | .int i,v,h=>by unfold aA at h ⊢;exact h
 | .str x,v,h=>by unfold aA at h ⊢;exact h
 | .dict,v,h=>by
  unfold aA at h ⊢;obtain⟨a,kvs,e,h⟩:=h;exact⟨a,kvs,e,S _ _ h⟩
 | .tup ds,v,h=>by
  unfold aA at h ⊢;obtain⟨a,xs,e,h,r⟩:=h;exact⟨a,xs,e,S _ _ h,av.same S ds xs r⟩
 | .lst ds,v,h=>by
  unfold aA at h ⊢;obtain⟨a,xs,e,h,r⟩:=h;exact⟨a,xs,e,S _ _ h,av.same S ds xs r⟩
theorem av.same{H H':Hp}(S:aw H H'):∀(ds:List D)(xs:List V),av H ds xs->av H' ds xs
 | [],xs,h=>by unfold av at h ⊢;exact h
 | d::ds,xs,h=>by
  unfold av at h ⊢;obtain⟨x,r,e,h1,h2⟩:=h;exact⟨x,r,e,aA.same S d x h1,av.same S ds r h2⟩
end
theorem av.get{H:Hp}:∀{ds:List D}{xs:List V}{i:Nat}{x:V},av H ds xs->xs[i]? = some x -> ∃d,ds[i]? = some d/\aA H d x
 | [],xs,i,x,h,e=>by
  unfold av at h;subst h;simp at e
 | d::ds,xs,i,x,h,e=>by
  unfold av at h;obtain⟨y,r,rfl,h1,h2⟩:=h;cases i with
  | zero =>
   have e':y=x:=by simpa using e
   subst e';exact⟨d,by simp,h1⟩
  | succ i =>
   obtain⟨d',e1,e2⟩:=av.get (i:=i) h2 (by simpa using e)
   exact⟨d',by simpa using e1,e2⟩
theorem av.length{H:Hp}:∀{ds:List D}{xs:List V},av H ds xs->xs.length=ds.length
 | [],xs,h=>by
  unfold av at h;subst h;rfl
 | d::ds,xs,h=>by
  unfold av at h;obtain⟨y,r,rfl,_,h2⟩:=h;simp[av.length h2]
theorem lJ(a b:Int):Int.gcd b (a.fmod b)=Int.gcd a b:=by
 rw[Int.fmod_def,Int.gcd_comm a b];have:a-b*a.fdiv b=a+b*(- a.fdiv b):=by rw[Int.mul_neg];nofun
 rw[this];simp
theorem pG(a:Int){b:Int}(hb:b≠0):(a.fmod b).natAbs<b.natAbs:=by
 rcases Int.lt_or_gt_of_ne hb with h|h
 .obtain⟨n,rfl⟩ : ∃n:Nat,b=Int.negSucc n:=⟨(-b-1).toNat,()⟩;cases a with
  | ofNat m =>
   cases m with
   | zero=>simp[Int.fmod]
   | succ m =>
    show (Int.subNatNat (m%(n+1)) n).natAbs<n+1;have:=Nat.mod_lt m (show 0<n+1 by nofun)
    rw[Int.subNatNat_eq_coe];generalize m%(n+1)=z at *
    nofun
  | negSucc m =>
   show (-((((m+1)%(n+1):Nat)):Int)).natAbs<n+1;have:=Nat.mod_lt (m+1) (show 0<n+1 by nofun)
   generalize (m+1)%(n+1)=z at *
   nofun
 .have h1:=JF a h;have h2:=JG a h;nofun
def lg(a b:Int):Int:=if b<0 then -(Int.gcd a b:Int) else (Int.gcd a b:Int)
def lo(a b:Int):Int×Int:=(a.fdiv (lg a b),b.fdiv (lg a b))
def fr(q:Int×Int):D:=.tup [.int q.1,.int q.2]
def Fq(q:Int×Int):Prop:=0<q.2/\Int.gcd q.1 q.2=1
theorem sI{a b:Int}(hb:b≠0):lg a b≠0:=by
 have h:Int.gcd a b≠0:=λe=>hb (Int.gcd_eq_zero_iff.mp e).2;unfold lg;split<;>nofun
theorem lY(a b:Int):lg a b∣a:=by
 unfold lg;split
 .exact Int.neg_dvd.mpr (Int.gcd_dvd_left ..)
 .exact Int.gcd_dvd_left ..
theorem lE(a b:Int):lg a b∣b:=by
 unfold lg;split
 .exact Int.neg_dvd.mpr (Int.gcd_dvd_right ..)
 .exact Int.gcd_dvd_right ..
theorem cj{a b:Int}(hb:b≠0):(lo a b).1*lg a b=a:=by
 show a.fdiv (lg a b)*lg a b=a;exact Int.fdiv_mul_cancel (lY a b)
theorem cr{a b:Int}(hb:b≠0):(lo a b).2*lg a b=b:=by
 show b.fdiv (lg a b)*lg a b=b;exact Int.fdiv_mul_cancel (lE a b)
theorem qR(a b:Int):(lg a b).natAbs=Int.gcd a b:=by
 unfold lg;split<;>nofun
theorem fk{a b:Int}(hb:b≠0):Fq (lo a b):=by
 have h1:=cj (a:=a) hb;have h2:=cr (a:=a) hb;have hg:0<Int.gcd a b:=Nat.pos_of_ne_zero λe=>hb (Int.gcd_eq_zero_iff.mp e).2;constructor
 .by_cases hn:b<0
  .have e:lg a b = -(Int.gcd a b:Int):=Jb hn;rw[e] at h2;rcases Int.lt_trichotomy (lo a b).2 0 with h|h|h
   .have:=Int.mul_nonneg_of_nonpos_of_nonpos (JH h) (show -(Int.gcd a b:Int)<=0 by nofun)
    nofun
   .rw[h] at h2;nofun
   .exact h
  .have e:lg a b=(Int.gcd a b:Int):=Jc hn;rw[e] at h2;rcases Int.lt_trichotomy (lo a b).2 0 with h|h|h
   .have:=Int.mul_nonpos_of_nonpos_of_nonneg (JH h) (show 0<=(Int.gcd a b:Int) by nofun)
    nofun
   .rw[h] at h2;nofun
   .exact h
 .have e:Int.gcd ((lo a b).1*lg a b) ((lo a b).2*lg a b)=Int.gcd (lo a b).1 (lo a b).2*(lg a b).natAbs:=Int.gcd_mul_right ..;rw[h1,h2,qR] at e;have:1*Int.gcd a b=Int.gcd (lo a b).1 (lo a b).2*Int.gcd a b:=();exact (Nat.eq_of_mul_eq_mul_right hg this).symm
mutual
def D.noSt:D->Bool
 | .lst [.int _,.bl _]=>false
 | .lst ds=>D.noSts ds
 | .tup ds=>D.noSts ds
 | _=>true
def D.noSts:List D->Bool
 | []=>true
 | d::ds=>d.noSt && D.noSts ds
end
def bV(H:Hp)(st:Addr):Prop:=∃x b,H st=some (.lst [.int x,.bl b])/\(b=false->0<=x/\x<2147483647)
theorem aA.lst_st{H:Hp}{ds:List D}{x:Int}{b:Bool}(h:av H ds [.int x,.bl b]):ds=[.int x,.bl b]:=by
 match ds with
 | []=>unfold av at h;cases h
 | [d] =>
  unfold av at h;obtain⟨_,_,e,_,h⟩:=h;unfold av at h;subst h;cases e
 | d1::d2::d3::r =>
  have:=av.length h;simp at this
 | [d1,d2] =>
  unfold av at h;obtain⟨_,_,e,h1,h⟩:=h;cases e;unfold av at h;obtain⟨_,_,e,h2,h⟩:=h;cases e;have e1:d1=.int x:=by
   cases d1<;>unfold aA at h1<;>first|(cases h1;rfl)|(obtain⟨_,_,e,_⟩:=h1;cases e)|cases h1
  have e2:d2=.bl b:=by
   cases d2<;>unfold aA at h2<;>first|(cases h2;rfl)|(obtain⟨_,_,e,_⟩:=h2;cases e)|cases h2
  rw[e1,e2]
theorem bV.same{H H':Hp}{st:Addr}(h:bV H st)(S:aw H H'):bV H' st:=by
 obtain⟨x,b,e,k⟩:=h;exact⟨x,b,S _ _ e,k⟩
theorem bV.ne{H:Hp}{st p:Addr}(h:bV H st)(hp:H p=none):p≠st:=by
 obtain⟨x,b,e,k⟩:=h;exact (aj e hp).symm
theorem aA.tup_at{H:Hp}{ds:List D}{v:V}(h:aA H (.tup ds) v):∃a xs,v=.ref a/\H a=some (.tup xs)/\av H ds xs:=by
 unfold aA at h;exact h
theorem aA.lst_at{H:Hp}{ds:List D}{v:V}(h:aA H (.lst ds) v):∃a xs,v=.ref a/\H a=some (.lst xs)/\av H ds xs:=by
 unfold aA at h;exact h
theorem av.nil_at{H:Hp}{xs:List V}(h:av H [] xs):xs=[]:=by
 unfold av at h;exact h
theorem av.cons_at{H:Hp}{d:D}{ds:List D}{xs:List V}(h:av H (d::ds) xs):∃x r,xs=x::r/\aA H d x/\av H ds r:=by
 unfold av at h;exact h
theorem aA.int_at{H:Hp}{i:Int}{v:V}(h:aA H (.int i) v):v=.int i:=by
 unfold aA at h;exact h
theorem av.pair{H:Hp}{ds:List D}{xs:List V}(h:av H ds xs)(hl:xs.length=2):∃d1 d2 x1 x2,ds=[d1,d2]/\xs=[x1,x2]/\aA H d1 x1/\aA H d2 x2:=by
 have e:=h.length;match ds,e with
 | [],e=>rw[hl] at e;cases e
 | [_],e=>rw[hl] at e;cases e
 | _::_::_::_,e=>rw[hl] at e;cases e
 | [d1,d2],_ =>
  obtain⟨x1,r,rfl,h1,h⟩:=h.cons_at;obtain⟨x2,r,rfl,h2,h⟩:=h.cons_at;cases h.nil_at;exact⟨_,_,_,_,rfl,rfl,h1,h2⟩
theorem aA.mk_int{H:Hp}(i:Int):aA H (.int i) (.int i):=by unfold aA;rfl
theorem aA.mk_str{H:Hp}(i:Str):aA H (.str i) (.str i):=by unfold aA;rfl
theorem av.mk_nil{H:Hp}:av H [] []:=by unfold av;rfl
theorem av.mk_cons{H:Hp}{d:D}{ds:List D}{x:V}{xs:List V}(h1:aA H d x)(h2:av H ds xs):av H (d::ds) (x::xs):=by unfold av;exact⟨_,_,rfl,h1,h2⟩
theorem aA.mk_tup{H:Hp}{a:Addr}{ds:List D}{xs:List V}(h:H a=some (.tup xs))(r:av H ds xs):aA H (.tup ds) (.ref a):=by unfold aA;exact⟨_,_,rfl,h,r⟩
theorem aA.mk_lst{H:Hp}{a:Addr}{ds:List D}{xs:List V}(h:H a=some (.lst xs))(r:av H ds xs):aA H (.lst ds) (.ref a):=by unfold aA;exact⟨_,_,rfl,h,r⟩
theorem aA.fr_at{H:Hp}{q:Int×Int}{v:V}(h:aA H (fr q) v):∃a,v=.ref a/\H a=some (.tup [.int q.1,.int q.2]):=by
 obtain⟨a,xs,e,ha,r⟩:=h.tup_at;obtain⟨x1,r1,rfl,h1,r⟩:=r.cons_at;obtain⟨x2,r2,rfl,h2,r⟩:=r.cons_at;cases r.nil_at;rw[h1.int_at,h2.int_at] at ha;exact⟨a,e,ha⟩
abbrev Bt (n:Nat)(x:Int):Prop:=x.natAbs<2^n
theorem Bt.ib{n:Nat}{x:Int}(h:Bt n x):Builtin.Int.intBits x<=n:=by
 unfold Builtin.Int.intBits;split
 .exact Js _
 .rename_i h0
  have h1:x.natAbs≠0:=by
   intro e;apply h0
   have:x=0:=();rw[this];rfl
  have:=(Nat.log2_lt h1).mpr h;nofun
theorem bO{m n:Nat}{x y:Int}(hx:Bt m x)(hy:Bt n y)(h:m+n<=134217728:=by decide):IntMulOk x y:=PySem.IntMulOk.of_le hx.ib hy.ib h
theorem Bt.mono{m n:Nat}{x:Int}(hx:Bt m x)(h:m<=n):Bt n x:=Jd hx (JI ∅ h)
theorem Bt.mul{m n:Nat}{x y:Int}(hx:Bt m x)(hy:Bt n y):Bt (m+n) (x*y):=by
 unfold Bt;rw[JJ,JK];exact Nat.mul_lt_mul'' hx hy
theorem Bt.add{m n:Nat}{x y:Int}(hx:Bt m x)(hy:Bt n y):Bt (max m n+1) (x+y):=by
 have h1:=hx.mono (Nat.le_max_left m n);have h2:=hy.mono (Nat.le_max_right m n);unfold Bt at *
 rw[Nat.pow_succ];have:=Int.natAbs_add_le x y;nofun
theorem qS{x y:Int}(h:y≠0)(hb:Bt 9000 y):wA x y:=⟨h,by
 by_cases h0:y.natAbs=0
 .rw[h0];decide +kernel
 .exact (Nat.log2_lt h0).mpr hb⟩
theorem pD{x k:Int}{n:Nat}(hk:0<k)(h:k.natAbs<=2^n):Bt n (x.fmod k):=by
 have h1:=JF x hk;have h2:=JG x hk;unfold Bt;nofun
theorem fL{x y:Int}(hx:Bt 64 x):IntMulOk x y:=.of_left hx.ib
theorem wn{x y:Int}(hy:Bt 64 y):IntMulOk x y:=.of_right hy.ib
end L2
namespace L2
theorem jq{c A B:Prop} [Decidable c] (hc:c)(h:A):if c then A else B:=by rw[Jb hc];exact h
theorem cy{c A B:Prop} [Decidable c] (hc:¬ c)(h:B):if c then A else B:=by rw[Jc hc];exact h
end L2
namespace L2
open PySem
mutual
def D.ib:D->Bool
 | .int i=>decide (i.natAbs<2^200)
 | .tup ds=>D.ibs ds
 | .lst ds=>D.ibs ds
 | _=>true
def D.ibs:List D->Bool
 | []=>true
 | d::ds=>d.ib && D.ibs ds
end
end L2
namespace L2
open PySem PySem.Spec PyProof.Rows
section
variable {prog:Program}{w:World}{A:Around}{R:Result->Shared->Prop}{s:Shared}
theorem kT{elt target iter:Expr}{ifs:List Expr}{scope:Scope}{pos:Pos}{it acc:Value}{env:Env}{EE:Value->Shared->Prop}(hEE:EE=notedBy (model prog w) A env λe s'=>R (.error e) s')(Iv:Nat->Shared->Prop)
  (turn:∀n s,Iv n s->wpAny (model prog w) A (pyNext it) (λr s1=>match r with
   | none=>R (.ok .next) s1
   | some v=>wpAny (model prog w) A (letOwnedTupleGo target it v) (λ_ s2=>wpAny (model prog w) A (assign target env v) (λ_ s3 =>
     wpAny (model prog w) A (forIn ifs true λc r=>if r=true then do let ok <-isTrue c env (eval c env);pure (ForInStep.yield ok) else pure (ForInStep.yield r)) (λok s4 =>
      if ok=true then wpAny (model prog w) A (eval elt env) (λx s5=>wpAny (model prog w) A (call (.builtin "list.append") [acc,x]) (λ_ s6=>∃m,m<n/\Iv m s6) EE s5) EE s4
      else ∃m,m<n/\Iv m s4) EE s3) EE s2) EE s1) EE s)
  (n:Nat)(h:Iv n s):codeAny (model prog w) A (.compLoop (.ListComp elt [⟨target,iter,ifs,0⟩] scope pos) 0 it acc env) R s:=by
 subst hEE;refine codeAny_loop rfl Iv (λn s hI=>?_) n h;show wpAny _ A ((compTurn (.ListComp elt [⟨target,iter,ifs,0⟩] scope pos) 0 it acc env).onRaise (λx=>do noteFrame x env;theTreesLotGoes x)) _ _ s
 refine wpAny_noted ?_;rw[compTurn_list];refine wpAny_bind (wpAny_standAt (wpAny_bind (wpAny_mono (turn n s hI) (λr s1 h1=>?_) λ_ _ h'=>h')));cases r with
 | none=>exact wpAny_pure h1
 | some v =>
  refine wpAny_bind (wpAny_mono h1 (λ_ s2 h2=>?_) λ_ _ h'=>h');refine wpAny_bind (wpAny_mono h2 (λ_ s3 h3=>wpAny_bind (wpAny_mono h3 (λok s4 h4=>?_) λ_ _ h'=>h')) λ_ _ h'=>h');cases ok with
  | false=>exact wpAny_pure ⟨rfl,h4⟩
  | true=>exact wpAny_bind (wpAny_bind (wpAny_mono h4 (λx s5 h5=>wpAny_bind (wpAny_mono h5 (λ_ s6 h6=>wpAny_pure (wpAny_pure ⟨rfl,h6⟩)) λ_ _ h'=>h')) λ_ _ h'=>h'))
end
def io(X:Cx)(scope:Scope)(cl:List (Str×Addr))(N:List Str)(C:Addr)(s:Shared)(H:Hp)(ex:List Addr):Cx :=
 { X with N:=N,s₀:=s,H₀:=H,env:=compEnvC scope cl C X.env,outer:=X.stack,ex:=ex,fn:=λ_=>false,pn:=[],xe:=λ_ _=>False }
def mO(X:Cx)(scope:Scope)(cl:List (Str×Addr)):List Str->List Nat->Prop
 | [],[]=>True
 | x::xs,j::js=>(X.N[j]? = some x /\ X.env.kindOf x = some .cell /\ (relabel scope X.env).names.lookup x = some .cell /\ (∃c,cl.lookup x = some c)) /\ mO X scope cl xs js
 | _,_=>False
theorem mO.length{X:Cx}{scope:Scope}{cl:List (Str×Addr)}:∀{xs:List Str}{js:List Nat},mO X scope cl xs js->js.length=xs.length
 | [],[],_=>rfl
 | _::_,_::_,h=>by simp[mO.length h.2]
 | [],_::_,h=>h.elim
 | _::_,[],h=>h.elim
theorem mO.get{X:Cx}{scope:Scope}{cl:List (Str×Addr)}:∀{xs:List Str}{js:List Nat}{k j:Nat}{x:Str},mO X scope cl xs js->xs[k]? = some x->js[k]? = some j ->
  X.N[j]? = some x /\ X.env.kindOf x = some .cell /\ (relabel scope X.env).names.lookup x = some .cell /\ ∃c,cl.lookup x = some c
 | [],_,_,_,_,_,e,_=>by simp at e
 | _::_,[],_,_,_,_,_,e=>by simp at e
 | x::xs,j::js,0,_,_,h,e1,e2=>by
  simp at e1 e2;subst e1;subst e2;exact h.1
 | x::xs,j::js,k+1,_,_,h,e1,e2=>mO.get (k:=k) h.2 (by simpa using e1) (by simpa using e2)
def gA(X:Cx):List (Str×Addr)->Prop
 | []=>True
 | p::r=>X.env.cells.lookup p.1=some p.2/\gA X r
theorem gA.mem{X:Cx}:∀{cl:List (Str×Addr)},gA X cl -> ∀p∈cl,X.env.cells.lookup p.1=some p.2
 | [],_,p,hp=>by cases hp
 | q::r,h,p,hp=>by
  rcases JL.mp hp with rfl|hp
  .exact h.1
  .exact gA.mem h.2 p hp
structure jt (X:Cx)(scope:Scope)(cl:List (Str×Addr))(own outs:List Str)(ixs:List Nat):Prop where
 nocell:(scope.names.all λy=>y.2 != .cell)=true
 kind:scope.kind=.function
 names:(scope.names.all λy=>y.2 != .local || scope.names.lookup y.1==some .local)=true
 cells:gA X cl
 has:((relabel scope X.env).names.all λy=>!(y.2 == .cell || y.2 == .free) || (cl.lookup y.1).isSome) = true
 outs:mO X scope cl outs ixs
def PF(X:Cx)(ifs:List Expr)(t:TT):Prop :=
 ∀(pins:List (Addr×Obj))(s:Shared)(σ:St)(H:Hp)(Q:Bool->Hp->Prop),au X pins σ H s->t σ H Q ->
  wpAny (model X.prog X.w) X.A (forIn ifs true λc r=>if r=true then do let ok <-isTrue c X.env (eval c X.env);pure (ForInStep.yield ok) else pure (ForInStep.yield r)) (TP X pins σ Q) X.xe s
def xG:TT:=λ_ H Q=>Q true H
theorem yC{X:Cx}:PF X [] xG:=λ_ _ _ H _ I h=>wpAny_tests_nil ⟨H,I,h⟩
theorem wZ{X:Cx}{c:Expr}{t:TT}(h:PT X c t):PF X [c] t:=λpins s σ H Q I q=>wpAny_tests_one (h pins s σ H Q I q)
def iS(K:W.Frag)(J:It)(g:TG)(tif:TT)(te:TE)(a:Addr)(σ0:St)(H0:Hp)(Q:Hp->Prop):Prop:=∃W:Nat->Nat->St->Hp->Prop,(∃m,W 0 m σ0 H0) /\ ∀i m σ H,W i m σ H ->
 (J.stop i H/\Q H)\/(J.go i H /\ ∃N:St->Hp->Prop,(∀σ' H',N σ' H' -> ∃m',m'<m/\W (i+1) m' σ' H') /\ ∀x H',J.yld i H x H'->g x σ H' λσ2 H2=>tif σ2 H2 λb H3=>if b=true then te σ2 H3 λv H4=>∃xs,vw K H4 a=some (.lst xs)/\xs.length<sizeLine /\
  ∀H5,c9 a (vw K H4) (vw K H5)->vw K H5 a=some (.lst (xs++[v]))->N σ2 H5 else N σ2 H3)
def oi(σ:St)(ixs:List Nat):St:=ixs.map λj=>(σ[j]?).join
def mL(K:W.Frag)(wi:TI)(n:Nat)(ixs:List Nat)(g:TG)(tif:TT)(te:TE):TE:=λσ H Q=>wi σ H λJ H1=>∀a H2,vw K H1 a=none->aw (vw K H1) (vw K H2)->vw K H2 a=some (.lst [])->iS K J g tif te a (List.replicate n none++oi σ ixs) H2 (Q (.ref a))
section
variable {X:Cx}
theorem jO{tg iter elt:Expr}{ifs:List Expr}{scope:Scope}{pos ipos:Pos}{wi:TI}{g:TG}{tif:TT}{te:TE}{cl:List (Str×Addr)}{own outs:List Str}{ixs:List Nat}{use:Option (Value->Sem Unit)}{Qv:Value->Shared->Prop}
  (hc:X.calm=true)(hi:PI X tg iter wi)(hclos:closureFor scope X.env=pure cl)(S:jt X scope cl own outs ixs)
  {G:Shared->Hp->List Addr->Prop}(hb:∀C s H ex,G s H ex->PG (io X scope cl (own++outs) C s H ex) tg g/\PF (io X scope cl (own++outs) C s H ex) ifs tif/\PE (io X scope cl (own++outs) C s H ex) elt te)
  (hs:∀x,foldedSetIterable iter X.env x=pure x) {pins:List (Addr×Obj)}{s:Shared}{σ:St}{H:Hp}(hG:∀s2 H1 H2 fp,au X pins σ H2 s2->(∀b∈fp,gU X pins H1 b)->G s2 H2 fp)(I:au X pins σ H s)(Qd:Addr->Hp->Prop)
  (hfin:∀(a C:Addr)(H':Hp)(s4:Shared)(m:Str->Option Value),au X pins σ H' s4->gU X pins H' C->s4.heap.Ns C m->Qd a H'->compPost (model X.prog X.w) X.A X.xe use Qv (.ref a) C (.ok .next) s4)
  (h:wi σ H λJ H1=>∀a H2,vw X.K H1 a=none->aw (vw X.K H1) (vw X.K H2)->vw X.K H2 a=some (.lst [])->iS X.K J g tif te a (List.replicate own.length none++oi σ ixs) H2 (Qd a)) :
  wpAny (model X.prog X.w) X.A (comprehension (.ListComp elt [⟨tg,iter,ifs,0⟩] scope pos) scope X.env ipos (newList []) false (eval iter X.env) use) Qv X.xe s:=by
 have Snc:∀y∈scope.names,y.2 ≠ .cell:=λy hy z=>by
  have:=List.all_eq_true.mp S.nocell y hy;rw[z] at this;cases this
 have Snm:∀y∈scope.names,y.2=.local->scope.names.lookup y.1=some .local:=λy hy z=>by
  have:=List.all_eq_true.mp S.names y hy;rw[z] at this;simpa using this
 have Shs:∀y∈(relabel scope X.env).names,(y.2=.cell \/ y.2=.free) -> (cl.lookup y.1).isSome = true:=λy hy z=>by
  have:=List.all_eq_true.mp S.has y hy;rcases z with z|z
  .rw[z] at this;simpa using this
  .rw[z] at this;simpa using this
 refine wpAny_comprehension_free (use:=use) rfl hs hclos S.kind Snm (wpAny_mono (hi pins s σ H _ I h) (λxv s1 h1=>wpAny_mono h1 (λitv s2 h2=>?_) λ_ _ e=>e) λ_ _ e=>e);obtain⟨it,fp,tn,J,H1,rfl,I1,T,st1,f1,q⟩:=h2;refine wpAny_newObj_type (wpAny_newFunctionEnv Snc (by intro y hy;simp at hy) (λh₁ hns₁ hsb₁=>?_) S.kind)
 dsimp only at hns₁ hsb₁ ⊢;have I2:au X pins σ (upd H1 s2.heap.objs.size (.lst [])) { s2 with heap:=s2.heap.push { cls:=.type "list",dict:=none,data:=.seq ([]:List Value).toArray } }:=I1.lnew (t':=s2.toks) .nil (Js _)
 have q2:=q s2.heap.objs.size (upd H1 s2.heap.objs.size (.lst [])) (by rw[bv (I1.newK (Jl _))];exact I1.fresh) (gn (aw.upd I1.fresh)) (by rw[bv (I1.newK (Jl _))];exact a9)
 have fr2:∀b∈fp,(upd H1 s2.heap.objs.size (.lst [])) b=none:=λb hb=>by
  obtain⟨o,ho,_⟩:=T.obj _ _ st1 b hb;rw[aQ (Jf (Heap.lt_size ho))];exact (f1 b hb).1
 generalize hH2:upd H1 s2.heap.objs.size (.lst [])=H2 at I2 q2 fr2;generalize hs3:s2.heap.push { cls:=.type "list",dict:=none,data:=.seq ([]:List Value).toArray } = hp3 at I2 hns₁ hsb₁ ⊢;have old23:∀b o,s2.heap.get? b=some o->hp3.get? b=some o:=λb o e=>hs3▸Heap.get?_push_of_some _ e;have ltC:∀{b:Addr}{o:Obj},hp3.get? b=some o->b≠hp3.objs.size:=λe=>Jf (Heap.lt_size e);have old:∀b o,hp3.get? b=some o->h₁.get? b=some o:=λb o e=>hsb₁.extBut b o (ltC e) (Heap.get?_push_of_some _ e);have clc:∀x c,cl.lookup x=some c->X.env.cells.lookup x=some c:=λx c e=>S.cells.mem (x,c) (Ju e);obtain⟨W,⟨m0,w0⟩,turn⟩:=q2;have fpo:∀b∈fp,∃o,hp3.get? b=some o:=λb hb=>by
  obtain⟨o,ho,_⟩:=T.obj _ _ st1 b hb;exact⟨o,old23 b o ho⟩
 have ok:(io X scope cl (own++outs) hp3.objs.size { s2 with heap:=hp3 } H2 fp).Ok:=by
  refine⟨I.ok.mod,S.kind,I.ok.glob,I.ok.blt,Jl _,λx y c e1 e2=>I.ok.inj x y c (clc x c e1) (clc y c e2),λx hx=>?_,λx c hf _=>(by cases hf),I.ok.hd,I.ok.frames,.inl rfl,λb hb=>⟨?_,λx c e=>?_⟩,I2.bs,Jg I.ok.bsz I2.sz,λb o e hb=>?_,λb hb hz=>?_,I2.stack,I2.stkFree⟩
  .have hx':(relabel scope X.env).names.lookup x = some .cell \/ (relabel scope X.env).names.lookup x = some .free:=hx;have:(cl.lookup x).isSome=true:=by
    rcases hx' with e|e
    .exact Shs _ (Ju e) (.inl rfl)
    .exact Shs _ (Ju e) (.inr rfl)
   exact Option.isSome_iff_exists.mp this
  .obtain⟨o,ho⟩:=fpo b hb;exact ltC ho
  .exact (f1 b hb).2.2.2.2.1 x c (clc x c e)
  .rcases (f1 b hb).2.2.2.1 with z|z
   .exact I.ok.noex b o e z
   .exact absurd (Jd (Heap.lt_size e) (Jg I.ok.bsz z)) (Je _)
  .rcases JL.mp (I2.stkSub b hz) with z|z
   .exact (f1 b hb).2.1 z
   .exact (f1 b hb).2.2.1 z
 have I4:au (io X scope cl (own++outs) hp3.objs.size { s2 with heap:=hp3 } H2 fp) [] (List.replicate own.length none++oi σ ixs) H2 { s2 with heap:=h₁,toks:=s2.toks+([]:List (Str×Value)).length }:=by
  refine⟨ok,rfl,I2.bare,Un.kept old,⟨_,hns₁,λi x v e1 e2 e3=>?_⟩,λx c e=>?_,I2.hok.fresh (Jl _),λx c e=>I2.freeC x c (clc x c e),λp hp=>by simp[io] at hp,I2.hok.kept old,?_⟩
  .have e1':(own++outs)[i]? = some x:=e1;have hi':own.length<=i:=by
    by_cases hlt:i<own.length
    .rw[Jw (by simpa using hlt),List.getElem?_replicate,Jb hlt] at e2
     cases e2
    .nofun
   rw[Jv (by simpa using hi')] at e2
   rw[Jv hi'] at e1';rw[List.length_replicate] at e2;unfold oi at e2;rw[Jx] at e2;cases ej:ixs[i-own.length]? with
   | none=>rw[ej] at e2;cases e2
   | some j =>
    rw[ej] at e2;obtain⟨hN,hk,hr,c,hcl⟩:=S.outs.get e1' ej;have e4:(σ[j]?).join=some v:=Ji e2;have e5:σ[j]? = some (some v):=by
     cases es:σ[j]? with
     | none=>rw[es] at e4;cases e4
     | some o=>rw[es] at e4;exact Jj some e4
    obtain⟨m,hn,hl⟩:=I2.loc;obtain⟨u,ru,l⟩:=hl j x v hN e5 (.inr (.inl hk));refine⟨u,ru,.inr ⟨.inl hr,c,hcl,?_⟩⟩;rcases l with ⟨z,_⟩|⟨_,c',hc',cell⟩
    .rw[hk] at z;cases z
    .rw[clc x c hcl] at hc';cases hc';obtain⟨o,ho,hd⟩:=cell;exact⟨o,old _ _ ho,hd⟩
  .obtain⟨v,o,ho,hd⟩:=I2.cell x c (clc x c e);exact⟨v,o,old _ _ ho,hd⟩
  .show (List.replicate own.length none++oi σ ixs).length=(own++outs).length;unfold oi;rw[Jz,Jz,List.length_replicate,Jr,S.outs.length]
 obtain⟨hg,hf,he⟩:=hb hp3.objs.size { s2 with heap:=hp3 } H2 fp (hG _ _ _ _ I2 f1);have stat:∀{H':Hp},(∀b∈fp,H' b=none) -> ∀b∈fp,gU (io X scope cl (own++outs) hp3.objs.size { s2 with heap:=hp3 } H2 fp) [] H' b:=λhn b hb =>
  ⟨hn b hb,(ok.exf b hb).1,ok.exfs b hb,.inl hb,(ok.exf b hb).2,λp hp=>by simp[io] at hp⟩
 have noE:∀{α:Type}{t:Sem α}{Q':α->Shared->Prop}{s':Shared}{E':Value->Shared->Prop},wpAny (model X.prog X.w) X.A t Q' (λ_ _=>False) s'->wpAny (model X.prog X.w) X.A t Q' E' s':=λh=>wpAny_mono h (λ_ _ z=>z) λ_ _ z=>z.elim;have loop:codeAny (model X.prog X.w) X.A (.compLoop (.ListComp elt [⟨tg,iter,ifs,0⟩] scope pos) 0 (.ref it) (.ref s2.heap.objs.size) (compEnvC scope cl hp3.objs.size X.env))
   (compPost (model X.prog X.w) X.A X.xe use Qv (.ref s2.heap.objs.size) hp3.objs.size) { s2 with heap:=h₁,toks:=s2.toks+([]:List (Str×Value)).length }:=by
  refine kT rfl (λn s'=>∃i σ' H',au (io X scope cl (own++outs) hp3.objs.size { s2 with heap:=hp3 } H2 fp) [] σ' H' s'/\tn i s'.heap/\(∀b∈fp,H' b=none)/\W i n σ' H') ?_ m0
   ⟨0,_,H2,I4,T.keep _ _ _ st1 λb hb o e=>old b o (old23 b o e),fr2,w0⟩
  rintro n s' ⟨i,σ',H',I',st',fr',w'⟩;rcases turn i n σ' H' w' with ⟨stop,qn⟩|⟨go,N,hN,step⟩
  .refine bi (T.done (io X scope cl (own++outs) hp3.objs.size { s2 with heap:=hp3 } H2 fp) rfl rfl rfl hc i [] s' σ' H' _ I' (stat fr') st' stop) λr s4 ⟨hr,I4'⟩=>?_
   subst hr;obtain⟨m,hn,_⟩:=I4'.loc;have kC:∀b o,b≠hp3.objs.size->s4.heap.get? b=some o->s4.heap.get? b=some o:=λb o hb e=>e;have tC:∀b u,H' b=some u->b≠hp3.objs.size:=λb u e z=>by
    have:=I4'.free;rw[z] at e;rw[show H' hp3.objs.size=none from this] at e
    cases e
   have base:=I4'.base;have un:Un (fG X.stack) fp H2 H' hp3 s4.heap:=⟨λb o e n1 hb hx=>kC b o (ltC e) (base.keep b o e n1 hb hx),λb o e n1 hb hx=>by
     obtain⟨sl,z⟩:=base.slot b o e n1 hb hx;exact⟨sl,kC b _ (ltC e) z⟩,base.free,λb o e hx=>by
     obtain⟨o',z⟩:=base.there b o e hx;exact⟨o',kC b o' (ltC e) z⟩,base.tups,base.frzs,base.tbls⟩
   exact hfin _ _ H' s4 m (I2.call' (s':=s4) (ch:=fp) I4'.os un I4'.hok I4'.bare (λb hb=>⟨(f1 b hb).2.2.2.1,(f1 b hb).2.1,(f1 b hb).2.2.2.2.1,(f1 b hb).2.2.2.2.2⟩)) (I2.fpOk (Jl _) I4'.free) hn qn
  .refine bi (T.item (io X scope cl (own++outs) hp3.objs.size { s2 with heap:=hp3 } H2 fp) rfl rfl rfl hc i [] s' σ' H' _ I' (stat fr') st' go) λr s4 ⟨u,hr,h4⟩=>?_
   subst hr;refine bi h4 λ_ s5 ⟨x,H5,I5,r5,y5,st5,fr5⟩=>?_;have I5':=I5.pinned (stat fr5) (T.obj _ _ st5);have back:∀{σ7:St}{H7:Hp}{s7:Shared},au (io X scope cl (own++outs) hp3.objs.size { s2 with heap:=hp3 } H2 fp) ([]++iW fp s5.heap) σ7 H7 s7 -> ∀m',m'<n->W (i+1) m' σ7 H7 ->
     ∃m,m<n /\ ∃i σ' H',au (io X scope cl (own++outs) hp3.objs.size { s2 with heap:=hp3 } H2 fp) [] σ' H' s7/\tn i s7.heap/\(∀b∈fp,H' b=none)/\W i m σ' H':=λ{σ7 H7 s7} I7 m' hm w7=>by
    refine⟨m',hm,i+1,σ7,H7,I7.unpinned,T.keep _ _ _ st5 λb hb o e=>(I7.pin (b,o) (Jm _ (Jm _ (eD hb e)))).1,λb hb=>?_,w7⟩;obtain⟨o,e,d⟩:=T.obj _ _ st5 b hb;exact (I7.pin (b,o) (Jm _ (Jm _ (eD hb e)))).2.1
   refine bi (noE (hg _ s5 σ' H5 x u _ I5' r5 (step x H5 y5))) λ_ s6 ⟨σ6,H6,I6,q6⟩=>?_;refine bi (noE (hf _ s6 σ6 H6 _ I6 q6)) λok s7 ⟨H7,I7,q7⟩=>?_;cases ok with
   | false =>
    rw[Jc Jk] at q7 ⊢;obtain⟨m',hm,w7⟩:=hN _ _ q7;exact back I7 m' hm w7
   | true =>
    rw[Jb rfl] at q7 ⊢;refine bi (noE (he _ s7 σ6 H7 _ I7 q7)) λv s8 ⟨xv,H8,I8,r8,q8⟩=>?_;obtain⟨xs,hxs,hz,q8⟩:=q8;refine bi (noE (jU _ s8 σ6 H8 (.ref s2.heap.objs.size) [xv] _ [v] (λ_ H9=>N σ6 H9) I8 rfl (.cons r8 .nil) ⟨_,xs,xv,rfl,rfl,aI hxs,hz,q8 _ (kO c9.upd) ((bv (show X.K.lookup _=none from I8.noK (aI hxs))).trans a9)⟩)) λ_ s9 ⟨_,H9,I9,_,n9⟩=>?_
    obtain⟨m',hm,w9⟩:=hN _ _ n9;exact back I9 m' hm w9
 exact codeAny_compStart_list loop (T.self _ 0 _ _ _ (T.keep _ _ _ st1 λb hb o e=>old b o (old23 b o e)) loop)
theorem vj{tg iter elt:Expr}{ifs:List Expr}{scope:Scope}{pos:Pos}{wi:TI}{g:TG}{tif:TT}{te:TE}{cl:List (Str×Addr)}{own outs:List Str}{ixs:List Nat}
  (hc:X.calm=true)(hi:PI X tg iter wi)(hclos:closureFor scope X.env=pure cl)(S:jt X scope cl own outs ixs)
  (hb:∀C s H ex,PG (io X scope cl (own++outs) C s H ex) tg g/\PF (io X scope cl (own++outs) C s H ex) ifs tif/\PE (io X scope cl (own++outs) C s H ex) elt te)
  (hs:∀x,foldedSetIterable iter X.env x=pure x:=by intro _;rfl) :
  PE X (.ListComp elt [⟨tg,iter,ifs,0⟩] scope pos) (mL X.K wi own.length ixs g tif te):=by
 intro pins s σ H Q I h;rw[eval_ListComp];refine jO (G:=λ_ _ _=>True) hc hi hclos S (λC s H ex _=>hb C s H ex) hs (λ_ _ _ _ _ _=>trivial) I (λa H'=>Q (.ref a) H') (λa C H' s4 m J4 fC hn q=>⟨m,hn,λh' hsb=>?_⟩) h;obtain⟨f0,f1,f2,f3,f4,f5⟩:=fC;exact⟨.ref a,H',J4.turned (t':=s4.toks) (λb o hb e=>hsb.extBut b o hb e) f0 f1 f3 f4 f5,rfl,q⟩
theorem ve{tg iter elt:Expr}{ifs:List Expr}{scope:Scope}{pos spos py:Pos}{y:Str}{i:Nat}{wi:TI}{g:TG}{tif:TT}{te:TE}{cl:List (Str×Addr)}{own outs:List Str}{ixs:List Nat}
  (hN:X.N.Nodup)(hy:X.N[i]? = some y)(hx:ua X.env.scope y)(hc:X.calm=true)(hi:PI X tg iter wi)(hclos:closureFor scope X.env=pure cl)(S:jt X scope cl own outs ixs)
  (hb:∀C s H ex,PG (io X scope cl (own++outs) C s H ex) tg g/\PF (io X scope cl (own++outs) C s H ex) ifs tif/\PE (io X scope cl (own++outs) C s H ex) elt te)
  (hsw:swapsWith (.ListComp elt [⟨tg,iter,ifs,0⟩] scope pos) (some (.Name y py)) spos.line X.env=pure true:=by rfl)
  (hs:∀x,foldedSetIterable iter X.env x=pure x:=by intro _;rfl)(hf:X.fn y=true\/X.env.scope.names.lookup y=some .local:=by first|exact .inl rfl|exact .inr rfl|assumption) :
  PS X (.Assign [.Name y py] (.ListComp elt [⟨tg,iter,ifs,0⟩] scope pos) spos) (m6 (mL X.K wi own.length ixs g tif te) (dR i)):=by
 intro pins s σ H D I h;rw[exec_Assign_Name_used _ _ _ _ hsw];refine wpAny_bind (wpAny_standAt (wpAny_bind ?_));show wpAny _ X.A (do let _ <-comprehension (.ListComp elt [⟨tg,iter,ifs,0⟩] scope pos) scope X.env _ (newList []) false (eval iter X.env) (some (assign (.Name y py) X.env))) _ _ s
 refine wpAny_bind (wpAny_mono (jO (use:=some (assign (.Name y py) X.env)) (Qv:=λ_ s'=>SP X pins D .next s') (G:=λ_ _ _=>True) hc hi hclos S (λC s H ex _=>hb C s H ex) hs (λ_ _ _ _ _ _=>trivial) I (λa H'=>D.nx (σ.set i (some (.ref a))) H') (λa C H' s4 m J4 fC hn q=>?_) h) (λ_ s' hq=>wpAny_pure (wpAny_pure hq)) λ_ _ e=>e)
 obtain⟨f0,f1,f2,f3,f4,f5⟩:=fC;refine wpAny_assign_Name (jR J4 hN hy hx (v:=.ref a) rfl (λs5 I5 hsame=>?_) hf);obtain⟨b,sb,hb'⟩:=hsame;have nb:C≠b:=λe=>by
  rcases hb' with z|z
  .exact f1 (e.trans z)
  .exact f4 _ _ z e.symm
 exact⟨m,hn.sameBut sb nb,λh' hsb=>⟨_,H',I5.turned (t':=s5.toks) (λb o hb e=>hsb.extBut b o hb e) f0 f1 f3 f4 f5,q⟩⟩
end
theorem zC{X:Cx}{scope:Scope}{cl:List (Str×Addr)}{N:List Str}{C:Addr}{s:Shared}{H:Hp}{ex:List Addr}:(io X scope cl N C s H ex).K=X.K:=rfl
mutual
def D.py:D->PyData
 | .non=>.none
 | .bl b=>.bool b
 | .int i=>.int i
 | .str x=>.str x
 | .dict=>.dict []
 | .tup ds=>.tuple (D.pys ds)
 | .lst ds=>.list (D.pys ds)
def D.pys:List D->List PyData
 | []=>[]
 | d::ds=>d.py::D.pys ds
end
def D.cmp(d:D):Prop:=d.py.canLay0=true/\d.py.depth<=30
def u7(d e:D):Bool:=PyData.eqv d.py e.py
section
variable {X:Cx}{pins:List (Addr×Obj)}{σ:St}{H:Hp}{s:Shared}
mutual
theorem aA.reads(I:au X pins σ H s):∀(d:D)(v:V)(u:Value),aA (vw X.K H) d v->aV v u->d.py.canLay0=true -> ∃as,Reads s.heap u d.py as
 | .non,v,u,h,r,_=>by
  unfold aA at h;subst h;cases r;exact⟨_,by unfold D.py;exact .none⟩
 | .bl b,v,u,h,r,_=>by
  unfold aA at h;subst h;cases r;exact⟨_,by unfold D.py;exact .bool b⟩
 | .int i,v,u,h,r,_=>by
  unfold aA at h;subst h;obtain⟨t,rfl⟩:=r;exact⟨_,by unfold D.py;exact .int i t⟩
 | .str x,v,u,h,r,_=>by
  unfold aA at h;subst h;obtain⟨t,rfl⟩:=r;exact⟨_,by unfold D.py;exact .str x t⟩
 | .dict,v,u,h,r,hc=>by
  unfold D.py PyData.canLay0 at hc;cases hc
 | .tup ds,v,u,h,r,hc=>by
  obtain⟨a,xs,rfl,ha,rs⟩:=h.tup_at;cases r;unfold D.py at hc ⊢;obtain⟨its,rv,p,hz⟩:=I.tuple (eJ ha);obtain⟨o,h1,h2,n,h3⟩:=p;obtain⟨as,ra⟩:=av.reads I ds xs its rs rv (by unfold PyData.canLay0 at hc;exact hc)
  exact⟨_,.tuple h1 h2 h3 (by simpa using ra)⟩
 | .lst ds,v,u,h,r,hc=>by
  obtain⟨a,xs,rfl,ha,rs⟩:=h.lst_at;cases r;unfold D.py at hc ⊢;obtain⟨its,rv,p,hz⟩:=I.list (f6.of (K:=X.K) (aI ha));obtain⟨o,n,h1,h2,h3,h4⟩:=p;obtain⟨as,ra⟩:=av.reads I ds xs its rs rv (by unfold PyData.canLay0 at hc;exact hc)
  exact⟨_,.list h1 h2 h4 (by simpa using ra)⟩
theorem av.reads(I:au X pins σ H s):∀(ds:List D)(xs:List V)(us:List Value),av (vw X.K H) ds xs->aJ xs us->PyData.canLayAll0 (D.pys ds)=true -> ∃as,ReadsAll s.heap us (D.pys ds) as
 | [],xs,us,h,r,_=>by
  cases h.nil_at;cases r;exact⟨_,by unfold D.pys;exact .nil⟩
 | d::ds,xs,us,h,r,hc=>by
  obtain⟨x,ys,rfl,h1,h2⟩:=h.cons_at;cases r with
  | cons r1 r2 =>
   unfold D.pys PyData.canLayAll0 at hc;rw[JB] at hc;obtain⟨as,ra⟩:=aA.reads I d x _ h1 r1 hc.1;obtain⟨bs,rb⟩:=av.reads I ds ys _ h2 r2 hc.2;exact⟨_,by unfold D.pys;exact .cons ra rb⟩
end
end
def uL(K:W.Frag)(neg:Bool):R2:=λx y H Q=>∃d e,aA (vw K H) d x/\aA (vw K H) e y/\d.cmp/\e.cmp/\Q (.bl (if neg then !u7 d e else u7 d e)) H
section
variable {X:Cx}
theorem ju(hu:X.A.units+64<cLine):cV X (compareOp .Eq) (uL X.K false):=by
 intro pins s σ H x y v u Q I rx ry h;obtain⟨d,e,h1,h2,c1,c2,q⟩:=h;obtain⟨as,r1⟩:=aA.reads I d x v h1 rx c1.1;obtain⟨bs,r2⟩:=aA.reads I e y u h2 ry c2.1;exact SeqAt.compareEq_reads r1 r2 c1.1 c2.1 (by have:=c1.2;nofun) ⟨.bl _,H,I,rfl,q⟩
theorem oo(hu:X.A.units+64<cLine):cV X (compareOp .NotEq) (uL X.K true):=by
 intro pins s σ H x y v u Q I rx ry h;obtain⟨d,e,h1,h2,c1,c2,q⟩:=h;obtain⟨as,r1⟩:=aA.reads I d x v h1 rx c1.1;obtain⟨bs,r2⟩:=aA.reads I e y u h2 ry c2.1;exact SeqAt.compareNe_reads r1 r2 c1.1 c2.1 (by have:=c1.2;nofun) ⟨.bl _,H,I,rfl,q⟩
end
def fW(K:W.Frag)(H:Hp)(a:Addr)(xs:List V):Prop:=(K.lookup a=none/\Rd H a (.lst xs)) \/
 ∃(o:Obj)(its:Array Value)(n:Nat),K.lookup a=some o/\o.cls=.type "list" /\ o.dict=none/\o.data=.seq its n/\its.size<=sizeLine/\aJ xs its.toList
theorem fW.sq{K:W.Frag}{H:Hp}{a:Addr}{xs:List V}(h:fW K H a xs):f6 K H a xs:=h.imp (λz=>z.2) λz=>z
theorem fW.of{K:W.Frag}{H:Hp}{a:Addr}{xs:List V}(h:f6 K H a xs)(hk:H a≠none->K.lookup a=none):fW K H a xs:=by
 rcases h with h|h
 .refine .inl ⟨hk ?_,h⟩;rcases h with h|⟨o,h⟩<;>rw[h]<;>simp
 .exact .inr h
theorem fW.same{K:W.Frag}{H H':Hp}{a:Addr}{xs:List V}(h:fW K H a xs)(S:aw (vw K H) (vw K H')):fW K H' a xs:=by
 rcases h with ⟨hk,h⟩|h
 .refine .inl ⟨hk,?_⟩;rcases h with h|⟨o,h⟩
  .have:=S a _ ((bv hk).trans h);rw[bv hk] at this;exact .inl this
  .have:=S a _ ((bv hk).trans h);rw[bv hk] at this;exact .inr ⟨o,this⟩
 .exact .inr h
end L2
namespace L2
open PySem PySem.Spec PyProof.Rows
mutual
def D.flat:D->Bool
 | .lst _=>false
 | .tup ds=>D.flats ds
 | _=>true
def D.flats:List D->Bool
 | []=>true
 | d::ds=>d.flat && D.flats ds
end
section
variable {H H':Hp}{l:Addr}{xs:List V}
mutual
theorem aA.flat_but(hl:H l=some (.lst xs))(S:c9 l H H'):∀(d:D)(v:V),d.flat=true->aA H d v->aA H' d v
 | .non,v,_,h=>by unfold aA at h ⊢;exact h
 | .bl b,v,_,h=>by unfold aA at h ⊢;exact h
 | .int i,v,_,h=>by unfold aA at h ⊢;exact h
 | .str x,v,_,h=>by unfold aA at h ⊢;exact h
 | .dict,v,_,h=>by
  unfold aA at h ⊢;obtain⟨a,kvs,rfl,h⟩:=h;exact⟨a,kvs,rfl,S _ _ (λe=>by rw[e,hl] at h;cases h) h⟩
 | .tup ds,v,hf,h=>by
  obtain⟨a,ys,rfl,h,rs⟩:=h.tup_at;unfold D.flat at hf;exact .mk_tup (S _ _ (λe=>by rw[e,hl] at h;cases h) h) (av.flat_but hl S ds ys hf rs)
 | .lst ds,v,hf,h=>by unfold D.flat at hf;cases hf
theorem av.flat_but(hl:H l=some (.lst xs))(S:c9 l H H'):∀(ds:List D)(ys:List V),D.flats ds=true->av H ds ys->av H' ds ys
 | [],ys,_,h=>by cases h.nil_at;exact .mk_nil
 | d::ds,ys,hf,h=>by
  obtain⟨y,r,rfl,h1,h2⟩:=h.cons_at;unfold D.flats at hf;rw[JB] at hf;exact .mk_cons (aA.flat_but hl S d y hf.1 h1) (av.flat_but hl S ds r hf.2 h2)
end
end
theorem aY(q:Int×Int):(fr q).flat=true:=by simp[fr,D.flat,D.flats]
theorem ee:∀(qs:List (Int×Int)),D.flats (qs.map fr)=true
 | []=>by simp[D.flats]
 | q::qs=>by
  rw[Jq];unfold D.flats;rw[aY,ee qs];rfl
theorem av.app{H:Hp}:∀{ds es:List D}{xs ys:List V},av H ds xs->av H es ys->av H (ds++es) (xs++ys)
 | [],es,xs,ys,h,g=>by cases h.nil_at;exact g
 | d::ds,es,xs,ys,h,g=>by
  obtain⟨x,r,rfl,h1,h2⟩:=h.cons_at;exact .mk_cons h1 (av.app h2 g)
theorem av.snoc{H:Hp}{ds:List D}{xs:List V}{d:D}{x:V}(h:av H ds xs)(g:aA H d x):av H (ds++[d]) (xs++[x]):=h.app (.mk_cons g .mk_nil)
theorem av.at{H:Hp}{ds:List D}{xs:List V}(h:av H ds xs) {i:Nat}{d:D}(hd:ds[i]? = some d):∃x,xs[i]? = some x/\aA H d x:=by
 have hi:i<ds.length:=(List.getElem?_eq_some_iff.mp hd).1;have hi':i<xs.length:=by rw[h.length];exact hi
 obtain⟨d',e,r⟩:=h.get (JE hi');rw[hd] at e;cases e;exact⟨_,JE hi',r⟩
theorem av.take{H:Hp}:∀{ds:List D}{xs:List V}(n:Nat),av H ds xs->av H (ds.take n) (xs.take n)
 | ds,xs,0,h=>by simp;exact .mk_nil
 | [],xs,n+1,h=>by cases h.nil_at;exact .mk_nil
 | d::ds,xs,n+1,h=>by
  obtain⟨x,r,rfl,h1,h2⟩:=h.cons_at;exact .mk_cons h1 (h2.take n)
theorem av.drop{H:Hp}:∀{ds:List D}{xs:List V}(n:Nat),av H ds xs->av H (ds.drop n) (xs.drop n)
 | ds,xs,0,h=>h
 | [],xs,n+1,h=>by cases h.nil_at;exact .mk_nil
 | d::ds,xs,n+1,h=>by
  obtain⟨x,r,rfl,h1,h2⟩:=h.cons_at;exact h2.drop n
def aF(G:Hp)(a:Addr)(qs:List (Int×Int)):Prop:=∃xs,G a=some (.lst xs)/\av G (qs.map fr) xs
section
variable {G G':Hp}{a l:Addr}{qs:List (Int×Int)}{xs:List V}
theorem aF.same(h:aF G a qs)(S:aw G G'):aF G' a qs:=by
 obtain⟨ys,h1,h2⟩:=h;exact⟨ys,S _ _ h1,h2.same S⟩
theorem aF.but(h:aF G a qs)(hl:G l=some (.lst xs))(hn:a≠l)(S:c9 l G G'):aF G' a qs:=by
 obtain⟨ys,h1,h2⟩:=h;exact⟨ys,S _ _ hn h1,av.flat_but hl S _ _ (ee qs) h2⟩
theorem aF.rep(h:aF G a qs):aA G (.lst (qs.map fr)) (.ref a):=by
 obtain⟨ys,h1,h2⟩:=h;exact .mk_lst h1 h2
theorem aF.len(h:aF G a qs):gl G a=some qs.length:=by
 obtain⟨ys,h1,h2⟩:=h;unfold gl;rw[h1];simp only[h2.length,Jr]
theorem aF.ne_st{st:Addr}(h:aF G a qs)(hst:bV G st):a≠st:=by
 rintro rfl;obtain⟨ys,h1,h2⟩:=h;obtain⟨x,b,h3,_⟩:=hst;rw[h1] at h3;cases h3;cases qs with
 | nil=>cases h2.nil_at
 | cons q qs =>
  obtain⟨y,r,e,h4,h5⟩:=av.cons_at h2;cases e;obtain⟨c,e,_⟩:=h4.fr_at;cases e
theorem aF.stBut{st:Addr}(h:aF G a qs)(hst:bV G st)(S:c9 st G G'):aF G' a qs:=by
 obtain⟨x,b,h3,_⟩:=hst;exact h.but h3 (h.ne_st ⟨x,b,h3,by assumption⟩) S
theorem bV.but{st:Addr}(h:bV G st)(hl:G l=some (.lst xs))(hn:st≠l)(S:c9 l G G'):bV G' st:=by
 obtain⟨x,b,h3,h4⟩:=h;exact⟨x,b,S _ _ hn h3,h4⟩
end
theorem qT{CX:oV}{P:Program}{w:World}{K:W.Frag}{mg:Str->Option Value}{base:Heap}{N:List Str}{qual:Str}{scope:Scope}{f:Addr}{cd:Value}{A:Around}{outer:List Env}{s:Shared}{H:Hp}{E:XK} :
  (fM CX P w K mg base N qual scope f cd A outer s H E).nox.K=K:=rfl
def jI(t u:TS):TS:=λD σ H=>∃R:St->Hp->Prop,(∀σ' H',R σ' H'->u D σ' H')/\t { D with nx:=R } σ H
theorem jI.mk{t u:TS}{D:iC}{σ:St}{H:Hp}(R:St->Hp->Prop)(h1:t { D with nx:=R } σ H)(h2:∀σ' H',R σ' H'->u D σ' H'):jI t u D σ H:=⟨R,h2,h1⟩
theorem vg{X:Cx}{st:Stmt}{cG:List Stmt}{t u:TS}(h1:PS X st t)(h2:mS X cG u):mS X (st::cG) (jI t u):=by
 rintro pins s σ H D I ⟨R,hR,h⟩;refine wpAny_execs_cons (bi (h1 pins s σ H { D with nx:=R } I h) λf s1 q=>?_)
 cases f with
 | next =>
  obtain⟨σ',H',I',q⟩:=q;exact h2 pins s1 σ' H' D I' (hR _ _ q)
 | ret v=>exact q
 | brk=>exact q
 | cont=>exact q
def mj(J:It)(H:Hp)(its:List V):Prop:=(∀i,i<its.length->J.go i H)/\(∀i x H',i<its.length->J.yld i H x H'->H'=H/\its[i]? = some x)/\J.stop its.length H
def fu(lo:Int)(n:Nat):List V:=(List.range n).map λ(k:Nat)=>V.int (lo+k)
theorem ck{lo:Int}{n:Nat}{H:Hp}:mj (y7 lo n) H (fu lo n):=by
 refine⟨λi hi=>by show i<n;simpa [fu] using hi,λi x H' hi y=>⟨y.1,?_⟩,by show n<=(fu lo n).length;simp[fu]⟩
 have hi':i<n:=by simpa [fu] using hi
 rw[y.2];simp[fu,hi']
theorem bz{K:W.Frag}{H:Hp}{a:Addr}{xs:List V}(h:vw K H a=some (.lst xs)):mj (Ag K a) H xs :=
 ⟨λi hi=>⟨xs,xs[i],.of (aI h),by simp[hi]⟩,λi x H' _ y=>⟨y.1,y.2 xs (.of (aI h))⟩,⟨xs,.of (aI h),Jl _⟩⟩
theorem ci{J:It}{its:List V}{g:TG}{tb:TS}{D:iC}{σ:St}{H:Hp}(Pv:Nat->St->Hp->Prop)(hl:∀i σ H,i<=its.length->Pv i σ H->mj J H its)(h0:Pv 0 σ H)
  (hs:∀i x σ H,i<its.length->its[i]? = some x->Pv i σ H->g x σ H λσ2 H2=>tb { D with nx:=Pv (i+1),ct:=Pv (i+1),bk:=D.nx } σ2 H2)(hd:∀σ H,Pv its.length σ H->D.nx σ H):oP J g tb D σ H:=by
 refine⟨λi m σ H=>m=its.length-i/\i<=its.length/\Pv i σ H,⟨its.length,by simp,Js _,h0⟩,?_⟩
 rintro i m σ H ⟨rfl,hi,p⟩;obtain⟨q1,q2,q3⟩:=hl i σ H hi p;by_cases hlt:i<its.length
 .refine .inr ⟨q1 i hlt,Pv (i+1),λσ' H' p'=>⟨its.length-(i+1),(),rfl,hlt,p'⟩,λx H' y=>?_⟩;obtain⟨e,y2⟩:=q2 i x H' hlt y;subst e;exact hs i x σ _ hlt y2 p
 .have e:i=its.length:=();subst e;exact .inl ⟨q3,hd σ H p⟩
def CN(K:W.Frag)(a:Addr)(σr:St)(Pv:List V->Hp->Prop):St->Hp->Prop:=λσ H=>(∃y,σ=y::σr) /\ ∃xs,vw K H a=some (.lst xs)/\Pv xs H
def ym(K:W.Frag)(a:Addr)(N:Hp->Prop):V->Hp->Prop:=λv H4=>∃xs,vw K H4 a=some (.lst xs)/\xs.length<sizeLine /\ ∀H5,c9 a (vw K H4) (vw K H5)->vw K H5 a=some (.lst (xs++[v]))->N H5
theorem dE{K:W.Frag}{J:It}{its:List V}{tif:TT}{te:TE}{a:Addr}{x0:Option V}{σr:St}{H0:Hp}{Q:Hp->Prop}(Pv:Nat->List V->Hp->Prop)
  (hl:∀i xs H,i<=its.length->vw K H a=some (.lst xs)->Pv i xs H->mj J H its)(ha:vw K H0 a=some (.lst []))(h0:Pv 0 [] H0)
  (hs:∀i x xs H,i<its.length->its[i]? = some x->vw K H a=some (.lst xs)->Pv i xs H->tif (some x::σr) H λb H3=>if b=true then te (some x::σr) H3 (ym K a (CN K a σr (Pv (i+1)) (some x::σr))) else CN K a σr (Pv (i+1)) (some x::σr) H3)
  (hd:∀xs H,vw K H a=some (.lst xs)->Pv its.length xs H->Q H):iS K J (dR 0) tif te a (x0::σr) H0 Q:=by
 refine⟨λi m σ H=>m=its.length-i/\i<=its.length/\CN K a σr (Pv i) σ H,⟨its.length,by simp,Js _,⟨_,rfl⟩,_,ha,h0⟩,?_⟩
 rintro i m σ H ⟨rfl,hi,⟨y,rfl⟩,xs,hxs,p⟩;obtain⟨q1,q2,q3⟩:=hl i xs H hi hxs p;by_cases hlt:i<its.length
 .refine .inr ⟨q1 i hlt,CN K a σr (Pv (i+1)),λσ' H' p'=>⟨its.length-(i+1),(),rfl,hlt,p'⟩,λx H' y=>?_⟩;obtain⟨e,y2⟩:=q2 i x H' hlt y;subst e;exact hs i x xs _ hlt y2 hxs p
 .have e:i=its.length:=();subst e;exact .inl ⟨q3,hd xs H hxs p⟩
theorem ym.mk{K:W.Frag}{a:Addr}{σr:St}{Pv:List V->Hp->Prop}{x:Option V}{v:V}{H:Hp}{xs:List V}(h:vw K H a=some (.lst xs))(hz:xs.length<sizeLine)
  (q:∀H5,c9 a (vw K H) (vw K H5)->vw K H5 a=some (.lst (xs++[v]))->Pv (xs++[v]) H5):ym K a (CN K a σr Pv (x::σr)) v H:=⟨xs,h,hz,λH5 B h5=>⟨⟨_,rfl⟩,_,h5,q H5 B h5⟩⟩
theorem CN.mk{K:W.Frag}{a:Addr}{σr:St}{Pv:List V->Hp->Prop}{x:Option V}{H:Hp}{xs:List V}(h:vw K H a=some (.lst xs))(q:Pv xs H):CN K a σr Pv (x::σr) H:=⟨⟨_,rfl⟩,_,h,q⟩
theorem gd{lo:Int}{n i:Nat}{x:V}(h:(fu lo n)[i]? = some x):i<n/\x=.int (lo+i):=by
 have hi:i<n:=by simpa [fu] using (List.getElem?_eq_some_iff.mp h).1
 simp[fu,hi] at h;exact⟨hi,h.symm⟩
theorem ed{lo:Int}{n:Nat}:(fu lo n).length=n:=by simp[fu]
theorem km{n d:Nat}{k:Nat}(h:k<=n):HT.sIx n d (some (k:Int))=k:=by
 unfold HT.sIx;simp only[Int.toNat_natCast];rw[Jc ()];nofun
theorem kJ{xs:List V}{k:Nat}(h:k<=xs.length):gm xs none (some (k:Int))=xs.take k:=by
 unfold gm;rw[km h];simp[HT.sIx]
theorem jx{xs:List V}{k:Nat}(h:k<=xs.length):gm xs (some (k:Int)) none=xs.drop k:=by
 unfold gm;rw[km h];simp[HT.sIx];rw[List.take_of_length_le];simp
theorem iM{α:Type}{xs:List α}{x:α}(h:xs.getLast? = some x):iA xs (-1)=some x:=by
 obtain⟨ys,rfl⟩:=List.getLast?_eq_some_iff.mp h;exact iN ys x
def xE(K:W.Frag)(neg:Bool):R2:=λx y H Q=>∃p q,x=.ref p/\y=.ref q /\ ∃xs,vw K H p=some (.lst xs)/\vw K H q=some (.lst [])/\Q (.bl (if neg then !xs.isEmpty else xs.isEmpty)) H
section
variable {X:Cx}
theorem ss(hu:X.A.units<cLine):cV X (compareOp .NotEq) (xE X.K true):=by
 intro pins s σ H x y v u Q I rx ry h;obtain⟨p,q,rfl,rfl,xs,h1,h2,k⟩:=h;cases rx;cases ry;obtain⟨its,r,⟨o,n,e1,e2,e3,e4⟩,_⟩:=I.list (f6.of (K:=X.K) (aI h1));obtain⟨its2,r2,⟨o2,n2,f1,f2,f3,f4⟩,_⟩:=I.list (f6.of (K:=X.K) (aI h2));cases r2;have fin:EP X pins σ Q (.bool !xs.isEmpty) s:=⟨.bl _,H,I,rfl,k⟩;cases xs with
 | nil =>
  cases r;exact SeqAt.RcNeAt.lists (e:=λ_=>true) ⟨_,e1,e2,_,e4⟩ ⟨_,f1,f2,_,f4⟩ rfl hu (λj h1=>absurd h1 (by simp)) _ _ _ _ fin
 | cons x xs =>
  cases r;exact SeqAt.RcNeAt.lists_lengths ⟨_,e1,e2,_,e4⟩ ⟨_,f1,f2,_,f4⟩ (by simp) hu _ _ _ _ fin
end
theorem b9.ul{k:Nat}{A:Around}(r:b9 k A):A.units<cLine:=by have:=r.un;nofun
theorem b9.u64{k:Nat}{A:Around}(r:b9 k A):A.units+64<cLine:=by have:=r.un;nofun
theorem kK(p q:Int×Int):u7 (fr p) (fr q)=decide (p=q):=by
 unfold u7 fr D.py D.pys D.pys D.pys D.py;simp only[PyData.eqv,PyData.eqvAll];rw[Jn];simp[Prod.ext_iff]
theorem fg(q:Int×Int):(fr q).cmp:=by
 unfold D.cmp fr D.py D.pys D.pys D.pys D.py;exact⟨rfl,Nat.le_of_ble_eq_true rfl⟩
def GT(K:W.Frag)(mg:Str->Option Value)(x:Str)(xs:List V):Prop:=∃a,mg x=some (.ref a) /\ ∀H,vw K H a=some (.tup xs)
theorem GT.mk{K:W.Frag}{mg:Str->Option Value}{x:Str}{a:Addr}{o:Obj}{xs:List V}(h:mg x=some (.ref a))(hl:K.lookup a=some o)(hk:nN o=some (.tup xs)):GT K mg x xs :=
 ⟨a,h,λH=>by unfold vw;rw[hl];exact hk⟩
theorem bg{H:Hp}{a:Addr}{i j:Int}(h:H a=some (.tup [.int i,.int j])):aA H (fr (i,j)) (.ref a):=.mk_tup h (.mk_cons (.mk_int _) (.mk_cons (.mk_int _) .mk_nil))
end L2
namespace L2
open PySem PySem.Spec PyProof.Rows
theorem av.repl{H:Hp}{d:D}{x:V}(h:aA H d x):∀n,av H (List.replicate n d) (List.replicate n x)
 | 0=>.mk_nil
 | n+1=>.mk_cons h (av.repl h n)
theorem aw.rfl{H:Hp}:aw H H:=λ_ _ z=>z
end L2
set_option autoImplicit true
namespace L2
open PySem PySem.Spec PyProof.Rows
structure QE (X:Cx)(e:Expr)(t:TE):Prop where
 h:PE X e t
structure QT (X:Cx)(e:Expr)(t:TT):Prop where
 h:PT X e t
structure QW (X:Cx)(e:Expr)(t:TT):Prop where
 h:PW X e t
structure QA (X:Cx)(e:List Expr)(t:TA):Prop where
 h:PA X e t
structure QS (X:Cx)(e:Stmt)(t:TS):Prop where
 h:PS X e t
structure qb (X:Cx)(e:List Stmt)(t:TS):Prop where
 h:mS X e t
structure QG (X:Cx)(e:Expr)(t:TG):Prop where
 h:PG X e t
structure Ao (X:Cx)(e:List Expr)(t:re):Prop where
 h:yZ X e t
structure QF (X:Cx)(e:List Expr)(t:TT):Prop where
 h:PF X e t
structure QO (X:Cx)(e:Option Expr)(t:TO):Prop where
 h:PO X e t
structure QI (X:Cx)(tg e:Expr)(t:TI):Prop where
 h:PI X tg e t
section
variable {X:Cx}{pos p p2 apos cpos pos':Pos}{a b e o l:Expr}{es cG:List Expr}{te ta tb to:TE}{tA tB':TT}{st:Stmt}{rest':List Stmt}{lo hi:Option Expr}{id:String}
theorem eQ {b j pos}:QE X (.Constant (.bool b) j pos) (tC (.bl b)):=⟨zO ⟩
theorem ae {i j pos}:QE X (.Constant (.int i) j pos) (tC (.int i)):=⟨xL ⟩
theorem oz {j pos}:QE X (.Constant .none j pos) (tC .non):=⟨yv ⟩
theorem bc {x j pos}:QE X (.Constant (.str x) j pos) (tC (.str x)):=⟨xt ⟩
theorem cq{x:Str}{v:V}{u:Value}{pos:Pos}(hg:Gl X x)(hm:X.mg x=some u)(r:aV v u)(hd:(x==("__debug__" : Str))=false:=by decide):QE X (.Name x pos) (tC v):=⟨uv (hg:=hg) (hm:=hm) (r:=r) (hd:=hd)⟩
theorem am{op:Operator}{r:R2}(ho:cV X (binaryOp op) r)(ha:QE X a ta)(hb:QE X b tb):QE X (.BinOp a op b pos) (uH r ta tb):=⟨zr (ho:=ho) (ha:=ha.h) (hb:=hb.h)⟩
theorem eR{op:UnaryOp}{r:V->Hp->VK->Prop}(ho:Ad X (unaryOp op) r)(ha:QE X a ta):QE X (.UnaryOp op a pos) (AC r ta):=⟨y8 (ho:=ho) (ha:=ha.h)⟩
theorem tW(ha:QE X a ta)(hb:QE X (.BoolOp .And (b::cG) pos) tb):QE X (.BoolOp .And (a::b::cG) pos) (ph ta tb):=⟨xy (ha:=ha.h) (hb:=hb.h)⟩
theorem wT(ha:QE X a ta)(hb:QE X (.BoolOp .Or (b::cG) pos) tb):QE X (.BoolOp .Or (a::b::cG) pos) (uA ta tb):=⟨z8 (ha:=ha.h) (hb:=hb.h)⟩
theorem kj {op}{t:TE}(h:QE X a t):QE X (.BoolOp op [a] pos) t:=⟨xA (h:=h.h)⟩
theorem dt{op:CmpOp}{r:R2}(ho:cV X (compareOp op) r)(ha:QE X a ta)(hb:QE X b tb)(hm:behindInMarks op b=false):QE X (.Compare a [op] [b] pos) (uH r ta tb):=⟨uE (ho:=ho) (ha:=ha.h) (hb:=hb.h) (hm:=hm)⟩
theorem tL{c:Expr}(hc:QT X c tA)(ha:QE X a ta)(hb:QE X b tb):QE X (.IfExp c a b pos) (Ax tA ta tb):=⟨rL (hc:=hc.h) (ha:=ha.h) (hb:=hb.h)⟩
theorem aX {x1}(h:QA X es t):QE X (.Tuple es x1 pos) (tz X.K t):=⟨uJ (h:=h.h)⟩
theorem aS(h:QA X es t):QE X (.List es pos) (sY X.K t):=⟨vZ (h:=h.h)⟩
theorem cY{r:V->Option Int->Option Int->Hp->VK->Prop}(hr:t8 X r)(he:QE X e te)(hl:QO X lo tl)(hu:QO X hi th):QE X (.Subscript e (.Slice lo hi none p2) pos) (Az r te tl th):=⟨rA (hr:=hr) (he:=he.h) (hl:=hl.h) (hu:=hu.h)⟩
theorem dQ  : QO X none kB:=⟨ux ⟩
theorem dP(h:QE X e te):QO X (some e) (pZ te):=⟨vP (h:=h.h)⟩
theorem ap{r:R2}(hr:rg X r)(ha:QE X a ta)(hb:QE X b tb)(hs:pV b):QE X (.Subscript a b pos) (uH r ta tb):=⟨zn (hr:=hr) (ha:=ha.h) (hb:=hb.h) (hs:=hs)⟩
theorem ak(C:bY X.prog X.w X.K X.mg X.base x ps k sp)(hr:b9 k X.A)(hg:Gl X x)(ha:QA X (e::es) t)(hdb:(x==("__debug__" : Str))=false:=by decide) (he:starEach (e::es) X.env=(false,eval e X.env)::starEach es X.env:=by rfl)(hpl:(backTo pos (starEach es X.env)).any (·.1)=false:=by rfl) :
  QE X (.Call (.Name x p) (e::es) [] pos) (wY sp t):=⟨xH (C:=C) (hr:=hr) (hg:=hg) (ha:=ha.h) (hdb:=hdb) (he:=he) (hpl:=hpl)⟩
theorem aD(hc:dg X (.builtin id) r)(hg:Gl X x)(hm:X.mg x=none)(hv:bootBuiltins x=some (.builtin id))(ha:QA X (e::es) t)(hn:x ≠ "__name__":=by decide) (hdb:(x==("__debug__" : Str))=false:=by decide) (he:starEach (e::es) X.env=(false,eval e X.env)::starEach es X.env:=by rfl)(hpl:(backTo pos (starEach es X.env)).any (·.1)=false:=by rfl):QE X (.Call (.Name x p) (e::es) [] pos) (u8 r t):=⟨sO (hc:=hc) (hg:=hg) (hm:=hm) (hv:=hv) (ha:=ha.h) (hn:=hn) (hdb:=hdb) (he:=he) (hpl:=hpl)⟩
theorem qO(hc:dg X (.type T) r)(hg:Gl X x)(hm:X.mg x=none)(hv:bootBuiltins x=some (.type T))(ha:QA X (e::es) t)(hn:x ≠ "__name__":=by decide) (hdb:(x==("__debug__" : Str))=false:=by decide) (he:starEach (e::es) X.env=(false,eval e X.env)::starEach es X.env:=by rfl)(hpl:(backTo pos (starEach es X.env)).any (·.1)=false:=by rfl):QE X (.Call (.Name x p) (e::es) [] pos) (u8 r t):=⟨qM (hc:=hc) (hg:=hg) (hm:=hm) (hv:=hv) (ha:=ha.h) (hn:=hn) (hdb:=hdb) (he:=he) (hpl:=hpl)⟩
theorem j9(pa:PlainAttrs T)(slot:Slot T name id)(hty:typeOf (.builtin id)=pure (.type "method_descriptor")) (hm:AQ X id r)(ho:QE X o to)(ha:QA X (e::es) t)(hbase:attributeBase o name X.env (eval o X.env)=eval o X.env:=by rfl)(hfew:((backTo cpos (starEach (e::es) X.env)).all (λx=>!x.1) && (backToKw cpos (keywordEach [] X.env)).all (λx=>x.1.isSome)
   && decide ((e::es).length+([]:List Keyword).length+(if ([]:List Keyword).isEmpty then 0 else 1)<30))=true:=by rfl) (hline:(apos.endLine==cpos.line)=true:=by rfl)(hs:starEach (e::es) X.env=(false,eval e X.env)::starEach es X.env:=by rfl)(hplain:(backTo cpos (starEach es X.env)).any (·.1)=false:=by rfl) :
  QE X (.Call (.Attribute o name apos) (e::es) [] cpos) (AD X.K T r to t):=⟨zY (pa:=pa) (slot:=slot) (hty:=hty) (hm:=hm) (ho:=ho.h) (ha:=ha.h) (hbase:=hbase) (hfew:=hfew) (hline:=hline) (hs:=hs) (hplain:=hplain)⟩
theorem ac  : QA X [] uO:=⟨xu ⟩
theorem aa(ha:QE X e te)(hr:QA X es t)(hs:starEach (e::es) X.env=(false,eval e X.env)::starEach es X.env:=by rfl):QA X (e::es) (rW te t):=⟨uW (ha:=ha.h) (hr:=hr.h) (hs:=hs)⟩
theorem aB{op:CmpOp}{r:R2}(ho:cV X (compareOp op) r)(ha:QE X a ta)(hb:QE X b tb)(hm:behindInMarks op b=false):QT X (.Compare a [op] [b] pos) (pP (uH r ta tb)):=⟨wf (ho:=ho) (ha:=ha.h) (hb:=hb.h) (hm:=hm)⟩
theorem f7(ha:QT X a tA):QT X (.UnaryOp .Not a pos) (xF tA):=⟨xh (ha:=ha.h)⟩
theorem QW.pt{X:Cx}{e:Expr}{t:TT}(h:QW X e t):QT X e t:=⟨PW.pt (h:=h.h)⟩
theorem iL(ha:QT X a tA):QW X (.BoolOp .And [a] pos) tA:=⟨vD (ha:=ha.h)⟩
theorem kq(ha:QT X a tA)(hb:QW X (.BoolOp .And (b::cG) pos) tB'):QW X (.BoolOp .And (a::b::cG) pos) (xJ tA tB'):=⟨ye (ha:=ha.h) (hb:=hb.h)⟩
theorem og(ha:QT X a tA):QW X (.BoolOp .Or [a] pos) tA:=⟨xC (ha:=ha.h)⟩
theorem se(ha:QT X a tA)(hb:QW X (.BoolOp .Or (b::cG) pos) tB'):QW X (.BoolOp .Or (a::b::cG) pos) (AM tA tB'):=⟨zk (ha:=ha.h) (hb:=hb.h)⟩
theorem eg(ha:QE X a ta)(he:∀whole,isTrue a X.env whole=(do let v <-whole;standAt a.pos;holding [v] (truthy v))) :
  QT X a (λσ H Q=>ta σ H λx H'=>∃k,nE X.K x H' k/\Q k H'):=⟨tu (ha:=ha.h) (he:=he)⟩
theorem fh{e:Expr}{t:TE}(h:QE X e t)(he:∀whole,isTrue e X.env whole=(do let v <-whole;standAt e.pos;holding [v] (truthy v)):=by intro _;rfl):QT X e (tB t):=⟨xa (h:=h.h) (he:=he)⟩
theorem ay{i:Nat}{x:Str}(hN:X.N.Nodup)(hi:X.N[i]? = some x)(hx:ua X.env.scope x)(hf:X.fn x=true\/X.env.scope.names.lookup x=some .local:=by first|exact .inl rfl|exact .inr rfl|assumption):QG X (.Name x pos) (dR i):=⟨u6 (hN:=hN) (hi:=hi) (hx:=hx) (hf:=hf)⟩
theorem bQ{es:List Expr}{k:Nat}{t:re}{n:Nat}{pos:Pos}(hc:X.calm=true)(h:Ao X es t)(hn:(assignEach es X.env).length=n:=by rfl)(hst:(assignEach es X.env).findIdx? (·.1)=none:=by rfl):QG X (.Tuple es k pos) (fO X.K n t):=⟨vG (hc:=hc) (h:=h.h) (hn:=hn) (hst:=hst)⟩
theorem bS  : Ao X [] ny:=⟨wj ⟩
theorem aG{e:Expr}{es:List Expr}{t:TG}{u:re}(h1:QG X e t)(h2:Ao X es u)(hs:(assignEach (e::es) X.env).map (·.2)=assign e X.env::(assignEach es X.env).map (·.2):=by rfl):Ao X (e::es) (fQ t u):=⟨sd (h1:=h1.h) (h2:=h2.h) (hs:=hs)⟩
theorem sj{o i:Expr}{to ti:TE}{t:m8}(ho:QE X o to)(hi:QE X i ti)(hs:qH X t)(ha:∀v,assign (.Subscript o i pos) X.env v=(do
   let ov <-holding [v] (eval o X.env)
   let iv <-holding [v,ov] (eval i X.env)
   standAt pos
   holding [v,ov,iv] (setItem ov iv v)
   release [v,ov,iv] []):=by intro _;rfl):QG X (.Subscript o i pos) (xN to ti t):=⟨yB (ho:=ho.h) (hi:=hi.h) (hs:=hs) (ha:=ha)⟩
theorem dz{a:Expr}{ta:TA}{p pos:Pos}(hg:Gl X "range") (hm:X.mg "range" = none) (ha:QA X [a] ta)(hs:starEach [a] X.env=[(false,eval a X.env)]:=by rfl):QI X tg (.Call (.Name "range" p) [a] [] pos) (qg ta):=⟨qi (hg:=hg) (hm:=hm) (ha:=ha.h) (hs:=hs)⟩
theorem dy{l:Expr}{tl:TE}(hl:QE X l tl):QI X tg l (pj X.K tl):=⟨vJ (hl:=hl.h)⟩
theorem aq(he:QE X e te):QS X (.Return (some e) pos) (xP te):=⟨yx (he:=he.h)⟩
theorem cv(he:QE X e te)(hs:swapsWith e none pos.line X.env=pure false:=by rfl):QS X (.Expr e pos) (sL te):=⟨vq (he:=he.h) (hs:=hs)⟩
theorem aW{c:Expr}{a b:List Stmt}{tc:TT}(hc:QT X c tc)(ha:qb X a t)(hb:qb X b u):QS X (.If c a b pos) (wU tc t u):=⟨zh (hc:=hc.h) (ha:=ha.h) (hb:=hb.h)⟩
theorem fi{c:Expr}{body:List Stmt}{tc:TT}{tb:TS}(hp:PassesOwn (model X.prog X.w) X.A X.env X.xe)(hc:QT X c tc)(hb:qb X body tb):QS X (.While c body [] pos) (rG tc tb):=⟨tZ (hp:=hp) (hc:=hc.h) (hb:=hb.h)⟩
theorem dH{iter:Expr}{body:List Stmt}{wi:TI}{g:TG}{tb:TS}{pos:Pos}(hp:PassesOwn (model X.prog X.w) X.A X.env X.xe)(hc:X.calm=true)(hi:QI X tg iter wi)(hg:QG X tg g)(hb:qb X body tb)(hs:∀x,foldedSetIterable iter X.env x=pure x:=by intro _;rfl):QS X (.For tg iter body [] pos) (xx wi g tb):=⟨yn (hp:=hp) (hc:=hc) (hi:=hi.h) (hg:=hg.h) (hb:=hb.h) (hs:=hs)⟩
theorem az{i:Nat}{x:Str}{e:Expr}{te:TE}{pos':Pos}(hN:X.N.Nodup)(hi:X.N[i]? = some x)(hx:ua X.env.scope x)(he:QE X e te)(hs:swapsWith e (some (.Name x pos')) pos.line X.env=pure false:=by rfl)(hf:X.fn x=true\/X.env.scope.names.lookup x=some .local:=by first|exact .inl rfl|exact .inr rfl|assumption) :
  QS X (.Assign [.Name x pos'] e pos) (m6 te (dR i)):=⟨yj (hN:=hN) (hi:=hi) (hx:=hx) (he:=he.h) (hs:=hs) (hf:=hf)⟩
theorem ou{i j:Nat}{x y:Str}{a b:Expr}{ta:TA}{px py pt:Pos} {kt k2 pt2}(hc:X.calm=true)(hN:X.N.Nodup)(hi:X.N[i]? = some x)(hj:X.N[j]? = some y)(hij:i≠j)(hx:X.env.scope.names.lookup x=some .local)(hy:X.env.scope.names.lookup y=some .local)(ha:QA X [a,b] ta)(hw:swappedStores [.Tuple [.Name x px,.Name y py] kt pt] (.Tuple [a,b] k2 pt2) X.env=pure (some [x,y]))(hs:swapsWithSole [.Tuple [.Name x px,.Name y py] kt pt] (.Tuple [a,b] k2 pt2) pos.line X.env=pure false:=by rfl) :
  QS X (.Assign [.Tuple [.Name x px,.Name y py] kt pt] (.Tuple [a,b] k2 pt2) pos) (vM i j ta):=⟨yD (hc:=hc) (hN:=hN) (hi:=hi) (hj:=hj) (hij:=hij) (hx:=hx) (hy:=hy) (ha:=ha.h) (hw:=hw) (hs:=hs)⟩
theorem ff{tg e:Expr}{te:TE}{g:TG}(he:QE X e te)(hg:QG X tg g)(hs:swapsWithSole [tg] e pos.line X.env=pure false:=by rfl)(hw:swappedStores [tg] e X.env=pure none:=by rfl)(h1:(assignEach [tg] X.env).map (·.2)=[assign tg X.env]:=by rfl):QS X (.Assign [tg] e pos) (m6 te g):=⟨xD (he:=he.h) (hg:=hg.h) (hs:=hs) (hw:=hw) (h1:=h1)⟩
theorem k9{i:Nat}{x:Str}{e:Expr}{te:TE}{op:Operator}{ti:ub}{pos':Pos}(hN:X.N.Nodup)(hi:X.N[i]? = some x)(hx:ua X.env.scope x)(he:QE X e te)(ho:yi X op ti)(hf:X.fn x=true\/X.env.scope.names.lookup x=some .local:=by first|exact .inl rfl|exact .inr rfl|assumption) :
  QS X (.AugAssign (.Name x pos') op e pos) (yf i te ti):=⟨yH (hN:=hN) (hi:=hi) (hx:=hx) (he:=he.h) (ho:=ho) (hf:=hf)⟩
theorem oH{o i e:Expr}{to ti te:TE}{tget:V->V->Hp->VK->Prop}{tip:ub}{tset:m8}{op:Operator}{tpos:Pos}(ho:QE X o to)(hi:QE X i ti)(hg:wV X tget)(he:QE X e te)(hp:yi X op tip)(hs:qH X tset)(ha:∀ov iv new,augStore i ov iv new=(do holding [new,ov,iv] (setItem ov iv new);release [new,ov,iv] [];pure .next):=by intros;rfl):QS X (.AugAssign (.Subscript o i tpos) op e pos) (pR to ti te tget tip tset):=⟨vW (ho:=ho.h) (hi:=hi.h) (hg:=hg) (he:=he.h) (hp:=hp) (hs:=hs) (ha:=ha)⟩
theorem aC  : qb X [] sX:=⟨vN ⟩
theorem ag(h1:QS X st t):qb X [st] t:=⟨vo (h1:=h1.h)⟩
theorem af(h1:QS X st t)(h2:qb X rest' u):qb X (st::rest') (aU t u):=⟨sA (h1:=h1.h) (h2:=h2.h)⟩
theorem fE{X:Cx}{st:Stmt}{rest':List Stmt}{t u:TS}(h1:QS X st t)(h2:qb X rest' u):qb X (st::rest') (jI t u):=⟨vg (h1:=h1.h) (h2:=h2.h)⟩
theorem e8{X:Cx}:QF X [] xG:=⟨yC ⟩
theorem xm{X:Cx}{c:Expr}{t:TT}(h:QT X c t):QF X [c] t:=⟨wZ (h:=h.h)⟩
theorem qv(i:Nat){x:Str}{pos:Pos}(hN:X.N[i]? = some x:=by rfl)(hv:zp X.env.scope x:=by first|exact Or.inl rfl|exact Or.inr (Or.inl rfl)|exact Or.inr (Or.inr rfl))(hd:(x==("__debug__" : Str))=false:=by decide) (hcd:(x==("__classdict__" : Str))=false:=by decide):QE X (.Name x pos) (uk i):=⟨pv (i:=i) (hN:=hN) (hv:=hv) (hd:=hd) (hcd:=hcd)⟩
theorem dO{tg iter elt:Expr}{ifs:List Expr}{scope:Scope}{wi:TI}{g:TG}{tif:TT}{te:TE}{cl:List (Str×Addr)}{own outs:List Str}{ixs:List Nat}
  (hc:X.calm=true)(hi:QI X tg iter wi)(hclos:closureFor scope X.env=pure cl)(S:jt X scope cl own outs ixs)
  (hb:∀C s H ex,QG (io X scope cl (own++outs) C s H ex) tg g/\QF (io X scope cl (own++outs) C s H ex) ifs tif/\QE (io X scope cl (own++outs) C s H ex) elt te)
  (hs:∀x,foldedSetIterable iter X.env x=pure x:=by intro _;rfl):QE X (.ListComp elt [⟨tg,iter,ifs,0⟩] scope pos) (mL X.K wi own.length ixs g tif te) :=
 ⟨vj hc hi.h hclos S (λC s H ex=>⟨(hb C s H ex).1.h,(hb C s H ex).2.1.h,(hb C s H ex).2.2.h⟩) hs⟩
theorem wd{tg iter elt:Expr}{ifs:List Expr}{scope:Scope}{spos py:Pos}{y:Str}{i:Nat}{wi:TI}{g:TG}{tif:TT}{te:TE}{cl:List (Str×Addr)}{own outs:List Str}{ixs:List Nat}
  (hN:X.N.Nodup)(hy:X.N[i]? = some y)(hx:ua X.env.scope y)(hc:X.calm=true)(hi:QI X tg iter wi)(hclos:closureFor scope X.env=pure cl)(S:jt X scope cl own outs ixs)
  (hb:∀C s H ex,QG (io X scope cl (own++outs) C s H ex) tg g/\QF (io X scope cl (own++outs) C s H ex) ifs tif/\QE (io X scope cl (own++outs) C s H ex) elt te)
  (hsw:swapsWith (.ListComp elt [⟨tg,iter,ifs,0⟩] scope pos) (some (.Name y py)) spos.line X.env=pure true:=by rfl)
  (hs:∀x,foldedSetIterable iter X.env x=pure x:=by intro _;rfl)(hf:X.fn y=true\/X.env.scope.names.lookup y=some .local:=by first|exact .inl rfl|exact .inr rfl|assumption) :
  QS X (.Assign [.Name y py] (.ListComp elt [⟨tg,iter,ifs,0⟩] scope pos) spos) (m6 (mL X.K wi own.length ixs g tif te) (dR i)) :=
 ⟨ve hN hy hx hc hi.h hclos S (λC s H ex=>⟨(hb C s H ex).1.h,(hb C s H ex).2.1.h,(hb C s H ex).2.2.h⟩) hsw hs hf⟩
end
section
variable {P:Program}{w:World}{K:W.Frag}{mg:Str->Option Value}{base:Heap}
theorem cn.okQ{x qual:Str}{st:Stmt}{f:Addr}{fd:FuncData}{N ps:List Str}{k:Nat}{sp:Sp}(F:cn K x qual st f fd)(S:ar N ps (ai st))(len:∀vs H Q E,sp vs H Q E->vs.length=ps.length)
  (hbody:∀(cdv:Value)(A:Around)(outer:List Env)(s:Shared)(H:Hp)(vs:List V)(Q:VK)(E:XK),b9 k (A.deeper (envOfC qual (ai st) s.heap.objs.size f cdv))->sp vs H Q E ->
   ∃t,qb (fM cA P w K mg base N qual (ai st) f cdv A outer s H E).nox (bj st) t/\t { nx:=λ_ H'=>Q .non H',rt:=Q } (start N vs) H):aR P w K mg base cA (k+1) f fd ps sp :=
 F.ok S len λcdv A outer s H vs Q E hr h=>(hbody cdv A outer s H vs Q E hr h).imp λt z=>⟨z.1.h,z.2⟩
end
section
variable {X:Cx}{pins:List (Addr×Obj)}{σ:St}{H:Hp}{s:Shared}{h':Heap}
theorem au.turnT{t':Nat}{ch:List Addr}{T:Addr}{xs:List V}{its:List Value}(I:au X pins σ H s)(k:∀b o,b∉ch->s.heap.get? b=some o->h'.get? b=some o)(hf:∀b∈ch,gU X pins H b)
  (hT:s.heap.objs.size<=T)(hz:xs.length<=sizeLine)(rv:aJ xs its)(ht:IsTup h' T its.toArray):au X pins σ (upd H T (.tup xs)) { s with heap:=h',toks:=t' }:=by
 have hn:H T=none:=I.hok.fresh hT;have nT:∀b o,s.heap.get? b=some o->b≠T:=λb o e=>Jf (Jd (Heap.lt_size e) hT);refine I.step (g':=s.gens) (d':=s.drawn) (ch:=ch) (λb hb=>?_) (λb o _ _ hc e _=>k b o hc e) (λb o _ _ hc e _=>⟨o.slots,k b o hc e⟩) (λb o _ e n=>?_)
  (λb o hc e=>⟨o,k b o hc e⟩) (λb ys e=>?_) (λb o u e=>?_) (λb ps e=>⟨#[],?_⟩) (λm hm=>?_) (λb u e=>?_) I.bare
 .obtain⟨_,f1,_,f3,f4,f5⟩:=hf b hb;exact⟨f3,f1,f4,f5⟩
 .rw[aQ (nT b o e)];exact n
 .rw[aQ (aj e hn)];exact e
 .rw[aQ (aj e hn)];exact e
 .rw[aQ (aj e hn),e];simp
 .obtain⟨o,es,ep,ho,r⟩:=hm;exact⟨o,es,ep,k _ o (λz=>(hf _ z).2.1 rfl) ho,r⟩
 .by_cases hb:b=T
  .subst hb;rw[a9] at e;cases e;exact⟨hz,its,rv,ht⟩
  .rw[aQ hb] at e;have nch:∀c v,H c=some v->c∉ch:=λc v z hc=>by
    rw[(hf c hc).1] at z;cases z
   refine (I.hok b u e).stay (λc v hc q=>k c v ?_ q) (λc q=>?_) λc ys q=>?_
   .rcases hc with z|z
    .rw[z];exact nch b u e
    .exact nch c _ z
   .rw[aQ (aj q hn)];exact q
   .rw[aQ (aj q hn)];exact q
end
def xc(K:W.Frag)(R:Hp->List (List V)->Prop):It :=
 ⟨λi H=>∃ys t,R H ys/\ys[i]? = some t,λi H x H'=>∃p t,x=.ref p/\vw K H p=none/\aw (vw K H) (vw K H')/\vw K H' p=some (.tup t) /\ ∀ys,R H ys->ys[i]? = some t,λi H=>∃ys,R H ys/\ys.length=i⟩
def rN(K:W.Frag)(a:Addr):Hp->List (List V)->Prop:=λH ys=>∃xs,H a=some (.lst xs)/\ys=xs.mapIdx λi x=>[V.int i,x]
theorem qJ{P:Program}{w:World}{K:W.Frag}{elts:List Expr}{x1:Nat}{pos:Pos}(a e it:Addr)(hne:e≠it)(ha:a≠e)(ha2:a≠it) :
  sJ P w K (.Tuple elts x1 pos) (xc K (rN K a)) [e,it] e (λi h=>(∃old,IsEnum h e it (i:Int) old)/\h.IsListIter it a i) where
 mem:=by simp
 obj:=λi h st b hb=>by
  obtain⟨⟨old,h1⟩,o,h2,c,d⟩:=st;simp only[JL,JM,JN] at hb;rcases hb with rfl|rfl
  .exact⟨_,h1,λv z=>by cases z⟩
  .exact⟨o,h2,λv z=>by rw[d] at z;cases z⟩
 keep:=λi h h' st k=>by
  obtain⟨⟨old,h1⟩,h2⟩:=st;exact⟨⟨old,k e (by simp) _ h1⟩,h2.at λo z=>k it (by simp) o z⟩
 item:=by
  intro X hP hw hK hc i pins s σ H E I hf st hg;subst hP hw hK;obtain⟨⟨old,h1⟩,h2⟩:=st;obtain⟨ys,t,⟨xs,hxs,rfl⟩,ht⟩:=hg;rw[List.getElem?_mapIdx] at ht;cases hx:xs[i]? with
  | none=>rw[hx] at ht;cases ht
  | some x =>
   rw[hx] at ht;cases ht;obtain⟨its,rv,p,hz⟩:=I.list (f6.of (K:=X.K) hxs);obtain⟨u,hu,ru⟩:=rv.get hx;refine wpAny_pyNext_enum_item h1 h2 p.isList (x:=u) (by simpa using hu) hne λh3 heo hit ht3 hz3 hk3=>⟨_,rfl,?_⟩
   refine wpAny_letOwnedTupleGo_enum (s:={ s with heap:=h3,toks:=s.toks+1 }) heo λh4 he4 hs4=>?_
   have hes:e<s.heap.objs.size:=Heap.lt_size h1;have ht4:=hs4.extBut _ _ (Nat.ne_of_gt hes) ht3;have k4:∀b o,b∉[e,it]->s.heap.get? b=some o->h4.get? b=some o:=λb o hb z=>by
    simp only[JL,JM,JN,not_or] at hb;exact hs4.extBut _ _ hb.1 (hk3 b o hb.1 hb.2 z)
   have I4:au X pins σ (upd H s.heap.objs.size (.tup [.int i,x])) { s with heap:=h4,toks:=s.toks+1 } :=
    I.turnT (its:=[.int i s.toks,u]) k4 hf (Jl _) (show 2<=sizeLine by decide) (.cons ⟨_,rfl⟩ (.cons ru .nil)) ⟨_,ht4,rfl,_,rfl⟩
   have fr:=I.hok.fresh (Jl s.heap.objs.size);have nk:=I.newK (Jl s.heap.objs.size);refine⟨.ref s.heap.objs.size,_,I4,rfl,⟨_,_,rfl,by rw[bv nk];exact fr,gn (aw.upd fr),by rw[bv nk];exact a9,?_⟩,⟨⟨_,he4⟩,hit.extBut hs4.extBut hne.symm⟩,λb hb=>?_⟩
   .rintro ys ⟨zs,hzs,rfl⟩;rw[hxs] at hzs;cases hzs;rw[List.getElem?_mapIdx,hx];rfl
   .have:b<s.heap.objs.size:=by
     simp only[JL,JM,JN] at hb;rcases hb with rfl|rfl
     .exact hes
     .obtain⟨_,z,_⟩:=h2;exact Heap.lt_size z
    rw[aQ (Jf this)];exact (hf b hb).1
 done:=by
  intro X hP hw hK hc i pins s σ H E I hf st hg;subst hP hw hK;obtain⟨⟨old,h1⟩,h2⟩:=st;obtain⟨ys,⟨xs,hxs,rfl⟩,hl⟩:=hg;obtain⟨its,rv,p,hz⟩:=I.list (f6.of (K:=X.K) hxs);have hl':=rv.length;rw[List.length_mapIdx] at hl;obtain⟨f0,f1,f2,f3,f4,f5⟩:=hf it (by simp)
  exact wpAny_pyNext_enum_end (I.ok.hd hc) h1 h2 p.isList (by simp;nofun) λh' eb=>⟨rfl,I.turned (t':=s.toks) (λb o hb z=>eb b o hb z) f0 f1 f3 f4 f5⟩
 self:=λ_ _ _ _ _ st h=>by
  obtain⟨⟨old,h1⟩,_⟩:=st;exact wpAny_pyIter_enum h1 h
def mG(K:W.Frag)(ta:TA):TI:=λσ H R=>ta σ H λvs H1=>∃a,vs=[.ref a]/\(∃xs,vw K H1 a=some (.lst xs))/\R (xc K (rN K a)) H1
theorem vO{X:Cx}{elts:List Expr}{x1:Nat}{tp p pos:Pos}{a:Expr}{ta:TA}(hg:Gl X "enumerate") (hm:X.mg "enumerate" = none) (ha:PA X [a] ta)(hs:starEach [a] X.env=[(false,eval a X.env)]:=by rfl) :
  PI X (.Tuple elts x1 tp) (.Call (.Name "enumerate" p) [a] [] pos) (mG X.K ta):=by
 intro pins s σ H R I h;refine Call_ (jr I hg hm kU (PyProof.Rows.callWith_type1 (bi (ha pos pins s σ H _ I h) λus s1 ⟨vs,H1,I1,r1,q1⟩=>?_) hs rfl));obtain⟨b,e,⟨xs,hx⟩,q⟩:=q1;subst e;cases r1 with
 | cons r rr =>
  cases rr;cases r;have hx':=aI hx;obtain⟨hz,its,n,rv,ho⟩:=I1.hok b _ hx';refine call_enumerate_1 ho λh2 he hit hsz hk=>?_;refine wpAny_pyIter_enum (s:={ s1 with heap:=h2 }) he ?_
  have hb:b<s1.heap.objs.size:=Heap.lt_size ho;refine⟨_,[s1.heap.objs.size+1,s1.heap.objs.size],_,_,H1,rfl,I1.kept (t':=s1.toks) hk,qJ b _ _ (Nat.ne_of_gt (Nat.lt_succ_self _)) (Jf (Nat.lt_succ_of_lt hb)) (Jf hb),⟨⟨_,he⟩,hit⟩,λc hc=>?_,q⟩;have hc':s1.heap.objs.size<=c:=by
   simp only[JL,JM,JN] at hc;rcases hc with z|z
   .rw[z];exact Nat.le_succ _
   .rw[z];exact Jl _
  exact I1.fpOk hc' (I1.hok.fresh hc')
theorem me{K:W.Frag}{R:Hp->List (List V)->Prop}{rows:List (List V)}{g:TG}{tb:TS}{D:iC}{σ:St}{H:Hp}(Pv:Nat->St->Hp->Prop)(hl:∀i σ H,i<=rows.length->Pv i σ H->R H rows)(h0:Pv 0 σ H)
  (hs:∀i t σ H p H',i<rows.length->rows[i]? = some t->Pv i σ H->vw K H p=none->aw (vw K H) (vw K H')->vw K H' p=some (.tup t)->g (.ref p) σ H' λσ2 H2=>tb { D with nx:=Pv (i+1),ct:=Pv (i+1),bk:=D.nx } σ2 H2)
  (hd:∀σ H,Pv rows.length σ H->D.nx σ H):oP (xc K R) g tb D σ H:=by
 refine⟨λi m σ H=>m=rows.length-i/\i<=rows.length/\Pv i σ H,⟨rows.length,by simp,Js _,h0⟩,?_⟩
 rintro i m σ H ⟨rfl,hi,p⟩;have q:=hl i σ H hi p;by_cases hlt:i<rows.length
 .refine .inr ⟨⟨rows,rows[i],q,by simp[hlt]⟩,Pv (i+1),λσ' H' p'=>⟨rows.length-(i+1),(),rfl,hlt,p'⟩,λx H' y=>?_⟩
  obtain⟨a,t,rfl,y1,y2,y3,y4⟩:=y;exact hs i t σ H a H' hlt (y4 rows q) p y1 y2 y3
 .have e:i=rows.length:=();subst e;exact .inl ⟨⟨rows,q,rfl⟩,hd σ H p⟩
theorem k8{X:Cx}{elts:List Expr}{x1:Nat}{tp p pos:Pos}{a:Expr}{ta:TA}(hg:Gl X "enumerate") (hm:X.mg "enumerate" = none) (ha:QA X [a] ta)(hs:starEach [a] X.env=[(false,eval a X.env)]:=by rfl) :
  QI X (.Tuple elts x1 tp) (.Call (.Name "enumerate" p) [a] [] pos) (mG X.K ta):=⟨vO hg hm ha.h hs⟩
def Bq(n:Nat)(q:Int×Int):Prop:=Bt n q.1/\Bt n q.2
theorem Bq.mono{m n:Nat}{q:Int×Int}(h:Bq m q)(hl:m<=n):Bq n q:=⟨h.1.mono hl,h.2.mono hl⟩
def zW(p q:Int×Int):Bool:=decide (p.1*q.2<q.1*p.2)
def lG(p q:Int×Int):Int×Int:=lo (p.1*q.2+q.1*p.2) (p.2*q.2)
theorem sZ{a b:Int}(hb:0<b):0<lg a b:=by
 unfold lg;rw[Jc ()];have:Int.gcd a b≠0:=λe=>by
  have:=(Int.gcd_eq_zero_iff.mp e).2;nofun
 nofun
theorem mP{a b:Int}{n:Nat}(hb:b≠0)(h1:Bt n a)(h2:Bt n b):Bq n (lo a b):=by
 have e1:=cj (a:=a) hb;have e2:=cr (a:=a) hb;have hl:0<(lg a b).natAbs:=by have:=sI (a:=a) hb;nofun
 constructor
 .unfold Bt at *
  have:=JJ (lo a b).1 (lg a b);rw[e1] at this;have:=JO (lo a b).1.natAbs hl;nofun
 .unfold Bt at *
  have:=JJ (lo a b).2 (lg a b);rw[e2] at this;have:=JO (lo a b).2.natAbs hl;nofun
theorem pI{p q:Int×Int}(hp:Fq p)(hq:Fq q):Fq (lG p q):=fk (by have:=JP hp.1 hq.1;nofun)
theorem uY{p q:Int×Int}(hp:Fq p)(hq:Fq q)(h0:0<q.1):zW p (lG p q)=true:=by
 have hd:0<p.2*q.2:=JP hp.1 hq.1;have hb:p.2*q.2≠0:=();have e1:=cj (a:=p.1*q.2+q.1*p.2) hb;have e2:=cr (a:=p.1*q.2+q.1*p.2) hb;have hg:=sZ (a:=p.1*q.2+q.1*p.2) hd;unfold zW lG;generalize lo (p.1*q.2+q.1*p.2) (p.2*q.2)=r at *
 generalize lg (p.1*q.2+q.1*p.2) (p.2*q.2)=g at *
 apply decide_eq_true
 apply Int.lt_of_mul_lt_mul_right _ (JH hg)
 have z1:p.1*r.2*g=p.1*(p.2*q.2):=by rw[Int.mul_assoc,e2]
 have z2:r.1*p.2*g=(p.1*q.2+q.1*p.2)*p.2:=by rw[<-e1];rw[Int.mul_right_comm]
 rw[z1,z2];have hq2:0<q.1*p.2*p.2:=JP (JP h0 hp.1) hp.1;have z3:(p.1*q.2+q.1*p.2)*p.2=p.1*(p.2*q.2)+q.1*p.2*p.2:=by
  rw[Int.add_mul,Int.mul_assoc p.1 q.2 p.2,JQ q.2 p.2]
 nofun
theorem pi{p q:Int×Int}{m n:Nat}(hp:Fq p)(hq:Fq q)(h1:Bq m p)(h2:Bq n q):Bq (m+n+1) (lG p q):=by
 refine mP (by have:=JP hp.1 hq.1;nofun) ?_ ?_
 .have:=(h1.1.mul h2.2).add (h2.1.mul h1.2);exact this.mono ()
 .exact (h1.2.mul h2.2).mono ()
def eY(G:Hp)(a:Addr)(ds:List D):Prop:=∃xs,G a=some (.lst xs)/\av G ds xs
section
variable {G G':Hp}{a l:Addr}{ds:List D}{xs:List V}
theorem eY.same(h:eY G a ds)(S:aw G G'):eY G' a ds:=by
 obtain⟨ys,h1,h2⟩:=h;exact⟨ys,S _ _ h1,h2.same S⟩
theorem eY.but(h:eY G a ds)(hf:D.flats ds=true)(hl:G l=some (.lst xs))(hn:a≠l)(S:c9 l G G'):eY G' a ds:=by
 obtain⟨ys,h1,h2⟩:=h;exact⟨ys,S _ _ hn h1,av.flat_but hl S _ _ hf h2⟩
theorem eY.ne_st{st:Addr}(h:eY G a ds)(hd:∀i b,ds≠[.int i,.bl b])(hst:bV G st):a≠st:=by
 rintro rfl;obtain⟨ys,h1,h2⟩:=h;obtain⟨x,b,h3,_⟩:=hst;rw[h1] at h3;cases h3;exact hd _ _ (aA.lst_st h2)
theorem eY.stBut{st:Addr}(h:eY G a ds)(hf:D.flats ds=true)(hd:∀i b,ds≠[.int i,.bl b])(hst:bV G st)(S:c9 st G G'):eY G' a ds:=by
 obtain⟨x,b,h3,h4⟩:=id hst;exact h.but hf h3 (h.ne_st hd hst) S
end
theorem g9{K:W.Frag}{H:Hp}{p:Addr}{xs:List V}(h:vw K H p=some (.lst xs)):zG K "list" (.ref p) H:=.inl ⟨rfl,xs,.of (aI h)⟩
theorem eY.ty{K:W.Frag}{H:Hp}{p:Addr}{ds:List D}(h:eY (vw K H) p ds):zG K "list" (.ref p) H:=by
 obtain⟨xs,h,_⟩:=h;exact g9 h
abbrev lL:=(Int×Int)×(Int×Int)
def qZ(c:lL):D:=.tup [fr c.1,fr c.2]
theorem eA:∀(cs:List lL),D.flats (cs.map qZ)=true
 | []=>by simp[D.flats]
 | c::cs=>by
  rw[Jq];unfold D.flats;rw[eA cs];simp[qZ,D.flat,D.flats,aY]
theorem ol(cs:List lL):∀i b,cs.map qZ≠[.int i,.bl b]:=λi b e=>by
 cases cs with
 | nil=>cases e
 | cons c cs =>
  rw[Jq] at e;have:=(List.cons.inj e).1;unfold qZ at this;cases this
theorem aA.spt_at{H:Hp}{c:lL}{v:V}(h:aA H (qZ c) v):∃a x y,v=.ref a/\H a=some (.tup [x,y])/\aA H (fr c.1) x/\aA H (fr c.2) y:=by
 obtain⟨a,xs,rfl,ha,r⟩:=h.tup_at;obtain⟨d1,d2,x1,x2,e1,rfl,r1,r2⟩:=r.pair (by rw[r.length];rfl)
 cases e1;exact⟨a,x1,x2,rfl,ha,r1,r2⟩
theorem aA.mk_spt{H:Hp}{c:lL}{a:Addr}{x y:V}(h:H a=some (.tup [x,y]))(h1:aA H (fr c.1) x)(h2:aA H (fr c.2) y):aA H (qZ c) (.ref a):=.mk_tup h (.mk_cons h1 (.mk_cons h2 .mk_nil))
section
variable {prog:Program}{w:World}{A:Around}{E:Value->Shared->Prop}{s:Shared}
theorem rz{it t:Addr}{i:Nat}{its:Array Value}{x:Value}{Q:Value->Shared->Prop}(a:s.heap.IsTupleIter it t i)(b:s.heap.IsTuple t its)(c:its[i]? = some x)
  (q:∀g,g.IsTupleIter it t (i+1)->Heap.SameBut it s.heap g->Q x { s with heap:=g }):wpAny (model prog w) A (Builtin.SmallTypes.nextOf (.ref it)) Q E s:=by
 obtain⟨u,a1,a2,a3⟩:=id a;obtain⟨v,b1,_,bn,b2⟩:=b;unfold Builtin.SmallTypes.nextOf;refine wpAny_bind (wpAny_callSpecial?_slot (name:=Str.ofString "__next__") a.typeIs F.slot_tuple_iterator_next (wpAny_call_entry F.slot_tuple_iterator_next a.typeIs F.entry_tuple_iterator_next ?_ (F.args_tuple_iterator_next_1 _)));show wpAny _ _ (field (.ref it) 0 >>= _) _ _ s;refine wpAny_bind (wpAny_field a1 a3 (x:=.ref t) rfl ?_);show wpAny _ _ (if (Value.ref t==Value.none)=true then _ else _) _ _ s;rw[Jc (show ¬ ((Value.ref t==Value.none)=true) from Jk)]
 show wpAny _ _ (field (.ref it) 1 >>= _) _ _ s;refine wpAny_bind (wpAny_field a1 a3 (x:=.int i 0) rfl ?_);show wpAny _ _ (seqItems? (.ref t) >>= _) _ _ s;refine wpAny_bind (wpAny_seqItems b1 b2 ?_);simp only[Int.toNat_natCast,c];refine wpAny_bind (wpAny_setField a1 a3 (by simp) (wpAny_pure ⟨x,rfl,wpAny_pure (q _ ?_ (Heap.SameBut.update ..))⟩))
 exact⟨_,Heap.get?_update_self _ a1 (Obj.isFreed_of_fields (Obj.data_mapFields a3 _)),(Obj.cls_mapFields ..).trans a2,by rw[Obj.data_mapFields a3];simp[rawInt]⟩
theorem kZ{it t:Addr}{i:Nat}{its:Array Value}{Q:Value->Shared->Prop}(hh:A.handled=none)(a:s.heap.IsTupleIter it t i)(b:s.heap.IsTuple t its)(c:its[i]? = none)
  (q:∀g e,Heap.ExtBut it s.heap g->(∃o,g.get? e=some o/\o.cls=.type "StopIteration")->E (.ref e) { s with heap:=g }):wpAny (model prog w) A (Builtin.SmallTypes.nextOf (.ref it)) Q E s:=by
 obtain⟨u,a1,a2,a3⟩:=id a;obtain⟨v,b1,_,bn,b2⟩:=b;unfold Builtin.SmallTypes.nextOf;refine wpAny_bind (wpAny_callSpecial?_slot (name:=Str.ofString "__next__") a.typeIs F.slot_tuple_iterator_next (wpAny_call_entry F.slot_tuple_iterator_next a.typeIs F.entry_tuple_iterator_next ?_ (F.args_tuple_iterator_next_1 _)));show wpAny _ _ (field (.ref it) 0 >>= _) _ _ s;refine wpAny_bind (wpAny_field a1 a3 (x:=.ref t) rfl ?_);show wpAny _ _ (if (Value.ref t==Value.none)=true then _ else _) _ _ s;rw[Jc (show ¬ ((Value.ref t==Value.none)=true) from Jk)]
 show wpAny _ _ (field (.ref it) 1 >>= _) _ _ s;refine wpAny_bind (wpAny_field a1 a3 (x:=.int i 0) rfl ?_);show wpAny _ _ (seqItems? (.ref t) >>= _) _ _ s;refine wpAny_bind (wpAny_seqItems b1 b2 ?_);simp only[Int.toNat_natCast,c];refine wpAny_bind (wpAny_rule (wpAny_bind (wpAny_setField a1 a3 (by simp) ?_)));show wpAny _ _ (newExc (.type "StopIteration") [] >>= _) _ _ _
 refine wpAny_bind ?_;simp only[newExc,newTuple];refine wpAny_bind (wpAny_newObj_type ?_ (by size_fits))
 refine wpAny_bind (m:=firstArgMember _ _) (wpAny_of_eq (a:=Value.none) (by first|rfl|(simp only[firstArgMember];rfl)) ?_);refine wpAny_newObj_type ?_ (by size_fits)
 simp only[raiseNew];refine wpAny_bind (wpAny_handled ?_)
 (first|rw[show A.in1.handled=none from hh]|rw[hh]);refine wpAny_bind (wpAny_pure (wpAny_throw ?_))
 exact q _ _ (((Heap.SameBut.update ..).extBut.push _).push _) ⟨_,Heap.get?_push_size _ rfl,rfl⟩
end
theorem qj{prog:Program}{w:World}{A:Around}(hh:A.handled=none)(it l:Addr)(hne:l≠it)(its:Array Value) :
  Draws prog w A it [it,l] its.size (λi v=>its[i]? = some v) (λi h=>h.IsTupleIter it l i/\h.IsTuple l its) where
 live:=λ_ _ st=>let ⟨o,ho,_⟩:=st.1;⟨o,ho⟩
 frame:=λ_ _ _ st hk=>⟨(let ⟨o,ho,r⟩:=st.1;⟨o,hk it (by simp) o ho,r⟩),(let ⟨o,ho,r⟩:=st.2;⟨o,hk l (by simp) o ho,r⟩)⟩
 item:=λi s Q E hi st q=>rz st.1 st.2 (x:=its[i]) (by simp[hi]) λg a b=>q _ g s.toks (by simp[hi]) ⟨a,st.2.extBut b.extBut hne⟩ b
 done:=λs Q E st q=>kZ hh st.1 st.2 (by simp) q
section
variable {prog:Program}{w:World}{A:Around}{E:Value->Shared->Prop}{s:Shared}{z TI TO i1 i2:Addr}{f1 f2:List Addr}{n1 n2 k:Nat}{P1 P2:Nat->Value->Prop}{T1 T2:Nat->Heap->Prop}{a b:Value}
structure g6 (z TI TO i1 i2:Addr)(f1 f2:List Addr):Prop where
 tiz:TI≠z
 toz:TO≠z
 tito:TI≠TO
 ti1:TI≠i1
 ti2:TI≠i2
 to1:TO≠i1
 to2:TO≠i2
 z1:z≠i1
 z2:z≠i2
 n12:i1≠i2
 zf1:z∉f1
 zf2:z∉f2
 tf1:TO∉f1
 tf2:TO∉f2
 if1:i2∉f1
 if2:i1∉f2
theorem qG{Q:Value->Shared->Prop}(D1:Draws prog w A i1 f1 n1 P1 T1)(D2:Draws prog w A i2 f2 n2 P2 T2)(Z:g6 z TI TO i1 i2 f1 f2)(hz:IsZip s.heap z TI TO .none)(hTI:IsPair s.heap TI (.ref i1) (.ref i2))(hTO:IsPair s.heap TO a b)
  (h1:T1 k s.heap)(h2:T2 k s.heap)(k1:k<n1)(k2:k<n2)
  (hQ:∀x y g tk,P1 k x->P2 k y->IsZip g z TI TO (rawInt s.heap.objs.size)->IsPair g TO x y->T1 (k+1) g->T2 (k+1) g->IsPair g s.heap.objs.size x y->g.objs.size=s.heap.objs.size+1 ->
   (∀c o,c∉[z,TO,i1,i2]->s.heap.get? c=some o->g.get? c=some o)->Q (.ref s.heap.objs.size) { s with heap:=g,toks:=tk }) :
  wpAny (model prog w) A (Builtin.«zip.__next__» ⟨[.ref z],[]⟩) (λfin s'=>∃v,fin=.done (.ret v)/\Q v s') E s:=by
 show wpAny _ _ (field (.ref z) 2 >>= _) _ _ _;refine wpAny_bind (wpAny_field hz rfl (x:=.bool false) rfl ?_);show wpAny _ _ (field (.ref z) 3 >>= _) _ _ _;refine wpAny_bind (wpAny_field hz rfl (x:=.ref TI) rfl ?_);refine wpAny_bind (wpAny_seqItems hTI rfl ?_);show wpAny _ _ (Builtin.SmallTypes.ownedTupleIsFree (.ref z) >>= _) _ _ _;refine wpAny_bind ?_;unfold Builtin.SmallTypes.ownedTupleIsFree;refine wpAny_bind (wpAny_field hz rfl (x:=.none) rfl (wpAny_pure ?_));simp only[if_true];refine wpAny_bind (wpAny_rule ?_);refine wpAny_bind (wpAny_field hz rfl (x:=.ref TO) rfl ?_);refine wpAny_bind (wpAny_setField_rec hz (by simp) λg1 hz1 s1=>?_)
 replace hz1:IsZip g1 z TI TO .ellipsis:=hz1;refine wpAny_bind ?_;simp only[List.zipIdx_cons,List.zipIdx_nil,List.forIn_cons,List.forIn_nil];refine wpAny_bind (wpAny_bind (wpAny_onRaise ?_));show wpAny _ _ (Builtin.SmallTypes.nextOf (.ref i1) >>= _) _ _ _;refine wpAny_bind (D1.item k _ _ _ k1 (D1.frame k _ _ h1 λc hc o e=>s1.extBut _ _ (λz'=>Z.zf1 (z'▸hc)) e) λx g2 tk2 p1 t1 s2=>wpAny_pure ?_);replace s2:Heap.SameBut i1 g1 g2:=s2;have hTO2:IsPair g2 TO a b:=s2.extBut _ _ Z.to1 (s1.extBut _ _ Z.toz hTO);refine wpAny_bind (wpAny_seqItems hTO2 rfl ?_);refine wpAny_bind (wpAny_updateSeq_pair hTO2 λg3 hTO3 s3=>?_);replace hTO3:IsPair g3 TO x b:=hTO3;replace s3:Heap.SameBut TO g2 g3:=s3;refine wpAny_bind (wpAny_letGo (wpAny_pure ?_));refine wpAny_bind (wpAny_bind (wpAny_onRaise ?_));show wpAny _ _ (Builtin.SmallTypes.nextOf (.ref i2) >>= _) _ _ _;have t2':T2 k g3:=D2.frame k _ _ h2 λc hc o e=>s3.extBut _ _ (λz'=>Z.tf2 (z'▸hc)) (s2.extBut _ _ (λz'=>Z.if2 (z'▸hc)) (s1.extBut _ _ (λz'=>Z.zf2 (z'▸hc)) e));refine wpAny_bind (D2.item k _ _ _ k2 t2' λy g4 tk4 p2 t2 s4=>wpAny_pure ?_);replace s4:Heap.SameBut i2 g3 g4:=s4;have hTO4:IsPair g4 TO x b:=s4.extBut _ _ Z.to2 hTO3;refine wpAny_bind (wpAny_seqItems hTO4 rfl ?_);refine wpAny_bind (wpAny_updateSeq_pair hTO4 λg5 hTO5 s5=>?_);replace hTO5:IsPair g5 TO x y:=hTO5;replace s5:Heap.SameBut TO g4 g5:=s5;refine wpAny_bind (wpAny_letGo (wpAny_pure (wpAny_pure ?_)));refine wpAny_bind (wpAny_seqItems hTO5 rfl ?_);refine wpAny_bind (wpAny_newTuple ?_);have hsz:g5.objs.size=s.heap.objs.size:=by rw[s5.1,s4.1,s3.1,s2.1,s1.1]
 have hz5:IsZip g5 z TI TO .ellipsis:=s5.extBut _ _ Z.toz.symm (s4.extBut _ _ Z.z2 (s3.extBut _ _ Z.toz.symm (s2.extBut _ _ Z.z1 hz1)));have k5:∀c o,c∉[z,TO,i1,i2]->s.heap.get? c=some o->g5.get? c=some o:=λc o hc e=>by
  simp only[JL,JM,JN,not_or] at hc;exact s5.extBut _ _ hc.2.1 (s4.extBut _ _ hc.2.2.2 (s3.extBut _ _ hc.2.1 (s2.extBut _ _ hc.2.2.1 (s1.extBut _ _ hc.1 e))))
 have t15:T1 (k+1) g5:=D1.frame _ _ _ t1 λc hc o e=>s5.extBut _ _ (λz'=>Z.tf1 (z'▸hc)) (s4.extBut _ _ (λz'=>Z.if1 (z'▸hc)) (s3.extBut _ _ (λz'=>Z.tf1 (z'▸hc)) e));have t25:T2 (k+1) g5:=D2.frame _ _ _ t2 λc hc o e=>s5.extBut _ _ (λz'=>Z.tf2 (z'▸hc)) e;have zlt:z<g5.objs.size:=Heap.lt_size hz5;show wpAny _ _ (Builtin.SmallTypes.ownedTupleHandOut (.ref z) (.ref g5.objs.size) >>= _) _ _ _;refine wpAny_bind ?_;unfold Builtin.SmallTypes.ownedTupleHandOut;have hz6:IsZip (g5.push { cls:=.type "tuple",data:=.seq #[x,y] }) z TI TO .ellipsis:=Heap.get?_push_of_some _ hz5;refine wpAny_bind (wpAny_setField_rec hz6 (by simp) λg7 hz7 s7=>?_)
 replace hz7:IsZip g7 z TI TO (rawInt g5.objs.size):=hz7;refine wpAny_setField_rec hz7 (by simp) λg8 hz8 s8=>?_
 replace hz8:IsZip g8 z TI TO (rawInt g5.objs.size):=hz8;have up:∀c o,c≠z->g5.get? c=some o->g8.get? c=some o:=λc o hc e=>s8.extBut _ _ hc (s7.extBut _ _ hc (Heap.get?_push_of_some _ e));have hT8:IsPair g8 g5.objs.size x y:=s8.extBut _ _ (Nat.ne_of_gt zlt) (s7.extBut _ _ (Nat.ne_of_gt zlt) (Heap.get?_push_size _ rfl));have hn8:g8.objs.size=g5.objs.size+1:=by rw[s8.1,s7.1,Heap.size_push]
 rw[hsz] at hz8 hT8 hn8;refine wpAny_pure ⟨_,rfl,?_⟩;show Q (.ref g5.objs.size) _;rw[hsz];exact hQ x y g8 _ p1 p2 hz8 (up _ _ Z.toz hTO5) (D1.frame _ _ _ t15 λc hc o e=>up c o (λz'=>Z.zf1 (z'▸hc)) e) (D2.frame _ _ _ t25 λc hc o e=>up c o (λz'=>Z.zf2 (z'▸hc)) e) hT8 hn8
  λc o hc e=>up c o (λz'=>hc (by simp[z'])) (k5 c o hc e)
theorem tX{Q:Fin->Shared->Prop}(D1:Draws prog w A i1 f1 n1 P1 T1)(D2:Draws prog w A i2 f2 n2 P2 T2)(Z:g6 z TI TO i1 i2 f1 f2)(hz:IsZip s.heap z TI TO .none)(hTI:IsPair s.heap TI (.ref i1) (.ref i2))(hTO:IsPair s.heap TO a b)
  (h1:T1 k s.heap)(h2:T2 k s.heap)(hk:k=n1\/(k<n1/\k=n2))
  (hE:∀g tk e,(∀c o,c∉[z,TO,i1,i2]->s.heap.get? c=some o->g.get? c=some o)->(∃o,g.get? e=some o/\o.cls=.type "StopIteration")->E (.ref e) { s with heap:=g,toks:=tk }) :
  wpAny (model prog w) A (Builtin.«zip.__next__» ⟨[.ref z],[]⟩) Q E s:=by
 show wpAny _ _ (field (.ref z) 2 >>= _) _ _ _;refine wpAny_bind (wpAny_field hz rfl (x:=.bool false) rfl ?_);show wpAny _ _ (field (.ref z) 3 >>= _) _ _ _;refine wpAny_bind (wpAny_field hz rfl (x:=.ref TI) rfl ?_);refine wpAny_bind (wpAny_seqItems hTI rfl ?_);show wpAny _ _ (Builtin.SmallTypes.ownedTupleIsFree (.ref z) >>= _) _ _ _;refine wpAny_bind ?_;unfold Builtin.SmallTypes.ownedTupleIsFree;refine wpAny_bind (wpAny_field hz rfl (x:=.none) rfl (wpAny_pure ?_));simp only[if_true];refine wpAny_bind (wpAny_rule ?_);refine wpAny_bind (wpAny_field hz rfl (x:=.ref TO) rfl ?_);refine wpAny_bind (wpAny_setField_rec hz (by simp) λg1 hz1 s1=>?_)
 replace hz1:IsZip g1 z TI TO .ellipsis:=hz1;refine wpAny_bind ?_;simp only[List.zipIdx_cons,List.zipIdx_nil,List.forIn_cons,List.forIn_nil];refine wpAny_bind (wpAny_bind (wpAny_onRaise ?_));show wpAny _ _ (Builtin.SmallTypes.nextOf (.ref i1) >>= _) _ _ _;have t1':T1 k g1:=D1.frame k _ _ h1 λc hc o e=>s1.extBut _ _ (λz'=>Z.zf1 (z'▸hc)) e;rcases hk with rfl|⟨k1,rfl⟩
 .refine wpAny_bind (D1.done _ _ _ t1' λg2 e s2 he=>?_);obtain⟨oe,he1,he2⟩:=he;have hz2:IsZip g2 z TI TO .ellipsis:=s2 _ _ Z.z1 hz1;have hez:e≠z:=λx=>by subst x;rw[hz2] at he1;cases he1;simp at he2
  refine wpAny_setField_rec hz2 (by simp) λg3 _ s3=>hE g3 _ e (λc o hc x=>?_) ⟨oe,s3.extBut _ _ hez he1,he2⟩
  simp only[JL,JM,JN,not_or] at hc;exact s3.extBut _ _ hc.1 (s2 _ _ hc.2.2.1 (s1.extBut _ _ hc.1 x))
 .refine wpAny_bind (D1.item k _ _ _ k1 t1' λx g2 tk2 p1 t1 s2=>wpAny_pure ?_);replace s2:Heap.SameBut i1 g1 g2:=s2;have hTO2:IsPair g2 TO a b:=s2.extBut _ _ Z.to1 (s1.extBut _ _ Z.toz hTO);refine wpAny_bind (wpAny_seqItems hTO2 rfl ?_);refine wpAny_bind (wpAny_updateSeq_pair hTO2 λg3 hTO3 s3=>?_);replace s3:Heap.SameBut TO g2 g3:=s3;refine wpAny_bind (wpAny_letGo (wpAny_pure ?_));refine wpAny_bind (wpAny_bind (wpAny_onRaise ?_));show wpAny _ _ (Builtin.SmallTypes.nextOf (.ref i2) >>= _) _ _ _;have t2':T2 k g3:=D2.frame k _ _ h2 λc hc o e=>s3.extBut _ _ (λz'=>Z.tf2 (z'▸hc)) (s2.extBut _ _ (λz'=>Z.if2 (z'▸hc)) (s1.extBut _ _ (λz'=>Z.zf2 (z'▸hc)) e));refine wpAny_bind (D2.done _ _ _ t2' λg4 e s4 he=>?_);obtain⟨oe,he1,he2⟩:=he;have hz4:IsZip g4 z TI TO .ellipsis:=s4 _ _ Z.z2 (s3.extBut _ _ Z.toz.symm (s2.extBut _ _ Z.z1 hz1));have hez:e≠z:=λx=>by subst x;rw[hz4] at he1;cases he1;simp at he2
  refine wpAny_setField_rec hz4 (by simp) λg5 _ s5=>hE g5 _ e (λc o hc x=>?_) ⟨oe,s5.extBut _ _ hez he1,he2⟩
  simp only[JL,JM,JN,not_or] at hc;exact s5.extBut _ _ hc.1 (s4 _ _ hc.2.2.2 (s3.extBut _ _ hc.2.1 (s2.extBut _ _ hc.2.2.1 (s1.extBut _ _ hc.1 x))))
end
def eV:Bool->Heap->Addr->Addr->Nat->Prop
 | true,h,it,l,i=>h.IsListIter it l i
 | false,h,it,l,i=>h.IsTupleIter it l i
def cu:Bool->Heap->Addr->Array Value->Prop
 | true,h,l,its=>h.IsList l its
 | false,h,l,its=>h.IsTuple l its
def kM(K:W.Frag)(b:Bool)(H:Hp)(l:Addr)(xs:List V):Prop:=vw K H l=some (if b=true then .lst xs else .tup xs)
theorem fH{prog:Program}{w:World}{A:Around}(hh:A.handled=none)(b:Bool)(it l:Addr)(hne:l≠it)(its:Array Value) :
  Draws prog w A it [it,l] its.size (λi v=>its[i]? = some v) (λi h=>eV b h it l i/\cu b h l its):=by
 cases b with
 | true=>exact Draws.list hh it l hne its
 | false=>exact qj hh it l hne its
theorem eV.at{b:Bool}{h h':Heap}{it l:Addr}{i:Nat}(x:eV b h it l i)(e:∀o,h.get? it=some o->h'.get? it=some o):eV b h' it l i:=by
 cases b with
 | true=>obtain⟨o,ho,r⟩:=x;exact⟨o,e o ho,r⟩
 | false=>obtain⟨o,ho,r⟩:=x;exact⟨o,e o ho,r⟩
theorem eV.obj{b:Bool}{h:Heap}{it l:Addr}{i:Nat}(x:eV b h it l i):∃o,h.get? it=some o /\ ∀v,o.data ≠ .cell v:=by
 cases b with
 | true=>obtain⟨o,ho,_,d⟩:=x;exact⟨o,ho,λv z=>by rw[d] at z;cases z⟩
 | false=>obtain⟨o,ho,_,d⟩:=x;exact⟨o,ho,λv z=>by rw[d] at z;cases z⟩
theorem cu.obj{b:Bool}{h:Heap}{l:Addr}{its:Array Value}(x:cu b h l its):∃o,h.get? l=some o:=by
 cases b with
 | true=>obtain⟨o,ho,_⟩:=x;exact⟨o,ho⟩
 | false=>obtain⟨o,ho,_⟩:=x;exact⟨o,ho⟩
theorem au.src{X:Cx}{pins:List (Addr×Obj)}{σ:St}{H:Hp}{s:Shared}(I:au X pins σ H s) {b:Bool}{l:Addr}{xs:List V}(h:kM X.K b H l xs):∃its:List Value,aJ xs its/\cu b s.heap l its.toArray/\xs.length<=sizeLine:=by
 cases b with
 | true =>
  obtain⟨its,rv,p,hz⟩:=I.list (f6.of (K:=X.K) (aI h));exact⟨its,rv,p.isList,hz⟩
 | false =>
  obtain⟨its,rv,p,hz⟩:=I.tuple (eJ h);exact⟨its,rv,p,hz⟩
theorem kM.inj{K:W.Frag}{b:Bool}{H:Hp}{l:Addr}{xs ys:List V}(h:kM K b H l xs)(g:kM K b H l ys):xs=ys:=by
 unfold kM at h g;rw[h] at g;cases b<;>cases g<;>rfl
def zw(K:W.Frag)(b1 b2:Bool)(l1 l2:Addr):Hp->List (List V)->Prop:=λH ys=>∃xs zs,kM K b1 H l1 xs/\kM K b2 H l2 zs/\ys=List.zipWith (λx z=>[x,z]) xs zs
section
variable {prog:Program}{w:World}{A:Around}{E:Value->Shared->Prop}{s:Shared}{z TI TO i1 i2 l1 l2:Addr}{k:Nat}{b1 b2:Bool}{u1 u2:Array Value}{a b:Value}
theorem AW{n:Nat}(h1 : @LT.lt Nat _ l1 n)(h2 : @LT.lt Nat _ l2 n):g6 (n+4) (n+2) (n+3) n (n+1) [n,l1] [n+1,l2]:=by
 constructor<;>(try simp only[JL,JM,JN,not_or])<;>(try constructor)<;>(intro e;have e':(_:Nat)=_:=e;nofun)
theorem nU{Q:Option Value->Shared->Prop}(hh:A.handled=none)(Z:g6 z TI TO i1 i2 [i1,l1] [i2,l2])(n1:l1≠i1)(n2:l2≠i2)(hz:IsZip s.heap z TI TO .none)(hTI:IsPair s.heap TI (.ref i1) (.ref i2))(hTO:IsPair s.heap TO a b)
  (h1:eV b1 s.heap i1 l1 k)(h2:eV b2 s.heap i2 l2 k)(p1:cu b1 s.heap l1 u1)(p2:cu b2 s.heap l2 u2)(k1:k<u1.size)(k2:k<u2.size)
  (hQ:∀x y g tk,u1[k]? = some x->u2[k]? = some y->IsZip g z TI TO (rawInt s.heap.objs.size)->IsPair g TO x y->eV b1 g i1 l1 (k+1)->eV b2 g i2 l2 (k+1)->IsPair g s.heap.objs.size x y->g.objs.size=s.heap.objs.size+1 ->
   (∀c o,c∉[z,TO,i1,i2]->s.heap.get? c=some o->g.get? c=some o)->Q (some (.ref s.heap.objs.size)) { s with heap:=g,toks:=tk }):wpAny (model prog w) A (pyNext (.ref z)) Q E s:=by
 have hT:s.TypeIs (.ref z) "zip":=⟨_,hz,rfl⟩;unfold pyNext;refine wpAny_bind (wpAny_attempt (wpAny_callSpecial?_slot (name:=Str.ofString "__next__") hT F.slot_zip_next (wpAny_call_entry F.slot_zip_next hT F.entry_zip_next ?_ (F.args_zip_next_1 _))));have D1:Draws prog w A.in1 i1 [i1,l1] u1.size _ _:=fH (A:=A.in1) hh b1 i1 l1 n1 u1;have D2:Draws prog w A.in1 i2 [i2,l2] u2.size _ _:=fH (A:=A.in1) hh b2 i2 l2 n2 u2;exact qG D1 D2 Z hz hTI hTO ⟨h1,p1⟩ ⟨h2,p2⟩ k1 k2 λx y g tk e1 e2 c1 c2 c3 c4 c5 c6 c7=>wpAny_pure (hQ x y g tk e1 e2 c1 c2 c3.1 c4.1 c5 c6 c7)
theorem qQ{Q:Option Value->Shared->Prop}(hh:A.handled=none)(Z:g6 z TI TO i1 i2 [i1,l1] [i2,l2])(n1:l1≠i1)(n2:l2≠i2)(hz:IsZip s.heap z TI TO .none)(hTI:IsPair s.heap TI (.ref i1) (.ref i2))(hTO:IsPair s.heap TO a b)
  (h1:eV b1 s.heap i1 l1 k)(h2:eV b2 s.heap i2 l2 k)(p1:cu b1 s.heap l1 u1)(p2:cu b2 s.heap l2 u2)(hk:k=u1.size\/(k<u1.size/\k=u2.size))
  (hQ:∀g tk,(∀c o,c∉[z,TO,i1,i2]->s.heap.get? c=some o->g.get? c=some o)->Q none { s with heap:=g,toks:=tk }):wpAny (model prog w) A (pyNext (.ref z)) Q E s:=by
 have hT:s.TypeIs (.ref z) "zip":=⟨_,hz,rfl⟩;unfold pyNext;refine wpAny_bind (wpAny_attempt (wpAny_callSpecial?_slot (name:=Str.ofString "__next__") hT F.slot_zip_next (wpAny_call_entry F.slot_zip_next hT F.entry_zip_next ?_ (F.args_zip_next_1 _))));have D1:Draws prog w A.in1 i1 [i1,l1] u1.size _ _:=fH (A:=A.in1) hh b1 i1 l1 n1 u1;have D2:Draws prog w A.in1 i2 [i2,l2] u2.size _ _:=fH (A:=A.in1) hh b2 i2 l2 n2 u2;refine tX D1 D2 Z hz hTI hTO ⟨h1,p1⟩ ⟨h2,p2⟩ hk λg tk e hk he=>?_;obtain⟨o,ho,hc⟩:=he;refine wpAny_bind (wpAny_isInstance (T:="StopIteration") (b:=true) ⟨o,ho,hc⟩ isSubtype_stop (wpAny_pure (hQ _ _ hk)))
end
theorem au.turnL{X:Cx}{pins:List (Addr×Obj)}{σ:St}{H:Hp}{s:Shared}{h':Heap}{t':Nat}{ch:List Addr}(I:au X pins σ H s)(k:∀b o,b∉ch->s.heap.get? b=some o->h'.get? b=some o)(hf:∀b∈ch,gU X pins H b):au X pins σ H { s with heap:=h',toks:=t' }:=by
 have nch:∀c v,H c=some v->c∉ch:=λc v z hc=>by
  rw[(hf c hc).1] at z;cases z
 refine I.step (g':=s.gens) (d':=s.drawn) (ch:=ch) (λb hb=>?_) (λb o _ _ hc e _=>k b o hc e) (λb o _ _ hc e _=>⟨o.slots,k b o hc e⟩) (λb o _ e n=>n)
  (λb o hc e=>⟨o,k b o hc e⟩) (λb ys e=>e) (λb o u e=>e) (λb ps e=>⟨#[],by rw[e];simp⟩) (λm hm=>?_) (λb u e=>?_) I.bare
 .obtain⟨_,f1,_,f3,f4,f5⟩:=hf b hb;exact⟨f3,f1,f4,f5⟩
 .obtain⟨o,es,ep,ho,r⟩:=hm;exact⟨o,es,ep,k _ o (λz=>(hf _ z).2.1 rfl) ho,r⟩
 .refine (I.hok b u e).stay (λc v hc q=>k c v ?_ q) (λc q=>q) λc ys q=>q;rcases hc with z|z
  .rw[z];exact nch b u e
  .exact nch c _ z
theorem sU{P:Program}{w:World}{K:W.Frag}{elts:List Expr}{x1:Nat}{pos:Pos}{b1 b2:Bool}(z TI TO i1 i2 l1 l2:Addr)(Z:g6 z TI TO i1 i2 [i1,l1] [i2,l2])(n1:l1≠i1)(n2:l2≠i2) :
  sJ P w K (.Tuple elts x1 pos) (xc K (zw K b1 b2 l1 l2)) [z,TO,i1,i2,TI] z (λi h=>IsZip h z TI TO .none/\IsPair h TI (.ref i1) (.ref i2)/\(∃a b,IsPair h TO a b)/\eV b1 h i1 l1 i/\eV b2 h i2 l2 i) where
 mem:=by simp
 obj:=λi h st b hb=>by
  obtain⟨h1,h2,⟨a,c,h3⟩,h4,h5⟩:=st;simp only[JL,JM,JN] at hb;rcases hb with rfl|rfl|rfl|rfl|rfl
  .exact⟨_,h1,λv e=>by cases e⟩
  .exact⟨_,h3,λv e=>by cases e⟩
  .exact h4.obj
  .exact h5.obj
  .exact⟨_,h2,λv e=>by cases e⟩
 keep:=λi h h' st k=>by
  obtain⟨h1,h2,⟨a,c,h3⟩,h4,h5⟩:=st;exact⟨k z (by simp) _ h1,k TI (by simp) _ h2,⟨a,c,k TO (by simp) _ h3⟩,h4.at λo e=>k i1 (by simp) o e,h5.at λo e=>k i2 (by simp) o e⟩
 item:=by
  intro X hP hw hK hc i pins s σ H E I hf st hg;subst hP hw hK;obtain⟨h1,h2,⟨a,c,h3⟩,h4,h5⟩:=st;obtain⟨ys,t,⟨xs,zs,q1,q2,rfl⟩,ht⟩:=hg;have hlt:i<xs.length/\i<zs.length:=by
   have:=(List.getElem?_eq_some_iff.mp ht).1;simp at this;nofun
  obtain⟨u1,r1,p1,z1⟩:=I.src q1;obtain⟨u2,r2,p2,z2⟩:=I.src q2;have e1:=r1.length;have e2:=r2.length;have tx:t=[xs[i]'hlt.1,zs[i]'hlt.2]:=by
   rw[List.getElem?_zipWith,JE hlt.1,JE hlt.2] at ht;exact (Ji ht).symm
  refine nU (I.ok.hd hc) Z n1 n2 h1 h2 h3 h4 h5 p1 p2 (by simp;nofun) (by simp;nofun) λx y g tk ex ey c1 c2 c3 c4 c5 c6 c7=>⟨_,rfl,?_⟩
  refine wpAny_letOwnedTupleGo_zip (s:={ s with heap:=g,toks:=tk }) c1 λg2 d1 d2=>?_
  replace d2:Heap.SameBut z g g2:=d2;have zs':z<s.heap.objs.size:=Heap.lt_size h1;have rx:aV (xs[i]'hlt.1) x:=by
   obtain⟨u,hu,ru⟩:=r1.get (JE hlt.1);rw[List.getElem?_toArray,hu] at ex;cases ex;exact ru
  have ry:aV (zs[i]'hlt.2) y:=by
   obtain⟨u,hu,ru⟩:=r2.get (JE hlt.2);rw[List.getElem?_toArray,hu] at ey;cases ey;exact ru
  have hf4:∀b∈[z,TO,i1,i2],gU X pins H b:=λb hb=>hf b (by simp only[JL,JM,JN] at hb ⊢;rcases hb with e|e|e|e<;>simp[e])
  have I4:au X pins σ (upd H s.heap.objs.size (.tup t)) { s with heap:=g2,toks:=tk }:=by
   rw[tx];exact I.turnT (its:=[x,y]) (λb o hb e=>d2.extBut _ _ (λe'=>hb (by simp[e'])) (c7 b o hb e)) hf4 (Jl _) (show 2<=sizeLine by decide) (.cons rx (.cons ry .nil)) ⟨_,d2.extBut _ _ (Nat.ne_of_gt zs') c5,rfl,_,rfl⟩
  have fr:=I.hok.fresh (Jl s.heap.objs.size);have nk:=I.newK (Jl s.heap.objs.size);have hTI2:IsPair g2 TI (.ref i1) (.ref i2):=d2.extBut _ _ Z.tiz (c7 TI _ (by simp[Z.tiz,Z.tito,Z.ti1,Z.ti2]) h2)
  refine⟨.ref s.heap.objs.size,_,I4,rfl,⟨_,_,rfl,by rw[bv nk];exact fr,gn (aw.upd fr),by rw[bv nk];exact a9,?_⟩,⟨d1,hTI2,⟨_,_,d2.extBut _ _ Z.toz c2⟩,c3.at λo e=>d2.extBut _ _ Z.z1.symm e,c4.at λo e=>d2.extBut _ _ Z.z2.symm e⟩,λb hb=>?_⟩
  .rintro ys ⟨xs',zs',q1',q2',rfl⟩;cases q1.inj q1';cases q2.inj q2';exact ht
  .have:b<s.heap.objs.size:=by
    simp only[JL,JM,JN] at hb;rcases hb with rfl|rfl|rfl|rfl|rfl
    .exact zs'
    .exact Heap.lt_size h3
    .obtain⟨_,e,_⟩:=h4.obj;exact Heap.lt_size e
    .obtain⟨_,e,_⟩:=h5.obj;exact Heap.lt_size e
    .exact Heap.lt_size h2
   rw[aQ (Jf this)];exact (hf b hb).1
 done:=by
  intro X hP hw hK hc i pins s σ H E I hf st hg;subst hP hw hK;obtain⟨h1,h2,⟨a,c,h3⟩,h4,h5⟩:=st;obtain⟨ys,⟨xs,zs,q1,q2,rfl⟩,hl⟩:=hg;obtain⟨u1,r1,p1,z1⟩:=I.src q1;obtain⟨u2,r2,p2,z2⟩:=I.src q2;have e1:=r1.length;have e2:=r2.length;have hk:i=u1.toArray.size\/(i<u1.toArray.size/\i=u2.toArray.size):=by
   rw[List.length_zipWith] at hl;simp only[Jo];nofun
  have hf4:∀b∈[z,TO,i1,i2],gU X pins H b:=λb hb=>hf b (by simp only[JL,JM,JN] at hb ⊢;rcases hb with e|e|e|e<;>simp[e])
  exact qQ (I.ok.hd hc) Z n1 n2 h1 h2 h3 h4 h5 p1 p2 hk λg tk k=>⟨rfl,I.turnL k hf4⟩
 self:=λ_ _ _ _ _ st h=>wpAny_pyIter_zip st.1 h
def wo(b:Bool)(l:Addr):Obj:=match b with
 | true=>{ cls:=.type "list_iterator",data:=.fields #[.ref l,.int 0 0] }
 | false=>{ cls:=.type "tuple_iterator",data:=.fields #[.ref l,.int 0 0] }
section
variable {prog:Program}{w:World}{A:Around}{E:Value->Shared->Prop}{s:Shared}
theorem p0{b:Bool}{l:Addr}{u:Array Value}{Q:Value->Shared->Prop}(h:cu b s.heap l u)(q:Q (.ref s.heap.objs.size) { s with heap:=s.heap.push (wo b l) }):wpAny (model prog w) A (pyIter (.ref l)) Q E s:=by
 cases b with
 | true=>exact wpAny_pyIter_list h q
 | false=>exact wpAny_pyIter_tuple h q
end
theorem cu.push{b:Bool}{h:Heap}{l:Addr}{u:Array Value}(x:cu b h l u)(o:Obj):cu b (h.push o) l u:=by
 cases b with
 | true=>obtain⟨v,e,r⟩:=x;exact⟨v,Heap.get?_push_of_some _ e,r⟩
 | false=>obtain⟨v,e,r⟩:=x;exact⟨v,Heap.get?_push_of_some _ e,r⟩
theorem eV.new{b:Bool}{h:Heap}{it l:Addr}(e:h.get? it=some (wo b l)):eV b h it l 0:=by
 cases b with
 | true=>exact⟨_,e,rfl,rfl⟩
 | false=>exact⟨_,e,rfl,rfl⟩
abbrev Aj (h:Heap)(b1:Bool)(l1:Addr):Heap:=h.push (wo b1 l1)
abbrev Af (h:Heap)(b1 b2:Bool)(l1 l2:Addr):Heap:=(Aj h b1 l1).push (wo b2 l2)
abbrev Ap (h:Heap)(b1 b2:Bool)(l1 l2:Addr):Heap:=(Af h b1 b2 l1 l2).push { cls:=.type "tuple",data:=.seq #[.ref h.objs.size,.ref (Aj h b1 l1).objs.size] }
abbrev Ar (h:Heap)(b1 b2:Bool)(l1 l2:Addr):Heap:=(Ap h b1 b2 l1 l2).push { cls:=.type "tuple",data:=.seq #[.none,.none] }
abbrev yV (h:Heap)(b1 b2:Bool)(l1 l2:Addr):Heap:=(Ar h b1 b2 l1 l2).push { cls:=.type "zip",data:=.fields #[.none,.bool false,.bool false,.ref (Af h b1 b2 l1 l2).objs.size,.ref (Ap h b1 b2 l1 l2).objs.size] }
theorem nY(b1 b2:Bool)(l1 l2:Addr)(u1 u2:Array Value) :
  Meets (Builtin.«zip.__new__» ⟨[.type "zip",.ref l1,.ref l2],[]⟩) (λ_ R s=>cu b1 s.heap l1 u1/\cu b2 s.heap l2 u2/\R (.ok (.ret (.ref (Ar s.heap b1 b2 l1 l2).objs.size))) { s with heap:=yV s.heap b1 b2 l1 l2 }) :=
 .of_wp λprog w A R s h=>by
  obtain⟨hp,g,d,tk,os⟩:=s;obtain⟨q1,q2,h⟩:=h;have hsub:=sub_zip;have y1:cu b1 (Shared.heap ⟨hp,g,d,tk,os⟩) l1 u1:=q1;have y2:cu b2 (Shared.heap ⟨hp.push (wo b1 l1),g,d,tk,os⟩) l2 u2:=cu.push q2 _
  wp_walk using p0 y1,p0 y2
  exact⟨_,rfl,h⟩
section
variable {prog:Program}{w:World}{A:Around}{E:Value->Shared->Prop}{s:Shared}
theorem Ab{b1 b2:Bool}{l1 l2:Addr}{u1 u2:Array Value}{Q:Value->Shared->Prop}(q1:cu b1 s.heap l1 u1)(q2:cu b2 s.heap l2 u2)
  (h:∀g,IsZip g (s.heap.objs.size+4) (s.heap.objs.size+2) (s.heap.objs.size+3) .none->IsPair g (s.heap.objs.size+2) (.ref s.heap.objs.size) (.ref (s.heap.objs.size+1))->IsPair g (s.heap.objs.size+3) .none .none ->
   eV b1 g s.heap.objs.size l1 0->eV b2 g (s.heap.objs.size+1) l2 0->(∀c o,s.heap.get? c=some o->g.get? c=some o)->Q (.ref (s.heap.objs.size+4)) { s with heap:=g }) :
  wpAny (model prog w) A (call (.type "zip") [.ref l1,.ref l2]) Q E s:=by
 refine callType_new F.called_zip ∅ (F.typeCall_zip_2 _ _) (F.newCall_zip_2 _ _) (λobj=>F.args_object_init_3 obj _ _) F.entry_zip_new (nY b1 b2 l1 l2 u1 u2) ⟨q1,q2,?_⟩;have v1:(Aj s.heap b1 l1).objs.size=s.heap.objs.size+1:=Heap.size_push ..;have v2:(Af s.heap b1 b2 l1 l2).objs.size=s.heap.objs.size+2:=by rw[Heap.size_push,v1]
 have v3:(Ap s.heap b1 b2 l1 l2).objs.size=s.heap.objs.size+3:=by rw[Heap.size_push,v2]
 have v4:(Ar s.heap b1 b2 l1 l2).objs.size=s.heap.objs.size+4:=by rw[Heap.size_push,v3]
 have g5:(yV s.heap b1 b2 l1 l2).get? (Ar s.heap b1 b2 l1 l2).objs.size=some _:=Heap.get?_push_size _ rfl;have g4:(yV s.heap b1 b2 l1 l2).get? (Ap s.heap b1 b2 l1 l2).objs.size=some _:=Heap.get?_push_of_some _ (Heap.get?_push_size _ rfl);have g3:(yV s.heap b1 b2 l1 l2).get? (Af s.heap b1 b2 l1 l2).objs.size=some _:=Heap.get?_push_of_some _ (Heap.get?_push_of_some _ (Heap.get?_push_size _ rfl));have nf:∀b l,(wo b l).isFreed=false:=λb l=>by cases b<;>rfl
 have g2:(yV s.heap b1 b2 l1 l2).get? (Aj s.heap b1 l1).objs.size=some (wo b2 l2):=Heap.get?_push_of_some _ (Heap.get?_push_of_some _ (Heap.get?_push_of_some _ (Heap.get?_push_size _ (nf _ _))));have g1:(yV s.heap b1 b2 l1 l2).get? s.heap.objs.size=some (wo b1 l1):=Heap.get?_push_of_some _ (Heap.get?_push_of_some _ (Heap.get?_push_of_some _ (Heap.get?_push_of_some _ (Heap.get?_push_size _ (nf _ _)))));show _/\_;rw[v2,v3,v4] at g5;rw[v1,v2] at g3;rw[v3] at g4;rw[v1] at g2;rw[v4];exact⟨⟨_,g5,rfl⟩,h _ g5 g3 g4 (.new g1) (.new g2) λc o x=>Heap.get?_push_of_some _ (Heap.get?_push_of_some _ (Heap.get?_push_of_some _ (Heap.get?_push_of_some _ (Heap.get?_push_of_some _ x))))⟩
end
def uF(K:W.Frag)(ta:TA):TI:=λσ H R=>ta σ H λvs H1=>∃a b,vs=[.ref a,.ref b] /\ ∃c d,(∃xs,kM K c H1 a xs)/\(∃ys,kM K d H1 b ys)/\R (xc K (zw K c d a b)) H1
theorem yr{X:Cx}{elts:List Expr}{x1:Nat}{tp p pos:Pos}{a b:Expr}{ta:TA}(hg:Gl X "zip") (hm:X.mg "zip" = none) (ha:PA X [a,b] ta)(hs:starEach [a,b] X.env=[(false,eval a X.env),(false,eval b X.env)]:=by rfl)(hs2:starEach [b] X.env=[(false,eval b X.env)]:=by rfl) :
  PI X (.Tuple elts x1 tp) (.Call (.Name "zip" p) [a,b] [] pos) (uF X.K ta):=by
 intro pins s σ H R I h;refine Call_ (jr I hg hm yG (PyProof.Rows.callWith_type1 (bi (ha pos pins s σ H _ I h) λus s1 ⟨vs,H1,I1,r1,q1⟩=>?_) (by rw[hs,hs2]) (by rw[hs2];rfl)))
 obtain⟨l1,l2,e,c,d,⟨xs,hx⟩,⟨ys,hy⟩,q⟩:=q1;subst e;cases r1 with
 | cons r rr =>
  cases rr with
  | cons r' rr =>
   cases rr;cases r;cases r';obtain⟨u1,t1,p1,_⟩:=I1.src hx;obtain⟨u2,t2,p2,_⟩:=I1.src hy;refine Ab p1 p2 λg c1 c2 c3 c4 c5 k=>?_;refine wpAny_pyIter_zip (s:={ s1 with heap:=g }) c1 ?_
   have m1:l1<s1.heap.objs.size:=by obtain⟨_,e⟩:=p1.obj;exact Heap.lt_size e
   have m2:l2<s1.heap.objs.size:=by obtain⟨_,e⟩:=p2.obj;exact Heap.lt_size e
   refine⟨_,_,_,_,H1,rfl,I1.kept (t':=s1.toks) k,sU _ _ _ _ _ l1 l2 (AW m1 m2) (Jf m1) (Jf (Nat.lt_succ_of_lt m2)),⟨c1,c2,⟨_,_,c3⟩,c4,c5⟩,λf hf=>?_,q⟩;have hf':s1.heap.objs.size<=f:=by
    simp only[JL,JM,JN] at hf;rcases hf with z|z|z|z|z<;>rw[z]
    .exact Nat.le_add_right _ 4
    .exact Nat.le_add_right _ 3
    .exact Jl _
    .exact Nat.le_add_right _ 1
    .exact Nat.le_add_right _ 2
   exact I1.fpOk hf' (I1.hok.fresh hf')
theorem rO{X:Cx}{elts:List Expr}{x1:Nat}{tp p pos:Pos}{a b:Expr}{ta:TA}(hg:Gl X "zip") (hm:X.mg "zip" = none) (ha:QA X [a,b] ta)(hs:starEach [a,b] X.env=[(false,eval a X.env),(false,eval b X.env)]:=by rfl)(hs2:starEach [b] X.env=[(false,eval b X.env)]:=by rfl) :
  QI X (.Tuple elts x1 tp) (.Call (.Name "zip" p) [a,b] [] pos) (uF X.K ta):=⟨yr hg hm ha.h hs hs2⟩
def ug(K:W.Frag)(a:Addr)(σr:St)(Pv:List V->Hp->Prop):St->Hp->Prop:=λσ H=>(∃y z,σ=y::z::σr) /\ ∃xs,vw K H a=some (.lst xs)/\Pv xs H
theorem jK{K:W.Frag}{R:Hp->List (List V)->Prop}{ps:List (V×V)}{tif:TT}{te:TE}{a:Addr}{x0 x1:Option V}{σr:St}{H0:Hp}{Q:Hp->Prop}(Pv:Nat->List V->Hp->Prop)
  (hl:∀i xs H,i<=ps.length->vw K H a=some (.lst xs)->Pv i xs H->R H (ps.map λp=>[p.1,p.2]))(ha:vw K H0 a=some (.lst []))(h0:Pv 0 [] H0)
  (hs:∀i x y xs H H',i<ps.length->ps[i]? = some (x,y)->vw K H' a=some (.lst xs)->Pv i xs H->aw (vw K H) (vw K H')->tif (some x::some y::σr) H' λb H3=>if b=true then te (some x::some y::σr) H3 (ym K a (ug K a σr (Pv (i+1)) (some x::some y::σr))) else ug K a σr (Pv (i+1)) (some x::some y::σr) H3)
  (hd:∀xs H,vw K H a=some (.lst xs)->Pv ps.length xs H->Q H):iS K (xc K R) (fO K 2 (fQ (dR 0) (fQ (dR 1) ny))) tif te a (x0::x1::σr) H0 Q:=by
 refine⟨λi m σ H=>m=ps.length-i/\i<=ps.length/\ug K a σr (Pv i) σ H,⟨ps.length,by simp,Js _,⟨_,_,rfl⟩,_,ha,h0⟩,?_⟩
 rintro i m σ H ⟨rfl,hi,⟨y,z,rfl⟩,xs,hxs,p⟩;have q:=hl i xs H hi hxs p;by_cases hlt:i<ps.length
 .refine .inr ⟨⟨_,_,q,by rw[Jx,JE hlt];rfl⟩,ug K a σr (Pv (i+1)),λσ' H' p'=>⟨ps.length-(i+1),(),rfl,hlt,p'⟩,λx H' y=>?_⟩
  obtain⟨b,t,rfl,y1,y2,y3,y4⟩:=y;have e:=y4 _ q;rw[Jx,JE hlt] at e;cases e;exact⟨b,rfl,_,y3,rfl,_,_,rfl,_,_,rfl,rfl,hs i _ _ xs H H' hlt (JE hlt) (y2 _ _ hxs) p y2⟩
 .have e:i=ps.length:=();subst e;exact .inl ⟨⟨_,q,by simp⟩,hd xs H hxs p⟩
theorem ym.mk2{K:W.Frag}{a:Addr}{σr:St}{Pv:List V->Hp->Prop}{x y:Option V}{v:V}{H:Hp}{xs:List V}(h:vw K H a=some (.lst xs))(hz:xs.length<sizeLine)
  (q:∀H5,c9 a (vw K H) (vw K H5)->vw K H5 a=some (.lst (xs++[v]))->Pv (xs++[v]) H5):ym K a (ug K a σr Pv (x::y::σr)) v H:=⟨xs,h,hz,λH5 B h5=>⟨⟨_,_,rfl⟩,_,h5,q H5 B h5⟩⟩
theorem ma{xs ys:List V}:List.zipWith (λx z=>[x,z]) xs ys=(xs.zip ys).map λp=>[p.1,p.2]:=by
 rw[List.zip,List.map_zipWith]
def wv(q:Int×Int):Rat:=(q.1:Rat)/(q.2:Rat)
theorem ao{b:Int}(h:b≠0):(b:Rat)≠0:=by simpa using h
theorem fb{a b:Int}(hb:b≠0):wv (lo a b)=(a:Rat)/(b:Rat):=by
 have e1:=cj (a:=a) hb;have e2:=cr (a:=a) hb;have hg:=ao (sI (a:=a) hb);have hd:(lo a b).2≠0:=by have:=(fk (a:=a) hb).1;nofun
 have hd':=ao hd;have c1:((lo a b).1:Rat)*(lg a b:Rat)=(a:Rat):=by
  have:=Jj (λi:Int=>(i:Rat)) e1;simpa using this
 have c2:((lo a b).2:Rat)*(lg a b:Rat)=(b:Rat):=by
  have:=Jj (λi:Int=>(i:Rat)) e2;simpa using this
 unfold wv;rw[<-c1,<-c2];grind
theorem pW{a b c:Int}(h:b∣a*c)(hg:Int.gcd a b=1):b∣c:=by
 have h1:b.natAbs∣a.natAbs*c.natAbs:=by
  rw[<-JJ];exact Int.natAbs_dvd_natAbs.mpr h
 have h2:Nat.Coprime b.natAbs a.natAbs:=by
  unfold Nat.Coprime;rw[Nat.gcd_comm];exact hg
 exact Int.natAbs_dvd_natAbs.mp (Nat.Coprime.dvd_of_dvd_mul_left h2 h1)
theorem fe{p q:Int×Int}(hp:Fq p)(hq:Fq q)(h:wv p=wv q):p=q:=by
 have h1:=ao (show p.2≠0 by have:=hp.1;nofun)
 have h2:=ao (show q.2≠0 by have:=hq.1;nofun)
 have e:p.1*q.2=q.1*p.2:=by
  unfold wv at h;have:(p.1:Rat)*(q.2:Rat)=(q.1:Rat)*(p.2:Rat):=⋯;have h3:((p.1*q.2:Int):Rat)=((q.1*p.2:Int):Rat):=by simpa using this
  exact Rat.intCast_inj.mp h3
 have d1:p.2∣q.2:=by
  have:p.2∣p.1*q.2:=⟨q.1,by rw[e,JQ]⟩
  exact pW this hp.2
 have d2:q.2∣p.2:=by
  have:q.2∣q.1*p.2:=⟨p.1,by rw[<-e,JQ]⟩
  exact pW this hq.2
 have e2:p.2=q.2:=Int.dvd_antisymm (JH hp.1) (JH hq.1) d1 d2;rw[e2] at e;have e1:p.1=q.1:=Int.eq_of_mul_eq_mul_right (by have:=hq.1;nofun) e
 exact Prod.ext e1 e2
theorem s0{p q:Int×Int}(hp:p.2≠0)(hq:q.2≠0):wv (lG p q)=wv p+wv q:=by
 unfold lG;rw[fb (JR hp hq)];unfold wv;have h1:=ao hp;have h2:=ao hq;simp only[Rat.intCast_add,JS];grind
def ql(p q:Int×Int):Int×Int:=lo (p.1*q.1) (p.2*q.2)
theorem vb{p q:Int×Int}(hp:Fq p)(hq:Fq q):Fq (ql p q):=fk (by have:=JP hp.1 hq.1;nofun)
theorem vx{p q:Int×Int}{m n:Nat}(hp:Fq p)(hq:Fq q)(h1:Bq m p)(h2:Bq n q):Bq (m+n) (ql p q):=mP (by have:=JP hp.1 hq.1;nofun) (h1.1.mul h2.1) (h1.2.mul h2.2)
theorem yq{p q:Int×Int}(hp:p.2≠0)(hq:q.2≠0):wv (ql p q)=wv p*wv q:=by
 unfold ql;rw[fb (JR hp hq)];unfold wv;have h1:=ao hp;have h2:=ao hq;simp only[JS];grind
section
variable {X:Cx}
def gH:List Int->Int
 | []=>0
 | a::as=>a+gH as
theorem jA(as bs:List Int):gH (as++bs)=gH as+gH bs:=by
 induction as with
 | nil=>simp[gH]
 | cons a as ih=>simp only[List.cons_append,gH,ih];nofun
theorem im(ns:List Int):∀k,k<=ns.length->preSum (λi=>ns.getD i 0) k=gH (ns.take k)
 | 0,_=>rfl
 | k+1,h=>by
  have hk:k<ns.length:=();show preSum _ k+ns.getD k 0=_;rw[im ns k (),JT,JE hk,jA];simp[gH,JU,JE hk]
theorem mM:∀{ns:List Int}{us:List Value},aJ (ns.map V.int) us -> ∀{i:Nat}{v:Value},us[i]? = some v -> ∃t,v=.int (ns.getD i 0) t
 | [],us,h,i,v,e=>by cases h;cases e
 | n::ns,us,h,i,v,e=>by
  cases h with
  | cons r rr =>
   cases i with
   | zero =>
    cases e;obtain⟨t,rfl⟩:=r;exact⟨t,rfl⟩
   | succ i =>
    obtain⟨t,q⟩:=mM rr (i:=i) e;exact⟨t,by rw[q];simp⟩
theorem j4(hh:X.calm=true):dg X (.builtin "sum") (λxs H Q=>∃p,xs=[.ref p] /\ ∃ns:List Int,vw X.K H p=some (.lst (ns.map V.int))/\Q (.int (gH ns)) H):=by
 intro pins s σ H xs us Q I r h;obtain⟨p,rfl,ns,hp,q⟩:=h;cases r with
 | cons r1 rr =>
  cases rr;cases r1;obtain⟨its,rv,pl,hz⟩:=I.list (f6.of (K:=X.K) (aI hp));have hl:=rv.length;rw[Jr] at hl;have hlt:p<s.heap.objs.size:=by obtain⟨o,n,e1,_⟩:=pl;exact Heap.lt_size e1
  refine call_sum_walkG (wpAny_pyIter_list pl.isList ⟨s.heap.objs.size,_,_,_,_,_,λi=>ns.getD i 0,rfl,Walks.list (show X.A.in1.handled=none from I.ok.hd hh) _ p (Jf hlt) _,⟨⟨_,Heap.get?_push_size _ rfl,rfl,rfl⟩,pl.isList.push _⟩,?_,λi v hv=>mM rv (by simpa using hv),λh' tk t' hk=>?_⟩)
  .intro b hb;show b<(s.heap.push _).objs.size;rw[Heap.size_push];simp only[JL,JM,JN] at hb;rcases hb with e|e
   .rw[e];exact Nat.lt_succ_self _
   .rw[e];exact Nat.lt_succ_of_lt hlt
  .refine⟨.int (gH ns),H,I.kept λb o e=>hk b o (λz=>?_) (Heap.get?_push_of_some _ e),⟨t',?_⟩,q⟩
   .rw[List.mem_singleton.mp z] at e;exact absurd (Heap.lt_size e) (Je _)
   .rw[Jo,<-hl,im ns _ (Jl _),JV]
theorem ut:yi X .Mult (λx y H Q=>∃i j,x=.int i/\y=.int j/\IntMulOk i j/\Q (.int (i*j)) H):=by
 intro pins s σ H x y v u Q I r1 r2 h;obtain⟨i,j,rfl,rfl,m,q⟩:=h;obtain⟨t,rfl⟩:=r1;obtain⟨t',rfl⟩:=r2;exact imul_int ⟨.int _,H,I.tok _,⟨_,rfl⟩,q⟩ m
theorem eu{st:Stmt}:QS X st ot:=⟨rm⟩
theorem tK:bootBuiltins "sum" = some (.builtin "sum"):=by decide +kernel
end
theorem iV{K:W.Frag}{J:It}{its:List V}{ps:List (V×V)}{tif:TT}{te:TE}{a:Addr}{x0 x1:Option V}{σr:St}{H0:Hp}{Q:Hp->Prop}(Pv:Nat->List V->Hp->Prop)(hlen:its.length=ps.length)
  (hl:∀i xs H,i<=its.length->vw K H a=some (.lst xs)->Pv i xs H->mj J H its /\ ∀(j:Nat)(x y:V),ps[j]? = some (x,y) -> ∃p:Addr,its[j]? = some (V.ref p)/\vw K H p=some (HO.tup [x,y]))(ha:vw K H0 a=some (.lst []))(h0:Pv 0 [] H0)
  (hs:∀i x y xs H,i<ps.length->ps[i]? = some (x,y)->vw K H a=some (.lst xs)->Pv i xs H->tif (some x::some y::σr) H λb H3=>if b=true then te (some x::some y::σr) H3 (ym K a (ug K a σr (Pv (i+1)) (some x::some y::σr))) else ug K a σr (Pv (i+1)) (some x::some y::σr) H3)
  (hd:∀xs H,vw K H a=some (.lst xs)->Pv ps.length xs H->Q H):iS K J (fO K 2 (fQ (dR 0) (fQ (dR 1) ny))) tif te a (x0::x1::σr) H0 Q:=by
 refine⟨λi m σ H=>m=ps.length-i/\i<=ps.length/\ug K a σr (Pv i) σ H,⟨ps.length,by simp,Js _,⟨_,_,rfl⟩,_,ha,h0⟩,?_⟩
 rintro i m σ H ⟨rfl,hi,⟨y,z,rfl⟩,xs,hxs,p⟩;obtain⟨⟨q1,q2,q3⟩,q4⟩:=hl i xs H () hxs p;by_cases hlt:i<ps.length
 .refine .inr ⟨q1 i (),ug K a σr (Pv (i+1)),λσ' H' p'=>⟨ps.length-(i+1),(),rfl,hlt,p'⟩,λx H' y=>?_⟩;obtain⟨e,y2⟩:=q2 i x H' () y;subst e;obtain⟨b,e1,e2⟩:=q4 i _ _ (JE hlt);rw[e1] at y2;cases y2;exact⟨b,rfl,_,e2,rfl,_,_,rfl,_,_,rfl,rfl,hs i _ _ xs _ hlt (JE hlt) hxs p⟩
 .have e:i=ps.length:=();subst e;exact .inl ⟨hlen▸q3,hd xs H hxs p⟩
theorem jh{g q:Int}(hg:g≠0)(h:g∣q):q.fdiv g*g=q:=by
 obtain⟨m,rfl⟩:=h;rw[JQ g m,Int.mul_fdiv_cancel m hg]
theorem p9{a b:Int}(ha:0<=a)(hb:1<=b):a<=a*b:=by
 have:=Int.mul_le_mul_of_nonneg_left hb ha;nofun
theorem mq{b q:Int}(hb:0<b)(hq:0<q):0<q.fdiv (Int.gcd b q:Int)/\q.fdiv (Int.gcd b q:Int)<=q/\q∣b*q.fdiv (Int.gcd b q:Int)/\(Int.gcd b q:Int)≠0/\(Int.gcd b q:Int)<=q:=by
 have hg:(Int.gcd b q:Int)≠0:=by
  have:Int.gcd b q≠0:=λe=>by
   have:=(Int.gcd_eq_zero_iff.mp e).2;nofun
  nofun
 have hg0:0<(Int.gcd b q:Int):=();have e:=jh hg (Int.gcd_dvd_right b q);have hle:(Int.gcd b q:Int)<=q:=Int.le_of_dvd hq (Int.gcd_dvd_right b q);generalize q.fdiv (Int.gcd b q:Int)=c at e;obtain⟨m,hm⟩:=Int.gcd_dvd_left b q;have hc:0<c:=by
  refine Int.pos_of_mul_pos_left ?_ hg0;rw[e];exact hq
 refine⟨hc,?_,⟨m,?_⟩,hg,hle⟩
 .rw[<-e];exact p9 () ()
 .rw[<-e];generalize (Int.gcd b q:Int)=g at *
  rw[hm];rw[Int.mul_right_comm,JQ c g]
theorem Bt.le{n:Nat}{x y:Int}(h:Bt n y)(h0:0<=x)(hl:x<=y):Bt n x:=by
 unfold Bt at *
 nofun
theorem mH{q:Int×Int}{D:Int}{m n:Nat}(hq:Fq q)(hd:q.2∣D)(hD:0<D)(b1:Bt m D)(b2:Bt n q.1):((q.1*D.fdiv q.2:Int):Rat)=wv q*(D:Rat)/\Bt (m+n) (q.1*D.fdiv q.2)/\Bt m (D.fdiv q.2):=by
 have h2:q.2≠0:=by have:=hq.1;nofun
 have e:=jh h2 hd;have hp:0<D.fdiv q.2:=by
  refine Int.pos_of_mul_pos_left ?_ hq.1;rw[e];exact hD
 have hle:D.fdiv q.2<=D:=by
  have:=p9 (JH hp) (show 1<=q.2 by have:=hq.1;nofun)
  rw[e] at this;exact this
 have bm:=b1.le (JH hp) hle;refine⟨?_,(b2.mul bm).mono (),bm⟩;generalize D.fdiv q.2=c at *
 have h3:=ao h2;rw[<-e];unfold wv;simp only[JS];grind
def iB(x:Rat):Nat->Rat
 | 0=>1
 | k+1=>iB x k*x
def jF:List lL->Nat->Rat
 | [],_=>0
 | c::cs,k=>wv c.2*iB (wv c.1) k+jF cs k
theorem jm{G:Hp}:∀{cs:List lL}{xs:List V},av G (cs.map qZ) xs -> ∃ps:List (V×V),ps.length=cs.length/\(∀(j:Nat)(x y:V),ps[j]? = some (x,y) -> ∃p:Addr,xs[j]? = some (V.ref p)/\G p=some (HO.tup [x,y])) /\
  av G ((cs.map (·.1)).map fr) (ps.map (·.1))/\av G ((cs.map (·.2)).map fr) (ps.map (·.2))
 | [],xs,h=>⟨[],rfl,by simp,.mk_nil,.mk_nil⟩
 | c::cs,xs,h=>by
  obtain⟨x,r,rfl,h1,h2⟩:=av.cons_at h;obtain⟨ps,e1,e2,e3,e4⟩:=jm h2;obtain⟨a,u,v,rfl,ha,r1,r2⟩:=h1.spt_at;refine⟨(u,v)::ps,by simp[e1],λj x y e=>?_,.mk_cons r1 e3,.mk_cons r2 e4⟩
  cases j with
  | zero=>cases e;exact⟨a,rfl,ha⟩
  | succ j=>exact e2 j x y e
theorem jX(x:Rat)(k:Nat):iB x (k+1)=iB x k*x:=rfl
def gQ:List (Int×Int)->Rat
 | []=>0
 | q::qs=>wv q+gQ qs
theorem rQ(as bs:List (Int×Int)):gQ (as++bs)=gQ as+gQ bs:=by
 induction as with
 | nil=>show gQ bs=0+gQ bs;grind
 | cons a as ih=>show wv a+gQ (as++bs)=wv a+gQ as+gQ bs;rw[ih];grind
theorem lU{k:Nat}:∀{cs:List lL}{qs:List (Int×Int)},qs.length=cs.length->(∀(i:Nat)(q:Int×Int)(c:lL),qs[i]? = some q->cs[i]? = some c->wv q=wv c.2*iB (wv c.1) k)->gQ qs=jF cs k
 | [],[],_,_=>rfl
 | [],_::_,h,_=>by simp at h
 | _::_,[],h,_=>by simp at h
 | c::cs,q::qs,h,hw=>by
  show wv q+gQ qs=wv c.2*iB (wv c.1) k+jF cs k;rw[lU (cs:=cs) (qs:=qs) (by simpa using h) λi n d e1 e2=>hw (i+1) n d (by simpa using e1) (by simpa using e2),hw 0 q c rfl rfl]
theorem i8{d:D}(h:d.cmp):u7 d d=true:=SeqAt.eqv_refl _ h.1
def vA(p q:Int×Int):Int×Int:=lo (p.1*q.2-q.1*p.2) (p.2*q.2)
theorem vV{p q:Int×Int}(hp:Fq p)(hq:Fq q):Fq (vA p q):=fk (by have:=JP hp.1 hq.1;nofun)
theorem yJ{p q:Int×Int}(hp:p.2≠0)(hq:q.2≠0):wv (vA p q)=wv p-wv q:=by
 unfold vA;rw[fb (JR hp hq)];unfold wv;have h1:=ao hp;have h2:=ao hq;simp only[Rat.intCast_sub,JS];grind
theorem dI{q:Int×Int}(hq:q.2≠0):wv q=0↔q.1=0:=by
 have h2:=ao hq;unfold wv;constructor
 .intro h;have:(q.1:Rat)=0:=⋯;simpa using this
 .intro h;have:(q.1:Rat)=0:=by rw[h];rfl
  rw[this];grind
def cf(qs:List (Int×Int))(k:Nat):Rat:=match qs[k]? with
 | some q=>wv q
 | none=>0
def bH(qs:List (Int×Int)):Prop:=(∀q∈qs,Fq q) /\ ∀q,qs.getLast? = some q->q.1≠0
theorem Fq.ne{q:Int×Int}(h:Fq q):q.2≠0:=by have:=h.1;nofun
theorem aP{qs:List (Int×Int)}{k:Nat}{q:Int×Int}(h:qs[k]? = some q):cf qs k=wv q:=by unfold cf;rw[h]
theorem bK{qs:List (Int×Int)}{k:Nat}(h:qs.length<=k):cf qs k=0:=by unfold cf;rw[JW h]
theorem mJ{as bs:List (Int×Int)}(ha:bH as)(h:∀k,cf as k=cf bs k):as.length<=bs.length:=by
 by_cases hl:as.length<=bs.length
 .exact hl
 .have hn:0<as.length:=();have e1:as[as.length-1]? = some (as[as.length-1]'()):=JE ();have e2:=h (as.length-1);rw[aP e1,bK ()] at e2;have f:=ha.1 _ (JD (l:=as) (n:=as.length-1) ());exact absurd ((dI f.ne).mp e2) (ha.2 _ (by rw[JX];exact e1))
theorem rZ{as bs:List (Int×Int)}(ha:bH as)(hb:bH bs)(h:∀k,cf as k=cf bs k):as=bs:=by
 have hl:as.length=bs.length:=Nat.le_antisymm (mJ ha h) (mJ hb λk=>(h k).symm);apply List.ext_getElem?
 intro i;by_cases hi:i<as.length
 .have e1:=JE hi;have e2:=JE (show i<bs.length by nofun)
  have:=h i;rw[aP e1,aP e2] at this;rw[e1,e2,fe (ha.1 _ (JD hi)) (hb.1 _ (JD _)) this]
 .rw[JW (),JW ()]
theorem ud{qs:List (Int×Int)}{n:Nat}(hF:∀q∈qs,Fq q)(hz:∀q∈qs.drop n,q.1=0)(k:Nat):cf (qs.take n) k=cf qs k:=by
 by_cases hk:k<n
 .unfold cf;rw[List.getElem?_take,Jb hk]
 .unfold cf;rw[List.getElem?_take,Jc hk];cases e:qs[k]? with
  | none=>rfl
  | some q =>
   have hm:q∈qs.drop n:=Jy (i:=k-n) (by rw[List.getElem?_drop,show n+(k-n)=k by nofun];exact e)
   exact ((dI (hF q (Jy e)).ne).mpr (hz q hm)).symm
theorem lD{q:Int×Int}(h:Fq q):q=(0,1)↔q.1=0:=by
 constructor
 .rintro rfl;rfl
 .intro e;obtain⟨h1,h2⟩:=h;rw[e] at h2;have:q.2.natAbs=1:=by simpa using h2
  exact Prod.ext e (by show q.2=1;nofun)
def pz(f g:Nat->Int):Nat->Nat->Int
 | 0,_=>0
 | j+1,k=>pz f g j k+if j<=k then f j*g (k-j) else 0
theorem uG{n:Nat}:Bt n 0:=by
 show (0:Int).natAbs<2^n;exact Nat.two_pow_pos n
def lz{α:Type}(n:Nat)(h:Nat->α):List α:=(List.range n).map h
theorem aO{α:Type}{n:Nat}{h:Nat->α}:(lz n h).length=n:=by simp[lz]
theorem bG{α:Type}{n:Nat}{h:Nat->α}{i:Nat}(hi:i<n):(lz n h)[i]? = some (h i):=by simp[lz,hi]
theorem iY{α:Type}{n:Nat}{h g:Nat->α}(e:∀k,k<n->h k=g k):lz n h=lz n g:=by
 apply List.ext_getElem?
 intro i;by_cases hi:i<n
 .rw[bG hi,bG hi,e i hi]
 .rw[JW (by rw[aO];nofun),JW (by rw[aO];nofun)]
theorem yp{α:Type}{n:Nat}{h:Nat->α}{i:Nat}{v:α}:(lz n h).set i v=lz n λk=>if k=i then v else h k:=by
 apply List.ext_getElem?
 intro k;by_cases hk:k<n
 .rw[bG hk];by_cases e:k=i
  .subst e;rw[List.getElem?_set_self (by rw[aO];exact hk),Jb rfl]
  .rw[List.getElem?_set_ne (Ne.symm e),bG hk,Jc e]
 .rw[JW (by rw[List.length_set,aO];nofun),JW (by rw[aO];nofun)]
theorem nQ{α β:Type}{n:Nat}{h:Nat->α}(f:α->β):(lz n h).map f=lz n λk=>f (h k):=by simp[lz]
def nz(ns:List Int)(k:Nat):Int:=ns.getD k 0
theorem dZ{ns:List Int}{k:Nat}{n:Int}(h:ns[k]? = some n):nz ns k=n:=by simp[nz,JU,h]
theorem i9{ns:List Int}{k:Nat}(h:ns.length<=k):nz ns k=0:=by simp[nz,JU,JW h]
theorem wB{ns:List Int}{m:Nat}(h:∀n∈ns,Bt m n)(k:Nat):Bt m (nz ns k):=by
 cases e:ns[k]? with
 | none=>rw[i9 (List.getElem?_eq_none_iff.mp e)];exact uG
 | some n=>rw[dZ e];exact h n (Jy e)
theorem zF{n k:Nat}{h:Nat->Int}(hk:k<n):nz (lz n h) k=h k:=dZ (bG hk)
theorem ge{qs:List (Int×Int)}{ns:List Int}{D:Rat}(hl:ns.length=qs.length)(h:∀(i:Nat)(n:Int)(q:Int×Int),ns[i]? = some n->qs[i]? = some q->(n:Rat)=wv q*D)(i:Nat):((nz ns i:Int):Rat)=cf qs i*D:=by
 by_cases hi:i<qs.length
 .have e1:=JE hi;have e2:=JE (show i<ns.length by nofun)
  rw[dZ e2,aP e1];exact h i _ _ e2 e1
 .rw[i9 (),bK ()];show ((0:Int):Rat)=0*D;grind
theorem uh{n k:Nat}(h:k<n):ow n (k:Int)=some k:=by
 unfold ow;simp;nofun
theorem kc{X:Cx}:wV X (λo i H Q=>∃p k,o=.ref p/\i=.int k /\ ∃xs,vw X.K H p=some (.lst xs) /\ ∃v,iA xs k=some v/\Q v H):=by
 intro pins s σ H x y v u Q I rx ry h;obtain⟨p,k,rfl,rfl,xs,hx,z,he,q⟩:=h;cases rx;obtain⟨t,rfl⟩:=ry;obtain⟨its,r,pl,hz⟩:=I.list (f6.of (K:=X.K) (aI hx));obtain⟨j,h1,h2,h3,h4,h5⟩:=lh he;obtain⟨w,ew,rw'⟩:=r.get h2;have hl:=r.length;have hn:=gK;have fin:EP X pins σ Q w s:=⟨z,H,I,rw',q⟩;by_cases h0:0<=k
 .have hj:k.toNat=j:=by
   rw[seqIndex_of h0 h5] at h1;exact Ji h1
  exact wpAny_getItem_list pl.isList h0 () (by rw[hj];simpa using ew) fin
 .have hj:(k+(its.toArray.size:Int)).toNat=j:=by
   rw[seqIndex_neg () h4] at h1;rw[Jo,<-hl];exact Ji h1
  exact wpAny_getItem_list_neg pl.isList () (by rw[Jo]<;>nofun) () (by rw[hj];simpa using ew) fin
theorem oO{K:W.Frag}{H:Hp}{p:Addr}{xs:List V}(h:vw K H p=some (.lst xs)):nE K (.ref p) H (!xs.isEmpty):=.inl ⟨xs,.of (aI h),rfl⟩
theorem aw.none{G G':Hp}{c:Addr}(S:aw G G')(h:G' c=none):G c=none:=by
 cases e:G c with
 | none=>rfl
 | some o=>rw[S _ _ e] at h;cases h
theorem iR:Fq (0,1):=⟨∅,∅⟩
theorem pS{n:Nat}(h:1<=n):Bq n (0,1):=Bq.mono (m:=1) (q:=(0,1)) ⟨∅,∅⟩ h
theorem wy:wv (0,1)=0:=(dI (q:=(0,1)) ∅).mpr rfl
theorem t4{α:Type}(n:Nat)(x:α):(List.replicate n [x]).flatten=List.replicate n x:=by simp
theorem uw{α β:Type}(f:α->β)(n:Nat)(x:α):(List.replicate n x).map f=List.replicate n (f x):=by simp
theorem zM(q:Int×Int):(fr q).py=.tuple [.int q.1,.int q.2]:=by
 unfold fr;simp only[D.py,D.pys]
theorem nZ:∀(qs:List (Int×Int)),PyData.canLayAll0 (D.pys (qs.map fr))=true/\PyData.depthAll (D.pys (qs.map fr))<=4
 | []=>by
  simp only[List.map_nil,D.pys];exact⟨rfl,by simp[PyData.depthAll]⟩
 | c::cs=>by
  obtain⟨h1,h2⟩:=nZ cs;simp only[Jq,D.pys,zM,PyData.canLayAll0,PyData.canLay0,h1,PyData.depthAll,PyData.depth];refine⟨∅,?_⟩;nofun
theorem kP(fs:List (Int×Int)):(D.lst (fs.map fr)).cmp:=by
 obtain⟨h1,h2⟩:=nZ fs;unfold D.cmp;simp only[D.py,PyData.canLay0,PyData.depth];exact⟨h1,()⟩
structure qm (outer:List Env)(H H':Hp)(h:Heap)(B:Heap):Prop where
 b1:∀b,H' b≠none -> ∃o,B.get? b=some o
 b2:∀b o,h.get? b=some o->H b=none->b∉fG outer->B.get? b=some o
 b3:∀b o,h.get? b=some o->b∉fG outer -> ∃o',B.get? b=some o'
def mR(P:Program)(w:World):oV:=λouter H s E e s' =>
 ∃(a C:Addr)(a0:Value)(B:Heap)(H':Hp),e=.ref a/\s'.os=s.os/\AllBare s'.gens/\Un (fG outer) [] H H' s.heap s'.heap/\gG P w H' s'.heap /\
  Heap.FlyingW B outer a (.ref C) a0 s'.heap/\qm outer H H' s.heap B/\E (.ref C) none H'
theorem cZ.there{P:Program}{w:World}{H:Hp}{h:Heap}{a:Addr}{o:HO}(x:cZ P w H h a o):∃ob,h.get? a=some ob:=by
 cases o with
 | lst xs=>obtain⟨_,_,_,_,e⟩:=x;exact⟨_,e⟩
 | tup xs=>obtain⟨_,_,_,_,e,_⟩:=x;exact⟨_,e⟩
 | dK kvs=>obtain⟨_,_,_,_,o,_,_,e,_⟩:=x;exact⟨_,e⟩
 | dT kvs=>obtain⟨_,_,_,_,o,_,_,e,_⟩:=x;exact⟨_,e⟩
 | set S n=>obtain⟨o,_,_,_,e,_⟩:=x;exact⟨_,e⟩
 | ins C dx fs=>obtain⟨_,_,_,e,_⟩:=x;exact⟨_,e⟩
 | own y=>obtain⟨_,e⟩:=x;exact⟨_,e⟩
 | xd fs=>obtain⟨_,⟨_,_,_,e,_⟩,_⟩:=x;exact⟨_,e⟩
 | rng lo hi=>obtain⟨_,_,_,e⟩:=x;exact⟨_,e⟩
 | frz ob u=>obtain⟨e,_⟩:=x;exact⟨_,e⟩
 | tbl ps=>exact⟨_,show h.get? a=some _ from x⟩
 | met f y=>exact⟨_,show h.get? a=some _ from x⟩
 | ext φ=>obtain⟨_,e,_⟩:=x;exact e
theorem ir{P:Program}{w:World}{H:Hp}{h h':Heap}(x:gG P w H h)(k:∀b u,H b≠none->h.get? b=some u->h'.get? b=some u):gG P w H h':=λa o e =>
 (x a o e).stay (λb u hb q=>k b u (by
  rcases hb with rfl|z
  .rw[e];simp
  .rw[z];simp) q) (λ_ q=>q) λ_ _ q=>q
section
variable {X:Cx}{pins:List (Addr×Obj)}{σ:St}{H H':Hp}{s s':Shared}
theorem au.nofrs(I:au X pins σ H s) {b:Addr}(h:H b≠none):b∉fG X.stack:=λz=>h (I.stkFree b z)
theorem au.flyB(I:au X pins σ H s)(hx:X.ex=[])(hs:X.stack=X.env::X.outer)(hfr:X.env.frame=some X.env.locals) {B:Heap}(F:qm X.stack H H' s.heap B):qm X.outer X.H₀ H' X.s₀.heap B:=by
 have nL:∀b o,X.s₀.heap.get? b=some o->b∉fG X.outer->b∉fG X.stack:=λb o e n z=>by
  rcases JL.mp (I.stkSub b z) with q|q
  .exact absurd (Jd (Heap.lt_size e) (q▸I.ok.above)) (Je _)
  .exact n q
 have nx:∀b,b∉X.ex:=λb z=>by rw[hx] at z;exact absurd z (by simp)
 refine⟨F.b1,λb o e n nb=>?_,λb o e nb=>?_⟩
 .exact F.b2 b o (I.base.keep b o e n nb (nx b)) (I.base.free b o e n (nx b)) (nL b o e nb)
 .obtain⟨o',e'⟩:=I.base.there b o e (nx b);exact F.b3 b o' e' (nL b o e nb)
theorem au.flyUn(I:au X pins σ H s)(hx:X.ex=[])(hs:X.stack=X.env::X.outer)(hfr:X.env.frame=some X.env.locals) {B h h':Heap}(F:qm X.stack H H' s.heap B)(u:Un (fG X.stack) [] H H' s.heap h)(hB:B.StaysIn h')(up:h.UpToSlots h'):Un (fG X.outer) [] X.H₀ H' X.s₀.heap h':=by
 have FB:=I.flyB hx hs hfr F;have nx:∀b,b∉X.ex:=λb z=>by rw[hx] at z;exact absurd z (by simp)
 have n0:∀b:Addr,b∉([]:List Addr):=λb z=>absurd z (by simp)
 have frame:∀b,b∈fG X.outer -> ∀o,X.s₀.heap.get? b=some o -> ∃sl,h'.get? b=some { o with slots:=sl }:=λb hb o e=>by
  have hfree:=I.ok.frf b hb;obtain⟨sl,e1⟩:=I.base.slot b o e hfree hb (nx b);have h1:=I.base.free b o e hfree (nx b);obtain⟨sl2,e2⟩:=u.any e1 h1 (n0 b);obtain⟨_,o',e3,hd⟩:=I.ok.funs.mem hb;rw[e] at e3;cases e3;obtain⟨sl3,e4⟩:=up b _ e2 hd;exact⟨sl3,e4⟩
 refine⟨λb o e n nb _=>hB b o (FB.b2 b o e n nb),λb o e n nb _=>frame b nb o e,λb o e n _=>?_,λb o e _=>?_,λb xs e=>u.tups b xs (I.base.tups b xs e),λb o v e=>u.frzs b o v (I.base.frzs b o v e),λb ps e=>?_⟩
 .obtain⟨o',e1⟩:=I.base.there b o e (nx b);exact u.free b o' e1 (I.base.free b o e n (nx b)) (n0 b)
 .by_cases hb:b∈fG X.outer
  .obtain⟨sl,q⟩:=frame b hb o e;exact⟨_,q⟩
  .obtain⟨o',q⟩:=FB.b3 b o e hb;exact⟨o',hB b o' q⟩
 .obtain⟨m1,e1⟩:=I.base.tbls b ps e;obtain⟨m2,e2⟩:=u.tbls b _ e1;exact⟨m1++m2,by rw[e2,Array.append_assoc]⟩
theorem au.raised{E:XK}{e C:Addr}{vs:List Value}{h':Heap}{Q':Value->Shared->Prop}{M:Model}(I:au X pins σ H s)(hx:X.ex=[])(hs:X.stack=X.env::X.outer)(hfr:X.env.frame=some X.env.locals)
  (hm:Heap.MadeExcOf s.heap h' e (.ref C) vs)(hE:E (.ref C) none H) {g:Array GenState}{d:Drawn}{t:Tok}{os:OsState}(hos:os=s.os)(hg:AllBare g) :
  wpAny M X.A (leaving X.env (.ref e)) (λ_ s''=>mR X.prog X.w X.outer X.H₀ X.s₀ E (.ref e) s'') Q' ⟨h',g,d,t,os⟩:=by
 have hfr':X.A.frames=some (X.env::X.outer):=by rw[I.ok.frames,hs]
 have hin:∀env∈X.stack,∀b,env.frame=some b->b∈fG X.stack:=λenv he b hb=>List.mem_filterMap.mpr ⟨env,he,hb⟩;have st:=I.stack;have FF:=PySem.W.funFrames_hide st hin;have hkb:(PySem.W.hideAll s.heap (fG X.stack)).StaysIn s.heap:=λb o q=>PySem.W.of_hideAll _ q;have FF2:s.heap.FunFrames (PySem.W.hideAll s.heap (fG X.stack)) (X.env::X.outer):=by
  have z:=FF;rw[show X.stack=X.env::X.outer from hs] at z ⊢
  exact z
 refine wpAny_leaves_madeW (s:=⟨h',g,d,t,os⟩) hfr' hfr hkb FF2 hm λh2 t2 fl tup nt up=>?_;have up2:s.heap.UpToSlots h2:=(Heap.UpToSlots.of_keeps hm.keeps).trans up;have getB:∀b o,s.heap.get? b=some o->b∉fG X.stack->(PySem.W.hideAll s.heap (fG X.stack)).get? b=some o:=λb o e n=>PySem.W.hideAll_get _ e n;have F:qm X.stack H H s.heap (PySem.W.hideAll s.heap (fG X.stack)):=⟨λb hb=>by
  cases q:H b with
  | none=>exact absurd q hb
  | some u =>
   obtain⟨o,ho⟩:=(I.hok b u q).there;exact⟨o,getB b o ho (I.nofrs hb)⟩,λb o e _ nb=>getB b o e nb,λb o e nb=>⟨o,getB b o e nb⟩⟩
 refine⟨e,C,.ref t2,_,H,rfl,?_,?_,?_,?_,fl,I.flyB hx hs hfr F,hE⟩
 .show os=_;rw[hos];exact I.os
 .exact hg
 .exact I.flyUn hx hs hfr F (h:=s.heap) ⟨λ_ _ q _ _ _=>q,λ_ o q _ _ _=>⟨o.slots,q⟩,λ_ _ _ q _=>q,λ_ o q _=>⟨o,q⟩,λ_ _ q=>q,λ_ _ _ q=>q,λb ps q=>⟨#[],by rw[q];simp⟩⟩ fl.1 up2
 .exact ir I.hok λb u hb q=>fl.1 b u (getB b u q (I.nofrs hb))
end
abbrev wE:List Value:=[.type "ValueError",.type "Exception",.type "BaseException",.type "object"]
def no(K:W.Frag)(C:Addr):Prop:=PySem.W.excIn K C wE "ValueError.__new__" = true
theorem no.obj{K:W.Frag}{h:Heap}{C:Addr}(KX:K.In h)(z:no K C):∃tl N nm qn bs y1 sn sb ab cl dd j0 j1 j2 j3 j5 mN,
  h.get? C=some (excClassObj nm qn C N bs tl y1 sn sb ab cl dd j0 j1 j2 j3 j5 "ValueError.__new__")/\h.Ns N mN/\mN "__init__" = none/\OwnTail h wE tl:=by
 unfold no PySem.W.excIn at z;split at z
 case h_2=>cases z
 case h_1 ob dct cdt sls look =>
  split at z
  case h_2=>cases z
  case h_1 C2 tl j0 j1 j2 j3 nid j5 hmro hsls =>
   rw[JB,JB,JB,JB,JB] at z;obtain⟨⟨⟨⟨⟨z1,z2⟩,z3⟩,z4⟩,z5⟩,z6⟩:=z;have c1:=beq_iff_eq.mp z1;have c2:=beq_iff_eq.mp z2;have c6:=beq_iff_eq.mp z6;subst c1 c2;have c3:cdt.hasDel=false:=by simpa using z3
   have c7:sls = #[j0,j1,j2,j3,some (.builtin "ValueError.__new__"),j5]:=by
    cases sls with
    | mk l=>exact Jj Array.mk hsls
   have G:=KX _ _ look;cases cdt with
   | mk nm bs mro ns qn hd sn sb ab cl del =>
    cases hmro;cases c3;rw[c7] at G;exact⟨tl,ns,nm,qn,bs,hd,sn,sb,ab,cl,dct,j0,j1,j2,j3,j5,_,G,.of_isNs (PySem.W.isNs_of_in KX z5),PySem.W.nsMap_none_of_in KX z5 c6,PySem.W.tail_of_in KX z4⟩
def m7(E:XK)(C:Addr)(t:TA):TS:=λ_ σ H=>t σ H λvs H1=>vs.length<=1000/\E (.ref C) none H1
section
variable {P:Program}{w:World}{K:W.Frag}{mg:Str->Option Value}{base:Heap}{N:List Str}{qual:Str}{scope:Scope}{f:Addr}{cd:Value}{A:Around}{outer:List Env}{s₀:Shared}{H₀:Hp}{E:XK}{C:Addr}
theorem tf{x:Str}{np cpos pos:Pos}{e:Expr}{es:List Expr}{t:TA}(z:no K C)(hg:Gl (fM (mR P w) P w K mg base N qual scope f cd A outer s₀ H₀ E) x)(hm:mg x=some (.ref C))
  (ha:PA (fM (mR P w) P w K mg base N qual scope f cd A outer s₀ H₀ E) (e::es) t)(hdb:(x==("__debug__" : Str))=false:=by decide)
  (he:starEach (e::es) (envOfC qual scope s₀.heap.objs.size f cd)=(false,eval e (envOfC qual scope s₀.heap.objs.size f cd))::starEach es (envOfC qual scope s₀.heap.objs.size f cd):=by rfl)(hpl:(backTo cpos (starEach es (envOfC qual scope s₀.heap.objs.size f cd))).any (·.1)=false:=by rfl) :
  PS (fM (mR P w) P w K mg base N qual scope f cd A outer s₀ H₀ E) (.Raise (some (.Call (.Name x np) (e::es) [] cpos)) none pos) (m7 E C t):=by
 intro pins s σ H D I h;obtain⟨tl,N',nm,qn,bs,y1,sn,sb,ab,cl,dd,j0,j1,j2,j3,j5,mN,hC,hN,hni,T⟩:=z.obj I.ok.mod.kin;refine wpAny_Raise_call_subU (nm:=nm) (q:=qn) (C:=C) (N:=N') (bs:=bs) (bm:=tl) (hdct:=y1) (sn:=sn) (sub:=sb) (ab:=ab) (col:=cl) (dd:=dd) (k0:=j0) (k1:=j1) (k2:=j2) (k3:=j3) (k5:=j5)
  PySem.F.excBase_ValueError ∅ PySem.F.excBase_ValueError (mN:=mN) (T.hasType ∅) (I.ok.hd rfl) ?_ hni (gD I hg hm ⟨rfl,?_⟩ hdb)
 .show (backTo cpos (starEach (e::es) (envOfC qual scope s₀.heap.objs.size f cd))).any (·.1)=false;rw[he];show (false || (backTo cpos (starEach es (envOfC qual scope s₀.heap.objs.size f cd))).any (·.1))=false
  rw[hpl];rfl
 .have go:=ha cpos pins s σ H _ I h;show wpAny _ _ (evalArgs (.ref C) true (backTo cpos (starEach (e::es) (envOfC qual scope s₀.heap.objs.size f cd))) []) _ _ _;have go':wpAny (model P w) (A.deeper (envOfC qual scope s₀.heap.objs.size f cd)) (spliced (backTo cpos (starEach (e::es) (envOfC qual scope s₀.heap.objs.size f cd)))) _ _ s:=go;rw[he] at go' ⊢;refine Calls.evalArgs_plain (bi go' λus s1 ⟨vs,H1,I1,r,q⟩=>?_);obtain⟨hl,q⟩:=q;refine⟨rfl,?_,I1.bk _ _ hC,hN.keeps I1.bk,T.keeps I1.bk,λh' ea hm'=>?_⟩
  .show us.length<=sizeLine;rw[<-r.length];exact Jg hl ∅
  .exact I1.raised rfl rfl rfl hm' q rfl I1.bare
end
end L2
namespace L2
open PySem PySem.Spec PyProof.Rows
def PX(X:Cx)(e:Expr)(t:St->Hp->XK->Prop):Prop :=
 ∀(pins:List (Addr×Obj))(s:Shared)(σ:St)(H:Hp)(E:XK),au X pins σ H s->t σ H E->wpAny (model X.prog X.w) X.A (eval e X.env) (λ_ _=>False) (λev s'=>∃s1 H1,au X pins σ H1 s1/\mR X.prog X.w X.stack H1 s1 E ev s') s
section
variable {X:Cx}{pins:List (Addr×Obj)}{σ:St}{H H':Hp}{s s':Shared}
theorem au.landed{B h:Heap}(I:au X pins σ H s)(F:qm X.stack H H' s.heap B)(u:Un (fG X.stack) [] H H' s.heap s'.heap)(hok:gG X.prog X.w H' s'.heap)(hs':B.StaysIn s'.heap)(hB:B.StaysIn h)(up:s'.heap.UpToSlots h)(hos:s'.os=s.os)(hg:AllBare s'.gens) :
  au X pins σ H' { s' with heap:=h }:=by
 obtain⟨h1,g1,d1,t1,os1⟩:=s';have e0:os1=s.os:=hos;subst e0;have n0:∀b:Addr,b∉([]:List Addr):=λb z=>absurd z (by simp)
 have slots:∀b,b∈fG X.stack -> ∀o,s.heap.get? b=some o->H b=none -> ∃sl,h.get? b=some { o with slots:=sl }:=λb hb o e n=>by
  obtain⟨sl,e1⟩:=u.any e n (n0 b);obtain⟨_,o',e3,hd⟩:=I.stack.mem hb;rw[e] at e3;cases e3;obtain⟨sl2,e2⟩:=up b _ e1 hd;exact⟨sl2,e2⟩
 have nst:∀b,b≠X.env.locals->b∉X.fs->b∉fG X.stack:=λb h1 h2 z=>(JL.mp (I.stkSub b z)).elim h1 h2;have hfin:gG X.prog X.w H' h:=ir hok λb v hb z=>by
  obtain⟨o,ho⟩:=F.b1 b hb;have e1:=hs' b o ho;have e2:h1.get? b=some v:=z;rw[e2] at e1;cases e1;exact hB b _ ho
 have key:=I.step (h':=h) (g':=g1) (d':=d1) (t':=t1) (ch:=[]) (λ_ z=>nomatch z) (λb o hL hf _ e n=>hB b o (F.b2 b o e n (nst b hL hf)))
  (λb o hL hf _ e n=>?_) (λb o _ e n=>u.free b o e n (n0 b)) (λb o _ e=>?_) u.tups u.frzs u.tbls (λm hm=>?_) hfin hg
 .exact key
 .by_cases hb:b∈fG X.stack
  .exact slots b hb o e n
  .exact⟨o.slots,hB b o (F.b2 b o e n hb)⟩
 .by_cases hb:b∈fG X.stack
  .obtain⟨sl,q⟩:=slots b hb o e (I.stkFree b hb);exact⟨_,q⟩
  .obtain⟨o',q⟩:=F.b3 b o e hb;exact⟨o',hB b o' q⟩
 .obtain⟨o,es,ep,ho,hd,r⟩:=hm;by_cases hb:X.env.locals∈fG X.stack
  .obtain⟨sl,q⟩:=slots _ hb o ho I.free;exact⟨_,es,ep,q,hd,r⟩
  .exact⟨o,es,ep,hB _ o (F.b2 _ o ho I.free hb),hd,r⟩
abbrev Cx.marked (X:Cx)(v:Value):Cx:={ X with A:=X.A.mark (some v),calm:=false,xe:=λ_ _=>False }
theorem au.mark(I:au X pins σ H s)(v:Value):au (X.marked v) pins σ H s :=
 ⟨⟨I.ok.mod,I.ok.kind,I.ok.glob,I.ok.blt,I.ok.above,I.ok.inj,I.ok.has,I.ok.cab,(λz=>nomatch z),I.ok.frames,I.ok.stk,I.ok.exf,I.ok.bs,I.ok.bsz,I.ok.noex,I.ok.exfs,I.ok.funs,I.ok.frf⟩,I.os,I.bare,I.base,I.loc,I.cell,I.free,I.freeC,I.pin,I.hok,I.len⟩
theorem au.unmark{v:Value}(I:au (X.marked v) pins σ H s)(ok:X.Ok):au X pins σ H s:=⟨ok,I.os,I.bare,I.base,I.loc,I.cell,I.free,I.freeC,I.pin,I.hok,I.len⟩
end
structure QX (X:Cx)(e:Expr)(t:St->Hp->XK->Prop):Prop where
 h:PX X e t
section
variable {P:Program}{w:World}{K:W.Frag}{mg:Str->Option Value}{base:Heap}
theorem cn.okX{x qual:Str}{st:Stmt}{f:Addr}{fd:FuncData}{N ps:List Str}{k:Nat}{sp:Sp}(F:cn K x qual st f fd)(S:ar N ps (ai st))(len:∀vs H Q E,sp vs H Q E->vs.length=ps.length)
  (hbody:∀(cdv:Value)(A:Around)(outer:List Env)(s:Shared)(H:Hp)(vs:List V)(Q:VK)(E:XK),b9 k (A.deeper (envOfC qual (ai st) s.heap.objs.size f cdv))->sp vs H Q E ->
   ∃t,qb (fM (mR P w) P w K mg base N qual (ai st) f cdv A outer s H E) (bj st) t/\t { nx:=λ_ H'=>Q .non H',rt:=Q } (start N vs) H):aR P w K mg base (mR P w) (k+1) f fd ps sp:=by
 obtain⟨oc,od,kV,doc,pm,an,cdv,ct,osl,rfl,lk,hcd⟩:=F.ex;refine wG lk hcd S len λA outer s H vs Q E hr hsp=>?_;obtain⟨t,h,q⟩:=hbody cdv A outer s H vs Q E hr hsp;exact⟨t,h.h,q⟩
theorem mn{N:List Str}{qual:Str}{scope:Scope}{f:Addr}{cd:Value}{A:Around}{outer:List Env}{s₀:Shared}{H₀:Hp}{E:XK}{C:Addr}{x:Str}{np cpos pos:Pos}{e:Expr}{es:List Expr}{t:TA}(z:no K C)(hg:Gl (fM (mR P w) P w K mg base N qual scope f cd A outer s₀ H₀ E) x)(hm:mg x=some (.ref C))
  (ha:QA (fM (mR P w) P w K mg base N qual scope f cd A outer s₀ H₀ E) (e::es) t)(hdb:(x==("__debug__" : Str))=false:=by decide)
  (he:starEach (e::es) (envOfC qual scope s₀.heap.objs.size f cd)=(false,eval e (envOfC qual scope s₀.heap.objs.size f cd))::starEach es (envOfC qual scope s₀.heap.objs.size f cd):=by rfl)(hpl:(backTo cpos (starEach es (envOfC qual scope s₀.heap.objs.size f cd))).any (·.1)=false:=by rfl) :
  QS (fM (mR P w) P w K mg base N qual scope f cd A outer s₀ H₀ E) (.Raise (some (.Call (.Name x np) (e::es) [] cpos)) none pos) (m7 E C t):=⟨tf z hg hm ha.h hdb he hpl⟩
end
def nF(mg:Str->Option Value)(base:Heap):Prop:=∃bm o,mg "__builtins__" = some (.ref bm)/\bm≠builtinsNs/\bm≠mainGlobals/\base.get? bm=some o/\o.cls=.type "module" /\ o.dict=some builtinsNs/\o.data=.plain
def zU(ts:List (Addr×Addr))(H:Hp):Prop:=∀b,H b=none\/(∃o xs,H b=some (.frz o (.lst xs)))\/(H b=some (.tbl #[]) /\ ∃q∈ts,q.2=b)
theorem qt{P:Program}{w:World}{K:W.Frag}{mg mb:Str->Option Value}{CX:oV}{k:Nat}{fa a:Addr}{fd:FuncData}{x:Str}{sp:Sp}{s₁:Shared}{vs:List Value}{ns:List Int}{ts:List (Addr×Addr)}
  (KX:K.In s₁.heap)(hns:s₁.heap.Ns mainGlobals mg)(hb:s₁.heap.Ns builtinsNs mb)(hbb:∀x:Str,x ≠ "__name__" -> mb x=bootBuiltins x) (hlim:s₁.heap.NoLimit)(hg:s₁.gens = #[])
  (ha:s₁.heap.get? a=some { cls:=.type "list",data:=.seq vs.toArray }) (hi:IntsAre vs ns)(hl:ns.length<=sizeLine)(hr:b9 k callerA)(hT:∀q∈ts,PySem.W.codeHdIn K q.1 q.2=true/\K.lookup q.2=none/\s₁.heap.get? q.2=some (PySem.W.tabObj #[]))
  (hB:nF mg s₁.heap)(hSr:s₁.heap.NoSeer)(F:∀base:Heap,K.In base->base.Ns mainGlobals mg->nF mg base->base.NoSeer->aR P w K mg base CX k fa fd [x] sp)(hbind:∀(s:Shared)(u:Value),BindsTo s fd ⟨[u],[]⟩ [(x,u)])
  (hsp:∀H:Hp,(∀q∈ts,vw K H q.2=some (.tbl #[]))->(H a≠none->K.lookup a=none)->f6 K H a (ns.map V.int)->sp [.ref a] H (λv _=>v=.bl true) λ_ _ _=>False)
  (hCX:∀H e s',CX [] H s₁ (λ_ _ _=>False) e s'->False) :
  codeAny (model P w) callerA (.call (.ref fa) ⟨[.ref a],[]⟩) (λr s'=>r=.ok (.ret (.bool true))/\OldK s₁.heap s'.heap/\s'.os=s₁.os/\AllBare s'.gens) s₁:=by
 have rv:=jN hi;have lenV:=hi.length;have na:∀q∈ts,q.2≠a:=λq hq z=>by
  have:=(hT q hq).2.2;rw[z,ha] at this;cases this
 have core:∀H:Hp,zU ts H->(∀q∈ts,H q.2=some (.tbl #[]))->f6 K H a (ns.map V.int)->gG P w H s₁.heap->(∀b,H b≠none->b=a \/ ∃q∈ts,q.2=b)->(H a≠none->K.lookup a=none) ->
   codeAny (model P w) callerA (.call (.ref fa) ⟨[.ref a],[]⟩) (λr s'=>r=.ok (.ret (.bool true))/\OldK s₁.heap s'.heap/\s'.os=s₁.os/\AllBare s'.gens) s₁:=by
  intro H hO hTT hS hok hA hK;have base_of:∀{b:Addr}{o:Obj},s₁.heap.get? b=some o->H b=none->(jg s₁.heap H).get? b=some o:=λe n=>rk e n;have noA:∀{b:Addr}{o:Obj}{es:Array DictEntry}{ep:Nat},s₁.heap.get? b=some o->o.data=.dict es ep->H b=none:=λ{b o es ep} e d=>by
   cases q:H b with
   | none=>rfl
   | some u =>
    rcases hA b (by rw[q];simp) with e'|⟨y,hy,e'⟩
    .subst e';rw[ha] at e;cases e;have d':Data.seq vs.toArray _=Data.dict es ep:=d;cases d'
    .subst e';rw[(hT y hy).2.2] at e;cases e;have d':Data.fields (#[]:Array Value)=Data.dict es ep:=d;cases d'
  have nsK:∀{b:Addr}{m:Str->Option Value},s₁.heap.Ns b m->(jg s₁.heap H).Ns b m:=λ{b m} ⟨o,es,ep,e,d,r⟩=>⟨o,es,ep,base_of e (noA e d),d,r⟩;have hKb:K.In (jg s₁.heap H):=λb o e=>base_of (KX b o e) (by
   cases q:H b with
   | none=>rfl
   | some u =>
    rcases hA b (by rw[q];simp) with e'|⟨y,hy,e'⟩
    .subst e';rw[hK (by rw[q];simp)] at e;cases e
    .subst e';rw[(hT y hy).2.1] at e;cases e)
  have hM:Mod K mg (jg s₁.heap H):=⟨hKb,nsK hns,⟨mb,nsK hb,hbb⟩,let ⟨mc,h1,h2⟩:=hlim;⟨mc,nsK h1,h2⟩⟩;have e0:nK P w K mg (jg s₁.heap H) callerA [] s₁ H:=⟨rfl,hM,λb o e=>uj e,Nat.le_of_eq (qo _ _),trivial,λb hb=>absurd (show b∈([]:List Addr) from hb) (by simp),hok,.of_eq hg⟩
  have hBb:nF mg (jg s₁.heap H):=by
   obtain⟨bm,ob,b1,b2,b3,b4,b5,b6,b7⟩:=hB;refine⟨bm,ob,b1,b2,b3,base_of b4 ?_,b5,b6,b7⟩;cases q:H bm with
   | none=>rfl
   | some u =>
    rcases hA bm (by rw[q];simp) with e'|⟨y,hy,e'⟩
    .rw[e',ha] at b4;cases b4;simp at b5
    .rw[<-e',(hT y hy).2.2] at b4;cases b4;cases b5
  have hSb:(jg s₁.heap H).NoSeer:=by
   refine⟨let ⟨mc,a,b⟩:=hSr.statics;⟨mc,nsK a,b⟩,let ⟨mm,a,b⟩:=hSr.mods;⟨mm,nsK a,b⟩,let ⟨mb,a,b⟩:=hSr.imp;⟨mb,nsK a,b⟩,?_⟩;obtain⟨mg',bm,ob,b1,b2,b4,b5,b6⟩:=hSr.main;refine⟨mg',bm,ob,nsK b1,b2,base_of b4 ?_,b5,b6⟩;cases q:H bm with
   | none=>rfl
   | some u =>
    rcases hA bm (by rw[q];simp) with e'|⟨y,hy,e'⟩
    .rw[e',ha] at b4;cases b4;simp at b5
    .rw[<-e',(hT y hy).2.2] at b4;cases b4;cases b5
  refine codeAny_mono ((F _ hKb (nsK hns) hBb hSb).run callerA [] s₁ H ⟨[.ref a],[]⟩ [.ref a] [.ref a] _ _ hr e0 (hbind s₁ (.ref a)) (.cons rfl .nil) (hsp H (λq hq=>(bv (hT q hq).2.1).trans (hTT q hq)) hK hS)) λr s' h=>?_;cases r with
  | error e=>exact (hCX H e s' h).elim
  | ok fl =>
   cases fl with
   | next=>exact False.elim h
   | brk=>exact False.elim h
   | cont=>exact False.elim h
   | ret u =>
    obtain⟨v,H',os,bare,un,hok',r',q⟩:=h;have q':v=.bl true:=q;subst q';obtain rfl:u=Value.bool true:=r';have key:∀b o,s₁.heap.get? b=some o->s'.heap.get? b=some o\/((∃y∈ts,y.2=b)/\o=PySem.W.tabObj #[] /\ ∃more,s'.heap.get? b=some (PySem.W.tabObj more)):=λb o e=>by
     cases q:H b with
     | none=>exact .inl (un.keep b o e q (by intro z;exact absurd (show b∈([]:List Addr) from z) (by simp)) (by simp))
     | some u =>
      rcases hO b with z|⟨ob,xs,z⟩|⟨z,y,hy,e'⟩
      .rw[q] at z;cases z
      .have z2:=un.frzs b ob _ z;obtain⟨e1,_⟩:=hok b _ z;obtain⟨e2,_⟩:=hok' b _ z2;rw[e] at e1;cases e1;exact .inl e2
      .obtain⟨more,z2⟩:=un.tbls b #[] z;have e1:s₁.heap.get? b=some (PySem.W.tabObj #[]):=hok b _ z;have e2:s'.heap.get? b=some (PySem.W.tabObj (#[]++more)):=hok' b _ z2;rw[e] at e1;cases e1;exact .inr ⟨⟨y,hy,e'⟩,rfl,_,e2⟩
    refine⟨rfl,⟨λb o e=>?_,λb o e=>?_⟩,os,bare⟩
    .rcases key b o e with z|⟨⟨y,hy,e'⟩,z1,more,z2⟩
     .exact .inl z
     .subst z1 e';have cd:=PySem.W.codeHd_of_K KX (hT y hy).1;exact .inr (.inl ⟨(cd.tab (hT y hy).2.2).isCodeTable,rfl,#[],more,rfl,by rw[z2];simp⟩)
    .rcases key b o e with z|⟨_,_,more,z2⟩
     .exact⟨o,z⟩
     .exact⟨_,z2⟩
 have dec:∀b,Decidable (∃q∈ts,q.2=b):=λb=>Classical.propDecidable _;have tabH:∀q∈ts,cZ P w (λ_=>none) s₁.heap q.2 (.tbl #[]):=λq hq=>(hT q hq).2.2;cases hk:K.lookup a with
 | some o =>
  have e:=KX a o hk;rw[ha] at e;cases e;refine core (λb=>@ite _ (∃q∈ts,q.2=b) (dec b) (some (.tbl #[])) none) (λb=>?_) (λq hq=>Jb ⟨q,hq,rfl⟩) (.inr ⟨_,vs.toArray,_,hk,rfl,rfl,rfl,by rw[Jo,lenV];exact hl,by simpa using rv⟩) (λb u z=>?_) (λb z=>?_) λz=>?_
  .by_cases hb:∃q∈ts,q.2=b
   .exact .inr (.inr ⟨Jb hb,hb⟩)
   .exact .inl (Jc hb)
  .by_cases hb:∃q∈ts,q.2=b
   .have z':=(Jb hb).symm.trans z;cases z';obtain⟨q,hq,rfl⟩:=hb;exact (hT q hq).2.2
   .have z':=(Jc hb).symm.trans z;cases z'
  .by_cases hb:∃q∈ts,q.2=b
   .exact .inr hb
   .exact absurd (Jc hb) z
  .have:¬ ∃q∈ts,q.2=a:=λ⟨q,hq,e⟩=>na q hq e;exact absurd (Jc this) z
 | none =>
  have ia:¬ ∃q∈ts,q.2=a:=λ⟨q,hq,e⟩=>na q hq e;refine core (λb=>if b=a then some (.frz { cls:=.type "list",data:=.seq vs.toArray } (.lst (ns.map V.int))) else @ite _ (∃q∈ts,q.2=b) (dec b) (some (.tbl #[])) none) (λb=>?_) (λq hq=>?_) (.inl (.inr ⟨{ cls:=.type "list",data:=.seq vs.toArray },Jb rfl⟩)) (λb u z=>?_) (λb z=>?_) λ_=>hk
  .by_cases hb:b=a
   .exact .inr (.inl ⟨_,_,Jb hb⟩)
   .by_cases hb2:∃q∈ts,q.2=b
    .exact .inr (.inr ⟨(Jc hb).trans (Jb hb2),hb2⟩)
    .exact .inl ((Jc hb).trans (Jc hb2))
  .exact (Jc (na q hq)).trans (Jb ⟨q,hq,rfl⟩)
  .by_cases hb:b=a
   .have z':=(Jb hb).symm.trans z;cases z';subst hb;exact⟨ha,by rw[Jr];exact hl,vs,_,rv,ha⟩
   .by_cases hb2:∃q∈ts,q.2=b
    .have z':=((Jc hb).trans (Jb hb2)).symm.trans z;cases z';obtain⟨q,hq,rfl⟩:=hb2;exact (hT q hq).2.2
    .have z':=((Jc hb).trans (Jc hb2)).symm.trans z;cases z'
  .by_cases hb:b=a
   .exact .inl hb
   .by_cases hb2:∃q∈ts,q.2=b
    .exact .inr hb2
    .exact absurd ((Jc hb).trans (Jc hb2)) z
theorem walk_ofM{l:PySem.W.OpenLaw}{n k:Nat}{q:Program}{loose:List Str}{XP:(Str->Option Value)->Heap->Prop}{YP:World->Heap->Prop}{d:DefRec}{K:Params->W.Frag}{CX:World->oV}{sp:World->Sp}{x:Str}(ts:World->List (Addr×Addr))
  (hn:l.most=some n)(hn2:n<=sizeLine)(hdf:d.params.defaults=[])(hr:b9 k callerA)(hi:importsNone q=true)
  (hY:∀(w:World)(h:Heap),YP w h->(K w.params).In h /\ ∀q∈ts w,PySem.W.codeHdIn (K w.params) q.1 q.2=true/\(K w.params).lookup q.2=none/\h.get? q.2=some (PySem.W.tabObj #[]))
  (F:∀(w:World)(mg:Str->Option Value)(fa:Addr)(h:Heap),(K w.params).In h->h.Ns mainGlobals mg->mg d.name=some (.ref fa) ->
   ∃fd:FuncData,(∀(s:Shared)(u:Value),BindsTo s fd ⟨[u],[]⟩ [(x,u)]) /\
    ∀base:Heap,(K w.params).In base->base.Ns mainGlobals mg->nF mg base->base.NoSeer->aR l.prog w (K w.params) mg base (CX w) k fa fd [x] (sp w))
  (hsp:∀(w:World)(H:Hp)(a:Addr)(ns:List Int),ns.length<=n->(∀q∈ts w,vw (K w.params) H q.2=some (.tbl #[]))->(H a≠none->(K w.params).lookup a=none)->f6 (K w.params) H a (ns.map V.int)->sp w [.ref a] H (λv _=>v=.bl true) λ_ _ _=>False)
  (hCX:∀(w:World)(H:Hp)(s:Shared)(e:Value)(s':Shared),CX w [] H s (λ_ _ _=>False) e s'->False) :
  PySem.W.WalkO q loose XP YP l.row.toRowW d [] (λf vs=>PySem.call f vs):=by
 refine Att.attach_call hn hdf λw s₀ s₁ mg mb fa o pm cd doc a vs ns G Y ho hd hcd hmg hobj hints hlen hg=>?_;obtain⟨KX,hT⟩:=hY w _ Y;obtain⟨fd,hb,hF⟩:=F w mg fa _ KX G.T.g hmg;have hB:nF mg s₁.heap:=by
  obtain⟨bm,ob,b1,b2,b3,b4,b5,b6⟩:=G.T.bmain;refine⟨bm,ob,b1,b2,λz=>?_,b3,b4,b5,b6⟩;obtain⟨o,es,ep,e,hd',_⟩:=G.T.g;rw[z,e] at b3;cases b3;rw[hd'] at b6;cases b6
 exact qt KX G.T.g G.T.b G.T.builtins G.T.nolimit hg hobj hints (Jg hlen hn2) hr hT hB (G.T.seer hi) hF hb (λH hTT hK hS=>hsp w H a ns hlen hTT hK hS) λH e s'=>hCX w H s₁ e s'
def aK(f g:Nat->Rat):Nat->Rat
 | 0=>0
 | n+1=>aK f g n+f n*g n
theorem rP{f g:Nat->Int}{F G:Nat->Rat}{c d:Rat}(hf:∀i,(f i:Rat)=F i*c)(hg:∀i,(g i:Rat)=G i*d):∀n,((gH (lz n λi=>f i*g i):Int):Rat)=aK F G n*(c*d)
 | 0=>by
  show ((0:Int):Rat)=0*(c*d);have:((0:Int):Rat)=0:=rfl;rw[this];grind
 | n+1=>by
  have e:lz (n+1) (λi=>f i*g i)=lz n (λi=>f i*g i)++[f n*g n]:=by simp[lz,List.range_succ]
  rw[e,jA];have e2:gH [f n*g n]=f n*g n:=by simp[gH]
  rw[e2,Rat.intCast_add,JS,rP hf hg n,hf n,hg n];show _=(aK F G n+F n*G n)*(c*d);grind
theorem bu{f g f' g':Nat->Rat}:∀n,(∀i,i<n->f i=f' i)->(∀i,i<n->g i=g' i)->aK f g n=aK f' g' n
 | 0,_,_=>rfl
 | n+1,h1,h2=>by
  show aK f g n+f n*g n=aK f' g' n+f' n*g' n;rw[bu n (λi hi=>h1 i ()) (λi hi=>h2 i ()),h1 n (),h2 n ()]
theorem lK{qs:List (Int×Int)}{n k:Nat}(h:k<n):cf (qs.take n) k=cf qs k:=by
 unfold cf;rw[List.getElem?_take,Jb h]
def Sx(b:Nat)(q:Int×Int):Prop:=∃n:Int,wv q=(n:Rat)/6/\n.natAbs<=b
theorem Sx.mono{a b:Nat}{q:Int×Int}(h:Sx a q)(hl:a<=b):Sx b q:=by
 obtain⟨n,h1,h2⟩:=h;exact⟨n,h1,()⟩
theorem Sx.add{a b:Nat}{p q:Int×Int}(hp:p.2≠0)(hq:q.2≠0)(h1:Sx a p)(h2:Sx b q):Sx (a+b) (lG p q):=by
 obtain⟨m,e1,l1⟩:=h1;obtain⟨n,e2,l2⟩:=h2;refine⟨m+n,?_,Jg (Int.natAbs_add_le m n) (Nat.add_le_add l1 l2)⟩;rw[s0 hp hq,e1,e2,Rat.intCast_add];grind
theorem Sx.lo{a z:Int}{b:Nat}(h0:0<=z)(h3:z<3)(ha:6*a.natAbs<=b):Sx b (lo a (1+z)):=by
 have hz:1+z≠0:=();have c1:((1:Int):Rat)=1:=rfl;have c2:((2:Int):Rat)=2:=rfl;have c3:((3:Int):Rat)=3:=rfl;have c6:((6:Int):Rat)=6:=rfl;rcases (show z=0\/z=1\/z=2 by nofun) with rfl|rfl|rfl
 .refine⟨6*a,?_,()⟩;rw[fb hz,show (1:Int)+0=1 from rfl,JS,c1,c6]
  grind
 .refine⟨3*a,?_,()⟩;rw[fb hz,show (1:Int)+1=2 from rfl,JS,c2,c3]
  grind
 .refine⟨2*a,?_,()⟩;rw[fb hz,show (1:Int)+2=3 from rfl,JS,c2,c3]
  grind
def d9:Nat->Int
 | 0=>6
 | k+1=>d9 k*6
theorem gw:∀k,0<d9 k
 | 0=>by decide
 | k+1=>by show 0<d9 k*6;have:=gw k;nofun
theorem ft:∀k,Bt (3*(k+1)) (d9 k)
 | 0=>by decide
 | k+1=>by
  have h:=(ft k).mul (show Bt 3 6 by decide)
  exact h.mono ()
def t7:Nat->Nat
 | 0=>1
 | k+1=>t7 k*512
theorem sD:∀k,t7 k=2^(9*k)
 | 0=>rfl
 | k+1=>by
  show t7 k*512=_;rw[sD k,show 9*(k+1)=9*k+9 by nofun,JK]
theorem oU{s w:Int×Int}{b:Nat}(hs:Sx 300 s)(hw:Sx b w):∀k,∃n:Int,wv w*iB (wv s) k=(n:Rat)/(d9 k:Rat)/\n.natAbs<=b*t7 k
 | 0=>by
  obtain⟨n,e,l⟩:=hw;refine⟨n,?_,by simpa [t7] using l⟩
  show wv w*1=(n:Rat)/((6:Int):Rat);have c6:((6:Int):Rat)=6:=rfl;rw[e,c6];grind
 | k+1=>by
  obtain⟨n,e,l⟩:=oU hs hw k;obtain⟨m,e2,l2⟩:=hs;refine⟨n*m,?_,?_⟩
  .rw[jX];have h6:(d9 k:Rat)≠0:=ao (by have:=gw k;nofun)
   have c6:((6:Int):Rat)=6:=rfl;show _=_/((d9 k*6:Int):Rat);rw[e2] at e;rw[JS,JS,c6,e2];have:wv w*(iB ((m:Rat)/6) k*((m:Rat)/6))=(wv w*iB ((m:Rat)/6) k)*((m:Rat)/6):=⋯;rw[this,e];grind
  .rw[JJ];show _<=b*(t7 k*512);rw[<-Nat.mul_assoc];exact JY l ()
theorem kW{k:Nat}:∀{cs:List lL},(∀c∈cs,Sx 300 c.1/\Sx 36 c.2) -> ∃n:Int,jF cs k=(n:Rat)/(d9 k:Rat)/\n.natAbs<=cs.length*(36*t7 k)
 | [],_=>⟨0,by
   show (0:Rat)=((0:Int):Rat)/_;have c0:((0:Int):Rat)=0:=rfl;rw[c0];grind,by simp⟩
 | c::cs,h=>by
  obtain⟨n,e1,l1⟩:=kW (k:=k) (cs:=cs) λd hd=>h d (by simp[hd])
  obtain⟨h1,h2⟩:=h c (by simp)
  obtain⟨m,e2,l2⟩:=oU h1 h2 k;refine⟨m+n,?_,?_⟩
  .show wv c.2*iB (wv c.1) k+jF cs k=_;rw[e1,e2,Rat.intCast_add];have h6:(d9 k:Rat)≠0:=ao (by have:=gw k;nofun)
   grind
  .rw[Jp,Nat.add_mul,Nat.one_mul,Nat.add_comm];exact Jg (Int.natAbs_add_le m n) (Nat.add_le_add l2 l1)
theorem yy{cs:List lL}{k:Nat}{q:Int×Int}(h:∀c∈cs,Sx 300 c.1/\Sx 36 c.2)(hl:cs.length<=6)(hk:k<=12)(hq:Fq q)(e:wv q=jF cs k):Bq 120 q:=by
 obtain⟨n,e1,l1⟩:=kW (k:=k) h;have h6:d9 k≠0:=by have:=gw k;nofun
 have:q=lo n (d9 k):=fe hq (fk h6) (by rw[fb h6,e,e1])
 rw[this];refine mP h6 (Bt.mono (m:=9*k+8) ?_ ()) ((ft k).mono ());unfold Bt;have l3:cs.length*(36*t7 k)<=6*(36*t7 k):=Nat.mul_le_mul_right _ hl;have l4:=sD k;rw[JK,<-l4,show (2:Nat)^8=256 from rfl]
 have:0<t7 k:=by rw[l4];exact Nat.two_pow_pos _
 nofun
theorem aU.gen{t u:TS}{D:iC}{σ:St}{H:Hp}(h:∀N:St->Hp->Prop,(∀σ' H',u D σ' H'->N σ' H')->t { D with nx:=N } σ H):aU t u D σ H:=h (u D) λ_ _ z=>z
theorem tm{rs:List (Int×Int)}(h:bH rs) {m:Nat}(hz:∀k,m<=k->cf rs k=0):rs.length<=m:=by
 refine Nat.le_of_not_lt λhm=>?_;have hl:rs.length-1<rs.length:=();have e:rs.getLast? = some rs[rs.length-1]:=by rw[JX,JE hl]
 have z:=hz (rs.length-1) ();rw[aP (JE hl)] at z;exact h.2 _ e ((dI (h.1 _ (JD hl)).ne).mp z)
theorem uu(m n:Int):u7 (.int m) (.int n)=decide (m=n):=by
 unfold u7 D.py;simp only[PyData.eqv];rw[Jn];simp
theorem oK(i:Int):(D.int i).cmp:=by
 unfold D.cmp D.py;exact⟨rfl,Nat.le_of_ble_eq_true rfl⟩
theorem pA{ns:List Int}{m:Nat}(h:∀n∈ns.drop m,n=0)(k:Nat):nz (ns.take m) k=nz ns k:=by
 unfold nz;rw[JU,JU,List.getElem?_take];by_cases hk:k<m
 .rw[Jb hk]
 .rw[Jc hk];cases e:ns[k]? with
  | none=>rfl
  | some n =>
   have:n∈ns.drop m:=by
    have e2:(ns.drop m)[k-m]? = some n:=by rw[List.getElem?_drop,show m+(k-m)=k by nofun];exact e
    exact Jy e2
   rw[h n this];rfl
def Ae:Nat->Int
 | 0=>1
 | e+1=>Ae e*6
theorem oT(j:Nat):∀e,d9 (j+e)=d9 j*Ae e
 | 0=>by show d9 j=d9 j*1;nofun
 | e+1=>by
  show d9 (j+e)*6=d9 j*(Ae e*6);rw[oT j e,Int.mul_assoc]
theorem pq{qs:List (Int×Int)}{n k:Nat}:cf (qs.drop n) k=cf qs (n+k):=by
 unfold cf;rw[List.getElem?_drop]
def mW(x:V)(P:Bool->Prop):Prop:=match x with | .bl k=>P k|_=>False
def isInt(x:V)(P:Int->Prop):Prop:=match x with | .int k=>P k|_=>False
def eO(x:V)(P:Addr->Prop):Prop:=match x with | .ref k=>P k|_=>False
def lO(x:Option (Option V))(P:V->Prop):Prop:=match x with|some (some v)=>P v|_=>False
def y6(x:List V)(P:V->Prop):Prop:=match x with|[v]=>P v|_=>False
def Ac(x:List V)(P:V->V->Prop):Prop:=match x with|[v,u]=>P v u|_=>False
theorem wc{k:Bool}{P:Bool->Prop}:mW (.bl k) P=P k:=rfl
theorem sf{k:Int}{P:Int->Prop}:isInt (.int k) P=P k:=rfl
theorem tD{k:Addr}{P:Addr->Prop}:eO (.ref k) P=P k:=rfl
theorem tM{k:V}{P:V->Prop}:lO (some (some k)) P=P k:=rfl
theorem yk{k:V}{P:V->Prop}:y6 [k] P=P k:=rfl
theorem yK{k l:V}{P:V->V->Prop}:Ac [k,l] P=P k l:=rfl
theorem fm{x:V}{P:Bool->Prop}:mW x P = ∃k,x=.bl k/\P k:=propext (by cases x<;>simp[mW])
theorem bo{x:V}{P:Int->Prop}:isInt x P = ∃k,x=.int k/\P k:=propext (by cases x<;>simp[isInt])
theorem bR{x:V}{P:Addr->Prop}:eO x P = ∃k,x=.ref k/\P k:=propext (by cases x<;>simp[eO])
theorem ii{x:Option (Option V)}{P:V->Prop}:lO x P = ∃k,x=some (some k)/\P k:=propext (by rcases x with _|_|v<;>simp[lO])
theorem iF{x:List V}{P:V->Prop}:y6 x P = ∃k,x=[k]/\P k:=propext (by rcases x with _|⟨v,_|⟨u,r⟩⟩<;>simp[y6])
theorem kX{x:List V}{P:V->V->Prop}:Ac x P = ∃k l,x=[k,l]/\P k l:=propext ⟨λh=>match x,h with|[v,u],h=>⟨v,u,rfl,h⟩,λ⟨k,l,e,h⟩=>by subst e;exact h⟩
theorem wI{α β:Sort _}{A:α->Prop}{B:β->Prop}{C:α->β->Prop}:(∃i j,A i/\B j/\C i j) = ∃i,A i /\ ∃j,B j/\C i j:=propext ⟨λ⟨i,j,a,b,c⟩=>⟨i,a,j,b,c⟩,λ⟨i,a,j,b,c⟩=>⟨i,j,a,b,c⟩⟩
def uV(i:Nat):TE:=λσ H Q=>lO σ[i]? λv=>Q v H
theorem xM{i:Nat}:uk i=uV i:=by funext σ H Q;exact ii.symm
def oZ(t:TE):TT:=λσ H Q=>t σ H λx H'=>mW x λk=>Q k H'
theorem pM{t:TE}:pP t=oZ t:=by
 funext σ H Q;unfold pP oZ;congr 1
 funext x H';exact fm.symm
theorem Aw{t:TE}:tB t=oZ t:=pM
def rF(ta tb:TE):TE:=λσ H Q=>ta σ H λx H1=>mW x λc=>if c=true then tb σ H1 Q else Q (.bl false) H1
theorem vX{ta tb:TE}:ph ta tb=rF ta tb:=by
 funext σ H Q;unfold ph rF;congr 1
 funext x H';exact fm.symm
def yF(ta tb:TE):TE:=λσ H Q=>ta σ H λx H1=>mW x λc=>if c=true then Q (.bl true) H1 else tb σ H1 Q
theorem yN{ta tb:TE}:uA ta tb=yF ta tb:=by
 funext σ H Q;unfold uA yF;congr 1
 funext x H';exact fm.symm
def tF(ta:TE):TE:=λσ H Q=>ta σ H λx H1=>mW x λc=>Q (.bl (!c)) H1
theorem vH{ta:TE}:wR ta=tF ta:=by
 funext σ H Q;unfold wR tF;congr 1
 funext x H';exact fm.symm
def mI(C:Int->Int->Prop)(g:Int->Int->V):R2:=λx y H Q=>isInt x λi=>isInt y λj=>C i j/\Q (g i j) H
theorem AJ{C:Int->Int->Prop}{g:Int->Int->V}:rI C g=mI C g:=by
 funext x y H Q;unfold rI mI;rw[bo];simp only[bo];exact wI
def AK(g:Int->Int->V):R2:=λx y H Q=>isInt x λi=>isInt y λj=>Q (g i j) H
theorem zS{g:Int->Int->V}:pb g=AK g:=by
 funext x y H Q;unfold pb AK;simp only[bo];exact wI
def mU(g:Int->V):V->Hp->VK->Prop:=λx H Q=>isInt x λi=>Q (g i) H
theorem At{g:Int->V}:rU g=mU g:=by
 funext x H Q;exact bo.symm
theorem jw{i j:Int}:qV (.int i) (.int j)=true:=rfl
theorem u9{i j:Bool}:qV (.bl i) (.bl j)=true:=rfl
def Am:R2:=λx y H Q=>match x,y with | .int i,.int j=>Q (.bl (decide (i=j))) H|_,_=>yX x y H Q
theorem uS{i j:Int}{H:Hp}{Q:VK}:Am (.int i) (.int j) H Q=Q (.bl (decide (i=j))) H:=rfl
theorem wC:yX=Am:=by
 funext x y H Q;unfold Am;split
 .unfold yX;show (qV _ _=true/\_)=_;simp only[jw,V.int.injEq,true_and]
 .rfl
theorem uX{x y:V}{H:Hp}{Q:VK}:Am x y H Q=yX x y H Q:=by rw[wC]
def Aq:R2:=λx y H Q=>match x,y with | .int i,.int j=>Q (.bl (!decide (i=j))) H|_,_=>yY x y H Q
theorem vC{i j:Int}{H:Hp}{Q:VK}:Aq (.int i) (.int j) H Q=Q (.bl (!decide (i=j))) H:=rfl
theorem wD:yY=Aq:=by
 funext x y H Q;unfold Aq;split
 .unfold yY;show (qV _ _=true/\_)=_;simp only[jw,V.int.injEq,true_and]
 .rfl
theorem ue{x y:V}{H:Hp}{Q:VK}:Aq x y H Q=yY x y H Q:=by rw[wD]
section
variable {K:W.Frag}
def w4(K:W.Frag):R2:=λx y H Q=>eO x λp=>isInt y λi=>∃xs,vw K H p=some (.lst xs) /\ ∃v,iA xs i=some v/\Q v H
theorem xV:tT K=w4 K:=by
 funext x y H Q;unfold tT w4;simp only[bo,bR];exact wI
def w6(K:W.Frag):R2:=λx y H Q=>eO x λp=>isInt y λi=>∃xs,vw K H p=some (.tup xs) /\ ∃v,iA xs i=some v/\Q v H
theorem xz:uC K=w6 K:=by
 funext x y H Q;unfold uC w6;simp only[bo,bR];exact wI
def xB(K:W.Frag)(neg:Bool):R2:=λx y H Q=>∃d,aA (vw K H) d x /\ ∃e,aA (vw K H) e y/\d.cmp/\e.cmp/\Q (.bl (cond neg (!u7 d e) (u7 d e))) H
theorem yS{neg:Bool}:uL K neg=xB K neg:=by
 funext x y H Q;unfold uL xB;cases neg<;>exact wI
def yQ(K:W.Frag)(neg:Bool):R2:=λx y H Q=>eO x λp=>eO y λq=>∃xs,vw K H p=some (.lst xs)/\vw K H q=some (.lst [])/\Q (.bl (cond neg (!xs.isEmpty) xs.isEmpty)) H
theorem xQ{neg:Bool}:xE K neg=yQ K neg:=by
 funext x y H Q;unfold xE yQ;simp only[bR];cases neg<;>exact wI
def tN(t:TE):TO:=λσ H Q=>t σ H λx H1=>isInt x λi=>Q (some i) H1
theorem uD{t:TE}:pZ t=tN t:=by
 funext σ H Q;unfold pZ tN;congr 1
 funext x H';exact bo.symm
def zZ(K:W.Frag):V->Option Int->Option Int->Hp->VK->Prop:=λx lo hi H Q=>eO x λa=>∃xs,vw K H a=some (.lst xs)/\Nw K H (.lst (gm xs lo hi)) Q
theorem xK:zA K=zZ K:=by
 funext x lo hi H Q;exact bR.symm
def rV(K:W.Frag):V->List V->Hp->VK->Prop:=λx vs H Q=>eO x λl=>y6 vs λy=>∃xs,vw K H l=some (.lst xs)/\xs.length<sizeLine/\wK K H l (.lst (xs++[y])) (Q .non)
theorem um:tR K=rV K:=by
 funext x y H Q;unfold tR rV;simp only[bR,iF];exact wI
def qe(K:W.Frag):V->V->V->Hp->(Hp->Prop)->Prop:=λo i v H Q=>eO o λp=>isInt i λk=>∃xs,vw K H p=some (.lst xs) /\ ∃j,ow xs.length k=some j/\wK K H p (.lst (xs.set j v)) Q
theorem uM:tE K=qe K:=by
 funext x y v H Q;unfold tE qe;simp only[bR,bo];exact wI
def wX(i j:Nat)(ta:TA):TS:=λD σ H=>ta σ H λvs H1=>Ac vs λv w=>D.nx ((σ.set i (some v)).set j (some w)) H1
theorem yg{i j:Nat}{ta:TA}:vM i j ta=wX i j ta:=by
 funext D σ H;unfold vM wX;congr 1
 funext x H';exact kX.symm
def zL(i:Nat)(te:TE)(ti:ub):TS:=λD σ H=>lO σ[i]? λx=>te σ H λy H1=>ti x y H1 λz H2=>D.nx (σ.set i (some z)) H2
theorem yl{i:Nat}{te:TE}{ti:ub}:yf i te ti=zL i te ti:=by
 funext D σ H;exact ii.symm
def tQ(K:W.Frag)(tl:TE):TI:=λσ H R=>tl σ H λx H1=>eO x λa=>(∃xs,f6 K H1 a xs)/\R (Ag K a) H1
theorem uN{tl:TE}:pj K tl=tQ K tl:=by
 funext σ H R;unfold pj tQ;congr 1
 funext x H';exact bR.symm
def t5(ta:TA):TI:=λσ H R=>ta σ H λvs H1=>y6 vs λx=>isInt x λj=>-(2^62)<=j/\j<2^62/\R (y7 0 j.toNat) H1
theorem uq{ta:TA}:qg ta=t5 ta:=by
 funext σ H R;unfold qg t5;congr 1
 funext x H';simp only[iF,bo];exact propext ⟨λ⟨j,a,b⟩=>⟨_,a,j,rfl,b⟩,λ⟨_,a,j,e,b⟩=>⟨j,by rw[a,e],b⟩⟩
def lX(K:W.Frag):R2:=λx y H Q=>match x,y with
 | .int i,.int j=>Q (.int (i+j)) H
 | .ref l,.ref b=>∃xs,vw K H l=some (.lst xs) /\ ∃zs,vw K H b=some (.lst zs)/\xs.length+zs.length<=sizeLine/\Nw K H (.lst (xs++zs)) Q
 | _,_=>eU K x y H Q
theorem qK{i j:Int}{H:Hp}{Q:VK}:lX K (.int i) (.int j) H Q=Q (.int (i+j)) H:=rfl
theorem qA{l b:Addr}{H:Hp}{Q:VK}:lX K (.ref l) (.ref b) H Q = ∃xs,vw K H l=some (.lst xs) /\ ∃zs,vw K H b=some (.lst zs)/\xs.length+zs.length<=sizeLine/\Nw K H (.lst (xs++zs)) Q:=rfl
theorem pX:eU K=lX K:=by
 funext x y H Q;unfold lX;split
 .exact hZ
 .exact ef
 .rfl
theorem qY{x y:V}{H:Hp}{Q:VK}:lX K x y H Q=eU K x y H Q:=by rw[pX]
def u4(K:W.Frag):R2:=λx y H Q=>match x,y with
 | .int i,.int j=>IntMulOk i j/\Q (.int (i*j)) H
 | _,_=>ga K x y H Q
theorem sF{i j:Int}{H:Hp}{Q:VK}:u4 K (.int i) (.int j) H Q=(IntMulOk i j/\Q (.int (i*j)) H):=rfl
theorem rC:ga K=u4 K:=by
 funext x y H Q;unfold u4;split
 .exact dD
 .rfl
theorem sw{x y:V}{H:Hp}{Q:VK}:u4 K x y H Q=ga K x y H Q:=by rw[rC]
end
def AN(P:Addr->Hp->VK->Prop)(t:TA):TE:=λσ H Q=>t σ H λvs H1=>y6 vs λx=>eO x λp=>P p H1 Q
theorem zy{P:Addr->Hp->VK->Prop}{t:TA}:u8 (λxs H Q=>∃p,xs=[.ref p]/\P p H Q) t=AN P t:=by
 funext σ H Q;unfold u8 AN;congr 1
 funext x H';simp only[iF,bR];exact propext ⟨λ⟨j,a,b⟩=>⟨_,a,j,rfl,b⟩,λ⟨_,a,j,e,b⟩=>⟨j,by rw[a,e],b⟩⟩
def As(P:Int->Int->Hp->VK->Prop)(t:TA):TE:=λσ H Q=>t σ H λvs H1=>Ac vs λx y=>isInt x λi=>isInt y λj=>P i j H1 Q
theorem zx{P:Int->Int->Hp->VK->Prop}{t:TA}:u8 (λxs H Q=>∃i j,xs=[.int i,.int j]/\P i j H Q) t=As P t:=by
 funext σ H Q;unfold u8 As;congr 1
 funext x H';simp only[kX,bo];exact propext ⟨λ⟨i,j,a,b⟩=>⟨_,_,a,i,rfl,j,rfl,b⟩,λ⟨_,_,a,i,e,j,e',b⟩=>⟨i,j,by rw[a,e,e'],b⟩⟩
end L2
namespace L2
open PySem
theorem yA{α:Sort _}{g z:List Value->α}(us:List Value)(hl:us.length=1)(h:∀a0,g [a0]=z [a0]):g us=z us:=by
 rcases us with _|⟨a0,_|⟨b,r⟩⟩
 all_goals first|exact h _|(simp at hl;done)
theorem yT{α:Sort _}{g z:List Value->α}(us:List Value)(hl:us.length=2)(h:∀a0 a1,g [a0,a1]=z [a0,a1]):g us=z us:=by
 rcases us with _|⟨a0,_|⟨a1,_|⟨b,r⟩⟩⟩
 all_goals first|exact h _ _|(simp at hl;done)
theorem yo{α:Sort _}{g z:List Value->α}(us:List Value)(hl:us.length=3)(h:∀a0 a1 a2,g [a0,a1,a2]=z [a0,a1,a2]):g us=z us:=by
 rcases us with _|⟨a0,_|⟨a1,_|⟨a2,_|⟨b,r⟩⟩⟩⟩
 all_goals first|exact h _ _ _|(simp at hl;done)
end L2
namespace L2
open PySem PySem.Spec PyProof.Rows
def ch:Nat->Nat->Nat
 | _,0=>1
 | 0,_+1=>0
 | n+1,k+1=>ch n k+ch n (k+1)
def fw(t r:Nat->Rat):Nat->Nat->Rat
 | 0,h=>if h=0 then 1 else 0
 | k+1,h=>(if h=0 then 0 else fw t r k (h-1))+t h*fw t r k h+r (h+1)*fw t r k (h+1)
def bw(t r:Nat->Rat):Nat->Nat->Rat
 | 0,h=>if h=0 then 1 else 0
 | k+1,h=>bw t r k (h+1)+t h*bw t r k h+(if h=0 then 0 else r h*bw t r k (h-1))
end L2
namespace L2
open PySem PySem.Spec PyProof.Rows
structure zg where
 params:Arguments
 body:Expr
 scope:Scope
 Nl:List Str
 ixs:List Nat
 tl:TE
structure AR where
 t:Addr
 p:Addr
 c:Addr
 d:Addr
 ps:Arguments
 b:Expr
 sc:Scope
 ds:List D
def Ob(D:Int)(B:Nat)(f:Nat->Rat):Prop:=∀k,∃n:Int,f k=(n:Rat)/(D:Rat)/\Bt B n
section
variable {D E:Int}{a b e:Nat}{f g:Nat->Rat}
theorem yW{n:Nat}:Bt n 0:=Nat.two_pow_pos n
def Pb(a:Nat)(f:Nat->Rat):Prop:=∃D:Int,D≠0/\Bt a D/\Ob D a f
end
theorem mw{a b c:Int}(h:Int.gcd a b=1)(hd:a∣b*c):a∣c:=by
 rw[<-Int.natAbs_dvd_natAbs] at hd ⊢;rw[JJ] at hd;exact Nat.Coprime.dvd_of_dvd_mul_left h hd
theorem we{b q E:Int}(hb:0<b)(hq:0<q)(h1:b∣E)(h2:q∣E):b*q.fdiv (Int.gcd b q:Int)∣E:=by
 obtain⟨_,_,_,hg,_⟩:=mq hb hq;have e:=jh hg (Int.gcd_dvd_right b q);obtain⟨m,hm⟩:=Int.gcd_dvd_left b q;obtain⟨g,hgg⟩ : ∃g:Nat,g=Int.gcd b q:=⟨_,rfl⟩;generalize hc:q.fdiv (Int.gcd b q:Int)=c at e;rw[<-hgg] at hg e hm;have hcop:Int.gcd c m=1:=by
  have z:Int.gcd b q=g*Int.gcd m c:=by
   rw[hm,<-e,JQ c,Int.gcd_mul_left];simp
  rw[<-hgg] at z;have g0:0<g:=();have:Int.gcd m c=1:=by
   have:g*1=g*Int.gcd m c:=();exact (Nat.eq_of_mul_eq_mul_left g0 this).symm
  rw[Int.gcd_comm];exact this
 obtain⟨u,hu⟩:=h1;obtain⟨v,hv⟩:=h2;have:c∣m*u:=by
  refine⟨v,?_⟩;have z:(g:Int)*(m*u)=(g:Int)*(c*v):=by
   rw[<-Int.mul_assoc,<-hm,<-hu,hv,<-e];rw[JQ c,Int.mul_assoc]
  exact Int.eq_of_mul_eq_mul_left hg z
 obtain⟨t,ht⟩:=mw hcop this;exact⟨t,by rw[hu,ht,Int.mul_assoc]⟩
theorem gi{q:Int×Int}{n E:Int}(h:Fq q)(hE:E≠0)(e:wv q=(n:Rat)/(E:Rat)):q.2∣E:=by
 unfold wv at e;have c1:=ao h.ne;have c2:=ao hE;have e1:(q.1:Rat)*(E:Rat)=(n:Rat)*(q.2:Rat):=⋯;have e2:q.1*E=n*q.2:=by
  rw[<-JS,<-JS] at e1;exact Rat.intCast_inj.mp e1
 refine mw (b:=q.1) (by rw[Int.gcd_comm];exact h.2) ⟨n,by rw[e2,JQ]⟩
theorem ja{a:Nat}{qs:List (Int×Int)}{D:Int}{ns:List Int}(h:Pb a (cf qs))(hF:∀q∈qs,Fq q)(hD:0<D)(hm:∀E:Int,(∀q∈qs,q.2∣E)->D∣E)(hl:ns.length=qs.length)(hn:∀(i:Nat)(n:Int)(q:Int×Int),ns[i]? = some n->qs[i]? = some q->(n:Rat)=wv q*(D:Rat)):Bt a D /\ ∀n∈ns,Bt a n:=by
 obtain⟨E,hE,bE,oE⟩:=h;obtain⟨t,ht⟩:=hm E λq hq=>by
  obtain⟨k,hk,rfl⟩:=List.getElem_of_mem hq;obtain⟨n,e,_⟩:=oE k;rw[aP (JE hk)] at e;exact gi (hF _ hq) hE e
 have t0:t≠0:=λz=>hE (by rw[ht,z,JZ])
 have le:∀x:Int,x.natAbs<=(x*t).natAbs:=λx=>by
  rw[JJ];exact JO _ ()
 refine⟨?_,λn hn'=>?_⟩
 .unfold Bt at *
  have:=le D;rw[<-ht] at this;nofun
 .obtain⟨i,hi,rfl⟩:=List.getElem_of_mem hn';have hi':i<qs.length:=();have e1:=hn i _ _ (JE hi) (JE hi');obtain⟨m,e2,bm⟩:=oE i;rw[aP (JE hi')] at e2;have c1:=ao hE;have e3:((ns[i]*t:Int):Rat)=(m:Rat):=by
   rw[JS,e1,e2];have:(E:Rat)=(D:Rat)*(t:Rat):=by rw[ht,JS]
   have c2:(D:Rat)≠0:=ao ();have c3:(t:Rat)≠0:=ao t0;rw[this];grind
  have e4:=Rat.intCast_inj.mp e3;unfold Bt at *
  have:=le ns[i];rw[e4] at this;nofun
end L2
namespace L2
open PySem
abbrev Om:=List Bool->Int
def wg:Nat->(Nat->Int)->Om->Om
 | 0,_,_=>λ_=>0
 | m+1,v,o=>λl=>match l with
  | []=>0
  | false::l=>wg m v (λk=>o (false::k)) l
  | true::l=>v m*o (false::l)-wg m v (λk=>o (true::k)) l
theorem gI{m:Nat}{v:Nat->Int}{o:Om}{l:List Bool}:wg (m+1) v o (false::l)=wg m v (λk=>o (false::k)) l:=rfl
theorem gg{m:Nat}{v:Nat->Int}{o:Om}{l:List Bool}:wg (m+1) v o (true::l)=v m*o (false::l)-wg m v (λk=>o (true::k)) l:=rfl
theorem kL{v:Nat->Int}{a b:Int}:∀(m:Nat)(o p:Om)(l:List Bool),wg m v (λk=>a*o k+b*p k) l=a*wg m v o l+b*wg m v p l
 | 0,o,p,l=>by show (0:Int)=a*0+b*0;rw[JZ,JZ];rfl
 | m+1,o,p,[]=>by show (0:Int)=a*0+b*0;rw[JZ,JZ];rfl
 | m+1,o,p,false::l=>by
  rw[gI,gI,gI];exact kL m _ _ l
 | m+1,o,p,true::l=>by
  rw[gg,gg,gg,kL m (λk=>o (true::k)) (λk=>p (true::k)) l];grind
theorem kI{v:Nat->Int}:∀(m:Nat)(o:Om)(l:List Bool),(∀k,o k=0)->wg m v o l=0
 | 0,o,l,h=>rfl
 | m+1,o,[],h=>rfl
 | m+1,o,false::l,h=>by rw[gI];exact kI m _ l λk=>h _
 | m+1,o,true::l,h=>by rw[gg,h,kI m _ l λk=>h _];nofun
theorem jy{v:Nat->Int}{m:Nat}{o p:Om}(h:∀k,o k=p k)(l:List Bool):wg m v o l=wg m v p l:=by
 have:o=p:=funext h;rw[this]
theorem kr{u v:Nat->Int}{a b:Int}:∀(m:Nat)(o:Om)(l:List Bool),wg m (λi=>a*u i+b*v i) o l=a*wg m u o l+b*wg m v o l
 | 0,o,l=>by show (0:Int)=a*0+b*0;rw[JZ,JZ];rfl
 | m+1,o,[]=>by show (0:Int)=a*0+b*0;rw[JZ,JZ];rfl
 | m+1,o,false::l=>by
  rw[gI,gI,gI];exact kr m _ l
 | m+1,o,true::l=>by
  rw[gg,gg,gg,kr m _ l];grind
theorem fK{v:Nat->Int}:∀(m:Nat)(o:Om)(l:List Bool),(∀i,i<m->v i=0)->wg m v o l=0
 | 0,o,l,h=>rfl
 | m+1,o,[],h=>rfl
 | m+1,o,false::l,h=>by rw[gI];exact fK m _ l λi hi=>h i ()
 | m+1,o,true::l,h=>by rw[gg,h m (),fK m _ l λi hi=>h i ()];nofun
theorem iJ{u v:Nat->Int}:∀(m:Nat)(o:Om)(l:List Bool),wg m u (wg m v o) l = - wg m v (wg m u o) l
 | 0,o,l=>rfl
 | m+1,o,[]=>rfl
 | m+1,o,false::l=>by
  rw[gI,gI];exact iJ m (λk=>o (false::k)) l
 | m+1,o,true::l=>by
  rw[gg,gg,gI,gI];have e1:=kL (v:=u) (a:=v m) (b:=-1) m (λk=>o (false::k)) (wg m v λk=>o (true::k)) l;have e2:=kL (v:=v) (a:=u m) (b:=-1) m (λk=>o (false::k)) (wg m u λk=>o (true::k)) l;have f1:wg m u (λk=>wg (m+1) v o (true::k)) l=wg m u (λk=>v m*o (false::k) + -1*wg m v (λk=>o (true::k)) k) l:=jy (λk=>by rw[gg];nofun) l
  have f2:wg m v (λk=>wg (m+1) u o (true::k)) l=wg m v (λk=>u m*o (false::k) + -1*wg m u (λk=>o (true::k)) k) l:=jy (λk=>by rw[gg];nofun) l
  have s:=iJ (u:=u) (v:=v) m (λk=>o (true::k)) l;rw[f1,f2,e1,e2];grind
theorem uQ{v:Nat->Int}(m:Nat)(o:Om)(l:List Bool):wg m v (wg m v o) l=0:=by
 have:=iJ (u:=v) (v:=v) m o l;nofun
section
variable (W:Nat->Int)
def lM(i:Nat):Nat->Int:=λj=>W (i+j)
def xp:Om:=λl=>if l.all (λb=>!b) then 1 else 0
def om(m:Nat):Nat->Om
 | 0=>xp
 | k+1=>wg m (lM W k) (om m k)
def yU:Nat->List Bool
 | 0=>[]
 | m+1=>true::yU m
def oC(j:Nat):Nat->Int:=λi=>if i=j then 1 else 0
def qk(k j:Nat):Int:=wg (k+1) (oC j) (om W (k+1) k) (yU (k+1))
def Dk(k:Nat):Int:=om W k k (yU k)
def Lq(k i:Nat):Int:=wg (k+1) (lM W i) (om W (k+1) k) (yU (k+1))
end
variable {W:Nat->Int}
theorem mF(m:Nat):∀(k:Nat)(l:List Bool),om W (m+1) k (false::l)=om W m k l
 | 0,l=>by simp[om,xp]
 | k+1,l=>by
  show wg (m+1) (lM W k) (om W (m+1) k) (false::l)=wg m (lM W k) (om W m k) l;rw[gI];exact jy (λj=>mF m k j) l
theorem pJ(m:Nat):∀(k i:Nat)(l:List Bool),i<k->wg m (lM W i) (om W m k) l=0
 | 0,i,l,h=>by nofun
 | k+1,i,l,h=>by
  show wg m (lM W i) (wg m (lM W k) (om W m k)) l=0;by_cases e:i=k
  .rw[e];exact uQ m _ l
  .rw[iJ,kI m _ l λj=>pJ m k i j ()];rfl
theorem qF:Dk W 0=1:=rfl
theorem cM(k:Nat):qk W k k=Dk W k:=by
 show wg (k+1) (oC k) (om W (k+1) k) (true::yU k)=om W k k (yU k);rw[gg,mF,fK (v:=oC k) k _ _ λi hi=>Jc ()];show (if k=k then (1:Int) else 0)*_-0=_
 rw[Jb rfl];nofun
theorem cb{k j:Nat}(h:k<j):qk W k j=0:=fK _ _ _ λi hi=>Jc ()
theorem eT{k i:Nat}(h:i<k):Lq W k i=0:=pJ _ k i _ h
theorem bP(k:Nat):Lq W k k=Dk W (k+1):=rfl
def aL(f:Nat->Int):Nat->Int
 | 0=>0
 | n+1=>aL f n+f n
theorem cF{f g:Nat->Int}:∀n,(∀i,i<n->f i=g i)->aL f n=aL g n
 | 0,_=>rfl
 | n+1,h=>by
  show aL f n+f n=aL g n+g n;rw[cF n λi hi=>h i (),h n ()]
theorem dC{f:Nat->Int}:∀n,(∀i,i<n->f i=0)->aL f n=0
 | 0,_=>rfl
 | n+1,h=>by
  show aL f n+f n=0;rw[dC n λi hi=>h i (),h n ()];rfl
theorem kd{f:Nat->Int}{n:Nat}(h:∀i,n<=i->f i=0):∀m,aL f (n+m)=aL f n
 | 0=>rfl
 | m+1=>by
  show aL f (n+m)+f (n+m)=aL f n;rw[kd h m,h (n+m) ()];nofun
theorem gJ{f:Nat->Int}{j:Nat}:∀n,(∀i,i<n->i≠j->f i=0)->j<n->aL f n=f j
 | 0,_,h=>by nofun
 | n+1,h,hj=>by
  show aL f n+f n=f j;by_cases e:j=n
  .rw[dC n λi hi=>h i () (),e];nofun
  .rw[gJ n (λi hi hn=>h i () hn) (),h n () ()];nofun
theorem jP{v:Nat->Int}{M:Nat}{o:Om}{l:List Bool}:∀n,wg M (λi=>aL (λj=>v j*oC j i) n) o l=aL (λj=>v j*wg M (oC j) o l) n
 | 0=>fK _ _ _ λi _=>rfl
 | n+1=>by
  have e:=kr (u:=λi=>aL (λj=>v j*oC j i) n) (v:=oC n) (a:=1) (b:=v n) M o l;have f:(λi=>aL (λj=>v j*oC j i) (n+1))=λi=>1*aL (λj=>v j*oC j i) n+v n*oC n i:=funext λi=>by
   show aL _ n+v n*oC n i=_;rw[Int.one_mul]
  rw[f,e,jP n];show _=aL _ n+v n*_;rw[Int.one_mul]
theorem kl(k i:Nat):Lq W k i=aL (λj=>W (i+j)*qk W k j) (k+1):=by
 unfold Lq qk;rw[<-jP (v:=λj=>W (i+j)) (M:=k+1)];have:∀m (o:Om)(l:List Bool)(u v:Nat->Int),(∀i,i<m->u i=v i)->wg m u o l=wg m v o l:=λm o l u v h=>by
  have e:=kr (u:=u) (v:=v) (a:=1) (b:=-1) m o l;rw[fK m o l λi hi=>by rw[h i hi];nofun] at e
  nofun
 refine this _ _ _ _ _ λc hc=>?_;show W (i+c)=_;rw[gJ (j:=c) (k+1) (λj _ hj=>by unfold oC;rw[Jc (λz=>hj z.symm),JZ]) hc]
 unfold oC;rw[Jb rfl,Int.mul_one]
end L2
namespace L2
open PySem
variable {W:Nat->Int}
theorem cW{f:Nat->Int}{a:Int}:∀n,aL (λi=>a*f i) n=a*aL f n
 | 0=>by show (0:Int)=a*0;rw[JZ]
 | n+1=>by
  show aL (λi=>a*f i) n+a*f n=a*(aL f n+f n);rw[cW n];grind
theorem fz{f g:Nat->Int}:∀n,aL (λi=>f i+g i) n=aL f n+aL g n
 | 0=>rfl
 | n+1=>by
  show aL (λi=>f i+g i) n+(f n+g n)=(aL f n+f n)+(aL g n+g n);rw[fz n];nofun
theorem jS{f:Nat->Nat->Int}(M:Nat):∀N,aL (λi=>aL (λj=>f i j) M) N=aL (λj=>aL (λi=>f i j) N) M
 | 0=>by
  show (0:Int)=aL (λj=>aL (λi=>f i j) 0) M;exact (dC (f:=λj=>aL (λi=>f i j) 0) M λi _=>rfl).symm
 | N+1=>by
  show aL _ N+aL (λj=>f N j) M=aL (λj=>aL (λi=>f i j) N+f N j) M;rw[jS M N,fz]
def LL(W:Nat->Int)(p:Nat->Int)(N i:Nat):Int:=aL (λj=>W (i+j)*p j) N
theorem jG(k i:Nat):LL W (qk W k) (k+1) i=Lq W k i:=(kl k i).symm
theorem pC{p:Nat->Int}{n i:Nat}(h:∀j,n<=j->p j=0)(m:Nat):LL W p (n+m) i=LL W p n i:=kd (λj hj=>by rw[h j hj,JZ]) m
theorem pU{a d:Nat->Int}{N M:Nat}:aL (λi=>a i*LL W d M i) N=aL (λj=>d j*LL W a N j) M:=by
 have e1:aL (λi=>a i*LL W d M i) N=aL (λi=>aL (λj=>a i*(W (i+j)*d j)) M) N:=cF N λi _=>(cW M).symm;have e2:aL (λj=>d j*LL W a N j) M=aL (λj=>aL (λi=>a i*(W (i+j)*d j)) N) M:=cF M λj _=>by
  unfold LL;rw[<-cW];exact cF N λi _=>by rw[Nat.add_comm j i];grind
 rw[e1,e2];exact jS M N
theorem uy{d:Nat->Int}{k M:Nat}(hM:k+1<=M)(hD:∀i,i<=k+1->Dk W i≠0)(h0:∀i,i<=k->LL W d M i=0)(hd:∀j,k<j->d j=0):∀j,d j=0:=by
 have down:∀n,n<=k+1 -> ∀j,k+1-n<=j->d j=0:=by
  intro n;induction n with
  | zero=>exact λ_ j hj=>hd j ()
  | succ n ih =>
   intro hn j hj;have ihn:=ih ();by_cases e:j=k-n
   .have hz:aL (λi=>qk W (k-n) i*LL W d M i) (k-n+1)=0:=dC _ λi hi=>by rw[h0 i (),JZ]
    rw[pU,gJ (j:=k-n) M (λi hi hne=>?_) (),jG,bP] at hz
    .rcases Int.mul_eq_zero.mp hz with z|z
     .rw[e];exact z
     .exact absurd z (hD _ ())
    .by_cases hlt:i<k-n
     .show d i*LL W (qk W (k-n)) (k-n+1) i=0;rw[jG,eT hlt,JZ]
     .show d i*LL W (qk W (k-n)) (k-n+1) i=0;rw[ihn i (),Int.zero_mul]
   .exact ihn j ()
 exact λj=>down (k+1) (Jl _) j ()
def qD(p:Nat->Int):Nat->Int
 | 0=>0
 | j+1=>p j
theorem wM{p:Nat->Int}{i:Nat}:∀N,LL W (qD p) (N+1) i=LL W p N (i+1)
 | 0=>by
  show (0:Int)+W (i+0)*0=0;rw[JZ];rfl
 | N+1=>by
  show LL W (qD p) (N+1) i+W (i+(N+1))*p N=LL W p N (i+1)+W (i+1+N)*p N;rw[wM N,show i+(N+1)=i+1+N by nofun]
theorem sh{n:Nat}(hD:Dk W (n+1)≠0):qk W (n+1) n = - Lq W n (n+1):=by
 have h1:aL (λi=>qk W n i*LL W (qk W (n+1)) (n+2) i) (n+1)=0:=dC _ λi hi=>by rw[jG,eT (),JZ]
 rw[pU] at h1;have h2:aL (λj=>qk W (n+1) j*LL W (qk W n) (n+1) j) (n+2)=qk W (n+1) n*Dk W (n+1)+qk W (n+1) (n+1)*Lq W n (n+1):=by
  show aL (λj=>qk W (n+1) j*LL W (qk W n) (n+1) j) (n+1)+qk W (n+1) (n+1)*LL W (qk W n) (n+1) (n+1)=_;rw[gJ (j:=n) (n+1) (λi hi hne=>by rw[jG,eT (),JZ]) (),jG,jG,bP]
 rw[h2,cM] at h1;have h3:Dk W (n+1)*(qk W (n+1) n+Lq W n (n+1))=0:=⋯;rcases Int.mul_eq_zero.mp h3 with z|z
 .exact absurd z hD
 .nofun
def iD(W:Nat->Int):Nat->Int
 | 0=>Dk W 0*Lq W 0 1
 | n+1=>Dk W (n+1)*Lq W (n+1) (n+2)+Dk W (n+2)*qk W (n+1) n
def gT(W:Nat->Int):Nat->Nat->Int
 | 0,_=>0
 | n+1,j=>qk W n j
def zo(W:Nat->Int):Nat->Nat->Int
 | 0,_=>0
 | n+1,i=>Lq W n i
theorem yE(k i:Nat):LL W (gT W k) (k+2) i=zo W k i:=by
 cases k with
 | zero=>exact dC _ λj _=>JZ _
 | succ n =>
  show LL W (qk W n) (n+1+2) i=Lq W n i;rw[pC λj hj=>cb (),jG]
theorem tV{k:Nat}(hD:∀i,i<=k+1->Dk W i≠0)(j:Nat) :
  Dk W k*Dk W (k+1)*qD (qk W k) j-iD W k*qk W k j-Dk W (k+1)*Dk W (k+1)*gT W k j=Dk W k*Dk W k*qk W (k+1) j:=by
 obtain⟨d,hd⟩ : ∃d:Nat->Int,d=λj=>(Dk W k*Dk W (k+1))*qD (qk W k) j+(-1)*(iD W k*qk W k j+(Dk W (k+1)*Dk W (k+1)*gT W k j+Dk W k*Dk W k*qk W (k+1) j)):=⟨_,rfl⟩;have z:∀j,d j=0:=by
  refine uy (k:=k) (M:=k+2) () hD (λi hi=>?_) (λj hj=>?_)
  .have e:LL W d (k+2) i=Dk W k*Dk W (k+1)*Lq W k (i+1)-iD W k*Lq W k i-Dk W (k+1)*Dk W (k+1)*zo W k i-Dk W k*Dk W k*Lq W (k+1) i:=by
    have f:LL W d (k+2) i=(Dk W k*Dk W (k+1))*LL W (qD (qk W k)) (k+2) i+(-1)*(iD W k*LL W (qk W k) (k+2) i+(Dk W (k+1)*Dk W (k+1)*LL W (gT W k) (k+2) i+Dk W k*Dk W k*LL W (qk W (k+1)) (k+2) i)):=by
     unfold LL;rw[<-cW,<-cW,<-cW,<-cW,<-fz,<-fz,<-cW,<-fz];refine cF _ λj _=>?_;rw[hd];grind
    have m:LL W (qk W k) (k+2) i=Lq W k i:=by
     have:=pC (W:=W) (p:=qk W k) (n:=k+1) (i:=i) (λj hj=>cb ()) 1;rw[jG] at this;exact this
    rw[f,wM,jG,m,yE,jG];grind
   rw[e,eT (k:=k+1) ()];by_cases e1:i=k
   .subst e1;cases i with
    | zero =>
     show Dk W 0*Dk W 1*Lq W 0 1-Dk W 0*Lq W 0 1*Lq W 0 0-Dk W 1*Dk W 1*0-Dk W 0*Dk W 0*0=0;rw[bP];grind
    | succ n =>
     show Dk W (n+1)*Dk W (n+2)*Lq W (n+1) (n+2)-(Dk W (n+1)*Lq W (n+1) (n+2)+Dk W (n+2)*qk W (n+1) n)*Lq W (n+1) (n+1)-Dk W (n+2)*Dk W (n+2)*Lq W n (n+1)-Dk W (n+1)*Dk W (n+1)*0=0;rw[bP,sh (hD _ ())];grind
   .cases k with
    | zero=>nofun
    | succ n =>
     rw[eT (k:=n+1) (i:=i) ()];show Dk W (n+1)*Dk W (n+2)*Lq W (n+1) (i+1)-iD W (n+1)*0-Dk W (n+2)*Dk W (n+2)*Lq W n i-Dk W (n+1)*Dk W (n+1)*0=0;by_cases e2:i=n
     .rw[e2,bP,bP];grind
     .rw[eT (k:=n+1) (),eT (k:=n) ()];grind
  .have b0:gT W k j=0:=by
    cases k with
    | zero=>rfl
    | succ n=>exact cb ()
   rw[hd];show Dk W k*Dk W (k+1)*qD (qk W k) j + -1*(iD W k*qk W k j+(Dk W (k+1)*Dk W (k+1)*gT W k j+Dk W k*Dk W k*qk W (k+1) j))=0;rw[b0,cb hj];obtain⟨j',rfl⟩ : ∃j',j=j'+1:=⟨j-1,()⟩;show Dk W k*Dk W (k+1)*qk W k j'+_=0;by_cases e:j'=k
   .rw[e,cM,cM];grind
   .rw[cb (k:=k) (j:=j') (),cb (k:=k+1) ()];grind
 have:=z j;rw[hd] at this;dsimp only at this;grind
theorem kN{v:Nat->Int}{B C:Nat}(hv:∀i,(v i).natAbs<=B):∀(m:Nat)(o:Om)(l:List Bool),(∀k,(o k).natAbs<=C)->(wg m v o l).natAbs<=m*(B*C)
 | 0,o,l,h=>by simp[wg]
 | m+1,o,[],h=>by simp[wg]
 | m+1,o,false::l,h=>by
  rw[gI];have:=kN hv m (λk=>o (false::k)) l λk=>h _;rw[Nat.add_mul];nofun
 | m+1,o,true::l,h=>by
  rw[gg];have h1:=kN hv m (λk=>o (true::k)) l λk=>h _;have h2:(v m*o (false::l)).natAbs<=B*C:=by rw[JJ];exact JY (hv m) (h _)
  have h3:=Int.natAbs_sub_le (v m*o (false::l)) (wg m v (λk=>o (true::k)) l);rw[Nat.add_mul];nofun
theorem si{B m:Nat}(hW:∀i,(W i).natAbs<=B):∀k l,(om W m k l).natAbs<=(m*B)^k
 | 0,l=>by
  show (if _ then (1:Int) else 0).natAbs<=1
  split<;>decide
 | k+1,l=>by
  have:=kN (v:=lM W k) (B:=B) (C:=(m*B)^k) (λi=>hW _) m (om W m k) l (si hW k);rw[Nat.pow_succ,Nat.mul_comm,Nat.mul_assoc];exact this
theorem n4{B k:Nat}(hW:∀i,(W i).natAbs<=B)(j:Nat):(qk W k j).natAbs<=(k+1)*((k+1)*B)^k:=by
 have:=kN (v:=oC j) (B:=1) (C:=((k+1)*B)^k) (λi=>by unfold oC;split<;>decide) (k+1) (om W (k+1) k) (yU (k+1)) (si hW k)
 rw[Nat.one_mul] at this;exact this
end L2
namespace L2
open PySem PySem.Spec PyProof.Rows
def IL(G:Hp)(a:Addr)(n:Nat)(p:Nat->Int):Prop:=G a=some (.lst (lz n λi=>V.int (p i)))
theorem IL.same{G G':Hp}{a:Addr}{n:Nat}{p:Nat->Int}(h:IL G a n p)(S:aw G G'):IL G' a n p:=S _ _ h
theorem IL.len{G:Hp}{a:Addr}{n:Nat}{p:Nat->Int}(h:IL G a n p):gl G a=some n:=by
 unfold IL at h;simp only[gl,h];rw[aO]
theorem jz{α:Type}{n:Nat}{h:Nat->α}{xs:List α}(hl:xs.length=n)(he:∀i,i<n->xs[i]? = some (h i)):xs=lz n h:=by
 refine List.ext_getElem? λi=>?_;by_cases hi:i<n
 .rw[he i hi,bG hi]
 .rw[JW (),JW (by rw[aO];nofun)]
theorem vf{α:Type}{n k:Nat}{h:Nat->α}:(lz n h).drop k=lz (n-k) λi=>h (k+i) :=
 jz (by rw[JA,aO]) λi hi=>by rw[List.getElem?_drop,bG ()]
theorem yR{α β:Type}{m n:Nat}{f:Nat->α}{g:Nat->β}(h:m<=n):(lz m f).zip (lz n g)=lz m λi=>(f i,g i) :=
 jz (by rw[List.length_zip,aO,aO];nofun) λi hi=>by
  rw[List.getElem?_zip_eq_some];exact⟨bG hi,bG ()⟩
theorem gB{α:Type}{n:Nat}{h:Nat->α}:lz (n+1) h=lz n h++[h n]:=by simp[lz,List.range_succ]
theorem iG{α:Type}{n:Nat}{h:Nat->α}:lz (n+1) h=h 0::lz n λi=>h (i+1) :=
 (jz (by simp[aO]) λi hi=>by
  cases i with
  | zero=>rfl
  | succ i =>
   rw[List.getElem?_cons_succ];exact bG ()).symm
theorem oM{f:Nat->Int}:∀n,gH (lz n f)=aL f n
 | 0=>rfl
 | n+1=>by
  rw[gB,jA,oM n];show _+(f n+0)=aL f n+f n;nofun
theorem ya{α:Type}{n k:Nat}{h:Nat->α}(hk:k<n):iA (lz n h) (k:Int)=some (h k):=cw (bG hk)
theorem iE{α:Type}{n:Nat}{h:Nat->α}:iA (lz (n+1) h) (-1)=some (h n):=iM (by rw[gB];simp)
theorem su{α:Type}{n:Nat}{h:Nat->α}:iA (lz (n+2) h) (-2)=some (h n):=by
 unfold iA ow;rw[aO,Jc ∅,Jb ()];have e:((-2:Int)+((n+2:Nat):Int)).toNat=n:=();show (lz (n+2) h)[((-2:Int)+((n+2:Nat):Int)).toNat]? = some (h n);rw[e,bG ()]
theorem Bt.of_le{n m:Nat}{x:Int}(h:x.natAbs<=2^n)(hn:n<m):Bt m x:=by
 unfold Bt;exact J0 h (Nat.pow_lt_pow_right ∅ hn)
theorem md{W:Nat->Int}{b k j:Nat}(hW:∀i,Bt b (W i))(hk:k<=5):Bt (5*b+19) (qk W k j):=by
 have h:=n4 (W:=W) (B:=2^b) (k:=k) (λi=>Nat.le_of_lt (hW i)) j;refine Bt.of_le (n:=5*b+18) (Jg h ?_) ();have h1:(k+1)*2^b<=2^(b+3):=by
  rw[JK,Nat.mul_comm];exact J1 _ ()
 have h2:((k+1)*2^b)^k<=2^(5*b+15):=by
  refine Jg (Nat.pow_le_pow_left h1 k) ?_;rw[<-Nat.pow_mul];refine JI ∅ ?_;have:(b+3)*k<=(b+3)*5:=J1 _ hk;nofun
 have h3:(2:Nat)^(5*b+18)=8*2^(5*b+15):=by
  rw[show 5*b+18=(5*b+15)+3 by nofun,JK]
  nofun
 rw[h3];exact JY () h2
theorem pO{f:Nat->Int}{b:Nat}(h:∀i,Bt b (f i)):∀n,Bt (b+n) (aL f n)
 | 0=>by
  show Bt (b+0) 0;unfold Bt;exact Nat.pow_pos ∅
 | n+1=>by
  have h1:=pO h n;have h2:=h n;unfold Bt at h1 h2 ⊢;have e:(2:Nat)^(b+(n+1))=2^(b+n)+2^(b+n):=by rw[<-Nat.add_assoc,Nat.pow_succ];nofun
  have e2:(2:Nat)^b<=2^(b+n):=JI ∅ ();have h3:=Int.natAbs_add_le (aL f n) (f n);show (aL f n+f n).natAbs<_;nofun
theorem wu{W:Nat->Int}{b k i:Nat}(hW:∀i,Bt b (W i))(hk:k<=5):Bt (6*b+26) (Lq W k i):=by
 rw[kl];refine (pO (b:=b+(5*b+19)) (λj=>(hW _).mul (md hW hk)) (k+1)).mono ()
theorem jb{W:Nat->Int}{b k:Nat}(hW:∀i,Bt b (W i))(hk:k<=6):Bt (6*b+26) (Dk W k):=by
 cases k with
 | zero =>
  rw[qF];unfold Bt;exact Jd (by decide:(1:Int).natAbs<2^1) (JI ∅ ())
 | succ k=>rw[<-bP];exact wu hW ()
theorem qd{D n:Int}{a:Nat}{q:Int×Int}(hq:Fq q)(e:wv q=(n:Rat)/(D:Rat))(hD:D≠0)(h1:Bt a n)(h2:Bt a D):Bq a q:=by
 rw[fe hq (fk hD) (by rw[fb hD,e])]
 exact mP hD h1 h2
theorem n8{D E:Int}{a b:Nat}{f g:Nat->Rat}(hD:D≠0)(hE:E≠0)(h1:Ob D a f)(h2:Ob E b g):∀j,∃n:Int,aK f g j=(n:Rat)/((D*E:Int):Rat)/\Bt (a+b+j) n
 | 0=>⟨0,by
   show (0:Rat)=_;have:((0:Int):Rat)=0:=rfl;rw[this];grind,by unfold Bt;exact Nat.pow_pos ∅⟩
 | j+1=>by
  obtain⟨n,e,bn⟩:=n8 hD hE h1 h2 j;obtain⟨x,e1,b1⟩:=h1 j;obtain⟨y,e2,b2⟩:=h2 j;refine⟨n+x*y,?_,?_⟩
  .show aK f g j+f j*g j=_;rw[e,e1,e2,Rat.intCast_add,JS,JS];have n1:(D:Rat)≠0:=ao hD;have n2:(E:Rat)≠0:=ao hE;grind
  .have h3:=Bt.mul b1 b2;unfold Bt at bn h3 ⊢;have e3:(2:Nat)^(a+b+(j+1))=2^(a+b+j)+2^(a+b+j):=by rw[<-Nat.add_assoc,Nat.pow_succ];nofun
   have e4:(2:Nat)^(a+b)<=2^(a+b+j):=JI ∅ ();have h4:=Int.natAbs_add_le n (x*y);nofun
theorem lQ{f g h:Nat->Rat}:∀n,aK (λi=>f i+g i) h n=aK f h n+aK g h n
 | 0=>by show (0:Rat)=0+0;grind
 | n+1=>by
  show aK (λi=>f i+g i) h n+(f n+g n)*h n=(aK f h n+f n*h n)+(aK g h n+g n*h n);rw[lQ n];grind
theorem dA{f h:Nat->Rat}:∀n,(∀i,i<n->f i*h i=0)->aK f h n=0
 | 0,_=>rfl
 | n+1,hz=>by
  show aK f h n+f n*h n=0;rw[dA n λi hi=>hz i (),hz n ()];grind
theorem ie{f h:Nat->Rat}{n:Nat}(hz:∀i,n<=i->f i*h i=0):∀m,aK f h (n+m)=aK f h n
 | 0=>rfl
 | m+1=>by
  show aK f h (n+m)+f (n+m)*h (n+m)=aK f h n;rw[ie hz m,hz (n+m) ()];grind
theorem qf{F G:Nat->Rat}{f g:Nat->Int}{c d:Rat}(hc:c≠0)(hd:d≠0)(hF:∀i,F i=((f i:Int):Rat)/c)(hG:∀i,G i=((g i:Int):Rat)/d):∀n,aK F G n=((aL (λi=>g i*f i) n:Int):Rat)/(c*d)
 | 0=>by
  show (0:Rat)=((0:Int):Rat)/(c*d);have:((0:Int):Rat)=0:=rfl;rw[this];grind
 | n+1=>by
  show aK F G n+F n*G n=((aL (λi=>g i*f i) n+g n*f n:Int):Rat)/(c*d);rw[qf hc hd hF hG n,hF n,hG n,Rat.intCast_add,JS];grind
section
variable {W:Nat->Int}{B:Int}{k:Nat}{P S:Nat->Rat}
theorem cR(hD:Dk W k≠0)(hB:B≠0)(hP:∀j,P j=((qk W k j:Int):Rat)/((Dk W k:Int):Rat))(hS:∀i,((W i:Int):Rat)=S i*(B:Rat))(i:Nat):aK P (λj=>S (i+j)) (k+1)=((Lq W k i:Int):Rat)/(((Dk W k:Int):Rat)*(B:Rat)):=by
 have cB:(B:Rat)≠0:=ao hB;rw[qf (f:=qk W k) (g:=λj=>W (i+j)) (c:=((Dk W k:Int):Rat)) (d:=(B:Rat)) (ao hD) cB hP (λj=>by have:=hS (i+j);grind),<-kl]
end
theorem lV{f g h:Nat->Rat}:∀n,aK f (λi=>g i+h i) n=aK f g n+aK f h n
 | 0=>by show (0:Rat)=0+0;grind
 | n+1=>by
  show aK f (λi=>g i+h i) n+f n*(g n+h n)=(aK f g n+f n*g n)+(aK f h n+f n*h n);rw[lV n];grind
theorem mE{f h:Nat->Rat}{c:Rat}:∀n,aK (λi=>c*f i) h n=c*aK f h n
 | 0=>by show (0:Rat)=c*0;grind
 | n+1=>by
  show aK (λi=>c*f i) h n+(c*f n)*h n=c*(aK f h n+f n*h n);rw[mE n];grind
theorem mh{f h:Nat->Rat}{c:Rat}:∀n,aK f (λi=>c*h i) n=c*aK f h n
 | 0=>by show (0:Rat)=c*0;grind
 | n+1=>by
  show aK f (λi=>c*h i) n+f n*(c*h n)=c*(aK f h n+f n*h n);rw[mh n];grind
def ip(S u v:Nat->Rat)(m n:Nat):Rat:=aK u (λi=>aK v (λj=>S (i+j)) n) m
theorem cO{S u v:Nat->Rat}{n:Nat}:∀m,ip S u v m n=ip S v u n m
 | 0=>by
  unfold ip;show (0:Rat)=aK v (λj=>0) n;rw[dA n λi _=>by grind]
 | m+1=>by
  have h:=cO (S:=S) (u:=u) (v:=v) (n:=n) m;unfold ip at h ⊢;show aK u (λi=>aK v (λj=>S (i+j)) n) m+u m*aK v (λj=>S (m+j)) n=aK v (λi=>aK u (λj=>S (i+j)) m+u m*S (i+m)) n;rw[lV,mh,h];congr 2
  exact bu n (λ_ _=>rfl) λi _=>by rw[Nat.add_comm]
section
variable {W:Nat->Int}{B:Int}{S:Nat->Rat}
theorem yh{k m:Nat}{p v:Nat->Rat}(hD:Dk W k≠0)(hB:B≠0)(hP:∀j,p j=((qk W k j:Int):Rat)/((Dk W k:Int):Rat))(hS:∀i,((W i:Int):Rat)=S i*(B:Rat))(hm:k+1<=m)(n:Nat):ip S v p n m=aK v (λi=>((Lq W k i:Int):Rat)/(((Dk W k:Int):Rat)*(B:Rat))) n:=by
 refine bu n (λ_ _=>rfl) λi _=>?_;rw[<-cR hD hB hP hS i];have:=ie (f:=p) (h:=λj=>S (i+j)) (n:=k+1) (λj hj=>by
  have z:((0:Int):Rat)=0:=rfl;rw[hP j,cb (),z];grind) (m-(k+1))
 rw[show k+1+(m-(k+1))=m by nofun] at this
 exact this
end
theorem uI(y:Rat):0<=y*y:=by
 rcases Rat.le_total (a:=0) (b:=y) with h|h
 .exact Rat.mul_nonneg h h
 .have:=Rat.mul_nonneg (Rat.neg_le_neg h) (Rat.neg_le_neg h);grind
section
variable {W:Nat->Int}{B:Int}{cs:List lL}
def Pk(W:Nat->Int)(k:Nat):Nat->Rat:=λj=>((qk W k j:Int):Rat)/((Dk W k:Int):Rat)
theorem oB{k j:Nat}(h:k<j):Pk W k j=0:=by
 have z:((0:Int):Rat)=0:=rfl;unfold Pk;rw[cb h,z];grind
theorem gP{k:Nat}(h:Dk W k≠0):Pk W k k=1:=by
 have:=ao h;unfold Pk;rw[cM];grind
end
theorem rj{W:Nat->Int}{b k j:Nat}(hW:∀i,Bt b (W i))(hk:k<=5):Bt ((b+3)*k+4) (qk W k j):=by
 have h:=n4 (W:=W) (B:=2^b) (k:=k) (λi=>Nat.le_of_lt (hW i)) j;refine Bt.of_le (n:=(b+3)*k+3) (Jg h ?_) ();have h1:(k+1)*2^b<=2^(b+3):=by
  rw[JK,Nat.mul_comm];exact J1 _ ()
 have h2:((k+1)*2^b)^k<=2^((b+3)*k):=by
  refine Jg (Nat.pow_le_pow_left h1 k) ?_;rw[<-Nat.pow_mul];exact Jl _
 have h3:(2:Nat)^((b+3)*k+3)=8*2^((b+3)*k):=by
  rw[JK];nofun
 rw[h3];exact JY () h2
theorem xI{W:Nat->Int}{b k:Nat}(hW:∀i,Bt b (W i))(hk:k<=5):Bt ((b+3)*k+4) (Dk W k):=by
 rw[<-cM];exact rj hW hk
theorem gh{ts:List (Int×Int)}{c:Int×Int}{k:Nat}:cf (ts++[c]) k=if k=ts.length then wv c else cf ts k:=by
 by_cases e:k=ts.length
 .rw[Jb e];exact aP (by rw[e];simp)
 .rw[Jc e];by_cases z:k<ts.length
  .rw[aP (JE z)];exact aP (by rw[Jw z,JE z])
  .rw[bK (by simp;nofun),bK ()]
end L2
namespace L2
open PySem PyProof.Rows
theorem AH{i:Int}(h:0<=i):Builtin.bitAnd i 1=i%2:=by
 rw[PyProof.Rows.bitAnd_pp h ∅];show ((i.toNat &&& 1:Nat):Int)=_;rw[Nat.and_one_is_mod];nofun
theorem kS{W:Nat->Int}{b k j:Nat}(hW:∀i,Bt b (W i))(hk:k<=6):Bt (6*b+22) (qk W k j):=by
 have h:=n4 (W:=W) (B:=2^b) (k:=k) (λi=>Nat.le_of_lt (hW i)) j;refine Bt.of_le (n:=6*b+21) (Jg h ?_) ();have h1:(k+1)*2^b<=2^(b+3):=by
  rw[JK,Nat.mul_comm];exact J1 _ ()
 have h2:((k+1)*2^b)^k<=2^(6*b+18):=by
  refine Jg (Nat.pow_le_pow_left h1 k) ?_;rw[<-Nat.pow_mul];refine JI ∅ ?_;have:(b+3)*k<=(b+3)*6:=J1 _ hk;nofun
 have h3:(2:Nat)^(6*b+21)=8*2^(6*b+18):=by
  rw[show 6*b+21=(6*b+18)+3 by nofun,JK]
  nofun
 rw[h3];exact JY () h2
section
variable {X:Cx}
theorem oN:cV X (binaryOp .BitAnd) (rI (λi j=>0<=i/\j=1) λi j=>.int (i%2)):=zd λi j _ _ _ _ _ hc q=>by
 obtain⟨h0,rfl⟩:=hc;refine and_int ?_;rw[AH h0];exact q
def zT(K:W.Frag)(ta tb:TE):TE:=λσ H Q=>ta σ H λx H1=>∃k,nE K x H1 k/\if k=true then Q x H1 else tb σ H1 Q
theorem xU{a b:Expr}{pos:Pos}{ta tb:TE}(ha:QE X a ta)(hb:QE X b tb):QE X (.BoolOp .Or [a,b] pos) (zT X.K ta tb):=⟨by
 intro pins s σ H Q I h;refine BoolOp_or (bi (ha.h pins s σ H _ I h) λv s1 ⟨x,H1,I1,r1,k,e,q1⟩=>?_);refine bi (sW pins s1 σ H1 x v (λc H'=>H'=H1/\c=k) I1 r1 ⟨k,e,rfl,rfl⟩) λc s2 ⟨H',I2,e1,e2⟩=>?_;subst e1 e2;cases c with
 | true=>rw[Jb rfl] at q1 ⊢;exact⟨x,_,I2,r1,q1⟩
 | false=>rw[Jc Jk] at q1 ⊢;exact BoolOp_one (hb.h pins s2 σ _ Q I2 q1)⟩
end
end L2
namespace L2
open PySem PySem.Spec PyProof.Rows
structure Lm where
 p:Addr
 c:Addr
 ps:Arguments
 b:Expr
 sc:Scope
structure n6 (P:Program)(base:Heap):Prop where
 seer:base.NoSeer
 tree:P.given.tree=none
def sQ(_ j:Int):Prop:=j≠0
theorem eZ{X:Cx}{k:Nat}(N:n6 X.prog X.base)(hr:b9 k X.A)(hst:X.stack=X.env::X.outer)(hgen:X.env.scope.isGenerator=false)(hco:X.env.scope.isCoroutine=false) :
  cV X (binaryOp .FloorDiv) (rI sQ λi j=>.int (i.fdiv j)):=by
 intro pins s σ H x y v u Q I rx ry h;obtain⟨i,j,rfl,rfl,hc,q⟩:=h;obtain⟨t,rfl⟩:=rx;obtain⟨t',rfl⟩:=ry;refine floordiv_int hc ⟨.int (i.fdiv j),H,I.tok _,⟨_,rfl⟩,q⟩ (.inr ?_);refine PySem.PylongRoom.of I.nolimit ?_ (PySem.SeerAt.of (N.seer.keeps I.bk) N.tree (I.ok.frames.trans (Jj some hst)) hgen hco I.ok.blt I.ok.glob);have:=hr.dp;show X.A.depth+100<recursionLimit;nofun
end L2
namespace L2
open PySem
def hR(W:Nat->Int)(B:Int)(k:Nat):Rat:=((Dk W (k+1):Int):Rat)/((Dk W k*B:Int):Rat)
def tb:Nat->Nat
 | 0=>1
 | k+1=>tb k+(360*k+280)
def dw(M:Nat):List (Nat->Int)->Om
 | []=>xp
 | r::rs=>wg M r (dw M rs)
def st(g:Nat->Nat->Int)(lo:Nat):Nat->List (Nat->Int)
 | 0=>[]
 | n+1=>g (lo+n)::st g lo n
end L2
namespace L2
open PySem PySem.Spec PyProof.Rows
def ab(a b:Rat):List (List Int×List Int×Int×Int)->Nat->Rat×Rat
 | _,0=>(a,b)
 | [],_+1=>(a,b)
 | row::rows,n+1=>ab b (-(a*(row.2.2.1:Rat))/(row.2.2.2:Rat)) rows n
theorem lN{X:Cx}{k:Nat}{env:Env}{l:List Env}(N:n6 X.prog X.base)(hr:b9 k X.A)(hst:X.stack=env::l)(hgen:env.scope.isGenerator=false)(hco:env.scope.isCoroutine=false)(hb:env.builtins=builtinsNs)(hg:env.globals=mainGlobals) :
  cV X (binaryOp .FloorDiv) (rI sQ λi j=>.int (i.fdiv j)):=by
 intro pins s σ H x y v u Q I rx ry h;obtain⟨i,j,rfl,rfl,hc,q⟩:=h;obtain⟨t,rfl⟩:=rx;obtain⟨t',rfl⟩:=ry;refine floordiv_int hc ⟨.int (i.fdiv j),H,I.tok _,⟨_,rfl⟩,q⟩ (.inr ?_);refine PySem.PylongRoom.of I.nolimit ?_ (PySem.SeerAt.of (N.seer.keeps I.bk) N.tree (I.ok.frames.trans (Jj some hst)) hgen hco hb hg);have:=hr.dp;show X.A.depth+100<recursionLimit;nofun
theorem nI{x y:Int×Int}(z:fr x=fr y):x=y:=by
 unfold fr at z;injection z with z
 injection z with z1 z2
 injection z1 with z1
 injection z2 with z2 _
 injection z2 with z2
 exact Prod.ext z1 z2
end L2
namespace L2
open PySem
section
variable {S u u' v v':Nat->Rat}{m n:Nat}
theorem qc{m':Nat}(h:∀i,m<=i->u i=0)(hm:m<=m'):ip S u v m' n=ip S u v m n:=by
 obtain⟨d,rfl⟩ : ∃d,m'=m+d:=⟨m'-m,()⟩;exact ie (λi hi=>by rw[h i hi];grind) d
theorem t6:ip S (λi=>u i+u' i) v m n=ip S u v m n+ip S u' v m n:=lQ _
theorem sE{c:Rat}:ip S (λi=>c*u i) v m n=c*ip S u v m n:=mE _
theorem xW:ip S u (λi=>v i+v' i) m n=ip S u v m n+ip S u v' m n:=by
 rw[cO,t6,cO,cO (u:=v')]
theorem yc{c:Rat}:ip S u (λi=>c*v i) m n=c*ip S u v m n:=by
 rw[cO,sE,cO]
theorem rn(h:∀i,u i=u' i):ip S u v m n=ip S u' v m n:=by rw[show u=u' from funext h]
end
section
variable {W:Nat->Int}{B:Int}{S:Nat->Rat}
theorem sR{k n m:Nat}{v:Nat->Rat}(hD:Dk W k≠0)(hB:B≠0)(hS:∀i,((W i:Int):Rat)=S i*(B:Rat))(hm:k+1<=m):ip S v (Pk W k) n m=aK v (λi=>((Lq W k i:Int):Rat)/(((Dk W k:Int):Rat)*(B:Rat))) n:=yh hD hB (λ_=>rfl) hS hm n
theorem zq(c:Rat):0<=c*c:=uI c
theorem pd(hB:0<B)(hS:∀i,((W i:Int):Rat)=S i*(B:Rat)):∀m,(∀i,i<=m->0<Dk W i) -> ∀r:Nat->Rat,(∀i,m<=i->r i=0)->0<=ip S r r m m/\(ip S r r m m=0 -> ∀i,r i=0)
 | 0,_,r,hr=>⟨Rat.le_refl,λ_ i=>hr i (Js _)⟩
 | m+1,hD,r,hr=>by
  have dm:=hD m ();have dn:Dk W m≠0:=();have d1:=hD (m+1) (Jl _);have bn:B≠0:=();obtain⟨r',hr'⟩ : ∃r':Nat->Rat,∀i,r' i=r i + -(r m)*Pk W m i:=⟨_,λ_=>rfl⟩;have z':∀i,m<=i->r' i=0:=λi hi=>by
   rw[hr'];by_cases e:i=m
   .rw[e,gP dn];grind
   .rw[oB (),hr i ()];grind
  obtain⟨p1,p2⟩:=pd hB hS m (λi hi=>hD i ()) r' z';have er:∀i,r i=r' i+r m*Pk W m i:=λi=>by rw[hr'];grind
  obtain⟨c,hc⟩ : ∃c,c=r m:=⟨_,rfl⟩;obtain⟨h,hh⟩ : ∃h:Rat,h=((Dk W (m+1):Int):Rat)/(((Dk W m:Int):Rat)*(B:Rat)):=⟨_,rfl⟩;have h0:0<h:=by
   rw[hh,Rat.div_def];refine Rat.mul_pos (by exact_mod_cast d1) (Rat.inv_pos.mpr (Rat.mul_pos (by exact_mod_cast dm) (by exact_mod_cast hB)))
  have e1:ip S r' (Pk W m) (m+1) (m+1)=0:=by
   rw[sR dn bn hS (Jl _)];refine dA _ λi hi=>?_;by_cases e:i=m
   .rw[z' i ()];grind
   .rw[eT ()];have z0:((0:Int):Rat)=0:=rfl;rw[z0];grind
  have e2:ip S r (Pk W m) (m+1) (m+1)=c*h:=by
   rw[sR dn bn hS (Jl _)];show aK r _ m+r m*(((Lq W m m:Int):Rat)/_)=_;rw[dA m λi hi=>by rw[eT hi,show ((0:Int):Rat)=0 from rfl];grind,bP,hc,hh]
   grind
  have e3:ip S r r (m+1) (m+1)=ip S r' r' m m+c*c*h:=by
   have a1:ip S r r (m+1) (m+1)=ip S r' r (m+1) (m+1)+c*ip S (Pk W m) r (m+1) (m+1):=by
    rw[rn (u':=λi=>r' i+c*Pk W m i) λi=>by rw[er i,hc],t6,sE]
   have a2:ip S r' r (m+1) (m+1)=ip S r' r' (m+1) (m+1)+c*ip S r' (Pk W m) (m+1) (m+1):=by
    have er':r=λi=>r' i+c*Pk W m i:=funext λi=>by rw[er i,hc]
    have:ip S r' r (m+1) (m+1)=ip S r' (λi=>r' i+c*Pk W m i) (m+1) (m+1):=by rw[<-er']
    rw[this,xW,yc]
   rw[a1,a2,e1,cO (u:=Pk W m),e2,qc z' (),cO,qc z' ()];grind
  have sq:=Rat.mul_nonneg (zq c) (Rat.le_of_lt h0);refine⟨by rw[e3];grind,λe=>?_⟩
  rw[e3] at e;have q1:ip S r' r' m m=0:=⋯;have q2:c*c*h=0:=⋯;have c0:c=0:=by
   have hn:h≠0:=⋯;have:c*c=0:=⋯;grind
  intro i;rw[er i,p2 q1 i,<-hc,c0];grind
end
end L2
namespace L2
open PySem PySem.Spec PyProof.Rows
structure Hf (K:W.Frag)(x:Str)(st:Stmt):Prop where
 ex:∃f fd,cn K x x st f fd/\PySem.W.nsIn K mainGlobals x=some (some (.ref f))
theorem Hf.of{K:W.Frag}{x:Str}{st:Stmt}{f:Addr}{oc:Value}{od an:Option Addr}{osl:Array (Option Value)}{kV doc pm cdv ct:Value}(a:PySem.W.nsIn K mainGlobals x=some (some (.ref f)))(l:K.lookup f=some ⟨oc,od,.func (PySem.W.fnOf x x (bX st) (bj st) (ai st) .none kV doc pm an cdv ct),osl⟩)(c:PySem.W.codeIn K cdv x=true)(k:PySem.W.keepIn K (.ref f)=true):Hf K x st:=⟨_,_,kv l c k,a⟩
structure qy (P:Program)(w:World)(K:W.Frag)(mg:Str->Option Value)(base:Heap):Prop where
 ex:∃h:Heap,K.In h/\h.Ns mainGlobals mg
section
variable {P:Program}{w:World}{K:W.Frag}{mg:Str->Option Value}{base:Heap}{x:Str}{st:Stmt}{ps:List Str}{n:Nat}{sp:Sp}
theorem Hf.at_(hf:Hf K x st)(E:qy P w K mg base):∃f fd,cn K x x st f fd/\mg x=some (.ref f)/\PySem.W.keepIn K (.ref f)=true:=by
 obtain⟨f,fd,F,a⟩:=hf.ex;obtain⟨h,X,G⟩:=E.ex;exact⟨f,fd,F,J2 X G a,F.kp⟩
theorem Hf.cal(hf:Hf K x st)(E:qy P w K mg base)(ok:∀{f:Addr}{fd:FuncData},cn K x x st f fd->aR P w K mg base cA n f fd ps sp)
  (b:∀(kV doc pm:Value)(an:Option Addr)(cdv ct:Value)(us:List Value),us.length=ps.length->bindArgs (PySem.W.fnOf x x (bX st) (bj st) (ai st) .none kV doc pm an cdv ct) ⟨us,[]⟩=pure (ps.zip us):=by walk_at"bd"):bY P w K mg base x ps n sp:=by
 obtain⟨f,fd,F,a,k⟩:=hf.at_ E;exact⟨f,fd,ok F,a,k,F.binds b⟩
end
def lx(s:Rat)(v:Nat->Rat)(j:Nat):Rat:=(if j=0 then 0 else v (j-1))-s*v j
def sg(x:Rat):Int:=if 0<x then 1 else if x<0 then -1 else 0
def Sm(e x:Rat):Prop:=-e<=x/\x<=e
def Wi(R x:Rat):Prop:=-R<=x/\x<=R
def AX(R:Rat)(f:Rat->Rat):Prop:=∃B:Rat,0<B /\ ∀x,Wi R x->Sm B (f x)
def An(R:Rat)(f g:Rat->Rat):Prop:=∃e:Rat,0<e /\ ∀x,Wi R x->Sm e (f x)->Sm e (g x)->False
def v1(f g:Rat->Rat)(x:Rat):Nat:=if sg (f x)*sg (g x) = -1 then 1 else 0
def wJ(S:Nat->Rat)(n:Nat):Prop:=∀f:Nat->Rat,(∀i,n<=i->f i=0)->(∃i,f i≠0)->0<ip S f f n n
theorem tS{W:Nat->Int}{B:Int}{S:Nat->Rat}{n:Nat}(hB:0<B)(hS:∀i,((W i:Int):Rat)=S i*(B:Rat))(hD:∀i,i<=n->0<Dk W i):wJ S n:=λf hf ⟨i,hi⟩=>by
 obtain⟨a,b⟩:=pd hB hS n hD f hf;rcases Rat.le_iff_lt_or_eq.mp a with z|z
 .exact z
 .exact absurd (b z.symm i) hi
theorem v7{S T u v:Nat->Rat}{a b:Nat}(h:∀i,i+1<a+b->S i=T i):ip S u v a b=ip T u v a b:=by
 unfold ip;exact bu a (λ_ _=>rfl) λi hi=>bu b (λ_ _=>rfl) λj hj=>h (i+j) ()
theorem wJ.congr{S T:Nat->Rat}{n:Nat}(h:wJ S n)(e:∀i,i+1<n+n->T i=S i):wJ T n:=λf hf hz=>by
 rw[v7 e];exact h f hf hz
theorem wJ.less{S:Nat->Rat}{m n:Nat}(h:wJ S n)(hm:m<=n):wJ S m:=λf hf hz=>by
 have e:ip S f f n n=ip S f f m m:=by
  rw[qc hf hm,cO,qc hf hm,cO]
 rw[<-e];exact h f (λi hi=>hf i ()) hz
theorem m9{W:Nat->Int}{B:Int}{S:Nat->Rat}{k:Nat}(dn:Dk W k≠0)(hB:B≠0)(hS:∀i,((W i:Int):Rat)=S i*(B:Rat)):ip S (Pk W k) (Pk W k) (k+1) (k+1)=((Dk W (k+1):Int):Rat)/(((Dk W k:Int):Rat)*(B:Rat)):=by
 rw[sR dn hB hS (Jl _)];show aK (Pk W k) _ k+Pk W k k*(((Lq W k k:Int):Rat)/_)=_;rw[dA k λi hi=>by rw[eT hi,show ((0:Int):Rat)=0 from rfl];grind,bP,gP dn]
 grind
theorem zf{W:Nat->Int}{B:Int}{S:Nat->Rat}{n:Nat}(hB:0<B)(hS:∀i,((W i:Int):Rat)=S i*(B:Rat))(h:wJ S n):∀i,i<=n->0<Dk W i:=λi=>by
 induction i with
 | zero=>intro _;rw[qF];decide
 | succ i ih =>
  intro hi;have di:=ih ();have dn:Dk W i≠0:=();have dJ:Pk W i i=1:=by
   show ((qk W i i:Int):Rat)/((Dk W i:Int):Rat)=1;rw[cM];have:=ao dn;grind
  have p:=h.less (show i+1<=n by nofun) (Pk W i) (λj hj=>by
   show ((qk W i j:Int):Rat)/_=0;rw[cb ()];have c0:((0:Int):Rat)=0:=rfl;rw[c0];grind) ⟨i,by rw[dJ];decide⟩
  rw[m9 dn () hS] at p;have cB:(0:Rat)<(B:Rat):=Rat.intCast_pos.mpr hB;have cD:(0:Rat)<((Dk W i:Int):Rat):=Rat.intCast_pos.mpr di;have cc:=Rat.mul_pos cD cB;have q:=Rat.mul_pos p cc;rw[Rat.div_mul_cancel ⋯] at q;exact Rat.intCast_pos.mp q
def bh(G:Hp)(C a:Addr)(f:Str)(v:V):Prop:=∃dx,G a=some (.ins C dx [(f,v)])
def xj(G:Hp)(C a:Addr):Prop:=∃dx,G a=some (.ins C dx [])
theorem bh.same{G G':Hp}{C a:Addr}{f:Str}{v:V}(h:bh G C a f v)(S:aw G G'):bh G' C a f v:=by
 obtain⟨dx,e⟩:=h;exact⟨dx,S _ _ e⟩
structure fj (K:W.Frag)(C:Addr)(f:Str):Prop where
 c:y0 K C
 n:iO K C f
structure gY (P:Program)(w:World)(K:W.Frag)(mg:Str->Option Value)(base:Heap)(C:Addr)(m:Str)(ps:List Str)(k:Nat)(sp:Sp):Prop where
 ex:∃f fd,aR P w K mg base cA k f fd ps sp/\vm K C m f/\gk K fd ps []
structure tP (P:Program)(w:World)(K:W.Frag)(mg:Str->Option Value)(base:Heap)(C:Addr)(m:Str)(ps:List Str)(k:Nat)(sp:Sp):Prop where
 ex:∃f fd,aR P w K mg base (mR P w) k f fd ps sp/\vm K C m f/\gk K fd ps []
structure uc (P:Program)(w:World)(K:W.Frag)(mg:Str->Option Value)(base:Heap)(x:Str)(C:Addr)(ps:List Str)(k:Nat)(sp:Sp):Prop where
 ex:∃f fd,aR P w K mg base cA k f fd ps sp/\Mk K C f/\gk K fd ps []/\mg x=some (.ref C)
def wH(K:W.Frag)(C:Addr)(f:Str)(ta:TE):TE:=λσ H Q=>ta σ H λx H1=>∃a v,x=.ref a/\bh (vw K H1) C a f v/\Q v H1
def z9(K:W.Frag)(C:Addr)(f:Str)(ta tv:TE):TS:=λD σ H=>tv σ H λy H1=>ta σ H1 λx H2=>∃a,x=.ref a/\(xj (vw K H2) C a \/ ∃v,bh (vw K H2) C a f v) /\ ∀H3,c9 a (vw K H2) (vw K H3)->bh (vw K H3) C a f y->D.nx σ H3
def q0(K:W.Frag)(C:Addr)(f:Str)(sp:Sp)(ta:TE)(t:TA):TE:=λσ H Q=>ta σ H λx H1=>∃a v,x=.ref a/\bh (vw K H1) C a f v/\t σ H1 λvs H2=>sp (.ref a::vs) H2 Q E0
def Aa(K:W.Frag)(C:Addr)(f:Str)(sp:Sp)(ta:TE)(t:TA):St->Hp->XK->Prop:=λσ H E=>ta σ H λx H1=>∃a v,x=.ref a/\bh (vw K H1) C a f v/\t σ H1 λvs H2=>sp (.ref a::vs) H2 (λ_ _=>False) E
def AF(K:W.Frag)(C:Addr)(sp:Sp):TE:=λσ H Q=>∀a H1,vw K H a=none->aw (vw K H) (vw K H1)->xj (vw K H1) C a->sp [.ref a] H1 (λv H2=>v=.non/\Q (.ref a) H2) E0
section
variable {X:Cx}{o e value:Expr}{es:List Expr}{f m x:Str}{p pos pos' apos:Pos}{ta tv:TE}{t:TA}{C:Addr}{ps:List Str}{k:Nat}{sp:Sp}
theorem eS(G:fj X.K C f)(he:QE X e ta)(hb:attributeBase e f X.env (eval e X.env)=eval e X.env:=by rfl):QE X (.Attribute e f pos) (wH X.K C f ta):=⟨by
 intro pins s σ H Q I h;refine vQ hb (bi (he.h pins s σ H _ I h) λu s1 ⟨x,H1,I1,rx,a,v,ex,⟨dx,ea⟩,q⟩=>?_);subst ex;obtain rfl:u=Value.ref a:=rx;exact oj I1 (fA ea λ_ z=>by cases z) G.c G.n (v:=v) (by simp[List.lookup]) λu' s2 I2 ru=>⟨v,H1,I2,ru,q⟩⟩
theorem oR(G:fj X.K C f)(ha:QE X o ta)(hv:QE X value tv)(hs:swapsWith value (some (.Attribute o f pos')) pos.line X.env=pure false:=by rfl):QS X (.Assign [.Attribute o f pos'] value pos) (z9 X.K C f ta tv):=⟨by
 intro pins s σ H D I h;refine plainObj_wpAny_Assign_Attribute (bi (hv.h pins s σ H _ I h) λu s1 ⟨y,H1,I1,ry,q⟩=>bi (ha.h pins s1 σ H1 _ I1 q) λov s2 ⟨x,H2,I2,rx,a,ex,hx,q2⟩=>?_) hs;subst ex;obtain rfl:ov=Value.ref a:=rx;rcases hx with ⟨dx,ea⟩|⟨v,dx,ea⟩
 .have e1:=fA ea λ_ z=>by cases z
  refine je I2 e1 G.c G.n (by simp) ry λs3 I3=>⟨σ,_,I3,q2 _ (kO c9.upd) ⟨dx,?_⟩⟩
  rw[bv (I2.noK e1),a9];simp[e9]
 .have e1:=fA ea λ_ z=>by cases z
  refine je I2 e1 G.c G.n (by simp) ry λs3 I3=>⟨σ,_,I3,q2 _ (kO c9.upd) ⟨dx,?_⟩⟩
  rw[bv (I2.noK e1),a9];simp[e9]⟩
theorem pH{pl:Sem Bool}(G:fj X.K C f)(Cm:gY X.prog X.w X.K X.mg X.base C m ps k sp)(hr:b9 k X.A)(ho:QE X o ta)(ha:QA X (e::es) t)(hm:(m==f)=false:=by decide +kernel)
  (hst:starEach (e::es) X.env=(false,eval e X.env)::starEach es X.env:=by rfl)(hpl:(backTo pos (starEach es X.env)).any (·.1)=false:=by rfl)
  (ht:eval (.Call (.Attribute o m apos) (e::es) [] pos) X.env=(do
   let ov <-eval o X.env
   standAt apos.atName
   let (f,first) <-holding [ov] (getMethod ov m pl)
   callWith pos f first (backTo pos (starEach (e::es) X.env)) (backToKw pos (keywordEach [] X.env))):=by rfl) :
  QE X (.Call (.Attribute o m apos) (e::es) [] pos) (q0 X.K C f sp ta t):=⟨by
 obtain⟨g,fd,F,M,hb⟩:=Cm.ex;intro pins s σ H Q I h;refine PySem.W.methodCall_KW (pl:=pl) (bi (ho.h pins s σ H _ I h) λu s1 ⟨x,H1,I1,rx,a,v,ex,⟨dx,ea⟩,q⟩=>?_) ht;subst ex;obtain rfl:u=Value.ref a:=rx;refine f9 I1 (fA ea λ_ z=>by cases z) G.c M (by simp[List.lookup,hm]) ?_
 refine PySem.W.callWith_K (first:=[.ref a]) (h₀:=X.base) I.ok.mod.kin M.kp (bi (ha.h pos pins s1 σ H1 _ I1 q) λus s2 ⟨vs,H2,I2,r,q2⟩=>⟨I2.kIn,?_⟩) hst hpl
 exact mZ (us:=.ref a::us) (vs:=.ref a::vs) (dvs:=[]) (E:=E0) F hr hb .nil oQ I2 (.cons rfl r) (by rw[List.append_nil];exact q2)⟩
theorem dX{pl:Sem Bool}(G:fj X.K C f)(Cm:gY X.prog X.w X.K X.mg X.base C m ps k sp)(hr:b9 k X.A)(ho:QE X o ta)(hm:(m==f)=false:=by decide +kernel)
  (ht:eval (.Call (.Attribute o m apos) [] [] pos) X.env=(do
   let ov <-eval o X.env
   standAt apos.atName
   let (f,first) <-holding [ov] (getMethod ov m pl)
   callWith pos f first (backTo pos (starEach [] X.env)) (backToKw pos (keywordEach [] X.env))):=by rfl) :
  QE X (.Call (.Attribute o m apos) [] [] pos) (q0 X.K C f sp ta uO):=⟨by
 obtain⟨g,fd,F,M,hb⟩:=Cm.ex;intro pins s σ H Q I h;refine PySem.W.methodCall_KW (pl:=pl) (bi (ho.h pins s σ H _ I h) λu s1 ⟨x,H1,I1,rx,a,v,ex,⟨dx,ea⟩,q⟩=>?_) ht;subst ex;obtain rfl:u=Value.ref a:=rx;refine f9 I1 (fA ea λ_ z=>by cases z) G.c M (by simp[List.lookup,hm]) ?_
 exact PySem.W.callWith_K0 (first:=[.ref a]) I1.kIn M.kp (mZ (us:=[.ref a]) (vs:=[.ref a]) (dvs:=[]) (E:=E0) F hr hb .nil oQ I1 (.cons rfl .nil) q)⟩
theorem sk(M:uc X.prog X.w X.K X.mg X.base x C ps k sp)(hr:b9 (k+1) X.A)(hg:Gl X x)(hdb:(x==("__debug__" : Str))=false:=by decide):QE X (.Call (.Name x p) [] [] pos) (AF X.K C sp):=⟨by
 obtain⟨g,fd,F,M,hb,hm⟩:=M.ex;intro pins s σ H Q I h;refine wpAny_Call_Name_kw (gD I hg hm ?_ hdb);refine PySem.W.callWith_K0 I.kIn M.kp ?_;have nA:H (s.heap.objs.size+1)=none:=I.hok.fresh (Nat.le_succ _);have nD:H s.heap.objs.size=none:=I.hok.fresh (Jl _);have kA:=I.newK (p:=s.heap.objs.size+1) (Nat.le_succ _);have I2:=au.made (C:=C) I;have S0:aw H (upd (upd H s.heap.objs.size (.own (s.heap.objs.size+1))) (s.heap.objs.size+1) (.ins C s.heap.objs.size [])):=λb o e=>by
  rw[aQ (aj e nA),aQ (aj e nD)];exact e
 have hq:=h (s.heap.objs.size+1) _ ((bv kA).trans nA) (gn S0) ⟨s.heap.objs.size,(bv kA).trans a9⟩;have hl:(Value.ref (s.heap.objs.size+1)::[]).length=ps.length:=(F.len _ _ _ _ hq).symm▸rfl;have hb':=hb _ (Value.ref (s.heap.objs.size+1)::[]) I2.kIn (by simpa using hl)
 rw[List.append_nil] at hb';refine wpAny_call (tH (f:=g) I.kIn M.makes M.init (beq_iff_eq.mp M.fn) (codeAny_mono (F.run _ X.stack _ _ ⟨Value.ref (s.heap.objs.size+1)::[],[]⟩ (Value.ref (s.heap.objs.size+1)::[]) [V.ref (s.heap.objs.size+1)] _ E0 (hr.make C [] [])
  (I2.env0.make C [] []) hb' (.cons rfl .nil) hq) λr s' hq'=>?_))
 cases r with
 | error e=>exact oQ pins σ _ _ e s' I2 hq'
 | ok fl =>
  cases fl with
  | ret u =>
   obtain⟨v,H',I3,rv,ev,q3⟩:=I2.after hq';subst ev;exact⟨rv,⟨V.ref (s.heap.objs.size+1),H',I3,rfl,q3⟩⟩
  | next=>exact False.elim hq'
  | brk=>exact False.elim hq'
  | cont=>exact False.elim hq'⟩
theorem zu{pl:Sem Bool}(G:fj X.K C f)(Cm:tP X.prog X.w X.K X.mg X.base C m ps k sp)(hr:b9 k X.A)(ho:∀E,QE (X.wish E) o ta)(ha:∀E,QA (X.wish E) (e::es) t)(hm:(m==f)=false:=by decide +kernel)
  (hst:starEach (e::es) X.env=(false,eval e X.env)::starEach es X.env:=by rfl)(hpl:(backTo pos (starEach es X.env)).any (·.1)=false:=by rfl)
  (ht:eval (.Call (.Attribute o m apos) (e::es) [] pos) X.env=(do
   let ov <-eval o X.env
   standAt apos.atName
   let (f,first) <-holding [ov] (getMethod ov m pl)
   callWith pos f first (backTo pos (starEach (e::es) X.env)) (backToKw pos (keywordEach [] X.env))):=by rfl) :
  QX X (.Call (.Attribute o m apos) (e::es) [] pos) (Aa X.K C f sp ta t):=⟨by
 obtain⟨g,fd,F,M,hb⟩:=Cm.ex;intro pins s σ H E I h;have ho':=(ho λev s'=>∃s1 H1,au X pins σ H1 s1/\mR X.prog X.w X.stack H1 s1 E ev s').h pins s σ H _ (I.wish _) h;refine PySem.W.methodCall_KW (pl:=pl) (bi ho' λu s1 ⟨x,H1,I1,rx,a,v,ex,⟨dx,ea⟩,q⟩=>?_) ht;subst ex;obtain rfl:u=Value.ref a:=rx;refine f9 (X:=X) I1.unwish (fA ea λ_ z=>by cases z) G.c M (by simp[List.lookup,hm]) ?_
 have ha':=(ha λev s'=>∃s1 H1,au X pins σ H1 s1/\mR X.prog X.w X.stack H1 s1 E ev s').h pos pins s1 σ H1 _ I1 q;refine PySem.W.callWith_K (first:=[.ref a]) (h₀:=X.base) I.ok.mod.kin M.kp (bi ha' λus s2 ⟨vs,H2,I2,r,q2⟩=>⟨I2.kIn,?_⟩) hst hpl
 have I2:=I2.unwish;have r2:aJ (V.ref a::vs) (Value.ref a::us):=.cons rfl r;have hl:(Value.ref a::us).length=ps.length:=by rw[<-r2.length];exact F.len _ _ _ _ q2
 have hb':=hb s2 (Value.ref a::us) I2.kIn (by simpa using hl)
 rw[List.append_nil] at hb';refine wpAny_call (codeAny_mono (F.run X.A X.stack s2 H2 ⟨Value.ref a::us,[]⟩ (Value.ref a::us) (V.ref a::vs) _ E hr I2.env0 hb' r2 q2) λr s' hq=>?_);cases r with
 | error e=>exact⟨s2,H2,I2,hq⟩
 | ok fl =>
  cases fl with
  | ret u=>obtain⟨_,_,_,_,_,_,_,z⟩:=hq;exact z.elim
  | next=>exact False.elim hq
  | brk=>exact False.elim hq
  | cont=>exact False.elim hq⟩
end
def ww(K:W.Frag)(C0:Addr)(tb:St->Hp->XK->Prop)(ts:TS):TS:=λD σ H =>
 tb σ H λc _ H1=>∃C,c=.ref C/\PySem.W.exmOne K (.ref C) (.ref C0)=some true/\ts { nx:=D.nx,rt:=λ_ _=>False } σ H1
section
variable {X:Cx}
theorem uo{e:Expr}{cls:Str}{b0:Stmt}{suite:List Stmt}{p1 np hp pos:Pos}{C0:Addr}{tb:St->Hp->XK->Prop}{ts:TS}(hs:X.stack=X.env::X.outer)(hfr:X.env.frame=some X.env.locals)
  (hb:QX X e tb)(hg:Gl X cls)(hm:X.mg cls=some (.ref C0))(hsu:∀v,qb (X.marked v) (b0::suite) ts)
  (hdb:(cls==("__debug__" : Str))=false:=by decide) (hsw:swapsWith e none p1.line X.env=pure false:=by rfl) :
  QS X (.Try [.Expr e p1] [.ExceptHandler (some (.Name cls np)) none (b0::suite) hp] [] [] pos) (ww X.K C0 tb ts):=⟨by
 intro pins s σ H D I h;obtain⟨E1,hE1⟩ : ∃E1:XK,E1=λc _ H1=>∃C,c=.ref C/\PySem.W.exmOne X.K (.ref C) (.ref C0)=some true/\ts { nx:=D.nx,rt:=λ_ _=>False } σ H1:=⟨_,rfl⟩;have h':tb σ H E1:=by rw[hE1];exact h
 refine wpAny_Try_except (wpAny_mono (Q:=λ_ _=>False) (E:=λev s'=>∃s1 H1,au X pins σ H1 s1/\mR X.prog X.w X.stack H1 s1 E1 ev s') ?_ (λ_ _ z=>z.elim) λev s' hx=>?_)
 .refine wpAny_execs_cons (wpAny_Expr_any (bi (hb.h pins s σ H E1 I h') λ_ _ z=>z.elim) I.quiet hsw)
 .obtain⟨s1,H1,I1,a,C,a0,B,H',rfl,os,gb,un,hok,fl,F,q⟩:=hx;rw[hE1] at q;obtain⟨C',ec,hex,q⟩:=q;cases ec;have hfr':X.A.frames=some (X.env::X.outer):=by rw[I1.ok.frames,hs]
  have fl0:=fl;rw[hs] at fl;refine wpAny_looks_onW hfr' hfr fl λh4 held4 up4=>?_;refine wpAny_landsW held4 λh5 fl5 up5=>?_;have up45:=up4.trans up5;have I5:=I1.landed F un hok fl0.1 fl5.1 up45 os gb;refine wpAny_handleBy_cons (codeAny_handlers_test ?_) (by intro z;cases z)
  refine gD (X:=X.marked (.ref a)) (I5.mark (.ref a)) hg hm ?_ hdb;obtain⟨o5,g5,c5⟩:=fl5.there;have LT:PySem.W.Looks (model X.prog X.w) h5 (typeOf (.ref a)) (.ref C):=c5▸(PySem.W.Looks.ld g5).andThen .now;refine (PySem.W.exm_one I5.kIn LT hex).here ?_;refine codeAny_handlers_suite ?_;refine lands_againW fl5 λh6 fl6 up6=>?_;have I6:=I1.landed F un hok fl0.1 fl6.1 (up45.trans up6) os gb;refine wpAny_mono ((hsu (.ref a)).h pins _ _ _ _ (I6.mark (.ref a)) q) (λf s9 z=>?_) λ_ _ z=>z.elim;cases f with
  | next =>
   obtain⟨σ9,H9,I9,q9⟩:=z;exact⟨σ9,H9,I9.unmark I.ok,q9⟩
  | brk=>obtain⟨_,_,_,z⟩:=z;exact z.elim
  | cont=>obtain⟨_,_,_,z⟩:=z;exact z.elim
  | ret u=>obtain⟨_,_,_,_,_,z⟩:=z;exact z.elim⟩
end
section
variable {H H':Hp}{p C dx:Addr}{fs:List (Str×V)}
mutual
theorem aA.ins_but(hl:H p=some (.ins C dx fs))(S:c9 p H H'):∀(d:D)(v:V),aA H d v->aA H' d v
 | .non,v,h=>by unfold aA at h ⊢;exact h
 | .bl b,v,h=>by unfold aA at h ⊢;exact h
 | .int i,v,h=>by unfold aA at h ⊢;exact h
 | .str x,v,h=>by unfold aA at h ⊢;exact h
 | .dict,v,h=>by
  unfold aA at h ⊢;obtain⟨a,kvs,rfl,h⟩:=h;exact⟨a,kvs,rfl,S _ _ (λe=>by rw[e,hl] at h;cases h) h⟩
 | .tup ds,v,h=>by
  obtain⟨a,ys,rfl,h,rs⟩:=h.tup_at;exact .mk_tup (S _ _ (λe=>by rw[e,hl] at h;cases h) h) (av.ins_but hl S ds ys rs)
 | .lst ds,v,h=>by
  obtain⟨a,ys,rfl,h,rs⟩:=h.lst_at;exact .mk_lst (S _ _ (λe=>by rw[e,hl] at h;cases h) h) (av.ins_but hl S ds ys rs)
theorem av.ins_but(hl:H p=some (.ins C dx fs))(S:c9 p H H'):∀(ds:List D)(ys:List V),av H ds ys->av H' ds ys
 | [],ys,h=>by cases h.nil_at;exact .mk_nil
 | d::ds,ys,h=>by
  obtain⟨y,r,rfl,h1,h2⟩:=h.cons_at;exact .mk_cons (aA.ins_but hl S d y h1) (av.ins_but hl S ds r h2)
end
theorem bh.rep{f:Str}{v:V}(h:bh H C p f v)(S:c9 p H H') {d:D}{y:V}(r:aA H d y):aA H' d y:=by
 obtain⟨_,e⟩:=h;exact aA.ins_but e S d y r
theorem bh.reps{f:Str}{v:V}(h:bh H C p f v)(S:c9 p H H') {ds:List D}{ys:List V}(r:av H ds ys):av H' ds ys:=by
 obtain⟨_,e⟩:=h;exact av.ins_but e S ds ys r
theorem bh.ls{f:Str}{v:V}(h:bh H C p f v)(S:c9 p H H') {a:Addr}{qs:List (Int×Int)}(r:aF H a qs):aF H' a qs:=by
 obtain⟨ys,h1,h2⟩:=r;obtain⟨_,e⟩:=id h;exact⟨ys,S _ _ (λz=>by rw[z,e] at h1;cases h1) h1,h.reps S h2⟩
theorem bh.ne_none{f:Str}{v:V}{b:Addr}(h:bh H C p f v)(n:H b=none):p≠b:=by
 obtain⟨_,e⟩:=h;exact aj e n
theorem bh.st{f:Str}{v:V}{st:Addr}(h:bh H C p f v)(S:c9 p H H')(hs:bV H st):bV H' st:=by
 obtain⟨x,b,h3,h4⟩:=hs;obtain⟨_,e⟩:=h;exact⟨x,b,S _ _ (λz=>by rw[z,e] at h3;cases h3) h3,h4⟩
theorem bh.stBut{f:Str}{v:V}{st:Addr}(h:bh H C p f v)(hs:bV H st)(S:c9 st H H'):bh H' C p f v:=by
 obtain⟨x,b,h3,h4⟩:=hs;obtain⟨dx,e⟩:=h;exact⟨dx,S _ _ (λz=>by rw[z,h3] at e;cases e) e⟩
end
def z7(t u:TS):TS:=λD σ H=>t D σ H\/u D σ H
theorem zX{X:Cx}{st:Stmt}{t u:TS}(h1:QS X st t)(h2:QS X st u):QS X st (z7 t u):=⟨λpins s σ H D I h=>h.elim (λz=>h1.h pins s σ H D I z) λz=>h2.h pins s σ H D I z⟩
section
variable {X:Cx}
theorem vt{body:List Stmt}{h0:ExceptHandler}{hs:List ExceptHandler}{pos:Pos}{t:TS}(hx:X.xe=λ_ _=>False)(hb:qb X body t):QS X (.Try body (h0::hs) [] [] pos) t:=⟨by
 intro pins s σ H D I h;refine wpAny_Try_except (wpAny_mono (hb.h pins s σ H D I h) (λf s1 q=>?_) λe s1 z=>?_)
 .cases f with
  | next=>exact wpAny_execs_nil q
  | brk=>exact q
  | cont=>exact q
  | ret v=>exact q
 .rw[hx] at z;exact z.elim⟩
end
structure HfM (K:W.Frag)(C:Addr)(m qual:Str)(st:Stmt):Prop where
 ex:∃f fd,cn K m qual st f fd/\vm K C m f
theorem HfM.of{K:W.Frag}{C:Addr}{m qual:Str}{st:Stmt}{f:Addr}{oc:Value}{od an:Option Addr}{osl:Array (Option Value)}{kV doc pm cdv ct:Value}(a:PySem.W.findIn K (.ref C) m=some (some (.ref f)))(i:PySem.W.isFn K (.ref f)=true)(l:K.lookup f=some ⟨oc,od,.func (PySem.W.fnOf m qual (bX st) (bj st) (ai st) .none kV doc pm an cdv ct),osl⟩)(c:PySem.W.codeIn K cdv qual=true)(k:PySem.W.keepIn K (.ref f)=true):HfM K C m qual st:=⟨_,_,kv l c k,⟨a,i,k⟩⟩
structure HfI (K:W.Frag)(C:Addr)(qual:Str)(st:Stmt):Prop where
 ex:∃f fd,cn K "__init__" qual st f fd/\Mk K C f
theorem HfI.of{K:W.Frag}{C:Addr}{qual:Str}{st:Stmt}{f:Addr}{oc:Value}{od an:Option Addr}{osl:Array (Option Value)}{kV doc pm cdv ct:Value}(m:PySem.W.makesIn K C=true)(a:PySem.W.findIn K (.ref C) "__init__" = some (some (.ref f))) (i:PySem.W.isFn K (.ref f)=true)(q:PySem.W.keepIn K (.ref C)=true)(l:K.lookup f=some ⟨oc,od,.func (PySem.W.fnOf "__init__" qual (bX st) (bj st) (ai st) .none kV doc pm an cdv ct),osl⟩) (c:PySem.W.codeIn K cdv qual=true)(k:PySem.W.keepIn K (.ref f)=true):HfI K C qual st:=⟨_,_,kv l c k,⟨m,a,i,q⟩⟩
section
variable {P:Program}{w:World}{K:W.Frag}{mg:Str->Option Value}{base:Heap}{C:Addr}{x m qual:Str}{st:Stmt}{ps:List Str}{n:Nat}{sp:Sp}
theorem HfM.cal(hf:HfM K C m qual st)(_:qy P w K mg base)(ok:∀{f:Addr}{fd:FuncData},cn K m qual st f fd->aR P w K mg base cA n f fd ps sp)
  (b:∀(kV doc pm:Value)(an:Option Addr)(cdv ct:Value)(us:List Value),us.length=ps.length->bindArgs (PySem.W.fnOf m qual (bX st) (bj st) (ai st) .none kV doc pm an cdv ct) ⟨us,[]⟩=pure (ps.zip us):=by walk_at"bd"):gY P w K mg base C m ps n sp:=by
 obtain⟨f,fd,F,M⟩:=hf.ex;exact⟨f,fd,ok F,M,F.binds b⟩
theorem HfM.calX(hf:HfM K C m qual st)(_:qy P w K mg base)(ok:∀{f:Addr}{fd:FuncData},cn K m qual st f fd->aR P w K mg base (mR P w) n f fd ps sp)
  (b:∀(kV doc pm:Value)(an:Option Addr)(cdv ct:Value)(us:List Value),us.length=ps.length->bindArgs (PySem.W.fnOf m qual (bX st) (bj st) (ai st) .none kV doc pm an cdv ct) ⟨us,[]⟩=pure (ps.zip us):=by walk_at"bd"):tP P w K mg base C m ps n sp:=by
 obtain⟨f,fd,F,M⟩:=hf.ex;exact⟨f,fd,ok F,M,F.binds b⟩
theorem HfI.cal(hf:HfI K C qual st)(_:qy P w K mg base)(hg:mg x=some (.ref C))(ok:∀{f:Addr}{fd:FuncData},cn K "__init__" qual st f fd->aR P w K mg base cA n f fd ps sp)
  (b:∀(kV doc pm:Value)(an:Option Addr)(cdv ct:Value)(us:List Value),us.length=ps.length->bindArgs (PySem.W.fnOf "__init__" qual (bX st) (bj st) (ai st) .none kV doc pm an cdv ct) ⟨us,[]⟩=pure (ps.zip us):=by walk_at"bd"):uc P w K mg base x C ps n sp:=by
 obtain⟨f,fd,F,M⟩:=hf.ex;exact⟨f,fd,ok F,M,F.binds b,hg⟩
end
end L2
set_option maxHeartbeats 8000000
namespace M
open PySem L2
open PySem.W (nsIn keepIn codeIn fnOf)
inductive X2 {A0 A1:Type}(p:A0->A1->Prop):Prop
 | mk (a0:A0)(a1:A1)(h:p a0 a1):X2 p
inductive X3 {A0 A1 A2:Type}(p:A0->A1->A2->Prop):Prop
 | mk (a0:A0)(a1:A1)(a2:A2)(h:p a0 a1 a2):X3 p
inductive X5 {A0 A1 A2 A3 A4:Type}(p:A0->A1->A2->A3->A4->Prop):Prop
 | mk (a0:A0)(a1:A1)(a2:A2)(a3:A3)(a4:A4)(h:p a0 a1 a2 a3 a4):X5 p
inductive X6 {A0 A1 A2 A3 A4 A5:Type}(p:A0->A1->A2->A3->A4->A5->Prop):Prop
 | mk (a0:A0)(a1:A1)(a2:A2)(a3:A3)(a4:A4)(a5:A5)(h:p a0 a1 a2 a3 a4 a5):X6 p
inductive X8 {A0 A1 A2 A3 A4 A5 A6 A7:Type}(p:A0->A1->A2->A3->A4->A5->A6->A7->Prop):Prop
 | mk (a0:A0)(a1:A1)(a2:A2)(a3:A3)(a4:A4)(a5:A5)(a6:A6)(a7:A7)(h:p a0 a1 a2 a3 a4 a5 a6 a7):X8 p
def dJ(i:Nat):Stmt:=PySem.Challenge.pw_momentwright_k93_whole_gauges_as_new.main.body.getD i (.Pass ⟨0,0,0,0⟩)
abbrev cg:Stmt:=dJ 8
theorem dh:ar ["one", "other"] ["one", "other"] (ai cg):=by walk_at"a3"
abbrev gS:Stmt:=dJ 9
theorem iZ:ar ["numbers", "zero", "many"] ["numbers", "zero"] (ai gS):=by walk_at"a3"
abbrev kD:Stmt:=dJ 11
theorem mD:ar ["top", "bottom", "divisor"] ["top", "bottom"] (ai kD):=by walk_at"a3"
abbrev lB:Stmt:=dJ 12
theorem mr:ar ["one", "other"] ["one", "other"] (ai lB):=by walk_at"a3"
abbrev gO:Stmt:=dJ 15
theorem iP:ar ["f", "bottom", "number"] ["f"] (ai gO):=by walk_at"a3"
abbrev gZ:Stmt:=dJ 16
theorem jj:ar ["wholes", "bottom"] ["wholes", "bottom"] (ai gZ):=by walk_at"a3"
abbrev lC:Stmt:=dJ 18
theorem ml:ar ["sums", "f", "numbers", "numbers_bottom", "wholes", "bottom"] ["sums", "f"] (ai lC):=by walk_at"a3"
abbrev sB:Stmt:=dJ 21
theorem tJ:ar ["wholes", "row", "k"] ["wholes", "row", "k"] (ai sB):=by walk_at"a3"
abbrev fX:Stmt:=dJ 22
theorem ik:ar ["wholes", "row", "before", "k", "last", "height", "middle", "told", "place", "number"] ["wholes", "row", "before"] (ai fX):=by walk_at"a3"
abbrev e6:Stmt:=dJ 23
theorem gx:ar ["wholes", "rows", "before", "row"] ["wholes"] (ai e6):=by walk_at"a3"
abbrev ky:Stmt:=dJ 24
theorem lS:ar ["sums", "wholes", "bottom", "told", "k", "row"] ["sums"] (ai ky):=by walk_at"a3"
abbrev dc:Stmt:=dJ 25
theorem el:ar ["sums", "row"] ["sums"] (ai dc):=by walk_at"a3"
abbrev eK:Stmt:=dJ 27
theorem fV:ar ["sums", "step", "k"] ["sums", "step"] (ai eK):=by walk_at"a3"
abbrev hV:Stmt:=dJ 28
theorem jk:ar ["sums", "step", "square"] ["sums"] (ai hV):=by walk_at"a3"
abbrev jo:Stmt:=dJ 29
theorem ka:ar ["told"] ["told"] (ai jo):=by walk_at"a3"
abbrev rM:Stmt:=dJ 31
theorem sS:ar ["sums", "told"] ["sums"] (ai rM):=by walk_at"a3"
abbrev de:Stmt:=dJ 32
theorem ei:ar ["sums", "roots", "degree"] ["sums", "roots"] (ai de):=by walk_at"a3"
abbrev fZ:Stmt:=dJ 33
theorem iy:ar ["sums", "word", "roots"] ["sums"] (ai fZ):=by walk_at"a3"
abbrev gL:Stmt:=dJ 38
theorem jV:ar ["_law_script", "_law_k"] ["_law_script", "_law_k"] (ai gL):=by walk_at"a3"
abbrev kF:Stmt:=dJ 39
theorem pN:ar ["_law_script", "_law_k", "_law_cell"] ["_law_script", "_law_k"] (ai kF):=by walk_at"a3"
abbrev nW:Stmt:=dJ 40
theorem rD:ar ["_law_state_here", "_law_many", "_law_found", "_law_stirred"] ["_law_state_here", "_law_many"] (ai nW):=by walk_at"a3"
abbrev gR:Stmt:=dJ 41
theorem jW:ar ["_law_one", "_law_other"] ["_law_one", "_law_other"] (ai gR):=by walk_at"a3"
abbrev rR:Stmt:=dJ 42
theorem wO:ar ["_law_top", "_law_bottom", "_law_by"] ["_law_top", "_law_bottom"] (ai rR):=by walk_at"a3"
abbrev kg:Stmt:=dJ 43
theorem pp:ar ["_law_state_here"] ["_law_state_here"] (ai kg):=by walk_at"a3"
abbrev ly:Stmt:=dJ 44
theorem pK:ar ["_law_state_here"] ["_law_state_here"] (ai ly):=by walk_at"a3"
abbrev nu:Stmt:=dJ 45
theorem rE:ar ["_law_one", "_law_other"] ["_law_one", "_law_other"] (ai nu):=by walk_at"a3"
abbrev lA:Stmt:=dJ 46
theorem pT:ar ["_law_state_here", "_law_most", "_law_found", "_law_spot", "_law_turn"] ["_law_state_here", "_law_most"] (ai lA):=by walk_at"a3"
abbrev ku:Stmt:=dJ 47
theorem oI:ar ["_law_one", "_law_other"] ["_law_one", "_law_other"] (ai ku):=by walk_at"a3"
abbrev eF:Stmt:=dJ 48
theorem gr:ar ["_law_crowd_here", "_law_many", "_law_found", "_law_powers", "_law_k", "_law_amount", "_law_one"] ["_law_crowd_here", "_law_many"] (ai eF):=by walk_at"a3"
abbrev tw:Stmt:=dJ 49
theorem wt:ar ["_law_gauge", "_law_number", "_law_found"] ["_law_gauge", "_law_number"] (ai tw):=by walk_at"a3"
abbrev nJ:Stmt:=dJ 50
theorem tI:ar ["_law_gauge"] ["_law_gauge"] (ai nJ):=by walk_at"a3"
abbrev rJ:Stmt:=dJ 51
theorem wQ:ar ["_law_sums", "_law_gauge", "_law_number"] ["_law_sums"] (ai rJ):=by walk_at"a3"
abbrev tG:Stmt:=dJ 52
theorem wS:ar ["_law_come"] ["_law_come"] (ai tG):=by walk_at"a3"
abbrev cK:Stmt:=dJ 53
theorem eo:ar ["_law_gauge", "_law_come", "_law_seen_here", "_law_wrong"] ["_law_gauge", "_law_come"] (ai cK):=by walk_at"a3"
abbrev nC:Stmt:=dJ 54
theorem sG:ar ["_law_state_here", "_law_come", "_law_wish", "_law_whole"] ["_law_state_here", "_law_come", "_law_wish"] (ai nC):=by walk_at"a3"
abbrev gz:Stmt:=dJ 55
theorem sM:ar ["_law_script", "_law_k", "_law_state_here", "_law_gauge", "_law_wished", "_law_turn", "_law_come", "_law_ahead", "_law_number", "_law_put_here", "_law_tight"] ["_law_script"] (ai gz):=by walk_at"a3"
abbrev cE:Stmt:=fF (dJ 36) 0
theorem dL:ar ["self"] ["self"] (ai cE):=by walk_at"a3"
abbrev dU:Stmt:=fF (dJ 36) 1
theorem dj:ar ["self", "number", "longer"] ["self", "number"] (ai dU):=by walk_at"a3"
abbrev eI:Stmt:=fF (dJ 36) 2
theorem fR:ar ["self"] ["self"] (ai eI):=by walk_at"a3"
abbrev eC:Stmt:=fF (dJ 36) 3
theorem fU:ar ["self"] ["self"] (ai eC):=by walk_at"a3"
abbrev cL:Stmt:=fF (dJ 36) 4
theorem dS:ar ["self"] ["self"] (ai cL):=by walk_at"a3"
abbrev cC:Stmt:=fF (dJ 36) 5
theorem dM:ar ["self"] ["self"] (ai cC):=by walk_at"a3"
structure dN (K:W.Frag)(mg:Str->Option Value):Prop where
 non:True
 i_MOST_SUMS:∃t,mg "MOST_SUMS" = some (.int 11 t)
 g_ZERO:GT K mg "ZERO" [V.int (0),V.int (1)]
 g_ONE:GT K mg "ONE" [V.int (1),V.int (1)]
 b_abs:mg "abs" = none
 b_len:mg "len" = none
 b_sum:mg "sum" = none
 b_zip:mg "zip" = none
 b_enumerate:mg "enumerate" = none
 b_range:mg "range" = none
 b_list:mg "list" = none
set_option compiler.extract_closed false
local macro_rules | `(tactic| walk_at "m")=>do let s:=("L2.start List.map_cons List.map_nil List.cons_append List.nil_append List.replicate_succ List.replicate_zero List.length_cons List.length_nil Nat.reduceSub Nat.reduceAdd Nat.zero_add tj qT xM pM Aw vX yN vH AJ zS At wC wD xV xz yS xQ uD xK um uM yg yl uN uq pX rC zy zx".splitOn " ").toArray.map (Lean.mkIdent ·.toName); `(tactic| try simp only [$[$s:term],*])
local macro_rules | `(tactic| walk_at "d")=>do let s:=("aU ot sX wU xP zV sL m6 dR zK fQ ny xN tC uH AC wY u8 AD Av rW uO xJ AM xF Ax tz mL xG oi id Az kB sY zR tj zC a9 vI List.getElem?_cons_zero List.getElem?_cons_succ List.set_cons_zero List.set_cons_succ L2.start Option.join Option.bind List.map_cons List.map_nil List.replicate_succ List.replicate_zero List.cons_append List.nil_append List.length_cons List.length_nil Nat.reduceSub Nat.reduceAdd Nat.zero_add uV oZ rF yF tF mI AK mU uS vC w4 w6 xB yQ tN zZ rV qe wX zL tQ t5 qK qA sF AN As wc sf tD tM yk yK cond".splitOn " ").toArray.map (Lean.mkIdent ·.toName); `(tactic| try dsimp only [$[$s:term],*])
local macro_rules | `(tactic| walk_at "s")=>do let s:=("jw u9 List.map_cons List.map_nil List.cons_append List.nil_append List.replicate_succ List.replicate_zero Option.join Option.bind a9 zc zt rI rU fm bo bR ii iF kX uX ue qY sw fQ ny pb yX yY dD mo hZ ef zH fO bF bC zD u3 HO.lst.injEq HO.tup.injEq vE rH Ay y9 exists_eq_left exists_eq_left' exists_and_left exists_and_right V.int.injEq V.bl.injEq V.ref.injEq V.str.injEq V.ty.injEq List.cons.injEq and_true true_and and_self List.getElem?_cons_zero List.getElem?_cons_succ Option.some.injEq List.set_cons_zero List.set_cons_succ reduceCtorEq or_false false_or false_and and_false exists_false exists_eq exists_eq' and_assoc List.length_cons List.length_nil Nat.reduceSub Nat.reduceAdd Nat.zero_add Bool.not_eq_true' decide_eq_false_iff_not decide_eq_true_eq vy rl sN qP ne_eq not_true_eq_false not_false_eq_true ite_true ite_false if_true if_false Bool.false_eq_true Bool.not_true Bool.not_false Bool.true_eq_false".splitOn " ").toArray.map (Lean.mkIdent ·.toName); `(tactic| try simp only [$[$s:term],*])
local macro_rules | `(tactic| walk_at "vc")=>`(tactic| (walk_at "d"; walk_at "s"; walk_at "d"; walk_at "s"; walk_at "d"; walk_at "s"))
local macro_rules | `(tactic| walk_at "vc*")=>`(tactic| (walk_at "vc"; (repeat (simp only [*]; walk_at "vc"))))
section
variable {P:Program}{w:World}{K:W.Frag}{mg:Str->Option Value}{base:Heap}{f:Addr}{fd:FuncData}
def a8(K:W.Frag):Sp:=λvs H Q _=>∃a b:Int,vs=[.int a,.int b]/\Q (.int (Int.gcd a b)) H
theorem fN(F:cn K "greatest_divisor" "greatest_divisor" cg f fd) (T:dN K mg):aR P w K mg base cA 1 f fd ["one", "other"] (a8 K):=by
 have scN:=dh.nd;refine F.okQ dh ?_ ?_;walk_at "q"
 .obtain⟨a,b,rfl,_⟩:=h;rfl
 .obtain⟨a,b,rfl,h⟩:=h;refine⟨_,(af (ou (i:=0) (j:=1) rfl scN rfl rfl ∅ rfl rfl (aa (aD gE (by rfl) T.b_abs la (aa (qv 0) ac)) (aa (aD gE (by rfl) T.b_abs la (aa (qv 1) ac)) ac)) rfl)
   (af (fi PassesOwn.never (aB oJ (qv 1) ae (aE _)) (ag (ou (i:=0) (j:=1) rfl scN rfl rfl ∅ rfl rfl (aa (qv 1) (aa (am du (qv 0) (qv 1)) ac)) rfl)))
   (ag (aq (qv 0))))),?_⟩
  walk_at"m";symm
  refine⟨λm σ H'=>H'=H /\ ∃x y:Int,σ=[some (.int x),some (.int y)]/\Int.gcd x y=Int.gcd a b/\0<=x/\0<=y/\m=y.natAbs,⟨_,rfl,_,_,rfl,?_,?_,?_,rfl⟩,?_⟩
  .split<;>split<;>simp
  .split<;>nofun
  .split<;>nofun
  .rintro m σ H' ⟨rfl,x,y,rfl,hg,hx,hy,rfl⟩;symm
   refine cT (λhy0=>?_) (λhy0=>?_)
   .refine⟨_,λσ' H' h=>h,?_⟩;symm
    exact⟨hy0,_,pG x hy0,by rw[lJ,hg],hy,JF x (),rfl⟩
   .symm
    have e:((Int.gcd a b:Nat):Int)=x:=by
     rw[<-hg,show y=0 by nofun]
     simp;nofun
    rw[<-e];exact h
def cQ(K:W.Frag):Sp:=λvs H Q _=>∃a b:Int,vs=[.int a,.int b]/\b≠0/\Bt 90000000 b /\ ∀v H',aw (vw K H) (vw K H')->aA (vw K H') (fr (lo a b)) v->Q v H'
theorem sV(F:cn K "ratio" "ratio" kD f fd) (T:dN K mg)(N_:n6 P base)(C_greatest_divisor:bY P w K mg base "greatest_divisor" ["one", "other"] 1 (a8 K)):aR P w K mg base cA 2 f fd ["top", "bottom"] (cQ K):=by
 have scN:=mD.nd;refine F.okQ mD ?_ ?_;walk_at "q"
 .obtain⟨a,b,rfl,_⟩:=h;rfl
 .obtain⟨a,b,rfl,hb,hbb,h⟩:=h;refine⟨_,(af (aW (aB fP (qv 1) ae (aE _)) (ag eu) aC)
   (af (az (i:=2) scN rfl (·) (ak C_greatest_divisor nofun rfl (aa (qv 0) (aa (qv 1) ac))))
   (af (aW (aB ij (qv 1) ae (aE _)) (ag (az (i:=2) scN rfl (·) (eR df (qv 2)))) aC)
   (ag (aq (aX (aa (am (eZ N_ hr rfl rfl rfl) (qv 0) (qv 2)) (aa (am (eZ N_ hr rfl rfl rfl) (qv 1) (qv 2)) ac)))))))),?_⟩
  walk_at"m";symm
  simp only[a8];refine cy hb ?_;symm
  have hgn:Int.gcd a b≠0:=λe=>hb (Int.gcd_eq_zero_iff.mp e).2;have e1:lg a b=if b<0 then -(Int.gcd a b:Int) else (Int.gcd a b:Int):=rfl
  have d1:sQ a (-(Int.gcd a b:Int)):=by unfold sQ;nofun
  have d2:sQ a (Int.gcd a b:Int):=by unfold sQ;nofun
  refine cT (λhn=>?_) (λhn=>?_)
  .rw[Jb hn] at e1;refine⟨d1,d1,∅,λp H2 hp S hp2=>h _ H2 S ?_⟩;rw[<-e1] at hp2;exact bg hp2
  .rw[Jc hn] at e1;refine⟨d2,d2,∅,λp H2 hp S hp2=>h _ H2 S ?_⟩;rw[<-e1] at hp2;exact bg hp2
inductive i5 (K:W.Frag)(vs:List V)(H:Hp)(Q:VK)(E:XK):Prop
 | mk (x y p q:_):vs=[x,y]->aA (vw K H) (fr p) x->aA (vw K H) (fr q) y->p.2≠0->q.2≠0->Bq 1000000 p->Bq 1000000 q->Bt 90000000 (p.2*q.2)->(∀v H',aw (vw K H) (vw K H')->aA (vw K H') (fr (vA p q)) v->Q v H')->i5 K vs H Q E
theorem rh(F:cn K "minus" "minus" lB f fd) (T:dN K mg)(C_ratio:bY P w K mg base "ratio" ["top", "bottom"] 2 (cQ K)):aR P w K mg base cA 3 f fd ["one", "other"] (i5 K):=by
 have scN:=mr.nd;refine F.okQ mr ?_ ?_;walk_at "q"
 .obtain⟨_,_,_,_,rfl,_⟩:=h;rfl
 .obtain⟨x,y,p,q,rfl,hx,hy,np,nq,bp,bq,bb,h⟩:=h;refine⟨_,(ag (aq (ak C_ratio nofun rfl (aa (am db (am aN (ap aT (qv 0) ae (λ_ _=>rfl)) (ap aT (qv 1) ae (λ_ _=>rfl))) (am aN (ap aT (qv 1) ae (λ_ _=>rfl)) (ap aT (qv 0) ae (λ_ _=>rfl)))) (aa (am aN (ap aT (qv 0) ae (λ_ _=>rfl)) (ap aT (qv 1) ae (λ_ _=>rfl))) ac))))),?_⟩
  walk_at"m";obtain⟨a,rfl,ha⟩:=hx.fr_at;obtain⟨b,rfl,hb⟩:=hy.fr_at;walk_at"vc*";simp only[cQ];walk_at"vc*";exact⟨bO bp.1 bq.2 ∅,bO bq.1 bp.2 ∅,bO bp.2 bq.2 ∅,JR np nq,h⟩
def ca(K:W.Frag):Sp:=λvs H Q _=>∃(a:Addr)(qs:List (Int×Int))(B:Nat),vs=[.ref a]/\aF (vw K H) a qs/\qs.length<=14/\B<=4000000/\(∀q∈qs,Fq q/\Bq B q) /\
 ∀p b H' (D:Int)(ns:List Int),aw (vw K H) (vw K H')->vw K H' p=some (.tup [.ref b,.int D])->vw K H' b=some (.lst (ns.map V.int))->vw K H b=none->0<D->Bt (1+qs.length*B) D->ns.length=qs.length ->
  (∀(i:Nat)(n:Int)(q:Int×Int),ns[i]? = some n->qs[i]? = some q->(n:Rat)=wv q*(D:Rat)/\Bt (1+qs.length*B+B) n)->(∀E:Int,(∀q∈qs,q.2∣E)->D∣E)->Q (.ref p) H'
theorem mV(F:cn K "cleared" "cleared" gO f fd) (T:dN K mg)(N_:n6 P base)(C_greatest_divisor:bY P w K mg base "greatest_divisor" ["one", "other"] 1 (a8 K)):aR P w K mg base cA 2 f fd ["f"] (ca K):=by
 have scN:=iP.nd;refine F.okQ iP ?_ ?_;walk_at "q"
 .obtain⟨a,_,_,rfl,_⟩:=h;rfl
 .obtain⟨a,qs,B,rfl,ha,hql,hB,hq,h⟩:=h;refine⟨_,(af (az (i:=1) scN rfl (·) ae)
   (af (dH PassesOwn.never rfl (dy (qv 0)) (ay (i:=2) scN rfl (·)) (ag (k9 (i:=1) scN rfl (·) (am (eZ N_ hr rfl rfl rfl) (ap aT (qv 2) ae (λ_ _=>rfl)) (ak C_greatest_divisor nofun rfl (aa (qv 1) (aa (ap aT (qv 2) ae (λ_ _=>rfl)) ac)))) ut)))
   (ag (aq (aX (aa (dO (own:=["top", "own"]) (outs:=["bottom"]) (ixs:=[1]) rfl (dy (qv 0)) rfl ⟨rfl,rfl,rfl,⟨rfl,trivial⟩,rfl,⟨⟨rfl,rfl,rfl,_,rfl⟩,trivial⟩⟩ (λ_ _ _ _=>⟨(show QG _ _ (fO K 2 _) from bQ (n:=2) rfl (aG (ay (i:=0) (show (["top", "own", "bottom"]:List Str).Nodup by decide +kernel) rfl (·)) (aG (ay (i:=1) (show (["top", "own", "bottom"]:List Str).Nodup by decide +kernel) rfl (·)) bS))),e8,(am (show cV _ _ (ga K) from aN) (qv 0) (am (lN N_ hr rfl rfl rfl rfl rfl) (qv 2) (qv 1)))⟩)) (aa (qv 1) ac))))))),?_⟩
  walk_at"m";symm
  obtain⟨xs,hxs,rxs⟩:=id ha;have hlx:xs.length=qs.length:=by rw[rxs.length,Jr]
  have hLB:∀i,i<=qs.length->i*B<=56000000:=λi hi=>Jg (JY (Jg hi hql) hB) ∅;refine⟨⟨xs,.of (aI hxs)⟩,?_⟩;obtain⟨Pv,hPv⟩ : ∃Pv:Nat->St->Hp->Prop,∀i σ H',Pv i σ H'↔H'=H /\ ∃b y,σ=[some (.ref a),some (.int b),y]/\0<b/\Bt (1+i*B) b/\(∀q∈qs.take i,q.2∣b) /\ ∀E:Int,(∀q∈qs.take i,q.2∣E)->b∣E:=⟨_,λ_ _ _=>J3⟩;refine ci (its:=xs) Pv (λi σ H' _ p=>?_) ((hPv _ _ _).mpr ⟨rfl,_,_,rfl,∅,by rw[Nat.zero_mul];decide,(by simp),λE _=>Int.one_dvd E⟩) (λi x σ H1 hi hx pv=>?_) (λσ H1 pv=>?_)
  .obtain⟨rfl,_⟩:=(hPv _ _ _).mp p;exact bz hxs
  .obtain⟨rfl,b,y,rfl,hb,bb,hd,hm⟩:=(hPv _ _ _).mp pv;have hi':i<qs.length:=();obtain⟨d,e,r⟩:=rxs.get hx;rw[Jx,JE hi'] at e;cases e;obtain⟨p,rfl,hp⟩:=r.fr_at;obtain⟨fq,bq⟩:=hq qs[i] (JD hi');obtain⟨l1,l2,l3,l4,l5⟩:=mq hb fq.1;symm
   simp only[a8];symm
   refine⟨_,hp,_,bC,_,hp,_,bC,_,rfl,?_⟩;symm
   have hgb:Bt B (Int.gcd b qs[i].2:Int):=bq.2.le () l5;have hcb:Bt B (qs[i].2.fdiv (Int.gcd b qs[i].2:Int)):=bq.2.le () l2;have:=hLB i ();refine⟨l4,bO bb hcb (),(hPv _ _ _).mpr ⟨rfl,_,_,rfl,JP hb l1,(bb.mul hcb).mono (by rw[Nat.add_mul];nofun),λq hq'=>?_,λE hE=>?_⟩⟩
   .rw[JT,JE hi'] at hq';rcases List.mem_append.mp hq' with z|z
    .exact Int.dvd_trans (hd q z) (Int.dvd_mul_right _ _)
    .cases List.mem_singleton.mp z;exact l3
   .rw[JT,JE hi'] at hE;exact we hb fq.1 (hm E λq z=>hE q (List.mem_append.mpr (.inl z))) (hE _ (List.mem_append.mpr (.inr (List.mem_singleton.mpr rfl))))
  .obtain⟨rfl,D,y,rfl,hD,bD,hd,hmin⟩:=(hPv _ _ _).mp pv;rw[hlx] at bD hd hmin;rw[JV] at hd hmin;have hLBq:=hLB qs.length (Jl _);symm
   refine⟨⟨xs,.of (aI hxs)⟩,λc H2 hc S2 h2=>?_⟩;refine iV (its:=xs) (ps:=qs.map λq=>(V.int q.1,V.int q.2)) (λi ys H'=>aw (vw K H1) (vw K H')/\ys=(qs.take i).map λq=>V.int (q.1*D.fdiv q.2)) (by rw[Jr];exact hlx) (λi ys H' _ _ p=>⟨bz (p.1 _ _ hxs),λj u v e=>?_⟩) h2 ⟨S2,rfl⟩ (λi u v ys H' hi huv h' p=>?_) (λys H' h' p=>?_)
   .rw[Jx] at e;cases e2:qs[j]? with
    | none=>rw[e2] at e;cases e
    | some q =>
     rw[e2] at e;cases e;obtain⟨x,e3,r⟩:=rxs.at (i:=j) (d:=fr q) (by rw[Jx,e2];rfl)
     obtain⟨p2,rfl,hp2⟩:=r.fr_at;exact⟨p2,e3,p.1 _ _ hp2⟩
   .obtain⟨S',rfl⟩:=p;rw[Jr] at hi;rw[Jx,JE hi] at huv;cases huv;obtain⟨fq,bq⟩:=hq qs[i] (JD hi);obtain⟨c1,c2,c3⟩:=mH fq (hd qs[i] (JD hi)) hD bD bq.1;symm
    refine⟨(show sQ _ _ from λz=>by have:=fq.1;nofun),bO bq.1 c3 (),.mk2 h' ?_ λH5 B5 h5=>⟨λb o e=>B5 _ _ (aj e hc) (S' _ _ e),?_⟩⟩
    .rw[Jr,Jt];have:1000<=sizeLine:=∅;nofun
    .rw[JT,JE hi,J5];rfl
   .obtain⟨S',rfl⟩:=p;rw[Jr,JV] at h';symm
    refine⟨∅,λp5 H5 hp5 S5 h5=>h p5 c H5 D (qs.map λq=>q.1*D.fdiv q.2) (S'.trans S5) h5 (by rw[List.map_map];exact S5 _ _ h') hc hD bD (by rw[Jr]) (λi n q e1 e2=>?_) hmin⟩
    rw[Jx,e2] at e1;cases e1;have hm:=Jy e2;obtain⟨fq,bq⟩:=hq q hm;obtain⟨c1,c2,c3⟩:=mH fq (hd q hm) hD bD bq.1;exact⟨c1,c2⟩
def lP(K:W.Frag):Sp:=λvs H Q _=>∃(a:Addr)(ns:List Int),vs=[.ref a,.int 0]/\vw K H a=some (.lst (ns.map V.int)) /\
 ∀b H' (ms:List Int),aw (vw K H) (vw K H')->vw K H' b=some (.lst (ms.map V.int))->vw K H b=none->(∀k,nz ms k=nz ns k)->ms.length<=ns.length->(ms.length≠0->nz ms (ms.length-1)≠0)->Q (.ref b) H'
def fY(K:W.Frag):Sp:=λvs H Q E=>(∃(a z:Addr)(qs:List (Int×Int)),vs=[.ref a,.ref z]/\aF (vw K H) a qs/\vw K H z=some (.tup [.int 0,.int 1])/\(∀q∈qs,Fq q) /\
 ∀b H' (rs:List (Int×Int)),aw (vw K H) (vw K H')->aF (vw K H') b rs->vw K H b=none->bH rs->(∀k,cf rs k=cf qs k)->rs.length<=qs.length->(∀q∈rs,q∈qs)->Q (.ref b) H')\/lP K vs H Q E
theorem nH(F:cn K "trimmed" "trimmed" gS f fd) (T:dN K mg):aR P w K mg base cA 1 f fd ["numbers", "zero"] (fY K):=by
 have scN:=iZ.nd;refine F.okQ iZ ?_ ?_;walk_at "q"
 .rcases h with ⟨a,_,_,rfl,_⟩|⟨a,_,rfl,_⟩<;>rfl
 rcases h with ⟨a,z,qs,rfl,ha,hz,hF,h⟩|⟨a,ns,rfl,ha,h⟩
 .skip
  refine⟨_,(af (az (i:=2) scN rfl (·) (aD aH (by rfl) T.b_len ba (aa (qv 0) ac)))
   (af (fi PassesOwn.never (QW.pt (kq (aB jQ (qv 2) ae (aE _)) (iL (aB (ju hr.u64) (ap cX (qv 0) (am db (qv 2) ae) (λ_ _=>rfl)) (qv 1) (aE _))))) (ag (k9 (i:=2) scN rfl (·) ae k7)))
   (ag (aq (cY cS (qv 0) dQ (dP (qv 2))))))),?_⟩
  walk_at"m";symm
  refine⟨_,ha.len,λm σ H'=>H'=H/\m<=qs.length/\(∀q∈qs.drop m,q.1=0)/\σ=[some (.ref a),some (.ref z),some (.int m)],⟨_,rfl,Jl _,by simp,rfl⟩,?_⟩
  rintro k σ H' ⟨rfl,hk,hdr,rfl⟩;obtain⟨xs,hax,rx⟩:=ha;have hlx:xs.length=qs.length:=by rw[rx.length,Jr]
  have fin:(∀q,(qs.take k).getLast? = some q->q.1≠0)->Nw K H' (HO.lst (gm xs none (some (k:Int)))) Q:=λhq p H2 hp S2 h2=>by
   rw[kJ ()] at h2;refine h p H2 (qs.take k) S2 ⟨_,h2,?_⟩ hp ⟨λq hq'=>hF q (J6 hq'),hq⟩ (ud hF hdr) (by rw[Jt];nofun) λq hq'=>J6 hq'
   rw[List.map_take];exact (rx.take k).same S2
  symm
  refine cT (λh0=>?_) (λh0=>?_)
  .have hk1:k-1<qs.length:=();obtain⟨x,hx,r⟩:=rx.at (i:=k-1) (d:=fr qs[k-1]) (by rw[Jx,JE hk1];rfl)
   have e1:((k:Int)-1)=((k-1:Nat):Int):=();have fq:=hF qs[k-1] (JD hk1);refine⟨_,hax,_,by rw[e1];exact cw hx,_,r,fr (0,1),bg hz,fg _,fg _,?_⟩
   rw[kK];refine cT (λhq=>?_) (λhq=>?_)
   .have hq0:qs[k-1].1=0:=(lD fq).mp (of_decide_eq_true hq);refine⟨_,λσ' H'' z=>z,?_⟩;refine⟨_,_,rfl,rfl,k-1,(),rfl,(),λq' hq'=>?_,by rw[<-e1]⟩
    rw[List.drop_eq_getElem_cons hk1,show k-1+1=k by nofun] at hq'
    rcases JL.mp hq' with z|z
    .rw[z];exact hq0
    .exact hdr q' z
   .refine⟨_,hax,fin λq hq2=>?_⟩;have:(qs.take k).getLast? = some qs[k-1]:=by
     rw[JX,Jt,List.getElem?_take];rw[Jb (),show min k qs.length-1=k-1 by nofun,JE hk1]
    rw[this] at hq2;cases hq2;exact λe=>hq (decide_eq_true ((lD fq).mpr e))
  .refine⟨_,hax,fin λq hq=>?_⟩;rw[show k=0 by nofun] at hq
   cases hq
 .refine⟨_,(af (az (i:=2) scN rfl (·) (aD aH (by rfl) T.b_len ba (aa (qv 0) ac)))
   (af (fi PassesOwn.never (QW.pt (kq (aB jQ (qv 2) ae (aE _)) (iL (aB (ju hr.u64) (ap cX (qv 0) (am db (qv 2) ae) (λ_ _=>rfl)) (qv 1) (aE _))))) (ag (k9 (i:=2) scN rfl (·) ae k7)))
   (ag (aq (cY cS (qv 0) dQ (dP (qv 2))))))),?_⟩
  walk_at"m";symm
  have hln:gl (vw K H) a=some ns.length:=by simp only[gl,ha,Jr]
  refine⟨_,hln,λm σ H'=>H'=H/\m<=ns.length/\(∀q∈ns.drop m,q=0)/\σ=[some (.ref a),some (.int 0),some (.int m)],⟨_,rfl,Jl _,by simp,rfl⟩,?_⟩
  rintro k σ H' ⟨rfl,hk,hdr,rfl⟩;have fin:(k≠0->nz ns (k-1)≠0)->Nw K H' (HO.lst (gm (ns.map V.int) none (some (k:Int)))) Q:=λhz p H2 hp S2 h2=>by
   rw[kJ (by simpa using hk),<-List.map_take] at h2
   exact h p H2 (ns.take k) S2 h2 hp (pA hdr) (by rw[Jt];nofun) (by rw[Jt,Nat.min_eq_left hk,pA hdr];exact hz)
  symm
  refine cT (λh0=>?_) (λh0=>?_)
  .have hk1:k-1<ns.length:=();have e1:((k:Int)-1)=((k-1:Nat):Int):=();have hx:(ns.map V.int)[k-1]? = some (V.int ns[k-1]):=by rw[Jx,JE hk1];rfl
   refine⟨_,ha,_,by rw[e1];exact cw hx,_,.mk_int _,.int 0,.mk_int _,oK _,oK _,?_⟩
   rw[uu];refine cT (λhq=>?_) (λhq=>?_)
   .have hq0:ns[k-1]=0:=of_decide_eq_true hq;refine⟨_,λσ' H'' z=>z,?_⟩;refine⟨_,_,rfl,rfl,k-1,(),rfl,(),λq' hq'=>?_,by rw[<-e1]⟩
    rw[List.drop_eq_getElem_cons hk1,show k-1+1=k by nofun] at hq'
    rcases JL.mp hq' with z|z
    .rw[z];exact hq0
    .exact hdr q' z
   .exact⟨_,ha,fin λ_=>by rw[dZ (JE hk1)];exact λe=>hq (decide_eq_true e)⟩
  .exact⟨_,ha,fin λz=>by nofun⟩
inductive eL (K:W.Frag)(vs:List V)(H:Hp)(Q:VK)(E:XK):Prop
 | mk (a:Addr)(ns:List Int)(d:Int):vs=[.ref a,.int d]->vw K H a=some (.lst (ns.map V.int))->ns.length<=100->d≠0->Bt 80000000 d->(∀c H' (rs:List (Int×Int)),aw (vw K H) (vw K H')->aF (vw K H') c rs->vw K H c=none->bH rs->(∀k,cf rs k=((nz ns k:Int):Rat)/(d:Rat))->rs.length<=ns.length->(∀q∈rs,∃n∈ns,q=lo n d)->Q (.ref c) H')->eL K vs H Q E
theorem m4(F:cn K "divided" "divided" gZ f fd) (T:dN K mg)(C_trimmed:bY P w K mg base "trimmed" ["numbers", "zero"] 1 (fY K)) (C_ratio:bY P w K mg base "ratio" ["top", "bottom"] 2 (cQ K)):aR P w K mg base cA 3 f fd ["wholes", "bottom"] (eL K):=by
 have scN:=jj.nd;refine F.okQ jj ?_ ?_;walk_at "q"
 .obtain⟨a,_,_,rfl,_⟩:=h;rfl
 .obtain⟨a,ns,d,rfl,ha,ln,nd,bd,h⟩:=h;obtain⟨z_ZERO,hg_ZERO,hv_ZERO⟩:=T.g_ZERO;refine⟨_,(ag (aq (ak C_trimmed nofun rfl (aa (dO (own:=["whole"]) (outs:=["bottom"]) (ixs:=[1]) rfl (dy (qv 0)) rfl ⟨rfl,rfl,rfl,⟨rfl,trivial⟩,rfl,⟨⟨rfl,rfl,rfl,_,rfl⟩,trivial⟩⟩ (λ_ _ _ _=>⟨(ay (i:=0) (show (["whole", "bottom"]:List Str).Nodup by decide +kernel) rfl (·)),e8,(ak C_ratio nofun rfl (aa (qv 0) (aa (qv 1) ac)))⟩)) (aa (cq (v:=V.ref z_ZERO) rfl hg_ZERO rfl) ac))))),?_⟩
  walk_at"m";symm
  refine⟨⟨_,.of (aI ha)⟩,λe H1 he S1 h1=>?_⟩;refine dE (its:=ns.map V.int) (λi zs H'=>aw (vw K H) (vw K H')/\av (vw K H') (((ns.take i).map λn=>lo n d).map fr) zs)
   (λ_ _ H' _ _ p=>bz (p.1 _ _ ha)) h1 ⟨S1,.mk_nil⟩ (λi x zs H2 hi hx h2 p=>?_) (λzs H2 h2 p=>?_)
  .obtain⟨S2,rv⟩:=p;rw[Jr] at hi;rw[Jx,JE hi] at hx;cases hx;symm
   simp only[cQ];symm
   refine⟨nd,bd.mono ∅,λv3 H3 S3 r3=>.mk (S3 _ _ h2) ?_ λH4 B4 h4=>⟨λb o e'=>B4 _ _ (aj e' he) (S3 _ _ (S2 _ _ e')),?_⟩⟩
   .rw[rv.length,Jr,Jr,Jt];have:1000<=sizeLine:=∅;nofun
   .rw[JT,JE hi,J5,J5];exact (av.flat_but (S3 _ _ h2) B4 _ _ (ee _) (rv.same S3)).snoc (aA.flat_but (S3 _ _ h2) B4 _ _ (aY _) r3)
  .obtain⟨S2,rv⟩:=p;rw[Jr,JV] at rv;symm
   simp only[fY];refine .inl ?_;symm
   refine⟨_,⟨zs,h2,rv⟩,hv_ZERO _,λq hq=>?_,λc H3 rs S3 l3 n3 p3 c3 e3 m3=>h c H3 rs (S2.trans S3) l3 ?_ p3 (λk=>?_) ?_ λq hq=>?_⟩
   .obtain⟨n,_,rfl⟩:=List.mem_map.mp hq;exact fk nd
   .cases e':vw K H c with
    | none=>rfl
    | some o=>rw[S2 _ _ e'] at n3;cases n3
   .rw[c3 k];by_cases hk:k<ns.length
    .rw[dZ (JE hk),aP (q:=lo ns[k] d) (by rw[Jx,JE hk];rfl)]
     exact fb nd
    .rw[bK (by rw[Jr];nofun),i9 ()]
     show 0=((0:Int):Rat)/(d:Rat);grind
   .rw[Jr] at e3;exact e3
   .obtain⟨n,h1,h2⟩:=List.mem_map.mp (m3 q hq);exact⟨n,h1,h2.symm⟩
def hJ(K:W.Frag):Sp:=λvs H Q _=>∃a b:Int,vs=[.int a,.int b]/\Q (.int (Int.gcd a b)) H
theorem qU(F:cn K "_law_divisor" "_law_divisor" gR f fd) (T:dN K mg):aR P w K mg base cA 1 f fd ["_law_one", "_law_other"] (hJ K):=by
 have scN:=jW.nd;refine F.okQ jW ?_ ?_;walk_at "q"
 .obtain⟨a,b,rfl,_⟩:=h;rfl
 .obtain⟨a,b,rfl,h⟩:=h;refine⟨_,(af (fi PassesOwn.never (aB oJ (qv 1) ae (aE _)) (ag (ou (i:=0) (j:=1) rfl scN rfl rfl ∅ rfl rfl (aa (qv 1) (aa (am du (qv 0) (qv 1)) ac)) rfl)))
   (ag (aq (aD gE (by rfl) T.b_abs la (aa (qv 0) ac))))),?_⟩
  walk_at"m";symm
  refine⟨λm σ H'=>H'=H /\ ∃x y:Int,σ=[some (.int x),some (.int y)]/\Int.gcd x y=Int.gcd a b/\m=y.natAbs,⟨_,rfl,_,_,rfl,rfl,rfl⟩,?_⟩;rintro m σ H' ⟨rfl,x,y,rfl,hg,rfl⟩;symm
  refine cT (λhy0=>?_) (λhy0=>?_)
  .refine⟨_,λσ' H' h=>h,?_⟩;symm
   exact⟨hy0,_,pG x hy0,by rw[lJ,hg],rfl⟩
  .symm
   have e:((Int.gcd a b:Nat):Int)=if x<0 then -x else x:=by
    rw[<-hg,show y=0 by nofun]
    simp;split<;>nofun
   rw[<-e];exact h
def gF(K:W.Frag):Sp:=λvs H Q _=>∃a b:Int,vs=[.int a,.int b]/\b≠0/\b.natAbs<2^40000000 /\ ∀v H',aw (vw K H) (vw K H')->aA (vw K H') (fr (lo a b)) v->Q v H'
theorem zQ(F:cn K "_law_low" "_law_low" rR f fd) (T:dN K mg)(N_:n6 P base)(zCdivisor:bY P w K mg base "_law_divisor" ["_law_one", "_law_other"] 1 (hJ K)):aR P w K mg base cA 2 f fd ["_law_top", "_law_bottom"] (gF K):=by
 have scN:=wO.nd;refine F.okQ wO ?_ ?_;walk_at "q"
 .obtain⟨a,b,rfl,_⟩:=h;rfl
 .obtain⟨a,b,rfl,hb,hbb,h⟩:=h;refine⟨_,(af (az (i:=2) scN rfl (·) (ak zCdivisor nofun rfl (aa (qv 0) (aa (qv 1) ac))))
   (af (aW (aB ij (qv 1) ae (aE _)) (ag (az (i:=2) scN rfl (·) (am db ae (qv 2)))) aC)
   (ag (aq (aX (aa (am (eZ N_ hr rfl rfl rfl) (qv 0) (qv 2)) (aa (am (eZ N_ hr rfl rfl rfl) (qv 1) (qv 2)) ac))))))),?_⟩
  walk_at"m";symm
  simp only[hJ];symm
  have hgn:Int.gcd a b≠0:=λe=>hb (Int.gcd_eq_zero_iff.mp e).2;have e1:lg a b=if b<0 then 0-(Int.gcd a b:Int) else (Int.gcd a b:Int):=by
   unfold lg;split<;>nofun
  have d1:sQ a (0-(Int.gcd a b:Int)):=by unfold sQ;nofun
  have d2:sQ a (Int.gcd a b:Int):=by unfold sQ;nofun
  refine cT (λhn=>?_) (λhn=>?_)
  .rw[Jb hn] at e1;refine⟨d1,d1,∅,λp H2 hp S hp2=>?_⟩;refine h _ H2 S ?_;rw[<-e1] at hp2;simp only[fr,lo,aA,av];exact⟨p,_,rfl,hp2,_,_,rfl,rfl,_,_,rfl,rfl,rfl⟩
  .rw[Jc hn] at e1;refine⟨d2,d2,∅,λp H2 hp S hp2=>?_⟩;refine h _ H2 S ?_;rw[<-e1] at hp2;simp only[fr,lo,aA,av];exact⟨p,_,rfl,hp2,_,_,rfl,rfl,_,_,rfl,rfl,rfl⟩
def gM(K:W.Frag):Sp:=λvs H Q _=>∃(a:Addr)(ns:List Int)(k:Nat),vs=[.ref a,.int k]/\fW K H a (ns.map V.int) /\ ∀x:Int,Q (.int x) H
theorem qN(F:cn K "_law_cell_at" "_law_cell_at" gL f fd) (T:dN K mg):aR P w K mg base cA 1 f fd ["_law_script", "_law_k"] (gM K):=by
 have scN:=jV.nd;refine F.okQ jV ?_ ?_;walk_at "q"
 .obtain⟨a,ns,k,rfl,_⟩:=h;rfl
 .obtain⟨a,ns,k,rfl,hS,h⟩:=h;refine⟨_,(af (aW (aB ij (qv 1) (aD gu (by rfl) T.b_len ba (aa (qv 0) ac)) (aE _)) (ag (aq (ap pQ (qv 0) (qv 1) (λ_ _=>rfl)))) aC)
   (ag (aq ae))),?_⟩
  walk_at"m";symm
  refine⟨_,.inl hS.sq,cT (λhk=>?_) (λhk=>h 0)⟩;simp only[Jr] at hk;have hk':k<ns.length:=();exact⟨_,hS.sq,_,cw (by rw[Jx,JE hk'];rfl),h _⟩
def kh(K:W.Frag):Sp:=λvs H Q _=>∃(a:Addr)(ns:List Int)(k:Nat),vs=[.ref a,.int k]/\fW K H a (ns.map V.int) /\ ∀st H',vw K H st=none->aw (vw K H) (vw K H')->bV (vw K H') st->Q (.ref st) H'
theorem wk(F:cn K "_law_state" "_law_state" kF f fd) (T:dN K mg)(zCcell_at:bY P w K mg base "_law_cell_at" ["_law_script", "_law_k"] 1 (gM K)):aR P w K mg base cA 2 f fd ["_law_script", "_law_k"] (kh K):=by
 have scN:=pN.nd;refine F.okQ pN ?_ ?_;walk_at "q"
 .obtain⟨a,ns,k,rfl,_⟩:=h;rfl
 .obtain⟨a,ns,k,rfl,hS,h⟩:=h;refine⟨_,(af (az (i:=2) scN rfl (·) (ak zCcell_at nofun rfl (aa (qv 0) (aa (qv 1) ac))))
   (af (aW (aB oY (qv 2) (am mT ae ae) (aE _)) (ag (aq (aS (aa (am db (qv 2) (am mT ae ae)) (aa eQ ac))))) aC)
   (ag (aq (aS (aa (am du (qv 2) ae) (aa eQ ac))))))),?_⟩
  walk_at"m";symm
  simp only[gM];symm
  refine⟨⟨k,rfl⟩,⟨ns,hS⟩,λx=>⟨qa ∅,cT (λhx=>⟨qa ∅,∅,λp H2 hp S hp2=>h p H2 hp S ⟨_,_,hp2,λz=>by cases z⟩⟩) (λhx=>⟨∅,∅,λp H2 hp S hp2=>h p H2 hp S ⟨_,_,hp2,λ_=>?_⟩⟩)⟩⟩
  exact⟨JF x ∅,JG x ∅⟩
def da(K:W.Frag):Sp:=λvs H Q _=>∃(st:Addr)(m:Int),vs=[.ref st,.int m]/\bV (vw K H) st/\0<m/\m<=2147483587 /\ ∀r H',0<=r->r<m->c9 st (vw K H) (vw K H')->bV (vw K H') st->Q (.int r) H'
theorem x9(F:cn K "_law_take" "_law_take" nW f fd) (T:dN K mg):aR P w K mg base cA 1 f fd ["_law_state_here", "_law_many"] (da K):=by
 have scN:=rD.nd;refine F.okQ rD ?_ ?_;walk_at "q"
 .obtain⟨a,ns,rfl,_⟩:=h;rfl
 .obtain⟨st,m,rfl,⟨x,b,hst,hx⟩,hm,hm2,h⟩:=h;refine⟨_,(af (aW (eg (ap cX (qv 0) ae (λ_ _=>rfl)) (λ_=>rfl)) (af (az (i:=2) scN rfl (·) (am du (ap cX (qv 0) ae (λ_ _=>rfl)) (qv 1)))
   (af (ff (am et (ap cX (qv 0) ae (λ_ _=>rfl)) (qv 1)) (sj (qv 0) ae fJ))
   (ag (aq (qv 2))))) aC)
   (af (ff (am du (am aZ (am aN (ap cX (qv 0) ae (λ_ _=>rfl)) ae) ae) ae) (sj (qv 0) ae fJ))
   (af (az (i:=3) scN rfl (·) (am du (am aZ (am aZ (am aN (ap cX (qv 0) ae (λ_ _=>rfl)) (ap cX (qv 0) ae (λ_ _=>rfl))) (am aN ae (ap cX (qv 0) ae (λ_ _=>rfl)))) ae) ae))
   (af (az (i:=3) scN rfl (·) (am du (am aZ (am aN (qv 3) (qv 3)) (am aN ae (qv 3))) ae))
   (ag (aq (am du (am et (qv 3) ae) (qv 1)))))))),?_⟩
  walk_at"m";have hm0:m≠0:=();cases b with
  | true =>
   walk_at"vc*";refine⟨qS hm0 (by unfold Bt;nofun),λH2 B h2=>h _ _ (JF x hm) (JG x hm) B ⟨_,_,h2,λz=>by cases z⟩⟩
  | false =>
   walk_at"vc*";refine⟨wn ∅,∅,λH2 B h2=>?_⟩;have b1:Bt 31 ((x*48271+29).fmod 2147483647):=pD ∅ ∅;have b3:0<=(x*48271+29).fmod 2147483647/\(x*48271+29).fmod 2147483647<2147483647:=⟨JF _ ∅,JG _ ∅⟩;generalize (x*48271+29).fmod 2147483647=y at *
   walk_at"vc*";have b2:Bt 31 ((y*y+39373*y+7).fmod 2147483629):=pD ∅ ∅;generalize e2:(y*y+39373*y+7).fmod 2147483629=z at *
   refine⟨fL (b1.mono ∅),fL ∅,∅,fL (b2.mono ∅),fL ∅,∅,qS ∅ ∅,?_⟩;exact h _ _ (JF _ hm) (JG _ hm) B ⟨_,_,h2,λ_=>b3⟩
inductive iH (K:W.Frag)(vs:List V)(H:Hp)(Q:VK)(E:XK):Prop
 | mk (st:Addr):vs=[.ref st]->bV (vw K H) st->(∀v H' q,c9 st (vw K H) (vw K H')->bV (vw K H') st->aA (vw K H') (fr q) v->Fq q->Bt 10 q.1->Bt 10 q.2->Sx 36 q->Q v H')->iH K vs H Q E
theorem wa(F:cn K "_law_small" "_law_small" kg f fd) (T:dN K mg)(zClow:bY P w K mg base "_law_low" ["_law_top", "_law_bottom"] 2 (gF K))
  (zCtake:bY P w K mg base "_law_take" ["_law_state_here", "_law_many"] 1 (da K)):aR P w K mg base cA 3 f fd ["_law_state_here"] (iH K):=by
 have scN:=pp.nd;refine F.okQ pp ?_ ?_;walk_at "q"
 .obtain⟨a,rfl,_⟩:=h;rfl
 .obtain⟨st,rfl,hst,h⟩:=h;refine⟨_,(ag (aq (ak zClow nofun rfl (aa (am db (ak zCtake nofun rfl (aa (qv 0) (aa ae ac))) ae) (aa (am aZ ae (ap cX (aS (aa ae (aa ae (aa (ak zCtake nofun rfl (aa (qv 0) (aa ae ac))) ac)))) (ak zCtake nofun rfl (aa (qv 0) (aa ae ac))) (λ_ _=>rfl))) ac))))),?_⟩
  walk_at"m";symm
  simp only[da,gF];symm
  refine⟨hst,∅,∅,λr1 H1 r10 r11 B1 S1=>⟨S1,∅,∅,λr2 H2 r20 r21 B2 S2=>⟨∅,?_⟩⟩⟩;intro p H3 hp S3 h3;refine⟨S2.same S3,∅,∅,λr4 H4 r40 r41 B4 S4=>?_⟩;have h4:=B4 _ _ (S2.ne hp) h3;obtain⟨v,hv,hm⟩:=iI (xs:=[V.int 0,V.int 0,V.int r2]) r40 (by simpa using r41)
  obtain⟨z,rfl,hz0,hz1⟩ : ∃z,v=.int z/\0<=z/\z<3:=by
   simp only[JL,JM,JN] at hm;rcases hm with rfl|rfl|rfl
   .exact⟨0,rfl,∅,∅⟩
   .exact⟨0,rfl,∅,∅⟩
   .exact⟨r2,rfl,r20,r21⟩
  symm
  refine⟨_,h4,_,hv,?_⟩;symm
  have hz:1+z≠0:=();have hb:(1+z).natAbs<2^10:=();refine⟨hz,Jd hb (JI ∅ ∅),λv H5 S5 r5=>?_⟩;have q2:=cr (a:=r1-6) hz;have q1:=cj (a:=r1-6) hz;have hl:lg (r1-6) (1+z)≠0:=sI hz;refine h v H5 _ (((B1.trans B2).same_trans S3).trans (B4.same_trans S5)) (S4.same S5) r5 (fk hz) ?_ ?_ (Sx.lo hz0 hz1 ())
  .unfold Bt;have:=JJ (lo (r1-6) (1+z)).1 (lg (r1-6) (1+z));rw[q1] at this;have:=JO (lo (r1-6) (1+z)).1.natAbs (show 0<(lg (r1-6) (1+z)).natAbs by nofun)
   nofun
  .unfold Bt;have:=JJ (lo (r1-6) (1+z)).2 (lg (r1-6) (1+z));rw[q2] at this;have:=JO (lo (r1-6) (1+z)).2.natAbs (show 0<(lg (r1-6) (1+z)).natAbs by nofun)
   nofun
inductive ko (K:W.Frag)(vs:List V)(H:Hp)(Q:VK)(E:XK):Prop
 | mk (st:Addr):vs=[.ref st]->bV (vw K H) st->(∀v H' q,c9 st (vw K H) (vw K H')->bV (vw K H') st->aA (vw K H') (fr q) v->Fq q->0<q.1->Bq 10 q->Sx 36 q->Q v H')->ko K vs H Q E
theorem uT(F:cn K "_law_above" "_law_above" ly f fd) (T:dN K mg)(zClow:bY P w K mg base "_law_low" ["_law_top", "_law_bottom"] 2 (gF K))
  (zCtake:bY P w K mg base "_law_take" ["_law_state_here", "_law_many"] 1 (da K)):aR P w K mg base cA 3 f fd ["_law_state_here"] (ko K):=by
 have scN:=pK.nd;refine F.okQ pK ?_ ?_;walk_at "q"
 .obtain⟨a,rfl,_⟩:=h;rfl
 .obtain⟨st,rfl,hst,h⟩:=h;refine⟨_,(ag (aq (ak zClow nofun rfl (aa (am aZ ae (ak zCtake nofun rfl (aa (qv 0) (aa ae ac)))) (aa (am aZ ae (ap cX (aS (aa ae (aa ae (aa (ak zCtake nofun rfl (aa (qv 0) (aa ae ac))) ac)))) (ak zCtake nofun rfl (aa (qv 0) (aa ae ac))) (λ_ _=>rfl))) ac))))),?_⟩
  walk_at"m";symm
  simp only[da,gF];symm
  refine⟨hst,∅,∅,λr1 H1 r10 r11 B1 S1=>⟨S1,∅,∅,λr2 H2 r20 r21 B2 S2=>⟨∅,?_⟩⟩⟩;intro p H3 hp S3 h3;refine⟨S2.same S3,∅,∅,λr4 H4 r40 r41 B4 S4=>?_⟩;have h4:=B4 _ _ (S2.ne hp) h3;obtain⟨v,hv,hm⟩:=iI (xs:=[V.int 0,V.int 0,V.int r2]) r40 (by simpa using r41)
  obtain⟨z,rfl,hz0,hz1⟩ : ∃z,v=.int z/\0<=z/\z<3:=by
   simp only[JL,JM,JN] at hm;rcases hm with rfl|rfl|rfl
   .exact⟨0,rfl,∅,∅⟩
   .exact⟨0,rfl,∅,∅⟩
   .exact⟨r2,rfl,r20,r21⟩
  symm
  refine⟨_,h4,_,hv,?_⟩;symm
  have hz:1+z≠0:=();have hb:(1+z).natAbs<2^10:=();refine⟨hz,Jd hb (JI ∅ ∅),λv H5 S5 r5=>?_⟩;have q1:=cj (a:=1+r1) hz;have hl:0<lg (1+r1) (1+z):=sZ ();refine h v H5 _ (((B1.trans B2).same_trans S3).trans (B4.same_trans S5)) (S4.same S5) r5 (fk hz) ?_ (mP hz (by unfold Bt;nofun) hb) (Sx.lo hz0 hz1 ())
  refine Int.pos_of_mul_pos_left ?_ hl;rw[q1];nofun
def jv(K:W.Frag):Sp:=λvs H Q _=>∃x y p q,vs=[x,y]/\aA (vw K H) (fr p) x/\aA (vw K H) (fr q) y/\p.2≠0/\q.2≠0/\Bq 10000000 p/\Bq 10000000 q/\Bt 40000000 (p.2*q.2) /\ ∀v H',aw (vw K H) (vw K H')->aA (vw K H') (fr (lG p q)) v->Q v H'
theorem xf(F:cn K "_law_plus" "_law_plus" nu f fd) (T:dN K mg)(zClow:bY P w K mg base "_law_low" ["_law_top", "_law_bottom"] 2 (gF K)):aR P w K mg base cA 3 f fd ["_law_one", "_law_other"] (jv K):=by
 have scN:=rE.nd;refine F.okQ rE ?_ ?_;walk_at "q"
 .obtain⟨_,_,_,_,rfl,_⟩:=h;rfl
 .obtain⟨x,y,p,q,rfl,hx,hy,np,nq,bp,bq,bb,h⟩:=h;refine⟨_,(ag (aq (ak zClow nofun rfl (aa (am aZ (am aN (ap aT (qv 0) ae (λ_ _=>rfl)) (ap aT (qv 1) ae (λ_ _=>rfl))) (am aN (ap aT (qv 1) ae (λ_ _=>rfl)) (ap aT (qv 0) ae (λ_ _=>rfl)))) (aa (am aN (ap aT (qv 0) ae (λ_ _=>rfl)) (ap aT (qv 1) ae (λ_ _=>rfl))) ac))))),?_⟩
  walk_at"m";obtain⟨a,rfl,ha⟩:=hx.fr_at;obtain⟨b,rfl,hb⟩:=hy.fr_at;walk_at"vc*";simp only[gF];walk_at"vc*";exact⟨bO bp.1 bq.2 ∅,bO bq.1 bp.2 ∅,bO bp.2 bq.2 ∅,JR np nq,h⟩
def ki(K:W.Frag):Sp:=λvs H Q _=>∃x y p q,vs=[x,y]/\aA (vw K H) (fr p) x/\aA (vw K H) (fr q) y/\p.2≠0/\q.2≠0/\Bq 10000000 p/\Bq 10000000 q/\Bt 40000000 (p.2*q.2) /\ ∀v H',aw (vw K H) (vw K H')->aA (vw K H') (fr (ql p q)) v->Q v H'
theorem ui(F:cn K "_law_times" "_law_times" ku f fd) (T:dN K mg)(zClow:bY P w K mg base "_law_low" ["_law_top", "_law_bottom"] 2 (gF K)):aR P w K mg base cA 3 f fd ["_law_one", "_law_other"] (ki K):=by
 have scN:=oI.nd;refine F.okQ oI ?_ ?_;walk_at "q"
 .obtain⟨_,_,_,_,rfl,_⟩:=h;rfl
 .obtain⟨x,y,p,q,rfl,hx,hy,np,nq,bp,bq,bb,h⟩:=h;refine⟨_,(ag (aq (ak zClow nofun rfl (aa (am aN (ap aT (qv 0) ae (λ_ _=>rfl)) (ap aT (qv 1) ae (λ_ _=>rfl))) (aa (am aN (ap aT (qv 0) ae (λ_ _=>rfl)) (ap aT (qv 1) ae (λ_ _=>rfl))) ac))))),?_⟩
  walk_at"m";obtain⟨a,rfl,ha⟩:=hx.fr_at;obtain⟨b,rfl,hb⟩:=hy.fr_at;walk_at"vc*";simp only[gF];walk_at"vc*";exact⟨bO bp.1 bq.1 ∅,bO bp.2 bq.2 ∅,JR np nq,h⟩
inductive kY (K:W.Frag)(vs:List V)(H:Hp)(Q:VK)(E:XK):Prop
 | mk (st:Addr)(m:Nat):vs=[.ref st,.int m]->m<=6->bV (vw K H) st->(∀(a:Addr)(H':Hp)(cs:List lL),c9 st (vw K H) (vw K H')->bV (vw K H') st->eY (vw K H') a (cs.map qZ)->(∀c∈cs,Fq c.1/\Fq c.2/\0<c.2.1)->(∀c∈cs,Bq 100 c.1/\Bq 10 c.2)->(∀c∈cs,Sx 300 c.1/\Sx 36 c.2)->(∀i c d,cs[i]? = some c->cs[i+1]? = some d->zW c.1 d.1=true)->cs.length<=m->vw K H a=none->Q (.ref a) H')->kY K vs H Q E
theorem vU(F:cn K "_law_crowd" "_law_crowd" lA f fd) (T:dN K mg)(zCsmall:bY P w K mg base "_law_small" ["_law_state_here"] 3 (iH K)) (zCabove:bY P w K mg base "_law_above" ["_law_state_here"] 3 (ko K))
  (zCtake:bY P w K mg base "_law_take" ["_law_state_here", "_law_many"] 1 (da K)) (zCplus:bY P w K mg base "_law_plus" ["_law_one", "_law_other"] 3 (jv K)):aR P w K mg base cA 4 f fd ["_law_state_here", "_law_most"] (kY K):=by
 have scN:=pT.nd;refine F.okQ pT ?_ ?_;walk_at "q"
 .obtain⟨a,_,rfl,_⟩:=h;rfl
 .obtain⟨st,m,rfl,hm,hst,h⟩:=h;refine⟨_,(af (az (i:=2) scN rfl (·) (aS ac))
   (af (az (i:=3) scN rfl (·) (ak zCsmall nofun rfl (aa (qv 0) ac)))
   (af (dH PassesOwn.never rfl (dz rfl T.b_range (aa (ak zCtake nofun rfl (aa (qv 0) (aa (am aZ (qv 1) ae) ac))) ac)) (ay (i:=4) scN rfl (·)) (af (cv (j9 J7 J8 J9 cI (qv 2) (aa (aX (aa (qv 3) (aa (ak zCabove nofun rfl (aa (qv 0) ac)) ac))) ac)))
   (ag (az (i:=3) scN rfl (·) (ak zCplus nofun rfl (aa (qv 3) (aa (ak zCabove nofun rfl (aa (qv 0) ac)) ac)))))))
   (ag (aq (qv 2)))))),?_⟩
  walk_at"m";refine aU.gen λN1 hN1=>?_;symm
  refine⟨∅,λa H1 ha S1 h1=>hN1 _ _ ?_⟩;refine aU.gen λN2 hN2=>?_;symm
  refine⟨st,rfl,hst.same S1,λv H2 q B2 S2 r2 f2 c1 c2 c5=>hN2 _ _ ?_⟩;refine aU.gen λN3 hN3=>?_;symm
  simp only[da];refine⟨st,_,rfl,S2,(),(),λn H3 n0 n1 B3 S3=>⟨_,rfl,(),(),?_⟩⟩;have nst:st≠a:=((hst.ne ha)).symm;have h3:=B3 _ _ nst.symm (B2 _ _ nst.symm h1);have hr2:aA (vw K H3) (fr q) v:=by
   obtain⟨_,_,z,_⟩:=id S2;exact aA.flat_but z B3 _ _ (aY q) r2
  refine ci (its:=fu 0 n.toNat) (λi σ H'=>∃v y q cs,σ=[some (.ref st),some (.int m),some (.ref a),some v,y]/\c9 st (vw K H) (vw K H')/\bV (vw K H') st/\eY (vw K H') a (cs.map qZ)/\cs.length=i/\aA (vw K H') (fr q) v/\Fq q/\Bq (10+12*i) q/\Sx (36+36*i) q/\(∀c∈cs,Sx 300 c.1/\Sx 36 c.2) /\
   (∀c∈cs,Fq c.1/\Fq c.2/\0<c.2.1)/\(∀c∈cs,Bq 100 c.1/\Bq 10 c.2)/\(∀i c d,cs[i]? = some c->cs[i+1]? = some d->zW c.1 d.1=true) /\ ∀c,cs.getLast? = some c->zW c.1 q=true) (λ_ _ _ _ _=>ck)
   ⟨v,_,q,[],rfl,((S1.but st).trans B2).trans B3,S3,⟨[],h3,.mk_nil⟩,rfl,hr2,f2,⟨c1,c2⟩,c5,by simp,by simp,by simp,by simp,by simp⟩ ?_ ?_
  .rintro i x σ H4 hi hx ⟨v,y,q,cs,rfl,B4,S4,l4,hl,r4,f4,b4,x4,c6,c1,c2,c3,c4⟩;rw[ed] at hi;refine aU.gen λM1 hM1=>?_;symm
   refine⟨l4.ty,st,rfl,S4,λw5 H5 q5 B5 S5 r5 f5 p5 b5 x5=>⟨∅,λp6 H6 hp6 S6 h6=>?_⟩⟩;have l6:eY (vw K H6) a (cs.map qZ):=(l4.stBut (eA cs) (ol cs) S4 B5).same S6;have r46:aA (vw K H6) (fr q) v:=by
    obtain⟨_,_,z,_⟩:=id S4;exact aA.same S6 _ _ (aA.flat_but z B5 _ _ (aY q) r4)
   have r56:=aA.same S6 _ _ r5;obtain⟨xs,hxs,rxs⟩:=id l6;refine⟨xs,hxs,?_,λH7 B7 h7=>hM1 _ _ ?_⟩
   .rw[rxs.length,Jr];exact Jd (show cs.length<7 by nofun) ∅
   have S7:bV (vw K H7) st:=(S5.same S6).but hxs nst B7;have r47:=aA.flat_but hxs B7 _ _ (aY q) r46;have r57:=aA.flat_but hxs B7 _ _ (aY q5) r56;have ne6:p6≠a:=λe=>by
    obtain⟨_,z,_⟩:=l4.stBut (eA cs) (ol cs) S4 B5;rw[<-e,hp6] at z;cases z
   have h67:=B7 _ _ ne6 h6;have l7:eY (vw K H7) a ((cs++[(q,q5)]).map qZ):=by
    refine⟨_,h7,?_⟩;rw[J5];exact (av.flat_but hxs B7 _ _ (eA cs) rxs).snoc (.mk_spt h67 r47 r57)
   have B07:c9 st (vw K H) (vw K H7):=λb o hb e=>B7 _ _ (aj e ha) (S6 _ _ (B5 _ _ hb (B4 _ _ hb e)));symm
   refine⟨st,rfl,S7,λw8 H8 q8 B8 S8 r8 f8 p8 b8 x8=>?_⟩;obtain⟨_,_,zst,_⟩:=id S7;have r48:=aA.flat_but zst B8 _ _ (aY q) r47;simp only[jv];refine⟨_,_,q,q8,rfl,r48,r8,by have:=f4.1;nofun,by have:=f8.1;nofun,b4.mono (),b8.mono ∅,(b4.2.mul b8.2).mono (),λv9 H9 S9 r9=>?_⟩
   refine⟨(B07.trans B8).same_trans S9,S8.same S9,lG q q8,cs++[(q,q5)],(l7.stBut (eA _) (ol _) S7 B8).same S9,by simp[hl],r9,pI f4 f8,(pi f4 f8 b4 b8).mono (),(x4.add f4.ne f8.ne x8).mono (),?_,?_,?_,?_,?_⟩
   .intro c hc;rcases List.mem_append.mp hc with z|z
    .exact c6 c z
    .cases List.mem_singleton.mp z;exact⟨x4.mono (),x5⟩
   .intro c hc;rcases List.mem_append.mp hc with z|z
    .exact c1 c z
    .cases List.mem_singleton.mp z;exact⟨f4,f5,p5⟩
   .intro c hc;rcases List.mem_append.mp hc with z|z
    .exact c2 c z
    .cases List.mem_singleton.mp z;exact⟨b4.mono (),b5⟩
   .intro j c d e1 e2;by_cases hj:j+1<cs.length
    .rw[Jw ()] at e1;rw[Jw hj] at e2;exact c3 j c d e1 e2
    .have hj2:j+1=cs.length:=by
      have:=(List.getElem?_eq_some_iff.mp e2).1;simp at this;nofun
     rw[Jv (),hj2,Nat.sub_self] at e2;cases e2;rw[Jw ()] at e1;refine c4 c ?_;rw[JX,<-hj2];exact e1
   .intro c hc;rw[List.getLast?_concat] at hc;cases hc;exact uY f4 f8 p8
  .rintro σ H4 ⟨v,y,q,cs,rfl,B4,S4,l4,hl,r4,f4,b4,x4,c6,c1,c2,c3,c4⟩;refine hN3 _ _ ?_;symm
   exact h a H4 cs B4 S4 l4 c1 c2 c6 c3 (by rw[hl,ed];nofun) ha
inductive eH (K:W.Frag)(vs:List V)(H:Hp)(Q:VK)(E:XK):Prop
 | mk (a:Addr)(cs:List lL)(m:Nat):vs=[.ref a,.int m]->eY (vw K H) a (cs.map qZ)->cs.length<=6->m<=13->(∀c∈cs,Fq c.1/\Fq c.2/\Bq 100 c.1/\Bq 10 c.2)->(∀(b:Addr)(H':Hp)(qs:List (Int×Int)),aw (vw K H) (vw K H')->aF (vw K H') b qs->vw K H b=none->qs.length=m->(∀(k:Nat)(q:Int×Int),qs[k]? = some q->Fq q/\wv q=jF cs k)->Q (.ref b) H')->eH K vs H Q E
theorem kR(F:cn K "_law_crowd_sums" "_law_crowd_sums" eF f fd) (T:dN K mg)(zCplus:bY P w K mg base "_law_plus" ["_law_one", "_law_other"] 3 (jv K)) (zCtimes:bY P w K mg base "_law_times" ["_law_one", "_law_other"] 3 (ki K)):aR P w K mg base cA 4 f fd ["_law_crowd_here", "_law_many"] (eH K):=by
 have scN:=gr.nd;refine F.okQ gr ?_ ?_;walk_at "q"
 .obtain⟨a,_,_,rfl,_⟩:=h;rfl
 .obtain⟨a,cs,m,rfl,ha,hcl,hm,hc,h⟩:=h;refine⟨_,(af (az (i:=2) scN rfl (·) (aS ac))
   (af (az (i:=3) scN rfl (·) (dO (own:=["_law_spot", "_law_weight"]) (outs:=[]) (ixs:=[]) rfl (dy (qv 0)) rfl ⟨rfl,rfl,rfl,trivial,rfl,trivial⟩ (λ_ _ _ _=>⟨(show QG _ _ (fO K 2 _) from bQ (n:=2) rfl (aG (ay (i:=0) (show (["_law_spot", "_law_weight"]:List Str).Nodup by decide +kernel) rfl (·)) (aG (ay (i:=1) (show (["_law_spot", "_law_weight"]:List Str).Nodup by decide +kernel) rfl (·)) bS))),e8,(qv 1)⟩)))
   (af (dH PassesOwn.never rfl (dz rfl T.b_range (aa (qv 1) ac)) (ay (i:=4) scN rfl (·)) (af (az (i:=5) scN rfl (·) (aX (aa ae (aa ae ac))))
   (af (dH PassesOwn.never rfl (dy (qv 3)) (ay (i:=6) scN rfl (·)) (ag (az (i:=5) scN rfl (·) (ak zCplus nofun rfl (aa (qv 5) (aa (qv 6) ac))))))
   (af (cv (j9 J7 J8 J9 cI (qv 2) (aa (qv 5) ac)))
   (ag (az (i:=3) scN rfl (·) (dO (own:=["_law_at"]) (outs:=["_law_powers", "_law_crowd_here"]) (ixs:=[3,0]) rfl (dz rfl T.b_range (aa (aD aH (by rfl) T.b_len ba (aa (qv 0) ac)) ac)) rfl ⟨rfl,rfl,rfl,⟨rfl,⟨rfl,trivial⟩⟩,rfl,⟨⟨rfl,rfl,rfl,_,rfl⟩,⟨⟨rfl,rfl,rfl,_,rfl⟩,trivial⟩⟩⟩ (λ_ _ _ _=>⟨(ay (i:=0) (show (["_law_at", "_law_powers", "_law_crowd_here"]:List Str).Nodup by decide +kernel) rfl (·)),e8,(ak zCtimes nofun rfl (aa (ap (show rg _ (tT K) from cX) (qv 1) (qv 0) (λ_ _=>rfl)) (aa (ap (show rg _ (uC K) from aT) (ap (show rg _ (tT K) from cX) (qv 2) (qv 0) (λ_ _=>rfl)) ae (λ_ _=>rfl)) ac)))⟩))))))))
   (ag (aq (qv 2)))))),?_⟩
  walk_at"m";skip
  obtain⟨xs,hxs,rxs⟩:=id ha;obtain⟨ps,p1,p2,p3,p4⟩:=jm rxs;have hlx:xs.length=cs.length:=by rw[rxs.length,Jr]
  refine aU.gen λN1 hN1=>?_;symm
  refine⟨∅,λt H1 ht S1 h1=>hN1 _ _ ?_⟩;refine aU.gen λN2 hN2=>?_;symm
  refine⟨⟨xs,.of (aI (S1 _ _ hxs))⟩,λd H2 hd S2 h2=>?_⟩;have hxs1:=S1 _ _ hxs;refine iV (its:=xs) (ps:=ps) (λi ys H'=>aw (vw K H1) (vw K H')/\ys=(ps.take i).map (·.2)) (by rw[hlx,p1]) (λi ys H' _ _ p=>⟨bz (p.1 _ _ hxs1),λj u v e=>?_⟩) h2 ⟨S2,rfl⟩ (λi u v ys H' hi huv h' p=>?_) (λys H3 h3 p=>?_)
  .obtain⟨q,e1,e2⟩:=p2 j u v e;exact⟨q,e1,p.1 _ _ (S1 _ _ e2)⟩
  .obtain⟨S',rfl⟩:=p;symm
   refine .mk2 h' ?_ λH5 B5 h5=>⟨λb o e=>B5 _ _ (aj e hd) (S' _ _ e),?_⟩
   .rw[Jr,Jt];have:1000<=sizeLine:=∅;nofun
   .rw[JT,huv,J5];rfl
  obtain⟨S3,rfl⟩:=p;rw[JV] at h3;have S03:=S1.trans S3;refine hN2 _ _ ?_;refine aU.gen λN3 hN3=>?_;symm
  refine⟨(),(),?_⟩;obtain⟨Pv,hPv⟩ : ∃Pv:Nat->St->Hp->Prop,∀k σ H',Pv k σ H'↔X6 λ(w:Addr)(ws qs:List (Int×Int))(y z u:Option V)=>σ=[some (.ref a),some (.int m),some (.ref t),some (.ref w),y,z,u] /\
    aw (vw K H) (vw K H')/\w≠t/\aF (vw K H') w ws/\ws.length=cs.length/\(∀(i:Nat)(q:Int×Int)(c:lL),ws[i]? = some q->cs[i]? = some c->Fq q/\wv q=wv c.2*iB (wv c.1) k/\Bq (10+100*k) q) /\
    aF (vw K H') t qs/\qs.length=k /\ ∀(j:Nat)(q:Int×Int),qs[j]? = some q->Fq q/\wv q=jF cs j:=⟨_,λ_ _ _=>J3⟩
  refine ci (its:=fu 0 (Int.toNat m)) Pv (λ_ _ _ _ _=>ck) ((hPv _ _ _).mpr ⟨d,cs.map (·.2),[],_,_,_,rfl,S03,(aj h1 hd).symm,⟨_,h3,p4.same S03⟩,by simp,λi q c e1 e2=>?_,⟨[],S3 _ _ h1,.mk_nil⟩,rfl,by simp⟩) (λk x σ H4 hk hx pv=>?_) (λσ H4 pv=>?_)
  .rw[Jx,e2] at e1;cases e1;obtain⟨z1,z2,z3,z4⟩:=hc c (Jy e2);refine⟨z2,?_,z4⟩;show wv c.2=wv c.2*1;grind
  .obtain⟨w,ws,qs,y,z,u,rfl,S4,nw,lw4,lw,hws,lt4,lq,hqs⟩:=(hPv _ _ _).mp pv;rw[ed] at hk;have hk13:k<13:=();obtain⟨_,rfl⟩:=gd hx;refine aU.gen λM1 hM1=>?_;symm
   refine⟨∅,λpz Hz hpz Sz hz=>hM1 _ _ ?_⟩;refine aU.gen λM2 hM2=>?_;symm
   have lwz:=lw4.same Sz;obtain⟨wx,hwx,rwx⟩:=id lwz;have lwx:wx.length=cs.length:=by rw[rwx.length,Jr,lw]
   refine⟨⟨wx,.of (aI hwx)⟩,?_⟩;obtain⟨Pw,hPw⟩ : ∃Pw:Nat->St->Hp->Prop,∀j σ H',Pw j σ H'↔X3 λ(v:V)(q:Int×Int)(u:Option V)=>σ=[some (.ref a),some (.int m),some (.ref t),some (.ref w),some (.int (0+k)),some v,u]/\aw (vw K Hz) (vw K H')/\aA (vw K H') (fr q) v/\Fq q/\wv q=gQ (ws.take j)/\Bq (1+j*(11+100*k)) q:=⟨_,λ_ _ _=>J3⟩;refine ci (its:=wx) Pw (λj σ H' _ p=>?_) ((hPw _ _ _).mpr ⟨_,(0,1),_,rfl,.rfl,bg hz,⟨∅,∅⟩,?_,?_⟩) (λj x σ H5 hj hx5 pw=>?_) (λσ H5 pw=>?_)
   .obtain⟨_,_,_,_,S5,_⟩:=(hPw _ _ _).mp p;exact bz (S5 _ _ hwx)
   .show ((0:Int):Rat)/((1:Int):Rat)=0;have e0:((0:Int):Rat)=0:=rfl;rw[e0];grind
   .rw[Nat.zero_mul];exact⟨∅,∅⟩
   .obtain⟨v,q,u5,rfl,S5,r5,f5,w5,b5⟩:=(hPw _ _ _).mp pw;have jl:j<ws.length:=();have jc:j<cs.length:=();obtain⟨d5,e5,rx5⟩:=rwx.get hx5;rw[Jx,JE jl] at e5;cases e5;obtain⟨fw,vw5,bw⟩:=hws j _ _ (JE jl) (JE jc);have hjk:j*(11+100*k)<=5*(11+100*12):=JY () ();symm
    simp only[jv];symm
    refine⟨q,r5,_,aA.same S5 _ _ rx5,by have:=f5.1;nofun,by have:=fw.1;nofun,b5.mono (),bw.mono (),(b5.2.mul bw.2).mono (),λv6 H6 S6 r6=>(hPw _ _ _).mpr ⟨_,_,_,rfl,S5.trans S6,r6,pI f5 fw,?_,(pi f5 fw b5 bw).mono ?_⟩⟩
    .rw[s0 (by have:=f5.1;nofun) (by have:=fw.1;nofun),w5,JT,JE jl,rQ]
     show _=gQ (ws.take j)+(wv ws[j]+0);grind
    .rw[Nat.add_mul];nofun
   .obtain⟨v,q,u5,rfl,S5,r5,f5,w5,b5⟩:=(hPw _ _ _).mp pw;rw[show wx.length=ws.length by nofun,JV] at w5
    have wq:wv q=jF cs k:=by
     rw[w5];exact lU lw λi q c e1 e2=>(hws i q c e1 e2).2.1
    have S4z5:=Sz.trans S5;obtain⟨tx,htx,rtx⟩:=lt4.same S4z5;have nat':a≠t:=aj hxs ht;refine hM2 _ _ ?_;refine aU.gen λM3 hM3=>?_;symm
    refine⟨g9 htx,tx,htx,?_,λH6 B6 h6=>hM3 _ _ ?_⟩
    .rw[rtx.length,Jr,lq];exact Jd hk13 ∅
    have hxs6:=B6 _ _ nat' (S4z5 _ _ (S4 _ _ hxs));have S06:aw (vw K H) (vw K H6):=λb o e=>B6 _ _ (aj e ht) (S4z5 _ _ (S4 _ _ e));have lw6:=(lw4.same S4z5).but htx nw B6;have lt6:aF (vw K H6) t (qs++[q]):=by
     refine⟨_,h6,?_⟩;rw[J5];exact (av.flat_but htx B6 _ _ (ee qs) rtx).snoc (aA.flat_but htx B6 _ _ (aY _) r5)
    obtain⟨wx6,hwx6,rwx6⟩:=id lw6;have hln:gl (vw K H6) a=some xs.length:=by simp only[gl,hxs6]
    symm
    refine⟨_,hln,(),(),λc H7 hc7 S7 h7=>?_⟩;have hct:c≠t:=(aj h6 hc7).symm;rw[show (xs.length:Int).toNat=cs.length by nofun]
    refine dE (its:=fu 0 cs.length) (λi zs H'=>aw (vw K H6) (vw K H') /\ ∃vs:List (Int×Int),vs.length=i/\av (vw K H') (vs.map fr) zs /\ ∀(j:Nat)(q:Int×Int)(c:lL),vs[j]? = some q->cs[j]? = some c->Fq q/\wv q=wv c.2*iB (wv c.1) (k+1)/\Bq (10+100*(k+1)) q)
     (λ_ _ _ _ _ _=>ck) h7 ⟨S7,[],rfl,.mk_nil,by simp⟩ (λi x zs H8 hi hx8 h8 p=>?_) (λzs H8 h8 p=>?_)
    .obtain⟨S8,vs,lv,rv,hv⟩:=p;obtain⟨hi',rfl⟩:=gd hx8;have iw:i<ws.length:=();obtain⟨vi,e1,ri⟩:=rwx6.at (i:=i) (d:=fr ws[i]) (by rw[Jx,JE iw];rfl)
     obtain⟨xi,e2,rxi⟩:=rxs.at (i:=i) (d:=qZ cs[i]) (by rw[Jx,JE hi'];rfl)
     obtain⟨b,x1,x2,rfl,hb,q1,q2⟩:=(aA.same (S06.trans S8) _ _ rxi).spt_at;obtain⟨fw,vw6,bw⟩:=hws i _ _ (JE iw) (JE hi');obtain⟨z1,z2,z3,z4⟩:=hc cs[i] (JD hi');symm
     simp only[ki];symm
     refine⟨_,S8 _ _ hwx6,vi,by rw[Int.zero_add];exact cw e1,xs,S8 _ _ hxs6,_,by rw[Int.zero_add];exact cw e2,b,rfl,_,hb,_,bF,?_⟩
     refine⟨_,aA.same S8 _ _ ri,_,q1,by have:=fw.1;nofun,by have:=z1.1;nofun,bw.mono (),z3.mono ∅,(bw.2.mul z3.2).mono (),λv9 H9 S9 r9=>.mk (S9 _ _ h8) ?_ λH10 B10 h10=>⟨λb o e=>B10 _ _ (aj e hc7) (S9 _ _ (S8 _ _ e)),vs++[ql ws[i] cs[i].1],by simp[lv],?_,λj q c g1 g2=>?_⟩⟩
     .rw[rv.length,Jr,lv];have:1000<=sizeLine:=∅;nofun
     .rw[J5];exact (av.flat_but (S9 _ _ h8) B10 _ _ (ee vs) (rv.same S9)).snoc (aA.flat_but (S9 _ _ h8) B10 _ _ (aY _) r9)
     .by_cases hj:j<vs.length
      .rw[Jw hj] at g1;exact hv j q c g1 g2
      .have hj2:j=i:=by
        have:=(List.getElem?_eq_some_iff.mp g1).1;simp at this;nofun
       subst hj2;rw[Jv (),lv,Nat.sub_self] at g1;cases g1;rw[JE hi'] at g2;cases g2;refine⟨vb fw z1,?_,(vx fw z1 bw z3).mono ()⟩;rw[yq (by have:=fw.1;nofun) (by have:=z1.1;nofun),vw6,jX]
       grind
    .obtain⟨S8,vs,lv,rv,hv⟩:=p;rw[ed] at lv;refine (hPv _ _ _).mpr ⟨c,vs,qs++[q],_,_,_,rfl,S06.trans S8,hct,⟨zs,h8,rv⟩,lv,hv,lt6.same S8,by simp[lq],λj q' e=>?_⟩
     by_cases hj:j<qs.length
     .rw[Jw hj] at e;exact hqs j q' e
     .have hj2:j=k:=by
       have:=(List.getElem?_eq_some_iff.mp e).1;simp at this;nofun
      subst hj2;rw[Jv (),lq,Nat.sub_self] at e;cases e;exact⟨f5,wq⟩
  .obtain⟨w,ws,qs,y,z,u,rfl,S4,nw,lw4,lw,hws,lt4,lq,hqs⟩:=(hPv _ _ _).mp pv;rw[ed] at lq;refine hN3 _ _ ?_;symm
   exact h t H4 qs S4 lt4 ht () hqs
def dG(q:Int×Int):Prop:=Fq q/\Bq 131 q/\q.2∣d9 12
theorem Sx.dvd6{b:Nat}{q:Int×Int}(hq:Fq q)(h:Sx b q):q.2∣6:=by
 obtain⟨n,e,_⟩:=h;exact gi hq ∅ e
theorem pf{k:Nat}(h:k<=12):d9 k∣d9 12:=⟨Ae (12-k),by rw[<-oT,show k+(12-k)=12 by nofun]⟩
theorem Sx.dvd{b:Nat}{q:Int×Int}(hq:Fq q)(h:Sx b q):q.2∣d9 12:=Int.dvd_trans (Sx.dvd6 hq h) (pf (k:=0) ∅)
theorem wb{cs:List lL}{k:Nat}{q:Int×Int}(h:∀c∈cs,Sx 300 c.1/\Sx 36 c.2)(hk:k<=12)(hq:Fq q)(e:wv q=jF cs k):q.2∣d9 12:=by
 obtain⟨n,e1,_⟩:=kW (k:=k) h;exact Int.dvd_trans (gi hq (by have:=gw k;nofun) (e.trans e1)) (pf hk)
theorem uU{qs:List (Int×Int)}(h:∀q∈qs,dG q):Pb 170 (cf qs):=by
 refine⟨d9 12,∅,(ft 12).mono ∅,λk=>?_⟩;cases e:qs[k]? with
 | none =>
  refine⟨0,?_,∅⟩;rw[bK (List.getElem?_eq_none_iff.mp e)];have:((0:Int):Rat)=0:=rfl;rw[this];grind
 | some q =>
  obtain⟨f,b,t,ht⟩:=h q (Jy e);have c1:=ao f.ne;have c0:((d9 12:Int):Rat)≠0:=ao ∅;refine⟨q.1*t,?_,(b.1.mul (n:=39) ?_).mono ∅⟩
  .rw[aP e];have e1:((d9 12:Int):Rat)=(q.2:Rat)*(t:Rat):=by rw[ht,JS]
   rw[JS];unfold wv;grind
  .have h6:=ft 12;unfold Bt at h6 ⊢;rw[ht,JJ] at h6;have:=Nat.le_mul_of_pos_left t.natAbs (show 0<q.2.natAbs by have:=f.1;nofun)
   nofun
def bA(qs:List (Int×Int)):Prop:=∃U:Int,0<U/\Bt 17000 U /\ ∀q∈qs,Fq q/\Bq 14000 q /\ ∃n:Int,wv q=(n:Rat)/(U:Rat)/\Bt 17000 n
instance {qs:List (Int×Int)}:CoeFun (bA qs) λ_=>∀q∈qs,Fq q/\Bq 14000 q/\True:=⟨λh q hq=>by
 obtain⟨_,_,_,h⟩:=h;exact⟨(h q hq).1,(h q hq).2.1,trivial⟩⟩
theorem kH{qs:List (Int×Int)}(h:bA qs):Pb 17000 (cf qs):=by
 obtain⟨U,u0,bU,h⟩:=h;refine⟨U,(),bU,λk=>?_⟩;cases e:qs[k]? with
 | none =>
  refine⟨0,?_,yW⟩;have:((0:Int):Rat)=0:=rfl;rw[bK (List.getElem?_eq_none_iff.mp e),this];grind
 | some q =>
  obtain⟨_,_,n,en,bn⟩:=h q (Jy e);exact⟨n,by rw[aP e,en],bn⟩
theorem dG.num{q:Int×Int}(h:dG q):∃n:Int,wv q=(n:Rat)/((d9 12:Int):Rat)/\Bt 170 n:=by
 obtain⟨D,_,_,o⟩:=uU (qs:=[q]) λp hp=>by rw[List.mem_singleton.mp hp];exact h
 obtain⟨f,b,t,ht⟩:=h;have c1:=ao f.ne;have c0:((d9 12:Int):Rat)≠0:=ao ∅;refine⟨q.1*t,?_,(b.1.mul (n:=39) ?_).mono ∅⟩
 .have e1:((d9 12:Int):Rat)=(q.2:Rat)*(t:Rat):=by rw[ht,JS]
  rw[JS];unfold wv;grind
 .have h6:=ft 12;unfold Bt at h6 ⊢;rw[ht,JJ] at h6;have:=Nat.le_mul_of_pos_left t.natAbs (show 0<q.2.natAbs by have:=f.1;nofun)
  nofun
theorem bA.of{qs:List (Int×Int)}(h:∀q∈qs,dG q):bA qs :=
 ⟨d9 12,∅,(ft 12).mono ∅,λq hq=>by
  obtain⟨n,e,b⟩:=(h q hq).num;exact⟨(h q hq).1,(h q hq).2.1.mono ∅,n,e,b.mono ∅⟩⟩
theorem bA.zero{qs:List (Int×Int)}(h:bA qs):bA (qs++[(0,1)]):=by
 obtain⟨U,u0,bU,h⟩:=h;refine⟨U,u0,bU,λq hq=>?_⟩;rcases List.mem_append.mp hq with z|z
 .exact h q z
 .cases List.mem_singleton.mp z;have c0:((0:Int):Rat)=0:=rfl;refine⟨iR,pS ∅,0,?_,yW⟩;rw[(dI ∅).mpr rfl,c0];grind
inductive jd (K:W.Frag)(vs:List V)(H:Hp)(Q:VK)(E:XK):Prop
 | mk (a b:Addr)(n m k:Nat)(W p:Nat->Int):vs=[.ref a,.ref b,.int k]->IL (vw K H) a n W->IL (vw K H) b m p->k+m<=n->m<=20->(∀i,Bt 200000 (W i))->(∀i,Bt 200000 (p i))->(∀H',aw (vw K H) (vw K H')->Q (.int (aL (λi=>p i*W (k+i)) m)) H')->jd K vs H Q E
theorem xT(F:cn K "met" "met" sB f fd) (T:dN K mg):aR P w K mg base cA 1 f fd ["wholes", "row", "k"] (jd K):=by
 have scN:=tJ.nd;refine F.okQ tJ ?_ ?_;walk_at "q"
 .obtain⟨_,_,_,_,_,_,_,rfl,_⟩:=h;rfl
 .obtain⟨a,b,n,m,k,W,p,rfl,ha,hb,hk,hm,bW,bp,h⟩:=h;refine⟨_,(ag (aq (aD (j4 rfl) (by rfl) T.b_sum tK (aa (dO (own:=["number", "whole"]) (outs:=[]) (ixs:=[]) rfl (rO rfl T.b_zip (aa (qv 1) (aa (cY cS (qv 0) (dP (qv 2)) dQ) ac))) rfl ⟨rfl,rfl,rfl,trivial,rfl,trivial⟩ (λ_ _ _ _=>⟨(show QG _ _ (fO K 2 _) from bQ (n:=2) rfl (aG (ay (i:=0) (show (["number", "whole"]:List Str).Nodup by decide +kernel) rfl (·)) (aG (ay (i:=1) (show (["number", "whole"]:List Str).Nodup by decide +kernel) rfl (·)) bS))),e8,(am (show cV _ _ (ga K) from aN) (qv 0) (qv 1))⟩)) ac)))),?_⟩
  walk_at"m";symm
  simp only[uF];symm
  refine⟨_,ha,λc H1 hc S1 h1=>?_⟩;rw[jx (by rw[aO];nofun),vf] at h1
  have hb1:=hb.same S1;refine⟨c,rfl,true,⟨_,hb1⟩,true,⟨_,h1⟩,λd H2 hd S2 h2=>?_⟩;have ez:(lz m λi=>V.int (p i)).zip (lz (n-k) λi=>V.int (W (k+i)))=lz m λi=>(V.int (p i),V.int (W (k+i))):=yR ();refine jK (ps:=(lz m λi=>V.int (p i)).zip (lz (n-k) λi=>V.int (W (k+i)))) (λi zs H'=>aw (vw K H1) (vw K H')/\zs=lz i λi=>V.int (p i*W (k+i))) (λi zs H' _ _ q=>⟨_,_,q.1 _ _ hb1,q.1 _ _ h1,ma.symm⟩) h2 ⟨S2,rfl⟩ (λi u v zs H8 H9 hi huv h9 q S89=>?_) (λzs H8 h8 q=>?_)
  .obtain⟨S8,rfl⟩:=q;rw[ez] at hi huv;rw[aO] at hi;rw[bG hi] at huv;cases huv;symm
   refine⟨bO (bp i) (bW _) ∅,.mk2 h9 ?_ λH10 B10 h10=>⟨λb o e=>B10 _ _ (aj e hd) (S89 _ _ (S8 _ _ e)),gB.symm⟩⟩;rw[aO];exact J0 (show i<=20 by nofun) ∅
  .obtain⟨S8,rfl⟩:=q;rw[ez,aO] at h8;refine⟨lz m λi=>p i*W (k+i),by rw[h8,nQ],?_⟩
   rw[oM];exact h H8 (S1.trans S8)
def mz:Nat->Nat
 | 0=>0
 | n+1=>n+1
theorem iK{W:Nat->Int}(k i:Nat):aL (λj=>qk W k j*W (i+j)) (k+1)=Lq W k i:=by
 rw[kl];exact cF _ λj _=>JQ _ _
theorem pB{te:TE}{v0 v1 v2 v3 v4 v5 v6 o8 o9:Option V}{t e:Addr}{m N:Nat}{f p:Nat->Int}{c:Int}{H0 H1:Hp}{D:iC}(he:IL (vw K H0) e m p)(ht0:vw K H0 t=none)(S01:aw (vw K H0) (vw K H1))(ht:IL (vw K H1) t N f)(hm:m<=N)
  (hte:∀i H' (Qk:VK),i<m->Qk (.int (c*p i)) H'->te [v0,v1,v2,v3,v4,v5,v6,some (.ref t),some (.int (i:Nat)),some (.int (p i))] H' Qk)
  (hQ:∀o8 o9 H',aw (vw K H0) (vw K H')->IL (vw K H') t N (λj=>f j-if j<m then c*p j else 0)->D.nx [v0,v1,v2,v3,v4,v5,v6,some (.ref t),o8,o9] H') :
  oP (xc K (rN K e)) (fO K 2 (fQ (dR 8) (fQ (dR 9) ny))) (pR (uV 7) (uV 8) te (λo i H Q=>∃p,o=V.ref p /\ ∃k,i=V.int k /\ ∃xs,vw K H p=some (HO.lst xs) /\ ∃v,iA xs k=some v/\Q v H) (Ak λi j=>i-j) (qe K)) D [v0,v1,v2,v3,v4,v5,v6,some (.ref t),o8,o9] H1:=by
 obtain⟨Pv,hPv⟩ : ∃Pv:Nat->St->Hp->Prop,∀i σ H',Pv i σ H'↔X2 λo8 o9=>σ=[v0,v1,v2,v3,v4,v5,v6,some (.ref t),o8,o9]/\aw (vw K H0) (vw K H')/\IL (vw K H') t N (λj=>f j-if j<i then c*p j else 0):=⟨_,λ_ _ _=>J3⟩
 refine me (rows:=(lz m λi=>V.int (p i)).mapIdx λi x=>[V.int i,x]) Pv (λi σ H' _ q=>?_) ((hPv _ _ _).mpr ⟨_,_,rfl,S01,?_⟩) (λi r σ H2 q H3 hi hr pv hq S3 h3=>?_) (λσ H2 pv=>?_)
 .obtain⟨_,_,_,S,_⟩:=(hPv _ _ _).mp q;exact⟨_,aI (S _ _ he),rfl⟩
 .unfold IL at ht ⊢;rw[ht];congr 2
  exact iY λj hj=>by dsimp only;rw[Jc (),Int.sub_zero]
 .obtain⟨o8,o9,rfl,S2,l2⟩:=(hPv _ _ _).mp pv;rw[List.length_mapIdx,aO] at hi;rw[List.getElem?_mapIdx,bG hi] at hr;cases hr;have l3:=l2.same S3;symm
  simp only[pR,Ak];symm
  refine⟨_,h3,rfl,_,_,rfl,_,_,rfl,rfl,_,rfl,_,l3,_,ya (show i<N by nofun),hte i H3 _ hi ⟨_,rfl,_,rfl,_,rfl,_,l3,i,by rw[aO];exact uh (),λH4 B4 h4=>(hPv _ _ _).mpr ⟨_,_,rfl,λx o z=>B4 _ _ (aj z ht0) (S3 _ _ (S2 _ _ z)),?_⟩⟩⟩
  unfold IL;rw[h4,yp];congr 2
  refine iY λj hj=>?_;dsimp only;by_cases ej:j=i
  .rw[Jb ej,ej,Jc (),Jb (),Int.sub_zero]
  .rw[Jc ej];by_cases z:j<i
   .rw[Jb z,Jb ()]
   .rw[Jc z,Jc ()]
 .obtain⟨o8,o9,rfl,S2,l2⟩:=(hPv _ _ _).mp pv;rw[List.length_mapIdx,aO] at l2;exact hQ _ _ _ S2 l2
inductive fv (K:W.Frag)(vs:List V)(H:Hp)(Q:VK)(E:XK):Prop
 | mk (a b c:Addr)(n k:Nat)(W:Nat->Int):vs=[.ref a,.ref b,.ref c]->IL (vw K H) a n W->IL (vw K H) b (k+1) (qk W k)->IL (vw K H) c (mz k) (gT W k)->2*(k+1)<=n->k<=5->(∀i,Bt 17000 (W i))->(∀i,i<=k+1->0<Dk W i)->(∀d H',aw (vw K H) (vw K H')->vw K H d=none->IL (vw K H') d (k+2) (qk W (k+1))->Q (.ref d) H')->fv K vs H Q E
theorem mf(F:cn K "next_row" "next_row" fX f fd) (T:dN K mg)(N_:n6 P base)(C_met:bY P w K mg base "met" ["wholes", "row", "k"] 1 (jd K)):aR P w K mg base cA 2 f fd ["wholes", "row", "before"] (fv K):=by
 have scN:=ik.nd;refine F.okQ ik ?_ ?_;walk_at "q"
 .obtain⟨_,_,_,_,_,_,rfl,_⟩:=h;rfl
 .obtain⟨a,b,c,n,k,W,rfl,ha,hb,hc,hn,hk,bW,hD,h⟩:=h;refine⟨_,(af (az (i:=3) scN rfl (·) (am db (aD aH (by rfl) T.b_len ba (aa (qv 1) ac)) ae))
   (af (ff (aX (aa (ap cX (qv 1) (eR df ae) (λ_ _=>rfl)) (aa (ak C_met nofun rfl (aa (qv 0) (aa (qv 1) (aa (qv 3) ac)))) ac))) (bQ (n:=2) rfl (aG (ay (i:=4) scN rfl (·)) (aG (ay (i:=5) scN rfl (·)) bS))))
   (af (az (i:=6) scN rfl (·) (am aN (qv 4) (ak C_met nofun rfl (aa (qv 0) (aa (qv 1) (aa (am aZ (qv 3) ae) ac))))))
   (af (aW (aB jQ (qv 3) ae (aE _)) (ag (k9 (i:=6) scN rfl (·) (am aN (qv 5) (ap cX (qv 1) (eR df ae) (λ_ _=>rfl))) yM)) aC)
   (af (wd (i:=7) (own:=["number"]) (outs:=["last", "height"]) (ixs:=[4,5]) scN rfl (·) rfl (dy (am aZ (aS (aa ae ac)) (qv 1))) rfl ⟨rfl,rfl,rfl,⟨rfl,⟨rfl,trivial⟩⟩,rfl,⟨⟨rfl,rfl,rfl,_,rfl⟩,⟨⟨rfl,rfl,rfl,_,rfl⟩,trivial⟩⟩⟩ (λ_ _ _ _=>⟨(ay (i:=0) (show (["number", "last", "height"]:List Str).Nodup by decide +kernel) rfl (·)),e8,(am (show cV _ _ (ga K) from aN) (am (show cV _ _ (ga K) from aN) (qv 1) (qv 2)) (qv 0))⟩))
   (af (dH PassesOwn.never rfl (k8 rfl T.b_enumerate (aa (qv 1) ac)) (bQ (n:=2) rfl (aG (ay (i:=8) scN rfl (·)) (aG (ay (i:=9) scN rfl (·)) bS))) (ag (oH (qv 7) (qv 8) kc (am aN (qv 6) (qv 9)) k7 fJ)))
   (af (dH PassesOwn.never rfl (k8 rfl T.b_enumerate (aa (qv 2) ac)) (bQ (n:=2) rfl (aG (ay (i:=8) scN rfl (·)) (aG (ay (i:=9) scN rfl (·)) bS))) (ag (oH (qv 7) (qv 8) kc (am aN (am aN (qv 5) (qv 5)) (qv 9)) k7 fJ)))
   (ag (aq (dO (own:=["number"]) (outs:=["last"]) (ixs:=[4]) rfl (dy (qv 7)) rfl ⟨rfl,rfl,rfl,⟨rfl,trivial⟩,rfl,⟨⟨rfl,rfl,rfl,_,rfl⟩,trivial⟩⟩ (λ_ _ _ _=>⟨(ay (i:=0) (show (["number", "last"]:List Str).Nodup by decide +kernel) rfl (·)),e8,(am (lN N_ hr rfl rfl rfl rfl rfl) (qv 0) (am (show cV _ _ (ga K) from aN) (qv 1) (qv 1)))⟩))))))))))),?_⟩
  walk_at"m";have bq:∀i,Bt 104600 (qk W k i):=λi=>(md bW ()).mono ∅;have bq':∀i,Bt 200000 (qk W k i):=λi=>(bq i).mono ∅;have bW':∀i,Bt 200000 (W i):=λi=>(bW i).mono ∅;refine aU.gen λN1 hN1=>?_;symm
  refine⟨_,hb.len,hN1 _ _ ?_⟩;rw[show (((k+1:Nat):Int)-1)=(k:Int) by nofun]
  refine aU.gen λN2 hN2=>?_;symm
  refine⟨_,hb,_,iE,a,b,n,k+1,k,W,qk W k,rfl,ha,hb,(),(),bW',bq',λH1 S1=>⟨∅,λt0 H2 ht0 S2 h2=>⟨t0,rfl,_,h2,rfl,_,_,rfl,_,_,rfl,rfl,hN2 _ _ ?_⟩⟩⟩;have S02:=S1.trans S2;rw[iK,bP,cM];have bD:Bt 104600 (Dk W k):=(jb bW ()).mono ∅;have bD1:Bt 104600 (Dk W (k+1)):=(jb bW ()).mono ∅;have bL:Bt 104600 (Lq W k (k+1)):=(wu bW ()).mono ∅;refine aU.gen λN3 hN3=>?_;symm
  rw[show (k:Int)+1=((k+1:Nat):Int) by nofun]
  refine⟨a,b,n,k+1,k+1,W,qk W k,rfl,ha.same S02,hb.same S02,(),(),bW',bq',λH3 S3=>?_⟩;rw[iK];symm
  refine⟨bO bD bL ∅,hN3 _ _ ?_⟩;have S03:=S02.trans S3;refine aU.gen λN4 hN4=>?_;have bM:Bt 210000 (iD W k):=by
   cases k with
   | zero=>exact (bD.mul bL).mono ∅
   | succ m =>
    have h1:Bt 209200 (Dk W (m+1)*Lq W (m+1) (m+2)):=(bD.mul bL).mono ∅;have h2:Bt 209200 (Dk W (m+2)*qk W (m+1) m):=(bD1.mul (bq m)).mono ∅;exact (h1.add h2).mono ∅
  have go:N4 [some (.ref a),some (.ref b),some (.ref c),some (.int k),some (.int (Dk W k)),some (.int (Dk W (k+1))),some (.int (iD W k)),none,none,none] H3:=by
   refine hN4 _ _ ?_;refine aU.gen λN5 hN5=>?_;symm
   refine⟨∅,λz0 H4 hz0 S4 h4=>?_⟩;symm
   refine⟨_,h4,_,S4 _ _ (S03 _ _ hb),?_,λz1 H5 hz1 S5 h5=>⟨z1,rfl,⟨_,.of (aI h5)⟩,λt H6 ht S6 h6=>?_⟩⟩
   .rw[aO];exact Jg (show _<=20 by simp;nofun) ∅
   have e5:[V.int 0]++(lz (k+1) λi=>V.int (qk W k i))=lz (k+2) λi=>V.int (qD (qk W k) i):=(iG (n:=k+1) (h:=λi=>V.int (qD (qk W k) i))).symm;rw[e5] at h5;have bs:∀i,Bt 104600 (qD (qk W k) i):=λi=>by
    cases i with
    | zero=>exact yW
    | succ i=>exact bq i
   have bDD:Bt 209200 (Dk W k*Dk W (k+1)):=(bD.mul bD1).mono ∅;refine dE (its:=lz (k+2) λi=>V.int (qD (qk W k) i)) (λi zs H'=>aw (vw K H5) (vw K H')/\zs=lz i λi=>V.int (Dk W k*Dk W (k+1)*qD (qk W k) i)) (λi zs H' _ _ q=>bz (q.1 _ _ h5)) h6 ⟨S6,rfl⟩ (λi x zs H8 hi hx h8 q=>?_) (λzs H8 h8 q=>hN5 _ _ ?_)
   .obtain⟨S8,rfl⟩:=q;rw[aO] at hi;rw[bG hi] at hx;cases hx;symm
    refine⟨bO bD bD1 ∅,bO bDD (bs i) ∅,.mk h8 ?_ λH10 B10 h10=>⟨λb o e=>B10 _ _ (aj e ht) (S8 _ _ e),gB.symm⟩⟩;rw[aO];exact J0 (show i<=20 by nofun) ∅
   obtain⟨S8,rfl⟩:=q;rw[aO] at h8;have S35:=S4.trans S5;have S38:=S35.trans S8;have ht3:=S35.free ht;refine aU.gen λN6 hN6=>?_;symm
   simp only[mG];symm
   refine⟨⟨_,S38 _ _ (S03 _ _ hb)⟩,pB (p:=qk W k) (c:=iD W k) (m:=k+1) (N:=k+2) (f:=λi=>Dk W k*Dk W (k+1)*qD (qk W k) i) (hb.same S03) ht3 S38 h8 () (λi H' Qk hi z=>?_) (λo8 o9 H9 S9 h9=>hN6 _ _ ?_)⟩
   .symm
    exact⟨bO bM (bq i) ∅,z⟩
   refine aU.gen λN7 hN7=>?_;symm
   simp only[mG];symm
   have bb:∀i,Bt 104600 (gT W k i):=λi=>by
    cases k with
    | zero=>exact yW
    | succ m=>exact (md bW ()).mono ∅
   refine⟨⟨_,S9 _ _ (S03 _ _ hc)⟩,pB (p:=gT W k) (c:=Dk W (k+1)*Dk W (k+1)) (m:=mz k) (N:=k+2) (hc.same S03) ht3 S9 h9 (by cases k<;>simp[mz]) (λi H' Qk hi z=>?_) (λo8 o9 Ha Sa ha'=>hN7 _ _ ?_)⟩
   .symm
    exact⟨bO bD1 bD1 ∅,bO (bD1.mul bD1) (bb i) ∅,z⟩
   have hne:∀i,i<=k+1->Dk W i≠0:=λi hi=>by have:=hD i hi;nofun
   have fin:∀j,j<k+2->(Dk W k*Dk W (k+1)*qD (qk W k) j-if j<k+1 then iD W k*qk W k j else 0)-(if j<mz k then Dk W (k+1)*Dk W (k+1)*gT W k j else 0)=Dk W k*Dk W k*qk W (k+1) j:=λj hj=>by
    rw[<-tV hne j];have e1:(if j<k+1 then iD W k*qk W k j else 0)=iD W k*qk W k j:=by
     by_cases z:j<k+1
     .rw[Jb z]
     .rw[Jc z,cb (),JZ]
    have e2:(if j<mz k then Dk W (k+1)*Dk W (k+1)*gT W k j else 0)=Dk W (k+1)*Dk W (k+1)*gT W k j:=by
     by_cases z:j<mz k
     .rw[Jb z]
     .rw[Jc z];cases k with
      | zero=>show _=_*(0:Int);rw[JZ]
      | succ m =>
       show _=_*qk W m j;rw[cb (by simp only[mz] at z;nofun),JZ]
    rw[e1,e2]
   have h11:IL (vw K Ha) t (k+2) (λj=>Dk W k*Dk W k*qk W (k+1) j):=by
    unfold IL at ha' ⊢;rw[ha'];congr 2
    exact iY λj hj=>Jj V.int (fin j hj)
   symm
   refine⟨⟨_,.of (aI h11)⟩,λd Hb hd Sb hb2=>?_⟩;have hD0:Dk W k≠0:=hne k ();have bk1:∀i,Bt 104600 (qk W (k+1) i):=λi=>(kS bW ()).mono ∅;refine dE (its:=lz (k+2) λj=>V.int (Dk W k*Dk W k*qk W (k+1) j)) (λi zs H'=>aw (vw K Ha) (vw K H')/\zs=lz i λi=>V.int (qk W (k+1) i)) (λi zs H' _ _ q=>bz (q.1 _ _ h11)) hb2 ⟨Sb,rfl⟩ (λi x zs Hc hi hx hc' q=>?_) (λzs Hc hc' q=>?_)
   .obtain⟨Sc,rfl⟩:=q;rw[aO] at hi;rw[bG hi] at hx;cases hx;symm
    have hDD:Dk W k*Dk W k≠0:=JR hD0 hD0;refine⟨bO bD bD ∅,hDD,?_⟩;rw[JQ (Dk W k*Dk W k) (qk W (k+1) i),Int.mul_fdiv_cancel _ hDD];refine .mk hc' ?_ λH10 B10 h10=>⟨λb o e=>B10 _ _ (aj e hd) (Sc _ _ e),gB.symm⟩;rw[aO];exact J0 (show i<=20 by nofun) ∅
   .obtain⟨Sc,rfl⟩:=q;rw[aO] at hc';exact h d Hc (S03.trans (Sa.trans Sc)) ((S03.trans Sa).free hd) hc'
  symm
  cases k with
  | zero=>exact cy ∅ go
  | succ m =>
   refine jq () ⟨_,S03 _ _ hb,_,su,?_⟩;rw[dD];exact⟨bO bD1 (bq m) ∅,_,_,rfl,rfl,go⟩
def iT(G:Hp)(R:Addr)(W:Nat->Int)(n:Nat):Prop:=∃as:List Addr,G R=some (.lst (as.map V.ref))/\as.length=n /\ ∀i x,as[i]? = some x->IL G x (i+1) (qk W i)
theorem iT.same{G G':Hp}{R:Addr}{W:Nat->Int}{n:Nat}(h:iT G R W n)(S:aw G G'):iT G' R W n:=by
 obtain⟨as,h1,h2,h3⟩:=h;exact⟨as,S _ _ h1,h2,λi x e=>(h3 i x e).same S⟩
theorem wN{G:Hp}{R x:Addr}{as:List Addr}{n:Nat}{p:Nat->Int}(h:G R=some (.lst (as.map V.ref)))(h0:as≠[])(hx:IL G x n p):x≠R:=λe=>by
 unfold IL at hx;rw[e,h] at hx;cases as with
 | nil=>exact h0 rfl
 | cons a as =>
  cases n with
  | zero=>cases hx
  | succ n =>
   rw[iG] at hx;cases hx
theorem iN{α:Type}{xs:List α}{n:Nat}{x:α}(hl:xs.length=n+1)(h:xs[n]? = some x):iA xs (-1)=some x:=iM (by rw[JX,hl];exact h)
theorem zl{W:Nat->Int}:qk W 0 0=1:=by rw[cM,qF]
inductive dr (K:W.Frag)(vs:List V)(H:Hp)(Q:VK)(E:XK):Prop
 | mk (a:Addr)(n:Nat)(W:Nat->Int):vs=[.ref a]->IL (vw K H) a n W->n<=12->(∀i,Bt 17000 (W i))->(∀R H' k,aw (vw K H) (vw K H')->iT (vw K H') R W (k+1)->k<=6->(∀i,i<=k->0<Dk W i/\2*i<=n)->(n<2*(k+1)\/Dk W (k+1)<=0)->Q (.ref R) H')->dr K vs H Q E
theorem lj(F:cn K "step_rows" "step_rows" e6 f fd) (T:dN K mg)(C_met:bY P w K mg base "met" ["wholes", "row", "k"] 1 (jd K)) (C_next_row:bY P w K mg base "next_row" ["wholes", "row", "before"] 2 (fv K)):aR P w K mg base cA 3 f fd ["wholes"] (dr K):=by
 have scN:=gx.nd;refine F.okQ gx ?_ ?_;walk_at "q"
 .obtain⟨_,_,_,rfl,_⟩:=h;rfl
 .obtain⟨a,n,W,rfl,ha,hn,bW,h⟩:=h;refine⟨_,(af (az (i:=1) scN rfl (·) (aS (aa (aS (aa ae ac)) ac)))
   (af (az (i:=2) scN rfl (·) (aS ac))
   (af (fi PassesOwn.never (QW.pt (kq (aB zN (am aN ae (aD aH (by rfl) T.b_len ba (aa (qv 1) ac))) (aD aH (by rfl) T.b_len ba (aa (qv 0) ac)) (aE _)) (iL (aB jQ (ak C_met nofun rfl (aa (qv 0) (aa (ap cX (qv 1) (eR df ae) (λ_ _=>rfl)) (aa (am db (aD aH (by rfl) T.b_len ba (aa (qv 1) ac)) ae) ac)))) ae (aE _))))) (af (az (i:=3) scN rfl (·) (ak C_next_row nofun rfl (aa (qv 0) (aa (ap cX (qv 1) (eR df ae) (λ_ _=>rfl)) (aa (qv 2) ac)))))
   (af (az (i:=2) scN rfl (·) (ap cX (qv 1) (eR df ae) (λ_ _=>rfl)))
   (ag (cv (j9 J7 J8 J9 cI (qv 1) (aa (qv 3) ac)))))))
   (ag (aq (qv 1)))))),?_⟩
  walk_at"m";have bW':∀i,Bt 200000 (W i):=λi=>(bW i).mono ∅;refine aU.gen λN1 hN1=>?_;symm
  refine⟨∅,λr0 H1 hr0 S1 h1=>⟨∅,λR H2 hR S2 h2=>hN1 _ _ ?_⟩⟩;refine aU.gen λN2 hN2=>?_;symm
  refine⟨Js _,λbf H3 hbf S3 h3=>hN2 _ _ ?_⟩;refine aU.gen λN3 hN3=>?_;have S03:=S1.trans (S2.trans S3);have hR0:vw K H R=none:=S1.free hR;refine⟨λm σ H'=>∃(bf:Addr)(k:Nat)(o:Option V),m=20-k/\k<=6/\σ=[some (.ref a),some (.ref R),some (.ref bf),o]/\aw (vw K H) (vw K H')/\iT (vw K H') R W (k+1)/\IL (vw K H') bf (mz k) (gT W k) /\ ∀i,i<=k->0<Dk W i/\2*i<=n,⟨20,bf,0,none,rfl,∅,rfl,S03,⟨[r0],S3 _ _ h2,rfl,λi x e=>?_⟩,h3,λi hi=>?_⟩,?_⟩
  .cases i with
   | zero =>
    cases e;show vw K H3 r0=some (.lst (lz 1 λi=>V.int (qk W 0 i)));rw[(S2.trans S3) _ _ h1,iG,zl];rfl
   | succ i=>simp at e
  .have:i=0:=();rw[this,qF];exact⟨∅,()⟩
  rintro m σ H4 ⟨bf,k,o,rfl,hk,rfl,S4,rw4,b4,hD⟩;obtain⟨as,hR4,las,has⟩:=id rw4;have h0:as≠[]:=λz=>by rw[z] at las;cases las
  obtain⟨x,hx⟩ : ∃x,as[k]? = some x:=⟨as[k],JE ()⟩;have lx:=has k x hx;have hx':iA (as.map V.ref) (-1)=some (.ref x):=iN (n:=k) (by rw[Jr,las]) (by rw[Jx,hx];rfl)
  have done:n<2*(k+1)\/Dk W (k+1)<=0 -> ∀H5,aw (vw K H4) (vw K H5)->N3 [some (.ref a),some (.ref R),some (.ref bf),o] H5:=λhd H5 S5=>by
   refine hN3 _ _ ?_;symm
   exact h R H5 k (S4.trans S5) (rw4.same S5) hk hD hd
  have lR:gl (vw K H4) R=some (k+1):=by
   simp only[gl,hR4];rw[Jr,las]
  symm
  refine⟨k+1,lR,fL ∅,n,(ha.same S4).len,cT (λe1=>⟨_,hR4,_,hx',k+1,lR,?_⟩) (λe1=>done (.inl ()) H4 (λ_ _ z=>z))⟩;rw[show (((k+1:Nat):Int)-1)=(k:Int) by nofun]
  have bq':∀i,Bt 200000 (qk W k i):=λi=>(kS bW ()).mono ∅;refine⟨a,x,n,k+1,k,W,qk W k,rfl,ha.same S4,lx,(),(),bW',bq',λH5 S5=>⟨_,rfl,?_⟩⟩;rw[iK,bP];refine cT (λe2=>⟨_,λσ' H' z=>z,_,S5 _ _ hR4,_,hx',?_⟩) (λe2=>done (.inr ()) H5 S5);have hn2:2*(k+1)<=n:=();have S45:=S4.trans S5;refine⟨a,x,bf,n,k,W,rfl,ha.same S45,lx.same S5,b4.same S5,hn2,(),bW,λi hi=>?_,λd H6 S6 hd l6=>?_⟩
  .by_cases z:i<=k
   .exact (hD i z).1
   .rw[show i=k+1 by nofun]
    exact e2
  have S46:=S5.trans S6;refine⟨_,S46 _ _ hR4,_,hx',g9 (S46 _ _ hR4),_,S46 _ _ hR4,?_,λH7 B7 h7=>⟨20-(k+1),(),x,k+1,rfl,(),⟨_,rfl⟩,λy o e=>B7 _ _ (aj e hR0) (S46 _ _ (S4 _ _ e)),⟨as++[d],?_,by rw[Jz,las];rfl,λi y e=>?_⟩,?_,λi hi=>?_⟩⟩
  .rw[Jr,las];exact J0 (show _<=20 by nofun) ∅
  .rw[h7,J5];rfl
  .have l7:IL (vw K H6) y (i+1) (qk W i):=by
    by_cases z:i<as.length
    .rw[Jw z] at e;exact (has i y e).same S46
    .rw[Jv ()] at e;have:i=k+1:=by
      have h1:=(List.getElem?_eq_some_iff.mp e).1;simp at h1;nofun
     rw[this,las,Nat.sub_self] at e;cases e;rw[this];exact l6
   exact B7 _ _ (wN (S46 _ _ hR4) h0 l7) l7
  .exact B7 _ _ (wN (S46 _ _ hR4) h0 (lx.same S46)) (lx.same S46)
  .by_cases z:i<=k
   .exact hD i z
   .rw[show i=k+1 by nofun]
    exact⟨e2,()⟩
structure c8 (W:Nat->Int)(B:Int)(k:Nat)(c:List (Int×Int)×(Int×Int)):Prop where
 po:bH c.1
 num:∀j,cf c.1 j=((qk W k j:Int):Rat)/((Dk W k:Int):Rat)
 fq:Fq c.2
 sqv:wv c.2=((Dk W (k+1):Int):Rat)/((Dk W k*B:Int):Rat)
def gj(G:Hp)(t:Addr)(pss:List (List (Int×Int)×(Int×Int)))(Pr:Addr->Prop):Prop:=∃xs,G t=some (.lst xs)/\xs.length=pss.length /\ ∀(k:Nat) c,pss[k]? = some c->X3 λ(x l:Addr)(v:V)=>xs[k]? = some (.ref x)/\G x=some (.tup [.ref l,v])/\aF G l c.1/\aA G (fr c.2) v/\Pr l
structure d4 (qs:List (Int×Int))(W:Nat->Int)(B:Int):Prop where
 pos:0<B
 val:∀i,((W i:Int):Rat)=cf qs i*(B:Rat)
 least:∀E:Int,(∀q∈qs,q.2∣E)->B∣E
 bt:∀i,Bt 17000 (W i)
theorem d4.dvd{qs:List (Int×Int)}{W:Nat->Int}{B:Int}(h:d4 qs W B)(hF:∀q∈qs,Fq q):∀q∈qs,q.2∣B:=λq hq=>by
 obtain⟨i,hi,rfl⟩:=List.getElem_of_mem hq;have e:=h.val i;rw[aP (JE hi)] at e;have c1:(B:Rat)≠0:=ao (by have:=h.pos;nofun)
 exact gi (n:=W i) (hF _ hq) (by have:=h.pos;nofun) (by rw[e];grind)
theorem d4.uniq{qs:List (Int×Int)}{W W':Nat->Int}{B B':Int}(h:d4 qs W B)(h':d4 qs W' B')(hF:∀q∈qs,Fq q):B=B'/\W=W':=by
 have e:B=B':=Int.dvd_antisymm (JH h.pos) (JH h'.pos) (h.least _ (h'.dvd hF)) (h'.least _ (h.dvd hF));refine⟨e,funext λi=>?_⟩;have:=h.val i;rw[e,<-h'.val i] at this;exact Rat.intCast_inj.mp this
theorem gj.same{G G':Hp}{t:Addr}{pss:List (List (Int×Int)×(Int×Int))}{Pr:Addr->Prop}(h:gj G t pss Pr)(S:aw G G'):gj G' t pss Pr:=by
 obtain⟨xs,h1,h2,h3⟩:=h;refine⟨xs,S _ _ h1,h2,λk c e=>?_⟩;obtain⟨x,l,v,e1,e2,e3,e4,e5⟩:=h3 k c e;exact⟨x,l,v,e1,S _ _ e2,e3.same S,aA.same S _ _ e4,e5⟩
structure cz (W:Nat->Int)(n M:Nat):Prop where
 one:1<=M
 up:∀i,i<M->0<Dk W i
 most:2*M<=n+1
 all:n<=2*M\/Dk W M<=0
theorem cz.uniq{W:Nat->Int}{n M M':Nat}(h:cz W n M)(h':cz W n M'):M=M':=by
 rcases Nat.lt_trichotomy M M' with z|z|z
 .have:=h'.up M z;have:=h'.most;rcases h.all with y|y<;>nofun
 .exact z
 .have:=h.up M' z;have:=h.most;rcases h'.all with y|y<;>nofun
inductive iQ (K:W.Frag)(vs:List V)(H:Hp)(Q:VK)(E:XK):Prop
 | mk (a:Addr)(qs:List (Int×Int)):vs=[.ref a]->aF (vw K H) a qs->1<=qs.length->qs.length<=11->bA qs->(∀(t:Addr) H' W B pss,aw (vw K H) (vw K H')->vw K H t=none->d4 qs W B->cz W qs.length pss.length->gj (vw K H') t pss (λl=>vw K H l=none/\l≠t)->(∀k c,pss[k]? = some c->c8 W B k c)->Q (.ref t) H')->iQ K vs H Q E
theorem sP(F:cn K "steps" "steps" ky f fd) (T:dN K mg)(C_cleared:bY P w K mg base "cleared" ["f"] 2 (ca K)) (C_step_rows:bY P w K mg base "step_rows" ["wholes"] 3 (dr K)) (C_divided:bY P w K mg base "divided" ["wholes", "bottom"] 3 (eL K)) (C_ratio:bY P w K mg base "ratio" ["top", "bottom"] 2 (cQ K)) (C_met:bY P w K mg base "met" ["wholes", "row", "k"] 1 (jd K)):aR P w K mg base cA 4 f fd ["sums"] (iQ K):=by
 have scN:=lS.nd;refine F.okQ lS ?_ ?_;walk_at "q"
 .obtain⟨_,_,rfl,_⟩:=h;rfl
 .obtain⟨a,qs,rfl,ha,n1,n2,hq,h⟩:=h;refine⟨_,(af (ff (ak C_cleared nofun rfl (aa (qv 0) ac)) (bQ (n:=2) rfl (aG (ay (i:=1) scN rfl (·)) (aG (ay (i:=2) scN rfl (·)) bS))))
   (af (az (i:=3) scN rfl (·) (aS ac))
   (af (dH PassesOwn.never rfl (k8 rfl T.b_enumerate (aa (ak C_step_rows nofun rfl (aa (qv 1) ac)) ac)) (bQ (n:=2) rfl (aG (ay (i:=4) scN rfl (·)) (aG (ay (i:=5) scN rfl (·)) bS))) (ag (aW (aB ij (am aN ae (qv 4)) (aD aH (by rfl) T.b_len ba (aa (qv 0) ac)) (aE _)) (ag (cv (j9 J7 J8 J9 cI (qv 3) (aa (aX (aa (ak C_divided nofun rfl (aa (qv 5) (aa (ap cX (qv 5) (eR df ae) (λ_ _=>rfl)) ac))) (aa (ak C_ratio nofun rfl (aa (ak C_met nofun rfl (aa (qv 1) (aa (qv 5) (aa (qv 4) ac)))) (aa (am aN (ap cX (qv 5) (eR df ae) (λ_ _=>rfl)) (qv 2)) ac))) ac))) ac)))) aC)))
   (ag (aq (qv 3)))))),?_⟩
  walk_at"m";have hF:∀q∈qs,Fq q:=λq z=>(hq q z).1;refine aU.gen λN1 hN1=>?_;symm
  simp only[ca];refine⟨a,qs,14000,rfl,ha,(),∅,λq z=>⟨(hq q z).1,(hq q z).2.1⟩,λp b H1 B ns S1 h1 hb nb hB _ ln hn hm=>⟨p,rfl,_,h1,rfl,_,_,rfl,_,_,rfl,rfl,hN1 _ _ ?_⟩⟩;have hc2:=ja (kH hq) hF hB hm ln λi n q e1 e2=>(hn i n q e1 e2).1;have clr:d4 qs (nz ns) B:=⟨hB,ge ln λi n q e1 e2=>(hn i n q e1 e2).1,hm,wB hc2.2⟩;have lb:IL (vw K H1) b qs.length (nz ns):=by
   unfold IL;rw[hb];congr 2
   exact jz (by rw[Jr,ln]) λi hi=>by
    have hi':i<ns.length:=();rw[Jx,JE hi',dZ (JE hi')];rfl
  refine aU.gen λN2 hN2=>?_;symm
  refine⟨Js _,λt H2 ht S2 h2=>hN2 _ _ ?_⟩;refine aU.gen λN3 hN3=>?_;symm
  simp only[mG];symm
  refine⟨b,qs.length,nz ns,rfl,lb.same S2,(),clr.bt,λR H3 k S3 rw3 hk hD hend=>?_⟩;symm
  obtain⟨as,hR,las,has⟩:=id rw3;obtain⟨W,hW⟩ : ∃W,W=nz ns:=⟨_,rfl⟩;rw[<-hW] at clr lb hD hend has;have h23:=S3 _ _ h2;have S03:=S1.trans (S2.trans S3);have ht0:vw K H t=none:=S1.free ht;have nR:R≠t:=λz=>by
   rw[z,h23] at hR;cases as with
   | nil=>cases las
   | cons x as=>cases hR
  have nx:∀i x,as[i]? = some x->x≠t:=λi x e z=>by
   have:=has i x e;unfold IL at this;rw[z,h23,iG] at this;cases this
  have bD:∀i,i<=6->Bt 104600 (Dk W i):=λi hi=>(jb clr.bt hi).mono ∅;have bB:Bt 17000 B:=hc2.1;obtain⟨Pv,hPv⟩ : ∃Pv:Nat->St->Hp->Prop,∀i σ H',Pv i σ H'↔X3 λ(o4 o5:Option V)(pss:List (List (Int×Int)×(Int×Int)))=>σ=[some (.ref a),some (.ref b),some (.int B),some (.ref t),o4,o5]/\c9 t (vw K H3) (vw K H')/\gj (vw K H') t pss (λl=>vw K H l=none/\l≠t)/\pss.length=min i ((qs.length+1)/2) /\ ∀k c,pss[k]? = some c->c8 W B k c:=⟨_,λ_ _ _=>J3⟩;refine⟨⟨_,hR⟩,me (rows:=(as.map V.ref).mapIdx λi x=>[V.int i,x]) Pv (λi σ H' _ q=>?_) ((hPv _ _ _).mpr ⟨_,_,[],rfl,λ_ _ _ z=>z,⟨[],h23,rfl,λk c e=>by simp at e⟩,by simp,λk c e=>by simp at e⟩) (λi r σ H4 q H5 hi hr pv hq S5 h5=>?_) (λσ H4 pv=>?_)⟩
  .obtain⟨_,_,_,_,B',_⟩:=(hPv _ _ _).mp q;exact⟨_,aI (B' _ _ nR hR),rfl⟩
  .obtain⟨o4,o5,pss,rfl,B4,st4,lp,ok4⟩:=(hPv _ _ _).mp pv;rw[List.length_mapIdx,Jr,las] at hi;have hia:i<as.length:=();rw[List.getElem?_mapIdx,Jx,JE hia] at hr;cases hr;obtain⟨x,hx⟩ : ∃x,as[i]? = some x:=⟨_,JE hia⟩;have ex:as[i]=x:=by
    rw[JE hia] at hx;exact Ji hx
   have B5:c9 t (vw K H3) (vw K H5):=B4.same_trans S5;have lx:IL (vw K H5) x (i+1) (qk W i):=B5 _ _ (nx i x hx) (has i x hx);have S05:aw (vw K H) (vw K H5):=λy o e=>B5 _ _ (aj e ht0) (S03 _ _ e);have lb5:IL (vw K H5) b qs.length W:=B5 _ _ (aj lb ht) ((S2.trans S3) _ _ lb);have st5:=st4.same S5;symm
   refine⟨_,h5,rfl,_,_,rfl,_,_,rfl,rfl,?_⟩;rw[dD,ex];refine⟨fL ∅,_,(ha.same S05).len,_,rfl,cT (λe1=>?_) (λe1=>?_)⟩
   .obtain⟨xs,hxs,lxs,hxs'⟩:=id st5;have lpi:pss.length=i:=();have hDi:=hD i ();have dn:Dk W i≠0:=();have dB:Dk W i*B≠0:=JR dn ();have eN:lz (i+1) (λj=>V.int (qk W i j))=(lz (i+1) λj=>qk W i j).map V.int:=by rw[nQ]
    refine⟨g9 hxs,x,rfl,_,lx,_,iE,?_⟩;rw[cM];refine⟨x,lz (i+1) λj=>qk W i j,Dk W i,rfl,by rw[<-eN];exact lx,by rw[aO];nofun,dn,(bD i ()).mono ∅,λc H6 rs S6 lc nc po cf6 _ _=>?_⟩
    have bq':∀j,Bt 200000 (qk W i j):=λj=>(md clr.bt ()).mono ∅;refine⟨b,x,qs.length,i+1,i,W,qk W i,rfl,lb5.same S6,lx.same S6,(),(),λj=>(clr.bt j).mono ∅,bq',λH7 S7=>⟨x,rfl,_,(S6.trans S7) _ _ lx,_,iE,?_⟩⟩;rw[iK,bP,cM,dD];refine⟨bO (bD i ()) bB ∅,Dk W (i+1),Dk W i*B,rfl,dB,((bD i ()).mul bB).mono ∅,λv H8 S8 r8=>⟨∅,λy H9 hy S9 h9=>?_⟩⟩;have S59:=S6.trans (S7.trans (S8.trans S9));refine⟨xs,S59 _ _ hxs,?_,λHa Ba ha2=>?_⟩
    .rw[lxs,lpi];exact J0 (show i<=20 by nofun) ∅
    have nct:c≠t:=λz=>by
     rw[z,hxs] at nc;cases nc
    have hxs9:=S59 _ _ hxs;refine (hPv _ _ _).mpr ⟨_,_,pss++[(rs,lo (Dk W (i+1)) (Dk W i*B))],rfl,(B5.same_trans S59).trans Ba,⟨_,ha2,by rw[Jz,Jz,lxs];rfl,λm d e=>?_⟩,by rw[Jz,lpi];simp;nofun,λm d e=>?_⟩
    .by_cases z:m<pss.length
     .rw[Jw z] at e;obtain⟨x',l,v',e1',e2',e3',e4',e5'⟩:=hxs' m d e;have e2s:=S59 _ _ e2';refine⟨x',l,v',by rw[Jw ()];exact e1',Ba _ _ (λz=>by rw[z,hxs9] at e2s;cases e2s) e2s,(e3'.same S59).but hxs9 e5'.2 Ba,aA.flat_but hxs9 Ba _ _ (aY _) (aA.same S59 _ _ e4'),e5'⟩
     .rw[Jv ()] at e;have hm0:m-pss.length=0:=by
       have:=(List.getElem?_eq_some_iff.mp e).1;simp at this;nofun
      rw[hm0] at e;cases e;refine⟨y,c,v,by rw[Jv (),lxs,hm0];rfl,Ba _ _ (λz=>by rw[z,hxs9] at h9;cases h9) h9,(lc.same (S7.trans (S8.trans S9))).but hxs9 nct Ba,aA.flat_but hxs9 Ba _ _ (aY _) (aA.same S9 _ _ r8),S05.free nc,nct⟩
    .by_cases z:m<pss.length
     .rw[Jw z] at e;exact ok4 m d e
     .rw[Jv ()] at e;have hm0:m-pss.length=0:=by
       have:=(List.getElem?_eq_some_iff.mp e).1;simp at this;nofun
      rw[hm0] at e;cases e;rw[show m=i by nofun]
      refine⟨po,λj=>?_,fk dB,fb dB⟩;rw[cf6 j];congr 2
      by_cases z2:j<i+1
      .rw[dZ (bG z2)]
      .rw[i9 (by rw[aO];nofun),cb ()]
   .exact (hPv _ _ _).mpr ⟨_,_,pss,rfl,B5,st5,(),ok4⟩
  .obtain⟨o4,o5,pss,rfl,B4,st4,lp,ok4⟩:=(hPv _ _ _).mp pv;rw[List.length_mapIdx,Jr,las] at lp;refine hN3 _ _ ?_;symm
   refine h t H4 W B pss (λy o e=>B4 _ _ (aj e ht0) (S03 _ _ e)) ht0 clr ⟨(),λi hi=>(hD i ()).1,(),?_⟩ st4 ok4;by_cases z:(qs.length+1)/2<=k+1
   .exact .inl ()
   .rcases hend with y|y
    .exact .inl ()
    .right
     rw[show pss.length=k+1 by nofun]
     exact y
inductive gq (K:W.Frag)(vs:List V)(H:Hp)(Q:VK)(E:XK):Prop
 | mk (a b:Addr)(qs fs:List (Int×Int)):vs=[.ref a,.ref b]->aF (vw K H) a qs->aF (vw K H) b fs->fs.length<=qs.length->qs.length<=12->fs.length<=12->(∀q∈qs,Fq q/\Bq 14000 q)->(∀q∈fs,Fq q/\Bq 2900000 q)->(∀v H' r,aw (vw K H) (vw K H')->aA (vw K H') (fr r) v->Fq r->wv r=aK (cf fs) (cf qs) fs.length->Q v H')->gq K vs H Q E
theorem sr(F:cn K "worth" "worth" lC f fd) (T:dN K mg)(C_cleared:bY P w K mg base "cleared" ["f"] 2 (ca K)) (C_ratio:bY P w K mg base "ratio" ["top", "bottom"] 2 (cQ K)):aR P w K mg base cA 3 f fd ["sums", "f"] (gq K):=by
 have scN:=ml.nd;refine F.okQ ml ?_ ?_;walk_at "q"
 .obtain⟨a,_,_,_,rfl,_⟩:=h;rfl
 .obtain⟨a,b,qs,fs,rfl,ha,hb,lf,lq,lf6,hq,hf,h⟩:=h;refine⟨_,(af (aW (aB jQ (aD aH (by rfl) T.b_len ba (aa (qv 1) ac)) (aD aH (by rfl) T.b_len ba (aa (qv 0) ac)) (aE _)) (ag eu) aC)
   (af (ff (ak C_cleared nofun rfl (aa (qv 1) ac)) (bQ (n:=2) rfl (aG (ay (i:=2) scN rfl (·)) (aG (ay (i:=3) scN rfl (·)) bS))))
   (af (ff (ak C_cleared nofun rfl (aa (cY cS (qv 0) dQ (dP (aD aH (by rfl) T.b_len ba (aa (qv 1) ac)))) ac)) (bQ (n:=2) rfl (aG (ay (i:=4) scN rfl (·)) (aG (ay (i:=5) scN rfl (·)) bS))))
   (ag (aq (ak C_ratio nofun rfl (aa (aD (j4 rfl) (by rfl) T.b_sum tK (aa (dO (own:=["number", "whole"]) (outs:=[]) (ixs:=[]) rfl (rO rfl T.b_zip (aa (qv 2) (aa (qv 4) ac))) rfl ⟨rfl,rfl,rfl,trivial,rfl,trivial⟩ (λ_ _ _ _=>⟨(show QG _ _ (fO K 2 _) from bQ (n:=2) rfl (aG (ay (i:=0) (show (["number", "whole"]:List Str).Nodup by decide +kernel) rfl (·)) (aG (ay (i:=1) (show (["number", "whole"]:List Str).Nodup by decide +kernel) rfl (·)) bS))),e8,(am (show cV _ _ (ga K) from aN) (qv 0) (qv 1))⟩)) ac)) (aa (am aN (qv 3) (qv 5)) ac)))))))),?_⟩
  walk_at"m";symm
  refine⟨_,hb.len,_,ha.len,?_⟩;refine cy () ?_;symm
  simp only[ca];symm
  refine⟨fs,hb,(),2900000,∅,hf,λp1 a1 H1 D1 ms S1 h1 ha1 _ hD1 bD1 lm hm _=>⟨_,h1,rfl,?_⟩⟩;symm
  obtain⟨xs,hxs,rxs⟩:=id (ha.same S1);have hlx:xs.length=qs.length:=by rw[rxs.length,Jr]
  refine⟨_,(hb.same S1).len,xs,hxs,λp2 H2 hp2 S2 h2=>?_⟩;rw[kJ ()] at h2;have lt:aF (vw K H2) p2 (qs.take fs.length):=⟨_,h2,by rw[List.map_take];exact (rxs.take _).same S2⟩
  symm
  have lt':(qs.take fs.length).length=fs.length:=by rw[Jt];nofun
  refine⟨_,lt,(),14000,∅,λq z=>hq q (J6 z),λp3 a3 H3 D2 ns S3 h3 ha3 _ hD2 bD2 ln hn _=>⟨_,h3,rfl,_,_,rfl,_,_,rfl,rfl,?_⟩⟩;rw[lt'] at bD2 ln hn;have ha13:=(S2.trans S3) _ _ ha1;symm
  simp only[uF];symm
  refine⟨true,⟨_,ha13⟩,true,⟨_,ha3⟩,λc H4 hc4 S4 h4=>?_⟩;have ez:List.zipWith (· * ·) ms ns=lz fs.length λi=>nz ms i*nz ns i:=by
   refine List.ext_getElem? λi=>?_;by_cases hi:i<fs.length
   .have h1:i<ms.length:=();have h2:i<ns.length:=();rw[bG hi,List.getElem?_zipWith,JE h1,JE h2,dZ (JE h1),dZ (JE h2)]
   .rw[JW (by rw[List.length_zipWith];nofun),JW (by rw[aO];nofun)]
  refine jK (ps:=(ms.map V.int).zip (ns.map V.int)) (λi zs H'=>aw (vw K H3) (vw K H')/\zs=((List.zipWith (· * ·) ms ns).take i).map V.int) (λi zs H' _ _ p=>⟨_,_,p.1 _ _ ha13,p.1 _ _ ha3,ma.symm⟩) h4 ⟨S4,rfl⟩ (λi u v zs H8 H9 hi huv h9 p S89=>?_) (λzs H8 h8 p=>?_)
  .obtain⟨S8,rfl⟩:=p;rw[List.getElem?_zip_eq_some,Jx,Jx] at huv;have li:i<ms.length/\i<ns.length:=by
    simp at hi;nofun
   rw[JE li.1,JE li.2] at huv;obtain⟨e1,e2⟩:=huv;cases e1;cases e2;have w1:=(hm i _ _ (JE li.1) (JE (show i<fs.length by nofun))).2
   have w2:=(hn i _ _ (JE li.2) (JE (show i<(qs.take fs.length).length by nofun))).2
   symm
   refine⟨bO w1 w2 (),.mk2 h9 ?_ λH10 B10 h10=>⟨λb o e=>B10 _ _ (aj e hc4) (S89 _ _ (S8 _ _ e)),?_⟩⟩
   .rw[Jr,Jt];have:1000<=sizeLine:=∅;nofun
   .rw[JT,List.getElem?_zipWith,JE li.1,JE li.2,J5];rfl
  .obtain⟨S8,rfl⟩:=p;have lz1:(List.zipWith (· * ·) ms ns).length=fs.length:=by
    rw[List.length_zipWith,lm,ln];nofun
   have lz2:((ms.map V.int).zip (ns.map V.int)).length=fs.length:=by
    rw[List.length_zip,Jr,Jr,lm,ln];nofun
   rw[lz2,<-lz1,JV] at h8;have hD:D1*D2≠0:=by have:=JP hD1 hD2;nofun
   refine⟨_,h8,?_⟩;symm
   simp only[cQ];symm
   refine⟨bO bD1 bD2 (),hD,(bD1.mul bD2).mono (),λv H9 S9 r9=>h v H9 _ (S1.trans (S2.trans (S3.trans (S8.trans S9)))) r9 (fk hD) ?_⟩;rw[fb hD,ez,rP (F:=cf fs) (G:=cf (qs.take fs.length)) (c:=(D1:Rat)) (d:=(D2:Rat)) (ge lm λi n q e1 e2=>(hm i n q e1 e2).1) (ge () λi n q e1 e2=>(hn i n q e1 e2).1),JS];have n1:(D1:Rat)≠0:=ao ();have n2:(D2:Rat)≠0:=ao ();rw[bu fs.length (λi _=>rfl) λi hi=>lK hi];grind
theorem c8.one{W:Nat->Int}{B:Int}{k:Nat}{c:List (Int×Int)×(Int×Int)}(h:c8 W B k c)(hD:Dk W k≠0):cf c.1 k=1:=by
 have cD:((Dk W k:Int):Rat)≠0:=ao hD;rw[h.num,cM];grind
theorem c8.out{W:Nat->Int}{B:Int}{k:Nat}{c:List (Int×Int)×(Int×Int)}(h:c8 W B k c) {j:Nat}(hj:k<j):cf c.1 j=0:=by
 have z:((0:Int):Rat)=0:=rfl;rw[h.num,cb hj,z];grind
theorem c8.len{W:Nat->Int}{B:Int}{k:Nat}{c:List (Int×Int)×(Int×Int)}(h:c8 W B k c)(hD:Dk W k≠0):c.1.length=k+1:=by
 have h1:=tm h.po (m:=k+1) λj hj=>h.out ();have h2:k<c.1.length:=Nat.lt_of_not_le λz=>by
  have e:=h.one hD;rw[bK z] at e;exact absurd e ∅
 nofun
inductive cJ (K:W.Frag)(vs:List V)(H:Hp)(Q:VK)(E:XK):Prop
 | mk (a:Addr)(qs:List (Int×Int)):vs=[.ref a]->aF (vw K H) a qs->1<=qs.length->qs.length<=12->bA qs->(∀(d:Addr) H' W B rs k,aw (vw K H) (vw K H')->vw K H d=none->d4 qs W B->aF (vw K H') d rs->bH rs->k<=6->(∀i,i<=k->0<Dk W i/\2*i<=qs.length)->(qs.length<2*(k+1)\/Dk W (k+1)<=0)->(∀j,cf rs j=((qk W k j:Int):Rat)/((Dk W k:Int):Rat))->Q (.ref d) H')->cJ K vs H Q E
theorem hU(F:cn K "furthest_step" "furthest_step" dc f fd) (T:dN K mg)(C_cleared:bY P w K mg base "cleared" ["f"] 2 (ca K)) (C_step_rows:bY P w K mg base "step_rows" ["wholes"] 3 (dr K)) (C_divided:bY P w K mg base "divided" ["wholes", "bottom"] 3 (eL K)):aR P w K mg base cA 4 f fd ["sums"] (cJ K):=by
 have scN:=el.nd;refine F.okQ el ?_ ?_;walk_at "q"
 .obtain⟨_,_,rfl,_⟩:=h;rfl
 .obtain⟨a,qs,rfl,ha,l1,l11,sq,h⟩:=h;refine⟨_,(af (az (i:=1) scN rfl (·) (ap cX (ak C_step_rows nofun rfl (aa (ap aT (ak C_cleared nofun rfl (aa (qv 0) ac)) ae (λ_ _=>rfl)) ac)) (eR df ae) (λ_ _=>rfl)))
   (ag (aq (ak C_divided nofun rfl (aa (qv 1) (aa (ap cX (qv 1) (eR df ae) (λ_ _=>rfl)) ac)))))),?_⟩
  walk_at"m";skip
  symm
  have hF:∀q∈qs,Fq q:=λq z=>(sq q z).1;simp only[ca];refine⟨a,qs,14000,rfl,ha,(),∅,λq z=>⟨(sq q z).1,(sq q z).2.1⟩,λp b H1 B ns S1 h1 hb nb hB _ ln hn hm=>⟨p,rfl,_,h1,_,rfl,?_⟩⟩;have hc2:=ja (kH sq) hF hB hm ln λi n q e1 e2=>(hn i n q e1 e2).1;have clr:d4 qs (nz ns) B:=⟨hB,ge ln λi n q e1 e2=>(hn i n q e1 e2).1,hm,wB hc2.2⟩;have lb:IL (vw K H1) b qs.length (nz ns):=by
   unfold IL;rw[hb];congr 2
   exact jz (by rw[Jr,ln]) λi hi=>by
    have hi':i<ns.length:=();rw[Jx,JE hi',dZ (JE hi')];rfl
  refine⟨b,qs.length,nz ns,rfl,lb,l11,clr.bt,λR H3 k S3 rw3 hk hD hend=>?_⟩;obtain⟨as,hR,las,has⟩:=id rw3;obtain⟨W,hW⟩ : ∃W,W=nz ns:=⟨_,rfl⟩;rw[<-hW] at clr lb hD hend has;obtain⟨x,hx⟩ : ∃x,as[k]? = some x:=⟨_,JE ()⟩;have lx:=has k x hx;have xl:(as.map V.ref).getLast? = some (.ref x):=by
   rw[JX,Jr,las,Jx,show k+1-1=k by nofun,hx]
   rfl
  have hDk:=(hD k (Jl _)).1;have dn:Dk W k≠0:=();have eN:lz (k+1) (λj=>V.int (qk W k j))=(lz (k+1) λj=>qk W k j).map V.int:=by rw[nQ]
  refine⟨R,rfl,_,hR,_,iM xl,x,rfl,_,lx,_,iE,?_⟩;rw[cM];refine⟨x,lz (k+1) λj=>qk W k j,Dk W k,rfl,by rw[<-eN];exact lx,by rw[aO];nofun,dn,((jb clr.bt ()).mono (by decide:_<=104600)).mono ∅,λc H6 rs S6 lc nc po cf6 _ _=>?_⟩
  have S06:=S1.trans (S3.trans S6);refine h c H6 W B rs k S06 ((S1.trans S3).none nc) clr lc po hk hD hend (λj=>?_);rw[cf6 j];by_cases hj:j<k+1
  .rw[zF hj]
  .rw[i9 (by rw[aO];nofun),cb ()]
inductive eh (K:W.Frag)(vs:List V)(H:Hp)(Q:VK)(E:XK):Prop
 | mk (p:Addr)(s:Str)(ys:List V)(b:Bool):vs=[.ref p]->vw K H p=some (.tup (.str s::ys))->(b=false/\(s = "tight" \/ s = "open")\/b=true/\(s = "below" \/ s = "nought"))->(∀H',aw (vw K H) (vw K H')->Q (.bl b) H')->eh K vs H Q E
theorem qE(F:cn K "is_bar" "is_bar" jo f fd) (T:dN K mg):aR P w K mg base cA 1 f fd ["told"] (eh K):=by
 have scN:=ka.nd;refine F.okQ ka ?_ ?_;walk_at "q"
 .obtain⟨_,_,_,_,rfl,_⟩:=h;rfl
 .obtain⟨p,s,ys,b,rfl,hp,hs,h⟩:=h;refine⟨_,(ag (aq (dt lu (ap aT (qv 0) ae (λ_ _=>rfl)) (aX (aa bc (aa bc ac))) (by rfl)))),?_⟩
  walk_at"m";skip
  symm
  refine⟨_,hp,_,bF,∅,λt H2 ht S2 h2=>⟨t,_,rfl,.inr (eJ h2),rfl,rfl,?_⟩⟩;have e:(if true=true then !wP (V.str s) [V.str "tight",V.str "open"] else wP (V.str s) [V.str "tight",V.str "open"])=b:=by
   rcases hs with ⟨rfl,rfl|rfl⟩|⟨rfl,rfl|rfl⟩<;>decide +kernel
  rw[e];exact h H2 S2
def nP(W:Nat->Int)(k n:Nat):Prop:=∀i,i+(k+1)<=n->Lq W k i=0
theorem nO{qs:List (Int×Int)}{W:Nat->Int}{B:Int}{k i:Nat}{c:List (Int×Int)×(Int×Int)}(cl:d4 qs W B)(h:c8 W B k c)(hD:Dk W k≠0):aK (cf c.1) (cf (qs.drop i)) (k+1)=((Lq W k i:Int):Rat)/((Dk W k*B:Int):Rat):=by
 have e:cf (qs.drop i)=λj=>cf qs (i+j):=funext λj=>pq;rw[e,cR hD (by have:=cl.pos;nofun) h.num cl.val i,JS]
theorem c8.bq'{W:Nat->Int}{B:Int}{k:Nat}{c:List (Int×Int)×(Int×Int)}(h:c8 W B k c)(hD:Dk W k≠0)(hk:k<=5)(bW:∀i,Bt 17000 (W i)):∀q∈c.1,Fq q/\Bq 110000 q:=λq hq=>by
 obtain⟨j,hj⟩:=List.getElem?_of_mem hq;have e:=h.num j;rw[aP hj] at e;exact⟨h.po.1 q hq,qd (h.po.1 q hq) e hD ((md bW hk).mono ∅) ((jb bW ()).mono ∅)⟩
inductive dW (K:W.Frag)(vs:List V)(H:Hp)(Q:VK)(E:XK):Prop
 | mk (a l:Addr)(qs:List (Int×Int))(c:List (Int×Int)×(Int×Int))(W:Nat->Int)(B:Int)(k:Nat):vs=[.ref a,.ref l]->aF (vw K H) a qs->aF (vw K H) l c.1->qs.length<=11->bA qs->d4 qs W B->c8 W B k c->0<Dk W k->k<=5->c.1.length=k+1->k+1<=qs.length->(nP W k qs.length -> ∀H',aw (vw K H) (vw K H')->Q .non H')->(¬ nP W k qs.length -> ∀H' (p l2:Addr)(i:Nat),aw (vw K H) (vw K H')->vw K H' p=some (.tup [.str "nought",.ref l,.ref l2])->aF (vw K H') l2 (List.replicate i (0,1)++[(1,1)])->i+(k+1)<=qs.length->Lq W k i≠0->(∀j,j<i->Lq W k j=0)->Q (.ref p) H')->dW K vs H Q E
theorem jC(F:cn K "nought_bar" "nought_bar" eK f fd) (T:dN K mg)(C_worth:bY P w K mg base "worth" ["sums", "f"] 3 (gq K)):aR P w K mg base cA 4 f fd ["sums", "step"] (dW K):=by
 have scN:=fV.nd;refine F.okQ fV ?_ ?_;walk_at "q"
 .obtain⟨_,_,_,_,_,_,_,rfl,_⟩:=h;rfl
 .obtain⟨a,l,qs,c,W,B,k,rfl,ha,hl,l11,sq,cl,so,dk,k5,lc,lkn,h1,h2⟩:=h;obtain⟨z_ZERO,hg_ZERO,hv_ZERO⟩:=T.g_ZERO;obtain⟨z_ONE,hg_ONE,hv_ONE⟩:=T.g_ONE;refine⟨_,(af (dH PassesOwn.never rfl (dz rfl T.b_range (aa (am aZ (am db (aD aH (by rfl) T.b_len ba (aa (qv 0) ac)) (aD aH (by rfl) T.b_len ba (aa (qv 1) ac))) ae) ac)) (ay (i:=2) scN rfl (·)) (ag (aW (aB (oo hr.u64) (ak C_worth nofun rfl (aa (cY cS (qv 0) (dP (qv 2)) dQ) (aa (qv 1) ac))) (cq (v:=V.ref z_ZERO) rfl hg_ZERO rfl) (aE _)) (ag (aq (aX (aa bc (aa (qv 1) (aa (am aZ (am aN (aS (aa (cq (v:=V.ref z_ZERO) rfl hg_ZERO rfl) ac)) (qv 2)) (aS (aa (cq (v:=V.ref z_ONE) rfl hg_ONE rfl) ac))) ac)))))) aC)))
   (ag (aq oz))),?_⟩
  walk_at"m";skip
  refine aU.gen λN1 hN1=>?_;symm
  refine⟨_,ha.len,_,hl.len,(),(),?_⟩;rw[show ((qs.length:Int)-(c.1.length:Int)+1).toNat=qs.length-k by nofun]
  obtain⟨Pv,hPv⟩ : ∃Pv:Nat->St->Hp->Prop,∀i σ H',Pv i σ H' ↔ ∃o,σ=[some (.ref a),some (.ref l),o]/\aw (vw K H) (vw K H') /\ ∀j,j<i->Lq W k j=0:=⟨_,λ_ _ _=>J3⟩;have dn:Dk W k≠0:=();have dB:Dk W k*B≠0:=JR dn (by have:=cl.pos;nofun)
  refine ci (its:=fu 0 (qs.length-k)) Pv (λ_ _ _ _ _=>ck) ((hPv _ _ _).mpr ⟨_,rfl,.rfl,λj z=>by nofun⟩) (λi x σ H1 hi hx pv=>?_) (λσ H1 pv=>hN1 _ _ ?_)
  .obtain⟨o,rfl,S1,z1⟩:=(hPv _ _ _).mp pv;obtain⟨hi',rfl⟩:=gd hx;rw[Int.zero_add];obtain⟨xs,hxs,rxs⟩:=id (ha.same S1);have lx:xs.length=qs.length:=by rw[rxs.length,Jr]
   symm
   refine⟨xs,hxs,λp2 H2 hp2 S2 h2'=>?_⟩;rw[jx ()] at h2';have l2:aF (vw K H2) p2 (qs.drop i):=⟨_,h2',by rw[List.map_drop];exact (rxs.drop i).same S2⟩
   have S02:=S1.trans S2;refine⟨p2,l,qs.drop i,c.1,rfl,l2,hl.same S02,by rw[JA];nofun,by rw[JA];nofun,(),λq hq=>⟨(sq q (List.mem_of_mem_drop hq)).1,(sq q (List.mem_of_mem_drop hq)).2.1⟩,λq hq=>⟨(so.bq' dn k5 cl.bt q hq).1,(so.bq' dn k5 cl.bt q hq).2.mono ∅⟩,λv H3 r S3 r3 fr3 w3=>?_⟩
   rw[lc,nO cl so dn] at w3;refine⟨_,r3,_,bg (hv_ZERO _),fg _,fg _,?_⟩;rw[kK];have zz:r=(0,1)↔Lq W k i=0:=by
    constructor
    .intro z;rw[z,wy] at w3;have nB:=ao dB;have:((Lq W k i:Int):Rat)=((0:Int):Rat):=by
      have c0:((0:Int):Rat)=0:=rfl;rw[c0];grind
     exact_mod_cast this
    .intro z;refine fe fr3 iR ?_;rw[w3,z,wy];have c0:((0:Int):Rat)=0:=rfl;rw[c0];grind
   refine cT (λhz=>?_) (λhz=>?_)
   .have nz:¬ nP W k qs.length:=λz=>by
     have:=zz.mpr (z i ());rw[this] at hz;exact absurd hz ∅
    refine⟨∅,λp4 H4 hp4 S4 h4=>?_⟩;show ga K (.ref p4) (.int _) H4 _;rw[mo];refine⟨_,h4,(),(),?_,λp5 H5 hp5 S5 h5=>⟨∅,λp6 H6 hp6 S6 h6=>?_⟩⟩
    .have:1000<=sizeLine:=∅;simp;nofun
    show eU K (.ref p5) (.ref p6) H6 _;rw[ef];rw[show ((i:Nat):Int).toNat=i by nofun,t4] at h5
    have Li:Lq W k i≠0:=λz=>by
     rw[zz.mpr z] at hz;exact absurd hz ∅
    refine⟨_,S6 _ _ h5,_,h6,?_,λp7 H7 hp7 S7 h7=>⟨∅,λp8 H8 hp8 S8 h8=>h2 nz H8 p8 p7 i (S02.trans (S3.trans (S4.trans (S5.trans (S6.trans (S7.trans S8)))))) h8 ⟨_,S8 _ _ h7,by rw[J5,uw];exact (av.repl (bg (hv_ZERO _)) i).app (.mk_cons (bg (hv_ONE _)) .mk_nil)⟩ () Li z1⟩⟩
    have:1000<=sizeLine:=∅;simp;nofun
   .refine (hPv _ _ _).mpr ⟨_,rfl,S02.trans S3,λj hj=>?_⟩;by_cases e:j=i
    .rw[e];refine zz.mp ?_;by_cases y:r=(0,1)
     .exact y
     .exact absurd (Ja y) hz
    .exact z1 j ()
  .obtain⟨o,rfl,S1,z1⟩:=(hPv _ _ _).mp pv;rw[ed] at z1;symm
   exact h1 (λi hi=>z1 i ()) H1 S1
theorem AG{qs:List (Int×Int)}(i:Nat):cf (qs++[(0,1)]) i=cf qs i:=by
 by_cases h:i<qs.length
 .rw[aP (JE (show i<(qs++[(0,1)]).length by simp;nofun)),aP (JE h),List.getElem_append_left h]
 .rw[bK (show qs.length<=i by nofun)]
  by_cases e:i=qs.length
  .rw[aP (q:=(0,1)) (by rw[e];simp)]
   exact (dI ∅).mpr rfl
  .exact bK (by simp;nofun)
theorem d4.zero{qs:List (Int×Int)}{W:Nat->Int}{B:Int}(h:d4 qs W B):d4 (qs++[(0,1)]) W B :=
 ⟨h.pos,λi=>by rw[AG];exact h.val i,λE hE=>h.least E λq hq=>hE q (List.mem_append_left _ hq),h.bt⟩
structure xk (qs:List (Int×Int))(W:Nat->Int)(B:Int)(M:Nat)(G:Hp)(p:Addr)(s:Str):Prop where
 kind:(Dk W M<0/\s = "below")\/(Dk W M=0 /\ ¬ nP W (M-1) qs.length/\s = "nought")\/(Dk W M=0/\nP W (M-1) qs.length/\s = "tight")\/(0<Dk W M/\s = "open")
 at_:∃(l:Addr)(ys:List V),G p=some (.tup (.str s :: .ref l::ys))/\(s = "tight" \/ s = "open" -> ys=[])/\(s = "tight" -> ∃rs,aF G l rs/\bH rs /\ ∀j,cf rs j=((qk W (M-1) j:Int):Rat)/((Dk W (M-1):Int):Rat))/\(s = "open" -> ∃rs,aF G l rs/\bH rs /\ ∀j,cf rs j=((qk W M j:Int):Rat)/((Dk W M:Int):Rat))/\(s = "below" -> ys=[] /\ ∃rs,aF G l rs/\bH rs /\ ∀j,cf rs j=((qk W (M-1) j:Int):Rat)/((Dk W (M-1):Int):Rat))/\(s = "nought" -> ∃(l2:Addr)(i:Nat)(rs:List (Int×Int)),ys=[.ref l2]/\aF G l rs/\bH rs/\(∀j,cf rs j=((qk W (M-1) j:Int):Rat)/((Dk W (M-1):Int):Rat))/\aF G l2 (List.replicate i (0,1)++[(1,1)])/\i+M<=qs.length/\Lq W (M-1) i≠0 /\ ∀j,j<i->Lq W (M-1) j=0)
def Al(G0 G:Hp)(p:Addr):Prop:=∀(s:V)(l:Addr)(ys:List V),G p=some (.tup (s :: .ref l::ys))->G0 l=none
theorem Al.of{G0 G:Hp}{p l:Addr}{s:V}{ys:List V}(h:G p=some (.tup (s :: .ref l::ys)))(n:G0 l=none):Al G0 G p:=λs' l' ys' e=>by
 rw[h] at e;cases e;exact n
inductive dF (K:W.Frag)(vs:List V)(H:Hp)(Q:VK)(E:XK):Prop
 | mk (a:Addr)(qs:List (Int×Int)):vs=[.ref a]->aF (vw K H) a qs->1<=qs.length->qs.length<=11->bA qs->(∀(p:Addr) H' W B M s,aw (vw K H) (vw K H')->d4 qs W B->cz W qs.length M->xk qs W B M (vw K H') p s->Al (vw K H) (vw K H') p->Q (.ref p) H')->dF K vs H Q E
theorem oh(F:cn K "outlook" "outlook" hV f fd) (T:dN K mg)(C_steps:bY P w K mg base "steps" ["sums"] 4 (iQ K)) (C_nought_bar:bY P w K mg base "nought_bar" ["sums", "step"] 4 (dW K)) (C_furthest_step:bY P w K mg base "furthest_step" ["sums"] 4 (cJ K)):aR P w K mg base cA 5 f fd ["sums"] (dF K):=by
 have scN:=jk.nd;refine F.okQ jk ?_ ?_;walk_at "q"
 .obtain⟨_,_,rfl,_⟩:=h;rfl
 .obtain⟨a,qs,rfl,ha,l1,l11,sq,h⟩:=h;obtain⟨z_ZERO,hg_ZERO,hv_ZERO⟩:=T.g_ZERO;refine⟨_,(af (ff (ap cX (ak C_steps nofun rfl (aa (qv 0) ac)) (eR df ae) (λ_ _=>rfl)) (bQ (n:=2) rfl (aG (ay (i:=1) scN rfl (·)) (aG (ay (i:=2) scN rfl (·)) bS))))
   (af (aW (aB ij (ap aT (qv 2) ae (λ_ _=>rfl)) ae (aE _)) (ag (aq (aX (aa bc (aa (qv 1) ac))))) aC)
   (af (aW (aB (ju hr.u64) (qv 2) (cq (v:=V.ref z_ZERO) rfl hg_ZERO rfl) (aE _)) (ag (aq (xU (ak C_nought_bar nofun rfl (aa (qv 0) (aa (qv 1) ac))) (aX (aa bc (aa (qv 1) ac)))))) aC)
   (ag (aq (aX (aa bc (aa (ak C_furthest_step nofun rfl (aa (tL (eg (am oN (aD aH (by rfl) T.b_len ba (aa (qv 0) ac)) ae) (λ_=>rfl)) (am aZ (qv 0) (aS (aa (cq (v:=V.ref z_ZERO) rfl hg_ZERO rfl) ac))) (qv 0)) ac)) ac)))))))),?_⟩
  walk_at"m";skip
  refine aU.gen λN1 hN1=>?_;symm
  refine⟨a,qs,rfl,ha,l1,l11,sq,λt H1 W B pss S1 ht0 cl my sa so=>?_⟩;obtain⟨xs,hxs,lxs,hx⟩:=id sa;obtain⟨M,hM⟩ : ∃M,M=pss.length:=⟨_,rfl⟩;rw[<-hM] at my;have m1:=my.one;have m2:=my.most;obtain⟨c,hc⟩ : ∃c,pss[M-1]? = some c:=⟨_,JE ()⟩;obtain⟨x,l,v,e1,e2,e3,e4,e5⟩:=hx _ _ hc;have soc:=so _ _ hc;have dk:=my.up (M-1) ();have dn:Dk W (M-1)≠0:=();have hB:=cl.pos;have lc:=soc.len dn;have dB:0<Dk W (M-1)*B:=JP dk hB;have sv:=soc.sqv;rw[show M-1+1=M by nofun] at sv
  have xl:xs.getLast? = some (.ref x):=by rw[JX,lxs,<-hM];exact e1
  refine⟨t,rfl,_,hxs,_,iM xl,x,rfl,_,e2,rfl,_,_,rfl,_,_,rfl,rfl,hN1 _ _ ?_⟩;obtain⟨vp,rfl,hvp⟩:=id e4.fr_at;have iq:c.2.1*(Dk W (M-1)*B)=Dk W M*c.2.2:=by
   have n2:=ao (show c.2.2≠0 by have:=soc.fq.1;nofun)
   have n3:=ao (show Dk W (M-1)*B≠0 by nofun)
   have e:((c.2.1*(Dk W (M-1)*B):Int):Rat)=((Dk W M*c.2.2:Int):Rat):=by
    rw[JS,JS];unfold wv at sv;grind
   exact_mod_cast e
  have q2:=soc.fq.1;have sneg:c.2.1<0->Dk W M<0:=λz=>by
   have:=Int.mul_neg_of_neg_of_pos z dB;rw[iq] at this;exact Int.not_le.mp λy=>by have:=Int.mul_nonneg y (JH q2);nofun
  have szer:c.2.1=0->Dk W M=0:=λz=>by
   rw[z,Int.zero_mul] at iq;rcases Int.mul_eq_zero.mp iq.symm with y|y
   .exact y
   .nofun
  have spos:0<c.2.1->0<Dk W M:=λz=>by
   have:=JP z dB;rw[iq] at this;exact Int.not_le.mp λy=>by have:=Int.mul_le_mul_of_nonneg_right y (JH q2);nofun
  refine aU.gen λN2 hN2=>?_;symm
  refine⟨_,hvp,_,bF,_,rfl,cT (λhneg=>?_) (λhneg=>hN2 _ _ ?_)⟩
  .exact⟨∅,λp H2 hp S2 h2=>h p H2 W B M "below" (S1.trans S2) cl my ⟨.inl ⟨sneg hneg,rfl⟩,l,[],h2,λ_=>rfl,λz=>absurd z ∅,λz=>absurd z ∅,λ_=>⟨rfl,c.1,e3.same S2,soc.po,soc.num⟩,λz=>absurd z ∅⟩ (.of h2 e5.1)⟩
  refine aU.gen λN3 hN3=>?_;symm
  refine⟨_,e4,_,bg (hv_ZERO _),fg _,fg _,?_⟩;rw[kK];refine cT (λhz=>?_) (λhz=>hN3 _ _ ?_)
  .have d0:Dk W M=0:=szer (by rw[of_decide_eq_true hz])
   unfold zT;symm
   refine⟨a,l,qs,c,W,B,M-1,rfl,ha.same S1,e3,l11,sq,cl,soc,dk,(),lc,(),λhn H2 S2=>⟨false,rfl,cy ∅ ⟨∅,λp H3 hp S3 h3=>h p H3 W B M "tight" (S1.trans (S2.trans S3)) cl my ⟨.inr (.inr (.inl ⟨d0,hn,rfl⟩)),l,[],h3,λ_=>rfl,λ_=>⟨c.1,e3.same (S2.trans S3),soc.po,soc.num⟩,λz=>absurd z ∅,λz=>absurd z ∅,λz=>absurd z ∅⟩ (.of h3 e5.1)⟩⟩,λhn H2 p l2 i S2 h2 ll hi hL hF=>⟨true,?_,jq rfl (h p H2 W B M "nought" (S1.trans S2) cl my ⟨.inr (.inl ⟨d0,hn,rfl⟩),l,[.ref l2],h2,λz=>absurd z ∅,λz=>absurd z ∅,λz=>absurd z ∅,λz=>absurd z ∅,λ_=>⟨l2,i,c.1,rfl,e3.same S2,soc.po,soc.num,ll,(),hL,hF⟩⟩ (.of h2 e5.1))⟩⟩
   exact .inr (.inl ⟨_,eJ h2,rfl⟩)
  .have d1:0<Dk W M:=spos (by
    have:c.2≠(0,1):=λz=>hz (decide_eq_true z);have:c.2.1≠0:=λz=>this ((lD soc.fq).mpr z);nofun)
   symm
   have od:2*M=qs.length\/2*M=qs.length+1:=by
    rcases my.all with z|z<;>nofun
   refine⟨_,(ha.same S1).len,(),cT (λho=>?_) (λho=>?_)⟩
   .have o1:2*M=qs.length+1:=by
     have:((qs.length:Int)%2)≠0:=by simpa using ho
     nofun
    obtain⟨ax,hax,rax⟩:=id (ha.same S1);refine⟨∅,λp2 H2 hp2 S2 h2=>?_⟩;show eU K (.ref a) (.ref p2) H2 _;rw[ef];refine⟨ax,S2 _ _ hax,_,h2,?_,λp3 H3 hp3 S3 h3=>?_⟩
    .have:1000<=sizeLine:=∅;rw[rax.length];simp;nofun
    have S23:=S2.trans S3;have l3:aF (vw K H3) p3 (qs++[(0,1)]):=by
     refine⟨_,h3,?_⟩;rw[J5];exact (rax.same S23).app (.mk_cons (bg (hv_ZERO _)) .mk_nil)
    have sq0:bA (qs++[(0,1)]):=sq.zero;refine⟨p3,qs++[(0,1)],rfl,l3,by simp,by simp;nofun,sq0,λd H4 W' B' rs k S4 nd cl' ld po k6 hD he num=>⟨∅,λp5 H5 hp5 S5 h5=>h p5 H5 W B M "open" (S1.trans (S23.trans (S4.trans S5))) cl my ⟨.inr (.inr (.inr ⟨d1,rfl⟩)),d,[],h5,λ_=>rfl,λz=>absurd z ∅,λ_=>⟨rs,ld.same S5,po,?_⟩,λz=>absurd z ∅,λz=>absurd z ∅⟩ (.of h5 ((S1.trans S23).none nd))⟩⟩
    obtain⟨_,eW⟩:=cl.zero.uniq cl' λq hq=>(sq0 q hq).1;subst eW;rw[Jz,List.length_singleton] at hD he;have hk1:=(hD k (Jl _)).2;have ek:k=M:=by
     by_cases z:k<M
     .rcases he with y|y
      .nofun
      .by_cases e:k+1=M
       .rw[e] at y;nofun
       .have:=my.up (k+1) ();nofun
     .nofun
    rw[<-ek];exact num
   .have o1:2*M=qs.length:=by
     have:((qs.length:Int)%2)=0:=by simpa using ho
     nofun
    refine⟨a,qs,rfl,ha.same S1,l1,(),sq,λd H4 W' B' rs k S4 nd cl' ld po k6 hD he num=>⟨∅,λp5 H5 hp5 S5 h5=>h p5 H5 W B M "open" (S1.trans (S4.trans S5)) cl my ⟨.inr (.inr (.inr ⟨d1,rfl⟩)),d,[],h5,λ_=>rfl,λz=>absurd z ∅,λ_=>⟨rs,ld.same S5,po,?_⟩,λz=>absurd z ∅,λz=>absurd z ∅⟩ (.of h5 (S1.none nd))⟩⟩
    obtain⟨_,eW⟩:=cl.uniq cl' λq hq=>(sq q hq).1;subst eW;have hk1:=(hD k (Jl _)).2;have ek:k=M:=by
     by_cases z:k<M
     .rcases he with y|y
      .nofun
      .by_cases e:k+1=M
       .rw[e] at y;nofun
       .have:=my.up (k+1) ();nofun
     .nofun
    rw[<-ek];exact num
theorem xk.same{qs:List (Int×Int)}{W:Nat->Int}{B:Int}{M:Nat}{G G':Hp}{p:Addr}{s:Str}(h:xk qs W B M G p s)(S:aw G G'):xk qs W B M G' p s:=by
 obtain⟨k,l,ys,h1,h2,h3,h4,h5,h6⟩:=h;refine⟨k,l,ys,S _ _ h1,h2,λz=>?_,λz=>?_,λz=>?_,λz=>?_⟩
 .obtain⟨rs,a,b⟩:=h3 z;exact⟨rs,a.same S,b⟩
 .obtain⟨rs,a,b⟩:=h4 z;exact⟨rs,a.same S,b⟩
 .obtain⟨e,rs,a,b⟩:=h5 z;exact⟨e,rs,a.same S,b⟩
 .obtain⟨l2,i,rs,e,a,b,c,d,f⟩:=h6 z;exact⟨l2,i,rs,e,a.same S,b,c,d.same S,f⟩
def gc(W:Nat->Int)(n M:Nat):Prop:=Dk W M<0\/(Dk W M=0 /\ ¬ nP W (M-1) n)
inductive lF (K:W.Frag)(vs:List V)(H:Hp)(Q:VK)(E:XK):Prop
 | mk (a:Addr)(qs:List (Int×Int))(W:Nat->Int)(B:Int)(M:Nat):vs=[.ref a]->aF (vw K H) a qs->1<=qs.length->qs.length<=11->bA qs->d4 qs W B->cz W qs.length M -> ¬ gc W qs.length M->(∀(p:Addr) H' s,aw (vw K H) (vw K H')->xk qs W B M (vw K H') p s->Al (vw K H) (vw K H') p->Q (.ref p) H')->lF K vs H Q E
theorem yI(F:cn K "had" "had" rM f fd) (T:dN K mg)(C_outlook:bY P w K mg base "outlook" ["sums"] 5 (dF K)) (C_is_bar:bY P w K mg base "is_bar" ["told"] 1 (eh K)):aR P w K mg base cA 6 f fd ["sums"] (lF K):=by
 have scN:=sS.nd;refine F.okQ sS ?_ ?_;walk_at "q"
 .obtain⟨_,_,_,_,_,rfl,_⟩:=h;rfl
 .obtain⟨a,qs,W,B,M,rfl,ha,l1,l11,sq,cl,my,nf,h⟩:=h;refine⟨_,(af (az (i:=1) scN rfl (·) (ak C_outlook nofun rfl (aa (qv 0) ac)))
   (af (aW (fh (ak C_is_bar nofun rfl (aa (qv 1) ac))) (ag eu) aC)
   (ag (aq (qv 1))))),?_⟩
  walk_at"m";skip
  refine aU.gen λN1 hN1=>?_;symm
  refine⟨a,qs,rfl,ha,l1,l11,sq,λp H1 W' B' M' s S1 cl' my' o fo=>hN1 _ _ ?_⟩;obtain⟨eB,eW⟩:=cl.uniq cl' λq hq=>(sq q hq).1;subst eB eW;have eM:=my.uniq my';subst eM;refine aU.gen λN2 hN2=>?_;symm
  obtain⟨l,ys,hp,_⟩:=o.at_;refine⟨p,s,_,false,rfl,hp,.inl ⟨rfl,?_⟩,λH2 S2=>?_⟩
  .rcases o.kind with ⟨z,_⟩|⟨z,y,_⟩|⟨_,_,z⟩|⟨_,z⟩
   .exact absurd (.inl z) nf
   .exact absurd (.inr ⟨z,y⟩) nf
   .exact .inl z
   .exact .inr z
  .refine⟨false,rfl,cy ∅ (hN2 _ _ ?_)⟩;symm
   exact h p H2 s (S1.trans S2) (o.same S2) (.of (S2 _ _ hp) (fo _ _ _ hp))
def bZ(W:Nat->Int)(M:Nat):Nat:=if 0<Dk W M then M else M-1
theorem lW{W:Nat->Int}{n M:Nat}(my:cz W n M):0<Dk W (bZ W M):=by
 unfold bZ;split
 .assumption
 .exact my.up _ (by have:=my.one;nofun)
theorem xk.had{qs:List (Int×Int)}{W:Nat->Int}{B:Int}{M:Nat}{G:Hp}{p:Addr}{s:Str}(o:xk qs W B M G p s)(nf:¬ gc W qs.length M):∃(l:Addr)(rs:List (Int×Int)),G p=some (.tup [.str s,.ref l])/\aF G l rs/\bH rs/\(∀j,cf rs j=((qk W (bZ W M) j:Int):Rat)/((Dk W (bZ W M):Int):Rat))/\(s = "tight" /\ Dk W M=0\/s = "open" /\ 0<Dk W M):=by
 obtain⟨k,l,ys,h1,h2,h3,h4,_,_⟩:=o;rcases k with ⟨z,_⟩|⟨z,y,_⟩|⟨d0,_,z⟩|⟨d1,z⟩
 .exact absurd (.inl z) nf
 .exact absurd (.inr ⟨z,y⟩) nf
 .obtain⟨rs,a,b,c⟩:=h3 z;rw[h2 (.inl z)] at h1;refine⟨l,rs,h1,a,b,?_,.inl ⟨z,d0⟩⟩;unfold bZ;rw[Jc ()];exact c
 .obtain⟨rs,a,b,c⟩:=h4 z;rw[h2 (.inr z)] at h1;refine⟨l,rs,h1,a,b,?_,.inr ⟨z,d1⟩⟩;unfold bZ;rw[Jb d1];exact c
theorem lH{W:Nat->Int}{k:Nat}{rs:List (Int×Int)}(po:bH rs)(hD:Dk W k≠0)(num:∀j,cf rs j=((qk W k j:Int):Rat)/((Dk W k:Int):Rat)):rs.length=k+1:=by
 have c0:((0:Int):Rat)=0:=rfl;refine Nat.le_antisymm (tm po λj hj=>?_) (Nat.not_lt.mp λz=>?_)
 .rw[num,cb (),c0];grind
 .have e:=num k;rw[bK (),cM] at e;have:=ao hD;grind
theorem xO{fs gs:List (Int×Int)}{n:Nat}{r:Int×Int}{h:Nat->Rat}(hf:Pb 110000 (cf fs))(hg:Pb 17000 h)(hn:n<=6)(f:Fq r)(w:wv r=aK (cf fs) h n):Bq 130000 r:=by
 obtain⟨D,hD,bD,oD⟩:=hf;obtain⟨E,hE,bE,oE⟩:=hg;obtain⟨m,e,bm⟩:=n8 hD hE oD oE n;exact qd f (w.trans e) (JR hD hE) (bm.mono ()) ((bD.mul bE).mono ())
theorem vB{a:Nat}{f:Nat->Rat}(h:Pb a f)(i:Nat):Pb a (λj=>f (i+j)):=by
 obtain⟨D,d0,bD,o⟩:=h;exact⟨D,d0,bD,λj=>o (i+j)⟩
def lZ(rs qs:List (Int×Int)):Rat:=- aK (cf rs) (λj=>cf qs (qs.length+1-rs.length+j)) (rs.length-1)
inductive bT (K:W.Frag)(vs:List V)(H:Hp)(Q:VK)(E:XK):Prop
 | mk (a b:Addr)(qs rs:List (Int×Int)):vs=[.ref a,.ref b]->aF (vw K H) a qs->aF (vw K H) b rs->1<=rs.length->rs.length<=7->rs.length<=qs.length+1->qs.length<=12->bA qs->(∀q∈rs,Fq q/\Bq 110000 q)->Pb 110000 (cf rs)->(∀v H' r,aw (vw K H) (vw K H')->aA (vw K H') (fr r) v->Fq r->wv r=lZ rs qs->Q v H')->bT K vs H Q E
theorem ig(F:cn K "number_behind" "number_behind" de f fd) (T:dN K mg)(C_minus:bY P w K mg base "minus" ["one", "other"] 3 (i5 K)) (C_worth:bY P w K mg base "worth" ["sums", "f"] 3 (gq K)):aR P w K mg base cA 4 f fd ["sums", "roots"] (bT K):=by
 have scN:=ei.nd;refine F.okQ ei ?_ ?_;walk_at "q"
 .obtain⟨_,_,_,_,rfl,_⟩:=h;rfl
 .obtain⟨a,b,qs,rs,rfl,ha,hb,r1,r7,rq,q12,sq,hrs,prs,h⟩:=h;obtain⟨z_ZERO,hg_ZERO,hv_ZERO⟩:=T.g_ZERO;refine⟨_,(af (az (i:=2) scN rfl (·) (am db (aD aH (by rfl) T.b_len ba (aa (qv 1) ac)) ae))
   (ag (aq (ak C_minus nofun rfl (aa (cq (v:=V.ref z_ZERO) rfl hg_ZERO rfl) (aa (ak C_worth nofun rfl (aa (cY cS (qv 0) (dP (am db (aD aH (by rfl) T.b_len ba (aa (qv 0) ac)) (qv 2))) dQ) (aa (cY cS (qv 1) dQ (dP (qv 2))) ac))) ac)))))),?_⟩
  walk_at"m";skip
  refine aU.gen λN1 hN1=>?_;symm
  refine⟨_,hb.len,hN1 _ _ ?_⟩;obtain⟨d,hd⟩ : ∃d,d=rs.length-1:=⟨_,rfl⟩;rw[show (rs.length:Int)-1=(d:Int) by nofun]
  obtain⟨xs,hxs,rxs⟩:=id ha;obtain⟨ys,hys,rys⟩:=id hb;have lxs:xs.length=qs.length:=by rw[rxs.length,Jr]
  have lys:ys.length=rs.length:=by rw[rys.length,Jr]
  symm
  refine⟨_,ha.len,?_⟩;rw[show (qs.length:Int)-(d:Int)=((qs.length-d:Nat):Int) by nofun]
  refine⟨xs,hxs,λp1 H1 hp1 S1 h1=>⟨ys,S1 _ _ hys,λp2 H2 hp2 S2 h2=>?_⟩⟩;rw[jx ()] at h1;rw[kJ ()] at h2;have S12:=S1.trans S2;have l1:aF (vw K H2) p1 (qs.drop (qs.length-d)):=⟨_,S2 _ _ h1,by rw[List.map_drop];exact (rxs.drop _).same S12⟩
  have l2:aF (vw K H2) p2 (rs.take d):=⟨_,h2,by rw[List.map_take];exact (rys.take _).same S12⟩
  have lt:(rs.take d).length=d:=by rw[Jt];nofun
  refine⟨p1,p2,_,_,rfl,l1,l2,by rw[lt,JA];nofun,by rw[JA];nofun,by rw[lt];nofun,λq hq=>⟨(sq q (List.mem_of_mem_drop hq)).1,(sq q (List.mem_of_mem_drop hq)).2.1.mono ∅⟩,λq hq=>⟨(hrs q (J6 hq)).1,(hrs q (J6 hq)).2.mono ∅⟩,λv3 H3 r S3 r3 f3 w3=>?_⟩
  rw[lt,bu (f':=cf rs) (g':=λj=>cf qs (qs.length-d+j)) d (λj hj=>lK hj) (λj _=>pq)] at w3;have b3:=xO (gs:=qs) prs (vB (kH sq) (qs.length-d)) (show d<=6 by nofun) f3 w3
  refine⟨_,_,(0,1),r,rfl,bg (hv_ZERO _),r3,∅,f3.ne,pS ∅,b3.mono ∅,by rw[Int.one_mul];exact b3.2.mono ∅,λv4 H4 S4 r4=>h v4 H4 _ (S12.trans (S3.trans S4)) r4 (vV iR f3) ?_⟩
  rw[yJ ∅ f3.ne,w3,(dI (q:=((0:Int),(1:Int))) ∅).mpr rfl];unfold lZ;rw[show qs.length-d=qs.length+1-rs.length by nofun,hd]
  grind
theorem xY{W:Nat->Int}{k:Nat}{rs:List (Int×Int)}(po:bH rs)(hD:Dk W k≠0)(hk:k<=6)(bW:∀i,Bt 17000 (W i))(num:∀j,cf rs j=((qk W k j:Int):Rat)/((Dk W k:Int):Rat)):∀q∈rs,Fq q/\Bq 110000 q:=λq hq=>by
 obtain⟨j,hj⟩:=List.getElem?_of_mem hq;have e:=num j;rw[aP hj] at e;exact⟨po.1 q hq,qd (po.1 q hq) e hD ((kS bW hk).mono ∅) ((jb bW ()).mono ∅)⟩
theorem pE{W:Nat->Int}{n M:Nat}(my:cz W n M):bZ W M<=M:=by unfold bZ;split<;>nofun
def uB(W:Nat->Int)(qs:List (Int×Int))(M:Nat)(r:Int×Int):Prop:=Fq r /\ ∃rs,bH rs/\(∀j,cf rs j=((qk W (bZ W M) j:Int):Rat)/((Dk W (bZ W M):Int):Rat))/\wv r=lZ rs qs
theorem uB.uniq{W:Nat->Int}{qs:List (Int×Int)}{M:Nat}{r r':Int×Int}(h:uB W qs M r)(h':uB W qs M r'):r=r':=by
 obtain⟨f,rs,p,c,e⟩:=h;obtain⟨f',rs',p',c',e'⟩:=h';have:rs=rs':=rZ p p' λk=>by rw[c,c']
 subst this;exact fe f f' (by rw[e,e'])
def zI(W:Nat->Int)(qs:List (Int×Int))(M:Nat)(d:D):Prop:=(Dk W M=0 /\ ∃r,uB W qs M r/\d=.tup [.str "just",fr r])\/(0<Dk W M/\qs.length%2=1/\d=.tup [.str "any"])\/(0<Dk W M/\qs.length%2=0 /\ ∃r,uB W qs M r/\d=.tup [.str "from",fr r])
theorem zI.uniq{W:Nat->Int}{qs:List (Int×Int)}{M:Nat}{d d':D}(h:zI W qs M d)(h':zI W qs M d'):d=d':=by
 rcases h with ⟨a,r,b,rfl⟩|⟨a,b,rfl⟩|⟨a,b,r,c,rfl⟩<;>rcases h' with ⟨a',r',b',rfl⟩|⟨a',b',rfl⟩|⟨a',b',r',c',rfl⟩<;>first|rfl|nofun | (rw[b.uniq b'])|(rw[c.uniq c'])
theorem vT{W:Nat->Int}{qs:List (Int×Int)}{M:Nat}{rs:List (Int×Int)}(bW:∀i,Bt 17000 (W i))(my:cz W qs.length M)(n2:qs.length<=11)(po:bH rs)(num:∀j,cf rs j=((qk W (bZ W M) j:Int):Rat)/((Dk W (bZ W M):Int):Rat)):rs.length=bZ W M+1/\(∀q∈rs,Fq q/\Bq 110000 q)/\Pb 110000 (cf rs):=by
 have hp:=lW my;have hl:=pE my;have:=my.most;refine⟨lH po () num,xY po () () bW num,?_⟩;refine⟨Dk W (bZ W M),(),(jb bW ()).mono ∅,λj=>⟨_,num j,?_⟩⟩;exact (kS bW ()).mono ∅
inductive fc (K:W.Frag)(vs:List V)(H:Hp)(Q:VK)(E:XK):Prop
 | mk (a:Addr)(qs:List (Int×Int))(W:Nat->Int)(B:Int)(M:Nat):vs=[.ref a]->aF (vw K H) a qs->1<=qs.length->qs.length<=11->bA qs->d4 qs W B->cz W qs.length M -> ¬ gc W qs.length M->(∀v H' d,aw (vw K H) (vw K H')->zI W qs M d->aA (vw K H') d v->Q v H')->fc K vs H Q E
theorem mi(F:cn K "next_sum" "next_sum" fZ f fd) (T:dN K mg)(C_had:bY P w K mg base "had" ["sums"] 6 (lF K)) (C_number_behind:bY P w K mg base "number_behind" ["sums", "roots"] 4 (bT K)):aR P w K mg base cA 7 f fd ["sums"] (fc K):=by
 have scN:=iy.nd;refine F.okQ iy ?_ ?_;walk_at "q"
 .obtain⟨_,_,_,_,_,rfl,_⟩:=h;rfl
 .obtain⟨a,qs,W,B,M,rfl,ha,l1,l11,sq,cl,my,nf,h⟩:=h;refine⟨_,(af (ff (ak C_had nofun rfl (aa (qv 0) ac)) (bQ (n:=2) rfl (aG (ay (i:=1) scN rfl (·)) (aG (ay (i:=2) scN rfl (·)) bS))))
   (af (aW (aB fP (qv 1) bc (aE _)) (ag (aq (aX (aa bc (aa (ak C_number_behind nofun rfl (aa (qv 0) (aa (qv 2) ac))) ac))))) aC)
   (af (aW (eg (am oN (aD aH (by rfl) T.b_len ba (aa (qv 0) ac)) ae) (λ_=>rfl)) (ag (aq (aX (aa bc ac)))) aC)
   (ag (aq (aX (aa bc (aa (ak C_number_behind nofun rfl (aa (qv 0) (aa (qv 2) ac))) ac)))))))),?_⟩
  walk_at"m";skip
  refine aU.gen λN1 hN1=>?_;symm
  refine⟨a,qs,W,B,M,rfl,ha,l1,l11,sq,cl,my,nf,λp H1 s S1 o _=>?_⟩;obtain⟨l,rs,h1,lr,po,num,hs⟩:=o.had nf;obtain⟨lrs,brs,prs⟩:=vT cl.bt my l11 po num;have hl:=pE my;have hm:=my.most;refine⟨_,rfl,_,h1,rfl,_,_,rfl,_,_,rfl,rfl,hN1 _ _ ?_⟩;refine aU.gen λN2 hN2=>?_;symm
  have nt:s=Str.ofString "tight" ↔ Dk W M=0:=by
   rcases hs with ⟨z,y⟩|⟨z,y⟩
   .exact⟨λ_=>y,λ_=>z⟩
   .refine⟨λx=>?_,λx=>by nofun⟩
    rw[z] at x;exact absurd x ∅
  have nb:∀{Q':VK},(∀v H' r,aw (vw K H1) (vw K H')->aA (vw K H') (fr r) v->uB W qs M r->Q' v H')->bT K [V.ref a,V.ref l] H1 Q' E0:=λhQ=>⟨a,l,qs,rs,rfl,ha.same S1,lr,(),(),(),(),sq,brs,prs,λv H' r S r' f w=>hQ v H' r S r' ⟨f,rs,po,num,w⟩⟩;refine⟨rfl,cT (λhc=>?_) (λhc=>hN2 _ _ ?_)⟩
  .have d0:=nt.mp hc;refine nb λv H2 r S2 r2 nx=>⟨∅,λp3 H3 hp3 S3 h3=>h _ H3 _ (S1.trans (S2.trans S3)) (.inl ⟨d0,r,nx,rfl⟩) (.mk_tup h3 (.mk_cons (.mk_str _) (.mk_cons (aA.same S3 _ _ r2) .mk_nil)))⟩
  have d1:0<Dk W M:=by
   rcases hs with ⟨z,y⟩|⟨z,y⟩
   .exact absurd (nt.mpr y) hc
   .exact y
  refine aU.gen λN3 hN3=>?_;symm
  refine⟨_,(ha.same S1).len,(),cT (λho=>?_) (λho=>hN3 _ _ ?_)⟩
  .have o1:qs.length%2=1:=by
    have:((qs.length:Int)%2)≠0:=by simpa using ho
    nofun
   exact⟨∅,λp3 H3 hp3 S3 h3=>h _ H3 _ (S1.trans S3) (.inr (.inl ⟨d1,o1,rfl⟩)) (.mk_tup h3 (.mk_cons (.mk_str _) .mk_nil))⟩
  have o0:qs.length%2=0:=by
   have:((qs.length:Int)%2)=0:=by simpa using ho
   nofun
  symm
  refine nb λv H2 r S2 r2 nx=>⟨∅,λp3 H3 hp3 S3 h3=>h _ H3 _ (S1.trans (S2.trans S3)) (.inr (.inr ⟨d1,o0,r,nx,rfl⟩)) (.mk_tup h3 (.mk_cons (.mk_str _) (.mk_cons (aA.same S3 _ _ r2) .mk_nil)))⟩
theorem sC:∀(qs:List (Int×Int)),(∀q∈qs,0<q.2) -> ∃B:Int,0<B/\(∀q∈qs,q.2∣B) /\ ∀E:Int,(∀q∈qs,q.2∣E)->B∣E
 | [],_=>⟨1,∅,by simp,λE _=>Int.one_dvd E⟩
 | q::qs,h=>by
  obtain⟨B,h0,h1,h2⟩:=sC qs λx hx=>h x (Jh _ hx);have hq:=h q List.mem_cons_self;refine⟨(Int.lcm q.2 B:Int),?_,λx hx=>?_,λE hE=>?_⟩
  .have:=Int.lcm_pos (m:=q.2) (n:=B) () ();nofun
  .rcases JL.mp hx with z|z
   .rw[z];exact Int.dvd_lcm_left q.2 B
   .exact Int.dvd_trans (h1 x z) (Int.dvd_lcm_right q.2 B)
  .refine Int.natAbs_dvd_natAbs.mp ?_;show Nat.lcm q.2.natAbs B.natAbs∣E.natAbs;exact Nat.lcm_dvd (Int.natAbs_dvd_natAbs.mpr (hE q List.mem_cons_self)) (Int.natAbs_dvd_natAbs.mpr (h2 E λx hx=>hE x (Jh _ hx)))
theorem xg{qs:List (Int×Int)}(sq:bA qs):∃(W:Nat->Int)(B:Int),d4 qs W B:=by
 obtain⟨B,h0,h1,h2⟩:=sC qs λq hq=>(sq q hq).1.1;have c0:((0:Int):Rat)=0:=rfl;obtain⟨W,hW⟩ : ∃W:Nat->Int,∀i,((W i:Int):Rat)=cf qs i*(B:Rat):=by
  have:∀i,∃n:Int,(n:Rat)=cf qs i*(B:Rat):=λi=>by
   cases e:qs[i]? with
   | none =>
    refine⟨0,?_⟩;rw[bK (List.getElem?_eq_none_iff.mp e),c0];grind
   | some q =>
    have hq:=Jy e;obtain⟨d,hd⟩:=h1 q hq;have n2:=ao (sq q hq).1.ne;refine⟨q.1*d,?_⟩;rw[aP e,hd,JS,JS];unfold wv;grind
  exact⟨λi=>(this i).choose,λi=>(this i).choose_spec⟩
 refine⟨W,B,h0,hW,h2,λi=>?_⟩;obtain⟨D,d0,bD,o⟩:=kH sq;have dv:B∣D:=h2 D λq hq=>by
  obtain⟨j,hj⟩:=List.getElem?_of_mem hq;obtain⟨n,hn,_⟩:=o j;rw[aP hj] at hn;have fq:=(sq q hq).1;have n1:=ao fq.ne;have n2:=ao d0;have e:((q.1*D:Int):Rat)=((n*q.2:Int):Rat):=by
   rw[JS,JS];unfold wv at hn;grind
  have e2:q.1*D=n*q.2:=by exact_mod_cast e
  have g2:Int.gcd q.2 q.1=1:=by rw[Int.gcd_comm];exact fq.2
  exact Int.natAbs_dvd_natAbs.mp (Nat.Coprime.dvd_of_dvd_mul_left (k:=q.2.natAbs) (m:=q.1.natAbs) (n:=D.natAbs) g2 (by rw[<-JJ,e2];exact Int.natAbs_dvd_natAbs.mpr ⟨n,JQ _ _⟩))
 obtain⟨n,hn,bn⟩:=o i;have n2:=ao d0;have e:((W i*D:Int):Rat)=((n*B:Int):Rat):=by
  rw[JS,JS,hW i,hn];grind
 have e2:W i*D=n*B:=by exact_mod_cast e
 have e3:(W i).natAbs*D.natAbs=n.natAbs*B.natAbs:=by rw[<-JJ,e2,JJ]
 have le:=Nat.le_of_dvd () (Int.natAbs_dvd_natAbs.mpr dv);have l2:n.natAbs*B.natAbs<=n.natAbs*D.natAbs:=J1 _ le;have l3:(W i).natAbs<=n.natAbs:=Nat.le_of_mul_le_mul_right (by nofun : (W i).natAbs*D.natAbs<=n.natAbs*D.natAbs) ()
 unfold Bt at bn ⊢;nofun
theorem vR{W:Nat->Int}{n:Nat}(h:1<=n):∃M,cz W n M:=by
 have step:∀f M,1<=M->2*M<=n+1->(∀i,i<M->0<Dk W i)->n<=M+f -> ∃M',cz W n M':=by
  intro f;induction f with
  | zero=>exact λM h1 h2 h3 h4=>⟨M,h1,h3,h2,.inl ()⟩
  | succ f ih =>
   intro M h1 h2 h3 h4;by_cases e:n<=2*M\/Dk W M<=0
   .exact⟨M,h1,h3,h2,e⟩
   .have e1:¬ n<=2*M:=λz=>e (.inl z);have e2:¬ Dk W M<=0:=λz=>e (.inr z);refine ih (M+1) () () (λi hi=>?_) ();by_cases z:i=M
    .rw[z];nofun
    .exact h3 i ()
 exact step n 1 ∅ () (λi hi=>by rw[show i=0 by nofun,qF];decide) ()
theorem oW{d p q h:Nat->Rat}(hd:∀i,d i=p i-q i):∀n,aK d h n=aK p h n-aK q h n
 | 0=>by show (0:Rat)=0-0;grind
 | n+1=>by
  show aK d h n+d n*h n=(aK p h n+p n*h n)-(aK q h n+q n*h n);rw[oW hd n,hd];grind
theorem uK{W V:Nat->Int}{B C:Int}{S T:Nat->Rat}{k:Nat}(hB:0<B)(hC:0<C)(hS:∀i,((W i:Int):Rat)=S i*(B:Rat))(hT:∀i,((V i:Int):Rat)=T i*(C:Rat))(hW:∀i,i<=k->0<Dk W i)(dv:Dk V k≠0)(e:∀i,i<2*k->T i=S i):Pk V k=Pk W k:=by
 have dw:Dk W k≠0:=by have:=hW k (Jl _);nofun
 have c0:((0:Int):Rat)=0:=rfl;obtain⟨d,hd⟩ : ∃d:Nat->Rat,∀i,d i=Pk V k i-Pk W k i:=⟨_,λ_=>rfl⟩;have bd:∀i,k<=i->d i=0:=λi hi=>by
  rw[hd];by_cases z:i=k
  .rw[z,gP dv,gP dw];grind
  .rw[oB (),oB ()];grind
 have orth:∀i,i<k->aK d (λj=>S (i+j)) k=0:=λi hi=>by
  have a:=cR (P:=Pk V k) dv () (λ_=>rfl) hT i;have b:=cR (P:=Pk W k) dw () (λ_=>rfl) hS i;rw[eT hi,c0] at a b;rw[bu (f':=Pk V k) (g':=λj=>S (i+j)) (k+1) (λ_ _=>rfl) λj hj=>e (i+j) ()] at a;have c:=oW (h:=λj=>S (i+j)) hd (k+1);rw[a,b] at c;have c':aK d (λj=>S (i+j)) k+d k*S (i+k)=_:=c;rw[bd k (Jl _)] at c';grind
 have z:ip S d d k k=0:=dA k λi hi=>by rw[orth i hi];grind
 have pd:=tS hB hS hW;refine funext λi=>Classical.byContradiction λne=>?_;have:=pd d bd ⟨i,by rw[hd];intro y;exact ne ⋯⟩
 rw[z] at this;exact absurd this ∅
section
variable {qs:List (Int×Int)}{x:Int×Int}{W V:Nat->Int}{B C:Int}{M M' k:Nat}
theorem fI(cl:d4 qs W B)(cl':d4 (qs++[x]) V C)(hk:2*k<=qs.length+1)(hD:∀i,i<=k->0<Dk W i):∀i,i<=k->0<Dk V i :=
 zf cl'.pos cl'.val ((tS cl.pos cl.val hD).congr λi hi=>by rw[gh,Jc ()])
theorem ic(cl:d4 qs W B)(cl':d4 (qs++[x]) V C)(hk:2*k<=qs.length)(hD:∀i,i<=k->0<Dk W i):Pk V k=Pk W k :=
 uK cl.pos cl'.pos cl.val cl'.val hD (by have:=fI cl cl' () hD k (Jl _);nofun) λi hi=>by rw[gh,Jc ()]
theorem rT{i:Nat}(cl:d4 qs W B)(cl':d4 (qs++[x]) V C)(hk:2*k<=qs.length)(hD:∀i,i<=k->0<Dk W i)(hi:i+k<qs.length)(z:Lq W k i=0):Lq V k i=0:=by
 have dv:=fI cl cl' () hD k (Jl _);have dw:=hD k (Jl _);have c0:((0:Int):Rat)=0:=rfl;have a:=cR (P:=Pk V k) () (by have:=cl'.pos;nofun) (λ_=>rfl) cl'.val i
 have b:=cR (P:=Pk W k) () (by have:=cl.pos;nofun) (λ_=>rfl) cl.val i
 rw[ic cl cl' hk hD,bu (f':=Pk W k) (g':=λj=>cf qs (i+j)) (k+1) (λ_ _=>rfl) (λj hj=>by rw[gh,Jc ()]),b,z,c0] at a
 have c1:=ao (show Dk V k≠0 by nofun)
 have c2:=ao (show C≠0 by have:=cl'.pos;nofun)
 exact Rat.intCast_inj.mp (by rw[c0];grind)
theorem oF{rs:List (Int×Int)}(cl:d4 qs W B)(cl':d4 (qs++[x]) V C)(hk:2*k<=qs.length)(hD:∀i,i<=k->0<Dk W i)(po:bH rs)(num:∀j,cf rs j=((qk W k j:Int):Rat)/((Dk W k:Int):Rat)):((Lq V k (qs.length-k):Int):Rat)=(wv x-lZ rs qs)*(((Dk V k:Int):Rat)*(C:Rat)):=by
 have dv:=fI cl cl' () hD k (Jl _);have dw:=hD k (Jl _);have a:=cR (P:=Pk V k) () (by have:=cl'.pos;nofun) (λ_=>rfl) cl'.val (qs.length-k)
 have lr:=lH po (show Dk W k≠0 by nofun) num
 rw[ic cl cl' hk hD] at a;have t:aK (Pk W k) (λj=>cf (qs++[x]) (qs.length-k+j)) (k+1)=aK (Pk W k) (λj=>cf (qs++[x]) (qs.length-k+j)) k+Pk W k k*cf (qs++[x]) (qs.length-k+k):=rfl;rw[t,gP (),gh,Jb (),bu (f:=Pk W k) (f':=cf rs) (g':=λj=>cf qs (qs.length-k+j)) k (λj _=>(num j).symm) (λj hj=>by rw[gh,Jc ()])] at a
 have e:lZ rs qs = - aK (cf rs) (λj=>cf qs (qs.length-k+j)) k:=by
  unfold lZ;rw[lr,Ya,show qs.length+1-(k+1)=qs.length-k by nofun]
 have c1:=ao (show Dk V k≠0 by nofun)
 have c2:=ao (show C≠0 by have:=cl'.pos;nofun)
 grind
theorem sy(my:cz W qs.length M)(d:0<Dk W M):∀i,i<=M->0<Dk W i:=λi hi=>by
 by_cases e:i=M
 .rw[e];exact d
 .exact my.up i ()
theorem vd(cl:d4 qs W B)(my:cz W qs.length M)(cl':d4 (qs++[x]) V C)(my':cz V (qs++[x]).length M')(d:0<Dk W M)(o:qs.length%2=1):¬ gc V (qs++[x]).length M'/\0<Dk V M':=by
 have up:=fI cl cl' my.most (sy my d);have ln:(qs++[x]).length=qs.length+1:=by simp
 rw[ln] at my';have e:M'=M:=my'.uniq ⟨my.one,λi hi=>up i (),by have:=my.most;nofun,by
  rcases my.all with y|y
  .exact .inl ()
  .nofun⟩
 have:=up M (Jl _);rw[e];exact⟨by rintro (z|⟨z,_⟩)<;>nofun,this⟩
theorem jn{r:Int×Int}(cl:d4 qs W B)(my:cz W qs.length M)(nf:¬ gc W qs.length M)(cl':d4 (qs++[x]) V C)(my':cz V (qs++[x]).length M')(fx:Fq x)(d:Dk W M=0)(nx:uB W qs M r):(¬ gc V (qs++[x]).length M'↔x=r)/\Dk V M'=0/\M'=M:=by
 obtain⟨k,rfl⟩ : ∃k,M=k+1:=⟨M-1,by have:=my.one;nofun⟩
 have m2:=my.most;have ln:(qs++[x]).length=qs.length+1:=by simp
 rw[ln] at my' ⊢;have hD:∀i,i<=k->0<Dk W i:=λi hi=>my.up i ();have up:=fI cl cl' () hD;have ng:nP W k qs.length:=Classical.byContradiction λz=>nf (.inr ⟨d,by rw[Ya];exact z⟩)
 have low:∀i,i+k<qs.length->Lq V k i=0:=λi hi=>rT cl cl' () hD hi (ng i ());have dv:Dk V (k+1)=0:=by rw[<-bP];exact low k ()
 have e:M'=k+1:=my'.uniq ⟨(),λi hi=>up i (),(),.inr ()⟩;subst e;refine⟨?_,dv,rfl⟩;obtain⟨fr',rs,po,num,wr⟩:=nx;rw[show bZ W (k+1)=k by unfold bZ;rw[Jc (),Ya]] at num
 have t:=oF cl cl' () hD po num;have v0:=up k (Jl _);have c1:=ao (show Dk V k≠0 by nofun)
 have c2:=ao (show C≠0 by have:=cl'.pos;nofun)
 have c0:((0:Int):Rat)=0:=rfl;have iff0:Lq V k (qs.length-k)=0↔x=r:=by
  constructor
  .intro z;rw[z,c0] at t;refine fe fx fr' ?_;rw[wr];rcases Rat.mul_eq_zero.mp t.symm with y|y
   .grind
   .rcases Rat.mul_eq_zero.mp y with y|y
    .exact absurd y c1
    .exact absurd y c2
  .intro z;rw[z,wr] at t;exact Rat.intCast_inj.mp (by rw[c0,t];grind)
 rw[<-iff0];constructor
 .intro nn;refine Classical.byContradiction λz=>nn (.inr ⟨dv,λg=>z ?_⟩);rw[Ya] at g;exact g _ ()
 .rintro z (y|⟨_,y⟩)
  .nofun
  .refine y λi hi=>?_;rw[Ya] at hi ⊢;by_cases e:i+k<qs.length
   .exact low i e
   .rw[show i=qs.length-k by nofun];exact z
theorem mx{r:Int×Int}(cl:d4 qs W B)(my:cz W qs.length M)(cl':d4 (qs++[x]) V C)(my':cz V (qs++[x]).length M')(d:0<Dk W M)(o:qs.length%2=0)(nx:uB W qs M r):(¬ gc V (qs++[x]).length M'↔wv r<=wv x)/\M'=M+1/\(Dk V M'=0↔wv r=wv x):=by
 have m1:=my.one;have m2:=my.most;have nM:qs.length=2*M:=by
  rcases my.all with y|y<;>nofun
 have ln:(qs++[x]).length=qs.length+1:=by simp
 rw[ln] at my' ⊢;have hD:=sy my d;have up:=fI cl cl' () hD;have e:M'=M+1:=by
  have a:=my'.most;rcases my'.all with y|y
  .nofun
  .have:¬ M'<=M:=λz=>by have:=up M' z;nofun
   nofun
 subst e;obtain⟨fr',rs,po,num,wr⟩:=nx;rw[show bZ W M=M by unfold bZ;rw[Jb d]] at num
 have t:=oF cl cl' () hD po num;rw[show qs.length-M=M by nofun,bP,<-wr] at t
 have v0:=up M (Jl _);have p:(0:Rat)<((Dk V M:Int):Rat)*(C:Rat):=Rat.mul_pos (Rat.intCast_pos.mpr v0) (Rat.intCast_pos.mpr cl'.pos);have c0:((0:Int):Rat)=0:=rfl;have key:0<=Dk V (M+1)↔wv r<=wv x:=by
  rw[<-Rat.intCast_nonneg,t];constructor
  .intro z;refine Rat.not_lt.mp λy=>?_;have:=Rat.mul_pos (show 0<wv r-wv x by grind) p
   grind
  .intro z;exact Rat.mul_nonneg ⋯ (Rat.le_of_lt p)
 have zero:Dk V (M+1)=0↔wv r=wv x:=by
  constructor
  .intro z;rw[z,c0] at t;rcases Rat.mul_eq_zero.mp t.symm with y|y
   .grind
   .grind
  .intro z;exact Rat.intCast_inj.mp (by rw[t,c0,z];grind)
 refine⟨?_,rfl,zero⟩;rw[<-key];constructor
 .intro nn;exact Int.not_lt.mp λz=>nn (.inl z)
 .rintro z (y|⟨y,ng⟩)
  .nofun
  .refine ng λi hi=>?_;rw[Ya] at hi ⊢;by_cases e:i<M
   .exact eT e
   .rw[show i=M by nofun,bP];exact y
end
theorem qr{qs:List (Int×Int)}{W:Nat->Int}{B:Int}(cl:d4 qs W B)(sq:∀q∈qs,dG q):∀i,Bt 170 (W i):=λi=>by
 obtain⟨t,ht⟩:=cl.least (d9 12) λq hq=>(sq q hq).2.2;have e:=cl.val i;cases h:qs[i]? with
 | none =>
  rw[bK (List.getElem?_eq_none_iff.mp h)] at e;have z:W i=0:=Rat.intCast_inj.mp (by rw[e];show (0:Rat)*_=0;grind)
  rw[z];exact yW
 | some q =>
  obtain⟨n,en,bn⟩:=(sq q (Jy h)).num;rw[aP h,en] at e;have c0:((d9 12:Int):Rat)≠0:=ao ∅;have k:W i*t=n:=by
   refine Rat.intCast_inj.mp ?_;have e1:((d9 12:Int):Rat)=(B:Rat)*(t:Rat):=by rw[ht,JS]
   rw[JS,e];grind
  have t0:t≠0:=λz=>by rw[z,JZ] at ht;exact absurd ht ∅
  unfold Bt at bn ⊢;rw[<-k,JJ] at bn;exact J0 (JO _ (Int.natAbs_pos.mpr t0)) bn
theorem rp{D:Int}{e:Nat}(h:Bt e D):∀t:Nat,Bt (e*t+1) (D^t)
 | 0=>by rw[Int.pow_zero];exact Bt.mono (m:=1) ∅ ()
 | t+1=>by rw[Int.pow_succ];exact ((rp h t).mul h).mono (by rw[Nat.mul_succ];nofun)
def fS(qs:List (Int×Int)):Prop:=∃U:Int,0<U/\Bt 3000 U /\ ∀q∈qs,Fq q /\ ∃n:Int,wv q=(n:Rat)/(U:Rat)/\Bt 3000 n
theorem fS.of{qs:List (Int×Int)}(h:∀q∈qs,dG q):fS qs:=⟨d9 12,∅,(ft 12).mono ∅,λq hq=>by
 obtain⟨n,e,b⟩:=(h q hq).num;exact⟨(h q hq).1,n,e,b.mono ∅⟩⟩
theorem fS.bq{qs:List (Int×Int)}(h:fS qs):∀q∈qs,Fq q/\Bq 3000 q:=λq hq=>by
 obtain⟨U,u0,bU,h⟩:=h;obtain⟨f,n,e,b⟩:=h q hq;exact⟨f,qd f e () b bU⟩
theorem fS.sumE{qs:List (Int×Int)}(h:fS qs):bA qs:=by
 have hb:=h.bq;obtain⟨U,u0,bU,h⟩:=h;refine⟨U,u0,bU.mono ∅,λq hq=>?_⟩;obtain⟨f,n,e,b⟩:=h q hq;exact⟨f,(hb q hq).2.mono ∅,n,e,b.mono ∅⟩
theorem fS.app{qs:List (Int×Int)}{x:Int×Int}(h:fS qs)(fx:Fq x)(bx:Bq 3000 x):bA (qs++[x]):=by
 have hb:=h.bq;obtain⟨U,u0,bU,h⟩:=h;have x0:=fx.1;have c1:=ao (show U≠0 by nofun)
 have c2:=ao fx.ne;refine⟨U*x.2,JP u0 x0,(bU.mul bx.2).mono ∅,λq hq=>?_⟩;rcases List.mem_append.mp hq with z|z
 .obtain⟨f,n,e,b⟩:=h q z;refine⟨f,(hb q z).2.mono ∅,n*x.2,?_,(b.mul bx.2).mono ∅⟩;rw[e,JS,JS];grind
 .cases List.mem_singleton.mp z;refine⟨fx,bx.mono ∅,U*x.1,?_,(bU.mul bx.1).mono ∅⟩;rw[JS,JS];unfold wv;grind
theorem dG.small{x:Int×Int}(h:dG x):Bq 3000 x:=h.2.1.mono ∅
def Tq(P:Nat->Rat)(k:Nat)(qs:List (Int×Int)):Prop:=X2 λ(D:Int)(t:Nat)=>0<D/\Bt (180*k+10) D/\Ob D (180*k+10) P/\t+2*k<=qs.length /\ ∀q∈qs,Fq q /\ ∃n:Int,wv q=(n:Rat)/((d9 12*D^t:Int):Rat)/\Bt (170+(180*k+15)*t) n
theorem Tq.small{P:Nat->Rat}{k:Nat}{qs:List (Int×Int)}(h:Tq P k qs)(l:qs.length<=11):fS qs:=by
 obtain⟨D,t,d0,bD,_,ht,h⟩:=h;have k5:k<=5:=();have b1:39+((180*k+10)*t+1)<=3000:=by
  obtain rfl|rfl|rfl|rfl|rfl|rfl:k=0\/k=1\/k=2\/k=3\/k=4\/k=5:=()
  all_goals nofun
 have b2:170+(180*k+15)*t<=3000:=by
  obtain rfl|rfl|rfl|rfl|rfl|rfl:k=0\/k=1\/k=2\/k=3\/k=4\/k=5:=()
  all_goals nofun
 refine⟨d9 12*D^t,JP ∅ (Int.pow_pos d0),(Bt.mul (ft 12) (rp bD t)).mono b1,λq hq=>?_⟩;obtain⟨f,n,e,b⟩:=h q hq;exact⟨f,n,e,b.mono b2⟩
theorem Tq.first{W:Nat->Int}{B:Int}{k:Nat}{qs:List (Int×Int)}(cl:d4 qs W B)(sq:∀q∈qs,dG q)(dk:0<Dk W k)(hk:2*k<=qs.length)(l:qs.length<=11):Tq (Pk W k) k qs:=by
 have bW:=qr cl sq;refine⟨Dk W k,0,dk,(xI bW ()).mono (),λj=>⟨qk W k j,rfl,(rj bW ()).mono ()⟩,(),λq hq=>?_⟩;obtain⟨n,e,b⟩:=(sq q hq).num;exact⟨(sq q hq).1,n,by rw[Int.pow_zero,Int.mul_one];exact e,by rw[Nat.mul_zero];exact b⟩
theorem Tq.next{P:Nat->Rat}{k:Nat}{qs rs:List (Int×Int)}{x:Int×Int}(h:Tq P k qs)(k5:k<=5)(fx:Fq x)(lr:rs.length=k+1)(num:∀j,cf rs j=P j)(w:wv x=lZ rs qs):Tq P k (qs++[x]):=by
 obtain⟨D,t,d0,bD,oD,ht,h⟩:=h;have cD:=ao (show D≠0 by nofun)
 have U0:0<d9 12*D^t:=JP ∅ (Int.pow_pos d0);have cU:=ao (show d9 12*D^t≠0 by nofun)
 have oq:Ob (d9 12*D^t) (170+(180*k+15)*t) (λj=>cf qs (qs.length+1-rs.length+j)):=λj=>by
  cases e:qs[qs.length+1-rs.length+j]? with
  | none =>
   refine⟨0,?_,yW⟩;show cf qs _=_;have c0:((0:Int):Rat)=0:=rfl;rw[bK (List.getElem?_eq_none_iff.mp e),c0];grind
  | some q =>
   obtain⟨_,n,en,bn⟩:=h q (Jy e);exact⟨n,by show cf qs _=_;rw[aP e,en],bn⟩
 obtain⟨n,en,bn⟩:=n8 (f:=P) (show D≠0 by nofun) (show d9 12*D^t≠0 by nofun) oD oq k
 have e2:d9 12*D^(t+1)=D*(d9 12*D^t):=by rw[Int.pow_succ];grind
 have m1:(180*k+15)*(t+1)=(180*k+15)*t+(180*k+15):=by rw[Nat.mul_succ]
 refine⟨D,t+1,d0,bD,oD,by rw[Jz,List.length_singleton];nofun,λq hq=>?_⟩
 rcases List.mem_append.mp hq with z|z
 .obtain⟨f,m,em,bm⟩:=h q z;refine⟨f,D*m,?_,(bD.mul bm).mono ()⟩;rw[em,e2,JS D m,JS D];grind
 .cases List.mem_singleton.mp z;refine⟨fx,-n,?_,?_⟩
  .rw[w,e2];unfold lZ;rw[lr,Ya,bu (f':=P) k (λj _=>num j) (λj _=>rfl)];rw[lr] at en;rw[en,Rat.intCast_neg];grind
  .have:Bt (180*k+10+(170+(180*k+15)*t)+k) (-n):=by
    unfold Bt at bn ⊢
    rwa [Int.natAbs_neg]
   exact this.mono ()
def cP(qs:List (Int×Int)):Prop:=qs.length<=11/\(qs=[]\/X3 λW B M=>d4 qs W B/\cz W qs.length M /\ ¬ gc W qs.length M/\((∀q∈qs,dG q)\/(Dk W M=0/\Tq (Pk W (M-1)) (M-1) qs)))
def gt(qs:List (Int×Int)):Prop:=X3 λW B M=>d4 qs W B/\cz W qs.length M /\ ¬ gc W qs.length M
def ce(qs:List (Int×Int)):Prop:=X3 λW B M=>d4 qs W B/\cz W qs.length M/\Dk W M=0
def d7(qs:List (Int×Int))(d:D):Prop:=(qs=[]/\d=.tup [.str "from",fr (0,1)])\/(qs≠[]/\X3 λW B M=>d4 qs W B/\cz W qs.length M /\ ¬ gc W qs.length M/\zI W qs M d)
theorem cP.small{qs:List (Int×Int)}(h:cP qs):fS qs:=by
 obtain⟨l,rfl|⟨W,B,M,cl,my,nf,sq|⟨_,tq⟩⟩⟩:=h
 .exact⟨1,∅,Bt.mono (m:=1) ∅ ∅,λq hq=>by cases hq⟩
 .exact .of sq
 .exact tq.small l
theorem cP.fq{qs:List (Int×Int)}(h:cP qs):∀q∈qs,Fq q:=λq hq=>(h.small.bq q hq).1
theorem cP.ok{qs:List (Int×Int)}(h:cP qs)(ne:qs≠[]):gt qs:=by
 obtain⟨l,z|⟨W,B,M,cl,my,nf,_⟩⟩:=h
 .exact absurd z ne
 .exact⟨W,B,M,cl,my,nf⟩
theorem gt.uniq{qs:List (Int×Int)}{W:Nat->Int}{B:Int}{M:Nat}(h:gt qs)(hF:∀q∈qs,Fq q)(cl:d4 qs W B)(my:cz W qs.length M):¬ gc W qs.length M:=by
 obtain⟨W',B',M',cl',my',nf⟩:=h;obtain⟨rfl,rfl⟩:=cl.uniq cl' hF;obtain rfl:=my.uniq my';exact nf
theorem ce.uniq{qs:List (Int×Int)}{W:Nat->Int}{B:Int}{M:Nat}(hF:∀q∈qs,Fq q)(cl:d4 qs W B)(my:cz W qs.length M):ce qs↔Dk W M=0:=by
 constructor
 .rintro ⟨W',B',M',cl',my',d⟩;obtain⟨rfl,rfl⟩:=cl.uniq cl' hF;obtain rfl:=my.uniq my';exact d
 .exact λd=>⟨W,B,M,cl,my,d⟩
theorem d7.uniq{qs:List (Int×Int)}{d d':D}(hF:∀q∈qs,Fq q)(h:d7 qs d)(h':d7 qs d'):d=d':=by
 rcases h with ⟨z,rfl⟩|⟨z,W,B,M,cl,my,nf,nx⟩<;>rcases h' with ⟨z',rfl⟩|⟨z',W',B',M',cl',my',nf',nx'⟩
 .rfl
 .exact absurd z z'
 .exact absurd z' z
 .obtain⟨rfl,rfl⟩:=cl.uniq cl' hF;obtain rfl:=my.uniq my';exact nx.uniq nx'
theorem j7{qs:List (Int×Int)}(sq:bA qs)(l:1<=qs.length):∃W B M,d4 qs W B/\cz W qs.length M:=by
 obtain⟨W,B,cl⟩:=xg sq;obtain⟨M,my⟩:=vR (W:=W) l;exact⟨W,B,M,cl,my⟩
theorem cP.told{qs:List (Int×Int)}{W:Nat->Int}{B:Int}{M:Nat}{r:Int×Int}(g:cP qs)(l10:qs.length<=10)(cl:d4 qs W B)(my:cz W qs.length M)(nf:¬ gc W qs.length M)(nr:uB W qs M r)(hc:Dk W M=0\/(0<Dk W M/\qs.length%2=0)):cP (qs++[r])/\Bq 3000 r:=by
 have l11:=g.1;have hF:=g.fq;have m1:=my.one;have m2:=my.most;have lT:(qs++[r]).length=qs.length+1:=by simp
 have ne:qs≠[]:=λz=>by rw[z] at m2;simp at m2;nofun
 obtain⟨k,hk⟩ : ∃k,k=bZ W M:=⟨_,rfl⟩;have k0:0<Dk W k:=by rw[hk];exact lW my
 have ek:(Dk W M=0/\M=k+1)\/(0<Dk W M/\M=k/\qs.length%2=0):=by
  rcases hc with z|⟨z,y⟩
  .exact .inl ⟨z,by rw[hk];unfold bZ;rw[Jc ()];nofun⟩
  .exact .inr ⟨z,by rw[hk];unfold bZ;rw[Jb z],y⟩
 have k2:2*k<=qs.length:=by rcases ek with z|z<;>nofun
 have hD:∀i,i<=k->0<Dk W i:=λi hi=>by
  by_cases e:i<M
  .exact my.up i e
  .rw[show i=k by rcases ek with z|z<;>nofun];exact k0
 have tq:Tq (Pk W k) k qs:=by
  obtain⟨_,z|⟨W',B',M',cl',my',nf',sq|⟨d0,tq⟩⟩⟩:=g
  .exact absurd z ne
  .exact .first cl sq k0 k2 l11
  .obtain⟨rfl,rfl⟩:=cl.uniq cl' hF;obtain rfl:=my.uniq my';rcases ek with z|z
   .rwa [z.2,Ya] at tq
   .nofun
 have nr2:=nr;obtain⟨f,rs,po,num,w⟩:=nr;rw[<-hk] at num;have lr:=lH po (show Dk W k≠0 by nofun) num
 have tq':Tq (Pk W k) k (qs++[r]):=tq.next () f lr num w
 have sm:=tq'.small ();obtain⟨V,C,M',cl',my'⟩:=j7 sm.sumE ();have eP:=ic cl cl' k2 hD;have fin:¬ gc V (qs++[r]).length M'/\Dk V M'=0/\M'=k+1:=by
  rcases ek with ⟨d0,z⟩|⟨d0,z,y⟩
  .obtain⟨a,b,c⟩:=jn cl my nf cl' my' f d0 nr2;exact⟨a.mpr rfl,b,()⟩
  .obtain⟨a,b,c⟩:=mx cl my cl' my' d0 y nr2;exact⟨a.mpr (Rat.le_refl),c.mpr rfl,()⟩
 refine⟨⟨(),.inr ⟨V,C,M',cl',my',fin.1,.inr ⟨fin.2.1,?_⟩⟩⟩,(sm.bq r (by simp)).2⟩
 rw[fin.2.2,Ya,eP];exact tq'
theorem vL{x:Int×Int}{V:Nat->Int}{C:Int}{M':Nat}(cl:d4 [x] V C)(my:cz V [x].length M'):(¬ gc V [x].length M'↔0<=wv x)/\(Dk V M'=0↔wv x=0):=by
 have m1:=my.one;have m2:2*M'<=2:=my.most;obtain rfl:M'=1:=();have hC:=cl.pos;have c1:=ao (show C≠0 by nofun)
 have c0:((0:Int):Rat)=0:=rfl;have d0:Dk V 0=1:=qF;have a:=cR (P:=Pk V 0) (by rw[d0];decide) (show C≠0 by nofun) (λ_=>rfl) cl.val 0
 have t:aK (Pk V 0) (λj=>cf [x] (0+j)) 1=0+Pk V 0 0*cf [x] 0:=rfl;have one:((1:Int):Rat)=1:=rfl;rw[t,gP (by rw[d0];decide),aP (q:=x) rfl,bP,d0,one] at a
 have e:((Dk V (0+1):Int):Rat)=wv x*(C:Rat):=⋯;have p:(0:Rat)<(C:Rat):=Rat.intCast_pos.mpr hC;have key:0<=Dk V 1↔0<=wv x:=by
  rw[<-Rat.intCast_nonneg,show Dk V 1=Dk V (0+1) from rfl,e]
  constructor
  .intro z;refine Rat.not_lt.mp λy=>?_;have:=Rat.mul_pos (show 0 < - wv x by grind) p
   grind
  .intro z;exact Rat.mul_nonneg z (Rat.le_of_lt p)
 refine⟨?_,?_⟩
 .rw[<-key];constructor
  .intro nn;exact Int.not_lt.mp λz=>nn (.inl z)
  .rintro z (y|⟨y,ng⟩)
   .nofun
   .refine ng λi hi=>?_;obtain rfl:i=0:=by simp at hi;nofun
    exact (bP 0).trans y
 .constructor
  .intro z;rw[show Dk V (0+1)=Dk V 1 from rfl,z,c0] at e
   rcases Rat.mul_eq_zero.mp e.symm with y|y
   .exact y
   .exact absurd y c1
  .intro z;exact Rat.intCast_inj.mp (by rw[show Dk V 1=Dk V (0+1) from rfl,e,c0,z];grind)
theorem tU:wv ((0:Int),(1:Int))=0:=(dI ∅).mpr rfl
theorem d7.cases{qs:List (Int×Int)}{d:D}(g:cP qs)(l10:qs.length<=10)(h:d7 qs d) :
  (∃r,d=.tup [.str "just",fr r]/\Fq r/\Bq 3000 r/\cP (qs++[r])/\ce (qs++[r]) /\ ∀x,Fq x->bA (qs++[x])->(gt (qs++[x])↔x=r)) \/
  (d=.tup [.str "any"] /\ ∀x,Fq x->bA (qs++[x])->gt (qs++[x]) /\ ¬ ce (qs++[x])/\(dG x->cP (qs++[x]))) \/
  (∃r,d=.tup [.str "from",fr r]/\Fq r/\Bq 3000 r/\cP (qs++[r]) /\ ∀x,Fq x->bA (qs++[x])->(gt (qs++[x])↔wv r<=wv x)/\(gt (qs++[x])->(ce (qs++[x])↔x=r))/\(dG x->gt (qs++[x])->cP (qs++[x]))):=by
 have hF:=g.fq;have lT:∀x:Int×Int,(qs++[x]).length=qs.length+1:=λx=>by simp
 rcases h with ⟨rfl,rfl⟩|⟨ne,W,B,M,cl,my,nf,nx⟩
 .have hx:∀x,Fq x->bA ([]++[x])->(gt ([]++[x])↔wv (0,1)<=wv x)/\(gt ([]++[x])->(ce ([]++[x])↔x=(0,1)))/\(dG x->gt ([]++[x])->cP ([]++[x])):=λx fx sq=>by
   rw[List.nil_append] at sq ⊢;obtain⟨V,C,M',cl',my'⟩:=j7 sq (by simp)
   have fx':∀q∈[x],Fq q:=λq hq=>by rw[List.mem_singleton.mp hq];exact fx
   obtain⟨a,b⟩:=vL cl' my';have ok:gt [x]↔0<=wv x:=⟨λz=>a.mp (z.uniq fx' cl' my'),λz=>⟨V,C,M',cl',my',a.mpr z⟩⟩;refine⟨by rw[tU];exact ok,λ_=>?_,λq z=>?_⟩
   .rw[ce.uniq fx' cl' my',b];exact⟨λz=>fe fx iR (z.trans tU.symm),λz=>by rw[z];exact tU⟩
   .exact⟨by simp,.inr ⟨V,C,M',cl',my',a.mpr (ok.mp z),.inl λq' hq=>by rw[List.mem_singleton.mp hq];exact q⟩⟩
  have s01:dG (0,1):=⟨iR,pS ∅,⟨d9 12,by simp⟩⟩
  obtain⟨h1,h2,h3⟩:=hx (0,1) iR (bA.of λq hq=>by rw[List.mem_singleton.mp hq];exact s01)
  exact .inr (.inr ⟨(0,1),rfl,iR,pS ∅,h3 s01 (h1.mpr Rat.le_refl),hx⟩)
 .have sqs:0<Dk W M -> ∀q∈qs,dG q:=λd0=>by
   obtain⟨_,z|⟨W',B',M',cl',my',nf',sq|⟨d1,_⟩⟩⟩:=g
   .exact absurd z ne
   .exact sq
   .obtain⟨rfl,rfl⟩:=cl.uniq cl' hF;obtain rfl:=my.uniq my';nofun
  have fT:∀{x:Int×Int},Fq x -> ∀q∈qs++[x],Fq q:=λfx q hq=>by
   rcases List.mem_append.mp hq with z|z
   .exact hF q z
   .rw[List.mem_singleton.mp z];exact fx
  have sT:∀{x:Int×Int},0<Dk W M->dG x -> ∀q∈qs++[x],dG q:=λd0 sx q hq=>by
   rcases List.mem_append.mp hq with z|z
   .exact sqs d0 q z
   .rw[List.mem_singleton.mp z];exact sx
  rcases nx with ⟨d0,r,nr,rfl⟩|⟨d0,o,rfl⟩|⟨d0,o,r,nr,rfl⟩
  .obtain⟨g',b⟩:=g.told l10 cl my nf nr (.inl d0);refine .inl ⟨r,rfl,nr.1,b,g',?_,λx fx sq=>?_⟩
   .obtain⟨V,C,M',cl',my'⟩:=j7 g'.small.sumE (by rw[lT];nofun)
    exact⟨V,C,M',cl',my',(jn cl my nf cl' my' nr.1 d0 nr).2.1⟩
   .obtain⟨V,C,M',cl',my'⟩:=j7 sq (by rw[lT];nofun)
    obtain⟨a,_,_⟩:=jn cl my nf cl' my' fx d0 nr;exact⟨λz=>a.mp (z.uniq (fT fx) cl' my'),λz=>⟨V,C,M',cl',my',a.mpr z⟩⟩
  .refine .inr (.inl ⟨rfl,λx fx sq=>?_⟩);obtain⟨V,C,M',cl',my'⟩:=j7 sq (by rw[lT];nofun)
   obtain⟨a,b⟩:=vd cl my cl' my' d0 o;refine⟨⟨V,C,M',cl',my',a⟩,λz=>?_,λsx=>⟨by rw[lT];nofun,.inr ⟨V,C,M',cl',my',a,.inl (sT d0 sx)⟩⟩⟩
   rw[ce.uniq (fT fx) cl' my'] at z;nofun
  .obtain⟨g',b⟩:=g.told l10 cl my nf nr (.inr ⟨d0,o⟩);refine .inr (.inr ⟨r,rfl,nr.1,b,g',λx fx sq=>?_⟩);obtain⟨V,C,M',cl',my'⟩:=j7 sq (by rw[lT];nofun)
   obtain⟨a,_,c⟩:=mx cl my cl' my' d0 o nr;have ok:gt (qs++[x])↔wv r<=wv x:=⟨λz=>a.mp (z.uniq (fT fx) cl' my'),λz=>⟨V,C,M',cl',my',a.mpr z⟩⟩;refine⟨ok,λ_=>?_,λsx z=>⟨by rw[lT];nofun,.inr ⟨V,C,M',cl',my',a.mpr (ok.mp z),.inl (sT d0 sx)⟩⟩⟩
   rw[ce.uniq (fT fx) cl' my',c];exact⟨λz=>fe fx nr.1 z.symm,λz=>by rw[z]⟩
theorem yb(xs:List V):gm xs none (some (-1))=xs.take (xs.length-1):=by
 unfold gm HT.sIx;cases xs with
 | nil=>rfl
 | cons x xs =>
  simp;nofun
inductive bN (C:Addr)(K:W.Frag)(vs:List V)(H:Hp)(Q:VK)(E:XK):Prop
 | mk (p:Addr):vs=[.ref p]->xj (vw K H) C p->(∀(l:Addr) H',vw K H l=none->c9 p (vw K H) (vw K H')->bh (vw K H') C p "sums" (.ref l)->aF (vw K H') l []->Q .non H')->bN C K vs H Q E
theorem gf{C:Addr}(F:cn K "__init__" "Gauge.__init__" cE f fd) (T:dN K mg)(G_:fj K C "sums"):aR P w K mg base cA 1 f fd ["self"] (bN C K):=by
 have scN:=dL.nd;refine F.okQ dL ?_ ?_;walk_at "q"
 .obtain⟨_,rfl,_⟩:=h;rfl
 .obtain⟨p,rfl,hp,h⟩:=h;refine⟨_,(ag (oR G_ (qv 0) (aS ac))),?_⟩;walk_at"m";skip
  symm
  simp only[z9];symm
  refine⟨∅,λl H1 nl S1 h1=>?_⟩;obtain⟨dx,e⟩:=id hp;refine⟨.inl ⟨dx,S1 _ _ e⟩,λH2 B2 i2=>h l H2 nl (λb o nb eb=>B2 b o nb (S1 b o eb)) i2 ⟨[],B2 _ _ (aj e nl).symm h1,.mk_nil⟩⟩
inductive cN (C:Addr)(K:W.Frag)(vs:List V)(H:Hp)(Q:VK)(E:XK):Prop
 | mk (p l:Addr)(qs:List (Int×Int)):vs=[.ref p]->bh (vw K H) C p "sums" (.ref l)->aF (vw K H) l qs->(∀(c:Addr) H',vw K H c=none->aw (vw K H) (vw K H')->aF (vw K H') c qs->Q (.ref c) H')->cN C K vs H Q E
theorem jJ{C:Addr}(F:cn K "told" "Gauge.told" eC f fd) (T:dN K mg)(G_:fj K C "sums"):aR P w K mg base cA 1 f fd ["self"] (cN C K):=by
 have scN:=fU.nd;refine F.okQ fU ?_ ?_;walk_at "q"
 .obtain⟨_,_,_,rfl,_⟩:=h;rfl
 .obtain⟨p,l,qs,rfl,hp,hl,h⟩:=h;refine⟨_,(ag (aq (qO ni (by rfl) T.b_list vk (aa (eS G_ (qv 0)) ac)))),?_⟩
  walk_at"m";skip
  symm
  simp only[wH];symm
  obtain⟨xs,hxs,rxs⟩:=id hl;exact⟨_,hp,l,rfl,xs,hxs,λc H1 nc S1 h1=>h c H1 nc S1 ⟨xs,h1,rxs.same S1⟩⟩
inductive d6 (C:Addr)(K:W.Frag)(vs:List V)(H:Hp)(Q:VK)(E:XK):Prop
 | mk (p l:Addr)(qs:List (Int×Int))(x:Int×Int):vs=[.ref p]->bh (vw K H) C p "sums" (.ref l)->aF (vw K H) l (qs++[x])->(∀(c:Addr) H',c9 p (vw K H) (vw K H')->bh (vw K H') C p "sums" (.ref c)->aF (vw K H') c qs->Q .non H')->d6 C K vs H Q E
theorem jE{C:Addr}(F:cn K "take" "Gauge.take" eI f fd) (T:dN K mg)(G_:fj K C "sums"):aR P w K mg base cA 1 f fd ["self"] (d6 C K):=by
 have scN:=fR.nd;refine F.okQ fR ?_ ?_;walk_at "q"
 .obtain⟨_,_,_,_,rfl,_⟩:=h;rfl
 .obtain⟨p,l,qs,x,rfl,hp,hl,h⟩:=h;refine⟨_,(af (aW (f7 (eg (eS G_ (qv 0)) (λ_=>rfl))) (ag eu) aC)
   (ag (oR G_ (qv 0) (cY cS (eS G_ (qv 0)) dQ (dP (eR df ae)))))),?_⟩
  walk_at"m";skip
  symm
  simp only[wH,z9];symm
  obtain⟨xs,hxs,rxs⟩:=id hl;have lx:xs.length=qs.length+1:=by rw[rxs.length,Jr];simp
  refine⟨_,hp,true,?_,cy ∅ ?_⟩
  .have:xs.isEmpty=false:=by
    cases xs with
    | nil=>simp at lx
    | cons _ _=>rfl
   have z:=oO hxs
   rwa [this] at z
  simp only[wH];symm
  refine⟨_,hp,l,rfl,xs,hxs,λc H1 nc S1 h1=>⟨.inr ⟨_,hp.same S1⟩,λH2 B2 i2=>h c H2 (λb o nb e=>B2 b o nb (S1 b o e)) i2 ?_⟩⟩;have i1:=hp.same S1;refine⟨_,B2 _ _ (hp.ne_none nc).symm h1,?_⟩;rw[yb,lx,Ya];refine i1.reps B2 (av.same S1 _ _ ?_);have r:=rxs.take qs.length
  rwa [J5,List.take_left' (by simp)] at r
inductive bI (C:Addr)(K:W.Frag)(vs:List V)(H:Hp)(Q:VK)(E:XK):Prop
 | mk (p l:Addr)(qs:List (Int×Int)):vs=[.ref p]->bh (vw K H) C p "sums" (.ref l)->aF (vw K H) l qs->qs.length<=11->(qs≠[]->bA qs/\gt qs)->(∀(v:V) H' d,qs.length<=10->aw (vw K H) (vw K H')->d7 qs d->aA (vw K H') d v->Q v H')->(qs.length=11->Q .non H)->bI C K vs H Q E
theorem gp{C:Addr}(F:cn K "may_come" "Gauge.may_come" cL f fd) (T:dN K mg)(G_:fj K C "sums") (C_next_sum:bY P w K mg base "next_sum" ["sums"] 7 (fc K)):aR P w K mg base cA 8 f fd ["self"] (bI C K):=by
 have scN:=dS.nd;refine F.okQ dS ?_ ?_;walk_at "q"
 .obtain⟨_,_,_,rfl,_⟩:=h;rfl
 .obtain⟨p,l,qs,rfl,hp,hl,l11,ok,h,h11⟩:=h;obtain⟨z_ZERO,hg_ZERO,hv_ZERO⟩:=T.g_ZERO;obtain⟨_,hg_MOST_SUMS⟩:=T.i_MOST_SUMS;refine⟨_,(af (aW (f7 (eg (eS G_ (qv 0)) (λ_=>rfl))) (ag (aq (aX (aa bc (aa (cq (v:=V.ref z_ZERO) rfl hg_ZERO rfl) ac))))) aC)
   (af (aW (aB oY (aD aH (by rfl) T.b_len ba (aa (eS G_ (qv 0)) ac)) (cq (v:=V.int 11) rfl hg_MOST_SUMS ⟨_,rfl⟩) (aE _)) (ag (aq oz)) aC)
   (ag (aq (ak C_next_sum nofun rfl (aa (eS G_ (qv 0)) ac)))))),?_⟩
  walk_at"m";skip
  symm
  simp only[wH];symm
  obtain⟨xs,hxs,rxs⟩:=id hl;have lx:xs.length=qs.length:=by rw[rxs.length,Jr]
  refine⟨_,hp,_,oO hxs,?_⟩;by_cases e:qs=[]
  .subst e;obtain rfl:xs=[]:=List.length_eq_zero_iff.mp (by simpa using lx)
   refine jq rfl ⟨∅,λc H1 nc S1 h1=>h _ H1 _ (by simp) S1 (.inl ⟨rfl,rfl⟩) (.mk_tup h1 (.mk_cons (.mk_str _) (.mk_cons (bg (S1 _ _ (hv_ZERO H))) .mk_nil)))⟩
  .have l1:=List.length_pos_iff.mpr e;have:xs.isEmpty=false:=by
    cases xs with
    | nil=>simp at lx;nofun
    | cons _ _=>rfl
   rw[this];refine cy ∅ ⟨_,hp,l,rfl,_,hl.len,cT (λz=>h11 ()) λz=>⟨_,hp,?_⟩⟩;obtain⟨sq,W,B,M,cl,my,nf⟩:=ok e;exact⟨l,qs,W,B,M,rfl,hl,l1,l11,sq,cl,my,nf,λv H1 d S1 nx rd=>h v H1 d () S1 (.inr ⟨e,W,B,M,cl,my,nf,nx⟩) rd⟩
inductive bJ (C:Addr)(K:W.Frag)(vs:List V)(H:Hp)(Q:VK)(E:XK):Prop
 | mk (p l:Addr)(qs:List (Int×Int)):vs=[.ref p]->bh (vw K H) C p "sums" (.ref l)->aF (vw K H) l qs->qs.length<=11->(qs≠[]->bA qs/\gt qs)->(∀(b:Bool) H',aw (vw K H) (vw K H')->(b=true↔ce qs)->Q (.bl b) H')->bJ C K vs H Q E
theorem gv{C:Addr}(F:cn K "is_tight" "Gauge.is_tight" cC f fd) (T:dN K mg)(G_:fj K C "sums") (C_had:bY P w K mg base "had" ["sums"] 6 (lF K)):aR P w K mg base cA 7 f fd ["self"] (bJ C K):=by
 have scN:=dM.nd;refine F.okQ dM ?_ ?_;walk_at "q"
 .obtain⟨_,_,_,rfl,_⟩:=h;rfl
 .obtain⟨p,l,qs,rfl,hp,hl,l11,ok,h⟩:=h;refine⟨_,(ag (aq (tW (dt jQ (aD aH (by rfl) T.b_len ba (aa (eS G_ (qv 0)) ac)) ae (aE _)) (kj (dt fP (ap aT (ak C_had nofun rfl (aa (eS G_ (qv 0)) ac)) ae (λ_ _=>rfl)) bc (aE _)))))),?_⟩
  walk_at"m";skip
  symm
  simp only[wH];symm
  refine⟨_,hp,l,rfl,_,hl.len,?_⟩;by_cases e:qs=[]
  .subst e;refine cy (by simp) (h false H .rfl ⟨(λz=>by cases z),λ⟨_,_,M,_,my,_⟩=>?_⟩)
   have:=my.one;have:=my.most;simp at this;nofun
  .have l1:=List.length_pos_iff.mpr e;obtain⟨sq,W,B,M,cl,my,nf⟩:=ok e;refine jq () ⟨_,hp,?_⟩;refine⟨l,qs,W,B,M,rfl,hl,l1,l11,sq,cl,my,nf,λq H1 s S1 o _=>?_⟩;obtain⟨_,rs,h1,_,_,_,hs⟩:=o.had nf;refine⟨_,rfl,_,h1,_,bF,rfl,h _ H1 S1 ?_⟩;rw[decide_eq_true_iff,ce.uniq (λq hq=>(sq q hq).1) cl my];rcases hs with ⟨z,y⟩|⟨z,y⟩
   .rw[z];exact⟨λ_=>y,λ_=>rfl⟩
   .rw[z];exact⟨λx=>absurd x ∅,λx=>by nofun⟩
inductive cx (C:Addr)(K:W.Frag)(vs:List V)(H:Hp)(Q:VK)(E:XK):Prop
 | mk (p l:Addr)(y:V)(qs:List (Int×Int))(x:Int×Int):vs=[.ref p,y]->bh (vw K H) C p "sums" (.ref l)->aF (vw K H) l qs->aA (vw K H) (fr x) y->qs.length<=10->bA (qs++[x])->gt (qs++[x])->(∀(c:Addr) H',vw K H c=none->c9 p (vw K H) (vw K H')->bh (vw K H') C p "sums" (.ref c)->aF (vw K H') c (qs++[x])->Q .non H')->cx C K vs H Q E
theorem jp{K:W.Frag}{H:Hp}{l:Addr}{y:V}{qs:List (Int×Int)}{x:Int×Int}{Q:VK}(hl:aF (vw K H) l qs)(hy:aA (vw K H) (fr x) y)(l10:qs.length<=10)(k:∀(c:Addr) H',vw K H c=none->aw (vw K H) (vw K H')->aF (vw K H') c (qs++[x])->Q (.ref c) H'):1<=sizeLine/\Nw K H (.lst [y]) λv H1=>eU K (.ref l) v H1 Q:=by
 refine⟨∅,λd1 H1 hd1 S1 h1=>?_⟩;show eU K (.ref l) (.ref d1) H1 _;rw[ef];obtain⟨xs,hxs,rxs⟩:=hl;refine⟨xs,S1 _ _ hxs,_,h1,?_,λm H2 hm S2 h2=>k m H2 ?_ (S1.trans S2) ⟨_,h2,?_⟩⟩
 .have:1000<=sizeLine:=∅;have:=rxs.length;rw[Jr] at this;simp only[List.length_singleton];nofun
 .cases e:vw K H m with
  | none=>rfl
  | some o=>rw[S1 _ _ e] at hm;cases hm
 .rw[J5];exact (rxs.same (S1.trans S2)).app (.mk_cons (aA.same (S1.trans S2) _ _ hy) .mk_nil)
theorem ke{C:Addr}(F:cn K "put" "Gauge.put" dU f fd) (T:dN K mg)(G_:fj K C "sums") (C_outlook:bY P w K mg base "outlook" ["sums"] 5 (dF K)) (C_is_bar:bY P w K mg base "is_bar" ["told"] 1 (eh K)):aR P w K mg base cA 6 f fd ["self", "number"] (cx C K):=by
 have scN:=dj.nd;refine F.okQ dj ?_ ?_;walk_at "q"
 .obtain⟨_,_,_,_,_,rfl,_⟩:=h;rfl
 .obtain⟨p,l,y,qs,x,rfl,hp,hl,hy,l10,sq,ok,h⟩:=h;obtain⟨_,hg_MOST_SUMS⟩:=T.i_MOST_SUMS;refine⟨_,(af (aW (aB oY (aD aH (by rfl) T.b_len ba (aa (eS G_ (qv 0)) ac)) (cq (v:=V.int 11) rfl hg_MOST_SUMS ⟨_,rfl⟩) (aE _)) (ag eu) aC)
   (af (az (i:=2) scN rfl (·) (am aZ (eS G_ (qv 0)) (aS (aa (qv 1) ac))))
   (af (aW (fh (ak C_is_bar nofun rfl (aa (ak C_outlook nofun rfl (aa (qv 2) ac)) ac))) (ag eu) aC)
   (ag (oR G_ (qv 0) (qv 2)))))),?_⟩
  walk_at"m";skip
  symm
  simp only[wH,z9];symm
  refine⟨_,hp,l,rfl,_,hl.len,cy () ⟨_,hp,jp hl hy l10 λc H1 nc S1 l1=>?_⟩⟩;refine⟨c,qs++[x],rfl,l1,by simp,by simp;nofun,sq,λq H2 W B M s S2 cl my o fo=>?_⟩
  have nf:=ok.uniq (λq hq=>(sq q hq).1) cl my;obtain⟨lq,ys,hq,_⟩:=o.at_;refine⟨q,s,_,false,rfl,hq,.inl ⟨rfl,?_⟩,λH3 S3=>⟨false,rfl,cy ∅ ⟨.inr ⟨_,hp.same (S1.trans (S2.trans S3))⟩,λH4 B4 i4=>h c H4 nc (λb o nb e=>B4 b o nb ((S1.trans (S2.trans S3)) b o e)) i4 ((hp.same (S1.trans (S2.trans S3))).ls B4 (l1.same (S2.trans S3)))⟩⟩⟩;rcases o.kind with ⟨z,_⟩|⟨z,y,_⟩|⟨_,_,z⟩|⟨_,z⟩
  .exact absurd (.inl z) nf
  .exact absurd (.inr ⟨z,y⟩) nf
  .exact .inl z
  .exact .inr z
inductive dY (CX C:Addr)(K:W.Frag)(vs:List V)(H:Hp)(_:VK)(E:XK):Prop
 | mk (p l:Addr)(y:V)(qs:List (Int×Int))(x:Int×Int):vs=[.ref p,y]->bh (vw K H) C p "sums" (.ref l)->aF (vw K H) l qs->aA (vw K H) (fr x) y->(qs.length=11\/(qs.length<=10/\bA (qs++[x]) /\ ¬ gt (qs++[x])))->(∀H',aw (vw K H) (vw K H')->E (.ref CX) none H')->dY CX C K vs H _ E
theorem jH{CX C:Addr}(F:cn K "put" "Gauge.put" dU f fd) (T:dN K mg)(G_:fj K C "sums") (zx_NoSum:no K CX)(hgx_NoSum:mg "NoSum" = some (.ref CX)) (C_outlook:bY P w K mg base "outlook" ["sums"] 5 (dF K)) (C_is_bar:bY P w K mg base "is_bar" ["told"] 1 (eh K)):aR P w K mg base (mR P w) 6 f fd ["self", "number"] (dY CX C K):=by
 have scN:=dj.nd;refine F.okX dj ?_ ?_;walk_at "q"
 .obtain⟨_,_,_,_,_,rfl,_⟩:=h;rfl
 .obtain⟨p,l,y,qs,x,rfl,hp,hl,hy,hc,h⟩:=h;obtain⟨_,hg_MOST_SUMS⟩:=T.i_MOST_SUMS;refine⟨_,(af (aW (aB oY (aD aH (by rfl) T.b_len ba (aa (eS G_ (qv 0)) ac)) (cq (v:=V.int 11) rfl hg_MOST_SUMS ⟨_,rfl⟩) (aE _)) (ag (mn zx_NoSum rfl hgx_NoSum (aa bc ac))) aC)
   (af (az (i:=2) scN rfl (·) (am aZ (eS G_ (qv 0)) (aS (aa (qv 1) ac))))
   (af (aW (fh (ak C_is_bar nofun rfl (aa (ak C_outlook nofun rfl (aa (qv 2) ac)) ac))) (ag (mn zx_NoSum rfl hgx_NoSum (aa bc ac))) aC)
   (ag (oR G_ (qv 0) (qv 2)))))),?_⟩
  walk_at"m";symm
  simp only[wH,z9,m7];symm
  refine⟨_,hp,l,rfl,_,hl.len,cT (λz=>⟨∅,h H .rfl⟩) (λz=>⟨_,hp,jp hl hy () λc H1 nc S1 l1=>?_⟩)⟩;obtain⟨l10,sq,nok⟩ : qs.length<=10/\bA (qs++[x]) /\ ¬ gt (qs++[x]):=by
   rcases hc with y|y
   .nofun
   .exact y
  refine⟨c,qs++[x],rfl,l1,by simp,by simp;nofun,sq,λq H2 W B M s S2 cl my o fo=>?_⟩
  have nf:gc W (qs++[x]).length M:=Classical.byContradiction λz=>nok ⟨W,B,M,cl,my,z⟩;obtain⟨lq,ys,hq,_⟩:=o.at_;refine⟨q,s,_,true,rfl,hq,.inr ⟨rfl,?_⟩,λH3 S3=>⟨true,rfl,jq rfl ⟨∅,h _ (S1.trans (S2.trans S3))⟩⟩⟩;rcases o.kind with ⟨_,z⟩|⟨_,_,z⟩|⟨z,y,_⟩|⟨z,_⟩
  .exact .inl z
  .exact .inr z
  .rcases nf with u|⟨_,u⟩
   .nofun
   .exact absurd y u
  .rcases nf with u|⟨u,_⟩<;>nofun
inductive pY (CX C:Addr)(K:W.Frag)(vs:List V)(H:Hp)(Q:VK)(E:XK):Prop
 | mk (p l:Addr)(y:V)(qs:List (Int×Int))(x:Int×Int):vs=[.ref p,y]->bh (vw K H) C p "sums" (.ref l)->aF (vw K H) l qs->aA (vw K H) (fr x) y->((qs.length<=10/\bA (qs++[x])/\gt (qs++[x]) /\ ∀(c:Addr) H',vw K H c=none->c9 p (vw K H) (vw K H')->bh (vw K H') C p "sums" (.ref c)->aF (vw K H') c (qs++[x])->Q (.bl true) H')\/((qs.length=11\/(qs.length<=10/\bA (qs++[x]) /\ ¬ gt (qs++[x]))) /\ ∀H',aw (vw K H) (vw K H')->Q (.bl false) H'))->pY CX C K vs H Q E
theorem za{CX C:Addr}(F:cn K "_law_put" "_law_put" tw f fd) (T:dN K mg)(G_:fj K C "sums") (hg_NoSum:mg "NoSum" = some (.ref CX)) (xm_:PySem.W.exmOne K (.ref CX) (.ref CX)=some true)(C_Gauge_put:gY P w K mg base C "put" ["self", "number"] 6 (cx C K)) (CX_Gauge_put:tP P w K mg base C "put" ["self", "number"] 6 (dY CX C K)):aR P w K mg base cA 7 f fd ["_law_gauge", "_law_number"] (pY CX C K):=by
 have scN:=wt.nd;refine F.okQ wt ?_ ?_;walk_at "q"
 .obtain⟨_,_,_,_,_,rfl,_⟩:=h;rfl
 .obtain⟨p,l,y,qs,x,rfl,hp,hl,hy,h⟩:=h;refine⟨_,(af (az (i:=2) scN rfl (·) eQ)
   (af (zX (vt rfl (ag (cv (pH G_ C_Gauge_put nofun (qv 0) (aa (qv 1) ac))))) (uo rfl rfl (zu G_ CX_Gauge_put (hr.mono ∅) (λ_=>(qv 0)) (λ_=>(aa (qv 1) ac))) rfl hg_NoSum (λ_=>(ag (az (i:=2) scN rfl (·) eQ)))))
   (ag (aq (qv 2))))),?_⟩
  walk_at"m";skip
  symm
  simp only[z7,ww];symm
  simp only[q0,Aa];symm
  rcases h with ⟨l10,sq,ok,h⟩|⟨hc,h⟩
  .refine .inl ⟨⟨_,hp⟩,?_⟩;exact⟨p,l,y,qs,x,rfl,hp,hl,hy,l10,sq,ok,h⟩
  .refine .inr ⟨⟨_,hp⟩,?_⟩;exact⟨p,l,y,qs,x,rfl,hp,hl,hy,hc,λH1 S1=>⟨CX,rfl,xm_,h H1 S1⟩⟩
def iU(qs:List (Int×Int))(d:D):Prop:=X2 λ(b:Bool)(c:D)=>d=.lst [.lst (qs.map fr),.bl b,c]/\(b=true↔ce qs)/\((qs.length<=10/\d7 qs c)\/(qs.length=11/\c=.non))
theorem iU.uniq{qs:List (Int×Int)}{d d':D}(hF:∀q∈qs,Fq q)(h:iU qs d)(h':iU qs d'):d=d':=by
 obtain⟨b,c,rfl,hb,hc⟩:=h;obtain⟨b',c',rfl,hb',hc'⟩:=h';have e1:b=b':=by rw[Jn,hb,hb']
 have e2:c=c':=by
  rcases hc with ⟨l,hc⟩|⟨l,rfl⟩<;>rcases hc' with ⟨l',hc'⟩|⟨l',rfl⟩
  .exact hc.uniq hF hc'
  .nofun
  .nofun
  .rfl
 rw[e1,e2]
theorem d7.kinds{qs:List (Int×Int)}{d:D}(h:d7 qs d):(∃(s:Str)(r:Int×Int),d=.tup [.str s,fr r]/\PyData.strOk s=true) \/ ∃s:Str,d=.tup [.str s]/\PyData.strOk s=true:=by
 rcases h with ⟨_,rfl⟩|⟨_,_,_,_,_,_,_,nx⟩
 .exact .inl ⟨_,_,rfl,by decide +kernel⟩
 .rcases nx with ⟨_,r,_,rfl⟩|⟨_,_,rfl⟩|⟨_,_,r,_,rfl⟩
  .exact .inl ⟨_,_,rfl,by decide +kernel⟩
  .exact .inr ⟨_,rfl,by decide +kernel⟩
  .exact .inl ⟨_,_,rfl,by decide +kernel⟩
theorem iU.cmp{qs:List (Int×Int)}{d:D}(h:iU qs d):d.cmp:=by
 obtain⟨b,c,rfl,_,hc⟩:=h;obtain⟨h1,h2⟩:=nZ qs;have:(∃(s:Str)(r:Int×Int),c=.tup [.str s,fr r]/\PyData.strOk s=true)\/(∃s:Str,c=.tup [.str s]/\PyData.strOk s=true)\/c=.non:=by
  rcases hc with ⟨_,hc⟩|⟨_,rfl⟩
  .rcases hc.kinds with z|z
   .exact .inl z
   .exact .inr (.inl z)
  .exact .inr (.inr rfl)
 unfold D.cmp;rcases this with ⟨s,r,rfl,o⟩|⟨s,rfl,o⟩|rfl
 .simp only[fr,D.py,D.pys,PyData.canLay0,PyData.canLayAll0,PyData.depth,PyData.depthAll,h1,o];exact⟨rfl,()⟩
 .simp only[D.py,D.pys,PyData.canLay0,PyData.canLayAll0,PyData.depth,PyData.depthAll,h1,o];exact⟨rfl,()⟩
 .simp only[D.py,D.pys,PyData.canLay0,PyData.canLayAll0,PyData.depth,PyData.depthAll,h1];exact⟨rfl,()⟩
inductive iX (C:Addr)(K:W.Frag)(vs:List V)(H:Hp)(Q:VK)(E:XK):Prop
 | mk (p l:Addr)(qs:List (Int×Int)):vs=[.ref p]->bh (vw K H) C p "sums" (.ref l)->aF (vw K H) l qs->qs.length<=11->(qs≠[]->bA qs/\gt qs)->(∀(v:V) H' d,aw (vw K H) (vw K H')->iU qs d->aA (vw K H') d v->Q v H')->iX C K vs H Q E
theorem yO{C:Addr}(F:cn K "_law_seen" "_law_seen" nJ f fd) (T:dN K mg)(G_:fj K C "sums") (C_Gauge_told:gY P w K mg base C "told" ["self"] 1 (cN C K)) (C_Gauge_is_tight:gY P w K mg base C "is_tight" ["self"] 7 (bJ C K)) (C_Gauge_may_come:gY P w K mg base C "may_come" ["self"] 8 (bI C K)):aR P w K mg base cA 9 f fd ["_law_gauge"] (iX C K):=by
 have scN:=tI.nd;refine F.okQ tI ?_ ?_;walk_at "q"
 .obtain⟨_,_,_,rfl,_⟩:=h;rfl
 .obtain⟨p,l,qs,rfl,hp,hl,l11,ok,h⟩:=h;refine⟨_,(ag (aq (aS (aa (dX G_ C_Gauge_told nofun (qv 0)) (aa (dX G_ C_Gauge_is_tight nofun (qv 0)) (aa (dX G_ C_Gauge_may_come nofun (qv 0)) ac)))))),?_⟩
  walk_at"m";skip
  symm
  simp only[q0];symm
  refine⟨⟨_,hp⟩,p,l,qs,rfl,hp,hl,λc H1 nc S1 lc=>⟨⟨_,hp.same S1⟩,p,l,qs,rfl,hp.same S1,hl.same S1,l11,ok,λb H2 S2 hb=>?_⟩⟩;have S12:=S1.trans S2;refine⟨⟨_,hp.same S12⟩,p,l,qs,rfl,hp.same S12,hl.same S12,l11,ok,λv H3 d e3 S3 cm rd=>⟨∅,λa H4 na S4 h4=>?_⟩,λe11=>⟨∅,λa H4 na S4 h4=>?_⟩⟩
  .exact h _ H4 _ (S12.trans (S3.trans S4)) ⟨b,d,rfl,hb,.inl ⟨e3,cm⟩⟩ (.mk_lst h4 (.mk_cons (lc.same (S2.trans (S3.trans S4))).rep (.mk_cons (by unfold aA;rfl) (.mk_cons (aA.same S4 _ _ rd) .mk_nil))))
  .exact h _ H4 _ (S12.trans S4) ⟨b,.non,rfl,hb,.inr ⟨e11,rfl⟩⟩ (.mk_lst h4 (.mk_cons (lc.same (S2.trans S4)).rep (.mk_cons (by unfold aA;rfl) (.mk_cons (by unfold aA;rfl) .mk_nil))))
theorem pe{C:Addr}{H:Hp}{Q:VK}{E:XK}{p l:Addr}{qs:List (Int×Int)}(hp:bh (vw K H) C p "sums" (.ref l)) (hl:aF (vw K H) l qs)(l11:qs.length<=11)(ok:qs≠[]->bA qs/\gt qs)(h:∀(v:V) H' d,aw (vw K H) (vw K H')->iU qs d->aA (vw K H') d v->Q v H'):iX C K [.ref p] H Q E:=by
 exact⟨p,l,qs,rfl,hp,hl,l11,ok,h⟩
def zP(qs:List (Int×Int)):Prop:=qs.length<=11 /\ ∀m,1<=m->m<=qs.length->bA (qs.take m)/\gt (qs.take m)
theorem zP.snoc{qs:List (Int×Int)}{x:Int×Int}(h:zP qs)(l:qs.length<=10)(sq:bA (qs++[x]))(ok:gt (qs++[x])):zP (qs++[x]):=by
 refine⟨by simp;nofun,λm h1 h2=>?_⟩
 by_cases e:m<=qs.length
 .rw[List.take_append_of_le_length e];exact h.2 m h1 e
 .rw[List.take_of_length_le (by simp at h2 ⊢;nofun)]
  exact⟨sq,ok⟩
inductive sH (C:Addr)(K:W.Frag)(vs:List V)(H:Hp)(Q:VK)(E:XK):Prop
 | mk (a:Addr)(qs:List (Int×Int)):vs=[.ref a]->aF (vw K H) a qs->zP qs->(∀(p l:Addr) H',aw (vw K H) (vw K H')->bh (vw K H') C p "sums" (.ref l)->aF (vw K H') l qs->Q (.ref p) H')->sH C K vs H Q E
theorem ze{C:Addr}(F:cn K "_law_new" "_law_new" rJ f fd) (T:dN K mg)(G_:fj K C "sums") (C_Gauge___init__:uc P w K mg base "Gauge" C ["self"] 1 (bN C K)) (C_Gauge_put:gY P w K mg base C "put" ["self", "number"] 6 (cx C K)):aR P w K mg base cA 8 f fd ["_law_sums"] (sH C K):=by
 have scN:=wQ.nd;refine F.okQ wQ ?_ ?_;walk_at "q"
 .obtain⟨_,_,rfl,_⟩:=h;rfl
 .obtain⟨a,qs,rfl,ha,pre,h⟩:=h;refine⟨_,(af (az (i:=1) scN rfl (·) (sk C_Gauge___init__ nofun rfl))
   (af (dH PassesOwn.never rfl (dy (qv 0)) (ay (i:=2) scN rfl (·)) (ag (cv (pH G_ C_Gauge_put nofun (qv 1) (aa (qv 2) ac)))))
   (ag (aq (qv 1))))),?_⟩
  walk_at"m";skip
  refine aU.gen λN1 hN1=>?_;symm
  simp only[AF];symm
  intro p H1 np S1 i0;refine⟨p,rfl,i0,λl H2 nl B2 i2 l2=>⟨(by first|rfl|trivial),hN1 _ _ ?_⟩⟩
  obtain⟨xs,hxs,rxs⟩:=id ha;have S2:aw (vw K H) (vw K H2):=λb o e=>B2 b o (aj e np) (S1 b o e);refine aU.gen λN2 hN2=>?_;symm
  refine⟨⟨_,.of (aI (S2 _ _ hxs))⟩,?_⟩;obtain⟨Pv,hPv⟩ : ∃Pv:Nat->St->Hp->Prop,∀i σ H',Pv i σ H'↔X2 λ(c:Addr)(o2:Option V)=>σ=[some (.ref a),some (.ref p),o2]/\aw (vw K H) (vw K H')/\bh (vw K H') C p "sums" (.ref c)/\aF (vw K H') c (qs.take i):=⟨_,λ_ _ _=>J3⟩;have lx:xs.length=qs.length:=by rw[rxs.length,Jr]
  refine ci (its:=xs) Pv (λi σ H' _ pv=>?_) ((hPv _ _ _).mpr ⟨l,_,rfl,S2,i2,by rw[List.take_zero];exact l2⟩) (λi x σ H3 hi hx pv=>?_) (λσ H3 pv=>?_)
  .obtain⟨_,_,_,S3,_⟩:=(hPv _ _ _).mp pv;exact bz (S3 _ _ hxs)
  .obtain⟨c,o2,rfl,S3,i3,l3⟩:=(hPv _ _ _).mp pv;have hi':i<qs.length:=by have:=(List.getElem?_eq_some_iff.mp hx).1;nofun
   obtain⟨dq,hdq,rq⟩:=rxs.get hx;rw[Jx,JE hi'] at hdq;cases hdq;have e:qs.take (i+1)=qs.take i++[qs[i]]:=by
    rw[JT,JE hi'];rfl
   obtain⟨sq,ok⟩:=pre.2 (i+1) () ();rw[e] at sq ok;have:=pre.1;symm
   simp only[q0];symm
   refine⟨⟨_,i3⟩,?_⟩;exact⟨p,c,x,qs.take i,qs[i],rfl,i3,l3,aA.same S3 _ _ rq,by rw[Jt];nofun,sq,ok,λc' H4 nc' B4 i4 l4=>(hPv _ _ _).mpr ⟨c',_,rfl,λb o e=>B4 b o (aj e np) (S3 b o e),i4,by rw[e];exact l4⟩⟩
  .obtain⟨c,o2,rfl,S3,i3,l3⟩:=(hPv _ _ _).mp pv;refine hN2 _ _ ?_;symm
   rw[List.take_of_length_le ()] at l3;exact h p c H3 S3 i3 l3
theorem mB{H:Hp}{s:Str}{x:V}(r:aA H (.str s) x):x=.str s:=by
 unfold aA at r;exact r
def kn(r:Int×Int):Prop:=((r.1.natAbs:Int)).fdiv r.2<1000000000
instance {r:Int×Int}:Decidable (kn r):=by unfold kn;infer_instance
theorem gN{r:Int×Int}(f:Fq r)(h:kn r) : -1000000001<r.1.fdiv r.2/\r.1.fdiv r.2<1000000000:=by
 have r0:=f.1;unfold kn at h;rw[Int.fdiv_eq_ediv_of_nonneg _ ()] at h ⊢;have h1:(r.1.natAbs:Int)<1000000000*r.2:=(Int.ediv_lt_iff_lt_mul r0).mp h;refine⟨?_,?_⟩
 .refine Int.lt_of_lt_of_le (b:=-1000000000) ∅ ((Int.le_ediv_iff_mul_le r0).mpr ?_);have : -(r.1.natAbs:Int)<=r.1:=();have e : -1000000000*r.2 = -(1000000000*r.2):=Int.neg_mul ..;rw[e];nofun
 .refine (Int.ediv_lt_iff_lt_mul r0).mpr ?_;nofun
theorem gy{n:Int}(h : -2000000000<n)(h':n<2000000000):dG (n,1):=⟨⟨by show (0:Int)<1;decide,by simp⟩,⟨Bt.mono (m:=31) (by unfold Bt;nofun) ∅,Bt.mono (x:=1) (m:=1) ∅ ∅⟩,⟨d9 12,by simp⟩⟩
theorem rK(n:Int):wv (n,1)=(n:Rat):=by
 unfold wv;have:((1:Int):Rat)=1:=rfl;rw[this];grind
theorem l0{r:Int×Int}(f:Fq r):wv (r.1.fdiv r.2-1,1)<wv r:=by
 have r0:=f.1;have c:=Rat.intCast_pos.mpr r0;rw[rK];unfold wv;rw[Rat.lt_div_iff c,<-JS,Rat.intCast_lt_intCast];have u:=Int.mul_fdiv_add_fmod r.1 r.2;have m0:=JF r.1 r0;have e:(r.1.fdiv r.2-1)*r.2=r.2*r.1.fdiv r.2-r.2:=by rw[Int.sub_mul,JQ,Int.one_mul]
 rw[e];nofun
theorem td{r:Int×Int}(f:Fq r) {k:Int}(hk:1<=k):wv r<wv (r.1.fdiv r.2+k,1):=by
 have r0:=f.1;have c:=Rat.intCast_pos.mpr r0;rw[rK];unfold wv;rw[Rat.div_lt_iff c,<-JS,Rat.intCast_lt_intCast];have u:=Int.mul_fdiv_add_fmod r.1 r.2;have m1:=JG r.1 r0;have e:(r.1.fdiv r.2+k)*r.2=r.2*r.1.fdiv r.2+k*r.2:=by rw[Int.add_mul,JQ]
 have g:1*r.2<=k*r.2:=Int.mul_le_mul_of_nonneg_right hk ();rw[e];nofun
inductive jT (K:W.Frag)(vs:List V)(H:Hp)(Q:VK)(E:XK):Prop
 | mk (p:Addr):vs=[.ref p]->((∃s:Str,vw K H p=some (.tup [.str s])/\Q (.bl true) H) \/ ∃(s:Str)(x:V)(r:Int×Int),vw K H p=some (.tup [.str s,x])/\aA (vw K H) (fr r) x/\Fq r/\Bq 3000 r/\Q (.bl (decide (kn r))) H)->jT K vs H Q E
theorem zi(F:cn K "_law_few" "_law_few" tG f fd) (T:dN K mg):aR P w K mg base cA 1 f fd ["_law_come"] (jT K):=by
 have scN:=wS.nd;refine F.okQ wS ?_ ?_;walk_at "q"
 .obtain⟨_,rfl,_⟩:=h;rfl
 .obtain⟨p,rfl,h⟩:=h;refine⟨_,(ag (aq (wT (dt ij (aD aH (by rfl) T.b_len ba (aa (qv 0) ac)) ae (aE _)) (kj (dt ij (am et (aD gE (by rfl) T.b_abs la (aa (ap aT (ap aT (qv 0) ae (λ_ _=>rfl)) ae (λ_ _=>rfl)) ac)) (ap aT (ap aT (qv 0) ae (λ_ _=>rfl)) ae (λ_ _=>rfl))) (am mT ae ae) (aE _)))))),?_⟩
  walk_at"m";skip
  symm
  rcases h with ⟨s,hp,h⟩|⟨s,x,r,hp,rx,f,b,h⟩
  .exact⟨1,by simp only[gl,hp];rfl,jq ∅ h⟩
  .obtain⟨c,rfl,hc⟩:=rx.fr_at;refine⟨2,by simp only[gl,hp];rfl,cy ∅ ⟨_,hp,_,bC,c,rfl,_,hc,_,bF,_,rfl,_,hp,_,bC,c,rfl,_,hc,_,bC,_,rfl,qS f.ne (b.2.mono ∅),⟨∅,∅,∅⟩,?_⟩⟩
   have e:(if r.1<0 then -r.1 else r.1)=(r.1.natAbs:Int):=by split<;>nofun
   rw[e];exact h
theorem oG{H:Hp}{Q:VK}{E:XK}{p:Addr}{s:Str}{x:V}{r:Int×Int}(hp:vw K H p=some (.tup [.str s,x]))(rx:aA (vw K H) (fr r) x)(f:Fq r)(b:Bq 3000 r)(h:Q (.bl (decide (kn r))) H):jT K [.ref p] H Q E:=by
 exact⟨p,rfl,.inr ⟨s,x,r,hp,rx,f,b,h⟩⟩
theorem vn{H:Hp}{Q:VK}{E:XK}{p:Addr}{s:Str}(hp:vw K H p=some (.tup [.str s]))(h:Q (.bl true) H):jT K [.ref p] H Q E:=by
 exact⟨p,rfl,.inl ⟨s,hp,h⟩⟩
theorem kE{qs:List (Int×Int)}(g:cP qs):qs≠[]->bA qs/\gt qs:=λne=>⟨g.small.sumE,g.ok ne⟩
theorem eE{G:Hp}{p:Addr}{s:Str}{r:Int×Int}(h:aA G (.tup [.str s,fr r]) (.ref p)):∃b:Addr,G p=some (.tup [.str s,.ref b])/\G b=some (.tup [.int r.1,.int r.2])/\aA G (fr r) (.ref b):=by
 obtain⟨p',xs,e,hx,rx⟩:=h.tup_at;cases e;obtain⟨x0,xr,rfl,r0,rr⟩:=rx.cons_at;obtain rfl:=mB r0;obtain⟨x1,xq,rfl,r1,rq⟩:=rr.cons_at;obtain rfl:=rq.nil_at;obtain⟨b,rfl,hb⟩:=id r1.fr_at;exact⟨b,hx,hb,r1⟩
theorem fB{G:Hp}{p:Addr}{s:Str}(h:aA G (.tup [.str s]) (.ref p)):G p=some (.tup [.str s]):=by
 obtain⟨p',xs,e,hx,rx⟩:=h.tup_at;cases e;obtain⟨x0,xr,rfl,r0,rr⟩:=rx.cons_at;obtain rfl:=mB r0;obtain rfl:=rr.nil_at;exact hx
def Rf(qs:List (Int×Int))(q:Int×Int):Prop:=bA (qs++[q]) /\ ¬ gt (qs++[q])
theorem d7.beside{qs:List (Int×Int)}{d:D}(g:cP qs)(l10:qs.length<=10)(cm:d7 qs d):d=.tup [.str "any"] \/ ∃(s:Str)(r:Int×Int),d=.tup [.str s,fr r]/\(s = "just" \/ s = "from")/\Fq r/\Bq 3000 r/\(kn r->Rf qs (r.1.fdiv r.2-1,1)/\(s = "just" -> Rf qs (r.1.fdiv r.2+3,1))):=by
 have sm:∀n:Int,-2000000000<n->n<2000000000->Fq (n,1)/\bA (qs++[(n,1)]):=λn h1 h2=>⟨(gy h1 h2).1,g.small.app (gy h1 h2).1 (gy h1 h2).small⟩;rcases d7.cases g l10 cm with ⟨r,e,f,b,_,_,h⟩|⟨e,_⟩|⟨r,e,f,b,_,h⟩
 .refine .inr ⟨_,r,e,.inl rfl,f,b,λfw=>?_⟩;obtain⟨f1,f2⟩:=gN f fw;obtain⟨a1,a2⟩:=sm (r.1.fdiv r.2-1) () ();obtain⟨a3,a4⟩:=sm (r.1.fdiv r.2+3) () ();refine⟨⟨a2,λz=>?_⟩,λ_=>⟨a4,λz=>?_⟩⟩
  .have:=l0 f;rw[(h _ a1 a2).mp z] at this;exact absurd this Rat.lt_irrefl
  .have:=td f (k:=3) ∅;rw[(h _ a3 a4).mp z] at this;exact absurd this Rat.lt_irrefl
 .exact .inl e
 .refine .inr ⟨_,r,e,.inr rfl,f,b,λfw=>?_⟩;obtain⟨f1,f2⟩:=gN f fw;obtain⟨a1,a2⟩:=sm (r.1.fdiv r.2-1) () ();refine⟨⟨a2,λz=>?_⟩,λy=>absurd y ∅⟩
  exact absurd (l0 f) (Rat.not_lt.mpr ((h _ a1 a2).1.mp z))
inductive cH (CX C:Addr)(K:W.Frag)(vs:List V)(H:Hp)(Q:VK)(E:XK):Prop
 | mk (p l cp:Addr)(qs:List (Int×Int))(d:D):vs=[.ref p,.ref cp]->bh (vw K H) C p "sums" (.ref l)->aF (vw K H) l qs->cP qs->qs.length<=10->d7 qs d->aA (vw K H) d (.ref cp)->(∀H',aw (vw K H) (vw K H')->Q (.bl true) H')->cH CX C K vs H Q E
theorem gX{CX C:Addr}(F:cn K "_law_refused_beside" "_law_refused_beside" cK f fd) (T:dN K mg)(zCseen:bY P w K mg base "_law_seen" ["_law_gauge"] 9 (iX C K)) (zCfew:bY P w K mg base "_law_few" ["_law_come"] 1 (jT K)) (zCput:bY P w K mg base "_law_put" ["_law_gauge", "_law_number"] 7 (pY CX C K)):aR P w K mg base cA 10 f fd ["_law_gauge", "_law_come"] (cH CX C K):=by
 have scN:=eo.nd;refine F.okQ eo ?_ ?_;walk_at "q"
 .obtain⟨_,_,_,_,_,rfl,_⟩:=h;rfl
 .obtain⟨p,l,cp,qs,d,rfl,hp,hl,g,l10,cm,rd,h⟩:=h;refine⟨_,(af (az (i:=2) scN rfl (·) (ak zCseen nofun rfl (aa (qv 0) ac)))
   (af (az (i:=3) scN rfl (·) (aS ac))
   (af (aW (f7 (fh (ak zCfew nofun rfl (aa (qv 1) ac)))) (ag (aq eQ)) aC)
   (fE (aW (aB qw (ap aT (qv 1) ae (λ_ _=>rfl)) (aX (aa bc (aa bc ac))) (by rfl)) (ag (cv (j9 J7 J8 J9 cI (qv 3) (aa (aX (aa (am db (am et (ap aT (ap aT (qv 1) ae (λ_ _=>rfl)) ae (λ_ _=>rfl)) (ap aT (ap aT (qv 1) ae (λ_ _=>rfl)) ae (λ_ _=>rfl))) ae) (aa ae ac))) ac)))) aC)
   (fE (aW (aB fP (ap aT (qv 1) ae (λ_ _=>rfl)) bc (aE _)) (ag (cv (j9 J7 J8 J9 cI (qv 3) (aa (aX (aa (am aZ (am et (ap aT (ap aT (qv 1) ae (λ_ _=>rfl)) ae (λ_ _=>rfl)) (ap aT (ap aT (qv 1) ae (λ_ _=>rfl)) ae (λ_ _=>rfl))) ae) (aa ae ac))) ac)))) aC)
   (af (aW (aB (ss hr.ul) (dO (own:=["_law_number"]) (outs:=["_law_gauge"]) (ixs:=[0]) rfl (dy (qv 3)) rfl ⟨rfl,rfl,rfl,⟨rfl,trivial⟩,rfl,⟨⟨rfl,rfl,rfl,_,rfl⟩,trivial⟩⟩ (λ_ _ _ _=>⟨(ay (i:=0) (show (["_law_number", "_law_gauge"]:List Str).Nodup by decide +kernel) rfl (·)),(xm (fh (ak zCput nofun rfl (aa (qv 1) (aa (qv 0) ac))))),(qv 0)⟩)) (aS ac) (aE _)) (ag (aq eQ)) aC)
   (ag (aq (dt (ju hr.u64) (ak zCseen nofun rfl (aa (qv 0) ac)) (qv 2) (aE _)))))))))),?_⟩
  walk_at"m";skip
  have hF:=g.fq;refine aU.gen λN1 hN1=>?_;symm
  refine⟨p,l,qs,rfl,hp,hl,(),kE g,λv1 H1 d1 S1 sd1 rd1=>hN1 _ _ ?_⟩;refine aU.gen λN2 hN2=>?_;symm
  refine⟨∅,λe2 H2 n2 S2 h2=>hN2 _ _ ?_⟩;have S02:=S1.trans S2;obtain⟨R,hR⟩ : ∃R:(List (Int×Int)->Prop)->St->Hp->Prop,∀P σ H3,R P σ H3 ↔ ∃ws,P ws/\σ=[some (.ref p),some (.ref cp),some v1,some (.ref e2)]/\aw (vw K H1) (vw K H3)/\aF (vw K H3) e2 ws:=⟨_,λ_ _ _=>J3⟩;have app:∀{H3:Hp}{ws:List (Int×Int)}{n:Int}{R':Hp->Prop},aw (vw K H1) (vw K H3)->aF (vw K H3) e2 ws->ws.length<=2->(∀H5,aw (vw K H1) (vw K H5)->aF (vw K H5) e2 (ws++[(n,1)])->R' H5)->2<=sizeLine/\Nw K H3 (.tup [.int n,.int 1]) λx H4=>∃xs,vw K H4 e2=some (.lst xs)/\xs.length<sizeLine/\wK K H4 e2 (.lst (xs++[x])) R':=λS3 l3 lw k=>by
   refine⟨∅,λa H4 na S4 h4=>?_⟩;obtain⟨xs,hxs,rxs⟩:=l3.same S4;refine⟨xs,hxs,?_,λH5 B5 h5=>k H5 (λb o e=>B5 b o (aj e n2) (S4 _ _ (S3 _ _ e))) ⟨_,h5,?_⟩⟩
   .have:1000<=sizeLine:=∅;have:=rxs.length;rw[Jr] at this;nofun
   .rw[J5];exact (av.flat_but hxs B5 _ _ (ee _) rxs).app (.mk_cons (aA.flat_but hxs B5 _ _ (aY _) (bg h4)) .mk_nil)
  have cs:=d7.beside g l10 cm;have r02:=aA.same S02 _ _ rd;refine aU.gen λN3 hN3=>?_;have cG:(∀s r,d=.tup [.str s,fr r]->kn r)->N3 [some (.ref p),some (.ref cp),some v1,some (.ref e2)] H2:=λfw=>by
   refine hN3 _ _ ?_;refine jI.mk (R λws=>(d=.tup [.str "any"]/\ws=[]) \/ ∃(s:Str)(r:Int×Int),d=.tup [.str s,fr r]/\ws=[(r.1.fdiv r.2-1,1)]) ?_ λσ H3 hr3=>?_
   .symm
    rcases cs with e|⟨s,r,e,hs,f,b,_⟩
    .rw[e] at r02;refine⟨_,fB r02,_,bF,∅,λa3 H3 n3 S3 h3=>⟨a3,_,rfl,.inr (eJ h3),rfl,rfl,?_⟩⟩;rw[show (if false=true then !wP (V.str (Str.ofString "any")) [V.str (Str.ofString "just"),V.str (Str.ofString "from")] else wP (V.str (Str.ofString "any")) [V.str (Str.ofString "just"),V.str (Str.ofString "from")])=false by decide +kernel]
     exact⟨_,rfl,cy ∅ ((hR _ _ _).mpr ⟨[],.inl ⟨e,rfl⟩,rfl,S2.trans S3,⟨[],S3 _ _ h2,.mk_nil⟩⟩)⟩
    .rw[e] at r02;obtain⟨c,h3,h4,h5⟩:=eE r02;refine⟨_,h3,_,bF,∅,λa3 H3 n3 S3 h3'=>⟨a3,_,rfl,.inr (eJ h3'),rfl,rfl,?_⟩⟩;rw[show (if false=true then !wP (V.str s) [V.str (Str.ofString "just"),V.str (Str.ofString "from")] else wP (V.str s) [V.str (Str.ofString "just"),V.str (Str.ofString "from")])=true by rcases hs with rfl|rfl<;>decide +kernel]
     refine⟨_,rfl,jq rfl ⟨g9 (S3 _ _ h2),_,S3 _ _ h3,_,bC,c,rfl,_,S3 _ _ h4,_,bF,_,S3 _ _ h3,_,bC,c,rfl,_,S3 _ _ h4,_,bC,_,rfl,_,rfl,qS f.ne (b.2.mono ∅),?_⟩⟩;exact app (ws:=[]) (S2.trans S3) ⟨[],S3 _ _ h2,.mk_nil⟩ ∅ λH5 S5 l5=>(hR _ _ _).mpr ⟨_,.inr ⟨s,r,e,rfl⟩,rfl,S5,l5⟩
   .obtain⟨ws,hws,rfl,S3,l3⟩:=(hR _ _ _).mp hr3;refine jI.mk (R λws=>ws.length<=2 /\ ∀q∈ws,Rf qs q) ?_ λσ4 H4 hr4=>?_
    .symm
     have r03:=aA.same (S1.trans S3) _ _ rd;rcases hws with ⟨e,rfl⟩|⟨s,r,e,rfl⟩
     .rw[e] at r03;exact⟨_,fB r03,_,bF,rfl,cy ∅ ((hR _ _ _).mpr ⟨[],⟨by simp,λq hq=>by cases hq⟩,rfl,S3,l3⟩)⟩
     .have fn:=fw s r e;rcases cs with e'|⟨s',r',e',hs,f,b,rf⟩
      .rw[e] at e';cases e'
      .rw[e] at e';injection e' with e'
       injection e' with e1 e'
       injection e' with e' _
       injection e1 with e1
       subst e1;obtain rfl:=nI e';obtain⟨rf1,rf2⟩:=rf fn;rw[e] at r03;obtain⟨c,h3,h4,h5⟩:=eE r03;refine⟨_,h3,_,bF,rfl,cT (λz=>?_) λz=>(hR _ _ _).mpr ⟨_,⟨by simp,λq hq=>by rw[List.mem_singleton.mp hq];exact rf1⟩,rfl,S3,l3⟩⟩
       have zj:s = "just":=by injection z
       refine⟨g9 l3.choose_spec.1,_,h3,_,bC,c,rfl,_,h4,_,bF,_,h3,_,bC,c,rfl,_,h4,_,bC,_,rfl,_,rfl,qS f.ne (b.2.mono ∅),?_⟩;refine app S3 l3 (by simp) λH5 S5 l5=>(hR _ _ _).mpr ⟨_,⟨by simp,λq hq=>?_⟩,rfl,S5,l5⟩
       simp only[List.cons_append,List.nil_append,JL,JM,JN] at hq;rcases hq with rfl|rfl
       .exact rf1
       .exact rf2 zj
    .obtain⟨ws,⟨lw,hws⟩,rfl,S4,l4⟩:=(hR _ _ _).mp hr4;symm
     obtain⟨xs,hxs,rxs⟩:=id l4;have S04:=S1.trans S4;refine⟨⟨_,.of (aI hxs)⟩,λa5 H5 n5 S5 h5=>dE (its:=xs) (λi ys H'=>aw (vw K H4) (vw K H')/\ys=[]) (λi ys H' _ _ z=>bz (z.1 _ _ hxs)) h5 ⟨S5,rfl⟩ (λi x ys H6 hi hx h6 z=>?_) (λys H6 h6 z=>?_)⟩
     .obtain⟨S6,rfl⟩:=z;obtain⟨dq,hdq,rq⟩:=rxs.get hx;obtain⟨q,hq,rfl⟩ : ∃q,q∈ws/\fr q=dq:=by
       have:=Jy hdq;simpa using this
      have S06:=S04.trans S6;symm
      exact⟨p,l,x,qs,q,rfl,hp.same S06,hl.same S06,aA.same S6 _ _ rq,.inr ⟨.inr ⟨l10,hws q hq⟩,λH7 S7=>⟨false,rfl,cy ∅ (.mk (S7 _ _ h6) ⟨S6.trans S7,rfl⟩)⟩⟩⟩
     .obtain⟨S6,rfl⟩:=z;refine⟨∅,λb7 H7 n7 S7 h7=>⟨b7,rfl,_,S7 _ _ h6,h7,cy ∅ ?_⟩⟩;have S47:=S6.trans S7;have S07:=S04.trans S47;refine⟨p,l,qs,rfl,hp.same S07,hl.same S07,(),kE g,λv8 H8 d8 S8 sd8 rd8=>⟨d8,rd8,d1,aA.same (S4.trans (S47.trans S8)) _ _ rd1,sd8.cmp,sd1.cmp,?_⟩⟩;rw[sd8.uniq hF sd1,i8 sd1.cmp];exact h _ (S07.trans S8)
  symm
  have inj:∀{s s':Str}{r r':Int×Int},D.tup [.str s,fr r]=.tup [.str s',fr r']->r=r':=λe=>by
   injection e with e
   injection e with _ e
   injection e with e _
   exact nI e
  have r2:=aA.same S02 _ _ rd;rcases cs with e|⟨s,r,e,hs,f,b,_⟩
  .rw[e] at r2;exact vn (fB r2) ⟨_,rfl,cy ∅ (cG λs r e'=>by rw[e] at e';cases e')⟩
  .rw[e] at r2;obtain⟨c,h3,h4,h5⟩:=eE r2;refine oG h3 h5 f b ⟨_,rfl,cT (λ_=>h _ S02) λz=>cG λs' r' e'=>?_⟩;rw[<-inj (e.symm.trans e')];simpa using z
def wF(qs:List (Int×Int))(d:D)(x:Int×Int):Prop:=(X2 λ(s:Str)(r:Int×Int)=>d=.tup [.str s,fr r]/\x=r)\/(dG x /\ ∀r,d ≠ .tup [.str "just",fr r])
inductive mY (K:W.Frag)(vs:List V)(H:Hp)(Q:VK)(E:XK):Prop
 | mk (st cp:Addr)(y:V)(qs:List (Int×Int))(d:D)(x:Int×Int):vs=[.ref st,.ref cp,y]->bV (vw K H) st->cP qs->qs.length<=10->d7 qs d->aA (vw K H) d (.ref cp)->aA (vw K H) (fr x) y->dG x->(∀(v:V) H' q,c9 st (vw K H) (vw K H')->bV (vw K H') st->aA (vw K H') (fr q) v->wF qs d q->Q v H')->mY K vs H Q E
theorem xR(F:cn K "_law_next" "_law_next" nC f fd) (T:dN K mg)(zCsmall:bY P w K mg base "_law_small" ["_law_state_here"] 3 (iH K)) (zCtake:bY P w K mg base "_law_take" ["_law_state_here", "_law_many"] 1 (da K)) (zCfew:bY P w K mg base "_law_few" ["_law_come"] 1 (jT K)):aR P w K mg base cA 4 f fd ["_law_state_here", "_law_come", "_law_wish"] (mY K):=by
 have scN:=sG.nd;refine F.okQ sG ?_ ?_;walk_at "q"
 .obtain⟨_,_,_,_,_,_,rfl,_⟩:=h;rfl
 .obtain⟨st,cp,y,qs,d,x,rfl,hst,g,l10,cm,rd,ry,sx,h⟩:=h;refine⟨_,(af (aW (aB fP (ap aT (qv 1) ae (λ_ _=>rfl)) bc (aE _)) (ag (aq (ap aT (qv 1) ae (λ_ _=>rfl)))) aC)
   (af (aW (aB fP (ap aT (qv 1) ae (λ_ _=>rfl)) bc (aE _)) (ag (aq (ap cX (aS (aa (qv 2) (aa (ak zCsmall nofun rfl (aa (qv 0) ac)) ac))) (ak zCtake nofun rfl (aa (qv 0) (aa ae ac))) (λ_ _=>rfl)))) aC)
   (af (aW (f7 (fh (ak zCfew nofun rfl (aa (qv 1) ac)))) (ag (aq (ap aT (qv 1) ae (λ_ _=>rfl)))) aC)
   (af (az (i:=3) scN rfl (·) (am et (ap aT (ap aT (qv 1) ae (λ_ _=>rfl)) ae (λ_ _=>rfl)) (ap aT (ap aT (qv 1) ae (λ_ _=>rfl)) ae (λ_ _=>rfl))))
   (ag (aq (ap cX (aS (aa (ap aT (qv 1) ae (λ_ _=>rfl)) (aa (aX (aa (am aZ (am aZ (qv 3) ae) (ak zCtake nofun rfl (aa (qv 0) (aa ae ac)))) (aa ae ac))) (aa (qv 2) (aa (qv 2) ac))))) (ak zCtake nofun rfl (aa (qv 0) (aa ae ac))) (λ_ _=>rfl)))))))),?_⟩
  walk_at"m";skip
  have cs:=d7.beside g l10 cm;have mv:∀{G G':Hp}{e:D}{v:V},bV G st->c9 st G G'->e.flat=true->aA G e v->aA G' e v:=λhs B f r=>by
   obtain⟨_,_,e,_⟩:=hs;exact aA.flat_but e B _ _ f r
  refine aU.gen λN1 hN1=>?_;symm
  rcases cs with e|⟨s,r,e,hs,f,b,_⟩
  .rw[e] at rd;have hc:=fB rd;refine⟨_,hc,_,bF,rfl,cy ∅ (hN1 _ _ ?_)⟩
   symm
   refine⟨_,hc,_,bF,rfl,jq rfl ?_⟩;refine⟨st,rfl,hst,λv2 H2 q2 B2 st2 r2 f2 b21 b22 x2=>⟨∅,λe3 H3 n3 S3 h3=>?_⟩⟩;simp only[da];refine⟨st,2,rfl,st2.same S3,∅,∅,λk H4 k0 k1 B4 st4=>?_⟩;have B03:=B2.same_trans S3;have B04:=B03.trans B4;obtain⟨v,hv,hm⟩:=iI (xs:=[y,v2]) k0 (by simpa using k1)
   refine⟨_,rfl,_,rfl,_,B4 _ _ (st2.ne n3) h3,v,hv,?_⟩;simp only[JL,JM,JN] at hm;have nj:∀r,d ≠ .tup [.str "just",fr r]:=λr z=>by rw[e] at z;cases z
   rcases hm with rfl|rfl
   .exact h _ H4 x B04 st4 (mv hst B04 (aY _) ry) (.inr ⟨sx,nj⟩)
   .exact h _ H4 q2 B04 st4 (mv (st2.same S3) B4 (aY _) (aA.same S3 _ _ r2)) (.inr ⟨⟨f2,Bq.mono (m:=10) ⟨b21,b22⟩ ∅,Sx.dvd f2 x2⟩,nj⟩)
  .rw[e] at rd;obtain⟨c,hc,hb,rc⟩:=eE rd;refine⟨_,hc,_,bF,rfl,cT (λz=>?_) λz=>hN1 _ _ ?_⟩
   .exact⟨_,hc,_,bC,h _ H r (λ_ _ _ z=>z) hst rc (.inl ⟨s,r,e,rfl⟩)⟩
   refine aU.gen λN2 hN2=>?_;symm
   refine⟨_,hc,_,bF,rfl,cy ?_ (hN2 _ _ ?_)⟩
   .rcases hs with rfl|rfl<;>decide +kernel
   refine aU.gen λN3 hN3=>?_;symm
   refine oG hc rc f b ⟨_,rfl,cT (λz2=>?_) λz2=>hN3 _ _ ?_⟩
   .exact⟨_,hc,_,bC,h _ H r (λ_ _ _ z=>z) hst rc (.inl ⟨s,r,e,rfl⟩)⟩
   have fn:kn r:=by simpa using z2
   obtain⟨f1,f3⟩:=gN f fn;symm
   refine⟨_,hc,_,bC,c,rfl,_,hb,_,bF,_,hc,_,bC,c,rfl,_,hb,_,bC,_,rfl,_,rfl,qS f.ne (b.2.mono ∅),_,hc,_,bC,?_⟩;simp only[da];refine⟨st,4,rfl,hst,∅,∅,λk1 H1 k10 k11 B1 st1=>?_⟩;rw[hZ];refine⟨∅,λt2 H2 n2 S2 h2=>⟨∅,λe3 H3 n3 S3 h3=>⟨st,4,rfl,(st1.same S2).same S3,∅,∅,λk4 H4 k40 k41 B4 st4=>?_⟩⟩⟩;have B13:=B1.same_trans (S2.trans S3);have B04:=B13.trans B4;have st2:=st1.same S2;obtain⟨v,hv,hm⟩:=iI (xs:=[V.ref c,V.ref t2,y,y]) k40 (by simpa using k41)
   refine⟨_,rfl,_,rfl,_,B4 _ _ (st2.ne n3) h3,v,hv,?_⟩;simp only[JL,JM,JN] at hm;have nj:∀r,d ≠ .tup [.str "just",fr r]:=λr' z'=>by
    rw[e] at z';injection z' with z'
    injection z' with e1 _
    injection e1 with e1
    exact z (by rw[e1])
   rcases hm with rfl|rfl|rfl|rfl
   .exact h _ H4 r B04 st4 (mv hst B04 (aY _) rc) (.inl ⟨s,r,e,rfl⟩)
   .exact h _ H4 (r.1.fdiv r.2+1+k1,1) B04 st4 (mv (st2.same S3) B4 (aY _) (aA.same S3 _ _ (bg h2))) (.inr ⟨gy () (),nj⟩)
   .exact h _ H4 x B04 st4 (mv hst B04 (aY _) ry) (.inr ⟨sx,nj⟩)
   .exact h _ H4 x B04 st4 (mv hst B04 (aY _) ry) (.inr ⟨sx,nj⟩)
def TL(qs:List (Int×Int))(d:D)(x:Int×Int):Prop:=ce (qs++[x])↔(∃r,d=.tup [.str "just",fr r])\/d=.tup [.str "from",fr x]
theorem TL.eq{qs:List (Int×Int)}{d:D}{x:Int×Int}(h:TL qs d x):ce (qs++[x])↔(∃r,d=.tup [.str "just",fr r])\/d=.tup [.str "from",fr x]:=h
theorem qp{s s':Str}{r r':Int×Int}(e:D.tup [.str s,fr r]=.tup [.str s',fr r']):s=s'/\r=r':=by
 injection e with e
 injection e with e1 e
 injection e1 with e1
 injection e with e _
 exact⟨e1,nI e⟩
theorem d7.turn{qs:List (Int×Int)}{d:D}{x:Int×Int}(g:cP qs)(l10:qs.length<=10)(cm:d7 qs d)(nx:wF qs d x):Fq x/\bA (qs++[x])/\((gt (qs++[x])/\cP (qs++[x])/\TL qs d x)\/(¬ gt (qs++[x]) /\ ∃r,d=.tup [.str "from",fr r]/\wv x<wv r/\Fq r/\Bq 3000 r/\cP (qs++[r])/\TL qs d r)):=by
 have jf:∀{r r':Int×Int},D.tup [.str "just",fr r] ≠ .tup [.str "from",fr r']:=λz=>absurd (qp z).1 ∅
 rcases d7.cases g l10 cm with ⟨r,e,f,b,g',tt,h⟩|⟨e,h⟩|⟨r,e,f,b,g',h⟩
 .have xr:x=r:=by
   rcases nx with ⟨s,r',e',rfl⟩|⟨_,nj⟩
   .exact (qp (e.symm.trans e')).2.symm
   .exact absurd e (nj r)
  subst xr;have sq:=g'.small.sumE;exact⟨f,sq,.inl ⟨(h x f sq).mpr rfl,g',⟨λ_=>.inl ⟨x,e⟩,λ_=>tt⟩⟩⟩
 .have sx:dG x:=by
   rcases nx with ⟨s,r',e',rfl⟩|⟨sx,_⟩
   .rw[e] at e';cases e'
   .exact sx
  have sq:=g.small.app sx.1 sx.small;obtain⟨a,c,k⟩:=h x sx.1 sq;exact⟨sx.1,sq,.inl ⟨a,k sx,⟨λz=>absurd z c,λz=>by rcases z with ⟨r,z⟩|z<;>(rw[e] at z;cases z)⟩⟩⟩
 .have tlr:TL qs d r:=by
   obtain⟨a,c,_⟩:=h r f g'.small.sumE;have ok:=a.mpr Rat.le_refl;exact⟨λ_=>.inr e,λ_=>(c ok).mpr rfl⟩
  by_cases xr:x=r
  .subst xr;have sq:=g'.small.sumE;exact⟨f,sq,.inl ⟨(h x f sq).1.mpr Rat.le_refl,g',tlr⟩⟩
  .have sx:dG x:=by
    rcases nx with ⟨s,r',e',rfl⟩|⟨sx,_⟩
    .exact absurd (qp (e.symm.trans e')).2.symm xr
    .exact sx
   have sq:=g.small.app sx.1 sx.small;obtain⟨a,c,k⟩:=h x sx.1 sq;refine⟨sx.1,sq,?_⟩;by_cases ok:gt (qs++[x])
   .refine .inl ⟨ok,k sx ok,⟨λz=>absurd ((c ok).mp z) xr,λz=>?_⟩⟩;rcases z with ⟨r',z⟩|z
    .exact absurd (z.symm.trans e) jf
    .exact absurd (qp (e.symm.trans z)).2.symm xr
   .exact .inr ⟨ok,r,e,Rat.not_le.mp λz=>ok (a.mpr z),f,b,g',tlr⟩
theorem qW{p q:Int×Int}(hp:Fq p)(hq:Fq q):p.1*q.2<q.1*p.2↔wv p<wv q:=by
 have p2:(0:Rat)<((p.2:Int):Rat):=Rat.intCast_pos.mpr hp.1;have q2:(0:Rat)<((q.2:Int):Rat):=Rat.intCast_pos.mpr hq.1;rw[<-Rat.intCast_lt_intCast,JS,JS];unfold wv;rw[Rat.div_lt_iff p2];have:(q.1:Rat)/(q.2:Rat)*(p.2:Rat)=((q.1:Rat)*(p.2:Rat))/(q.2:Rat):=⋯;rw[this,Rat.lt_div_iff q2]
def spLaw(K:W.Frag):Sp:=λvs H Q _=>∃(a:Addr)(ns:List Int),vs=[.ref a]/\fW K H a (ns.map V.int)/\ns.length<=63 /\ ∀H',Q (.bl true) H'
theorem yz{CX C:Addr}(F:cn K "law" "law" gz f fd) (T:dN K mg)(G_:fj K C "sums")
  (zCstate:bY P w K mg base "_law_state" ["_law_script", "_law_k"] 2 (kh K)) (C_Gauge___init__:uc P w K mg base "Gauge" C ["self"] 1 (bN C K)) (zCcrowd:bY P w K mg base "_law_crowd" ["_law_state_here", "_law_most"] 4 (kY K)) (zCcrowd_sums:bY P w K mg base "_law_crowd_sums" ["_law_crowd_here", "_law_many"] 4 (eH K)) (C_Gauge_may_come:gY P w K mg base C "may_come" ["self"] 8 (bI C K)) (zCrefused_beside:bY P w K mg base "_law_refused_beside" ["_law_gauge", "_law_come"] 10 (cH CX C K)) (C_Gauge_told:gY P w K mg base C "told" ["self"] 1 (cN C K)) (zCnext:bY P w K mg base "_law_next" ["_law_state_here", "_law_come", "_law_wish"] 4 (mY K)) (zCput:bY P w K mg base "_law_put" ["_law_gauge", "_law_number"] 7 (pY CX C K)) (C_Gauge_put:gY P w K mg base C "put" ["self", "number"] 6 (cx C K)) (C_Gauge_is_tight:gY P w K mg base C "is_tight" ["self"] 7 (bJ C K)) (zCtake:bY P w K mg base "_law_take" ["_law_state_here", "_law_many"] 1 (da K)) (C_Gauge_take:gY P w K mg base C "take" ["self"] 1 (d6 C K)) (zCseen:bY P w K mg base "_law_seen" ["_law_gauge"] 9 (iX C K)) (zCnew:bY P w K mg base "_law_new" ["_law_sums"] 8 (sH C K)):aR P w K mg base cA 11 f fd ["_law_script"] (spLaw K):=by
 have scN:=sM.nd;refine F.okQ sM ?_ ?_;walk_at "q"
 .obtain⟨a,_,rfl,_⟩:=h;rfl
 .obtain⟨a,ns,rfl,hS,hl,h⟩:=h;refine⟨_,(fE (dH PassesOwn.never rfl (dz rfl T.b_range (aa ae ac)) (ay (i:=1) scN rfl (·)) (af (az (i:=2) scN rfl (·) (ak zCstate nofun rfl (aa (qv 0) (aa (qv 1) ac))))
   (af (az (i:=3) scN rfl (·) (sk C_Gauge___init__ nofun rfl))
   (af (az (i:=4) scN rfl (·) (ak zCcrowd_sums nofun rfl (aa (ak zCcrowd nofun rfl (aa (qv 2) (aa ae ac))) (aa ae ac))))
   (af (dH PassesOwn.never rfl (dz rfl T.b_range (aa ae ac)) (ay (i:=5) scN rfl (·)) (af (az (i:=6) scN rfl (·) (dX G_ C_Gauge_may_come nofun (qv 3)))
   (af (aW (f7 (fh (ak zCrefused_beside nofun rfl (aa (qv 3) (aa (qv 6) ac))))) (ag (aq eQ)) aC)
   (af (az (i:=7) scN rfl (·) (dX G_ C_Gauge_told nofun (qv 3)))
   (af (az (i:=8) scN rfl (·) (ak zCnext nofun rfl (aa (qv 2) (aa (qv 6) (aa (ap cX (qv 4) (qv 5) (λ_ _=>rfl)) ac)))))
   (fE (az (i:=9) scN rfl (·) (ak zCput nofun rfl (aa (qv 3) (aa (qv 8) ac))))
   (fE (aW (f7 (eg (qv 9) (λ_=>rfl))) (af (aW (QW.pt (se (aB oJ (ap aT (qv 6) ae (λ_ _=>rfl)) bc (aE _)) (og (f7 (aB ij (am aN (ap aT (qv 8) ae (λ_ _=>rfl)) (ap aT (ap aT (qv 6) ae (λ_ _=>rfl)) ae (λ_ _=>rfl))) (am aN (ap aT (ap aT (qv 6) ae (λ_ _=>rfl)) ae (λ_ _=>rfl)) (ap aT (qv 8) ae (λ_ _=>rfl))) (aE _)))))) (ag (aq eQ)) aC)
   (af (cv (pH G_ C_Gauge_put nofun (qv 3) (aa (ap aT (qv 6) ae (λ_ _=>rfl)) ac)))
   (ag (az (i:=8) scN rfl (·) (ap aT (qv 6) ae (λ_ _=>rfl)))))) aC)
   (af (az (i:=10) scN rfl (·) (wT (dt fP (ap aT (qv 6) ae (λ_ _=>rfl)) bc (aE _)) (kj (tW (dt fP (ap aT (qv 6) ae (λ_ _=>rfl)) bc (aE _)) (kj (dt (ju hr.u64) (qv 8) (ap aT (qv 6) ae (λ_ _=>rfl)) (aE _)))))))
   (af (aW (QW.pt (se (aB (oo hr.u64) (dX G_ C_Gauge_told nofun (qv 3)) (am aZ (qv 7) (aS (aa (qv 8) ac))) (aE _)) (og (aB oJ (dX G_ C_Gauge_is_tight nofun (qv 3)) (qv 10) (aE _))))) (ag (aq eQ)) aC)
   (fE (aW (aB fP (ak zCtake nofun rfl (aa (qv 2) (aa ae ac))) ae (aE _)) (af (cv (dX G_ C_Gauge_take nofun (qv 3)))
   (ag (cv (pH G_ C_Gauge_put nofun (qv 3) (aa (qv 8) ac))))) aC)
   (ag (aW (QW.pt (kq (aB fP (am du (qv 5) ae) ae (aE _)) (iL (aB (oo hr.u64) (ak zCseen nofun rfl (aa (qv 3) ac)) (ak zCseen nofun rfl (aa (ak zCnew nofun rfl (aa (dX G_ C_Gauge_told nofun (qv 3)) ac)) ac)) (aE _))))) (ag (aq eQ)) aC))))))))))))
   (ag (aW (QW.pt (se (aB uR (dX G_ C_Gauge_may_come nofun (qv 3)) oz (aE _)) (og (fh (ak zCput nofun rfl (aa (qv 3) (aa (aX (aa ae (aa ae ac))) ac))))))) (ag (aq eQ)) aC)))))))
   (ag (aq eQ))),?_⟩
  walk_at"m";skip
  refine jI.mk (λσ H2=>True) ?_ ?_
  .symm
   obtain⟨Pv,hPv⟩ : ∃Pv:Nat->St->Hp->Prop,∀k σ H',Pv k σ H'↔(k=0 -> ∃o1 o2 o3 o4 o5 o6 o7 o8 o9 o10,σ=[some (.ref a),o1,o2,o3,o4,o5,o6,o7,o8,o9,o10]/\aw (vw K H) (vw K H')):=⟨_,λ_ _ _=>J3⟩;refine⟨∅,∅,ci (its:=fu 0 1) Pv (λ_ _ _ _ _=>ck) ((hPv _ _ _).mpr λ_=>⟨_,_,_,_,_,_,_,_,_,_,rfl,.rfl⟩) (λi x σ H1 hi hx pv=>?_) (λσ H1 pv=>trivial)⟩;obtain⟨hi',rfl⟩:=gd hx;obtain rfl:i=0:=();obtain⟨o1,o2,o3,o4,o5,o6,o7,o8,o9,o10,rfl,s1⟩:=(hPv _ _ _).mp pv rfl;refine aU.gen λN1 hN1=>?_;symm
   simp only[kh];symm
   refine⟨⟨0,by simp⟩,⟨ns,hS.same s1⟩,λst H2 hst0 s2 st2=>hN1 _ _ ?_⟩
   refine aU.gen λN2 hN2=>?_;symm
   simp only[AF];symm
   intro p H3 np S3 i0;refine⟨p,rfl,i0,λl4 H4 nl4 B4 i4 l4'=>⟨(by first|rfl|trivial),hN2 _ _ ?_⟩⟩
   have S24:aw (vw K H2) (vw K H4):=λb o e=>B4 b o (aj e np) (S3 b o e);have st4:=st2.same S24;refine aU.gen λN3 hN3=>?_;symm
   refine⟨st,4,rfl,∅,st4,λc5 H5 cs B5 st5 l5 c1 c2 c3 c4 lc hc=>?_⟩;refine⟨c5,cs,11,rfl,l5,(),(),λc hc=>⟨(c1 c hc).1,(c1 c hc).2.1,(c2 c hc).1,(c2 c hc).2⟩,λwl H6 ws S6 l6 nwl lws hws=>hN3 _ _ ?_⟩;have sws:∀q∈ws,dG q:=λq hq=>by
    obtain⟨k,hk⟩:=List.getElem?_of_mem hq;have:=(List.getElem?_eq_some_iff.mp hk).1;exact⟨(hws k q hk).1,(yy c3 () () (hws k q hk).1 (hws k q hk).2).mono ∅,wb c3 () (hws k q hk).1 (hws k q hk).2⟩
   have i6:bh (vw K H6) C p "sums" (.ref l4):=(i4.stBut st4 B5).same S6;have l46:aF (vw K H6) l4 []:=(l4'.stBut st4 B5).same S6;have st6:=st5.same S6;refine aU.gen λN4 hN4=>?_;symm
   obtain⟨Pw,hPw⟩ : ∃Pw:Nat->St->Hp->Prop,∀j σ H',Pw j σ H'↔X8 λ(l:Addr)(qs:List (Int×Int))(o5 o6 o7 o8 o9 o10:Option V)=>σ=[some (.ref a),some (.int (0+0)),some (.ref st),some (.ref p),some (.ref wl),o5,o6,o7,o8,o9,o10]/\qs.length=j/\cP qs/\zP qs/\bh (vw K H') C p "sums" (.ref l)/\aF (vw K H') l qs/\bV (vw K H') st/\aF (vw K H') wl ws:=⟨_,λ_ _ _=>J3⟩;refine⟨∅,∅,ci (its:=fu 0 11) Pw (λ_ _ _ _ _=>ck) ((hPw _ _ _).mpr ⟨l4,[],_,_,_,_,_,_,rfl,rfl,⟨by simp,.inl rfl⟩,⟨by simp,λm h1 h2=>by simp at h2;nofun⟩,i6,l46,st6,l6⟩) (λj x σ H7 hj hx7 pw=>?_) (λσ H7 pw=>?_)⟩
   .obtain⟨hj',rfl⟩:=gd hx7;obtain⟨l,qs,o5,o6,o7,o8,o9,o10,rfl,rfl,g,pre,i7,l7,st7,w7⟩:=(hPw _ _ _).mp pw;have l10:qs.length<=10:=();have hF:=g.fq;refine aU.gen λM1 hM1=>?_;symm
    simp only[q0];symm
    refine⟨⟨_,i7⟩,?_⟩;refine⟨p,l,qs,rfl,i7,l7,(),kE g,λv8 H8 d _ S8 cm rd=>hM1 _ _ ?_,λz=>by nofun⟩
    obtain⟨cp,rfl⟩ : ∃cp,v8=.ref cp:=by
     rcases cm.kinds with ⟨s,r,rfl,_⟩|⟨s,rfl,_⟩<;>(obtain⟨p,_,e,_⟩:=rd.tup_at;exact⟨p,e⟩)
    have fd:d.flat=true:=by
     rcases cm.kinds with ⟨s,r,rfl,_⟩|⟨s,rfl,_⟩<;>rfl
    refine aU.gen λM2 hM2=>?_;symm
    refine⟨p,l,cp,qs,d,rfl,i7.same S8,l7.same S8,g,l10,cm,rd,λH9 S9=>⟨true,rfl,cy ∅ (hM2 _ _ ?_)⟩⟩;have S79:=S8.trans S9;refine aU.gen λM3 hM3=>?_;symm
    simp only[q0];symm
    refine⟨⟨_,i7.same S79⟩,?_⟩;refine⟨p,l,qs,rfl,i7.same S79,l7.same S79,λah H10 nah S10 lah=>hM3 _ _ ?_⟩;have S70:=S79.trans S10;have st10:=st7.same S70;have mv:∀{G G':Hp}{e:D}{v:V},bV G st->c9 st G G'->e.flat=true->aA G e v->aA G' e v:=λhs B f r=>by
     obtain⟨_,_,e,_⟩:=hs;exact aA.flat_but e B _ _ f r
    refine aU.gen λM4 hM4=>?_;symm
    obtain⟨wx,hwx,rwx⟩:=id (w7.same S70);have hjw:qs.length<ws.length:=();obtain⟨yw,eyw,ryw⟩:=rwx.at (i:=qs.length) (d:=fr ws[qs.length]) (by rw[Jx,JE hjw];rfl)
    refine⟨wx,hwx,yw,by rw[Int.zero_add];exact cw eyw,st,cp,yw,qs,d,ws[qs.length],rfl,st10,g,l10,cm,aA.same (S9.trans S10) _ _ rd,ryw,sws _ (JD hjw),λv11 H11 x B11 st11 rx nn=>hM4 _ _ ?_⟩
    obtain⟨fx,sqx,turn⟩:=d7.turn g l10 cm nn;have i11:=(i7.same S70).stBut st10 B11;have l11:=(l7.same S70).stBut st10 B11;have w11:=(w7.same S70).stBut st10 B11;have cp11:=mv st10 B11 fd (aA.same (S9.trans S10) _ _ rd);have ah11:=lah.stBut st10 B11;obtain⟨R,hR⟩ : ∃R:St->Hp->Prop,∀σ H',R σ H'↔X5 λ(l':Addr)(v:V)(o9 o10:Option V)(y:Int×Int)=>σ=[some (.ref a),some (.int (0+0)),some (.ref st),some (.ref p),some (.ref wl),some (.int (0+qs.length)),some (.ref cp),some (.ref ah),some v,o9,o10]/\Fq y/\cP (qs++[y])/\TL qs d y/\aA (vw K H') (fr y) v/\bh (vw K H') C p "sums" (.ref l')/\aF (vw K H') l' (qs++[y])/\bV (vw K H') st/\aF (vw K H') wl ws/\aA (vw K H') d (.ref cp)/\aF (vw K H') ah qs:=⟨_,λ_ _=>J3⟩;obtain⟨R0,hR0⟩ : ∃R0:St->Hp->Prop,∀σ H',R0 σ H' ↔ ∃(t:Bool),σ=[some (.ref a),some (.int (0+0)),some (.ref st),some (.ref p),some (.ref wl),some (.int (0+qs.length)),some (.ref cp),some (.ref ah),some v11,some (.bl t),o10]/\aA (vw K H') (fr x) v11/\bV (vw K H') st/\aF (vw K H') wl ws/\aA (vw K H') d (.ref cp)/\aF (vw K H') ah qs/\((t=true/\cP (qs++[x])/\TL qs d x /\ ∃l':Addr,bh (vw K H') C p "sums" (.ref l')/\aF (vw K H') l' (qs++[x]))\/(t=false/\bh (vw K H') C p "sums" (.ref l)/\aF (vw K H') l qs /\ ∃r,d=.tup [.str "from",fr r]/\wv x<wv r/\Fq r/\Bq 3000 r/\cP (qs++[r])/\TL qs d r)):=⟨_,λ_ _=>J3⟩;refine jI.mk R0 ?_ λσ12 H12 h12=>?_
    .symm
     refine⟨p,l,v11,qs,x,rfl,i11,l11,rx,?_⟩;rcases turn with ⟨ok,g',tl⟩|⟨nok,z⟩
     .exact .inl ⟨l10,sqx,ok,λl12 H12 nl12 B12 i12 l12'=>(hR0 _ _).mpr ⟨true,rfl,i11.rep B12 rx,i11.st B12 st11,i11.ls B12 w11,i11.rep B12 cp11,i11.ls B12 ah11,.inl ⟨rfl,g',tl,l12,i12,l12'⟩⟩⟩
     .exact .inr ⟨.inr ⟨l10,sqx,nok⟩,λH12 S12=>(hR0 _ _).mpr ⟨false,rfl,aA.same S12 _ _ rx,st11.same S12,w11.same S12,aA.same S12 _ _ cp11,ah11.same S12,.inr ⟨rfl,i11.same S12,l11.same S12,z⟩⟩⟩
    obtain⟨t12,rfl,rx12,st12,w12,cp12,ah12,k12⟩:=(hR0 _ _).mp h12;refine jI.mk R ?_ λσ13 H13 h13=>?_
    .symm
     rcases k12 with ⟨rfl,g',tl,l',i12,l12⟩|⟨rfl,i12,l12,r,e,lt,fr',br,g',tl⟩
     .exact (hR _ _).mpr ⟨l',v11,_,_,x,rfl,fx,g',tl,rx12,i12,l12,st12,w12,cp12,ah12⟩
     .have cp2:=cp12;rw[e] at cp12;obtain⟨c,hc,hb,rc⟩:=eE cp12;obtain⟨bx,rfl,hbx⟩:=id rx12.fr_at;refine⟨_,hc,_,bF,rfl,cy (λz=>z rfl) ⟨bx,rfl,_,hbx,_,bF,_,hc,_,bC,c,rfl,_,hb,_,bC,?_⟩⟩;rw[dD];refine⟨bO (m:=20000) (n:=20000) ((sqx x (by simp)).2.1.1.mono ∅) (br.2.mono ∅),_,hc,_,bC,c,rfl,_,hb,_,bF,bx,rfl,_,hbx,_,bC,?_⟩
      rw[dD];refine⟨bO (m:=20000) (n:=20000) (br.1.mono ∅) ((sqx x (by simp)).2.1.2.mono ∅),_,rfl,_,rfl,cy (λz=>z ((qW fx fr').mpr lt)) ?_⟩
      simp only[q0];symm
      refine⟨⟨_,i12⟩,_,hc,_,bC,?_⟩;refine⟨p,l,.ref c,qs,r,rfl,i12,l12,rc,l10,g'.small.sumE,g'.ok (by simp),λl13 H13 nl13 B13 i13 l13'=>?_⟩
      have cp13:=i12.rep B13 cp2;have cp3:=cp13;rw[e] at cp3;obtain⟨c',hc',_,rc'⟩:=eE cp3;exact⟨_,hc',_,bC,(hR _ _).mpr ⟨l13,_,_,_,r,rfl,fr',g',tl,rc',i13,l13',i12.st B13 st12,i12.ls B13 w12,cp13,i12.ls B13 ah12⟩⟩
    obtain⟨l',v,o9',o10',y,rfl,fy,g',tl,ry,i13,l13,st13,w13,cp13,ah13⟩:=(hR _ _).mp h13;have neT:qs++[y]≠[]:=by simp
    have okT:=g'.ok neT;have sqT:=g'.small.sumE;have lT:(qs++[y]).length=qs.length+1:=by simp
    refine aU.gen λM6 hM6=>?_;have tgt:∀b:Bool,(b=true↔ce (qs++[y]))->M6 [some (.ref a),some (.int (0+0)),some (.ref st),some (.ref p),some (.ref wl),some (.int (0+qs.length)),some (.ref cp),some (.ref ah),some v,o9',some (.bl b)] H13:=λb hb=>by
     refine hM6 _ _ ?_;refine aU.gen λM7 hM7=>?_;symm
     simp only[q0];symm
     refine⟨⟨_,i13⟩,?_⟩;refine⟨p,l',qs++[y],rfl,i13,l13,λc14 H14 nc14 S14 l14=>jp (ah13.same S14) (aA.same S14 _ _ ry) l10 λc15 H15 nc15 S15 l15=>⟨_,(l14.same S15).rep,_,l15.rep,kP _,kP _,?_⟩⟩;rw[i8 (kP _)];have S35:=S14.trans S15;refine cy ∅ ⟨⟨_,i13.same S35⟩,?_⟩;refine⟨p,l',qs++[y],rfl,i13.same S35,l13.same S35,(),λ_=>⟨sqT,okT⟩,λb' H16 S16 hb'=>?_⟩;have S36:=S35.trans S16;have ebb:b'=b:=by rw[Jn,hb',hb]
     subst ebb;refine⟨rfl,cy (λz=>z rfl) (hM7 _ _ ?_)⟩;obtain⟨R8,hR8⟩ : ∃R8:St->Hp->Prop,∀σ H',R8 σ H' ↔ ∃l8:Addr,σ=[some (.ref a),some (.int (0+0)),some (.ref st),some (.ref p),some (.ref wl),some (.int (0+qs.length)),some (.ref cp),some (.ref ah),some v,o9',some (.bl b')]/\bh (vw K H') C p "sums" (.ref l8)/\aF (vw K H') l8 (qs++[y])/\bV (vw K H') st/\aF (vw K H') wl ws:=⟨_,λ_ _=>J3⟩;have st16:=st13.same S36;have i16:=i13.same S36;refine jI.mk R8 ?_ λσ20 H20 h20=>?_
     .symm
      simp only[da];refine⟨st,3,rfl,st16,∅,∅,λk H17 k0 k1 B17 st17=>?_⟩;have i17:=i16.stBut st16 B17;have l17:=(l13.same S36).stBut st16 B17;have w17:=(w13.same S36).stBut st16 B17;have r17:=mv st16 B17 (aY _) (aA.same S36 _ _ ry);by_cases kz:k=0
      rotate_left
      .exact⟨rfl,cy (λz=>kz (by injection z)) ((hR8 _ _).mpr ⟨l',rfl,i17,l17,st17,w17⟩)⟩
      refine⟨rfl,jq (by rw[kz]) ?_⟩
      simp only[q0];symm
      refine⟨⟨_,i17⟩,?_⟩;refine⟨p,l',qs,y,rfl,i17,l17,λl18 H18 B18 i18 l18'=>⟨⟨_,i18⟩,?_⟩⟩;refine⟨p,l18,v,qs,y,rfl,i18,l18',i17.rep B18 r17,l10,sqT,okT,λl19 H19 nl19 B19 i19 l19'=>(hR8 _ _).mpr ⟨l19,rfl,i19,l19',i18.st B19 (i17.st B18 st17),i18.ls B19 (i17.ls B18 w17)⟩⟩
     .obtain⟨l8,rfl,i20,l20,st20,w20⟩:=(hR8 _ _).mp h20;have fin:Pw (qs.length+1) [some (.ref a),some (.int (0+0)),some (.ref st),some (.ref p),some (.ref wl),some (.int (0+qs.length)),some (.ref cp),some (.ref ah),some v,o9',some (.bl b')] H20:=(hPw _ _ _).mpr ⟨l8,_,_,_,_,_,_,_,rfl,lT,g',pre.snoc l10 sqT okT,i20,l20,st20,w20⟩;symm
      refine⟨∅,cT (λ_=>?_) λ_=>fin⟩;refine pe i20 l20 () (λ_=>⟨sqT,okT⟩) λv21 H21 d21 S21 sd21 rd21=>?_;simp only[q0];symm
      refine⟨⟨_,i20.same S21⟩,?_⟩;refine⟨p,l8,qs++[y],rfl,i20.same S21,l20.same S21,λc22 H22 nc22 S22 l22=>?_⟩;refine⟨c22,qs++[y],rfl,l22,pre.snoc l10 sqT okT,λp23 l23 H23 S23 i23 l23'=>pe i23 l23' () (λ_=>⟨sqT,okT⟩) λv24 H24 d24 S24' sd24 rd24=>⟨d21,aA.same (S22.trans (S23.trans S24')) _ _ rd21,d24,rd24,sd21.cmp,sd24.cmp,?_⟩⟩;have S04:=S21.trans (S22.trans (S23.trans S24'));rw[sd21.uniq g'.fq sd24,i8 sd24.cmp];exact cy ∅ ((hPw _ _ _).mpr ⟨l8,_,_,_,_,_,_,_,rfl,lT,g',pre.snoc l10 sqT okT,i20.same S04,l20.same S04,st20.same S04,w20.same S04⟩)
    symm
    rcases d7.beside g l10 cm with e|⟨s,r,e,hs,f,b,_⟩
    .rw[e] at cp13;have hc:=fB cp13;refine⟨_,hc,_,bF,rfl,cy ∅ ⟨_,hc,_,bF,rfl,cy ∅ (tgt false ?_)⟩⟩
     rw[tl.eq];exact⟨(λz=>by cases z),λz=>by rcases z with ⟨r,z⟩|z<;>(rw[e] at z;cases z)⟩
    .rw[e] at cp13;obtain⟨c,hc,hb,rc⟩:=eE cp13;rcases hs with rfl|rfl
     .refine⟨_,hc,_,bF,rfl,jq rfl (tgt true ?_)⟩;rw[tl.eq];exact⟨λ_=>.inl ⟨r,e⟩,λ_=>rfl⟩
     .refine⟨_,hc,_,bF,rfl,cy ∅ ⟨_,hc,_,bF,rfl,jq rfl ⟨_,hc,_,bC,_,ry,_,rc,fg _,fg _,tgt _ ?_⟩⟩⟩
      rw[kK,decide_eq_true_iff,tl.eq];constructor
      .intro z;exact .inr (by rw[e,z])
      .rintro (⟨r',z⟩|z)
       .exact absurd (qp (e.symm.trans z)).1 ∅
       .exact (qp (e.symm.trans z)).2.symm
   .obtain⟨l,qs,o5,o6,o7,o8,o9,o10,rfl,lq,g,pre,i7,l7,st7,w7⟩:=(hPw _ _ _).mp pw;have l11:qs.length=11:=lq;show N4 _ _;refine hN4 _ _ ?_;symm
    simp only[q0];symm
    refine⟨⟨_,i7⟩,?_⟩;refine⟨p,l,qs,rfl,i7,l7,(),kE g,λv8 H8 d z=>by nofun,λ_=>?_⟩
    symm
    refine⟨∅,λt9 H9 n9 S9 h9=>?_⟩;exact⟨p,l,_,qs,(0,1),rfl,i7.same S9,l7.same S9,bg h9,.inr ⟨.inl l11,λH10 S10=>⟨false,rfl,cy ∅ ((hPv _ _ _).mpr λz=>by cases z)⟩⟩⟩
  .symm
   intro σ H2 _;exact h H2
end
local macro_rules | `(tactic| walk_at "bd")=>`(tactic| (intro _ _ _ _ _ _ us hl; first | exact yA (g:=fun us=>bindArgs _ ⟨us,[]⟩) (z:=fun us=>pure (List.zip _ us)) us hl fun _=>rfl | exact yT (g:=fun us=>bindArgs _ ⟨us,[]⟩) (z:=fun us=>pure (List.zip _ us)) us hl fun _ _=>rfl | exact yo (g:=fun us=>bindArgs _ ⟨us,[]⟩) (z:=fun us=>pure (List.zip _ us)) us hl fun _ _ _=>rfl))
theorem all_mk{l:PySem.W.OpenLaw}{w:World}{K:W.Frag}{h:Heap}{mg:Str->Option Value}{fa f35 eG eX:Addr}(X:K.In h)(G:h.Ns mainGlobals mg)(hfa:mg "law" = some (.ref fa)) (hst:l.prog.given.tree=none)
  (nG:nsIn K mainGlobals "Gauge" = some (some (.ref eG))) (nX:nsIn K mainGlobals "NoSum" = some (some (.ref eX))) (xo:no K eX)(qX:PySem.W.exmOne K (.ref eX) (.ref eX)=some true)
  (pg:PySem.W.plainGet K eG Str.empty=true)(hd:PySem.W.hasDictIn K eG=true)(po:PySem.W.plainOver K eG=true)(sa:PySem.W.findIn K (.ref eG) "__setattr__" = some (some (.builtin "object.__setattr__"))) (nS:PySem.W.findIn K (.ref eG) "sums" = some none)
  {od35 an35:Option Addr}{sl35:Array (Option Value)}
  {oc35 kV35 dc35 pm35 cd35 ct35:Value}
  (h0:Hf K "greatest_divisor" cg)
  (h1:Hf K "trimmed" gS)
  (h2:Hf K "ratio" kD)
  (h3:Hf K "minus" lB)
  (h4:Hf K "cleared" gO)
  (h5:Hf K "divided" gZ)
  (h6:Hf K "worth" lC)
  (h7:Hf K "met" sB)
  (h8:Hf K "next_row" fX)
  (h9:Hf K "step_rows" e6)
  (h10:Hf K "steps" ky)
  (h11:Hf K "furthest_step" dc)
  (h12:Hf K "nought_bar" eK)
  (h13:Hf K "outlook" hV)
  (h14:Hf K "is_bar" jo)
  (h15:Hf K "had" rM)
  (h16:Hf K "number_behind" de)
  (h17:Hf K "next_sum" fZ)
  (h18:Hf K "_law_cell_at" gL)
  (h19:Hf K "_law_state" kF)
  (h20:Hf K "_law_take" nW)
  (h21:Hf K "_law_divisor" gR)
  (h22:Hf K "_law_low" rR)
  (h23:Hf K "_law_small" kg)
  (h24:Hf K "_law_above" ly)
  (h25:Hf K "_law_plus" nu)
  (h26:Hf K "_law_crowd" lA)
  (h27:Hf K "_law_times" ku)
  (h28:Hf K "_law_crowd_sums" eF)
  (h29:Hf K "_law_put" tw)
  (h30:Hf K "_law_seen" nJ)
  (h31:Hf K "_law_new" rJ)
  (h32:Hf K "_law_few" tG)
  (h33:Hf K "_law_refused_beside" cK)
  (h34:Hf K "_law_next" nC)
  (a35:nsIn K mainGlobals "law" = some (some (.ref f35))) (l35:K.lookup f35=some ⟨oc35,od35,.func (fnOf "law" "law" (bX gz) (bj gz) (ai gz) .none kV35 dc35 pm35 an35 cd35 ct35),sl35⟩) (c35:codeIn K cd35 "law" = true) (k35:keepIn K (.ref f35)=true)
  (h36:HfI K eG "Gauge.__init__" cE)
  (h37:HfM K eG "put" "Gauge.put" dU)
  (h38:HfM K eG "take" "Gauge.take" eI)
  (h39:HfM K eG "told" "Gauge.told" eC)
  (h40:HfM K eG "may_come" "Gauge.may_come" cL)
  (h41:HfM K eG "is_tight" "Gauge.is_tight" cC)
  {tk0:Tok}(i0:nsIn K mainGlobals "MOST_SUMS" = some (some (.int 11 tk0)))
  {ga0 ga1:Addr}{go0 go1:Obj}
  (u0:nsIn K mainGlobals "ZERO" = some (some (.ref ga0))) (v0:K.lookup ga0=some go0)(w0:nN go0=some (.tup [V.int (0),V.int (1)]))
  (u1:nsIn K mainGlobals "ONE" = some (some (.ref ga1))) (v1:K.lookup ga1=some go1)(w1:nN go1=some (.tup [V.int (1),V.int (1)]))
  (z0:nsIn K mainGlobals "abs" = some none)
  (z1:nsIn K mainGlobals "len" = some none)
  (z2:nsIn K mainGlobals "sum" = some none)
  (z3:nsIn K mainGlobals "zip" = some none)
  (z4:nsIn K mainGlobals "enumerate" = some none)
  (z5:nsIn K mainGlobals "range" = some none)
  (z6:nsIn K mainGlobals "list" = some none)
  : ∃fd:FuncData,(∀(s:Shared)(v:Value),BindsTo s fd ⟨[v],[]⟩ [("_law_script",v)]) /\ ∀base:Heap,K.In base->base.Ns mainGlobals mg->nF mg base->base.NoSeer->aR l.prog w K mg base cA 11 fa fd ["_law_script"] (spLaw K):=by
 have e:=hfa.symm.trans (J2 X G a35);cases e;have T:dN K mg:=⟨trivial,⟨tk0,J2 X G i0⟩,GT.mk (J2 X G u0) v0 w0,GT.mk (J2 X G u1) v1 w1,Yb X G z0,Yb X G z1,Yb X G z2,Yb X G z3,Yb X G z4,Yb X G z5,Yb X G z6⟩;refine⟨fnOf "law" "law" (bX gz) (bj gz) (ai gz) .none kV35 dc35 pm35 an35 cd35 ct35,λs v=>.of_eq rfl,λbase kb nb hB hSe=>?_⟩;have N_:n6 l.prog base:=⟨hSe,hst⟩;have E_:qy l.prog w K mg base:=⟨h,X,G⟩;have hX:=J2 X G nX;have G_:fj K eG "sums":=⟨⟨pg,hd,po,sa⟩,nS⟩;have C_greatest_divisor:=h0.cal E_ λF=>fN F T;have C_trimmed:=h1.cal E_ λF=>nH F T;have C_ratio:=h2.cal E_ λF=>sV F T N_ C_greatest_divisor;have C_minus:=h3.cal E_ λF=>rh F T C_ratio;have C_cleared:=h4.cal E_ λF=>mV F T N_ C_greatest_divisor;have C_divided:=h5.cal E_ λF=>m4 F T C_trimmed C_ratio;have C_worth:=h6.cal E_ λF=>sr F T C_cleared C_ratio;have C_met:=h7.cal E_ λF=>xT F T;have C_next_row:=h8.cal E_ λF=>mf F T N_ C_met;have C_step_rows:=h9.cal E_ λF=>lj F T C_met C_next_row;have C_steps:=h10.cal E_ λF=>sP F T C_cleared C_step_rows C_divided C_ratio C_met;have C_furthest_step:=h11.cal E_ λF=>hU F T C_cleared C_step_rows C_divided;have C_nought_bar:=h12.cal E_ λF=>jC F T C_worth;have C_outlook:=h13.cal E_ λF=>oh F T C_steps C_nought_bar C_furthest_step;have C_is_bar:=h14.cal E_ λF=>qE F T;have C_had:=h15.cal E_ λF=>yI F T C_outlook C_is_bar;have C_number_behind:=h16.cal E_ λF=>ig F T C_minus C_worth;have C_next_sum:=h17.cal E_ λF=>mi F T C_had C_number_behind;have zCcell_at:=h18.cal E_ λF=>qN F T;have zCstate:=h19.cal E_ λF=>wk F T zCcell_at;have zCtake:=h20.cal E_ λF=>x9 F T;have zCdivisor:=h21.cal E_ λF=>qU F T;have zClow:=h22.cal E_ λF=>zQ F T N_ zCdivisor;have zCsmall:=h23.cal E_ λF=>wa F T zClow zCtake;have zCabove:=h24.cal E_ λF=>uT F T zClow zCtake;have zCplus:=h25.cal E_ λF=>xf F T zClow;have zCcrowd:=h26.cal E_ λF=>vU F T zCsmall zCabove zCtake zCplus;have zCtimes:=h27.cal E_ λF=>ui F T zClow;have zCcrowd_sums:=h28.cal E_ λF=>kR F T zCplus zCtimes;have C_Gauge_put:=h37.cal E_ λF=>ke F T G_ C_outlook C_is_bar;have CX_Gauge_put:=h37.calX E_ λF=>jH F T G_ xo hX C_outlook C_is_bar;have zCput:=h29.cal E_ λF=>za F T G_ hX qX C_Gauge_put CX_Gauge_put;have C_Gauge_may_come:=h40.cal E_ λF=>gp F T G_ C_next_sum;have C_Gauge_is_tight:=h41.cal E_ λF=>gv F T G_ C_had;have C_Gauge_told:=h39.cal E_ λF=>jJ F T G_;have zCseen:=h30.cal E_ λF=>yO F T G_ C_Gauge_told C_Gauge_is_tight C_Gauge_may_come;have C_Gauge___init__:=h36.cal E_ (J2 X G nG) λF=>gf F T G_;have zCnew:=h31.cal E_ λF=>ze F T G_ C_Gauge___init__ C_Gauge_put;have zCfew:=h32.cal E_ λF=>zi F T;have zCrefused_beside:=h33.cal E_ λF=>gX F T zCseen zCfew zCput;have zCnext:=h34.cal E_ λF=>xR F T zCsmall zCtake zCfew;have C_Gauge_take:=h38.cal E_ λF=>jE F T G_;have F_0:=kv (st:=gz) l35 c35 k35;exact yz F_0 T G_ zCstate C_Gauge___init__ zCcrowd zCcrowd_sums C_Gauge_may_come zCrefused_beside C_Gauge_told zCnext zCput C_Gauge_put C_Gauge_is_tight zCtake C_Gauge_take zCseen zCnew
theorem walk{l:PySem.W.OpenLaw}{q:Program}{loose:List Str}{XP:(Str->Option Value)->Heap->Prop}{YP:World->Heap->Prop}{d:DefRec}{K:Params->W.Frag}(hn:l.most=some 63)(hdf:d.params.defaults=[])(hi:PyProof.Rows.importsNone q=true)
  (hY:∀(w:World)(h:Heap),YP w h->(K w.params).In h /\ ∀q∈([]:List (Addr×Addr)),PySem.W.codeHdIn (K w.params) q.1 q.2=true/\(K w.params).lookup q.2=none/\h.get? q.2=some (PySem.W.tabObj #[]))
  (F:∀(w:World)(mg:Str->Option Value)(fa:Addr)(h:Heap),(K w.params).In h->h.Ns mainGlobals mg->mg d.name=some (.ref fa) ->
   ∃fd:FuncData,(∀(s:Shared)(u:Value),BindsTo s fd ⟨[u],[]⟩ [("_law_script",u)]) /\ ∀base:Heap,(K w.params).In base->base.Ns mainGlobals mg->nF mg base->base.NoSeer->aR l.prog w (K w.params) mg base cA 11 fa fd ["_law_script"] (spLaw (K w.params))) :
  PySem.W.WalkO q loose XP YP l.row.toRowW d [] (λf vs=>PySem.call f vs) :=
 L2.walk_ofM (ts:=λ_=>[]) (n:=63) (k:=11) (x:="_law_script") (CX:=λ_=>cA) (sp:=λw=>spLaw (K w.params)) hn ∅ hdf ⟨rfl,∅,∅⟩ hi hY F (λ_ _ a ns hl hT hK hS=>⟨a,ns,rfl,.of hS hK,hl,λ_=>rfl⟩) λ_ _ _ _ _ z=>z
end M
open PySem PySem.W PyProof.Rows
theorem Zz:True:=trivial
namespace PySem.W.Fast
theorem tw13906263522930008269:True:=Zz
theorem tw4326609914118152417:True:=Zz
theorem tw13187961242364067524:True:=Zz
theorem tw17742848303088888920:True:=Zz
theorem tw9696170639494089780:True:=Zz
theorem tw16872521322946993564:True:=Zz
theorem tw12245411722570730721:True:=Zz
theorem tw15529711632516368905:True:=Zz
theorem tw14220389424300582102:True:=Zz
theorem tw11161258285956664858:True:=Zz
end PySem.W.Fast
set_option maxRecDepth 100000 in
set_option maxHeartbeats 0 in
theorem PySem.Challenge.cw_momentwright_k93_whole_gauges_as_new_holds : PySem.Challenge.rw_momentwright_k93_whole_gauges_as_new.Holds := by
 w_on;o_law;k_head;(case hw=>w_witness2)
 k_fill
 refine M.walk (l:=PySem.Challenge.rw_momentwright_k93_whole_gauges_as_new) rfl rfl ?hi (fun w h Y=>⟨PySem.W.kIn_of Y,fun q hq=>by cases hq⟩) ?F
 case hi=>exact ∅
 case F =>
  intro w mg fa h KX G hmg
  refine' M.all_mk KX G hmg rfl ?nG ?nX ?xo ?qX ?pg ?hd ?po ?sa ?nS ?h0 ?h1 ?h2 ?h3 ?h4 ?h5 ?h6 ?h7 ?h8 ?h9 ?h10 ?h11 ?h12 ?h13 ?h14 ?h15 ?h16 ?h17 ?h18 ?h19 ?h20 ?h21 ?h22 ?h23 ?h24 ?h25 ?h26 ?h27 ?h28 ?h29 ?h30 ?h31 ?h32 ?h33 ?h34 ?a35 ?l35 ?c35 ?k35 ?h36 ?h37 ?h38 ?h39 ?h40 ?h41 ?i0 ?u0 ?v0 ?w0 ?u1 ?v1 ?w1 ?z0 ?z1 ?z2 ?z3 ?z4 ?z5 ?z6
  (case nG=>k_is)
  (case nX=>k_is)
  (case xo=>show PySem.W.excIn _ _ _ _=true;kernel_rfl)
  (case qX=>kernel_rfl)
  (case pg=>k_is)
  (case hd=>k_is)
  (case po=>k_is)
  (case sa=>k_is)
  (case nS=>k_is)
  any_goals (refine' L2.HfM.of ?a ?i ?l ?c ?k;(case a=>k_is);(case i=>k_is);(case l=>k_is);(case c=>k_is);(case k=>k_is))
  (case h36=>refine' L2.HfI.of ?mm ?a ?i ?qq ?l ?c ?k;(case mm=>k_is);(case a=>k_is);(case i=>k_is);(case qq=>k_is);(case l=>k_is);(case c=>k_is);(case k=>k_is))
  any_goals (refine' L2.Hf.of ?a ?l ?c ?k;(case a=>k_is);(case l=>k_is);(case c=>k_is);(case k=>k_is))
  (case a35=>k_is);(case l35=>k_is);(case c35=>k_is);(case k35=>k_is)
  (case i0=>k_is)
  (case u0=>k_is);(case v0=>k_is);(case w0=>rfl)
  (case u1=>k_is);(case v1=>k_is);(case w1=>rfl)
  (case z0=>k_is)
  (case z1=>k_is)
  (case z2=>k_is)
  (case z3=>k_is)
  (case z4=>k_is)
  (case z5=>k_is)
  (case z6=>k_is)
#print axioms PySem.Challenge.cw_momentwright_k93_whole_gauges_as_new_holds

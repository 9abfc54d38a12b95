import PyProof.Rows.All
import Wide.All
import OpenK.AllK
import Wide.FinOn
import Lean
import PyProof.EqAt
import PyProof.EqKinds
import PyProof.TupleCall
import PySem.Challenge.RW_momentwright_k71_back_from_a_spot_on
set_option compiler.extract_closed false
local macro_rules | `(tactic| walk_at "o")=>`(tactic| first | ((repeat (rename (_:Int)≠_=>h; clear h)); (repeat (rename (_:Nat)≠_=>h; clear h)); (repeat (rename _ ∨ _=>h; clear h)); lia) | lia | omega)
set_option hygiene false in
local macro_rules | `(nofun)=>`(hr.mono (by walk_at "a2"))
local macro_rules | `(())=>`(by walk_at "o")
local macro_rules | `(∅)=>`(by first | decide | decide +kernel)
set_option hygiene false in
local macro_rules | `(tactic| walk_at "q")=>`(tactic| (rotate_left; intro cdv A outer s H vs Q E hr h; rotate_right; intro vs H Q E h))
local macro_rules | `(⋯)=>`(by grind)
local macro_rules | `((·))=>`(by walk_at "a1")
local macro_rules | `(tactic| nofun)=>`(tactic| walk_at "o")
local macro_rules | `(tactic| symm)=>`(tactic| walk_at "vc")
local macro_rules | `(tactic| walk_at "a1")=>`(tactic| first | exact Or.inl rfl | exact Or.inr rfl)
local macro_rules | `(tactic| walk_at "a2")=>`(tactic| first | decide | walk_at "o")
local macro_rules | `(tactic| walk_at "a3")=>`(tactic| exact ⟨rfl,rfl,rfl,by decide +kernel,rfl,by decide +kernel,by decide +kernel⟩)
set_option Elab.async false
set_option linter.all false
set_option maxRecDepth 100000
theorem Ya:type_of% @decide_eq_false:=@decide_eq_false
theorem Yb:type_of% @if_pos:=@if_pos
theorem Yc:type_of% @if_neg:=@if_neg
theorem Yd:type_of% @Nat.lt_of_lt_of_le:=@Nat.lt_of_lt_of_le
theorem Ye:type_of% @Nat.lt_irrefl:=@Nat.lt_irrefl
theorem Yf:type_of% @Nat.ne_of_lt:=@Nat.ne_of_lt
theorem Yg:type_of% @Nat.le_trans:=@Nat.le_trans
theorem Yh:type_of% @Nat.le_of_lt:=@Nat.le_of_lt
theorem Yi:type_of% @List.mem_cons_self:=@List.mem_cons_self
theorem Yj:type_of% @List.mem_cons_of_mem:=@List.mem_cons_of_mem
theorem Yk:type_of% @Ne.symm:=@Ne.symm
theorem Yl:type_of% @List.getElem?_set_ne:=@List.getElem?_set_ne
theorem Ym:type_of% @Option.some.inj:=@Option.some.inj
theorem Yn:type_of% @congrArg:=@congrArg
theorem Yo:type_of% @Bool.false_ne_true:=@Bool.false_ne_true
theorem Yp:type_of% @Nat.le_refl:=@Nat.le_refl
theorem Yq:type_of% @PyProof.Rows.callWith_type1:=@PyProof.Rows.callWith_type1
theorem Yr:type_of% @List.mem_append_right:=@List.mem_append_right
theorem Ys:type_of% @List.size_toArray:=@List.size_toArray
theorem Yt:type_of% @PySem.W.kia_one:=@PySem.W.kia_one
theorem Yu:type_of% @List.length_take:=@List.length_take
theorem Yv:type_of% @PySem.mem_of_lookup:=@PySem.mem_of_lookup
theorem Yw:type_of% @List.getElem?_append_right:=@List.getElem?_append_right
theorem Yx:type_of% @List.getElem?_replicate:=@List.getElem?_replicate
theorem Yy:type_of% @List.getElem?_append_left:=@List.getElem?_append_left
theorem Yz:type_of% @List.getElem?_map:=@List.getElem?_map
theorem YA:type_of% @List.mem_of_getElem?:=@List.mem_of_getElem?
theorem YB:type_of% @List.length_append:=@List.length_append
theorem YC:type_of% @List.length_map:=@List.length_map
theorem YD:type_of% @List.length_replicate:=@List.length_replicate
theorem YE:type_of% @List.length_drop:=@List.length_drop
theorem YF:type_of% @Bool.and_eq_true:=@Bool.and_eq_true
theorem YG:type_of% @List.length_set:=@List.length_set
theorem YH:type_of% @List.replicate_succ:=@List.replicate_succ
theorem YI:type_of% @List.append_assoc:=@List.append_assoc
theorem YJ:type_of% @List.length_singleton:=@List.length_singleton
theorem YK:type_of% @Nat.zero_le:=@Nat.zero_le
theorem YL:type_of% @Nat.add_comm:=@Nat.add_comm
theorem YM:type_of% @Nat.mul_comm:=@Nat.mul_comm
theorem YN:type_of% @List.map_cons:=@List.map_cons
theorem YO:type_of% @decide_eq_true:=@decide_eq_true
theorem YQ:type_of% @List.getElem_mem:=@List.getElem_mem
theorem YR:type_of% @List.getElem?_eq_getElem:=@List.getElem?_eq_getElem
theorem YS:type_of% @Int.fmod_nonneg_of_pos:=@Int.fmod_nonneg_of_pos
theorem YT:type_of% @Int.fmod_lt_of_pos:=@Int.fmod_lt_of_pos
theorem YU:type_of% @Int.le_of_lt:=@Int.le_of_lt
theorem YV:type_of% @Nat.pow_le_pow_right:=@Nat.pow_le_pow_right
theorem YW:type_of% @Int.natAbs_mul:=@Int.natAbs_mul
theorem YX:type_of% @Nat.pow_add:=@Nat.pow_add
theorem YY:type_of% @List.take_of_length_le:=@List.take_of_length_le
theorem YZ:type_of% @List.getLast?_eq_getElem?:=@List.getLast?_eq_getElem?
theorem Y0:type_of% @List.mem_cons:=@List.mem_cons
theorem Y1:type_of% @List.not_mem_nil:=@List.not_mem_nil
theorem Y2:type_of% @or_false:=@or_false
theorem Y3:type_of% @List.getElem?_mapIdx:=@List.getElem?_mapIdx
theorem Y4:type_of% @List.length_mapIdx:=@List.length_mapIdx
theorem Y5:type_of% @Nat.le_mul_of_pos_right:=@Nat.le_mul_of_pos_right
theorem Y6:type_of% @Int.mul_pos:=@Int.mul_pos
theorem Y7:type_of% @Int.mul_assoc:=@Int.mul_assoc
theorem Y8:type_of% @Int.mul_comm:=@Int.mul_comm
theorem Y9:type_of% @List.length_cons:=@List.length_cons
theorem Xa:type_of% @List.getD_eq_getElem?_getD:=@List.getD_eq_getElem?_getD
theorem Xb:type_of% @Int.eq_of_mul_eq_mul_right:=@Int.eq_of_mul_eq_mul_right
theorem Xc:type_of% @Int.mul_ne_zero:=@Int.mul_ne_zero
theorem Xd:type_of% @Rat.intCast_add:=@Rat.intCast_add
theorem Xe:type_of% @Rat.intCast_mul:=@Rat.intCast_mul
theorem Xf:type_of% @List.take_add_one:=@List.take_add_one
theorem Xg:type_of% @List.take_length:=@List.take_length
theorem Xh:type_of% @Int.pos_of_mul_pos_left:=@Int.pos_of_mul_pos_left
theorem Xi:type_of% @Rat.intCast_sub:=@Rat.intCast_sub
theorem Xj:type_of% @List.getElem?_eq_none:=@List.getElem?_eq_none
theorem Xl:type_of% @List.ext_getElem?:=@List.ext_getElem?
theorem Xm:type_of% @List.getElem?_take:=@List.getElem?_take
theorem Xn:type_of% @List.getElem?_drop:=@List.getElem?_drop
theorem Xo:type_of% @Int.mul_zero:=@Int.mul_zero
theorem Xp:type_of% @List.mem_of_mem_take:=@List.mem_of_mem_take
theorem Xq:type_of% @Nat.mul_le_mul:=@Nat.mul_le_mul
theorem Xr:type_of% @Nat.add_mul:=@Nat.add_mul
theorem Xs:type_of% @Nat.zero_add:=@Nat.zero_add
theorem Xt:type_of% @Nat.lt_or_ge:=@Nat.lt_or_ge
theorem Xu:type_of% @Int.one_mul:=@Int.one_mul
theorem Xv:type_of% @Nat.lt_of_le_of_lt:=@Nat.lt_of_le_of_lt
theorem Xw:type_of% @Nat.mul_le_mul_left:=@Nat.mul_le_mul_left
theorem Xx:type_of% @Nat.add_assoc:=@Nat.add_assoc
theorem Xy:type_of% @Int.pow_zero:=@Int.pow_zero
theorem Xz:type_of% @Int.pow_succ:=@Int.pow_succ
theorem XA:type_of% @Int.pow_ne_zero:=@Int.pow_ne_zero
theorem XB:type_of% @Rat.div_def:=@Rat.div_def
theorem XC:type_of% @Rat.mul_pos:=@Rat.mul_pos
theorem XD:type_of% @Classical.byContradiction:=@Classical.byContradiction
theorem XE:type_of% @Nat.add_sub_cancel:=@Nat.add_sub_cancel
theorem XF:type_of% @Nat.sub_self:=@Nat.sub_self
theorem XG:type_of% @List.length_nil:=@List.length_nil
theorem XH:type_of% @Iff.rfl:=@Iff.rfl
theorem XI:type_of% @List.map_append:=@List.map_append
theorem XJ:type_of% @of_decide_eq_true:=@of_decide_eq_true
theorem XM:type_of% @List.drop_eq_getElem_cons:=@List.drop_eq_getElem_cons
theorem XN:type_of% @PySem.F.plainAttrs_list:=@PySem.F.plainAttrs_list
theorem XO:type_of% @Int.zero_add:=@Int.zero_add
theorem XQ:type_of% @List.mem_or_eq_of_mem_set:=@List.mem_or_eq_of_mem_set
theorem XR:type_of% @List.getElem?_of_mem:=@List.getElem?_of_mem
theorem XS:type_of% @PySem.F.slot_list_append:=@PySem.F.slot_list_append
theorem XT:type_of% @PySem.F.type_list_append:=@PySem.F.type_list_append
theorem XU:type_of% @List.mem_of_mem_drop:=@List.mem_of_mem_drop
theorem XV:type_of% @PySem.W.mg_none_of:=@PySem.W.mg_none_of
namespace L2
open PySem PySem.Spec PyProof.Rows
abbrev ut:=Sum Int Str
def FX:ut->Value->Bool
 | .inl k,v=>Value.isInt k v
 | .inr x,v=>Value.isStrOf x v
def Kk(w:World):ut->Int
 | .inl k=>hashInt k
 | .inr x=>hashStr w x
theorem dg:∀{k:ut}{v:Value},FX k v=true->(∃i t,k=Sum.inl i/\v=Value.int i t)\/(∃x t,k=Sum.inr x/\v=Value.str x t)
 | .inl i,v,h=>by
  obtain⟨t,e⟩:=Value.isInt_shape (k:=i) (v:=v) h;exact .inl ⟨i,t,rfl,e⟩
 | .inr x,v,h=>by
  obtain⟨t,e⟩:=Value.isStrOf_shape (x:=x) (v:=v) h;exact .inr ⟨x,t,rfl,e⟩
theorem Gm(a b:Int):decide ((Sum.inl a:ut)=Sum.inl b)=(a==b):=by
 by_cases e:a=b
 .subst e;simp
 .have h:¬ (Sum.inl a:ut)=Sum.inl b:=λq=>e (Sum.inl.inj q);rw[Ya h];exact (beq_eq_false_iff_ne.mpr e).symm
theorem Go(a b:Str):decide ((Sum.inr a:ut)=Sum.inr b)=decide (a=b):=by
 by_cases e:a=b
 .subst e;simp
 .have h:¬ (Sum.inr a:ut)=Sum.inr b:=λq=>e (Sum.inr.inj q);rw[Ya h,Ya e]
theorem HK(a:Int)(b:Str):decide ((Sum.inl a:ut)=Sum.inr b)=false:=Ya (λq=>nomatch q)
theorem Is(a:Str)(b:Int):decide ((Sum.inr a:ut)=Sum.inl b)=false:=Ya (λq=>nomatch q)
def rS(prog:Program)(w:World):PySem.KeyKind prog w ut where
 is:=FX
 hash:=Kk w
 inj:=λv a b ha hb=>by
  rcases dg ha with ⟨i,t,rfl,rfl⟩|⟨x,t,rfl,rfl⟩
  .rcases dg hb with ⟨j,u,rfl,e⟩|⟨y,u,rfl,e⟩
   .injection e with e1 _;rw[e1]
   .exact nomatch e
  .rcases dg hb with ⟨j,u,rfl,e⟩|⟨y,u,rfl,e⟩
   .exact nomatch e
   .injection e with e1 _;rw[e1]
 byValue:=λk v h=>by
  rcases dg h with ⟨i,t,rfl,rfl⟩|⟨x,t,rfl,rfl⟩<;>rfl
 pyHash:=λhv h=>by
  rcases dg hv with ⟨i,t,rfl,rfl⟩|⟨x,t,rfl,rfl⟩
  .exact wpAny_pyHash_int h
  .exact wpAny_pyHash_str h
 eqBool:=λhu hv h=>by
  rcases dg hu with ⟨i,t,rfl,rfl⟩|⟨x,t,rfl,rfl⟩
  .rcases dg hv with ⟨j,u,rfl,rfl⟩|⟨y,u,rfl,rfl⟩
   .rw[Gm] at h;exact wpAny_eqBool_int h
   .rw[HK] at h;exact SeqAt.EqAt.int_str i t y u _ _ _ _ h
  .rcases dg hv with ⟨j,u,rfl,rfl⟩|⟨y,u,rfl,rfl⟩
   .rw[Is] at h;exact SeqAt.EqAt.str_int x t j u _ _ _ _ h
   .rw[Go] at h;exact wpAny_eqBool_str h
 «strs»:=λk x t v h=>by
  rcases dg h with ⟨i,u,rfl,e⟩|⟨y,u,rfl,e⟩
  .exact nomatch e
  .injection e with e1 _
   subst e1;cases v<;>rfl
inductive V where
 | non|bl (b:Bool)|int (i:Int)|str (x:Str)|byt (b:Array UInt8)|flt (b:UInt64)|ref (a:Addr)|ty (n:String)
 deriving DecidableEq
def cC:V->Value->Prop
 | .non,u=>u=Value.none
 | .bl b,u=>u=Value.bool b
 | .int i,u=>∃t,u=Value.int i t
 | .str x,u=>∃t,u=Value.str x t
 | .byt b,u=>∃t,u=Value.bytes b t
 | .flt b,u=>∃t,u=Value.float b t
 | .ref a,u=>u=Value.ref a
 | .ty n,u=>u=Value.type n
abbrev bV:List V->List Value->Prop:=Paired cC
theorem bV.length{xs:List V}{us:List Value}(r:bV xs us):xs.length=us.length:=Paired.length r
theorem bV.get:∀{xs:List V}{us:List Value}{i:Nat}{x:V},bV xs us->xs[i]? = some x -> ∃u,us[i]? = some u/\cC x u
 | _,_,_,_,.nil,e=>by simp at e
 | _,_,0,_,.cons r _,e=>by simp at e;subst e;exact⟨_,rfl,r⟩
 | _,_,i+1,x,.cons _ t,e=>by
  obtain⟨u,h1,h2⟩:=bV.get (i:=i) (x:=x) t (by simpa using e)
  exact⟨u,by simpa using h1,h2⟩
theorem bV.set{x:V}{u:Value}(r:cC x u):∀{xs:List V}{us:List Value}(i:Nat),bV xs us->bV (xs.set i x) (us.set i u)
 | _,_,_,.nil=>.nil
 | _,_,0,.cons _ t=>.cons r t
 | _,_,i+1,.cons q t=>.cons q (bV.set r i t)
theorem bV.append:∀{xs ys:List V}{us ws:List Value},bV xs us->bV ys ws->bV (xs++ys) (us++ws)
 | _,_,_,_,.nil,s=>s
 | _,_,_,_,.cons r t,s=>.cons r (bV.append t s)
theorem bV.take:∀{xs:List V}{us:List Value}(n:Nat),bV xs us->bV (xs.take n) (us.take n)
 | _,_,0,_=>.nil
 | _,_,_+1,.nil=>.nil
 | _,_,n+1,.cons r t=>.cons r (bV.take n t)
theorem bV.drop:∀{xs:List V}{us:List Value}(n:Nat),bV xs us->bV (xs.drop n) (us.drop n)
 | _,_,0,r=>r
 | _,_,_+1,.nil=>.nil
 | _,_,n+1,.cons _ t=>bV.drop n t
def HV:Option V->Option Value->Prop
 | some v,some u=>cC v u
 | none,none=>True
 | _,_=>False
def KV{κ:Type}:List (κ×V)->List (κ×Value)->Prop:=Paired λ(p:κ×V)(q:κ×Value)=>p.1=q.1/\cC p.2 q.2
def kV:ut->V
 | .inl i=>.int i
 | .inr x=>.str x
inductive HO where
 /-- a list -/
 | lst (xs:List V)
 /-- a tuple (never changes) -/
 | tup (xs:List V)
 /-- a dict whose keys are ints and texts;one whose keys are tuples of ints and texts (the empty one is both) -/
 | dK (kvs:List (ut×V))|dT (kvs:List (List ut×V))
 /-- a set of ints: its members,its size -/
 | set (S:Int->Bool)(n:Nat)
 /-- an instance of the class at C,its dict at dx,its attributes -/
 | ins (C dx:Addr)(fs:List (Str×V))
 /-- the dict of the instance at x -/
 | own (x:Addr)
 /-- the dict of an exception -/
 | xd (fs:List (Str×V))
 /-- a bound method,f of x -/
 | met (f x:Addr)
 /-- a range object lo,lo+1,.. below hi -/
 | rng (lo hi:Int)
 /-- a thing that is known to the object (the script;a dict while a loop walks it): read,never written while it is so -/
 | frz (o:Obj)(u:HO)
 /-- a code object's table -/
 | tbl (ps:Array Value)
 /-- any other thing,by what is true of its one object (a def of one's own: SetO a S n:=HO.ext λh=>..) -/
 | ext (φ:Heap->Prop)
abbrev Hp:=Addr->Option HO
def upd(H:Hp)(a:Addr)(o:HO):Hp:=λb=>if b=a then some o else H b
theorem de{H:Hp}{a:Addr}{o:HO}:upd H a o a=some o:=by unfold upd;rw[Yb rfl]
theorem cL{H:Hp}{a b:Addr}{o:HO}(h:b≠a):upd H a o b=H b:=by unfold upd;rw[Yc h]
theorem aj{H:Hp}{a b:Addr}{o:HO}(h:H a=some o)(h':H b=none):a≠b:=by
 intro e;subst e;rw[h] at h';cases h'
section
variable (P:Program)(w:World)
def dZ(H:Hp)(h:Heap)(a:Addr):HO->Prop
 | .lst xs=>xs.length<=sizeLine /\ ∃(its:List Value)(n:Nat),bV xs its/\h.get? a=some { cls:=.type "list",data:=.seq its.toArray n }
 | .tup xs=>xs.length<=sizeLine /\ ∃its:List Value,bV xs its/\IsTup h a its.toArray
 | .dK kvs=>kvs.length<=sizeLine/\(a==sysModules)=false /\ ∃vs,KV kvs vs/\h.DictOf (rS P w) a vs
 | .dT kvs=>kvs.length<=sizeLine/\(a==sysModules)=false /\ ∃xs:List (List ut×Addr×Value),
   Paired (λ(p:List ut×V)(q:List ut×Addr×Value)=>p.1=q.1/\H q.2.1=some (.tup (p.1.map kV))/\cC p.2 q.2.2) kvs xs /\
   ∃o es ep,h.get? a=some o/\o.ExactDict/\o.data=.dict es ep/\es.toList=xs.map (entryOfKey (tupleKind (rS P w)))/\(xs.map (·.1)).Nodup
 | .set S n=>h.SetOf (intKind P w) a S n
 | .ins C dx fs=>H dx=some (.own a)/\fs.length<=1000/\dx≠a/\h.get? a=some (PySem.W.instObj C dx) /\
   ∃mA,h.Ns1 dx mA/\(∀f,HV (fs.lookup f) (mA f))/\PySem.Within mA (fs.map (·.1))
 | .own _=>∃o,h.get? a=some o
 | .xd fs=>∃mA,h.Ns1 a mA /\ ∀f,HV (fs.lookup f) (mA f)
 | .rng lo hi=>∃t u v,h.get? a=some { cls:=.type "range",data:=.fields #[.int lo t,.int hi u,.int 1 v] }
 | .frz o u=>h.get? a=some o/\dZ H h a u
 | .tbl ps=>h.get? a=some { cls:=.none,data:=.fields ps }
 | .met f x=>h.get? a=some (PySem.W.methodObj (.ref f) (.ref x))
 | .ext φ=>φ h/\(∃o,h.get? a=some o) /\ ∀h1 h2:Heap,φ h1->(∀o,h1.get? a=some o->h2.get? a=some o)->φ h2
def oM(H:Hp)(h:Heap):Prop:=∀a o,H a=some o->dZ P w H h a o
end
section
variable {P:Program}{w:World}{H H':Hp}{h h':Heap}{a:Addr}{o:HO}
theorem dZ.lt(x:dZ P w H h a o):a<h.objs.size:=by
 cases o with
 | lst xs=>obtain⟨_,_,_,_,e⟩:=x;exact Heap.lt_size e
 | tup xs=>obtain⟨_,_,_,p⟩:=x;exact p.lt
 | dK kvs=>obtain⟨_,_,_,_,o,_,_,e,_⟩:=x;exact Heap.lt_size e
 | dT kvs=>obtain⟨_,_,_,_,o,_,_,e,_⟩:=x;exact Heap.lt_size e
 | set S n=>obtain⟨o,_,_,_,e,_⟩:=x;exact Heap.lt_size e
 | ins C dx fs=>obtain⟨_,_,_,e,_⟩:=x;exact Heap.lt_size e
 | own y=>obtain⟨_,e⟩:=x;exact Heap.lt_size e
 | xd fs=>obtain⟨_,⟨_,_,_,e,_⟩,_⟩:=x;exact Heap.lt_size e
 | rng lo hi=>obtain⟨_,_,_,e⟩:=x;exact Heap.lt_size e
 | frz ob u=>obtain⟨e,_⟩:=x;exact Heap.lt_size e
 | tbl ps=>exact Heap.lt_size (show h.get? a=some _ from x)
 | met f y=>exact Heap.lt_size (show h.get? a=some _ from x)
 | ext φ=>obtain⟨_,⟨_,e⟩,_⟩:=x;exact Heap.lt_size e
theorem Paired.mapP{α β:Type}{F G:α->β->Prop}:∀{l₁:List α}{l₂:List β},Paired F l₁ l₂->(∀a b,F a b->G a b)->Paired G l₁ l₂
 | _,_,.nil,_=>.nil
 | _,_,.cons r t,f=>.cons (f _ _ r) (Paired.mapP t f)
theorem dZ.stay(x:dZ P w H h a o)(k:∀b u,(b=a\/H b=some (.own a))->h.get? b=some u->h'.get? b=some u)
  (ho:∀b,H b=some (.own a)->H' b=some (.own a))(ht:∀b xs,H b=some (.tup xs)->H' b=some (.tup xs)):dZ P w H' h' a o:=by
 induction o with
 | lst xs=>obtain⟨z,its,n,r,e⟩:=x;exact⟨z,its,n,r,k _ _ (.inl rfl) e⟩
 | tup xs=>obtain⟨z,its,r,ob,e,c⟩:=x;exact⟨z,its,r,ob,k _ _ (.inl rfl) e,c⟩
 | dK kvs=>obtain⟨z,y,vs,r,ob,es,ep,e,c⟩:=x;exact⟨z,y,vs,r,ob,es,ep,k _ _ (.inl rfl) e,c⟩
 | dT kvs =>
  obtain⟨z,y,xs,r,ob,es,ep,e,c⟩:=x;exact⟨z,y,xs,Paired.mapP r λp q z=>⟨z.1,ht _ _ z.2.1,z.2.2⟩,ob,es,ep,k _ _ (.inl rfl) e,c⟩
 | set S n=>obtain⟨ob,es,ep,t,e,c⟩:=x;exact⟨ob,es,ep,t,k _ _ (.inl rfl) e,c⟩
 | ins C dx fs =>
  obtain⟨d,z,ne,e,mA,⟨od,es,ep,e2,c⟩,r⟩:=x;exact⟨ho _ d,z,ne,k _ _ (.inl rfl) e,mA,⟨od,es,ep,k _ _ (.inr d) e2,c⟩,r⟩
 | own y=>obtain⟨ob,e⟩:=x;exact⟨ob,k _ _ (.inl rfl) e⟩
 | xd fs=>obtain⟨mA,⟨od,es,ep,e,c⟩,r⟩:=x;exact⟨mA,⟨od,es,ep,k _ _ (.inl rfl) e,c⟩,r⟩
 | rng lo hi=>obtain⟨t,u,v,e⟩:=x;exact⟨t,u,v,k _ _ (.inl rfl) e⟩
 | frz ob u ih=>obtain⟨e,q⟩:=x;exact⟨k _ _ (.inl rfl) e,ih q⟩
 | tbl ps =>
  have e:h.get? a=some { cls:=.none,data:=.fields ps }:=x;show h'.get? a=some { cls:=.none,data:=.fields ps };exact k a _ (.inl rfl) e
 | met f y =>
  have e:h.get? a=some (PySem.W.methodObj (.ref f) (.ref y)):=x;show h'.get? a=some (PySem.W.methodObj (.ref f) (.ref y));exact k a _ (.inl rfl) e
 | ext φ=>obtain⟨p,⟨o,e⟩,st⟩:=x;exact⟨st _ _ p λo q=>k _ _ (.inl rfl) q,⟨o,k _ _ (.inl rfl) e⟩,st⟩
theorem oM.lt(x:oM P w H h)(e:H a=some o):a<h.objs.size:=(x a o e).lt
theorem oM.fresh(x:oM P w H h)(e:h.objs.size<=a):H a=none:=by
 cases q:H a with
 | none=>rfl
 | some u=>exact absurd (Yd (x.lt q) e) (Ye _)
theorem oM.kept(x:oM P w H h)(k:∀b u,h.get? b=some u->h'.get? b=some u):oM P w H h':=λa o e =>
 (x a o e).stay (λb u _ q=>k b u q) (λ_ q=>q) λ_ _ q=>q
theorem oM.laid(x:oM P w H h)(k:∀b u,h.get? b=some u->h'.get? b=some u)(hp:h.objs.size<=a)(new:dZ P w (upd H a o) h' a o):oM P w (upd H a o) h':=λb u e=>by
 have hn:=x.fresh hp;by_cases hb:b=a
 .subst hb;rw[de] at e;cases e;exact new
 .rw[cL hb] at e;exact (x b u e).stay (λc v _ q=>k c v q) (λc q=>by rw[cL (aj q hn)];exact q) λc xs q=>by rw[cL (aj q hn)];exact q
end
def Rd(H:Hp)(a:Addr)(u:HO):Prop:=H a=some u \/ ∃o,H a=some (.frz o u)
theorem Rd.ok{P:Program}{w:World}{H:Hp}{h:Heap}{a:Addr}{u:HO}(r:Rd H a u)(x:oM P w H h):dZ P w H h a u:=by
 rcases r with r|⟨o,r⟩
 .exact x a u r
 .obtain⟨_,q⟩:=x a _ r;exact q
def J9:Option HO->Prop
 | some (.lst _)=>True
 | some (.dK _)=>True
 | some (.dT _)=>True
 | some (.set _ _)=>True
 | some (.ins _ _ _)=>True
 | some (.ext _)=>True
 | _=>False
section
variable {P:Program}{w:World}{H:Hp}{h h':Heap}{x e:Addr}{o':HO}
theorem oM.write(ok:oM P w H h)(mu:J9 (H x))(he:e=x\/H e=some (.own x))(k:∀b u,b≠e->h.get? b=some u->h'.get? b=some u)(heo:∃u,h'.get? e=some u)
  (new:dZ P w (upd H x o') h' x o'):oM P w (upd H x o') h':=λb u q=>by
 have nown:∀c y,H c=some (.own y)->c≠x:=λc y r z=>by subst z;rw[r] at mu;exact mu
 have ntup:∀c xs,H c=some (.tup xs)->c≠x:=λc xs r z=>by subst z;rw[r] at mu;exact mu
 by_cases hb:b=x
 .subst hb;rw[de] at q;cases q;exact new
 .rw[cL hb] at q;by_cases hbe:b=e
  .have q':H b=some (.own x):=by
    rcases he with z|z
    .exact absurd (hbe.trans z) hb
    .rw[hbe];exact z
   rw[q] at q';cases q';obtain⟨v,hv⟩:=heo;exact⟨v,by rw[hbe];exact hv⟩
  .refine (ok b u q).stay (λc v hc r=>k c v ?_ r) (λc r=>by rw[cL (nown c b r)];exact r) λc xs r=>by rw[cL (ntup c xs r)];exact r
   rcases hc with rfl|hc
   .exact hbe
   .rintro rfl;rcases he with z|z
    .exact nown c b hc z
    .rw[hc] at z;cases z;exact hb rfl
end
structure Un (fs ex:List Addr)(H H':Hp)(h h':Heap):Prop where
 keep:∀b o,h.get? b=some o->H b=none->b∉fs->b∉ex->h'.get? b=some o
 slot:∀b o,h.get? b=some o->H b=none->b∈fs->b∉ex -> ∃sl,h'.get? b=some { o with slots:=sl }
 free:∀b o,h.get? b=some o->H b=none->b∉ex->H' b=none
 there:∀b o,h.get? b=some o->b∉ex -> ∃o',h'.get? b=some o'
 tups:∀b xs,H b=some (.tup xs)->H' b=some (.tup xs)
 frzs:∀b o u,H b=some (.frz o u)->H' b=some (.frz o u)
 tbls:∀b ps,H b=some (.tbl ps) -> ∃more,H' b=some (.tbl (ps++more))
section
variable {fs fs' ex ex':List Addr}{H H1 H2:Hp}{h h1 h2 h':Heap}{a x e:Addr}{o:HO}
theorem Un.any(u:Un fs ex H H1 h h1) {b:Addr}{ob:Obj}(q:h.get? b=some ob)(n:H b=none)(hx:b∉ex):∃sl,h1.get? b=some { ob with slots:=sl }:=by
 by_cases hb:b∈fs
 .exact u.slot b ob q n hb hx
 .exact⟨ob.slots,u.keep b ob q n hb hx⟩
theorem Un.kept(k:∀b u,h.get? b=some u->h'.get? b=some u):Un fs ex H H h h' :=
 ⟨λb ob q _ _ _=>k b ob q,λb ob q _ _ _=>⟨ob.slots,k b ob q⟩,λ_ _ _ n _=>n,λb ob q _=>⟨ob,k b ob q⟩,λ_ _ q=>q,λ_ _ _ q=>q,λ_ ps q=>⟨#[],by rw[q];simp⟩⟩
theorem Un.refl:Un fs ex H H h h:=Un.kept λ_ _ q=>q
theorem Un.laid(k:∀b u,h.get? b=some u->h'.get? b=some u)(hp:h.objs.size<=a)(hn:H a=none):Un fs ex H (upd H a o) h h' where
 keep:=λb u q _ _ _=>k b u q
 slot:=λb u q _ _ _=>⟨u.slots,k b u q⟩
 free:=λb u q n _=>by rw[cL (Yf (Yd (Heap.lt_size q) hp))];exact n
 there:=λb u q _=>⟨u,k b u q⟩
 tups:=λb xs q=>by rw[cL (aj q hn)];exact q
 frzs:=λb u xs q=>by rw[cL (aj q hn)];exact q
 tbls:=λb ps q=>⟨#[],by rw[cL (aj q hn),q];simp⟩
theorem Un.write(mu:J9 (H x))(he:e=x\/H e=some (.own x))(k:∀b u,b≠e->h.get? b=some u->h'.get? b=some u)(heo:∃u,h'.get? e=some u):Un fs ex H (upd H x o) h h':=by
 have hx:∀b,H b=none->b≠x:=λb n z=>by subst z;rw[n] at mu;exact mu
 have hb:∀b,H b=none->b≠e:=λb n z=>by
  subst z;rcases he with r|r
  .exact hx b n r
  .rw[n] at r;cases r
 have hm:∀b u,H b=some u -> ¬ J9 (some u)->b≠x:=λb u q nm z=>by subst z;rw[q] at mu;exact nm mu
 refine⟨λb u q n _ _=>k b u (hb b n) q,λb u q n _ _=>⟨u.slots,k b u (hb b n) q⟩,λb u q n _=>by rw[cL (hx b n)];exact n,λb u q _=>?_,
  λb xs q=>by rw[cL (hm b _ q λz=>z)];exact q,λb u xs q=>by rw[cL (hm b _ q λz=>z)];exact q,λb ps q=>⟨#[],by rw[cL (hm b _ q λz=>z),q];simp⟩⟩
 by_cases hbe:b=e
 .subst hbe;exact heo
 .exact⟨u,k b u hbe q⟩
end
def JT(h:Heap)(H:Hp):List Addr:=(List.range h.objs.size).filter λa=>(H a).isSome
def pM(h:Heap)(H:Hp):Heap:=PySem.W.hideAll h (JT h H)
theorem zE(h:Heap)(H:Hp):(pM h H).objs.size=h.objs.size:=PySem.W.hideAll_size _ _
theorem AA{h:Heap}{H:Hp}{b:Addr}{o:Obj}(e:h.get? b=some o)(n:H b=none):(pM h H).get? b=some o :=
 PySem.W.hideAll_get _ e λhm=>by
  have q:(H b).isSome=true:=(List.mem_filter.mp hm).2;rw[n] at q;simp at q
theorem Eu{h:Heap}{H:Hp}{b:Addr}{o:Obj}(e:(pM h H).get? b=some o):h.get? b=some o/\H b=none:=by
 have e':h.get? b=some o:=PySem.W.of_hideAll (JT h H) e;refine⟨e',?_⟩;cases q:H b with
 | none=>rfl
 | some x =>
  have hm:b∈JT h H:=List.mem_filter.mpr ⟨List.mem_range.mpr (Heap.lt_size e'),by simp[q]⟩
  have z:(pM h H).get? b=none:=PySem.W.hideAll_none (JT h H) hm;rw[z] at e;cases e
def Ec(g h:Heap)(L:Addr):List (Addr×Obj):=(List.range h.objs.size).filterMap λa=>if a=L\/(g.get? a).isSome=true then none else (h.get? a).map λo=>(a,o)
def rest(g h:Heap)(L d:Addr):List (Addr×Obj):=(Ec g h L).filter λp=>decide (p.1≠d)
structure Mod (K:W.Frag)(mg:Str->Option Value)(base:Heap):Prop where
 kin:K.In base
 glob:base.Ns mainGlobals mg
 blt:∃mb,base.Ns builtinsNs mb /\ ∀x:Str,x ≠ "__name__" -> mb x=bootBuiltins x
 nolimit:base.NoLimit
structure Cx where
 prog:Program
 w:World
 K:W.Frag
 mg:Str->Option Value
 base:Heap
 A:Around
 N:List Str
 s₀:Shared
 H₀:Hp
 env:Env
 outer:List Env
 stack:List Env
 ex:List Addr
 fn:Str->Bool
 calm:Bool
 pn:List (Addr×Obj)
 xe:Value->Shared->Prop
def Au(l:List Env):List Addr:=l.filterMap (·.frame)
abbrev Cx.fs (X:Cx):List Addr:=Au X.outer
def Js(sc:Scope)(x:Str):Prop:=sc.names.lookup x=some .local\/sc.names.lookup x=some .cell\/sc.names.lookup x=some .free
def Dt(sc:Scope)(x:Str):Prop:=sc.names.lookup x=some .local\/sc.names.lookup x=some .cell
def Ke(env:Env)(h:Heap)(m:Str->Option Value)(x:Str)(u:Value):Prop :=
 (env.kindOf x=some .local/\m x=some u)\/((env.kindOf x=some .cell\/env.kindOf x=some .free) /\ ∃c,env.cells.lookup x=some c/\h.IsCell c (some u))
structure Cx.Ok (X:Cx):Prop where
 mod:Mod X.K X.mg X.base
 kind:X.env.scope.kind=.function
 glob:X.env.globals=mainGlobals
 blt:X.env.builtins=builtinsNs
 above:X.s₀.heap.objs.size<=X.env.locals
 inj:∀x y c,X.env.cells.lookup x=some c->X.env.cells.lookup y=some c->x=y
 has:∀x,(X.env.kindOf x=some .cell\/X.env.kindOf x=some .free) -> ∃c,X.env.cells.lookup x=some c
 cab:∀x c,X.fn x=true->X.env.cells.lookup x=some c->X.s₀.heap.objs.size<=c
 hd:X.calm=true->X.A.handled=none
 frames:X.A.frames=some X.stack
 stk:X.stack=X.outer\/(X.stack=X.env::X.outer/\X.env.frame=some X.env.locals)
 exf:∀b∈X.ex,b≠X.env.locals /\ ∀x c,X.env.cells.lookup x=some c->c≠b
 bs:∀b o,X.base.get? b=some o->X.s₀.heap.get? b=some o/\X.H₀ b=none
 bsz:X.base.objs.size<=X.s₀.heap.objs.size
 noex:∀b o,X.base.get? b=some o->b∉X.ex
 exfs:∀b∈X.ex,b∉X.fs
 funs:X.s₀.heap.FunFrames X.base X.outer
 frf:∀b∈X.fs,X.H₀ b=none
structure aU (X:Cx)(pins:List (Addr×Obj))(σ:List (Option V))(H:Hp)(s:Shared):Prop where
 ok:X.Ok
 os:s.os=X.s₀.os
 bare:AllBare s.gens
 base:Un X.fs X.ex X.H₀ H X.s₀.heap s.heap
 loc:∃m,s.heap.Ns X.env.locals m /\ ∀(i:Nat)(x:Str)(v:V),X.N[i]? = some x->σ[i]? = some (some v)->Js X.env.scope x -> ∃u,cC v u/\Ke X.env s.heap m x u
 cell:∀x c,X.env.cells.lookup x=some c -> ∃v,s.heap.IsCell c v
 free:H X.env.locals=none
 freeC:∀x c,X.env.cells.lookup x=some c->H c=none
 pin:∀p∈X.pn++pins,s.heap.get? p.1=some p.2/\H p.1=none/\p.1≠X.env.locals/\p.1∉X.fs /\ ∀v,p.2.data ≠ .cell v
 hok:oM X.prog X.w H s.heap
 len:σ.length=X.N.length
section
variable {X:Cx}{pins:List (Addr×Obj)}{σ:List (Option V)}{H H':Hp}{s:Shared}{h':Heap}
theorem Cx.Ok.nofr(ok:X.Ok){b:Addr}{o:Obj}(e:X.base.get? b=some o):b∉X.fs:=λhb=>by
 have:=(ok.funs.mem hb).1;rw[e] at this;cases this
theorem aU.bs(I:aU X pins σ H s):∀b o,X.base.get? b=some o->s.heap.get? b=some o/\H b=none:=λb o e =>
 ⟨I.base.keep b o (I.ok.bs b o e).1 (I.ok.bs b o e).2 (I.ok.nofr e) (I.ok.noex b o e),I.base.free b o (I.ok.bs b o e).1 (I.ok.bs b o e).2 (I.ok.noex b o e)⟩
theorem aU.bk(I:aU X pins σ H s):∀b o,X.base.get? b=some o->s.heap.get? b=some o:=λb o e=>(I.bs b o e).1
theorem aU.mod(I:aU X pins σ H s):Mod X.K X.mg X.base:=I.ok.mod
theorem aU.kIn(I:aU X pins σ H s):X.K.In s.heap:=I.ok.mod.kin.keeps I.bk
theorem aU.nolimit(I:aU X pins σ H s):s.heap.NoLimit:=I.ok.mod.nolimit.keeps I.bk
theorem aU.lt(I:aU X pins σ H s):X.env.locals<s.heap.objs.size:=let ⟨_,hn,_⟩:=I.loc;hn.lt
theorem aU.sz(I:aU X pins σ H s):X.s₀.heap.objs.size<=s.heap.objs.size:=Yg I.ok.above (Yh I.lt)
theorem aU.nofs(I:aU X pins σ H s) {a:Addr}(h:s.heap.objs.size<=a):a∉X.fs:=λhb=>by
 obtain⟨_,o,ho,_⟩:=I.ok.funs.mem hb;exact absurd (Yd (Heap.lt_size ho) (Yg I.sz h)) (Ye _)
theorem aU.cne(I:aU X pins σ H s):∀x c,X.env.cells.lookup x=some c->c≠X.env.locals:=λx c e z=>by
 obtain⟨v,o,ho,hd⟩:=I.cell x c e;obtain⟨m,⟨o',es,ep,ho',hd',_⟩,_⟩:=I.loc;rw[z,ho'] at ho;cases ho;rw[hd'] at hd;cases hd
theorem aU.funs(I:aU X pins σ H s):s.heap.FunFrames X.base X.outer:=by
 have all:∀(l:List Env),(∀b∈Au l,b∈X.fs)->X.s₀.heap.FunFrames X.base l->s.heap.FunFrames X.base l:=by
  intro l;induction l with
  | nil=>intro _ _;trivial
  | cons env r ih =>
   intro hs hl;obtain⟨hk,⟨L,o,hf,hn,ho,hd⟩,hr⟩:=hl;have hL:L∈X.fs:=hs L (by unfold Au;rw[List.filterMap_cons,hf];exact Yi)
   obtain⟨sl,e⟩:=I.base.slot L o ho (I.ok.frf L hL) hL λz=>I.ok.exfs L z hL;exact⟨hk,⟨L,_,hf,hn,e,hd⟩,ih (λb hb=>hs b (by unfold Au;rw[List.filterMap_cons,hf];exact Yj _ hb)) hr⟩
 exact all X.outer (λ_ hb=>hb) I.ok.funs
theorem aU.stack(I:aU X pins σ H s):s.heap.FunFrames X.base X.stack:=by
 rcases I.ok.stk with e|⟨e,hf⟩
 .rw[e];exact I.funs
 .rw[e];obtain⟨m,hn,_⟩:=I.loc;refine .cons (by rw[I.ok.kind];decide) hf hn ?_ I.funs
  exact Heap.get?_none_of_le (Yg I.ok.bsz I.ok.above)
theorem aU.stkSub(I:aU X pins σ H s):∀b∈Au X.stack,b∈X.env.locals::X.fs:=λb hb=>by
 rcases I.ok.stk with e|⟨e,hf⟩
 .rw[e] at hb;exact Yj _ hb
 .rw[e] at hb;unfold Au at hb;rw[List.filterMap_cons,hf] at hb;exact hb
theorem aU.stkFree(I:aU X pins σ H s):∀b∈Au X.stack,H b=none:=λb hb=>by
 rcases Y0.mp (I.stkSub b hb) with e|hb
 .rw[e];exact I.free
 .obtain⟨_,o,ho,_⟩:=I.ok.funs.mem hb;exact I.base.free b o ho (I.ok.frf b hb) λz=>I.ok.exfs b z hb
theorem aU.step{g':Array GenState}{t':Nat}{d':Drawn}{ch:List Addr}(I:aU X pins σ H s)
  (hch:∀b∈ch,(b∈X.ex\/X.s₀.heap.objs.size<=b)/\b≠X.env.locals/\(∀x c,X.env.cells.lookup x=some c->c≠b) /\ ∀p∈X.pn++pins,p.1≠b)
  (keep:∀b o,b≠X.env.locals->b∉X.fs->b∉ch->s.heap.get? b=some o->H b=none->h'.get? b=some o)
  (slot:∀b o,b≠X.env.locals->b∈X.fs->b∉ch->s.heap.get? b=some o->H b=none -> ∃sl,h'.get? b=some { o with slots:=sl })(free:∀b o,b∉ch->s.heap.get? b=some o->H b=none->H' b=none)
  (there:∀b o,b∉ch->s.heap.get? b=some o -> ∃o',h'.get? b=some o')
  (tups:∀b xs,H b=some (.tup xs)->H' b=some (.tup xs))(frzs:∀b o u,H b=some (.frz o u)->H' b=some (.frz o u))(tbls:∀b ps,H b=some (.tbl ps) -> ∃more,H' b=some (.tbl (ps++more)))
  (ns:∀m,s.heap.Ns X.env.locals m->h'.Ns X.env.locals m)(hok:oM X.prog X.w H' h')(hg:AllBare g') :
  aU X pins σ H' { s with heap:=h',gens:=g',drawn:=d',toks:=t' }:=by
 have neL:∀b o,X.s₀.heap.get? b=some o->b≠X.env.locals:=λb o e=>Yf (Yd (Heap.lt_size e) I.ok.above);have neC:∀b o,X.s₀.heap.get? b=some o->b∉X.ex->b∉ch:=λb o e hx hb=>by
  rcases (hch b hb).1 with z|z
  .exact hx z
  .exact absurd (Yd (Heap.lt_size e) z) (Ye _)
 have cellK:∀x c,X.env.cells.lookup x=some c -> ∀v,s.heap.IsCell c v->h'.IsCell c v:=λx c e v ⟨o,ho,hd⟩=>by
  have nch:c∉ch:=λz=>(hch c z).2.2.1 x c e rfl;by_cases hc:c∈X.fs
  .obtain⟨sl,q⟩:=slot c o (I.cne x c e) hc nch ho (I.freeC x c e);exact⟨_,q,hd⟩
  .exact⟨o,keep c o (I.cne x c e) hc nch ho (I.freeC x c e),hd⟩
 refine⟨I.ok,I.os,hg,⟨λb o e n hb hx=>?_,λb o e n hb hx=>?_,λb o e n hx=>?_,λb o e hx=>?_,λb xs e=>tups b xs (I.base.tups b xs e),λb o xs e=>frzs b o xs (I.base.frzs b o xs e),λb ps e=>?_⟩,?_,λx c e=>?_,?_,λx c e=>?_,λp hp=>?_,hok,I.len⟩
 .exact keep b o (neL b o e) hb (neC b o e hx) (I.base.keep b o e n hb hx) (I.base.free b o e n hx)
 .obtain⟨sl,e1⟩:=I.base.slot b o e n hb hx;obtain⟨sl',e2⟩:=slot b _ (neL b o e) hb (neC b o e hx) e1 (I.base.free b o e n hx);exact⟨sl',e2⟩
 .obtain⟨o',e1⟩:=I.base.there b o e hx;exact free b o' (neC b o e hx) e1 (I.base.free b o e n hx)
 .obtain⟨o',e1⟩:=I.base.there b o e hx;exact there b o' (neC b o e hx) e1
 .obtain⟨m1,e1⟩:=I.base.tbls b ps e;obtain⟨m2,e2⟩:=tbls b _ e1;exact⟨m1++m2,by rw[e2,Array.append_assoc]⟩
 .obtain⟨m,hn,hl⟩:=I.loc;refine⟨m,ns m hn,λi x v e1 e2 e3=>?_⟩;obtain⟨u,r,l⟩:=hl i x v e1 e2 e3;refine⟨u,r,?_⟩;rcases l with l|⟨k,c,e,z⟩
  .exact .inl l
  .exact .inr ⟨k,c,e,cellK x c e _ z⟩
 .obtain⟨v,z⟩:=I.cell x c e;exact⟨v,cellK x c e v z⟩
 .obtain⟨m,⟨o,_,_,ho,_⟩,_⟩:=I.loc;exact free _ o (λz=>(hch _ z).2.1 rfl) ho I.free
 .obtain⟨v,o,ho,hd⟩:=I.cell x c e;exact free c o (λz=>(hch c z).2.2.1 x c e rfl) ho (I.freeC x c e)
 .obtain⟨e,n,ne,nf,d⟩:=I.pin p hp;have nch:p.1∉ch:=λz=>(hch p.1 z).2.2.2 p hp rfl;exact⟨keep p.1 p.2 ne nf nch e n,free p.1 p.2 nch e n,ne,nf,d⟩
theorem aU.un{t':Nat}(I:aU X pins σ H s)(u:Un X.fs [] H H' s.heap h')(hok:oM X.prog X.w H' h'):aU X pins σ H' { s with heap:=h',toks:=t' }:=by
 obtain⟨m,⟨o,es,ep,ho,r⟩,_⟩:=id I.loc;obtain⟨sl,hL⟩:=u.any ho I.free (by simp)
 exact I.step (g':=s.gens) (d':=s.drawn) (ch:=[]) (λ_ z=>nomatch z) (λb o _ hb _ e n=>u.keep b o e n hb (by simp)) (λb o _ hb _ e n=>u.slot b o e n hb (by simp)) (λb o _ e n=>u.free b o e n (by simp)) (λb o _ e=>u.there b o e (by simp)) u.tups u.frzs u.tbls (λm' hm=>by
  obtain⟨o',es',ep',ho',r'⟩:=hm;rw[ho] at ho';cases ho';exact⟨_,es',ep',hL,r'⟩) hok I.bare
theorem aU.call{g':Array GenState}{t':Nat}{d':Drawn}{ch:List Addr}(I:aU X pins σ H s)(u:Un (Au X.stack) ch H H' s.heap h')(hok:oM X.prog X.w H' h')(hg:AllBare g')
  (hch:∀b∈ch,(b∈X.ex\/X.s₀.heap.objs.size<=b)/\b≠X.env.locals/\(∀x c,X.env.cells.lookup x=some c->c≠b) /\ ∀p∈X.pn++pins,p.1≠b) :
  aU X pins σ H' { s with heap:=h',gens:=g',drawn:=d',toks:=t' }:=by
 obtain⟨m,⟨o,es,ep,ho,r⟩,_⟩:=id I.loc;obtain⟨sl,hL⟩:=u.any ho I.free λz=>(hch _ z).2.1 rfl;exact I.step (ch:=ch) hch (λb o hL hb hc e n=>u.keep b o e n (λz=>(Y0.mp (I.stkSub b z)).elim hL hb) hc) (λb o _ _ hc e n=>u.any e n hc) (λb o hc e n=>u.free b o e n hc) (λb o hc e=>u.there b o e hc) u.tups u.frzs u.tbls (λm' hm=>by
  obtain⟨o',es',ep',ho',r'⟩:=hm;rw[ho] at ho';cases ho';exact⟨_,es',ep',hL,r'⟩) hok hg
theorem aU.turned{t':Nat}{it:Addr}(I:aU X pins σ H s)(k:∀b o,b≠it->s.heap.get? b=some o->h'.get? b=some o)(hn:H it=none)(hL:it≠X.env.locals)
  (h1:it∈X.ex\/X.s₀.heap.objs.size<=it)(h2:∀x c,X.env.cells.lookup x=some c->c≠it)(h3:∀p∈X.pn++pins,p.1≠it):aU X pins σ H { s with heap:=h',toks:=t' }:=by
 have nit:∀b u,H b=some u->b≠it:=λb u e z=>by rw[z,hn] at e;cases e
 refine I.step (g':=s.gens) (d':=s.drawn) (ch:=[it]) (λb hb=>?_) (λb o _ _ hc e _=>k b o (λz=>hc (by simp[z])) e) (λb o _ _ hc e _=>⟨o.slots,k b o (λz=>hc (by simp[z])) e⟩) (λ_ _ _ _ n=>n)
  (λb o hc e=>⟨o,k b o (λz=>hc (by simp[z])) e⟩) (λ_ _ e=>e) (λ_ _ _ e=>e) (λb ps e=>⟨#[],by rw[e];simp⟩) (λm hm=>?_) (λb u e=>?_) I.bare
 .have e:b=it:=by simpa using hb
  subst e;exact⟨h1,hL,h2,h3⟩
 .obtain⟨o,es,ep,ho,r⟩:=hm;exact⟨o,es,ep,k _ o (Yk hL) ho,r⟩
 .refine (I.hok b u e).stay (λc v hc q=>k c v ?_ q) (λ_ q=>q) λ_ _ q=>q;rcases hc with z|z
  .rw[z];exact nit b u e
  .exact nit c _ z
theorem aU.tok(I:aU X pins σ H s)(t:Nat):aU X pins σ H { s with toks:=t }:=I.un (h':=s.heap) (t':=t) Un.refl I.hok
theorem aU.kept{t':Nat}(I:aU X pins σ H s)(k:∀b u,s.heap.get? b=some u->h'.get? b=some u):aU X pins σ H { s with heap:=h',toks:=t' }:=I.un (Un.kept k) (I.hok.kept k)
theorem aU.laid{a:Addr}{o:HO}{t':Nat}(I:aU X pins σ H s)(k:∀b u,s.heap.get? b=some u->h'.get? b=some u)(hp:s.heap.objs.size<=a)(new:dZ X.prog X.w (upd H a o) h' a o) :
  aU X pins σ (upd H a o) { s with heap:=h',toks:=t' }:=I.un (Un.laid k hp (I.hok.fresh hp)) (I.hok.laid k hp new)
theorem aU.write{x e:Addr}{o:HO}{t':Nat}(I:aU X pins σ H s)(mu:J9 (H x))(he:e=x\/H e=some (.own x))(k:∀b u,b≠e->s.heap.get? b=some u->h'.get? b=some u)(heo:∃u,h'.get? e=some u)
  (new:dZ X.prog X.w (upd H x o) h' x o):aU X pins σ (upd H x o) { s with heap:=h',toks:=t' }:=I.un (Un.write mu he k heo) (I.hok.write mu he k heo new)
theorem aU.pins_of{pins':List (Addr×Obj)}(I:aU X pins σ H s)(h:∀p∈pins',s.heap.get? p.1=some p.2/\H p.1=none/\p.1≠X.env.locals/\p.1∉X.fs /\ ∀v,p.2.data ≠ .cell v):aU X pins' σ H s :=
 ⟨I.ok,I.os,I.bare,I.base,I.loc,I.cell,I.free,I.freeC,λp hp=>(List.mem_append.mp hp).elim (λz=>I.pin p (List.mem_append_left _ z)) (h p),I.hok,I.len⟩
theorem uw{N:List Str}(hN:N.Nodup) {i j:Nat}{x:Str}(a:N[i]? = some x)(b:N[j]? = some x):i=j:=by
 obtain⟨h1,e1⟩:=List.getElem?_eq_some_iff.mp a;obtain⟨h2,e2⟩:=List.getElem?_eq_some_iff.mp b;exact (List.getElem_inj hN).mp (e1.trans e2.symm)
theorem rD{M:Model}{A:Around}{E:Value->Shared->Prop}{i:Nat}{x:Str}{v:V}{u:Value}{Q:Unit->Shared->Prop}(I:aU X pins σ H s)(hN:X.N.Nodup)(hi:X.N[i]? = some x)(hx:Dt X.env.scope x)(r:cC v u)
  (h:∀s',aU X pins (σ.set i (some v)) H s'->(∃a,Heap.SameBut a s.heap s'.heap/\(a=X.env.locals\/X.env.cells.lookup x=some a))->Q PUnit.unit s')(hf:X.fn x=true\/X.env.scope.names.lookup x=some .local:=by first|exact .inl rfl|exact .inr rfl|assumption):wpAny M A (storeName X.env x u) Q E s:=by
 obtain⟨m,hn,hl⟩:=id I.loc;have hcls:(X.env.scope.kind == .class || (X.env.scope.kind == .module && X.env.locals != X.env.globals))=false:=by rw[I.ok.kind];rfl
 have hiσ:i<σ.length:=by rw[I.len];exact (List.getElem?_eq_some_iff.mp hi).1
 have cne:=I.cne;have tracked:∀{a:Addr}{h':Heap},(∃o,s.heap.get? a=some o/\H a=none)->Heap.SameBut a s.heap h'->oM X.prog X.w H h':=λ{a h'} ha hs b ob e=>by
  obtain⟨_,_,hfree⟩:=ha;refine (I.hok b ob e).stay (λc w' hc q=>(hs.2 c ?_).trans q) (λ_ q=>q) λ_ _ q=>q;rintro rfl;rcases hc with rfl|hc
  .rw[hfree] at e;cases e
  .rw[hfree] at hc;cases hc
 rcases hx with hk|hk
 .refine wpAny_storeName_local hk hn (λh' hn' hs=>?_) hcls;obtain⟨oL,_,_,hoL,_⟩:=id hn;refine h _ ⟨I.ok,I.os,I.bare,⟨λb o e n hb hx=>?_,λb o e n hb hx=>?_,I.base.free,λb o e hx=>?_,I.base.tups,I.base.frzs,I.base.tbls⟩,⟨_,hn',λj y v' e1 e2 e3=>?_⟩,λy c e=>?_,I.free,I.freeC,λp hp=>?_,tracked ⟨oL,hoL,I.free⟩ hs,by simpa using I.len⟩ ⟨_,hs,.inl rfl⟩
  .exact (hs.2 b (Yf (Yd (Heap.lt_size e) I.ok.above))).trans (I.base.keep b o e n hb hx)
  .obtain⟨sl,e1⟩:=I.base.slot b o e n hb hx;exact⟨sl,(hs.2 b (Yf (Yd (Heap.lt_size e) I.ok.above))).trans e1⟩
  .obtain⟨o',e1⟩:=I.base.there b o e hx;exact⟨o',(hs.2 b (Yf (Yd (Heap.lt_size e) I.ok.above))).trans e1⟩
  .by_cases hj:j=i
   .subst hj;rw[hi] at e1;cases e1;rw[List.getElem?_set_self hiσ] at e2;cases e2;exact⟨u,r,.inl ⟨hk,by simp⟩⟩
   .rw[Yl (Yk hj)] at e2;obtain⟨u',r',q⟩:=hl j y v' e1 e2 e3;refine⟨u',r',?_⟩;rcases q with ⟨k,e⟩|⟨k,c,e,z⟩
    .refine .inl ⟨k,?_⟩;have:y≠x:=λe=>hj (uw hN e1 (e▸hi));simp[this,e]
    .exact .inr ⟨k,c,e,z.sameBut hs (cne y c e)⟩
  .obtain⟨w',z⟩:=I.cell y c e;exact⟨w',z.sameBut hs (cne y c e)⟩
  .obtain⟨e,n,ne,nf,d⟩:=I.pin p hp;exact⟨(hs.2 p.1 ne).trans e,n,ne,nf,d⟩
 .have hfn:X.fn x=true:=by
   rcases hf with z|z
   .exact z
   .rw[z] at hk;cases hk
  obtain⟨c,hc⟩:=I.ok.has x (.inl hk);obtain⟨w',z⟩:=I.cell x c hc;refine wpAny_storeName_cell I.ok.kind hk hc z (λh' hc' hs=>?_);obtain⟨oc,hoc,hocd⟩:=id z;refine h { s with heap:=h' } ⟨I.ok,I.os,I.bare,⟨λb o e n hb hx=>?_,λb o e n hb hx=>?_,I.base.free,λb o e hx=>?_,I.base.tups,I.base.frzs,I.base.tbls⟩,⟨m,hn.sameBut hs (Yk (cne x c hc)),λj y v' e1 e2 e3=>?_⟩,λy c' e=>?_,I.free,I.freeC,λp hp=>?_,tracked ⟨oc,hoc,I.freeC x c hc⟩ hs,by simpa using I.len⟩ ⟨c,hs,.inr hc⟩
  .exact (hs.2 b (Yf (Yd (Heap.lt_size e) (I.ok.cab x c hfn hc)))).trans (I.base.keep b o e n hb hx)
  .obtain⟨sl,e1⟩:=I.base.slot b o e n hb hx;exact⟨sl,(hs.2 b (Yf (Yd (Heap.lt_size e) (I.ok.cab x c hfn hc)))).trans e1⟩
  .obtain⟨o',e1⟩:=I.base.there b o e hx;exact⟨o',(hs.2 b (Yf (Yd (Heap.lt_size e) (I.ok.cab x c hfn hc)))).trans e1⟩
  .by_cases hj:j=i
   .subst hj;rw[hi] at e1;cases e1;rw[List.getElem?_set_self hiσ] at e2;cases e2;exact⟨u,r,.inr ⟨.inl hk,c,hc,hc'⟩⟩
   .rw[Yl (Yk hj)] at e2;obtain⟨u',r',q⟩:=hl j y v' e1 e2 e3;refine⟨u',r',?_⟩;rcases q with q|⟨k,c',e,z'⟩
    .exact .inl q
    .refine .inr ⟨k,c',e,z'.sameBut hs ?_⟩;rintro rfl;exact hj (uw hN e1 (I.ok.inj _ _ _ e hc▸hi))
  .by_cases hcc:c'=c
   .subst hcc;exact⟨_,hc'⟩
   .obtain⟨w2,z2⟩:=I.cell y c' e;exact⟨w2,z2.sameBut hs hcc⟩
  .obtain⟨e,n,ne,nf,d⟩:=I.pin p hp;refine⟨(hs.2 p.1 ?_).trans e,n,ne,nf,d⟩;intro q;rw[q,hoc] at e;have q':oc=p.2:=Ym e;exact d w' (by rw[<-q'];exact hocd)
theorem gb{M:Model}{A:Around}{E:Value->Shared->Prop}{i:Nat}{x:Str}{v:V}{u:Value}{Q:Unit->Shared->Prop}(I:aU X pins σ H s)(hN:X.N.Nodup)(hi:X.N[i]? = some x)(hx:Dt X.env.scope x)(r:cC v u)
  (h:∀s',aU X pins (σ.set i (some v)) H s'->Q PUnit.unit s')(hf:X.fn x=true\/X.env.scope.names.lookup x=some .local:=by first|exact .inl rfl|exact .inr rfl|assumption):wpAny M A (storeName X.env x u) Q E s :=
 rD I hN hi hx r (λs' I' _=>h s' I') hf
theorem aU.call'{s':Shared}{ch:List Addr}(I:aU X pins σ H s)(ho:s'.os=s.os)(u:Un (Au X.stack) ch H H' s.heap s'.heap)(hok:oM X.prog X.w H' s'.heap)(hg:AllBare s'.gens)
  (hch:∀b∈ch,(b∈X.ex\/X.s₀.heap.objs.size<=b)/\b≠X.env.locals/\(∀x c,X.env.cells.lookup x=some c->c≠b) /\ ∀p∈X.pn++pins,p.1≠b):aU X pins σ H' s':=by
 obtain⟨h',g',d',t',o'⟩:=s';have e:o'=s.os:=ho;subst e;exact I.call (g':=g') (t':=t') (d':=d') u hok hg hch
end
abbrev XK:=Value->Option Addr->Hp->Prop
abbrev St:=List (Option V)
abbrev VK:=V->Hp->Prop
abbrev TE:=St->Hp->VK->Prop
abbrev TT:=St->Hp->(Bool->Hp->Prop)->Prop
abbrev TA:=St->Hp->(List V->Hp->Prop)->Prop
structure nO where
 nx:St->Hp->Prop
 rt:VK
 bk:St->Hp->Prop:=λ_ _=>False
 ct:St->Hp->Prop:=λ_ _=>False
abbrev TS:=nO->St->Hp->Prop
def EP(X:Cx)(pins:List (Addr×Obj))(σ:St)(Q:VK)(u:Value)(s':Shared):Prop:=∃v H',aU X pins σ H' s'/\cC v u/\Q v H'
def TP(X:Cx)(pins:List (Addr×Obj))(σ:St)(Q:Bool->Hp->Prop)(b:Bool)(s':Shared):Prop:=∃H',aU X pins σ H' s'/\Q b H'
def AP(X:Cx)(pins:List (Addr×Obj))(σ:St)(Q:List V->Hp->Prop)(us:List Value)(s':Shared):Prop:=∃vs H',aU X pins σ H' s'/\bV vs us/\Q vs H'
def SP(X:Cx)(pins:List (Addr×Obj))(D:nO)(f:Flow)(s':Shared):Prop :=
 match f with
 | .next=>∃σ' H',aU X pins σ' H' s'/\D.nx σ' H'
 | .brk=>∃σ' H',aU X pins σ' H' s'/\D.bk σ' H'
 | .cont=>∃σ' H',aU X pins σ' H' s'/\D.ct σ' H'
 | .ret u=>∃v σ' H',aU X pins σ' H' s'/\cC v u/\D.rt v H'
def PE(X:Cx)(e:Expr)(t:TE):Prop :=
 ∀(pins:List (Addr×Obj))(s:Shared)(σ:St)(H:Hp)(Q:VK),aU X pins σ H s->t σ H Q->wpAny (model X.prog X.w) X.A (eval e X.env) (EP X pins σ Q) X.xe s
def PT(X:Cx)(e:Expr)(t:TT):Prop :=
 ∀(pins:List (Addr×Obj))(s:Shared)(σ:St)(H:Hp)(Q:Bool->Hp->Prop),aU X pins σ H s->t σ H Q->wpAny (model X.prog X.w) X.A (isTrue e X.env (eval e X.env)) (TP X pins σ Q) X.xe s
def PW(X:Cx)(e:Expr)(t:TT):Prop :=
 ∀(whole:Sem Value)(pins:List (Addr×Obj))(s:Shared)(σ:St)(H:Hp)(Q:Bool->Hp->Prop),aU X pins σ H s->t σ H Q->wpAny (model X.prog X.w) X.A (isTrue e X.env whole) (TP X pins σ Q) X.xe s
theorem PW.pt{X:Cx}{e:Expr}{t:TT}(h:PW X e t):PT X e t:=h _
def PA(X:Cx)(es:List Expr)(t:TA):Prop :=
 ∀(pos:Pos)(pins:List (Addr×Obj))(s:Shared)(σ:St)(H:Hp)(Q:List V->Hp->Prop),aU X pins σ H s->t σ H Q->wpAny (model X.prog X.w) X.A (spliced (backTo pos (starEach es X.env))) (AP X pins σ Q) X.xe s
def PS(X:Cx)(st:Stmt)(t:TS):Prop :=
 ∀(pins:List (Addr×Obj))(s:Shared)(σ:St)(H:Hp)(D:nO),aU X pins σ H s->t D σ H->wpAny (model X.prog X.w) X.A (exec st X.env) (SP X pins D) X.xe s
def vM(X:Cx)(st:List Stmt)(t:TS):Prop :=
 ∀(pins:List (Addr×Obj))(s:Shared)(σ:St)(H:Hp)(D:nO),aU X pins σ H s->t D σ H->wpAny (model X.prog X.w) X.A (execs st X.env) (SP X pins D) X.xe s
theorem dy{α:Type}{t:Sem α}{Q Q':α->Shared->Prop}{M:Model}{A:Around}{E:Value->Shared->Prop}{s:Shared}(h:wpAny M A t Q E s)(hQ:∀a s,Q a s->Q' a s):wpAny M A t Q' E s:=wpAny_mono h hQ λ_ _ x=>x
section
variable {X:Cx}
def Ff(i:Nat):TE:=λσ H Q=>∃v,σ[i]? = some (some v)/\Q v H
def tC(v:V):TE:=λ_ H Q=>Q v H
theorem G3{i:Nat}{x:Str}{pos:Pos}(hN:X.N[i]? = some x)(hv:Js X.env.scope x)(hd:(x==("__debug__" : Str))=false:=by decide) (hcd:(x==("__classdict__" : Str))=false:=by decide):PE X (.Name x pos) (Ff i):=by
 intro pins s σ H Q I h;obtain⟨v,e,h⟩:=h;obtain⟨m,hn,hl⟩:=I.loc;obtain⟨u,r,l⟩:=hl i x v hN e hv;have fin:EP X pins σ Q u s:=⟨v,H,I,r,h⟩;rcases l with ⟨hk,hm⟩|⟨hk,c,hc,hcell⟩
 .exact wpAny_Name (wpAny_loadName_local I.ok.kind hk hn hm fin) hd
 .rcases hk with hk|hk
  .exact wpAny_Name (wpAny_loadName_cell I.ok.kind hk hc hcell fin) hd
  .exact wpAny_Name (wpAny_loadName_free I.ok.kind hk hc hcell fin hcd) hd
theorem Ie {i j pos}:PE X (.Constant (.int i) j pos) (tC (.int i)):=λ_ _ _ H _ I h=>wpAny_Constant_int ⟨.int i,H,I.tok _,⟨_,rfl⟩,h⟩
theorem JI {b j pos}:PE X (.Constant (.bool b) j pos) (tC (.bl b)):=λ_ _ _ H _ I h=>Constant_bool ⟨.bl b,H,I,rfl,h⟩
theorem GS {j pos}:PE X (.Constant .none j pos) (tC .non):=λ_ _ _ H _ I h=>Constant_none ⟨.non,H,I,rfl,h⟩
theorem G6 {x j pos}:PE X (.Constant (.str x) j pos) (tC (.str x)):=λ_ _ _ H _ I h=>Calls.Constant_str ⟨.str x,H,I.tok _,⟨_,rfl⟩,h⟩
def Gl(X:Cx)(x:Str):Prop:=X.env.kindOf x=some .globalImplicit
theorem yY{E:Value->Shared->Prop}{pins:List (Addr×Obj)}{s:Shared}{σ:St}{H:Hp}{x:Str}{u:Value}{pos:Pos}{Q:Value->Shared->Prop}(I:aU X pins σ H s)(hg:Gl X x)(hm:X.mg x=some u)(h:Q u s)
  (hd:(x==("__debug__" : Str))=false:=by decide):wpAny (model X.prog X.w) X.A (eval (.Name x pos) X.env) Q E s :=
 Calls.Name_function_global I.ok.kind hg (Calls.loadGlobal_global (by rw[I.ok.glob];exact I.mod.glob.keeps I.bk) hm h) hd
theorem jW{E:Value->Shared->Prop}{pins:List (Addr×Obj)}{s:Shared}{σ:St}{H:Hp}{x:Str}{u:Value}{pos:Pos}{Q:Value->Shared->Prop}(I:aU X pins σ H s)(hg:Gl X x)(hm:X.mg x=none)(hv:bootBuiltins x=some u)(h:Q u s)
  (hn:x ≠ "__name__":=by decide) (hd:(x==("__debug__" : Str))=false:=by decide):wpAny (model X.prog X.w) X.A (eval (.Name x pos) X.env) Q E s:=by
 obtain⟨mb,h1,h2⟩:=I.mod.blt;exact Calls.Name_function_global I.ok.kind hg (Calls.loadGlobal_builtin (by rw[I.ok.glob];exact I.mod.glob.keeps I.bk) hm (by rw[I.ok.blt];exact h1.keeps I.bk) ((h2 x hn).trans hv) h) hd
theorem DZ{x:Str}{v:V}{u:Value}{pos:Pos}(hg:Gl X x)(hm:X.mg x=some u)(r:cC v u)(hd:(x==("__debug__" : Str))=false:=by decide):PE X (.Name x pos) (tC v) :=
 λ_ _ _ H _ I h=>yY I hg hm ⟨v,H,I,r,h⟩ hd
theorem Dz{x:Str}{v:V}{u:Value}{pos:Pos}(hg:Gl X x)(hm:X.mg x=none)(hv:bootBuiltins x=some u)(r:cC v u)(hn:x ≠ "__name__":=by decide) (hd:(x==("__debug__" : Str))=false:=by decide):PE X (.Name x pos) (tC v) :=
 λ_ _ _ H _ I h=>jW I hg hm hv ⟨v,H,I,r,h⟩ hn hd
variable {a b:Expr}{ta tb:TE}{pos:Pos}
def tB(t:TE):TT:=λσ H Q=>t σ H λx H1=>∃c,x=.bl c/\Q c H1
theorem HX{e:Expr}{t:TE}(h:PE X e t)(he:∀whole,isTrue e X.env whole=(do let v <-whole;standAt e.pos;holding [v] (truthy v)):=by intro _;rfl):PT X e (tB t):=by
 intro pins s σ H Q I hw;refine isTrue_plain (dy (h pins s σ H _ I hw) λv s1 ⟨x,H1,I1,r1,q1⟩=>?_) (he _);obtain⟨d,rfl,q⟩:=q1;cases r1;exact wpAny_truthy_bool ⟨H1,I1,q⟩
variable {tA tB':TT}{rest:List Expr}
def Hj(t u:TT):TT:=λσ H Q=>t σ H λc H1=>if c=true then u σ H1 Q else Q false H1
def KI(t u:TT):TT:=λσ H Q=>t σ H λc H1=>if c=true then Q true H1 else u σ H1 Q
def Hv(t:TT):TT:=λσ H Q=>t σ H λc H1=>Q (!c) H1
theorem ED(ha:PT X a tA):PW X (.BoolOp .And [a] pos) tA:=by
 intro wh pins s σ H Q I h;refine isTrue_and (dy (ha pins s σ H Q I h) λc s1 e=>?_);cases c with
 | true=>exact isTrue_and_nil e
 | false=>exact e
theorem Gy(ha:PT X a tA):PW X (.BoolOp .Or [a] pos) tA:=by
 intro wh pins s σ H Q I h;refine isTrue_or (dy (ha pins s σ H Q I h) λc s1 e=>?_);cases c with
 | false=>exact isTrue_or_nil e
 | true=>exact e
theorem F6(ha:PT X a tA)(hb:PW X (.BoolOp .And (b::rest) pos) tB'):PW X (.BoolOp .And (a::b::rest) pos) (Hj tA tB'):=by
 intro wh pins s σ H Q I h;refine isTrue_and (dy (ha pins s σ H _ I h) λc s1 ⟨H1,I1,q1⟩=>?_);cases c with
 | true=>exact hb wh pins s1 σ H1 Q I1 q1
 | false=>exact⟨H1,I1,q1⟩
theorem JQ(ha:PT X a tA)(hb:PW X (.BoolOp .Or (b::rest) pos) tB'):PW X (.BoolOp .Or (a::b::rest) pos) (KI tA tB'):=by
 intro wh pins s σ H Q I h;refine isTrue_or (dy (ha pins s σ H _ I h) λc s1 ⟨H1,I1,q1⟩=>?_);cases c with
 | true=>exact⟨H1,I1,q1⟩
 | false=>exact hb wh pins s1 σ H1 Q I1 q1
theorem Ib(ha:PT X a tA):PT X (.UnaryOp .Not a pos) (Hv tA):=by
 intro pins s σ H Q I h;exact isTrue_not (ha pins s σ H (λc H1=>Q (!c) H1) I h)
def yd(ta tb:TE):TE:=λσ H Q=>ta σ H λx H1=>∃c,x=.bl c/\if c=true then tb σ H1 Q else Q (.bl false) H1
def Fc(ta tb:TE):TE:=λσ H Q=>ta σ H λx H1=>∃c,x=.bl c/\if c=true then Q (.bl true) H1 else tb σ H1 Q
def ym(ta:TE):TE:=λσ H Q=>ta σ H λx H1=>∃c,x=.bl c/\Q (.bl (!c)) H1
theorem GP {op}{t:TE}(h:PE X a t):PE X (.BoolOp op [a] pos) t:=λpins s σ H Q I hw=>BoolOp_one (h pins s σ H Q I hw)
theorem HL(ha:PE X a ta)(hb:PE X (.BoolOp .And (b::rest) pos) tb):PE X (.BoolOp .And (a::b::rest) pos) (yd ta tb):=by
 intro pins s σ H Q I h;refine BoolOp_and (dy (ha pins s σ H _ I h) λv s1 ⟨x,H1,I1,r1,q1⟩=>?_);obtain⟨c,rfl,q1⟩:=q1;cases r1;refine wpAny_truthy_bool ?_;cases c with
 | true=>exact hb pins s1 σ H1 Q I1 q1
 | false=>exact⟨.bl false,H1,I1,rfl,q1⟩
theorem Jk(ha:PE X a ta)(hb:PE X (.BoolOp .Or (b::rest) pos) tb):PE X (.BoolOp .Or (a::b::rest) pos) (Fc ta tb):=by
 intro pins s σ H Q I h;refine BoolOp_or (dy (ha pins s σ H _ I h) λv s1 ⟨x,H1,I1,r1,q1⟩=>?_);obtain⟨c,rfl,q1⟩:=q1;cases r1;refine wpAny_truthy_bool ?_;cases c with
 | false=>exact hb pins s1 σ H1 Q I1 q1
 | true=>exact⟨.bl true,H1,I1,rfl,q1⟩
theorem HB(ha:PE X a ta):PE X (.UnaryOp .Not a pos) (ym ta):=by
 intro pins s σ H Q I h;refine UnaryOp_ (dy (ha pins s σ H _ I h) λv s1 ⟨x,H1,I1,r1,q1⟩=>?_);obtain⟨c,rfl,q1⟩:=q1;cases r1;exact not_of (wpAny_truthy_bool ⟨.bl (!c),H1,I1,rfl,q1⟩)
def Ks(t:TT)(ta tb:TE):TE:=λσ H Q=>t σ H λc H1=>if c=true then ta σ H1 Q else tb σ H1 Q
theorem AW{c:Expr}(hc:PT X c tA)(ha:PE X a ta)(hb:PE X b tb):PE X (.IfExp c a b pos) (Ks tA ta tb):=by
 intro pins s σ H Q I h;refine wpAny_IfExp (dy (hc pins s σ H _ I h) λd s1 ⟨H1,I1,q1⟩=>?_);cases d with
 | true=>exact ha pins s1 σ H1 Q I1 q1
 | false=>exact hb pins s1 σ H1 Q I1 q1
end
def ke(K:W.Frag)(H:Hp)(a:Addr)(xs:List V):Prop :=
 Rd H a (.lst xs) \/
  ∃(o:Obj)(its:Array Value)(n:Nat),K.lookup a=some o/\o.cls=.type "list" /\ o.dict=none/\o.data=.seq its n/\its.size<=sizeLine/\bV xs its.toList
def rK(K:W.Frag)(H:Hp)(a:Addr)(xs:List V):Prop :=
 Rd H a (.tup xs) \/
  ∃(o:Obj)(its:Array Value)(n:Nat),K.lookup a=some o/\o.cls=.type "tuple" /\ o.data=.seq its n/\its.size<=sizeLine/\bV xs its.toList
def Ji:Value->Option V
 | .none=>some .non
 | .bool b=>some (.bl b)
 | .int i _=>some (.int i)
 | .str x _=>some (.str x)
 | .bytes b _=>some (.byt b)
 | .float b _=>some (.flt b)
 | .ref a=>some (.ref a)
 | .type n=>some (.ty n)
 | _=>none
theorem cC.abs{x:V}{u:Value}(r:cC x u):Ji u=some x:=by
 cases x with
 | non=>cases r;rfl
 | bl _=>cases r;rfl
 | int _=>obtain⟨t,rfl⟩:=r;rfl
 | str _=>obtain⟨t,rfl⟩:=r;rfl
 | byt _=>obtain⟨t,rfl⟩:=r;rfl
 | flt _=>obtain⟨t,rfl⟩:=r;rfl
 | ref _=>cases r;rfl
 | ty _=>cases r;rfl
theorem cC.inj{x y:V}{u:Value}(r:cC x u)(q:cC y u):x=y:=Ym (r.abs.symm.trans q.abs)
theorem bV.inj:∀{xs ys:List V}{us:List Value},bV xs us->bV ys us->xs=ys
 | _,_,_,.nil,.nil=>rfl
 | _,_,_,.cons r t,.cons r' t'=>by rw[r.inj r',bV.inj t t']
section
variable {X:Cx}{pins:List (Addr×Obj)}{σ:St}{H:Hp}{s:Shared}{a:Addr}{xs ys:List V}
theorem ke.of{K:W.Frag}(h:H a=some (.lst xs)):ke K H a xs:=.inl (.inl h)
theorem rK.of{K:W.Frag}(h:H a=some (.tup xs)):rK K H a xs:=.inl (.inl h)
theorem aU.list(I:aU X pins σ H s)(h:ke X.K H a xs):∃its:List Value,bV xs its/\PlainL s.heap a its.toArray/\xs.length<=sizeLine:=by
 rcases h with h|⟨o,its,n,hk,hc,hd,hs,hz,r⟩
 .obtain⟨z,its,n,r,e⟩:=h.ok I.hok;exact⟨its,r,⟨_,n,e,rfl,rfl,rfl⟩,z⟩
 .refine⟨its.toList,r,⟨o,n,I.kIn a o hk,hc,hd,by simpa using hs⟩,?_⟩
  have e:=r.length;simp only[Array.length_toList] at e;nofun
theorem aU.tuple(I:aU X pins σ H s)(h:rK X.K H a xs):∃its:List Value,bV xs its/\IsTup s.heap a its.toArray/\xs.length<=sizeLine:=by
 rcases h with h|⟨o,its,n,hk,hc,hs,hz,r⟩
 .obtain⟨z,its,r,p⟩:=h.ok I.hok;exact⟨its,r,p,z⟩
 .refine⟨its.toList,r,⟨o,I.kIn a o hk,hc,n,by simpa using hs⟩,?_⟩
  have e:=r.length;simp only[Array.length_toList] at e;nofun
theorem aU.list_inj(I:aU X pins σ H s)(h:ke X.K H a xs)(h':ke X.K H a ys):xs=ys:=by
 obtain⟨its,r,⟨o,n,e,_,_,d⟩,_⟩:=I.list h;obtain⟨its',r',⟨o',n',e',_,_,d'⟩,_⟩:=I.list h';rw[e] at e';cases e';rw[d] at d';injection d' with d1 _
 have:its=its':=by simpa using Yn Array.toList d1
 subst this;exact r.inj r'
theorem aU.tuple_inj(I:aU X pins σ H s)(h:rK X.K H a xs)(h':rK X.K H a ys):xs=ys:=by
 obtain⟨its,r,⟨o,e,_,n,d⟩,_⟩:=I.tuple h;obtain⟨its',r',⟨o',e',_,n',d'⟩,_⟩:=I.tuple h';rw[e] at e';cases e';rw[d] at d';injection d' with d1 _
 have:its=its':=by simpa using Yn Array.toList d1
 subst this;exact r.inj r'
end
abbrev Cx.wish (X:Cx)(E:Value->Shared->Prop):Cx:={ X with xe:=E }
abbrev Cx.nox (X:Cx):Cx:=X.wish λ_ _=>False
theorem Cx.Ok.wish{X:Cx}(ok:X.Ok)(E:Value->Shared->Prop):(X.wish E).Ok :=
 ⟨ok.mod,ok.kind,ok.glob,ok.blt,ok.above,ok.inj,ok.has,ok.cab,ok.hd,ok.frames,ok.stk,ok.exf,ok.bs,ok.bsz,ok.noex,ok.exfs,ok.funs,ok.frf⟩
theorem Cx.Ok.unwish{X:Cx}{E:Value->Shared->Prop}(ok:(X.wish E).Ok):X.Ok :=
 ⟨ok.mod,ok.kind,ok.glob,ok.blt,ok.above,ok.inj,ok.has,ok.cab,ok.hd,ok.frames,ok.stk,ok.exf,ok.bs,ok.bsz,ok.noex,ok.exfs,ok.funs,ok.frf⟩
section
variable {X:Cx}{pins:List (Addr×Obj)}{σ:St}{H:Hp}{s:Shared}{E:Value->Shared->Prop}
theorem aU.wish(I:aU X pins σ H s)(E:Value->Shared->Prop):aU (X.wish E) pins σ H s:=⟨I.ok.wish E,I.os,I.bare,I.base,I.loc,I.cell,I.free,I.freeC,I.pin,I.hok,I.len⟩
theorem aU.unwish(I:aU (X.wish E) pins σ H s):aU X pins σ H s:=⟨I.ok.unwish,I.os,I.bare,I.base,I.loc,I.cell,I.free,I.freeC,I.pin,I.hok,I.len⟩
theorem SP.unwish{D:nO}{f:Flow}{s':Shared}(h:SP (X.wish E) pins D f s'):SP X pins D f s':=by
 cases f with
 | next=>obtain⟨σ',H',I,q⟩:=h;exact⟨σ',H',I.unwish,q⟩
 | brk=>obtain⟨σ',H',I,q⟩:=h;exact⟨σ',H',I.unwish,q⟩
 | cont=>obtain⟨σ',H',I,q⟩:=h;exact⟨σ',H',I.unwish,q⟩
 | ret u=>obtain⟨v,σ',H',I,r,q⟩:=h;exact⟨v,σ',H',I.unwish,r,q⟩
theorem vM.nox{st:List Stmt}{t:TS}(h:vM X.nox st t):vM X st t:=λpins s σ H D I hw =>
 wpAny_mono (h pins s σ H D (I.wish _) hw) (λ_ _ q=>q.unwish) λ_ _ z=>False.elim z
end
section
variable {X:Cx}{st:Stmt}{rest:List Stmt}{t u:TS}{e:Expr}{te:TE}{pos:Pos}
def CP:TS:=λD σ H=>D.nx σ H
def aM(t u:TS):TS:=λD σ H=>t { D with nx:=u D } σ H
theorem Ee:vM X [] CP:=λ_ _ σ H _ I h=>wpAny_execs_nil ⟨σ,H,I,h⟩
theorem Bh(h1:PS X st t)(h2:vM X rest u):vM X (st::rest) (aM t u):=by
 intro pins s σ H D I h;refine wpAny_execs_cons (dy (h1 pins s σ H { D with nx:=u D } I h) λf s1 q=>?_)
 cases f with
 | next =>
  obtain⟨σ',H',I',q⟩:=q;exact h2 pins s1 σ' H' D I' q
 | ret v=>exact q
 | brk=>exact q
 | cont=>exact q
theorem Dy(h1:PS X st t):vM X [st] t:=by
 intro pins s σ H D I h;refine wpAny_execs_cons (dy (h1 pins s σ H D I h) λf s1 q=>?_);cases f with
 | next=>exact wpAny_execs_nil q
 | ret v=>exact q
 | brk=>exact q
 | cont=>exact q
theorem aU.quiet{pins:List (Addr×Obj)}{σ:St}{H:Hp}{s:Shared}(I:aU X pins σ H s):interactive X.env=false:=by simp[interactive,I.ok.kind]
def Cf(te:TE):TS:=λD σ H=>te σ H λ_ H1=>D.nx σ H1
theorem Ft(he:PE X e te)(hs:swapsWith e none pos.line X.env=pure false:=by rfl):PS X (.Expr e pos) (Cf te):=by
 intro pins s σ H D I h;exact wpAny_Expr_any (dy (he pins s σ H _ I h) λv s1 ⟨x,H1,I1,r1,q1⟩=>⟨σ,H1,I1,q1⟩) I.quiet hs
def GF(te:TE):TS:=λD σ H=>te σ H D.rt
theorem Gu(he:PE X e te):PS X (.Return (some e) pos) (GF te):=by
 intro pins s σ H D I h;exact wpAny_Return_some (dy (he pins s σ H _ I h) λv s1 ⟨x,H1,I1,r1,q1⟩=>⟨x,σ,H1,I1,r1,q1⟩)
def Jz:TS:=λD _ H=>D.rt .non H
def GY(c:TT)(t u:TS):TS:=λD σ H=>c σ H λb H1=>if b=true then t D σ H1 else u D σ H1
theorem Jx{c:Expr}{a b:List Stmt}{tc:TT}(hc:PT X c tc)(ha:vM X a t)(hb:vM X b u):PS X (.If c a b pos) (GY tc t u):=by
 intro pins s σ H D I h;refine wpAny_If (dy (hc pins s σ H _ I h) λd s1 ⟨H1,I1,q1⟩=>?_);cases d with
 | true=>exact ha pins s1 σ H1 D I1 q1
 | false=>exact hb pins s1 σ H1 D I1 q1
def wV:TS:=λ_ _ _=>False
theorem Bw:PS X st wV:=λ_ _ _ _ _ _ h=>h.elim
end
abbrev TG:=V->St->Hp->(St->Hp->Prop)->Prop
abbrev At:=List V->St->Hp->(St->Hp->Prop)->Prop
def PG(X:Cx)(target:Expr)(t:TG):Prop :=
 ∀(pins:List (Addr×Obj))(s:Shared)(σ:St)(H:Hp)(v:V)(u:Value)(Q:St->Hp->Prop),aU X pins σ H s->cC v u->t v σ H Q ->
  wpAny (model X.prog X.w) X.A (assign target X.env u) (λ_ s'=>∃σ' H',aU X pins σ' H' s'/\Q σ' H') X.xe s
def IK(X:Cx)(ts:List Expr)(t:At):Prop :=
 ∀(pins:List (Addr×Obj))(s:Shared)(σ:St)(H:Hp)(vs:List V)(us:List Value)(Q:St->Hp->Prop),aU X pins σ H s->bV vs us->t vs σ H Q ->
  wpAny (model X.prog X.w) X.A (assignInOrder ((assignEach ts X.env).map (·.2)) us) (λ_ s'=>∃σ' H',aU X pins σ' H' s'/\Q σ' H') X.xe s
abbrev wC:=V->V->V->Hp->(Hp->Prop)->Prop
def Am(X:Cx)(t:wC):Prop :=
 ∀(pins:List (Addr×Obj))(s:Shared)(σ:St)(H:Hp)(o i v:V)(ov iv u:Value)(Q:Hp->Prop),aU X pins σ H s->cC o ov->cC i iv->cC v u->t o i v H Q ->
  wpAny (model X.prog X.w) X.A (setItem ov iv u) (λ_ s'=>∃H',aU X pins σ H' s'/\Q H') X.xe s
abbrev Dv:=V->V->Hp->VK->Prop
def FT(X:Cx)(op:Operator)(t:Dv):Prop :=
 ∀(pins:List (Addr×Obj))(s:Shared)(σ:St)(H:Hp)(x y:V)(v u:Value)(Q:VK),aU X pins σ H s->cC x v->cC y u->t x y H Q ->
  wpAny (model X.prog X.w) X.A (inplaceOp op v u) (EP X pins σ Q) X.xe s
section
variable {X:Cx}{pos:Pos}
def gf(i:Nat):TG:=λv σ H Q=>Q (σ.set i (some v)) H
theorem EM{i:Nat}{x:Str}(hN:X.N.Nodup)(hi:X.N[i]? = some x)(hx:Dt X.env.scope x)(hf:X.fn x=true\/X.env.scope.names.lookup x=some .local:=by first|exact .inl rfl|exact .inr rfl|assumption):PG X (.Name x pos) (gf i):=by
 intro pins s σ H v u Q I r h;exact wpAny_assign_Name (gb I hN hi hx r (λs' I'=>⟨_,H,I',h⟩) hf)
def uy:At:=λvs σ H Q=>vs=[]/\Q σ H
def jz(t:TG)(u:At):At:=λvs σ H Q=>∃v r,vs=v::r/\t v σ H λσ' H'=>u r σ' H' Q
theorem Ev:IK X [] uy:=by
 intro pins s σ H vs us Q I r h;obtain⟨e,h⟩:=h;subst e;cases r;exact assignInOrder_nil ⟨σ,H,I,h⟩
theorem Aw{e:Expr}{es:List Expr}{t:TG}{u:At}(h1:PG X e t)(h2:IK X es u)
  (hs:(assignEach (e::es) X.env).map (·.2)=assign e X.env::(assignEach es X.env).map (·.2):=by rfl):IK X (e::es) (jz t u):=by
 intro pins s σ H vs us Q I r h;obtain⟨v,vr,e1,h⟩:=h;subst e1;cases r with
 | cons r rr =>
  rw[hs];refine assignInOrder_cons (dy (h1 pins s σ H _ _ _ I r h) λ_ s1 ⟨σ1,H1,I1,q1⟩=>?_);exact h2 pins s1 σ1 H1 _ _ Q I1 rr q1
def Jc(K:W.Frag)(n:Nat)(t:At):TG:=λv σ H Q=>∃a xs,v=.ref a/\rK K H a xs/\xs.length=n/\t xs σ H Q
theorem GL{es:List Expr}{k:Nat}{t:At}{n:Nat}(hc:X.calm=true)(h:IK X es t)
  (hn:(assignEach es X.env).length=n:=by rfl)(hst:(assignEach es X.env).findIdx? (·.1)=none:=by rfl):PG X (.Tuple es k pos) (Jc X.K n t):=by
 intro pins s σ H v u Q I r hw;obtain⟨a,xs,e1,hq,hl,hw⟩:=hw;subst e1;cases r;obtain⟨its,rv,ht,hz⟩:=I.tuple hq;refine assign_Tuple_tuple (I.ok.hd hc) ht (by simp[hn,<-hl,rv.length]) hst λh' hx=>?_
 have I1:aU X pins σ H { s with heap:=h' }:=I.kept (t':=s.toks) λb o e=>hx b o (Yf (Heap.lt_size e)) e
 exact h pins _ σ H xs _ Q I1 (by simpa using rv) hw
def Gp(to ti:TE)(t:wC):TG:=λv σ H Q=>to σ H λo H1=>ti σ H1 λi H2=>t o i v H2 λH3=>Q σ H3
theorem HJ{o i:Expr}{to ti:TE}{t:wC}(ho:PE X o to)(hi:PE X i ti)(hs:Am X t)
  (ha:∀v,assign (.Subscript o i pos) X.env v=(do
   let ov <-holding [v] (eval o X.env)
   let iv <-holding [v,ov] (eval i X.env)
   standAt pos
   holding [v,ov,iv] (setItem ov iv v)
   release [v,ov,iv] []):=by intro _;rfl):PG X (.Subscript o i pos) (Gp to ti t):=by
 intro pins s σ H v u Q I r h;rw[ha];refine wpAny_bind (wpAny_holding (dy (ho pins s σ H _ I h) λov s1 ⟨x,H1,I1,r1,q1⟩=>?_));refine wpAny_bind (wpAny_holding (dy (hi pins s1 σ H1 _ I1 q1) λiv s2 ⟨y,H2,I2,r2,q2⟩=>?_));refine wpAny_bind (wpAny_standAt (wpAny_bind (wpAny_holding (dy (hs pins s2 σ H2 x y v ov iv u _ I2 r1 r2 r q2) λ_ s3 ⟨H3,I3,q3⟩=>?_))));exact wpAny_release ⟨σ,H3,I3,q3⟩
def xD(te:TE)(g:TG):TS:=λD σ H=>te σ H λx H1=>g x σ H1 D.nx
theorem Il{tg e:Expr}{te:TE}{g:TG}(he:PE X e te)(hg:PG X tg g)(hs:swapsWithSole [tg] e pos.line X.env=pure false:=by rfl)(hw:swappedStores [tg] e X.env=pure none:=by rfl)
  (h1:(assignEach [tg] X.env).map (·.2)=[assign tg X.env]:=by rfl):PS X (.Assign [tg] e pos) (xD te g):=by
 intro pins s σ H D I h;refine wpAny_Assign_stores (dy (he pins s σ H _ I h) λv s1 ⟨x,H1,I1,r1,q1⟩=>?_) hs hw;rw[h1];exact dy (hg pins s1 σ H1 x v _ I1 r1 q1) λ_ s2 q=>q
theorem HP{i:Nat}{x:Str}{e:Expr}{te:TE}{pos':Pos}(hN:X.N.Nodup)(hi:X.N[i]? = some x)(hx:Dt X.env.scope x)(he:PE X e te)(hs:swapsWith e (some (.Name x pos')) pos.line X.env=pure false:=by rfl)(hf:X.fn x=true\/X.env.scope.names.lookup x=some .local:=by first|exact .inl rfl|exact .inr rfl|assumption) :
  PS X (.Assign [.Name x pos'] e pos) (xD te (gf i)):=by
 intro pins s σ H D I h;refine wpAny_Assign_Name (dy (he pins s σ H _ I h) λv s1 ⟨y,H1,I1,r1,q1⟩=>?_) hs;exact gb I1 hN hi hx r1 (λs2 I2=>⟨_,H1,I2,q1⟩) hf
def Fb(i j:Nat)(ta:TA):TS:=λD σ H=>ta σ H λvs H1=>∃v w,vs=[v,w]/\D.nx ((σ.set i (some v)).set j (some w)) H1
theorem Gd{i j:Nat}{x y:Str}{a b:Expr}{ta:TA}{px py pt:Pos} {kt k2 pt2}(hc:X.calm=true)(hN:X.N.Nodup)(hi:X.N[i]? = some x)(hj:X.N[j]? = some y)(hij:i≠j)
  (hx:X.env.scope.names.lookup x=some .local)(hy:X.env.scope.names.lookup y=some .local)(ha:PA X [a,b] ta)
  (hw:swappedStores [.Tuple [.Name x px,.Name y py] kt pt] (.Tuple [a,b] k2 pt2) X.env=pure (some [x,y]))
  (hs:swapsWithSole [.Tuple [.Name x px,.Name y py] kt pt] (.Tuple [a,b] k2 pt2) pos.line X.env=pure false:=by rfl) :
  PS X (.Assign [.Tuple [.Name x px,.Name y py] kt pt] (.Tuple [a,b] k2 pt2) pos) (Fb i j ta):=by
 intro pins s σ H D I h;rw[exec_Assign_arm];refine wpAny_bind (wpAny_standAt ?_);rw[hs];refine wpAny_bind (wpAny_pure ?_);rw[Yc ∅];refine wpAny_bind (Tuple_ (dy (ha _ pins s σ H _ I h) λus s1 ⟨vs,H1,I1,r1,q1⟩=>?_));obtain⟨v,w,e1,q1⟩:=q1;subst e1;obtain⟨u1,u2,rfl,rv,rw'⟩ : ∃u1 u2,us=[u1,u2]/\cC v u1/\cC w u2:=by
  cases r1 with
  | cons p q =>
   cases q with
   | cons p' q' =>
    cases q';exact⟨_,_,rfl,p,p'⟩
 refine wpAny_newObj_type ?_ (by show 2<=sizeLine;decide)
 have I2:aU X pins σ H1 { s1 with heap:=s1.heap.push { cls:=.type "tuple",data:=.seq [u1,u2].toArray } }:=I1.kept (t':=s1.toks) λb o e=>Heap.get?_push_of_some _ e
 rw[hw];refine wpAny_bind (wpAny_pure ?_);show wpAny (model X.prog X.w) X.A (do rule "assign.swapped-stores";let items <-unpackItems (.ref s1.heap.objs.size) 2 none;assignInOrder [λv=>bindName X.env y v,λv=>bindName X.env x v] items.reverse;pure Flow.next) _ _ _
 refine wpAny_bind (wpAny_rule (wpAny_bind (unpackItems_tuple (items:=#[u1,u2]) (I.ok.hd hc) (IsTup.new s1.heap _) λh' hx'=>?_)));have I3:=I2.kept (h':=h') (t':=s1.toks) λb o e=>hx' b o (Yf (Heap.lt_size e)) e;show wpAny _ _ (assignInOrder [λv=>bindName X.env y v,λv=>bindName X.env x v] [u2,u1] >>= λ_=>pure Flow.next) _ _ _
 refine wpAny_bind (assignInOrder_cons (wpAny_bindName (gb I3 hN hj (.inl hy) rw' (λs2 I4=>?_) (.inr hy))));refine assignInOrder_cons (wpAny_bindName (gb I4 hN hi (.inl hx) rv (λs3 I5=>assignInOrder_nil (wpAny_pure ?_)) (.inr hx)));rw[List.set_comm _ _ (Yk hij)] at I5;exact⟨_,H1,I5,q1⟩
def GC(i:Nat)(te:TE)(ti:Dv):TS:=λD σ H=>∃x,σ[i]? = some (some x)/\te σ H λy H1=>ti x y H1 λz H2=>D.nx (σ.set i (some z)) H2
theorem IA{i:Nat}{x:Str}{e:Expr}{te:TE}{op:Operator}{ti:Dv}{pos':Pos}(hN:X.N.Nodup)(hi:X.N[i]? = some x)(hx:Dt X.env.scope x)(he:PE X e te)(ho:FT X op ti)(hf:X.fn x=true\/X.env.scope.names.lookup x=some .local:=by first|exact .inl rfl|exact .inr rfl|assumption) :
  PS X (.AugAssign (.Name x pos') op e pos) (GC i te ti):=by
 intro pins s σ H D I h;obtain⟨v,e1,h⟩:=h;obtain⟨m,hn,hl⟩:=I.loc;have vis:Js X.env.scope x:=by rcases hx with k|k;exact .inl k;exact .inr (.inl k)
 obtain⟨u,r,l⟩:=hl i x v hi e1 vis;refine wpAny_AugAssign_Name ?_;have go:wpAny (model X.prog X.w) X.A (eval e X.env) (λw s₂=>wpAny (model X.prog X.w) X.A (inplaceOp op u w) (λr s₃=>wpAny (model X.prog X.w) X.A (storeName X.env x r) (λ_=>SP X pins D .next) X.xe s₃) X.xe s₂) X.xe s:=by
  refine dy (he pins s σ H _ I h) λw s1 ⟨y,H1,I1,r1,q1⟩=>?_;refine dy (ho pins s1 σ H1 v y u w _ I1 r r1 q1) λz s2 ⟨zv,H2,I2,r2,q2⟩=>?_;exact gb I2 hN hi hx r2 (λs3 I3=>⟨_,H2,I3,q2⟩) hf
 rcases l with ⟨hk,hm⟩|⟨hk,c,hc,hcell⟩
 .exact wpAny_loadName_local I.ok.kind hk hn hm go
 .rcases hk with hk|hk
  .exact wpAny_loadName_cell I.ok.kind hk hc hcell go
  .rcases hx with k|k
   .have:X.env.scope.names.lookup x=some .free:=hk;rw[k] at this;cases this
   .have:X.env.scope.names.lookup x=some .free:=hk;rw[k] at this;cases this
def oS(to ti te:TE)(tget:V->V->Hp->VK->Prop)(tip:Dv)(tset:wC):TS:=λD σ H=>to σ H λo H1=>ti σ H1 λi H2=>tget o i H2 λx H3=>te σ H3 λy H4=>tip x y H4 λz H5=>tset o i z H5 λH6=>D.nx σ H6
def GR(X:Cx)(t:V->V->Hp->VK->Prop):Prop :=
 ∀(pins:List (Addr×Obj))(s:Shared)(σ:St)(H:Hp)(o i:V)(ov iv:Value)(Q:VK),aU X pins σ H s->cC o ov->cC i iv->t o i H Q ->
  wpAny (model X.prog X.w) X.A (getItem ov iv) (EP X pins σ Q) X.xe s
theorem DV{o i e:Expr}{to ti te:TE}{tget:V->V->Hp->VK->Prop}{tip:Dv}{tset:wC}{op:Operator}{tpos:Pos}(ho:PE X o to)(hi:PE X i ti)(hg:GR X tget)(he:PE X e te)(hp:FT X op tip)(hs:Am X tset)
  (ha:∀ov iv new,augStore i ov iv new=(do holding [new,ov,iv] (setItem ov iv new);release [new,ov,iv] [];pure .next):=by intros;rfl):PS X (.AugAssign (.Subscript o i tpos) op e pos) (oS to ti te tget tip tset):=by
 intro pins s σ H D I h;refine wpAny_AugAssign_SubscriptAny (dy (ho pins s σ H _ I h) λov s1 ⟨x1,H1,I1,r1,q1⟩=>?_) ha;refine dy (hi pins s1 σ H1 _ I1 q1) λiv s2 ⟨x2,H2,I2,r2,q2⟩=>?_;refine dy (hg pins s2 σ H2 x1 x2 ov iv _ I2 r1 r2 q2) λold s3 ⟨x3,H3,I3,r3,q3⟩=>?_;refine dy (he pins s3 σ H3 _ I3 q3) λv s4 ⟨x4,H4,I4,r4,q4⟩=>?_;refine dy (hp pins s4 σ H4 x3 x4 old v _ I4 r3 r4 q4) λnew s5 ⟨x5,H5,I5,r5,q5⟩=>?_;exact dy (hs pins s5 σ H5 x1 x2 x5 ov iv new _ I5 r1 r2 r5 q5) λ_ s6 ⟨H6,I6,q6⟩=>⟨σ,H6,I6,q6⟩
def Iz(f:Int->Int->Int):Dv:=λx y H Q=>∃i j,x=.int i/\y=.int j/\Q (.int (f i j)) H
theorem vY:FT X .Add (Iz λi j=>i+j):=by
 intro pins s σ H x y v u Q I r1 r2 h;obtain⟨i,j,e1,e2,q⟩:=h;subst e1;subst e2;obtain⟨t,rfl⟩:=r1;obtain⟨t',rfl⟩:=r2;exact iadd_int ⟨.int _,H,I.tok _,⟨_,rfl⟩,q⟩
theorem ph:FT X .Sub (Iz λi j=>i-j):=by
 intro pins s σ H x y v u Q I r1 r2 h;obtain⟨i,j,e1,e2,q⟩:=h;subst e1;subst e2;obtain⟨t,rfl⟩:=r1;obtain⟨t',rfl⟩:=r2;exact isub_int ⟨.int _,H,I.tok _,⟨_,rfl⟩,q⟩
end
section
variable {X:Cx}{pos:Pos}
def Bg(c:TT)(tb:TS):TS:=λD σ H=>∃W:Nat->St->Hp->Prop,(∃m,W m σ H) /\ ∀m σ H,W m σ H ->
 c σ H λb H1=>if b=true then ∃N:St->Hp->Prop,(∀σ' H',N σ' H' -> ∃m',m'<m/\W m' σ' H')/\tb { D with nx:=N,ct:=N,bk:=D.nx } σ H1 else D.nx σ H1
theorem BW{c:Expr}{body:List Stmt}{tc:TT}{tb:TS}(hp:PassesOwn (model X.prog X.w) X.A X.env X.xe)(hc:PT X c tc)(hb:vM X body tb):PS X (.While c body [] pos) (Bg tc tb):=by
 intro pins s σ H D I h;obtain⟨W,⟨m0,w0⟩,turn⟩:=h;refine wpAny_While (codeAny_whileLoop (λn s'=>∃σ' H',aU X pins σ' H' s'/\W n σ' H') ?_ m0 ⟨σ,H,I,w0⟩);rintro n s1 ⟨σ1,H1,I1,w1⟩;refine wpAny_passesOwn hp (dy (hc pins s1 σ1 H1 _ I1 (turn n σ1 H1 w1)) λb s2 ⟨H2,I2,q2⟩=>?_);cases b with
 | true =>
  obtain⟨N,hN,q2⟩:=q2;rw[Yb rfl];refine wpAny_passesOwn hp (dy (hb pins s2 σ1 H2 _ I2 q2) λf s3 q3=>?_);cases f with
  | next =>
   obtain⟨σ3,H3,I3,n3⟩:=q3;obtain⟨m',hm,w3⟩:=hN σ3 H3 n3;exact⟨m',hm,σ3,H3,I3,w3⟩
  | cont =>
   obtain⟨σ3,H3,I3,n3⟩:=q3;obtain⟨m',hm,w3⟩:=hN σ3 H3 n3;exact⟨m',hm,σ3,H3,I3,w3⟩
  | brk=>exact q3
  | ret v=>exact q3
 | false =>
  rw[Yc Yo];exact wpAny_execs_nil ⟨σ1,H2,I2,q2⟩
end
structure It where
 go:Nat->Hp->Prop
 yld:Nat->Hp->V->Hp->Prop
 stop:Nat->Hp->Prop
def m5(X:Cx)(pins:List (Addr×Obj))(H:Hp)(b:Addr):Prop :=
 H b=none/\b≠X.env.locals/\b∉X.fs/\(b∈X.ex\/X.s₀.heap.objs.size<=b)/\(∀x c,X.env.cells.lookup x=some c->c≠b) /\ ∀p∈X.pn++pins,p.1≠b
theorem aU.fpOk{X:Cx}{pins:List (Addr×Obj)}{σ:St}{H H':Hp}{s:Shared}{b:Addr}(I:aU X pins σ H s)(hb:s.heap.objs.size<=b)(hn:H' b=none):m5 X pins H' b:=by
 refine⟨hn,Nat.ne_of_gt (Yd I.lt hb),I.nofs hb,.inr (Yg I.sz hb),λx c e z=>?_,λp hp z=>?_⟩
 .obtain⟨v,q⟩:=I.cell x c e;exact absurd (Yd q.lt (by rw[z];exact hb)) (Ye _)
 .exact absurd (Yd (Heap.lt_size (I.pin p hp).1) (by rw[z];exact hb)) (Ye _)
structure wu (P:Program)(w:World)(K:W.Frag)(tg:Expr)(J:It)(fp:List Addr)(it:Addr)(tn:Nat->Heap->Prop):Prop where
 mem:it∈fp
 obj:∀i h,tn i h -> ∀b∈fp,∃o,h.get? b=some o /\ ∀v,o.data ≠ .cell v
 keep:∀i h h',tn i h->(∀b∈fp,∀o,h.get? b=some o->h'.get? b=some o)->tn i h'
 item:∀(X:Cx),X.prog=P->X.w=w->X.K=K->X.calm=true -> ∀(i:Nat)(pins:List (Addr×Obj))(s:Shared)(σ:St)(H:Hp)(E:Value->Shared->Prop),aU X pins σ H s->(∀b∈fp,m5 X pins H b)->tn i s.heap->J.go i H ->
  wpAny (model P w) X.A (pyNext (.ref it)) (λr s1=>∃u,r=some u /\
   wpAny (model P w) X.A (letOwnedTupleGo tg (.ref it) u) (λ_ s2=>∃x H',aU X pins σ H' s2/\cC x u/\J.yld i H x H'/\tn (i+1) s2.heap /\ ∀b∈fp,H' b=none) E s1) E s
 done:∀(X:Cx),X.prog=P->X.w=w->X.K=K->X.calm=true -> ∀(i:Nat)(pins:List (Addr×Obj))(s:Shared)(σ:St)(H:Hp)(E:Value->Shared->Prop),aU X pins σ H s->(∀b∈fp,m5 X pins H b)->tn i s.heap->J.stop i H ->
  wpAny (model P w) X.A (pyNext (.ref it)) (λr s1=>r=none/\aU X pins σ H s1) E s
 self:∀(A:Around)(i:Nat)(s:Shared)(Q:Value->Shared->Prop)(E:Value->Shared->Prop),tn i s.heap->Q (.ref it) s->wpAny (model P w) A (pyIter (.ref it)) Q E s
abbrev TI:=St->Hp->(It->Hp->Prop)->Prop
def KO(X:Cx)(pins:List (Addr×Obj))(σ:St)(tg:Expr)(R:It->Hp->Prop)(itv:Value)(s2:Shared):Prop :=
 ∃(it:Addr)(fp:List Addr)(tn:Nat->Heap->Prop)(J:It)(H':Hp),itv=.ref it/\aU X pins σ H' s2/\wu X.prog X.w X.K tg J fp it tn/\tn 0 s2.heap/\(∀b∈fp,m5 X pins H' b)/\R J H'
def PI(X:Cx)(tg iter:Expr)(wi:TI):Prop :=
 ∀(pins:List (Addr×Obj))(s:Shared)(σ:St)(H:Hp)(R:It->Hp->Prop),aU X pins σ H s->wi σ H R ->
  wpAny (model X.prog X.w) X.A (eval iter X.env) (λv s1=>wpAny (model X.prog X.w) X.A (pyIter v) (KO X pins σ tg R) X.xe s1) X.xe s
theorem yM{M:Model}{A:Around}{E:Value->Shared->Prop}{s:Shared}{tg:Expr}{it:Addr}{u:Value}{o:Obj}{n:String}{vs:Array Value}{Q:Unit->Shared->Prop}(ho:s.heap.get? it=some o)(hc:o.cls=.type n)(hd:o.data=.fields vs)
  (hn:["enumerate", "zip", "dict_itemiterator", "dict_reverseitemiterator", "odict_iterator", "itertools.zip_longest", "itertools.pairwise"].contains n=false) (hQ:Q PUnit.unit s):wpAny M A (letOwnedTupleGo tg (.ref it) u) Q E s:=by
 unfold letOwnedTupleGo;cases tg<;>first
  | exact wpAny_pure hQ
  | (cases u<;>first
    | exact wpAny_pure hQ
    | (refine wpAny_bind (wpAny_load ho ?_)
       rw[hc,hd];show wpAny M A (if (["enumerate", "zip", "dict_itemiterator", "dict_reverseitemiterator", "odict_iterator", "itertools.zip_longest", "itertools.pairwise"].contains n && vs[0]? == some (rawInt _))=true then _ else _) Q E s
       rw[Yc (by intro h;rw[hn,Bool.false_and] at h;cases h)]
       exact wpAny_pure hQ))
def JZ(K:W.Frag)(a:Addr):It :=
 ⟨λi H=>∃xs x,ke K H a xs/\xs[i]? = some x,λi H x H'=>H'=H /\ ∀xs,ke K H a xs->xs[i]? = some x,λi H=>∃xs,ke K H a xs/\xs.length<=i⟩
def Kj(K:W.Frag)(a:Addr):It :=
 ⟨λi H=>∃xs x,rK K H a xs/\xs[i]? = some x,λi H x H'=>H'=H /\ ∀xs,rK K H a xs->xs[i]? = some x,λi H=>∃xs,rK K H a xs/\xs.length<=i⟩
def II(lo:Int)(n:Nat):It:=⟨λi _=>i<n,λi H x H'=>H'=H/\x=.int (lo+i),λi _=>n<=i⟩
theorem Ak{P:Program}{w:World}{K:W.Frag}{tg:Expr}(a it:Addr):wu P w K tg (JZ K a) [it] it (λi h=>h.IsListIter it a i) where
 mem:=by simp
 obj:=λi h st b hb=>by
  have e:b=it:=by simpa using hb
  subst e;obtain⟨o,e,c,d⟩:=st;exact⟨o,e,λv z=>by rw[d] at z;cases z⟩
 keep:=λi h h' st k=>st.at λo e=>k it (by simp) o e
 item:=by
  intro X hP hw hK hc i pins s σ H E I hf st hg;subst hP hw hK;obtain⟨xs,x,hq,hx⟩:=hg;obtain⟨its,rv,p,hz⟩:=I.list hq;obtain⟨u,hu,ru⟩:=rv.get hx;obtain⟨f0,f1,f2,f3,f4,f5⟩:=hf it (by simp)
  refine wpAny_pyNext_list_item st p.isList (x:=u) (by simpa using hu) λh' st' sb=>?_
  have I1:aU X pins σ H { s with heap:=h' }:=I.turned (t':=s.toks) (λb o hb e=>(sb.2 b hb).trans e) f0 f1 f3 f4 f5
  obtain⟨o,e,c,d⟩:=id st';exact⟨u,rfl,yM (s:={ s with heap:=h' }) e c d ∅ ⟨x,H,I1,ru,⟨rfl,λys hy=>by rw[I.list_inj hy hq];exact hx⟩,st',λb hb=>(hf b hb).1⟩⟩
 done:=by
  intro X hP hw hK hc i pins s σ H E I hf st hg;subst hP hw hK;obtain⟨xs,hq,hx⟩:=hg;obtain⟨its,rv,p,hz⟩:=I.list hq;obtain⟨f0,f1,f2,f3,f4,f5⟩:=hf it (by simp)
  have hl:=rv.length;exact wpAny_pyNext_list_end (I.ok.hd hc) st p.isList (by simp;nofun) λh' eb=>⟨rfl,I.turned (t':=s.toks) (λb o hb e=>eb b o hb e) f0 f1 f3 f4 f5⟩
 self:=λ_ _ _ _ _ st h=>wpAny_pyIter_listiter st h
theorem xt{P:Program}{w:World}{K:W.Frag}{tg:Expr}(a it:Addr):wu P w K tg (Kj K a) [it] it (λi h=>h.IsTupleIter it a i) where
 mem:=by simp
 obj:=λi h st b hb=>by
  have e:b=it:=by simpa using hb
  subst e;obtain⟨o,e,c,d⟩:=st;exact⟨o,e,λv z=>by rw[d] at z;cases z⟩
 keep:=λi h h' st k=>st.at λo e=>k it (by simp) o e
 item:=by
  intro X hP hw hK hc i pins s σ H E I hf st hg;subst hP hw hK;obtain⟨xs,x,hq,hx⟩:=hg;obtain⟨its,rv,p,hz⟩:=I.tuple hq;obtain⟨u,hu,ru⟩:=rv.get hx;obtain⟨f0,f1,f2,f3,f4,f5⟩:=hf it (by simp)
  refine wpAny_pyNext_tuple_item st (show s.heap.IsTuple a its.toArray from p) (x:=u) (by simpa using hu) λh' st' sb=>?_
  have I1:aU X pins σ H { s with heap:=h' }:=I.turned (t':=s.toks) (λb o hb e=>(sb.2 b hb).trans e) f0 f1 f3 f4 f5
  obtain⟨o,e,c,d⟩:=id st';exact⟨u,rfl,yM (s:={ s with heap:=h' }) e c d ∅ ⟨x,H,I1,ru,⟨rfl,λys hy=>by rw[I.tuple_inj hy hq];exact hx⟩,st',λb hb=>(hf b hb).1⟩⟩
 done:=by
  intro X hP hw hK hc i pins s σ H E I hf st hg;subst hP hw hK;obtain⟨xs,hq,hx⟩:=hg;obtain⟨its,rv,p,hz⟩:=I.tuple hq;obtain⟨f0,f1,f2,f3,f4,f5⟩:=hf it (by simp)
  have hl:=rv.length;exact wpAny_pyNext_tuple_end (I.ok.hd hc) st (show s.heap.IsTuple a its.toArray from p) (by simp;nofun) λh' eb=>⟨rfl,I.turned (t':=s.toks) (λb o hb e=>eb b o hb e) f0 f1 f3 f4 f5⟩
 self:=λ_ _ _ _ _ st h=>wpAny_pyIter_tupleiter st h
theorem vQ{P:Program}{w:World}{K:W.Frag}{tg:Expr}(it:Addr)(lo:Int)(n:Nat):wu P w K tg (II lo n) [it] it (λi h=>IsRangeIter h it (lo+(i:Nat)*1) ((n:Int)-(i:Nat)) 1) where
 mem:=by simp
 obj:=λi h st b hb=>by
  have e:b=it:=by simpa using hb
  subst e;exact⟨_,st,λv z=>by
   have z':Data.fields _=Data.cell v:=z;cases z'⟩
 keep:=λi h h' st k=>k it (by simp) _ st
 item:=by
  intro X hP hw hK hc i pins s σ H E I hf st hg;subst hP hw hK;obtain⟨f0,f1,f2,f3,f4,f5⟩:=hf it (by simp)
  have W:=Walks.range (prog:=X.prog) (w:=X.w) (I.ok.hd hc) it lo 1 n;refine W.item i s _ _ hg st λv h' tk hv st' kk=>?_;obtain⟨t,rfl⟩:=hv;have I1:aU X pins σ H { s with heap:=h',toks:=tk }:=I.turned (λb o hb e=>kk b o (by simpa using hb) e) f0 f1 f3 f4 f5
  refine⟨_,rfl,yM (s:={ s with heap:=h',toks:=tk }) (n:="range_iterator") st' rfl rfl ∅ ⟨.int (lo+i),H,I1,⟨t,?_⟩,⟨rfl,rfl⟩,st',λb hb=>(hf b hb).1⟩⟩
  rw[Int.mul_one]
 done:=by
  intro X hP hw hK hc i pins s σ H E I hf st hg;subst hP hw hK;obtain⟨f0,f1,f2,f3,f4,f5⟩:=hf it (by simp)
  exact wpAny_pyNext_range_end (I.ok.hd hc) st (by have:n<=i:=hg;nofun) λh' eb=>⟨rfl,I.turned (t':=s.toks) (λb o hb e=>eb b o hb e) f0 f1 f3 f4 f5⟩
 self:=λ_ _ _ _ _ st h=>wpAny_pyIter_rangeiter st h
section
variable {X:Cx}{tg:Expr}
def xH(K:W.Frag)(tl:TE):TI:=λσ H R=>tl σ H λx H1=>∃a,x=.ref a/\(∃xs,ke K H1 a xs)/\R (JZ K a) H1
def HW(K:W.Frag)(tl:TE):TI:=λσ H R=>tl σ H λx H1=>∃a,x=.ref a/\(∃xs,rK K H1 a xs)/\R (Kj K a) H1
theorem FE{l:Expr}{tl:TE}(hl:PE X l tl):PI X tg l (xH X.K tl):=by
 intro pins s σ H R I h;refine dy (hl pins s σ H _ I h) λv s1 ⟨x,H1,I1,r1,q1⟩=>?_;obtain⟨a,e,⟨xs,hq⟩,q⟩:=q1;subst e;cases r1;obtain⟨its,rv,p,hz⟩:=I1.list hq;refine wpAny_pyIter_list p.isList ?_;refine⟨s1.heap.objs.size,[s1.heap.objs.size],_,_,H1,rfl,I1.kept (t':=s1.toks) λb o e=>Heap.get?_push_of_some _ e,Ak a _,⟨_,Heap.get?_push_size _ rfl,rfl,rfl⟩,λb hb=>?_,q⟩;have e:b=s1.heap.objs.size:=by simpa using hb
 subst e;exact I1.fpOk (Yp _) (I1.hok.fresh (Yp _))
theorem Ix{l:Expr}{tl:TE}(hl:PE X l tl):PI X tg l (HW X.K tl):=by
 intro pins s σ H R I h;refine dy (hl pins s σ H _ I h) λv s1 ⟨x,H1,I1,r1,q1⟩=>?_;obtain⟨a,e,⟨xs,hq⟩,q⟩:=q1;subst e;cases r1;obtain⟨its,rv,p,hz⟩:=I1.tuple hq;refine wpAny_pyIter_tuple (show s1.heap.IsTuple a its.toArray from p) ?_
 refine⟨s1.heap.objs.size,[s1.heap.objs.size],_,_,H1,rfl,I1.kept (t':=s1.toks) λb o e=>Heap.get?_push_of_some _ e,xt a _,⟨_,Heap.get?_push_size _ rfl,rfl,rfl⟩,λb hb=>?_,q⟩;have e:b=s1.heap.objs.size:=by simpa using hb
 subst e;exact I1.fpOk (Yp _) (I1.hok.fresh (Yp _))
theorem vH{pins:List (Addr×Obj)}{σ:St}{H:Hp}{s:Shared}{R:It->Hp->Prop}{E:Value->Shared->Prop}{lo hi:Int}{t u v:Tok}{tk:Nat}(I:aU X pins σ H s)(h1 : -(2^62)<=lo)(h2:lo<2^62)(h3 : -(2^62)<=hi)(h4:hi<2^62)
  (q:R (II lo (hi-lo).toNat) H):wpAny (model X.prog X.w) X.A (pyIter (.ref s.heap.objs.size)) (KO X pins σ tg R) E { s with heap:=s.heap.push { cls:=.type "range",data:=.fields #[.int lo t,.int hi u,.int 1 v] },toks:=tk }:=by
 refine wpAny_pyIter_range (IsRange.new ..) (small_one h1 h2 h3 h4) ?_;have I1:aU X pins σ H { s with heap:=s.heap.push { cls:=.type "range",data:=.fields #[.int lo t,.int hi u,.int 1 v] },toks:=tk }:=I.kept λb o e=>Heap.get?_push_of_some _ e
 refine⟨(s.heap.push { cls:=.type "range",data:=.fields #[.int lo t,.int hi u,.int 1 v] }).objs.size,[(s.heap.push { cls:=.type "range",data:=.fields #[.int lo t,.int hi u,.int 1 v] }).objs.size],_,_,H,rfl,
  I1.kept (t':=tk) λb o e=>Heap.get?_push_of_some _ e,vQ _ lo (hi-lo).toNat,?_,λb hb=>?_,q⟩
 .have e1:lo+((0:Nat):Int)*1=lo:=by simp
  have e2:(((hi-lo).toNat:Nat):Int)-((0:Nat):Int)=Builtin.Range.rangeSize lo hi 1:=by rw[rangeSize_one];split<;>nofun
  show IsRangeIter _ _ (lo+((0:Nat):Int)*1) ((((hi-lo).toNat:Nat):Int)-((0:Nat):Int)) 1;rw[e1,e2];exact Heap.get?_push_size _ rfl
 .have e:b=(s.heap.push { cls:=.type "range",data:=.fields #[.int lo t,.int hi u,.int 1 v] }).objs.size:=by simpa using hb
  subst e;exact I1.fpOk (Yp _) (I1.hok.fresh (Yp _))
def xG(ta:TA):TI:=λσ H R=>ta σ H λvs H1=>∃j:Int,vs=[.int j] /\ -(2^62)<=j/\j<2^62/\R (II 0 j.toNat) H1
def BR(ta:TA):TI:=λσ H R=>ta σ H λvs H1=>∃i j:Int,vs=[.int i,.int j]/\(-(2^62)<=i/\i<2^62 /\ -(2^62)<=j/\j<2^62)/\R (II i (j-i).toNat) H1
theorem zD{a:Expr}{ta:TA}{p pos:Pos}(hg:Gl X "range") (hm:X.mg "range" = none) (ha:PA X [a] ta)(hs:starEach [a] X.env=[(false,eval a X.env)]:=by rfl):PI X tg (.Call (.Name "range" p) [a] [] pos) (xG ta):=by
 intro pins s σ H R I h;refine Call_ (jW I hg hm boot_range (Yq (dy (ha pos pins s σ H _ I h) λus s1 ⟨vs,H1,I1,r1,q1⟩=>?_) hs rfl));obtain⟨j,e,q1,q2,q⟩:=q1;subst e;cases r1 with
 | cons r rr =>
  cases rr;obtain⟨t,rfl⟩:=r;exact call_range_1 (vH I1 () () q1 q2 (by simpa using q))
theorem Ag{a b:Expr}{ta:TA}{p pos:Pos}(hg:Gl X "range") (hm:X.mg "range" = none) (ha:PA X [a,b] ta)(hs:starEach [a,b] X.env=[(false,eval a X.env),(false,eval b X.env)]:=by rfl)(hs2:starEach [b] X.env=[(false,eval b X.env)]:=by rfl) :
  PI X tg (.Call (.Name "range" p) [a,b] [] pos) (BR ta):=by
 intro pins s σ H R I h;refine Call_ (jW I hg hm boot_range (Yq (dy (ha pos pins s σ H _ I h) λus s1 ⟨vs,H1,I1,r1,q1⟩=>?_) (by rw[hs,hs2]) (by rw[hs2];rfl)))
 obtain⟨i,j,e,⟨q1,q2,q3,q4⟩,q⟩:=q1;subst e;cases r1 with
 | cons r rr =>
  cases rr with
  | cons r' rr =>
   cases rr;obtain⟨t,rfl⟩:=r;obtain⟨t',rfl⟩:=r';exact call_range_2 (vH I1 q1 q2 q3 q4 q)
def Gh(wi:TI)(g:TG)(tb:TS):TS:=λD σ H=>wi σ H λJ H1=>∃W:Nat->Nat->St->Hp->Prop,(∃m,W 0 m σ H1) /\ ∀i m σ H,W i m σ H ->
 (J.stop i H/\D.nx σ H)\/(J.go i H /\ ∃N:St->Hp->Prop,(∀σ' H',N σ' H' -> ∃m',m'<m/\W (i+1) m' σ' H') /\ ∀x H',J.yld i H x H'->g x σ H' λσ2 H2=>tb { D with nx:=N,ct:=N,bk:=D.nx } σ2 H2)
def pH(fp:List Addr)(h:Heap):List (Addr×Obj):=fp.filterMap λb=>(h.get? b).map λo=>(b,o)
theorem i9{fp:List Addr}{h:Heap}{b:Addr}{o:Obj}(hb:b∈fp)(e:h.get? b=some o):(b,o)∈pH fp h:=List.mem_filterMap.mpr ⟨b,hb,by rw[e];rfl⟩
theorem Aj{fp:List Addr}{h:Heap}{p:Addr×Obj}(hp:p∈pH fp h):p.1∈fp/\h.get? p.1=some p.2:=by
 obtain⟨b,hb,e⟩:=List.mem_filterMap.mp hp;cases q:h.get? b with
 | none=>rw[q] at e;cases e
 | some o =>
  rw[q] at e;have e':(b,o)=p:=Ym e;subst e';exact⟨hb,q⟩
theorem aU.pinned{pins:List (Addr×Obj)}{σ:St}{H:Hp}{s:Shared}{fp:List Addr}(I:aU X pins σ H s)(hf:∀b∈fp,m5 X pins H b)(ho:∀b∈fp,∃o,s.heap.get? b=some o /\ ∀v,o.data ≠ .cell v):aU X (pins++pH fp s.heap) σ H s :=
 I.pins_of λp hp=>(List.mem_append.mp hp).elim (λz=>I.pin p (Yr _ z)) λz=>by
  obtain⟨hb,e⟩:=Aj z;obtain⟨f0,f1,f2,_⟩:=hf p.1 hb;obtain⟨o,e',d⟩:=ho p.1 hb;rw[e] at e';cases e';exact⟨e,f0,f1,f2,d⟩
theorem aU.unpinned{pins pl:List (Addr×Obj)}{σ:St}{H:Hp}{s:Shared}(I:aU X (pins++pl) σ H s):aU X pins σ H s:=I.pins_of λp hp=>I.pin p (Yr _ (List.mem_append_left _ hp))
theorem Gc{iter:Expr}{body:List Stmt}{wi:TI}{g:TG}{tb:TS}{pos:Pos}(hp:PassesOwn (model X.prog X.w) X.A X.env X.xe)(hc:X.calm=true)(hi:PI X tg iter wi)(hg:PG X tg g)(hb:vM X body tb)
  (hs:∀x,foldedSetIterable iter X.env x=pure x:=by intro _;rfl):PS X (.For tg iter body [] pos) (Gh wi g tb):=by
 intro pins s σ H D I h;refine wpAny_For (dy (hi pins s σ H _ I h) λv s1 h1=>dy h1 λitv s2 h2=>?_) hs;obtain⟨it,fp,tn,J,H2,e,I2,T,st2,f2,W,⟨m0,w0⟩,turn⟩:=h2;subst e;have stat:∀{H':Hp},(∀b∈fp,H' b=none) -> ∀b∈fp,m5 X pins H' b:=λhn b hb=>⟨hn b hb,(f2 b hb).2⟩;refine codeAny_forLoop_any (λn s'=>∃i σ' H',aU X pins σ' H' s'/\tn i s'.heap/\(∀b∈fp,H' b=none)/\W i n σ' H') ?_ m0 ⟨0,σ,H2,I2,st2,λb hb=>(f2 b hb).1,w0⟩;rintro n s3 ⟨i,σ3,H3,I3,st3,fr3,w3⟩;rcases turn i n σ3 H3 w3 with ⟨stop,qn⟩|⟨go,N,hN,step⟩
 .refine wpAny_passesOwn hp (dy (T.done X rfl rfl rfl hc i pins s3 σ3 H3 X.xe I3 (stat fr3) st3 stop) λr s4 ⟨hr,I4⟩=>?_);subst hr;exact wpAny_execs_nil ⟨σ3,H3,I4,qn⟩
 .refine wpAny_passesOwn hp (dy (T.item X rfl rfl rfl hc i pins s3 σ3 H3 X.xe I3 (stat fr3) st3 go) λr s4 ⟨u,hr,h4⟩=>?_);subst hr;refine wpAny_passesOwn hp (dy h4 λ_ s5 ⟨x,H5,I5,r5,y5,st5,fr5⟩=>?_);have I5':=I5.pinned (stat fr5) (T.obj _ _ st5);refine wpAny_passesOwn hp (dy (hg _ s5 σ3 H5 x u _ I5' r5 (step x H5 y5)) λ_ s6 ⟨σ6,H6,I6,q6⟩=>?_);refine wpAny_passesOwn hp (dy (hb _ s6 σ6 H6 _ I6 q6) λf s7 q7=>?_);have again:∀{σ7:St}{H7:Hp},aU X (pins++pH fp s5.heap) σ7 H7 s7->N σ7 H7 -> ∃m,m<n /\ ∃i σ' H',aU X pins σ' H' s7/\tn i s7.heap/\(∀b∈fp,H' b=none)/\W i m σ' H':=λ{σ7 H7} I7 n7=>by
   obtain⟨m',hm,w7⟩:=hN σ7 H7 n7;refine⟨m',hm,i+1,σ7,H7,I7.unpinned,T.keep _ _ _ st5 λb hb o e=>(I7.pin (b,o) (Yr _ (Yr _ (i9 hb e)))).1,λb hb=>?_,w7⟩;obtain⟨o,e,d⟩:=T.obj _ _ st5 b hb;exact (I7.pin (b,o) (Yr _ (Yr _ (i9 hb e)))).2.1
  cases f with
  | next=>obtain⟨σ7,H7,I7,n7⟩:=q7;exact again I7 n7
  | cont=>obtain⟨σ7,H7,I7,n7⟩:=q7;exact again I7 n7
  | brk=>obtain⟨σ7,H7,I7,q7⟩:=q7;exact⟨σ7,H7,I7.unpinned,q7⟩
  | ret v=>obtain⟨x7,σ7,H7,I7,r7,q7⟩:=q7;exact⟨x7,σ7,H7,I7.unpinned,r7,q7⟩
end
abbrev R2:=V->V->Hp->VK->Prop
def el(X:Cx)(f:Value->Value->Sem Value)(r:R2):Prop :=
 ∀(pins:List (Addr×Obj))(s:Shared)(σ:St)(H:Hp)(x y:V)(v u:Value)(Q:VK),aU X pins σ H s->cC x v->cC y u->r x y H Q ->
  wpAny (model X.prog X.w) X.A (f v u) (EP X pins σ Q) X.xe s
def J3(X:Cx)(f:Value->Sem Value)(r:V->Hp->VK->Prop):Prop :=
 ∀(pins:List (Addr×Obj))(s:Shared)(σ:St)(H:Hp)(x:V)(v:Value)(Q:VK),aU X pins σ H s->cC x v->r x H Q ->
  wpAny (model X.prog X.w) X.A (f v) (EP X pins σ Q) X.xe s
def eM(X:Cx)(f:Value)(r:List V->Hp->VK->Prop):Prop :=
 ∀(pins:List (Addr×Obj))(s:Shared)(σ:St)(H:Hp)(xs:List V)(us:List Value)(Q:VK),aU X pins σ H s->bV xs us->r xs H Q ->
  wpAny (model X.prog X.w) X.A (call f us) (EP X pins σ Q) X.xe s
def Kl(X:Cx)(r:V->Hp->(Bool->Hp->Prop)->Prop):Prop :=
 ∀(pins:List (Addr×Obj))(s:Shared)(σ:St)(H:Hp)(x:V)(v:Value)(Q:Bool->Hp->Prop),aU X pins σ H s->cC x v->r x H Q ->
  wpAny (model X.prog X.w) X.A (truthy v) (TP X pins σ Q) X.xe s
def Fk(r:R2)(ta tb:TE):TE:=λσ H Q=>ta σ H λx H1=>tb σ H1 λy H2=>r x y H2 Q
def Kp(r:V->Hp->VK->Prop)(ta:TE):TE:=λσ H Q=>ta σ H λx H1=>r x H1 Q
def rI(C:Int->Int->Prop)(g:Int->Int->V):R2:=λx y H Q=>∃i j,x=.int i/\y=.int j/\C i j/\Q (g i j) H
def yT(g:Int->Int->V):R2:=λx y H Q=>∃i j,x=.int i/\y=.int j/\Q (g i j) H
def rU(g:Int->V):V->Hp->VK->Prop:=λx H Q=>∃i,x=.int i/\Q (g i) H
section
variable {X:Cx}{a b c:Expr}{ta tb tc:TE}{pos:Pos}
theorem G1(ha:PE X a ta)(hb:PE X b tb) {pins:List (Addr×Obj)}{s:Shared}{σ:St}{H:Hp}{R:V->V->Hp->Prop}(I:aU X pins σ H s)
  (h:ta σ H λx H1=>tb σ H1 λy H2=>R x y H2) {Q:Value->Shared->Prop}{f:Value->Value->Sem Value}
  (hf:∀v u s2 x y H2,aU X pins σ H2 s2->cC x v->cC y u->R x y H2->wpAny (model X.prog X.w) X.A (f v u) Q X.xe s2) :
  wpAny (model X.prog X.w) X.A (eval a X.env) (λv s₁=>wpAny (model X.prog X.w) X.A (eval b X.env) (λu s₂=>wpAny (model X.prog X.w) X.A (f v u) Q X.xe s₂) X.xe s₁) X.xe s:=by
 refine dy (ha pins s σ H _ I h) λv s1 ⟨x,H1,I1,r1,q1⟩=>?_;refine dy (hb pins s1 σ H1 _ I1 q1) λu s2 ⟨y,H2,I2,r2,q2⟩=>?_;exact hf v u s2 x y H2 I2 r1 r2 q2
theorem JO{op:Operator}{r:R2}(ho:el X (binaryOp op) r)(ha:PE X a ta)(hb:PE X b tb):PE X (.BinOp a op b pos) (Fk r ta tb):=by
 intro pins s σ H Q I h;exact wpAny_BinOp (G1 ha hb I h λv u s2 x y H2 I2 rx ry q=>ho pins s2 σ H2 x y v u Q I2 rx ry q)
theorem Jj{op:UnaryOp}{r:V->Hp->VK->Prop}(ho:J3 X (unaryOp op) r)(ha:PE X a ta):PE X (.UnaryOp op a pos) (Kp r ta):=by
 intro pins s σ H Q I h;exact UnaryOp_ (dy (ha pins s σ H _ I h) λv s1 ⟨x,H1,I1,r1,q1⟩=>ho pins s1 σ H1 x v Q I1 r1 q1)
theorem Jg{f:Value->Value->Sem Value}{C:Int->Int->Prop}{g:Int->Int->Int}
  (rule:∀(i j:Int)(t u:Tok)(s:Shared)(Q:Value->Shared->Prop)(E:Value->Shared->Prop),C i j->Q (.int (g i j) s.toks) { s with toks:=s.toks+1 } -> wpAny (model X.prog X.w) X.A (f (.int i t) (.int j u)) Q E s) :
  el X f (rI C λi j=>.int (g i j)):=by
 intro pins s σ H x y v u Q I rx ry h;obtain⟨i,j,rfl,rfl,hc,q⟩:=h;obtain⟨t,rfl⟩:=rx;obtain⟨t',rfl⟩:=ry;exact rule i j t t' s _ _ hc ⟨.int (g i j),H,I.tok _,⟨_,rfl⟩,q⟩
theorem IX{f:Value->Value->Sem Value}{g:Int->Int->Int}
  (rule:∀(i j:Int)(t u:Tok)(s:Shared)(Q:Value->Shared->Prop)(E:Value->Shared->Prop),Q (.int (g i j) s.toks) { s with toks:=s.toks+1 } -> wpAny (model X.prog X.w) X.A (f (.int i t) (.int j u)) Q E s) :
  el X f (yT λi j=>.int (g i j)):=by
 intro pins s σ H x y v u Q I rx ry h;obtain⟨i,j,rfl,rfl,q⟩:=h;obtain⟨t,rfl⟩:=rx;obtain⟨t',rfl⟩:=ry;exact rule i j t t' s _ _ ⟨.int (g i j),H,I.tok _,⟨_,rfl⟩,q⟩
theorem Fo{f:Value->Value->Sem Value}{g:Int->Int->Bool}
  (rule:∀(i j:Int)(t u:Tok)(s:Shared)(Q:Value->Shared->Prop)(E:Value->Shared->Prop),Q (.bool (g i j)) s->wpAny (model X.prog X.w) X.A (f (.int i t) (.int j u)) Q E s) :
  el X f (yT λi j=>.bl (g i j)):=by
 intro pins s σ H x y v u Q I rx ry h;obtain⟨i,j,rfl,rfl,q⟩:=h;obtain⟨t,rfl⟩:=rx;obtain⟨t',rfl⟩:=ry;exact rule i j t t' s _ _ ⟨.bl (g i j),H,I,rfl,q⟩
def Jf(i j:Int):Prop:=0<=j/\j<=1000000/\i.natAbs<2^64
theorem Gg:el X (binaryOp .Add) (yT λi j=>.int (i+j)):=IX λ_ _ _ _ _ _ _ q=>add_int q
theorem cj:el X (binaryOp .Sub) (yT λi j=>.int (i-j)):=IX λ_ _ _ _ _ _ _ q=>sub_int q
theorem Fn:el X (binaryOp .Mod) (rI (λ_ j=>j≠0) λi j=>.int (i.fmod j)):=Jg λ_ _ _ _ _ _ _ hc q=>mod_int' hc q
theorem Bo:el X (binaryOp .Pow) (rI Jf λi j=>.int (i^j.toNat)):=Jg λ_ _ _ _ _ _ _ hc q=>pow_int_small hc.1 hc.2.1 hc.2.2 q
theorem Ln{f:Value->Sem Value}{g:Int->Int}
  (rule:∀(i:Int)(t:Tok)(s:Shared)(Q:Value->Shared->Prop)(E:Value->Shared->Prop),Q (.int (g i) s.toks) { s with toks:=s.toks+1 } -> wpAny (model X.prog X.w) X.A (f (.int i t)) Q E s) :
  J3 X f (rU λi=>.int (g i)):=by
 intro pins s σ H x v Q I rx h;obtain⟨i,rfl,q⟩:=h;obtain⟨t,rfl⟩:=rx;exact rule i t s _ _ ⟨.int (g i),H,I.tok _,⟨_,rfl⟩,q⟩
theorem cy:J3 X (unaryOp .USub) (rU λi=>.int (-i)):=Ln λ_ _ _ _ _ q=>neg_int q
end
def zA:V->V->Bool
 | .non,.non=>true | .non,.int _=>true | .int _,.non=>true | .non,.bl _=>true | .bl _,.non=>true | .non,.str _=>true | .str _,.non=>true
 | .int _,.int _=>true | .bl _,.bl _=>true | .str _,.str _=>true | .byt _,.byt _=>true
 | .int _,.str _=>true | .str _,.int _=>true | .bl _,.str _=>true | .str _,.bl _=>true
 | _,_=>false
def IJ:R2:=λx y H Q=>zA x y=true/\Q (.bl (decide (x=y))) H
def IF:R2:=λx y H Q=>zA x y=true/\Q (.bl (!decide (x=y))) H
theorem xM{i j:Int}:decide (V.int i=V.int j)=(i==j):=by
 rw[Bool.eq_iff_iff];simp
theorem AV{i j:Bool}:decide (V.bl i=V.bl j)=(i==j):=by
 rw[Bool.eq_iff_iff];simp
theorem yg{i j:Str}:decide (V.str i=V.str j)=(i==j):=by
 rw[Bool.eq_iff_iff];simp
theorem yc{i j:Array UInt8}:decide (V.byt i=V.byt j)=(i.toList==j.toList):=by
 rw[Bool.eq_iff_iff];cases i;cases j;simp
section
variable {X:Cx}{a b c:Expr}{ta tb tc:TE}{pos:Pos}
theorem cE{pins:List (Addr×Obj)}{σ:St}{H:Hp}{s:Shared}{Q:VK}{k k':Bool}(I:aU X pins σ H s)(q:Q (.bl k) H)(e:k=k'):EP X pins σ Q (.bool k') s:=by
 subst e;exact⟨.bl k,H,I,rfl,q⟩
theorem dY:el X (compareOp .Eq) IJ:=by
 intro pins s σ H x y v u Q I rx ry h;obtain⟨hs,q⟩:=h;cases x with
 | non =>
  cases rx;cases y with
  | non=>cases ry;exact PySem.EqNone.eq_none_none (cE I q (by simp))
  | bl j=>cases ry;exact PySem.EqNone.eq_none_bool (cE I q (by simp))
  | int j=>obtain⟨t',rfl⟩:=ry;exact PySem.EqNone.eq_none_int (cE I q (by simp))
  | str j=>obtain⟨t',rfl⟩:=ry;exact PySem.EqNone.eq_none_str (cE I q (by simp))
  | _=>exact absurd (show false=true from hs) Yo
 | bl i =>
  cases rx;cases y with
  | non=>cases ry;exact PySem.EqNone.eq_bool_none (cE I q (by simp))
  | bl j=>cases ry;exact eq_bool (cE I q AV)
  | str j=>obtain⟨t',rfl⟩:=ry;exact PySem.EqMixed.eq_bool_str (cE I q (by simp))
  | _=>exact absurd (show false=true from hs) Yo
 | int i =>
  obtain⟨t,rfl⟩:=rx;cases y with
  | non=>cases ry;exact PySem.EqNone.eq_int_none (cE I q (by simp))
  | int j=>obtain⟨t',rfl⟩:=ry;exact eq_int (cE I q xM)
  | str j=>obtain⟨t',rfl⟩:=ry;exact PySem.EqMixed.eq_int_str (cE I q (by simp))
  | _=>exact absurd (show false=true from hs) Yo
 | str i =>
  obtain⟨t,rfl⟩:=rx;cases y with
  | non=>cases ry;exact PySem.EqNone.eq_str_none (cE I q (by simp))
  | bl j=>cases ry;exact PySem.EqMixed.eq_str_bool (cE I q (by simp))
  | int j=>obtain⟨t',rfl⟩:=ry;exact PySem.EqMixed.eq_str_int (cE I q (by simp))
  | str j=>obtain⟨t',rfl⟩:=ry;exact eq_str (cE I q yg)
  | _=>exact absurd (show false=true from hs) Yo
 | byt i =>
  obtain⟨t,rfl⟩:=rx;cases y with
  | byt j=>obtain⟨t',rfl⟩:=ry;exact PySem.W.eq_bytes (cE I q yc)
  | _=>exact absurd (show false=true from hs) Yo
 | _=>cases y<;>exact absurd (show false=true from hs) Yo
theorem nN:el X (compareOp .NotEq) IF:=by
 intro pins s σ H x y v u Q I rx ry h;obtain⟨hs,q⟩:=h;cases x with
 | non =>
  cases rx;cases y with
  | non=>cases ry;exact PySem.EqNone.ne_none_none (cE I q (by simp))
  | bl j=>cases ry;exact PySem.EqNone.ne_none_bool (cE I q (by simp))
  | int j=>obtain⟨t',rfl⟩:=ry;exact PySem.EqNone.ne_none_int (cE I q (by simp))
  | str j=>obtain⟨t',rfl⟩:=ry;exact PySem.EqNone.ne_none_str (cE I q (by simp))
  | _=>exact absurd (show false=true from hs) Yo
 | bl i =>
  cases rx;cases y with
  | non=>cases ry;exact PySem.EqNone.ne_bool_none (cE I q (by simp))
  | bl j=>cases ry;exact ne_bool (cE I q (Yn not AV))
  | str j=>obtain⟨t',rfl⟩:=ry;exact PySem.EqMixed.ne_bool_str (cE I q (by simp))
  | _=>exact absurd (show false=true from hs) Yo
 | int i =>
  obtain⟨t,rfl⟩:=rx;cases y with
  | non=>cases ry;exact PySem.EqNone.ne_int_none (cE I q (by simp))
  | int j=>obtain⟨t',rfl⟩:=ry;exact ne_int (cE I q (Yn not xM))
  | str j=>obtain⟨t',rfl⟩:=ry;exact PySem.EqMixed.ne_int_str (cE I q (by simp))
  | _=>exact absurd (show false=true from hs) Yo
 | str i =>
  obtain⟨t,rfl⟩:=rx;cases y with
  | non=>cases ry;exact PySem.EqNone.ne_str_none (cE I q (by simp))
  | bl j=>cases ry;exact PySem.EqMixed.ne_str_bool (cE I q (by simp))
  | int j=>obtain⟨t',rfl⟩:=ry;exact PySem.EqMixed.ne_str_int (cE I q (by simp))
  | str j=>obtain⟨t',rfl⟩:=ry;exact ne_str (cE I q (Yn not yg))
  | _=>exact absurd (show false=true from hs) Yo
 | byt i =>
  obtain⟨t,rfl⟩:=rx;cases y with
  | byt j=>obtain⟨t',rfl⟩:=ry;exact PySem.W.ne_bytes (cE I q (Yn not yc))
  | _=>exact absurd (show false=true from hs) Yo
 | _=>cases y<;>exact absurd (show false=true from hs) Yo
theorem ky:el X (compareOp .Lt) (yT λi j=>.bl (decide (i<j))):=Fo λ_ _ _ _ _ _ _ q=>lt_int q
theorem yW:el X (compareOp .LtE) (yT λi j=>.bl (decide (i<=j))):=Fo λ_ _ _ _ _ _ _ q=>le_int q
theorem io:el X (compareOp .Gt) (yT λi j=>.bl (decide (j<i))):=Fo λ_ _ _ _ _ _ _ q=>gt_int q
theorem BI:el X (compareOp .GtE) (yT λi j=>.bl (decide (j<=i))):=Fo λ_ _ _ _ _ _ _ q=>ge_int q
theorem el.or{f:Value->Value->Sem Value}{r r':R2}(h:el X f r)(h':el X f r'):el X f (λx y H Q=>r x y H Q\/r' x y H Q):=by
 intro pins s σ H x y v u Q I rx ry q;rcases q with q|q
 .exact h pins s σ H x y v u Q I rx ry q
 .exact h' pins s σ H x y v u Q I rx ry q
theorem aG(b:Expr){op:CmpOp}(h:op ≠ .In:=by decide)(h2:op ≠ .NotIn:=by decide):behindInMarks op b=false:=by
 have e1:(op==CmpOp.In)=false:=by cases op<;>first|rfl|exact absurd rfl h
 have e2:(op==CmpOp.NotIn)=false:=by cases op<;>first|rfl|exact absurd rfl h2
 cases b<;>simp[behindInMarks,e1,e2]
theorem Ey{op:CmpOp}{r:R2}(ho:el X (compareOp op) r)(ha:PE X a ta)(hb:PE X b tb)(hm:behindInMarks op b=false):PE X (.Compare a [op] [b] pos) (Fk r ta tb):=by
 intro pins s σ H Q I h;exact wpAny_Compare1 (G1 ha hb I h λv u s2 x y H2 I2 rx ry q=>ho pins s2 σ H2 x y v u Q I2 rx ry q) hm
def qP(t:TE):TT:=λσ H Q=>t σ H λx H'=>∃k,x=.bl k/\Q k H'
theorem Fg{op:CmpOp}{r:R2}(ho:el X (compareOp op) r)(ha:PE X a ta)(hb:PE X b tb)(hm:behindInMarks op b=false):PT X (.Compare a [op] [b] pos) (qP (Fk r ta tb)):=by
 intro pins s σ H Q I h;refine wpAny_isTrue_Compare1 (dy (ha pins s σ H _ I h) λv s1 ⟨x,H1,I1,r1,q1⟩=>dy (hb pins s1 σ H1 _ I1 q1) λu s2 ⟨y,H2,I2,r2,q2⟩ =>
  dy (ho pins s2 σ H2 x y v u _ I2 r1 r2 q2) λc s3 ⟨z,H3,I3,r3,k,e,q3⟩=>?_) hm
 subst e;cases r3;exact wpAny_truthy_bool ⟨H3,I3,q3⟩
def sJ(r r':R2)(ta tb tc:TE):TE:=λσ H Q=>ta σ H λx H1=>tb σ H1 λy H2=>r x y H2 λz H3=>∃k,z=.bl k /\
 (if k=true then tc σ H3 λw' H4=>r' y w' H4 Q else Q (.bl false) H3)
theorem Cv{op op':CmpOp}{r r':R2}(ho:el X (compareOp op) r)(ho':el X (compareOp op') r')(ha:PE X a ta)(hb:PE X b tb)(hc:PE X c tc)
  (hm:lastMarks [op,op'] [b,c]=false:=by with_unfolding_all rfl):PT X (.Compare a [op,op'] [b,c] pos) (qP (sJ r r' ta tb tc)):=by
 intro pins s σ H Q I h;refine isTrue_chain (dy (ha pins s σ H _ I h) λv s1 ⟨x,H1,I1,r1,q1⟩=>test_link (dy (hb pins s1 σ H1 _ I1 q1) λu s2 ⟨y,H2,I2,r2,q2⟩ =>
  dy (ho pins s2 σ H2 x y v u _ I2 r1 r2 q2) λd s3 ⟨z,H3,I3,r3,k,e,q3⟩=>?_)) hm
 subst e;cases r3;refine wpAny_truthy_bool ?_;cases k with
 | false =>
  obtain⟨k',e',q'⟩:=q3;cases e';exact ite_ff ⟨H3,I3,q'⟩
 | true =>
  refine ite_tt (test_last (dy (hc pins s3 σ H3 _ I3 q3) λw' s4 ⟨z',H4,I4,r4,q4⟩=>dy (ho' pins s4 σ H4 y z' u w' _ I4 r2 r4 q4) λd' s5 ⟨z2,H5,I5,r5,k2,e2,q5⟩=>?_));subst e2;cases r5;exact wpAny_truthy_bool ⟨H5,I5,q5⟩
def wW(K:W.Frag)(x:V)(H:Hp)(k:Bool):Prop :=
 match x with
 | .non=>k=false
 | .bl b=>k=b
 | .int i=>k=(i != 0)
 | .str y=>y.length<=sizeLine/\k=((y.length:Int) != 0)
 | .byt y=>y.size<=sizeLine/\k=((y.size:Int) != 0)
 | .ref p=>(∃xs,ke K H p xs/\k = !xs.isEmpty)\/(∃xs,rK K H p xs/\k = !xs.isEmpty) \/ ∃kvs,H p=some (.dK kvs)/\k = !kvs.isEmpty
 | _=>False
theorem wB{κ:Type}{kvs:List (κ×V)}{vs:List (κ×Value)}(r:KV kvs vs):(!vs.isEmpty) = !kvs.isEmpty:=by
 cases r<;>rfl
theorem qt{xs:List V}{its:List Value}(r:bV xs its):(!its.toArray.isEmpty) = !xs.isEmpty:=by
 cases r<;>simp
theorem mD:(sizeLine:Nat)<2^63:=by rw[sizeLine_eq];decide
theorem Bk:Kl X (λx H Q=>∃k,wW X.K x H k/\Q k H):=by
 intro pins s σ H x v Q I rx h;obtain⟨k,e,q⟩:=h;have hl:=mD;have hs:sizeLine=16777216:=sizeLine_eq;cases x with
 | non =>
  cases rx;have e':k=false:=e;subst e';exact truthy_none ⟨H,I,q⟩
 | bl b =>
  cases rx;have e':k=b:=e;subst e';exact wpAny_truthy_bool ⟨H,I,q⟩
 | int i =>
  obtain⟨t,rfl⟩:=rx;have e':k=(i != 0):=e;subst e';exact PySem.P.truthy_int ⟨H,I,q⟩
 | str y =>
  obtain⟨t,rfl⟩:=rx;obtain⟨hy,e'⟩ : y.length<=sizeLine/\k=((y.length:Int) != 0):=e;subst e';exact PySem.P.truthy_str () ⟨H,I.tok _,q⟩
 | byt y =>
  obtain⟨t,rfl⟩:=rx;obtain⟨hy,e'⟩ : y.size<=sizeLine/\k=((y.size:Int) != 0):=e;subst e';exact PySem.W.truthy_bytes () ⟨H,I.tok _,q⟩
 | ref p =>
  cases rx;have e':(∃xs,ke X.K H p xs/\k = !xs.isEmpty)\/(∃xs,rK X.K H p xs/\k = !xs.isEmpty) \/ ∃kvs,H p=some (.dK kvs)/\k = !kvs.isEmpty:=e;rcases e' with ⟨xs,hx,e'⟩|⟨xs,hx,e'⟩|⟨kvs,hx,e'⟩
  .subst e';obtain⟨its,r,pl,hz⟩:=I.list hx;have hlen:=r.length;exact wpAny_truthy_list pl.isList (by simp only[Ys];nofun) ⟨H,I.tok _,by rw[qt r];exact q⟩
  .subst e';obtain⟨its,r,pl,hz⟩:=I.tuple hx;have hlen:=r.length;exact truthy_tuple pl (by simp only[Ys];nofun) ⟨H,I.tok _,by rw[qt r];exact q⟩
  .subst e';obtain⟨hz,hS,vs,r,m⟩ : kvs.length<=sizeLine/\(p==sysModules)=false /\ ∃vs,KV kvs vs/\s.heap.DictOf (rS X.prog X.w) p vs:=I.hok p _ hx;have hlen:kvs.length=vs.length:=Paired.length r;exact wpAny_truthy_dict hS m () ⟨H,I.tok _,by rw[wB r];exact q⟩
 | _=>exact (show False from e).elim
theorem BN(ha:PE X a ta)(he:∀whole,isTrue a X.env whole=(do let v <-whole;standAt a.pos;holding [v] (truthy v))) :
  PT X a (λσ H Q=>ta σ H λx H'=>∃k,wW X.K x H' k/\Q k H'):=by
 intro pins s σ H Q I h;exact isTrue_plain (dy (ha pins s σ H _ I h) λv s1 ⟨x,H1,I1,r1,q1⟩=>Bk pins s1 σ H1 x v Q I1 r1 q1) (he _)
theorem AE{x:V}{us:List Value}(r:bV [x] us):∃u,us=[u]/\cC x u:=by
 cases r with
 | cons r1 r2=>cases r2;exact⟨_,rfl,r1⟩
theorem yO{x y:V}{us:List Value}(r:bV [x,y] us):∃u w',us=[u,w']/\cC x u/\cC y w':=by
 cases r with
 | cons r1 r2 =>
  cases r2 with
  | cons r3 r4=>cases r4;exact⟨_,_,rfl,r1,r3⟩
theorem oZ:eM X (.builtin "abs") (λxs H Q=>∃i,xs=[.int i]/\Q (.int (if i<0 then -i else i)) H):=by
 intro pins s σ H xs us Q I r h;obtain⟨i,rfl,q⟩:=h;obtain⟨u,rfl,t,rfl⟩:=AE r;exact call_abs_int λu tk=>⟨.int (if i<0 then -i else i),H,I.tok _,⟨_,rfl⟩,q⟩
theorem mj(hc:X.calm=true):eM X (.builtin "max") (λxs H Q=>∃i j,xs=[.int i,.int j]/\Q (.int (if j > i then j else i)) H):=by
 intro pins s σ H xs us Q I r h;obtain⟨i,j,rfl,q⟩:=h;obtain⟨u,w',rfl,⟨t,rfl⟩,⟨t',rfl⟩⟩:=yO r;refine max_two_ints (I.ok.hd hc) λh' tk k=>⟨_,H,I.kept k,?_,q⟩;by_cases hj:j > i
 .rw[Yb hj,Yb hj];exact⟨_,rfl⟩
 .rw[Yc hj,Yc hj];exact⟨_,rfl⟩
theorem rE(hc:X.calm=true):eM X (.builtin "min") (λxs H Q=>∃i j,xs=[.int i,.int j]/\Q (.int (if j<i then j else i)) H):=by
 intro pins s σ H xs us Q I r h;obtain⟨i,j,rfl,q⟩:=h;obtain⟨u,w',rfl,⟨t,rfl⟩,⟨t',rfl⟩⟩:=yO r;refine min_two_ints (I.ok.hd hc) λh' tk k=>⟨_,H,I.kept k,?_,q⟩;by_cases hj:j<i
 .rw[Yb hj,Yb hj];exact⟨_,rfl⟩
 .rw[Yc hj,Yc hj];exact⟨_,rfl⟩
end
structure Hl (h:Heap)(x dx C:Addr)(mA:Str->Option Value):Prop where
 obj:h.get? x=some (PySem.W.instObj C dx)
 ns:h.Ns1 dx mA
 ne:dx≠x
theorem zG{h:Heap}{dx:Addr}{mA:Str->Option Value}(n:h.Ns1 dx mA):∃od,h.get? dx=some od /\ ∀name,PySem.W.lookIn name od=some (mA name):=by
 obtain⟨o,es,ep,ho,hd,hk,_,hm⟩:=n;refine⟨o,ho,λname=>?_⟩;have e:=hm name;unfold nsFind findBy at e;rw[<-Array.find?_toList] at e;unfold PySem.W.lookIn;rw[hd];dsimp only;split
 .rename_i y q
  rw[q] at e;exact Yn some e
 .rename_i q
  rw[q] at e;have a:es.toList.any (·.refKey)=false:=by
   rw[List.any_eq_false];intro y hy;obtain⟨z,t,hkey⟩:=hk y (Array.mem_toList_iff.mp hy);simp[DictEntry.refKey,hkey]
  have a':¬ es.toList.any (·.refKey)=true:=by rw[a];exact Yo
  rw[Yc a'];exact Yn some e
theorem Hl.look{h:Heap}{x dx C:Addr}{mA:Str->Option Value}(I:Hl h x dx C mA):∃od,PySem.W.InstAt h x (PySem.W.instObj C dx) C (some od) /\ ∀name,PySem.W.lookIn name od=some (mA name) :=
 let ⟨od,ho,hl⟩:=zG I.ns
 ⟨od,⟨I.obj,rfl,rfl,ho⟩,hl⟩
section
variable {P:Program}{w:World}{H H':Hp}{h h':Heap}{a C dx:Addr}{fs fs':List (Str×V)}
theorem Ez(hok:oM P w H h)(e:H a=some (.ins C dx fs)):∃mA,Hl h a dx C mA/\(∀f,HV (fs.lookup f) (mA f))/\PySem.Within mA (fs.map (·.1))/\fs.length<=1000/\H dx=some (.own a):=by
 obtain⟨d,z,ne,ob,mA,n,r,q⟩:=(show dZ P w H h a (.ins C dx fs) from hok a _ e)
 exact⟨mA,⟨ob,n,ne⟩,r,q,z,d⟩
end
structure Kr (K:W.Frag)(C:Addr):Prop where
 pg:PySem.W.plainGet K C Str.empty=true
 hd:PySem.W.hasDictIn K C=true
 po:PySem.W.plainOver K C=true
 sa:PySem.W.findIn K (.ref C) "__setattr__" = some (some (.builtin "object.__setattr__"))
theorem Kr.get{K:W.Frag}{C:Addr}(c:Kr K C)(f:Str):PySem.W.plainGet K C f=true:=c.pg
section
variable {X:Cx}{pins:List (Addr×Obj)}{σ:St}{H:Hp}{s:Shared}{A:Around}{E:Value->Shared->Prop}{Q:Value->Shared->Prop}{c:Value}{b:Bool}
inductive oh (K:W.Frag)(H:Hp):V->Value->Prop where
 | non:oh K H .non (.type "NoneType")
 | bl (x:Bool):oh K H (.bl x) (.type "bool")
 | int (i:Int):oh K H (.int i) (.type "int")
 | str (x:Str):oh K H (.str x) (.type "str")
 | flt (x:UInt64):oh K H (.flt x) (.type "float")
 | lst {a:Addr}{xs:List V}(e:H a=some (.lst xs)):oh K H (.ref a) (.type "list")
 | frz {a:Addr}{o:Obj}{xs:List V}(e:H a=some (.frz o (.lst xs))):oh K H (.ref a) (.type "list")
 | tup {a:Addr}{xs:List V}(e:H a=some (.tup xs)):oh K H (.ref a) (.type "tuple")
 | dK {a:Addr}{kvs:List (ut×V)}(e:H a=some (.dK kvs)):oh K H (.ref a) (.type "dict")
 | dT {a:Addr}{kvs:List (List ut×V)}(e:H a=some (.dT kvs)):oh K H (.ref a) (.type "dict")
 | ins {a C dx:Addr}{fs:List (Str×V)}(e:H a=some (.ins C dx fs))(cl:Kr K C)(ha:PySem.W.findIn K (.ref C) "__class__" = some (some (.builtin "object.__class__")))
   (hn:PySem.W.specialIn K (.builtin "object.__class__") "__get__" = some (some (.builtin "getset_descriptor.__get__"))) (htk:PySem.W.takesIn K (.builtin "object.__class__")=some true)
   (hm:PySem.W.mroIn K C (.type "object")=some true):oh K H (.ref a) (.ref C)
theorem fO{x:V}{u t:Value}(I:aU X pins σ H s)(rx:cC x u)(ty:oh X.K H x t)(e:PySem.W.kitOne X.K t c=some b)(h:∀tk,Q (.bool b) { s with toks:=tk }) :
  wpAny (model X.prog X.w) A (call (.builtin "isinstance") [u,c]) Q E s:=by
 cases ty with
 | non=>cases (show u=Value.none from rx);exact Yt PySem.W.kitx_none I.kIn True.intro e (λz=>nomatch z) h
 | bl y=>cases (show u=Value.bool y from rx);exact Yt PySem.W.kitx_bool I.kIn True.intro e (λz=>nomatch z) h
 | int i=>obtain⟨t,q⟩:=(show ∃t,u=Value.int i t from rx);cases q;exact Yt PySem.W.kitx_int I.kIn True.intro e (λz=>nomatch z) h
 | str y=>obtain⟨t,q⟩:=(show ∃t,u=Value.str y t from rx);cases q;exact Yt PySem.W.kitx_str I.kIn True.intro e (λz=>nomatch z) h
 | flt y=>obtain⟨t,q⟩:=(show ∃t,u=Value.float y t from rx);cases q;exact Yt PySem.W.kitx_float I.kIn True.intro e (λz=>nomatch z) h
 | @lst a xs ea =>
  cases (show u=Value.ref a from rx)
  obtain⟨_,_,n,_,h1⟩:=(show dZ X.prog X.w H s.heap a (.lst xs) from I.hok a _ ea)
  exact Yt PySem.W.kitx_list I.kIn ⟨_,h1,rfl⟩ e (λz=>nomatch z) h
 | @frz a ob xs ea =>
  cases (show u=Value.ref a from rx)
  obtain⟨_,_,_,n,_,h1⟩:=(show dZ X.prog X.w H s.heap a (.frz ob (.lst xs)) from I.hok a _ ea)
  exact Yt PySem.W.kitx_list I.kIn ⟨_,h1,rfl⟩ e (λz=>nomatch z) h
 | @tup a xs ea =>
  cases (show u=Value.ref a from rx)
  obtain⟨_,_,_,p⟩:=(show dZ X.prog X.w H s.heap a (.tup xs) from I.hok a _ ea)
  obtain⟨o,h1,h2,_⟩:=p;exact Yt PySem.W.kitx_tuple I.kIn ⟨o,h1,h2⟩ e (λz=>nomatch z) h
 | @dK a kvs ea =>
  cases (show u=Value.ref a from rx)
  obtain⟨_,_,vs,_,p⟩:=(show dZ X.prog X.w H s.heap a (.dK kvs) from I.hok a _ ea)
  obtain⟨o,es,ep,h1,h2,_⟩:=p;exact Yt PySem.W.kitx_dict I.kIn ⟨o,h1,h2.1⟩ e (λz=>nomatch z) h
 | @dT a kvs ea =>
  cases (show u=Value.ref a from rx)
  obtain⟨_,_,xs,_,o,es,ep,h1,h2,_⟩:=(show dZ X.prog X.w H s.heap a (.dT kvs) from I.hok a _ ea)
  exact Yt PySem.W.kitx_dict I.kIn ⟨o,h1,h2.1⟩ e (λz=>nomatch z) h
 | @ins a C dx fs ea cl ha hn htk hm =>
  cases (show u=Value.ref a from rx)
  obtain⟨mA,O,_⟩:=Ez I.hok ea;obtain⟨od,J,_⟩:=O.look;exact Yt (PySem.W.kitx_own (cl.get _) cl.hd ha hn htk hm) I.kIn J e (λz=>nomatch z) h
end
structure fW (k:Nat)(A:Around):Prop where
 hd:A.handled=none
 dp:A.depth+3*k+105<recursionLimit
 un:A.units+16*k+200<cLine
theorem fW.mono{j k:Nat}{A:Around}(r:fW k A)(h:j<=k):fW j A:=⟨r.hd,by have:=r.dp;nofun,by have:=r.un;nofun⟩
theorem fW.deeper{k:Nat}{A:Around}(r:fW (k+1) A)(env:Env):fW k (A.deeper env) :=
 ⟨r.hd,by have:=r.dp;show A.depth+1+3*k+105<_;nofun,by have:=r.un;show A.units+3+16*k+200<_;nofun⟩
theorem fW.depth{k:Nat}{A:Around}(r:fW k A):A.depth<recursionLimit:=by have:=r.dp;nofun
def BD:TA:=λ_ H Q=>Q [] H
def qx(ta:TE)(tr:TA):TA:=λσ H Q=>ta σ H λx H1=>tr σ H1 λxs H2=>Q (x::xs) H2
section
variable {X:Cx}{e:Expr}{es:List Expr}{te:TE}{t:TA}{pos:Pos}
theorem Gj:PA X [] BD:=λ_ _ _ _ H Q I h=>Calls.spliced_nil ⟨[],H,I,.nil,h⟩
theorem Eo(ha:PE X e te)(hr:PA X es t)(hs:starEach (e::es) X.env=(false,eval e X.env)::starEach es X.env:=by rfl):PA X (e::es) (qx te t):=by
 intro pos pins s σ H Q I h;rw[hs];show wpAny _ _ (spliced ((false,eval e X.env)::backTo pos (starEach es X.env))) _ _ s;refine Calls.spliced_cons (dy (ha pins s σ H _ I h) λu s1 ⟨x,H1,I1,r1,q1⟩=>?_);exact dy (hr pos pins s1 σ H1 _ I1 q1) λus s2 ⟨xs,H2,I2,r2,q2⟩=>⟨x::xs,H2,I2,.cons r1 r2,q2⟩
end
abbrev Sp:=List V->Hp->VK->XK->Prop
abbrev zK:=List Env->Hp->Shared->XK->Value->Shared->Prop
structure EK (P:Program)(w:World)(K:W.Frag)(mg:Str->Option Value)(base:Heap)(A:Around)(outer:List Env)(s:Shared)(H:Hp):Prop where
 frames:A.frames=some outer
 mod:Mod K mg base
 bs:∀b o,base.get? b=some o->s.heap.get? b=some o/\H b=none
 bsz:base.objs.size<=s.heap.objs.size
 funs:s.heap.FunFrames base outer
 frf:∀b∈Au outer,H b=none
 hok:oM P w H s.heap
 bare:AllBare s.gens
def CE(outer:List Env)(P:Program)(w:World)(H:Hp)(s:Shared)(Q:VK)(u:Value)(s':Shared):Prop :=
 ∃v H',s'.os=s.os/\AllBare s'.gens/\Un (Au outer) [] H H' s.heap s'.heap/\oM P w H' s'.heap/\cC v u/\Q v H'
def CR(CX:zK)(outer:List Env)(P:Program)(w:World)(H:Hp)(s:Shared)(Q:VK)(E:XK)(r:Result)(s':Shared):Prop :=
 match r with
 | .ok (.ret u)=>CE outer P w H s Q u s'
 | .ok _=>False
 | .error e=>CX outer H s E e s'
structure bU (P:Program)(w:World)(K:W.Frag)(mg:Str->Option Value)(base:Heap)(CX:zK)(k:Nat)(f:Addr)(fd:FuncData)(ps:List Str)(sp:Sp):Prop where
 len:∀vs H Q E,sp vs H Q E->vs.length=ps.length
 run:∀(A:Around)(outer:List Env)(s:Shared)(H:Hp)(args:Args)(us:List Value)(vs:List V)(Q:VK)(E:XK),fW k A->EK P w K mg base A outer s H->BindsTo s fd args (ps.zip us)->bV vs us->sp vs H Q E ->
  codeAny (model P w) A (.call (.ref f) args) (CR CX outer P w H s Q E) s
section
variable {X:Cx}{pins:List (Addr×Obj)}{σ:St}{H:Hp}{s s':Shared}
theorem aU.env0(I:aU X pins σ H s):EK X.prog X.w X.K X.mg X.base X.A X.stack s H :=
 ⟨I.ok.frames,I.ok.mod,I.bs,Yg I.ok.bsz I.sz,I.stack,I.stkFree,I.hok,I.bare⟩
theorem aU.after{Q:VK}{u:Value}(I:aU X pins σ H s)(h:CE X.stack X.prog X.w H s Q u s'):EP X pins σ Q u s':=by
 obtain⟨v,H',os,bare,un,hok,r,q⟩:=h;obtain⟨hh,g,d,t,os'⟩:=s';obtain rfl:os'=s.os:=os;exact⟨v,H',I.call (h':=hh) (g':=g) (d':=d) (t':=t) (ch:=[]) un hok bare (λb z=>absurd z (by simp)),r,q⟩
end
def JB(sp:Sp)(dvs:List V)(E:XK)(t:TA):TE:=λσ H Q=>t σ H λvs H1=>sp (vs++dvs) H1 Q E
def pk(K:W.Frag)(fd:FuncData)(ps:List Str)(ds:List Value):Prop :=
 ∀(s:Shared)(us:List Value),K.In s.heap->(us++ds).length=ps.length->BindsTo s fd ⟨us,[]⟩ (ps.zip (us++ds))
theorem pk.all{K:W.Frag}{fd:FuncData}{ps:List Str}(h:∀us:List Value,us.length=ps.length->bindArgs fd ⟨us,[]⟩=pure (ps.zip us)):pk K fd ps []:=λs us _ hl=>by
 rw[List.append_nil] at hl ⊢;exact .of_eq (h us hl)
def we(CX:zK)(X:Cx)(E:XK):Prop:=∀(pins:List (Addr×Obj))(σ:St)(H:Hp)(s:Shared)(e:Value)(s':Shared),aU X pins σ H s->CX X.stack H s E e s'->X.xe e s'
section
variable {X:Cx}{CX:zK}{k:Nat}{f C:Addr}{fd:FuncData}{ps:List Str}{sp:Sp}{dvs:List V}{ds:List Value}{E:XK}{x m:Str}{p pos apos:Pos}{e o:Expr}{es:List Expr}{ta:TE}{t:TA}
theorem G8{pins:List (Addr×Obj)}{σ:St}{H:Hp}{s:Shared}{Q:VK}{us:List Value}{vs:List V}(F:bU X.prog X.w X.K X.mg X.base CX k f fd ps sp)(hr:fW k X.A)(hb:pk X.K fd ps ds)(hd:bV dvs ds)(hx:we CX X E)
  (I:aU X pins σ H s)(r:bV vs us)(h:sp (vs++dvs) H Q E):wpAny (model X.prog X.w) X.A (call (.ref f) us) (EP X pins σ Q) X.xe s:=by
 have r2:bV (vs++dvs) (us++ds):=r.append hd;have hl:(us++ds).length=ps.length:=by rw[<-r2.length];exact F.len _ _ _ _ h
 refine wpAny_call (codeAny_mono (F.run X.A X.stack s H ⟨us,[]⟩ (us++ds) (vs++dvs) Q E hr I.env0 (hb s us I.kIn hl) r2 h) λr s' hq=>?_);cases r with
 | error e=>exact hx pins σ H s e s' I hq
 | ok fl =>
  cases fl with
  | ret u=>exact I.after hq
  | next=>exact False.elim hq
  | brk=>exact False.elim hq
  | cont=>exact False.elim hq
theorem E9(F:bU X.prog X.w X.K X.mg X.base CX k f fd ps sp)(hr:fW k X.A)(hg:Gl X x)(hm:X.mg x=some (.ref f))(hk:PySem.W.keepIn X.K (.ref f)=true)(hb:pk X.K fd ps ds)(hd:bV dvs ds)(hx:we CX X E)
  (ha:PA X (e::es) t)(hdb:(x==("__debug__" : Str))=false:=by decide) (he:starEach (e::es) X.env=(false,eval e X.env)::starEach es X.env:=by rfl)(hpl:(backTo pos (starEach es X.env)).any (·.1)=false:=by rfl) :
  PE X (.Call (.Name x p) (e::es) [] pos) (JB sp dvs E t):=by
 intro pins s σ H Q I h;refine wpAny_Call_Name_kw (yY I hg hm ?_ hdb);refine PySem.W.callWith_K (h₀:=X.base) I.ok.mod.kin hk (dy (ha pos pins s σ H _ I h) λus s1 ⟨vs,H1,I1,r,q⟩=>⟨I1.kIn,?_⟩) he hpl;exact G8 F hr hb hd hx I1 r q
end
structure ay (N P:List Str)(sc:Scope):Prop where
 kind:sc.kind=.function
 co:sc.isCoroutine=false
 gen:sc.isGenerator=false
 nd:N.Nodup
 pre:N.take P.length=P
 par:∀x∈P,sc.names.lookup x=some .local\/sc.names.lookup x=some .cell
 nofree:∀y∈sc.names,y.2 ≠ .free
theorem qV{kindOf:Str->Option NameKind}{x:Str}:∀{binds:List (Str×Value)}{m:Str->Option Value},(∀v,(x,v)∉binds)->bindL kindOf binds m x=m x
 | [],_,_=>rfl
 | (n,v)::r,m,h=>by
  unfold bindL;rw[qV λw hw=>h w (Yj _ hw)];split
  .have:x≠n:=by rintro rfl;exact h v Yi
   simp[this]
  .rfl
theorem qZ{kindOf:Str->Option NameKind}{x:Str}:∀{binds:List (Str×Value)}{m:Str->Option Value},(∀v,(x,v)∉binds)->bindC kindOf binds m x=m x
 | [],_,_=>rfl
 | (n,v)::r,m,h=>by
  unfold bindC;rw[qZ λw hw=>h w (Yj _ hw)];split
  .rfl
  .have:x≠n:=by rintro rfl;exact h v Yi
   simp[this]
theorem re{kindOf:Str->Option NameKind}{x:Str}{v:Value}:∀{P:List Str}{vs:List Value}{i:Nat}{m:Str->Option Value},P.Nodup->P[i]? = some x->vs[i]? = some v->kindOf x=some .local ->
  bindL kindOf (P.zip vs) m x=some v
 | [],_,_,_,_,h,_,_=>by simp at h
 | _::_,[],_,_,_,_,h,_=>by simp at h
 | p::P,w::vs,0,m,nd,h1,h2,hk=>by
  simp at h1 h2;subst h1;subst h2;show bindL kindOf ((p,w)::P.zip vs) m p=_;unfold bindL;rw[qV λv hv=>(List.nodup_cons.mp nd).1 (List.of_mem_zip hv).1,Yb hk];simp
 | p::P,w::vs,i+1,m,nd,h1,h2,hk=>by
  show bindL kindOf ((p,w)::P.zip vs) m x=_;unfold bindL;exact re (i:=i) (List.nodup_cons.mp nd).2 (by simpa using h1) (by simpa using h2) hk
theorem qU{kindOf:Str->Option NameKind}{x:Str}{v:Value}:∀{P:List Str}{vs:List Value}{i:Nat}{m:Str->Option Value},P.Nodup->P[i]? = some x->vs[i]? = some v->kindOf x≠some .local ->
  bindC kindOf (P.zip vs) m x=some v
 | [],_,_,_,_,h,_,_=>by simp at h
 | _::_,[],_,_,_,_,h,_=>by simp at h
 | p::P,w::vs,0,m,nd,h1,h2,hk=>by
  simp at h1 h2;subst h1;subst h2;show bindC kindOf ((p,w)::P.zip vs) m p=_;unfold bindC;rw[qZ λv hv=>(List.nodup_cons.mp nd).1 (List.of_mem_zip hv).1,Yc hk];simp
 | p::P,w::vs,i+1,m,nd,h1,h2,hk=>by
  show bindC kindOf ((p,w)::P.zip vs) m x=_;unfold bindC;exact qU (i:=i) (List.nodup_cons.mp nd).2 (by simpa using h1) (by simpa using h2) hk
def start(N:List Str)(vs:List V):St:=vs.map some++List.replicate (N.length-vs.length) none
def tH(CX:zK)(P:Program)(w:World)(K:W.Frag)(mg:Str->Option Value)(base:Heap)(N:List Str)(qual:Str)(scope:Scope)(f:Addr)(cd:Value)(A:Around)(outer:List Env)(s:Shared)(H:Hp)(E:XK):Cx where
 prog:=P
 w:=w
 K:=K
 mg:=mg
 base:=base
 A:=A.deeper (envOfC qual scope s.heap.objs.size f cd)
 N:=N
 s₀:=s
 H₀:=H
 env:=envOfC qual scope s.heap.objs.size f cd
 outer:=outer
 stack:=envOfC qual scope s.heap.objs.size f cd::outer
 ex:=[]
 calm:=true
 fn:=λ_=>true
 pn:=[]
 xe:=λe s'=>wpAny (model P w) (A.deeper (envOfC qual scope s.heap.objs.size f cd)) (leaving (envOfC qual scope s.heap.objs.size f cd) e) (λ_ s''=>CX outer H s E e s'') (λe' s''=>CX outer H s E e' s'') s'
theorem vk{sc:Scope}{n:Nat}{x:Str}(h:sc.names.lookup x=some .cell):∃c,(cellsFrom n sc.names []).lookup x=some c:=by
 have q:=PySem.W.cellsFrom_some sc.names n [] (.inl h);exact Option.isSome_iff_exists.mp q
theorem Ai{CX:zK}{P:Program}{w:World}{K:W.Frag}{mg:Str->Option Value}{base:Heap}{N ps:List Str}{qual:Str}{scope:Scope}{f:Addr}{cd:Value}{A:Around}{outer:List Env}{s s1:Shared}{H:Hp}{E:XK}{us:List Value}{vs:List V}
  (S:ay N ps scope)(hd:A.handled=none)(e0:EK P w K mg base A outer s H)(hl:vs.length=ps.length)(r:bV vs us)
  (x:InCallC s s.heap.objs.size (bindL (envOfC qual scope s.heap.objs.size f cd).kindOf (ps.zip us) λ_=>none) (cellsFrom (s.heap.objs.size+1) scope.names []) (bindC (envOfC qual scope s.heap.objs.size f cd).kindOf (ps.zip us) λ_=>none) s1) :
  aU (tH CX P w K mg base N qual scope f cd A outer s H E) [] (start N vs) H s1:=by
 have hpl:ps.length<=N.length:=by have:=Yn List.length S.pre;rw[Yu] at this;nofun
 obtain⟨h1,tk,rfl,hk⟩:=x.done;have noA:∀b:Addr,b∉(tH CX P w K mg base N qual scope f cd A outer s H E).ex:=λb z=>absurd (show b∈([]:List Addr) from z) (by simp)
 refine⟨⟨e0.mod,S.kind,rfl,rfl,Yp _,λy z c h1 h2=>?_,λy hy=>?_,λy c _ h=>?_,λ_=>hd,Around.frames_deeper e0.frames,.inr ⟨rfl,rfl⟩,λb z=>absurd z (noA b),e0.bs,e0.bsz,λb _ _=>noA b,λb z=>absurd z (noA b),e0.funs,e0.frf⟩,
  rfl,e0.bare,Un.kept hk,⟨_,x.toInCall.ns,λi y v h1 h2 h3=>?_⟩,λy c h=>⟨_,x.cell y c h⟩,e0.hok.fresh (Yp _),λy c h=>?_,λp hp=>absurd (show p∈([]:List (Addr×Obj)) from hp) (by simp),e0.hok.kept hk,?_⟩
 .exact name_of_addr x.apart (Yv h1) (Yv h2)
 .have hy:scope.names.lookup y=some .cell\/scope.names.lookup y=some .free:=hy;rcases hy with hy|hy
  .exact vk hy
  .exact absurd rfl (S.nofree _ (Yv hy))
 .exact Yh (x.above y c (Yv h))
 .have hi:i<vs.length:=by
   unfold start at h2;by_cases hi:i<vs.length
   .exact hi
   .rw[Yw (by simpa using hi)] at h2
    rw[Yx] at h2;split at h2<;>cases h2
  have ha:vs[i]? = some v:=by
   unfold start at h2;rw[Yy (by simpa using hi),Yz] at h2
   cases e:vs[i]? with
   | none=>rw[e] at h2;cases h2
   | some a=>rw[e] at h2;cases h2;rfl
  obtain⟨u,hu,rv⟩:=r.get ha;have hp:ps[i]? = some y:=by
   rw[<-S.pre,List.getElem?_take_of_lt ()];exact h1
  have ndP:ps.Nodup:=by rw[<-S.pre];exact S.nd.sublist (List.take_sublist _ _)
  refine⟨u,rv,?_⟩;rcases S.par y (YA hp) with k|k
  .exact .inl ⟨k,re ndP hp hu k⟩
  .obtain⟨c,e⟩:=vk (n:=s.heap.objs.size+1) k;refine .inr ⟨.inl k,c,e,?_⟩;have q:=x.cell y c e;rw[qU ndP hp hu (by show scope.names.lookup y≠_;rw[k];decide)] at q
   exact q
 .exact e0.hok.fresh (Yh (x.above y c (Yv h)))
 .unfold start;show _=N.length;rw[YB,YC,YD];nofun
theorem Jw{CX:zK}{P:Program}{w:World}{K:W.Frag}{mg:Str->Option Value}{base:Heap}{k:Nat}{f:Addr}{name qual:Str}{params:Arguments}{body:List Stmt}{scope:Scope}{dV kV doc pm cdv ct oc:Value}{an od:Option Addr}
  {osl:Array (Option Value)}{N ps:List Str}{sp:Sp}(lk:K.lookup f=some ⟨oc,od,.func (PySem.W.fnOf name qual params body scope dV kV doc pm an cdv ct),osl⟩)(hcd:PySem.W.codeIn K cdv qual=true)(S:ay N ps scope)
  (len:∀vs H Q E,sp vs H Q E->vs.length=ps.length)
  (hbody:∀(A:Around)(outer:List Env)(s:Shared)(H:Hp)(vs:List V)(Q:VK)(E:XK),fW k (A.deeper (envOfC qual scope s.heap.objs.size f cdv))->sp vs H Q E ->
   ∃t,vM (tH CX P w K mg base N qual scope f cdv A outer s H E) body t/\t { nx:=λ_ H'=>Q .non H',rt:=Q } (start N vs) H) :
  bU P w K mg base CX (k+1) f (PySem.W.fnOf name qual params body scope dV kV doc pm an cdv ct) ps sp:=by
 refine⟨len,λA outer s H args us vs Q E hr e0 hb r hsp=>?_⟩;have hl:=len _ _ _ _ hsp;have KX:K.In s.heap:=e0.mod.kin.keeps λb o e=>(e0.bs b o e).1;have lim:s.heap.NoLimit:=e0.mod.nolimit.keeps λb o e=>(e0.bs b o e).1;have hkind:∀y∈ps.zip us,scope.names.lookup y.1=some .local\/(scope.names.lookup y.1=some .cell/\((cellsFrom (s.heap.objs.size+1) scope.names []).lookup y.1).isSome=true):=λ⟨n,v⟩ hy=>by
  rcases S.par n (List.of_mem_zip hy).1 with q|q
  .exact .inl q
  .exact .inr ⟨q,PySem.W.cellsFrom_some _ _ _ (.inl q)⟩
 refine codeAny_call_function hr.depth (KX _ _ lk) rfl S.co S.gen rfl (PySem.W.codeRec_of KX hcd) (hb _ _ _ _ ?_);refine wpAny_newFunctionEnv_cells S.kind hkind λenv he s1 x=>?_;subst he;refine⟨lim.keeps x.toInCall.keep,codeAny_func ?_⟩;obtain⟨t,ht,hq⟩:=hbody A outer s H vs Q E (hr.deeper _) hsp;have I:aU (tH CX P w K mg base N qual scope f cdv A outer s H E) [] (start N vs) H s1:=Ai S hr.hd e0 hl r x;refine wpAny_mono (ht [] s1 (start N vs) H _ I hq) (λfl s' hs=>?_) λe s' hs=>hs;have fin:∀{σ':St}{H':Hp}{v:V}{u:Value},aU (tH CX P w K mg base N qual scope f cdv A outer s H E) [] σ' H' s'->cC v u->Q v H'->CE outer P w H s Q u s' :=
  λ{σ' H' v u} J rv q=>⟨v,H',J.os,J.bare,J.base,J.hok,rv,q⟩
 cases fl with
 | ret u =>
  obtain⟨v,σ',H',J,rv,q⟩:=hs;exact fin J rv q
 | next =>
  obtain⟨σ',H',J,q⟩:=hs;exact fin (v:=V.non) (u:=Value.none) J rfl q
 | brk =>
  obtain⟨_,_,_,q⟩:=hs;exact False.elim q
 | cont =>
  obtain⟨_,_,_,q⟩:=hs;exact False.elim q
section
variable {X:Cx}{x:Str}{p pos:Pos}{e:Expr}{es:List Expr}{t:TA}{id T:String}{r:List V->Hp->VK->Prop}
def DN(r:List V->Hp->VK->Prop)(t:TA):TE:=λσ H Q=>t σ H λvs H1=>r vs H1 Q
theorem Ck(hc:eM X (.builtin id) r)(hg:Gl X x)(hm:X.mg x=none)(hv:bootBuiltins x=some (.builtin id))(ha:PA X (e::es) t)(hn:x ≠ "__name__":=by decide) (hdb:(x==("__debug__" : Str))=false:=by decide)
  (he:starEach (e::es) X.env=(false,eval e X.env)::starEach es X.env:=by rfl)(hpl:(backTo pos (starEach es X.env)).any (·.1)=false:=by rfl):PE X (.Call (.Name x p) (e::es) [] pos) (DN r t):=by
 intro pins s σ H Q I h;refine wpAny_Call_Name_kw (jW I hg hm hv ?_ hn hdb);exact PyProof.Rows.callWith_builtin1 (dy (ha pos pins s σ H _ I h) λus s1 ⟨vs,H1,I1,r1,q1⟩=>hc pins s1 σ H1 vs us Q I1 r1 q1) he hpl
theorem zZ(hc:eM X (.type T) r)(hg:Gl X x)(hm:X.mg x=none)(hv:bootBuiltins x=some (.type T))(ha:PA X (e::es) t)(hn:x ≠ "__name__":=by decide) (hdb:(x==("__debug__" : Str))=false:=by decide)
  (he:starEach (e::es) X.env=(false,eval e X.env)::starEach es X.env:=by rfl)(hpl:(backTo pos (starEach es X.env)).any (·.1)=false:=by rfl):PE X (.Call (.Name x p) (e::es) [] pos) (DN r t):=by
 intro pins s σ H Q I h;refine wpAny_Call_Name_kw (jW I hg hm hv ?_ hn hdb);exact Yq (dy (ha pos pins s σ H _ I h) λus s1 ⟨vs,H1,I1,r1,q1⟩=>hc pins s1 σ H1 vs us Q I1 r1 q1) he hpl
end
end L2
namespace HT
open PySem PyProof.Rows
section
open PySem.SeqAt
open PySem.AutoSeq1 (wpAny_loadPart')
open PySem.MeetsSeq PySem.MeetsSeq2 PySem.MeetsSeq3
end
section
variable {prog:Program}{w:World}{A:Around}{E:Value->Shared->Prop}{s:Shared}
theorem cat_tup{t b:Addr}{vs ws:List Value}{Q:Value->Shared->Prop}(ht:IsTup s.heap t vs.toArray)(hb:IsTup s.heap b ws.toArray)(hv:vs≠[])
  (h1:ws=[]->Q (.ref t) s)(h2:ws≠[]->Q (.ref s.heap.objs.size) { s with heap:=s.heap.push { cls:=.type "tuple",data:=.seq (vs++ws).toArray } })
  (hsz:vs.length+ws.length<=sizeLine):wpAny (model prog w) A (binaryOp .Add (.ref t) (.ref b)) Q E s:=by
 obtain⟨⟨cls,dd,data,sl⟩,ho,hc,n,hd⟩:=id ht;obtain⟨⟨cls2,dd2,data2,sl2⟩,ho2,hc2,n2,hd2⟩:=id hb;simp only at hc hd hc2 hd2;subst hc hd hc2 hd2;have e:vs.toArray++ws.toArray=(vs++ws).toArray:=by simp
 by_cases hw:ws=[]
 .exact concat_meets ⟨_,ho,rfl⟩ ⟨_,ho2,rfl⟩ noFill_tuple_add seq_tuple_add PySem.F.slot_tuple_add PySem.F.entry_tuple_add (PySem.F.args_tuple_add_2 _ _)
   (tuple_addW1 t b vs.toArray ws.toArray n n2 dd dd2 sl sl2 (by simpa using hv) (by simp[hw])) ⟨ho,ho2,h1 hw⟩
 .refine concat_meets ⟨_,ho,rfl⟩ ⟨_,ho2,rfl⟩ noFill_tuple_add seq_tuple_add PySem.F.slot_tuple_add PySem.F.entry_tuple_add (PySem.F.args_tuple_add_2 _ _)
   (tuple_addW2 t b vs.toArray ws.toArray n n2 dd dd2 sl sl2 (by simpa using hv) (by simpa using hw) (by rw[Ys,Ys];exact hsz)) ⟨ho,ho2,?_⟩
  rw[e];exact h2 hw
def sIx(n d:Nat):Option Int->Nat
 | none=>d
 | some v=>if v<0 then (v+(n:Int)).toNat else min v.toNat n
theorem sN(n d k:Nat):sIx n d (some (k:Int))=min k n:=by
 show (if (k:Int)<0 then ((k:Int)+(n:Int)).toNat else min (k:Int).toNat n)=min k n
 rw[Yc (),Int.toNat_natCast]
theorem HN(n d:Nat)(hd:d<=n)(o:Option Int):sIx n d o<=n:=by
 cases o with
 | none=>exact hd
 | some v =>
  show (if v<0 then (v+(n:Int)).toNat else min v.toNat n)<=n
  by_cases hv:v<0
  .rw[Yb hv];nofun
  .rw[Yc hv];exact Nat.min_le_right _ _
theorem xY(v:Int)(n d:Nat):(if v<0 then max (v+(n:Int)) 0 else min v (n:Int))=((sIx n d (some v):Nat):Int):=by
 show (if v<0 then max (v+(n:Int)) 0 else min v (n:Int))=(((if v<0 then (v+(n:Int)).toNat else min v.toNat n):Nat):Int)
 by_cases hv:v<0
 .simp only[Yb hv];nofun
 .simp only[Yc hv];nofun
theorem xy(lo hi:Option Int)(n:Nat):Builtin.Slice.sliceAdjust lo hi 1 (n:Int)=(((sIx n 0 lo:Nat):Int),((sIx n n hi:Nat):Int)):=by
 have h1:¬ ((1:Int)<0):=();unfold Builtin.Slice.sliceAdjust;simp only[h1,if_false];refine Prod.ext ?_ ?_
 .cases lo with
  | none=>rfl
  | some v=>exact xY v n 0
 .cases hi with
  | none=>rfl
  | some v=>exact xY v n n
theorem wt (i j:Nat):Builtin.Slice.slicePlaces (i:Int) (j:Int) 1=j-i:=by
 unfold Builtin.Slice.slicePlaces;have h1:(1:Int) > 0:=();simp only[h1,if_true,Int.ediv_one];split<;>nofun
theorem pG{v:Value}{o:Option Int}{Q:Option Int->Shared->Prop}(p:IsPart v o)(h:Q o s):wpAny (model prog w) A (Builtin.Slice.slicePartIndex v) Q E s:=by
 cases p with
 | none=>exact slicePart_none h
 | int i t=>exact slicePart_int h
theorem m8{sl:Addr}{vl vu:Value}{lo hi:Option Int}{n:Nat}{Q:Int×Int×Nat->Shared->Prop}(hs:s.heap.IsSliceOf sl vl vu .none)(pl:IsPart vl lo)(pu:IsPart vu hi)
  (h:Q (((sIx n 0 lo:Nat):Int),1,sIx n n hi-sIx n 0 lo) s):wpAny (model prog w) A (Builtin.Slice.sliceApplied (.ref sl) (pure (n:Int))) Q E s:=by
 obtain⟨os,hos,hcs,hds⟩:=id hs;unfold Builtin.Slice.sliceApplied Builtin.Slice.sliceFields;refine wpAny_bind (wpAny_bind (wpAny_field hos hds (x:=vl) rfl (wpAny_bind (wpAny_field hos hds (x:=vu) rfl (wpAny_bind (wpAny_field hos hds (x:=.none) rfl (wpAny_pure ?_)))))));refine wpAny_bind (slicePart_none ?_);show wpAny _ _ (if ((1:Int)==0)=true then _ else _) _ _ s
 rw[Yc ∅];refine wpAny_bind (pG pl (wpAny_bind (pG pu (wpAny_bind (wpAny_pure ?_)))));show wpAny _ _ (match Builtin.Slice.sliceAdjust lo hi 1 (n:Int) with|(lo,hi)=>pure (lo,(1:Int),Builtin.Slice.slicePlaces lo hi 1)) _ _ s
 rw[xy lo hi n];show wpAny _ _ (pure (((sIx n 0 lo:Nat):Int),(1:Int),Builtin.Slice.slicePlaces ((sIx n 0 lo:Nat):Int) ((sIx n n hi:Nat):Int) 1)) _ _ s;rw[wt];exact wpAny_pure h
theorem Ax(xs:Array Value)(i k:Nat):((List.range k).filterMap λ(m:Nat)=>xs[((i:Int)+(m:Int)*1).toNat]?).toArray=((xs.toList.drop i).take k).toArray:=by
 have e:(λ(m:Nat)=>xs[((i:Int)+(m:Int)*1).toNat]?)=λm=>xs[i+m]?:=by
  funext m;have:((i:Int)+(m:Int)*1).toNat=i+m:=();rw[this]
 rw[e];have:=pick_run xs i k;rw[List.filterMap_map] at this;have e2:((λx=>xs[x]?) ∘ λx=>i+x)=λm=>xs[i+m]?:=rfl;rw[e2] at this;rw[this]
theorem getItem_tuple_cut{t sl:Addr}{items:Array Value}{vl vu:Value}{lo hi:Option Int}{Q:Value->Shared->Prop}(ht:IsTup s.heap t items)(hs:s.heap.IsSliceOf sl vl vu .none)(pl:IsPart vl lo)(pu:IsPart vu hi)
  (hw:¬ (sIx items.size 0 lo=0/\sIx items.size items.size hi=items.size))
  (h:Q (.ref s.heap.objs.size) { s with heap:=s.heap.push { cls:=.type "tuple",data:=.seq ((items.toList.drop (sIx items.size 0 lo)).take (sIx items.size items.size hi-sIx items.size 0 lo)).toArray } })
  (hsz:items.size<=sizeLine):wpAny (model prog w) A (getItem (.ref t) (.ref sl)) Q E s:=by
 have htake:sizeOk (.seq ((items.toList.drop (sIx items.size 0 lo)).take (sIx items.size items.size hi-sIx items.size 0 lo)).toArray):=by
  show ((items.toList.drop (sIx items.size 0 lo)).take (sIx items.size items.size hi-sIx items.size 0 lo)).toArray.size<=sizeLine;rw[Ys,Yu,YE,Array.length_toList];nofun
 have hj:sIx items.size items.size hi<=items.size:=HN _ _ (Yp _) hi;obtain⟨os,hos,hcs,hds⟩:=id hs;have hTs:s.TypeIs (.ref sl) "slice":=⟨os,hos,hcs⟩;unfold getItem
 try with_reducible refine wpAny_holding ?_
 first|refine wpAny_bind (wpAny_pure ?_)|skip
 refine wpAny_bind (wpAny_sequenceKey ht.typeIs ∅ ?_);refine wpAny_bind (wpAny_callSpecial?_slot (name:=Str.ofString "__getitem__") ht.typeIs PyProof.Rows.slot_tuple_getitem
  (wpAny_call_entry PyProof.Rows.slot_tuple_getitem ht.typeIs entry_tuple_getitem ?_ (args_tuple_getitem _ _)))
 show wpAny _ _ (Builtin.Tuple.tupleItemsOf (.ref t) >>= _) _ _ s;refine wpAny_bind (tupleItemsOf_ ht ?_);refine wpAny_bind (wpAny_typeOf hTs ?_);rw[Yb ∅];refine wpAny_bind (m8 hs pl pu ?_);have hno:¬ ((((sIx items.size 0 lo:Nat):Int)==0 && (1:Int)==1 && (sIx items.size items.size hi-sIx items.size 0 lo)==items.size)=true):=by
  intro q;rw[YF,YF] at q;have q1:((sIx items.size 0 lo:Nat):Int)=0:=eq_of_beq q.1.1;have q2:sIx items.size items.size hi-sIx items.size 0 lo=items.size:=eq_of_beq q.2;exact hw ⟨(),()⟩
 show wpAny _ _ (if (((sIx items.size 0 lo:Nat):Int)==0 && (1:Int)==1 && (sIx items.size items.size hi-sIx items.size 0 lo)==items.size)=true then _ else _) _ _ s
 rw[Yc hno,Ax]
 first
  | exact wpAny_bind (m:=Builtin.Tuple.tupleExact _) (wpAny_newObj_type (wpAny_pure ⟨_,rfl,wpAny_pure h⟩) htake)
  | exact wpAny_bind (m:=Builtin.Tuple.tupleExact _) (wpAny_newObj_type (wpAny_bind (wpAny_pure (wpAny_pure ⟨_,rfl,wpAny_pure h⟩))) htake)
  | exact wpAny_bind (wpAny_bind (m:=Builtin.Tuple.tupleExact _) (wpAny_newObj_type (wpAny_pure (wpAny_pure ⟨_,rfl,wpAny_pure h⟩)) htake))
  | exact wpAny_bind (wpAny_bind (m:=Builtin.Tuple.tupleExact _) (wpAny_newObj_type (wpAny_pure ⟨_,rfl,wpAny_pure h⟩) htake))
end
end HT
namespace L2
open PySem PySem.Spec PyProof.Rows
abbrev TO:=St->Hp->(Option Int->Hp->Prop)->Prop
def PO(X:Cx)(e:Option Expr)(t:TO):Prop :=
 ∀(pins:List (Addr×Obj))(s:Shared)(σ:St)(H:Hp)(Q:Option Int->Hp->Prop),aU X pins σ H s->t σ H Q ->
  wpAny (model X.prog X.w) X.A (evalPart e X.env) (λu s'=>∃o H',aU X pins σ H' s'/\IsPart u o/\Q o H') X.xe s
def sE:TO:=λ_ H Q=>Q none H
def xR(t:TE):TO:=λσ H Q=>t σ H λx H1=>∃i,x=.int i/\Q (some i) H1
section
variable {X:Cx}{e:Expr}{te:TE}{lo hi:Option Expr}{tl th:TO}{pos p2:Pos}
theorem D9:PO X none sE:=by
 intro pins s σ H Q I h;rw[evalPart_none];exact wpAny_pure ⟨none,H,I,.none,h⟩
theorem Fw(h:PE X e te):PO X (some e) (xR te):=by
 intro pins s σ H Q I hw;rw[evalPart_some];refine dy (h pins s σ H _ I hw) λu s1 ⟨x,H1,I1,r1,q1⟩=>?_;obtain⟨i,rfl,q⟩:=q1;obtain⟨t,rfl⟩:=r1;exact⟨some i,H1,I1,.int i t,q⟩
def yl(X:Cx)(r:V->Option Int->Option Int->Hp->VK->Prop):Prop :=
 ∀(pins:List (Addr×Obj))(s:Shared)(σ:St)(H:Hp)(x:V)(v vl vu:Value)(lo hi:Option Int)(sl:Addr)(Q:VK),aU X pins σ H s->cC x v->s.heap.IsSliceOf sl vl vu .none->IsPart vl lo->IsPart vu hi->r x lo hi H Q ->
  ∃T id,typeLookup (.type T) "__getitem__" = pure (some (.builtin id))/\s.TypeIs v T/\wpAny (model X.prog X.w) X.A (getItem v (.ref sl)) (EP X pins σ Q) X.xe s
def Kh(r:V->Option Int->Option Int->Hp->VK->Prop)(te:TE)(tl th:TO):TE:=λσ H Q=>te σ H λx H1=>tl σ H1 λl H2=>th σ H2 λu H3=>r x l u H3 Q
theorem Cd{r:V->Option Int->Option Int->Hp->VK->Prop}(hr:yl X r)(he:PE X e te)(hl:PO X lo tl)(hu:PO X hi th):PE X (.Subscript e (.Slice lo hi none p2) pos) (Kh r te tl th):=by
 intro pins s σ H Q I h;refine Subscript_ (dy (he pins s σ H _ I h) λv s1 ⟨x,H1,I1,r1,q1⟩=>?_);refine wpAny_Slice (dy (hl pins s1 σ H1 _ I1 q1) λvl s2 ⟨l,H2,I2,pl,q2⟩=>dy (hu pins s2 σ H2 _ I2 q2) λvu s3 ⟨u,H3,I3,pu,q3⟩=>?_);rw[evalPart_none];refine wpAny_pure ?_;have I4:aU X pins σ H3 { s3 with heap:=s3.heap.push { cls:=.type "slice",data:=.fields #[vl,vu,.none] } }:=I3.kept (t':=s3.toks) λb ob q=>Heap.get?_push_of_some _ q
 obtain⟨T,id,hT,ht,hg⟩:=hr pins { s3 with heap:=s3.heap.push { cls:=.type "slice",data:=.fields #[vl,vu,.none] } } σ H3 x v vl vu l u s3.heap.objs.size Q I4 r1 (Heap.IsSliceOf.new ..) pl pu q3;show wpAny (model X.prog X.w) X.A (subscriptTail e (.Slice lo hi none p2) v (.ref s3.heap.objs.size)) (EP X pins σ Q) X.xe { s3 with heap:=s3.heap.push { cls:=.type "slice",data:=.fields #[vl,vu,.none] } }
 exact tail_any (ops:=[.ref s3.heap.objs.size,v]) ht hT hg (by with_unfolding_all rfl)
def iU(xs:List V)(lo hi:Option Int):List V:=(xs.drop (HT.sIx xs.length 0 lo)).take (HT.sIx xs.length xs.length hi-HT.sIx xs.length 0 lo)
theorem nI(xs:List V)(lo hi:Option Int):(iU xs lo hi).length<=xs.length:=by
 unfold iU;rw[Yu,YE];nofun
def Ku(K:W.Frag):V->Option Int->Option Int->Hp->VK->Prop:=λx lo hi H Q=>∃a xs,x=.ref a/\rK K H a xs /\
 ¬ (HT.sIx xs.length 0 lo=0/\HT.sIx xs.length xs.length hi=xs.length) /\ ∀p,H p=none->Q (.ref p) (upd H p (.tup (iU xs lo hi)))
theorem GX:yl X (Ku X.K):=by
 intro pins s σ H x v vl vu lo hi sl Q I rx hs pl pu h;obtain⟨a,xs,rfl,hx,hw,q⟩:=h;cases rx;obtain⟨its,r,ht,hz⟩:=I.tuple hx;have hlen:its.toArray.size=xs.length:=by rw[Ys];exact r.length.symm
 refine⟨"tuple",_,PyProof.Rows.slot_tuple_getitem.lookup,ht.typeIs,?_⟩;refine HT.getItem_tuple_cut ht hs pl pu (by rw[hlen];exact hw) ?_ (by rw[hlen];exact hz)
 rw[hlen];refine⟨.ref s.heap.objs.size,_,I.laid (t':=s.toks) (o:=.tup (iU xs lo hi)) (λb ob q=>Heap.get?_push_of_some _ q) (Yp _) ?_,rfl,q _ (I.hok.fresh (Yp _))⟩;exact⟨Yg (nI xs lo hi) hz,_,(r.drop (HT.sIx xs.length 0 lo)).take (HT.sIx xs.length xs.length hi-HT.sIx xs.length 0 lo),IsTup.new _ _⟩
def IY(K:W.Frag):R2:=λx y H Q=>∃a b xs ys,x=.ref a/\y=.ref b/\rK K H a xs/\rK K H b ys/\xs≠[]/\xs.length+ys.length<=sizeLine /\
 (ys=[]->Q (.ref a) H)/\(ys≠[] -> ∀p,H p=none->Q (.ref p) (upd H p (.tup (xs++ys))))
theorem bV.nil_iff{xs:List V}{us:List Value}(r:bV xs us):us=[]↔xs=[]:=by
 cases r with
 | nil=>simp
 | cons _ _=>simp
theorem FB:el X (binaryOp .Add) (IY X.K):=by
 intro pins s σ H x y v u Q I rx ry h;obtain⟨a,b,xs,ys,rfl,rfl,ha,hb,hx,hz,q1,q2⟩:=h;cases rx;cases ry;obtain⟨its,r1,p1,_⟩:=I.tuple ha;obtain⟨its2,r2,p2,_⟩:=I.tuple hb;refine HT.cat_tup p1 p2 (λz=>hx (r1.nil_iff.mp z)) (λz=>⟨.ref a,H,I,rfl,q1 (r2.nil_iff.mp z)⟩) (λz=>?_) (by rw[<-r1.length,<-r2.length];exact hz)
 refine⟨.ref s.heap.objs.size,_,I.laid (t':=s.toks) (o:=.tup (xs++ys)) (λb ob q=>Heap.get?_push_of_some _ q) (Yp _) ?_,rfl,q2 (λw=>z (r2.nil_iff.mpr w)) _ (I.hok.fresh (Yp _))⟩;exact⟨by rw[YB];exact hz,_,r1.append r2,IsTup.new _ _⟩
end
def ww(n:Nat)(i:Int):Option Nat:=if 0<=i then (if i<n then some i.toNat else none) else if -(n:Int)<=i then some (i+n).toNat else none
def nK{α:Type}(xs:List α)(i:Int):Option α:=(ww xs.length i).bind λj=>xs[j]?
theorem yG{n:Nat}{i:Int}{j:Nat}(h:ww n i=some j):seqIndex? i n=some j/\j<n /\ -(n:Int)<=i/\i<n:=by
 unfold ww at h;by_cases h0:0<=i
 .rw[Yb h0] at h;by_cases h1:i<n
  .rw[Yb h1] at h;have e:i.toNat=j:=Ym h;exact⟨by rw[seqIndex_of h0 h1,e],(),(),h1⟩
  .rw[Yc h1] at h;cases h
 .rw[Yc h0] at h;by_cases h1 : -(n:Int)<=i
  .rw[Yb h1] at h;have e:(i+n).toNat=j:=Ym h;exact⟨by rw[seqIndex_neg () h1,e],(),h1,()⟩
  .rw[Yc h1] at h;cases h
theorem tO{α:Type}{xs:List α}{i:Int}{v:α}(h:nK xs i=some v):∃j,seqIndex? i xs.length=some j/\xs[j]? = some v/\j<xs.length /\ -(xs.length:Int)<=i/\i<xs.length:=by
 unfold nK at h;cases e:ww xs.length i with
 | none=>rw[e] at h;cases h
 | some j =>
  rw[e] at h;obtain⟨h1,h2,h3,h4⟩:=yG e;exact⟨j,h1,h,h2,h3,h4⟩
theorem bO{α:Type}{xs:List α}{j:Nat}{v:α}(h:xs[j]? = some v):nK xs (j:Int)=some v:=by
 have hj:j<xs.length:=(List.getElem?_eq_some_iff.mp h).1;have e:ww xs.length (j:Int)=some j:=by
  unfold ww;rw[Yb (),Yb ()];simp
 unfold nK;rw[e];exact h
theorem iT{α:Type}(xs:List α)(v:α):nK (xs++[v]) (-1)=some v:=by
 have hl:(xs++[v]).length=xs.length+1:=by simp
 have e:ww (xs++[v]).length (-1)=some xs.length:=by
  unfold ww;rw[hl,Yc ∅,Yb ()];congr 1
  nofun
 unfold nK;rw[e];show (xs++[v])[xs.length]? = some v;simp
def yy(b:Expr):Prop:=∀o i,subscripted b false o i=operate [o,i] (getItem o i)
def uK(X:Cx)(r:R2):Prop :=
 ∀(value slice:Expr)(pins:List (Addr×Obj))(s:Shared)(σ:St)(H:Hp)(x y:V)(v u:Value)(Q:VK),aU X pins σ H s->cC x v->cC y u->r x y H Q ->
  subscripted slice false v u=operate [v,u] (getItem v u)->wpAny (model X.prog X.w) X.A (subscriptTail value slice v u) (EP X pins σ Q) X.xe s
def J5(X:Cx)(id:String)(r:V->List V->Hp->VK->Prop):Prop :=
 ∀(pins:List (Addr×Obj))(s:Shared)(σ:St)(H:Hp)(x:V)(xs:List V)(v:Value)(us:List Value)(Q:VK),aU X pins σ H s->cC x v->bV xs us->r x xs H Q ->
  wpAny (model X.prog X.w) X.A (call (.builtin id) (v::us)) (EP X pins σ Q) X.xe s
section
variable {X:Cx}{a b:Expr}{ta tb:TE}{pos:Pos}
theorem JC{r:R2}(hr:uK X r)(ha:PE X a ta)(hb:PE X b tb)(hs:yy b):PE X (.Subscript a b pos) (Fk r ta tb):=by
 intro pins s σ H Q I h;exact Subscript_ (G1 ha hb I h λv u s2 x y H2 I2 rx ry q=>hr a b pins s2 σ H2 x y v u Q I2 rx ry q (hs _ _))
def JK(K:W.Frag):R2:=λx y H Q=>∃p xs i v,x=.ref p/\y=.int i/\ke K H p xs/\nK xs i=some v/\Q v H
def JD(K:W.Frag):R2:=λx y H Q=>∃p xs i v,x=.ref p/\y=.int i/\rK K H p xs/\nK xs i=some v/\Q v H
theorem yD:uK X (JK X.K):=by
 intro value slice pins s σ H x y v u Q I rx ry h hs;obtain⟨p,xs,i,z,rfl,rfl,hq,he,q⟩:=h;cases rx;obtain⟨t,rfl⟩:=ry;obtain⟨its,r,pl,hz⟩:=I.list hq;obtain⟨j,h1,h2,h3,h4,h5⟩:=tO he;obtain⟨w,ew,rw'⟩:=r.get h2;have hl:=r.length;have hn:=mD;have fin:EP X pins σ Q w s:=⟨z,H,I,rw',q⟩;by_cases h0:0<=i
 .have hj:i.toNat=j:=by
   rw[seqIndex_of h0 h5] at h1;exact Ym h1
  exact item_listR pl.isList h0 () (by rw[hj];simpa using ew) fin hs
 .have hj:(i+(its.toArray.size:Int)).toNat=j:=by
   rw[seqIndex_neg () h4] at h1;rw[Ys,<-hl];exact Ym h1
  exact subscriptTail_builtinR (x:=w) pl.isList.typeIs slot_list_getitem.lookup
   (wpAny_getItem_list_neg (Q:=λr s'=>r=w/\EP X pins σ Q r s') pl.isList () (by rw[Ys]<;>nofun) () (by rw[hj];simpa using ew) ⟨rfl,fin⟩) hs
theorem HD:uK X (JD X.K):=by
 intro value slice pins s σ H x y v u Q I rx ry h hs;obtain⟨p,xs,i,z,rfl,rfl,hq,he,q⟩:=h;cases rx;obtain⟨t,rfl⟩:=ry;obtain⟨its,r,pl,hz⟩:=I.tuple hq;obtain⟨j,h1,h2,h3,h4,h5⟩:=tO he;obtain⟨w,ew,rw'⟩:=r.get h2;have hl:=r.length;have hn:=mD;have fin:EP X pins σ Q w s:=⟨z,H,I,rw',q⟩;exact subscriptTail_builtinR (x:=w) pl.typeIs slot_tuple_getitem.lookup
  (getItem_tuple (j:=j) (Q:=λr s'=>r=w/\EP X pins σ Q r s') pl () () (by rw[Ys,<-hl];exact h1) (by simpa using ew) ⟨rfl,fin⟩) hs
theorem wQ(its:List Value)(n j:Nat)(u:Value):Obj.mapSeq (·.setIfInBounds j u) { cls:=.type "list",data:=.seq its.toArray n } = { cls:=.type "list",data:=.seq (its.set j u).toArray n }:=by
 simp[Obj.mapSeq]
theorem aU.lst{pins:List (Addr×Obj)}{σ:St}{H:Hp}{s:Shared}{p:Addr}{xs:List V}(I:aU X pins σ H s)(h:H p=some (.lst xs)) :
  ∃(its:List Value)(n:Nat),bV xs its/\s.heap.get? p=some { cls:=.type "list",data:=.seq its.toArray n } /\ xs.length<=sizeLine:=by
 obtain⟨z,its,n,r,e⟩:=I.hok p _ h;exact⟨its,n,r,e,z⟩
theorem aU.lstUpd{pins:List (Addr×Obj)}{σ:St}{H:Hp}{s:Shared}{p:Addr}{xs ys:List V}{its its':List Value}{n n':Nat}{f:Obj->Obj}(I:aU X pins σ H s)(h:H p=some (.lst xs))
  (ho:s.heap.get? p=some { cls:=.type "list",data:=.seq its.toArray n }) (hf:f { cls:=.type "list",data:=.seq its.toArray n } = { cls:=.type "list",data:=.seq its'.toArray n' }) (r:bV ys its')(hz:ys.length<=sizeLine)(t:Nat) :
  aU X pins σ (upd H p (.lst ys)) { s with heap:=s.heap.update p f,toks:=t }:=by
 have e:(s.heap.update p f).get? p=some { cls:=.type "list",data:=.seq its'.toArray n' }:=by
  rw[Heap.get?_update_self f ho (by rw[hf]<;>rfl),hf]
 refine I.write (x:=p) (e:=p) (by rw[h];trivial) (.inl rfl) (λb u hb q=>(Heap.get?_update_other _ _ (Yk hb)).trans q) ⟨_,e⟩ ?_
 exact⟨hz,its',n',r,e⟩
def IZ:V->V->V->Hp->(Hp->Prop)->Prop:=λo i v H Q=>∃p xs k j,o=.ref p/\i=.int k/\H p=some (.lst xs)/\ww xs.length k=some j/\Q (upd H p (.lst (xs.set j v)))
theorem Ay:Am X IZ:=by
 intro pins s σ H o i v ov iv u Q I ro ri rv h;obtain⟨p,xs,k,j,rfl,rfl,hp,hj,q⟩:=h;cases ro;obtain⟨t,rfl⟩:=ri;obtain⟨its,n,r,ho,hz⟩:=I.lst hp;obtain⟨h1,h2,h3,h4⟩:=yG hj;have hl:=r.length;have hn:=mD;have I':aU X pins σ (upd H p (.lst (xs.set j v))) { s with heap:=s.heap.update p (Obj.mapSeq (·.setIfInBounds j u)) } :=
  I.lstUpd hp ho (wQ its n j u) (r.set rv j) (by rw[YG];exact hz) s.toks
 by_cases h0:0<=k
 .have hk:k.toNat=j:=by
   rw[seqIndex_of h0 h4] at h1;exact Ym h1
  exact PySem.W.ki_setAt ho h0 () (by rw[Ys,<-hl];exact h4) (by rw[hk];exact⟨_,I',q⟩)
 .have hk:(k+(its.toArray.size:Int)).toNat=j:=by
   rw[seqIndex_neg () h3] at h1;rw[Ys,<-hl];exact Ym h1
  exact PySem.W.ki_setBack ho () (by rw[Ys,<-hl];exact h3) () (by rw[hk];exact⟨_,I',q⟩)
theorem sP(lo hi:Option Int)(n:Nat):(sliceBounds lo hi none n).1=((HT.sIx n 0 lo:Nat):Int)/\(sliceBounds lo hi none n).2.1=((HT.sIx n n hi:Nat):Int)/\(sliceBounds lo hi none n).2.2=1:=by
 refine⟨?_,?_,rfl⟩
 .cases lo with
  | none=>simp[sliceBounds,HT.sIx]
  | some i =>
   simp only[sliceBounds,HT.sIx,Option.getD_none,show (1:Int) > 0 by decide,if_true]
   by_cases h:i<0
   .simp only[h,if_true]<;>nofun
   .simp only[h,if_false]<;>nofun
 .cases hi with
  | none=>simp[sliceBounds,HT.sIx]
  | some i =>
   simp only[sliceBounds,HT.sIx,Option.getD_none,show (1:Int) > 0 by decide,if_true]
   by_cases h:i<0
   .simp only[h,if_true]<;>nofun
   .simp only[h,if_false]<;>nofun
theorem qF(its:List Value)(lo hi:Option Int):slicePick its.toArray lo hi none=((its.drop (HT.sIx its.length 0 lo)).take (HT.sIx its.length its.length hi-HT.sIx its.length 0 lo)).toArray:=by
 obtain⟨h1,h2,h3⟩:=sP lo hi its.toArray.size;unfold slicePick;rw[h1,h2,h3];simp only[sliceRange_one,pick_run,Ys]<;>rfl
def Kq(K:W.Frag):V->Option Int->Option Int->Hp->VK->Prop:=λx lo hi H Q=>∃a xs,x=.ref a/\ke K H a xs /\ ∀p,H p=none->Q (.ref p) (upd H p (.lst (iU xs lo hi)))
theorem DU:yl X (Kq X.K):=by
 intro pins s σ H x v vl vu lo hi sl Q I rx hs pl pu h;obtain⟨a,xs,rfl,hx,q⟩:=h;cases rx;obtain⟨its,r,ht,hz⟩:=I.list hx;have hlen:=r.length;refine⟨"list",_,slot_list_getitem.lookup,ht.isList.typeIs,?_⟩;refine wpAny_getItem_list_slice ht.isList hs pl pu .none (by simp) ?_ (by rw[Ys]<;>nofun)
 rw[qF,<-hlen];refine⟨.ref s.heap.objs.size,_,I.laid (t':=s.toks) (o:=.lst (iU xs lo hi)) (λb ob q=>Heap.get?_push_of_some _ q) (Yp _) ?_,rfl,q _ (I.hok.fresh (Yp _))⟩;exact⟨Yg (nI xs lo hi) hz,_,0,(r.drop (HT.sIx xs.length 0 lo)).take (HT.sIx xs.length xs.length hi-HT.sIx xs.length 0 lo),Heap.get?_push_size _ rfl⟩
def nv:V->Bool
 | .non=>true
 | .bl _=>true
 | .int _=>true
 | .str _=>true
 | _=>false
def DX:V->V->Bool
 | .non,.non=>true
 | .bl a,.bl b=>a==b
 | .bl a,.int b=>(if a then 1 else 0)==b
 | .int a,.bl b=>a==(if b then 1 else 0)
 | .int a,.int b=>a==b
 | .str a,.str b=>a==b
 | _,_=>false
theorem GH{A:Around}{s:Shared}{y x:V}{u v:Value}(ry:cC y u)(rx:cC x v)(fy:nv y=true)(fx:nv x=true):SeqAt.EqAt A s u v (DX y x):=by
 cases y with
 | non =>
  cases ry;cases x with
  | non=>cases rx;exact SeqAt.EqAt.same _
  | bl b=>cases rx;exact SeqAt.EqAt.none_bool b
  | int b=>obtain⟨t,rfl⟩:=rx;exact SeqAt.EqAt.none_int b t
  | str b=>obtain⟨t,rfl⟩:=rx;exact SeqAt.EqAt.none_str b t
  | _=>exact absurd (show false=true from fx) Yo
 | bl a =>
  cases ry;cases x with
  | non=>cases rx;exact SeqAt.EqAt.bool_none a
  | bl b=>cases rx;exact SeqAt.EqAt.bool_bool a b
  | int b=>obtain⟨t,rfl⟩:=rx;exact SeqAt.EqAt.bool_int a b t
  | str b=>obtain⟨t,rfl⟩:=rx;exact SeqAt.EqAt.bool_str a b t
  | _=>exact absurd (show false=true from fx) Yo
 | int a =>
  obtain⟨t',rfl⟩:=ry;cases x with
  | non=>cases rx;exact SeqAt.EqAt.int_none a t'
  | bl b=>cases rx;exact SeqAt.EqAt.int_bool a t' b
  | int b=>obtain⟨t,rfl⟩:=rx;exact SeqAt.EqAt.int_int a t' b t
  | str b=>obtain⟨t,rfl⟩:=rx;exact SeqAt.EqAt.int_str a t' b t
  | _=>exact absurd (show false=true from fx) Yo
 | str a =>
  obtain⟨t',rfl⟩:=ry;cases x with
  | non=>cases rx;exact SeqAt.EqAt.str_none a t'
  | bl b=>cases rx;exact SeqAt.EqAt.str_bool a t' b
  | int b=>obtain⟨t,rfl⟩:=rx;exact SeqAt.EqAt.str_int a t' b t
  | str b=>obtain⟨t,rfl⟩:=rx;exact SeqAt.EqAt.str_str a t' b t
  | _=>exact absurd (show false=true from fx) Yo
 | _=>exact absurd (show false=true from fy) Yo
def Ea(x:V)(u:Value):Bool:=match u with
 | .none=>DX .non x
 | .bool b=>DX (.bl b) x
 | .int i _=>DX (.int i) x
 | .str z _=>DX (.str z) x
 | _=>false
theorem CJ{x y:V}{u:Value}(r:cC y u)(f:nv y=true):Ea x u=DX y x:=by
 cases y with
 | non=>cases r;rfl
 | bl b=>cases r;rfl
 | int i=>obtain⟨t,rfl⟩:=r;rfl
 | str z=>obtain⟨t,rfl⟩:=r;rfl
 | _=>exact absurd (show false=true from f) Yo
theorem sG{x:V}:∀{xs:List V}{us:List Value},bV xs us->xs.all nv=true->us.any (Ea x)=xs.any λy=>DX y x
 | _,_,.nil,_=>rfl
 | y::xs,u::us,.cons r t,f=>by
  rw[List.all_cons,YF] at f;rw[List.any_cons,List.any_cons,CJ r f.1,sG t f.2]
theorem qe{A:Around}{s:Shared}{x:V}{v:Value}(rx:cC x v)(fx:nv x=true):∀{xs:List V}{us:List Value},bV xs us->xs.all nv=true -> ∀u∈us,SeqAt.EqAt A s u v (Ea x u)
 | _,_,.nil,_=>λu hu=>by cases hu
 | y::xs,u::us,.cons r t,f=>λu' hu=>by
  rw[List.all_cons,YF] at f;rcases Y0.mp hu with rfl|hu
  .rw[CJ r f.1];exact GH r rx f.1 fx
  .exact qe rx fx t f.2 u' hu
def FJ(x:V)(xs:List V):Bool:=xs.any λy=>DX y x
def K7(K:W.Frag)(neg:Bool):R2:=λx y H Q=>∃p xs,y=.ref p/\(ke K H p xs\/rK K H p xs)/\nv x=true/\xs.all nv=true/\Q (.bl (if neg then !FJ x xs else FJ x xs)) H
theorem jr:el X (compareOp .NotIn) (K7 X.K true):=by
 intro pins s σ H x y v u Q I rx ry h;obtain⟨p,xs,rfl,hq,fx,fs,q⟩:=h;cases ry;rcases hq with hq|hq
 .obtain⟨its,r,pl,hz⟩:=I.list hq;refine SeqAt.notIn_listAt (Ea x) pl.isList (λw hw=>qe rx fx r fs w (by simpa using hw)) ⟨.bl _,H,I,rfl,?_⟩
  rw[show its.toArray.any (Ea x)=its.any (Ea x) by simp,sG r fs]
  exact q
 .obtain⟨its,r,pl,hz⟩:=I.tuple hq;refine SeqAt.notIn_tupleAt (Ea x) pl (λw hw=>qe rx fx r fs w (by simpa using hw)) ⟨.bl _,H,I,rfl,?_⟩
  rw[show its.toArray.any (Ea x)=its.any (Ea x) by simp,sG r fs]
  exact q
theorem jg:eM X (.builtin "len") (λxs H Q=>∃p ys,xs=[.ref p]/\(ke X.K H p ys\/rK X.K H p ys)/\Q (.int ys.length) H):=by
 intro pins s σ H xs us Q I r h;obtain⟨p,ys,rfl,hq,q⟩:=h;obtain⟨u,rfl,rx⟩:=AE r;cases rx;have hn:=mD;rcases hq with hq|hq
 .obtain⟨its,r',pl,hz⟩:=I.list hq;have hlen:=r'.length;exact Calls.call_len_list pl.isList (by simp only[Ys]<;>nofun) ⟨.int ys.length,H,I.tok _,⟨s.toks+1,by rw[Ys,hlen]⟩,q⟩
 .obtain⟨its,r',pl,hz⟩:=I.tuple hq;have hlen:=r'.length;exact len_tuple pl (by simp only[Ys]<;>nofun) ⟨.int ys.length,H,I.tok _,⟨s.toks+1,by rw[Ys,hlen]⟩,q⟩
theorem sY:eM X (.type "list") (λxs H Q=>∃p ys,xs=[.ref p]/\(ke X.K H p ys\/rK X.K H p ys) /\ ∀l,H l=none->Q (.ref l) (upd H l (.lst ys))):=by
 intro pins s σ H xs us Q I r h;obtain⟨p,ys,rfl,hq,q⟩:=h;obtain⟨u,rfl,rx⟩:=AE r;cases rx;have fin:∀(its:List Value),bV ys its->ys.length<=sizeLine -> ∀(h':Heap)(c':Nat),(∀b o',s.heap.get? b=some o'->h'.get? b=some o') ->
   h'.get? s.heap.objs.size=some { cls:=.type "list",dict:=none,data:=.seq its.toArray c',slots:=#[] } -> EP X pins σ Q (.ref s.heap.objs.size) { s with heap:=h' }:=λits r' hz h' c' kp e =>
  ⟨.ref s.heap.objs.size,_,I.laid (t':=s.toks) kp (Yp _) (show dZ X.prog X.w _ h' _ (.lst ys) from ⟨hz,its,c',r',e⟩),rfl,q _ (I.hok.fresh (Yp _))⟩
 rcases hq with hq|hq
 .obtain⟨its,r',pl,hz⟩:=I.list hq;have hlen:=r'.length;obtain⟨o,ho,hc,n,hd⟩:=pl.isList;exact call_list_seq p (.inl rfl) ho hc hd (λh' c' kp e=>fin its r' hz h' c' kp e) (by simp only[Ys]<;>nofun)
 .obtain⟨its,r',pl,hz⟩:=I.tuple hq;have hlen:=r'.length;obtain⟨o,ho,hc,n,hd⟩:=pl;exact call_list_seq p (.inr rfl) ho hc hd (λh' c' kp e=>fin its r' hz h' c' kp e) (by simp only[Ys]<;>nofun)
def IE(K:W.Frag)(T:String)(x:V)(H:Hp):Prop:=match x with
 | .str _=>T = "str"
 | .int _=>T = "int"
 | .ref p=>(T = "list" /\ ∃xs,ke K H p xs)\/(T = "tuple" /\ ∃o,K.lookup p=some o/\o.cls=.type "tuple" /\ o.dict=none) \/
   (T = "dict" /\ ((∃kvs,H p=some (.dK kvs)) \/ ∃kvs,H p=some (.dT kvs)))\/(T = "set" /\ ∃S n,H p=some (.set S n))
 | _=>False
theorem CA{pins:List (Addr×Obj)}{σ:St}{H:Hp}{s:Shared}{T:String}{x:V}{v:Value}(I:aU X pins σ H s)(r:cC x v)(ty:IE X.K T x H) :
  s.TypeIs v T /\ ∀a,v=.ref a -> ∃ob,s.heap.get? a=some ob/\ob.dict=none:=by
 cases x with
 | str z =>
  obtain⟨t,rfl⟩:=r;cases (show T = "str" from ty)
  exact⟨typeIs_str s z t,λ_ e=>nomatch e⟩
 | int i =>
  obtain⟨t,rfl⟩:=r;cases (show T = "int" from ty)
  exact⟨typeIs_int s i t,λ_ e=>nomatch e⟩
 | ref p =>
  cases r;rcases ty with ⟨rfl,xs,hq⟩|⟨rfl,o,hk,hc,hd⟩|⟨rfl,hk⟩|⟨rfl,S,n,hk⟩
  .obtain⟨its,_,pl,_⟩:=I.list hq;refine⟨pl.isList.typeIs,λa e=>?_⟩;cases e;obtain⟨o,n,e,c,hd,_⟩:=pl;exact⟨o,e,hd⟩
  .refine⟨⟨o,I.kIn p o hk,hc⟩,λa e=>?_⟩;cases e;exact⟨o,I.kIn _ o hk,hd⟩
  .have z:∃o,s.heap.get? p=some o/\o.ExactDict:=by
    rcases hk with ⟨kvs,hk⟩|⟨kvs,hk⟩
    .obtain⟨_,_,_,_,o,_,_,e,ex,_⟩:=I.hok p _ hk;exact⟨o,e,ex⟩
    .obtain⟨_,_,_,_,o,_,_,e,ex,_⟩:=I.hok p _ hk;exact⟨o,e,ex⟩
   obtain⟨o,e,ex⟩:=z;refine⟨⟨o,e,ex.1⟩,λa e2=>?_⟩;cases e2;exact⟨o,e,ex.2.1⟩
  .obtain⟨o,_,_,_,e,ex,_⟩:=I.hok p _ hk;refine⟨⟨o,e,ex.1⟩,λa e2=>?_⟩;cases e2;exact⟨o,e,ex.2.1⟩
 | _=>exact False.elim ty
def Gk(K:W.Frag)(T:String)(r:V->List V->Hp->VK->Prop)(to:TE):TE:=λσ H Q=>to σ H λx H1=>IE K T x H1/\r x [] H1 Q
def Ka(K:W.Frag)(T:String)(r:V->List V->Hp->VK->Prop)(to:TE)(t:TA):TE:=λσ H Q=>to σ H λx H1=>IE K T x H1/\t σ H1 λxs H2=>r x xs H2 Q
variable {o e:Expr}{es:List Expr}{to:TE}{t:TA}{name:Str}{apos cpos:Pos}{T id:String}{r:V->List V->Hp->VK->Prop}
theorem GN(pa:PlainAttrs T)(slot:Slot T name id)(hty:typeOf (.builtin id)=pure (.type "method_descriptor")) (hm:J5 X id r)(ho:PE X o to)
  (hbase:attributeBase o name X.env (eval o X.env)=eval o X.env:=by rfl)(hline:(apos.endLine==cpos.line)=true:=by rfl):PE X (.Call (.Attribute o name apos) [] [] cpos) (Gk X.K T r to):=by
 intro pins s σ H Q I h;refine wpAny_Call_method0_late hbase hline (dy (ho pins s σ H _ I h) λv s1 ⟨x,H1,I1,r1,ty,q1⟩=>?_);obtain⟨h1,h2⟩:=CA I1 r1 ty;exact⟨T,id,pa,slot,hty,h1,h2,Calls.callWith_builtin rfl (PySem.evalArgs_none (hm pins s1 σ H1 x [] v [] Q I1 r1 .nil q1))⟩
theorem Jl(pa:PlainAttrs T)(slot:Slot T name id)(hty:typeOf (.builtin id)=pure (.type "method_descriptor")) (hm:J5 X id r)(ho:PE X o to)(ha:PA X (e::es) t)
  (hbase:attributeBase o name X.env (eval o X.env)=eval o X.env:=by rfl)
  (hfew:((backTo cpos (starEach (e::es) X.env)).all (λx=>!x.1) && (backToKw cpos (keywordEach [] X.env)).all (λx=>x.1.isSome)
   && decide ((e::es).length+([]:List Keyword).length+(if ([]:List Keyword).isEmpty then 0 else 1)<30))=true:=by rfl)
  (hline:(apos.endLine==cpos.line)=true:=by rfl)(hs:starEach (e::es) X.env=(false,eval e X.env)::starEach es X.env:=by rfl)(hplain:(backTo cpos (starEach es X.env)).any (·.1)=false:=by rfl) :
  PE X (.Call (.Attribute o name apos) (e::es) [] cpos) (Ka X.K T r to t):=by
 intro pins s σ H Q I h;refine wpAny_Call_method_late hbase hfew hline rfl (dy (ho pins s σ H _ I h) λv s1 ⟨x,H1,I1,r1,ty,q1⟩=>?_);obtain⟨h1,h2⟩:=CA I1 r1 ty;refine⟨T,id,pa,slot,hty,h1,h2,?_⟩;have hA:=ha cpos pins s1 σ H1 _ I1 q1;rw[hs] at hA ⊢;refine Calls.callWith_builtin (by show (false || (backTo cpos (starEach es X.env)).any (·.1))=false;rw[hplain]<;>rfl) (Calls.evalArgs_plain ?_)
 exact dy hA λus s2 ⟨vs,H2,I2,r2,q2⟩=>hm pins s2 σ H2 x vs v us Q I2 r1 r2 q2
end
def IC(X:Cx)(id:String)(r:V->List V->Hp->VK->Prop):Prop :=
 ∀(pins:List (Addr×Obj))(s:Shared)(σ:St)(H:Hp)(x:V)(xs:List V)(v:Value)(us:List Value)(Q:VK),aU X pins σ H s->cC x v->bV xs us->r x xs H Q ->
  wpAny (model X.prog X.w) X.A (call (.builtin id) (v::us)) (EP X pins σ Q) X.xe s
theorem bV.one:∀{x:V}{us:List Value},bV [x] us -> ∃u,us=[u]/\cC x u
 | _,_,.cons r .nil=>⟨_,rfl,r⟩
theorem bV.zero:∀{us:List Value},bV [] us->us=[]
 | _,.nil=>rfl
theorem bV.dropLast{xs:List V}{us:List Value}(h:bV xs us):bV xs.dropLast us.dropLast:=by
 induction h with
 | nil=>exact .nil
 | cons r t ih =>
  cases t with
  | nil=>exact .nil
  | cons q t'=>exact .cons r ih
theorem bV.rep{xs:List V}{us:List Value}(h:bV xs us):∀k:Nat,bV (List.replicate k xs).flatten (List.replicate k us).flatten
 | 0=>.nil
 | k+1=>by
  rw[YH,YH,List.flatten_cons,List.flatten_cons];exact bV.append h (bV.rep h k)
theorem wS{α:Type}(l:List α):l.eraseIdx (l.length-1)=l.dropLast:=by
 induction l with
 | nil=>rfl
 | cons a r ih =>
  cases r with
  | nil=>rfl
  | cons b r =>
   have e:(a::b::r).length-1=((b::r).length-1)+1:=by
    have h1:(a::b::r).length=r.length+2:=rfl;have h2:(b::r).length=r.length+1:=rfl;nofun
   rw[e,List.eraseIdx_cons_succ,ih]
   all_goals rfl
theorem rC(its:List Value):∀(k:Nat)(acc:List Value),
  List.foldl (λx1 x2=>x1++x2) acc.toArray (List.replicate k its.toArray)=(acc++(List.replicate k its).flatten).toArray
 | 0,acc=>by simp
 | k+1,acc=>by
  have e:acc.toArray++its.toArray=(acc++its).toArray:=by simp
  have e2:(acc++its)++(List.replicate k its).flatten=acc++(List.replicate (k+1) its).flatten:=by
   rw[YH,List.flatten_cons,YI]
  rw[<-e2,<-rC its k (acc++its),<-e,YH,List.foldl_cons]
section
variable {X:Cx}{pins:List (Addr×Obj)}{σ:St}{H:Hp}{s:Shared}{l b:Addr}{xs ys zs:List V}
theorem aU.lset{its its':List Value}{n:Nat}{f:Array Value->Array Value}{t':Nat}(I:aU X pins σ H s)(hH:H l=some (.lst xs))
  (e:s.heap.get? l=some { cls:=.type "list",data:=.seq its.toArray n }) (hf:f its.toArray=its'.toArray)(hv:bV ys its')(hz:ys.length<=sizeLine) :
  aU X pins σ (upd H l (.lst ys)) { s with heap:=s.heap.update l (Obj.mapSeq f),toks:=t' }:=by
 have q:=PySem.IsL.update e f;rw[hf] at q;refine I.write (x:=l) (e:=l) (by rw[hH];exact trivial) (.inl rfl) (λb' u hb hu=>(Heap.get?_update_other s.heap (Obj.mapSeq f) (Yk hb)).trans hu) ⟨_,q⟩ ?_
 exact⟨hz,its',_,hv,q⟩
theorem aU.lnew{its:List Value}{t':Nat}(I:aU X pins σ H s)(hv:bV ys its)(hz:ys.length<=sizeLine) :
  aU X pins σ (upd H s.heap.objs.size (.lst ys)) { s with heap:=s.heap.push { cls:=.type "list",data:=.seq its.toArray },toks:=t' } :=
 I.laid (λ_ _ q=>Heap.get?_push_of_some _ q) (Yp _) ⟨hz,its,0,hv,Heap.get?_push_size _ rfl⟩
theorem aU.fresh(I:aU X pins σ H s):H s.heap.objs.size=none:=I.hok.fresh (Yp _)
theorem aU.lstM(I:aU X pins σ H s)(hH:H l=some (.lst xs)):xs.length<=sizeLine /\ ∃(its:List Value)(n:Nat),bV xs its/\xs.length=its.length/\s.heap.get? l=some { cls:=.type "list",data:=.seq its.toArray n }:=by
 obtain⟨z,its,n,r,e⟩:=I.hok l _ hH;exact⟨z,its,n,r,r.length,e⟩
theorem Cm{n:Nat}(h:n<=sizeLine):Builtin.List.listTooLong n=false:=by
 unfold Builtin.List.listTooLong;exact Ya ()
end
section
variable {X:Cx}
def E3:V->List V->Hp->VK->Prop:=λx vs H Q=>∃l xs y,x=.ref l/\vs=[y]/\H l=some (.lst xs)/\xs.length<sizeLine/\Q .non (upd H l (.lst (xs++[y])))
theorem rg:IC X "list.append" E3:=by
 intro pins s σ H x vs v us Q I rx rv h;obtain⟨l,xs,y,rfl,rfl,hH,hz,q⟩:=h;cases rx;obtain⟨u,rfl,ru⟩:=rv.one;obtain⟨z,its,n,r,hl,e⟩:=I.lstM hH;refine call_meets F.slot_list_append ⟨_,e,rfl⟩ F.entry_list_append (F.args_list_append_2 _ _) (PySem.list_append l its.toArray n u (by rw[Ys];nofun)) ⟨e,?_⟩
 refine⟨.non,_,I.lset (its':=its++[u]) hH e (by simp) (r.append (.cons ru .nil)) ?_,rfl,q⟩
 rw[YB,YJ];nofun
def Kx:V->List V->Hp->VK->Prop:=λx vs H Q=>∃l xs y,x=.ref l/\vs=[]/\H l=some (.lst xs)/\xs[xs.length-1]? = some y/\Q y (upd H l (.lst xs.dropLast))
theorem Gr:IC X "list.pop" Kx:=by
 intro pins s σ H x vs v us Q I rx rv h;obtain⟨l,xs,y,rfl,rfl,hH,hy,q⟩:=h;cases rx;have hus:=rv.zero;subst hus;obtain⟨z,its,n,r,hl,e⟩:=I.lstM hH;obtain⟨u,hu,ru⟩:=r.get hy;have hy':its.toArray[its.toArray.size-1]? = some u:=by
  show its.toArray[its.length-1]? = some u;rw[<-Array.getElem?_toList,<-hl];exact hu
 refine call_meets F.slot_list_pop ⟨_,e,rfl⟩ F.entry_list_pop (F.args_list_pop_1 _) (MeetsSeq.list_pop_last l its.toArray n u hy' (by rw[Ys];nofun)) ⟨e,?_⟩
 refine⟨y,_,I.lset (its':=its.dropLast) hH e ?_ r.dropLast ?_,ru,q⟩
 .show its.toArray.eraseIdxIfInBounds (its.toArray.size-1)=its.dropLast.toArray;rw[Ys,List.eraseIdxIfInBounds_toArray,wS]
 .rw[List.length_dropLast];nofun
def HC:V->List V->Hp->VK->Prop:=λx vs H Q=>∃l xs,x=.ref l/\vs=[]/\H l=some (.lst xs)/\Q .non (upd H l (.lst []))
theorem CD:IC X "list.clear" HC:=by
 intro pins s σ H x vs v us Q I rx rv h;obtain⟨l,xs,rfl,rfl,hH,q⟩:=h;cases rx;have hus:=rv.zero;subst hus;obtain⟨z,its,n,r,hl,e⟩:=I.lstM hH;refine call_meets F.slot_list_clear ⟨_,e,rfl⟩ F.entry_list_clear (F.args_list_clear_1 _) (AutoSeq1.list_clear_list_0 l its.toArray n (by rw[Ys];nofun)) ⟨e,?_⟩
 exact⟨.non,_,I.lset (its':=[]) (ys:=[]) hH e rfl .nil (YK _),rfl,q⟩
def Kc:R2:=λx y H Q=>∃l b xs zs,x=.ref l/\y=.ref b/\H l=some (.lst xs)/\H b=some (.lst zs)/\xs.length+zs.length<=sizeLine /\ ∀p,H p=none->Q (.ref p) (upd H p (.lst (xs++zs)))
theorem Gx:el X (binaryOp .Add) Kc:=by
 intro pins s σ H x y v u Q I rx ry h;obtain⟨l,b,xs,zs,rfl,rfl,hH,hB,hz,q⟩:=h;cases rx;cases ry;obtain⟨z,its,n,r,hl,e⟩:=I.lstM hH;obtain⟨z2,its2,n2,r2,hl2,e2⟩:=I.lstM hB;refine PySem.P.add_list e e2 ?_ (by rw[Ys,Ys];nofun)
 have ea:its.toArray++its2.toArray=(its++its2).toArray:=by simp
 rw[ea];exact⟨.ref _,_,I.lnew (t':=s.toks) (r.append r2) (by rw[YB];nofun),rfl,q _ I.fresh⟩
def Kg:R2:=λx y H Q=>∃l k xs,x=.ref l/\y=.int k/\H l=some (.lst xs) /\ -(2^63)<=k/\k<2^63/\xs.length*k.toNat<=sizeLine /\
 ∀p,H p=none->Q (.ref p) (upd H p (.lst (List.replicate k.toNat xs).flatten))
theorem En{α:Type}(xs:List α)(k:Nat):(List.replicate k xs).flatten.length=k*xs.length:=by
 induction k with
 | zero=>simp
 | succ k ih=>rw[YH,List.flatten_cons,YB,ih,Nat.succ_mul,YL]
theorem G5:el X (binaryOp .Mult) Kg:=by
 intro pins s σ H x y v u Q I rx ry h;obtain⟨l,k,xs,rfl,rfl,hH,h1,h2,hz,q⟩:=h;cases rx;obtain⟨t,rfl⟩:=ry;obtain⟨z,its,n,r,hl,e⟩:=I.lstM hH;have hlen:its.toArray.size*k.toNat<=sizeLine:=by rw[Ys,<-hl];exact hz
 have hcap:¬ its.toArray.size*k.toNat > (2^63-1)/8:=by
  have:(sizeLine:Nat)<=(2^63-1)/8:=∅;nofun
 have hfit:¬ (!Builtin.List.listFitsIndex k)=true:=by
  rw[fitsIndex_both h1 h2];exact Yo
 have hlong:¬ Builtin.List.listTooLong (its.toArray.size*k.toNat)=true:=by
  rw[Cm hlen];exact Yo
 have hnew:List.foldl (λx1 x2=>x1++x2) #[] (List.replicate (if its.toArray.isEmpty=true then 0 else k.toNat) its.toArray)=(List.replicate k.toNat its).flatten.toArray:=by
  have f0:∀m:Nat,List.foldl (λx1 x2=>x1++x2) #[] (List.replicate m its.toArray)=(List.replicate m its).flatten.toArray:=λm=>by
   have:=rC its m [];rw[List.nil_append] at this;exact this
  rw[f0];cases its with
  | nil=>simp
  | cons a r'=>rw[Yc (by simp)]
 refine wpAny_binaryOp_repeat_ref (T:="list") (U:="int") ∅ ⟨_,e,rfl⟩ (λs'=>typeIs_int s' k t) noFill_list_mul F.fills_int_mul F.slot_int_rmul repeat_list F.slot_int_index.lookup
  (call_meets F.slot_int_rmul (typeIs_int s k t) F.entry_int_rmul (F.args_int_rmul_2 _ _) (int___rmul___int_list k t l its.toArray n)
   ⟨e,rfl,⟨_,e,rfl⟩,call_meets F.slot_list_mul ⟨_,e,rfl⟩ F.entry_list_mul (F.args_list_mul_2 _ _) (AutoListH.list___mul___list_int_3 l its.toArray n k t hfit hcap hlong) ⟨e,?_⟩⟩)
 rw[hnew];exact⟨.ref _,_,I.lnew (t':=s.toks) (r.rep k.toNat) (by rw[En,YM];exact hz),rfl,q _ I.fresh⟩
end
end L2
namespace Att
open PySem PySem.W PySem.Calls PyProof.Rows
theorem nV{P:Params}{h:Heap}:∀(ns:List Int)(vs:List Value),WellAll P h vs (ns.map WData.int)->IntsAre vs ns:=by
 intro ns;induction ns with
 | nil =>
  intro vs w;rw[List.map_nil] at w;cases w;exact .nil
 | cons n ns ih =>
  intro vs w;rw[YN] at w;cases w with
  | cons a b =>
   cases a;exact .cons _ _ (ih _ b)
theorem zU{l:OpenLaw}{n:Nat}(hn:l.most=some n) {P:Params}{h:Heap}{args:List WData}{vals:List Value}
  (hpre:l.row.toRowW.claim.pre args=true)(hwl:WellAll P h vals args) :
  ∃a vs ns,vals=[Value.ref a]/\args=[WData.list (ns.map WData.int)]/\h.get? a=some { cls:=.type "list",data:=.seq vs.toArray } /\ IntsAre vs ns/\ns.length<=n:=by
 have hsh:WShape.hasAll [] args [.list .int]=true:=(pre_splitW hpre).1;have hc:l.pre.holds [] { args:=args } = true:=(pre_splitW hpre).2;obtain⟨d,r,rfl,h1,h2⟩:=hasAllW_cons hsh;obtain rfl:=hasAllW_nil h2;obtain⟨xs,rfl,h3⟩:=hasW_list h1;obtain⟨ns,rfl⟩:=items_int h3;have hlen:ns.length<=n:=by
  unfold OpenLaw.pre at hc;have h4:(WTm.not (.lt (.lit (.int (n:Int))) (.len (.arg 0)))).holds [] { args:=[.list (ns.map .int)] } = true:=by
   have h4:=(holds_andW hc).1;rw[hn] at h4;exact h4
  have h5:=condW_of h4 (w_not (w_lt w_lit (w_len_list (w_arg rfl))));rw[YC] at h5;refine Nat.le_of_not_lt λq=>?_;have q':(n:Int)<((ns.length:Nat):Int):=()
  first
   | (rw[YO q'] at h5;exact absurd h5 ∅)
   | (simp at h5;nofun)
 cases hwl with
 | cons w1 w2 =>
  cases w2;cases w1 with
  | list ho hall=>exact⟨_,_,ns,rfl,rfl,ho,nV ns _ hall,hlen⟩
theorem zH(l:OpenLaw)(args:List WData):l.row.toRowW.claim.post args (.bool true) args=true :=
 postW_of (r:=l.row.toRowW) (X:=(true==true))
  (show WShape.has [] (.bool true) .bool=true by first|rfl|decide|simp[WShape.has,WShape.arms,WShape.armsAll])
  (show (WTm.eq .res (.lit (.bool true))).value [] { args:=args,res:=some (.bool true),after:=args } = some (.bool (true==true)) from w_eq_bool (w_res rfl) w_lit) rfl
theorem attach_call{l:OpenLaw}{n:Nat}{q:Program}{loose:List Str}{XP:(Str->Option Value)->Heap->Prop}{YP:World->Heap->Prop}{d:DefRec}
  (hn:l.most=some n)(hdf:d.params.defaults=[])
  (call:∀(w:World)(s₀ s₁:Shared)(mg mb:Str->Option Value)(fa:Addr)(o:Obj)(pm cd doc:Value)(a:Addr)(vs:List Value)(ns:List Int),
   Ground q loose [] XP w s₀ mg mb s₁.heap->YP w s₁.heap ->
   s₁.heap.get? fa=some o->o.data=.func (docDef d.name d.params d.body d.scope pm cd doc)->s₁.heap.CodeRec cd d.name->mg d.name=some (.ref fa) ->
   s₁.heap.get? a=some { cls:=.type "list",data:=.seq vs.toArray } -> IntsAre vs ns->ns.length<=n->s₁.gens = #[] ->
   codeAny (model l.prog w) callerA (.call (.ref fa) ⟨[.ref a],[]⟩) (λr s'=>r=.ok (.ret (.bool true))/\OldK s₁.heap s'.heap/\s'.os=s₁.os/\AllBare s'.gens) s₁) :
  WalkO q loose XP YP l.row.toRowW d [] (λf vs=>PySem.call f vs):=by
 intro w s₀ s₁ mg mb G Y fa o pm cd doc dV kV ho hd hcd hD hmg hg args vals as hpre hlay hrd hwl hlo;obtain rfl:dV=.none:=Dflts.none hD hdf;obtain rfl:kV=.none:=Dflts.noKw hD;obtain⟨a,vs,ns,rfl,rfl,hobj,hints,hlen⟩:=zU hn hpre hwl;refine enter_call (codeAny_mono (call w s₀ s₁ mg mb fa o pm cd doc a vs ns G Y ho (fd_plain hd) hcd hmg hobj hints hlen hg) λr s' hq=>?_);obtain⟨rfl,h2,h3,h4⟩:=hq;exact⟨.inl ⟨.bool true,.bool true,[],rfl,λ_=>rfl,.bool true,zH l _,λ_=>⟨List.Pairwise.nil,λ_ hm=>(nomatch hm)⟩⟩,h2,h3,h4⟩
end Att
namespace L2
open PySem PySem.Spec PyProof.Rows
theorem qY:∀{vs:List Value}{ns:List Int},IntsAre vs ns->bV (ns.map V.int) vs
 | _,_,.nil=>.nil
 | _,_,.cons n t h=>.cons ⟨t,rfl⟩ (qY h)
def gy(s:Stmt):Arguments:=match s with
 | .FunctionDef _ a _ _ _ _ _ _ _ _=>a
 | _=>{ posonlyargs:=[],args:=[],vararg:=none,kwonlyargs:=[],kw_defaults:=[],kwarg:=none,defaults:=[] }
def fI(s:Stmt):List Stmt:=match s with
 | .FunctionDef _ _ b _ _ _ _ _ _ _=>b
 | _=>[]
def ap(s:Stmt):Scope:=match s with
 | .FunctionDef _ _ _ _ _ _ sc _ _ _=>sc
 | _=>{ kind:=.function,names:=[],isGenerator:=false,isCoroutine:=false }
abbrev dP:zK:=λ_ _ _ _ _ _=>False
abbrev E0:XK:=λ_ _ _=>False
theorem Jp{X:Cx}:we dP X E0:=λ_ _ _ _ _ _ _ h=>h.elim
structure dO (K:W.Frag)(x qual:Str)(st:Stmt)(f:Addr)(fd:FuncData):Prop where
 ex:∃(oc:Value)(od:Option Addr)(kV doc pm:Value)(an:Option Addr)(cdv ct:Value)(osl:Array (Option Value)),
  fd=PySem.W.fnOf x qual (gy st) (fI st) (ap st) .none kV doc pm an cdv ct/\K.lookup f=some ⟨oc,od,.func fd,osl⟩/\PySem.W.codeIn K cdv qual=true
 kp:PySem.W.keepIn K (.ref f)=true
section
variable {P:Program}{w:World}{K:W.Frag}{mg:Str->Option Value}{base:Heap}
theorem dO.ok{x qual:Str}{st:Stmt}{f:Addr}{fd:FuncData}{N ps:List Str}{k:Nat}{sp:Sp}(F:dO K x qual st f fd)(S:ay N ps (ap st))(len:∀vs H Q E,sp vs H Q E->vs.length=ps.length)
  (hbody:∀(cdv:Value)(A:Around)(outer:List Env)(s:Shared)(H:Hp)(vs:List V)(Q:VK)(E:XK),fW k (A.deeper (envOfC qual (ap st) s.heap.objs.size f cdv))->sp vs H Q E ->
   ∃t,vM (tH dP P w K mg base N qual (ap st) f cdv A outer s H E).nox (fI st) t/\t { nx:=λ_ H'=>Q .non H',rt:=Q } (start N vs) H):bU P w K mg base dP (k+1) f fd ps sp:=by
 obtain⟨oc,od,kV,doc,pm,an,cdv,ct,osl,rfl,lk,hcd⟩:=F.ex;refine Jw lk hcd S len λA outer s H vs Q E hr hsp=>?_;obtain⟨t,h,q⟩:=hbody cdv A outer s H vs Q E hr hsp;exact⟨t,h.nox,q⟩
theorem dO.binds{x qual:Str}{st:Stmt}{f:Addr}{fd:FuncData}{ps:List Str}(F:dO K x qual st f fd)
  (h:∀(kV doc pm:Value)(an:Option Addr)(cdv ct:Value)(us:List Value),us.length=ps.length->bindArgs (PySem.W.fnOf x qual (gy st) (fI st) (ap st) .none kV doc pm an cdv ct) ⟨us,[]⟩=pure (ps.zip us)):pk K fd ps []:=by
 obtain⟨oc,od,kV,doc,pm,an,cdv,ct,osl,rfl,lk,hcd⟩:=F.ex;exact .all (h kV doc pm an cdv ct)
theorem wN{x qual:Str}{st:Stmt}{f:Addr}{oc:Value}{od an:Option Addr}{osl:Array (Option Value)}{kV doc pm cdv ct:Value}(l:K.lookup f=some ⟨oc,od,.func (PySem.W.fnOf x qual (gy st) (fI st) (ap st) .none kV doc pm an cdv ct),osl⟩)
  (c:PySem.W.codeIn K cdv qual=true)(k:PySem.W.keepIn K (.ref f)=true):dO K x qual st f (PySem.W.fnOf x qual (gy st) (fI st) (ap st) .none kV doc pm an cdv ct):=⟨⟨oc,od,kV,doc,pm,an,cdv,ct,osl,rfl,l,c⟩,k⟩
end
section
variable {X:Cx}
theorem pv(i:Nat){x:Str}{pos:Pos}(hN:X.N[i]? = some x:=by rfl)(hv:Js X.env.scope x:=by first|exact Or.inl rfl|exact Or.inr (Or.inl rfl)|exact Or.inr (Or.inr rfl))(hd:(x==("__debug__" : Str))=false:=by decide)
  (hcd:(x==("__classdict__" : Str))=false:=by decide):PE X (.Name x pos) (Ff i):=G3 hN hv hd hcd
end
theorem cH{c A B:Prop} [Decidable c] (h1:c->A)(h2:¬ c->B):if c then A else B:=by
 by_cases h:c
 .rw[Yb h];exact h1 h
 .rw[Yc h];exact h2 h
def aB(H H':Hp):Prop:=∀b o,H b=some o->H' b=some o
theorem aB.trans{H H1 H2:Hp}(a:aB H H1)(b:aB H1 H2):aB H H2:=λc o h=>b c o (a c o h)
theorem aB.free{H H':Hp}(e:aB H H') {l:Addr}(h:H' l=Option.none):H l=Option.none:=by
 cases q:H l with
 | none=>rfl
 | some o =>
  rw[e l o q] at h;cases h
structure cn (P:Program)(w:World)(K:W.Frag)(mg:Str->Option Value)(base:Heap)(x:Str)(ps:List Str)(k:Nat)(sp:Sp):Prop where
 ex:∃f fd,bU P w K mg base dP k f fd ps sp/\mg x=some (.ref f)/\PySem.W.keepIn K (.ref f)=true/\pk K fd ps []
section
variable {X:Cx}{x:Str}{p pos:Pos}{e:Expr}{es:List Expr}{t:TA}{ps:List Str}{k:Nat}{sp:Sp}
def FA(sp:Sp)(t:TA):TE:=λσ H Q=>t σ H λvs H1=>sp vs H1 Q E0
theorem HA(C:cn X.prog X.w X.K X.mg X.base x ps k sp)(hr:fW k X.A)(hg:Gl X x)(ha:PA X (e::es) t)(hdb:(x==("__debug__" : Str))=false:=by decide)
  (he:starEach (e::es) X.env=(false,eval e X.env)::starEach es X.env:=by rfl)(hpl:(backTo pos (starEach es X.env)).any (·.1)=false:=by rfl) :
  PE X (.Call (.Name x p) (e::es) [] pos) (FA sp t):=by
 obtain⟨f,fd,F,hm,hk,hb⟩:=C.ex;intro pins s σ H Q I h;refine E9 (E:=E0) (dvs:=[]) F hr hg hm hk hb .nil Jp ha hdb he hpl pins s σ H Q I ?_;show t σ H λvs H1=>sp (vs++[]) H1 Q E0;have e:(λ(vs:List V) H1=>sp (vs++[]) H1 Q E0)=λvs H1=>sp vs H1 Q E0:=by
  funext vs H1;rw[List.append_nil]
 rw[e];exact h
end
section
variable {X:Cx}
theorem DA:el X (binaryOp .Mult) (rI IntMulOk λi j=>.int (i*j)):=Jg λ_ _ _ _ _ _ _ hc q=>mul_int q hc
def FV(_ j:Int):Prop:=j≠0/\j.natAbs.log2<9000
theorem qp:el X (binaryOp .FloorDiv) (rI FV λi j=>.int (i.fdiv j)):=Jg λ_ _ _ _ _ _ _ hc q=>floordiv_int hc.1 q (.inl (PyProof.noPylong_of_log2 hc.2))
theorem gC:el X (binaryOp .Mod) (rI (λ_ j=>j≠0) λi j=>.int (i.fmod j)):=Fn
end
theorem Bi{CX:zK}{P:Program}{w:World}{K:W.Frag}{mg:Str->Option Value}{base:Heap}{N:List Str}{qual:Str}{scope:Scope}{f:Addr}{cd:Value}{A:Around}{outer:List Env}{s:Shared}{H:Hp}{E:XK} :
  (tH CX P w K mg base N qual scope f cd A outer s H E).K=K:=rfl
def zT:List Value->Option (List V)
 | []=>some []
 | u::us=>match Ji u,zT us with
  | some x,some xs=>some (x::xs)
  | _,_=>none
theorem qQ:∀{us:List Value}{xs:List V},zT us=some xs->bV xs us
 | [],xs,h=>by cases h;exact .nil
 | u::us,xs,h=>by
  unfold zT at h;split at h
  .rename_i x ys e1 e2
   cases h;refine .cons ?_ (qQ e2);cases u<;>first|(cases e1;first|exact rfl|exact⟨_,rfl⟩)|cases e1
  .cases h
def vX(o:Obj):Option HO:=match o.data with
 | .seq its _=>if o.cls=.type "tuple" /\ its.size<=sizeLine then (zT its.toList).map HO.tup else none
 | _=>none
def vw(K:W.Frag)(H:Hp):Hp:=λa=>match K.lookup a with
 | some o=>vX o
 | none=>H a
theorem Dn{o:Obj}{u:HO}(h:vX o=some u):∃xs,u=.tup xs:=by
 unfold vX at h;split at h
 .split at h
  .cases e:zT _ with
   | none=>rw[e] at h;cases h
   | some xs=>rw[e] at h;cases h;exact⟨xs,rfl⟩
  .cases h
 .cases h
theorem eH{K:W.Frag}{H:Hp}{a:Addr}(hk:K.lookup a=none):vw K H a=H a:=by
 unfold vw;rw[hk]
theorem cZ{K:W.Frag}{H:Hp}{a:Addr}{xs:List V}(h:vw K H a=some (.tup xs)):rK K H a xs:=by
 unfold vw at h;split at h
 .rename_i o ho
  unfold vX at h;split at h
  .rename_i its n hd
   split at h
   .rename_i hc
    cases e:zT its.toList with
    | none=>rw[e] at h;cases h
    | some ys =>
     rw[e] at h;cases h;exact .inr ⟨o,its,n,ho,hc.1,hd,hc.2,qQ e⟩
   .cases h
  .cases h
 .exact .of h
theorem mZ{K:W.Frag}{H:Hp}{a:Addr}{u:HO}(h:vw K H a=some u)(hu:∀xs,u ≠ .tup xs):H a=some u:=by
 unfold vw at h;split at h
 .obtain⟨xs,rfl⟩:=Dn h;exact absurd rfl (hu xs)
 .exact h
theorem aQ{K:W.Frag}{H:Hp}{a:Addr}{xs:List V}(h:vw K H a=some (.lst xs)):H a=some (.lst xs):=mZ h λ_ e=>by cases e
theorem lB{K:W.Frag}{H H':Hp}(S:aB H H'):aB (vw K H) (vw K H'):=λb o e=>by
 unfold vw at e ⊢;split at e
 .exact e
 .exact S _ _ e
def fV(l:Addr)(H H':Hp):Prop:=∀b o,b≠l->H b=some o->H' b=some o
theorem BS{K:W.Frag}{l:Addr}{H H':Hp}(S:fV l H H'):fV l (vw K H) (vw K H'):=λb o hb e=>by
 unfold vw at e ⊢;split at e
 .exact e
 .exact S _ _ hb e
theorem aU.noK{X:Cx}{pins:List (Addr×Obj)}{σ:St}{H:Hp}{s:Shared}{p:Addr}{o:HO}(I:aU X pins σ H s)(h:H p=some o):X.K.lookup p=none:=by
 cases e:X.K.lookup p with
 | none=>rfl
 | some ob =>
  have:=(I.bs p ob (I.mod.kin p ob e)).2;rw[h] at this;cases this
theorem aU.newK{X:Cx}{pins:List (Addr×Obj)}{σ:St}{H:Hp}{s:Shared}{p:Addr}(I:aU X pins σ H s)(hp:s.heap.objs.size<=p):X.K.lookup p=none:=by
 cases e:X.K.lookup p with
 | none=>rfl
 | some o=>exact absurd (Yd (Heap.lt_size (I.kIn p o e)) hp) (Ye _)
def Kf(K:W.Frag)(v:V)(H:Hp):Prop:=∀p o,v=.ref p->H p=some o->K.lookup p=none
section
variable {X:Cx}
theorem el.kf{f:Value->Value->Sem Value}{r:R2}(h:el X f r):el X f (λx y H Q=>r x y H λv H'=>Kf X.K v H'->Q v H'):=λpins s σ H x y v u Q I rx ry q =>
 dy (h pins s σ H x y v u _ I rx ry q) λu' s' ⟨v',H',I',r',q'⟩=>⟨v',H',I',r',q' λp o _ hp=>I'.noK hp⟩
theorem eM.kf{f:Value}{r:List V->Hp->VK->Prop}(h:eM X f r):eM X f (λxs H Q=>r xs H λv H'=>Kf X.K v H'->Q v H'):=λpins s σ H xs us Q I rs q =>
 dy (h pins s σ H xs us _ I rs q) λu' s' ⟨v',H',I',r',q'⟩=>⟨v',H',I',r',q' λp o _ hp=>I'.noK hp⟩
theorem yl.kf{r:V->Option Int->Option Int->Hp->VK->Prop}(h:yl X r):yl X (λx a b H Q=>r x a b H λv H'=>Kf X.K v H'->Q v H'):=by
 intro pins s σ H x v vl vu lo hi sl Q I rx hs pl pu q;obtain⟨T,id,e1,e2,e3⟩:=h pins s σ H x v vl vu lo hi sl _ I rx hs pl pu q;exact⟨T,id,e1,e2,dy e3 λu' s' ⟨v',H',I',r',q'⟩=>⟨v',H',I',r',q' λp o _ hp=>I'.noK hp⟩⟩
end
theorem aB.upd{H:Hp}{p:Addr}{o:HO}(hp:H p=none):aB H (upd H p o):=λb u e=>by
 rw[cL (aj e hp)];exact e
theorem fV.upd{H:Hp}{l:Addr}{o:HO}:fV l H (upd H l o):=λb u hb e=>by
 rw[cL hb];exact e
theorem aB.but{H H':Hp}(h:aB H H')(l:Addr):fV l H H':=λb o _ e=>h b o e
theorem fV.trans{l:Addr}{H H1 H2:Hp}(a:fV l H H1)(b:fV l H1 H2):fV l H H2:=λc o hc h=>b c o hc (a c o hc h)
def Ar(H:Hp):V->Option String
 | .non=>some "NoneType"
 | .bl _=>some "bool"
 | .int _=>some "int"
 | .str _=>some "str"
 | .ref a=>match H a with
  | some (.lst _)=>some "list"
  | some (.frz _ (.lst _))=>some "list"
  | some (.tup _)=>some "tuple"
  | some (.dK _)=>some "dict"
  | _=>none
 | _=>none
def dG(n c:String):Bool:=n==c || (n == "bool" && c == "int")
def wo(n:String):Prop:=n = "NoneType" \/ n = "bool" \/ n = "int" \/ n = "str" \/ n = "list" \/ n = "tuple" \/ n = "dict"
def qM(c:String):Prop:=c = "bool" \/ c = "int" \/ c = "list" \/ c = "tuple" \/ c = "str" \/ c = "dict"
theorem fE{K:W.Frag}{n c:String}(hn:wo n)(hc:qM c):PySem.W.kitOne K (.type n) (.type c)=some (dG n c):=by
 rcases hn with rfl|rfl|rfl|rfl|rfl|rfl|rfl<;>rcases hc with rfl|rfl|rfl|rfl|rfl|rfl<;>rfl
section
variable {X:Cx}
theorem bJ:eM X (.builtin "isinstance") (λxs H Q=>∃x c n,xs=[x,.ty c]/\qM c/\Ar (vw X.K H) x=some n/\Q (.bl (dG n c)) H):=by
 intro pins s σ H xs us Q I r h;obtain⟨x,c,n,rfl,hc,hn,q⟩:=h;obtain⟨u,w',rfl,rx,ry⟩:=yO r;cases ry;have fin:∀tk,EP X pins σ Q (.bool (dG n c)) { s with toks:=tk }:=λtk=>⟨.bl _,H,I.tok tk,rfl,q⟩
 cases x with
 | non=>cases hn;exact fO I rx .non (fE (.inl rfl) hc) fin
 | bl b=>cases hn;exact fO I rx (.bl b) (fE (.inr (.inl rfl)) hc) fin
 | int b=>cases hn;exact fO I rx (.int b) (fE (.inr (.inr (.inl rfl))) hc) fin
 | str b=>cases hn;exact fO I rx (.str b) (fE (.inr (.inr (.inr (.inl rfl)))) hc) fin
 | flt b=>cases hn
 | byt b=>cases hn
 | ty b=>cases hn
 | ref a =>
  unfold Ar at hn;dsimp only at hn;split at hn
  .rename_i e;cases hn;exact fO I rx (.lst (aQ e)) (fE (.inr (.inr (.inr (.inr (.inl rfl))))) hc) fin
  .rename_i e;cases hn;exact fO I rx (.frz (mZ e λ_ z=>by cases z)) (fE (.inr (.inr (.inr (.inr (.inl rfl))))) hc) fin
  .rename_i ys e
   cases hn;cases (show u=Value.ref a from rx)
   obtain⟨its,rv,p,hz⟩:=I.tuple (cZ e);obtain⟨o,h1,h2,_⟩:=p;exact Yt PySem.W.kitx_tuple I.kIn ⟨o,h1,h2⟩ (fE (.inr (.inr (.inr (.inr (.inr (.inl rfl)))))) hc) (λz=>nomatch z) fin
  .rename_i e;cases hn;exact fO I rx (.dK (mZ e λ_ z=>by cases z)) (fE (.inr (.inr (.inr (.inr (.inr (.inr rfl)))))) hc) fin
  .cases hn
end
theorem EI:qM "int":=.inr (.inl rfl)
theorem Dl:qM "bool":=.inl rfl
theorem Cn:qM "list":=.inr (.inr (.inl rfl))
theorem zn:qM "tuple":=.inr (.inr (.inr (.inl rfl)))
theorem wI:bootBuiltins "abs" = some (.builtin "abs"):=by decide +kernel
theorem aF:bootBuiltins "len" = some (.builtin "len"):=by decide +kernel
theorem aS:bootBuiltins "isinstance" = some (.builtin "isinstance"):=by decide +kernel
theorem wk:bootBuiltins "max" = some (.builtin "max"):=by decide +kernel
theorem Ch:bootBuiltins "min" = some (.builtin "min"):=by decide +kernel
theorem Gn:bootBuiltins "all" = some (.builtin "all"):=by decide +kernel
theorem Bn:bootBuiltins "int" = some (.type "int"):=by decide +kernel
theorem oz:bootBuiltins "bool" = some (.type "bool"):=by decide +kernel
theorem C4:bootBuiltins "str" = some (.type "str"):=by decide +kernel
theorem gI:bootBuiltins "list" = some (.type "list"):=by decide +kernel
theorem gP:bootBuiltins "tuple" = some (.type "tuple"):=by decide +kernel
theorem sF:bootBuiltins "enumerate" = some (.type "enumerate"):=by decide +kernel
theorem Ip:bootBuiltins "zip" = some (.type "zip"):=by decide +kernel
section
variable {X:Cx}
theorem uK.imp{r r':R2}(h:uK X r)(hi:∀x y H Q,r' x y H Q->r x y H Q):uK X r':=λv sl pins s σ H x y vv u Q I rx ry q hs=>h v sl pins s σ H x y vv u Q I rx ry (hi _ _ _ _ q) hs
theorem eM.imp{f:Value}{r r':List V->Hp->VK->Prop}(h:eM X f r)(hi:∀xs H Q,r' xs H Q->r xs H Q):eM X f r':=λpins s σ H xs us Q I rs q=>h pins s σ H xs us Q I rs (hi _ _ _ q)
def rN(K:W.Frag):R2:=λx y H Q=>∃p i,x=.ref p/\y=.int i /\ ∃xs,vw K H p=some (.lst xs) /\ ∃v,nK xs i=some v/\Q v H
def Cr(K:W.Frag):R2:=λx y H Q=>∃p i,x=.ref p/\y=.int i /\ ∃xs,vw K H p=some (.tup xs) /\ ∃v,nK xs i=some v/\Q v H
theorem cI:uK X (rN X.K):=yD.imp λ_ _ _ _ ⟨p,i,e1,e2,xs,e3,v,e4,q⟩=>⟨p,xs,i,v,e1,e2,.of (aQ e3),e4,q⟩
theorem bI:uK X (Cr X.K):=HD.imp λ_ _ _ _ ⟨p,i,e1,e2,xs,e3,v,e4,q⟩=>⟨p,xs,i,v,e1,e2,cZ e3,e4,q⟩
def dJ(H:Hp)(p:Addr):Option Nat:=match H p with
 | some (.lst xs)=>some xs.length
 | some (.frz _ (.lst xs))=>some xs.length
 | some (.tup xs)=>some xs.length
 | _=>none
theorem aq:eM X (.builtin "len") (λxs H Q=>∃p,xs=[.ref p] /\ ∃n:Nat,dJ (vw X.K H) p=some n/\Q (.int n) H):=jg.imp λxs H Q ⟨p,e,n,hn,q⟩=>by
 unfold dJ at hn;split at hn
 .rename_i ys hp
  cases hn;exact⟨p,ys,e,.inl (.of (aQ hp)),q⟩
 .rename_i o ys hp
  cases hn;exact⟨p,ys,e,.inl (.inl (.inr ⟨o,mZ hp λ_ z=>by cases z⟩)),q⟩
 .rename_i ys hp
  cases hn;exact⟨p,ys,e,.inr (cZ hp),q⟩
 .cases hn
def iZ(K:W.Frag)(n:Nat)(t:At):TG:=λv σ H Q=>∃a,v=.ref a /\ ∃xs,vw K H a=some (.tup xs)/\xs.length=n/\t xs σ H Q
theorem Fh{es:List Expr}{k:Nat}{t:At}{n:Nat}{pos:Pos}(hc:X.calm=true)(h:IK X es t)
  (hn:(assignEach es X.env).length=n:=by rfl)(hst:(assignEach es X.env).findIdx? (·.1)=none:=by rfl):PG X (.Tuple es k pos) (iZ X.K n t) :=
 λpins s σ H v u Q I r ⟨a,e,xs,hx,hl,q⟩=>GL hc h hn hst pins s σ H v u Q I r ⟨a,xs,e,cZ hx,hl,q⟩
theorem cW{α:Type}{x:α}{xs:List α}:nK (x::xs) 0=some x:=bO (j:=0) rfl
theorem dU{α:Type}{x y:α}{xs:List α}:nK (x::y::xs) 1=some y:=bO (j:=1) rfl
theorem FO{α:Type}{x y z:α}{xs:List α}:nK (x::y::z::xs) 2=some z:=bO (j:=2) rfl
theorem lZ{α:Type}{xs:List α}{r:Int}(h0:0<=r)(h1:r<xs.length):∃v,nK xs r=some v/\v∈xs:=by
 have h2:r.toNat<xs.length:=();refine⟨xs[r.toNat],?_,YQ h2⟩;have e:=bO (xs:=xs) (j:=r.toNat) (v:=xs[r.toNat]) (YR h2);rw[show ((r.toNat:Nat):Int)=r by nofun] at e
 exact e
theorem fV.same_trans{H H1 H2:Hp}{st:Addr}(b:fV st H H1)(s:aB H1 H2):fV st H H2:=b.trans (s.but st)
theorem EU:ww 2 0=some 0:=rfl
theorem E2{K:W.Frag}{b k:Bool}{H:Hp}:wW K (.bl b) H k=(k=b):=rfl
theorem Cg{K:W.Frag}{i:Int}{k:Bool}{H:Hp}:wW K (.int i) H k=(k=(i != 0)):=rfl
theorem zb{i j:Int}(h:0<=j/\j<=1000000/\i.natAbs<2^64):Jf i j:=h
end
def Nw(K:W.Frag)(H:Hp)(o:HO)(Q:VK):Prop:=∀p H2,vw K H p=none->aB (vw K H) (vw K H2)->vw K H2 p=some o->Q (.ref p) H2
theorem Nw.ok{K:W.Frag}{H:Hp}{o:HO}{Q:VK}(h:Nw K H o Q) {p:Addr}(hk:K.lookup p=none)(hp:H p=none):Q (.ref p) (upd H p o) :=
 h p _ (by rw[eH hk];exact hp) (lB (aB.upd hp)) (by rw[eH hk];exact de)
theorem Nw.al{K:W.Frag}{H:Hp}{o:HO}{Q:VK}(h:Nw K H o Q):∀p,H p=none->Kf K (.ref p) (upd H p o)->Q (.ref p) (upd H p o):=λp hp hk=>h.ok (hk p _ rfl de) hp
def uH(K:W.Frag)(t:TA):TE:=λσ H Q=>t σ H λxs H1=>xs.length<=sizeLine/\Nw K H1 (.tup xs) Q
def CM(K:W.Frag)(t:TA):TE:=λσ H Q=>t σ H λxs H1=>xs.length<=sizeLine/\Nw K H1 (.lst xs) Q
def Ju(K:W.Frag):TE:=λ_ H Q=>Nw K H (.dK []) Q
section
variable {X:Cx}{es:List Expr}{t:TA}{pos:Pos}
theorem ES {x1}(h:PA X es t):PE X (.Tuple es x1 pos) (uH X.K t):=by
 intro pins s σ H Q I hq;refine wpAny_Tuple_spliced (dy (h pos pins s σ H _ I hq) λus s1 ⟨xs,H1,I1,r,z,q⟩=>⟨by rw[<-r.length];exact z,?_⟩)
 have hf:H1 s1.heap.objs.size=none:=I1.hok.fresh (Yp _);refine⟨.ref s1.heap.objs.size,upd H1 s1.heap.objs.size (.tup xs),I1.laid (t':=s1.toks) (λb u e=>Heap.get?_push_of_some _ e) (Yp _) ?_,rfl,q.ok (I1.newK (Yp _)) hf⟩;exact⟨z,us,r,⟨_,Heap.get?_push_size _ rfl,rfl,_,rfl⟩⟩
theorem Dw(h:PA X es t):PE X (.List es pos) (CM X.K t):=by
 intro pins s σ H Q I hq;refine wpAny_List_spliced (dy (h pos pins s σ H _ I hq) λus s1 ⟨xs,H1,I1,r,z,q⟩=>⟨by rw[<-r.length];exact z,?_⟩)
 have hf:H1 s1.heap.objs.size=none:=I1.hok.fresh (Yp _);refine⟨.ref s1.heap.objs.size,upd H1 s1.heap.objs.size (.lst xs),I1.laid (t':=s1.toks) (λb u e=>Heap.get?_push_of_some _ e) (Yp _) ?_,rfl,q.ok (I1.newK (Yp _)) hf⟩;exact⟨z,us,0,r,Heap.get?_push_size _ rfl⟩
theorem el.imp{f:Value->Value->Sem Value}{r r':R2}(h:el X f r)(hi:∀x y H Q,r' x y H Q->r x y H Q):el X f r':=λpins s σ H x y v u Q I rx ry q=>h pins s σ H x y v u Q I rx ry (hi _ _ _ _ q)
def yC(K:W.Frag):R2:=λx y H Q=>∃l b,x=.ref l/\y=.ref b /\ ∃xs,vw K H l=some (.lst xs) /\ ∃zs,vw K H b=some (.lst zs)/\xs.length+zs.length<=sizeLine/\Nw K H (.lst (xs++zs)) Q
theorem Eh:el X (binaryOp .Add) (yC X.K):=Gx.kf.imp λ_ _ _ _ ⟨l,b,e1,e2,xs,h1,zs,h2,z,q⟩=>⟨l,b,xs,zs,e1,e2,aQ h1,aQ h2,z,q.al⟩
def yq(K:W.Frag):R2:=λx y H Q=>∃l k,x=.ref l/\y=.int k /\ ∃xs,vw K H l=some (.lst xs) /\ -(2^63)<=k/\k<2^63/\xs.length*k.toNat<=sizeLine/\Nw K H (.lst (List.replicate k.toNat xs).flatten) Q
theorem EH:el X (binaryOp .Mult) (yq X.K):=G5.kf.imp λ_ _ _ _ ⟨l,k,e1,e2,xs,h1,z1,z2,z3,q⟩=>⟨l,k,xs,e1,e2,aQ h1,z1,z2,z3,q.al⟩
def gk(K:W.Frag):R2:=λx y H Q=>rI IntMulOk (λi j=>.int (i*j)) x y H Q\/yq K x y H Q
def ij(K:W.Frag):R2:=λx y H Q=>yT (λi j=>.int (i+j)) x y H Q\/yC K x y H Q
theorem aP:el X (binaryOp .Mult) (gk X.K):=DA.or EH
theorem bQ:el X (binaryOp .Add) (ij X.K):=Gg.or Eh
theorem gO{K:W.Frag}{i j:Int}{H:Hp}{Q:VK}:gk K (.int i) (.int j) H Q=(IntMulOk i j/\Q (.int (i*j)) H):=by
 simp[gk,rI,yq]
theorem gd{K:W.Frag}{l:Addr}{j:Int}{H:Hp}{Q:VK}:gk K (.ref l) (.int j) H Q = ∃xs,vw K H l=some (.lst xs) /\ -(2^63)<=j/\j<2^63/\xs.length*j.toNat<=sizeLine/\Nw K H (.lst (List.replicate j.toNat xs).flatten) Q:=by
 simp[gk,rI,yq]
theorem mL{K:W.Frag}{i j:Int}{H:Hp}{Q:VK}:ij K (.int i) (.int j) H Q=Q (.int (i+j)) H:=by
 simp[ij,yT,yC]
theorem fN{K:W.Frag}{l b:Addr}{H:Hp}{Q:VK}:ij K (.ref l) (.ref b) H Q = ∃xs,vw K H l=some (.lst xs) /\ ∃zs,vw K H b=some (.lst zs)/\xs.length+zs.length<=sizeLine/\Nw K H (.lst (xs++zs)) Q:=by
 simp[ij,yT,yC]
theorem gU:eM X (.type "list") (λxs H Q=>∃p,xs=[.ref p] /\ ∃ys,vw X.K H p=some (.lst ys)/\Nw X.K H (.lst ys) Q):=sY.kf.imp λ_ _ _ ⟨p,e,ys,h,q⟩=>⟨p,ys,e,.inl (.of (aQ h)),q.al⟩
theorem yl.imp{r r':V->Option Int->Option Int->Hp->VK->Prop}(h:yl X r)(hi:∀x a b H Q,r' x a b H Q->r x a b H Q):yl X r':=by
 intro value p2 pins s σ H x lo hi' v vl vh sl Q
 intros
 apply h<;>first|assumption|(apply hi;assumption)
def Fe(K:W.Frag):V->Option Int->Option Int->Hp->VK->Prop:=λx lo hi H Q=>∃a,x=.ref a /\ ∃xs,vw K H a=some (.lst xs)/\Nw K H (.lst (iU xs lo hi)) Q
theorem fH:yl X (Fe X.K):=DU.kf.imp λ_ _ _ _ _ ⟨a,e,xs,h,q⟩=>⟨a,xs,e,.of (aQ h),q.al⟩
def D3(K:W.Frag)(H:Hp)(l:Addr)(o:HO)(Q:Hp->Prop):Prop:=∀H2,fV l (vw K H) (vw K H2)->vw K H2 l=some o->Q H2
theorem D3.ok{K:W.Frag}{H:Hp}{l:Addr}{o:HO}{Q:Hp->Prop}(h:D3 K H l o Q)(hk:K.lookup l=none):Q (upd H l o):=h _ (BS fV.upd) (by rw[eH hk];exact de)
def AN(K:W.Frag):V->V->V->Hp->(Hp->Prop)->Prop:=λo i v H Q=>∃p k,o=.ref p/\i=.int k /\ ∃xs,vw K H p=some (.lst xs) /\ ∃j,ww xs.length k=some j/\D3 K H p (.lst (xs.set j v)) Q
theorem dE:Am X (AN X.K):=λpins s σ H o i v ov iv u Q I ro ri rv ⟨p,k,e1,e2,xs,h,j,e3,q⟩=>Ay pins s σ H o i v ov iv u Q I ro ri rv ⟨p,xs,k,j,e1,e2,aQ h,e3,q.ok (I.noK (aQ h))⟩
def CL(K:W.Frag):V->List V->Hp->VK->Prop:=λx vs H Q=>∃l y,x=.ref l/\vs=[y] /\ ∃xs,vw K H l=some (.lst xs)/\xs.length<sizeLine/\D3 K H l (.lst (xs++[y])) (Q .non)
theorem ee:IC X "list.append" (CL X.K):=λpins s σ H x vs v us Q I rx rv ⟨l,y,e1,e2,xs,h,z,q⟩=>rg pins s σ H x vs v us Q I rx rv ⟨l,xs,y,e1,e2,aQ h,z,q.ok (I.noK (aQ h))⟩
def FR(K:W.Frag):V->List V->Hp->VK->Prop:=λx vs H Q=>∃l,x=.ref l/\vs=[] /\ ∃xs,vw K H l=some (.lst xs) /\ ∃y,xs[xs.length-1]? = some y/\D3 K H l (.lst xs.dropLast) (Q y)
theorem Fi:IC X "list.pop" (FR X.K):=λpins s σ H x vs v us Q I rx rv ⟨l,e1,e2,xs,h,y,e3,q⟩=>Gr pins s σ H x vs v us Q I rx rv ⟨l,xs,y,e1,e2,aQ h,e3,q.ok (I.noK (aQ h))⟩
end
def zg(J:It)(g:TG)(tb:TS)(D:nO)(σ:St)(H1:Hp):Prop:=∃W:Nat->Nat->St->Hp->Prop,(∃m,W 0 m σ H1) /\ ∀i m σ H,W i m σ H ->
 (J.stop i H/\D.nx σ H)\/(J.go i H /\ ∃N:St->Hp->Prop,(∀σ' H',N σ' H' -> ∃m',m'<m/\W (i+1) m' σ' H') /\ ∀x H',J.yld i H x H'->g x σ H' λσ2 H2=>tb { D with nx:=N,ct:=N,bk:=D.nx } σ2 H2)
theorem FD(wi:TI)(g:TG)(tb:TS)(D:nO)(σ:St)(H:Hp):Gh wi g tb D σ H=wi σ H λJ H1=>zg J g tb D σ H1:=rfl
inductive D where
 | non|bl (b:Bool)|int (i:Int)|str (x:Str)|dict|tup (ds:List D)|lst (ds:List D)
mutual
def aI(H:Hp):D->V->Prop
 | .non,v=>v=.non
 | .bl b,v=>v=.bl b
 | .int i,v=>v=.int i
 | .str x,v=>v=.str x
 | .dict,v=>∃a kvs,v=.ref a/\H a=some (.dK kvs)
 | .tup ds,v=>∃a xs,v=.ref a/\H a=some (.tup xs)/\aJ H ds xs
 | .lst ds,v=>∃a xs,v=.ref a/\H a=some (.lst xs)/\aJ H ds xs
def aJ(H:Hp):List D->List V->Prop
 | [],xs=>xs=[]
 | d::ds,xs=>∃x r,xs=x::r/\aI H d x/\aJ H ds r
end
mutual
theorem aI.same{H H':Hp}(S:aB H H'):∀(d:D)(v:V),aI H d v->aI H' d v
 | .non,v,h=>by unfold aI at h ⊢;exact h
 | .bl b,v,h=>by unfold aI at h ⊢;exact h
 | .int i,v,h=>by unfold aI at h ⊢;exact h
 | .str x,v,h=>by unfold aI at h ⊢;exact h
 | .dict,v,h=>by
  unfold aI at h ⊢;obtain⟨a,kvs,e,h⟩:=h;exact⟨a,kvs,e,S _ _ h⟩
 | .tup ds,v,h=>by
  unfold aI at h ⊢;obtain⟨a,xs,e,h,r⟩:=h;exact⟨a,xs,e,S _ _ h,aJ.same S ds xs r⟩
 | .lst ds,v,h=>by
  unfold aI at h ⊢;obtain⟨a,xs,e,h,r⟩:=h;exact⟨a,xs,e,S _ _ h,aJ.same S ds xs r⟩
theorem aJ.same{H H':Hp}(S:aB H H'):∀(ds:List D)(xs:List V),aJ H ds xs->aJ H' ds xs
 | [],xs,h=>by unfold aJ at h ⊢;exact h
 | d::ds,xs,h=>by
  unfold aJ at h ⊢;obtain⟨x,r,e,h1,h2⟩:=h;exact⟨x,r,e,aI.same S d x h1,aJ.same S ds r h2⟩
end
theorem aJ.get{H:Hp}:∀{ds:List D}{xs:List V}{i:Nat}{x:V},aJ H ds xs->xs[i]? = some x -> ∃d,ds[i]? = some d/\aI H d x
 | [],xs,i,x,h,e=>by
  unfold aJ at h;subst h;simp at e
 | d::ds,xs,i,x,h,e=>by
  unfold aJ at h;obtain⟨y,r,rfl,h1,h2⟩:=h;cases i with
  | zero =>
   have e':y=x:=by simpa using e
   subst e';exact⟨d,by simp,h1⟩
  | succ i =>
   obtain⟨d',e1,e2⟩:=aJ.get (i:=i) h2 (by simpa using e)
   exact⟨d',by simpa using e1,e2⟩
theorem aJ.length{H:Hp}:∀{ds:List D}{xs:List V},aJ H ds xs->xs.length=ds.length
 | [],xs,h=>by
  unfold aJ at h;subst h;rfl
 | d::ds,xs,h=>by
  unfold aJ at h;obtain⟨y,r,rfl,_,h2⟩:=h;simp[aJ.length h2]
def D.ty:D->String
 | .non=>"NoneType" | .bl _=>"bool" | .int _=>"int" | .str _=>"str" | .dict=>"dict" | .tup _=>"tuple" | .lst _=>"list"
theorem aI.ty{H:Hp}{d:D}{v:V}(h:aI H d v):Ar H v=some d.ty:=by
 cases d<;>unfold aI at h
 .subst h;rfl
 .subst h;rfl
 .subst h;rfl
 .subst h;rfl
 .obtain⟨a,kvs,rfl,h⟩:=h;simp only[Ar,h,D.ty]
 .obtain⟨a,xs,rfl,h,_⟩:=h;simp only[Ar,h,D.ty]
 .obtain⟨a,xs,rfl,h,_⟩:=h;simp only[Ar,h,D.ty]
theorem uC(a b:Int):Int.gcd b (a.fmod b)=Int.gcd a b:=by
 rw[Int.fmod_def,Int.gcd_comm a b];have:a-b*a.fdiv b=a+b*(- a.fdiv b):=by rw[Int.mul_neg];nofun
 rw[this];simp
theorem xK(a:Int){b:Int}(hb:b≠0):(a.fmod b).natAbs<b.natAbs:=by
 rcases Int.lt_or_gt_of_ne hb with h|h
 .obtain⟨n,rfl⟩ : ∃n:Nat,b=Int.negSucc n:=⟨(-b-1).toNat,()⟩;cases a with
  | ofNat m =>
   cases m with
   | zero=>simp[Int.fmod]
   | succ m =>
    show (Int.subNatNat (m%(n+1)) n).natAbs<n+1;have:=Nat.mod_lt m (show 0<n+1 by nofun)
    rw[Int.subNatNat_eq_coe];generalize m%(n+1)=z at *
    nofun
  | negSucc m =>
   show (-((((m+1)%(n+1):Nat)):Int)).natAbs<n+1;have:=Nat.mod_lt (m+1) (show 0<n+1 by nofun)
   generalize (m+1)%(n+1)=z at *
   nofun
 .have h1:=YS a h;have h2:=YT a h;nofun
def lg(a b:Int):Int:=if b<0 then -(Int.gcd a b:Int) else (Int.gcd a b:Int)
def lo(a b:Int):Int×Int:=(a.fdiv (lg a b),b.fdiv (lg a b))
def fr(q:Int×Int):D:=.tup [.int q.1,.int q.2]
def Fq(q:Int×Int):Prop:=0<q.2/\Int.gcd q.1 q.2=1
theorem Av{a b:Int}(hb:b≠0):lg a b≠0:=by
 have h:Int.gcd a b≠0:=λe=>hb (Int.gcd_eq_zero_iff.mp e).2;unfold lg;split<;>nofun
theorem uR(a b:Int):lg a b∣a:=by
 unfold lg;split
 .exact Int.neg_dvd.mpr (Int.gcd_dvd_left ..)
 .exact Int.gcd_dvd_left ..
theorem uo(a b:Int):lg a b∣b:=by
 unfold lg;split
 .exact Int.neg_dvd.mpr (Int.gcd_dvd_right ..)
 .exact Int.gcd_dvd_right ..
theorem fD{a b:Int}(hb:b≠0):(lo a b).1*lg a b=a:=by
 show a.fdiv (lg a b)*lg a b=a;exact Int.fdiv_mul_cancel (uR a b)
theorem fL{a b:Int}(hb:b≠0):(lo a b).2*lg a b=b:=by
 show b.fdiv (lg a b)*lg a b=b;exact Int.fdiv_mul_cancel (uo a b)
theorem zy(a b:Int):(lg a b).natAbs=Int.gcd a b:=by
 unfold lg;split<;>nofun
theorem ie{a b:Int}(hb:b≠0):Fq (lo a b):=by
 have h1:=fD (a:=a) hb;have h2:=fL (a:=a) hb;have hg:0<Int.gcd a b:=Nat.pos_of_ne_zero λe=>hb (Int.gcd_eq_zero_iff.mp e).2;constructor
 .by_cases hn:b<0
  .have e:lg a b = -(Int.gcd a b:Int):=Yb hn;rw[e] at h2;rcases Int.lt_trichotomy (lo a b).2 0 with h|h|h
   .have:=Int.mul_nonneg_of_nonpos_of_nonpos (YU h) (show -(Int.gcd a b:Int)<=0 by nofun)
    nofun
   .rw[h] at h2;nofun
   .exact h
  .have e:lg a b=(Int.gcd a b:Int):=Yc hn;rw[e] at h2;rcases Int.lt_trichotomy (lo a b).2 0 with h|h|h
   .have:=Int.mul_nonpos_of_nonpos_of_nonneg (YU h) (show 0<=(Int.gcd a b:Int) by nofun)
    nofun
   .rw[h] at h2;nofun
   .exact h
 .have e:Int.gcd ((lo a b).1*lg a b) ((lo a b).2*lg a b)=Int.gcd (lo a b).1 (lo a b).2*(lg a b).natAbs:=Int.gcd_mul_right ..;rw[h1,h2,zy] at e;have:1*Int.gcd a b=Int.gcd (lo a b).1 (lo a b).2*Int.gcd a b:=();exact (Nat.eq_of_mul_eq_mul_right hg this).symm
mutual
def D.noSt:D->Bool
 | .lst [.int _,.bl _]=>false
 | .lst ds=>D.noSts ds
 | .tup ds=>D.noSts ds
 | _=>true
def D.noSts:List D->Bool
 | []=>true
 | d::ds=>d.noSt && D.noSts ds
end
def eC(H:Hp)(st:Addr):Prop:=∃x b,H st=some (.lst [.int x,.bl b])/\(b=false->0<=x/\x<2147483647)
theorem aI.lst_st{H:Hp}{ds:List D}{x:Int}{b:Bool}(h:aJ H ds [.int x,.bl b]):ds=[.int x,.bl b]:=by
 match ds with
 | []=>unfold aJ at h;cases h
 | [d] =>
  unfold aJ at h;obtain⟨_,_,e,_,h⟩:=h;unfold aJ at h;subst h;cases e
 | d1::d2::d3::r =>
  have:=aJ.length h;simp at this
 | [d1,d2] =>
  unfold aJ at h;obtain⟨_,_,e,h1,h⟩:=h;cases e;unfold aJ at h;obtain⟨_,_,e,h2,h⟩:=h;cases e;have e1:d1=.int x:=by
   cases d1<;>unfold aI at h1<;>first|(cases h1;rfl)|(obtain⟨_,_,e,_⟩:=h1;cases e)|cases h1
  have e2:d2=.bl b:=by
   cases d2<;>unfold aI at h2<;>first|(cases h2;rfl)|(obtain⟨_,_,e,_⟩:=h2;cases e)|cases h2
  rw[e1,e2]
theorem eC.same{H H':Hp}{st:Addr}(h:eC H st)(S:aB H H'):eC H' st:=by
 obtain⟨x,b,e,k⟩:=h;exact⟨x,b,S _ _ e,k⟩
theorem eC.ne{H:Hp}{st p:Addr}(h:eC H st)(hp:H p=none):p≠st:=by
 obtain⟨x,b,e,k⟩:=h;exact (aj e hp).symm
def D.isInt:D->Bool
 | .int _=>true
 | _=>false
def D.frac:D->Bool
 | .tup [.int t,.int b]=>decide (0<b) && decide (Int.gcd t b=1)
 | _=>false
theorem frac_fr{q:Int×Int}(h:Fq q):(fr q).frac=true:=by
 simp[fr,D.frac,h.1,h.2]
theorem aI.tup_at{H:Hp}{ds:List D}{v:V}(h:aI H (.tup ds) v):∃a xs,v=.ref a/\H a=some (.tup xs)/\aJ H ds xs:=by
 unfold aI at h;exact h
theorem aI.lst_at{H:Hp}{ds:List D}{v:V}(h:aI H (.lst ds) v):∃a xs,v=.ref a/\H a=some (.lst xs)/\aJ H ds xs:=by
 unfold aI at h;exact h
theorem aJ.nil_at{H:Hp}{xs:List V}(h:aJ H [] xs):xs=[]:=by
 unfold aJ at h;exact h
theorem aJ.cons_at{H:Hp}{d:D}{ds:List D}{xs:List V}(h:aJ H (d::ds) xs):∃x r,xs=x::r/\aI H d x/\aJ H ds r:=by
 unfold aJ at h;exact h
theorem aI.int_at{H:Hp}{i:Int}{v:V}(h:aI H (.int i) v):v=.int i:=by
 unfold aI at h;exact h
theorem aJ.pair{H:Hp}{ds:List D}{xs:List V}(h:aJ H ds xs)(hl:xs.length=2):∃d1 d2 x1 x2,ds=[d1,d2]/\xs=[x1,x2]/\aI H d1 x1/\aI H d2 x2:=by
 have e:=h.length;match ds,e with
 | [],e=>rw[hl] at e;cases e
 | [_],e=>rw[hl] at e;cases e
 | _::_::_::_,e=>rw[hl] at e;cases e
 | [d1,d2],_ =>
  obtain⟨x1,r,rfl,h1,h⟩:=h.cons_at;obtain⟨x2,r,rfl,h2,h⟩:=h.cons_at;cases h.nil_at;exact⟨_,_,_,_,rfl,rfl,h1,h2⟩
theorem aI.mk_int{H:Hp}(i:Int):aI H (.int i) (.int i):=by unfold aI;rfl
theorem aJ.mk_nil{H:Hp}:aJ H [] []:=by unfold aJ;rfl
theorem aJ.mk_cons{H:Hp}{d:D}{ds:List D}{x:V}{xs:List V}(h1:aI H d x)(h2:aJ H ds xs):aJ H (d::ds) (x::xs):=by unfold aJ;exact⟨_,_,rfl,h1,h2⟩
theorem aI.mk_tup{H:Hp}{a:Addr}{ds:List D}{xs:List V}(h:H a=some (.tup xs))(r:aJ H ds xs):aI H (.tup ds) (.ref a):=by unfold aI;exact⟨_,_,rfl,h,r⟩
theorem aI.mk_lst{H:Hp}{a:Addr}{ds:List D}{xs:List V}(h:H a=some (.lst xs))(r:aJ H ds xs):aI H (.lst ds) (.ref a):=by unfold aI;exact⟨_,_,rfl,h,r⟩
theorem aI.fr_at{H:Hp}{q:Int×Int}{v:V}(h:aI H (fr q) v):∃a,v=.ref a/\H a=some (.tup [.int q.1,.int q.2]):=by
 obtain⟨a,xs,e,ha,r⟩:=h.tup_at;obtain⟨x1,r1,rfl,h1,r⟩:=r.cons_at;obtain⟨x2,r2,rfl,h2,r⟩:=r.cons_at;cases r.nil_at;rw[h1.int_at,h2.int_at] at ha;exact⟨a,e,ha⟩
theorem D.frac_tup{ds:List D}(h:(D.tup ds).frac=true):∃a b,ds=[.int a,.int b]/\Fq (a,b):=by
 unfold D.frac at h;split at h
 .rename_i t b e
  cases e;simp at h;exact⟨_,_,rfl,h.1,h.2⟩
 .cases h
abbrev Bt (n:Nat)(x:Int):Prop:=x.natAbs<2^n
theorem Bt.ib{n:Nat}{x:Int}(h:Bt n x):Builtin.Int.intBits x<=n:=by
 unfold Builtin.Int.intBits;split
 .exact YK _
 .rename_i h0
  have h1:x.natAbs≠0:=by
   intro e;apply h0
   have:x=0:=();rw[this];rfl
  have:=(Nat.log2_lt h1).mpr h;nofun
theorem cr{m n:Nat}{x y:Int}(hx:Bt m x)(hy:Bt n y)(h:m+n<=134217728:=by decide):IntMulOk x y:=PySem.IntMulOk.of_le hx.ib hy.ib h
theorem Bt.mono{m n:Nat}{x:Int}(hx:Bt m x)(h:m<=n):Bt n x:=Yd hx (YV ∅ h)
theorem Bt.mul{m n:Nat}{x y:Int}(hx:Bt m x)(hy:Bt n y):Bt (m+n) (x*y):=by
 unfold Bt;rw[YW,YX];exact Nat.mul_lt_mul'' hx hy
theorem Bt.add{m n:Nat}{x y:Int}(hx:Bt m x)(hy:Bt n y):Bt (max m n+1) (x+y):=by
 have h1:=hx.mono (Nat.le_max_left m n);have h2:=hy.mono (Nat.le_max_right m n);unfold Bt at *
 rw[Nat.pow_succ];have:=Int.natAbs_add_le x y;nofun
theorem Bt.sub{m n:Nat}{x y:Int}(hx:Bt m x)(hy:Bt n y):Bt (max m n+1) (x-y):=by
 have h1:=hx.mono (Nat.le_max_left m n);have h2:=hy.mono (Nat.le_max_right m n);unfold Bt at *
 rw[Nat.pow_succ];have:=Int.natAbs_sub_le x y;nofun
theorem Ic{x y:Int}(h:y≠0)(hb:Bt 9000 y):FV x y:=⟨h,by
 by_cases h0:y.natAbs=0
 .rw[h0];decide +kernel
 .exact (Nat.log2_lt h0).mpr hb⟩
theorem ze{x k:Int}{n:Nat}(hk:0<k)(h:k.natAbs<=2^n):Bt n (x.fmod k):=by
 have h1:=YS x hk;have h2:=YT x hk;unfold Bt;nofun
theorem gB{x y:Int}(hx:Bt 64 x):IntMulOk x y:=.of_left hx.ib
theorem DM{x y:Int}(hy:Bt 64 y):IntMulOk x y:=.of_right hy.ib
end L2
namespace L2
theorem iC{c A B:Prop} [Decidable c] (hc:c)(h:A):if c then A else B:=by rw[Yb hc];exact h
theorem dA{c A B:Prop} [Decidable c] (hc:¬ c)(h:B):if c then A else B:=by rw[Yc hc];exact h
end L2
namespace L2
theorem D.isInt_of{d:D}(h:¬ d.isInt=false):∃i,d=.int i:=by
 cases d<;>first|exact⟨_,rfl⟩|exact absurd rfl h
theorem DR{t b:Int}(h:b<1):(D.tup [.int t,.int b]).frac=false:=by
 simp only[D.frac,Ya (show ¬ (0:Int)<b by nofun),Bool.false_and]
theorem DG{t b:Int}(h:0<b):(D.tup [.int t,.int b]).frac=decide (((Int.gcd t b:Nat):Int)=1):=by
 simp only[D.frac,YO h,Bool.true_and];apply decide_eq_decide.mpr
 nofun
end L2
namespace L2
open PySem
def D.len:D->Nat
 | .lst ds=>ds.length
 | _=>0
mutual
def D.ib:D->Bool
 | .int i=>decide (i.natAbs<2^200)
 | .tup ds=>D.ibs ds
 | .lst ds=>D.ibs ds
 | _=>true
def D.ibs:List D->Bool
 | []=>true
 | d::ds=>d.ib && D.ibs ds
end
end L2
namespace L2
open PySem PySem.Spec PyProof.Rows
section
variable {prog:Program}{w:World}{A:Around}{R:Result->Shared->Prop}{s:Shared}
theorem tj{elt target iter:Expr}{ifs:List Expr}{scope:Scope}{pos:Pos}{it acc:Value}{env:Env}{EE:Value->Shared->Prop}(hEE:EE=notedBy (model prog w) A env λe s'=>R (.error e) s')(Iv:Nat->Shared->Prop)
  (turn:∀n s,Iv n s->wpAny (model prog w) A (pyNext it) (λr s1=>match r with
   | none=>R (.ok .next) s1
   | some v=>wpAny (model prog w) A (letOwnedTupleGo target it v) (λ_ s2=>wpAny (model prog w) A (assign target env v) (λ_ s3 =>
     wpAny (model prog w) A (forIn ifs true λc r=>if r=true then do let ok <-isTrue c env (eval c env);pure (ForInStep.yield ok) else pure (ForInStep.yield r)) (λok s4 =>
      if ok=true then wpAny (model prog w) A (eval elt env) (λx s5=>wpAny (model prog w) A (call (.builtin "list.append") [acc,x]) (λ_ s6=>∃m,m<n/\Iv m s6) EE s5) EE s4
      else ∃m,m<n/\Iv m s4) EE s3) EE s2) EE s1) EE s)
  (n:Nat)(h:Iv n s):codeAny (model prog w) A (.compLoop (.ListComp elt [⟨target,iter,ifs,0⟩] scope pos) 0 it acc env) R s:=by
 subst hEE;refine codeAny_loop rfl Iv (λn s hI=>?_) n h;show wpAny _ A ((compTurn (.ListComp elt [⟨target,iter,ifs,0⟩] scope pos) 0 it acc env).onRaise (λx=>do noteFrame x env;theTreesLotGoes x)) _ _ s
 refine wpAny_noted ?_;rw[compTurn_list];refine wpAny_bind (wpAny_standAt (wpAny_bind (wpAny_mono (turn n s hI) (λr s1 h1=>?_) λ_ _ h'=>h')));cases r with
 | none=>exact wpAny_pure h1
 | some v =>
  refine wpAny_bind (wpAny_mono h1 (λ_ s2 h2=>?_) λ_ _ h'=>h');refine wpAny_bind (wpAny_mono h2 (λ_ s3 h3=>wpAny_bind (wpAny_mono h3 (λok s4 h4=>?_) λ_ _ h'=>h')) λ_ _ h'=>h');cases ok with
  | false=>exact wpAny_pure ⟨rfl,h4⟩
  | true=>exact wpAny_bind (wpAny_bind (wpAny_mono h4 (λx s5 h5=>wpAny_bind (wpAny_mono h5 (λ_ s6 h6=>wpAny_pure (wpAny_pure ⟨rfl,h6⟩)) λ_ _ h'=>h')) λ_ _ h'=>h'))
end
def nJ(X:Cx)(scope:Scope)(cl:List (Str×Addr))(N:List Str)(C:Addr)(s:Shared)(H:Hp)(ex:List Addr):Cx :=
 { X with N:=N,s₀:=s,H₀:=H,env:=compEnvC scope cl C X.env,outer:=X.stack,ex:=ex,fn:=λ_=>false,pn:=[],xe:=λ_ _=>False }
def uD(X:Cx)(scope:Scope)(cl:List (Str×Addr)):List Str->List Nat->Prop
 | [],[]=>True
 | x::xs,j::js=>(X.N[j]? = some x /\ X.env.kindOf x = some .cell /\ (relabel scope X.env).names.lookup x = some .cell /\ (∃c,cl.lookup x = some c)) /\ uD X scope cl xs js
 | _,_=>False
theorem uD.length{X:Cx}{scope:Scope}{cl:List (Str×Addr)}:∀{xs:List Str}{js:List Nat},uD X scope cl xs js->js.length=xs.length
 | [],[],_=>rfl
 | _::_,_::_,h=>by simp[uD.length h.2]
 | [],_::_,h=>h.elim
 | _::_,[],h=>h.elim
theorem uD.get{X:Cx}{scope:Scope}{cl:List (Str×Addr)}:∀{xs:List Str}{js:List Nat}{k j:Nat}{x:Str},uD X scope cl xs js->xs[k]? = some x->js[k]? = some j ->
  X.N[j]? = some x /\ X.env.kindOf x = some .cell /\ (relabel scope X.env).names.lookup x = some .cell /\ ∃c,cl.lookup x = some c
 | [],_,_,_,_,_,e,_=>by simp at e
 | _::_,[],_,_,_,_,_,e=>by simp at e
 | x::xs,j::js,0,_,_,h,e1,e2=>by
  simp at e1 e2;subst e1;subst e2;exact h.1
 | x::xs,j::js,k+1,_,_,h,e1,e2=>uD.get (k:=k) h.2 (by simpa using e1) (by simpa using e2)
def lH(X:Cx):List (Str×Addr)->Prop
 | []=>True
 | p::r=>X.env.cells.lookup p.1=some p.2/\lH X r
theorem lH.mem{X:Cx}:∀{cl:List (Str×Addr)},lH X cl -> ∀p∈cl,X.env.cells.lookup p.1=some p.2
 | [],_,p,hp=>by cases hp
 | q::r,h,p,hp=>by
  rcases Y0.mp hp with rfl|hp
  .exact h.1
  .exact lH.mem h.2 p hp
structure pc (X:Cx)(scope:Scope)(cl:List (Str×Addr))(own outs:List Str)(ixs:List Nat):Prop where
 nocell:(scope.names.all λy=>y.2 != .cell)=true
 kind:scope.kind=.function
 names:(scope.names.all λy=>y.2 != .local || scope.names.lookup y.1==some .local)=true
 cells:lH X cl
 has:((relabel scope X.env).names.all λy=>!(y.2 == .cell || y.2 == .free) || (cl.lookup y.1).isSome) = true
 outs:uD X scope cl outs ixs
def PF(X:Cx)(ifs:List Expr)(t:TT):Prop :=
 ∀(pins:List (Addr×Obj))(s:Shared)(σ:St)(H:Hp)(Q:Bool->Hp->Prop),aU X pins σ H s->t σ H Q ->
  wpAny (model X.prog X.w) X.A (forIn ifs true λc r=>if r=true then do let ok <-isTrue c X.env (eval c X.env);pure (ForInStep.yield ok) else pure (ForInStep.yield r)) (TP X pins σ Q) X.xe s
def Eg:TT:=λ_ H Q=>Q true H
theorem HF{X:Cx}:PF X [] Eg:=λ_ _ _ H _ I h=>wpAny_tests_nil ⟨H,I,h⟩
theorem He{X:Cx}{c:Expr}{t:TT}(h:PT X c t):PF X [c] t:=λpins s σ H Q I q=>wpAny_tests_one (h pins s σ H Q I q)
def mK(K:W.Frag)(J:It)(g:TG)(tif:TT)(te:TE)(a:Addr)(σ0:St)(H0:Hp)(Q:Hp->Prop):Prop:=∃W:Nat->Nat->St->Hp->Prop,(∃m,W 0 m σ0 H0) /\ ∀i m σ H,W i m σ H ->
 (J.stop i H/\Q H)\/(J.go i H /\ ∃N:St->Hp->Prop,(∀σ' H',N σ' H' -> ∃m',m'<m/\W (i+1) m' σ' H') /\ ∀x H',J.yld i H x H'->g x σ H' λσ2 H2=>tif σ2 H2 λb H3=>if b=true then te σ2 H3 λv H4=>∃xs,vw K H4 a=some (.lst xs)/\xs.length<sizeLine /\
  ∀H5,fV a (vw K H4) (vw K H5)->vw K H5 a=some (.lst (xs++[v]))->N σ2 H5 else N σ2 H3)
def vW(σ:St)(ixs:List Nat):St:=ixs.map λj=>(σ[j]?).join
def ux(K:W.Frag)(wi:TI)(n:Nat)(ixs:List Nat)(g:TG)(tif:TT)(te:TE):TE:=λσ H Q=>wi σ H λJ H1=>∀a H2,vw K H1 a=none->aB (vw K H1) (vw K H2)->vw K H2 a=some (.lst [])->mK K J g tif te a (List.replicate n none++vW σ ixs) H2 (Q (.ref a))
section
variable {X:Cx}
theorem rJ{tg iter elt:Expr}{ifs:List Expr}{scope:Scope}{pos ipos:Pos}{wi:TI}{g:TG}{tif:TT}{te:TE}{cl:List (Str×Addr)}{own outs:List Str}{ixs:List Nat}{use:Option (Value->Sem Unit)}{Qv:Value->Shared->Prop}
  (hc:X.calm=true)(hi:PI X tg iter wi)(hclos:closureFor scope X.env=pure cl)(S:pc X scope cl own outs ixs)
  {G:Shared->Hp->List Addr->Prop}(hb:∀C s H ex,G s H ex->PG (nJ X scope cl (own++outs) C s H ex) tg g/\PF (nJ X scope cl (own++outs) C s H ex) ifs tif/\PE (nJ X scope cl (own++outs) C s H ex) elt te)
  (hs:∀x,foldedSetIterable iter X.env x=pure x) {pins:List (Addr×Obj)}{s:Shared}{σ:St}{H:Hp}(hG:∀s2 H1 H2 fp,aU X pins σ H2 s2->(∀b∈fp,m5 X pins H1 b)->G s2 H2 fp)(I:aU X pins σ H s)(Qd:Addr->Hp->Prop)
  (hfin:∀(a C:Addr)(H':Hp)(s4:Shared)(m:Str->Option Value),aU X pins σ H' s4->m5 X pins H' C->s4.heap.Ns C m->Qd a H'->compPost (model X.prog X.w) X.A X.xe use Qv (.ref a) C (.ok .next) s4)
  (h:wi σ H λJ H1=>∀a H2,vw X.K H1 a=none->aB (vw X.K H1) (vw X.K H2)->vw X.K H2 a=some (.lst [])->mK X.K J g tif te a (List.replicate own.length none++vW σ ixs) H2 (Qd a)) :
  wpAny (model X.prog X.w) X.A (comprehension (.ListComp elt [⟨tg,iter,ifs,0⟩] scope pos) scope X.env ipos (newList []) false (eval iter X.env) use) Qv X.xe s:=by
 have Snc:∀y∈scope.names,y.2 ≠ .cell:=λy hy z=>by
  have:=List.all_eq_true.mp S.nocell y hy;rw[z] at this;cases this
 have Snm:∀y∈scope.names,y.2=.local->scope.names.lookup y.1=some .local:=λy hy z=>by
  have:=List.all_eq_true.mp S.names y hy;rw[z] at this;simpa using this
 have Shs:∀y∈(relabel scope X.env).names,(y.2=.cell \/ y.2=.free) -> (cl.lookup y.1).isSome = true:=λy hy z=>by
  have:=List.all_eq_true.mp S.has y hy;rcases z with z|z
  .rw[z] at this;simpa using this
  .rw[z] at this;simpa using this
 refine wpAny_comprehension_free (use:=use) rfl hs hclos S.kind Snm (wpAny_mono (hi pins s σ H _ I h) (λxv s1 h1=>wpAny_mono h1 (λitv s2 h2=>?_) λ_ _ e=>e) λ_ _ e=>e);obtain⟨it,fp,tn,J,H1,rfl,I1,T,st1,f1,q⟩:=h2;refine wpAny_newObj_type (wpAny_newFunctionEnv Snc (by intro y hy;simp at hy) (λh₁ hns₁ hsb₁=>?_) S.kind)
 dsimp only at hns₁ hsb₁ ⊢;have I2:aU X pins σ (upd H1 s2.heap.objs.size (.lst [])) { s2 with heap:=s2.heap.push { cls:=.type "list",dict:=none,data:=.seq ([]:List Value).toArray } }:=I1.lnew (t':=s2.toks) .nil (YK _)
 have q2:=q s2.heap.objs.size (upd H1 s2.heap.objs.size (.lst [])) (by rw[eH (I1.newK (Yp _))];exact I1.fresh) (lB (aB.upd I1.fresh)) (by rw[eH (I1.newK (Yp _))];exact de)
 have fr2:∀b∈fp,(upd H1 s2.heap.objs.size (.lst [])) b=none:=λb hb=>by
  obtain⟨o,ho,_⟩:=T.obj _ _ st1 b hb;rw[cL (Yf (Heap.lt_size ho))];exact (f1 b hb).1
 generalize hH2:upd H1 s2.heap.objs.size (.lst [])=H2 at I2 q2 fr2;generalize hs3:s2.heap.push { cls:=.type "list",dict:=none,data:=.seq ([]:List Value).toArray } = hp3 at I2 hns₁ hsb₁ ⊢;have old23:∀b o,s2.heap.get? b=some o->hp3.get? b=some o:=λb o e=>hs3▸Heap.get?_push_of_some _ e;have ltC:∀{b:Addr}{o:Obj},hp3.get? b=some o->b≠hp3.objs.size:=λe=>Yf (Heap.lt_size e);have old:∀b o,hp3.get? b=some o->h₁.get? b=some o:=λb o e=>hsb₁.extBut b o (ltC e) (Heap.get?_push_of_some _ e);have clc:∀x c,cl.lookup x=some c->X.env.cells.lookup x=some c:=λx c e=>S.cells.mem (x,c) (Yv e);obtain⟨W,⟨m0,w0⟩,turn⟩:=q2;have fpo:∀b∈fp,∃o,hp3.get? b=some o:=λb hb=>by
  obtain⟨o,ho,_⟩:=T.obj _ _ st1 b hb;exact⟨o,old23 b o ho⟩
 have ok:(nJ X scope cl (own++outs) hp3.objs.size { s2 with heap:=hp3 } H2 fp).Ok:=by
  refine⟨I.ok.mod,S.kind,I.ok.glob,I.ok.blt,Yp _,λx y c e1 e2=>I.ok.inj x y c (clc x c e1) (clc y c e2),λx hx=>?_,λx c hf _=>(by cases hf),I.ok.hd,I.ok.frames,.inl rfl,λb hb=>⟨?_,λx c e=>?_⟩,I2.bs,Yg I.ok.bsz I2.sz,λb o e hb=>?_,λb hb hz=>?_,I2.stack,I2.stkFree⟩
  .have hx':(relabel scope X.env).names.lookup x = some .cell \/ (relabel scope X.env).names.lookup x = some .free:=hx;have:(cl.lookup x).isSome=true:=by
    rcases hx' with e|e
    .exact Shs _ (Yv e) (.inl rfl)
    .exact Shs _ (Yv e) (.inr rfl)
   exact Option.isSome_iff_exists.mp this
  .obtain⟨o,ho⟩:=fpo b hb;exact ltC ho
  .exact (f1 b hb).2.2.2.2.1 x c (clc x c e)
  .rcases (f1 b hb).2.2.2.1 with z|z
   .exact I.ok.noex b o e z
   .exact absurd (Yd (Heap.lt_size e) (Yg I.ok.bsz z)) (Ye _)
  .rcases Y0.mp (I2.stkSub b hz) with z|z
   .exact (f1 b hb).2.1 z
   .exact (f1 b hb).2.2.1 z
 have I4:aU (nJ X scope cl (own++outs) hp3.objs.size { s2 with heap:=hp3 } H2 fp) [] (List.replicate own.length none++vW σ ixs) H2 { s2 with heap:=h₁,toks:=s2.toks+([]:List (Str×Value)).length }:=by
  refine⟨ok,rfl,I2.bare,Un.kept old,⟨_,hns₁,λi x v e1 e2 e3=>?_⟩,λx c e=>?_,I2.hok.fresh (Yp _),λx c e=>I2.freeC x c (clc x c e),λp hp=>by simp[nJ] at hp,I2.hok.kept old,?_⟩
  .have e1':(own++outs)[i]? = some x:=e1;have hi':own.length<=i:=by
    by_cases hlt:i<own.length
    .rw[Yy (by simpa using hlt),Yx,Yb hlt] at e2
     cases e2
    .nofun
   rw[Yw (by simpa using hi')] at e2
   rw[Yw hi'] at e1';rw[YD] at e2;unfold vW at e2;rw[Yz] at e2;cases ej:ixs[i-own.length]? with
   | none=>rw[ej] at e2;cases e2
   | some j =>
    rw[ej] at e2;obtain⟨hN,hk,hr,c,hcl⟩:=S.outs.get e1' ej;have e4:(σ[j]?).join=some v:=Ym e2;have e5:σ[j]? = some (some v):=by
     cases es:σ[j]? with
     | none=>rw[es] at e4;cases e4
     | some o=>rw[es] at e4;exact Yn some e4
    obtain⟨m,hn,hl⟩:=I2.loc;obtain⟨u,ru,l⟩:=hl j x v hN e5 (.inr (.inl hk));refine⟨u,ru,.inr ⟨.inl hr,c,hcl,?_⟩⟩;rcases l with ⟨z,_⟩|⟨_,c',hc',cell⟩
    .rw[hk] at z;cases z
    .rw[clc x c hcl] at hc';cases hc';obtain⟨o,ho,hd⟩:=cell;exact⟨o,old _ _ ho,hd⟩
  .obtain⟨v,o,ho,hd⟩:=I2.cell x c (clc x c e);exact⟨v,o,old _ _ ho,hd⟩
  .show (List.replicate own.length none++vW σ ixs).length=(own++outs).length;unfold vW;rw[YB,YB,YD,YC,S.outs.length]
 obtain⟨hg,hf,he⟩:=hb hp3.objs.size { s2 with heap:=hp3 } H2 fp (hG _ _ _ _ I2 f1);have stat:∀{H':Hp},(∀b∈fp,H' b=none) -> ∀b∈fp,m5 (nJ X scope cl (own++outs) hp3.objs.size { s2 with heap:=hp3 } H2 fp) [] H' b:=λhn b hb =>
  ⟨hn b hb,(ok.exf b hb).1,ok.exfs b hb,.inl hb,(ok.exf b hb).2,λp hp=>by simp[nJ] at hp⟩
 have noE:∀{α:Type}{t:Sem α}{Q':α->Shared->Prop}{s':Shared}{E':Value->Shared->Prop},wpAny (model X.prog X.w) X.A t Q' (λ_ _=>False) s'->wpAny (model X.prog X.w) X.A t Q' E' s':=λh=>wpAny_mono h (λ_ _ z=>z) λ_ _ z=>z.elim;have loop:codeAny (model X.prog X.w) X.A (.compLoop (.ListComp elt [⟨tg,iter,ifs,0⟩] scope pos) 0 (.ref it) (.ref s2.heap.objs.size) (compEnvC scope cl hp3.objs.size X.env))
   (compPost (model X.prog X.w) X.A X.xe use Qv (.ref s2.heap.objs.size) hp3.objs.size) { s2 with heap:=h₁,toks:=s2.toks+([]:List (Str×Value)).length }:=by
  refine tj rfl (λn s'=>∃i σ' H',aU (nJ X scope cl (own++outs) hp3.objs.size { s2 with heap:=hp3 } H2 fp) [] σ' H' s'/\tn i s'.heap/\(∀b∈fp,H' b=none)/\W i n σ' H') ?_ m0
   ⟨0,_,H2,I4,T.keep _ _ _ st1 λb hb o e=>old b o (old23 b o e),fr2,w0⟩
  rintro n s' ⟨i,σ',H',I',st',fr',w'⟩;rcases turn i n σ' H' w' with ⟨stop,qn⟩|⟨go,N,hN,step⟩
  .refine dy (T.done (nJ X scope cl (own++outs) hp3.objs.size { s2 with heap:=hp3 } H2 fp) rfl rfl rfl hc i [] s' σ' H' _ I' (stat fr') st' stop) λr s4 ⟨hr,I4'⟩=>?_
   subst hr;obtain⟨m,hn,_⟩:=I4'.loc;have kC:∀b o,b≠hp3.objs.size->s4.heap.get? b=some o->s4.heap.get? b=some o:=λb o hb e=>e;have tC:∀b u,H' b=some u->b≠hp3.objs.size:=λb u e z=>by
    have:=I4'.free;rw[z] at e;rw[show H' hp3.objs.size=none from this] at e
    cases e
   have base:=I4'.base;have un:Un (Au X.stack) fp H2 H' hp3 s4.heap:=⟨λb o e n1 hb hx=>kC b o (ltC e) (base.keep b o e n1 hb hx),λb o e n1 hb hx=>by
     obtain⟨sl,z⟩:=base.slot b o e n1 hb hx;exact⟨sl,kC b _ (ltC e) z⟩,base.free,λb o e hx=>by
     obtain⟨o',z⟩:=base.there b o e hx;exact⟨o',kC b o' (ltC e) z⟩,base.tups,base.frzs,base.tbls⟩
   exact hfin _ _ H' s4 m (I2.call' (s':=s4) (ch:=fp) I4'.os un I4'.hok I4'.bare (λb hb=>⟨(f1 b hb).2.2.2.1,(f1 b hb).2.1,(f1 b hb).2.2.2.2.1,(f1 b hb).2.2.2.2.2⟩)) (I2.fpOk (Yp _) I4'.free) hn qn
  .refine dy (T.item (nJ X scope cl (own++outs) hp3.objs.size { s2 with heap:=hp3 } H2 fp) rfl rfl rfl hc i [] s' σ' H' _ I' (stat fr') st' go) λr s4 ⟨u,hr,h4⟩=>?_
   subst hr;refine dy h4 λ_ s5 ⟨x,H5,I5,r5,y5,st5,fr5⟩=>?_;have I5':=I5.pinned (stat fr5) (T.obj _ _ st5);have back:∀{σ7:St}{H7:Hp}{s7:Shared},aU (nJ X scope cl (own++outs) hp3.objs.size { s2 with heap:=hp3 } H2 fp) ([]++pH fp s5.heap) σ7 H7 s7 -> ∀m',m'<n->W (i+1) m' σ7 H7 ->
     ∃m,m<n /\ ∃i σ' H',aU (nJ X scope cl (own++outs) hp3.objs.size { s2 with heap:=hp3 } H2 fp) [] σ' H' s7/\tn i s7.heap/\(∀b∈fp,H' b=none)/\W i m σ' H':=λ{σ7 H7 s7} I7 m' hm w7=>by
    refine⟨m',hm,i+1,σ7,H7,I7.unpinned,T.keep _ _ _ st5 λb hb o e=>(I7.pin (b,o) (Yr _ (Yr _ (i9 hb e)))).1,λb hb=>?_,w7⟩;obtain⟨o,e,d⟩:=T.obj _ _ st5 b hb;exact (I7.pin (b,o) (Yr _ (Yr _ (i9 hb e)))).2.1
   refine dy (noE (hg _ s5 σ' H5 x u _ I5' r5 (step x H5 y5))) λ_ s6 ⟨σ6,H6,I6,q6⟩=>?_;refine dy (noE (hf _ s6 σ6 H6 _ I6 q6)) λok s7 ⟨H7,I7,q7⟩=>?_;cases ok with
   | false =>
    rw[Yc Yo] at q7 ⊢;obtain⟨m',hm,w7⟩:=hN _ _ q7;exact back I7 m' hm w7
   | true =>
    rw[Yb rfl] at q7 ⊢;refine dy (noE (he _ s7 σ6 H7 _ I7 q7)) λv s8 ⟨xv,H8,I8,r8,q8⟩=>?_;obtain⟨xs,hxs,hz,q8⟩:=q8;refine dy (noE (rg _ s8 σ6 H8 (.ref s2.heap.objs.size) [xv] _ [v] (λ_ H9=>N σ6 H9) I8 rfl (.cons r8 .nil) ⟨_,xs,xv,rfl,rfl,aQ hxs,hz,q8 _ (BS fV.upd) ((eH (show X.K.lookup _=none from I8.noK (aQ hxs))).trans de)⟩)) λ_ s9 ⟨_,H9,I9,_,n9⟩=>?_
    obtain⟨m',hm,w9⟩:=hN _ _ n9;exact back I9 m' hm w9
 exact codeAny_compStart_list loop (T.self _ 0 _ _ _ (T.keep _ _ _ st1 λb hb o e=>old b o (old23 b o e)) loop)
theorem Ex{tg iter elt:Expr}{ifs:List Expr}{scope:Scope}{pos:Pos}{wi:TI}{g:TG}{tif:TT}{te:TE}{cl:List (Str×Addr)}{own outs:List Str}{ixs:List Nat}
  (hc:X.calm=true)(hi:PI X tg iter wi)(hclos:closureFor scope X.env=pure cl)(S:pc X scope cl own outs ixs)
  (hb:∀C s H ex,PG (nJ X scope cl (own++outs) C s H ex) tg g/\PF (nJ X scope cl (own++outs) C s H ex) ifs tif/\PE (nJ X scope cl (own++outs) C s H ex) elt te)
  (hs:∀x,foldedSetIterable iter X.env x=pure x:=by intro _;rfl) :
  PE X (.ListComp elt [⟨tg,iter,ifs,0⟩] scope pos) (ux X.K wi own.length ixs g tif te):=by
 intro pins s σ H Q I h;rw[eval_ListComp];refine rJ (G:=λ_ _ _=>True) hc hi hclos S (λC s H ex _=>hb C s H ex) hs (λ_ _ _ _ _ _=>trivial) I (λa H'=>Q (.ref a) H') (λa C H' s4 m J4 fC hn q=>⟨m,hn,λh' hsb=>?_⟩) h;obtain⟨f0,f1,f2,f3,f4,f5⟩:=fC;exact⟨.ref a,H',J4.turned (t':=s4.toks) (λb o hb e=>hsb.extBut b o hb e) f0 f1 f3 f4 f5,rfl,q⟩
theorem DC{tg iter elt:Expr}{ifs:List Expr}{scope:Scope}{pos spos py:Pos}{y:Str}{i:Nat}{wi:TI}{g:TG}{tif:TT}{te:TE}{cl:List (Str×Addr)}{own outs:List Str}{ixs:List Nat}
  (hN:X.N.Nodup)(hy:X.N[i]? = some y)(hx:Dt X.env.scope y)(hc:X.calm=true)(hi:PI X tg iter wi)(hclos:closureFor scope X.env=pure cl)(S:pc X scope cl own outs ixs)
  (hb:∀C s H ex,PG (nJ X scope cl (own++outs) C s H ex) tg g/\PF (nJ X scope cl (own++outs) C s H ex) ifs tif/\PE (nJ X scope cl (own++outs) C s H ex) elt te)
  (hsw:swapsWith (.ListComp elt [⟨tg,iter,ifs,0⟩] scope pos) (some (.Name y py)) spos.line X.env=pure true:=by rfl)
  (hs:∀x,foldedSetIterable iter X.env x=pure x:=by intro _;rfl)(hf:X.fn y=true\/X.env.scope.names.lookup y=some .local:=by first|exact .inl rfl|exact .inr rfl|assumption) :
  PS X (.Assign [.Name y py] (.ListComp elt [⟨tg,iter,ifs,0⟩] scope pos) spos) (xD (ux X.K wi own.length ixs g tif te) (gf i)):=by
 intro pins s σ H D I h;rw[exec_Assign_Name_used _ _ _ _ hsw];refine wpAny_bind (wpAny_standAt (wpAny_bind ?_));show wpAny _ X.A (do let _ <-comprehension (.ListComp elt [⟨tg,iter,ifs,0⟩] scope pos) scope X.env _ (newList []) false (eval iter X.env) (some (assign (.Name y py) X.env))) _ _ s
 refine wpAny_bind (wpAny_mono (rJ (use:=some (assign (.Name y py) X.env)) (Qv:=λ_ s'=>SP X pins D .next s') (G:=λ_ _ _=>True) hc hi hclos S (λC s H ex _=>hb C s H ex) hs (λ_ _ _ _ _ _=>trivial) I (λa H'=>D.nx (σ.set i (some (.ref a))) H') (λa C H' s4 m J4 fC hn q=>?_) h) (λ_ s' hq=>wpAny_pure (wpAny_pure hq)) λ_ _ e=>e)
 obtain⟨f0,f1,f2,f3,f4,f5⟩:=fC;refine wpAny_assign_Name (rD J4 hN hy hx (v:=.ref a) rfl (λs5 I5 hsame=>?_) hf);obtain⟨b,sb,hb'⟩:=hsame;have nb:C≠b:=λe=>by
  rcases hb' with z|z
  .exact f1 (e.trans z)
  .exact f4 _ _ z e.symm
 exact⟨m,hn.sameBut sb nb,λh' hsb=>⟨_,H',I5.turned (t':=s5.toks) (λb o hb e=>hsb.extBut b o hb e) f0 f1 f3 f4 f5,q⟩⟩
end
theorem JG{X:Cx}{scope:Scope}{cl:List (Str×Addr)}{N:List Str}{C:Addr}{s:Shared}{H:Hp}{ex:List Addr}:(nJ X scope cl N C s H ex).K=X.K:=rfl
mutual
def D.py:D->PyData
 | .non=>.none
 | .bl b=>.bool b
 | .int i=>.int i
 | .str x=>.str x
 | .dict=>.dict []
 | .tup ds=>.tuple (D.pys ds)
 | .lst ds=>.list (D.pys ds)
def D.pys:List D->List PyData
 | []=>[]
 | d::ds=>d.py::D.pys ds
end
def D.cmp(d:D):Prop:=d.py.canLay0=true/\d.py.depth<=30
def EF(d e:D):Bool:=PyData.eqv d.py e.py
section
variable {X:Cx}{pins:List (Addr×Obj)}{σ:St}{H:Hp}{s:Shared}
mutual
theorem aI.reads(I:aU X pins σ H s):∀(d:D)(v:V)(u:Value),aI (vw X.K H) d v->cC v u->d.py.canLay0=true -> ∃as,Reads s.heap u d.py as
 | .non,v,u,h,r,_=>by
  unfold aI at h;subst h;cases r;exact⟨_,by unfold D.py;exact .none⟩
 | .bl b,v,u,h,r,_=>by
  unfold aI at h;subst h;cases r;exact⟨_,by unfold D.py;exact .bool b⟩
 | .int i,v,u,h,r,_=>by
  unfold aI at h;subst h;obtain⟨t,rfl⟩:=r;exact⟨_,by unfold D.py;exact .int i t⟩
 | .str x,v,u,h,r,_=>by
  unfold aI at h;subst h;obtain⟨t,rfl⟩:=r;exact⟨_,by unfold D.py;exact .str x t⟩
 | .dict,v,u,h,r,hc=>by
  unfold D.py PyData.canLay0 at hc;cases hc
 | .tup ds,v,u,h,r,hc=>by
  obtain⟨a,xs,rfl,ha,rs⟩:=h.tup_at;cases r;unfold D.py at hc ⊢;obtain⟨its,rv,p,hz⟩:=I.tuple (cZ ha);obtain⟨o,h1,h2,n,h3⟩:=p;obtain⟨as,ra⟩:=aJ.reads I ds xs its rs rv (by unfold PyData.canLay0 at hc;exact hc)
  exact⟨_,.tuple h1 h2 h3 (by simpa using ra)⟩
 | .lst ds,v,u,h,r,hc=>by
  obtain⟨a,xs,rfl,ha,rs⟩:=h.lst_at;cases r;unfold D.py at hc ⊢;obtain⟨its,rv,p,hz⟩:=I.list (ke.of (K:=X.K) (aQ ha));obtain⟨o,n,h1,h2,h3,h4⟩:=p;obtain⟨as,ra⟩:=aJ.reads I ds xs its rs rv (by unfold PyData.canLay0 at hc;exact hc)
  exact⟨_,.list h1 h2 h4 (by simpa using ra)⟩
theorem aJ.reads(I:aU X pins σ H s):∀(ds:List D)(xs:List V)(us:List Value),aJ (vw X.K H) ds xs->bV xs us->PyData.canLayAll0 (D.pys ds)=true -> ∃as,ReadsAll s.heap us (D.pys ds) as
 | [],xs,us,h,r,_=>by
  cases h.nil_at;cases r;exact⟨_,by unfold D.pys;exact .nil⟩
 | d::ds,xs,us,h,r,hc=>by
  obtain⟨x,ys,rfl,h1,h2⟩:=h.cons_at;cases r with
  | cons r1 r2 =>
   unfold D.pys PyData.canLayAll0 at hc;rw[YF] at hc;obtain⟨as,ra⟩:=aI.reads I d x _ h1 r1 hc.1;obtain⟨bs,rb⟩:=aJ.reads I ds ys _ h2 r2 hc.2;exact⟨_,by unfold D.pys;exact .cons ra rb⟩
end
end
def Fm(K:W.Frag)(neg:Bool):R2:=λx y H Q=>∃d e,aI (vw K H) d x/\aI (vw K H) e y/\d.cmp/\e.cmp/\Q (.bl (if neg then !EF d e else EF d e)) H
section
variable {X:Cx}
theorem rZ(hu:X.A.units+64<cLine):el X (compareOp .Eq) (Fm X.K false):=by
 intro pins s σ H x y v u Q I rx ry h;obtain⟨d,e,h1,h2,c1,c2,q⟩:=h;obtain⟨as,r1⟩:=aI.reads I d x v h1 rx c1.1;obtain⟨bs,r2⟩:=aI.reads I e y u h2 ry c2.1;exact SeqAt.compareEq_reads r1 r2 c1.1 c2.1 (by have:=c1.2;nofun) ⟨.bl _,H,I,rfl,q⟩
theorem pD(hu:X.A.units+64<cLine):el X (compareOp .NotEq) (Fm X.K true):=by
 intro pins s σ H x y v u Q I rx ry h;obtain⟨d,e,h1,h2,c1,c2,q⟩:=h;obtain⟨as,r1⟩:=aI.reads I d x v h1 rx c1.1;obtain⟨bs,r2⟩:=aI.reads I e y u h2 ry c2.1;exact SeqAt.compareNe_reads r1 r2 c1.1 c2.1 (by have:=c1.2;nofun) ⟨.bl _,H,I,rfl,q⟩
end
def kD(K:W.Frag)(H:Hp)(a:Addr)(xs:List V):Prop:=(K.lookup a=none/\Rd H a (.lst xs)) \/
 ∃(o:Obj)(its:Array Value)(n:Nat),K.lookup a=some o/\o.cls=.type "list" /\ o.dict=none/\o.data=.seq its n/\its.size<=sizeLine/\bV xs its.toList
theorem kD.sq{K:W.Frag}{H:Hp}{a:Addr}{xs:List V}(h:kD K H a xs):ke K H a xs:=h.imp (λz=>z.2) λz=>z
theorem kD.of{K:W.Frag}{H:Hp}{a:Addr}{xs:List V}(h:ke K H a xs)(hk:H a≠none->K.lookup a=none):kD K H a xs:=by
 rcases h with h|h
 .refine .inl ⟨hk ?_,h⟩;rcases h with h|⟨o,h⟩<;>rw[h]<;>simp
 .exact .inr h
theorem kD.same{K:W.Frag}{H H':Hp}{a:Addr}{xs:List V}(h:kD K H a xs)(S:aB (vw K H) (vw K H')):kD K H' a xs:=by
 rcases h with ⟨hk,h⟩|h
 .refine .inl ⟨hk,?_⟩;rcases h with h|⟨o,h⟩
  .have:=S a _ ((eH hk).trans h);rw[eH hk] at this;exact .inl this
  .have:=S a _ ((eH hk).trans h);rw[eH hk] at this;exact .inr ⟨o,this⟩
 .exact .inr h
end L2
namespace L2
open PySem PySem.Spec PyProof.Rows
mutual
def D.flat:D->Bool
 | .lst _=>false
 | .tup ds=>D.flats ds
 | _=>true
def D.flats:List D->Bool
 | []=>true
 | d::ds=>d.flat && D.flats ds
end
section
variable {H H':Hp}{l:Addr}{xs:List V}
mutual
theorem aI.flat_but(hl:H l=some (.lst xs))(S:fV l H H'):∀(d:D)(v:V),d.flat=true->aI H d v->aI H' d v
 | .non,v,_,h=>by unfold aI at h ⊢;exact h
 | .bl b,v,_,h=>by unfold aI at h ⊢;exact h
 | .int i,v,_,h=>by unfold aI at h ⊢;exact h
 | .str x,v,_,h=>by unfold aI at h ⊢;exact h
 | .dict,v,_,h=>by
  unfold aI at h ⊢;obtain⟨a,kvs,rfl,h⟩:=h;exact⟨a,kvs,rfl,S _ _ (λe=>by rw[e,hl] at h;cases h) h⟩
 | .tup ds,v,hf,h=>by
  obtain⟨a,ys,rfl,h,rs⟩:=h.tup_at;unfold D.flat at hf;exact .mk_tup (S _ _ (λe=>by rw[e,hl] at h;cases h) h) (aJ.flat_but hl S ds ys hf rs)
 | .lst ds,v,hf,h=>by unfold D.flat at hf;cases hf
theorem aJ.flat_but(hl:H l=some (.lst xs))(S:fV l H H'):∀(ds:List D)(ys:List V),D.flats ds=true->aJ H ds ys->aJ H' ds ys
 | [],ys,_,h=>by cases h.nil_at;exact .mk_nil
 | d::ds,ys,hf,h=>by
  obtain⟨y,r,rfl,h1,h2⟩:=h.cons_at;unfold D.flats at hf;rw[YF] at hf;exact .mk_cons (aI.flat_but hl S d y hf.1 h1) (aJ.flat_but hl S ds r hf.2 h2)
end
end
theorem bA(q:Int×Int):(fr q).flat=true:=by simp[fr,D.flat,D.flats]
theorem cJ:∀(qs:List (Int×Int)),D.flats (qs.map fr)=true
 | []=>by simp[D.flats]
 | q::qs=>by
  rw[YN];unfold D.flats;rw[bA,cJ qs];rfl
theorem aJ.app{H:Hp}:∀{ds es:List D}{xs ys:List V},aJ H ds xs->aJ H es ys->aJ H (ds++es) (xs++ys)
 | [],es,xs,ys,h,g=>by cases h.nil_at;exact g
 | d::ds,es,xs,ys,h,g=>by
  obtain⟨x,r,rfl,h1,h2⟩:=h.cons_at;exact .mk_cons h1 (aJ.app h2 g)
theorem aJ.snoc{H:Hp}{ds:List D}{xs:List V}{d:D}{x:V}(h:aJ H ds xs)(g:aI H d x):aJ H (ds++[d]) (xs++[x]):=h.app (.mk_cons g .mk_nil)
theorem aJ.at{H:Hp}{ds:List D}{xs:List V}(h:aJ H ds xs) {i:Nat}{d:D}(hd:ds[i]? = some d):∃x,xs[i]? = some x/\aI H d x:=by
 have hi:i<ds.length:=(List.getElem?_eq_some_iff.mp hd).1;have hi':i<xs.length:=by rw[h.length];exact hi
 obtain⟨d',e,r⟩:=h.get (YR hi');rw[hd] at e;cases e;exact⟨_,YR hi',r⟩
theorem aJ.take{H:Hp}:∀{ds:List D}{xs:List V}(n:Nat),aJ H ds xs->aJ H (ds.take n) (xs.take n)
 | ds,xs,0,h=>by simp;exact .mk_nil
 | [],xs,n+1,h=>by cases h.nil_at;exact .mk_nil
 | d::ds,xs,n+1,h=>by
  obtain⟨x,r,rfl,h1,h2⟩:=h.cons_at;exact .mk_cons h1 (h2.take n)
theorem aJ.drop{H:Hp}:∀{ds:List D}{xs:List V}(n:Nat),aJ H ds xs->aJ H (ds.drop n) (xs.drop n)
 | ds,xs,0,h=>h
 | [],xs,n+1,h=>by cases h.nil_at;exact .mk_nil
 | d::ds,xs,n+1,h=>by
  obtain⟨x,r,rfl,h1,h2⟩:=h.cons_at;exact h2.drop n
def aK(G:Hp)(a:Addr)(qs:List (Int×Int)):Prop:=∃xs,G a=some (.lst xs)/\aJ G (qs.map fr) xs
section
variable {G G':Hp}{a l:Addr}{qs:List (Int×Int)}{xs:List V}
theorem aK.same(h:aK G a qs)(S:aB G G'):aK G' a qs:=by
 obtain⟨ys,h1,h2⟩:=h;exact⟨ys,S _ _ h1,h2.same S⟩
theorem aK.but(h:aK G a qs)(hl:G l=some (.lst xs))(hn:a≠l)(S:fV l G G'):aK G' a qs:=by
 obtain⟨ys,h1,h2⟩:=h;exact⟨ys,S _ _ hn h1,aJ.flat_but hl S _ _ (cJ qs) h2⟩
theorem aK.rep(h:aK G a qs):aI G (.lst (qs.map fr)) (.ref a):=by
 obtain⟨ys,h1,h2⟩:=h;exact .mk_lst h1 h2
theorem aK.len(h:aK G a qs):dJ G a=some qs.length:=by
 obtain⟨ys,h1,h2⟩:=h;unfold dJ;rw[h1];simp only[h2.length,YC]
theorem aK.ne_st{st:Addr}(h:aK G a qs)(hst:eC G st):a≠st:=by
 rintro rfl;obtain⟨ys,h1,h2⟩:=h;obtain⟨x,b,h3,_⟩:=hst;rw[h1] at h3;cases h3;cases qs with
 | nil=>cases h2.nil_at
 | cons q qs =>
  obtain⟨y,r,e,h4,h5⟩:=aJ.cons_at h2;cases e;obtain⟨c,e,_⟩:=h4.fr_at;cases e
theorem aK.stBut{st:Addr}(h:aK G a qs)(hst:eC G st)(S:fV st G G'):aK G' a qs:=by
 obtain⟨x,b,h3,_⟩:=hst;exact h.but h3 (h.ne_st ⟨x,b,h3,by assumption⟩) S
theorem eC.but{st:Addr}(h:eC G st)(hl:G l=some (.lst xs))(hn:st≠l)(S:fV l G G'):eC G' st:=by
 obtain⟨x,b,h3,h4⟩:=h;exact⟨x,b,S _ _ hn h3,h4⟩
end
theorem zP{CX:zK}{P:Program}{w:World}{K:W.Frag}{mg:Str->Option Value}{base:Heap}{N:List Str}{qual:Str}{scope:Scope}{f:Addr}{cd:Value}{A:Around}{outer:List Env}{s:Shared}{H:Hp}{E:XK} :
  (tH CX P w K mg base N qual scope f cd A outer s H E).nox.K=K:=rfl
def Bl(t u:TS):TS:=λD σ H=>∃R:St->Hp->Prop,(∀σ' H',R σ' H'->u D σ' H')/\t { D with nx:=R } σ H
theorem Bl.mk{t u:TS}{D:nO}{σ:St}{H:Hp}(R:St->Hp->Prop)(h1:t { D with nx:=R } σ H)(h2:∀σ' H',R σ' H'->u D σ' H'):Bl t u D σ H:=⟨R,h2,h1⟩
theorem E5{X:Cx}{st:Stmt}{rest:List Stmt}{t u:TS}(h1:PS X st t)(h2:vM X rest u):vM X (st::rest) (Bl t u):=by
 rintro pins s σ H D I ⟨R,hR,h⟩;refine wpAny_execs_cons (dy (h1 pins s σ H { D with nx:=R } I h) λf s1 q=>?_)
 cases f with
 | next =>
  obtain⟨σ',H',I',q⟩:=q;exact h2 pins s1 σ' H' D I' (hR _ _ q)
 | ret v=>exact q
 | brk=>exact q
 | cont=>exact q
def pQ(J:It)(H:Hp)(its:List V):Prop:=(∀i,i<its.length->J.go i H)/\(∀i x H',i<its.length->J.yld i H x H'->H'=H/\its[i]? = some x)/\J.stop its.length H
def fj(lo:Int)(n:Nat):List V:=(List.range n).map λ(k:Nat)=>V.int (lo+k)
theorem aV{lo:Int}{n:Nat}{H:Hp}:pQ (II lo n) H (fj lo n):=by
 refine⟨λi hi=>by show i<n;simpa [fj] using hi,λi x H' hi y=>⟨y.1,?_⟩,by show n<=(fj lo n).length;simp[fj]⟩
 have hi':i<n:=by simpa [fj] using hi
 rw[y.2];simp[fj,hi']
theorem bZ{K:W.Frag}{H:Hp}{a:Addr}{xs:List V}(h:vw K H a=some (.lst xs)):pQ (JZ K a) H xs :=
 ⟨λi hi=>⟨xs,xs[i],.of (aQ h),by simp[hi]⟩,λi x H' _ y=>⟨y.1,y.2 xs (.of (aQ h))⟩,⟨xs,.of (aQ h),Yp _⟩⟩
theorem rA{K:W.Frag}{H:Hp}{a:Addr}{xs:List V}(h:vw K H a=some (.tup xs)):pQ (Kj K a) H xs :=
 ⟨λi hi=>⟨xs,xs[i],cZ h,by simp[hi]⟩,λi x H' _ y=>⟨y.1,y.2 xs (cZ h)⟩,⟨xs,cZ h,Yp _⟩⟩
theorem ce{J:It}{its:List V}{g:TG}{tb:TS}{D:nO}{σ:St}{H:Hp}(Pv:Nat->St->Hp->Prop)(hl:∀i σ H,i<=its.length->Pv i σ H->pQ J H its)(h0:Pv 0 σ H)
  (hs:∀i x σ H,i<its.length->its[i]? = some x->Pv i σ H->g x σ H λσ2 H2=>tb { D with nx:=Pv (i+1),ct:=Pv (i+1),bk:=D.nx } σ2 H2)(hd:∀σ H,Pv its.length σ H->D.nx σ H):zg J g tb D σ H:=by
 refine⟨λi m σ H=>m=its.length-i/\i<=its.length/\Pv i σ H,⟨its.length,by simp,YK _,h0⟩,?_⟩
 rintro i m σ H ⟨rfl,hi,p⟩;obtain⟨q1,q2,q3⟩:=hl i σ H hi p;by_cases hlt:i<its.length
 .refine .inr ⟨q1 i hlt,Pv (i+1),λσ' H' p'=>⟨its.length-(i+1),(),rfl,hlt,p'⟩,λx H' y=>?_⟩;obtain⟨e,y2⟩:=q2 i x H' hlt y;subst e;exact hs i x σ _ hlt y2 p
 .have e:i=its.length:=();subst e;exact .inl ⟨q3,hd σ H p⟩
def CN(K:W.Frag)(a:Addr)(σr:St)(Pv:List V->Hp->Prop):St->Hp->Prop:=λσ H=>(∃y,σ=y::σr) /\ ∃xs,vw K H a=some (.lst xs)/\Pv xs H
def Gi(K:W.Frag)(a:Addr)(N:Hp->Prop):V->Hp->Prop:=λv H4=>∃xs,vw K H4 a=some (.lst xs)/\xs.length<sizeLine /\ ∀H5,fV a (vw K H4) (vw K H5)->vw K H5 a=some (.lst (xs++[v]))->N H5
theorem bK{K:W.Frag}{J:It}{its:List V}{tif:TT}{te:TE}{a:Addr}{x0:Option V}{σr:St}{H0:Hp}{Q:Hp->Prop}(Pv:Nat->List V->Hp->Prop)
  (hl:∀i xs H,i<=its.length->vw K H a=some (.lst xs)->Pv i xs H->pQ J H its)(ha:vw K H0 a=some (.lst []))(h0:Pv 0 [] H0)
  (hs:∀i x xs H,i<its.length->its[i]? = some x->vw K H a=some (.lst xs)->Pv i xs H->tif (some x::σr) H λb H3=>if b=true then te (some x::σr) H3 (Gi K a (CN K a σr (Pv (i+1)) (some x::σr))) else CN K a σr (Pv (i+1)) (some x::σr) H3)
  (hd:∀xs H,vw K H a=some (.lst xs)->Pv its.length xs H->Q H):mK K J (gf 0) tif te a (x0::σr) H0 Q:=by
 refine⟨λi m σ H=>m=its.length-i/\i<=its.length/\CN K a σr (Pv i) σ H,⟨its.length,by simp,YK _,⟨_,rfl⟩,_,ha,h0⟩,?_⟩
 rintro i m σ H ⟨rfl,hi,⟨y,rfl⟩,xs,hxs,p⟩;obtain⟨q1,q2,q3⟩:=hl i xs H hi hxs p;by_cases hlt:i<its.length
 .refine .inr ⟨q1 i hlt,CN K a σr (Pv (i+1)),λσ' H' p'=>⟨its.length-(i+1),(),rfl,hlt,p'⟩,λx H' y=>?_⟩;obtain⟨e,y2⟩:=q2 i x H' hlt y;subst e;exact hs i x xs _ hlt y2 hxs p
 .have e:i=its.length:=();subst e;exact .inl ⟨q3,hd xs H hxs p⟩
theorem Gi.mk{K:W.Frag}{a:Addr}{σr:St}{Pv:List V->Hp->Prop}{x:Option V}{v:V}{H:Hp}{xs:List V}(h:vw K H a=some (.lst xs))(hz:xs.length<sizeLine)
  (q:∀H5,fV a (vw K H) (vw K H5)->vw K H5 a=some (.lst (xs++[v]))->Pv (xs++[v]) H5):Gi K a (CN K a σr Pv (x::σr)) v H:=⟨xs,h,hz,λH5 B h5=>⟨⟨_,rfl⟩,_,h5,q H5 B h5⟩⟩
theorem CN.mk{K:W.Frag}{a:Addr}{σr:St}{Pv:List V->Hp->Prop}{x:Option V}{H:Hp}{xs:List V}(h:vw K H a=some (.lst xs))(q:Pv xs H):CN K a σr Pv (x::σr) H:=⟨⟨_,rfl⟩,_,h,q⟩
theorem da{lo:Int}{n i:Nat}{x:V}(h:(fj lo n)[i]? = some x):i<n/\x=.int (lo+i):=by
 have hi:i<n:=by simpa [fj] using (List.getElem?_eq_some_iff.mp h).1
 simp[fj,hi] at h;exact⟨hi,h.symm⟩
theorem cp{lo:Int}{n:Nat}:(fj lo n).length=n:=by simp[fj]
theorem sN{n d:Nat}{k:Nat}(h:k<=n):HT.sIx n d (some (k:Int))=k:=by
 unfold HT.sIx;simp only[Int.toNat_natCast];rw[Yc ()];nofun
theorem uq{xs:List V}{k:Nat}(h:k<=xs.length):iU xs none (some (k:Int))=xs.take k:=by
 unfold iU;rw[sN h];simp[HT.sIx]
theorem iX{xs:List V}{k:Nat}(h:k<=xs.length):iU xs (some (k:Int)) none=xs.drop k:=by
 unfold iU;rw[sN h];simp[HT.sIx];rw[YY];simp
theorem dX{α:Type}{xs:List α}{x:α}(h:xs.getLast? = some x):nK xs (-1)=some x:=by
 obtain⟨ys,rfl⟩:=List.getLast?_eq_some_iff.mp h;exact iT ys x
def D5(K:W.Frag)(neg:Bool):R2:=λx y H Q=>∃p q,x=.ref p/\y=.ref q /\ ∃xs,vw K H p=some (.lst xs)/\vw K H q=some (.lst [])/\Q (.bl (if neg then !xs.isEmpty else xs.isEmpty)) H
section
variable {X:Cx}
theorem pA(hu:X.A.units<cLine):el X (compareOp .Eq) (D5 X.K false):=by
 intro pins s σ H x y v u Q I rx ry h;obtain⟨p,q,rfl,rfl,xs,h1,h2,k⟩:=h;cases rx;cases ry;obtain⟨its,r,⟨o,n,e1,e2,e3,e4⟩,_⟩:=I.list (ke.of (K:=X.K) (aQ h1));obtain⟨its2,r2,⟨o2,n2,f1,f2,f3,f4⟩,_⟩:=I.list (ke.of (K:=X.K) (aQ h2));cases r2;have fin:EP X pins σ Q (.bool xs.isEmpty) s:=⟨.bl _,H,I,rfl,k⟩;cases xs with
 | nil =>
  cases r;exact SeqAt.RcAt.lists (e:=λ_=>true) ⟨_,e1,e2,_,e4⟩ ⟨_,f1,f2,_,f4⟩ rfl hu (λj h1=>absurd h1 (by simp)) _ _ _ _ fin
 | cons x xs =>
  cases r;exact SeqAt.RcAt.lists_lengths ⟨_,e1,e2,_,e4⟩ ⟨_,f1,f2,_,f4⟩ (by simp) hu _ _ _ _ fin
theorem Ct(hu:X.A.units<cLine):el X (compareOp .NotEq) (D5 X.K true):=by
 intro pins s σ H x y v u Q I rx ry h;obtain⟨p,q,rfl,rfl,xs,h1,h2,k⟩:=h;cases rx;cases ry;obtain⟨its,r,⟨o,n,e1,e2,e3,e4⟩,_⟩:=I.list (ke.of (K:=X.K) (aQ h1));obtain⟨its2,r2,⟨o2,n2,f1,f2,f3,f4⟩,_⟩:=I.list (ke.of (K:=X.K) (aQ h2));cases r2;have fin:EP X pins σ Q (.bool !xs.isEmpty) s:=⟨.bl _,H,I,rfl,k⟩;cases xs with
 | nil =>
  cases r;exact SeqAt.RcNeAt.lists (e:=λ_=>true) ⟨_,e1,e2,_,e4⟩ ⟨_,f1,f2,_,f4⟩ rfl hu (λj h1=>absurd h1 (by simp)) _ _ _ _ fin
 | cons x xs =>
  cases r;exact SeqAt.RcNeAt.lists_lengths ⟨_,e1,e2,_,e4⟩ ⟨_,f1,f2,_,f4⟩ (by simp) hu _ _ _ _ fin
end
theorem fW.ul{k:Nat}{A:Around}(r:fW k A):A.units<cLine:=by have:=r.un;nofun
theorem fW.u64{k:Nat}{A:Around}(r:fW k A):A.units+64<cLine:=by have:=r.un;nofun
theorem sB(p q:Int×Int):EF (fr p) (fr q)=decide (p=q):=by
 unfold EF fr D.py D.pys D.pys D.pys D.py;simp only[PyData.eqv,PyData.eqvAll];rw[Bool.eq_iff_iff];simp[Prod.ext_iff]
theorem gR(q:Int×Int):(fr q).cmp:=by
 unfold D.cmp fr D.py D.pys D.pys D.pys D.py;exact⟨rfl,Nat.le_of_ble_eq_true rfl⟩
def GT(K:W.Frag)(mg:Str->Option Value)(x:Str)(xs:List V):Prop:=∃a,mg x=some (.ref a) /\ ∀H,vw K H a=some (.tup xs)
theorem GT.mk{K:W.Frag}{mg:Str->Option Value}{x:Str}{a:Addr}{o:Obj}{xs:List V}(h:mg x=some (.ref a))(hl:K.lookup a=some o)(hk:vX o=some (.tup xs)):GT K mg x xs :=
 ⟨a,h,λH=>by unfold vw;rw[hl];exact hk⟩
theorem aJ.last{H:Hp}{ds:List D}{xs:List V}(h:aJ H ds xs) {d:D}(hd:ds.getLast? = some d):∃x,xs.getLast? = some x/\aI H d x:=by
 rw[YZ] at hd;obtain⟨x,e,r⟩:=h.at hd;rw[<-h.length,<-YZ] at e;exact⟨x,e,r⟩
theorem aX{H:Hp}{a:Addr}{i j:Int}(h:H a=some (.tup [.int i,.int j])):aI H (fr (i,j)) (.ref a):=.mk_tup h (.mk_cons (.mk_int _) (.mk_cons (.mk_int _) .mk_nil))
def jX(ds:List D):Bool:=match ds.getLast? with
 | some (.tup [.int 0,.int 1])=>false
 | _=>true
def D.poly:D->Bool
 | .lst ds=>ds.all D.frac && jX ds
 | _=>false
theorem mW{ds:List D}{q:Int×Int}(h:ds.getLast? = some (fr q)):jX ds = !decide (q=(0,1)):=by
 unfold jX;rw[h];obtain⟨a,b⟩:=q;unfold fr;simp only[Prod.mk.injEq];split
 .rename_i e
  simp only[Option.some.injEq,D.tup.injEq,List.cons.injEq,D.int.injEq,and_true] at e;simp[e]
 .rename_i e
  by_cases h1:a=0
  .by_cases h2:b=1
   .subst h1 h2;exact absurd rfl e
   .simp[h2]
  .simp[h1]
theorem D.frac_fr{d:D}(h:d.frac=true):∃q,d=fr q/\Fq q:=by
 cases d with
 | tup ds =>
  obtain⟨a,b,rfl,hq⟩:=D.frac_tup h;exact⟨(a,b),rfl,hq⟩
 | _=>unfold D.frac at h;cases h
theorem xf{ds:List D}(h:ds.all D.frac=true)(hn:ds≠[]):∃q,ds.getLast? = some (fr q)/\Fq q:=by
 obtain⟨d,hd⟩:=Option.isSome_iff_exists.mp (by rw[List.getLast?_isSome];exact hn:ds.getLast?.isSome=true)
 obtain⟨q,rfl,hq⟩:=D.frac_fr (List.all_eq_true.mp h d (List.mem_of_getLast? hd));exact⟨q,hd,hq⟩
end L2
namespace L2
open PySem PySem.Spec PyProof.Rows
theorem aJ.repl{H:Hp}{d:D}{x:V}(h:aI H d x):∀n,aJ H (List.replicate n d) (List.replicate n x)
 | 0=>.mk_nil
 | n+1=>.mk_cons h (aJ.repl h n)
theorem tz{qs:List (Int×Int)}(h:∀q∈qs,Fq q)(hl:∀q,qs.getLast? = some q->q.1≠0):(D.lst (qs.map fr)).poly=true:=by
 show ((qs.map fr).all D.frac && jX (qs.map fr))=true;rw[YF];refine⟨List.all_eq_true.mpr λd hd=>?_,?_⟩
 .obtain⟨q,hq,rfl⟩:=List.mem_map.mp hd;exact frac_fr (h q hq)
 .cases e:qs.getLast? with
  | none =>
   unfold jX;rw[List.getLast?_map,e];rfl
  | some q =>
   rw[mW (q:=q) (by rw[List.getLast?_map,e];rfl)]
   have:=hl q e;simp;rintro rfl;exact this rfl
theorem aB.rfl{H:Hp}:aB H H:=λ_ _ z=>z
end L2
set_option autoImplicit true
namespace L2
open PySem PySem.Spec PyProof.Rows
structure QE (X:Cx)(e:Expr)(t:TE):Prop where
 h:PE X e t
structure QT (X:Cx)(e:Expr)(t:TT):Prop where
 h:PT X e t
structure QW (X:Cx)(e:Expr)(t:TT):Prop where
 h:PW X e t
structure QA (X:Cx)(e:List Expr)(t:TA):Prop where
 h:PA X e t
structure QS (X:Cx)(e:Stmt)(t:TS):Prop where
 h:PS X e t
structure Bz (X:Cx)(e:List Stmt)(t:TS):Prop where
 h:vM X e t
structure QG (X:Cx)(e:Expr)(t:TG):Prop where
 h:PG X e t
structure JV (X:Cx)(e:List Expr)(t:At):Prop where
 h:IK X e t
structure QF (X:Cx)(e:List Expr)(t:TT):Prop where
 h:PF X e t
structure QO (X:Cx)(e:Option Expr)(t:TO):Prop where
 h:PO X e t
structure QI (X:Cx)(tg e:Expr)(t:TI):Prop where
 h:PI X tg e t
section
variable {X:Cx}{pos p p2 apos cpos pos':Pos}{a b e o l:Expr}{es rest:List Expr}{te ta tb to:TE}{tA tB':TT}{st:Stmt}{rest':List Stmt}{lo hi:Option Expr}{id:String}
theorem eJ {b j pos}:QE X (.Constant (.bool b) j pos) (tC (.bl b)):=⟨JI ⟩
theorem ae {i j pos}:QE X (.Constant (.int i) j pos) (tC (.int i)):=⟨Ie ⟩
theorem Gb {j pos}:QE X (.Constant .none j pos) (tC .non):=⟨GS ⟩
theorem gi {x j pos}:QE X (.Constant (.str x) j pos) (tC (.str x)):=⟨G6 ⟩
theorem gw{x:Str}{v:V}{u:Value}{pos:Pos}(hg:Gl X x)(hm:X.mg x=some u)(r:cC v u)(hd:(x==("__debug__" : Str))=false:=by decide):QE X (.Name x pos) (tC v):=⟨DZ (hg:=hg) (hm:=hm) (r:=r) (hd:=hd)⟩
theorem cS{x:Str}{v:V}{u:Value}{pos:Pos}(hg:Gl X x)(hm:X.mg x=none)(hv:bootBuiltins x=some u)(r:cC v u)(hn:x ≠ "__name__":=by decide) (hd:(x==("__debug__" : Str))=false:=by decide):QE X (.Name x pos) (tC v):=⟨Dz (hg:=hg) (hm:=hm) (hv:=hv) (r:=r) (hn:=hn) (hd:=hd)⟩
theorem ar{op:Operator}{r:R2}(ho:el X (binaryOp op) r)(ha:QE X a ta)(hb:QE X b tb):QE X (.BinOp a op b pos) (Fk r ta tb):=⟨JO (ho:=ho) (ha:=ha.h) (hb:=hb.h)⟩
theorem cX{op:UnaryOp}{r:V->Hp->VK->Prop}(ho:J3 X (unaryOp op) r)(ha:QE X a ta):QE X (.UnaryOp op a pos) (Kp r ta):=⟨Jj (ho:=ho) (ha:=ha.h)⟩
theorem GV(ha:QE X a ta):QE X (.UnaryOp .Not a pos) (ym ta):=⟨HB (ha:=ha.h)⟩
theorem gq(ha:QE X a ta)(hb:QE X (.BoolOp .And (b::rest) pos) tb):QE X (.BoolOp .And (a::b::rest) pos) (yd ta tb):=⟨HL (ha:=ha.h) (hb:=hb.h)⟩
theorem JF(ha:QE X a ta)(hb:QE X (.BoolOp .Or (b::rest) pos) tb):QE X (.BoolOp .Or (a::b::rest) pos) (Fc ta tb):=⟨Jk (ha:=ha.h) (hb:=hb.h)⟩
theorem gW {op}{t:TE}(h:QE X a t):QE X (.BoolOp op [a] pos) t:=⟨GP (h:=h.h)⟩
theorem cT{op:CmpOp}{r:R2}(ho:el X (compareOp op) r)(ha:QE X a ta)(hb:QE X b tb)(hm:behindInMarks op b=false):QE X (.Compare a [op] [b] pos) (Fk r ta tb):=⟨Ey (ho:=ho) (ha:=ha.h) (hb:=hb.h) (hm:=hm)⟩
theorem BV{c:Expr}(hc:QT X c tA)(ha:QE X a ta)(hb:QE X b tb):QE X (.IfExp c a b pos) (Ks tA ta tb):=⟨AW (hc:=hc.h) (ha:=ha.h) (hb:=hb.h)⟩
theorem aR {x1}(h:QA X es t):QE X (.Tuple es x1 pos) (uH X.K t):=⟨ES (h:=h.h)⟩
theorem aT(h:QA X es t):QE X (.List es pos) (CM X.K t):=⟨Dw (h:=h.h)⟩
theorem dc{r:V->Option Int->Option Int->Hp->VK->Prop}(hr:yl X r)(he:QE X e te)(hl:QO X lo tl)(hu:QO X hi th):QE X (.Subscript e (.Slice lo hi none p2) pos) (Kh r te tl th):=⟨Cd (hr:=hr) (he:=he.h) (hl:=hl.h) (hu:=hu.h)⟩
theorem dW  : QO X none sE:=⟨D9 ⟩
theorem dS(h:QE X e te):QO X (some e) (xR te):=⟨Fw (h:=h.h)⟩
theorem aw{r:R2}(hr:uK X r)(ha:QE X a ta)(hb:QE X b tb)(hs:yy b):QE X (.Subscript a b pos) (Fk r ta tb):=⟨JC (hr:=hr) (ha:=ha.h) (hb:=hb.h) (hs:=hs)⟩
theorem ah(C:cn X.prog X.w X.K X.mg X.base x ps k sp)(hr:fW k X.A)(hg:Gl X x)(ha:QA X (e::es) t)(hdb:(x==("__debug__" : Str))=false:=by decide) (he:starEach (e::es) X.env=(false,eval e X.env)::starEach es X.env:=by rfl)(hpl:(backTo pos (starEach es X.env)).any (·.1)=false:=by rfl) :
  QE X (.Call (.Name x p) (e::es) [] pos) (FA sp t):=⟨HA (C:=C) (hr:=hr) (hg:=hg) (ha:=ha.h) (hdb:=hdb) (he:=he) (hpl:=hpl)⟩
theorem ai(hc:eM X (.builtin id) r)(hg:Gl X x)(hm:X.mg x=none)(hv:bootBuiltins x=some (.builtin id))(ha:QA X (e::es) t)(hn:x ≠ "__name__":=by decide) (hdb:(x==("__debug__" : Str))=false:=by decide) (he:starEach (e::es) X.env=(false,eval e X.env)::starEach es X.env:=by rfl)(hpl:(backTo pos (starEach es X.env)).any (·.1)=false:=by rfl):QE X (.Call (.Name x p) (e::es) [] pos) (DN r t):=⟨Ck (hc:=hc) (hg:=hg) (hm:=hm) (hv:=hv) (ha:=ha.h) (hn:=hn) (hdb:=hdb) (he:=he) (hpl:=hpl)⟩
theorem iO(hc:eM X (.type T) r)(hg:Gl X x)(hm:X.mg x=none)(hv:bootBuiltins x=some (.type T))(ha:QA X (e::es) t)(hn:x ≠ "__name__":=by decide) (hdb:(x==("__debug__" : Str))=false:=by decide) (he:starEach (e::es) X.env=(false,eval e X.env)::starEach es X.env:=by rfl)(hpl:(backTo pos (starEach es X.env)).any (·.1)=false:=by rfl):QE X (.Call (.Name x p) (e::es) [] pos) (DN r t):=⟨zZ (hc:=hc) (hg:=hg) (hm:=hm) (hv:=hv) (ha:=ha.h) (hn:=hn) (hdb:=hdb) (he:=he) (hpl:=hpl)⟩
theorem nr(pa:PlainAttrs T)(slot:Slot T name id)(hty:typeOf (.builtin id)=pure (.type "method_descriptor")) (hm:J5 X id r)(ho:QE X o to)(ha:QA X (e::es) t)(hbase:attributeBase o name X.env (eval o X.env)=eval o X.env:=by rfl)(hfew:((backTo cpos (starEach (e::es) X.env)).all (λx=>!x.1) && (backToKw cpos (keywordEach [] X.env)).all (λx=>x.1.isSome)
   && decide ((e::es).length+([]:List Keyword).length+(if ([]:List Keyword).isEmpty then 0 else 1)<30))=true:=by rfl) (hline:(apos.endLine==cpos.line)=true:=by rfl)(hs:starEach (e::es) X.env=(false,eval e X.env)::starEach es X.env:=by rfl)(hplain:(backTo cpos (starEach es X.env)).any (·.1)=false:=by rfl) :
  QE X (.Call (.Attribute o name apos) (e::es) [] cpos) (Ka X.K T r to t):=⟨Jl (pa:=pa) (slot:=slot) (hty:=hty) (hm:=hm) (ho:=ho.h) (ha:=ha.h) (hbase:=hbase) (hfew:=hfew) (hline:=hline) (hs:=hs) (hplain:=hplain)⟩
theorem BK(pa:PlainAttrs T)(slot:Slot T name id)(hty:typeOf (.builtin id)=pure (.type "method_descriptor")) (hm:J5 X id r)(ho:QE X o to)(hbase:attributeBase o name X.env (eval o X.env)=eval o X.env:=by rfl)(hline:(apos.endLine==cpos.line)=true:=by rfl):QE X (.Call (.Attribute o name apos) [] [] cpos) (Gk X.K T r to):=⟨GN (pa:=pa) (slot:=slot) (hty:=hty) (hm:=hm) (ho:=ho.h) (hbase:=hbase) (hline:=hline)⟩
theorem ac  : QA X [] BD:=⟨Gj ⟩
theorem aa(ha:QE X e te)(hr:QA X es t)(hs:starEach (e::es) X.env=(false,eval e X.env)::starEach es X.env:=by rfl):QA X (e::es) (qx te t):=⟨Eo (ha:=ha.h) (hr:=hr.h) (hs:=hs)⟩
theorem aH{op:CmpOp}{r:R2}(ho:el X (compareOp op) r)(ha:QE X a ta)(hb:QE X b tb)(hm:behindInMarks op b=false):QT X (.Compare a [op] [b] pos) (qP (Fk r ta tb)):=⟨Fg (ho:=ho) (ha:=ha.h) (hb:=hb.h) (hm:=hm)⟩
theorem dI(ha:QT X a tA):QT X (.UnaryOp .Not a pos) (Hv tA):=⟨Ib (ha:=ha.h)⟩
theorem QW.pt{X:Cx}{e:Expr}{t:TT}(h:QW X e t):QT X e t:=⟨PW.pt (h:=h.h)⟩
theorem km(ha:QT X a tA):QW X (.BoolOp .And [a] pos) tA:=⟨ED (ha:=ha.h)⟩
theorem m4(ha:QT X a tA)(hb:QW X (.BoolOp .And (b::rest) pos) tB'):QW X (.BoolOp .And (a::b::rest) pos) (Hj tA tB'):=⟨F6 (ha:=ha.h) (hb:=hb.h)⟩
theorem fR(ha:QT X a tA):QW X (.BoolOp .Or [a] pos) tA:=⟨Gy (ha:=ha.h)⟩
theorem fG(ha:QT X a tA)(hb:QW X (.BoolOp .Or (b::rest) pos) tB'):QW X (.BoolOp .Or (a::b::rest) pos) (KI tA tB'):=⟨JQ (ha:=ha.h) (hb:=hb.h)⟩
theorem gL(ha:QE X a ta)(he:∀whole,isTrue a X.env whole=(do let v <-whole;standAt a.pos;holding [v] (truthy v))) :
  QT X a (λσ H Q=>ta σ H λx H'=>∃k,wW X.K x H' k/\Q k H'):=⟨BN (ha:=ha.h) (he:=he)⟩
theorem dj{e:Expr}{t:TE}(h:QE X e t)(he:∀whole,isTrue e X.env whole=(do let v <-whole;standAt e.pos;holding [v] (truthy v)):=by intro _;rfl):QT X e (tB t):=⟨HX (h:=h.h) (he:=he)⟩
theorem am{i:Nat}{x:Str}(hN:X.N.Nodup)(hi:X.N[i]? = some x)(hx:Dt X.env.scope x)(hf:X.fn x=true\/X.env.scope.names.lookup x=some .local:=by first|exact .inl rfl|exact .inr rfl|assumption):QG X (.Name x pos) (gf i):=⟨EM (hN:=hN) (hi:=hi) (hx:=hx) (hf:=hf)⟩
theorem aY{es:List Expr}{k:Nat}{t:At}{n:Nat}{pos:Pos}(hc:X.calm=true)(h:JV X es t)(hn:(assignEach es X.env).length=n:=by rfl)(hst:(assignEach es X.env).findIdx? (·.1)=none:=by rfl):QG X (.Tuple es k pos) (iZ X.K n t):=⟨Fh (hc:=hc) (h:=h.h) (hn:=hn) (hst:=hst)⟩
theorem aZ  : JV X [] uy:=⟨Ev ⟩
theorem au{e:Expr}{es:List Expr}{t:TG}{u:At}(h1:QG X e t)(h2:JV X es u)(hs:(assignEach (e::es) X.env).map (·.2)=assign e X.env::(assignEach es X.env).map (·.2):=by rfl):JV X (e::es) (jz t u):=⟨Aw (h1:=h1.h) (h2:=h2.h) (hs:=hs)⟩
theorem mR{o i:Expr}{to ti:TE}{t:wC}(ho:QE X o to)(hi:QE X i ti)(hs:Am X t)(ha:∀v,assign (.Subscript o i pos) X.env v=(do
   let ov <-holding [v] (eval o X.env)
   let iv <-holding [v,ov] (eval i X.env)
   standAt pos
   holding [v,ov,iv] (setItem ov iv v)
   release [v,ov,iv] []):=by intro _;rfl):QG X (.Subscript o i pos) (Gp to ti t):=⟨HJ (ho:=ho.h) (hi:=hi.h) (hs:=hs) (ha:=ha)⟩
theorem cz{a:Expr}{ta:TA}{p pos:Pos}(hg:Gl X "range") (hm:X.mg "range" = none) (ha:QA X [a] ta)(hs:starEach [a] X.env=[(false,eval a X.env)]:=by rfl):QI X tg (.Call (.Name "range" p) [a] [] pos) (xG ta):=⟨zD (hg:=hg) (hm:=hm) (ha:=ha.h) (hs:=hs)⟩
theorem mr{a b:Expr}{ta:TA}{p pos:Pos}(hg:Gl X "range") (hm:X.mg "range" = none) (ha:QA X [a,b] ta)(hs:starEach [a,b] X.env=[(false,eval a X.env),(false,eval b X.env)]:=by rfl)(hs2:starEach [b] X.env=[(false,eval b X.env)]:=by rfl) :
  QI X tg (.Call (.Name "range" p) [a,b] [] pos) (BR ta):=⟨Ag (hg:=hg) (hm:=hm) (ha:=ha.h) (hs:=hs) (hs2:=hs2)⟩
theorem CY{l:Expr}{tl:TE}(hl:QE X l tl):QI X tg l (HW X.K tl):=⟨Ix (hl:=hl.h)⟩
theorem cY{l:Expr}{tl:TE}(hl:QE X l tl):QI X tg l (xH X.K tl):=⟨FE (hl:=hl.h)⟩
theorem av(he:QE X e te):QS X (.Return (some e) pos) (GF te):=⟨Gu (he:=he.h)⟩
theorem gH(he:QE X e te)(hs:swapsWith e none pos.line X.env=pure false:=by rfl):QS X (.Expr e pos) (Cf te):=⟨Ft (he:=he.h) (hs:=hs)⟩
theorem bY{c:Expr}{a b:List Stmt}{tc:TT}(hc:QT X c tc)(ha:Bz X a t)(hb:Bz X b u):QS X (.If c a b pos) (GY tc t u):=⟨Jx (hc:=hc.h) (ha:=ha.h) (hb:=hb.h)⟩
theorem fZ{c:Expr}{body:List Stmt}{tc:TT}{tb:TS}(hp:PassesOwn (model X.prog X.w) X.A X.env X.xe)(hc:QT X c tc)(hb:Bz X body tb):QS X (.While c body [] pos) (Bg tc tb):=⟨BW (hp:=hp) (hc:=hc.h) (hb:=hb.h)⟩
theorem cK{iter:Expr}{body:List Stmt}{wi:TI}{g:TG}{tb:TS}{pos:Pos}(hp:PassesOwn (model X.prog X.w) X.A X.env X.xe)(hc:X.calm=true)(hi:QI X tg iter wi)(hg:QG X tg g)(hb:Bz X body tb)(hs:∀x,foldedSetIterable iter X.env x=pure x:=by intro _;rfl):QS X (.For tg iter body [] pos) (Gh wi g tb):=⟨Gc (hp:=hp) (hc:=hc) (hi:=hi.h) (hg:=hg.h) (hb:=hb.h) (hs:=hs)⟩
theorem aC{i:Nat}{x:Str}{e:Expr}{te:TE}{pos':Pos}(hN:X.N.Nodup)(hi:X.N[i]? = some x)(hx:Dt X.env.scope x)(he:QE X e te)(hs:swapsWith e (some (.Name x pos')) pos.line X.env=pure false:=by rfl)(hf:X.fn x=true\/X.env.scope.names.lookup x=some .local:=by first|exact .inl rfl|exact .inr rfl|assumption) :
  QS X (.Assign [.Name x pos'] e pos) (xD te (gf i)):=⟨HP (hN:=hN) (hi:=hi) (hx:=hx) (he:=he.h) (hs:=hs) (hf:=hf)⟩
theorem sD{i j:Nat}{x y:Str}{a b:Expr}{ta:TA}{px py pt:Pos} {kt k2 pt2}(hc:X.calm=true)(hN:X.N.Nodup)(hi:X.N[i]? = some x)(hj:X.N[j]? = some y)(hij:i≠j)(hx:X.env.scope.names.lookup x=some .local)(hy:X.env.scope.names.lookup y=some .local)(ha:QA X [a,b] ta)(hw:swappedStores [.Tuple [.Name x px,.Name y py] kt pt] (.Tuple [a,b] k2 pt2) X.env=pure (some [x,y]))(hs:swapsWithSole [.Tuple [.Name x px,.Name y py] kt pt] (.Tuple [a,b] k2 pt2) pos.line X.env=pure false:=by rfl) :
  QS X (.Assign [.Tuple [.Name x px,.Name y py] kt pt] (.Tuple [a,b] k2 pt2) pos) (Fb i j ta):=⟨Gd (hc:=hc) (hN:=hN) (hi:=hi) (hj:=hj) (hij:=hij) (hx:=hx) (hy:=hy) (ha:=ha.h) (hw:=hw) (hs:=hs)⟩
theorem cQ{tg e:Expr}{te:TE}{g:TG}(he:QE X e te)(hg:QG X tg g)(hs:swapsWithSole [tg] e pos.line X.env=pure false:=by rfl)(hw:swappedStores [tg] e X.env=pure none:=by rfl)(h1:(assignEach [tg] X.env).map (·.2)=[assign tg X.env]:=by rfl):QS X (.Assign [tg] e pos) (xD te g):=⟨Il (he:=he.h) (hg:=hg.h) (hs:=hs) (hw:=hw) (h1:=h1)⟩
theorem kO{i:Nat}{x:Str}{e:Expr}{te:TE}{op:Operator}{ti:Dv}{pos':Pos}(hN:X.N.Nodup)(hi:X.N[i]? = some x)(hx:Dt X.env.scope x)(he:QE X e te)(ho:FT X op ti)(hf:X.fn x=true\/X.env.scope.names.lookup x=some .local:=by first|exact .inl rfl|exact .inr rfl|assumption) :
  QS X (.AugAssign (.Name x pos') op e pos) (GC i te ti):=⟨IA (hN:=hN) (hi:=hi) (hx:=hx) (he:=he.h) (ho:=ho) (hf:=hf)⟩
theorem lD{o i e:Expr}{to ti te:TE}{tget:V->V->Hp->VK->Prop}{tip:Dv}{tset:wC}{op:Operator}{tpos:Pos}(ho:QE X o to)(hi:QE X i ti)(hg:GR X tget)(he:QE X e te)(hp:FT X op tip)(hs:Am X tset)(ha:∀ov iv new,augStore i ov iv new=(do holding [new,ov,iv] (setItem ov iv new);release [new,ov,iv] [];pure .next):=by intros;rfl):QS X (.AugAssign (.Subscript o i tpos) op e pos) (oS to ti te tget tip tset):=⟨DV (ho:=ho.h) (hi:=hi.h) (hg:=hg) (he:=he.h) (hp:=hp) (hs:=hs) (ha:=ha)⟩
theorem aN  : Bz X [] CP:=⟨Ee ⟩
theorem ag(h1:QS X st t):Bz X [st] t:=⟨Dy (h1:=h1.h)⟩
theorem af(h1:QS X st t)(h2:Bz X rest' u):Bz X (st::rest') (aM t u):=⟨Bh (h1:=h1.h) (h2:=h2.h)⟩
theorem DK{X:Cx}{st:Stmt}{rest':List Stmt}{t u:TS}(h1:QS X st t)(h2:Bz X rest' u):Bz X (st::rest') (Bl t u):=⟨E5 (h1:=h1.h) (h2:=h2.h)⟩
theorem cV{X:Cx}:QF X [] Eg:=⟨HF ⟩
theorem HR{X:Cx}{c:Expr}{t:TT}(h:QT X c t):QF X [c] t:=⟨He (h:=h.h)⟩
theorem qv(i:Nat){x:Str}{pos:Pos}(hN:X.N[i]? = some x:=by rfl)(hv:Js X.env.scope x:=by first|exact Or.inl rfl|exact Or.inr (Or.inl rfl)|exact Or.inr (Or.inr rfl))(hd:(x==("__debug__" : Str))=false:=by decide) (hcd:(x==("__classdict__" : Str))=false:=by decide):QE X (.Name x pos) (Ff i):=⟨pv (i:=i) (hN:=hN) (hv:=hv) (hd:=hd) (hcd:=hcd)⟩
theorem cO{tg iter elt:Expr}{ifs:List Expr}{scope:Scope}{wi:TI}{g:TG}{tif:TT}{te:TE}{cl:List (Str×Addr)}{own outs:List Str}{ixs:List Nat}
  (hc:X.calm=true)(hi:QI X tg iter wi)(hclos:closureFor scope X.env=pure cl)(S:pc X scope cl own outs ixs)
  (hb:∀C s H ex,QG (nJ X scope cl (own++outs) C s H ex) tg g/\QF (nJ X scope cl (own++outs) C s H ex) ifs tif/\QE (nJ X scope cl (own++outs) C s H ex) elt te)
  (hs:∀x,foldedSetIterable iter X.env x=pure x:=by intro _;rfl):QE X (.ListComp elt [⟨tg,iter,ifs,0⟩] scope pos) (ux X.K wi own.length ixs g tif te) :=
 ⟨Ex hc hi.h hclos S (λC s H ex=>⟨(hb C s H ex).1.h,(hb C s H ex).2.1.h,(hb C s H ex).2.2.h⟩) hs⟩
theorem lX{tg iter elt:Expr}{ifs:List Expr}{scope:Scope}{spos py:Pos}{y:Str}{i:Nat}{wi:TI}{g:TG}{tif:TT}{te:TE}{cl:List (Str×Addr)}{own outs:List Str}{ixs:List Nat}
  (hN:X.N.Nodup)(hy:X.N[i]? = some y)(hx:Dt X.env.scope y)(hc:X.calm=true)(hi:QI X tg iter wi)(hclos:closureFor scope X.env=pure cl)(S:pc X scope cl own outs ixs)
  (hb:∀C s H ex,QG (nJ X scope cl (own++outs) C s H ex) tg g/\QF (nJ X scope cl (own++outs) C s H ex) ifs tif/\QE (nJ X scope cl (own++outs) C s H ex) elt te)
  (hsw:swapsWith (.ListComp elt [⟨tg,iter,ifs,0⟩] scope pos) (some (.Name y py)) spos.line X.env=pure true:=by rfl)
  (hs:∀x,foldedSetIterable iter X.env x=pure x:=by intro _;rfl)(hf:X.fn y=true\/X.env.scope.names.lookup y=some .local:=by first|exact .inl rfl|exact .inr rfl|assumption) :
  QS X (.Assign [.Name y py] (.ListComp elt [⟨tg,iter,ifs,0⟩] scope pos) spos) (xD (ux X.K wi own.length ixs g tif te) (gf i)) :=
 ⟨DC hN hy hx hc hi.h hclos S (λC s H ex=>⟨(hb C s H ex).1.h,(hb C s H ex).2.1.h,(hb C s H ex).2.2.h⟩) hsw hs hf⟩
end
section
variable {P:Program}{w:World}{K:W.Frag}{mg:Str->Option Value}{base:Heap}
theorem dO.okQ{x qual:Str}{st:Stmt}{f:Addr}{fd:FuncData}{N ps:List Str}{k:Nat}{sp:Sp}(F:dO K x qual st f fd)(S:ay N ps (ap st))(len:∀vs H Q E,sp vs H Q E->vs.length=ps.length)
  (hbody:∀(cdv:Value)(A:Around)(outer:List Env)(s:Shared)(H:Hp)(vs:List V)(Q:VK)(E:XK),fW k (A.deeper (envOfC qual (ap st) s.heap.objs.size f cdv))->sp vs H Q E ->
   ∃t,Bz (tH dP P w K mg base N qual (ap st) f cdv A outer s H E).nox (fI st) t/\t { nx:=λ_ H'=>Q .non H',rt:=Q } (start N vs) H):bU P w K mg base dP (k+1) f fd ps sp :=
 F.ok S len λcdv A outer s H vs Q E hr h=>(hbody cdv A outer s H vs Q E hr h).imp λt z=>⟨z.1.h,z.2⟩
end
section
variable {X:Cx}{pins:List (Addr×Obj)}{σ:St}{H:Hp}{s:Shared}{h':Heap}
theorem aU.turnT{t':Nat}{ch:List Addr}{T:Addr}{xs:List V}{its:List Value}(I:aU X pins σ H s)(k:∀b o,b∉ch->s.heap.get? b=some o->h'.get? b=some o)(hf:∀b∈ch,m5 X pins H b)
  (hT:s.heap.objs.size<=T)(hz:xs.length<=sizeLine)(rv:bV xs its)(ht:IsTup h' T its.toArray):aU X pins σ (upd H T (.tup xs)) { s with heap:=h',toks:=t' }:=by
 have hn:H T=none:=I.hok.fresh hT;have nT:∀b o,s.heap.get? b=some o->b≠T:=λb o e=>Yf (Yd (Heap.lt_size e) hT);refine I.step (g':=s.gens) (d':=s.drawn) (ch:=ch) (λb hb=>?_) (λb o _ _ hc e _=>k b o hc e) (λb o _ _ hc e _=>⟨o.slots,k b o hc e⟩) (λb o _ e n=>?_)
  (λb o hc e=>⟨o,k b o hc e⟩) (λb ys e=>?_) (λb o u e=>?_) (λb ps e=>⟨#[],?_⟩) (λm hm=>?_) (λb u e=>?_) I.bare
 .obtain⟨_,f1,_,f3,f4,f5⟩:=hf b hb;exact⟨f3,f1,f4,f5⟩
 .rw[cL (nT b o e)];exact n
 .rw[cL (aj e hn)];exact e
 .rw[cL (aj e hn)];exact e
 .rw[cL (aj e hn),e];simp
 .obtain⟨o,es,ep,ho,r⟩:=hm;exact⟨o,es,ep,k _ o (λz=>(hf _ z).2.1 rfl) ho,r⟩
 .by_cases hb:b=T
  .subst hb;rw[de] at e;cases e;exact⟨hz,its,rv,ht⟩
  .rw[cL hb] at e;have nch:∀c v,H c=some v->c∉ch:=λc v z hc=>by
    rw[(hf c hc).1] at z;cases z
   refine (I.hok b u e).stay (λc v hc q=>k c v ?_ q) (λc q=>?_) λc ys q=>?_
   .rcases hc with z|z
    .rw[z];exact nch b u e
    .exact nch c _ z
   .rw[cL (aj q hn)];exact q
   .rw[cL (aj q hn)];exact q
end
def Io(K:W.Frag)(R:Hp->List (List V)->Prop):It :=
 ⟨λi H=>∃ys t,R H ys/\ys[i]? = some t,λi H x H'=>∃p t,x=.ref p/\vw K H p=none/\aB (vw K H) (vw K H')/\vw K H' p=some (.tup t) /\ ∀ys,R H ys->ys[i]? = some t,λi H=>∃ys,R H ys/\ys.length=i⟩
def Cb(K:W.Frag)(a:Addr):Hp->List (List V)->Prop:=λH ys=>∃xs,H a=some (.lst xs)/\ys=xs.mapIdx λi x=>[V.int i,x]
theorem Ao{P:Program}{w:World}{K:W.Frag}{elts:List Expr}{x1:Nat}{pos:Pos}(a e it:Addr)(hne:e≠it)(ha:a≠e)(ha2:a≠it) :
  wu P w K (.Tuple elts x1 pos) (Io K (Cb K a)) [e,it] e (λi h=>(∃old,IsEnum h e it (i:Int) old)/\h.IsListIter it a i) where
 mem:=by simp
 obj:=λi h st b hb=>by
  obtain⟨⟨old,h1⟩,o,h2,c,d⟩:=st;simp only[Y0,Y1,Y2] at hb;rcases hb with rfl|rfl
  .exact⟨_,h1,λv z=>by cases z⟩
  .exact⟨o,h2,λv z=>by rw[d] at z;cases z⟩
 keep:=λi h h' st k=>by
  obtain⟨⟨old,h1⟩,h2⟩:=st;exact⟨⟨old,k e (by simp) _ h1⟩,h2.at λo z=>k it (by simp) o z⟩
 item:=by
  intro X hP hw hK hc i pins s σ H E I hf st hg;subst hP hw hK;obtain⟨⟨old,h1⟩,h2⟩:=st;obtain⟨ys,t,⟨xs,hxs,rfl⟩,ht⟩:=hg;rw[Y3] at ht;cases hx:xs[i]? with
  | none=>rw[hx] at ht;cases ht
  | some x =>
   rw[hx] at ht;cases ht;obtain⟨its,rv,p,hz⟩:=I.list (ke.of (K:=X.K) hxs);obtain⟨u,hu,ru⟩:=rv.get hx;refine wpAny_pyNext_enum_item h1 h2 p.isList (x:=u) (by simpa using hu) hne λh3 heo hit ht3 hz3 hk3=>⟨_,rfl,?_⟩
   refine wpAny_letOwnedTupleGo_enum (s:={ s with heap:=h3,toks:=s.toks+1 }) heo λh4 he4 hs4=>?_
   have hes:e<s.heap.objs.size:=Heap.lt_size h1;have ht4:=hs4.extBut _ _ (Nat.ne_of_gt hes) ht3;have k4:∀b o,b∉[e,it]->s.heap.get? b=some o->h4.get? b=some o:=λb o hb z=>by
    simp only[Y0,Y1,Y2,not_or] at hb;exact hs4.extBut _ _ hb.1 (hk3 b o hb.1 hb.2 z)
   have I4:aU X pins σ (upd H s.heap.objs.size (.tup [.int i,x])) { s with heap:=h4,toks:=s.toks+1 } :=
    I.turnT (its:=[.int i s.toks,u]) k4 hf (Yp _) (show 2<=sizeLine by decide) (.cons ⟨_,rfl⟩ (.cons ru .nil)) ⟨_,ht4,rfl,_,rfl⟩
   have fr:=I.hok.fresh (Yp s.heap.objs.size);have nk:=I.newK (Yp s.heap.objs.size);refine⟨.ref s.heap.objs.size,_,I4,rfl,⟨_,_,rfl,by rw[eH nk];exact fr,lB (aB.upd fr),by rw[eH nk];exact de,?_⟩,⟨⟨_,he4⟩,hit.extBut hs4.extBut hne.symm⟩,λb hb=>?_⟩
   .rintro ys ⟨zs,hzs,rfl⟩;rw[hxs] at hzs;cases hzs;rw[Y3,hx];rfl
   .have:b<s.heap.objs.size:=by
     simp only[Y0,Y1,Y2] at hb;rcases hb with rfl|rfl
     .exact hes
     .obtain⟨_,z,_⟩:=h2;exact Heap.lt_size z
    rw[cL (Yf this)];exact (hf b hb).1
 done:=by
  intro X hP hw hK hc i pins s σ H E I hf st hg;subst hP hw hK;obtain⟨⟨old,h1⟩,h2⟩:=st;obtain⟨ys,⟨xs,hxs,rfl⟩,hl⟩:=hg;obtain⟨its,rv,p,hz⟩:=I.list (ke.of (K:=X.K) hxs);have hl':=rv.length;rw[Y4] at hl;obtain⟨f0,f1,f2,f3,f4,f5⟩:=hf it (by simp)
  exact wpAny_pyNext_enum_end (I.ok.hd hc) h1 h2 p.isList (by simp;nofun) λh' eb=>⟨rfl,I.turned (t':=s.toks) (λb o hb z=>eb b o hb z) f0 f1 f3 f4 f5⟩
 self:=λ_ _ _ _ _ st h=>by
  obtain⟨⟨old,h1⟩,_⟩:=st;exact wpAny_pyIter_enum h1 h
def ny(K:W.Frag)(ta:TA):TI:=λσ H R=>ta σ H λvs H1=>∃a,vs=[.ref a]/\(∃xs,vw K H1 a=some (.lst xs))/\R (Io K (Cb K a)) H1
theorem Dx{X:Cx}{elts:List Expr}{x1:Nat}{tp p pos:Pos}{a:Expr}{ta:TA}(hg:Gl X "enumerate") (hm:X.mg "enumerate" = none) (ha:PA X [a] ta)(hs:starEach [a] X.env=[(false,eval a X.env)]:=by rfl) :
  PI X (.Tuple elts x1 tp) (.Call (.Name "enumerate" p) [a] [] pos) (ny X.K ta):=by
 intro pins s σ H R I h;refine Call_ (jW I hg hm sF (Yq (dy (ha pos pins s σ H _ I h) λus s1 ⟨vs,H1,I1,r1,q1⟩=>?_) hs rfl));obtain⟨b,e,⟨xs,hx⟩,q⟩:=q1;subst e;cases r1 with
 | cons r rr =>
  cases rr;cases r;have hx':=aQ hx;obtain⟨hz,its,n,rv,ho⟩:=I1.hok b _ hx';refine call_enumerate_1 ho λh2 he hit hsz hk=>?_;refine wpAny_pyIter_enum (s:={ s1 with heap:=h2 }) he ?_
  have hb:b<s1.heap.objs.size:=Heap.lt_size ho;refine⟨_,[s1.heap.objs.size+1,s1.heap.objs.size],_,_,H1,rfl,I1.kept (t':=s1.toks) hk,Ao b _ _ (Nat.ne_of_gt (Nat.lt_succ_self _)) (Yf (Nat.lt_succ_of_lt hb)) (Yf hb),⟨⟨_,he⟩,hit⟩,λc hc=>?_,q⟩;have hc':s1.heap.objs.size<=c:=by
   simp only[Y0,Y1,Y2] at hc;rcases hc with z|z
   .rw[z];exact Nat.le_succ _
   .rw[z];exact Yp _
  exact I1.fpOk hc' (I1.hok.fresh hc')
theorem j0{K:W.Frag}{R:Hp->List (List V)->Prop}{rows:List (List V)}{g:TG}{tb:TS}{D:nO}{σ:St}{H:Hp}(Pv:Nat->St->Hp->Prop)(hl:∀i σ H,i<=rows.length->Pv i σ H->R H rows)(h0:Pv 0 σ H)
  (hs:∀i t σ H p H',i<rows.length->rows[i]? = some t->Pv i σ H->vw K H p=none->aB (vw K H) (vw K H')->vw K H' p=some (.tup t)->g (.ref p) σ H' λσ2 H2=>tb { D with nx:=Pv (i+1),ct:=Pv (i+1),bk:=D.nx } σ2 H2)
  (hd:∀σ H,Pv rows.length σ H->D.nx σ H):zg (Io K R) g tb D σ H:=by
 refine⟨λi m σ H=>m=rows.length-i/\i<=rows.length/\Pv i σ H,⟨rows.length,by simp,YK _,h0⟩,?_⟩
 rintro i m σ H ⟨rfl,hi,p⟩;have q:=hl i σ H hi p;by_cases hlt:i<rows.length
 .refine .inr ⟨⟨rows,rows[i],q,by simp[hlt]⟩,Pv (i+1),λσ' H' p'=>⟨rows.length-(i+1),(),rfl,hlt,p'⟩,λx H' y=>?_⟩
  obtain⟨a,t,rfl,y1,y2,y3,y4⟩:=y;exact hs i t σ H a H' hlt (y4 rows q) p y1 y2 y3
 .have e:i=rows.length:=();subst e;exact .inl ⟨⟨rows,q,rfl⟩,hd σ H p⟩
theorem ki{X:Cx}{elts:List Expr}{x1:Nat}{tp p pos:Pos}{a:Expr}{ta:TA}(hg:Gl X "enumerate") (hm:X.mg "enumerate" = none) (ha:QA X [a] ta)(hs:starEach [a] X.env=[(false,eval a X.env)]:=by rfl) :
  QI X (.Tuple elts x1 tp) (.Call (.Name "enumerate" p) [a] [] pos) (ny X.K ta):=⟨Dx hg hm ha.h hs⟩
def Bq(n:Nat)(q:Int×Int):Prop:=Bt n q.1/\Bt n q.2
theorem Bq.mono{m n:Nat}{q:Int×Int}(h:Bq m q)(hl:m<=n):Bq n q:=⟨h.1.mono hl,h.2.mono hl⟩
def Jo(p q:Int×Int):Bool:=decide (p.1*q.2<q.1*p.2)
def nZ(p q:Int×Int):Int×Int:=lo (p.1*q.2+q.1*p.2) (p.2*q.2)
theorem Bp{a b:Int}(hb:0<b):0<lg a b:=by
 unfold lg;rw[Yc ()];have:Int.gcd a b≠0:=λe=>by
  have:=(Int.gcd_eq_zero_iff.mp e).2;nofun
 nofun
theorem nF{a b:Int}{n:Nat}(hb:b≠0)(h1:Bt n a)(h2:Bt n b):Bq n (lo a b):=by
 have e1:=fD (a:=a) hb;have e2:=fL (a:=a) hb;have hl:0<(lg a b).natAbs:=by have:=Av (a:=a) hb;nofun
 constructor
 .unfold Bt at *
  have:=YW (lo a b).1 (lg a b);rw[e1] at this;have:=Y5 (lo a b).1.natAbs hl;nofun
 .unfold Bt at *
  have:=YW (lo a b).2 (lg a b);rw[e2] at this;have:=Y5 (lo a b).2.natAbs hl;nofun
theorem i4{p q:Int×Int}(hp:Fq p)(hq:Fq q):Fq (nZ p q):=ie (by have:=Y6 hp.1 hq.1;nofun)
theorem DH{p q:Int×Int}(hp:Fq p)(hq:Fq q)(h0:0<q.1):Jo p (nZ p q)=true:=by
 have hd:0<p.2*q.2:=Y6 hp.1 hq.1;have hb:p.2*q.2≠0:=();have e1:=fD (a:=p.1*q.2+q.1*p.2) hb;have e2:=fL (a:=p.1*q.2+q.1*p.2) hb;have hg:=Bp (a:=p.1*q.2+q.1*p.2) hd;unfold Jo nZ;generalize lo (p.1*q.2+q.1*p.2) (p.2*q.2)=r at *
 generalize lg (p.1*q.2+q.1*p.2) (p.2*q.2)=g at *
 apply YO
 apply Int.lt_of_mul_lt_mul_right _ (YU hg)
 have z1:p.1*r.2*g=p.1*(p.2*q.2):=by rw[Y7,e2]
 have z2:r.1*p.2*g=(p.1*q.2+q.1*p.2)*p.2:=by rw[<-e1];rw[Int.mul_right_comm]
 rw[z1,z2];have hq2:0<q.1*p.2*p.2:=Y6 (Y6 h0 hp.1) hp.1;have z3:(p.1*q.2+q.1*p.2)*p.2=p.1*(p.2*q.2)+q.1*p.2*p.2:=by
  rw[Int.add_mul,Y7 p.1 q.2 p.2,Y8 q.2 p.2]
 nofun
theorem sR{p q:Int×Int}{m n:Nat}(hp:Fq p)(hq:Fq q)(h1:Bq m p)(h2:Bq n q):Bq (m+n+1) (nZ p q):=by
 refine nF (by have:=Y6 hp.1 hq.1;nofun) ?_ ?_
 .have:=(h1.1.mul h2.2).add (h2.1.mul h1.2);exact this.mono ()
 .exact (h1.2.mul h2.2).mono ()
def jj(G:Hp)(a:Addr)(ds:List D):Prop:=∃xs,G a=some (.lst xs)/\aJ G ds xs
section
variable {G G':Hp}{a l:Addr}{ds:List D}{xs:List V}
theorem jj.same(h:jj G a ds)(S:aB G G'):jj G' a ds:=by
 obtain⟨ys,h1,h2⟩:=h;exact⟨ys,S _ _ h1,h2.same S⟩
theorem jj.but(h:jj G a ds)(hf:D.flats ds=true)(hl:G l=some (.lst xs))(hn:a≠l)(S:fV l G G'):jj G' a ds:=by
 obtain⟨ys,h1,h2⟩:=h;exact⟨ys,S _ _ hn h1,aJ.flat_but hl S _ _ hf h2⟩
theorem jj.ne_st{st:Addr}(h:jj G a ds)(hd:∀i b,ds≠[.int i,.bl b])(hst:eC G st):a≠st:=by
 rintro rfl;obtain⟨ys,h1,h2⟩:=h;obtain⟨x,b,h3,_⟩:=hst;rw[h1] at h3;cases h3;exact hd _ _ (aI.lst_st h2)
theorem jj.stBut{st:Addr}(h:jj G a ds)(hf:D.flats ds=true)(hd:∀i b,ds≠[.int i,.bl b])(hst:eC G st)(S:fV st G G'):jj G' a ds:=by
 obtain⟨x,b,h3,h4⟩:=id hst;exact h.but hf h3 (h.ne_st hd hst) S
end
theorem iJ{K:W.Frag}{H:Hp}{p:Addr}{xs:List V}(h:vw K H p=some (.lst xs)):IE K "list" (.ref p) H:=.inl ⟨rfl,xs,.of (aQ h)⟩
theorem jj.ty{K:W.Frag}{H:Hp}{p:Addr}{ds:List D}(h:jj (vw K H) p ds):IE K "list" (.ref p) H:=by
 obtain⟨xs,h,_⟩:=h;exact iJ h
abbrev uj:=(Int×Int)×(Int×Int)
def uz(c:uj):D:=.tup [fr c.1,fr c.2]
theorem fB:∀(cs:List uj),D.flats (cs.map uz)=true
 | []=>by simp[D.flats]
 | c::cs=>by
  rw[YN];unfold D.flats;rw[fB cs];simp[uz,D.flat,D.flats,bA]
theorem mw(cs:List uj):∀i b,cs.map uz≠[.int i,.bl b]:=λi b e=>by
 cases cs with
 | nil=>cases e
 | cons c cs =>
  rw[YN] at e;have:=(List.cons.inj e).1;unfold uz at this;cases this
theorem aI.spt_at{H:Hp}{c:uj}{v:V}(h:aI H (uz c) v):∃a x y,v=.ref a/\H a=some (.tup [x,y])/\aI H (fr c.1) x/\aI H (fr c.2) y:=by
 obtain⟨a,xs,rfl,ha,r⟩:=h.tup_at;obtain⟨d1,d2,x1,x2,e1,rfl,r1,r2⟩:=r.pair (by rw[r.length];rfl)
 cases e1;exact⟨a,x1,x2,rfl,ha,r1,r2⟩
theorem aI.mk_spt{H:Hp}{c:uj}{a:Addr}{x y:V}(h:H a=some (.tup [x,y]))(h1:aI H (fr c.1) x)(h2:aI H (fr c.2) y):aI H (uz c) (.ref a):=.mk_tup h (.mk_cons h1 (.mk_cons h2 .mk_nil))
section
variable {prog:Program}{w:World}{A:Around}{E:Value->Shared->Prop}{s:Shared}
theorem BJ{it t:Addr}{i:Nat}{its:Array Value}{x:Value}{Q:Value->Shared->Prop}(a:s.heap.IsTupleIter it t i)(b:s.heap.IsTuple t its)(c:its[i]? = some x)
  (q:∀g,g.IsTupleIter it t (i+1)->Heap.SameBut it s.heap g->Q x { s with heap:=g }):wpAny (model prog w) A (Builtin.SmallTypes.nextOf (.ref it)) Q E s:=by
 obtain⟨u,a1,a2,a3⟩:=id a;obtain⟨v,b1,_,bn,b2⟩:=b;unfold Builtin.SmallTypes.nextOf;refine wpAny_bind (wpAny_callSpecial?_slot (name:=Str.ofString "__next__") a.typeIs F.slot_tuple_iterator_next (wpAny_call_entry F.slot_tuple_iterator_next a.typeIs F.entry_tuple_iterator_next ?_ (F.args_tuple_iterator_next_1 _)));show wpAny _ _ (field (.ref it) 0 >>= _) _ _ s;refine wpAny_bind (wpAny_field a1 a3 (x:=.ref t) rfl ?_);show wpAny _ _ (if (Value.ref t==Value.none)=true then _ else _) _ _ s;rw[Yc (show ¬ ((Value.ref t==Value.none)=true) from Yo)]
 show wpAny _ _ (field (.ref it) 1 >>= _) _ _ s;refine wpAny_bind (wpAny_field a1 a3 (x:=.int i 0) rfl ?_);show wpAny _ _ (seqItems? (.ref t) >>= _) _ _ s;refine wpAny_bind (wpAny_seqItems b1 b2 ?_);simp only[Int.toNat_natCast,c];refine wpAny_bind (wpAny_setField a1 a3 (by simp) (wpAny_pure ⟨x,rfl,wpAny_pure (q _ ?_ (Heap.SameBut.update ..))⟩))
 exact⟨_,Heap.get?_update_self _ a1 (Obj.isFreed_of_fields (Obj.data_mapFields a3 _)),(Obj.cls_mapFields ..).trans a2,by rw[Obj.data_mapFields a3];simp[rawInt]⟩
theorem tL{it t:Addr}{i:Nat}{its:Array Value}{Q:Value->Shared->Prop}(hh:A.handled=none)(a:s.heap.IsTupleIter it t i)(b:s.heap.IsTuple t its)(c:its[i]? = none)
  (q:∀g e,Heap.ExtBut it s.heap g->(∃o,g.get? e=some o/\o.cls=.type "StopIteration")->E (.ref e) { s with heap:=g }):wpAny (model prog w) A (Builtin.SmallTypes.nextOf (.ref it)) Q E s:=by
 obtain⟨u,a1,a2,a3⟩:=id a;obtain⟨v,b1,_,bn,b2⟩:=b;unfold Builtin.SmallTypes.nextOf;refine wpAny_bind (wpAny_callSpecial?_slot (name:=Str.ofString "__next__") a.typeIs F.slot_tuple_iterator_next (wpAny_call_entry F.slot_tuple_iterator_next a.typeIs F.entry_tuple_iterator_next ?_ (F.args_tuple_iterator_next_1 _)));show wpAny _ _ (field (.ref it) 0 >>= _) _ _ s;refine wpAny_bind (wpAny_field a1 a3 (x:=.ref t) rfl ?_);show wpAny _ _ (if (Value.ref t==Value.none)=true then _ else _) _ _ s;rw[Yc (show ¬ ((Value.ref t==Value.none)=true) from Yo)]
 show wpAny _ _ (field (.ref it) 1 >>= _) _ _ s;refine wpAny_bind (wpAny_field a1 a3 (x:=.int i 0) rfl ?_);show wpAny _ _ (seqItems? (.ref t) >>= _) _ _ s;refine wpAny_bind (wpAny_seqItems b1 b2 ?_);simp only[Int.toNat_natCast,c];refine wpAny_bind (wpAny_rule (wpAny_bind (wpAny_setField a1 a3 (by simp) ?_)));show wpAny _ _ (newExc (.type "StopIteration") [] >>= _) _ _ _
 refine wpAny_bind ?_;simp only[newExc,newTuple];refine wpAny_bind (wpAny_newObj_type ?_ (by size_fits))
 refine wpAny_bind (m:=firstArgMember _ _) (wpAny_of_eq (a:=Value.none) (by first|rfl|(simp only[firstArgMember];rfl)) ?_);refine wpAny_newObj_type ?_ (by size_fits)
 simp only[raiseNew];refine wpAny_bind (wpAny_handled ?_)
 (first|rw[show A.in1.handled=none from hh]|rw[hh]);refine wpAny_bind (wpAny_pure (wpAny_throw ?_))
 exact q _ _ (((Heap.SameBut.update ..).extBut.push _).push _) ⟨_,Heap.get?_push_size _ rfl,rfl⟩
end
theorem zJ{prog:Program}{w:World}{A:Around}(hh:A.handled=none)(it l:Addr)(hne:l≠it)(its:Array Value) :
  Draws prog w A it [it,l] its.size (λi v=>its[i]? = some v) (λi h=>h.IsTupleIter it l i/\h.IsTuple l its) where
 live:=λ_ _ st=>let ⟨o,ho,_⟩:=st.1;⟨o,ho⟩
 frame:=λ_ _ _ st hk=>⟨(let ⟨o,ho,r⟩:=st.1;⟨o,hk it (by simp) o ho,r⟩),(let ⟨o,ho,r⟩:=st.2;⟨o,hk l (by simp) o ho,r⟩)⟩
 item:=λi s Q E hi st q=>BJ st.1 st.2 (x:=its[i]) (by simp[hi]) λg a b=>q _ g s.toks (by simp[hi]) ⟨a,st.2.extBut b.extBut hne⟩ b
 done:=λs Q E st q=>tL hh st.1 st.2 (by simp) q
section
variable {prog:Program}{w:World}{A:Around}{E:Value->Shared->Prop}{s:Shared}{z TI TO i1 i2:Addr}{f1 f2:List Addr}{n1 n2 k:Nat}{P1 P2:Nat->Value->Prop}{T1 T2:Nat->Heap->Prop}{a b:Value}
structure ml (z TI TO i1 i2:Addr)(f1 f2:List Addr):Prop where
 tiz:TI≠z
 toz:TO≠z
 tito:TI≠TO
 ti1:TI≠i1
 ti2:TI≠i2
 to1:TO≠i1
 to2:TO≠i2
 z1:z≠i1
 z2:z≠i2
 n12:i1≠i2
 zf1:z∉f1
 zf2:z∉f2
 tf1:TO∉f1
 tf2:TO∉f2
 if1:i2∉f1
 if2:i1∉f2
theorem Ah{Q:Value->Shared->Prop}(D1:Draws prog w A i1 f1 n1 P1 T1)(D2:Draws prog w A i2 f2 n2 P2 T2)(Z:ml z TI TO i1 i2 f1 f2)(hz:IsZip s.heap z TI TO .none)(hTI:IsPair s.heap TI (.ref i1) (.ref i2))(hTO:IsPair s.heap TO a b)
  (h1:T1 k s.heap)(h2:T2 k s.heap)(k1:k<n1)(k2:k<n2)
  (hQ:∀x y g tk,P1 k x->P2 k y->IsZip g z TI TO (rawInt s.heap.objs.size)->IsPair g TO x y->T1 (k+1) g->T2 (k+1) g->IsPair g s.heap.objs.size x y->g.objs.size=s.heap.objs.size+1 ->
   (∀c o,c∉[z,TO,i1,i2]->s.heap.get? c=some o->g.get? c=some o)->Q (.ref s.heap.objs.size) { s with heap:=g,toks:=tk }) :
  wpAny (model prog w) A (Builtin.«zip.__next__» ⟨[.ref z],[]⟩) (λfin s'=>∃v,fin=.done (.ret v)/\Q v s') E s:=by
 show wpAny _ _ (field (.ref z) 2 >>= _) _ _ _;refine wpAny_bind (wpAny_field hz rfl (x:=.bool false) rfl ?_);show wpAny _ _ (field (.ref z) 3 >>= _) _ _ _;refine wpAny_bind (wpAny_field hz rfl (x:=.ref TI) rfl ?_);refine wpAny_bind (wpAny_seqItems hTI rfl ?_);show wpAny _ _ (Builtin.SmallTypes.ownedTupleIsFree (.ref z) >>= _) _ _ _;refine wpAny_bind ?_;unfold Builtin.SmallTypes.ownedTupleIsFree;refine wpAny_bind (wpAny_field hz rfl (x:=.none) rfl (wpAny_pure ?_));simp only[if_true];refine wpAny_bind (wpAny_rule ?_);refine wpAny_bind (wpAny_field hz rfl (x:=.ref TO) rfl ?_);refine wpAny_bind (wpAny_setField_rec hz (by simp) λg1 hz1 s1=>?_)
 replace hz1:IsZip g1 z TI TO .ellipsis:=hz1;refine wpAny_bind ?_;simp only[List.zipIdx_cons,List.zipIdx_nil,List.forIn_cons,List.forIn_nil];refine wpAny_bind (wpAny_bind (wpAny_onRaise ?_));show wpAny _ _ (Builtin.SmallTypes.nextOf (.ref i1) >>= _) _ _ _;refine wpAny_bind (D1.item k _ _ _ k1 (D1.frame k _ _ h1 λc hc o e=>s1.extBut _ _ (λz'=>Z.zf1 (z'▸hc)) e) λx g2 tk2 p1 t1 s2=>wpAny_pure ?_);replace s2:Heap.SameBut i1 g1 g2:=s2;have hTO2:IsPair g2 TO a b:=s2.extBut _ _ Z.to1 (s1.extBut _ _ Z.toz hTO);refine wpAny_bind (wpAny_seqItems hTO2 rfl ?_);refine wpAny_bind (wpAny_updateSeq_pair hTO2 λg3 hTO3 s3=>?_);replace hTO3:IsPair g3 TO x b:=hTO3;replace s3:Heap.SameBut TO g2 g3:=s3;refine wpAny_bind (wpAny_letGo (wpAny_pure ?_));refine wpAny_bind (wpAny_bind (wpAny_onRaise ?_));show wpAny _ _ (Builtin.SmallTypes.nextOf (.ref i2) >>= _) _ _ _;have t2':T2 k g3:=D2.frame k _ _ h2 λc hc o e=>s3.extBut _ _ (λz'=>Z.tf2 (z'▸hc)) (s2.extBut _ _ (λz'=>Z.if2 (z'▸hc)) (s1.extBut _ _ (λz'=>Z.zf2 (z'▸hc)) e));refine wpAny_bind (D2.item k _ _ _ k2 t2' λy g4 tk4 p2 t2 s4=>wpAny_pure ?_);replace s4:Heap.SameBut i2 g3 g4:=s4;have hTO4:IsPair g4 TO x b:=s4.extBut _ _ Z.to2 hTO3;refine wpAny_bind (wpAny_seqItems hTO4 rfl ?_);refine wpAny_bind (wpAny_updateSeq_pair hTO4 λg5 hTO5 s5=>?_);replace hTO5:IsPair g5 TO x y:=hTO5;replace s5:Heap.SameBut TO g4 g5:=s5;refine wpAny_bind (wpAny_letGo (wpAny_pure (wpAny_pure ?_)));refine wpAny_bind (wpAny_seqItems hTO5 rfl ?_);refine wpAny_bind (wpAny_newTuple ?_);have hsz:g5.objs.size=s.heap.objs.size:=by rw[s5.1,s4.1,s3.1,s2.1,s1.1]
 have hz5:IsZip g5 z TI TO .ellipsis:=s5.extBut _ _ Z.toz.symm (s4.extBut _ _ Z.z2 (s3.extBut _ _ Z.toz.symm (s2.extBut _ _ Z.z1 hz1)));have k5:∀c o,c∉[z,TO,i1,i2]->s.heap.get? c=some o->g5.get? c=some o:=λc o hc e=>by
  simp only[Y0,Y1,Y2,not_or] at hc;exact s5.extBut _ _ hc.2.1 (s4.extBut _ _ hc.2.2.2 (s3.extBut _ _ hc.2.1 (s2.extBut _ _ hc.2.2.1 (s1.extBut _ _ hc.1 e))))
 have t15:T1 (k+1) g5:=D1.frame _ _ _ t1 λc hc o e=>s5.extBut _ _ (λz'=>Z.tf1 (z'▸hc)) (s4.extBut _ _ (λz'=>Z.if1 (z'▸hc)) (s3.extBut _ _ (λz'=>Z.tf1 (z'▸hc)) e));have t25:T2 (k+1) g5:=D2.frame _ _ _ t2 λc hc o e=>s5.extBut _ _ (λz'=>Z.tf2 (z'▸hc)) e;have zlt:z<g5.objs.size:=Heap.lt_size hz5;show wpAny _ _ (Builtin.SmallTypes.ownedTupleHandOut (.ref z) (.ref g5.objs.size) >>= _) _ _ _;refine wpAny_bind ?_;unfold Builtin.SmallTypes.ownedTupleHandOut;have hz6:IsZip (g5.push { cls:=.type "tuple",data:=.seq #[x,y] }) z TI TO .ellipsis:=Heap.get?_push_of_some _ hz5;refine wpAny_bind (wpAny_setField_rec hz6 (by simp) λg7 hz7 s7=>?_)
 replace hz7:IsZip g7 z TI TO (rawInt g5.objs.size):=hz7;refine wpAny_setField_rec hz7 (by simp) λg8 hz8 s8=>?_
 replace hz8:IsZip g8 z TI TO (rawInt g5.objs.size):=hz8;have up:∀c o,c≠z->g5.get? c=some o->g8.get? c=some o:=λc o hc e=>s8.extBut _ _ hc (s7.extBut _ _ hc (Heap.get?_push_of_some _ e));have hT8:IsPair g8 g5.objs.size x y:=s8.extBut _ _ (Nat.ne_of_gt zlt) (s7.extBut _ _ (Nat.ne_of_gt zlt) (Heap.get?_push_size _ rfl));have hn8:g8.objs.size=g5.objs.size+1:=by rw[s8.1,s7.1,Heap.size_push]
 rw[hsz] at hz8 hT8 hn8;refine wpAny_pure ⟨_,rfl,?_⟩;show Q (.ref g5.objs.size) _;rw[hsz];exact hQ x y g8 _ p1 p2 hz8 (up _ _ Z.toz hTO5) (D1.frame _ _ _ t15 λc hc o e=>up c o (λz'=>Z.zf1 (z'▸hc)) e) (D2.frame _ _ _ t25 λc hc o e=>up c o (λz'=>Z.zf2 (z'▸hc)) e) hT8 hn8
  λc o hc e=>up c o (λz'=>hc (by simp[z'])) (k5 c o hc e)
theorem C8{Q:Fin->Shared->Prop}(D1:Draws prog w A i1 f1 n1 P1 T1)(D2:Draws prog w A i2 f2 n2 P2 T2)(Z:ml z TI TO i1 i2 f1 f2)(hz:IsZip s.heap z TI TO .none)(hTI:IsPair s.heap TI (.ref i1) (.ref i2))(hTO:IsPair s.heap TO a b)
  (h1:T1 k s.heap)(h2:T2 k s.heap)(hk:k=n1\/(k<n1/\k=n2))
  (hE:∀g tk e,(∀c o,c∉[z,TO,i1,i2]->s.heap.get? c=some o->g.get? c=some o)->(∃o,g.get? e=some o/\o.cls=.type "StopIteration")->E (.ref e) { s with heap:=g,toks:=tk }) :
  wpAny (model prog w) A (Builtin.«zip.__next__» ⟨[.ref z],[]⟩) Q E s:=by
 show wpAny _ _ (field (.ref z) 2 >>= _) _ _ _;refine wpAny_bind (wpAny_field hz rfl (x:=.bool false) rfl ?_);show wpAny _ _ (field (.ref z) 3 >>= _) _ _ _;refine wpAny_bind (wpAny_field hz rfl (x:=.ref TI) rfl ?_);refine wpAny_bind (wpAny_seqItems hTI rfl ?_);show wpAny _ _ (Builtin.SmallTypes.ownedTupleIsFree (.ref z) >>= _) _ _ _;refine wpAny_bind ?_;unfold Builtin.SmallTypes.ownedTupleIsFree;refine wpAny_bind (wpAny_field hz rfl (x:=.none) rfl (wpAny_pure ?_));simp only[if_true];refine wpAny_bind (wpAny_rule ?_);refine wpAny_bind (wpAny_field hz rfl (x:=.ref TO) rfl ?_);refine wpAny_bind (wpAny_setField_rec hz (by simp) λg1 hz1 s1=>?_)
 replace hz1:IsZip g1 z TI TO .ellipsis:=hz1;refine wpAny_bind ?_;simp only[List.zipIdx_cons,List.zipIdx_nil,List.forIn_cons,List.forIn_nil];refine wpAny_bind (wpAny_bind (wpAny_onRaise ?_));show wpAny _ _ (Builtin.SmallTypes.nextOf (.ref i1) >>= _) _ _ _;have t1':T1 k g1:=D1.frame k _ _ h1 λc hc o e=>s1.extBut _ _ (λz'=>Z.zf1 (z'▸hc)) e;rcases hk with rfl|⟨k1,rfl⟩
 .refine wpAny_bind (D1.done _ _ _ t1' λg2 e s2 he=>?_);obtain⟨oe,he1,he2⟩:=he;have hz2:IsZip g2 z TI TO .ellipsis:=s2 _ _ Z.z1 hz1;have hez:e≠z:=λx=>by subst x;rw[hz2] at he1;cases he1;simp at he2
  refine wpAny_setField_rec hz2 (by simp) λg3 _ s3=>hE g3 _ e (λc o hc x=>?_) ⟨oe,s3.extBut _ _ hez he1,he2⟩
  simp only[Y0,Y1,Y2,not_or] at hc;exact s3.extBut _ _ hc.1 (s2 _ _ hc.2.2.1 (s1.extBut _ _ hc.1 x))
 .refine wpAny_bind (D1.item k _ _ _ k1 t1' λx g2 tk2 p1 t1 s2=>wpAny_pure ?_);replace s2:Heap.SameBut i1 g1 g2:=s2;have hTO2:IsPair g2 TO a b:=s2.extBut _ _ Z.to1 (s1.extBut _ _ Z.toz hTO);refine wpAny_bind (wpAny_seqItems hTO2 rfl ?_);refine wpAny_bind (wpAny_updateSeq_pair hTO2 λg3 hTO3 s3=>?_);replace s3:Heap.SameBut TO g2 g3:=s3;refine wpAny_bind (wpAny_letGo (wpAny_pure ?_));refine wpAny_bind (wpAny_bind (wpAny_onRaise ?_));show wpAny _ _ (Builtin.SmallTypes.nextOf (.ref i2) >>= _) _ _ _;have t2':T2 k g3:=D2.frame k _ _ h2 λc hc o e=>s3.extBut _ _ (λz'=>Z.tf2 (z'▸hc)) (s2.extBut _ _ (λz'=>Z.if2 (z'▸hc)) (s1.extBut _ _ (λz'=>Z.zf2 (z'▸hc)) e));refine wpAny_bind (D2.done _ _ _ t2' λg4 e s4 he=>?_);obtain⟨oe,he1,he2⟩:=he;have hz4:IsZip g4 z TI TO .ellipsis:=s4 _ _ Z.z2 (s3.extBut _ _ Z.toz.symm (s2.extBut _ _ Z.z1 hz1));have hez:e≠z:=λx=>by subst x;rw[hz4] at he1;cases he1;simp at he2
  refine wpAny_setField_rec hz4 (by simp) λg5 _ s5=>hE g5 _ e (λc o hc x=>?_) ⟨oe,s5.extBut _ _ hez he1,he2⟩
  simp only[Y0,Y1,Y2,not_or] at hc;exact s5.extBut _ _ hc.1 (s4 _ _ hc.2.2.2 (s3.extBut _ _ hc.2.1 (s2.extBut _ _ hc.2.2.1 (s1.extBut _ _ hc.1 x))))
end
def jF:Bool->Heap->Addr->Addr->Nat->Prop
 | true,h,it,l,i=>h.IsListIter it l i
 | false,h,it,l,i=>h.IsTupleIter it l i
def fK:Bool->Heap->Addr->Array Value->Prop
 | true,h,l,its=>h.IsList l its
 | false,h,l,its=>h.IsTuple l its
def ql(K:W.Frag)(b:Bool)(H:Hp)(l:Addr)(xs:List V):Prop:=vw K H l=some (if b=true then .lst xs else .tup xs)
theorem j8{prog:Program}{w:World}{A:Around}(hh:A.handled=none)(b:Bool)(it l:Addr)(hne:l≠it)(its:Array Value) :
  Draws prog w A it [it,l] its.size (λi v=>its[i]? = some v) (λi h=>jF b h it l i/\fK b h l its):=by
 cases b with
 | true=>exact Draws.list hh it l hne its
 | false=>exact zJ hh it l hne its
theorem jF.at{b:Bool}{h h':Heap}{it l:Addr}{i:Nat}(x:jF b h it l i)(e:∀o,h.get? it=some o->h'.get? it=some o):jF b h' it l i:=by
 cases b with
 | true=>obtain⟨o,ho,r⟩:=x;exact⟨o,e o ho,r⟩
 | false=>obtain⟨o,ho,r⟩:=x;exact⟨o,e o ho,r⟩
theorem jF.obj{b:Bool}{h:Heap}{it l:Addr}{i:Nat}(x:jF b h it l i):∃o,h.get? it=some o /\ ∀v,o.data ≠ .cell v:=by
 cases b with
 | true=>obtain⟨o,ho,_,d⟩:=x;exact⟨o,ho,λv z=>by rw[d] at z;cases z⟩
 | false=>obtain⟨o,ho,_,d⟩:=x;exact⟨o,ho,λv z=>by rw[d] at z;cases z⟩
theorem fK.obj{b:Bool}{h:Heap}{l:Addr}{its:Array Value}(x:fK b h l its):∃o,h.get? l=some o:=by
 cases b with
 | true=>obtain⟨o,ho,_⟩:=x;exact⟨o,ho⟩
 | false=>obtain⟨o,ho,_⟩:=x;exact⟨o,ho⟩
theorem aU.src{X:Cx}{pins:List (Addr×Obj)}{σ:St}{H:Hp}{s:Shared}(I:aU X pins σ H s) {b:Bool}{l:Addr}{xs:List V}(h:ql X.K b H l xs):∃its:List Value,bV xs its/\fK b s.heap l its.toArray/\xs.length<=sizeLine:=by
 cases b with
 | true =>
  obtain⟨its,rv,p,hz⟩:=I.list (ke.of (K:=X.K) (aQ h));exact⟨its,rv,p.isList,hz⟩
 | false =>
  obtain⟨its,rv,p,hz⟩:=I.tuple (cZ h);exact⟨its,rv,p,hz⟩
theorem ql.inj{K:W.Frag}{b:Bool}{H:Hp}{l:Addr}{xs ys:List V}(h:ql K b H l xs)(g:ql K b H l ys):xs=ys:=by
 unfold ql at h g;rw[h] at g;cases b<;>cases g<;>rfl
def JE(K:W.Frag)(b1 b2:Bool)(l1 l2:Addr):Hp->List (List V)->Prop:=λH ys=>∃xs zs,ql K b1 H l1 xs/\ql K b2 H l2 zs/\ys=List.zipWith (λx z=>[x,z]) xs zs
section
variable {prog:Program}{w:World}{A:Around}{E:Value->Shared->Prop}{s:Shared}{z TI TO i1 i2 l1 l2:Addr}{k:Nat}{b1 b2:Bool}{u1 u2:Array Value}{a b:Value}
theorem KW{n:Nat}(h1 : @LT.lt Nat _ l1 n)(h2 : @LT.lt Nat _ l2 n):ml (n+4) (n+2) (n+3) n (n+1) [n,l1] [n+1,l2]:=by
 constructor<;>(try simp only[Y0,Y1,Y2,not_or])<;>(try constructor)<;>(intro e;have e':(_:Nat)=_:=e;nofun)
theorem wX{Q:Option Value->Shared->Prop}(hh:A.handled=none)(Z:ml z TI TO i1 i2 [i1,l1] [i2,l2])(n1:l1≠i1)(n2:l2≠i2)(hz:IsZip s.heap z TI TO .none)(hTI:IsPair s.heap TI (.ref i1) (.ref i2))(hTO:IsPair s.heap TO a b)
  (h1:jF b1 s.heap i1 l1 k)(h2:jF b2 s.heap i2 l2 k)(p1:fK b1 s.heap l1 u1)(p2:fK b2 s.heap l2 u2)(k1:k<u1.size)(k2:k<u2.size)
  (hQ:∀x y g tk,u1[k]? = some x->u2[k]? = some y->IsZip g z TI TO (rawInt s.heap.objs.size)->IsPair g TO x y->jF b1 g i1 l1 (k+1)->jF b2 g i2 l2 (k+1)->IsPair g s.heap.objs.size x y->g.objs.size=s.heap.objs.size+1 ->
   (∀c o,c∉[z,TO,i1,i2]->s.heap.get? c=some o->g.get? c=some o)->Q (some (.ref s.heap.objs.size)) { s with heap:=g,toks:=tk }):wpAny (model prog w) A (pyNext (.ref z)) Q E s:=by
 have hT:s.TypeIs (.ref z) "zip":=⟨_,hz,rfl⟩;unfold pyNext;refine wpAny_bind (wpAny_attempt (wpAny_callSpecial?_slot (name:=Str.ofString "__next__") hT F.slot_zip_next (wpAny_call_entry F.slot_zip_next hT F.entry_zip_next ?_ (F.args_zip_next_1 _))));have D1:Draws prog w A.in1 i1 [i1,l1] u1.size _ _:=j8 (A:=A.in1) hh b1 i1 l1 n1 u1;have D2:Draws prog w A.in1 i2 [i2,l2] u2.size _ _:=j8 (A:=A.in1) hh b2 i2 l2 n2 u2;exact Ah D1 D2 Z hz hTI hTO ⟨h1,p1⟩ ⟨h2,p2⟩ k1 k2 λx y g tk e1 e2 c1 c2 c3 c4 c5 c6 c7=>wpAny_pure (hQ x y g tk e1 e2 c1 c2 c3.1 c4.1 c5 c6 c7)
theorem Ae{Q:Option Value->Shared->Prop}(hh:A.handled=none)(Z:ml z TI TO i1 i2 [i1,l1] [i2,l2])(n1:l1≠i1)(n2:l2≠i2)(hz:IsZip s.heap z TI TO .none)(hTI:IsPair s.heap TI (.ref i1) (.ref i2))(hTO:IsPair s.heap TO a b)
  (h1:jF b1 s.heap i1 l1 k)(h2:jF b2 s.heap i2 l2 k)(p1:fK b1 s.heap l1 u1)(p2:fK b2 s.heap l2 u2)(hk:k=u1.size\/(k<u1.size/\k=u2.size))
  (hQ:∀g tk,(∀c o,c∉[z,TO,i1,i2]->s.heap.get? c=some o->g.get? c=some o)->Q none { s with heap:=g,toks:=tk }):wpAny (model prog w) A (pyNext (.ref z)) Q E s:=by
 have hT:s.TypeIs (.ref z) "zip":=⟨_,hz,rfl⟩;unfold pyNext;refine wpAny_bind (wpAny_attempt (wpAny_callSpecial?_slot (name:=Str.ofString "__next__") hT F.slot_zip_next (wpAny_call_entry F.slot_zip_next hT F.entry_zip_next ?_ (F.args_zip_next_1 _))));have D1:Draws prog w A.in1 i1 [i1,l1] u1.size _ _:=j8 (A:=A.in1) hh b1 i1 l1 n1 u1;have D2:Draws prog w A.in1 i2 [i2,l2] u2.size _ _:=j8 (A:=A.in1) hh b2 i2 l2 n2 u2;refine C8 D1 D2 Z hz hTI hTO ⟨h1,p1⟩ ⟨h2,p2⟩ hk λg tk e hk he=>?_;obtain⟨o,ho,hc⟩:=he;refine wpAny_bind (wpAny_isInstance (T:="StopIteration") (b:=true) ⟨o,ho,hc⟩ isSubtype_stop (wpAny_pure (hQ _ _ hk)))
end
theorem aU.turnL{X:Cx}{pins:List (Addr×Obj)}{σ:St}{H:Hp}{s:Shared}{h':Heap}{t':Nat}{ch:List Addr}(I:aU X pins σ H s)(k:∀b o,b∉ch->s.heap.get? b=some o->h'.get? b=some o)(hf:∀b∈ch,m5 X pins H b):aU X pins σ H { s with heap:=h',toks:=t' }:=by
 have nch:∀c v,H c=some v->c∉ch:=λc v z hc=>by
  rw[(hf c hc).1] at z;cases z
 refine I.step (g':=s.gens) (d':=s.drawn) (ch:=ch) (λb hb=>?_) (λb o _ _ hc e _=>k b o hc e) (λb o _ _ hc e _=>⟨o.slots,k b o hc e⟩) (λb o _ e n=>n)
  (λb o hc e=>⟨o,k b o hc e⟩) (λb ys e=>e) (λb o u e=>e) (λb ps e=>⟨#[],by rw[e];simp⟩) (λm hm=>?_) (λb u e=>?_) I.bare
 .obtain⟨_,f1,_,f3,f4,f5⟩:=hf b hb;exact⟨f3,f1,f4,f5⟩
 .obtain⟨o,es,ep,ho,r⟩:=hm;exact⟨o,es,ep,k _ o (λz=>(hf _ z).2.1 rfl) ho,r⟩
 .refine (I.hok b u e).stay (λc v hc q=>k c v ?_ q) (λc q=>q) λc ys q=>q;rcases hc with z|z
  .rw[z];exact nch b u e
  .exact nch c _ z
theorem C9{P:Program}{w:World}{K:W.Frag}{elts:List Expr}{x1:Nat}{pos:Pos}{b1 b2:Bool}(z TI TO i1 i2 l1 l2:Addr)(Z:ml z TI TO i1 i2 [i1,l1] [i2,l2])(n1:l1≠i1)(n2:l2≠i2) :
  wu P w K (.Tuple elts x1 pos) (Io K (JE K b1 b2 l1 l2)) [z,TO,i1,i2,TI] z (λi h=>IsZip h z TI TO .none/\IsPair h TI (.ref i1) (.ref i2)/\(∃a b,IsPair h TO a b)/\jF b1 h i1 l1 i/\jF b2 h i2 l2 i) where
 mem:=by simp
 obj:=λi h st b hb=>by
  obtain⟨h1,h2,⟨a,c,h3⟩,h4,h5⟩:=st;simp only[Y0,Y1,Y2] at hb;rcases hb with rfl|rfl|rfl|rfl|rfl
  .exact⟨_,h1,λv e=>by cases e⟩
  .exact⟨_,h3,λv e=>by cases e⟩
  .exact h4.obj
  .exact h5.obj
  .exact⟨_,h2,λv e=>by cases e⟩
 keep:=λi h h' st k=>by
  obtain⟨h1,h2,⟨a,c,h3⟩,h4,h5⟩:=st;exact⟨k z (by simp) _ h1,k TI (by simp) _ h2,⟨a,c,k TO (by simp) _ h3⟩,h4.at λo e=>k i1 (by simp) o e,h5.at λo e=>k i2 (by simp) o e⟩
 item:=by
  intro X hP hw hK hc i pins s σ H E I hf st hg;subst hP hw hK;obtain⟨h1,h2,⟨a,c,h3⟩,h4,h5⟩:=st;obtain⟨ys,t,⟨xs,zs,q1,q2,rfl⟩,ht⟩:=hg;have hlt:i<xs.length/\i<zs.length:=by
   have:=(List.getElem?_eq_some_iff.mp ht).1;simp at this;nofun
  obtain⟨u1,r1,p1,z1⟩:=I.src q1;obtain⟨u2,r2,p2,z2⟩:=I.src q2;have e1:=r1.length;have e2:=r2.length;have tx:t=[xs[i]'hlt.1,zs[i]'hlt.2]:=by
   rw[List.getElem?_zipWith,YR hlt.1,YR hlt.2] at ht;exact (Ym ht).symm
  refine wX (I.ok.hd hc) Z n1 n2 h1 h2 h3 h4 h5 p1 p2 (by simp;nofun) (by simp;nofun) λx y g tk ex ey c1 c2 c3 c4 c5 c6 c7=>⟨_,rfl,?_⟩
  refine wpAny_letOwnedTupleGo_zip (s:={ s with heap:=g,toks:=tk }) c1 λg2 d1 d2=>?_
  replace d2:Heap.SameBut z g g2:=d2;have zs':z<s.heap.objs.size:=Heap.lt_size h1;have rx:cC (xs[i]'hlt.1) x:=by
   obtain⟨u,hu,ru⟩:=r1.get (YR hlt.1);rw[List.getElem?_toArray,hu] at ex;cases ex;exact ru
  have ry:cC (zs[i]'hlt.2) y:=by
   obtain⟨u,hu,ru⟩:=r2.get (YR hlt.2);rw[List.getElem?_toArray,hu] at ey;cases ey;exact ru
  have hf4:∀b∈[z,TO,i1,i2],m5 X pins H b:=λb hb=>hf b (by simp only[Y0,Y1,Y2] at hb ⊢;rcases hb with e|e|e|e<;>simp[e])
  have I4:aU X pins σ (upd H s.heap.objs.size (.tup t)) { s with heap:=g2,toks:=tk }:=by
   rw[tx];exact I.turnT (its:=[x,y]) (λb o hb e=>d2.extBut _ _ (λe'=>hb (by simp[e'])) (c7 b o hb e)) hf4 (Yp _) (show 2<=sizeLine by decide) (.cons rx (.cons ry .nil)) ⟨_,d2.extBut _ _ (Nat.ne_of_gt zs') c5,rfl,_,rfl⟩
  have fr:=I.hok.fresh (Yp s.heap.objs.size);have nk:=I.newK (Yp s.heap.objs.size);have hTI2:IsPair g2 TI (.ref i1) (.ref i2):=d2.extBut _ _ Z.tiz (c7 TI _ (by simp[Z.tiz,Z.tito,Z.ti1,Z.ti2]) h2)
  refine⟨.ref s.heap.objs.size,_,I4,rfl,⟨_,_,rfl,by rw[eH nk];exact fr,lB (aB.upd fr),by rw[eH nk];exact de,?_⟩,⟨d1,hTI2,⟨_,_,d2.extBut _ _ Z.toz c2⟩,c3.at λo e=>d2.extBut _ _ Z.z1.symm e,c4.at λo e=>d2.extBut _ _ Z.z2.symm e⟩,λb hb=>?_⟩
  .rintro ys ⟨xs',zs',q1',q2',rfl⟩;cases q1.inj q1';cases q2.inj q2';exact ht
  .have:b<s.heap.objs.size:=by
    simp only[Y0,Y1,Y2] at hb;rcases hb with rfl|rfl|rfl|rfl|rfl
    .exact zs'
    .exact Heap.lt_size h3
    .obtain⟨_,e,_⟩:=h4.obj;exact Heap.lt_size e
    .obtain⟨_,e,_⟩:=h5.obj;exact Heap.lt_size e
    .exact Heap.lt_size h2
   rw[cL (Yf this)];exact (hf b hb).1
 done:=by
  intro X hP hw hK hc i pins s σ H E I hf st hg;subst hP hw hK;obtain⟨h1,h2,⟨a,c,h3⟩,h4,h5⟩:=st;obtain⟨ys,⟨xs,zs,q1,q2,rfl⟩,hl⟩:=hg;obtain⟨u1,r1,p1,z1⟩:=I.src q1;obtain⟨u2,r2,p2,z2⟩:=I.src q2;have e1:=r1.length;have e2:=r2.length;have hk:i=u1.toArray.size\/(i<u1.toArray.size/\i=u2.toArray.size):=by
   rw[List.length_zipWith] at hl;simp only[Ys];nofun
  have hf4:∀b∈[z,TO,i1,i2],m5 X pins H b:=λb hb=>hf b (by simp only[Y0,Y1,Y2] at hb ⊢;rcases hb with e|e|e|e<;>simp[e])
  exact Ae (I.ok.hd hc) Z n1 n2 h1 h2 h3 h4 h5 p1 p2 hk λg tk k=>⟨rfl,I.turnL k hf4⟩
 self:=λ_ _ _ _ _ st h=>wpAny_pyIter_zip st.1 h
def FY(b:Bool)(l:Addr):Obj:=match b with
 | true=>{ cls:=.type "list_iterator",data:=.fields #[.ref l,.int 0 0] }
 | false=>{ cls:=.type "tuple_iterator",data:=.fields #[.ref l,.int 0 0] }
section
variable {prog:Program}{w:World}{A:Around}{E:Value->Shared->Prop}{s:Shared}
theorem zi{b:Bool}{l:Addr}{u:Array Value}{Q:Value->Shared->Prop}(h:fK b s.heap l u)(q:Q (.ref s.heap.objs.size) { s with heap:=s.heap.push (FY b l) }):wpAny (model prog w) A (pyIter (.ref l)) Q E s:=by
 cases b with
 | true=>exact wpAny_pyIter_list h q
 | false=>exact wpAny_pyIter_tuple h q
end
theorem fK.push{b:Bool}{h:Heap}{l:Addr}{u:Array Value}(x:fK b h l u)(o:Obj):fK b (h.push o) l u:=by
 cases b with
 | true=>obtain⟨v,e,r⟩:=x;exact⟨v,Heap.get?_push_of_some _ e,r⟩
 | false=>obtain⟨v,e,r⟩:=x;exact⟨v,Heap.get?_push_of_some _ e,r⟩
theorem jF.new{b:Bool}{h:Heap}{it l:Addr}(e:h.get? it=some (FY b l)):jF b h it l 0:=by
 cases b with
 | true=>exact⟨_,e,rfl,rfl⟩
 | false=>exact⟨_,e,rfl,rfl⟩
abbrev J7 (h:Heap)(b1:Bool)(l1:Addr):Heap:=h.push (FY b1 l1)
abbrev J6 (h:Heap)(b1 b2:Bool)(l1 l2:Addr):Heap:=(J7 h b1 l1).push (FY b2 l2)
abbrev J2 (h:Heap)(b1 b2:Bool)(l1 l2:Addr):Heap:=(J6 h b1 b2 l1 l2).push { cls:=.type "tuple",data:=.seq #[.ref h.objs.size,.ref (J7 h b1 l1).objs.size] }
abbrev JS (h:Heap)(b1 b2:Bool)(l1 l2:Addr):Heap:=(J2 h b1 b2 l1 l2).push { cls:=.type "tuple",data:=.seq #[.none,.none] }
abbrev IH (h:Heap)(b1 b2:Bool)(l1 l2:Addr):Heap:=(JS h b1 b2 l1 l2).push { cls:=.type "zip",data:=.fields #[.none,.bool false,.bool false,.ref (J6 h b1 b2 l1 l2).objs.size,.ref (J2 h b1 b2 l1 l2).objs.size] }
theorem wL(b1 b2:Bool)(l1 l2:Addr)(u1 u2:Array Value) :
  Meets (Builtin.«zip.__new__» ⟨[.type "zip",.ref l1,.ref l2],[]⟩) (λ_ R s=>fK b1 s.heap l1 u1/\fK b2 s.heap l2 u2/\R (.ok (.ret (.ref (JS s.heap b1 b2 l1 l2).objs.size))) { s with heap:=IH s.heap b1 b2 l1 l2 }) :=
 .of_wp λprog w A R s h=>by
  obtain⟨hp,g,d,tk,os⟩:=s;obtain⟨q1,q2,h⟩:=h;have hsub:=sub_zip;have y1:fK b1 (Shared.heap ⟨hp,g,d,tk,os⟩) l1 u1:=q1;have y2:fK b2 (Shared.heap ⟨hp.push (FY b1 l1),g,d,tk,os⟩) l2 u2:=fK.push q2 _
  wp_walk using zi y1,zi y2
  exact⟨_,rfl,h⟩
section
variable {prog:Program}{w:World}{A:Around}{E:Value->Shared->Prop}{s:Shared}
theorem IT{b1 b2:Bool}{l1 l2:Addr}{u1 u2:Array Value}{Q:Value->Shared->Prop}(q1:fK b1 s.heap l1 u1)(q2:fK b2 s.heap l2 u2)
  (h:∀g,IsZip g (s.heap.objs.size+4) (s.heap.objs.size+2) (s.heap.objs.size+3) .none->IsPair g (s.heap.objs.size+2) (.ref s.heap.objs.size) (.ref (s.heap.objs.size+1))->IsPair g (s.heap.objs.size+3) .none .none ->
   jF b1 g s.heap.objs.size l1 0->jF b2 g (s.heap.objs.size+1) l2 0->(∀c o,s.heap.get? c=some o->g.get? c=some o)->Q (.ref (s.heap.objs.size+4)) { s with heap:=g }) :
  wpAny (model prog w) A (call (.type "zip") [.ref l1,.ref l2]) Q E s:=by
 refine callType_new F.called_zip ∅ (F.typeCall_zip_2 _ _) (F.newCall_zip_2 _ _) (λobj=>F.args_object_init_3 obj _ _) F.entry_zip_new (wL b1 b2 l1 l2 u1 u2) ⟨q1,q2,?_⟩;have v1:(J7 s.heap b1 l1).objs.size=s.heap.objs.size+1:=Heap.size_push ..;have v2:(J6 s.heap b1 b2 l1 l2).objs.size=s.heap.objs.size+2:=by rw[Heap.size_push,v1]
 have v3:(J2 s.heap b1 b2 l1 l2).objs.size=s.heap.objs.size+3:=by rw[Heap.size_push,v2]
 have v4:(JS s.heap b1 b2 l1 l2).objs.size=s.heap.objs.size+4:=by rw[Heap.size_push,v3]
 have g5:(IH s.heap b1 b2 l1 l2).get? (JS s.heap b1 b2 l1 l2).objs.size=some _:=Heap.get?_push_size _ rfl;have g4:(IH s.heap b1 b2 l1 l2).get? (J2 s.heap b1 b2 l1 l2).objs.size=some _:=Heap.get?_push_of_some _ (Heap.get?_push_size _ rfl);have g3:(IH s.heap b1 b2 l1 l2).get? (J6 s.heap b1 b2 l1 l2).objs.size=some _:=Heap.get?_push_of_some _ (Heap.get?_push_of_some _ (Heap.get?_push_size _ rfl));have nf:∀b l,(FY b l).isFreed=false:=λb l=>by cases b<;>rfl
 have g2:(IH s.heap b1 b2 l1 l2).get? (J7 s.heap b1 l1).objs.size=some (FY b2 l2):=Heap.get?_push_of_some _ (Heap.get?_push_of_some _ (Heap.get?_push_of_some _ (Heap.get?_push_size _ (nf _ _))));have g1:(IH s.heap b1 b2 l1 l2).get? s.heap.objs.size=some (FY b1 l1):=Heap.get?_push_of_some _ (Heap.get?_push_of_some _ (Heap.get?_push_of_some _ (Heap.get?_push_of_some _ (Heap.get?_push_size _ (nf _ _)))));show _/\_;rw[v2,v3,v4] at g5;rw[v1,v2] at g3;rw[v3] at g4;rw[v1] at g2;rw[v4];exact⟨⟨_,g5,rfl⟩,h _ g5 g3 g4 (.new g1) (.new g2) λc o x=>Heap.get?_push_of_some _ (Heap.get?_push_of_some _ (Heap.get?_push_of_some _ (Heap.get?_push_of_some _ (Heap.get?_push_of_some _ x))))⟩
end
def xu(K:W.Frag)(ta:TA):TI:=λσ H R=>ta σ H λvs H1=>∃a b,vs=[.ref a,.ref b] /\ ∃c d,(∃xs,ql K c H1 a xs)/\(∃ys,ql K d H1 b ys)/\R (Io K (JE K c d a b)) H1
theorem Ht{X:Cx}{elts:List Expr}{x1:Nat}{tp p pos:Pos}{a b:Expr}{ta:TA}(hg:Gl X "zip") (hm:X.mg "zip" = none) (ha:PA X [a,b] ta)(hs:starEach [a,b] X.env=[(false,eval a X.env),(false,eval b X.env)]:=by rfl)(hs2:starEach [b] X.env=[(false,eval b X.env)]:=by rfl) :
  PI X (.Tuple elts x1 tp) (.Call (.Name "zip" p) [a,b] [] pos) (xu X.K ta):=by
 intro pins s σ H R I h;refine Call_ (jW I hg hm Ip (Yq (dy (ha pos pins s σ H _ I h) λus s1 ⟨vs,H1,I1,r1,q1⟩=>?_) (by rw[hs,hs2]) (by rw[hs2];rfl)))
 obtain⟨l1,l2,e,c,d,⟨xs,hx⟩,⟨ys,hy⟩,q⟩:=q1;subst e;cases r1 with
 | cons r rr =>
  cases rr with
  | cons r' rr =>
   cases rr;cases r;cases r';obtain⟨u1,t1,p1,_⟩:=I1.src hx;obtain⟨u2,t2,p2,_⟩:=I1.src hy;refine IT p1 p2 λg c1 c2 c3 c4 c5 k=>?_;refine wpAny_pyIter_zip (s:={ s1 with heap:=g }) c1 ?_
   have m1:l1<s1.heap.objs.size:=by obtain⟨_,e⟩:=p1.obj;exact Heap.lt_size e
   have m2:l2<s1.heap.objs.size:=by obtain⟨_,e⟩:=p2.obj;exact Heap.lt_size e
   refine⟨_,_,_,_,H1,rfl,I1.kept (t':=s1.toks) k,C9 _ _ _ _ _ l1 l2 (KW m1 m2) (Yf m1) (Yf (Nat.lt_succ_of_lt m2)),⟨c1,c2,⟨_,_,c3⟩,c4,c5⟩,λf hf=>?_,q⟩;have hf':s1.heap.objs.size<=f:=by
    simp only[Y0,Y1,Y2] at hf;rcases hf with z|z|z|z|z<;>rw[z]
    .exact Nat.le_add_right _ 4
    .exact Nat.le_add_right _ 3
    .exact Yp _
    .exact Nat.le_add_right _ 1
    .exact Nat.le_add_right _ 2
   exact I1.fpOk hf' (I1.hok.fresh hf')
theorem uh{X:Cx}{elts:List Expr}{x1:Nat}{tp p pos:Pos}{a b:Expr}{ta:TA}(hg:Gl X "zip") (hm:X.mg "zip" = none) (ha:QA X [a,b] ta)(hs:starEach [a,b] X.env=[(false,eval a X.env),(false,eval b X.env)]:=by rfl)(hs2:starEach [b] X.env=[(false,eval b X.env)]:=by rfl) :
  QI X (.Tuple elts x1 tp) (.Call (.Name "zip" p) [a,b] [] pos) (xu X.K ta):=⟨Ht hg hm ha.h hs hs2⟩
section
variable {X:Cx}{pins:List (Addr×Obj)}{σ:St}{H:Hp}{s:Shared}
theorem aU.kitx(I:aU X pins σ H s) {x:V}{u:Value}{n:String}(rx:cC x u)(hn:Ar (vw X.K H) x=some n) :
  ∃G:Heap->Prop,PySem.W.KitX X.K u (.type n) G/\G s.heap/\u ≠ .builtin "__main__.__loader__#opaque" /\ wo n:=by
 cases x with
 | non=>cases hn;cases (show u=Value.none from rx);exact⟨_,PySem.W.kitx_none,True.intro,(λz=>nomatch z),.inl rfl⟩
 | bl b=>cases hn;cases (show u=Value.bool b from rx);exact⟨_,PySem.W.kitx_bool,True.intro,(λz=>nomatch z),.inr (.inl rfl)⟩
 | int b=>cases hn;obtain⟨t,q⟩:=(show ∃t,u=Value.int b t from rx);cases q;exact⟨_,PySem.W.kitx_int,True.intro,(λz=>nomatch z),.inr (.inr (.inl rfl))⟩
 | str b=>cases hn;obtain⟨t,q⟩:=(show ∃t,u=Value.str b t from rx);cases q;exact⟨_,PySem.W.kitx_str,True.intro,(λz=>nomatch z),.inr (.inr (.inr (.inl rfl)))⟩
 | flt b=>cases hn
 | byt b=>cases hn
 | ty b=>cases hn
 | ref a =>
  cases (show u=Value.ref a from rx)
  unfold Ar at hn;dsimp only at hn;split at hn
  .rename_i xs e
   cases hn;obtain⟨_,_,k,_,h1⟩:=(show dZ X.prog X.w H s.heap a (.lst xs) from I.hok a _ (aQ e))
   exact⟨_,PySem.W.kitx_list,⟨_,h1,rfl⟩,(λz=>nomatch z),.inr (.inr (.inr (.inr (.inl rfl))))⟩
  .rename_i o xs e
   cases hn;obtain⟨h0,h1⟩:=(show dZ X.prog X.w H s.heap a (.frz o (.lst xs)) from I.hok a _ (mZ e λ_ z=>by cases z))
   obtain⟨_,_,k,_,h1⟩:=h1;exact⟨_,PySem.W.kitx_list,⟨_,h1,rfl⟩,(λz=>nomatch z),.inr (.inr (.inr (.inr (.inl rfl))))⟩
  .rename_i ys e
   cases hn;obtain⟨its,rv,⟨o,h1,h2,_⟩,hz⟩:=I.tuple (cZ e);exact⟨_,PySem.W.kitx_tuple,⟨o,h1,h2⟩,(λz=>nomatch z),.inr (.inr (.inr (.inr (.inr (.inl rfl)))))⟩
  .rename_i kvs e
   cases hn;obtain⟨_,_,vs,_,d⟩:=(show dZ X.prog X.w H s.heap a (.dK kvs) from I.hok a _ (mZ e λ_ z=>by cases z))
   obtain⟨o,es,ep,h1,h2,_⟩:=d;exact⟨_,PySem.W.kitx_dict,⟨o,h1,h2.1⟩,(λz=>nomatch z),.inr (.inr (.inr (.inr (.inr (.inr rfl)))))⟩
  .cases hn
theorem Iy{K:W.Frag}{n:String}(hn:wo n):PySem.W.kitAny K (.type n) [.type "tuple",.type "list"]=some (dG n "tuple" || dG n "list"):=by
 rcases hn with rfl|rfl|rfl|rfl|rfl|rfl|rfl<;>rfl
theorem qK:eM X (.builtin "isinstance") (λxs H Q=>∃x n p,xs=[x,.ref p]/\vw X.K H p=some (.tup [.ty "tuple",.ty "list"])/\Ar (vw X.K H) x=some n/\Q (.bl (dG n "tuple" || dG n "list")) H):=by
 intro pins s σ H xs us Q I r h;obtain⟨x,n,p,rfl,hp,hn,q⟩:=h;obtain⟨u,w',rfl,rx,ry⟩:=yO r;cases ry;obtain⟨G,Z,g,hu,tn⟩:=I.kitx rx hn;obtain⟨its,rv,⟨o,h1,h2,k,h3⟩,hz⟩:=I.tuple (cZ hp);obtain⟨oc,od,odt,osl⟩:=o;dsimp only at h2 h3;subst h2 h3;cases rv with
 | cons r1 rv =>
  cases rv with
  | cons r2 rv =>
   cases rv;cases r1;cases r2;exact PySem.W.kia_tup Z I.kIn g h1 (Iy tn) hu λtk=>⟨.bl _,H,I.tok tk,rfl,q⟩
theorem za:∀{bs:List Bool}{us:List Value},bV (bs.map V.bl) us->us=bs.map Value.bool
 | [],us,h=>by cases h;rfl
 | b::bs,us,h=>by
  cases h with
  | cons r rr =>
   cases r;rw[za rr];rfl
theorem zB{bs:List Bool}:(List.range bs.length).all (λi=>bs.getD i true)=bs.all id:=by
 induction bs with
 | nil=>rfl
 | cons b bs ih =>
  rw[Y9,List.range_succ_eq_map,List.all_cons,List.all_cons,List.all_map];have e:((λi=>(b::bs).getD i true) ∘ Nat.succ)=λi=>bs.getD i true:=by
   funext i;simp
  rw[e,ih];rfl
theorem zO(hh:X.calm=true):eM X (.builtin "all") (λxs H Q=>∃p,xs=[.ref p] /\ ∃bs:List Bool,vw X.K H p=some (.lst (bs.map V.bl))/\Q (.bl (bs.all id)) H):=by
 intro pins s σ H xs us Q I r h;obtain⟨p,rfl,bs,hp,q⟩:=h;cases r with
 | cons r1 rr =>
  cases rr;cases r1;obtain⟨its,rv,pl,hz⟩:=I.list (ke.of (K:=X.K) (aQ hp));have e:=za rv;subst e;have hlt:p<s.heap.objs.size:=by obtain⟨o,n,e1,_⟩:=pl;exact Heap.lt_size e1
  refine call_all_walk (wpAny_pyIter_list pl.isList ⟨s.heap.objs.size,_,_,_,_,_,λi=>bs.getD i true,rfl,Walks.list (show X.A.in1.handled=none from I.ok.hd hh) _ p (Yf hlt) _,⟨⟨_,Heap.get?_push_size _ rfl,rfl,rfl⟩,pl.isList.push _⟩,?_,λh' tk hk=>?_⟩)
  .intro i v s' Q' E' hv hq;have hv':(bs.map Value.bool)[i]? = some v:=by simpa using hv
   rw[Yz] at hv';cases hb:bs[i]? with
   | none=>rw[hb] at hv';cases hv'
   | some b =>
    rw[hb] at hv';cases hv';replace hq:Q' (bs.getD i true) s':=hq;rw[Xa,hb] at hq;exact wpAny_truthy_bool hq
  .rw[Ys,YC,zB];refine⟨.bl _,H,I.kept λb o e=>hk b o (λz=>?_) (Heap.get?_push_of_some _ e),rfl,q⟩;rw[List.mem_singleton.mp z] at e;exact absurd (Heap.lt_size e) (Ye _)
end
def D8(K:W.Frag)(a:Addr)(σr:St)(Pv:List V->Hp->Prop):St->Hp->Prop:=λσ H=>(∃y z,σ=y::z::σr) /\ ∃xs,vw K H a=some (.lst xs)/\Pv xs H
theorem kd{K:W.Frag}{R:Hp->List (List V)->Prop}{ps:List (V×V)}{tif:TT}{te:TE}{a:Addr}{x0 x1:Option V}{σr:St}{H0:Hp}{Q:Hp->Prop}(Pv:Nat->List V->Hp->Prop)
  (hl:∀i xs H,i<=ps.length->vw K H a=some (.lst xs)->Pv i xs H->R H (ps.map λp=>[p.1,p.2]))(ha:vw K H0 a=some (.lst []))(h0:Pv 0 [] H0)
  (hs:∀i x y xs H H',i<ps.length->ps[i]? = some (x,y)->vw K H' a=some (.lst xs)->Pv i xs H->aB (vw K H) (vw K H')->tif (some x::some y::σr) H' λb H3=>if b=true then te (some x::some y::σr) H3 (Gi K a (D8 K a σr (Pv (i+1)) (some x::some y::σr))) else D8 K a σr (Pv (i+1)) (some x::some y::σr) H3)
  (hd:∀xs H,vw K H a=some (.lst xs)->Pv ps.length xs H->Q H):mK K (Io K R) (iZ K 2 (jz (gf 0) (jz (gf 1) uy))) tif te a (x0::x1::σr) H0 Q:=by
 refine⟨λi m σ H=>m=ps.length-i/\i<=ps.length/\D8 K a σr (Pv i) σ H,⟨ps.length,by simp,YK _,⟨_,_,rfl⟩,_,ha,h0⟩,?_⟩
 rintro i m σ H ⟨rfl,hi,⟨y,z,rfl⟩,xs,hxs,p⟩;have q:=hl i xs H hi hxs p;by_cases hlt:i<ps.length
 .refine .inr ⟨⟨_,_,q,by rw[Yz,YR hlt];rfl⟩,D8 K a σr (Pv (i+1)),λσ' H' p'=>⟨ps.length-(i+1),(),rfl,hlt,p'⟩,λx H' y=>?_⟩
  obtain⟨b,t,rfl,y1,y2,y3,y4⟩:=y;have e:=y4 _ q;rw[Yz,YR hlt] at e;cases e;exact⟨b,rfl,_,y3,rfl,_,_,rfl,_,_,rfl,rfl,hs i _ _ xs H H' hlt (YR hlt) (y2 _ _ hxs) p y2⟩
 .have e:i=ps.length:=();subst e;exact .inl ⟨⟨_,q,by simp⟩,hd xs H hxs p⟩
theorem Gi.mk2{K:W.Frag}{a:Addr}{σr:St}{Pv:List V->Hp->Prop}{x y:Option V}{v:V}{H:Hp}{xs:List V}(h:vw K H a=some (.lst xs))(hz:xs.length<sizeLine)
  (q:∀H5,fV a (vw K H) (vw K H5)->vw K H5 a=some (.lst (xs++[v]))->Pv (xs++[v]) H5):Gi K a (D8 K a σr Pv (x::y::σr)) v H:=⟨xs,h,hz,λH5 B h5=>⟨⟨_,_,rfl⟩,_,h5,q H5 B h5⟩⟩
theorem lC{xs ys:List V}:List.zipWith (λx z=>[x,z]) xs ys=(xs.zip ys).map λp=>[p.1,p.2]:=by
 rw[List.zip,List.map_zipWith]
def D.sm:Nat->D->Bool
 | 0,_=>false
 | n+1,.tup ds=>decide (ds.length<=1000) && ds.all (D.sm n)
 | n+1,.lst ds=>decide (ds.length<=1000) && ds.all (D.sm n)
 | _+1,.dict=>false
 | _+1,_=>true
theorem Jn{n:Nat}{q:Int×Int}:(fr q).sm (n+2)=true:=rfl
theorem oO{n:Nat}{qs:List (Int×Int)}(h:qs.length<=1000):(D.lst (qs.map fr)).sm (n+3)=true:=by
 show (decide ((qs.map fr).length<=1000) && (qs.map fr).all (D.sm (n+2)))=true;rw[YC,YO h,Bool.true_and];refine List.all_eq_true.mpr λd hd=>?_;obtain⟨q,_,rfl⟩:=List.mem_map.mp hd;exact Jn
theorem Ia{H:Hp}{ds:List D}{xs ys:List V}(r1:aJ H ds xs)(r2:aJ H ds ys) {i:Nat}{x y:V}(h:(xs.zip ys)[i]? = some (x,y)):∃d,d∈ds/\aI H d x/\aI H d y:=by
 rw[List.getElem?_zip_eq_some] at h;obtain⟨d,e1,q1⟩:=r1.get h.1;obtain⟨d',e2,q2⟩:=r2.get h.2;rw[e1] at e2;cases e2;exact⟨d,YA e1,q1,q2⟩
def wv(q:Int×Int):Rat:=(q.1:Rat)/(q.2:Rat)
theorem ao{b:Int}(h:b≠0):(b:Rat)≠0:=by simpa using h
theorem ig{a b:Int}(hb:b≠0):wv (lo a b)=(a:Rat)/(b:Rat):=by
 have e1:=fD (a:=a) hb;have e2:=fL (a:=a) hb;have hg:=ao (Av (a:=a) hb);have hd:(lo a b).2≠0:=by have:=(ie (a:=a) hb).1;nofun
 have hd':=ao hd;have c1:((lo a b).1:Rat)*(lg a b:Rat)=(a:Rat):=by
  have:=Yn (λi:Int=>(i:Rat)) e1;simpa using this
 have c2:((lo a b).2:Rat)*(lg a b:Rat)=(b:Rat):=by
  have:=Yn (λi:Int=>(i:Rat)) e2;simpa using this
 unfold wv;rw[<-c1,<-c2];grind
theorem yb{a b c:Int}(h:b∣a*c)(hg:Int.gcd a b=1):b∣c:=by
 have h1:b.natAbs∣a.natAbs*c.natAbs:=by
  rw[<-YW];exact Int.natAbs_dvd_natAbs.mpr h
 have h2:Nat.Coprime b.natAbs a.natAbs:=by
  unfold Nat.Coprime;rw[Nat.gcd_comm];exact hg
 exact Int.natAbs_dvd_natAbs.mp (Nat.Coprime.dvd_of_dvd_mul_left h2 h1)
theorem gY{p q:Int×Int}(hp:Fq p)(hq:Fq q)(h:wv p=wv q):p=q:=by
 have h1:=ao (show p.2≠0 by have:=hp.1;nofun)
 have h2:=ao (show q.2≠0 by have:=hq.1;nofun)
 have e:p.1*q.2=q.1*p.2:=by
  unfold wv at h;have:(p.1:Rat)*(q.2:Rat)=(q.1:Rat)*(p.2:Rat):=⋯;have h3:((p.1*q.2:Int):Rat)=((q.1*p.2:Int):Rat):=by simpa using this
  exact Rat.intCast_inj.mp h3
 have d1:p.2∣q.2:=by
  have:p.2∣p.1*q.2:=⟨q.1,by rw[e,Y8]⟩
  exact yb this hp.2
 have d2:q.2∣p.2:=by
  have:q.2∣q.1*p.2:=⟨p.1,by rw[<-e,Y8]⟩
  exact yb this hq.2
 have e2:p.2=q.2:=Int.dvd_antisymm (YU hp.1) (YU hq.1) d1 d2;rw[e2] at e;have e1:p.1=q.1:=Xb (by have:=hq.1;nofun) e
 exact Prod.ext e1 e2
theorem kG{p q:Int×Int}(hp:p.2≠0)(hq:q.2≠0):wv (nZ p q)=wv p+wv q:=by
 unfold nZ;rw[ig (Xc hp hq)];unfold wv;have h1:=ao hp;have h2:=ao hq;simp only[Xd,Xe];grind
def kT(p q:Int×Int):Int×Int:=lo (p.1*q.1) (p.2*q.2)
theorem gJ{p q:Int×Int}(hp:Fq p)(hq:Fq q):Fq (kT p q):=ie (by have:=Y6 hp.1 hq.1;nofun)
theorem i3{p q:Int×Int}{m n:Nat}(hp:Fq p)(hq:Fq q)(h1:Bq m p)(h2:Bq n q):Bq (m+n) (kT p q):=nF (by have:=Y6 hp.1 hq.1;nofun) (h1.1.mul h2.1) (h1.2.mul h2.2)
theorem ja{p q:Int×Int}(hp:p.2≠0)(hq:q.2≠0):wv (kT p q)=wv p*wv q:=by
 unfold kT;rw[ig (Xc hp hq)];unfold wv;have h1:=ao hp;have h2:=ao hq;simp only[Xe];grind
section
variable {X:Cx}
def kW:List Int->Int
 | []=>0
 | a::as=>a+kW as
theorem pK(as bs:List Int):kW (as++bs)=kW as+kW bs:=by
 induction as with
 | nil=>simp[kW]
 | cons a as ih=>simp only[List.cons_append,kW,ih];nofun
theorem nj(ns:List Int):∀k,k<=ns.length->preSum (λi=>ns.getD i 0) k=kW (ns.take k)
 | 0,_=>rfl
 | k+1,h=>by
  have hk:k<ns.length:=();show preSum _ k+ns.getD k 0=_;rw[nj ns k (),Xf,YR hk,pK];simp[kW,Xa,YR hk]
theorem uG:∀{ns:List Int}{us:List Value},bV (ns.map V.int) us -> ∀{i:Nat}{v:Value},us[i]? = some v -> ∃t,v=.int (ns.getD i 0) t
 | [],us,h,i,v,e=>by cases h;cases e
 | n::ns,us,h,i,v,e=>by
  cases h with
  | cons r rr =>
   cases i with
   | zero =>
    cases e;obtain⟨t,rfl⟩:=r;exact⟨t,rfl⟩
   | succ i =>
    obtain⟨t,q⟩:=uG rr (i:=i) e;exact⟨t,by rw[q];simp⟩
theorem rh(hh:X.calm=true):eM X (.builtin "sum") (λxs H Q=>∃p,xs=[.ref p] /\ ∃ns:List Int,vw X.K H p=some (.lst (ns.map V.int))/\Q (.int (kW ns)) H):=by
 intro pins s σ H xs us Q I r h;obtain⟨p,rfl,ns,hp,q⟩:=h;cases r with
 | cons r1 rr =>
  cases rr;cases r1;obtain⟨its,rv,pl,hz⟩:=I.list (ke.of (K:=X.K) (aQ hp));have hl:=rv.length;rw[YC] at hl;have hlt:p<s.heap.objs.size:=by obtain⟨o,n,e1,_⟩:=pl;exact Heap.lt_size e1
  refine call_sum_walkG (wpAny_pyIter_list pl.isList ⟨s.heap.objs.size,_,_,_,_,_,λi=>ns.getD i 0,rfl,Walks.list (show X.A.in1.handled=none from I.ok.hd hh) _ p (Yf hlt) _,⟨⟨_,Heap.get?_push_size _ rfl,rfl,rfl⟩,pl.isList.push _⟩,?_,λi v hv=>uG rv (by simpa using hv),λh' tk t' hk=>?_⟩)
  .intro b hb;show b<(s.heap.push _).objs.size;rw[Heap.size_push];simp only[Y0,Y1,Y2] at hb;rcases hb with e|e
   .rw[e];exact Nat.lt_succ_self _
   .rw[e];exact Nat.lt_succ_of_lt hlt
  .refine⟨.int (kW ns),H,I.kept λb o e=>hk b o (λz=>?_) (Heap.get?_push_of_some _ e),⟨t',?_⟩,q⟩
   .rw[List.mem_singleton.mp z] at e;exact absurd (Heap.lt_size e) (Ye _)
   .rw[Ys,<-hl,nj ns _ (Yp _),Xg]
theorem rO:FT X .Mult (λx y H Q=>∃i j,x=.int i/\y=.int j/\IntMulOk i j/\Q (.int (i*j)) H):=by
 intro pins s σ H x y v u Q I r1 r2 h;obtain⟨i,j,rfl,rfl,m,q⟩:=h;obtain⟨t,rfl⟩:=r1;obtain⟨t',rfl⟩:=r2;exact imul_int ⟨.int _,H,I.tok _,⟨_,rfl⟩,q⟩ m
theorem uX{st:Stmt}:QS X st wV:=⟨Bw⟩
theorem Cp:bootBuiltins "sum" = some (.builtin "sum"):=by decide +kernel
end
theorem oP{K:W.Frag}{J:It}{its:List V}{ps:List (V×V)}{tif:TT}{te:TE}{a:Addr}{x0 x1:Option V}{σr:St}{H0:Hp}{Q:Hp->Prop}(Pv:Nat->List V->Hp->Prop)(hlen:its.length=ps.length)
  (hl:∀i xs H,i<=its.length->vw K H a=some (.lst xs)->Pv i xs H->pQ J H its /\ ∀(j:Nat)(x y:V),ps[j]? = some (x,y) -> ∃p:Addr,its[j]? = some (V.ref p)/\vw K H p=some (HO.tup [x,y]))(ha:vw K H0 a=some (.lst []))(h0:Pv 0 [] H0)
  (hs:∀i x y xs H,i<ps.length->ps[i]? = some (x,y)->vw K H a=some (.lst xs)->Pv i xs H->tif (some x::some y::σr) H λb H3=>if b=true then te (some x::some y::σr) H3 (Gi K a (D8 K a σr (Pv (i+1)) (some x::some y::σr))) else D8 K a σr (Pv (i+1)) (some x::some y::σr) H3)
  (hd:∀xs H,vw K H a=some (.lst xs)->Pv ps.length xs H->Q H):mK K J (iZ K 2 (jz (gf 0) (jz (gf 1) uy))) tif te a (x0::x1::σr) H0 Q:=by
 refine⟨λi m σ H=>m=ps.length-i/\i<=ps.length/\D8 K a σr (Pv i) σ H,⟨ps.length,by simp,YK _,⟨_,_,rfl⟩,_,ha,h0⟩,?_⟩
 rintro i m σ H ⟨rfl,hi,⟨y,z,rfl⟩,xs,hxs,p⟩;obtain⟨⟨q1,q2,q3⟩,q4⟩:=hl i xs H () hxs p;by_cases hlt:i<ps.length
 .refine .inr ⟨q1 i (),D8 K a σr (Pv (i+1)),λσ' H' p'=>⟨ps.length-(i+1),(),rfl,hlt,p'⟩,λx H' y=>?_⟩;obtain⟨e,y2⟩:=q2 i x H' () y;subst e;obtain⟨b,e1,e2⟩:=q4 i _ _ (YR hlt);rw[e1] at y2;cases y2;exact⟨b,rfl,_,e2,rfl,_,_,rfl,_,_,rfl,rfl,hs i _ _ xs _ hlt (YR hlt) hxs p⟩
 .have e:i=ps.length:=();subst e;exact .inl ⟨hlen▸q3,hd xs H hxs p⟩
theorem ge{g q:Int}(hg:g≠0)(h:g∣q):q.fdiv g*g=q:=by
 obtain⟨m,rfl⟩:=h;rw[Y8 g m,Int.mul_fdiv_cancel m hg]
theorem yi{a b:Int}(ha:0<=a)(hb:1<=b):a<=a*b:=by
 have:=Int.mul_le_mul_of_nonneg_left hb ha;nofun
theorem uI{b q:Int}(hb:0<b)(hq:0<q):0<q.fdiv (Int.gcd b q:Int)/\q.fdiv (Int.gcd b q:Int)<=q/\q∣b*q.fdiv (Int.gcd b q:Int)/\(Int.gcd b q:Int)≠0/\(Int.gcd b q:Int)<=q:=by
 have hg:(Int.gcd b q:Int)≠0:=by
  have:Int.gcd b q≠0:=λe=>by
   have:=(Int.gcd_eq_zero_iff.mp e).2;nofun
  nofun
 have hg0:0<(Int.gcd b q:Int):=();have e:=ge hg (Int.gcd_dvd_right b q);have hle:(Int.gcd b q:Int)<=q:=Int.le_of_dvd hq (Int.gcd_dvd_right b q);generalize q.fdiv (Int.gcd b q:Int)=c at e;obtain⟨m,hm⟩:=Int.gcd_dvd_left b q;have hc:0<c:=by
  refine Xh ?_ hg0;rw[e];exact hq
 refine⟨hc,?_,⟨m,?_⟩,hg,hle⟩
 .rw[<-e];exact yi () ()
 .rw[<-e];generalize (Int.gcd b q:Int)=g at *
  rw[hm];rw[Int.mul_right_comm,Y8 c g]
theorem Bt.le{n:Nat}{x y:Int}(h:Bt n y)(h0:0<=x)(hl:x<=y):Bt n x:=by
 unfold Bt at *
 nofun
theorem vy{q:Int×Int}{D:Int}{m n:Nat}(hq:Fq q)(hd:q.2∣D)(hD:0<D)(b1:Bt m D)(b2:Bt n q.1):((q.1*D.fdiv q.2:Int):Rat)=wv q*(D:Rat)/\Bt (m+n) (q.1*D.fdiv q.2)/\Bt m (D.fdiv q.2):=by
 have h2:q.2≠0:=by have:=hq.1;nofun
 have e:=ge h2 hd;have hp:0<D.fdiv q.2:=by
  refine Xh ?_ hq.1;rw[e];exact hD
 have hle:D.fdiv q.2<=D:=by
  have:=yi (YU hp) (show 1<=q.2 by have:=hq.1;nofun)
  rw[e] at this;exact this
 have bm:=b1.le (YU hp) hle;refine⟨?_,(b2.mul bm).mono (),bm⟩;generalize D.fdiv q.2=c at *
 have h3:=ao h2;rw[<-e];unfold wv;simp only[Xe];grind
def aO(x:Rat):Nat->Rat
 | 0=>1
 | k+1=>aO x k*x
def qD:List uj->Nat->Rat
 | [],_=>0
 | c::cs,k=>wv c.2*aO (wv c.1) k+qD cs k
theorem qB{G:Hp}:∀{cs:List uj}{xs:List V},aJ G (cs.map uz) xs -> ∃ps:List (V×V),ps.length=cs.length/\(∀(j:Nat)(x y:V),ps[j]? = some (x,y) -> ∃p:Addr,xs[j]? = some (V.ref p)/\G p=some (HO.tup [x,y])) /\
  aJ G ((cs.map (·.1)).map fr) (ps.map (·.1))/\aJ G ((cs.map (·.2)).map fr) (ps.map (·.2))
 | [],xs,h=>⟨[],rfl,by simp,.mk_nil,.mk_nil⟩
 | c::cs,xs,h=>by
  obtain⟨x,r,rfl,h1,h2⟩:=aJ.cons_at h;obtain⟨ps,e1,e2,e3,e4⟩:=qB h2;obtain⟨a,u,v,rfl,ha,r1,r2⟩:=h1.spt_at;refine⟨(u,v)::ps,by simp[e1],λj x y e=>?_,.mk_cons r1 e3,.mk_cons r2 e4⟩
  cases j with
  | zero=>cases e;exact⟨a,rfl,ha⟩
  | succ j=>exact e2 j x y e
theorem kl(x:Rat)(k:Nat):aO x (k+1)=aO x k*x:=rfl
def sumQ:List (Int×Int)->Rat
 | []=>0
 | q::qs=>wv q+sumQ qs
theorem BX(as bs:List (Int×Int)):sumQ (as++bs)=sumQ as+sumQ bs:=by
 induction as with
 | nil=>show sumQ bs=0+sumQ bs;grind
 | cons a as ih=>show wv a+sumQ (as++bs)=wv a+sumQ as+sumQ bs;rw[ih];grind
theorem uQ{k:Nat}:∀{cs:List uj}{qs:List (Int×Int)},qs.length=cs.length->(∀(i:Nat)(q:Int×Int)(c:uj),qs[i]? = some q->cs[i]? = some c->wv q=wv c.2*aO (wv c.1) k)->sumQ qs=qD cs k
 | [],[],_,_=>rfl
 | [],_::_,h,_=>by simp at h
 | _::_,[],h,_=>by simp at h
 | c::cs,q::qs,h,hw=>by
  show wv q+sumQ qs=wv c.2*aO (wv c.1) k+qD cs k;rw[uQ (cs:=cs) (qs:=qs) (by simpa using h) λi n d e1 e2=>hw (i+1) n d (by simpa using e1) (by simpa using e2),hw 0 q c rfl rfl]
theorem mf{d:D}(h:d.cmp):EF d d=true:=SeqAt.eqv_refl _ h.1
def vF(p q:Int×Int):Int×Int:=lo (p.1*q.2-q.1*p.2) (p.2*q.2)
def Br(p q:Int×Int):Int×Int:=lo (p.1*q.2) (p.2*q.1)
theorem ox{p q:Int×Int}(hp:Fq p)(hq:Fq q):Fq (vF p q):=ie (by have:=Y6 hp.1 hq.1;nofun)
theorem DO{p q:Int×Int}(hp:Fq p)(h0:q.1≠0):Fq (Br p q):=ie (Xc (by have:=hp.1;nofun) h0)
theorem DI{p q:Int×Int}{m n:Nat}(hp:Fq p)(hq:Fq q)(h1:Bq m p)(h2:Bq n q):Bq (m+n+1) (vF p q):=by
 refine nF (by have:=Y6 hp.1 hq.1;nofun) ?_ ((h1.2.mul h2.2).mono ())
 exact ((h1.1.mul h2.2).sub (h2.1.mul h1.2)).mono ()
theorem tT{p q:Int×Int}(hp:p.2≠0)(hq:q.2≠0):wv (vF p q)=wv p-wv q:=by
 unfold vF;rw[ig (Xc hp hq)];unfold wv;have h1:=ao hp;have h2:=ao hq;simp only[Xi,Xe];grind
theorem GU{p q:Int×Int}(hp:p.2≠0)(hq:q.2≠0)(h0:q.1≠0):wv (Br p q)=wv p/wv q:=by
 unfold Br;rw[ig (Xc hp h0)];unfold wv;have h1:=ao hp;have h2:=ao hq;have h3:=ao h0;simp only[Xe];grind
theorem fU{q:Int×Int}(hq:q.2≠0):wv q=0↔q.1=0:=by
 have h2:=ao hq;unfold wv;constructor
 .intro h;have:(q.1:Rat)=0:=⋯;simpa using this
 .intro h;have:(q.1:Rat)=0:=by rw[h];rfl
  rw[this];grind
def cf(qs:List (Int×Int))(k:Nat):Rat:=match qs[k]? with
 | some q=>wv q
 | none=>0
def aL(qs:List (Int×Int)):Prop:=(∀q∈qs,Fq q) /\ ∀q,qs.getLast? = some q->q.1≠0
theorem Fq.ne{q:Int×Int}(h:Fq q):q.2≠0:=by have:=h.1;nofun
theorem aA{qs:List (Int×Int)}{k:Nat}{q:Int×Int}(h:qs[k]? = some q):cf qs k=wv q:=by unfold cf;rw[h]
theorem aE{qs:List (Int×Int)}{k:Nat}(h:qs.length<=k):cf qs k=0:=by unfold cf;rw[Xj h]
theorem CB(k:Nat):cf [] k=0:=rfl
theorem u4{as bs:List (Int×Int)}(ha:aL as)(h:∀k,cf as k=cf bs k):as.length<=bs.length:=by
 by_cases hl:as.length<=bs.length
 .exact hl
 .have hn:0<as.length:=();have e1:as[as.length-1]? = some (as[as.length-1]'()):=YR ();have e2:=h (as.length-1);rw[aA e1,aE ()] at e2;have f:=ha.1 _ (YQ (l:=as) (n:=as.length-1) ());exact absurd ((fU f.ne).mp e2) (ha.2 _ (by rw[YZ];exact e1))
theorem k9{as bs:List (Int×Int)}(ha:aL as)(hb:aL bs)(h:∀k,cf as k=cf bs k):as=bs:=by
 have hl:as.length=bs.length:=Nat.le_antisymm (u4 ha h) (u4 hb λk=>(h k).symm);apply Xl
 intro i;by_cases hi:i<as.length
 .have e1:=YR hi;have e2:=YR (show i<bs.length by nofun)
  have:=h i;rw[aA e1,aA e2] at this;rw[e1,e2,gY (ha.1 _ (YQ hi)) (hb.1 _ (YQ _)) this]
 .rw[Xj (),Xj ()]
theorem ju{qs:List (Int×Int)}{n:Nat}(hF:∀q∈qs,Fq q)(hz:∀q∈qs.drop n,q.1=0)(k:Nat):cf (qs.take n) k=cf qs k:=by
 by_cases hk:k<n
 .unfold cf;rw[Xm,Yb hk]
 .unfold cf;rw[Xm,Yc hk];cases e:qs[k]? with
  | none=>rfl
  | some q =>
   have hm:q∈qs.drop n:=YA (i:=k-n) (by rw[Xn,show n+(k-n)=k by nofun];exact e)
   exact ((fU (hF q (YA e)).ne).mpr (hz q hm)).symm
theorem oF{q:Int×Int}(h:Fq q):q=(0,1)↔q.1=0:=by
 constructor
 .rintro rfl;rfl
 .intro e;obtain⟨h1,h2⟩:=h;rw[e] at h2;have:q.2.natAbs=1:=by simpa using h2
  exact Prod.ext e (by show q.2=1;nofun)
def KE:List Int->Rat->Rat
 | [],_=>0
 | n::ns,x=>(n:Rat)+x*KE ns x
def pz(f g:Nat->Int):Nat->Nat->Int
 | 0,_=>0
 | j+1,k=>pz f g j k+if j<=k then f j*g (k-j) else 0
def pr(f g:Nat->Rat):Nat->Nat->Rat
 | 0,_=>0
 | j+1,k=>pr f g j k+if j<=k then f j*g (k-j) else 0
theorem oJ{f g:Nat->Int}{F G:Nat->Rat}{c d:Rat}(hf:∀i,(f i:Rat)=F i*c)(hg:∀i,(g i:Rat)=G i*d):∀j k,((pz f g j k:Int):Rat)=pr F G j k*(c*d)
 | 0,k=>by
  show ((0:Int):Rat)=0*(c*d);grind
 | j+1,k=>by
  show (((pz f g j k+if j<=k then f j*g (k-j) else 0:Int)):Rat)=(pr F G j k+if j<=k then F j*G (k-j) else 0)*(c*d)
  rw[Xd,oJ hf hg j k];split
  .rw[Xe,hf,hg];grind
  .grind
theorem gF{n:Nat}:Bt n 0:=by
 show (0:Int).natAbs<2^n;exact Nat.two_pow_pos n
theorem yA{f g:Nat->Int}{m n:Nat}(hf:∀i,Bt m (f i))(hg:∀i,Bt n (g i)):∀j k,Bt (m+n+j) (pz f g j k)
 | 0,k=>gF
 | j+1,k=>by
  have h1:=yA hf hg j k;have h2:Bt (m+n) (if j<=k then f j*g (k-j) else 0):=by
   split
   .exact (hf j).mul (hg _)
   .exact gF
  exact (h1.add h2).mono ()
def qz(f g:Nat->Int)(j l k:Nat):Int:=pz f g j k+if j<=k/\k-j<l then f j*g (k-j) else 0
theorem Ki(f g:Nat->Int)(j k:Nat):qz f g j 0 k=pz f g j k:=by simp[qz]
theorem IM(f g:Nat->Int)(j l k:Nat):qz f g j (l+1) k=if k=j+l then qz f g j l (j+l)+f j*g l else qz f g j l k:=by
 by_cases h:k=j+l
 .subst h;rw[Yb rfl];unfold qz;rw[Yb (),Yc (),show j+l-j=l by nofun]
  nofun
 .rw[Yc h];unfold qz;by_cases h2:j<=k/\k-j<l
  .rw[Yb h2,Yb ()]
  .rw[Yc h2,Yc ()]
theorem Hr{f g:Nat->Int}{n:Nat}(hg:∀i,n<=i->g i=0)(j k:Nat):qz f g j n k=pz f g (j+1) k:=by
 show _=pz f g j k+if j<=k then f j*g (k-j) else 0
 unfold qz;by_cases h:j<=k
 .rw[Yb h];by_cases h2:k-j<n
  .rw[Yb ⟨h,h2⟩]
  .rw[Yc (),hg _ (),Xo]
 .rw[Yc h,Yc ()]
def qr(f g:Nat->Rat)(j l k:Nat):Rat:=pr f g j k+if j<=k/\k-j<l then f j*g (k-j) else 0
theorem Km(f g:Nat->Rat)(j k:Nat):qr f g j 0 k=pr f g j k:=by
 unfold qr;rw[Yc ()];grind
theorem JN(f g:Nat->Rat)(j l k:Nat):qr f g j (l+1) k=if k=j+l then qr f g j l (j+l)+f j*g l else qr f g j l k:=by
 by_cases h:k=j+l
 .subst h;rw[Yb rfl];unfold qr;rw[Yb (),Yc (),show j+l-j=l by nofun]
  grind
 .rw[Yc h];unfold qr;by_cases h2:j<=k/\k-j<l
  .rw[Yb h2,Yb ()]
  .rw[Yc h2,Yc ()]
theorem GZ{f g:Nat->Rat}{n:Nat}(hg:∀i,n<=i->g i=0)(j k:Nat):qr f g j n k=pr f g (j+1) k:=by
 show _=pr f g j k+if j<=k then f j*g (k-j) else 0
 unfold qr;by_cases h:j<=k
 .rw[Yb h];by_cases h2:k-j<n
  .rw[Yb ⟨h,h2⟩]
  .rw[Yc (),hg _ ()];grind
 .rw[Yc h,Yc ()]
theorem eU{f g:Nat->Rat}{n:Nat}(hg:∀i,n<=i->g i=0):∀(j k:Nat),j+n<=k+1->pr f g j k=0
 | 0,k,_=>rfl
 | j+1,k,h=>by
  show pr f g j k+(if j<=k then f j*g (k-j) else 0)=0
  rw[eU hg j k ()];by_cases h1:j<=k
  .rw[Yb h1,hg _ ()];grind
  .rw[Yc h1];grind
def lz{α:Type}(n:Nat)(h:Nat->α):List α:=(List.range n).map h
theorem bH{α:Type}{n:Nat}{h:Nat->α}:(lz n h).length=n:=by simp[lz]
theorem dF{α:Type}{n:Nat}{h:Nat->α}{i:Nat}(hi:i<n):(lz n h)[i]? = some (h i):=by simp[lz,hi]
theorem iY{α:Type}{n:Nat}{h g:Nat->α}(e:∀k,k<n->h k=g k):lz n h=lz n g:=by
 apply Xl
 intro i;by_cases hi:i<n
 .rw[dF hi,dF hi,e i hi]
 .rw[Xj (by rw[bH];nofun),Xj (by rw[bH];nofun)]
theorem CI{α:Type}{n:Nat}{h:Nat->α}{i:Nat}{v:α}:(lz n h).set i v=lz n λk=>if k=i then v else h k:=by
 apply Xl
 intro k;by_cases hk:k<n
 .rw[dF hk];by_cases e:k=i
  .subst e;rw[List.getElem?_set_self (by rw[bH];exact hk),Yb rfl]
  .rw[Yl (Yk e),dF hk,Yc e]
 .rw[Xj (by rw[YG,bH];nofun),Xj (by rw[bH];nofun)]
theorem tE{α β:Type}{n:Nat}{h:Nat->α}(f:α->β):(lz n h).map f=lz n λk=>f (h k):=by simp[lz]
theorem Gz{α:Type}(n:Nat)(x:α):(List.replicate n [x]).flatten=lz n λ_=>x:=by
 induction n with
 | zero=>rfl
 | succ n ih =>
  apply Xl
  intro i;rw[show (List.replicate (n+1) [x]).flatten=List.replicate (n+1) x by simp]
  by_cases hi:i<n+1
  .rw[dF hi,List.getElem?_replicate_of_lt hi]
  .rw[Xj (by simp;nofun),Xj (by rw[bH];nofun)]
def nz(ns:List Int)(k:Nat):Int:=ns.getD k 0
theorem cw{ns:List Int}{k:Nat}{n:Int}(h:ns[k]? = some n):nz ns k=n:=by simp[nz,Xa,h]
theorem bC{ns:List Int}{k:Nat}(h:ns.length<=k):nz ns k=0:=by simp[nz,Xa,Xj h]
theorem fX{ns:List Int}{m:Nat}(h:∀n∈ns,Bt m n)(k:Nat):Bt m (nz ns k):=by
 cases e:ns[k]? with
 | none=>rw[bC (List.getElem?_eq_none_iff.mp e)];exact gF
 | some n=>rw[cw e];exact h n (YA e)
theorem ni{n k:Nat}{h:Nat->Int}(hk:k<n):nz (lz n h) k=h k:=cw (dF hk)
theorem dQ{qs:List (Int×Int)}{ns:List Int}{D:Rat}(hl:ns.length=qs.length)(h:∀(i:Nat)(n:Int)(q:Int×Int),ns[i]? = some n->qs[i]? = some q->(n:Rat)=wv q*D)(i:Nat):((nz ns i:Int):Rat)=cf qs i*D:=by
 by_cases hi:i<qs.length
 .have e1:=YR hi;have e2:=YR (show i<ns.length by nofun)
  rw[cw e2,aA e1];exact h i _ _ e2 e1
 .rw[bC (),aE ()];show ((0:Int):Rat)=0*D;grind
theorem aJ.set{H:Hp}:∀{ds:List D}{xs:List V}(i:Nat) {d:D}{x:V},aJ H ds xs->aI H d x->aJ H (ds.set i d) (xs.set i x)
 | [],xs,i,d,x,h,g=>by
  cases h.nil_at;exact .mk_nil
 | d0::ds,xs,i,d,x,h,g=>by
  obtain⟨x0,r,rfl,h1,h2⟩:=h.cons_at;cases i with
  | zero=>exact .mk_cons g h2
  | succ i=>exact .mk_cons h1 (h2.set i g)
theorem yL{qs:List (Int×Int)}{i k:Nat}{q:Int×Int}(hi:i<qs.length):cf (qs.set i q) k=if k=i then wv q else cf qs k:=by
 by_cases h:k=i
 .subst h;rw[Yb rfl,aA (List.getElem?_set_self hi)]
 .rw[Yc h];unfold cf;rw[Yl (Yk h)]
theorem ir{n k:Nat}(h:k<n):ww n (k:Int)=some k:=by
 unfold ww;simp;nofun
theorem iL{X:Cx}:GR X (λo i H Q=>∃p k,o=.ref p/\i=.int k /\ ∃xs,vw X.K H p=some (.lst xs) /\ ∃v,nK xs k=some v/\Q v H):=by
 intro pins s σ H x y v u Q I rx ry h;obtain⟨p,k,rfl,rfl,xs,hx,z,he,q⟩:=h;cases rx;obtain⟨t,rfl⟩:=ry;obtain⟨its,r,pl,hz⟩:=I.list (ke.of (K:=X.K) (aQ hx));obtain⟨j,h1,h2,h3,h4,h5⟩:=tO he;obtain⟨w,ew,rw'⟩:=r.get h2;have hl:=r.length;have hn:=mD;have fin:EP X pins σ Q w s:=⟨z,H,I,rw',q⟩;by_cases h0:0<=k
 .have hj:k.toNat=j:=by
   rw[seqIndex_of h0 h5] at h1;exact Ym h1
  exact wpAny_getItem_list pl.isList h0 () (by rw[hj];simpa using ew) fin
 .have hj:(k+(its.toArray.size:Int)).toNat=j:=by
   rw[seqIndex_neg () h4] at h1;rw[Ys,<-hl];exact Ym h1
  exact wpAny_getItem_list_neg pl.isList () (by rw[Ys]<;>nofun) () (by rw[hj];simpa using ew) fin
theorem ow{K:W.Frag}{H:Hp}{p:Addr}{xs:List V}(h:vw K H p=some (.lst xs)):wW K (.ref p) H (!xs.isEmpty):=.inl ⟨xs,.of (aQ h),rfl⟩
theorem aB.none{G G':Hp}{c:Addr}(S:aB G G')(h:G' c=none):G c=none:=by
 cases e:G c with
 | none=>rfl
 | some o=>rw[S _ _ e] at h;cases h
theorem nG:Fq (0,1):=⟨∅,∅⟩
theorem CH{n:Nat}(h:1<=n):Bq n (0,1):=Bq.mono (m:=1) (q:=(0,1)) ⟨∅,∅⟩ h
theorem pX:wv (0,1)=0:=(fU (q:=(0,1)) ∅).mpr rfl
theorem FG:wv (1,1)=1:=by
 show ((1:Int):Rat)/((1:Int):Rat)=1;have:((1:Int):Rat)=1:=rfl;rw[this];grind
theorem Hm(fs:List (Int×Int))(m k:Nat):cf (fs++List.replicate m (0,1)) k=cf fs k:=by
 by_cases h:k<fs.length
 .unfold cf;rw[Yy h]
 .rw[aE (qs:=fs) ()];unfold cf;rw[Yw ()];by_cases h2:k-fs.length<m
  .rw[List.getElem?_replicate_of_lt h2];exact pX
  .rw[Xj (by simp;nofun)]
theorem iQ{α:Type}(n:Nat)(x:α):(List.replicate n [x]).flatten=List.replicate n x:=by simp
theorem kg{α β:Type}(f:α->β)(n:Nat)(x:α):(List.replicate n x).map f=List.replicate n (f x):=by simp
theorem pC{qs:List (Int×Int)}{n:Nat}(hF:∀q∈qs,Fq q)(hz:∀q,(qs.take n).getLast? = some q->q.1≠0):aL (qs.take n):=⟨λq hq=>hF q (Xp hq),hz⟩
theorem aK.chg{G G':Hp}{e:Addr}{qs:List (Int×Int)}{xs:List V}{i:Nat}{q:Int×Int}{v:V}(h:G e=some (.lst xs))(r:aJ G (qs.map fr) xs)(rv:aI G (fr q) v)(B:fV e G G')(h':G' e=some (.lst (xs.set i v))):aK G' e (qs.set i q):=by
 refine⟨_,h',?_⟩;have r':=aJ.flat_but h B _ _ (cJ qs) r;have:=r'.set i (aI.flat_but h B _ _ (bA q) rv);rw[List.map_set];exact this
theorem IV(q:Int×Int):(fr q).py=.tuple [.int q.1,.int q.2]:=by
 unfold fr;simp only[D.py,D.pys]
theorem C3:∀(qs:List (Int×Int)),PyData.canLayAll0 (D.pys (qs.map fr))=true/\PyData.depthAll (D.pys (qs.map fr))<=4
 | []=>by
  simp only[List.map_nil,D.pys];exact⟨rfl,by simp[PyData.depthAll]⟩
 | c::cs=>by
  obtain⟨h1,h2⟩:=C3 cs;simp only[YN,D.pys,IV,PyData.canLayAll0,PyData.canLay0,h1,PyData.depthAll,PyData.depth];refine⟨∅,?_⟩;nofun
theorem gz(fs:List (Int×Int)):(D.lst (fs.map fr)).cmp:=by
 obtain⟨h1,h2⟩:=C3 fs;unfold D.cmp;simp only[D.py,PyData.canLay0,PyData.depth];exact⟨h1,()⟩
theorem zw{α:Type}{l:List α}(h:l≠[]):∃x,l.getLast? = some x:=by
 cases e:l.getLast? with
 | none=>exact absurd (List.getLast?_eq_none_iff.mp e) h
 | some x=>exact⟨x,rfl⟩
end L2
namespace L2
open PySem PySem.Spec PyProof.Rows
def wE(mg:Str->Option Value)(base:Heap):Prop:=∃bm o,mg "__builtins__" = some (.ref bm)/\bm≠builtinsNs/\bm≠mainGlobals/\base.get? bm=some o/\o.cls=.type "module" /\ o.dict=some builtinsNs/\o.data=.plain
def JP(ts:List (Addr×Addr))(H:Hp):Prop:=∀b,H b=none\/(∃o xs,H b=some (.frz o (.lst xs)))\/(H b=some (.tbl #[]) /\ ∃q∈ts,q.2=b)
theorem zC{P:Program}{w:World}{K:W.Frag}{mg mb:Str->Option Value}{CX:zK}{k:Nat}{fa a:Addr}{fd:FuncData}{x:Str}{sp:Sp}{s₁:Shared}{vs:List Value}{ns:List Int}{ts:List (Addr×Addr)}
  (KX:K.In s₁.heap)(hns:s₁.heap.Ns mainGlobals mg)(hb:s₁.heap.Ns builtinsNs mb)(hbb:∀x:Str,x ≠ "__name__" -> mb x=bootBuiltins x) (hlim:s₁.heap.NoLimit)(hg:s₁.gens = #[])
  (ha:s₁.heap.get? a=some { cls:=.type "list",data:=.seq vs.toArray }) (hi:IntsAre vs ns)(hl:ns.length<=sizeLine)(hr:fW k callerA)(hT:∀q∈ts,PySem.W.codeHdIn K q.1 q.2=true/\K.lookup q.2=none/\s₁.heap.get? q.2=some (PySem.W.tabObj #[]))
  (hB:wE mg s₁.heap)(hSr:s₁.heap.NoSeer)(F:∀base:Heap,K.In base->base.Ns mainGlobals mg->wE mg base->base.NoSeer->bU P w K mg base CX k fa fd [x] sp)(hbind:∀(s:Shared)(u:Value),BindsTo s fd ⟨[u],[]⟩ [(x,u)])
  (hsp:∀H:Hp,(∀q∈ts,vw K H q.2=some (.tbl #[]))->(H a≠none->K.lookup a=none)->ke K H a (ns.map V.int)->sp [.ref a] H (λv _=>v=.bl true) λ_ _ _=>False)
  (hCX:∀H e s',CX [] H s₁ (λ_ _ _=>False) e s'->False) :
  codeAny (model P w) callerA (.call (.ref fa) ⟨[.ref a],[]⟩) (λr s'=>r=.ok (.ret (.bool true))/\OldK s₁.heap s'.heap/\s'.os=s₁.os/\AllBare s'.gens) s₁:=by
 have rv:=qY hi;have lenV:=hi.length;have na:∀q∈ts,q.2≠a:=λq hq z=>by
  have:=(hT q hq).2.2;rw[z,ha] at this;cases this
 have core:∀H:Hp,JP ts H->(∀q∈ts,H q.2=some (.tbl #[]))->ke K H a (ns.map V.int)->oM P w H s₁.heap->(∀b,H b≠none->b=a \/ ∃q∈ts,q.2=b)->(H a≠none->K.lookup a=none) ->
   codeAny (model P w) callerA (.call (.ref fa) ⟨[.ref a],[]⟩) (λr s'=>r=.ok (.ret (.bool true))/\OldK s₁.heap s'.heap/\s'.os=s₁.os/\AllBare s'.gens) s₁:=by
  intro H hO hTT hS hok hA hK;have base_of:∀{b:Addr}{o:Obj},s₁.heap.get? b=some o->H b=none->(pM s₁.heap H).get? b=some o:=λe n=>AA e n;have noA:∀{b:Addr}{o:Obj}{es:Array DictEntry}{ep:Nat},s₁.heap.get? b=some o->o.data=.dict es ep->H b=none:=λ{b o es ep} e d=>by
   cases q:H b with
   | none=>rfl
   | some u =>
    rcases hA b (by rw[q];simp) with e'|⟨y,hy,e'⟩
    .subst e';rw[ha] at e;cases e;have d':Data.seq vs.toArray _=Data.dict es ep:=d;cases d'
    .subst e';rw[(hT y hy).2.2] at e;cases e;have d':Data.fields (#[]:Array Value)=Data.dict es ep:=d;cases d'
  have nsK:∀{b:Addr}{m:Str->Option Value},s₁.heap.Ns b m->(pM s₁.heap H).Ns b m:=λ{b m} ⟨o,es,ep,e,d,r⟩=>⟨o,es,ep,base_of e (noA e d),d,r⟩;have hKb:K.In (pM s₁.heap H):=λb o e=>base_of (KX b o e) (by
   cases q:H b with
   | none=>rfl
   | some u =>
    rcases hA b (by rw[q];simp) with e'|⟨y,hy,e'⟩
    .subst e';rw[hK (by rw[q];simp)] at e;cases e
    .subst e';rw[(hT y hy).2.1] at e;cases e)
  have hM:Mod K mg (pM s₁.heap H):=⟨hKb,nsK hns,⟨mb,nsK hb,hbb⟩,let ⟨mc,h1,h2⟩:=hlim;⟨mc,nsK h1,h2⟩⟩;have e0:EK P w K mg (pM s₁.heap H) callerA [] s₁ H:=⟨rfl,hM,λb o e=>Eu e,Nat.le_of_eq (zE _ _),trivial,λb hb=>absurd (show b∈([]:List Addr) from hb) (by simp),hok,.of_eq hg⟩
  have hBb:wE mg (pM s₁.heap H):=by
   obtain⟨bm,ob,b1,b2,b3,b4,b5,b6,b7⟩:=hB;refine⟨bm,ob,b1,b2,b3,base_of b4 ?_,b5,b6,b7⟩;cases q:H bm with
   | none=>rfl
   | some u =>
    rcases hA bm (by rw[q];simp) with e'|⟨y,hy,e'⟩
    .rw[e',ha] at b4;cases b4;simp at b5
    .rw[<-e',(hT y hy).2.2] at b4;cases b4;cases b5
  have hSb:(pM s₁.heap H).NoSeer:=by
   refine⟨let ⟨mc,a,b⟩:=hSr.statics;⟨mc,nsK a,b⟩,let ⟨mm,a,b⟩:=hSr.mods;⟨mm,nsK a,b⟩,let ⟨mb,a,b⟩:=hSr.imp;⟨mb,nsK a,b⟩,?_⟩;obtain⟨mg',bm,ob,b1,b2,b4,b5,b6⟩:=hSr.main;refine⟨mg',bm,ob,nsK b1,b2,base_of b4 ?_,b5,b6⟩;cases q:H bm with
   | none=>rfl
   | some u =>
    rcases hA bm (by rw[q];simp) with e'|⟨y,hy,e'⟩
    .rw[e',ha] at b4;cases b4;simp at b5
    .rw[<-e',(hT y hy).2.2] at b4;cases b4;cases b5
  refine codeAny_mono ((F _ hKb (nsK hns) hBb hSb).run callerA [] s₁ H ⟨[.ref a],[]⟩ [.ref a] [.ref a] _ _ hr e0 (hbind s₁ (.ref a)) (.cons rfl .nil) (hsp H (λq hq=>(eH (hT q hq).2.1).trans (hTT q hq)) hK hS)) λr s' h=>?_;cases r with
  | error e=>exact (hCX H e s' h).elim
  | ok fl =>
   cases fl with
   | next=>exact False.elim h
   | brk=>exact False.elim h
   | cont=>exact False.elim h
   | ret u =>
    obtain⟨v,H',os,bare,un,hok',r',q⟩:=h;have q':v=.bl true:=q;subst q';obtain rfl:u=Value.bool true:=r';have key:∀b o,s₁.heap.get? b=some o->s'.heap.get? b=some o\/((∃y∈ts,y.2=b)/\o=PySem.W.tabObj #[] /\ ∃more,s'.heap.get? b=some (PySem.W.tabObj more)):=λb o e=>by
     cases q:H b with
     | none=>exact .inl (un.keep b o e q (by intro z;exact absurd (show b∈([]:List Addr) from z) (by simp)) (by simp))
     | some u =>
      rcases hO b with z|⟨ob,xs,z⟩|⟨z,y,hy,e'⟩
      .rw[q] at z;cases z
      .have z2:=un.frzs b ob _ z;obtain⟨e1,_⟩:=hok b _ z;obtain⟨e2,_⟩:=hok' b _ z2;rw[e] at e1;cases e1;exact .inl e2
      .obtain⟨more,z2⟩:=un.tbls b #[] z;have e1:s₁.heap.get? b=some (PySem.W.tabObj #[]):=hok b _ z;have e2:s'.heap.get? b=some (PySem.W.tabObj (#[]++more)):=hok' b _ z2;rw[e] at e1;cases e1;exact .inr ⟨⟨y,hy,e'⟩,rfl,_,e2⟩
    refine⟨rfl,⟨λb o e=>?_,λb o e=>?_⟩,os,bare⟩
    .rcases key b o e with z|⟨⟨y,hy,e'⟩,z1,more,z2⟩
     .exact .inl z
     .subst z1 e';have cd:=PySem.W.codeHd_of_K KX (hT y hy).1;exact .inr (.inl ⟨(cd.tab (hT y hy).2.2).isCodeTable,rfl,#[],more,rfl,by rw[z2];simp⟩)
    .rcases key b o e with z|⟨_,_,more,z2⟩
     .exact⟨o,z⟩
     .exact⟨_,z2⟩
 have dec:∀b,Decidable (∃q∈ts,q.2=b):=λb=>Classical.propDecidable _;have tabH:∀q∈ts,dZ P w (λ_=>none) s₁.heap q.2 (.tbl #[]):=λq hq=>(hT q hq).2.2;cases hk:K.lookup a with
 | some o =>
  have e:=KX a o hk;rw[ha] at e;cases e;refine core (λb=>@ite _ (∃q∈ts,q.2=b) (dec b) (some (.tbl #[])) none) (λb=>?_) (λq hq=>Yb ⟨q,hq,rfl⟩) (.inr ⟨_,vs.toArray,_,hk,rfl,rfl,rfl,by rw[Ys,lenV];exact hl,by simpa using rv⟩) (λb u z=>?_) (λb z=>?_) λz=>?_
  .by_cases hb:∃q∈ts,q.2=b
   .exact .inr (.inr ⟨Yb hb,hb⟩)
   .exact .inl (Yc hb)
  .by_cases hb:∃q∈ts,q.2=b
   .have z':=(Yb hb).symm.trans z;cases z';obtain⟨q,hq,rfl⟩:=hb;exact (hT q hq).2.2
   .have z':=(Yc hb).symm.trans z;cases z'
  .by_cases hb:∃q∈ts,q.2=b
   .exact .inr hb
   .exact absurd (Yc hb) z
  .have:¬ ∃q∈ts,q.2=a:=λ⟨q,hq,e⟩=>na q hq e;exact absurd (Yc this) z
 | none =>
  have ia:¬ ∃q∈ts,q.2=a:=λ⟨q,hq,e⟩=>na q hq e;refine core (λb=>if b=a then some (.frz { cls:=.type "list",data:=.seq vs.toArray } (.lst (ns.map V.int))) else @ite _ (∃q∈ts,q.2=b) (dec b) (some (.tbl #[])) none) (λb=>?_) (λq hq=>?_) (.inl (.inr ⟨{ cls:=.type "list",data:=.seq vs.toArray },Yb rfl⟩)) (λb u z=>?_) (λb z=>?_) λ_=>hk
  .by_cases hb:b=a
   .exact .inr (.inl ⟨_,_,Yb hb⟩)
   .by_cases hb2:∃q∈ts,q.2=b
    .exact .inr (.inr ⟨(Yc hb).trans (Yb hb2),hb2⟩)
    .exact .inl ((Yc hb).trans (Yc hb2))
  .exact (Yc (na q hq)).trans (Yb ⟨q,hq,rfl⟩)
  .by_cases hb:b=a
   .have z':=(Yb hb).symm.trans z;cases z';subst hb;exact⟨ha,by rw[YC];exact hl,vs,_,rv,ha⟩
   .by_cases hb2:∃q∈ts,q.2=b
    .have z':=((Yc hb).trans (Yb hb2)).symm.trans z;cases z';obtain⟨q,hq,rfl⟩:=hb2;exact (hT q hq).2.2
    .have z':=((Yc hb).trans (Yc hb2)).symm.trans z;cases z'
  .by_cases hb:b=a
   .exact .inl hb
   .by_cases hb2:∃q∈ts,q.2=b
    .exact .inr hb2
    .exact absurd ((Yc hb).trans (Yc hb2)) z
theorem walk_ofM{l:PySem.W.OpenLaw}{n k:Nat}{q:Program}{loose:List Str}{XP:(Str->Option Value)->Heap->Prop}{YP:World->Heap->Prop}{d:DefRec}{K:Params->W.Frag}{CX:World->zK}{sp:World->Sp}{x:Str}(ts:World->List (Addr×Addr))
  (hn:l.most=some n)(hn2:n<=sizeLine)(hdf:d.params.defaults=[])(hr:fW k callerA)(hi:importsNone q=true)
  (hY:∀(w:World)(h:Heap),YP w h->(K w.params).In h /\ ∀q∈ts w,PySem.W.codeHdIn (K w.params) q.1 q.2=true/\(K w.params).lookup q.2=none/\h.get? q.2=some (PySem.W.tabObj #[]))
  (F:∀(w:World)(mg:Str->Option Value)(fa:Addr)(h:Heap),(K w.params).In h->h.Ns mainGlobals mg->mg d.name=some (.ref fa) ->
   ∃fd:FuncData,(∀(s:Shared)(u:Value),BindsTo s fd ⟨[u],[]⟩ [(x,u)]) /\
    ∀base:Heap,(K w.params).In base->base.Ns mainGlobals mg->wE mg base->base.NoSeer->bU l.prog w (K w.params) mg base (CX w) k fa fd [x] (sp w))
  (hsp:∀(w:World)(H:Hp)(a:Addr)(ns:List Int),ns.length<=n->(∀q∈ts w,vw (K w.params) H q.2=some (.tbl #[]))->(H a≠none->(K w.params).lookup a=none)->ke (K w.params) H a (ns.map V.int)->sp w [.ref a] H (λv _=>v=.bl true) λ_ _ _=>False)
  (hCX:∀(w:World)(H:Hp)(s:Shared)(e:Value)(s':Shared),CX w [] H s (λ_ _ _=>False) e s'->False) :
  PySem.W.WalkO q loose XP YP l.row.toRowW d [] (λf vs=>PySem.call f vs):=by
 refine Att.attach_call hn hdf λw s₀ s₁ mg mb fa o pm cd doc a vs ns G Y ho hd hcd hmg hobj hints hlen hg=>?_;obtain⟨KX,hT⟩:=hY w _ Y;obtain⟨fd,hb,hF⟩:=F w mg fa _ KX G.T.g hmg;have hB:wE mg s₁.heap:=by
  obtain⟨bm,ob,b1,b2,b3,b4,b5,b6⟩:=G.T.bmain;refine⟨bm,ob,b1,b2,λz=>?_,b3,b4,b5,b6⟩;obtain⟨o,es,ep,e,hd',_⟩:=G.T.g;rw[z,e] at b3;cases b3;rw[hd'] at b6;cases b6
 exact zC KX G.T.g G.T.b G.T.builtins G.T.nolimit hg hobj hints (Yg hlen hn2) hr hT hB (G.T.seer hi) hF hb (λH hTT hK hS=>hsp w H a ns hlen hTT hK hS) λH e s'=>hCX w H s₁ e s'
theorem fV.of{P:Addr}{G G':Hp}(S:aB G G'):fV P G G':=λb o _ e=>S b o e
theorem fV.none{G G':Hp}{st a:Addr}(B:fV st G G')(hst:eC G' st)(h:G' a=Option.none):G a=Option.none:=by
 cases e:G a with
 | none=>rfl
 | some o =>
  rw[B a o (hst.ne h) e] at h;cases h
def ak(f g:Nat->Rat):Nat->Rat
 | 0=>0
 | n+1=>ak f g n+f n*g n
theorem C7{f g:Nat->Int}{F G:Nat->Rat}{c d:Rat}(hf:∀i,(f i:Rat)=F i*c)(hg:∀i,(g i:Rat)=G i*d):∀n,((kW (lz n λi=>f i*g i):Int):Rat)=ak F G n*(c*d)
 | 0=>by
  show ((0:Int):Rat)=0*(c*d);have:((0:Int):Rat)=0:=rfl;rw[this];grind
 | n+1=>by
  have e:lz (n+1) (λi=>f i*g i)=lz n (λi=>f i*g i)++[f n*g n]:=by simp[lz,List.range_succ]
  rw[e,pK];have e2:kW [f n*g n]=f n*g n:=by simp[kW]
  rw[e2,Xd,Xe,C7 hf hg n,hf n,hg n];show _=(ak F G n+F n*G n)*(c*d);grind
theorem aD{f g f' g':Nat->Rat}:∀n,(∀i,i<n->f i=f' i)->(∀i,i<n->g i=g' i)->ak f g n=ak f' g' n
 | 0,_,_=>rfl
 | n+1,h1,h2=>by
  show ak f g n+f n*g n=ak f' g' n+f' n*g' n;rw[aD n (λi hi=>h1 i ()) (λi hi=>h2 i ()),h1 n (),h2 n ()]
theorem AY{qs:List (Int×Int)}{n k:Nat}(h:k<n):cf (qs.take n) k=cf qs k:=by
 unfold cf;rw[Xm,Yb h]
def Sx(b:Nat)(q:Int×Int):Prop:=∃n:Int,wv q=(n:Rat)/6/\n.natAbs<=b
theorem Sx.mono{a b:Nat}{q:Int×Int}(h:Sx a q)(hl:a<=b):Sx b q:=by
 obtain⟨n,h1,h2⟩:=h;exact⟨n,h1,()⟩
theorem Sx.add{a b:Nat}{p q:Int×Int}(hp:p.2≠0)(hq:q.2≠0)(h1:Sx a p)(h2:Sx b q):Sx (a+b) (nZ p q):=by
 obtain⟨m,e1,l1⟩:=h1;obtain⟨n,e2,l2⟩:=h2;refine⟨m+n,?_,Yg (Int.natAbs_add_le m n) (Nat.add_le_add l1 l2)⟩;rw[kG hp hq,e1,e2,Xd];grind
theorem Sx.lo{a z:Int}{b:Nat}(h0:0<=z)(h3:z<3)(ha:6*a.natAbs<=b):Sx b (lo a (1+z)):=by
 have hz:1+z≠0:=();have c1:((1:Int):Rat)=1:=rfl;have c2:((2:Int):Rat)=2:=rfl;have c3:((3:Int):Rat)=3:=rfl;have c6:((6:Int):Rat)=6:=rfl;rcases (show z=0\/z=1\/z=2 by nofun) with rfl|rfl|rfl
 .refine⟨6*a,?_,()⟩;rw[ig hz,show (1:Int)+0=1 from rfl,Xe,c1,c6]
  grind
 .refine⟨3*a,?_,()⟩;rw[ig hz,show (1:Int)+1=2 from rfl,Xe,c2,c3]
  grind
 .refine⟨2*a,?_,()⟩;rw[ig hz,show (1:Int)+2=3 from rfl,Xe,c2,c3]
  grind
def mh:Nat->Int
 | 0=>6
 | k+1=>mh k*6
theorem lP:∀k,0<mh k
 | 0=>by decide
 | k+1=>by show 0<mh k*6;have:=lP k;nofun
theorem sr:∀k,Bt (3*(k+1)) (mh k)
 | 0=>by decide
 | k+1=>by
  have h:=(sr k).mul (show Bt 3 6 by decide)
  exact h.mono ()
def Al:Nat->Nat
 | 0=>1
 | k+1=>Al k*512
theorem wG:∀k,Al k=2^(9*k)
 | 0=>rfl
 | k+1=>by
  show Al k*512=_;rw[wG k,show 9*(k+1)=9*k+9 by nofun,YX]
theorem yu{s w:Int×Int}{b:Nat}(hs:Sx 300 s)(hw:Sx b w):∀k,∃n:Int,wv w*aO (wv s) k=(n:Rat)/(mh k:Rat)/\n.natAbs<=b*Al k
 | 0=>by
  obtain⟨n,e,l⟩:=hw;refine⟨n,?_,by simpa [Al] using l⟩
  show wv w*1=(n:Rat)/((6:Int):Rat);have c6:((6:Int):Rat)=6:=rfl;rw[e,c6];grind
 | k+1=>by
  obtain⟨n,e,l⟩:=yu hs hw k;obtain⟨m,e2,l2⟩:=hs;refine⟨n*m,?_,?_⟩
  .rw[kl];have h6:(mh k:Rat)≠0:=ao (by have:=lP k;nofun)
   have c6:((6:Int):Rat)=6:=rfl;show _=_/((mh k*6:Int):Rat);rw[e2] at e;rw[Xe,Xe,c6,e2];have:wv w*(aO ((m:Rat)/6) k*((m:Rat)/6))=(wv w*aO ((m:Rat)/6) k)*((m:Rat)/6):=⋯;rw[this,e];grind
  .rw[YW];show _<=b*(Al k*512);rw[<-Nat.mul_assoc];exact Xq l ()
theorem sW{k:Nat}:∀{cs:List uj},(∀c∈cs,Sx 300 c.1/\Sx 36 c.2) -> ∃n:Int,qD cs k=(n:Rat)/(mh k:Rat)/\n.natAbs<=cs.length*(36*Al k)
 | [],_=>⟨0,by
   show (0:Rat)=((0:Int):Rat)/_;have c0:((0:Int):Rat)=0:=rfl;rw[c0];grind,by simp⟩
 | c::cs,h=>by
  obtain⟨n,e1,l1⟩:=sW (k:=k) (cs:=cs) λd hd=>h d (by simp[hd])
  obtain⟨h1,h2⟩:=h c (by simp)
  obtain⟨m,e2,l2⟩:=yu h1 h2 k;refine⟨m+n,?_,?_⟩
  .show wv c.2*aO (wv c.1) k+qD cs k=_;rw[e1,e2,Xd];have h6:(mh k:Rat)≠0:=ao (by have:=lP k;nofun)
   grind
  .rw[Y9,Xr,Nat.one_mul,YL];exact Yg (Int.natAbs_add_le m n) (Nat.add_le_add l2 l1)
theorem Hg{cs:List uj}{k:Nat}{q:Int×Int}(h:∀c∈cs,Sx 300 c.1/\Sx 36 c.2)(hl:cs.length<=6)(hk:k<=12)(hq:Fq q)(e:wv q=qD cs k):Bq 120 q:=by
 obtain⟨n,e1,l1⟩:=sW (k:=k) h;have h6:mh k≠0:=by have:=lP k;nofun
 have:q=lo n (mh k):=gY hq (ie h6) (by rw[ig h6,e,e1])
 rw[this];refine nF h6 (Bt.mono (m:=9*k+8) ?_ ()) ((sr k).mono ());unfold Bt;have l3:cs.length*(36*Al k)<=6*(36*Al k):=Nat.mul_le_mul_right _ hl;have l4:=wG k;rw[YX,<-l4,show (2:Nat)^8=256 from rfl]
 have:0<Al k:=by rw[l4];exact Nat.two_pow_pos _
 nofun
theorem aM.gen{t u:TS}{D:nO}{σ:St}{H:Hp}(h:∀N:St->Hp->Prop,(∀σ' H',u D σ' H'->N σ' H')->t { D with nx:=N } σ H):aM t u D σ H:=h (u D) λ_ _ z=>z
theorem md(a b:Int):Builtin.Range.rangeSize a b (-1)=if b<a then a-b else 0:=by
 unfold Builtin.Range.rangeSize;simp only[show ¬ ((-1:Int) > 0) by decide,if_false,Int.neg_neg,Int.ediv_one]
 split<;>(try split)<;>nofun
theorem Cu{a b:Int}(ha : -(2^61)<=a)(ha':a<2^61)(hb : -(2^61)<=b)(hb':b<2^61):Builtin.Range.small a b (-1)=true:=by
 unfold Builtin.Range.small;rw[md];simp only[Builtin.Range.rangeFitsLong,YF,Bool.or_eq_true,decide_eq_true_eq,beq_iff_eq,show ¬ ((-1:Int) > 0) by decide,if_false]
 split<;>nofun
def Ko(lo:Int)(n:Nat):It:=⟨λi _=>i<n,λi H x H'=>H'=H/\x=.int (lo-i),λi _=>n<=i⟩
theorem D6{P:Program}{w:World}{K:W.Frag}{tg:Expr}(it:Addr)(lo:Int)(n:Nat):wu P w K tg (Ko lo n) [it] it (λj hp=>IsRangeIter hp it (lo+(j:Nat)*(-1)) ((n:Int)-(j:Nat)) (-1)) where
 mem:=List.mem_singleton.mpr rfl
 obj:=λj hp st b hb=>by
  cases List.mem_singleton.mp hb;refine⟨_,st,λv z=>?_⟩;exact Data.noConfusion (show Data.fields _=Data.cell v from z)
 keep:=λ_ _ _ st k=>k it (List.mem_singleton.mpr rfl) _ st
 item:=by
  intro Y hP hw hK hc j pins s σ H E J hf st hg;subst hP hw hK;obtain⟨g0,g1,g2,g3,g4,g5⟩:=hf it (List.mem_singleton.mpr rfl);refine (Walks.range (prog:=Y.prog) (w:=Y.w) (J.ok.hd hc) it lo (-1) n).item j s _ _ hg st λv hp tk hv st1 kk=>?_;obtain⟨t,rfl⟩:=hv;have J1:aU Y pins σ H { s with heap:=hp,toks:=tk }:=J.turned (λb o hb e=>kk b o (λz=>hb (List.mem_singleton.mp z)) e) g0 g1 g3 g4 g5
  refine⟨_,rfl,yM (s:={ s with heap:=hp,toks:=tk }) (n:="range_iterator") st1 rfl rfl ∅ ⟨.int (lo-j),H,J1,⟨t,?_⟩,⟨rfl,rfl⟩,st1,λb hb=>(hf b hb).1⟩⟩
  rw[show lo+(j:Nat)*(-1)=lo-(j:Int) by nofun]
 done:=by
  intro Y hP hw hK hc j pins s σ H E J hf st hg;subst hP hw hK;obtain⟨g0,g1,g2,g3,g4,g5⟩:=hf it (List.mem_singleton.mpr rfl);have hj:n<=j:=hg;exact wpAny_pyNext_range_end (J.ok.hd hc) st () λhp eb=>⟨rfl,J.turned (t':=s.toks) (λb o hb e=>eb b o hb e) g0 g1 g3 g4 g5⟩
 self:=λ_ _ _ _ _ st h=>wpAny_pyIter_rangeiter st h
section
variable {X:Cx}{tg:Expr}
def Bc(ta:TA):TI:=λσ H R=>ta σ H λvs H1=>∃i j:Int,vs=[.int i,.int j,.int (-1)]/\(-(2^61)<=i/\i<2^61 /\ -(2^61)<=j/\j<2^61)/\R (Ko i (i-j).toNat) H1
theorem Af{a b c:Expr}{ta:TA}{p pos:Pos}(hg:Gl X "range") (hm:X.mg "range" = none) (ha:PA X [a,b,c] ta)(hs:starEach [a,b,c] X.env=[(false,eval a X.env),(false,eval b X.env),(false,eval c X.env)]:=by rfl)
  (hs2:starEach [b,c] X.env=[(false,eval b X.env),(false,eval c X.env)]:=by rfl):PI X tg (.Call (.Name "range" p) [a,b,c] [] pos) (Bc ta):=by
 intro pins s σ H R I h;refine Call_ (jW I hg hm boot_range (Yq (dy (ha pos pins s σ H _ I h) λus s1 ⟨vs,H1,I1,r1,q1⟩=>?_) (by rw[hs,hs2]) (by rw[hs2];rfl)))
 obtain⟨i,j,e,⟨q1,q2,q3,q4⟩,q⟩:=q1;subst e;cases r1 with
 | cons ri rr =>
  cases rr with
  | cons rj rr =>
   cases rr with
   | cons rk rr =>
    cases rr;obtain⟨t1,rfl⟩:=ri;obtain⟨t2,rfl⟩:=rj;obtain⟨t3,rfl⟩:=rk;refine call_range_3 ∅ ?_ (.inl (PyProof.noPylong_of_log2 ∅))
    refine wpAny_pyIter_range (IsRange.new ..) (Cu q1 q2 q3 q4) ?_;have J:aU X pins σ H1 { s1 with heap:=s1.heap.push { cls:=.type "range",data:=.fields #[.int i t1,.int j t2,.int (-1) t3] },toks:=s1.toks }:=I1.kept λb o e=>Heap.get?_push_of_some _ e
    obtain⟨a1,ha1⟩ : ∃a1,a1=(s1.heap.push { cls:=.type "range",data:=.fields #[.int i t1,.int j t2,.int (-1) t3] }).objs.size:=⟨_,rfl⟩;refine⟨_,[_],_,_,H1,rfl,J.kept (t':=s1.toks) λb o e=>Heap.get?_push_of_some _ e,D6 _ i (i-j).toNat,?_,λb hb=>?_,q⟩
    .have e1:i+((0:Nat):Int)*(-1)=i:=by simp
     have e2:(((i-j).toNat:Nat):Int)-((0:Nat):Int)=Builtin.Range.rangeSize i j (-1):=by rw[md];split<;>nofun
     show IsRangeIter _ _ (i+((0:Nat):Int)*(-1)) ((((i-j).toNat:Nat):Int)-((0:Nat):Int)) (-1);rw[e1,e2];exact Heap.get?_push_size _ rfl
    .cases List.mem_singleton.mp hb;exact J.fpOk (Yp _) (J.hok.fresh (Yp _))
theorem zQ{a b c:Expr}{ta:TA}{p pos:Pos}(hg:Gl X "range") (hm:X.mg "range" = none) (ha:QA X [a,b,c] ta)(hs:starEach [a,b,c] X.env=[(false,eval a X.env),(false,eval b X.env),(false,eval c X.env)]:=by rfl)
  (hs2:starEach [b,c] X.env=[(false,eval b X.env),(false,eval c X.env)]:=by rfl):QI X tg (.Call (.Name "range" p) [a,b,c] [] pos) (Bc ta):=⟨Af hg hm ha.h hs hs2⟩
end
def Aq(lo:Int)(n:Nat):List V:=(List.range n).map λ(k:Nat)=>V.int (lo-k)
theorem EO{lo:Int}{n:Nat}:(Aq lo n).length=n:=by simp[Aq]
theorem Ij{lo:Int}{n i:Nat}{x:V}(h:(Aq lo n)[i]? = some x):i<n/\x=.int (lo-i):=by
 have hi:i<n:=by
  have:=(List.getElem?_eq_some_iff.mp h).1;simpa [Aq] using this
 refine⟨hi,?_⟩;simp[Aq,hi] at h;exact h.symm
theorem BG{lo:Int}{n:Nat}{H:Hp}:pQ (Ko lo n) H (Aq lo n):=by
 refine⟨λi hi=>by show i<n;simpa [Aq] using hi,λi x H' hi y=>⟨y.1,?_⟩,by show n<=(Aq lo n).length;simp[Aq]⟩
 have hi':i<n:=by simpa [Aq] using hi
 obtain⟨_,rfl⟩:=y;simp[Aq,hi']
theorem F0{f g:Nat->Rat}{d i:Nat}(hg:∀j,d<j->g j=0)(hf:∀j,i<j->f j=0):∀n,pr f g n (i+d)=if i<n then f i*g d else 0
 | 0=>by simp[pr]
 | n+1=>by
  have ih:=F0 hg hf n;show pr f g n (i+d)+(if n<=i+d then f n*g (i+d-n) else 0)=_
  rw[ih];rcases Nat.lt_trichotomy i n with h|h|h
  .rw[hf n h,Yb h,Yb (show i<n+1 by nofun)]
   split<;>grind
  .subst h;rw[Yc (),Yb (),Yb (),show i+d-i=d by nofun]
   grind
  .rw[Yc (),Yb (),Yc (),hg _ ()];grind
theorem BQ{f f' g:Nat->Rat}:∀n k,pr (λi=>f i-f' i) g n k=pr f g n k-pr f' g n k
 | 0,_=>by
  show (0:Rat)=0-0;grind
 | n+1,k=>by
  show pr _ g n k+(if n<=k then (f n-f' n)*g (k-n) else 0)=(pr f g n k+if n<=k then f n*g (k-n) else 0)-(pr f' g n k+if n<=k then f' n*g (k-n) else 0)
  rw[BQ n k];split<;>grind
theorem ub{f g:Nat->Rat}{n:Nat}(hf:∀i,n<=i->f i=0):∀m k,pr f g (n+m) k=pr f g n k
 | 0,_=>rfl
 | m+1,k=>by
  show pr f g (n+m) k+(if n+m<=k then f (n+m)*g (k-(n+m)) else 0)=_
  rw[ub hf m k,hf (n+m) ()];split<;>grind
theorem BF{e g r:Nat->Rat}{n d:Nat}(he:∀i,n<=i->e i=0)(hg:∀j,d<j->g j=0)(hd:g d≠0)(hr:∀k,d<=k->r k=0)(h:∀k,pr e g n k=r k):∀i,e i=0:=by
 have step:∀m i,n<=i+m->e i=0:=by
  intro m;induction m with
  | zero=>intro i hi;exact he i hi
  | succ m ih =>
   intro i hi;by_cases hin:n<=i
   .exact he i hin
   have hab:∀j,i<j->e j=0:=λj hj=>ih j ();have e1:=F0 hg hab n;rw[Yb (),h,hr _ ()] at e1;rcases Rat.mul_eq_zero.mp e1.symm with z|z
   .exact z
   .exact absurd z hd
 intro i;exact step n i ()
theorem vZ{q q' g r r':Nat->Rat}{n n' d:Nat}(hq:∀i,n<=i->q i=0)(hq':∀i,n'<=i->q' i=0)(hg:∀j,d<j->g j=0)(hd:g d≠0)(hr:∀k,d<=k->r k=0)(hr':∀k,d<=k->r' k=0)
  (h:∀k,pr q g n k+r k=pr q' g n' k+r' k):(∀i,q i=q' i) /\ ∀k,r k=r' k:=by
 have a:∀k,pr q g (n+n') k=pr q g n k:=λk=>ub hq n' k;have b:∀k,pr q' g (n+n') k=pr q' g n' k:=λk=>by rw[YL];exact ub hq' n k
 have z:=BF (e:=λi=>q i-q' i) (g:=g) (r:=λk=>r' k-r k) (n:=n+n') (d:=d) (λi hi=>by
  show q i-q' i=0;rw[hq i (),hq' i ()];grind) hg hd (λk hk=>by
  show r' k-r k=0;rw[hr k hk,hr' k hk];grind) (λk=>by
  rw[BQ,a,b];have:=h k;grind)
 have e:∀i,q i=q' i:=λi=>by
  have:q i-q' i=0:=z i;grind
 refine⟨e,λk=>?_⟩;have e2:pr q g n k=pr q' g n' k:=by
  rw[<-a,<-b,show q=q' from funext e]
 have:=h k;grind
theorem iy{rs:List (Int×Int)}(h:aL rs) {m:Nat}(hz:∀k,m<=k->cf rs k=0):rs.length<=m:=by
 refine Nat.le_of_not_lt λhm=>?_;have hl:rs.length-1<rs.length:=();have e:rs.getLast? = some rs[rs.length-1]:=by rw[YZ,YR hl]
 have z:=hz (rs.length-1) ();rw[aA (YR hl)] at z;exact h.2 _ e ((fU (h.1 _ (YQ hl)).ne).mp z)
theorem uW(s:Nat)(gs:List (Int×Int))(k:Nat):cf (List.replicate s (0,1)++gs) k=if k<s then 0 else cf gs (k-s):=by
 unfold cf;by_cases h:k<s
 .rw[Yb h,Yy (by simpa using h),Yx,Yb h]
  exact pX
 .rw[Yc h,Yw (by simp;nofun),YD]
theorem El(m n:Int):EF (.int m) (.int n)=decide (m=n):=by
 unfold EF D.py;simp only[PyData.eqv];rw[Bool.eq_iff_iff];simp
theorem yQ(i:Int):(D.int i).cmp:=by
 unfold D.cmp D.py;exact⟨rfl,Nat.le_of_ble_eq_true rfl⟩
theorem xX{ns:List Int}{m:Nat}(h:∀n∈ns.drop m,n=0)(k:Nat):nz (ns.take m) k=nz ns k:=by
 unfold nz;rw[Xa,Xa,Xm];by_cases hk:k<m
 .rw[Yb hk]
 .rw[Yc hk];cases e:ns[k]? with
  | none=>rfl
  | some n =>
   have:n∈ns.drop m:=by
    have e2:(ns.drop m)[k-m]? = some n:=by rw[Xn,show m+(k-m)=k by nofun];exact e
    exact YA e2
   rw[h n this];rfl
theorem Be{f g:Nat->Int}{i:Nat}{c:Int}(h0:f i=0):∀n k,pz (λj=>if j=i then c else f j) g n k=pz f g n k+if i<n/\i<=k then c*g (k-i) else 0
 | 0,k=>by
  show (0:Int)=0+_;rw[Yc ()];rfl
 | n+1,k=>by
  show pz _ g n k+(if n<=k then (if n=i then c else f n)*g (k-n) else 0)=(pz f g n k+if n<=k then f n*g (k-n) else 0)+_
  rw[Be h0 n k];rcases Nat.lt_trichotomy n i with h|h|h
  .simp only[Yc (show ¬ (i<n/\i<=k) by nofun),Yc (show ¬ n=i by nofun),Yc (show ¬ (i<n+1/\i<=k) by nofun)]
   nofun
  .subst h;rw[h0];by_cases hk:n<=k
   .simp only[Yb hk,Yb (show n<n+1/\n<=k from ⟨(),hk⟩),Yc (show ¬ (n<n/\n<=k) by nofun),Int.zero_mul,if_true]
    try nofun
   .simp only[Yc hk,Yc (show ¬ (n<n+1/\n<=k) by nofun),Yc (show ¬ (n<n/\n<=k) by nofun)]
  .simp only[Yc (show ¬ n=i by nofun)]
   by_cases hk:i<=k
   .simp only[Yb (show i<n/\i<=k from ⟨h,hk⟩),Yb (show i<n+1/\i<=k from ⟨(),hk⟩)]
    nofun
   .simp only[Yc (show ¬ (i<n/\i<=k) by nofun),Yc (show ¬ (i<n+1/\i<=k) by nofun)]
    nofun
theorem xk{f g:Nat->Int}{c:Int}:∀n k,pz (λj=>c*f j) g n k=c*pz f g n k
 | 0,_=>by show (0:Int)=c*0;nofun
 | n+1,k=>by
  show pz _ g n k+(if n<=k then c*f n*g (k-n) else 0)=c*(pz f g n k+if n<=k then f n*g (k-n) else 0)
  rw[xk n k];split
  .rw[Int.mul_add,Y7]
  .simp
theorem zl{f g:Nat->Int}(h:∀i,f i=0):∀n k,pz f g n k=0
 | 0,_=>rfl
 | n+1,k=>by
  show pz f g n k+(if n<=k then f n*g (k-n) else 0)=0
  rw[zl h n k,h n];simp
theorem oH{ns:List Int}{i k:Nat}{v:Int}(hi:i<ns.length):nz (ns.set i v) k=if k=i then v else nz ns k:=by
 unfold nz;rw[Xa,Xa,List.getElem?_set];by_cases h:i=k
 .subst h;simp[hi]
 .rw[Yc h,Yc (λz=>h z.symm)]
theorem oK{ns:List Int}{c:Int}(k:Nat):nz (ns.map λx=>c*x) k=c*nz ns k:=by
 unfold nz;rw[Xa,Xa,Yz];cases ns[k]?<;>simp
theorem nn{ns:List Int}(k:Nat):nz ns.dropLast k=if k=ns.length-1 then 0 else nz ns k:=by
 unfold nz;rw[Xa,Xa,List.getElem?_dropLast];by_cases h:k<ns.length-1
 .rw[Yb h,Yc ()]
 .rw[Yc h];by_cases h2:k=ns.length-1
  .rw[Yb h2];rfl
  .rw[Yc h2,Xj ()]
theorem zV{ms:Nat->Int}{S P:Int}{Q Q' N R R1 R2:Nat->Int}{n p l:Nat}(h:∀k,S*ms k=pz Q N n k+R k)(h0:Q p=0)(hQ:∀k,Q' k=if k=p then P else Q k)(hp:p<n)(hN:∀j,l<j->N j=0)
  (ht:R (p+l)=P*N l)(h1:∀k,R1 k=if k=p+l then 0 else R k)(h2:∀k,R2 k=R1 k-if p<=k/\k<p+l then P*N (k-p) else 0):∀k,S*ms k=pz Q' N n k+R2 k:=by
 intro k;rw[show Q'=λj=>if j=p then P else Q j from funext hQ,Be h0,h k,h2 k,h1 k]
 by_cases a:p<=k
 .rw[Yb ⟨hp,a⟩];rcases Nat.lt_trichotomy k (p+l) with b|b|b
  .rw[Yc (show ¬ k=p+l by nofun),Yb ⟨a,b⟩]
   nofun
  .subst b;rw[Yb rfl,Yc (),ht,show p+l-p=l by nofun]
   nofun
  .rw[Yc (show ¬ k=p+l by nofun),Yc (),hN _ (show l<k-p by nofun)]
   nofun
 .rw[Yc (),Yc (show ¬ k=p+l by nofun),Yc ()]
  nofun
section
variable {X:Cx}{a b c:Expr}{ta tb tc:TE}{pos:Pos}
theorem yJ(b c:Expr) {op op':CmpOp}(h:op' ≠ .In:=by decide)(h2:op' ≠ .NotIn:=by decide):lastMarks [op,op'] [b,c]=false:=by
 show behindInMarks op' c=false;exact aG c h h2
theorem uv{op op':CmpOp}{r r':R2}(ho:el X (compareOp op) r)(ho':el X (compareOp op') r')(ha:QE X a ta)(hb:QE X b tb)(hc:QE X c tc)(hm:lastMarks [op,op'] [b,c]=false):QT X (.Compare a [op,op'] [b,c] pos) (qP (sJ r r' ta tb tc)) :=
 ⟨Cv ho ho' ha.h hb.h hc.h hm⟩
end
theorem oW{f g:Nat->Rat}:∀n,ak f g (n+1)=f 0*g 0+ak (λi=>f (i+1)) (λi=>g (i+1)) n
 | 0=>by
  show (0:Rat)+f 0*g 0=f 0*g 0+0;grind
 | n+1=>by
  show ak f g (n+1)+f (n+1)*g (n+1)=f 0*g 0+(ak (λi=>f (i+1)) (λi=>g (i+1)) n+f (n+1)*g (n+1));rw[oW n];grind
theorem tF{f g:Nat->Rat}:∀n,ak (λi=>f (n-1-i)) (λi=>g (n-1-i)) n=ak f g n
 | 0=>rfl
 | n+1=>by
  rw[oW];show f n*g n+ak (λi=>f (n+1-1-(i+1))) (λi=>g (n+1-1-(i+1))) n=ak f g n+f n*g n;have e:ak (λi=>f (n+1-1-(i+1))) (λi=>g (n+1-1-(i+1))) n=ak (λi=>f (n-1-i)) (λi=>g (n-1-i)) n :=
   aD n (λi _=>by rw[show n+1-1-(i+1)=n-1-i by nofun]) (λi _=>by rw[show n+1-1-(i+1)=n-1-i by nofun])
  rw[e,tF n];grind
def HM:Nat->Int
 | 0=>1
 | e+1=>HM e*6
theorem AF:∀e,Bt (3*e+1) (HM e)
 | 0=>by decide
 | e+1=>((AF e).mul (show Bt 3 6 by decide)).mono ()
theorem xW(j:Nat):∀e,mh (j+e)=mh j*HM e
 | 0=>by show mh j=mh j*1;nofun
 | e+1=>by
  show mh (j+e)*6=mh j*(HM e*6);rw[xW j e,Y7]
theorem oG{qs:List (Int×Int)}{n k:Nat}:cf (qs.drop n) k=cf qs (n+k):=by
 unfold cf;rw[Xn]
def xa(x:V)(P:Bool->Prop):Prop:=match x with | .bl k=>P k|_=>False
def isInt(x:V)(P:Int->Prop):Prop:=match x with | .int k=>P k|_=>False
def jD(x:V)(P:Addr->Prop):Prop:=match x with | .ref k=>P k|_=>False
def uJ(x:Option (Option V))(P:V->Prop):Prop:=match x with|some (some v)=>P v|_=>False
def IG(x:List V)(P:V->Prop):Prop:=match x with|[v]=>P v|_=>False
def J0(x:List V)(P:V->V->Prop):Prop:=match x with|[v,u]=>P v u|_=>False
theorem Ew{k:Bool}{P:Bool->Prop}:xa (.bl k) P=P k:=rfl
theorem Bx{k:Int}{P:Int->Prop}:isInt (.int k) P=P k:=rfl
theorem AO{k:Addr}{P:Addr->Prop}:jD (.ref k) P=P k:=rfl
theorem Cz{k:V}{P:V->Prop}:uJ (some (some k)) P=P k:=rfl
theorem GJ{k:V}{P:V->Prop}:IG [k] P=P k:=rfl
theorem Gf{k l:V}{P:V->V->Prop}:J0 [k,l] P=P k l:=rfl
theorem jV{x:V}{P:Bool->Prop}:xa x P = ∃k,x=.bl k/\P k:=propext (by cases x<;>simp[xa])
theorem dD{x:V}{P:Int->Prop}:isInt x P = ∃k,x=.int k/\P k:=propext (by cases x<;>simp[isInt])
theorem eE{x:V}{P:Addr->Prop}:jD x P = ∃k,x=.ref k/\P k:=propext (by cases x<;>simp[jD])
theorem m7{x:Option (Option V)}{P:V->Prop}:uJ x P = ∃k,x=some (some k)/\P k:=propext (by rcases x with _|_|v<;>simp[uJ])
theorem oN{x:List V}{P:V->Prop}:IG x P = ∃k,x=[k]/\P k:=propext (by rcases x with _|⟨v,_|⟨u,r⟩⟩<;>simp[IG])
theorem sZ{x:List V}{P:V->V->Prop}:J0 x P = ∃k l,x=[k,l]/\P k l:=propext ⟨λh=>match x,h with|[v,u],h=>⟨v,u,rfl,h⟩,λ⟨k,l,e,h⟩=>by subst e;exact h⟩
theorem FL{α β:Sort _}{A:α->Prop}{B:β->Prop}{C:α->β->Prop}:(∃i j,A i/\B j/\C i j) = ∃i,A i /\ ∃j,B j/\C i j:=propext ⟨λ⟨i,j,a,b,c⟩=>⟨i,a,j,b,c⟩,λ⟨i,a,j,b,c⟩=>⟨i,j,a,b,c⟩⟩
def ve(i:Nat):TE:=λσ H Q=>uJ σ[i]? λv=>Q v H
theorem Ih{i:Nat}:Ff i=ve i:=by funext σ H Q;exact m7.symm
def xI(t:TE):TT:=λσ H Q=>t σ H λx H'=>xa x λk=>Q k H'
theorem xU{t:TE}:qP t=xI t:=by
 funext σ H Q;unfold qP xI;congr 1
 funext x H';exact jV.symm
theorem Kt{t:TE}:tB t=xI t:=xU
def Cy(ta tb:TE):TE:=λσ H Q=>ta σ H λx H1=>xa x λc=>if c=true then tb σ H1 Q else Q (.bl false) H1
theorem Fu{ta tb:TE}:yd ta tb=Cy ta tb:=by
 funext σ H Q;unfold yd Cy;congr 1
 funext x H';exact jV.symm
def Ii(ta tb:TE):TE:=λσ H Q=>ta σ H λx H1=>xa x λc=>if c=true then Q (.bl true) H1 else tb σ H1 Q
theorem Ik{ta tb:TE}:Fc ta tb=Ii ta tb:=by
 funext σ H Q;unfold Fc Ii;congr 1
 funext x H';exact jV.symm
def Cc(ta:TE):TE:=λσ H Q=>ta σ H λx H1=>xa x λc=>Q (.bl (!c)) H1
theorem EX{ta:TE}:ym ta=Cc ta:=by
 funext σ H Q;unfold ym Cc;congr 1
 funext x H';exact jV.symm
def mI(C:Int->Int->Prop)(g:Int->Int->V):R2:=λx y H Q=>isInt x λi=>isInt y λj=>C i j/\Q (g i j) H
theorem Kb{C:Int->Int->Prop}{g:Int->Int->V}:rI C g=mI C g:=by
 funext x y H Q;unfold rI mI;rw[dD];simp only[dD];exact FL
def Ky(g:Int->Int->V):R2:=λx y H Q=>isInt x λi=>isInt y λj=>Q (g i j) H
theorem Jy{g:Int->Int->V}:yT g=Ky g:=by
 funext x y H Q;unfold yT Ky;simp only[dD];exact FL
def mU(g:Int->V):V->Hp->VK->Prop:=λx H Q=>isInt x λi=>Q (g i) H
theorem Kw{g:Int->V}:rU g=mU g:=by
 funext x H Q;exact dD.symm
theorem qm{i j:Int}:zA (.int i) (.int j)=true:=rfl
theorem EN{i j:Bool}:zA (.bl i) (.bl j)=true:=rfl
def JX:R2:=λx y H Q=>match x,y with | .int i,.int j=>Q (.bl (decide (i=j))) H|_,_=>IJ x y H Q
theorem DQ{i j:Int}{H:Hp}{Q:VK}:JX (.int i) (.int j) H Q=Q (.bl (decide (i=j))) H:=rfl
theorem F1:IJ=JX:=by
 funext x y H Q;unfold JX;split
 .unfold IJ;show (zA _ _=true/\_)=_;simp only[qm,V.int.injEq,true_and]
 .rfl
theorem DP{x y:V}{H:Hp}{Q:VK}:JX x y H Q=IJ x y H Q:=by rw[F1]
def JU:R2:=λx y H Q=>match x,y with | .int i,.int j=>Q (.bl (!decide (i=j))) H|_,_=>IF x y H Q
theorem EQ{i j:Int}{H:Hp}{Q:VK}:JU (.int i) (.int j) H Q=Q (.bl (!decide (i=j))) H:=rfl
theorem F3:IF=JU:=by
 funext x y H Q;unfold JU;split
 .unfold IF;show (zA _ _=true/\_)=_;simp only[qm,V.int.injEq,true_and]
 .rfl
theorem Eb{x y:V}{H:Hp}{Q:VK}:JU x y H Q=IF x y H Q:=by rw[F3]
section
variable {K:W.Frag}
def Ir(K:W.Frag):R2:=λx y H Q=>jD x λp=>isInt y λi=>∃xs,vw K H p=some (.lst xs) /\ ∃v,nK xs i=some v/\Q v H
theorem Ga:rN K=Ir K:=by
 funext x y H Q;unfold rN Ir;simp only[dD,eE];exact FL
def Ig(K:W.Frag):R2:=λx y H Q=>jD x λp=>isInt y λi=>∃xs,vw K H p=some (.tup xs) /\ ∃v,nK xs i=some v/\Q v H
theorem F8:Cr K=Ig K:=by
 funext x y H Q;unfold Cr Ig;simp only[dD,eE];exact FL
def GE(K:W.Frag)(neg:Bool):R2:=λx y H Q=>∃d,aI (vw K H) d x /\ ∃e,aI (vw K H) e y/\d.cmp/\e.cmp/\Q (.bl (cond neg (!EF d e) (EF d e))) H
theorem HQ{neg:Bool}:Fm K neg=GE K neg:=by
 funext x y H Q;unfold Fm GE;cases neg<;>exact FL
def GO(K:W.Frag)(neg:Bool):R2:=λx y H Q=>jD x λp=>jD y λq=>∃xs,vw K H p=some (.lst xs)/\vw K H q=some (.lst [])/\Q (.bl (cond neg (!xs.isEmpty) xs.isEmpty)) H
theorem Hi{neg:Bool}:D5 K neg=GO K neg:=by
 funext x y H Q;unfold D5 GO;simp only[eE];cases neg<;>exact FL
def CU(t:TE):TO:=λσ H Q=>t σ H λx H1=>isInt x λi=>Q (some i) H1
theorem Fj{t:TE}:xR t=CU t:=by
 funext σ H Q;unfold xR CU;congr 1
 funext x H';exact dD.symm
def IW(K:W.Frag):V->Option Int->Option Int->Hp->VK->Prop:=λx lo hi H Q=>jD x λa=>∃xs,vw K H a=some (.lst xs)/\Nw K H (.lst (iU xs lo hi)) Q
theorem Ge:Fe K=IW K:=by
 funext x lo hi H Q;exact eE.symm
def Az(K:W.Frag):V->List V->Hp->VK->Prop:=λx vs H Q=>jD x λl=>IG vs λy=>∃xs,vw K H l=some (.lst xs)/\xs.length<sizeLine/\D3 K H l (.lst (xs++[y])) (Q .non)
theorem Ef:CL K=Az K:=by
 funext x y H Q;unfold CL Az;simp only[eE,oN];exact FL
def xN(K:W.Frag):V->V->V->Hp->(Hp->Prop)->Prop:=λo i v H Q=>jD o λp=>isInt i λk=>∃xs,vw K H p=some (.lst xs) /\ ∃j,ww xs.length k=some j/\D3 K H p (.lst (xs.set j v)) Q
theorem DW:AN K=xN K:=by
 funext x y v H Q;unfold AN xN;simp only[eE,dD];exact FL
def Hu(i j:Nat)(ta:TA):TS:=λD σ H=>ta σ H λvs H1=>J0 vs λv w=>D.nx ((σ.set i (some v)).set j (some w)) H1
theorem HS{i j:Nat}{ta:TA}:Fb i j ta=Hu i j ta:=by
 funext D σ H;unfold Fb Hu;congr 1
 funext x H';exact sZ.symm
def IP(i:Nat)(te:TE)(ti:Dv):TS:=λD σ H=>uJ σ[i]? λx=>te σ H λy H1=>ti x y H1 λz H2=>D.nx (σ.set i (some z)) H2
theorem HE{i:Nat}{te:TE}{ti:Dv}:GC i te ti=IP i te ti:=by
 funext D σ H;exact m7.symm
def CG(K:W.Frag)(tl:TE):TI:=λσ H R=>tl σ H λx H1=>jD x λa=>(∃xs,ke K H1 a xs)/\R (JZ K a) H1
theorem EW{tl:TE}:xH K tl=CG K tl:=by
 funext σ H R;unfold xH CG;congr 1
 funext x H';exact eE.symm
def AI(ta:TA):TI:=λσ H R=>ta σ H λvs H1=>IG vs λx=>isInt x λj=>-(2^62)<=j/\j<2^62/\R (II 0 j.toNat) H1
theorem Fd{ta:TA}:xG ta=AI ta:=by
 funext σ H R;unfold xG AI;congr 1
 funext x H';simp only[oN,dD];exact propext ⟨λ⟨j,a,b⟩=>⟨_,a,j,rfl,b⟩,λ⟨_,a,j,e,b⟩=>⟨j,by rw[a,e],b⟩⟩
def uN(K:W.Frag):R2:=λx y H Q=>match x,y with
 | .int i,.int j=>Q (.int (i+j)) H
 | .ref l,.ref b=>∃xs,vw K H l=some (.lst xs) /\ ∃zs,vw K H b=some (.lst zs)/\xs.length+zs.length<=sizeLine/\Nw K H (.lst (xs++zs)) Q
 | _,_=>ij K x y H Q
theorem zY{i j:Int}{H:Hp}{Q:VK}:uN K (.int i) (.int j) H Q=Q (.int (i+j)) H:=rfl
theorem Ac{l b:Addr}{H:Hp}{Q:VK}:uN K (.ref l) (.ref b) H Q = ∃xs,vw K H l=some (.lst xs) /\ ∃zs,vw K H b=some (.lst zs)/\xs.length+zs.length<=sizeLine/\Nw K H (.lst (xs++zs)) Q:=rfl
theorem zk:ij K=uN K:=by
 funext x y H Q;unfold uN;split
 .exact mL
 .exact fN
 .rfl
theorem An{x y:V}{H:Hp}{Q:VK}:uN K x y H Q=ij K x y H Q:=by rw[zk]
def EY(K:W.Frag):R2:=λx y H Q=>match x,y with
 | .int i,.int j=>IntMulOk i j/\Q (.int (i*j)) H
 | _,_=>gk K x y H Q
theorem Cj{i j:Int}{H:Hp}{Q:VK}:EY K (.int i) (.int j) H Q=(IntMulOk i j/\Q (.int (i*j)) H):=rfl
theorem AG:gk K=EY K:=by
 funext x y H Q;unfold EY;split
 .exact gO
 .rfl
theorem Bm{x y:V}{H:Hp}{Q:VK}:EY K x y H Q=gk K x y H Q:=by rw[AG]
end
def KC(P:Addr->Hp->VK->Prop)(t:TA):TE:=λσ H Q=>t σ H λvs H1=>IG vs λx=>jD x λp=>P p H1 Q
theorem IU{P:Addr->Hp->VK->Prop}{t:TA}:DN (λxs H Q=>∃p,xs=[.ref p]/\P p H Q) t=KC P t:=by
 funext σ H Q;unfold DN KC;congr 1
 funext x H';simp only[oN,eE];exact propext ⟨λ⟨j,a,b⟩=>⟨_,a,j,rfl,b⟩,λ⟨_,a,j,e,b⟩=>⟨j,by rw[a,e],b⟩⟩
def KG(P:Int->Int->Hp->VK->Prop)(t:TA):TE:=λσ H Q=>t σ H λvs H1=>J0 vs λx y=>isInt x λi=>isInt y λj=>P i j H1 Q
theorem Jr{P:Int->Int->Hp->VK->Prop}{t:TA}:DN (λxs H Q=>∃i j,xs=[.int i,.int j]/\P i j H Q) t=KG P t:=by
 funext σ H Q;unfold DN KG;congr 1
 funext x H';simp only[sZ,dD];exact propext ⟨λ⟨i,j,a,b⟩=>⟨_,_,a,i,rfl,j,rfl,b⟩,λ⟨_,_,a,i,e,j,e',b⟩=>⟨i,j,by rw[a,e,e'],b⟩⟩
end L2
namespace L2
open PySem
theorem HG{α:Sort _}{g z:List Value->α}(us:List Value)(hl:us.length=1)(h:∀a0,g [a0]=z [a0]):g us=z us:=by
 rcases us with _|⟨a0,_|⟨b,r⟩⟩
 all_goals first|exact h _|(simp at hl;done)
theorem BP{α:Sort _}{g z:List Value->α}(us:List Value)(hl:us.length=2)(h:∀a0 a1,g [a0,a1]=z [a0,a1]):g us=z us:=by
 rcases us with _|⟨a0,_|⟨a1,_|⟨b,r⟩⟩⟩
 all_goals first|exact h _ _|(simp at hl;done)
theorem Hw{α:Sort _}{g z:List Value->α}(us:List Value)(hl:us.length=3)(h:∀a0 a1 a2,g [a0,a1,a2]=z [a0,a1,a2]):g us=z us:=by
 rcases us with _|⟨a0,_|⟨a1,_|⟨a2,_|⟨b,r⟩⟩⟩⟩
 all_goals first|exact h _ _ _|(simp at hl;done)
end L2
namespace L2
open PySem PySem.Spec PyProof.Rows
def ch:Nat->Nat->Nat
 | _,0=>1
 | 0,_+1=>0
 | n+1,k+1=>ch n k+ch n (k+1)
def fw(t r:Nat->Rat):Nat->Nat->Rat
 | 0,h=>if h=0 then 1 else 0
 | k+1,h=>(if h=0 then 0 else fw t r k (h-1))+t h*fw t r k h+r (h+1)*fw t r k (h+1)
def bw(t r:Nat->Rat):Nat->Nat->Rat
 | 0,h=>if h=0 then 1 else 0
 | k+1,h=>bw t r k (h+1)+t h*bw t r k h+(if h=0 then 0 else r h*bw t r k (h-1))
theorem uu{f g:Nat->Rat}:∀n,ak f g n=ak g f n
 | 0=>rfl
 | n+1=>by
  show ak f g n+f n*g n=ak g f n+g n*f n;rw[uu n];grind
section
variable {X:Cx}
def D7(K:W.Frag):V->List V->Hp->VK->Prop:=λx vs H Q=>∃l,x=.ref l/\vs=[] /\ ∃xs,vw K H l=some (.lst xs)/\D3 K H l (.lst []) (Q .non)
theorem zW:IC X "list.clear" (D7 X.K):=by
 intro pins s σ H x vs v us Q I rx rv h;obtain⟨l,e1,e2,xs,h,q⟩:=h;exact CD pins s σ H x vs v us Q I rx rv ⟨l,xs,e1,e2,aQ h,q.ok (I.noK (aQ h))⟩
end
end L2
namespace L2
open PySem PySem.Spec PyProof.Rows
structure Jq where
 params:Arguments
 body:Expr
 scope:Scope
 Nl:List Str
 ixs:List Nat
 tl:TE
structure KQ where
 t:Addr
 p:Addr
 c:Addr
 d:Addr
 ps:Arguments
 b:Expr
 sc:Scope
 ds:List D
def Ob(D:Int)(B:Nat)(f:Nat->Rat):Prop:=∀k,∃n:Int,f k=(n:Rat)/(D:Rat)/\Bt B n
section
variable {D E:Int}{a b e:Nat}{f g:Nat->Rat}
theorem JJ{n:Nat}:Bt n 0:=Nat.two_pow_pos n
theorem Ob.mono(h:Ob D a f)(hl:a<=b):Ob D b f:=λk=>by
 obtain⟨n,e1,h1⟩:=h k;exact⟨n,e1,h1.mono hl⟩
theorem Ob.congr(h:Ob D a f)(e:∀k,g k=f k):Ob D a g:=λk=>by
 rw[e k];exact h k
theorem Ob.bq{qs:List (Int×Int)}(h:Ob D a (cf qs))(hD:D≠0)(hb:Bt a D)(hF:∀q∈qs,Fq q):∀q∈qs,Bq a q:=λq hq=>by
 obtain⟨k,hk,rfl⟩:=List.getElem_of_mem hq;obtain⟨n,e1,h1⟩:=h k;rw[aA (YR hk)] at e1;rw[gY (hF _ hq) (ie hD) (by rw[ig hD,e1])]
 exact nF hD h1 hb
theorem Ob.add(h1:Ob D a f)(h2:Ob D b g):Ob D (max a b+1) (λk=>f k+g k):=λk=>by
 obtain⟨m,e1,b1⟩:=h1 k;obtain⟨n,e2,b2⟩:=h2 k;refine⟨m+n,?_,b1.add b2⟩;show f k+g k=_;rw[e1,e2,Xd];grind
theorem Ob.up(hD:D≠0)(hE:E≠0)(h:Ob D a f)(hb:Bt e E):Ob (D*E) (a+e) f:=λk=>by
 obtain⟨n,e1,h1⟩:=h k;refine⟨n*E,?_,h1.mul hb⟩;have:=ao hD;have:=ao hE;rw[e1,Xe,Xe];grind
theorem Ob.one{c:Rat}{m:Int}(hD:D≠0)(hE:E≠0)(h:Ob D a f)(hc:c=(m:Rat)/(E:Rat))(hb:Bt b m):Ob (D*E) (a+b) (λk=>f k*c):=λk=>by
 obtain⟨n,e1,h1⟩:=h k;refine⟨n*m,?_,h1.mul hb⟩;have:=ao hD;have:=ao hE;show f k*c=_;rw[e1,hc,Xe,Xe];grind
theorem Ob.pr(hD:D≠0)(hE:E≠0)(h1:Ob D a f)(h2:Ob E b g):∀n,Ob (D*E) (a+b+n) (λk=>pr f g n k)
 | 0=>λk=>⟨0,by
  show (0:Rat)=((0:Int):Rat)/_;have c0:((0:Int):Rat)=0:=rfl;rw[c0];grind,JJ⟩
 | n+1=>λk=>by
  obtain⟨m,e1,b1⟩:=Ob.pr hD hE h1 h2 n k;show ∃m,L2.pr f g n k+(if n<=k then f n*g (k-n) else 0)=_/\_
  have e1:L2.pr f g n k=(m:Rat)/((D*E:Int):Rat):=e1;split
  .obtain⟨x,e2,b2⟩:=h1 n;obtain⟨y,e3,b3⟩:=h2 (k-n);refine⟨m+x*y,?_,(b1.add (b2.mul b3)).mono ()⟩;have:=ao hD;have:=ao hE;rw[e1,e2,e3,Xd,Xe,Xe];grind
  .refine⟨m,?_,b1.mono ()⟩;rw[e1];grind
def Pb(a:Nat)(f:Nat->Rat):Prop:=∃D:Int,D≠0/\Bt a D/\Ob D a f
theorem Pb.mono(h:Pb a f)(hl:a<=b):Pb b f:=by
 obtain⟨D,h1,h2,h3⟩:=h;exact⟨D,h1,h2.mono hl,h3.mono hl⟩
theorem Pb.congr(h:Pb a f)(e:∀k,g k=f k):Pb a g:=by
 obtain⟨D,h1,h2,h3⟩:=h;exact⟨D,h1,h2,h3.congr e⟩
theorem Pb.bq{qs:List (Int×Int)}(h:Pb a (cf qs))(hF:∀q∈qs,Fq q):∀q∈qs,Bq a q:=by
 obtain⟨D,h1,h2,h3⟩:=h;exact h3.bq h1 h2 hF
theorem Pb.pr(h1:Pb a f)(h2:Pb b g)(n:Nat):Pb (a+b+n) (λk=>L2.pr f g n k):=by
 obtain⟨D,d1,d2,d3⟩:=h1;obtain⟨E,e1,e2,e3⟩:=h2;exact⟨D*E,Xc d1 e1,(d2.mul e2).mono (),Ob.pr d1 e1 d3 e3 n⟩
theorem Pb.add(h1:Pb a f)(h2:Pb b g):Pb (a+b+1) (λk=>f k+g k):=by
 obtain⟨D,d1,d2,d3⟩:=h1;obtain⟨E,e1,e2,e3⟩:=h2;have x2:=Ob.up e1 d1 e3 d2;rw[Y8] at x2;refine⟨D*E,Xc d1 e1,(d2.mul e2).mono (),((Ob.up d1 e1 d3 e2).add x2).mono ()⟩
theorem Pb.one{c:Rat}{m:Int}(h:Pb a f)(hE:E≠0)(hc:c=(m:Rat)/(E:Rat))(hb:Bt b m)(hb':Bt b E):Pb (a+b) (λk=>f k*c):=by
 obtain⟨D,d1,d2,d3⟩:=h;exact⟨D*E,Xc d1 hE,d2.mul hb',Ob.one d1 hE d3 hc hb⟩
end
theorem BA{a:Nat}(h:1<=a):Pb a (cf []):=⟨1,∅,Bt.mono (m:=1) ∅ h,λk=>⟨0,by
  show (0:Rat)=((0:Int):Rat)/_;have c0:((0:Int):Rat)=0:=rfl;rw[c0];grind,JJ⟩⟩
def lin(p q:Rat)(f:Nat->Rat):Nat->Rat
 | 0=>f 0*p
 | k+1=>f (k+1)*p+f k*q
theorem uM{a b c:Int}(h:Int.gcd a b=1)(hd:a∣b*c):a∣c:=by
 rw[<-Int.natAbs_dvd_natAbs] at hd ⊢;rw[YW] at hd;exact Nat.Coprime.dvd_of_dvd_mul_left h hd
theorem DT{b q E:Int}(hb:0<b)(hq:0<q)(h1:b∣E)(h2:q∣E):b*q.fdiv (Int.gcd b q:Int)∣E:=by
 obtain⟨_,_,_,hg,_⟩:=uI hb hq;have e:=ge hg (Int.gcd_dvd_right b q);obtain⟨m,hm⟩:=Int.gcd_dvd_left b q;obtain⟨g,hgg⟩ : ∃g:Nat,g=Int.gcd b q:=⟨_,rfl⟩;generalize hc:q.fdiv (Int.gcd b q:Int)=c at e;rw[<-hgg] at hg e hm;have hcop:Int.gcd c m=1:=by
  have z:Int.gcd b q=g*Int.gcd m c:=by
   rw[hm,<-e,Y8 c,Int.gcd_mul_left];simp
  rw[<-hgg] at z;have g0:0<g:=();have:Int.gcd m c=1:=by
   have:g*1=g*Int.gcd m c:=();exact (Nat.eq_of_mul_eq_mul_left g0 this).symm
  rw[Int.gcd_comm];exact this
 obtain⟨u,hu⟩:=h1;obtain⟨v,hv⟩:=h2;have:c∣m*u:=by
  refine⟨v,?_⟩;have z:(g:Int)*(m*u)=(g:Int)*(c*v):=by
   rw[<-Y7,<-hm,<-hu,hv,<-e];rw[Y8 c,Y7]
  exact Int.eq_of_mul_eq_mul_left hg z
 obtain⟨t,ht⟩:=uM hcop this;exact⟨t,by rw[hu,ht,Y7]⟩
theorem jM{q:Int×Int}{n E:Int}(h:Fq q)(hE:E≠0)(e:wv q=(n:Rat)/(E:Rat)):q.2∣E:=by
 unfold wv at e;have c1:=ao h.ne;have c2:=ao hE;have e1:(q.1:Rat)*(E:Rat)=(n:Rat)*(q.2:Rat):=⋯;have e2:q.1*E=n*q.2:=by
  rw[<-Xe,<-Xe] at e1;exact Rat.intCast_inj.mp e1
 refine uM (b:=q.1) (by rw[Int.gcd_comm];exact h.2) ⟨n,by rw[e2,Y8]⟩
theorem fk{a:Nat}{qs:List (Int×Int)}{D:Int}{ns:List Int}(h:Pb a (cf qs))(hF:∀q∈qs,Fq q)(hD:0<D)(hm:∀E:Int,(∀q∈qs,q.2∣E)->D∣E)(hl:ns.length=qs.length)(hn:∀(i:Nat)(n:Int)(q:Int×Int),ns[i]? = some n->qs[i]? = some q->(n:Rat)=wv q*(D:Rat)):Bt a D /\ ∀n∈ns,Bt a n:=by
 obtain⟨E,hE,bE,oE⟩:=h;obtain⟨t,ht⟩:=hm E λq hq=>by
  obtain⟨k,hk,rfl⟩:=List.getElem_of_mem hq;obtain⟨n,e,_⟩:=oE k;rw[aA (YR hk)] at e;exact jM (hF _ hq) hE e
 have t0:t≠0:=λz=>hE (by rw[ht,z,Xo])
 have le:∀x:Int,x.natAbs<=(x*t).natAbs:=λx=>by
  rw[YW];exact Y5 _ ()
 refine⟨?_,λn hn'=>?_⟩
 .unfold Bt at *
  have:=le D;rw[<-ht] at this;nofun
 .obtain⟨i,hi,rfl⟩:=List.getElem_of_mem hn';have hi':i<qs.length:=();have e1:=hn i _ _ (YR hi) (YR hi');obtain⟨m,e2,bm⟩:=oE i;rw[aA (YR hi')] at e2;have c1:=ao hE;have e3:((ns[i]*t:Int):Rat)=(m:Rat):=by
   rw[Xe,e1,e2];have:(E:Rat)=(D:Rat)*(t:Rat):=by rw[ht,Xe]
   have c2:(D:Rat)≠0:=ao ();have c3:(t:Rat)≠0:=ao t0;rw[this];grind
  have e4:=Rat.intCast_inj.mp e3;unfold Bt at *
  have:=le ns[i];rw[e4] at this;nofun
def fF(f:Nat->Rat):Nat->Rat->Rat
 | 0,_=>0
 | n+1,x=>fF f n x+f n*aO x n
theorem rL{f g:Nat->Rat}{x:Rat}:∀n,(∀k,k<n->f k=g k)->fF f n x=fF g n x
 | 0,_=>rfl
 | n+1,h=>by
  show fF f n x+f n*_=fF g n x+g n*_;rw[rL n (λk hk=>h k ()),h n ()]
theorem sM{f g:Nat->Rat}{x:Rat}:∀n,fF (λk=>f k+g k) n x=fF f n x+fF g n x
 | 0=>by show (0:Rat)=0+0;grind
 | n+1=>by
  show fF (λk=>f k+g k) n x+(f n+g n)*aO x n=fF f n x+f n*aO x n+(fF g n x+g n*aO x n);rw[sM n];grind
theorem pN{f:Nat->Rat}{x:Rat}{n:Nat}(h:∀k,n<=k->f k=0):∀m,fF f (n+m) x=fF f n x
 | 0=>rfl
 | m+1=>by
  show fF f (n+m) x+f (n+m)*_=_;rw[pN h m,h (n+m) ()];grind
theorem yF{p q:Rat}{f:Nat->Rat}{x:Rat}:∀n,fF (lin p q f) (n+1) x=p*fF f (n+1) x+q*x*fF f n x
 | 0=>by
  show 0+f 0*p*1=p*(0+f 0*1)+q*x*0;grind
 | n+1=>by
  show fF (lin p q f) (n+1) x+(f (n+1)*p+f n*q)*aO x (n+1)=p*(fF f (n+1) x+f (n+1)*aO x (n+1))+q*x*(fF f n x+f n*aO x n);rw[yF n,kl];grind
def EV(f:Nat->Rat)(x:Rat):Rat:=fF f 20 x
theorem sV{p q:Rat}{f:Nat->Rat}(h:f 19=0)(x:Rat):EV (lin p q f) x=(p+q*x)*EV f x:=by
 unfold EV;rw[yF 19];have:fF f 20 x=fF f 19 x:=by
  show fF f 19 x+f 19*_=_;rw[h];grind
 rw[this];grind
theorem dH{f g:Nat->Rat}(h:∀k,f k=g k)(x:Rat):EV f x=EV g x:=rL 20 λk _=>h k
theorem mX{f g:Nat->Rat}(x:Rat):EV (λk=>f k+g k) x=EV f x+EV g x:=sM 20
def DF(f:Nat->Rat):Nat->Rat:=λk=>((k+1:Nat):Int)*f (k+1)
theorem BO{p:Rat}{f:Nat->Rat}(k:Nat):DF (lin p 1 f) k=lin p 1 (DF f) k+f k:=by
 cases k with
 | zero =>
  show (((0+1:Nat):Int):Rat)*(f 1*p+f 0*1)=(((0+1:Nat):Int):Rat)*f 1*p+f 0;have c1:(((0+1:Nat):Int):Rat)=1:=rfl;rw[c1];grind
 | succ k =>
  show (((k+1+1:Nat):Int):Rat)*(f (k+2)*p+f (k+1)*1)=(((k+1+1:Nat):Int):Rat)*f (k+2)*p+(((k+1:Nat):Int):Rat)*f (k+1)*1+f (k+1);have c1:(((k+1+1:Nat):Int):Rat)=(((k+1:Nat):Int):Rat)+1:=by
   rw[show ((k+1+1:Nat):Int)=((k+1:Nat):Int)+1 by nofun,Xd]
   rfl
  rw[c1];grind
theorem rB{c:Rat}{g:Nat->Rat}{j:Nat}{x:Rat}:∀M,fF (λk=>if j<=k then c*g (k-j) else 0) (j+M) x=c*aO x j*fF g M x
 | 0=>by
  have:∀n,n<=j->fF (λk=>if j<=k then c*g (k-j) else 0) n x=0:=λn=>by
   induction n with
   | zero=>intro _;rfl
   | succ n ih =>
    intro hn;show fF (λk=>if j<=k then c*g (k-j) else 0) n x+(if j<=n then c*g (n-j) else 0)*aO x n=0
    rw[ih (),Yc ()];grind
  rw[Nat.add_zero,this j (Yp _)];show (0:Rat)=c*aO x j*0;grind
 | M+1=>by
  show fF (λk=>if j<=k then c*g (k-j) else 0) (j+M) x+(if j<=j+M then c*g (j+M-j) else 0)*aO x (j+M)=c*aO x j*(fF g M x+g M*aO x M)
  rw[rB M,Yb (),Nat.add_sub_cancel_left];have:aO x (j+M)=aO x j*aO x M:=by
   induction M with
   | zero=>show aO x j=aO x j*1;grind
   | succ M ih =>
    show aO x (j+M)*x=aO x j*(aO x M*x);rw[ih];grind
  rw[this];grind
theorem Cq{f g:Nat->Rat}{x:Rat}{m:Nat}(hg:∀k,m<=k->g k=0):∀n,n+m<=20->EV (λk=>pr f g n k) x=fF f n x*fF g m x
 | 0,_=>by
  have:∀n,fF (λk=>pr f g 0 k) n x=0:=λn=>by
   induction n with
   | zero=>rfl
   | succ n ih =>
    show fF (λk=>pr f g 0 k) n x+0*_=0;rw[ih];grind
  show fF _ 20 x=0*_;rw[this];grind
 | n+1,h=>by
  have e:EV (λk=>pr f g (n+1) k) x=EV (λk=>pr f g n k) x+EV (λk=>if n<=k then f n*g (k-n) else 0) x:=mX x
  rw[e,Cq hg n ()];have s:EV (λk=>if n<=k then f n*g (k-n) else 0) x=f n*aO x n*fF g m x:=by
   show fF _ 20 x=_;have z:=rB (c:=f n) (g:=g) (j:=n) (x:=x) (20-n);rw[show n+(20-n)=20 by nofun] at z
   rw[z];have z2:=pN (x:=x) hg (20-n-m);rw[show m+(20-n-m)=20-n by nofun] at z2
   rw[z2]
  rw[s];show _=(fF f n x+f n*aO x n)*_;grind
theorem ii{f:Nat->Rat}{n:Nat}(h:∀k,n<=k->f k=0)(hn:n<=20)(x:Rat):EV f x=fF f n x:=by
 have:=pN (x:=x) h (20-n);rw[show n+(20-n)=20 by nofun] at this
 exact this
def eQ:List Rat->Rat->Rat
 | [],_=>0
 | a::l,x=>a+x*eQ l x
def F2(s:Rat):List Rat->List Rat
 | []=>[]
 | [_]=>[]
 | _::b::l=>eQ (b::l) s::F2 s (b::l)
theorem xO{s:Rat}:∀l:List Rat,(F2 s l).length=l.length-1
 | []=>rfl
 | [_]=>rfl
 | _::b::l=>by
  show (F2 s (b::l)).length+1=_;rw[xO (b::l)];rfl
theorem wJ{s x:Rat}:∀l:List Rat,eQ l x-eQ l s=(x-s)*eQ (F2 s l) x
 | []=>by show (0:Rat)-0=(x-s)*0;grind
 | [a]=>by show a+x*0-(a+s*0)=(x-s)*0;grind
 | a::b::l=>by
  have:=wJ (s:=s) (x:=x) (b::l);show a+x*eQ (b::l) x-(a+s*eQ (b::l) s)=(x-s)*(eQ (b::l) s+x*eQ (F2 s (b::l)) x);have e:(x-s)*(x*eQ (F2 s (b::l)) x)=x*(eQ (b::l) x-eQ (b::l) s):=by rw[this];grind
  grind
theorem uP:∀(S:List Rat)(l:List Rat),S.Nodup->l.length<=S.length->(∀s∈S,eQ l s=0) -> ∀x,eQ l x=0
 | [],l,_,hl,_,x=>by
  have:l=[]:=List.length_eq_zero_iff.mp (Nat.le_zero.mp hl);rw[this];rfl
 | s::S,l,nd,hl,h,x=>by
  rw[List.nodup_cons] at nd;have h0:=h s Yi;have g:∀x,eQ (F2 s l) x=0:=uP S (F2 s l) nd.2 (by rw[xO];have:l.length<=S.length+1:=hl;nofun) λt ht=>by
   have e:=wJ (s:=s) (x:=t) l;rw[h t (Yj _ ht),h0] at e;have hts:t-s=0->t=s:=λz=>by grind
   have hne:t-s≠0:=λz=>nd.1 (by rw[<-hts z];exact ht)
   grind
  have e:=wJ (s:=s) (x:=x) l;rw[g x,h0] at e;grind
def eO(n:Nat)(f:Rat->Rat):Prop:=∃l:List Rat,l.length<=n /\ ∀x,f x=eQ l x
theorem eO.mono{m n:Nat}{f:Rat->Rat}(h:eO m f)(hl:m<=n):eO n f:=by
 obtain⟨l,h1,h2⟩:=h;exact⟨l,(),h2⟩
def vP:List Rat->List Rat->List Rat
 | [],b=>b
 | a,[]=>a
 | x::a,y::b=>(x+y)::vP a b
theorem pE:∀a b:List Rat,(vP a b).length=max a.length b.length
 | [],b=>by show b.length=max 0 b.length;nofun
 | x::a,[]=>by show (x::a).length=max (x::a).length 0;nofun
 | x::a,y::b=>by
  show (vP a b).length+1=max (a.length+1) (b.length+1);rw[pE a b];nofun
theorem si{t:Rat}:∀a b:List Rat,eQ (vP a b) t=eQ a t+eQ b t
 | [],b=>by show eQ b t=0+eQ b t;grind
 | x::a,[]=>by show eQ (x::a) t=eQ (x::a) t+0;grind
 | x::a,y::b=>by
  show x+y+t*eQ (vP a b) t=x+t*eQ a t+(y+t*eQ b t);rw[si a b];grind
theorem eO.add{n:Nat}{f g:Rat->Rat}(h1:eO n f)(h2:eO n g):eO n (λx=>f x+g x):=by
 obtain⟨a,a1,a2⟩:=h1;obtain⟨b,b1,b2⟩:=h2;refine⟨vP a b,by rw[pE];nofun,λx=>?_⟩
 show f x+g x=_;rw[si,a2,b2]
theorem xF{c x:Rat}:∀l:List Rat,eQ (l.map λa=>a*c) x=eQ l x*c
 | []=>by show (0:Rat)=0*c;grind
 | a::l=>by
  show a*c+x*eQ (l.map λa=>a*c) x=(a+x*eQ l x)*c;rw[xF l];grind
theorem eO.sc{n:Nat}{f:Rat->Rat}(h:eO n f)(c:Rat):eO n (λx=>f x*c):=by
 obtain⟨a,a1,a2⟩:=h;refine⟨a.map λa=>a*c,by rw[YC];exact a1,λx=>?_⟩
 show f x*c=_;rw[xF,a2]
theorem eO.mulX{n:Nat}{f:Rat->Rat}(h:eO n f)(s:Rat):eO (n+1) (λx=>(x-s)*f x):=by
 obtain⟨a,a1,a2⟩:=h;refine⟨vP (0::a) (a.map λa=>a*(-s)),by rw[pE,YC];show max (a.length+1) a.length<=n+1;nofun,λx=>?_⟩
 rw[si,xF];show (x-s)*f x=0+x*eQ a x+eQ a x * -s;rw[a2];grind
theorem FS{f:Nat->Rat}:∀n x,fF f n x=eQ ((List.range n).map f) x
 | n,x=>by
  have key:∀n j,eQ ((List.range n).map λi=>f (j+i)) x*aO x j+fF f j x=fF f (j+n) x:=λn=>by
   induction n with
   | zero =>
    intro j;show 0*_+_=fF f j x;grind
   | succ n ih =>
    intro j;rw[List.range_succ_eq_map,YN,List.map_map];show (f (j+0)+x*eQ ((List.range n).map ((λi=>f (j+i)) ∘ Nat.succ)) x)*aO x j+fF f j x=_;have e:((λi=>f (j+i)) ∘ Nat.succ)=λi=>f (j+1+i):=by
     funext i;show f (j+(i+1))=f (j+1+i);rw[show j+(i+1)=j+1+i by nofun]
    have:=ih (j+1);rw[e,show j+(n+1)=j+1+n by nofun,<-this,kl]
    show _=_+(fF f j x+f j*aO x j);rw[Nat.add_zero];grind
  have:=key n 0;rw[Xs] at this;rw[<-this];have e:(λi=>f (0+i))=f:=by funext i;rw[Xs]
  rw[e];show _*1+0=_;grind
theorem eO.of{f:Nat->Rat}{n:Nat}(h:∀k,n<=k->f k=0)(hn:n<=20):eO n (EV f):=⟨(List.range n).map f,by simp,λx=>by rw[ii h hn,FS]⟩
section
variable {X:Cx}
def vb(K:W.Frag):V->Option Int->Option Int->Hp->VK->Prop:=λx lo hi H Q=>∃a,x=.ref a /\ ∃xs,vw K H a=some (.tup xs) /\ ¬ (HT.sIx xs.length 0 lo=0/\HT.sIx xs.length xs.length hi=xs.length)/\Nw K H (.tup (iU xs lo hi)) Q
theorem k7:yl X (vb X.K):=GX.kf.imp λ_ _ _ _ _ ⟨a,e,xs,h,n,q⟩=>⟨a,xs,e,cZ h,n,q.al⟩
end
def Ad:Nat->List Rat
 | 0=>[]
 | n+1=>((n+1:Nat):Int)::Ad n
theorem qc:∀{n:Nat}{x:Rat},x∈Ad n -> ∃m:Nat,1<=m/\m<=n/\x=((m:Int):Rat)
 | n+1,x,h=>by
  rcases Y0.mp h with rfl|h
  .exact⟨n+1,(),(),rfl⟩
  .obtain⟨m,h1,h2,h3⟩:=qc h;exact⟨m,h1,(),h3⟩
theorem yI:∀n,(Ad n).Nodup
 | 0=>List.nodup_nil
 | n+1=>by
  refine List.nodup_cons.mpr ⟨λh=>?_,yI n⟩;obtain⟨m,_,h2,h3⟩:=qc h;have:=Rat.intCast_inj.mp h3;nofun
theorem vB:∀n,(Ad n).length=n
 | 0=>rfl
 | n+1=>by show (Ad n).length+1=_;rw[vB n]
theorem qj:∀l:List Rat,(∀x,eQ l x=0) -> ∀a∈l,a=0
 | [],_,a,h=>by cases h
 | b::l,h,a,ha=>by
  have h0:b=0:=by
   have:=h 0;show b=0;have e:eQ (b::l) 0=b+0*eQ l 0:=rfl;rw[e] at this;grind
  have hl:∀x,eQ l x=0:=uP (Ad l.length) l (yI _) (by rw[vB];exact Yp _) λs hs=>by
   obtain⟨m,h1,_,rfl⟩:=qc hs;have:=h ((m:Int):Rat);have e:eQ (b::l) ((m:Int):Rat)=b+((m:Int):Rat)*eQ l ((m:Int):Rat):=rfl;rw[e,h0] at this;have c:((m:Int):Rat)≠0:=ao ();grind
  rcases Y0.mp ha with rfl|ha
  .exact h0
  .exact qj l hl a ha
theorem jT{f g:Nat->Rat}(hf:∀k,20<=k->f k=0)(hg:∀k,20<=k->g k=0)(h:∀x,EV f x=EV g x)(k:Nat):f k=g k:=by
 rcases Xt k 20 with z|z
 .have e:∀x,eQ ((List.range 20).map λk=>f k + -1*g k) x=0:=λx=>by
   rw[<-FS,sM];have h1:fF (λk=>-1*g k) 20 x = -1*fF g 20 x:=by
    have:∀n,fF (λk=>-1*g k) n x = -1*fF g n x:=λn=>by
     induction n with
     | zero=>show (0:Rat) = -1*0;grind
     | succ n ih =>
      show fF (λk=>-1*g k) n x + -1*g n*aO x n = -1*(fF g n x+g n*aO x n);rw[ih];grind
    exact this 20
   have h2:fF f 20 x=fF g 20 x:=h x;rw[h1,h2];grind
  have:=qj _ e (f k + -1*g k) (List.mem_map.mpr ⟨k,List.mem_range.mpr z,rfl⟩);grind
 .rw[hf k z,hg k z]
theorem lU{f g h:Nat->Rat}{c:Rat}:∀n,ak f (λi=>g i+c*h i) n=ak f g n+c*ak f h n
 | 0=>by show (0:Rat)=0+c*0;grind
 | n+1=>by
  show ak f (λi=>g i+c*h i) n+f n*(g n+c*h n)=ak f g n+f n*g n+c*(ak f h n+f n*h n);rw[lU n];grind
theorem vC{x:Rat}(i:Nat):∀j,aO x (i+j)=aO x i*aO x j
 | 0=>by show aO x i=aO x i*1;grind
 | j+1=>by
  show aO x (i+j)*x=aO x i*(aO x j*x);rw[vC i j];grind
end L2
namespace L2
open PySem
abbrev Om:=List Bool->Int
def wg:Nat->(Nat->Int)->Om->Om
 | 0,_,_=>λ_=>0
 | m+1,v,o=>λl=>match l with
  | []=>0
  | false::l=>wg m v (λk=>o (false::k)) l
  | true::l=>v m*o (false::l)-wg m v (λk=>o (true::k)) l
theorem kN{m:Nat}{v:Nat->Int}{o:Om}{l:List Bool}:wg (m+1) v o (false::l)=wg m v (λk=>o (false::k)) l:=rfl
theorem kr{m:Nat}{v:Nat->Int}{o:Om}{l:List Bool}:wg (m+1) v o (true::l)=v m*o (false::l)-wg m v (λk=>o (true::k)) l:=rfl
theorem mM{v:Nat->Int}{a b:Int}:∀(m:Nat)(o p:Om)(l:List Bool),wg m v (λk=>a*o k+b*p k) l=a*wg m v o l+b*wg m v p l
 | 0,o,p,l=>by show (0:Int)=a*0+b*0;rw[Xo,Xo];rfl
 | m+1,o,p,[]=>by show (0:Int)=a*0+b*0;rw[Xo,Xo];rfl
 | m+1,o,p,false::l=>by
  rw[kN,kN,kN];exact mM m _ _ l
 | m+1,o,p,true::l=>by
  rw[kr,kr,kr,mM m (λk=>o (true::k)) (λk=>p (true::k)) l];grind
theorem j9{v:Nat->Int}:∀(m:Nat)(o:Om)(l:List Bool),(∀k,o k=0)->wg m v o l=0
 | 0,o,l,h=>rfl
 | m+1,o,[],h=>rfl
 | m+1,o,false::l,h=>by rw[kN];exact j9 m _ l λk=>h _
 | m+1,o,true::l,h=>by rw[kr,h,j9 m _ l λk=>h _];nofun
theorem ga{v:Nat->Int}{m:Nat}{o p:Om}(h:∀k,o k=p k)(l:List Bool):wg m v o l=wg m v p l:=by
 have:o=p:=funext h;rw[this]
theorem jR{u v:Nat->Int}{a b:Int}:∀(m:Nat)(o:Om)(l:List Bool),wg m (λi=>a*u i+b*v i) o l=a*wg m u o l+b*wg m v o l
 | 0,o,l=>by show (0:Int)=a*0+b*0;rw[Xo,Xo];rfl
 | m+1,o,[]=>by show (0:Int)=a*0+b*0;rw[Xo,Xo];rfl
 | m+1,o,false::l=>by
  rw[kN,kN,kN];exact jR m _ l
 | m+1,o,true::l=>by
  rw[kr,kr,kr,jR m _ l];grind
theorem iu{v:Nat->Int}:∀(m:Nat)(o:Om)(l:List Bool),(∀i,i<m->v i=0)->wg m v o l=0
 | 0,o,l,h=>rfl
 | m+1,o,[],h=>rfl
 | m+1,o,false::l,h=>by rw[kN];exact iu m _ l λi hi=>h i ()
 | m+1,o,true::l,h=>by rw[kr,h m (),iu m _ l λi hi=>h i ()];nofun
theorem ka{u v:Nat->Int}:∀(m:Nat)(o:Om)(l:List Bool),wg m u (wg m v o) l = - wg m v (wg m u o) l
 | 0,o,l=>rfl
 | m+1,o,[]=>rfl
 | m+1,o,false::l=>by
  rw[kN,kN];exact ka m (λk=>o (false::k)) l
 | m+1,o,true::l=>by
  rw[kr,kr,kN,kN];have e1:=mM (v:=u) (a:=v m) (b:=-1) m (λk=>o (false::k)) (wg m v λk=>o (true::k)) l;have e2:=mM (v:=v) (a:=u m) (b:=-1) m (λk=>o (false::k)) (wg m u λk=>o (true::k)) l;have f1:wg m u (λk=>wg (m+1) v o (true::k)) l=wg m u (λk=>v m*o (false::k) + -1*wg m v (λk=>o (true::k)) k) l:=ga (λk=>by rw[kr];nofun) l
  have f2:wg m v (λk=>wg (m+1) u o (true::k)) l=wg m v (λk=>u m*o (false::k) + -1*wg m u (λk=>o (true::k)) k) l:=ga (λk=>by rw[kr];nofun) l
  have s:=ka (u:=u) (v:=v) m (λk=>o (true::k)) l;rw[f1,f2,e1,e2];grind
theorem y7{v:Nat->Int}(m:Nat)(o:Om)(l:List Bool):wg m v (wg m v o) l=0:=by
 have:=ka (u:=v) (v:=v) m o l;nofun
section
variable (W:Nat->Int)
def lW(i:Nat):Nat->Int:=λj=>W (i+j)
def wZ:Om:=λl=>if l.all (λb=>!b) then 1 else 0
def om(m:Nat):Nat->Om
 | 0=>wZ
 | k+1=>wg m (lW W k) (om m k)
def vK:Nat->List Bool
 | 0=>[]
 | m+1=>true::vK m
def kh(j:Nat):Nat->Int:=λi=>if i=j then 1 else 0
def qk(k j:Nat):Int:=wg (k+1) (kh j) (om W (k+1) k) (vK (k+1))
def Dk(k:Nat):Int:=om W k k (vK k)
def Lq(k i:Nat):Int:=wg (k+1) (lW W i) (om W (k+1) k) (vK (k+1))
end
variable {W:Nat->Int}
theorem vj(m:Nat):∀(k:Nat)(l:List Bool),om W (m+1) k (false::l)=om W m k l
 | 0,l=>by simp[om,wZ]
 | k+1,l=>by
  show wg (m+1) (lW W k) (om W (m+1) k) (false::l)=wg m (lW W k) (om W m k) l;rw[kN];exact ga (λj=>vj m k j) l
theorem yX(m:Nat):∀(k i:Nat)(l:List Bool),i<k->wg m (lW W i) (om W m k) l=0
 | 0,i,l,h=>by nofun
 | k+1,i,l,h=>by
  show wg m (lW W i) (wg m (lW W k) (om W m k)) l=0;by_cases e:i=k
  .rw[e];exact y7 m _ l
  .rw[ka,j9 m _ l λj=>yX m k i j ()];rfl
theorem zt:Dk W 0=1:=rfl
theorem fi(k:Nat):qk W k k=Dk W k:=by
 show wg (k+1) (kh k) (om W (k+1) k) (true::vK k)=om W k k (vK k);rw[kr,vj,iu (v:=kh k) k _ _ λi hi=>Yc ()];show (if k=k then (1:Int) else 0)*_-0=_
 rw[Yb rfl];nofun
theorem du{k j:Nat}(h:k<j):qk W k j=0:=iu _ _ _ λi hi=>Yc ()
theorem gh{k i:Nat}(h:i<k):Lq W k i=0:=yX _ k i _ h
theorem fb(k:Nat):Lq W k k=Dk W (k+1):=rfl
def b9(f:Nat->Int):Nat->Int
 | 0=>0
 | n+1=>b9 f n+f n
theorem fA{f g:Nat->Int}:∀n,(∀i,i<n->f i=g i)->b9 f n=b9 g n
 | 0,_=>rfl
 | n+1,h=>by
  show b9 f n+f n=b9 g n+g n;rw[fA n λi hi=>h i (),h n ()]
theorem fQ{f:Nat->Int}:∀n,(∀i,i<n->f i=0)->b9 f n=0
 | 0,_=>rfl
 | n+1,h=>by
  show b9 f n+f n=0;rw[fQ n λi hi=>h i (),h n ()];rfl
theorem rM{f:Nat->Int}{n:Nat}(h:∀i,n<=i->f i=0):∀m,b9 f (n+m)=b9 f n
 | 0=>rfl
 | m+1=>by
  show b9 f (n+m)+f (n+m)=b9 f n;rw[rM h m,h (n+m) ()];nofun
theorem gT{f:Nat->Int}{j:Nat}:∀n,(∀i,i<n->i≠j->f i=0)->j<n->b9 f n=f j
 | 0,_,h=>by nofun
 | n+1,h,hj=>by
  show b9 f n+f n=f j;by_cases e:j=n
  .rw[fQ n λi hi=>h i () (),e];nofun
  .rw[gT n (λi hi hn=>h i () hn) (),h n () ()];nofun
theorem mQ{v:Nat->Int}{M:Nat}{o:Om}{l:List Bool}:∀n,wg M (λi=>b9 (λj=>v j*kh j i) n) o l=b9 (λj=>v j*wg M (kh j) o l) n
 | 0=>iu _ _ _ λi _=>rfl
 | n+1=>by
  have e:=jR (u:=λi=>b9 (λj=>v j*kh j i) n) (v:=kh n) (a:=1) (b:=v n) M o l;have f:(λi=>b9 (λj=>v j*kh j i) (n+1))=λi=>1*b9 (λj=>v j*kh j i) n+v n*kh n i:=funext λi=>by
   show b9 _ n+v n*kh n i=_;rw[Xu]
  rw[f,e,mQ n];show _=b9 _ n+v n*_;rw[Xu]
theorem tU(k i:Nat):Lq W k i=b9 (λj=>W (i+j)*qk W k j) (k+1):=by
 unfold Lq qk;rw[<-mQ (v:=λj=>W (i+j)) (M:=k+1)];have:∀m (o:Om)(l:List Bool)(u v:Nat->Int),(∀i,i<m->u i=v i)->wg m u o l=wg m v o l:=λm o l u v h=>by
  have e:=jR (u:=u) (v:=v) (a:=1) (b:=-1) m o l;rw[iu m o l λi hi=>by rw[h i hi];nofun] at e
  nofun
 refine this _ _ _ _ _ λc hc=>?_;show W (i+c)=_;rw[gT (j:=c) (k+1) (λj _ hj=>by unfold kh;rw[Yc (λz=>hj z.symm),Xo]) hc]
 unfold kh;rw[Yb rfl,Int.mul_one]
end L2
namespace L2
open PySem
variable {W:Nat->Int}
theorem fY{f:Nat->Int}{a:Int}:∀n,b9 (λi=>a*f i) n=a*b9 f n
 | 0=>by show (0:Int)=a*0;rw[Xo]
 | n+1=>by
  show b9 (λi=>a*f i) n+a*f n=a*(b9 f n+f n);rw[fY n];grind
theorem jU{f g:Nat->Int}:∀n,b9 (λi=>f i+g i) n=b9 f n+b9 g n
 | 0=>rfl
 | n+1=>by
  show b9 (λi=>f i+g i) n+(f n+g n)=(b9 f n+f n)+(b9 g n+g n);rw[jU n];nofun
theorem qO{f:Nat->Nat->Int}(M:Nat):∀N,b9 (λi=>b9 (λj=>f i j) M) N=b9 (λj=>b9 (λi=>f i j) N) M
 | 0=>by
  show (0:Int)=b9 (λj=>b9 (λi=>f i j) 0) M;exact (fQ (f:=λj=>b9 (λi=>f i j) 0) M λi _=>rfl).symm
 | N+1=>by
  show b9 _ N+b9 (λj=>f N j) M=b9 (λj=>b9 (λi=>f i j) N+f N j) M;rw[qO M N,jU]
def LL(W:Nat->Int)(p:Nat->Int)(N i:Nat):Int:=b9 (λj=>W (i+j)*p j) N
theorem qE(k i:Nat):LL W (qk W k) (k+1) i=Lq W k i:=(tU k i).symm
theorem yn{p:Nat->Int}{n i:Nat}(h:∀j,n<=j->p j=0)(m:Nat):LL W p (n+m) i=LL W p n i:=rM (λj hj=>by rw[h j hj,Xo]) m
theorem yE{a d:Nat->Int}{N M:Nat}:b9 (λi=>a i*LL W d M i) N=b9 (λj=>d j*LL W a N j) M:=by
 have e1:b9 (λi=>a i*LL W d M i) N=b9 (λi=>b9 (λj=>a i*(W (i+j)*d j)) M) N:=fA N λi _=>(fY M).symm;have e2:b9 (λj=>d j*LL W a N j) M=b9 (λj=>b9 (λi=>a i*(W (i+j)*d j)) N) M:=fA M λj _=>by
  unfold LL;rw[<-fY];exact fA N λi _=>by rw[YL j i];grind
 rw[e1,e2];exact qO M N
theorem EZ{d:Nat->Int}{k M:Nat}(hM:k+1<=M)(hD:∀i,i<=k+1->Dk W i≠0)(h0:∀i,i<=k->LL W d M i=0)(hd:∀j,k<j->d j=0):∀j,d j=0:=by
 have down:∀n,n<=k+1 -> ∀j,k+1-n<=j->d j=0:=by
  intro n;induction n with
  | zero=>exact λ_ j hj=>hd j ()
  | succ n ih =>
   intro hn j hj;have ihn:=ih ();by_cases e:j=k-n
   .have hz:b9 (λi=>qk W (k-n) i*LL W d M i) (k-n+1)=0:=fQ _ λi hi=>by rw[h0 i (),Xo]
    rw[yE,gT (j:=k-n) M (λi hi hne=>?_) (),qE,fb] at hz
    .rcases Int.mul_eq_zero.mp hz with z|z
     .rw[e];exact z
     .exact absurd z (hD _ ())
    .by_cases hlt:i<k-n
     .show d i*LL W (qk W (k-n)) (k-n+1) i=0;rw[qE,gh hlt,Xo]
     .show d i*LL W (qk W (k-n)) (k-n+1) i=0;rw[ihn i (),Int.zero_mul]
   .exact ihn j ()
 exact λj=>down (k+1) (Yp _) j ()
def Aa(p:Nat->Int):Nat->Int
 | 0=>0
 | j+1=>p j
theorem FZ{p:Nat->Int}{i:Nat}:∀N,LL W (Aa p) (N+1) i=LL W p N (i+1)
 | 0=>by
  show (0:Int)+W (i+0)*0=0;rw[Xo];rfl
 | N+1=>by
  show LL W (Aa p) (N+1) i+W (i+(N+1))*p N=LL W p N (i+1)+W (i+1+N)*p N;rw[FZ N,show i+(N+1)=i+1+N by nofun]
theorem AR{n:Nat}(hD:Dk W (n+1)≠0):qk W (n+1) n = - Lq W n (n+1):=by
 have h1:b9 (λi=>qk W n i*LL W (qk W (n+1)) (n+2) i) (n+1)=0:=fQ _ λi hi=>by rw[qE,gh (),Xo]
 rw[yE] at h1;have h2:b9 (λj=>qk W (n+1) j*LL W (qk W n) (n+1) j) (n+2)=qk W (n+1) n*Dk W (n+1)+qk W (n+1) (n+1)*Lq W n (n+1):=by
  show b9 (λj=>qk W (n+1) j*LL W (qk W n) (n+1) j) (n+1)+qk W (n+1) (n+1)*LL W (qk W n) (n+1) (n+1)=_;rw[gT (j:=n) (n+1) (λi hi hne=>by rw[qE,gh (),Xo]) (),qE,qE,fb]
 rw[h2,fi] at h1;have h3:Dk W (n+1)*(qk W (n+1) n+Lq W n (n+1))=0:=⋯;rcases Int.mul_eq_zero.mp h3 with z|z
 .exact absurd z hD
 .nofun
def nY(W:Nat->Int):Nat->Int
 | 0=>Dk W 0*Lq W 0 1
 | n+1=>Dk W (n+1)*Lq W (n+1) (n+2)+Dk W (n+2)*qk W (n+1) n
def mJ(W:Nat->Int):Nat->Nat->Int
 | 0,_=>0
 | n+1,j=>qk W n j
def IQ(W:Nat->Int):Nat->Nat->Int
 | 0,_=>0
 | n+1,i=>Lq W n i
theorem GA(k i:Nat):LL W (mJ W k) (k+2) i=IQ W k i:=by
 cases k with
 | zero=>exact fQ _ λj _=>Xo _
 | succ n =>
  show LL W (qk W n) (n+1+2) i=Lq W n i;rw[yn λj hj=>du (),qE]
theorem CO{k:Nat}(hD:∀i,i<=k+1->Dk W i≠0)(j:Nat) :
  Dk W k*Dk W (k+1)*Aa (qk W k) j-nY W k*qk W k j-Dk W (k+1)*Dk W (k+1)*mJ W k j=Dk W k*Dk W k*qk W (k+1) j:=by
 obtain⟨d,hd⟩ : ∃d:Nat->Int,d=λj=>(Dk W k*Dk W (k+1))*Aa (qk W k) j+(-1)*(nY W k*qk W k j+(Dk W (k+1)*Dk W (k+1)*mJ W k j+Dk W k*Dk W k*qk W (k+1) j)):=⟨_,rfl⟩;have z:∀j,d j=0:=by
  refine EZ (k:=k) (M:=k+2) () hD (λi hi=>?_) (λj hj=>?_)
  .have e:LL W d (k+2) i=Dk W k*Dk W (k+1)*Lq W k (i+1)-nY W k*Lq W k i-Dk W (k+1)*Dk W (k+1)*IQ W k i-Dk W k*Dk W k*Lq W (k+1) i:=by
    have f:LL W d (k+2) i=(Dk W k*Dk W (k+1))*LL W (Aa (qk W k)) (k+2) i+(-1)*(nY W k*LL W (qk W k) (k+2) i+(Dk W (k+1)*Dk W (k+1)*LL W (mJ W k) (k+2) i+Dk W k*Dk W k*LL W (qk W (k+1)) (k+2) i)):=by
     unfold LL;rw[<-fY,<-fY,<-fY,<-fY,<-jU,<-jU,<-fY,<-jU];refine fA _ λj _=>?_;rw[hd];grind
    have m:LL W (qk W k) (k+2) i=Lq W k i:=by
     have:=yn (W:=W) (p:=qk W k) (n:=k+1) (i:=i) (λj hj=>du ()) 1;rw[qE] at this;exact this
    rw[f,FZ,qE,m,GA,qE];grind
   rw[e,gh (k:=k+1) ()];by_cases e1:i=k
   .subst e1;cases i with
    | zero =>
     show Dk W 0*Dk W 1*Lq W 0 1-Dk W 0*Lq W 0 1*Lq W 0 0-Dk W 1*Dk W 1*0-Dk W 0*Dk W 0*0=0;rw[fb];grind
    | succ n =>
     show Dk W (n+1)*Dk W (n+2)*Lq W (n+1) (n+2)-(Dk W (n+1)*Lq W (n+1) (n+2)+Dk W (n+2)*qk W (n+1) n)*Lq W (n+1) (n+1)-Dk W (n+2)*Dk W (n+2)*Lq W n (n+1)-Dk W (n+1)*Dk W (n+1)*0=0;rw[fb,AR (hD _ ())];grind
   .cases k with
    | zero=>nofun
    | succ n =>
     rw[gh (k:=n+1) (i:=i) ()];show Dk W (n+1)*Dk W (n+2)*Lq W (n+1) (i+1)-nY W (n+1)*0-Dk W (n+2)*Dk W (n+2)*Lq W n i-Dk W (n+1)*Dk W (n+1)*0=0;by_cases e2:i=n
     .rw[e2,fb,fb];grind
     .rw[gh (k:=n+1) (),gh (k:=n) ()];grind
  .have b0:mJ W k j=0:=by
    cases k with
    | zero=>rfl
    | succ n=>exact du ()
   rw[hd];show Dk W k*Dk W (k+1)*Aa (qk W k) j + -1*(nY W k*qk W k j+(Dk W (k+1)*Dk W (k+1)*mJ W k j+Dk W k*Dk W k*qk W (k+1) j))=0;rw[b0,du hj];obtain⟨j',rfl⟩ : ∃j',j=j'+1:=⟨j-1,()⟩;show Dk W k*Dk W (k+1)*qk W k j'+_=0;by_cases e:j'=k
   .rw[e,fi,fi];grind
   .rw[du (k:=k) (j:=j') (),du (k:=k+1) ()];grind
 have:=z j;rw[hd] at this;dsimp only at this;grind
theorem pF{v:Nat->Int}{B C:Nat}(hv:∀i,(v i).natAbs<=B):∀(m:Nat)(o:Om)(l:List Bool),(∀k,(o k).natAbs<=C)->(wg m v o l).natAbs<=m*(B*C)
 | 0,o,l,h=>by simp[wg]
 | m+1,o,[],h=>by simp[wg]
 | m+1,o,false::l,h=>by
  rw[kN];have:=pF hv m (λk=>o (false::k)) l λk=>h _;rw[Xr];nofun
 | m+1,o,true::l,h=>by
  rw[kr];have h1:=pF hv m (λk=>o (true::k)) l λk=>h _;have h2:(v m*o (false::l)).natAbs<=B*C:=by rw[YW];exact Xq (hv m) (h _)
  have h3:=Int.natAbs_sub_le (v m*o (false::l)) (wg m v (λk=>o (true::k)) l);rw[Xr];nofun
theorem Bv{B m:Nat}(hW:∀i,(W i).natAbs<=B):∀k l,(om W m k l).natAbs<=(m*B)^k
 | 0,l=>by
  show (if _ then (1:Int) else 0).natAbs<=1
  split<;>decide
 | k+1,l=>by
  have:=pF (v:=lW W k) (B:=B) (C:=(m*B)^k) (λi=>hW _) m (om W m k) l (Bv hW k);rw[Nat.pow_succ,YM,Nat.mul_assoc];exact this
theorem rX{B k:Nat}(hW:∀i,(W i).natAbs<=B)(j:Nat):(qk W k j).natAbs<=(k+1)*((k+1)*B)^k:=by
 have:=pF (v:=kh j) (B:=1) (C:=((k+1)*B)^k) (λi=>by unfold kh;split<;>decide) (k+1) (om W (k+1) k) (vK (k+1)) (Bv hW k)
 rw[Nat.one_mul] at this;exact this
end L2
namespace L2
open PySem PySem.Spec PyProof.Rows
def IL(G:Hp)(a:Addr)(n:Nat)(p:Nat->Int):Prop:=G a=some (.lst (lz n λi=>V.int (p i)))
theorem IL.same{G G':Hp}{a:Addr}{n:Nat}{p:Nat->Int}(h:IL G a n p)(S:aB G G'):IL G' a n p:=S _ _ h
theorem IL.len{G:Hp}{a:Addr}{n:Nat}{p:Nat->Int}(h:IL G a n p):dJ G a=some n:=by
 unfold IL at h;simp only[dJ,h];rw[bH]
theorem pJ{α:Type}{n:Nat}{h:Nat->α}{xs:List α}(hl:xs.length=n)(he:∀i,i<n->xs[i]? = some (h i)):xs=lz n h:=by
 refine Xl λi=>?_;by_cases hi:i<n
 .rw[he i hi,dF hi]
 .rw[Xj (),Xj (by rw[bH];nofun)]
theorem EJ{α:Type}{n k:Nat}{h:Nat->α}:(lz n h).drop k=lz (n-k) λi=>h (k+i) :=
 pJ (by rw[YE,bH]) λi hi=>by rw[Xn,dF ()]
theorem Im{α β:Type}{m n:Nat}{f:Nat->α}{g:Nat->β}(h:m<=n):(lz m f).zip (lz n g)=lz m λi=>(f i,g i) :=
 pJ (by rw[List.length_zip,bH,bH];nofun) λi hi=>by
  rw[List.getElem?_zip_eq_some];exact⟨dF hi,dF ()⟩
theorem lA{α:Type}{n:Nat}{h:Nat->α}:lz (n+1) h=lz n h++[h n]:=by simp[lz,List.range_succ]
theorem oA{α:Type}{n:Nat}{h:Nat->α}:lz (n+1) h=h 0::lz n λi=>h (i+1) :=
 (pJ (by simp[bH]) λi hi=>by
  cases i with
  | zero=>rfl
  | succ i =>
   rw[List.getElem?_cons_succ];exact dF ()).symm
theorem xV{f:Nat->Int}:∀n,kW (lz n f)=b9 f n
 | 0=>rfl
 | n+1=>by
  rw[lA,pK,xV n];show _+(f n+0)=b9 f n+f n;nofun
theorem Hy{α:Type}{n k:Nat}{h:Nat->α}(hk:k<n):nK (lz n h) (k:Int)=some (h k):=bO (dF hk)
theorem oo{α:Type}{n:Nat}{h:Nat->α}:nK (lz (n+1) h) (-1)=some (h n):=dX (by rw[lA];simp)
theorem CV{α:Type}{n:Nat}{h:Nat->α}:nK (lz (n+2) h) (-2)=some (h n):=by
 unfold nK ww;rw[bH,Yc ∅,Yb ()];have e:((-2:Int)+((n+2:Nat):Int)).toNat=n:=();show (lz (n+2) h)[((-2:Int)+((n+2:Nat):Int)).toNat]? = some (h n);rw[e,dF ()]
theorem Bt.of_le{n m:Nat}{x:Int}(h:x.natAbs<=2^n)(hn:n<m):Bt m x:=by
 unfold Bt;exact Xv h (Nat.pow_lt_pow_right ∅ hn)
theorem lS{W:Nat->Int}{b k j:Nat}(hW:∀i,Bt b (W i))(hk:k<=5):Bt (5*b+19) (qk W k j):=by
 have h:=rX (W:=W) (B:=2^b) (k:=k) (λi=>Yh (hW i)) j;refine Bt.of_le (n:=5*b+18) (Yg h ?_) ();have h1:(k+1)*2^b<=2^(b+3):=by
  rw[YX,YM];exact Xw _ ()
 have h2:((k+1)*2^b)^k<=2^(5*b+15):=by
  refine Yg (Nat.pow_le_pow_left h1 k) ?_;rw[<-Nat.pow_mul];refine YV ∅ ?_;have:(b+3)*k<=(b+3)*5:=Xw _ hk;nofun
 have h3:(2:Nat)^(5*b+18)=8*2^(5*b+15):=by
  rw[show 5*b+18=(5*b+15)+3 by nofun,YX]
  nofun
 rw[h3];exact Xq () h2
theorem yR{f:Nat->Int}{b:Nat}(h:∀i,Bt b (f i)):∀n,Bt (b+n) (b9 f n)
 | 0=>by
  show Bt (b+0) 0;unfold Bt;exact Nat.pow_pos ∅
 | n+1=>by
  have h1:=yR h n;have h2:=h n;unfold Bt at h1 h2 ⊢;have e:(2:Nat)^(b+(n+1))=2^(b+n)+2^(b+n):=by rw[<-Xx,Nat.pow_succ];nofun
  have e2:(2:Nat)^b<=2^(b+n):=YV ∅ ();have h3:=Int.natAbs_add_le (b9 f n) (f n);show (b9 f n+f n).natAbs<_;nofun
theorem xT{W:Nat->Int}{b k i:Nat}(hW:∀i,Bt b (W i))(hk:k<=5):Bt (6*b+26) (Lq W k i):=by
 rw[tU];refine (yR (b:=b+(5*b+19)) (λj=>(hW _).mul (lS hW hk)) (k+1)).mono ()
theorem lE{W:Nat->Int}{b k:Nat}(hW:∀i,Bt b (W i))(hk:k<=6):Bt (6*b+26) (Dk W k):=by
 cases k with
 | zero =>
  rw[zt];unfold Bt;exact Yd (by decide:(1:Int).natAbs<2^1) (YV ∅ ())
 | succ k=>rw[<-fb];exact xT hW ()
theorem ik{D n:Int}{a:Nat}{q:Int×Int}(hq:Fq q)(e:wv q=(n:Rat)/(D:Rat))(hD:D≠0)(h1:Bt a n)(h2:Bt a D):Bq a q:=by
 rw[gY hq (ie hD) (by rw[ig hD,e])]
 exact nF hD h1 h2
theorem IN{D E:Int}{a b:Nat}{f g:Nat->Rat}(hD:D≠0)(hE:E≠0)(h1:Ob D a f)(h2:Ob E b g)(j l:Nat):Ob (D*E) (a+b+j+1) (λk=>qr f g j l k):=by
 have hp:=Ob.pr hD hE h1 h2 j;have hx:Ob (D*E) (a+b) (λk=>if j<=k/\k-j<l then f j*g (k-j) else 0):=λk=>by
  by_cases hc:j<=k/\k-j<l
  .obtain⟨m,e1,b1⟩:=h1 j;obtain⟨n,e2,b2⟩:=h2 (k-j);refine⟨m*n,?_,b1.mul b2⟩;show (if _ then _ else _)=_
   rw[Yb hc,e1,e2,Xe,Xe];have n1:(D:Rat)≠0:=ao hD;have n2:(E:Rat)≠0:=ao hE;grind
  .refine⟨0,?_,by unfold Bt;exact Nat.pow_pos ∅⟩
   show (if _ then _ else _)=_
   rw[Yc hc];have:((0:Int):Rat)=0:=rfl;rw[this];grind
 exact (Ob.add hp hx).mono ()
theorem sC{D E:Int}{a b:Nat}{f g:Nat->Rat}(hD:D≠0)(hE:E≠0)(h1:Ob D a f)(h2:Ob E b g):∀j,∃n:Int,ak f g j=(n:Rat)/((D*E:Int):Rat)/\Bt (a+b+j) n
 | 0=>⟨0,by
   show (0:Rat)=_;have:((0:Int):Rat)=0:=rfl;rw[this];grind,by unfold Bt;exact Nat.pow_pos ∅⟩
 | j+1=>by
  obtain⟨n,e,bn⟩:=sC hD hE h1 h2 j;obtain⟨x,e1,b1⟩:=h1 j;obtain⟨y,e2,b2⟩:=h2 j;refine⟨n+x*y,?_,?_⟩
  .show ak f g j+f j*g j=_;rw[e,e1,e2,Xd,Xe,Xe];have n1:(D:Rat)≠0:=ao hD;have n2:(E:Rat)≠0:=ao hE;grind
  .have h3:=Bt.mul b1 b2;unfold Bt at bn h3 ⊢;have e3:(2:Nat)^(a+b+(j+1))=2^(a+b+j)+2^(a+b+j):=by rw[<-Xx,Nat.pow_succ];nofun
   have e4:(2:Nat)^(a+b)<=2^(a+b+j):=YV ∅ ();have h4:=Int.natAbs_add_le n (x*y);nofun
theorem jS{f g h:Nat->Rat}:∀n,ak (λi=>f i+g i) h n=ak f h n+ak g h n
 | 0=>by show (0:Rat)=0+0;grind
 | n+1=>by
  show ak (λi=>f i+g i) h n+(f n+g n)*h n=(ak f h n+f n*h n)+(ak g h n+g n*h n);rw[jS n];grind
theorem aW{f h:Nat->Rat}:∀n,(∀i,i<n->f i*h i=0)->ak f h n=0
 | 0,_=>rfl
 | n+1,hz=>by
  show ak f h n+f n*h n=0;rw[aW n λi hi=>hz i (),hz n ()];grind
theorem dR{f h:Nat->Rat}{n:Nat}(hz:∀i,n<=i->f i*h i=0):∀m,ak f h (n+m)=ak f h n
 | 0=>rfl
 | m+1=>by
  show ak f h (n+m)+f (n+m)*h (n+m)=ak f h n;rw[dR hz m,hz (n+m) ()];grind
theorem mz{g h:Nat->Rat}{c:Rat}{n:Nat}:∀N,ak (λm=>if n<=m then c*g (m-n) else 0) h N=c*ak g (λj=>h (n+j)) (N-n)
 | 0=>by
  rw[Nat.zero_sub];show (0:Rat)=c*0;grind
 | N+1=>by
  show ak (λm=>if n<=m then c*g (m-n) else 0) h N+(if n<=N then c*g (N-n) else 0)*h N=_
  rw[mz N];by_cases e:n<=N
  .rw[Yb e,show N+1-n=(N-n)+1 by nofun]
   show _=c*(ak g (λj=>h (n+j)) (N-n)+g (N-n)*h (n+(N-n)));rw[show n+(N-n)=N by nofun]
   grind
  .rw[Yc e,show N+1-n=0 by nofun,show N-n=0 by nofun]
   show c*0+0*h N=c*0;grind
theorem tK{f g h:Nat->Rat}{N:Nat}:∀n,ak (λm=>pr f g n m) h N=ak f (λi=>ak g (λj=>h (i+j)) (N-i)) n
 | 0=>aW N λi _=>by
  show (0:Rat)*h i=0;grind
 | n+1=>by
  have e:(λm=>pr f g (n+1) m)=λm=>pr f g n m+if n<=m then f n*g (m-n) else 0:=rfl
  rw[e,jS,tK n,mz];rfl
theorem sQ{F G:Nat->Rat}{f g:Nat->Int}{c d:Rat}(hc:c≠0)(hd:d≠0)(hF:∀i,F i=((f i:Int):Rat)/c)(hG:∀i,G i=((g i:Int):Rat)/d):∀n,ak F G n=((b9 (λi=>g i*f i) n:Int):Rat)/(c*d)
 | 0=>by
  show (0:Rat)=((0:Int):Rat)/(c*d);have:((0:Int):Rat)=0:=rfl;rw[this];grind
 | n+1=>by
  show ak F G n+F n*G n=((b9 (λi=>g i*f i) n+g n*f n:Int):Rat)/(c*d);rw[sQ hc hd hF hG n,hF n,hG n,Xd,Xe];grind
section
variable {W:Nat->Int}{B:Int}{k:Nat}{P S:Nat->Rat}
theorem gS(hD:Dk W k≠0)(hB:B≠0)(hP:∀j,P j=((qk W k j:Int):Rat)/((Dk W k:Int):Rat))(hS:∀i,((W i:Int):Rat)=S i*(B:Rat))(i:Nat):ak P (λj=>S (i+j)) (k+1)=((Lq W k i:Int):Rat)/(((Dk W k:Int):Rat)*(B:Rat)):=by
 have cB:(B:Rat)≠0:=ao hB;rw[sQ (f:=qk W k) (g:=λj=>W (i+j)) (c:=((Dk W k:Int):Rat)) (d:=(B:Rat)) (ao hD) cB hP (λj=>by have:=hS (i+j);grind),<-tU]
theorem Fv(hD:Dk W k≠0)(hB:B≠0)(hP:∀j,P j=((qk W k j:Int):Rat)/((Dk W k:Int):Rat))(hS:∀i,((W i:Int):Rat)=S i*(B:Rat)) {N:Nat}(hN:2*k+1<=N):ak (λm=>pr P P (k+1) m) S N=((Dk W (k+1):Int):Rat)/((Dk W k*B:Int):Rat):=by
 have cB:(B:Rat)≠0:=ao hB;have cD:((Dk W k:Int):Rat)≠0:=ao hD;rw[tK];have e1:ak P (λi=>ak P (λj=>S (i+j)) (N-i)) (k+1)=ak P (λi=>((Lq W k i:Int):Rat)/(((Dk W k:Int):Rat)*(B:Rat))) (k+1):=aD (k+1) (λi _=>rfl) λi hi=>by
  rw[<-gS hD hB hP hS i];have:=dR (f:=P) (h:=λj=>S (i+j)) (n:=k+1) (λj hj=>by
   have z:((0:Int):Rat)=0:=rfl;rw[hP j,du (),z];grind) (N-i-(k+1))
  rw[show k+1+(N-i-(k+1))=N-i by nofun] at this
  exact this
 rw[e1,sQ (f:=qk W k) (g:=Lq W k) (c:=((Dk W k:Int):Rat)) (d:=((Dk W k:Int):Rat)*(B:Rat)) cD ⋯ hP λi=>rfl];rw[gT (j:=k) (k+1) (λi hi hne=>by rw[gh (),Int.zero_mul]) (),fb,fi,Xe,Xe]
 grind
end
theorem lN{f g h:Nat->Rat}:∀n,ak f (λi=>g i+h i) n=ak f g n+ak f h n
 | 0=>by show (0:Rat)=0+0;grind
 | n+1=>by
  show ak f (λi=>g i+h i) n+f n*(g n+h n)=(ak f g n+f n*g n)+(ak f h n+f n*h n);rw[lN n];grind
theorem iW{f h:Nat->Rat}{c:Rat}:∀n,ak (λi=>c*f i) h n=c*ak f h n
 | 0=>by show (0:Rat)=c*0;grind
 | n+1=>by
  show ak (λi=>c*f i) h n+(c*f n)*h n=c*(ak f h n+f n*h n);rw[iW n];grind
theorem uL{f h:Nat->Rat}{c:Rat}:∀n,ak f (λi=>c*h i) n=c*ak f h n
 | 0=>by show (0:Rat)=c*0;grind
 | n+1=>by
  show ak f (λi=>c*h i) n+f n*(c*h n)=c*(ak f h n+f n*h n);rw[uL n];grind
def ip(S u v:Nat->Rat)(m n:Nat):Rat:=ak u (λi=>ak v (λj=>S (i+j)) n) m
theorem dC{S u v:Nat->Rat}{n:Nat}:∀m,ip S u v m n=ip S v u n m
 | 0=>by
  unfold ip;show (0:Rat)=ak v (λj=>0) n;rw[aW n λi _=>by grind]
 | m+1=>by
  have h:=dC (S:=S) (u:=u) (v:=v) (n:=n) m;unfold ip at h ⊢;show ak u (λi=>ak v (λj=>S (i+j)) n) m+u m*ak v (λj=>S (m+j)) n=ak v (λi=>ak u (λj=>S (i+j)) m+u m*S (i+m)) n;rw[lN,uL,h];congr 2
  exact aD n (λ_ _=>rfl) λi _=>by rw[YL]
def ku(a:Nat->Rat)(P:Nat->Nat->Rat):Nat->Nat->Rat
 | 0,_=>0
 | n+1,j=>ku a P n j+a n*P n j
theorem qS{a b:Nat->Rat}{P Q:Nat->Nat->Rat}{j:Nat}:∀n,(∀k,k<n->a k=b k/\P k j=Q k j)->ku a P n j=ku b Q n j
 | 0,_=>rfl
 | n+1,h=>by
  show ku a P n j+a n*P n j=ku b Q n j+b n*Q n j;rw[qS n λk hk=>h k (),(h n ()).1,(h n ()).2]
theorem zc{a:Nat->Rat}{P:Nat->Nat->Rat}{h:Nat->Rat}{m:Nat}:∀K,ak (ku a P K) h m=ak a (λk=>ak (P k) h m) K
 | 0=>aW m λi _=>by show (0:Rat)*h i=0;grind
 | K+1=>by
  have e:ku a P (K+1)=λj=>ku a P K j+(λj=>a K*P K j) j:=rfl;rw[e,jS,zc K,iW];rfl
theorem uE{a h:Nat->Rat}{k:Nat}{c:Rat}(hh:∀l,h l=if l=k then c else 0):∀L,ak a h L=if k<L then a k*c else 0
 | 0=>by rw[Yc ()];rfl
 | L+1=>by
  show ak a h L+a L*h L=_;rw[uE hh L,hh L];by_cases e:L=k
  .rw[Yc (),Yb e,Yb (),e];grind
  .rw[Yc e];by_cases z:k<L
   .rw[Yb z,Yb ()];grind
   .rw[Yc z,Yc ()];grind
section
variable {S:Nat->Rat}{P:Nat->Nat->Rat}{h:Nat->Rat}{M n:Nat}
def IS(S:Nat->Rat)(P:Nat->Nat->Rat)(h:Nat->Rat)(M n:Nat):Prop:=∀k l,k<M->l<M->ip S (P k) (P l) n n=if l=k then h k else 0
theorem Ek(o:IS S P h M n) {b:Nat->Rat}{L k:Nat}(hL:L<=M)(hk:k<M):ip S (ku b P L) (P k) n n=if k<L then b k*h k else 0:=by
 show ak (ku b P L) _ n=_;rw[zc];have e:ak b (λl=>ak (P l) (λi=>ak (P k) (λj=>S (i+j)) n) n) L=ak b (λl=>if l=k then h k else 0) L:=aD L (λ_ _=>rfl) λl hl=>by
  have:=o l k () hk;show ip S (P l) (P k) n n=_;rw[this];by_cases e:l=k
  .rw[Yb e,Yb e.symm,e]
  .rw[Yc e,Yc λz=>e z.symm]
 rw[e,uE λ_=>rfl]
end
section
variable {W:Nat->Int}{B:Int}{S:Nat->Rat}
theorem uc{k m:Nat}{p v:Nat->Rat}(hD:Dk W k≠0)(hB:B≠0)(hP:∀j,p j=((qk W k j:Int):Rat)/((Dk W k:Int):Rat))(hS:∀i,((W i:Int):Rat)=S i*(B:Rat))(hm:k+1<=m)(n:Nat):ip S v p n m=ak v (λi=>((Lq W k i:Int):Rat)/(((Dk W k:Int):Rat)*(B:Rat))) n:=by
 refine aD n (λ_ _=>rfl) λi _=>?_;rw[<-gS hD hB hP hS i];have:=dR (f:=p) (h:=λj=>S (i+j)) (n:=k+1) (λj hj=>by
  have z:((0:Int):Rat)=0:=rfl;rw[hP j,du (),z];grind) (m-(k+1))
 rw[show k+1+(m-(k+1))=m by nofun] at this
 exact this
theorem wP{P:Nat->Nat->Rat}{M n:Nat}(hD:∀k,k<M->Dk W k≠0)(hB:B≠0)(hP:∀k,k<M -> ∀j,P k j=((qk W k j:Int):Rat)/((Dk W k:Int):Rat))(hS:∀i,((W i:Int):Rat)=S i*(B:Rat))(hM:M<=n):IS S P (λk=>((Dk W (k+1):Int):Rat)/((Dk W k*B:Int):Rat)) M n:=by
 have z:((0:Int):Rat)=0:=rfl;have low:∀k l,k<M->l<k->ip S (P l) (P k) n n=0:=λk l hk hl=>by
  rw[uc (hD k hk) hB (hP k hk) hS ()];refine aW n λi _=>?_;by_cases e:i<k
  .rw[gh e,z];grind
  .rw[hP l (),du (),z];grind
 intro k l hk hl;by_cases e:l=k
 .subst e;rw[Yb rfl,uc (hD l hk) hB (hP l hk) hS ()];have e1:=dR (f:=P l) (h:=λi=>((Lq W l i:Int):Rat)/(((Dk W l:Int):Rat)*(B:Rat))) (n:=l+1) (λj hj=>by
   rw[hP l hk,du (),z];grind) (n-(l+1))
  rw[show l+1+(n-(l+1))=n by nofun] at e1
  rw[e1];show ak (P l) _ l+P l l*(((Lq W l l:Int):Rat)/(((Dk W l:Int):Rat)*(B:Rat)))=((Dk W (l+1):Int):Rat)/((Dk W l*B:Int):Rat);rw[aW l λi hi=>by rw[gh hi,z];grind,hP l hk,fi,fb,Xe]
  have c1:=ao (hD l hk);have c2:=ao hB;grind
 .rw[Yc e];rcases Nat.lt_or_gt_of_ne e with y|y
  .rw[dC,low k l hk y]
  .rw[low l k hl y]
end
theorem y6{v:Nat->Rat}{x c:Rat}:∀n,ak v (λj=>c*aO x j) n=c*fF v n x
 | 0=>by show (0:Rat)=c*0;grind
 | n+1=>by
  show ak v (λj=>c*aO x j) n+v n*(c*aO x n)=c*(fF v n x+v n*aO x n);rw[y6 n];grind
theorem Fl(y:Rat):0<=y*y:=by
 rcases Rat.le_total (a:=0) (b:=y) with h|h
 .exact Rat.mul_nonneg h h
 .have:=Rat.mul_nonneg (Rat.neg_le_neg h) (Rat.neg_le_neg h);grind
section
variable {W:Nat->Int}{B:Int}{cs:List uj}
def Pk(W:Nat->Int)(k:Nat):Nat->Rat:=λj=>((qk W k j:Int):Rat)/((Dk W k:Int):Rat)
theorem jw{k j:Nat}(h:k<j):Pk W k j=0:=by
 have z:((0:Int):Rat)=0:=rfl;unfold Pk;rw[du h,z];grind
theorem fS{k:Nat}(h:Dk W k≠0):Pk W k k=1:=by
 have:=ao h;unfold Pk;rw[fi];grind
end
theorem xc{W:Nat->Int}{b k j:Nat}(hW:∀i,Bt b (W i))(hk:k<=5):Bt ((b+3)*k+4) (qk W k j):=by
 have h:=rX (W:=W) (B:=2^b) (k:=k) (λi=>Yh (hW i)) j;refine Bt.of_le (n:=(b+3)*k+3) (Yg h ?_) ();have h1:(k+1)*2^b<=2^(b+3):=by
  rw[YX,YM];exact Xw _ ()
 have h2:((k+1)*2^b)^k<=2^((b+3)*k):=by
  refine Yg (Nat.pow_le_pow_left h1 k) ?_;rw[<-Nat.pow_mul];exact Yp _
 have h3:(2:Nat)^((b+3)*k+3)=8*2^((b+3)*k):=by
  rw[YX];nofun
 rw[h3];exact Xq () h2
theorem xz{W:Nat->Int}{b k:Nat}(hW:∀i,Bt b (W i))(hk:k<=5):Bt ((b+3)*k+4) (Dk W k):=by
 rw[<-fi];exact xc hW hk
theorem Je{W:Nat->Int}{b k:Nat}(hW:∀i,Bt b (W i))(hk:k<=5):Ob (Dk W k) ((b+3)*k+4) (Pk W k):=λj=>⟨qk W k j,rfl,xc hW hk⟩
def Tb:Nat->Nat
 | 0=>0
 | k+1=>Tb k+(173*k+5)
theorem um:∀{k n:Nat},k<=n->Tb k<=Tb n
 | k,0,h=>by rw[show k=0 by nofun];exact Yp _
 | k,n+1,h=>by
  by_cases e:k=n+1
  .rw[e];exact Yp _
  .have:=um (k:=k) (n:=n) ();show Tb k<=Tb n+_;nofun
theorem Ob.sub{D:Int}{a b:Nat}{f g:Nat->Rat}(h1:Ob D a f)(h2:Ob D b g):Ob D (max a b+1) (λk=>f k-g k):=by
 have h:Ob D b (λk=>- g k):=λk=>by
  obtain⟨n,e,hn⟩:=h2 k;refine⟨-n,by show-g k=_;rw[e,Rat.intCast_neg];grind,?_⟩
  unfold Bt at hn ⊢;rw[Int.natAbs_neg];exact hn
 exact (h1.add h).congr λk=>by grind
theorem Ei{W:Nat->Int}{k a:Nat}{f:Nat->Rat}(hW:∀i,Bt 170 (W i))(hk:k<=5)(hD:Dk W k≠0)(h:Pb a f):Pb (a+(173*k+5)) (λj=>f j-Pk W k j*f k)/\Pb (a+(173*k+4)) (λj=>Pk W k j*f k):=by
 obtain⟨D,d0,bD,o⟩:=h;obtain⟨m,em,bm⟩:=o k;have bd:=xz hW hk;have h1:=o.up d0 hD bd;have h2:=(Je hW hk).one (c:=f k) hD d0 em bm;rw[Y8] at h2;have ne:D*Dk W k≠0:=Xc d0 hD;have bb:=bD.mul bd;exact⟨⟨D*Dk W k,ne,bb.mono (),(h1.sub h2).mono ()⟩,⟨D*Dk W k,ne,bb.mono (),h2.mono ()⟩⟩
theorem kq{b:Nat}:∀{fs:List (Int×Int)},(∀q∈fs,Fq q/\Bq b q)->Pb (b*fs.length+1) (cf fs)
 | [],_=>(BA (a:=1) ∅).mono (by simp)
 | q::qs,h=>by
  obtain⟨D,d0,bD,o⟩:=kq (b:=b) (fs:=qs) λq hq=>h q (by simp[hq])
  obtain⟨f,bt,bb⟩:=h q (by simp)
  have c1:=ao f.ne;have c2:=ao d0;have e:b*(q::qs).length+1=b+(b*qs.length+1):=by rw[Y9,Nat.mul_add];nofun
  rw[e];refine⟨q.2*D,Xc f.ne d0,bb.mul bD,λk=>?_⟩;cases k with
  | zero =>
   refine⟨q.1*D,?_,bt.mul bD⟩;rw[aA (q:=q) rfl,Xe,Xe];unfold wv;grind
  | succ k =>
   obtain⟨n,en,bn⟩:=o k;refine⟨q.2*n,?_,bb.mul bn⟩;have:cf (q::qs) (k+1)=cf qs k:=rfl;rw[this,en,Xe,Xe];grind
theorem ol{ts:List (Int×Int)}{c:Int×Int}{k:Nat}:cf (ts++[c]) k=if k=ts.length then wv c else cf ts k:=by
 by_cases e:k=ts.length
 .rw[Yb e];exact aA (by rw[e];simp)
 .rw[Yc e];by_cases z:k<ts.length
  .rw[aA (YR z)];exact aA (by rw[Yy z,YR z])
  .rw[aE (by simp;nofun),aE ()]
theorem ou{W:Nat->Int}{a:Nat->Rat}{j:Nat}:∀n,n<=j->ku a (Pk W) n j=0
 | 0,_=>rfl
 | n+1,h=>by
  show ku a (Pk W) n j+a n*Pk W n j=0;rw[ou n (),jw ()];grind
theorem Ca{W:Nat->Int}{a:Nat->Rat}{n A:Nat}(hW:∀i,Bt 170 (W i))(hn:n<=6)(hD:∀k,k<n->Dk W k≠0)(h:Pb A (ku a (Pk W) n)):∀i,i<=n->Pb (A+(Tb n-Tb (n-i))) (ku a (Pk W) (n-i))
 | 0,_=>h.mono ()
 | i+1,hi=>by
  have h1:=Ca hW hn hD h i ();obtain⟨k,hk⟩ : ∃k,n-i=k+1:=⟨n-i-1,()⟩;rw[hk] at h1;rw[show n-(i+1)=k by nofun]
  have tm:=um (k:=k+1) (n:=n) ();have tk:Tb (k+1)=Tb k+(173*k+5):=rfl;have hd:=hD k ();refine ((Ei hW () hd h1).1.congr λj=>?_).mono ();have e:ku a (Pk W) (k+1) k=a k:=by
   show ku a (Pk W) k k+a k*Pk W k k=a k;rw[ou k (Yp _),fS hd];grind
  rw[e];show ku a (Pk W) k j=ku a (Pk W) k j+a k*Pk W k j-Pk W k j*a k;grind
end L2
namespace L2
open PySem PyProof.Rows
theorem KD{i:Int}(h:0<=i):Builtin.bitAnd i 1=i%2:=by
 rw[PyProof.Rows.bitAnd_pp h ∅];show ((i.toNat &&& 1:Nat):Int)=_;rw[Nat.and_one_is_mod];nofun
theorem AT{W:Nat->Int}{b k j:Nat}(hW:∀i,Bt b (W i))(hk:k<=6):Bt (6*b+22) (qk W k j):=by
 have h:=rX (W:=W) (B:=2^b) (k:=k) (λi=>Yh (hW i)) j;refine Bt.of_le (n:=6*b+21) (Yg h ?_) ();have h1:(k+1)*2^b<=2^(b+3):=by
  rw[YX,YM];exact Xw _ ()
 have h2:((k+1)*2^b)^k<=2^(6*b+18):=by
  refine Yg (Nat.pow_le_pow_left h1 k) ?_;rw[<-Nat.pow_mul];refine YV ∅ ?_;have:(b+3)*k<=(b+3)*6:=Xw _ hk;nofun
 have h3:(2:Nat)^(6*b+21)=8*2^(6*b+18):=by
  rw[show 6*b+21=(6*b+18)+3 by nofun,YX]
  nofun
 rw[h3];exact Xq () h2
section
variable {X:Cx}
theorem xQ:el X (binaryOp .BitAnd) (rI (λi j=>0<=i/\j=1) λi j=>.int (i%2)):=Jg λi j _ _ _ _ _ hc q=>by
 obtain⟨h0,rfl⟩:=hc;refine and_int ?_;rw[KD h0];exact q
def JL(K:W.Frag)(ta tb:TE):TE:=λσ H Q=>ta σ H λx H1=>∃k,wW K x H1 k/\if k=true then Q x H1 else tb σ H1 Q
theorem HZ{a b:Expr}{pos:Pos}{ta tb:TE}(ha:QE X a ta)(hb:QE X b tb):QE X (.BoolOp .Or [a,b] pos) (JL X.K ta tb):=⟨by
 intro pins s σ H Q I h;refine BoolOp_or (dy (ha.h pins s σ H _ I h) λv s1 ⟨x,H1,I1,r1,k,e,q1⟩=>?_);refine dy (Bk pins s1 σ H1 x v (λc H'=>H'=H1/\c=k) I1 r1 ⟨k,e,rfl,rfl⟩) λc s2 ⟨H',I2,e1,e2⟩=>?_;subst e1 e2;cases c with
 | true=>rw[Yb rfl] at q1 ⊢;exact⟨x,_,I2,r1,q1⟩
 | false=>rw[Yc Yo] at q1 ⊢;exact BoolOp_one (hb.h pins s2 σ _ Q I2 q1)⟩
end
end L2
namespace L2
open PySem PySem.Spec PyProof.Rows
def Xk(k j:Nat):Rat:=if j=k then 1 else 0
theorem Dm{P:Nat->Nat->Rat}:∀(n:Nat)(f:Nat->Rat),(∀k,k<n->P k k=1)->(∀k j,k<j->P k j=0)->(∀j,n<=j->f j=0) -> ∃b:Nat->Rat,∀j,f j=ku b P n j
 | 0,f,_,_,h=>⟨λ_=>0,λj=>h j ()⟩
 | n+1,f,h1,h0,h=>by
  obtain⟨b,hb⟩:=Dm n (λj=>f j-f n*P n j) (λk hk=>h1 k ()) h0 (λj hj=>by
   by_cases e:j=n
   .rw[e,h1 n ()];grind
   .rw[h j (),h0 n j ()];grind)
  refine⟨λk=>if k=n then f n else b k,λj=>?_⟩
  show f j=ku _ P n j+(if n=n then f n else b n)*P n j
  rw[Yb rfl,qS (b:=b) (Q:=P) n λk hk=>⟨Yc (),rfl⟩,<-hb j];grind
section
variable {W:Nat->Int}{k:Nat}
theorem Bb(hD:∀i,i<=k->Dk W i≠0):∃b:Nat->Rat,(∀j,Xk k j=ku b (Pk W) (k+1) j)/\b k=1/\(∀j,j<k->b j=((Lq W j k:Int):Rat)/((Dk W (j+1):Int):Rat)) /\ ∀j,Xk k j-ku b (Pk W) k j=Pk W k j:=by
 obtain⟨b,hb⟩:=Dm (P:=Pk W) (k+1) (Xk k) (λi hi=>fS (hD i ())) (λi j h=>jw h) (λj hj=>Yc ());have b1:b k=1:=by
  have e:=hb k;have e1:Xk k k=1:=Yb rfl;rw[e1] at e;have:ku b (Pk W) (k+1) k=ku b (Pk W) k k+b k*Pk W k k:=rfl;rw[this,ou k (Yp _),fS (hD k (Yp _))] at e;grind
 refine⟨b,hb,b1,λj hj=>?_,λj=>?_⟩
 .have hS:∀i,((W i:Int):Rat)=(λi=>((W i:Int):Rat)) i*((1:Int):Rat):=λi=>by
   have c1:((1:Int):Rat)=1:=rfl;rw[c1];show _=((W i:Int):Rat)*1;grind
  have o:=wP (W:=W) (B:=1) (S:=λi=>((W i:Int):Rat)) (P:=Pk W) (M:=k+1) (n:=k+1) (λi hi=>hD i ()) ∅ (λi _ j=>rfl) hS (Yp _);have s:=Ek o (b:=b) (L:=k+1) (k:=j) (Yp _) ();have e:ku b (Pk W) (k+1)=Xk k:=funext λi=>(hb i).symm;rw[e,Yb (),uc (k:=j) (m:=k+1) (p:=Pk W j) (hD j ()) (B:=1) ∅ (λ_=>rfl) hS ()] at s;have p:ak (Xk k) (λi=>((Lq W j i:Int):Rat)/(((Dk W j:Int):Rat)*((1:Int):Rat))) (k+1)=((Lq W j k:Int):Rat)/(((Dk W j:Int):Rat)*((1:Int):Rat)):=by
   show ak (Xk k) _ k+Xk k k*_=_;rw[aW k λi hi=>by rw[show Xk k i=0 from Yc ()];grind,show Xk k k=1 from Yb rfl]
   grind
  rw[p,Xe] at s;have n1:=ao (hD j ());have n2:=ao (hD (j+1) ());have c1:((1:Int):Rat)=1:=rfl;rw[c1] at s;grind
 .rw[hb j];show ku b (Pk W) k j+b k*Pk W k j-ku b (Pk W) k j=_;rw[b1];grind
theorem FM{A:Nat}(h:1<=A):Pb A (Xk k):=⟨1,∅,Bt.mono (m:=1) ∅ h,λj=>by
 unfold Xk;split
 .refine⟨1,?_,Bt.mono (m:=1) ∅ h⟩;have c1:((1:Int):Rat)=1:=rfl;rw[c1];grind
 .refine⟨0,?_,gF⟩;have c0:((0:Int):Rat)=0:=rfl;rw[c0];grind⟩
theorem CW{b:Nat->Rat}(hk:k<=5)(hW:∀i,Bt 170 (W i))(hD:∀i,i<=k->Dk W i≠0)(hb:∀j,Xk k j=ku b (Pk W) (k+1) j)(i:Nat)(hi:i<=k+1):Pb 2630 (λj=>Xk k j-ku b (Pk W) i j):=by
 have h1:Pb 1 (ku b (Pk W) (k+1)):=(FM (A:=1) ∅).congr λj=>(hb j).symm;have h2:=Ca hW () (λj hj=>hD j ()) h1 (k+1-i) ();rw[show k+1-(k+1-i)=i by nofun] at h2
 have t:Tb (k+1)<=Tb 6:=um ();have t6:Tb 6=2625:=rfl;have h3:=(FM (k:=k) (A:=1) ∅).add (h2.one (E:=1) (m:=-1) (c:=-1) (b:=1) ∅ (by have c1:((1:Int):Rat)=1:=rfl;have cm:((-1:Int):Rat) = -1:=rfl;rw[c1,cm];grind) ∅ ∅)
 refine (h3.congr λj=>?_).mono ();grind
end
structure Lm where
 p:Addr
 c:Addr
 ps:Arguments
 b:Expr
 sc:Scope
structure pB (P:Program)(base:Heap):Prop where
 seer:base.NoSeer
 tree:P.given.tree=none
def zM(_ j:Int):Prop:=j≠0
theorem g6{X:Cx}{k:Nat}(N:pB X.prog X.base)(hr:fW k X.A)(hst:X.stack=X.env::X.outer)(hgen:X.env.scope.isGenerator=false)(hco:X.env.scope.isCoroutine=false) :
  el X (binaryOp .FloorDiv) (rI zM λi j=>.int (i.fdiv j)):=by
 intro pins s σ H x y v u Q I rx ry h;obtain⟨i,j,rfl,rfl,hc,q⟩:=h;obtain⟨t,rfl⟩:=rx;obtain⟨t',rfl⟩:=ry;refine floordiv_int hc ⟨.int (i.fdiv j),H,I.tok _,⟨_,rfl⟩,q⟩ (.inr ?_);refine PySem.PylongRoom.of I.nolimit ?_ (PySem.SeerAt.of (N.seer.keeps I.bk) N.tree (I.ok.frames.trans (Yn some hst)) hgen hco I.ok.blt I.ok.glob);have:=hr.dp;show X.A.depth+100<recursionLimit;nofun
end L2
namespace L2
open PySem
def hR(W:Nat->Int)(B:Int)(k:Nat):Rat:=((Dk W (k+1):Int):Rat)/((Dk W k*B:Int):Rat)
theorem Cw{v:Nat->Rat}{x:Rat}:EV v x=ak v (λj=>1*aO x j) 20:=by
 rw[y6];unfold EV;grind
def tb:Nat->Nat
 | 0=>1
 | k+1=>tb k+(360*k+280)
def dw(M:Nat):List (Nat->Int)->Om
 | []=>wZ
 | r::rs=>wg M r (dw M rs)
def dt(M:Nat)(rows:List (Nat->Int)):Int:=dw M rows (vK M)
theorem Iu{v:Nat->Int}{m:Nat}{o p:Om}(h:∀k,o k = - p k)(l:List Bool):wg m v o l = - wg m v p l:=by
 have e:=mM (v:=v) (a:=-1) (b:=0) m p p l;rw[<-ga (o:=o) (p:=λk=>-1*p k+0*p k) (λk=>by rw[h];nofun) l] at e
 nofun
theorem yf{v:Nat->Int}{a:Int}{m:Nat}{o p:Om}(h:∀k,o k=a*p k)(l:List Bool):wg m v o l=a*wg m v p l:=by
 have e:=mM (v:=v) (a:=a) (b:=0) m p p l;rw[<-ga (o:=o) (p:=λk=>a*p k+0*p k) (λk=>by rw[h];nofun) l] at e
 nofun
theorem Hd{u v:Nat->Int}{m:Nat}{o:Om}{l:List Bool}(h:∀i,i<m->u i=v i):wg m u o l=wg m v o l:=by
 have e:=jR (u:=u) (v:=v) (a:=1) (b:=-1) m o l;rw[iu m o l λi hi=>by rw[h i hi];nofun] at e
 nofun
def Pm(x y:Int):Prop:=x=y\/x = -y
theorem Pm.rfl'{x:Int}:Pm x x:=.inl rfl
theorem Pm.symm{x y:Int}(h:Pm x y):Pm y x:=by rcases h with e|e<;>unfold Pm<;>nofun
theorem Pm.trans{x y z:Int}(h:Pm x y)(g:Pm y z):Pm x z:=by rcases h with e|e<;>rcases g with f|f<;>unfold Pm<;>nofun
theorem Pm.mul{x y:Int}(h:Pm x y)(a:Int):Pm (a*x) (a*y):=by
 rcases h with e|e
 .exact .inl (by rw[e])
 .exact .inr (by rw[e,Int.mul_neg])
theorem Pm.of_mul{a x y:Int}(h:Pm (a*x) (a*y))(ha:a≠0):Pm x y:=by
 rcases h with e|e
 .exact .inl (Int.eq_of_mul_eq_mul_left ha e)
 .exact .inr (Int.eq_of_mul_eq_mul_left ha (by rw[e,Int.mul_neg]))
theorem wM{M:Nat}{x:Nat->Int}:∀{rows:List (Nat->Int)},x∈rows -> ∀l,wg M x (dw M rows) l=0
 | [],h,_=>by cases h
 | y::rs,h,l=>by
  show wg M x (wg M y (dw M rs)) l=0;rcases Y0.mp h with rfl|z
  .exact y7 M _ l
  .rw[ka,j9 M _ l λk=>wM z k];rfl
theorem E8{M:Nat}{a b:List (Nat->Int)}(h:a.Perm b):(∀l,dw M a l=dw M b l) \/ ∀l,dw M a l = - dw M b l:=by
 induction h with
 | nil=>exact .inl λ_=>rfl
 | cons x _ ih =>
  rcases ih with e|e
  .exact .inl λl=>ga e l
  .exact .inr λl=>Iu e l
 | swap x y l=>exact .inr λk=>ka M _ k
 | trans _ _ ih1 ih2 =>
  rcases ih1 with e|e<;>rcases ih2 with f|f
  .exact .inl λl=>by rw[e,f]
  .exact .inr λl=>by rw[e,f]
  .exact .inr λl=>by rw[e,f]
  .exact .inl λl=>by rw[e,f];nofun
theorem rP{M:Nat}{a b:List (Nat->Int)}(h:a.Perm b):Pm (dt M a) (dt M b):=by
 rcases E8 (M:=M) h with e|e
 .exact .inl (e _)
 .exact .inr (e _)
theorem uB{m:Nat}:∀(rs:List (Nat->Int))(l:List Bool),dw (m+1) rs (false::l)=dw m rs l
 | [],l=>by simp[dw,wZ]
 | r::rs,l=>by
  show wg (m+1) r (dw (m+1) rs) (false::l)=wg m r (dw m rs) l;rw[kN];exact ga (λk=>uB rs k) l
theorem yo{m:Nat}:∀{rs:List (Nat->Int)},(∀r∈rs,r m=0) -> ∀l,dw (m+1) rs (true::l)=0
 | [],_,l=>by simp[dw,wZ]
 | r::rs,h,l=>by
  show wg (m+1) r (dw (m+1) rs) (true::l)=0;rw[kr,h r Yi,j9 m _ l λk=>yo (λx hx=>h x (Yj _ hx)) k];nofun
theorem Iq{m:Nat}{r:Nat->Int}{rs:List (Nat->Int)}(h:∀x∈rs,x m=0):dt (m+1) (r::rs)=r m*dt m rs:=by
 show wg (m+1) r (dw (m+1) rs) (true::vK m)=r m*dw m rs (vK m);rw[kr,uB,j9 m _ _ λk=>yo h k];nofun
def st(g:Nat->Nat->Int)(lo:Nat):Nat->List (Nat->Int)
 | 0=>[]
 | n+1=>g (lo+n)::st g lo n
theorem jn{g:Nat->Nat->Int}{lo:Nat}{x:Nat->Int}:∀{n:Nat},x∈st g lo n -> ∃i,i<n/\x=g (lo+i)
 | 0,h=>by cases h
 | n+1,h=>by
  rcases Y0.mp h with rfl|z
  .exact⟨n,(),rfl⟩
  .obtain⟨i,hi,e⟩:=jn z;exact⟨i,(),e⟩
theorem CK{g:Nat->Nat->Int}{lo i:Nat}:∀{n:Nat},i<n->g (lo+i)∈st g lo n
 | 0,h=>by nofun
 | n+1,h=>by
  by_cases e:i=n
  .rw[e];exact Yi
  .exact Yj _ (CK ())
theorem wR(g:Nat->Nat->Int)(lo n:Nat):∀m,st g lo (n+m)=st g (lo+n) m++st g lo n
 | 0=>rfl
 | m+1=>by
  show g (lo+(n+m))::st g lo (n+m)=g (lo+n+m)::(st g (lo+n) m++st g lo n);rw[wR g lo n m,Xx]
theorem j6{g:Nat->Nat->Int}{c:Int}{d0 lo:Nat}{X:List (Nat->Int)}(h1:∀i,g i (d0+i)=c)(h2:∀i k,d0+i<k->g i k=0)(hX:∀x∈X,∀k,d0+lo<=k->x k=0):∀n,dt (d0+lo+n) (st g lo n++X)=c^n*dt (d0+lo) X
 | 0=>by show dt (d0+lo) X=c^0*_;rw[Xy,Xu]
 | n+1=>by
  show dt (d0+lo+n+1) (g (lo+n)::(st g lo n++X))=_;rw[Iq,j6 h1 h2 hX n,show d0+lo+n=d0+(lo+n) by nofun,h1,Xz,Y8 (c^n) c,Y7]
  intro x hx;rcases List.mem_append.mp hx with z|z
  .obtain⟨i,hi,rfl⟩:=jn z;exact h2 _ _ ()
  .exact hX x z _ ()
def vd(M:Nat)(X:List (Nat->Int))(v:Nat->Int):Prop:=∀rows:List (Nat->Int),(∀x∈X,x∈rows) -> ∀l,wg M v (dw M rows) l=0
theorem vd.mem{M:Nat}{X:List (Nat->Int)}{v:Nat->Int}(h:v∈X):vd M X v:=λrows hr l=>wM (hr v h) l
theorem vd.zero{M:Nat}{X:List (Nat->Int)}:vd M X λ_=>0:=λrows _ l=>iu M _ l λ_ _=>rfl
theorem vd.lin{M:Nat}{X:List (Nat->Int)}{u v:Nat->Int}{a b:Int}(hu:vd M X u)(hv:vd M X v):vd M X λk=>a*u k+b*v k:=λrows hr l=>by
 rw[jR,hu rows hr l,hv rows hr l];nofun
theorem vd.sum{M:Nat}{X:List (Nat->Int)}{q:Nat->Int}{g:Nat->Nat->Int}:∀n,(∀i,i<n->g i∈X)->vd M X λk=>b9 (λi=>q i*g i k) n
 | 0,_=>vd.zero
 | n+1,h=>by
  have e:=vd.lin (a:=1) (b:=q n) (vd.sum (q:=q) n λi hi=>h i ()) (vd.mem (M:=M) (h n ()));have f:(λk=>1*b9 (λi=>q i*g i k) n+q n*g n k)=λk=>b9 (λi=>q i*g i k) (n+1):=by
   funext k;show 1*_+_=b9 _ n+q n*g n k;nofun
  rw[f] at e;exact e
theorem CC{M:Nat}{f r:Nat->Nat->Int}{c b:Int}{X:List (Nat->Int)}:∀n,(∀i,i<n -> ∃v,vd M X v /\ ∀k,c*f i k=b*r i k+v k) -> ∀l,c^n*dw M (st f 0 n++X) l=b^n*dw M (st r 0 n++X) l
 | 0,_,l=>by rw[Xy,Xy];rfl
 | n+1,h,l=>by
  have ih:=CC n λi hi=>h i ();obtain⟨v,hv,e⟩:=h n ();show c^(n+1)*wg M (f (0+n)) (dw M (st f 0 n++X)) l=b^(n+1)*wg M (r (0+n)) (dw M (st r 0 n++X)) l;rw[Xs];have e1:c^n*wg M (f n) (dw M (st f 0 n++X)) l=b^n*wg M (f n) (dw M (st r 0 n++X)) l:=by
   rw[<-yf (o:=λk=>c^n*dw M (st f 0 n++X) k) (λ_=>rfl) l,<-yf (o:=λk=>b^n*dw M (st r 0 n++X) k) (λ_=>rfl) l];exact ga ih l
  have e2:c*wg M (f n) (dw M (st r 0 n++X)) l=b*wg M (r n) (dw M (st r 0 n++X)) l:=by
   have a1:=jR (u:=f n) (v:=f n) (a:=c) (b:=0) M (dw M (st r 0 n++X)) l;have a2:=jR (u:=r n) (v:=v) (a:=b) (b:=1) M (dw M (st r 0 n++X)) l;rw[hv _ (λx hx=>Yr _ hx) l] at a2;have a3:(λi=>c*f n i+0*f n i)=λi=>b*r n i+1*v i:=by
    funext k;have:=e k;nofun
   rw[a3,a2] at a1;nofun
  rw[Xz,Xz,Y8 (c^n) c,Y7,e1,Int.mul_left_comm,e2,Y7]
theorem G2{M:Nat}{f r:Nat->Nat->Int}{c b:Int}{X:List (Nat->Int)}(n:Nat)(h:∀i,i<n -> ∃v,vd M X v /\ ∀k,c*f i k=b*r i k+v k):c^n*dt M (st f 0 n++X)=b^n*dt M (st r 0 n++X):=CC n h _
def sh(f:Nat->Int)(i k:Nat):Int:=if i<=k then f (k-i) else 0
def Ej(j k:Nat):List (Nat->Int):=((List.range (j+1)).filter λi=>decide (i≠k)).map kh
theorem wj{j k:Nat}{x:Nat->Int}(h:x∈Ej j k) {m:Nat}(hm:j<m):x m=0:=by
 obtain⟨i,hi,rfl⟩:=List.mem_map.mp h;have:=List.mem_range.mp (List.mem_filter.mp hi).1;exact Yc ()
theorem De:∀n,st kh 0 n=((List.range n).reverse).map kh
 | 0=>rfl
 | n+1=>by
  rw[List.range_succ,List.reverse_append];show kh (0+n)::st kh 0 n=kh n::_;rw[De n,Xs];rfl
theorem Ep(n:Nat):dt n (st kh 0 n)=1:=by
 have e:=j6 (g:=kh) (c:=1) (d0:=0) (lo:=0) (X:=[]) (λi=>by rw[Xs];exact Yb rfl) (λi k h=>Yc ()) (λx hx=>by cases hx) n
 rw[List.append_nil,Int.one_pow,Xs,Xs] at e;rw[e];rfl
theorem yZ{j k:Nat}(h:k<=j):(kh k::Ej j k).Perm (st kh 0 (j+1)):=by
 rw[De];show (List.map kh (k::(List.range (j+1)).filter λi=>decide (i≠k))).Perm _;refine List.Perm.map _ (List.Perm.trans ?_ (List.reverse_perm _).symm);have nd:(List.range (j+1)).Nodup:=List.nodup_range;have e:(List.range (j+1)).filter (λi=>decide (i≠k))=(List.range (j+1)).erase k:=by
  rw[nd.erase_eq_filter];congr 1
  funext i;by_cases z:i=k
  .simp[z]
  .simp[z]
 rw[e];exact (List.perm_cons_erase (List.mem_range.mpr ())).symm
theorem AX{j k:Nat}{R:Nat->Int}(h:k<=j):Pm (dt (j+1) (R::Ej j k)) (R k):=by
 have e:dt (j+1) (R::Ej j k)=R k*dt (j+1) (kh k::Ej j k):=by
  show wg (j+1) R (dw (j+1) (Ej j k)) (vK (j+1))=R k*wg (j+1) (kh k) (dw (j+1) (Ej j k)) (vK (j+1));have e1:wg (j+1) R (dw (j+1) (Ej j k)) (vK (j+1))=wg (j+1) (λi=>b9 (λa=>R a*kh a i) (j+1)) (dw (j+1) (Ej j k)) (vK (j+1)):=Hd λi hi=>by
   rw[gT (j:=i) (j+1) (λa _ ha=>by rw[show kh a i=0 from Yc (λz=>ha z.symm)];nofun) hi,show kh i i=1 from Yb rfl]
   nofun
  rw[e1,mQ];refine gT (j+1) (λi hi hn=>?_) ();have z:kh i∈Ej j k:=List.mem_map.mpr ⟨i,List.mem_filter.mpr ⟨List.mem_range.mpr hi,YO hn⟩,rfl⟩;rw[wM z];nofun
 rw[e];have p:=(rP (M:=j+1) (yZ h)).mul (R k);rw[Ep,Int.mul_one] at p;exact p
def SR(f g:Nat->Int)(a b j k:Nat):Int:=dt (a+b-j) (st (sh f) 0 (b-j)++(st (sh g) 0 (a-j)++Ej j k))
theorem vS{f:Nat->Int}{a i:Nat}:sh f i (a+i)=f a:=by
 unfold sh;rw[Yb (),show a+i-i=a by nofun]
theorem mx{f:Nat->Int}{a:Nat}(h:∀k,a<k->f k=0) {i k:Nat}(hk:a+i<k):sh f i k=0:=by
 unfold sh;rw[Yb ()];exact h _ ()
def cv(q g:Nat->Int)(n k:Nat):Int:=b9 (λt=>q t*sh g t k) n
theorem Hn{q g:Nat->Int}{i n:Nat}:∀k,sh (cv q g n) i k=b9 (λt=>q t*sh g (i+t) k) n:=λk=>by
 unfold sh;by_cases h:i<=k
 .rw[Yb h];refine fA n λt _=>?_;show q t*(if t<=k-i then g (k-i-t) else 0)=q t*(if i+t<=k then g (k-(i+t)) else 0)
  by_cases z:t<=k-i
  .rw[Yb z,Yb (),show k-i-t=k-(i+t) by nofun]
  .rw[Yc z,Yc ()]
 .rw[Yc h];refine (fQ n λt _=>?_).symm;rw[Yc ()];exact Xo _
theorem Dg{f g q r:Nat->Int}{a b j k:Nat}{γ β:Int}(ab:b<=a)(jb:j<=b)(e:∀k,γ*f k=cv q g (a-b+1) k+β*r k) :
  γ^(b-j)*SR f g a b j k=β^(b-j)*dt (a+b-j) (st (sh r) 0 (b-j)++(st (sh g) 0 (a-j)++Ej j k)):=by
 refine G2 (b-j) λi hi=>⟨λk=>b9 (λt=>q t*sh g (i+t) k) (a-b+1),vd.sum (g:=λt=>sh g (i+t)) _ λt ht=>List.mem_append_left _ ?_,λk=>?_⟩
 .have:=CK (g:=sh g) (lo:=0) (i:=i+t) (n:=a-j) ()
  rwa [Xs] at this
 .show γ*sh f i k=β*sh r i k+b9 (λt=>q t*sh g (i+t) k) (a-b+1);rw[<-Hn];unfold sh;by_cases h:i<=k
  .rw[Yb h,Yb h,Yb h,e];nofun
  .rw[Yc h,Yc h,Yc h];nofun
theorem Fz{f g q r:Nat->Int}{a b d j k:Nat}{γ β c:Int}(ab:b<=a)(db:d<b)(jd:j<=d)(hg:g b=c)(g0:∀k,b<k->g k=0)(r0:∀k,d<k->r k=0)(e:∀k,γ*f k=cv q g (a-b+1) k+β*r k) :
  Pm (γ^(b-j)*SR f g a b j k) (β^(b-j)*(c^(a-d)*SR g r b d j k)):=by
 rw[Dg ab () e];refine Pm.mul ?_ _;have p:(st (sh r) 0 (b-j)++(st (sh g) 0 (a-j)++Ej j k)).Perm (st (sh g) (d-j) (a-d)++(st (sh g) 0 (d-j)++(st (sh r) 0 (b-j)++Ej j k))):=by
  have s:=wR (sh g) 0 (d-j) (a-d);rw[show d-j+(a-d)=a-j by nofun,Xs] at s
  rw[s,<-YI,<-YI,<-YI,<-YI];refine List.Perm.append_right _ ?_;rw[YI,YI];exact (List.perm_append_comm).trans (by rw[YI])
 refine (rP p).trans ?_;rw[show a+b-j=b+(d-j)+(a-d) by nofun,j6 (d0:=b) (c:=c) (λi=>by rw[vS];exact hg) (λi k h=>mx g0 h) ?_ (a-d)]
 .rw[show b+(d-j)=b+d-j by nofun]
  exact Pm.rfl'
 .intro x hx k hk;rcases List.mem_append.mp hx with z|z
  .obtain⟨i,hi,rfl⟩:=jn z;exact mx g0 ()
  .rcases List.mem_append.mp z with z|z
   .obtain⟨i,hi,rfl⟩:=jn z;exact mx r0 ()
   .exact wj z ()
theorem yV(x:Int):x^1=x:=by rw[Xz,Xy,Xu]
theorem Fa{f g q r:Nat->Int}{a b k:Nat}{c:Int}(ab:b<=a)(hb:1<=b)(hk:k<b)(hg:g b=c)(hc:c≠0)(g0:∀k,b<k->g k=0)(r0:∀k,b<=k->r k=0)(e:∀k,c^(a-b+1)*f k=cv q g (a-b+1) k+r k) :
  Pm (SR f g a b (b-1) k) (r k):=by
 refine Pm.of_mul (a:=c^(a-b+1)) ?_ (XA hc);have s:=Dg (j:=b-1) (k:=k) (q:=q) (g:=g) (f:=f) (γ:=c^(a-b+1)) (β:=1) ab () (r:=r) (λk=>by rw[e k];nofun)
 rw[show b-(b-1)=1 by nofun,yV,yV,Xu] at s
 rw[s,show a+b-(b-1)=b+0+(a-b+1) by nofun,show a-(b-1)=a-b+1 by nofun]
 have p:(st (sh r) 0 1++(st (sh g) 0 (a-b+1)++Ej (b-1) k)).Perm (st (sh g) 0 (a-b+1)++(sh r 0::Ej (b-1) k)):=by
  show (sh r (0+0)::(st (sh g) 0 (a-b+1)++Ej (b-1) k)).Perm _;exact List.perm_middle.symm
 refine (rP p).trans ?_;rw[j6 (d0:=b) (c:=c) (λi=>by rw[vS];exact hg) (λi k h=>mx g0 h) ?_ (a-b+1)]
 .refine Pm.mul ?_ _;have d:=AX (j:=b-1) (k:=k) (R:=sh r 0) ();rw[show b-1+1=b+0 by nofun] at d
  refine d.trans (.inl ?_);show sh r 0 k=r k;unfold sh;rw[Yb (),Nat.sub_zero]
 .intro x hx m hm;rcases Y0.mp hx with rfl|z
  .unfold sh;rw[Yb ()];exact r0 _ ()
  .exact wj z ()
theorem Es{f g:Nat->Int}{a b:Nat}{c:Int}(ab:b<a)(hg:g b=c)(g0:∀k,b<k->g k=0):Pm (SR f g a b b b) (c^(a-b)):=by
 unfold SR;rw[show b-b=0 by nofun]
 show Pm (dt (a+b-b) (st (sh g) 0 (a-b)++Ej b b)) _;obtain⟨n,hn⟩ : ∃n,a-b=n+1:=⟨a-b-1,()⟩;have s:=wR (sh g) 0 1 n;rw[show 1+n=n+1 by nofun] at s
 rw[hn,s,show a+b-b=b+1+n by nofun,YI,j6 (d0:=b) (lo:=1) (c:=c) (λi=>by rw[vS];exact hg) (λi k h=>mx g0 h) ?_ n]
 .rw[Xz];refine Pm.mul ?_ _;have d:=AX (j:=b) (k:=b) (R:=sh g 0) ();have e:sh g 0 b=c:=by
   unfold sh;rw[Yb (),Nat.sub_zero,hg]
  rw[e] at d;exact d
 .intro x hx m hm;rcases List.mem_append.mp hx with z|z
  .obtain⟨i,hi,rfl⟩:=jn z;exact mx g0 ()
  .exact wj z ()
theorem vN{M C:Nat}(hM:1<=M*C):∀{rows:List (Nat->Int)},(∀r∈rows,∀i,(r i).natAbs<=C) -> ∀l,(dw M rows l).natAbs<=(M*C)^rows.length
 | [],_,l=>by
  show (wZ l).natAbs<=1;unfold wZ;split<;>decide
 | r::rs,h,l=>by
  have ih:=vN hM (λx hx=>h x (Yj _ hx));have:=pF (h r Yi) M (dw M rs) l ih;show (wg M r (dw M rs) l).natAbs<=(M*C)^(rs.length+1);rw[Nat.pow_succ,YM _ (M*C),Nat.mul_assoc];exact this
theorem mi{g:Nat->Nat->Int}{lo:Nat}:∀n,(st g lo n).length=n
 | 0=>rfl
 | n+1=>by
  show (st g lo n).length+1=n+1;rw[mi n]
theorem ug{j k:Nat}(h:k<=j):(Ej j k).length=j:=by
 have:=(yZ h).length_eq;rw[mi] at this;simp at this;exact this
theorem rV{f:Nat->Int}{C:Nat}(h:∀i,(f i).natAbs<=C)(i k:Nat):(sh f i k).natAbs<=C:=by
 unfold sh;split
 .exact h _
 .exact YK _
theorem JW(a:Int)(m n:Nat):a^(m+n)=a^m*a^n:=Int.pow_add a m n
theorem imp(a b:Int)(n:Nat):(a*b)^n=a^n*b^n:=Int.mul_pow
theorem JY(a:Int)(m n:Nat):(a^m)^n=a^(m*n):=Int.pow_mul.symm
theorem Kz{h h' c:Int}{e m:Nat}(H:h'*h^e=c^(e+1)):h^((e+1)*(m+1))*c^(e+1+(m+1))*h'^m=c^((e+2)*(m+1))*h^(e+1+m):=by
 have k:h'^m*h^(e*m)=c^((e+1)*m):=by rw[<-JY,<-imp,H,JY]
 have e1:(e+1)*(m+1)=e*m+(e+1+m):=by simp only[Nat.mul_add,Xr];nofun
 have e2:(e+2)*(m+1)=(e+1)*m+(e+1+(m+1)):=by simp only[Nat.mul_add,Xr];nofun
 rw[e1,e2,JW h,JW c ((e+1)*m),<-k];generalize h^(e*m)=u;generalize h^(e+1+m)=v;generalize c^(e+1+(m+1))=w;generalize h'^m=z;grind
structure nQ (S1:Nat->Nat->Int)(F G:Nat->Int)(A B:Nat)(x h:Int):Prop where
 ba:B<=A
 x0:x≠0
 h0:h≠0
 one:A=B->h=1
 main:∀j k,j<=B->k<=j->Pm (SR F G A B j k) (x^(B-j)*(h^(A-j-1)*S1 j k))
theorem nQ.first{F G:Nat->Int}{A B:Nat}(h:B<=A):nQ (SR F G A B) F G A B 1 1:=⟨h,∅,∅,λ_=>rfl,λj k _ _=>.inl (by rw[Int.one_pow,Int.one_pow,Xu,Xu])⟩
section
variable {S1:Nat->Nat->Int}{F G q R r:Nat->Int}{A B d:Nat}{x h c h':Int}
theorem nQ.rest(I:nQ S1 F G A B x h)(hg:G B=c)(hc:c≠0)(g0:∀k,B<k->G k=0)(r0:∀k,B<=k->R k=0)(e:∀k,c^(A-B+1)*F k=cv q G (A-B+1) k+R k)(k:Nat)(hk:k<B):Pm (R k) (x*h^(A-B)*S1 (B-1) k):=by
 have s:=(Fa I.ba () hk hg hc g0 r0 e).symm.trans (I.main (B-1) k () ());rw[show B-(B-1)=1 by nofun,yV,show A-(B-1)-1=A-B by have:=I.ba;nofun,<-Y7] at s
 exact s
theorem nQ.high(I:nQ S1 F G A B x h)(hg:G B=c)(g0:∀k,B<k->G k=0)(ab:B<A):Pm (c^(A-B)) (h^(A-B-1)*S1 B B):=by
 have s:=(Es (f:=F) ab hg g0).symm.trans (I.main B B () ());rw[show B-B=0 by nofun,Xy,Xu] at s
 exact s
theorem nQ.step(I:nQ S1 F G A B x h)(hg:G B=c)(hc:c≠0)(g0:∀k,B<k->G k=0)(e:∀k,c^(A-B+1)*F k=cv q G (A-B+1) k+x*h^(A-B)*r k)(r0:∀k,d<k->r k=0)(hd:d<B)(n0:h'≠0)(hh:A=B/\h'=h\/B<A/\h'*h^(A-B-1)=c^(A-B)):nQ S1 G r B d c h':=by
 refine⟨(),hc,n0,λz=>by nofun,λj k hj hk=>?_⟩
 have ab:=I.ba;have s:=Fz (k:=k) I.ba hd hj hg g0 r0 e;have m:=(I.main j k () hk).mul ((c^(A-B+1))^(B-j));have p:=s.symm.trans m;refine Pm.of_mul (a:=(x*h^(A-B))^(B-j)*c^(A-d)) ?_ (Xc (XA (Xc I.x0 (XA I.h0))) (XA hc));rw[Y7];refine p.trans (.inl ?_);obtain⟨n,hn⟩ : ∃n,B-j=n+1:=⟨B-j-1,()⟩;rw[show B-j-1=n by nofun,hn,imp,JY,JY,show A-j-1=A-B+n by nofun]
 have key:h^((A-B)*(n+1))*c^(A-d)*(c^(d-j)*h'^n)=c^((A-B+1)*(n+1))*h^(A-B+n):=by
  have e1:c^(A-d)*c^(d-j)=c^(A-B+(n+1)):=by rw[<-JW];congr 1;nofun
  rw[Y7,<-Y7 (c^(A-d)),e1,<-Y7];rcases hh with ⟨z1,z2⟩|⟨z1,z2⟩
  .have h1:=I.one z1;rw[z2,h1,Int.one_pow,Int.one_pow,Int.one_pow,show A-B=0 by nofun,Xu,Int.mul_one,Int.mul_one]
   congr 1
   nofun
  .obtain⟨e',he⟩ : ∃e',A-B=e'+1:=⟨A-B-1,()⟩;rw[show A-B-1=e' by nofun,he] at z2
   rw[he];exact Kz z2
 generalize h^((A-B)*(n+1))=u at *
 generalize h^(A-B+n)=v at *
 generalize c^((A-B+1)*(n+1))=w at *
 generalize c^(A-d)=y at *
 generalize c^(d-j)=y' at *
 generalize h'^n=z at *
 generalize x^(n+1)=t at *
 generalize S1 j k=S at *
 have k2:t*(u*y*(y'*z))*S=t*(w*v)*S:=by rw[key]
 grind
end
theorem uT{f f' g:Nat->Rat}:∀n,(∀i,i<n->f i=f' i) -> ∀k,pr f g n k=pr f' g n k
 | 0,_,_=>rfl
 | n+1,h,k=>by
  show pr f g n k+(if n<=k then f n*g (k-n) else 0)=pr f' g n k+(if n<=k then f' n*g (k-n) else 0)
  rw[uT n (λi hi=>h i ()) k,h n ()]
theorem Jv{f g:Nat->Rat}:∀n,(∀i,i<n->f i=0) -> ∀k,pr f g n k=0
 | 0,_,_=>rfl
 | n+1,h,k=>by
  show pr f g n k+(if n<=k then f n*g (k-n) else 0)=0
  rw[Jv n (λi hi=>h i ()) k,h n ()];split<;>grind
theorem zf{q g:Nat->Int}{k:Nat}:∀n,cv q g n k=pz q g n k
 | 0=>rfl
 | n+1=>by
  show cv q g n k+q n*sh g n k=pz q g n k+if n<=k then q n*g (k-n) else 0
  rw[zf n];unfold sh;split
  .rfl
  .rw[Xo]
theorem Bt.pm{n:Nat}{x y:Int}(h:Bt n x)(p:Pm y x):Bt n y:=by
 unfold Bt at *
 rcases p with e|e<;>nofun
theorem Bt.pow{b:Nat}{x:Int}(h:Bt b x):∀n,1<=n->Bt (b*n) (x^n)
 | 0,h0=>by nofun
 | 1,_=>by rw[yV,Nat.mul_one];exact h
 | n+2,_=>by
  rw[Xz,Nat.mul_succ];exact (Bt.pow h (n+1) ()).mul h
theorem Bt.pow1{b:Nat}{x:Int}(h:Bt b x)(n:Nat):Bt (b*n+1) (x^n):=by
 cases n with
 | zero=>rw[Xy];exact Bt.mono (m:=1) ∅ ()
 | succ n=>exact (Bt.pow h (n+1) ()).mono ()
theorem Hk{q g:Nat->Int}{n k:Nat}:((pz q g n k:Int):Rat)=pr (λi=>(q i:Rat)) (λi=>(g i:Rat)) n k:=by
 rw[oJ (F:=λi=>(q i:Rat)) (G:=λi=>(g i:Rat)) (c:=1) (d:=1) (λi=>by grind) (λi=>by grind)]
 grind
def jB(ns:List Int)(k:Nat):Rat:=((nz ns k:Int):Rat)
theorem Fp{l:List Int}{k:Nat}(h:l.length<=k):jB l k=0:=by
 show ((nz l k:Int):Rat)=0;rw[bC h];rfl
end L2
namespace L2
open PySem PySem.Spec PyProof.Rows
theorem AH{X:Cx}{k:Nat}{env:Env}{l:List Env}(N:pB X.prog X.base)(hr:fW k X.A)(hst:X.stack=env::l)(hgen:env.scope.isGenerator=false)(hco:env.scope.isCoroutine=false)(hb:env.builtins=builtinsNs)(hg:env.globals=mainGlobals) :
  el X (binaryOp .FloorDiv) (rI zM λi j=>.int (i.fdiv j)):=by
 intro pins s σ H x y v u Q I rx ry h;obtain⟨i,j,rfl,rfl,hc,q⟩:=h;obtain⟨t,rfl⟩:=rx;obtain⟨t',rfl⟩:=ry;refine floordiv_int hc ⟨.int (i.fdiv j),H,I.tok _,⟨_,rfl⟩,q⟩ (.inr ?_);refine PySem.PylongRoom.of I.nolimit ?_ (PySem.SeerAt.of (N.seer.keeps I.bk) N.tree (I.ok.frames.trans (Yn some hst)) hgen hco hb hg);have:=hr.dp;show X.A.depth+100<recursionLimit;nofun
theorem ER{f g:Nat->Int}{a b j k B:Nat}(ha:a<=8)(hb:b<=a)(jb:j<=b)(kj:k<=j)(hB:1<=B)(hf:∀i,(f i).natAbs<2^B)(hg:∀i,(g i).natAbs<2^B):(SR f g a b j k).natAbs<2^(65+16*B):=by
 by_cases h0:a+b-j=0
 .have:SR f g a b j k=1:=by
   unfold SR;rw[h0,show b-j=0 by nofun,show a-j=0 by nofun]
   have:Ej j k=[]:=List.length_eq_zero_iff.mp (by rw[ug kj];nofun)
   rw[show st (sh f) 0 0++(st (sh g) 0 0++Ej j k)=Ej j k from rfl,this]
   rfl
  rw[this];exact Nat.one_lt_two_pow ()
 obtain⟨C,hC⟩ : ∃C,C=2^B:=⟨_,rfl⟩;have c1:1<=C:=hC▸Nat.one_le_two_pow;have r:=vN (M:=a+b-j) (C:=C) (rows:=st (sh f) 0 (b-j)++(st (sh g) 0 (a-j)++Ej j k)) (Nat.mul_pos () c1) (λr hr i=>by
  rcases List.mem_append.mp hr with z|z
  .obtain⟨i',_,rfl⟩:=jn z;exact rV (λi=>by have:=hf i;nofun) _ _
  .rcases List.mem_append.mp z with z|z
   .obtain⟨i',_,rfl⟩:=jn z;exact rV (λi=>by have:=hg i;nofun) _ _
   .obtain⟨i',_,rfl⟩:=List.mem_map.mp z;unfold kh;split<;>simp<;>nofun) (vK (a+b-j))
 have hl:(st (sh f) 0 (b-j)++(st (sh g) 0 (a-j)++Ej j k)).length=a+b-j:=by
  rw[YB,YB,mi,mi,ug kj];nofun
 rw[hl] at r;have e1:((a+b-j)*C)^(a+b-j)<=(16*C)^16:=Yg (Nat.pow_le_pow_left (Nat.mul_le_mul_right _ ()) _) (YV () ());have e2:(16*C)^16<2^(65+16*B):=by
  rw[Nat.mul_pow,hC,<-Nat.pow_mul,YX,YM B 16];exact Nat.mul_lt_mul_of_pos_right ∅ Nat.one_le_two_pow
 unfold SR dt;nofun
structure wK (Z:Nat)(S1:Nat->Nat->Int)(F G:Nat->Int)(A B:Nat)(x h:Int):Prop where
 inv:nQ S1 F G A B x h
 a6:A<=8
 bS:∀j k,j<=B->k<=j->Bt Z (S1 j k)
 bF:∀k,Bt Z (F k)
 bG:∀k,Bt Z (G k)
 bx:Bt Z x
 bh:Bt Z h
 g1:G B≠0
 g0:∀k,B<k->G k=0
 f0:∀k,A<k->F k=0
theorem wK.first{F G:Nat->Int}{A B b:Nat}(h:B<=A)(ha:A<=8)(hb:1<=b)(bF:∀k,Bt b (F k))(bG:∀k,Bt b (G k))(g1:G B≠0)(g0:∀k,B<k->G k=0)(f0:∀k,A<k->F k=0):wK (65+16*b) (SR F G A B) F G A B 1 1 :=
 ⟨.first h,ha,λj k hj hk=>ER ha h hj hk hb bF bG,λk=>(bF k).mono (),λk=>(bG k).mono (),Bt.mono (m:=1) ∅ (),Bt.mono (m:=1) ∅ (),g1,g0,f0⟩
section
variable {Z:Nat}{S1:Nat->Nat->Int}{F G q R:Nat->Int}{A B:Nat}{x h:Int}
theorem wK.rest(I:wK Z S1 F G A B x h)(r0:∀k,B<=k->R k=0)(e:∀k,G B^(A-B+1)*F k=pz q G (A-B+1) k+R k) :
  ∃(r:Nat->Int)(h':Int),(∀k,R k=x*h^(A-B)*r k)/\(∀k,Bt Z (r k))/\(∀k,B<=k->r k=0)/\h'≠0/\Bt Z h'/\(A=B/\h'=h\/B<A/\h'*h^(A-B-1)=G B^(A-B)) /\
   ∀d,d<B->r d≠0->(∀k,d<k->r k=0)->wK Z S1 G r B d (G B) h':=by
 have e':∀k,G B^(A-B+1)*F k=cv q G (A-B+1) k+R k:=λk=>by rw[zf];exact e k
 have dv:∀k,∃y:Int,R k=x*h^(A-B)*y/\Bt Z y/\(B<=k->y=0):=λk=>by
  by_cases hk:k<B
  .have p:=I.inv.rest rfl I.g1 I.g0 r0 e' k hk;have b:=I.bS (B-1) k () ();rcases p with z|z
   .exact⟨_,z,b,λ_=>by nofun⟩
   .exact⟨- S1 (B-1) k,by rw[z,Int.mul_neg],b.pm (.inr rfl),λ_=>by nofun⟩
  .exact⟨0,by rw[r0 k (),Xo],gF,λ_=>rfl⟩
 have hi:∃h':Int,h'≠0/\Bt Z h'/\(A=B/\h'=h\/B<A/\h'*h^(A-B-1)=G B^(A-B)):=by
  by_cases ab:A=B
  .exact⟨h,I.inv.h0,I.bh,.inl ⟨ab,rfl⟩⟩
  .have ba:=I.inv.ba;have p:=I.inv.high rfl I.g0 ();have b:=I.bS B B () ();have nz:G B^(A-B)≠0:=XA I.g1;rcases p with z|z
   .exact⟨S1 B B,λy=>nz (by rw[z,y,Xo]),b,.inr ⟨(),by rw[z,Y8]⟩⟩
   .exact⟨- S1 B B,λy=>nz (by rw[z,show S1 B B=0 by nofun,Xo];rfl),b.pm (.inr rfl),.inr ⟨(),by rw[z,Int.neg_mul,Y8]⟩⟩
 obtain⟨h',n0,bh',hh⟩:=hi;refine⟨λk=>(dv k).choose,h',λk=>(dv k).choose_spec.1,λk=>(dv k).choose_spec.2.1,λk hk=>(dv k).choose_spec.2.2 hk,n0,bh',hh,λd hd rd rz=>?_⟩;refine⟨I.inv.step (q:=q) rfl I.g1 I.g0 (λk=>?_) rz hd n0 hh,Yg I.inv.ba I.a6,λj k hj hk=>I.bS j k () hk,I.bG,λk=>(dv k).choose_spec.2.1,I.bG B,bh',rd,rz,I.g0⟩;rw[<-(dv k).choose_spec.1];exact e' k
end
def jI(b:Nat)(ns:List Int):Prop:=ns.length<=9/\(∀x∈ns,Bt b x)/\(ns≠[]->nz ns (ns.length-1)≠0)
theorem jI.up{b c:Nat}{l:List Int}(h:jI b l)(bc:b<=c):jI c l:=⟨h.1,λx hx=>(h.2.1 x hx).mono bc,h.2.2⟩
theorem gK{q:List (Int×Int)}(h:aL q)(n:q≠[]):cf q (q.length-1)≠0:=by
 have hl:0<q.length:=List.length_pos_iff.mpr n;have e:q[q.length-1]? = some (q[q.length-1]'()):=YR ();rw[aA e];intro z;refine h.2 _ (by rw[YZ,e]) ?_
 exact (fU (h.1 _ (YQ _)).ne).mp z
def ab(a b:Rat):List (List Int×List Int×Int×Int)->Nat->Rat×Rat
 | _,0=>(a,b)
 | [],_+1=>(a,b)
 | row::rows,n+1=>ab b (-(a*(row.2.2.1:Rat))/(row.2.2.2:Rat)) rows n
theorem Pb.slope{a:Nat}{fs gs:List (Int×Int)}(h:Pb a (cf fs))(hl:fs.length<=9)(e:∀k,cf gs k=((k+1:Nat):Int)*cf fs (k+1)):Pb (a+4) (cf gs):=by
 obtain⟨D,h0,h1,h2⟩:=h;refine⟨D,h0,h1.mono (),λk=>?_⟩;by_cases hk:k+1<16
 .obtain⟨n,e1,b1⟩:=h2 (k+1);refine⟨((k+1:Nat):Int)*n,?_,?_⟩
  .rw[e k,e1,Xe,XB,XB];grind
  .have:Bt 4 ((k+1:Nat):Int):=by
    show (((k+1:Nat):Int)).natAbs<2^4;nofun
   exact (this.mul b1).mono ()
 .refine⟨0,?_,gF⟩;rw[e k,aE ()];have c0:((0:Int):Rat)=0:=rfl;rw[c0];have d:=ao h0;grind
theorem uY{X:Cx}{k:Nat}{env:Env}{l:List Env}(N:pB X.prog X.base)(hr:fW k X.A)(hst:X.stack=env::l)(hgen:env.scope.isGenerator=false)(hco:env.scope.isCoroutine=false)(hb:env.builtins=builtinsNs)(hg:env.globals=mainGlobals) :
  el X (binaryOp .FloorDiv) (rI zM λi j=>.int (i.fdiv j)):=by
 intro pins s σ H x y v u Q I rx ry h;obtain⟨i,j,rfl,rfl,hc,q⟩:=h;obtain⟨t,rfl⟩:=rx;obtain⟨t',rfl⟩:=ry;refine floordiv_int hc ⟨.int (i.fdiv j),H,I.tok _,⟨_,rfl⟩,q⟩ (.inr ?_);refine PySem.PylongRoom.of I.nolimit ?_ (PySem.SeerAt.of (N.seer.keeps I.bk) N.tree (I.ok.frames.trans (Yn some hst)) hgen hco hb hg);have:=hr.dp;show X.A.depth+100<recursionLimit;nofun
theorem HI{x y:Int×Int}(z:fr x=fr y):x=y:=by
 unfold fr at z;injection z with z
 injection z with z1 z2
 injection z1 with z1
 injection z2 with z2 _
 injection z2 with z2
 exact Prod.ext z1 z2
theorem gA{fs gs:List (Int×Int)}(e:D.lst (fs.map fr)=.lst (gs.map fr)):fs=gs:=by
 injection e with e
 exact List.map_inj_right (λ_ _ z=>HI z) |>.mp e
theorem tW{d:D}(h:d.poly=true):∃fs,d=.lst (fs.map fr)/\aL fs:=by
 cases d with
 | lst ds =>
  have h':(ds.all D.frac && jX ds)=true:=h;rw[YF] at h';obtain⟨h1,h2⟩:=h';have key:∀ds:List D,ds.all D.frac=true -> ∃fs:List (Int×Int),ds=fs.map fr /\ ∀q∈fs,Fq q:=by
   intro ds;induction ds with
   | nil=>exact λ_=>⟨[],rfl,by simp⟩
   | cons d ds ih =>
    intro z;rw[List.all_cons,YF] at z;obtain⟨q,rfl,fq⟩:=D.frac_fr z.1;obtain⟨fs,rfl,hf⟩:=ih z.2;refine⟨q::fs,rfl,λp hp=>?_⟩;rcases Y0.mp hp with rfl|y
    .exact fq
    .exact hf p y
  obtain⟨fs,rfl,hf⟩:=key ds h1;refine⟨fs,rfl,hf,λq hq z=>?_⟩;have hq':(fs.map fr).getLast? = some (fr q):=by rw[List.getLast?_map,hq];rfl
  have e:=mW hq';rw[h2] at e;have fq:=hf q (List.mem_of_getLast? hq);have:q=(0,1):=(oF fq).mpr z;rw[YO this] at e;cases e
 | _=>unfold D.poly at h;cases h
end L2
namespace L2
open PySem
section
variable {S u u' v v':Nat->Rat}{m n:Nat}
theorem nL{m':Nat}(h:∀i,m<=i->u i=0)(hm:m<=m'):ip S u v m' n=ip S u v m n:=by
 obtain⟨d,rfl⟩ : ∃d,m'=m+d:=⟨m'-m,()⟩;exact dR (λi hi=>by rw[h i hi];grind) d
theorem xm:ip S (λi=>u i+u' i) v m n=ip S u v m n+ip S u' v m n:=jS _
theorem vR{c:Rat}:ip S (λi=>c*u i) v m n=c*ip S u v m n:=iW _
theorem Ho:ip S u (λi=>v i+v' i) m n=ip S u v m n+ip S u v' m n:=by
 rw[dC,xm,dC,dC (u:=v')]
theorem GI{c:Rat}:ip S u (λi=>c*v i) m n=c*ip S u v m n:=by
 rw[dC,vR,dC]
theorem vG(h:∀i,u i=u' i):ip S u v m n=ip S u' v m n:=by rw[show u=u' from funext h]
theorem yv(h:∀i,u i=0):ip S u v m n=0:=aW m λi _=>by rw[h i];grind
end
section
variable {W:Nat->Int}{B:Int}{S:Nat->Rat}
theorem rG{k n m:Nat}{v:Nat->Rat}(hD:Dk W k≠0)(hB:B≠0)(hS:∀i,((W i:Int):Rat)=S i*(B:Rat))(hm:k+1<=m):ip S v (Pk W k) n m=ak v (λi=>((Lq W k i:Int):Rat)/(((Dk W k:Int):Rat)*(B:Rat))) n:=uc hD hB (λ_=>rfl) hS hm n
theorem Ja(c:Rat):0<=c*c:=Fl c
theorem pd(hB:0<B)(hS:∀i,((W i:Int):Rat)=S i*(B:Rat)):∀m,(∀i,i<=m->0<Dk W i) -> ∀r:Nat->Rat,(∀i,m<=i->r i=0)->0<=ip S r r m m/\(ip S r r m m=0 -> ∀i,r i=0)
 | 0,_,r,hr=>⟨Rat.le_refl,λ_ i=>hr i (YK _)⟩
 | m+1,hD,r,hr=>by
  have dm:=hD m ();have dn:Dk W m≠0:=();have d1:=hD (m+1) (Yp _);have bn:B≠0:=();obtain⟨r',hr'⟩ : ∃r':Nat->Rat,∀i,r' i=r i + -(r m)*Pk W m i:=⟨_,λ_=>rfl⟩;have z':∀i,m<=i->r' i=0:=λi hi=>by
   rw[hr'];by_cases e:i=m
   .rw[e,fS dn];grind
   .rw[jw (),hr i ()];grind
  obtain⟨p1,p2⟩:=pd hB hS m (λi hi=>hD i ()) r' z';have er:∀i,r i=r' i+r m*Pk W m i:=λi=>by rw[hr'];grind
  obtain⟨c,hc⟩ : ∃c,c=r m:=⟨_,rfl⟩;obtain⟨h,hh⟩ : ∃h:Rat,h=((Dk W (m+1):Int):Rat)/(((Dk W m:Int):Rat)*(B:Rat)):=⟨_,rfl⟩;have h0:0<h:=by
   rw[hh,XB];refine XC (by exact_mod_cast d1) (Rat.inv_pos.mpr (XC (by exact_mod_cast dm) (by exact_mod_cast hB)))
  have e1:ip S r' (Pk W m) (m+1) (m+1)=0:=by
   rw[rG dn bn hS (Yp _)];refine aW _ λi hi=>?_;by_cases e:i=m
   .rw[z' i ()];grind
   .rw[gh ()];have z0:((0:Int):Rat)=0:=rfl;rw[z0];grind
  have e2:ip S r (Pk W m) (m+1) (m+1)=c*h:=by
   rw[rG dn bn hS (Yp _)];show ak r _ m+r m*(((Lq W m m:Int):Rat)/_)=_;rw[aW m λi hi=>by rw[gh hi,show ((0:Int):Rat)=0 from rfl];grind,fb,hc,hh]
   grind
  have e3:ip S r r (m+1) (m+1)=ip S r' r' m m+c*c*h:=by
   have a1:ip S r r (m+1) (m+1)=ip S r' r (m+1) (m+1)+c*ip S (Pk W m) r (m+1) (m+1):=by
    rw[vG (u':=λi=>r' i+c*Pk W m i) λi=>by rw[er i,hc],xm,vR]
   have a2:ip S r' r (m+1) (m+1)=ip S r' r' (m+1) (m+1)+c*ip S r' (Pk W m) (m+1) (m+1):=by
    have er':r=λi=>r' i+c*Pk W m i:=funext λi=>by rw[er i,hc]
    have:ip S r' r (m+1) (m+1)=ip S r' (λi=>r' i+c*Pk W m i) (m+1) (m+1):=by rw[<-er']
    rw[this,Ho,GI]
   rw[a1,a2,e1,dC (u:=Pk W m),e2,nL z' (),dC,nL z' ()];grind
  have sq:=Rat.mul_nonneg (Ja c) (Rat.le_of_lt h0);refine⟨by rw[e3];grind,λe=>?_⟩
  rw[e3] at e;have q1:ip S r' r' m m=0:=⋯;have q2:c*c*h=0:=⋯;have c0:c=0:=by
   have hn:h≠0:=⋯;have:c*c=0:=⋯;grind
  intro i;rw[er i,p2 q1 i,<-hc,c0];grind
theorem KN{m n:Nat}(hB:B≠0)(hS:∀i,((W i:Int):Rat)=S i*(B:Rat))(hD:Dk W m≠0)(ng:∀i,i+(m+1)<=n->Lq W m i=0):∀(L:Nat)(f:Nat->Rat),(∀i,L<=i->f i=0) -> ∃r:Nat->Rat,(∀i,m<=i->r i=0) /\ ∀(v:Nat->Rat)(N:Nat),L+N<=n+1->ip S f v L N=ip S r v m N
 | 0,f,hf=>⟨λ_=>0,λ_ _=>rfl,λv N _=>by rw[yv λi=>hf i (YK _),yv λ_=>rfl]⟩
 | L+1,f,hf=>by
  by_cases hL:L<m
  .exact⟨f,λi hi=>hf i (),λv N _=>(nL hf ()).symm⟩
  .obtain⟨p,hp⟩ : ∃p:Nat->Rat,∀i,p i=if L-m<=i then 1*Pk W m (i-(L-m)) else 0:=⟨_,λ_=>rfl⟩
   obtain⟨f',hf'⟩ : ∃f':Nat->Rat,∀i,f' i=f i + -(f L)*p i:=⟨_,λ_=>rfl⟩;have z':∀i,L<=i->f' i=0:=λi hi=>by
    rw[hf',hp,Yb ()];by_cases e:i=L
    .rw[e,show L-(L-m)=m by nofun,fS hD]
     grind
    .rw[hf i (),jw ()];grind
   obtain⟨r,r0,hr⟩:=KN hB hS hD ng L f' z';refine⟨r,r0,λv N hN=>?_⟩;rw[<-hr v N (),<-nL (m':=L+1) z' ()];have e1:ip S p v (L+1) N=0:=by
    unfold ip;rw[show p=λi=>if L-m<=i then 1*Pk W m (i-(L-m)) else 0 from funext hp,mz,show L+1-(L-m)=m+1 by nofun]
    have e2:ak (Pk W m) (λj=>ak v (λj_1=>S (L-m+j+j_1)) N) (m+1)=ip (λi=>S (L-m+i)) (Pk W m) v (m+1) N:=by
     unfold ip;refine aD _ (λ_ _=>rfl) λi _=>aD _ (λ_ _=>rfl) λj _=>?_;show S (L-m+i+j)=S (L-m+(i+j));rw[Xx]
    rw[e2,dC];unfold ip;rw[aW N λj hj=>?_]
    .grind
    .have s:=gS (S:=S) (P:=Pk W m) hD hB (λ_=>rfl) hS (L-m+j);have e3:ak (Pk W m) (λi=>S (L-m+(j+i))) (m+1)=((Lq W m (L-m+j):Int):Rat)/(((Dk W m:Int):Rat)*(B:Rat)):=by
      rw[<-s];exact aD _ (λ_ _=>rfl) λi _=>by rw[Xx]
     rw[e3,ng _ (),show ((0:Int):Rat)=0 from rfl]
     grind
   have e4:ip S f v (L+1) N=ip S f' v (L+1) N+f L*ip S p v (L+1) N:=by
    rw[vG (u:=f) (u':=λi=>f' i+f L*p i) λi=>by rw[hf'];grind,xm,vR]
   rw[e4,e1];grind
end
end L2
namespace L2
open PySem PySem.Spec PyProof.Rows
theorem AS{X:Cx}{k:Nat}(N:pB X.prog X.base)(hr:fW k X.A)(hst:X.stack=X.env::X.outer)(hgen:X.env.scope.isGenerator=false)(hco:X.env.scope.isCoroutine=false) :
  FT X .FloorDiv (λx y H Q=>∃i j,x=.int i/\y=.int j/\zM i j/\Q (.int (i.fdiv j)) H):=by
 intro pins s σ H x y v u Q I r1 r2 h;obtain⟨i,j,rfl,rfl,m,q⟩:=h;obtain⟨t,rfl⟩:=r1;obtain⟨t',rfl⟩:=r2;refine ifloordiv_int m ⟨.int _,H,I.tok _,⟨_,rfl⟩,q⟩ (.inr ?_);refine PySem.PylongRoom.of I.nolimit ?_ (PySem.SeerAt.of (N.seer.keeps I.bk) N.tree (I.ok.frames.trans (Yn some hst)) hgen hco I.ok.blt I.ok.glob);have:=hr.dp;show X.A.depth+100<recursionLimit;nofun
def Bd(n:Nat)(f:Nat->Rat):Prop:=∀i,n<=i->f i=0
def Tp(d:Nat)(f:Nat->Rat):Prop:=f d≠0/\Bd (d+1) f
theorem Bd.mono{m n:Nat}{f:Nat->Rat}(h:Bd m f)(l:m<=n):Bd n f:=λi hi=>h i ()
theorem Bd.add{n:Nat}{f g:Nat->Rat}{c:Rat}(h:Bd n f)(k:Bd n g):Bd n (λi=>f i+c*g i):=λi hi=>by
 show f i+c*g i=0;rw[h i hi,k i hi];grind
theorem Bd.tp:∀{n:Nat}{f:Nat->Rat},Bd n f->(∀i,f i=0) \/ ∃d,d<n/\Tp d f
 | 0,f,h=>.inl λi=>h i (YK _)
 | n+1,f,h=>by
  by_cases e:f n=0
  .rcases Bd.tp (n:=n) (f:=f) (λi hi=>by
    by_cases z:i=n
    .rw[z,e]
    .exact h i ()) with z|⟨d,hd,t⟩
   .exact .inl z
   .exact .inr ⟨d,(),t⟩
  .exact .inr ⟨n,(),e,h⟩
theorem gE{f:Nat->Rat}(h:∀i,f i=0)(x:Rat):EV f x=0:=by
 rw[ii (n:=0) (λk _=>h k) ∅];rfl
theorem gu{f g:Nat->Rat}{c:Rat}(x:Rat):EV (λi=>f i+c*g i) x=EV f x+c*EV g x:=by
 have:EV (λi=>c*g i) x=c*EV g x:=by rw[Cw,Cw (v:=g),iW]
 rw[mX,this]
theorem Bd.pr{m n:Nat}{f g:Nat->Rat}(hg:Bd n g):Bd (m+n) (λk=>L2.pr f g m k):=λk hk=>eU hg _ _ ()
theorem iS{m n:Nat}{f g:Nat->Rat}(hf:Bd m f)(hg:Bd n g)(h:m+n<=20)(x:Rat):EV (λk=>pr f g m k) x=EV f x*EV g x:=by
 rw[Cq hg m h,ii hf (),ii hg ()]
theorem zR{g:Nat->Rat}{d:Nat}(hg:Tp d g):∀(n:Nat)(f:Nat->Rat),Bd (n+d) f -> ∃q r:Nat->Rat,Bd n q/\Bd d r /\ ∀k,f k=pr q g n k+r k
 | 0,f,h=>⟨λ_=>0,f,λ_ _=>rfl,λi hi=>h i (),λk=>by show f k=0+f k;grind⟩
 | n+1,f,h=>by
  have g0:=hg.1;obtain⟨c,hc⟩ : ∃c,c=f (n+d)/g d:=⟨_,rfl⟩;obtain⟨q,r,bq,br,e⟩:=zR hg n (λk=>f k-if n<=k then c*g (k-n) else 0) (λi hi=>by
   show f i-(if n<=i then c*g (i-n) else 0)=0
   rw[Yb ()];by_cases z:i=n+d
   .rw[z,Nat.add_sub_cancel_left,hc];grind
   .rw[h i (),hg.2 _ ()];grind)
  refine⟨λi=>if i=n then c else q i,r,λi hi=>?_,br,λk=>?_⟩
  .show (if i=n then c else q i)=0
   rw[Yc (),bq i ()]
  .show f k=pr _ g n k+(if n<=k then (if n=n then c else q n)*g (k-n) else 0)+r k
   rw[uT n (f':=q) λi hi=>Yc (),Yb rfl];have:=e k;grind
theorem kK{f q e:Nat->Rat}{n d:Nat}(hf:Bd n f)(hn:n<=20)(te:Tp d e)(d6:d<=6)(bq:Bd 13 q)(h:∀x,EV f x=EV q x*EV e x):Bd (n-d) q/\(n<=d -> ∀i,f i=0):=by
 have c:∀k,f k=pr q e 13 k:=jT (hf.mono hn) ((Bd.pr te.2).mono ()) λx=>by rw[h x,iS bq te.2 ()]
 obtain⟨q0,r0,b0,s0,z⟩:=zR te (n-d) f (hf.mono ());obtain⟨u1,u2⟩:=vZ (q:=q) (q':=q0) (r:=λ_=>0) (r':=r0) bq b0 (λj hj=>te.2 j ()) te.1 (λ_ _=>rfl) s0 λk=>by rw[<-z k,c k];grind
 have bq':Bd (n-d) q:=λi hi=>by rw[u1 i,b0 i hi]
 refine⟨bq',λhd i=>?_⟩;have q0':∀i,q i=0:=λi=>bq' i ();rw[c i,Jv _ λj _=>q0' j]
theorem yz{f g q r:Nat->Rat}{n d:Nat}(te:Tp d g)(bq:Bd n q)(h:n+(d+1)<=20)(e:∀k,f k=pr q g n k+r k)(x:Rat):EV f x=EV q x*EV g x+EV r x:=by
 rw[dH (g:=λk=>(λk=>pr q g n k) k+r k) e,mX,iS bq te.2 h]
theorem jC{n:Nat}{f:Nat->Rat}(h:Bd (n+1) f):Bd n (DF f):=λi hi=>by
 show (((i+1:Nat):Int):Rat)*f (i+1)=0;rw[h _ ()];grind
theorem FP{f g:Nat->Rat}{c:Rat}(k:Nat):DF (λi=>f i+c*g i) k=DF f k+c*DF g k:=by
 show (((k+1:Nat):Int):Rat)*(f (k+1)+c*g (k+1))=(((k+1:Nat):Int):Rat)*f (k+1)+c*((((k+1:Nat):Int):Rat)*g (k+1));grind
theorem BY{g:Nat->Rat}{m:Nat}(bg:Bd m g):∀(n:Nat)(f h:Nat->Rat),Bd n f->n+m<=19->Bd 20 h->(∀x,EV h x=EV f x*EV g x) -> ∀x,EV (DF h) x=EV (DF f) x*EV g x+EV f x*EV (DF g) x
 | 0,f,h,bf,l,bh,e,x=>by
  have f0:∀i,f i=0:=λi=>bf i (YK _);have h0:∀i,h i=0:=jT bh (g:=λ_=>0) (λ_ _=>rfl) λx=>by rw[e x,gE f0,gE (f:=λ_=>0) λ_=>rfl];grind
  rw[gE (f:=DF h) λi=>by show _*h (i+1)=0;rw[h0];grind,gE (f:=DF f) λi=>by show _*f (i+1)=0;rw[f0];grind,gE f0]
  grind
 | n+1,f,h,bf,l,bh,e,x=>by
  obtain⟨f1,hf1⟩ : ∃f1:Nat->Rat,∀k,f1 k=f (k+1):=⟨_,λ_=>rfl⟩;have b1:Bd n f1:=λi hi=>by rw[hf1,bf _ ()]
  obtain⟨one,h1⟩ : ∃one:Nat->Rat,∀k,one k=if k=0 then 1 else 0:=⟨_,λ_=>rfl⟩
  have one1:∀x,EV one x=1:=λx=>by
   rw[ii (n:=1) (λk hk=>by rw[h1,Yc ()]) ∅]
   show 0+one 0*1=(1:Rat);rw[h1,Yb rfl];grind
  have ef:∀k,f k=lin 0 1 f1 k+f 0*one k:=λk=>by
   cases k with
   | zero=>show f 0=f1 0*0+f 0*one 0;rw[h1,Yb rfl];grind
   | succ k=>show f (k+1)=f1 (k+1)*0+f1 k*1+f 0*one (k+1);rw[h1,Yc (),hf1];grind
  have z1:f1 19=0:=b1 _ ();have vf:∀x,EV f x=x*EV f1 x+f 0:=λx=>by rw[dH ef,gu,sV z1,one1];grind
  have df:∀x,EV (DF f) x=x*EV (DF f1) x+EV f1 x:=λx=>by
   have:∀k,DF f k=lin 0 1 (DF f1) k+f1 k:=λk=>by
    rw[show f=λk=>lin 0 1 f1 k+f 0*one k from funext ef,FP,BO]
    have:DF one k=0:=by show _*one (k+1)=0;rw[h1,Yc ()];grind
    rw[this];grind
   rw[dH this,mX,sV (by show _*f1 20=0;rw[b1 _ ()];grind)]
   grind
  obtain⟨u,hu⟩ : ∃u:Nat->Rat,u=λk=>pr f1 g n k:=⟨_,rfl⟩;have bu:Bd 19 u:=by rw[hu];exact (Bd.pr bg).mono ()
  have vu:∀x,EV u x=EV f1 x*EV g x:=λx=>by rw[hu,iS b1 bg ()]
  have ih:=BY bg n f1 u b1 () (bu.mono ()) vu;have eh:∀k,h k=lin 0 1 u k+f 0*g k:=jT bh (λk hk=>by
   obtain⟨j,rfl⟩ : ∃j,k=j+1:=⟨k-1,()⟩;show u (j+1)*0+u j*1+f 0*g (j+1)=0;rw[bu j (),bg _ ()];grind) λx=>by rw[e x,vf,gu,sV (bu 19 ()),vu];grind
  have dh:EV (DF h) x=x*EV (DF u) x+EV u x+f 0*EV (DF g) x:=by
   have:∀k,DF h k=(λk=>lin 0 1 (DF u) k+u k) k+f 0*DF g k:=λk=>by
    rw[show h=λk=>lin 0 1 u k+f 0*g k from funext eh,FP,BO]
   rw[dH this,gu,mX,sV (by show _*u 20=0;rw[bu _ ()];grind)]
   grind
  rw[dh,ih,vu,df,vf];grind
theorem BH{S u v:Nat->Rat}{a b:Nat}(bv:Bd b v)(h:a+b<=20):ip S u v a b=ak (λk=>pr u v a k) S 20:=by
 rw[tK];unfold ip;refine aD a (λ_ _=>rfl) λi hi=>?_;rw[show 20-i=b+(20-i-b) by nofun]
 exact (dR (λj hj=>by rw[bv j hj];grind) _).symm
theorem Fx{S u v u' v':Nat->Rat}{a b a' b':Nat}(bu:Bd a u)(bv:Bd b v)(bu':Bd a' u')(bv':Bd b' v')(h:a+b<=20)(h':a'+b'<=20)(e:∀x,EV u x*EV v x=EV u' x*EV v' x):ip S u v a b=ip S u' v' a' b':=by
 rw[BH bv h,BH bv' h'];have:∀k,pr u v a k=pr u' v' a' k:=jT ((Bd.pr bv).mono h) ((Bd.pr bv').mono h') λx=>by rw[iS bu bv h,iS bu' bv' h',e x]
 rw[show (λk=>pr u v a k)=λk=>pr u' v' a' k from funext this]
def uU(e f:Nat->Rat):Prop:=∃q,Bd 13 q /\ ∀x,EV f x=EV q x*EV e x
theorem least{Φ:Nat->Prop}:∀{n:Nat},Φ n -> ∃m,Φ m /\ ∀k,Φ k->m<=k:=by
 intro n;induction n using Nat.strongRecOn with
 | ind n ih =>
  intro h;by_cases e:∃k,Φ k/\k<n
  .obtain⟨k,hk,l⟩:=e;exact ih k l hk
  .exact⟨n,h,λk hk=>XD λz=>e ⟨k,hk,()⟩⟩
theorem uU.trans{s e f:Nat->Rat}{m n:Nat}(bq:∃q,Bd m q /\ ∀x,EV e x=EV q x*EV s x)(h:∃q,Bd n q /\ ∀x,EV f x=EV q x*EV e x)(l:m+n<=13):uU s f:=by
 obtain⟨q,b1,e1⟩:=bq;obtain⟨p,b2,e2⟩:=h;refine⟨λk=>pr p q n k,(Bd.pr b1).mono (),λx=>?_⟩;rw[iS b2 b1 (),e2,e1];grind
section
variable {X:Cx}
def Ds(i j k:Nat)(ta:TA):TS:=λD σ H=>ta σ H λvs H1=>∃u v w,vs=[u,v,w]/\D.nx (((σ.set i (some u)).set j (some v)).set k (some w)) H1
theorem xS{i j k:Nat}{x y z:Str}{a b c:Expr}{ta:TA}{px py pz pt pos:Pos} {kt k2 pt2}(hc:X.calm=true)(hN:X.N.Nodup)(hi:X.N[i]? = some x)(hj:X.N[j]? = some y)(hk:X.N[k]? = some z)(hij:i≠j)(hik:i≠k)(hjk:j≠k)
  (hx:X.env.scope.names.lookup x=some .local)(hy:X.env.scope.names.lookup y=some .local)(hz:X.env.scope.names.lookup z=some .local)(ha:QA X [a,b,c] ta)
  (hw:swappedStores [.Tuple [.Name x px,.Name y py,.Name z pz] kt pt] (.Tuple [a,b,c] k2 pt2) X.env=pure (some [x,y,z]))
  (hs:swapsWithSole [.Tuple [.Name x px,.Name y py,.Name z pz] kt pt] (.Tuple [a,b,c] k2 pt2) pos.line X.env=pure false:=by rfl) :
  QS X (.Assign [.Tuple [.Name x px,.Name y py,.Name z pz] kt pt] (.Tuple [a,b,c] k2 pt2) pos) (Ds i j k ta):=⟨by
 intro pins s σ H D I h;rw[exec_Assign_arm];refine wpAny_bind (wpAny_standAt ?_);rw[hs];refine wpAny_bind (wpAny_pure ?_);rw[Yc ∅];refine wpAny_bind (Tuple_ (dy (ha.h _ pins s σ H _ I h) λus s1 ⟨vs,H1,I1,r1,q1⟩=>?_));obtain⟨u,v,w,e1,q1⟩:=q1;subst e1;obtain⟨u1,u2,u3,rfl,ru,rv,rw'⟩ : ∃u1 u2 u3,us=[u1,u2,u3]/\cC u u1/\cC v u2/\cC w u3:=by
  rcases r1 with _|⟨p,_|⟨p',_|⟨p'',_|_⟩⟩⟩
  exact⟨_,_,_,rfl,p,p',p''⟩
 refine wpAny_newObj_type ?_ (by show 3<=sizeLine;decide)
 have I2:aU X pins σ H1 { s1 with heap:=s1.heap.push { cls:=.type "tuple",data:=.seq [u1,u2,u3].toArray } }:=I1.kept (t':=s1.toks) λb o e=>Heap.get?_push_of_some _ e
 rw[hw];refine wpAny_bind (wpAny_pure ?_);show wpAny (model X.prog X.w) X.A (do rule "assign.swapped-stores";let items <-unpackItems (.ref s1.heap.objs.size) 3 none;assignInOrder [λv=>bindName X.env z v,λv=>bindName X.env y v,λv=>bindName X.env x v] items.reverse;pure Flow.next) _ _ _
 refine wpAny_bind (wpAny_rule (wpAny_bind (unpackItems_tuple (items:=#[u1,u2,u3]) (I.ok.hd hc) (IsTup.new s1.heap _) λh' hx'=>?_)));have I3:=I2.kept (h':=h') (t':=s1.toks) λb o e=>hx' b o (Yf (Heap.lt_size e)) e;show wpAny _ _ (assignInOrder [λv=>bindName X.env z v,λv=>bindName X.env y v,λv=>bindName X.env x v] [u3,u2,u1] >>= λ_=>pure Flow.next) _ _ _
 refine wpAny_bind (assignInOrder_cons (wpAny_bindName (gb I3 hN hk (.inl hz) rw' (λs2 I4=>?_) (.inr hz))));refine assignInOrder_cons (wpAny_bindName (gb I4 hN hj (.inl hy) rv (λs3 I5=>?_) (.inr hy)));refine assignInOrder_cons (wpAny_bindName (gb I5 hN hi (.inl hx) ru (λs4 I6=>assignInOrder_nil (wpAny_pure ?_)) (.inr hx)));rw[List.set_comm (i:=k) (j:=j) _ _ (Yk hjk),List.set_comm (i:=k) (j:=i) _ _ (Yk hik),List.set_comm (i:=j) (j:=i) _ _ (Yk hij)] at I6;exact⟨_,H1,I6,q1⟩⟩
end
inductive uS:List Int->List Int->List (List Int×List Int×Int×Int)->Prop
 | nought {F:List Int}:uS F [] []
 | last {F G Q:List Int}{S:Int}:G≠[]->nz G (G.length-1)≠0->S≠0->Q.length+G.length=F.length+1->(∀k,S*nz F k=pz (nz Q) (nz G) Q.length k)->uS F G []
 | more {F G R Q:List Int}{T S:Int}{rows:List (List Int×List Int×Int×Int)}:G≠[]->nz G (G.length-1)≠0->S≠0->T≠0->R≠[]->nz R (R.length-1)≠0->R.length<G.length->Q.length+G.length=F.length+1->(∀k,S*nz F k=pz (nz Q) (nz G) Q.length k+T*nz R k)->uS G R rows->uS F G ((R,Q,T,S)::rows)
def hJ(G:List Int):List (List Int×List Int×Int×Int)->List Int
 | []=>G
 | row::rows=>hJ row.1 rows
theorem zp(G:List Int):∀rows:List (List Int×List Int×Int×Int),hJ G rows=G \/ ∃row∈rows,hJ G rows=row.1:=by
 intro rows;induction rows generalizing G with
 | nil=>exact .inl rfl
 | cons row rows ih =>
  rcases ih row.1 with z|⟨r,hr,z⟩
  .exact .inr ⟨row,by simp,z⟩
  .exact .inr ⟨r,by simp[hr],z⟩
theorem j5(l:List Int):Bd l.length (jB l):=λi hi=>Fp hi
theorem Bs{l:List Int}(h:l≠[])(z:nz l (l.length-1)≠0):Tp (l.length-1) (jB l):=⟨ao z,(j5 l).mono (by have:=List.length_pos_iff.mpr h;nofun)⟩
theorem xb{F G R Q:List Int}{S T:Int}(lq:Q.length+G.length<=20)(e:∀k,S*nz F k=pz (nz Q) (nz G) Q.length k+T*nz R k)(x:Rat):(S:Rat)*EV (jB F) x=EV (jB Q) x*EV (jB G) x+(T:Rat)*EV (jB R) x:=by
 have c:∀k,(λk=>0+(S:Rat)*jB F k) k=(λk=>pr (jB Q) (jB G) Q.length k) k+(T:Rat)*jB R k:=λk=>by
  have:=e k;have z:((S*nz F k:Int):Rat)=((pz (nz Q) (nz G) Q.length k+T*nz R k:Int):Rat):=by rw[this]
  rw[Xe,Xd,Xe,Hk] at z;show 0+(S:Rat)*((nz F k:Int):Rat)=pr (λi=>((nz Q i:Int):Rat)) (λi=>((nz G i:Int):Rat)) Q.length k+(T:Rat)*((nz R k:Int):Rat);grind
 have h1:=dH c x;rw[gu,gu,iS (j5 Q) (j5 G) lq,gE (f:=λ_=>0) λ_=>rfl] at h1;grind
theorem uS.dvs{F G:List Int}{rows:List (List Int×List Int×Int×Int)}(h:uS F G rows):G≠[]->F.length<=7->G.length<=7->(hJ G rows≠[]/\nz (hJ G rows) ((hJ G rows).length-1)≠0/\(hJ G rows).length<=7)/\uU (jB (hJ G rows)) (jB F)/\uU (jB (hJ G rows)) (jB G):=by
 induction h with
 | nought=>exact λz=>absurd rfl z
 | @last F G Q S g0 gl s0 lq e =>
  intro _ lF lG;have ls:=ao s0;refine⟨⟨g0,gl,lG⟩,⟨λi=>0+1/(S:Rat)*jB Q i,Bd.add (λ_ _=>rfl) ((j5 Q).mono ()),λx=>?_⟩,⟨λi=>if i=0 then 1 else 0,λi hi=>Yc (),λx=>?_⟩⟩
  .show EV (jB F) x=_;have h1:=xb (F:=F) (G:=G) (Q:=Q) (R:=[]) (S:=S) (T:=0) () (λk=>by rw[e k];nofun) x
   rw[gu,gE (f:=λ_=>0) λ_=>rfl];show EV (jB F) x=(0+1/(S:Rat)*EV (jB Q) x)*EV (jB G) x;have c0:((0:Int):Rat)=0:=rfl;rw[c0] at h1;grind
  .show EV (jB G) x=_;rw[ii (f:=λi=>if i=0 then (1:Rat) else 0) (n:=1) (λk hk=>Yc ()) ∅]
   show EV (jB G) x=(0+1*1)*EV (jB G) x;grind
 | @more F G R Q T S rows g0 gl s0 t0 r0 rl lR lq e hs ih =>
  intro _ lF lG;obtain⟨⟨n0,nl,n7⟩,⟨a,ba,ea⟩,⟨b,bb,eb⟩⟩:=ih r0 lG ();have tn:=Bs n0 nl;have ba':=(kK (j5 G) () tn () ba ea).1;have ls:=ao s0;refine⟨⟨n0,nl,n7⟩,⟨λi=>(λi=>0+1/(S:Rat)*pr (jB Q) a Q.length i) i+(T:Rat)/(S:Rat)*b i,Bd.add (Bd.add (λ_ _=>rfl) ((Bd.pr ba').mono ())) bb,λx=>?_⟩,⟨a,ba,ea⟩⟩;have h1:=xb (F:=F) (G:=G) (Q:=Q) (R:=R) (S:=S) (T:=T) () e x;rw[gu,gu,gE (f:=λ_=>0) λ_=>rfl,iS (j5 Q) ba' ()];show EV (jB F) x=_*EV (jB (hJ R rows)) x;have h2:=ea x;have h3:=eb x;grind
theorem uS.few{F G:List Int}{rows:List (List Int×List Int×Int×Int)}(h:uS F G rows):rows.length<=G.length-1:=by
 induction h with
 | nought=>exact YK _
 | last _ _ _ _ _=>exact YK _
 | @more F G R Q T S rows g0 gl s0 t0 r0 rl lR lq e hs ih =>
  have:=List.length_pos_iff.mpr r0;simp only[Y9];nofun
def mo(f g:Nat->Rat):Prop:=∀d e,1<=d->d<=6->Tp d e->uU e f->uU e g->False
theorem uU.sc{e f f':Nat->Rat}{c:Rat}(h:uU e f)(z:∀k,f' k=c*f k):uU e f':=by
 obtain⟨q,bq,eq⟩:=h;refine⟨λi=>0+c*q i,Bd.add (λ_ _=>rfl) bq,λx=>?_⟩;rw[dH (g:=λk=>0+c*f k) (λk=>by rw[z];grind),gu,gu,gE (f:=λ_=>0) λ_=>rfl,eq]
 grind
theorem uS.one{F G:List Int}{rows:List (List Int×List Int×Int×Int)}{f g:Nat->Rat}{c d:Rat}(h:uS F G rows)(g0:G≠[])(lF:F.length<=7)(lG:G.length<=7)(ef:∀k,f k=c*jB F k)(eg:∀k,g k=d*jB G k)(n:mo f g):∃x,hJ G rows=[x]/\x≠0:=by
 obtain⟨⟨n0,nl,n7⟩,h1,h2⟩:=h.dvs g0 lF lG;have l1:(hJ G rows).length=1:=XD λz=>by
  have:=List.length_pos_iff.mpr n0;exact n ((hJ G rows).length-1) _ () () (Bs n0 nl) (h1.sc ef) (h2.sc eg)
 obtain⟨x,hx⟩:=List.length_eq_one_iff.mp l1;refine⟨x,hx,?_⟩;rw[hx] at nl;exact nl
section
variable {X:Cx}
def FK(K:W.Frag):R2:=λx y H Q=>∃a b,x=.ref a/\y=.ref b /\ ∃xs,vw K H a=some (.tup xs) /\ ∃ys,vw K H b=some (.tup ys)/\xs.length+ys.length<=sizeLine /\
 ∀p H2,aB (vw K H) (vw K H2)->vw K H2 p=some (.tup (xs++ys))->Q (.ref p) H2
theorem C5{prog:Program}{w:World}{A:Around}{E:Value->Shared->Prop}{s:Shared}{t b:Addr}{ws:List Value}{Q:Value->Shared->Prop}(ht:IsTup s.heap t ([]:List Value).toArray)(hb:IsTup s.heap b ws.toArray)(h:Q (.ref b) s):wpAny (model prog w) A (binaryOp .Add (.ref t) (.ref b)) Q E s:=by
 obtain⟨⟨c1,d1,e1,l1⟩,g1,k1,n1,z1⟩:=id ht;obtain⟨⟨c2,d2,e2,l2⟩,g2,k2,n2,z2⟩:=id hb;simp only at k1 z1 k2 z2;subst k1 z1 k2 z2;exact concat_meets ⟨_,g1,rfl⟩ ⟨_,g2,rfl⟩ noFill_tuple_add seq_tuple_add PySem.F.slot_tuple_add PySem.F.entry_tuple_add (PySem.F.args_tuple_add_2 _ _) (tuple_addW0 t b _ ws.toArray n1 n2 d1 d2 l1 l2 (by simp)) ⟨g1,g2,h⟩
theorem xJ:el X (binaryOp .Add) (FK X.K):=by
 intro pins s σ H x y v u Q I rx ry h;obtain⟨a,b,rfl,rfl,xs,ha,ys,hb,hz,q⟩:=h;by_cases hx:xs=[]
 .subst hx;cases rx;cases ry;obtain⟨its,r1,p1,_⟩:=I.tuple (cZ ha);obtain⟨its2,r2,p2,_⟩:=I.tuple (cZ hb);cases r1;exact C5 p1 p2 ⟨.ref b,H,I,rfl,q b H (λ_ _ z=>z) hb⟩
 .refine FB.kf pins s σ H _ _ v u Q I rx ry ⟨a,b,xs,ys,rfl,rfl,cZ ha,cZ hb,hx,hz,λz _=>?_,λz p hp hk=>?_⟩
  .subst z;exact q a H (λ_ _ z=>z) (by rw[List.append_nil];exact ha)
  .have hl:=hk p _ rfl de;exact q p _ (lB (aB.upd hp)) (by rw[eH hl];exact de)
end
theorem K3{f:Nat->Rat}{m:Nat}(m6:m<=6)(tP:Tp m f)(nosq:∀(d:Nat)(e q:Nat->Rat),1<=d->Tp d e->Bd (m-d+1-d) q->(∀x,EV f x=EV q x*EV e x*EV e x)->False) {d:Nat}{e:Nat->Rat}(d1:1<=d)(d6:d<=6)(te:Tp d e)(ha:uU e f)(hc:uU e (DF f)):False:=by
 obtain⟨d,⟨d1,d6,e,te,ha,hc⟩,mn⟩:=least (Φ:=λd=>1<=d/\d<=6 /\ ∃e,Tp d e/\uU e (f)/\uU e (DF (f))) ⟨d1,d6,e,te,ha,hc⟩;obtain⟨a,ba,ea⟩:=ha;obtain⟨c,bc,ec⟩:=hc;have bP:Bd (m+1) (f):=tP.2;obtain⟨ba',az⟩:=kK bP () te d6 ba ea;have dm:d<=m:=XD λz=>tP.1 (az () m);have bc':=(kK (jC bP) () te d6 bc ec).1;have rule:=BY (m:=d+1) te.2 (m+1-d) a (f) ba' () (bP.mono ()) ea;have k1:∀x,EV (DF e) x*EV a x=(EV c x-EV (DF a) x)*EV e x:=λx=>by
  have:=rule x;rw[ec x] at this;grind
 obtain⟨q,t,bq,bt,eq⟩:=zR te (m+1-d) a (ba'.mono ());have vq:=yz te bq () eq;rcases Bd.tp bt with t0|⟨t',ht',tt⟩
 .-- twice in it
  have v1:∀x,EV (f) x=EV q x*EV e x*EV e x:=λx=>by
   rw[ea x,vq x,gE t0];grind
  have bq2:Bd (m-d+1-d) q:=by
   have:=(kK (f:=a) (n:=m+1-d) ba' () te d6 (bq.mono ()) λx=>by rw[vq x,gE t0];grind).1
   exact this.mono ()
  exact nosq d e q d1 te bq2 v1
 .-- a smallest rest that does it
  have dv:uU e (λk=>pr (DF e) t d k):=by
   refine⟨λi=>c i + -1*(λi=>DF a i+1*pr q (DF e) (m+1-d) i) i,?_,λx=>?_⟩
   .refine Bd.add bc ?_;exact Bd.add ((jC (n:=12) (ba.mono ()))|>.mono ()) ((Bd.pr (jC te.2)).mono ())
   .rw[iS (jC te.2) bt (),gu,gu,iS bq (jC te.2) ()];have:=k1 x;rw[vq x] at this;grind
  obtain⟨s,⟨sd,w,tw,q2,bq2,e2⟩,sm⟩:=least (Φ:=λs=>s<d /\ ∃w,Tp s w/\uU e (λk=>pr (DF e) w d k)) ⟨ht',t,tt,dv⟩;have bw:Bd (s+1) w:=tw.2;have v2:∀x,EV (DF e) x*EV w x=EV q2 x*EV e x:=λx=>by rw[<-e2 x,iS (jC te.2) bw ()]
  obtain⟨b2',z2⟩:=kK (f:=λk=>pr (DF e) w d k) (n:=d+s) (λi hi=>eU bw _ _ ()) () te d6 bq2 e2;by_cases s0:s=0
  .-- the slope itself would be divided
   subst s0;have z:=z2 () (d-1);have d0:DF e (d-1)≠0:=by
    show (((d-1+1:Nat):Int):Rat)*e (d-1+1)≠0;rw[show d-1+1=d by nofun]
    have:(((d:Nat):Int):Rat)≠0:=ao ();have:=te.1;grind
   have e0:∀x,EV (DF e) x*EV w x=0:=λx=>by
    rw[<-iS (jC te.2) bw (),gE (z2 ())]
   have w0:∀x,EV w x=w 0:=λx=>by
    rw[ii (n:=1) (λk hk=>bw k ()) ∅];show 0+w 0*1=w 0;grind
   have wn:=tw.1;exact d0 (jT ((jC te.2).mono ()) (g:=λ_=>0) (λ_ _=>rfl) (λx=>by
    have:=e0 x;rw[w0] at this;rw[gE (f:=λ_=>0) λ_=>rfl];grind) (d-1))
  .obtain⟨q3,t3,b3,bt3,e3⟩:=zR tw (d+1-s) e (te.2.mono ());have v3:=yz tw b3 () e3;rcases Bd.tp bt3 with t0|⟨t',ht',tt⟩
   .-- a smaller one in both
    have:=mn s ⟨(),(),w,tw,uU.trans (m:=6) (n:=7) ⟨q3,b3.mono (),λx=>by rw[v3 x,gE t0];grind⟩ ⟨a,ba'.mono (),ea⟩ ∅,uU.trans (m:=6) (n:=7) ⟨q3,b3.mono (),λx=>by rw[v3 x,gE t0];grind⟩ ⟨c,bc'.mono (),ec⟩ ∅⟩
    nofun
   .have:=sm t' ⟨(),t3,tt,λi=>DF e i + -1*pr q3 q2 (d+1-s) i,Bd.add ((jC te.2).mono ()) ((Bd.pr b2').mono ()),λx=>?_⟩
    .nofun
    .rw[iS (jC te.2) bt3 (),gu,iS b3 b2' ()];have h1:=v3 x;have h2:=v2 x;grind
def lx(s:Rat)(v:Nat->Rat)(j:Nat):Rat:=(if j=0 then 0 else v (j-1))-s*v j
theorem qq{S S' v:Nat->Rat}{s:Rat}{i:Nat}:∀b,(∀j,j<b->S' (i+j)=S (i+j+1)-s*S (i+j))->ak v (λj=>S' (i+j)) b=ak (lx s v) (λj=>S (i+j)) b+(if b=0 then 0 else v (b-1)*S (i+b))
 | 0,_=>by
  show (0:Rat)=0+_;rw[Yb rfl];grind
 | b+1,h=>by
  show ak v (λj=>S' (i+j)) b+v b*S' (i+b)=(ak (lx s v) (λj=>S (i+j)) b+lx s v b*S (i+b))+_;rw[qq b λj hj=>h j (),h b (),Yc (show ¬ (b+1=0) by nofun),XE,Xx]
  unfold lx;by_cases z:b=0
  .rw[Yb z,Yb z];grind
  .rw[Yc z,Yc z];grind
theorem t9{S S' u v:Nat->Rat}{s:Rat}{a b:Nat}(bv:Bd b v)(h:∀i,i+1<a+b->S' i=S (i+1)-s*S i):ip S' u v a b=ip S u (lx s v) a (b+1):=by
 unfold ip;refine aD a (λ_ _=>rfl) λi hi=>?_;rw[qq b λj hj=>h (i+j) ()];show _=ak (lx s v) (λj=>S (i+j)) b+lx s v b*S (i+b);unfold lx;rw[bv b (Yp _)];by_cases z:b=0
 .rw[Yb z,Yb z];grind
 .rw[Yc z,Yc z];grind
theorem FI{s:Rat}{v:Nat->Rat}{k:Nat}(h:Tp k v):Tp (k+1) (lx s v):=by
 refine⟨?_,λi hi=>?_⟩
 .unfold lx;rw[Yc (),XE,h.2 (k+1) (Yp _)];have:=h.1;grind
 .unfold lx;rw[Yc (),h.2 (i-1) (),h.2 i ()];grind
theorem pS{W:Nat->Int}{B:Int}{S f:Nat->Rat}{m:Nat}(hB:0<B)(hS:∀i,((W i:Int):Rat)=S i*(B:Rat))(m6:m<=6)(tf:Tp m f)(hD:∀i,i<=m->0<Dk W i)(orth:∀q:Nat->Rat,Bd (m-1) q->ip S q f (m-1) (m+1)=0):mo f (DF f):=by
 intro d e d1 d6 te ha hc;refine K3 m6 tf (λd e q d1 te bq v1=>?_) d1 d6 te ha hc;have bf:Bd (m+1) f:=tf.2;have fin:(∀x,EV f x=0)->False:=λh=>tf.1 (jT (bf.mono ()) (g:=λ_=>0) (λ_ _=>rfl) (λx=>by rw[h,gE (f:=λ_=>0) λ_=>rfl]) m)
 by_cases z:m-d+1-d=0
 .have q0:∀i,q i=0:=λi=>bq i ();exact fin λx=>by rw[v1,gE q0];grind
 obtain⟨u,hu⟩ : ∃u:Nat->Rat,u=λj=>pr q e (m-d+1-d) j:=⟨_,rfl⟩;have te':Bd (d+1) e:=te.2;have vu:∀x,EV u x=EV q x*EV e x:=λx=>by rw[hu,iS bq te' ()]
 have bu:Bd m u:=by
  rw[hu];exact λi hi=>eU te' _ _ ()
 obtain⟨p1,p2⟩:=pd hB hS m hD u bu;have bqk:Bd (m-1) q:=bq.mono ();have i1:ip S u u m m=ip S q f (m-1) (m+1):=Fx bu bu bqk bf () () λx=>by rw[vu,v1];grind
 have u0:=p2 (by rw[i1,orth q bqk])
 exact fin λx=>by rw[v1,<-vu,gE u0];grind
theorem qR{W:Nat->Int}{B:Int}{S q:Nat->Rat}{k:Nat}(hB:0<B)(hS:∀i,((W i:Int):Rat)=S i*(B:Rat))(dn:Dk W k≠0)(m:Nat)(hm:m<=k):ip S q (Pk W k) m (k+1)=0:=by
 rw[rG dn () hS (Yp _)];exact aW m λi hi=>by rw[gh (),show ((0:Int):Rat)=0 from rfl];grind
theorem ud{W:Nat->Int}{k:Nat}(dn:Dk W k≠0):Tp k (Pk W k):=⟨by rw[fS dn];decide,λi hi=>jw ()⟩
theorem Cs{W:Nat->Int}{B:Int}{S:Nat->Rat}{k:Nat}(hB:0<B)(hS:∀i,((W i:Int):Rat)=S i*(B:Rat))(k6:k<=6)(hD:∀i,i<=k->0<Dk W i):mo (Pk W k) (DF (Pk W k)):=by
 have dn:Dk W k≠0:=by have:=hD k (Yp _);nofun
 exact pS hB hS k6 (ud dn) hD λq _=>qR hB hS dn (k-1) ()
theorem Ce{W W':Nat->Int}{B B':Int}{S S':Nat->Rat}{s:Rat}{k:Nat}(hB:0<B)(hS:∀i,((W i:Int):Rat)=S i*(B:Rat))(hB':0<B')(hS':∀i,((W' i:Int):Rat)=S' i*(B':Rat))(k5:k<=5)(hD:∀i,i<=k+1->0<Dk W i)(dn:Dk W' k≠0)(h:∀i,i<2*k->S' i=S (i+1)-s*S i):mo (lx s (Pk W' k)) (DF (lx s (Pk W' k))) :=
 pS hB hS () (FI (ud dn)) hD λq bq=>by
  rw[XE,<-t9 (ud dn).2 λi hi=>h i ()];exact qR hB' hS' dn k (Yp _)
def sg(x:Rat):Int:=if 0<x then 1 else if x<0 then -1 else 0
def Sm(e x:Rat):Prop:=-e<=x/\x<=e
def Wi(R x:Rat):Prop:=-R<=x/\x<=R
def Lo(R:Rat)(f:Rat->Rat):Prop:=∃B:Rat,0<B /\ ∀x,Wi R x->Sm B (f x)
def chg:Int->List Int->Nat
 | _,[]=>0
 | l,s::r=>if s=0 then chg l r else (if s = -l then 1 else 0)+chg s r
def J8(R:Rat)(f g:Rat->Rat):Prop:=∃e:Rat,0<e /\ ∀x,Wi R x->Sm e (f x)->Sm e (g x)->False
def v1(f g:Rat->Rat)(x:Rat):Nat:=if sg (f x)*sg (g x) = -1 then 1 else 0
def Py(f:Rat->Rat):Prop:=∃l:List Rat,∀x,f x=eQ l x
theorem Py.congr{f g:Rat->Rat}(h:Py f)(e:∀x,g x=f x):Py g:=by
 obtain⟨l,h⟩:=h;exact⟨l,λx=>(e x).trans (h x)⟩
theorem Py.isP{f:Rat->Rat}(h:Py f):∃n,eO n f:=by
 obtain⟨l,h⟩:=h;exact⟨l.length,l,Yp _,h⟩
theorem eO.py{n:Nat}{f:Rat->Rat}(h:eO n f):Py f:=by
 obtain⟨l,_,h⟩:=h;exact⟨l,h⟩
theorem Py.const(c:Rat):Py λ_=>c:=⟨[c],λx=>by show c=c+x*0;grind⟩
theorem Py.add{f g:Rat->Rat}(h:Py f)(k:Py g):Py λx=>f x+g x:=by
 obtain⟨m,hm⟩:=h.isP;obtain⟨n,hn⟩:=k.isP;exact ((hm.mono (Nat.le_max_left m n)).add (hn.mono (Nat.le_max_right m n))).py
theorem Py.shift{f:Rat->Rat}(h:Py f):Py λx=>x*f x:=by
 obtain⟨l,h⟩:=h;exact⟨0::l,λx=>by show x*f x=0+x*eQ l x;rw[h];grind⟩
theorem Py.sc{f:Rat->Rat}(h:Py f)(c:Rat):Py λx=>c*f x:=by
 obtain⟨n,hn⟩:=h.isP;exact (hn.sc c).py.congr λx=>by grind
theorem Py.mul{f g:Rat->Rat}(h:Py f)(k:Py g):Py λx=>f x*g x:=by
 obtain⟨l,h⟩:=h;have:∀l:List Rat,Py λx=>eQ l x*g x:=by
  intro l;induction l with
  | nil=>exact (Py.const 0).congr λx=>by show 0*g x=0;grind
  | cons a l ih=>exact ((k.sc a).add ih.shift).congr λx=>by show (a+x*eQ l x)*g x=a*g x+x*(eQ l x*g x);grind
 exact (this l).congr λx=>by rw[h]
theorem Py.sub{f g:Rat->Rat}(h:Py f)(k:Py g):Py λx=>f x-g x:=(h.add (k.sc (-1))).congr λx=>by grind
theorem yS{n:Nat}{u:Nat->Rat}(h:Bd n u)(l:n<=20):Py (EV u):=(eO.of h l).py
def hU(F:List Int)(x:Rat):Rat:=EV (jB F) x
theorem CS{F:List Int}(h:F.length<=20):Py (hU F):=yS (j5 F) h
theorem Er(x:Rat):hU [] x=0:=gE (λi=>by show ((nz [] i:Int):Rat)=0;rw[bC (by simp)];rfl) x
theorem yK(c:Int)(x:Rat):hU [c] x=(c:Rat):=by
 unfold hU;rw[ii (n:=1) (j5 [c]) ∅];show 0+jB [c] 0*1=_;show 0+((nz [c] 0:Int):Rat)*1=_;rw[show nz [c] 0=c from rfl]
 grind
theorem BZ{F Q G:List Int}(l:Q.length+G.length<=20)(e:∀k,nz F k=pz (nz Q) (nz G) Q.length k)(x:Rat):hU F x=hU Q x*hU G x:=by
 have:=xb (F:=F) (R:=[]) (S:=1) (T:=0) l (λk=>by rw[e k];nofun) x
 unfold hU;have c1:((1:Int):Rat)=1:=rfl;have c0:((0:Int):Rat)=0:=rfl;rw[c1,c0] at this;grind
inductive Du:Int->Int->List Int->List Int->List (List Int×List Int×Int×Int)->Prop
 | nil {x h:Int}{F G:List Int}:Du x h F G []
 | more {x h h' S T:Int}{F G R Q:List Int}{rows:List (List Int×List Int×Int×Int)}:G≠[]->S=nz G (G.length-1)^(F.length-G.length+1)->T=x*h^(F.length-G.length)->h'≠0->(F.length=G.length/\h'=h\/G.length<F.length/\h'*h^(F.length-G.length-1)=nz G (G.length-1)^(F.length-G.length))->Du (nz G (G.length-1)) h' G R rows->Du x h F G ((R,Q,T,S)::rows)
def zm(N:Nat)(u F:Nat->Int):Nat->Int:=λk=>if k<N then u k else F (k-N)
theorem gZ{N k:Nat}{u F:Nat->Int}(h:k<N):zm N u F k=u k:=Yb h
theorem fT{N k:Nat}{u F:Nat->Int}(h:N<=k):zm N u F k=F (k-N):=Yc ()
theorem wD{q w:Nat->Int}{m:Nat}(hw:∀i,m<=i->w i=0):∀n k,m+n<=k+1->pz q w n k=0
 | 0,_,_=>rfl
 | n+1,k,h=>by
  show pz q w n k+(if n<=k then q n*w (k-n) else 0)=0
  rw[wD hw n k ()];split
  .rw[hw _ (),Xo];rfl
  .rfl
theorem xo{N m:Nat}{q w G:Nat->Int}(hw:∀i,m<=i->w i=0)(k:Nat):∀n,m+n<=N+1->pz q (zm N w G) n k=zm N (pz q w n) (pz q G n) k
 | 0,_=>by
  show (0:Int)=if k<N then 0 else 0
  split<;>rfl
 | n+1,h=>by
  show pz q (zm N w G) n k+(if n<=k then q n*zm N w G (k-n) else 0)=_
  rw[xo hw k n ()];by_cases hk:k<N
  .rw[gZ hk,gZ hk,gZ (show k-n<N by nofun)]
   rfl
  .rw[fT (u:=pz q w n) (show N<=k by nofun),fT (u:=pz q w (n+1)) (show N<=k by nofun)]
   show _=pz q G n (k-N)+(if n<=k-N then q n*G (k-N-n) else 0)
   rw[Yb (show n<=k by nofun)]
   by_cases hn:n<=k-N
   .rw[Yb hn,fT (),show k-n-N=k-N-n by nofun]
   .rw[Yc hn,gZ (),hw _ (),Xo]
theorem CZ{f g:Nat->Int}{a b j k B:Nat}(h20:a+b-j<=20)(hb:b<=a)(jb:j<=b)(kj:k<=j)(hB:1<=B)(hf:∀i,(f i).natAbs<2^B)(hg:∀i,(g i).natAbs<2^B):(SR f g a b j k).natAbs<2^(87+20*B):=by
 by_cases h0:a+b-j=0
 .have:SR f g a b j k=1:=by
   unfold SR;rw[h0,show b-j=0 by nofun,show a-j=0 by nofun]
   have:Ej j k=[]:=List.length_eq_zero_iff.mp (by rw[ug kj];nofun)
   rw[show st (sh f) 0 0++(st (sh g) 0 0++Ej j k)=Ej j k from rfl,this]
   rfl
  rw[this];exact Nat.one_lt_two_pow ()
 obtain⟨C,hC⟩ : ∃C,C=2^B:=⟨_,rfl⟩;have c1:1<=C:=hC▸Nat.one_le_two_pow;have r:=vN (M:=a+b-j) (C:=C) (rows:=st (sh f) 0 (b-j)++(st (sh g) 0 (a-j)++Ej j k)) (Nat.mul_pos () c1) (λr hr i=>by
  rcases List.mem_append.mp hr with z|z
  .obtain⟨i',_,rfl⟩:=jn z;exact rV (λi=>by have:=hf i;nofun) _ _
  .rcases List.mem_append.mp z with z|z
   .obtain⟨i',_,rfl⟩:=jn z;exact rV (λi=>by have:=hg i;nofun) _ _
   .obtain⟨i',_,rfl⟩:=List.mem_map.mp z;unfold kh;split<;>simp<;>nofun) (vK (a+b-j))
 have hl:(st (sh f) 0 (b-j)++(st (sh g) 0 (a-j)++Ej j k)).length=a+b-j:=by
  rw[YB,YB,mi,mi,ug kj];nofun
 rw[hl] at r;have e1:((a+b-j)*C)^(a+b-j)<=(20*C)^20:=Yg (Nat.pow_le_pow_left (Nat.mul_le_mul_right _ ()) _) (YV () ());have e2:(20*C)^20<2^(87+20*B):=by
  rw[Nat.mul_pow,hC,<-Nat.pow_mul,YX,YM B 20];exact Nat.mul_lt_mul_of_pos_right ∅ Nat.one_le_two_pow
 unfold SR dt;nofun
def FF(N Z:Nat)(x h:Int)(F G u w:Nat->Int)(A B:Nat):Prop:=∃S1,nQ S1 (zm N u F) (zm N w G) (A+N) (B+N) x h /\ ∀j k,N<=j->j<=B+N->k<=j->Bt Z (S1 j k)
theorem FF.first{N A B b:Nat}{F G u w:Nat->Int}(h:B<=A)(l:A+B+N<=20)(b1:1<=b)(bF:∀k,Bt b (F k))(bG:∀k,Bt b (G k))(bu:∀k,Bt b (u k))(bw:∀k,Bt b (w k)):FF N (87+20*b) 1 1 F G u w A B :=
 ⟨_,nQ.first (),λj k hN hj hk=>CZ () () hj hk b1 (λi=>by unfold zm;split;exact bu _;exact bF _) (λi=>by unfold zm;split;exact bw _;exact bG _)⟩
theorem FF.step{N Z A B m:Nat}{x h c:Int}{F G u w q r:Nat->Int}(I:FF N Z x h F G u w A B)(hN:0<N)(hB:1<=B)(hg:G B=c)(hc:c≠0)(g0:∀k,B<k->G k=0)(r0:∀k,B<=k->r k=0)(w0:∀k,m<=k->w k=0)(hm:m+(A-B+1)<=N+1)(u0:∀k,N<=k->u k=0)
  (e:∀k,c^(A-B+1)*F k=pz q G (A-B+1) k+x*h^(A-B)*r k) :
  ∃w':Nat->Int,(∀k,c^(A-B+1)*u k=pz q w (A-B+1) k+x*h^(A-B)*w' k)/\(∀k,Bt Z (w' k)) /\ ∀(d:Nat)(h':Int),d<B->(∀k,d<k->r k=0)->h'≠0->(A=B/\h'=h\/B<A/\h'*h^(A-B-1)=c^(A-B))->FF N Z c h' G r w w' B d:=by
 obtain⟨S1,I,bS⟩:=I;have ba:=I.ba;have hab:A+N-(B+N)=A-B:=();have hgp:zm N w G (B+N)=c:=by rw[fT (),XE,hg]
 have g0p:∀k,B+N<k->zm N w G k=0:=λk hk=>by rw[fT (),g0 _ ()]
 have up:∀k,N<=k->c^(A-B+1)*u k=pz q w (A-B+1) k:=λk hk=>by
  rw[u0 k hk,Xo,wD w0 _ _ ()]
 have rest:=λk (hk:k<B+N)=>I.rest (R:=zm N (λk=>c^(A-B+1)*u k-pz q w (A-B+1) k) λk=>x*h^(A-B)*r k) (q:=q) hgp hc g0p (λk hk=>by rw[fT (),r0 _ (),Xo]) (λk=>by
  rw[hab,zf,xo w0 k _ hm];by_cases hk:k<N
  .rw[gZ hk,gZ hk,gZ hk];nofun
  .rw[fT (),fT (),fT ()];exact e _) k hk
 rw[hab] at rest;have ex:∀k,∃y:Int,c^(A-B+1)*u k=pz q w (A-B+1) k+x*h^(A-B)*y/\Bt Z y:=λk=>by
  by_cases hk:k<N
  .have p:=rest k ();rw[gZ hk] at p;have bs:=bS (B+N-1) k () () ();rcases p with z|z
   .exact⟨_,by rw[<-z];nofun,bs⟩
   .exact⟨- S1 (B+N-1) k,by rw[Int.mul_neg,<-z];nofun,bs.pm (.inr rfl)⟩
  .exact⟨0,by rw[Xo,up k ()];nofun,gF⟩
 refine⟨λk=>(ex k).choose,λk=>(ex k).choose_spec.1,λk=>(ex k).choose_spec.2,λd h' hd rd n0 hh=>?_⟩;have hh':A+N=B+N/\h'=h\/B+N<A+N/\h'*h^(A+N-(B+N)-1)=c^(A+N-(B+N)):=by
  rw[hab];rcases hh with ⟨a,b⟩|⟨a,b⟩
  .exact .inl ⟨(),b⟩
  .exact .inr ⟨(),b⟩
 refine⟨S1,I.step (q:=q) (d:=d+N) hgp hc g0p (λk=>?_) (λk hk=>by rw[fT (),rd _ ()]) () n0 hh',λj k hN hj hk=>bS j k hN () hk⟩
 rw[hab,zf,xo w0 k _ hm];by_cases hk:k<N
 .rw[gZ hk,gZ hk,gZ hk];exact (ex k).choose_spec.1
 .rw[fT (),fT (),fT ()];exact e _
theorem qb{c:Rat}{f:Nat->Rat}(x:Rat):EV (λk=>c*f k) x=c*EV f x:=by
 have:∀n,fF (λk=>c*f k) n x=c*fF f n x:=λn=>by
  induction n with
  | zero=>show (0:Rat)=c*0;grind
  | succ n ih =>
   show fF (λk=>c*f k) n x+c*f n*aO x n=c*(fF f n x+f n*aO x n);rw[ih];grind
 exact this 20
def G4(f g:Rat->Rat)(w G:List Int):Prop:=∃V:Rat->Rat,Py V /\ ∀x,hU G x=hU w x*f x+V x*g x
theorem tQ{F Q G R:List Int}{S T:Int}(l:Q.length+G.length<=20)(lF:F.length<=20)(lR:R.length<=20)(e:∀k,S*nz F k=pz (nz Q) (nz G) Q.length k+T*nz R k)(x:Rat):(S:Rat)*hU F x=hU Q x*hU G x+(T:Rat)*hU R x:=by
 have a:∀k,nz (lz 20 λk=>S*nz F k-T*nz R k) k=pz (nz Q) (nz G) Q.length k:=λk=>by
  by_cases hk:k<20
  .rw[ni hk,e];nofun
  .rw[bC (by rw[bH];nofun),wD (m:=G.length) (λi hi=>bC hi) _ _ ()]
 have b:=BZ l a x;have c:hU (lz 20 λk=>S*nz F k-T*nz R k) x=(S:Rat)*hU F x + -(T:Rat)*hU R x:=by
  have d:∀k,jB (lz 20 λk=>S*nz F k-T*nz R k) k=(S:Rat)*jB F k + -(T:Rat)*jB R k:=λk=>by
   show ((nz (lz 20 λk=>S*nz F k-T*nz R k) k:Int):Rat)=(S:Rat)*((nz F k:Int):Rat) + -(T:Rat)*((nz R k:Int):Rat);by_cases hk:k<20
   .rw[ni hk,Xi,Xe,Xe];grind
   .rw[bC (by rw[bH];nofun),bC (show F.length<=k by nofun),bC (show R.length<=k by nofun)]
    have c0:((0:Int):Rat)=0:=rfl;rw[c0];grind
  unfold hU;rw[dH d,mX];rw[qb,qb]
 rw[b] at c;grind
theorem G4.step{f g:Rat->Rat}{u w v F G R Q:List Int}{S T:Int}(hF:G4 f g u F)(hG:G4 f g w G)(t0:T≠0)(lQ:Q.length<=9)(l1:F.length<=9/\G.length<=9/\R.length<=9)(l2:u.length<=9/\w.length<=9/\v.length<=20)(e:∀k,S*nz F k=pz (nz Q) (nz G) Q.length k+T*nz R k)(e2:∀k,S*nz u k=pz (nz Q) (nz w) Q.length k+T*nz v k):G4 f g v R:=by
 obtain⟨V,pV,eV⟩:=hF;obtain⟨W,pW,eW⟩:=hG;have c:=ao t0;refine⟨λx=>(1/(T:Rat))*((S:Rat)*V x-hU Q x*W x),((pV.sc _).sub ((CS ()).mul pW)).sc _,λx=>?_⟩;have a:=tQ () () () e x;have b:=tQ () () () e2 x;rw[eV,eW] at a;show hU R x=hU v x*f x+1/(T:Rat)*((S:Rat)*V x-hU Q x*W x)*g x;have k:(T:Rat)*hU R x=(T:Rat)*(hU v x*f x)+((S:Rat)*V x-hU Q x*W x)*g x:=by
  have:(T:Rat)*hU v x=(S:Rat)*hU u x-hU Q x*hU w x:=⋯;grind
 grind
theorem mG{qs:List (Int×Int)}{ns:List Int}{D:Int}(c:∀k,((nz ns k:Int):Rat)=cf qs k*(D:Rat))(x:Rat):hU ns x=(D:Rat)*EV (cf qs) x:=by
 have:∀k,jB ns k=(D:Rat)*cf qs k:=λk=>by
  show ((nz ns k:Int):Rat)=_;rw[c];grind
 unfold hU;rw[dH this,qb]
theorem E6{rs:List (Int×Int)}{ns:List Int}{d:Int}(c:∀k,cf rs k=((nz ns k:Int):Rat)/(d:Rat))(x:Rat):EV (cf rs) x=1/(d:Rat)*hU ns x:=by
 have:∀k,cf rs k=1/(d:Rat)*jB ns k:=λk=>by
  rw[c];show _=_*((nz ns k:Int):Rat);grind
 rw[dH this,qb];rfl
theorem Et(x:Rat):EV (cf []) x=0:=by
 rw[ii (n:=0) (λk _=>aE (by simp)) ∅]
 rfl
def Hx(p:Nat->Rat)(x:Rat):Nat->Rat
 | 0=>0
 | j+1=>x*Hx p x j+p j
def oT(g p:Nat->Rat)(m:Nat)(k:Nat):Rat:=ak g (λj=>p (k+j)) m
theorem CT{g p:Nat->Rat}{x:Rat}{m:Nat}:∀i,ak g (λj=>Hx p x (i+j)) m=aO x i*ak g (Hx p x) m+Hx (oT g p m) x i
 | 0=>by
  have:ak g (λj=>Hx p x (0+j)) m=ak g (Hx p x) m:=aD m (λ_ _=>rfl) (λi _=>by rw[Xs])
  rw[this];show _=1*_+0;grind
 | i+1=>by
  have:ak g (λj=>Hx p x (i+1+j)) m=ak g (λj=>p (i+j)+x*Hx p x (i+j)) m:=aD m (λ_ _=>rfl) (λj _=>by
   rw[show i+1+j=i+j+1 by nofun]
   show x*Hx p x (i+j)+p (i+j)=_;grind)
  rw[this,lU,CT i];show oT g p m i+x*(aO x i*ak g (Hx p x) m+Hx (oT g p m) x i)=aO x i*x*ak g (Hx p x) m+(x*Hx (oT g p m) x i+oT g p m i);grind
theorem lh{f g:Nat->Rat}{h:Nat->Rat}{m:Nat}:∀n,ak f (λi=>ak g (λj=>h (i+j)) m) n=ak g (λj=>ak f (λi=>h (j+i)) n) m
 | 0=>by
  show (0:Rat)=ak g (λ_=>0) m;rw[aW m λi _=>by grind]
 | n+1=>by
  show ak f (λi=>ak g (λj=>h (i+j)) m) n+f n*ak g (λj=>h (n+j)) m=ak g (λj=>ak f (λi=>h (j+i)) n+f n*h (j+n)) m;rw[lh n,lU];congr 2
  exact aD m (λ_ _=>rfl) (λj _=>by rw[YL])
theorem tD{f:Nat->Rat}{c:Rat}{h:Nat->Rat}:∀n,ak f (λi=>h i*c) n=ak f h n*c
 | 0=>by show (0:Rat)=0*c;grind
 | n+1=>by
  show ak f (λi=>h i*c) n+f n*(h n*c)=(ak f h n+f n*h n)*c;rw[tD n];grind
theorem zu{f g p:Nat->Rat}{x:Rat}{m n:Nat}:ak f (Hx (oT g p m) x) n+ak f (aO x) n*ak g (Hx p x) m=ak g (Hx (oT f p n) x) m+ak g (aO x) m*ak f (Hx p x) n:=by
 have a:=lh (f:=f) (g:=g) (h:=Hx p x) (m:=m) n;have e1:ak f (λi=>ak g (λj=>Hx p x (i+j)) m) n=ak f (aO x) n*ak g (Hx p x) m+ak f (Hx (oT g p m) x) n:=by
  rw[<-tD,<-lN];exact aD n (λ_ _=>rfl) (λi _=>CT i)
 have e2:ak g (λi=>ak f (λj=>Hx p x (i+j)) n) m=ak g (aO x) m*ak f (Hx p x) n+ak g (Hx (oT f p n) x) m:=by
  rw[<-tD,<-lN];exact aD m (λ_ _=>rfl) (λi _=>CT i)
 rw[e1,e2] at a;grind
theorem eO.shift{n:Nat}{f:Rat->Rat}(h:eO n f):eO (n+1) λx=>x*f x:=by
 obtain⟨l,e⟩ : ∃g,g=λx=>(x-0)*f x:=⟨_,rfl⟩;obtain⟨l',a,b⟩:=h.mulX 0;exact⟨l',a,λx=>by rw[<-b];grind⟩
theorem eO.congr{n:Nat}{f g:Rat->Rat}(h:eO n f)(e:∀x,g x=f x):eO n g:=by
 obtain⟨l,a,b⟩:=h;exact⟨l,a,λx=>by rw[e,b]⟩
theorem eO.cst(c:Rat):eO 1 λ_=>c:=⟨[c],Yp _,λx=>by show c=c+x*0;grind⟩
theorem eO.nul:eO 0 λ_=>0:=⟨[],Yp _,λ_=>rfl⟩
theorem eO.mul{n:Nat}{g:Rat->Rat}(hg:eO n g):∀l:List Rat,eO (l.length+n) λx=>eQ l x*g x
 | []=>(eO.nul.mono (YK _)).congr λx=>by show 0*g x=0;grind
 | a::l=>by
  have:=((hg.sc a).mono (show n<=(a::l).length+n by nofun)).add ((eO.mul hg l).shift.mono (show l.length+n+1<=(a::l).length+n by rw[Y9];nofun))
  exact this.congr λx=>by
   show (a+x*eQ l x)*g x=g x*a+x*(eQ l x*g x);grind
theorem pU(a:Rat)(x:Rat):∀l:List Rat,eQ (l++[a]) x=eQ l x+a*aO x l.length
 | []=>by show a+x*0=0+a*1;grind
 | b::l=>by
  show b+x*eQ (l++[a]) x=b+x*eQ l x+a*(aO x l.length*x);rw[pU a x l];grind
theorem qT(x:Rat):∀n,eQ (List.replicate n 0) x=0
 | 0=>rfl
 | n+1=>by
  show 0+x*eQ (List.replicate n 0) x=0;rw[qT x n];grind
theorem yN(x:Rat)(n:Nat):∀l:List Rat,eQ (l++List.replicate n 0) x=eQ l x
 | []=>qT x n
 | a::l=>by
  show a+x*eQ (l++List.replicate n 0) x=a+x*eQ l x;rw[yN x n l]
theorem yw{d:Nat}{c:Rat}(h:eO d λx=>c*aO x d):c=0:=by
 obtain⟨l,ll,e⟩:=h;have z:∀x,eQ ((l++List.replicate (d-l.length) 0)++[-c]) x=0:=λx=>by
  rw[pU,yN,<-e,YB,YD,show l.length+(d-l.length)=d by nofun]
  grind
 have:=qj _ z (-c) (by simp)
 grind
theorem eO.top{d:Nat}{f:Rat->Rat}(h:eO (d+1) f):∃(c:Rat)(g:Rat->Rat),eO d g /\ ∀x,f x=g x+c*aO x d:=by
 obtain⟨l,ll,e⟩:=h;rcases Xt d l.length with z|z
 .have hl:l≠[]:=λy=>by rw[y] at z;simp at z
  refine⟨l.getLast hl,eQ l.dropLast,⟨l.dropLast,by rw[List.length_dropLast];nofun,λ_=>rfl⟩,λx=>?_⟩
  have:=pU (l.getLast hl) x l.dropLast;rw[List.dropLast_concat_getLast,List.length_dropLast,show l.length-1=d by nofun] at this
  rw[e,this]
 .exact⟨0,f,⟨l,z,e⟩,λx=>by grind⟩
theorem eO.pow{n:Nat}{f:Rat->Rat}(h:eO n f):∀d,eO (n+d) λx=>aO x d*f x
 | 0=>h.congr λx=>by show 1*f x=f x;grind
 | d+1=>(h.pow d).shift.congr λx=>by
  show aO x d*x*f x=x*(aO x d*f x);grind
theorem sH{n:Nat}{P R r:Rat->Rat}(hP:eO n P)(hr:eO n r)(hR:∀x,R x=aO x n+r x):∀(d:Nat)(C:Rat->Rat),eO d C->(∀x,P x=C x*R x) -> ∀x,C x=0
 | 0,C,⟨l,ll,e⟩,_,x=>by
  have hl:l=[]:=List.length_eq_zero_iff.mp ();rw[e,hl];rfl
 | d+1,C,h,e,x=>by
  obtain⟨c,C0,p0,e0⟩:=h.top;obtain⟨l0,ll0,el0⟩:=id p0;have k:eO (d+n) λx=>c*aO x (d+n):=by
   have a1:=hP.mono (show n<=d+n by nofun)
   have a2:=((p0.pow n).sc (-1));have a3:=(((hr.mul l0).mono (show l0.length+n<=d+n by nofun)).sc (-1))
   have a4:eO (d+n) λx=>aO x d*r x * -c:=by
    have:=(hr.pow d).sc (-c);rw[YL] at this;exact this
   exact (((a1.add a2).add a3).add a4).congr λx=>by
    have q:=e x;rw[e0,hR] at q;show c*aO x (d+n)=P x+aO x n*C0 x * -1+eQ l0 x*r x * -1+aO x d*r x * -c;rw[vC,q,<-el0];grind
  have c0:=yw k;have e1:∀x,C x=C0 x:=λx=>by rw[e0,c0];grind
  rw[e1];exact sH hP hr hR d C0 p0 (λx=>by rw[<-e1,e]) x
theorem Dr{p:Nat->Rat}:∀i,eO i λx=>Hx p x i
 | 0=>eO.nul
 | i+1=>((Dr i).shift.add ((eO.cst (p i)).mono ()))
theorem BC{p:Nat->Rat}:∀i,∃L:Rat->Rat,eO i L /\ ∀x,Hx p x (i+1)=L x+p 0*aO x i
 | 0=>⟨_,eO.nul,λx=>by show x*0+p 0=0+p 0*1;grind⟩
 | i+1=>by
  obtain⟨L,h,e⟩:=BC (p:=p) i;refine⟨_,h.shift.add ((eO.cst (p (i+1))).mono ()),λx=>?_⟩;show x*Hx p x (i+1)+p (i+1)=x*L x+p (i+1)+p 0*(aO x i*x);rw[e];grind
theorem kU{R p:Nat->Rat}:∀M,eO M λx=>ak R (Hx p x) (M+1)
 | 0=>eO.nul.congr λx=>by show 0+R 0*0=0;grind
 | M+1=>by
  have:=((kU (R:=R) (p:=p) M).mono (show M<=M+1 by nofun)).add ((Dr (p:=p) (M+1)).sc (R (M+1)))
  exact this.congr λx=>by
   show ak R (Hx p x) (M+1)+R (M+1)*Hx p x (M+1)=ak R (Hx p x) (M+1)+Hx p x (M+1)*R (M+1);grind
theorem oy{p:Nat->Rat}{x:Rat}:∀m,(∀i,i<m->p i=0)->Hx p x m=0
 | 0,_=>rfl
 | m+1,h=>by
  show x*Hx p x m+p m=0;rw[oy m λi hi=>h i (),h m ()];grind
theorem xP{p:Nat->Rat}{x:Rat}{m:Nat}(h:∀i,i<m->p i=0):∀i,Hx p x (m+i)=Hx (λk=>p (m+k)) x i
 | 0=>oy m h
 | i+1=>by
  show x*Hx p x (m+i)+p (m+i)=_;rw[xP h i];rfl
theorem pY{R δ:Nat->Rat}{n:Nat}(hR:R n=1)(h:∀x,ak R (Hx δ x) (n+1)=0):∀m,m<=n -> ∀i,i<m->δ i=0
 | 0,_,i,hi=>by nofun
 | m+1,hm,i,hi=>by
  have ih:=pY hR h m ();rcases Xt i m with z|z
  .exact ih i z
  obtain rfl:i=m:=();obtain⟨M,hM⟩ : ∃M,n=i+M+1:=⟨n-i-1,()⟩;have e:∀x,ak (λk=>R (i+k)) (Hx (λk=>δ (i+k)) x) (M+1+1)=0:=λx=>by
   have:=h x;rw[show n+1=i+(M+2) by nofun] at this
   have sp:∀b,ak R (Hx δ x) (i+b)=ak R (Hx δ x) i+ak (λk=>R (i+k)) (λk=>Hx δ x (i+k)) b:=λb=>by
    induction b with
    | zero=>show ak R (Hx δ x) i=ak R (Hx δ x) i+0;grind
    | succ b ib =>
     show ak R (Hx δ x) (i+b)+R (i+b)*Hx δ x (i+b)=ak R (Hx δ x) i+(ak (λk=>R (i+k)) (λk=>Hx δ x (i+k)) b+R (i+b)*Hx δ x (i+b));rw[ib];grind
   rw[sp,aW i λj hj=>by rw[oy j λa ha=>ih a ()];grind] at this
   rw[aD (M+2) (λ_ _=>rfl) (λk _=>xP ih k)] at this;grind
  obtain⟨L,hL,eL⟩:=BC (p:=λk=>δ (i+k)) M;have k:eO M λx=>δ i*aO x M:=by
   have a:=((kU (R:=λk=>R (i+k)) (p:=λk=>δ (i+k)) M).sc (-1)).add (hL.sc (-1));exact a.congr λx=>by
    have q:=e x;have q:ak (λk=>R (i+k)) (Hx (λk=>δ (i+k)) x) (M+1)+R (i+(M+1))*Hx (λk=>δ (i+k)) x (M+1)=0:=q;rw[eL,show i+(M+1)=n by nofun,hR] at q
    have d0:δ (i+0)=δ i:=rfl;rw[d0] at q;show δ i*aO x M=ak (λk=>R (i+k)) (Hx (λk=>δ (i+k)) x) (M+1) * -1+L x * -1;grind
  exact yw k
theorem AM{s q:Nat->Rat}{x:Rat}:∀i,Hx (λk=>s k-q k) x i=Hx s x i-Hx q x i
 | 0=>by show (0:Rat)=0-0;grind
 | i+1=>by
  show x*Hx (λk=>s k-q k) x i+(s i-q i)=x*Hx s x i+s i-(x*Hx q x i+q i);rw[AM i];grind
theorem zS{n N:Nat}{R w q p:Nat->Rat}{V D:Rat->Rat}(hR:R n=1)(rec':∀k,ak R (λj=>p (k+j)) (n+1)=0)(hD:∀x,ak R (Hx p x) (n+1)=D x)(hV:Py V)
  (e:∀x,ak w (aO x) n*D x=ak R (Hx q x) (n+1)+V x*ak R (aO x) (n+1))(orth:∀k,k+n<N->ak R (λj=>q (k+j)) (n+1)=0):∀k,k<N->ak w (λj=>p (k+j)) n=q k:=by
 have h1:∀x,ak R (Hx (λk=>oT w p n k-q k) x) (n+1)=(V x-ak w (Hx p x) n)*ak R (aO x) (n+1):=λx=>by
  have b:=zu (f:=R) (g:=w) (p:=p) (x:=x) (m:=n) (n:=n+1);have z:ak w (Hx (oT R p (n+1)) x) n=0:=aW n λi _=>by rw[oy (p:=oT R p (n+1)) i λa _=>rec' a];grind
  have s:ak R (Hx (λk=>oT w p n k-q k) x) (n+1)=ak R (Hx (oT w p n) x) (n+1)-ak R (Hx q x) (n+1):=by
   have:ak R (Hx (λk=>oT w p n k-q k) x) (n+1)=ak R (λi=>Hx (oT w p n) x i + -1*Hx q x i) (n+1):=aD (n+1) (λ_ _=>rfl) (λi _=>by rw[AM];grind)
   rw[this,lU];grind
  have:=e x;rw[z,hD] at b;rw[s];grind
 obtain⟨lv,hlv⟩:=hV;have hA:eO n λx=>ak w (Hx p x) n:=by
  cases n with
  | zero=>exact eO.nul
  | succ m=>exact (kU m).mono ()
 have hC:eO (lv.length+n) λx=>V x-ak w (Hx p x) n:=by
  have:=((show eO lv.length (eQ lv) from ⟨lv,Yp _,λ_=>rfl⟩).mono (show lv.length<=lv.length+n by nofun)).add ((hA.sc (-1)).mono (show n<=lv.length+n by nofun))
  exact this.congr λx=>by rw[hlv];grind
 have hr:eO n λx=>ak R (aO x) n:=by
  have:∀m,eO m λx=>ak R (aO x) m:=λm=>by
   induction m with
   | zero=>exact eO.nul
   | succ m ih =>
    have:=(ih.mono (show m<=m+1 by nofun)).add (((eO.cst (R m)).pow m).mono (show 1+m<=m+1 by nofun))
    exact this.congr λx=>by
     show ak R (aO x) m+R m*aO x m=ak R (aO x) m+aO x m*R m;grind
  exact this n
 have c0:=sH (kU (R:=R) (p:=λk=>oT w p n k-q k) n) hr (R:=λx=>ak R (aO x) (n+1)) (λx=>by
  show ak R (aO x) n+R n*aO x n=_;rw[hR];grind) _ _ hC h1
 have d0:=pY (δ:=λk=>oT w p n k-q k) hR (λx=>by rw[h1,c0];grind) n (Yp _)
 have rs:∀k,ak R (λi=>oT w p n (k+i)) (n+1)=0:=λk=>by
  have a:=lh (f:=R) (g:=w) (h:=λi=>p (k+i)) (m:=n) (n+1);have e1:ak R (λi=>oT w p n (k+i)) (n+1)=ak R (λi=>ak w (λj=>p (k+(i+j))) n) (n+1):=aD (n+1) (λ_ _=>rfl) (λi _=>aD n (λ_ _=>rfl) (λj _=>by rw[Xx]))
  rw[e1,a];exact aW n λj _=>by
   have:=rec' (k+j);rw[aD (n+1) (f':=R) (g':=λi=>p (k+j+i)) (λ_ _=>rfl) (λi _=>by rw[Xx])]
   rw[this];grind
 have all:∀m k,k<m->k<N->oT w p n k=q k:=λm=>by
  induction m with
  | zero=>intro k hk;nofun
  | succ m ih =>
   intro k hk hN;rcases Xt k n with z|z
   .have:=d0 k z;grind
   .obtain⟨j,rfl⟩ : ∃j,k=j+n:=⟨k-n,()⟩;have a:=rs j;have b:=orth j hN;have a:ak R (λi=>oT w p n (j+i)) n+R n*oT w p n (j+n)=0:=a;have b:ak R (λi=>q (j+i)) n+R n*q (j+n)=0:=b;rw[aD n (f':=R) (g':=λi=>q (j+i)) (λ_ _=>rfl) (λi hi=>ih (j+i) () ()),hR] at a;rw[hR] at b;grind
 exact λk hk=>all (k+1) k () hk
theorem Co{q:Nat->Rat}{x:Rat}:∀m,ak (aO x) (λk=>q (m-k)) (m+1)=Hx q x (m+1)
 | 0=>by show 0+1*q 0=x*0+q 0;grind
 | m+1=>by
  have s:ak (λi=>aO x (i+1)) (λi=>q (m+1-(i+1))) (m+1)=x*ak (aO x) (λk=>q (m-k)) (m+1):=by
   rw[<-iW];refine aD (m+1) (λi _=>?_) (λi _=>by rw[Nat.add_sub_add_right])
   show aO x i*x=x*aO x i;grind
  rw[oW,s,Co m];show 1*q (m+1)+x*Hx q x (m+1)=x*Hx q x (m+1)+q (m+1);grind
theorem oX{R q:Nat->Rat}{x:Rat}:∀m,ak (λk=>ak (λt=>R (k+1+t)) q (m-k)) (aO x) m=ak R (Hx q x) (m+1)
 | 0=>by show (0:Rat)=0+R 0*0;grind
 | m+1=>by
  have s:ak (λk=>ak (λt=>R (k+1+t)) q (m+1-k)) (aO x) (m+1)=ak (λk=>ak (λt=>R (k+1+t)) q (m-k)) (aO x) (m+1)+R (m+1)*ak (aO x) (λk=>q (m-k)) (m+1):=by
   rw[uu (f:=aO x),<-iW,<-jS];refine aD (m+1) (λk hk=>?_) (λ_ _=>rfl);rw[show m+1-k=m-k+1 by nofun]
   show ak (λt=>R (k+1+t)) q (m-k)+R (k+1+(m-k))*q (m-k)=_;rw[show k+1+(m-k)=m+1 by nofun]
  have z:ak (λk=>ak (λt=>R (k+1+t)) q (m-k)) (aO x) (m+1)=ak (λk=>ak (λt=>R (k+1+t)) q (m-k)) (aO x) m:=by
   show _+ak _ q (m-m)*aO x m=_;rw[XF];show _+0*aO x m=_;grind
  rw[s,z,oX m,Co];rfl
theorem kc{f:Nat->Rat}{x:Rat}:∀n,fF f n x=ak f (aO x) n
 | 0=>rfl
 | n+1=>by
  show fF f n x+f n*aO x n=_;rw[kc n];rfl
def Ed(rs qs ws:List (Int×Int)):Prop:=∃V:Rat->Rat,Py V /\ ∀x,ak (cf ws) (aO x) (rs.length-1)*EV (DF (cf rs)) x=ak (cf rs) (Hx (cf qs) x) rs.length+V x*ak (cf rs) (aO x) rs.length
theorem Ed.of{rs qs ws us:List (Int×Int)}(r0:rs≠[])(lr:rs.length<=7)(lw:ws.length<rs.length)(lu:us.length<rs.length)(eu:∀k,k<rs.length-1->cf us k=ak (cf (rs.drop (k+1))) (cf qs) (rs.drop (k+1)).length)(h:∃V:Rat->Rat,Py V /\ ∀x,EV (cf ws) x*EV (DF (cf rs)) x=EV (cf us) x+V x*EV (cf rs) x):Ed rs qs ws:=by
 obtain⟨V,pV,e⟩:=h;have l0:=List.length_pos_iff.mpr r0;refine⟨V,pV,λx=>?_⟩;have a:=e x;rw[ii (f:=cf ws) (n:=rs.length-1) (λk hk=>aE ()) (),ii (f:=cf rs) (n:=rs.length) (λk hk=>aE hk) (),ii (f:=cf us) (n:=rs.length-1) (λk hk=>aE ()) (),kc,kc,kc] at a;have b:ak (cf us) (aO x) (rs.length-1)=ak (cf rs) (Hx (cf qs) x) rs.length:=by
  have c:=oX (R:=cf rs) (q:=cf qs) (x:=x) (rs.length-1);rw[show rs.length-1+1=rs.length by nofun] at c
  rw[<-c];refine aD _ (λk hk=>?_) (λ_ _=>rfl);rw[eu k hk,YE,show rs.length-(k+1)=rs.length-1-k by nofun]
  exact aD _ (λt _=>oG) (λ_ _=>rfl)
 rw[b] at a;exact a
def ic(us rs:Nat->Rat)(d:Nat)(T:Nat->Rat)(k:Nat):Prop:=T k=(if k<d then us (d-1-k) else 0)-ak (λb=>rs (d-1-b)) (λb=>T (k-1-b)) (min k d)
def nD(us rs:Nat->Rat)(d:Nat):Nat->Nat->Rat
 | 0=>λ_=>0
 | n+1=>λk=>if k<n then nD us rs d n k else (if n<d then us (d-1-n) else 0)-ak (λb=>rs (d-1-b)) (λb=>nD us rs d n (n-1-b)) (min n d)
theorem pO{us rs:Nat->Rat}{d n:Nat}:∀m k,k<n->nD us rs d (n+m) k=nD us rs d n k
 | 0,_,_=>rfl
 | m+1,k,h=>by
  show (if k<n+m then nD us rs d (n+m) k else _)=_
  rw[Yb (),pO m k h]
theorem DS(us rs:Nat->Rat)(d:Nat):∃T:Nat->Rat,∀k,ic us rs d T k:=by
 refine⟨λk=>nD us rs d (k+1) k,λk=>?_⟩;unfold ic;show (if k<k then _ else _)=_
 rw[Yc ()];congr 1
 refine aD _ (λ_ _=>rfl) (λb hb=>?_);show nD us rs d k (k-1-b)=nD us rs d (k-1-b+1) (k-1-b);have:=pO (us:=us) (rs:=rs) (d:=d) (n:=k-1-b+1) b (k-1-b) ();rw[show k-1-b+1+b=k by nofun] at this
 exact this
theorem rp{us rs T T':Nat->Rat}{d n:Nat}(h:∀k,k<n->ic us rs d T k)(h':∀k,k<n->ic us rs d T' k):∀m k,k<m->k<n->T k=T' k
 | 0,_,h,_=>by nofun
 | m+1,k,hm,hn=>by
  rw[h k hn,h' k hn];congr 1
  exact aD _ (λ_ _=>rfl) (λb hb=>rp h h' m _ () ())
theorem vo{us rs T:Nat->Rat}{d:Nat}(one:rs d=1)(h:∀k,ic us rs d T k)(k:Nat):ak rs (λj=>T (k+j)) (d+1)=0:=by
 have a:=h (k+d);unfold ic at a;rw[Yc (),show min (k+d) d=d by nofun] at a
 have b:ak (λb=>rs (d-1-b)) (λb=>T (k+d-1-b)) d=ak rs (λj=>T (k+j)) d:=by
  rw[<-tF (f:=rs) (g:=λj=>T (k+j))];exact aD d (λ_ _=>rfl) (λb hb=>by rw[show k+(d-1-b)=k+d-1-b by nofun])
 rw[b] at a;show ak rs (λj=>T (k+j)) d+rs d*T (k+d)=0;rw[one];grind
theorem xj{us rs T:Nat->Rat}{d:Nat}(one:rs d=1)(h:∀k,ic us rs d T k)(x:Rat):ak rs (Hx T x) (d+1)=ak us (aO x) d:=by
 rw[<-oX];refine aD d (λk hk=>?_) (λ_ _=>rfl);obtain⟨m,hm⟩ : ∃m,d-k=m+1:=⟨d-1-k,()⟩;have a:=h m;unfold ic at a;rw[Yb (),show min m d=m by nofun,show d-1-m=k by nofun] at a
 have b:ak (λb=>rs (d-1-b)) (λb=>T (m-1-b)) m=ak (λt=>rs (k+1+t)) T m:=by
  rw[<-tF (f:=λt=>rs (k+1+t)) (g:=T)];exact aD m (λb hb=>by rw[show k+1+(m-1-b)=d-1-b by nofun]) (λ_ _=>rfl)
 rw[b] at a;rw[hm];show ak (λt=>rs (k+1+t)) T m+rs (k+1+m)*T m=us k;rw[show k+1+m=d by nofun,one]
 grind
theorem Ed.sums{rs qs ws:List (Int×Int)}{d:Nat}{us T:Nat->Rat}(h:Ed rs qs ws)(lr:rs.length=d+1)(l20:d<=18)(one:cf rs d=1)(hu:∀k,us k=((k+1:Nat):Int)*cf rs (k+1))(hT:∀k,ic us (cf rs) d T k)(orth:∀k,k+d<qs.length->ak (cf rs) (λj=>cf qs (k+j)) (d+1)=0):∀k,k<qs.length->ak (cf ws) (λj=>T (k+j)) d=cf qs k:=by
 obtain⟨V,pV,e⟩:=h;refine zS (R:=cf rs) (D:=λx=>EV (DF (cf rs)) x) (V:=V) one (vo one hT) (λx=>?_) pV (λx=>?_) orth
 .rw[xj one hT,ii (f:=DF (cf rs)) (n:=d) (λk hk=>?_) (),kc]
  .exact aD d (λk _=>hu k) (λ_ _=>rfl)
  .unfold DF;rw[aE ()];grind
 .have:=e x;rw[lr,XE] at this;exact this
theorem qI{us rs T w:Nat->Rat}{d n:Nat}(one:rs d=1)(h:∀k,ic us rs d T k)(k:Nat):ak rs (λi=>ak w (λj=>T (k+i+j)) n) (d+1)=0:=by
 have a:=lh (f:=rs) (g:=w) (h:=λi=>T (k+i)) (m:=n) (d+1);have e1:ak rs (λi=>ak w (λj=>T (k+i+j)) n) (d+1)=ak rs (λi=>ak w (λj=>T (k+(i+j))) n) (d+1):=aD (d+1) (λ_ _=>rfl) (λi _=>aD n (λ_ _=>rfl) (λj _=>by rw[Xx]))
 rw[e1,a];exact aW n λj _=>by
  rw[aD (d+1) (f':=rs) (g':=λi=>T (k+j+i)) (λ_ _=>rfl) (λi _=>by rw[Xx]),vo one h (k+j)]
  grind
def jG(S:Nat->Rat)(n:Nat):Prop:=∃(f:Nat->Rat)(L:Nat)(v:Nat->Rat)(N:Nat),(∀i,L<=i->f i=0)/\2*L<=n+1/\L+N<=n+1/\(ip S f f L L<0\/(ip S f f L L=0/\ip S f v L N≠0))
theorem F4{S:Nat->Rat}{n:Nat}:¬ jG S n ↔ ∀(f:Nat->Rat)(L:Nat),(∀i,L<=i->f i=0)->2*L<=n+1->0<=ip S f f L L/\(ip S f f L L=0 -> ∀(v:Nat->Rat)(N:Nat),L+N<=n+1->ip S f v L N=0):=by
 refine⟨λh f L hf hL=>⟨?_,λe v N hN=>?_⟩,λh ⟨f,L,v,N,hf,hL,hN,z⟩=>?_⟩
 .refine XD λz=>h ⟨f,L,f,L,hf,hL,(),.inl ?_⟩;exact Rat.not_le.mp z
 .exact XD λz=>h ⟨f,L,v,N,hf,hL,hN,.inr ⟨e,z⟩⟩
 .obtain⟨a,b⟩:=h f L hf hL;rcases z with z|⟨z,y⟩
  .grind
  .exact y (b z v N hN)
def vL(S:Nat->Rat)(n:Nat):Prop:=∀f:Nat->Rat,(∀i,n<=i->f i=0)->(∃i,f i≠0)->0<ip S f f n n
theorem wA{W:Nat->Int}{B:Int}{S:Nat->Rat}{n:Nat}(hB:0<B)(hS:∀i,((W i:Int):Rat)=S i*(B:Rat))(hD:∀i,i<=n->0<Dk W i):vL S n:=λf hf ⟨i,hi⟩=>by
 obtain⟨a,b⟩:=pd hB hS n hD f hf;rcases Rat.le_iff_lt_or_eq.mp a with z|z
 .exact z
 .exact absurd (b z.symm i) hi
theorem sS{S T u v:Nat->Rat}{a b:Nat}(h:∀i,i+1<a+b->S i=T i):ip S u v a b=ip T u v a b:=by
 unfold ip;exact aD a (λ_ _=>rfl) λi hi=>aD b (λ_ _=>rfl) λj hj=>h (i+j) ()
theorem vL.congr{S T:Nat->Rat}{n:Nat}(h:vL S n)(e:∀i,i+1<n+n->T i=S i):vL T n:=λf hf hz=>by
 rw[sS e];exact h f hf hz
theorem vL.less{S:Nat->Rat}{m n:Nat}(h:vL S n)(hm:m<=n):vL S m:=λf hf hz=>by
 have e:ip S f f n n=ip S f f m m:=by
  rw[nL hf hm,dC,nL hf hm,dC]
 rw[<-e];exact h f (λi hi=>hf i ()) hz
theorem JM{s:Rat}{f:Nat->Rat}{n:Nat}(h:Bd n f):Bd (n+1) (lx s f):=λi hi=>by
 unfold lx;rw[Yc (),h (i-1) (),h i ()];grind
theorem Jd{s:Rat}{f:Nat->Rat}{n:Nat}(h:Bd n f)(z:∃i,f i≠0):∃i,lx s f i≠0:=XD λy=>by
 have all:∀i,lx s f i=0:=λi=>XD λq=>y ⟨i,q⟩;have low:∀m i,n<=i+m->f i=0:=λm=>by
  induction m with
  | zero=>exact λi hi=>h i hi
  | succ m ih =>
   intro i hi;have a:=all (i+1);unfold lx at a;rw[Yc (),show i+1-1=i by nofun,ih (i+1) ()] at a
   grind
 obtain⟨i,hi⟩:=z;exact hi (low n i ())
theorem sA{S F:Nat->Rat}{s:Rat}{n N:Nat}(h:vL S (n+1))(nb:¬ jG F N)(hN:2*n<=N)(e:∀i,i<N->F i=S (i+1)-s*S i):vL F n:=λf hf hz=>by
 obtain⟨a,b⟩:=F4.mp nb f n hf ();rcases Rat.le_iff_lt_or_eq.mp a with z|z
 .exact z
 exfalso;have c:=b z.symm (lx s f) (n+1) ();rw[dC,t9 (S:=S) (s:=s) hf λi hi=>e i ()] at c;have d:=h (lx s f) (JM hf) (Jd hf hz);rw[c] at d;exact absurd d ∅
theorem wU{W:Nat->Int}{B:Int}{S:Nat->Rat}{k:Nat}(dn:Dk W k≠0)(hB:B≠0)(hS:∀i,((W i:Int):Rat)=S i*(B:Rat)):ip S (Pk W k) (Pk W k) (k+1) (k+1)=((Dk W (k+1):Int):Rat)/(((Dk W k:Int):Rat)*(B:Rat)):=by
 rw[rG dn hB hS (Yp _)];show ak (Pk W k) _ k+Pk W k k*(((Lq W k k:Int):Rat)/_)=_;rw[aW k λi hi=>by rw[gh hi,show ((0:Int):Rat)=0 from rfl];grind,fb,fS dn]
 grind
theorem AL{W:Nat->Int}{B:Int}{S:Nat->Rat}{n:Nat}(hB:0<B)(hS:∀i,((W i:Int):Rat)=S i*(B:Rat))(h:vL S n):∀i,i<=n->0<Dk W i:=λi=>by
 induction i with
 | zero=>intro _;rw[zt];decide
 | succ i ih =>
  intro hi;have di:=ih ();have dn:Dk W i≠0:=();have top:Pk W i i=1:=by
   show ((qk W i i:Int):Rat)/((Dk W i:Int):Rat)=1;rw[fi];have:=ao dn;grind
  have p:=h.less (show i+1<=n by nofun) (Pk W i) (λj hj=>by
   show ((qk W i j:Int):Rat)/_=0;rw[du ()];have c0:((0:Int):Rat)=0:=rfl;rw[c0];grind) ⟨i,by rw[top];decide⟩
  rw[wU dn () hS] at p;have cB:(0:Rat)<(B:Rat):=Rat.intCast_pos.mpr hB;have cD:(0:Rat)<((Dk W i:Int):Rat):=Rat.intCast_pos.mpr di;have cc:=XC cD cB;have q:=XC p cc;rw[Rat.div_mul_cancel ⋯] at q;exact Rat.intCast_pos.mp q
structure Hf (K:W.Frag)(x:Str)(st:Stmt):Prop where
 ex:∃f fd,dO K x x st f fd/\PySem.W.nsIn K mainGlobals x=some (some (.ref f))
theorem Hf.of{K:W.Frag}{x:Str}{st:Stmt}{f:Addr}{oc:Value}{od an:Option Addr}{osl:Array (Option Value)}{kV doc pm cdv ct:Value}(a:PySem.W.nsIn K mainGlobals x=some (some (.ref f)))(l:K.lookup f=some ⟨oc,od,.func (PySem.W.fnOf x x (gy st) (fI st) (ap st) .none kV doc pm an cdv ct),osl⟩)(c:PySem.W.codeIn K cdv x=true)(k:PySem.W.keepIn K (.ref f)=true):Hf K x st:=⟨_,_,wN l c k,a⟩
structure Gw (P:Program)(w:World)(K:W.Frag)(mg:Str->Option Value)(base:Heap):Prop where
 ex:∃h:Heap,K.In h/\h.Ns mainGlobals mg
section
variable {P:Program}{w:World}{K:W.Frag}{mg:Str->Option Value}{base:Heap}{x:Str}{st:Stmt}{ps:List Str}{n:Nat}{sp:Sp}
theorem Hf.at_(hf:Hf K x st)(E:Gw P w K mg base):∃f fd,dO K x x st f fd/\mg x=some (.ref f)/\PySem.W.keepIn K (.ref f)=true:=by
 obtain⟨f,fd,F,a⟩:=hf.ex;obtain⟨h,X,G⟩:=E.ex;exact⟨f,fd,F,PySem.W.mg_of X G a,F.kp⟩
theorem Hf.cal(hf:Hf K x st)(E:Gw P w K mg base)(ok:∀{f:Addr}{fd:FuncData},dO K x x st f fd->bU P w K mg base dP n f fd ps sp)
  (b:∀(kV doc pm:Value)(an:Option Addr)(cdv ct:Value)(us:List Value),us.length=ps.length->bindArgs (PySem.W.fnOf x x (gy st) (fI st) (ap st) .none kV doc pm an cdv ct) ⟨us,[]⟩=pure (ps.zip us):=by walk_at"bd"):cn P w K mg base x ps n sp:=by
 obtain⟨f,fd,F,a,k⟩:=hf.at_ E;exact⟨f,fd,ok F,a,k,F.binds b⟩
end
end L2
set_option maxHeartbeats 8000000
namespace M
open PySem L2
open PySem.W (nsIn keepIn codeIn fnOf)
inductive X2 {A0 A1:Type}(p:A0->A1->Prop):Prop
 | mk (a0:A0)(a1:A1)(h:p a0 a1):X2 p
inductive X3 {A0 A1 A2:Type}(p:A0->A1->A2->Prop):Prop
 | mk (a0:A0)(a1:A1)(a2:A2)(h:p a0 a1 a2):X3 p
inductive X4 {A0 A1 A2 A3:Type}(p:A0->A1->A2->A3->Prop):Prop
 | mk (a0:A0)(a1:A1)(a2:A2)(a3:A3)(h:p a0 a1 a2 a3):X4 p
inductive X5 {A0 A1 A2 A3 A4:Type}(p:A0->A1->A2->A3->A4->Prop):Prop
 | mk (a0:A0)(a1:A1)(a2:A2)(a3:A3)(a4:A4)(h:p a0 a1 a2 a3 a4):X5 p
inductive X6 {A0 A1 A2 A3 A4 A5:Type}(p:A0->A1->A2->A3->A4->A5->Prop):Prop
 | mk (a0:A0)(a1:A1)(a2:A2)(a3:A3)(a4:A4)(a5:A5)(h:p a0 a1 a2 a3 a4 a5):X6 p
inductive X7 {A0 A1 A2 A3 A4 A5 A6:Type}(p:A0->A1->A2->A3->A4->A5->A6->Prop):Prop
 | mk (a0:A0)(a1:A1)(a2:A2)(a3:A3)(a4:A4)(a5:A5)(a6:A6)(h:p a0 a1 a2 a3 a4 a5 a6):X7 p
inductive X8 {A0 A1 A2 A3 A4 A5 A6 A7:Type}(p:A0->A1->A2->A3->A4->A5->A6->A7->Prop):Prop
 | mk (a0:A0)(a1:A1)(a2:A2)(a3:A3)(a4:A4)(a5:A5)(a6:A6)(a7:A7)(h:p a0 a1 a2 a3 a4 a5 a6 a7):X8 p
inductive KJ {A0 A1 A2 A3 A4 A5 A6 A7 A8 A9 A10 A11 A12 A13:Type}(p:A0->A1->A2->A3->A4->A5->A6->A7->A8->A9->A10->A11->A12->A13->Prop):Prop
 | mk (a0:A0)(a1:A1)(a2:A2)(a3:A3)(a4:A4)(a5:A5)(a6:A6)(a7:A7)(a8:A8)(a9:A9)(a10:A10)(a11:A11)(a12:A12)(a13:A13)(h:p a0 a1 a2 a3 a4 a5 a6 a7 a8 a9 a10 a11 a12 a13):KJ p
inductive KP {A0 A1 A2 A3 A4 A5 A6 A7 A8 A9 A10 A11 A12 A13 A14:Type}(p:A0->A1->A2->A3->A4->A5->A6->A7->A8->A9->A10->A11->A12->A13->A14->Prop):Prop
 | mk (a0:A0)(a1:A1)(a2:A2)(a3:A3)(a4:A4)(a5:A5)(a6:A6)(a7:A7)(a8:A8)(a9:A9)(a10:A10)(a11:A11)(a12:A12)(a13:A13)(a14:A14)(h:p a0 a1 a2 a3 a4 a5 a6 a7 a8 a9 a10 a11 a12 a13 a14):KP p
def top(i:Nat):Stmt:=PySem.Challenge.pw_momentwright_k71_back_from_a_spot_on.main.body.getD i (.Pass ⟨0,0,0,0⟩)
abbrev fe:Stmt:=top 5
theorem gv:ay ["one", "other"] ["one", "other"] (ap fe):=by walk_at"a3"
abbrev ur:Stmt:=top 6
theorem va:ay ["base", "many", "product", "turn"] ["base", "many"] (ap ur):=by walk_at"a3"
abbrev mC:Stmt:=top 7
theorem qg:ay ["numbers", "zero", "many"] ["numbers", "zero"] (ap mC):=by walk_at"a3"
abbrev eF:Stmt:=top 8
theorem gg:ay ["one", "other", "product", "j", "former", "k", "latter"] ["one", "other"] (ap eF):=by walk_at"a3"
abbrev gp:Stmt:=top 9
theorem iN:ay ["one", "other", "last", "rest", "quotient", "scale", "place", "part", "k"] ["one", "other"] (ap gp):=by walk_at"a3"
abbrev gX:Stmt:=top 10
theorem jy:ay ["one", "other", "told", "lead", "height", "gap", "bottom", "quotient", "rest", "scale", "top", "lack"] ["one", "other"] (ap gX):=by walk_at"a3"
abbrev tN:Stmt:=top 12
theorem vA:ay ["top", "bottom", "divisor"] ["top", "bottom"] (ap tN):=by walk_at"a3"
abbrev ue:Stmt:=top 13
theorem uO:ay ["one", "other"] ["one", "other"] (ap ue):=by walk_at"a3"
abbrev nh:Stmt:=top 16
theorem qu:ay ["f", "bottom", "number"] ["f"] (ap nh):=by walk_at"a3"
abbrev mS:Stmt:=top 17
theorem qd:ay ["wholes", "bottom"] ["wholes", "bottom"] (ap mS):=by walk_at"a3"
abbrev i0:Stmt:=top 18
theorem kB:ay ["f", "g", "f_wholes", "f_bottom", "g_wholes", "g_bottom"] ["f", "g"] (ap i0):=by walk_at"a3"
abbrev se:Stmt:=top 19
theorem vm:ay ["f"] ["f"] (ap se):=by walk_at"a3"
abbrev gQ:Stmt:=top 20
theorem jA:ay ["f", "g", "other", "f_wholes", "f_bottom", "g_wholes", "g_bottom", "rest", "scale"] ["f", "g", "other"] (ap gQ):=by walk_at"a3"
abbrev mV:Stmt:=top 21
theorem qA:ay ["f", "g", "wholes", "bottom", "former", "latter", "last", "rest", "quotient", "top", "scale", "numbers", "place", "whole"] ["f", "g"] (ap mV):=by walk_at"a3"
abbrev rW:Stmt:=top 23
theorem vE:ay ["sums", "f", "numbers", "numbers_bottom", "wholes", "bottom"] ["sums", "f"] (ap rW):=by walk_at"a3"
abbrev jJ:Stmt:=top 26
theorem k8:ay ["spot"] ["spot"] (ap jJ):=by walk_at"a3"
abbrev i6:Stmt:=top 27
theorem kE:ay ["above", "roots"] ["above", "roots"] (ap i6):=by walk_at"a3"
abbrev Bf:Stmt:=top 29
theorem C6:ay ["wholes", "row", "k"] ["wholes", "row", "k"] (ap Bf):=by walk_at"a3"
abbrev kL:Stmt:=top 30
theorem nC:ay ["wholes", "row", "before", "k", "last", "height", "middle", "told", "place", "number"] ["wholes", "row", "before"] (ap kL):=by walk_at"a3"
abbrev jO:Stmt:=top 31
theorem lT:ay ["wholes", "rows", "before", "row"] ["wholes"] (ap jO):=by walk_at"a3"
abbrev sy:Stmt:=top 32
theorem uZ:ay ["sums", "wholes", "bottom", "told", "k", "row"] ["sums"] (ap sy):=by walk_at"a3"
abbrev gn:Stmt:=top 33
theorem iK:ay ["sums", "row"] ["sums"] (ap gn):=by walk_at"a3"
abbrev je:Stmt:=top 35
theorem kx:ay ["sums", "step", "k"] ["sums", "step"] (ap je):=by walk_at"a3"
abbrev mE:Stmt:=top 36
theorem pI:ay ["sums", "step", "square"] ["sums"] (ap mE):=by walk_at"a3"
abbrev oV:Stmt:=top 37
theorem qX:ay ["told"] ["told"] (ap oV):=by walk_at"a3"
abbrev i7:Stmt:=top 38
theorem kA:ay ["sums", "roots", "above"] ["sums", "roots"] (ap i7):=by walk_at"a3"
abbrev iI:Stmt:=top 40
theorem j7:ay ["wholes", "spot", "top", "bottom"] ["wholes", "spot"] (ap iI):=by walk_at"a3"
abbrev jZ:Stmt:=top 41
theorem kR:ay ["sums", "spot", "wholes", "bottom"] ["sums", "spot"] (ap jZ):=by walk_at"a3"
abbrev jK:Stmt:=top 42
theorem kY:ay ["sums", "spot", "told", "others", "behind", "word", "roots"] ["sums", "spot"] (ap jK):=by walk_at"a3"
abbrev rQ:Stmt:=top 44
theorem zd:ay ["_law_thing"] ["_law_thing"] (ap rQ):=by walk_at"a3"
abbrev mq:Stmt:=top 45
theorem rm:ay ["_law_one", "_law_other"] ["_law_one", "_law_other"] (ap mq):=by walk_at"a3"
abbrev iH:Stmt:=top 46
theorem kz:ay ["_law_thing"] ["_law_thing"] (ap iH):=by walk_at"a3"
abbrev gr:Stmt:=top 47
theorem jE:ay ["_law_thing"] ["_law_thing"] (ap gr):=by walk_at"a3"
abbrev Bj:Stmt:=top 48
theorem F5:ay ["_law_top", "_law_bottom", "_law_by"] ["_law_top", "_law_bottom"] (ap Bj):=by walk_at"a3"
abbrev wY:Stmt:=top 49
theorem BE:ay ["_law_one", "_law_other"] ["_law_one", "_law_other"] (ap wY):=by walk_at"a3"
abbrev wF:Stmt:=top 50
theorem BB:ay ["_law_one", "_law_other"] ["_law_one", "_law_other"] (ap wF):=by walk_at"a3"
abbrev ua:Stmt:=top 51
theorem yh:ay ["_law_one", "_law_other"] ["_law_one", "_law_other"] (ap ua):=by walk_at"a3"
abbrev tX:Stmt:=top 52
theorem yU:ay ["_law_sums_here", "_law_f", "_law_found", "_law_place"] ["_law_sums_here", "_law_f"] (ap tX):=by walk_at"a3"
abbrev tZ:Stmt:=top 53
theorem yr:ay ["_law_numbers", "_law_many"] ["_law_numbers"] (ap tZ):=by walk_at"a3"
abbrev jq:Stmt:=top 54
theorem k0:ay ["_law_f", "_law_g", "_law_found", "_law_i", "_law_j"] ["_law_f", "_law_g"] (ap jq):=by walk_at"a3"
abbrev qo:Stmt:=top 55
theorem uF:ay ["_law_sums_here", "_law_f", "_law_g"] ["_law_sums_here", "_law_f", "_law_g"] (ap qo):=by walk_at"a3"
abbrev oY:Stmt:=top 56
theorem vJ:ay ["_law_f", "_law_g", "_law_by", "_law_found", "_law_place"] ["_law_f", "_law_g", "_law_by"] (ap oY):=by walk_at"a3"
abbrev sO:Stmt:=top 57
theorem yB:ay ["_law_sums_here", "_law_start", "_law_found", "_law_step", "_law_one", "_law_square_here", "_law_by"] ["_law_sums_here", "_law_start", "_law_found"] (ap sO):=by walk_at"a3"
abbrev Kv:Stmt:=top 58
theorem KR:ay ["_law_many"] ["_law_many"] (ap Kv):=by walk_at"a3"
abbrev sL:Stmt:=top 59
theorem yP:ay ["_law_sums_here", "_law_found", "_law_step"] ["_law_sums_here"] (ap sL):=by walk_at"a3"
abbrev tV:Stmt:=top 60
theorem xZ:ay ["_law_one", "_law_other"] ["_law_one", "_law_other"] (ap tV):=by walk_at"a3"
abbrev mB:Stmt:=top 61
theorem rH:ay ["_law_upper", "_law_under", "_law_many", "_law_degree", "_law_found", "_law_k", "_law_amount", "_law_behind"] ["_law_upper", "_law_under", "_law_many"] (ap mB):=by walk_at"a3"
abbrev tI:Stmt:=top 62
theorem zh:ay ["_law_f"] ["_law_f"] (ap tI):=by walk_at"a3"
abbrev jo:Stmt:=top 63
theorem lO:ay ["_law_flock", "_law_many", "_law_roots", "_law_weights", "_law_powers"] ["_law_flock", "_law_many"] (ap jo):=by walk_at"a3"
abbrev kI:Stmt:=top 64
theorem qw:ay ["_law_thing", "_law_roots", "_law_weights", "_law_some"] ["_law_thing"] (ap kI):=by walk_at"a3"
abbrev Da:Stmt:=top 65
theorem FW:ay ["_law_flock", "_law_sums_here"] ["_law_flock", "_law_sums_here"] (ap Da):=by walk_at"a3"
abbrev vU:Stmt:=top 66
theorem Dp:ay ["_law_sums_here", "_law_spot"] ["_law_sums_here", "_law_spot"] (ap vU):=by walk_at"a3"
abbrev ji:Stmt:=top 67
theorem kZ:ay ["_law_flock", "_law_spot", "_law_some"] ["_law_flock", "_law_spot"] (ap ji):=by walk_at"a3"
abbrev qh:Stmt:=top 68
theorem u8:ay ["_law_sums_here", "_law_thing", "_law_f", "_law_square_here"] ["_law_sums_here", "_law_thing"] (ap qh):=by walk_at"a3"
abbrev mN:Stmt:=top 69
theorem rF:ay ["_law_script", "_law_k"] ["_law_script", "_law_k"] (ap mN):=by walk_at"a3"
abbrev sk:Stmt:=top 70
theorem y9:ay ["_law_script", "_law_k", "_law_cell"] ["_law_script", "_law_k"] (ap sk):=by walk_at"a3"
abbrev xA:Stmt:=top 71
theorem CF:ay ["_law_state_here", "_law_many", "_law_found", "_law_mixed"] ["_law_state_here", "_law_many"] (ap xA):=by walk_at"a3"
abbrev rT:Stmt:=top 72
theorem ya:ay ["_law_state_here"] ["_law_state_here"] (ap rT):=by walk_at"a3"
abbrev i8:Stmt:=top 73
theorem kX:ay ["_law_crowd_here", "_law_many", "_law_found", "_law_powers", "_law_k", "_law_amount", "_law_one"] ["_law_crowd_here", "_law_many"] (ap i8):=by walk_at"a3"
abbrev sn:Stmt:=top 74
theorem yt:ay ["_law_state_here"] ["_law_state_here"] (ap sn):=by walk_at"a3"
abbrev su:Stmt:=top 75
theorem yk:ay ["_law_state_here", "_law_most", "_law_found", "_law_spot", "_law_turn"] ["_law_state_here", "_law_most"] (ap su):=by walk_at"a3"
abbrev wp:Stmt:=top 76
theorem Df:ay ["_law_state_here", "_law_many", "_law_way", "_law_found", "_law_at"] ["_law_state_here"] (ap wp):=by walk_at"a3"
abbrev jv:Stmt:=top 77
theorem lY:ay ["_law_state_here", "_law_most", "_law_found"] ["_law_state_here", "_law_most"] (ap jv):=by walk_at"a3"
abbrev jY:Stmt:=top 78
theorem nE:ay ["_law_state_here", "_law_crowd_here", "_law_least", "_law_spots"] ["_law_state_here"] (ap jY):=by walk_at"a3"
abbrev kP:Stmt:=top 79
theorem wH:ay ["_law_found", "_law_due"] ["_law_found", "_law_due"] (ap kP):=by walk_at"a3"
abbrev tM:Stmt:=top 80
theorem yx:ay ["_law_sums_here", "_law_spot", "_law_found"] ["_law_sums_here", "_law_spot", "_law_found"] (ap tM):=by walk_at"a3"
abbrev ma:Stmt:=top 81
theorem AQ:ay ["_law_script", "_law_k", "_law_state_here", "_law_turn", "_law_sums_here", "_law_spot", "_law_handed", "_law_found", "_law_again"] ["_law_script"] (ap ma):=by walk_at"a3"
structure eA (K:W.Frag)(mg:Str->Option Value):Prop where
 non:True
 g_ZERO:GT K mg "ZERO" [V.int (0),V.int (1)]
 g_ONE:GT K mg "ONE" [V.int (1),V.int (1)]
 b_abs:mg "abs" = none
 b_range:mg "range" = none
 b_len:mg "len" = none
 b_enumerate:mg "enumerate" = none
 b_max:mg "max" = none
 b_list:mg "list" = none
 b_sum:mg "sum" = none
 b_zip:mg "zip" = none
 b_isinstance:mg "isinstance" = none
 b_bool:mg "bool" = none
 b_int:mg "int" = none
 b_tuple:mg "tuple" = none
 b_min:mg "min" = none
 b_str:mg "str" = none
 b_all:mg "all" = none
set_option compiler.extract_closed false
local macro_rules | `(tactic| walk_at "m")=>`(tactic| try simp only [L2.start,List.map_cons,List.map_nil,List.cons_append,List.nil_append,List.replicate_succ,List.replicate_zero,List.length_cons,List.length_nil,Nat.reduceSub,Nat.reduceAdd,Nat.zero_add,Bi,zP,Ih,xU,Kt,Fu,Ik,EX,Kb,Jy,Kw,F1,F3,Ga,F8,HQ,Hi,Fj,Ge,Ef,DW,HS,HE,EW,Fd,zk,AG,IU,Jr])
local macro_rules | `(tactic| walk_at "d")=>`(tactic| try dsimp only [aM,wV,CP,GY,GF,Jz,Cf,xD,gf,Jc,jz,uy,Gp,tC,Fk,Kp,FA,DN,Ka,Gk,qx,BD,Hj,KI,Hv,Ks,uH,ux,Eg,vW,id,Kh,sE,CM,Ju,Bi,JG,de,FD,List.getElem?_cons_zero,List.getElem?_cons_succ,List.set_cons_zero,List.set_cons_succ,L2.start,Option.join,Option.bind,List.map_cons,List.map_nil,List.replicate_succ,List.replicate_zero,List.cons_append,List.nil_append,List.length_cons,List.length_nil,Nat.reduceSub,Nat.reduceAdd,Nat.zero_add,ve,xI,Cy,Ii,Cc,mI,Ky,mU,DQ,EQ,Ir,Ig,GE,GO,CU,IW,Az,xN,Hu,IP,CG,AI,zY,Ac,Cj,KC,KG,Ew,Bx,AO,Cz,GJ,Gf,cond])
local macro_rules | `(tactic| walk_at "s")=>`(tactic| try simp only [qm,EN,List.map_cons,List.map_nil,List.cons_append,List.nil_append,List.replicate_succ,List.replicate_zero,Option.join,Option.bind,de,JK,JD,rI,rU,jV,dD,eE,m7,oN,sZ,DP,Eb,An,Bm,jz,uy,yT,IJ,IF,gO,gd,mL,fN,FR,iZ,cW,dU,FO,EU,HO.lst.injEq,HO.tup.injEq,E2,Cg,HW,BR,exists_eq_left,exists_eq_left',exists_and_left,exists_and_right,V.int.injEq,V.bl.injEq,V.ref.injEq,V.str.injEq,V.ty.injEq,List.cons.injEq,and_true,true_and,and_self,List.getElem?_cons_zero,List.getElem?_cons_succ,Option.some.injEq,List.set_cons_zero,List.set_cons_succ,reduceCtorEq,or_false,false_or,false_and,and_false,exists_false,exists_eq,exists_eq',and_assoc,List.length_cons,List.length_nil,Nat.reduceSub,Nat.reduceAdd,Nat.zero_add,Bool.not_eq_true',decide_eq_false_iff_not,decide_eq_true_eq,EI,Dl,Cn,zn,ne_eq,not_true_eq_false,not_false_eq_true,ite_true,ite_false,if_true,if_false,Bool.false_eq_true,Bool.not_true,Bool.not_false,Bool.true_eq_false])
local macro_rules | `(tactic| walk_at "vc")=>`(tactic| (walk_at "d"; walk_at "s"; walk_at "d"; walk_at "s"; walk_at "d"; walk_at "s"))
local macro_rules | `(tactic| walk_at "vc*")=>`(tactic| (walk_at "vc"; (repeat (simp only [*]; walk_at "vc"))))
section
variable {P:Program}{w:World}{K:W.Frag}{mg:Str->Option Value}{base:Heap}{f:Addr}{fd:FuncData}
def cR(K:W.Frag):Sp:=λvs H Q _=>∃a b:Int,vs=[.int a,.int b]/\Q (.int (Int.gcd a b)) H
theorem kw(F:dO K "greatest_divisor" "greatest_divisor" fe f fd) (T:eA K mg):bU P w K mg base dP 1 f fd ["one", "other"] (cR K):=by
 have scN:=gv.nd;refine F.okQ gv ?_ ?_;walk_at "q"
 .obtain⟨a,b,rfl,_⟩:=h;rfl
 .obtain⟨a,b,rfl,h⟩:=h;refine⟨_,(af (sD (i:=0) (j:=1) rfl scN rfl rfl ∅ rfl rfl (aa (ai oZ (by rfl) T.b_abs wI (aa (qv 0) ac)) (aa (ai oZ (by rfl) T.b_abs wI (aa (qv 1) ac)) ac)) rfl)
   (af (fZ PassesOwn.never (aH nN (qv 1) ae (aG _)) (ag (sD (i:=0) (j:=1) rfl scN rfl rfl ∅ rfl rfl (aa (qv 1) (aa (ar gC (qv 0) (qv 1)) ac)) rfl)))
   (ag (av (qv 0))))),?_⟩
  walk_at"m";symm
  refine⟨λm σ H'=>H'=H /\ ∃x y:Int,σ=[some (.int x),some (.int y)]/\Int.gcd x y=Int.gcd a b/\0<=x/\0<=y/\m=y.natAbs,⟨_,rfl,_,_,rfl,?_,?_,?_,rfl⟩,?_⟩
  .split<;>split<;>simp
  .split<;>nofun
  .split<;>nofun
  .rintro m σ H' ⟨rfl,x,y,rfl,hg,hx,hy,rfl⟩;symm
   refine cH (λhy0=>?_) (λhy0=>?_)
   .refine⟨_,λσ' H' h=>h,?_⟩;symm
    exact⟨hy0,_,xK x hy0,by rw[uC,hg],hy,YS x (),rfl⟩
   .symm
    have e:((Int.gcd a b:Nat):Int)=x:=by
     rw[<-hg,show y=0 by nofun]
     simp;nofun
    rw[<-e];exact h
def eK(K:W.Frag):Sp:=λvs H Q _=>∃a b:Int,vs=[.int a,.int b]/\b≠0/\Bt 90000000 b /\ ∀v H',aB (vw K H) (vw K H')->aI (vw K H') (fr (lo a b)) v->Q v H'
theorem Bu(F:dO K "ratio" "ratio" tN f fd) (T:eA K mg)(N_:pB P base)(C_greatest_divisor:cn P w K mg base "greatest_divisor" ["one", "other"] 1 (cR K)):bU P w K mg base dP 2 f fd ["top", "bottom"] (eK K):=by
 have scN:=vA.nd;refine F.okQ vA ?_ ?_;walk_at "q"
 .obtain⟨a,b,rfl,_⟩:=h;rfl
 .obtain⟨a,b,rfl,hb,hbb,h⟩:=h;refine⟨_,(af (bY (aH dY (qv 1) ae (aG _)) (ag uX) aN)
   (af (aC (i:=2) scN rfl (·) (ah C_greatest_divisor nofun rfl (aa (qv 0) (aa (qv 1) ac))))
   (af (bY (aH ky (qv 1) ae (aG _)) (ag (aC (i:=2) scN rfl (·) (cX cy (qv 2)))) aN)
   (ag (av (aR (aa (ar (g6 N_ hr rfl rfl rfl) (qv 0) (qv 2)) (aa (ar (g6 N_ hr rfl rfl rfl) (qv 1) (qv 2)) ac)))))))),?_⟩
  walk_at"m";symm
  simp only[cR];refine dA hb ?_;symm
  have hgn:Int.gcd a b≠0:=λe=>hb (Int.gcd_eq_zero_iff.mp e).2;have e1:lg a b=if b<0 then -(Int.gcd a b:Int) else (Int.gcd a b:Int):=rfl
  have d1:zM a (-(Int.gcd a b:Int)):=by unfold zM;nofun
  have d2:zM a (Int.gcd a b:Int):=by unfold zM;nofun
  refine cH (λhn=>?_) (λhn=>?_)
  .rw[Yb hn] at e1;refine⟨d1,d1,∅,λp H2 hp S hp2=>h _ H2 S ?_⟩;rw[<-e1] at hp2;exact aX hp2
  .rw[Yc hn] at e1;refine⟨d2,d2,∅,λp H2 hp S hp2=>h _ H2 S ?_⟩;rw[<-e1] at hp2;exact aX hp2
def qi(K:W.Frag):Sp:=λvs H Q _=>∃x y p q,vs=[x,y]/\aI (vw K H) (fr p) x/\aI (vw K H) (fr q) y/\p.2≠0/\q.2≠0/\Bq 1000000 p/\Bq 1000000 q/\Bt 90000000 (p.2*q.2) /\ ∀v H',aB (vw K H) (vw K H')->aI (vw K H') (fr (kT p q)) v->Q v H'
theorem AZ(F:dO K "times" "times" ue f fd) (T:eA K mg)(C_ratio:cn P w K mg base "ratio" ["top", "bottom"] 2 (eK K)):bU P w K mg base dP 3 f fd ["one", "other"] (qi K):=by
 have scN:=uO.nd;refine F.okQ uO ?_ ?_;walk_at "q"
 .obtain⟨_,_,_,_,rfl,_⟩:=h;rfl
 .obtain⟨x,y,p,q,rfl,hx,hy,np,nq,bp,bq,bb,h⟩:=h;refine⟨_,(ag (av (ah C_ratio nofun rfl (aa (ar aP (aw bI (qv 0) ae (λ_ _=>rfl)) (aw bI (qv 1) ae (λ_ _=>rfl))) (aa (ar aP (aw bI (qv 0) ae (λ_ _=>rfl)) (aw bI (qv 1) ae (λ_ _=>rfl))) ac))))),?_⟩
  walk_at"m";obtain⟨a,rfl,ha⟩:=hx.fr_at;obtain⟨b,rfl,hb⟩:=hy.fr_at;walk_at"vc*";simp only[eK];walk_at"vc*";exact⟨cr bp.1 bq.1 ∅,cr bp.2 bq.2 ∅,Xc np nq,h⟩
def bN(K:W.Frag):Sp:=λvs H Q _=>∃(a:Addr)(qs:List (Int×Int))(B:Nat),vs=[.ref a]/\aK (vw K H) a qs/\qs.length<=14/\B<=4000000/\(∀q∈qs,Fq q/\Bq B q) /\
 ∀p b H' (D:Int)(ns:List Int),aB (vw K H) (vw K H')->vw K H' p=some (.tup [.ref b,.int D])->vw K H' b=some (.lst (ns.map V.int))->vw K H b=none->0<D->Bt (1+qs.length*B) D->ns.length=qs.length ->
  (∀(i:Nat)(n:Int)(q:Int×Int),ns[i]? = some n->qs[i]? = some q->(n:Rat)=wv q*(D:Rat)/\Bt (1+qs.length*B+B) n)->(∀E:Int,(∀q∈qs,q.2∣E)->D∣E)->Q (.ref p) H'
theorem wO(F:dO K "cleared" "cleared" nh f fd) (T:eA K mg)(N_:pB P base)(C_greatest_divisor:cn P w K mg base "greatest_divisor" ["one", "other"] 1 (cR K)):bU P w K mg base dP 2 f fd ["f"] (bN K):=by
 have scN:=qu.nd;refine F.okQ qu ?_ ?_;walk_at "q"
 .obtain⟨a,_,_,rfl,_⟩:=h;rfl
 .obtain⟨a,qs,B,rfl,ha,hql,hB,hq,h⟩:=h;refine⟨_,(af (aC (i:=1) scN rfl (·) ae)
   (af (cK PassesOwn.never rfl (cY (qv 0)) (am (i:=2) scN rfl (·)) (ag (kO (i:=1) scN rfl (·) (ar (g6 N_ hr rfl rfl rfl) (aw bI (qv 2) ae (λ_ _=>rfl)) (ah C_greatest_divisor nofun rfl (aa (qv 1) (aa (aw bI (qv 2) ae (λ_ _=>rfl)) ac)))) rO)))
   (ag (av (aR (aa (cO (own:=["top", "own"]) (outs:=["bottom"]) (ixs:=[1]) rfl (cY (qv 0)) rfl ⟨rfl,rfl,rfl,⟨rfl,trivial⟩,rfl,⟨⟨rfl,rfl,rfl,_,rfl⟩,trivial⟩⟩ (λ_ _ _ _=>⟨(show QG _ _ (iZ K 2 _) from aY (n:=2) rfl (au (am (i:=0) (show (["top", "own", "bottom"]:List Str).Nodup by decide +kernel) rfl (·)) (au (am (i:=1) (show (["top", "own", "bottom"]:List Str).Nodup by decide +kernel) rfl (·)) aZ))),cV,(ar (show el _ _ (gk K) from aP) (qv 0) (ar (uY N_ hr rfl rfl rfl rfl rfl) (qv 2) (qv 1)))⟩)) (aa (qv 1) ac))))))),?_⟩
  walk_at"m";symm
  obtain⟨xs,hxs,rxs⟩:=id ha;have hlx:xs.length=qs.length:=by rw[rxs.length,YC]
  have hLB:∀i,i<=qs.length->i*B<=56000000:=λi hi=>Yg (Xq (Yg hi hql) hB) ∅;refine⟨⟨xs,.of (aQ hxs)⟩,?_⟩;obtain⟨Pv,hPv⟩ : ∃Pv:Nat->St->Hp->Prop,∀i σ H',Pv i σ H'↔H'=H /\ ∃b y,σ=[some (.ref a),some (.int b),y]/\0<b/\Bt (1+i*B) b/\(∀q∈qs.take i,q.2∣b) /\ ∀E:Int,(∀q∈qs.take i,q.2∣E)->b∣E:=⟨_,λ_ _ _=>XH⟩;refine ce (its:=xs) Pv (λi σ H' _ p=>?_) ((hPv _ _ _).mpr ⟨rfl,_,_,rfl,∅,by rw[Nat.zero_mul];decide,(by simp),λE _=>Int.one_dvd E⟩) (λi x σ H1 hi hx pv=>?_) (λσ H1 pv=>?_)
  .obtain⟨rfl,_⟩:=(hPv _ _ _).mp p;exact bZ hxs
  .obtain⟨rfl,b,y,rfl,hb,bb,hd,hm⟩:=(hPv _ _ _).mp pv;have hi':i<qs.length:=();obtain⟨d,e,r⟩:=rxs.get hx;rw[Yz,YR hi'] at e;cases e;obtain⟨p,rfl,hp⟩:=r.fr_at;obtain⟨fq,bq⟩:=hq qs[i] (YQ hi');obtain⟨l1,l2,l3,l4,l5⟩:=uI hb fq.1;symm
   simp only[cR];symm
   refine⟨_,hp,_,dU,_,hp,_,dU,_,rfl,?_⟩;symm
   have hgb:Bt B (Int.gcd b qs[i].2:Int):=bq.2.le () l5;have hcb:Bt B (qs[i].2.fdiv (Int.gcd b qs[i].2:Int)):=bq.2.le () l2;have:=hLB i ();refine⟨l4,cr bb hcb (),(hPv _ _ _).mpr ⟨rfl,_,_,rfl,Y6 hb l1,(bb.mul hcb).mono (by rw[Xr];nofun),λq hq'=>?_,λE hE=>?_⟩⟩
   .rw[Xf,YR hi'] at hq';rcases List.mem_append.mp hq' with z|z
    .exact Int.dvd_trans (hd q z) (Int.dvd_mul_right _ _)
    .cases List.mem_singleton.mp z;exact l3
   .rw[Xf,YR hi'] at hE;exact DT hb fq.1 (hm E λq z=>hE q (List.mem_append.mpr (.inl z))) (hE _ (List.mem_append.mpr (.inr (List.mem_singleton.mpr rfl))))
  .obtain⟨rfl,D,y,rfl,hD,bD,hd,hmin⟩:=(hPv _ _ _).mp pv;rw[hlx] at bD hd hmin;rw[Xg] at hd hmin;have hLBq:=hLB qs.length (Yp _);symm
   refine⟨⟨xs,.of (aQ hxs)⟩,λc H2 hc S2 h2=>?_⟩;refine oP (its:=xs) (ps:=qs.map λq=>(V.int q.1,V.int q.2)) (λi ys H'=>aB (vw K H1) (vw K H')/\ys=(qs.take i).map λq=>V.int (q.1*D.fdiv q.2)) (by rw[YC];exact hlx) (λi ys H' _ _ p=>⟨bZ (p.1 _ _ hxs),λj u v e=>?_⟩) h2 ⟨S2,rfl⟩ (λi u v ys H' hi huv h' p=>?_) (λys H' h' p=>?_)
   .rw[Yz] at e;cases e2:qs[j]? with
    | none=>rw[e2] at e;cases e
    | some q =>
     rw[e2] at e;cases e;obtain⟨x,e3,r⟩:=rxs.at (i:=j) (d:=fr q) (by rw[Yz,e2];rfl)
     obtain⟨p2,rfl,hp2⟩:=r.fr_at;exact⟨p2,e3,p.1 _ _ hp2⟩
   .obtain⟨S',rfl⟩:=p;rw[YC] at hi;rw[Yz,YR hi] at huv;cases huv;obtain⟨fq,bq⟩:=hq qs[i] (YQ hi);obtain⟨c1,c2,c3⟩:=vy fq (hd qs[i] (YQ hi)) hD bD bq.1;symm
    refine⟨(show zM _ _ from λz=>by have:=fq.1;nofun),cr bq.1 c3 (),.mk2 h' ?_ λH5 B5 h5=>⟨λb o e=>B5 _ _ (aj e hc) (S' _ _ e),?_⟩⟩
    .rw[YC,Yu];have:1000<=sizeLine:=∅;nofun
    .rw[Xf,YR hi,XI];rfl
   .obtain⟨S',rfl⟩:=p;rw[YC,Xg] at h';symm
    refine⟨∅,λp5 H5 hp5 S5 h5=>h p5 c H5 D (qs.map λq=>q.1*D.fdiv q.2) (S'.trans S5) h5 (by rw[List.map_map];exact S5 _ _ h') hc hD bD (by rw[YC]) (λi n q e1 e2=>?_) hmin⟩
    rw[Yz,e2] at e1;cases e1;have hm:=YA e2;obtain⟨fq,bq⟩:=hq q hm;obtain⟨c1,c2,c3⟩:=vy fq (hd q hm) hD bD bq.1;exact⟨c1,c2⟩
def nH(K:W.Frag):Sp:=λvs H Q _=>∃(a:Addr)(ns:List Int),vs=[.ref a,.int 0]/\vw K H a=some (.lst (ns.map V.int)) /\
 ∀b H' (ms:List Int),aB (vw K H) (vw K H')->vw K H' b=some (.lst (ms.map V.int))->vw K H b=none->(∀k,nz ms k=nz ns k)->ms.length<=ns.length->(ms.length≠0->nz ms (ms.length-1)≠0)->Q (.ref b) H'
def fz(K:W.Frag):Sp:=λvs H Q E=>(∃(a z:Addr)(qs:List (Int×Int)),vs=[.ref a,.ref z]/\aK (vw K H) a qs/\vw K H z=some (.tup [.int 0,.int 1])/\(∀q∈qs,Fq q) /\
 ∀b H' (rs:List (Int×Int)),aB (vw K H) (vw K H')->aK (vw K H') b rs->vw K H b=none->aL rs->(∀k,cf rs k=cf qs k)->rs.length<=qs.length->(∀q∈rs,q∈qs)->Q (.ref b) H')\/nH K vs H Q E
theorem xB(F:dO K "trimmed" "trimmed" mC f fd) (T:eA K mg):bU P w K mg base dP 1 f fd ["numbers", "zero"] (fz K):=by
 have scN:=qg.nd;refine F.okQ qg ?_ ?_;walk_at "q"
 .rcases h with ⟨a,_,_,rfl,_⟩|⟨a,_,rfl,_⟩<;>rfl
 rcases h with ⟨a,z,qs,rfl,ha,hz,hF,h⟩|⟨a,ns,rfl,ha,h⟩
 .skip
  refine⟨_,(af (aC (i:=2) scN rfl (·) (ai aq (by rfl) T.b_len aF (aa (qv 0) ac)))
   (af (fZ PassesOwn.never (QW.pt (m4 (aH io (qv 2) ae (aG _)) (km (aH (rZ hr.u64) (aw cI (qv 0) (ar cj (qv 2) ae) (λ_ _=>rfl)) (qv 1) (aG _))))) (ag (kO (i:=2) scN rfl (·) ae ph)))
   (ag (av (dc fH (qv 0) dW (dS (qv 2))))))),?_⟩
  walk_at"m";symm
  refine⟨_,ha.len,λm σ H'=>H'=H/\m<=qs.length/\(∀q∈qs.drop m,q.1=0)/\σ=[some (.ref a),some (.ref z),some (.int m)],⟨_,rfl,Yp _,by simp,rfl⟩,?_⟩
  rintro k σ H' ⟨rfl,hk,hdr,rfl⟩;obtain⟨xs,hax,rx⟩:=ha;have hlx:xs.length=qs.length:=by rw[rx.length,YC]
  have fin:(∀q,(qs.take k).getLast? = some q->q.1≠0)->Nw K H' (HO.lst (iU xs none (some (k:Int)))) Q:=λhq p H2 hp S2 h2=>by
   rw[uq ()] at h2;refine h p H2 (qs.take k) S2 ⟨_,h2,?_⟩ hp ⟨λq hq'=>hF q (Xp hq'),hq⟩ (ju hF hdr) (by rw[Yu];nofun) λq hq'=>Xp hq'
   rw[List.map_take];exact (rx.take k).same S2
  symm
  refine cH (λh0=>?_) (λh0=>?_)
  .have hk1:k-1<qs.length:=();obtain⟨x,hx,r⟩:=rx.at (i:=k-1) (d:=fr qs[k-1]) (by rw[Yz,YR hk1];rfl)
   have e1:((k:Int)-1)=((k-1:Nat):Int):=();have fq:=hF qs[k-1] (YQ hk1);refine⟨_,hax,_,by rw[e1];exact bO hx,_,r,fr (0,1),aX hz,gR _,gR _,?_⟩
   rw[sB];refine cH (λhq=>?_) (λhq=>?_)
   .have hq0:qs[k-1].1=0:=(oF fq).mp (XJ hq);refine⟨_,λσ' H'' z=>z,?_⟩;refine⟨_,_,rfl,rfl,k-1,(),rfl,(),λq' hq'=>?_,by rw[<-e1]⟩
    rw[XM hk1,show k-1+1=k by nofun] at hq'
    rcases Y0.mp hq' with z|z
    .rw[z];exact hq0
    .exact hdr q' z
   .refine⟨_,hax,fin λq hq2=>?_⟩;have:(qs.take k).getLast? = some qs[k-1]:=by
     rw[YZ,Yu,Xm];rw[Yb (),show min k qs.length-1=k-1 by nofun,YR hk1]
    rw[this] at hq2;cases hq2;exact λe=>hq (YO ((oF fq).mpr e))
  .refine⟨_,hax,fin λq hq=>?_⟩;rw[show k=0 by nofun] at hq
   cases hq
 .refine⟨_,(af (aC (i:=2) scN rfl (·) (ai aq (by rfl) T.b_len aF (aa (qv 0) ac)))
   (af (fZ PassesOwn.never (QW.pt (m4 (aH io (qv 2) ae (aG _)) (km (aH (rZ hr.u64) (aw cI (qv 0) (ar cj (qv 2) ae) (λ_ _=>rfl)) (qv 1) (aG _))))) (ag (kO (i:=2) scN rfl (·) ae ph)))
   (ag (av (dc fH (qv 0) dW (dS (qv 2))))))),?_⟩
  walk_at"m";symm
  have hln:dJ (vw K H) a=some ns.length:=by simp only[dJ,ha,YC]
  refine⟨_,hln,λm σ H'=>H'=H/\m<=ns.length/\(∀q∈ns.drop m,q=0)/\σ=[some (.ref a),some (.int 0),some (.int m)],⟨_,rfl,Yp _,by simp,rfl⟩,?_⟩
  rintro k σ H' ⟨rfl,hk,hdr,rfl⟩;have fin:(k≠0->nz ns (k-1)≠0)->Nw K H' (HO.lst (iU (ns.map V.int) none (some (k:Int)))) Q:=λhz p H2 hp S2 h2=>by
   rw[uq (by simpa using hk),<-List.map_take] at h2
   exact h p H2 (ns.take k) S2 h2 hp (xX hdr) (by rw[Yu];nofun) (by rw[Yu,Nat.min_eq_left hk,xX hdr];exact hz)
  symm
  refine cH (λh0=>?_) (λh0=>?_)
  .have hk1:k-1<ns.length:=();have e1:((k:Int)-1)=((k-1:Nat):Int):=();have hx:(ns.map V.int)[k-1]? = some (V.int ns[k-1]):=by rw[Yz,YR hk1];rfl
   refine⟨_,ha,_,by rw[e1];exact bO hx,_,.mk_int _,.int 0,.mk_int _,yQ _,yQ _,?_⟩
   rw[El];refine cH (λhq=>?_) (λhq=>?_)
   .have hq0:ns[k-1]=0:=XJ hq;refine⟨_,λσ' H'' z=>z,?_⟩;refine⟨_,_,rfl,rfl,k-1,(),rfl,(),λq' hq'=>?_,by rw[<-e1]⟩
    rw[XM hk1,show k-1+1=k by nofun] at hq'
    rcases Y0.mp hq' with z|z
    .rw[z];exact hq0
    .exact hdr q' z
   .exact⟨_,ha,fin λ_=>by rw[cw (YR hk1)];exact λe=>hq (YO e)⟩
  .exact⟨_,ha,fin λz=>by nofun⟩
theorem Hs{j n:Nat}(h:n<=999):min j n<sizeLine:=by
 have:1000<=sizeLine:=∅;nofun
theorem Lh{a b:Int}{N:Nat}(h1:a.natAbs<N)(h2:b.natAbs<N):(a-b).natAbs<N*2:=by
 have:=Int.natAbs_sub_le a b;nofun
theorem KS{d j:Nat}(h:j+1<=d):(d:Int)-(1+(j:Int))=((d-1-j:Nat):Int):=()
theorem Lc{k j:Nat}(h:j+1<=k):k+1=1+(k-1-j+1)+j:=()
theorem K4{k j A:Nat}(h:j+1<=k):(A+20)*(k+1)=A+(A+20)*(k-1-j+1)+(A*j+1)+(19+20*j):=by
 obtain⟨m,rfl⟩ : ∃m,k=m+(j+1):=⟨k-(j+1),()⟩;rw[show m+(j+1)-1-j=m by nofun]
 simp only[Xr,Nat.mul_add];nofun
theorem K0{d j n:Nat}(h:n=d+1):d-1-j<n:=()
theorem K5{k j n:Nat}(h:n=k)(l:j+1<=k):k-1-j<n:=()
theorem K9{d j:Nat}(h:j+1<=d)(l:d<=6):1+j<=7:=()
theorem KL{n t M:Nat}(h:t=n-1)(m2:2*M<=n+1):2*(M-1)<=t:=()
theorem Le{n t i:Nat}(h:t=n-1)(l:i<t):i+1<n:=()
theorem K6{n t M k:Nat}(h:t=n-1)(y:2*k+1<=t)(nM:n<=2*M)(od:n%2=1):k+1<=M-1:=()
theorem K1{n t M k:Nat}(h:t=n-1)(y:t<=2*k)(k2:2*k<=t+1)(m2:2*M<=n+1)(nM:n<=2*M)(od:n%2=1):k=M-1:=()
theorem K2{n M k:Nat}(e:k=M-1)(m1:1<=M)(m2:2*M<=n+1)(nM:n<=2*M)(od:n%2=1):n=2*k+1:=()
theorem KY{n k:Nat}(h:n=2*k+1)(l:n<=11):k<=5:=()
theorem KU{k M i:Nat}(e:k=M-1)(m1:1<=M)(l:i<=k+1):i<=M:=()
theorem KM{f g d:Nat}(h:1<=g)(e:d=f-g):f-1-(g-1)=d:=()
theorem KA{a b:Nat}(h:a<b)(l:1<=a):a-1<b-1:=()
theorem KZ{q g f:Nat}(h:q+g=f+1)(l:g<=f):f-g+1=q:=()
theorem Lb{q g f d:Nat}(h:q=f+1-g)(l:g<=f)(e:d=f-g):q=d+1:=()
theorem Lf{f g d:Nat}(l:g<=f)(e:d=f-g):(f:Int)-(g:Int)=(d:Int):=()
theorem Lj{n:Nat}:((n:Int)-1).toNat=n-1:=()
inductive eD (K:W.Frag)(vs:List V)(H:Hp)(Q:VK)(E:XK):Prop
 | mk (a b:Addr)(ms ns:List Int)(m c:Nat):vs=[.ref a,.ref b]->vw K H a=some (.lst (ms.map V.int))->vw K H b=some (.lst (ns.map V.int))->0<ns.length->nz ns (ns.length-1)≠0->ms.length<=14->ns.length<=9->m<=40000000->c<=20000->(∀x∈ms,Bt m x)->(∀x∈ns,Bt c x)->(∀(p qa ra:Addr)(S:Int)(qs rs:List Int)(H':Hp),aB (vw K H) (vw K H')->vw K H' p=some (.tup [.ref qa,.ref ra,.int S])->vw K H' qa=some (.lst (qs.map V.int))->vw K H' ra=some (.lst (rs.map V.int))->vw K H ra=none->qs.length=ms.length+1-ns.length->rs.length<ns.length->(∃e,e<=ms.length+1-ns.length/\S=nz ns (ns.length-1)^e)->Bt 300000 S->(∀x∈qs,Bt (m+400000) x)->(∀x∈rs,Bt (m+400000) x)->(rs.length≠0->nz rs (rs.length-1)≠0)->(∀k,S*nz ms k=pz (nz qs) (nz ns) qs.length k+nz rs k)->Q (.ref p) H')->eD K vs H Q E
theorem m9(F:dO K "wholes_parted" "wholes_parted" gp f fd) (T:eA K mg)(N_:pB P base)(C_trimmed:cn P w K mg base "trimmed" ["numbers", "zero"] 1 (fz K)):bU P w K mg base dP 2 f fd ["one", "other"] (eD K):=by
 have scN:=iN.nd;refine F.okQ iN ?_ ?_;walk_at "q"
 .obtain⟨a,_,_,_,_,_,rfl,_⟩:=h;rfl
 .obtain⟨a,b,ms,ns,m,c,rfl,ha,hb,ln0,hL,lm,ln,hm,hc,bm,bn,h⟩:=h;refine⟨_,(af (aC (i:=2) scN rfl (·) (aw cI (qv 1) (cX cy ae) (λ_ _=>rfl)))
   (af (aC (i:=3) scN rfl (·) (iO gU (by rfl) T.b_list gI (aa (qv 0) ac)))
   (af (aC (i:=4) scN rfl (·) (ar aP (aT (aa ae ac)) (ai (mj rfl) (by rfl) T.b_max wk (aa ae (aa (ar bQ (ar cj (ai aq (by rfl) T.b_len aF (aa (qv 0) ac)) (ai aq (by rfl) T.b_len aF (aa (qv 1) ac))) ae) ac)))))
   (af (aC (i:=5) scN rfl (·) ae)
   (af (cK PassesOwn.never rfl (zQ rfl T.b_range (aa (ar cj (ai aq (by rfl) T.b_len aF (aa (qv 0) ac)) (ai aq (by rfl) T.b_len aF (aa (qv 1) ac))) (aa (cX cy ae) (aa (cX cy ae) ac)))) (am (i:=6) scN rfl (·)) (af (aC (i:=7) scN rfl (·) (BK XN PySem.F.slot_list_pop PySem.F.type_list_pop Fi (qv 3)))
   (af (bY (aH dY (ar gC (qv 7) (qv 2)) ae (aG _)) (ag (kO (i:=7) scN rfl (·) (qv 2) (AS N_ hr rfl rfl rfl))) (af (kO (i:=5) scN rfl (·) (qv 2) rO)
   (af (lX (i:=4) (own:=["whole"]) (outs:=["last"]) (ixs:=[2]) scN rfl (·) rfl (cY (qv 4)) rfl ⟨rfl,rfl,rfl,⟨rfl,trivial⟩,rfl,⟨⟨rfl,rfl,rfl,_,rfl⟩,trivial⟩⟩ (λ_ _ _ _=>⟨(am (i:=0) (show (["whole", "last"]:List Str).Nodup by decide +kernel) rfl (·)),cV,(ar (show el _ _ (gk K) from aP) (qv 1) (qv 0))⟩))
   (ag (lX (i:=3) (own:=["whole"]) (outs:=["last"]) (ixs:=[2]) scN rfl (·) rfl (cY (qv 3)) rfl ⟨rfl,rfl,rfl,⟨rfl,trivial⟩,rfl,⟨⟨rfl,rfl,rfl,_,rfl⟩,trivial⟩⟩ (λ_ _ _ _=>⟨(am (i:=0) (show (["whole", "last"]:List Str).Nodup by decide +kernel) rfl (·)),cV,(ar (show el _ _ (gk K) from aP) (qv 1) (qv 0))⟩))))))
   (af (cQ (qv 7) (mR (qv 4) (qv 6) dE))
   (ag (cK PassesOwn.never rfl (cz rfl T.b_range (aa (ar cj (ai aq (by rfl) T.b_len aF (aa (qv 1) ac)) ae) ac)) (am (i:=8) scN rfl (·)) (ag (lD (qv 3) (ar bQ (qv 6) (qv 8)) iL (ar aP (qv 7) (aw cI (qv 1) (qv 8) (λ_ _=>rfl))) ph dE))))))))
   (ag (av (aR (aa (qv 4) (aa (ah C_trimmed nofun rfl (aa (qv 3) (aa ae ac))) (aa (qv 5) ac))))))))))),?_⟩
  walk_at"m";skip
  obtain⟨L,hLd⟩ : ∃L,L=nz ns (ns.length-1):=⟨_,rfl⟩;have hgl:ns.length-1<ns.length:=();have nl:ns[ns.length-1]=L:=by rw[hLd,cw (YR hgl)]
  have bL:Bt c L:=nl▸bn _ (YQ hgl);rw[<-hLd] at hL;have xl:(ns.map V.int).getLast? = some (.int L):=by
   rw[YZ,YC,Yz,YR hgl,nl];rfl
  refine aM.gen λN1 hN1=>?_;symm
  refine⟨_,hb,_,dX xl,hN1 _ _ ?_⟩;refine aM.gen λN2 hN2=>?_;symm
  refine⟨_,ha,λr1 H1 hr1 S1 h1=>hN2 _ _ ?_⟩;refine aM.gen λN3 hN3=>?_;symm
  have lena:∀{H':Hp},aB (vw K H) (vw K H')->dJ (vw K H') a=some ms.length:=λS=>by simp only[dJ,S _ _ ha,YC]
  have lenb:∀{H':Hp},aB (vw K H) (vw K H')->dJ (vw K H') b=some ns.length:=λS=>by simp only[dJ,S _ _ hb,YC]
  refine⟨∅,λp2 H2 hp2 S2 h2=>?_⟩;have S02:=S1.trans S2;refine⟨_,lena S02,_,lenb S02,?_⟩;obtain⟨n,hn,hnn⟩ : ∃n:Nat,(if (ms.length:Int)-(ns.length:Int)+1 > 0 then (ms.length:Int)-(ns.length:Int)+1 else 0)=(n:Int)/\n=ms.length+1-ns.length:=by
   refine⟨ms.length+1-ns.length,?_,rfl⟩;split<;>nofun
  rw[hn,gd];refine⟨_,h2,(),(),?_,λq1 H3 hq1 S3 h3=>hN3 _ _ ?_⟩
  .have:1000<=sizeLine:=∅;simp;nofun
  rw[show ((n:Nat):Int).toNat=n by nofun,iQ] at h3
  have S03:=S02.trans S3;refine aM.gen λN4 hN4=>?_;symm
  refine hN4 _ _ ?_;refine aM.gen λN5 hN5=>?_;symm
  simp only[Bc];symm
  refine⟨_,lena S03,_,lenb S03,(),(),∅,∅,?_⟩;rw[show ((ms.length:Int)-(ns.length:Int) - -1).toNat=n by nofun]
  have nr1:vw K H r1=none:=hr1;have nq1:vw K H q1=none:=S02.none hq1;obtain⟨Pv,hPv⟩ : ∃Pv:Nat->St->Hp->Prop,∀i σ H',Pv i σ H'↔X8 λ(ra qa:Addr)(rs qs:List Int)(S:Int)(o6 o7 o8:Option V)=>σ=[some (.ref a),some (.ref b),some (.int L),some (.ref ra),some (.ref qa),some (.int S),o6,o7,o8]/\aB (vw K H) (vw K H') /\
    vw K H' ra=some (.lst (rs.map V.int))/\vw K H' qa=some (.lst (qs.map V.int))/\vw K H ra=none/\vw K H qa=none/\ra≠qa/\rs.length+i=ms.length/\qs.length=n/\(∃e,e<=i/\S=L^e)/\Bt (1+c*i) S/\(∀x∈rs,Bt (m+(c+1)*i) x)/\(∀x∈qs,Bt (m+(c+1)*i) x) /\
    (∀k,k+i+ns.length<=ms.length->nz qs k=0)/\(∀k,S*nz ms k=pz (nz qs) (nz ns) n k+nz rs k):=⟨_,λ_ _ _=>XH⟩
  refine ce (its:=Aq ((ms.length:Int)-(ns.length:Int)) n) Pv (λ_ _ _ _ _=>BG) ((hPv _ _ _).mpr ⟨r1,q1,ms,List.replicate n 0,1,_,_,_,rfl,S03,(S2.trans S3) _ _ h1,?_,nr1,nq1,?_,(),by simp,⟨0,(),(Xy _).symm⟩,?_,λx hx=>(bm x hx).mono (),λx hx=>?_,λk _=>?_,λk=>?_⟩) (λi x σ H4 hi hx pv=>?_) (λσ H4 pv=>?_)
  .rw[h3,kg]
  .exact aj (S2 _ _ h1) hq1
  .exact Bt.mono (m:=1) ∅ ()
  .rw[(List.mem_replicate.mp hx).2];exact gF
  .unfold nz;rw[Xa,Yx];split<;>rfl
  .rw[zl (f:=nz (List.replicate n 0)) (λi=>by
    unfold nz;rw[Xa,Yx];split<;>rfl)]
   nofun
  .obtain⟨ra,qa,rs,qs,S,o6,o7,o8,rfl,S4,hra,hqa,nra,nqa,nrq,lrs,lqs,nS,bS,br,bq,zq,ev⟩:=(hPv _ _ _).mp pv;obtain⟨hi',rfl⟩:=Ij hx;obtain⟨p,hp⟩ : ∃p:Nat,(ms.length:Int)-(ns.length:Int)-(i:Int)=(p:Int):=⟨ms.length-ns.length-i,()⟩;have hpi:p+i+ns.length=ms.length:=();have hrl:rs.length-1<rs.length:=();obtain⟨Pt,hPt⟩ : ∃Pt,Pt=rs[rs.length-1]:=⟨_,rfl⟩;have hi9:i<=13:=();have hci:(c+1)*i<=20001*13:=Xq () hi9;have hci2:c*i<=20000*13:=Xq hc hi9;rw[hp];simp only[gf];refine aM.gen λM1 hM1=>?_;symm
   have xp:(rs.map V.int)[(rs.map V.int).length-1]? = some (.int Pt):=by
    rw[YC,Yz,YR hrl,hPt];rfl
   refine⟨iJ hra,_,hra,_,xp,λH5 B5 h5=>hM1 _ _ ?_⟩;rw[<-List.map_dropLast] at h5;have S5:aB (vw K H) (vw K H5):=λy o e=>B5 _ _ (aj e nra) (S4 _ _ e);have hqa5:=B5 _ _ nrq.symm hqa;have bP:Bt (m+(c+1)*i) Pt:=hPt▸br _ (YQ hrl);have top:rs.length-1=p+(ns.length-1):=();have nP:nz rs (p+(ns.length-1))=Pt:=by rw[<-top,cw (YR hrl),hPt]
   have ldl:rs.dropLast.length+(i+1)=ms.length:=by rw[List.length_dropLast];nofun
   refine aM.gen λM2 hM2=>?_;have key:∀(ra' qa':Addr)(R:Nat->Int)(rs1 qs1:List Int)(S1 part:Int)(H':Hp),aB (vw K H) (vw K H')->vw K H' ra'=some (.lst (rs1.map V.int))->vw K H' qa'=some (.lst (qs1.map V.int))->vw K H ra'=none->vw K H qa'=none->ra'≠qa'->rs1.length+(i+1)=ms.length->qs1.length=n->(∃e,e<=i+1/\S1=L^e)->Bt (1+c*(i+1)) S1 ->
     (∀x∈rs1,Bt (m+(c+1)*i+c) x)->(∀x∈qs1,Bt (m+(c+1)*i+c) x)->Bt (m+(c+1)*i) part->(∀k,k+i+ns.length<=ms.length->nz qs1 k=0)->(∀k,S1*nz ms k=pz (nz qs1) (nz ns) n k+R k)->R (p+(ns.length-1))=part*L->(∀k,nz rs1 k=if k=p+(ns.length-1) then 0 else R k) ->
     M2 [some (.ref a),some (.ref b),some (.int L),some (.ref ra'),some (.ref qa'),some (.int S1),some (.int p),some (.int part),o8] H':=by
    intro ra' qa' R rs1 qs1 S1 part H' Sx hr' hq' nr' nq' ne' l1 l2 n1 b1 b2 b3 b4 z1 e1 e2 e3;refine hM2 _ _ ?_;refine aM.gen λM3 hM3=>?_;symm
    refine⟨_,hq',p,ir (by rw[YC];nofun),λH7 B7 h7=>hM3 _ _ ?_⟩
    rw[<-List.map_set] at h7;have S7:aB (vw K H) (vw K H7):=λy o e=>B7 _ _ (aj e nq') (Sx _ _ e);have hr7:=B7 _ _ ne' hr';symm
    refine⟨_,lenb S7,(),(),?_⟩;rw[show ((ns.length:Int)-1).toNat=ns.length-1 from Lj]
    obtain⟨Pw,hPw⟩ : ∃Pw:Nat->St->Hp->Prop,∀l σ H',Pw l σ H'↔X2 λ(rs2:List Int)(o8:Option V)=>σ=[some (.ref a),some (.ref b),some (.int L),some (.ref ra'),some (.ref qa'),some (.int S1),some (.int p),some (.int part),o8]/\aB (vw K H) (vw K H')/\vw K H' ra'=some (.lst (rs2.map V.int))/\vw K H' qa'=some (.lst ((qs1.set p part).map V.int))/\rs2.length=rs1.length /\
      (∀x∈rs2,Bt (m+(c+1)*(i+1)) x) /\ ∀k,nz rs2 k=nz rs1 k-if p<=k/\k<p+l then part*nz ns (k-p) else 0:=⟨_,λ_ _ _=>XH⟩
    have more:(c+1)*(i+1)=(c+1)*i+(c+1):=by rw[Nat.mul_add];nofun
    refine ce (its:=fj 0 (ns.length-1)) Pw (λ_ _ _ _ _=>aV) ((hPw _ _ _).mpr ⟨rs1,_,rfl,S7,hr7,h7,rfl,λx hx=>(b2 x hx).mono (),λk=>by rw[Yc ()];nofun⟩) (λl x σ H8 hl hx pw=>?_) (λσ H8 pw=>?_)
    .obtain⟨rs2,o8',rfl,S8,hr8,hq8,l8,b8,e8⟩:=(hPw _ _ _).mp pw;obtain⟨hl',rfl⟩:=da hx;have hpl:p+l<rs2.length:=();have hln:l<ns.length:=();simp only[oS,Iz];symm
     have xr:(rs2.map V.int)[p+l]? = some (.int rs2[p+l]):=by rw[Yz,YR hpl];rfl
     have xn:(ns.map V.int)[l]? = some (.int ns[l]):=by rw[Yz,YR hln];rfl
     have epl:(p:Int)+(0+(l:Int))=((p+l:Nat):Int):=();have vr:rs2[p+l]=nz rs1 (p+l):=by
      have:=e8 (p+l);rw[cw (YR hpl),Yc ()] at this;nofun
     have vn:ns[l]=nz ns l:=(cw (YR hln)).symm;refine⟨_,hr8,_,by rw[epl];exact bO xr,_,S8 _ _ hb,_,by rw[XO];exact bO xn,?_⟩
     rw[gO];refine⟨cr b4 (bn _ (YQ hln)) (),_,rfl,_,rfl,_,hr8,p+l,by rw[epl];exact ir (by rw[YC];exact hpl),λH9 B9 h9=>?_⟩
     rw[<-List.map_set] at h9;refine (hPw _ _ _).mpr ⟨rs2.set (p+l) (rs2[p+l]-part*ns[l]),_,rfl,λy o e=>B9 _ _ (aj e nr') (S8 _ _ e),h9,B9 _ _ ne'.symm hq8,by rw[YG];exact l8,λx hx=>?_,λk=>?_⟩
     .rcases XQ hx with z|rfl
      .exact b8 x z
      .have y1:Bt (m+(c+1)*i+c) rs2[p+l]:=by rw[vr];exact fX b2 _
       have y2:Bt (m+(c+1)*i+c) (part*ns[l]):=b4.mul (bn _ (YQ hln));unfold Bt at y1 y2 ⊢;rw[more,show m+((c+1)*i+(c+1))=(m+(c+1)*i+c)+1 by nofun,Nat.pow_succ]
       exact Lh y1 y2
     .rw[oH hpl,e8 k];by_cases hk:k=p+l
      .subst hk;rw[Yb rfl,Yb (),show p+l-p=l by nofun,vr,vn]
      .rw[Yc hk];by_cases hk2:p<=k/\k<p+l
       .rw[Yb hk2,Yb ()]
       .rw[Yc hk2,Yc ()]
    .obtain⟨rs2,o8',rfl,S8,hr8,hq8,l8,b8,e8⟩:=(hPw _ _ _).mp pw;rw[cp] at e8;refine (hPv _ _ _).mpr ⟨ra',qa',rs2,qs1.set p part,S1,_,_,_,rfl,S8,hr8,hq8,nr',nq',ne',(),by rw[YG];exact l2,n1,b1,b8,λx hx=>?_,λk hk=>?_,?_⟩
     .rcases XQ hx with z|rfl
      .exact (b3 x z).mono ()
      .exact b4.mono ()
     .rw[oH (),Yc ()];exact z1 k ()
     .exact zV (l:=ns.length-1) e1 (z1 p ()) (λk=>oH ()) () (λj hj=>bC ()) (by rw[e2,hLd]) e3 e8
   symm
   refine⟨hL,cH (λe0=>?_) (λe0=>?_)⟩
   .have dv:L∣Pt:=Int.dvd_of_fmod_eq_zero e0;have em:Pt.fdiv L*L=Pt:=ge hL dv;have bd:Bt (m+(c+1)*i) (Pt.fdiv L):=by
     unfold Bt at bP ⊢;have e1:(Pt.fdiv L).natAbs*L.natAbs=Pt.natAbs:=by rw[<-YW,em]
     have e2:(Pt.fdiv L).natAbs*1<=(Pt.fdiv L).natAbs*L.natAbs:=Xw _ ();nofun
    refine⟨hL,key ra qa (nz rs) rs.dropLast qs S (Pt.fdiv L) H5 S5 h5 hqa5 nra nqa nrq ldl lqs (nS.elim λe z=>⟨e,(),z.2⟩) (bS.mono (by rw[Nat.mul_add];nofun)) (λx hx=>(br x ((List.dropLast_sublist _).subset hx)).mono ()) (λx hx=>(bq x hx).mono ()) bd zq ev (by rw[nP,em]) (λk=>by rw[nn,top])⟩
   .refine⟨cr bS bL (),⟨_,.of (aQ hqa5)⟩,λq6 H6 hq6 S6 h6=>?_⟩;refine bK (its:=qs.map V.int) (λj zs H'=>aB (vw K H5) (vw K H')/\zs=((qs.take j).map λx=>L*x).map V.int) (λj zs H' _ _ z=>bZ (z.1 _ _ hqa5)) h6 ⟨S6,rfl⟩ (λj x zs H' hj hx h' z=>?_) (λzs H7 h7 z=>?_)
    .obtain⟨z1,rfl⟩:=z;rw[YC] at hj;rw[Yz,YR hj] at hx;cases hx;symm
     refine⟨cr bL (bq _ (YQ hj)) (),.mk h' ?_ λH8 B8 h8=>⟨λy o e=>B8 _ _ (aj e hq6) (z1 _ _ e),?_⟩⟩
     .rw[YC,YC,Yu];exact Hs ()
     .rw[Xf,YR hj,XI,XI];rfl
    obtain⟨S57,rfl⟩:=z;rw[YC,Xg] at h7;have h57:=S57 _ _ h5;refine⟨⟨_,.of (aQ h57)⟩,λr8 H8 hr8 S8 h8=>?_⟩;refine bK (its:=rs.dropLast.map V.int) (λj zs H'=>aB (vw K H7) (vw K H')/\zs=((rs.dropLast.take j).map λx=>L*x).map V.int) (λj zs H' _ _ z=>bZ (z.1 _ _ h57)) h8 ⟨S8,rfl⟩ (λj x zs H' hj hx h' z=>?_) (λzs H9 h9 z=>?_)
    .obtain⟨z1,rfl⟩:=z;rw[YC] at hj;rw[Yz,YR hj] at hx;cases hx;symm
     refine⟨cr bL (br _ ((List.dropLast_sublist _).subset (YQ hj))) (),.mk h' ?_ λH8 B8 h8=>⟨λy o e=>B8 _ _ (aj e hr8) (z1 _ _ e),?_⟩⟩
     .rw[YC,YC,Yu];exact Hs ()
     .rw[Xf,YR hj,XI,XI];rfl
    obtain⟨S79,rfl⟩:=z;rw[YC,Xg] at h9;have S07:=S5.trans S57;refine key r8 q6 (λk=>L*nz rs k) _ _ (S*L) Pt H9 (S07.trans S79) h9 (S79 _ _ h7) (S07.none hr8) (S5.none hq6) (aj h7 hr8).symm (by rw[YC];exact ldl) (by rw[YC];exact lqs) (nS.elim λe z=>⟨e+1,(),by rw[z.2,Xz]⟩) ((bS.mul bL).mono (by rw[Nat.mul_add];nofun)) (λx hx=>?_) (λx hx=>?_) bP (λk hk=>?_) (λk=>?_) ?_ (λk=>?_)
    .obtain⟨y,hy,rfl⟩:=List.mem_map.mp hx;exact (bL.mul (br y ((List.dropLast_sublist _).subset hy))).mono ()
    .obtain⟨y,hy,rfl⟩:=List.mem_map.mp hx;exact (bL.mul (bq y hy)).mono ()
    .rw[oK,zq k hk];nofun
    .rw[show nz (qs.map λx=>L*x)=λk=>L*nz qs k from funext λk=>oK k,xk,<-Int.mul_add,<-ev k,Y8 S L,Y7]
    .show L*nz rs (p+(ns.length-1))=Pt*L;rw[nP,Y8]
    .rw[oK,nn,top];split<;>simp
  .obtain⟨ra,qa,rs,qs,S,o6,o7,o8,rfl,S4,hra,hqa,nra,nqa,nrq,lrs,lqs,nS,bS,br,bq,zq,ev⟩:=(hPv _ _ _).mp pv;rw[EO] at lrs nS bS br bq zq;refine hN5 _ _ ?_;symm
   simp only[fz];refine .inr ?_;simp only[nH];symm
   refine⟨rs,hra,λd H5 ts S5 hd nd e5 l5 z5=>⟨∅,λp6 H6 hp6 S6 h6=>?_⟩⟩;have n9:n<=14:=();have k1:c*n<=20000*14:=Xq hc n9;have k2:(c+1)*n<=20001*14:=Xq () n9;refine h p6 qa d S qs ts H6 (S4.trans (S5.trans S6)) h6 ((S5.trans S6) _ _ hqa) (S6 _ _ hd) (S4.none nd) () () (nS.elim λe z=>⟨e,(),z.2.trans (by rw[hLd])⟩) (bS.mono ()) (λx hx=>(bq x hx).mono ()) (λx hx=>?_) z5 (λk=>?_)
   .obtain⟨k,hk⟩:=XR hx;have e:=e5 k;rw[cw hk] at e;rw[e];exact (fX br k).mono ()
   .rw[lqs,e5 k];exact ev k
inductive pi (K:W.Frag)(vs:List V)(H:Hp)(Q:VK)(E:XK):Prop
 | mk (x:Int)(n b:Nat):vs=[.int x,.int n]->n<=20->b<=20000->Bt b x->Q (.int (x^n)) H->pi K vs H Q E
theorem CQ(F:dO K "power" "power" ur f fd) (T:eA K mg):bU P w K mg base dP 1 f fd ["base", "many"] (pi K):=by
 have scN:=va.nd;refine F.okQ va ?_ ?_;walk_at "q"
 .obtain⟨_,_,_,rfl,_⟩:=h;rfl
 .obtain⟨x,n,b,rfl,hn,hb,bx,h⟩:=h;refine⟨_,(af (aC (i:=2) scN rfl (·) ae)
   (af (cK PassesOwn.never rfl (cz rfl T.b_range (aa (qv 1) ac)) (am (i:=3) scN rfl (·)) (ag (kO (i:=2) scN rfl (·) (qv 0) rO)))
   (ag (av (qv 2))))),?_⟩
  walk_at"m";symm
  refine⟨(),(),?_⟩;rw[show ((n:Nat):Int).toNat=n by nofun]
  obtain⟨Pv,hPv⟩ : ∃Pv:Nat->St->Hp->Prop,∀i σ H',Pv i σ H'↔H'=H /\ ∃o,σ=[some (.int x),some (.int n),some (.int (x^i)),o]:=⟨_,λ_ _ _=>XH⟩;refine ce (its:=fj 0 n) Pv (λ_ _ _ _ _=>aV) ((hPv _ _ _).mpr ⟨rfl,_,by rw[Xy]⟩) (λi y σ H1 hi hy pv=>?_) (λσ H1 pv=>?_)
  .obtain⟨rfl,o,rfl⟩:=(hPv _ _ _).mp pv;obtain⟨hi',rfl⟩:=da hy;symm
   have b1:=bx.pow1 i;have:b*i<=20000*20:=Xq hb ();refine⟨cr b1 bx (),(hPv _ _ _).mpr ⟨rfl,_,by rw[Xz]⟩⟩
  .obtain⟨rfl,o,rfl⟩:=(hPv _ _ _).mp pv;rw[cp];symm
   exact h
def qN(G:Hp)(t:Addr)(tv:List V)(rows:List (List Int×List Int×Int×Int)):Prop:=tv.length=rows.length /\ ∀(k:Nat) row,rows[k]? = some row->X3 λ(p ra qa:Addr)=>tv[k]? = some (.ref p)/\G p=some (.tup [.ref ra,.ref qa,.int row.2.2.1,.int row.2.2.2])/\G ra=some (.lst (row.1.map V.int))/\G qa=some (.lst (row.2.1.map V.int))/\ra≠t/\qa≠t
theorem qN.same{G G':Hp}{t:Addr}{tv:List V}{rows:List (List Int×List Int×Int×Int)}(h:qN G t tv rows)(S:aB G G'):qN G' t tv rows:=⟨h.1,λk row e=>by
 obtain⟨p,ra,qa,a,b,c,d,n⟩:=h.2 k row e;exact⟨p,ra,qa,a,S _ _ b,S _ _ c,S _ _ d,n⟩⟩
def F9(row:List Int×List Int×Int×Int):Prop:=row.1.length<=9/\(∀x∈row.1,Bt 17840 x)/\Bt 200000 row.2.2.1/\Bt 200000 row.2.2.2/\row.2.1.length<=9/\1<=row.2.1.length /\ ∀x∈row.2.1,Bt 700000 x
inductive gm (K:W.Frag)(vs:List V)(H:Hp)(Q:VK)(E:XK):Prop
 | mk (a b:Addr)(ms ns:List Int):vs=[.ref a,.ref b]->vw K H a=some (.lst (ms.map V.int))->vw K H b=some (.lst (ns.map V.int))->ms≠[]->ns.length<=ms.length->jI 1110 ms->jI 1110 ns->(∀(d:Addr)(H':Hp)(tv:List V) rows,aB (vw K H) (vw K H')->vw K H' d=some (.lst tv)->qN (vw K H') d tv rows->uS ms ns rows->Du 1 1 ms ns rows->rows.length<=9->(∀row∈rows,F9 row)->Q (.ref d) H')->gm K vs H Q E
theorem nW(F:dO K "wholes_rests" "wholes_rests" gX f fd) (T:eA K mg)(N_:pB P base)(C_power:cn P w K mg base "power" ["base", "many"] 1 (pi K)) (C_wholes_parted:cn P w K mg base "wholes_parted" ["one", "other"] 2 (eD K)):bU P w K mg base dP 3 f fd ["one", "other"] (gm K):=by
 have scN:=jy.nd;refine F.okQ jy ?_ ?_;walk_at "q"
 .obtain⟨_,_,_,_,rfl,_⟩:=h;rfl
 .obtain⟨a,b,ms,ns,rfl,ha,hb,m0,lmn,im,il,h⟩:=h;refine⟨_,(af (aC (i:=2) scN rfl (·) (aT ac))
   (af (cQ (aR (aa ae (aa ae ac))) (aY (n:=2) rfl (au (am (i:=3) scN rfl (·)) (au (am (i:=4) scN rfl (·)) aZ))))
   (af (fZ PassesOwn.never (gL (qv 1) (λ_=>rfl)) (af (aC (i:=5) scN rfl (·) (ar cj (ai aq (by rfl) T.b_len aF (aa (qv 0) ac)) (ai aq (by rfl) T.b_len aF (aa (qv 1) ac))))
   (af (aC (i:=6) scN rfl (·) (ah C_power nofun rfl (aa (aw cI (qv 1) (cX cy ae) (λ_ _=>rfl)) (aa (ar bQ (qv 5) ae) ac))))
   (af (cQ (ah C_wholes_parted nofun rfl (aa (qv 0) (aa (qv 1) ac))) (aY (n:=3) rfl (au (am (i:=7) scN rfl (·)) (au (am (i:=8) scN rfl (·)) (au (am (i:=9) scN rfl (·)) aZ)))))
   (af (aC (i:=10) scN rfl (·) (ar aP (qv 3) (ah C_power nofun rfl (aa (qv 4) (aa (qv 5) ac)))))
   (af (bY (gL (qv 8) (λ_=>rfl)) (af (aC (i:=11) scN rfl (·) (ar (g6 N_ hr rfl rfl rfl) (qv 6) (qv 9)))
   (af (lX (i:=8) (own:=["whole"]) (outs:=["top", "lack"]) (ixs:=[10,11]) scN rfl (·) rfl (cY (qv 8)) rfl ⟨rfl,rfl,rfl,⟨rfl,⟨rfl,trivial⟩⟩,rfl,⟨⟨rfl,rfl,rfl,_,rfl⟩,⟨⟨rfl,rfl,rfl,_,rfl⟩,trivial⟩⟩⟩ (λ_ _ _ _=>⟨(am (i:=0) (show (["whole", "top", "lack"]:List Str).Nodup by decide +kernel) rfl (·)),cV,(ar (AH N_ hr rfl rfl rfl rfl rfl) (ar (show el _ _ (gk K) from aP) (qv 2) (qv 0)) (qv 1))⟩))
   (ag (gH (nr XN XS XT ee (qv 2) (aa (aR (aa (qv 8) (aa (cO (own:=["whole"]) (outs:=["lack"]) (ixs:=[11]) rfl (cY (qv 7)) rfl ⟨rfl,rfl,rfl,⟨rfl,trivial⟩,rfl,⟨⟨rfl,rfl,rfl,_,rfl⟩,trivial⟩⟩ (λ_ _ _ _=>⟨(am (i:=0) (show (["whole", "lack"]:List Str).Nodup by decide +kernel) rfl (·)),cV,(ar (show el _ _ (gk K) from aP) (qv 1) (qv 0))⟩)) (aa (qv 10) (aa (qv 6) ac))))) ac)))))) aN)
   (af (sD (i:=0) (j:=1) rfl scN rfl rfl ∅ rfl rfl (aa (qv 1) (aa (qv 8) ac)) rfl)
   (af (aC (i:=3) scN rfl (·) (aw cI (qv 0) (cX cy ae) (λ_ _=>rfl)))
   (ag (bY (aH io (qv 5) ae (aG _)) (ag (aC (i:=4) scN rfl (·) (ar (g6 N_ hr rfl rfl rfl) (ah C_power nofun rfl (aa (qv 3) (aa (qv 5) ac))) (ah C_power nofun rfl (aa (qv 4) (aa (ar cj (qv 5) ae) ac)))))) aN))))))))))
   (ag (av (qv 2)))))),?_⟩
  walk_at"m";skip
  refine aM.gen λN1 hN1=>?_;symm
  refine⟨∅,λt H1 ht S1 h1=>hN1 _ _ ?_⟩;refine aM.gen λN2 hN2=>?_;symm
  refine⟨∅,λp2 H2 hp2 S2 h2=>⟨_,rfl,_,h2,rfl,_,_,rfl,_,_,rfl,rfl,hN2 _ _ ?_⟩⟩;refine aM.gen λN3 hN3=>?_;symm
  have nt:vw K H t=none:=ht;have S02:=S1.trans S2;obtain⟨W,hW⟩ : ∃W:Nat->St->Hp->Prop,∀m σ H',W m σ H'↔KP λ(oa ra:Addr)(Fs Gs:List Int)(tv:List V)(rows:List (List Int×List Int×Int×Int))(x g:Int)(o5 o6 o7 o8 o9 o10 o11:Option V)=>σ=[some (.ref oa),some (.ref ra),some (.ref t),some (.int x),some (.int g),o5,o6,o7,o8,o9,o10,o11]/\m=Gs.length/\aB (vw K H) (vw K H')/\vw K H' t=some (.lst tv)/\vw K H' oa=some (.lst (Fs.map V.int))/\vw K H' ra=some (.lst (Gs.map V.int))/\oa≠t/\ra≠t /\
    Fs≠[]/\tv.length+Gs.length<=9/\Gs.length<=Fs.length/\jI 17825 Fs/\jI 17825 Gs/\(∀r,uS Fs Gs r->uS ms ns (rows++r))/\(∀r,Du x g Fs Gs r->Du 1 1 ms ns (rows++r))/\(Gs≠[] -> ∃S1,wK 17825 S1 (nz Fs) (nz Gs) (Fs.length-1) (Gs.length-1) x g) /\
    qN (vw K H') t tv rows /\ ∀row∈rows,F9 row:=⟨_,λ_ _ _=>XH⟩
  have btn:∀{n:Nat}{l:List Int},jI n l -> ∀k,Bt n (nz l k):=λi k=>fX i.2.1 k;have up:∀{l:List Int},jI 1110 l->jI 17825 l:=λi=>i.up ∅;have lp:∀{l:List Int},l≠[]->0<l.length:=λh=>List.length_pos_iff.mpr h;refine⟨W,⟨_,(hW _ _ _).mpr ⟨a,b,ms,ns,[],[],1,1,_,_,_,_,_,_,_,rfl,rfl,S02,S2 _ _ h1,S02 _ _ ha,S02 _ _ hb,aj ha nt,aj hb nt,m0,by have:=il.1;simp;nofun,lmn,up im,up il,λr z=>z,λr z=>z,λn0=>⟨_,wK.first (b:=1110) () (by have:=im.1;nofun) ∅ (btn im) (btn il) (il.2.2 n0) (λk hk=>bC (by have:=lp n0;nofun)) (λk hk=>bC (by have:=lp m0;nofun))⟩,⟨rfl,by simp⟩,by simp⟩⟩,λm σ H3 hw=>?_⟩
  obtain⟨oa,ra,Fs,Gs,tv,rows,x,g,o5,o6,o7,o8,o9,o10,o11,rfl,rfl,S3,ht3,hF,hG,noa,nra,f0,lt7,lGF,iF,iG,gc,gc2,gs,rt,rwb⟩:=(hW _ _ _).mp hw;refine⟨_,rfl,_,ow hG,cH (λhc=>⟨_,λσ' H' z=>z,?_⟩) (λhc=>hN3 _ _ ?_)⟩
  .have g0:Gs≠[]:=λz=>by rw[z] at hc;cases hc
   obtain⟨Sx,I⟩:=gs g0;have lg:=lp g0;obtain⟨δ,hδ⟩ : ∃δ,δ=Fs.length-Gs.length:=⟨_,rfl⟩;have hδ2:Fs.length-1-(Gs.length-1)=δ:=KM (List.length_pos_iff.mpr g0) hδ;have hgl:Gs.length-1<Gs.length:=();obtain⟨c,hcd⟩ : ∃c,c=nz Gs (Gs.length-1):=⟨_,rfl⟩;have hce:Gs[Gs.length-1]=c:=by rw[hcd,cw (YR hgl)]
   have bc:Bt 17825 c:=hcd▸btn iG _;have c0:c≠0:=hcd▸iG.2.2 g0;have xl:(Gs.map V.int).getLast? = some (.int c):=by
    rw[YZ,YC,Yz,YR hgl,hce];rfl
   have lF7:=iF.1;refine aM.gen λM1 hM1=>?_;symm
   refine⟨Fs.length,by simp only[dJ,hF,YC],Gs.length,by simp only[dJ,hG,YC],hM1 _ _ ?_⟩
   rw[Lf lGF hδ];refine aM.gen λM2 hM2=>?_;symm
   refine⟨_,hG,_,dX xl,⟨c,δ+1,17825,rfl,(),∅,bc,hM2 _ _ ?_⟩⟩;refine aM.gen λM3 hM3=>?_;symm
   refine⟨oa,ra,Fs,Gs,17825,17825,rfl,hF,hG,lg,iG.2.2 g0,(),(),∅,∅,iF.2.1,iG.2.1,λp4 qa rb S qs rs H4 S4 h4 hqa hrb nrb lq lr hSe bS bq br lrz ev=>⟨_,rfl,_,h4,rfl,_,_,rfl,_,_,rfl,_,_,rfl,rfl,hM3 _ _ ?_⟩⟩;obtain⟨e,he,hS⟩:=hSe;rw[<-hcd] at hS;have lq2:qs.length=δ+1:=Lb lq lGF hδ;have S0:S≠0:=by rw[hS];exact XA c0
   obtain⟨lack,hlack⟩ : ∃lack,lack=c^(δ+1-e):=⟨_,rfl⟩;have elk:c^(δ+1)=lack*S:=by rw[hlack,hS,<-JW,Nat.sub_add_cancel (Yg he (Nat.le_of_eq (lq.symm.trans lq2)))]
   obtain⟨top,htop⟩ : ∃top,top=x*g^δ:=⟨_,rfl⟩;have top0:top≠0:=by rw[htop];exact Xc I.inv.x0 (XA I.inv.h0)
   have δ6:17825*δ<=17825*8:=Xw _ ();have btop:Bt 200000 top:=by rw[htop];exact (I.bx.mul (I.bh.pow1 δ)).mono ()
   have black:Bt 200000 lack:=by
    rw[hlack];refine (bc.pow1 _).mono ?_;have:17825*(δ+1-e)<=17825*9:=Xw _ ();nofun
   have bgam:Bt 200000 (c^(δ+1)):=by
    refine (bc.pow1 _).mono ?_;have:17825*(δ+1)<=17825*9:=Xw _ ();nofun
   refine aM.gen λM4 hM4=>?_;symm
   refine⟨g,δ,17825,rfl,(),∅,I.bh,?_⟩;rw[gO];refine⟨cr I.bx (I.bh.pow1 δ) (),hM4 _ _ ?_⟩;rw[<-htop];have ev2:∀k,c^(δ+1)*nz Fs k=pz (λi=>lack*nz qs i) (nz Gs) (δ+1) k+lack*nz rs k:=λk=>by
    rw[xk,<-Int.mul_add,<-lq2,<-ev k,<-Y7,<-elk,lq2]
   obtain⟨r,g',hR,bR,r0,ng',bg',hh,next⟩:=I.rest (q:=λi=>lack*nz qs i) (R:=λk=>lack*nz rs k) (λk hk=>by rw[bC (),Xo]) (λk=>by rw[<-hcd,hδ2];exact ev2 k)
   rw[hδ2,<-htop] at hR;rw[<-hcd,hδ2] at hh;rw[<-hcd] at next
   refine aM.gen λM5 hM5=>?_;have key:∀(rc:Addr)(Rs:List Int)(tv':List V)(rows':List (List Int×List Int×Int×Int))(H':Hp)(u7 u11:Option V),aB (vw K H) (vw K H')->vw K H' t=some (.lst tv')->vw K H' ra=some (.lst (Gs.map V.int))->vw K H' rc=some (.lst (Rs.map V.int))->rc≠t->Rs.length<Gs.length->tv'.length+Rs.length<=9->(∀k,nz Rs k=r k)->jI 17825 Rs->(∀r,uS Gs Rs r->uS ms ns (rows'++r))->(∀r,Du c g' Gs Rs r->Du 1 1 ms ns (rows'++r))->qN (vw K H') t tv' rows'->(∀row∈rows',F9 row)->M5 [some (.ref oa),some (.ref ra),some (.ref t),some (.int x),some (.int g),some (.int δ),some (.int (c^(δ+1))),u7,some (.ref rc),some (.int S),some (.int top),u11] H':=by
    intro rc Rs tv' rows' H' u7 u11 Sx' ht' hG' hR' nrc lR lt' eR iR gc' gd' rt' rb';have fin:∀u7 u11:Option V,∃m',m'<Gs.length/\W m' [some (.ref ra),some (.ref rc),some (.ref t),some (.int c),some (.int g'),some (.int δ),some (.int (c^(δ+1))),u7,some (.ref rc),some (.int S),some (.int top),u11] H':=λu7 u11=>by
     refine⟨Rs.length,lR,(hW _ _ _).mpr ⟨ra,rc,Gs,Rs,tv',rows',c,g',_,_,_,_,_,_,_,rfl,rfl,Sx',ht',hG',hR',nra,nrc,g0,lt',(),iG,iR,gc',gd',λz=>?_,rt',rb'⟩⟩;have lz:=lp z;have e1:r=nz Rs:=funext λk=>(eR k).symm;have nx:=next (Rs.length-1) (KA lR lz) (by rw[<-eR];exact iR.2.2 z) (λk hk=>by rw[<-eR];exact bC ())
     rw[e1] at nx;exact⟨_,nx⟩
    refine hM5 _ _ ?_;symm
    refine⟨_,hG',_,dX xl,cH (λh0=>?_) (λh0=>?_)⟩
    .rcases hh with ⟨z,_⟩|⟨_,z2⟩
     .nofun
     have δ5:17825*(δ-1)<=17825*8:=Xw _ ();have u0:g^(δ-1)≠0:=XA I.inv.h0;refine⟨c,δ,17825,rfl,(),∅,bc,⟨g,δ-1,17825,by rw[show ((δ:Int)-1)=((δ-1:Nat):Int) by nofun],(),∅,I.bh,_,rfl,_,rfl,u0,?_⟩⟩
     have e1:(c^δ).fdiv (g^(δ-1))=g':=Xb u0 (by rw[ge u0 ⟨g',by rw[<-z2,Y8]⟩,z2])
     rw[e1];exact fin u7 u11
    .rcases hh with ⟨_,z⟩|⟨z,_⟩
     .rw[<-z];exact fin u7 u11
     .nofun
   have nt4:t≠rb:=aj ht3 nrb;symm
   refine⟨_,ow hrb,cH (λhc2=>?_) (λhc2=>?_)⟩
   .have ef:(c^(δ+1)).fdiv S=lack:=Xb S0 (by rw[ge S0 ⟨lack,by rw[elk,Y8]⟩,elk])
    rw[ef];have rs0:rs≠[]:=λz=>by rw[z] at hc2;cases hc2
    have lrs:=lp rs0;refine⟨S0,⟨_,.of (aQ hrb)⟩,λd6 H6 hd6 S6 h6=>?_⟩;refine bK (its:=rs.map V.int) (λj zs H'=>aB (vw K H4) (vw K H')/\zs=((rs.take j).map λy=>(lack*y).fdiv top).map V.int) (λj zs H' _ _ z=>bZ (z.1 _ _ hrb)) h6 ⟨S6,rfl⟩ (λj y zs H' hj hy h' z=>?_) (λzs H7 h7 z=>?_)
    .obtain⟨z1,rfl⟩:=z;rw[YC] at hj;rw[Yz,YR hj] at hy;cases hy;symm
     refine⟨cr black (br _ (YQ hj)) (),top0,.mk h' ?_ λH8 B8 h8=>⟨λy o e=>B8 _ _ (aj e hd6) (z1 _ _ e),?_⟩⟩
     .rw[YC,YC,Yu];exact Hs ()
     .rw[Xf,YR hj,XI,XI];rfl
    obtain⟨S47,rfl⟩:=z;rw[YC,Xg] at h7;refine⟨iJ (S47 _ _ (S4 _ _ ht3)),⟨_,.of (aQ (S47 _ _ hqa))⟩,λd8 H8 hd8 S8 h8=>?_⟩;refine bK (its:=qs.map V.int) (λj zs H'=>aB (vw K H7) (vw K H')/\zs=((qs.take j).map λy=>lack*y).map V.int) (λj zs H' _ _ z=>bZ (z.1 _ _ (S47 _ _ hqa))) h8 ⟨S8,rfl⟩ (λj y zs H' hj hy h' z=>?_) (λzs H9 h9 z=>?_)
    .obtain⟨z1,rfl⟩:=z;rw[YC] at hj;rw[Yz,YR hj] at hy;cases hy;symm
     refine⟨cr black (bq _ (YQ hj)) (),.mk h' ?_ λH8 B8 h8=>⟨λy o e=>B8 _ _ (aj e hd8) (z1 _ _ e),?_⟩⟩
     .rw[YC,YC,Yu];exact Hs ()
     .rw[Xf,YR hj,XI,XI];rfl
    obtain⟨S79,rfl⟩:=z;have S49:=S47.trans S79;refine⟨∅,λp10 H10 hp10 S10 h10=>?_⟩;have ht10:=S10 _ _ (S49 _ _ (S4 _ _ ht3));refine⟨tv,ht10,?_,λH11 B11 h11=>?_⟩
    .have:1000<=sizeLine:=∅;nofun
    have nt6:t≠d6:=aj (S4 _ _ ht3) hd6;have nt10:p10≠t:=(aj (S49 _ _ (S4 _ _ ht3)) hp10).symm;have S410:=S49.trans S10;have hd7:=(S79.trans S10) _ _ h7;have lRs:(rs.map λy=>(lack*y).fdiv top).length=rs.length:=YC _;have eR:∀k,nz (rs.map λy=>(lack*y).fdiv top) k=r k:=λk=>by
     have q1:=hR k;cases ek:rs[k]? with
     | none =>
      have l:=List.getElem?_eq_none_iff.mp ek;rw[bC l,Xo] at q1;rw[bC (by rw[lRs];exact l)]
      rcases Int.mul_eq_zero.mp q1.symm with z|z
      .exact absurd z top0
      .exact z.symm
     | some y =>
      rw[cw ek] at q1;rw[cw (n:=(lack*y).fdiv top) (by rw[Yz,ek];rfl)]
      exact Xb top0 (by rw[ge top0 ⟨_,q1⟩,q1,Y8])
    have R0:(rs.map λy=>(lack*y).fdiv top)≠[]:=λz=>rs0 (List.map_eq_nil_iff.mp z);have Rl0:nz (rs.map λy=>(lack*y).fdiv top) ((rs.map λy=>(lack*y).fdiv top).length-1)≠0:=by
     rw[lRs,eR];intro z;have q1:=hR (rs.length-1);rw[z,Xo] at q1;rcases Int.mul_eq_zero.mp q1 with y|y
     .exact XA c0 (hlack▸y)
     .exact lrz () y
    have Rb:∀x∈(rs.map λy=>(lack*y).fdiv top),Bt 17825 x:=λx hx=>by
     obtain⟨k,hk⟩:=XR hx;rw[<-cw hk,eR];exact bR k
    have nzq:∀i,nz (qs.map λy=>lack*y) i=lack*nz qs i:=λi=>by
     cases ek:qs[i]? with
     | none =>
      have l:=List.getElem?_eq_none_iff.mp ek;rw[bC l,bC (by rw[YC];exact l),Xo]
     | some y=>rw[cw ek,cw (n:=lack*y) (by rw[Yz,ek];rfl)]
    have KE:∀k,c^(δ+1)*nz Fs k=pz (nz (qs.map λy=>lack*y)) (nz Gs) (qs.map λy=>lack*y).length k+top*nz (rs.map λy=>(lack*y).fdiv top) k:=λk=>by
     rw[show nz (qs.map λy=>lack*y)=λi=>lack*nz qs i from funext nzq,YC,lq2,ev2 k,eR,hR k]
    rw[YC,Xg] at h9;have hq10:=S10 _ _ h9;have nt8:d8≠t:=(aj ((S47) _ _ (S4 _ _ ht3)) hd8).symm;refine key d6 _ (tv++[.ref p10]) (rows++[(rs.map λy=>(lack*y).fdiv top,qs.map λy=>lack*y,top,c^(δ+1))]) H11 _ _ (λy o e=>B11 _ _ (aj e nt) ((S3.trans (S4.trans S410)) _ _ e)) h11 (B11 _ _ nra ((S4.trans S410) _ _ hG)) (B11 _ _ nt6.symm hd7) nt6.symm (by rw[lRs];exact lr) (by rw[lRs,YB];simp;nofun) eR ⟨by rw[lRs];nofun,Rb,λ_=>Rl0⟩ (λr' z=>?_) (λr' z=>?_) ⟨by simp[rt.1],λk row e=>?_⟩ (λrow lW=>?_)
    .rw[YI];exact gc _ (.more g0 (iG.2.2 g0) (XA c0) top0 R0 Rl0 (by rw[lRs];exact lr) (by rw[YC];nofun) KE z)
    .rw[YI];refine gc2 _ (.more (h':=g') g0 (by rw[<-hcd,hδ]) (by rw[htop,hδ]) ng' ?_ (by rw[<-hcd];exact z))
     rw[<-hcd,<-hδ];rcases hh with ⟨y1,y2⟩|⟨y1,y2⟩
     .exact .inl ⟨(),y2⟩
     .exact .inr ⟨(),y2⟩
    .by_cases hk:k<rows.length
     .rw[Yy hk] at e;obtain⟨p,ra',qa',a1,a2,a3,a4,a5,a6⟩:=rt.2 k row e;have S3z:=S4.trans S410;exact⟨p,ra',qa',by rw[Yy (by rw[rt.1];exact hk)];exact a1,B11 _ _ (λz=>by rw[z,ht3] at a2;cases a2) (S3z _ _ a2),B11 _ _ a5 (S3z _ _ a3),B11 _ _ a6 (S3z _ _ a4),a5,a6⟩
     .have hk2:k=rows.length:=by
       have:=(List.getElem?_eq_some_iff.mp e).1;simp at this;nofun
      subst hk2;rw[Yw (),XF] at e;cases e;exact⟨p10,d6,d8,by rw[Yw (by rw[rt.1];nofun),rt.1,XF];rfl,B11 _ _ nt10 h10,B11 _ _ nt6.symm hd7,B11 _ _ nt8 hq10,nt6.symm,nt8⟩
    .rcases List.mem_append.mp lW with z|z
     .exact rwb row z
     .cases List.mem_singleton.mp z;refine⟨by rw[lRs];nofun,λx hx=>(Rb x hx).mono ∅,btop,bgam,by rw[YC];nofun,by rw[YC];nofun,λx hx=>?_⟩
      obtain⟨y,hy,rfl⟩:=List.mem_map.mp hx;exact (black.mul (bq y hy)).mono ∅
   .have r1:rs=[]:=by
     cases rs with
     | nil=>rfl
     | cons _ _=>exact absurd rfl hc2
    subst r1;refine key rb [] tv rows H4 _ _ (S3.trans S4) (S4 _ _ ht3) (S4 _ _ hG) hrb nt4.symm (by simp;nofun) (by simp;nofun) (λk=>?_) ⟨by simp,by simp,λz=>absurd rfl z⟩ (λr' z=>?_) (λr' z=>?_) (rt.same S4) rwb
    .have:=hR k;rw[show nz [] k=0 from bC (by simp),Xo] at this
     rcases Int.mul_eq_zero.mp this.symm with z|z
     .exact absurd z top0
     .rw[show nz [] k=0 from bC (by simp),z]
    .have er:r'=[]:=by
      cases z with
      | nought=>rfl
      | last h _ _ _ _=>exact absurd rfl h
      | more h _ _ _ _ _ _ _ _ _=>exact absurd rfl h
     subst er;refine gc _ (.last g0 (iG.2.2 g0) S0 (Q:=qs) () λk=>?_);rw[ev k,show nz [] k=0 from bC (by simp)]
     nofun
    .have er:r'=[]:=by
      cases z with
      | nil=>rfl
      | more h _ _ _ _ _=>exact absurd rfl h
     subst er;exact gc2 _ .nil
  .have g1:Gs=[]:=by
    cases Gs with
    | nil=>rfl
    | cons _ _=>exact absurd rfl hc
   subst g1;symm
   have:=gc [] .nought;rw[List.append_nil] at this;have this2:=gc2 [] .nil;rw[List.append_nil] at this2;exact h t H3 tv rows S3 ht3 rt this this2 (by rw[<-rt.1];nofun) rwb
inductive pP (K:W.Frag)(vs:List V)(H:Hp)(Q:VK)(E:XK):Prop
 | mk (a:Addr)(fs:List (Int×Int)):vs=[.ref a]->aK (vw K H) a fs->fs.length<=40->(∀q∈fs,Fq q/\Bq 1200 q)->aL fs->(∀d H' (rs:List (Int×Int)),aB (vw K H) (vw K H')->aK (vw K H') d rs->vw K H d=none->aL rs->(∀k,cf rs k=((k+1:Nat):Int)*cf fs (k+1))->rs.length=fs.length-1->Q (.ref d) H')->pP K vs H Q E
theorem Dh(F:dO K "slope" "slope" se f fd) (T:eA K mg)(C_times:cn P w K mg base "times" ["one", "other"] 3 (qi K)):bU P w K mg base dP 4 f fd ["f"] (pP K):=by
 have scN:=vm.nd;refine F.okQ vm ?_ ?_;walk_at "q"
 .obtain⟨a,_,rfl,_⟩:=h;rfl
 .obtain⟨a,fs,rfl,ha,lf,hf,pf,h⟩:=h;refine⟨_,(ag (av (cO (own:=["k"]) (outs:=["f"]) (ixs:=[0]) rfl (mr rfl T.b_range (aa ae (aa (ai aq (by rfl) T.b_len aF (aa (qv 0) ac)) ac))) rfl ⟨rfl,rfl,rfl,⟨rfl,trivial⟩,rfl,⟨⟨rfl,rfl,rfl,_,rfl⟩,trivial⟩⟩ (λ_ _ _ _=>⟨(am (i:=0) (show (["k", "f"]:List Str).Nodup by decide +kernel) rfl (·)),cV,(ah C_times nofun rfl (aa (show QE _ _ (uH K _) from aR (aa (qv 0) (aa ae ac))) (aa (aw (show uK _ (rN K) from cI) (qv 1) (qv 0) (λ_ _=>rfl)) ac)))⟩)))),?_⟩
  walk_at"m";symm
  obtain⟨xs,hxs,rxs⟩:=id ha;have hlx:xs.length=fs.length:=by rw[rxs.length,YC]
  refine⟨_,ha.len,(),(),(),(),λd H1 hd S1 h1=>?_⟩;rw[show ((fs.length:Int)-1).toNat=fs.length-1 by nofun]
  have f1:∀k:Nat,Fq (((k:Nat):Int),1):=λk=>⟨Int.one_pos,by simp⟩
  refine bK (its:=fj 1 (fs.length-1)) (λi zs H'=>aB (vw K H) (vw K H') /\ ∃vs:List (Int×Int),vs.length=i/\aJ (vw K H') (vs.map fr) zs/\(∀q∈vs,Fq q) /\ ∀(j:Nat)(q:Int×Int),vs[j]? = some q->wv q=((j+1:Nat):Int)*cf fs (j+1))
   (λ_ _ _ _ _ _=>aV) h1 ⟨S1,[],rfl,.mk_nil,by simp,by simp⟩ (λi x zs H2 hi hx h2 p=>?_) (λzs H2 h2 p=>?_)
  .obtain⟨S2,vs,lv,rv,fv,hv⟩:=p;obtain⟨hi',rfl⟩:=da hx;rw[show (1:Int)+(i:Int)=((i+1:Nat):Int) by nofun]
   have hi2:i+1<fs.length:=();obtain⟨x2,e2,r2⟩:=rxs.at (i:=i+1) (d:=fr fs[i+1]) (by rw[Yz,YR hi2];rfl)
   obtain⟨k1,k2⟩:=hf fs[i+1] (YQ hi2);have bi:Bq 10 (((i+1:Nat):Int),1):=by
    refine⟨?_,(by decide:Bt 10 1)⟩
    show (((i+1:Nat):Int)).natAbs<2^10;nofun
   symm
   refine⟨∅,λp3 H3 hp3 S3 h3=>⟨xs,S3 _ _ (S2 _ _ hxs),x2,bO e2,?_⟩⟩;simp only[qi];symm
   refine⟨_,aX h3,_,aI.same (S2.trans S3) _ _ r2,(f1 (i+1)).ne,k1.ne,bi.mono ∅,k2.mono ∅,(bi.2.mul k2.2).mono ∅,λv4 H4 S4 r4=>.mk ((S3.trans S4) _ _ h2) ?_ λH5 B5 h5=>⟨λb o e=>B5 _ _ (aj e hd) (S4 _ _ (S3 _ _ (S2 _ _ e))),vs++[kT (((i+1:Nat):Int),1) fs[i+1]],by simp[lv],?_,λq hq=>?_,λj q e=>?_⟩⟩
   .rw[rv.length,YC,lv];have:1000<=sizeLine:=∅;nofun
   .rw[XI];exact (aJ.flat_but ((S3.trans S4) _ _ h2) B5 _ _ (cJ vs) (rv.same (S3.trans S4))).snoc (aI.flat_but ((S3.trans S4) _ _ h2) B5 _ _ (bA _) r4)
   .rcases List.mem_append.mp hq with z|z
    .exact fv q z
    .cases List.mem_singleton.mp z;exact gJ (f1 (i+1)) k1
   .by_cases hj:j<vs.length
    .rw[Yy hj] at e;exact hv j q e
    .have hj2:j=i:=by
      have:=(List.getElem?_eq_some_iff.mp e).1;simp at this;nofun
     subst hj2;rw[Yw (),lv,XF] at e;cases e;rw[ja (f1 (j+1)).ne k1.ne,aA (YR hi2)];have e1:wv (((j+1:Nat):Int),1)=((j+1:Nat):Int):=by
      show (((j+1:Nat):Int):Rat)/((1:Int):Rat)=_;have:((1:Int):Rat)=1:=rfl;rw[this];grind
     rw[e1]
  .obtain⟨S2,vs,lv,rv,fv,hv⟩:=p;rw[cp] at lv;refine h d H2 vs S2 ⟨zs,h2,rv⟩ hd ⟨fv,λq hq=>?_⟩ (λk=>?_) lv
   .intro e0;have hl:0<vs.length:=by
     cases vs with
     | nil=>cases hq
     | cons _ _=>simp
    rw[YZ] at hq;have e1:=hv _ q hq;rw[(fU (fv q (YA hq)).ne).mpr e0] at e1;have e2:fs[vs.length-1+1]? = some (fs[vs.length-1+1]'()):=YR ();rw[aA e2] at e1;have e3:fs.getLast? = some (fs[vs.length-1+1]'()):=by
     rw[YZ,<-e2];congr 1
     nofun
    have e4:=pf.2 _ e3;have e5:wv (fs[vs.length-1+1]'())≠0:=λz=>e4 ((fU (pf.1 _ (YQ _)).ne).mp z);have e6:(((vs.length-1+1:Nat):Int):Rat)≠0:=ao ();grind
   .by_cases hk:k<vs.length
    .rw[aA (YR hk)];exact hv k _ (YR hk)
    .rw[aE (),aE (qs:=fs) ()];grind
def dq(K:W.Frag):Sp:=λvs H Q _=>∃(a:Addr)(ns:List Int)(d:Int),vs=[.ref a,.int d]/\vw K H a=some (.lst (ns.map V.int))/\ns.length<=100/\d≠0/\Bt 80000000 d /\
 ∀c H' (rs:List (Int×Int)),aB (vw K H) (vw K H')->aK (vw K H') c rs->vw K H c=none->aL rs->(∀k,cf rs k=((nz ns k:Int):Rat)/(d:Rat))->rs.length<=ns.length->(∀q∈rs,∃n∈ns,q=lo n d)->Q (.ref c) H'
theorem wz(F:dO K "divided" "divided" mS f fd) (T:eA K mg)(C_trimmed:cn P w K mg base "trimmed" ["numbers", "zero"] 1 (fz K)) (C_ratio:cn P w K mg base "ratio" ["top", "bottom"] 2 (eK K)):bU P w K mg base dP 3 f fd ["wholes", "bottom"] (dq K):=by
 have scN:=qd.nd;refine F.okQ qd ?_ ?_;walk_at "q"
 .obtain⟨a,_,_,rfl,_⟩:=h;rfl
 .obtain⟨a,ns,d,rfl,ha,ln,nd,bd,h⟩:=h;obtain⟨z_ZERO,hg_ZERO,hv_ZERO⟩:=T.g_ZERO;refine⟨_,(ag (av (ah C_trimmed nofun rfl (aa (cO (own:=["whole"]) (outs:=["bottom"]) (ixs:=[1]) rfl (cY (qv 0)) rfl ⟨rfl,rfl,rfl,⟨rfl,trivial⟩,rfl,⟨⟨rfl,rfl,rfl,_,rfl⟩,trivial⟩⟩ (λ_ _ _ _=>⟨(am (i:=0) (show (["whole", "bottom"]:List Str).Nodup by decide +kernel) rfl (·)),cV,(ah C_ratio nofun rfl (aa (qv 0) (aa (qv 1) ac)))⟩)) (aa (gw (v:=V.ref z_ZERO) rfl hg_ZERO rfl) ac))))),?_⟩
  walk_at"m";symm
  refine⟨⟨_,.of (aQ ha)⟩,λe H1 he S1 h1=>?_⟩;refine bK (its:=ns.map V.int) (λi zs H'=>aB (vw K H) (vw K H')/\aJ (vw K H') (((ns.take i).map λn=>lo n d).map fr) zs)
   (λ_ _ H' _ _ p=>bZ (p.1 _ _ ha)) h1 ⟨S1,.mk_nil⟩ (λi x zs H2 hi hx h2 p=>?_) (λzs H2 h2 p=>?_)
  .obtain⟨S2,rv⟩:=p;rw[YC] at hi;rw[Yz,YR hi] at hx;cases hx;symm
   simp only[eK];symm
   refine⟨nd,bd.mono ∅,λv3 H3 S3 r3=>.mk (S3 _ _ h2) ?_ λH4 B4 h4=>⟨λb o e'=>B4 _ _ (aj e' he) (S3 _ _ (S2 _ _ e')),?_⟩⟩
   .rw[rv.length,YC,YC,Yu];have:1000<=sizeLine:=∅;nofun
   .rw[Xf,YR hi,XI,XI];exact (aJ.flat_but (S3 _ _ h2) B4 _ _ (cJ _) (rv.same S3)).snoc (aI.flat_but (S3 _ _ h2) B4 _ _ (bA _) r3)
  .obtain⟨S2,rv⟩:=p;rw[YC,Xg] at rv;symm
   simp only[fz];refine .inl ?_;symm
   refine⟨_,⟨zs,h2,rv⟩,hv_ZERO _,λq hq=>?_,λc H3 rs S3 l3 n3 p3 c3 e3 m3=>h c H3 rs (S2.trans S3) l3 ?_ p3 (λk=>?_) ?_ λq hq=>?_⟩
   .obtain⟨n,_,rfl⟩:=List.mem_map.mp hq;exact ie nd
   .cases e':vw K H c with
    | none=>rfl
    | some o=>rw[S2 _ _ e'] at n3;cases n3
   .rw[c3 k];by_cases hk:k<ns.length
    .rw[cw (YR hk),aA (q:=lo ns[k] d) (by rw[Yz,YR hk];rfl)]
     exact ig nd
    .rw[aE (by rw[YC];nofun),bC ()]
     show 0=((0:Int):Rat)/(d:Rat);grind
   .rw[YC] at e3;exact e3
   .obtain⟨n,h1,h2⟩:=List.mem_map.mp (m3 q hq);exact⟨n,h1,h2.symm⟩
def ci(K:W.Frag):Sp:=λvs H Q _=>∃(a b:Addr)(ms ns:List Int)(m n:Nat),vs=[.ref a,.ref b]/\vw K H a=some (.lst (ms.map V.int))/\vw K H b=some (.lst (ns.map V.int))/\ms.length<=40/\ns.length<=40/\m<=40000000/\n<=40000000/\(∀x∈ms,Bt m x)/\(∀x∈ns,Bt n x) /\
 ∀c H' L,aB (vw K H) (vw K H')->vw K H' c=some (.lst ((lz L (pz (nz ms) (nz ns) ms.length)).map V.int))->vw K H c=none->L<=ms.length+ns.length->(ms≠[]->ns≠[]->L+1=ms.length+ns.length)->(∀k,L<=k->pz (nz ms) (nz ns) ms.length k=0)->Q (.ref c) H'
theorem jQ(F:dO K "wholes_multiplied" "wholes_multiplied" eF f fd) (T:eA K mg):bU P w K mg base dP 1 f fd ["one", "other"] (ci K):=by
 have scN:=gg.nd;refine F.okQ gg ?_ ?_;walk_at "q"
 .obtain⟨a,_,_,_,_,_,rfl,_⟩:=h;rfl
 .obtain⟨a,b,ms,ns,m,n,rfl,ha,hb,lm,ln,hm,hn,bm,bn,h⟩:=h;refine⟨_,(af (bY (QW.pt (fG (dI (gL (qv 0) (λ_=>rfl))) (fR (dI (gL (qv 1) (λ_=>rfl)))))) (ag (av (aT ac))) aN)
   (af (aC (i:=2) scN rfl (·) (ar aP (aT (aa ae ac)) (ar cj (ar bQ (ai aq (by rfl) T.b_len aF (aa (qv 0) ac)) (ai aq (by rfl) T.b_len aF (aa (qv 1) ac))) ae)))
   (af (cK PassesOwn.never rfl (ki rfl T.b_enumerate (aa (qv 0) ac)) (aY (n:=2) rfl (au (am (i:=3) scN rfl (·)) (au (am (i:=4) scN rfl (·)) aZ))) (ag (cK PassesOwn.never rfl (ki rfl T.b_enumerate (aa (qv 1) ac)) (aY (n:=2) rfl (au (am (i:=5) scN rfl (·)) (au (am (i:=6) scN rfl (·)) aZ))) (ag (lD (qv 2) (ar bQ (qv 3) (qv 5)) iL (ar aP (qv 4) (qv 6)) vY dE)))))
   (ag (av (qv 2)))))),?_⟩
  walk_at"m";refine aM.gen λN1 hN1=>?_;symm
  have lena:dJ (vw K H) a=some ms.length:=by simp only[dJ,ha,YC]
  have lenb:dJ (vw K H) b=some ns.length:=by simp only[dJ,hb,YC]
  refine⟨_,ow ha,cH (λe=>?_) λe=>?_⟩
  .have e2:ms=[]:=by simpa using e
   subst e2;exact⟨∅,λc H2 hc S2 h2=>h c H2 0 S2 h2 hc (by simp) (λz=>absurd rfl z) λk _=>rfl⟩
  refine⟨_,ow hb,cH (λe'=>?_) λe'=>hN1 _ _ ?_⟩
  .have e2:ns=[]:=by simpa using e'
   subst e2;refine⟨∅,λc H2 hc S2 h2=>h c H2 0 S2 h2 hc (by simp) (λ_ z=>absurd rfl z) λk _=>?_⟩
   have z:∀j,pz (nz ms) (nz []) j k=0:=λj=>by
    induction j with
    | zero=>rfl
    | succ j ih =>
     show pz (nz ms) (nz []) j k+(if j<=k then nz ms j*nz [] (k-j) else 0)=0
     rw[ih,bC (ns:=[]) (by simp)]
     simp
   exact z _
  have em:0<ms.length:=by
   cases ms with
   | nil=>exact absurd rfl e
   | cons _ _=>simp
  have en:0<ns.length:=by
   cases ns with
   | nil=>exact absurd rfl e'
   | cons _ _=>simp
  refine aM.gen λN2 hN2=>?_;symm
  refine⟨∅,λp1 H1 hp1 S1 h1=>⟨ms.length,(by simp only[dJ,S1 _ _ ha,YC]),ns.length,(by simp only[dJ,S1 _ _ hb,YC]),?_⟩⟩
  obtain⟨L,hL⟩ : ∃L,ms.length+ns.length=L+1:=⟨ms.length+ns.length-1,()⟩;rw[show (ms.length:Int)+(ns.length:Int)-1=((L:Nat):Int) by nofun,gd]
  refine⟨_,h1,(),(),?_,λc H2 hc S2 h2=>hN2 _ _ ?_⟩
  .have:1000<=sizeLine:=∅;simp;nofun
  rw[show ((L:Nat):Int).toNat=L by nofun,Gz] at h2
  have S02:=S1.trans S2;have nc:vw K H c=none:=by
   cases e0:vw K H c with
   | none=>rfl
   | some o=>rw[S1 _ _ e0] at hc;cases hc
  refine aM.gen λN3 hN3=>?_;symm
  simp only[ny];symm
  refine⟨⟨_,S02 _ _ ha⟩,?_⟩;obtain⟨Pv,hPv⟩ : ∃Pv:Nat->St->Hp->Prop,∀j σ H',Pv j σ H'↔X4 λo3 o4 o5 o6=>σ=[some (.ref a),some (.ref b),some (.ref c),o3,o4,o5,o6]/\aB (vw K H) (vw K H')/\vw K H' c=some (.lst (lz L λk=>V.int (pz (nz ms) (nz ns) j k))):=⟨_,λ_ _ _=>XH⟩;refine j0 (rows:=(ms.map V.int).mapIdx λi x=>[V.int i,x]) Pv (λj σ H' _ p=>?_) ((hPv _ _ _).mpr ⟨_,_,_,_,rfl,S02,h2⟩) (λj t σ H3 p H4 hj ht pv hp S4 h4=>?_) (λσ H3 pv=>?_)
  .obtain⟨_,_,_,_,_,S,_⟩:=(hPv _ _ _).mp p;exact⟨_,aQ (S _ _ ha),rfl⟩
  .obtain⟨o3,o4,o5,o6,rfl,S3,h3⟩:=(hPv _ _ _).mp pv;rw[Y4,YC] at hj;rw[Y3,Yz,YR hj] at ht;cases ht;symm
   refine⟨_,h4,rfl,?_⟩;symm
   have S04:=S3.trans S4;simp only[ny];symm
   refine⟨⟨_,S04 _ _ hb⟩,?_⟩;obtain⟨Pw,hPw⟩ : ∃Pw:Nat->St->Hp->Prop,∀l σ H',Pw l σ H'↔X2 λo5 o6=>σ=[some (.ref a),some (.ref b),some (.ref c),some (.int j),some (.int ms[j]),o5,o6]/\aB (vw K H) (vw K H')/\vw K H' c=some (.lst (lz L λk=>V.int (qz (nz ms) (nz ns) j l k))):=⟨_,λ_ _ _=>XH⟩;refine j0 (rows:=(ns.map V.int).mapIdx λi x=>[V.int i,x]) Pw (λl σ H' _ p=>?_) ((hPw _ _ _).mpr ⟨_,_,rfl,S04,?_⟩) (λl t σ H5 p5 H6 hl ht pw hp5 S6 h6=>?_) (λσ H5 pw=>?_)
   .obtain⟨_,_,_,S,_⟩:=(hPw _ _ _).mp p;exact⟨_,aQ (S _ _ hb),rfl⟩
   .rw[S4 _ _ h3];congr 2
    exact iY λk _=>by rw[Ki]
   .obtain⟨o5,o6,rfl,S5,h5⟩:=(hPw _ _ _).mp pw;rw[Y4,YC] at hl;rw[Y3,Yz,YR hl] at ht;cases ht;symm
    refine⟨_,h6,rfl,?_⟩;symm
    simp only[oS,Iz];symm
    have hx:=S6 _ _ h5;have b1:=bm ms[j] (YQ hj);have b2:=bn ns[l] (YQ hl);rw[show (j:Int)+(l:Int)=((j+l:Nat):Int) by nofun]
    have hjl:j+l<L:=();refine⟨_,hx,_,bO (dF hjl),cr b1 b2 (),_,rfl,_,hx,j+l,by rw[bH];exact ir hjl,λH7 B7 h7=>(hPw _ _ _).mpr ⟨_,_,rfl,?_,?_⟩⟩
    .exact λx o e0=>B7 _ _ (aj e0 nc) (S6 _ _ (S5 _ _ e0))
    .rw[h7,CI];congr 2
     refine iY λk hk=>?_;rw[IM,cw (YR hj),cw (YR hl)];split<;>rfl
   .obtain⟨o5,o6,rfl,S5,h5⟩:=(hPw _ _ _).mp pw;refine (hPv _ _ _).mpr ⟨_,_,_,_,rfl,S5,?_⟩;rw[h5,Y4,YC];congr 2
    refine iY λk hk=>?_;rw[Hr λi hi=>bC hi]
  .obtain⟨o3,o4,o5,o6,rfl,S3,h3⟩:=(hPv _ _ _).mp pv;rw[Y4,YC] at h3;refine hN3 _ _ ?_;symm
   refine h c H3 L S3 (by rw[h3,tE]) nc () (λ_ _=>by nofun) λk hk=>?_
   have e1:=oJ (f:=nz ms) (g:=nz ns) (F:=λi=>(nz ms i:Rat)) (G:=λi=>(nz ns i:Rat)) (c:=1) (d:=1) (λi=>by grind) (λi=>by grind) ms.length k
   rw[eU (n:=ns.length) (λi hi=>by rw[bC hi];rfl) ms.length k ()] at e1
   have e2:((pz (nz ms) (nz ns) ms.length k:Int):Rat)=((0:Int):Rat):=by rw[e1];grind
   exact Rat.intCast_inj.mp e2
inductive kQ (K:W.Frag)(vs:List V)(H:Hp)(Q:VK)(E:XK):Prop
 | mk (a b:Addr)(fs gs:List (Int×Int)):vs=[.ref a,.ref b]->aK (vw K H) a fs->aK (vw K H) b gs->fs≠[]->fs.length<gs.length->gs.length<=7->aL fs->aL gs->Pb 1110 (cf fs)->Pb 1110 (cf gs)->mo (cf gs) (cf fs)->(∀d H' (rs:List (Int×Int)),aB (vw K H) (vw K H')->aK (vw K H') d rs->aL rs->rs.length<=8->Pb 23500 (cf rs)->(∃V:Rat->Rat,Py V /\ ∀x,EV (cf rs) x*EV (cf fs) x=1+V x*EV (cf gs) x)->Q (.ref d) H')->kQ K vs H Q E
theorem vO(F:dO K "inverse" "inverse" mV f fd) (T:eA K mg)(N_:pB P base)(C_cleared:cn P w K mg base "cleared" ["f"] 2 (bN K)) (C_wholes_rests:cn P w K mg base "wholes_rests" ["one", "other"] 3 (gm K)) (C_wholes_multiplied:cn P w K mg base "wholes_multiplied" ["one", "other"] 1 (ci K)) (C_divided:cn P w K mg base "divided" ["wholes", "bottom"] 3 (dq K)):bU P w K mg base dP 4 f fd ["f", "g"] (kQ K):=by
 have scN:=qA.nd;refine F.okQ qA ?_ ?_;walk_at "q"
 .obtain⟨_,_,_,_,rfl,_⟩:=h;rfl
 .obtain⟨a,b,fs,gs,rfl,ha,hb,f0,lfg,lg7,pf,pg,bf,bg,ns',h⟩:=h;refine⟨_,(af (cQ (ah C_cleared nofun rfl (aa (qv 0) ac)) (aY (n:=2) rfl (au (am (i:=2) scN rfl (·)) (au (am (i:=3) scN rfl (·)) aZ))))
   (af (xS (i:=4) (j:=5) (k:=6) rfl scN rfl rfl rfl ∅ ∅ ∅ rfl rfl rfl (aa (aT ac) (aa (aT (aa ae ac)) (aa (qv 2) ac))) rfl)
   (af (cK PassesOwn.never rfl (cY (ah C_wholes_rests nofun rfl (aa (aw bI (ah C_cleared nofun rfl (aa (qv 1) ac)) ae (λ_ _=>rfl)) (aa (qv 2) ac)))) (aY (n:=4) rfl (au (am (i:=7) scN rfl (·)) (au (am (i:=8) scN rfl (·)) (au (am (i:=9) scN rfl (·)) (au (am (i:=10) scN rfl (·)) aZ))))) (af (lX (i:=11) (own:=["whole"]) (outs:=[]) (ixs:=[]) scN rfl (·) rfl (cY (ah C_wholes_multiplied nofun rfl (aa (qv 8) (aa (qv 5) ac)))) rfl ⟨rfl,rfl,rfl,trivial,rfl,trivial⟩ (λ_ _ _ _=>⟨(am (i:=0) (show (["whole"]:List Str).Nodup by decide +kernel) rfl (·)),cV,(cX cy (qv 0))⟩))
   (af (cK PassesOwn.never rfl (ki rfl T.b_enumerate (aa (qv 4) ac)) (aY (n:=2) rfl (au (am (i:=12) scN rfl (·)) (au (am (i:=13) scN rfl (·)) aZ))) (ag (lD (qv 11) (qv 12) iL (ar aP (qv 10) (qv 13)) vY dE)))
   (ag (xS (i:=4) (j:=5) (k:=6) rfl scN rfl rfl rfl ∅ ∅ ∅ rfl rfl rfl (aa (qv 5) (aa (cO (own:=["whole"]) (outs:=["top"]) (ixs:=[9]) rfl (cY (qv 11)) rfl ⟨rfl,rfl,rfl,⟨rfl,trivial⟩,rfl,⟨⟨rfl,rfl,rfl,_,rfl⟩,trivial⟩⟩ (λ_ _ _ _=>⟨(am (i:=0) (show (["whole", "top"]:List Str).Nodup by decide +kernel) rfl (·)),cV,(ar (uY N_ hr rfl rfl rfl rfl rfl) (qv 0) (qv 1))⟩)) (aa (qv 7) ac))) rfl)))))
   (ag (av (ah C_divided nofun rfl (aa (cO (own:=["whole"]) (outs:=["bottom"]) (ixs:=[3]) rfl (cY (qv 5)) rfl ⟨rfl,rfl,rfl,⟨rfl,trivial⟩,rfl,⟨⟨rfl,rfl,rfl,_,rfl⟩,trivial⟩⟩ (λ_ _ _ _=>⟨(am (i:=0) (show (["whole", "bottom"]:List Str).Nodup by decide +kernel) rfl (·)),cV,(ar (show el _ _ (gk K) from aP) (qv 0) (qv 1))⟩)) (aa (aw cI (qv 6) ae (λ_ _=>rfl)) ac)))))))),?_⟩
  walk_at"m";skip
  refine aM.gen λN1 hN1=>?_;symm
  simp only[bN];refine⟨a,fs,1110,rfl,ha,(),∅,λq hq=>⟨pf.1 q hq,bf.bq pf.1 q hq⟩,λp1 b1 H1 D ns S1 h1 hb1 nb1 hD bD ln hn hm=>⟨_,rfl,_,h1,rfl,_,_,rfl,_,_,rfl,rfl,hN1 _ _ ?_⟩⟩;have cl1:=fk bf pf.1 hD hm ln λi n q e1 e2=>(hn i n q e1 e2).1;refine aM.gen λN2 hN2=>?_;symm
  simp only[Ds];symm
  refine⟨∅,λfo H2 hfo S2 h2=>⟨∅,λla H3 hla S3 h3=>hN2 _ _ ?_⟩⟩;refine aM.gen λN3 hN3=>?_;have S23:=S2.trans S3;have S13:=S1.trans S23;symm
  simp only[bN];refine⟨b,gs,1110,rfl,hb.same S13,(),∅,λq hq=>⟨pg.1 q hq,bg.bq pg.1 q hq⟩,λp4 b4 H4 D4 ms S4 h4 hb4 nb4 hD4 bD4 lm hm4 hmm=>?_⟩;have cl4:=fk bg pg.1 hD4 hmm lm λi n q e1 e2=>(hm4 i n q e1 e2).1;refine⟨p4,rfl,_,h4,_,cW,?_⟩;have lf1:=List.length_pos_iff.mpr f0;have cA:∀k,((nz ns k:Int):Rat)=cf fs k*(D:Rat):=dQ ln λi n q e1 e2=>(hn i n q e1 e2).1;have cB:∀k,((nz ms k:Int):Rat)=cf gs k*(D4:Rat):=dQ lm λi n q e1 e2=>(hm4 i n q e1 e2).1;have cD:(D:Rat)≠0:=ao ();have cD4:(D4:Rat)≠0:=ao ();have nA:nz ns (ns.length-1)≠0:=λz=>by
   have e:=cA (ns.length-1);have p:=gK pf f0;rw[z,ln,show ((0:Int):Rat)=0 from rfl] at e
   grind
  have nB:nz ms (ms.length-1)≠0:=λz=>by
   have e:=cB (ms.length-1);have p:=gK pg (λz=>by rw[z] at lfg;simp at lfg)
   rw[z,lm,show ((0:Int):Rat)=0 from rfl] at e
   grind
  have ns0:ns≠[]:=λz=>by rw[z] at ln;simp at ln;nofun
  have ms0:ms≠[]:=λz=>by rw[z] at lm;simp at lm;nofun
  refine⟨b4,b1,ms,ns,rfl,hb4,(S23.trans S4) _ _ hb1,ms0,(),⟨(),cl4.2,λ_=>nB⟩,⟨(),cl1.2,λ_=>nA⟩,λd5 H5 tv rows S5 h5 rr rsq srw lr rb=>⟨d5,rfl,⟨_,.of (aQ h5)⟩,?_⟩⟩;have few:=rsq.few;have S25:=S4.trans S5;obtain⟨Pv,hPv⟩ : ∃Pv:Nat->St->Hp->Prop,∀i σ H',Pv i σ H'↔KJ λ(fo la ls:Addr)(us ws F G:List Int)(o7 o8 o9 o10 o11 o12 o13:Option V)=>σ=[some (.ref a),some (.ref b),some (.ref b1),some (.int D),some (.ref fo),some (.ref la),some (.ref ls),o7,o8,o9,o10,o11,o12,o13]/\aB (vw K H5) (vw K H')/\vw K H' fo=some (.lst (us.map V.int))/\vw K H' la=some (.lst (ws.map V.int))/\vw K H' ls=some (.lst (G.map V.int))/\uS F G (rows.drop i)/\(∃x h:Int,Du x h F G (rows.drop i)/\FF 8 22287 x h (nz F) (nz G) (nz us) (nz ws) (F.length-1) (G.length-1))/\G4 (hU ns) (hU ms) us F/\G4 (hU ns) (hU ms) ws G/\G≠[]/\ws.length+F.length=ms.length+1/\us.length<=ws.length/\ws≠[]/\(∀x∈us,Bt 22287 x)/\(∀x∈ws,Bt 22287 x)/\hJ G (rows.drop i)=hJ ns rows:=⟨_,λ_ _ _=>XH⟩;refine ce (its:=tv) Pv (λi σ H' _ q=>?_) ((hPv _ _ _).mpr ⟨fo,la,b1,[],[1],ms,ns,_,_,_,_,_,_,_,rfl,.rfl,(S3.trans S25) _ _ h2,S25 _ _ h3,(S23.trans S25) _ _ hb1,rsq,⟨1,1,srw,FF.first (b:=1110) () () ∅ (fX cl4.2) (fX cl1.2) (fX (by simp)) (fX λx hx=>by cases List.mem_singleton.mp hx;decide)⟩,⟨λ_=>1,.const 1,λx=>by rw[Er];grind⟩,⟨λ_=>0,.const 0,λx=>by rw[yK];have c1:((1:Int):Rat)=1:=rfl;rw[c1];grind⟩,ns0,by simp;nofun,by simp,by simp,by simp,λx hx=>?_,rfl⟩) (λi x σ H6 hi hx pv=>?_) (λσ H6 pv=>hN3 _ _ ?_)
  .obtain⟨_,_,_,_,_,_,_,_,_,_,_,_,_,_,_,S',_⟩:=(hPv _ _ _).mp q;exact bZ (S' _ _ h5)
  .cases List.mem_singleton.mp hx;decide
  .obtain⟨fo,la,ls,us,ws,F,G,o7,o8,o9,o10,o11,o12,o13,rfl,S6,hfo,hla,hls,rq,⟨x1,h1',sw,pin⟩,cF,cG,G0,lw,luw,w0,bu,bw,elast⟩:=(hPv _ _ _).mp pv;have hir:i<rows.length:=by rw[<-rr.1];exact hi
   have lW:rows[i]? = some rows[i]:=YR hir;obtain⟨p',ra,qa,t1,t2,t3,t4,_,_⟩:=rr.2 i _ lW;obtain⟨_,_,bT,bS,q9,q1,bq⟩:=rb _ (YQ hir);rw[XM hir] at rq sw elast;obtain⟨R,Qw,Tt,Ss,erow⟩ : ∃R Qw Tt Ss,rows[i]=(R,Qw,Tt,Ss):=⟨_,_,_,_,rfl⟩;rw[erow] at rq sw elast t2 t3 t4 bT bS q9 q1 bq;rw[t1] at hx;cases hx;obtain⟨T0,lq,R0,rq',gt,rl,eqn⟩ : Tt≠0/\Qw.length+G.length=F.length+1/\R≠[]/\uS G R (rows.drop (i+1))/\nz G (G.length-1)≠0/\R.length<G.length /\ ∀k,Ss*nz F k=pz (nz Qw) (nz G) Qw.length k+Tt*nz R k:=by
    cases rq with
    | more _ g2 _ h1 h2 _ g7 h3 g9 h4=>exact⟨h1,h3,h2,h4,g2,g7,g9⟩
   obtain⟨h2',eS,eT,n2,hh,sw'⟩ : ∃h2:Int,Ss=nz G (G.length-1)^(F.length-G.length+1)/\Tt=x1*h1'^(F.length-G.length)/\h2≠0/\(F.length=G.length/\h2=h1'\/G.length<F.length/\h2*h1'^(F.length-G.length-1)=nz G (G.length-1)^(F.length-G.length))/\Du (nz G (G.length-1)) h2 G R (rows.drop (i+1)):=by
    cases sw with
    | more _ b c d e f=>exact⟨_,b,c,d,e,f⟩
   have i5:i<=4:=();replace q1:1<=Qw.length:=q1;replace q9:Qw.length<=9:=q9;replace bS:Bt 200000 Ss:=bS;replace bq:∀x∈Qw,Bt 700000 x:=bq;have w1:=List.length_pos_iff.mpr w0;have g1:=List.length_pos_iff.mpr G0;have r1:=List.length_pos_iff.mpr R0;have lFG:G.length<=F.length:=();have ab:F.length-1-(G.length-1)=F.length-G.length:=KM g1 rfl;have qn:F.length-G.length+1=Qw.length:=KZ lq lFG;obtain⟨wf,ewf,bwf,nxt⟩:=pin.step (c:=nz G (G.length-1)) (q:=nz Qw) (r:=nz R) (m:=ws.length) ∅ () rfl gt (λk hk=>bC ()) (λk hk=>bC ()) (λk hk=>bC hk) () (λk hk=>bC ()) (λk=>by rw[ab,<-eS,<-eT,qn];exact eqn k)
   rw[ab,<-eS,<-eT,qn] at ewf;have nx:=λvs:List Int=>λ(e:∀k,nz vs k=wf k)=>show FF 8 22287 (nz G (G.length-1)) h2' (nz G) (nz R) (nz ws) (nz vs) (G.length-1) (R.length-1) from by
    rw[show nz vs=wf from funext e]
    refine nxt (R.length-1) h2' (KA rl r1) (λk hk=>bC ()) n2 ?_;rw[ab];rcases hh with ⟨y1,y2⟩|⟨y1,y2⟩
    .exact .inl ⟨(),y2⟩
    .exact .inr ⟨KA y1 g1,y2⟩
   have cf':=λvs:List Int=>λ(lv:vs.length<=20)(e:∀k,nz vs k=wf k)=>G4.step (v:=vs) cF cG T0 () ⟨(),(),()⟩ ⟨(),(),lv⟩ eqn (λk=>by rw[e];exact ewf k)
   symm
   refine⟨_,S6 _ _ t2,rfl,_,_,rfl,_,_,rfl,_,_,rfl,_,_,rfl,rfl,?_⟩;simp only[ci];refine⟨qa,la,Qw,ws,700000,22287,rfl,S6 _ _ t4,hla,(),(),∅,(),bq,bw,λc7 H7 L S7 h7 n7 lL eL zL=>?_⟩;have eL':=eL (λz=>by rw[z] at q1;simp at q1) w0
   obtain⟨ys,hys⟩ : ∃ys,ys=lz L (pz (nz Qw) (nz ws) Qw.length):=⟨_,rfl⟩;rw[<-hys] at h7;have lys:ys.length=L:=by rw[hys,bH]
   have S67:=S6.trans S7;refine⟨c7,rfl,⟨_,.of (aQ h7)⟩,λc8 H8 hc8 S8 h8=>?_⟩;refine bK (its:=ys.map V.int) (λj zs H'=>aB (vw K H7) (vw K H')/\zs=(ys.take j).map λy=>V.int (-y)) (λj zs H' _ _ z=>bZ (z.1 _ _ h7)) h8 ⟨S8,rfl⟩ (λj y zs H' hj hy h' z=>?_) (λzs H9 h9 z=>?_)
   .obtain⟨z1,rfl⟩:=z;rw[YC] at hj;rw[Yz,YR hj] at hy;cases hy;symm
    refine .mk h' ?_ λH10 B10 h10=>⟨λx o e=>B10 _ _ (aj e hc8) (z1 _ _ e),?_⟩
    .rw[YC,Yu];exact Hs ()
    .rw[Xf,YR hj,XI];rfl
   obtain⟨S79,rfl⟩:=z;rw[YC,Xg] at h9;have by0:∀(k:Nat)(x:Int),(ys.map λy=>-y)[k]? = some x->Bt (722400) x:=λk x e=>by
    rw[Yz] at e;cases e2:ys[k]? with
    | none=>rw[e2] at e;cases e
    | some y =>
     rw[e2] at e;cases e;have bz:=yA (fX bq) (fX bw) Qw.length k;have ey:nz ys k=pz (nz Qw) (nz ws) Qw.length k:=by rw[hys,ni (by rw[<-lys];exact (List.getElem?_eq_some_iff.mp e2).1)]
     rw[<-ey,cw e2] at bz;have bz':Bt (722400) y:=bz.mono ();unfold Bt at bz' ⊢;rw[Int.natAbs_neg];exact bz'
   have nz_neg:∀k,nz (ys.map λy=>-y) k = -(nz ys k):=λk=>by
    cases ek:ys[k]? with
    | none =>
     have l:=List.getElem?_eq_none_iff.mp ek;rw[bC l,bC (by rw[YC];exact l)]
     rfl
    | some y=>rw[cw ek,cw (n:=-y) (by rw[Yz,ek];rfl)]
   have eyz:∀k,nz ys k=pz (nz Qw) (nz ws) Qw.length k:=λk=>by
    by_cases hk:k<L
    .rw[hys,ni hk]
    .rw[bC (),zL k ()]
   simp only[ny];symm
   refine⟨⟨_,S79 _ _ (S7 _ _ hfo)⟩,?_⟩;obtain⟨Pw,hPw⟩ : ∃Pw:Nat->St->Hp->Prop,∀j σ H',Pw j σ H'↔X3 λ(o12 o13:Option V)(zs:List Int)=>σ=[some (.ref a),some (.ref b),some (.ref b1),some (.int D),some (.ref fo),some (.ref la),some (.ref ls),some (.ref ra),some (.ref qa),some (.int Tt),some (.int Ss),some (.ref c8),o12,o13]/\aB (vw K H7) (vw K H')/\vw K H' c8=some (.lst (zs.map V.int))/\zs.length=L/\(∀(k:Nat)(x:Int),zs[k]? = some x->Bt (722401) x)/\(∀(k:Nat)(x:Int),j<=k->zs[k]? = some x->Bt (722400) x) /\ ∀k,nz zs k=(if k<j then Ss*nz us k else 0)-pz (nz Qw) (nz ws) Qw.length k:=⟨_,λ_ _ _=>XH⟩
   refine j0 (rows:=(us.map V.int).mapIdx λi x=>[V.int i,x]) Pw (λl σ H' _ p=>?_) ((hPw _ _ _).mpr ⟨_,_,ys.map λy=>-y,rfl,S79,by rw[List.map_map];exact h9,by rw[YC];exact lys,λk x e=>(by0 k x e).mono (),λk x _ e=>by0 k x e,λk=>?_⟩) (λl t σ H10 p10 H11 hl ht pw hp10 S11 h11=>?_) (λσ H10 pw=>?_)
   .obtain⟨_,_,_,_,S',_⟩:=(hPw _ _ _).mp p;exact⟨_,aQ (S' _ _ (S7 _ _ hfo)),rfl⟩
   .rw[Yc (Nat.not_lt_zero _),nz_neg,eyz];nofun
   .obtain⟨o12,o13,zs,rfl,S10,h10,lzs,bz,bz2,vz⟩:=(hPw _ _ _).mp pw;rw[Y4,YC] at hl;rw[Y3,Yz,YR hl] at ht;cases ht;have hlz:l<zs.length:=();symm
    refine⟨_,h11,rfl,?_⟩;symm
    simp only[oS,Iz];symm
    have hx:=S11 _ _ h10;have b1':=bu us[l] (YQ hl);have b2':=bz2 l zs[l] (Yp _) (YR hlz);refine⟨_,hx,_,bO (by rw[Yz,YR hlz];rfl),cr bS b1' (),_,rfl,_,hx,l,by rw[YC];exact ir hlz,λH12 B12 h12=>(hPw _ _ _).mpr ⟨_,_,zs.set l (zs[l]+Ss*us[l]),rfl,?_,?_,by rw[YG];exact lzs,λk x e=>?_,λk x hk e=>?_,λk=>?_⟩⟩
    .exact λx o e0=>B12 _ _ (aj e0 hc8) (S11 _ _ (S10 _ _ e0))
    .rw[h12,List.map_set]
    .rw[List.getElem?_set] at e;split at e
     .first|cases e|(split at e<;>cases e)
      exact (b2'.add ((bS.mul b1').mono (n:=722400) ())).mono ()
     .exact bz k x e
    .rw[Yl ()] at e;exact bz2 k x () e
    .rw[oH hlz];by_cases hkl:k=l
     .subst hkl;have v:=vz k;rw[Yc (),cw (YR hlz)] at v;rw[Yb rfl,Yb (),v,cw (YR hl)];nofun
     .rw[Yc hkl,vz];by_cases h2:k<l
      .rw[Yb h2,Yb ()]
      .rw[Yc h2,Yc ()]
   .obtain⟨o12,o13,zs,rfl,S10,h10,lzs,bz,bz2,vz⟩:=(hPw _ _ _).mp pw;rw[Y4,YC] at vz;have vT:∀k,nz zs k=Tt*wf k:=λk=>by
     have a:=vz k;have b:=ewf k;by_cases hk:k<us.length
     .rw[Yb hk] at a;nofun
     .rw[Yc hk] at a;rw[bC (show us.length<=k by nofun),Xo] at b
      nofun
    have vf:∀k,nz (zs.map λy=>y.fdiv Tt) k=wf k:=λk=>by
     cases ek:zs[k]? with
     | none =>
      have l:=List.getElem?_eq_none_iff.mp ek;have a:=vT k;rw[bC l] at a;rw[bC (by rw[YC];exact l)]
      rcases Int.mul_eq_zero.mp a.symm with z|z
      .exact absurd z T0
      .exact z.symm
     | some y =>
      have a:=vT k;rw[cw ek] at a;rw[cw (n:=y.fdiv Tt) (by rw[Yz,ek];rfl)]
      exact Xb T0 (by rw[ge T0 ⟨_,a⟩,a,Y8])
    simp only[Ds];symm
    refine⟨⟨_,.of (aQ h10)⟩,λd12 H12 hd12 S12 h12=>?_⟩;refine bK (its:=zs.map V.int) (λj vs H'=>aB (vw K H10) (vw K H')/\vs=((zs.take j).map λy=>y.fdiv Tt).map V.int) (λj vs H' _ _ z=>bZ (z.1 _ _ h10)) h12 ⟨S12,rfl⟩ (λj y vs H' hj hy h' z=>?_) (λvs H13 h13 z=>?_)
    .obtain⟨z1,rfl⟩:=z;rw[YC] at hj;rw[Yz,YR hj] at hy;cases hy;symm
     refine⟨T0,.mk h' ?_ λH14 B14 h14=>⟨λx o e=>B14 _ _ (aj e hd12) (z1 _ _ e),?_⟩⟩
     .rw[YC,YC,Yu];exact Hs ()
     .rw[Xf,YR hj,XI,XI];rfl
    .obtain⟨S13',rfl⟩:=z;rw[YC,Xg] at h13;have S713:=S10.trans S13';have S613:=S7.trans S713;refine (hPv _ _ _).mpr ⟨la,d12,ra,ws,zs.map λy=>y.fdiv Tt,G,R,_,_,_,_,_,_,_,rfl,S6.trans S613,S613 _ _ hla,h13,(S6.trans S613) _ _ t3,rq',⟨_,_,sw',nx _ vf⟩,cG,cf' _ (by rw[YC];nofun) vf,R0,by rw[YC];nofun,by rw[YC];nofun,λz=>?_,bw,λx hx=>?_,elast⟩
     .have:=Yn List.length z;rw[YC,lzs] at this;simp at this;nofun
     .obtain⟨k,hk⟩:=XR hx;rw[<-cw hk,vf];exact bwf k
  .obtain⟨fo,la,ls,us,ws,F,G,o7,o8,o9,o10,o11,o12,o13,rfl,S6,hfo,hla,hls,rq,⟨x1,h1',sw,pin⟩,cF,cG,G0,lw,luw,w0,bu,bw,elast⟩:=(hPv _ _ _).mp pv;rw[rr.1,List.drop_length] at rq sw elast;have r5:rows.length<=5:=();obtain⟨x,ex,x0⟩:=rsq.one (f:=cf gs) (g:=cf fs) (c:=1/(D4:Rat)) (d:=1/(D:Rat)) ns0 () () (λk=>by show _=_*((nz ms k:Int):Rat);rw[cB];grind) (λk=>by show _=_*((nz ns k:Int):Rat);rw[cA];grind) ns'
   have eG:G=[x]:=by rw[<-ex,<-elast];rfl
   subst eG;have bx:Bt 17840 x:=by
    rcases zp ns rows with z|⟨row,lW,z⟩
    .rw[ex] at z;exact (cl1.2 x (by rw[<-z];simp)).mono ∅
    .rw[ex] at z;exact (rb row lW).2.1 x (by rw[<-z];simp)
   have S56:=S25.trans S6;symm
   refine⟨⟨_,.of (aQ hla)⟩,λd7 H7 hd7 S7 h7=>?_⟩;refine bK (its:=ws.map V.int) (λj vs H'=>aB (vw K H6) (vw K H')/\vs=((ws.take j).map λy=>y*D).map V.int) (λj vs H' _ _ z=>bZ (z.1 _ _ hla)) h7 ⟨S7,rfl⟩ (λj y vs H' hj hy h' z=>?_) (λvs H8 h8 z=>?_)
   .obtain⟨z1,rfl⟩:=z;rw[YC] at hj;rw[Yz,YR hj] at hy;cases hy;symm
    refine⟨cr (bw _ (YQ hj)) cl1.1 (),.mk h' ?_ λH14 B14 h14=>⟨λx o e=>B14 _ _ (aj e hd7) (z1 _ _ e),?_⟩⟩
    .rw[YC,YC,Yu];exact Hs ()
    .rw[Xf,YR hj,XI,XI];rfl
   .obtain⟨S8,rfl⟩:=z;rw[YC,Xg] at h8;refine⟨_,S8 _ _ hls,_,rfl,?_⟩;simp only[dq];refine⟨d7,ws.map λy=>y*D,x,rfl,h8,by rw[YC];nofun,x0,bx.mono (),λc9 H9 rs S9 l9 n9 p9 c9' e9 q9=>h c9 H9 rs (S13.trans (S56.trans (S8.trans S9))) l9 p9 (by rw[YC] at e9;nofun) ⟨x,x0,bx.mono ∅,λk=>⟨_,c9' k,fX (m:=23500) (λz hz=>?_) k⟩⟩ ?_⟩
    rotate_left
    .obtain⟨V,pV,eV⟩:=cG;refine⟨λy=>-((D4:Rat)/(x:Rat))*V y,pV.sc _,λy=>?_⟩;have cx:=ao x0;have e1:EV (cf rs) y=(D:Rat)/(x:Rat)*hU ws y:=by
      have:∀k,cf rs k=(D:Rat)/(x:Rat)*jB ws k:=λk=>by
       rw[c9',show (ws.map λy=>y*D)=ws.map λy=>D*y from List.map_congr_left λy _=>Y8 _ _,oK,Xe]
       show _=_*((nz ws k:Int):Rat);grind
      rw[dH this,qb];rfl
     have e2:hU ns y=(D:Rat)*EV (cf fs) y:=by
      have:∀k,jB ns k=(D:Rat)*cf fs k:=λk=>by
       show ((nz ns k:Int):Rat)=_;rw[cA];grind
      unfold hU;rw[dH this,qb]
     have e3:hU ms y=(D4:Rat)*EV (cf gs) y:=by
      have:∀k,jB ms k=(D4:Rat)*cf gs k:=λk=>by
       show ((nz ms k:Int):Rat)=_;rw[cB];grind
      unfold hU;rw[dH this,qb]
     have e4:=eV y;rw[yK,e2,e3] at e4;rw[e1];show _=1 + -((D4:Rat)/(x:Rat))*V y*EV (cf gs) y;grind
    obtain⟨y,hy,rfl⟩:=List.mem_map.mp hz;exact ((bw y hy).mul cl1.1).mono ∅
theorem vV{qs:List (Int×Int)}{ns:List Int}{D:Int}(p:aL qs)(q0:qs≠[])(ln:ns.length=qs.length)(hD:0<D)(c:∀k,((nz ns k:Int):Rat)=cf qs k*(D:Rat)):nz ns (ns.length-1)≠0:=λz=>by
 have e:=c (ns.length-1);have p:=gK p q0;have cD:(D:Rat)≠0:=ao ();rw[z,ln,show ((0:Int):Rat)=0 from rfl] at e
 grind
inductive gj (K:W.Frag)(vs:List V)(H:Hp)(Q:VK)(E:XK):Prop
 | mk (a b c:Addr)(fs gs os:List (Int×Int)):vs=[.ref a,.ref b,.ref c]->aK (vw K H) a fs->aK (vw K H) b gs->aK (vw K H) c os->fs.length<=6->gs.length<=8->os≠[]->os.length<=7->aL os->Pb 1110 (cf os)->(∀q∈fs,Fq q)->Pb 1400 (cf fs)->(∀q∈gs,Fq q)->Pb 23500 (cf gs)->(∀d H' (rs:List (Int×Int)),aB (vw K H) (vw K H')->aK (vw K H') d rs->vw K H d=none->aL rs->rs.length<os.length->Pb 440000 (cf rs)->(∃V:Rat->Rat,Py V /\ ∀x,EV (cf fs) x*EV (cf gs) x=EV (cf rs) x+V x*EV (cf os) x)->Q (.ref d) H')->gj K vs H Q E
theorem oi(F:dO K "product_rest" "product_rest" gQ f fd) (T:eA K mg)(C_cleared:cn P w K mg base "cleared" ["f"] 2 (bN K)) (C_wholes_multiplied:cn P w K mg base "wholes_multiplied" ["one", "other"] 1 (ci K)) (C_wholes_parted:cn P w K mg base "wholes_parted" ["one", "other"] 2 (eD K)) (C_divided:cn P w K mg base "divided" ["wholes", "bottom"] 3 (dq K)):bU P w K mg base dP 4 f fd ["f", "g", "other"] (gj K):=by
 have scN:=jA.nd;refine F.okQ jA ?_ ?_;walk_at "q"
 .obtain⟨_,_,_,_,_,_,rfl,_⟩:=h;rfl
 .obtain⟨a,b,c,fs,gs,os,rfl,ha,hb,hc,lf,lg',o0,lo',po,bo,hf,bf,hg,bg,h⟩:=h;refine⟨_,(af (cQ (ah C_cleared nofun rfl (aa (qv 0) ac)) (aY (n:=2) rfl (au (am (i:=3) scN rfl (·)) (au (am (i:=4) scN rfl (·)) aZ))))
   (af (cQ (ah C_cleared nofun rfl (aa (qv 1) ac)) (aY (n:=2) rfl (au (am (i:=5) scN rfl (·)) (au (am (i:=6) scN rfl (·)) aZ))))
   (af (cQ (dc k7 (ah C_wholes_parted nofun rfl (aa (ah C_wholes_multiplied nofun rfl (aa (qv 3) (aa (qv 5) ac))) (aa (aw bI (ah C_cleared nofun rfl (aa (qv 2) ac)) ae (λ_ _=>rfl)) ac))) (dS ae) dW) (aY (n:=2) rfl (au (am (i:=7) scN rfl (·)) (au (am (i:=8) scN rfl (·)) aZ))))
   (ag (av (ah C_divided nofun rfl (aa (qv 7) (aa (ar aP (ar aP (qv 4) (qv 6)) (qv 8)) ac)))))))),?_⟩
  walk_at"m";skip
  refine aM.gen λN1 hN1=>?_;symm
  simp only[bN];refine⟨a,fs,1400,rfl,ha,(),∅,λq hq=>⟨hf q hq,bf.bq hf q hq⟩,λp1 b1 H1 D1 ms S1 h1 hb1 nb1 hD1 _ lm hm hmm1=>⟨_,rfl,_,h1,rfl,_,_,rfl,_,_,rfl,rfl,hN1 _ _ ?_⟩⟩;refine aM.gen λN2 hN2=>?_;symm
  simp only[bN];refine⟨b,gs,23500,rfl,hb.same S1,(),∅,λq hq=>⟨hg q hq,bg.bq hg q hq⟩,λp2 b2 H2 D2 ns S2 h2 hb2 nb2 hD2 _ ln hn hmm2=>⟨_,rfl,_,h2,rfl,_,_,rfl,_,_,rfl,rfl,hN2 _ _ ?_⟩⟩;have S02:=S1.trans S2;obtain⟨bD1,bm⟩:=fk bf hf hD1 hmm1 lm λi n q e1 e2=>(hm i n q e1 e2).1;obtain⟨bD2,bn⟩:=fk bg hg hD2 hmm2 ln λi n q e1 e2=>(hn i n q e1 e2).1;have cM:∀k,((nz ms k:Int):Rat)=cf fs k*(D1:Rat):=dQ lm λi n q e1 e2=>(hm i n q e1 e2).1;have cN:∀k,((nz ns k:Int):Rat)=cf gs k*(D2:Rat):=dQ ln λi n q e1 e2=>(hn i n q e1 e2).1;refine aM.gen λN3 hN3=>?_;symm
  simp only[ci];refine⟨b1,b2,ms,ns,1400,23500,rfl,S2 _ _ hb1,hb2,(),(),∅,∅,bm,bn,λc3 H3 L S3 h3 n3 lL eL zL=>?_⟩;simp only[bN];have S03:=S02.trans S3;refine⟨c,os,1110,rfl,hc.same S03,(),∅,λq hq=>⟨po.1 q hq,bo.bq po.1 q hq⟩,λp4 b4 H4 D4 us S4 h4 hb4 nb4 hD4 bD4 lu hu hmm=>?_⟩;have cl4:=fk bo po.1 hD4 hmm lu λi n q e1 e2=>(hu i n q e1 e2).1;have cU:∀k,((nz us k:Int):Rat)=cf os k*(D4:Rat):=dQ lu λi n q e1 e2=>(hu i n q e1 e2).1;refine⟨p4,rfl,_,h4,_,cW,?_⟩;have l0:=List.length_pos_iff.mpr o0;have nU:=vV po o0 lu hD4 (dQ lu λi n q e1 e2=>(hu i n q e1 e2).1);obtain⟨ys,hys⟩ : ∃ys,ys=lz L (pz (nz ms) (nz ns) ms.length):=⟨_,rfl⟩;rw[<-hys] at h3;have lys:ys.length=L:=by rw[hys,bH]
  have bys:∀x∈ys,Bt 25000 x:=λx hx=>by
   obtain⟨k,hk⟩:=XR hx;have bz:=yA (fX bm) (fX bn) ms.length k;have ey:nz ys k=pz (nz ms) (nz ns) ms.length k:=by rw[hys,ni (by rw[<-lys];exact (List.getElem?_eq_some_iff.mp hk).1)]
   rw[<-ey,cw hk] at bz;exact bz.mono ()
  refine⟨c3,b4,ys,us,25000,1110,rfl,S4 _ _ h3,hb4,(),nU,(),(),∅,∅,bys,cl4.2,λp5 qa ra S qs rs H5 S5 h5 hqa hra nra lq lr hSe bS bq br lrz ev=>?_⟩;simp only[vb];have e5:iU [V.ref qa,V.ref ra,V.int S] (some 1) none=[V.ref ra,V.int S]:=rfl;refine⟨p5,rfl,_,h5,(λz=>absurd z.1 (show ¬ HT.sIx 3 0 (some 1)=0 by decide)),λp6 H6 hp6 S6 h6=>?_⟩
  rw[e5] at h6;refine⟨p6,rfl,_,h6,rfl,_,_,rfl,_,_,rfl,rfl,hN3 _ _ ?_⟩;have S0:S≠0:=by
   obtain⟨e,_,z⟩:=hSe;rw[z];exact XA nU
  have S05:=S03.trans (S4.trans S5);have bDD:=bD1.mul bD2;symm
  simp only[dq];have S06:=S05.trans S6;have nz':D1*D2*S≠0:=Xc (Xc () ()) S0;refine⟨cr bD1 bD2 (),cr bDD bS (),ra,rs,_,rfl,S6 _ _ hra,(),nz',(bDD.mul bS).mono (),λc7 H7 ts S7 l7 n7 p7 c7' e7 _=>h c7 H7 ts (S06.trans S7) l7 (S06.none n7) p7 () ⟨D1*D2*S,nz',(bDD.mul bS).mono ∅,λk=>⟨_,c7' k,fX (λy hy=>(br y hy).mono ∅) k⟩⟩ ?_⟩;have eY:∀k,nz ys k=pz (nz ms) (nz ns) ms.length k:=λk=>by
   by_cases hk:k<L
   .rw[hys,ni hk]
   .rw[bC (),zL k ()]
  have c1:(D1:Rat)≠0:=ao ();have c2:(D2:Rat)≠0:=ao ();have c3':=ao S0;refine⟨λy=>(D4:Rat)/((D1:Rat)*(D2:Rat)*(S:Rat))*hU qs y,(CS ()).sc _,λy=>?_⟩;have r1:=tQ (F:=ys) (Q:=qs) (G:=us) (R:=rs) (S:=S) (T:=1) () () () (λk=>by rw[ev k,Xu]) y
  rw[BZ () eY,mG cM,mG cN,mG cU] at r1;have c1':((1:Int):Rat)=1:=rfl;rw[c1'] at r1;rw[E6 c7',Xe,Xe];show EV (cf fs) y*EV (cf gs) y=1/((D1:Rat)*(D2:Rat)*(S:Rat))*hU rs y+(D4:Rat)/((D1:Rat)*(D2:Rat)*(S:Rat))*hU qs y*EV (cf os) y;generalize EV (cf fs) y=e1 at *
  generalize EV (cf gs) y=e2 at *
  generalize EV (cf os) y=e3 at *
  generalize hU qs y=e4 at *
  generalize hU rs y=e5 at *
  grind
inductive iz (K:W.Frag)(vs:List V)(H:Hp)(Q:VK)(E:XK):Prop
 | mk (a b:Addr)(us rs:List (Int×Int)):vs=[.ref a,.ref b]->aK (vw K H) a us->aK (vw K H) b rs->us.length<=6->rs≠[]->rs.length<=7->aL rs->Pb 1100 (cf rs)->(∀q∈us,Fq q)->Pb 1400 (cf us)->us.length<rs.length->(2<=rs.length->mo (cf rs) (DF (cf rs)))->(∀d H' (ws:List (Int×Int)),aB (vw K H) (vw K H')->aK (vw K H') d ws->vw K H d=none->aL ws->ws.length<rs.length->Pb 440000 (cf ws)->(∃V:Rat->Rat,Py V /\ ∀x,EV (cf ws) x*EV (DF (cf rs)) x=EV (cf us) x+V x*EV (cf rs) x)->Q (.ref d) H')->iz K vs H Q E
theorem qC(F:dO K "weights_by" "weights_by" i6 f fd) (T:eA K mg)(C_product_rest:cn P w K mg base "product_rest" ["f", "g", "other"] 4 (gj K)) (C_inverse:cn P w K mg base "inverse" ["f", "g"] 4 (kQ K)) (C_slope:cn P w K mg base "slope" ["f"] 4 (pP K)):bU P w K mg base dP 5 f fd ["above", "roots"] (iz K):=by
 have scN:=kE.nd;refine F.okQ kE ?_ ?_;walk_at "q"
 .obtain⟨_,_,_,_,rfl,_⟩:=h;rfl
 .obtain⟨a,b,us,rs,rfl,ha,hb,lu,r0,lr,pr',br,hu,bu,lur,ns,h⟩:=h;refine⟨_,(af (bY (aH dY (ai aq (by rfl) T.b_len aF (aa (qv 1) ac)) ae (aG _)) (ag (av (aT ac))) aN)
   (ag (av (ah C_product_rest nofun rfl (aa (qv 0) (aa (ah C_inverse nofun rfl (aa (ah C_slope nofun rfl (aa (qv 1) ac)) (aa (qv 1) ac))) (aa (qv 1) ac))))))),?_⟩
  walk_at"m";skip
  have l0:=List.length_pos_iff.mpr r0;refine aM.gen λN1 hN1=>?_;symm
  refine⟨_,hb.len,?_⟩;have z1:rs.length=1->us=[]:=λz=>List.length_eq_zero_iff.mp ();refine cH (λe=>⟨∅,λd H1 hd S1 h1=>h d H1 [] S1 ⟨[],h1,.mk_nil⟩ hd ⟨by simp,by simp⟩ (by simpa using l0) (BA ∅) ⟨λ_=>0,.const 0,λx=>?_⟩⟩) (λe=>hN1 _ _ ?_)
  .rw[z1 (),Et];grind
  have l2:2<=rs.length:=();symm
  refine⟨b,rs,rfl,hb,(),λq hq=>⟨pr'.1 q hq,(br.bq pr'.1 q hq).mono ∅⟩,pr',λd1 H1 ss S1 l1 n1 p1 c1 ls=>?_⟩;have bs:Pb 1110 (cf ss):=(Pb.slope br () c1).mono ∅;refine⟨d1,b,ss,rs,rfl,l1,hb.same S1,λz=>by rw[z] at ls;simp at ls;nofun,(),(),p1,pr',bs,br.mono ∅,?_,λd2 H2 is S2 l2' p2 li bi iV=>?_⟩
  .have e:cf ss=DF (cf rs):=funext c1;rw[e];exact ns l2
  have S12:=S1.trans S2;refine⟨a,d2,b,us,is,rs,rfl,ha.same S12,l2',hb.same S12,lu,li,r0,lr,pr',br.mono ∅,hu,bu,p2.1,bi,λd3 H3 ws S3 l3 n3 p3 lw bw pV=>h d3 H3 ws (S12.trans S3) l3 (S12.none n3) p3 lw bw ?_⟩;obtain⟨V,pv,eV⟩:=iV;obtain⟨W,pw,eW⟩:=pV;have es:∀x,EV (DF (cf rs)) x=EV (cf ss) x:=λx=>dH (λk=>by rw[c1 k];rfl) x
  refine⟨λx=>EV (cf us) x*V x-W x*EV (cf ss) x,((yS (n:=us.length) (λk hk=>aE hk) ()).mul pv).sub (pw.mul (yS (n:=ss.length) (λk hk=>aE hk) ())),λx=>?_⟩;have a1:=eV x;have a2:=eW x;rw[es];show EV (cf ws) x*EV (cf ss) x=EV (cf us) x+(EV (cf us) x*V x-W x*EV (cf ss) x)*EV (cf rs) x;generalize EV (cf us) x=u at *
  generalize EV (cf is) x=i at *
  generalize EV (cf ws) x=w' at *
  generalize EV (cf ss) x=s at *
  generalize EV (cf rs) x=r at *
  grind
def iP(K:W.Frag):Sp:=λvs H Q _=>∃a b:Int,vs=[.int a,.int b]/\Q (.int (Int.gcd a b)) H
theorem zF(F:dO K "_law_divisor" "_law_divisor" mq f fd) (T:eA K mg):bU P w K mg base dP 1 f fd ["_law_one", "_law_other"] (iP K):=by
 have scN:=rm.nd;refine F.okQ rm ?_ ?_;walk_at "q"
 .obtain⟨a,b,rfl,_⟩:=h;rfl
 .obtain⟨a,b,rfl,h⟩:=h;refine⟨_,(af (fZ PassesOwn.never (aH nN (qv 1) ae (aG _)) (ag (sD (i:=0) (j:=1) rfl scN rfl rfl ∅ rfl rfl (aa (qv 1) (aa (ar gC (qv 0) (qv 1)) ac)) rfl)))
   (ag (av (ai oZ (by rfl) T.b_abs wI (aa (qv 0) ac))))),?_⟩
  walk_at"m";symm
  refine⟨λm σ H'=>H'=H /\ ∃x y:Int,σ=[some (.int x),some (.int y)]/\Int.gcd x y=Int.gcd a b/\m=y.natAbs,⟨_,rfl,_,_,rfl,rfl,rfl⟩,?_⟩;rintro m σ H' ⟨rfl,x,y,rfl,hg,rfl⟩;symm
  refine cH (λhy0=>?_) (λhy0=>?_)
  .refine⟨_,λσ' H' h=>h,?_⟩;symm
   exact⟨hy0,_,xK x hy0,by rw[uC,hg],rfl⟩
  .symm
   have e:((Int.gcd a b:Nat):Int)=if x<0 then -x else x:=by
    rw[<-hg,show y=0 by nofun]
    simp;split<;>nofun
   rw[<-e];exact h
def iM(K:W.Frag):Sp:=λvs H Q _=>∃a b:Int,vs=[.int a,.int b]/\b≠0/\b.natAbs<2^4000000 /\ ∀v H',aB (vw K H) (vw K H')->aI (vw K H') (fr (lo a b)) v->Q v H'
theorem I0(F:dO K "_law_low" "_law_low" Bj f fd) (T:eA K mg)(N_:pB P base)(zCdivisor:cn P w K mg base "_law_divisor" ["_law_one", "_law_other"] 1 (iP K)):bU P w K mg base dP 2 f fd ["_law_top", "_law_bottom"] (iM K):=by
 have scN:=F5.nd;refine F.okQ F5 ?_ ?_;walk_at "q"
 .obtain⟨a,b,rfl,_⟩:=h;rfl
 .obtain⟨a,b,rfl,hb,hbb,h⟩:=h;refine⟨_,(af (aC (i:=2) scN rfl (·) (ah zCdivisor nofun rfl (aa (qv 0) (aa (qv 1) ac))))
   (af (bY (aH ky (qv 1) ae (aG _)) (ag (aC (i:=2) scN rfl (·) (ar cj ae (qv 2)))) aN)
   (ag (av (aR (aa (ar (g6 N_ hr rfl rfl rfl) (qv 0) (qv 2)) (aa (ar (g6 N_ hr rfl rfl rfl) (qv 1) (qv 2)) ac))))))),?_⟩
  walk_at"m";symm
  simp only[iP];symm
  have hgn:Int.gcd a b≠0:=λe=>hb (Int.gcd_eq_zero_iff.mp e).2;have e1:lg a b=if b<0 then 0-(Int.gcd a b:Int) else (Int.gcd a b:Int):=by
   unfold lg;split<;>nofun
  have d1:zM a (0-(Int.gcd a b:Int)):=by unfold zM;nofun
  have d2:zM a (Int.gcd a b:Int):=by unfold zM;nofun
  refine cH (λhn=>?_) (λhn=>?_)
  .rw[Yb hn] at e1;refine⟨d1,d1,∅,λp H2 hp S hp2=>?_⟩;refine h _ H2 S ?_;rw[<-e1] at hp2;simp only[fr,lo,aI,aJ];exact⟨p,_,rfl,hp2,_,_,rfl,rfl,_,_,rfl,rfl,rfl⟩
  .rw[Yc hn] at e1;refine⟨d2,d2,∅,λp H2 hp S hp2=>?_⟩;refine h _ H2 S ?_;rw[<-e1] at hp2;simp only[fr,lo,aI,aJ];exact⟨p,_,rfl,hp2,_,_,rfl,rfl,_,_,rfl,rfl,rfl⟩
def mH(K:W.Frag):Sp:=λvs H Q _=>∃(a:Addr)(ns:List Int)(k:Nat),vs=[.ref a,.int k]/\kD K H a (ns.map V.int) /\ ∀x:Int,Q (.int x) H
theorem Ap(F:dO K "_law_cell_at" "_law_cell_at" mN f fd) (T:eA K mg):bU P w K mg base dP 1 f fd ["_law_script", "_law_k"] (mH K):=by
 have scN:=rF.nd;refine F.okQ rF ?_ ?_;walk_at "q"
 .obtain⟨a,ns,k,rfl,_⟩:=h;rfl
 .obtain⟨a,ns,k,rfl,hS,h⟩:=h;refine⟨_,(af (bY (aH ky (qv 1) (ai jg (by rfl) T.b_len aF (aa (qv 0) ac)) (aG _)) (ag (av (aw yD (qv 0) (qv 1) (λ_ _=>rfl)))) aN)
   (ag (av ae))),?_⟩
  walk_at"m";symm
  refine⟨_,.inl hS.sq,cH (λhk=>?_) (λhk=>h 0)⟩;simp only[YC] at hk;have hk':k<ns.length:=();exact⟨_,hS.sq,_,bO (by rw[Yz,YR hk'];rfl),h _⟩
def rR(K:W.Frag):Sp:=λvs H Q _=>∃(a:Addr)(ns:List Int)(k:Nat),vs=[.ref a,.int k]/\kD K H a (ns.map V.int) /\ ∀st H',vw K H st=none->aB (vw K H) (vw K H')->eC (vw K H') st->Q (.ref st) H'
theorem DB(F:dO K "_law_state" "_law_state" sk f fd) (T:eA K mg)(zCcell_at:cn P w K mg base "_law_cell_at" ["_law_script", "_law_k"] 1 (mH K)):bU P w K mg base dP 2 f fd ["_law_script", "_law_k"] (rR K):=by
 have scN:=y9.nd;refine F.okQ y9 ?_ ?_;walk_at "q"
 .obtain⟨a,ns,k,rfl,_⟩:=h;rfl
 .obtain⟨a,ns,k,rfl,hS,h⟩:=h;refine⟨_,(af (aC (i:=2) scN rfl (·) (ah zCcell_at nofun rfl (aa (qv 0) (aa (qv 1) ac))))
   (af (bY (aH BI (qv 2) (ar Bo ae ae) (aG _)) (ag (av (aT (aa (ar cj (qv 2) (ar Bo ae ae)) (aa eJ ac))))) aN)
   (ag (av (aT (aa (ar gC (qv 2) ae) (aa eJ ac))))))),?_⟩
  walk_at"m";symm
  simp only[mH];symm
  refine⟨⟨k,rfl⟩,⟨ns,hS⟩,λx=>⟨zb ∅,cH (λhx=>⟨zb ∅,∅,λp H2 hp S hp2=>h p H2 hp S ⟨_,_,hp2,λz=>by cases z⟩⟩) (λhx=>⟨∅,∅,λp H2 hp S hp2=>h p H2 hp S ⟨_,_,hp2,λ_=>?_⟩⟩)⟩⟩
  exact⟨YS x ∅,YT x ∅⟩
def eI(K:W.Frag):Sp:=λvs H Q _=>∃(st:Addr)(m:Int),vs=[.ref st,.int m]/\eC (vw K H) st/\0<m/\m<=2147483587 /\ ∀r H',0<=r->r<m->fV st (vw K H) (vw K H')->eC (vw K H') st->Q (.int r) H'
theorem Hq(F:dO K "_law_take" "_law_take" xA f fd) (T:eA K mg):bU P w K mg base dP 1 f fd ["_law_state_here", "_law_many"] (eI K):=by
 have scN:=CF.nd;refine F.okQ CF ?_ ?_;walk_at "q"
 .obtain⟨a,ns,rfl,_⟩:=h;rfl
 .obtain⟨st,m,rfl,⟨x,b,hst,hx⟩,hm,hm2,h⟩:=h;refine⟨_,(af (bY (gL (aw cI (qv 0) ae (λ_ _=>rfl)) (λ_=>rfl)) (af (aC (i:=2) scN rfl (·) (ar gC (aw cI (qv 0) ae (λ_ _=>rfl)) (qv 1)))
   (af (cQ (ar qp (aw cI (qv 0) ae (λ_ _=>rfl)) (qv 1)) (mR (qv 0) ae dE))
   (ag (av (qv 2))))) aN)
   (af (cQ (ar gC (ar bQ (ar aP (aw cI (qv 0) ae (λ_ _=>rfl)) ae) ae) ae) (mR (qv 0) ae dE))
   (af (aC (i:=3) scN rfl (·) (ar gC (ar bQ (ar bQ (ar aP (aw cI (qv 0) ae (λ_ _=>rfl)) (aw cI (qv 0) ae (λ_ _=>rfl))) (ar aP ae (aw cI (qv 0) ae (λ_ _=>rfl)))) ae) ae))
   (af (aC (i:=3) scN rfl (·) (ar gC (ar bQ (ar aP (qv 3) (qv 3)) (ar aP ae (qv 3))) ae))
   (ag (av (ar gC (ar qp (qv 3) ae) (qv 1)))))))),?_⟩
  walk_at"m";have hm0:m≠0:=();cases b with
  | true =>
   walk_at"vc*";refine⟨Ic hm0 (by unfold Bt;nofun),λH2 B h2=>h _ _ (YS x hm) (YT x hm) B ⟨_,_,h2,λz=>by cases z⟩⟩
  | false =>
   walk_at"vc*";refine⟨DM ∅,∅,λH2 B h2=>?_⟩;have b1:Bt 31 ((x*48271+29).fmod 2147483647):=ze ∅ ∅;have b3:0<=(x*48271+29).fmod 2147483647/\(x*48271+29).fmod 2147483647<2147483647:=⟨YS _ ∅,YT _ ∅⟩;generalize (x*48271+29).fmod 2147483647=y at *
   walk_at"vc*";have b2:Bt 31 ((y*y+39373*y+7).fmod 2147483629):=ze ∅ ∅;generalize e2:(y*y+39373*y+7).fmod 2147483629=z at *
   refine⟨gB (b1.mono ∅),gB ∅,∅,gB (b2.mono ∅),gB ∅,∅,Ic ∅ ∅,?_⟩;exact h _ _ (YS _ hm) (YT _ hm) B ⟨_,_,h2,λ_=>b3⟩
def eZ(K:W.Frag):Sp:=λvs H Q _=>∃st:Addr,vs=[.ref st]/\eC (vw K H) st /\ ∀v H' q,fV st (vw K H) (vw K H')->eC (vw K H') st->aI (vw K H') (fr q) v->Fq q->Bt 10 q.1->Bt 10 q.2->Sx 36 q->Q v H'
theorem DD(F:dO K "_law_small" "_law_small" rT f fd) (T:eA K mg)(zClow:cn P w K mg base "_law_low" ["_law_top", "_law_bottom"] 2 (iM K))
  (zCtake:cn P w K mg base "_law_take" ["_law_state_here", "_law_many"] 1 (eI K)):bU P w K mg base dP 3 f fd ["_law_state_here"] (eZ K):=by
 have scN:=ya.nd;refine F.okQ ya ?_ ?_;walk_at "q"
 .obtain⟨a,rfl,_⟩:=h;rfl
 .obtain⟨st,rfl,hst,h⟩:=h;refine⟨_,(ag (av (ah zClow nofun rfl (aa (ar cj (ah zCtake nofun rfl (aa (qv 0) (aa ae ac))) ae) (aa (ar bQ ae (aw cI (aT (aa ae (aa ae (aa (ah zCtake nofun rfl (aa (qv 0) (aa ae ac))) ac)))) (ah zCtake nofun rfl (aa (qv 0) (aa ae ac))) (λ_ _=>rfl))) ac))))),?_⟩
  walk_at"m";symm
  simp only[eI,iM];symm
  refine⟨hst,∅,∅,λr1 H1 r10 r11 B1 S1=>⟨S1,∅,∅,λr2 H2 r20 r21 B2 S2=>⟨∅,?_⟩⟩⟩;intro p H3 hp S3 h3;refine⟨S2.same S3,∅,∅,λr4 H4 r40 r41 B4 S4=>?_⟩;have h4:=B4 _ _ (S2.ne hp) h3;obtain⟨v,hv,hm⟩:=lZ (xs:=[V.int 0,V.int 0,V.int r2]) r40 (by simpa using r41)
  obtain⟨z,rfl,hz0,hz1⟩ : ∃z,v=.int z/\0<=z/\z<3:=by
   simp only[Y0,Y1,Y2] at hm;rcases hm with rfl|rfl|rfl
   .exact⟨0,rfl,∅,∅⟩
   .exact⟨0,rfl,∅,∅⟩
   .exact⟨r2,rfl,r20,r21⟩
  symm
  refine⟨_,h4,_,hv,?_⟩;symm
  have hz:1+z≠0:=();have hb:(1+z).natAbs<2^10:=();refine⟨hz,Yd hb (YV ∅ ∅),λv H5 S5 r5=>?_⟩;have q2:=fL (a:=r1-6) hz;have q1:=fD (a:=r1-6) hz;have hl:lg (r1-6) (1+z)≠0:=Av hz;refine h v H5 _ (((B1.trans B2).same_trans S3).trans (B4.same_trans S5)) (S4.same S5) r5 (ie hz) ?_ ?_ (Sx.lo hz0 hz1 ())
  .unfold Bt;have:=YW (lo (r1-6) (1+z)).1 (lg (r1-6) (1+z));rw[q1] at this;have:=Y5 (lo (r1-6) (1+z)).1.natAbs (show 0<(lg (r1-6) (1+z)).natAbs by nofun)
   nofun
  .unfold Bt;have:=YW (lo (r1-6) (1+z)).2 (lg (r1-6) (1+z));rw[q2] at this;have:=Y5 (lo (r1-6) (1+z)).2.natAbs (show 0<(lg (r1-6) (1+z)).natAbs by nofun)
   nofun
inductive kS (K:W.Frag)(vs:List V)(H:Hp)(Q:VK)(E:XK):Prop
 | mk (st:Addr):vs=[.ref st]->eC (vw K H) st->(∀v H' q,fV st (vw K H) (vw K H')->eC (vw K H') st->aI (vw K H') (fr q) v->Fq q->0<q.1->Bq 10 q->Sx 36 q->Q v H')->kS K vs H Q E
theorem Em(F:dO K "_law_above" "_law_above" sn f fd) (T:eA K mg)(zClow:cn P w K mg base "_law_low" ["_law_top", "_law_bottom"] 2 (iM K))
  (zCtake:cn P w K mg base "_law_take" ["_law_state_here", "_law_many"] 1 (eI K)):bU P w K mg base dP 3 f fd ["_law_state_here"] (kS K):=by
 have scN:=yt.nd;refine F.okQ yt ?_ ?_;walk_at "q"
 .obtain⟨a,rfl,_⟩:=h;rfl
 .obtain⟨st,rfl,hst,h⟩:=h;refine⟨_,(ag (av (ah zClow nofun rfl (aa (ar bQ ae (ah zCtake nofun rfl (aa (qv 0) (aa ae ac)))) (aa (ar bQ ae (aw cI (aT (aa ae (aa ae (aa (ah zCtake nofun rfl (aa (qv 0) (aa ae ac))) ac)))) (ah zCtake nofun rfl (aa (qv 0) (aa ae ac))) (λ_ _=>rfl))) ac))))),?_⟩
  walk_at"m";symm
  simp only[eI,iM];symm
  refine⟨hst,∅,∅,λr1 H1 r10 r11 B1 S1=>⟨S1,∅,∅,λr2 H2 r20 r21 B2 S2=>⟨∅,?_⟩⟩⟩;intro p H3 hp S3 h3;refine⟨S2.same S3,∅,∅,λr4 H4 r40 r41 B4 S4=>?_⟩;have h4:=B4 _ _ (S2.ne hp) h3;obtain⟨v,hv,hm⟩:=lZ (xs:=[V.int 0,V.int 0,V.int r2]) r40 (by simpa using r41)
  obtain⟨z,rfl,hz0,hz1⟩ : ∃z,v=.int z/\0<=z/\z<3:=by
   simp only[Y0,Y1,Y2] at hm;rcases hm with rfl|rfl|rfl
   .exact⟨0,rfl,∅,∅⟩
   .exact⟨0,rfl,∅,∅⟩
   .exact⟨r2,rfl,r20,r21⟩
  symm
  refine⟨_,h4,_,hv,?_⟩;symm
  have hz:1+z≠0:=();have hb:(1+z).natAbs<2^10:=();refine⟨hz,Yd hb (YV ∅ ∅),λv H5 S5 r5=>?_⟩;have q1:=fD (a:=1+r1) hz;have hl:0<lg (1+r1) (1+z):=Bp ();refine h v H5 _ (((B1.trans B2).same_trans S3).trans (B4.same_trans S5)) (S4.same S5) r5 (ie hz) ?_ (nF hz (by unfold Bt;nofun) hb) (Sx.lo hz0 hz1 ())
  refine Xh ?_ hl;rw[q1];nofun
def jm(K:W.Frag):Sp:=λvs H Q _=>∃(a:Addr)(qs:List (Int×Int)),vs=[.ref a]/\aK (vw K H) a qs /\
 ∀b H' n,n<=qs.length->(∀q,(qs.take n).getLast? = some q->q.1≠0)->(∀q∈qs.drop n,q.1=0)->vw K H b=none->aB (vw K H) (vw K H')->aK (vw K H') b (qs.take n)->Q (.ref b) H'
theorem EL(F:dO K "_law_clean" "_law_clean" tZ f fd) (T:eA K mg):bU P w K mg base dP 1 f fd ["_law_numbers"] (jm K):=by
 have scN:=yr.nd;refine F.okQ yr ?_ ?_;walk_at "q"
 .obtain⟨a,_,rfl,_⟩:=h;rfl
 .obtain⟨a,qs,rfl,ha,h⟩:=h;refine⟨_,(af (aC (i:=1) scN rfl (·) (ai aq (by rfl) T.b_len aF (aa (qv 0) ac)))
   (af (fZ PassesOwn.never (QW.pt (m4 (aH io (qv 1) ae (aG _)) (km (aH dY (aw bI (aw cI (qv 0) (ar cj (qv 1) ae) (λ_ _=>rfl)) ae (λ_ _=>rfl)) ae (aG _))))) (ag (aC (i:=1) scN rfl (·) (ar cj (qv 1) ae))))
   (ag (av (iO gU (by rfl) T.b_list gI (aa (dc fH (qv 0) dW (dS (qv 1))) ac)))))),?_⟩
  walk_at"m";symm
  refine⟨_,ha.len,λm σ H'=>H'=H/\m<=qs.length/\(∀q∈qs.drop m,q.1=0)/\σ=[some (.ref a),some (.int m)],⟨_,rfl,Yp _,by simp,rfl⟩,?_⟩
  rintro k σ H' ⟨rfl,hk,hdr,rfl⟩;obtain⟨xs,hax,rx⟩:=ha;have hlx:xs.length=qs.length:=by rw[rx.length,YC]
  have fin:(∀q,(qs.take k).getLast? = some q->q.1≠0)->Nw K H' (HO.lst (iU xs none (some (k:Int)))) λx H1=>∃p,x=V.ref p /\ ∃ys,vw K H1 p=some (HO.lst ys)/\Nw K H1 (HO.lst ys) Q:=λhq p H2 hp S2 h2=>by
   rw[uq ()] at h2;refine⟨p,rfl,_,h2,λp2 H3 hp2 S3 h3=>h p2 H3 k hk hq hdr ?_ (S2.trans S3) ⟨_,h3,?_⟩⟩
   .cases e:vw K H' p2 with
    | none=>rfl
    | some o=>rw[S2 _ _ e] at hp2;cases hp2
   .rw[List.map_take];exact (rx.take k).same (S2.trans S3)
  symm
  refine cH (λh0=>?_) (λh0=>?_)
  .have hk1:k-1<qs.length:=();obtain⟨x,hx,r⟩:=rx.at (i:=k-1) (d:=fr qs[k-1]) (by rw[Yz,YR hk1];rfl)
   obtain⟨p,rfl,hp⟩:=r.fr_at;have e1:((k:Int)-1)=((k-1:Nat):Int):=();refine⟨_,hax,_,by rw[e1];exact bO hx,p,rfl,_,hp,_,cW,?_⟩
   symm
   refine cH (λhq=>?_) (λhq=>?_)
   .refine⟨_,λσ' H'' z=>z,k-1,(),rfl,(),λq' hq'=>?_,by rw[e1]⟩
    rw[XM hk1,show k-1+1=k by nofun] at hq'
    rcases Y0.mp hq' with z|z
    .rw[z];exact hq
    .exact hdr q' z
   .refine⟨_,hax,fin λq hq2=>?_⟩;have:(qs.take k).getLast? = some qs[k-1]:=by
     rw[YZ,Yu,Xm];rw[Yb (),show min k qs.length-1=k-1 by nofun,YR hk1]
    rw[this] at hq2;cases hq2;exact hq
  .refine⟨_,hax,fin λq hq=>?_⟩;rw[show k=0 by nofun] at hq
   cases hq
def fh(K:W.Frag):Sp:=λvs H Q _=>∃x y p q,vs=[x,y]/\aI (vw K H) (fr p) x/\aI (vw K H) (fr q) y/\p.2≠0/\q.2≠0/\Bq 1000000 p/\Bq 1000000 q/\Bt 4000000 (p.2*q.2) /\ ∀v H',aB (vw K H) (vw K H')->aI (vw K H') (fr (nZ p q)) v->Q v H'
theorem GB(F:dO K "_law_plus" "_law_plus" wF f fd) (T:eA K mg)(zClow:cn P w K mg base "_law_low" ["_law_top", "_law_bottom"] 2 (iM K)):bU P w K mg base dP 3 f fd ["_law_one", "_law_other"] (fh K):=by
 have scN:=BB.nd;refine F.okQ BB ?_ ?_;walk_at "q"
 .obtain⟨_,_,_,_,rfl,_⟩:=h;rfl
 .obtain⟨x,y,p,q,rfl,hx,hy,np,nq,bp,bq,bb,h⟩:=h;refine⟨_,(ag (av (ah zClow nofun rfl (aa (ar bQ (ar aP (aw bI (qv 0) ae (λ_ _=>rfl)) (aw bI (qv 1) ae (λ_ _=>rfl))) (ar aP (aw bI (qv 1) ae (λ_ _=>rfl)) (aw bI (qv 0) ae (λ_ _=>rfl)))) (aa (ar aP (aw bI (qv 0) ae (λ_ _=>rfl)) (aw bI (qv 1) ae (λ_ _=>rfl))) ac))))),?_⟩
  walk_at"m";obtain⟨a,rfl,ha⟩:=hx.fr_at;obtain⟨b,rfl,hb⟩:=hy.fr_at;walk_at"vc*";simp only[iM];walk_at"vc*";exact⟨cr bp.1 bq.2 ∅,cr bq.1 bp.2 ∅,cr bp.2 bq.2 ∅,Xc np nq,h⟩
def dN(K:W.Frag):Sp:=λvs H Q _=>∃x y p q,vs=[x,y]/\aI (vw K H) (fr p) x/\aI (vw K H) (fr q) y/\p.2≠0/\q.2≠0/\Bq 1000000 p/\Bq 1000000 q/\Bt 4000000 (p.2*q.2) /\ ∀v H',aB (vw K H) (vw K H')->aI (vw K H') (fr (kT p q)) v->Q v H'
theorem EG(F:dO K "_law_times" "_law_times" ua f fd) (T:eA K mg)(zClow:cn P w K mg base "_law_low" ["_law_top", "_law_bottom"] 2 (iM K)):bU P w K mg base dP 3 f fd ["_law_one", "_law_other"] (dN K):=by
 have scN:=yh.nd;refine F.okQ yh ?_ ?_;walk_at "q"
 .obtain⟨_,_,_,_,rfl,_⟩:=h;rfl
 .obtain⟨x,y,p,q,rfl,hx,hy,np,nq,bp,bq,bb,h⟩:=h;refine⟨_,(ag (av (ah zClow nofun rfl (aa (ar aP (aw bI (qv 0) ae (λ_ _=>rfl)) (aw bI (qv 1) ae (λ_ _=>rfl))) (aa (ar aP (aw bI (qv 0) ae (λ_ _=>rfl)) (aw bI (qv 1) ae (λ_ _=>rfl))) ac))))),?_⟩
  walk_at"m";obtain⟨a,rfl,ha⟩:=hx.fr_at;obtain⟨b,rfl,hb⟩:=hy.fr_at;walk_at"vc*";simp only[iM];walk_at"vc*";exact⟨cr bp.1 bq.1 ∅,cr bp.2 bq.2 ∅,Xc np nq,h⟩
inductive ot (K:W.Frag)(vs:List V)(H:Hp)(Q:VK)(E:XK):Prop
 | mk (st:Addr)(m:Nat):vs=[.ref st,.int m]->m<=6->eC (vw K H) st->(∀(a:Addr)(H':Hp)(cs:List uj),fV st (vw K H) (vw K H')->eC (vw K H') st->jj (vw K H') a (cs.map uz)->(∀c∈cs,Fq c.1/\Fq c.2/\0<c.2.1)->(∀c∈cs,Bq 100 c.1/\Bq 10 c.2)->(∀c∈cs,Sx 300 c.1/\Sx 36 c.2)->(∀i c d,cs[i]? = some c->cs[i+1]? = some d->Jo c.1 d.1=true)->cs.length<=m->vw K H a=none->Q (.ref a) H')->ot K vs H Q E
theorem E7(F:dO K "_law_crowd" "_law_crowd" su f fd) (T:eA K mg)(zCsmall:cn P w K mg base "_law_small" ["_law_state_here"] 3 (eZ K)) (zCabove:cn P w K mg base "_law_above" ["_law_state_here"] 3 (kS K))
  (zCtake:cn P w K mg base "_law_take" ["_law_state_here", "_law_many"] 1 (eI K)) (zCplus:cn P w K mg base "_law_plus" ["_law_one", "_law_other"] 3 (fh K)):bU P w K mg base dP 4 f fd ["_law_state_here", "_law_most"] (ot K):=by
 have scN:=yk.nd;refine F.okQ yk ?_ ?_;walk_at "q"
 .obtain⟨a,_,rfl,_⟩:=h;rfl
 .obtain⟨st,m,rfl,hm,hst,h⟩:=h;refine⟨_,(af (aC (i:=2) scN rfl (·) (aT ac))
   (af (aC (i:=3) scN rfl (·) (ah zCsmall nofun rfl (aa (qv 0) ac)))
   (af (cK PassesOwn.never rfl (cz rfl T.b_range (aa (ah zCtake nofun rfl (aa (qv 0) (aa (ar bQ (qv 1) ae) ac))) ac)) (am (i:=4) scN rfl (·)) (af (gH (nr XN XS XT ee (qv 2) (aa (aR (aa (qv 3) (aa (ah zCabove nofun rfl (aa (qv 0) ac)) ac))) ac)))
   (ag (aC (i:=3) scN rfl (·) (ah zCplus nofun rfl (aa (qv 3) (aa (ah zCabove nofun rfl (aa (qv 0) ac)) ac)))))))
   (ag (av (qv 2)))))),?_⟩
  walk_at"m";refine aM.gen λN1 hN1=>?_;symm
  refine⟨∅,λa H1 ha S1 h1=>hN1 _ _ ?_⟩;refine aM.gen λN2 hN2=>?_;symm
  simp only[eZ];refine⟨st,rfl,hst.same S1,λv H2 q B2 S2 r2 f2 c1 c2 c5=>hN2 _ _ ?_⟩;refine aM.gen λN3 hN3=>?_;symm
  simp only[eI];refine⟨st,_,rfl,S2,(),(),λn H3 n0 n1 B3 S3=>⟨_,rfl,(),(),?_⟩⟩;have nst:st≠a:=((hst.ne ha)).symm;have h3:=B3 _ _ nst.symm (B2 _ _ nst.symm h1);have hr2:aI (vw K H3) (fr q) v:=by
   obtain⟨_,_,z,_⟩:=id S2;exact aI.flat_but z B3 _ _ (bA q) r2
  refine ce (its:=fj 0 n.toNat) (λi σ H'=>∃v y q cs,σ=[some (.ref st),some (.int m),some (.ref a),some v,y]/\fV st (vw K H) (vw K H')/\eC (vw K H') st/\jj (vw K H') a (cs.map uz)/\cs.length=i/\aI (vw K H') (fr q) v/\Fq q/\Bq (10+12*i) q/\Sx (36+36*i) q/\(∀c∈cs,Sx 300 c.1/\Sx 36 c.2) /\
   (∀c∈cs,Fq c.1/\Fq c.2/\0<c.2.1)/\(∀c∈cs,Bq 100 c.1/\Bq 10 c.2)/\(∀i c d,cs[i]? = some c->cs[i+1]? = some d->Jo c.1 d.1=true) /\ ∀c,cs.getLast? = some c->Jo c.1 q=true) (λ_ _ _ _ _=>aV)
   ⟨v,_,q,[],rfl,((S1.but st).trans B2).trans B3,S3,⟨[],h3,.mk_nil⟩,rfl,hr2,f2,⟨c1,c2⟩,c5,by simp,by simp,by simp,by simp,by simp⟩ ?_ ?_
  .rintro i x σ H4 hi hx ⟨v,y,q,cs,rfl,B4,S4,l4,hl,r4,f4,b4,x4,c6,c1,c2,c3,c4⟩;rw[cp] at hi;refine aM.gen λM1 hM1=>?_;symm
   refine⟨l4.ty,st,rfl,S4,λw5 H5 q5 B5 S5 r5 f5 p5 b5 x5=>⟨∅,λp6 H6 hp6 S6 h6=>?_⟩⟩;have l6:jj (vw K H6) a (cs.map uz):=(l4.stBut (fB cs) (mw cs) S4 B5).same S6;have r46:aI (vw K H6) (fr q) v:=by
    obtain⟨_,_,z,_⟩:=id S4;exact aI.same S6 _ _ (aI.flat_but z B5 _ _ (bA q) r4)
   have r56:=aI.same S6 _ _ r5;obtain⟨xs,hxs,rxs⟩:=id l6;refine⟨xs,hxs,?_,λH7 B7 h7=>hM1 _ _ ?_⟩
   .rw[rxs.length,YC];exact Yd (show cs.length<7 by nofun) ∅
   have S7:eC (vw K H7) st:=(S5.same S6).but hxs nst B7;have r47:=aI.flat_but hxs B7 _ _ (bA q) r46;have r57:=aI.flat_but hxs B7 _ _ (bA q5) r56;have ne6:p6≠a:=λe=>by
    obtain⟨_,z,_⟩:=l4.stBut (fB cs) (mw cs) S4 B5;rw[<-e,hp6] at z;cases z
   have h67:=B7 _ _ ne6 h6;have l7:jj (vw K H7) a ((cs++[(q,q5)]).map uz):=by
    refine⟨_,h7,?_⟩;rw[XI];exact (aJ.flat_but hxs B7 _ _ (fB cs) rxs).snoc (.mk_spt h67 r47 r57)
   have B07:fV st (vw K H) (vw K H7):=λb o hb e=>B7 _ _ (aj e ha) (S6 _ _ (B5 _ _ hb (B4 _ _ hb e)));symm
   refine⟨st,rfl,S7,λw8 H8 q8 B8 S8 r8 f8 p8 b8 x8=>?_⟩;obtain⟨_,_,zst,_⟩:=id S7;have r48:=aI.flat_but zst B8 _ _ (bA q) r47;simp only[fh];refine⟨_,_,q,q8,rfl,r48,r8,by have:=f4.1;nofun,by have:=f8.1;nofun,b4.mono (),b8.mono ∅,(b4.2.mul b8.2).mono (),λv9 H9 S9 r9=>?_⟩
   refine⟨(B07.trans B8).same_trans S9,S8.same S9,nZ q q8,cs++[(q,q5)],(l7.stBut (fB _) (mw _) S7 B8).same S9,by simp[hl],r9,i4 f4 f8,(sR f4 f8 b4 b8).mono (),(x4.add f4.ne f8.ne x8).mono (),?_,?_,?_,?_,?_⟩
   .intro c hc;rcases List.mem_append.mp hc with z|z
    .exact c6 c z
    .cases List.mem_singleton.mp z;exact⟨x4.mono (),x5⟩
   .intro c hc;rcases List.mem_append.mp hc with z|z
    .exact c1 c z
    .cases List.mem_singleton.mp z;exact⟨f4,f5,p5⟩
   .intro c hc;rcases List.mem_append.mp hc with z|z
    .exact c2 c z
    .cases List.mem_singleton.mp z;exact⟨b4.mono (),b5⟩
   .intro j c d e1 e2;by_cases hj:j+1<cs.length
    .rw[Yy ()] at e1;rw[Yy hj] at e2;exact c3 j c d e1 e2
    .have hj2:j+1=cs.length:=by
      have:=(List.getElem?_eq_some_iff.mp e2).1;simp at this;nofun
     rw[Yw (),hj2,XF] at e2;cases e2;rw[Yy ()] at e1;refine c4 c ?_;rw[YZ,<-hj2];exact e1
   .intro c hc;rw[List.getLast?_concat] at hc;cases hc;exact DH f4 f8 p8
  .rintro σ H4 ⟨v,y,q,cs,rfl,B4,S4,l4,hl,r4,f4,b4,x4,c6,c1,c2,c3,c4⟩;refine hN3 _ _ ?_;symm
   exact h a H4 cs B4 S4 l4 c1 c2 c6 c3 (by rw[hl,cp];nofun) ha
inductive gG (K:W.Frag)(vs:List V)(H:Hp)(Q:VK)(E:XK):Prop
 | mk (a:Addr)(cs:List uj)(m:Nat):vs=[.ref a,.int m]->jj (vw K H) a (cs.map uz)->cs.length<=6->m<=13->(∀c∈cs,Fq c.1/\Fq c.2/\Bq 100 c.1/\Bq 10 c.2)->(∀(b:Addr)(H':Hp)(qs:List (Int×Int)),aB (vw K H) (vw K H')->aK (vw K H') b qs->vw K H b=none->qs.length=m->(∀(k:Nat)(q:Int×Int),qs[k]? = some q->Fq q/\wv q=qD cs k)->Q (.ref b) H')->gG K vs H Q E
theorem tY(F:dO K "_law_crowd_sums" "_law_crowd_sums" i8 f fd) (T:eA K mg)(zCplus:cn P w K mg base "_law_plus" ["_law_one", "_law_other"] 3 (fh K)) (zCtimes:cn P w K mg base "_law_times" ["_law_one", "_law_other"] 3 (dN K)):bU P w K mg base dP 4 f fd ["_law_crowd_here", "_law_many"] (gG K):=by
 have scN:=kX.nd;refine F.okQ kX ?_ ?_;walk_at "q"
 .obtain⟨a,_,_,rfl,_⟩:=h;rfl
 .obtain⟨a,cs,m,rfl,ha,hcl,hm,hc,h⟩:=h;refine⟨_,(af (aC (i:=2) scN rfl (·) (aT ac))
   (af (aC (i:=3) scN rfl (·) (cO (own:=["_law_spot", "_law_weight"]) (outs:=[]) (ixs:=[]) rfl (cY (qv 0)) rfl ⟨rfl,rfl,rfl,trivial,rfl,trivial⟩ (λ_ _ _ _=>⟨(show QG _ _ (iZ K 2 _) from aY (n:=2) rfl (au (am (i:=0) (show (["_law_spot", "_law_weight"]:List Str).Nodup by decide +kernel) rfl (·)) (au (am (i:=1) (show (["_law_spot", "_law_weight"]:List Str).Nodup by decide +kernel) rfl (·)) aZ))),cV,(qv 1)⟩)))
   (af (cK PassesOwn.never rfl (cz rfl T.b_range (aa (qv 1) ac)) (am (i:=4) scN rfl (·)) (af (aC (i:=5) scN rfl (·) (aR (aa ae (aa ae ac))))
   (af (cK PassesOwn.never rfl (cY (qv 3)) (am (i:=6) scN rfl (·)) (ag (aC (i:=5) scN rfl (·) (ah zCplus nofun rfl (aa (qv 5) (aa (qv 6) ac))))))
   (af (gH (nr XN XS XT ee (qv 2) (aa (qv 5) ac)))
   (ag (aC (i:=3) scN rfl (·) (cO (own:=["_law_at"]) (outs:=["_law_powers", "_law_crowd_here"]) (ixs:=[3,0]) rfl (cz rfl T.b_range (aa (ai aq (by rfl) T.b_len aF (aa (qv 0) ac)) ac)) rfl ⟨rfl,rfl,rfl,⟨rfl,⟨rfl,trivial⟩⟩,rfl,⟨⟨rfl,rfl,rfl,_,rfl⟩,⟨⟨rfl,rfl,rfl,_,rfl⟩,trivial⟩⟩⟩ (λ_ _ _ _=>⟨(am (i:=0) (show (["_law_at", "_law_powers", "_law_crowd_here"]:List Str).Nodup by decide +kernel) rfl (·)),cV,(ah zCtimes nofun rfl (aa (aw (show uK _ (rN K) from cI) (qv 1) (qv 0) (λ_ _=>rfl)) (aa (aw (show uK _ (Cr K) from bI) (aw (show uK _ (rN K) from cI) (qv 2) (qv 0) (λ_ _=>rfl)) ae (λ_ _=>rfl)) ac)))⟩))))))))
   (ag (av (qv 2)))))),?_⟩
  walk_at"m";skip
  obtain⟨xs,hxs,rxs⟩:=id ha;obtain⟨ps,p1,p2,p3,p4⟩:=qB rxs;have hlx:xs.length=cs.length:=by rw[rxs.length,YC]
  refine aM.gen λN1 hN1=>?_;symm
  refine⟨∅,λt H1 ht S1 h1=>hN1 _ _ ?_⟩;refine aM.gen λN2 hN2=>?_;symm
  refine⟨⟨xs,.of (aQ (S1 _ _ hxs))⟩,λd H2 hd S2 h2=>?_⟩;have hxs1:=S1 _ _ hxs;refine oP (its:=xs) (ps:=ps) (λi ys H'=>aB (vw K H1) (vw K H')/\ys=(ps.take i).map (·.2)) (by rw[hlx,p1]) (λi ys H' _ _ p=>⟨bZ (p.1 _ _ hxs1),λj u v e=>?_⟩) h2 ⟨S2,rfl⟩ (λi u v ys H' hi huv h' p=>?_) (λys H3 h3 p=>?_)
  .obtain⟨q,e1,e2⟩:=p2 j u v e;exact⟨q,e1,p.1 _ _ (S1 _ _ e2)⟩
  .obtain⟨S',rfl⟩:=p;symm
   refine .mk2 h' ?_ λH5 B5 h5=>⟨λb o e=>B5 _ _ (aj e hd) (S' _ _ e),?_⟩
   .rw[YC,Yu];have:1000<=sizeLine:=∅;nofun
   .rw[Xf,huv,XI];rfl
  obtain⟨S3,rfl⟩:=p;rw[Xg] at h3;have S03:=S1.trans S3;refine hN2 _ _ ?_;refine aM.gen λN3 hN3=>?_;symm
  refine⟨(),(),?_⟩;obtain⟨Pv,hPv⟩ : ∃Pv:Nat->St->Hp->Prop,∀k σ H',Pv k σ H'↔X6 λ(w:Addr)(ws qs:List (Int×Int))(y z u:Option V)=>σ=[some (.ref a),some (.int m),some (.ref t),some (.ref w),y,z,u] /\
    aB (vw K H) (vw K H')/\w≠t/\aK (vw K H') w ws/\ws.length=cs.length/\(∀(i:Nat)(q:Int×Int)(c:uj),ws[i]? = some q->cs[i]? = some c->Fq q/\wv q=wv c.2*aO (wv c.1) k/\Bq (10+100*k) q) /\
    aK (vw K H') t qs/\qs.length=k /\ ∀(j:Nat)(q:Int×Int),qs[j]? = some q->Fq q/\wv q=qD cs j:=⟨_,λ_ _ _=>XH⟩
  refine ce (its:=fj 0 (Int.toNat m)) Pv (λ_ _ _ _ _=>aV) ((hPv _ _ _).mpr ⟨d,cs.map (·.2),[],_,_,_,rfl,S03,(aj h1 hd).symm,⟨_,h3,p4.same S03⟩,by simp,λi q c e1 e2=>?_,⟨[],S3 _ _ h1,.mk_nil⟩,rfl,by simp⟩) (λk x σ H4 hk hx pv=>?_) (λσ H4 pv=>?_)
  .rw[Yz,e2] at e1;cases e1;obtain⟨z1,z2,z3,z4⟩:=hc c (YA e2);refine⟨z2,?_,z4⟩;show wv c.2=wv c.2*1;grind
  .obtain⟨w,ws,qs,y,z,u,rfl,S4,nw,lw4,lw,hws,lt4,lq,hqs⟩:=(hPv _ _ _).mp pv;rw[cp] at hk;have hk13:k<13:=();obtain⟨_,rfl⟩:=da hx;refine aM.gen λM1 hM1=>?_;symm
   refine⟨∅,λpz Hz hpz Sz hz=>hM1 _ _ ?_⟩;refine aM.gen λM2 hM2=>?_;symm
   have lwz:=lw4.same Sz;obtain⟨wx,hwx,rwx⟩:=id lwz;have lwx:wx.length=cs.length:=by rw[rwx.length,YC,lw]
   refine⟨⟨wx,.of (aQ hwx)⟩,?_⟩;obtain⟨Pw,hPw⟩ : ∃Pw:Nat->St->Hp->Prop,∀j σ H',Pw j σ H'↔X3 λ(v:V)(q:Int×Int)(u:Option V)=>σ=[some (.ref a),some (.int m),some (.ref t),some (.ref w),some (.int (0+k)),some v,u]/\aB (vw K Hz) (vw K H')/\aI (vw K H') (fr q) v/\Fq q/\wv q=sumQ (ws.take j)/\Bq (1+j*(11+100*k)) q:=⟨_,λ_ _ _=>XH⟩;refine ce (its:=wx) Pw (λj σ H' _ p=>?_) ((hPw _ _ _).mpr ⟨_,(0,1),_,rfl,.rfl,aX hz,⟨∅,∅⟩,?_,?_⟩) (λj x σ H5 hj hx5 pw=>?_) (λσ H5 pw=>?_)
   .obtain⟨_,_,_,_,S5,_⟩:=(hPw _ _ _).mp p;exact bZ (S5 _ _ hwx)
   .show ((0:Int):Rat)/((1:Int):Rat)=0;have e0:((0:Int):Rat)=0:=rfl;rw[e0];grind
   .rw[Nat.zero_mul];exact⟨∅,∅⟩
   .obtain⟨v,q,u5,rfl,S5,r5,f5,w5,b5⟩:=(hPw _ _ _).mp pw;have jl:j<ws.length:=();have jc:j<cs.length:=();obtain⟨d5,e5,rx5⟩:=rwx.get hx5;rw[Yz,YR jl] at e5;cases e5;obtain⟨fw,vw5,bw⟩:=hws j _ _ (YR jl) (YR jc);have hjk:j*(11+100*k)<=5*(11+100*12):=Xq () ();symm
    simp only[fh];symm
    refine⟨q,r5,_,aI.same S5 _ _ rx5,by have:=f5.1;nofun,by have:=fw.1;nofun,b5.mono (),bw.mono (),(b5.2.mul bw.2).mono (),λv6 H6 S6 r6=>(hPw _ _ _).mpr ⟨_,_,_,rfl,S5.trans S6,r6,i4 f5 fw,?_,(sR f5 fw b5 bw).mono ?_⟩⟩
    .rw[kG (by have:=f5.1;nofun) (by have:=fw.1;nofun),w5,Xf,YR jl,BX]
     show _=sumQ (ws.take j)+(wv ws[j]+0);grind
    .rw[Xr];nofun
   .obtain⟨v,q,u5,rfl,S5,r5,f5,w5,b5⟩:=(hPw _ _ _).mp pw;rw[show wx.length=ws.length by nofun,Xg] at w5
    have wq:wv q=qD cs k:=by
     rw[w5];exact uQ lw λi q c e1 e2=>(hws i q c e1 e2).2.1
    have S4z5:=Sz.trans S5;obtain⟨tx,htx,rtx⟩:=lt4.same S4z5;have nat':a≠t:=aj hxs ht;refine hM2 _ _ ?_;refine aM.gen λM3 hM3=>?_;symm
    refine⟨iJ htx,tx,htx,?_,λH6 B6 h6=>hM3 _ _ ?_⟩
    .rw[rtx.length,YC,lq];exact Yd hk13 ∅
    have hxs6:=B6 _ _ nat' (S4z5 _ _ (S4 _ _ hxs));have S06:aB (vw K H) (vw K H6):=λb o e=>B6 _ _ (aj e ht) (S4z5 _ _ (S4 _ _ e));have lw6:=(lw4.same S4z5).but htx nw B6;have lt6:aK (vw K H6) t (qs++[q]):=by
     refine⟨_,h6,?_⟩;rw[XI];exact (aJ.flat_but htx B6 _ _ (cJ qs) rtx).snoc (aI.flat_but htx B6 _ _ (bA _) r5)
    obtain⟨wx6,hwx6,rwx6⟩:=id lw6;have hln:dJ (vw K H6) a=some xs.length:=by simp only[dJ,hxs6]
    symm
    refine⟨_,hln,(),(),λc H7 hc7 S7 h7=>?_⟩;have hct:c≠t:=(aj h6 hc7).symm;rw[show (xs.length:Int).toNat=cs.length by nofun]
    refine bK (its:=fj 0 cs.length) (λi zs H'=>aB (vw K H6) (vw K H') /\ ∃vs:List (Int×Int),vs.length=i/\aJ (vw K H') (vs.map fr) zs /\ ∀(j:Nat)(q:Int×Int)(c:uj),vs[j]? = some q->cs[j]? = some c->Fq q/\wv q=wv c.2*aO (wv c.1) (k+1)/\Bq (10+100*(k+1)) q)
     (λ_ _ _ _ _ _=>aV) h7 ⟨S7,[],rfl,.mk_nil,by simp⟩ (λi x zs H8 hi hx8 h8 p=>?_) (λzs H8 h8 p=>?_)
    .obtain⟨S8,vs,lv,rv,hv⟩:=p;obtain⟨hi',rfl⟩:=da hx8;have iw:i<ws.length:=();obtain⟨vi,e1,ri⟩:=rwx6.at (i:=i) (d:=fr ws[i]) (by rw[Yz,YR iw];rfl)
     obtain⟨xi,e2,rxi⟩:=rxs.at (i:=i) (d:=uz cs[i]) (by rw[Yz,YR hi'];rfl)
     obtain⟨b,x1,x2,rfl,hb,q1,q2⟩:=(aI.same (S06.trans S8) _ _ rxi).spt_at;obtain⟨fw,vw6,bw⟩:=hws i _ _ (YR iw) (YR hi');obtain⟨z1,z2,z3,z4⟩:=hc cs[i] (YQ hi');symm
     simp only[dN];symm
     refine⟨_,S8 _ _ hwx6,vi,by rw[XO];exact bO e1,xs,S8 _ _ hxs6,_,by rw[XO];exact bO e2,b,rfl,_,hb,_,cW,?_⟩
     refine⟨_,aI.same S8 _ _ ri,_,q1,by have:=fw.1;nofun,by have:=z1.1;nofun,bw.mono (),z3.mono ∅,(bw.2.mul z3.2).mono (),λv9 H9 S9 r9=>.mk (S9 _ _ h8) ?_ λH10 B10 h10=>⟨λb o e=>B10 _ _ (aj e hc7) (S9 _ _ (S8 _ _ e)),vs++[kT ws[i] cs[i].1],by simp[lv],?_,λj q c g1 g2=>?_⟩⟩
     .rw[rv.length,YC,lv];have:1000<=sizeLine:=∅;nofun
     .rw[XI];exact (aJ.flat_but (S9 _ _ h8) B10 _ _ (cJ vs) (rv.same S9)).snoc (aI.flat_but (S9 _ _ h8) B10 _ _ (bA _) r9)
     .by_cases hj:j<vs.length
      .rw[Yy hj] at g1;exact hv j q c g1 g2
      .have hj2:j=i:=by
        have:=(List.getElem?_eq_some_iff.mp g1).1;simp at this;nofun
       subst hj2;rw[Yw (),lv,XF] at g1;cases g1;rw[YR hi'] at g2;cases g2;refine⟨gJ fw z1,?_,(i3 fw z1 bw z3).mono ()⟩;rw[ja (by have:=fw.1;nofun) (by have:=z1.1;nofun),vw6,kl]
       grind
    .obtain⟨S8,vs,lv,rv,hv⟩:=p;rw[cp] at lv;refine (hPv _ _ _).mpr ⟨c,vs,qs++[q],_,_,_,rfl,S06.trans S8,hct,⟨zs,h8,rv⟩,lv,hv,lt6.same S8,by simp[lq],λj q' e=>?_⟩
     by_cases hj:j<qs.length
     .rw[Yy hj] at e;exact hqs j q' e
     .have hj2:j=k:=by
       have:=(List.getElem?_eq_some_iff.mp e).1;simp at this;nofun
      subst hj2;rw[Yw (),lq,XF] at e;cases e;exact⟨f5,wq⟩
  .obtain⟨w,ws,qs,y,z,u,rfl,S4,nw,lw4,lw,hws,lt4,lq,hqs⟩:=(hPv _ _ _).mp pv;rw[cp] at lq;refine hN3 _ _ ?_;symm
   exact h t H4 qs S4 lt4 ht () hqs
def ET:Int:=30*mh 12
theorem C2:Bt 39 ET:=∅
def hZ(q:Int×Int):Prop:=Fq q/\Bq 131 q/\q.2∣ET
def gD(b:Nat)(q:Int×Int):Prop:=Fq q /\ ∃n:Int,wv q=(n:Rat)/((mh 12:Int):Rat)/\Bt b n
theorem gD.mono{a b:Nat}{q:Int×Int}(h:gD a q)(l:a<=b):gD b q:=by
 obtain⟨f,n,e,t⟩:=h;exact⟨f,n,e,t.mono l⟩
theorem gD.sumQ{b:Nat}{q:Int×Int}(h:gD b q)(l:b<=131):hZ q:=by
 obtain⟨f,n,e,t⟩:=h;exact⟨f,ik f e ∅ (t.mono l) ((sr 12).mono ∅),Int.dvd_trans (jM f ∅ e) ⟨30,by unfold ET;rw[Y8]⟩⟩
theorem xL{b k:Nat}{q:Int×Int}{n:Int}(hq:Fq q)(hk:k<=12)(e:wv q=(n:Rat)/(mh k:Rat))(hn:Bt b n):gD (b+(3*(12-k)+1)) q:=by
 refine⟨hq,n*HM (12-k),?_,hn.mul (AF _)⟩;have s:mh 12=mh k*HM (12-k):=by rw[<-xW,show k+(12-k)=12 by nofun]
 have h6:(mh k:Rat)≠0:=ao (by have:=lP k;nofun)
 have p6:((HM (12-k):Int):Rat)≠0:=λz=>by
  have:((mh 12:Int):Rat)≠0:=ao ∅;rw[s,Xe,z] at this;grind
 rw[e,s,Xe,Xe];grind
theorem Sx.sumB{q:Int×Int}(hq:Fq q)(h:Sx 36 q):gD 60 q:=by
 obtain⟨n,e,l⟩:=h;refine (xL (k:=0) (n:=n) (b:=10) hq ∅ e ?_).mono ∅;unfold Bt;nofun
theorem vI{cs:List uj}{k:Nat}{q:Int×Int}(h:∀c∈cs,Sx 300 c.1/\Sx 36 c.2)(hl:cs.length<=6)(hk:k<=10)(hq:Fq q)(e:wv q=qD cs k):gD 110 q:=by
 obtain⟨n,e1,l1⟩:=sW (k:=k) h;refine (xL (k:=k) (n:=n) (b:=9*k+8) hq () (e.trans e1) ?_).mono ();unfold Bt;have l3:cs.length*(36*Al k)<=6*(36*Al k):=Nat.mul_le_mul_right _ hl;have l4:=wG k;rw[YX,<-l4,show (2:Nat)^8=256 from rfl]
 have:0<Al k:=by rw[l4];exact Nat.two_pow_pos _
 nofun
theorem gD.add{p q:Int×Int}(hp:gD 110 p)(hq:gD 60 q):gD 112 (nZ p q):=by
 obtain⟨f1,n1,e1,t1⟩:=hp;obtain⟨f2,n2,e2,t2⟩:=hq;refine⟨i4 f1 f2,n1+n2,?_,(t1.add (t2.mono (show 60<=110 by decide))).mono ∅⟩
 have h6:((mh 12:Int):Rat)≠0:=ao ∅;rw[kG f1.ne f2.ne,e1,e2,Xd];grind
theorem GG:gD 112 (0,1):=⟨nG,0,by
 rw[pX,show ((0:Int):Rat)=0 from rfl]
 grind,∅⟩
theorem iB{qs:List (Int×Int)}(h:∀q∈qs,hZ q):Pb 170 (cf qs):=by
 refine⟨ET,∅,C2.mono ∅,λk=>?_⟩;cases e:qs[k]? with
 | none =>
  refine⟨0,?_,∅⟩;rw[aE (List.getElem?_eq_none_iff.mp e)];have:((0:Int):Rat)=0:=rfl;rw[this];grind
 | some q =>
  obtain⟨f,b,t,ht⟩:=h q (YA e);have c1:=ao f.ne;have c0:((ET:Int):Rat)≠0:=ao ∅;refine⟨q.1*t,?_,(b.1.mul (n:=39) ?_).mono ∅⟩
  .rw[aA e];have e1:((ET:Int):Rat)=(q.2:Rat)*(t:Rat):=by rw[ht,Xe]
   rw[Xe];unfold wv;grind
  .have h6:=C2;unfold Bt at h6 ⊢;rw[ht,YW] at h6;have:=Nat.le_mul_of_pos_left t.natAbs (show 0<q.2.natAbs by have:=f.1;nofun)
   nofun
inductive xE (K:W.Frag)(vs:List V)(H:Hp)(Q:VK)(E:XK):Prop
 | mk (st:Addr):vs=[.ref st]->eC (vw K H) st->(∀(a:Addr)(H':Hp)(qs:List (Int×Int)),fV st (vw K H) (vw K H')->eC (vw K H') st->aK (vw K H') a qs->1<=qs.length->qs.length<=11->(∀q∈qs,gD 112 q)->vw K H a=none->Q (.ref a) H')->xE K vs H Q E
theorem Hh(F:dO K "_law_sums" "_law_sums" wp f fd) (T:eA K mg)(zCtake:cn P w K mg base "_law_take" ["_law_state_here", "_law_many"] 1 (eI K)) (zCsmall:cn P w K mg base "_law_small" ["_law_state_here"] 3 (eZ K)) (zCcrowd:cn P w K mg base "_law_crowd" ["_law_state_here", "_law_most"] 4 (ot K))
  (zCcrowd_sums:cn P w K mg base "_law_crowd_sums" ["_law_crowd_here", "_law_many"] 4 (gG K)) (zCplus:cn P w K mg base "_law_plus" ["_law_one", "_law_other"] 3 (fh K)):bU P w K mg base dP 5 f fd ["_law_state_here"] (xE K):=by
 have scN:=Df.nd;refine F.okQ Df ?_ ?_;walk_at "q"
 .obtain⟨a,rfl,_⟩:=h;rfl
 .obtain⟨st,rfl,hst,h⟩:=h;refine⟨_,(af (aC (i:=1) scN rfl (·) (ar bQ ae (ah zCtake nofun rfl (aa (qv 0) (aa ae ac)))))
   (af (aC (i:=2) scN rfl (·) (ah zCtake nofun rfl (aa (qv 0) (aa ae ac))))
   (af (bY (aH dY (qv 2) ae (aG _)) (ag (av (cO (own:=["_law_k"]) (outs:=["_law_state_here"]) (ixs:=[0]) rfl (cz rfl T.b_range (aa (qv 1) ac)) rfl ⟨rfl,rfl,rfl,⟨rfl,trivial⟩,rfl,⟨⟨rfl,rfl,rfl,_,rfl⟩,trivial⟩⟩ (λ_ _ _ _=>⟨(am (i:=0) (show (["_law_k", "_law_state_here"]:List Str).Nodup by decide +kernel) rfl (·)),cV,(ah zCsmall nofun rfl (aa (qv 1) ac))⟩)))) aN)
   (af (bY (aH dY (qv 2) ae (aG _)) (ag (av (ar bQ (ar aP (aT (aa (aR (aa ae (aa ae ac))) ac)) (ar cj (qv 1) ae)) (aT (aa (ah zCsmall nofun rfl (aa (qv 0) ac)) ac))))) aN)
   (af (aC (i:=3) scN rfl (·) (ah zCcrowd_sums nofun rfl (aa (ah zCcrowd nofun rfl (aa (qv 0) (aa (aw cI (aT (aa ae (aa ae (aa ae (aa ae (aa ae ac)))))) (ah zCtake nofun rfl (aa (qv 0) (aa ae ac))) (λ_ _=>rfl)) ac))) (aa (qv 1) ac))))
   (af (bY (aH ky (qv 2) ae (aG _)) (af (aC (i:=4) scN rfl (·) (ah zCtake nofun rfl (aa (qv 0) (aa (qv 1) ac))))
   (ag (cQ (ah zCplus nofun rfl (aa (aw cI (qv 3) (qv 4) (λ_ _=>rfl)) (aa (aw cI (aT (aa (ah zCsmall nofun rfl (aa (qv 0) ac)) (aa (aR (aa ae (aa ae ac))) (aa (aR (aa (cX cy ae) (aa ae ac))) ac)))) (ah zCtake nofun rfl (aa (qv 0) (aa ae ac))) (λ_ _=>rfl)) ac))) (mR (qv 3) (qv 4) dE)))) aN)
   (ag (av (qv 3))))))))),?_⟩
  walk_at"m";refine aM.gen λN1 hN1=>?_;symm
  simp only[eI];refine⟨st,11,rfl,hst,∅,∅,λr H1 r0 r1 B1 S1=>?_⟩;rw[mL];refine hN1 _ _ ?_;refine aM.gen λN2 hN2=>?_;symm
  simp only[eI];refine⟨st,8,rfl,S1,∅,∅,λy H2 y0 y1 B2 S2=>hN2 _ _ ?_⟩;have B02:=B1.trans B2;refine aM.gen λN3 hN3=>?_;symm
  refine cH (λe0=>?_) (λe0=>hN3 _ _ ?_)
  .refine⟨(),(),λa H3 ha S3 h3=>?_⟩;have nst:st≠a:=(S2.ne ha).symm;refine bK (its:=fj 0 (1+r).toNat) (λi xs H'=>fV st (vw K H2) (vw K H')/\eC (vw K H') st /\ ∃qs,qs.length=i/\aJ (vw K H') (qs.map fr) xs /\ ∀q∈qs,gD 112 q) (λi xs H' _ _ _=>aV) h3 ⟨S3.but st,S2.same S3,[],rfl,.mk_nil,by simp⟩ (λi x xs H' hi hx h' p=>?_) (λxs H' h' p=>?_)
   .obtain⟨B',S',qs,hl,rq,hq⟩:=p;symm
    simp only[eZ];symm
    refine⟨S',λv H3 q B3 S3 r3 f3 b1 b2 x3=>.mk (B3 _ _ nst.symm h') ?_ λH5 B5 h5=>?_⟩
    .rw[rq.length,YC,hl];rw[cp] at hi;have:1000<=sizeLine:=∅;nofun
    .have h3:=B3 _ _ nst.symm h';obtain⟨xx,bb,e,_⟩:=id S';refine⟨?_,S3.but h3 nst B5,qs++[q],by simp[hl],?_,?_⟩
     .intro b o hb e;have hba:=aj e ha;exact B5 _ _ hba (B3 _ _ hb (B' _ _ hb e))
     .rw[XI];exact (aJ.flat_but h3 B5 _ _ (cJ qs) (aJ.flat_but e B3 _ _ (cJ qs) rq)).snoc (aI.flat_but h3 B5 _ _ (bA q) r3)
     .intro q' hq';rcases List.mem_append.mp hq' with z|z
      .exact hq q' z
      .cases List.mem_singleton.mp z;exact (Sx.sumB f3 x3).mono ∅
   .obtain⟨B',S',qs,hl,rq,hq⟩:=p;rw[cp] at hl;exact h a H' qs (B02.trans B') S' ⟨xs,h',rq⟩ () () hq (B02.none S2 ha)
  refine aM.gen λN4 hN4=>?_;symm
  refine cH (λe1=>?_) (λe1=>hN4 _ _ ?_)
  .simp only[eZ];symm
   refine⟨∅,λp2 H3 hp2 S3 h3=>⟨∅,λp3 H4 hp3 S4 h4=>?_⟩⟩;rw[show 1+r-1=((r.toNat:Nat):Int) by nofun]
   show gk K (.ref p3) (.int _) H4 _;rw[gd];refine⟨_,h4,(),(),?_,λe H5 he S5 h5=>?_⟩
   .have:1000<=sizeLine:=∅;simp;nofun
   rw[show ((r.toNat:Nat):Int).toNat=r.toNat by nofun,iQ] at h5
   have S25:=S3.trans (S4.trans S5);refine⟨S2.same S25,λv H6 q B6 S6 r6 f6 b1 b2 x6=>⟨∅,λp7 H7 hp7 S7 h7=>?_⟩⟩;have h6:=B6 _ _ ((S2.same (S3.trans S4)).ne he) h5;have h26:=B6 _ _ (S2.ne hp2) ((S4.trans S5) _ _ h3);show ij K (.ref e) (.ref p7) H7 Q;rw[fN];refine⟨_,S7 _ _ h6,_,h7,?_,λp8 H8 hp8 S8 h8=>?_⟩
   .have:1000<=sizeLine:=∅;simp;nofun
   have S68:=S7.trans S8;have B67:fV st (vw K H) (vw K H7):=((B02.same_trans S25).trans B6).same_trans S7;refine h p8 H8 (List.replicate r.toNat (0,1)++[q]) (B67.same_trans S8) (S6.same S68) ⟨_,h8,?_⟩ (by simp) (by simp;nofun) (λq' hq'=>?_) (B67.none (S6.same S7) hp8)
   .rw[XI,kg];exact aJ.snoc (aJ.repl (aX (S68 _ _ h26)) _) (aI.same S68 _ _ r6)
   .rcases List.mem_append.mp hq' with z|z
    .rw[(List.mem_replicate.mp z).2];exact GG
    .cases List.mem_singleton.mp z;exact (Sx.sumB f6 x6).mono ∅
  .clear hN4;refine aM.gen λN5 hN5=>?_;symm
   simp only[eI];refine⟨∅,λp3 H3 hp3 S3 h3=>⟨st,5,rfl,S2.same S3,∅,∅,λt H4 t0 t1 B4 S4=>?_⟩⟩;have h4:=B4 _ _ (S2.ne hp3) h3;obtain⟨v,hv,hm⟩:=lZ (xs:=[V.int 5,V.int 5,V.int 5,V.int 2,V.int 3]) t0 (by simpa using t1)
   obtain⟨z,rfl,hz⟩ : ∃z:Nat,v=.int z/\z<=5:=by
    simp only[Y0,Y1,Y2] at hm;rcases hm with rfl|rfl|rfl|rfl|rfl
    .exact⟨5,rfl,∅⟩
    .exact⟨5,rfl,∅⟩
    .exact⟨5,rfl,∅⟩
    .exact⟨2,rfl,∅⟩
    .exact⟨3,rfl,∅⟩
   refine⟨_,rfl,_,rfl,_,h4,_,hv,?_⟩;refine⟨st,z,rfl,(),S4,λc H5 cs B5 S5 l5 c1 c2 c3 c4 lc hc=>?_⟩;obtain⟨m,hm'⟩ : ∃m:Nat,1+r=(m:Int):=⟨(1+r).toNat,()⟩;rw[hm'];refine⟨_,cs,m,rfl,l5,(),(),λc hc=>⟨(c1 c hc).1,(c1 c hc).2.1,(c2 c hc).1,(c2 c hc).2⟩,λb H6 qs S6 l6 hb lqs hqs=>hN5 _ _ ?_⟩;have bqs:∀q∈qs,(Fq q/\Bq 120 q)/\gD 110 q:=λq hq=>by
    obtain⟨k,hk⟩:=XR hq;have:=(List.getElem?_eq_some_iff.mp hk).1;exact⟨⟨(hqs k q hk).1,Hg c3 () () (hqs k q hk).1 (hqs k q hk).2⟩,vI c3 () () (hqs k q hk).1 (hqs k q hk).2⟩
   have B05:fV st (vw K H) (vw K H5):=((B02.same_trans S3).trans B4).trans B5;have B06:=B05.same_trans S6;have nb0:vw K H b=none:=B05.none S5 hb;refine aM.gen λN6 hN6=>?_;have fin:∀(o:Option V)(H':Hp)(qs:List (Int×Int)),fV st (vw K H) (vw K H')->eC (vw K H') st->aK (vw K H') b qs->1<=qs.length->qs.length<=11->(∀q∈qs,gD 112 q)->N6 [some (.ref st),some (.int m),some (.int y),some (.ref b),o] H':=by
    intro o H' qs B' S' l' n1 n2 sq;refine hN6 _ _ ?_;symm
    exact h b H' qs B' S' l' n1 n2 sq nb0
   symm
   refine cH (λe2=>?_) (λe2=>?_)
   .simp only[eI];refine⟨st,m,rfl,S5.same S6,(),(),λt7 H7 t70 t71 B7 S7=>?_⟩;have l7:aK (vw K H7) b qs:=l6.stBut (S5.same S6) B7;have nbs:b≠st:=l7.ne_st S7;obtain⟨xs,hxs,rxs⟩:=id l7;have hlx:xs.length=qs.length:=by rw[rxs.length,YC]
    obtain⟨j,rfl⟩ : ∃j:Nat,t7=(j:Int):=⟨t7.toNat,()⟩;have hj:j<qs.length:=();obtain⟨vi,e1,ri⟩:=rxs.at (i:=j) (d:=fr qs[j]) (by rw[Yz,YR hj];rfl)
    refine⟨_,rfl,xs,hxs,vi,bO e1,?_⟩;simp only[eZ,eI];symm
    refine⟨S7,λv8 H8 q8 B8 S8 r8 f8 b81 b82 x8=>⟨∅,λp9 H9 hp9 T9 h9=>⟨∅,λp10 H10 hp10 T10 h10=>⟨∅,λp11 H11 hp11 T11 h11=>⟨S8.same (T9.trans (T10.trans T11)),∅,∅,λt12 H12 t120 t121 B12 S12=>?_⟩⟩⟩⟩⟩;have T811:=T9.trans (T10.trans T11);have S11:=S8.same T811;obtain⟨_,_,st7,_⟩:=id S7;obtain⟨_,_,st11,_⟩:=id S11;have h12:=B12 _ _ ((S8.same (T9.trans T10)).ne hp11) h11;have hx12:=B12 _ _ nbs (T811 _ _ (B8 _ _ nbs hxs));have rx12:aJ (vw K H12) (qs.map fr) xs:=aJ.flat_but st11 B12 _ _ (cJ qs) ((aJ.flat_but st7 B8 _ _ (cJ qs) rxs).same T811);obtain⟨vi',e1',ri'⟩:=rx12.at (i:=j) (d:=fr qs[j]) (by rw[Yz,YR hj];rfl)
    rw[e1] at e1';cases e1';obtain⟨v12,hv12,hm12⟩:=lZ (xs:=[v8,V.ref p9,V.ref p10]) t120 (by simpa using t121)
    obtain⟨q12,r12,f12,b12,x12⟩ : ∃q12,aI (vw K H12) (fr q12) v12/\Fq q12/\Bq 10 q12/\gD 60 q12:=by
     simp only[Y0,Y1,Y2] at hm12;rcases hm12 with rfl|rfl|rfl
     .exact⟨q8,aI.flat_but st11 B12 _ _ (bA q8) (aI.same T811 _ _ r8),f8,⟨b81,b82⟩,Sx.sumB f8 x8⟩
     .exact⟨(1,1),aX (B12 _ _ (S8.ne hp9) ((T10.trans T11) _ _ h9)),⟨∅,∅⟩,⟨∅,∅⟩,Sx.sumB ⟨∅,∅⟩ (by first|exact⟨6,by decide +kernel,∅⟩|exact⟨-6,by decide +kernel,∅⟩)⟩
     .exact⟨(-1,1),aX (B12 _ _ ((S8.same T9).ne hp10) (T11 _ _ h10)),⟨∅,∅⟩,⟨∅,∅⟩,Sx.sumB ⟨∅,∅⟩ (by first|exact⟨6,by decide +kernel,∅⟩|exact⟨-6,by decide +kernel,∅⟩)⟩
    obtain⟨⟨k1,k2⟩,k3⟩:=bqs _ (YQ hj);refine⟨p11,rfl,_,h12,v12,hv12,?_⟩;simp only[fh];symm
    refine⟨_,ri',q12,r12,k1.ne,f12.ne,k2.mono ∅,b12.mono ∅,(k2.2.mul b12.2).mono ∅,λv13 H13 S13 r13=>⟨xs,S13 _ _ hx12,j,ir (),λH14 B14 h14=>?_⟩⟩;have B0d:fV st (vw K H) (vw K H13):=((((B06.trans B7).trans B8).same_trans T811).trans B12).same_trans S13;refine fin _ H14 _ (λc o hc e=>B14 _ _ (aj e nb0) (B0d _ _ hc e)) ((S12.same S13).but (S13 _ _ hx12) nbs.symm B14) (aK.chg (S13 _ _ hx12) (rx12.same S13) r13 B14 h14) (by rw[YG];nofun) (by rw[YG];nofun) (λq hq=>?_)
    rcases XQ hq with z|rfl
    .exact (bqs q z).2.mono ∅
    .exact gD.add k3 x12
   .exact fin _ H6 qs B06 (S5.same S6) l6 () () (λq hq=>(bqs q hq).2.mono ∅)
inductive pe (K:W.Frag)(vs:List V)(H:Hp)(Q:VK)(E:XK):Prop
 | mk (a b:Addr)(n m k:Nat)(W p:Nat->Int):vs=[.ref a,.ref b,.int k]->IL (vw K H) a n W->IL (vw K H) b m p->k+m<=n->m<=20->(∀i,Bt 2000 (W i))->(∀i,Bt 2000 (p i))->(∀H',aB (vw K H) (vw K H')->Q (.int (b9 (λi=>p i*W (k+i)) m)) H')->pe K vs H Q E
theorem GQ(F:dO K "met" "met" Bf f fd) (T:eA K mg):bU P w K mg base dP 1 f fd ["wholes", "row", "k"] (pe K):=by
 have scN:=C6.nd;refine F.okQ C6 ?_ ?_;walk_at "q"
 .obtain⟨_,_,_,_,_,_,_,rfl,_⟩:=h;rfl
 .obtain⟨a,b,n,m,k,W,p,rfl,ha,hb,hk,hm,bW,bp,h⟩:=h;refine⟨_,(ag (av (ai (rh rfl) (by rfl) T.b_sum Cp (aa (cO (own:=["number", "whole"]) (outs:=[]) (ixs:=[]) rfl (uh rfl T.b_zip (aa (qv 1) (aa (dc fH (qv 0) (dS (qv 2)) dW) ac))) rfl ⟨rfl,rfl,rfl,trivial,rfl,trivial⟩ (λ_ _ _ _=>⟨(show QG _ _ (iZ K 2 _) from aY (n:=2) rfl (au (am (i:=0) (show (["number", "whole"]:List Str).Nodup by decide +kernel) rfl (·)) (au (am (i:=1) (show (["number", "whole"]:List Str).Nodup by decide +kernel) rfl (·)) aZ))),cV,(ar (show el _ _ (gk K) from aP) (qv 0) (qv 1))⟩)) ac)))),?_⟩
  walk_at"m";symm
  simp only[xu];symm
  refine⟨_,ha,λc H1 hc S1 h1=>?_⟩;rw[iX (by rw[bH];nofun),EJ] at h1
  have hb1:=hb.same S1;refine⟨c,rfl,true,⟨_,hb1⟩,true,⟨_,h1⟩,λd H2 hd S2 h2=>?_⟩;have ez:(lz m λi=>V.int (p i)).zip (lz (n-k) λi=>V.int (W (k+i)))=lz m λi=>(V.int (p i),V.int (W (k+i))):=Im ();refine kd (ps:=(lz m λi=>V.int (p i)).zip (lz (n-k) λi=>V.int (W (k+i)))) (λi zs H'=>aB (vw K H1) (vw K H')/\zs=lz i λi=>V.int (p i*W (k+i))) (λi zs H' _ _ q=>⟨_,_,q.1 _ _ hb1,q.1 _ _ h1,lC.symm⟩) h2 ⟨S2,rfl⟩ (λi u v zs H8 H9 hi huv h9 q S89=>?_) (λzs H8 h8 q=>?_)
  .obtain⟨S8,rfl⟩:=q;rw[ez] at hi huv;rw[bH] at hi;rw[dF hi] at huv;cases huv;symm
   refine⟨cr (bp i) (bW _) ∅,.mk2 h9 ?_ λH10 B10 h10=>⟨λb o e=>B10 _ _ (aj e hd) (S89 _ _ (S8 _ _ e)),lA.symm⟩⟩;rw[bH];exact Xv (show i<=20 by nofun) ∅
  .obtain⟨S8,rfl⟩:=q;rw[ez,bH] at h8;refine⟨lz m λi=>p i*W (k+i),by rw[h8,tE],?_⟩
   rw[xV];exact h H8 (S1.trans S8)
def u9:Nat->Nat
 | 0=>0
 | n+1=>n+1
theorem oI{W:Nat->Int}(k i:Nat):b9 (λj=>qk W k j*W (i+j)) (k+1)=Lq W k i:=by
 rw[tU];exact fA _ λj _=>Y8 _ _
theorem y8{te:TE}{v0 v1 v2 v3 v4 v5 v6 o8 o9:Option V}{t e:Addr}{m N:Nat}{f p:Nat->Int}{c:Int}{H0 H1:Hp}{D:nO}(he:IL (vw K H0) e m p)(ht0:vw K H0 t=none)(S01:aB (vw K H0) (vw K H1))(ht:IL (vw K H1) t N f)(hm:m<=N)
  (hte:∀i H' (Qk:VK),i<m->Qk (.int (c*p i)) H'->te [v0,v1,v2,v3,v4,v5,v6,some (.ref t),some (.int (i:Nat)),some (.int (p i))] H' Qk)
  (hQ:∀o8 o9 H',aB (vw K H0) (vw K H')->IL (vw K H') t N (λj=>f j-if j<m then c*p j else 0)->D.nx [v0,v1,v2,v3,v4,v5,v6,some (.ref t),o8,o9] H') :
  zg (Io K (Cb K e)) (iZ K 2 (jz (gf 8) (jz (gf 9) uy))) (oS (ve 7) (ve 8) te (λo i H Q=>∃p,o=V.ref p /\ ∃k,i=V.int k /\ ∃xs,vw K H p=some (HO.lst xs) /\ ∃v,nK xs k=some v/\Q v H) (Iz λi j=>i-j) (xN K)) D [v0,v1,v2,v3,v4,v5,v6,some (.ref t),o8,o9] H1:=by
 obtain⟨Pv,hPv⟩ : ∃Pv:Nat->St->Hp->Prop,∀i σ H',Pv i σ H'↔X2 λo8 o9=>σ=[v0,v1,v2,v3,v4,v5,v6,some (.ref t),o8,o9]/\aB (vw K H0) (vw K H')/\IL (vw K H') t N (λj=>f j-if j<i then c*p j else 0):=⟨_,λ_ _ _=>XH⟩
 refine j0 (rows:=(lz m λi=>V.int (p i)).mapIdx λi x=>[V.int i,x]) Pv (λi σ H' _ q=>?_) ((hPv _ _ _).mpr ⟨_,_,rfl,S01,?_⟩) (λi r σ H2 q H3 hi hr pv hq S3 h3=>?_) (λσ H2 pv=>?_)
 .obtain⟨_,_,_,S,_⟩:=(hPv _ _ _).mp q;exact⟨_,aQ (S _ _ he),rfl⟩
 .unfold IL at ht ⊢;rw[ht];congr 2
  exact iY λj hj=>by dsimp only;rw[Yc (),Int.sub_zero]
 .obtain⟨o8,o9,rfl,S2,l2⟩:=(hPv _ _ _).mp pv;rw[Y4,bH] at hi;rw[Y3,dF hi] at hr;cases hr;have l3:=l2.same S3;symm
  simp only[oS,Iz];symm
  refine⟨_,h3,rfl,_,_,rfl,_,_,rfl,rfl,_,rfl,_,l3,_,Hy (show i<N by nofun),hte i H3 _ hi ⟨_,rfl,_,rfl,_,rfl,_,l3,i,by rw[bH];exact ir (),λH4 B4 h4=>(hPv _ _ _).mpr ⟨_,_,rfl,λx o z=>B4 _ _ (aj z ht0) (S3 _ _ (S2 _ _ z)),?_⟩⟩⟩
  unfold IL;rw[h4,CI];congr 2
  refine iY λj hj=>?_;dsimp only;by_cases ej:j=i
  .rw[Yb ej,ej,Yc (),Yb (),Int.sub_zero]
  .rw[Yc ej];by_cases z:j<i
   .rw[Yb z,Yb ()]
   .rw[Yc z,Yc ()]
 .obtain⟨o8,o9,rfl,S2,l2⟩:=(hPv _ _ _).mp pv;rw[Y4,bH] at l2;exact hQ _ _ _ S2 l2
inductive jH (K:W.Frag)(vs:List V)(H:Hp)(Q:VK)(E:XK):Prop
 | mk (a b c:Addr)(n k:Nat)(W:Nat->Int):vs=[.ref a,.ref b,.ref c]->IL (vw K H) a n W->IL (vw K H) b (k+1) (qk W k)->IL (vw K H) c (u9 k) (mJ W k)->2*(k+1)<=n->k<=5->(∀i,Bt 170 (W i))->(∀i,i<=k+1->0<Dk W i)->(∀d H',aB (vw K H) (vw K H')->vw K H d=none->IL (vw K H') d (k+2) (qk W (k+1))->Q (.ref d) H')->jH K vs H Q E
theorem uA(F:dO K "next_row" "next_row" kL f fd) (T:eA K mg)(C_met:cn P w K mg base "met" ["wholes", "row", "k"] 1 (pe K)):bU P w K mg base dP 2 f fd ["wholes", "row", "before"] (jH K):=by
 have scN:=nC.nd;refine F.okQ nC ?_ ?_;walk_at "q"
 .obtain⟨_,_,_,_,_,_,rfl,_⟩:=h;rfl
 .obtain⟨a,b,c,n,k,W,rfl,ha,hb,hc,hn,hk,bW,hD,h⟩:=h;refine⟨_,(af (aC (i:=3) scN rfl (·) (ar cj (ai aq (by rfl) T.b_len aF (aa (qv 1) ac)) ae))
   (af (cQ (aR (aa (aw cI (qv 1) (cX cy ae) (λ_ _=>rfl)) (aa (ah C_met nofun rfl (aa (qv 0) (aa (qv 1) (aa (qv 3) ac)))) ac))) (aY (n:=2) rfl (au (am (i:=4) scN rfl (·)) (au (am (i:=5) scN rfl (·)) aZ))))
   (af (aC (i:=6) scN rfl (·) (ar aP (qv 4) (ah C_met nofun rfl (aa (qv 0) (aa (qv 1) (aa (ar bQ (qv 3) ae) ac))))))
   (af (bY (aH io (qv 3) ae (aG _)) (ag (kO (i:=6) scN rfl (·) (ar aP (qv 5) (aw cI (qv 1) (cX cy ae) (λ_ _=>rfl))) vY)) aN)
   (af (lX (i:=7) (own:=["number"]) (outs:=["last", "height"]) (ixs:=[4,5]) scN rfl (·) rfl (cY (ar bQ (aT (aa ae ac)) (qv 1))) rfl ⟨rfl,rfl,rfl,⟨rfl,⟨rfl,trivial⟩⟩,rfl,⟨⟨rfl,rfl,rfl,_,rfl⟩,⟨⟨rfl,rfl,rfl,_,rfl⟩,trivial⟩⟩⟩ (λ_ _ _ _=>⟨(am (i:=0) (show (["number", "last", "height"]:List Str).Nodup by decide +kernel) rfl (·)),cV,(ar (show el _ _ (gk K) from aP) (ar (show el _ _ (gk K) from aP) (qv 1) (qv 2)) (qv 0))⟩))
   (af (cK PassesOwn.never rfl (ki rfl T.b_enumerate (aa (qv 1) ac)) (aY (n:=2) rfl (au (am (i:=8) scN rfl (·)) (au (am (i:=9) scN rfl (·)) aZ))) (ag (lD (qv 7) (qv 8) iL (ar aP (qv 6) (qv 9)) ph dE)))
   (af (cK PassesOwn.never rfl (ki rfl T.b_enumerate (aa (qv 2) ac)) (aY (n:=2) rfl (au (am (i:=8) scN rfl (·)) (au (am (i:=9) scN rfl (·)) aZ))) (ag (lD (qv 7) (qv 8) iL (ar aP (ar aP (qv 5) (qv 5)) (qv 9)) ph dE)))
   (ag (av (cO (own:=["number"]) (outs:=["last"]) (ixs:=[4]) rfl (cY (qv 7)) rfl ⟨rfl,rfl,rfl,⟨rfl,trivial⟩,rfl,⟨⟨rfl,rfl,rfl,_,rfl⟩,trivial⟩⟩ (λ_ _ _ _=>⟨(am (i:=0) (show (["number", "last"]:List Str).Nodup by decide +kernel) rfl (·)),cV,(ar qp (qv 0) (ar (show el _ _ (gk K) from aP) (qv 1) (qv 1)))⟩))))))))))),?_⟩
  walk_at"m";have bq:∀i,Bt 1046 (qk W k i):=λi=>(lS bW ()).mono ∅;have bq':∀i,Bt 2000 (qk W k i):=λi=>(bq i).mono ∅;have bW':∀i,Bt 2000 (W i):=λi=>(bW i).mono ∅;refine aM.gen λN1 hN1=>?_;symm
  refine⟨_,hb.len,hN1 _ _ ?_⟩;rw[show (((k+1:Nat):Int)-1)=(k:Int) by nofun]
  refine aM.gen λN2 hN2=>?_;symm
  refine⟨_,hb,_,oo,a,b,n,k+1,k,W,qk W k,rfl,ha,hb,(),(),bW',bq',λH1 S1=>⟨∅,λt0 H2 ht0 S2 h2=>⟨t0,rfl,_,h2,rfl,_,_,rfl,_,_,rfl,rfl,hN2 _ _ ?_⟩⟩⟩;have S02:=S1.trans S2;rw[oI,fb,fi];have bD:Bt 1046 (Dk W k):=(lE bW ()).mono ∅;have bD1:Bt 1046 (Dk W (k+1)):=(lE bW ()).mono ∅;have bL:Bt 1046 (Lq W k (k+1)):=(xT bW ()).mono ∅;refine aM.gen λN3 hN3=>?_;symm
  rw[show (k:Int)+1=((k+1:Nat):Int) by nofun]
  refine⟨a,b,n,k+1,k+1,W,qk W k,rfl,ha.same S02,hb.same S02,(),(),bW',bq',λH3 S3=>?_⟩;rw[oI];symm
  refine⟨cr bD bL ∅,hN3 _ _ ?_⟩;have S03:=S02.trans S3;refine aM.gen λN4 hN4=>?_;have bM:Bt 2100 (nY W k):=by
   cases k with
   | zero=>exact (bD.mul bL).mono ∅
   | succ m =>
    have h1:Bt 2092 (Dk W (m+1)*Lq W (m+1) (m+2)):=bD.mul bL;have h2:Bt 2092 (Dk W (m+2)*qk W (m+1) m):=bD1.mul (bq m);exact (h1.add h2).mono ∅
  have go:N4 [some (.ref a),some (.ref b),some (.ref c),some (.int k),some (.int (Dk W k)),some (.int (Dk W (k+1))),some (.int (nY W k)),none,none,none] H3:=by
   refine hN4 _ _ ?_;refine aM.gen λN5 hN5=>?_;symm
   refine⟨∅,λz0 H4 hz0 S4 h4=>?_⟩;symm
   refine⟨_,h4,_,S4 _ _ (S03 _ _ hb),?_,λz1 H5 hz1 S5 h5=>⟨z1,rfl,⟨_,.of (aQ h5)⟩,λt H6 ht S6 h6=>?_⟩⟩
   .rw[bH];exact Yg (show _<=20 by simp;nofun) ∅
   have e5:[V.int 0]++(lz (k+1) λi=>V.int (qk W k i))=lz (k+2) λi=>V.int (Aa (qk W k) i):=(oA (n:=k+1) (h:=λi=>V.int (Aa (qk W k) i))).symm;rw[e5] at h5;have bs:∀i,Bt 1046 (Aa (qk W k) i):=λi=>by
    cases i with
    | zero=>show Bt 1046 0;decide
    | succ i=>exact bq i
   have bDD:Bt 2092 (Dk W k*Dk W (k+1)):=bD.mul bD1;refine bK (its:=lz (k+2) λi=>V.int (Aa (qk W k) i)) (λi zs H'=>aB (vw K H5) (vw K H')/\zs=lz i λi=>V.int (Dk W k*Dk W (k+1)*Aa (qk W k) i)) (λi zs H' _ _ q=>bZ (q.1 _ _ h5)) h6 ⟨S6,rfl⟩ (λi x zs H8 hi hx h8 q=>?_) (λzs H8 h8 q=>hN5 _ _ ?_)
   .obtain⟨S8,rfl⟩:=q;rw[bH] at hi;rw[dF hi] at hx;cases hx;symm
    refine⟨cr bD bD1 ∅,cr bDD (bs i) ∅,.mk h8 ?_ λH10 B10 h10=>⟨λb o e=>B10 _ _ (aj e ht) (S8 _ _ e),lA.symm⟩⟩;rw[bH];exact Xv (show i<=20 by nofun) ∅
   obtain⟨S8,rfl⟩:=q;rw[bH] at h8;have S35:=S4.trans S5;have S38:=S35.trans S8;have ht3:=S35.free ht;refine aM.gen λN6 hN6=>?_;symm
   simp only[ny];symm
   refine⟨⟨_,S38 _ _ (S03 _ _ hb)⟩,y8 (p:=qk W k) (c:=nY W k) (m:=k+1) (N:=k+2) (f:=λi=>Dk W k*Dk W (k+1)*Aa (qk W k) i) (hb.same S03) ht3 S38 h8 () (λi H' Qk hi z=>?_) (λo8 o9 H9 S9 h9=>hN6 _ _ ?_)⟩
   .symm
    exact⟨cr bM (bq i) ∅,z⟩
   refine aM.gen λN7 hN7=>?_;symm
   simp only[ny];symm
   have bb:∀i,Bt 1046 (mJ W k i):=λi=>by
    cases k with
    | zero=>show Bt 1046 0;decide
    | succ m=>exact (lS bW ()).mono ∅
   refine⟨⟨_,S9 _ _ (S03 _ _ hc)⟩,y8 (p:=mJ W k) (c:=Dk W (k+1)*Dk W (k+1)) (m:=u9 k) (N:=k+2) (hc.same S03) ht3 S9 h9 (by cases k<;>simp[u9]) (λi H' Qk hi z=>?_) (λo8 o9 Ha Sa ha'=>hN7 _ _ ?_)⟩
   .symm
    exact⟨cr bD1 bD1 ∅,cr (bD1.mul bD1) (bb i) ∅,z⟩
   have hne:∀i,i<=k+1->Dk W i≠0:=λi hi=>by have:=hD i hi;nofun
   have fin:∀j,j<k+2->(Dk W k*Dk W (k+1)*Aa (qk W k) j-if j<k+1 then nY W k*qk W k j else 0)-(if j<u9 k then Dk W (k+1)*Dk W (k+1)*mJ W k j else 0)=Dk W k*Dk W k*qk W (k+1) j:=λj hj=>by
    rw[<-CO hne j];have e1:(if j<k+1 then nY W k*qk W k j else 0)=nY W k*qk W k j:=by
     by_cases z:j<k+1
     .rw[Yb z]
     .rw[Yc z,du (),Xo]
    have e2:(if j<u9 k then Dk W (k+1)*Dk W (k+1)*mJ W k j else 0)=Dk W (k+1)*Dk W (k+1)*mJ W k j:=by
     by_cases z:j<u9 k
     .rw[Yb z]
     .rw[Yc z];cases k with
      | zero=>show _=_*(0:Int);rw[Xo]
      | succ m =>
       show _=_*qk W m j;rw[du (by simp only[u9] at z;nofun),Xo]
    rw[e1,e2]
   have h11:IL (vw K Ha) t (k+2) (λj=>Dk W k*Dk W k*qk W (k+1) j):=by
    unfold IL at ha' ⊢;rw[ha'];congr 2
    exact iY λj hj=>Yn V.int (fin j hj)
   symm
   refine⟨⟨_,.of (aQ h11)⟩,λd Hb hd Sb hb2=>?_⟩;have hD0:Dk W k≠0:=hne k ();have KL:∀i,Bt 1046 (qk W (k+1) i):=λi=>(AT bW ()).mono ∅;refine bK (its:=lz (k+2) λj=>V.int (Dk W k*Dk W k*qk W (k+1) j)) (λi zs H'=>aB (vw K Ha) (vw K H')/\zs=lz i λi=>V.int (qk W (k+1) i)) (λi zs H' _ _ q=>bZ (q.1 _ _ h11)) hb2 ⟨Sb,rfl⟩ (λi x zs Hc hi hx hc' q=>?_) (λzs Hc hc' q=>?_)
   .obtain⟨Sc,rfl⟩:=q;rw[bH] at hi;rw[dF hi] at hx;cases hx;symm
    have hDD:Dk W k*Dk W k≠0:=Xc hD0 hD0;refine⟨cr bD bD ∅,Ic hDD ((bD.mul bD).mono ∅),?_⟩;rw[Y8 (Dk W k*Dk W k) (qk W (k+1) i),Int.mul_fdiv_cancel _ hDD];refine .mk hc' ?_ λH10 B10 h10=>⟨λb o e=>B10 _ _ (aj e hd) (Sc _ _ e),lA.symm⟩;rw[bH];exact Xv (show i<=20 by nofun) ∅
   .obtain⟨Sc,rfl⟩:=q;rw[bH] at hc';exact h d Hc (S03.trans (Sa.trans Sc)) ((S03.trans Sa).free hd) hc'
  symm
  cases k with
  | zero=>exact dA ∅ go
  | succ m =>
   refine iC () ⟨_,S03 _ _ hb,_,CV,?_⟩;rw[gO];exact⟨cr bD1 (bq m) ∅,_,_,rfl,rfl,go⟩
def pZ(G:Hp)(R:Addr)(W:Nat->Int)(n:Nat):Prop:=∃as:List Addr,G R=some (.lst (as.map V.ref))/\as.length=n /\ ∀i x,as[i]? = some x->IL G x (i+1) (qk W i)
theorem pZ.same{G G':Hp}{R:Addr}{W:Nat->Int}{n:Nat}(h:pZ G R W n)(S:aB G G'):pZ G' R W n:=by
 obtain⟨as,h1,h2,h3⟩:=h;exact⟨as,S _ _ h1,h2,λi x e=>(h3 i x e).same S⟩
theorem FN{G:Hp}{R x:Addr}{as:List Addr}{n:Nat}{p:Nat->Int}(h:G R=some (.lst (as.map V.ref)))(h0:as≠[])(hx:IL G x n p):x≠R:=λe=>by
 unfold IL at hx;rw[e,h] at hx;cases as with
 | nil=>exact h0 rfl
 | cons a as =>
  cases n with
  | zero=>cases hx
  | succ n =>
   rw[oA] at hx;cases hx
theorem iT{α:Type}{xs:List α}{n:Nat}{x:α}(hl:xs.length=n+1)(h:xs[n]? = some x):nK xs (-1)=some x:=dX (by rw[YZ,hl];exact h)
theorem JH{W:Nat->Int}:qk W 0 0=1:=by rw[fi,zt]
inductive gx (K:W.Frag)(vs:List V)(H:Hp)(Q:VK)(E:XK):Prop
 | mk (a:Addr)(n:Nat)(W:Nat->Int):vs=[.ref a]->IL (vw K H) a n W->n<=12->(∀i,Bt 170 (W i))->(∀R H' k,aB (vw K H) (vw K H')->pZ (vw K H') R W (k+1)->k<=6->(∀i,i<=k->0<Dk W i/\2*i<=n)->(n<2*(k+1)\/Dk W (k+1)<=0)->Q (.ref R) H')->gx K vs H Q E
theorem tG(F:dO K "step_rows" "step_rows" jO f fd) (T:eA K mg)(C_met:cn P w K mg base "met" ["wholes", "row", "k"] 1 (pe K)) (C_next_row:cn P w K mg base "next_row" ["wholes", "row", "before"] 2 (jH K)):bU P w K mg base dP 3 f fd ["wholes"] (gx K):=by
 have scN:=lT.nd;refine F.okQ lT ?_ ?_;walk_at "q"
 .obtain⟨_,_,_,rfl,_⟩:=h;rfl
 .obtain⟨a,n,W,rfl,ha,hn,bW,h⟩:=h;refine⟨_,(af (aC (i:=1) scN rfl (·) (aT (aa (aT (aa ae ac)) ac)))
   (af (aC (i:=2) scN rfl (·) (aT ac))
   (af (fZ PassesOwn.never (QW.pt (m4 (aH yW (ar aP ae (ai aq (by rfl) T.b_len aF (aa (qv 1) ac))) (ai aq (by rfl) T.b_len aF (aa (qv 0) ac)) (aG _)) (km (aH io (ah C_met nofun rfl (aa (qv 0) (aa (aw cI (qv 1) (cX cy ae) (λ_ _=>rfl)) (aa (ar cj (ai aq (by rfl) T.b_len aF (aa (qv 1) ac)) ae) ac)))) ae (aG _))))) (af (aC (i:=3) scN rfl (·) (ah C_next_row nofun rfl (aa (qv 0) (aa (aw cI (qv 1) (cX cy ae) (λ_ _=>rfl)) (aa (qv 2) ac)))))
   (af (aC (i:=2) scN rfl (·) (aw cI (qv 1) (cX cy ae) (λ_ _=>rfl)))
   (ag (gH (nr XN XS XT ee (qv 1) (aa (qv 3) ac)))))))
   (ag (av (qv 1)))))),?_⟩
  walk_at"m";have bW':∀i,Bt 2000 (W i):=λi=>(bW i).mono ∅;refine aM.gen λN1 hN1=>?_;symm
  refine⟨∅,λr0 H1 hr0 S1 h1=>⟨∅,λR H2 hR S2 h2=>hN1 _ _ ?_⟩⟩;refine aM.gen λN2 hN2=>?_;symm
  refine⟨YK _,λbf H3 hbf S3 h3=>hN2 _ _ ?_⟩;refine aM.gen λN3 hN3=>?_;have S03:=S1.trans (S2.trans S3);have hR0:vw K H R=none:=S1.free hR;refine⟨λm σ H'=>∃(bf:Addr)(k:Nat)(o:Option V),m=20-k/\k<=6/\σ=[some (.ref a),some (.ref R),some (.ref bf),o]/\aB (vw K H) (vw K H')/\pZ (vw K H') R W (k+1)/\IL (vw K H') bf (u9 k) (mJ W k) /\ ∀i,i<=k->0<Dk W i/\2*i<=n,⟨20,bf,0,none,rfl,∅,rfl,S03,⟨[r0],S3 _ _ h2,rfl,λi x e=>?_⟩,h3,λi hi=>?_⟩,?_⟩
  .cases i with
   | zero =>
    cases e;show vw K H3 r0=some (.lst (lz 1 λi=>V.int (qk W 0 i)));rw[(S2.trans S3) _ _ h1,oA,JH];rfl
   | succ i=>simp at e
  .have:i=0:=();rw[this,zt];exact⟨∅,()⟩
  rintro m σ H4 ⟨bf,k,o,rfl,hk,rfl,S4,rw4,b4,hD⟩;obtain⟨as,hR4,las,has⟩:=id rw4;have h0:as≠[]:=λz=>by rw[z] at las;cases las
  obtain⟨x,hx⟩ : ∃x,as[k]? = some x:=⟨as[k],YR ()⟩;have lx:=has k x hx;have hx':nK (as.map V.ref) (-1)=some (.ref x):=iT (n:=k) (by rw[YC,las]) (by rw[Yz,hx];rfl)
  have done:n<2*(k+1)\/Dk W (k+1)<=0 -> ∀H5,aB (vw K H4) (vw K H5)->N3 [some (.ref a),some (.ref R),some (.ref bf),o] H5:=λhd H5 S5=>by
   refine hN3 _ _ ?_;symm
   exact h R H5 k (S4.trans S5) (rw4.same S5) hk hD hd
  have lR:dJ (vw K H4) R=some (k+1):=by
   simp only[dJ,hR4];rw[YC,las]
  symm
  refine⟨k+1,lR,gB ∅,n,(ha.same S4).len,cH (λe1=>⟨_,hR4,_,hx',k+1,lR,?_⟩) (λe1=>done (.inl ()) H4 (λ_ _ z=>z))⟩;rw[show (((k+1:Nat):Int)-1)=(k:Int) by nofun]
  have bq':∀i,Bt 2000 (qk W k i):=λi=>(AT bW ()).mono ∅;refine⟨a,x,n,k+1,k,W,qk W k,rfl,ha.same S4,lx,(),(),bW',bq',λH5 S5=>⟨_,rfl,?_⟩⟩;rw[oI,fb];refine cH (λe2=>⟨_,λσ' H' z=>z,_,S5 _ _ hR4,_,hx',?_⟩) (λe2=>done (.inr ()) H5 S5);have hn2:2*(k+1)<=n:=();have S45:=S4.trans S5;refine⟨a,x,bf,n,k,W,rfl,ha.same S45,lx.same S5,b4.same S5,hn2,(),bW,λi hi=>?_,λd H6 S6 hd l6=>?_⟩
  .by_cases z:i<=k
   .exact (hD i z).1
   .rw[show i=k+1 by nofun]
    exact e2
  have S46:=S5.trans S6;refine⟨_,S46 _ _ hR4,_,hx',iJ (S46 _ _ hR4),_,S46 _ _ hR4,?_,λH7 B7 h7=>⟨20-(k+1),(),x,k+1,rfl,(),⟨_,rfl⟩,λy o e=>B7 _ _ (aj e hR0) (S46 _ _ (S4 _ _ e)),⟨as++[d],?_,by rw[YB,las];rfl,λi y e=>?_⟩,?_,λi hi=>?_⟩⟩
  .rw[YC,las];exact Xv (show _<=20 by nofun) ∅
  .rw[h7,XI];rfl
  .have l7:IL (vw K H6) y (i+1) (qk W i):=by
    by_cases z:i<as.length
    .rw[Yy z] at e;exact (has i y e).same S46
    .rw[Yw ()] at e;have:i=k+1:=by
      have h1:=(List.getElem?_eq_some_iff.mp e).1;simp at h1;nofun
     rw[this,las,XF] at e;cases e;rw[this];exact l6
   exact B7 _ _ (FN (S46 _ _ hR4) h0 l7) l7
  .exact B7 _ _ (FN (S46 _ _ hR4) h0 (lx.same S46)) (lx.same S46)
  .by_cases z:i<=k
   .exact hD i z
   .rw[show i=k+1 by nofun]
    exact⟨e2,()⟩
structure dL (W:Nat->Int)(B:Int)(k:Nat)(c:List (Int×Int)×(Int×Int)):Prop where
 po:aL c.1
 num:∀j,cf c.1 j=((qk W k j:Int):Rat)/((Dk W k:Int):Rat)
 fq:Fq c.2
 sqv:wv c.2=((Dk W (k+1):Int):Rat)/((Dk W k*B:Int):Rat)
def fJ(G:Hp)(t:Addr)(pss:List (List (Int×Int)×(Int×Int)))(Pr:Addr->Prop):Prop:=∃xs,G t=some (.lst xs)/\xs.length=pss.length /\ ∀(k:Nat) c,pss[k]? = some c->X3 λ(x l:Addr)(v:V)=>xs[k]? = some (.ref x)/\G x=some (.tup [.ref l,v])/\aK G l c.1/\aI G (fr c.2) v/\Pr l
structure kv (qs:List (Int×Int))(W:Nat->Int)(B:Int):Prop where
 pos:0<B
 val:∀i,((W i:Int):Rat)=cf qs i*(B:Rat)
 least:∀E:Int,(∀q∈qs,q.2∣E)->B∣E
 bt:∀i,Bt 170 (W i)
theorem kv.dvd{qs:List (Int×Int)}{W:Nat->Int}{B:Int}(h:kv qs W B)(hF:∀q∈qs,Fq q):∀q∈qs,q.2∣B:=λq hq=>by
 obtain⟨i,hi,rfl⟩:=List.getElem_of_mem hq;have e:=h.val i;rw[aA (YR hi)] at e;have c1:(B:Rat)≠0:=ao (by have:=h.pos;nofun)
 exact jM (n:=W i) (hF _ hq) (by have:=h.pos;nofun) (by rw[e];grind)
theorem kv.uniq{qs:List (Int×Int)}{W W':Nat->Int}{B B':Int}(h:kv qs W B)(h':kv qs W' B')(hF:∀q∈qs,Fq q):B=B'/\W=W':=by
 have e:B=B':=Int.dvd_antisymm (YU h.pos) (YU h'.pos) (h.least _ (h'.dvd hF)) (h'.least _ (h.dvd hF));refine⟨e,funext λi=>?_⟩;have:=h.val i;rw[e,<-h'.val i] at this;exact Rat.intCast_inj.mp this
theorem fJ.same{G G':Hp}{t:Addr}{pss:List (List (Int×Int)×(Int×Int))}{Pr:Addr->Prop}(h:fJ G t pss Pr)(S:aB G G'):fJ G' t pss Pr:=by
 obtain⟨xs,h1,h2,h3⟩:=h;refine⟨xs,S _ _ h1,h2,λk c e=>?_⟩;obtain⟨x,l,v,e1,e2,e3,e4,e5⟩:=h3 k c e;exact⟨x,l,v,e1,S _ _ e2,e3.same S,aI.same S _ _ e4,e5⟩
structure og (W:Nat->Int)(n M:Nat):Prop where
 one:1<=M
 up:∀i,i<M->0<Dk W i
 most:2*M<=n+1
 all:n<=2*M\/Dk W M<=0
theorem og.uniq{W:Nat->Int}{n M M':Nat}(h:og W n M)(h':og W n M'):M=M':=by
 rcases Nat.lt_trichotomy M M' with z|z|z
 .have:=h'.up M z;have:=h'.most;rcases h.all with y|y<;>nofun
 .exact z
 .have:=h.up M' z;have:=h.most;rcases h'.all with y|y<;>nofun
inductive qy (K:W.Frag)(vs:List V)(H:Hp)(Q:VK)(E:XK):Prop
 | mk (a:Addr)(qs:List (Int×Int)):vs=[.ref a]->aK (vw K H) a qs->1<=qs.length->qs.length<=11->(∀q∈qs,hZ q)->(∀(t:Addr) H' W B pss,aB (vw K H) (vw K H')->vw K H t=none->kv qs W B->og W qs.length pss.length->fJ (vw K H') t pss (λl=>vw K H l=none/\l≠t)->(∀k c,pss[k]? = some c->dL W B k c)->Q (.ref t) H')->qy K vs H Q E
theorem BM(F:dO K "steps" "steps" sy f fd) (T:eA K mg)(C_cleared:cn P w K mg base "cleared" ["f"] 2 (bN K)) (C_step_rows:cn P w K mg base "step_rows" ["wholes"] 3 (gx K)) (C_divided:cn P w K mg base "divided" ["wholes", "bottom"] 3 (dq K)) (C_ratio:cn P w K mg base "ratio" ["top", "bottom"] 2 (eK K)) (C_met:cn P w K mg base "met" ["wholes", "row", "k"] 1 (pe K)):bU P w K mg base dP 4 f fd ["sums"] (qy K):=by
 have scN:=uZ.nd;refine F.okQ uZ ?_ ?_;walk_at "q"
 .obtain⟨_,_,rfl,_⟩:=h;rfl
 .obtain⟨a,qs,rfl,ha,n1,n2,hq,h⟩:=h;refine⟨_,(af (cQ (ah C_cleared nofun rfl (aa (qv 0) ac)) (aY (n:=2) rfl (au (am (i:=1) scN rfl (·)) (au (am (i:=2) scN rfl (·)) aZ))))
   (af (aC (i:=3) scN rfl (·) (aT ac))
   (af (cK PassesOwn.never rfl (ki rfl T.b_enumerate (aa (ah C_step_rows nofun rfl (aa (qv 1) ac)) ac)) (aY (n:=2) rfl (au (am (i:=4) scN rfl (·)) (au (am (i:=5) scN rfl (·)) aZ))) (ag (bY (aH ky (ar aP ae (qv 4)) (ai aq (by rfl) T.b_len aF (aa (qv 0) ac)) (aG _)) (ag (gH (nr XN XS XT ee (qv 3) (aa (aR (aa (ah C_divided nofun rfl (aa (qv 5) (aa (aw cI (qv 5) (cX cy ae) (λ_ _=>rfl)) ac))) (aa (ah C_ratio nofun rfl (aa (ah C_met nofun rfl (aa (qv 1) (aa (qv 5) (aa (qv 4) ac)))) (aa (ar aP (aw cI (qv 5) (cX cy ae) (λ_ _=>rfl)) (qv 2)) ac))) ac))) ac)))) aN)))
   (ag (av (qv 3)))))),?_⟩
  walk_at"m";have hF:∀q∈qs,Fq q:=λq z=>(hq q z).1;refine aM.gen λN1 hN1=>?_;symm
  simp only[bN];refine⟨a,qs,131,rfl,ha,(),∅,λq z=>⟨(hq q z).1,(hq q z).2.1⟩,λp b H1 B ns S1 h1 hb nb hB _ ln hn hm=>⟨p,rfl,_,h1,rfl,_,_,rfl,_,_,rfl,rfl,hN1 _ _ ?_⟩⟩;have hc2:=fk (iB hq) hF hB hm ln λi n q e1 e2=>(hn i n q e1 e2).1;have clr:kv qs (nz ns) B:=⟨hB,dQ ln λi n q e1 e2=>(hn i n q e1 e2).1,hm,fX hc2.2⟩;have lb:IL (vw K H1) b qs.length (nz ns):=by
   unfold IL;rw[hb];congr 2
   exact pJ (by rw[YC,ln]) λi hi=>by
    have hi':i<ns.length:=();rw[Yz,YR hi',cw (YR hi')];rfl
  refine aM.gen λN2 hN2=>?_;symm
  refine⟨YK _,λt H2 ht S2 h2=>hN2 _ _ ?_⟩;refine aM.gen λN3 hN3=>?_;symm
  simp only[ny];symm
  refine⟨b,qs.length,nz ns,rfl,lb.same S2,(),clr.bt,λR H3 k S3 rw3 hk hD hend=>?_⟩;symm
  obtain⟨as,hR,las,has⟩:=id rw3;obtain⟨W,hW⟩ : ∃W,W=nz ns:=⟨_,rfl⟩;rw[<-hW] at clr lb hD hend has;have h23:=S3 _ _ h2;have S03:=S1.trans (S2.trans S3);have ht0:vw K H t=none:=S1.free ht;have nR:R≠t:=λz=>by
   rw[z,h23] at hR;cases as with
   | nil=>cases las
   | cons x as=>cases hR
  have nx:∀i x,as[i]? = some x->x≠t:=λi x e z=>by
   have:=has i x e;unfold IL at this;rw[z,h23,oA] at this;cases this
  have bD:∀i,i<=6->Bt 1046 (Dk W i):=λi hi=>(lE clr.bt hi).mono ∅;have bB:Bt 170 B:=hc2.1;obtain⟨Pv,hPv⟩ : ∃Pv:Nat->St->Hp->Prop,∀i σ H',Pv i σ H'↔X3 λ(o4 o5:Option V)(pss:List (List (Int×Int)×(Int×Int)))=>σ=[some (.ref a),some (.ref b),some (.int B),some (.ref t),o4,o5]/\fV t (vw K H3) (vw K H')/\fJ (vw K H') t pss (λl=>vw K H l=none/\l≠t)/\pss.length=min i ((qs.length+1)/2) /\ ∀k c,pss[k]? = some c->dL W B k c:=⟨_,λ_ _ _=>XH⟩;refine⟨⟨_,hR⟩,j0 (rows:=(as.map V.ref).mapIdx λi x=>[V.int i,x]) Pv (λi σ H' _ q=>?_) ((hPv _ _ _).mpr ⟨_,_,[],rfl,λ_ _ _ z=>z,⟨[],h23,rfl,λk c e=>by simp at e⟩,by simp,λk c e=>by simp at e⟩) (λi r σ H4 q H5 hi hr pv hq S5 h5=>?_) (λσ H4 pv=>?_)⟩
  .obtain⟨_,_,_,_,B',_⟩:=(hPv _ _ _).mp q;exact⟨_,aQ (B' _ _ nR hR),rfl⟩
  .obtain⟨o4,o5,pss,rfl,B4,st4,lp,ok4⟩:=(hPv _ _ _).mp pv;rw[Y4,YC,las] at hi;have hia:i<as.length:=();rw[Y3,Yz,YR hia] at hr;cases hr;obtain⟨x,hx⟩ : ∃x,as[i]? = some x:=⟨_,YR hia⟩;have ex:as[i]=x:=by
    rw[YR hia] at hx;exact Ym hx
   have B5:fV t (vw K H3) (vw K H5):=B4.same_trans S5;have lx:IL (vw K H5) x (i+1) (qk W i):=B5 _ _ (nx i x hx) (has i x hx);have S05:aB (vw K H) (vw K H5):=λy o e=>B5 _ _ (aj e ht0) (S03 _ _ e);have lb5:IL (vw K H5) b qs.length W:=B5 _ _ (aj lb ht) ((S2.trans S3) _ _ lb);have st5:=st4.same S5;symm
   refine⟨_,h5,rfl,_,_,rfl,_,_,rfl,rfl,?_⟩;rw[gO,ex];refine⟨gB ∅,_,(ha.same S05).len,_,rfl,cH (λe1=>?_) (λe1=>?_)⟩
   .obtain⟨xs,hxs,lxs,hxs'⟩:=id st5;have lpi:pss.length=i:=();have hDi:=hD i ();have dn:Dk W i≠0:=();have dB:Dk W i*B≠0:=Xc dn ();have eN:lz (i+1) (λj=>V.int (qk W i j))=(lz (i+1) λj=>qk W i j).map V.int:=by rw[tE]
    refine⟨iJ hxs,x,rfl,_,lx,_,oo,?_⟩;rw[fi];refine⟨x,lz (i+1) λj=>qk W i j,Dk W i,rfl,by rw[<-eN];exact lx,by rw[bH];nofun,dn,(bD i ()).mono ∅,λc H6 rs S6 lc nc po cf6 _ _=>?_⟩
    have bq':∀j,Bt 2000 (qk W i j):=λj=>(lS clr.bt ()).mono ∅;refine⟨b,x,qs.length,i+1,i,W,qk W i,rfl,lb5.same S6,lx.same S6,(),(),λj=>(clr.bt j).mono ∅,bq',λH7 S7=>⟨x,rfl,_,(S6.trans S7) _ _ lx,_,oo,?_⟩⟩;rw[oI,fb,fi,gO];refine⟨cr (bD i ()) bB ∅,Dk W (i+1),Dk W i*B,rfl,dB,((bD i ()).mul bB).mono ∅,λv H8 S8 r8=>⟨∅,λy H9 hy S9 h9=>?_⟩⟩;have S59:=S6.trans (S7.trans (S8.trans S9));refine⟨xs,S59 _ _ hxs,?_,λHa Ba ha2=>?_⟩
    .rw[lxs,lpi];exact Xv (show i<=20 by nofun) ∅
    have nct:c≠t:=λz=>by
     rw[z,hxs] at nc;cases nc
    have hxs9:=S59 _ _ hxs;refine (hPv _ _ _).mpr ⟨_,_,pss++[(rs,lo (Dk W (i+1)) (Dk W i*B))],rfl,(B5.same_trans S59).trans Ba,⟨_,ha2,by rw[YB,YB,lxs];rfl,λm d e=>?_⟩,by rw[YB,lpi];simp;nofun,λm d e=>?_⟩
    .by_cases z:m<pss.length
     .rw[Yy z] at e;obtain⟨x',l,v',e1',e2',e3',e4',e5'⟩:=hxs' m d e;have e2s:=S59 _ _ e2';refine⟨x',l,v',by rw[Yy ()];exact e1',Ba _ _ (λz=>by rw[z,hxs9] at e2s;cases e2s) e2s,(e3'.same S59).but hxs9 e5'.2 Ba,aI.flat_but hxs9 Ba _ _ (bA _) (aI.same S59 _ _ e4'),e5'⟩
     .rw[Yw ()] at e;have hm0:m-pss.length=0:=by
       have:=(List.getElem?_eq_some_iff.mp e).1;simp at this;nofun
      rw[hm0] at e;cases e;refine⟨y,c,v,by rw[Yw (),lxs,hm0];rfl,Ba _ _ (λz=>by rw[z,hxs9] at h9;cases h9) h9,(lc.same (S7.trans (S8.trans S9))).but hxs9 nct Ba,aI.flat_but hxs9 Ba _ _ (bA _) (aI.same S9 _ _ r8),S05.free nc,nct⟩
    .by_cases z:m<pss.length
     .rw[Yy z] at e;exact ok4 m d e
     .rw[Yw ()] at e;have hm0:m-pss.length=0:=by
       have:=(List.getElem?_eq_some_iff.mp e).1;simp at this;nofun
      rw[hm0] at e;cases e;rw[show m=i by nofun]
      refine⟨po,λj=>?_,ie dB,ig dB⟩;rw[cf6 j];congr 2
      by_cases z2:j<i+1
      .rw[cw (dF z2)]
      .rw[bC (by rw[bH];nofun),du ()]
   .exact (hPv _ _ _).mpr ⟨_,_,pss,rfl,B5,st5,(),ok4⟩
  .obtain⟨o4,o5,pss,rfl,B4,st4,lp,ok4⟩:=(hPv _ _ _).mp pv;rw[Y4,YC,las] at lp;refine hN3 _ _ ?_;symm
   refine h t H4 W B pss (λy o e=>B4 _ _ (aj e ht0) (S03 _ _ e)) ht0 clr ⟨(),λi hi=>(hD i ()).1,(),?_⟩ st4 ok4;by_cases z:(qs.length+1)/2<=k+1
   .exact .inl ()
   .rcases hend with y|y
    .exact .inl ()
    .right
     rw[show pss.length=k+1 by nofun]
     exact y
inductive me (K:W.Frag)(vs:List V)(H:Hp)(Q:VK)(E:XK):Prop
 | mk (a b:Addr)(qs fs:List (Int×Int)):vs=[.ref a,.ref b]->aK (vw K H) a qs->aK (vw K H) b fs->fs.length<=qs.length->qs.length<=12->fs.length<=12->(∀q∈qs,Fq q/\Bq 131 q)->(∀q∈fs,Fq q/\Bq 290000 q)->(∀v H' r,aB (vw K H) (vw K H')->aI (vw K H') (fr r) v->Fq r->wv r=ak (cf fs) (cf qs) fs.length->Q v H')->me K vs H Q E
theorem BL(F:dO K "worth" "worth" rW f fd) (T:eA K mg)(C_cleared:cn P w K mg base "cleared" ["f"] 2 (bN K)) (C_ratio:cn P w K mg base "ratio" ["top", "bottom"] 2 (eK K)):bU P w K mg base dP 3 f fd ["sums", "f"] (me K):=by
 have scN:=vE.nd;refine F.okQ vE ?_ ?_;walk_at "q"
 .obtain⟨a,_,_,_,rfl,_⟩:=h;rfl
 .obtain⟨a,b,qs,fs,rfl,ha,hb,lf,lq,lf6,hq,hf,h⟩:=h;refine⟨_,(af (bY (aH io (ai aq (by rfl) T.b_len aF (aa (qv 1) ac)) (ai aq (by rfl) T.b_len aF (aa (qv 0) ac)) (aG _)) (ag uX) aN)
   (af (cQ (ah C_cleared nofun rfl (aa (qv 1) ac)) (aY (n:=2) rfl (au (am (i:=2) scN rfl (·)) (au (am (i:=3) scN rfl (·)) aZ))))
   (af (cQ (ah C_cleared nofun rfl (aa (dc fH (qv 0) dW (dS (ai aq (by rfl) T.b_len aF (aa (qv 1) ac)))) ac)) (aY (n:=2) rfl (au (am (i:=4) scN rfl (·)) (au (am (i:=5) scN rfl (·)) aZ))))
   (ag (av (ah C_ratio nofun rfl (aa (ai (rh rfl) (by rfl) T.b_sum Cp (aa (cO (own:=["number", "whole"]) (outs:=[]) (ixs:=[]) rfl (uh rfl T.b_zip (aa (qv 2) (aa (qv 4) ac))) rfl ⟨rfl,rfl,rfl,trivial,rfl,trivial⟩ (λ_ _ _ _=>⟨(show QG _ _ (iZ K 2 _) from aY (n:=2) rfl (au (am (i:=0) (show (["number", "whole"]:List Str).Nodup by decide +kernel) rfl (·)) (au (am (i:=1) (show (["number", "whole"]:List Str).Nodup by decide +kernel) rfl (·)) aZ))),cV,(ar (show el _ _ (gk K) from aP) (qv 0) (qv 1))⟩)) ac)) (aa (ar aP (qv 3) (qv 5)) ac)))))))),?_⟩
  walk_at"m";refine aM.gen λN1 hN1=>?_;symm
  refine⟨_,hb.len,_,ha.len,dA () (hN1 _ _ ?_)⟩;refine aM.gen λN2 hN2=>?_;symm
  simp only[bN];refine⟨b,fs,290000,rfl,hb,(),∅,hf,λp1 a1 H1 D1 ms S1 h1 ha1 _ hD1 bD1 lm hm _=>⟨_,rfl,_,h1,rfl,_,_,rfl,_,_,rfl,rfl,hN2 _ _ ?_⟩⟩;refine aM.gen λN3 hN3=>?_;symm
  obtain⟨xs,hxs,rxs⟩:=id (ha.same S1);have hlx:xs.length=qs.length:=by rw[rxs.length,YC]
  refine⟨_,(hb.same S1).len,xs,hxs,λp2 H2 hp2 S2 h2=>?_⟩;rw[uq ()] at h2;have lt:aK (vw K H2) p2 (qs.take fs.length):=⟨_,h2,by rw[List.map_take];exact (rxs.take _).same S2⟩
  simp only[bN];have lt':(qs.take fs.length).length=fs.length:=by rw[Yu];nofun
  refine⟨p2,_,131,rfl,lt,(),∅,λq z=>hq q (Xp z),λp3 a3 H3 D2 ns S3 h3 ha3 _ hD2 bD2 ln hn _=>⟨_,rfl,_,h3,rfl,_,_,rfl,_,_,rfl,rfl,hN3 _ _ ?_⟩⟩;rw[lt'] at bD2 ln hn;have ha13:=(S2.trans S3) _ _ ha1;symm
  simp only[xu];symm
  refine⟨true,⟨_,ha13⟩,true,⟨_,ha3⟩,λc H4 hc4 S4 h4=>?_⟩;have ez:List.zipWith (· * ·) ms ns=lz fs.length λi=>nz ms i*nz ns i:=by
   refine Xl λi=>?_;by_cases hi:i<fs.length
   .have h1:i<ms.length:=();have h2:i<ns.length:=();rw[dF hi,List.getElem?_zipWith,YR h1,YR h2,cw (YR h1),cw (YR h2)]
   .rw[Xj (by rw[List.length_zipWith];nofun),Xj (by rw[bH];nofun)]
  refine kd (ps:=(ms.map V.int).zip (ns.map V.int)) (λi zs H'=>aB (vw K H3) (vw K H')/\zs=((List.zipWith (· * ·) ms ns).take i).map V.int) (λi zs H' _ _ p=>⟨_,_,p.1 _ _ ha13,p.1 _ _ ha3,lC.symm⟩) h4 ⟨S4,rfl⟩ (λi u v zs H8 H9 hi huv h9 p S89=>?_) (λzs H8 h8 p=>?_)
  .obtain⟨S8,rfl⟩:=p;rw[List.getElem?_zip_eq_some,Yz,Yz] at huv;have li:i<ms.length/\i<ns.length:=by
    simp at hi;nofun
   rw[YR li.1,YR li.2] at huv;obtain⟨e1,e2⟩:=huv;cases e1;cases e2;have w1:=(hm i _ _ (YR li.1) (YR (show i<fs.length by nofun))).2
   have w2:=(hn i _ _ (YR li.2) (YR (show i<(qs.take fs.length).length by nofun))).2
   symm
   refine⟨cr w1 w2 (),.mk2 h9 ?_ λH10 B10 h10=>⟨λb o e=>B10 _ _ (aj e hc4) (S89 _ _ (S8 _ _ e)),?_⟩⟩
   .rw[YC,Yu];have:1000<=sizeLine:=∅;nofun
   .rw[Xf,List.getElem?_zipWith,YR li.1,YR li.2,XI];rfl
  .obtain⟨S8,rfl⟩:=p;have lz1:(List.zipWith (· * ·) ms ns).length=fs.length:=by
    rw[List.length_zipWith,lm,ln];nofun
   have lz2:((ms.map V.int).zip (ns.map V.int)).length=fs.length:=by
    rw[List.length_zip,YC,YC,lm,ln];nofun
   rw[lz2,<-lz1,Xg] at h8;have hD:D1*D2≠0:=by have:=Y6 hD1 hD2;nofun
   refine⟨_,h8,?_⟩;symm
   simp only[eK];symm
   refine⟨cr bD1 bD2 (),hD,(bD1.mul bD2).mono (),λv H9 S9 r9=>h v H9 _ (S1.trans (S2.trans (S3.trans (S8.trans S9)))) r9 (ie hD) ?_⟩;rw[ig hD,ez,C7 (F:=cf fs) (G:=cf (qs.take fs.length)) (c:=(D1:Rat)) (d:=(D2:Rat)) (dQ lm λi n q e1 e2=>(hm i n q e1 e2).1) (dQ () λi n q e1 e2=>(hn i n q e1 e2).1),Xe];have n1:(D1:Rat)≠0:=ao ();have n2:(D2:Rat)≠0:=ao ();rw[aD fs.length (λi _=>rfl) λi hi=>AY hi];grind
theorem dL.one{W:Nat->Int}{B:Int}{k:Nat}{c:List (Int×Int)×(Int×Int)}(h:dL W B k c)(hD:Dk W k≠0):cf c.1 k=1:=by
 have cD:((Dk W k:Int):Rat)≠0:=ao hD;rw[h.num,fi];grind
theorem dL.out{W:Nat->Int}{B:Int}{k:Nat}{c:List (Int×Int)×(Int×Int)}(h:dL W B k c) {j:Nat}(hj:k<j):cf c.1 j=0:=by
 have z:((0:Int):Rat)=0:=rfl;rw[h.num,du hj,z];grind
theorem dL.len{W:Nat->Int}{B:Int}{k:Nat}{c:List (Int×Int)×(Int×Int)}(h:dL W B k c)(hD:Dk W k≠0):c.1.length=k+1:=by
 have h1:=iy h.po (m:=k+1) λj hj=>h.out ();have h2:k<c.1.length:=Nat.lt_of_not_le λz=>by
  have e:=h.one hD;rw[aE z] at e;exact absurd e ∅
 nofun
theorem dL.pb{W:Nat->Int}{B:Int}{k:Nat}{c:List (Int×Int)×(Int×Int)}(h:dL W B k c)(hD:Dk W k≠0)(hk:k<=5)(bW:∀i,Bt 170 (W i)):Pb 1100 (cf c.1) :=
 ⟨Dk W k,hD,(lE bW ()).mono ∅,λj=>⟨qk W k j,h.num j,(lS bW hk).mono ∅⟩⟩
theorem AJ(i m:Nat):cf (List.replicate i (0,1)++[(1,1)]) m=if m=i then 1 else 0:=by
 rw[uW];by_cases h:m<i
 .rw[Yb h,Yc ()]
 .rw[Yc h];by_cases e:m=i
  .rw[Yb e,e,XF];exact FG
  .rw[Yc e,aE (by simp;nofun)]
theorem HH(i:Nat):Pb 1100 (cf (List.replicate i (0,1)++[(1,1)])):=by
 refine⟨1,∅,∅,λm=>?_⟩;rw[AJ];by_cases e:m=i
 .rw[Yb e];exact⟨1,by have z:((1:Int):Rat)=1:=rfl;rw[z];grind,∅⟩
 .rw[Yc e];exact⟨0,by have z:((0:Int):Rat)=0:=rfl;rw[z];grind,∅⟩
theorem Do(i:Nat):∀q∈List.replicate i ((0:Int),(1:Int))++[(1,1)],Fq q:=λq hq=>by
 rcases List.mem_append.mp hq with z|z
 .rw[(List.mem_replicate.mp z).2];exact nG
 .cases List.mem_singleton.mp z;exact⟨∅,∅⟩
theorem xg{ps:List (Int×Int)}(h:aL ps):(D.lst (ps.map fr)).poly=true:=tz h.1 h.2
inductive fP (K:W.Frag)(vs:List V)(H:Hp)(Q:VK)(E:XK):Prop
 | mk (a:Addr)(qs:List (Int×Int)):vs=[.ref a]->aK (vw K H) a qs->1<=qs.length->qs.length<=12->(∀q∈qs,hZ q)->(∀(d:Addr) H' W B rs k,aB (vw K H) (vw K H')->vw K H d=none->kv qs W B->aK (vw K H') d rs->aL rs->k<=6->(∀i,i<=k->0<Dk W i/\2*i<=qs.length)->(qs.length<2*(k+1)\/Dk W (k+1)<=0)->(∀j,cf rs j=((qk W k j:Int):Rat)/((Dk W k:Int):Rat))->Q (.ref d) H')->fP K vs H Q E
theorem mF(F:dO K "furthest_step" "furthest_step" gn f fd) (T:eA K mg)(C_cleared:cn P w K mg base "cleared" ["f"] 2 (bN K)) (C_step_rows:cn P w K mg base "step_rows" ["wholes"] 3 (gx K)) (C_divided:cn P w K mg base "divided" ["wholes", "bottom"] 3 (dq K)):bU P w K mg base dP 4 f fd ["sums"] (fP K):=by
 have scN:=iK.nd;refine F.okQ iK ?_ ?_;walk_at "q"
 .obtain⟨_,_,rfl,_⟩:=h;rfl
 .obtain⟨a,qs,rfl,ha,l1,l11,sq,h⟩:=h;refine⟨_,(af (aC (i:=1) scN rfl (·) (aw cI (ah C_step_rows nofun rfl (aa (aw bI (ah C_cleared nofun rfl (aa (qv 0) ac)) ae (λ_ _=>rfl)) ac)) (cX cy ae) (λ_ _=>rfl)))
   (ag (av (ah C_divided nofun rfl (aa (qv 1) (aa (aw cI (qv 1) (cX cy ae) (λ_ _=>rfl)) ac)))))),?_⟩
  walk_at"m";skip
  symm
  have hF:∀q∈qs,Fq q:=λq z=>(sq q z).1;simp only[bN];refine⟨a,qs,131,rfl,ha,(),∅,λq z=>⟨(sq q z).1,(sq q z).2.1⟩,λp b H1 B ns S1 h1 hb nb hB _ ln hn hm=>⟨p,rfl,_,h1,_,rfl,?_⟩⟩;have hc2:=fk (iB sq) hF hB hm ln λi n q e1 e2=>(hn i n q e1 e2).1;have clr:kv qs (nz ns) B:=⟨hB,dQ ln λi n q e1 e2=>(hn i n q e1 e2).1,hm,fX hc2.2⟩;have lb:IL (vw K H1) b qs.length (nz ns):=by
   unfold IL;rw[hb];congr 2
   exact pJ (by rw[YC,ln]) λi hi=>by
    have hi':i<ns.length:=();rw[Yz,YR hi',cw (YR hi')];rfl
  refine⟨b,qs.length,nz ns,rfl,lb,l11,clr.bt,λR H3 k S3 rw3 hk hD hend=>?_⟩;obtain⟨as,hR,las,has⟩:=id rw3;obtain⟨W,hW⟩ : ∃W,W=nz ns:=⟨_,rfl⟩;rw[<-hW] at clr lb hD hend has;obtain⟨x,hx⟩ : ∃x,as[k]? = some x:=⟨_,YR ()⟩;have lx:=has k x hx;have xl:(as.map V.ref).getLast? = some (.ref x):=by
   rw[YZ,YC,las,Yz,show k+1-1=k by nofun,hx]
   rfl
  have hDk:=(hD k (Yp _)).1;have dn:Dk W k≠0:=();have eN:lz (k+1) (λj=>V.int (qk W k j))=(lz (k+1) λj=>qk W k j).map V.int:=by rw[tE]
  refine⟨R,rfl,_,hR,_,dX xl,x,rfl,_,lx,_,oo,?_⟩;rw[fi];simp only[dq];refine⟨x,lz (k+1) λj=>qk W k j,Dk W k,rfl,by rw[<-eN];exact lx,by rw[bH];nofun,dn,((lE clr.bt ()).mono (by decide:_<=1046)).mono ∅,λc H6 rs S6 lc nc po cf6 _ _=>?_⟩
  have S06:=S1.trans (S3.trans S6);refine h c H6 W B rs k S06 ((S1.trans S3).none nc) clr lc po hk hD hend (λj=>?_);rw[cf6 j];by_cases hj:j<k+1
  .rw[ni hj]
  .rw[bC (by rw[bH];nofun),du ()]
inductive mO (K:W.Frag)(vs:List V)(H:Hp)(Q:VK)(E:XK):Prop
 | mk (p:Addr)(s:Str)(ys:List V)(b:Bool):vs=[.ref p]->vw K H p=some (.tup (.str s::ys))->(b=false/\(s = "tight" \/ s = "open")\/b=true/\(s = "below" \/ s = "nought"))->(∀H',aB (vw K H) (vw K H')->Q (.bl b) H')->mO K vs H Q E
theorem zI(F:dO K "is_bar" "is_bar" oV f fd) (T:eA K mg):bU P w K mg base dP 1 f fd ["told"] (mO K):=by
 have scN:=qX.nd;refine F.okQ qX ?_ ?_;walk_at "q"
 .obtain⟨_,_,_,_,rfl,_⟩:=h;rfl
 .obtain⟨p,s,ys,b,rfl,hp,hs,h⟩:=h;refine⟨_,(ag (av (cT jr (aw bI (qv 0) ae (λ_ _=>rfl)) (aR (aa gi (aa gi ac))) (by rfl)))),?_⟩
  walk_at"m";skip
  symm
  refine⟨_,hp,_,cW,∅,λt H2 ht S2 h2=>⟨t,_,rfl,.inr (cZ h2),rfl,rfl,?_⟩⟩;have e:(if true=true then !FJ (V.str s) [V.str "tight",V.str "open"] else FJ (V.str s) [V.str "tight",V.str "open"])=b:=by
   rcases hs with ⟨rfl,rfl|rfl⟩|⟨rfl,rfl|rfl⟩<;>decide +kernel
  rw[e];exact h H2 S2
inductive iE (K:W.Frag)(vs:List V)(H:Hp)(Q:VK)(E:XK):Prop
 | mk (a b:Addr)(qs rs:List (Int×Int)):vs=[.ref a,.ref b]->aK (vw K H) a qs->aK (vw K H) b rs->qs.length<=11->(∀q∈qs,hZ q)->rs≠[]->rs.length<=7->rs.length<=qs.length+1->aL rs->Pb 1100 (cf rs)->(2<=rs.length->mo (cf rs) (DF (cf rs)))->(∀(p w:Addr) H' (ws:List (Int×Int)),aB (vw K H) (vw K H')->vw K H' p=some (.tup [.ref b,.ref w])->aK (vw K H') w ws->vw K H w=none->aL ws->ws.length<rs.length->Pb 440000 (cf ws)->Ed rs qs ws->Q (.ref p) H')->iE K vs H Q E
theorem qJ(F:dO K "flock_with" "flock_with" i7 f fd) (T:eA K mg)(C_trimmed:cn P w K mg base "trimmed" ["numbers", "zero"] 1 (fz K)) (C_worth:cn P w K mg base "worth" ["sums", "f"] 3 (me K)) (C_weights_by:cn P w K mg base "weights_by" ["above", "roots"] 5 (iz K)):bU P w K mg base dP 6 f fd ["sums", "roots"] (iE K):=by
 have scN:=kA.nd;refine F.okQ kA ?_ ?_;walk_at "q"
 .obtain⟨_,_,_,_,rfl,_⟩:=h;rfl
 .obtain⟨a,b,qs,rs,rfl,ha,hb,l11,sq,r0,lr,lrq,po,br,ns,h⟩:=h;obtain⟨z_ZERO,hg_ZERO,hv_ZERO⟩:=T.g_ZERO;refine⟨_,(af (aC (i:=2) scN rfl (·) (ah C_trimmed nofun rfl (aa (cO (own:=["k"]) (outs:=["sums", "roots"]) (ixs:=[0,1]) rfl (cz rfl T.b_range (aa (ar cj (ai aq (by rfl) T.b_len aF (aa (qv 1) ac)) ae) ac)) rfl ⟨rfl,rfl,rfl,⟨rfl,⟨rfl,trivial⟩⟩,rfl,⟨⟨rfl,rfl,rfl,_,rfl⟩,⟨⟨rfl,rfl,rfl,_,rfl⟩,trivial⟩⟩⟩ (λ_ _ _ _=>⟨(am (i:=0) (show (["k", "sums", "roots"]:List Str).Nodup by decide +kernel) rfl (·)),cV,(ah C_worth nofun rfl (aa (qv 1) (aa (dc (show yl _ (Fe K) from fH) (qv 2) (dS (ar (show el _ _ (ij K) from bQ) (qv 0) ae)) dW) ac)))⟩)) (aa (gw (v:=V.ref z_ZERO) rfl hg_ZERO rfl) ac))))
   (ag (av (aR (aa (qv 1) (aa (ah C_weights_by nofun rfl (aa (qv 2) (aa (qv 1) ac))) ac)))))),?_⟩
  walk_at"m";skip
  have l0:=List.length_pos_iff.mpr r0;obtain⟨D,d0,bD,oD⟩:=id br;obtain⟨E',e0,bE,oE⟩:=iB sq;have DE0:=Xc d0 e0;refine aM.gen λN1 hN1=>?_;symm
  refine⟨_,hb.len,(),(),λc1 H1 hc1 S1 h1=>?_⟩;rw[show ((rs.length:Int)-1).toNat=rs.length-1 by nofun]
  obtain⟨xs,hxs,rxs⟩:=id hb;have lx:xs.length=rs.length:=by rw[rxs.length,YC]
  refine bK (its:=fj 0 (rs.length-1)) (λi zs H'=>aB (vw K H) (vw K H') /\ ∃us:List (Int×Int),aJ (vw K H') (us.map fr) zs/\us.length=i/\(∀q∈us,Fq q) /\ ∀k q,us[k]? = some q->wv q=ak (cf (rs.drop (k+1))) (cf qs) (rs.drop (k+1)).length) (λ_ _ _ _ _ _=>aV) h1 ⟨S1,[],.mk_nil,rfl,by simp,λk q h=>by simp at h⟩ (λi x zs H2 hi hx h2 p=>?_) (λzs H2 h2 p=>?_)
  .obtain⟨S2,us,rz,lu,hu,vu⟩:=p;obtain⟨hi',rfl⟩:=da hx;rw[XO];symm
   refine⟨xs,S2 _ _ hxs,λp3 H3 hp3 S3 h3=>?_⟩;rw[show ((i:Nat):Int)+1=((i+1:Nat):Int) by nofun,iX ()] at h3
   have S03:=S2.trans S3;have l3:aK (vw K H3) p3 (rs.drop (i+1)):=⟨_,h3,by rw[List.map_drop];exact (rxs.drop _).same S03⟩
   have br':=br.bq po.1;refine⟨a,p3,qs,rs.drop (i+1),rfl,ha.same S03,l3,by rw[YE];nofun,(),by rw[YE];nofun,λq hq=>⟨(sq q hq).1,(sq q hq).2.1⟩,λq hq=>⟨po.1 q (XU hq),(br' q (XU hq)).mono ∅⟩,λv H4 r S4 r4 f4 w4=>.mk ((S3.trans S4) _ _ h2) ?_ λH5 B5 h5=>⟨λb o e=>B5 _ _ (aj e hc1) ((S2.trans (S3.trans S4)) _ _ e),us++[r],?_,by simp[lu],λq hq=>?_,λk q hq=>?_⟩⟩
   .rw[rz.length,YC];have:1000<=sizeLine:=∅;nofun
   .rw[XI];exact (aJ.flat_but ((S3.trans S4) _ _ h2) B5 _ _ (cJ _) (rz.same (S3.trans S4))).snoc (aI.flat_but ((S3.trans S4) _ _ h2) B5 _ _ (bA _) r4)
   .rcases List.mem_append.mp hq with z|z
    .exact hu q z
    .cases List.mem_singleton.mp z;exact f4
   .rcases Xt k us.length with z|z
    .rw[Yy z] at hq;exact vu k q hq
    .have:=(List.getElem?_eq_some_iff.mp hq).1;rw[YB,YJ] at this;obtain rfl:k=i:=();rw[Yw (),lu,XF] at hq;cases hq;exact w4
  .obtain⟨S2,us,rz,lu,hu,vu⟩:=p;rw[cp] at lu;simp only[fz];refine .inl ⟨c1,_,us,rfl,⟨zs,h2,rz⟩,hv_ZERO _,hu,λd3 H3 vs S3 l3 n3 p3 c3 e3 m3=>hN1 _ _ ?_⟩;have S03:=S2.trans S3;symm
   have cu:∀k,k<rs.length-1->cf us k=ak (cf (rs.drop (k+1))) (cf qs) (rs.drop (k+1)).length:=λk hk=>by
    have hk':k<us.length:=();rw[aA (YR hk')];exact vu k _ (YR hk')
   have bu:Pb 1400 (cf us):=by
    refine⟨D*E',DE0,(bD.mul bE).mono ∅,λk=>?_⟩;rcases Xt k (rs.length-1) with z|z
    .have oD':Ob D 1100 (cf (rs.drop (k+1))):=λj=>by
      rw[oG];exact oD (k+1+j)
     obtain⟨n,en,bn⟩:=sC d0 e0 oD' oE (rs.drop (k+1)).length;rw[cu k z];exact⟨n,en,bn.mono (by rw[YE];nofun)⟩
    .refine⟨0,?_,JJ⟩;have c0:((0:Int):Rat)=0:=rfl;rw[aE (),c0];grind
   refine⟨d3,b,vs,rs,rfl,l3,hb.same S03,(),r0,lr,po,br,p3.1,bu.congr c3,(),ns,λd4 H4 ws S4 l4 n4 p4 lw bw fw=>⟨∅,λp5 H5 hp5 S5 h5=>h p5 d4 H5 ws (S03.trans (S4.trans S5)) h5 (l4.same S5) (S03.none n4) p4 lw bw (Ed.of r0 lr lw (us:=vs) () (λk hk=>by rw[c3,cu k hk]) fw)⟩⟩
def wr(W:Nat->Int)(k n:Nat):Prop:=∀i,i+(k+1)<=n->Lq W k i=0
theorem wd{qs:List (Int×Int)}{W:Nat->Int}{B:Int}{k i:Nat}{c:List (Int×Int)×(Int×Int)}(cl:kv qs W B)(h:dL W B k c)(hD:Dk W k≠0):ak (cf c.1) (cf (qs.drop i)) (k+1)=((Lq W k i:Int):Rat)/((Dk W k*B:Int):Rat):=by
 have e:cf (qs.drop i)=λj=>cf qs (i+j):=funext λj=>oG;rw[e,gS hD (by have:=cl.pos;nofun) h.num cl.val i,Xe]
theorem dL.bq'{W:Nat->Int}{B:Int}{k:Nat}{c:List (Int×Int)×(Int×Int)}(h:dL W B k c)(hD:Dk W k≠0)(hk:k<=5)(bW:∀i,Bt 170 (W i)):∀q∈c.1,Fq q/\Bq 1100 q:=λq hq=>by
 obtain⟨j,hj⟩:=XR hq;have e:=h.num j;rw[aA hj] at e;exact⟨h.po.1 q hq,ik (h.po.1 q hq) e hD ((lS bW hk).mono ∅) ((lE bW ()).mono ∅)⟩
inductive ix (K:W.Frag)(vs:List V)(H:Hp)(Q:VK)(E:XK):Prop
 | mk (a l:Addr)(qs:List (Int×Int))(c:List (Int×Int)×(Int×Int))(W:Nat->Int)(B:Int)(k:Nat):vs=[.ref a,.ref l]->aK (vw K H) a qs->aK (vw K H) l c.1->qs.length<=11->(∀q∈qs,hZ q)->kv qs W B->dL W B k c->0<Dk W k->k<=5->c.1.length=k+1->k+1<=qs.length->(wr W k qs.length -> ∀H',aB (vw K H) (vw K H')->Q .non H')->(¬ wr W k qs.length -> ∀H' (p l2:Addr)(i:Nat),aB (vw K H) (vw K H')->vw K H' p=some (.tup [.str "nought",.ref l,.ref l2])->aK (vw K H') l2 (List.replicate i (0,1)++[(1,1)])->i+(k+1)<=qs.length->Lq W k i≠0->(∀j,j<i->Lq W k j=0)->Q (.ref p) H')->ix K vs H Q E
theorem qH(F:dO K "nought_bar" "nought_bar" je f fd) (T:eA K mg)(C_worth:cn P w K mg base "worth" ["sums", "f"] 3 (me K)):bU P w K mg base dP 4 f fd ["sums", "step"] (ix K):=by
 have scN:=kx.nd;refine F.okQ kx ?_ ?_;walk_at "q"
 .obtain⟨_,_,_,_,_,_,_,rfl,_⟩:=h;rfl
 .obtain⟨a,l,qs,c,W,B,k,rfl,ha,hl,l11,sq,cl,so,dk,k5,lc,lkn,h1,h2⟩:=h;obtain⟨z_ZERO,hg_ZERO,hv_ZERO⟩:=T.g_ZERO;obtain⟨z_ONE,hg_ONE,hv_ONE⟩:=T.g_ONE;refine⟨_,(af (cK PassesOwn.never rfl (cz rfl T.b_range (aa (ar bQ (ar cj (ai aq (by rfl) T.b_len aF (aa (qv 0) ac)) (ai aq (by rfl) T.b_len aF (aa (qv 1) ac))) ae) ac)) (am (i:=2) scN rfl (·)) (ag (bY (aH (pD hr.u64) (ah C_worth nofun rfl (aa (dc fH (qv 0) (dS (qv 2)) dW) (aa (qv 1) ac))) (gw (v:=V.ref z_ZERO) rfl hg_ZERO rfl) (aG _)) (ag (av (aR (aa gi (aa (qv 1) (aa (ar bQ (ar aP (aT (aa (gw (v:=V.ref z_ZERO) rfl hg_ZERO rfl) ac)) (qv 2)) (aT (aa (gw (v:=V.ref z_ONE) rfl hg_ONE rfl) ac))) ac)))))) aN)))
   (ag (av Gb))),?_⟩
  walk_at"m";skip
  refine aM.gen λN1 hN1=>?_;symm
  refine⟨_,ha.len,_,hl.len,(),(),?_⟩;rw[show ((qs.length:Int)-(c.1.length:Int)+1).toNat=qs.length-k by nofun]
  obtain⟨Pv,hPv⟩ : ∃Pv:Nat->St->Hp->Prop,∀i σ H',Pv i σ H' ↔ ∃o,σ=[some (.ref a),some (.ref l),o]/\aB (vw K H) (vw K H') /\ ∀j,j<i->Lq W k j=0:=⟨_,λ_ _ _=>XH⟩;have dn:Dk W k≠0:=();have dB:Dk W k*B≠0:=Xc dn (by have:=cl.pos;nofun)
  refine ce (its:=fj 0 (qs.length-k)) Pv (λ_ _ _ _ _=>aV) ((hPv _ _ _).mpr ⟨_,rfl,.rfl,λj z=>by nofun⟩) (λi x σ H1 hi hx pv=>?_) (λσ H1 pv=>hN1 _ _ ?_)
  .obtain⟨o,rfl,S1,z1⟩:=(hPv _ _ _).mp pv;obtain⟨hi',rfl⟩:=da hx;rw[XO];obtain⟨xs,hxs,rxs⟩:=id (ha.same S1);have lx:xs.length=qs.length:=by rw[rxs.length,YC]
   symm
   refine⟨xs,hxs,λp2 H2 hp2 S2 h2'=>?_⟩;rw[iX ()] at h2';have l2:aK (vw K H2) p2 (qs.drop i):=⟨_,h2',by rw[List.map_drop];exact (rxs.drop i).same S2⟩
   have S02:=S1.trans S2;refine⟨p2,l,qs.drop i,c.1,rfl,l2,hl.same S02,by rw[YE];nofun,by rw[YE];nofun,(),λq hq=>⟨(sq q (XU hq)).1,(sq q (XU hq)).2.1⟩,λq hq=>⟨(so.bq' dn k5 cl.bt q hq).1,(so.bq' dn k5 cl.bt q hq).2.mono ∅⟩,λv H3 r S3 r3 fr3 w3=>?_⟩
   rw[lc,wd cl so dn] at w3;refine⟨_,r3,_,aX (hv_ZERO _),gR _,gR _,?_⟩;rw[sB];have zz:r=(0,1)↔Lq W k i=0:=by
    constructor
    .intro z;rw[z,pX] at w3;have nB:=ao dB;have:((Lq W k i:Int):Rat)=((0:Int):Rat):=by
      have c0:((0:Int):Rat)=0:=rfl;rw[c0];grind
     exact_mod_cast this
    .intro z;refine gY fr3 nG ?_;rw[w3,z,pX];have c0:((0:Int):Rat)=0:=rfl;rw[c0];grind
   refine cH (λhz=>?_) (λhz=>?_)
   .have nz:¬ wr W k qs.length:=λz=>by
     have:=zz.mpr (z i ());rw[this] at hz;exact absurd hz ∅
    refine⟨∅,λp4 H4 hp4 S4 h4=>?_⟩;show gk K (.ref p4) (.int _) H4 _;rw[gd];refine⟨_,h4,(),(),?_,λp5 H5 hp5 S5 h5=>⟨∅,λp6 H6 hp6 S6 h6=>?_⟩⟩
    .have:1000<=sizeLine:=∅;simp;nofun
    show ij K (.ref p5) (.ref p6) H6 _;rw[fN];rw[show ((i:Nat):Int).toNat=i by nofun,iQ] at h5
    have Li:Lq W k i≠0:=λz=>by
     rw[zz.mpr z] at hz;exact absurd hz ∅
    refine⟨_,S6 _ _ h5,_,h6,?_,λp7 H7 hp7 S7 h7=>⟨∅,λp8 H8 hp8 S8 h8=>h2 nz H8 p8 p7 i (S02.trans (S3.trans (S4.trans (S5.trans (S6.trans (S7.trans S8)))))) h8 ⟨_,S8 _ _ h7,by rw[XI,kg];exact (aJ.repl (aX (hv_ZERO _)) i).app (.mk_cons (aX (hv_ONE _)) .mk_nil)⟩ () Li z1⟩⟩
    have:1000<=sizeLine:=∅;simp;nofun
   .refine (hPv _ _ _).mpr ⟨_,rfl,S02.trans S3,λj hj=>?_⟩;by_cases e:j=i
    .rw[e];refine zz.mp ?_;by_cases y:r=(0,1)
     .exact y
     .exact absurd (Ya y) hz
    .exact z1 j ()
  .obtain⟨o,rfl,S1,z1⟩:=(hPv _ _ _).mp pv;rw[cp] at z1;symm
   exact h1 (λi hi=>z1 i ()) H1 S1
theorem Kn{qs:List (Int×Int)}(i:Nat):cf (qs++[(0,1)]) i=cf qs i:=by
 by_cases h:i<qs.length
 .rw[aA (YR (show i<(qs++[(0,1)]).length by simp;nofun)),aA (YR h),List.getElem_append_left h]
 .rw[aE (show qs.length<=i by nofun)]
  by_cases e:i=qs.length
  .rw[aA (q:=(0,1)) (by rw[e];simp)]
   exact (fU ∅).mpr rfl
  .exact aE (by simp;nofun)
theorem kv.zero{qs:List (Int×Int)}{W:Nat->Int}{B:Int}(h:kv qs W B):kv (qs++[(0,1)]) W B :=
 ⟨h.pos,λi=>by rw[Kn];exact h.val i,λE hE=>h.least E λq hq=>hE q (List.mem_append_left _ hq),h.bt⟩
structure Dj (qs:List (Int×Int))(W:Nat->Int)(B:Int)(M:Nat)(G:Hp)(p:Addr)(s:Str):Prop where
 kind:(Dk W M<0/\s = "below")\/(Dk W M=0 /\ ¬ wr W (M-1) qs.length/\s = "nought")\/(Dk W M=0/\wr W (M-1) qs.length/\s = "tight")\/(0<Dk W M/\s = "open")
 at_:∃(l:Addr)(ys:List V),G p=some (.tup (.str s :: .ref l::ys))/\(s = "tight" \/ s = "open" -> ys=[])/\(s = "tight" -> ∃rs,aK G l rs/\aL rs /\ ∀j,cf rs j=((qk W (M-1) j:Int):Rat)/((Dk W (M-1):Int):Rat))/\(s = "open" -> ∃rs,aK G l rs/\aL rs /\ ∀j,cf rs j=((qk W M j:Int):Rat)/((Dk W M:Int):Rat))/\(s = "below" -> ys=[] /\ ∃rs,aK G l rs/\aL rs /\ ∀j,cf rs j=((qk W (M-1) j:Int):Rat)/((Dk W (M-1):Int):Rat))/\(s = "nought" -> ∃(l2:Addr)(i:Nat)(rs:List (Int×Int)),ys=[.ref l2]/\aK G l rs/\aL rs/\(∀j,cf rs j=((qk W (M-1) j:Int):Rat)/((Dk W (M-1):Int):Rat))/\aK G l2 (List.replicate i (0,1)++[(1,1)])/\i+M<=qs.length/\Lq W (M-1) i≠0 /\ ∀j,j<i->Lq W (M-1) j=0)
def KB(G0 G:Hp)(p:Addr):Prop:=∀(s:V)(l:Addr)(ys:List V),G p=some (.tup (s :: .ref l::ys))->G0 l=none
theorem KB.of{G0 G:Hp}{p l:Addr}{s:V}{ys:List V}(h:G p=some (.tup (s :: .ref l::ys)))(n:G0 l=none):KB G0 G p:=λs' l' ys' e=>by
 rw[h] at e;cases e;exact n
inductive kH (K:W.Frag)(vs:List V)(H:Hp)(Q:VK)(E:XK):Prop
 | mk (a:Addr)(qs:List (Int×Int)):vs=[.ref a]->aK (vw K H) a qs->1<=qs.length->qs.length<=11->(∀q∈qs,hZ q)->(∀(p:Addr) H' W B M s,aB (vw K H) (vw K H')->kv qs W B->og W qs.length M->Dj qs W B M (vw K H') p s->KB (vw K H) (vw K H') p->Q (.ref p) H')->kH K vs H Q E
theorem xw(F:dO K "outlook" "outlook" mE f fd) (T:eA K mg)(C_steps:cn P w K mg base "steps" ["sums"] 4 (qy K)) (C_nought_bar:cn P w K mg base "nought_bar" ["sums", "step"] 4 (ix K)) (C_furthest_step:cn P w K mg base "furthest_step" ["sums"] 4 (fP K)):bU P w K mg base dP 5 f fd ["sums"] (kH K):=by
 have scN:=pI.nd;refine F.okQ pI ?_ ?_;walk_at "q"
 .obtain⟨_,_,rfl,_⟩:=h;rfl
 .obtain⟨a,qs,rfl,ha,l1,l11,sq,h⟩:=h;obtain⟨z_ZERO,hg_ZERO,hv_ZERO⟩:=T.g_ZERO;refine⟨_,(af (cQ (aw cI (ah C_steps nofun rfl (aa (qv 0) ac)) (cX cy ae) (λ_ _=>rfl)) (aY (n:=2) rfl (au (am (i:=1) scN rfl (·)) (au (am (i:=2) scN rfl (·)) aZ))))
   (af (bY (aH ky (aw bI (qv 2) ae (λ_ _=>rfl)) ae (aG _)) (ag (av (aR (aa gi (aa (qv 1) ac))))) aN)
   (af (bY (aH (rZ hr.u64) (qv 2) (gw (v:=V.ref z_ZERO) rfl hg_ZERO rfl) (aG _)) (ag (av (HZ (ah C_nought_bar nofun rfl (aa (qv 0) (aa (qv 1) ac))) (aR (aa gi (aa (qv 1) ac)))))) aN)
   (ag (av (aR (aa gi (aa (ah C_furthest_step nofun rfl (aa (BV (gL (ar xQ (ai aq (by rfl) T.b_len aF (aa (qv 0) ac)) ae) (λ_=>rfl)) (ar bQ (qv 0) (aT (aa (gw (v:=V.ref z_ZERO) rfl hg_ZERO rfl) ac))) (qv 0)) ac)) ac)))))))),?_⟩
  walk_at"m";skip
  refine aM.gen λN1 hN1=>?_;symm
  refine⟨a,qs,rfl,ha,l1,l11,sq,λt H1 W B pss S1 ht0 cl my sa so=>?_⟩;obtain⟨xs,hxs,lxs,hx⟩:=id sa;obtain⟨M,hM⟩ : ∃M,M=pss.length:=⟨_,rfl⟩;rw[<-hM] at my;have m1:=my.one;have m2:=my.most;obtain⟨c,hc⟩ : ∃c,pss[M-1]? = some c:=⟨_,YR ()⟩;obtain⟨x,l,v,e1,e2,e3,e4,e5⟩:=hx _ _ hc;have soc:=so _ _ hc;have dk:=my.up (M-1) ();have dn:Dk W (M-1)≠0:=();have hB:=cl.pos;have lc:=soc.len dn;have dB:0<Dk W (M-1)*B:=Y6 dk hB;have sv:=soc.sqv;rw[show M-1+1=M by nofun] at sv
  have xl:xs.getLast? = some (.ref x):=by rw[YZ,lxs,<-hM];exact e1
  refine⟨t,rfl,_,hxs,_,dX xl,x,rfl,_,e2,rfl,_,_,rfl,_,_,rfl,rfl,hN1 _ _ ?_⟩;obtain⟨vp,rfl,hvp⟩:=id e4.fr_at;have iq:c.2.1*(Dk W (M-1)*B)=Dk W M*c.2.2:=by
   have n2:=ao (show c.2.2≠0 by have:=soc.fq.1;nofun)
   have n3:=ao (show Dk W (M-1)*B≠0 by nofun)
   have e:((c.2.1*(Dk W (M-1)*B):Int):Rat)=((Dk W M*c.2.2:Int):Rat):=by
    rw[Xe,Xe];unfold wv at sv;grind
   exact_mod_cast e
  have q2:=soc.fq.1;have sneg:c.2.1<0->Dk W M<0:=λz=>by
   have:=Int.mul_neg_of_neg_of_pos z dB;rw[iq] at this;exact Int.not_le.mp λy=>by have:=Int.mul_nonneg y (YU q2);nofun
  have szer:c.2.1=0->Dk W M=0:=λz=>by
   rw[z,Int.zero_mul] at iq;rcases Int.mul_eq_zero.mp iq.symm with y|y
   .exact y
   .nofun
  have spos:0<c.2.1->0<Dk W M:=λz=>by
   have:=Y6 z dB;rw[iq] at this;exact Int.not_le.mp λy=>by have:=Int.mul_le_mul_of_nonneg_right y (YU q2);nofun
  refine aM.gen λN2 hN2=>?_;symm
  refine⟨_,hvp,_,cW,_,rfl,cH (λhneg=>?_) (λhneg=>hN2 _ _ ?_)⟩
  .exact⟨∅,λp H2 hp S2 h2=>h p H2 W B M "below" (S1.trans S2) cl my ⟨.inl ⟨sneg hneg,rfl⟩,l,[],h2,λ_=>rfl,λz=>absurd z ∅,λz=>absurd z ∅,λ_=>⟨rfl,c.1,e3.same S2,soc.po,soc.num⟩,λz=>absurd z ∅⟩ (.of h2 e5.1)⟩
  refine aM.gen λN3 hN3=>?_;symm
  refine⟨_,e4,_,aX (hv_ZERO _),gR _,gR _,?_⟩;rw[sB];refine cH (λhz=>?_) (λhz=>hN3 _ _ ?_)
  .have d0:Dk W M=0:=szer (by rw[XJ hz])
   unfold JL;symm
   refine⟨a,l,qs,c,W,B,M-1,rfl,ha.same S1,e3,l11,sq,cl,soc,dk,(),lc,(),λhn H2 S2=>⟨false,rfl,dA ∅ ⟨∅,λp H3 hp S3 h3=>h p H3 W B M "tight" (S1.trans (S2.trans S3)) cl my ⟨.inr (.inr (.inl ⟨d0,hn,rfl⟩)),l,[],h3,λ_=>rfl,λ_=>⟨c.1,e3.same (S2.trans S3),soc.po,soc.num⟩,λz=>absurd z ∅,λz=>absurd z ∅,λz=>absurd z ∅⟩ (.of h3 e5.1)⟩⟩,λhn H2 p l2 i S2 h2 ll hi hL hF=>⟨true,?_,iC rfl (h p H2 W B M "nought" (S1.trans S2) cl my ⟨.inr (.inl ⟨d0,hn,rfl⟩),l,[.ref l2],h2,λz=>absurd z ∅,λz=>absurd z ∅,λz=>absurd z ∅,λz=>absurd z ∅,λ_=>⟨l2,i,c.1,rfl,e3.same S2,soc.po,soc.num,ll,(),hL,hF⟩⟩ (.of h2 e5.1))⟩⟩
   exact .inr (.inl ⟨_,cZ h2,rfl⟩)
  .have d1:0<Dk W M:=spos (by
    have:c.2≠(0,1):=λz=>hz (YO z);have:c.2.1≠0:=λz=>this ((oF soc.fq).mpr z);nofun)
   symm
   have od:2*M=qs.length\/2*M=qs.length+1:=by
    rcases my.all with z|z<;>nofun
   refine⟨_,(ha.same S1).len,(),cH (λho=>?_) (λho=>?_)⟩
   .have o1:2*M=qs.length+1:=by
     have:((qs.length:Int)%2)≠0:=by simpa using ho
     nofun
    obtain⟨ax,hax,rax⟩:=id (ha.same S1);refine⟨∅,λp2 H2 hp2 S2 h2=>?_⟩;show ij K (.ref a) (.ref p2) H2 _;rw[fN];refine⟨ax,S2 _ _ hax,_,h2,?_,λp3 H3 hp3 S3 h3=>?_⟩
    .have:1000<=sizeLine:=∅;rw[rax.length];simp;nofun
    have S23:=S2.trans S3;have l3:aK (vw K H3) p3 (qs++[(0,1)]):=by
     refine⟨_,h3,?_⟩;rw[XI];exact (rax.same S23).app (.mk_cons (aX (hv_ZERO _)) .mk_nil)
    have sq0:∀q∈qs++[(0,1)],hZ q:=λq hq=>by
     rcases List.mem_append.mp hq with z|z
     .exact sq q z
     .cases List.mem_singleton.mp z;exact⟨nG,CH ∅,Int.one_dvd _⟩
    refine⟨p3,qs++[(0,1)],rfl,l3,by simp,by simp;nofun,sq0,λd H4 W' B' rs k S4 nd cl' ld po k6 hD he num=>⟨∅,λp5 H5 hp5 S5 h5=>h p5 H5 W B M "open" (S1.trans (S23.trans (S4.trans S5))) cl my ⟨.inr (.inr (.inr ⟨d1,rfl⟩)),d,[],h5,λ_=>rfl,λz=>absurd z ∅,λ_=>⟨rs,ld.same S5,po,?_⟩,λz=>absurd z ∅,λz=>absurd z ∅⟩ (.of h5 ((S1.trans S23).none nd))⟩⟩
    obtain⟨_,eW⟩:=cl.zero.uniq cl' λq hq=>(sq0 q hq).1;subst eW;rw[YB,YJ] at hD he;have hk1:=(hD k (Yp _)).2;have ek:k=M:=by
     by_cases z:k<M
     .rcases he with y|y
      .nofun
      .by_cases e:k+1=M
       .rw[e] at y;nofun
       .have:=my.up (k+1) ();nofun
     .nofun
    rw[<-ek];exact num
   .have o1:2*M=qs.length:=by
     have:((qs.length:Int)%2)=0:=by simpa using ho
     nofun
    refine⟨a,qs,rfl,ha.same S1,l1,(),sq,λd H4 W' B' rs k S4 nd cl' ld po k6 hD he num=>⟨∅,λp5 H5 hp5 S5 h5=>h p5 H5 W B M "open" (S1.trans (S4.trans S5)) cl my ⟨.inr (.inr (.inr ⟨d1,rfl⟩)),d,[],h5,λ_=>rfl,λz=>absurd z ∅,λ_=>⟨rs,ld.same S5,po,?_⟩,λz=>absurd z ∅,λz=>absurd z ∅⟩ (.of h5 (S1.none nd))⟩⟩
    obtain⟨_,eW⟩:=cl.uniq cl' λq hq=>(sq q hq).1;subst eW;have hk1:=(hD k (Yp _)).2;have ek:k=M:=by
     by_cases z:k<M
     .rcases he with y|y
      .nofun
      .by_cases e:k+1=M
       .rw[e] at y;nofun
       .have:=my.up (k+1) ();nofun
     .nofun
    rw[<-ek];exact num
theorem ko{W:Nat->Int}{k:Nat}{rs:List (Int×Int)}(po:aL rs)(hD:Dk W k≠0)(num:∀j,cf rs j=((qk W k j:Int):Rat)/((Dk W k:Int):Rat)):rs.length=k+1:=by
 have c0:((0:Int):Rat)=0:=rfl;refine Nat.le_antisymm (iy po λj hj=>?_) (Nat.not_lt.mp λz=>?_)
 .rw[num,du (),c0];grind
 .have e:=num k;rw[aE (),fi] at e;have:=ao hD;grind
theorem By{W:Nat->Int}{k:Nat}(hD:Dk W k≠0)(hk:k<=6)(bW:∀i,Bt 170 (W i)):Pb 1100 (Pk W k) :=
 ⟨Dk W k,hD,(lE bW hk).mono ∅,λj=>⟨qk W k j,rfl,by
  by_cases h:k<=5
  .exact (lS bW h).mono ∅
  .obtain rfl:k=6:=();have:=rX (B:=2^170) (k:=6) (λi=>Yh (bW i)) j;exact Xv this ∅⟩⟩
def Pl(fs:List (Int×Int)):Prop:=aL fs/\fs.length<=12 /\ ∀q∈fs,Bq 2000 q
def DY(d:D):Prop:=X2 λ(w:Str)(fs:List (Int×Int))=>(w = "below" \/ w = "nought")/\Pl fs/\(d=.tup [.str w,.lst (fs.map fr)] \/ ∃gs:List (Int×Int),Pl gs/\d=.tup [.str w,.lst (fs.map fr),.lst (gs.map fr)])
theorem Iw{W:Nat->Int}{k:Nat}(hD:Dk W k≠0)(hk:k<=5)(bW:∀i,Bt 170 (W i)):Pb 869 (Pk W k) :=
 ⟨Dk W k,hD,(xz bW hk).mono (),λj=>⟨qk W k j,rfl,(xc bW hk).mono ()⟩⟩
theorem Dj.which{qs:List (Int×Int)}{W:Nat->Int}{B:Int}{M:Nat}{G:Hp}{p:Addr}{s:Str}(o:Dj qs W B M G p s):(s = "below" \/ s = "nought")\/s = "tight" \/ s = "open":=by
 rcases o.kind with ⟨_,z⟩|⟨_,_,z⟩|⟨_,_,z⟩|⟨_,z⟩
 .exact .inl (.inl z)
 .exact .inl (.inr z)
 .exact .inr (.inl z)
 .exact .inr (.inr z)
inductive jf (K:W.Frag)(vs:List V)(H:Hp)(Q:VK)(E:XK):Prop
 | mk (y:V)(q:Int×Int):vs=[y]->aI (vw K H) (fr q) y->(∀(b:Addr) H',aB (vw K H) (vw K H')->aK (vw K H') b [(-q.1,q.2),(1,1)]->Q (.ref b) H')->jf K vs H Q E
theorem sU(F:dO K "less_spot" "less_spot" jJ f fd) (T:eA K mg):bU P w K mg base dP 1 f fd ["spot"] (jf K):=by
 have scN:=k8.nd;refine F.okQ k8 ?_ ?_;walk_at "q"
 .obtain⟨_,_,rfl,_⟩:=h;rfl
 .obtain⟨y,q,rfl,hy,h⟩:=h;obtain⟨z_ONE,hg_ONE,hv_ONE⟩:=T.g_ONE;obtain⟨x,rfl,hx⟩:=hy.fr_at;refine⟨_,(ag (av (aT (aa (aR (aa (cX cy (aw bI (qv 0) ae (λ_ _=>rfl))) (aa (aw bI (qv 0) ae (λ_ _=>rfl)) ac))) (aa (gw (v:=V.ref z_ONE) rfl hg_ONE rfl) ac))))),?_⟩;walk_at"m";symm
  refine⟨_,hx,_,cW,_,rfl,_,hx,_,dU,∅,λp1 H1 hp1 S1 h1=>⟨∅,λp2 H2 hp2 S2 h2=>h p2 H2 (S1.trans S2) ⟨_,h2,.mk_cons (aX (S2 _ _ h1)) (.mk_cons (aX (hv_ONE _)) .mk_nil)⟩⟩⟩
theorem Jt{q:Int×Int}{v:Nat->Rat}(f:Fq q)(j:Nat):pr (cf [(-q.1,q.2),(1,1)]) v 2 j=lx (wv q) v j:=by
 have c:=ao f.ne;have e0:cf [(-q.1,q.2),(1,1)] 0 = -wv q:=by
  show wv (-q.1,q.2) = -wv q;unfold wv;rw[show (((-q.1:Int)):Rat) = -((q.1:Int):Rat) from Rat.intCast_neg _]
  grind
 have e1:cf [(-q.1,q.2),(1,1)] 1=1:=by
  show wv (1,1)=1;decide +kernel
 show (0+(if 0<=j then cf [(-q.1,q.2),(1,1)] 0*v (j-0) else 0))+(if 1<=j then cf [(-q.1,q.2),(1,1)] 1*v (j-1) else 0)=_
 unfold lx;rw[e0,e1,Yb (YK _)];by_cases z:j=0
 .rw[Yb z,Yc (),Nat.sub_zero];grind
 .rw[Yc z,Yb (),Nat.sub_zero];grind
theorem G9{q:Int×Int}(f:Fq q):Fq (-q.1,q.2):=⟨f.1,by
 have:=f.2;show Int.gcd (-q.1) q.2=1;rw[Int.neg_gcd];exact this⟩
def wf(q:Int×Int)(ns:List Int):List Int:=List.zipWith (λx y=>q.2*y-q.1*x) ns (ns.drop 1)
theorem pT{q:Int×Int}{ns:List Int}:(wf q ns).length=ns.length-1:=by
 unfold wf;rw[List.length_zipWith,YE];nofun
theorem FU{q:Int×Int}{ns:List Int}{i:Nat}(h:i+1<ns.length):(wf q ns)[i]? = some (q.2*ns[i+1]-q.1*ns[i]):=by
 unfold wf;have e:(ns.drop 1)[i]? = some ns[i+1]:=by rw[Xn,YL 1 i,YR h]
 rw[List.getElem?_zipWith,YR (by nofun : i<ns.length),e]
inductive gM (K:W.Frag)(vs:List V)(H:Hp)(Q:VK)(E:XK):Prop
 | mk (a:Addr)(y:V)(ns:List Int)(q:Int×Int)(B:Nat):vs=[.ref a,y]->vw K H a=some (.lst (ns.map V.int))->aI (vw K H) (fr q) y->1<=ns.length->ns.length<=20->(∀n∈ns,Bt B n)->B<=5000->Bq 130 q->(∀(b:Addr) H',aB (vw K H) (vw K H')->vw K H b=none->vw K H' b=some (.lst ((wf q ns).map V.int))->Q (.ref b) H')->gM K vs H Q E
theorem qf(F:dO K "wholes_from" "wholes_from" iI f fd) (T:eA K mg):bU P w K mg base dP 1 f fd ["wholes", "spot"] (gM K):=by
 have scN:=j7.nd;refine F.okQ j7 ?_ ?_;walk_at "q"
 .obtain⟨a,_,_,_,_,rfl,_⟩:=h;rfl
 .obtain⟨a,y,ns,q,B,rfl,ha,ry,hne,hl,hB,hB2,bq,h⟩:=h;refine⟨_,(af (cQ (qv 1) (aY (n:=2) rfl (au (am (i:=2) scN rfl (·)) (au (am (i:=3) scN rfl (·)) aZ))))
   (ag (av (cO (own:=["before", "after"]) (outs:=["bottom", "top"]) (ixs:=[3,2]) rfl (uh rfl T.b_zip (aa (qv 0) (aa (dc fH (qv 0) (dS ae) dW) ac))) rfl ⟨rfl,rfl,rfl,⟨rfl,⟨rfl,trivial⟩⟩,rfl,⟨⟨rfl,rfl,rfl,_,rfl⟩,⟨⟨rfl,rfl,rfl,_,rfl⟩,trivial⟩⟩⟩ (λ_ _ _ _=>⟨(show QG _ _ (iZ K 2 _) from aY (n:=2) rfl (au (am (i:=0) (show (["before", "after", "bottom", "top"]:List Str).Nodup by decide +kernel) rfl (·)) (au (am (i:=1) (show (["before", "after", "bottom", "top"]:List Str).Nodup by decide +kernel) rfl (·)) aZ))),cV,(ar cj (ar (show el _ _ (gk K) from aP) (qv 2) (qv 1)) (ar (show el _ _ (gk K) from aP) (qv 3) (qv 0)))⟩))))),?_⟩
  walk_at"m";obtain⟨p,rfl,hp⟩:=ry.fr_at;symm
  refine⟨_,hp,rfl,?_⟩;symm
  simp only[xu];symm
  refine⟨_,ha,λp1 H1 hp1 S1 h1=>?_⟩;rw[show (1:Int)=((1:Nat):Int) from rfl,iX (by simpa using hne),<-List.map_drop] at h1
  have ha1:=S1 _ _ ha;refine⟨p1,rfl,true,⟨_,ha1⟩,true,⟨_,h1⟩,λc H2 hc S2 h2=>?_⟩;have lz:((ns.map V.int).zip ((ns.drop 1).map V.int)).length=(wf q ns).length:=by
   rw[pT,List.length_zip,YC,YC,YE];nofun
  refine kd (ps:=(ns.map V.int).zip ((ns.drop 1).map V.int)) (λi zs H'=>aB (vw K H1) (vw K H')/\zs=((wf q ns).take i).map V.int) (λi zs H' _ _ p=>⟨_,_,p.1 _ _ ha1,p.1 _ _ h1,lC.symm⟩) h2 ⟨S2,rfl⟩ (λi u v zs H8 H9 hi huv h9 p S89=>?_) (λzs H8 h8 p=>?_)
  .obtain⟨S8,rfl⟩:=p;rw[lz,pT] at hi;have li:i+1<ns.length:=();rw[List.getElem?_zip_eq_some,Yz,Yz,Xn,YR (by nofun : i<ns.length),YL 1 i,YR li] at huv
   obtain⟨e1,e2⟩:=huv;cases e1;cases e2;symm
   refine⟨cr bq.2 (hB _ (YQ li)) (),cr bq.1 (hB _ (YQ _)) (),.mk2 h9 ?_ λH10 B10 h10=>⟨λb o e=>B10 _ _ (aj e hc) (S89 _ _ (S8 _ _ e)),?_⟩⟩
   .rw[YC,Yu];exact Xv (Nat.min_le_left _ _) (Yd (show i<20 by nofun) ∅)
   .rw[Xf,FU li,XI];rfl
  .obtain⟨S8,rfl⟩:=p;rw[lz,Xg] at h8;exact h c H8 (S1.trans S8) (S1.none hc) h8
inductive jp (K:W.Frag)(vs:List V)(H:Hp)(Q:VK)(E:XK):Prop
 | mk (a:Addr)(y:V)(ss:List (Int×Int))(q:Int×Int):vs=[.ref a,y]->aK (vw K H) a ss->aI (vw K H) (fr q) y->Fq q->Bq 130 q->1<=ss.length->ss.length<=11->(∀p∈ss,Fq p/\Bq 131 p)->(∀(b:Addr) H' (qs:List (Int×Int)),aB (vw K H) (vw K H')->vw K H b=none->aK (vw K H') b qs->qs.length=ss.length-1->(∀(k:Nat)(p:Int×Int),qs[k]? = some p->Fq p/\wv p=cf ss (k+1)-wv q*cf ss k)->Q (.ref b) H')->jp K vs H Q E
theorem sI(F:dO K "sums_from" "sums_from" jZ f fd) (T:eA K mg)(C_wholes_from:cn P w K mg base "wholes_from" ["wholes", "spot"] 1 (gM K)) (C_ratio:cn P w K mg base "ratio" ["top", "bottom"] 2 (eK K)) (C_cleared:cn P w K mg base "cleared" ["f"] 2 (bN K)):bU P w K mg base dP 3 f fd ["sums", "spot"] (jp K):=by
 have scN:=kR.nd;refine F.okQ kR ?_ ?_;walk_at "q"
 .obtain⟨a,_,_,_,rfl,_⟩:=h;rfl
 .obtain⟨a,y,ss,q,rfl,ha,ry,fq,bq,l1,l2,hs,h⟩:=h;refine⟨_,(af (cQ (ah C_cleared nofun rfl (aa (qv 0) ac)) (aY (n:=2) rfl (au (am (i:=2) scN rfl (·)) (au (am (i:=3) scN rfl (·)) aZ))))
   (ag (av (cO (own:=["whole"]) (outs:=["bottom", "spot"]) (ixs:=[3,1]) rfl (cY (ah C_wholes_from nofun rfl (aa (qv 2) (aa (qv 1) ac)))) rfl ⟨rfl,rfl,rfl,⟨rfl,⟨rfl,trivial⟩⟩,rfl,⟨⟨rfl,rfl,rfl,_,rfl⟩,⟨⟨rfl,rfl,rfl,_,rfl⟩,trivial⟩⟩⟩ (λ_ _ _ _=>⟨(am (i:=0) (show (["whole", "bottom", "spot"]:List Str).Nodup by decide +kernel) rfl (·)),cV,(ah C_ratio nofun rfl (aa (qv 0) (aa (ar (show el _ _ (gk K) from aP) (qv 1) (aw (show uK _ (Cr K) from bI) (qv 2) ae (λ_ _=>rfl))) ac)))⟩))))),?_⟩
  walk_at"m";obtain⟨yp,rfl,hyp⟩:=id ry.fr_at;refine aM.gen λN1 hN1=>?_;symm
  simp only[bN];refine⟨a,ss,131,rfl,ha,(),∅,hs,λp1 b1 H1 D ns S1 h1 hb1 _ hD bD ln hn _=>?_⟩;symm
  refine⟨_,h1,rfl,?_⟩;symm
  refine hN1 _ _ ?_;symm
  have hB:∀n∈ns,Bt 1573 n:=λn z=>by
   obtain⟨i,hi⟩:=XR z;have li:=(List.getElem?_eq_some_iff.mp hi).1;exact (hn i n _ hi (YR ())).2.mono ()
  have hyp1:=S1 _ _ hyp;refine⟨b1,_,ns,q,1573,rfl,hb1,aX hyp1,(),(),hB,∅,bq,λb2 H2 S2 _ h2=>?_⟩;have hne:D*q.2≠0:=Xc () fq.ne;have bDq:Bt 1600 (D*q.2):=(bD.mul bq.2).mono ();refine⟨b2,rfl,⟨_,.of (aQ h2)⟩,λc H3 hc S3 h3=>?_⟩;refine bK (its:=(wf q ns).map V.int) (λi zs H'=>aB (vw K H2) (vw K H')/\aJ (vw K H') ((((wf q ns).take i).map λn=>lo n (D*q.2)).map fr) zs) (λi zs H' _ _ p=>bZ (p.1 _ _ h2)) h3 ⟨S3,.mk_nil⟩ (λi x zs H4 hi hx h4 p=>?_) (λzs H4 h4 p=>?_)
  .obtain⟨S4,r4⟩:=p;rw[YC,pT] at hi;rw[Yz] at hx;cases e:(wf q ns)[i]? with
   | none=>rw[e] at hx;cases hx
   | some n =>
    rw[e] at hx;cases hx;symm
    refine⟨_,(S2.trans S4) _ _ hyp1,_,dU,?_⟩;symm
    simp only[eK];refine⟨cr bD bq.2 (),n,_,rfl,hne,bDq.mono ∅,λv H5 S5 r5=>.mk (S5 _ _ h4) ?_ λH6 B6 h6=>⟨λb o e=>B6 _ _ (aj e hc) (S5 _ _ (S4 _ _ e)),?_⟩⟩
    .rw[r4.length,YC,YC,Yu];exact Xv (Nat.min_le_left _ _) (Yd (show i<20 by nofun) ∅)
    .rw[Xf,e,XI,XI];exact (aJ.flat_but (S5 _ _ h4) B6 _ _ (cJ _) (r4.same S5)).snoc (aI.flat_but (S5 _ _ h4) B6 _ _ (bA _) r5)
  .obtain⟨S4,r4⟩:=p;rw[YC,Xg] at r4;refine h c H4 _ (S1.trans (S2.trans S4)) (S1.none (S2.none hc)) ⟨zs,h4,r4⟩ (by rw[YC,pT,ln]) λk p e=>?_
   rw[Yz] at e;have lk:k+1<ns.length:=by
    cases e2:(wf q ns)[k]? with
    | none=>rw[e2] at e;cases e
    | some n =>
     have:=(List.getElem?_eq_some_iff.mp e2).1;rw[pT] at this;nofun
   rw[FU lk] at e;cases e;refine⟨ie hne,?_⟩;have w0:=(hn k _ _ (YR ()) (YR ())).1;have w1:=(hn (k+1) _ _ (YR lk) (YR ())).1;rw[<-aA (YR (by nofun : k<ss.length))] at w0
   rw[<-aA (YR (by nofun : k+1<ss.length))] at w1
   rw[ig hne,Xi,Xe,Xe,Xe,w0,w1];have n1:(D:Rat)≠0:=ao ();have n2:(q.2:Rat)≠0:=ao fq.ne;show _=cf ss (k+1)-(q.1:Rat)/(q.2:Rat)*cf ss k;grind
inductive iD (K:W.Frag)(vs:List V)(H:Hp)(Q:VK)(E:XK):Prop
 | mk (a b:Addr)(fs gs:List (Int×Int))(B:Nat):vs=[.ref a,.ref b]->aK (vw K H) a fs->aK (vw K H) b gs->fs.length<=14->gs.length<=14->B<=20000->fs.length*B+gs.length*B<=900000->(∀q∈fs,Fq q/\Bq B q)->(∀q∈gs,Fq q/\Bq B q)->(∀c H' (rs:List (Int×Int)),aB (vw K H) (vw K H')->aK (vw K H') c rs->vw K H c=none->aL rs->(∀k,cf rs k=pr (cf fs) (cf gs) fs.length k)->rs.length<=fs.length+gs.length->(∀q∈rs,Bq (2+fs.length*B+gs.length*B+B+B+fs.length) q)->Q (.ref c) H')->iD K vs H Q E
theorem qL(F:dO K "multiplied" "multiplied" i0 f fd) (T:eA K mg)(C_cleared:cn P w K mg base "cleared" ["f"] 2 (bN K)) (C_divided:cn P w K mg base "divided" ["wholes", "bottom"] 3 (dq K)) (C_wholes_multiplied:cn P w K mg base "wholes_multiplied" ["one", "other"] 1 (ci K)):bU P w K mg base dP 4 f fd ["f", "g"] (iD K):=by
 have scN:=kB.nd;refine F.okQ kB ?_ ?_;walk_at "q"
 .obtain⟨a,_,_,_,_,rfl,_⟩:=h;rfl
 .obtain⟨a,b,fs,gs,B,rfl,ha,hb,lf,lg',hB,hBB,hf,hg,h⟩:=h;refine⟨_,(af (cQ (ah C_cleared nofun rfl (aa (qv 0) ac)) (aY (n:=2) rfl (au (am (i:=2) scN rfl (·)) (au (am (i:=3) scN rfl (·)) aZ))))
   (af (cQ (ah C_cleared nofun rfl (aa (qv 1) ac)) (aY (n:=2) rfl (au (am (i:=4) scN rfl (·)) (au (am (i:=5) scN rfl (·)) aZ))))
   (ag (av (ah C_divided nofun rfl (aa (ah C_wholes_multiplied nofun rfl (aa (qv 2) (aa (qv 4) ac))) (aa (ar aP (qv 3) (qv 5)) ac))))))),?_⟩
  walk_at"m";symm
  simp only[bN];symm
  refine⟨fs,ha,lf,B,Yg hB ∅,hf,λp1 a1 H1 D1 ms S1 h1 ha1 _ hD1 bD1 lm hm _=>⟨_,h1,rfl,?_⟩⟩;symm
  refine⟨gs,hb.same S1,lg',B,Yg hB ∅,hg,λp2 b1 H2 D2 ns S2 h2 hb1 _ hD2 bD2 ln hn _=>⟨_,h2,rfl,?_⟩⟩;symm
  simp only[ci];symm
  have bm:∀x∈ms,Bt (1+fs.length*B+B) x:=λx hx=>by
   obtain⟨i,hi⟩:=List.mem_iff_getElem?.mp hx;have hil:=(List.getElem?_eq_some_iff.mp hi).1;exact (hm i x _ hi (YR (show i<fs.length by nofun))).2
  have bn:∀x∈ns,Bt (1+gs.length*B+B) x:=λx hx=>by
   obtain⟨i,hi⟩:=List.mem_iff_getElem?.mp hx;have hil:=(List.getElem?_eq_some_iff.mp hi).1;exact (hn i x _ hi (YR (show i<gs.length by nofun))).2
  refine⟨ms,S2 _ _ ha1,ns,hb1,(),(),1+fs.length*B+B,(),1+gs.length*B+B,(),bm,bn,λc3 H3 L S3 h3 _ hL _ zL=>?_⟩;symm
  refine⟨cr bD1 bD2 (),?_⟩;simp only[dq];symm
  have nz1:D1*D2≠0:=Xc () ();have bz:=yA (fX bm) (fX bn) ms.length;refine⟨_,h3,by rw[bH];nofun,nz1,(bD1.mul bD2).mono (),λc4 H4 rs S4 l4 n4 p4 c4' e4 q4=>h c4 H4 rs (S1.trans (S2.trans (S3.trans S4))) l4 ?_ p4 (λk=>?_) (by rw[bH] at e4;nofun) λq hq=>?_⟩
  .cases e:vw K H c4 with
   | none=>rfl
   | some o=>rw[S3 _ _ (S2 _ _ (S1 _ _ e))] at n4;cases n4
  .rw[c4' k];have e1:nz (lz L (pz (nz ms) (nz ns) ms.length)) k=pz (nz ms) (nz ns) ms.length k:=by
    by_cases hk:k<L
    .exact ni hk
    .rw[zL k (),bC (by rw[bH];nofun)]
   rw[e1,oJ (dQ lm λi n q e1 e2=>(hm i n q e1 e2).1) (dQ ln λi n q e1 e2=>(hn i n q e1 e2).1),Xe,lm];have c1:=ao (show D1≠0 by nofun)
   have c2:=ao (show D2≠0 by nofun)
   grind
  .obtain⟨n,hn',rfl⟩:=q4 q hq;obtain⟨k,hk,rfl⟩:=List.mem_map.mp hn';exact nF nz1 ((bz k).mono ()) ((bD1.mul bD2).mono ())
inductive lV (K:W.Frag)(vs:List V)(H:Hp)(Q:VK)(E:XK):Prop
 | mk (x y p q:_):vs=[x,y]->aI (vw K H) (fr p) x->aI (vw K H) (fr q) y->p.2≠0->q.2≠0->Bq 1000000 p->Bq 1000000 q->Bt 4000000 (p.2*q.2)->(∀v H',aB (vw K H) (vw K H')->aI (vw K H') (fr (vF p q)) v->Q v H')->lV K vs H Q E
theorem DL(F:dO K "_law_minus" "_law_minus" tV f fd) (T:eA K mg)(zClow:cn P w K mg base "_law_low" ["_law_top", "_law_bottom"] 2 (iM K)):bU P w K mg base dP 3 f fd ["_law_one", "_law_other"] (lV K):=by
 have scN:=xZ.nd;refine F.okQ xZ ?_ ?_;walk_at "q"
 .obtain⟨_,_,_,_,rfl,_⟩:=h;rfl
 .obtain⟨x,y,p,q,rfl,hx,hy,np,nq,bp,bq,bb,h⟩:=h;refine⟨_,(ag (av (ah zClow nofun rfl (aa (ar cj (ar aP (aw bI (qv 0) ae (λ_ _=>rfl)) (aw bI (qv 1) ae (λ_ _=>rfl))) (ar aP (aw bI (qv 1) ae (λ_ _=>rfl)) (aw bI (qv 0) ae (λ_ _=>rfl)))) (aa (ar aP (aw bI (qv 0) ae (λ_ _=>rfl)) (aw bI (qv 1) ae (λ_ _=>rfl))) ac))))),?_⟩
  walk_at"m";obtain⟨a,rfl,ha⟩:=hx.fr_at;obtain⟨b,rfl,hb⟩:=hy.fr_at;walk_at"vc*";simp only[iM];walk_at"vc*";exact⟨cr bp.1 bq.2 ∅,cr bq.1 bp.2 ∅,cr bp.2 bq.2 ∅,Xc np nq,h⟩
inductive jh (K:W.Frag)(vs:List V)(H:Hp)(Q:VK)(E:XK):Prop
 | mk (st:Addr)(m:Nat):vs=[.ref st,.int m]->m<=6->1<=m->eC (vw K H) st->(∀(a:Addr)(H':Hp)(cs:List uj),fV st (vw K H) (vw K H')->eC (vw K H') st->jj (vw K H') a (cs.map uz)->(∀c∈cs,Fq c.1/\Fq c.2)->(∀c∈cs,Bq 100 c.1/\Bq 10 c.2)->(∀c∈cs,Sx 300 c.1/\Sx 36 c.2)->1<=cs.length->cs.length<=m->Q (.ref a) H')->jh K vs H Q E
theorem tS(F:dO K "_law_spot_crowd" "_law_spot_crowd" jv f fd) (T:eA K mg)(zCsmall:cn P w K mg base "_law_small" ["_law_state_here"] 3 (eZ K)) (zCabove:cn P w K mg base "_law_above" ["_law_state_here"] 3 (kS K))
  (zCcrowd:cn P w K mg base "_law_crowd" ["_law_state_here", "_law_most"] 4 (ot K)):bU P w K mg base dP 5 f fd ["_law_state_here", "_law_most"] (jh K):=by
 have scN:=lY.nd;refine F.okQ lY ?_ ?_;walk_at "q"
 .obtain⟨_,_,rfl,_⟩:=h;rfl
 .obtain⟨st,m,rfl,hm,hm1,hst,h⟩:=h;refine⟨_,(af (aC (i:=2) scN rfl (·) (ah zCcrowd nofun rfl (aa (qv 0) (aa (qv 1) ac))))
   (af (bY (aH (pA hr.ul) (qv 2) (aT ac) (aG _)) (ag (aC (i:=2) scN rfl (·) (aT (aa (aR (aa (ah zCsmall nofun rfl (aa (qv 0) ac)) (aa (ah zCabove nofun rfl (aa (qv 0) ac)) ac))) ac)))) aN)
   (ag (av (qv 2))))),?_⟩
  walk_at"m";refine aM.gen λN1 hN1=>?_;symm
  refine⟨st,m,rfl,hm,hst,λa H1 cs B1 st1 l1 f1 b1 s1 _ n1 hn1=>hN1 _ _ ?_⟩;obtain⟨xs,hxs,rxs⟩:=id l1;have lxs:xs.length=cs.length:=by rw[rxs.length,YC]
  refine aM.gen λN2 hN2=>?_;symm
  refine⟨∅,λe2 H2 he2 S2 h2=>⟨e2,rfl,xs,S2 _ _ hxs,h2,?_⟩⟩;have st2:=st1.same S2;refine cH (λhc=>?_) (λhc=>hN2 _ _ ?_)
  .simp only[eZ];refine⟨st,rfl,st2,λv3 H3 q3 B3 st3 r3 f3 b31 b32 s3=>⟨st,rfl,st3,λv4 H4 q4 B4 st4 r4 f4 _ b4 s4=>⟨∅,λt5 H5 ht5 S5 h5=>⟨∅,λl6 H6 hl6 S6 h6=>hN2 _ _ ?_⟩⟩⟩⟩;obtain⟨_,_,e,_⟩:=id st3;have r34:=aI.flat_but e B4 _ _ (bA _) r3;symm
   refine h l6 H6 [(q3,q4)] ((B1.same_trans S2).trans (B3.trans (B4.same_trans (S5.trans S6)))) (st4.same (S5.trans S6)) ⟨_,h6,.mk_cons (.mk_tup (S6 _ _ h5) (.mk_cons (aI.same (S5.trans S6) _ _ r34) (.mk_cons (aI.same (S5.trans S6) _ _ r4) .mk_nil))) .mk_nil⟩ (λc hc=>?_) (λc hc=>?_) (λc hc=>?_) (by simp) (by simpa using hm1)
   .cases List.mem_singleton.mp hc;exact⟨f3,f4⟩
   .cases List.mem_singleton.mp hc;exact⟨⟨b31.mono ∅,b32.mono ∅⟩,b4⟩
   .cases List.mem_singleton.mp hc;exact⟨s3.mono ∅,s4⟩
  .have hcs:1<=cs.length:=by
    rcases Nat.eq_zero_or_pos cs.length with z|z
    .rw[z] at lxs;have:xs=[]:=List.length_eq_zero_iff.mp lxs;subst this;exact absurd rfl hc
    .exact z
   symm
   exact h a H2 cs (B1.same_trans S2) st2 ⟨xs,S2 _ _ hxs,rxs.same S2⟩ (λc hc=>⟨(f1 c hc).1,(f1 c hc).2.1⟩) b1 s1 hcs n1
def nu(q:Int×Int):Prop:=Fq q/\Bq 12 q/\q.2∣30
theorem zj{q:Int×Int}{n:Int}(f:Fq q)(e:wv q=(n:Rat)/30)(l:n.natAbs<4096):nu q:=by
 have e':wv q=(n:Rat)/((30:Int):Rat):=e;exact⟨f,ik f e' ∅ (show Bt 12 n from l) ∅,jM f ∅ e'⟩
theorem Sx.spot{q:Int×Int}(f:Fq q)(h:Sx 700 q):nu q:=by
 obtain⟨n,e,l⟩:=h;refine zj (n:=5*n) f ?_ ();rw[e,Xe,show ((5:Int):Rat)=5 from rfl]
 grind
theorem mP{ss qs:List (Int×Int)}{q:Int×Int}(hs:∀p∈ss,gD 112 p)(hq:nu q)(l:qs.length=ss.length-1)(h:∀(k:Nat)(p:Int×Int),qs[k]? = some p->Fq p/\wv p=cf ss (k+1)-wv q*cf ss k):∀p∈qs,hZ p:=λp hp=>by
 obtain⟨k,hk⟩:=XR hp;have lk:=(List.getElem?_eq_some_iff.mp hk).1;obtain⟨f,e⟩:=h k p hk;obtain⟨_,n1,e1,t1⟩:=hs ss[k+1] (YQ ());obtain⟨_,n0,e0,t0⟩:=hs ss[k] (YQ ());rw[aA (YR (show k+1<ss.length by nofun)),aA (YR (show k<ss.length by nofun)),e1,e0] at e
 obtain⟨fq,bq,c,hc⟩:=hq;have h6:((mh 12:Int):Rat)≠0:=ao ∅;have cq:=ao fq.ne;have e':wv p=((n1*q.2-q.1*n0:Int):Rat)/((mh 12*q.2:Int):Rat):=by
  rw[e,Xi,Xe,Xe,Xe];unfold wv;grind
 have ne:mh 12*q.2≠0:=Xc ∅ fq.ne;exact⟨f,ik f e' ne (((t1.mul bq.2).sub (bq.1.mul t0)).mono ∅) (((sr 12).mul bq.2).mono ∅),Int.dvd_trans (jM f ne e') ⟨c,by unfold ET;rw[hc,Y8];exact (Y7 _ _ _).symm⟩⟩
inductive jL (K:W.Frag)(vs:List V)(H:Hp)(Q:VK)(E:XK):Prop
 | mk (st:Addr):vs=[.ref st]->eC (vw K H) st->(∀(p a:Addr)(v:V)(H':Hp)(qs:List (Int×Int))(q:Int×Int),fV st (vw K H) (vw K H')->eC (vw K H') st->vw K H' p=some (.tup [.ref a,v])->aK (vw K H') a qs->aI (vw K H') (fr q) v->1<=qs.length->qs.length<=11->(∀q∈qs,gD 112 q)->nu q->Q (.ref p) H')->jL K vs H Q E
theorem vx(F:dO K "_law_from_case" "_law_from_case" jY f fd) (T:eA K mg)(zCtake:cn P w K mg base "_law_take" ["_law_state_here", "_law_many"] 1 (eI K)) (zCsmall:cn P w K mg base "_law_small" ["_law_state_here"] 3 (eZ K)) (zCabove:cn P w K mg base "_law_above" ["_law_state_here"] 3 (kS K)) (zCminus:cn P w K mg base "_law_minus" ["_law_one", "_law_other"] 3 (lV K))
  (zCspot_crowd:cn P w K mg base "_law_spot_crowd" ["_law_state_here", "_law_most"] 5 (jh K)) (zCsums:cn P w K mg base "_law_sums" ["_law_state_here"] 5 (xE K)) (zCcrowd_sums:cn P w K mg base "_law_crowd_sums" ["_law_crowd_here", "_law_many"] 4 (gG K)) (zCplus:cn P w K mg base "_law_plus" ["_law_one", "_law_other"] 3 (fh K)):bU P w K mg base dP 6 f fd ["_law_state_here"] (jL K):=by
 have scN:=nE.nd;refine F.okQ nE ?_ ?_;walk_at "q"
 .obtain⟨_,rfl,_⟩:=h;rfl
 .obtain⟨st,rfl,hst,h⟩:=h;refine⟨_,(af (bY (aH dY (ah zCtake nofun rfl (aa (qv 0) (aa ae ac))) ae (aG _)) (ag (av (aR (aa (ah zCsums nofun rfl (aa (qv 0) ac)) (aa (ah zCsmall nofun rfl (aa (qv 0) ac)) ac))))) aN)
   (af (aC (i:=1) scN rfl (·) (ah zCspot_crowd nofun rfl (aa (qv 0) (aa ae ac))))
   (af (aC (i:=2) scN rfl (·) (aw bI (aw cI (qv 1) ae (λ_ _=>rfl)) ae (λ_ _=>rfl)))
   (af (aC (i:=3) scN rfl (·) (aT (aa (qv 2) (aa (ah zCminus nofun rfl (aa (qv 2) (aa (ah zCabove nofun rfl (aa (qv 0) ac)) ac))) (aa (ah zCplus nofun rfl (aa (qv 2) (aa (aR (aa ae (aa ae ac))) ac))) (aa (ah zCsmall nofun rfl (aa (qv 0) ac)) (aa (aw bI (aw cI (qv 1) (cX cy ae) (λ_ _=>rfl)) ae (λ_ _=>rfl)) ac)))))))
   (ag (av (aR (aa (ah zCcrowd_sums nofun rfl (aa (qv 1) (aa (ar bQ ae (ah zCtake nofun rfl (aa (qv 0) (aa ae ac)))) ac))) (aa (aw cI (qv 3) (ah zCtake nofun rfl (aa (qv 0) (aa ae ac))) (λ_ _=>rfl)) ac))))))))),?_⟩
  walk_at"m";refine aM.gen λN1 hN1=>?_;symm
  simp only[eI];symm
  refine⟨hst,∅,∅,λr1 H1 r10 r11 B1 st1=>cH (λhr0=>?_) (λhr0=>hN1 _ _ ?_)⟩
  .simp only[eZ];refine⟨st,rfl,st1,λa2 H2 qs B2 st2 l2 n21 n22 q2 _=>⟨st,rfl,st2,λv3 H3 q3 B3 st3 r3 f3 b31 b32 x3=>⟨∅,λp4 H4 hp4 S4 h4=>?_⟩⟩⟩;exact h p4 a2 v3 H4 qs q3 (B1.trans (B2.trans (B3.same_trans S4))) (st3.same S4) h4 ((l2.stBut st2 B3).same S4) (aI.same S4 _ _ r3) n21 n22 q2 (Sx.spot f3 (x3.mono ∅))
  refine aM.gen λN2 hN2=>?_;symm
  refine⟨st,5,rfl,∅,∅,st1,λa2 H2 cs B2 st2 l2 f2 b2 s2 n21 n22=>hN2 _ _ ?_⟩;obtain⟨xs,hxs,rxs⟩:=id l2;have n0:0<cs.length:=();have key:∀{G:Hp}{c:uj}{x:V},aI G (uz c) x -> ∃p u w,x=.ref p/\G p=some (.tup [u,w])/\aI G (fr c.1) u:=λr=>by
   obtain⟨p,ys,rfl,hp,r⟩:=r.tup_at;obtain⟨d1,d2,u,w,e,rfl,ru,rw'⟩:=r.pair (by rw[r.length];rfl)
   cases e;exact⟨p,u,w,rfl,hp,ru⟩
  obtain⟨x0,hx0,rx0⟩:=rxs.at (i:=0) (d:=uz cs[0]) (by rw[Yz,YR n0];rfl)
  obtain⟨p0,u0,w0,rfl,hp0,ru0⟩:=key rx0;have fc0:=(f2 _ (YQ n0)).1;have bc0:=(b2 _ (YQ n0)).1;refine aM.gen λN3 hN3=>?_;symm
  refine⟨xs,hxs,_,show nK xs ((0:Nat):Int)=_ from bO hx0,p0,rfl,_,hp0,_,cW,hN3 _ _ ?_⟩
  refine aM.gen λN4 hN4=>?_;symm
  simp only[fh,eZ];refine⟨st,rfl,st2,λv4 H4 q4 B4 st4 r4 f4 _ b4 x4=>?_⟩;obtain⟨_,_,e2,_⟩:=id st2;have ru4:=aI.flat_but e2 B4 _ _ (bA _) ru0;refine⟨_,_,_,_,rfl,ru4,r4,fc0.ne,f4.ne,bc0.mono ∅,b4.mono ∅,(bc0.2.mul b4.2).mono ∅,λv5 H5 S5 r5=>⟨∅,λt6 H6 ht6 S6 h6=>?_⟩⟩;have f15:Fq (1,5):=⟨∅,∅⟩;have b15:Bq 10 (1,5):=⟨∅,∅⟩;refine⟨_,_,_,(1,5),rfl,aI.same (S5.trans S6) _ _ ru4,aX h6,fc0.ne,f15.ne,bc0.mono ∅,b15.mono ∅,(bc0.2.mul b15.2).mono ∅,λv7 H7 S7 r7=>⟨st,rfl,st4.same (S5.trans (S6.trans S7)),λv8 H8 q8 B8 st8 r8 f8 b81 b82 x8=>?_⟩⟩;have S47:=S5.trans (S6.trans S7);have st7:=st4.same S47;obtain⟨_,_,e7,_⟩:=id st7;have l8:=((l2.stBut (fB cs) (mw cs) st2 B4).same S47).stBut (fB cs) (mw cs) st7 B8;obtain⟨ys,hys,rys⟩:=id l8;obtain⟨cl,hcl⟩:=zw (show cs≠[] from λz=>by rw[z] at n0;exact absurd n0 ∅)
  obtain⟨xl,hxl,rxl⟩:=rys.last (d:=uz cl) (by rw[List.getLast?_map,hcl];rfl)
  obtain⟨pl,ul,wl,rfl,hpl,rul⟩:=key rxl;have hclm:=List.mem_of_getLast? hcl;refine⟨ys,hys,_,dX hxl,pl,rfl,_,hpl,_,cW,∅,λl9 H9 hl9 S9 h9=>hN4 _ _ ?_⟩;have ru8:=aI.flat_but e7 B8 _ _ (bA _) (aI.same S47 _ _ ru4);have r58:=aI.flat_but e7 B8 _ _ (bA _) (aI.same (S6.trans S7) _ _ r5);have r78:=aI.flat_but e7 B8 _ _ (bA _) r7;have good:∀x∈[u0,v5,v7,v8,ul],∃q,aI (vw K H9) (fr q) x/\nu q:=λx hx=>by
   simp only[Y0,Y1,Y2] at hx;have x0:=(s2 _ (YQ n0)).1;rcases hx with rfl|rfl|rfl|rfl|rfl
   .exact⟨_,aI.same S9 _ _ ru8,Sx.spot fc0 (x0.mono ∅)⟩
   .refine⟨_,aI.same S9 _ _ r58,Sx.spot (ox fc0 f4) ?_⟩;obtain⟨n,e,l⟩:=x0;obtain⟨m,e',l'⟩:=x4;exact⟨n-m,by rw[tT fc0.ne f4.ne,e,e',Xi];grind,()⟩
   .refine⟨_,aI.same S9 _ _ r78,?_⟩;obtain⟨n,e,l⟩:=x0;refine zj (n:=5*n+6) (i4 fc0 f15) ?_ ();have z:wv (1,5)=1/5:=rfl;rw[kG fc0.ne f15.ne,e,z,Xd,Xe,show ((5:Int):Rat)=5 from rfl,show ((6:Int):Rat)=6 from rfl]
    grind
   .exact⟨_,aI.same S9 _ _ r8,Sx.spot f8 (x8.mono ∅)⟩
   .exact⟨_,aI.same S9 _ _ rul,Sx.spot (f2 _ hclm).1 ((s2 _ hclm).1.mono ∅)⟩
  have st9:=st8.same S9;obtain⟨_,_,e9,_⟩:=id st9;symm
  simp only[eI];symm
  refine⟨st9,∅,∅,λra H10 ra0 ra1 B10 st10=>?_⟩;obtain⟨m,hm⟩ : ∃m:Nat,1+ra=(m:Int):=⟨(1+ra).toNat,()⟩;rw[hm];refine⟨a2,cs,m,rfl,(l8.same S9).stBut (fB cs) (mw cs) st9 B10,(),(),λc hc=>⟨(f2 c hc).1,(f2 c hc).2,(b2 c hc).1,(b2 c hc).2⟩,λbq H11 qs S11 l11 _ n11 q11=>?_⟩;have st11:=st10.same S11;obtain⟨_,_,e11,_⟩:=id st11;symm
  refine⟨st11,∅,∅,λrb H12 rb0 rb1 B12 st12=>?_⟩;obtain⟨v,hv,hmv⟩:=lZ (xs:=[u0,v5,v7,v8,ul]) rb0 (by simpa using rb1)
  obtain⟨q,rq,fq⟩:=good v hmv;have nl:l9≠st:=st8.ne hl9;refine⟨_,B12 _ _ nl (S11 _ _ (B10 _ _ nl h9)),v,hv,∅,λp13 H13 hp13 S13 h13=>?_⟩;refine h p13 bq v H13 qs q (B1.trans (B2.trans (B4.trans ((fV.of S47).trans (B8.trans ((fV.of S9).trans (B10.trans ((fV.of S11).trans (B12.same_trans S13)))))))) ) (st12.same S13) h13 ((l11.stBut st11 B12).same S13) (aI.same S13 _ _ (aI.flat_but e11 B12 _ _ (bA _) (aI.same S11 _ _ (aI.flat_but e9 B10 _ _ (bA _) rq)))) () () (λp hp=>?_) fq;obtain⟨k,hk⟩:=XR hp;obtain⟨z1,z2⟩:=q11 k p hk;have lk:=(List.getElem?_eq_some_iff.mp hk).1;exact (vI s2 () () z1 z2).mono ∅
theorem yH{S u v:Nat->Rat}{a b:Nat}(bv:Bd b v)(h:a+b<=20):ak (λm=>pr u v a m) S (a+b)=ip S u v a b:=by
 rw[BH bv h];have:=dR (f:=λm=>pr u v a m) (h:=S) (n:=a+b) (λi hi=>by
  show pr u v a i*S i=0;rw[eU bv _ _ ()];grind) (20-(a+b))
 rw[show a+b+(20-(a+b))=20 by nofun] at this
 exact this.symm
theorem FH(fs:List (Int×Int)):Bd fs.length (cf fs):=λi hi=>aE hi
theorem FQ{f:Nat->Rat}:∀n k,pr f (cf []) n k=0
 | 0,_=>rfl
 | n+1,k=>by
  show pr f (cf []) n k+(if n<=k then f n*cf [] (k-n) else 0)=0
  rw[FQ n k,CB];split<;>grind
def zN(n:Nat)(fs gs:List (Int×Int)):Prop:=fs=[]\/gs=[]\/fs.length+gs.length<=n+1
def As(qs fs gs:List (Int×Int)):Rat:=ip (cf qs) (cf fs) (cf gs) fs.length gs.length
theorem oC{n:Nat}{fs gs us:List (Int×Int)}(h:zN n fs gs)(pu:aL us)(eu:∀k,cf us k=pr (cf fs) (cf gs) fs.length k):us.length<=n:=by
 rcases h with z|z|z
 .refine Yg (iy (m:=0) pu λm hm=>?_) ();rw[eu,z];rfl
 .refine Yg (iy (m:=0) pu λm hm=>?_) ();rw[eu,z];exact FQ _ _
 .by_cases e:fs.length+gs.length=0
  .refine Yg (iy (m:=0) pu λm hm=>?_) ();rw[eu,show fs=[] from List.length_eq_zero_iff.mp ()]
   rfl
  .refine Yg (iy (m:=fs.length+gs.length-1) pu λm hm=>?_) ();rw[eu];exact eU (n:=gs.length) (λj hj=>aE hj) _ _ ()
theorem wm{q:Int×Int}(f:Fq q):q.1<0↔wv q<0:=by
 have p:(0:Rat)<((q.2:Int):Rat)⁻¹:=Rat.inv_pos.mpr (by exact_mod_cast f.1)
 unfold wv;rw[XB];constructor
 .intro z;have z':((q.1:Int):Rat)<0:=by exact_mod_cast z
  have:=XC (show (0:Rat) < -((q.1:Int):Rat) by grind) p
  grind
 .intro z;refine Int.not_le.mp λy=>?_;have y':(0:Rat)<=((q.1:Int):Rat):=by exact_mod_cast y
  have:=Rat.mul_nonneg y' (Rat.le_of_lt p);grind
def mT(qs:List (Int×Int))(d:D):Prop:=(∃fs,d=.tup [.str "below",.lst (fs.map fr)]/\aL fs/\zN qs.length fs fs/\As qs fs fs<0)\/X2 λfs gs=>d=.tup [.str "nought",.lst (fs.map fr),.lst (gs.map fr)]/\aL fs/\aL gs/\zN qs.length fs fs/\zN qs.length fs gs/\As qs fs fs=0/\As qs fs gs≠0
def KT(d:D):Prop:=∀ds,d=.tup ds -> ∀e∈ds,∀fs:List (Int×Int),e=.lst (fs.map fr)->aL fs->fs.length<=14 /\ ∀q∈fs,Bq 2000 q
theorem rY{H:Hp}{d:D}{x:V}{w:Str}(r:aI H d x):x=.str w↔d=.str w:=by
 cases d with
 | str y=>unfold aI at r;subst r;exact⟨λz=>(by cases z;rfl),λz=>(by cases z;rfl)⟩
 | non=>unfold aI at r;subst r;exact⟨λz=>(by cases z),λz=>(by cases z)⟩
 | bl b=>unfold aI at r;subst r;exact⟨λz=>(by cases z),λz=>(by cases z)⟩
 | int i=>unfold aI at r;subst r;exact⟨λz=>(by cases z),λz=>(by cases z)⟩
 | dict=>unfold aI at r;obtain⟨_,_,rfl,_⟩:=r;exact⟨λz=>(by cases z),λz=>(by cases z)⟩
 | tup ds=>obtain⟨_,_,rfl,_⟩:=r.tup_at;exact⟨λz=>(by cases z),λz=>(by cases z)⟩
 | lst ds=>obtain⟨_,_,rfl,_⟩:=r.lst_at;exact⟨λz=>(by cases z),λz=>(by cases z)⟩
def dz(qs:List (Int×Int))(q:Int×Int)(rs:List (Int×Int)):Prop:=rs.length=qs.length-1 /\ ∀(k:Nat)(p:Int×Int),rs[k]? = some p->Fq p/\wv p=cf qs (k+1)-wv q*cf qs k
theorem dz.uniq{qs rs rs':List (Int×Int)}{q:Int×Int}(h:dz qs q rs)(h':dz qs q rs'):rs=rs':=List.ext_getElem (h.1.trans h'.1.symm) λi h1 h2=>by
 obtain⟨a1,a2⟩:=h.2 i _ (YR h1);obtain⟨b1,b2⟩:=h'.2 i _ (YR h2);exact gY a1 b1 (a2.trans b2.symm)
def Db(qs:List (Int×Int))(q:Int×Int)(d:D):Prop:=X2 λ(ds:List D)(t:Int)=>d=.tup (ds++[.int t])/\((t=0/\mT qs (.tup ds))\/(t=1/\1<qs.length /\ ∃rs,dz qs q rs/\mT rs (.tup ds)))
theorem oB{qs:List (Int×Int)}{q:Int×Int}{es:List D}{t:Int}:Db qs q (.tup (es++[.int t]))↔(t=0/\mT qs (.tup es))\/(t=1/\1<qs.length /\ ∃rs,dz qs q rs/\mT rs (.tup es)):=by
 refine⟨λ⟨ds,t',e,h⟩=>?_,λh=>⟨es,t,rfl,h⟩⟩;injection e with e
 obtain⟨e1,e2⟩:=List.append_inj' e rfl;injection e2 with e2 _
 injection e2 with e2
 subst e1 e2;exact h
def xC(W:Nat->Int)(n M:Nat):Prop:=Dk W M<0\/(Dk W M=0 /\ ¬ wr W (M-1) n)
theorem Ld{qs:List (Int×Int)}{W:Nat->Int}{B:Int}{M:Nat}(cl:kv qs W B)(my:og W qs.length M)(nf:¬ xC W qs.length M) {f:Nat->Rat}{L:Nat}(hf:∀i,L<=i->f i=0)(hL:2*L<=qs.length+1):0<=ip (cf qs) f f L L/\(ip (cf qs) f f L L=0 -> ∀(v:Nat->Rat)(N:Nat),L+N<=qs.length+1->ip (cf qs) f v L N=0):=by
 have m1:=my.one;have m2:=my.most;have hB:=cl.pos;by_cases d0:Dk W M=0
 .have ng:wr W (M-1) qs.length:=XD λz=>nf (.inr ⟨d0,z⟩);have dk:=my.up (M-1) ();obtain⟨r,r0,hr⟩:=KN (n:=qs.length) () cl.val (show Dk W (M-1)≠0 by nofun) ng L f hf
  have e1:ip (cf qs) f f L L=ip (cf qs) r r (M-1) (M-1):=by
   rw[hr f L (),dC,hr r (M-1) ()]
  obtain⟨p1,p2⟩:=pd hB cl.val (M-1) (λi hi=>my.up i ()) r r0;rw[e1];refine⟨p1,λz v N hN=>?_⟩;rw[hr v N hN];exact yv (p2 z)
 .have d1:0<Dk W M:=by
   have:¬ Dk W M<0:=λz=>nf (.inl z);nofun
  have lM:L<=M:=by
   rcases my.all with z|z<;>nofun
  obtain⟨p1,p2⟩:=pd hB cl.val M (λi hi=>by
   by_cases e:i=M
   .rw[e];exact d1
   .exact my.up i ()) f (λi hi=>hf i ())
  have e1:ip (cf qs) f f L L=ip (cf qs) f f M M:=by
   rw[<-nL hf lM,dC,<-nL hf lM]
  rw[e1];exact⟨p1,λz v N _=>yv (p2 z)⟩
theorem ye{qs:List (Int×Int)}{W:Nat->Int}{B:Int}{k:Nat}(cl:kv qs W B)(dk:0<Dk W k):ip (cf qs) (Pk W k) (Pk W k) (k+1) (k+1)=((Dk W (k+1):Int):Rat)/(((Dk W k:Int):Rat)*(B:Rat)):=by
 rw[rG () (by have:=cl.pos;nofun) cl.val (Yp _)]
 show ak (Pk W k) _ k+Pk W k k*(((Lq W k k:Int):Rat)/_)=_;rw[aW k λi hi=>by rw[gh hi,show ((0:Int):Rat)=0 from rfl];grind,fb,fS ()]
 grind
theorem uV{qs:List (Int×Int)}{W:Nat->Int}{B:Int}{k i:Nat}{v:Nat->Rat}(cl:kv qs W B)(dk:0<Dk W k)(hv:∀j,v j=if j=i then 1 else 0):ip (cf qs) (Pk W k) v (k+1) (i+1)=((Lq W k i:Int):Rat)/(((Dk W k:Int):Rat)*(B:Rat)):=by
 rw[dC,rG () (by have:=cl.pos;nofun) cl.val (Yp _)]
 show ak v _ i+v i*(((Lq W k i:Int):Rat)/_)=_;rw[aW i λj hj=>by rw[hv,Yc ()];grind,hv,Yb rfl]
 grind
theorem AB{qs:List (Int×Int)}{W:Nat->Int}{B:Int}{M:Nat}(cl:kv qs W B)(my:og W qs.length M)(nf:xC W qs.length M):jG (cf qs) qs.length:=by
 obtain⟨k,rfl⟩ : ∃k,M=k+1:=⟨M-1,by have:=my.one;nofun⟩
 have m2:=my.most;have dk:=my.up k ();have hB:=cl.pos;have p:(0:Rat)<((Dk W k:Int):Rat)*(B:Rat):=XC (by exact_mod_cast dk) (by exact_mod_cast hB)
 have ip:=Rat.inv_pos.mpr p;have sq:=ye cl dk;rcases nf with z|⟨z,ng⟩
 .refine⟨Pk W k,k+1,λ_=>0,0,λi hi=>jw (),(),(),.inl ?_⟩;rw[sq,XB];have zq:((Dk W (k+1):Int):Rat)<0:=by exact_mod_cast z
  have:=XC (show (0:Rat) < -((Dk W (k+1):Int):Rat) by grind) ip
  grind
 .obtain⟨i,hi⟩:=Classical.not_forall.mp ng;obtain⟨hi,Li⟩:=Classical.not_imp.mp hi;rw[XE] at hi Li;refine⟨Pk W k,k+1,λj=>if j=i then 1 else 0,i+1,λi hi=>jw (),(),(),.inr ⟨?_,?_⟩⟩
  .rw[sq,z,show ((0:Int):Rat)=0 from rfl]
   grind
  .rw[uV cl dk λ_=>rfl];have c:=ao Li;have pn:((Dk W k:Int):Rat)*(B:Rat)≠0:=⋯;rw[XB];intro y;rcases Rat.mul_eq_zero.mp y with y|y
   .exact c y
   .grind
theorem pL{qs:List (Int×Int)}{W:Nat->Int}{B:Int}{M:Nat}(cl:kv qs W B)(my:og W qs.length M)(b:jG (cf qs) qs.length):xC W qs.length M:=XD λnf=>by
 obtain⟨f,L,v,N,hf,hL,hN,z⟩:=b;obtain⟨p1,p2⟩:=Ld cl my nf hf hL;rcases z with z|⟨z,y⟩
 .grind
 .exact y (p2 z v N hN)
def AK(G:Hp)(p:Addr)(qs:List (Int×Int)):Prop:=X2 λ(l:Addr)(fs:List (Int×Int))=>aL fs/\fs.length<=11/\(∀q∈fs,Bq 2000 q)/\aK G l fs/\((G p=some (.tup [.str "below",.ref l])/\zN qs.length fs fs/\As qs fs fs<0)\/X2 λ(l2:Addr)(gs:List (Int×Int))=>G p=some (.tup [.str "nought",.ref l,.ref l2])/\aK G l2 gs/\aL gs/\gs.length<=11/\(∀q∈gs,Bq 2000 q)/\zN qs.length fs fs/\zN qs.length fs gs/\As qs fs fs=0/\As qs fs gs≠0)
theorem Dj.barAt{qs:List (Int×Int)}{W:Nat->Int}{B:Int}{M:Nat}{G:Hp}{p:Addr}{s:Str}(o:Dj qs W B M G p s)(l11:qs.length<=11)(cl:kv qs W B)(my:og W qs.length M)(nf:xC W qs.length M)(bs:s = "below" \/ s = "nought"):AK G p qs:=by
 obtain⟨k,rfl⟩ : ∃k,M=k+1:=⟨M-1,by have:=my.one;nofun⟩
 have m2:=my.most;have dk:=my.up k ();have hB:=cl.pos;have pp:(0:Rat)<((Dk W k:Int):Rat)*(B:Rat):=XC (by exact_mod_cast dk) (by exact_mod_cast hB)
 obtain⟨l,ys,hp,_,_,_,h5,h6⟩:=o.at_;rw[XE] at h5 h6;have kind:=o.kind;rw[XE] at kind;have fin:∀{fs:List (Int×Int)},aL fs->(∀j,cf fs j=Pk W k j)->fs.length=k+1/\(∀q∈fs,Bq 2000 q)/\zN qs.length fs fs/\As qs fs fs=((Dk W (k+1):Int):Rat)/(((Dk W k:Int):Rat)*(B:Rat)):=λpo num=>by
  have lr:=ko po (show Dk W k≠0 by nofun) num
  have pb:=(By (show Dk W k≠0 by nofun) () cl.bt).congr num
  refine⟨lr,λq hq=>(pb.bq po.1 q hq).mono ∅,.inr (.inr ()),?_⟩;unfold As;rw[lr,show cf _=Pk W k from funext num]
  exact ye cl dk
 rcases bs with rfl|rfl
 .obtain⟨rfl,rs,a1,a2,a3⟩:=h5 rfl;obtain⟨lr,b2,ft,e⟩:=fin a2 a3;refine⟨l,rs,a2,(),b2,a1,.inl ⟨hp,ft,?_⟩⟩;have d0:Dk W (k+1)<0:=by
   rcases kind with ⟨z,_⟩|⟨_,_,z⟩|⟨_,_,z⟩|⟨_,z⟩
   .exact z
   .exact absurd z ∅
   .exact absurd z ∅
   .exact absurd z ∅
  rw[e,XB];have zq:((Dk W (k+1):Int):Rat)<0:=by exact_mod_cast d0
  have:=XC (show (0:Rat) < -((Dk W (k+1):Int):Rat) by grind) (Rat.inv_pos.mpr pp)
  grind
 .obtain⟨l2,i,rs,rfl,a1,a2,a3,a4,a5,a6,_⟩:=h6 rfl;obtain⟨lr,b2,ft,e⟩:=fin a2 a3;have d0:Dk W (k+1)=0:=by
   rcases kind with ⟨_,z⟩|⟨z,_⟩|⟨_,_,z⟩|⟨_,z⟩
   .exact absurd z ∅
   .exact z
   .exact absurd z ∅
   .exact absurd z ∅
  have px:aL (List.replicate i (0,1)++[((1:Int),(1:Int))]):=⟨λq hq=>by
   rcases List.mem_append.mp hq with z|z
   .rw[(List.mem_replicate.mp z).2];exact nG
   .cases List.mem_singleton.mp z;exact⟨∅,∅⟩,λq hq=>by
   rw[List.getLast?_append] at hq;cases hq;decide⟩
  refine⟨l,rs,a2,(),b2,a1,.inr ⟨l2,_,hp,a4,px,by simp;nofun,λq hq=>?_,ft,.inr (.inr (by simp;nofun)),?_,?_⟩⟩
  .rcases List.mem_append.mp hq with z|z
   .rw[(List.mem_replicate.mp z).2];exact CH ∅
   .cases List.mem_singleton.mp z;exact Bq.mono (m:=2) ⟨∅,∅⟩ ∅
  .rw[e,d0,show ((0:Int):Rat)=0 from rfl]
   grind
  .unfold As;rw[lr,show cf rs=Pk W k from funext a3,show (List.replicate i ((0:Int),(1:Int))++[((1:Int),(1:Int))]).length=i+1 by simp,uV cl dk (v:=cf (List.replicate i (0,1)++[((1:Int),(1:Int))])) λj=>by
    rw[uW];by_cases z:j<i
    .rw[Yb z,Yc ()]
    .rw[Yc z];by_cases y:j=i
     .rw[Yb y,y,XF];exact FG
     .rw[Yc y,aE (by simp;nofun)]]
   have c:=ao a6;have pn:((Dk W k:Int):Rat)*(B:Rat)≠0:=⋯;rw[XB];intro y;rcases Rat.mul_eq_zero.mp y with y|y
   .exact c y
   .grind
inductive mv (K:W.Frag)(vs:List V)(H:Hp)(Q:VK)(E:XK):Prop
 | mk (a b:Addr)(us rs:List (Int×Int))(d n:Nat)(D:Int):vs=[.ref a,.ref b,.int n]->aK (vw K H) a us->aK (vw K H) b rs->rs.length=d+1->d<=6->n<=20->us.length<=40->(∀q∈us,Fq q)->(∀q∈rs,Fq q)->D≠0->Bt 1100 D->Ob D 1103 (cf us)->Ob D 1100 (cf rs)->(∀(c:Addr) H' ts,aB (vw K H) (vw K H')->vw K H c=none->aK (vw K H') c ts->ts.length=n->(∀q∈ts,Fq q)->(∀k,k<n -> ∃z:Int,cf ts k=(z:Rat)/((D^(k+1):Int):Rat)/\Bt (1120*(k+1)) z)->(∀k,k<n->ic (cf us) (cf rs) d (cf ts) k)->Q (.ref c) H')->mv K vs H Q E
theorem zo(F:dO K "_law_falling" "_law_falling" mB f fd) (T:eA K mg)(zCminus:cn P w K mg base "_law_minus" ["_law_one", "_law_other"] 3 (lV K)) (zCtimes:cn P w K mg base "_law_times" ["_law_one", "_law_other"] 3 (dN K)):bU P w K mg base dP 4 f fd ["_law_upper", "_law_under", "_law_many"] (mv K):=by
 have scN:=rH.nd;refine F.okQ rH ?_ ?_;walk_at "q"
 .obtain⟨_,_,_,_,_,_,_,rfl,_⟩:=h;rfl
 .obtain⟨a,b,us,rs,d,n,D,rfl,ha,hb,lr,d6,n20,lu,fu,fr',D0,bD,oU,oR,h⟩:=h;refine⟨_,(af (aC (i:=3) scN rfl (·) (ar cj (ai aq (by rfl) T.b_len aF (aa (qv 1) ac)) ae))
   (af (aC (i:=4) scN rfl (·) (aT ac))
   (af (cK PassesOwn.never rfl (cz rfl T.b_range (aa (qv 2) ac)) (am (i:=5) scN rfl (·)) (af (aC (i:=6) scN rfl (·) (aR (aa ae (aa ae ac))))
   (af (bY (uv yW ky ae (ar cj (ar cj (qv 3) ae) (qv 5)) (ai aq (by rfl) T.b_len aF (aa (qv 0) ac)) (yJ _ _)) (ag (aC (i:=6) scN rfl (·) (aw cI (qv 0) (ar cj (ar cj (qv 3) ae) (qv 5)) (λ_ _=>rfl)))) aN)
   (af (cK PassesOwn.never rfl (mr rfl T.b_range (aa ae (aa (ar bQ (ai (rE rfl) (by rfl) T.b_min Ch (aa (qv 5) (aa (qv 3) ac))) ae) ac))) (am (i:=7) scN rfl (·)) (ag (aC (i:=6) scN rfl (·) (ah zCminus nofun rfl (aa (qv 6) (aa (ah zCtimes nofun rfl (aa (aw cI (qv 1) (ar cj (qv 3) (qv 7)) (λ_ _=>rfl)) (aa (aw cI (qv 4) (ar cj (qv 5) (qv 7)) (λ_ _=>rfl)) ac))) ac))))))
   (ag (gH (nr XN XS XT ee (qv 4) (aa (qv 6) ac))))))))
   (ag (av (qv 4)))))),?_⟩
  walk_at"m";skip
  refine aM.gen λN1 hN1=>?_;symm
  refine⟨_,hb.len,hN1 _ _ ?_⟩;rw[show ((rs.length:Nat):Int)-1=(d:Int) by nofun]
  refine aM.gen λN2 hN2=>?_;symm
  refine⟨∅,λc1 H1 hc1 S1 h1=>hN2 _ _ ?_⟩;refine aM.gen λN3 hN3=>?_;symm
  obtain⟨us',hus,rus⟩:=id ha;obtain⟨rs',hrs,rrs⟩:=id hb;have lus:us'.length=us.length:=by rw[rus.length,YC]
  have lrs:rs'.length=rs.length:=by rw[rrs.length,YC]
  obtain⟨Pv,hPv⟩ : ∃Pv:Nat->St->Hp->Prop,∀k σ H',Pv k σ H'↔X4 λ(ts:List (Int×Int))(o5 o6 o7:Option V)=>σ=[some (.ref a),some (.ref b),some (.int n),some (.int d),some (.ref c1),o5,o6,o7]/\aB (vw K H) (vw K H')/\aK (vw K H') c1 ts/\ts.length=k/\(∀q∈ts,Fq q)/\(∀k,k<ts.length -> ∃z:Int,cf ts k=(z:Rat)/((D^(k+1):Int):Rat)/\Bt (1120*(k+1)) z) /\ ∀k,k<ts.length->ic (cf us) (cf rs) d (cf ts) k:=⟨_,λ_ _ _=>XH⟩;refine⟨(),(),ce (its:=fj 0 _) Pv (λ_ _ _ _ _=>aV) ((hPv _ _ _).mpr ⟨[],_,_,_,rfl,S1,⟨[],h1,.mk_nil⟩,rfl,by simp,by simp,by simp⟩) (λk x σ H2 hk hx pv=>?_) (λσ H2 pv=>?_)⟩
  .obtain⟨ts,o5,o6,o7,rfl,S2,lt,lts,ft,bt,rt⟩:=(hPv _ _ _).mp pv;obtain⟨hk',rfl⟩:=da hx;refine aM.gen λN4 hN4=>?_;symm
   refine⟨∅,λp3 H3 hp3 S3 h3=>hN4 _ _ ?_⟩;rw[XO];obtain⟨P,hP⟩ : ∃P:Int,P=D^(k+1):=⟨_,rfl⟩;have P0:P≠0:=by rw[hP];exact XA D0
   have cP:=ao P0;refine aM.gen λN5 hN5=>?_;have key:∀(v:V)(H4:Hp)(r:Int×Int)(o7:Option V),aB (vw K H3) (vw K H4)->aI (vw K H4) (fr r) v->Fq r->wv r=(if k<d then cf us (d-1-k) else 0)->N5 [some (.ref a),some (.ref b),some (.int n),some (.int d),some (.ref c1),some (.int k),some v,o7] H4:=by
    intro v H4 r o7 S4 rv fr0 wv0;refine hN5 _ _ ?_;refine aM.gen λN6 hN6=>?_;symm
    obtain⟨Pi,hPi⟩ : ∃Pi:Nat->St->Hp->Prop,∀j σ H',Pi j σ H'↔X3 λ(v:V)(r:Int×Int)(o7:Option V)=>σ=[some (.ref a),some (.ref b),some (.int n),some (.int d),some (.ref c1),some (.int k),some v,o7]/\aB (vw K H4) (vw K H')/\aI (vw K H') (fr r) v/\Fq r/\wv r=(if k<d then cf us (d-1-k) else 0)-ak (λb=>cf rs (d-1-b)) (λb=>cf ts (k-1-b)) j /\ ∃z:Int,wv r=(z:Rat)/(P:Rat)/\z.natAbs*1024<=2^(1120*(k+1))*(1+j):=⟨_,λ_ _ _=>XH⟩
    have S34:=S2.trans (S3.trans S4);have lt4:=lt.same (S3.trans S4);obtain⟨mn,hmn⟩ : ∃mn,mn=min k d:=⟨_,rfl⟩;have emn:((if (d:Int)<(k:Int) then (d:Int) else (k:Int))+1-1).toNat=mn:=by split<;>nofun
    rw[emn];obtain⟨zs',hzs,rzs⟩:=id lt4;have big:(1:Nat)<=2^(1120*(k+1)):=Nat.one_le_two_pow;have c0:((0:Int):Rat)=0:=rfl;have start:∃z:Int,wv r=(z:Rat)/(P:Rat)/\z.natAbs*1024<=2^(1120*(k+1))*(1+0):=by
     rw[wv0];split
     .obtain⟨m,em,bm⟩:=oU (d-1-k);have bD':=bD.pow1 k;refine⟨m*D^k,?_,?_⟩
      .have c:=ao D0;have ck:=ao (show D^k≠0 from XA D0)
       rw[em,hP,Xz,Xe,Xe];grind
      .have q:=bm.mul bD';unfold Bt at q;have e:2^(1120*(k+1))=2^(1103+(1100*k+1))*2^(20*k+16):=by rw[<-YX];congr 1;nofun
       have e2:1024<=2^(20*k+16):=Yg (show 1024<=2^16 by decide) (YV ∅ ())
       rw[Nat.mul_one,e];exact Xq (Yh q) e2
     .exact⟨0,by rw[c0];grind,by simp⟩
    refine⟨∅,∅,by split<;>nofun,by split<;>nofun,ce (its:=fj 1 mn) Pi (λ_ _ _ _ _=>aV) ((hPi _ _ _).mpr ⟨v,r,_,rfl,.rfl,rv,fr0,by show _=_-0;grind,start⟩) (λj x σ H5 hj hx pj=>?_) (λσ H5 pj=>?_)⟩
    .obtain⟨v,r,o7,rfl,S5,rv,fr0,wv0,z,ez,bz⟩:=(hPi _ _ _).mp pj;obtain⟨hj',rfl⟩:=da hx;have S05:=S34.trans S5;have jd:j+1<=d:=();have jk:j+1<=k:=();have h1:d-1-j<rs.length:=K0 ();have h2:k-1-j<ts.length:=K5 () jk;obtain⟨v1,e1,r1⟩:=rrs.at (i:=d-1-j) (d:=fr rs[d-1-j]) (by rw[Yz,YR h1];rfl)
     obtain⟨v2,e2,r2⟩:=rzs.at (i:=k-1-j) (d:=fr ts[k-1-j]) (by rw[Yz,YR h2];rfl)
     have f1:=fr' _ (YQ h1);have f2:=ft _ (YQ h2);have w1:wv rs[d-1-j]=cf rs (d-1-j):=(aA (YR h1)).symm;have w2:wv ts[k-1-j]=cf ts (k-1-j):=(aA (YR h2)).symm;obtain⟨n1,en1,bn1⟩:=oR (d-1-j);obtain⟨z2,ez2,bz2⟩:=bt (k-1-j) h2;generalize hq1:rs[d-1-j]=q1 at r1 f1 w1;generalize hq2:ts[k-1-j]=q2 at r2 f2 w2;have bq1:Bq 1100 q1:=ik f1 (w1.trans en1) D0 bn1 bD;have bq2:Bq 23000 q2:=ik f2 (w2.trans ez2) (XA D0) (bz2.mono ()) ((bD.pow1 _).mono ());have bzB:Bt (1120*(k+1)) z:=by
      unfold Bt;have:=Xw (2^(1120*(k+1))) (K9 jd d6);nofun
     have bqr:Bq 23600 r:=ik fr0 ez P0 (bzB.mono ()) (by rw[hP];exact (bD.pow1 _).mono ())
     symm
     refine⟨rs',S05 _ _ hrs,v1,by rw[KS jd];exact bO e1,zs',S5 _ _ hzs,v2,by rw[KS jk];exact bO e2,?_⟩
     simp only[dN];refine⟨v1,v2,q1,q2,rfl,aI.same S05 _ _ r1,aI.same S5 _ _ r2,f1.ne,f2.ne,bq1.mono ∅,bq2.mono ∅,(bq1.2.mul bq2.2).mono ∅,λv6 H6 S6 r6=>?_⟩;have f6:=gJ f1 f2;have w6:=ja f1.ne f2.ne;have b6:Bq 24100 (kT q1 q2):=i3 f1 f2 bq1 bq2;generalize kT q1 q2=q6 at r6 f6 w6 b6;refine⟨v,v6,r,q6,rfl,aI.same S6 _ _ rv,r6,fr0.ne,f6.ne,bqr.mono ∅,b6.mono ∅,(bqr.2.mul b6.2).mono ∅,λv7 H7 S7 r7=>?_⟩;have ev:wv (vF r q6)=wv r-wv q1*wv q2:=by rw[tT fr0.ne f6.ne,w6]
     refine (hPi _ _ _).mpr ⟨v7,vF r q6,_,rfl,S5.trans (S6.trans S7),r7,ox fr0 f6,?_,z-n1*z2*D^j,?_,?_⟩
     .rw[ev,wv0,w1,w2];show _=_-(ak (λb=>cf rs (d-1-b)) (λb=>cf ts (k-1-b)) j+cf rs (d-1-j)*cf ts (k-1-j));grind
     .have c:=ao D0;have ca:=ao (show D^(k-1-j+1)≠0 from XA D0)
      have cb:=ao (show D^j≠0 from XA D0)
      have eP:(P:Rat)=(D:Rat)*((D^(k-1-j+1):Int):Rat)*((D^j:Int):Rat):=by
       rw[hP,<-Xe,<-Xe];congr 1
       rw[Lc jk,Int.pow_add,Int.pow_add,Int.pow_one]
      rw[ev,ez,w1,w2,en1,ez2,Xi,Xe,Xe,eP];generalize ((D^(k-1-j+1):Int):Rat)=x1 at ca ⊢;generalize ((D^j:Int):Rat)=x2 at cb ⊢;grind
     .have q:=(bn1.mul bz2).mul (bD.pow1 j);unfold Bt at q;have e:2^(1120*(k+1))=2^(1100+1120*(k-1-j+1)+(1100*j+1))*2^(19+20*j):=by rw[<-YX];exact Yn _ (K4 jk)
      have e2:1024<=2^(19+20*j):=Yg (show 1024<=2^19 by decide) (YV ∅ ())
      have e3:(n1*z2*D^j).natAbs*1024<=2^(1120*(k+1)):=by
       rw[e];exact Xq (Yh q) e2
      have e4:=Int.natAbs_sub_le z (n1*z2*D^j);have e5:2^(1120*(k+1))*(1+(j+1))=2^(1120*(k+1))*(1+j)+2^(1120*(k+1)):=by rw[<-Xx,Nat.mul_succ]
      nofun
    .obtain⟨v,r,o7,rfl,S5,rv,fr0,wv0,z,ez,bz⟩:=(hPi _ _ _).mp pj;rw[cp] at wv0 bz;have bzB:Bt (1120*(k+1)) z:=by
      unfold Bt;have:=Xw (2^(1120*(k+1))) (show 1+mn<=7 by nofun)
      nofun
     refine hN6 _ _ ?_;symm
     have lt5:=lt4.same S5;obtain⟨ys,hys,rys⟩:=id lt5;have lys:ys.length=ts.length:=by rw[rys.length,YC]
     have S15:=S3.trans (S4.trans S5);have low:∀i,i<ts.length->cf (ts++[r]) i=cf ts i:=λi hi=>by rw[ol,Yc ()]
     have top:cf (ts++[r]) k=wv r:=by rw[ol,Yb ()]
     refine⟨iJ hys,ys,hys,?_,λH6 B6 h6=>(hPv _ _ _).mpr ⟨ts++[r],_,_,_,rfl,λx o e=>B6 _ _ (aj e hc1) ((S34.trans S5) _ _ e),⟨_,h6,?_⟩,by rw[YB,lts];rfl,λq hq=>?_,λi hi=>?_,λi hi=>?_⟩⟩
     .have:1000<=sizeLine:=∅;nofun
     .rw[XI];exact (aJ.flat_but hys B6 _ _ (cJ _) rys).snoc (aI.flat_but hys B6 _ _ (bA _) rv)
     .rcases List.mem_append.mp hq with y|y
      .exact ft q y
      .rw[List.mem_singleton.mp y];exact fr0
     .rw[YB,YJ] at hi;rcases Xt i ts.length with y|y
      .rw[low i y];exact bt i y
      .obtain rfl:i=k:=();rw[top,<-hP];exact⟨z,ez,bzB⟩
     .rw[YB,YJ] at hi;rcases Xt i ts.length with y|y
      .have:=rt i y;unfold ic at this ⊢;rw[low i y,this];congr 1
       exact aD _ (λ_ _=>rfl) (λb hb=>(low _ (Xv (Yg (Nat.sub_le _ _) (Nat.sub_le _ _)) y)).symm)
      .obtain rfl:i=k:=();unfold ic;rw[top,wv0,hmn];congr 1
       exact aD _ (λ_ _=>rfl) (λb hb=>(low _ ()).symm)
   symm
   simp only[sJ];symm
   have zero:¬ (k<d/\d-1-k<us.length)->N5 [some (.ref a),some (.ref b),some (.int n),some (.int d),some (.ref c1),some (.int k),some (.ref p3),o7] H3:=λhn=>key (.ref p3) H3 (0,1) o7 .rfl (aX h3) nG (by
    have z:wv (0,1)=0:=by decide +kernel
    rw[z];split
    .rw[aE ()]
    .rfl)
   refine cH (λh0=>⟨_,(ha.same (S2.trans S3)).len,cH (λh1=>?_) (λh1=>zero ())⟩) (λh0=>zero ());have hkd:k<d:=();have hi:d-1-k<us.length:=();obtain⟨v,ev,rv⟩:=rus.at (i:=d-1-k) (d:=fr us[d-1-k]) (by rw[Yz,YR hi];rfl)
   refine⟨us',(S2.trans S3) _ _ hus,v,by rw[show (d:Int)-1-(k:Int)=((d-1-k:Nat):Int) by nofun];exact bO ev,key v H3 _ o7 .rfl (aI.same (S2.trans S3) _ _ rv) (fu _ (YQ hi)) (by rw[Yb hkd,aA (YR hi)])⟩
  .obtain⟨ts,o5,o6,o7,rfl,S2,lt,lts,ft,bt,rt⟩:=(hPv _ _ _).mp pv;refine hN3 _ _ ?_;symm
   rw[cp] at lts;have e:ts.length=n:=();exact h c1 H2 ts S2 hc1 lt e ft (λk hk=>bt k ()) (λk hk=>rt k ())
def lJ(K:W.Frag):Sp:=λvs H Q _=>∃(a b:Addr)(es qs fs:List (Int×Int))(A B:Nat),vs=[.ref a,.ref b]/\aK (vw K H) a es/\(∃ext,es=qs++ext)/\aK (vw K H) b fs/\fs.length<=qs.length/\qs.length<=12/\(∀q∈qs,Fq q)/\(∀q∈fs,Fq q)/\Pb A (cf qs)/\Pb B (cf fs)/\A+B<=490000 /\
 ∀v H' r,aB (vw K H) (vw K H')->aI (vw K H') (fr r) v->Fq r->wv r=ak (cf fs) (cf qs) fs.length->Q v H'
theorem DE(F:dO K "_law_worth" "_law_worth" tX f fd) (T:eA K mg)(zCplus:cn P w K mg base "_law_plus" ["_law_one", "_law_other"] 3 (fh K)) (zCtimes:cn P w K mg base "_law_times" ["_law_one", "_law_other"] 3 (dN K)):bU P w K mg base dP 4 f fd ["_law_sums_here", "_law_f"] (lJ K):=by
 have scN:=yU.nd;refine F.okQ yU ?_ ?_;walk_at "q"
 .obtain⟨a,_,_,_,_,_,_,rfl,_⟩:=h;rfl
 .obtain⟨a,b,es,qs,fs,A1,B1,rfl,ha,⟨ext,hex⟩,hb,lf,lq,hq,hf,⟨D1,d1,d2,d3⟩,⟨E1,e1',e2',e3'⟩,ab,h⟩:=h;have bq:=Ob.bq d3 d1 d2 hq;have bf:=Ob.bq e3' e1' e2' hf;have hX:=Xc e1' d1;have bX:=e2'.mul d2;refine⟨_,(af (aC (i:=2) scN rfl (·) (aR (aa ae (aa ae ac))))
   (af (cK PassesOwn.never rfl (cz rfl T.b_range (aa (ai aq (by rfl) T.b_len aF (aa (qv 1) ac)) ac)) (am (i:=3) scN rfl (·)) (ag (aC (i:=2) scN rfl (·) (ah zCplus nofun rfl (aa (qv 2) (aa (ah zCtimes nofun rfl (aa (aw cI (qv 1) (qv 3) (λ_ _=>rfl)) (aa (aw cI (qv 0) (qv 3) (λ_ _=>rfl)) ac))) ac))))))
   (ag (av (qv 2))))),?_⟩
  walk_at"m";symm
  obtain⟨xs,hxs,rxs⟩:=id ha;obtain⟨ys,hys,rys⟩:=id hb;refine⟨∅,λp0 H0 hp0 S0 h0=>⟨_,(hb.same S0).len,(),(),?_⟩⟩;obtain⟨Pv,hPv⟩ : ∃Pv:Nat->St->Hp->Prop,∀j σ H',Pv j σ H'↔X3 λ(v:V)(q:Int×Int)(u:Option V)=>σ=[some (.ref a),some (.ref b),some v,u]/\aB (vw K H0) (vw K H')/\aI (vw K H') (fr q) v/\Fq q/\wv q=ak (cf fs) (cf qs) j:=⟨_,λ_ _ _=>XH⟩;refine ce (its:=fj 0 fs.length) Pv (λ_ _ _ _ _=>aV) ((hPv _ _ _).mpr ⟨_,(0,1),_,rfl,.rfl,aX h0,⟨∅,∅⟩,pX⟩) (λj x σ H2 hj hx pv=>?_) (λσ H2 pv=>?_)
  .obtain⟨v,q,u,rfl,S2,r2,f2,w2⟩:=(hPv _ _ _).mp pv;obtain⟨hj',rfl⟩:=da hx;have hjq:j<qs.length:=();obtain⟨vi,e1,ri⟩:=rys.at (i:=j) (d:=fr fs[j]) (by rw[Yz,YR hj'];rfl)
   obtain⟨xi,e2,rxi⟩:=rxs.at (i:=j) (d:=fr qs[j]) (by rw[Yz,hex,Yy hjq,YR hjq];rfl)
   have k1:=hf _ (YQ hj');have k2:=bf _ (YQ hj');have k3:=hq _ (YQ hjq);have k4:=bq _ (YQ hjq);have b2:Bq (A1+B1+12) q:=by
    obtain⟨m,em,bm⟩:=sC e1' d1 e3' d3 j;exact ik f2 (n:=m) (by rw[w2,em]) hX (bm.mono ()) (bX.mono ())
   have S02:=S0.trans S2;symm
   simp only[dN,fh];symm
   refine⟨_,S02 _ _ hys,vi,by rw[XO];exact bO e1,_,S02 _ _ hxs,xi,by rw[XO];exact bO e2,?_⟩
   refine⟨_,aI.same S02 _ _ ri,_,aI.same S02 _ _ rxi,k1.ne,k3.ne,k2.mono (),k4.mono (),(k2.2.mul k4.2).mono (),λv3 H3 S3 r3=>?_⟩;have f3:=gJ k1 k3;have b3:=i3 k1 k3 k2 k4;refine⟨_,aI.same S3 _ _ r2,_,r3,f2.ne,f3.ne,b2.mono (),b3.mono (),(b2.2.mul b3.2).mono (),λv4 H4 S4 r4=>(hPv _ _ _).mpr ⟨_,_,_,rfl,S2.trans (S3.trans S4),r4,i4 f2 f3,?_⟩⟩;rw[kG f2.ne f3.ne,ja k1.ne k3.ne,w2];show _=ak (cf fs) (cf qs) j+cf fs j*cf qs j;rw[aA (YR hj'),aA (YR hjq)]
  .obtain⟨v,q,u,rfl,S2,r2,f2,w2⟩:=(hPv _ _ _).mp pv;rw[cp] at w2;symm
   exact h v H2 q (S0.trans S2) r2 f2 w2
inductive sj (K:W.Frag)(vs:List V)(H:Hp)(Q:VK)(E:XK):Prop
 | mk (a:Addr)(fs:List (Int×Int)):vs=[.ref a]->aK (vw K H) a fs->fs.length<=40->(∀q∈fs,Fq q/\Bq 1200 q)->(∀d H' (rs:List (Int×Int)),aB (vw K H) (vw K H')->aK (vw K H') d rs->vw K H d=none->aL rs->(∀k,cf rs k=((k+1:Nat):Int)*cf fs (k+1))->rs.length<=fs.length->Q (.ref d) H')->sj K vs H Q E
theorem EA(F:dO K "_law_slope" "_law_slope" tI f fd) (T:eA K mg)(zCclean:cn P w K mg base "_law_clean" ["_law_numbers"] 1 (jm K)) (zCtimes:cn P w K mg base "_law_times" ["_law_one", "_law_other"] 3 (dN K)):bU P w K mg base dP 4 f fd ["_law_f"] (sj K):=by
 have scN:=zh.nd;refine F.okQ zh ?_ ?_;walk_at "q"
 .obtain⟨a,_,rfl,_⟩:=h;rfl
 .obtain⟨a,fs,rfl,ha,lf,hf,h⟩:=h;refine⟨_,(ag (av (ah zCclean nofun rfl (aa (cO (own:=["_law_place"]) (outs:=["_law_f"]) (ixs:=[0]) rfl (mr rfl T.b_range (aa ae (aa (ai aq (by rfl) T.b_len aF (aa (qv 0) ac)) ac))) rfl ⟨rfl,rfl,rfl,⟨rfl,trivial⟩,rfl,⟨⟨rfl,rfl,rfl,_,rfl⟩,trivial⟩⟩ (λ_ _ _ _=>⟨(am (i:=0) (show (["_law_place", "_law_f"]:List Str).Nodup by decide +kernel) rfl (·)),cV,(ah zCtimes nofun rfl (aa (aw (show uK _ (rN K) from cI) (qv 1) (qv 0) (λ_ _=>rfl)) (aa (show QE _ _ (uH K _) from aR (aa (qv 0) (aa ae ac))) ac)))⟩)) ac)))),?_⟩
  walk_at"m";symm
  obtain⟨xs,hxs,rxs⟩:=id ha;have hlx:xs.length=fs.length:=by rw[rxs.length,YC]
  refine⟨_,ha.len,(),(),(),(),λd H1 hd S1 h1=>?_⟩;rw[show ((fs.length:Int)-1).toNat=fs.length-1 by nofun]
  have f1:∀k:Nat,Fq (((k:Nat):Int),1):=λk=>⟨Int.one_pos,by simp⟩
  refine bK (its:=fj 1 (fs.length-1)) (λi zs H'=>aB (vw K H) (vw K H') /\ ∃vs:List (Int×Int),vs.length=i/\aJ (vw K H') (vs.map fr) zs/\(∀q∈vs,Fq q) /\ ∀(j:Nat)(q:Int×Int),vs[j]? = some q->wv q=((j+1:Nat):Int)*cf fs (j+1))
   (λ_ _ _ _ _ _=>aV) h1 ⟨S1,[],rfl,.mk_nil,by simp,by simp⟩ (λi x zs H2 hi hx h2 p=>?_) (λzs H2 h2 p=>?_)
  .obtain⟨S2,vs,lv,rv,fv,hv⟩:=p;obtain⟨hi',rfl⟩:=da hx;rw[show (1:Int)+(i:Int)=((i+1:Nat):Int) by nofun]
   have hi2:i+1<fs.length:=();obtain⟨x2,e2,r2⟩:=rxs.at (i:=i+1) (d:=fr fs[i+1]) (by rw[Yz,YR hi2];rfl)
   obtain⟨k1,k2⟩:=hf fs[i+1] (YQ hi2);have bi:Bq 10 (((i+1:Nat):Int),1):=by
    refine⟨?_,(by decide:Bt 10 1)⟩
    show (((i+1:Nat):Int)).natAbs<2^10;nofun
   symm
   refine⟨xs,S2 _ _ hxs,x2,bO e2,∅,λp3 H3 hp3 S3 h3=>?_⟩;simp only[dN];symm
   refine⟨_,aI.same (S2.trans S3) _ _ r2,_,aX h3,k1.ne,(f1 (i+1)).ne,k2.mono ∅,bi.mono ∅,(k2.2.mul bi.2).mono ∅,λv4 H4 S4 r4=>.mk ((S3.trans S4) _ _ h2) ?_ λH5 B5 h5=>⟨λb o e=>B5 _ _ (aj e hd) (S4 _ _ (S3 _ _ (S2 _ _ e))),vs++[kT fs[i+1] (((i+1:Nat):Int),1)],by simp[lv],?_,λq hq=>?_,λj q e=>?_⟩⟩
   .rw[rv.length,YC,lv];have:1000<=sizeLine:=∅;nofun
   .rw[XI];exact (aJ.flat_but ((S3.trans S4) _ _ h2) B5 _ _ (cJ vs) (rv.same (S3.trans S4))).snoc (aI.flat_but ((S3.trans S4) _ _ h2) B5 _ _ (bA _) r4)
   .rcases List.mem_append.mp hq with z|z
    .exact fv q z
    .cases List.mem_singleton.mp z;exact gJ k1 (f1 (i+1))
   .by_cases hj:j<vs.length
    .rw[Yy hj] at e;exact hv j q e
    .have hj2:j=i:=by
      have:=(List.getElem?_eq_some_iff.mp e).1;simp at this;nofun
     subst hj2;rw[Yw (),lv,XF] at e;cases e;rw[ja k1.ne (f1 (j+1)).ne,aA (YR hi2)];have e1:wv (((j+1:Nat):Int),1)=((j+1:Nat):Int):=by
      show (((j+1:Nat):Int):Rat)/((1:Int):Rat)=_;have:((1:Int):Rat)=1:=rfl;rw[this];grind
     rw[e1];grind
  .obtain⟨S2,vs,lv,rv,fv,hv⟩:=p;rw[cp] at lv;symm
   simp only[jm];symm
   refine⟨vs,⟨zs,h2,rv⟩,λe H7 n' hn' hz hd' hnd S7 l7=>h e H7 (vs.take n') (S2.trans S7) l7 (S2.none hnd) (pC fv hz) (λk=>?_) (by rw[Yu];nofun)⟩
   rw[ju fv hd' k];by_cases hk:k<vs.length
   .rw[aA (YR hk)];exact hv k _ (YR hk)
   .rw[aE (),aE (qs:=fs) ()];grind
structure zX (rs qs ws:List (Int×Int))(d:Nat):Prop where
 lr:rs.length=d+1
 d6:d<=6
 one:cf rs d=1
 po:aL rs
 br:Pb 1100 (cf rs)
 pw:aL ws
 lw:ws.length<=d
 bw:Pb 440000 (cf ws)
 fw:Ed rs qs ws
 orth:∀k,k+d<qs.length->ak (cf rs) (λj=>cf qs (k+j)) (d+1)=0
inductive fM (K:W.Frag)(vs:List V)(H:Hp)(Q:VK)(E:XK):Prop
 | mk (p b w:Addr)(rs qs ws:List (Int×Int))(d n:Nat):vs=[.ref p,.int n]->vw K H p=some (.tup [.ref b,.ref w])->aK (vw K H) b rs->aK (vw K H) w ws->zX rs qs ws d->n<=12->(∀(c:Addr) H' ts,aB (vw K H) (vw K H')->vw K H c=none->aK (vw K H') c ts->ts.length=n->(∀q∈ts,Fq q)->(∀k,k<n->k<qs.length->cf ts k=cf qs k)->(∀k,k+d<n->ak (cf rs) (λj=>cf ts (k+j)) (d+1)=0)->Q (.ref c) H')->fM K vs H Q E
theorem uk(F:dO K "_law_flock_sums" "_law_flock_sums" jo f fd) (T:eA K mg)(zCfalling:cn P w K mg base "_law_falling" ["_law_upper", "_law_under", "_law_many"] 4 (mv K)) (zCslope:cn P w K mg base "_law_slope" ["_law_f"] 4 (sj K)) (zCworth:cn P w K mg base "_law_worth" ["_law_sums_here", "_law_f"] 4 (lJ K)):bU P w K mg base dP 5 f fd ["_law_flock", "_law_many"] (fM K):=by
 have scN:=lO.nd;refine F.okQ lO ?_ ?_;walk_at "q"
 .obtain⟨_,_,_,_,_,_,_,_,rfl,_⟩:=h;rfl
 .obtain⟨p,b,w',rs,qs,ws,d,n,rfl,hp,hb,hw,fo,n12,h⟩:=h;obtain⟨lr,d6,one,po,br,pw,lw,bw,fw,orth⟩:=id fo;refine⟨_,(af (cQ (qv 0) (aY (n:=2) rfl (au (am (i:=2) scN rfl (·)) (au (am (i:=3) scN rfl (·)) aZ))))
   (af (aC (i:=4) scN rfl (·) (ah zCfalling nofun rfl (aa (ah zCslope nofun rfl (aa (qv 2) ac)) (aa (qv 2) (aa (ar bQ (qv 1) (ai aq (by rfl) T.b_len aF (aa (qv 3) ac))) ac)))))
   (ag (av (cO (own:=["_law_k"]) (outs:=["_law_weights", "_law_powers"]) (ixs:=[3,4]) rfl (cz rfl T.b_range (aa (qv 1) ac)) rfl ⟨rfl,rfl,rfl,⟨rfl,⟨rfl,trivial⟩⟩,rfl,⟨⟨rfl,rfl,rfl,_,rfl⟩,⟨⟨rfl,rfl,rfl,_,rfl⟩,trivial⟩⟩⟩ (λ_ _ _ _=>⟨(am (i:=0) (show (["_law_k", "_law_weights", "_law_powers"]:List Str).Nodup by decide +kernel) rfl (·)),cV,(ah zCworth nofun rfl (aa (dc (show yl _ (Fe K) from fH) (qv 2) (dS (qv 0)) dW) (aa (qv 1) ac)))⟩)))))),?_⟩
  walk_at"m";skip
  refine aM.gen λN1 hN1=>?_;symm
  refine⟨_,hp,rfl,_,_,rfl,_,_,rfl,rfl,hN1 _ _ ?_⟩;refine aM.gen λN2 hN2=>?_;symm
  refine⟨b,rs,rfl,hb,(),λq hq=>⟨po.1 q hq,(br.bq po.1 q hq).mono ∅⟩,λc1 H1 us S1 l1 n1 p1 e1 ln1=>?_⟩;refine⟨ws.length,(hw.same S1).len,?_⟩;rw[show (n:Int)+(ws.length:Int)=((n+ws.length:Nat):Int) by nofun]
  obtain⟨D,D0,bD,oD⟩:=id br;have oU:Ob D 1103 (cf us):=λk=>by
   by_cases hk:k<d
   .obtain⟨m,em,bm⟩:=oD (k+1);refine⟨((k+1:Nat):Int)*m,?_,((show Bt 3 (((k+1:Nat):Int)) by unfold Bt;nofun).mul bm).mono ∅⟩
    rw[e1,em,Xe];grind
   .refine⟨0,?_,JJ⟩;have c0:((0:Int):Rat)=0:=rfl;rw[e1,aE (),c0];grind
  refine⟨c1,b,us,rs,d,n+ws.length,D,rfl,l1,hb.same S1,lr,d6,(),(),p1.1,po.1,D0,bD,oU,oD,λc2 H2 ts S2 n2 l2 lt2 f2 v2 r2=>hN2 _ _ ?_⟩;obtain⟨T',hT⟩:=DS (cf us) (cf rs) d;have eT:∀k,k<n+ws.length->cf ts k=T' k:=λk hk=>rp r2 (λk _=>hT k) (k+1) k () hk;have S02:=S1.trans S2;have cD:=ao D0;have bts:∀k l,Pb 40000 (cf ((ts.drop k).take l)):=λk l=>by
   refine⟨D^18,XA D0,(bD.pow1 18).mono ∅,λj=>?_⟩;by_cases hj:j<l/\k+j<ts.length
   .obtain⟨z,ez,bz⟩:=v2 (k+j) ();refine⟨z*D^(17-(k+j)),?_,(bz.mul (bD.pow1 (17-(k+j)))).mono ()⟩;have e:cf ((ts.drop k).take l) j=cf ts (k+j):=by
     have:((ts.drop k).take l)[j]? = ts[k+j]?:=by rw[Xm,Yb hj.1,Xn]
     rw[YR hj.2] at this;rw[aA this,aA (YR hj.2)]
    have ca:=ao (show D^(k+j+1)≠0 from XA D0)
    have cb:=ao (show D^(17-(k+j))≠0 from XA D0)
    have eP:((D^18:Int):Rat)=((D^(k+j+1):Int):Rat)*((D^(17-(k+j)):Int):Rat):=by
     rw[<-Xe,<-Int.pow_add];congr 2
     nofun
    rw[e,ez,eP,Xe];generalize ((D^(k+j+1):Int):Rat)=x1 at ca ⊢;generalize ((D^(17-(k+j)):Int):Rat)=x2 at cb ⊢;grind
   .refine⟨0,?_,JJ⟩;have c0:((0:Int):Rat)=0:=rfl;rw[aE (by rw[Yu,YE];nofun),c0]
    grind
  obtain⟨xs,hxs,rxs⟩:=id l2;have lxs:xs.length=ts.length:=by rw[rxs.length,YC]
  symm
  refine⟨(),(),λc3 H3 hc3 S3 h3=>?_⟩;rw[Int.toNat_natCast];refine bK (its:=fj 0 n) (λi zs H'=>aB (vw K H2) (vw K H') /\ ∃fs:List (Int×Int),aJ (vw K H') (fs.map fr) zs/\fs.length=i/\(∀q∈fs,Fq q) /\ ∀k,k<fs.length->cf fs k=ak (cf ws) (λj=>T' (k+j)) d) (λ_ _ _ _ _ _=>aV) h3 ⟨S3,[],.mk_nil,rfl,by simp,by simp⟩ (λi x zs H4 hi hx h4 z=>?_) (λzs H4 h4 z=>?_)
  .obtain⟨S4,fs,rf,lf,ff,vf⟩:=z;obtain⟨hi',rfl⟩:=da hx;rw[XO];symm
   refine⟨xs,S4 _ _ hxs,λp5 H5 hp5 S5 h5=>?_⟩;rw[iX ()] at h5;have S25:=S4.trans S5;have l5:aK (vw K H5) p5 (ts.drop i):=⟨_,h5,by rw[List.map_drop];exact (rxs.drop _).same S25⟩
   have lq:((ts.drop i).take 12).length=min 12 (n+ws.length-i):=by rw[Yu,YE,lt2]
   simp only[lJ];refine⟨p5,w',ts.drop i,(ts.drop i).take 12,ws,40000,440000,rfl,l5,⟨(ts.drop i).drop 12,(List.take_append_drop _ _).symm⟩,hw.same (S02.trans S25),(),(),λq hq=>f2 q (XU (Xp hq)),pw.1,bts i 12,bw,∅,λv H6 r S6 r6 f6 w6=>.mk ((S5.trans S6) _ _ h4) ?_ λH7 B7 h7=>⟨λx o e=>B7 _ _ (aj e hc3) ((S25.trans S6) _ _ e),fs++[r],?_,by rw[YB,lf];rfl,λq hq=>?_,λk hk=>?_⟩⟩
   .rw[rf.length,YC];have:1000<=sizeLine:=∅;nofun
   .rw[XI];exact (aJ.flat_but ((S5.trans S6) _ _ h4) B7 _ _ (cJ _) (rf.same (S5.trans S6))).snoc (aI.flat_but ((S5.trans S6) _ _ h4) B7 _ _ (bA _) r6)
   .rcases List.mem_append.mp hq with y|y
    .exact ff q y
    .rw[List.mem_singleton.mp y];exact f6
   .rw[YB,YJ] at hk;rw[ol];by_cases e:k=fs.length
    .rw[Yb e,w6,e,lf];have m:=dR (f:=cf ws) (h:=λj=>T' (i+j)) (n:=ws.length) (λj hj=>by rw[aE hj];grind) (d-ws.length)
     rw[show ws.length+(d-ws.length)=d by nofun] at m
     rw[m];refine aD _ (λ_ _=>rfl) (λj hj=>?_);have hj2:i+j<ts.length:=();have:((ts.drop i).take 12)[j]? = some ts[i+j]:=by rw[Xm,Yb (),Xn,YR hj2]
     rw[aA this,<-aA (YR hj2),eT _ ()]
    .rw[Yc e];exact vf k ()
  .obtain⟨S4,fs,rf,lf,ff,vf⟩:=z;rw[cp] at lf;refine h c3 H4 fs (S02.trans S4) (S02.none hc3) ⟨_,h4,rf⟩ lf ff (λk hk hq=>?_) (λk hk=>?_)
   .rw[vf k ()];exact fw.sums lr () one e1 hT orth k hq
   .rw[<-qI (w:=cf ws) (n:=d) one hT k];exact aD _ (λ_ _=>rfl) (λj hj=>vf _ ())
theorem K8{n t M k i:Nat}(h:t=n-1)(k2:2*k<=t+1)(nM:n<=2*M)(od:n%2=1)(l:i<=k+1)(e:i≠M):i<M:=()
theorem La{n t k:Nat}(h:t=n-1)(k2:2*k<=t+1)(l:n<=11):k<=5:=()
theorem Lk{n t k i:Nat}(h:t=n-1)(k2:2*k<=t+1)(od:n%2=1)(l:i<2*k):i<t:=()
theorem Ll{n r t k:Nat}(lk:r=k+1)(h:t=n-1)(k2:2*k<=t+1)(od:n%2=1):r<=n:=()
def KF(d:D):Prop:=X2 λ(ds:List D)(t:Int)=>DY (.tup ds)/\(t=0\/t=1)/\d=.tup (ds++[.int t])
structure AU (qs:List (Int×Int))(q:Int×Int)(us:List (Int×Int))(d:Nat):Prop where
 lr:us.length=d+1
 d6:d<=6
 one:cf us d=1
 orth:∀k,k+d<qs.length->ak (cf us) (λj=>cf qs (k+j)) (d+1)=0
 len:2*d<=qs.length+1
 pos:vL (cf qs) d
 frm:1<=d -> ∀fs,dz qs q fs->vL (cf fs) (d-1)/\((2*d<=qs.length /\ ∀f:Nat->Rat,(∀i,d<=i->f i=0)->0<=ip (cf fs) f f d d)\/(qs.length+1=2*d /\ ∃(W:Nat->Int)(B:Int),kv fs W B/\cf us=lx (wv q) (Pk W (d-1))))
theorem Dj.nofl{qs:List (Int×Int)}{W:Nat->Int}{B:Int}{M:Nat}{G:Hp}{p:Addr}{s:Str}(o:Dj qs W B M G p s):((s = "below" \/ s = "nought")->xC W qs.length M)/\((s = "tight" \/ s = "open") -> ¬ xC W qs.length M):=by
 rcases o.kind with ⟨d,z⟩|⟨d,n,z⟩|⟨d,n,z⟩|⟨d,z⟩
 .exact⟨λ_=>.inl d,λy=>by rcases y with y|y<;>exact absurd (z.symm.trans y) ∅⟩
 .exact⟨λ_=>.inr ⟨d,n⟩,λy=>by rcases y with y|y<;>exact absurd (z.symm.trans y) ∅⟩
 .exact⟨λy=>by rcases y with y|y<;>exact absurd (z.symm.trans y) ∅,λ_ y=>by
   rcases y with y|⟨_,y⟩
   .nofun
   .exact y n⟩
 .exact⟨λy=>by rcases y with y|y<;>exact absurd (z.symm.trans y) ∅,λ_ y=>by rcases y with y|⟨y,_⟩<;>nofun⟩
def lI(qs:List (Int×Int))(d:D):Prop:=X3 λ(W:Nat->Int)(B:Int)(M:Nat)=>kv qs W B/\og W qs.length M/\xC W qs.length M/\((Dk W M<0 /\ ∃rs:List (Int×Int),aL rs/\rs.length<=12/\(∀j,cf rs j=Pk W (M-1) j)/\d=.tup [.str "below",.lst (rs.map fr)])\/(Dk W M=0/\X2 λ(rs:List (Int×Int))(i:Nat)=>aL rs/\rs.length<=12/\i<=11/\(∀j,cf rs j=Pk W (M-1) j)/\Lq W (M-1) i≠0/\(∀j,j<i->Lq W (M-1) j=0)/\d=.tup [.str "nought",.lst (rs.map fr),.lst ((List.replicate i ((0:Int),(1:Int))++[((1:Int),(1:Int))]).map fr)]))
theorem lI.uniq{qs:List (Int×Int)}{d d':D}(h:lI qs d)(h':lI qs d')(hF:∀q∈qs,Fq q):d=d':=by
 obtain⟨W,B,M,cl,my,nf,h⟩:=h;obtain⟨W',B',M',cl',my',nf',h'⟩:=h';obtain⟨_,eW⟩:=cl.uniq cl' hF;subst eW;obtain rfl:=my.uniq my';rcases h with ⟨a,rs,p,_,e,rfl⟩|⟨a,rs,i,p,_,_,e,b,c,rfl⟩<;>rcases h' with ⟨a',rs',p',_,e',rfl⟩|⟨a',rs',i',p',_,_,e',b',c',rfl⟩
 .rw[k9 p p' λk=>by rw[e,e']]
 .nofun
 .nofun
 .have ei:i=i':=by
   rcases Nat.lt_trichotomy i i' with z|z|z
   .exact absurd (c' i z) b
   .exact z
   .exact absurd (c i' z) b'
  rw[k9 p p' λk=>by rw[e,e'],ei]
theorem lI.bar{qs:List (Int×Int)}{d:D}(h:lI qs d):jG (cf qs) qs.length:=by
 obtain⟨W,B,M,cl,my,nf,_⟩:=h;exact AB cl my nf
def lj(qs:List (Int×Int))(q:Int×Int)(d:D):Prop:=X2 λ(ds:List D)(t:Int)=>d=.tup (ds++[.int t])/\((t=0/\lI qs (.tup ds))\/(t=1/\1<qs.length /\ ¬ jG (cf qs) qs.length /\ ∃fs,dz qs q fs/\lI fs (.tup ds)))
theorem lj.uniq{qs:List (Int×Int)}{q:Int×Int}{d d':D}(h:lj qs q d)(h':lj qs q d')(hF:∀q∈qs,Fq q)(sf:∀fs,dz qs q fs -> ∀p∈fs,Fq p):d=d':=by
 obtain⟨ds,t,rfl,h⟩:=h;obtain⟨ds',t',rfl,h'⟩:=h';rcases h with ⟨rfl,h⟩|⟨rfl,_,n,fs,f,h⟩<;>rcases h' with ⟨rfl,h'⟩|⟨rfl,_,n',fs',f',h'⟩
 .have:=h.uniq h' hF;injection this with this
  rw[this]
 .exact absurd h.bar n'
 .exact absurd h'.bar n
 .obtain rfl:=f.uniq f';have:=h.uniq h' (sf _ f);injection this with this
  rw[this]
theorem wa{H:Hp}{w:Str}:aI H (.str w) (.str w):=by unfold aI;rfl
theorem Dj.tell{qs:List (Int×Int)}{W:Nat->Int}{B:Int}{M:Nat}{G:Hp}{p:Addr}{s:Str}(o:Dj qs W B M G p s)(l11:qs.length<=11)(cl:kv qs W B)(my:og W qs.length M)(bs:s = "below" \/ s = "nought"):∃ds,aI G (.tup ds) (.ref p)/\lI qs (.tup ds):=by
 have nf:=o.nofl.1 bs;have m1:=my.one;have m2:=my.most;have dk:=my.up (M-1) ();obtain⟨l,ys,hp,_,_,_,h5,h6⟩:=o.at_;rcases o.kind with ⟨d,z⟩|⟨d,_,z⟩|⟨_,_,z⟩|⟨_,z⟩
 .obtain⟨rfl,rs,a,b,c⟩:=h5 z;have lr:=ko b (show Dk W (M-1)≠0 by nofun) c
  rw[z] at hp;exact⟨_,.mk_tup hp (.mk_cons wa (.mk_cons a.rep .mk_nil)),W,B,M,cl,my,nf,.inl ⟨d,rs,b,(),c,rfl⟩⟩
 .obtain⟨l2,i,rs,rfl,a,b,c,a2,hi,hL,hF⟩:=h6 z;have lr:=ko b (show Dk W (M-1)≠0 by nofun) c
  rw[z] at hp;exact⟨_,.mk_tup hp (.mk_cons wa (.mk_cons a.rep (.mk_cons a2.rep .mk_nil))),W,B,M,cl,my,nf,.inr ⟨d,rs,i,b,(),(),c,hL,hF,rfl⟩⟩
 .rcases bs with y|y<;>exact absurd (z.symm.trans y) ∅
 .rcases bs with y|y<;>exact absurd (z.symm.trans y) ∅
def ID(G0:Hp)(qs:List (Int×Int))(q:Int×Int)(G:Hp)(v:V):Prop:=(X6 λ(d d2:D)(p l:Addr)(s:V)(ys:List V)=>v=.ref p/\aI G d v/\KF d/\Db qs q d/\aI G d2 v/\lj qs q d2/\G p=some (.tup (s :: .ref l::ys))/\G0 l=none)\/(X7 λ(p r b w:Addr)(rs ws:List (Int×Int))(d:Nat)=>v=.ref p/\G p=some (.tup [.str "flock",.ref r])/\G r=some (.tup [.ref b,.ref w])/\aK G b rs/\aK G w ws/\G0 b=none/\AU qs q rs d/\zX rs qs ws d/\mo (cf rs) (DF (cf rs)) /\ ¬ jG (cf qs) qs.length/\(1<qs.length -> ∀fs,dz qs q fs -> ¬ jG (cf fs) fs.length))
theorem jN{qs fs:List (Int×Int)}{q:Int×Int}(h:dz qs q fs) {i:Nat}(hi:i+1<qs.length):cf fs i=cf qs (i+1)-wv q*cf qs i:=by
 have hi':i<fs.length:=by have:=h.1;nofun
 rw[aA (YR hi')];exact (h.2 i _ (YR hi')).2
theorem u6{qs rs:List (Int×Int)}{q:Int×Int}{W:Nat->Int}{B:Int}{k:Nat}(cl:kv qs W B)(hD:∀i,i<=k->0<Dk W i)(lk:rs.length=k+1)(num:∀j,cf rs j=Pk W k j)(k6:k<=6)(k2:2*k<=qs.length)(lq:∀i,i+k<qs.length->Lq W k i=0)(nb:1<qs.length -> ∀fs,dz qs q fs -> ¬ jG (cf fs) fs.length):AU qs q rs k:=by
 have dn:Dk W k≠0:=by have:=hD k (Yp _);nofun
 have hB:B≠0:=by have:=cl.pos;nofun
 have ec:cf rs=Pk W k:=funext num;have pos:=wA cl.pos cl.val hD;refine⟨lk,k6,by rw[ec,fS dn],λi hi=>?_,(),pos,λk1 fs hf=>?_⟩
 .rw[ec,gS (P:=Pk W k) dn hB (λj=>rfl) cl.val i,lq i hi];have c0:((0:Int):Rat)=0:=rfl;rw[c0];grind
 .have n:=nb () fs hf;have lf:=hf.1;refine⟨sA (n:=k-1) (S:=cf qs) (s:=wv q) (N:=fs.length) (by rw[show k-1+1=k by nofun];exact pos) n () λi hi=>jN hf (),.inl ⟨k2,λf hf2=>(F4.mp n f k hf2 ()).1⟩⟩
theorem Dd{qs us os ts:List (Int×Int)}{q:Int×Int}{W W':Nat->Int}{B B':Int}{k:Nat}(cl:kv qs W B)(hD:∀i,i<=k+1->0<Dk W i)(lq:qs.length=2*k+1)(k5:k<=5)(hf:dz qs q ts)(cl':kv ts W' B')(dn':Dk W' k≠0)(eo:cf os=Pk W' k)(eu:cf us=lx (wv q) (cf os))(lu:us.length=k+2)(nb:1<qs.length -> ∀fs,dz qs q fs -> ¬ jG (cf fs) fs.length):AU qs q us (k+1):=by
 have pos:=wA cl.pos cl.val hD;have hB':B'≠0:=by have:=cl'.pos;nofun
 have bo:∀i,k+1<=i->cf os i=0:=λi hi=>by
  rw[eo];show ((qk W' k i:Int):Rat)/_=0;rw[du ()];have c0:((0:Int):Rat)=0:=rfl;rw[c0];grind
 refine⟨(),(),?_,λi hi=>?_,(),pos,λ_ fs hf2=>?_⟩
 .rw[eu];unfold lx;rw[Yc (),show k+1-1=k by nofun,bo (k+1) (Yp _),eo,fS dn']
  grind
 .have a:=qq (S:=cf qs) (S':=cf ts) (v:=cf os) (s:=wv q) (i:=i) (k+1) (λj hj=>jN hf ());rw[Yc (),show k+1-1=k by nofun] at a
  have b:ak (cf os) (λj=>cf ts (i+j)) (k+1)=0:=by
   rw[eo,gS (P:=Pk W' k) dn' hB' (λj=>rfl) cl'.val i,gh ()];have c0:((0:Int):Rat)=0:=rfl;rw[c0];grind
  rw[b] at a;rw[eu];show ak (lx (wv q) (cf os)) (λj=>cf qs (i+j)) (k+1)+lx (wv q) (cf os) (k+1)*cf qs (i+(k+1))=0;have e:lx (wv q) (cf os) (k+1)=cf os k:=by
   unfold lx;rw[Yc (),show k+1-1=k by nofun,bo (k+1) (Yp _)]
   grind
  rw[e];grind
 .obtain rfl:=hf.uniq hf2;have lf:=hf.1;refine⟨?_,.inr ⟨(),W',B',cl',by rw[eu,eo];rfl⟩⟩
  rw[XE];rcases Nat.eq_zero_or_pos k with z|z
  .subst z;exact λf hf3 ⟨i,hi⟩=>absurd (hf3 i (YK _)) hi
  .exact sA (S:=cf qs) (s:=wv q) (N:=ts.length) pos (nb () ts hf) () λi hi=>jN hf ()
theorem Dj.roots2{qs:List (Int×Int)}{W:Nat->Int}{B:Int}{M:Nat}{G:Hp}{p:Addr}{s:Str}(o:Dj qs W B M G p s)(l11:qs.length<=11)(my:og W qs.length M)(ts:s = "tight" \/ s = "open"):∃(l:Addr)(rs:List (Int×Int))(k:Nat),G p=some (.tup [.str s,.ref l])/\aK G l rs/\aL rs/\(∀j,cf rs j=Pk W k j)/\(∀i,i<=k->0<Dk W i)/\k<=M/\k<=6/\k<=qs.length/\2*k<=qs.length+1/\(s = "open" -> k=M/\0<Dk W M/\qs.length<=2*M)/\(s = "tight" -> Dk W (k+1)=0/\2*k+1<=qs.length /\ ∀i,i+k<qs.length->Lq W k i=0):=by
 have m1:=my.one;have m2:=my.most;obtain⟨l,ys,hp,h2,h3,h4,_,_⟩:=o.at_;obtain rfl:=h2 ts;rcases o.kind with ⟨_,z⟩|⟨_,_,z⟩|⟨d0,ng,z⟩|⟨d,z⟩
 .rcases ts with y|y<;>exact absurd (z.symm.trans y) ∅
 .rcases ts with y|y<;>exact absurd (z.symm.trans y) ∅
 .obtain⟨rs,a,b,c⟩:=h3 z;exact⟨l,rs,M-1,hp,a,b,c,λi hi=>my.up i (),(),(),(),(),λy=>absurd (z.symm.trans y) ∅,λ_=>⟨by rw[show M-1+1=M by nofun];exact d0,(),λi hi=>ng i ()⟩⟩
 .obtain⟨rs,a,b,c⟩:=h4 z;refine⟨l,rs,M,hp,a,b,c,λi hi=>?_,(),(),(),(),λ_=>⟨rfl,d,?_⟩,λy=>absurd (z.symm.trans y) ∅⟩
  .by_cases e:i=M
   .rw[e];exact d
   .exact my.up i ()
  .rcases my.all with y|y
   .exact y
   .nofun
theorem AK.tree{G:Hp}{p:Addr}{qs:List (Int×Int)}(h:AK G p qs):∃d,aI G d (.ref p)/\DY d/\mT qs d:=by
 obtain⟨l,fs,a,b,c,d,⟨e,f1,f2⟩|⟨l2,gs,e,f,g,h,i,j1,j2,j3,j4⟩⟩:=h
 .exact⟨_,.mk_tup e (.mk_cons (by unfold aI;rfl) (.mk_cons d.rep .mk_nil)),⟨"below",fs,.inl rfl,⟨a,(),c⟩,.inl rfl⟩,.inl ⟨fs,rfl,a,f1,f2⟩⟩
 .exact⟨_,.mk_tup e (.mk_cons (by unfold aI;rfl) (.mk_cons d.rep (.mk_cons f.rep .mk_nil))),⟨"nought",fs,.inr rfl,⟨a,(),c⟩,.inr ⟨gs,⟨g,(),i⟩,rfl⟩⟩,.inr ⟨fs,gs,rfl,a,g,j1,j2,j3,j4⟩⟩
theorem DY.tup{d:D}(h:DY d):∃ds,d=.tup ds:=by
 obtain⟨w,fs,_,_,rfl|⟨gs,_,rfl⟩⟩:=h
 .exact⟨_,rfl⟩
 .exact⟨_,rfl⟩
theorem DY.len{ds:List D}(h:DY (.tup ds)):ds.length<=3:=by
 obtain⟨w,fs,_,_,z|⟨gs,_,z⟩⟩:=h
 .injection z with z
  rw[z];simp
 .injection z with z
  rw[z];simp
inductive jt (K:W.Frag)(vs:List V)(H:Hp)(Q:VK)(E:XK):Prop
 | mk (a:Addr)(y:V)(qs:List (Int×Int))(q:Int×Int):vs=[.ref a,y]->aK (vw K H) a qs->1<=qs.length->qs.length<=11->(∀q∈qs,gD 112 q)->aI (vw K H) (fr q) y->nu q->(∀v H',aB (vw K H) (vw K H')->ID (vw K H) qs q (vw K H') v->Q v H')->jt K vs H Q E
theorem sX(F:dO K "back_from" "back_from" jK f fd) (T:eA K mg)(C_outlook:cn P w K mg base "outlook" ["sums"] 5 (kH K)) (C_is_bar:cn P w K mg base "is_bar" ["told"] 1 (mO K)) (C_sums_from:cn P w K mg base "sums_from" ["sums", "spot"] 3 (jp K)) (C_multiplied:cn P w K mg base "multiplied" ["f", "g"] 4 (iD K)) (C_less_spot:cn P w K mg base "less_spot" ["spot"] 1 (jf K)) (C_flock_with:cn P w K mg base "flock_with" ["sums", "roots"] 6 (iE K)):bU P w K mg base dP 7 f fd ["sums", "spot"] (jt K):=by
 have scN:=kY.nd;refine F.okQ kY ?_ ?_;walk_at "q"
 .obtain⟨_,_,_,_,rfl,_⟩:=h;rfl
 .obtain⟨a,y,qs,q,rfl,ha,l1,l11,sb,hy,hq,h⟩:=h;obtain⟨z_ONE,hg_ONE,hv_ONE⟩:=T.g_ONE;have sq:∀q∈qs,hZ q:=λq hq=>(sb q hq).sumQ ∅;refine⟨_,(af (aC (i:=2) scN rfl (·) (ah C_outlook nofun rfl (aa (qv 0) ac)))
   (af (bY (dj (ah C_is_bar nofun rfl (aa (qv 2) ac))) (ag (av (ar xJ (qv 2) (aR (aa ae ac))))) aN)
   (af (aC (i:=3) scN rfl (·) (aT (aa (gw (v:=V.ref z_ONE) rfl hg_ONE rfl) ac)))
   (af (bY (aH io (ai aq (by rfl) T.b_len aF (aa (qv 0) ac)) ae (aG _)) (af (aC (i:=4) scN rfl (·) (ah C_outlook nofun rfl (aa (ah C_sums_from nofun rfl (aa (qv 0) (aa (qv 1) ac))) ac)))
   (af (bY (dj (ah C_is_bar nofun rfl (aa (qv 4) ac))) (ag (av (ar xJ (qv 4) (aR (aa ae ac))))) aN)
   (ag (aC (i:=3) scN rfl (·) (aw bI (qv 4) ae (λ_ _=>rfl)))))) aN)
   (af (cQ (qv 2) (aY (n:=2) rfl (au (am (i:=5) scN rfl (·)) (au (am (i:=6) scN rfl (·)) aZ))))
   (af (bY (QW.pt (m4 (aH dY (qv 5) gi (aG _)) (km (gL (ar xQ (ai aq (by rfl) T.b_len aF (aa (qv 0) ac)) ae) (λ_=>rfl))))) (ag (aC (i:=6) scN rfl (·) (ah C_multiplied nofun rfl (aa (ah C_less_spot nofun rfl (aa (qv 1) ac)) (aa (qv 3) ac))))) aN)
   (ag (av (aR (aa gi (aa (ah C_flock_with nofun rfl (aa (qv 0) (aa (qv 6) ac))) ac))))))))))),?_⟩
  walk_at"m";skip
  have bar:∀{p p3:Addr}{H0:Hp}{d:D}{t:Int},aI (vw K H0) d (.ref p)->DY d->(t=0\/t=1)->(∀ds,d=.tup ds->Db qs q (.tup (ds++[.int t])))->(∃(s:V)(l:Addr)(ys:List V),vw K H0 p=some (.tup (s :: .ref l::ys))/\vw K H l=none)->(∃ds2,aI (vw K H0) (.tup ds2) (.ref p)/\lj qs q (.tup (ds2++[.int t])))->vw K H0 p3=some (.tup [.int t])->aB (vw K H) (vw K H0)->FK K (.ref p) (.ref p3) H0 Q:=by
   intro p p3 H0 d t rd bl ht hh ⟨s0,l0,zs,hz,nl⟩ ⟨ds2,rd2,tu⟩ h3 S;obtain⟨ds,rfl⟩:=bl.tup;obtain⟨a',xs,e,hx,r⟩:=rd.tup_at;cases e;have r2:aJ (vw K H0) ds2 xs:=by
    obtain⟨a2,xs2,e2,hx2,r2⟩:=rd2.tup_at;cases e2;rw[hx] at hx2;cases hx2;exact r2
   have e4:xs=s0 :: .ref l0::zs:=by
    rw[hz] at hx;cases hx;rfl
   refine⟨p,p3,rfl,rfl,xs,hx,_,h3,?_,λp4 H4 S4 h4=>h _ H4 (S.trans S4) (.inl ⟨_,_,p4,l0,s0,zs++[.int t],rfl,.mk_tup h4 ((r.same S4).snoc (by unfold aI;rfl)),⟨ds,_,bl,ht,rfl⟩,hh ds rfl,.mk_tup h4 ((r2.same S4).snoc (by unfold aI;rfl)),tu,by rw[h4,e4];rfl,nl⟩)⟩
   have:=bl.len;have:1000<=sizeLine:=∅;rw[r.length];simp;nofun
  refine aM.gen λN1 hN1=>?_;symm
  refine⟨a,qs,rfl,ha,l1,l11,sq,λp H1 W B M s S1 cl my o fr=>hN1 _ _ ?_⟩;obtain⟨l0,ys0,hp0,_⟩:=o.at_;have nl0:=fr _ _ _ hp0;refine aM.gen λN2 hN2=>?_;symm
  rcases o.which with bs|ts
  .have nf:=o.nofl.1 bs;obtain⟨d,rd,bl,bt⟩:=(o.barAt l11 cl my nf bs).tree;obtain⟨ds2,rd2,tb2⟩:=o.tell l11 cl my bs;exact⟨p,s,_,true,rfl,hp0,.inr ⟨rfl,bs⟩,λH2 S2=>⟨true,rfl,iC rfl ⟨∅,λp3 H3 hp3 S3 h3=>bar (aI.same (S2.trans S3) _ _ rd) bl (.inl rfl) (λds e=>oB.mpr (.inl ⟨rfl,e▸bt⟩)) ⟨_,l0,ys0,(S2.trans S3) _ _ hp0,nl0⟩ ⟨ds2,aI.same (S2.trans S3) _ _ rd2,ds2,0,rfl,.inl ⟨rfl,tb2⟩⟩ h3 (S1.trans (S2.trans S3))⟩⟩⟩
  have nf:=o.nofl.2 ts;have nb0:¬ jG (cf qs) qs.length:=λb=>nf (pL cl my b);obtain⟨l,rs,k,hp,lrs,po,num,hD,kM,k6,kn,k2,op,tg⟩:=o.roots2 l11 my ts;have nl:=fr _ _ _ hp;refine⟨p,s,_,false,rfl,hp0,.inl ⟨rfl,ts⟩,λH2 S2=>⟨false,rfl,dA ∅ (hN2 _ _ ?_)⟩⟩;refine aM.gen λN3 hN3=>?_;symm
  refine⟨∅,λb3 H3 hb3 S3 h3=>hN3 _ _ ?_⟩;have lO3:aK (vw K H3) b3 [(1,1)]:=⟨_,h3,.mk_cons (aX (hv_ONE _)) .mk_nil⟩;have S13:=S2.trans S3;have lk:=ko po (show Dk W k≠0 by have:=hD k (Yp _);nofun) num
  refine aM.gen λN4 hN4=>?_;have key:∀(bo:Addr)(o4:Option V)(H4:Hp)(os:List (Int×Int)),aB (vw K H1) (vw K H4)->aK (vw K H4) bo os->aL os->os≠[]->os.length<=6->Pb 869 (cf os)->(s = "open" -> qs.length%2=1->os.length<=qs.length/\mo (lx (wv q) (cf os)) (DF (lx (wv q) (cf os))))->(1<qs.length -> ∀rs,dz qs q rs -> ¬ jG (cf rs) rs.length)->(s = "open" -> qs.length%2=1 -> ∃(ts:List (Int×Int))(W':Nat->Int)(B':Int)(k':Nat),qs.length=2*k'+1/\k'<=5/\(∀i,i<=k'+1->0<Dk W i)/\dz qs q ts/\kv ts W' B'/\Dk W' k'≠0/\cf os=Pk W' k'/\os.length=k'+1)->N4 [some (.ref a),some y,some (.ref p),some (.ref bo),o4,none,none] H4:=by
   intro bo o4 H4 os S14 los pos nos l6 bos ns nb1 fo;refine hN4 _ _ ?_;have S04:=S1.trans S14;refine aM.gen λN5 hN5=>?_;symm
   refine⟨_,S14 _ _ hp,rfl,_,_,rfl,_,_,rfl,rfl,hN5 _ _ ?_⟩;refine aM.gen λN6 hN6=>?_;have fin:∀(br:Addr)(us:List (Int×Int))(H6:Hp),aB (vw K H4) (vw K H6)->aK (vw K H6) br us->us≠[]->us.length<=7->us.length<=qs.length+1->aL us->Pb 1100 (cf us)->mo (cf us) (DF (cf us))->vw K H br=none->(∃d,AU qs q us d)->N6 [some (.ref a),some y,some (.ref p),some (.ref bo),o4,some (.str s),some (.ref br)] H6:=by
    intro br us H6 S6 lus nus l7 ln pu bu nsu nbr ⟨d,fp⟩;refine hN6 _ _ ?_;have S06:=S04.trans S6;symm
    exact⟨a,br,qs,us,rfl,ha.same S06,lus,l11,sq,nus,l7,ln,pu,bu,λ_=>nsu,λp7 w7 H7 ws S7 h7 l7' _ pw lw bw fw=>⟨∅,λp8 H8 hp8 S8 h8=>h _ H8 (S06.trans (S7.trans S8)) (.inr ⟨p8,p7,br,w7,us,ws,d,rfl,h8,S8 _ _ h7,lus.same (S7.trans S8),l7'.same S8,nbr,fp,⟨fp.lr,fp.d6,fp.one,pu,bu,pw,by have:=fp.lr;nofun,bw,fw,fp.orth⟩,nsu,nb0,nb1⟩)⟩⟩
   have ec:cf rs=Pk W k:=funext num;have plain:¬ (s = "open" /\ qs.length%2=1)->N6 [some (.ref a),some y,some (.ref p),some (.ref bo),o4,some (.str s),some (.ref l)] H4:=λno=>by
    have pl:AU qs q rs k:=by
     rcases ts with y|y
     .obtain⟨_,y2,y3⟩:=tg y;exact u6 cl hD lk num k6 () y3 nb1
     .obtain⟨y1,y2,y3⟩:=op y;have m2:=my.most;have ev:¬ qs.length%2=1:=λz=>no ⟨y,z⟩;exact u6 cl hD lk num k6 () (λi hi=>gh ()) nb1
    exact fin l rs H4 .rfl (lrs.same S14) (λz=>by rw[z] at lk;simp at lk) () () po ((By (by have:=hD k (Yp _);nofun) k6 cl.bt).congr num) (by rw[ec];exact Cs cl.pos cl.val k6 hD) nl ⟨k,pl⟩
   symm
   refine⟨rfl,cH (λso=>⟨_,(ha.same S04).len,(),cH (λod=>?_) (λne=>plain λz=>ne (by have:=z.2;simp;nofun))⟩) (λne=>plain λz=>ne z.1)⟩
   have od':qs.length%2=1:=by
    have z:((qs.length:Nat):Int)%2≠0:=by simpa using od
    nofun
   obtain⟨ln,nsx⟩:=ns so od';obtain⟨ts,W',B',k',f1,f2',f3,f4,f5,f6,f7,f8⟩:=fo so od';refine⟨y,q,rfl,aI.same S04 _ _ hy,λb7 H7 S7 l7=>?_⟩;have f2:∀x∈[(-q.1,q.2),((1:Int),(1:Int))],Fq x/\Bq 12 x:=λx hx=>by
    simp only[Y0,Y1,Y2] at hx;rcases hx with rfl|rfl
    .exact⟨G9 hq.1,by have:=hq.2.1.1;unfold Bt at this ⊢;simpa using this,hq.2.1.2⟩
    .exact⟨⟨∅,∅⟩,⟨∅,∅⟩⟩
   have bo':=bos.bq pos.1;refine⟨b7,bo,_,os,900,rfl,l7,los.same S7,by simp,(),∅,?_,λx hx=>⟨(f2 x hx).1,(f2 x hx).2.mono ∅⟩,λx hx=>⟨pos.1 x hx,(bo' x hx).mono ∅⟩,λc8 H8 us S8 l8 nc8 p8 w8 n8 b8=>?_⟩
   .simp only[Y9,XG];nofun
   have e8:cf us=lx (wv q) (cf os):=funext λj=>(w8 j).trans (Jt hq.1 j);have lo:=List.length_pos_iff.mpr nos;have top:=gK pos nos;have l8':us.length<=os.length+1:=iy p8 λj hj=>by
    rw[e8];unfold lx;rw[Yc (Nat.ne_of_gt (Yd (Nat.succ_pos _) hj)),aE (Nat.le_sub_one_of_lt hj),aE (Yh hj)];grind
   refine fin c8 us H8 (S7.trans S8) l8 (λz=>?_) () () p8 ?_ (by rw[e8];exact nsx) ((S04.trans S7).none nc8) ⟨k'+1,?_⟩
   .have z1:cf us os.length=0:=by rw[z];exact CB _
    rw[e8] at z1;unfold lx at z1;rw[Yc (),aE (show os.length<=os.length from Yp _)] at z1
    grind
   .exact ((Pb.pr (kq f2) bos 2).congr w8).mono (by simp)
   .refine Dd cl f3 f1 f2' f4 f5 f6 f7 e8 (Nat.le_antisymm () (Nat.not_lt.mp λz=>?_)) nb1;have z1:cf us (k'+1)=0:=aE ();rw[e8] at z1;unfold lx at z1;rw[Yc (),aE (show os.length<=k'+1 by nofun),show k'+1-1=k' by nofun,f7,fS f6] at z1
    grind
  symm
  refine⟨_,(ha.same (S1.trans S13)).len,cH (λe5=>?_) (λe5=>?_)⟩
  .have n1:1<qs.length:=();have S03:=S1.trans S13;refine⟨a,y,qs,q,rfl,ha.same S03,aI.same S03 _ _ hy,hq.1,hq.2.1.mono ∅,l1,l11,λp hp=>⟨(sq p hp).1,(sq p hp).2.1⟩,λb6 H6 ts6 S6 nb6 l6 ln6 w6=>?_⟩;have sq6:=mP sb hq ln6 w6;refine⟨b6,ts6,rfl,l6,(),(),sq6,λp7 H7 W' B' M' s' S7 cl' my' o' fr'=>?_⟩;obtain⟨l0',ys0',hp0',_⟩:=o'.at_;have nl0':=(S03.trans S6).none (fr' _ _ _ hp0');have S17:=S13.trans (S6.trans S7);rcases o'.which with bs'|ts'
   .have nf':=o'.nofl.1 bs';obtain⟨d,rd,bl,bt⟩:=(o'.barAt () cl' my' nf' bs').tree;obtain⟨ds2,rd2,tb2⟩:=o'.tell () cl' my' bs';exact⟨p7,s',_,true,rfl,hp0',.inr ⟨rfl,bs'⟩,λH8 S8=>⟨true,rfl,iC rfl ⟨∅,λp9 H9 hp9 S9 h9=>bar (aI.same (S8.trans S9) _ _ rd) bl (.inr rfl) (λds e=>oB.mpr (.inr ⟨rfl,n1,ts6,⟨ln6,w6⟩,e▸bt⟩)) ⟨_,l0',ys0',(S8.trans S9) _ _ hp0',nl0'⟩ ⟨ds2,aI.same (S8.trans S9) _ _ rd2,ds2,1,rfl,.inr ⟨rfl,n1,nb0,ts6,⟨ln6,w6⟩,tb2⟩⟩ h9 (S1.trans (S17.trans (S8.trans S9)))⟩⟩⟩
   obtain⟨l',rs',k',hp',lrs',po',num',hD',kM',k6',kn',k2',op',tg'⟩:=o'.roots2 () my' ts';refine⟨p7,s',_,false,rfl,hp0',.inl ⟨rfl,ts'⟩,λH8 S8=>⟨false,rfl,dA ∅ ?_⟩⟩;have dn':Dk W' k'≠0:=by have:=hD' k' (Yp _);nofun
   have lk':=ko po' dn' num';have ec':cf rs'=Pk W' k':=funext num';refine⟨_,rfl,_,S8 _ _ hp',_,dU,key l' _ H8 rs' (S17.trans S8) (lrs'.same S8) po' (λz=>by rw[z] at lk';simp at lk') () ((Iw dn' () cl'.bt).congr num') (λso od=>⟨Ll lk' ln6 k2' od,?_⟩) (λ_ rs2 f2 b=>o'.nofl.2 ts' (pL cl' my' (by rw[dz.uniq (show dz qs q ts6 from ⟨ln6,w6⟩) f2];exact b))) λso od=>?_⟩
   rotate_left
   .obtain⟨_,dM,nM⟩:=op so;have m2:=my.most;have hDM:∀i,i<=M->0<Dk W i:=λi hi=>by
     by_cases e:i=M
     .rw[e];exact dM
     .exact my.up i (Nat.lt_of_le_of_ne hi e)
    have ff:dz qs q ts6:=⟨ln6,w6⟩;have ek:k'=M-1:=by
     rcases ts' with y|y
     .obtain⟨y1,y2,_⟩:=tg' y;refine XD λz=>?_;have p:=sA (n:=M-1) (S:=cf qs) (s:=wv q) (N:=ts6.length) (by rw[Nat.sub_add_cancel my.one];exact wA cl.pos cl.val hDM) (λb=>o'.nofl.2 (.inl y) (pL cl' my' b)) (KL ln6 m2) λi hi=>jN ff (Le ln6 hi)
      exact absurd y1 (Int.ne_of_gt (AL cl'.pos cl'.val p (k'+1) (K6 ln6 y2 nM od)))
     .obtain⟨y1,_,y3⟩:=op' y;exact K1 ln6 (by rw[y1];exact y3) k2' m2 nM od
    have e7:=K2 ek my.one m2 nM od;exact⟨ts6,W',B',k',e7,KY e7 l11,λi hi=>hDM i (KU ek my.one hi),ff,cl',dn',ec',lk'⟩
   obtain⟨_,dM,nM⟩:=op so;rw[ec'];refine Ce cl.pos cl.val cl'.pos cl'.val (La ln6 k2' l11) (λi hi=>?_) dn' λi hi=>?_
   .by_cases e:i=M
    .rw[e];exact dM
    .exact my.up i (K8 ln6 k2' nM od hi e)
   .have hi':i<ts6.length:=Lk ln6 k2' od hi;rw[aA (YR hi')];exact (w6 i _ (YR hi')).2
  .refine key b3 _ H3 [(1,1)] S13 lO3 ⟨λq hq=>by rw[List.mem_singleton.mp hq];exact⟨∅,∅⟩,λq hq=>by cases hq;decide⟩ (by simp) (by simp) ?_ (λso _=>⟨l1,?_⟩) (λz=>absurd z ()) λso _=>?_
   .have:=kq (b:=2) (fs:=[(1,1)]) λq hq=>by rw[List.mem_singleton.mp hq];exact⟨⟨∅,∅⟩,⟨∅,∅⟩⟩
    exact this.mono ∅
   .obtain⟨_,dM,_⟩:=op so;have m1:=my.one;have m2:=my.most;obtain rfl:M=1:=();refine pS cl.pos cl.val (m:=1) ∅ (FI ⟨by decide +kernel,λi hi=>aE (by simp;nofun)⟩) (λi hi=>?_) λq _=>rfl
    by_cases e:i=1
    .rw[e];exact dM
    .exact my.up i ()
   .obtain⟨_,dM,_⟩:=op so;have m1:=my.one;have m2:=my.most;have c0:((0:Int):Rat)=0:=rfl;refine⟨[],λ_=>0,1,0,(),∅,λi hi=>?_,⟨by simp;nofun,λk p h=>by simp at h⟩,⟨∅,λi=>by rw[c0,aE (by simp)];grind,λE _=>Int.one_dvd E,λ_=>gF⟩,by rw[zt];decide,funext λj=>?_,rfl⟩
    .by_cases e:i=M
     .rw[e];exact dM
     .exact my.up i ()
    .rcases j with _|j
     .rw[fS (by rw[zt];decide)]
      show wv (1,1)=1;decide +kernel
     .rw[aE (by simp)]
      show 0=((qk (λ_=>0) 0 (j+1):Int):Rat)/_;rw[du (),c0];grind
inductive wT (K:W.Frag)(vs:List V)(H:Hp)(Q:VK)(E:XK):Prop
 | mk (x y p q:_):vs=[x,y]->aI (vw K H) (fr p) x->aI (vw K H) (fr q) y->p.2≠0->q.2≠0->q.1≠0->Bq 1000000 p->Bq 1000000 q->Bt 4000000 (p.2*q.1)->(∀v H',aB (vw K H) (vw K H')->aI (vw K H') (fr (Br p q)) v->Q v H')->wT K vs H Q E
theorem HU(F:dO K "_law_over" "_law_over" wY f fd) (T:eA K mg)(zClow:cn P w K mg base "_law_low" ["_law_top", "_law_bottom"] 2 (iM K)):bU P w K mg base dP 3 f fd ["_law_one", "_law_other"] (wT K):=by
 have scN:=BE.nd;refine F.okQ BE ?_ ?_;walk_at "q"
 .obtain⟨_,_,_,_,rfl,_⟩:=h;rfl
 .obtain⟨x,y,p,q,rfl,hx,hy,np,nq,n0,bp,bq,bb,h⟩:=h;refine⟨_,(ag (av (ah zClow nofun rfl (aa (ar aP (aw bI (qv 0) ae (λ_ _=>rfl)) (aw bI (qv 1) ae (λ_ _=>rfl))) (aa (ar aP (aw bI (qv 0) ae (λ_ _=>rfl)) (aw bI (qv 1) ae (λ_ _=>rfl))) ac))))),?_⟩
  walk_at"m";obtain⟨a,rfl,ha⟩:=hx.fr_at;obtain⟨b,rfl,hb⟩:=hy.fr_at;walk_at"vc*";simp only[iM];walk_at"vc*";exact⟨cr bp.1 bq.2 ∅,cr bp.2 bq.1 ∅,Xc np n0,h⟩
inductive lK (K:W.Frag)(vs:List V)(H:Hp)(Q:VK)(E:XK):Prop
 | mk (a b:Addr)(y:V)(fs gs:List (Int×Int))(c:Int×Int):vs=[.ref a,.ref b,y]->aK (vw K H) a fs->aK (vw K H) b gs->aI (vw K H) (fr c) y->fs.length<=40->gs.length<=40->(∀q∈fs,Fq q/\Bq 3600 q)->(∀q∈gs,Fq q/\Bq 900 q)->Fq c->Bq 3600 c->(∀d H' (rs:List (Int×Int)),aB (vw K H) (vw K H')->aK (vw K H') d rs->vw K H d=none->aL rs->(∀k,cf rs k=cf fs k+cf gs k*wv c)->rs.length<=max fs.length gs.length->Q (.ref d) H')->lK K vs H Q E
theorem AD(F:dO K "_law_summed" "_law_summed" oY f fd) (T:eA K mg)(zCclean:cn P w K mg base "_law_clean" ["_law_numbers"] 1 (jm K)) (zCplus:cn P w K mg base "_law_plus" ["_law_one", "_law_other"] 3 (fh K)) (zCtimes:cn P w K mg base "_law_times" ["_law_one", "_law_other"] 3 (dN K)):bU P w K mg base dP 4 f fd ["_law_f", "_law_g", "_law_by"] (lK K):=by
 have scN:=vJ.nd;refine F.okQ vJ ?_ ?_;walk_at "q"
 .obtain⟨a,_,_,_,_,_,rfl,_⟩:=h;rfl
 .obtain⟨a,b,y,fs,gs,c,rfl,ha,hb,hy,lf,lg',hf,hg,fc,bc,h⟩:=h;refine⟨_,(af (aC (i:=3) scN rfl (·) (ar bQ (iO gU (by rfl) T.b_list gI (aa (qv 0) ac)) (ar aP (aT (aa (aR (aa ae (aa ae ac))) ac)) (ai (mj rfl) (by rfl) T.b_max wk (aa ae (aa (ar cj (ai aq (by rfl) T.b_len aF (aa (qv 1) ac)) (ai aq (by rfl) T.b_len aF (aa (qv 0) ac))) ac))))))
   (af (cK PassesOwn.never rfl (cz rfl T.b_range (aa (ai aq (by rfl) T.b_len aF (aa (qv 1) ac)) ac)) (am (i:=4) scN rfl (·)) (ag (cQ (ah zCplus nofun rfl (aa (aw cI (qv 3) (qv 4) (λ_ _=>rfl)) (aa (ah zCtimes nofun rfl (aa (aw cI (qv 1) (qv 4) (λ_ _=>rfl)) (aa (qv 2) ac))) ac))) (mR (qv 3) (qv 4) dE))))
   (ag (av (ah zCclean nofun rfl (aa (qv 3) ac)))))),?_⟩
  walk_at"m";symm
  obtain⟨xs,hxs,rxs⟩:=id ha;obtain⟨ys,hys,rys⟩:=id hb;refine⟨xs,hxs,λp1 H1 hp1 S1 h1=>⟨∅,λp2 H2 hp2 S2 h2=>⟨∅,λp3 H3 hp3 S3 h3=>?_⟩⟩⟩;have S03:=S1.trans (S2.trans S3);refine⟨_,(hb.same S03).len,_,(ha.same S03).len,?_⟩;obtain⟨m,hm,hmm⟩ : ∃m:Nat,(if (gs.length:Int)-(fs.length:Int) > 0 then (gs.length:Int)-(fs.length:Int) else 0)=(m:Int)/\fs.length+m=max fs.length gs.length:=by
   refine⟨gs.length-fs.length,?_,()⟩;split<;>nofun
  rw[hm,gd];refine⟨_,h3,(),(),?_,λp4 H4 hp4 S4 h4=>?_⟩
  .have:1000<=sizeLine:=∅;simp;nofun
  rw[show ((m:Nat):Int).toNat=m by nofun,iQ] at h4
  rw[fN];have S14:=S2.trans (S3.trans S4);refine⟨_,S14 _ _ h1,_,h4,?_,λe H5 he S5 h5=>?_⟩
  .have:1000<=sizeLine:=∅;rw[rxs.length];simp;nofun
  have S04:=S1.trans S14;have S05:=S04.trans S5;have r2:aI (vw K H5) (fr (0,1)) (.ref p2):=aX ((S3.trans (S4.trans S5)) _ _ h2);have ne:vw K H e=none:=S04.none he;refine⟨_,(hb.same S05).len,(),(),?_⟩;obtain⟨Pv,hPv⟩ : ∃Pv:Nat->St->Hp->Prop,∀i σ H',Pv i σ H' ↔ ∃o4,σ=[some (.ref a),some (.ref b),some y,some (.ref e),o4]/\aB (vw K H) (vw K H') /\ ∃qs,aK (vw K H') e qs/\qs.length=max fs.length gs.length/\(∀q∈qs,Fq q/\Bq 8200 q)/\(∀k,cf qs k=cf fs k+if k<i then cf gs k*wv c else 0)/\(∀k q,i<=k->qs[k]? = some q->Bq 3600 q):=⟨_,λ_ _ _=>XH⟩
  have hq0:∀q∈fs++List.replicate m (0,1),Fq q/\Bq 3600 q:=λq hq=>by
   rcases List.mem_append.mp hq with z|z
   .exact hf q z
   .rw[(List.mem_replicate.mp z).2];exact⟨nG,CH ∅⟩
  refine ce (its:=fj 0 gs.length) Pv (λ_ _ _ _ _=>aV) ((hPv _ _ _).mpr ⟨_,rfl,S05,fs++List.replicate m (0,1),⟨_,h5,?_⟩,by simp;nofun,λq hq=>⟨(hq0 q hq).1,(hq0 q hq).2.mono ()⟩,λk=>?_,λk q _ e'=>(hq0 q (YA e')).2⟩) (λi x σ H6 hi hx pv=>?_) (λσ H6 pv=>?_)
  .rw[XI,kg];exact (rxs.same S05).app (aJ.repl r2 m)
  .rw[Hm,Yc ()];grind
  .obtain⟨o4,rfl,S6,qs,l6,n6,f6,c6,b6⟩:=(hPv _ _ _).mp pv;obtain⟨hi',rfl⟩:=da hx;rw[XO];obtain⟨zs,hzs,rzs⟩:=id l6;have hiq:i<qs.length:=();obtain⟨x1,e1,r1⟩:=rzs.at (i:=i) (d:=fr qs[i]) (by rw[Yz,YR hiq];rfl)
   obtain⟨x2,e2,r2⟩:=rys.at (i:=i) (d:=fr gs[i]) (by rw[Yz,YR hi'];rfl)
   obtain⟨k1,k2⟩:=f6 qs[i] (YQ hiq);have k3:=b6 i qs[i] (Yp _) (YR hiq);obtain⟨g1,g2⟩:=hg gs[i] (YQ hi');symm
   refine⟨zs,hzs,x1,bO e1,ys,S6 _ _ hys,x2,bO e2,?_⟩;simp only[dN];symm
   refine⟨_,aI.same S6 _ _ r2,c,aI.same S6 _ _ hy,g1.ne,fc.ne,g2.mono (),bc.mono (),(g2.2.mul bc.2).mono (),λv3 H7 S7 r3=>?_⟩;have f3:=gJ g1 fc;have b3:=i3 g1 fc g2 bc;simp only[fh];symm
   refine⟨_,aI.same S7 _ _ r1,_,r3,k1.ne,f3.ne,k3.mono (),b3.mono (),(k3.2.mul b3.2).mono (),λv4 H8 S8 r4=>?_⟩;have f4:=i4 k1 f3;have b4:=sR k1 f3 k3 b3;have S68:=S7.trans S8;have hlz:zs.length=qs.length:=by rw[rzs.length,YC]
   refine⟨zs,S68 _ _ hzs,i,by rw[hlz];exact ir hiq,λH9 B9 h9=>(hPv _ _ _).mpr ⟨_,rfl,λx o e'=>B9 _ _ (aj e' ne) (S68 _ _ (S6 _ _ e')),qs.set i (nZ qs[i] (kT gs[i] c)),aK.chg (S68 _ _ hzs) (rzs.same S68) r4 B9 h9,by rw[YG];exact n6,λq hq=>?_,λk=>?_,λk q hk e'=>?_⟩⟩
   .rcases XQ hq with z|z
    .exact f6 q z
    .rw[z];exact⟨f4,b4.mono ()⟩
   .rw[yL hiq];by_cases hk:k=i
    .subst hk;rw[Yb rfl,Yb (),kG k1.ne f3.ne,ja g1.ne fc.ne,<-aA (YR hiq),<-aA (YR hi'),c6 k,Yc ()];grind
    .rw[Yc hk,c6 k];by_cases hk2:k<i
     .rw[Yb hk2,Yb ()]
     .rw[Yc hk2,Yc ()]
   .rw[Yl ()] at e';exact b6 k q () e'
  .obtain⟨o4,rfl,S6,qs,l6,n6,f6,c6,b6⟩:=(hPv _ _ _).mp pv;rw[cp] at c6;symm
   simp only[jm];symm
   have hF:∀q∈qs,Fq q:=λq hq=>(f6 q hq).1;refine⟨qs,l6,λd H7 n hn hz hd hnd S7 l7=>h d H7 (qs.take n) (S6.trans S7) l7 (S6.none hnd) (pC hF hz) (λk=>?_) (by rw[Yu];nofun)⟩
   rw[ju hF hd k,c6 k];by_cases hk:k<gs.length
   .rw[Yb hk]
   .rw[Yc hk,aE (qs:=gs) ()];grind
def eB(K:W.Frag):Sp:=λvs H Q _=>∃(a b:Addr)(fs gs:List (Int×Int))(A B:Nat),vs=[.ref a,.ref b]/\aK (vw K H) a fs/\aK (vw K H) b gs/\fs.length<=40/\gs.length<=40/\A+B<=400000/\(∀q∈fs,Fq q)/\(∀q∈gs,Fq q)/\Pb A (cf fs)/\Pb B (cf gs) /\
 ∀d H' (rs:List (Int×Int)),aB (vw K H) (vw K H')->aK (vw K H') d rs->vw K H d=none->aL rs->(∀k,cf rs k=pr (cf fs) (cf gs) fs.length k)->rs.length<=fs.length+gs.length->Q (.ref d) H'
theorem sT(F:dO K "_law_multiplied" "_law_multiplied" jq f fd) (T:eA K mg)(zCclean:cn P w K mg base "_law_clean" ["_law_numbers"] 1 (jm K)) (zCplus:cn P w K mg base "_law_plus" ["_law_one", "_law_other"] 3 (fh K)) (zCtimes:cn P w K mg base "_law_times" ["_law_one", "_law_other"] 3 (dN K)):bU P w K mg base dP 4 f fd ["_law_f", "_law_g"] (eB K):=by
 have scN:=k0.nd;refine F.okQ k0 ?_ ?_;walk_at "q"
 .obtain⟨a,_,_,_,_,_,rfl,_⟩:=h;rfl
 .obtain⟨a,b,fs,gs,A',B,rfl,ha,hb,lf,lg',hAB,hf,hg,⟨D1,d1,d2,d3⟩,⟨E1,e1',e2',e3'⟩,h⟩:=h;have bf:=Ob.bq d3 d1 d2 hf;have bg:=Ob.bq e3' e1' e2' hg;have hX:=Xc d1 e1';have bX:=d2.mul e2';refine⟨_,(af (aC (i:=2) scN rfl (·) (ar aP (aT (aa (aR (aa ae (aa ae ac))) ac)) (ar bQ (ai aq (by rfl) T.b_len aF (aa (qv 0) ac)) (ai aq (by rfl) T.b_len aF (aa (qv 1) ac)))))
   (af (cK PassesOwn.never rfl (cz rfl T.b_range (aa (ai aq (by rfl) T.b_len aF (aa (qv 0) ac)) ac)) (am (i:=3) scN rfl (·)) (ag (cK PassesOwn.never rfl (cz rfl T.b_range (aa (ai aq (by rfl) T.b_len aF (aa (qv 1) ac)) ac)) (am (i:=4) scN rfl (·)) (ag (cQ (ah zCplus nofun rfl (aa (aw cI (qv 2) (ar bQ (qv 3) (qv 4)) (λ_ _=>rfl)) (aa (ah zCtimes nofun rfl (aa (aw cI (qv 0) (qv 3) (λ_ _=>rfl)) (aa (aw cI (qv 1) (qv 4) (λ_ _=>rfl)) ac))) ac))) (mR (qv 2) (ar bQ (qv 3) (qv 4)) dE))))))
   (ag (av (ah zCclean nofun rfl (aa (qv 2) ac)))))),?_⟩
  walk_at"m";refine aM.gen λN1 hN1=>?_;symm
  obtain⟨xs,hxs,rxs⟩:=id ha;obtain⟨ys,hys,rys⟩:=id hb;refine⟨∅,λp2 H2 hp2 S2 h2=>⟨∅,λp3 H3 hp3 S3 h3=>?_⟩⟩;have S03:=S2.trans S3;refine⟨_,(ha.same S03).len,_,(hb.same S03).len,?_⟩;rw[show (fs.length:Int)+(gs.length:Int)=((fs.length+gs.length:Nat):Int) by nofun,gd]
  refine⟨_,h3,(),(),?_,λe H5 he S5 h5=>?_⟩
  .have:1000<=sizeLine:=∅;simp;nofun
  rw[show ((fs.length+gs.length:Nat):Int).toNat=fs.length+gs.length by nofun,iQ] at h5
  have S05:=S03.trans S5;have r2:aI (vw K H5) (fr (0,1)) (.ref p2):=aX ((S3.trans S5) _ _ h2);have ne:vw K H e=none:=S03.none he;refine hN1 _ _ ?_;refine aM.gen λN2 hN2=>?_;symm
  refine⟨_,(ha.same S05).len,(),(),?_⟩;obtain⟨n,hn⟩ : ∃n,n=fs.length+gs.length:=⟨_,rfl⟩;rw[<-hn] at h5;obtain⟨Pv,hPv⟩ : ∃Pv:Nat->St->Hp->Prop,∀i σ H',Pv i σ H'↔X2 λo3 o4=>σ=[some (.ref a),some (.ref b),some (.ref e),o3,o4]/\aB (vw K H) (vw K H') /\ ∃qs,aK (vw K H') e qs/\qs.length=n/\(∀q∈qs,Fq q)/\(∀k,k<n->cf qs k=pr (cf fs) (cf gs) i k):=⟨_,λ_ _ _=>XH⟩;refine ce (its:=fj 0 fs.length) Pv (λ_ _ _ _ _=>aV) ((hPv _ _ _).mpr ⟨_,_,rfl,S05,List.replicate n (0,1),⟨_,h5,?_⟩,by simp,λq hq=>?_,λk hk=>?_⟩) (λi x σ H6 hi hx pv=>?_) (λσ H6 pv=>?_)
  .rw[kg];exact aJ.repl r2 n
  .rw[(List.mem_replicate.mp hq).2];exact nG
  .rw[aA (List.getElem?_replicate_of_lt hk),pX];rfl
  .obtain⟨o3,o4,rfl,S6,qs,l6,n6,f6,c6⟩:=(hPv _ _ _).mp pv;obtain⟨hi',rfl⟩:=da hx;rw[XO];symm
   refine⟨_,(hb.same S6).len,(),(),?_⟩;obtain⟨Pw,hPw⟩ : ∃Pw:Nat->St->Hp->Prop,∀j σ H',Pw j σ H' ↔ ∃o4,σ=[some (.ref a),some (.ref b),some (.ref e),some (.int i),o4]/\aB (vw K H) (vw K H') /\ ∃qs,aK (vw K H') e qs/\qs.length=n/\(∀q∈qs,Fq q)/\(∀k,k<n->cf qs k=qr (cf fs) (cf gs) i j k):=⟨_,λ_ _ _=>XH⟩;refine ce (its:=fj 0 gs.length) Pw (λ_ _ _ _ _=>aV) ((hPw _ _ _).mpr ⟨_,rfl,S6,qs,l6,n6,f6,λk hk=>?_⟩) (λj x σ H7 hj hx pw=>?_) (λσ H7 pw=>?_)
   .rw[Km];exact c6 k hk
   .obtain⟨o4,rfl,S7,ps,l7,n7,f7,c7⟩:=(hPw _ _ _).mp pw;obtain⟨hj',rfl⟩:=da hx;rw[XO];obtain⟨zs,hzs,rzs⟩:=id l7;have hiq:i+j<ps.length:=();obtain⟨x0,e0,r0⟩:=rzs.at (i:=i+j) (d:=fr ps[i+j]) (by rw[Yz,YR hiq];rfl)
    obtain⟨x1,e1,r1⟩:=rxs.at (i:=i) (d:=fr fs[i]) (by rw[Yz,YR hi'];rfl)
    obtain⟨x2,e2,r2'⟩:=rys.at (i:=j) (d:=fr gs[j]) (by rw[Yz,YR hj'];rfl)
    have k1:=f7 ps[i+j] (YQ hiq);have k3:Bq (A'+B+100) ps[i+j]:=by
     obtain⟨m,em,bm⟩:=IN d1 e1' d3 e3' i j (i+j);have em':qr (cf fs) (cf gs) i j (i+j)=_:=em;refine ik k1 (n:=m) (by rw[<-em',<-c7 (i+j) (),aA (YR hiq)]) hX (bm.mono ()) (bX.mono ())
    have g1:=hg gs[j] (YQ hj');have g2:=bg gs[j] (YQ hj');have u1:=hf fs[i] (YQ hi');have u2:=bf fs[i] (YQ hi');symm
    rw[show (i:Int)+(j:Int)=((i+j:Nat):Int) by nofun]
    refine⟨zs,hzs,x0,bO e0,xs,S7 _ _ hxs,x1,bO e1,ys,S7 _ _ hys,x2,bO e2,?_⟩;simp only[dN];symm
    refine⟨_,aI.same S7 _ _ r1,_,aI.same S7 _ _ r2',u1.ne,g1.ne,u2.mono (),g2.mono (),(u2.2.mul g2.2).mono (),λv3 H8 S8 r3=>?_⟩;have f3:=gJ u1 g1;have b3:=i3 u1 g1 u2 g2;simp only[fh];symm
    refine⟨_,aI.same S8 _ _ r0,_,r3,k1.ne,f3.ne,k3.mono (),b3.mono (),(k3.2.mul b3.2).mono (),λv4 H9 S9 r4=>?_⟩;have f4:=i4 k1 f3;have S79:=S8.trans S9;have hlz:zs.length=ps.length:=by rw[rzs.length,YC]
    refine⟨zs,S79 _ _ hzs,i+j,by rw[hlz];exact ir hiq,λH10 B10 h10=>(hPw _ _ _).mpr ⟨_,rfl,λx o e'=>B10 _ _ (aj e' ne) (S79 _ _ (S7 _ _ e')),ps.set (i+j) (nZ ps[i+j] (kT fs[i] gs[j])),aK.chg (S79 _ _ hzs) (rzs.same S79) r4 B10 h10,by rw[YG];exact n7,λq hq=>?_,λk hk=>?_⟩⟩
    .rcases XQ hq with z|z
     .exact f7 q z
     .rw[z];exact f4
    .rw[yL hiq,JN];by_cases hk:k=i+j
     .rw[Yb hk,Yb hk,kG k1.ne f3.ne,ja u1.ne g1.ne,<-aA (YR hiq),<-aA (YR hi'),<-aA (YR hj'),c7 (i+j) ()]
     .rw[Yc hk,Yc hk,c7 k (by assumption)]
   .obtain⟨o4,rfl,S7,ps,l7,n7,f7,c7⟩:=(hPw _ _ _).mp pw;rw[cp] at c7;refine (hPv _ _ _).mpr ⟨_,_,rfl,S7,ps,l7,n7,f7,λk hk=>?_⟩;rw[c7 k hk,GZ λi hi=>aE hi]
  .obtain⟨o3,o4,rfl,S6,qs,l6,n6,f6,c6⟩:=(hPv _ _ _).mp pv;rw[cp] at c6;refine hN2 _ _ ?_;symm
   simp only[jm];symm
   have hF:∀q∈qs,Fq q:=f6;refine⟨qs,l6,λd H7 n' hn' hz hd hnd S7 l7=>h d H7 (qs.take n') (S6.trans S7) l7 (S6.none hnd) (pC hF hz) (λk=>?_) (by rw[Yu];nofun)⟩
   rw[ju hF hd k];by_cases hk:k<n
   .exact c6 k hk
   .rw[aE (),eU (n:=gs.length) (λi hi=>aE hi) _ _ ()]
inductive gN (K:W.Frag)(vs:List V)(H:Hp)(Q:VK)(E:XK):Prop
 | mk (a b c:Addr)(es qs fs gs:List (Int×Int))(A B C:Nat):vs=[.ref a,.ref b,.ref c]->aK (vw K H) a es->(∃ext,es=qs++ext)->aK (vw K H) b fs->aK (vw K H) c gs->qs.length<=12->fs.length<=14->gs.length<=14->(∀q∈qs,Fq q)->(∀q∈fs,Fq q)->(∀q∈gs,Fq q)->A+B+C<=300000->Pb A (cf qs)->Pb B (cf fs)->Pb C (cf gs)->(∀rs,aL rs->(∀k,cf rs k=pr (cf fs) (cf gs) fs.length k)->rs.length<=qs.length)->(∀v H' r,aB (vw K H) (vw K H')->aI (vw K H') (fr r) v->Fq r->wv r=ak (λm=>pr (cf fs) (cf gs) fs.length m) (cf qs) (fs.length+gs.length)->Q v H')->gN K vs H Q E
theorem Ci(F:dO K "_law_square" "_law_square" qo f fd) (T:eA K mg)(zCworth:cn P w K mg base "_law_worth" ["_law_sums_here", "_law_f"] 4 (lJ K)) (zCmultiplied:cn P w K mg base "_law_multiplied" ["_law_f", "_law_g"] 4 (eB K)):bU P w K mg base dP 5 f fd ["_law_sums_here", "_law_f", "_law_g"] (gN K):=by
 have scN:=uF.nd;refine F.okQ uF ?_ ?_;walk_at "q"
 .obtain⟨a,_,_,_,_,_,_,_,_,_,rfl,_⟩:=h;rfl
 .obtain⟨a,b,c,es,qs,fs,gs,A1,B1,C1,rfl,ha,hex,hb,hc,lq,lf,lg',hq,hf,hg,hA,pq,pf,pg,hl,h⟩:=h;refine⟨_,(ag (av (ah zCworth nofun rfl (aa (qv 0) (aa (ah zCmultiplied nofun rfl (aa (qv 1) (aa (qv 2) ac))) ac))))),?_⟩
  walk_at"m";symm
  simp only[eB,lJ];symm
  refine⟨fs,hb,gs,hc,(),(),B1,C1,(),hf,hg,pf,pg,λd H1 rs S1 l1 _ p1 w1 n1=>?_⟩;refine⟨es,ha.same S1,qs,hex,rs,l1,hl rs p1 w1,lq,hq,p1.1,A1,pq,B1+C1+fs.length,(Pb.pr pf pg fs.length).congr w1,(),λv H2 r S2 r2 f2 w2=>h v H2 r (S1.trans S2) r2 f2 ?_⟩;rw[w2,<-dR (n:=rs.length) (λi hi=>by rw[aE hi];grind) (fs.length+gs.length-rs.length),show rs.length+(fs.length+gs.length-rs.length)=fs.length+gs.length by nofun]
  exact aD _ (λi _=>w1 i) λ_ _=>rfl
theorem IR{qs:List (Int×Int)}{W:Nat->Int}{B:Int}(cl:kv qs W B)(sq:∀q∈qs,hZ q):Bt 170 B:=by
 have:=Int.le_of_dvd ∅ (cl.least (ET) λq hq=>(sq q hq).2.2);have:ET<2^170:=∅;have:=cl.pos;unfold Bt;have e:(2:Int)^170=((2^170:Nat):Int):=∅;nofun
theorem GM{W:Nat->Int}{B:Int}{k:Nat}{c:List (Int×Int)×(Int×Int)}(h:dL W B k c)(hB:0<B)(hD:0<Dk W k):c.2.1*(Dk W k*B)=Dk W (k+1)*c.2.2:=by
 have e:=h.sqv;have p:=Y6 hD hB;have c1:((Dk W k*B:Int):Rat)≠0:=ao ();have c2:=ao h.fq.ne;unfold wv at e;have:((c.2.1*(Dk W k*B):Int):Rat)=((Dk W (k+1)*c.2.2:Int):Rat):=by
  rw[Xe,Xe];grind
 exact Rat.intCast_inj.mp this
theorem dL.sgn{W:Nat->Int}{B:Int}{k:Nat}{c:List (Int×Int)×(Int×Int)}(h:dL W B k c)(hB:0<B)(hD:0<Dk W k):0<c.2.1↔0<Dk W (k+1):=by
 have e:=GM h hB hD;have p:=Y6 hD hB;constructor
 .intro z;exact Xh (by rw[<-e];exact Y6 z p) h.fq.1
 .intro z;exact Xh (by rw[e];exact Y6 z h.fq.1) p
theorem F7{W:Nat->Int}{k:Nat}(hD:Dk W k≠0)(hk:k<=5)(bW:∀i,Bt 170 (W i)):Pb 1100 (Pk W k) :=
 ⟨Dk W k,hD,(lE bW ()).mono ∅,λj=>⟨qk W k j,rfl,(lS bW hk).mono ∅⟩⟩
theorem Jh(k j:Nat):cf (List.replicate k (0,1)++[(1,1)]) j=Xk k j:=AJ k j
theorem KH(k:Nat):aL (List.replicate k ((0:Int),(1:Int))++[(1,1)]):=⟨Do k,λq hq=>by
 rw[List.getLast?_append] at hq;cases hq;decide⟩
inductive JR (K:W.Frag)(vs:List V)(H:Hp)(Q:VK)(E:XK):Prop
 | mk (k:Nat):vs=[.int k]->k<=20->(∀d H',aB (vw K H) (vw K H')->vw K H d=none->aK (vw K H') d (List.replicate k (0,1)++[(1,1)])->Q (.ref d) H')->JR K vs H Q E
theorem Lg(F:dO K "_law_x" "_law_x" Kv f fd) (T:eA K mg):bU P w K mg base dP 1 f fd ["_law_many"] (JR K):=by
 have scN:=KR.nd;refine F.okQ KR ?_ ?_;walk_at "q"
 .obtain⟨_,rfl,_⟩:=h;rfl
 .obtain⟨k,rfl,hk,h⟩:=h;refine⟨_,(ag (av (ar bQ (ar aP (aT (aa (aR (aa ae (aa ae ac))) ac)) (qv 0)) (aT (aa (aR (aa ae (aa ae ac))) ac))))),?_⟩;walk_at"m";skip
  symm
  refine⟨∅,λp1 H1 hp1 S1 h1=>⟨∅,λp2 H2 hp2 S2 h2=>?_⟩⟩;show gk K (.ref p2) (.int _) H2 _;rw[gd];refine⟨_,h2,(),(),?_,λp3 H3 hp3 S3 h3=>⟨∅,λp4 H4 hp4 S4 h4=>⟨∅,λp5 H5 hp5 S5 h5=>?_⟩⟩⟩
  .have:1000<=sizeLine:=∅;simp;nofun
  rw[show ((k:Nat):Int).toNat=k by nofun,iQ] at h3
  show ij K (.ref p3) (.ref p5) H5 _;rw[fN];refine⟨_,(S4.trans S5) _ _ h3,_,h5,?_,λp6 H6 hp6 S6 h6=>?_⟩
  .have:1000<=sizeLine:=∅;simp;nofun
  have S15:=S2.trans (S3.trans (S4.trans S5));refine h p6 H6 (S1.trans (S15.trans S6)) ((S1.trans S15).none hp6) ⟨_,h6,?_⟩;rw[XI,kg];exact (aJ.repl (aX ((S15.trans S6) _ _ h1)) k).app (.mk_cons (aX ((S5.trans S6) _ _ h4)) .mk_nil)
theorem JA{W:Nat->Int}{B:Int}{S P:Nat->Rat}{k i N:Nat}(hD:Dk W i≠0)(hB:B≠0)(hP:∀j,P j=((qk W i j:Int):Rat)/((Dk W i:Int):Rat))(hS:∀i,((W i:Int):Rat)=S i*(B:Rat))(hN:k+i+1<=N):ak (λm=>pr (Xk k) P (k+1) m) S N=((Lq W i k:Int):Rat)/(((Dk W i:Int):Rat)*(B:Rat)):=by
 rw[tK];show ak (Xk k) _ k+Xk k k*ak P (λj=>S (k+j)) (N-k)=_;rw[aW k λj hj=>by rw[show Xk k j=0 from Yc ()];grind,show Xk k k=1 from Yb rfl]
 have m:=dR (f:=P) (h:=λj=>S (k+j)) (n:=i+1) (λj hj=>by
  have z:((0:Int):Rat)=0:=rfl;rw[hP j,du (),z];grind) (N-k-(i+1))
 rw[show i+1+(N-k-(i+1))=N-k by nofun] at m
 rw[m,gS hD hB hP hS k];grind
inductive oj (K:W.Frag)(vs:List V)(H:Hp)(Q:VK)(E:XK):Prop
 | mk (a b t:Addr)(es qs:List (Int×Int))(W:Nat->Int)(B:Int)(k:Nat)(pss:List (List (Int×Int)×(Int×Int)))(Pr:Addr->Prop):vs=[.ref a,.ref b,.ref t]->aK (vw K H) a es->(∃ext,es=qs++ext)->aK (vw K H) b (List.replicate k (0,1)++[(1,1)])->fJ (vw K H) t pss Pr->pss.length=k->k<=5->2*k<=qs.length->qs.length<=11->(∀q∈qs,hZ q)->kv qs W B->(∀i,i<=k->0<Dk W i)->(∀i c,pss[i]? = some c->dL W B i c)->(∀d H' rs,aB (vw K H) (vw K H')->vw K H d=none->aK (vw K H') d rs->aL rs->(∀j,cf rs j=Pk W k j)->Q (.ref d) H')->oj K vs H Q E
theorem E4(F:dO K "_law_along" "_law_along" sO f fd) (T:eA K mg)(zCover:cn P w K mg base "_law_over" ["_law_one", "_law_other"] 3 (wT K)) (zCsquare:cn P w K mg base "_law_square" ["_law_sums_here", "_law_f", "_law_g"] 5 (gN K)) (zCsummed:cn P w K mg base "_law_summed" ["_law_f", "_law_g", "_law_by"] 4 (lK K)):bU P w K mg base dP 6 f fd ["_law_sums_here", "_law_start", "_law_found"] (oj K):=by
 have scN:=yB.nd;refine F.okQ yB ?_ ?_;walk_at "q"
 .obtain⟨_,_,_,_,_,_,_,_,_,_,rfl,_⟩:=h;rfl
 .obtain⟨a,b,t,es,qs,W,B,k,pss,Pr,rfl,ha,hex,hb,sa,lp,k5,kn,l11,sq,cl,hD,so,h⟩:=h;refine⟨_,(af (aC (i:=3) scN rfl (·) (iO gU (by rfl) T.b_list gI (aa (qv 1) ac)))
   (af (cK PassesOwn.never rfl (cY (qv 2)) (aY (n:=2) rfl (au (am (i:=4) scN rfl (·)) (au (am (i:=5) scN rfl (·)) aZ))) (af (aC (i:=6) scN rfl (·) (ah zCover nofun rfl (aa (ah zCsquare nofun rfl (aa (qv 0) (aa (qv 1) (aa (qv 4) ac)))) (aa (qv 5) ac))))
   (ag (aC (i:=3) scN rfl (·) (ah zCsummed nofun rfl (aa (qv 3) (aa (qv 4) (aa (aR (aa (ar cj ae (aw bI (qv 6) ae (λ_ _=>rfl))) (aa (aw bI (qv 6) ae (λ_ _=>rfl)) ac))) ac))))))))
   (ag (av (qv 3))))),?_⟩
  walk_at"m";skip
  obtain⟨bx,hbx,rbx⟩:=id hb;obtain⟨xs,hxs,lxs,hx⟩:=id sa;have dn:∀i,i<=k->Dk W i≠0:=λi hi=>by have:=hD i hi;nofun
  obtain⟨β,hβ,_,bj,lst⟩:=Bb (W:=W) (k:=k) dn;refine aM.gen λN1 hN1=>?_;symm
  refine⟨bx,hbx,λp1 H1 hp1 S1 h1=>hN1 _ _ ?_⟩;refine aM.gen λN2 hN2=>?_;symm
  refine⟨⟨_,.of (aQ (S1 _ _ hxs))⟩,?_⟩;obtain⟨Pv,hPv⟩ : ∃Pv:Nat->St->Hp->Prop,∀i σ H',Pv i σ H'↔X5 λ(d:Addr)(o4 o5 o6:Option V)(rs:List (Int×Int))=>σ=[some (.ref a),some (.ref b),some (.ref t),some (.ref d),o4,o5,o6]/\aB (vw K H) (vw K H')/\vw K H d=none/\aK (vw K H') d rs/\aL rs /\ ∀j,cf rs j=Xk k j-ku β (Pk W) i j:=⟨_,λ_ _ _=>XH⟩;refine ce (its:=xs) Pv (λi σ H' _ p=>?_) ((hPv _ _ _).mpr ⟨p1,_,_,_,_,rfl,S1,hp1,⟨_,h1,rbx.same S1⟩,KH k,λj=>?_⟩) (λi x σ H2 hi hx2 pv=>?_) (λσ H2 pv=>?_)
  .obtain⟨_,_,_,_,_,_,S2,_⟩:=(hPv _ _ _).mp p;exact bZ (S2 _ _ hxs)
  .rw[Jh];show _=Xk k j-0;grind
  .obtain⟨d,o4,o5,o6,rs,rfl,S2,nd,ld,pd,ed⟩:=(hPv _ _ _).mp pv;obtain⟨c,hc⟩ : ∃c,pss[i]? = some c:=⟨_,YR ()⟩;obtain⟨y,l,v,e1,e2,e3,e4,e5⟩:=hx i c hc;rw[hx2] at e1;cases e1;have soc:=so i c hc;have hi':i<k:=();have di:=hD i ();have di1:=hD (i+1) ();have dni:=dn i ();have hB:=cl.pos;have lc:=soc.len dni;have bB:=IR cl sq;have bD:∀i,i<=6->Bt 1046 (Dk W i):=λi hi=>(lE cl.bt hi).mono ∅;have dB:Dk W i*B≠0:=Xc dni ();have cB:=ao (show B≠0 by nofun)
   have c0:=ao dni;have c1:=ao (show Dk W (i+1)≠0 by nofun)
   have sv:=soc.sqv;have f1:=soc.fq;have b1:Bq 1216 c.2:=ik f1 sv dB ((bD (i+1) ()).mono ∅) (((bD i ()).mul bB).mono ∅);rw[Xe] at sv;have nz:c.2.1≠0:=λz=>by
    rw[(fU f1.ne).mpr z] at sv;grind
   have hFq:∀q∈qs,Fq q:=λq hq=>(sq q hq).1;have xcf:cf (List.replicate k (0,1)++[(1,1)])=Xk k:=funext λj=>Jh k j;symm
   refine⟨_,S2 _ _ e2,rfl,_,_,rfl,_,_,rfl,rfl,?_⟩;refine⟨a,b,l,es,qs,_,c.1,170,1100,1100,rfl,ha.same S2,hex,hb.same S2,e3.same S2,(),by simp;nofun,(),hFq,Do k,soc.po.1,∅,iB sq,HH k,soc.pb dni () cl.bt,λus pu eu=>?_,λv3 H3 r S3 r3 fr3 w3=>?_⟩
   .refine Yg (iy (m:=k+i+1) pu λm hm=>?_) ();rw[eu];exact eU (n:=i+1) (λj hj=>aE ()) _ _ (by simp;nofun)
   rw[xcf,YB,YD,YJ,JA dni () soc.num cl.val (by rw[lc];nofun)] at w3
   have b3:Bq 1216 r:=ik (D:=Dk W i*B) fr3 (by rw[w3,Xe]) dB ((xT cl.bt ()).mono ∅) (((bD i ()).mul bB).mono ∅)
   refine⟨_,_,r,c.2,rfl,r3,aI.same (S2.trans S3) _ _ e4,fr3.ne,f1.ne,nz,b3.mono ∅,b1.mono ∅,(b3.2.mul b1.1).mono ∅,λv4 H4 S4 r4=>?_⟩;obtain⟨y',hy'⟩ : ∃y,y=Br r c.2:=⟨_,rfl⟩;rw[<-hy'] at r4;have fy:Fq y':=by rw[hy'];exact DO fr3 nz
   have wy:wv y'=β i:=by
    rw[hy',GU fr3.ne f1.ne nz,w3,sv,bj i hi'];grind
   have by':Bq 3600 y':=(ik (D:=Dk W (i+1)) fy (by rw[wy,bj i hi']) () ((xT cl.bt ()).mono (by decide:_<=1046)) ((bD (i+1) ()))).mono ∅
   obtain⟨bp,rfl,hbp⟩:=id r4.fr_at;refine⟨bp,rfl,_,hbp,_,cW,_,rfl,bp,rfl,_,hbp,_,dU,∅,λp5 H5 hp5 S5 h5=>?_⟩;have S25:=S3.trans (S4.trans S5);have S05:=S2.trans S25;have fc:Fq (0-y'.1,y'.2):=⟨fy.1,by have:=fy.2;rw[Int.zero_sub,Int.neg_gcd];exact this⟩
   have wc:wv (0-y'.1,y'.2) = - wv y':=by
    unfold wv;show ((0-y'.1:Int):Rat)/(y'.2:Rat)=_;rw[Xi];have c0:((0:Int):Rat)=0:=rfl;rw[c0];grind
   have bc:Bq 3600 (0-y'.1,y'.2):=⟨by have:=by'.1;unfold Bt at this ⊢;show (0-y'.1).natAbs<_;nofun,by'.2⟩
   have prs:Pb 2630 (cf rs):=(CW k5 cl.bt dn hβ i ()).congr ed;have lrs:rs.length<=k+1:=iy pd λm hm=>by
    rw[ed m,show Xk k m=0 from Yc (),ou i ()]
    grind
   show lK K [.ref d,.ref l,.ref p5] H5 _ _;refine⟨d,l,_,rs,c.1,(0-y'.1,y'.2),rfl,ld.same S25,e3.same S05,aX h5,(),(),λq hq=>⟨pd.1 q hq,(prs.bq pd.1 q hq).mono ∅⟩,λq hq=>⟨soc.po.1 q hq,?_⟩,fc,bc,λd6 H6 us S6 l6 n6 p6 w6 _=>?_⟩
   .obtain⟨j,hj⟩:=XR hq;have e:=soc.num j;rw[aA hj] at e;exact ik (soc.po.1 q hq) e dni ((lS cl.bt ()).mono ∅) ((xz cl.bt ()).mono (by have:(170+3)*i<=(170+3)*4:=Xw _ ();nofun))
   refine (hPv _ _ _).mpr ⟨d6,_,_,_,us,rfl,S05.trans S6,S05.none n6,l6,p6,λj=>?_⟩;rw[w6 j,ed j,wc,wy,soc.num j];show _=Xk k j-(ku β (Pk W) i j+β i*Pk W i j);show _=Xk k j-(ku β (Pk W) i j+β i*(((qk W i j:Int):Rat)/((Dk W i:Int):Rat)));grind
  .obtain⟨d,o4,o5,o6,rs,rfl,S2,nd,ld,pd,ed⟩:=(hPv _ _ _).mp pv;refine hN2 _ _ ?_;symm
   exact h d H2 rs S2 nd ld pd λj=>by rw[ed j,lxs,lp];exact lst j
theorem fJ.snoc{G G':Hp}{t x m:Addr}{v:V}{ys:List V}{pss:List (List (Int×Int)×(Int×Int))}{c:List (Int×Int)×(Int×Int)}{Pr:Addr->Prop}(h:fJ G t pss Pr)(ht:G t=some (.lst ys))(hP:∀m,Pr m->m≠t)(hx:G x=some (.tup [.ref m,v]))(hm:aK G m c.1)(hv:aI G (fr c.2) v)(pm:Pr m)(B:fV t G G')(h':G' t=some (.lst (ys++[.ref x]))):fJ G' t (pss++[c]) Pr:=by
 obtain⟨ys',h1,h2,h3⟩:=h;rw[ht] at h1;cases h1;refine⟨_,h',by simp[h2],λk d e=>?_⟩
 by_cases z:k<pss.length
 .rw[Yy z] at e;obtain⟨x,m,v,e1,e2,e3,e4,e5⟩:=h3 k d e;exact⟨x,m,v,by rw[Yy ()];exact e1,B _ _ (λz=>by rw[z,ht] at e2;cases e2) e2,e3.but ht (hP m e5) B,aI.flat_but ht B _ _ (bA _) e4,e5⟩
 .rw[Yw ()] at e;have hm0:k-pss.length=0:=by
   have:=(List.getElem?_eq_some_iff.mp e).1;simp at this;nofun
  rw[hm0] at e;cases e;exact⟨x,m,v,by rw[Yw (),h2,hm0];rfl,B _ _ (λz=>by rw[z,ht] at hx;cases hx) hx,hm.but ht (hP m pm) B,aI.flat_but ht B _ _ (bA _) hv,pm⟩
inductive oq (K:W.Frag)(vs:List V)(H:Hp)(Q:VK)(E:XK):Prop
 | mk (a:Addr)(es qs:List (Int×Int))(x:Int×Int)(W:Nat->Int)(B:Int)(M A:Nat):vs=[.ref a]->aK (vw K H) a es->es=qs++[x]->qs.length=2*M->M<=5->(∀q∈qs,hZ q)->kv qs W B->(∀i,i<=M->0<Dk W i)->Fq x->Pb A (cf es)->A<=100000->(∀(t:Addr) H' pss c,aB (vw K H) (vw K H')->vw K H t=none->pss.length=M+1->fJ (vw K H') t pss (λl=>vw K H l=none/\l≠t)->pss[M]? = some c->Fq c.2->wv c.2=ak (λm=>pr (Pk W M) (Pk W M) (M+1) m) (cf es) (M+1+(M+1))->Q (.ref t) H')->oq K vs H Q E
theorem Fy(F:dO K "_law_steps" "_law_steps" sL f fd) (T:eA K mg)(zCalong:cn P w K mg base "_law_along" ["_law_sums_here", "_law_start", "_law_found"] 6 (oj K)) (zCx:cn P w K mg base "_law_x" ["_law_many"] 1 (JR K)) (zCsquare:cn P w K mg base "_law_square" ["_law_sums_here", "_law_f", "_law_g"] 5 (gN K)):bU P w K mg base dP 7 f fd ["_law_sums_here"] (oq K):=by
 have scN:=yP.nd;refine F.okQ yP ?_ ?_;walk_at "q"
 .obtain⟨_,_,_,_,_,_,_,_,rfl,_⟩:=h;rfl
 .obtain⟨a,es,qs,y,W,B,M,Ab,rfl,ha,hes,lqs,M5,sq,cl,hD,fy,bes,hAb,h⟩:=h;have les:es.length=2*M+1:=by rw[hes,YB,lqs];rfl
  have fes:∀q∈es,Fq q:=λq hq=>by
   rw[hes] at hq;rcases List.mem_append.mp hq with z|z
   .exact (sq q z).1
   .rw[List.mem_singleton.mp z];exact fy
  refine⟨_,(af (aC (i:=1) scN rfl (·) (aT ac))
   (af (fZ PassesOwn.never (QW.pt (m4 (aH ky (ar aP ae (ai aq (by rfl) T.b_len aF (aa (qv 1) ac))) (ai aq (by rfl) T.b_len aF (aa (qv 0) ac)) (aG _)) (km (QW.pt (fG (aH (pA hr.ul) (qv 1) (aT ac) (aG _)) (fR (aH io (aw bI (aw bI (aw cI (qv 1) (cX cy ae) (λ_ _=>rfl)) ae (λ_ _=>rfl)) ae (λ_ _=>rfl)) ae (aG _)))))))) (af (aC (i:=2) scN rfl (·) (ah zCalong nofun rfl (aa (qv 0) (aa (ah zCx nofun rfl (aa (ai aq (by rfl) T.b_len aF (aa (qv 1) ac)) ac)) (aa (qv 1) ac)))))
   (ag (gH (nr XN XS XT ee (qv 1) (aa (aR (aa (qv 2) (aa (ah zCsquare nofun rfl (aa (qv 0) (aa (qv 2) (aa (qv 2) ac)))) ac))) ac))))))
   (ag (av (qv 1))))),?_⟩
  walk_at"m";skip
  have hFq:∀q∈qs,Fq q:=λq hq=>(sq q hq).1;have hB:=cl.pos;refine aM.gen λN1 hN1=>?_;symm
  refine⟨∅,λt H1 ht S1 h1=>hN1 _ _ ?_⟩;refine aM.gen λN2 hN2=>?_;obtain⟨Wv,hWv⟩ : ∃Wv:Nat->St->Hp->Prop,∀m σ H',Wv m σ H'↔X2 λ(pss:List (List (Int×Int)×(Int×Int)))(o:Option V)=>σ=[some (.ref a),some (.ref t),o]/\m=20-pss.length/\aB (vw K H) (vw K H')/\fJ (vw K H') t pss (λl=>vw K H l=none/\l≠t)/\pss.length<=M+1/\(∀k c,pss[k]? = some c->k<M->dL W B k c)/\(∀c,pss[M]? = some c->Fq c.2/\wv c.2=ak (λm=>pr (Pk W M) (Pk W M) (M+1) m) (cf es) (M+1+(M+1))):=⟨_,λ_ _ _=>XH⟩;refine⟨Wv,⟨_,(hWv _ _ _).mpr ⟨[],_,rfl,rfl,S1,⟨[],h1,rfl,by simp⟩,by simp,by simp,by simp⟩⟩,λm σ H3 hw=>?_⟩
  obtain⟨pss,o,rfl,rfl,S3,sa,far,so,la⟩:=(hWv _ _ _).mp hw;obtain⟨xs,hxs,lxs,hx⟩:=id sa;have lt:∀{H':Hp},aB (vw K H3) (vw K H')->dJ (vw K H') t=some pss.length:=λS=>by simp only[dJ,S _ _ hxs,lxs]
  have key:∀H2,aB (vw K H3) (vw K H2)->pss.length<=M -> ∃n:Nat,dJ (vw K H2) t=some n/\JR K [V.int (n:Int)] H2 (λx H1=>oj K [V.ref a,x,V.ref t] H1 (λx H1=>IE K "list" (V.ref t) H1/\gN K [V.ref a,x,x] H1 (λx_1 H1=>2<=sizeLine/\Nw K H1 (HO.tup [x,x_1]) λx_2 H1=>∃xs,vw K H1 t=some (HO.lst xs)/\xs.length<sizeLine/\D3 K H1 t (HO.lst (xs++[x_2])) λH1=>∃m',m'<20-pss.length/\Wv m' [some (V.ref a),some (V.ref t),some x] H1) E0) E0) E0:=by
   intro H4 S4 hkn;refine⟨pss.length,lt S4,?_⟩;refine⟨pss.length,rfl,(),λd5 H5 S5 nd5 l5=>?_⟩;have S35:=S4.trans S5;refine⟨a,d5,t,es,qs,W,B,pss.length,pss,_,rfl,ha.same (S3.trans S35),⟨[y],hes⟩,l5,sa.same S35,rfl,(),(),(),sq,cl,λi hi=>hD i (),λi c e=>so i c e (by have:=(List.getElem?_eq_some_iff.mp e).1;nofun),λd6 H6 rs S6 nd6 l6 p6 w6=>?_⟩
   have S36:=S35.trans S6;have dn:Dk W pss.length≠0:=by have:=hD pss.length hkn;nofun
   have lr:=ko p6 dn w6;have prs:Pb 1100 (cf rs):=by
    have:=(F7 dn (show pss.length<=5 by nofun) cl.bt)
    exact this.congr w6
   refine⟨iJ (S36 _ _ hxs),?_⟩;have hlen:∀us,aL us->(∀k,cf us k=pr (cf rs) (cf rs) rs.length k)->us.length<=2*pss.length+1:=λus pu eu=>iy (m:=2*pss.length+1) pu λm hm=>by
    rw[eu];exact eU (n:=rs.length) (λj hj=>aE hj) _ _ ()
   have sqr:∀Q':VK,(∀v H' r,aB (vw K H6) (vw K H')->aI (vw K H') (fr r) v->Fq r->(pss.length<M->wv r=((Dk W (pss.length+1):Int):Rat)/((Dk W pss.length*B:Int):Rat))->(pss.length=M->wv r=ak (λm=>pr (Pk W M) (Pk W M) (M+1) m) (cf es) (M+1+(M+1)))->Q' v H')->gN K [.ref a,.ref d6,.ref d6] H6 Q' E0:=λQ' hQ=>by
    by_cases hlt:pss.length<M
    .refine⟨a,d6,d6,es,qs,rs,rs,170,1100,1100,rfl,ha.same (S3.trans S36),⟨[y],hes⟩,l6,l6,(),(),(),λq hq=>(sq q hq).1,p6.1,p6.1,∅,iB sq,prs,prs,λus pu eu=>Yg (hlen us pu eu) (),λv7 H7 r S7 r7 f7 w7=>hQ v7 H7 r S7 r7 f7 (λ_=>?_) λz=>absurd z ()⟩;rw[lr,Fv dn () w6 cl.val ()] at w7;exact w7
    .have ek:pss.length=M:=();refine⟨a,d6,d6,es,es,rs,rs,Ab,1100,1100,rfl,ha.same (S3.trans S36),⟨[],by simp⟩,l6,l6,(),(),(),fes,p6.1,p6.1,(),bes,prs,prs,λus pu eu=>Yg (hlen us pu eu) (),λv7 H7 r S7 r7 f7 w7=>hQ v7 H7 r S7 r7 f7 (λz=>absurd z ()) λ_=>?_⟩
     rw[lr,ek,show cf rs=Pk W M from funext λj=>by rw[w6,ek]] at w7
     exact w7
   refine sqr _ λv7 H7 r S7 r7 f7 w7 w7'=>⟨∅,λp8 H8 hp8 S8 h8=>?_⟩;have S38:=S36.trans (S7.trans S8);refine⟨xs,S38 _ _ hxs,?_,λH9 B9 h9=>?_⟩
   .rw[lxs];have:1000<=sizeLine:=∅;nofun
   have S78:=S7.trans S8;have t0:vw K H t=none:=ht;have d6t:d6≠t:=(aj (S35 _ _ hxs) nd6).symm;refine⟨20-(pss.length+1),(),(hWv _ _ _).mpr ⟨pss++[(rs,r)],_,rfl,by simp,λb o e=>B9 _ _ (aj e t0) ((S3.trans S38) _ _ e),(sa.same S38).snoc (c:=(rs,r)) (S38 _ _ hxs) (λm z=>z.2) h8 (l6.same S78) (aI.same S8 _ _ r7) ⟨(S3.trans S35).none nd6,d6t⟩ B9 h9,by simp;nofun,λk c e hkM=>?_,λc e=>?_⟩⟩
   .by_cases z:k<pss.length
    .rw[Yy z] at e;exact so k c e hkM
    rw[Yw ()] at e;have hm0:k=pss.length:=by
     have:=(List.getElem?_eq_some_iff.mp e).1;simp at this;nofun
    subst hm0;rw[XF] at e;cases e;exact⟨p6,w6,f7,w7 hkM⟩
   .by_cases z:M<pss.length
    .rw[Yy z] at e;exact la c e
    .have hm0:M=pss.length:=by
      have:=(List.getElem?_eq_some_iff.mp e).1;simp at this;nofun
     rw[hm0,Yw (Yp _),XF] at e;cases e;exact⟨f7,w7' hm0.symm⟩
  have out:∀H2,aB (vw K H3) (vw K H2)->pss.length=M+1->N2 [some (V.ref a),some (V.ref t),o] H2:=λH2 S2 one=>by
   refine hN2 _ _ ?_;symm
   have hM:M<pss.length:=();obtain⟨l1,l2⟩:=la _ (YR hM);exact h t H2 pss _ (S3.trans S2) ht one (sa.same S2) (YR hM) l1 l2
  symm
  refine⟨_,lt .rfl,gB ∅,_,(ha.same S3).len,cH (λc1=>?_) (λc1=>out H3 .rfl ())⟩;refine⟨∅,λe4 H4 he4 S4 h4=>⟨e4,rfl,xs,S4 _ _ hxs,h4,cH (λc2=>?_) (λc2=>?_)⟩⟩
  .have p0:pss.length=0:=by rw[<-lxs,List.isEmpty_iff.mp c2];rfl
   exact⟨_,λσ' H' z=>z,key H4 S4 ()⟩
  .have p1:1<=pss.length:=by
    rw[<-lxs];exact List.length_pos_iff.mpr λz=>c2 (by rw[z];rfl)
   obtain⟨c,hc⟩ : ∃c,pss[pss.length-1]? = some c:=⟨_,YR ()⟩;obtain⟨x,l,v,e1,e2,e3,e4',e5⟩:=hx _ _ hc;obtain⟨vp,rfl,hvp⟩:=id e4'.fr_at;have xl:xs.getLast? = some (.ref x):=by rw[YZ,lxs];exact e1
   have dk:=hD (pss.length-1) ();have sg:=(so _ _ hc ()).sgn hB dk;rw[show pss.length-1+1=pss.length by nofun] at sg
   refine⟨xs,S4 _ _ hxs,_,dX xl,x,rfl,_,S4 _ _ e2,_,dU,vp,rfl,_,S4 _ _ hvp,_,cW,_,rfl,cH (λc3=>?_) (λc3=>?_)⟩
   .exact⟨_,λσ' H' z=>z,key H4 S4 ()⟩
   .exact absurd (sg.mpr (hD pss.length ())) c3
def tJ(K:W.Frag):Sp:=λvs H Q _=>∃x d,vs=[x]/\aI (vw K H) d x/\Q (.bl d.isInt) H
theorem DJ(F:dO K "_law_whole" "_law_whole" rQ f fd) (T:eA K mg):bU P w K mg base dP 1 f fd ["_law_thing"] (tJ K):=by
 have scN:=zd.nd;refine F.okQ zd ?_ ?_;walk_at "q"
 .obtain⟨a,_,rfl,_⟩:=h;rfl
 .obtain⟨x,d,rfl,hx,h⟩:=h;refine⟨_,(ag (av (gq (ai bJ (by rfl) T.b_isinstance aS (aa (qv 0) (aa (cS (v:=V.ty "int") rfl T.b_int Bn rfl) ac))) (gW (GV (ai bJ (by rfl) T.b_isinstance aS (aa (qv 0) (aa (cS (v:=V.ty "bool") rfl T.b_bool oz rfl) ac)))))))),?_⟩
  walk_at"m";have ht:=aI.ty hx;walk_at"vc*";cases d<;>simpa [D.ty,dG,D.isInt] using h
def iA(K:W.Frag):Sp:=λvs H Q _=>∃x d,vs=[x]/\aI (vw K H) d x/\Q (.bl d.frac) H
theorem qG(F:dO K "_law_is_fraction" "_law_is_fraction" iH f fd) (T:eA K mg)
  (zCdivisor:cn P w K mg base "_law_divisor" ["_law_one", "_law_other"] 1 (iP K)) (zCwhole:cn P w K mg base "_law_whole" ["_law_thing"] 1 (tJ K)):bU P w K mg base dP 2 f fd ["_law_thing"] (iA K):=by
 have scN:=kz.nd;refine F.okQ kz ?_ ?_;walk_at "q"
 .obtain⟨a,_,rfl,_⟩:=h;rfl
 .obtain⟨x,d,rfl,hx,h⟩:=h;refine⟨_,(af (bY (QW.pt (fG (dI (dj (ai bJ (by rfl) T.b_isinstance aS (aa (qv 0) (aa (cS (v:=V.ty "tuple") rfl T.b_tuple gP rfl) ac))))) (fG (aH nN (ai aq (by rfl) T.b_len aF (aa (qv 0) ac)) ae (aG _)) (fG (dI (dj (ah zCwhole nofun rfl (aa (aw bI (qv 0) ae (λ_ _=>rfl)) ac)))) (fR (dI (dj (ah zCwhole nofun rfl (aa (aw bI (qv 0) ae (λ_ _=>rfl)) ac))))))))) (ag (av eJ)) aN)
   (ag (av (gq (cT io (aw bI (qv 0) ae (λ_ _=>rfl)) ae (aG _)) (gW (cT dY (ah zCdivisor nofun rfl (aa (aw bI (qv 0) ae (λ_ _=>rfl)) (aa (aw bI (qv 0) ae (λ_ _=>rfl)) ac))) ae (aG _))))))),?_⟩
  walk_at"m";have ht:=aI.ty hx;walk_at"vc*";simp only[tJ,iP];walk_at"vc*";cases d with
  | tup ds =>
   obtain⟨a,xs,rfl,ha,r⟩:=hx.tup_at;refine dA (by simp[D.ty,dG]) ⟨a,rfl,xs.length,by simp only[dJ,ha],cH (λhl=>?_) (λhl=>?_)⟩
   .have e:(D.tup ds).frac=false:=by
     cases e:(D.tup ds).frac with
     | false=>rfl
     | true =>
      obtain⟨_,_,rfl,_⟩:=D.frac_tup e;have:=r.length;simp at this;nofun
    rw[e] at h;exact h
   .obtain⟨d1,d2,x1,x2,rfl,rfl,r1,r2⟩:=r.pair ();refine⟨a,rfl,_,ha,_,cW,d1,r1,cH (λi1=>?_) (λi1=>⟨a,rfl,_,ha,_,dU,d2,r2,cH (λi2=>?_) (λi2=>?_)⟩)⟩
    .cases d1<;>first|exact h|cases i1
    .cases d1<;>cases d2<;>first|exact h|cases i2
    .obtain⟨i1',rfl⟩:=D.isInt_of i1;obtain⟨i2',rfl⟩:=D.isInt_of i2;cases r1.int_at;cases r2.int_at;refine⟨a,rfl,_,ha,_,dU,_,rfl,cH (λhi=>⟨a,rfl,_,ha,_,cW,a,rfl,_,ha,_,dU,?_⟩) (λhi=>?_)⟩
     .have e:=DG (t:=i1') (b:=i2') ();rw[e] at h;exact⟨_,rfl,_,rfl,h⟩
     .have e:=DR (t:=i1') (b:=i2') ();rw[e] at h;exact h
  | _=>exact iC (by simp[D.ty,dG]) h
inductive eX (K:W.Frag)(vs:List V)(H:Hp)(Q:VK)(E:XK):Prop
 | mk (x d:_):vs=[x]->aI (vw K H) d x->d.len<=1000->(∀H',aB (vw K H) (vw K H')->Q (.bl d.poly) H')->eX K vs H Q E
theorem nX(F:dO K "_law_is_polynomial" "_law_is_polynomial" gr f fd) (T:eA K mg)(zCis_fraction:cn P w K mg base "_law_is_fraction" ["_law_thing"] 2 (iA K)):bU P w K mg base dP 3 f fd ["_law_thing"] (eX K):=by
 have scN:=jE.nd;refine F.okQ jE ?_ ?_;walk_at "q"
 .obtain⟨a,_,rfl,_⟩:=h;rfl
 .obtain⟨x,d,rfl,hx,hdl,h⟩:=h;refine⟨_,(af (bY (QW.pt (fG (dI (dj (ai bJ (by rfl) T.b_isinstance aS (aa (qv 0) (aa (cS (v:=V.ty "list") rfl T.b_list gI rfl) ac))))) (fR (aH (Ct hr.ul) (cO (own:=["_law_one"]) (outs:=[]) (ixs:=[]) rfl (cY (qv 0)) rfl ⟨rfl,rfl,rfl,trivial,rfl,trivial⟩ (λ_ _ _ _=>⟨(am (i:=0) (show (["_law_one"]:List Str).Nodup by decide +kernel) rfl (·)),(HR (dI (dj (ah zCis_fraction nofun rfl (aa (qv 0) ac))))),(qv 0)⟩)) (aT ac) (aG _))))) (ag (av eJ)) aN)
   (ag (av (JF (cT (pA hr.ul) (qv 0) (aT ac) (aG _)) (gW (cT (pD hr.u64) (aw cI (qv 0) (cX cy ae) (λ_ _=>rfl)) (aR (aa ae (aa ae ac))) (aG _))))))),?_⟩
  walk_at"m";have ht:=aI.ty hx;walk_at"vc*";cases d with
  | lst ds =>
   obtain⟨a,xs,rfl,ha,r⟩:=hx.lst_at;refine dA (by simp[D.ty,dG]) ⟨a,rfl,⟨xs,.of (aQ ha)⟩,λc H2 hc S2 h2=>?_⟩
   have hac:a≠c:=aj ha hc;refine bK (its:=xs) (λi ys H'=>aB (vw K H) (vw K H')/\(ys=[]↔(ds.take i).all D.frac=true)/\ys.length<=i) (λi ys H' _ _ p=>bZ (p.1 _ _ ha)) h2 ⟨S2,by simp,Yp _⟩ (λi x ys H' hi hx' h' p=>?_) (λys H' h' p=>?_)
   .obtain⟨S',hall,hlen⟩:=p;obtain⟨d',hd',r'⟩:=r.get hx';have e1:(ds.take (i+1)).all D.frac=((ds.take i).all D.frac && d'.frac):=by
     rw[Xf,hd'];simp
    symm
    simp only[iA];symm
    refine⟨d',aI.same S' _ _ r',cH (λhf=>?_) (λhf=>?_)⟩
    .refine .mk h' ?_ λH5 B5 h5=>⟨λb o e=>B5 _ _ (aj e hc) (S' _ _ e),?_,?_⟩
     .have h1:ds.length<=1000:=hdl;have h2:=r.length;have h3:1000<=sizeLine:=∅;nofun
     .rw[e1,hf];simp
     .simp;nofun
    .refine .mk h' ⟨S',?_,()⟩;rw[e1,hall];simp[hf]
   .obtain⟨S',hall,hlen⟩:=p;rw[r.length,Xg] at hall;refine⟨∅,λp1 H3 hp1 S3 h3=>⟨p1,rfl,ys,S3 _ _ h',h3,?_⟩⟩;cases hys:ds.all D.frac with
    | false =>
     refine iC ?_ ?_
     .cases ys with
      | nil=>rw[hall.mp rfl] at hys;cases hys
      | cons _ _=>rfl
     .have e:(D.lst ds).poly=false:=by
       show (ds.all D.frac && jX ds)=_;rw[hys];rfl
      rw[e] at h;exact h _ (S'.trans S3)
    | true =>
     refine dA ?_ ?_
     .rw[hall.mpr hys];simp
     .refine⟨∅,λp2 H4 hp2 S4 h4=>⟨a,rfl,p2,rfl,xs,(S'.trans (S3.trans S4)) _ _ ha,h4,cH (λh0=>?_) (λh0=>?_)⟩⟩
      .have e:ds=[]:=by
        have:=r.length;have z:xs=[]:=by simpa using h0
        rw[z] at this;exact List.eq_nil_of_length_eq_zero this.symm
       subst e;exact h _ (S'.trans (S3.trans S4))
      .have hn:ds≠[]:=by
        rintro rfl;cases r.nil_at;exact h0 rfl
       obtain⟨q,hq,fq⟩:=xf hys hn;obtain⟨x,hx',rx⟩:=r.last hq;refine⟨a,rfl,xs,(S'.trans (S3.trans S4)) _ _ ha,x,dX hx',∅,λp5 H5 hp5 S5 h5=>?_⟩;have S05:=S'.trans (S3.trans (S4.trans S5));refine⟨_,aI.same S05 _ _ rx,fr (0,1),aX h5,gR _,gR _,?_⟩;rw[sB];have e:(D.lst ds).poly = !decide (q=(0,1)):=by
        show (ds.all D.frac && jX ds)=_;rw[hys,Bool.true_and];exact mW hq
       rw[e] at h;exact h _ S05
  | _=>exact iC (by simp[D.ty,dG]) (h _ (λ_ _ z=>z))
inductive sK (K:W.Frag)(vs:List V)(H:Hp)(Q:VK)(E:XK):Prop
 | mk (a:Addr)(y:V)(ss:List (Int×Int))(q:Int×Int):vs=[.ref a,y]->aK (vw K H) a ss->aI (vw K H) (fr q) y->Fq q->Bq 130 q->1<=ss.length->ss.length<=12->(∀p∈ss,Fq p/\Bq 1500 p)->(∀(b:Addr) H' (qs:List (Int×Int)),aB (vw K H) (vw K H')->vw K H b=none->aK (vw K H') b qs->qs.length=ss.length-1->(∀(k:Nat)(p:Int×Int),qs[k]? = some p->Fq p/\wv p=cf ss (k+1)-wv q*cf ss k)->Q (.ref b) H')->sK K vs H Q E
theorem G7(F:dO K "_law_from" "_law_from" vU f fd) (T:eA K mg)(zCminus:cn P w K mg base "_law_minus" ["_law_one", "_law_other"] 3 (lV K)) (zCtimes:cn P w K mg base "_law_times" ["_law_one", "_law_other"] 3 (dN K)):bU P w K mg base dP 4 f fd ["_law_sums_here", "_law_spot"] (sK K):=by
 have scN:=Dp.nd;refine F.okQ Dp ?_ ?_;walk_at "q"
 .obtain⟨a,_,_,_,rfl,_⟩:=h;rfl
 .obtain⟨a,y,ss,q,rfl,ha,ry,fq,bq,l1,l2,hs,h⟩:=h;refine⟨_,(ag (av (cO (own:=["_law_k"]) (outs:=["_law_sums_here", "_law_spot"]) (ixs:=[0,1]) rfl (cz rfl T.b_range (aa (ar cj (ai aq (by rfl) T.b_len aF (aa (qv 0) ac)) ae) ac)) rfl ⟨rfl,rfl,rfl,⟨rfl,⟨rfl,trivial⟩⟩,rfl,⟨⟨rfl,rfl,rfl,_,rfl⟩,⟨⟨rfl,rfl,rfl,_,rfl⟩,trivial⟩⟩⟩ (λ_ _ _ _=>⟨(am (i:=0) (show (["_law_k", "_law_sums_here", "_law_spot"]:List Str).Nodup by decide +kernel) rfl (·)),cV,(ah zCminus nofun rfl (aa (aw (show uK _ (rN K) from cI) (qv 1) (ar (show el _ _ (ij K) from bQ) (qv 0) ae) (λ_ _=>rfl)) (aa (ah zCtimes nofun rfl (aa (qv 2) (aa (aw (show uK _ (rN K) from cI) (qv 1) (qv 0) (λ_ _=>rfl)) ac))) ac)))⟩)))),?_⟩
  walk_at"m";symm
  have e1:((ss.length:Int)-1)=((ss.length-1:Nat):Int):=();refine⟨_,ha.len,?_⟩;rw[e1];refine⟨(),(),λc H1 hc S1 h1=>?_⟩;refine bK (its:=fj 0 (Int.toNat ((ss.length-1:Nat):Int))) (λi zs H'=>aB (vw K H) (vw K H') /\ ∃qs:List (Int×Int),aJ (vw K H') (qs.map fr) zs/\qs.length=i /\ ∀(k:Nat)(p:Int×Int),qs[k]? = some p->Fq p/\wv p=cf ss (k+1)-wv q*cf ss k) (λ_ _ _ _ _ _=>aV) h1 ⟨S1,[],.mk_nil,rfl,by simp⟩ (λi x zs H2 hi hx h2 p=>?_) (λzs H2 h2 p=>?_)
  .obtain⟨S2,qs,rq,lq,hq⟩:=p;rw[cp] at hi;obtain⟨_,rfl⟩:=da hx;obtain⟨sx,hsx,rsx⟩:=ha.same S2;have i1:i<ss.length:=();have i2:i+1<ss.length:=();obtain⟨x1,hx1,r1⟩:=rsx.at (i:=i) (d:=fr ss[i]) (by rw[Yz,YR i1];rfl)
   obtain⟨x2,hx2,r2⟩:=rsx.at (i:=i+1) (d:=fr ss[i+1]) (by rw[Yz,YR i2];rfl)
   have f1:=hs _ (YQ i1);have f2:=hs _ (YQ i2);have fm:=gJ fq f1.1;have bm:=i3 fq f1.1 bq f1.2;symm
   refine⟨sx,hsx,x2,by rw[show 0+(i:Int)+1=((i+1:Nat):Int) by nofun];exact bO hx2,sx,hsx,x1,by rw[show 0+(i:Int)=(i:Int) by nofun];exact bO hx1,?_⟩
   simp only[dN];refine⟨_,_,_,_,rfl,aI.same S2 _ _ ry,r1,fq.ne,f1.1.ne,bq.mono ∅,f1.2.mono ∅,(bq.2.mul f1.2.2).mono ∅,λv3 H3 S3 r3=>⟨_,_,_,_,rfl,aI.same S3 _ _ r2,r3,f2.1.ne,fm.ne,f2.2.mono ∅,bm.mono ∅,(f2.2.2.mul bm.2).mono ∅,λv4 H4 S4 r4=>?_⟩⟩;have h4:=S4 _ _ (S3 _ _ h2);refine .mk h4 ?_ λH5 B5 h5=>⟨λb o e=>B5 _ _ (aj e hc) (S4 _ _ (S3 _ _ (S2 _ _ e))),qs++[vF ss[i+1] (kT q ss[i])],?_,by simp[lq],λk p e=>?_⟩
   .rw[rq.length,YC,lq];exact Yd (show i<20 by nofun) ∅
   .rw[XI];exact (aJ.flat_but h4 B5 _ _ (cJ qs) (rq.same (S3.trans S4))).snoc (aI.flat_but h4 B5 _ _ (bA _) r4)
   .by_cases hj:k<qs.length
    .rw[Yy hj] at e;exact hq k p e
    .have hj2:k=i:=by
      have:=(List.getElem?_eq_some_iff.mp e).1;rw[YB,YJ] at this;nofun
     subst hj2;rw[Yw (),lq,XF] at e;cases e;exact⟨ox f2.1 fm,by rw[tT f2.1.ne fm.ne,ja fq.ne f1.1.ne,aA (YR i1),aA (YR i2)]⟩
  .obtain⟨S2,qs,rq,lq,hq⟩:=p;rw[cp] at lq;exact h c H2 qs S2 hc ⟨zs,h2,rq⟩ () hq
theorem BU:∀(qs:List (Int×Int)),(∀q∈qs,0<q.2) -> ∃B:Int,0<B/\(∀q∈qs,q.2∣B) /\ ∀E:Int,(∀q∈qs,q.2∣E)->B∣E
 | [],_=>⟨1,∅,by simp,λE _=>Int.one_dvd E⟩
 | q::qs,h=>by
  obtain⟨B,h0,h1,h2⟩:=BU qs λx hx=>h x (Yj _ hx);have hq:=h q Yi;refine⟨(Int.lcm q.2 B:Int),?_,λx hx=>?_,λE hE=>?_⟩
  .have:=Int.lcm_pos (m:=q.2) (n:=B) () ();nofun
  .rcases Y0.mp hx with z|z
   .rw[z];exact Int.dvd_lcm_left q.2 B
   .exact Int.dvd_trans (h1 x z) (Int.dvd_lcm_right q.2 B)
  .refine Int.natAbs_dvd_natAbs.mp ?_;show Nat.lcm q.2.natAbs B.natAbs∣E.natAbs;exact Nat.lcm_dvd (Int.natAbs_dvd_natAbs.mpr (hE q Yi)) (Int.natAbs_dvd_natAbs.mpr (h2 E λx hx=>hE x (Yj _ hx)))
theorem Dq{qs:List (Int×Int)}(sq:∀q∈qs,hZ q):∃(W:Nat->Int)(B:Int),kv qs W B:=by
 obtain⟨B,h0,h1,h2⟩:=BU qs λq hq=>(sq q hq).1.1;have c0:((0:Int):Rat)=0:=rfl;obtain⟨W,hW⟩ : ∃W:Nat->Int,∀i,((W i:Int):Rat)=cf qs i*(B:Rat):=by
  have:∀i,∃n:Int,(n:Rat)=cf qs i*(B:Rat):=λi=>by
   cases e:qs[i]? with
   | none =>
    refine⟨0,?_⟩;rw[aE (List.getElem?_eq_none_iff.mp e),c0];grind
   | some q =>
    have hq:=YA e;obtain⟨d,hd⟩:=h1 q hq;have n2:=ao (sq q hq).1.ne;refine⟨q.1*d,?_⟩;rw[aA e,hd,Xe,Xe];unfold wv;grind
  exact⟨λi=>(this i).choose,λi=>(this i).choose_spec⟩
 refine⟨W,B,h0,hW,h2,λi=>?_⟩;obtain⟨D,d0,bD,o⟩:=iB sq;have dv:B∣D:=h2 D λq hq=>by
  obtain⟨j,hj⟩:=XR hq;obtain⟨n,hn,_⟩:=o j;rw[aA hj] at hn;have fq:=(sq q hq).1;have n1:=ao fq.ne;have n2:=ao d0;have e:((q.1*D:Int):Rat)=((n*q.2:Int):Rat):=by
   rw[Xe,Xe];unfold wv at hn;grind
  have e2:q.1*D=n*q.2:=by exact_mod_cast e
  have g2:Int.gcd q.2 q.1=1:=by rw[Int.gcd_comm];exact fq.2
  exact Int.natAbs_dvd_natAbs.mp (Nat.Coprime.dvd_of_dvd_mul_left (k:=q.2.natAbs) (m:=q.1.natAbs) (n:=D.natAbs) g2 (by rw[<-YW,e2];exact Int.natAbs_dvd_natAbs.mpr ⟨n,Y8 _ _⟩))
 obtain⟨n,hn,bn⟩:=o i;have n2:=ao d0;have e:((W i*D:Int):Rat)=((n*B:Int):Rat):=by
  rw[Xe,Xe,hW i,hn];grind
 have e2:W i*D=n*B:=by exact_mod_cast e
 have e3:(W i).natAbs*D.natAbs=n.natAbs*B.natAbs:=by rw[<-YW,e2,YW]
 have le:=Nat.le_of_dvd () (Int.natAbs_dvd_natAbs.mpr dv);have l2:n.natAbs*B.natAbs<=n.natAbs*D.natAbs:=Xw _ le;have l3:(W i).natAbs<=n.natAbs:=Nat.le_of_mul_le_mul_right (by nofun : (W i).natAbs*D.natAbs<=n.natAbs*D.natAbs) ()
 unfold Bt at bn ⊢;nofun
theorem GD{n:Nat}{fs gs us:List (Int×Int)}(pf:aL fs)(pg:aL gs)(eu:∀k,cf us k=pr (cf fs) (cf gs) fs.length k)(h:us.length<=n):zN n fs gs:=by
 by_cases a:fs=[]
 .exact .inl a
 by_cases b:gs=[]
 .exact .inr (.inl b)
 refine .inr (.inr ?_);have la:=List.length_pos_iff.mpr a;have lb:=List.length_pos_iff.mpr b;refine Nat.le_of_not_lt λz=>?_;obtain⟨m,hm⟩ : ∃m,fs.length=m+1:=⟨fs.length-1,()⟩;have e:=eu (m+(gs.length-1));have t:pr (cf fs) (cf gs) (m+1) (m+(gs.length-1))=pr (cf fs) (cf gs) m (m+(gs.length-1))+(if m<=m+(gs.length-1) then cf fs m*cf gs (m+(gs.length-1)-m) else 0):=rfl
 rw[aE (),hm,t,eU (n:=gs.length) (λi hi=>aE hi) _ _ (),Yb (),Nat.add_sub_cancel_left] at e;have p1:=gK pf a;have p2:=gK pg b;rw[hm,XE] at p1;grind
theorem mT.parts{qs:List (Int×Int)}{d0:D}{ds:List D}(b:mT qs (.tup (d0::ds))):∀e∈ds,e.poly=true:=by
 rcases b with ⟨fs,z,p,_⟩|⟨fs,gs,z,p1,p2,_⟩
 .injection z with z
  injection z with _ z
  subst z;intro e he;rw[List.mem_singleton.mp he];exact xg p
 .injection z with z
  injection z with _ z
  subst z;intro e he;rcases Y0.mp he with y|y
  .rw[y];exact xg p1
  .rw[List.mem_singleton.mp y];exact xg p2
inductive oQ (K:W.Frag)(vs:List V)(H:Hp)(Q:VK)(E:XK):Prop
 | mk (a:Addr)(x:V)(qs:List (Int×Int))(d:D):vs=[.ref a,x]->aK (vw K H) a qs->qs.length<=11->(∀q∈qs,hZ q)->aI (vw K H) d x->KT d->(∀ds,d=.tup ds -> ∀e∈ds,e.len<=1000)->(∀(t:Bool) H',aB (vw K H) (vw K H')->(t=true↔mT qs d)->Q (.bl t) H')->oQ K vs H Q E
theorem AC(F:dO K "_law_is_bar" "_law_is_bar" qh f fd) (T:eA K mg)(zCis_polynomial:cn P w K mg base "_law_is_polynomial" ["_law_thing"] 3 (eX K)) (zCmultiplied:cn P w K mg base "_law_multiplied" ["_law_f", "_law_g"] 4 (eB K)) (zCsquare:cn P w K mg base "_law_square" ["_law_sums_here", "_law_f", "_law_g"] 5 (gN K)):bU P w K mg base dP 6 f fd ["_law_sums_here", "_law_thing"] (oQ K):=by
 have scN:=u8.nd;refine F.okQ u8 ?_ ?_;walk_at "q"
 .obtain⟨_,_,_,_,rfl,_⟩:=h;rfl
 .obtain⟨a,x,qs,d,rfl,ha,l11,sq,hx,tb,ln,h⟩:=h;refine⟨_,(af (bY (QW.pt (fG (dI (dj (ai bJ (by rfl) T.b_isinstance aS (aa (qv 1) (aa (cS (v:=V.ty "tuple") rfl T.b_tuple gP rfl) ac))))) (fG (aH jr (ai aq (by rfl) T.b_len aF (aa (qv 1) ac)) (aR (aa ae (aa ae ac))) (by rfl)) (fR (dI (dj (ai bJ (by rfl) T.b_isinstance aS (aa (aw bI (qv 1) ae (λ_ _=>rfl)) (aa (cS (v:=V.ty "str") rfl T.b_str C4 rfl) ac))))))))) (ag (av eJ)) aN)
   (af (cK PassesOwn.never rfl (CY (dc k7 (qv 1) (dS ae) dW)) (am (i:=2) scN rfl (·)) (ag (bY (dI (dj (ah zCis_polynomial nofun rfl (aa (qv 2) ac)))) (ag (av eJ)) aN)))
   (af (cK PassesOwn.never rfl (CY (dc k7 (qv 1) (dS ae) dW)) (am (i:=2) scN rfl (·)) (ag (bY (aH io (ai aq (by rfl) T.b_len aF (aa (ah zCmultiplied nofun rfl (aa (aw bI (qv 1) ae (λ_ _=>rfl)) (aa (qv 2) ac))) ac)) (ai aq (by rfl) T.b_len aF (aa (qv 0) ac)) (aG _)) (ag (av eJ)) aN)))
   (af (aC (i:=3) scN rfl (·) (aw bI (ah zCsquare nofun rfl (aa (qv 0) (aa (aw bI (qv 1) ae (λ_ _=>rfl)) (aa (aw bI (qv 1) ae (λ_ _=>rfl)) ac)))) ae (λ_ _=>rfl)))
   (af (bY (aH dY (ai aq (by rfl) T.b_len aF (aa (qv 1) ac)) ae (aG _)) (ag (av (gq (cT dY (aw bI (qv 1) ae (λ_ _=>rfl)) gi (aG _)) (gW (cT ky (qv 3) ae (aG _)))))) aN)
   (af (bY (aH io (ai aq (by rfl) T.b_len aF (aa (ah zCmultiplied nofun rfl (aa (aw bI (qv 1) ae (λ_ _=>rfl)) (aa (aw bI (qv 1) ae (λ_ _=>rfl)) ac))) ac)) (ai aq (by rfl) T.b_len aF (aa (qv 0) ac)) (aG _)) (ag (av eJ)) aN)
   (ag (av (gq (cT dY (aw bI (qv 1) ae (λ_ _=>rfl)) gi (aG _)) (gq (cT dY (qv 3) ae (aG _)) (gW (cT nN (aw bI (ah zCsquare nofun rfl (aa (qv 0) (aa (aw bI (qv 1) ae (λ_ _=>rfl)) (aa (aw bI (qv 1) ae (λ_ _=>rfl)) ac)))) ae (λ_ _=>rfl)) ae (aG _))))))))))))),?_⟩
  walk_at"m";skip
  have no:¬ mT qs d -> ∀H',aB (vw K H) (vw K H')->Q (.bl false) H':=λn H' S=>h false H' S ⟨λz=>(by cases z),λz=>absurd z n⟩
  have ht:=aI.ty hx;refine aM.gen λN1 hN1=>?_;symm
  refine⟨_,ht,?_⟩;cases d with
  | tup ds =>
   obtain⟨p,xs,rfl,hp,r⟩:=hx.tup_at;have lds:=r.length;have lnh:∀H',aB (vw K H) (vw K H')->dJ (vw K H') p=some xs.length:=λH' S=>by simp only[dJ,S _ _ hp]
   refine dA (by simp[D.ty,dG]) ⟨p,rfl,xs.length,lnh _ .rfl,∅,λt1 H1 ht1 S1 h1=>⟨t1,_,rfl,.inr (cZ h1),rfl,rfl,?_⟩⟩
   by_cases l23:¬ (xs.length=2\/xs.length=3)
   .have e:(if true=true then !FJ (V.int (xs.length:Nat)) [V.int 2,V.int 3] else FJ (V.int (xs.length:Nat)) [V.int 2,V.int 3])=true:=by
     have n2:((xs.length:Nat):Int)≠2:=();have n3:((xs.length:Nat):Int)≠3:=();show (!([V.int 2,V.int 3].any λy=>DX y (V.int (xs.length:Nat))))=true;simp only[List.any_cons,List.any_nil,Bool.or_false,Bool.not_eq_true',Bool.or_eq_false_iff];exact⟨by show (2==((xs.length:Nat):Int))=false;exact beq_eq_false_iff_ne.mpr (Yk n2),by show (3==((xs.length:Nat):Int))=false;exact beq_eq_false_iff_ne.mpr (Yk n3)⟩
    rw[e];refine⟨true,rfl,iC rfl (no ?_ H1 S1)⟩;rintro (⟨fs,z,_⟩|⟨fs,gs,z,_⟩)
    .injection z with z
     rw[z] at lds;simp at lds;nofun
    .injection z with z
     rw[z] at lds;simp at lds;nofun
   have e:(if true=true then !FJ (V.int (xs.length:Nat)) [V.int 2,V.int 3] else FJ (V.int (xs.length:Nat)) [V.int 2,V.int 3])=false:=by
    rcases Classical.not_not.mp l23 with z|z<;>(rw[z];decide +kernel)
   have l23:=Classical.not_not.mp l23;rw[e];obtain⟨d0,d1,dr,rfl,ldr⟩ : ∃d0 d1 dr,ds=d0::d1::dr/\dr.length<=1:=by
    match ds,lds with
    | [],z=>simp only[XG] at z;nofun
    | [_],z=>simp only[Y9,XG] at z;nofun
    | d0::d1::dr,z=>exact⟨d0,d1,dr,rfl,by simp only[Y9] at z;nofun⟩
   obtain⟨x0,xr,rfl,r0,rr⟩:=r.cons_at;refine⟨false,rfl,dA ∅ ⟨p,rfl,_,S1 _ _ hp,_,cW,.inr (.inr (.inr (.inr (.inl rfl)))),_,aI.ty (aI.same S1 _ _ r0),cH (λe4=>no ?_ H1 S1) (λe4=>hN1 _ _ ?_)⟩⟩
   .rintro (⟨fs,z,_⟩|⟨fs,gs,z,_⟩)
    .injection z with z
     injection z with z _
     rw[z] at e4;simp[D.ty,dG] at e4
    .injection z with z
     injection z with z _
     rw[z] at e4;simp[D.ty,dG] at e4
   obtain⟨w0,rfl⟩ : ∃w0,d0=.str w0:=by
    cases d0<;>first|exact⟨_,rfl⟩|(exfalso;revert e4;simp[D.ty,dG])
   obtain rfl:=(rY r0).mpr rfl;have lxr:=rr.length;have e21:iU (.str w0::xr) (some 1) none=xr:=by
    have:=iX (xs:=V.str w0::xr) (k:=1) (by simp)
    simpa using this
   have nf:¬ (HT.sIx (V.str w0::xr).length 0 (some 1)=0/\HT.sIx (V.str w0::xr).length (V.str w0::xr).length none=(V.str w0::xr).length):=λz=>absurd z.1 (by unfold HT.sIx;simp)
   refine aM.gen λN2 hN2=>?_;symm
   simp only[vb];refine⟨p,rfl,_,S1 _ _ hp,nf,λp2 H2 hp2 S2 h2=>?_⟩;rw[e21] at h2;have S02:=S1.trans S2;refine⟨p2,rfl,⟨_,cZ h2⟩,?_⟩;obtain⟨Pv,hPv⟩ : ∃Pv:Nat->St->Hp->Prop,∀i σ H',Pv i σ H' ↔ ∃o,σ=[some (.ref a),some (.ref p),o,none]/\aB (vw K H2) (vw K H') /\ ∀e∈(d1::dr).take i,e.poly=true:=⟨_,λ_ _ _=>XH⟩;refine ce (its:=xr) Pv (λi σ H' _ z=>?_) ((hPv _ _ _).mpr ⟨_,rfl,.rfl,by simp⟩) (λi x σ H3 hi hx' pv=>?_) (λσ H3 pv=>hN2 _ _ ?_)
   .obtain⟨_,_,S',_⟩:=(hPv _ _ _).mp z;exact rA (S' _ _ h2)
   .obtain⟨o,rfl,S',hal⟩:=(hPv _ _ _).mp pv;obtain⟨d',hd',r'⟩:=rr.get hx';have hm:d'∈d1::dr:=YA hd';symm
    refine⟨_,d',rfl,aI.same (S02.trans S') _ _ r',ln _ rfl d' (Yj _ hm),λH4 S4=>⟨_,rfl,cH (λhf=>no (λb=>?_) _ (S02.trans (S'.trans S4))) (λhf=>(hPv _ _ _).mpr ⟨_,rfl,S'.trans S4,λe he=>?_⟩)⟩⟩
    .rw[b.parts d' hm] at hf;cases hf
    .rw[Xf,hd'] at he;simp only[Option.toList_some,List.mem_append,List.mem_singleton] at he;rcases he with z|z
     .exact hal e z
     .rw[z];simpa using hf
   obtain⟨o,rfl,S',hall⟩:=(hPv _ _ _).mp pv;rw[lxr,Xg] at hall;have S04:=S02.trans S';obtain⟨fs,rfl,pf⟩:=tW (hall d1 Yi);obtain⟨x1,xq,rfl,r1,rq⟩:=rr.cons_at;obtain⟨l,zs,rfl,hl0,rz0⟩:=r1.lst_at;have hl:aK (vw K H) l fs:=⟨zs,hl0,rz0⟩;obtain⟨lf,bf⟩:=tb _ rfl (.lst (fs.map fr)) (by simp) fs rfl pf
   have pbf:=kq (b:=2000) (fs:=fs) λq hq=>⟨pf.1 q hq,bf q hq⟩;have bt:mT qs (.tup (.str w0 :: .lst (fs.map fr)::dr))->zN qs.length fs fs /\ ∀gs:List (Int×Int),.lst (gs.map fr)∈dr->zN qs.length fs gs:=λb=>by
    rcases b with ⟨fs',z,_,b2,_⟩|⟨fs',gs',z,_,_,b3,b4,_⟩
    .injection z with z
     injection z with _ z
     injection z with z1 z2
     have u1:=gA z1;subst u1 z2;exact⟨b2,λgs hg=>by cases hg⟩
    .injection z with z
     injection z with _ z
     injection z with z1 z2
     have u1:=gA z1;subst u1 z2;exact⟨b3,λgs hg=>by have:=gA (List.mem_singleton.mp hg);subst this;exact b4⟩
   refine aM.gen λN3 hN3=>?_;symm
   simp only[vb];refine⟨p,rfl,_,S04 _ _ hp,nf,λp5 H5 hp5 S5 h5=>?_⟩;rw[e21] at h5;have S05:=S04.trans S5;refine⟨p5,rfl,⟨_,cZ h5⟩,?_⟩;obtain⟨Pw,hPw⟩ : ∃Pw:Nat->St->Hp->Prop,∀i σ H',Pw i σ H' ↔ ∃o,σ=[some (.ref a),some (.ref p),o,none]/\aB (vw K H5) (vw K H') /\ ∀gs:List (Int×Int),.lst (gs.map fr)∈(.lst (fs.map fr)::dr).take i->zN qs.length fs gs:=⟨_,λ_ _ _=>XH⟩;refine ce (its:=.ref l::xq) Pw (λi σ H' _ z=>?_) ((hPw _ _ _).mpr ⟨_,rfl,.rfl,by simp⟩) (λi x σ H6 hi hx' pw=>?_) (λσ H6 pw=>hN3 _ _ ?_)
   .obtain⟨_,_,S',_⟩:=(hPw _ _ _).mp z;exact rA (S' _ _ h5)
   .obtain⟨o,rfl,S',hal⟩:=(hPw _ _ _).mp pw;obtain⟨d',hd',r'⟩:=rr.get hx';have hm:d' ∈ .lst (fs.map fr)::dr:=YA hd';obtain⟨gs,rfl,pg⟩:=tW (hall d' hm);obtain⟨l2,ws,rfl,hw0,rw0⟩:=r'.lst_at;have hl2:aK (vw K H) l2 gs:=⟨ws,hw0,rw0⟩;obtain⟨lg,bg⟩:=tb _ rfl (.lst (gs.map fr)) (Yj _ hm) gs rfl pg;have pbg:=kq (b:=2000) (fs:=gs) λq hq=>⟨pg.1 q hq,bg q hq⟩;have S0:=S05.trans S';symm
    refine⟨_,S0 _ _ hp,_,dU,?_⟩;simp only[eB];refine⟨l,l2,fs,gs,_,_,rfl,hl.same S0,hl2.same S0,(),(),?_,pf.1,pg.1,pbf,pbg,λd7 H7 rs S7 l7 _ p7 w7 n7=>⟨d7,rfl,_,l7.len,_,(ha.same (S0.trans S7)).len,?_⟩⟩
    .nofun
    refine cH (λhf=>no (λb=>?_) _ (S0.trans S7)) (λhf=>(hPw _ _ _).mpr ⟨_,rfl,S'.trans S7,λks hk=>?_⟩)
    .have ft:zN qs.length fs gs:=by
      rcases Y0.mp hm with z|z
      .rw[gA z];exact (bt b).1
      .exact (bt b).2 gs z
     have:=oC ft p7 w7;nofun
    .rw[Xf,hd'] at hk;simp only[Option.toList_some,List.mem_append,List.mem_singleton] at hk;rcases hk with z|z
     .exact hal ks z
     .rw[gA z];exact GD pf pg w7 ()
   obtain⟨o,rfl,S',hal⟩:=(hPw _ _ _).mp pw;rw[lxr,Xg] at hal;have S07:=S05.trans S';have fit:=hal fs Yi;have lf11:fs.length<=11:=by
    rcases fit with z|z|z
    .rw[z];simp
    .rw[z];simp
    .nofun
   have spb:=iB sq;have ext:∃ext,qs=qs++ext:=⟨[],by simp⟩
   refine aM.gen λN4 hN4=>?_;symm
   refine⟨_,S07 _ _ hp,_,dU,_,S07 _ _ hp,_,dU,a,l,l,qs,qs,fs,fs,_,_,_,rfl,ha.same S07,ext,hl.same S07,hl.same S07,(),(),(),λq hq=>(sq q hq).1,pf.1,pf.1,?_,spb,pbf,pbf,λus pu eu=>oC fit pu eu,λv8 H8 r8 S8 rr8 f8 w8=>?_⟩
   .nofun
   rw[yH (FH fs) (by rcases fit with z|z|z<;>first|(rw[z];simp;done)|nofun)] at w8
   have S08:=S07.trans S8;obtain⟨x8,rfl,hx8⟩:=rr8.fr_at;refine⟨_,rfl,_,hx8,_,cW,hN4 _ _ ?_⟩;have st:∀{s:Str},(V.str w0=.str s)↔w0=s:=λ{s}=>⟨λz=>by injection z,λz=>by rw[z]⟩
   refine aM.gen λN5 hN5=>?_;symm
   refine⟨_,lnh _ S08,cH (λe9=>?_) (λe9=>hN5 _ _ ?_)⟩
   .obtain rfl:dr=[]:=List.eq_nil_of_length_eq_zero (by have:=rq.length;simp only[Y9] at e9;nofun)
    refine⟨_,S08 _ _ hp,_,cW,rfl,cH (λe10=>?_) (λe10=>no (λb=>?_) _ S08)⟩
    .refine h _ H8 S08 ⟨λz=>.inl ⟨fs,by rw[st.mp e10],pf,fit,?_⟩,λz=>YO ((wm f8).mpr ?_)⟩
     .show ip _ _ _ _ _<0;rw[<-w8];exact (wm f8).mp (XJ z)
     .rw[w8];rcases z with ⟨fs',z,_,_,b3⟩|⟨_,_,z,_⟩
      .injection z with z
       injection z with _ z
       injection z with z1 _
       have u1:=gA z1;subst u1;exact b3
      .injection z with z
       have:=Yn List.length z;simp at this
    .rcases b with ⟨_,z,_⟩|⟨_,_,z,_⟩
     .injection z with z
      injection z with z _
      injection z with z
      exact e10 (st.mpr z)
     .injection z with z
      have:=Yn List.length z;simp at this
   obtain⟨d2,rfl⟩ : ∃d2,dr=[d2]:=by
    match dr,ldr,rq.length with
    | [],_,z=>simp only[XG] at z;simp only[Y9,z] at e9;exact absurd rfl e9
    | [d2],_,_=>exact⟨d2,rfl⟩
    | _::_::_,z,_=>simp only[Y9] at z;nofun
   obtain⟨gs,rfl,pg⟩:=tW (hall d2 (by simp))
   obtain⟨x2,xs2,rfl,r2,rn⟩:=rq.cons_at;cases rn.nil_at;obtain⟨l2,ws,rfl,hw0,rw0⟩:=r2.lst_at;have hl2:aK (vw K H) l2 gs:=⟨ws,hw0,rw0⟩;obtain⟨lg,bg⟩:=tb _ rfl (.lst (gs.map fr)) (by simp) gs rfl pg
   have pbg:=kq (b:=2000) (fs:=gs) λq hq=>⟨pg.1 q hq,bg q hq⟩;have fit2:=hal gs (by simp)
   have bp:mT qs (.tup [.str w0,.lst (fs.map fr),.lst (gs.map fr)])->w0 = "nought" /\ As qs fs fs=0/\As qs fs gs≠0:=λb=>by
    rcases b with ⟨_,z,_⟩|⟨fs',gs',z,_,_,_,_,b5,b6⟩
    .injection z with z
     have:=Yn List.length z;simp at this
    .injection z with z
     injection z with z0 z
     injection z with z1 z
     injection z with z2 _
     have u1:=gA z1;have u2:=gA z2;injection z0 with z0
     subst u1 u2;exact⟨z0,b5,b6⟩
   have z0:∀{q:Int×Int},Fq q->(q.1=0↔wv q=0):=λf=>(fU f.ne).symm;have vi:∀{i:Int},(V.int i=.int 0)↔i=0:=λ{i}=>⟨λz=>by injection z,λz=>by rw[z]⟩
   refine aM.gen λN6 hN6=>?_;symm
   simp only[eB];refine⟨_,S08 _ _ hp,_,dU,_,S08 _ _ hp,_,dU,l,l,fs,fs,_,_,rfl,hl.same S08,hl.same S08,(),(),?_,pf.1,pf.1,pbf,pbf,λd9 H9 us S9 l9 _ p9 w9 n9=>⟨d9,rfl,_,l9.len,_,(ha.same (S08.trans S9)).len,dA ?_ (hN6 _ _ ?_)⟩⟩
   .nofun
   .have:=oC fit p9 w9;nofun
   have S08':=S08.trans S9;symm
   refine⟨_,S08' _ _ hp,_,cW,rfl,cH (λe10=>?_) (λe10=>no (λb=>e10 (st.mpr (bp b).1)) _ S08')⟩;refine cH (λe11=>?_) (λe11=>no (λb=>e11 ((z0 f8).mpr (by rw[w8];exact (bp b).2.1))) _ S08')
   refine⟨_,S08' _ _ hp,_,dU,_,S08' _ _ hp,_,FO,a,l,l2,qs,qs,fs,gs,_,_,_,rfl,ha.same S08',ext,hl.same S08',hl2.same S08',(),(),(),λq hq=>(sq q hq).1,pf.1,pg.1,?_,spb,pbf,pbg,λus pu eu=>oC fit2 pu eu,λv9 H10 r9 S10 rr9 f9 w9'=>?_⟩
   .nofun
   rw[yH (FH gs) (by rcases fit2 with z|z|z<;>first|(rw[z];simp;nofun)|nofun)] at w9'
   have S09:=S08'.trans S10;obtain⟨x9,rfl,hx9⟩:=rr9.fr_at;have w80:As qs fs fs=0:=by
    show ip _ _ _ _ _=0;rw[<-w8];exact (z0 f8).mp e11
   refine⟨_,rfl,_,hx9,_,cW,rfl,h _ H10 S09 ⟨λz=>.inr ⟨fs,gs,by rw[st.mp e10],pf,pg,fit,fit2,w80,λy=>?_⟩,λz=>?_⟩⟩
   .have y':wv r9=0:=by rw[w9'];exact y
    rw[(z0 f9).mpr y'] at z;simp at z
   .have n9:r9.1≠0:=λy=>(bp z).2.2 (by show ip _ _ _ _ _=0;rw[<-w9'];exact (z0 f9).mp y)
    simp[n9]
  | _=>exact iC (by simp[D.ty,dG]) (no (by rintro (⟨fs,z,_⟩|⟨fs,gs,z,_⟩)<;>cases z) H .rfl)
theorem Gv{q:Int×Int}(f:Fq q):0<q.1↔0<wv q:=by
 have c:=Rat.intCast_pos.mpr f.1;unfold wv;rw[Rat.lt_div_iff c];have c0:((0:Int):Rat)=0:=rfl;rw[show (0:Rat)*(q.2:Rat)=((0:Int):Rat) by rw[c0];grind]
 exact Rat.intCast_lt_intCast.symm
theorem GK{q:Int×Int}(f:Fq q):0<=q.1↔0<=wv q:=by
 have c:=wm f;constructor
 .intro h;exact Rat.not_lt.mp λz=>by have:=c.mpr z;nofun
 .intro h;exact Int.not_lt.mp λz=>absurd (c.mp z) (Rat.not_lt.mpr h)
theorem mY{ts qs:List (Int×Int)}{n:Nat}(ft:∀q∈ts,Fq q)(fq:∀q∈qs,Fq q)(h1:n<=ts.length)(h2:n<=qs.length)(e:∀k,k<n->cf ts k=cf qs k):ts.take n=qs.take n:=by
 refine List.ext_getElem (by rw[Yu,Yu];nofun) λi a b=>?_
 rw[Yu] at a b;rw[List.getElem_take,List.getElem_take];have i1:i<ts.length:=();have i2:i<qs.length:=();have:=e i ();rw[aA (YR i1),aA (YR i2)] at this;exact gY (ft _ (YQ i1)) (fq _ (YQ i2)) this
theorem qW{α:Type}{l:List α}{n:Nat}(h:n<l.length):l.take (n+1)=l.take n++[l[n]]:=by
 rw[Xf,YR h];rfl
theorem ju{qs:List (Int×Int)}{n k:Nat}(h:k<n):cf (qs.take n) k=cf qs k:=by
 by_cases hk:k<qs.length
 .rw[aA (q:=qs[k]) (by rw[Xm,Yb h,YR hk]),aA (YR hk)]
 .rw[aE (by rw[Yu];nofun),aE ()]
theorem FC{qs:List (Int×Int)}{x:Int×Int}{a b:Nat}(h:Pb a (cf qs))(f:Fq x)(bx:Bq b x):Pb (a+b) (cf (qs++[x])):=by
 obtain⟨D,d0,bD,oD⟩:=h;have c:=ao d0;have c2:=ao f.ne;refine⟨D*x.2,Xc d0 f.ne,bD.mul bx.2,λk=>?_⟩;rw[ol];split
 .refine⟨D*x.1,?_,bD.mul bx.1⟩;unfold wv;rw[Xe,Xe];grind
 .obtain⟨n,en,bn⟩:=oD k;refine⟨n*x.2,?_,bn.mul bx.2⟩;rw[en,Xe,Xe];grind
inductive kJ (K:W.Frag)(vs:List V)(H:Hp)(Q:VK)(E:XK):Prop
 | mk (p b w:Addr)(rs qs ws:List (Int×Int))(d:Nat):vs=[.ref p]->vw K H p=some (.tup [.ref b,.ref w])->aK (vw K H) b rs->aK (vw K H) w ws->zX rs qs ws d->vL (cf qs) d->2*d<=qs.length+1->qs.length<=11->(∀q∈qs,hZ q)->(∀H',aB (vw K H) (vw K H')->Q (.bl true) H')->kJ K vs H Q E
theorem xh(F:dO K "_law_is_flock" "_law_is_flock" kI f fd) (T:eA K mg)(zCis_polynomial:cn P w K mg base "_law_is_polynomial" ["_law_thing"] 3 (eX K)) (zCsteps:cn P w K mg base "_law_steps" ["_law_sums_here"] 7 (oq K)) (zCflock_sums:cn P w K mg base "_law_flock_sums" ["_law_flock", "_law_many"] 5 (fM K)):bU P w K mg base dP 8 f fd ["_law_thing"] (kJ K):=by
 have scN:=qw.nd;refine F.okQ qw ?_ ?_;walk_at "q"
 .obtain⟨_,_,_,_,_,_,_,rfl,_⟩:=h;rfl
 .obtain⟨p,b,w',rs,qs,ws,d,rfl,hp,hb,hw,fo,pos,len,l11,sq,h⟩:=h;have lr:=fo.lr;have d6:=fo.d6;have lw:=fo.lw;refine⟨_,(af (bY (QW.pt (fG (dI (dj (ai bJ (by rfl) T.b_isinstance aS (aa (qv 0) (aa (cS (v:=V.ty "tuple") rfl T.b_tuple gP rfl) ac))))) (fR (aH nN (ai aq (by rfl) T.b_len aF (aa (qv 0) ac)) ae (aG _))))) (ag (av eJ)) aN)
   (af (bY (QW.pt (fG (dI (dj (ah zCis_polynomial nofun rfl (aa (aw bI (qv 0) ae (λ_ _=>rfl)) ac)))) (fR (dI (dj (ah zCis_polynomial nofun rfl (aa (aw bI (qv 0) ae (λ_ _=>rfl)) ac))))))) (ag (av eJ)) aN)
   (af (cQ (qv 0) (aY (n:=2) rfl (au (am (i:=1) scN rfl (·)) (au (am (i:=2) scN rfl (·)) aZ))))
   (af (bY (QW.pt (fG (dI (uv yW yW ae (ai aq (by rfl) T.b_len aF (aa (qv 1) ac)) ae (yJ _ _))) (fG (aH (pD hr.u64) (aw cI (qv 1) (cX cy ae) (λ_ _=>rfl)) (aR (aa ae (aa ae ac))) (aG _)) (fR (aH BI (ai aq (by rfl) T.b_len aF (aa (qv 2) ac)) (ai aq (by rfl) T.b_len aF (aa (qv 1) ac)) (aG _)))))) (ag (av eJ)) aN)
   (af (bY (aH dY (ai aq (by rfl) T.b_len aF (aa (qv 1) ac)) ae (aG _)) (ag (av eJ)) aN)
   (af (aC (i:=3) scN rfl (·) (ah zCsteps nofun rfl (aa (ah zCflock_sums nofun rfl (aa (qv 0) (aa (ar cj (ar aP ae (ai aq (by rfl) T.b_len aF (aa (qv 1) ac))) ae) ac))) ac)))
   (ag (av (gq (cT dY (ai aq (by rfl) T.b_len aF (aa (qv 3) ac)) (ar cj (ai aq (by rfl) T.b_len aF (aa (qv 1) ac)) ae) (aG _)) (gW (cT io (aw bI (aw bI (aw cI (qv 3) (cX cy ae) (λ_ _=>rfl)) ae (λ_ _=>rfl)) ae (λ_ _=>rfl)) ae (aG _)))))))))))),?_⟩
  walk_at"m";skip
  refine aM.gen λN1 hN1=>?_;symm
  refine⟨"tuple",by simp only[Ar,hp],?_⟩
  refine dA (by simp[dG]) ⟨2,by simp only[dJ,hp];rfl,dA (λz=>z rfl) (hN1 _ _ ?_)⟩
  have pR:(D.lst (rs.map fr)).poly=true:=tz fo.po.1 fo.po.2;have pW:(D.lst (ws.map fr)).poly=true:=tz fo.pw.1 fo.pw.2;refine aM.gen λN2 hN2=>?_;symm
  refine⟨_,hp,_,cW,_,_,rfl,hb.rep,by show (rs.map fr).length<=1000;rw[YC];nofun,λH1 S1=>?_⟩
  rw[pR];refine⟨true,rfl,?_⟩;refine dA (by simp) ⟨_,S1 _ _ hp,_,dU,_,_,rfl,(hw.same S1).rep,by show (ws.map fr).length<=1000;rw[YC];nofun,λH2 S2=>?_⟩
  rw[pW];refine⟨true,rfl,dA (by simp) (hN2 _ _ ?_)⟩
  have S02:=S1.trans S2;refine aM.gen λN3 hN3=>?_;symm
  refine⟨_,S02 _ _ hp,rfl,_,_,rfl,_,_,rfl,rfl,hN3 _ _ ?_⟩;refine aM.gen λN4 hN4=>?_;symm
  simp only[sJ];symm
  have hrd:d<rs.length:=();have last:rs[d]=(1,1):=gY (fo.po.1 _ (YQ hrd)) (by exact⟨∅,by decide +kernel⟩) (by
   have e:wv (1,1)=1:=by decide +kernel
   rw[e,<-fo.one,aA (YR hrd)])
  obtain⟨zr,hzr,rzr⟩:=hb.same S02;obtain⟨xl,exl,rxl⟩:=rzr.at (i:=d) (d:=fr rs[d]) (by rw[Yz,YR hrd];rfl)
  have lzr:zr.length=d+1:=by have:=rzr.length;rw[YC] at this;nofun
  rw[last] at rxl;refine⟨_,(hb.same S02).len,iC () ?_⟩;refine dA (by simp;nofun) ?_
  refine⟨zr,hzr,xl,iT (n:=d) lzr exl,∅,λa3 H3 n3 S3 h3=>⟨_,aI.same S3 _ _ rxl,fr (1,1),aX h3,gR _,gR _,?_⟩⟩;have S03:=S02.trans S3;refine dA (by rw[mf (gR _)];decide) ⟨_,(hw.same S03).len,_,(hb.same S03).len,dA () (hN4 _ _ ?_)⟩
  refine aM.gen λN5 hN5=>?_;symm
  refine⟨_,(hb.same S03).len,cH (λ_=>h _ S03) (λe1=>hN5 _ _ ?_)⟩;have d1:1<=d:=();obtain⟨M,rfl⟩ : ∃M,d=M+1:=⟨d-1,()⟩;refine aM.gen λN6 hN6=>?_;symm
  refine⟨_,(hb.same S03).len,gB ∅,?_⟩;rw[show (2*(rs.length:Int)-3)=((2*M+1:Nat):Int) by nofun]
  refine⟨p,b,w',rs,qs,ws,M+1,2*M+1,rfl,S03 _ _ hp,hb.same S03,hw.same S03,fo,(),λc4 H4 ts S4 n4 l4 lt ft et rt=>?_⟩;have h2:2*M<qs.length:=();have ets:ts=qs.take (2*M)++[qs[2*M]]:=by
   have:=mY ft (λq hq=>(sq q hq).1) (n:=2*M+1) () () λk hk=>et k hk ();rw[YY ()] at this;rw[this,qW h2]
  obtain⟨W,B,cl⟩:=Dq (qs:=qs.take (2*M)) λq hq=>sq q (Xp hq);have pos0:vL (cf (qs.take (2*M))) M:=(pos.less (m:=M) ()).congr λi hi=>ju ();have hD:=AL cl.pos cl.val pos0;have ces:∀i,i<2*M+1->cf ts i=cf qs i:=λi hi=>et i hi ();have sqt:∀q∈ts,hZ q:=λq hq=>by
   rw[ets] at hq;rcases List.mem_append.mp hq with z|z
   .exact sq q (Xp z)
   .rw[List.mem_singleton.mp z];exact sq _ (YQ h2)
  have S04:=S03.trans S4;refine⟨c4,ts,_,_,W,B,M,170,rfl,l4,ets,by rw[Yu];nofun,(),λq hq=>sq q (Xp hq),cl,hD,(sq _ (YQ h2)).1,iB sqt,∅,λt5 H5 pss c S5 n5 lp sa ec fc wc=>hN6 _ _ ?_⟩
  have pkd:Bd (M+1) (Pk W M):=λi hi=>jw ();have c0:0<wv c.2:=by
   rw[wc,yH pkd (),sS (T:=cf qs) λi hi=>ces i ()];refine pos (Pk W M) pkd ⟨M,?_⟩;rw[fS (by have:=hD M (Yp _);nofun)]
   decide +kernel
  obtain⟨xs,hxs,lxs,hx⟩:=sa;obtain⟨x,l,v,ex,hx2,_,rv,_⟩:=hx _ _ ec;obtain⟨x8,rfl,hx8⟩:=rv.fr_at;symm
  have hxl:xs[M]? = some (.ref x):=ex;refine⟨xs.length,by simp only[dJ,hxs],_,(hb.same (S04.trans S5)).len,iC () ⟨xs,hxs,_,iT (n:=M) () ex,_,rfl,_,hx2,_,dU,_,rfl,_,hx8,_,cW,_,rfl,?_⟩⟩
  rw[YO ((Gv fc).mpr c0)];exact h _ (S04.trans S5)
inductive B0 (K:W.Frag)(vs:List V)(H:Hp)(Q:VK)(E:XK):Prop
 | mk (p b w a:Addr)(rs qs ws:List (Int×Int))(d:Nat):vs=[.ref p,.ref a]->vw K H p=some (.tup [.ref b,.ref w])->aK (vw K H) b rs->aK (vw K H) w ws->aK (vw K H) a qs->zX rs qs ws d->vL (cf qs) d->2*d<=qs.length+1->qs.length<=11->(∀q∈qs,hZ q)->(∀H',aB (vw K H) (vw K H')->Q (.bl true) H')->B0 K vs H Q E
theorem Jm(F:dO K "_law_has" "_law_has" Da f fd) (T:eA K mg)(zCis_flock:cn P w K mg base "_law_is_flock" ["_law_thing"] 8 (kJ K)) (zCflock_sums:cn P w K mg base "_law_flock_sums" ["_law_flock", "_law_many"] 5 (fM K)):bU P w K mg base dP 9 f fd ["_law_flock", "_law_sums_here"] (B0 K):=by
 have scN:=FW.nd;refine F.okQ FW ?_ ?_;walk_at "q"
 .obtain⟨_,_,_,_,_,_,_,_,rfl,_⟩:=h;rfl
 .obtain⟨p,b,w',a,rs,qs,ws,d,rfl,hp,hb,hw,ha,fo,pos,len,l11,sq,h⟩:=h;refine⟨_,(ag (av (gq (ah zCis_flock nofun rfl (aa (qv 0) ac)) (gW (cT (rZ hr.u64) (ah zCflock_sums nofun rfl (aa (qv 0) (aa (ai aq (by rfl) T.b_len aF (aa (qv 1) ac)) ac))) (qv 1) (aG _)))))),?_⟩
  walk_at"m";symm
  refine⟨p,b,w',rs,qs,ws,d,rfl,hp,hb,hw,fo,pos,len,l11,sq,λH1 S1=>⟨_,rfl,iC rfl ⟨_,(ha.same S1).len,p,b,w',rs,qs,ws,d,_,rfl,S1 _ _ hp,hb.same S1,hw.same S1,fo,(),λc2 H2 ts S2 n2 l2 lt ft et rt=>?_⟩⟩⟩;have ets:ts=qs:=by
   have:=mY ft (λq hq=>(sq q hq).1) (n:=qs.length) () () λk hk=>et k hk hk
   rwa [YY (),YY ()] at this
  subst ets;refine⟨_,l2.rep,_,((ha.same S1).same S2).rep,gz _,gz _,?_⟩;rw[mf (gz _)];exact h _ (S1.trans S2)
theorem yj(qs:List (Int×Int))(q:Int×Int):∃rs,dz qs q rs:=by
 refine⟨(List.range (qs.length-1)).map λk=>((cf qs (k+1)-wv q*cf qs k).num,((cf qs (k+1)-wv q*cf qs k).den:Int)),by simp,λk p e=>?_⟩
 rw[Yz] at e;obtain⟨j,hj,rfl⟩:=Option.map_eq_some_iff.mp e;obtain⟨_,hj⟩:=List.getElem?_eq_some_iff.mp hj;rw[List.getElem_range] at hj;subst hj;obtain⟨x,hx⟩ : ∃x:Rat,x=cf qs (k+1)-wv q*cf qs k:=⟨_,rfl⟩;rw[<-hx];refine⟨⟨?_,?_⟩,?_⟩
 .have:=x.den_pos;show (0:Int)<(x.den:Int);nofun
 .exact x.reduced
 .show (x.num:Rat)/((x.den:Int):Rat)=x;rw[<-Rat.divInt_eq_div];exact Rat.num_divInt_den x
theorem EB{rs qs ts:List (Int×Int)}{M:Nat}(br:Pb 1100 (cf rs))(sq:∀q∈qs,hZ q)(one:cf rs (M+1)=1)(hM:M<=5)(lt:ts.length=2*M+2)(ft:∀q∈ts,Fq q)(et:∀k,k<2*M+1->cf ts k=cf qs k)(rt:ak (cf rs) (λj=>cf ts (M+j)) (M+1+1)=0):Bq 1280 (ts[2*M+1]'()):=by
 obtain⟨D,d0,bD,oD⟩:=br;obtain⟨E,e0,bE,oE⟩:=iB (qs:=qs.drop M) λq hq=>sq q (XU hq);obtain⟨n,en,bn⟩:=sC d0 e0 oD oE (M+1);have e1:ak (cf rs) (λj=>cf ts (M+j)) (M+1)=ak (cf rs) (cf (qs.drop M)) (M+1):=aD _ (λ_ _=>rfl) λj hj=>by rw[et _ (),oG]
 have e2:ak (cf rs) (λj=>cf ts (M+j)) (M+1)+cf rs (M+1)*cf ts (M+(M+1))=0:=rt;rw[e1,en,one,show M+(M+1)=2*M+1 by nofun,aA (YR (show 2*M+1<ts.length by nofun))] at e2
 refine ik (n:=-n) (D:=D*E) (ft _ (YQ _)) ?_ (Xc d0 e0) ?_ ((bD.mul bE).mono ∅)
 .rw[Rat.intCast_neg];grind
 .have:=bn.mono (show 1100+170+(M+1)<=1280 by nofun)
  unfold Bt at this ⊢
  rwa [Int.natAbs_neg]
inductive jx (K:W.Frag)(vs:List V)(H:Hp)(Q:VK)(E:XK):Prop
 | mk (p b w:Addr)(y:V)(rs qs ws:List (Int×Int))(q:Int×Int)(d:Nat):vs=[.ref p,y]->vw K H p=some (.tup [.ref b,.ref w])->aK (vw K H) b rs->aK (vw K H) w ws->aI (vw K H) (fr q) y->nu q->zX rs qs ws d->AU qs q rs d->qs.length<=11->(∀q∈qs,gD 112 q)->(∀H',aB (vw K H) (vw K H')->Q (.bl true) H')->jx K vs H Q E
theorem uf(F:dO K "_law_none_below" "_law_none_below" ji f fd) (T:eA K mg)(zCsteps:cn P w K mg base "_law_steps" ["_law_sums_here"] 7 (oq K)) (zCfrom:cn P w K mg base "_law_from" ["_law_sums_here", "_law_spot"] 4 (sK K)) (zCflock_sums:cn P w K mg base "_law_flock_sums" ["_law_flock", "_law_many"] 5 (fM K)):bU P w K mg base dP 8 f fd ["_law_flock", "_law_spot"] (jx K):=by
 have scN:=kZ.nd;refine F.okQ kZ ?_ ?_;walk_at "q"
 .obtain⟨_,_,_,_,_,_,_,_,_,rfl,_⟩:=h;rfl
 .obtain⟨p,b,w',y,rs,qs,ws,q,d,rfl,hp,hb,hw,ry,spq,fo,fp,l11,sb,h⟩:=h;have lr:=fo.lr;have d6:=fo.d6;have lw:=fo.lw;have len:=fp.len;have sq:∀q∈qs,hZ q:=λq hq=>(sb q hq).sumQ ∅;refine⟨_,(af (bY (aH dY (ai aq (by rfl) T.b_len aF (aa (aw bI (qv 0) ae (λ_ _=>rfl)) ac)) ae (aG _)) (ag (av eJ)) aN)
   (af (aC (i:=2) scN rfl (·) (ah zCsteps nofun rfl (aa (ah zCfrom nofun rfl (aa (ah zCflock_sums nofun rfl (aa (qv 0) (aa (ar cj (ar aP ae (ai aq (by rfl) T.b_len aF (aa (aw bI (qv 0) ae (λ_ _=>rfl)) ac))) ae) ac))) (aa (qv 1) ac))) ac)))
   (ag (av (gq (cT dY (ai aq (by rfl) T.b_len aF (aa (qv 2) ac)) (ar cj (ai aq (by rfl) T.b_len aF (aa (aw bI (qv 0) ae (λ_ _=>rfl)) ac)) ae) (aG _)) (gW (cT BI (aw bI (aw bI (aw cI (qv 2) (cX cy ae) (λ_ _=>rfl)) ae (λ_ _=>rfl)) ae (λ_ _=>rfl)) ae (aG _)))))))),?_⟩
  walk_at"m";skip
  refine aM.gen λN1 hN1=>?_;symm
  refine⟨_,hp,_,cW,b,rfl,_,hb.len,cH (λ_=>h _ .rfl) (λe1=>hN1 _ _ ?_)⟩;obtain⟨M,rfl⟩ : ∃M,d=M+1:=⟨d-1,()⟩;refine aM.gen λN2 hN2=>?_;symm
  refine⟨_,hp,_,cW,b,rfl,_,hb.len,gB ∅,?_⟩;rw[show (2*(rs.length:Int)-2)=((2*M+2:Nat):Int) by nofun]
  refine⟨p,b,w',rs,qs,ws,M+1,2*M+2,rfl,hp,hb,hw,fo,(),λc1 H1 ts S1 n1 l1 lt ft et rt=>?_⟩;have ets:∀k,k<2*M+1->cf ts k=cf qs k:=λk hk=>et k () ();have bl:=EB fo.br sq fo.one () lt ft ets (rt M ());have bts:∀q∈ts,Fq q/\Bq 1500 q:=λq hq=>by
   refine⟨ft q hq,?_⟩;obtain⟨k,hk,rfl⟩:=List.getElem_of_mem hq;rcases Xt k (2*M+1) with z|z
   .have e:=ets k z;have k2:k<qs.length:=();rw[aA (YR hk),aA (YR k2)] at e;have s2:=sq _ (YQ k2);rw[gY (ft _ hq) s2.1 e];exact s2.2.1.mono ∅
   .obtain rfl:k=2*M+1:=();exact bl.mono ∅
  refine⟨c1,y,ts,q,rfl,l1,aI.same S1 _ _ ry,spq.1,spq.2.1.mono ∅,(),(),bts,λc2 H2 gs S2 n2 l2 lg vg=>?_⟩;obtain⟨fs,hf⟩:=yj qs q;have lf:=hf.1;have sf:∀p∈fs,hZ p:=mP sb spq lf hf.2;have h2:2*M<gs.length:=();have fg:∀q∈gs,Fq q:=λp hp=>by
   obtain⟨k,hk⟩:=XR hp;exact (vg k p hk).1
  have cg:∀k,k<2*M+1->cf gs k=cf ts (k+1)-wv q*cf ts k:=λk hk=>by
   have hk':k<gs.length:=();rw[aA (YR hk')];exact (vg k _ (YR hk')).2
  have cgf:∀k,k<2*M+1->k+1<qs.length->cf gs k=cf fs k:=λk hk hk2=>by
   rw[cg k hk,jN hf hk2,ets k hk,et (k+1) () hk2]
  have egs:gs=fs.take (2*M)++[gs[2*M]]:=by
   have:=mY fg (λq hq=>(sf q hq).1) (n:=2*M) () () λk hk=>cgf k () ();rw[<-this,<-qW h2,YY ()]
  obtain⟨pf,cs⟩:=fp.frm () fs hf;obtain⟨W,B,cl,cs⟩ : ∃(W:Nat->Int)(B:Int),kv (fs.take (2*M)) W B/\((2*M+2<=qs.length /\ ∀f:Nat->Rat,(∀i,M+1<=i->f i=0)->0<=ip (cf fs) f f (M+1) (M+1))\/cf rs=lx (wv q) (Pk W M)):=by
   rcases cs with ⟨z1,z2⟩|⟨z1,W,B,cl,z2⟩
   .obtain⟨W,B,cl⟩:=Dq (qs:=fs.take (2*M)) λq hq=>sf q (Xp hq);exact⟨W,B,cl,.inl ⟨(),z2⟩⟩
   .rw[<-YY (l:=fs) (i:=2*M) ()] at cl;exact⟨W,B,cl,.inr z2⟩
  have pos0:vL (cf (fs.take (2*M))) M:=pf.congr λi hi=>ju ();have hD:=AL cl.pos cl.val pos0;have S02:=S1.trans S2;have fx:=fg _ (YQ h2);have bx:Bq 3000 gs[2*M]:=by
   have i1:2*M<ts.length:=();have i2:2*M+1<ts.length:=();have f1:=bts _ (YQ i1);have f2:=bts _ (YQ i2);have fm:=gJ spq.1 f1.1;have e:=cg (2*M) ();rw[aA (YR h2),aA (YR i1),aA (YR i2),<-ja spq.1.ne f1.1.ne,<-tT f2.1.ne fm.ne] at e;rw[gY fx (ox f2.1 fm) e];refine (DI (m:=1280) (n:=143) f2.1 fm bl (i3 (m:=12) (n:=131) spq.1 f1.1 spq.2.1 ?_)).mono ∅;have k2:2*M<qs.length:=();have e:=ets (2*M) ();rw[aA (YR i1),aA (YR k2)] at e;have s2:=sq _ (YQ k2);rw[gY f1.1 s2.1 e];exact s2.2.1
  have pg:Pb 4000 (cf gs):=by
   rw[egs];exact (FC (iB λq hq=>sf q (Xp hq)) fx bx).mono ∅
  refine⟨c2,gs,_,_,W,B,M,4000,rfl,l2,egs,by rw[Yu];nofun,(),λq hq=>sf q (Xp hq),cl,hD,fx,pg,∅,λt5 H5 pss c S5 n5 lp sa ec fc wc=>hN2 _ _ ?_⟩
  have pkd:Bd (M+1) (Pk W M):=λi hi=>jw ();have c0:0<=wv c.2:=by
   rw[wc,yH pkd ()];rcases cs with ⟨z1,z2⟩|z
   .rw[sS (T:=cf fs) λi hi=>cgf i () ()];exact z2 _ pkd
   .rw[t9 (S:=cf ts) (s:=wv q) pkd λi hi=>cg i (),<-z];unfold ip;rw[aW _ λi hi=>by rw[rt i ()];grind]
    exact Rat.le_refl
  obtain⟨xs,hxs,lxs,hx⟩:=sa;obtain⟨x,l,v,ex,hx2,_,rv,_⟩:=hx _ _ ec;obtain⟨x8,rfl,hx8⟩:=rv.fr_at;symm
  have S05:=S02.trans S5;refine⟨xs.length,by simp only[dJ,hxs],_,S05 _ _ hp,_,cW,b,rfl,_,(hb.same S05).len,iC () ⟨xs,hxs,_,iT (n:=M) () ex,_,rfl,_,hx2,_,dU,_,rfl,_,hx8,_,cW,_,rfl,?_⟩⟩
  rw[YO ((GK fc).mpr c0)];exact h _ S05
theorem zx{H:Hp}{es:List D}{e:D}{xs:List V}(r:aJ H (es++[e]) xs):∃ys x,xs=ys++[x]/\aJ H es ys/\aI H e x:=by
 have l:=r.length;have lt:es.length<xs.length:=by rw[l];simp
 obtain⟨x,hx,rx⟩:=r.at (i:=es.length) (d:=e) (by simp)
 refine⟨xs.take es.length,x,?_,?_,rx⟩
 .have:=List.take_append_drop es.length xs;have d1:xs.drop es.length=[x]:=by
   rw[XM lt,List.drop_eq_nil_of_le (by rw[l];simp)]
   rw[YR lt] at hx;injection hx with hx
   rw[hx]
  rw[d1] at this;exact this.symm
 .have:=r.take es.length
  rwa [List.take_left'] at this
  rfl
theorem GW(xs:List V):iU xs none (some (-1))=xs.take (xs.length-1):=by
 unfold iU HT.sIx;cases xs with
 | nil=>rfl
 | cons x xs =>
  simp;nofun
theorem DY.thb{d:D}(h:DY d):KT d /\ ∀ds,d=.tup ds -> ∀e∈ds,e.len<=1000:=by
 have one:∀fs:List (Int×Int),Pl fs->(∀gs:List (Int×Int),D.lst (fs.map fr)=.lst (gs.map fr)->aL gs->gs.length<=14 /\ ∀q∈gs,Bq 2000 q)/\(D.lst (fs.map fr)).len<=1000:=λfs ⟨a,b,c⟩=>by
  refine⟨λgs e _=>?_,?_⟩
  .obtain rfl:=gA e;exact⟨(),λq hq=>c q hq⟩
  .show (fs.map fr).length<=1000;rw[YC];nofun
 have st:∀w:Str,(∀gs:List (Int×Int),D.str w=.lst (gs.map fr)->aL gs->gs.length<=14 /\ ∀q∈gs,Bq 2000 q):=λw gs e=>by cases e
 obtain⟨w,fs,_,p,rfl|⟨gs,p2,rfl⟩⟩:=h
 .refine⟨λds e=>?_,λds e=>?_⟩
  all_goals
   cases e;intro e he;simp only[Y0,Y1,Y2] at he;rcases he with rfl|rfl
  .exact st w
  .exact (one fs p).1
  .exact YK _
  .exact (one fs p).2
 .refine⟨λds e=>?_,λds e=>?_⟩
  all_goals
   cases e;intro e he;simp only[Y0,Y1,Y2] at he;rcases he with rfl|rfl|rfl
  .exact st w
  .exact (one fs p).1
  .exact (one gs p2).1
  .exact YK _
  .exact (one fs p).2
  .exact (one gs p2).2
inductive ui (K:W.Frag)(vs:List V)(H:Hp)(Q:VK)(E:XK):Prop
 | mk (a:Addr)(y v:V)(qs:List (Int×Int))(q:Int×Int)(G0:Hp):vs=[.ref a,y,v]->aK (vw K H) a qs->1<=qs.length->qs.length<=11->(∀q∈qs,gD 112 q)->aI (vw K H) (fr q) y->nu q->ID G0 qs q (vw K H) v->(∀H',aB (vw K H) (vw K H')->Q (.bl true) H')->ui K vs H Q E
theorem EC(F:dO K "_law_right" "_law_right" tM f fd) (T:eA K mg)(zChas:cn P w K mg base "_law_has" ["_law_flock", "_law_sums_here"] 9 (B0 K)) (zCnone_below:cn P w K mg base "_law_none_below" ["_law_flock", "_law_spot"] 8 (jx K)) (zCis_bar:cn P w K mg base "_law_is_bar" ["_law_sums_here", "_law_thing"] 6 (oQ K)) (zCfrom:cn P w K mg base "_law_from" ["_law_sums_here", "_law_spot"] 4 (sK K)):bU P w K mg base dP 10 f fd ["_law_sums_here", "_law_spot", "_law_found"] (ui K):=by
 have scN:=yx.nd;refine F.okQ yx ?_ ?_;walk_at "q"
 .obtain⟨_,_,_,_,_,_,rfl,_⟩:=h;rfl
 .obtain⟨a,y,v,qs,q,G0,rfl,ha,l1,l11,sb,hy,hq,th,h⟩:=h;have sq:∀q∈qs,hZ q:=λq hq=>(sb q hq).sumQ ∅;refine⟨_,(af (bY (QW.pt (fG (dI (dj (ai bJ (by rfl) T.b_isinstance aS (aa (qv 2) (aa (cS (v:=V.ty "tuple") rfl T.b_tuple gP rfl) ac))))) (fG (aH ky (ai aq (by rfl) T.b_len aF (aa (qv 2) ac)) ae (aG _)) (fR (dI (dj (ai bJ (by rfl) T.b_isinstance aS (aa (aw bI (qv 2) ae (λ_ _=>rfl)) (aa (cS (v:=V.ty "str") rfl T.b_str C4 rfl) ac))))))))) (ag (av eJ)) aN)
   (af (bY (aH dY (aw bI (qv 2) ae (λ_ _=>rfl)) gi (aG _)) (ag (av (gq (cT dY (ai aq (by rfl) T.b_len aF (aa (qv 2) ac)) ae (aG _)) (gq (ah zChas nofun rfl (aa (aw bI (qv 2) ae (λ_ _=>rfl)) (aa (qv 0) ac))) (gW (ah zCnone_below nofun rfl (aa (aw bI (qv 2) ae (λ_ _=>rfl)) (aa (qv 1) ac)))))))) aN)
   (af (bY (QW.pt (fG (aH jr (aw bI (qv 2) (cX cy ae) (λ_ _=>rfl)) (aR (aa ae (aa ae ac))) (by rfl)) (fG (dj (ai bJ (by rfl) T.b_isinstance aS (aa (aw bI (qv 2) (cX cy ae) (λ_ _=>rfl)) (aa (cS (v:=V.ty "bool") rfl T.b_bool oz rfl) ac)))) (fR (dI (dj (ai bJ (by rfl) T.b_isinstance aS (aa (aw bI (qv 2) (cX cy ae) (λ_ _=>rfl)) (aa (cS (v:=V.ty "int") rfl T.b_int Bn rfl) ac))))))))) (ag (av eJ)) aN)
   (af (bY (aH dY (aw bI (qv 2) (cX cy ae) (λ_ _=>rfl)) ae (aG _)) (ag (av (ah zCis_bar nofun rfl (aa (qv 0) (aa (dc k7 (qv 2) dW (dS (cX cy ae))) ac))))) aN)
   (ag (av (gq (cT io (ai aq (by rfl) T.b_len aF (aa (qv 0) ac)) ae (aG _)) (gW (ah zCis_bar nofun rfl (aa (ah zCfrom nofun rfl (aa (qv 0) (aa (qv 1) ac))) (aa (dc k7 (qv 2) dW (dS (cX cy ae))) ac))))))))))),?_⟩
  walk_at"m";skip
  have st:∀{s t:Str},(V.str s=.str t)↔s=t:=λ{s t}=>⟨λz=>by injection z,λz=>by rw[z]⟩
  rcases th with ⟨d,_,p,l,s0,ys,rfl,rd,⟨ds,t,bl,t01,rfl⟩,ht,_,_,hp,_⟩|⟨p,r,b,w',rs,ws,d,rfl,hp,hr2,hb,hw,_,fp,fo,_⟩
  .obtain⟨xs,rfl,hx,rx⟩ : ∃xs,s0::V.ref l::ys=xs/\vw K H p=some (.tup xs)/\aJ (vw K H) (ds++[.int t]) xs:=by
    obtain⟨p',xs,e,hx,rx⟩:=rd.tup_at;cases e;rw[hp] at hx;cases hx;exact⟨_,rfl,hp,rx⟩
   obtain⟨w0,dr,rfl,wb,l23⟩ : ∃(w0:Str)(dr:List D),ds=.str w0::dr/\(w0 = "below" \/ w0 = "nought")/\dr.length<=2:=by
    obtain⟨w0,fs,wb,_,z|⟨gs,_,z⟩⟩:=bl
    .injection z with z
     exact⟨w0,_,z,wb,by simp⟩
    .injection z with z
     exact⟨w0,_,z,wb,by simp⟩
   obtain⟨x0,xr,ex,r0,rr⟩:=rx.cons_at;cases ex;obtain rfl:=(rY r0).mpr rfl;have nfl:w0 ≠ "flock":=by rcases wb with z|z<;>(rw[z];decide +kernel)
   refine aM.gen λN1 hN1=>?_;symm
   refine⟨"tuple",by simp only[Ar,hp],dA (by simp[dG]) ⟨_,by simp only[dJ,hp];rfl,dA (by simp only[Y9];nofun) ⟨_,hp,_,cW,.inr (.inr (.inr (.inr (.inl rfl)))), "str",rfl,dA (by simp[dG]) (hN1 _ _ ?_)⟩⟩⟩
   refine aM.gen λN2 hN2=>?_;symm
   refine⟨_,hp,_,cW,rfl,dA (λz=>nfl (st.mp z)) (hN2 _ _ ?_)⟩;obtain⟨zs,x,ez,rz,rt⟩:=zx rx;cases rt.int_at;have lst:(V.str w0::V.ref l::ys).getLast? = some (.int t):=by rw[ez];simp
   refine aM.gen λN3 hN3=>?_;symm
   refine⟨_,hp,_,dX lst,∅,λa3 H3 n3 S3 h3=>⟨a3,_,rfl,.inr (cZ h3),rfl,rfl,_,rfl,dA (by rcases t01 with z|z<;>(rw[z];decide +kernel)) ⟨_,S3 _ _ hp,_,dX lst, "int",rfl,dA (by simp[dG]) ⟨_,S3 _ _ hp,_,dX lst, "int",rfl,dA (by simp[dG]) (hN3 _ _ ?_)⟩⟩⟩⟩
   have lzs:(V.str w0::V.ref l::ys).length=zs.length+1:=by rw[ez];simp
   have cut:∀{H0:Hp}{Q0:VK},aB (vw K H) (vw K H0)->(∀(p1:Addr) H1,aB (vw K H0) (vw K H1)->aI (vw K H1) (.tup (.str w0::dr)) (.ref p1)->Q0 (.ref p1) H1)->vb K (.ref p) none (some (-1)) H0 Q0:=λS0 k=>by
    refine⟨p,rfl,_,S0 _ _ hp,λz=>?_,λp1 H1 hp1 S1 h1=>k p1 H1 S1 (.mk_tup h1 ?_)⟩
    .have z:=z.2;unfold HT.sIx at z;simp at z;nofun
    .rw[GW,lzs,ez,XE,List.take_left' rfl];exact (rz.same S0).same S1
   have vi:∀{i j:Int},(V.int i=.int j)↔i=j:=λ{i j}=>⟨λz=>by injection z,λz=>by rw[z]⟩
   obtain⟨thb,tln⟩:=bl.thb;refine aM.gen λN4 hN4=>?_;symm
   refine⟨_,S3 _ _ hp,_,dX lst,rfl,cH (λe3=>?_) (λe3=>hN4 _ _ ?_)⟩
   .have e3:=vi.mp e3;refine cut S3 λp4 H4 S4 r4=>?_;have S04:=S3.trans S4;have bt:mT qs (.tup (.str w0::dr)):=by
     rcases oB.mp ht with ⟨_,z⟩|⟨z,_⟩
     .exact z
     .nofun
    refine⟨a,.ref p4,qs,.tup (.str w0::dr),rfl,ha.same S04,l11,sq,r4,thb,tln,λt5 H5 S5 hb=>?_⟩;rw[hb.mpr bt];exact h _ (S04.trans S5)
   have e3:t≠0:=λz=>e3 (vi.mpr z);obtain⟨n1,fs,ff,bt⟩ : 1<qs.length /\ ∃rs,dz qs q rs/\mT rs (.tup (.str w0::dr)):=by
    rcases oB.mp ht with ⟨z,_⟩|⟨_,z⟩
    .exact absurd z e3
    .exact z
   symm
   refine⟨_,(ha.same S3).len,iC () ?_⟩;refine⟨a,y,qs,q,rfl,ha.same S3,aI.same S3 _ _ hy,hq.1,hq.2.1.mono ∅,l1,(),λp hp=>⟨(sq p hp).1,(sq p hp).2.1.mono ∅⟩,λb6 H6 ts6 S6 nb6 l6 ln6 w6=>?_⟩;obtain rfl:=dz.uniq (show dz qs q ts6 from ⟨ln6,w6⟩) ff
   refine cut (S3.trans S6) λp7 H7 S7 r7=>?_;refine⟨b6,.ref p7,ts6,.tup (.str w0::dr),rfl,l6.same S7,(),mP sb hq ln6 w6,r7,thb,tln,λt8 H8 S8 hb=>?_⟩;rw[hb.mpr bt];exact h _ (S3.trans (S6.trans (S7.trans S8)))
  .refine aM.gen λN1 hN1=>?_;symm
   refine⟨"tuple",by simp only[Ar,hp],dA (by simp[dG]) ⟨_,by simp only[dJ,hp];rfl,dA (by simp) ⟨_,hp,_,cW,.inr (.inr (.inr (.inr (.inl rfl)))), "str",rfl,dA (by simp[dG]) (hN1 _ _ ?_)⟩⟩⟩
   refine aM.gen λN2 hN2=>?_;symm
   refine⟨_,hp,_,cW,rfl,iC rfl ⟨_,by simp only[dJ,hp];rfl,iC (by simp) ⟨_,hp,_,dU,?_⟩⟩⟩
   refine⟨r,b,w',a,rs,qs,ws,d,rfl,hr2,hb,hw,ha,fo,fp.pos,fp.len,l11,sq,λH1 S1=>⟨_,rfl,iC rfl ⟨_,S1 _ _ hp,_,dU,r,b,w',y,rs,qs,ws,q,d,rfl,S1 _ _ hr2,hb.same S1,hw.same S1,aI.same S1 _ _ hy,hq,fo,fp,l11,sb,λH2 S2=>h _ (S1.trans S2)⟩⟩⟩
theorem Jb{R Δ u:Nat->Rat}{n:Nat}(tR:Tp n R)(n6:n<=6)(ns:mo R (DF R))(bD:Bd n Δ)(bu:Bd 13 u)(h:∀x,EV Δ x*EV (DF R) x=EV u x*EV R x):∀k,Δ k=0:=by
 rcases Bd.tp bD with z|⟨d0,l0,t0⟩
 .exact z
 exfalso;obtain⟨m,⟨mn,e,te,u,bu,h⟩,mn2⟩:=least (Φ:=λd=>d<n /\ ∃e,Tp d e /\ ∃u,Bd 13 u /\ ∀x,EV e x*EV (DF R) x=EV u x*EV R x) ⟨l0,Δ,t0,u,bu,h⟩;obtain⟨q,t,bq,bt,eq⟩:=zR te (n+1-m) R (tR.2.mono ());have vq:=yz te bq () eq;have bR':=jC tR.2;have bu':Bd (m+1) u:=(kK (f:=λk=>pr e (DF R) (m+1) k) (n:=m+1+n) (Bd.pr bR') () tR n6 bu (λx=>by rw[iS te.2 bR' (),h])).1.mono ()
 rcases Bd.tp bt with z|⟨m',l',t'⟩
 .have v1:∀x,EV R x=EV q x*EV e x:=λx=>by rw[vq x,gE z];grind
  rcases Bd.tp bq with zq|⟨k,lk,tq⟩
  .exact tR.1 (jT (tR.2.mono ()) (g:=λ_=>0) (λ_ _=>rfl) (λx=>by rw[v1,gE zq,gE (f:=λ_=>0) λ_=>rfl];grind) n)
  .have k1:1<=k:=Nat.pos_of_ne_zero λz0=>by
    subst z0;have:=jT (tR.2.mono ()) ((Bd.pr (m:=1) (f:=q) te.2).mono ()) (λx=>by rw[iS tq.2 te.2 (),v1]) n
    rw[eU te.2 _ _ ()] at this;exact tR.1 this
   have bp:Bd (m+1+(k+1)) (λj=>pr u q (m+1) j):=Bd.pr tq.2;obtain⟨g,hg⟩ : ∃g:Nat->Rat,g=λj=>DF R j+(-1)*(λj=>pr u q (m+1) j) j:=⟨_,rfl⟩;have bg:Bd 13 g:=by
    rw[hg];exact Bd.add (bR'.mono ()) (bp.mono ())
   have vg:∀x,EV g x=EV (DF R) x-EV u x*EV q x:=λx=>by
    rw[hg,gu,iS bu' tq.2 ()];grind
   have g0:=(kK (f:=λ_=>0) (n:=0) (λ_ _=>rfl) () te () bg (λx=>by
    have a:=h x;rw[v1] at a;rw[vg,gE (f:=λ_=>0) λ_=>rfl];grind)).1
   refine ns k q k1 () tq ⟨e,te.2.mono (),λx=>by rw[v1];grind⟩ ⟨u,bu'.mono (),λx=>?_⟩
   have a:=vg x;rw[gE λi=>g0 i ()] at a;grind
 .have:=mn2 m' ⟨(),t,t',λk=>DF R k+(-1)*(λk=>pr q u (n+1-m) k) k,Bd.add (bR'.mono ()) ((Bd.pr bu').mono ()),λx=>?_⟩
  .nofun
  .rw[gu,iS bq bu' ()];have a:=h x;have b:=vq x;grind
theorem Di{rs qs ws ws':List (Int×Int)}{d:Nat}(lr:rs.length=d+1)(d6:d<=6)(one:cf rs d=1)(ns:mo (cf rs) (DF (cf rs)))(lw:ws.length<=d)(lw':ws'.length<=d)(pw:aL ws)(pw':aL ws')(h:Ed rs qs ws)(h':Ed rs qs ws'):ws=ws':=by
 have tR:Tp d (cf rs):=⟨by rw[one];decide +kernel,λi hi=>aE ()⟩
 have bR':=jC tR.2;obtain⟨V,pV,e⟩:=h;obtain⟨V',pV',e'⟩:=h';rw[lr,XE] at e e';have dotE:∀{f:Nat->Rat}{n:Nat},Bd n f->n<=20 -> ∀x,ak f (aO x) n=EV f x:=λhf hn x=>by rw[ii hf hn,kc]
 have bw:Bd d (cf ws):=λi hi=>aE ();have bw':Bd d (cf ws'):=λi hi=>aE ();obtain⟨Δ,hΔ⟩ : ∃Δ:Nat->Rat,Δ=λk=>cf ws k+(-1)*cf ws' k:=⟨_,rfl⟩;have bD:Bd d Δ:=by rw[hΔ];exact Bd.add bw bw'
 have vD:∀x,EV Δ x=EV (cf ws) x-EV (cf ws') x:=λx=>by rw[hΔ,gu];grind
 have main:∀x,EV Δ x*EV (DF (cf rs)) x=(V x-V' x)*EV (cf rs) x:=λx=>by
  have a:=e x;have b:=e' x;rw[dotE bw (),dotE tR.2 ()] at a;rw[dotE bw' (),dotE tR.2 ()] at b;rw[vD];grind
 obtain⟨q,t,bq,bt,eq⟩:=zR tR d (λk=>pr Δ (DF (cf rs)) d k) (Bd.pr bR');have vq:=yz tR bq () eq;have vt:∀x,EV t x=(V x-V' x-EV q x)*EV (cf rs) x:=λx=>by
  have a:=vq x;rw[iS bD bR' (),main] at a;grind
 obtain⟨lv,hv⟩:=(pV.sub pV').sub (yS bq ());have bl:Bd d (λk=>if k<d then cf rs k else 0):=λi hi=>Yc ()
 have C0:=sH (n:=d) (P:=EV t) (R:=EV (cf rs)) (r:=EV λk=>if k<d then cf rs k else 0) (eO.of bt ()) (eO.of bl ()) (λx=>by
  rw[<-dotE tR.2 (),<-dotE bl ()];show ak (cf rs) (aO x) d+cf rs d*aO x d=_;rw[one,aD (f':=λk=>if k<d then cf rs k else 0) (g':=aO x) d (λi hi=>(Yb hi).symm) λ_ _=>rfl]
  grind) lv.length (λx=>V x-V' x-EV q x) ⟨lv,Yp _,hv⟩ vt
 have z:=Jb tR d6 ns bD (bq.mono ()) λx=>by
  have a:=C0 x;rw[main];grind
 refine k9 pw pw' λk=>?_;have a:=z k;rw[hΔ] at a;grind
theorem Dc{qs us us':List (Int×Int)}{q:Int×Int}{d d':Nat}(h:AU qs q us d)(h':AU qs q us' d')(p:aL us)(p':aL us')(sf:∀fs,dz qs q fs -> ∀p∈fs,Fq p):us=us':=by
 have lt:∀{us us':List (Int×Int)}{d d':Nat},AU qs q us d->AU qs q us' d' -> ¬ d<d':=λ{us us' d d'} h h' z=>by
  have l':=h'.len;have bu:Bd (d+1) (cf us):=λi hi=>aE (by have:=h.lr;nofun)
  have a:=h'.pos.less (m:=d+1) () (cf us) bu ⟨d,by rw[h.one];decide +kernel⟩
  unfold ip at a;rw[aW _ λi hi=>by rw[h.orth i ()];grind] at a
  exact absurd a (Rat.not_lt.mpr Rat.le_refl)
 obtain rfl:d=d':=by
  have a:=lt h h';have b:=lt h' h;nofun
 have bu:Bd (d+1) (cf us):=λi hi=>aE (by have:=h.lr;nofun)
 have bu':Bd (d+1) (cf us'):=λi hi=>aE (by have:=h'.lr;nofun)
 refine k9 p p' λk=>?_;rcases Nat.eq_zero_or_pos d with z|d1
 .subst z;rcases Nat.eq_zero_or_pos k with y|y
  .rw[y,h.one,h'.one]
  .rw[bu k (),bu' k ()]
 obtain⟨fs,hf⟩:=yj qs q;rcases (h.frm d1 fs hf).2 with ⟨z,_⟩|⟨z,W,B,cl,e⟩
 .obtain⟨g,hg⟩ : ∃g:Nat->Rat,g=λk=>cf us k+(-1)*cf us' k:=⟨_,rfl⟩;have bg:Bd d g:=λi hi=>by
   rw[hg];show cf us i+(-1)*cf us' i=0;by_cases y:i=d
   .rw[y,h.one,h'.one];grind
   .rw[bu i (),bu' i ()];grind
  have g0:∀k,g k=0:=λk=>XD λy=>by
   have a:=h.pos g bg ⟨k,y⟩;unfold ip at a;rw[aW _ λi hi=>?_] at a
   .exact absurd a (Rat.not_lt.mpr Rat.le_refl)
   .have o1:=h.orth i ();have o2:=h'.orth i ();have c:ak g (λj=>cf qs (i+j)) (d+1)=ak (cf us) (λj=>cf qs (i+j)) (d+1)+(-1)*ak (cf us') (λj=>cf qs (i+j)) (d+1):=by
     rw[hg];generalize d+1=n;induction n with
     | zero=>show (0:Rat)=0+(-1)*0;grind
     | succ n ih =>
      show ak _ _ n+(cf us n+(-1)*cf us' n)*cf qs (i+n)=(ak _ _ n+cf us n*cf qs (i+n))+(-1)*(ak _ _ n+cf us' n*cf qs (i+n));rw[ih];grind
    have c2:ak g (λj=>cf qs (i+j)) (d+1)=ak g (λj=>cf qs (i+j)) d+g d*cf qs (i+d):=rfl;rw[o1,o2,c2,bg d (Yp _)] at c;have:ak g (λj=>cf qs (i+j)) d=0:=⋯;rw[this];grind
  have a:=g0 k;rw[hg] at a;grind
 .rcases (h'.frm d1 fs hf).2 with ⟨z',_⟩|⟨_,W',B',cl',e'⟩
  .nofun
  .obtain⟨_,eW⟩:=cl.uniq cl' (sf fs hf);subst eW;rw[e,e']
def IB(qs:List (Int×Int))(q:Int×Int)(d:D):Prop:=lj qs q d\/X3 λ(rs ws:List (Int×Int))(n:Nat)=>d=.tup [.str "flock",.tup [.lst (rs.map fr),.lst (ws.map fr)]]/\AU qs q rs n/\zX rs qs ws n/\mo (cf rs) (DF (cf rs)) /\ ¬ jG (cf qs) qs.length/\(1<qs.length -> ∀fs,dz qs q fs -> ¬ jG (cf fs) fs.length)
theorem ID.tree{G0 G:Hp}{qs:List (Int×Int)}{q:Int×Int}{v:V}(h:ID G0 qs q G v):∃d,aI G d v/\IB qs q d:=by
 rcases h with ⟨_,d,_,_,_,_,_,_,_,_,r,t,_⟩|⟨p,r,b,w,rs,ws,n,rfl,hp,hr,hb,hw,_,fp,fo,x⟩
 .exact⟨d,r,.inl t⟩
 .exact⟨_,.mk_tup hp (.mk_cons wa (.mk_cons (.mk_tup hr (.mk_cons hb.rep (.mk_cons hw.rep .mk_nil))) .mk_nil)),.inr ⟨rs,ws,n,rfl,fp,fo,x⟩⟩
theorem lj.bar{qs:List (Int×Int)}{q:Int×Int}{d:D}(h:lj qs q d):jG (cf qs) qs.length\/(1<qs.length /\ ∃fs,dz qs q fs/\jG (cf fs) fs.length):=by
 obtain⟨ds,t,rfl,⟨rfl,h⟩|⟨rfl,n,_,fs,f,h⟩⟩:=h
 .exact .inl h.bar
 .exact .inr ⟨n,fs,f,h.bar⟩
theorem IB.uniq{qs:List (Int×Int)}{q:Int×Int}{d d':D}(h:IB qs q d)(h':IB qs q d')(hF:∀q∈qs,Fq q)(sf:∀fs,dz qs q fs -> ∀p∈fs,Fq p):d=d':=by
 have no:∀{d:D},lj qs q d -> ¬ jG (cf qs) qs.length->(1<qs.length -> ∀fs,dz qs q fs -> ¬ jG (cf fs) fs.length)->False:=λt a b=>by
  rcases t.bar with z|⟨n,fs,f,z⟩
  .exact a z
  .exact b n fs f z
 rcases h with h|⟨rs,ws,n,rfl,fp,fo,ns,a,b⟩<;>rcases h' with h'|⟨rs',ws',n',rfl,fp',fo',ns',a',b'⟩
 .exact h.uniq h' hF sf
 .exact (no h a' b').elim
 .exact (no h' a b).elim
 .obtain rfl:=Dc fp fp' fo.po fo'.po sf;obtain rfl:n=n':=by have:=fo.lr;have:=fo'.lr;nofun
  rw[Di fo.lr fo.d6 fo.one ns fo.lw fo'.lw fo.pw fo'.pw fo.fw fo'.fw]
theorem IB.sm{qs:List (Int×Int)}{q:Int×Int}{d:D}(h:IB qs q d):d.sm 5=true:=by
 rcases h with ⟨ds,t,rfl,h⟩|⟨rs,ws,n,rfl,fp,fo,_⟩
 .have key:∀{qs:List (Int×Int)},lI qs (.tup ds)->(D.tup (ds++[.int t])).sm 5=true:=λ{qs} h=>by
   obtain⟨W,B,M,_,_,_,⟨_,rs,_,l,_,e⟩|⟨_,rs,i,_,l,li,_,_,_,e⟩⟩:=h
   .injection e with e
    subst e;show (decide (3<=1000) && ((D.str "below").sm 4 && ((D.lst (rs.map fr)).sm 4 && (true && true))))=true;rw[oO ()];rfl
   .injection e with e
    subst e;show (decide (4<=1000) && ((D.str "nought").sm 4 && ((D.lst (rs.map fr)).sm 4 && ((D.lst _).sm 4 && (true && true)))))=true;rw[oO (),oO (by simp;nofun)]
    rfl
  rcases h with ⟨_,h⟩|⟨_,_,_,fs,_,h⟩
  .exact key h
  .exact key h
 .show (decide (2<=1000) && ((D.str "flock").sm 4 && ((decide (2<=1000) && ((D.lst (rs.map fr)).sm 3 && ((D.lst (ws.map fr)).sm 3 && true))) && true)))=true;have:=fo.lr;have:=fo.d6;have:=fo.lw;rw[oO (),oO ()];rfl
def jP(n:Nat)(K:W.Frag):Sp:=λvs H Q _=>∃x y d,vs=[x,y]/\aI (vw K H) d x/\aI (vw K H) d y/\d.sm n=true /\ ∀H',aB (vw K H) (vw K H')->Q (.bl true) H'
theorem Gq{n:Nat}(F:dO K "_law_same" "_law_same" kP f fd) (T:eA K mg)(zCsame:cn P w K mg base "_law_same" ["_law_found", "_law_due"] (n+1) (jP n K)):bU P w K mg base dP (n+2) f fd ["_law_found", "_law_due"] (jP (n+1) K):=by
 have scN:=wH.nd;refine F.okQ wH ?_ ?_;walk_at "q"
 .obtain⟨a,_,_,rfl,_⟩:=h;rfl
 .obtain⟨x,y,d,rfl,hx,hy,hd,h⟩:=h;refine⟨_,(af (bY (dj (ai qK (by rfl) T.b_isinstance aS (aa (qv 1) (aa (aR (aa (cS (v:=V.ty "tuple") rfl T.b_tuple gP rfl) (aa (cS (v:=V.ty "list") rfl T.b_list gI rfl) ac))) ac)))) (af (bY (QW.pt (fG (aH nN (ai bJ (by rfl) T.b_isinstance aS (aa (qv 0) (aa (cS (v:=V.ty "tuple") rfl T.b_tuple gP rfl) ac))) (ai bJ (by rfl) T.b_isinstance aS (aa (qv 1) (aa (cS (v:=V.ty "tuple") rfl T.b_tuple gP rfl) ac))) (aG _)) (fR (aH nN (ai bJ (by rfl) T.b_isinstance aS (aa (qv 0) (aa (cS (v:=V.ty "list") rfl T.b_list gI rfl) ac))) (ai bJ (by rfl) T.b_isinstance aS (aa (qv 1) (aa (cS (v:=V.ty "list") rfl T.b_list gI rfl) ac))) (aG _))))) (ag (av eJ)) aN)
   (af (bY (aH nN (ai aq (by rfl) T.b_len aF (aa (qv 0) ac)) (ai aq (by rfl) T.b_len aF (aa (qv 1) ac)) (aG _)) (ag (av eJ)) aN)
   (ag (av (ai (zO rfl) (by rfl) T.b_all Gn (aa (cO (own:=["_law_one", "_law_other"]) (outs:=[]) (ixs:=[]) rfl (uh rfl T.b_zip (aa (qv 0) (aa (qv 1) ac))) rfl ⟨rfl,rfl,rfl,trivial,rfl,trivial⟩ (λ_ _ _ _=>⟨(show QG _ _ (iZ K 2 _) from aY (n:=2) rfl (au (am (i:=0) (show (["_law_one", "_law_other"]:List Str).Nodup by decide +kernel) rfl (·)) (au (am (i:=1) (show (["_law_one", "_law_other"]:List Str).Nodup by decide +kernel) rfl (·)) aZ))),cV,(ah zCsame nofun rfl (aa (qv 0) (aa (qv 1) ac)))⟩)) ac)))))) aN)
   (ag (av (gq (cT dY (qv 0) (qv 1) (aG _)) (gW (cT dY (ai bJ (by rfl) T.b_isinstance aS (aa (qv 0) (aa (cS (v:=V.ty "bool") rfl T.b_bool oz rfl) ac))) (ai bJ (by rfl) T.b_isinstance aS (aa (qv 1) (aa (cS (v:=V.ty "bool") rfl T.b_bool oz rfl) ac))) (aG _))))))),?_⟩
  walk_at"m";have tx:=aI.ty hx;have ty:=aI.ty hy;walk_at"vc*";refine⟨∅,λp0 H1 hp0 S1 h1=>?_⟩;have hx1:=aI.same S1 _ _ hx;have hy1:=aI.same S1 _ _ hy;have tx1:=aI.ty hx1;have ty1:=aI.ty hy1;refine⟨d.ty,p0,rfl,h1,ty1,?_⟩;have seq:∀(b:Bool)(ds:List D)(p q:Addr)(xs ys:List V),ql K b H1 p xs->ql K b H1 q ys->aJ (vw K H1) ds xs->aJ (vw K H1) ds ys->ds.length<=1000->ds.all (D.sm n)=true ->
    xu K (qx (ve 0) (qx (ve 1) BD)) [some (.ref p),some (.ref q)] H1 λJ H1=>∀(a:Addr)(H2:Hp),vw K H1 a=none->aB (vw K H1) (vw K H2)->vw K H2 a=some (HO.lst []) ->
     mK K J (iZ K 2 (jz (gf 0) (jz (gf 1) uy))) Eg (FA (jP n K) (qx (ve 0) (qx (ve 1) BD))) a [none,none] H2 λH1=>∃bs,vw K H1 a=some (HO.lst (List.map V.bl bs))/\Q (V.bl (bs.all id)) H1:=by
   intro b ds p q xs ys sp sq rx ry hl hs;simp only[xu];symm
   refine⟨b,⟨xs,sp⟩,b,⟨ys,sq⟩,λc H2 hc S2 h2=>?_⟩;have lx:=rx.length;have ly:=ry.length;refine kd (ps:=xs.zip ys) (λi zs H'=>aB (vw K H1) (vw K H')/\zs=List.replicate i (V.bl true)) (λi zs H' _ _ pv=>⟨xs,ys,pv.1 _ _ sp,pv.1 _ _ sq,lC.symm⟩) h2 ⟨S2,rfl⟩ (λi u v zs H3 H4 hi huv h4 pv S4=>?_) (λzs H3 h3 pv=>?_)
   .obtain⟨S3,rfl⟩:=pv;obtain⟨d',hd',r1,r2⟩:=Ia rx ry huv;have S14:=S3.trans S4;symm
    simp only[jP];symm
    refine⟨d',aI.same S14 _ _ r1,aI.same S14 _ _ r2,List.all_eq_true.mp hs d' hd',λH5 S5=>.mk2 (S5 _ _ h4) ?_ λH6 B6 h6=>⟨λa o e=>B6 _ _ (aj e hc) (S5 _ _ (S14 _ _ e)),?_⟩⟩
    .rw[YD];have:1000<=sizeLine:=∅;simp at hi;nofun
    .rw[<-List.replicate_succ',YH]
   .obtain⟨S3,rfl⟩:=pv;refine⟨List.replicate (xs.zip ys).length true,?_,?_⟩
    .rw[List.map_replicate];exact h3
    .have e:(List.replicate (xs.zip ys).length true).all id=true:=by simp
     rw[e];exact h _ (S1.trans S3)
  cases d with
  | tup ds =>
   obtain⟨p,xs,rfl,hp,rx⟩:=hx1.tup_at;obtain⟨q,ys,rfl,hq,ry⟩:=hy1.tup_at;have hsm:(decide (ds.length<=1000) && ds.all (D.sm n))=true:=hd;rw[YF] at hsm;have e:xs.length=ys.length:=by rw[rx.length,ry.length]
   exact iC (by simp[D.ty,dG]) ⟨_,tx1,_,ty1,dA (λz=>z rfl) ⟨_,tx1,_,ty1,dA (λz=>z rfl) ⟨p,rfl,xs.length,by simp only[dJ,hp],q,rfl,ys.length,by simp only[dJ,hq],dA (λz=>z (by rw[e])) (seq false ds p q xs ys hp hq rx ry (XJ hsm.1) hsm.2)⟩⟩⟩
  | lst ds =>
   obtain⟨p,xs,rfl,hp,rx⟩:=hx1.lst_at;obtain⟨q,ys,rfl,hq,ry⟩:=hy1.lst_at;have hsm:(decide (ds.length<=1000) && ds.all (D.sm n))=true:=hd;rw[YF] at hsm;have e:xs.length=ys.length:=by rw[rx.length,ry.length]
   exact iC (by simp[D.ty,dG]) ⟨_,tx1,_,ty1,dA (λz=>z rfl) ⟨_,tx1,_,ty1,dA (λz=>z rfl) ⟨p,rfl,xs.length,by simp only[dJ,hp],q,rfl,ys.length,by simp only[dJ,hq],dA (λz=>z (by rw[e])) (seq true ds p q xs ys hp hq rx ry (XJ hsm.1) hsm.2)⟩⟩⟩
  | dict=>cases hd
  | _ =>
   unfold aI at hx1 hy1;subst hx1 hy1;refine dA (by simp[D.ty,dG]) ⟨rfl,iC rfl ⟨_,tx1,_,ty1,?_⟩⟩
   have:=h H1 S1;simpa using this
theorem kF(F:dO K "_law_same" "_law_same" kP f fd) (T:eA K mg)(hm:mg "_law_same" = some (.ref f)) (hk:keepIn K (.ref f)=true)(hb:pk K fd ["_law_found", "_law_due"] []) :
  ∀n,cn P w K mg base "_law_same" ["_law_found", "_law_due"] (n+1) (jP n K)
 | 0=>⟨f,fd,F.okQ wH (λvs H Q E h=>by obtain⟨_,_,d,_,_,_,z,_⟩:=h;cases d<;>cases z) (λcdv A outer s H vs Q E hr h=>by obtain⟨_,_,d,_,_,_,z,_⟩:=h;cases d<;>cases z),hm,hk,hb⟩
 | n+1=>⟨f,fd,Gq F T (kF F T hm hk hb n),hm,hk,hb⟩
theorem ID.cases{G0 G:Hp}{qs:List (Int×Int)}{q:Int×Int}{v:V}(h:ID G0 qs q G v):∃p,v=.ref p/\((∃(w:Str)(l:Addr)(ys xs:List V),w ≠ "flock" /\ G p=some (.tup (.str w :: .ref l::ys))/\G0 l=none/\G l=some (.lst xs)/\xs.length<=12) \/ ∃(r b w:Addr)(rs:List (Int×Int)),G p=some (.tup [.str "flock",.ref r])/\G r=some (.tup [.ref b,.ref w])/\aK G b rs/\G0 b=none):=by
 rcases h with ⟨d,_,p,l,s0,ys,rfl,rd,⟨ds,t,bl,_,rfl⟩,_,_,_,hp,nl⟩|⟨p,r,b,w,rs,ws,n,rfl,hp,hr,hb,hw,nb,_⟩
 .refine⟨p,rfl,.inl ?_⟩;obtain⟨w0,fs,dr,rfl,wb,pf⟩ : ∃(w0:Str)(fs:List (Int×Int))(dr:List D),ds=.str w0 :: .lst (fs.map fr)::dr/\(w0 = "below" \/ w0 = "nought")/\Pl fs:=by
   obtain⟨w0,fs,wb,pf,z|⟨gs,_,z⟩⟩:=bl
   .injection z with z
    exact⟨w0,fs,_,z,wb,pf⟩
   .injection z with z
    exact⟨w0,fs,_,z,wb,pf⟩
  obtain⟨p',xs,e,hx,rx⟩:=rd.tup_at;cases e;rw[hp] at hx;cases hx;obtain⟨x0,xr,ex,r0,rr⟩:=rx.cons_at;cases ex;obtain⟨x1,xq,ex,r1,rq⟩:=rr.cons_at;cases ex;obtain rfl:=(rY r0).mpr rfl;obtain⟨l',zs,e,hl,rz⟩:=r1.lst_at;cases e;refine⟨w0,l,_,zs,by rcases wb with z|z<;>(rw[z];decide +kernel),hp,nl,hl,?_⟩
  have:=rz.length;rw[YC] at this;have:=pf.2.1;nofun
 .exact⟨p,rfl,.inr ⟨r,b,w,rs,hp,hr,hb,nb⟩⟩
def spLaw(K:W.Frag):Sp:=λvs H Q _=>∃(a:Addr)(ns:List Int),vs=[.ref a]/\kD K H a (ns.map V.int)/\ns.length<=63 /\ ∀H',Q (.bl true) H'
theorem HY(F:dO K "law" "law" ma f fd) (T:eA K mg)
  (zCstate:cn P w K mg base "_law_state" ["_law_script", "_law_k"] 2 (rR K)) (zCfrom_case:cn P w K mg base "_law_from_case" ["_law_state_here"] 6 (jL K)) (C_back_from:cn P w K mg base "back_from" ["sums", "spot"] 7 (jt K)) (zCright:cn P w K mg base "_law_right" ["_law_sums_here", "_law_spot", "_law_found"] 10 (ui K)) (zCsame:cn P w K mg base "_law_same" ["_law_found", "_law_due"] 6 (jP 5 K)):bU P w K mg base dP 11 f fd ["_law_script"] (spLaw K):=by
 have scN:=AQ.nd;refine F.okQ AQ ?_ ?_;walk_at "q"
 .obtain⟨a,_,rfl,_⟩:=h;rfl
 .obtain⟨a,ns,rfl,hS,hl,h⟩:=h;refine⟨_,(DK (cK PassesOwn.never rfl (cz rfl T.b_range (aa (ai (mj rfl) (by rfl) T.b_max wk (aa ae (aa (ai (rE rfl) (by rfl) T.b_min Ch (aa (ai jg (by rfl) T.b_len aF (aa (qv 0) ac)) (aa ae ac))) ac))) ac)) (am (i:=1) scN rfl (·)) (af (aC (i:=2) scN rfl (·) (ah zCstate nofun rfl (aa (qv 0) (aa (qv 1) ac))))
   (ag (cK PassesOwn.never rfl (cz rfl T.b_range (aa ae ac)) (am (i:=3) scN rfl (·)) (af (cQ (ah zCfrom_case nofun rfl (aa (qv 2) ac)) (aY (n:=2) rfl (au (am (i:=4) scN rfl (·)) (au (am (i:=5) scN rfl (·)) aZ))))
   (af (aC (i:=6) scN rfl (·) (iO gU (by rfl) T.b_list gI (aa (qv 4) ac)))
   (af (aC (i:=7) scN rfl (·) (ah C_back_from nofun rfl (aa (qv 6) (aa (qv 5) ac))))
   (af (bY (QW.pt (fG (aH (pD hr.u64) (qv 6) (qv 4) (aG _)) (fR (dI (dj (ah zCright nofun rfl (aa (qv 4) (aa (qv 5) (aa (qv 7) ac))))))))) (ag (av eJ)) aN)
   (af (aC (i:=8) scN rfl (·) (ah C_back_from nofun rfl (aa (qv 6) (aa (qv 5) ac))))
   (af (bY (dI (dj (ah zCsame nofun rfl (aa (qv 8) (aa (qv 7) ac))))) (ag (av eJ)) aN)
   (af (bY (aH dY (aw bI (qv 7) ae (λ_ _=>rfl)) gi (aG _)) (ag (gH (BK XN PySem.F.slot_list_clear PySem.F.type_list_clear zW (aw bI (aw bI (qv 7) ae (λ_ _=>rfl)) ae (λ_ _=>rfl))))) (ag (gH (nr XN XS XT ee (aw bI (qv 7) ae (λ_ _=>rfl)) (aa (aR (aa ae (aa ae ac))) ac)))))
   (ag (bY (QW.pt (fG (aH (pD hr.u64) (qv 6) (qv 4) (aG _)) (fR (dI (dj (ah zCright nofun rfl (aa (qv 4) (aa (qv 5) (aa (ah C_back_from nofun rfl (aa (qv 6) (aa (qv 5) ac))) ac))))))))) (ag (av eJ)) aN)))))))))))))
   (ag (av eJ))),?_⟩
  walk_at"m";skip
  refine Bl.mk (λσ H2=>True) ?_ ?_
  .symm
   refine⟨_,.inl hS.sq,?_⟩;simp only[YC];obtain⟨Pv,hPv⟩ : ∃Pv:Nat->St->Hp->Prop,∀k σ H',Pv k σ H'↔X8 λo1 o2 o3 o4 o5 o6 o7 o8=>σ=[some (.ref a),o1,o2,o3,o4,o5,o6,o7,o8]/\aB (vw K H) (vw K H'):=⟨_,λ_ _ _=>XH⟩;refine⟨by repeat' split<;>nofun,by repeat' split<;>nofun,ce (its:=fj 0 _) Pv (λ_ _ _ _ _=>aV) ((hPv _ _ _).mpr ⟨_,_,_,_,_,_,_,_,rfl,.rfl⟩) (λi x σ H1 hi hx pv=>?_) (λσ H1 pv=>trivial)⟩
   obtain⟨o1,o2,o3,o4,o5,o6,o7,o8,rfl,s1⟩:=(hPv _ _ _).mp pv;obtain⟨hi',rfl⟩:=da hx;refine aM.gen λN1 hN1=>?_;symm
   simp only[rR];symm
   refine⟨⟨i,by simp⟩,⟨ns,hS.same s1⟩,λst H2 hst0 s2 st2=>hN1 _ _ ?_⟩
   symm
   obtain⟨Pw,hPw⟩ : ∃Pw:Nat->St->Hp->Prop,∀j σ H',Pw j σ H'↔X6 λo3 o4 o5 o6 o7 o8=>σ=[some (.ref a),some (.int (0+i)),some (.ref st),o3,o4,o5,o6,o7,o8]/\fV st (vw K H2) (vw K H')/\eC (vw K H') st:=⟨_,λ_ _ _=>XH⟩;refine⟨∅,∅,ce (its:=fj 0 2) Pw (λ_ _ _ _ _=>aV) ((hPw _ _ _).mpr ⟨_,_,_,_,_,_,rfl,λ_ _ _ z=>z,st2⟩) (λj x σ H3 hj hx' pw=>?_) (λσ H3 pw=>?_)⟩
   .obtain⟨o3,o4,o5,o6,o7,o8,rfl,B3,st3⟩:=(hPw _ _ _).mp pw;refine aM.gen λN2 hN2=>?_;symm
    refine⟨st,rfl,st3,λp4 u y H4 qs q B4 st4 h4 l4 ry4 q1 q2 q3 hq=>⟨_,rfl,_,h4,rfl,_,_,rfl,_,_,rfl,rfl,hN2 _ _ ?_⟩⟩;have flt:∀{G G':Hp},aI G (fr q) y->eC G st->fV st G G'->aI G' (fr q) y:=λr hs B=>by
     obtain⟨_,_,e,_⟩:=hs;exact aI.flat_but e B _ _ (bA _) r
    refine aM.gen λN3 hN3=>?_;symm
    obtain⟨ys,hys,rys⟩:=id l4;refine⟨ys,hys,λc5 H5 n5 S5 h5=>hN3 _ _ ?_⟩;have l5:aK (vw K H5) c5 qs:=⟨ys,h5,rys.same S5⟩;have u5:=l4.same S5;have y5:=aI.same S5 _ _ ry4;have fq:∀q∈qs,Fq q:=λq hq=>(q3 q hq).1;have sf:∀fs,dz qs q fs -> ∀p∈fs,Fq p:=λfs hf p hp=>by
     obtain⟨k,hk⟩:=XR hp;exact (hf.2 k p hk).1
    refine aM.gen λN4 hN4=>?_;symm
    refine⟨c5,y,qs,q,rfl,l5,q1,q2,q3,y5,hq,λv6 H6 S6 th6=>hN4 _ _ ?_⟩;refine aM.gen λN5 hN5=>?_;symm
    refine⟨_,(l5.same S6).rep,_,(u5.same S6).rep,gz _,gz _,?_⟩;rw[mf (gz _)];refine dA ∅ ?_;refine⟨u,y,v6,qs,q,_,rfl,u5.same S6,q1,q2,q3,aI.same S6 _ _ y5,hq,th6,λH7 S7=>⟨_,rfl,dA ∅ (hN5 _ _ ?_)⟩⟩;have S57:=S6.trans S7;refine aM.gen λN6 hN6=>?_;symm
    refine⟨c5,y,qs,q,rfl,l5.same S57,q1,q2,q3,aI.same S57 _ _ y5,hq,λv8 H8 S8 th8=>hN6 _ _ ?_⟩;obtain⟨d,rd,td⟩:=th6.tree;obtain⟨d',rd',td'⟩:=th8.tree;obtain rfl:=td.uniq td' fq sf;refine aM.gen λN7 hN7=>?_;symm
    simp only[jP];refine⟨v8,v6,d,rfl,rd',aI.same (S7.trans S8) _ _ rd,td.sm,λH9 S9=>⟨_,rfl,dA ∅ (hN7 _ _ ?_)⟩⟩;have S69:=S7.trans (S8.trans S9);have S59:=S6.trans S69;refine aM.gen λN8 hN8=>?_;have fin:∀(l:Addr)(σ:St)(H10:Hp),σ=[some (.ref a),some (.int (0+i)),some (.ref st),some x,some (.ref u),some y,some (.ref c5),some v6,some v8]->vw K H5 l=none->fV l (vw K H9) (vw K H10)->N8 σ H10:=by
     rintro l σ H10 rfl nl B10;have S10:aB (vw K H5) (vw K H10):=λb o e=>B10 _ _ (aj e nl) (S59 _ _ e);refine hN8 _ _ ?_;symm
     refine⟨_,(l5.same S10).rep,_,(u5.same S10).rep,gz _,gz _,?_⟩;rw[mf (gz _)];refine dA ∅ ?_;refine⟨c5,y,qs,q,rfl,l5.same S10,q1,q2,q3,aI.same S10 _ _ y5,hq,λv11 H11 S11 th11=>?_⟩;have S1:=S10.trans S11;exact⟨u,y,v11,qs,q,_,rfl,u5.same S1,q1,q2,q3,aI.same S1 _ _ y5,hq,th11,λH12 S12=>⟨_,rfl,dA ∅ ((hPw _ _ _).mpr ⟨_,_,_,_,_,_,rfl,((B3.trans B4).same_trans S5).same_trans (S1.trans S12),(st4.same S5).same (S1.trans S12)⟩)⟩⟩
    symm
    obtain⟨p,rfl,ca⟩:=th6.cases;rcases ca with ⟨w0,l,zs,xs,nw,hp,nl,hl,lx⟩|⟨r,b,w',rs,hp,hr2,hb,nb⟩
    .refine⟨p,rfl,_,S69 _ _ hp,_,cW,rfl,dA (λz=>nw (by injection z)) ⟨p,rfl,_,S69 _ _ hp,_,dU,iJ (S69 _ _ hl),∅,λa10 H10 n10 S10 h10=>⟨l,rfl,xs,S10 _ _ (S69 _ _ hl),?_,λH11 B11 h11=>fin l _ H11 rfl nl λb o hb e=>B11 b o hb (S10 b o e)⟩⟩⟩
     have:1000<=sizeLine:=∅;nofun
    .obtain⟨xs,hxs,_⟩:=hb;exact⟨p,rfl,_,S69 _ _ hp,_,cW,rfl,iC rfl ⟨p,rfl,_,S69 _ _ hp,_,dU,r,rfl,_,S69 _ _ hr2,_,cW,iJ (S69 _ _ hxs),b,rfl,rfl,xs,S69 _ _ hxs,λH11 B11 h11=>fin b _ H11 rfl nb B11⟩⟩
   .obtain⟨o3,o4,o5,o6,o7,o8,rfl,B3,st3⟩:=(hPw _ _ _).mp pw;exact (hPv _ _ _).mpr ⟨_,_,_,_,_,_,_,_,rfl,s1.trans λb o e=>B3 _ _ (aj e hst0) (s2 _ _ e)⟩
  .symm
   intro σ H2 _;exact h H2
end
local macro_rules | `(tactic| walk_at "bd")=>`(tactic| (intro _ _ _ _ _ _ us hl; first | exact HG (g:=fun us=>bindArgs _ ⟨us,[]⟩) (z:=fun us=>pure (List.zip _ us)) us hl fun _=>rfl | exact BP (g:=fun us=>bindArgs _ ⟨us,[]⟩) (z:=fun us=>pure (List.zip _ us)) us hl fun _ _=>rfl | exact Hw (g:=fun us=>bindArgs _ ⟨us,[]⟩) (z:=fun us=>pure (List.zip _ us)) us hl fun _ _ _=>rfl))
theorem all_mk{l:PySem.W.OpenLaw}{w:World}{K:W.Frag}{h:Heap}{mg:Str->Option Value}{fa f64 f66:Addr}(X:K.In h)(G:h.Ns mainGlobals mg)(hfa:mg "law" = some (.ref fa)) (hst:l.prog.given.tree=none)
  {od64 an64 od66 an66:Option Addr}{sl64 sl66:Array (Option Value)}
  {oc64 kV64 dc64 pm64 cd64 ct64 oc66 kV66 dc66 pm66 cd66 ct66:Value}
  (h0:Hf K "greatest_divisor" fe)
  (h1:Hf K "power" ur)
  (h2:Hf K "trimmed" mC)
  (h3:Hf K "wholes_multiplied" eF)
  (h4:Hf K "wholes_parted" gp)
  (h5:Hf K "wholes_rests" gX)
  (h6:Hf K "ratio" tN)
  (h7:Hf K "times" ue)
  (h8:Hf K "cleared" nh)
  (h9:Hf K "divided" mS)
  (h10:Hf K "multiplied" i0)
  (h11:Hf K "slope" se)
  (h12:Hf K "product_rest" gQ)
  (h13:Hf K "inverse" mV)
  (h14:Hf K "worth" rW)
  (h15:Hf K "less_spot" jJ)
  (h16:Hf K "weights_by" i6)
  (h17:Hf K "met" Bf)
  (h18:Hf K "next_row" kL)
  (h19:Hf K "step_rows" jO)
  (h20:Hf K "steps" sy)
  (h21:Hf K "furthest_step" gn)
  (h22:Hf K "nought_bar" je)
  (h23:Hf K "outlook" mE)
  (h24:Hf K "is_bar" oV)
  (h25:Hf K "flock_with" i7)
  (h26:Hf K "wholes_from" iI)
  (h27:Hf K "sums_from" jZ)
  (h28:Hf K "back_from" jK)
  (h29:Hf K "_law_whole" rQ)
  (h30:Hf K "_law_divisor" mq)
  (h31:Hf K "_law_is_fraction" iH)
  (h32:Hf K "_law_is_polynomial" gr)
  (h33:Hf K "_law_low" Bj)
  (h34:Hf K "_law_over" wY)
  (h35:Hf K "_law_plus" wF)
  (h36:Hf K "_law_times" ua)
  (h37:Hf K "_law_worth" tX)
  (h38:Hf K "_law_clean" tZ)
  (h39:Hf K "_law_multiplied" jq)
  (h40:Hf K "_law_square" qo)
  (h41:Hf K "_law_summed" oY)
  (h42:Hf K "_law_along" sO)
  (h43:Hf K "_law_x" Kv)
  (h44:Hf K "_law_steps" sL)
  (h45:Hf K "_law_minus" tV)
  (h46:Hf K "_law_falling" mB)
  (h47:Hf K "_law_slope" tI)
  (h48:Hf K "_law_flock_sums" jo)
  (h49:Hf K "_law_is_flock" kI)
  (h50:Hf K "_law_has" Da)
  (h51:Hf K "_law_from" vU)
  (h52:Hf K "_law_none_below" ji)
  (h53:Hf K "_law_is_bar" qh)
  (h54:Hf K "_law_cell_at" mN)
  (h55:Hf K "_law_state" sk)
  (h56:Hf K "_law_take" xA)
  (h57:Hf K "_law_small" rT)
  (h58:Hf K "_law_crowd_sums" i8)
  (h59:Hf K "_law_above" sn)
  (h60:Hf K "_law_crowd" su)
  (h61:Hf K "_law_sums" wp)
  (h62:Hf K "_law_spot_crowd" jv)
  (h63:Hf K "_law_from_case" jY)
  (a64:nsIn K mainGlobals "_law_same" = some (some (.ref f64))) (l64:K.lookup f64=some ⟨oc64,od64,.func (fnOf "_law_same" "_law_same" (gy kP) (fI kP) (ap kP) .none kV64 dc64 pm64 an64 cd64 ct64),sl64⟩) (c64:codeIn K cd64 "_law_same" = true) (k64:keepIn K (.ref f64)=true)
  (h65:Hf K "_law_right" tM)
  (a66:nsIn K mainGlobals "law" = some (some (.ref f66))) (l66:K.lookup f66=some ⟨oc66,od66,.func (fnOf "law" "law" (gy ma) (fI ma) (ap ma) .none kV66 dc66 pm66 an66 cd66 ct66),sl66⟩) (c66:codeIn K cd66 "law" = true) (k66:keepIn K (.ref f66)=true)
  {ga0 ga1:Addr}{go0 go1:Obj}
  (u0:nsIn K mainGlobals "ZERO" = some (some (.ref ga0))) (v0:K.lookup ga0=some go0)(w0:vX go0=some (.tup [V.int (0),V.int (1)]))
  (u1:nsIn K mainGlobals "ONE" = some (some (.ref ga1))) (v1:K.lookup ga1=some go1)(w1:vX go1=some (.tup [V.int (1),V.int (1)]))
  (z0:nsIn K mainGlobals "abs" = some none)
  (z1:nsIn K mainGlobals "range" = some none)
  (z2:nsIn K mainGlobals "len" = some none)
  (z3:nsIn K mainGlobals "enumerate" = some none)
  (z4:nsIn K mainGlobals "max" = some none)
  (z5:nsIn K mainGlobals "list" = some none)
  (z6:nsIn K mainGlobals "sum" = some none)
  (z7:nsIn K mainGlobals "zip" = some none)
  (z8:nsIn K mainGlobals "isinstance" = some none)
  (z9:nsIn K mainGlobals "bool" = some none)
  (z10:nsIn K mainGlobals "int" = some none)
  (z11:nsIn K mainGlobals "tuple" = some none)
  (z12:nsIn K mainGlobals "min" = some none)
  (z13:nsIn K mainGlobals "str" = some none)
  (z14:nsIn K mainGlobals "all" = some none)
  : ∃fd:FuncData,(∀(s:Shared)(v:Value),BindsTo s fd ⟨[v],[]⟩ [("_law_script",v)]) /\ ∀base:Heap,K.In base->base.Ns mainGlobals mg->wE mg base->base.NoSeer->bU l.prog w K mg base dP 11 fa fd ["_law_script"] (spLaw K):=by
 have e:=hfa.symm.trans (PySem.W.mg_of X G a66);cases e;have T:eA K mg:=⟨trivial,GT.mk (PySem.W.mg_of X G u0) v0 w0,GT.mk (PySem.W.mg_of X G u1) v1 w1,XV X G z0,XV X G z1,XV X G z2,XV X G z3,XV X G z4,XV X G z5,XV X G z6,XV X G z7,XV X G z8,XV X G z9,XV X G z10,XV X G z11,XV X G z12,XV X G z13,XV X G z14⟩;refine⟨fnOf "law" "law" (gy ma) (fI ma) (ap ma) .none kV66 dc66 pm66 an66 cd66 ct66,λs v=>.of_eq rfl,λbase kb nb hB hSe=>?_⟩;have N_:pB l.prog base:=⟨hSe,hst⟩;have E_:Gw l.prog w K mg base:=⟨h,X,G⟩;have C_greatest_divisor:=h0.cal E_ λF=>kw F T;have C_power:=h1.cal E_ λF=>CQ F T;have C_trimmed:=h2.cal E_ λF=>xB F T;have C_wholes_multiplied:=h3.cal E_ λF=>jQ F T;have C_wholes_parted:=h4.cal E_ λF=>m9 F T N_ C_trimmed;have C_wholes_rests:=h5.cal E_ λF=>nW F T N_ C_power C_wholes_parted;have C_ratio:=h6.cal E_ λF=>Bu F T N_ C_greatest_divisor;have C_times:=h7.cal E_ λF=>AZ F T C_ratio;have C_cleared:=h8.cal E_ λF=>wO F T N_ C_greatest_divisor;have C_divided:=h9.cal E_ λF=>wz F T C_trimmed C_ratio;have C_multiplied:=h10.cal E_ λF=>qL F T C_cleared C_divided C_wholes_multiplied;have C_slope:=h11.cal E_ λF=>Dh F T C_times;have C_product_rest:=h12.cal E_ λF=>oi F T C_cleared C_wholes_multiplied C_wholes_parted C_divided;have C_inverse:=h13.cal E_ λF=>vO F T N_ C_cleared C_wholes_rests C_wholes_multiplied C_divided;have C_worth:=h14.cal E_ λF=>BL F T C_cleared C_ratio;have C_less_spot:=h15.cal E_ λF=>sU F T;have C_weights_by:=h16.cal E_ λF=>qC F T C_product_rest C_inverse C_slope;have C_met:=h17.cal E_ λF=>GQ F T;have C_next_row:=h18.cal E_ λF=>uA F T C_met;have C_step_rows:=h19.cal E_ λF=>tG F T C_met C_next_row;have C_steps:=h20.cal E_ λF=>BM F T C_cleared C_step_rows C_divided C_ratio C_met;have C_furthest_step:=h21.cal E_ λF=>mF F T C_cleared C_step_rows C_divided;have C_nought_bar:=h22.cal E_ λF=>qH F T C_worth;have C_outlook:=h23.cal E_ λF=>xw F T C_steps C_nought_bar C_furthest_step;have C_is_bar:=h24.cal E_ λF=>zI F T;have C_flock_with:=h25.cal E_ λF=>qJ F T C_trimmed C_worth C_weights_by;have C_wholes_from:=h26.cal E_ λF=>qf F T;have C_sums_from:=h27.cal E_ λF=>sI F T C_wholes_from C_ratio C_cleared;have C_back_from:=h28.cal E_ λF=>sX F T C_outlook C_is_bar C_sums_from C_multiplied C_less_spot C_flock_with;have zCwhole:=h29.cal E_ λF=>DJ F T;have zCdivisor:=h30.cal E_ λF=>zF F T;have zCis_fraction:=h31.cal E_ λF=>qG F T zCdivisor zCwhole;have zCis_polynomial:=h32.cal E_ λF=>nX F T zCis_fraction;have zClow:=h33.cal E_ λF=>I0 F T N_ zCdivisor;have zCover:=h34.cal E_ λF=>HU F T zClow;have zCplus:=h35.cal E_ λF=>GB F T zClow;have zCtimes:=h36.cal E_ λF=>EG F T zClow;have zCworth:=h37.cal E_ λF=>DE F T zCplus zCtimes;have zCclean:=h38.cal E_ λF=>EL F T;have zCmultiplied:=h39.cal E_ λF=>sT F T zCclean zCplus zCtimes;have zCsquare:=h40.cal E_ λF=>Ci F T zCworth zCmultiplied;have zCsummed:=h41.cal E_ λF=>AD F T zCclean zCplus zCtimes;have zCalong:=h42.cal E_ λF=>E4 F T zCover zCsquare zCsummed;have zCx:=h43.cal E_ λF=>Lg F T;have zCsteps:=h44.cal E_ λF=>Fy F T zCalong zCx zCsquare;have zCminus:=h45.cal E_ λF=>DL F T zClow;have zCfalling:=h46.cal E_ λF=>zo F T zCminus zCtimes;have zCslope:=h47.cal E_ λF=>EA F T zCclean zCtimes;have zCflock_sums:=h48.cal E_ λF=>uk F T zCfalling zCslope zCworth;have zCis_flock:=h49.cal E_ λF=>xh F T zCis_polynomial zCsteps zCflock_sums;have zChas:=h50.cal E_ λF=>Jm F T zCis_flock zCflock_sums;have zCfrom:=h51.cal E_ λF=>G7 F T zCminus zCtimes;have zCnone_below:=h52.cal E_ λF=>uf F T zCsteps zCfrom zCflock_sums;have zCis_bar:=h53.cal E_ λF=>AC F T zCis_polynomial zCmultiplied zCsquare;have zCcell_at:=h54.cal E_ λF=>Ap F T;have zCstate:=h55.cal E_ λF=>DB F T zCcell_at;have zCtake:=h56.cal E_ λF=>Hq F T;have zCsmall:=h57.cal E_ λF=>DD F T zClow zCtake;have zCcrowd_sums:=h58.cal E_ λF=>tY F T zCplus zCtimes;have zCabove:=h59.cal E_ λF=>Em F T zClow zCtake;have zCcrowd:=h60.cal E_ λF=>E7 F T zCsmall zCabove zCtake zCplus;have zCsums:=h61.cal E_ λF=>Hh F T zCtake zCsmall zCcrowd zCcrowd_sums zCplus;have zCspot_crowd:=h62.cal E_ λF=>tS F T zCsmall zCabove zCcrowd
 have zCfrom_case:=h63.cal E_ λF=>vx F T zCtake zCsmall zCabove zCminus zCspot_crowd zCsums zCcrowd_sums zCplus;have zFsame:=wN (st:=kP) l64 c64 k64;have zCsame:cn l.prog w K mg base "_law_same" ["_law_found", "_law_due"] 6 (jP 5 K):=kF zFsame T (PySem.W.mg_of X G a64) k64 (zFsame.binds λ_ _ _ _ _ _ us hl=>BP (g:=λus=>bindArgs _ ⟨us,[]⟩) (z:=λus=>pure (List.zip _ us)) us hl λ_ _=>rfl) 5;have zCright:=h65.cal E_ λF=>EC F T zChas zCnone_below zCis_bar zCfrom;have F_0:=wN (st:=ma) l66 c66 k66;exact HY F_0 T zCstate zCfrom_case C_back_from zCright zCsame
theorem walk{l:PySem.W.OpenLaw}{q:Program}{loose:List Str}{XP:(Str->Option Value)->Heap->Prop}{YP:World->Heap->Prop}{d:DefRec}{K:Params->W.Frag}(hn:l.most=some 63)(hdf:d.params.defaults=[])(hi:PyProof.Rows.importsNone q=true)
  (hY:∀(w:World)(h:Heap),YP w h->(K w.params).In h /\ ∀q∈([]:List (Addr×Addr)),PySem.W.codeHdIn (K w.params) q.1 q.2=true/\(K w.params).lookup q.2=none/\h.get? q.2=some (PySem.W.tabObj #[]))
  (F:∀(w:World)(mg:Str->Option Value)(fa:Addr)(h:Heap),(K w.params).In h->h.Ns mainGlobals mg->mg d.name=some (.ref fa) ->
   ∃fd:FuncData,(∀(s:Shared)(u:Value),BindsTo s fd ⟨[u],[]⟩ [("_law_script",u)]) /\ ∀base:Heap,(K w.params).In base->base.Ns mainGlobals mg->wE mg base->base.NoSeer->bU l.prog w (K w.params) mg base dP 11 fa fd ["_law_script"] (spLaw (K w.params))) :
  PySem.W.WalkO q loose XP YP l.row.toRowW d [] (λf vs=>PySem.call f vs) :=
 L2.walk_ofM (ts:=λ_=>[]) (n:=63) (k:=11) (x:="_law_script") (CX:=λ_=>dP) (sp:=λw=>spLaw (K w.params)) hn ∅ hdf ⟨rfl,∅,∅⟩ hi hY F (λ_ _ a ns hl hT hK hS=>⟨a,ns,rfl,.of hS hK,hl,λ_=>rfl⟩) λ_ _ _ _ _ z=>z
end M
open PySem PySem.W PyProof.Rows
theorem Zz:True:=trivial
namespace PySem.W.Fast
theorem tw5697217132958184773:True:=Zz
theorem tw8013335797677816727:True:=Zz
theorem tw13352214789921701530:True:=Zz
theorem tw7854739568190330699:True:=Zz
theorem tw16006738188363982610:True:=Zz
theorem tw2620669498757334206:True:=Zz
theorem tw4635450375605419981:True:=Zz
theorem tw6874983545386170019:True:=Zz
theorem tw7659013959871633057:True:=Zz
theorem tw13567550626237808788:True:=Zz
theorem tw2877139101109098280:True:=Zz
theorem tw2827821483387471565:True:=Zz
theorem tw7141506668713148429:True:=Zz
theorem tw6070575847952099840:True:=Zz
theorem tw8165168049765420716:True:=Zz
theorem tw11015322459178877993:True:=Zz
theorem tw13529002514127864219:True:=Zz
theorem tw17166347320070513938:True:=Zz
theorem tw646654305575736877:True:=Zz
theorem tw182956897672998340:True:=Zz
theorem tw16205221285749239948:True:=Zz
theorem tw121792353256978821:True:=Zz
theorem tw13496994592576045931:True:=Zz
theorem tw5148568052296420121:True:=Zz
theorem tw4589652979372192565:True:=Zz
theorem tw7764597352916256170:True:=Zz
theorem tw16789542246284744528:True:=Zz
theorem tw6770393262608749333:True:=Zz
theorem tw8153150648657698500:True:=Zz
theorem tw6036144586975337116:True:=Zz
theorem tw18402874668773635338:True:=Zz
theorem tw6948498589870874394:True:=Zz
theorem tw13008140242123903820:True:=Zz
theorem tw9454009422084143077:True:=Zz
theorem tw11059040291112974072:True:=Zz
theorem tw1843021645861416661:True:=Zz
theorem tw17558521517313430589:True:=Zz
theorem tw7925582975071232222:True:=Zz
theorem tw6876680279720183916:True:=Zz
theorem tw17100509555559882947:True:=Zz
theorem tw7508457195719092663:True:=Zz
theorem tw14110248632572870678:True:=Zz
theorem tw2636797658577906302:True:=Zz
theorem tw9100509387645148278:True:=Zz
theorem tw17010024717768714525:True:=Zz
theorem tw16950699839463959117:True:=Zz
theorem tw1719051816009626104:True:=Zz
theorem tw1831913707806501715:True:=Zz
theorem tw15519403243047880330:True:=Zz
theorem tw11946310100719479194:True:=Zz
theorem tw16489756665132435130:True:=Zz
theorem tw17913176731750192758:True:=Zz
theorem tw18347237475198245536:True:=Zz
theorem tw15899249504936201858:True:=Zz
theorem tw2028199605966732612:True:=Zz
theorem tw6255265923553446934:True:=Zz
theorem tw6582228761668922259:True:=Zz
theorem tw1111285022286412839:True:=Zz
theorem tw18401471477151044162:True:=Zz
theorem tw7839050315697334362:True:=Zz
theorem tw3724367877846775805:True:=Zz
theorem tw2876832064720178044:True:=Zz
theorem tw5539965429887204618:True:=Zz
theorem tw13499969956363872170:True:=Zz
theorem tw16764803202178232765:True:=Zz
theorem tw7898535258356031970:True:=Zz
theorem tw6242792954829843925:True:=Zz
theorem tw1612979137191163240:True:=Zz
theorem tw12612037067020177806:True:=Zz
theorem tw4167236744319612261:True:=Zz
theorem tw12591568966327848630:True:=Zz
theorem tw7213389873377869077:True:=Zz
theorem tw2676559933746530658:True:=Zz
theorem tw14915985818583998505:True:=Zz
theorem tw1663533816038713341:True:=Zz
theorem tw2800520344140877623:True:=Zz
theorem tw7340809556724918428:True:=Zz
theorem tw7579803266094373408:True:=Zz
theorem tw8485158526355262327:True:=Zz
theorem tw4589777390977013724:True:=Zz
theorem tw10489494020482006300:True:=Zz
theorem tw631004727126613977:True:=Zz
theorem tw5755356913305608634:True:=Zz
theorem tw13008086523892907180:True:=Zz
theorem tw17701255261641913242:True:=Zz
theorem tw1515858091031757525:True:=Zz
theorem tw10862256282021235283:True:=Zz
theorem tw3135946733552608462:True:=Zz
theorem tw15518268263778790683:True:=Zz
theorem tw11678638347875519539:True:=Zz
theorem tw11220648287047580285:True:=Zz
theorem tw1528949838275837151:True:=Zz
theorem tw5177054984799662504:True:=Zz
theorem tw5667376748121042975:True:=Zz
theorem tw10210806231758011781:True:=Zz
theorem tw5527105770506018781:True:=Zz
theorem tw14263344728410914113:True:=Zz
theorem tw10254494902143576850:True:=Zz
theorem tw14122406523782173089:True:=Zz
theorem tw8359160672892088598:True:=Zz
theorem tw10273283240348791319:True:=Zz
theorem tw4613288572723136433:True:=Zz
theorem tw14228609500080077306:True:=Zz
theorem tw17062024084575305209:True:=Zz
theorem tw1984754840322978441:True:=Zz
theorem tw4500616633749624049:True:=Zz
theorem tw14716527823767169659:True:=Zz
theorem tw15984076337118666306:True:=Zz
theorem tw3141686374647394375:True:=Zz
theorem tw3733006273663671765:True:=Zz
theorem tw18335397464530557488:True:=Zz
theorem tw1091528851691624277:True:=Zz
theorem tw18325783520409252202:True:=Zz
theorem tw8276411991530202140:True:=Zz
theorem tw13505842684336117152:True:=Zz
theorem tw13407036916954552507:True:=Zz
theorem tw13000422859112770484:True:=Zz
theorem tw3505119642855598871:True:=Zz
theorem tw16290370986673907294:True:=Zz
theorem tw3540271135498207180:True:=Zz
theorem tw5970963506933127707:True:=Zz
theorem tw5132462433692214415:True:=Zz
theorem tw10347869443355735035:True:=Zz
theorem tw15694327301027040552:True:=Zz
theorem tw12391864314048270582:True:=Zz
theorem tw4963112717987585014:True:=Zz
theorem tw7328416705738126417:True:=Zz
theorem tw7688398019919537463:True:=Zz
theorem tw4184955422844009787:True:=Zz
theorem tw4569381568230812885:True:=Zz
theorem tw18120558471056158163:True:=Zz
theorem tw6226920006241118242:True:=Zz
theorem tw12739596330119645019:True:=Zz
theorem tw3840240992578498390:True:=Zz
theorem tw9789459460016539976:True:=Zz
theorem tw4020236730712996545:True:=Zz
theorem tw358715255376861899:True:=Zz
theorem tw14083038626435399631:True:=Zz
theorem tw11558148107338435268:True:=Zz
theorem tw16264266198057183688:True:=Zz
theorem tw18388727574763686386:True:=Zz
theorem tw6326670650424926450:True:=Zz
theorem tw6548208433220434699:True:=Zz
theorem tw7428476758479323636:True:=Zz
theorem tw538171471059920767:True:=Zz
theorem tw1058681574271000412:True:=Zz
theorem tw11083509860708621020:True:=Zz
theorem tw16062348612491562936:True:=Zz
theorem tw9111978789698742658:True:=Zz
theorem tw5039122133125281754:True:=Zz
theorem tw5308294188567550388:True:=Zz
theorem tw8506528942771954712:True:=Zz
theorem tw13545101794488684028:True:=Zz
theorem tw6316187337284231679:True:=Zz
theorem tw10542814922671715632:True:=Zz
theorem tw13602734399900205345:True:=Zz
theorem tw16207779939203460220:True:=Zz
theorem tw12531795467732907559:True:=Zz
theorem tw12153479500632229992:True:=Zz
theorem tw6794100582197865207:True:=Zz
theorem tw9778330238447671717:True:=Zz
theorem tw9093044718281163794:True:=Zz
theorem tw3454719468505531188:True:=Zz
theorem tw12820659781185708954:True:=Zz
theorem tw15186321421926356331:True:=Zz
theorem tw17921528036734249609:True:=Zz
theorem tw6287954951000389423:True:=Zz
theorem tw5153265866607487083:True:=Zz
theorem tw18413234495321896527:True:=Zz
theorem tw14225580619658057155:True:=Zz
theorem tw2654590629119896988:True:=Zz
theorem tw2351868767294599504:True:=Zz
theorem tw13930774419139848516:True:=Zz
theorem tw13309063369597007801:True:=Zz
theorem tw11906355288141218334:True:=Zz
theorem tw8831015271395618822:True:=Zz
theorem tw8784652790911314098:True:=Zz
theorem tw17348380266468622572:True:=Zz
theorem tw2286012266119216259:True:=Zz
theorem tw6047847623078335431:True:=Zz
theorem tw7542290855460062859:True:=Zz
theorem tw4142328058322340227:True:=Zz
theorem tw14656350678674094066:True:=Zz
theorem tw365090780128208726:True:=Zz
theorem tw10135383847874340636:True:=Zz
theorem tw17340026410726411055:True:=Zz
theorem tw6017091262278956568:True:=Zz
theorem tw16267454894164118171:True:=Zz
theorem tw14991759989162392254:True:=Zz
theorem tw4484110938130566679:True:=Zz
theorem tw15241531208437926435:True:=Zz
theorem tw6989717072072420711:True:=Zz
theorem tw3829497726227007107:True:=Zz
theorem tw15024142606366398653:True:=Zz
theorem tw14692910410277787820:True:=Zz
theorem tw17240334376759887680:True:=Zz
theorem tw4533242282470257803:True:=Zz
theorem tw15523016049285096259:True:=Zz
theorem tw2141560577321306937:True:=Zz
theorem tw7590553268101991946:True:=Zz
theorem tw2332245030836210643:True:=Zz
theorem tw12998994467981951280:True:=Zz
theorem tw12129926174006810751:True:=Zz
theorem tw8068101459797149176:True:=Zz
theorem tw7229299560119915696:True:=Zz
theorem tw833007895215644081:True:=Zz
theorem tw7410589104617149170:True:=Zz
theorem tw16677220492926960980:True:=Zz
theorem tw7042539976236223740:True:=Zz
theorem tw9623749215755692115:True:=Zz
theorem tw12077772514863112615:True:=Zz
theorem tw9666072634737199776:True:=Zz
theorem tw283307428350788738:True:=Zz
theorem tw16679224079584872134:True:=Zz
theorem tw15671055666133182898:True:=Zz
theorem tw11213176715293258032:True:=Zz
theorem tw7449446076056272711:True:=Zz
theorem tw12456573479422892035:True:=Zz
theorem tw4994285880918359947:True:=Zz
theorem tw11520172086079045356:True:=Zz
theorem tw12506276346418817198:True:=Zz
theorem tw8481785704200988001:True:=Zz
theorem tw13512740073705787519:True:=Zz
theorem tw14943280738252393317:True:=Zz
theorem tw11073359358624732555:True:=Zz
theorem tw12783177249070809750:True:=Zz
theorem tw6913785693046752020:True:=Zz
theorem tw10860580433520631079:True:=Zz
theorem tw11315188081213912567:True:=Zz
theorem tw2953682619904392832:True:=Zz
theorem tw3397792489815151364:True:=Zz
theorem tw16758040093942595130:True:=Zz
theorem tw2339320992536522480:True:=Zz
theorem tw7663069237277041537:True:=Zz
theorem tw12730187143026571707:True:=Zz
theorem tw9124637199332668404:True:=Zz
theorem tw15890838851025737885:True:=Zz
theorem tw16856901429453285730:True:=Zz
theorem tw16034113319173316334:True:=Zz
theorem tw18091840502255767531:True:=Zz
theorem tw890516543113075659:True:=Zz
theorem tw733449390998093957:True:=Zz
theorem tw7024419921041368007:True:=Zz
theorem tw7964101478674729104:True:=Zz
theorem tw10842419841221892404:True:=Zz
theorem tw2328168721427337663:True:=Zz
theorem tw1285305522786111746:True:=Zz
theorem tw3349428368001994713:True:=Zz
theorem tw7721159422905265457:True:=Zz
theorem tw210928593263811683:True:=Zz
theorem tw11218634789481956325:True:=Zz
theorem tw8571481964560271304:True:=Zz
theorem tw1139602238140833871:True:=Zz
theorem tw6065005768811894957:True:=Zz
theorem tw2400606454061707456:True:=Zz
theorem tw7042705105246649311:True:=Zz
theorem tw2944457484206808750:True:=Zz
theorem tw1832905683781159968:True:=Zz
theorem tw9539393692347636064:True:=Zz
theorem tw10444112867492334288:True:=Zz
theorem tw3355349814290494656:True:=Zz
theorem tw16830556679499459204:True:=Zz
theorem tw12848834223752534060:True:=Zz
theorem tw12813596709869456859:True:=Zz
theorem tw15558089931448720791:True:=Zz
theorem tw15257804333629198570:True:=Zz
theorem tw4044666577436811300:True:=Zz
theorem tw15152437381017181038:True:=Zz
theorem tw17024103033329400219:True:=Zz
theorem tw10138444939490787700:True:=Zz
theorem tw564852870881121026:True:=Zz
theorem tw7984328600843544499:True:=Zz
theorem tw2330100287244408610:True:=Zz
theorem tw18150866051393041331:True:=Zz
theorem tw12805035513423750119:True:=Zz
theorem tw4024268707973324137:True:=Zz
theorem tw13374579874836639874:True:=Zz
theorem tw4955586010473406047:True:=Zz
theorem tw10723911008036605660:True:=Zz
theorem tw6932814885116964193:True:=Zz
theorem tw14297215589148553878:True:=Zz
theorem tw17516359605813151313:True:=Zz
theorem tw819967289062486139:True:=Zz
theorem tw11722732527079575460:True:=Zz
theorem tw8841763565634390023:True:=Zz
theorem tw12037041081968744778:True:=Zz
theorem tw11030473807067044229:True:=Zz
theorem tw18228104921234911682:True:=Zz
theorem tw8056374707182943734:True:=Zz
theorem tw4879528163249252311:True:=Zz
theorem tw4387437427958157352:True:=Zz
theorem tw4393844613100493358:True:=Zz
theorem tw10633634140085573860:True:=Zz
theorem tw18426139625534915041:True:=Zz
theorem tw8398427481929155155:True:=Zz
theorem tw11748047764683599409:True:=Zz
theorem tw3117467245313853847:True:=Zz
theorem tw10680483576576349973:True:=Zz
theorem tw13421940579535017741:True:=Zz
theorem tw14666738315088376028:True:=Zz
theorem tw870446981698133400:True:=Zz
theorem tw15047906939440648393:True:=Zz
theorem tw6028870103480346753:True:=Zz
theorem tw6206485685156048145:True:=Zz
theorem tw15242072324041302834:True:=Zz
theorem tw16848106091266769049:True:=Zz
theorem tw16711773684434666617:True:=Zz
theorem tw2175144804206361181:True:=Zz
theorem tw986764674593639435:True:=Zz
theorem tw12282198385896759319:True:=Zz
theorem tw2729684272496334415:True:=Zz
theorem tw2676008453623809523:True:=Zz
theorem tw16073913491690221731:True:=Zz
theorem tw13405159733006299020:True:=Zz
theorem tw5888377200953134987:True:=Zz
theorem tw18431299648442893285:True:=Zz
theorem tw11766057265950275169:True:=Zz
theorem tw1437122649795674641:True:=Zz
theorem tw14636548143178060147:True:=Zz
theorem tw16334554497655437107:True:=Zz
theorem tw14859204100682471545:True:=Zz
theorem tw13199111423724220609:True:=Zz
theorem tw3323961866572937002:True:=Zz
theorem tw12628874388687818965:True:=Zz
theorem tw13644824977675142687:True:=Zz
theorem tw15931704854143449702:True:=Zz
theorem tw8250871592674553607:True:=Zz
theorem tw7345131317023580706:True:=Zz
theorem tw2790962543244729449:True:=Zz
theorem tw14064335777914530486:True:=Zz
theorem tw4535274700140718082:True:=Zz
theorem tw17350655377288157673:True:=Zz
theorem tw13871647843703157730:True:=Zz
theorem tw15639508750249989022:True:=Zz
theorem tw5708959372995945748:True:=Zz
theorem tw17932566690866605335:True:=Zz
theorem tw670611434781604865:True:=Zz
theorem tw7165001828412027458:True:=Zz
theorem tw528013842647082719:True:=Zz
theorem tw16158640655510291956:True:=Zz
theorem tw2504833517113722407:True:=Zz
theorem tw320682786927273427:True:=Zz
theorem tw2479348617546022762:True:=Zz
theorem tw17610919852911451562:True:=Zz
theorem tw15010146141721434838:True:=Zz
theorem tw13014960875849694399:True:=Zz
theorem tw1203420244106401416:True:=Zz
theorem tw4556754120379658327:True:=Zz
theorem tw5326824923620441122:True:=Zz
theorem tw6113346544613165026:True:=Zz
theorem tw14615289021880849883:True:=Zz
theorem tw14917157846965580716:True:=Zz
theorem tw2582672839504832227:True:=Zz
theorem tw16407872693758217314:True:=Zz
theorem tw7486098554909253642:True:=Zz
theorem tw2389510799274151162:True:=Zz
theorem tw15963969093972151558:True:=Zz
theorem tw15364668004539656245:True:=Zz
theorem tw17449094824517648685:True:=Zz
theorem tw15458375582365981784:True:=Zz
theorem tw1283935719070667569:True:=Zz
theorem tw17205735016595380521:True:=Zz
theorem tw14907846365204391957:True:=Zz
theorem tw3020248817813751685:True:=Zz
theorem tw15094419164490653231:True:=Zz
theorem tw8679524953604592436:True:=Zz
theorem tw15682593507446772225:True:=Zz
theorem tw507738149690867418:True:=Zz
theorem tw8855876465360919459:True:=Zz
theorem tw457944515938751314:True:=Zz
theorem tw1692191687452611940:True:=Zz
theorem tw3648812181738473977:True:=Zz
theorem tw9539875697044535872:True:=Zz
theorem tw6027173190833551861:True:=Zz
theorem tw17247123199381650817:True:=Zz
theorem tw15688648092892563376:True:=Zz
theorem tw16116950160668474758:True:=Zz
theorem tw901983001582403511:True:=Zz
theorem tw15750817402560872721:True:=Zz
theorem tw4667371143347517332:True:=Zz
theorem tw3142282254570141895:True:=Zz
theorem tw7658752963172828392:True:=Zz
theorem tw17808048116878138579:True:=Zz
theorem tw4743207554188900808:True:=Zz
theorem tw3003280712774973601:True:=Zz
theorem tw1203839021697779338:True:=Zz
theorem tw84641515288887899:True:=Zz
theorem tw4952690760001253980:True:=Zz
theorem tw555752507050757654:True:=Zz
theorem tw7007538500072191705:True:=Zz
theorem tw15074761080859697154:True:=Zz
theorem tw3426758782719547989:True:=Zz
theorem tw15100691784728762881:True:=Zz
theorem tw8359288675354084945:True:=Zz
theorem tw16748708264316744811:True:=Zz
theorem tw5808425841694852118:True:=Zz
theorem tw11671144102450245080:True:=Zz
theorem tw6611659278218450378:True:=Zz
theorem tw16953037565232541094:True:=Zz
theorem tw6875583824708905554:True:=Zz
theorem tw4288384954406037628:True:=Zz
theorem tw15400063628183207653:True:=Zz
theorem tw791168577721829821:True:=Zz
theorem tw924724244657686471:True:=Zz
theorem tw180286518827150042:True:=Zz
theorem tw6735241439323067274:True:=Zz
theorem tw16310056238583594635:True:=Zz
theorem tw6934573063285854586:True:=Zz
theorem tw2268665096511734557:True:=Zz
theorem tw12455974072586388557:True:=Zz
theorem tw9436429603646979563:True:=Zz
theorem tw12948516147311922060:True:=Zz
theorem tw10354966281301467963:True:=Zz
theorem tw598410873045551950:True:=Zz
theorem tw13046462914076270807:True:=Zz
theorem tw10801421895808970415:True:=Zz
theorem tw1503705363472849895:True:=Zz
theorem tw11041570392656797788:True:=Zz
theorem tw4702875740664406043:True:=Zz
theorem tw8323566127572329569:True:=Zz
theorem tw16193584500756286019:True:=Zz
theorem tw14039347747184891359:True:=Zz
theorem tw14868628258132904711:True:=Zz
theorem tw15880097859124883996:True:=Zz
theorem tw13397433207119027315:True:=Zz
theorem tw14048163645396078860:True:=Zz
theorem tw1478498472157348994:True:=Zz
theorem tw6856491148013283104:True:=Zz
theorem tw12935530275471221376:True:=Zz
theorem tw3849347678591519709:True:=Zz
theorem tw7132234508807514177:True:=Zz
theorem tw8286379004676283818:True:=Zz
theorem tw9030968075149220338:True:=Zz
theorem tw14356038150145237248:True:=Zz
theorem tw4947971228806744033:True:=Zz
theorem tw15934157883901297495:True:=Zz
theorem tw4874680743052636928:True:=Zz
theorem tw11632449943670599190:True:=Zz
theorem tw10815663174721193058:True:=Zz
theorem tw18430489040799056074:True:=Zz
end PySem.W.Fast
set_option maxRecDepth 100000 in
set_option maxHeartbeats 0 in
theorem PySem.Challenge.cw_momentwright_k71_back_from_a_spot_on_holds : PySem.Challenge.rw_momentwright_k71_back_from_a_spot_on.Holds := by
 w_on;o_law;k_head;(case hw=>w_witness2)
 k_fill
 refine M.walk (l:=PySem.Challenge.rw_momentwright_k71_back_from_a_spot_on) rfl rfl ?hi (fun w h Y=>⟨PySem.W.kIn_of Y,fun q hq=>by cases hq⟩) ?F
 case hi=>exact ∅
 case F =>
  intro w mg fa h KX G hmg
  refine' M.all_mk KX G hmg rfl ?h0 ?h1 ?h2 ?h3 ?h4 ?h5 ?h6 ?h7 ?h8 ?h9 ?h10 ?h11 ?h12 ?h13 ?h14 ?h15 ?h16 ?h17 ?h18 ?h19 ?h20 ?h21 ?h22 ?h23 ?h24 ?h25 ?h26 ?h27 ?h28 ?h29 ?h30 ?h31 ?h32 ?h33 ?h34 ?h35 ?h36 ?h37 ?h38 ?h39 ?h40 ?h41 ?h42 ?h43 ?h44 ?h45 ?h46 ?h47 ?h48 ?h49 ?h50 ?h51 ?h52 ?h53 ?h54 ?h55 ?h56 ?h57 ?h58 ?h59 ?h60 ?h61 ?h62 ?h63 ?a64 ?l64 ?c64 ?k64 ?h65 ?a66 ?l66 ?c66 ?k66  ?u0 ?v0 ?w0 ?u1 ?v1 ?w1 ?z0 ?z1 ?z2 ?z3 ?z4 ?z5 ?z6 ?z7 ?z8 ?z9 ?z10 ?z11 ?z12 ?z13 ?z14
  any_goals (refine' L2.Hf.of ?a ?l ?c ?k;(case a=>k_is);(case l=>k_is);(case c=>k_is);(case k=>k_is))
  (case a64=>k_is);(case l64=>k_is);(case c64=>k_is);(case k64=>k_is)
  (case a66=>k_is);(case l66=>k_is);(case c66=>k_is);(case k66=>k_is)
  (case u0=>k_is);(case v0=>k_is);(case w0=>rfl)
  (case u1=>k_is);(case v1=>k_is);(case w1=>rfl)
  (case z0=>k_is)
  (case z1=>k_is)
  (case z2=>k_is)
  (case z3=>k_is)
  (case z4=>k_is)
  (case z5=>k_is)
  (case z6=>k_is)
  (case z7=>k_is)
  (case z8=>k_is)
  (case z9=>k_is)
  (case z10=>k_is)
  (case z11=>k_is)
  (case z12=>k_is)
  (case z13=>k_is)
  (case z14=>k_is)
#print axioms PySem.Challenge.cw_momentwright_k71_back_from_a_spot_on_holds

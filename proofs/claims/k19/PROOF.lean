import PyProof.Rows.All
import Wide.All
import OpenK.AllK
import Wide.FinOn
import Lean
import PyProof.EqAt
import PyProof.EqKinds
import PyProof.TupleCall
import PySem.Challenge.RW_momentwright_k19_flocks_of_crowds
set_option compiler.extract_closed false
local macro_rules | `(tactic| walk_at "o")=>`(tactic| first | ((repeat (rename (_:Int)≠_=>h; clear h)); (repeat (rename (_:Nat)≠_=>h; clear h)); (repeat (rename _ ∨ _=>h; clear h)); lia) | lia | omega)
set_option hygiene false in
local macro_rules | `(nofun)=>`(hr.mono (by walk_at "a2"))
local macro_rules | `(())=>`(by walk_at "o")
local macro_rules | `(∅)=>`(by decide)
local macro_rules | `(⋯)=>`(by grind)
local macro_rules | `((·))=>`(by walk_at "a1")
local macro_rules | `(tactic| nofun)=>`(tactic| walk_at "o")
local macro_rules | `(tactic| symm)=>`(tactic| walk_at "vc")
local macro_rules | `(tactic| walk_at "a1")=>`(tactic| first | exact Or.inl rfl | exact Or.inr rfl)
local macro_rules | `(tactic| walk_at "a2")=>`(tactic| first | decide | walk_at "o")
local macro_rules | `(tactic| walk_at "a3")=>`(tactic| exact ⟨rfl,rfl,rfl,by decide +kernel,rfl,by decide +kernel,by decide +kernel⟩)
set_option Elab.async false
set_option linter.all false
set_option maxRecDepth 100000
theorem Ya:type_of% @decide_eq_false:=@decide_eq_false
theorem Yb:type_of% @if_pos:=@if_pos
theorem Yc:type_of% @if_neg:=@if_neg
theorem Yd:type_of% @Nat.lt_of_lt_of_le:=@Nat.lt_of_lt_of_le
theorem Ye:type_of% @Nat.lt_irrefl:=@Nat.lt_irrefl
theorem Yf:type_of% @Nat.ne_of_lt:=@Nat.ne_of_lt
theorem Yg:type_of% @Nat.le_trans:=@Nat.le_trans
theorem Yh:type_of% @Nat.le_of_lt:=@Nat.le_of_lt
theorem Yi:type_of% @List.mem_cons_self:=@List.mem_cons_self
theorem Yj:type_of% @List.mem_cons_of_mem:=@List.mem_cons_of_mem
theorem Yk:type_of% @List.mem_append_left:=@List.mem_append_left
theorem Yl:type_of% @List.getElem?_set_ne:=@List.getElem?_set_ne
theorem Ym:type_of% @Option.some.inj:=@Option.some.inj
theorem Yn:type_of% @congrArg:=@congrArg
theorem Yo:type_of% @Bool.false_ne_true:=@Bool.false_ne_true
theorem Yp:type_of% @Int.mul_one:=@Int.mul_one
theorem Yq:type_of% @Nat.le_refl:=@Nat.le_refl
theorem Yr:type_of% @PyProof.Rows.callWith_type1:=@PyProof.Rows.callWith_type1
theorem Ys:type_of% @List.mem_append_right:=@List.mem_append_right
theorem Yt:type_of% @List.size_toArray:=@List.size_toArray
theorem Yu:type_of% @PySem.W.kia_one:=@PySem.W.kia_one
theorem Yv:type_of% @List.append_nil:=@List.append_nil
theorem Yw:type_of% @List.length_take:=@List.length_take
theorem Yx:type_of% @PySem.mem_of_lookup:=@PySem.mem_of_lookup
theorem Yy:type_of% @List.getElem?_append_right:=@List.getElem?_append_right
theorem Yz:type_of% @List.getElem?_append_left:=@List.getElem?_append_left
theorem YA:type_of% @List.getElem?_map:=@List.getElem?_map
theorem YB:type_of% @List.mem_of_getElem?:=@List.mem_of_getElem?
theorem YC:type_of% @List.length_append:=@List.length_append
theorem YD:type_of% @List.length_map:=@List.length_map
theorem YE:type_of% @List.map_cons:=@List.map_cons
theorem YF:type_of% @List.replicate_succ:=@List.replicate_succ
theorem YG:type_of% @List.append_assoc:=@List.append_assoc
theorem YH:type_of% @Nat.mul_comm:=@Nat.mul_comm
theorem YI:type_of% @decide_eq_true:=@decide_eq_true
theorem YJ:type_of% @List.getElem_mem:=@List.getElem_mem
theorem YK:type_of% @List.getElem?_eq_getElem:=@List.getElem?_eq_getElem
theorem YL:type_of% @Int.gcd_comm:=@Int.gcd_comm
theorem YM:type_of% @Int.fmod_nonneg_of_pos:=@Int.fmod_nonneg_of_pos
theorem YN:type_of% @Int.fmod_lt_of_pos:=@Int.fmod_lt_of_pos
theorem YO:type_of% @Int.gcd_dvd_left:=@Int.gcd_dvd_left
theorem YQ:type_of% @Int.gcd_dvd_right:=@Int.gcd_dvd_right
theorem YR:type_of% @Int.le_of_lt:=@Int.le_of_lt
theorem YS:type_of% @Nat.zero_le:=@Nat.zero_le
theorem YT:type_of% @Nat.pow_le_pow_right:=@Nat.pow_le_pow_right
theorem YU:type_of% @Int.natAbs_mul:=@Int.natAbs_mul
theorem YV:type_of% @Nat.pow_add:=@Nat.pow_add
theorem YW:type_of% @Nat.pow_succ:=@Nat.pow_succ
theorem YX:type_of% @Bool.and_eq_true:=@Bool.and_eq_true
theorem YY:type_of% @List.mem_cons:=@List.mem_cons
theorem YZ:type_of% @List.not_mem_nil:=@List.not_mem_nil
theorem Y0:type_of% @or_false:=@or_false
theorem Y1:type_of% @Nat.le_mul_of_pos_right:=@Nat.le_mul_of_pos_right
theorem Y2:type_of% @Int.mul_pos:=@Int.mul_pos
theorem Y3:type_of% @Int.mul_assoc:=@Int.mul_assoc
theorem Y4:type_of% @Int.mul_comm:=@Int.mul_comm
theorem Y5:type_of% @List.length_cons:=@List.length_cons
theorem Y6:type_of% @List.getD_eq_getElem?_getD:=@List.getD_eq_getElem?_getD
theorem Y7:type_of% @Nat.Coprime.dvd_of_dvd_mul_left:=@Nat.Coprime.dvd_of_dvd_mul_left
theorem Y8:type_of% @Int.eq_of_mul_eq_mul_right:=@Int.eq_of_mul_eq_mul_right
theorem Y9:type_of% @Int.mul_ne_zero:=@Int.mul_ne_zero
theorem Xa:type_of% @Rat.intCast_add:=@Rat.intCast_add
theorem Xb:type_of% @Rat.intCast_mul:=@Rat.intCast_mul
theorem Xc:type_of% @Rat.intCast_sub:=@Rat.intCast_sub
theorem Xd:type_of% @List.getElem?_eq_none:=@List.getElem?_eq_none
theorem Xe:type_of% @List.getLast?_eq_getElem?:=@List.getLast?_eq_getElem?
theorem Xf:type_of% @List.getElem?_take:=@List.getElem?_take
theorem Xg:type_of% @List.drop_eq_getElem_cons:=@List.drop_eq_getElem_cons
theorem Xh:type_of% @Int.mul_zero:=@Int.mul_zero
theorem Xi:type_of% @List.mem_of_mem_take:=@List.mem_of_mem_take
theorem Xj:type_of% @Nat.sub_self:=@Nat.sub_self
theorem Xk:type_of% @Nat.add_sub_cancel:=@Nat.add_sub_cancel
theorem Xl:type_of% @Int.eq_of_mul_eq_mul_left:=@Int.eq_of_mul_eq_mul_left
theorem Xm:type_of% @Nat.zero_add:=@Nat.zero_add
theorem Xn:type_of% @Int.one_mul:=@Int.one_mul
theorem Xo:type_of% @Nat.add_mul:=@Nat.add_mul
theorem Xp:type_of% @Nat.mul_le_mul:=@Nat.mul_le_mul
theorem Xq:type_of% @Rat.mul_nonneg:=@Rat.mul_nonneg
theorem Xr:type_of% @Int.pow_zero:=@Int.pow_zero
theorem Xs:type_of% @Int.pow_succ:=@Int.pow_succ
theorem Xt:type_of% @Int.pow_ne_zero:=@Int.pow_ne_zero
theorem Xu:type_of% @Rat.div_def:=@Rat.div_def
theorem Xv:type_of% @Rat.mul_pos:=@Rat.mul_pos
theorem Xw:type_of% @Rat.le_of_lt:=@Rat.le_of_lt
theorem Xx:type_of% @Rat.lt_div_iff:=@Rat.lt_div_iff
theorem Xy:type_of% @Classical.byContradiction:=@Classical.byContradiction
theorem Xz:type_of% @List.filter_cons_of_pos:=@List.filter_cons_of_pos
theorem XA:type_of% @List.filter_cons_of_neg:=@List.filter_cons_of_neg
theorem XB:type_of% @of_decide_eq_true:=@of_decide_eq_true
theorem XC:type_of% @Int.dvd_trans:=@Int.dvd_trans
theorem XD:type_of% @Int.natAbs_natCast:=@Int.natAbs_natCast
theorem XE:type_of% @Nat.le_of_dvd:=@Nat.le_of_dvd
theorem XF:type_of% @Nat.mul_le_mul_right:=@Nat.mul_le_mul_right
theorem XG:type_of% @Rat.intCast_neg:=@Rat.intCast_neg
theorem XH:type_of% @Int.natCast_mul:=@Int.natCast_mul
theorem XI:type_of% @Rat.div_mul_cancel:=@Rat.div_mul_cancel
theorem XJ:type_of% @Iff.rfl:=@Iff.rfl
theorem XM:type_of% @List.getElem?_of_mem:=@List.getElem?_of_mem
theorem XN:type_of% @Nat.mul_le_mul_left:=@Nat.mul_le_mul_left
theorem XO:type_of% @Int.dvd_mul_right:=@Int.dvd_mul_right
theorem XQ:type_of% @Int.emod_lt_of_pos:=@Int.emod_lt_of_pos
theorem XR:type_of% @Int.dvd_mul_left:=@Int.dvd_mul_left
theorem XS:type_of% @Int.zero_add:=@Int.zero_add
theorem XT:type_of% @List.map_append:=@List.map_append
theorem XU:type_of% @List.take_add_one:=@List.take_add_one
theorem XV:type_of% @List.take_length:=@List.take_length
theorem XW:type_of% @PySem.F.plainAttrs_list:=@PySem.F.plainAttrs_list
theorem XX:type_of% @Int.fmod_eq_emod_of_nonneg:=@Int.fmod_eq_emod_of_nonneg
theorem XY:type_of% @List.mem_singleton:=@List.mem_singleton
theorem XZ:type_of% @PySem.W.mg_of:=@PySem.W.mg_of
theorem X0:type_of% @PySem.W.mg_none_of:=@PySem.W.mg_none_of
namespace L2
open PySem PySem.Spec PyProof.Rows
abbrev rB:=Sum Int Str
def GE:rB->Value->Bool
 | .inl k,v=>Value.isInt k v
 | .inr x,v=>Value.isStrOf x v
def LV(w:World):rB->Int
 | .inl k=>hashInt k
 | .inr x=>hashStr w x
theorem cW:∀{k:rB}{v:Value},GE k v=true->(∃i t,k=Sum.inl i/\v=Value.int i t)\/(∃x t,k=Sum.inr x/\v=Value.str x t)
 | .inl i,v,h=>by
  obtain⟨t,e⟩:=Value.isInt_shape (k:=i) (v:=v) h;exact .inl ⟨i,t,rfl,e⟩
 | .inr x,v,h=>by
  obtain⟨t,e⟩:=Value.isStrOf_shape (x:=x) (v:=v) h;exact .inr ⟨x,t,rfl,e⟩
theorem Jo(a b:Int):decide ((Sum.inl a:rB)=Sum.inl b)=(a==b):=by
 by_cases e:a=b
 .subst e;simp
 .have h:¬ (Sum.inl a:rB)=Sum.inl b:=λq=>e (Sum.inl.inj q);rw[Ya h];exact (beq_eq_false_iff_ne.mpr e).symm
theorem Jb(a b:Str):decide ((Sum.inr a:rB)=Sum.inr b)=decide (a=b):=by
 by_cases e:a=b
 .subst e;simp
 .have h:¬ (Sum.inr a:rB)=Sum.inr b:=λq=>e (Sum.inr.inj q);rw[Ya h,Ya e]
theorem HI(a:Int)(b:Str):decide ((Sum.inl a:rB)=Sum.inr b)=false:=Ya (λq=>nomatch q)
theorem IF(a:Str)(b:Int):decide ((Sum.inr a:rB)=Sum.inl b)=false:=Ya (λq=>nomatch q)
def tR(prog:Program)(w:World):PySem.KeyKind prog w rB where
 is:=GE
 hash:=LV w
 inj:=λv a b ha hb=>by
  rcases cW ha with ⟨i,t,rfl,rfl⟩|⟨x,t,rfl,rfl⟩
  .rcases cW hb with ⟨j,u,rfl,e⟩|⟨y,u,rfl,e⟩
   .injection e with e1 _;rw[e1]
   .exact nomatch e
  .rcases cW hb with ⟨j,u,rfl,e⟩|⟨y,u,rfl,e⟩
   .exact nomatch e
   .injection e with e1 _;rw[e1]
 byValue:=λk v h=>by
  rcases cW h with ⟨i,t,rfl,rfl⟩|⟨x,t,rfl,rfl⟩<;>rfl
 pyHash:=λhv h=>by
  rcases cW hv with ⟨i,t,rfl,rfl⟩|⟨x,t,rfl,rfl⟩
  .exact wpAny_pyHash_int h
  .exact wpAny_pyHash_str h
 eqBool:=λhu hv h=>by
  rcases cW hu with ⟨i,t,rfl,rfl⟩|⟨x,t,rfl,rfl⟩
  .rcases cW hv with ⟨j,u,rfl,rfl⟩|⟨y,u,rfl,rfl⟩
   .rw[Jo] at h;exact wpAny_eqBool_int h
   .rw[HI] at h;exact SeqAt.EqAt.int_str i t y u _ _ _ _ h
  .rcases cW hv with ⟨j,u,rfl,rfl⟩|⟨y,u,rfl,rfl⟩
   .rw[IF] at h;exact SeqAt.EqAt.str_int x t j u _ _ _ _ h
   .rw[Jb] at h;exact wpAny_eqBool_str h
 «strs»:=λk x t v h=>by
  rcases cW h with ⟨i,u,rfl,e⟩|⟨y,u,rfl,e⟩
  .exact nomatch e
  .injection e with e1 _
   subst e1;cases v<;>rfl
inductive V where
 | non|bl (b:Bool)|int (i:Int)|str (x:Str)|byt (b:Array UInt8)|flt (b:UInt64)|ref (a:Addr)|ty (n:String)
 deriving DecidableEq
def cy:V->Value->Prop
 | .non,u=>u=Value.none
 | .bl b,u=>u=Value.bool b
 | .int i,u=>∃t,u=Value.int i t
 | .str x,u=>∃t,u=Value.str x t
 | .byt b,u=>∃t,u=Value.bytes b t
 | .flt b,u=>∃t,u=Value.float b t
 | .ref a,u=>u=Value.ref a
 | .ty n,u=>u=Value.type n
abbrev bC:List V->List Value->Prop:=Paired cy
theorem bC.length{xs:List V}{us:List Value}(r:bC xs us):xs.length=us.length:=Paired.length r
theorem bC.get:∀{xs:List V}{us:List Value}{i:Nat}{x:V},bC xs us->xs[i]? = some x -> ∃u,us[i]? = some u/\cy x u
 | _,_,_,_,.nil,e=>by simp at e
 | _,_,0,_,.cons r _,e=>by simp at e;subst e;exact⟨_,rfl,r⟩
 | _,_,i+1,x,.cons _ t,e=>by
  obtain⟨u,h1,h2⟩:=bC.get (i:=i) (x:=x) t (by simpa using e)
  exact⟨u,by simpa using h1,h2⟩
theorem bC.set{x:V}{u:Value}(r:cy x u):∀{xs:List V}{us:List Value}(i:Nat),bC xs us->bC (xs.set i x) (us.set i u)
 | _,_,_,.nil=>.nil
 | _,_,0,.cons _ t=>.cons r t
 | _,_,i+1,.cons q t=>.cons q (bC.set r i t)
theorem bC.append:∀{xs ys:List V}{us ws:List Value},bC xs us->bC ys ws->bC (xs++ys) (us++ws)
 | _,_,_,_,.nil,s=>s
 | _,_,_,_,.cons r t,s=>.cons r (bC.append t s)
theorem bC.take:∀{xs:List V}{us:List Value}(n:Nat),bC xs us->bC (xs.take n) (us.take n)
 | _,_,0,_=>.nil
 | _,_,_+1,.nil=>.nil
 | _,_,n+1,.cons r t=>.cons r (bC.take n t)
theorem bC.drop:∀{xs:List V}{us:List Value}(n:Nat),bC xs us->bC (xs.drop n) (us.drop n)
 | _,_,0,r=>r
 | _,_,_+1,.nil=>.nil
 | _,_,n+1,.cons _ t=>bC.drop n t
def JC:Option V->Option Value->Prop
 | some v,some u=>cy v u
 | none,none=>True
 | _,_=>False
def KV{κ:Type}:List (κ×V)->List (κ×Value)->Prop:=Paired λ(p:κ×V)(q:κ×Value)=>p.1=q.1/\cy p.2 q.2
def kV:rB->V
 | .inl i=>.int i
 | .inr x=>.str x
inductive HO where
 /-- a list -/
 | lst (xs:List V)
 /-- a tuple (never changes) -/
 | tup (xs:List V)
 /-- a dict whose keys are ints and texts;one whose keys are tuples of ints and texts (the empty one is both) -/
 | dK (kvs:List (rB×V))|dT (kvs:List (List rB×V))
 /-- a set of ints: its members,its size -/
 | set (S:Int->Bool)(n:Nat)
 /-- an instance of the class at C,its dict at dx,its attributes -/
 | ins (C dx:Addr)(fs:List (Str×V))
 /-- the dict of the instance at x -/
 | own (x:Addr)
 /-- the dict of an exception -/
 | xd (fs:List (Str×V))
 /-- a bound method,f of x -/
 | met (f x:Addr)
 /-- a range object lo,lo+1,.. below hi -/
 | rng (lo hi:Int)
 /-- a thing that is known to the object (the script;a dict while a loop walks it): read,never written while it is so -/
 | frz (o:Obj)(u:HO)
 /-- a code object's table -/
 | tbl (ps:Array Value)
 /-- any other thing,by what is true of its one object (a def of one's own: SetO a S n:=HO.ext λh=>..) -/
 | ext (φ:Heap->Prop)
abbrev Hp:=Addr->Option HO
def upd(H:Hp)(a:Addr)(o:HO):Hp:=λb=>if b=a then some o else H b
theorem dA{H:Hp}{a:Addr}{o:HO}:upd H a o a=some o:=by unfold upd;rw[Yb rfl]
theorem cE{H:Hp}{a b:Addr}{o:HO}(h:b≠a):upd H a o b=H b:=by unfold upd;rw[Yc h]
theorem ak{H:Hp}{a b:Addr}{o:HO}(h:H a=some o)(h':H b=none):a≠b:=by
 intro e;subst e;rw[h] at h';cases h'
section
variable (P:Program)(w:World)
def dY(H:Hp)(h:Heap)(a:Addr):HO->Prop
 | .lst xs=>xs.length<=sizeLine /\ ∃(its:List Value)(n:Nat),bC xs its/\h.get? a=some { cls:=.type "list",data:=.seq its.toArray n }
 | .tup xs=>xs.length<=sizeLine /\ ∃its:List Value,bC xs its/\IsTup h a its.toArray
 | .dK kvs=>kvs.length<=sizeLine/\(a==sysModules)=false /\ ∃vs,KV kvs vs/\h.DictOf (tR P w) a vs
 | .dT kvs=>kvs.length<=sizeLine/\(a==sysModules)=false /\ ∃xs:List (List rB×Addr×Value),
   Paired (λ(p:List rB×V)(q:List rB×Addr×Value)=>p.1=q.1/\H q.2.1=some (.tup (p.1.map kV))/\cy p.2 q.2.2) kvs xs /\
   ∃o es ep,h.get? a=some o/\o.ExactDict/\o.data=.dict es ep/\es.toList=xs.map (entryOfKey (tupleKind (tR P w)))/\(xs.map (·.1)).Nodup
 | .set S n=>h.SetOf (intKind P w) a S n
 | .ins C dx fs=>H dx=some (.own a)/\fs.length<=1000/\dx≠a/\h.get? a=some (PySem.W.instObj C dx) /\
   ∃mA,h.Ns1 dx mA/\(∀f,JC (fs.lookup f) (mA f))/\PySem.Within mA (fs.map (·.1))
 | .own _=>∃o,h.get? a=some o
 | .xd fs=>∃mA,h.Ns1 a mA /\ ∀f,JC (fs.lookup f) (mA f)
 | .rng lo hi=>∃t u v,h.get? a=some { cls:=.type "range",data:=.fields #[.int lo t,.int hi u,.int 1 v] }
 | .frz o u=>h.get? a=some o/\dY H h a u
 | .tbl ps=>h.get? a=some { cls:=.none,data:=.fields ps }
 | .met f x=>h.get? a=some (PySem.W.methodObj (.ref f) (.ref x))
 | .ext φ=>φ h/\(∃o,h.get? a=some o) /\ ∀h1 h2:Heap,φ h1->(∀o,h1.get? a=some o->h2.get? a=some o)->φ h2
def oF(H:Hp)(h:Heap):Prop:=∀a o,H a=some o->dY P w H h a o
end
section
variable {P:Program}{w:World}{H H':Hp}{h h':Heap}{a:Addr}{o:HO}
theorem dY.lt(x:dY P w H h a o):a<h.objs.size:=by
 cases o with
 | lst xs=>obtain⟨_,_,_,_,e⟩:=x;exact Heap.lt_size e
 | tup xs=>obtain⟨_,_,_,p⟩:=x;exact p.lt
 | dK kvs=>obtain⟨_,_,_,_,o,_,_,e,_⟩:=x;exact Heap.lt_size e
 | dT kvs=>obtain⟨_,_,_,_,o,_,_,e,_⟩:=x;exact Heap.lt_size e
 | set S n=>obtain⟨o,_,_,_,e,_⟩:=x;exact Heap.lt_size e
 | ins C dx fs=>obtain⟨_,_,_,e,_⟩:=x;exact Heap.lt_size e
 | own y=>obtain⟨_,e⟩:=x;exact Heap.lt_size e
 | xd fs=>obtain⟨_,⟨_,_,_,e,_⟩,_⟩:=x;exact Heap.lt_size e
 | rng lo hi=>obtain⟨_,_,_,e⟩:=x;exact Heap.lt_size e
 | frz ob u=>obtain⟨e,_⟩:=x;exact Heap.lt_size e
 | tbl ps=>exact Heap.lt_size (show h.get? a=some _ from x)
 | met f y=>exact Heap.lt_size (show h.get? a=some _ from x)
 | ext φ=>obtain⟨_,⟨_,e⟩,_⟩:=x;exact Heap.lt_size e
theorem Paired.mapP{α β:Type}{F G:α->β->Prop}:∀{l₁:List α}{l₂:List β},Paired F l₁ l₂->(∀a b,F a b->G a b)->Paired G l₁ l₂
 | _,_,.nil,_=>.nil
 | _,_,.cons r t,f=>.cons (f _ _ r) (Paired.mapP t f)
theorem dY.stay(x:dY P w H h a o)(k:∀b u,(b=a\/H b=some (.own a))->h.get? b=some u->h'.get? b=some u)
  (ho:∀b,H b=some (.own a)->H' b=some (.own a))(ht:∀b xs,H b=some (.tup xs)->H' b=some (.tup xs)):dY P w H' h' a o:=by
 induction o with
 | lst xs=>obtain⟨z,its,n,r,e⟩:=x;exact⟨z,its,n,r,k _ _ (.inl rfl) e⟩
 | tup xs=>obtain⟨z,its,r,ob,e,c⟩:=x;exact⟨z,its,r,ob,k _ _ (.inl rfl) e,c⟩
 | dK kvs=>obtain⟨z,y,vs,r,ob,es,ep,e,c⟩:=x;exact⟨z,y,vs,r,ob,es,ep,k _ _ (.inl rfl) e,c⟩
 | dT kvs =>
  obtain⟨z,y,xs,r,ob,es,ep,e,c⟩:=x;exact⟨z,y,xs,Paired.mapP r λp q z=>⟨z.1,ht _ _ z.2.1,z.2.2⟩,ob,es,ep,k _ _ (.inl rfl) e,c⟩
 | set S n=>obtain⟨ob,es,ep,t,e,c⟩:=x;exact⟨ob,es,ep,t,k _ _ (.inl rfl) e,c⟩
 | ins C dx fs =>
  obtain⟨d,z,ne,e,mA,⟨od,es,ep,e2,c⟩,r⟩:=x;exact⟨ho _ d,z,ne,k _ _ (.inl rfl) e,mA,⟨od,es,ep,k _ _ (.inr d) e2,c⟩,r⟩
 | own y=>obtain⟨ob,e⟩:=x;exact⟨ob,k _ _ (.inl rfl) e⟩
 | xd fs=>obtain⟨mA,⟨od,es,ep,e,c⟩,r⟩:=x;exact⟨mA,⟨od,es,ep,k _ _ (.inl rfl) e,c⟩,r⟩
 | rng lo hi=>obtain⟨t,u,v,e⟩:=x;exact⟨t,u,v,k _ _ (.inl rfl) e⟩
 | frz ob u ih=>obtain⟨e,q⟩:=x;exact⟨k _ _ (.inl rfl) e,ih q⟩
 | tbl ps =>
  have e:h.get? a=some { cls:=.none,data:=.fields ps }:=x;show h'.get? a=some { cls:=.none,data:=.fields ps };exact k a _ (.inl rfl) e
 | met f y =>
  have e:h.get? a=some (PySem.W.methodObj (.ref f) (.ref y)):=x;show h'.get? a=some (PySem.W.methodObj (.ref f) (.ref y));exact k a _ (.inl rfl) e
 | ext φ=>obtain⟨p,⟨o,e⟩,st⟩:=x;exact⟨st _ _ p λo q=>k _ _ (.inl rfl) q,⟨o,k _ _ (.inl rfl) e⟩,st⟩
theorem oF.lt(x:oF P w H h)(e:H a=some o):a<h.objs.size:=(x a o e).lt
theorem oF.fresh(x:oF P w H h)(e:h.objs.size<=a):H a=none:=by
 cases q:H a with
 | none=>rfl
 | some u=>exact absurd (Yd (x.lt q) e) (Ye _)
theorem oF.kept(x:oF P w H h)(k:∀b u,h.get? b=some u->h'.get? b=some u):oF P w H h':=λa o e =>
 (x a o e).stay (λb u _ q=>k b u q) (λ_ q=>q) λ_ _ q=>q
theorem oF.laid(x:oF P w H h)(k:∀b u,h.get? b=some u->h'.get? b=some u)(hp:h.objs.size<=a)(new:dY P w (upd H a o) h' a o):oF P w (upd H a o) h':=λb u e=>by
 have hn:=x.fresh hp;by_cases hb:b=a
 .subst hb;rw[dA] at e;cases e;exact new
 .rw[cE hb] at e;exact (x b u e).stay (λc v _ q=>k c v q) (λc q=>by rw[cE (ak q hn)];exact q) λc xs q=>by rw[cE (ak q hn)];exact q
end
def Rd(H:Hp)(a:Addr)(u:HO):Prop:=H a=some u \/ ∃o,H a=some (.frz o u)
theorem Rd.ok{P:Program}{w:World}{H:Hp}{h:Heap}{a:Addr}{u:HO}(r:Rd H a u)(x:oF P w H h):dY P w H h a u:=by
 rcases r with r|⟨o,r⟩
 .exact x a u r
 .obtain⟨_,q⟩:=x a _ r;exact q
def Lo:Option HO->Prop
 | some (.lst _)=>True
 | some (.dK _)=>True
 | some (.dT _)=>True
 | some (.set _ _)=>True
 | some (.ins _ _ _)=>True
 | some (.ext _)=>True
 | _=>False
section
variable {P:Program}{w:World}{H:Hp}{h h':Heap}{x e:Addr}{o':HO}
theorem oF.write(ok:oF P w H h)(mu:Lo (H x))(he:e=x\/H e=some (.own x))(k:∀b u,b≠e->h.get? b=some u->h'.get? b=some u)(heo:∃u,h'.get? e=some u)
  (new:dY P w (upd H x o') h' x o'):oF P w (upd H x o') h':=λb u q=>by
 have nown:∀c y,H c=some (.own y)->c≠x:=λc y r z=>by subst z;rw[r] at mu;exact mu
 have ntup:∀c xs,H c=some (.tup xs)->c≠x:=λc xs r z=>by subst z;rw[r] at mu;exact mu
 by_cases hb:b=x
 .subst hb;rw[dA] at q;cases q;exact new
 .rw[cE hb] at q;by_cases hbe:b=e
  .have q':H b=some (.own x):=by
    rcases he with z|z
    .exact absurd (hbe.trans z) hb
    .rw[hbe];exact z
   rw[q] at q';cases q';obtain⟨v,hv⟩:=heo;exact⟨v,by rw[hbe];exact hv⟩
  .refine (ok b u q).stay (λc v hc r=>k c v ?_ r) (λc r=>by rw[cE (nown c b r)];exact r) λc xs r=>by rw[cE (ntup c xs r)];exact r
   rcases hc with rfl|hc
   .exact hbe
   .rintro rfl;rcases he with z|z
    .exact nown c b hc z
    .rw[hc] at z;cases z;exact hb rfl
end
structure Un (fs ex:List Addr)(H H':Hp)(h h':Heap):Prop where
 keep:∀b o,h.get? b=some o->H b=none->b∉fs->b∉ex->h'.get? b=some o
 slot:∀b o,h.get? b=some o->H b=none->b∈fs->b∉ex -> ∃sl,h'.get? b=some { o with slots:=sl }
 free:∀b o,h.get? b=some o->H b=none->b∉ex->H' b=none
 there:∀b o,h.get? b=some o->b∉ex -> ∃o',h'.get? b=some o'
 tups:∀b xs,H b=some (.tup xs)->H' b=some (.tup xs)
 frzs:∀b o u,H b=some (.frz o u)->H' b=some (.frz o u)
 tbls:∀b ps,H b=some (.tbl ps) -> ∃more,H' b=some (.tbl (ps++more))
section
variable {fs fs' ex ex':List Addr}{H H1 H2:Hp}{h h1 h2 h':Heap}{a x e:Addr}{o:HO}
theorem Un.any(u:Un fs ex H H1 h h1) {b:Addr}{ob:Obj}(q:h.get? b=some ob)(n:H b=none)(hx:b∉ex):∃sl,h1.get? b=some { ob with slots:=sl }:=by
 by_cases hb:b∈fs
 .exact u.slot b ob q n hb hx
 .exact⟨ob.slots,u.keep b ob q n hb hx⟩
theorem Un.kept(k:∀b u,h.get? b=some u->h'.get? b=some u):Un fs ex H H h h' :=
 ⟨λb ob q _ _ _=>k b ob q,λb ob q _ _ _=>⟨ob.slots,k b ob q⟩,λ_ _ _ n _=>n,λb ob q _=>⟨ob,k b ob q⟩,λ_ _ q=>q,λ_ _ _ q=>q,λ_ ps q=>⟨#[],by rw[q];simp⟩⟩
theorem Un.refl:Un fs ex H H h h:=Un.kept λ_ _ q=>q
theorem Un.laid(k:∀b u,h.get? b=some u->h'.get? b=some u)(hp:h.objs.size<=a)(hn:H a=none):Un fs ex H (upd H a o) h h' where
 keep:=λb u q _ _ _=>k b u q
 slot:=λb u q _ _ _=>⟨u.slots,k b u q⟩
 free:=λb u q n _=>by rw[cE (Yf (Yd (Heap.lt_size q) hp))];exact n
 there:=λb u q _=>⟨u,k b u q⟩
 tups:=λb xs q=>by rw[cE (ak q hn)];exact q
 frzs:=λb u xs q=>by rw[cE (ak q hn)];exact q
 tbls:=λb ps q=>⟨#[],by rw[cE (ak q hn),q];simp⟩
theorem Un.write(mu:Lo (H x))(he:e=x\/H e=some (.own x))(k:∀b u,b≠e->h.get? b=some u->h'.get? b=some u)(heo:∃u,h'.get? e=some u):Un fs ex H (upd H x o) h h':=by
 have hx:∀b,H b=none->b≠x:=λb n z=>by subst z;rw[n] at mu;exact mu
 have hb:∀b,H b=none->b≠e:=λb n z=>by
  subst z;rcases he with r|r
  .exact hx b n r
  .rw[n] at r;cases r
 have hm:∀b u,H b=some u -> ¬ Lo (some u)->b≠x:=λb u q nm z=>by subst z;rw[q] at mu;exact nm mu
 refine⟨λb u q n _ _=>k b u (hb b n) q,λb u q n _ _=>⟨u.slots,k b u (hb b n) q⟩,λb u q n _=>by rw[cE (hx b n)];exact n,λb u q _=>?_,
  λb xs q=>by rw[cE (hm b _ q λz=>z)];exact q,λb u xs q=>by rw[cE (hm b _ q λz=>z)];exact q,λb ps q=>⟨#[],by rw[cE (hm b _ q λz=>z),q];simp⟩⟩
 by_cases hbe:b=e
 .subst hbe;exact heo
 .exact⟨u,k b u hbe q⟩
end
def Lg(h:Heap)(H:Hp):List Addr:=(List.range h.objs.size).filter λa=>(H a).isSome
def pT(h:Heap)(H:Hp):Heap:=PySem.W.hideAll h (Lg h H)
theorem Ai(h:Heap)(H:Hp):(pT h H).objs.size=h.objs.size:=PySem.W.hideAll_size _ _
theorem Di{h:Heap}{H:Hp}{b:Addr}{o:Obj}(e:h.get? b=some o)(n:H b=none):(pT h H).get? b=some o :=
 PySem.W.hideAll_get _ e λhm=>by
  have q:(H b).isSome=true:=(List.mem_filter.mp hm).2;rw[n] at q;simp at q
theorem EJ{h:Heap}{H:Hp}{b:Addr}{o:Obj}(e:(pT h H).get? b=some o):h.get? b=some o/\H b=none:=by
 have e':h.get? b=some o:=PySem.W.of_hideAll (Lg h H) e;refine⟨e',?_⟩;cases q:H b with
 | none=>rfl
 | some x =>
  have hm:b∈Lg h H:=List.mem_filter.mpr ⟨List.mem_range.mpr (Heap.lt_size e'),by simp[q]⟩
  have z:(pT h H).get? b=none:=PySem.W.hideAll_none (Lg h H) hm;rw[z] at e;cases e
def Ea(g h:Heap)(L:Addr):List (Addr×Obj):=(List.range h.objs.size).filterMap λa=>if a=L\/(g.get? a).isSome=true then none else (h.get? a).map λo=>(a,o)
def rest(g h:Heap)(L d:Addr):List (Addr×Obj):=(Ea g h L).filter λp=>decide (p.1≠d)
structure Mod (K:W.Frag)(mg:Str->Option Value)(base:Heap):Prop where
 kin:K.In base
 glob:base.Ns mainGlobals mg
 blt:∃mb,base.Ns builtinsNs mb /\ ∀x:Str,x ≠ "__name__" -> mb x=bootBuiltins x
 nolimit:base.NoLimit
structure Cx where
 prog:Program
 w:World
 K:W.Frag
 mg:Str->Option Value
 base:Heap
 A:Around
 N:List Str
 s₀:Shared
 H₀:Hp
 env:Env
 outer:List Env
 stack:List Env
 ex:List Addr
 fn:Str->Bool
 calm:Bool
 pn:List (Addr×Obj)
 xe:Value->Shared->Prop
def AW(l:List Env):List Addr:=l.filterMap (·.frame)
abbrev Cx.fs (X:Cx):List Addr:=AW X.outer
def KQ(sc:Scope)(x:Str):Prop:=sc.names.lookup x=some .local\/sc.names.lookup x=some .cell\/sc.names.lookup x=some .free
def D6(sc:Scope)(x:Str):Prop:=sc.names.lookup x=some .local\/sc.names.lookup x=some .cell
def LQ(env:Env)(h:Heap)(m:Str->Option Value)(x:Str)(u:Value):Prop :=
 (env.kindOf x=some .local/\m x=some u)\/((env.kindOf x=some .cell\/env.kindOf x=some .free) /\ ∃c,env.cells.lookup x=some c/\h.IsCell c (some u))
structure Cx.Ok (X:Cx):Prop where
 mod:Mod X.K X.mg X.base
 kind:X.env.scope.kind=.function
 glob:X.env.globals=mainGlobals
 blt:X.env.builtins=builtinsNs
 above:X.s₀.heap.objs.size<=X.env.locals
 inj:∀x y c,X.env.cells.lookup x=some c->X.env.cells.lookup y=some c->x=y
 has:∀x,(X.env.kindOf x=some .cell\/X.env.kindOf x=some .free) -> ∃c,X.env.cells.lookup x=some c
 cab:∀x c,X.fn x=true->X.env.cells.lookup x=some c->X.s₀.heap.objs.size<=c
 hd:X.calm=true->X.A.handled=none
 frames:X.A.frames=some X.stack
 stk:X.stack=X.outer\/(X.stack=X.env::X.outer/\X.env.frame=some X.env.locals)
 exf:∀b∈X.ex,b≠X.env.locals /\ ∀x c,X.env.cells.lookup x=some c->c≠b
 bs:∀b o,X.base.get? b=some o->X.s₀.heap.get? b=some o/\X.H₀ b=none
 bsz:X.base.objs.size<=X.s₀.heap.objs.size
 noex:∀b o,X.base.get? b=some o->b∉X.ex
 exfs:∀b∈X.ex,b∉X.fs
 funs:X.s₀.heap.FunFrames X.base X.outer
 frf:∀b∈X.fs,X.H₀ b=none
structure aM (X:Cx)(pins:List (Addr×Obj))(σ:List (Option V))(H:Hp)(s:Shared):Prop where
 ok:X.Ok
 os:s.os=X.s₀.os
 bare:AllBare s.gens
 base:Un X.fs X.ex X.H₀ H X.s₀.heap s.heap
 loc:∃m,s.heap.Ns X.env.locals m /\ ∀(i:Nat)(x:Str)(v:V),X.N[i]? = some x->σ[i]? = some (some v)->KQ X.env.scope x -> ∃u,cy v u/\LQ X.env s.heap m x u
 cell:∀x c,X.env.cells.lookup x=some c -> ∃v,s.heap.IsCell c v
 free:H X.env.locals=none
 freeC:∀x c,X.env.cells.lookup x=some c->H c=none
 pin:∀p∈X.pn++pins,s.heap.get? p.1=some p.2/\H p.1=none/\p.1≠X.env.locals/\p.1∉X.fs /\ ∀v,p.2.data ≠ .cell v
 hok:oF X.prog X.w H s.heap
 len:σ.length=X.N.length
section
variable {X:Cx}{pins:List (Addr×Obj)}{σ:List (Option V)}{H H':Hp}{s:Shared}{h':Heap}
theorem Cx.Ok.nofr(ok:X.Ok){b:Addr}{o:Obj}(e:X.base.get? b=some o):b∉X.fs:=λhb=>by
 have:=(ok.funs.mem hb).1;rw[e] at this;cases this
theorem aM.bs(I:aM X pins σ H s):∀b o,X.base.get? b=some o->s.heap.get? b=some o/\H b=none:=λb o e =>
 ⟨I.base.keep b o (I.ok.bs b o e).1 (I.ok.bs b o e).2 (I.ok.nofr e) (I.ok.noex b o e),I.base.free b o (I.ok.bs b o e).1 (I.ok.bs b o e).2 (I.ok.noex b o e)⟩
theorem aM.bk(I:aM X pins σ H s):∀b o,X.base.get? b=some o->s.heap.get? b=some o:=λb o e=>(I.bs b o e).1
theorem aM.mod(I:aM X pins σ H s):Mod X.K X.mg X.base:=I.ok.mod
theorem aM.kIn(I:aM X pins σ H s):X.K.In s.heap:=I.ok.mod.kin.keeps I.bk
theorem aM.nolimit(I:aM X pins σ H s):s.heap.NoLimit:=I.ok.mod.nolimit.keeps I.bk
theorem aM.lt(I:aM X pins σ H s):X.env.locals<s.heap.objs.size:=let ⟨_,hn,_⟩:=I.loc;hn.lt
theorem aM.sz(I:aM X pins σ H s):X.s₀.heap.objs.size<=s.heap.objs.size:=Yg I.ok.above (Yh I.lt)
theorem aM.nofs(I:aM X pins σ H s) {a:Addr}(h:s.heap.objs.size<=a):a∉X.fs:=λhb=>by
 obtain⟨_,o,ho,_⟩:=I.ok.funs.mem hb;exact absurd (Yd (Heap.lt_size ho) (Yg I.sz h)) (Ye _)
theorem aM.cne(I:aM X pins σ H s):∀x c,X.env.cells.lookup x=some c->c≠X.env.locals:=λx c e z=>by
 obtain⟨v,o,ho,hd⟩:=I.cell x c e;obtain⟨m,⟨o',es,ep,ho',hd',_⟩,_⟩:=I.loc;rw[z,ho'] at ho;cases ho;rw[hd'] at hd;cases hd
theorem aM.funs(I:aM X pins σ H s):s.heap.FunFrames X.base X.outer:=by
 have all:∀(l:List Env),(∀b∈AW l,b∈X.fs)->X.s₀.heap.FunFrames X.base l->s.heap.FunFrames X.base l:=by
  intro l;induction l with
  | nil=>intro _ _;trivial
  | cons env r ih =>
   intro hs hl;obtain⟨hk,⟨L,o,hf,hn,ho,hd⟩,hr⟩:=hl;have hL:L∈X.fs:=hs L (by unfold AW;rw[List.filterMap_cons,hf];exact Yi)
   obtain⟨sl,e⟩:=I.base.slot L o ho (I.ok.frf L hL) hL λz=>I.ok.exfs L z hL;exact⟨hk,⟨L,_,hf,hn,e,hd⟩,ih (λb hb=>hs b (by unfold AW;rw[List.filterMap_cons,hf];exact Yj _ hb)) hr⟩
 exact all X.outer (λ_ hb=>hb) I.ok.funs
theorem aM.stack(I:aM X pins σ H s):s.heap.FunFrames X.base X.stack:=by
 rcases I.ok.stk with e|⟨e,hf⟩
 .rw[e];exact I.funs
 .rw[e];obtain⟨m,hn,_⟩:=I.loc;refine .cons (by rw[I.ok.kind];decide) hf hn ?_ I.funs
  exact Heap.get?_none_of_le (Yg I.ok.bsz I.ok.above)
theorem aM.stkSub(I:aM X pins σ H s):∀b∈AW X.stack,b∈X.env.locals::X.fs:=λb hb=>by
 rcases I.ok.stk with e|⟨e,hf⟩
 .rw[e] at hb;exact Yj _ hb
 .rw[e] at hb;unfold AW at hb;rw[List.filterMap_cons,hf] at hb;exact hb
theorem aM.stkFree(I:aM X pins σ H s):∀b∈AW X.stack,H b=none:=λb hb=>by
 rcases YY.mp (I.stkSub b hb) with e|hb
 .rw[e];exact I.free
 .obtain⟨_,o,ho,_⟩:=I.ok.funs.mem hb;exact I.base.free b o ho (I.ok.frf b hb) λz=>I.ok.exfs b z hb
theorem aM.step{g':Array GenState}{t':Nat}{d':Drawn}{ch:List Addr}(I:aM X pins σ H s)
  (hch:∀b∈ch,(b∈X.ex\/X.s₀.heap.objs.size<=b)/\b≠X.env.locals/\(∀x c,X.env.cells.lookup x=some c->c≠b) /\ ∀p∈X.pn++pins,p.1≠b)
  (keep:∀b o,b≠X.env.locals->b∉X.fs->b∉ch->s.heap.get? b=some o->H b=none->h'.get? b=some o)
  (slot:∀b o,b≠X.env.locals->b∈X.fs->b∉ch->s.heap.get? b=some o->H b=none -> ∃sl,h'.get? b=some { o with slots:=sl })(free:∀b o,b∉ch->s.heap.get? b=some o->H b=none->H' b=none)
  (there:∀b o,b∉ch->s.heap.get? b=some o -> ∃o',h'.get? b=some o')
  (tups:∀b xs,H b=some (.tup xs)->H' b=some (.tup xs))(frzs:∀b o u,H b=some (.frz o u)->H' b=some (.frz o u))(tbls:∀b ps,H b=some (.tbl ps) -> ∃more,H' b=some (.tbl (ps++more)))
  (ns:∀m,s.heap.Ns X.env.locals m->h'.Ns X.env.locals m)(hok:oF X.prog X.w H' h')(hg:AllBare g') :
  aM X pins σ H' { s with heap:=h',gens:=g',drawn:=d',toks:=t' }:=by
 have neL:∀b o,X.s₀.heap.get? b=some o->b≠X.env.locals:=λb o e=>Yf (Yd (Heap.lt_size e) I.ok.above);have neC:∀b o,X.s₀.heap.get? b=some o->b∉X.ex->b∉ch:=λb o e hx hb=>by
  rcases (hch b hb).1 with z|z
  .exact hx z
  .exact absurd (Yd (Heap.lt_size e) z) (Ye _)
 have cellK:∀x c,X.env.cells.lookup x=some c -> ∀v,s.heap.IsCell c v->h'.IsCell c v:=λx c e v ⟨o,ho,hd⟩=>by
  have nch:c∉ch:=λz=>(hch c z).2.2.1 x c e rfl;by_cases hc:c∈X.fs
  .obtain⟨sl,q⟩:=slot c o (I.cne x c e) hc nch ho (I.freeC x c e);exact⟨_,q,hd⟩
  .exact⟨o,keep c o (I.cne x c e) hc nch ho (I.freeC x c e),hd⟩
 refine⟨I.ok,I.os,hg,⟨λb o e n hb hx=>?_,λb o e n hb hx=>?_,λb o e n hx=>?_,λb o e hx=>?_,λb xs e=>tups b xs (I.base.tups b xs e),λb o xs e=>frzs b o xs (I.base.frzs b o xs e),λb ps e=>?_⟩,?_,λx c e=>?_,?_,λx c e=>?_,λp hp=>?_,hok,I.len⟩
 .exact keep b o (neL b o e) hb (neC b o e hx) (I.base.keep b o e n hb hx) (I.base.free b o e n hx)
 .obtain⟨sl,e1⟩:=I.base.slot b o e n hb hx;obtain⟨sl',e2⟩:=slot b _ (neL b o e) hb (neC b o e hx) e1 (I.base.free b o e n hx);exact⟨sl',e2⟩
 .obtain⟨o',e1⟩:=I.base.there b o e hx;exact free b o' (neC b o e hx) e1 (I.base.free b o e n hx)
 .obtain⟨o',e1⟩:=I.base.there b o e hx;exact there b o' (neC b o e hx) e1
 .obtain⟨m1,e1⟩:=I.base.tbls b ps e;obtain⟨m2,e2⟩:=tbls b _ e1;exact⟨m1++m2,by rw[e2,Array.append_assoc]⟩
 .obtain⟨m,hn,hl⟩:=I.loc;refine⟨m,ns m hn,λi x v e1 e2 e3=>?_⟩;obtain⟨u,r,l⟩:=hl i x v e1 e2 e3;refine⟨u,r,?_⟩;rcases l with l|⟨k,c,e,z⟩
  .exact .inl l
  .exact .inr ⟨k,c,e,cellK x c e _ z⟩
 .obtain⟨v,z⟩:=I.cell x c e;exact⟨v,cellK x c e v z⟩
 .obtain⟨m,⟨o,_,_,ho,_⟩,_⟩:=I.loc;exact free _ o (λz=>(hch _ z).2.1 rfl) ho I.free
 .obtain⟨v,o,ho,hd⟩:=I.cell x c e;exact free c o (λz=>(hch c z).2.2.1 x c e rfl) ho (I.freeC x c e)
 .obtain⟨e,n,ne,nf,d⟩:=I.pin p hp;have nch:p.1∉ch:=λz=>(hch p.1 z).2.2.2 p hp rfl;exact⟨keep p.1 p.2 ne nf nch e n,free p.1 p.2 nch e n,ne,nf,d⟩
theorem aM.un{t':Nat}(I:aM X pins σ H s)(u:Un X.fs [] H H' s.heap h')(hok:oF X.prog X.w H' h'):aM X pins σ H' { s with heap:=h',toks:=t' }:=by
 obtain⟨m,⟨o,es,ep,ho,r⟩,_⟩:=id I.loc;obtain⟨sl,hL⟩:=u.any ho I.free (by simp)
 exact I.step (g':=s.gens) (d':=s.drawn) (ch:=[]) (λ_ z=>nomatch z) (λb o _ hb _ e n=>u.keep b o e n hb (by simp)) (λb o _ hb _ e n=>u.slot b o e n hb (by simp)) (λb o _ e n=>u.free b o e n (by simp)) (λb o _ e=>u.there b o e (by simp)) u.tups u.frzs u.tbls (λm' hm=>by
  obtain⟨o',es',ep',ho',r'⟩:=hm;rw[ho] at ho';cases ho';exact⟨_,es',ep',hL,r'⟩) hok I.bare
theorem aM.call{g':Array GenState}{t':Nat}{d':Drawn}{ch:List Addr}(I:aM X pins σ H s)(u:Un (AW X.stack) ch H H' s.heap h')(hok:oF X.prog X.w H' h')(hg:AllBare g')
  (hch:∀b∈ch,(b∈X.ex\/X.s₀.heap.objs.size<=b)/\b≠X.env.locals/\(∀x c,X.env.cells.lookup x=some c->c≠b) /\ ∀p∈X.pn++pins,p.1≠b) :
  aM X pins σ H' { s with heap:=h',gens:=g',drawn:=d',toks:=t' }:=by
 obtain⟨m,⟨o,es,ep,ho,r⟩,_⟩:=id I.loc;obtain⟨sl,hL⟩:=u.any ho I.free λz=>(hch _ z).2.1 rfl;exact I.step (ch:=ch) hch (λb o hL hb hc e n=>u.keep b o e n (λz=>(YY.mp (I.stkSub b z)).elim hL hb) hc) (λb o _ _ hc e n=>u.any e n hc) (λb o hc e n=>u.free b o e n hc) (λb o hc e=>u.there b o e hc) u.tups u.frzs u.tbls (λm' hm=>by
  obtain⟨o',es',ep',ho',r'⟩:=hm;rw[ho] at ho';cases ho';exact⟨_,es',ep',hL,r'⟩) hok hg
theorem aM.turned{t':Nat}{it:Addr}(I:aM X pins σ H s)(k:∀b o,b≠it->s.heap.get? b=some o->h'.get? b=some o)(hn:H it=none)(hL:it≠X.env.locals)
  (h1:it∈X.ex\/X.s₀.heap.objs.size<=it)(h2:∀x c,X.env.cells.lookup x=some c->c≠it)(h3:∀p∈X.pn++pins,p.1≠it):aM X pins σ H { s with heap:=h',toks:=t' }:=by
 have nit:∀b u,H b=some u->b≠it:=λb u e z=>by rw[z,hn] at e;cases e
 refine I.step (g':=s.gens) (d':=s.drawn) (ch:=[it]) (λb hb=>?_) (λb o _ _ hc e _=>k b o (λz=>hc (by simp[z])) e) (λb o _ _ hc e _=>⟨o.slots,k b o (λz=>hc (by simp[z])) e⟩) (λ_ _ _ _ n=>n)
  (λb o hc e=>⟨o,k b o (λz=>hc (by simp[z])) e⟩) (λ_ _ e=>e) (λ_ _ _ e=>e) (λb ps e=>⟨#[],by rw[e];simp⟩) (λm hm=>?_) (λb u e=>?_) I.bare
 .have e:b=it:=by simpa using hb
  subst e;exact⟨h1,hL,h2,h3⟩
 .obtain⟨o,es,ep,ho,r⟩:=hm;exact⟨o,es,ep,k _ o (Ne.symm hL) ho,r⟩
 .refine (I.hok b u e).stay (λc v hc q=>k c v ?_ q) (λ_ q=>q) λ_ _ q=>q;rcases hc with z|z
  .rw[z];exact nit b u e
  .exact nit c _ z
theorem aM.tok(I:aM X pins σ H s)(t:Nat):aM X pins σ H { s with toks:=t }:=I.un (h':=s.heap) (t':=t) Un.refl I.hok
theorem aM.kept{t':Nat}(I:aM X pins σ H s)(k:∀b u,s.heap.get? b=some u->h'.get? b=some u):aM X pins σ H { s with heap:=h',toks:=t' }:=I.un (Un.kept k) (I.hok.kept k)
theorem aM.laid{a:Addr}{o:HO}{t':Nat}(I:aM X pins σ H s)(k:∀b u,s.heap.get? b=some u->h'.get? b=some u)(hp:s.heap.objs.size<=a)(new:dY X.prog X.w (upd H a o) h' a o) :
  aM X pins σ (upd H a o) { s with heap:=h',toks:=t' }:=I.un (Un.laid k hp (I.hok.fresh hp)) (I.hok.laid k hp new)
theorem aM.write{x e:Addr}{o:HO}{t':Nat}(I:aM X pins σ H s)(mu:Lo (H x))(he:e=x\/H e=some (.own x))(k:∀b u,b≠e->s.heap.get? b=some u->h'.get? b=some u)(heo:∃u,h'.get? e=some u)
  (new:dY X.prog X.w (upd H x o) h' x o):aM X pins σ (upd H x o) { s with heap:=h',toks:=t' }:=I.un (Un.write mu he k heo) (I.hok.write mu he k heo new)
theorem aM.pins_of{pins':List (Addr×Obj)}(I:aM X pins σ H s)(h:∀p∈pins',s.heap.get? p.1=some p.2/\H p.1=none/\p.1≠X.env.locals/\p.1∉X.fs /\ ∀v,p.2.data ≠ .cell v):aM X pins' σ H s :=
 ⟨I.ok,I.os,I.bare,I.base,I.loc,I.cell,I.free,I.freeC,λp hp=>(List.mem_append.mp hp).elim (λz=>I.pin p (Yk _ z)) (h p),I.hok,I.len⟩
theorem uC{N:List Str}(hN:N.Nodup) {i j:Nat}{x:Str}(a:N[i]? = some x)(b:N[j]? = some x):i=j:=by
 obtain⟨h1,e1⟩:=List.getElem?_eq_some_iff.mp a;obtain⟨h2,e2⟩:=List.getElem?_eq_some_iff.mp b;exact (List.getElem_inj hN).mp (e1.trans e2.symm)
theorem qZ{M:Model}{A:Around}{E:Value->Shared->Prop}{i:Nat}{x:Str}{v:V}{u:Value}{Q:Unit->Shared->Prop}(I:aM X pins σ H s)(hN:X.N.Nodup)(hi:X.N[i]? = some x)(hx:D6 X.env.scope x)(r:cy v u)
  (h:∀s',aM X pins (σ.set i (some v)) H s'->(∃a,Heap.SameBut a s.heap s'.heap/\(a=X.env.locals\/X.env.cells.lookup x=some a))->Q PUnit.unit s')(hf:X.fn x=true\/X.env.scope.names.lookup x=some .local:=by first|exact .inl rfl|exact .inr rfl|assumption):wpAny M A (storeName X.env x u) Q E s:=by
 obtain⟨m,hn,hl⟩:=id I.loc;have hcls:(X.env.scope.kind == .class || (X.env.scope.kind == .module && X.env.locals != X.env.globals))=false:=by rw[I.ok.kind];rfl
 have hiσ:i<σ.length:=by rw[I.len];exact (List.getElem?_eq_some_iff.mp hi).1
 have cne:=I.cne;have tracked:∀{a:Addr}{h':Heap},(∃o,s.heap.get? a=some o/\H a=none)->Heap.SameBut a s.heap h'->oF X.prog X.w H h':=λ{a h'} ha hs b ob e=>by
  obtain⟨_,_,hfree⟩:=ha;refine (I.hok b ob e).stay (λc w' hc q=>(hs.2 c ?_).trans q) (λ_ q=>q) λ_ _ q=>q;rintro rfl;rcases hc with rfl|hc
  .rw[hfree] at e;cases e
  .rw[hfree] at hc;cases hc
 rcases hx with hk|hk
 .refine wpAny_storeName_local hk hn (λh' hn' hs=>?_) hcls;obtain⟨oL,_,_,hoL,_⟩:=id hn;refine h _ ⟨I.ok,I.os,I.bare,⟨λb o e n hb hx=>?_,λb o e n hb hx=>?_,I.base.free,λb o e hx=>?_,I.base.tups,I.base.frzs,I.base.tbls⟩,⟨_,hn',λj y v' e1 e2 e3=>?_⟩,λy c e=>?_,I.free,I.freeC,λp hp=>?_,tracked ⟨oL,hoL,I.free⟩ hs,by simpa using I.len⟩ ⟨_,hs,.inl rfl⟩
  .exact (hs.2 b (Yf (Yd (Heap.lt_size e) I.ok.above))).trans (I.base.keep b o e n hb hx)
  .obtain⟨sl,e1⟩:=I.base.slot b o e n hb hx;exact⟨sl,(hs.2 b (Yf (Yd (Heap.lt_size e) I.ok.above))).trans e1⟩
  .obtain⟨o',e1⟩:=I.base.there b o e hx;exact⟨o',(hs.2 b (Yf (Yd (Heap.lt_size e) I.ok.above))).trans e1⟩
  .by_cases hj:j=i
   .subst hj;rw[hi] at e1;cases e1;rw[List.getElem?_set_self hiσ] at e2;cases e2;exact⟨u,r,.inl ⟨hk,by simp⟩⟩
   .rw[Yl (Ne.symm hj)] at e2;obtain⟨u',r',q⟩:=hl j y v' e1 e2 e3;refine⟨u',r',?_⟩;rcases q with ⟨k,e⟩|⟨k,c,e,z⟩
    .refine .inl ⟨k,?_⟩;have:y≠x:=λe=>hj (uC hN e1 (e▸hi));simp[this,e]
    .exact .inr ⟨k,c,e,z.sameBut hs (cne y c e)⟩
  .obtain⟨w',z⟩:=I.cell y c e;exact⟨w',z.sameBut hs (cne y c e)⟩
  .obtain⟨e,n,ne,nf,d⟩:=I.pin p hp;exact⟨(hs.2 p.1 ne).trans e,n,ne,nf,d⟩
 .have hfn:X.fn x=true:=by
   rcases hf with z|z
   .exact z
   .rw[z] at hk;cases hk
  obtain⟨c,hc⟩:=I.ok.has x (.inl hk);obtain⟨w',z⟩:=I.cell x c hc;refine wpAny_storeName_cell I.ok.kind hk hc z (λh' hc' hs=>?_);obtain⟨oc,hoc,hocd⟩:=id z;refine h { s with heap:=h' } ⟨I.ok,I.os,I.bare,⟨λb o e n hb hx=>?_,λb o e n hb hx=>?_,I.base.free,λb o e hx=>?_,I.base.tups,I.base.frzs,I.base.tbls⟩,⟨m,hn.sameBut hs (Ne.symm (cne x c hc)),λj y v' e1 e2 e3=>?_⟩,λy c' e=>?_,I.free,I.freeC,λp hp=>?_,tracked ⟨oc,hoc,I.freeC x c hc⟩ hs,by simpa using I.len⟩ ⟨c,hs,.inr hc⟩
  .exact (hs.2 b (Yf (Yd (Heap.lt_size e) (I.ok.cab x c hfn hc)))).trans (I.base.keep b o e n hb hx)
  .obtain⟨sl,e1⟩:=I.base.slot b o e n hb hx;exact⟨sl,(hs.2 b (Yf (Yd (Heap.lt_size e) (I.ok.cab x c hfn hc)))).trans e1⟩
  .obtain⟨o',e1⟩:=I.base.there b o e hx;exact⟨o',(hs.2 b (Yf (Yd (Heap.lt_size e) (I.ok.cab x c hfn hc)))).trans e1⟩
  .by_cases hj:j=i
   .subst hj;rw[hi] at e1;cases e1;rw[List.getElem?_set_self hiσ] at e2;cases e2;exact⟨u,r,.inr ⟨.inl hk,c,hc,hc'⟩⟩
   .rw[Yl (Ne.symm hj)] at e2;obtain⟨u',r',q⟩:=hl j y v' e1 e2 e3;refine⟨u',r',?_⟩;rcases q with q|⟨k,c',e,z'⟩
    .exact .inl q
    .refine .inr ⟨k,c',e,z'.sameBut hs ?_⟩;rintro rfl;exact hj (uC hN e1 (I.ok.inj _ _ _ e hc▸hi))
  .by_cases hcc:c'=c
   .subst hcc;exact⟨_,hc'⟩
   .obtain⟨w2,z2⟩:=I.cell y c' e;exact⟨w2,z2.sameBut hs hcc⟩
  .obtain⟨e,n,ne,nf,d⟩:=I.pin p hp;refine⟨(hs.2 p.1 ?_).trans e,n,ne,nf,d⟩;intro q;rw[q,hoc] at e;have q':oc=p.2:=Ym e;exact d w' (by rw[<-q'];exact hocd)
theorem jJ{M:Model}{A:Around}{E:Value->Shared->Prop}{i:Nat}{x:Str}{v:V}{u:Value}{Q:Unit->Shared->Prop}(I:aM X pins σ H s)(hN:X.N.Nodup)(hi:X.N[i]? = some x)(hx:D6 X.env.scope x)(r:cy v u)
  (h:∀s',aM X pins (σ.set i (some v)) H s'->Q PUnit.unit s')(hf:X.fn x=true\/X.env.scope.names.lookup x=some .local:=by first|exact .inl rfl|exact .inr rfl|assumption):wpAny M A (storeName X.env x u) Q E s :=
 qZ I hN hi hx r (λs' I' _=>h s' I') hf
theorem aM.call'{s':Shared}{ch:List Addr}(I:aM X pins σ H s)(ho:s'.os=s.os)(u:Un (AW X.stack) ch H H' s.heap s'.heap)(hok:oF X.prog X.w H' s'.heap)(hg:AllBare s'.gens)
  (hch:∀b∈ch,(b∈X.ex\/X.s₀.heap.objs.size<=b)/\b≠X.env.locals/\(∀x c,X.env.cells.lookup x=some c->c≠b) /\ ∀p∈X.pn++pins,p.1≠b):aM X pins σ H' s':=by
 obtain⟨h',g',d',t',o'⟩:=s';have e:o'=s.os:=ho;subst e;exact I.call (g':=g') (t':=t') (d':=d') u hok hg hch
end
abbrev XK:=Value->Option Addr->Hp->Prop
abbrev St:=List (Option V)
abbrev VK:=V->Hp->Prop
abbrev TE:=St->Hp->VK->Prop
abbrev TT:=St->Hp->(Bool->Hp->Prop)->Prop
abbrev TA:=St->Hp->(List V->Hp->Prop)->Prop
structure og where
 nx:St->Hp->Prop
 rt:VK
 bk:St->Hp->Prop:=λ_ _=>False
 ct:St->Hp->Prop:=λ_ _=>False
abbrev TS:=og->St->Hp->Prop
def EP(X:Cx)(pins:List (Addr×Obj))(σ:St)(Q:VK)(u:Value)(s':Shared):Prop:=∃v H',aM X pins σ H' s'/\cy v u/\Q v H'
def TP(X:Cx)(pins:List (Addr×Obj))(σ:St)(Q:Bool->Hp->Prop)(b:Bool)(s':Shared):Prop:=∃H',aM X pins σ H' s'/\Q b H'
def AP(X:Cx)(pins:List (Addr×Obj))(σ:St)(Q:List V->Hp->Prop)(us:List Value)(s':Shared):Prop:=∃vs H',aM X pins σ H' s'/\bC vs us/\Q vs H'
def SP(X:Cx)(pins:List (Addr×Obj))(D:og)(f:Flow)(s':Shared):Prop :=
 match f with
 | .next=>∃σ' H',aM X pins σ' H' s'/\D.nx σ' H'
 | .brk=>∃σ' H',aM X pins σ' H' s'/\D.bk σ' H'
 | .cont=>∃σ' H',aM X pins σ' H' s'/\D.ct σ' H'
 | .ret u=>∃v σ' H',aM X pins σ' H' s'/\cy v u/\D.rt v H'
def PE(X:Cx)(e:Expr)(t:TE):Prop :=
 ∀(pins:List (Addr×Obj))(s:Shared)(σ:St)(H:Hp)(Q:VK),aM X pins σ H s->t σ H Q->wpAny (model X.prog X.w) X.A (eval e X.env) (EP X pins σ Q) X.xe s
def PT(X:Cx)(e:Expr)(t:TT):Prop :=
 ∀(pins:List (Addr×Obj))(s:Shared)(σ:St)(H:Hp)(Q:Bool->Hp->Prop),aM X pins σ H s->t σ H Q->wpAny (model X.prog X.w) X.A (isTrue e X.env (eval e X.env)) (TP X pins σ Q) X.xe s
def PW(X:Cx)(e:Expr)(t:TT):Prop :=
 ∀(whole:Sem Value)(pins:List (Addr×Obj))(s:Shared)(σ:St)(H:Hp)(Q:Bool->Hp->Prop),aM X pins σ H s->t σ H Q->wpAny (model X.prog X.w) X.A (isTrue e X.env whole) (TP X pins σ Q) X.xe s
theorem PW.pt{X:Cx}{e:Expr}{t:TT}(h:PW X e t):PT X e t:=h _
def PA(X:Cx)(es:List Expr)(t:TA):Prop :=
 ∀(pos:Pos)(pins:List (Addr×Obj))(s:Shared)(σ:St)(H:Hp)(Q:List V->Hp->Prop),aM X pins σ H s->t σ H Q->wpAny (model X.prog X.w) X.A (spliced (backTo pos (starEach es X.env))) (AP X pins σ Q) X.xe s
def PS(X:Cx)(st:Stmt)(t:TS):Prop :=
 ∀(pins:List (Addr×Obj))(s:Shared)(σ:St)(H:Hp)(D:og),aM X pins σ H s->t D σ H->wpAny (model X.prog X.w) X.A (exec st X.env) (SP X pins D) X.xe s
def vJ(X:Cx)(st:List Stmt)(t:TS):Prop :=
 ∀(pins:List (Addr×Obj))(s:Shared)(σ:St)(H:Hp)(D:og),aM X pins σ H s->t D σ H->wpAny (model X.prog X.w) X.A (execs st X.env) (SP X pins D) X.xe s
theorem dH{α:Type}{t:Sem α}{Q Q':α->Shared->Prop}{M:Model}{A:Around}{E:Value->Shared->Prop}{s:Shared}(h:wpAny M A t Q E s)(hQ:∀a s,Q a s->Q' a s):wpAny M A t Q' E s:=wpAny_mono h hQ λ_ _ x=>x
section
variable {X:Cx}
def Gg(i:Nat):TE:=λσ H Q=>∃v,σ[i]? = some (some v)/\Q v H
def tC(v:V):TE:=λ_ H Q=>Q v H
theorem Is{i:Nat}{x:Str}{pos:Pos}(hN:X.N[i]? = some x)(hv:KQ X.env.scope x)(hd:(x==("__debug__" : Str))=false:=by decide) (hcd:(x==("__classdict__" : Str))=false:=by decide):PE X (.Name x pos) (Gg i):=by
 intro pins s σ H Q I h;obtain⟨v,e,h⟩:=h;obtain⟨m,hn,hl⟩:=I.loc;obtain⟨u,r,l⟩:=hl i x v hN e hv;have fin:EP X pins σ Q u s:=⟨v,H,I,r,h⟩;rcases l with ⟨hk,hm⟩|⟨hk,c,hc,hcell⟩
 .exact wpAny_Name (wpAny_loadName_local I.ok.kind hk hn hm fin) hd
 .rcases hk with hk|hk
  .exact wpAny_Name (wpAny_loadName_cell I.ok.kind hk hc hcell fin) hd
  .exact wpAny_Name (wpAny_loadName_free I.ok.kind hk hc hcell fin hcd) hd
theorem JD {i j pos}:PE X (.Constant (.int i) j pos) (tC (.int i)):=λ_ _ _ H _ I h=>wpAny_Constant_int ⟨.int i,H,I.tok _,⟨_,rfl⟩,h⟩
theorem Kj {b j pos}:PE X (.Constant (.bool b) j pos) (tC (.bl b)):=λ_ _ _ H _ I h=>Constant_bool ⟨.bl b,H,I,rfl,h⟩
theorem IB {j pos}:PE X (.Constant .none j pos) (tC .non):=λ_ _ _ H _ I h=>Constant_none ⟨.non,H,I,rfl,h⟩
def Gl(X:Cx)(x:Str):Prop:=X.env.kindOf x=some .globalImplicit
theorem xN{E:Value->Shared->Prop}{pins:List (Addr×Obj)}{s:Shared}{σ:St}{H:Hp}{x:Str}{u:Value}{pos:Pos}{Q:Value->Shared->Prop}(I:aM X pins σ H s)(hg:Gl X x)(hm:X.mg x=some u)(h:Q u s)
  (hd:(x==("__debug__" : Str))=false:=by decide):wpAny (model X.prog X.w) X.A (eval (.Name x pos) X.env) Q E s :=
 Calls.Name_function_global I.ok.kind hg (Calls.loadGlobal_global (by rw[I.ok.glob];exact I.mod.glob.keeps I.bk) hm h) hd
theorem i9{E:Value->Shared->Prop}{pins:List (Addr×Obj)}{s:Shared}{σ:St}{H:Hp}{x:Str}{u:Value}{pos:Pos}{Q:Value->Shared->Prop}(I:aM X pins σ H s)(hg:Gl X x)(hm:X.mg x=none)(hv:bootBuiltins x=some u)(h:Q u s)
  (hn:x ≠ "__name__":=by decide) (hd:(x==("__debug__" : Str))=false:=by decide):wpAny (model X.prog X.w) X.A (eval (.Name x pos) X.env) Q E s:=by
 obtain⟨mb,h1,h2⟩:=I.mod.blt;exact Calls.Name_function_global I.ok.kind hg (Calls.loadGlobal_builtin (by rw[I.ok.glob];exact I.mod.glob.keeps I.bk) hm (by rw[I.ok.blt];exact h1.keeps I.bk) ((h2 x hn).trans hv) h) hd
theorem Fm{x:Str}{v:V}{u:Value}{pos:Pos}(hg:Gl X x)(hm:X.mg x=some u)(r:cy v u)(hd:(x==("__debug__" : Str))=false:=by decide):PE X (.Name x pos) (tC v) :=
 λ_ _ _ H _ I h=>xN I hg hm ⟨v,H,I,r,h⟩ hd
theorem D8{x:Str}{v:V}{u:Value}{pos:Pos}(hg:Gl X x)(hm:X.mg x=none)(hv:bootBuiltins x=some u)(r:cy v u)(hn:x ≠ "__name__":=by decide) (hd:(x==("__debug__" : Str))=false:=by decide):PE X (.Name x pos) (tC v) :=
 λ_ _ _ H _ I h=>i9 I hg hm hv ⟨v,H,I,r,h⟩ hn hd
variable {a b:Expr}{ta tb:TE}{pos:Pos}
def tB(t:TE):TT:=λσ H Q=>t σ H λx H1=>∃c,x=.bl c/\Q c H1
theorem Jn{e:Expr}{t:TE}(h:PE X e t)(he:∀whole,isTrue e X.env whole=(do let v <-whole;standAt e.pos;holding [v] (truthy v)):=by intro _;rfl):PT X e (tB t):=by
 intro pins s σ H Q I hw;refine isTrue_plain (dH (h pins s σ H _ I hw) λv s1 ⟨x,H1,I1,r1,q1⟩=>?_) (he _);obtain⟨d,rfl,q⟩:=q1;cases r1;exact wpAny_truthy_bool ⟨H1,I1,q⟩
variable {tA tB':TT}{rest:List Expr}
def Hq(t u:TT):TT:=λσ H Q=>t σ H λc H1=>if c=true then u σ H1 Q else Q false H1
def L6(t u:TT):TT:=λσ H Q=>t σ H λc H1=>if c=true then Q true H1 else u σ H1 Q
def HX(t:TT):TT:=λσ H Q=>t σ H λc H1=>Q (!c) H1
theorem Fy(ha:PT X a tA):PW X (.BoolOp .And [a] pos) tA:=by
 intro wh pins s σ H Q I h;refine isTrue_and (dH (ha pins s σ H Q I h) λc s1 e=>?_);cases c with
 | true=>exact isTrue_and_nil e
 | false=>exact e
theorem Jp(ha:PT X a tA):PW X (.BoolOp .Or [a] pos) tA:=by
 intro wh pins s σ H Q I h;refine isTrue_or (dH (ha pins s σ H Q I h) λc s1 e=>?_);cases c with
 | false=>exact isTrue_or_nil e
 | true=>exact e
theorem IT(ha:PT X a tA)(hb:PW X (.BoolOp .And (b::rest) pos) tB'):PW X (.BoolOp .And (a::b::rest) pos) (Hq tA tB'):=by
 intro wh pins s σ H Q I h;refine isTrue_and (dH (ha pins s σ H _ I h) λc s1 ⟨H1,I1,q1⟩=>?_);cases c with
 | true=>exact hb wh pins s1 σ H1 Q I1 q1
 | false=>exact⟨H1,I1,q1⟩
theorem KE(ha:PT X a tA)(hb:PW X (.BoolOp .Or (b::rest) pos) tB'):PW X (.BoolOp .Or (a::b::rest) pos) (L6 tA tB'):=by
 intro wh pins s σ H Q I h;refine isTrue_or (dH (ha pins s σ H _ I h) λc s1 ⟨H1,I1,q1⟩=>?_);cases c with
 | true=>exact⟨H1,I1,q1⟩
 | false=>exact hb wh pins s1 σ H1 Q I1 q1
theorem JJ(ha:PT X a tA):PT X (.UnaryOp .Not a pos) (HX tA):=by
 intro pins s σ H Q I h;exact isTrue_not (ha pins s σ H (λc H1=>Q (!c) H1) I h)
def zp(ta tb:TE):TE:=λσ H Q=>ta σ H λx H1=>∃c,x=.bl c/\if c=true then tb σ H1 Q else Q (.bl false) H1
def KH(ta tb:TE):TE:=λσ H Q=>ta σ H λx H1=>∃c,x=.bl c/\if c=true then Q (.bl true) H1 else tb σ H1 Q
def Gz(ta:TE):TE:=λσ H Q=>ta σ H λx H1=>∃c,x=.bl c/\Q (.bl (!c)) H1
theorem IM {op}{t:TE}(h:PE X a t):PE X (.BoolOp op [a] pos) t:=λpins s σ H Q I hw=>BoolOp_one (h pins s σ H Q I hw)
theorem HK(ha:PE X a ta)(hb:PE X (.BoolOp .And (b::rest) pos) tb):PE X (.BoolOp .And (a::b::rest) pos) (zp ta tb):=by
 intro pins s σ H Q I h;refine BoolOp_and (dH (ha pins s σ H _ I h) λv s1 ⟨x,H1,I1,r1,q1⟩=>?_);obtain⟨c,rfl,q1⟩:=q1;cases r1;refine wpAny_truthy_bool ?_;cases c with
 | true=>exact hb pins s1 σ H1 Q I1 q1
 | false=>exact⟨.bl false,H1,I1,rfl,q1⟩
def LO(t:TT)(ta tb:TE):TE:=λσ H Q=>t σ H λc H1=>if c=true then ta σ H1 Q else tb σ H1 Q
theorem BH{c:Expr}(hc:PT X c tA)(ha:PE X a ta)(hb:PE X b tb):PE X (.IfExp c a b pos) (LO tA ta tb):=by
 intro pins s σ H Q I h;refine wpAny_IfExp (dH (hc pins s σ H _ I h) λd s1 ⟨H1,I1,q1⟩=>?_);cases d with
 | true=>exact ha pins s1 σ H1 Q I1 q1
 | false=>exact hb pins s1 σ H1 Q I1 q1
end
def kQ(K:W.Frag)(H:Hp)(a:Addr)(xs:List V):Prop :=
 Rd H a (.lst xs) \/
  ∃(o:Obj)(its:Array Value)(n:Nat),K.lookup a=some o/\o.cls=.type "list" /\ o.dict=none/\o.data=.seq its n/\its.size<=sizeLine/\bC xs its.toList
def zg(K:W.Frag)(H:Hp)(a:Addr)(xs:List V):Prop :=
 Rd H a (.tup xs) \/
  ∃(o:Obj)(its:Array Value)(n:Nat),K.lookup a=some o/\o.cls=.type "tuple" /\ o.data=.seq its n/\its.size<=sizeLine/\bC xs its.toList
def KR:Value->Option V
 | .none=>some .non
 | .bool b=>some (.bl b)
 | .int i _=>some (.int i)
 | .str x _=>some (.str x)
 | .bytes b _=>some (.byt b)
 | .float b _=>some (.flt b)
 | .ref a=>some (.ref a)
 | .type n=>some (.ty n)
 | _=>none
theorem cy.abs{x:V}{u:Value}(r:cy x u):KR u=some x:=by
 cases x with
 | non=>cases r;rfl
 | bl _=>cases r;rfl
 | int _=>obtain⟨t,rfl⟩:=r;rfl
 | str _=>obtain⟨t,rfl⟩:=r;rfl
 | byt _=>obtain⟨t,rfl⟩:=r;rfl
 | flt _=>obtain⟨t,rfl⟩:=r;rfl
 | ref _=>cases r;rfl
 | ty _=>cases r;rfl
theorem cy.inj{x y:V}{u:Value}(r:cy x u)(q:cy y u):x=y:=Ym (r.abs.symm.trans q.abs)
theorem bC.inj:∀{xs ys:List V}{us:List Value},bC xs us->bC ys us->xs=ys
 | _,_,_,.nil,.nil=>rfl
 | _,_,_,.cons r t,.cons r' t'=>by rw[r.inj r',bC.inj t t']
section
variable {X:Cx}{pins:List (Addr×Obj)}{σ:St}{H:Hp}{s:Shared}{a:Addr}{xs ys:List V}
theorem kQ.of{K:W.Frag}(h:H a=some (.lst xs)):kQ K H a xs:=.inl (.inl h)
theorem zg.of{K:W.Frag}(h:H a=some (.tup xs)):zg K H a xs:=.inl (.inl h)
theorem aM.list(I:aM X pins σ H s)(h:kQ X.K H a xs):∃its:List Value,bC xs its/\PlainL s.heap a its.toArray/\xs.length<=sizeLine:=by
 rcases h with h|⟨o,its,n,hk,hc,hd,hs,hz,r⟩
 .obtain⟨z,its,n,r,e⟩:=h.ok I.hok;exact⟨its,r,⟨_,n,e,rfl,rfl,rfl⟩,z⟩
 .refine⟨its.toList,r,⟨o,n,I.kIn a o hk,hc,hd,by simpa using hs⟩,?_⟩
  have e:=r.length;simp only[Array.length_toList] at e;nofun
theorem aM.tuple(I:aM X pins σ H s)(h:zg X.K H a xs):∃its:List Value,bC xs its/\IsTup s.heap a its.toArray/\xs.length<=sizeLine:=by
 rcases h with h|⟨o,its,n,hk,hc,hs,hz,r⟩
 .obtain⟨z,its,r,p⟩:=h.ok I.hok;exact⟨its,r,p,z⟩
 .refine⟨its.toList,r,⟨o,I.kIn a o hk,hc,n,by simpa using hs⟩,?_⟩
  have e:=r.length;simp only[Array.length_toList] at e;nofun
theorem aM.list_inj(I:aM X pins σ H s)(h:kQ X.K H a xs)(h':kQ X.K H a ys):xs=ys:=by
 obtain⟨its,r,⟨o,n,e,_,_,d⟩,_⟩:=I.list h;obtain⟨its',r',⟨o',n',e',_,_,d'⟩,_⟩:=I.list h';rw[e] at e';cases e';rw[d] at d';injection d' with d1 _
 have:its=its':=by simpa using Yn Array.toList d1
 subst this;exact r.inj r'
end
abbrev Cx.wish (X:Cx)(E:Value->Shared->Prop):Cx:={ X with xe:=E }
abbrev Cx.nox (X:Cx):Cx:=X.wish λ_ _=>False
theorem Cx.Ok.wish{X:Cx}(ok:X.Ok)(E:Value->Shared->Prop):(X.wish E).Ok :=
 ⟨ok.mod,ok.kind,ok.glob,ok.blt,ok.above,ok.inj,ok.has,ok.cab,ok.hd,ok.frames,ok.stk,ok.exf,ok.bs,ok.bsz,ok.noex,ok.exfs,ok.funs,ok.frf⟩
theorem Cx.Ok.unwish{X:Cx}{E:Value->Shared->Prop}(ok:(X.wish E).Ok):X.Ok :=
 ⟨ok.mod,ok.kind,ok.glob,ok.blt,ok.above,ok.inj,ok.has,ok.cab,ok.hd,ok.frames,ok.stk,ok.exf,ok.bs,ok.bsz,ok.noex,ok.exfs,ok.funs,ok.frf⟩
section
variable {X:Cx}{pins:List (Addr×Obj)}{σ:St}{H:Hp}{s:Shared}{E:Value->Shared->Prop}
theorem aM.wish(I:aM X pins σ H s)(E:Value->Shared->Prop):aM (X.wish E) pins σ H s:=⟨I.ok.wish E,I.os,I.bare,I.base,I.loc,I.cell,I.free,I.freeC,I.pin,I.hok,I.len⟩
theorem aM.unwish(I:aM (X.wish E) pins σ H s):aM X pins σ H s:=⟨I.ok.unwish,I.os,I.bare,I.base,I.loc,I.cell,I.free,I.freeC,I.pin,I.hok,I.len⟩
theorem SP.unwish{D:og}{f:Flow}{s':Shared}(h:SP (X.wish E) pins D f s'):SP X pins D f s':=by
 cases f with
 | next=>obtain⟨σ',H',I,q⟩:=h;exact⟨σ',H',I.unwish,q⟩
 | brk=>obtain⟨σ',H',I,q⟩:=h;exact⟨σ',H',I.unwish,q⟩
 | cont=>obtain⟨σ',H',I,q⟩:=h;exact⟨σ',H',I.unwish,q⟩
 | ret u=>obtain⟨v,σ',H',I,r,q⟩:=h;exact⟨v,σ',H',I.unwish,r,q⟩
theorem vJ.nox{st:List Stmt}{t:TS}(h:vJ X.nox st t):vJ X st t:=λpins s σ H D I hw =>
 wpAny_mono (h pins s σ H D (I.wish _) hw) (λ_ _ q=>q.unwish) λ_ _ z=>False.elim z
end
section
variable {X:Cx}{st:Stmt}{rest:List Stmt}{t u:TS}{e:Expr}{te:TE}{pos:Pos}
def Ck:TS:=λD σ H=>D.nx σ H
def aU(t u:TS):TS:=λD σ H=>t { D with nx:=u D } σ H
theorem ET:vJ X [] Ck:=λ_ _ σ H _ I h=>wpAny_execs_nil ⟨σ,H,I,h⟩
theorem Cd(h1:PS X st t)(h2:vJ X rest u):vJ X (st::rest) (aU t u):=by
 intro pins s σ H D I h;refine wpAny_execs_cons (dH (h1 pins s σ H { D with nx:=u D } I h) λf s1 q=>?_)
 cases f with
 | next =>
  obtain⟨σ',H',I',q⟩:=q;exact h2 pins s1 σ' H' D I' q
 | ret v=>exact q
 | brk=>exact q
 | cont=>exact q
theorem Fp(h1:PS X st t):vJ X [st] t:=by
 intro pins s σ H D I h;refine wpAny_execs_cons (dH (h1 pins s σ H D I h) λf s1 q=>?_);cases f with
 | next=>exact wpAny_execs_nil q
 | ret v=>exact q
 | brk=>exact q
 | cont=>exact q
theorem aM.quiet{pins:List (Addr×Obj)}{σ:St}{H:Hp}{s:Shared}(I:aM X pins σ H s):interactive X.env=false:=by simp[interactive,I.ok.kind]
def Df(te:TE):TS:=λD σ H=>te σ H λ_ H1=>D.nx σ H1
theorem Fk(he:PE X e te)(hs:swapsWith e none pos.line X.env=pure false:=by rfl):PS X (.Expr e pos) (Df te):=by
 intro pins s σ H D I h;exact wpAny_Expr_any (dH (he pins s σ H _ I h) λv s1 ⟨x,H1,I1,r1,q1⟩=>⟨σ,H1,I1,q1⟩) I.quiet hs
def IX(te:TE):TS:=λD σ H=>te σ H D.rt
theorem IQ(he:PE X e te):PS X (.Return (some e) pos) (IX te):=by
 intro pins s σ H D I h;exact wpAny_Return_some (dH (he pins s σ H _ I h) λv s1 ⟨x,H1,I1,r1,q1⟩=>⟨x,σ,H1,I1,r1,q1⟩)
def Kv:TS:=λD _ H=>D.rt .non H
def Ho(c:TT)(t u:TS):TS:=λD σ H=>c σ H λb H1=>if b=true then t D σ H1 else u D σ H1
theorem Kn{c:Expr}{a b:List Stmt}{tc:TT}(hc:PT X c tc)(ha:vJ X a t)(hb:vJ X b u):PS X (.If c a b pos) (Ho tc t u):=by
 intro pins s σ H D I h;refine wpAny_If (dH (hc pins s σ H _ I h) λd s1 ⟨H1,I1,q1⟩=>?_);cases d with
 | true=>exact ha pins s1 σ H1 D I1 q1
 | false=>exact hb pins s1 σ H1 D I1 q1
def wD:TS:=λ_ _ _=>False
theorem Bo:PS X st wD:=λ_ _ _ _ _ _ h=>h.elim
end
abbrev TG:=V->St->Hp->(St->Hp->Prop)->Prop
abbrev AS:=List V->St->Hp->(St->Hp->Prop)->Prop
def PG(X:Cx)(target:Expr)(t:TG):Prop :=
 ∀(pins:List (Addr×Obj))(s:Shared)(σ:St)(H:Hp)(v:V)(u:Value)(Q:St->Hp->Prop),aM X pins σ H s->cy v u->t v σ H Q ->
  wpAny (model X.prog X.w) X.A (assign target X.env u) (λ_ s'=>∃σ' H',aM X pins σ' H' s'/\Q σ' H') X.xe s
def JX(X:Cx)(ts:List Expr)(t:AS):Prop :=
 ∀(pins:List (Addr×Obj))(s:Shared)(σ:St)(H:Hp)(vs:List V)(us:List Value)(Q:St->Hp->Prop),aM X pins σ H s->bC vs us->t vs σ H Q ->
  wpAny (model X.prog X.w) X.A (assignInOrder ((assignEach ts X.env).map (·.2)) us) (λ_ s'=>∃σ' H',aM X pins σ' H' s'/\Q σ' H') X.xe s
abbrev wf:=V->V->V->Hp->(Hp->Prop)->Prop
def Ax(X:Cx)(t:wf):Prop :=
 ∀(pins:List (Addr×Obj))(s:Shared)(σ:St)(H:Hp)(o i v:V)(ov iv u:Value)(Q:Hp->Prop),aM X pins σ H s->cy o ov->cy i iv->cy v u->t o i v H Q ->
  wpAny (model X.prog X.w) X.A (setItem ov iv u) (λ_ s'=>∃H',aM X pins σ H' s'/\Q H') X.xe s
abbrev D5:=V->V->Hp->VK->Prop
def Gx(X:Cx)(op:Operator)(t:D5):Prop :=
 ∀(pins:List (Addr×Obj))(s:Shared)(σ:St)(H:Hp)(x y:V)(v u:Value)(Q:VK),aM X pins σ H s->cy x v->cy y u->t x y H Q ->
  wpAny (model X.prog X.w) X.A (inplaceOp op v u) (EP X pins σ Q) X.xe s
section
variable {X:Cx}{pos:Pos}
def ir(i:Nat):TG:=λv σ H Q=>Q (σ.set i (some v)) H
theorem Gb{i:Nat}{x:Str}(hN:X.N.Nodup)(hi:X.N[i]? = some x)(hx:D6 X.env.scope x)(hf:X.fn x=true\/X.env.scope.names.lookup x=some .local:=by first|exact .inl rfl|exact .inr rfl|assumption):PG X (.Name x pos) (ir i):=by
 intro pins s σ H v u Q I r h;exact wpAny_assign_Name (jJ I hN hi hx r (λs' I'=>⟨_,H,I',h⟩) hf)
def wr:AS:=λvs σ H Q=>vs=[]/\Q σ H
def kH(t:TG)(u:AS):AS:=λvs σ H Q=>∃v r,vs=v::r/\t v σ H λσ' H'=>u r σ' H' Q
theorem ES:JX X [] wr:=by
 intro pins s σ H vs us Q I r h;obtain⟨e,h⟩:=h;subst e;cases r;exact assignInOrder_nil ⟨σ,H,I,h⟩
theorem CT{e:Expr}{es:List Expr}{t:TG}{u:AS}(h1:PG X e t)(h2:JX X es u)
  (hs:(assignEach (e::es) X.env).map (·.2)=assign e X.env::(assignEach es X.env).map (·.2):=by rfl):JX X (e::es) (kH t u):=by
 intro pins s σ H vs us Q I r h;obtain⟨v,vr,e1,h⟩:=h;subst e1;cases r with
 | cons r rr =>
  rw[hs];refine assignInOrder_cons (dH (h1 pins s σ H _ _ _ I r h) λ_ s1 ⟨σ1,H1,I1,q1⟩=>?_);exact h2 pins s1 σ1 H1 _ _ Q I1 rr q1
def Km(K:W.Frag)(n:Nat)(t:AS):TG:=λv σ H Q=>∃a xs,v=.ref a/\zg K H a xs/\xs.length=n/\t xs σ H Q
theorem IS{es:List Expr}{k:Nat}{t:AS}{n:Nat}(hc:X.calm=true)(h:JX X es t)
  (hn:(assignEach es X.env).length=n:=by rfl)(hst:(assignEach es X.env).findIdx? (·.1)=none:=by rfl):PG X (.Tuple es k pos) (Km X.K n t):=by
 intro pins s σ H v u Q I r hw;obtain⟨a,xs,e1,hq,hl,hw⟩:=hw;subst e1;cases r;obtain⟨its,rv,ht,hz⟩:=I.tuple hq;refine assign_Tuple_tuple (I.ok.hd hc) ht (by simp[hn,<-hl,rv.length]) hst λh' hx=>?_
 have I1:aM X pins σ H { s with heap:=h' }:=I.kept (t':=s.toks) λb o e=>hx b o (Yf (Heap.lt_size e)) e
 exact h pins _ σ H xs _ Q I1 (by simpa using rv) hw
def Hv(to ti:TE)(t:wf):TG:=λv σ H Q=>to σ H λo H1=>ti σ H1 λi H2=>t o i v H2 λH3=>Q σ H3
theorem JR{o i:Expr}{to ti:TE}{t:wf}(ho:PE X o to)(hi:PE X i ti)(hs:Ax X t)
  (ha:∀v,assign (.Subscript o i pos) X.env v=(do
   let ov <-holding [v] (eval o X.env)
   let iv <-holding [v,ov] (eval i X.env)
   standAt pos
   holding [v,ov,iv] (setItem ov iv v)
   release [v,ov,iv] []):=by intro _;rfl):PG X (.Subscript o i pos) (Hv to ti t):=by
 intro pins s σ H v u Q I r h;rw[ha];refine wpAny_bind (wpAny_holding (dH (ho pins s σ H _ I h) λov s1 ⟨x,H1,I1,r1,q1⟩=>?_));refine wpAny_bind (wpAny_holding (dH (hi pins s1 σ H1 _ I1 q1) λiv s2 ⟨y,H2,I2,r2,q2⟩=>?_));refine wpAny_bind (wpAny_standAt (wpAny_bind (wpAny_holding (dH (hs pins s2 σ H2 x y v ov iv u _ I2 r1 r2 r q2) λ_ s3 ⟨H3,I3,q3⟩=>?_))));exact wpAny_release ⟨σ,H3,I3,q3⟩
def uJ(te:TE)(g:TG):TS:=λD σ H=>te σ H λx H1=>g x σ H1 D.nx
theorem JO{tg e:Expr}{te:TE}{g:TG}(he:PE X e te)(hg:PG X tg g)(hs:swapsWithSole [tg] e pos.line X.env=pure false:=by rfl)(hw:swappedStores [tg] e X.env=pure none:=by rfl)
  (h1:(assignEach [tg] X.env).map (·.2)=[assign tg X.env]:=by rfl):PS X (.Assign [tg] e pos) (uJ te g):=by
 intro pins s σ H D I h;refine wpAny_Assign_stores (dH (he pins s σ H _ I h) λv s1 ⟨x,H1,I1,r1,q1⟩=>?_) hs hw;rw[h1];exact dH (hg pins s1 σ H1 x v _ I1 r1 q1) λ_ s2 q=>q
theorem HW{i:Nat}{x:Str}{e:Expr}{te:TE}{pos':Pos}(hN:X.N.Nodup)(hi:X.N[i]? = some x)(hx:D6 X.env.scope x)(he:PE X e te)(hs:swapsWith e (some (.Name x pos')) pos.line X.env=pure false:=by rfl)(hf:X.fn x=true\/X.env.scope.names.lookup x=some .local:=by first|exact .inl rfl|exact .inr rfl|assumption) :
  PS X (.Assign [.Name x pos'] e pos) (uJ te (ir i)):=by
 intro pins s σ H D I h;refine wpAny_Assign_Name (dH (he pins s σ H _ I h) λv s1 ⟨y,H1,I1,r1,q1⟩=>?_) hs;exact jJ I1 hN hi hx r1 (λs2 I2=>⟨_,H1,I2,q1⟩) hf
def Ei(i j:Nat)(ta:TA):TS:=λD σ H=>ta σ H λvs H1=>∃v w,vs=[v,w]/\D.nx ((σ.set i (some v)).set j (some w)) H1
theorem Ib{i j:Nat}{x y:Str}{a b:Expr}{ta:TA}{px py pt:Pos} {kt k2 pt2}(hc:X.calm=true)(hN:X.N.Nodup)(hi:X.N[i]? = some x)(hj:X.N[j]? = some y)(hij:i≠j)
  (hx:X.env.scope.names.lookup x=some .local)(hy:X.env.scope.names.lookup y=some .local)(ha:PA X [a,b] ta)
  (hw:swappedStores [.Tuple [.Name x px,.Name y py] kt pt] (.Tuple [a,b] k2 pt2) X.env=pure (some [x,y]))
  (hs:swapsWithSole [.Tuple [.Name x px,.Name y py] kt pt] (.Tuple [a,b] k2 pt2) pos.line X.env=pure false:=by rfl) :
  PS X (.Assign [.Tuple [.Name x px,.Name y py] kt pt] (.Tuple [a,b] k2 pt2) pos) (Ei i j ta):=by
 intro pins s σ H D I h;rw[exec_Assign_arm];refine wpAny_bind (wpAny_standAt ?_);rw[hs];refine wpAny_bind (wpAny_pure ?_);rw[Yc ∅];refine wpAny_bind (Tuple_ (dH (ha _ pins s σ H _ I h) λus s1 ⟨vs,H1,I1,r1,q1⟩=>?_));obtain⟨v,w,e1,q1⟩:=q1;subst e1;obtain⟨u1,u2,rfl,rv,rw'⟩ : ∃u1 u2,us=[u1,u2]/\cy v u1/\cy w u2:=by
  cases r1 with
  | cons p q =>
   cases q with
   | cons p' q' =>
    cases q';exact⟨_,_,rfl,p,p'⟩
 refine wpAny_newObj_type ?_ (by show 2<=sizeLine;decide)
 have I2:aM X pins σ H1 { s1 with heap:=s1.heap.push { cls:=.type "tuple",data:=.seq [u1,u2].toArray } }:=I1.kept (t':=s1.toks) λb o e=>Heap.get?_push_of_some _ e
 rw[hw];refine wpAny_bind (wpAny_pure ?_);show wpAny (model X.prog X.w) X.A (do rule "assign.swapped-stores";let items <-unpackItems (.ref s1.heap.objs.size) 2 none;assignInOrder [λv=>bindName X.env y v,λv=>bindName X.env x v] items.reverse;pure Flow.next) _ _ _
 refine wpAny_bind (wpAny_rule (wpAny_bind (unpackItems_tuple (items:=#[u1,u2]) (I.ok.hd hc) (IsTup.new s1.heap _) λh' hx'=>?_)));have I3:=I2.kept (h':=h') (t':=s1.toks) λb o e=>hx' b o (Yf (Heap.lt_size e)) e;show wpAny _ _ (assignInOrder [λv=>bindName X.env y v,λv=>bindName X.env x v] [u2,u1] >>= λ_=>pure Flow.next) _ _ _
 refine wpAny_bind (assignInOrder_cons (wpAny_bindName (jJ I3 hN hj (.inl hy) rw' (λs2 I4=>?_) (.inr hy))));refine assignInOrder_cons (wpAny_bindName (jJ I4 hN hi (.inl hx) rv (λs3 I5=>assignInOrder_nil (wpAny_pure ?_)) (.inr hx)));rw[List.set_comm _ _ (Ne.symm hij)] at I5;exact⟨_,H1,I5,q1⟩
def JI(i:Nat)(te:TE)(ti:D5):TS:=λD σ H=>∃x,σ[i]? = some (some x)/\te σ H λy H1=>ti x y H1 λz H2=>D.nx (σ.set i (some z)) H2
theorem JK{i:Nat}{x:Str}{e:Expr}{te:TE}{op:Operator}{ti:D5}{pos':Pos}(hN:X.N.Nodup)(hi:X.N[i]? = some x)(hx:D6 X.env.scope x)(he:PE X e te)(ho:Gx X op ti)(hf:X.fn x=true\/X.env.scope.names.lookup x=some .local:=by first|exact .inl rfl|exact .inr rfl|assumption) :
  PS X (.AugAssign (.Name x pos') op e pos) (JI i te ti):=by
 intro pins s σ H D I h;obtain⟨v,e1,h⟩:=h;obtain⟨m,hn,hl⟩:=I.loc;have vis:KQ X.env.scope x:=by rcases hx with k|k;exact .inl k;exact .inr (.inl k)
 obtain⟨u,r,l⟩:=hl i x v hi e1 vis;refine wpAny_AugAssign_Name ?_;have go:wpAny (model X.prog X.w) X.A (eval e X.env) (λw s₂=>wpAny (model X.prog X.w) X.A (inplaceOp op u w) (λr s₃=>wpAny (model X.prog X.w) X.A (storeName X.env x r) (λ_=>SP X pins D .next) X.xe s₃) X.xe s₂) X.xe s:=by
  refine dH (he pins s σ H _ I h) λw s1 ⟨y,H1,I1,r1,q1⟩=>?_;refine dH (ho pins s1 σ H1 v y u w _ I1 r r1 q1) λz s2 ⟨zv,H2,I2,r2,q2⟩=>?_;exact jJ I2 hN hi hx r2 (λs3 I3=>⟨_,H2,I3,q2⟩) hf
 rcases l with ⟨hk,hm⟩|⟨hk,c,hc,hcell⟩
 .exact wpAny_loadName_local I.ok.kind hk hn hm go
 .rcases hk with hk|hk
  .exact wpAny_loadName_cell I.ok.kind hk hc hcell go
  .rcases hx with k|k
   .have:X.env.scope.names.lookup x=some .free:=hk;rw[k] at this;cases this
   .have:X.env.scope.names.lookup x=some .free:=hk;rw[k] at this;cases this
def xK(to ti te:TE)(tget:V->V->Hp->VK->Prop)(tip:D5)(tset:wf):TS:=λD σ H=>to σ H λo H1=>ti σ H1 λi H2=>tget o i H2 λx H3=>te σ H3 λy H4=>tip x y H4 λz H5=>tset o i z H5 λH6=>D.nx σ H6
def Ju(X:Cx)(t:V->V->Hp->VK->Prop):Prop :=
 ∀(pins:List (Addr×Obj))(s:Shared)(σ:St)(H:Hp)(o i:V)(ov iv:Value)(Q:VK),aM X pins σ H s->cy o ov->cy i iv->t o i H Q ->
  wpAny (model X.prog X.w) X.A (getItem ov iv) (EP X pins σ Q) X.xe s
theorem Ff{o i e:Expr}{to ti te:TE}{tget:V->V->Hp->VK->Prop}{tip:D5}{tset:wf}{op:Operator}{tpos:Pos}(ho:PE X o to)(hi:PE X i ti)(hg:Ju X tget)(he:PE X e te)(hp:Gx X op tip)(hs:Ax X tset)
  (ha:∀ov iv new,augStore i ov iv new=(do holding [new,ov,iv] (setItem ov iv new);release [new,ov,iv] [];pure .next):=by intros;rfl):PS X (.AugAssign (.Subscript o i tpos) op e pos) (xK to ti te tget tip tset):=by
 intro pins s σ H D I h;refine wpAny_AugAssign_SubscriptAny (dH (ho pins s σ H _ I h) λov s1 ⟨x1,H1,I1,r1,q1⟩=>?_) ha;refine dH (hi pins s1 σ H1 _ I1 q1) λiv s2 ⟨x2,H2,I2,r2,q2⟩=>?_;refine dH (hg pins s2 σ H2 x1 x2 ov iv _ I2 r1 r2 q2) λold s3 ⟨x3,H3,I3,r3,q3⟩=>?_;refine dH (he pins s3 σ H3 _ I3 q3) λv s4 ⟨x4,H4,I4,r4,q4⟩=>?_;refine dH (hp pins s4 σ H4 x3 x4 old v _ I4 r3 r4 q4) λnew s5 ⟨x5,H5,I5,r5,q5⟩=>?_;exact dH (hs pins s5 σ H5 x1 x2 x5 ov iv new _ I5 r1 r2 r5 q5) λ_ s6 ⟨H6,I6,q6⟩=>⟨σ,H6,I6,q6⟩
def K9(f:Int->Int->Int):D5:=λx y H Q=>∃i j,x=.int i/\y=.int j/\Q (.int (f i j)) H
theorem Ca:Gx X .Add (K9 λi j=>i+j):=by
 intro pins s σ H x y v u Q I r1 r2 h;obtain⟨i,j,e1,e2,q⟩:=h;subst e1;subst e2;obtain⟨t,rfl⟩:=r1;obtain⟨t',rfl⟩:=r2;exact iadd_int ⟨.int _,H,I.tok _,⟨_,rfl⟩,q⟩
theorem wk:Gx X .Sub (K9 λi j=>i-j):=by
 intro pins s σ H x y v u Q I r1 r2 h;obtain⟨i,j,e1,e2,q⟩:=h;subst e1;subst e2;obtain⟨t,rfl⟩:=r1;obtain⟨t',rfl⟩:=r2;exact isub_int ⟨.int _,H,I.tok _,⟨_,rfl⟩,q⟩
end
section
variable {X:Cx}{pos:Pos}
def nj(c:TT)(tb:TS):TS:=λD σ H=>∃W:Nat->St->Hp->Prop,(∃m,W m σ H) /\ ∀m σ H,W m σ H ->
 c σ H λb H1=>if b=true then ∃N:St->Hp->Prop,(∀σ' H',N σ' H' -> ∃m',m'<m/\W m' σ' H')/\tb { D with nx:=N,ct:=N,bk:=D.nx } σ H1 else D.nx σ H1
theorem BV{c:Expr}{body:List Stmt}{tc:TT}{tb:TS}(hp:PassesOwn (model X.prog X.w) X.A X.env X.xe)(hc:PT X c tc)(hb:vJ X body tb):PS X (.While c body [] pos) (nj tc tb):=by
 intro pins s σ H D I h;obtain⟨W,⟨m0,w0⟩,turn⟩:=h;refine wpAny_While (codeAny_whileLoop (λn s'=>∃σ' H',aM X pins σ' H' s'/\W n σ' H') ?_ m0 ⟨σ,H,I,w0⟩);rintro n s1 ⟨σ1,H1,I1,w1⟩;refine wpAny_passesOwn hp (dH (hc pins s1 σ1 H1 _ I1 (turn n σ1 H1 w1)) λb s2 ⟨H2,I2,q2⟩=>?_);cases b with
 | true =>
  obtain⟨N,hN,q2⟩:=q2;rw[Yb rfl];refine wpAny_passesOwn hp (dH (hb pins s2 σ1 H2 _ I2 q2) λf s3 q3=>?_);cases f with
  | next =>
   obtain⟨σ3,H3,I3,n3⟩:=q3;obtain⟨m',hm,w3⟩:=hN σ3 H3 n3;exact⟨m',hm,σ3,H3,I3,w3⟩
  | cont =>
   obtain⟨σ3,H3,I3,n3⟩:=q3;obtain⟨m',hm,w3⟩:=hN σ3 H3 n3;exact⟨m',hm,σ3,H3,I3,w3⟩
  | brk=>exact q3
  | ret v=>exact q3
 | false =>
  rw[Yc Yo];exact wpAny_execs_nil ⟨σ1,H2,I2,q2⟩
end
structure It where
 go:Nat->Hp->Prop
 yld:Nat->Hp->V->Hp->Prop
 stop:Nat->Hp->Prop
def mR(X:Cx)(pins:List (Addr×Obj))(H:Hp)(b:Addr):Prop :=
 H b=none/\b≠X.env.locals/\b∉X.fs/\(b∈X.ex\/X.s₀.heap.objs.size<=b)/\(∀x c,X.env.cells.lookup x=some c->c≠b) /\ ∀p∈X.pn++pins,p.1≠b
theorem aM.fpOk{X:Cx}{pins:List (Addr×Obj)}{σ:St}{H H':Hp}{s:Shared}{b:Addr}(I:aM X pins σ H s)(hb:s.heap.objs.size<=b)(hn:H' b=none):mR X pins H' b:=by
 refine⟨hn,Nat.ne_of_gt (Yd I.lt hb),I.nofs hb,.inr (Yg I.sz hb),λx c e z=>?_,λp hp z=>?_⟩
 .obtain⟨v,q⟩:=I.cell x c e;exact absurd (Yd q.lt (by rw[z];exact hb)) (Ye _)
 .exact absurd (Yd (Heap.lt_size (I.pin p hp).1) (by rw[z];exact hb)) (Ye _)
structure wj (P:Program)(w:World)(K:W.Frag)(tg:Expr)(J:It)(fp:List Addr)(it:Addr)(tn:Nat->Heap->Prop):Prop where
 mem:it∈fp
 obj:∀i h,tn i h -> ∀b∈fp,∃o,h.get? b=some o /\ ∀v,o.data ≠ .cell v
 keep:∀i h h',tn i h->(∀b∈fp,∀o,h.get? b=some o->h'.get? b=some o)->tn i h'
 item:∀(X:Cx),X.prog=P->X.w=w->X.K=K->X.calm=true -> ∀(i:Nat)(pins:List (Addr×Obj))(s:Shared)(σ:St)(H:Hp)(E:Value->Shared->Prop),aM X pins σ H s->(∀b∈fp,mR X pins H b)->tn i s.heap->J.go i H ->
  wpAny (model P w) X.A (pyNext (.ref it)) (λr s1=>∃u,r=some u /\
   wpAny (model P w) X.A (letOwnedTupleGo tg (.ref it) u) (λ_ s2=>∃x H',aM X pins σ H' s2/\cy x u/\J.yld i H x H'/\tn (i+1) s2.heap /\ ∀b∈fp,H' b=none) E s1) E s
 done:∀(X:Cx),X.prog=P->X.w=w->X.K=K->X.calm=true -> ∀(i:Nat)(pins:List (Addr×Obj))(s:Shared)(σ:St)(H:Hp)(E:Value->Shared->Prop),aM X pins σ H s->(∀b∈fp,mR X pins H b)->tn i s.heap->J.stop i H ->
  wpAny (model P w) X.A (pyNext (.ref it)) (λr s1=>r=none/\aM X pins σ H s1) E s
 self:∀(A:Around)(i:Nat)(s:Shared)(Q:Value->Shared->Prop)(E:Value->Shared->Prop),tn i s.heap->Q (.ref it) s->wpAny (model P w) A (pyIter (.ref it)) Q E s
abbrev TI:=St->Hp->(It->Hp->Prop)->Prop
def L8(X:Cx)(pins:List (Addr×Obj))(σ:St)(tg:Expr)(R:It->Hp->Prop)(itv:Value)(s2:Shared):Prop :=
 ∃(it:Addr)(fp:List Addr)(tn:Nat->Heap->Prop)(J:It)(H':Hp),itv=.ref it/\aM X pins σ H' s2/\wj X.prog X.w X.K tg J fp it tn/\tn 0 s2.heap/\(∀b∈fp,mR X pins H' b)/\R J H'
def PI(X:Cx)(tg iter:Expr)(wi:TI):Prop :=
 ∀(pins:List (Addr×Obj))(s:Shared)(σ:St)(H:Hp)(R:It->Hp->Prop),aM X pins σ H s->wi σ H R ->
  wpAny (model X.prog X.w) X.A (eval iter X.env) (λv s1=>wpAny (model X.prog X.w) X.A (pyIter v) (L8 X pins σ tg R) X.xe s1) X.xe s
theorem yC{M:Model}{A:Around}{E:Value->Shared->Prop}{s:Shared}{tg:Expr}{it:Addr}{u:Value}{o:Obj}{n:String}{vs:Array Value}{Q:Unit->Shared->Prop}(ho:s.heap.get? it=some o)(hc:o.cls=.type n)(hd:o.data=.fields vs)
  (hn:["enumerate", "zip", "dict_itemiterator", "dict_reverseitemiterator", "odict_iterator", "itertools.zip_longest", "itertools.pairwise"].contains n=false) (hQ:Q PUnit.unit s):wpAny M A (letOwnedTupleGo tg (.ref it) u) Q E s:=by
 unfold letOwnedTupleGo;cases tg<;>first
  | exact wpAny_pure hQ
  | (cases u<;>first
    | exact wpAny_pure hQ
    | (refine wpAny_bind (wpAny_load ho ?_)
       rw[hc,hd];show wpAny M A (if (["enumerate", "zip", "dict_itemiterator", "dict_reverseitemiterator", "odict_iterator", "itertools.zip_longest", "itertools.pairwise"].contains n && vs[0]? == some (rawInt _))=true then _ else _) Q E s
       rw[Yc (by intro h;rw[hn,Bool.false_and] at h;cases h)]
       exact wpAny_pure hQ))
def Lr(K:W.Frag)(a:Addr):It :=
 ⟨λi H=>∃xs x,kQ K H a xs/\xs[i]? = some x,λi H x H'=>H'=H /\ ∀xs,kQ K H a xs->xs[i]? = some x,λi H=>∃xs,kQ K H a xs/\xs.length<=i⟩
def Mg(K:W.Frag)(a:Addr):It :=
 ⟨λi H=>∃xs x,zg K H a xs/\xs[i]? = some x,λi H x H'=>H'=H /\ ∀xs,zg K H a xs->xs[i]? = some x,λi H=>∃xs,zg K H a xs/\xs.length<=i⟩
def JY(lo:Int)(n:Nat):It:=⟨λi _=>i<n,λi H x H'=>H'=H/\x=.int (lo+i),λi _=>n<=i⟩
theorem An{P:Program}{w:World}{K:W.Frag}{tg:Expr}(a it:Addr):wj P w K tg (Lr K a) [it] it (λi h=>h.IsListIter it a i) where
 mem:=by simp
 obj:=λi h st b hb=>by
  have e:b=it:=by simpa using hb
  subst e;obtain⟨o,e,c,d⟩:=st;exact⟨o,e,λv z=>by rw[d] at z;cases z⟩
 keep:=λi h h' st k=>st.at λo e=>k it (by simp) o e
 item:=by
  intro X hP hw hK hc i pins s σ H E I hf st hg;subst hP hw hK;obtain⟨xs,x,hq,hx⟩:=hg;obtain⟨its,rv,p,hz⟩:=I.list hq;obtain⟨u,hu,ru⟩:=rv.get hx;obtain⟨f0,f1,f2,f3,f4,f5⟩:=hf it (by simp)
  refine wpAny_pyNext_list_item st p.isList (x:=u) (by simpa using hu) λh' st' sb=>?_
  have I1:aM X pins σ H { s with heap:=h' }:=I.turned (t':=s.toks) (λb o hb e=>(sb.2 b hb).trans e) f0 f1 f3 f4 f5
  obtain⟨o,e,c,d⟩:=id st';exact⟨u,rfl,yC (s:={ s with heap:=h' }) e c d ∅ ⟨x,H,I1,ru,⟨rfl,λys hy=>by rw[I.list_inj hy hq];exact hx⟩,st',λb hb=>(hf b hb).1⟩⟩
 done:=by
  intro X hP hw hK hc i pins s σ H E I hf st hg;subst hP hw hK;obtain⟨xs,hq,hx⟩:=hg;obtain⟨its,rv,p,hz⟩:=I.list hq;obtain⟨f0,f1,f2,f3,f4,f5⟩:=hf it (by simp)
  have hl:=rv.length;exact wpAny_pyNext_list_end (I.ok.hd hc) st p.isList (by simp;nofun) λh' eb=>⟨rfl,I.turned (t':=s.toks) (λb o hb e=>eb b o hb e) f0 f1 f3 f4 f5⟩
 self:=λ_ _ _ _ _ st h=>wpAny_pyIter_listiter st h
theorem wB{P:Program}{w:World}{K:W.Frag}{tg:Expr}(it:Addr)(lo:Int)(n:Nat):wj P w K tg (JY lo n) [it] it (λi h=>IsRangeIter h it (lo+(i:Nat)*1) ((n:Int)-(i:Nat)) 1) where
 mem:=by simp
 obj:=λi h st b hb=>by
  have e:b=it:=by simpa using hb
  subst e;exact⟨_,st,λv z=>by
   have z':Data.fields _=Data.cell v:=z;cases z'⟩
 keep:=λi h h' st k=>k it (by simp) _ st
 item:=by
  intro X hP hw hK hc i pins s σ H E I hf st hg;subst hP hw hK;obtain⟨f0,f1,f2,f3,f4,f5⟩:=hf it (by simp)
  have W:=Walks.range (prog:=X.prog) (w:=X.w) (I.ok.hd hc) it lo 1 n;refine W.item i s _ _ hg st λv h' tk hv st' kk=>?_;obtain⟨t,rfl⟩:=hv;have I1:aM X pins σ H { s with heap:=h',toks:=tk }:=I.turned (λb o hb e=>kk b o (by simpa using hb) e) f0 f1 f3 f4 f5
  refine⟨_,rfl,yC (s:={ s with heap:=h',toks:=tk }) (n:="range_iterator") st' rfl rfl ∅ ⟨.int (lo+i),H,I1,⟨t,?_⟩,⟨rfl,rfl⟩,st',λb hb=>(hf b hb).1⟩⟩
  rw[Yp]
 done:=by
  intro X hP hw hK hc i pins s σ H E I hf st hg;subst hP hw hK;obtain⟨f0,f1,f2,f3,f4,f5⟩:=hf it (by simp)
  exact wpAny_pyNext_range_end (I.ok.hd hc) st (by have:n<=i:=hg;nofun) λh' eb=>⟨rfl,I.turned (t':=s.toks) (λb o hb e=>eb b o hb e) f0 f1 f3 f4 f5⟩
 self:=λ_ _ _ _ _ st h=>wpAny_pyIter_rangeiter st h
section
variable {X:Cx}{tg:Expr}
def zu(K:W.Frag)(tl:TE):TI:=λσ H R=>tl σ H λx H1=>∃a,x=.ref a/\(∃xs,kQ K H1 a xs)/\R (Lr K a) H1
def LS(K:W.Frag)(tl:TE):TI:=λσ H R=>tl σ H λx H1=>∃a,x=.ref a/\(∃xs,zg K H1 a xs)/\R (Mg K a) H1
theorem Eo{l:Expr}{tl:TE}(hl:PE X l tl):PI X tg l (zu X.K tl):=by
 intro pins s σ H R I h;refine dH (hl pins s σ H _ I h) λv s1 ⟨x,H1,I1,r1,q1⟩=>?_;obtain⟨a,e,⟨xs,hq⟩,q⟩:=q1;subst e;cases r1;obtain⟨its,rv,p,hz⟩:=I1.list hq;refine wpAny_pyIter_list p.isList ?_;refine⟨s1.heap.objs.size,[s1.heap.objs.size],_,_,H1,rfl,I1.kept (t':=s1.toks) λb o e=>Heap.get?_push_of_some _ e,An a _,⟨_,Heap.get?_push_size _ rfl,rfl,rfl⟩,λb hb=>?_,q⟩;have e:b=s1.heap.objs.size:=by simpa using hb
 subst e;exact I1.fpOk (Yq _) (I1.hok.fresh (Yq _))
theorem uN{pins:List (Addr×Obj)}{σ:St}{H:Hp}{s:Shared}{R:It->Hp->Prop}{E:Value->Shared->Prop}{lo hi:Int}{t u v:Tok}{tk:Nat}(I:aM X pins σ H s)(h1 : -(2^62)<=lo)(h2:lo<2^62)(h3 : -(2^62)<=hi)(h4:hi<2^62)
  (q:R (JY lo (hi-lo).toNat) H):wpAny (model X.prog X.w) X.A (pyIter (.ref s.heap.objs.size)) (L8 X pins σ tg R) E { s with heap:=s.heap.push { cls:=.type "range",data:=.fields #[.int lo t,.int hi u,.int 1 v] },toks:=tk }:=by
 refine wpAny_pyIter_range (IsRange.new ..) (small_one h1 h2 h3 h4) ?_;have I1:aM X pins σ H { s with heap:=s.heap.push { cls:=.type "range",data:=.fields #[.int lo t,.int hi u,.int 1 v] },toks:=tk }:=I.kept λb o e=>Heap.get?_push_of_some _ e
 refine⟨(s.heap.push { cls:=.type "range",data:=.fields #[.int lo t,.int hi u,.int 1 v] }).objs.size,[(s.heap.push { cls:=.type "range",data:=.fields #[.int lo t,.int hi u,.int 1 v] }).objs.size],_,_,H,rfl,
  I1.kept (t':=tk) λb o e=>Heap.get?_push_of_some _ e,wB _ lo (hi-lo).toNat,?_,λb hb=>?_,q⟩
 .have e1:lo+((0:Nat):Int)*1=lo:=by simp
  have e2:(((hi-lo).toNat:Nat):Int)-((0:Nat):Int)=Builtin.Range.rangeSize lo hi 1:=by rw[rangeSize_one];split<;>nofun
  show IsRangeIter _ _ (lo+((0:Nat):Int)*1) ((((hi-lo).toNat:Nat):Int)-((0:Nat):Int)) 1;rw[e1,e2];exact Heap.get?_push_size _ rfl
 .have e:b=(s.heap.push { cls:=.type "range",data:=.fields #[.int lo t,.int hi u,.int 1 v] }).objs.size:=by simpa using hb
  subst e;exact I1.fpOk (Yq _) (I1.hok.fresh (Yq _))
def yM(ta:TA):TI:=λσ H R=>ta σ H λvs H1=>∃j:Int,vs=[.int j] /\ -(2^62)<=j/\j<2^62/\R (JY 0 j.toNat) H1
def DJ(ta:TA):TI:=λσ H R=>ta σ H λvs H1=>∃i j:Int,vs=[.int i,.int j]/\(-(2^62)<=i/\i<2^62 /\ -(2^62)<=j/\j<2^62)/\R (JY i (j-i).toNat) H1
theorem zW{a:Expr}{ta:TA}{p pos:Pos}(hg:Gl X "range") (hm:X.mg "range" = none) (ha:PA X [a] ta)(hs:starEach [a] X.env=[(false,eval a X.env)]:=by rfl):PI X tg (.Call (.Name "range" p) [a] [] pos) (yM ta):=by
 intro pins s σ H R I h;refine Call_ (i9 I hg hm boot_range (Yr (dH (ha pos pins s σ H _ I h) λus s1 ⟨vs,H1,I1,r1,q1⟩=>?_) hs rfl));obtain⟨j,e,q1,q2,q⟩:=q1;subst e;cases r1 with
 | cons r rr =>
  cases rr;obtain⟨t,rfl⟩:=r;exact call_range_1 (uN I1 () () q1 q2 (by simpa using q))
theorem AD{a b:Expr}{ta:TA}{p pos:Pos}(hg:Gl X "range") (hm:X.mg "range" = none) (ha:PA X [a,b] ta)(hs:starEach [a,b] X.env=[(false,eval a X.env),(false,eval b X.env)]:=by rfl)(hs2:starEach [b] X.env=[(false,eval b X.env)]:=by rfl) :
  PI X tg (.Call (.Name "range" p) [a,b] [] pos) (DJ ta):=by
 intro pins s σ H R I h;refine Call_ (i9 I hg hm boot_range (Yr (dH (ha pos pins s σ H _ I h) λus s1 ⟨vs,H1,I1,r1,q1⟩=>?_) (by rw[hs,hs2]) (by rw[hs2];rfl)))
 obtain⟨i,j,e,⟨q1,q2,q3,q4⟩,q⟩:=q1;subst e;cases r1 with
 | cons r rr =>
  cases rr with
  | cons r' rr =>
   cases rr;obtain⟨t,rfl⟩:=r;obtain⟨t',rfl⟩:=r';exact call_range_2 (uN I1 q1 q2 q3 q4 q)
def HA(wi:TI)(g:TG)(tb:TS):TS:=λD σ H=>wi σ H λJ H1=>∃W:Nat->Nat->St->Hp->Prop,(∃m,W 0 m σ H1) /\ ∀i m σ H,W i m σ H ->
 (J.stop i H/\D.nx σ H)\/(J.go i H /\ ∃N:St->Hp->Prop,(∀σ' H',N σ' H' -> ∃m',m'<m/\W (i+1) m' σ' H') /\ ∀x H',J.yld i H x H'->g x σ H' λσ2 H2=>tb { D with nx:=N,ct:=N,bk:=D.nx } σ2 H2)
def pI(fp:List Addr)(h:Heap):List (Addr×Obj):=fp.filterMap λb=>(h.get? b).map λo=>(b,o)
theorem i5{fp:List Addr}{h:Heap}{b:Addr}{o:Obj}(hb:b∈fp)(e:h.get? b=some o):(b,o)∈pI fp h:=List.mem_filterMap.mpr ⟨b,hb,by rw[e];rfl⟩
theorem Al{fp:List Addr}{h:Heap}{p:Addr×Obj}(hp:p∈pI fp h):p.1∈fp/\h.get? p.1=some p.2:=by
 obtain⟨b,hb,e⟩:=List.mem_filterMap.mp hp;cases q:h.get? b with
 | none=>rw[q] at e;cases e
 | some o =>
  rw[q] at e;have e':(b,o)=p:=Ym e;subst e';exact⟨hb,q⟩
theorem aM.pinned{pins:List (Addr×Obj)}{σ:St}{H:Hp}{s:Shared}{fp:List Addr}(I:aM X pins σ H s)(hf:∀b∈fp,mR X pins H b)(ho:∀b∈fp,∃o,s.heap.get? b=some o /\ ∀v,o.data ≠ .cell v):aM X (pins++pI fp s.heap) σ H s :=
 I.pins_of λp hp=>(List.mem_append.mp hp).elim (λz=>I.pin p (Ys _ z)) λz=>by
  obtain⟨hb,e⟩:=Al z;obtain⟨f0,f1,f2,_⟩:=hf p.1 hb;obtain⟨o,e',d⟩:=ho p.1 hb;rw[e] at e';cases e';exact⟨e,f0,f1,f2,d⟩
theorem aM.unpinned{pins pl:List (Addr×Obj)}{σ:St}{H:Hp}{s:Shared}(I:aM X (pins++pl) σ H s):aM X pins σ H s:=I.pins_of λp hp=>I.pin p (Ys _ (Yk _ hp))
theorem II{iter:Expr}{body:List Stmt}{wi:TI}{g:TG}{tb:TS}{pos:Pos}(hp:PassesOwn (model X.prog X.w) X.A X.env X.xe)(hc:X.calm=true)(hi:PI X tg iter wi)(hg:PG X tg g)(hb:vJ X body tb)
  (hs:∀x,foldedSetIterable iter X.env x=pure x:=by intro _;rfl):PS X (.For tg iter body [] pos) (HA wi g tb):=by
 intro pins s σ H D I h;refine wpAny_For (dH (hi pins s σ H _ I h) λv s1 h1=>dH h1 λitv s2 h2=>?_) hs;obtain⟨it,fp,tn,J,H2,e,I2,T,st2,f2,W,⟨m0,w0⟩,turn⟩:=h2;subst e;have stat:∀{H':Hp},(∀b∈fp,H' b=none) -> ∀b∈fp,mR X pins H' b:=λhn b hb=>⟨hn b hb,(f2 b hb).2⟩;refine codeAny_forLoop_any (λn s'=>∃i σ' H',aM X pins σ' H' s'/\tn i s'.heap/\(∀b∈fp,H' b=none)/\W i n σ' H') ?_ m0 ⟨0,σ,H2,I2,st2,λb hb=>(f2 b hb).1,w0⟩;rintro n s3 ⟨i,σ3,H3,I3,st3,fr3,w3⟩;rcases turn i n σ3 H3 w3 with ⟨stop,qn⟩|⟨go,N,hN,step⟩
 .refine wpAny_passesOwn hp (dH (T.done X rfl rfl rfl hc i pins s3 σ3 H3 X.xe I3 (stat fr3) st3 stop) λr s4 ⟨hr,I4⟩=>?_);subst hr;exact wpAny_execs_nil ⟨σ3,H3,I4,qn⟩
 .refine wpAny_passesOwn hp (dH (T.item X rfl rfl rfl hc i pins s3 σ3 H3 X.xe I3 (stat fr3) st3 go) λr s4 ⟨u,hr,h4⟩=>?_);subst hr;refine wpAny_passesOwn hp (dH h4 λ_ s5 ⟨x,H5,I5,r5,y5,st5,fr5⟩=>?_);have I5':=I5.pinned (stat fr5) (T.obj _ _ st5);refine wpAny_passesOwn hp (dH (hg _ s5 σ3 H5 x u _ I5' r5 (step x H5 y5)) λ_ s6 ⟨σ6,H6,I6,q6⟩=>?_);refine wpAny_passesOwn hp (dH (hb _ s6 σ6 H6 _ I6 q6) λf s7 q7=>?_);have again:∀{σ7:St}{H7:Hp},aM X (pins++pI fp s5.heap) σ7 H7 s7->N σ7 H7 -> ∃m,m<n /\ ∃i σ' H',aM X pins σ' H' s7/\tn i s7.heap/\(∀b∈fp,H' b=none)/\W i m σ' H':=λ{σ7 H7} I7 n7=>by
   obtain⟨m',hm,w7⟩:=hN σ7 H7 n7;refine⟨m',hm,i+1,σ7,H7,I7.unpinned,T.keep _ _ _ st5 λb hb o e=>(I7.pin (b,o) (Ys _ (Ys _ (i5 hb e)))).1,λb hb=>?_,w7⟩;obtain⟨o,e,d⟩:=T.obj _ _ st5 b hb;exact (I7.pin (b,o) (Ys _ (Ys _ (i5 hb e)))).2.1
  cases f with
  | next=>obtain⟨σ7,H7,I7,n7⟩:=q7;exact again I7 n7
  | cont=>obtain⟨σ7,H7,I7,n7⟩:=q7;exact again I7 n7
  | brk=>obtain⟨σ7,H7,I7,q7⟩:=q7;exact⟨σ7,H7,I7.unpinned,q7⟩
  | ret v=>obtain⟨x7,σ7,H7,I7,r7,q7⟩:=q7;exact⟨x7,σ7,H7,I7.unpinned,r7,q7⟩
end
abbrev R2:=V->V->Hp->VK->Prop
def gh(X:Cx)(f:Value->Value->Sem Value)(r:R2):Prop :=
 ∀(pins:List (Addr×Obj))(s:Shared)(σ:St)(H:Hp)(x y:V)(v u:Value)(Q:VK),aM X pins σ H s->cy x v->cy y u->r x y H Q ->
  wpAny (model X.prog X.w) X.A (f v u) (EP X pins σ Q) X.xe s
def K8(X:Cx)(f:Value->Sem Value)(r:V->Hp->VK->Prop):Prop :=
 ∀(pins:List (Addr×Obj))(s:Shared)(σ:St)(H:Hp)(x:V)(v:Value)(Q:VK),aM X pins σ H s->cy x v->r x H Q ->
  wpAny (model X.prog X.w) X.A (f v) (EP X pins σ Q) X.xe s
def eV(X:Cx)(f:Value)(r:List V->Hp->VK->Prop):Prop :=
 ∀(pins:List (Addr×Obj))(s:Shared)(σ:St)(H:Hp)(xs:List V)(us:List Value)(Q:VK),aM X pins σ H s->bC xs us->r xs H Q ->
  wpAny (model X.prog X.w) X.A (call f us) (EP X pins σ Q) X.xe s
def LP(X:Cx)(r:V->Hp->(Bool->Hp->Prop)->Prop):Prop :=
 ∀(pins:List (Addr×Obj))(s:Shared)(σ:St)(H:Hp)(x:V)(v:Value)(Q:Bool->Hp->Prop),aM X pins σ H s->cy x v->r x H Q ->
  wpAny (model X.prog X.w) X.A (truthy v) (TP X pins σ Q) X.xe s
def D3(r:R2)(ta tb:TE):TE:=λσ H Q=>ta σ H λx H1=>tb σ H1 λy H2=>r x y H2 Q
def LJ(r:V->Hp->VK->Prop)(ta:TE):TE:=λσ H Q=>ta σ H λx H1=>r x H1 Q
def rI(C:Int->Int->Prop)(g:Int->Int->V):R2:=λx y H Q=>∃i j,x=.int i/\y=.int j/\C i j/\Q (g i j) H
def yI(g:Int->Int->V):R2:=λx y H Q=>∃i j,x=.int i/\y=.int j/\Q (g i j) H
def rU(g:Int->V):V->Hp->VK->Prop:=λx H Q=>∃i,x=.int i/\Q (g i) H
section
variable {X:Cx}{a b c:Expr}{ta tb tc:TE}{pos:Pos}
theorem HF(ha:PE X a ta)(hb:PE X b tb) {pins:List (Addr×Obj)}{s:Shared}{σ:St}{H:Hp}{R:V->V->Hp->Prop}(I:aM X pins σ H s)
  (h:ta σ H λx H1=>tb σ H1 λy H2=>R x y H2) {Q:Value->Shared->Prop}{f:Value->Value->Sem Value}
  (hf:∀v u s2 x y H2,aM X pins σ H2 s2->cy x v->cy y u->R x y H2->wpAny (model X.prog X.w) X.A (f v u) Q X.xe s2) :
  wpAny (model X.prog X.w) X.A (eval a X.env) (λv s₁=>wpAny (model X.prog X.w) X.A (eval b X.env) (λu s₂=>wpAny (model X.prog X.w) X.A (f v u) Q X.xe s₂) X.xe s₁) X.xe s:=by
 refine dH (ha pins s σ H _ I h) λv s1 ⟨x,H1,I1,r1,q1⟩=>?_;refine dH (hb pins s1 σ H1 _ I1 q1) λu s2 ⟨y,H2,I2,r2,q2⟩=>?_;exact hf v u s2 x y H2 I2 r1 r2 q2
theorem KG{op:Operator}{r:R2}(ho:gh X (binaryOp op) r)(ha:PE X a ta)(hb:PE X b tb):PE X (.BinOp a op b pos) (D3 r ta tb):=by
 intro pins s σ H Q I h;exact wpAny_BinOp (HF ha hb I h λv u s2 x y H2 I2 rx ry q=>ho pins s2 σ H2 x y v u Q I2 rx ry q)
theorem KP{op:UnaryOp}{r:V->Hp->VK->Prop}(ho:K8 X (unaryOp op) r)(ha:PE X a ta):PE X (.UnaryOp op a pos) (LJ r ta):=by
 intro pins s σ H Q I h;exact UnaryOp_ (dH (ha pins s σ H _ I h) λv s1 ⟨x,H1,I1,r1,q1⟩=>ho pins s1 σ H1 x v Q I1 r1 q1)
theorem Ks{f:Value->Value->Sem Value}{C:Int->Int->Prop}{g:Int->Int->Int}
  (rule:∀(i j:Int)(t u:Tok)(s:Shared)(Q:Value->Shared->Prop)(E:Value->Shared->Prop),C i j->Q (.int (g i j) s.toks) { s with toks:=s.toks+1 } -> wpAny (model X.prog X.w) X.A (f (.int i t) (.int j u)) Q E s) :
  gh X f (rI C λi j=>.int (g i j)):=by
 intro pins s σ H x y v u Q I rx ry h;obtain⟨i,j,rfl,rfl,hc,q⟩:=h;obtain⟨t,rfl⟩:=rx;obtain⟨t',rfl⟩:=ry;exact rule i j t t' s _ _ hc ⟨.int (g i j),H,I.tok _,⟨_,rfl⟩,q⟩
theorem Kp{f:Value->Value->Sem Value}{g:Int->Int->Int}
  (rule:∀(i j:Int)(t u:Tok)(s:Shared)(Q:Value->Shared->Prop)(E:Value->Shared->Prop),Q (.int (g i j) s.toks) { s with toks:=s.toks+1 } -> wpAny (model X.prog X.w) X.A (f (.int i t) (.int j u)) Q E s) :
  gh X f (yI λi j=>.int (g i j)):=by
 intro pins s σ H x y v u Q I rx ry h;obtain⟨i,j,rfl,rfl,q⟩:=h;obtain⟨t,rfl⟩:=rx;obtain⟨t',rfl⟩:=ry;exact rule i j t t' s _ _ ⟨.int (g i j),H,I.tok _,⟨_,rfl⟩,q⟩
theorem FD{f:Value->Value->Sem Value}{g:Int->Int->Bool}
  (rule:∀(i j:Int)(t u:Tok)(s:Shared)(Q:Value->Shared->Prop)(E:Value->Shared->Prop),Q (.bool (g i j)) s->wpAny (model X.prog X.w) X.A (f (.int i t) (.int j u)) Q E s) :
  gh X f (yI λi j=>.bl (g i j)):=by
 intro pins s σ H x y v u Q I rx ry h;obtain⟨i,j,rfl,rfl,q⟩:=h;obtain⟨t,rfl⟩:=rx;obtain⟨t',rfl⟩:=ry;exact rule i j t t' s _ _ ⟨.bl (g i j),H,I,rfl,q⟩
def KT(i j:Int):Prop:=0<=j/\j<=1000000/\i.natAbs<2^64
theorem HL:gh X (binaryOp .Add) (yI λi j=>.int (i+j)):=Kp λ_ _ _ _ _ _ _ q=>add_int q
theorem cx:gh X (binaryOp .Sub) (yI λi j=>.int (i-j)):=Kp λ_ _ _ _ _ _ _ q=>sub_int q
theorem Es:gh X (binaryOp .Mod) (rI (λ_ j=>j≠0) λi j=>.int (i.fmod j)):=Ks λ_ _ _ _ _ _ _ hc q=>mod_int' hc q
theorem BK:gh X (binaryOp .Pow) (rI KT λi j=>.int (i^j.toNat)):=Ks λ_ _ _ _ _ _ _ hc q=>pow_int_small hc.1 hc.2.1 hc.2.2 q
theorem Mf{f:Value->Sem Value}{g:Int->Int}
  (rule:∀(i:Int)(t:Tok)(s:Shared)(Q:Value->Shared->Prop)(E:Value->Shared->Prop),Q (.int (g i) s.toks) { s with toks:=s.toks+1 } -> wpAny (model X.prog X.w) X.A (f (.int i t)) Q E s) :
  K8 X f (rU λi=>.int (g i)):=by
 intro pins s σ H x v Q I rx h;obtain⟨i,rfl,q⟩:=h;obtain⟨t,rfl⟩:=rx;exact rule i t s _ _ ⟨.int (g i),H,I.tok _,⟨_,rfl⟩,q⟩
theorem fj:K8 X (unaryOp .USub) (rU λi=>.int (-i)):=Mf λ_ _ _ _ _ q=>neg_int q
end
def AQ:V->V->Bool
 | .non,.non=>true | .non,.int _=>true | .int _,.non=>true | .non,.bl _=>true | .bl _,.non=>true | .non,.str _=>true | .str _,.non=>true
 | .int _,.int _=>true | .bl _,.bl _=>true | .str _,.str _=>true | .byt _,.byt _=>true
 | .int _,.str _=>true | .str _,.int _=>true | .bl _,.str _=>true | .str _,.bl _=>true
 | _,_=>false
def JV:R2:=λx y H Q=>AQ x y=true/\Q (.bl (decide (x=y))) H
def J3:R2:=λx y H Q=>AQ x y=true/\Q (.bl (!decide (x=y))) H
theorem zz{i j:Int}:decide (V.int i=V.int j)=(i==j):=by
 rw[Bool.eq_iff_iff];simp
theorem Bu{i j:Bool}:decide (V.bl i=V.bl j)=(i==j):=by
 rw[Bool.eq_iff_iff];simp
theorem zy{i j:Str}:decide (V.str i=V.str j)=(i==j):=by
 rw[Bool.eq_iff_iff];simp
theorem y7{i j:Array UInt8}:decide (V.byt i=V.byt j)=(i.toList==j.toList):=by
 rw[Bool.eq_iff_iff];cases i;cases j;simp
section
variable {X:Cx}{a b c:Expr}{ta tb tc:TE}{pos:Pos}
theorem cg{pins:List (Addr×Obj)}{σ:St}{H:Hp}{s:Shared}{Q:VK}{k k':Bool}(I:aM X pins σ H s)(q:Q (.bl k) H)(e:k=k'):EP X pins σ Q (.bool k') s:=by
 subst e;exact⟨.bl k,H,I,rfl,q⟩
theorem jh:gh X (compareOp .Eq) JV:=by
 intro pins s σ H x y v u Q I rx ry h;obtain⟨hs,q⟩:=h;cases x with
 | non =>
  cases rx;cases y with
  | non=>cases ry;exact PySem.EqNone.eq_none_none (cg I q (by simp))
  | bl j=>cases ry;exact PySem.EqNone.eq_none_bool (cg I q (by simp))
  | int j=>obtain⟨t',rfl⟩:=ry;exact PySem.EqNone.eq_none_int (cg I q (by simp))
  | str j=>obtain⟨t',rfl⟩:=ry;exact PySem.EqNone.eq_none_str (cg I q (by simp))
  | _=>exact absurd (show false=true from hs) Yo
 | bl i =>
  cases rx;cases y with
  | non=>cases ry;exact PySem.EqNone.eq_bool_none (cg I q (by simp))
  | bl j=>cases ry;exact eq_bool (cg I q Bu)
  | str j=>obtain⟨t',rfl⟩:=ry;exact PySem.EqMixed.eq_bool_str (cg I q (by simp))
  | _=>exact absurd (show false=true from hs) Yo
 | int i =>
  obtain⟨t,rfl⟩:=rx;cases y with
  | non=>cases ry;exact PySem.EqNone.eq_int_none (cg I q (by simp))
  | int j=>obtain⟨t',rfl⟩:=ry;exact eq_int (cg I q zz)
  | str j=>obtain⟨t',rfl⟩:=ry;exact PySem.EqMixed.eq_int_str (cg I q (by simp))
  | _=>exact absurd (show false=true from hs) Yo
 | str i =>
  obtain⟨t,rfl⟩:=rx;cases y with
  | non=>cases ry;exact PySem.EqNone.eq_str_none (cg I q (by simp))
  | bl j=>cases ry;exact PySem.EqMixed.eq_str_bool (cg I q (by simp))
  | int j=>obtain⟨t',rfl⟩:=ry;exact PySem.EqMixed.eq_str_int (cg I q (by simp))
  | str j=>obtain⟨t',rfl⟩:=ry;exact eq_str (cg I q zy)
  | _=>exact absurd (show false=true from hs) Yo
 | byt i =>
  obtain⟨t,rfl⟩:=rx;cases y with
  | byt j=>obtain⟨t',rfl⟩:=ry;exact PySem.W.eq_bytes (cg I q y7)
  | _=>exact absurd (show false=true from hs) Yo
 | _=>cases y<;>exact absurd (show false=true from hs) Yo
theorem mH:gh X (compareOp .NotEq) J3:=by
 intro pins s σ H x y v u Q I rx ry h;obtain⟨hs,q⟩:=h;cases x with
 | non =>
  cases rx;cases y with
  | non=>cases ry;exact PySem.EqNone.ne_none_none (cg I q (by simp))
  | bl j=>cases ry;exact PySem.EqNone.ne_none_bool (cg I q (by simp))
  | int j=>obtain⟨t',rfl⟩:=ry;exact PySem.EqNone.ne_none_int (cg I q (by simp))
  | str j=>obtain⟨t',rfl⟩:=ry;exact PySem.EqNone.ne_none_str (cg I q (by simp))
  | _=>exact absurd (show false=true from hs) Yo
 | bl i =>
  cases rx;cases y with
  | non=>cases ry;exact PySem.EqNone.ne_bool_none (cg I q (by simp))
  | bl j=>cases ry;exact ne_bool (cg I q (Yn not Bu))
  | str j=>obtain⟨t',rfl⟩:=ry;exact PySem.EqMixed.ne_bool_str (cg I q (by simp))
  | _=>exact absurd (show false=true from hs) Yo
 | int i =>
  obtain⟨t,rfl⟩:=rx;cases y with
  | non=>cases ry;exact PySem.EqNone.ne_int_none (cg I q (by simp))
  | int j=>obtain⟨t',rfl⟩:=ry;exact ne_int (cg I q (Yn not zz))
  | str j=>obtain⟨t',rfl⟩:=ry;exact PySem.EqMixed.ne_int_str (cg I q (by simp))
  | _=>exact absurd (show false=true from hs) Yo
 | str i =>
  obtain⟨t,rfl⟩:=rx;cases y with
  | non=>cases ry;exact PySem.EqNone.ne_str_none (cg I q (by simp))
  | bl j=>cases ry;exact PySem.EqMixed.ne_str_bool (cg I q (by simp))
  | int j=>obtain⟨t',rfl⟩:=ry;exact PySem.EqMixed.ne_str_int (cg I q (by simp))
  | str j=>obtain⟨t',rfl⟩:=ry;exact ne_str (cg I q (Yn not zy))
  | _=>exact absurd (show false=true from hs) Yo
 | byt i =>
  obtain⟨t,rfl⟩:=rx;cases y with
  | byt j=>obtain⟨t',rfl⟩:=ry;exact PySem.W.ne_bytes (cg I q (Yn not y7))
  | _=>exact absurd (show false=true from hs) Yo
 | _=>cases y<;>exact absurd (show false=true from hs) Yo
theorem uK:gh X (compareOp .Lt) (yI λi j=>.bl (decide (i<j))):=FD λ_ _ _ _ _ _ _ q=>lt_int q
theorem GH:gh X (compareOp .LtE) (yI λi j=>.bl (decide (i<=j))):=FD λ_ _ _ _ _ _ _ q=>le_int q
theorem ue:gh X (compareOp .Gt) (yI λi j=>.bl (decide (j<i))):=FD λ_ _ _ _ _ _ _ q=>gt_int q
theorem KO:gh X (compareOp .GtE) (yI λi j=>.bl (decide (j<=i))):=FD λ_ _ _ _ _ _ _ q=>ge_int q
theorem F4:gh X (compareOp .IsNot) (λx y H Q=>y=.non/\Q (.bl (!decide (x=.non))) H):=by
 intro pins s σ H x y v u Q I rx ry h;obtain⟨rfl,q⟩:=h;cases ry;refine isnot_none_gen (cg I q ?_);cases x<;>first
  | (cases rx;rfl)
  | (obtain⟨t,rfl⟩:=rx;rfl)
theorem gh.or{f:Value->Value->Sem Value}{r r':R2}(h:gh X f r)(h':gh X f r'):gh X f (λx y H Q=>r x y H Q\/r' x y H Q):=by
 intro pins s σ H x y v u Q I rx ry q;rcases q with q|q
 .exact h pins s σ H x y v u Q I rx ry q
 .exact h' pins s σ H x y v u Q I rx ry q
theorem aV(b:Expr){op:CmpOp}(h:op ≠ .In:=by decide)(h2:op ≠ .NotIn:=by decide):behindInMarks op b=false:=by
 have e1:(op==CmpOp.In)=false:=by cases op<;>first|rfl|exact absurd rfl h
 have e2:(op==CmpOp.NotIn)=false:=by cases op<;>first|rfl|exact absurd rfl h2
 cases b<;>simp[behindInMarks,e1,e2]
theorem Fa{op:CmpOp}{r:R2}(ho:gh X (compareOp op) r)(ha:PE X a ta)(hb:PE X b tb)(hm:behindInMarks op b=false):PE X (.Compare a [op] [b] pos) (D3 r ta tb):=by
 intro pins s σ H Q I h;exact wpAny_Compare1 (HF ha hb I h λv u s2 x y H2 I2 rx ry q=>ho pins s2 σ H2 x y v u Q I2 rx ry q) hm
def yg(t:TE):TT:=λσ H Q=>t σ H λx H'=>∃k,x=.bl k/\Q k H'
theorem FS{op:CmpOp}{r:R2}(ho:gh X (compareOp op) r)(ha:PE X a ta)(hb:PE X b tb)(hm:behindInMarks op b=false):PT X (.Compare a [op] [b] pos) (yg (D3 r ta tb)):=by
 intro pins s σ H Q I h;refine wpAny_isTrue_Compare1 (dH (ha pins s σ H _ I h) λv s1 ⟨x,H1,I1,r1,q1⟩=>dH (hb pins s1 σ H1 _ I1 q1) λu s2 ⟨y,H2,I2,r2,q2⟩ =>
  dH (ho pins s2 σ H2 x y v u _ I2 r1 r2 q2) λc s3 ⟨z,H3,I3,r3,k,e,q3⟩=>?_) hm
 subst e;cases r3;exact wpAny_truthy_bool ⟨H3,I3,q3⟩
def AH(K:W.Frag)(x:V)(H:Hp)(k:Bool):Prop :=
 match x with
 | .non=>k=false
 | .bl b=>k=b
 | .int i=>k=(i != 0)
 | .str y=>y.length<=sizeLine/\k=((y.length:Int) != 0)
 | .byt y=>y.size<=sizeLine/\k=((y.size:Int) != 0)
 | .ref p=>(∃xs,kQ K H p xs/\k = !xs.isEmpty)\/(∃xs,zg K H p xs/\k = !xs.isEmpty) \/ ∃kvs,H p=some (.dK kvs)/\k = !kvs.isEmpty
 | _=>False
theorem vV{κ:Type}{kvs:List (κ×V)}{vs:List (κ×Value)}(r:KV kvs vs):(!vs.isEmpty) = !kvs.isEmpty:=by
 cases r<;>rfl
theorem qu{xs:List V}{its:List Value}(r:bC xs its):(!its.toArray.isEmpty) = !xs.isEmpty:=by
 cases r<;>simp
theorem nI:(sizeLine:Nat)<2^63:=by rw[sizeLine_eq];decide
theorem Iw:LP X (λx H Q=>∃k,AH X.K x H k/\Q k H):=by
 intro pins s σ H x v Q I rx h;obtain⟨k,e,q⟩:=h;have hl:=nI;have hs:sizeLine=16777216:=sizeLine_eq;cases x with
 | non =>
  cases rx;have e':k=false:=e;subst e';exact truthy_none ⟨H,I,q⟩
 | bl b =>
  cases rx;have e':k=b:=e;subst e';exact wpAny_truthy_bool ⟨H,I,q⟩
 | int i =>
  obtain⟨t,rfl⟩:=rx;have e':k=(i != 0):=e;subst e';exact PySem.P.truthy_int ⟨H,I,q⟩
 | str y =>
  obtain⟨t,rfl⟩:=rx;obtain⟨hy,e'⟩ : y.length<=sizeLine/\k=((y.length:Int) != 0):=e;subst e';exact PySem.P.truthy_str () ⟨H,I.tok _,q⟩
 | byt y =>
  obtain⟨t,rfl⟩:=rx;obtain⟨hy,e'⟩ : y.size<=sizeLine/\k=((y.size:Int) != 0):=e;subst e';exact PySem.W.truthy_bytes () ⟨H,I.tok _,q⟩
 | ref p =>
  cases rx;have e':(∃xs,kQ X.K H p xs/\k = !xs.isEmpty)\/(∃xs,zg X.K H p xs/\k = !xs.isEmpty) \/ ∃kvs,H p=some (.dK kvs)/\k = !kvs.isEmpty:=e;rcases e' with ⟨xs,hx,e'⟩|⟨xs,hx,e'⟩|⟨kvs,hx,e'⟩
  .subst e';obtain⟨its,r,pl,hz⟩:=I.list hx;have hlen:=r.length;exact wpAny_truthy_list pl.isList (by simp only[Yt];nofun) ⟨H,I.tok _,by rw[qu r];exact q⟩
  .subst e';obtain⟨its,r,pl,hz⟩:=I.tuple hx;have hlen:=r.length;exact truthy_tuple pl (by simp only[Yt];nofun) ⟨H,I.tok _,by rw[qu r];exact q⟩
  .subst e';obtain⟨hz,hS,vs,r,m⟩ : kvs.length<=sizeLine/\(p==sysModules)=false /\ ∃vs,KV kvs vs/\s.heap.DictOf (tR X.prog X.w) p vs:=I.hok p _ hx;have hlen:kvs.length=vs.length:=Paired.length r;exact wpAny_truthy_dict hS m () ⟨H,I.tok _,by rw[vV r];exact q⟩
 | _=>exact (show False from e).elim
theorem CJ(ha:PE X a ta)(he:∀whole,isTrue a X.env whole=(do let v <-whole;standAt a.pos;holding [v] (truthy v))) :
  PT X a (λσ H Q=>ta σ H λx H'=>∃k,AH X.K x H' k/\Q k H'):=by
 intro pins s σ H Q I h;exact isTrue_plain (dH (ha pins s σ H _ I h) λv s1 ⟨x,H1,I1,r1,q1⟩=>Iw pins s1 σ H1 x v Q I1 r1 q1) (he _)
theorem ya{x:V}{us:List Value}(r:bC [x] us):∃u,us=[u]/\cy x u:=by
 cases r with
 | cons r1 r2=>cases r2;exact⟨_,rfl,r1⟩
theorem xW{x y:V}{us:List Value}(r:bC [x,y] us):∃u w',us=[u,w']/\cy x u/\cy y w':=by
 cases r with
 | cons r1 r2 =>
  cases r2 with
  | cons r3 r4=>cases r4;exact⟨_,_,rfl,r1,r3⟩
theorem jQ:eV X (.builtin "abs") (λxs H Q=>∃i,xs=[.int i]/\Q (.int (if i<0 then -i else i)) H):=by
 intro pins s σ H xs us Q I r h;obtain⟨i,rfl,q⟩:=h;obtain⟨u,rfl,t,rfl⟩:=ya r;exact call_abs_int λu tk=>⟨.int (if i<0 then -i else i),H,I.tok _,⟨_,rfl⟩,q⟩
theorem iT(hc:X.calm=true):eV X (.builtin "max") (λxs H Q=>∃i j,xs=[.int i,.int j]/\Q (.int (if j > i then j else i)) H):=by
 intro pins s σ H xs us Q I r h;obtain⟨i,j,rfl,q⟩:=h;obtain⟨u,w',rfl,⟨t,rfl⟩,⟨t',rfl⟩⟩:=xW r;refine max_two_ints (I.ok.hd hc) λh' tk k=>⟨_,H,I.kept k,?_,q⟩;by_cases hj:j > i
 .rw[Yb hj,Yb hj];exact⟨_,rfl⟩
 .rw[Yc hj,Yc hj];exact⟨_,rfl⟩
theorem AR(hc:X.calm=true):eV X (.builtin "min") (λxs H Q=>∃i j,xs=[.int i,.int j]/\Q (.int (if j<i then j else i)) H):=by
 intro pins s σ H xs us Q I r h;obtain⟨i,j,rfl,q⟩:=h;obtain⟨u,w',rfl,⟨t,rfl⟩,⟨t',rfl⟩⟩:=xW r;refine min_two_ints (I.ok.hd hc) λh' tk k=>⟨_,H,I.kept k,?_,q⟩;by_cases hj:j<i
 .rw[Yb hj,Yb hj];exact⟨_,rfl⟩
 .rw[Yc hj,Yc hj];exact⟨_,rfl⟩
end
structure Ir (h:Heap)(x dx C:Addr)(mA:Str->Option Value):Prop where
 obj:h.get? x=some (PySem.W.instObj C dx)
 ns:h.Ns1 dx mA
 ne:dx≠x
theorem Ab{h:Heap}{dx:Addr}{mA:Str->Option Value}(n:h.Ns1 dx mA):∃od,h.get? dx=some od /\ ∀name,PySem.W.lookIn name od=some (mA name):=by
 obtain⟨o,es,ep,ho,hd,hk,_,hm⟩:=n;refine⟨o,ho,λname=>?_⟩;have e:=hm name;unfold nsFind findBy at e;rw[<-Array.find?_toList] at e;unfold PySem.W.lookIn;rw[hd];dsimp only;split
 .rename_i y q
  rw[q] at e;exact Yn some e
 .rename_i q
  rw[q] at e;have a:es.toList.any (·.refKey)=false:=by
   rw[List.any_eq_false];intro y hy;obtain⟨z,t,hkey⟩:=hk y (Array.mem_toList_iff.mp hy);simp[DictEntry.refKey,hkey]
  have a':¬ es.toList.any (·.refKey)=true:=by rw[a];exact Yo
  rw[Yc a'];exact Yn some e
theorem Ir.look{h:Heap}{x dx C:Addr}{mA:Str->Option Value}(I:Ir h x dx C mA):∃od,PySem.W.InstAt h x (PySem.W.instObj C dx) C (some od) /\ ∀name,PySem.W.lookIn name od=some (mA name) :=
 let ⟨od,ho,hl⟩:=Ab I.ns
 ⟨od,⟨I.obj,rfl,rfl,ho⟩,hl⟩
section
variable {P:Program}{w:World}{H H':Hp}{h h':Heap}{a C dx:Addr}{fs fs':List (Str×V)}
theorem Eh(hok:oF P w H h)(e:H a=some (.ins C dx fs)):∃mA,Ir h a dx C mA/\(∀f,JC (fs.lookup f) (mA f))/\PySem.Within mA (fs.map (·.1))/\fs.length<=1000/\H dx=some (.own a):=by
 obtain⟨d,z,ne,ob,mA,n,r,q⟩:=(show dY P w H h a (.ins C dx fs) from hok a _ e)
 exact⟨mA,⟨ob,n,ne⟩,r,q,z,d⟩
end
structure LX (K:W.Frag)(C:Addr):Prop where
 pg:PySem.W.plainGet K C Str.empty=true
 hd:PySem.W.hasDictIn K C=true
 po:PySem.W.plainOver K C=true
 sa:PySem.W.findIn K (.ref C) "__setattr__" = some (some (.builtin "object.__setattr__"))
theorem LX.get{K:W.Frag}{C:Addr}(c:LX K C)(f:Str):PySem.W.plainGet K C f=true:=c.pg
section
variable {X:Cx}{pins:List (Addr×Obj)}{σ:St}{H:Hp}{s:Shared}{A:Around}{E:Value->Shared->Prop}{Q:Value->Shared->Prop}{c:Value}{b:Bool}
inductive oj (K:W.Frag)(H:Hp):V->Value->Prop where
 | non:oj K H .non (.type "NoneType")
 | bl (x:Bool):oj K H (.bl x) (.type "bool")
 | int (i:Int):oj K H (.int i) (.type "int")
 | str (x:Str):oj K H (.str x) (.type "str")
 | flt (x:UInt64):oj K H (.flt x) (.type "float")
 | lst {a:Addr}{xs:List V}(e:H a=some (.lst xs)):oj K H (.ref a) (.type "list")
 | frz {a:Addr}{o:Obj}{xs:List V}(e:H a=some (.frz o (.lst xs))):oj K H (.ref a) (.type "list")
 | tup {a:Addr}{xs:List V}(e:H a=some (.tup xs)):oj K H (.ref a) (.type "tuple")
 | dK {a:Addr}{kvs:List (rB×V)}(e:H a=some (.dK kvs)):oj K H (.ref a) (.type "dict")
 | dT {a:Addr}{kvs:List (List rB×V)}(e:H a=some (.dT kvs)):oj K H (.ref a) (.type "dict")
 | ins {a C dx:Addr}{fs:List (Str×V)}(e:H a=some (.ins C dx fs))(cl:LX K C)(ha:PySem.W.findIn K (.ref C) "__class__" = some (some (.builtin "object.__class__")))
   (hn:PySem.W.specialIn K (.builtin "object.__class__") "__get__" = some (some (.builtin "getset_descriptor.__get__"))) (htk:PySem.W.takesIn K (.builtin "object.__class__")=some true)
   (hm:PySem.W.mroIn K C (.type "object")=some true):oj K H (.ref a) (.ref C)
theorem fY{x:V}{u t:Value}(I:aM X pins σ H s)(rx:cy x u)(ty:oj X.K H x t)(e:PySem.W.kitOne X.K t c=some b)(h:∀tk,Q (.bool b) { s with toks:=tk }) :
  wpAny (model X.prog X.w) A (call (.builtin "isinstance") [u,c]) Q E s:=by
 cases ty with
 | non=>cases (show u=Value.none from rx);exact Yu PySem.W.kitx_none I.kIn True.intro e (λz=>nomatch z) h
 | bl y=>cases (show u=Value.bool y from rx);exact Yu PySem.W.kitx_bool I.kIn True.intro e (λz=>nomatch z) h
 | int i=>obtain⟨t,q⟩:=(show ∃t,u=Value.int i t from rx);cases q;exact Yu PySem.W.kitx_int I.kIn True.intro e (λz=>nomatch z) h
 | str y=>obtain⟨t,q⟩:=(show ∃t,u=Value.str y t from rx);cases q;exact Yu PySem.W.kitx_str I.kIn True.intro e (λz=>nomatch z) h
 | flt y=>obtain⟨t,q⟩:=(show ∃t,u=Value.float y t from rx);cases q;exact Yu PySem.W.kitx_float I.kIn True.intro e (λz=>nomatch z) h
 | @lst a xs ea =>
  cases (show u=Value.ref a from rx)
  obtain⟨_,_,n,_,h1⟩:=(show dY X.prog X.w H s.heap a (.lst xs) from I.hok a _ ea)
  exact Yu PySem.W.kitx_list I.kIn ⟨_,h1,rfl⟩ e (λz=>nomatch z) h
 | @frz a ob xs ea =>
  cases (show u=Value.ref a from rx)
  obtain⟨_,_,_,n,_,h1⟩:=(show dY X.prog X.w H s.heap a (.frz ob (.lst xs)) from I.hok a _ ea)
  exact Yu PySem.W.kitx_list I.kIn ⟨_,h1,rfl⟩ e (λz=>nomatch z) h
 | @tup a xs ea =>
  cases (show u=Value.ref a from rx)
  obtain⟨_,_,_,p⟩:=(show dY X.prog X.w H s.heap a (.tup xs) from I.hok a _ ea)
  obtain⟨o,h1,h2,_⟩:=p;exact Yu PySem.W.kitx_tuple I.kIn ⟨o,h1,h2⟩ e (λz=>nomatch z) h
 | @dK a kvs ea =>
  cases (show u=Value.ref a from rx)
  obtain⟨_,_,vs,_,p⟩:=(show dY X.prog X.w H s.heap a (.dK kvs) from I.hok a _ ea)
  obtain⟨o,es,ep,h1,h2,_⟩:=p;exact Yu PySem.W.kitx_dict I.kIn ⟨o,h1,h2.1⟩ e (λz=>nomatch z) h
 | @dT a kvs ea =>
  cases (show u=Value.ref a from rx)
  obtain⟨_,_,xs,_,o,es,ep,h1,h2,_⟩:=(show dY X.prog X.w H s.heap a (.dT kvs) from I.hok a _ ea)
  exact Yu PySem.W.kitx_dict I.kIn ⟨o,h1,h2.1⟩ e (λz=>nomatch z) h
 | @ins a C dx fs ea cl ha hn htk hm =>
  cases (show u=Value.ref a from rx)
  obtain⟨mA,O,_⟩:=Eh I.hok ea;obtain⟨od,J,_⟩:=O.look;exact Yu (PySem.W.kitx_own (cl.get _) cl.hd ha hn htk hm) I.kIn J e (λz=>nomatch z) h
end
structure gX (k:Nat)(A:Around):Prop where
 hd:A.handled=none
 dp:A.depth+3*k+105<recursionLimit
 un:A.units+16*k+200<cLine
theorem gX.mono{j k:Nat}{A:Around}(r:gX k A)(h:j<=k):gX j A:=⟨r.hd,by have:=r.dp;nofun,by have:=r.un;nofun⟩
theorem gX.deeper{k:Nat}{A:Around}(r:gX (k+1) A)(env:Env):gX k (A.deeper env) :=
 ⟨r.hd,by have:=r.dp;show A.depth+1+3*k+105<_;nofun,by have:=r.un;show A.units+3+16*k+200<_;nofun⟩
theorem gX.depth{k:Nat}{A:Around}(r:gX k A):A.depth<recursionLimit:=by have:=r.dp;nofun
def zS:TA:=λ_ H Q=>Q [] H
def nU(ta:TE)(tr:TA):TA:=λσ H Q=>ta σ H λx H1=>tr σ H1 λxs H2=>Q (x::xs) H2
section
variable {X:Cx}{e:Expr}{es:List Expr}{te:TE}{t:TA}{pos:Pos}
theorem Jc:PA X [] zS:=λ_ _ _ _ H Q I h=>Calls.spliced_nil ⟨[],H,I,.nil,h⟩
theorem Fl(ha:PE X e te)(hr:PA X es t)(hs:starEach (e::es) X.env=(false,eval e X.env)::starEach es X.env:=by rfl):PA X (e::es) (nU te t):=by
 intro pos pins s σ H Q I h;rw[hs];show wpAny _ _ (spliced ((false,eval e X.env)::backTo pos (starEach es X.env))) _ _ s;refine Calls.spliced_cons (dH (ha pins s σ H _ I h) λu s1 ⟨x,H1,I1,r1,q1⟩=>?_);exact dH (hr pos pins s1 σ H1 _ I1 q1) λus s2 ⟨xs,H2,I2,r2,q2⟩=>⟨x::xs,H2,I2,.cons r1 r2,q2⟩
end
abbrev Sp:=List V->Hp->VK->XK->Prop
abbrev zT:=List Env->Hp->Shared->XK->Value->Shared->Prop
structure FZ (P:Program)(w:World)(K:W.Frag)(mg:Str->Option Value)(base:Heap)(A:Around)(outer:List Env)(s:Shared)(H:Hp):Prop where
 frames:A.frames=some outer
 mod:Mod K mg base
 bs:∀b o,base.get? b=some o->s.heap.get? b=some o/\H b=none
 bsz:base.objs.size<=s.heap.objs.size
 funs:s.heap.FunFrames base outer
 frf:∀b∈AW outer,H b=none
 hok:oF P w H s.heap
 bare:AllBare s.gens
def CE(outer:List Env)(P:Program)(w:World)(H:Hp)(s:Shared)(Q:VK)(u:Value)(s':Shared):Prop :=
 ∃v H',s'.os=s.os/\AllBare s'.gens/\Un (AW outer) [] H H' s.heap s'.heap/\oF P w H' s'.heap/\cy v u/\Q v H'
def CR(CX:zT)(outer:List Env)(P:Program)(w:World)(H:Hp)(s:Shared)(Q:VK)(E:XK)(r:Result)(s':Shared):Prop :=
 match r with
 | .ok (.ret u)=>CE outer P w H s Q u s'
 | .ok _=>False
 | .error e=>CX outer H s E e s'
structure bZ (P:Program)(w:World)(K:W.Frag)(mg:Str->Option Value)(base:Heap)(CX:zT)(k:Nat)(f:Addr)(fd:FuncData)(ps:List Str)(sp:Sp):Prop where
 len:∀vs H Q E,sp vs H Q E->vs.length=ps.length
 run:∀(A:Around)(outer:List Env)(s:Shared)(H:Hp)(args:Args)(us:List Value)(vs:List V)(Q:VK)(E:XK),gX k A->FZ P w K mg base A outer s H->BindsTo s fd args (ps.zip us)->bC vs us->sp vs H Q E ->
  codeAny (model P w) A (.call (.ref f) args) (CR CX outer P w H s Q E) s
section
variable {X:Cx}{pins:List (Addr×Obj)}{σ:St}{H:Hp}{s s':Shared}
theorem aM.env0(I:aM X pins σ H s):FZ X.prog X.w X.K X.mg X.base X.A X.stack s H :=
 ⟨I.ok.frames,I.ok.mod,I.bs,Yg I.ok.bsz I.sz,I.stack,I.stkFree,I.hok,I.bare⟩
theorem aM.after{Q:VK}{u:Value}(I:aM X pins σ H s)(h:CE X.stack X.prog X.w H s Q u s'):EP X pins σ Q u s':=by
 obtain⟨v,H',os,bare,un,hok,r,q⟩:=h;obtain⟨hh,g,d,t,os'⟩:=s';obtain rfl:os'=s.os:=os;exact⟨v,H',I.call (h':=hh) (g':=g) (d':=d) (t':=t) (ch:=[]) un hok bare (λb z=>absurd z (by simp)),r,q⟩
end
def Kh(sp:Sp)(dvs:List V)(E:XK)(t:TA):TE:=λσ H Q=>t σ H λvs H1=>sp (vs++dvs) H1 Q E
def pX(K:W.Frag)(fd:FuncData)(ps:List Str)(ds:List Value):Prop :=
 ∀(s:Shared)(us:List Value),K.In s.heap->(us++ds).length=ps.length->BindsTo s fd ⟨us,[]⟩ (ps.zip (us++ds))
theorem pX.all{K:W.Frag}{fd:FuncData}{ps:List Str}(h:∀us:List Value,us.length=ps.length->bindArgs fd ⟨us,[]⟩=pure (ps.zip us)):pX K fd ps []:=λs us _ hl=>by
 rw[Yv] at hl ⊢;exact .of_eq (h us hl)
def v6(CX:zT)(X:Cx)(E:XK):Prop:=∀(pins:List (Addr×Obj))(σ:St)(H:Hp)(s:Shared)(e:Value)(s':Shared),aM X pins σ H s->CX X.stack H s E e s'->X.xe e s'
section
variable {X:Cx}{CX:zT}{k:Nat}{f C:Addr}{fd:FuncData}{ps:List Str}{sp:Sp}{dvs:List V}{ds:List Value}{E:XK}{x m:Str}{p pos apos:Pos}{e o:Expr}{es:List Expr}{ta:TE}{t:TA}
theorem IH{pins:List (Addr×Obj)}{σ:St}{H:Hp}{s:Shared}{Q:VK}{us:List Value}{vs:List V}(F:bZ X.prog X.w X.K X.mg X.base CX k f fd ps sp)(hr:gX k X.A)(hb:pX X.K fd ps ds)(hd:bC dvs ds)(hx:v6 CX X E)
  (I:aM X pins σ H s)(r:bC vs us)(h:sp (vs++dvs) H Q E):wpAny (model X.prog X.w) X.A (call (.ref f) us) (EP X pins σ Q) X.xe s:=by
 have r2:bC (vs++dvs) (us++ds):=r.append hd;have hl:(us++ds).length=ps.length:=by rw[<-r2.length];exact F.len _ _ _ _ h
 refine wpAny_call (codeAny_mono (F.run X.A X.stack s H ⟨us,[]⟩ (us++ds) (vs++dvs) Q E hr I.env0 (hb s us I.kIn hl) r2 h) λr s' hq=>?_);cases r with
 | error e=>exact hx pins σ H s e s' I hq
 | ok fl =>
  cases fl with
  | ret u=>exact I.after hq
  | next=>exact False.elim hq
  | brk=>exact False.elim hq
  | cont=>exact False.elim hq
theorem EL(F:bZ X.prog X.w X.K X.mg X.base CX k f fd ps sp)(hr:gX k X.A)(hg:Gl X x)(hm:X.mg x=some (.ref f))(hk:PySem.W.keepIn X.K (.ref f)=true)(hb:pX X.K fd ps ds)(hd:bC dvs ds)(hx:v6 CX X E)
  (ha:PA X (e::es) t)(hdb:(x==("__debug__" : Str))=false:=by decide) (he:starEach (e::es) X.env=(false,eval e X.env)::starEach es X.env:=by rfl)(hpl:(backTo pos (starEach es X.env)).any (·.1)=false:=by rfl) :
  PE X (.Call (.Name x p) (e::es) [] pos) (Kh sp dvs E t):=by
 intro pins s σ H Q I h;refine wpAny_Call_Name_kw (xN I hg hm ?_ hdb);refine PySem.W.callWith_K (h₀:=X.base) I.ok.mod.kin hk (dH (ha pos pins s σ H _ I h) λus s1 ⟨vs,H1,I1,r,q⟩=>⟨I1.kIn,?_⟩) he hpl;exact IH F hr hb hd hx I1 r q
end
structure aA (N P:List Str)(sc:Scope):Prop where
 kind:sc.kind=.function
 co:sc.isCoroutine=false
 gen:sc.isGenerator=false
 nd:N.Nodup
 pre:N.take P.length=P
 par:∀x∈P,sc.names.lookup x=some .local\/sc.names.lookup x=some .cell
 nofree:∀y∈sc.names,y.2 ≠ .free
theorem rE{kindOf:Str->Option NameKind}{x:Str}:∀{binds:List (Str×Value)}{m:Str->Option Value},(∀v,(x,v)∉binds)->bindL kindOf binds m x=m x
 | [],_,_=>rfl
 | (n,v)::r,m,h=>by
  unfold bindL;rw[rE λw hw=>h w (Yj _ hw)];split
  .have:x≠n:=by rintro rfl;exact h v Yi
   simp[this]
  .rfl
theorem rL{kindOf:Str->Option NameKind}{x:Str}:∀{binds:List (Str×Value)}{m:Str->Option Value},(∀v,(x,v)∉binds)->bindC kindOf binds m x=m x
 | [],_,_=>rfl
 | (n,v)::r,m,h=>by
  unfold bindC;rw[rL λw hw=>h w (Yj _ hw)];split
  .rfl
  .have:x≠n:=by rintro rfl;exact h v Yi
   simp[this]
theorem rV{kindOf:Str->Option NameKind}{x:Str}{v:Value}:∀{P:List Str}{vs:List Value}{i:Nat}{m:Str->Option Value},P.Nodup->P[i]? = some x->vs[i]? = some v->kindOf x=some .local ->
  bindL kindOf (P.zip vs) m x=some v
 | [],_,_,_,_,h,_,_=>by simp at h
 | _::_,[],_,_,_,_,h,_=>by simp at h
 | p::P,w::vs,0,m,nd,h1,h2,hk=>by
  simp at h1 h2;subst h1;subst h2;show bindL kindOf ((p,w)::P.zip vs) m p=_;unfold bindL;rw[rE λv hv=>(List.nodup_cons.mp nd).1 (List.of_mem_zip hv).1,Yb hk];simp
 | p::P,w::vs,i+1,m,nd,h1,h2,hk=>by
  show bindL kindOf ((p,w)::P.zip vs) m x=_;unfold bindL;exact rV (i:=i) (List.nodup_cons.mp nd).2 (by simpa using h1) (by simpa using h2) hk
theorem qY{kindOf:Str->Option NameKind}{x:Str}{v:Value}:∀{P:List Str}{vs:List Value}{i:Nat}{m:Str->Option Value},P.Nodup->P[i]? = some x->vs[i]? = some v->kindOf x≠some .local ->
  bindC kindOf (P.zip vs) m x=some v
 | [],_,_,_,_,h,_,_=>by simp at h
 | _::_,[],_,_,_,_,h,_=>by simp at h
 | p::P,w::vs,0,m,nd,h1,h2,hk=>by
  simp at h1 h2;subst h1;subst h2;show bindC kindOf ((p,w)::P.zip vs) m p=_;unfold bindC;rw[rL λv hv=>(List.nodup_cons.mp nd).1 (List.of_mem_zip hv).1,Yc hk];simp
 | p::P,w::vs,i+1,m,nd,h1,h2,hk=>by
  show bindC kindOf ((p,w)::P.zip vs) m x=_;unfold bindC;exact qY (i:=i) (List.nodup_cons.mp nd).2 (by simpa using h1) (by simpa using h2) hk
def start(N:List Str)(vs:List V):St:=vs.map some++List.replicate (N.length-vs.length) none
def sU(CX:zT)(P:Program)(w:World)(K:W.Frag)(mg:Str->Option Value)(base:Heap)(N:List Str)(qual:Str)(scope:Scope)(f:Addr)(cd:Value)(A:Around)(outer:List Env)(s:Shared)(H:Hp)(E:XK):Cx where
 prog:=P
 w:=w
 K:=K
 mg:=mg
 base:=base
 A:=A.deeper (envOfC qual scope s.heap.objs.size f cd)
 N:=N
 s₀:=s
 H₀:=H
 env:=envOfC qual scope s.heap.objs.size f cd
 outer:=outer
 stack:=envOfC qual scope s.heap.objs.size f cd::outer
 ex:=[]
 calm:=true
 fn:=λ_=>true
 pn:=[]
 xe:=λe s'=>wpAny (model P w) (A.deeper (envOfC qual scope s.heap.objs.size f cd)) (leaving (envOfC qual scope s.heap.objs.size f cd) e) (λ_ s''=>CX outer H s E e s'') (λe' s''=>CX outer H s E e' s'') s'
theorem uM{sc:Scope}{n:Nat}{x:Str}(h:sc.names.lookup x=some .cell):∃c,(cellsFrom n sc.names []).lookup x=some c:=by
 have q:=PySem.W.cellsFrom_some sc.names n [] (.inl h);exact Option.isSome_iff_exists.mp q
theorem AG{CX:zT}{P:Program}{w:World}{K:W.Frag}{mg:Str->Option Value}{base:Heap}{N ps:List Str}{qual:Str}{scope:Scope}{f:Addr}{cd:Value}{A:Around}{outer:List Env}{s s1:Shared}{H:Hp}{E:XK}{us:List Value}{vs:List V}
  (S:aA N ps scope)(hd:A.handled=none)(e0:FZ P w K mg base A outer s H)(hl:vs.length=ps.length)(r:bC vs us)
  (x:InCallC s s.heap.objs.size (bindL (envOfC qual scope s.heap.objs.size f cd).kindOf (ps.zip us) λ_=>none) (cellsFrom (s.heap.objs.size+1) scope.names []) (bindC (envOfC qual scope s.heap.objs.size f cd).kindOf (ps.zip us) λ_=>none) s1) :
  aM (sU CX P w K mg base N qual scope f cd A outer s H E) [] (start N vs) H s1:=by
 have hpl:ps.length<=N.length:=by have:=Yn List.length S.pre;rw[Yw] at this;nofun
 obtain⟨h1,tk,rfl,hk⟩:=x.done;have noA:∀b:Addr,b∉(sU CX P w K mg base N qual scope f cd A outer s H E).ex:=λb z=>absurd (show b∈([]:List Addr) from z) (by simp)
 refine⟨⟨e0.mod,S.kind,rfl,rfl,Yq _,λy z c h1 h2=>?_,λy hy=>?_,λy c _ h=>?_,λ_=>hd,Around.frames_deeper e0.frames,.inr ⟨rfl,rfl⟩,λb z=>absurd z (noA b),e0.bs,e0.bsz,λb _ _=>noA b,λb z=>absurd z (noA b),e0.funs,e0.frf⟩,
  rfl,e0.bare,Un.kept hk,⟨_,x.toInCall.ns,λi y v h1 h2 h3=>?_⟩,λy c h=>⟨_,x.cell y c h⟩,e0.hok.fresh (Yq _),λy c h=>?_,λp hp=>absurd (show p∈([]:List (Addr×Obj)) from hp) (by simp),e0.hok.kept hk,?_⟩
 .exact name_of_addr x.apart (Yx h1) (Yx h2)
 .have hy:scope.names.lookup y=some .cell\/scope.names.lookup y=some .free:=hy;rcases hy with hy|hy
  .exact uM hy
  .exact absurd rfl (S.nofree _ (Yx hy))
 .exact Yh (x.above y c (Yx h))
 .have hi:i<vs.length:=by
   unfold start at h2;by_cases hi:i<vs.length
   .exact hi
   .rw[Yy (by simpa using hi)] at h2
    rw[List.getElem?_replicate] at h2;split at h2<;>cases h2
  have ha:vs[i]? = some v:=by
   unfold start at h2;rw[Yz (by simpa using hi),YA] at h2
   cases e:vs[i]? with
   | none=>rw[e] at h2;cases h2
   | some a=>rw[e] at h2;cases h2;rfl
  obtain⟨u,hu,rv⟩:=r.get ha;have hp:ps[i]? = some y:=by
   rw[<-S.pre,List.getElem?_take_of_lt ()];exact h1
  have ndP:ps.Nodup:=by rw[<-S.pre];exact S.nd.sublist (List.take_sublist _ _)
  refine⟨u,rv,?_⟩;rcases S.par y (YB hp) with k|k
  .exact .inl ⟨k,rV ndP hp hu k⟩
  .obtain⟨c,e⟩:=uM (n:=s.heap.objs.size+1) k;refine .inr ⟨.inl k,c,e,?_⟩;have q:=x.cell y c e;rw[qY ndP hp hu (by show scope.names.lookup y≠_;rw[k];decide)] at q
   exact q
 .exact e0.hok.fresh (Yh (x.above y c (Yx h)))
 .unfold start;show _=N.length;rw[YC,YD,List.length_replicate];nofun
theorem K5{CX:zT}{P:Program}{w:World}{K:W.Frag}{mg:Str->Option Value}{base:Heap}{k:Nat}{f:Addr}{name qual:Str}{params:Arguments}{body:List Stmt}{scope:Scope}{dV kV doc pm cdv ct oc:Value}{an od:Option Addr}
  {osl:Array (Option Value)}{N ps:List Str}{sp:Sp}(lk:K.lookup f=some ⟨oc,od,.func (PySem.W.fnOf name qual params body scope dV kV doc pm an cdv ct),osl⟩)(hcd:PySem.W.codeIn K cdv qual=true)(S:aA N ps scope)
  (len:∀vs H Q E,sp vs H Q E->vs.length=ps.length)
  (hbody:∀(A:Around)(outer:List Env)(s:Shared)(H:Hp)(vs:List V)(Q:VK)(E:XK),gX k (A.deeper (envOfC qual scope s.heap.objs.size f cdv))->sp vs H Q E ->
   ∃t,vJ (sU CX P w K mg base N qual scope f cdv A outer s H E) body t/\t { nx:=λ_ H'=>Q .non H',rt:=Q } (start N vs) H) :
  bZ P w K mg base CX (k+1) f (PySem.W.fnOf name qual params body scope dV kV doc pm an cdv ct) ps sp:=by
 refine⟨len,λA outer s H args us vs Q E hr e0 hb r hsp=>?_⟩;have hl:=len _ _ _ _ hsp;have KX:K.In s.heap:=e0.mod.kin.keeps λb o e=>(e0.bs b o e).1;have lim:s.heap.NoLimit:=e0.mod.nolimit.keeps λb o e=>(e0.bs b o e).1;have hkind:∀y∈ps.zip us,scope.names.lookup y.1=some .local\/(scope.names.lookup y.1=some .cell/\((cellsFrom (s.heap.objs.size+1) scope.names []).lookup y.1).isSome=true):=λ⟨n,v⟩ hy=>by
  rcases S.par n (List.of_mem_zip hy).1 with q|q
  .exact .inl q
  .exact .inr ⟨q,PySem.W.cellsFrom_some _ _ _ (.inl q)⟩
 refine codeAny_call_function hr.depth (KX _ _ lk) rfl S.co S.gen rfl (PySem.W.codeRec_of KX hcd) (hb _ _ _ _ ?_);refine wpAny_newFunctionEnv_cells S.kind hkind λenv he s1 x=>?_;subst he;refine⟨lim.keeps x.toInCall.keep,codeAny_func ?_⟩;obtain⟨t,ht,hq⟩:=hbody A outer s H vs Q E (hr.deeper _) hsp;have I:aM (sU CX P w K mg base N qual scope f cdv A outer s H E) [] (start N vs) H s1:=AG S hr.hd e0 hl r x;refine wpAny_mono (ht [] s1 (start N vs) H _ I hq) (λfl s' hs=>?_) λe s' hs=>hs;have fin:∀{σ':St}{H':Hp}{v:V}{u:Value},aM (sU CX P w K mg base N qual scope f cdv A outer s H E) [] σ' H' s'->cy v u->Q v H'->CE outer P w H s Q u s' :=
  λ{σ' H' v u} J rv q=>⟨v,H',J.os,J.bare,J.base,J.hok,rv,q⟩
 cases fl with
 | ret u =>
  obtain⟨v,σ',H',J,rv,q⟩:=hs;exact fin J rv q
 | next =>
  obtain⟨σ',H',J,q⟩:=hs;exact fin (v:=V.non) (u:=Value.none) J rfl q
 | brk =>
  obtain⟨_,_,_,q⟩:=hs;exact False.elim q
 | cont =>
  obtain⟨_,_,_,q⟩:=hs;exact False.elim q
section
variable {X:Cx}{x:Str}{p pos:Pos}{e:Expr}{es:List Expr}{t:TA}{id T:String}{r:List V->Hp->VK->Prop}
def Fv(r:List V->Hp->VK->Prop)(t:TA):TE:=λσ H Q=>t σ H λvs H1=>r vs H1 Q
theorem DP(hc:eV X (.builtin id) r)(hg:Gl X x)(hm:X.mg x=none)(hv:bootBuiltins x=some (.builtin id))(ha:PA X (e::es) t)(hn:x ≠ "__name__":=by decide) (hdb:(x==("__debug__" : Str))=false:=by decide)
  (he:starEach (e::es) X.env=(false,eval e X.env)::starEach es X.env:=by rfl)(hpl:(backTo pos (starEach es X.env)).any (·.1)=false:=by rfl):PE X (.Call (.Name x p) (e::es) [] pos) (Fv r t):=by
 intro pins s σ H Q I h;refine wpAny_Call_Name_kw (i9 I hg hm hv ?_ hn hdb);exact PyProof.Rows.callWith_builtin1 (dH (ha pos pins s σ H _ I h) λus s1 ⟨vs,H1,I1,r1,q1⟩=>hc pins s1 σ H1 vs us Q I1 r1 q1) he hpl
theorem AN(hc:eV X (.type T) r)(hg:Gl X x)(hm:X.mg x=none)(hv:bootBuiltins x=some (.type T))(ha:PA X (e::es) t)(hn:x ≠ "__name__":=by decide) (hdb:(x==("__debug__" : Str))=false:=by decide)
  (he:starEach (e::es) X.env=(false,eval e X.env)::starEach es X.env:=by rfl)(hpl:(backTo pos (starEach es X.env)).any (·.1)=false:=by rfl):PE X (.Call (.Name x p) (e::es) [] pos) (Fv r t):=by
 intro pins s σ H Q I h;refine wpAny_Call_Name_kw (i9 I hg hm hv ?_ hn hdb);exact Yr (dH (ha pos pins s σ H _ I h) λus s1 ⟨vs,H1,I1,r1,q1⟩=>hc pins s1 σ H1 vs us Q I1 r1 q1) he hpl
end
end L2
namespace HT
open PySem PyProof.Rows
section
open PySem.SeqAt
open PySem.AutoSeq1 (wpAny_loadPart')
open PySem.MeetsSeq PySem.MeetsSeq2 PySem.MeetsSeq3
end
section
variable {prog:Program}{w:World}{A:Around}{E:Value->Shared->Prop}{s:Shared}
def sIx(n d:Nat):Option Int->Nat
 | none=>d
 | some v=>if v<0 then (v+(n:Int)).toNat else min v.toNat n
theorem yT(n d k:Nat):sIx n d (some (k:Int))=min k n:=by
 show (if (k:Int)<0 then ((k:Int)+(n:Int)).toNat else min (k:Int).toNat n)=min k n
 rw[Yc (),Int.toNat_natCast]
end
end HT
namespace L2
open PySem PySem.Spec PyProof.Rows
abbrev TO:=St->Hp->(Option Int->Hp->Prop)->Prop
def PO(X:Cx)(e:Option Expr)(t:TO):Prop :=
 ∀(pins:List (Addr×Obj))(s:Shared)(σ:St)(H:Hp)(Q:Option Int->Hp->Prop),aM X pins σ H s->t σ H Q ->
  wpAny (model X.prog X.w) X.A (evalPart e X.env) (λu s'=>∃o H',aM X pins σ H' s'/\IsPart u o/\Q o H') X.xe s
def sJ:TO:=λ_ H Q=>Q none H
def yX(t:TE):TO:=λσ H Q=>t σ H λx H1=>∃i,x=.int i/\Q (some i) H1
theorem wK{ns:List Int}:∀{us:List Value},bC (ns.map V.int) us->IntsAre us ns:=by
 induction ns with
 | nil=>intro us r;rw[List.map_nil] at r;cases r;exact .nil
 | cons n ns ih =>
  intro us r;rw[YE] at r;cases r with
  | cons r1 r2 =>
   obtain⟨t,e⟩:=r1;subst e;exact .cons n t (ih r2)
section
variable {X:Cx}{e:Expr}{te:TE}{lo hi:Option Expr}{tl th:TO}{pos p2:Pos}
theorem Ef:PO X none sJ:=by
 intro pins s σ H Q I h;rw[evalPart_none];exact wpAny_pure ⟨none,H,I,.none,h⟩
theorem Gn(h:PE X e te):PO X (some e) (yX te):=by
 intro pins s σ H Q I hw;rw[evalPart_some];refine dH (h pins s σ H _ I hw) λu s1 ⟨x,H1,I1,r1,q1⟩=>?_;obtain⟨i,rfl,q⟩:=q1;obtain⟨t,rfl⟩:=r1;exact⟨some i,H1,I1,.int i t,q⟩
def D4(X:Cx)(r:V->Option Int->Option Int->Hp->VK->Prop):Prop :=
 ∀(pins:List (Addr×Obj))(s:Shared)(σ:St)(H:Hp)(x:V)(v vl vu:Value)(lo hi:Option Int)(sl:Addr)(Q:VK),aM X pins σ H s->cy x v->s.heap.IsSliceOf sl vl vu .none->IsPart vl lo->IsPart vu hi->r x lo hi H Q ->
  ∃T id,typeLookup (.type T) "__getitem__" = pure (some (.builtin id))/\s.TypeIs v T/\wpAny (model X.prog X.w) X.A (getItem v (.ref sl)) (EP X pins σ Q) X.xe s
def LF(r:V->Option Int->Option Int->Hp->VK->Prop)(te:TE)(tl th:TO):TE:=λσ H Q=>te σ H λx H1=>tl σ H1 λl H2=>th σ H2 λu H3=>r x l u H3 Q
theorem C3{r:V->Option Int->Option Int->Hp->VK->Prop}(hr:D4 X r)(he:PE X e te)(hl:PO X lo tl)(hu:PO X hi th):PE X (.Subscript e (.Slice lo hi none p2) pos) (LF r te tl th):=by
 intro pins s σ H Q I h;refine Subscript_ (dH (he pins s σ H _ I h) λv s1 ⟨x,H1,I1,r1,q1⟩=>?_);refine wpAny_Slice (dH (hl pins s1 σ H1 _ I1 q1) λvl s2 ⟨l,H2,I2,pl,q2⟩=>dH (hu pins s2 σ H2 _ I2 q2) λvu s3 ⟨u,H3,I3,pu,q3⟩=>?_);rw[evalPart_none];refine wpAny_pure ?_;have I4:aM X pins σ H3 { s3 with heap:=s3.heap.push { cls:=.type "slice",data:=.fields #[vl,vu,.none] } }:=I3.kept (t':=s3.toks) λb ob q=>Heap.get?_push_of_some _ q
 obtain⟨T,id,hT,ht,hg⟩:=hr pins { s3 with heap:=s3.heap.push { cls:=.type "slice",data:=.fields #[vl,vu,.none] } } σ H3 x v vl vu l u s3.heap.objs.size Q I4 r1 (Heap.IsSliceOf.new ..) pl pu q3;show wpAny (model X.prog X.w) X.A (subscriptTail e (.Slice lo hi none p2) v (.ref s3.heap.objs.size)) (EP X pins σ Q) X.xe { s3 with heap:=s3.heap.push { cls:=.type "slice",data:=.fields #[vl,vu,.none] } }
 exact tail_any (ops:=[.ref s3.heap.objs.size,v]) ht hT hg (by with_unfolding_all rfl)
def qB(xs:List V)(lo hi:Option Int):List V:=(xs.drop (HT.sIx xs.length 0 lo)).take (HT.sIx xs.length xs.length hi-HT.sIx xs.length 0 lo)
theorem uZ(xs:List V)(lo hi:Option Int):(qB xs lo hi).length<=xs.length:=by
 unfold qB;rw[Yw,List.length_drop];nofun
end
def xG(n:Nat)(i:Int):Option Nat:=if 0<=i then (if i<n then some i.toNat else none) else if -(n:Int)<=i then some (i+n).toNat else none
def jo{α:Type}(xs:List α)(i:Int):Option α:=(xG xs.length i).bind λj=>xs[j]?
theorem xZ{n:Nat}{i:Int}{j:Nat}(h:xG n i=some j):seqIndex? i n=some j/\j<n /\ -(n:Int)<=i/\i<n:=by
 unfold xG at h;by_cases h0:0<=i
 .rw[Yb h0] at h;by_cases h1:i<n
  .rw[Yb h1] at h;have e:i.toNat=j:=Ym h;exact⟨by rw[seqIndex_of h0 h1,e],(),(),h1⟩
  .rw[Yc h1] at h;cases h
 .rw[Yc h0] at h;by_cases h1 : -(n:Int)<=i
  .rw[Yb h1] at h;have e:(i+n).toNat=j:=Ym h;exact⟨by rw[seqIndex_neg () h1,e],(),h1,()⟩
  .rw[Yc h1] at h;cases h
theorem sF{α:Type}{xs:List α}{i:Int}{v:α}(h:jo xs i=some v):∃j,seqIndex? i xs.length=some j/\xs[j]? = some v/\j<xs.length /\ -(xs.length:Int)<=i/\i<xs.length:=by
 unfold jo at h;cases e:xG xs.length i with
 | none=>rw[e] at h;cases h
 | some j =>
  rw[e] at h;obtain⟨h1,h2,h3,h4⟩:=xZ e;exact⟨j,h1,h,h2,h3,h4⟩
theorem cG{α:Type}{xs:List α}{j:Nat}{v:α}(h:xs[j]? = some v):jo xs (j:Int)=some v:=by
 have hj:j<xs.length:=(List.getElem?_eq_some_iff.mp h).1;have e:xG xs.length (j:Int)=some j:=by
  unfold xG;rw[Yb (),Yb ()];simp
 unfold jo;rw[e];exact h
theorem Bn{α:Type}(xs:List α)(v:α):jo (xs++[v]) (-1)=some v:=by
 have hl:(xs++[v]).length=xs.length+1:=by simp
 have e:xG (xs++[v]).length (-1)=some xs.length:=by
  unfold xG;rw[hl,Yc ∅,Yb ()];congr 1
  nofun
 unfold jo;rw[e];show (xs++[v])[xs.length]? = some v;simp
def zK(b:Expr):Prop:=∀o i,subscripted b false o i=operate [o,i] (getItem o i)
def AT(X:Cx)(r:R2):Prop :=
 ∀(value slice:Expr)(pins:List (Addr×Obj))(s:Shared)(σ:St)(H:Hp)(x y:V)(v u:Value)(Q:VK),aM X pins σ H s->cy x v->cy y u->r x y H Q ->
  subscripted slice false v u=operate [v,u] (getItem v u)->wpAny (model X.prog X.w) X.A (subscriptTail value slice v u) (EP X pins σ Q) X.xe s
def K7(X:Cx)(id:String)(r:V->List V->Hp->VK->Prop):Prop :=
 ∀(pins:List (Addr×Obj))(s:Shared)(σ:St)(H:Hp)(x:V)(xs:List V)(v:Value)(us:List Value)(Q:VK),aM X pins σ H s->cy x v->bC xs us->r x xs H Q ->
  wpAny (model X.prog X.w) X.A (call (.builtin id) (v::us)) (EP X pins σ Q) X.xe s
section
variable {X:Cx}{a b:Expr}{ta tb:TE}{pos:Pos}
theorem KW{r:R2}(hr:AT X r)(ha:PE X a ta)(hb:PE X b tb)(hs:zK b):PE X (.Subscript a b pos) (D3 r ta tb):=by
 intro pins s σ H Q I h;exact Subscript_ (HF ha hb I h λv u s2 x y H2 I2 rx ry q=>hr a b pins s2 σ H2 x y v u Q I2 rx ry q (hs _ _))
def KC(K:W.Frag):R2:=λx y H Q=>∃p xs i v,x=.ref p/\y=.int i/\kQ K H p xs/\jo xs i=some v/\Q v H
def Kw(K:W.Frag):R2:=λx y H Q=>∃p xs i v,x=.ref p/\y=.int i/\zg K H p xs/\jo xs i=some v/\Q v H
theorem zf:AT X (KC X.K):=by
 intro value slice pins s σ H x y v u Q I rx ry h hs;obtain⟨p,xs,i,z,rfl,rfl,hq,he,q⟩:=h;cases rx;obtain⟨t,rfl⟩:=ry;obtain⟨its,r,pl,hz⟩:=I.list hq;obtain⟨j,h1,h2,h3,h4,h5⟩:=sF he;obtain⟨w,ew,rw'⟩:=r.get h2;have hl:=r.length;have hn:=nI;have fin:EP X pins σ Q w s:=⟨z,H,I,rw',q⟩;by_cases h0:0<=i
 .have hj:i.toNat=j:=by
   rw[seqIndex_of h0 h5] at h1;exact Ym h1
  exact item_listR pl.isList h0 () (by rw[hj];simpa using ew) fin hs
 .have hj:(i+(its.toArray.size:Int)).toNat=j:=by
   rw[seqIndex_neg () h4] at h1;rw[Yt,<-hl];exact Ym h1
  exact subscriptTail_builtinR (x:=w) pl.isList.typeIs slot_list_getitem.lookup
   (wpAny_getItem_list_neg (Q:=λr s'=>r=w/\EP X pins σ Q r s') pl.isList () (by rw[Yt]<;>nofun) () (by rw[hj];simpa using ew) ⟨rfl,fin⟩) hs
theorem JM:AT X (Kw X.K):=by
 intro value slice pins s σ H x y v u Q I rx ry h hs;obtain⟨p,xs,i,z,rfl,rfl,hq,he,q⟩:=h;cases rx;obtain⟨t,rfl⟩:=ry;obtain⟨its,r,pl,hz⟩:=I.tuple hq;obtain⟨j,h1,h2,h3,h4,h5⟩:=sF he;obtain⟨w,ew,rw'⟩:=r.get h2;have hl:=r.length;have hn:=nI;have fin:EP X pins σ Q w s:=⟨z,H,I,rw',q⟩;exact subscriptTail_builtinR (x:=w) pl.typeIs slot_tuple_getitem.lookup
  (getItem_tuple (j:=j) (Q:=λr s'=>r=w/\EP X pins σ Q r s') pl () () (by rw[Yt,<-hl];exact h1) (by simpa using ew) ⟨rfl,fin⟩) hs
theorem wN(its:List Value)(n j:Nat)(u:Value):Obj.mapSeq (·.setIfInBounds j u) { cls:=.type "list",data:=.seq its.toArray n } = { cls:=.type "list",data:=.seq (its.set j u).toArray n }:=by
 simp[Obj.mapSeq]
theorem aM.lst{pins:List (Addr×Obj)}{σ:St}{H:Hp}{s:Shared}{p:Addr}{xs:List V}(I:aM X pins σ H s)(h:H p=some (.lst xs)) :
  ∃(its:List Value)(n:Nat),bC xs its/\s.heap.get? p=some { cls:=.type "list",data:=.seq its.toArray n } /\ xs.length<=sizeLine:=by
 obtain⟨z,its,n,r,e⟩:=I.hok p _ h;exact⟨its,n,r,e,z⟩
theorem aM.lstUpd{pins:List (Addr×Obj)}{σ:St}{H:Hp}{s:Shared}{p:Addr}{xs ys:List V}{its its':List Value}{n n':Nat}{f:Obj->Obj}(I:aM X pins σ H s)(h:H p=some (.lst xs))
  (ho:s.heap.get? p=some { cls:=.type "list",data:=.seq its.toArray n }) (hf:f { cls:=.type "list",data:=.seq its.toArray n } = { cls:=.type "list",data:=.seq its'.toArray n' }) (r:bC ys its')(hz:ys.length<=sizeLine)(t:Nat) :
  aM X pins σ (upd H p (.lst ys)) { s with heap:=s.heap.update p f,toks:=t }:=by
 have e:(s.heap.update p f).get? p=some { cls:=.type "list",data:=.seq its'.toArray n' }:=by
  rw[Heap.get?_update_self f ho (by rw[hf]<;>rfl),hf]
 refine I.write (x:=p) (e:=p) (by rw[h];trivial) (.inl rfl) (λb u hb q=>(Heap.get?_update_other _ _ (Ne.symm hb)).trans q) ⟨_,e⟩ ?_
 exact⟨hz,its',n',r,e⟩
def KB:V->V->V->Hp->(Hp->Prop)->Prop:=λo i v H Q=>∃p xs k j,o=.ref p/\i=.int k/\H p=some (.lst xs)/\xG xs.length k=some j/\Q (upd H p (.lst (xs.set j v)))
theorem Bw:Ax X KB:=by
 intro pins s σ H o i v ov iv u Q I ro ri rv h;obtain⟨p,xs,k,j,rfl,rfl,hp,hj,q⟩:=h;cases ro;obtain⟨t,rfl⟩:=ri;obtain⟨its,n,r,ho,hz⟩:=I.lst hp;obtain⟨h1,h2,h3,h4⟩:=xZ hj;have hl:=r.length;have hn:=nI;have I':aM X pins σ (upd H p (.lst (xs.set j v))) { s with heap:=s.heap.update p (Obj.mapSeq (·.setIfInBounds j u)) } :=
  I.lstUpd hp ho (wN its n j u) (r.set rv j) (by rw[List.length_set];exact hz) s.toks
 by_cases h0:0<=k
 .have hk:k.toNat=j:=by
   rw[seqIndex_of h0 h4] at h1;exact Ym h1
  exact PySem.W.ki_setAt ho h0 () (by rw[Yt,<-hl];exact h4) (by rw[hk];exact⟨_,I',q⟩)
 .have hk:(k+(its.toArray.size:Int)).toNat=j:=by
   rw[seqIndex_neg () h3] at h1;rw[Yt,<-hl];exact Ym h1
  exact PySem.W.ki_setBack ho () (by rw[Yt,<-hl];exact h3) () (by rw[hk];exact⟨_,I',q⟩)
theorem tQ(lo hi:Option Int)(n:Nat):(sliceBounds lo hi none n).1=((HT.sIx n 0 lo:Nat):Int)/\(sliceBounds lo hi none n).2.1=((HT.sIx n n hi:Nat):Int)/\(sliceBounds lo hi none n).2.2=1:=by
 refine⟨?_,?_,rfl⟩
 .cases lo with
  | none=>simp[sliceBounds,HT.sIx]
  | some i =>
   simp only[sliceBounds,HT.sIx,Option.getD_none,show (1:Int) > 0 by decide,if_true]
   by_cases h:i<0
   .simp only[h,if_true]<;>nofun
   .simp only[h,if_false]<;>nofun
 .cases hi with
  | none=>simp[sliceBounds,HT.sIx]
  | some i =>
   simp only[sliceBounds,HT.sIx,Option.getD_none,show (1:Int) > 0 by decide,if_true]
   by_cases h:i<0
   .simp only[h,if_true]<;>nofun
   .simp only[h,if_false]<;>nofun
theorem qO(its:List Value)(lo hi:Option Int):slicePick its.toArray lo hi none=((its.drop (HT.sIx its.length 0 lo)).take (HT.sIx its.length its.length hi-HT.sIx its.length 0 lo)).toArray:=by
 obtain⟨h1,h2,h3⟩:=tQ lo hi its.toArray.size;unfold slicePick;rw[h1,h2,h3];simp only[sliceRange_one,pick_run,Yt]<;>rfl
def LW(K:W.Frag):V->Option Int->Option Int->Hp->VK->Prop:=λx lo hi H Q=>∃a xs,x=.ref a/\kQ K H a xs /\ ∀p,H p=none->Q (.ref p) (upd H p (.lst (qB xs lo hi)))
theorem Ee:D4 X (LW X.K):=by
 intro pins s σ H x v vl vu lo hi sl Q I rx hs pl pu h;obtain⟨a,xs,rfl,hx,q⟩:=h;cases rx;obtain⟨its,r,ht,hz⟩:=I.list hx;have hlen:=r.length;refine⟨"list",_,slot_list_getitem.lookup,ht.isList.typeIs,?_⟩;refine wpAny_getItem_list_slice ht.isList hs pl pu .none (by simp) ?_ (by rw[Yt]<;>nofun)
 rw[qO,<-hlen];refine⟨.ref s.heap.objs.size,_,I.laid (t':=s.toks) (o:=.lst (qB xs lo hi)) (λb ob q=>Heap.get?_push_of_some _ q) (Yq _) ?_,rfl,q _ (I.hok.fresh (Yq _))⟩;exact⟨Yg (uZ xs lo hi) hz,_,0,(r.drop (HT.sIx xs.length 0 lo)).take (HT.sIx xs.length xs.length hi-HT.sIx xs.length 0 lo),Heap.get?_push_size _ rfl⟩
theorem i6:eV X (.builtin "len") (λxs H Q=>∃p ys,xs=[.ref p]/\(kQ X.K H p ys\/zg X.K H p ys)/\Q (.int ys.length) H):=by
 intro pins s σ H xs us Q I r h;obtain⟨p,ys,rfl,hq,q⟩:=h;obtain⟨u,rfl,rx⟩:=ya r;cases rx;have hn:=nI;rcases hq with hq|hq
 .obtain⟨its,r',pl,hz⟩:=I.list hq;have hlen:=r'.length;exact Calls.call_len_list pl.isList (by simp only[Yt]<;>nofun) ⟨.int ys.length,H,I.tok _,⟨s.toks+1,by rw[Yt,hlen]⟩,q⟩
 .obtain⟨its,r',pl,hz⟩:=I.tuple hq;have hlen:=r'.length;exact len_tuple pl (by simp only[Yt]<;>nofun) ⟨.int ys.length,H,I.tok _,⟨s.toks+1,by rw[Yt,hlen]⟩,q⟩
theorem tV:eV X (.type "list") (λxs H Q=>∃p ys,xs=[.ref p]/\(kQ X.K H p ys\/zg X.K H p ys) /\ ∀l,H l=none->Q (.ref l) (upd H l (.lst ys))):=by
 intro pins s σ H xs us Q I r h;obtain⟨p,ys,rfl,hq,q⟩:=h;obtain⟨u,rfl,rx⟩:=ya r;cases rx;have fin:∀(its:List Value),bC ys its->ys.length<=sizeLine -> ∀(h':Heap)(c':Nat),(∀b o',s.heap.get? b=some o'->h'.get? b=some o') ->
   h'.get? s.heap.objs.size=some { cls:=.type "list",dict:=none,data:=.seq its.toArray c',slots:=#[] } -> EP X pins σ Q (.ref s.heap.objs.size) { s with heap:=h' }:=λits r' hz h' c' kp e =>
  ⟨.ref s.heap.objs.size,_,I.laid (t':=s.toks) kp (Yq _) (show dY X.prog X.w _ h' _ (.lst ys) from ⟨hz,its,c',r',e⟩),rfl,q _ (I.hok.fresh (Yq _))⟩
 rcases hq with hq|hq
 .obtain⟨its,r',pl,hz⟩:=I.list hq;have hlen:=r'.length;obtain⟨o,ho,hc,n,hd⟩:=pl.isList;exact call_list_seq p (.inl rfl) ho hc hd (λh' c' kp e=>fin its r' hz h' c' kp e) (by simp only[Yt]<;>nofun)
 .obtain⟨its,r',pl,hz⟩:=I.tuple hq;have hlen:=r'.length;obtain⟨o,ho,hc,n,hd⟩:=pl;exact call_list_seq p (.inr rfl) ho hc hd (λh' c' kp e=>fin its r' hz h' c' kp e) (by simp only[Yt]<;>nofun)
def Kx(K:W.Frag)(T:String)(x:V)(H:Hp):Prop:=match x with
 | .str _=>T = "str"
 | .int _=>T = "int"
 | .ref p=>(T = "list" /\ ∃xs,kQ K H p xs)\/(T = "tuple" /\ ∃o,K.lookup p=some o/\o.cls=.type "tuple" /\ o.dict=none) \/
   (T = "dict" /\ ((∃kvs,H p=some (.dK kvs)) \/ ∃kvs,H p=some (.dT kvs)))\/(T = "set" /\ ∃S n,H p=some (.set S n))
 | _=>False
theorem BS{pins:List (Addr×Obj)}{σ:St}{H:Hp}{s:Shared}{T:String}{x:V}{v:Value}(I:aM X pins σ H s)(r:cy x v)(ty:Kx X.K T x H) :
  s.TypeIs v T /\ ∀a,v=.ref a -> ∃ob,s.heap.get? a=some ob/\ob.dict=none:=by
 cases x with
 | str z =>
  obtain⟨t,rfl⟩:=r;cases (show T = "str" from ty)
  exact⟨typeIs_str s z t,λ_ e=>nomatch e⟩
 | int i =>
  obtain⟨t,rfl⟩:=r;cases (show T = "int" from ty)
  exact⟨typeIs_int s i t,λ_ e=>nomatch e⟩
 | ref p =>
  cases r;rcases ty with ⟨rfl,xs,hq⟩|⟨rfl,o,hk,hc,hd⟩|⟨rfl,hk⟩|⟨rfl,S,n,hk⟩
  .obtain⟨its,_,pl,_⟩:=I.list hq;refine⟨pl.isList.typeIs,λa e=>?_⟩;cases e;obtain⟨o,n,e,c,hd,_⟩:=pl;exact⟨o,e,hd⟩
  .refine⟨⟨o,I.kIn p o hk,hc⟩,λa e=>?_⟩;cases e;exact⟨o,I.kIn _ o hk,hd⟩
  .have z:∃o,s.heap.get? p=some o/\o.ExactDict:=by
    rcases hk with ⟨kvs,hk⟩|⟨kvs,hk⟩
    .obtain⟨_,_,_,_,o,_,_,e,ex,_⟩:=I.hok p _ hk;exact⟨o,e,ex⟩
    .obtain⟨_,_,_,_,o,_,_,e,ex,_⟩:=I.hok p _ hk;exact⟨o,e,ex⟩
   obtain⟨o,e,ex⟩:=z;refine⟨⟨o,e,ex.1⟩,λa e2=>?_⟩;cases e2;exact⟨o,e,ex.2.1⟩
  .obtain⟨o,_,_,_,e,ex,_⟩:=I.hok p _ hk;refine⟨⟨o,e,ex.1⟩,λa e2=>?_⟩;cases e2;exact⟨o,e,ex.2.1⟩
 | _=>exact False.elim ty
def Jm(K:W.Frag)(T:String)(r:V->List V->Hp->VK->Prop)(to:TE):TE:=λσ H Q=>to σ H λx H1=>Kx K T x H1/\r x [] H1 Q
def LL(K:W.Frag)(T:String)(r:V->List V->Hp->VK->Prop)(to:TE)(t:TA):TE:=λσ H Q=>to σ H λx H1=>Kx K T x H1/\t σ H1 λxs H2=>r x xs H2 Q
variable {o e:Expr}{es:List Expr}{to:TE}{t:TA}{name:Str}{apos cpos:Pos}{T id:String}{r:V->List V->Hp->VK->Prop}
theorem Ja(pa:PlainAttrs T)(slot:Slot T name id)(hty:typeOf (.builtin id)=pure (.type "method_descriptor")) (hm:K7 X id r)(ho:PE X o to)
  (hbase:attributeBase o name X.env (eval o X.env)=eval o X.env:=by rfl)(hline:(apos.endLine==cpos.line)=true:=by rfl):PE X (.Call (.Attribute o name apos) [] [] cpos) (Jm X.K T r to):=by
 intro pins s σ H Q I h;refine wpAny_Call_method0_late hbase hline (dH (ho pins s σ H _ I h) λv s1 ⟨x,H1,I1,r1,ty,q1⟩=>?_);obtain⟨h1,h2⟩:=BS I1 r1 ty;exact⟨T,id,pa,slot,hty,h1,h2,Calls.callWith_builtin rfl (PySem.evalArgs_none (hm pins s1 σ H1 x [] v [] Q I1 r1 .nil q1))⟩
theorem K6(pa:PlainAttrs T)(slot:Slot T name id)(hty:typeOf (.builtin id)=pure (.type "method_descriptor")) (hm:K7 X id r)(ho:PE X o to)(ha:PA X (e::es) t)
  (hbase:attributeBase o name X.env (eval o X.env)=eval o X.env:=by rfl)
  (hfew:((backTo cpos (starEach (e::es) X.env)).all (λx=>!x.1) && (backToKw cpos (keywordEach [] X.env)).all (λx=>x.1.isSome)
   && decide ((e::es).length+([]:List Keyword).length+(if ([]:List Keyword).isEmpty then 0 else 1)<30))=true:=by rfl)
  (hline:(apos.endLine==cpos.line)=true:=by rfl)(hs:starEach (e::es) X.env=(false,eval e X.env)::starEach es X.env:=by rfl)(hplain:(backTo cpos (starEach es X.env)).any (·.1)=false:=by rfl) :
  PE X (.Call (.Attribute o name apos) (e::es) [] cpos) (LL X.K T r to t):=by
 intro pins s σ H Q I h;refine wpAny_Call_method_late hbase hfew hline rfl (dH (ho pins s σ H _ I h) λv s1 ⟨x,H1,I1,r1,ty,q1⟩=>?_);obtain⟨h1,h2⟩:=BS I1 r1 ty;refine⟨T,id,pa,slot,hty,h1,h2,?_⟩;have hA:=ha cpos pins s1 σ H1 _ I1 q1;rw[hs] at hA ⊢;refine Calls.callWith_builtin (by show (false || (backTo cpos (starEach es X.env)).any (·.1))=false;rw[hplain]<;>rfl) (Calls.evalArgs_plain ?_)
 exact dH hA λus s2 ⟨vs,H2,I2,r2,q2⟩=>hm pins s2 σ H2 x vs v us Q I2 r1 r2 q2
end
def Li(X:Cx)(id:String)(r:V->List V->Hp->VK->Prop):Prop :=
 ∀(pins:List (Addr×Obj))(s:Shared)(σ:St)(H:Hp)(x:V)(xs:List V)(v:Value)(us:List Value)(Q:VK),aM X pins σ H s->cy x v->bC xs us->r x xs H Q ->
  wpAny (model X.prog X.w) X.A (call (.builtin id) (v::us)) (EP X pins σ Q) X.xe s
theorem bC.one:∀{x:V}{us:List Value},bC [x] us -> ∃u,us=[u]/\cy x u
 | _,_,.cons r .nil=>⟨_,rfl,r⟩
theorem bC.zero:∀{us:List Value},bC [] us->us=[]
 | _,.nil=>rfl
theorem bC.dropLast{xs:List V}{us:List Value}(h:bC xs us):bC xs.dropLast us.dropLast:=by
 induction h with
 | nil=>exact .nil
 | cons r t ih =>
  cases t with
  | nil=>exact .nil
  | cons q t'=>exact .cons r ih
theorem bC.rep{xs:List V}{us:List Value}(h:bC xs us):∀k:Nat,bC (List.replicate k xs).flatten (List.replicate k us).flatten
 | 0=>.nil
 | k+1=>by
  rw[YF,YF,List.flatten_cons,List.flatten_cons];exact bC.append h (bC.rep h k)
theorem wR{α:Type}(l:List α):l.eraseIdx (l.length-1)=l.dropLast:=by
 induction l with
 | nil=>rfl
 | cons a r ih =>
  cases r with
  | nil=>rfl
  | cons b r =>
   have e:(a::b::r).length-1=((b::r).length-1)+1:=by
    have h1:(a::b::r).length=r.length+2:=rfl;have h2:(b::r).length=r.length+1:=rfl;nofun
   rw[e,List.eraseIdx_cons_succ,ih]
   all_goals rfl
theorem se(its:List Value):∀(k:Nat)(acc:List Value),
  List.foldl (λx1 x2=>x1++x2) acc.toArray (List.replicate k its.toArray)=(acc++(List.replicate k its).flatten).toArray
 | 0,acc=>by simp
 | k+1,acc=>by
  have e:acc.toArray++its.toArray=(acc++its).toArray:=by simp
  have e2:(acc++its)++(List.replicate k its).flatten=acc++(List.replicate (k+1) its).flatten:=by
   rw[YF,List.flatten_cons,YG]
  rw[<-e2,<-se its k (acc++its),<-e,YF,List.foldl_cons]
section
variable {X:Cx}{pins:List (Addr×Obj)}{σ:St}{H:Hp}{s:Shared}{l b:Addr}{xs ys zs:List V}
theorem aM.lset{its its':List Value}{n:Nat}{f:Array Value->Array Value}{t':Nat}(I:aM X pins σ H s)(hH:H l=some (.lst xs))
  (e:s.heap.get? l=some { cls:=.type "list",data:=.seq its.toArray n }) (hf:f its.toArray=its'.toArray)(hv:bC ys its')(hz:ys.length<=sizeLine) :
  aM X pins σ (upd H l (.lst ys)) { s with heap:=s.heap.update l (Obj.mapSeq f),toks:=t' }:=by
 have q:=PySem.IsL.update e f;rw[hf] at q;refine I.write (x:=l) (e:=l) (by rw[hH];exact trivial) (.inl rfl) (λb' u hb hu=>(Heap.get?_update_other s.heap (Obj.mapSeq f) (Ne.symm hb)).trans hu) ⟨_,q⟩ ?_
 exact⟨hz,its',_,hv,q⟩
theorem aM.lnew{its:List Value}{t':Nat}(I:aM X pins σ H s)(hv:bC ys its)(hz:ys.length<=sizeLine) :
  aM X pins σ (upd H s.heap.objs.size (.lst ys)) { s with heap:=s.heap.push { cls:=.type "list",data:=.seq its.toArray },toks:=t' } :=
 I.laid (λ_ _ q=>Heap.get?_push_of_some _ q) (Yq _) ⟨hz,its,0,hv,Heap.get?_push_size _ rfl⟩
theorem aM.fresh(I:aM X pins σ H s):H s.heap.objs.size=none:=I.hok.fresh (Yq _)
theorem aM.lstM(I:aM X pins σ H s)(hH:H l=some (.lst xs)):xs.length<=sizeLine /\ ∃(its:List Value)(n:Nat),bC xs its/\xs.length=its.length/\s.heap.get? l=some { cls:=.type "list",data:=.seq its.toArray n }:=by
 obtain⟨z,its,n,r,e⟩:=I.hok l _ hH;exact⟨z,its,n,r,r.length,e⟩
theorem Cf{n:Nat}(h:n<=sizeLine):Builtin.List.listTooLong n=false:=by
 unfold Builtin.List.listTooLong;exact Ya ()
end
section
variable {X:Cx}
def Eg:V->List V->Hp->VK->Prop:=λx vs H Q=>∃l xs y,x=.ref l/\vs=[y]/\H l=some (.lst xs)/\xs.length<sizeLine/\Q .non (upd H l (.lst (xs++[y])))
theorem rX:Li X "list.append" Eg:=by
 intro pins s σ H x vs v us Q I rx rv h;obtain⟨l,xs,y,rfl,rfl,hH,hz,q⟩:=h;cases rx;obtain⟨u,rfl,ru⟩:=rv.one;obtain⟨z,its,n,r,hl,e⟩:=I.lstM hH;refine call_meets F.slot_list_append ⟨_,e,rfl⟩ F.entry_list_append (F.args_list_append_2 _ _) (PySem.list_append l its.toArray n u (by rw[Yt];nofun)) ⟨e,?_⟩
 refine⟨.non,_,I.lset (its':=its++[u]) hH e (by simp) (r.append (.cons ru .nil)) ?_,rfl,q⟩
 rw[YC,List.length_singleton];nofun
def LZ:V->List V->Hp->VK->Prop:=λx vs H Q=>∃l xs y,x=.ref l/\vs=[]/\H l=some (.lst xs)/\xs[xs.length-1]? = some y/\Q y (upd H l (.lst xs.dropLast))
theorem Jh:Li X "list.pop" LZ:=by
 intro pins s σ H x vs v us Q I rx rv h;obtain⟨l,xs,y,rfl,rfl,hH,hy,q⟩:=h;cases rx;have hus:=rv.zero;subst hus;obtain⟨z,its,n,r,hl,e⟩:=I.lstM hH;obtain⟨u,hu,ru⟩:=r.get hy;have hy':its.toArray[its.toArray.size-1]? = some u:=by
  show its.toArray[its.length-1]? = some u;rw[<-Array.getElem?_toList,<-hl];exact hu
 refine call_meets F.slot_list_pop ⟨_,e,rfl⟩ F.entry_list_pop (F.args_list_pop_1 _) (MeetsSeq.list_pop_last l its.toArray n u hy' (by rw[Yt];nofun)) ⟨e,?_⟩
 refine⟨y,_,I.lset (its':=its.dropLast) hH e ?_ r.dropLast ?_,ru,q⟩
 .show its.toArray.eraseIdxIfInBounds (its.toArray.size-1)=its.dropLast.toArray;rw[Yt,List.eraseIdxIfInBounds_toArray,wR]
 .rw[List.length_dropLast];nofun
def LN:R2:=λx y H Q=>∃l b xs zs,x=.ref l/\y=.ref b/\H l=some (.lst xs)/\H b=some (.lst zs)/\xs.length+zs.length<=sizeLine /\ ∀p,H p=none->Q (.ref p) (upd H p (.lst (xs++zs)))
theorem Ie:gh X (binaryOp .Add) LN:=by
 intro pins s σ H x y v u Q I rx ry h;obtain⟨l,b,xs,zs,rfl,rfl,hH,hB,hz,q⟩:=h;cases rx;cases ry;obtain⟨z,its,n,r,hl,e⟩:=I.lstM hH;obtain⟨z2,its2,n2,r2,hl2,e2⟩:=I.lstM hB;refine PySem.P.add_list e e2 ?_ (by rw[Yt,Yt];nofun)
 have ea:its.toArray++its2.toArray=(its++its2).toArray:=by simp
 rw[ea];exact⟨.ref _,_,I.lnew (t':=s.toks) (r.append r2) (by rw[YC];nofun),rfl,q _ I.fresh⟩
def LI:R2:=λx y H Q=>∃l k xs,x=.ref l/\y=.int k/\H l=some (.lst xs) /\ -(2^63)<=k/\k<2^63/\xs.length*k.toNat<=sizeLine /\
 ∀p,H p=none->Q (.ref p) (upd H p (.lst (List.replicate k.toNat xs).flatten))
theorem ER{α:Type}(xs:List α)(k:Nat):(List.replicate k xs).flatten.length=k*xs.length:=by
 induction k with
 | zero=>simp
 | succ k ih=>rw[YF,List.flatten_cons,YC,ih,Nat.succ_mul,Nat.add_comm]
theorem Il:gh X (binaryOp .Mult) LI:=by
 intro pins s σ H x y v u Q I rx ry h;obtain⟨l,k,xs,rfl,rfl,hH,h1,h2,hz,q⟩:=h;cases rx;obtain⟨t,rfl⟩:=ry;obtain⟨z,its,n,r,hl,e⟩:=I.lstM hH;have hlen:its.toArray.size*k.toNat<=sizeLine:=by rw[Yt,<-hl];exact hz
 have hcap:¬ its.toArray.size*k.toNat > (2^63-1)/8:=by
  have:(sizeLine:Nat)<=(2^63-1)/8:=∅;nofun
 have hfit:¬ (!Builtin.List.listFitsIndex k)=true:=by
  rw[fitsIndex_both h1 h2];exact Yo
 have hlong:¬ Builtin.List.listTooLong (its.toArray.size*k.toNat)=true:=by
  rw[Cf hlen];exact Yo
 have hnew:List.foldl (λx1 x2=>x1++x2) #[] (List.replicate (if its.toArray.isEmpty=true then 0 else k.toNat) its.toArray)=(List.replicate k.toNat its).flatten.toArray:=by
  have f0:∀m:Nat,List.foldl (λx1 x2=>x1++x2) #[] (List.replicate m its.toArray)=(List.replicate m its).flatten.toArray:=λm=>by
   have:=se its m [];rw[List.nil_append] at this;exact this
  rw[f0];cases its with
  | nil=>simp
  | cons a r'=>rw[Yc (by simp)]
 refine wpAny_binaryOp_repeat_ref (T:="list") (U:="int") ∅ ⟨_,e,rfl⟩ (λs'=>typeIs_int s' k t) noFill_list_mul F.fills_int_mul F.slot_int_rmul repeat_list F.slot_int_index.lookup
  (call_meets F.slot_int_rmul (typeIs_int s k t) F.entry_int_rmul (F.args_int_rmul_2 _ _) (int___rmul___int_list k t l its.toArray n)
   ⟨e,rfl,⟨_,e,rfl⟩,call_meets F.slot_list_mul ⟨_,e,rfl⟩ F.entry_list_mul (F.args_list_mul_2 _ _) (AutoListH.list___mul___list_int_3 l its.toArray n k t hfit hcap hlong) ⟨e,?_⟩⟩)
 rw[hnew];exact⟨.ref _,_,I.lnew (t':=s.toks) (r.rep k.toNat) (by rw[ER,YH];exact hz),rfl,q _ I.fresh⟩
end
end L2
namespace Att
open PySem PySem.W PySem.Calls PyProof.Rows
theorem ou{P:Params}{h:Heap}:∀(ns:List Int)(vs:List Value),WellAll P h vs (ns.map WData.int)->IntsAre vs ns:=by
 intro ns;induction ns with
 | nil =>
  intro vs w;rw[List.map_nil] at w;cases w;exact .nil
 | cons n ns ih =>
  intro vs w;rw[YE] at w;cases w with
  | cons a b =>
   cases a;exact .cons _ _ (ih _ b)
theorem Aa{l:OpenLaw}{n:Nat}(hn:l.most=some n) {P:Params}{h:Heap}{args:List WData}{vals:List Value}
  (hpre:l.row.toRowW.claim.pre args=true)(hwl:WellAll P h vals args) :
  ∃a vs ns,vals=[Value.ref a]/\args=[WData.list (ns.map WData.int)]/\h.get? a=some { cls:=.type "list",data:=.seq vs.toArray } /\ IntsAre vs ns/\ns.length<=n:=by
 have hsh:WShape.hasAll [] args [.list .int]=true:=(pre_splitW hpre).1;have hc:l.pre.holds [] { args:=args } = true:=(pre_splitW hpre).2;obtain⟨d,r,rfl,h1,h2⟩:=hasAllW_cons hsh;obtain rfl:=hasAllW_nil h2;obtain⟨xs,rfl,h3⟩:=hasW_list h1;obtain⟨ns,rfl⟩:=items_int h3;have hlen:ns.length<=n:=by
  unfold OpenLaw.pre at hc;have h4:(WTm.not (.lt (.lit (.int (n:Int))) (.len (.arg 0)))).holds [] { args:=[.list (ns.map .int)] } = true:=by
   have h4:=(holds_andW hc).1;rw[hn] at h4;exact h4
  have h5:=condW_of h4 (w_not (w_lt w_lit (w_len_list (w_arg rfl))));rw[YD] at h5;refine Nat.le_of_not_lt λq=>?_;have q':(n:Int)<((ns.length:Nat):Int):=()
  first
   | (rw[YI q'] at h5;exact absurd h5 ∅)
   | (simp at h5;nofun)
 cases hwl with
 | cons w1 w2 =>
  cases w2;cases w1 with
  | list ho hall=>exact⟨_,_,ns,rfl,rfl,ho,ou ns _ hall,hlen⟩
theorem Ao(l:OpenLaw)(args:List WData):l.row.toRowW.claim.post args (.bool true) args=true :=
 postW_of (r:=l.row.toRowW) (X:=(true==true))
  (show WShape.has [] (.bool true) .bool=true by first|rfl|decide|simp[WShape.has,WShape.arms,WShape.armsAll])
  (show (WTm.eq .res (.lit (.bool true))).value [] { args:=args,res:=some (.bool true),after:=args } = some (.bool (true==true)) from w_eq_bool (w_res rfl) w_lit) rfl
theorem attach_call{l:OpenLaw}{n:Nat}{q:Program}{loose:List Str}{XP:(Str->Option Value)->Heap->Prop}{YP:World->Heap->Prop}{d:DefRec}
  (hn:l.most=some n)(hdf:d.params.defaults=[])
  (call:∀(w:World)(s₀ s₁:Shared)(mg mb:Str->Option Value)(fa:Addr)(o:Obj)(pm cd doc:Value)(a:Addr)(vs:List Value)(ns:List Int),
   Ground q loose [] XP w s₀ mg mb s₁.heap->YP w s₁.heap ->
   s₁.heap.get? fa=some o->o.data=.func (docDef d.name d.params d.body d.scope pm cd doc)->s₁.heap.CodeRec cd d.name->mg d.name=some (.ref fa) ->
   s₁.heap.get? a=some { cls:=.type "list",data:=.seq vs.toArray } -> IntsAre vs ns->ns.length<=n->s₁.gens = #[] ->
   codeAny (model l.prog w) callerA (.call (.ref fa) ⟨[.ref a],[]⟩) (λr s'=>r=.ok (.ret (.bool true))/\OldK s₁.heap s'.heap/\s'.os=s₁.os/\AllBare s'.gens) s₁) :
  WalkO q loose XP YP l.row.toRowW d [] (λf vs=>PySem.call f vs):=by
 intro w s₀ s₁ mg mb G Y fa o pm cd doc dV kV ho hd hcd hD hmg hg args vals as hpre hlay hrd hwl hlo;obtain rfl:dV=.none:=Dflts.none hD hdf;obtain rfl:kV=.none:=Dflts.noKw hD;obtain⟨a,vs,ns,rfl,rfl,hobj,hints,hlen⟩:=Aa hn hpre hwl;refine enter_call (codeAny_mono (call w s₀ s₁ mg mb fa o pm cd doc a vs ns G Y ho (fd_plain hd) hcd hmg hobj hints hlen hg) λr s' hq=>?_);obtain⟨rfl,h2,h3,h4⟩:=hq;exact⟨.inl ⟨.bool true,.bool true,[],rfl,λ_=>rfl,.bool true,Ao l _,λ_=>⟨List.Pairwise.nil,λ_ hm=>(nomatch hm)⟩⟩,h2,h3,h4⟩
end Att
namespace L2
open PySem PySem.Spec PyProof.Rows
theorem rZ:∀{vs:List Value}{ns:List Int},IntsAre vs ns->bC (ns.map V.int) vs
 | _,_,.nil=>.nil
 | _,_,.cons n t h=>.cons ⟨t,rfl⟩ (rZ h)
def az(s:Stmt):Arguments:=match s with
 | .FunctionDef _ a _ _ _ _ _ _ _ _=>a
 | _=>{ posonlyargs:=[],args:=[],vararg:=none,kwonlyargs:=[],kw_defaults:=[],kwarg:=none,defaults:=[] }
def ax(s:Stmt):List Stmt:=match s with
 | .FunctionDef _ _ b _ _ _ _ _ _ _=>b
 | _=>[]
def ah(s:Stmt):Scope:=match s with
 | .FunctionDef _ _ _ _ _ _ sc _ _ _=>sc
 | _=>{ kind:=.function,names:=[],isGenerator:=false,isCoroutine:=false }
abbrev fk:zT:=λ_ _ _ _ _ _=>False
abbrev E0:XK:=λ_ _ _=>False
theorem K0{X:Cx}:v6 fk X E0:=λ_ _ _ _ _ _ _ h=>h.elim
structure fy (K:W.Frag)(x qual:Str)(st:Stmt)(f:Addr)(fd:FuncData):Prop where
 ex:∃(oc:Value)(od:Option Addr)(kV doc pm:Value)(an:Option Addr)(cdv ct:Value)(osl:Array (Option Value)),
  fd=PySem.W.fnOf x qual (az st) (ax st) (ah st) .none kV doc pm an cdv ct/\K.lookup f=some ⟨oc,od,.func fd,osl⟩/\PySem.W.codeIn K cdv qual=true
 kp:PySem.W.keepIn K (.ref f)=true
section
variable {P:Program}{w:World}{K:W.Frag}{mg:Str->Option Value}{base:Heap}
theorem fy.ok{x qual:Str}{st:Stmt}{f:Addr}{fd:FuncData}{N ps:List Str}{k:Nat}{sp:Sp}(F:fy K x qual st f fd)(S:aA N ps (ah st))(len:∀vs H Q E,sp vs H Q E->vs.length=ps.length)
  (hbody:∀(cdv:Value)(A:Around)(outer:List Env)(s:Shared)(H:Hp)(vs:List V)(Q:VK)(E:XK),gX k (A.deeper (envOfC qual (ah st) s.heap.objs.size f cdv))->sp vs H Q E ->
   ∃t,vJ (sU fk P w K mg base N qual (ah st) f cdv A outer s H E).nox (ax st) t/\t { nx:=λ_ H'=>Q .non H',rt:=Q } (start N vs) H):bZ P w K mg base fk (k+1) f fd ps sp:=by
 obtain⟨oc,od,kV,doc,pm,an,cdv,ct,osl,rfl,lk,hcd⟩:=F.ex;refine K5 lk hcd S len λA outer s H vs Q E hr hsp=>?_;obtain⟨t,h,q⟩:=hbody cdv A outer s H vs Q E hr hsp;exact⟨t,h.nox,q⟩
theorem fy.binds{x qual:Str}{st:Stmt}{f:Addr}{fd:FuncData}{ps:List Str}(F:fy K x qual st f fd)
  (h:∀(kV doc pm:Value)(an:Option Addr)(cdv ct:Value)(us:List Value),us.length=ps.length->bindArgs (PySem.W.fnOf x qual (az st) (ax st) (ah st) .none kV doc pm an cdv ct) ⟨us,[]⟩=pure (ps.zip us)):pX K fd ps []:=by
 obtain⟨oc,od,kV,doc,pm,an,cdv,ct,osl,rfl,lk,hcd⟩:=F.ex;exact .all (h kV doc pm an cdv ct)
theorem aE{x qual:Str}{st:Stmt}{f:Addr}{oc:Value}{od an:Option Addr}{osl:Array (Option Value)}{kV doc pm cdv ct:Value}(l:K.lookup f=some ⟨oc,od,.func (PySem.W.fnOf x qual (az st) (ax st) (ah st) .none kV doc pm an cdv ct),osl⟩)
  (c:PySem.W.codeIn K cdv qual=true)(k:PySem.W.keepIn K (.ref f)=true):fy K x qual st f (PySem.W.fnOf x qual (az st) (ax st) (ah st) .none kV doc pm an cdv ct):=⟨⟨oc,od,kV,doc,pm,an,cdv,ct,osl,rfl,l,c⟩,k⟩
end
section
variable {X:Cx}
theorem pv(i:Nat){x:Str}{pos:Pos}(hN:X.N[i]? = some x:=by rfl)(hv:KQ X.env.scope x:=by first|exact Or.inl rfl|exact Or.inr (Or.inl rfl)|exact Or.inr (Or.inr rfl))(hd:(x==("__debug__" : Str))=false:=by decide)
  (hcd:(x==("__classdict__" : Str))=false:=by decide):PE X (.Name x pos) (Gg i):=Is hN hv hd hcd
end
theorem ee{c A B:Prop} [Decidable c] (h1:c->A)(h2:¬ c->B):if c then A else B:=by
 by_cases h:c
 .rw[Yb h];exact h1 h
 .rw[Yc h];exact h2 h
def aC(H H':Hp):Prop:=∀b o,H b=some o->H' b=some o
theorem aC.refl(H:Hp):aC H H:=λ_ _ h=>h
theorem aC.trans{H H1 H2:Hp}(a:aC H H1)(b:aC H1 H2):aC H H2:=λc o h=>b c o (a c o h)
structure aZ (P:Program)(w:World)(K:W.Frag)(mg:Str->Option Value)(base:Heap)(x:Str)(ps:List Str)(k:Nat)(sp:Sp):Prop where
 ex:∃f fd,bZ P w K mg base fk k f fd ps sp/\mg x=some (.ref f)/\PySem.W.keepIn K (.ref f)=true/\pX K fd ps []
section
variable {X:Cx}{x:Str}{p pos:Pos}{e:Expr}{es:List Expr}{t:TA}{ps:List Str}{k:Nat}{sp:Sp}
def Ci(sp:Sp)(t:TA):TE:=λσ H Q=>t σ H λvs H1=>sp vs H1 Q E0
theorem HS(C:aZ X.prog X.w X.K X.mg X.base x ps k sp)(hr:gX k X.A)(hg:Gl X x)(ha:PA X (e::es) t)(hdb:(x==("__debug__" : Str))=false:=by decide)
  (he:starEach (e::es) X.env=(false,eval e X.env)::starEach es X.env:=by rfl)(hpl:(backTo pos (starEach es X.env)).any (·.1)=false:=by rfl) :
  PE X (.Call (.Name x p) (e::es) [] pos) (Ci sp t):=by
 obtain⟨f,fd,F,hm,hk,hb⟩:=C.ex;intro pins s σ H Q I h;refine EL (E:=E0) (dvs:=[]) F hr hg hm hk hb .nil K0 ha hdb he hpl pins s σ H Q I ?_;show t σ H λvs H1=>sp (vs++[]) H1 Q E0;have e:(λ(vs:List V) H1=>sp (vs++[]) H1 Q E0)=λvs H1=>sp vs H1 Q E0:=by
  funext vs H1;rw[Yv]
 rw[e];exact h
end
section
variable {X:Cx}
theorem yh:gh X (binaryOp .Mult) (rI IntMulOk λi j=>.int (i*j)):=Ks λ_ _ _ _ _ _ _ hc q=>mul_int q hc
def zr(_ j:Int):Prop:=j≠0/\j.natAbs.log2<9000
theorem jI:gh X (binaryOp .FloorDiv) (rI zr λi j=>.int (i.fdiv j)):=Ks λ_ _ _ _ _ _ _ hc q=>floordiv_int hc.1 q (.inl (PyProof.noPylong_of_log2 hc.2))
theorem dJ:gh X (binaryOp .Mod) (rI (λ_ j=>j≠0) λi j=>.int (i.fmod j)):=Es
end
theorem CG{CX:zT}{P:Program}{w:World}{K:W.Frag}{mg:Str->Option Value}{base:Heap}{N:List Str}{qual:Str}{scope:Scope}{f:Addr}{cd:Value}{A:Around}{outer:List Env}{s:Shared}{H:Hp}{E:XK} :
  (sU CX P w K mg base N qual scope f cd A outer s H E).K=K:=rfl
def zV:List Value->Option (List V)
 | []=>some []
 | u::us=>match KR u,zV us with
  | some x,some xs=>some (x::xs)
  | _,_=>none
theorem rH:∀{us:List Value}{xs:List V},zV us=some xs->bC xs us
 | [],xs,h=>by cases h;exact .nil
 | u::us,xs,h=>by
  unfold zV at h;split at h
  .rename_i x ys e1 e2
   cases h;refine .cons ?_ (rH e2);cases u<;>first|(cases e1;first|exact rfl|exact⟨_,rfl⟩)|cases e1
  .cases h
def xm(o:Obj):Option HO:=match o.data with
 | .seq its _=>if o.cls=.type "tuple" /\ its.size<=sizeLine then (zV its.toList).map HO.tup else none
 | _=>none
def vw(K:W.Frag)(H:Hp):Hp:=λa=>match K.lookup a with
 | some o=>xm o
 | none=>H a
theorem DD{o:Obj}{u:HO}(h:xm o=some u):∃xs,u=.tup xs:=by
 unfold xm at h;split at h
 .split at h
  .cases e:zV _ with
   | none=>rw[e] at h;cases h
   | some xs=>rw[e] at h;cases h;exact⟨xs,rfl⟩
  .cases h
 .cases h
theorem eo{K:W.Frag}{H:Hp}{a:Addr}(hk:K.lookup a=none):vw K H a=H a:=by
 unfold vw;rw[hk]
theorem jF{K:W.Frag}{H:Hp}{a:Addr}{xs:List V}(h:vw K H a=some (.tup xs)):zg K H a xs:=by
 unfold vw at h;split at h
 .rename_i o ho
  unfold xm at h;split at h
  .rename_i its n hd
   split at h
   .rename_i hc
    cases e:zV its.toList with
    | none=>rw[e] at h;cases h
    | some ys =>
     rw[e] at h;cases h;exact .inr ⟨o,its,n,ho,hc.1,hd,hc.2,rH e⟩
   .cases h
  .cases h
 .exact .of h
theorem mX{K:W.Frag}{H:Hp}{a:Addr}{u:HO}(h:vw K H a=some u)(hu:∀xs,u ≠ .tup xs):H a=some u:=by
 unfold vw at h;split at h
 .obtain⟨xs,rfl⟩:=DD h;exact absurd rfl (hu xs)
 .exact h
theorem aH{K:W.Frag}{H:Hp}{a:Addr}{xs:List V}(h:vw K H a=some (.lst xs)):H a=some (.lst xs):=mX h λ_ e=>by cases e
theorem mF{K:W.Frag}{H H':Hp}(S:aC H H'):aC (vw K H) (vw K H'):=λb o e=>by
 unfold vw at e ⊢;split at e
 .exact e
 .exact S _ _ e
def jg(l:Addr)(H H':Hp):Prop:=∀b o,b≠l->H b=some o->H' b=some o
theorem DR{K:W.Frag}{l:Addr}{H H':Hp}(S:jg l H H'):jg l (vw K H) (vw K H'):=λb o hb e=>by
 unfold vw at e ⊢;split at e
 .exact e
 .exact S _ _ hb e
theorem aM.noK{X:Cx}{pins:List (Addr×Obj)}{σ:St}{H:Hp}{s:Shared}{p:Addr}{o:HO}(I:aM X pins σ H s)(h:H p=some o):X.K.lookup p=none:=by
 cases e:X.K.lookup p with
 | none=>rfl
 | some ob =>
  have:=(I.bs p ob (I.mod.kin p ob e)).2;rw[h] at this;cases this
theorem aM.newK{X:Cx}{pins:List (Addr×Obj)}{σ:St}{H:Hp}{s:Shared}{p:Addr}(I:aM X pins σ H s)(hp:s.heap.objs.size<=p):X.K.lookup p=none:=by
 cases e:X.K.lookup p with
 | none=>rfl
 | some o=>exact absurd (Yd (Heap.lt_size (I.kIn p o e)) hp) (Ye _)
def Kf(K:W.Frag)(v:V)(H:Hp):Prop:=∀p o,v=.ref p->H p=some o->K.lookup p=none
section
variable {X:Cx}
theorem gh.kf{f:Value->Value->Sem Value}{r:R2}(h:gh X f r):gh X f (λx y H Q=>r x y H λv H'=>Kf X.K v H'->Q v H'):=λpins s σ H x y v u Q I rx ry q =>
 dH (h pins s σ H x y v u _ I rx ry q) λu' s' ⟨v',H',I',r',q'⟩=>⟨v',H',I',r',q' λp o _ hp=>I'.noK hp⟩
theorem eV.kf{f:Value}{r:List V->Hp->VK->Prop}(h:eV X f r):eV X f (λxs H Q=>r xs H λv H'=>Kf X.K v H'->Q v H'):=λpins s σ H xs us Q I rs q =>
 dH (h pins s σ H xs us _ I rs q) λu' s' ⟨v',H',I',r',q'⟩=>⟨v',H',I',r',q' λp o _ hp=>I'.noK hp⟩
theorem D4.kf{r:V->Option Int->Option Int->Hp->VK->Prop}(h:D4 X r):D4 X (λx a b H Q=>r x a b H λv H'=>Kf X.K v H'->Q v H'):=by
 intro pins s σ H x v vl vu lo hi sl Q I rx hs pl pu q;obtain⟨T,id,e1,e2,e3⟩:=h pins s σ H x v vl vu lo hi sl _ I rx hs pl pu q;exact⟨T,id,e1,e2,dH e3 λu' s' ⟨v',H',I',r',q'⟩=>⟨v',H',I',r',q' λp o _ hp=>I'.noK hp⟩⟩
end
theorem aC.upd{H:Hp}{p:Addr}{o:HO}(hp:H p=none):aC H (upd H p o):=λb u e=>by
 rw[cE (ak e hp)];exact e
theorem jg.upd{H:Hp}{l:Addr}{o:HO}:jg l H (upd H l o):=λb u hb e=>by
 rw[cE hb];exact e
theorem aC.but{H H':Hp}(h:aC H H')(l:Addr):jg l H H':=λb o _ e=>h b o e
theorem jg.trans{l:Addr}{H H1 H2:Hp}(a:jg l H H1)(b:jg l H1 H2):jg l H H2:=λc o hc h=>b c o hc (a c o hc h)
def EI(H:Hp):V->Option String
 | .non=>some "NoneType"
 | .bl _=>some "bool"
 | .int _=>some "int"
 | .str _=>some "str"
 | .ref a=>match H a with
  | some (.lst _)=>some "list"
  | some (.frz _ (.lst _))=>some "list"
  | some (.tup _)=>some "tuple"
  | some (.dK _)=>some "dict"
  | _=>none
 | _=>none
def kG(n c:String):Bool:=n==c || (n == "bool" && c == "int")
def we(n:String):Prop:=n = "NoneType" \/ n = "bool" \/ n = "int" \/ n = "str" \/ n = "list" \/ n = "tuple" \/ n = "dict"
def rD(c:String):Prop:=c = "bool" \/ c = "int" \/ c = "list" \/ c = "tuple" \/ c = "str" \/ c = "dict"
theorem fB{K:W.Frag}{n c:String}(hn:we n)(hc:rD c):PySem.W.kitOne K (.type n) (.type c)=some (kG n c):=by
 rcases hn with rfl|rfl|rfl|rfl|rfl|rfl|rfl<;>rcases hc with rfl|rfl|rfl|rfl|rfl|rfl<;>rfl
section
variable {X:Cx}
theorem fE:eV X (.builtin "isinstance") (λxs H Q=>∃x c n,xs=[x,.ty c]/\rD c/\EI (vw X.K H) x=some n/\Q (.bl (kG n c)) H):=by
 intro pins s σ H xs us Q I r h;obtain⟨x,c,n,rfl,hc,hn,q⟩:=h;obtain⟨u,w',rfl,rx,ry⟩:=xW r;cases ry;have fin:∀tk,EP X pins σ Q (.bool (kG n c)) { s with toks:=tk }:=λtk=>⟨.bl _,H,I.tok tk,rfl,q⟩
 cases x with
 | non=>cases hn;exact fY I rx .non (fB (.inl rfl) hc) fin
 | bl b=>cases hn;exact fY I rx (.bl b) (fB (.inr (.inl rfl)) hc) fin
 | int b=>cases hn;exact fY I rx (.int b) (fB (.inr (.inr (.inl rfl))) hc) fin
 | str b=>cases hn;exact fY I rx (.str b) (fB (.inr (.inr (.inr (.inl rfl)))) hc) fin
 | flt b=>cases hn
 | byt b=>cases hn
 | ty b=>cases hn
 | ref a =>
  unfold EI at hn;dsimp only at hn;split at hn
  .rename_i e;cases hn;exact fY I rx (.lst (aH e)) (fB (.inr (.inr (.inr (.inr (.inl rfl))))) hc) fin
  .rename_i e;cases hn;exact fY I rx (.frz (mX e λ_ z=>by cases z)) (fB (.inr (.inr (.inr (.inr (.inl rfl))))) hc) fin
  .rename_i ys e
   cases hn;cases (show u=Value.ref a from rx)
   obtain⟨its,rv,p,hz⟩:=I.tuple (jF e);obtain⟨o,h1,h2,_⟩:=p;exact Yu PySem.W.kitx_tuple I.kIn ⟨o,h1,h2⟩ (fB (.inr (.inr (.inr (.inr (.inr (.inl rfl)))))) hc) (λz=>nomatch z) fin
  .rename_i e;cases hn;exact fY I rx (.dK (mX e λ_ z=>by cases z)) (fB (.inr (.inr (.inr (.inr (.inr (.inr rfl)))))) hc) fin
  .cases hn
end
theorem EA:rD "int":=.inr (.inl rfl)
theorem Dt:rD "bool":=.inl rfl
theorem CM:rD "list":=.inr (.inr (.inl rfl))
theorem Ah:rD "tuple":=.inr (.inr (.inr (.inl rfl)))
theorem qE:bootBuiltins "abs" = some (.builtin "abs"):=by decide +kernel
theorem bV:bootBuiltins "len" = some (.builtin "len"):=by decide +kernel
theorem da:bootBuiltins "isinstance" = some (.builtin "isinstance"):=by decide +kernel
theorem pV:bootBuiltins "max" = some (.builtin "max"):=by decide +kernel
theorem HC:bootBuiltins "min" = some (.builtin "min"):=by decide +kernel
theorem Hm:bootBuiltins "all" = some (.builtin "all"):=by decide +kernel
theorem yt:bootBuiltins "bool" = some (.type "bool"):=by decide +kernel
theorem gY:bootBuiltins "list" = some (.type "list"):=by decide +kernel
theorem pU:bootBuiltins "tuple" = some (.type "tuple"):=by decide +kernel
theorem tS:bootBuiltins "enumerate" = some (.type "enumerate"):=by decide +kernel
theorem vz:bootBuiltins "reversed" = some (.type "reversed"):=by decide +kernel
theorem Hg:bootBuiltins "zip" = some (.type "zip"):=by decide +kernel
section
variable {X:Cx}
theorem AT.imp{r r':R2}(h:AT X r)(hi:∀x y H Q,r' x y H Q->r x y H Q):AT X r':=λv sl pins s σ H x y vv u Q I rx ry q hs=>h v sl pins s σ H x y vv u Q I rx ry (hi _ _ _ _ q) hs
theorem eV.imp{f:Value}{r r':List V->Hp->VK->Prop}(h:eV X f r)(hi:∀xs H Q,r' xs H Q->r xs H Q):eV X f r':=λpins s σ H xs us Q I rs q=>h pins s σ H xs us Q I rs (hi _ _ _ q)
def Gm(K:W.Frag):R2:=λx y H Q=>∃p i,x=.ref p/\y=.int i /\ ∃xs,vw K H p=some (.lst xs) /\ ∃v,jo xs i=some v/\Q v H
def Dm(K:W.Frag):R2:=λx y H Q=>∃p i,x=.ref p/\y=.int i /\ ∃xs,vw K H p=some (.tup xs) /\ ∃v,jo xs i=some v/\Q v H
theorem dL:AT X (Gm X.K):=zf.imp λ_ _ _ _ ⟨p,i,e1,e2,xs,e3,v,e4,q⟩=>⟨p,xs,i,v,e1,e2,.of (aH e3),e4,q⟩
theorem b9:AT X (Dm X.K):=JM.imp λ_ _ _ _ ⟨p,i,e1,e2,xs,e3,v,e4,q⟩=>⟨p,xs,i,v,e1,e2,jF e3,e4,q⟩
def fS(H:Hp)(p:Addr):Option Nat:=match H p with
 | some (.lst xs)=>some xs.length
 | some (.frz _ (.lst xs))=>some xs.length
 | some (.tup xs)=>some xs.length
 | _=>none
theorem aF:eV X (.builtin "len") (λxs H Q=>∃p,xs=[.ref p] /\ ∃n:Nat,fS (vw X.K H) p=some n/\Q (.int n) H):=i6.imp λxs H Q ⟨p,e,n,hn,q⟩=>by
 unfold fS at hn;split at hn
 .rename_i ys hp
  cases hn;exact⟨p,ys,e,.inl (.of (aH hp)),q⟩
 .rename_i o ys hp
  cases hn;exact⟨p,ys,e,.inl (.inl (.inr ⟨o,mX hp λ_ z=>by cases z⟩)),q⟩
 .rename_i ys hp
  cases hn;exact⟨p,ys,e,.inr (jF hp),q⟩
 .cases hn
def nZ(K:W.Frag)(n:Nat)(t:AS):TG:=λv σ H Q=>∃a,v=.ref a /\ ∃xs,vw K H a=some (.tup xs)/\xs.length=n/\t xs σ H Q
theorem Gr{es:List Expr}{k:Nat}{t:AS}{n:Nat}{pos:Pos}(hc:X.calm=true)(h:JX X es t)
  (hn:(assignEach es X.env).length=n:=by rfl)(hst:(assignEach es X.env).findIdx? (·.1)=none:=by rfl):PG X (.Tuple es k pos) (nZ X.K n t) :=
 λpins s σ H v u Q I r ⟨a,e,xs,hx,hl,q⟩=>IS hc h hn hst pins s σ H v u Q I r ⟨a,xs,e,jF hx,hl,q⟩
theorem gE{α:Type}{x:α}{xs:List α}:jo (x::xs) 0=some x:=cG (j:=0) rfl
theorem jT{α:Type}{x y:α}{xs:List α}:jo (x::y::xs) 1=some y:=cG (j:=1) rfl
theorem Ko{α:Type}{x y z:α}{xs:List α}:jo (x::y::z::xs) 2=some z:=cG (j:=2) rfl
theorem xH{α:Type}{xs:List α}{r:Int}(h0:0<=r)(h1:r<xs.length):∃v,jo xs r=some v/\v∈xs:=by
 have h2:r.toNat<xs.length:=();refine⟨xs[r.toNat],?_,YJ h2⟩;have e:=cG (xs:=xs) (j:=r.toNat) (v:=xs[r.toNat]) (YK h2);rw[show ((r.toNat:Nat):Int)=r by nofun] at e
 exact e
theorem jg.same_trans{H H1 H2:Hp}{st:Addr}(b:jg st H H1)(s:aC H1 H2):jg st H H2:=b.trans (s.but st)
theorem Eb:xG 2 0=some 0:=rfl
theorem FH{K:W.Frag}{b k:Bool}{H:Hp}:AH K (.bl b) H k=(k=b):=rfl
theorem BR{K:W.Frag}{i:Int}{k:Bool}{H:Hp}:AH K (.int i) H k=(k=(i != 0)):=rfl
theorem yE{i j:Int}(h:0<=j/\j<=1000000/\i.natAbs<2^64):KT i j:=h
end
def Nw(K:W.Frag)(H:Hp)(o:HO)(Q:VK):Prop:=∀p H2,vw K H p=none->aC (vw K H) (vw K H2)->vw K H2 p=some o->Q (.ref p) H2
theorem Nw.ok{K:W.Frag}{H:Hp}{o:HO}{Q:VK}(h:Nw K H o Q) {p:Addr}(hk:K.lookup p=none)(hp:H p=none):Q (.ref p) (upd H p o) :=
 h p _ (by rw[eo hk];exact hp) (mF (aC.upd hp)) (by rw[eo hk];exact dA)
theorem Nw.al{K:W.Frag}{H:Hp}{o:HO}{Q:VK}(h:Nw K H o Q):∀p,H p=none->Kf K (.ref p) (upd H p o)->Q (.ref p) (upd H p o):=λp hp hk=>h.ok (hk p _ rfl dA) hp
def xY(K:W.Frag)(t:TA):TE:=λσ H Q=>t σ H λxs H1=>xs.length<=sizeLine/\Nw K H1 (.tup xs) Q
def DM(K:W.Frag)(t:TA):TE:=λσ H Q=>t σ H λxs H1=>xs.length<=sizeLine/\Nw K H1 (.lst xs) Q
def Ka(K:W.Frag):TE:=λ_ H Q=>Nw K H (.dK []) Q
section
variable {X:Cx}{es:List Expr}{t:TA}{pos:Pos}
theorem F3 {x1}(h:PA X es t):PE X (.Tuple es x1 pos) (xY X.K t):=by
 intro pins s σ H Q I hq;refine wpAny_Tuple_spliced (dH (h pos pins s σ H _ I hq) λus s1 ⟨xs,H1,I1,r,z,q⟩=>⟨by rw[<-r.length];exact z,?_⟩)
 have hf:H1 s1.heap.objs.size=none:=I1.hok.fresh (Yq _);refine⟨.ref s1.heap.objs.size,upd H1 s1.heap.objs.size (.tup xs),I1.laid (t':=s1.toks) (λb u e=>Heap.get?_push_of_some _ e) (Yq _) ?_,rfl,q.ok (I1.newK (Yq _)) hf⟩;exact⟨z,us,r,⟨_,Heap.get?_push_size _ rfl,rfl,_,rfl⟩⟩
theorem Fe(h:PA X es t):PE X (.List es pos) (DM X.K t):=by
 intro pins s σ H Q I hq;refine wpAny_List_spliced (dH (h pos pins s σ H _ I hq) λus s1 ⟨xs,H1,I1,r,z,q⟩=>⟨by rw[<-r.length];exact z,?_⟩)
 have hf:H1 s1.heap.objs.size=none:=I1.hok.fresh (Yq _);refine⟨.ref s1.heap.objs.size,upd H1 s1.heap.objs.size (.lst xs),I1.laid (t':=s1.toks) (λb u e=>Heap.get?_push_of_some _ e) (Yq _) ?_,rfl,q.ok (I1.newK (Yq _)) hf⟩;exact⟨z,us,0,r,Heap.get?_push_size _ rfl⟩
theorem gh.imp{f:Value->Value->Sem Value}{r r':R2}(h:gh X f r)(hi:∀x y H Q,r' x y H Q->r x y H Q):gh X f r':=λpins s σ H x y v u Q I rx ry q=>h pins s σ H x y v u Q I rx ry (hi _ _ _ _ q)
def yz(K:W.Frag):R2:=λx y H Q=>∃l b,x=.ref l/\y=.ref b /\ ∃xs,vw K H l=some (.lst xs) /\ ∃zs,vw K H b=some (.lst zs)/\xs.length+zs.length<=sizeLine/\Nw K H (.lst (xs++zs)) Q
theorem Ex:gh X (binaryOp .Add) (yz X.K):=Ie.kf.imp λ_ _ _ _ ⟨l,b,e1,e2,xs,h1,zs,h2,z,q⟩=>⟨l,b,xs,zs,e1,e2,aH h1,aH h2,z,q.al⟩
def yR(K:W.Frag):R2:=λx y H Q=>∃l k,x=.ref l/\y=.int k /\ ∃xs,vw K H l=some (.lst xs) /\ -(2^63)<=k/\k<2^63/\xs.length*k.toNat<=sizeLine/\Nw K H (.lst (List.replicate k.toNat xs).flatten) Q
theorem EG:gh X (binaryOp .Mult) (yR X.K):=Il.kf.imp λ_ _ _ _ ⟨l,k,e1,e2,xs,h1,z1,z2,z3,q⟩=>⟨l,k,xs,e1,e2,aH h1,z1,z2,z3,q.al⟩
def jp(K:W.Frag):R2:=λx y H Q=>rI IntMulOk (λi j=>.int (i*j)) x y H Q\/yR K x y H Q
def nR(K:W.Frag):R2:=λx y H Q=>yI (λi j=>.int (i+j)) x y H Q\/yz K x y H Q
theorem aG:gh X (binaryOp .Mult) (jp X.K):=yh.or EG
theorem cz:gh X (binaryOp .Add) (nR X.K):=HL.or Ex
theorem dZ{K:W.Frag}{i j:Int}{H:Hp}{Q:VK}:jp K (.int i) (.int j) H Q=(IntMulOk i j/\Q (.int (i*j)) H):=by
 simp[jp,rI,yR]
theorem jt{K:W.Frag}{l:Addr}{j:Int}{H:Hp}{Q:VK}:jp K (.ref l) (.int j) H Q = ∃xs,vw K H l=some (.lst xs) /\ -(2^63)<=j/\j<2^63/\xs.length*j.toNat<=sizeLine/\Nw K H (.lst (List.replicate j.toNat xs).flatten) Q:=by
 simp[jp,rI,yR]
theorem rM{K:W.Frag}{i j:Int}{H:Hp}{Q:VK}:nR K (.int i) (.int j) H Q=Q (.int (i+j)) H:=by
 simp[nR,yI,yz]
theorem ni{K:W.Frag}{l b:Addr}{H:Hp}{Q:VK}:nR K (.ref l) (.ref b) H Q = ∃xs,vw K H l=some (.lst xs) /\ ∃zs,vw K H b=some (.lst zs)/\xs.length+zs.length<=sizeLine/\Nw K H (.lst (xs++zs)) Q:=by
 simp[nR,yI,yz]
theorem gm:eV X (.type "list") (λxs H Q=>∃p,xs=[.ref p] /\ ∃ys,vw X.K H p=some (.lst ys)/\Nw X.K H (.lst ys) Q):=tV.kf.imp λ_ _ _ ⟨p,e,ys,h,q⟩=>⟨p,ys,e,.inl (.of (aH h)),q.al⟩
theorem D4.imp{r r':V->Option Int->Option Int->Hp->VK->Prop}(h:D4 X r)(hi:∀x a b H Q,r' x a b H Q->r x a b H Q):D4 X r':=by
 intro value p2 pins s σ H x lo hi' v vl vh sl Q
 intros
 apply h<;>first|assumption|(apply hi;assumption)
def Kk(K:W.Frag):V->Option Int->Option Int->Hp->VK->Prop:=λx lo hi H Q=>∃a,x=.ref a /\ ∃xs,vw K H a=some (.lst xs)/\Nw K H (.lst (qB xs lo hi)) Q
theorem qJ:D4 X (Kk X.K):=Ee.kf.imp λ_ _ _ _ _ ⟨a,e,xs,h,q⟩=>⟨a,xs,e,.of (aH h),q.al⟩
def Jj(K:W.Frag)(H:Hp)(l:Addr)(o:HO)(Q:Hp->Prop):Prop:=∀H2,jg l (vw K H) (vw K H2)->vw K H2 l=some o->Q H2
theorem Jj.ok{K:W.Frag}{H:Hp}{l:Addr}{o:HO}{Q:Hp->Prop}(h:Jj K H l o Q)(hk:K.lookup l=none):Q (upd H l o):=h _ (DR jg.upd) (by rw[eo hk];exact dA)
def DU(K:W.Frag):V->V->V->Hp->(Hp->Prop)->Prop:=λo i v H Q=>∃p k,o=.ref p/\i=.int k /\ ∃xs,vw K H p=some (.lst xs) /\ ∃j,xG xs.length k=some j/\Jj K H p (.lst (xs.set j v)) Q
theorem gn:Ax X (DU X.K):=λpins s σ H o i v ov iv u Q I ro ri rv ⟨p,k,e1,e2,xs,h,j,e3,q⟩=>Bw pins s σ H o i v ov iv u Q I ro ri rv ⟨p,xs,k,j,e1,e2,aH h,e3,q.ok (I.noK (aH h))⟩
def BZ(K:W.Frag):V->List V->Hp->VK->Prop:=λx vs H Q=>∃l y,x=.ref l/\vs=[y] /\ ∃xs,vw K H l=some (.lst xs)/\xs.length<sizeLine/\Jj K H l (.lst (xs++[y])) (Q .non)
theorem jf:Li X "list.append" (BZ X.K):=λpins s σ H x vs v us Q I rx rv ⟨l,y,e1,e2,xs,h,z,q⟩=>rX pins s σ H x vs v us Q I rx rv ⟨l,xs,y,e1,e2,aH h,z,q.ok (I.noK (aH h))⟩
def GG(K:W.Frag):V->List V->Hp->VK->Prop:=λx vs H Q=>∃l,x=.ref l/\vs=[] /\ ∃xs,vw K H l=some (.lst xs) /\ ∃y,xs[xs.length-1]? = some y/\Jj K H l (.lst xs.dropLast) (Q y)
theorem FU:Li X "list.pop" (GG X.K):=λpins s σ H x vs v us Q I rx rv ⟨l,e1,e2,xs,h,y,e3,q⟩=>Jh pins s σ H x vs v us Q I rx rv ⟨l,xs,y,e1,e2,aH h,e3,q.ok (I.noK (aH h))⟩
end
def Ba(J:It)(g:TG)(tb:TS)(D:og)(σ:St)(H1:Hp):Prop:=∃W:Nat->Nat->St->Hp->Prop,(∃m,W 0 m σ H1) /\ ∀i m σ H,W i m σ H ->
 (J.stop i H/\D.nx σ H)\/(J.go i H /\ ∃N:St->Hp->Prop,(∀σ' H',N σ' H' -> ∃m',m'<m/\W (i+1) m' σ' H') /\ ∀x H',J.yld i H x H'->g x σ H' λσ2 H2=>tb { D with nx:=N,ct:=N,bk:=D.nx } σ2 H2)
theorem FM(wi:TI)(g:TG)(tb:TS)(D:og)(σ:St)(H:Hp):HA wi g tb D σ H=wi σ H λJ H1=>Ba J g tb D σ H1:=rfl
inductive D where
 | non|bl (b:Bool)|int (i:Int)|str (x:Str)|dict|tup (ds:List D)|lst (ds:List D)
mutual
def aP(H:Hp):D->V->Prop
 | .non,v=>v=.non
 | .bl b,v=>v=.bl b
 | .int i,v=>v=.int i
 | .str x,v=>v=.str x
 | .dict,v=>∃a kvs,v=.ref a/\H a=some (.dK kvs)
 | .tup ds,v=>∃a xs,v=.ref a/\H a=some (.tup xs)/\aI H ds xs
 | .lst ds,v=>∃a xs,v=.ref a/\H a=some (.lst xs)/\aI H ds xs
def aI(H:Hp):List D->List V->Prop
 | [],xs=>xs=[]
 | d::ds,xs=>∃x r,xs=x::r/\aP H d x/\aI H ds r
end
mutual
theorem aP.same{H H':Hp}(S:aC H H'):∀(d:D)(v:V),aP H d v->aP H' d v
 | .non,v,h=>by unfold aP at h ⊢;exact h
 | .bl b,v,h=>by unfold aP at h ⊢;exact h
 | .int i,v,h=>by unfold aP at h ⊢;exact h
 | .str x,v,h=>by unfold aP at h ⊢;exact h
 | .dict,v,h=>by
  unfold aP at h ⊢;obtain⟨a,kvs,e,h⟩:=h;exact⟨a,kvs,e,S _ _ h⟩
 | .tup ds,v,h=>by
  unfold aP at h ⊢;obtain⟨a,xs,e,h,r⟩:=h;exact⟨a,xs,e,S _ _ h,aI.same S ds xs r⟩
 | .lst ds,v,h=>by
  unfold aP at h ⊢;obtain⟨a,xs,e,h,r⟩:=h;exact⟨a,xs,e,S _ _ h,aI.same S ds xs r⟩
theorem aI.same{H H':Hp}(S:aC H H'):∀(ds:List D)(xs:List V),aI H ds xs->aI H' ds xs
 | [],xs,h=>by unfold aI at h ⊢;exact h
 | d::ds,xs,h=>by
  unfold aI at h ⊢;obtain⟨x,r,e,h1,h2⟩:=h;exact⟨x,r,e,aP.same S d x h1,aI.same S ds r h2⟩
end
theorem aI.get{H:Hp}:∀{ds:List D}{xs:List V}{i:Nat}{x:V},aI H ds xs->xs[i]? = some x -> ∃d,ds[i]? = some d/\aP H d x
 | [],xs,i,x,h,e=>by
  unfold aI at h;subst h;simp at e
 | d::ds,xs,i,x,h,e=>by
  unfold aI at h;obtain⟨y,r,rfl,h1,h2⟩:=h;cases i with
  | zero =>
   have e':y=x:=by simpa using e
   subst e';exact⟨d,by simp,h1⟩
  | succ i =>
   obtain⟨d',e1,e2⟩:=aI.get (i:=i) h2 (by simpa using e)
   exact⟨d',by simpa using e1,e2⟩
theorem aI.length{H:Hp}:∀{ds:List D}{xs:List V},aI H ds xs->xs.length=ds.length
 | [],xs,h=>by
  unfold aI at h;subst h;rfl
 | d::ds,xs,h=>by
  unfold aI at h;obtain⟨y,r,rfl,_,h2⟩:=h;simp[aI.length h2]
def D.ty:D->String
 | .non=>"NoneType" | .bl _=>"bool" | .int _=>"int" | .str _=>"str" | .dict=>"dict" | .tup _=>"tuple" | .lst _=>"list"
theorem aP.ty{H:Hp}{d:D}{v:V}(h:aP H d v):EI H v=some d.ty:=by
 cases d<;>unfold aP at h
 .subst h;rfl
 .subst h;rfl
 .subst h;rfl
 .subst h;rfl
 .obtain⟨a,kvs,rfl,h⟩:=h;simp only[EI,h,D.ty]
 .obtain⟨a,xs,rfl,h,_⟩:=h;simp only[EI,h,D.ty]
 .obtain⟨a,xs,rfl,h,_⟩:=h;simp only[EI,h,D.ty]
theorem uG(a b:Int):Int.gcd b (a.fmod b)=Int.gcd a b:=by
 rw[Int.fmod_def,YL a b];have:a-b*a.fdiv b=a+b*(- a.fdiv b):=by rw[Int.mul_neg];nofun
 rw[this];simp
theorem xS(a:Int){b:Int}(hb:b≠0):(a.fmod b).natAbs<b.natAbs:=by
 rcases Int.lt_or_gt_of_ne hb with h|h
 .obtain⟨n,rfl⟩ : ∃n:Nat,b=Int.negSucc n:=⟨(-b-1).toNat,()⟩;cases a with
  | ofNat m =>
   cases m with
   | zero=>simp[Int.fmod]
   | succ m =>
    show (Int.subNatNat (m%(n+1)) n).natAbs<n+1;have:=Nat.mod_lt m (show 0<n+1 by nofun)
    rw[Int.subNatNat_eq_coe];generalize m%(n+1)=z at *
    nofun
  | negSucc m =>
   show (-((((m+1)%(n+1):Nat)):Int)).natAbs<n+1;have:=Nat.mod_lt (m+1) (show 0<n+1 by nofun)
   generalize (m+1)%(n+1)=z at *
   nofun
 .have h1:=YM a h;have h2:=YN a h;nofun
def lg(a b:Int):Int:=if b<0 then -(Int.gcd a b:Int) else (Int.gcd a b:Int)
def lo(a b:Int):Int×Int:=(a.fdiv (lg a b),b.fdiv (lg a b))
def fr(q:Int×Int):D:=.tup [.int q.1,.int q.2]
def Fq(q:Int×Int):Prop:=0<q.2/\Int.gcd q.1 q.2=1
theorem DG{a b:Int}(hb:b≠0):lg a b≠0:=by
 have h:Int.gcd a b≠0:=λe=>hb (Int.gcd_eq_zero_iff.mp e).2;unfold lg;split<;>nofun
theorem uW(a b:Int):lg a b∣a:=by
 unfold lg;split
 .exact Int.neg_dvd.mpr (YO ..)
 .exact YO ..
theorem tM(a b:Int):lg a b∣b:=by
 unfold lg;split
 .exact Int.neg_dvd.mpr (YQ ..)
 .exact YQ ..
theorem fD{a b:Int}(hb:b≠0):(lo a b).1*lg a b=a:=by
 show a.fdiv (lg a b)*lg a b=a;exact Int.fdiv_mul_cancel (uW a b)
theorem fK{a b:Int}(hb:b≠0):(lo a b).2*lg a b=b:=by
 show b.fdiv (lg a b)*lg a b=b;exact Int.fdiv_mul_cancel (tM a b)
theorem AJ(a b:Int):(lg a b).natAbs=Int.gcd a b:=by
 unfold lg;split<;>nofun
theorem iP{a b:Int}(hb:b≠0):Fq (lo a b):=by
 have h1:=fD (a:=a) hb;have h2:=fK (a:=a) hb;have hg:0<Int.gcd a b:=Nat.pos_of_ne_zero λe=>hb (Int.gcd_eq_zero_iff.mp e).2;constructor
 .by_cases hn:b<0
  .have e:lg a b = -(Int.gcd a b:Int):=Yb hn;rw[e] at h2;rcases Int.lt_trichotomy (lo a b).2 0 with h|h|h
   .have:=Int.mul_nonneg_of_nonpos_of_nonpos (YR h) (show -(Int.gcd a b:Int)<=0 by nofun)
    nofun
   .rw[h] at h2;nofun
   .exact h
  .have e:lg a b=(Int.gcd a b:Int):=Yc hn;rw[e] at h2;rcases Int.lt_trichotomy (lo a b).2 0 with h|h|h
   .have:=Int.mul_nonpos_of_nonpos_of_nonneg (YR h) (show 0<=(Int.gcd a b:Int) by nofun)
    nofun
   .rw[h] at h2;nofun
   .exact h
 .have e:Int.gcd ((lo a b).1*lg a b) ((lo a b).2*lg a b)=Int.gcd (lo a b).1 (lo a b).2*(lg a b).natAbs:=Int.gcd_mul_right ..;rw[h1,h2,AJ] at e;have:1*Int.gcd a b=Int.gcd (lo a b).1 (lo a b).2*Int.gcd a b:=();exact (Nat.eq_of_mul_eq_mul_right hg this).symm
mutual
def D.noSt:D->Bool
 | .lst [.int _,.bl _]=>false
 | .lst ds=>D.noSts ds
 | .tup ds=>D.noSts ds
 | _=>true
def D.noSts:List D->Bool
 | []=>true
 | d::ds=>d.noSt && D.noSts ds
end
def gj(H:Hp)(st:Addr):Prop:=∃x b,H st=some (.lst [.int x,.bl b])/\(b=false->0<=x/\x<2147483647)
theorem aP.lst_st{H:Hp}{ds:List D}{x:Int}{b:Bool}(h:aI H ds [.int x,.bl b]):ds=[.int x,.bl b]:=by
 match ds with
 | []=>unfold aI at h;cases h
 | [d] =>
  unfold aI at h;obtain⟨_,_,e,_,h⟩:=h;unfold aI at h;subst h;cases e
 | d1::d2::d3::r =>
  have:=aI.length h;simp at this
 | [d1,d2] =>
  unfold aI at h;obtain⟨_,_,e,h1,h⟩:=h;cases e;unfold aI at h;obtain⟨_,_,e,h2,h⟩:=h;cases e;have e1:d1=.int x:=by
   cases d1<;>unfold aP at h1<;>first|(cases h1;rfl)|(obtain⟨_,_,e,_⟩:=h1;cases e)|cases h1
  have e2:d2=.bl b:=by
   cases d2<;>unfold aP at h2<;>first|(cases h2;rfl)|(obtain⟨_,_,e,_⟩:=h2;cases e)|cases h2
  rw[e1,e2]
theorem gj.same{H H':Hp}{st:Addr}(h:gj H st)(S:aC H H'):gj H' st:=by
 obtain⟨x,b,e,k⟩:=h;exact⟨x,b,S _ _ e,k⟩
theorem gj.ne{H:Hp}{st p:Addr}(h:gj H st)(hp:H p=none):p≠st:=by
 obtain⟨x,b,e,k⟩:=h;exact (ak e hp).symm
theorem aP.tup_at{H:Hp}{ds:List D}{v:V}(h:aP H (.tup ds) v):∃a xs,v=.ref a/\H a=some (.tup xs)/\aI H ds xs:=by
 unfold aP at h;exact h
theorem aP.lst_at{H:Hp}{ds:List D}{v:V}(h:aP H (.lst ds) v):∃a xs,v=.ref a/\H a=some (.lst xs)/\aI H ds xs:=by
 unfold aP at h;exact h
theorem aI.nil_at{H:Hp}{xs:List V}(h:aI H [] xs):xs=[]:=by
 unfold aI at h;exact h
theorem aI.cons_at{H:Hp}{d:D}{ds:List D}{xs:List V}(h:aI H (d::ds) xs):∃x r,xs=x::r/\aP H d x/\aI H ds r:=by
 unfold aI at h;exact h
theorem aP.int_at{H:Hp}{i:Int}{v:V}(h:aP H (.int i) v):v=.int i:=by
 unfold aP at h;exact h
theorem aI.pair{H:Hp}{ds:List D}{xs:List V}(h:aI H ds xs)(hl:xs.length=2):∃d1 d2 x1 x2,ds=[d1,d2]/\xs=[x1,x2]/\aP H d1 x1/\aP H d2 x2:=by
 have e:=h.length;match ds,e with
 | [],e=>rw[hl] at e;cases e
 | [_],e=>rw[hl] at e;cases e
 | _::_::_::_,e=>rw[hl] at e;cases e
 | [d1,d2],_ =>
  obtain⟨x1,r,rfl,h1,h⟩:=h.cons_at;obtain⟨x2,r,rfl,h2,h⟩:=h.cons_at;cases h.nil_at;exact⟨_,_,_,_,rfl,rfl,h1,h2⟩
theorem aP.mk_int{H:Hp}(i:Int):aP H (.int i) (.int i):=by unfold aP;rfl
theorem aI.mk_nil{H:Hp}:aI H [] []:=by unfold aI;rfl
theorem aI.mk_cons{H:Hp}{d:D}{ds:List D}{x:V}{xs:List V}(h1:aP H d x)(h2:aI H ds xs):aI H (d::ds) (x::xs):=by unfold aI;exact⟨_,_,rfl,h1,h2⟩
theorem aP.mk_tup{H:Hp}{a:Addr}{ds:List D}{xs:List V}(h:H a=some (.tup xs))(r:aI H ds xs):aP H (.tup ds) (.ref a):=by unfold aP;exact⟨_,_,rfl,h,r⟩
theorem aP.mk_lst{H:Hp}{a:Addr}{ds:List D}{xs:List V}(h:H a=some (.lst xs))(r:aI H ds xs):aP H (.lst ds) (.ref a):=by unfold aP;exact⟨_,_,rfl,h,r⟩
theorem aP.fr_at{H:Hp}{q:Int×Int}{v:V}(h:aP H (fr q) v):∃a,v=.ref a/\H a=some (.tup [.int q.1,.int q.2]):=by
 obtain⟨a,xs,e,ha,r⟩:=h.tup_at;obtain⟨x1,r1,rfl,h1,r⟩:=r.cons_at;obtain⟨x2,r2,rfl,h2,r⟩:=r.cons_at;cases r.nil_at;rw[h1.int_at,h2.int_at] at ha;exact⟨a,e,ha⟩
abbrev Bt (n:Nat)(x:Int):Prop:=x.natAbs<2^n
theorem Bt.ib{n:Nat}{x:Int}(h:Bt n x):Builtin.Int.intBits x<=n:=by
 unfold Builtin.Int.intBits;split
 .exact YS _
 .rename_i h0
  have h1:x.natAbs≠0:=by
   intro e;apply h0
   have:x=0:=();rw[this];rfl
  have:=(Nat.log2_lt h1).mpr h;nofun
theorem be{m n:Nat}{x y:Int}(hx:Bt m x)(hy:Bt n y)(h:m+n<=134217728:=by decide):IntMulOk x y:=PySem.IntMulOk.of_le hx.ib hy.ib h
theorem Bt.mono{m n:Nat}{x:Int}(hx:Bt m x)(h:m<=n):Bt n x:=Yd hx (YT ∅ h)
theorem Bt.mul{m n:Nat}{x y:Int}(hx:Bt m x)(hy:Bt n y):Bt (m+n) (x*y):=by
 unfold Bt;rw[YU,YV];exact Nat.mul_lt_mul'' hx hy
theorem Bt.add{m n:Nat}{x y:Int}(hx:Bt m x)(hy:Bt n y):Bt (max m n+1) (x+y):=by
 have h1:=hx.mono (Nat.le_max_left m n);have h2:=hy.mono (Nat.le_max_right m n);unfold Bt at *
 rw[YW];have:=Int.natAbs_add_le x y;nofun
theorem Bt.sub{m n:Nat}{x y:Int}(hx:Bt m x)(hy:Bt n y):Bt (max m n+1) (x-y):=by
 have h1:=hx.mono (Nat.le_max_left m n);have h2:=hy.mono (Nat.le_max_right m n);unfold Bt at *
 rw[YW];have:=Int.natAbs_sub_le x y;nofun
theorem JS{x y:Int}(h:y≠0)(hb:Bt 9000 y):zr x y:=⟨h,by
 by_cases h0:y.natAbs=0
 .rw[h0];decide +kernel
 .exact (Nat.log2_lt h0).mpr hb⟩
theorem xX{x k:Int}{n:Nat}(hk:0<k)(h:k.natAbs<=2^n):Bt n (x.fmod k):=by
 have h1:=YM x hk;have h2:=YN x hk;unfold Bt;nofun
theorem oI{x y:Int}(hx:Bt 64 x):IntMulOk x y:=.of_left hx.ib
theorem yO{x y:Int}(hy:Bt 64 y):IntMulOk x y:=.of_right hy.ib
theorem xb{y:Int}(h:y.natAbs<2^9000):y.natAbs.log2<9000:=by
 by_cases h0:y.natAbs=0
 .rw[h0];decide +kernel
 .exact (Nat.log2_lt h0).mpr h
end L2
namespace L2
theorem Js{c A B:Prop} [Decidable c] (hc:c)(h:A):if c then A else B:=by rw[Yb hc];exact h
theorem kK{c A B:Prop} [Decidable c] (hc:¬ c)(h:B):if c then A else B:=by rw[Yc hc];exact h
end L2
namespace L2
open PySem
mutual
def D.ib:D->Bool
 | .int i=>decide (i.natAbs<2^200)
 | .tup ds=>D.ibs ds
 | .lst ds=>D.ibs ds
 | _=>true
def D.ibs:List D->Bool
 | []=>true
 | d::ds=>d.ib && D.ibs ds
end
end L2
namespace L2
open PySem PySem.Spec PyProof.Rows
section
variable {prog:Program}{w:World}{A:Around}{R:Result->Shared->Prop}{s:Shared}
theorem tJ{elt target iter:Expr}{ix:List Expr}{scope:Scope}{pos:Pos}{it acc:Value}{env:Env}{EE:Value->Shared->Prop}(hEE:EE=notedBy (model prog w) A env λe s'=>R (.error e) s')(Iv:Nat->Shared->Prop)
  (turn:∀n s,Iv n s->wpAny (model prog w) A (pyNext it) (λr s1=>match r with
   | none=>R (.ok .next) s1
   | some v=>wpAny (model prog w) A (letOwnedTupleGo target it v) (λ_ s2=>wpAny (model prog w) A (assign target env v) (λ_ s3 =>
     wpAny (model prog w) A (forIn ix true λc r=>if r=true then do let ok <-isTrue c env (eval c env);pure (ForInStep.yield ok) else pure (ForInStep.yield r)) (λok s4 =>
      if ok=true then wpAny (model prog w) A (eval elt env) (λx s5=>wpAny (model prog w) A (call (.builtin "list.append") [acc,x]) (λ_ s6=>∃m,m<n/\Iv m s6) EE s5) EE s4
      else ∃m,m<n/\Iv m s4) EE s3) EE s2) EE s1) EE s)
  (n:Nat)(h:Iv n s):codeAny (model prog w) A (.compLoop (.ListComp elt [⟨target,iter,ix,0⟩] scope pos) 0 it acc env) R s:=by
 subst hEE;refine codeAny_loop rfl Iv (λn s hI=>?_) n h;show wpAny _ A ((compTurn (.ListComp elt [⟨target,iter,ix,0⟩] scope pos) 0 it acc env).onRaise (λx=>do noteFrame x env;theTreesLotGoes x)) _ _ s
 refine wpAny_noted ?_;rw[compTurn_list];refine wpAny_bind (wpAny_standAt (wpAny_bind (wpAny_mono (turn n s hI) (λr s1 h1=>?_) λ_ _ h'=>h')));cases r with
 | none=>exact wpAny_pure h1
 | some v =>
  refine wpAny_bind (wpAny_mono h1 (λ_ s2 h2=>?_) λ_ _ h'=>h');refine wpAny_bind (wpAny_mono h2 (λ_ s3 h3=>wpAny_bind (wpAny_mono h3 (λok s4 h4=>?_) λ_ _ h'=>h')) λ_ _ h'=>h');cases ok with
  | false=>exact wpAny_pure ⟨rfl,h4⟩
  | true=>exact wpAny_bind (wpAny_bind (wpAny_mono h4 (λx s5 h5=>wpAny_bind (wpAny_mono h5 (λ_ s6 h6=>wpAny_pure (wpAny_pure ⟨rfl,h6⟩)) λ_ _ h'=>h')) λ_ _ h'=>h'))
end
def nM(X:Cx)(scope:Scope)(cl:List (Str×Addr))(N:List Str)(C:Addr)(s:Shared)(H:Hp)(ex:List Addr):Cx :=
 { X with N:=N,s₀:=s,H₀:=H,env:=compEnvC scope cl C X.env,outer:=X.stack,ex:=ex,fn:=λ_=>false,pn:=[],xe:=λ_ _=>False }
def uQ(X:Cx)(scope:Scope)(cl:List (Str×Addr)):List Str->List Nat->Prop
 | [],[]=>True
 | x::xs,j::js=>(X.N[j]? = some x /\ X.env.kindOf x = some .cell /\ (relabel scope X.env).names.lookup x = some .cell /\ (∃c,cl.lookup x = some c)) /\ uQ X scope cl xs js
 | _,_=>False
theorem uQ.length{X:Cx}{scope:Scope}{cl:List (Str×Addr)}:∀{xs:List Str}{js:List Nat},uQ X scope cl xs js->js.length=xs.length
 | [],[],_=>rfl
 | _::_,_::_,h=>by simp[uQ.length h.2]
 | [],_::_,h=>h.elim
 | _::_,[],h=>h.elim
theorem uQ.get{X:Cx}{scope:Scope}{cl:List (Str×Addr)}:∀{xs:List Str}{js:List Nat}{k j:Nat}{x:Str},uQ X scope cl xs js->xs[k]? = some x->js[k]? = some j ->
  X.N[j]? = some x /\ X.env.kindOf x = some .cell /\ (relabel scope X.env).names.lookup x = some .cell /\ ∃c,cl.lookup x = some c
 | [],_,_,_,_,_,e,_=>by simp at e
 | _::_,[],_,_,_,_,_,e=>by simp at e
 | x::xs,j::js,0,_,_,h,e1,e2=>by
  simp at e1 e2;subst e1;subst e2;exact h.1
 | x::xs,j::js,k+1,_,_,h,e1,e2=>uQ.get (k:=k) h.2 (by simpa using e1) (by simpa using e2)
def lJ(X:Cx):List (Str×Addr)->Prop
 | []=>True
 | p::r=>X.env.cells.lookup p.1=some p.2/\lJ X r
theorem lJ.mem{X:Cx}:∀{cl:List (Str×Addr)},lJ X cl -> ∀p∈cl,X.env.cells.lookup p.1=some p.2
 | [],_,p,hp=>by cases hp
 | q::r,h,p,hp=>by
  rcases YY.mp hp with rfl|hp
  .exact h.1
  .exact lJ.mem h.2 p hp
structure pQ (X:Cx)(scope:Scope)(cl:List (Str×Addr))(own outs:List Str)(ixs:List Nat):Prop where
 nocell:(scope.names.all λy=>y.2 != .cell)=true
 kind:scope.kind=.function
 names:(scope.names.all λy=>y.2 != .local || scope.names.lookup y.1==some .local)=true
 cells:lJ X cl
 has:((relabel scope X.env).names.all λy=>!(y.2 == .cell || y.2 == .free) || (cl.lookup y.1).isSome) = true
 outs:uQ X scope cl outs ixs
def PF(X:Cx)(ix:List Expr)(t:TT):Prop :=
 ∀(pins:List (Addr×Obj))(s:Shared)(σ:St)(H:Hp)(Q:Bool->Hp->Prop),aM X pins σ H s->t σ H Q ->
  wpAny (model X.prog X.w) X.A (forIn ix true λc r=>if r=true then do let ok <-isTrue c X.env (eval c X.env);pure (ForInStep.yield ok) else pure (ForInStep.yield r)) (TP X pins σ Q) X.xe s
def Em:TT:=λ_ H Q=>Q true H
theorem HZ{X:Cx}:PF X [] Em:=λ_ _ _ H _ I h=>wpAny_tests_nil ⟨H,I,h⟩
theorem Ij{X:Cx}{c:Expr}{t:TT}(h:PT X c t):PF X [c] t:=λpins s σ H Q I q=>wpAny_tests_one (h pins s σ H Q I q)
def mP(K:W.Frag)(J:It)(g:TG)(tif:TT)(te:TE)(a:Addr)(σ0:St)(H0:Hp)(Q:Hp->Prop):Prop:=∃W:Nat->Nat->St->Hp->Prop,(∃m,W 0 m σ0 H0) /\ ∀i m σ H,W i m σ H ->
 (J.stop i H/\Q H)\/(J.go i H /\ ∃N:St->Hp->Prop,(∀σ' H',N σ' H' -> ∃m',m'<m/\W (i+1) m' σ' H') /\ ∀x H',J.yld i H x H'->g x σ H' λσ2 H2=>tif σ2 H2 λb H3=>if b=true then te σ2 H3 λv H4=>∃xs,vw K H4 a=some (.lst xs)/\xs.length<sizeLine /\
  ∀H5,jg a (vw K H4) (vw K H5)->vw K H5 a=some (.lst (xs++[v]))->N σ2 H5 else N σ2 H3)
def xi(σ:St)(ixs:List Nat):St:=ixs.map λj=>(σ[j]?).join
def vq(K:W.Frag)(wi:TI)(n:Nat)(ixs:List Nat)(g:TG)(tif:TT)(te:TE):TE:=λσ H Q=>wi σ H λJ H1=>∀a H2,vw K H1 a=none->aC (vw K H1) (vw K H2)->vw K H2 a=some (.lst [])->mP K J g tif te a (List.replicate n none++xi σ ixs) H2 (Q (.ref a))
section
variable {X:Cx}
theorem rO{tg iter elt:Expr}{ix:List Expr}{scope:Scope}{pos ipos:Pos}{wi:TI}{g:TG}{tif:TT}{te:TE}{cl:List (Str×Addr)}{own outs:List Str}{ixs:List Nat}{use:Option (Value->Sem Unit)}{Qv:Value->Shared->Prop}
  (hc:X.calm=true)(hi:PI X tg iter wi)(hclos:closureFor scope X.env=pure cl)(S:pQ X scope cl own outs ixs)
  {G:Shared->Hp->List Addr->Prop}(hb:∀C s H ex,G s H ex->PG (nM X scope cl (own++outs) C s H ex) tg g/\PF (nM X scope cl (own++outs) C s H ex) ix tif/\PE (nM X scope cl (own++outs) C s H ex) elt te)
  (hs:∀x,foldedSetIterable iter X.env x=pure x) {pins:List (Addr×Obj)}{s:Shared}{σ:St}{H:Hp}(hG:∀s2 H1 H2 fp,aM X pins σ H2 s2->(∀b∈fp,mR X pins H1 b)->G s2 H2 fp)(I:aM X pins σ H s)(Qd:Addr->Hp->Prop)
  (hfin:∀(a C:Addr)(H':Hp)(s4:Shared)(m:Str->Option Value),aM X pins σ H' s4->mR X pins H' C->s4.heap.Ns C m->Qd a H'->compPost (model X.prog X.w) X.A X.xe use Qv (.ref a) C (.ok .next) s4)
  (h:wi σ H λJ H1=>∀a H2,vw X.K H1 a=none->aC (vw X.K H1) (vw X.K H2)->vw X.K H2 a=some (.lst [])->mP X.K J g tif te a (List.replicate own.length none++xi σ ixs) H2 (Qd a)) :
  wpAny (model X.prog X.w) X.A (comprehension (.ListComp elt [⟨tg,iter,ix,0⟩] scope pos) scope X.env ipos (newList []) false (eval iter X.env) use) Qv X.xe s:=by
 have Snc:∀y∈scope.names,y.2 ≠ .cell:=λy hy z=>by
  have:=List.all_eq_true.mp S.nocell y hy;rw[z] at this;cases this
 have Snm:∀y∈scope.names,y.2=.local->scope.names.lookup y.1=some .local:=λy hy z=>by
  have:=List.all_eq_true.mp S.names y hy;rw[z] at this;simpa using this
 have Shs:∀y∈(relabel scope X.env).names,(y.2=.cell \/ y.2=.free) -> (cl.lookup y.1).isSome = true:=λy hy z=>by
  have:=List.all_eq_true.mp S.has y hy;rcases z with z|z
  .rw[z] at this;simpa using this
  .rw[z] at this;simpa using this
 refine wpAny_comprehension_free (use:=use) rfl hs hclos S.kind Snm (wpAny_mono (hi pins s σ H _ I h) (λxv s1 h1=>wpAny_mono h1 (λitv s2 h2=>?_) λ_ _ e=>e) λ_ _ e=>e);obtain⟨it,fp,tn,J,H1,rfl,I1,T,st1,f1,q⟩:=h2;refine wpAny_newObj_type (wpAny_newFunctionEnv Snc (by intro y hy;simp at hy) (λh₁ hns₁ hsb₁=>?_) S.kind)
 dsimp only at hns₁ hsb₁ ⊢;have I2:aM X pins σ (upd H1 s2.heap.objs.size (.lst [])) { s2 with heap:=s2.heap.push { cls:=.type "list",dict:=none,data:=.seq ([]:List Value).toArray } }:=I1.lnew (t':=s2.toks) .nil (YS _)
 have q2:=q s2.heap.objs.size (upd H1 s2.heap.objs.size (.lst [])) (by rw[eo (I1.newK (Yq _))];exact I1.fresh) (mF (aC.upd I1.fresh)) (by rw[eo (I1.newK (Yq _))];exact dA)
 have fr2:∀b∈fp,(upd H1 s2.heap.objs.size (.lst [])) b=none:=λb hb=>by
  obtain⟨o,ho,_⟩:=T.obj _ _ st1 b hb;rw[cE (Yf (Heap.lt_size ho))];exact (f1 b hb).1
 generalize hH2:upd H1 s2.heap.objs.size (.lst [])=H2 at I2 q2 fr2;generalize hs3:s2.heap.push { cls:=.type "list",dict:=none,data:=.seq ([]:List Value).toArray } = hp3 at I2 hns₁ hsb₁ ⊢;have old23:∀b o,s2.heap.get? b=some o->hp3.get? b=some o:=λb o e=>hs3▸Heap.get?_push_of_some _ e;have ltC:∀{b:Addr}{o:Obj},hp3.get? b=some o->b≠hp3.objs.size:=λe=>Yf (Heap.lt_size e);have old:∀b o,hp3.get? b=some o->h₁.get? b=some o:=λb o e=>hsb₁.extBut b o (ltC e) (Heap.get?_push_of_some _ e);have clc:∀x c,cl.lookup x=some c->X.env.cells.lookup x=some c:=λx c e=>S.cells.mem (x,c) (Yx e);obtain⟨W,⟨m0,w0⟩,turn⟩:=q2;have fpo:∀b∈fp,∃o,hp3.get? b=some o:=λb hb=>by
  obtain⟨o,ho,_⟩:=T.obj _ _ st1 b hb;exact⟨o,old23 b o ho⟩
 have ok:(nM X scope cl (own++outs) hp3.objs.size { s2 with heap:=hp3 } H2 fp).Ok:=by
  refine⟨I.ok.mod,S.kind,I.ok.glob,I.ok.blt,Yq _,λx y c e1 e2=>I.ok.inj x y c (clc x c e1) (clc y c e2),λx hx=>?_,λx c hf _=>(by cases hf),I.ok.hd,I.ok.frames,.inl rfl,λb hb=>⟨?_,λx c e=>?_⟩,I2.bs,Yg I.ok.bsz I2.sz,λb o e hb=>?_,λb hb hz=>?_,I2.stack,I2.stkFree⟩
  .have hx':(relabel scope X.env).names.lookup x = some .cell \/ (relabel scope X.env).names.lookup x = some .free:=hx;have:(cl.lookup x).isSome=true:=by
    rcases hx' with e|e
    .exact Shs _ (Yx e) (.inl rfl)
    .exact Shs _ (Yx e) (.inr rfl)
   exact Option.isSome_iff_exists.mp this
  .obtain⟨o,ho⟩:=fpo b hb;exact ltC ho
  .exact (f1 b hb).2.2.2.2.1 x c (clc x c e)
  .rcases (f1 b hb).2.2.2.1 with z|z
   .exact I.ok.noex b o e z
   .exact absurd (Yd (Heap.lt_size e) (Yg I.ok.bsz z)) (Ye _)
  .rcases YY.mp (I2.stkSub b hz) with z|z
   .exact (f1 b hb).2.1 z
   .exact (f1 b hb).2.2.1 z
 have I4:aM (nM X scope cl (own++outs) hp3.objs.size { s2 with heap:=hp3 } H2 fp) [] (List.replicate own.length none++xi σ ixs) H2 { s2 with heap:=h₁,toks:=s2.toks+([]:List (Str×Value)).length }:=by
  refine⟨ok,rfl,I2.bare,Un.kept old,⟨_,hns₁,λi x v e1 e2 e3=>?_⟩,λx c e=>?_,I2.hok.fresh (Yq _),λx c e=>I2.freeC x c (clc x c e),λp hp=>by simp[nM] at hp,I2.hok.kept old,?_⟩
  .have e1':(own++outs)[i]? = some x:=e1;have hi':own.length<=i:=by
    by_cases hlt:i<own.length
    .rw[Yz (by simpa using hlt),List.getElem?_replicate,Yb hlt] at e2
     cases e2
    .nofun
   rw[Yy (by simpa using hi')] at e2
   rw[Yy hi'] at e1';rw[List.length_replicate] at e2;unfold xi at e2;rw[YA] at e2;cases ej:ixs[i-own.length]? with
   | none=>rw[ej] at e2;cases e2
   | some j =>
    rw[ej] at e2;obtain⟨hN,hk,hr,c,hcl⟩:=S.outs.get e1' ej;have e4:(σ[j]?).join=some v:=Ym e2;have e5:σ[j]? = some (some v):=by
     cases es:σ[j]? with
     | none=>rw[es] at e4;cases e4
     | some o=>rw[es] at e4;exact Yn some e4
    obtain⟨m,hn,hl⟩:=I2.loc;obtain⟨u,ru,l⟩:=hl j x v hN e5 (.inr (.inl hk));refine⟨u,ru,.inr ⟨.inl hr,c,hcl,?_⟩⟩;rcases l with ⟨z,_⟩|⟨_,c',hc',cell⟩
    .rw[hk] at z;cases z
    .rw[clc x c hcl] at hc';cases hc';obtain⟨o,ho,hd⟩:=cell;exact⟨o,old _ _ ho,hd⟩
  .obtain⟨v,o,ho,hd⟩:=I2.cell x c (clc x c e);exact⟨v,o,old _ _ ho,hd⟩
  .show (List.replicate own.length none++xi σ ixs).length=(own++outs).length;unfold xi;rw[YC,YC,List.length_replicate,YD,S.outs.length]
 obtain⟨hg,hf,he⟩:=hb hp3.objs.size { s2 with heap:=hp3 } H2 fp (hG _ _ _ _ I2 f1);have stat:∀{H':Hp},(∀b∈fp,H' b=none) -> ∀b∈fp,mR (nM X scope cl (own++outs) hp3.objs.size { s2 with heap:=hp3 } H2 fp) [] H' b:=λhn b hb =>
  ⟨hn b hb,(ok.exf b hb).1,ok.exfs b hb,.inl hb,(ok.exf b hb).2,λp hp=>by simp[nM] at hp⟩
 have noE:∀{α:Type}{t:Sem α}{Q':α->Shared->Prop}{s':Shared}{E':Value->Shared->Prop},wpAny (model X.prog X.w) X.A t Q' (λ_ _=>False) s'->wpAny (model X.prog X.w) X.A t Q' E' s':=λh=>wpAny_mono h (λ_ _ z=>z) λ_ _ z=>z.elim;have loop:codeAny (model X.prog X.w) X.A (.compLoop (.ListComp elt [⟨tg,iter,ix,0⟩] scope pos) 0 (.ref it) (.ref s2.heap.objs.size) (compEnvC scope cl hp3.objs.size X.env))
   (compPost (model X.prog X.w) X.A X.xe use Qv (.ref s2.heap.objs.size) hp3.objs.size) { s2 with heap:=h₁,toks:=s2.toks+([]:List (Str×Value)).length }:=by
  refine tJ rfl (λn s'=>∃i σ' H',aM (nM X scope cl (own++outs) hp3.objs.size { s2 with heap:=hp3 } H2 fp) [] σ' H' s'/\tn i s'.heap/\(∀b∈fp,H' b=none)/\W i n σ' H') ?_ m0
   ⟨0,_,H2,I4,T.keep _ _ _ st1 λb hb o e=>old b o (old23 b o e),fr2,w0⟩
  rintro n s' ⟨i,σ',H',I',st',fr',w'⟩;rcases turn i n σ' H' w' with ⟨stop,qn⟩|⟨go,N,hN,step⟩
  .refine dH (T.done (nM X scope cl (own++outs) hp3.objs.size { s2 with heap:=hp3 } H2 fp) rfl rfl rfl hc i [] s' σ' H' _ I' (stat fr') st' stop) λr s4 ⟨hr,I4'⟩=>?_
   subst hr;obtain⟨m,hn,_⟩:=I4'.loc;have kC:∀b o,b≠hp3.objs.size->s4.heap.get? b=some o->s4.heap.get? b=some o:=λb o hb e=>e;have tC:∀b u,H' b=some u->b≠hp3.objs.size:=λb u e z=>by
    have:=I4'.free;rw[z] at e;rw[show H' hp3.objs.size=none from this] at e
    cases e
   have base:=I4'.base;have un:Un (AW X.stack) fp H2 H' hp3 s4.heap:=⟨λb o e n1 hb hx=>kC b o (ltC e) (base.keep b o e n1 hb hx),λb o e n1 hb hx=>by
     obtain⟨sl,z⟩:=base.slot b o e n1 hb hx;exact⟨sl,kC b _ (ltC e) z⟩,base.free,λb o e hx=>by
     obtain⟨o',z⟩:=base.there b o e hx;exact⟨o',kC b o' (ltC e) z⟩,base.tups,base.frzs,base.tbls⟩
   exact hfin _ _ H' s4 m (I2.call' (s':=s4) (ch:=fp) I4'.os un I4'.hok I4'.bare (λb hb=>⟨(f1 b hb).2.2.2.1,(f1 b hb).2.1,(f1 b hb).2.2.2.2.1,(f1 b hb).2.2.2.2.2⟩)) (I2.fpOk (Yq _) I4'.free) hn qn
  .refine dH (T.item (nM X scope cl (own++outs) hp3.objs.size { s2 with heap:=hp3 } H2 fp) rfl rfl rfl hc i [] s' σ' H' _ I' (stat fr') st' go) λr s4 ⟨u,hr,h4⟩=>?_
   subst hr;refine dH h4 λ_ s5 ⟨x,H5,I5,r5,y5,st5,fr5⟩=>?_;have I5':=I5.pinned (stat fr5) (T.obj _ _ st5);have back:∀{σ7:St}{H7:Hp}{s7:Shared},aM (nM X scope cl (own++outs) hp3.objs.size { s2 with heap:=hp3 } H2 fp) ([]++pI fp s5.heap) σ7 H7 s7 -> ∀m',m'<n->W (i+1) m' σ7 H7 ->
     ∃m,m<n /\ ∃i σ' H',aM (nM X scope cl (own++outs) hp3.objs.size { s2 with heap:=hp3 } H2 fp) [] σ' H' s7/\tn i s7.heap/\(∀b∈fp,H' b=none)/\W i m σ' H':=λ{σ7 H7 s7} I7 m' hm w7=>by
    refine⟨m',hm,i+1,σ7,H7,I7.unpinned,T.keep _ _ _ st5 λb hb o e=>(I7.pin (b,o) (Ys _ (Ys _ (i5 hb e)))).1,λb hb=>?_,w7⟩;obtain⟨o,e,d⟩:=T.obj _ _ st5 b hb;exact (I7.pin (b,o) (Ys _ (Ys _ (i5 hb e)))).2.1
   refine dH (noE (hg _ s5 σ' H5 x u _ I5' r5 (step x H5 y5))) λ_ s6 ⟨σ6,H6,I6,q6⟩=>?_;refine dH (noE (hf _ s6 σ6 H6 _ I6 q6)) λok s7 ⟨H7,I7,q7⟩=>?_;cases ok with
   | false =>
    rw[Yc Yo] at q7 ⊢;obtain⟨m',hm,w7⟩:=hN _ _ q7;exact back I7 m' hm w7
   | true =>
    rw[Yb rfl] at q7 ⊢;refine dH (noE (he _ s7 σ6 H7 _ I7 q7)) λv s8 ⟨xv,H8,I8,r8,q8⟩=>?_;obtain⟨xs,hxs,hz,q8⟩:=q8;refine dH (noE (rX _ s8 σ6 H8 (.ref s2.heap.objs.size) [xv] _ [v] (λ_ H9=>N σ6 H9) I8 rfl (.cons r8 .nil) ⟨_,xs,xv,rfl,rfl,aH hxs,hz,q8 _ (DR jg.upd) ((eo (show X.K.lookup _=none from I8.noK (aH hxs))).trans dA)⟩)) λ_ s9 ⟨_,H9,I9,_,n9⟩=>?_
    obtain⟨m',hm,w9⟩:=hN _ _ n9;exact back I9 m' hm w9
 exact codeAny_compStart_list loop (T.self _ 0 _ _ _ (T.keep _ _ _ st1 λb hb o e=>old b o (old23 b o e)) loop)
theorem Fd{tg iter elt:Expr}{ix:List Expr}{scope:Scope}{pos:Pos}{wi:TI}{g:TG}{tif:TT}{te:TE}{cl:List (Str×Addr)}{own outs:List Str}{ixs:List Nat}
  (hc:X.calm=true)(hi:PI X tg iter wi)(hclos:closureFor scope X.env=pure cl)(S:pQ X scope cl own outs ixs)
  (hb:∀C s H ex,PG (nM X scope cl (own++outs) C s H ex) tg g/\PF (nM X scope cl (own++outs) C s H ex) ix tif/\PE (nM X scope cl (own++outs) C s H ex) elt te)
  (hs:∀x,foldedSetIterable iter X.env x=pure x:=by intro _;rfl) :
  PE X (.ListComp elt [⟨tg,iter,ix,0⟩] scope pos) (vq X.K wi own.length ixs g tif te):=by
 intro pins s σ H Q I h;rw[eval_ListComp];refine rO (G:=λ_ _ _=>True) hc hi hclos S (λC s H ex _=>hb C s H ex) hs (λ_ _ _ _ _ _=>trivial) I (λa H'=>Q (.ref a) H') (λa C H' s4 m J4 fC hn q=>⟨m,hn,λh' hsb=>?_⟩) h;obtain⟨f0,f1,f2,f3,f4,f5⟩:=fC;exact⟨.ref a,H',J4.turned (t':=s4.toks) (λb o hb e=>hsb.extBut b o hb e) f0 f1 f3 f4 f5,rfl,q⟩
theorem Er{tg iter elt:Expr}{ix:List Expr}{scope:Scope}{pos spos py:Pos}{y:Str}{i:Nat}{wi:TI}{g:TG}{tif:TT}{te:TE}{cl:List (Str×Addr)}{own outs:List Str}{ixs:List Nat}
  (hN:X.N.Nodup)(hy:X.N[i]? = some y)(hx:D6 X.env.scope y)(hc:X.calm=true)(hi:PI X tg iter wi)(hclos:closureFor scope X.env=pure cl)(S:pQ X scope cl own outs ixs)
  (hb:∀C s H ex,PG (nM X scope cl (own++outs) C s H ex) tg g/\PF (nM X scope cl (own++outs) C s H ex) ix tif/\PE (nM X scope cl (own++outs) C s H ex) elt te)
  (hsw:swapsWith (.ListComp elt [⟨tg,iter,ix,0⟩] scope pos) (some (.Name y py)) spos.line X.env=pure true:=by rfl)
  (hs:∀x,foldedSetIterable iter X.env x=pure x:=by intro _;rfl)(hf:X.fn y=true\/X.env.scope.names.lookup y=some .local:=by first|exact .inl rfl|exact .inr rfl|assumption) :
  PS X (.Assign [.Name y py] (.ListComp elt [⟨tg,iter,ix,0⟩] scope pos) spos) (uJ (vq X.K wi own.length ixs g tif te) (ir i)):=by
 intro pins s σ H D I h;rw[exec_Assign_Name_used _ _ _ _ hsw];refine wpAny_bind (wpAny_standAt (wpAny_bind ?_));show wpAny _ X.A (do let _ <-comprehension (.ListComp elt [⟨tg,iter,ix,0⟩] scope pos) scope X.env _ (newList []) false (eval iter X.env) (some (assign (.Name y py) X.env))) _ _ s
 refine wpAny_bind (wpAny_mono (rO (use:=some (assign (.Name y py) X.env)) (Qv:=λ_ s'=>SP X pins D .next s') (G:=λ_ _ _=>True) hc hi hclos S (λC s H ex _=>hb C s H ex) hs (λ_ _ _ _ _ _=>trivial) I (λa H'=>D.nx (σ.set i (some (.ref a))) H') (λa C H' s4 m J4 fC hn q=>?_) h) (λ_ s' hq=>wpAny_pure (wpAny_pure hq)) λ_ _ e=>e)
 obtain⟨f0,f1,f2,f3,f4,f5⟩:=fC;refine wpAny_assign_Name (qZ J4 hN hy hx (v:=.ref a) rfl (λs5 I5 hsame=>?_) hf);obtain⟨b,sb,hb'⟩:=hsame;have nb:C≠b:=λe=>by
  rcases hb' with z|z
  .exact f1 (e.trans z)
  .exact f4 _ _ z e.symm
 exact⟨m,hn.sameBut sb nb,λh' hsb=>⟨_,H',I5.turned (t':=s5.toks) (λb o hb e=>hsb.extBut b o hb e) f0 f1 f3 f4 f5,q⟩⟩
end
theorem Kb{X:Cx}{scope:Scope}{cl:List (Str×Addr)}{N:List Str}{C:Addr}{s:Shared}{H:Hp}{ex:List Addr}:(nM X scope cl N C s H ex).K=X.K:=rfl
mutual
def D.py:D->PyData
 | .non=>.none
 | .bl b=>.bool b
 | .int i=>.int i
 | .str x=>.str x
 | .dict=>.dict []
 | .tup ds=>.tuple (D.pys ds)
 | .lst ds=>.list (D.pys ds)
def D.pys:List D->List PyData
 | []=>[]
 | d::ds=>d.py::D.pys ds
end
def D.cmp(d:D):Prop:=d.py.canLay0=true/\d.py.depth<=30
def F8(d e:D):Bool:=PyData.eqv d.py e.py
section
variable {X:Cx}{pins:List (Addr×Obj)}{σ:St}{H:Hp}{s:Shared}
mutual
theorem aP.reads(I:aM X pins σ H s):∀(d:D)(v:V)(u:Value),aP (vw X.K H) d v->cy v u->d.py.canLay0=true -> ∃as,Reads s.heap u d.py as
 | .non,v,u,h,r,_=>by
  unfold aP at h;subst h;cases r;exact⟨_,by unfold D.py;exact .none⟩
 | .bl b,v,u,h,r,_=>by
  unfold aP at h;subst h;cases r;exact⟨_,by unfold D.py;exact .bool b⟩
 | .int i,v,u,h,r,_=>by
  unfold aP at h;subst h;obtain⟨t,rfl⟩:=r;exact⟨_,by unfold D.py;exact .int i t⟩
 | .str x,v,u,h,r,_=>by
  unfold aP at h;subst h;obtain⟨t,rfl⟩:=r;exact⟨_,by unfold D.py;exact .str x t⟩
 | .dict,v,u,h,r,hc=>by
  unfold D.py PyData.canLay0 at hc;cases hc
 | .tup ds,v,u,h,r,hc=>by
  obtain⟨a,xs,rfl,ha,rs⟩:=h.tup_at;cases r;unfold D.py at hc ⊢;obtain⟨its,rv,p,hz⟩:=I.tuple (jF ha);obtain⟨o,h1,h2,n,h3⟩:=p;obtain⟨as,ra⟩:=aI.reads I ds xs its rs rv (by unfold PyData.canLay0 at hc;exact hc)
  exact⟨_,.tuple h1 h2 h3 (by simpa using ra)⟩
 | .lst ds,v,u,h,r,hc=>by
  obtain⟨a,xs,rfl,ha,rs⟩:=h.lst_at;cases r;unfold D.py at hc ⊢;obtain⟨its,rv,p,hz⟩:=I.list (kQ.of (K:=X.K) (aH ha));obtain⟨o,n,h1,h2,h3,h4⟩:=p;obtain⟨as,ra⟩:=aI.reads I ds xs its rs rv (by unfold PyData.canLay0 at hc;exact hc)
  exact⟨_,.list h1 h2 h4 (by simpa using ra)⟩
theorem aI.reads(I:aM X pins σ H s):∀(ds:List D)(xs:List V)(us:List Value),aI (vw X.K H) ds xs->bC xs us->PyData.canLayAll0 (D.pys ds)=true -> ∃as,ReadsAll s.heap us (D.pys ds) as
 | [],xs,us,h,r,_=>by
  cases h.nil_at;cases r;exact⟨_,by unfold D.pys;exact .nil⟩
 | d::ds,xs,us,h,r,hc=>by
  obtain⟨x,ys,rfl,h1,h2⟩:=h.cons_at;cases r with
  | cons r1 r2 =>
   unfold D.pys PyData.canLayAll0 at hc;rw[YX] at hc;obtain⟨as,ra⟩:=aP.reads I d x _ h1 r1 hc.1;obtain⟨bs,rb⟩:=aI.reads I ds ys _ h2 r2 hc.2;exact⟨_,by unfold D.pys;exact .cons ra rb⟩
end
end
def E9(K:W.Frag)(neg:Bool):R2:=λx y H Q=>∃d e,aP (vw K H) d x/\aP (vw K H) e y/\d.cmp/\e.cmp/\Q (.bl (if neg then !F8 d e else F8 d e)) H
section
variable {X:Cx}
theorem BX(hu:X.A.units+64<cLine):gh X (compareOp .Eq) (E9 X.K false):=by
 intro pins s σ H x y v u Q I rx ry h;obtain⟨d,e,h1,h2,c1,c2,q⟩:=h;obtain⟨as,r1⟩:=aP.reads I d x v h1 rx c1.1;obtain⟨bs,r2⟩:=aP.reads I e y u h2 ry c2.1;exact SeqAt.compareEq_reads r1 r2 c1.1 c2.1 (by have:=c1.2;nofun) ⟨.bl _,H,I,rfl,q⟩
theorem Da(hu:X.A.units+64<cLine):gh X (compareOp .NotEq) (E9 X.K true):=by
 intro pins s σ H x y v u Q I rx ry h;obtain⟨d,e,h1,h2,c1,c2,q⟩:=h;obtain⟨as,r1⟩:=aP.reads I d x v h1 rx c1.1;obtain⟨bs,r2⟩:=aP.reads I e y u h2 ry c2.1;exact SeqAt.compareNe_reads r1 r2 c1.1 c2.1 (by have:=c1.2;nofun) ⟨.bl _,H,I,rfl,q⟩
end
def kB(K:W.Frag)(H:Hp)(a:Addr)(xs:List V):Prop:=(K.lookup a=none/\Rd H a (.lst xs)) \/
 ∃(o:Obj)(its:Array Value)(n:Nat),K.lookup a=some o/\o.cls=.type "list" /\ o.dict=none/\o.data=.seq its n/\its.size<=sizeLine/\bC xs its.toList
theorem kB.sq{K:W.Frag}{H:Hp}{a:Addr}{xs:List V}(h:kB K H a xs):kQ K H a xs:=h.imp (λz=>z.2) λz=>z
theorem kB.of{K:W.Frag}{H:Hp}{a:Addr}{xs:List V}(h:kQ K H a xs)(hk:H a≠none->K.lookup a=none):kB K H a xs:=by
 rcases h with h|h
 .refine .inl ⟨hk ?_,h⟩;rcases h with h|⟨o,h⟩<;>rw[h]<;>simp
 .exact .inr h
theorem kB.same{K:W.Frag}{H H':Hp}{a:Addr}{xs:List V}(h:kB K H a xs)(S:aC (vw K H) (vw K H')):kB K H' a xs:=by
 rcases h with ⟨hk,h⟩|h
 .refine .inl ⟨hk,?_⟩;rcases h with h|⟨o,h⟩
  .have:=S a _ ((eo hk).trans h);rw[eo hk] at this;exact .inl this
  .have:=S a _ ((eo hk).trans h);rw[eo hk] at this;exact .inr ⟨o,this⟩
 .exact .inr h
end L2
namespace L2
open PySem PySem.Spec PyProof.Rows
mutual
def D.flat:D->Bool
 | .lst _=>false
 | .tup ds=>D.flats ds
 | _=>true
def D.flats:List D->Bool
 | []=>true
 | d::ds=>d.flat && D.flats ds
end
section
variable {H H':Hp}{l:Addr}{xs:List V}
mutual
theorem aP.flat_but(hl:H l=some (.lst xs))(S:jg l H H'):∀(d:D)(v:V),d.flat=true->aP H d v->aP H' d v
 | .non,v,_,h=>by unfold aP at h ⊢;exact h
 | .bl b,v,_,h=>by unfold aP at h ⊢;exact h
 | .int i,v,_,h=>by unfold aP at h ⊢;exact h
 | .str x,v,_,h=>by unfold aP at h ⊢;exact h
 | .dict,v,_,h=>by
  unfold aP at h ⊢;obtain⟨a,kvs,rfl,h⟩:=h;exact⟨a,kvs,rfl,S _ _ (λe=>by rw[e,hl] at h;cases h) h⟩
 | .tup ds,v,hf,h=>by
  obtain⟨a,ys,rfl,h,rs⟩:=h.tup_at;unfold D.flat at hf;exact .mk_tup (S _ _ (λe=>by rw[e,hl] at h;cases h) h) (aI.flat_but hl S ds ys hf rs)
 | .lst ds,v,hf,h=>by unfold D.flat at hf;cases hf
theorem aI.flat_but(hl:H l=some (.lst xs))(S:jg l H H'):∀(ds:List D)(ys:List V),D.flats ds=true->aI H ds ys->aI H' ds ys
 | [],ys,_,h=>by cases h.nil_at;exact .mk_nil
 | d::ds,ys,hf,h=>by
  obtain⟨y,r,rfl,h1,h2⟩:=h.cons_at;unfold D.flats at hf;rw[YX] at hf;exact .mk_cons (aP.flat_but hl S d y hf.1 h1) (aI.flat_but hl S ds r hf.2 h2)
end
end
theorem eN(q:Int×Int):(fr q).flat=true:=by simp[fr,D.flat,D.flats]
theorem iW:∀(qs:List (Int×Int)),D.flats (qs.map fr)=true
 | []=>by simp[D.flats]
 | q::qs=>by
  rw[YE];unfold D.flats;rw[eN,iW qs];rfl
theorem aI.app{H:Hp}:∀{ds es:List D}{xs ys:List V},aI H ds xs->aI H es ys->aI H (ds++es) (xs++ys)
 | [],es,xs,ys,h,g=>by cases h.nil_at;exact g
 | d::ds,es,xs,ys,h,g=>by
  obtain⟨x,r,rfl,h1,h2⟩:=h.cons_at;exact .mk_cons h1 (aI.app h2 g)
theorem aI.snoc{H:Hp}{ds:List D}{xs:List V}{d:D}{x:V}(h:aI H ds xs)(g:aP H d x):aI H (ds++[d]) (xs++[x]):=h.app (.mk_cons g .mk_nil)
theorem aI.at{H:Hp}{ds:List D}{xs:List V}(h:aI H ds xs) {i:Nat}{d:D}(hd:ds[i]? = some d):∃x,xs[i]? = some x/\aP H d x:=by
 have hi:i<ds.length:=(List.getElem?_eq_some_iff.mp hd).1;have hi':i<xs.length:=by rw[h.length];exact hi
 obtain⟨d',e,r⟩:=h.get (YK hi');rw[hd] at e;cases e;exact⟨_,YK hi',r⟩
theorem aI.take{H:Hp}:∀{ds:List D}{xs:List V}(n:Nat),aI H ds xs->aI H (ds.take n) (xs.take n)
 | ds,xs,0,h=>by simp;exact .mk_nil
 | [],xs,n+1,h=>by cases h.nil_at;exact .mk_nil
 | d::ds,xs,n+1,h=>by
  obtain⟨x,r,rfl,h1,h2⟩:=h.cons_at;exact .mk_cons h1 (h2.take n)
def aW(G:Hp)(a:Addr)(qs:List (Int×Int)):Prop:=∃xs,G a=some (.lst xs)/\aI G (qs.map fr) xs
section
variable {G G':Hp}{a l:Addr}{qs:List (Int×Int)}{xs:List V}
theorem aW.same(h:aW G a qs)(S:aC G G'):aW G' a qs:=by
 obtain⟨ys,h1,h2⟩:=h;exact⟨ys,S _ _ h1,h2.same S⟩
theorem aW.but(h:aW G a qs)(hl:G l=some (.lst xs))(hn:a≠l)(S:jg l G G'):aW G' a qs:=by
 obtain⟨ys,h1,h2⟩:=h;exact⟨ys,S _ _ hn h1,aI.flat_but hl S _ _ (iW qs) h2⟩
theorem aW.rep(h:aW G a qs):aP G (.lst (qs.map fr)) (.ref a):=by
 obtain⟨ys,h1,h2⟩:=h;exact .mk_lst h1 h2
theorem aW.len(h:aW G a qs):fS G a=some qs.length:=by
 obtain⟨ys,h1,h2⟩:=h;unfold fS;rw[h1];simp only[h2.length,YD]
theorem aW.ne_st{st:Addr}(h:aW G a qs)(hst:gj G st):a≠st:=by
 rintro rfl;obtain⟨ys,h1,h2⟩:=h;obtain⟨x,b,h3,_⟩:=hst;rw[h1] at h3;cases h3;cases qs with
 | nil=>cases h2.nil_at
 | cons q qs =>
  obtain⟨y,r,e,h4,h5⟩:=aI.cons_at h2;cases e;obtain⟨c,e,_⟩:=h4.fr_at;cases e
theorem aW.stBut{st:Addr}(h:aW G a qs)(hst:gj G st)(S:jg st G G'):aW G' a qs:=by
 obtain⟨x,b,h3,_⟩:=hst;exact h.but h3 (h.ne_st ⟨x,b,h3,by assumption⟩) S
theorem gj.but{st:Addr}(h:gj G st)(hl:G l=some (.lst xs))(hn:st≠l)(S:jg l G G'):gj G' st:=by
 obtain⟨x,b,h3,h4⟩:=h;exact⟨x,b,S _ _ hn h3,h4⟩
end
theorem Ap{CX:zT}{P:Program}{w:World}{K:W.Frag}{mg:Str->Option Value}{base:Heap}{N:List Str}{qual:Str}{scope:Scope}{f:Addr}{cd:Value}{A:Around}{outer:List Env}{s:Shared}{H:Hp}{E:XK} :
  (sU CX P w K mg base N qual scope f cd A outer s H E).nox.K=K:=rfl
def Aq(t u:TS):TS:=λD σ H=>∃R:St->Hp->Prop,(∀σ' H',R σ' H'->u D σ' H')/\t { D with nx:=R } σ H
theorem Aq.mk{t u:TS}{D:og}{σ:St}{H:Hp}(R:St->Hp->Prop)(h1:t { D with nx:=R } σ H)(h2:∀σ' H',R σ' H'->u D σ' H'):Aq t u D σ H:=⟨R,h2,h1⟩
theorem Fh{X:Cx}{st:Stmt}{rest:List Stmt}{t u:TS}(h1:PS X st t)(h2:vJ X rest u):vJ X (st::rest) (Aq t u):=by
 rintro pins s σ H D I ⟨R,hR,h⟩;refine wpAny_execs_cons (dH (h1 pins s σ H { D with nx:=R } I h) λf s1 q=>?_)
 cases f with
 | next =>
  obtain⟨σ',H',I',q⟩:=q;exact h2 pins s1 σ' H' D I' (hR _ _ q)
 | ret v=>exact q
 | brk=>exact q
 | cont=>exact q
def qC(J:It)(H:Hp)(its:List V):Prop:=(∀i,i<its.length->J.go i H)/\(∀i x H',i<its.length->J.yld i H x H'->H'=H/\its[i]? = some x)/\J.stop its.length H
def eX(lo:Int)(n:Nat):List V:=(List.range n).map λ(k:Nat)=>V.int (lo+k)
theorem bH{lo:Int}{n:Nat}{H:Hp}:qC (JY lo n) H (eX lo n):=by
 refine⟨λi hi=>by show i<n;simpa [eX] using hi,λi x H' hi y=>⟨y.1,?_⟩,by show n<=(eX lo n).length;simp[eX]⟩
 have hi':i<n:=by simpa [eX] using hi
 rw[y.2];simp[eX,hi']
theorem aT{K:W.Frag}{H:Hp}{a:Addr}{xs:List V}(h:vw K H a=some (.lst xs)):qC (Lr K a) H xs :=
 ⟨λi hi=>⟨xs,xs[i],.of (aH h),by simp[hi]⟩,λi x H' _ y=>⟨y.1,y.2 xs (.of (aH h))⟩,⟨xs,.of (aH h),Yq _⟩⟩
theorem bJ{J:It}{its:List V}{g:TG}{tb:TS}{D:og}{σ:St}{H:Hp}(Pv:Nat->St->Hp->Prop)(hl:∀i σ H,i<=its.length->Pv i σ H->qC J H its)(h0:Pv 0 σ H)
  (hs:∀i x σ H,i<its.length->its[i]? = some x->Pv i σ H->g x σ H λσ2 H2=>tb { D with nx:=Pv (i+1),ct:=Pv (i+1),bk:=D.nx } σ2 H2)(hd:∀σ H,Pv its.length σ H->D.nx σ H):Ba J g tb D σ H:=by
 refine⟨λi m σ H=>m=its.length-i/\i<=its.length/\Pv i σ H,⟨its.length,by simp,YS _,h0⟩,?_⟩
 rintro i m σ H ⟨rfl,hi,p⟩;obtain⟨q1,q2,q3⟩:=hl i σ H hi p;by_cases hlt:i<its.length
 .refine .inr ⟨q1 i hlt,Pv (i+1),λσ' H' p'=>⟨its.length-(i+1),(),rfl,hlt,p'⟩,λx H' y=>?_⟩;obtain⟨e,y2⟩:=q2 i x H' hlt y;subst e;exact hs i x σ _ hlt y2 p
 .have e:i=its.length:=();subst e;exact .inl ⟨q3,hd σ H p⟩
def CN(K:W.Frag)(a:Addr)(σr:St)(Pv:List V->Hp->Prop):St->Hp->Prop:=λσ H=>(∃y,σ=y::σr) /\ ∃xs,vw K H a=some (.lst xs)/\Pv xs H
def Hh(K:W.Frag)(a:Addr)(N:Hp->Prop):V->Hp->Prop:=λv H4=>∃xs,vw K H4 a=some (.lst xs)/\xs.length<sizeLine /\ ∀H5,jg a (vw K H4) (vw K H5)->vw K H5 a=some (.lst (xs++[v]))->N H5
theorem aY{K:W.Frag}{J:It}{its:List V}{tif:TT}{te:TE}{a:Addr}{x0:Option V}{σr:St}{H0:Hp}{Q:Hp->Prop}(Pv:Nat->List V->Hp->Prop)
  (hl:∀i xs H,i<=its.length->vw K H a=some (.lst xs)->Pv i xs H->qC J H its)(ha:vw K H0 a=some (.lst []))(h0:Pv 0 [] H0)
  (hs:∀i x xs H,i<its.length->its[i]? = some x->vw K H a=some (.lst xs)->Pv i xs H->tif (some x::σr) H λb H3=>if b=true then te (some x::σr) H3 (Hh K a (CN K a σr (Pv (i+1)) (some x::σr))) else CN K a σr (Pv (i+1)) (some x::σr) H3)
  (hd:∀xs H,vw K H a=some (.lst xs)->Pv its.length xs H->Q H):mP K J (ir 0) tif te a (x0::σr) H0 Q:=by
 refine⟨λi m σ H=>m=its.length-i/\i<=its.length/\CN K a σr (Pv i) σ H,⟨its.length,by simp,YS _,⟨_,rfl⟩,_,ha,h0⟩,?_⟩
 rintro i m σ H ⟨rfl,hi,⟨y,rfl⟩,xs,hxs,p⟩;obtain⟨q1,q2,q3⟩:=hl i xs H hi hxs p;by_cases hlt:i<its.length
 .refine .inr ⟨q1 i hlt,CN K a σr (Pv (i+1)),λσ' H' p'=>⟨its.length-(i+1),(),rfl,hlt,p'⟩,λx H' y=>?_⟩;obtain⟨e,y2⟩:=q2 i x H' hlt y;subst e;exact hs i x xs _ hlt y2 hxs p
 .have e:i=its.length:=();subst e;exact .inl ⟨q3,hd xs H hxs p⟩
theorem Hh.mk{K:W.Frag}{a:Addr}{σr:St}{Pv:List V->Hp->Prop}{x:Option V}{v:V}{H:Hp}{xs:List V}(h:vw K H a=some (.lst xs))(hz:xs.length<sizeLine)
  (q:∀H5,jg a (vw K H) (vw K H5)->vw K H5 a=some (.lst (xs++[v]))->Pv (xs++[v]) H5):Hh K a (CN K a σr Pv (x::σr)) v H:=⟨xs,h,hz,λH5 B h5=>⟨⟨_,rfl⟩,_,h5,q H5 B h5⟩⟩
theorem CN.mk{K:W.Frag}{a:Addr}{σr:St}{Pv:List V->Hp->Prop}{x:Option V}{H:Hp}{xs:List V}(h:vw K H a=some (.lst xs))(q:Pv xs H):CN K a σr Pv (x::σr) H:=⟨⟨_,rfl⟩,_,h,q⟩
theorem dP{lo:Int}{n i:Nat}{x:V}(h:(eX lo n)[i]? = some x):i<n/\x=.int (lo+i):=by
 have hi:i<n:=by simpa [eX] using (List.getElem?_eq_some_iff.mp h).1
 simp[eX,hi] at h;exact⟨hi,h.symm⟩
theorem dk{lo:Int}{n:Nat}:(eX lo n).length=n:=by simp[eX]
theorem yT{n d:Nat}{k:Nat}(h:k<=n):HT.sIx n d (some (k:Int))=k:=by
 unfold HT.sIx;simp only[Int.toNat_natCast];rw[Yc ()];nofun
theorem wo{xs:List V}{k:Nat}(h:k<=xs.length):qB xs none (some (k:Int))=xs.take k:=by
 unfold qB;rw[yT h];simp[HT.sIx]
theorem iK{α:Type}{xs:List α}{x:α}(h:xs.getLast? = some x):jo xs (-1)=some x:=by
 obtain⟨ys,rfl⟩:=List.getLast?_eq_some_iff.mp h;exact Bn ys x
def KD(K:W.Frag)(neg:Bool):R2:=λx y H Q=>∃p q,x=.ref p/\y=.ref q /\ ∃xs,vw K H p=some (.lst xs)/\vw K H q=some (.lst [])/\Q (.bl (if neg then !xs.isEmpty else xs.isEmpty)) H
theorem gX.u64{k:Nat}{A:Around}(r:gX k A):A.units+64<cLine:=by have:=r.un;nofun
theorem IE(p q:Int×Int):F8 (fr p) (fr q)=decide (p=q):=by
 unfold F8 fr D.py D.pys D.pys D.pys D.py;simp only[PyData.eqv,PyData.eqvAll];rw[Bool.eq_iff_iff];simp[Prod.ext_iff]
theorem A5(q:Int×Int):(fr q).cmp:=by
 unfold D.cmp fr D.py D.pys D.pys D.pys D.py;exact⟨rfl,Nat.le_of_ble_eq_true rfl⟩
def GT(K:W.Frag)(mg:Str->Option Value)(x:Str)(xs:List V):Prop:=∃a,mg x=some (.ref a) /\ ∀H,vw K H a=some (.tup xs)
theorem GT.mk{K:W.Frag}{mg:Str->Option Value}{x:Str}{a:Addr}{o:Obj}{xs:List V}(h:mg x=some (.ref a))(hl:K.lookup a=some o)(hk:xm o=some (.tup xs)):GT K mg x xs :=
 ⟨a,h,λH=>by unfold vw;rw[hl];exact hk⟩
theorem bQ{H:Hp}{a:Addr}{i j:Int}(h:H a=some (.tup [.int i,.int j])):aP H (fr (i,j)) (.ref a):=.mk_tup h (.mk_cons (.mk_int _) (.mk_cons (.mk_int _) .mk_nil))
end L2
namespace L2
open PySem PySem.Spec PyProof.Rows
theorem aI.repl{H:Hp}{d:D}{x:V}(h:aP H d x):∀n,aI H (List.replicate n d) (List.replicate n x)
 | 0=>.mk_nil
 | n+1=>.mk_cons h (aI.repl h n)
theorem aC.rfl{H:Hp}:aC H H:=λ_ _ z=>z
end L2
set_option autoImplicit true
namespace L2
open PySem PySem.Spec PyProof.Rows
structure QE (X:Cx)(e:Expr)(t:TE):Prop where
 h:PE X e t
structure QT (X:Cx)(e:Expr)(t:TT):Prop where
 h:PT X e t
structure QW (X:Cx)(e:Expr)(t:TT):Prop where
 h:PW X e t
structure QA (X:Cx)(e:List Expr)(t:TA):Prop where
 h:PA X e t
structure QS (X:Cx)(e:Stmt)(t:TS):Prop where
 h:PS X e t
structure Bx (X:Cx)(e:List Stmt)(t:TS):Prop where
 h:vJ X e t
structure QG (X:Cx)(e:Expr)(t:TG):Prop where
 h:PG X e t
structure Ln (X:Cx)(e:List Expr)(t:AS):Prop where
 h:JX X e t
structure QF (X:Cx)(e:List Expr)(t:TT):Prop where
 h:PF X e t
structure QO (X:Cx)(e:Option Expr)(t:TO):Prop where
 h:PO X e t
structure QI (X:Cx)(tg e:Expr)(t:TI):Prop where
 h:PI X tg e t
section
variable {X:Cx}{pos p p2 apos cpos pos':Pos}{a b e o l:Expr}{es rest:List Expr}{te ta tb to:TE}{tA tB':TT}{st:Stmt}{rest':List Stmt}{lo hi:Option Expr}{id:String}
theorem jE {b j pos}:QE X (.Constant (.bool b) j pos) (tC (.bl b)):=⟨Kj ⟩
theorem af {i j pos}:QE X (.Constant (.int i) j pos) (tC (.int i)):=⟨JD ⟩
theorem CI {j pos}:QE X (.Constant .none j pos) (tC .non):=⟨IB ⟩
theorem ku{x:Str}{v:V}{u:Value}{pos:Pos}(hg:Gl X x)(hm:X.mg x=some u)(r:cy v u)(hd:(x==("__debug__" : Str))=false:=by decide):QE X (.Name x pos) (tC v):=⟨Fm (hg:=hg) (hm:=hm) (r:=r) (hd:=hd)⟩
theorem iz{x:Str}{v:V}{u:Value}{pos:Pos}(hg:Gl X x)(hm:X.mg x=none)(hv:bootBuiltins x=some u)(r:cy v u)(hn:x ≠ "__name__":=by decide) (hd:(x==("__debug__" : Str))=false:=by decide):QE X (.Name x pos) (tC v):=⟨D8 (hg:=hg) (hm:=hm) (hv:=hv) (r:=r) (hn:=hn) (hd:=hd)⟩
theorem ar{op:Operator}{r:R2}(ho:gh X (binaryOp op) r)(ha:QE X a ta)(hb:QE X b tb):QE X (.BinOp a op b pos) (D3 r ta tb):=⟨KG (ho:=ho) (ha:=ha.h) (hb:=hb.h)⟩
theorem io{op:UnaryOp}{r:V->Hp->VK->Prop}(ho:K8 X (unaryOp op) r)(ha:QE X a ta):QE X (.UnaryOp op a pos) (LJ r ta):=⟨KP (ho:=ho) (ha:=ha.h)⟩
theorem Ji(ha:QE X a ta)(hb:QE X (.BoolOp .And (b::rest) pos) tb):QE X (.BoolOp .And (a::b::rest) pos) (zp ta tb):=⟨HK (ha:=ha.h) (hb:=hb.h)⟩
theorem Ih {op}{t:TE}(h:QE X a t):QE X (.BoolOp op [a] pos) t:=⟨IM (h:=h.h)⟩
theorem yU{op:CmpOp}{r:R2}(ho:gh X (compareOp op) r)(ha:QE X a ta)(hb:QE X b tb)(hm:behindInMarks op b=false):QE X (.Compare a [op] [b] pos) (D3 r ta tb):=⟨Fa (ho:=ho) (ha:=ha.h) (hb:=hb.h) (hm:=hm)⟩
theorem lj{c:Expr}(hc:QT X c tA)(ha:QE X a ta)(hb:QE X b tb):QE X (.IfExp c a b pos) (LO tA ta tb):=⟨BH (hc:=hc.h) (ha:=ha.h) (hb:=hb.h)⟩
theorem aN {x1}(h:QA X es t):QE X (.Tuple es x1 pos) (xY X.K t):=⟨F3 (h:=h.h)⟩
theorem bY(h:QA X es t):QE X (.List es pos) (DM X.K t):=⟨Fe (h:=h.h)⟩
theorem qK{r:V->Option Int->Option Int->Hp->VK->Prop}(hr:D4 X r)(he:QE X e te)(hl:QO X lo tl)(hu:QO X hi th):QE X (.Subscript e (.Slice lo hi none p2) pos) (LF r te tl th):=⟨C3 (hr:=hr) (he:=he.h) (hl:=hl.h) (hu:=hu.h)⟩
theorem t7  : QO X none sJ:=⟨Ef ⟩
theorem tX(h:QE X e te):QO X (some e) (yX te):=⟨Gn (h:=h.h)⟩
theorem ay{r:R2}(hr:AT X r)(ha:QE X a ta)(hb:QE X b tb)(hs:zK b):QE X (.Subscript a b pos) (D3 r ta tb):=⟨KW (hr:=hr) (ha:=ha.h) (hb:=hb.h) (hs:=hs)⟩
theorem ao(C:aZ X.prog X.w X.K X.mg X.base x ps k sp)(hr:gX k X.A)(hg:Gl X x)(ha:QA X (e::es) t)(hdb:(x==("__debug__" : Str))=false:=by decide) (he:starEach (e::es) X.env=(false,eval e X.env)::starEach es X.env:=by rfl)(hpl:(backTo pos (starEach es X.env)).any (·.1)=false:=by rfl) :
  QE X (.Call (.Name x p) (e::es) [] pos) (Ci sp t):=⟨HS (C:=C) (hr:=hr) (hg:=hg) (ha:=ha.h) (hdb:=hdb) (he:=he) (hpl:=hpl)⟩
theorem aw(hc:eV X (.builtin id) r)(hg:Gl X x)(hm:X.mg x=none)(hv:bootBuiltins x=some (.builtin id))(ha:QA X (e::es) t)(hn:x ≠ "__name__":=by decide) (hdb:(x==("__debug__" : Str))=false:=by decide) (he:starEach (e::es) X.env=(false,eval e X.env)::starEach es X.env:=by rfl)(hpl:(backTo pos (starEach es X.env)).any (·.1)=false:=by rfl):QE X (.Call (.Name x p) (e::es) [] pos) (Fv r t):=⟨DP (hc:=hc) (hg:=hg) (hm:=hm) (hv:=hv) (ha:=ha.h) (hn:=hn) (hdb:=hdb) (he:=he) (hpl:=hpl)⟩
theorem hV(hc:eV X (.type T) r)(hg:Gl X x)(hm:X.mg x=none)(hv:bootBuiltins x=some (.type T))(ha:QA X (e::es) t)(hn:x ≠ "__name__":=by decide) (hdb:(x==("__debug__" : Str))=false:=by decide) (he:starEach (e::es) X.env=(false,eval e X.env)::starEach es X.env:=by rfl)(hpl:(backTo pos (starEach es X.env)).any (·.1)=false:=by rfl):QE X (.Call (.Name x p) (e::es) [] pos) (Fv r t):=⟨AN (hc:=hc) (hg:=hg) (hm:=hm) (hv:=hv) (ha:=ha.h) (hn:=hn) (hdb:=hdb) (he:=he) (hpl:=hpl)⟩
theorem yA(pa:PlainAttrs T)(slot:Slot T name id)(hty:typeOf (.builtin id)=pure (.type "method_descriptor")) (hm:K7 X id r)(ho:QE X o to)(ha:QA X (e::es) t)(hbase:attributeBase o name X.env (eval o X.env)=eval o X.env:=by rfl)(hfew:((backTo cpos (starEach (e::es) X.env)).all (λx=>!x.1) && (backToKw cpos (keywordEach [] X.env)).all (λx=>x.1.isSome)
   && decide ((e::es).length+([]:List Keyword).length+(if ([]:List Keyword).isEmpty then 0 else 1)<30))=true:=by rfl) (hline:(apos.endLine==cpos.line)=true:=by rfl)(hs:starEach (e::es) X.env=(false,eval e X.env)::starEach es X.env:=by rfl)(hplain:(backTo cpos (starEach es X.env)).any (·.1)=false:=by rfl) :
  QE X (.Call (.Attribute o name apos) (e::es) [] cpos) (LL X.K T r to t):=⟨K6 (pa:=pa) (slot:=slot) (hty:=hty) (hm:=hm) (ho:=ho.h) (ha:=ha.h) (hbase:=hbase) (hfew:=hfew) (hline:=hline) (hs:=hs) (hplain:=hplain)⟩
theorem xa(pa:PlainAttrs T)(slot:Slot T name id)(hty:typeOf (.builtin id)=pure (.type "method_descriptor")) (hm:K7 X id r)(ho:QE X o to)(hbase:attributeBase o name X.env (eval o X.env)=eval o X.env:=by rfl)(hline:(apos.endLine==cpos.line)=true:=by rfl):QE X (.Call (.Attribute o name apos) [] [] cpos) (Jm X.K T r to):=⟨Ja (pa:=pa) (slot:=slot) (hty:=hty) (hm:=hm) (ho:=ho.h) (hbase:=hbase) (hline:=hline)⟩
theorem ae  : QA X [] zS:=⟨Jc ⟩
theorem aa(ha:QE X e te)(hr:QA X es t)(hs:starEach (e::es) X.env=(false,eval e X.env)::starEach es X.env:=by rfl):QA X (e::es) (nU te t):=⟨Fl (ha:=ha.h) (hr:=hr.h) (hs:=hs)⟩
theorem aO{op:CmpOp}{r:R2}(ho:gh X (compareOp op) r)(ha:QE X a ta)(hb:QE X b tb)(hm:behindInMarks op b=false):QT X (.Compare a [op] [b] pos) (yg (D3 r ta tb)):=⟨FS (ho:=ho) (ha:=ha.h) (hb:=hb.h) (hm:=hm)⟩
theorem jS(ha:QT X a tA):QT X (.UnaryOp .Not a pos) (HX tA):=⟨JJ (ha:=ha.h)⟩
theorem QW.pt{X:Cx}{e:Expr}{t:TT}(h:QW X e t):QT X e t:=⟨PW.pt (h:=h.h)⟩
theorem sA(ha:QT X a tA):QW X (.BoolOp .And [a] pos) tA:=⟨Fy (ha:=ha.h)⟩
theorem wJ(ha:QT X a tA)(hb:QW X (.BoolOp .And (b::rest) pos) tB'):QW X (.BoolOp .And (a::b::rest) pos) (Hq tA tB'):=⟨IT (ha:=ha.h) (hb:=hb.h)⟩
theorem oY(ha:QT X a tA):QW X (.BoolOp .Or [a] pos) tA:=⟨Jp (ha:=ha.h)⟩
theorem u5(ha:QT X a tA)(hb:QW X (.BoolOp .Or (b::rest) pos) tB'):QW X (.BoolOp .Or (a::b::rest) pos) (L6 tA tB'):=⟨KE (ha:=ha.h) (hb:=hb.h)⟩
theorem gC(ha:QE X a ta)(he:∀whole,isTrue a X.env whole=(do let v <-whole;standAt a.pos;holding [v] (truthy v))) :
  QT X a (λσ H Q=>ta σ H λx H'=>∃k,AH X.K x H' k/\Q k H'):=⟨CJ (ha:=ha.h) (he:=he)⟩
theorem oZ{e:Expr}{t:TE}(h:QE X e t)(he:∀whole,isTrue e X.env whole=(do let v <-whole;standAt e.pos;holding [v] (truthy v)):=by intro _;rfl):QT X e (tB t):=⟨Jn (h:=h.h) (he:=he)⟩
theorem au{i:Nat}{x:Str}(hN:X.N.Nodup)(hi:X.N[i]? = some x)(hx:D6 X.env.scope x)(hf:X.fn x=true\/X.env.scope.names.lookup x=some .local:=by first|exact .inl rfl|exact .inr rfl|assumption):QG X (.Name x pos) (ir i):=⟨Gb (hN:=hN) (hi:=hi) (hx:=hx) (hf:=hf)⟩
theorem cI{es:List Expr}{k:Nat}{t:AS}{n:Nat}{pos:Pos}(hc:X.calm=true)(h:Ln X es t)(hn:(assignEach es X.env).length=n:=by rfl)(hst:(assignEach es X.env).findIdx? (·.1)=none:=by rfl):QG X (.Tuple es k pos) (nZ X.K n t):=⟨Gr (hc:=hc) (h:=h.h) (hn:=hn) (hst:=hst)⟩
theorem cK  : Ln X [] wr:=⟨ES ⟩
theorem aD{e:Expr}{es:List Expr}{t:TG}{u:AS}(h1:QG X e t)(h2:Ln X es u)(hs:(assignEach (e::es) X.env).map (·.2)=assign e X.env::(assignEach es X.env).map (·.2):=by rfl):Ln X (e::es) (kH t u):=⟨CT (h1:=h1.h) (h2:=h2.h) (hs:=hs)⟩
theorem qj{o i:Expr}{to ti:TE}{t:wf}(ho:QE X o to)(hi:QE X i ti)(hs:Ax X t)(ha:∀v,assign (.Subscript o i pos) X.env v=(do
   let ov <-holding [v] (eval o X.env)
   let iv <-holding [v,ov] (eval i X.env)
   standAt pos
   holding [v,ov,iv] (setItem ov iv v)
   release [v,ov,iv] []):=by intro _;rfl):QG X (.Subscript o i pos) (Hv to ti t):=⟨JR (ho:=ho.h) (hi:=hi.h) (hs:=hs) (ha:=ha)⟩
theorem cL{a:Expr}{ta:TA}{p pos:Pos}(hg:Gl X "range") (hm:X.mg "range" = none) (ha:QA X [a] ta)(hs:starEach [a] X.env=[(false,eval a X.env)]:=by rfl):QI X tg (.Call (.Name "range" p) [a] [] pos) (yM ta):=⟨zW (hg:=hg) (hm:=hm) (ha:=ha.h) (hs:=hs)⟩
theorem rJ{a b:Expr}{ta:TA}{p pos:Pos}(hg:Gl X "range") (hm:X.mg "range" = none) (ha:QA X [a,b] ta)(hs:starEach [a,b] X.env=[(false,eval a X.env),(false,eval b X.env)]:=by rfl)(hs2:starEach [b] X.env=[(false,eval b X.env)]:=by rfl) :
  QI X tg (.Call (.Name "range" p) [a,b] [] pos) (DJ ta):=⟨AD (hg:=hg) (hm:=hm) (ha:=ha.h) (hs:=hs) (hs2:=hs2)⟩
theorem cF{l:Expr}{tl:TE}(hl:QE X l tl):QI X tg l (zu X.K tl):=⟨Eo (hl:=hl.h)⟩
theorem aB(he:QE X e te):QS X (.Return (some e) pos) (IX te):=⟨IQ (he:=he.h)⟩
theorem lD(he:QE X e te)(hs:swapsWith e none pos.line X.env=pure false:=by rfl):QS X (.Expr e pos) (Df te):=⟨Fk (he:=he.h) (hs:=hs)⟩
theorem du{c:Expr}{a b:List Stmt}{tc:TT}(hc:QT X c tc)(ha:Bx X a t)(hb:Bx X b u):QS X (.If c a b pos) (Ho tc t u):=⟨Kn (hc:=hc.h) (ha:=ha.h) (hb:=hb.h)⟩
theorem gA{c:Expr}{body:List Stmt}{tc:TT}{tb:TS}(hp:PassesOwn (model X.prog X.w) X.A X.env X.xe)(hc:QT X c tc)(hb:Bx X body tb):QS X (.While c body [] pos) (nj tc tb):=⟨BV (hp:=hp) (hc:=hc.h) (hb:=hb.h)⟩
theorem cZ{iter:Expr}{body:List Stmt}{wi:TI}{g:TG}{tb:TS}{pos:Pos}(hp:PassesOwn (model X.prog X.w) X.A X.env X.xe)(hc:X.calm=true)(hi:QI X tg iter wi)(hg:QG X tg g)(hb:Bx X body tb)(hs:∀x,foldedSetIterable iter X.env x=pure x:=by intro _;rfl):QS X (.For tg iter body [] pos) (HA wi g tb):=⟨II (hp:=hp) (hc:=hc) (hi:=hi.h) (hg:=hg.h) (hb:=hb.h) (hs:=hs)⟩
theorem av{i:Nat}{x:Str}{e:Expr}{te:TE}{pos':Pos}(hN:X.N.Nodup)(hi:X.N[i]? = some x)(hx:D6 X.env.scope x)(he:QE X e te)(hs:swapsWith e (some (.Name x pos')) pos.line X.env=pure false:=by rfl)(hf:X.fn x=true\/X.env.scope.names.lookup x=some .local:=by first|exact .inl rfl|exact .inr rfl|assumption) :
  QS X (.Assign [.Name x pos'] e pos) (uJ te (ir i)):=⟨HW (hN:=hN) (hi:=hi) (hx:=hx) (he:=he.h) (hs:=hs) (hf:=hf)⟩
theorem tW{i j:Nat}{x y:Str}{a b:Expr}{ta:TA}{px py pt:Pos} {kt k2 pt2}(hc:X.calm=true)(hN:X.N.Nodup)(hi:X.N[i]? = some x)(hj:X.N[j]? = some y)(hij:i≠j)(hx:X.env.scope.names.lookup x=some .local)(hy:X.env.scope.names.lookup y=some .local)(ha:QA X [a,b] ta)(hw:swappedStores [.Tuple [.Name x px,.Name y py] kt pt] (.Tuple [a,b] k2 pt2) X.env=pure (some [x,y]))(hs:swapsWithSole [.Tuple [.Name x px,.Name y py] kt pt] (.Tuple [a,b] k2 pt2) pos.line X.env=pure false:=by rfl) :
  QS X (.Assign [.Tuple [.Name x px,.Name y py] kt pt] (.Tuple [a,b] k2 pt2) pos) (Ei i j ta):=⟨Ib (hc:=hc) (hN:=hN) (hi:=hi) (hj:=hj) (hij:=hij) (hx:=hx) (hy:=hy) (ha:=ha.h) (hw:=hw) (hs:=hs)⟩
theorem ei{tg e:Expr}{te:TE}{g:TG}(he:QE X e te)(hg:QG X tg g)(hs:swapsWithSole [tg] e pos.line X.env=pure false:=by rfl)(hw:swappedStores [tg] e X.env=pure none:=by rfl)(h1:(assignEach [tg] X.env).map (·.2)=[assign tg X.env]:=by rfl):QS X (.Assign [tg] e pos) (uJ te g):=⟨JO (he:=he.h) (hg:=hg.h) (hs:=hs) (hw:=hw) (h1:=h1)⟩
theorem i7{i:Nat}{x:Str}{e:Expr}{te:TE}{op:Operator}{ti:D5}{pos':Pos}(hN:X.N.Nodup)(hi:X.N[i]? = some x)(hx:D6 X.env.scope x)(he:QE X e te)(ho:Gx X op ti)(hf:X.fn x=true\/X.env.scope.names.lookup x=some .local:=by first|exact .inl rfl|exact .inr rfl|assumption) :
  QS X (.AugAssign (.Name x pos') op e pos) (JI i te ti):=⟨JK (hN:=hN) (hi:=hi) (hx:=hx) (he:=he.h) (ho:=ho) (hf:=hf)⟩
theorem ze{o i e:Expr}{to ti te:TE}{tget:V->V->Hp->VK->Prop}{tip:D5}{tset:wf}{op:Operator}{tpos:Pos}(ho:QE X o to)(hi:QE X i ti)(hg:Ju X tget)(he:QE X e te)(hp:Gx X op tip)(hs:Ax X tset)(ha:∀ov iv new,augStore i ov iv new=(do holding [new,ov,iv] (setItem ov iv new);release [new,ov,iv] [];pure .next):=by intros;rfl):QS X (.AugAssign (.Subscript o i tpos) op e pos) (xK to ti te tget tip tset):=⟨Ff (ho:=ho.h) (hi:=hi.h) (hg:=hg) (he:=he.h) (hp:=hp) (hs:=hs) (ha:=ha)⟩
theorem bK  : Bx X [] Ck:=⟨ET ⟩
theorem aj(h1:QS X st t):Bx X [st] t:=⟨Fp (h1:=h1.h)⟩
theorem ag(h1:QS X st t)(h2:Bx X rest' u):Bx X (st::rest') (aU t u):=⟨Cd (h1:=h1.h) (h2:=h2.h)⟩
theorem ym{X:Cx}{st:Stmt}{rest':List Stmt}{t u:TS}(h1:QS X st t)(h2:Bx X rest' u):Bx X (st::rest') (Aq t u):=⟨Fh (h1:=h1.h) (h2:=h2.h)⟩
theorem ez{X:Cx}:QF X [] Em:=⟨HZ ⟩
theorem wT{X:Cx}{c:Expr}{t:TT}(h:QT X c t):QF X [c] t:=⟨Ij (h:=h.h)⟩
theorem qv(i:Nat){x:Str}{pos:Pos}(hN:X.N[i]? = some x:=by rfl)(hv:KQ X.env.scope x:=by first|exact Or.inl rfl|exact Or.inr (Or.inl rfl)|exact Or.inr (Or.inr rfl))(hd:(x==("__debug__" : Str))=false:=by decide) (hcd:(x==("__classdict__" : Str))=false:=by decide):QE X (.Name x pos) (Gg i):=⟨pv (i:=i) (hN:=hN) (hv:=hv) (hd:=hd) (hcd:=hcd)⟩
theorem dS{tg iter elt:Expr}{ix:List Expr}{scope:Scope}{wi:TI}{g:TG}{tif:TT}{te:TE}{cl:List (Str×Addr)}{own outs:List Str}{ixs:List Nat}
  (hc:X.calm=true)(hi:QI X tg iter wi)(hclos:closureFor scope X.env=pure cl)(S:pQ X scope cl own outs ixs)
  (hb:∀C s H ex,QG (nM X scope cl (own++outs) C s H ex) tg g/\QF (nM X scope cl (own++outs) C s H ex) ix tif/\QE (nM X scope cl (own++outs) C s H ex) elt te)
  (hs:∀x,foldedSetIterable iter X.env x=pure x:=by intro _;rfl):QE X (.ListComp elt [⟨tg,iter,ix,0⟩] scope pos) (vq X.K wi own.length ixs g tif te) :=
 ⟨Fd hc hi.h hclos S (λC s H ex=>⟨(hb C s H ex).1.h,(hb C s H ex).2.1.h,(hb C s H ex).2.2.h⟩) hs⟩
theorem jY{tg iter elt:Expr}{ix:List Expr}{scope:Scope}{spos py:Pos}{y:Str}{i:Nat}{wi:TI}{g:TG}{tif:TT}{te:TE}{cl:List (Str×Addr)}{own outs:List Str}{ixs:List Nat}
  (hN:X.N.Nodup)(hy:X.N[i]? = some y)(hx:D6 X.env.scope y)(hc:X.calm=true)(hi:QI X tg iter wi)(hclos:closureFor scope X.env=pure cl)(S:pQ X scope cl own outs ixs)
  (hb:∀C s H ex,QG (nM X scope cl (own++outs) C s H ex) tg g/\QF (nM X scope cl (own++outs) C s H ex) ix tif/\QE (nM X scope cl (own++outs) C s H ex) elt te)
  (hsw:swapsWith (.ListComp elt [⟨tg,iter,ix,0⟩] scope pos) (some (.Name y py)) spos.line X.env=pure true:=by rfl)
  (hs:∀x,foldedSetIterable iter X.env x=pure x:=by intro _;rfl)(hf:X.fn y=true\/X.env.scope.names.lookup y=some .local:=by first|exact .inl rfl|exact .inr rfl|assumption) :
  QS X (.Assign [.Name y py] (.ListComp elt [⟨tg,iter,ix,0⟩] scope pos) spos) (uJ (vq X.K wi own.length ixs g tif te) (ir i)) :=
 ⟨Er hN hy hx hc hi.h hclos S (λC s H ex=>⟨(hb C s H ex).1.h,(hb C s H ex).2.1.h,(hb C s H ex).2.2.h⟩) hsw hs hf⟩
end
section
variable {P:Program}{w:World}{K:W.Frag}{mg:Str->Option Value}{base:Heap}
theorem fy.okQ{x qual:Str}{st:Stmt}{f:Addr}{fd:FuncData}{N ps:List Str}{k:Nat}{sp:Sp}(F:fy K x qual st f fd)(S:aA N ps (ah st))(len:∀vs H Q E,sp vs H Q E->vs.length=ps.length)
  (hbody:∀(cdv:Value)(A:Around)(outer:List Env)(s:Shared)(H:Hp)(vs:List V)(Q:VK)(E:XK),gX k (A.deeper (envOfC qual (ah st) s.heap.objs.size f cdv))->sp vs H Q E ->
   ∃t,Bx (sU fk P w K mg base N qual (ah st) f cdv A outer s H E).nox (ax st) t/\t { nx:=λ_ H'=>Q .non H',rt:=Q } (start N vs) H):bZ P w K mg base fk (k+1) f fd ps sp :=
 F.ok S len λcdv A outer s H vs Q E hr h=>(hbody cdv A outer s H vs Q E hr h).imp λt z=>⟨z.1.h,z.2⟩
end
section
variable {X:Cx}{pins:List (Addr×Obj)}{σ:St}{H:Hp}{s:Shared}{h':Heap}
theorem aM.turnT{t':Nat}{ch:List Addr}{T:Addr}{xs:List V}{its:List Value}(I:aM X pins σ H s)(k:∀b o,b∉ch->s.heap.get? b=some o->h'.get? b=some o)(hf:∀b∈ch,mR X pins H b)
  (hT:s.heap.objs.size<=T)(hz:xs.length<=sizeLine)(rv:bC xs its)(ht:IsTup h' T its.toArray):aM X pins σ (upd H T (.tup xs)) { s with heap:=h',toks:=t' }:=by
 have hn:H T=none:=I.hok.fresh hT;have nT:∀b o,s.heap.get? b=some o->b≠T:=λb o e=>Yf (Yd (Heap.lt_size e) hT);refine I.step (g':=s.gens) (d':=s.drawn) (ch:=ch) (λb hb=>?_) (λb o _ _ hc e _=>k b o hc e) (λb o _ _ hc e _=>⟨o.slots,k b o hc e⟩) (λb o _ e n=>?_)
  (λb o hc e=>⟨o,k b o hc e⟩) (λb ys e=>?_) (λb o u e=>?_) (λb ps e=>⟨#[],?_⟩) (λm hm=>?_) (λb u e=>?_) I.bare
 .obtain⟨_,f1,_,f3,f4,f5⟩:=hf b hb;exact⟨f3,f1,f4,f5⟩
 .rw[cE (nT b o e)];exact n
 .rw[cE (ak e hn)];exact e
 .rw[cE (ak e hn)];exact e
 .rw[cE (ak e hn),e];simp
 .obtain⟨o,es,ep,ho,r⟩:=hm;exact⟨o,es,ep,k _ o (λz=>(hf _ z).2.1 rfl) ho,r⟩
 .by_cases hb:b=T
  .subst hb;rw[dA] at e;cases e;exact⟨hz,its,rv,ht⟩
  .rw[cE hb] at e;have nch:∀c v,H c=some v->c∉ch:=λc v z hc=>by
    rw[(hf c hc).1] at z;cases z
   refine (I.hok b u e).stay (λc v hc q=>k c v ?_ q) (λc q=>?_) λc ys q=>?_
   .rcases hc with z|z
    .rw[z];exact nch b u e
    .exact nch c _ z
   .rw[cE (ak q hn)];exact q
   .rw[cE (ak q hn)];exact q
end
def JU(K:W.Frag)(R:Hp->List (List V)->Prop):It :=
 ⟨λi H=>∃ys t,R H ys/\ys[i]? = some t,λi H x H'=>∃p t,x=.ref p/\vw K H p=none/\aC (vw K H) (vw K H')/\vw K H' p=some (.tup t) /\ ∀ys,R H ys->ys[i]? = some t,λi H=>∃ys,R H ys/\ys.length=i⟩
def GF(K:W.Frag)(a:Addr):Hp->List (List V)->Prop:=λH ys=>∃xs,H a=some (.lst xs)/\ys=xs.mapIdx λi x=>[V.int i,x]
theorem Ae{P:Program}{w:World}{K:W.Frag}{elts:List Expr}{x1:Nat}{pos:Pos}(a e it:Addr)(hne:e≠it)(ha:a≠e)(ha2:a≠it) :
  wj P w K (.Tuple elts x1 pos) (JU K (GF K a)) [e,it] e (λi h=>(∃old,IsEnum h e it (i:Int) old)/\h.IsListIter it a i) where
 mem:=by simp
 obj:=λi h st b hb=>by
  obtain⟨⟨old,h1⟩,o,h2,c,d⟩:=st;simp only[YY,YZ,Y0] at hb;rcases hb with rfl|rfl
  .exact⟨_,h1,λv z=>by cases z⟩
  .exact⟨o,h2,λv z=>by rw[d] at z;cases z⟩
 keep:=λi h h' st k=>by
  obtain⟨⟨old,h1⟩,h2⟩:=st;exact⟨⟨old,k e (by simp) _ h1⟩,h2.at λo z=>k it (by simp) o z⟩
 item:=by
  intro X hP hw hK hc i pins s σ H E I hf st hg;subst hP hw hK;obtain⟨⟨old,h1⟩,h2⟩:=st;obtain⟨ys,t,⟨xs,hxs,rfl⟩,ht⟩:=hg;rw[List.getElem?_mapIdx] at ht;cases hx:xs[i]? with
  | none=>rw[hx] at ht;cases ht
  | some x =>
   rw[hx] at ht;cases ht;obtain⟨its,rv,p,hz⟩:=I.list (kQ.of (K:=X.K) hxs);obtain⟨u,hu,ru⟩:=rv.get hx;refine wpAny_pyNext_enum_item h1 h2 p.isList (x:=u) (by simpa using hu) hne λh3 heo hit ht3 hz3 hk3=>⟨_,rfl,?_⟩
   refine wpAny_letOwnedTupleGo_enum (s:={ s with heap:=h3,toks:=s.toks+1 }) heo λh4 he4 hs4=>?_
   have hes:e<s.heap.objs.size:=Heap.lt_size h1;have ht4:=hs4.extBut _ _ (Nat.ne_of_gt hes) ht3;have k4:∀b o,b∉[e,it]->s.heap.get? b=some o->h4.get? b=some o:=λb o hb z=>by
    simp only[YY,YZ,Y0,not_or] at hb;exact hs4.extBut _ _ hb.1 (hk3 b o hb.1 hb.2 z)
   have I4:aM X pins σ (upd H s.heap.objs.size (.tup [.int i,x])) { s with heap:=h4,toks:=s.toks+1 } :=
    I.turnT (its:=[.int i s.toks,u]) k4 hf (Yq _) (show 2<=sizeLine by decide) (.cons ⟨_,rfl⟩ (.cons ru .nil)) ⟨_,ht4,rfl,_,rfl⟩
   have fr:=I.hok.fresh (Yq s.heap.objs.size);have nk:=I.newK (Yq s.heap.objs.size);refine⟨.ref s.heap.objs.size,_,I4,rfl,⟨_,_,rfl,by rw[eo nk];exact fr,mF (aC.upd fr),by rw[eo nk];exact dA,?_⟩,⟨⟨_,he4⟩,hit.extBut hs4.extBut hne.symm⟩,λb hb=>?_⟩
   .rintro ys ⟨zs,hzs,rfl⟩;rw[hxs] at hzs;cases hzs;rw[List.getElem?_mapIdx,hx];rfl
   .have:b<s.heap.objs.size:=by
     simp only[YY,YZ,Y0] at hb;rcases hb with rfl|rfl
     .exact hes
     .obtain⟨_,z,_⟩:=h2;exact Heap.lt_size z
    rw[cE (Yf this)];exact (hf b hb).1
 done:=by
  intro X hP hw hK hc i pins s σ H E I hf st hg;subst hP hw hK;obtain⟨⟨old,h1⟩,h2⟩:=st;obtain⟨ys,⟨xs,hxs,rfl⟩,hl⟩:=hg;obtain⟨its,rv,p,hz⟩:=I.list (kQ.of (K:=X.K) hxs);have hl':=rv.length;rw[List.length_mapIdx] at hl;obtain⟨f0,f1,f2,f3,f4,f5⟩:=hf it (by simp)
  exact wpAny_pyNext_enum_end (I.ok.hd hc) h1 h2 p.isList (by simp;nofun) λh' eb=>⟨rfl,I.turned (t':=s.toks) (λb o hb z=>eb b o hb z) f0 f1 f3 f4 f5⟩
 self:=λ_ _ _ _ _ st h=>by
  obtain⟨⟨old,h1⟩,_⟩:=st;exact wpAny_pyIter_enum h1 h
def xI(K:W.Frag)(ta:TA):TI:=λσ H R=>ta σ H λvs H1=>∃a,vs=[.ref a]/\(∃xs,vw K H1 a=some (.lst xs))/\R (JU K (GF K a)) H1
theorem Gi{X:Cx}{elts:List Expr}{x1:Nat}{tp p pos:Pos}{a:Expr}{ta:TA}(hg:Gl X "enumerate") (hm:X.mg "enumerate" = none) (ha:PA X [a] ta)(hs:starEach [a] X.env=[(false,eval a X.env)]:=by rfl) :
  PI X (.Tuple elts x1 tp) (.Call (.Name "enumerate" p) [a] [] pos) (xI X.K ta):=by
 intro pins s σ H R I h;refine Call_ (i9 I hg hm tS (Yr (dH (ha pos pins s σ H _ I h) λus s1 ⟨vs,H1,I1,r1,q1⟩=>?_) hs rfl));obtain⟨b,e,⟨xs,hx⟩,q⟩:=q1;subst e;cases r1 with
 | cons r rr =>
  cases rr;cases r;have hx':=aH hx;obtain⟨hz,its,n,rv,ho⟩:=I1.hok b _ hx';refine call_enumerate_1 ho λh2 he hit hsz hk=>?_;refine wpAny_pyIter_enum (s:={ s1 with heap:=h2 }) he ?_
  have hb:b<s1.heap.objs.size:=Heap.lt_size ho;refine⟨_,[s1.heap.objs.size+1,s1.heap.objs.size],_,_,H1,rfl,I1.kept (t':=s1.toks) hk,Ae b _ _ (Nat.ne_of_gt (Nat.lt_succ_self _)) (Yf (Nat.lt_succ_of_lt hb)) (Yf hb),⟨⟨_,he⟩,hit⟩,λc hc=>?_,q⟩;have hc':s1.heap.objs.size<=c:=by
   simp only[YY,YZ,Y0] at hc;rcases hc with z|z
   .rw[z];exact Nat.le_succ _
   .rw[z];exact Yq _
  exact I1.fpOk hc' (I1.hok.fresh hc')
theorem vy{K:W.Frag}{R:Hp->List (List V)->Prop}{rows:List (List V)}{g:TG}{tb:TS}{D:og}{σ:St}{H:Hp}(Pv:Nat->St->Hp->Prop)(hl:∀i σ H,i<=rows.length->Pv i σ H->R H rows)(h0:Pv 0 σ H)
  (hs:∀i t σ H p H',i<rows.length->rows[i]? = some t->Pv i σ H->vw K H p=none->aC (vw K H) (vw K H')->vw K H' p=some (.tup t)->g (.ref p) σ H' λσ2 H2=>tb { D with nx:=Pv (i+1),ct:=Pv (i+1),bk:=D.nx } σ2 H2)
  (hd:∀σ H,Pv rows.length σ H->D.nx σ H):Ba (JU K R) g tb D σ H:=by
 refine⟨λi m σ H=>m=rows.length-i/\i<=rows.length/\Pv i σ H,⟨rows.length,by simp,YS _,h0⟩,?_⟩
 rintro i m σ H ⟨rfl,hi,p⟩;have q:=hl i σ H hi p;by_cases hlt:i<rows.length
 .refine .inr ⟨⟨rows,rows[i],q,by simp[hlt]⟩,Pv (i+1),λσ' H' p'=>⟨rows.length-(i+1),(),rfl,hlt,p'⟩,λx H' y=>?_⟩
  obtain⟨a,t,rfl,y1,y2,y3,y4⟩:=y;exact hs i t σ H a H' hlt (y4 rows q) p y1 y2 y3
 .have e:i=rows.length:=();subst e;exact .inl ⟨⟨rows,q,rfl⟩,hd σ H p⟩
theorem yr{X:Cx}{elts:List Expr}{x1:Nat}{tp p pos:Pos}{a:Expr}{ta:TA}(hg:Gl X "enumerate") (hm:X.mg "enumerate" = none) (ha:QA X [a] ta)(hs:starEach [a] X.env=[(false,eval a X.env)]:=by rfl) :
  QI X (.Tuple elts x1 tp) (.Call (.Name "enumerate" p) [a] [] pos) (xI X.K ta):=⟨Gi hg hm ha.h hs⟩
def Bq(n:Nat)(q:Int×Int):Prop:=Bt n q.1/\Bt n q.2
theorem Bq.mono{m n:Nat}{q:Int×Int}(h:Bq m q)(hl:m<=n):Bq n q:=⟨h.1.mono hl,h.2.mono hl⟩
def ww(p q:Int×Int):Bool:=decide (p.1*q.2<q.1*p.2)
def nA(p q:Int×Int):Int×Int:=lo (p.1*q.2+q.1*p.2) (p.2*q.2)
theorem BQ{a b:Int}(hb:0<b):0<lg a b:=by
 unfold lg;rw[Yc ()];have:Int.gcd a b≠0:=λe=>by
  have:=(Int.gcd_eq_zero_iff.mp e).2;nofun
 nofun
theorem lM{a b:Int}{n:Nat}(hb:b≠0)(h1:Bt n a)(h2:Bt n b):Bq n (lo a b):=by
 have e1:=fD (a:=a) hb;have e2:=fK (a:=a) hb;have hl:0<(lg a b).natAbs:=by have:=DG (a:=a) hb;nofun
 constructor
 .unfold Bt at *
  have:=YU (lo a b).1 (lg a b);rw[e1] at this;have:=Y1 (lo a b).1.natAbs hl;nofun
 .unfold Bt at *
  have:=YU (lo a b).2 (lg a b);rw[e2] at this;have:=Y1 (lo a b).2.natAbs hl;nofun
theorem oU{p q:Int×Int}(hp:Fq p)(hq:Fq q):Fq (nA p q):=iP (by have:=Y2 hp.1 hq.1;nofun)
theorem FI{p q:Int×Int}(hp:Fq p)(hq:Fq q)(h0:0<q.1):ww p (nA p q)=true:=by
 have hd:0<p.2*q.2:=Y2 hp.1 hq.1;have hb:p.2*q.2≠0:=();have e1:=fD (a:=p.1*q.2+q.1*p.2) hb;have e2:=fK (a:=p.1*q.2+q.1*p.2) hb;have hg:=BQ (a:=p.1*q.2+q.1*p.2) hd;unfold ww nA;generalize lo (p.1*q.2+q.1*p.2) (p.2*q.2)=r at *
 generalize lg (p.1*q.2+q.1*p.2) (p.2*q.2)=g at *
 apply YI
 apply Int.lt_of_mul_lt_mul_right _ (YR hg)
 have z1:p.1*r.2*g=p.1*(p.2*q.2):=by rw[Y3,e2]
 have z2:r.1*p.2*g=(p.1*q.2+q.1*p.2)*p.2:=by rw[<-e1];rw[Int.mul_right_comm]
 rw[z1,z2];have hq2:0<q.1*p.2*p.2:=Y2 (Y2 h0 hp.1) hp.1;have z3:(p.1*q.2+q.1*p.2)*p.2=p.1*(p.2*q.2)+q.1*p.2*p.2:=by
  rw[Int.add_mul,Y3 p.1 q.2 p.2,Y4 q.2 p.2]
 nofun
theorem tH{p q:Int×Int}{m n:Nat}(hp:Fq p)(hq:Fq q)(h1:Bq m p)(h2:Bq n q):Bq (m+n+1) (nA p q):=by
 refine lM (by have:=Y2 hp.1 hq.1;nofun) ?_ ?_
 .have:=(h1.1.mul h2.2).add (h2.1.mul h1.2);exact this.mono ()
 .exact (h1.2.mul h2.2).mono ()
def gW(G:Hp)(a:Addr)(ds:List D):Prop:=∃xs,G a=some (.lst xs)/\aI G ds xs
section
variable {G G':Hp}{a l:Addr}{ds:List D}{xs:List V}
theorem gW.same(h:gW G a ds)(S:aC G G'):gW G' a ds:=by
 obtain⟨ys,h1,h2⟩:=h;exact⟨ys,S _ _ h1,h2.same S⟩
theorem gW.but(h:gW G a ds)(hf:D.flats ds=true)(hl:G l=some (.lst xs))(hn:a≠l)(S:jg l G G'):gW G' a ds:=by
 obtain⟨ys,h1,h2⟩:=h;exact⟨ys,S _ _ hn h1,aI.flat_but hl S _ _ hf h2⟩
theorem gW.rep(h:gW G a ds):aP G (.lst ds) (.ref a):=by
 obtain⟨ys,h1,h2⟩:=h;exact .mk_lst h1 h2
theorem gW.ne_st{st:Addr}(h:gW G a ds)(hd:∀i b,ds≠[.int i,.bl b])(hst:gj G st):a≠st:=by
 rintro rfl;obtain⟨ys,h1,h2⟩:=h;obtain⟨x,b,h3,_⟩:=hst;rw[h1] at h3;cases h3;exact hd _ _ (aP.lst_st h2)
theorem gW.stBut{st:Addr}(h:gW G a ds)(hf:D.flats ds=true)(hd:∀i b,ds≠[.int i,.bl b])(hst:gj G st)(S:jg st G G'):gW G' a ds:=by
 obtain⟨x,b,h3,h4⟩:=id hst;exact h.but hf h3 (h.ne_st hd hst) S
end
theorem pE{K:W.Frag}{H:Hp}{p:Addr}{xs:List V}(h:vw K H p=some (.lst xs)):Kx K "list" (.ref p) H:=.inl ⟨rfl,xs,.of (aH h)⟩
theorem gW.ty{K:W.Frag}{H:Hp}{p:Addr}{ds:List D}(h:gW (vw K H) p ds):Kx K "list" (.ref p) H:=by
 obtain⟨xs,h,_⟩:=h;exact pE h
abbrev gP:=(Int×Int)×(Int×Int)
def oh(c:gP):D:=.tup [fr c.1,fr c.2]
theorem gd:∀(cs:List gP),D.flats (cs.map oh)=true
 | []=>by simp[D.flats]
 | c::cs=>by
  rw[YE];unfold D.flats;rw[gd cs];simp[oh,D.flat,D.flats,eN]
theorem wM(cs:List gP):∀i b,cs.map oh≠[.int i,.bl b]:=λi b e=>by
 cases cs with
 | nil=>cases e
 | cons c cs =>
  rw[YE] at e;have:=(List.cons.inj e).1;unfold oh at this;cases this
theorem aP.spt_at{H:Hp}{c:gP}{v:V}(h:aP H (oh c) v):∃a x y,v=.ref a/\H a=some (.tup [x,y])/\aP H (fr c.1) x/\aP H (fr c.2) y:=by
 obtain⟨a,xs,rfl,ha,r⟩:=h.tup_at;obtain⟨d1,d2,x1,x2,e1,rfl,r1,r2⟩:=r.pair (by rw[r.length];rfl)
 cases e1;exact⟨a,x1,x2,rfl,ha,r1,r2⟩
theorem aP.mk_spt{H:Hp}{c:gP}{a:Addr}{x y:V}(h:H a=some (.tup [x,y]))(h1:aP H (fr c.1) x)(h2:aP H (fr c.2) y):aP H (oh c) (.ref a):=.mk_tup h (.mk_cons h1 (.mk_cons h2 .mk_nil))
section
variable {prog:Program}{w:World}{A:Around}{E:Value->Shared->Prop}{s:Shared}
theorem Dh{it t:Addr}{i:Nat}{its:Array Value}{x:Value}{Q:Value->Shared->Prop}(a:s.heap.IsTupleIter it t i)(b:s.heap.IsTuple t its)(c:its[i]? = some x)
  (q:∀g,g.IsTupleIter it t (i+1)->Heap.SameBut it s.heap g->Q x { s with heap:=g }):wpAny (model prog w) A (Builtin.SmallTypes.nextOf (.ref it)) Q E s:=by
 obtain⟨u,a1,a2,a3⟩:=id a;obtain⟨v,b1,_,bn,b2⟩:=b;unfold Builtin.SmallTypes.nextOf;refine wpAny_bind (wpAny_callSpecial?_slot (name:=Str.ofString "__next__") a.typeIs F.slot_tuple_iterator_next (wpAny_call_entry F.slot_tuple_iterator_next a.typeIs F.entry_tuple_iterator_next ?_ (F.args_tuple_iterator_next_1 _)));show wpAny _ _ (field (.ref it) 0 >>= _) _ _ s;refine wpAny_bind (wpAny_field a1 a3 (x:=.ref t) rfl ?_);show wpAny _ _ (if (Value.ref t==Value.none)=true then _ else _) _ _ s;rw[Yc (show ¬ ((Value.ref t==Value.none)=true) from Yo)]
 show wpAny _ _ (field (.ref it) 1 >>= _) _ _ s;refine wpAny_bind (wpAny_field a1 a3 (x:=.int i 0) rfl ?_);show wpAny _ _ (seqItems? (.ref t) >>= _) _ _ s;refine wpAny_bind (wpAny_seqItems b1 b2 ?_);simp only[Int.toNat_natCast,c];refine wpAny_bind (wpAny_setField a1 a3 (by simp) (wpAny_pure ⟨x,rfl,wpAny_pure (q _ ?_ (Heap.SameBut.update ..))⟩))
 exact⟨_,Heap.get?_update_self _ a1 (Obj.isFreed_of_fields (Obj.data_mapFields a3 _)),(Obj.cls_mapFields ..).trans a2,by rw[Obj.data_mapFields a3];simp[rawInt]⟩
theorem sI{it t:Addr}{i:Nat}{its:Array Value}{Q:Value->Shared->Prop}(hh:A.handled=none)(a:s.heap.IsTupleIter it t i)(b:s.heap.IsTuple t its)(c:its[i]? = none)
  (q:∀g e,Heap.ExtBut it s.heap g->(∃o,g.get? e=some o/\o.cls=.type "StopIteration")->E (.ref e) { s with heap:=g }):wpAny (model prog w) A (Builtin.SmallTypes.nextOf (.ref it)) Q E s:=by
 obtain⟨u,a1,a2,a3⟩:=id a;obtain⟨v,b1,_,bn,b2⟩:=b;unfold Builtin.SmallTypes.nextOf;refine wpAny_bind (wpAny_callSpecial?_slot (name:=Str.ofString "__next__") a.typeIs F.slot_tuple_iterator_next (wpAny_call_entry F.slot_tuple_iterator_next a.typeIs F.entry_tuple_iterator_next ?_ (F.args_tuple_iterator_next_1 _)));show wpAny _ _ (field (.ref it) 0 >>= _) _ _ s;refine wpAny_bind (wpAny_field a1 a3 (x:=.ref t) rfl ?_);show wpAny _ _ (if (Value.ref t==Value.none)=true then _ else _) _ _ s;rw[Yc (show ¬ ((Value.ref t==Value.none)=true) from Yo)]
 show wpAny _ _ (field (.ref it) 1 >>= _) _ _ s;refine wpAny_bind (wpAny_field a1 a3 (x:=.int i 0) rfl ?_);show wpAny _ _ (seqItems? (.ref t) >>= _) _ _ s;refine wpAny_bind (wpAny_seqItems b1 b2 ?_);simp only[Int.toNat_natCast,c];refine wpAny_bind (wpAny_rule (wpAny_bind (wpAny_setField a1 a3 (by simp) ?_)));show wpAny _ _ (newExc (.type "StopIteration") [] >>= _) _ _ _
 refine wpAny_bind ?_;simp only[newExc,newTuple];refine wpAny_bind (wpAny_newObj_type ?_ (by size_fits))
 refine wpAny_bind (m:=firstArgMember _ _) (wpAny_of_eq (a:=Value.none) (by first|rfl|(simp only[firstArgMember];rfl)) ?_);refine wpAny_newObj_type ?_ (by size_fits)
 simp only[raiseNew];refine wpAny_bind (wpAny_handled ?_)
 (first|rw[show A.in1.handled=none from hh]|rw[hh]);refine wpAny_bind (wpAny_pure (wpAny_throw ?_))
 exact q _ _ (((Heap.SameBut.update ..).extBut.push _).push _) ⟨_,Heap.get?_push_size _ rfl,rfl⟩
end
theorem Ar{prog:Program}{w:World}{A:Around}(hh:A.handled=none)(it l:Addr)(hne:l≠it)(its:Array Value) :
  Draws prog w A it [it,l] its.size (λi v=>its[i]? = some v) (λi h=>h.IsTupleIter it l i/\h.IsTuple l its) where
 live:=λ_ _ st=>let ⟨o,ho,_⟩:=st.1;⟨o,ho⟩
 frame:=λ_ _ _ st hk=>⟨(let ⟨o,ho,r⟩:=st.1;⟨o,hk it (by simp) o ho,r⟩),(let ⟨o,ho,r⟩:=st.2;⟨o,hk l (by simp) o ho,r⟩)⟩
 item:=λi s Q E hi st q=>Dh st.1 st.2 (x:=its[i]) (by simp[hi]) λg a b=>q _ g s.toks (by simp[hi]) ⟨a,st.2.extBut b.extBut hne⟩ b
 done:=λs Q E st q=>sI hh st.1 st.2 (by simp) q
section
variable {prog:Program}{w:World}{A:Around}{E:Value->Shared->Prop}{s:Shared}{z TI TO i1 i2:Addr}{f1 f2:List Addr}{n1 n2 k:Nat}{P1 P2:Nat->Value->Prop}{T1 T2:Nat->Heap->Prop}{a b:Value}
structure nG (z TI TO i1 i2:Addr)(f1 f2:List Addr):Prop where
 tiz:TI≠z
 toz:TO≠z
 tito:TI≠TO
 ti1:TI≠i1
 ti2:TI≠i2
 to1:TO≠i1
 to2:TO≠i2
 z1:z≠i1
 z2:z≠i2
 n12:i1≠i2
 zf1:z∉f1
 zf2:z∉f2
 tf1:TO∉f1
 tf2:TO∉f2
 if1:i2∉f1
 if2:i1∉f2
theorem Ay{Q:Value->Shared->Prop}(D1:Draws prog w A i1 f1 n1 P1 T1)(D2:Draws prog w A i2 f2 n2 P2 T2)(Z:nG z TI TO i1 i2 f1 f2)(hz:IsZip s.heap z TI TO .none)(hTI:IsPair s.heap TI (.ref i1) (.ref i2))(hTO:IsPair s.heap TO a b)
  (h1:T1 k s.heap)(h2:T2 k s.heap)(k1:k<n1)(k2:k<n2)
  (hQ:∀x y g tk,P1 k x->P2 k y->IsZip g z TI TO (rawInt s.heap.objs.size)->IsPair g TO x y->T1 (k+1) g->T2 (k+1) g->IsPair g s.heap.objs.size x y->g.objs.size=s.heap.objs.size+1 ->
   (∀c o,c∉[z,TO,i1,i2]->s.heap.get? c=some o->g.get? c=some o)->Q (.ref s.heap.objs.size) { s with heap:=g,toks:=tk }) :
  wpAny (model prog w) A (Builtin.«zip.__next__» ⟨[.ref z],[]⟩) (λfin s'=>∃v,fin=.done (.ret v)/\Q v s') E s:=by
 show wpAny _ _ (field (.ref z) 2 >>= _) _ _ _;refine wpAny_bind (wpAny_field hz rfl (x:=.bool false) rfl ?_);show wpAny _ _ (field (.ref z) 3 >>= _) _ _ _;refine wpAny_bind (wpAny_field hz rfl (x:=.ref TI) rfl ?_);refine wpAny_bind (wpAny_seqItems hTI rfl ?_);show wpAny _ _ (Builtin.SmallTypes.ownedTupleIsFree (.ref z) >>= _) _ _ _;refine wpAny_bind ?_;unfold Builtin.SmallTypes.ownedTupleIsFree;refine wpAny_bind (wpAny_field hz rfl (x:=.none) rfl (wpAny_pure ?_));simp only[if_true];refine wpAny_bind (wpAny_rule ?_);refine wpAny_bind (wpAny_field hz rfl (x:=.ref TO) rfl ?_);refine wpAny_bind (wpAny_setField_rec hz (by simp) λg1 hz1 s1=>?_)
 replace hz1:IsZip g1 z TI TO .ellipsis:=hz1;refine wpAny_bind ?_;simp only[List.zipIdx_cons,List.zipIdx_nil,List.forIn_cons,List.forIn_nil];refine wpAny_bind (wpAny_bind (wpAny_onRaise ?_));show wpAny _ _ (Builtin.SmallTypes.nextOf (.ref i1) >>= _) _ _ _;refine wpAny_bind (D1.item k _ _ _ k1 (D1.frame k _ _ h1 λc hc o e=>s1.extBut _ _ (λz'=>Z.zf1 (z'▸hc)) e) λx g2 tk2 p1 t1 s2=>wpAny_pure ?_);replace s2:Heap.SameBut i1 g1 g2:=s2;have hTO2:IsPair g2 TO a b:=s2.extBut _ _ Z.to1 (s1.extBut _ _ Z.toz hTO);refine wpAny_bind (wpAny_seqItems hTO2 rfl ?_);refine wpAny_bind (wpAny_updateSeq_pair hTO2 λg3 hTO3 s3=>?_);replace hTO3:IsPair g3 TO x b:=hTO3;replace s3:Heap.SameBut TO g2 g3:=s3;refine wpAny_bind (wpAny_letGo (wpAny_pure ?_));refine wpAny_bind (wpAny_bind (wpAny_onRaise ?_));show wpAny _ _ (Builtin.SmallTypes.nextOf (.ref i2) >>= _) _ _ _;have t2':T2 k g3:=D2.frame k _ _ h2 λc hc o e=>s3.extBut _ _ (λz'=>Z.tf2 (z'▸hc)) (s2.extBut _ _ (λz'=>Z.if2 (z'▸hc)) (s1.extBut _ _ (λz'=>Z.zf2 (z'▸hc)) e));refine wpAny_bind (D2.item k _ _ _ k2 t2' λy g4 tk4 p2 t2 s4=>wpAny_pure ?_);replace s4:Heap.SameBut i2 g3 g4:=s4;have hTO4:IsPair g4 TO x b:=s4.extBut _ _ Z.to2 hTO3;refine wpAny_bind (wpAny_seqItems hTO4 rfl ?_);refine wpAny_bind (wpAny_updateSeq_pair hTO4 λg5 hTO5 s5=>?_);replace hTO5:IsPair g5 TO x y:=hTO5;replace s5:Heap.SameBut TO g4 g5:=s5;refine wpAny_bind (wpAny_letGo (wpAny_pure (wpAny_pure ?_)));refine wpAny_bind (wpAny_seqItems hTO5 rfl ?_);refine wpAny_bind (wpAny_newTuple ?_);have hsz:g5.objs.size=s.heap.objs.size:=by rw[s5.1,s4.1,s3.1,s2.1,s1.1]
 have hz5:IsZip g5 z TI TO .ellipsis:=s5.extBut _ _ Z.toz.symm (s4.extBut _ _ Z.z2 (s3.extBut _ _ Z.toz.symm (s2.extBut _ _ Z.z1 hz1)));have k5:∀c o,c∉[z,TO,i1,i2]->s.heap.get? c=some o->g5.get? c=some o:=λc o hc e=>by
  simp only[YY,YZ,Y0,not_or] at hc;exact s5.extBut _ _ hc.2.1 (s4.extBut _ _ hc.2.2.2 (s3.extBut _ _ hc.2.1 (s2.extBut _ _ hc.2.2.1 (s1.extBut _ _ hc.1 e))))
 have t15:T1 (k+1) g5:=D1.frame _ _ _ t1 λc hc o e=>s5.extBut _ _ (λz'=>Z.tf1 (z'▸hc)) (s4.extBut _ _ (λz'=>Z.if1 (z'▸hc)) (s3.extBut _ _ (λz'=>Z.tf1 (z'▸hc)) e));have t25:T2 (k+1) g5:=D2.frame _ _ _ t2 λc hc o e=>s5.extBut _ _ (λz'=>Z.tf2 (z'▸hc)) e;have zlt:z<g5.objs.size:=Heap.lt_size hz5;show wpAny _ _ (Builtin.SmallTypes.ownedTupleHandOut (.ref z) (.ref g5.objs.size) >>= _) _ _ _;refine wpAny_bind ?_;unfold Builtin.SmallTypes.ownedTupleHandOut;have hz6:IsZip (g5.push { cls:=.type "tuple",data:=.seq #[x,y] }) z TI TO .ellipsis:=Heap.get?_push_of_some _ hz5;refine wpAny_bind (wpAny_setField_rec hz6 (by simp) λg7 hz7 s7=>?_)
 replace hz7:IsZip g7 z TI TO (rawInt g5.objs.size):=hz7;refine wpAny_setField_rec hz7 (by simp) λg8 hz8 s8=>?_
 replace hz8:IsZip g8 z TI TO (rawInt g5.objs.size):=hz8;have up:∀c o,c≠z->g5.get? c=some o->g8.get? c=some o:=λc o hc e=>s8.extBut _ _ hc (s7.extBut _ _ hc (Heap.get?_push_of_some _ e));have hT8:IsPair g8 g5.objs.size x y:=s8.extBut _ _ (Nat.ne_of_gt zlt) (s7.extBut _ _ (Nat.ne_of_gt zlt) (Heap.get?_push_size _ rfl));have hn8:g8.objs.size=g5.objs.size+1:=by rw[s8.1,s7.1,Heap.size_push]
 rw[hsz] at hz8 hT8 hn8;refine wpAny_pure ⟨_,rfl,?_⟩;show Q (.ref g5.objs.size) _;rw[hsz];exact hQ x y g8 _ p1 p2 hz8 (up _ _ Z.toz hTO5) (D1.frame _ _ _ t15 λc hc o e=>up c o (λz'=>Z.zf1 (z'▸hc)) e) (D2.frame _ _ _ t25 λc hc o e=>up c o (λz'=>Z.zf2 (z'▸hc)) e) hT8 hn8
  λc o hc e=>up c o (λz'=>hc (by simp[z'])) (k5 c o hc e)
theorem C6{Q:Fin->Shared->Prop}(D1:Draws prog w A i1 f1 n1 P1 T1)(D2:Draws prog w A i2 f2 n2 P2 T2)(Z:nG z TI TO i1 i2 f1 f2)(hz:IsZip s.heap z TI TO .none)(hTI:IsPair s.heap TI (.ref i1) (.ref i2))(hTO:IsPair s.heap TO a b)
  (h1:T1 k s.heap)(h2:T2 k s.heap)(hk:k=n1\/(k<n1/\k=n2))
  (hE:∀g tk e,(∀c o,c∉[z,TO,i1,i2]->s.heap.get? c=some o->g.get? c=some o)->(∃o,g.get? e=some o/\o.cls=.type "StopIteration")->E (.ref e) { s with heap:=g,toks:=tk }) :
  wpAny (model prog w) A (Builtin.«zip.__next__» ⟨[.ref z],[]⟩) Q E s:=by
 show wpAny _ _ (field (.ref z) 2 >>= _) _ _ _;refine wpAny_bind (wpAny_field hz rfl (x:=.bool false) rfl ?_);show wpAny _ _ (field (.ref z) 3 >>= _) _ _ _;refine wpAny_bind (wpAny_field hz rfl (x:=.ref TI) rfl ?_);refine wpAny_bind (wpAny_seqItems hTI rfl ?_);show wpAny _ _ (Builtin.SmallTypes.ownedTupleIsFree (.ref z) >>= _) _ _ _;refine wpAny_bind ?_;unfold Builtin.SmallTypes.ownedTupleIsFree;refine wpAny_bind (wpAny_field hz rfl (x:=.none) rfl (wpAny_pure ?_));simp only[if_true];refine wpAny_bind (wpAny_rule ?_);refine wpAny_bind (wpAny_field hz rfl (x:=.ref TO) rfl ?_);refine wpAny_bind (wpAny_setField_rec hz (by simp) λg1 hz1 s1=>?_)
 replace hz1:IsZip g1 z TI TO .ellipsis:=hz1;refine wpAny_bind ?_;simp only[List.zipIdx_cons,List.zipIdx_nil,List.forIn_cons,List.forIn_nil];refine wpAny_bind (wpAny_bind (wpAny_onRaise ?_));show wpAny _ _ (Builtin.SmallTypes.nextOf (.ref i1) >>= _) _ _ _;have t1':T1 k g1:=D1.frame k _ _ h1 λc hc o e=>s1.extBut _ _ (λz'=>Z.zf1 (z'▸hc)) e;rcases hk with rfl|⟨k1,rfl⟩
 .refine wpAny_bind (D1.done _ _ _ t1' λg2 e s2 he=>?_);obtain⟨oe,he1,he2⟩:=he;have hz2:IsZip g2 z TI TO .ellipsis:=s2 _ _ Z.z1 hz1;have hez:e≠z:=λx=>by subst x;rw[hz2] at he1;cases he1;simp at he2
  refine wpAny_setField_rec hz2 (by simp) λg3 _ s3=>hE g3 _ e (λc o hc x=>?_) ⟨oe,s3.extBut _ _ hez he1,he2⟩
  simp only[YY,YZ,Y0,not_or] at hc;exact s3.extBut _ _ hc.1 (s2 _ _ hc.2.2.1 (s1.extBut _ _ hc.1 x))
 .refine wpAny_bind (D1.item k _ _ _ k1 t1' λx g2 tk2 p1 t1 s2=>wpAny_pure ?_);replace s2:Heap.SameBut i1 g1 g2:=s2;have hTO2:IsPair g2 TO a b:=s2.extBut _ _ Z.to1 (s1.extBut _ _ Z.toz hTO);refine wpAny_bind (wpAny_seqItems hTO2 rfl ?_);refine wpAny_bind (wpAny_updateSeq_pair hTO2 λg3 hTO3 s3=>?_);replace s3:Heap.SameBut TO g2 g3:=s3;refine wpAny_bind (wpAny_letGo (wpAny_pure ?_));refine wpAny_bind (wpAny_bind (wpAny_onRaise ?_));show wpAny _ _ (Builtin.SmallTypes.nextOf (.ref i2) >>= _) _ _ _;have t2':T2 k g3:=D2.frame k _ _ h2 λc hc o e=>s3.extBut _ _ (λz'=>Z.tf2 (z'▸hc)) (s2.extBut _ _ (λz'=>Z.if2 (z'▸hc)) (s1.extBut _ _ (λz'=>Z.zf2 (z'▸hc)) e));refine wpAny_bind (D2.done _ _ _ t2' λg4 e s4 he=>?_);obtain⟨oe,he1,he2⟩:=he;have hz4:IsZip g4 z TI TO .ellipsis:=s4 _ _ Z.z2 (s3.extBut _ _ Z.toz.symm (s2.extBut _ _ Z.z1 hz1));have hez:e≠z:=λx=>by subst x;rw[hz4] at he1;cases he1;simp at he2
  refine wpAny_setField_rec hz4 (by simp) λg5 _ s5=>hE g5 _ e (λc o hc x=>?_) ⟨oe,s5.extBut _ _ hez he1,he2⟩
  simp only[YY,YZ,Y0,not_or] at hc;exact s5.extBut _ _ hc.1 (s4 _ _ hc.2.2.2 (s3.extBut _ _ hc.2.1 (s2.extBut _ _ hc.2.2.1 (s1.extBut _ _ hc.1 x))))
end
def jq:Bool->Heap->Addr->Addr->Nat->Prop
 | true,h,it,l,i=>h.IsListIter it l i
 | false,h,it,l,i=>h.IsTupleIter it l i
def fO:Bool->Heap->Addr->Array Value->Prop
 | true,h,l,its=>h.IsList l its
 | false,h,l,its=>h.IsTuple l its
def qF(K:W.Frag)(b:Bool)(H:Hp)(l:Addr)(xs:List V):Prop:=vw K H l=some (if b=true then .lst xs else .tup xs)
theorem kn{prog:Program}{w:World}{A:Around}(hh:A.handled=none)(b:Bool)(it l:Addr)(hne:l≠it)(its:Array Value) :
  Draws prog w A it [it,l] its.size (λi v=>its[i]? = some v) (λi h=>jq b h it l i/\fO b h l its):=by
 cases b with
 | true=>exact Draws.list hh it l hne its
 | false=>exact Ar hh it l hne its
theorem jq.at{b:Bool}{h h':Heap}{it l:Addr}{i:Nat}(x:jq b h it l i)(e:∀o,h.get? it=some o->h'.get? it=some o):jq b h' it l i:=by
 cases b with
 | true=>obtain⟨o,ho,r⟩:=x;exact⟨o,e o ho,r⟩
 | false=>obtain⟨o,ho,r⟩:=x;exact⟨o,e o ho,r⟩
theorem jq.obj{b:Bool}{h:Heap}{it l:Addr}{i:Nat}(x:jq b h it l i):∃o,h.get? it=some o /\ ∀v,o.data ≠ .cell v:=by
 cases b with
 | true=>obtain⟨o,ho,_,d⟩:=x;exact⟨o,ho,λv z=>by rw[d] at z;cases z⟩
 | false=>obtain⟨o,ho,_,d⟩:=x;exact⟨o,ho,λv z=>by rw[d] at z;cases z⟩
theorem fO.obj{b:Bool}{h:Heap}{l:Addr}{its:Array Value}(x:fO b h l its):∃o,h.get? l=some o:=by
 cases b with
 | true=>obtain⟨o,ho,_⟩:=x;exact⟨o,ho⟩
 | false=>obtain⟨o,ho,_⟩:=x;exact⟨o,ho⟩
theorem aM.src{X:Cx}{pins:List (Addr×Obj)}{σ:St}{H:Hp}{s:Shared}(I:aM X pins σ H s) {b:Bool}{l:Addr}{xs:List V}(h:qF X.K b H l xs):∃its:List Value,bC xs its/\fO b s.heap l its.toArray/\xs.length<=sizeLine:=by
 cases b with
 | true =>
  obtain⟨its,rv,p,hz⟩:=I.list (kQ.of (K:=X.K) (aH h));exact⟨its,rv,p.isList,hz⟩
 | false =>
  obtain⟨its,rv,p,hz⟩:=I.tuple (jF h);exact⟨its,rv,p,hz⟩
theorem qF.inj{K:W.Frag}{b:Bool}{H:Hp}{l:Addr}{xs ys:List V}(h:qF K b H l xs)(g:qF K b H l ys):xs=ys:=by
 unfold qF at h g;rw[h] at g;cases b<;>cases g<;>rfl
def KU(K:W.Frag)(b1 b2:Bool)(l1 l2:Addr):Hp->List (List V)->Prop:=λH ys=>∃xs zs,qF K b1 H l1 xs/\qF K b2 H l2 zs/\ys=List.zipWith (λx z=>[x,z]) xs zs
section
variable {prog:Program}{w:World}{A:Around}{E:Value->Shared->Prop}{s:Shared}{z TI TO i1 i2 l1 l2:Addr}{k:Nat}{b1 b2:Bool}{u1 u2:Array Value}{a b:Value}
theorem Mi{n:Nat}(h1 : @LT.lt Nat _ l1 n)(h2 : @LT.lt Nat _ l2 n):nG (n+4) (n+2) (n+3) n (n+1) [n,l1] [n+1,l2]:=by
 constructor<;>(try simp only[YY,YZ,Y0,not_or])<;>(try constructor)<;>(intro e;have e':(_:Nat)=_:=e;nofun)
theorem xB{Q:Option Value->Shared->Prop}(hh:A.handled=none)(Z:nG z TI TO i1 i2 [i1,l1] [i2,l2])(n1:l1≠i1)(n2:l2≠i2)(hz:IsZip s.heap z TI TO .none)(hTI:IsPair s.heap TI (.ref i1) (.ref i2))(hTO:IsPair s.heap TO a b)
  (h1:jq b1 s.heap i1 l1 k)(h2:jq b2 s.heap i2 l2 k)(p1:fO b1 s.heap l1 u1)(p2:fO b2 s.heap l2 u2)(k1:k<u1.size)(k2:k<u2.size)
  (hQ:∀x y g tk,u1[k]? = some x->u2[k]? = some y->IsZip g z TI TO (rawInt s.heap.objs.size)->IsPair g TO x y->jq b1 g i1 l1 (k+1)->jq b2 g i2 l2 (k+1)->IsPair g s.heap.objs.size x y->g.objs.size=s.heap.objs.size+1 ->
   (∀c o,c∉[z,TO,i1,i2]->s.heap.get? c=some o->g.get? c=some o)->Q (some (.ref s.heap.objs.size)) { s with heap:=g,toks:=tk }):wpAny (model prog w) A (pyNext (.ref z)) Q E s:=by
 have hT:s.TypeIs (.ref z) "zip":=⟨_,hz,rfl⟩;unfold pyNext;refine wpAny_bind (wpAny_attempt (wpAny_callSpecial?_slot (name:=Str.ofString "__next__") hT F.slot_zip_next (wpAny_call_entry F.slot_zip_next hT F.entry_zip_next ?_ (F.args_zip_next_1 _))));have D1:Draws prog w A.in1 i1 [i1,l1] u1.size _ _:=kn (A:=A.in1) hh b1 i1 l1 n1 u1;have D2:Draws prog w A.in1 i2 [i2,l2] u2.size _ _:=kn (A:=A.in1) hh b2 i2 l2 n2 u2;exact Ay D1 D2 Z hz hTI hTO ⟨h1,p1⟩ ⟨h2,p2⟩ k1 k2 λx y g tk e1 e2 c1 c2 c3 c4 c5 c6 c7=>wpAny_pure (hQ x y g tk e1 e2 c1 c2 c3.1 c4.1 c5 c6 c7)
theorem At{Q:Option Value->Shared->Prop}(hh:A.handled=none)(Z:nG z TI TO i1 i2 [i1,l1] [i2,l2])(n1:l1≠i1)(n2:l2≠i2)(hz:IsZip s.heap z TI TO .none)(hTI:IsPair s.heap TI (.ref i1) (.ref i2))(hTO:IsPair s.heap TO a b)
  (h1:jq b1 s.heap i1 l1 k)(h2:jq b2 s.heap i2 l2 k)(p1:fO b1 s.heap l1 u1)(p2:fO b2 s.heap l2 u2)(hk:k=u1.size\/(k<u1.size/\k=u2.size))
  (hQ:∀g tk,(∀c o,c∉[z,TO,i1,i2]->s.heap.get? c=some o->g.get? c=some o)->Q none { s with heap:=g,toks:=tk }):wpAny (model prog w) A (pyNext (.ref z)) Q E s:=by
 have hT:s.TypeIs (.ref z) "zip":=⟨_,hz,rfl⟩;unfold pyNext;refine wpAny_bind (wpAny_attempt (wpAny_callSpecial?_slot (name:=Str.ofString "__next__") hT F.slot_zip_next (wpAny_call_entry F.slot_zip_next hT F.entry_zip_next ?_ (F.args_zip_next_1 _))));have D1:Draws prog w A.in1 i1 [i1,l1] u1.size _ _:=kn (A:=A.in1) hh b1 i1 l1 n1 u1;have D2:Draws prog w A.in1 i2 [i2,l2] u2.size _ _:=kn (A:=A.in1) hh b2 i2 l2 n2 u2;refine C6 D1 D2 Z hz hTI hTO ⟨h1,p1⟩ ⟨h2,p2⟩ hk λg tk e hk he=>?_;obtain⟨o,ho,hc⟩:=he;refine wpAny_bind (wpAny_isInstance (T:="StopIteration") (b:=true) ⟨o,ho,hc⟩ isSubtype_stop (wpAny_pure (hQ _ _ hk)))
end
theorem aM.turnL{X:Cx}{pins:List (Addr×Obj)}{σ:St}{H:Hp}{s:Shared}{h':Heap}{t':Nat}{ch:List Addr}(I:aM X pins σ H s)(k:∀b o,b∉ch->s.heap.get? b=some o->h'.get? b=some o)(hf:∀b∈ch,mR X pins H b):aM X pins σ H { s with heap:=h',toks:=t' }:=by
 have nch:∀c v,H c=some v->c∉ch:=λc v z hc=>by
  rw[(hf c hc).1] at z;cases z
 refine I.step (g':=s.gens) (d':=s.drawn) (ch:=ch) (λb hb=>?_) (λb o _ _ hc e _=>k b o hc e) (λb o _ _ hc e _=>⟨o.slots,k b o hc e⟩) (λb o _ e n=>n)
  (λb o hc e=>⟨o,k b o hc e⟩) (λb ys e=>e) (λb o u e=>e) (λb ps e=>⟨#[],by rw[e];simp⟩) (λm hm=>?_) (λb u e=>?_) I.bare
 .obtain⟨_,f1,_,f3,f4,f5⟩:=hf b hb;exact⟨f3,f1,f4,f5⟩
 .obtain⟨o,es,ep,ho,r⟩:=hm;exact⟨o,es,ep,k _ o (λz=>(hf _ z).2.1 rfl) ho,r⟩
 .refine (I.hok b u e).stay (λc v hc q=>k c v ?_ q) (λc q=>q) λc ys q=>q;rcases hc with z|z
  .rw[z];exact nch b u e
  .exact nch c _ z
theorem BE{P:Program}{w:World}{K:W.Frag}{elts:List Expr}{x1:Nat}{pos:Pos}{b1 b2:Bool}(z TI TO i1 i2 l1 l2:Addr)(Z:nG z TI TO i1 i2 [i1,l1] [i2,l2])(n1:l1≠i1)(n2:l2≠i2) :
  wj P w K (.Tuple elts x1 pos) (JU K (KU K b1 b2 l1 l2)) [z,TO,i1,i2,TI] z (λi h=>IsZip h z TI TO .none/\IsPair h TI (.ref i1) (.ref i2)/\(∃a b,IsPair h TO a b)/\jq b1 h i1 l1 i/\jq b2 h i2 l2 i) where
 mem:=by simp
 obj:=λi h st b hb=>by
  obtain⟨h1,h2,⟨a,c,h3⟩,h4,h5⟩:=st;simp only[YY,YZ,Y0] at hb;rcases hb with rfl|rfl|rfl|rfl|rfl
  .exact⟨_,h1,λv e=>by cases e⟩
  .exact⟨_,h3,λv e=>by cases e⟩
  .exact h4.obj
  .exact h5.obj
  .exact⟨_,h2,λv e=>by cases e⟩
 keep:=λi h h' st k=>by
  obtain⟨h1,h2,⟨a,c,h3⟩,h4,h5⟩:=st;exact⟨k z (by simp) _ h1,k TI (by simp) _ h2,⟨a,c,k TO (by simp) _ h3⟩,h4.at λo e=>k i1 (by simp) o e,h5.at λo e=>k i2 (by simp) o e⟩
 item:=by
  intro X hP hw hK hc i pins s σ H E I hf st hg;subst hP hw hK;obtain⟨h1,h2,⟨a,c,h3⟩,h4,h5⟩:=st;obtain⟨ys,t,⟨xs,zs,q1,q2,rfl⟩,ht⟩:=hg;have hlt:i<xs.length/\i<zs.length:=by
   have:=(List.getElem?_eq_some_iff.mp ht).1;simp at this;nofun
  obtain⟨u1,r1,p1,z1⟩:=I.src q1;obtain⟨u2,r2,p2,z2⟩:=I.src q2;have e1:=r1.length;have e2:=r2.length;have tx:t=[xs[i]'hlt.1,zs[i]'hlt.2]:=by
   rw[List.getElem?_zipWith,YK hlt.1,YK hlt.2] at ht;exact (Ym ht).symm
  refine xB (I.ok.hd hc) Z n1 n2 h1 h2 h3 h4 h5 p1 p2 (by simp;nofun) (by simp;nofun) λx y g tk ex ey c1 c2 c3 c4 c5 c6 c7=>⟨_,rfl,?_⟩
  refine wpAny_letOwnedTupleGo_zip (s:={ s with heap:=g,toks:=tk }) c1 λg2 d1 d2=>?_
  replace d2:Heap.SameBut z g g2:=d2;have zs':z<s.heap.objs.size:=Heap.lt_size h1;have rx:cy (xs[i]'hlt.1) x:=by
   obtain⟨u,hu,ru⟩:=r1.get (YK hlt.1);rw[List.getElem?_toArray,hu] at ex;cases ex;exact ru
  have ry:cy (zs[i]'hlt.2) y:=by
   obtain⟨u,hu,ru⟩:=r2.get (YK hlt.2);rw[List.getElem?_toArray,hu] at ey;cases ey;exact ru
  have hf4:∀b∈[z,TO,i1,i2],mR X pins H b:=λb hb=>hf b (by simp only[YY,YZ,Y0] at hb ⊢;rcases hb with e|e|e|e<;>simp[e])
  have I4:aM X pins σ (upd H s.heap.objs.size (.tup t)) { s with heap:=g2,toks:=tk }:=by
   rw[tx];exact I.turnT (its:=[x,y]) (λb o hb e=>d2.extBut _ _ (λe'=>hb (by simp[e'])) (c7 b o hb e)) hf4 (Yq _) (show 2<=sizeLine by decide) (.cons rx (.cons ry .nil)) ⟨_,d2.extBut _ _ (Nat.ne_of_gt zs') c5,rfl,_,rfl⟩
  have fr:=I.hok.fresh (Yq s.heap.objs.size);have nk:=I.newK (Yq s.heap.objs.size);have hTI2:IsPair g2 TI (.ref i1) (.ref i2):=d2.extBut _ _ Z.tiz (c7 TI _ (by simp[Z.tiz,Z.tito,Z.ti1,Z.ti2]) h2)
  refine⟨.ref s.heap.objs.size,_,I4,rfl,⟨_,_,rfl,by rw[eo nk];exact fr,mF (aC.upd fr),by rw[eo nk];exact dA,?_⟩,⟨d1,hTI2,⟨_,_,d2.extBut _ _ Z.toz c2⟩,c3.at λo e=>d2.extBut _ _ Z.z1.symm e,c4.at λo e=>d2.extBut _ _ Z.z2.symm e⟩,λb hb=>?_⟩
  .rintro ys ⟨xs',zs',q1',q2',rfl⟩;cases q1.inj q1';cases q2.inj q2';exact ht
  .have:b<s.heap.objs.size:=by
    simp only[YY,YZ,Y0] at hb;rcases hb with rfl|rfl|rfl|rfl|rfl
    .exact zs'
    .exact Heap.lt_size h3
    .obtain⟨_,e,_⟩:=h4.obj;exact Heap.lt_size e
    .obtain⟨_,e,_⟩:=h5.obj;exact Heap.lt_size e
    .exact Heap.lt_size h2
   rw[cE (Yf this)];exact (hf b hb).1
 done:=by
  intro X hP hw hK hc i pins s σ H E I hf st hg;subst hP hw hK;obtain⟨h1,h2,⟨a,c,h3⟩,h4,h5⟩:=st;obtain⟨ys,⟨xs,zs,q1,q2,rfl⟩,hl⟩:=hg;obtain⟨u1,r1,p1,z1⟩:=I.src q1;obtain⟨u2,r2,p2,z2⟩:=I.src q2;have e1:=r1.length;have e2:=r2.length;have hk:i=u1.toArray.size\/(i<u1.toArray.size/\i=u2.toArray.size):=by
   rw[List.length_zipWith] at hl;simp only[Yt];nofun
  have hf4:∀b∈[z,TO,i1,i2],mR X pins H b:=λb hb=>hf b (by simp only[YY,YZ,Y0] at hb ⊢;rcases hb with e|e|e|e<;>simp[e])
  exact At (I.ok.hd hc) Z n1 n2 h1 h2 h3 h4 h5 p1 p2 hk λg tk k=>⟨rfl,I.turnL k hf4⟩
 self:=λ_ _ _ _ _ st h=>wpAny_pyIter_zip st.1 h
def GS(b:Bool)(l:Addr):Obj:=match b with
 | true=>{ cls:=.type "list_iterator",data:=.fields #[.ref l,.int 0 0] }
 | false=>{ cls:=.type "tuple_iterator",data:=.fields #[.ref l,.int 0 0] }
section
variable {prog:Program}{w:World}{A:Around}{E:Value->Shared->Prop}{s:Shared}
theorem zG{b:Bool}{l:Addr}{u:Array Value}{Q:Value->Shared->Prop}(h:fO b s.heap l u)(q:Q (.ref s.heap.objs.size) { s with heap:=s.heap.push (GS b l) }):wpAny (model prog w) A (pyIter (.ref l)) Q E s:=by
 cases b with
 | true=>exact wpAny_pyIter_list h q
 | false=>exact wpAny_pyIter_tuple h q
end
theorem fO.push{b:Bool}{h:Heap}{l:Addr}{u:Array Value}(x:fO b h l u)(o:Obj):fO b (h.push o) l u:=by
 cases b with
 | true=>obtain⟨v,e,r⟩:=x;exact⟨v,Heap.get?_push_of_some _ e,r⟩
 | false=>obtain⟨v,e,r⟩:=x;exact⟨v,Heap.get?_push_of_some _ e,r⟩
theorem jq.new{b:Bool}{h:Heap}{it l:Addr}(e:h.get? it=some (GS b l)):jq b h it l 0:=by
 cases b with
 | true=>exact⟨_,e,rfl,rfl⟩
 | false=>exact⟨_,e,rfl,rfl⟩
abbrev Lc (h:Heap)(b1:Bool)(l1:Addr):Heap:=h.push (GS b1 l1)
abbrev Lh (h:Heap)(b1 b2:Bool)(l1 l2:Addr):Heap:=(Lc h b1 l1).push (GS b2 l2)
abbrev Lj (h:Heap)(b1 b2:Bool)(l1 l2:Addr):Heap:=(Lh h b1 b2 l1 l2).push { cls:=.type "tuple",data:=.seq #[.ref h.objs.size,.ref (Lc h b1 l1).objs.size] }
abbrev Lk (h:Heap)(b1 b2:Bool)(l1 l2:Addr):Heap:=(Lj h b1 b2 l1 l2).push { cls:=.type "tuple",data:=.seq #[.none,.none] }
abbrev JW (h:Heap)(b1 b2:Bool)(l1 l2:Addr):Heap:=(Lk h b1 b2 l1 l2).push { cls:=.type "zip",data:=.fields #[.none,.bool false,.bool false,.ref (Lh h b1 b2 l1 l2).objs.size,.ref (Lj h b1 b2 l1 l2).objs.size] }
theorem xC(b1 b2:Bool)(l1 l2:Addr)(u1 u2:Array Value) :
  Meets (Builtin.«zip.__new__» ⟨[.type "zip",.ref l1,.ref l2],[]⟩) (λ_ R s=>fO b1 s.heap l1 u1/\fO b2 s.heap l2 u2/\R (.ok (.ret (.ref (Lk s.heap b1 b2 l1 l2).objs.size))) { s with heap:=JW s.heap b1 b2 l1 l2 }) :=
 .of_wp λprog w A R s h=>by
  obtain⟨hp,g,d,tk,os⟩:=s;obtain⟨q1,q2,h⟩:=h;have hsub:=sub_zip;have y1:fO b1 (Shared.heap ⟨hp,g,d,tk,os⟩) l1 u1:=q1;have y2:fO b2 (Shared.heap ⟨hp.push (GS b1 l1),g,d,tk,os⟩) l2 u2:=fO.push q2 _
  wp_walk using zG y1,zG y2
  exact⟨_,rfl,h⟩
section
variable {prog:Program}{w:World}{A:Around}{E:Value->Shared->Prop}{s:Shared}
theorem KA{b1 b2:Bool}{l1 l2:Addr}{u1 u2:Array Value}{Q:Value->Shared->Prop}(q1:fO b1 s.heap l1 u1)(q2:fO b2 s.heap l2 u2)
  (h:∀g,IsZip g (s.heap.objs.size+4) (s.heap.objs.size+2) (s.heap.objs.size+3) .none->IsPair g (s.heap.objs.size+2) (.ref s.heap.objs.size) (.ref (s.heap.objs.size+1))->IsPair g (s.heap.objs.size+3) .none .none ->
   jq b1 g s.heap.objs.size l1 0->jq b2 g (s.heap.objs.size+1) l2 0->(∀c o,s.heap.get? c=some o->g.get? c=some o)->Q (.ref (s.heap.objs.size+4)) { s with heap:=g }) :
  wpAny (model prog w) A (call (.type "zip") [.ref l1,.ref l2]) Q E s:=by
 refine callType_new F.called_zip ∅ (F.typeCall_zip_2 _ _) (F.newCall_zip_2 _ _) (λobj=>F.args_object_init_3 obj _ _) F.entry_zip_new (xC b1 b2 l1 l2 u1 u2) ⟨q1,q2,?_⟩;have v1:(Lc s.heap b1 l1).objs.size=s.heap.objs.size+1:=Heap.size_push ..;have v2:(Lh s.heap b1 b2 l1 l2).objs.size=s.heap.objs.size+2:=by rw[Heap.size_push,v1]
 have v3:(Lj s.heap b1 b2 l1 l2).objs.size=s.heap.objs.size+3:=by rw[Heap.size_push,v2]
 have v4:(Lk s.heap b1 b2 l1 l2).objs.size=s.heap.objs.size+4:=by rw[Heap.size_push,v3]
 have g5:(JW s.heap b1 b2 l1 l2).get? (Lk s.heap b1 b2 l1 l2).objs.size=some _:=Heap.get?_push_size _ rfl;have g4:(JW s.heap b1 b2 l1 l2).get? (Lj s.heap b1 b2 l1 l2).objs.size=some _:=Heap.get?_push_of_some _ (Heap.get?_push_size _ rfl);have g3:(JW s.heap b1 b2 l1 l2).get? (Lh s.heap b1 b2 l1 l2).objs.size=some _:=Heap.get?_push_of_some _ (Heap.get?_push_of_some _ (Heap.get?_push_size _ rfl));have nf:∀b l,(GS b l).isFreed=false:=λb l=>by cases b<;>rfl
 have g2:(JW s.heap b1 b2 l1 l2).get? (Lc s.heap b1 l1).objs.size=some (GS b2 l2):=Heap.get?_push_of_some _ (Heap.get?_push_of_some _ (Heap.get?_push_of_some _ (Heap.get?_push_size _ (nf _ _))));have g1:(JW s.heap b1 b2 l1 l2).get? s.heap.objs.size=some (GS b1 l1):=Heap.get?_push_of_some _ (Heap.get?_push_of_some _ (Heap.get?_push_of_some _ (Heap.get?_push_of_some _ (Heap.get?_push_size _ (nf _ _)))));show _/\_;rw[v2,v3,v4] at g5;rw[v1,v2] at g3;rw[v3] at g4;rw[v1] at g2;rw[v4];exact⟨⟨_,g5,rfl⟩,h _ g5 g3 g4 (.new g1) (.new g2) λc o x=>Heap.get?_push_of_some _ (Heap.get?_push_of_some _ (Heap.get?_push_of_some _ (Heap.get?_push_of_some _ (Heap.get?_push_of_some _ x))))⟩
end
def Ev(K:W.Frag)(ta:TA):TI:=λσ H R=>ta σ H λvs H1=>∃a b,vs=[.ref a,.ref b] /\ ∃c d,(∃xs,qF K c H1 a xs)/\(∃ys,qF K d H1 b ys)/\R (JU K (KU K c d a b)) H1
theorem Jl{X:Cx}{elts:List Expr}{x1:Nat}{tp p pos:Pos}{a b:Expr}{ta:TA}(hg:Gl X "zip") (hm:X.mg "zip" = none) (ha:PA X [a,b] ta)(hs:starEach [a,b] X.env=[(false,eval a X.env),(false,eval b X.env)]:=by rfl)(hs2:starEach [b] X.env=[(false,eval b X.env)]:=by rfl) :
  PI X (.Tuple elts x1 tp) (.Call (.Name "zip" p) [a,b] [] pos) (Ev X.K ta):=by
 intro pins s σ H R I h;refine Call_ (i9 I hg hm Hg (Yr (dH (ha pos pins s σ H _ I h) λus s1 ⟨vs,H1,I1,r1,q1⟩=>?_) (by rw[hs,hs2]) (by rw[hs2];rfl)))
 obtain⟨l1,l2,e,c,d,⟨xs,hx⟩,⟨ys,hy⟩,q⟩:=q1;subst e;cases r1 with
 | cons r rr =>
  cases rr with
  | cons r' rr =>
   cases rr;cases r;cases r';obtain⟨u1,t1,p1,_⟩:=I1.src hx;obtain⟨u2,t2,p2,_⟩:=I1.src hy;refine KA p1 p2 λg c1 c2 c3 c4 c5 k=>?_;refine wpAny_pyIter_zip (s:={ s1 with heap:=g }) c1 ?_
   have m1:l1<s1.heap.objs.size:=by obtain⟨_,e⟩:=p1.obj;exact Heap.lt_size e
   have m2:l2<s1.heap.objs.size:=by obtain⟨_,e⟩:=p2.obj;exact Heap.lt_size e
   refine⟨_,_,_,_,H1,rfl,I1.kept (t':=s1.toks) k,BE _ _ _ _ _ l1 l2 (Mi m1 m2) (Yf m1) (Yf (Nat.lt_succ_of_lt m2)),⟨c1,c2,⟨_,_,c3⟩,c4,c5⟩,λf hf=>?_,q⟩;have hf':s1.heap.objs.size<=f:=by
    simp only[YY,YZ,Y0] at hf;rcases hf with z|z|z|z|z<;>rw[z]
    .exact Nat.le_add_right _ 4
    .exact Nat.le_add_right _ 3
    .exact Yq _
    .exact Nat.le_add_right _ 1
    .exact Nat.le_add_right _ 2
   exact I1.fpOk hf' (I1.hok.fresh hf')
theorem Iy{X:Cx}{elts:List Expr}{x1:Nat}{tp p pos:Pos}{a b:Expr}{ta:TA}(hg:Gl X "zip") (hm:X.mg "zip" = none) (ha:QA X [a,b] ta)(hs:starEach [a,b] X.env=[(false,eval a X.env),(false,eval b X.env)]:=by rfl)(hs2:starEach [b] X.env=[(false,eval b X.env)]:=by rfl) :
  QI X (.Tuple elts x1 tp) (.Call (.Name "zip" p) [a,b] [] pos) (Ev X.K ta):=⟨Jl hg hm ha.h hs hs2⟩
section
variable {X:Cx}{pins:List (Addr×Obj)}{σ:St}{H:Hp}{s:Shared}
theorem aM.kitx(I:aM X pins σ H s) {x:V}{u:Value}{n:String}(rx:cy x u)(hn:EI (vw X.K H) x=some n) :
  ∃G:Heap->Prop,PySem.W.KitX X.K u (.type n) G/\G s.heap/\u ≠ .builtin "__main__.__loader__#opaque" /\ we n:=by
 cases x with
 | non=>cases hn;cases (show u=Value.none from rx);exact⟨_,PySem.W.kitx_none,True.intro,(λz=>nomatch z),.inl rfl⟩
 | bl b=>cases hn;cases (show u=Value.bool b from rx);exact⟨_,PySem.W.kitx_bool,True.intro,(λz=>nomatch z),.inr (.inl rfl)⟩
 | int b=>cases hn;obtain⟨t,q⟩:=(show ∃t,u=Value.int b t from rx);cases q;exact⟨_,PySem.W.kitx_int,True.intro,(λz=>nomatch z),.inr (.inr (.inl rfl))⟩
 | str b=>cases hn;obtain⟨t,q⟩:=(show ∃t,u=Value.str b t from rx);cases q;exact⟨_,PySem.W.kitx_str,True.intro,(λz=>nomatch z),.inr (.inr (.inr (.inl rfl)))⟩
 | flt b=>cases hn
 | byt b=>cases hn
 | ty b=>cases hn
 | ref a =>
  cases (show u=Value.ref a from rx)
  unfold EI at hn;dsimp only at hn;split at hn
  .rename_i xs e
   cases hn;obtain⟨_,_,k,_,h1⟩:=(show dY X.prog X.w H s.heap a (.lst xs) from I.hok a _ (aH e))
   exact⟨_,PySem.W.kitx_list,⟨_,h1,rfl⟩,(λz=>nomatch z),.inr (.inr (.inr (.inr (.inl rfl))))⟩
  .rename_i o xs e
   cases hn;obtain⟨h0,h1⟩:=(show dY X.prog X.w H s.heap a (.frz o (.lst xs)) from I.hok a _ (mX e λ_ z=>by cases z))
   obtain⟨_,_,k,_,h1⟩:=h1;exact⟨_,PySem.W.kitx_list,⟨_,h1,rfl⟩,(λz=>nomatch z),.inr (.inr (.inr (.inr (.inl rfl))))⟩
  .rename_i ys e
   cases hn;obtain⟨its,rv,⟨o,h1,h2,_⟩,hz⟩:=I.tuple (jF e);exact⟨_,PySem.W.kitx_tuple,⟨o,h1,h2⟩,(λz=>nomatch z),.inr (.inr (.inr (.inr (.inr (.inl rfl)))))⟩
  .rename_i kvs e
   cases hn;obtain⟨_,_,vs,_,d⟩:=(show dY X.prog X.w H s.heap a (.dK kvs) from I.hok a _ (mX e λ_ z=>by cases z))
   obtain⟨o,es,ep,h1,h2,_⟩:=d;exact⟨_,PySem.W.kitx_dict,⟨o,h1,h2.1⟩,(λz=>nomatch z),.inr (.inr (.inr (.inr (.inr (.inr rfl)))))⟩
  .cases hn
theorem Iu{K:W.Frag}{n:String}(hn:we n):PySem.W.kitAny K (.type n) [.type "tuple",.type "list"]=some (kG n "tuple" || kG n "list"):=by
 rcases hn with rfl|rfl|rfl|rfl|rfl|rfl|rfl<;>rfl
theorem qV:eV X (.builtin "isinstance") (λxs H Q=>∃x n p,xs=[x,.ref p]/\vw X.K H p=some (.tup [.ty "tuple",.ty "list"])/\EI (vw X.K H) x=some n/\Q (.bl (kG n "tuple" || kG n "list")) H):=by
 intro pins s σ H xs us Q I r h;obtain⟨x,n,p,rfl,hp,hn,q⟩:=h;obtain⟨u,w',rfl,rx,ry⟩:=xW r;cases ry;obtain⟨G,Z,g,hu,tn⟩:=I.kitx rx hn;obtain⟨its,rv,⟨o,h1,h2,k,h3⟩,hz⟩:=I.tuple (jF hp);obtain⟨oc,od,odt,osl⟩:=o;dsimp only at h2 h3;subst h2 h3;cases rv with
 | cons r1 rv =>
  cases rv with
  | cons r2 rv =>
   cases rv;cases r1;cases r2;exact PySem.W.kia_tup Z I.kIn g h1 (Iu tn) hu λtk=>⟨.bl _,H,I.tok tk,rfl,q⟩
theorem yy:∀{bs:List Bool}{us:List Value},bC (bs.map V.bl) us->us=bs.map Value.bool
 | [],us,h=>by cases h;rfl
 | b::bs,us,h=>by
  cases h with
  | cons r rr =>
   cases r;rw[yy rr];rfl
theorem zM{bs:List Bool}:(List.range bs.length).all (λi=>bs.getD i true)=bs.all id:=by
 induction bs with
 | nil=>rfl
 | cons b bs ih =>
  rw[Y5,List.range_succ_eq_map,List.all_cons,List.all_cons,List.all_map];have e:((λi=>(b::bs).getD i true) ∘ Nat.succ)=λi=>bs.getD i true:=by
   funext i;simp
  rw[e,ih];rfl
theorem AA(hh:X.calm=true):eV X (.builtin "all") (λxs H Q=>∃p,xs=[.ref p] /\ ∃bs:List Bool,vw X.K H p=some (.lst (bs.map V.bl))/\Q (.bl (bs.all id)) H):=by
 intro pins s σ H xs us Q I r h;obtain⟨p,rfl,bs,hp,q⟩:=h;cases r with
 | cons r1 rr =>
  cases rr;cases r1;obtain⟨its,rv,pl,hz⟩:=I.list (kQ.of (K:=X.K) (aH hp));have e:=yy rv;subst e;have hlt:p<s.heap.objs.size:=by obtain⟨o,n,e1,_⟩:=pl;exact Heap.lt_size e1
  refine call_all_walk (wpAny_pyIter_list pl.isList ⟨s.heap.objs.size,_,_,_,_,_,λi=>bs.getD i true,rfl,Walks.list (show X.A.in1.handled=none from I.ok.hd hh) _ p (Yf hlt) _,⟨⟨_,Heap.get?_push_size _ rfl,rfl,rfl⟩,pl.isList.push _⟩,?_,λh' tk hk=>?_⟩)
  .intro i v s' Q' E' hv hq;have hv':(bs.map Value.bool)[i]? = some v:=by simpa using hv
   rw[YA] at hv';cases hb:bs[i]? with
   | none=>rw[hb] at hv';cases hv'
   | some b =>
    rw[hb] at hv';cases hv';replace hq:Q' (bs.getD i true) s':=hq;rw[Y6,hb] at hq;exact wpAny_truthy_bool hq
  .rw[Yt,YD,zM];refine⟨.bl _,H,I.kept λb o e=>hk b o (λz=>?_) (Heap.get?_push_of_some _ e),rfl,q⟩;rw[XY.mp z] at e;exact absurd (Heap.lt_size e) (Ye _)
end
def EO(K:W.Frag)(a:Addr)(σr:St)(Pv:List V->Hp->Prop):St->Hp->Prop:=λσ H=>(∃y z,σ=y::z::σr) /\ ∃xs,vw K H a=some (.lst xs)/\Pv xs H
theorem AI{K:W.Frag}{R:Hp->List (List V)->Prop}{ps:List (V×V)}{tif:TT}{te:TE}{a:Addr}{x0 x1:Option V}{σr:St}{H0:Hp}{Q:Hp->Prop}(Pv:Nat->List V->Hp->Prop)
  (hl:∀i xs H,i<=ps.length->vw K H a=some (.lst xs)->Pv i xs H->R H (ps.map λp=>[p.1,p.2]))(ha:vw K H0 a=some (.lst []))(h0:Pv 0 [] H0)
  (hs:∀i x y xs H H',i<ps.length->ps[i]? = some (x,y)->vw K H' a=some (.lst xs)->Pv i xs H->aC (vw K H) (vw K H')->tif (some x::some y::σr) H' λb H3=>if b=true then te (some x::some y::σr) H3 (Hh K a (EO K a σr (Pv (i+1)) (some x::some y::σr))) else EO K a σr (Pv (i+1)) (some x::some y::σr) H3)
  (hd:∀xs H,vw K H a=some (.lst xs)->Pv ps.length xs H->Q H):mP K (JU K R) (nZ K 2 (kH (ir 0) (kH (ir 1) wr))) tif te a (x0::x1::σr) H0 Q:=by
 refine⟨λi m σ H=>m=ps.length-i/\i<=ps.length/\EO K a σr (Pv i) σ H,⟨ps.length,by simp,YS _,⟨_,_,rfl⟩,_,ha,h0⟩,?_⟩
 rintro i m σ H ⟨rfl,hi,⟨y,z,rfl⟩,xs,hxs,p⟩;have q:=hl i xs H hi hxs p;by_cases hlt:i<ps.length
 .refine .inr ⟨⟨_,_,q,by rw[YA,YK hlt];rfl⟩,EO K a σr (Pv (i+1)),λσ' H' p'=>⟨ps.length-(i+1),(),rfl,hlt,p'⟩,λx H' y=>?_⟩
  obtain⟨b,t,rfl,y1,y2,y3,y4⟩:=y;have e:=y4 _ q;rw[YA,YK hlt] at e;cases e;exact⟨b,rfl,_,y3,rfl,_,_,rfl,_,_,rfl,rfl,hs i _ _ xs H H' hlt (YK hlt) (y2 _ _ hxs) p y2⟩
 .have e:i=ps.length:=();subst e;exact .inl ⟨⟨_,q,by simp⟩,hd xs H hxs p⟩
theorem Hh.mk2{K:W.Frag}{a:Addr}{σr:St}{Pv:List V->Hp->Prop}{x y:Option V}{v:V}{H:Hp}{xs:List V}(h:vw K H a=some (.lst xs))(hz:xs.length<sizeLine)
  (q:∀H5,jg a (vw K H) (vw K H5)->vw K H5 a=some (.lst (xs++[v]))->Pv (xs++[v]) H5):Hh K a (EO K a σr Pv (x::y::σr)) v H:=⟨xs,h,hz,λH5 B h5=>⟨⟨_,_,rfl⟩,_,h5,q H5 B h5⟩⟩
theorem DN{xs ys:List V}:List.zipWith (λx z=>[x,z]) xs ys=(xs.zip ys).map λp=>[p.1,p.2]:=by
 rw[List.zip,List.map_zipWith]
def D.sm:Nat->D->Bool
 | 0,_=>false
 | n+1,.tup ds=>decide (ds.length<=1000) && ds.all (D.sm n)
 | n+1,.lst ds=>decide (ds.length<=1000) && ds.all (D.sm n)
 | _+1,.dict=>false
 | _+1,_=>true
theorem Ky{n:Nat}{q:Int×Int}:(fr q).sm (n+2)=true:=rfl
theorem Cv{n:Nat}{qs:List (Int×Int)}(h:qs.length<=1000):(D.lst (qs.map fr)).sm (n+3)=true:=by
 show (decide ((qs.map fr).length<=1000) && (qs.map fr).all (D.sm (n+2)))=true;rw[YD,YI h,Bool.true_and];refine List.all_eq_true.mpr λd hd=>?_;obtain⟨q,_,rfl⟩:=List.mem_map.mp hd;exact Ky
theorem Hl{H:Hp}{ds:List D}{xs ys:List V}(r1:aI H ds xs)(r2:aI H ds ys) {i:Nat}{x y:V}(h:(xs.zip ys)[i]? = some (x,y)):∃d,d∈ds/\aP H d x/\aP H d y:=by
 rw[List.getElem?_zip_eq_some] at h;obtain⟨d,e1,q1⟩:=r1.get h.1;obtain⟨d',e2,q2⟩:=r2.get h.2;rw[e1] at e2;cases e2;exact⟨d,YB e1,q1,q2⟩
def wv(q:Int×Int):Rat:=(q.1:Rat)/(q.2:Rat)
theorem aq{b:Int}(h:b≠0):(b:Rat)≠0:=by simpa using h
theorem gS{a b:Int}(hb:b≠0):wv (lo a b)=(a:Rat)/(b:Rat):=by
 have e1:=fD (a:=a) hb;have e2:=fK (a:=a) hb;have hg:=aq (DG (a:=a) hb);have hd:(lo a b).2≠0:=by have:=(iP (a:=a) hb).1;nofun
 have hd':=aq hd;have c1:((lo a b).1:Rat)*(lg a b:Rat)=(a:Rat):=by
  have:=Yn (λi:Int=>(i:Rat)) e1;simpa using this
 have c2:((lo a b).2:Rat)*(lg a b:Rat)=(b:Rat):=by
  have:=Yn (λi:Int=>(i:Rat)) e2;simpa using this
 unfold wv;rw[<-c1,<-c2];grind
theorem yK{a b c:Int}(h:b∣a*c)(hg:Int.gcd a b=1):b∣c:=by
 have h1:b.natAbs∣a.natAbs*c.natAbs:=by
  rw[<-YU];exact Int.natAbs_dvd_natAbs.mpr h
 have h2:Nat.Coprime b.natAbs a.natAbs:=by
  unfold Nat.Coprime;rw[Nat.gcd_comm];exact hg
 exact Int.natAbs_dvd_natAbs.mp (Y7 h2 h1)
theorem ju{p q:Int×Int}(hp:Fq p)(hq:Fq q)(h:wv p=wv q):p=q:=by
 have h1:=aq (show p.2≠0 by have:=hp.1;nofun)
 have h2:=aq (show q.2≠0 by have:=hq.1;nofun)
 have e:p.1*q.2=q.1*p.2:=by
  unfold wv at h;have:(p.1:Rat)*(q.2:Rat)=(q.1:Rat)*(p.2:Rat):=⋯;have h3:((p.1*q.2:Int):Rat)=((q.1*p.2:Int):Rat):=by simpa using this
  exact Rat.intCast_inj.mp h3
 have d1:p.2∣q.2:=by
  have:p.2∣p.1*q.2:=⟨q.1,by rw[e,Y4]⟩
  exact yK this hp.2
 have d2:q.2∣p.2:=by
  have:q.2∣q.1*p.2:=⟨p.1,by rw[<-e,Y4]⟩
  exact yK this hq.2
 have e2:p.2=q.2:=Int.dvd_antisymm (YR hp.1) (YR hq.1) d1 d2;rw[e2] at e;have e1:p.1=q.1:=Y8 (by have:=hq.1;nofun) e
 exact Prod.ext e1 e2
theorem tN{p q:Int×Int}(hp:p.2≠0)(hq:q.2≠0):wv (nA p q)=wv p+wv q:=by
 unfold nA;rw[gS (Y9 hp hq)];unfold wv;have h1:=aq hp;have h2:=aq hq;simp only[Xa,Xb];grind
def qo(p q:Int×Int):Int×Int:=lo (p.1*q.1) (p.2*q.2)
theorem oN{p q:Int×Int}(hp:Fq p)(hq:Fq q):Fq (qo p q):=iP (by have:=Y2 hp.1 hq.1;nofun)
theorem y8{p q:Int×Int}{m n:Nat}(hp:Fq p)(hq:Fq q)(h1:Bq m p)(h2:Bq n q):Bq (m+n) (qo p q):=lM (by have:=Y2 hp.1 hq.1;nofun) (h1.1.mul h2.1) (h1.2.mul h2.2)
theorem sG{p q:Int×Int}(hp:p.2≠0)(hq:q.2≠0):wv (qo p q)=wv p*wv q:=by
 unfold qo;rw[gS (Y9 hp hq)];unfold wv;have h1:=aq hp;have h2:=aq hq;simp only[Xb];grind
section
variable {X:Cx}
theorem mG:Gx X .Mult (λx y H Q=>∃i j,x=.int i/\y=.int j/\IntMulOk i j/\Q (.int (i*j)) H):=by
 intro pins s σ H x y v u Q I r1 r2 h;obtain⟨i,j,rfl,rfl,m,q⟩:=h;obtain⟨t,rfl⟩:=r1;obtain⟨t',rfl⟩:=r2;exact imul_int ⟨.int _,H,I.tok _,⟨_,rfl⟩,q⟩ m
theorem kZ{st:Stmt}:QS X st wD:=⟨Bo⟩
end
theorem wq{K:W.Frag}{J:It}{its:List V}{ps:List (V×V)}{tif:TT}{te:TE}{a:Addr}{x0 x1:Option V}{σr:St}{H0:Hp}{Q:Hp->Prop}(Pv:Nat->List V->Hp->Prop)(hlen:its.length=ps.length)
  (hl:∀i xs H,i<=its.length->vw K H a=some (.lst xs)->Pv i xs H->qC J H its /\ ∀(j:Nat)(x y:V),ps[j]? = some (x,y) -> ∃p:Addr,its[j]? = some (V.ref p)/\vw K H p=some (HO.tup [x,y]))(ha:vw K H0 a=some (.lst []))(h0:Pv 0 [] H0)
  (hs:∀i x y xs H,i<ps.length->ps[i]? = some (x,y)->vw K H a=some (.lst xs)->Pv i xs H->tif (some x::some y::σr) H λb H3=>if b=true then te (some x::some y::σr) H3 (Hh K a (EO K a σr (Pv (i+1)) (some x::some y::σr))) else EO K a σr (Pv (i+1)) (some x::some y::σr) H3)
  (hd:∀xs H,vw K H a=some (.lst xs)->Pv ps.length xs H->Q H):mP K J (nZ K 2 (kH (ir 0) (kH (ir 1) wr))) tif te a (x0::x1::σr) H0 Q:=by
 refine⟨λi m σ H=>m=ps.length-i/\i<=ps.length/\EO K a σr (Pv i) σ H,⟨ps.length,by simp,YS _,⟨_,_,rfl⟩,_,ha,h0⟩,?_⟩
 rintro i m σ H ⟨rfl,hi,⟨y,z,rfl⟩,xs,hxs,p⟩;obtain⟨⟨q1,q2,q3⟩,q4⟩:=hl i xs H () hxs p;by_cases hlt:i<ps.length
 .refine .inr ⟨q1 i (),EO K a σr (Pv (i+1)),λσ' H' p'=>⟨ps.length-(i+1),(),rfl,hlt,p'⟩,λx H' y=>?_⟩;obtain⟨e,y2⟩:=q2 i x H' () y;subst e;obtain⟨b,e1,e2⟩:=q4 i _ _ (YK hlt);rw[e1] at y2;cases y2;exact⟨b,rfl,_,e2,rfl,_,_,rfl,_,_,rfl,rfl,hs i _ _ xs _ hlt (YK hlt) hxs p⟩
 .have e:i=ps.length:=();subst e;exact .inl ⟨hlen▸q3,hd xs H hxs p⟩
theorem gI{g q:Int}(hg:g≠0)(h:g∣q):q.fdiv g*g=q:=by
 obtain⟨m,rfl⟩:=h;rw[Y4 g m,Int.mul_fdiv_cancel m hg]
theorem yD{a b:Int}(ha:0<=a)(hb:1<=b):a<=a*b:=by
 have:=Int.mul_le_mul_of_nonneg_left hb ha;nofun
theorem ux{b q:Int}(hb:0<b)(hq:0<q):0<q.fdiv (Int.gcd b q:Int)/\q.fdiv (Int.gcd b q:Int)<=q/\q∣b*q.fdiv (Int.gcd b q:Int)/\(Int.gcd b q:Int)≠0/\(Int.gcd b q:Int)<=q:=by
 have hg:(Int.gcd b q:Int)≠0:=by
  have:Int.gcd b q≠0:=λe=>by
   have:=(Int.gcd_eq_zero_iff.mp e).2;nofun
  nofun
 have hg0:0<(Int.gcd b q:Int):=();have e:=gI hg (YQ b q);have hle:(Int.gcd b q:Int)<=q:=Int.le_of_dvd hq (YQ b q);generalize q.fdiv (Int.gcd b q:Int)=c at e;obtain⟨m,hm⟩:=YO b q;have hc:0<c:=by
  refine Int.pos_of_mul_pos_left ?_ hg0;rw[e];exact hq
 refine⟨hc,?_,⟨m,?_⟩,hg,hle⟩
 .rw[<-e];exact yD () ()
 .rw[<-e];generalize (Int.gcd b q:Int)=g at *
  rw[hm];rw[Int.mul_right_comm,Y4 c g]
theorem Bt.le{n:Nat}{x y:Int}(h:Bt n y)(h0:0<=x)(hl:x<=y):Bt n x:=by
 unfold Bt at *
 nofun
theorem vp{q:Int×Int}{D:Int}{m n:Nat}(hq:Fq q)(hd:q.2∣D)(hD:0<D)(b1:Bt m D)(b2:Bt n q.1):((q.1*D.fdiv q.2:Int):Rat)=wv q*(D:Rat)/\Bt (m+n) (q.1*D.fdiv q.2)/\Bt m (D.fdiv q.2):=by
 have h2:q.2≠0:=by have:=hq.1;nofun
 have e:=gI h2 hd;have hp:0<D.fdiv q.2:=by
  refine Int.pos_of_mul_pos_left ?_ hq.1;rw[e];exact hD
 have hle:D.fdiv q.2<=D:=by
  have:=yD (YR hp) (show 1<=q.2 by have:=hq.1;nofun)
  rw[e] at this;exact this
 have bm:=b1.le (YR hp) hle;refine⟨?_,(b2.mul bm).mono (),bm⟩;generalize D.fdiv q.2=c at *
 have h3:=aq h2;rw[<-e];unfold wv;simp only[Xb];grind
def cQ(x:Rat):Nat->Rat
 | 0=>1
 | k+1=>cQ x k*x
theorem mT(x:Rat)(k:Nat):cQ x (k+1)=cQ x k*x:=rfl
theorem Jf(c:gP):(oh c).py=.tuple [.tuple [.int c.1.1,.int c.1.2],.tuple [.int c.2.1,.int c.2.2]]:=by
 unfold oh fr;simp only[D.py,D.pys]
theorem xM:∀(cs:List gP),PyData.canLayAll0 (D.pys (cs.map oh))=true/\PyData.depthAll (D.pys (cs.map oh))<=5
 | []=>by
  simp only[List.map_nil,D.pys];exact⟨rfl,by simp[PyData.depthAll]⟩
 | c::cs=>by
  obtain⟨h1,h2⟩:=xM cs;simp only[YE,D.pys,Jf,PyData.canLayAll0,PyData.canLay0,h1,PyData.depthAll,PyData.depth];refine⟨∅,?_⟩;nofun
theorem qx(cs:List gP):(D.lst (cs.map oh)).cmp:=by
 obtain⟨h1,h2⟩:=xM cs;unfold D.cmp;simp only[D.py,PyData.canLay0,PyData.depth];exact⟨h1,()⟩
theorem vm{d:D}(h:d.cmp):F8 d d=true:=SeqAt.eqv_refl _ h.1
def LM(K:W.Frag)(a:Addr)(n:Nat):It :=
 ⟨λi H=>∃xs,kQ K H a xs/\xs.length=n/\i<n,λi H x H'=>H'=H /\ ∀xs,kQ K H a xs->xs[n-1-i]? = some x,λi _=>i=n⟩
theorem BG{P:Program}{w:World}{K:W.Frag}{tg:Expr}(a it:Addr)(n:Nat):wj P w K tg (LM K a n) [it] it (λi h=>h.IsRevIter it a ((n:Int)-1-(i:Int))) where
 mem:=by simp
 obj:=λi h st b hb=>by
  have e:b=it:=by simpa using hb
  subst e;obtain⟨o,e,c,d⟩:=st;exact⟨o,e,λv z=>by rw[d] at z;cases z⟩
 keep:=λi h h' st k=>st.at λo e=>k it (by simp) o e
 item:=by
  intro X hP hw hK hc i pins s σ H E I hf st hg;subst hP hw hK;obtain⟨xs,hq,hl,hi⟩:=hg;obtain⟨its,rv,p,hz⟩:=I.list hq;have hx:xs[n-1-i]? = some (xs[n-1-i]'()):=YK ();obtain⟨u,hu,ru⟩:=rv.get hx;obtain⟨f0,f1,f2,f3,f4,f5⟩:=hf it (by simp)
  have e:(n:Int)-1-(i:Int)=((n-1-i:Nat):Int):=();have st2:s.heap.IsRevIter it a ((n-1-i:Nat):Int):=e▸st;refine wpAny_pyNext_rev_item st2 p.isList (x:=u) (by simpa using hu) λh' st' sb=>?_
  have I1:aM X pins σ H { s with heap:=h' }:=I.turned (t':=s.toks) (λb o hb e=>(sb.2 b hb).trans e) f0 f1 f3 f4 f5
  obtain⟨o,e1,c,d⟩:=id st';refine⟨u,rfl,yC (s:={ s with heap:=h' }) e1 c d ∅ ⟨_,H,I1,ru,⟨rfl,λys hy=>by rw[I.list_inj hy hq];exact hx⟩,?_,λb hb=>(hf b hb).1⟩⟩
  rw[show (n:Int)-1-((i+1:Nat):Int)=((n-1-i:Nat):Int)-1 by nofun]
  exact st'
 done:=by
  intro X hP hw hK hc i pins s σ H E I hf st hg;subst hP hw hK;have hg':i=n:=hg;subst hg';obtain⟨f0,f1,f2,f3,f4,f5⟩:=hf it (by simp)
  have st2:s.heap.IsRevIter it a (-1):=by
   have e:(i:Int)-1-(i:Int) = -1:=();exact e▸st
  exact wpAny_pyNext_rev_end (I.ok.hd hc) st2 λh' eb=>⟨rfl,I.turned (t':=s.toks) (λb o hb e=>eb b o hb e) f0 f1 f3 f4 f5⟩
 self:=λ_ _ _ _ _ st h=>wpAny_pyIter_revIter st h
def Fc(K:W.Frag)(ta:TA):TI:=λσ H R=>ta σ H λvs H1=>∃a,vs=[.ref a] /\ ∃xs,vw K H1 a=some (.lst xs)/\R (LM K a xs.length) H1
theorem Jk{X:Cx}{tg:Expr}{p pos:Pos}{a:Expr}{ta:TA}(hg:Gl X "reversed") (hm:X.mg "reversed" = none) (ha:PA X [a] ta)(hs:starEach [a] X.env=[(false,eval a X.env)]:=by rfl) :
  PI X tg (.Call (.Name "reversed" p) [a] [] pos) (Fc X.K ta):=by
 intro pins s σ H R I h;refine Call_ (i9 I hg hm vz (Yr (dH (ha pos pins s σ H _ I h) λus s1 ⟨vs,H1,I1,r1,q1⟩=>?_) hs rfl));obtain⟨b,e,xs,hx,q⟩:=q1;subst e;cases r1 with
 | cons r rr =>
  cases rr;cases r;obtain⟨its,rv,pl,hz⟩:=I1.list (kQ.of (K:=X.K) (aH hx));have hl:=rv.length;refine call_reversed_list pl.isList ?_;have st:(s1.heap.push (revObj b ((its.toArray.size:Int)-1))).IsRevIter s1.heap.objs.size b ((its.toArray.size:Int)-1):=⟨_,Heap.get?_push_size _ rfl,rfl,rfl⟩;refine wpAny_pyIter_revIter (s:={ s1 with heap:=s1.heap.push (revObj b ((its.toArray.size:Int)-1)) }) st ?_
  refine⟨_,[s1.heap.objs.size],_,_,H1,rfl,I1.kept (t':=s1.toks) λc o e=>Heap.get?_push_of_some _ e,BG b _ xs.length,?_,λc hc=>?_,q⟩
  .show Heap.IsRevIter _ _ _ _;have e:(xs.length:Int)-1-((0:Nat):Int)=(its.toArray.size:Int)-1:=by simp;nofun
   rw[e];exact st
  .have e:c=s1.heap.objs.size:=by simpa using hc
   subst e;exact I1.fpOk (Yq _) (I1.hok.fresh (Yq _))
theorem CO{X:Cx}{tg:Expr}{p pos:Pos}{a:Expr}{ta:TA}(hg:Gl X "reversed") (hm:X.mg "reversed" = none) (ha:QA X [a] ta)(hs:starEach [a] X.env=[(false,eval a X.env)]:=by rfl) :
  QI X tg (.Call (.Name "reversed" p) [a] [] pos) (Fc X.K ta):=⟨Jk hg hm ha.h hs⟩
theorem q9{K:W.Frag}{H:Hp}{a:Addr}{xs:List V}(h:vw K H a=some (.lst xs)):qC (LM K a xs.length) H xs.reverse:=by
 refine⟨λi hi=>⟨xs,.of (aH h),rfl,by simpa using hi⟩,λi x H' hi y=>⟨y.1,?_⟩,by show xs.reverse.length=xs.length;simp⟩
 rw[List.getElem?_reverse (by simpa using hi)]
 exact y.2 xs (.of (aH h))
def xA(p q:Int×Int):Int×Int:=lo (p.1*q.2-q.1*p.2) (p.2*q.2)
def tO(p q:Int×Int):Int×Int:=lo (p.1*q.2) (p.2*q.1)
theorem FF{p q:Int×Int}(hp:Fq p)(hq:Fq q):Fq (xA p q):=iP (by have:=Y2 hp.1 hq.1;nofun)
theorem yk{p q:Int×Int}(hp:Fq p)(h0:q.1≠0):Fq (tO p q):=iP (Y9 (by have:=hp.1;nofun) h0)
theorem EC{p q:Int×Int}{m n:Nat}(hp:Fq p)(hq:Fq q)(h1:Bq m p)(h2:Bq n q):Bq (m+n+1) (xA p q):=by
 refine lM (by have:=Y2 hp.1 hq.1;nofun) ?_ ((h1.2.mul h2.2).mono ())
 exact ((h1.1.mul h2.2).sub (h2.1.mul h1.2)).mono ()
theorem xP{p q:Int×Int}{m n:Nat}(hp:Fq p)(h0:q.1≠0)(h1:Bq m p)(h2:Bq n q):Bq (m+n) (tO p q):=lM (Y9 (by have:=hp.1;nofun) h0) (h1.1.mul h2.2) (h1.2.mul h2.1)
theorem HP{p q:Int×Int}(hp:p.2≠0)(hq:q.2≠0):wv (xA p q)=wv p-wv q:=by
 unfold xA;rw[gS (Y9 hp hq)];unfold wv;have h1:=aq hp;have h2:=aq hq;simp only[Xc,Xb];grind
theorem DC{p q:Int×Int}(hp:p.2≠0)(hq:q.2≠0)(h0:q.1≠0):wv (tO p q)=wv p/wv q:=by
 unfold tO;rw[gS (Y9 hp h0)];unfold wv;have h1:=aq hp;have h2:=aq hq;have h3:=aq h0;simp only[Xb];grind
theorem iA{q:Int×Int}(hq:q.2≠0):wv q=0↔q.1=0:=by
 have h2:=aq hq;unfold wv;constructor
 .intro h;have:(q.1:Rat)=0:=⋯;simpa using this
 .intro h;have:(q.1:Rat)=0:=by rw[h];rfl
  rw[this];grind
def cf(qs:List (Int×Int))(k:Nat):Rat:=match qs[k]? with
 | some q=>wv q
 | none=>0
def aS(qs:List (Int×Int)):Prop:=(∀q∈qs,Fq q) /\ ∀q,qs.getLast? = some q->q.1≠0
theorem Fq.ne{q:Int×Int}(h:Fq q):q.2≠0:=by have:=h.1;nofun
theorem bN{qs:List (Int×Int)}{k:Nat}{q:Int×Int}(h:qs[k]? = some q):cf qs k=wv q:=by unfold cf;rw[h]
theorem aJ{qs:List (Int×Int)}{k:Nat}(h:qs.length<=k):cf qs k=0:=by unfold cf;rw[Xd h]
theorem A9(k:Nat):cf [] k=0:=rfl
theorem uE{as bs:List (Int×Int)}(ha:aS as)(h:∀k,cf as k=cf bs k):as.length<=bs.length:=by
 by_cases hl:as.length<=bs.length
 .exact hl
 .have hn:0<as.length:=();have e1:as[as.length-1]? = some (as[as.length-1]'()):=YK ();have e2:=h (as.length-1);rw[bN e1,aJ ()] at e2;have f:=ha.1 _ (YJ (l:=as) (n:=as.length-1) ());exact absurd ((iA f.ne).mp e2) (ha.2 _ (by rw[Xe];exact e1))
theorem By{as bs:List (Int×Int)}(ha:aS as)(hb:aS bs)(h:∀k,cf as k=cf bs k):as=bs:=by
 have hl:as.length=bs.length:=Nat.le_antisymm (uE ha h) (uE hb λk=>(h k).symm);apply List.ext_getElem?
 intro i;by_cases hi:i<as.length
 .have e1:=YK hi;have e2:=YK (show i<bs.length by nofun)
  have:=h i;rw[bN e1,bN e2] at this;rw[e1,e2,ju (ha.1 _ (YJ hi)) (hb.1 _ (YJ _)) this]
 .rw[Xd (),Xd ()]
theorem sW{qs:List (Int×Int)}{n:Nat}(hF:∀q∈qs,Fq q)(hz:∀q∈qs.drop n,q.1=0)(k:Nat):cf (qs.take n) k=cf qs k:=by
 by_cases hk:k<n
 .unfold cf;rw[Xf,Yb hk]
 .unfold cf;rw[Xf,Yc hk];cases e:qs[k]? with
  | none=>rfl
  | some q =>
   have hm:q∈qs.drop n:=YB (i:=k-n) (by rw[List.getElem?_drop,show n+(k-n)=k by nofun];exact e)
   exact ((iA (hF q (YB e)).ne).mpr (hz q hm)).symm
theorem yl{q:Int×Int}(h:Fq q):q=(0,1)↔q.1=0:=by
 constructor
 .rintro rfl;rfl
 .intro e;obtain⟨h1,h2⟩:=h;rw[e] at h2;have:q.2.natAbs=1:=by simpa using h2
  exact Prod.ext e (by show q.2=1;nofun)
def ga:List Int->Rat->Rat
 | [],_=>0
 | n::ns,x=>(n:Rat)+x*ga ns x
def JZ:List (Int×Int)->Rat->Rat
 | [],_=>0
 | q::qs,x=>wv q+x*JZ qs x
theorem vb{D:Rat}{x:Rat}:∀{qs:List (Int×Int)}{ns:List Int},ns.length=qs.length->(∀(i:Nat)(n:Int)(q:Int×Int),ns[i]? = some n->qs[i]? = some q->(n:Rat)=wv q*D)->ga ns x=JZ qs x*D
 | [],[],_,_=>by show (0:Rat)=0*D;grind
 | [],_::_,h,_=>by simp at h
 | _::_,[],h,_=>by simp at h
 | q::qs,n::ns,h,hw=>by
  have ih:=vb (D:=D) (x:=x) (qs:=qs) (ns:=ns) (by simpa using h) λi n d e1 e2=>hw (i+1) n d (by simpa using e1) (by simpa using e2)
  have h0:=hw 0 n q rfl rfl;show (n:Rat)+x*ga ns x=(wv q+x*JZ qs x)*D;rw[ih,h0];grind
theorem qW{α:Type}{l:List α}{j:Nat}(h:j<l.length):l.drop (l.length-(j+1))=l[l.length-1-j]'()::l.drop (l.length-j):=by
 rw[Xg (show l.length-(j+1)<l.length by nofun)]
 have e1:l.length-(j+1)=l.length-1-j:=();have e2:l.length-(j+1)+1=l.length-j:=();simp only[e1,e2];congr 2
 nofun
def pz(f g:Nat->Int):Nat->Nat->Int
 | 0,_=>0
 | j+1,k=>pz f g j k+if j<=k then f j*g (k-j) else 0
def pr(f g:Nat->Rat):Nat->Nat->Rat
 | 0,_=>0
 | j+1,k=>pr f g j k+if j<=k then f j*g (k-j) else 0
theorem lH{f g:Nat->Int}{F G:Nat->Rat}{c d:Rat}(hf:∀i,(f i:Rat)=F i*c)(hg:∀i,(g i:Rat)=G i*d):∀j k,((pz f g j k:Int):Rat)=pr F G j k*(c*d)
 | 0,k=>by
  show ((0:Int):Rat)=0*(c*d);grind
 | j+1,k=>by
  show (((pz f g j k+if j<=k then f j*g (k-j) else 0:Int)):Rat)=(pr F G j k+if j<=k then F j*G (k-j) else 0)*(c*d)
  rw[Xa,lH hf hg j k];split
  .rw[Xb,hf,hg];grind
  .grind
theorem mw{n:Nat}:Bt n 0:=by
 show (0:Int).natAbs<2^n;exact Nat.two_pow_pos n
theorem GO{f g:Nat->Int}{m n:Nat}(hf:∀i,Bt m (f i))(hg:∀i,Bt n (g i)):∀j k,Bt (m+n+j) (pz f g j k)
 | 0,k=>mw
 | j+1,k=>by
  have h1:=GO hf hg j k;have h2:Bt (m+n) (if j<=k then f j*g (k-j) else 0):=by
   split
   .exact (hf j).mul (hg _)
   .exact mw
  exact (h1.add h2).mono ()
def qz(f g:Nat->Int)(j l k:Nat):Int:=pz f g j k+if j<=k/\k-j<l then f j*g (k-j) else 0
theorem LC(f g:Nat->Int)(j k:Nat):qz f g j 0 k=pz f g j k:=by simp[qz]
theorem KL(f g:Nat->Int)(j l k:Nat):qz f g j (l+1) k=if k=j+l then qz f g j l (j+l)+f j*g l else qz f g j l k:=by
 by_cases h:k=j+l
 .subst h;rw[Yb rfl];unfold qz;rw[Yb (),Yc (),show j+l-j=l by nofun]
  nofun
 .rw[Yc h];unfold qz;by_cases h2:j<=k/\k-j<l
  .rw[Yb h2,Yb ()]
  .rw[Yc h2,Yc ()]
theorem HM{f g:Nat->Int}{n:Nat}(hg:∀i,n<=i->g i=0)(j k:Nat):qz f g j n k=pz f g (j+1) k:=by
 show _=pz f g j k+if j<=k then f j*g (k-j) else 0
 unfold qz;by_cases h:j<=k
 .rw[Yb h];by_cases h2:k-j<n
  .rw[Yb ⟨h,h2⟩]
  .rw[Yc (),hg _ (),Xh]
 .rw[Yc h,Yc ()]
def qr(f g:Nat->Rat)(j l k:Nat):Rat:=pr f g j k+if j<=k/\k-j<l then f j*g (k-j) else 0
theorem LH(f g:Nat->Rat)(j k:Nat):qr f g j 0 k=pr f g j k:=by
 unfold qr;rw[Yc ()];grind
theorem J6(f g:Nat->Rat)(j l k:Nat):qr f g j (l+1) k=if k=j+l then qr f g j l (j+l)+f j*g l else qr f g j l k:=by
 by_cases h:k=j+l
 .subst h;rw[Yb rfl];unfold qr;rw[Yb (),Yc (),show j+l-j=l by nofun]
  grind
 .rw[Yc h];unfold qr;by_cases h2:j<=k/\k-j<l
  .rw[Yb h2,Yb ()]
  .rw[Yc h2,Yc ()]
theorem Jq{f g:Nat->Rat}{n:Nat}(hg:∀i,n<=i->g i=0)(j k:Nat):qr f g j n k=pr f g (j+1) k:=by
 show _=pr f g j k+if j<=k then f j*g (k-j) else 0
 unfold qr;by_cases h:j<=k
 .rw[Yb h];by_cases h2:k-j<n
  .rw[Yb ⟨h,h2⟩]
  .rw[Yc (),hg _ ()];grind
 .rw[Yc h,Yc ()]
theorem gy{f g:Nat->Rat}{n:Nat}(hg:∀i,n<=i->g i=0):∀(j k:Nat),j+n<=k+1->pr f g j k=0
 | 0,k,_=>rfl
 | j+1,k,h=>by
  show pr f g j k+(if j<=k then f j*g (k-j) else 0)=0
  rw[gy hg j k ()];by_cases h1:j<=k
  .rw[Yb h1,hg _ ()];grind
  .rw[Yc h1];grind
def lz{α:Type}(n:Nat)(h:Nat->α):List α:=(List.range n).map h
theorem fi{α:Type}{n:Nat}{h:Nat->α}:(lz n h).length=n:=by simp[lz]
theorem kR{α:Type}{n:Nat}{h:Nat->α}{i:Nat}(hi:i<n):(lz n h)[i]? = some (h i):=by simp[lz,hi]
theorem qD{α:Type}{n:Nat}{h g:Nat->α}(e:∀k,k<n->h k=g k):lz n h=lz n g:=by
 apply List.ext_getElem?
 intro i;by_cases hi:i<n
 .rw[kR hi,kR hi,e i hi]
 .rw[Xd (by rw[fi];nofun),Xd (by rw[fi];nofun)]
theorem Ii{α:Type}{n:Nat}{h:Nat->α}{i:Nat}{v:α}:(lz n h).set i v=lz n λk=>if k=i then v else h k:=by
 apply List.ext_getElem?
 intro k;by_cases hk:k<n
 .rw[kR hk];by_cases e:k=i
  .subst e;rw[List.getElem?_set_self (by rw[fi];exact hk),Yb rfl]
  .rw[Yl (Ne.symm e),kR hk,Yc e]
 .rw[Xd (by rw[List.length_set,fi];nofun),Xd (by rw[fi];nofun)]
theorem JG{α β:Type}{n:Nat}{h:Nat->α}(f:α->β):(lz n h).map f=lz n λk=>f (h k):=by simp[lz]
theorem Hz{α:Type}(n:Nat)(x:α):(List.replicate n [x]).flatten=lz n λ_=>x:=by
 induction n with
 | zero=>rfl
 | succ n ih =>
  apply List.ext_getElem?
  intro i;rw[show (List.replicate (n+1) [x]).flatten=List.replicate (n+1) x by simp]
  by_cases hi:i<n+1
  .rw[kR hi,List.getElem?_replicate_of_lt hi]
  .rw[Xd (by simp;nofun),Xd (by rw[fi];nofun)]
def nz(ns:List Int)(k:Nat):Int:=ns.getD k 0
theorem aX{ns:List Int}{k:Nat}{n:Int}(h:ns[k]? = some n):nz ns k=n:=by simp[nz,Y6,h]
theorem aL{ns:List Int}{k:Nat}(h:ns.length<=k):nz ns k=0:=by simp[nz,Y6,Xd h]
theorem ml{ns:List Int}{m:Nat}(h:∀n∈ns,Bt m n)(k:Nat):Bt m (nz ns k):=by
 cases e:ns[k]? with
 | none=>rw[aL (List.getElem?_eq_none_iff.mp e)];exact mw
 | some n=>rw[aX e];exact h n (YB e)
theorem Cy{n k:Nat}{h:Nat->Int}(hk:k<n):nz (lz n h) k=h k:=aX (kR hk)
theorem jC{qs:List (Int×Int)}{ns:List Int}{D:Rat}(hl:ns.length=qs.length)(h:∀(i:Nat)(n:Int)(q:Int×Int),ns[i]? = some n->qs[i]? = some q->(n:Rat)=wv q*D)(i:Nat):((nz ns i:Int):Rat)=cf qs i*D:=by
 by_cases hi:i<qs.length
 .have e1:=YK hi;have e2:=YK (show i<ns.length by nofun)
  rw[aX e2,bN e1];exact h i _ _ e2 e1
 .rw[aL (),aJ ()];show ((0:Int):Rat)=0*D;grind
theorem aI.set{H:Hp}:∀{ds:List D}{xs:List V}(i:Nat) {d:D}{x:V},aI H ds xs->aP H d x->aI H (ds.set i d) (xs.set i x)
 | [],xs,i,d,x,h,g=>by
  cases h.nil_at;exact .mk_nil
 | d0::ds,xs,i,d,x,h,g=>by
  obtain⟨x0,r,rfl,h1,h2⟩:=h.cons_at;cases i with
  | zero=>exact .mk_cons g h2
  | succ i=>exact .mk_cons h1 (h2.set i g)
theorem yw{qs:List (Int×Int)}{i k:Nat}{q:Int×Int}(hi:i<qs.length):cf (qs.set i q) k=if k=i then wv q else cf qs k:=by
 by_cases h:k=i
 .subst h;rw[Yb rfl,bN (List.getElem?_set_self hi)]
 .rw[Yc h];unfold cf;rw[Yl (Ne.symm h)]
theorem lY{n k:Nat}(h:k<n):xG n (k:Int)=some k:=by
 unfold xG;simp;nofun
theorem rP{X:Cx}:Ju X (λo i H Q=>∃p k,o=.ref p/\i=.int k /\ ∃xs,vw X.K H p=some (.lst xs) /\ ∃v,jo xs k=some v/\Q v H):=by
 intro pins s σ H x y v u Q I rx ry h;obtain⟨p,k,rfl,rfl,xs,hx,z,he,q⟩:=h;cases rx;obtain⟨t,rfl⟩:=ry;obtain⟨its,r,pl,hz⟩:=I.list (kQ.of (K:=X.K) (aH hx));obtain⟨j,h1,h2,h3,h4,h5⟩:=sF he;obtain⟨w,ew,rw'⟩:=r.get h2;have hl:=r.length;have hn:=nI;have fin:EP X pins σ Q w s:=⟨z,H,I,rw',q⟩;by_cases h0:0<=k
 .have hj:k.toNat=j:=by
   rw[seqIndex_of h0 h5] at h1;exact Ym h1
  exact wpAny_getItem_list pl.isList h0 () (by rw[hj];simpa using ew) fin
 .have hj:(k+(its.toArray.size:Int)).toNat=j:=by
   rw[seqIndex_neg () h4] at h1;rw[Yt,<-hl];exact Ym h1
  exact wpAny_getItem_list_neg pl.isList () (by rw[Yt]<;>nofun) () (by rw[hj];simpa using ew) fin
theorem i4{K:W.Frag}{H:Hp}{p:Addr}{xs:List V}(h:vw K H p=some (.lst xs)):AH K (.ref p) H (!xs.isEmpty):=.inl ⟨xs,.of (aH h),rfl⟩
theorem aC.none{G G':Hp}{c:Addr}(S:aC G G')(h:G' c=none):G c=none:=by
 cases e:G c with
 | none=>rfl
 | some o=>rw[S _ _ e] at h;cases h
theorem GL:Fq (0,1):=⟨∅,∅⟩
theorem Gw{n:Nat}(h:1<=n):Bq n (0,1):=Bq.mono (m:=1) (q:=(0,1)) ⟨∅,∅⟩ h
theorem G7:wv (0,1)=0:=(iA (q:=(0,1)) ∅).mpr rfl
theorem gR:wv (1,1)=1:=by
 show ((1:Int):Rat)/((1:Int):Rat)=1;have:((1:Int):Rat)=1:=rfl;rw[this];grind
theorem JE(fs:List (Int×Int))(m k:Nat):cf (fs++List.replicate m (0,1)) k=cf fs k:=by
 by_cases h:k<fs.length
 .unfold cf;rw[Yz h]
 .rw[aJ (qs:=fs) ()];unfold cf;rw[Yy ()];by_cases h2:k-fs.length<m
  .rw[List.getElem?_replicate_of_lt h2];exact G7
  .rw[Xd (by simp;nofun)]
theorem pB{α:Type}(n:Nat)(x:α):(List.replicate n [x]).flatten=List.replicate n x:=by simp
theorem sL{α β:Type}(f:α->β)(n:Nat)(x:α):(List.replicate n x).map f=List.replicate n (f x):=by simp
theorem vH{qs:List (Int×Int)}{n:Nat}(hF:∀q∈qs,Fq q)(hz:∀q,(qs.take n).getLast? = some q->q.1≠0):aS (qs.take n):=⟨λq hq=>hF q (Xi hq),hz⟩
theorem aW.chg{G G':Hp}{e:Addr}{qs:List (Int×Int)}{xs:List V}{i:Nat}{q:Int×Int}{v:V}(h:G e=some (.lst xs))(r:aI G (qs.map fr) xs)(rv:aP G (fr q) v)(B:jg e G G')(h':G' e=some (.lst (xs.set i v))):aW G' e (qs.set i q):=by
 refine⟨_,h',?_⟩;have r':=aI.flat_but h B _ _ (iW qs) r;have:=r'.set i (aP.flat_but h B _ _ (eN q) rv);rw[List.map_set];exact this
theorem Kz(q:Int×Int):(fr q).py=.tuple [.int q.1,.int q.2]:=by
 unfold fr;simp only[D.py,D.pys]
theorem vS:∀(qs:List (Int×Int)),PyData.canLayAll0 (D.pys (qs.map fr))=true/\PyData.depthAll (D.pys (qs.map fr))<=4
 | []=>by
  simp only[List.map_nil,D.pys];exact⟨rfl,by simp[PyData.depthAll]⟩
 | c::cs=>by
  obtain⟨h1,h2⟩:=vS cs;simp only[YE,D.pys,Kz,PyData.canLayAll0,PyData.canLay0,h1,PyData.depthAll,PyData.depth];refine⟨∅,?_⟩;nofun
end L2
namespace L2
open PySem PySem.Spec PyProof.Rows
def xz(mg:Str->Option Value)(base:Heap):Prop:=∃bm o,mg "__builtins__" = some (.ref bm)/\bm≠builtinsNs/\bm≠mainGlobals/\base.get? bm=some o/\o.cls=.type "module" /\ o.dict=some builtinsNs/\o.data=.plain
def Kg(ts:List (Addr×Addr))(H:Hp):Prop:=∀b,H b=none\/(∃o xs,H b=some (.frz o (.lst xs)))\/(H b=some (.tbl #[]) /\ ∃q∈ts,q.2=b)
theorem AK{P:Program}{w:World}{K:W.Frag}{mg mb:Str->Option Value}{CX:zT}{k:Nat}{fa a:Addr}{fd:FuncData}{x:Str}{sp:Sp}{s₁:Shared}{vs:List Value}{ns:List Int}{ts:List (Addr×Addr)}
  (KX:K.In s₁.heap)(hns:s₁.heap.Ns mainGlobals mg)(hb:s₁.heap.Ns builtinsNs mb)(hbb:∀x:Str,x ≠ "__name__" -> mb x=bootBuiltins x) (hlim:s₁.heap.NoLimit)(hg:s₁.gens = #[])
  (ha:s₁.heap.get? a=some { cls:=.type "list",data:=.seq vs.toArray }) (hi:IntsAre vs ns)(hl:ns.length<=sizeLine)(hr:gX k callerA)(hT:∀q∈ts,PySem.W.codeHdIn K q.1 q.2=true/\K.lookup q.2=none/\s₁.heap.get? q.2=some (PySem.W.tabObj #[]))
  (hB:xz mg s₁.heap)(hSr:s₁.heap.NoSeer)(F:∀base:Heap,K.In base->base.Ns mainGlobals mg->xz mg base->base.NoSeer->bZ P w K mg base CX k fa fd [x] sp)(hbind:∀(s:Shared)(u:Value),BindsTo s fd ⟨[u],[]⟩ [(x,u)])
  (hsp:∀H:Hp,(∀q∈ts,vw K H q.2=some (.tbl #[]))->(H a≠none->K.lookup a=none)->kQ K H a (ns.map V.int)->sp [.ref a] H (λv _=>v=.bl true) λ_ _ _=>False)
  (hCX:∀H e s',CX [] H s₁ (λ_ _ _=>False) e s'->False) :
  codeAny (model P w) callerA (.call (.ref fa) ⟨[.ref a],[]⟩) (λr s'=>r=.ok (.ret (.bool true))/\OldK s₁.heap s'.heap/\s'.os=s₁.os/\AllBare s'.gens) s₁:=by
 have rv:=rZ hi;have lenV:=hi.length;have na:∀q∈ts,q.2≠a:=λq hq z=>by
  have:=(hT q hq).2.2;rw[z,ha] at this;cases this
 have core:∀H:Hp,Kg ts H->(∀q∈ts,H q.2=some (.tbl #[]))->kQ K H a (ns.map V.int)->oF P w H s₁.heap->(∀b,H b≠none->b=a \/ ∃q∈ts,q.2=b)->(H a≠none->K.lookup a=none) ->
   codeAny (model P w) callerA (.call (.ref fa) ⟨[.ref a],[]⟩) (λr s'=>r=.ok (.ret (.bool true))/\OldK s₁.heap s'.heap/\s'.os=s₁.os/\AllBare s'.gens) s₁:=by
  intro H hO hTT hS hok hA hK;have base_of:∀{b:Addr}{o:Obj},s₁.heap.get? b=some o->H b=none->(pT s₁.heap H).get? b=some o:=λe n=>Di e n;have noA:∀{b:Addr}{o:Obj}{es:Array DictEntry}{ep:Nat},s₁.heap.get? b=some o->o.data=.dict es ep->H b=none:=λ{b o es ep} e d=>by
   cases q:H b with
   | none=>rfl
   | some u =>
    rcases hA b (by rw[q];simp) with e'|⟨y,hy,e'⟩
    .subst e';rw[ha] at e;cases e;have d':Data.seq vs.toArray _=Data.dict es ep:=d;cases d'
    .subst e';rw[(hT y hy).2.2] at e;cases e;have d':Data.fields (#[]:Array Value)=Data.dict es ep:=d;cases d'
  have nsK:∀{b:Addr}{m:Str->Option Value},s₁.heap.Ns b m->(pT s₁.heap H).Ns b m:=λ{b m} ⟨o,es,ep,e,d,r⟩=>⟨o,es,ep,base_of e (noA e d),d,r⟩;have hKb:K.In (pT s₁.heap H):=λb o e=>base_of (KX b o e) (by
   cases q:H b with
   | none=>rfl
   | some u =>
    rcases hA b (by rw[q];simp) with e'|⟨y,hy,e'⟩
    .subst e';rw[hK (by rw[q];simp)] at e;cases e
    .subst e';rw[(hT y hy).2.1] at e;cases e)
  have hM:Mod K mg (pT s₁.heap H):=⟨hKb,nsK hns,⟨mb,nsK hb,hbb⟩,let ⟨mc,h1,h2⟩:=hlim;⟨mc,nsK h1,h2⟩⟩;have e0:FZ P w K mg (pT s₁.heap H) callerA [] s₁ H:=⟨rfl,hM,λb o e=>EJ e,Nat.le_of_eq (Ai _ _),trivial,λb hb=>absurd (show b∈([]:List Addr) from hb) (by simp),hok,.of_eq hg⟩
  have hBb:xz mg (pT s₁.heap H):=by
   obtain⟨bm,ob,b1,b2,b3,b4,b5,b6,b7⟩:=hB;refine⟨bm,ob,b1,b2,b3,base_of b4 ?_,b5,b6,b7⟩;cases q:H bm with
   | none=>rfl
   | some u =>
    rcases hA bm (by rw[q];simp) with e'|⟨y,hy,e'⟩
    .rw[e',ha] at b4;cases b4;simp at b5
    .rw[<-e',(hT y hy).2.2] at b4;cases b4;cases b5
  have hSb:(pT s₁.heap H).NoSeer:=by
   refine⟨let ⟨mc,a,b⟩:=hSr.statics;⟨mc,nsK a,b⟩,let ⟨mm,a,b⟩:=hSr.mods;⟨mm,nsK a,b⟩,let ⟨mb,a,b⟩:=hSr.imp;⟨mb,nsK a,b⟩,?_⟩;obtain⟨mg',bm,ob,b1,b2,b4,b5,b6⟩:=hSr.main;refine⟨mg',bm,ob,nsK b1,b2,base_of b4 ?_,b5,b6⟩;cases q:H bm with
   | none=>rfl
   | some u =>
    rcases hA bm (by rw[q];simp) with e'|⟨y,hy,e'⟩
    .rw[e',ha] at b4;cases b4;simp at b5
    .rw[<-e',(hT y hy).2.2] at b4;cases b4;cases b5
  refine codeAny_mono ((F _ hKb (nsK hns) hBb hSb).run callerA [] s₁ H ⟨[.ref a],[]⟩ [.ref a] [.ref a] _ _ hr e0 (hbind s₁ (.ref a)) (.cons rfl .nil) (hsp H (λq hq=>(eo (hT q hq).2.1).trans (hTT q hq)) hK hS)) λr s' h=>?_;cases r with
  | error e=>exact (hCX H e s' h).elim
  | ok fl =>
   cases fl with
   | next=>exact False.elim h
   | brk=>exact False.elim h
   | cont=>exact False.elim h
   | ret u =>
    obtain⟨v,H',os,bare,un,hok',r',q⟩:=h;have q':v=.bl true:=q;subst q';obtain rfl:u=Value.bool true:=r';have key:∀b o,s₁.heap.get? b=some o->s'.heap.get? b=some o\/((∃y∈ts,y.2=b)/\o=PySem.W.tabObj #[] /\ ∃more,s'.heap.get? b=some (PySem.W.tabObj more)):=λb o e=>by
     cases q:H b with
     | none=>exact .inl (un.keep b o e q (by intro z;exact absurd (show b∈([]:List Addr) from z) (by simp)) (by simp))
     | some u =>
      rcases hO b with z|⟨ob,xs,z⟩|⟨z,y,hy,e'⟩
      .rw[q] at z;cases z
      .have z2:=un.frzs b ob _ z;obtain⟨e1,_⟩:=hok b _ z;obtain⟨e2,_⟩:=hok' b _ z2;rw[e] at e1;cases e1;exact .inl e2
      .obtain⟨more,z2⟩:=un.tbls b #[] z;have e1:s₁.heap.get? b=some (PySem.W.tabObj #[]):=hok b _ z;have e2:s'.heap.get? b=some (PySem.W.tabObj (#[]++more)):=hok' b _ z2;rw[e] at e1;cases e1;exact .inr ⟨⟨y,hy,e'⟩,rfl,_,e2⟩
    refine⟨rfl,⟨λb o e=>?_,λb o e=>?_⟩,os,bare⟩
    .rcases key b o e with z|⟨⟨y,hy,e'⟩,z1,more,z2⟩
     .exact .inl z
     .subst z1 e';have cd:=PySem.W.codeHd_of_K KX (hT y hy).1;exact .inr (.inl ⟨(cd.tab (hT y hy).2.2).isCodeTable,rfl,#[],more,rfl,by rw[z2];simp⟩)
    .rcases key b o e with z|⟨_,_,more,z2⟩
     .exact⟨o,z⟩
     .exact⟨_,z2⟩
 have dec:∀b,Decidable (∃q∈ts,q.2=b):=λb=>Classical.propDecidable _;have tabH:∀q∈ts,dY P w (λ_=>none) s₁.heap q.2 (.tbl #[]):=λq hq=>(hT q hq).2.2;cases hk:K.lookup a with
 | some o =>
  have e:=KX a o hk;rw[ha] at e;cases e;refine core (λb=>@ite _ (∃q∈ts,q.2=b) (dec b) (some (.tbl #[])) none) (λb=>?_) (λq hq=>Yb ⟨q,hq,rfl⟩) (.inr ⟨_,vs.toArray,_,hk,rfl,rfl,rfl,by rw[Yt,lenV];exact hl,by simpa using rv⟩) (λb u z=>?_) (λb z=>?_) λz=>?_
  .by_cases hb:∃q∈ts,q.2=b
   .exact .inr (.inr ⟨Yb hb,hb⟩)
   .exact .inl (Yc hb)
  .by_cases hb:∃q∈ts,q.2=b
   .have z':=(Yb hb).symm.trans z;cases z';obtain⟨q,hq,rfl⟩:=hb;exact (hT q hq).2.2
   .have z':=(Yc hb).symm.trans z;cases z'
  .by_cases hb:∃q∈ts,q.2=b
   .exact .inr hb
   .exact absurd (Yc hb) z
  .have:¬ ∃q∈ts,q.2=a:=λ⟨q,hq,e⟩=>na q hq e;exact absurd (Yc this) z
 | none =>
  have ia:¬ ∃q∈ts,q.2=a:=λ⟨q,hq,e⟩=>na q hq e;refine core (λb=>if b=a then some (.frz { cls:=.type "list",data:=.seq vs.toArray } (.lst (ns.map V.int))) else @ite _ (∃q∈ts,q.2=b) (dec b) (some (.tbl #[])) none) (λb=>?_) (λq hq=>?_) (.inl (.inr ⟨{ cls:=.type "list",data:=.seq vs.toArray },Yb rfl⟩)) (λb u z=>?_) (λb z=>?_) λ_=>hk
  .by_cases hb:b=a
   .exact .inr (.inl ⟨_,_,Yb hb⟩)
   .by_cases hb2:∃q∈ts,q.2=b
    .exact .inr (.inr ⟨(Yc hb).trans (Yb hb2),hb2⟩)
    .exact .inl ((Yc hb).trans (Yc hb2))
  .exact (Yc (na q hq)).trans (Yb ⟨q,hq,rfl⟩)
  .by_cases hb:b=a
   .have z':=(Yb hb).symm.trans z;cases z';subst hb;exact⟨ha,by rw[YD];exact hl,vs,_,rv,ha⟩
   .by_cases hb2:∃q∈ts,q.2=b
    .have z':=((Yc hb).trans (Yb hb2)).symm.trans z;cases z';obtain⟨q,hq,rfl⟩:=hb2;exact (hT q hq).2.2
    .have z':=((Yc hb).trans (Yc hb2)).symm.trans z;cases z'
  .by_cases hb:b=a
   .exact .inl hb
   .by_cases hb2:∃q∈ts,q.2=b
    .exact .inr hb2
    .exact absurd ((Yc hb).trans (Yc hb2)) z
theorem walk_ofM{l:PySem.W.OpenLaw}{n k:Nat}{q:Program}{loose:List Str}{XP:(Str->Option Value)->Heap->Prop}{YP:World->Heap->Prop}{d:DefRec}{K:Params->W.Frag}{CX:World->zT}{sp:World->Sp}{x:Str}(ts:World->List (Addr×Addr))
  (hn:l.most=some n)(hn2:n<=sizeLine)(hdf:d.params.defaults=[])(hr:gX k callerA)(hi:importsNone q=true)
  (hY:∀(w:World)(h:Heap),YP w h->(K w.params).In h /\ ∀q∈ts w,PySem.W.codeHdIn (K w.params) q.1 q.2=true/\(K w.params).lookup q.2=none/\h.get? q.2=some (PySem.W.tabObj #[]))
  (F:∀(w:World)(mg:Str->Option Value)(fa:Addr)(h:Heap),(K w.params).In h->h.Ns mainGlobals mg->mg d.name=some (.ref fa) ->
   ∃fd:FuncData,(∀(s:Shared)(u:Value),BindsTo s fd ⟨[u],[]⟩ [(x,u)]) /\
    ∀base:Heap,(K w.params).In base->base.Ns mainGlobals mg->xz mg base->base.NoSeer->bZ l.prog w (K w.params) mg base (CX w) k fa fd [x] (sp w))
  (hsp:∀(w:World)(H:Hp)(a:Addr)(ns:List Int),ns.length<=n->(∀q∈ts w,vw (K w.params) H q.2=some (.tbl #[]))->(H a≠none->(K w.params).lookup a=none)->kQ (K w.params) H a (ns.map V.int)->sp w [.ref a] H (λv _=>v=.bl true) λ_ _ _=>False)
  (hCX:∀(w:World)(H:Hp)(s:Shared)(e:Value)(s':Shared),CX w [] H s (λ_ _ _=>False) e s'->False) :
  PySem.W.WalkO q loose XP YP l.row.toRowW d [] (λf vs=>PySem.call f vs):=by
 refine Att.attach_call hn hdf λw s₀ s₁ mg mb fa o pm cd doc a vs ns G Y ho hd hcd hmg hobj hints hlen hg=>?_;obtain⟨KX,hT⟩:=hY w _ Y;obtain⟨fd,hb,hF⟩:=F w mg fa _ KX G.T.g hmg;have hB:xz mg s₁.heap:=by
  obtain⟨bm,ob,b1,b2,b3,b4,b5,b6⟩:=G.T.bmain;refine⟨bm,ob,b1,b2,λz=>?_,b3,b4,b5,b6⟩;obtain⟨o,es,ep,e,hd',_⟩:=G.T.g;rw[z,e] at b3;cases b3;rw[hd'] at b6;cases b6
 exact AK KX G.T.g G.T.b G.T.builtins G.T.nolimit hg hobj hints (Yg hlen hn2) hr hT hB (G.T.seer hi) hF hb (λH hTT hK hS=>hsp w H a ns hlen hTT hK hS) λH e s'=>hCX w H s₁ e s'
def cN(f g:Nat->Rat):Nat->Rat
 | 0=>0
 | n+1=>cN f g n+f n*g n
theorem mN{f g f' g':Nat->Rat}:∀n,(∀i,i<n->f i=f' i)->(∀i,i<n->g i=g' i)->cN f g n=cN f' g' n
 | 0,_,_=>rfl
 | n+1,h1,h2=>by
  show cN f g n+f n*g n=cN f' g' n+f' n*g' n;rw[mN n (λi hi=>h1 i ()) (λi hi=>h2 i ()),h1 n (),h2 n ()]
def Sx(b:Nat)(q:Int×Int):Prop:=∃n:Int,wv q=(n:Rat)/6/\n.natAbs<=b
theorem Sx.mono{a b:Nat}{q:Int×Int}(h:Sx a q)(hl:a<=b):Sx b q:=by
 obtain⟨n,h1,h2⟩:=h;exact⟨n,h1,()⟩
theorem Sx.add{a b:Nat}{p q:Int×Int}(hp:p.2≠0)(hq:q.2≠0)(h1:Sx a p)(h2:Sx b q):Sx (a+b) (nA p q):=by
 obtain⟨m,e1,l1⟩:=h1;obtain⟨n,e2,l2⟩:=h2;refine⟨m+n,?_,()⟩;rw[tN hp hq,e1,e2,Xa];grind
theorem Sx.lo{a z:Int}{b:Nat}(h0:0<=z)(h3:z<3)(ha:6*a.natAbs<=b):Sx b (lo a (1+z)):=by
 have hz:1+z≠0:=();have c1:((1:Int):Rat)=1:=rfl;have c2:((2:Int):Rat)=2:=rfl;have c3:((3:Int):Rat)=3:=rfl;have c6:((6:Int):Rat)=6:=rfl;rcases (show z=0\/z=1\/z=2 by nofun) with rfl|rfl|rfl
 .refine⟨6*a,?_,()⟩;rw[gS hz,show (1:Int)+0=1 from rfl,Xb,c1,c6]
  grind
 .refine⟨3*a,?_,()⟩;rw[gS hz,show (1:Int)+1=2 from rfl,Xb,c2,c3]
  grind
 .refine⟨2*a,?_,()⟩;rw[gS hz,show (1:Int)+2=3 from rfl,Xb,c2,c3]
  grind
theorem aU.gen{t u:TS}{D:og}{σ:St}{H:Hp}(h:∀N:St->Hp->Prop,(∀σ' H',u D σ' H'->N σ' H')->t { D with nx:=N } σ H):aU t u D σ H:=h (u D) λ_ _ z=>z
theorem mf(a b:Int):Builtin.Range.rangeSize a b (-1)=if b<a then a-b else 0:=by
 unfold Builtin.Range.rangeSize;simp only[show ¬ ((-1:Int) > 0) by decide,if_false,Int.neg_neg,Int.ediv_one]
 split<;>(try split)<;>nofun
theorem Ce{a b:Int}(ha : -(2^61)<=a)(ha':a<2^61)(hb : -(2^61)<=b)(hb':b<2^61):Builtin.Range.small a b (-1)=true:=by
 unfold Builtin.Range.small;rw[mf];simp only[Builtin.Range.rangeFitsLong,YX,Bool.or_eq_true,decide_eq_true_eq,beq_iff_eq,show ¬ ((-1:Int) > 0) by decide,if_false]
 split<;>nofun
def Lx(lo:Int)(n:Nat):It:=⟨λi _=>i<n,λi H x H'=>H'=H/\x=.int (lo-i),λi _=>n<=i⟩
theorem Ek{P:Program}{w:World}{K:W.Frag}{tg:Expr}(it:Addr)(lo:Int)(n:Nat):wj P w K tg (Lx lo n) [it] it (λj hp=>IsRangeIter hp it (lo+(j:Nat)*(-1)) ((n:Int)-(j:Nat)) (-1)) where
 mem:=XY.mpr rfl
 obj:=λj hp st b hb=>by
  cases XY.mp hb;refine⟨_,st,λv z=>?_⟩;exact Data.noConfusion (show Data.fields _=Data.cell v from z)
 keep:=λ_ _ _ st k=>k it (XY.mpr rfl) _ st
 item:=by
  intro Y hP hw hK hc j pins s σ H E J hf st hg;subst hP hw hK;obtain⟨g0,g1,g2,g3,g4,g5⟩:=hf it (XY.mpr rfl);refine (Walks.range (prog:=Y.prog) (w:=Y.w) (J.ok.hd hc) it lo (-1) n).item j s _ _ hg st λv hp tk hv st1 kk=>?_;obtain⟨t,rfl⟩:=hv;have J1:aM Y pins σ H { s with heap:=hp,toks:=tk }:=J.turned (λb o hb e=>kk b o (λz=>hb (XY.mp z)) e) g0 g1 g3 g4 g5
  refine⟨_,rfl,yC (s:={ s with heap:=hp,toks:=tk }) (n:="range_iterator") st1 rfl rfl ∅ ⟨.int (lo-j),H,J1,⟨t,?_⟩,⟨rfl,rfl⟩,st1,λb hb=>(hf b hb).1⟩⟩
  rw[show lo+(j:Nat)*(-1)=lo-(j:Int) by nofun]
 done:=by
  intro Y hP hw hK hc j pins s σ H E J hf st hg;subst hP hw hK;obtain⟨g0,g1,g2,g3,g4,g5⟩:=hf it (XY.mpr rfl);have hj:n<=j:=hg;exact wpAny_pyNext_range_end (J.ok.hd hc) st () λhp eb=>⟨rfl,J.turned (t':=s.toks) (λb o hb e=>eb b o hb e) g0 g1 g3 g4 g5⟩
 self:=λ_ _ _ _ _ st h=>wpAny_pyIter_rangeiter st h
section
variable {X:Cx}{tg:Expr}
def BY(ta:TA):TI:=λσ H R=>ta σ H λvs H1=>∃i j:Int,vs=[.int i,.int j,.int (-1)]/\(-(2^61)<=i/\i<2^61 /\ -(2^61)<=j/\j<2^61)/\R (Lx i (i-j).toNat) H1
theorem AF{a b c:Expr}{ta:TA}{p pos:Pos}(hg:Gl X "range") (hm:X.mg "range" = none) (ha:PA X [a,b,c] ta)(hs:starEach [a,b,c] X.env=[(false,eval a X.env),(false,eval b X.env),(false,eval c X.env)]:=by rfl)
  (hs2:starEach [b,c] X.env=[(false,eval b X.env),(false,eval c X.env)]:=by rfl):PI X tg (.Call (.Name "range" p) [a,b,c] [] pos) (BY ta):=by
 intro pins s σ H R I h;refine Call_ (i9 I hg hm boot_range (Yr (dH (ha pos pins s σ H _ I h) λus s1 ⟨vs,H1,I1,r1,q1⟩=>?_) (by rw[hs,hs2]) (by rw[hs2];rfl)))
 obtain⟨i,j,e,⟨q1,q2,q3,q4⟩,q⟩:=q1;subst e;cases r1 with
 | cons ri rr =>
  cases rr with
  | cons rj rr =>
   cases rr with
   | cons rk rr =>
    cases rr;obtain⟨t1,rfl⟩:=ri;obtain⟨t2,rfl⟩:=rj;obtain⟨t3,rfl⟩:=rk;refine call_range_3 ∅ ?_ (.inl (PyProof.noPylong_of_log2 (by decide +kernel)))
    refine wpAny_pyIter_range (IsRange.new ..) (Ce q1 q2 q3 q4) ?_;have J:aM X pins σ H1 { s1 with heap:=s1.heap.push { cls:=.type "range",data:=.fields #[.int i t1,.int j t2,.int (-1) t3] },toks:=s1.toks }:=I1.kept λb o e=>Heap.get?_push_of_some _ e
    obtain⟨a1,ha1⟩ : ∃a1,a1=(s1.heap.push { cls:=.type "range",data:=.fields #[.int i t1,.int j t2,.int (-1) t3] }).objs.size:=⟨_,rfl⟩;refine⟨_,[_],_,_,H1,rfl,J.kept (t':=s1.toks) λb o e=>Heap.get?_push_of_some _ e,Ek _ i (i-j).toNat,?_,λb hb=>?_,q⟩
    .have e1:i+((0:Nat):Int)*(-1)=i:=by simp
     have e2:(((i-j).toNat:Nat):Int)-((0:Nat):Int)=Builtin.Range.rangeSize i j (-1):=by rw[mf];split<;>nofun
     show IsRangeIter _ _ (i+((0:Nat):Int)*(-1)) ((((i-j).toNat:Nat):Int)-((0:Nat):Int)) (-1);rw[e1,e2];exact Heap.get?_push_size _ rfl
    .cases XY.mp hb;exact J.fpOk (Yq _) (J.hok.fresh (Yq _))
theorem AC{a b c:Expr}{ta:TA}{p pos:Pos}(hg:Gl X "range") (hm:X.mg "range" = none) (ha:QA X [a,b,c] ta)(hs:starEach [a,b,c] X.env=[(false,eval a X.env),(false,eval b X.env),(false,eval c X.env)]:=by rfl)
  (hs2:starEach [b,c] X.env=[(false,eval b X.env),(false,eval c X.env)]:=by rfl):QI X tg (.Call (.Name "range" p) [a,b,c] [] pos) (BY ta):=⟨AF hg hm ha.h hs hs2⟩
end
def AU(lo:Int)(n:Nat):List V:=(List.range n).map λ(k:Nat)=>V.int (lo-k)
theorem Ga{lo:Int}{n:Nat}:(AU lo n).length=n:=by simp[AU]
theorem HU{lo:Int}{n i:Nat}{x:V}(h:(AU lo n)[i]? = some x):i<n/\x=.int (lo-i):=by
 have hi:i<n:=by
  have:=(List.getElem?_eq_some_iff.mp h).1;simpa [AU] using this
 refine⟨hi,?_⟩;simp[AU,hi] at h;exact h.symm
theorem Dn{lo:Int}{n:Nat}{H:Hp}:qC (Lx lo n) H (AU lo n):=by
 refine⟨λi hi=>by show i<n;simpa [AU] using hi,λi x H' hi y=>⟨y.1,?_⟩,by show n<=(AU lo n).length;simp[AU]⟩
 have hi':i<n:=by simpa [AU] using hi
 obtain⟨_,rfl⟩:=y;simp[AU,hi']
theorem nJ{f g:Nat->Rat}{d i:Nat}(hg:∀j,d<j->g j=0)(hf:∀j,i<j->f j=0):∀n,pr f g n (i+d)=if i<n then f i*g d else 0
 | 0=>by simp[pr]
 | n+1=>by
  have ih:=nJ hg hf n;show pr f g n (i+d)+(if n<=i+d then f n*g (i+d-n) else 0)=_
  rw[ih];rcases Nat.lt_trichotomy i n with h|h|h
  .rw[hf n h,Yb h,Yb (show i<n+1 by nofun)]
   split<;>grind
  .subst h;rw[Yc (),Yb (),Yb (),show i+d-i=d by nofun]
   grind
  .rw[Yc (),Yb (),Yc (),hg _ ()];grind
theorem xf{f f' g:Nat->Rat}:∀n k,pr (λi=>f i-f' i) g n k=pr f g n k-pr f' g n k
 | 0,_=>by
  show (0:Rat)=0-0;grind
 | n+1,k=>by
  show pr _ g n k+(if n<=k then (f n-f' n)*g (k-n) else 0)=(pr f g n k+if n<=k then f n*g (k-n) else 0)-(pr f' g n k+if n<=k then f' n*g (k-n) else 0)
  rw[xf n k];split<;>grind
theorem ki{f g:Nat->Rat}{n:Nat}(hf:∀i,n<=i->f i=0):∀m k,pr f g (n+m) k=pr f g n k
 | 0,_=>rfl
 | m+1,k=>by
  show pr f g (n+m) k+(if n+m<=k then f (n+m)*g (k-(n+m)) else 0)=_
  rw[ki hf m k,hf (n+m) ()];split<;>grind
theorem Bb{e g r:Nat->Rat}{n d:Nat}(he:∀i,n<=i->e i=0)(hg:∀j,d<j->g j=0)(hd:g d≠0)(hr:∀k,d<=k->r k=0)(h:∀k,pr e g n k=r k):∀i,e i=0:=by
 have step:∀m i,n<=i+m->e i=0:=by
  intro m;induction m with
  | zero=>intro i hi;exact he i hi
  | succ m ih =>
   intro i hi;by_cases hin:n<=i
   .exact he i hin
   have hab:∀j,i<j->e j=0:=λj hj=>ih j ();have e1:=nJ hg hab n;rw[Yb (),h,hr _ ()] at e1;rcases Rat.mul_eq_zero.mp e1.symm with z|z
   .exact z
   .exact absurd z hd
 intro i;exact step n i ()
theorem xk{q q' g r r':Nat->Rat}{n n' d:Nat}(hq:∀i,n<=i->q i=0)(hq':∀i,n'<=i->q' i=0)(hg:∀j,d<j->g j=0)(hd:g d≠0)(hr:∀k,d<=k->r k=0)(hr':∀k,d<=k->r' k=0)
  (h:∀k,pr q g n k+r k=pr q' g n' k+r' k):(∀i,q i=q' i) /\ ∀k,r k=r' k:=by
 have a:∀k,pr q g (n+n') k=pr q g n k:=λk=>ki hq n' k;have b:∀k,pr q' g (n+n') k=pr q' g n' k:=λk=>by rw[Nat.add_comm];exact ki hq' n k
 have z:=Bb (e:=λi=>q i-q' i) (g:=g) (r:=λk=>r' k-r k) (n:=n+n') (d:=d) (λi hi=>by
  show q i-q' i=0;rw[hq i (),hq' i ()];grind) hg hd (λk hk=>by
  show r' k-r k=0;rw[hr k hk,hr' k hk];grind) (λk=>by
  rw[xf,a,b];have:=h k;grind)
 have e:∀i,q i=q' i:=λi=>by
  have:q i-q' i=0:=z i;grind
 refine⟨e,λk=>?_⟩;have e2:pr q g n k=pr q' g n' k:=by
  rw[<-a,<-b,show q=q' from funext e]
 have:=h k;grind
theorem IV{rs:List (Int×Int)}(h:aS rs) {m:Nat}(hz:∀k,m<=k->cf rs k=0):rs.length<=m:=by
 refine Nat.le_of_not_lt λhm=>?_;have hl:rs.length-1<rs.length:=();have e:rs.getLast? = some rs[rs.length-1]:=by rw[Xe,YK hl]
 have z:=hz (rs.length-1) ();rw[bN (YK hl)] at z;exact h.2 _ e ((iA (h.1 _ (YJ hl)).ne).mp z)
theorem EF(m n:Int):F8 (.int m) (.int n)=decide (m=n):=by
 unfold F8 D.py;simp only[PyData.eqv];rw[Bool.eq_iff_iff];simp
theorem zJ(i:Int):(D.int i).cmp:=by
 unfold D.cmp D.py;exact⟨rfl,Nat.le_of_ble_eq_true rfl⟩
theorem zl{ns:List Int}{m:Nat}(h:∀n∈ns.drop m,n=0)(k:Nat):nz (ns.take m) k=nz ns k:=by
 unfold nz;rw[Y6,Y6,Xf];by_cases hk:k<m
 .rw[Yb hk]
 .rw[Yc hk];cases e:ns[k]? with
  | none=>rfl
  | some n =>
   have:n∈ns.drop m:=by
    have e2:(ns.drop m)[k-m]? = some n:=by rw[List.getElem?_drop,show m+(k-m)=k by nofun];exact e
    exact YB e2
   rw[h n this];rfl
def Dv(D:Int)(b:Nat)(qs:List (Int×Int)):Prop:=∃F:Nat->Int,(∀k,cf qs k=(F k:Rat)/(D:Rat)) /\ ∀k,Bt b (F k)
theorem C8{f g:Nat->Int}{i:Nat}{c:Int}(h0:f i=0):∀n k,pz (λj=>if j=i then c else f j) g n k=pz f g n k+if i<n/\i<=k then c*g (k-i) else 0
 | 0,k=>by
  show (0:Int)=0+_;rw[Yc ()];rfl
 | n+1,k=>by
  show pz _ g n k+(if n<=k then (if n=i then c else f n)*g (k-n) else 0)=(pz f g n k+if n<=k then f n*g (k-n) else 0)+_
  rw[C8 h0 n k];rcases Nat.lt_trichotomy n i with h|h|h
  .simp only[Yc (show ¬ (i<n/\i<=k) by nofun),Yc (show ¬ n=i by nofun),Yc (show ¬ (i<n+1/\i<=k) by nofun)]
   nofun
  .subst h;rw[h0];by_cases hk:n<=k
   .simp only[Yb hk,Yb (show n<n+1/\n<=k from ⟨(),hk⟩),Yc (show ¬ (n<n/\n<=k) by nofun),Int.zero_mul,if_true]
    try nofun
   .simp only[Yc hk,Yc (show ¬ (n<n+1/\n<=k) by nofun),Yc (show ¬ (n<n/\n<=k) by nofun)]
  .simp only[Yc (show ¬ n=i by nofun)]
   by_cases hk:i<=k
   .simp only[Yb (show i<n/\i<=k from ⟨h,hk⟩),Yb (show i<n+1/\i<=k from ⟨(),hk⟩)]
    nofun
   .simp only[Yc (show ¬ (i<n/\i<=k) by nofun),Yc (show ¬ (i<n+1/\i<=k) by nofun)]
    nofun
theorem t5{f g:Nat->Int}{c:Int}:∀n k,pz (λj=>c*f j) g n k=c*pz f g n k
 | 0,_=>by show (0:Int)=c*0;nofun
 | n+1,k=>by
  show pz _ g n k+(if n<=k then c*f n*g (k-n) else 0)=c*(pz f g n k+if n<=k then f n*g (k-n) else 0)
  rw[t5 n k];split
  .rw[Int.mul_add,Y3]
  .simp
theorem yZ{f g:Nat->Int}(h:∀i,f i=0):∀n k,pz f g n k=0
 | 0,_=>rfl
 | n+1,k=>by
  show pz f g n k+(if n<=k then f n*g (k-n) else 0)=0
  rw[yZ h n k,h n];simp
theorem sZ{ns:List Int}{i k:Nat}{v:Int}(hi:i<ns.length):nz (ns.set i v) k=if k=i then v else nz ns k:=by
 unfold nz;rw[Y6,Y6,List.getElem?_set];by_cases h:i=k
 .subst h;simp[hi]
 .rw[Yc h,Yc (λz=>h z.symm)]
theorem dX{ns:List Int}{c:Int}(k:Nat):nz (ns.map λx=>c*x) k=c*nz ns k:=by
 unfold nz;rw[Y6,Y6,YA];cases ns[k]?<;>simp
theorem nN{ns:List Int}(k:Nat):nz ns.dropLast k=if k=ns.length-1 then 0 else nz ns k:=by
 unfold nz;rw[Y6,Y6,List.getElem?_dropLast];by_cases h:k<ns.length-1
 .rw[Yb h,Yc ()]
 .rw[Yc h];by_cases h2:k=ns.length-1
  .rw[Yb h2];rfl
  .rw[Yc h2,Xd ()]
theorem Au{ms:Nat->Int}{S P:Int}{Q Q' N R R1 R2:Nat->Int}{n p l:Nat}(h:∀k,S*ms k=pz Q N n k+R k)(h0:Q p=0)(hQ:∀k,Q' k=if k=p then P else Q k)(hp:p<n)(hN:∀j,l<j->N j=0)
  (ht:R (p+l)=P*N l)(h1:∀k,R1 k=if k=p+l then 0 else R k)(h2:∀k,R2 k=R1 k-if p<=k/\k<p+l then P*N (k-p) else 0):∀k,S*ms k=pz Q' N n k+R2 k:=by
 intro k;rw[show Q'=λj=>if j=p then P else Q j from funext hQ,C8 h0,h k,h2 k,h1 k]
 by_cases a:p<=k
 .rw[Yb ⟨hp,a⟩];rcases Nat.lt_trichotomy k (p+l) with b|b|b
  .rw[Yc (show ¬ k=p+l by nofun),Yb ⟨a,b⟩]
   nofun
  .subst b;rw[Yb rfl,Yc (),ht,show p+l-p=l by nofun]
   nofun
  .rw[Yc (show ¬ k=p+l by nofun),Yc (),hN _ (show l<k-p by nofun)]
   nofun
 .rw[Yc (),Yc (show ¬ k=p+l by nofun),Yc ()]
  nofun
def wO(x:V)(P:Bool->Prop):Prop:=match x with | .bl k=>P k|_=>False
def isInt(x:V)(P:Int->Prop):Prop:=match x with | .int k=>P k|_=>False
def jj(x:V)(P:Addr->Prop):Prop:=match x with | .ref k=>P k|_=>False
def uY(x:Option (Option V))(P:V->Prop):Prop:=match x with|some (some v)=>P v|_=>False
def J0(x:List V)(P:V->Prop):Prop:=match x with|[v]=>P v|_=>False
def Ll(x:List V)(P:V->V->Prop):Prop:=match x with|[v,u]=>P v u|_=>False
theorem EZ{k:Bool}{P:Bool->Prop}:wO (.bl k) P=P k:=rfl
theorem Cr{k:Int}{P:Int->Prop}:isInt (.int k) P=P k:=rfl
theorem BF{k:Addr}{P:Addr->Prop}:jj (.ref k) P=P k:=rfl
theorem BI{k:V}{P:V->Prop}:uY (some (some k)) P=P k:=rfl
theorem Je{k:V}{P:V->Prop}:J0 [k] P=P k:=rfl
theorem IK{k l:V}{P:V->V->Prop}:Ll [k,l] P=P k l:=rfl
theorem jR{x:V}{P:Bool->Prop}:wO x P = ∃k,x=.bl k/\P k:=propext (by cases x<;>simp[wO])
theorem dC{x:V}{P:Int->Prop}:isInt x P = ∃k,x=.int k/\P k:=propext (by cases x<;>simp[isInt])
theorem eP{x:V}{P:Addr->Prop}:jj x P = ∃k,x=.ref k/\P k:=propext (by cases x<;>simp[jj])
theorem mL{x:Option (Option V)}{P:V->Prop}:uY x P = ∃k,x=some (some k)/\P k:=propext (by rcases x with _|_|v<;>simp[uY])
theorem oR{x:List V}{P:V->Prop}:J0 x P = ∃k,x=[k]/\P k:=propext (by rcases x with _|⟨v,_|⟨u,r⟩⟩<;>simp[J0])
theorem sP{x:List V}{P:V->V->Prop}:Ll x P = ∃k l,x=[k,l]/\P k l:=propext ⟨λh=>match x,h with|[v,u],h=>⟨v,u,rfl,h⟩,λ⟨k,l,e,h⟩=>by subst e;exact h⟩
theorem GR{α β:Sort _}{A:α->Prop}{B:β->Prop}{C:α->β->Prop}:(∃i j,A i/\B j/\C i j) = ∃i,A i /\ ∃j,B j/\C i j:=propext ⟨λ⟨i,j,a,b,c⟩=>⟨i,a,j,b,c⟩,λ⟨i,a,j,b,c⟩=>⟨i,j,a,b,c⟩⟩
def wE(i:Nat):TE:=λσ H Q=>uY σ[i]? λv=>Q v H
theorem IA{i:Nat}:Gg i=wE i:=by funext σ H Q;exact mL.symm
def yu(t:TE):TT:=λσ H Q=>t σ H λx H'=>wO x λk=>Q k H'
theorem yG{t:TE}:yg t=yu t:=by
 funext σ H Q;unfold yg yu;congr 1
 funext x H';exact jR.symm
theorem LR{t:TE}:tB t=yu t:=yG
def Cm(ta tb:TE):TE:=λσ H Q=>ta σ H λx H1=>wO x λc=>if c=true then tb σ H1 Q else Q (.bl false) H1
theorem F1{ta tb:TE}:zp ta tb=Cm ta tb:=by
 funext σ H Q;unfold zp Cm;congr 1
 funext x H';exact jR.symm
def Im(ta tb:TE):TE:=λσ H Q=>ta σ H λx H1=>wO x λc=>if c=true then Q (.bl true) H1 else tb σ H1 Q
theorem Jg{ta tb:TE}:KH ta tb=Im ta tb:=by
 funext σ H Q;unfold KH Im;congr 1
 funext x H';exact jR.symm
def CY(ta:TE):TE:=λσ H Q=>ta σ H λx H1=>wO x λc=>Q (.bl (!c)) H1
theorem FY{ta:TE}:Gz ta=CY ta:=by
 funext σ H Q;unfold Gz CY;congr 1
 funext x H';exact jR.symm
def mI(C:Int->Int->Prop)(g:Int->Int->V):R2:=λx y H Q=>isInt x λi=>isInt y λj=>C i j/\Q (g i j) H
theorem LD{C:Int->Int->Prop}{g:Int->Int->V}:rI C g=mI C g:=by
 funext x y H Q;unfold rI mI;rw[dC];simp only[dC];exact GR
def Lv(g:Int->Int->V):R2:=λx y H Q=>isInt x λi=>isInt y λj=>Q (g i j) H
theorem Ke{g:Int->Int->V}:yI g=Lv g:=by
 funext x y H Q;unfold yI Lv;simp only[dC];exact GR
def mU(g:Int->V):V->Hp->VK->Prop:=λx H Q=>isInt x λi=>Q (g i) H
theorem LA{g:Int->V}:rU g=mU g:=by
 funext x H Q;exact dC.symm
theorem pS{i j:Int}:AQ (.int i) (.int j)=true:=rfl
theorem EM{i j:Bool}:AQ (.bl i) (.bl j)=true:=rfl
def Le:R2:=λx y H Q=>match x,y with | .int i,.int j=>Q (.bl (decide (i=j))) H|_,_=>JV x y H Q
theorem FB{i j:Int}{H:Hp}{Q:VK}:Le (.int i) (.int j) H Q=Q (.bl (decide (i=j))) H:=rfl
theorem GD:JV=Le:=by
 funext x y H Q;unfold Le;split
 .unfold JV;show (AQ _ _=true/\_)=_;simp only[pS,V.int.injEq,true_and]
 .rfl
theorem F7{x y:V}{H:Hp}{Q:VK}:Le x y H Q=JV x y H Q:=by rw[GD]
def Lu:R2:=λx y H Q=>match x,y with | .int i,.int j=>Q (.bl (!decide (i=j))) H|_,_=>J3 x y H Q
theorem Gc{i j:Int}{H:Hp}{Q:VK}:Lu (.int i) (.int j) H Q=Q (.bl (!decide (i=j))) H:=rfl
theorem GV:J3=Lu:=by
 funext x y H Q;unfold Lu;split
 .unfold J3;show (AQ _ _=true/\_)=_;simp only[pS,V.int.injEq,true_and]
 .rfl
theorem Fx{x y:V}{H:Hp}{Q:VK}:Lu x y H Q=J3 x y H Q:=by rw[GV]
section
variable {K:W.Frag}
def Jz(K:W.Frag):R2:=λx y H Q=>jj x λp=>isInt y λi=>∃xs,vw K H p=some (.lst xs) /\ ∃v,jo xs i=some v/\Q v H
theorem Iz:Gm K=Jz K:=by
 funext x y H Q;unfold Gm Jz;simp only[dC,eP];exact GR
def Jt(K:W.Frag):R2:=λx y H Q=>jj x λp=>isInt y λi=>∃xs,vw K H p=some (.tup xs) /\ ∃v,jo xs i=some v/\Q v H
theorem IL:Dm K=Jt K:=by
 funext x y H Q;unfold Dm Jt;simp only[dC,eP];exact GR
def Jw(K:W.Frag)(neg:Bool):R2:=λx y H Q=>∃d,aP (vw K H) d x /\ ∃e,aP (vw K H) e y/\d.cmp/\e.cmp/\Q (.bl (cond neg (!F8 d e) (F8 d e))) H
theorem Hi{neg:Bool}:E9 K neg=Jw K neg:=by
 funext x y H Q;unfold E9 Jw;cases neg<;>exact GR
def HB(K:W.Frag)(neg:Bool):R2:=λx y H Q=>jj x λp=>jj y λq=>∃xs,vw K H p=some (.lst xs)/\vw K H q=some (.lst [])/\Q (.bl (cond neg (!xs.isEmpty) xs.isEmpty)) H
theorem HJ{neg:Bool}:KD K neg=HB K neg:=by
 funext x y H Q;unfold KD HB;simp only[eP];cases neg<;>exact GR
def Do(t:TE):TO:=λσ H Q=>t σ H λx H1=>isInt x λi=>Q (some i) H1
theorem EQ{t:TE}:yX t=Do t:=by
 funext σ H Q;unfold yX Do;congr 1
 funext x H';exact dC.symm
def Kl(K:W.Frag):V->Option Int->Option Int->Hp->VK->Prop:=λx lo hi H Q=>jj x λa=>∃xs,vw K H a=some (.lst xs)/\Nw K H (.lst (qB xs lo hi)) Q
theorem Ht:Kk K=Kl K:=by
 funext x lo hi H Q;exact eP.symm
def CU(K:W.Frag):V->List V->Hp->VK->Prop:=λx vs H Q=>jj x λl=>J0 vs λy=>∃xs,vw K H l=some (.lst xs)/\xs.length<sizeLine/\Jj K H l (.lst (xs++[y])) (Q .non)
theorem FK:BZ K=CU K:=by
 funext x y H Q;unfold BZ CU;simp only[eP,oR];exact GR
def Bs(K:W.Frag):V->V->V->Hp->(Hp->Prop)->Prop:=λo i v H Q=>jj o λp=>isInt i λk=>∃xs,vw K H p=some (.lst xs) /\ ∃j,xG xs.length k=some j/\Jj K H p (.lst (xs.set j v)) Q
theorem EH:DU K=Bs K:=by
 funext x y v H Q;unfold DU Bs;simp only[eP,dC];exact GR
def ID(i j:Nat)(ta:TA):TS:=λD σ H=>ta σ H λvs H1=>Ll vs λv w=>D.nx ((σ.set i (some v)).set j (some w)) H1
theorem JB{i j:Nat}{ta:TA}:Ei i j ta=ID i j ta:=by
 funext D σ H;unfold Ei ID;congr 1
 funext x H';exact sP.symm
def J7(i:Nat)(te:TE)(ti:D5):TS:=λD σ H=>uY σ[i]? λx=>te σ H λy H1=>ti x y H1 λz H2=>D.nx (σ.set i (some z)) H2
theorem Ig{i:Nat}{te:TE}{ti:D5}:JI i te ti=J7 i te ti:=by
 funext D σ H;exact mL.symm
def DH(K:W.Frag)(tl:TE):TI:=λσ H R=>tl σ H λx H1=>jj x λa=>(∃xs,kQ K H1 a xs)/\R (Lr K a) H1
theorem Fu{tl:TE}:zu K tl=DH K tl:=by
 funext σ H R;unfold zu DH;congr 1
 funext x H';exact eP.symm
def AZ(ta:TA):TI:=λσ H R=>ta σ H λvs H1=>J0 vs λx=>isInt x λj=>-(2^62)<=j/\j<2^62/\R (JY 0 j.toNat) H1
theorem F2{ta:TA}:yM ta=AZ ta:=by
 funext σ H R;unfold yM AZ;congr 1
 funext x H';simp only[oR,dC];exact propext ⟨λ⟨j,a,b⟩=>⟨_,a,j,rfl,b⟩,λ⟨_,a,j,e,b⟩=>⟨j,by rw[a,e],b⟩⟩
def uv(K:W.Frag):R2:=λx y H Q=>match x,y with
 | .int i,.int j=>Q (.int (i+j)) H
 | .ref l,.ref b=>∃xs,vw K H l=some (.lst xs) /\ ∃zs,vw K H b=some (.lst zs)/\xs.length+zs.length<=sizeLine/\Nw K H (.lst (xs++zs)) Q
 | _,_=>nR K x y H Q
theorem As{i j:Int}{H:Hp}{Q:VK}:uv K (.int i) (.int j) H Q=Q (.int (i+j)) H:=rfl
theorem AL{l b:Addr}{H:Hp}{Q:VK}:uv K (.ref l) (.ref b) H Q = ∃xs,vw K H l=some (.lst xs) /\ ∃zs,vw K H b=some (.lst zs)/\xs.length+zs.length<=sizeLine/\Nw K H (.lst (xs++zs)) Q:=rfl
theorem xU:nR K=uv K:=by
 funext x y H Q;unfold uv;split
 .exact rM
 .exact ni
 .rfl
theorem zY{x y:V}{H:Hp}{Q:VK}:uv K x y H Q=nR K x y H Q:=by rw[xU]
def Gq(K:W.Frag):R2:=λx y H Q=>match x,y with
 | .int i,.int j=>IntMulOk i j/\Q (.int (i*j)) H
 | _,_=>jp K x y H Q
theorem DW{i j:Int}{H:Hp}{Q:VK}:Gq K (.int i) (.int j) H Q=(IntMulOk i j/\Q (.int (i*j)) H):=rfl
theorem Cu:jp K=Gq K:=by
 funext x y H Q;unfold Gq;split
 .exact dZ
 .rfl
theorem BU{x y:V}{H:Hp}{Q:VK}:Gq K x y H Q=jp K x y H Q:=by rw[Cu]
end
def LU(P:Addr->Hp->VK->Prop)(t:TA):TE:=λσ H Q=>t σ H λvs H1=>J0 vs λx=>jj x λp=>P p H1 Q
theorem K3{P:Addr->Hp->VK->Prop}{t:TA}:Fv (λxs H Q=>∃p,xs=[.ref p]/\P p H Q) t=LU P t:=by
 funext σ H Q;unfold Fv LU;congr 1
 funext x H';simp only[oR,eP];exact propext ⟨λ⟨j,a,b⟩=>⟨_,a,j,rfl,b⟩,λ⟨_,a,j,e,b⟩=>⟨j,by rw[a,e],b⟩⟩
def LG(P:Int->Int->Hp->VK->Prop)(t:TA):TE:=λσ H Q=>t σ H λvs H1=>Ll vs λx y=>isInt x λi=>isInt y λj=>P i j H1 Q
theorem Kt{P:Int->Int->Hp->VK->Prop}{t:TA}:Fv (λxs H Q=>∃i j,xs=[.int i,.int j]/\P i j H Q) t=LG P t:=by
 funext σ H Q;unfold Fv LG;congr 1
 funext x H';simp only[sP,dC];exact propext ⟨λ⟨i,j,a,b⟩=>⟨_,_,a,i,rfl,j,rfl,b⟩,λ⟨_,_,a,i,e,j,e',b⟩=>⟨i,j,by rw[a,e,e'],b⟩⟩
end L2
namespace L2
open PySem
theorem dN{α:Sort _}{g z:List Value->α}(us:List Value)(hl:us.length=1)(h:∀a0,g [a0]=z [a0]):g us=z us:=by
 rcases us with _|⟨a0,_|⟨b,r⟩⟩
 all_goals first|exact h _|(simp at hl;done)
theorem ck{α:Sort _}{g z:List Value->α}(us:List Value)(hl:us.length=2)(h:∀a0 a1,g [a0,a1]=z [a0,a1]):g us=z us:=by
 rcases us with _|⟨a0,_|⟨a1,_|⟨b,r⟩⟩⟩
 all_goals first|exact h _ _|(simp at hl;done)
theorem wu{α:Sort _}{g z:List Value->α}(us:List Value)(hl:us.length=3)(h:∀a0 a1 a2,g [a0,a1,a2]=z [a0,a1,a2]):g us=z us:=by
 rcases us with _|⟨a0,_|⟨a1,_|⟨a2,_|⟨b,r⟩⟩⟩⟩
 all_goals first|exact h _ _ _|(simp at hl;done)
theorem Jr{α:Sort _}{g z:List Value->α}(us:List Value)(hl:us.length=4)(h:∀a0 a1 a2 a3,g [a0,a1,a2,a3]=z [a0,a1,a2,a3]):g us=z us:=by
 rcases us with _|⟨a0,_|⟨a1,_|⟨a2,_|⟨a3,_|⟨b,r⟩⟩⟩⟩⟩
 all_goals first|exact h _ _ _ _|(simp at hl;done)
end L2
namespace L2
open PySem PySem.Spec PyProof.Rows
def ch:Nat->Nat->Nat
 | _,0=>1
 | 0,_+1=>0
 | n+1,k+1=>ch n k+ch n (k+1)
def dl(a:Rat)(s:Nat->Rat):Nat->Nat->Rat
 | 0,i=>s i
 | k+1,i=>dl a s k (i+1)-a*dl a s k i
def fw(t r:Nat->Rat):Nat->Nat->Rat
 | 0,h=>if h=0 then 1 else 0
 | k+1,h=>(if h=0 then 0 else fw t r k (h-1))+t h*fw t r k h+r (h+1)*fw t r k (h+1)
def bw(t r:Nat->Rat):Nat->Nat->Rat
 | 0,h=>if h=0 then 1 else 0
 | k+1,h=>bw t r k (h+1)+t h*bw t r k h+(if h=0 then 0 else r h*bw t r k (h-1))
end L2
namespace L2
open PySem PySem.Spec PyProof.Rows
def GJ(te:TE)(g1 g2:TG):TS:=λD σ H=>te σ H λv H1=>g1 v σ H1 λσ1 H2=>g2 v σ1 H2 D.nx
theorem Gj{X:Cx}{t1 t2 e:Expr}{te:TE}{g1 g2:TG}{pos:Pos}(he:QE X e te)(h1:QG X t1 g1)(h2:QG X t2 g2)
  (hz:(assignEach [t1,t2] X.env).map (·.2)=[assign t1 X.env,assign t2 X.env]:=by rfl)(hw:swappedStores [t1,t2] e X.env=pure none:=by rfl):QS X (.Assign [t1,t2] e pos) (GJ te g1 g2):=⟨by
 intro pins s σ H D I h;refine wpAny_Assign_two (dH (he.h pins s σ H _ I h) λv s1 ⟨x,H1,I1,r1,q1⟩=>?_) hz hw;refine dH (h1.h pins s1 σ H1 x v _ I1 r1 q1) λ_ s2 ⟨σ2,H2,I2,q2⟩=>?_;exact dH (h2.h pins s2 σ2 H2 x v _ I2 r1 q2) λ_ s3 q=>q⟩
structure Kc where
 params:Arguments
 body:Expr
 scope:Scope
 Nl:List Str
 ixs:List Nat
 tl:TE
structure Ma where
 t:Addr
 p:Addr
 c:Addr
 d:Addr
 ps:Arguments
 b:Expr
 sc:Scope
 ds:List D
def Ob(D:Int)(B:Nat)(f:Nat->Rat):Prop:=∀k,∃n:Int,f k=(n:Rat)/(D:Rat)/\Bt B n
section
variable {D E:Int}{a b e:Nat}{f g:Nat->Rat}
theorem Ki{n:Nat}:Bt n 0:=Nat.two_pow_pos n
theorem Ob.mono(h:Ob D a f)(hl:a<=b):Ob D b f:=λk=>by
 obtain⟨n,e1,h1⟩:=h k;exact⟨n,e1,h1.mono hl⟩
theorem Ob.congr(h:Ob D a f)(e:∀k,g k=f k):Ob D a g:=λk=>by
 rw[e k];exact h k
theorem Ob.bq{qs:List (Int×Int)}(h:Ob D a (cf qs))(hD:D≠0)(hb:Bt a D)(hF:∀q∈qs,Fq q):∀q∈qs,Bq a q:=λq hq=>by
 obtain⟨k,hk,rfl⟩:=List.getElem_of_mem hq;obtain⟨n,e1,h1⟩:=h k;rw[bN (YK hk)] at e1;rw[ju (hF _ hq) (iP hD) (by rw[gS hD,e1])]
 exact lM hD h1 hb
theorem Ob.add(h1:Ob D a f)(h2:Ob D b g):Ob D (max a b+1) (λk=>f k+g k):=λk=>by
 obtain⟨m,e1,b1⟩:=h1 k;obtain⟨n,e2,b2⟩:=h2 k;refine⟨m+n,?_,b1.add b2⟩;show f k+g k=_;rw[e1,e2,Xa];grind
theorem Ob.up(hD:D≠0)(hE:E≠0)(h:Ob D a f)(hb:Bt e E):Ob (D*E) (a+e) f:=λk=>by
 obtain⟨n,e1,h1⟩:=h k;refine⟨n*E,?_,h1.mul hb⟩;have:=aq hD;have:=aq hE;rw[e1,Xb,Xb];grind
theorem Ob.one{c:Rat}{m:Int}(hD:D≠0)(hE:E≠0)(h:Ob D a f)(hc:c=(m:Rat)/(E:Rat))(hb:Bt b m):Ob (D*E) (a+b) (λk=>f k*c):=λk=>by
 obtain⟨n,e1,h1⟩:=h k;refine⟨n*m,?_,h1.mul hb⟩;have:=aq hD;have:=aq hE;show f k*c=_;rw[e1,hc,Xb,Xb];grind
def Pb(a:Nat)(f:Nat->Rat):Prop:=∃D:Int,D≠0/\Bt a D/\Ob D a f
theorem Pb.mono(h:Pb a f)(hl:a<=b):Pb b f:=by
 obtain⟨D,h1,h2,h3⟩:=h;exact⟨D,h1,h2.mono hl,h3.mono hl⟩
theorem Pb.congr(h:Pb a f)(e:∀k,g k=f k):Pb a g:=by
 obtain⟨D,h1,h2,h3⟩:=h;exact⟨D,h1,h2,h3.congr e⟩
theorem Pb.bq{qs:List (Int×Int)}(h:Pb a (cf qs))(hF:∀q∈qs,Fq q):∀q∈qs,Bq a q:=by
 obtain⟨D,h1,h2,h3⟩:=h;exact h3.bq h1 h2 hF
theorem Pb.add(h1:Pb a f)(h2:Pb b g):Pb (a+b+1) (λk=>f k+g k):=by
 obtain⟨D,d1,d2,d3⟩:=h1;obtain⟨E,e1,e2,e3⟩:=h2;have x2:=Ob.up e1 d1 e3 d2;rw[Y4] at x2;refine⟨D*E,Y9 d1 e1,(d2.mul e2).mono (),((Ob.up d1 e1 d3 e2).add x2).mono ()⟩
theorem Pb.one{c:Rat}{m:Int}(h:Pb a f)(hE:E≠0)(hc:c=(m:Rat)/(E:Rat))(hb:Bt b m)(hb':Bt b E):Pb (a+b) (λk=>f k*c):=by
 obtain⟨D,d1,d2,d3⟩:=h;exact⟨D*E,Y9 d1 hE,d2.mul hb',Ob.one d1 hE d3 hc hb⟩
end
theorem CB{D:Int}{b:Nat}{p q:Int×Int}{m n:Int}(h1:wv p=(m:Rat)/(D:Rat))(h2:wv q=(n:Rat)/(D:Rat))(b1:Bt b m)(b2:Bt b n):Ob D b (cf [p,q]):=λk=>by
 rcases k with _|_|k
 .exact⟨m,h1,b1⟩
 .exact⟨n,h2,b2⟩
 .refine⟨0,?_,Ki⟩;show (0:Rat)=((0:Int):Rat)/_;have c0:((0:Int):Rat)=0:=rfl;rw[c0];grind
theorem wF{D:Int}{b:Nat}{p:Int×Int}{m:Int}(h1:wv p=(m:Rat)/(D:Rat))(b1:Bt b m):Ob D b (cf [p]):=λk=>by
 rcases k with _|k
 .exact⟨m,h1,b1⟩
 .refine⟨0,?_,Ki⟩;show (0:Rat)=((0:Int):Rat)/_;have c0:((0:Int):Rat)=0:=rfl;rw[c0];grind
theorem C0{a:Nat}(h:1<=a):Pb a (cf []):=⟨1,∅,Bt.mono (m:=1) ∅ h,λk=>⟨0,by
  show (0:Rat)=((0:Int):Rat)/_;have c0:((0:Int):Rat)=0:=rfl;rw[c0];grind,Ki⟩⟩
def lin(p q:Rat)(f:Nat->Rat):Nat->Rat
 | 0=>f 0*p
 | k+1=>f (k+1)*p+f k*q
theorem De{f g:Nat->Rat}(hg:∀i,2<=i->g i=0):∀n k,pr f g n k=(if k<n then f k*g 0 else 0)+(if 0<k/\k-1<n then f (k-1)*g 1 else 0)
 | 0,k=>by
  show (0:Rat)=_;rw[Yc (),Yc ()];grind
 | n+1,k=>by
  show pr f g n k+(if n<=k then f n*g (k-n) else 0)=_
  rw[De hg n k];by_cases h1:k<n
  .rw[Yb h1,Yb (show k<n+1 by nofun),Yc (show ¬ n<=k by nofun)]
   by_cases h0:0<k
   .rw[Yb (show 0<k/\k-1<n from ⟨h0,()⟩),Yb (show 0<k/\k-1<n+1 from ⟨h0,()⟩)]
    grind
   .rw[Yc (),Yc ()];grind
  .by_cases h2:k=n
   .subst h2;rw[Yc h1,Yb (show k<k+1 by nofun),Yb (Yq k),Xj]
    by_cases h0:0<k
    .rw[Yb (show 0<k/\k-1<k from ⟨h0,()⟩),Yb (show 0<k/\k-1<k+1 from ⟨h0,()⟩)]
     grind
    .rw[Yc (),Yc ()];grind
   .by_cases h3:k=n+1
    .subst h3;rw[Yc h1,Yc (show ¬ (0<n+1/\n+1-1<n) by nofun),Yc (show ¬ (n+1<n+1) by nofun),Yb (show n<=n+1 by nofun),Yb (show 0<n+1/\n+1-1<n+1 by nofun),show n+1-n=1 by nofun,Xk]
     grind
    .rw[Yc h1,Yc (show ¬ (0<k/\k-1<n) by nofun),Yb (show n<=k by nofun),Yc (show ¬ k<n+1 by nofun),Yc (show ¬ (0<k/\k-1<n+1) by nofun),hg (k-n) ()]
     grind
theorem kT{fs:List (Int×Int)}{p q:Int×Int}(k:Nat):pr (cf fs) (cf [p,q]) fs.length k=lin (wv p) (wv q) (cf fs) k:=by
 rw[De (λi hi=>aJ hi)];have e0:cf [p,q] 0=wv p:=rfl;have e1:cf [p,q] 1=wv q:=rfl;rw[e0,e1];rcases k with _|k
 .rw[Yc (show ¬ (0<0/\0-1<fs.length) by nofun)]
  show _=cf fs 0*wv p;split
  .grind
  .rw[aJ ()];grind
 .show _=cf fs (k+1)*wv p+cf fs k*wv q;rw[Xk];by_cases h:k+1<fs.length
  .rw[Yb h,Yb ⟨(),()⟩]
  .rw[Yc h,aJ (show fs.length<=k+1 by nofun)]
   by_cases h2:k<fs.length
   .rw[Yb ⟨(),h2⟩];grind
   .rw[Yc (),aJ (show fs.length<=k by nofun)]
    grind
def Lp(p q:Rat):Nat->Nat->Rat
 | 0=>λk=>if k=0 then 1 else 0
 | i+1=>lin p q (Lp p q i)
theorem wI{rs:List (Int×Int)}{n:Nat}(h:aS rs)(h1:cf rs n≠0)(h2:∀k,n<k->cf rs k=0):rs.length=n+1:=by
 have l1:n<rs.length:=by
  rcases Nat.lt_or_ge n rs.length with z|z
  .exact z
  .exact absurd (aJ z) h1
 rcases Nat.lt_or_ge (n+1) rs.length with z|z
 .exfalso;have e:rs.getLast? = some rs[rs.length-1]:=by rw[Xe,YK]
  have h3:=h.2 _ e;have h4:=h2 (rs.length-1) ();rw[bN (YK ())] at h4;have hF:=h.1 rs[rs.length-1] (YJ ());unfold wv at h4;have c1:((rs[rs.length-1].1:Int):Rat)≠0:=aq h3;have c2:=aq hF.ne;grind
 .nofun
theorem vx{a b c:Int}(h:Int.gcd a b=1)(hd:a∣b*c):a∣c:=by
 rw[<-Int.natAbs_dvd_natAbs] at hd ⊢;rw[YU] at hd;exact Y7 h hd
theorem Fi{b q E:Int}(hb:0<b)(hq:0<q)(h1:b∣E)(h2:q∣E):b*q.fdiv (Int.gcd b q:Int)∣E:=by
 obtain⟨_,_,_,hg,_⟩:=ux hb hq;have e:=gI hg (YQ b q);obtain⟨m,hm⟩:=YO b q;obtain⟨g,hgg⟩ : ∃g:Nat,g=Int.gcd b q:=⟨_,rfl⟩;generalize hc:q.fdiv (Int.gcd b q:Int)=c at e;rw[<-hgg] at hg e hm;have hcop:Int.gcd c m=1:=by
  have z:Int.gcd b q=g*Int.gcd m c:=by
   rw[hm,<-e,Y4 c,Int.gcd_mul_left];simp
  rw[<-hgg] at z;have g0:0<g:=();have:Int.gcd m c=1:=by
   have:g*1=g*Int.gcd m c:=();exact (Nat.eq_of_mul_eq_mul_left g0 this).symm
  rw[YL];exact this
 obtain⟨u,hu⟩:=h1;obtain⟨v,hv⟩:=h2;have:c∣m*u:=by
  refine⟨v,?_⟩;have z:(g:Int)*(m*u)=(g:Int)*(c*v):=by
   rw[<-Y3,<-hm,<-hu,hv,<-e];rw[Y4 c,Y3]
  exact Xl hg z
 obtain⟨t,ht⟩:=vx hcop this;exact⟨t,by rw[hu,ht,Y3]⟩
theorem Cb{q:Int×Int}{n E:Int}(h:Fq q)(hE:E≠0)(e:wv q=(n:Rat)/(E:Rat)):q.2∣E:=by
 unfold wv at e;have c1:=aq h.ne;have c2:=aq hE;have e1:(q.1:Rat)*(E:Rat)=(n:Rat)*(q.2:Rat):=⋯;have e2:q.1*E=n*q.2:=by
  rw[<-Xb,<-Xb] at e1;exact Rat.intCast_inj.mp e1
 refine vx (b:=q.1) (by rw[YL];exact h.2) ⟨n,by rw[e2,Y4]⟩
theorem vM{a:Nat}{qs:List (Int×Int)}{D:Int}{ns:List Int}(h:Pb a (cf qs))(hF:∀q∈qs,Fq q)(hD:0<D)(hm:∀E:Int,(∀q∈qs,q.2∣E)->D∣E)(hl:ns.length=qs.length)(hn:∀(i:Nat)(n:Int)(q:Int×Int),ns[i]? = some n->qs[i]? = some q->(n:Rat)=wv q*(D:Rat)):Bt a D /\ ∀n∈ns,Bt a n:=by
 obtain⟨E,hE,bE,oE⟩:=h;obtain⟨t,ht⟩:=hm E λq hq=>by
  obtain⟨k,hk,rfl⟩:=List.getElem_of_mem hq;obtain⟨n,e,_⟩:=oE k;rw[bN (YK hk)] at e;exact Cb (hF _ hq) hE e
 have t0:t≠0:=λz=>hE (by rw[ht,z,Xh])
 have le:∀x:Int,x.natAbs<=(x*t).natAbs:=λx=>by
  rw[YU];exact Y1 _ ()
 refine⟨?_,λn hn'=>?_⟩
 .unfold Bt at *
  have:=le D;rw[<-ht] at this;nofun
 .obtain⟨i,hi,rfl⟩:=List.getElem_of_mem hn';have hi':i<qs.length:=();have e1:=hn i _ _ (YK hi) (YK hi');obtain⟨m,e2,bm⟩:=oE i;rw[bN (YK hi')] at e2;have c1:=aq hE;have e3:((ns[i]*t:Int):Rat)=(m:Rat):=by
   rw[Xb,e1,e2];have:(E:Rat)=(D:Rat)*(t:Rat):=by rw[ht,Xb]
   have c2:(D:Rat)≠0:=aq ();have c3:(t:Rat)≠0:=aq t0;rw[this];grind
  have e4:=Rat.intCast_inj.mp e3;unfold Bt at *
  have:=le ns[i];rw[e4] at this;nofun
def fm(f:Nat->Rat):Nat->Rat->Rat
 | 0,_=>0
 | n+1,x=>fm f n x+f n*cQ x n
theorem rm{f g:Nat->Rat}{x:Rat}:∀n,(∀k,k<n->f k=g k)->fm f n x=fm g n x
 | 0,_=>rfl
 | n+1,h=>by
  show fm f n x+f n*_=fm g n x+g n*_;rw[rm n (λk hk=>h k ()),h n ()]
theorem sk{f g:Nat->Rat}{x:Rat}:∀n,fm (λk=>f k+g k) n x=fm f n x+fm g n x
 | 0=>by show (0:Rat)=0+0;grind
 | n+1=>by
  show fm (λk=>f k+g k) n x+(f n+g n)*cQ x n=fm f n x+f n*cQ x n+(fm g n x+g n*cQ x n);rw[sk n];grind
theorem mE{f:Nat->Rat}{x:Rat}{n:Nat}(h:∀k,n<=k->f k=0):∀m,fm f (n+m) x=fm f n x
 | 0=>rfl
 | m+1=>by
  show fm f (n+m) x+f (n+m)*_=_;rw[mE h m,h (n+m) ()];grind
theorem x9{p q:Rat}{f:Nat->Rat}{x:Rat}:∀n,fm (lin p q f) (n+1) x=p*fm f (n+1) x+q*x*fm f n x
 | 0=>by
  show 0+f 0*p*1=p*(0+f 0*1)+q*x*0;grind
 | n+1=>by
  show fm (lin p q f) (n+1) x+(f (n+1)*p+f n*q)*cQ x (n+1)=p*(fm f (n+1) x+f (n+1)*cQ x (n+1))+q*x*(fm f n x+f n*cQ x n);rw[x9 n,mT];grind
def EV(f:Nat->Rat)(x:Rat):Rat:=fm f 20 x
theorem iq{p q:Rat}{f:Nat->Rat}(h:f 19=0)(x:Rat):EV (lin p q f) x=(p+q*x)*EV f x:=by
 unfold EV;rw[x9 19];have:fm f 20 x=fm f 19 x:=by
  show fm f 19 x+f 19*_=_;rw[h];grind
 rw[this];grind
theorem cD{f g:Nat->Rat}(h:∀k,f k=g k)(x:Rat):EV f x=EV g x:=rm 20 λk _=>h k
theorem jA{f g:Nat->Rat}(x:Rat):EV (λk=>f k+g k) x=EV f x+EV g x:=sk 20
theorem pN{p q:Rat}(x:Rat):EV (Lp p q 0) x=1:=by
 unfold EV;have:=mE (f:=Lp p q 0) (x:=x) (n:=1) (λk hk=>Yc ()) 19;rw[this];show 0+1*1=(1:Rat);grind
def DF(f:Nat->Rat):Nat->Rat:=λk=>((k+1:Nat):Int)*f (k+1)
theorem xg{p:Rat}{f:Nat->Rat}(k:Nat):DF (lin p 1 f) k=lin p 1 (DF f) k+f k:=by
 cases k with
 | zero =>
  show (((0+1:Nat):Int):Rat)*(f 1*p+f 0*1)=(((0+1:Nat):Int):Rat)*f 1*p+f 0;have c1:(((0+1:Nat):Int):Rat)=1:=rfl;rw[c1];grind
 | succ k =>
  show (((k+1+1:Nat):Int):Rat)*(f (k+2)*p+f (k+1)*1)=(((k+1+1:Nat):Int):Rat)*f (k+2)*p+(((k+1:Nat):Int):Rat)*f (k+1)*1+f (k+1);have c1:(((k+1+1:Nat):Int):Rat)=(((k+1:Nat):Int):Rat)+1:=by
   rw[show ((k+1+1:Nat):Int)=((k+1:Nat):Int)+1 by nofun,Xa]
   rfl
  rw[c1];grind
theorem rh{c:Rat}{g:Nat->Rat}{j:Nat}{x:Rat}:∀M,fm (λk=>if j<=k then c*g (k-j) else 0) (j+M) x=c*cQ x j*fm g M x
 | 0=>by
  have:∀n,n<=j->fm (λk=>if j<=k then c*g (k-j) else 0) n x=0:=λn=>by
   induction n with
   | zero=>intro _;rfl
   | succ n ih =>
    intro hn;show fm (λk=>if j<=k then c*g (k-j) else 0) n x+(if j<=n then c*g (n-j) else 0)*cQ x n=0
    rw[ih (),Yc ()];grind
  rw[Nat.add_zero,this j (Yq _)];show (0:Rat)=c*cQ x j*0;grind
 | M+1=>by
  show fm (λk=>if j<=k then c*g (k-j) else 0) (j+M) x+(if j<=j+M then c*g (j+M-j) else 0)*cQ x (j+M)=c*cQ x j*(fm g M x+g M*cQ x M)
  rw[rh M,Yb (),Nat.add_sub_cancel_left];have:cQ x (j+M)=cQ x j*cQ x M:=by
   induction M with
   | zero=>show cQ x j=cQ x j*1;grind
   | succ M ih =>
    show cQ x (j+M)*x=cQ x j*(cQ x M*x);rw[ih];grind
  rw[this];grind
theorem DO{f g:Nat->Rat}{x:Rat}{m:Nat}(hg:∀k,m<=k->g k=0):∀n,n+m<=20->EV (λk=>pr f g n k) x=fm f n x*fm g m x
 | 0,_=>by
  have:∀n,fm (λk=>pr f g 0 k) n x=0:=λn=>by
   induction n with
   | zero=>rfl
   | succ n ih =>
    show fm (λk=>pr f g 0 k) n x+0*_=0;rw[ih];grind
  show fm _ 20 x=0*_;rw[this];grind
 | n+1,h=>by
  have e:EV (λk=>pr f g (n+1) k) x=EV (λk=>pr f g n k) x+EV (λk=>if n<=k then f n*g (k-n) else 0) x:=jA x
  rw[e,DO hg n ()];have s:EV (λk=>if n<=k then f n*g (k-n) else 0) x=f n*cQ x n*fm g m x:=by
   show fm _ 20 x=_;have z:=rh (c:=f n) (g:=g) (j:=n) (x:=x) (20-n);rw[show n+(20-n)=20 by nofun] at z
   rw[z];have z2:=mE (x:=x) hg (20-n-m);rw[show m+(20-n-m)=20-n by nofun] at z2
   rw[z2]
  rw[s];show _=(fm f n x+f n*cQ x n)*_;grind
theorem gJ{f:Nat->Rat}{n:Nat}(h:∀k,n<=k->f k=0)(hn:n<=20)(x:Rat):EV f x=fm f n x:=by
 have:=mE (x:=x) h (20-n);rw[show n+(20-n)=20 by nofun] at this
 exact this
theorem ve{q:Int×Int}{qs:List (Int×Int)}{x:Rat}:∀n,fm (cf (q::qs)) (n+1) x=wv q+x*fm (cf qs) n x
 | 0=>by
  show 0+wv q*1=wv q+x*0;grind
 | n+1=>by
  show fm (cf (q::qs)) (n+1) x+cf qs n*cQ x (n+1)=wv q+x*(fm (cf qs) n x+cf qs n*cQ x n);rw[ve n,mT];grind
theorem sn{x:Rat}:∀{qs:List (Int×Int)},qs.length<=20->JZ qs x=EV (cf qs) x
 | [],_=>by
  rw[gJ (n:=0) (λk _=>A9 k) ∅];rfl
 | q::qs,h=>by
  have h':qs.length+1<=20:=h;rw[gJ (n:=qs.length+1) (λk hk=>aJ hk) h',ve,<-gJ (n:=qs.length) (λk hk=>aJ hk) (),<-sn ()];rfl
def bB:List Rat->Rat->Rat
 | [],_=>1
 | s::l,x=>(x-s)*bB l x
def kO:List Rat->Rat->Rat
 | [],_=>0
 | s::l,x=>bB l x+(x-s)*kO l x
theorem gk{s x:Rat}:∀l,bB (l++[s]) x=(x-s)*bB l x
 | []=>rfl
 | a::l=>by
  show (x-a)*bB (l++[s]) x=(x-s)*((x-a)*bB l x);rw[gk l];grind
theorem nY{s x:Rat}:∀l,kO (l++[s]) x=(x-s)*kO l x+bB l x
 | []=>by show 1+(x-s)*0=(x-s)*0+1;grind
 | a::l=>by
  show bB (l++[s]) x+(x-a)*kO (l++[s]) x=(x-s)*(bB l x+(x-a)*kO l x)+(x-a)*bB l x;rw[gk,nY l];grind
theorem mV{x:Rat}{l2:List Rat}:∀l1,bB (l1++l2) x=bB l1 x*bB l2 x
 | []=>by show _=1*_;grind
 | a::l=>by
  show (x-a)*bB (l++l2) x=(x-a)*bB l x*bB l2 x;rw[mV l];grind
theorem qH{s:Rat}:∀{l:List Rat},s∈l->bB l s=0
 | a::l,h=>by
  show (s-a)*bB l s=0;rcases YY.mp h with rfl|h
  .grind
  .rw[qH h];grind
theorem pK{x:Rat}:∀{l:List Rat},x∉l->bB l x≠0
 | [],_=>by show (1:Rat)≠0;grind
 | a::l,h=>by
  have h1:x≠a:=λz=>h (z▸Yi);have h2:=pK λz=>h (Yj a z);show (x-a)*bB l x≠0;have:x-a≠0:=⋯;grind
def eU:List Rat->Rat->Rat
 | [],_=>0
 | a::l,x=>a+x*eU l x
def GW(s:Rat):List Rat->List Rat
 | []=>[]
 | [_]=>[]
 | _::b::l=>eU (b::l) s::GW s (b::l)
theorem xT{s:Rat}:∀l:List Rat,(GW s l).length=l.length-1
 | []=>rfl
 | [_]=>rfl
 | _::b::l=>by
  show (GW s (b::l)).length+1=_;rw[xT (b::l)];rfl
theorem wZ{s x:Rat}:∀l:List Rat,eU l x-eU l s=(x-s)*eU (GW s l) x
 | []=>by show (0:Rat)-0=(x-s)*0;grind
 | [a]=>by show a+x*0-(a+s*0)=(x-s)*0;grind
 | a::b::l=>by
  have:=wZ (s:=s) (x:=x) (b::l);show a+x*eU (b::l) x-(a+s*eU (b::l) s)=(x-s)*(eU (b::l) s+x*eU (GW s (b::l)) x);have e:(x-s)*(x*eU (GW s (b::l)) x)=x*(eU (b::l) x-eU (b::l) s):=by rw[this];grind
  grind
theorem qp:∀(S:List Rat)(l:List Rat),S.Nodup->l.length<=S.length->(∀s∈S,eU l s=0) -> ∀x,eU l x=0
 | [],l,_,hl,_,x=>by
  have:l=[]:=List.length_eq_zero_iff.mp (Nat.le_zero.mp hl);rw[this];rfl
 | s::S,l,nd,hl,h,x=>by
  rw[List.nodup_cons] at nd;have h0:=h s Yi;have g:∀x,eU (GW s l) x=0:=qp S (GW s l) nd.2 (by rw[xT];have:l.length<=S.length+1:=hl;nofun) λt ht=>by
   have e:=wZ (s:=s) (x:=t) l;rw[h t (Yj _ ht),h0] at e;have hts:t-s=0->t=s:=λz=>by grind
   have hne:t-s≠0:=λz=>nd.1 (by rw[<-hts z];exact ht)
   grind
  have e:=wZ (s:=s) (x:=x) l;rw[g x,h0] at e;grind
def oo(n:Nat)(f:Rat->Rat):Prop:=∃l:List Rat,l.length<=n /\ ∀x,f x=eU l x
theorem oo.mono{m n:Nat}{f:Rat->Rat}(h:oo m f)(hl:m<=n):oo n f:=by
 obtain⟨l,h1,h2⟩:=h;exact⟨l,(),h2⟩
theorem oo.zero{n:Nat}{f:Rat->Rat}{S:List Rat}(h:oo n f)(nd:S.Nodup)(hl:n<=S.length)(hz:∀s∈S,f s=0)(x:Rat):f x=0:=by
 obtain⟨l,h1,h2⟩:=h;rw[h2];exact qp S l nd () (λs hs=>by rw[<-h2];exact hz s hs) x
def wC:List Rat->List Rat->List Rat
 | [],b=>b
 | a,[]=>a
 | x::a,y::b=>(x+y)::wC a b
theorem qL:∀a b:List Rat,(wC a b).length=max a.length b.length
 | [],b=>by show b.length=max 0 b.length;nofun
 | x::a,[]=>by show (x::a).length=max (x::a).length 0;nofun
 | x::a,y::b=>by
  show (wC a b).length+1=max (a.length+1) (b.length+1);rw[qL a b];nofun
theorem sj{t:Rat}:∀a b:List Rat,eU (wC a b) t=eU a t+eU b t
 | [],b=>by show eU b t=0+eU b t;grind
 | x::a,[]=>by show eU (x::a) t=eU (x::a) t+0;grind
 | x::a,y::b=>by
  show x+y+t*eU (wC a b) t=x+t*eU a t+(y+t*eU b t);rw[sj a b];grind
theorem oo.add{n:Nat}{f g:Rat->Rat}(h1:oo n f)(h2:oo n g):oo n (λx=>f x+g x):=by
 obtain⟨a,a1,a2⟩:=h1;obtain⟨b,b1,b2⟩:=h2;refine⟨wC a b,by rw[qL];nofun,λx=>?_⟩
 show f x+g x=_;rw[sj,a2,b2]
theorem wU{c x:Rat}:∀l:List Rat,eU (l.map λa=>a*c) x=eU l x*c
 | []=>by show (0:Rat)=0*c;grind
 | a::l=>by
  show a*c+x*eU (l.map λa=>a*c) x=(a+x*eU l x)*c;rw[wU l];grind
theorem oo.sc{n:Nat}{f:Rat->Rat}(h:oo n f)(c:Rat):oo n (λx=>f x*c):=by
 obtain⟨a,a1,a2⟩:=h;refine⟨a.map λa=>a*c,by rw[YD];exact a1,λx=>?_⟩
 show f x*c=_;rw[wU,a2]
theorem oo.mulX{n:Nat}{f:Rat->Rat}(h:oo n f)(s:Rat):oo (n+1) (λx=>(x-s)*f x):=by
 obtain⟨a,a1,a2⟩:=h;refine⟨wC (0::a) (a.map λa=>a*(-s)),by rw[qL,YD];show max (a.length+1) a.length<=n+1;nofun,λx=>?_⟩
 rw[sj,wU];show (x-s)*f x=0+x*eU a x+eU a x * -s;rw[a2];grind
theorem oo.prod:∀l:List Rat,oo (l.length+1) (bB l)
 | []=>⟨[1],Yq _,λx=>by show (1:Rat)=1+x*0;grind⟩
 | s::l=>(oo.prod l).mulX s
theorem CK{f:Nat->Rat}:∀n x,fm f n x=eU ((List.range n).map f) x
 | n,x=>by
  have key:∀n j,eU ((List.range n).map λi=>f (j+i)) x*cQ x j+fm f j x=fm f (j+n) x:=λn=>by
   induction n with
   | zero =>
    intro j;show 0*_+_=fm f j x;grind
   | succ n ih =>
    intro j;rw[List.range_succ_eq_map,YE,List.map_map];show (f (j+0)+x*eU ((List.range n).map ((λi=>f (j+i)) ∘ Nat.succ)) x)*cQ x j+fm f j x=_;have e:((λi=>f (j+i)) ∘ Nat.succ)=λi=>f (j+1+i):=by
     funext i;show f (j+(i+1))=f (j+1+i);rw[show j+(i+1)=j+1+i by nofun]
    have:=ih (j+1);rw[e,show j+(n+1)=j+1+n by nofun,<-this,mT]
    show _=_+(fm f j x+f j*cQ x j);rw[Nat.add_zero];grind
  have:=key n 0;rw[Xm] at this;rw[<-this];have e:(λi=>f (0+i))=f:=by funext i;rw[Xm]
  rw[e];show _*1+0=_;grind
theorem oo.of{f:Nat->Rat}{n:Nat}(h:∀k,n<=k->f k=0)(hn:n<=20):oo n (EV f):=⟨(List.range n).map f,by simp,λx=>by rw[gJ h hn,CK]⟩
def iZ(cs:List gP):List Rat:=cs.map λc=>wv c.1
def jH(cs:List gP)(i:Nat):List Rat:=(iZ cs).take i++(iZ cs).drop (i+1)
def HH(cs:List gP)(i:Nat):Rat:=match cs[i]? with
 | some c=>wv c.2
 | none=>0
def vg(cs:List gP)(i:Nat):Rat:=match cs[i]? with
 | some c=>wv c.1
 | none=>0
theorem vX{cs:List gP}{i:Nat}{c:gP}(h:cs[i]? = some c):HH cs i=wv c.2:=by unfold HH;rw[h]
theorem jr{cs:List gP}{i:Nat}{c:gP}(h:cs[i]? = some c):vg cs i=wv c.1:=by unfold vg;rw[h]
def tG(cs:List gP):Nat->Rat->Rat
 | 0,_=>0
 | n+1,x=>tG cs n x+HH cs n*bB (jH cs n) x/bB (jH cs n) (vg cs n)
theorem fg(cs:List gP):(iZ cs).length=cs.length:=by unfold iZ;rw[YD]
theorem jK{cs:List gP}{i:Nat}{c:gP}(h:cs[i]? = some c):(iZ cs)[i]? = some (wv c.1):=by unfold iZ;rw[YA,h];rfl
theorem rY{cs:List gP}{i:Nat}(h:i<cs.length):iZ cs=(iZ cs).take i++vg cs i::(iZ cs).drop (i+1):=by
 have e:=jK (YK h);have h':i<(iZ cs).length:=by rw[fg];exact h
 rw[YK h'] at e;have e':=Ym e;rw[jr (YK h),<-e',List.getElem_cons_drop,List.take_append_drop]
theorem EX{cs:List gP}{i j:Nat}(hj:j<cs.length)(hi:i<cs.length)(h:j≠i):vg cs j∈jH cs i:=by
 have e:=jK (YK hj);rw[<-jr (YK hj)] at e;unfold jH;rcases Nat.lt_or_gt_of_ne h with z|z
 .refine List.mem_append.mpr (.inl ?_);exact YB (i:=j) (by rw[Xf,Yb z];exact e)
 .refine List.mem_append.mpr (.inr ?_);exact YB (i:=j-(i+1)) (by rw[List.getElem?_drop,show i+1+(j-(i+1))=j by nofun];exact e)
theorem yL{cs:List gP}{i:Nat}(hi:i<cs.length)(nd:(iZ cs).Nodup):vg cs i∉jH cs i:=by
 rw[rY hi] at nd;rw[List.nodup_append] at nd;obtain⟨n1,n2,n3⟩:=nd;intro h;unfold jH at h;rcases List.mem_append.mp h with z|z
 .exact n3 _ z _ Yi rfl
 .exact (List.nodup_cons.mp n2).1 z
theorem Bc{cs:List gP}{i:Nat}(hi:i<cs.length)(nd:(iZ cs).Nodup):bB (jH cs i) (vg cs i)≠0:=pK (yL hi nd)
theorem rQ{cs:List gP}(nd:(iZ cs).Nodup) {j:Nat}(hj:j<cs.length):∀n,n<=cs.length->tG cs n (vg cs j)=if j<n then HH cs j else 0
 | 0,_=>by rw[Yc ()];rfl
 | n+1,hn=>by
  show tG cs n (vg cs j)+HH cs n*bB (jH cs n) (vg cs j)/bB (jH cs n) (vg cs n)=_;rw[rQ nd hj n ()];by_cases h:j=n
  .subst h;rw[Yc (),Yb ()];have:=Bc hj nd;grind
  .rw[qH (EX hj (show n<cs.length by nofun) h)]
   by_cases h2:j<n
   .rw[Yb h2,Yb ()];grind
   .rw[Yc h2,Yc ()];grind
theorem yc{cs:List gP}{i:Nat}(hi:i<cs.length):(jH cs i).length+1=cs.length:=by
 unfold jH;rw[YC,Yw,List.length_drop,fg];nofun
def xo:Nat->List Rat
 | 0=>[]
 | n+1=>((n+1:Nat):Int)::xo n
theorem qw:∀{n:Nat}{x:Rat},x∈xo n -> ∃m:Nat,1<=m/\m<=n/\x=((m:Int):Rat)
 | n+1,x,h=>by
  rcases YY.mp h with rfl|h
  .exact⟨n+1,(),(),rfl⟩
  .obtain⟨m,h1,h2,h3⟩:=qw h;exact⟨m,h1,(),h3⟩
theorem sK:∀n,(xo n).Nodup
 | 0=>List.nodup_nil
 | n+1=>by
  refine List.nodup_cons.mpr ⟨λh=>?_,sK n⟩;obtain⟨m,_,h2,h3⟩:=qw h;have:=Rat.intCast_inj.mp h3;nofun
theorem qe:∀n,(xo n).length=n
 | 0=>rfl
 | n+1=>by show (xo n).length+1=_;rw[qe n]
theorem ut:∀l:List Rat,(∀x,eU l x=0) -> ∀a∈l,a=0
 | [],_,a,h=>by cases h
 | b::l,h,a,ha=>by
  have h0:b=0:=by
   have:=h 0;show b=0;have e:eU (b::l) 0=b+0*eU l 0:=rfl;rw[e] at this;grind
  have hl:∀x,eU l x=0:=qp (xo l.length) l (sK _) (by rw[qe];exact Yq _) λs hs=>by
   obtain⟨m,h1,_,rfl⟩:=qw hs;have:=h ((m:Int):Rat);have e:eU (b::l) ((m:Int):Rat)=b+((m:Int):Rat)*eU l ((m:Int):Rat):=rfl;rw[e,h0] at this;have c:((m:Int):Rat)≠0:=aq ();grind
  rcases YY.mp ha with rfl|ha
  .exact h0
  .exact ut l hl a ha
theorem kL{f g:Nat->Rat}(hf:∀k,20<=k->f k=0)(hg:∀k,20<=k->g k=0)(h:∀x,EV f x=EV g x)(k:Nat):f k=g k:=by
 rcases Nat.lt_or_ge k 20 with z|z
 .have e:∀x,eU ((List.range 20).map λk=>f k + -1*g k) x=0:=λx=>by
   rw[<-CK,sk];have h1:fm (λk=>-1*g k) 20 x = -1*fm g 20 x:=by
    have:∀n,fm (λk=>-1*g k) n x = -1*fm g n x:=λn=>by
     induction n with
     | zero=>show (0:Rat) = -1*0;grind
     | succ n ih =>
      show fm (λk=>-1*g k) n x + -1*g n*cQ x n = -1*(fm g n x+g n*cQ x n);rw[ih];grind
    exact this 20
   have h2:fm f 20 x=fm g 20 x:=h x;rw[h1,h2];grind
  have:=ut _ e (f k + -1*g k) (List.mem_map.mpr ⟨k,List.mem_range.mpr z,rfl⟩);grind
 .rw[hf k z,hg k z]
def DY:List Rat->Nat->Rat
 | []=>Lp 0 0 0
 | s::l=>lin (-s) 1 (DY l)
theorem lU:∀(l:List Rat)(k:Nat),l.length<k->DY l k=0
 | [],k,h=>Yc (by have:0<k:=h;nofun)
 | s::l,k,h=>by
  obtain⟨k,rfl⟩ : ∃m,k=m+1:=⟨k-1,by have:l.length+1<k:=h;nofun⟩
  have h':l.length+1<k+1:=h;show DY l (k+1)*_+DY l k*_=0;rw[lU l (k+1) (),lU l k ()];grind
theorem DK{x:Rat}:∀l:List Rat,l.length<=10->EV (DY l) x=bB l x
 | [],_=>pN x
 | s::l,h=>by
  have h':l.length+1<=10:=h;show EV (lin (-s) 1 (DY l)) x=(x-s)*bB l x;rw[iq (lU l 19 ()),DK l ()];grind
end L2
namespace L2
open PySem
abbrev Om:=List Bool->Int
def wg:Nat->(Nat->Int)->Om->Om
 | 0,_,_=>λ_=>0
 | m+1,v,o=>λl=>match l with
  | []=>0
  | false::l=>wg m v (λk=>o (false::k)) l
  | true::l=>v m*o (false::l)-wg m v (λk=>o (true::k)) l
theorem kS{m:Nat}{v:Nat->Int}{o:Om}{l:List Bool}:wg (m+1) v o (false::l)=wg m v (λk=>o (false::k)) l:=rfl
theorem kz{m:Nat}{v:Nat->Int}{o:Om}{l:List Bool}:wg (m+1) v o (true::l)=v m*o (false::l)-wg m v (λk=>o (true::k)) l:=rfl
theorem nB{v:Nat->Int}{a b:Int}:∀(m:Nat)(o p:Om)(l:List Bool),wg m v (λk=>a*o k+b*p k) l=a*wg m v o l+b*wg m v p l
 | 0,o,p,l=>by show (0:Int)=a*0+b*0;rw[Xh,Xh];rfl
 | m+1,o,p,[]=>by show (0:Int)=a*0+b*0;rw[Xh,Xh];rfl
 | m+1,o,p,false::l=>by
  rw[kS,kS,kS];exact nB m _ _ l
 | m+1,o,p,true::l=>by
  rw[kz,kz,kz,nB m (λk=>o (true::k)) (λk=>p (true::k)) l];grind
theorem j5{v:Nat->Int}:∀(m:Nat)(o:Om)(l:List Bool),(∀k,o k=0)->wg m v o l=0
 | 0,o,l,h=>rfl
 | m+1,o,[],h=>rfl
 | m+1,o,false::l,h=>by rw[kS];exact j5 m _ l λk=>h _
 | m+1,o,true::l,h=>by rw[kz,h,j5 m _ l λk=>h _];nofun
theorem gK{v:Nat->Int}{m:Nat}{o p:Om}(h:∀k,o k=p k)(l:List Bool):wg m v o l=wg m v p l:=by
 have:o=p:=funext h;rw[this]
theorem jz{u v:Nat->Int}{a b:Int}:∀(m:Nat)(o:Om)(l:List Bool),wg m (λi=>a*u i+b*v i) o l=a*wg m u o l+b*wg m v o l
 | 0,o,l=>by show (0:Int)=a*0+b*0;rw[Xh,Xh];rfl
 | m+1,o,[]=>by show (0:Int)=a*0+b*0;rw[Xh,Xh];rfl
 | m+1,o,false::l=>by
  rw[kS,kS,kS];exact jz m _ l
 | m+1,o,true::l=>by
  rw[kz,kz,kz,jz m _ l];grind
theorem iy{v:Nat->Int}:∀(m:Nat)(o:Om)(l:List Bool),(∀i,i<m->v i=0)->wg m v o l=0
 | 0,o,l,h=>rfl
 | m+1,o,[],h=>rfl
 | m+1,o,false::l,h=>by rw[kS];exact iy m _ l λi hi=>h i ()
 | m+1,o,true::l,h=>by rw[kz,h m (),iy m _ l λi hi=>h i ()];nofun
theorem kq{u v:Nat->Int}:∀(m:Nat)(o:Om)(l:List Bool),wg m u (wg m v o) l = - wg m v (wg m u o) l
 | 0,o,l=>rfl
 | m+1,o,[]=>rfl
 | m+1,o,false::l=>by
  rw[kS,kS];exact kq m (λk=>o (false::k)) l
 | m+1,o,true::l=>by
  rw[kz,kz,kS,kS];have e1:=nB (v:=u) (a:=v m) (b:=-1) m (λk=>o (false::k)) (wg m v λk=>o (true::k)) l;have e2:=nB (v:=v) (a:=u m) (b:=-1) m (λk=>o (false::k)) (wg m u λk=>o (true::k)) l;have f1:wg m u (λk=>wg (m+1) v o (true::k)) l=wg m u (λk=>v m*o (false::k) + -1*wg m v (λk=>o (true::k)) k) l:=gK (λk=>by rw[kz];nofun) l
  have f2:wg m v (λk=>wg (m+1) u o (true::k)) l=wg m v (λk=>u m*o (false::k) + -1*wg m u (λk=>o (true::k)) k) l:=gK (λk=>by rw[kz];nofun) l
  have s:=kq (u:=u) (v:=v) m (λk=>o (true::k)) l;rw[f1,f2,e1,e2];grind
theorem zH{v:Nat->Int}(m:Nat)(o:Om)(l:List Bool):wg m v (wg m v o) l=0:=by
 have:=kq (u:=v) (v:=v) m o l;nofun
section
variable (W:Nat->Int)
def iN(i:Nat):Nat->Int:=λj=>W (i+j)
def vU:Om:=λl=>if l.all (λb=>!b) then 1 else 0
def om(m:Nat):Nat->Om
 | 0=>vU
 | k+1=>wg m (iN W k) (om m k)
def yN:Nat->List Bool
 | 0=>[]
 | m+1=>true::yN m
def kW(j:Nat):Nat->Int:=λi=>if i=j then 1 else 0
def qk(k j:Nat):Int:=wg (k+1) (kW j) (om W (k+1) k) (yN (k+1))
def Dk(k:Nat):Int:=om W k k (yN k)
def Lq(k i:Nat):Int:=wg (k+1) (iN W i) (om W (k+1) k) (yN (k+1))
end
variable {W:Nat->Int}
theorem um(m:Nat):∀(k:Nat)(l:List Bool),om W (m+1) k (false::l)=om W m k l
 | 0,l=>by simp[om,vU]
 | k+1,l=>by
  show wg (m+1) (iN W k) (om W (m+1) k) (false::l)=wg m (iN W k) (om W m k) l;rw[kS];exact gK (λj=>um m k j) l
theorem zh(m:Nat):∀(k i:Nat)(l:List Bool),i<k->wg m (iN W i) (om W m k) l=0
 | 0,i,l,h=>by nofun
 | k+1,i,l,h=>by
  show wg m (iN W i) (wg m (iN W k) (om W m k)) l=0;by_cases e:i=k
  .rw[e];exact zH m _ l
  .rw[kq,j5 m _ l λj=>zh m k i j ()];rfl
theorem Hs(k:Nat):qk W k k=Dk W k:=by
 show wg (k+1) (kW k) (om W (k+1) k) (true::yN k)=om W k k (yN k);rw[kz,um,iy (v:=kW k) k _ _ λi hi=>Yc ()];show (if k=k then (1:Int) else 0)*_-0=_
 rw[Yb rfl];nofun
theorem C7{k j:Nat}(h:k<j):qk W k j=0:=iy _ _ _ λi hi=>Yc ()
theorem Hb{k i:Nat}(h:i<k):Lq W k i=0:=zh _ k i _ h
theorem IN(k:Nat):Lq W k k=Dk W (k+1):=rfl
def fU(f:Nat->Int):Nat->Int
 | 0=>0
 | n+1=>fU f n+f n
theorem pZ{f g:Nat->Int}:∀n,(∀i,i<n->f i=g i)->fU f n=fU g n
 | 0,_=>rfl
 | n+1,h=>by
  show fU f n+f n=fU g n+g n;rw[pZ n λi hi=>h i (),h n ()]
theorem m9{f:Nat->Int}:∀n,(∀i,i<n->f i=0)->fU f n=0
 | 0,_=>rfl
 | n+1,h=>by
  show fU f n+f n=0;rw[m9 n λi hi=>h i (),h n ()];rfl
theorem mD{f:Nat->Int}{j:Nat}:∀n,(∀i,i<n->i≠j->f i=0)->j<n->fU f n=f j
 | 0,_,h=>by nofun
 | n+1,h,hj=>by
  show fU f n+f n=f j;by_cases e:j=n
  .rw[m9 n λi hi=>h i () (),e];nofun
  .rw[mD n (λi hi hn=>h i () hn) (),h n () ()];nofun
theorem mW{v:Nat->Int}{M:Nat}{o:Om}{l:List Bool}:∀n,wg M (λi=>fU (λj=>v j*kW j i) n) o l=fU (λj=>v j*wg M (kW j) o l) n
 | 0=>iy _ _ _ λi _=>rfl
 | n+1=>by
  have e:=jz (u:=λi=>fU (λj=>v j*kW j i) n) (v:=kW n) (a:=1) (b:=v n) M o l;have f:(λi=>fU (λj=>v j*kW j i) (n+1))=λi=>1*fU (λj=>v j*kW j i) n+v n*kW n i:=funext λi=>by
   show fU _ n+v n*kW n i=_;rw[Xn]
  rw[f,e,mW n];show _=fU _ n+v n*_;rw[Xn]
theorem Jy(k i:Nat):Lq W k i=fU (λj=>W (i+j)*qk W k j) (k+1):=by
 unfold Lq qk;rw[<-mW (v:=λj=>W (i+j)) (M:=k+1)];have:∀m (o:Om)(l:List Bool)(u v:Nat->Int),(∀i,i<m->u i=v i)->wg m u o l=wg m v o l:=λm o l u v h=>by
  have e:=jz (u:=u) (v:=v) (a:=1) (b:=-1) m o l;rw[iy m o l λi hi=>by rw[h i hi];nofun] at e
  nofun
 refine this _ _ _ _ _ λc hc=>?_;show W (i+c)=_;rw[mD (j:=c) (k+1) (λj _ hj=>by unfold kW;rw[Yc (λz=>hj z.symm),Xh]) hc]
 unfold kW;rw[Yb rfl,Yp]
end L2
namespace L2
open PySem
variable {W:Nat->Int}
theorem vN{v:Nat->Int}{B C:Nat}(hv:∀i,(v i).natAbs<=B):∀(m:Nat)(o:Om)(l:List Bool),(∀k,(o k).natAbs<=C)->(wg m v o l).natAbs<=m*(B*C)
 | 0,o,l,h=>by simp[wg]
 | m+1,o,[],h=>by simp[wg]
 | m+1,o,false::l,h=>by
  rw[kS];have:=vN hv m (λk=>o (false::k)) l λk=>h _;rw[Xo];nofun
 | m+1,o,true::l,h=>by
  rw[kz];have h1:=vN hv m (λk=>o (true::k)) l λk=>h _;have h2:(v m*o (false::l)).natAbs<=B*C:=by rw[YU];exact Xp (hv m) (h _)
  have h3:=Int.natAbs_sub_le (v m*o (false::l)) (wg m v (λk=>o (true::k)) l);rw[Xo];nofun
end L2
namespace L2
open PySem PySem.Spec PyProof.Rows
theorem uk{f g h:Nat->Rat}:∀n,cN (λi=>f i+g i) h n=cN f h n+cN g h n
 | 0=>by show (0:Rat)=0+0;grind
 | n+1=>by
  show cN (λi=>f i+g i) h n+(f n+g n)*h n=(cN f h n+f n*h n)+(cN g h n+g n*h n);rw[uk n];grind
theorem kx{f h:Nat->Rat}:∀n,(∀i,i<n->f i*h i=0)->cN f h n=0
 | 0,_=>rfl
 | n+1,hz=>by
  show cN f h n+f n*h n=0;rw[kx n λi hi=>hz i (),hz n ()];grind
theorem nE{f h:Nat->Rat}{n:Nat}(hz:∀i,n<=i->f i*h i=0):∀m,cN f h (n+m)=cN f h n
 | 0=>rfl
 | m+1=>by
  show cN f h (n+m)+f (n+m)*h (n+m)=cN f h n;rw[nE hz m,hz (n+m) ()];grind
theorem zB{F G:Nat->Rat}{f g:Nat->Int}{c d:Rat}(hc:c≠0)(hd:d≠0)(hF:∀i,F i=((f i:Int):Rat)/c)(hG:∀i,G i=((g i:Int):Rat)/d):∀n,cN F G n=((fU (λi=>g i*f i) n:Int):Rat)/(c*d)
 | 0=>by
  show (0:Rat)=((0:Int):Rat)/(c*d);have:((0:Int):Rat)=0:=rfl;rw[this];grind
 | n+1=>by
  show cN F G n+F n*G n=((fU (λi=>g i*f i) n+g n*f n:Int):Rat)/(c*d);rw[zB hc hd hF hG n,hF n,hG n,Xa,Xb];grind
section
variable {W:Nat->Int}{B:Int}{k:Nat}{P S:Nat->Rat}
theorem DV(hD:Dk W k≠0)(hB:B≠0)(hP:∀j,P j=((qk W k j:Int):Rat)/((Dk W k:Int):Rat))(hS:∀i,((W i:Int):Rat)=S i*(B:Rat))(i:Nat):cN P (λj=>S (i+j)) (k+1)=((Lq W k i:Int):Rat)/(((Dk W k:Int):Rat)*(B:Rat)):=by
 have cB:(B:Rat)≠0:=aq hB;rw[zB (f:=qk W k) (g:=λj=>W (i+j)) (c:=((Dk W k:Int):Rat)) (d:=(B:Rat)) (aq hD) cB hP (λj=>by have:=hS (i+j);grind),<-Jy]
end
theorem vk{f g h:Nat->Rat}:∀n,cN f (λi=>g i+h i) n=cN f g n+cN f h n
 | 0=>by show (0:Rat)=0+0;grind
 | n+1=>by
  show cN f (λi=>g i+h i) n+f n*(g n+h n)=(cN f g n+f n*g n)+(cN f h n+f n*h n);rw[vk n];grind
theorem pR{f h:Nat->Rat}{c:Rat}:∀n,cN (λi=>c*f i) h n=c*cN f h n
 | 0=>by show (0:Rat)=c*0;grind
 | n+1=>by
  show cN (λi=>c*f i) h n+(c*f n)*h n=c*(cN f h n+f n*h n);rw[pR n];grind
theorem uc{f h:Nat->Rat}{c:Rat}:∀n,cN f (λi=>c*h i) n=c*cN f h n
 | 0=>by show (0:Rat)=c*0;grind
 | n+1=>by
  show cN f (λi=>c*h i) n+f n*(c*h n)=c*(cN f h n+f n*h n);rw[uc n];grind
def ip(S u v:Nat->Rat)(m n:Nat):Rat:=cN u (λi=>cN v (λj=>S (i+j)) n) m
theorem iC{S u v:Nat->Rat}{n:Nat}:∀m,ip S u v m n=ip S v u n m
 | 0=>by
  unfold ip;show (0:Rat)=cN v (λj=>0) n;rw[kx n λi _=>by grind]
 | m+1=>by
  have h:=iC (S:=S) (u:=u) (v:=v) (n:=n) m;unfold ip at h ⊢;show cN u (λi=>cN v (λj=>S (i+j)) n) m+u m*cN v (λj=>S (m+j)) n=cN v (λi=>cN u (λj=>S (i+j)) m+u m*S (i+m)) n;rw[vk,uc,h];congr 2
  exact mN n (λ_ _=>rfl) λi _=>by rw[Nat.add_comm]
section
variable {W:Nat->Int}{B:Int}{S:Nat->Rat}
theorem HV{k m:Nat}{p v:Nat->Rat}(hD:Dk W k≠0)(hB:B≠0)(hP:∀j,p j=((qk W k j:Int):Rat)/((Dk W k:Int):Rat))(hS:∀i,((W i:Int):Rat)=S i*(B:Rat))(hm:k+1<=m)(n:Nat):ip S v p n m=cN v (λi=>((Lq W k i:Int):Rat)/(((Dk W k:Int):Rat)*(B:Rat))) n:=by
 refine mN n (λ_ _=>rfl) λi _=>?_;rw[<-DV hD hB hP hS i];have:=nE (f:=p) (h:=λj=>S (i+j)) (n:=k+1) (λj hj=>by
  have z:((0:Int):Rat)=0:=rfl;rw[hP j,C7 (),z];grind) (m-(k+1))
 rw[show k+1+(m-(k+1))=m by nofun] at this
 exact this
end
theorem zD{v:Nat->Rat}{x c:Rat}:∀n,cN v (λj=>c*cQ x j) n=c*fm v n x
 | 0=>by show (0:Rat)=c*0;grind
 | n+1=>by
  show cN v (λj=>c*cQ x j) n+v n*(c*cQ x n)=c*(fm v n x+v n*cQ x n);rw[zD n];grind
theorem Ec(y:Rat):0<=y*y:=by
 rcases Rat.le_total (a:=0) (b:=y) with h|h
 .exact Xq h h
 .have:=Xq (Rat.neg_le_neg h) (Rat.neg_le_neg h);grind
section
variable {W:Nat->Int}{B:Int}{cs:List gP}
def Pk(W:Nat->Int)(k:Nat):Nat->Rat:=λj=>((qk W k j:Int):Rat)/((Dk W k:Int):Rat)
theorem Hr{k j:Nat}(h:k<j):Pk W k j=0:=by
 have z:((0:Int):Rat)=0:=rfl;unfold Pk;rw[C7 h,z];grind
theorem Hk{k:Nat}(h:Dk W k≠0):Pk W k k=1:=by
 have:=aq h;unfold Pk;rw[Hs];grind
end
end L2
namespace L2
open PySem PySem.Spec PyProof.Rows
structure Lm where
 p:Addr
 c:Addr
 ps:Arguments
 b:Expr
 sc:Scope
structure qU (P:Program)(base:Heap):Prop where
 seer:base.NoSeer
 tree:P.given.tree=none
def Ed(_ j:Int):Prop:=j≠0
theorem jw{X:Cx}{k:Nat}(N:qU X.prog X.base)(hr:gX k X.A)(hst:X.stack=X.env::X.outer)(hgen:X.env.scope.isGenerator=false)(hco:X.env.scope.isCoroutine=false) :
  gh X (binaryOp .FloorDiv) (rI Ed λi j=>.int (i.fdiv j)):=by
 intro pins s σ H x y v u Q I rx ry h;obtain⟨i,j,rfl,rfl,hc,q⟩:=h;obtain⟨t,rfl⟩:=rx;obtain⟨t',rfl⟩:=ry;refine floordiv_int hc ⟨.int (i.fdiv j),H,I.tok _,⟨_,rfl⟩,q⟩ (.inr ?_);refine PySem.PylongRoom.of I.nolimit ?_ (PySem.SeerAt.of (N.seer.keeps I.bk) N.tree (I.ok.frames.trans (Yn some hst)) hgen hco I.ok.blt I.ok.glob);have:=hr.dp;show X.A.depth+100<recursionLimit;nofun
end L2
namespace L2
open PySem
def hR(W:Nat->Int)(B:Int)(k:Nat):Rat:=((Dk W (k+1):Int):Rat)/((Dk W k*B:Int):Rat)
theorem Cc{v:Nat->Rat}{x:Rat}:EV v x=cN v (λj=>1*cQ x j) 20:=by
 rw[zD];unfold EV;grind
def tb:Nat->Nat
 | 0=>1
 | k+1=>tb k+(360*k+280)
def dw(M:Nat):List (Nat->Int)->Om
 | []=>vU
 | r::rs=>wg M r (dw M rs)
def dt(M:Nat)(rows:List (Nat->Int)):Int:=dw M rows (yN M)
theorem IP{v:Nat->Int}{m:Nat}{o p:Om}(h:∀k,o k = - p k)(l:List Bool):wg m v o l = - wg m v p l:=by
 have e:=nB (v:=v) (a:=-1) (b:=0) m p p l;rw[<-gK (o:=o) (p:=λk=>-1*p k+0*p k) (λk=>by rw[h];nofun) l] at e
 nofun
theorem yS{v:Nat->Int}{a:Int}{m:Nat}{o p:Om}(h:∀k,o k=a*p k)(l:List Bool):wg m v o l=a*wg m v p l:=by
 have e:=nB (v:=v) (a:=a) (b:=0) m p p l;rw[<-gK (o:=o) (p:=λk=>a*p k+0*p k) (λk=>by rw[h];nofun) l] at e
 nofun
theorem Io{u v:Nat->Int}{m:Nat}{o:Om}{l:List Bool}(h:∀i,i<m->u i=v i):wg m u o l=wg m v o l:=by
 have e:=jz (u:=u) (v:=v) (a:=1) (b:=-1) m o l;rw[iy m o l λi hi=>by rw[h i hi];nofun] at e
 nofun
def Pm(x y:Int):Prop:=x=y\/x = -y
theorem Pm.rfl'{x:Int}:Pm x x:=.inl rfl
theorem Pm.symm{x y:Int}(h:Pm x y):Pm y x:=by rcases h with e|e<;>unfold Pm<;>nofun
theorem Pm.trans{x y z:Int}(h:Pm x y)(g:Pm y z):Pm x z:=by rcases h with e|e<;>rcases g with f|f<;>unfold Pm<;>nofun
theorem Pm.mul{x y:Int}(h:Pm x y)(a:Int):Pm (a*x) (a*y):=by
 rcases h with e|e
 .exact .inl (by rw[e])
 .exact .inr (by rw[e,Int.mul_neg])
theorem Pm.of_mul{a x y:Int}(h:Pm (a*x) (a*y))(ha:a≠0):Pm x y:=by
 rcases h with e|e
 .exact .inl (Xl ha e)
 .exact .inr (Xl ha (by rw[e,Int.mul_neg]))
theorem wV{M:Nat}{x:Nat->Int}:∀{rows:List (Nat->Int)},x∈rows -> ∀l,wg M x (dw M rows) l=0
 | [],h,_=>by cases h
 | y::rs,h,l=>by
  show wg M x (wg M y (dw M rs)) l=0;rcases YY.mp h with rfl|z
  .exact zH M _ l
  .rw[kq,j5 M _ l λk=>wV z k];rfl
theorem Go{M:Nat}{a b:List (Nat->Int)}(h:a.Perm b):(∀l,dw M a l=dw M b l) \/ ∀l,dw M a l = - dw M b l:=by
 induction h with
 | nil=>exact .inl λ_=>rfl
 | cons x _ ih =>
  rcases ih with e|e
  .exact .inl λl=>gK e l
  .exact .inr λl=>IP e l
 | swap x y l=>exact .inr λk=>kq M _ k
 | trans _ _ ih1 ih2 =>
  rcases ih1 with e|e<;>rcases ih2 with f|f
  .exact .inl λl=>by rw[e,f]
  .exact .inr λl=>by rw[e,f]
  .exact .inr λl=>by rw[e,f]
  .exact .inl λl=>by rw[e,f];nofun
theorem tw{M:Nat}{a b:List (Nat->Int)}(h:a.Perm b):Pm (dt M a) (dt M b):=by
 rcases Go (M:=M) h with e|e
 .exact .inl (e _)
 .exact .inr (e _)
theorem uP{m:Nat}:∀(rs:List (Nat->Int))(l:List Bool),dw (m+1) rs (false::l)=dw m rs l
 | [],l=>by simp[dw,vU]
 | r::rs,l=>by
  show wg (m+1) r (dw (m+1) rs) (false::l)=wg m r (dw m rs) l;rw[kS];exact gK (λk=>uP rs k) l
theorem xV{m:Nat}:∀{rs:List (Nat->Int)},(∀r∈rs,r m=0) -> ∀l,dw (m+1) rs (true::l)=0
 | [],_,l=>by simp[dw,vU]
 | r::rs,h,l=>by
  show wg (m+1) r (dw (m+1) rs) (true::l)=0;rw[kz,h r Yi,j5 m _ l λk=>xV (λx hx=>h x (Yj _ hx)) k];nofun
theorem HE{m:Nat}{r:Nat->Int}{rs:List (Nat->Int)}(h:∀x∈rs,x m=0):dt (m+1) (r::rs)=r m*dt m rs:=by
 show wg (m+1) r (dw (m+1) rs) (true::yN m)=r m*dw m rs (yN m);rw[kz,uP,j5 m _ _ λk=>xV h k];nofun
def st(g:Nat->Nat->Int)(lo:Nat):Nat->List (Nat->Int)
 | 0=>[]
 | n+1=>g (lo+n)::st g lo n
theorem kX{g:Nat->Nat->Int}{lo:Nat}{x:Nat->Int}:∀{n:Nat},x∈st g lo n -> ∃i,i<n/\x=g (lo+i)
 | 0,h=>by cases h
 | n+1,h=>by
  rcases YY.mp h with rfl|z
  .exact⟨n,(),rfl⟩
  .obtain⟨i,hi,e⟩:=kX z;exact⟨i,(),e⟩
theorem Dg{g:Nat->Nat->Int}{lo i:Nat}:∀{n:Nat},i<n->g (lo+i)∈st g lo n
 | 0,h=>by nofun
 | n+1,h=>by
  by_cases e:i=n
  .rw[e];exact Yi
  .exact Yj _ (Dg ())
theorem xE(g:Nat->Nat->Int)(lo n:Nat):∀m,st g lo (n+m)=st g (lo+n) m++st g lo n
 | 0=>rfl
 | m+1=>by
  show g (lo+(n+m))::st g lo (n+m)=g (lo+n+m)::(st g (lo+n) m++st g lo n);rw[xE g lo n m,Nat.add_assoc]
theorem jU{g:Nat->Nat->Int}{c:Int}{d0 lo:Nat}{X:List (Nat->Int)}(h1:∀i,g i (d0+i)=c)(h2:∀i k,d0+i<k->g i k=0)(hX:∀x∈X,∀k,d0+lo<=k->x k=0):∀n,dt (d0+lo+n) (st g lo n++X)=c^n*dt (d0+lo) X
 | 0=>by show dt (d0+lo) X=c^0*_;rw[Xr,Xn]
 | n+1=>by
  show dt (d0+lo+n+1) (g (lo+n)::(st g lo n++X))=_;rw[HE,jU h1 h2 hX n,show d0+lo+n=d0+(lo+n) by nofun,h1,Xs,Y4 (c^n) c,Y3]
  intro x hx;rcases List.mem_append.mp hx with z|z
  .obtain⟨i,hi,rfl⟩:=kX z;exact h2 _ _ ()
  .exact hX x z _ ()
def uX(M:Nat)(X:List (Nat->Int))(v:Nat->Int):Prop:=∀rows:List (Nat->Int),(∀x∈X,x∈rows) -> ∀l,wg M v (dw M rows) l=0
theorem uX.mem{M:Nat}{X:List (Nat->Int)}{v:Nat->Int}(h:v∈X):uX M X v:=λrows hr l=>wV (hr v h) l
theorem uX.zero{M:Nat}{X:List (Nat->Int)}:uX M X λ_=>0:=λrows _ l=>iy M _ l λ_ _=>rfl
theorem uX.lin{M:Nat}{X:List (Nat->Int)}{u v:Nat->Int}{a b:Int}(hu:uX M X u)(hv:uX M X v):uX M X λk=>a*u k+b*v k:=λrows hr l=>by
 rw[jz,hu rows hr l,hv rows hr l];nofun
theorem uX.sum{M:Nat}{X:List (Nat->Int)}{q:Nat->Int}{g:Nat->Nat->Int}:∀n,(∀i,i<n->g i∈X)->uX M X λk=>fU (λi=>q i*g i k) n
 | 0,_=>uX.zero
 | n+1,h=>by
  have e:=uX.lin (a:=1) (b:=q n) (uX.sum (q:=q) n λi hi=>h i ()) (uX.mem (M:=M) (h n ()));have f:(λk=>1*fU (λi=>q i*g i k) n+q n*g n k)=λk=>fU (λi=>q i*g i k) (n+1):=by
   funext k;show 1*_+_=fU _ n+q n*g n k;nofun
  rw[f] at e;exact e
theorem Bi{M:Nat}{f r:Nat->Nat->Int}{c b:Int}{X:List (Nat->Int)}:∀n,(∀i,i<n -> ∃v,uX M X v /\ ∀k,c*f i k=b*r i k+v k) -> ∀l,c^n*dw M (st f 0 n++X) l=b^n*dw M (st r 0 n++X) l
 | 0,_,l=>by rw[Xr,Xr];rfl
 | n+1,h,l=>by
  have ih:=Bi n λi hi=>h i ();obtain⟨v,hv,e⟩:=h n ();show c^(n+1)*wg M (f (0+n)) (dw M (st f 0 n++X)) l=b^(n+1)*wg M (r (0+n)) (dw M (st r 0 n++X)) l;rw[Xm];have e1:c^n*wg M (f n) (dw M (st f 0 n++X)) l=b^n*wg M (f n) (dw M (st r 0 n++X)) l:=by
   rw[<-yS (o:=λk=>c^n*dw M (st f 0 n++X) k) (λ_=>rfl) l,<-yS (o:=λk=>b^n*dw M (st r 0 n++X) k) (λ_=>rfl) l];exact gK ih l
  have e2:c*wg M (f n) (dw M (st r 0 n++X)) l=b*wg M (r n) (dw M (st r 0 n++X)) l:=by
   have a1:=jz (u:=f n) (v:=f n) (a:=c) (b:=0) M (dw M (st r 0 n++X)) l;have a2:=jz (u:=r n) (v:=v) (a:=b) (b:=1) M (dw M (st r 0 n++X)) l;rw[hv _ (λx hx=>Ys _ hx) l] at a2;have a3:(λi=>c*f n i+0*f n i)=λi=>b*r n i+1*v i:=by
    funext k;have:=e k;nofun
   rw[a3,a2] at a1;nofun
  rw[Xs,Xs,Y4 (c^n) c,Y3,e1,Int.mul_left_comm,e2,Y3]
theorem HG{M:Nat}{f r:Nat->Nat->Int}{c b:Int}{X:List (Nat->Int)}(n:Nat)(h:∀i,i<n -> ∃v,uX M X v /\ ∀k,c*f i k=b*r i k+v k):c^n*dt M (st f 0 n++X)=b^n*dt M (st r 0 n++X):=Bi n h _
def sh(f:Nat->Int)(i k:Nat):Int:=if i<=k then f (k-i) else 0
def Ej(j k:Nat):List (Nat->Int):=((List.range (j+1)).filter λi=>decide (i≠k)).map kW
theorem vZ{j k:Nat}{x:Nat->Int}(h:x∈Ej j k) {m:Nat}(hm:j<m):x m=0:=by
 obtain⟨i,hi,rfl⟩:=List.mem_map.mp h;have:=List.mem_range.mp (List.mem_filter.mp hi).1;exact Yc ()
theorem CA:∀n,st kW 0 n=((List.range n).reverse).map kW
 | 0=>rfl
 | n+1=>by
  rw[List.range_succ,List.reverse_append];show kW (0+n)::st kW 0 n=kW n::_;rw[CA n,Xm];rfl
theorem EW(n:Nat):dt n (st kW 0 n)=1:=by
 have e:=jU (g:=kW) (c:=1) (d0:=0) (lo:=0) (X:=[]) (λi=>by rw[Xm];exact Yb rfl) (λi k h=>Yc ()) (λx hx=>by cases hx) n
 rw[Yv,Int.one_pow,Xm,Xm] at e;rw[e];rfl
theorem zw{j k:Nat}(h:k<=j):(kW k::Ej j k).Perm (st kW 0 (j+1)):=by
 rw[CA];show (List.map kW (k::(List.range (j+1)).filter λi=>decide (i≠k))).Perm _;refine List.Perm.map _ (List.Perm.trans ?_ (List.reverse_perm _).symm);have nd:(List.range (j+1)).Nodup:=List.nodup_range;have e:(List.range (j+1)).filter (λi=>decide (i≠k))=(List.range (j+1)).erase k:=by
  rw[nd.erase_eq_filter];congr 1
  funext i;by_cases z:i=k
  .simp[z]
  .simp[z]
 rw[e];exact (List.perm_cons_erase (List.mem_range.mpr ())).symm
theorem Db{j k:Nat}{R:Nat->Int}(h:k<=j):Pm (dt (j+1) (R::Ej j k)) (R k):=by
 have e:dt (j+1) (R::Ej j k)=R k*dt (j+1) (kW k::Ej j k):=by
  show wg (j+1) R (dw (j+1) (Ej j k)) (yN (j+1))=R k*wg (j+1) (kW k) (dw (j+1) (Ej j k)) (yN (j+1));have e1:wg (j+1) R (dw (j+1) (Ej j k)) (yN (j+1))=wg (j+1) (λi=>fU (λa=>R a*kW a i) (j+1)) (dw (j+1) (Ej j k)) (yN (j+1)):=Io λi hi=>by
   rw[mD (j:=i) (j+1) (λa _ ha=>by rw[show kW a i=0 from Yc (λz=>ha z.symm)];nofun) hi,show kW i i=1 from Yb rfl]
   nofun
  rw[e1,mW];refine mD (j+1) (λi hi hn=>?_) ();have z:kW i∈Ej j k:=List.mem_map.mpr ⟨i,List.mem_filter.mpr ⟨List.mem_range.mpr hi,YI hn⟩,rfl⟩;rw[wV z];nofun
 rw[e];have p:=(tw (M:=j+1) (zw h)).mul (R k);rw[EW,Yp] at p;exact p
def SR(f g:Nat->Int)(a b j k:Nat):Int:=dt (a+b-j) (st (sh f) 0 (b-j)++(st (sh g) 0 (a-j)++Ej j k))
theorem vY{f:Nat->Int}{a i:Nat}:sh f i (a+i)=f a:=by
 unfold sh;rw[Yb (),show a+i-i=a by nofun]
theorem mQ{f:Nat->Int}{a:Nat}(h:∀k,a<k->f k=0) {i k:Nat}(hk:a+i<k):sh f i k=0:=by
 unfold sh;rw[Yb ()];exact h _ ()
def cv(q g:Nat->Int)(n k:Nat):Int:=fU (λt=>q t*sh g t k) n
theorem Iq{q g:Nat->Int}{i n:Nat}:∀k,sh (cv q g n) i k=fU (λt=>q t*sh g (i+t) k) n:=λk=>by
 unfold sh;by_cases h:i<=k
 .rw[Yb h];refine pZ n λt _=>?_;show q t*(if t<=k-i then g (k-i-t) else 0)=q t*(if i+t<=k then g (k-(i+t)) else 0)
  by_cases z:t<=k-i
  .rw[Yb z,Yb (),show k-i-t=k-(i+t) by nofun]
  .rw[Yc z,Yc ()]
 .rw[Yc h];refine (m9 n λt _=>?_).symm;rw[Yc ()];exact Xh _
theorem CD{f g q r:Nat->Int}{a b j k:Nat}{γ β:Int}(ab:b<=a)(jb:j<=b)(e:∀k,γ*f k=cv q g (a-b+1) k+β*r k) :
  γ^(b-j)*SR f g a b j k=β^(b-j)*dt (a+b-j) (st (sh r) 0 (b-j)++(st (sh g) 0 (a-j)++Ej j k)):=by
 refine HG (b-j) λi hi=>⟨λk=>fU (λt=>q t*sh g (i+t) k) (a-b+1),uX.sum (g:=λt=>sh g (i+t)) _ λt ht=>Yk _ ?_,λk=>?_⟩
 .have:=Dg (g:=sh g) (lo:=0) (i:=i+t) (n:=a-j) ()
  rwa [Xm] at this
 .show γ*sh f i k=β*sh r i k+fU (λt=>q t*sh g (i+t) k) (a-b+1);rw[<-Iq];unfold sh;by_cases h:i<=k
  .rw[Yb h,Yb h,Yb h,e];nofun
  .rw[Yc h,Yc h,Yc h];nofun
theorem F6{f g q r:Nat->Int}{a b d j k:Nat}{γ β c:Int}(ab:b<=a)(db:d<b)(jd:j<=d)(hg:g b=c)(g0:∀k,b<k->g k=0)(r0:∀k,d<k->r k=0)(e:∀k,γ*f k=cv q g (a-b+1) k+β*r k) :
  Pm (γ^(b-j)*SR f g a b j k) (β^(b-j)*(c^(a-d)*SR g r b d j k)):=by
 rw[CD ab () e];refine Pm.mul ?_ _;have p:(st (sh r) 0 (b-j)++(st (sh g) 0 (a-j)++Ej j k)).Perm (st (sh g) (d-j) (a-d)++(st (sh g) 0 (d-j)++(st (sh r) 0 (b-j)++Ej j k))):=by
  have s:=xE (sh g) 0 (d-j) (a-d);rw[show d-j+(a-d)=a-j by nofun,Xm] at s
  rw[s,<-YG,<-YG,<-YG,<-YG];refine List.Perm.append_right _ ?_;rw[YG,YG];exact (List.perm_append_comm).trans (by rw[YG])
 refine (tw p).trans ?_;rw[show a+b-j=b+(d-j)+(a-d) by nofun,jU (d0:=b) (c:=c) (λi=>by rw[vY];exact hg) (λi k h=>mQ g0 h) ?_ (a-d)]
 .rw[show b+(d-j)=b+d-j by nofun]
  exact Pm.rfl'
 .intro x hx k hk;rcases List.mem_append.mp hx with z|z
  .obtain⟨i,hi,rfl⟩:=kX z;exact mQ g0 ()
  .rcases List.mem_append.mp z with z|z
   .obtain⟨i,hi,rfl⟩:=kX z;exact mQ r0 ()
   .exact vZ z ()
theorem yq(x:Int):x^1=x:=by rw[Xs,Xr,Xn]
theorem Eu{f g q r:Nat->Int}{a b k:Nat}{c:Int}(ab:b<=a)(hb:1<=b)(hk:k<b)(hg:g b=c)(hc:c≠0)(g0:∀k,b<k->g k=0)(r0:∀k,b<=k->r k=0)(e:∀k,c^(a-b+1)*f k=cv q g (a-b+1) k+r k) :
  Pm (SR f g a b (b-1) k) (r k):=by
 refine Pm.of_mul (a:=c^(a-b+1)) ?_ (Xt hc);have s:=CD (j:=b-1) (k:=k) (q:=q) (g:=g) (f:=f) (γ:=c^(a-b+1)) (β:=1) ab () (r:=r) (λk=>by rw[e k];nofun)
 rw[show b-(b-1)=1 by nofun,yq,yq,Xn] at s
 rw[s,show a+b-(b-1)=b+0+(a-b+1) by nofun,show a-(b-1)=a-b+1 by nofun]
 have p:(st (sh r) 0 1++(st (sh g) 0 (a-b+1)++Ej (b-1) k)).Perm (st (sh g) 0 (a-b+1)++(sh r 0::Ej (b-1) k)):=by
  show (sh r (0+0)::(st (sh g) 0 (a-b+1)++Ej (b-1) k)).Perm _;exact List.perm_middle.symm
 refine (tw p).trans ?_;rw[jU (d0:=b) (c:=c) (λi=>by rw[vY];exact hg) (λi k h=>mQ g0 h) ?_ (a-b+1)]
 .refine Pm.mul ?_ _;have d:=Db (j:=b-1) (k:=k) (R:=sh r 0) ();rw[show b-1+1=b+0 by nofun] at d
  refine d.trans (.inl ?_);show sh r 0 k=r k;unfold sh;rw[Yb (),Nat.sub_zero]
 .intro x hx m hm;rcases YY.mp hx with rfl|z
  .unfold sh;rw[Yb ()];exact r0 _ ()
  .exact vZ z ()
theorem Fw{f g:Nat->Int}{a b:Nat}{c:Int}(ab:b<a)(hg:g b=c)(g0:∀k,b<k->g k=0):Pm (SR f g a b b b) (c^(a-b)):=by
 unfold SR;rw[show b-b=0 by nofun]
 show Pm (dt (a+b-b) (st (sh g) 0 (a-b)++Ej b b)) _;obtain⟨n,hn⟩ : ∃n,a-b=n+1:=⟨a-b-1,()⟩;have s:=xE (sh g) 0 1 n;rw[show 1+n=n+1 by nofun] at s
 rw[hn,s,show a+b-b=b+1+n by nofun,YG,jU (d0:=b) (lo:=1) (c:=c) (λi=>by rw[vY];exact hg) (λi k h=>mQ g0 h) ?_ n]
 .rw[Xs];refine Pm.mul ?_ _;have d:=Db (j:=b) (k:=b) (R:=sh g 0) ();have e:sh g 0 b=c:=by
   unfold sh;rw[Yb (),Nat.sub_zero,hg]
  rw[e] at d;exact d
 .intro x hx m hm;rcases List.mem_append.mp hx with z|z
  .obtain⟨i,hi,rfl⟩:=kX z;exact mQ g0 ()
  .exact vZ z ()
theorem Cz{M C:Nat}(hM:1<=M*C):∀{rows:List (Nat->Int)},(∀r∈rows,∀i,(r i).natAbs<=C) -> ∀l,(dw M rows l).natAbs<=(M*C)^rows.length
 | [],_,l=>by
  show (vU l).natAbs<=1;unfold vU;split<;>decide
 | r::rs,h,l=>by
  have ih:=Cz hM (λx hx=>h x (Yj _ hx));have:=vN (h r Yi) M (dw M rs) l ih;show (wg M r (dw M rs) l).natAbs<=(M*C)^(rs.length+1);rw[YW,YH _ (M*C),Nat.mul_assoc];exact this
theorem tu{g:Nat->Nat->Int}{lo:Nat}:∀n,(st g lo n).length=n
 | 0=>rfl
 | n+1=>by
  show (st g lo n).length+1=n+1;rw[tu n]
theorem CH{j k:Nat}(h:k<=j):(Ej j k).length=j:=by
 have:=(zw h).length_eq;rw[tu] at this;simp at this;exact this
theorem AY{f:Nat->Int}{C:Nat}(h:∀i,(f i).natAbs<=C)(i k:Nat):(sh f i k).natAbs<=C:=by
 unfold sh;split
 .exact h _
 .exact YS _
theorem Ld(a:Int)(m n:Nat):a^(m+n)=a^m*a^n:=Int.pow_add a m n
theorem imp(a b:Int)(n:Nat):(a*b)^n=a^n*b^n:=Int.mul_pow
theorem La(a:Int)(m n:Nat):(a^m)^n=a^(m*n):=Int.pow_mul.symm
theorem LY{h h' c:Int}{e m:Nat}(H:h'*h^e=c^(e+1)):h^((e+1)*(m+1))*c^(e+1+(m+1))*h'^m=c^((e+2)*(m+1))*h^(e+1+m):=by
 have k:h'^m*h^(e*m)=c^((e+1)*m):=by rw[<-La,<-imp,H,La]
 have e1:(e+1)*(m+1)=e*m+(e+1+m):=by simp only[Nat.mul_add,Xo];nofun
 have e2:(e+2)*(m+1)=(e+1)*m+(e+1+(m+1)):=by simp only[Nat.mul_add,Xo];nofun
 rw[e1,e2,Ld h,Ld c ((e+1)*m),<-k];generalize h^(e*m)=u;generalize h^(e+1+m)=v;generalize c^(e+1+(m+1))=w;generalize h'^m=z;grind
structure qQ (S1:Nat->Nat->Int)(F G:Nat->Int)(A B:Nat)(x h:Int):Prop where
 ba:B<=A
 x0:x≠0
 h0:h≠0
 one:A=B->h=1
 main:∀j k,j<=B->k<=j->Pm (SR F G A B j k) (x^(B-j)*(h^(A-j-1)*S1 j k))
theorem qQ.first{F G:Nat->Int}{A B:Nat}(h:B<=A):qQ (SR F G A B) F G A B 1 1:=⟨h,∅,∅,λ_=>rfl,λj k _ _=>.inl (by rw[Int.one_pow,Int.one_pow,Xn,Xn])⟩
section
variable {S1:Nat->Nat->Int}{F G q R r:Nat->Int}{A B d:Nat}{x h c h':Int}
theorem qQ.rest(I:qQ S1 F G A B x h)(hg:G B=c)(hc:c≠0)(g0:∀k,B<k->G k=0)(r0:∀k,B<=k->R k=0)(e:∀k,c^(A-B+1)*F k=cv q G (A-B+1) k+R k)(k:Nat)(hk:k<B):Pm (R k) (x*h^(A-B)*S1 (B-1) k):=by
 have s:=(Eu I.ba () hk hg hc g0 r0 e).symm.trans (I.main (B-1) k () ());rw[show B-(B-1)=1 by nofun,yq,show A-(B-1)-1=A-B by have:=I.ba;nofun,<-Y3] at s
 exact s
theorem qQ.high(I:qQ S1 F G A B x h)(hg:G B=c)(g0:∀k,B<k->G k=0)(ab:B<A):Pm (c^(A-B)) (h^(A-B-1)*S1 B B):=by
 have s:=(Fw (f:=F) ab hg g0).symm.trans (I.main B B () ());rw[show B-B=0 by nofun,Xr,Xn] at s
 exact s
theorem qQ.step(I:qQ S1 F G A B x h)(hg:G B=c)(hc:c≠0)(g0:∀k,B<k->G k=0)(e:∀k,c^(A-B+1)*F k=cv q G (A-B+1) k+x*h^(A-B)*r k)(r0:∀k,d<k->r k=0)(hd:d<B)(n0:h'≠0)(hh:A=B/\h'=h\/B<A/\h'*h^(A-B-1)=c^(A-B)):qQ S1 G r B d c h':=by
 refine⟨(),hc,n0,λz=>by nofun,λj k hj hk=>?_⟩
 have ab:=I.ba;have s:=F6 (k:=k) I.ba hd hj hg g0 r0 e;have m:=(I.main j k () hk).mul ((c^(A-B+1))^(B-j));have p:=s.symm.trans m;refine Pm.of_mul (a:=(x*h^(A-B))^(B-j)*c^(A-d)) ?_ (Y9 (Xt (Y9 I.x0 (Xt I.h0))) (Xt hc));rw[Y3];refine p.trans (.inl ?_);obtain⟨n,hn⟩ : ∃n,B-j=n+1:=⟨B-j-1,()⟩;rw[show B-j-1=n by nofun,hn,imp,La,La,show A-j-1=A-B+n by nofun]
 have key:h^((A-B)*(n+1))*c^(A-d)*(c^(d-j)*h'^n)=c^((A-B+1)*(n+1))*h^(A-B+n):=by
  have e1:c^(A-d)*c^(d-j)=c^(A-B+(n+1)):=by rw[<-Ld];congr 1;nofun
  rw[Y3,<-Y3 (c^(A-d)),e1,<-Y3];rcases hh with ⟨z1,z2⟩|⟨z1,z2⟩
  .have h1:=I.one z1;rw[z2,h1,Int.one_pow,Int.one_pow,Int.one_pow,show A-B=0 by nofun,Xn,Yp,Yp]
   congr 1
   nofun
  .obtain⟨e',he⟩ : ∃e',A-B=e'+1:=⟨A-B-1,()⟩;rw[show A-B-1=e' by nofun,he] at z2
   rw[he];exact LY z2
 generalize h^((A-B)*(n+1))=u at *
 generalize h^(A-B+n)=v at *
 generalize c^((A-B+1)*(n+1))=w at *
 generalize c^(A-d)=y at *
 generalize c^(d-j)=y' at *
 generalize h'^n=z at *
 generalize x^(n+1)=t at *
 generalize S1 j k=S at *
 have k2:t*(u*y*(y'*z))*S=t*(w*v)*S:=by rw[key]
 grind
end
theorem qq{f f' g:Nat->Rat}:∀n,(∀i,i<n->f i=f' i) -> ∀k,pr f g n k=pr f' g n k
 | 0,_,_=>rfl
 | n+1,h,k=>by
  show pr f g n k+(if n<=k then f n*g (k-n) else 0)=pr f' g n k+(if n<=k then f' n*g (k-n) else 0)
  rw[qq n (λi hi=>h i ()) k,h n ()]
theorem uS{q q' g r r':Nat->Rat}{n n' d:Nat}(hg:∀j,d<j->g j=0)(hd:g d≠0)(hr:∀k,d<=k->r k=0)(hr':∀k,d<=k->r' k=0)
  (h:∀k,pr q g n k+r k=pr q' g n' k+r' k):∀k,r k=r' k :=
 (xk (q:=λi=>if i<n then q i else 0) (q':=λi=>if i<n' then q' i else 0) (n:=n) (n':=n') (λi hi=>Yc ()) (λi hi=>Yc ()) hg hd hr hr' λk=>by
  rw[qq n (f':=q) (λi hi=>Yb hi),qq n' (f':=q') (λi hi=>Yb hi)];exact h k).2
theorem GY{q g:Nat->Int}{k:Nat}:∀n,cv q g n k=pz q g n k
 | 0=>rfl
 | n+1=>by
  show cv q g n k+q n*sh g n k=pz q g n k+if n<=k then q n*g (k-n) else 0
  rw[GY n];unfold sh;split
  .rfl
  .rw[Xh]
theorem Bt.pm{n:Nat}{x y:Int}(h:Bt n x)(p:Pm y x):Bt n y:=by
 unfold Bt at *
 rcases p with e|e<;>nofun
theorem Bt.pow{b:Nat}{x:Int}(h:Bt b x):∀n,1<=n->Bt (b*n) (x^n)
 | 0,h0=>by nofun
 | 1,_=>by rw[yq,Nat.mul_one];exact h
 | n+2,_=>by
  rw[Xs,Nat.mul_succ];exact (Bt.pow h (n+1) ()).mul h
theorem Bt.pow1{b:Nat}{x:Int}(h:Bt b x)(n:Nat):Bt (b*n+1) (x^n):=by
 cases n with
 | zero=>rw[Xr];exact Bt.mono (m:=1) ∅ ()
 | succ n=>exact (Bt.pow h (n+1) ()).mono ()
theorem iM{q g:Nat->Int}{n k:Nat}:((pz q g n k:Int):Rat)=pr (λi=>(q i:Rat)) (λi=>(g i:Rat)) n k:=by
 rw[lH (F:=λi=>(q i:Rat)) (G:=λi=>(g i:Rat)) (c:=1) (d:=1) (λi=>by grind) (λi=>by grind)]
 grind
def fR(ns:List Int)(k:Nat):Rat:=((nz ns k:Int):Rat)
theorem FO{l:List Int}{k:Nat}(h:l.length<=k):fR l k=0:=by
 show ((nz l k:Int):Rat)=0;rw[aL h];rfl
end L2
namespace L2
open PySem PySem.Spec PyProof.Rows
theorem C4{X:Cx}{k:Nat}{env:Env}{l:List Env}(N:qU X.prog X.base)(hr:gX k X.A)(hst:X.stack=env::l)(hgen:env.scope.isGenerator=false)(hco:env.scope.isCoroutine=false)(hb:env.builtins=builtinsNs)(hg:env.globals=mainGlobals) :
  gh X (binaryOp .FloorDiv) (rI Ed λi j=>.int (i.fdiv j)):=by
 intro pins s σ H x y v u Q I rx ry h;obtain⟨i,j,rfl,rfl,hc,q⟩:=h;obtain⟨t,rfl⟩:=rx;obtain⟨t',rfl⟩:=ry;refine floordiv_int hc ⟨.int (i.fdiv j),H,I.tok _,⟨_,rfl⟩,q⟩ (.inr ?_);refine PySem.PylongRoom.of I.nolimit ?_ (PySem.SeerAt.of (N.seer.keeps I.bk) N.tree (I.ok.frames.trans (Yn some hst)) hgen hco hb hg);have:=hr.dp;show X.A.depth+100<recursionLimit;nofun
theorem zU{q:List (Int×Int)}(h:aS q)(n:q≠[]):cf q (q.length-1)≠0:=by
 have hl:0<q.length:=List.length_pos_iff.mpr n;have e:q[q.length-1]? = some (q[q.length-1]'()):=YK ();rw[bN e];intro z;refine h.2 _ (by rw[Xe,e]) ?_
 exact (iA (h.1 _ (YJ _)).ne).mp z
def ab(a b:Rat):List (List Int×List Int×Int×Int)->Nat->Rat×Rat
 | _,0=>(a,b)
 | [],_+1=>(a,b)
 | row::rows,n+1=>ab b (-(a*(row.2.2.1:Rat))/(row.2.2.2:Rat)) rows n
theorem u3{X:Cx}{k:Nat}{env:Env}{l:List Env}(N:qU X.prog X.base)(hr:gX k X.A)(hst:X.stack=env::l)(hgen:env.scope.isGenerator=false)(hco:env.scope.isCoroutine=false)(hb:env.builtins=builtinsNs)(hg:env.globals=mainGlobals) :
  gh X (binaryOp .FloorDiv) (rI Ed λi j=>.int (i.fdiv j)):=by
 intro pins s σ H x y v u Q I rx ry h;obtain⟨i,j,rfl,rfl,hc,q⟩:=h;obtain⟨t,rfl⟩:=rx;obtain⟨t',rfl⟩:=ry;refine floordiv_int hc ⟨.int (i.fdiv j),H,I.tok _,⟨_,rfl⟩,q⟩ (.inr ?_);refine PySem.PylongRoom.of I.nolimit ?_ (PySem.SeerAt.of (N.seer.keeps I.bk) N.tree (I.ok.frames.trans (Yn some hst)) hgen hco hb hg);have:=hr.dp;show X.A.depth+100<recursionLimit;nofun
end L2
namespace L2
open PySem
section
variable {S u u' v v':Nat->Rat}{m n:Nat}
theorem GZ{m':Nat}(h:∀i,m<=i->u i=0)(hm:m<=m'):ip S u v m' n=ip S u v m n:=by
 obtain⟨d,rfl⟩ : ∃d,m'=m+d:=⟨m'-m,()⟩;exact nE (λi hi=>by rw[h i hi];grind) d
theorem DI:ip S (λi=>u i+u' i) v m n=ip S u v m n+ip S u' v m n:=uk _
theorem DS{c:Rat}:ip S (λi=>c*u i) v m n=c*ip S u v m n:=pR _
theorem JT:ip S u (λi=>v i+v' i) m n=ip S u v m n+ip S u v' m n:=by
 rw[iC,DI,iC,iC (u:=v')]
theorem JN{c:Rat}:ip S u (λi=>c*v i) m n=c*ip S u v m n:=by
 rw[iC,DS,iC]
theorem DA(h:∀i,u i=u' i):ip S u v m n=ip S u' v m n:=by rw[show u=u' from funext h]
end
section
variable {W:Nat->Int}{B:Int}{S:Nat->Rat}
theorem GM{k n m:Nat}{v:Nat->Rat}(hD:Dk W k≠0)(hB:B≠0)(hS:∀i,((W i:Int):Rat)=S i*(B:Rat))(hm:k+1<=m):ip S v (Pk W k) n m=cN v (λi=>((Lq W k i:Int):Rat)/(((Dk W k:Int):Rat)*(B:Rat))) n:=HV hD hB (λ_=>rfl) hS hm n
theorem jm(c:Rat):0<=c*c:=Ec c
theorem pd(hB:0<B)(hS:∀i,((W i:Int):Rat)=S i*(B:Rat)):∀m,(∀i,i<=m->0<Dk W i) -> ∀r:Nat->Rat,(∀i,m<=i->r i=0)->0<=ip S r r m m/\(ip S r r m m=0 -> ∀i,r i=0)
 | 0,_,r,hr=>⟨Rat.le_refl,λ_ i=>hr i (YS _)⟩
 | m+1,hD,r,hr=>by
  have dm:=hD m ();have dn:Dk W m≠0:=();have d1:=hD (m+1) (Yq _);have bn:B≠0:=();obtain⟨r',hr'⟩ : ∃r':Nat->Rat,∀i,r' i=r i + -(r m)*Pk W m i:=⟨_,λ_=>rfl⟩;have z':∀i,m<=i->r' i=0:=λi hi=>by
   rw[hr'];by_cases e:i=m
   .rw[e,Hk dn];grind
   .rw[Hr (),hr i ()];grind
  obtain⟨p1,p2⟩:=pd hB hS m (λi hi=>hD i ()) r' z';have er:∀i,r i=r' i+r m*Pk W m i:=λi=>by rw[hr'];grind
  obtain⟨c,hc⟩ : ∃c,c=r m:=⟨_,rfl⟩;obtain⟨h,hh⟩ : ∃h:Rat,h=((Dk W (m+1):Int):Rat)/(((Dk W m:Int):Rat)*(B:Rat)):=⟨_,rfl⟩;have h0:0<h:=by
   rw[hh,Xu];refine Xv (by exact_mod_cast d1) (Rat.inv_pos.mpr (Xv (by exact_mod_cast dm) (by exact_mod_cast hB)))
  have e1:ip S r' (Pk W m) (m+1) (m+1)=0:=by
   rw[GM dn bn hS (Yq _)];refine kx _ λi hi=>?_;by_cases e:i=m
   .rw[z' i ()];grind
   .rw[Hb ()];have z0:((0:Int):Rat)=0:=rfl;rw[z0];grind
  have e2:ip S r (Pk W m) (m+1) (m+1)=c*h:=by
   rw[GM dn bn hS (Yq _)];show cN r _ m+r m*(((Lq W m m:Int):Rat)/_)=_;rw[kx m λi hi=>by rw[Hb hi,show ((0:Int):Rat)=0 from rfl];grind,IN,hc,hh]
   grind
  have e3:ip S r r (m+1) (m+1)=ip S r' r' m m+c*c*h:=by
   have a1:ip S r r (m+1) (m+1)=ip S r' r (m+1) (m+1)+c*ip S (Pk W m) r (m+1) (m+1):=by
    rw[DA (u':=λi=>r' i+c*Pk W m i) λi=>by rw[er i,hc],DI,DS]
   have a2:ip S r' r (m+1) (m+1)=ip S r' r' (m+1) (m+1)+c*ip S r' (Pk W m) (m+1) (m+1):=by
    have er':r=λi=>r' i+c*Pk W m i:=funext λi=>by rw[er i,hc]
    have:ip S r' r (m+1) (m+1)=ip S r' (λi=>r' i+c*Pk W m i) (m+1) (m+1):=by rw[<-er']
    rw[this,JT,JN]
   rw[a1,a2,e1,iC (u:=Pk W m),e2,GZ z' (),iC,GZ z' ()];grind
  have sq:=Xq (jm c) (Xw h0);refine⟨by rw[e3];grind,λe=>?_⟩
  rw[e3] at e;have q1:ip S r' r' m m=0:=⋯;have q2:c*c*h=0:=⋯;have c0:c=0:=by
   have hn:h≠0:=⋯;have:c*c=0:=⋯;grind
  intro i;rw[er i,p2 q1 i,<-hc,c0];grind
end
end L2
namespace L2
open PySem PySem.Spec PyProof.Rows
theorem Cp{X:Cx}{k:Nat}(N:qU X.prog X.base)(hr:gX k X.A)(hst:X.stack=X.env::X.outer)(hgen:X.env.scope.isGenerator=false)(hco:X.env.scope.isCoroutine=false) :
  Gx X .FloorDiv (λx y H Q=>∃i j,x=.int i/\y=.int j/\Ed i j/\Q (.int (i.fdiv j)) H):=by
 intro pins s σ H x y v u Q I r1 r2 h;obtain⟨i,j,rfl,rfl,m,q⟩:=h;obtain⟨t,rfl⟩:=r1;obtain⟨t',rfl⟩:=r2;refine ifloordiv_int m ⟨.int _,H,I.tok _,⟨_,rfl⟩,q⟩ (.inr ?_);refine PySem.PylongRoom.of I.nolimit ?_ (PySem.SeerAt.of (N.seer.keeps I.bk) N.tree (I.ok.frames.trans (Yn some hst)) hgen hco I.ok.blt I.ok.glob);have:=hr.dp;show X.A.depth+100<recursionLimit;nofun
def Bd(n:Nat)(f:Nat->Rat):Prop:=∀i,n<=i->f i=0
def Tp(d:Nat)(f:Nat->Rat):Prop:=f d≠0/\Bd (d+1) f
theorem Bd.mono{m n:Nat}{f:Nat->Rat}(h:Bd m f)(l:m<=n):Bd n f:=λi hi=>h i ()
theorem Bd.tp:∀{n:Nat}{f:Nat->Rat},Bd n f->(∀i,f i=0) \/ ∃d,d<n/\Tp d f
 | 0,f,h=>.inl λi=>h i (YS _)
 | n+1,f,h=>by
  by_cases e:f n=0
  .rcases Bd.tp (n:=n) (f:=f) (λi hi=>by
    by_cases z:i=n
    .rw[z,e]
    .exact h i ()) with z|⟨d,hd,t⟩
   .exact .inl z
   .exact .inr ⟨d,(),t⟩
  .exact .inr ⟨n,(),e,h⟩
theorem ot{f:Nat->Rat}(h:∀i,f i=0)(x:Rat):EV f x=0:=by
 rw[gJ (n:=0) (λk _=>h k) ∅];rfl
theorem mv{f g:Nat->Rat}{c:Rat}(x:Rat):EV (λi=>f i+c*g i) x=EV f x+c*EV g x:=by
 have:EV (λi=>c*g i) x=c*EV g x:=by rw[Cc,Cc (v:=g),pR]
 rw[jA,this]
theorem Bd.pr{m n:Nat}{f g:Nat->Rat}(hg:Bd n g):Bd (m+n) (λk=>L2.pr f g m k):=λk hk=>gy hg _ _ ()
theorem IZ{m n:Nat}{f g:Nat->Rat}(hf:Bd m f)(hg:Bd n g)(h:m+n<=20)(x:Rat):EV (λk=>pr f g m k) x=EV f x*EV g x:=by
 rw[DO hg m h,gJ hf (),gJ hg ()]
theorem GX{f g:Nat->Rat}{c:Rat}(k:Nat):DF (λi=>f i+c*g i) k=DF f k+c*DF g k:=by
 show (((k+1:Nat):Int):Rat)*(f (k+1)+c*g (k+1))=(((k+1:Nat):Int):Rat)*f (k+1)+c*((((k+1:Nat):Int):Rat)*g (k+1));grind
theorem DT{g:Nat->Rat}{m:Nat}(bg:Bd m g):∀(n:Nat)(f h:Nat->Rat),Bd n f->n+m<=19->Bd 20 h->(∀x,EV h x=EV f x*EV g x) -> ∀x,EV (DF h) x=EV (DF f) x*EV g x+EV f x*EV (DF g) x
 | 0,f,h,bf,l,bh,e,x=>by
  have f0:∀i,f i=0:=λi=>bf i (YS _);have h0:∀i,h i=0:=kL bh (g:=λ_=>0) (λ_ _=>rfl) λx=>by rw[e x,ot f0,ot (f:=λ_=>0) λ_=>rfl];grind
  rw[ot (f:=DF h) λi=>by show _*h (i+1)=0;rw[h0];grind,ot (f:=DF f) λi=>by show _*f (i+1)=0;rw[f0];grind,ot f0]
  grind
 | n+1,f,h,bf,l,bh,e,x=>by
  obtain⟨f1,hf1⟩ : ∃f1:Nat->Rat,∀k,f1 k=f (k+1):=⟨_,λ_=>rfl⟩;have b1:Bd n f1:=λi hi=>by rw[hf1,bf _ ()]
  obtain⟨one,h1⟩ : ∃one:Nat->Rat,∀k,one k=if k=0 then 1 else 0:=⟨_,λ_=>rfl⟩
  have one1:∀x,EV one x=1:=λx=>by
   rw[gJ (n:=1) (λk hk=>by rw[h1,Yc ()]) ∅]
   show 0+one 0*1=(1:Rat);rw[h1,Yb rfl];grind
  have ef:∀k,f k=lin 0 1 f1 k+f 0*one k:=λk=>by
   cases k with
   | zero=>show f 0=f1 0*0+f 0*one 0;rw[h1,Yb rfl];grind
   | succ k=>show f (k+1)=f1 (k+1)*0+f1 k*1+f 0*one (k+1);rw[h1,Yc (),hf1];grind
  have z1:f1 19=0:=b1 _ ();have vf:∀x,EV f x=x*EV f1 x+f 0:=λx=>by rw[cD ef,mv,iq z1,one1];grind
  have df:∀x,EV (DF f) x=x*EV (DF f1) x+EV f1 x:=λx=>by
   have:∀k,DF f k=lin 0 1 (DF f1) k+f1 k:=λk=>by
    rw[show f=λk=>lin 0 1 f1 k+f 0*one k from funext ef,GX,xg]
    have:DF one k=0:=by show _*one (k+1)=0;rw[h1,Yc ()];grind
    rw[this];grind
   rw[cD this,jA,iq (by show _*f1 20=0;rw[b1 _ ()];grind)]
   grind
  obtain⟨u,hu⟩ : ∃u:Nat->Rat,u=λk=>pr f1 g n k:=⟨_,rfl⟩;have bu:Bd 19 u:=by rw[hu];exact (Bd.pr bg).mono ()
  have vu:∀x,EV u x=EV f1 x*EV g x:=λx=>by rw[hu,IZ b1 bg ()]
  have ih:=DT bg n f1 u b1 () (bu.mono ()) vu;have eh:∀k,h k=lin 0 1 u k+f 0*g k:=kL bh (λk hk=>by
   obtain⟨j,rfl⟩ : ∃j,k=j+1:=⟨k-1,()⟩;show u (j+1)*0+u j*1+f 0*g (j+1)=0;rw[bu j (),bg _ ()];grind) λx=>by rw[e x,vf,mv,iq (bu 19 ()),vu];grind
  have dh:EV (DF h) x=x*EV (DF u) x+EV u x+f 0*EV (DF g) x:=by
   have:∀k,DF h k=(λk=>lin 0 1 (DF u) k+u k) k+f 0*DF g k:=λk=>by
    rw[show h=λk=>lin 0 1 u k+f 0*g k from funext eh,GX,xg]
   rw[cD this,mv,jA,iq (by show _*u 20=0;rw[bu _ ()];grind)]
   grind
  rw[dh,ih,vu,df,vf];grind
inductive pH:List Int->List Int->List (List Int×List Int×Int×Int)->Prop
 | nought {F:List Int}:pH F [] []
 | last {F G Q:List Int}{S:Int}:G≠[]->nz G (G.length-1)≠0->S≠0->Q.length+G.length=F.length+1->(∀k,S*nz F k=pz (nz Q) (nz G) Q.length k)->pH F G []
 | more {F G R Q:List Int}{T S:Int}{rows:List (List Int×List Int×Int×Int)}:G≠[]->nz G (G.length-1)≠0->S≠0->T≠0->R≠[]->nz R (R.length-1)≠0->R.length<G.length->Q.length+G.length=F.length+1->(∀k,S*nz F k=pz (nz Q) (nz G) Q.length k+T*nz R k)->pH G R rows->pH F G ((R,Q,T,S)::rows)
def fM(G:List Int):List (List Int×List Int×Int×Int)->List Int
 | []=>G
 | row::rows=>fM row.1 rows
theorem cH(l:List Int):Bd l.length (fR l):=λi hi=>FO hi
theorem m5{F G R Q:List Int}{S T:Int}(lq:Q.length+G.length<=20)(e:∀k,S*nz F k=pz (nz Q) (nz G) Q.length k+T*nz R k)(x:Rat):(S:Rat)*EV (fR F) x=EV (fR Q) x*EV (fR G) x+(T:Rat)*EV (fR R) x:=by
 have c:∀k,(λk=>0+(S:Rat)*fR F k) k=(λk=>pr (fR Q) (fR G) Q.length k) k+(T:Rat)*fR R k:=λk=>by
  have:=e k;have z:((S*nz F k:Int):Rat)=((pz (nz Q) (nz G) Q.length k+T*nz R k:Int):Rat):=by rw[this]
  rw[Xb,Xa,Xb,iM] at z;show 0+(S:Rat)*((nz F k:Int):Rat)=pr (λi=>((nz Q i:Int):Rat)) (λi=>((nz G i:Int):Rat)) Q.length k+(T:Rat)*((nz R k:Int):Rat);grind
 have h1:=cD c x;rw[mv,mv,IZ (cH Q) (cH G) lq,ot (f:=λ_=>0) λ_=>rfl] at h1;grind
structure Hf (K:W.Frag)(x:Str)(st:Stmt):Prop where
 ex:∃f fd,fy K x x st f fd/\PySem.W.nsIn K mainGlobals x=some (some (.ref f))
def sg(x:Rat):Int:=if 0<x then 1 else if x<0 then -1 else 0
theorem dM{x:Rat}(h:0<x):sg x=1:=Yb h
theorem gt{x:Rat}(h:x<0):sg x = -1:=by
 unfold sg;rw[Yc ⋯,Yb h]
theorem yb:sg 0=0:=by decide +kernel
theorem cC(x:Rat):(0<x/\sg x=1)\/(x<0/\sg x = -1)\/(x=0/\sg x=0):=by
 by_cases h:0<x
 .exact .inl ⟨h,dM h⟩
 .by_cases h2:x<0
  .exact .inr (.inl ⟨h2,gt h2⟩)
  .obtain rfl:x=0:=⋯;exact .inr (.inr ⟨rfl,yb⟩)
theorem IJ{x:Rat}:sg x=1↔0<x:=by
 refine⟨λh=>?_,dM⟩;rcases cC x with ⟨a,_⟩|⟨_,b⟩|⟨_,b⟩
 .exact a
 .nofun
 .nofun
theorem DE{x:Rat}:sg x = -1↔x<0:=by
 refine⟨λh=>?_,gt⟩;rcases cC x with ⟨_,b⟩|⟨a,_⟩|⟨_,b⟩
 .nofun
 .exact a
 .nofun
theorem kP{x:Rat}:sg x=0↔x=0:=by
 refine⟨λh=>?_,λh=>by rw[h];exact yb⟩
 rcases cC x with ⟨_,b⟩|⟨_,b⟩|⟨a,_⟩
 .nofun
 .nofun
 .exact a
theorem je{x y:Rat}:sg (x*y)=sg x*sg y:=by
 rcases cC x with ⟨a,e⟩|⟨a,e⟩|⟨a,e⟩<;>rcases cC y with ⟨b,f⟩|⟨b,f⟩|⟨b,f⟩<;>rw[e,f]
 .exact dM (Xv a b)
 .exact gt (by have:=Xv a (show 0 < -y by grind);grind)
 .rw[b];exact kP.mpr ⋯
 .exact gt (by have:=Xv (show 0 < -x by grind) b;grind)
 .exact dM (by have:=Xv (show 0 < -x by grind) (show 0 < -y by grind);grind)
 .rw[b];exact kP.mpr ⋯
 .rw[a];exact kP.mpr ⋯
 .rw[a];exact kP.mpr ⋯
 .rw[a];exact kP.mpr ⋯
def Sm(e x:Rat):Prop:=-e<=x/\x<=e
theorem Sm.mono{a b x:Rat}(h:Sm a x)(l:a<=b):Sm b x:=by
 unfold Sm at h ⊢;grind
theorem Sm.mul{B e q g:Rat}(h:Sm B q)(h2:Sm e g):Sm (B*e) (q*g):=by
 obtain⟨a1,a2⟩:=h;obtain⟨b1,b2⟩:=h2;have p1:=Xq (show 0<=B-q by grind) (show 0<=e+g by grind)
 have p2:=Xq (show 0<=B+q by grind) (show 0<=e-g by grind)
 have p3:=Xq (show 0<=B-q by grind) (show 0<=e-g by grind)
 have p4:=Xq (show 0<=B+q by grind) (show 0<=e+g by grind)
 constructor
 .grind
 .grind
theorem Sm.add{a b x y:Rat}(h:Sm a x)(h2:Sm b y):Sm (a+b) (x+y):=by
 unfold Sm at *
 grind
theorem Sm.sub{a b x y:Rat}(h:Sm a x)(h2:Sm b y):Sm (a+b) (x-y):=by
 unfold Sm at *
 grind
def Wi(R x:Rat):Prop:=-R<=x/\x<=R
def iB(R:Rat)(f:Rat->Rat):Prop:=∃B:Rat,0<B /\ ∀x,Wi R x->Sm B (f x)
def wG(R:Rat)(f:Rat->Rat):Prop:=∃L:Rat,0<L /\ ∀x y,Wi R x->Wi R y->x<=y->Sm (L*(y-x)) (f y-f x)
theorem pG{u v e:Rat}(h:Sm e (v-u))(n:¬ (sg u=sg v/\sg u≠0)):Sm e u/\Sm e v:=by
 unfold Sm at *
 rcases cC u with ⟨a,e1⟩|⟨a,e1⟩|⟨a,e1⟩<;>rcases cC v with ⟨b,e2⟩|⟨b,e2⟩|⟨b,e2⟩<;>first|(exfalso;exact n ⟨e1.trans e2.symm,λz=>absurd (e1.symm.trans z) ∅⟩)|grind
def chg:Int->List Int->Nat
 | _,[]=>0
 | l,s::r=>if s=0 then chg l r else (if s = -l then 1 else 0)+chg s r
theorem GQ{l:Int}{r:List Int}:chg l (0::r)=chg l r:=Yb rfl
theorem uw{l s:Int}{r:List Int}(h:s≠0):chg l (s::r)=(if s = -l then 1 else 0)+chg s r:=Yc h
theorem uO{s:Int}{r:List Int}(h:s≠0):chg 0 (s::r)=chg s r:=by
 rw[uw h,Yc (),Xm]
def wY(x:Rat)(l:List (Rat->Rat)):List Int:=l.map λf=>sg (f x)
inductive Ch (R:Rat):(Rat->Rat)->List (Rat->Rat)->Prop
 | one {f:Rat->Rat}{c:Rat}:c≠0->(∀x,f x=c)->Ch R f []
 | two {f g:Rat->Rat}:wG R f->Ch R g []->Ch R f [g]
 | more {f g h q:Rat->Rat}{a b:Rat}{l:List (Rat->Rat)}:wG R f->iB R q->0<a->0<b->(∀x,a*f x=q x*g x-b*h x)->Ch R g (h::l)->Ch R f (g::h::l)
theorem Ch.lip{R:Rat}{f:Rat->Rat}{l:List (Rat->Rat)}(h:Ch R f l):wG R f:=by
 cases h with
 | one _ e=>exact⟨1,∅,λx y _ _ l=>by rw[e,e];unfold Sm;grind⟩
 | two h _=>exact h
 | more h _ _ _ _ _=>exact h
def gz(R:Rat)(f g:Rat->Rat):Prop:=∃e:Rat,0<e /\ ∀x,Wi R x->Sm e (f x)->Sm e (g x)->False
theorem Ch.notBoth{R:Rat}{f:Rat->Rat}{l:List (Rat->Rat)}(h:Ch R f l):∀g r,l=g::r->gz R f g:=by
 induction h with
 | one _ _=>intro g r e;cases e
 | @two f g _ hg =>
  intro g' r e;cases e;cases hg with
  | @one _ c c0 ec =>
   rcases cC c with ⟨a,_⟩|⟨a,_⟩|⟨a,_⟩
   .exact⟨c/2,⋯,λx _ _ s=>by rw[ec] at s;unfold Sm at s;grind⟩
   .exact⟨-c/2,⋯,λx _ _ s=>by rw[ec] at s;unfold Sm at s;grind⟩
   .exact absurd a c0
 | @more f g h q a b l _ hq a0 b0 e _ ih =>
  intro g' r e';cases e';obtain⟨B,B0,hB⟩:=hq;obtain⟨ε,ε0,hε⟩:=ih h l rfl;have s0:0<B+a+b:=⋯;have t0:0<b/(B+a+b):=by rw[Xx s0];grind
  refine⟨ε*(b/(B+a+b)),Xv ε0 t0,λx wx sf sg'=>hε x wx ?_ ?_⟩
  .refine sg'.mono ?_;have t1:b/(B+a+b)<=1:=Rat.not_lt.mp λz=>by rw[Xx s0] at z;grind
   have:=Xq (Xw ε0) (show 0<=1-b/(B+a+b) by grind)
   grind
  .obtain⟨t,ht⟩ : ∃t,t=ε*(b/(B+a+b)):=⟨_,rfl⟩;rw[<-ht] at sf sg';have tt:t*(B+a+b)=ε*b:=by rw[ht];grind
   have s1:=((hB x wx).mul sg').sub (Sm.mul (B:=a) (q:=a) ⟨⋯,⋯⟩ sf);have e1:q x*g x-a*f x=b*h x:=by have:=e x;grind
   rw[e1] at s1;obtain⟨u1,u2⟩:=s1;have tp:0<t:=by rw[ht];exact Xv ε0 t0
   have tb:=Xv tp b0;have k:B*t+a*t<=b*ε:=⋯;constructor
   .refine Rat.not_lt.mp λz=>?_;have:=Xv b0 (show 0 < -ε-h x by grind)
    grind
   .refine Rat.not_lt.mp λz=>?_;have:=Xv b0 (show 0<h x-ε by grind)
    grind
theorem C1{R a b:Rat}{f g h q:Rat->Rat}(hq:iB R q)(a0:0<a)(b0:0<b)(e:∀x,a*f x=q x*g x-b*h x)(nb:gz R g h):∃η:Rat,0<η /\ ∀x,Wi R x->Sm η (g x)->sg (f x) = -sg (h x)/\sg (h x)≠0:=by
 obtain⟨B,B0,hB⟩:=hq;obtain⟨ε,ε0,hε⟩:=nb;have s0:0<B+b:=⋯;have t0:0<b/(B+b):=by rw[Xx s0];grind
 refine⟨ε*(b/(B+b)),Xv ε0 t0,λx wx s=>?_⟩;have t1:b/(B+b)<=1:=Rat.not_lt.mp λz=>by rw[Xx s0] at z;grind
 have s2:Sm ε (g x):=s.mono (by
  have:=Xq (Xw ε0) (show 0<=1-b/(B+b) by grind)
  grind)
 have nh:¬ Sm ε (h x):=λz=>hε x wx s2 z;obtain⟨t,ht⟩ : ∃t,t=ε*(b/(B+b)):=⟨_,rfl⟩;rw[<-ht] at s;have tt:t*(B+b)=ε*b:=by rw[ht];grind
 have tp:0<t:=by rw[ht];exact Xv ε0 t0
 have s1:=(hB x wx).mul s;have e1:=e x;have tb:=Xv tp b0;obtain⟨u1,u2⟩:=s1;by_cases hp:ε<h x
 .have p1:=Xv b0 (show 0<h x-ε by grind)
  have fn:f x<0:=Rat.not_le.mp λz=>by
   have:=Xq (Xw a0) z;grind
  exact⟨by rw[gt fn,dM ⋯],by rw[dM ⋯];decide⟩
 .have hn:h x < -ε:=by
   unfold Sm at nh;grind
  have p1:=Xv b0 (show 0 < -ε-h x by grind)
  have fp:0<f x:=Rat.not_le.mp λz=>by
   have:=Xq (Xw a0) (show 0 <= -f x by grind)
   grind
  exact⟨by rw[dM fp,gt ⋯];decide,by rw[gt ⋯];decide⟩
def G9(R:Rat)(f:Rat->Rat)(l:List (Rat->Rat)):Prop:=∃δ:Rat,0<δ /\ ∀c d,Wi R c->Wi R d->c<=d->d-c<=δ->sg (f c)=sg (f d)->sg (f c)≠0->chg (sg (f c)) (wY c l)=chg (sg (f d)) (wY d l)
theorem qP{a b c:Rat}(h1:0<a)(h2:0<b)(h3:0<c):∃m:Rat,0<m/\m<=a/\m<=b/\m<=c:=by
 by_cases x:a<=b
 .by_cases y:a<=c
  .exact⟨a,h1,⋯,x,y⟩
  .exact⟨c,h3,⋯,⋯,⋯⟩
 .by_cases y:b<=c
  .exact⟨b,h2,⋯,⋯,y⟩
  .exact⟨c,h3,⋯,⋯,⋯⟩
theorem wG.near{R:Rat}{f:Rat->Rat}(h:wG R f) {e:Rat}(e0:0<e):∃δ:Rat,0<δ /\ ∀c d,Wi R c->Wi R d->c<=d->d-c<=δ->Sm e (f d-f c):=by
 obtain⟨L,L0,hL⟩:=h;have p:0<e/L:=by rw[Xx L0];grind
 refine⟨e/L,p,λc d wc wd l n=>(hL c d wc wd l).mono ?_⟩;have:=Xq (Xw L0) (show 0<=e/L-(d-c) by grind)
 have z:L*(e/L)=e:=⋯;grind
theorem yv{s t:Int}{r:List Int}(hs:s=1\/s = -1)(ht:t=0\/t=1\/t = -1):chg s (t::(-s)::r)=1+chg (-s) r:=by
 rcases hs with rfl|rfl<;>rcases ht with rfl|rfl|rfl<;>simp[chg]
theorem gF(x:Rat):sg x=0\/sg x=1\/sg x = -1:=by
 rcases cC x with ⟨_,e⟩|⟨_,e⟩|⟨_,e⟩
 .exact .inr (.inl e)
 .exact .inr (.inr e)
 .exact .inl e
theorem Ch.keeps{R:Rat}{f:Rat->Rat}{l:List (Rat->Rat)}(h:Ch R f l):G9 R f l /\ ∀g r,l=g::r->G9 R g r:=by
 induction h with
 | one _ _=>exact⟨⟨1,∅,λ_ _ _ _ _ _ _ _=>rfl⟩,λg r e=>by cases e⟩
 | @two f g lf hg ih =>
  refine⟨?_,λg' r e=>by cases e;exact ih.1⟩
  cases hg with
  | @one _ c c0 ec =>
   refine⟨1,∅,λc' d' _ _ _ _ e _=>?_⟩;show chg _ [sg (g c')]=chg _ [sg (g d')];rw[ec,ec,e]
 | @more f g h q a b l lf hq a0 b0 e hg ih =>
  refine⟨?_,λg' r e=>by cases e;exact ih.1⟩
  obtain⟨η,η0,op⟩:=C1 hq a0 b0 e (hg.notBoth h l rfl);obtain⟨δ1,d1,k1⟩:=ih.1;obtain⟨δ2,d2,k2⟩:=ih.2 h l rfl;obtain⟨δ3,d3,k3⟩:=hg.lip.near η0;obtain⟨δ,d0,m1,m2,m3⟩:=qP d1 d2 d3;refine⟨δ,d0,λc d wc wd cd n ef nf=>?_⟩;show chg _ (sg (g c)::wY c (h::l))=chg _ (sg (g d)::wY d (h::l));by_cases same:sg (g c)=sg (g d)/\sg (g c)≠0
  .rw[uw same.2,uw (by rw[<-same.1];exact same.2),k1 c d wc wd cd ⋯ same.1 same.2,same.1,ef]
  .obtain⟨sc,sd⟩:=pG (k3 c d wc wd cd ⋯) same;obtain⟨oc,nc⟩:=op c wc sc;obtain⟨od,nd⟩:=op d wd sd;have hh:sg (h c)=sg (h d):=();have sf:sg (f d)=1\/sg (f d) = -1:=by
    have:=gF (f d);nofun
   show chg _ (sg (g c)::sg (h c)::wY c l)=chg _ (sg (g d)::sg (h d)::wY d l);have e1:sg (h c) = -sg (f d):=();have e2:sg (h d) = -sg (f d):=();have k:=k2 c d wc wd cd ⋯ hh nc;rw[e1,e2] at k;rw[ef,e1,e2,yv sf (gF _),yv sf (gF _),k]
def Vr(x:Rat)(l:List (Rat->Rat)):Nat:=chg 0 (wY x l)
def v1(f g:Rat->Rat)(x:Rat):Nat:=if sg (f x)*sg (g x) = -1 then 1 else 0
theorem Ds{f g:Rat->Rat}{l:List (Rat->Rat)}{x:Rat}(h:sg (g x)≠0):Vr x (f::g::l)=v1 f g x+chg (sg (g x)) (wY x l):=by
 show chg 0 (sg (f x)::sg (g x)::wY x l)=_;unfold v1;rcases gF (f x) with e|e|e
 .rw[e,GQ,uO h,Int.zero_mul,Yc ∅,Xm]
 .rw[e,uO ∅,uw h,Xn]
 .rw[e,uO ∅,uw h];have:=gF (g x);rcases this with z|z|z<;>rw[z]<;>rfl
theorem Dw{f:Rat->Rat}{l:List (Rat->Rat)}{x:Rat}(h:sg (f x)≠0):Vr x (f::l)=chg (sg (f x)) (wY x l):=uO h
def Ge(R:Rat)(f g:Rat->Rat)(A:Rat->Nat):Prop:=∃δ:Rat,0<δ /\ ∀c d,Wi R c->Wi R d->c<=d->d-c<=δ->(sg (f c)=sg (f d)/\sg (f c)≠0/\A c=A d)\/(sg (g c)=sg (g d)/\sg (g c)≠0/\v1 f g c+A c=v1 f g d+A d)
theorem Ch.counts{R:Rat}{f g:Rat->Rat}{l:List (Rat->Rat)}{A:Rat->Nat}(h:Ch R f (g::l))(loc:Ge R f g A) {a b:Rat}(wa:Wi R a)(wb:Wi R b)(ab:a<=b):Vr a (f::g::l)+A a=Vr b (f::g::l)+A b:=by
 obtain⟨δ1,d1,k1⟩:=h.keeps.1;obtain⟨δ2,d2,k2⟩:=h.keeps.2 g l rfl;obtain⟨δ3,d3,k3⟩:=loc;obtain⟨δ,d0,m1,m2,m3⟩:=qP d1 d2 d3;have step:∀c d,Wi R c->Wi R d->c<=d->d-c<=δ->Vr c (f::g::l)+A c=Vr d (f::g::l)+A d:=λc d wc wd cd n=>by
  rcases k3 c d wc wd cd ⋯ with ⟨e,nz,ea⟩|⟨e,nz,ea⟩
  .rw[Dw nz,Dw (by rw[<-e];exact nz),k1 c d wc wd cd ⋯ e nz,ea]
  .rw[Ds nz,Ds (by rw[<-e];exact nz),k2 c d wc wd cd ⋯ e nz]
   nofun
 have all:∀(n:Nat)(c:Rat),Wi R c->c<=b->b-c<=(n:Rat)*δ->Vr c (f::g::l)+A c=Vr b (f::g::l)+A b:=by
  intro n;induction n with
  | zero =>
   intro c _ cb z;obtain rfl:c=b:=by
    have:((0:Nat):Rat)=0:=rfl;grind
   rfl
  | succ n ih =>
   intro c wc cb z;by_cases y:b-c<=δ
   .exact step c b wc wb cb y
   .have wc':Wi R (c+δ):=by unfold Wi at *;grind
    rw[step c (c+δ) wc wc' ⋯ ⋯];refine ih (c+δ) wc' ⋯ ?_;have:((n+1:Nat):Rat)=(n:Rat)+1:=by rw[Rat.natCast_add];rfl
    rw[this] at z;grind
 obtain⟨n,hn⟩ : ∃n:Nat,b-a<=(n:Rat)*δ:=by
  obtain⟨x,hx⟩ : ∃x,x=(b-a)/δ:=⟨_,rfl⟩;refine⟨(x.ceil).toNat,?_⟩;have h1:x<=((x.ceil:Int):Rat):=Rat.le_ceil;have h2:((x.ceil:Int):Rat)<=((x.ceil.toNat:Nat):Rat):=by
   rw[show ((x.ceil.toNat:Nat):Rat)=(((x.ceil.toNat:Nat):Int):Rat) from rfl]
   exact Rat.intCast_le_intCast.mpr (Int.self_le_toNat _)
  have h3:=Xq (Xw d0) (show 0<=((x.ceil.toNat:Nat):Rat)-x by grind)
  have h4:x*δ=b-a:=by rw[hx];grind
  grind
 exact all n a wa ab hn
inductive aR where
 | line (r:Rat)
 | root (n:Rat)
 | none (n:Rat)
def aR.ok:aR->Prop
 | .line _=>True
 | .root n=>0<n /\ ∀r:Rat,r*r≠n
 | .none n=>0<n
def aR.p:aR->Rat->Rat
 | .line r,x=>x-r
 | .root n,x=>x*x-n
 | .none n,x=>x*x+n
def aR.d:aR->Rat->Rat
 | .line _,_=>1
 | .root _,x=>2*x
 | .none _,x=>2*x
def aR.A:aR->Rat->Nat
 | .line r,x=>if r<=x then 1 else 0
 | .root n,x=>if x*x<n then 1 else if x<0 then 0 else 2
 | .none _,_=>0
def di:List (aR×Nat)->Rat->Rat
 | [],_=>1
 | q::l,x=>q.1.p x*di l x
def iu:List (aR×Nat)->Rat->Rat
 | [],_=>0
 | q::l,x=>((q.2:Nat):Rat)*q.1.d x*di l x+q.1.p x*iu l x
def gD:List (aR×Nat)->Rat->Nat
 | [],_=>0
 | q::l,x=>q.1.A x+gD l x
theorem qg{l l':List (aR×Nat)}(h:l.Perm l')(x:Rat):di l x=di l' x:=by
 induction h with
 | nil=>rfl
 | cons q _ ih=>show q.1.p x*_=q.1.p x*_;rw[ih]
 | swap a b l=>show b.1.p x*(a.1.p x*di l x)=a.1.p x*(b.1.p x*di l x);grind
 | trans _ _ h1 h2=>rw[h1,h2]
theorem BM{l l':List (aR×Nat)}(h:l.Perm l')(x:Rat):iu l x=iu l' x:=by
 induction h with
 | nil=>rfl
 | cons q h ih=>show _*_*di _ x+q.1.p x*iu _ x=_*_*di _ x+q.1.p x*iu _ x;rw[ih,qg h]
 | swap a b l =>
  show ((b.2:Nat):Rat)*b.1.d x*(a.1.p x*di l x)+b.1.p x*(((a.2:Nat):Rat)*a.1.d x*di l x+a.1.p x*iu l x)=((a.2:Nat):Rat)*a.1.d x*(b.1.p x*di l x)+a.1.p x*(((b.2:Nat):Rat)*b.1.d x*di l x+b.1.p x*iu l x);grind
 | trans _ _ h1 h2=>rw[h1,h2]
theorem vD{l l':List (aR×Nat)}(h:l.Perm l')(x:Rat):gD l x=gD l' x:=by
 induction h with
 | nil=>rfl
 | cons q _ ih=>show q.1.A x+_=q.1.A x+_;rw[ih]
 | swap a b l=>show b.1.A x+(a.1.A x+gD l x)=a.1.A x+(b.1.A x+gD l x);nofun
 | trans _ _ h1 h2=>rw[h1,h2]
theorem iB.const{R:Rat}(c:Rat):iB R λ_=>c:=by
 rcases cC c with ⟨a,_⟩|⟨a,_⟩|⟨a,_⟩
 .exact⟨c,a,λx _=>by unfold Sm;grind⟩
 .exact⟨-c,⋯,λx _=>by unfold Sm;grind⟩
 .exact⟨1,∅,λx _=>by unfold Sm;grind⟩
theorem iB.id{R:Rat}(h:0<=R):iB R λx=>x:=⟨R+1,⋯,λx w=>by unfold Sm;unfold Wi at w;grind⟩
theorem iB.mul{R:Rat}{f g:Rat->Rat}(h:iB R f)(h2:iB R g):iB R λx=>f x*g x:=by
 obtain⟨a,a0,ha⟩:=h;obtain⟨b,b0,hb⟩:=h2;exact⟨a*b,Xv a0 b0,λx w=>(ha x w).mul (hb x w)⟩
theorem iB.add{R:Rat}{f g:Rat->Rat}(h:iB R f)(h2:iB R g):iB R λx=>f x+g x:=by
 obtain⟨a,a0,ha⟩:=h;obtain⟨b,b0,hb⟩:=h2;exact⟨a+b,⋯,λx w=>(ha x w).add (hb x w)⟩
theorem iB.congr{R:Rat}{f g:Rat->Rat}(h:iB R f)(e:∀x,g x=f x):iB R g:=by
 obtain⟨a,a0,ha⟩:=h;exact⟨a,a0,λx w=>by rw[e];exact ha x w⟩
theorem aR.bp{R:Rat}(h:0<=R):∀q:aR,iB R q.p
 | .line r=>((iB.id h).add (.const (-r))).congr λx=>by show x-r=x + -r;grind
 | .root n=>(((iB.id h).mul (.id h)).add (.const (-n))).congr λx=>by show x*x-n=x*x + -n;grind
 | .none n=>((iB.id h).mul (.id h)).add (.const n)
theorem aR.bd{R:Rat}(h:0<=R):∀q:aR,iB R q.d
 | .line _=>.const 1
 | .root _=>(iB.const 2).mul (.id h)
 | .none _=>(iB.const 2).mul (.id h)
theorem tU{R:Rat}(h:0<=R):∀l:List (aR×Nat),iB R (di l)
 | []=>.const 1
 | q::l=>(q.1.bp h).mul (tU h l)
theorem sy{R:Rat}(h:0<=R):∀l:List (aR×Nat),iB R (iu l)
 | []=>.const 0
 | q::l=>(((iB.const _).mul (q.1.bd h)).mul (tU h l)).add ((q.1.bp h).mul (sy h l))
theorem aR.lip{R:Rat}(h:0<=R):∀q:aR,wG R q.p
 | .line r=>⟨1,∅,λx y _ _ l=>by show Sm _ (y-r-(x-r));unfold Sm;grind⟩
 | .root n=>⟨2*R+1,⋯,λx y wx wy l=>by
   show Sm _ (y*y-n-(x*x-n));have s:Sm (2*R+1) (x+y):=by unfold Sm;unfold Wi at wx wy;grind
   have:=s.mul (show Sm (y-x) (y-x) by unfold Sm;grind)
   rwa [show y*y-n-(x*x-n)=(x+y)*(y-x) by grind]⟩
 | .none n=>⟨2*R+1,⋯,λx y wx wy l=>by
   show Sm _ (y*y+n-(x*x+n));have s:Sm (2*R+1) (x+y):=by unfold Sm;unfold Wi at wx wy;grind
   have:=s.mul (show Sm (y-x) (y-x) by unfold Sm;grind)
   rwa [show y*y+n-(x*x+n)=(x+y)*(y-x) by grind]⟩
theorem wG.bdd{R:Rat}(h:0<=R) {f:Rat->Rat}(lf:wG R f):iB R f:=by
 obtain⟨L,L0,hL⟩:=lf;obtain⟨a,a0,ha⟩:=iB.const (R:=R) (f 0);have w0:Wi R 0:=by unfold Wi;grind
 have lr:=Xq (Xw L0) h;refine⟨a+L*R,⋯,λx wx=>?_⟩;have h0:=ha x wx;by_cases y:0<=x
 .have:=hL 0 x w0 wx y;have m:=Xq (Xw L0) (show 0<=R-x by unfold Wi at wx;grind)
  unfold Sm at *
  grind
 .have:=hL x 0 wx w0 ⋯;have m:=Xq (Xw L0) (show 0<=R+x by unfold Wi at wx;grind)
  unfold Sm at *
  grind
def Bg(e x:Rat):Prop:=e<=x\/x <= -e
theorem Bg.of{e x:Rat}(h:¬ Sm e x):Bg e x:=by
 unfold Sm at h;unfold Bg;grind
theorem Bg.no{a b x:Rat}(h:Bg a x)(l:b<a):¬ Sm b x:=by
 unfold Bg at h;unfold Sm;grind
theorem Bg.mul{a b x y:Rat}(h:Bg a x)(h2:Bg b y)(a0:0<=a)(b0:0<=b):Bg (a*b) (x*y):=by
 rcases h with h|h<;>rcases h2 with k|k
 .left
  have:=Xq (show 0<=x-a by grind) (show 0<=y by grind)
  have:=Xq a0 (show 0<=y-b by grind)
  grind
 .right
  have:=Xq (show 0<=x-a by grind) (show 0 <= -y by grind)
  have:=Xq a0 (show 0 <= -y-b by grind)
  grind
 .right
  have:=Xq (show 0 <= -x-a by grind) (show 0<=y by grind)
  have:=Xq a0 (show 0<=y-b by grind)
  grind
 .left
  have:=Xq (show 0 <= -x-a by grind) (show 0 <= -y by grind)
  have:=Xq a0 (show 0 <= -y-b by grind)
  grind
theorem Bg.ne{e x:Rat}(h:Bg e x)(e0:0<e):sg x≠0:=λz=>by
 have:=kP.mp z;unfold Bg at h;grind
def iw(e:Rat):Nat->Rat
 | 0=>1
 | k+1=>e*iw e k
theorem fP{e:Rat}(h:0<e):∀k,0<iw e k
 | 0=>by show (0:Rat)<1;decide
 | k+1=>Xv h (fP h k)
theorem tL{e x:Rat}(e0:0<e):∀{l:List (aR×Nat)},(∀q∈l,¬ Sm e (q.1.p x))->Bg (iw e l.length) (di l x)
 | [],_=>.inl (by show (1:Rat)<=1;grind)
 | q::l,h=>(Bg.of (h q Yi)).mul (tL e0 λq' hq=>h q' (Yj _ hq)) (Xw e0) (Xw (fP e0 _))
theorem Dz{α:Type}{P:α->Rat->Prop}(mono:∀a e e',P a e->0<e'->e'<=e->P a e'):∀l:List α,(∀a∈l,∃e:Rat,0<e/\P a e) -> ∃e:Rat,0<e /\ ∀a∈l,P a e
 | [],_=>⟨1,∅,λ_ h=>by cases h⟩
 | a::l,h=>by
  obtain⟨e,e0,he⟩:=h a Yi;obtain⟨f,f0,hf⟩:=Dz mono l λb hb=>h b (Yj _ hb);obtain⟨m,m0,m1,m2,_⟩:=qP e0 f0 f0;refine⟨m,m0,λb hb=>?_⟩;rcases YY.mp hb with rfl|hb
  .exact mono _ _ _ he m0 m1
  .exact mono _ _ _ (hf b hb) m0 m2
theorem apart{R:Rat}(R0:0<=R) {f g a b:Rat->Rat}{c:Rat}(ha:iB R a)(hb:iB R b)(c0:c≠0)(e:∀x,a x*f x+b x*g x=c):gz R f g:=by
 obtain⟨A,A0,hA⟩:=ha;obtain⟨B,B0,hB⟩:=hb;obtain⟨k,k0,hk⟩ : ∃k:Rat,0<k/\(k<=c\/k <= -c):=by
  rcases cC c with ⟨z,_⟩|⟨z,_⟩|⟨z,_⟩
  .exact⟨c,z,.inl ⋯⟩
  .exact⟨-c,⋯,.inr ⋯⟩
  .exact absurd z c0
 have s0:0<A+B:=⋯;have t0:0<k/2/(A+B):=by rw[Xx s0];grind
 refine⟨k/2/(A+B),t0,λx wx sf sg'=>?_⟩;have s1:=((hA x wx).mul sf).add ((hB x wx).mul sg');rw[e] at s1;have:A*(k/2/(A+B))+B*(k/2/(A+B))=k/2:=⋯;rw[this] at s1;unfold Sm at s1;grind
theorem gz.symm{R:Rat}{f g:Rat->Rat}(h:gz R f g):gz R g f:=by
 obtain⟨e,e0,h⟩:=h;exact⟨e,e0,λx w a b=>h x w b a⟩
theorem sO{R n:Rat}{g:Rat->Rat}(n0:0<n):gz R (aR.none n).p g:=⟨n/2,⋯,λx _ s _=>by
 have s:Sm (n/2) (x*x+n):=s;have:0<=x*x:=jm x;unfold Sm at s;grind⟩
theorem rg{R r n:Rat}(R0:0<=R)(hn:∀r:Rat,r*r≠n):gz R (aR.line r).p (aR.root n).p:=by
 refine apart R0 (a:=λx=>-(x+r)) (b:=λ_=>1) (c:=r*r-n) ((((iB.id R0).add (.const r)).mul (.const (-1))).congr λx=>by grind) (.const 1) (λz=>hn r ⋯) λx=>?_
 show -(x+r)*(x-r)+1*(x*x-n)=r*r-n;grind
theorem aR.apart{R:Rat}(R0:0<=R) {q q':aR}(h:q.ok)(h':q'.ok)(n:q≠q'):gz R q.p q'.p:=by
 cases q with
 | none m=>exact sO h
 | line r =>
  cases q' with
  | none m=>exact (sO h').symm
  | line s =>
   refine L2.apart R0 (a:=λ_=>1) (b:=λ_=>-1) (c:=s-r) (.const 1) (.const (-1)) (λz=>n (by rw[show r=s by grind])) λx=>?_
   show 1*(x-r) + -1*(x-s)=s-r;grind
  | root m=>exact rg R0 h'.2
 | root m =>
  cases q' with
  | none m'=>exact (sO h').symm
  | line s=>exact (rg R0 h.2).symm
  | root m' =>
   refine L2.apart R0 (a:=λ_=>1) (b:=λ_=>-1) (c:=m'-m) (.const 1) (.const (-1)) (λz=>n (by rw[show m=m' by grind])) λx=>?_
   show 1*(x*x-m) + -1*(x*x-m')=m'-m;grind
def aR.wd:aR->Rat->Prop
 | .line _,_=>True
 | .root n,e=>e<=1/\e<=n/4
 | .none n,e=>e<=n/4
theorem aR.steep(q:aR)(h:q.ok):∃e:Rat,0<e/\q.wd e /\ ∀x,Sm e (q.p x)->Bg e (q.d x):=by
 cases q with
 | line r=>exact⟨1,∅,trivial,λx _=>.inl (by show (1:Rat)<=1;grind)⟩
 | none n =>
  have n0:0<n:=h;refine⟨n/4,⋯,by show n/4<=n/4;grind,λx s=>?_⟩
  have s:Sm (n/4) (x*x+n):=s;have:=jm x;unfold Sm at s;grind
 | root n =>
  obtain⟨n0,_⟩:=h;obtain⟨m,m0,m1,m2,_⟩:=qP (show (0:Rat)<1 by decide) (show 0<n/4 by grind) (show 0<n/4 by grind)
  refine⟨m,m0,⟨m1,m2⟩,λx s=>?_⟩;have s:Sm m (x*x-n):=s;show Bg m (2*x);refine Bg.of λz=>?_;have:=z.mul z;have k:=Xq (Xw m0) (show 0<=1-m by grind)
  unfold Sm at *
  grind
theorem Gk{a b e:Rat}(h:Bg (2*e) a)(k:Sm e b)(e0:0<e):sg (a+b)=sg a/\Bg e (a+b):=by
 unfold Sm at k;rcases h with h|h
 .exact⟨by rw[dM ⋯,dM ⋯],.inl ⋯⟩
 .exact⟨by rw[gt ⋯,gt ⋯],.inr ⋯⟩
theorem Bg.mono{a b x:Rat}(h:Bg a x)(l:b<=a):Bg b x:=by
 unfold Bg at *
 grind
def J9(R:Rat)(l:List (aR×Nat))(q:aR×Nat)(e:Rat):Prop:=q.1.wd e /\ ∃l',l.Perm (q::l') /\ ∀x,Wi R x->Sm e (q.1.p x)->Bg e (iu l x)/\Bg e (di l' x)/\sg (iu l x)=sg (q.1.d x)*sg (di l' x)/\sg (q.1.d x)≠0 /\ ∀q'∈l',¬ Sm e (q'.1.p x)
theorem J9.mono{R:Rat}{l:List (aR×Nat)}{q:aR×Nat}{e e':Rat}(h:J9 R l q e)(e0:0<e')(le:e'<=e):J9 R l q e':=by
 obtain⟨hw,l',p,h⟩:=h;refine⟨?_,l',p,λx wx s=>?_⟩
 .cases hq:q.1 with
  | line _=>trivial
  | root n=>rw[hq] at hw;exact⟨by have:=hw.1;grind,by have:=hw.2;grind⟩
  | none n =>
   rw[hq] at hw;have hw:e<=n/4:=hw;show e'<=n/4;grind
 .obtain⟨a,b,c,d,f⟩:=h x wx (s.mono le);exact⟨a.mono le,b.mono le,c,d,λq' hq z=>f q' hq (z.mono le)⟩
theorem FQ{R:Rat}(R0:0<=R) {l:List (aR×Nat)}(ok:∀q∈l,q.1.ok/\1<=q.2)(un:l.Pairwise λa b=>a.1≠b.1) {q:aR×Nat}(hq:q∈l):∃e:Rat,0<e/\J9 R l q e:=by
 obtain⟨l',p⟩ : ∃l',l.Perm (q::l'):=by
  obtain⟨s,t,rfl⟩:=List.append_of_mem hq;exact⟨s++t,List.perm_middle⟩
 have un':=(p.pairwise_iff (λh=>Ne.symm h)).mp un;obtain⟨uq,_⟩:=List.pairwise_cons.mp un';have ok':∀q'∈l',q'.1.ok/\1<=q'.2:=λq' h=>ok q' (p.mem_iff.mpr (Yj _ h));obtain⟨η,η0,hη⟩:=Dz (P:=λ(q':aR×Nat) e=>∀x,Wi R x->Sm e (q.1.p x)->Sm e (q'.1.p x)->False) (λa e e' h _ le x w s1 s2=>h x w (s1.mono le) (s2.mono le)) l' λq' h=>by
  obtain⟨e,e0,he⟩:=aR.apart R0 (ok q hq).1 (ok' q' h).1 (uq q' h);exact⟨e,e0,he⟩
 obtain⟨σ,σ0,hw,hσ⟩:=q.1.steep (ok q hq).1;obtain⟨M,M0,hM⟩:=sy R0 l';have π0:=fP η0 l'.length;obtain⟨π,hπ⟩ : ∃π,π=iw η l'.length:=⟨_,rfl⟩;rw[<-hπ] at π0;have sp:=Xv σ0 π0;have sp2:0<σ*π/2/M:=by rw[Xx M0];grind
 obtain⟨t1,t10,t11,t12,t13⟩:=qP η0 σ0 sp2;obtain⟨e,e0,e1,e2,e3⟩:=qP t10 (show 0<σ*π/2 by grind) π0
 refine⟨e,e0,?_,l',p,λx wx s=>?_⟩
 .cases hq':q.1 with
  | line _=>trivial
  | root n=>rw[hq'] at hw;exact⟨by have:=hw.1;grind,by have:=hw.2;grind⟩
  | none n =>
   rw[hq'] at hw;have hw:σ<=n/4:=hw;show e<=n/4;grind
 have b1:Bg σ (q.1.d x):=hσ x (s.mono ⋯);have b2:Bg π (di l' x):=by
  rw[hπ];exact tL η0 λq' h z=>hη q' h x wx (s.mono ⋯) z
 have b3:=b1.mul b2 (Xw σ0) (Xw π0);have m1:(1:Rat)<=((q.2:Nat):Rat):=by
  have:=(ok q hq).2;have z:((1:Nat):Rat)<=((q.2:Nat):Rat):=Rat.natCast_le_natCast.mpr this;exact z
 have b4:Bg (σ*π) (((q.2:Nat):Rat)*q.1.d x*di l' x):=by
  have:=(show Bg 1 ((q.2:Nat):Rat) from .inl m1).mul b3 ∅ (Xw sp)
  rw[Rat.one_mul] at this
  rwa [Rat.mul_assoc]
 have s2:=s.mul (hM x wx);have le:e*M<=σ*π/2:=by
  have k:e<=σ*π/2/M:=⋯;have:=Xq (Xw M0) (show 0<=σ*π/2/M-e by grind)
  have z:M*(σ*π/2/M)=σ*π/2:=⋯;grind
 have e5:iu l x=((q.2:Nat):Rat)*q.1.d x*di l' x+q.1.p x*iu l' x:=BM p x;obtain⟨n1,n2⟩:=Gk (e:=σ*π/2) (b4.mono ⋯) (s2.mono le) ⋯;rw[<-e5] at n1 n2;refine⟨n2.mono e2,b2.mono e3,?_,b1.ne σ0,λq' h z=>hη q' h x wx (s.mono ⋯) (z.mono ⋯)⟩;rw[n1,je,je,dM (show 0<((q.2:Nat):Rat) by grind),Xn]
theorem aR.same{q:aR}{e c d:Rat}(h:q.ok)(hw:q.wd e)(cd:c<=d)(n:d-c<=e)(s:sg (q.p c)=sg (q.p d))(s0:sg (q.p c)≠0):q.A c=q.A d:=by
 cases q with
 | none _=>rfl
 | line r =>
  show (if r<=c then 1 else 0)=(if r<=d then 1 else 0)
  have s:sg (c-r)=sg (d-r):=s;have s0:sg (c-r)≠0:=s0;rcases cC (c-r) with ⟨a,e1⟩|⟨a,e1⟩|⟨a,e1⟩
  .rw[Yb ⋯,Yb ⋯]
  .rw[e1] at s;have:=DE.mp s.symm;rw[Yc ⋯,Yc ⋯]
  .exact absurd e1 s0
 | root m =>
  obtain⟨m0,_⟩:=h;obtain⟨w1,w2⟩:=hw;show (if c*c<m then 1 else if c<0 then 0 else 2)=(if d*d<m then 1 else if d<0 then 0 else 2)
  have s:sg (c*c-m)=sg (d*d-m):=s;have s0:sg (c*c-m)≠0:=s0;rcases cC (c*c-m) with ⟨a,e1⟩|⟨a,e1⟩|⟨a,e1⟩
  .rw[e1] at s;have b:=IJ.mp s.symm;rw[Yc (show ¬ c*c<m by grind),Yc (show ¬ d*d<m by grind)]
   by_cases z:c<0
   .rw[Yb z,Yb];refine Rat.not_le.mp λy=>?_;have k1:=Xq y (show 0<=e-d by grind)
    have k2:=Xq (show 0<=e by grind) (show 0<=1-d by grind)
    grind
   .rw[Yc z,Yc (show ¬ d<0 by grind)]
  .rw[e1] at s;have b:=DE.mp s.symm;rw[Yb (show c*c<m by grind),Yb (show d*d<m by grind)]
  .exact absurd e1 s0
theorem aR.passed{q:aR}{e c d:Rat}(h:q.ok)(hw:q.wd e)(e0:0<e)(cd:c<=d)(n:d-c<=e)(sc:Sm e (q.p c))(sd:Sm e (q.p d)):(if sg (q.p c)*sg (q.d c) = -1 then 1 else 0)+q.A c=(if sg (q.p d)*sg (q.d d) = -1 then 1 else 0)+q.A d:=by
 cases q with
 | none m =>
  have hw:e<=m/4:=hw;have h:0<m:=h;have sc:Sm e (c*c+m):=sc;have:=jm c;unfold Sm at sc;grind
 | line r =>
  have key:∀x:Rat,(if sg (x-r)*sg (1:Rat) = -1 then 1 else 0)+(if r<=x then 1 else 0)=(1:Nat):=λx=>by
   rw[dM (show (0:Rat)<1 by decide),Yp]
   rcases cC (x-r) with ⟨a,e1⟩|⟨a,e1⟩|⟨a,e1⟩
   .rw[e1,Yc ∅,Yb ⋯]
   .rw[e1,Yb rfl,Yc ⋯]
   .rw[e1,Yc ∅,Yb ⋯]
  exact (key c).trans (key d).symm
 | root m =>
  obtain⟨m0,nm⟩:=h;obtain⟨w1,w2⟩:=hw;have sc:Sm e (c*c-m):=sc;have sd:Sm e (d*d-m):=sd;have key:∀x:Rat,(x<0->(if sg (x*x-m)*sg (2*x) = -1 then 1 else 0)+(if x*x<m then 1 else if x<0 then 0 else 2)=(1:Nat))/\(0<x->(if sg (x*x-m)*sg (2*x) = -1 then 1 else 0)+(if x*x<m then 1 else if x<0 then 0 else 2)=(2:Nat)):=λx=>by
   refine⟨λy=>?_,λy=>?_⟩
   .rw[gt (show 2*x<0 by grind)]
    rcases cC (x*x-m) with ⟨a,e1⟩|⟨a,e1⟩|⟨a,e1⟩
    .rw[e1,Yb ∅,Yc ⋯,Yb y]
    .rw[e1,Yc ∅,Yb ⋯]
    .exact absurd (show x*x=m by grind) (nm x)
   .rw[dM (show 0<2*x by grind)]
    rcases cC (x*x-m) with ⟨a,e1⟩|⟨a,e1⟩|⟨a,e1⟩
    .rw[e1,Yc ∅,Yc ⋯,Yc ⋯]
    .rw[e1,Yb ∅,Yb ⋯]
    .exact absurd (show x*x=m by grind) (nm x)
  have c0:c≠0:=λz=>by
   rw[z] at sc;unfold Sm at sc;grind
  have d0:d≠0:=λz=>by
   rw[z] at sd;unfold Sm at sd;grind
  show (if sg (c*c-m)*sg (2*c) = -1 then 1 else 0)+(if c*c<m then 1 else if c<0 then 0 else 2)=(if sg (d*d-m)*sg (2*d) = -1 then 1 else 0)+(if d*d<m then 1 else if d<0 then 0 else 2)
  by_cases z:c<0
  .have dn:d<0:=Rat.not_le.mp λy=>by
    have k1:=Xq y (show 0<=e-d by grind)
    have k2:=Xq (show 0<=e by grind) (show 0<=1-d by grind)
    unfold Sm at sd;grind
   rw[(key c).1 z,(key d).1 dn]
  .rw[(key c).2 ⋯,(key d).2 ⋯]
theorem qf{e c d:Rat}(cd:c<=d)(n:d-c<=e):∀{l:List (aR×Nat)},(∀q∈l,q.1.ok/\q.1.wd e/\sg (q.1.p c)=sg (q.1.p d)/\sg (q.1.p c)≠0)->gD l c=gD l d
 | [],_=>rfl
 | q::l,h=>by
  obtain⟨a,b,s,s0⟩:=h q Yi;show q.1.A c+gD l c=q.1.A d+gD l d;rw[aR.same a b cd n s s0,qf cd n λq' h'=>h q' (Yj _ h')]
theorem oS{u v e:Rat}(h:Sm e (v-u))(n:¬ Sm e u):sg u=sg v/\sg u≠0:=Xy λz=>n (pG h z).1
theorem yf{R:Rat}(R0:0<=R) {l:List (aR×Nat)}{f g:Rat->Rat}{κ:Rat}(ok:∀q∈l,q.1.ok/\1<=q.2)(un:l.Pairwise λa b=>a.1≠b.1)(lf:wG R f)(lg:wG R g)(nb:gz R f g)(k0:0<κ)(id:∀x,κ*(g x*di l x)=f x*iu l x):Ge R f g (gD l):=by
 obtain⟨θ,θ0,hθ⟩:=Dz (P:=J9 R l) (λq e e' h h0 le=>h.mono h0 le) l λq hq=>FQ R0 ok un hq;obtain⟨ε,ε0,hε⟩:=nb;obtain⟨G,G0,hG⟩:=lg.bdd R0;obtain⟨P,P0,hP⟩:=sy R0 l;obtain⟨τ,τ0,τθ,hτ⟩ : ∃τ:Rat,0<τ/\τ<=θ /\ ∀q∈l,∀x,Wi R x->Sm τ (q.1.p x)->Sm ε (f x):=by
  obtain⟨τ,τ0,h⟩:=Dz (P:=λ(q:aR×Nat) t=>t<=θ /\ ∀x,Wi R x->Sm t (q.1.p x)->Sm ε (f x)) (λq e e' h _ le=>⟨⋯,λx w s=>h.2 x w (s.mono le)⟩) l λq hq=>by
   obtain⟨_,l',p,hx⟩:=hθ q hq;obtain⟨H,H0,hH⟩:=tU R0 l';have z0:=Xv k0 (Xv G0 H0);have z1:0<θ*ε/2/(κ*(G*H)):=by rw[Xx z0];have:=Xv θ0 ε0;grind
   obtain⟨t,t0,t1,t2,_⟩:=qP θ0 z1 z1;refine⟨t,t0,t1,λx w s=>?_⟩;obtain⟨b1,_⟩:=hx x w (s.mono t1);refine Xy λnf=>?_;have nf:=Bg.of nf;have e1:=id x;rw[qg p x] at e1;have e1:κ*(g x*(q.1.p x*di l' x))=f x*iu l x:=e1;have m1:=((hG x w).mul (s.mul (hH x w)));have m2:=(show Sm κ κ by unfold Sm;grind).mul m1
   rw[e1] at m2;have b2:=nf.mul b1 (Xw ε0) (Xw θ0);have m3:κ*(G*(t*H))<=θ*ε/2:=by
    have:=Xq (Xw z0) (show 0<=θ*ε/2/(κ*(G*H))-t by grind)
    have z:κ*(G*H)*(θ*ε/2/(κ*(G*H)))=θ*ε/2:=⋯;grind
   refine b2.no ?_ (m2.mono m3);have:=Xv θ0 ε0;grind
  cases l with
  | nil=>exact⟨θ,θ0,⋯,λq hq=>by cases hq⟩
  | cons q0 l0=>exact⟨τ,τ0,(h q0 Yi).1,λq hq=>(h q hq).2⟩
 obtain⟨φ,φ0,hφ⟩ : ∃φ:Rat,0<φ /\ ∀x,Wi R x->(∀q∈l,¬ Sm (τ/2) (q.1.p x)) -> ¬ Sm φ (f x):=by
  have h2:0<τ/2:=⋯;have π0:=fP h2 l.length;have z0:=Xv k0 (Xv ε0 π0);have z1:0<κ*(ε*iw (τ/2) l.length)/2/P:=by rw[Xx P0];grind
  obtain⟨φ,φ0,f1,f2,_⟩:=qP ε0 z1 z1;refine⟨φ,φ0,λx w h s=>?_⟩;have bg:=Bg.of λz=>hε x w (s.mono f1) z;have b1:=(show Bg κ κ from .inl ⋯).mul (bg.mul (tL h2 h) (Xw ε0) (Xw π0)) (Xw k0) (Xw (Xv ε0 π0))
  have m1:=s.mul (hP x w);rw[<-id] at m1;refine b1.no ?_ m1;have:=Xq (Xw P0) (show 0<=κ*(ε*iw (τ/2) l.length)/2/P-φ by grind)
  have z:P*(κ*(ε*iw (τ/2) l.length)/2/P)=κ*(ε*iw (τ/2) l.length)/2:=⋯;grind
 obtain⟨δ1,p1,h1⟩:=lf.near φ0;obtain⟨δ2,p2,h2⟩:=lg.near ε0;obtain⟨δ3,p3,h3⟩:=Dz (P:=λ(q:aR×Nat) t=>∀c d,Wi R c->Wi R d->c<=d->d-c<=t->Sm (τ/2) (q.1.p d-q.1.p c)) (λq e e' h _ le c d wc wd cd n=>h c d wc wd cd ⋯) l λq _=>(q.1.lip R0).near ⋯;obtain⟨δ4,p4,a1,a2,a3⟩:=qP p1 p2 p3;obtain⟨δ,p,b1,b2,_⟩:=qP p4 θ0 θ0;refine⟨δ,p,λc d wc wd cd n=>?_⟩;have hp:∀q∈l,Sm (τ/2) (q.1.p d-q.1.p c):=λq hq=>h3 q hq c d wc wd cd ⋯;by_cases ex:∃q∈l,Sm (τ/2) (q.1.p c)
 .obtain⟨q,hq,s⟩:=ex;right
  have sc:Sm τ (q.1.p c):=s.mono ⋯;have sd:Sm τ (q.1.p d):=by
   have:=hp q hq;unfold Sm at *
   grind
  have ng:=oS (h2 c d wc wd cd ⋯) λz=>hε c wc (hτ q hq c wc sc) z;refine⟨ng.1,ng.2,?_⟩;obtain⟨hw,l',pm,hx⟩:=hθ q hq;have v:∀x,Wi R x->Sm τ (q.1.p x)->v1 f g x=if sg (q.1.p x)*sg (q.1.d x) = -1 then 1 else 0:=λx wx sx=>by
   obtain⟨_,q2,q3,q4,_⟩:=hx x wx (sx.mono τθ);have q5:=q2.ne θ0;have q6:sg (g x)≠0:=λz=>hε x wx (hτ q hq x wx sx) (by rw[kP.mp z];unfold Sm;grind)
   have e1:=Yn sg (id x);rw[qg pm x,je,dM k0,Xn,je,je,q3] at e1;have e1:sg (g x)*sg (q.1.p x*di l' x)=sg (f x)*(sg (q.1.d x)*sg (di l' x)):=e1;rw[je] at e1;have e2:sg (f x)*sg (g x)=sg (q.1.p x)*sg (q.1.d x):=by
    rcases gF (di l' x) with z1|z1|z1<;>rcases gF (g x) with z2|z2|z2<;>rcases gF (q.1.d x) with z3|z3|z3<;>rw[z1,z2,z3] at e1<;>rw[z2,z3]<;>nofun
   unfold v1;rw[e2]
  rw[v c wc sc,v d wd sd,vD pm c,vD pm d];show _+(q.1.A c+gD l' c)=_+(q.1.A d+gD l' d);have ps:=aR.passed (ok q hq).1 hw θ0 cd ⋯ (sc.mono τθ) (sd.mono τθ);have pa:gD l' c=gD l' d:=qf cd (show d-c<=θ by grind) λq' h'=>by
   have hq':q'∈l:=pm.mem_iff.mpr (Yj _ h');obtain⟨_,_,_,_,nq⟩:=hx c wc (sc.mono τθ);obtain⟨y1,y2⟩:=oS ((hp q' hq').mono (show τ/2<=θ by grind)) (nq q' h')
   exact⟨(ok q' hq').1,(hθ q' hq').1,y1,y2⟩
  nofun
 .left
  have al:∀q∈l,¬ Sm (τ/2) (q.1.p c):=λq hq s=>ex ⟨q,hq,s⟩;have nf:=oS (h1 c d wc wd cd ⋯) (hφ c wc al);refine⟨nf.1,nf.2,qf cd (show d-c<=θ by grind) λq hq=>?_⟩
  obtain⟨y1,y2⟩:=oS (hp q hq) (al q hq);exact⟨(ok q hq).1,(hθ q hq).1,y1,y2⟩
theorem Ch.roots{R:Rat}(R0:0<=R) {l:List (aR×Nat)}{f g:Rat->Rat}{fs:List (Rat->Rat)}{κ:Rat}(h:Ch R f (g::fs))(ok:∀q∈l,q.1.ok/\1<=q.2)(un:l.Pairwise λa b=>a.1≠b.1)(lg:wG R g)(k0:0<κ)(id:∀x,κ*(g x*di l x)=f x*iu l x) {a b:Rat}(wa:Wi R a)(wb:Wi R b)(ab:a<=b):Vr a (f::g::fs)+gD l a=Vr b (f::g::fs)+gD l b :=
 h.counts (yf R0 ok un h.lip lg (h.notBoth g fs rfl) k0 id) wa wb ab
def Py(f:Rat->Rat):Prop:=∃l:List Rat,∀x,f x=eU l x
theorem Py.congr{f g:Rat->Rat}(h:Py f)(e:∀x,g x=f x):Py g:=by
 obtain⟨l,h⟩:=h;exact⟨l,λx=>(e x).trans (h x)⟩
theorem Py.isP{f:Rat->Rat}(h:Py f):∃n,oo n f:=by
 obtain⟨l,h⟩:=h;exact⟨l.length,l,Yq _,h⟩
theorem oo.py{n:Nat}{f:Rat->Rat}(h:oo n f):Py f:=by
 obtain⟨l,_,h⟩:=h;exact⟨l,h⟩
theorem Py.const(c:Rat):Py λ_=>c:=⟨[c],λx=>by show c=c+x*0;grind⟩
theorem Py.id:Py λx=>x:=⟨[0,1],λx=>by show x=0+x*(1+x*0);grind⟩
theorem Py.add{f g:Rat->Rat}(h:Py f)(k:Py g):Py λx=>f x+g x:=by
 obtain⟨m,hm⟩:=h.isP;obtain⟨n,hn⟩:=k.isP;exact ((hm.mono (Nat.le_max_left m n)).add (hn.mono (Nat.le_max_right m n))).py
theorem Py.shift{f:Rat->Rat}(h:Py f):Py λx=>x*f x:=by
 obtain⟨l,h⟩:=h;exact⟨0::l,λx=>by show x*f x=0+x*eU l x;rw[h];grind⟩
theorem Py.sc{f:Rat->Rat}(h:Py f)(c:Rat):Py λx=>c*f x:=by
 obtain⟨n,hn⟩:=h.isP;exact (hn.sc c).py.congr λx=>by grind
theorem Py.mul{f g:Rat->Rat}(h:Py f)(k:Py g):Py λx=>f x*g x:=by
 obtain⟨l,h⟩:=h;have:∀l:List Rat,Py λx=>eU l x*g x:=by
  intro l;induction l with
  | nil=>exact (Py.const 0).congr λx=>by show 0*g x=0;grind
  | cons a l ih=>exact ((k.sc a).add ih.shift).congr λx=>by show (a+x*eU l x)*g x=a*g x+x*(eU l x*g x);grind
 exact (this l).congr λx=>by rw[h]
theorem Py.sub{f g:Rat->Rat}(h:Py f)(k:Py g):Py λx=>f x-g x:=(h.add (k.sc (-1))).congr λx=>by grind
theorem GK{n:Nat}{u:Nat->Rat}(h:Bd n u)(l:n<=20):Py (EV u):=(oo.of h l).py
theorem sr{R:Rat}(R0:0<=R):∀l:List Rat,iB R (eU l)
 | []=>.const 0
 | a::l=>(iB.const a).add ((iB.id R0).mul (sr R0 l))
theorem yJ{R:Rat}(R0:0<=R):∀l:List Rat,wG R (eU l)
 | []=>⟨1,∅,λx y _ _ h=>by show Sm _ (0-0);unfold Sm;grind⟩
 | a::l=>by
  obtain⟨L,L0,hL⟩:=yJ R0 l;obtain⟨B,B0,hB⟩:=sr R0 l;have rl:=Xq R0 (Xw L0);refine⟨R*L+B,⋯,λx y wx wy h=>?_⟩;show Sm _ (a+y*eU l y-(a+x*eU l x));have s1:=(show Sm R y from wy).mul (hL x y wx wy h)
  have s2:=(show Sm (y-x) (y-x) by unfold Sm;grind).mul (hB x wx)
  have:=s1.add s2;rw[show a+y*eU l y-(a+x*eU l x)=y*(eU l y-eU l x)+(y-x)*eU l x by grind]
  exact this.mono ⋯
theorem Py.bdd{R:Rat}(R0:0<=R) {f:Rat->Rat}(h:Py f):iB R f:=by
 obtain⟨l,h⟩:=h;exact (sr R0 l).congr h
theorem Py.lip{R:Rat}(R0:0<=R) {f:Rat->Rat}(h:Py f):wG R f:=by
 obtain⟨l,h⟩:=h;obtain⟨L,L0,hL⟩:=yJ R0 l;exact⟨L,L0,λx y wx wy k=>by rw[h,h];exact hL x y wx wy k⟩
theorem Py.zero{f g:Rat->Rat}(hf:Py f)(hg:Py g)(e:∀x,f x*g x=0)(n:∃x,g x≠0):∀x,f x=0:=by
 obtain⟨m,pm⟩:=hf.isP;obtain⟨k,pk⟩:=hg.isP;obtain⟨S,hS⟩ : ∃S,S=xo (m+k):=⟨_,rfl⟩;have nd:S.Nodup:=hS▸sK _;have ln:S.length=m+k:=hS▸qe _;have sp:(S.filter λx=>decide (f x=0)).length+(S.filter λx=>!decide (f x=0)).length=S.length:=by
  clear nd ln hS;induction S with
  | nil=>rfl
  | cons a S ih =>
   by_cases z:f a=0
   .rw[Xz (by simpa using z),XA (by simpa using z),Y5,Y5]
    nofun
   .rw[XA (by simpa using z),Xz (by simpa using z),Y5,Y5]
    nofun
 by_cases a:m<=(S.filter λx=>decide (f x=0)).length
 .exact pm.zero (nd.sublist List.filter_sublist) a λs hs=>XB (List.mem_filter.mp hs).2
 .obtain⟨x0,hx0⟩:=n;refine absurd (pk.zero (nd.sublist (List.filter_sublist (p:=λx=>!decide (f x=0)))) () (λs hs=>?_) x0) hx0;have z:=(List.mem_filter.mp hs).2;rcases Rat.mul_eq_zero.mp (e s) with y|y
  .rw[y] at z;simp at z
  .exact y
def KF(q:Int):Prop:=2<=q /\ ∀a b:Int,q∣a*b->q∣a\/q∣b
theorem IC:∀n:Nat,2<=n -> ∃q:Int,KF q/\q∣(n:Int):=by
 intro n;induction n using Nat.strongRecOn with
 | ind n ih =>
  intro h2;by_cases ex:∃d,2<=d/\d<n/\d∣n
  .obtain⟨d,d2,dn,dd⟩:=ex;obtain⟨q,pq,qd⟩:=ih d dn d2;exact⟨q,pq,XC qd (Int.natCast_dvd_natCast.mpr dd)⟩
  .refine⟨n,⟨(),λa b h=>?_⟩,Int.dvd_refl _⟩;have h':n∣a.natAbs*b.natAbs:=by
    have:=Int.natAbs_dvd_natAbs.mpr h
    rwa [YU,XD] at this
   have g1:=Nat.gcd_dvd_left n a.natAbs;have g2:=Nat.gcd_dvd_right n a.natAbs;by_cases z:Nat.gcd n a.natAbs=1
   .right
    have:=Y7 (show Nat.Coprime n a.natAbs from z) h'
    exact Int.natAbs_dvd_natAbs.mp (by rwa [XD])
   .left
    have gp:0<Nat.gcd n a.natAbs:=Nat.gcd_pos_of_pos_left _ ();have le:=XE () g1;have:Nat.gcd n a.natAbs=n:=Xy λy=>ex ⟨_,(),(),g1⟩;rw[this] at g2;exact Int.natAbs_dvd_natAbs.mp (by rwa [XD])
theorem CS{c p:Nat->Int}{q:Int}{i j:Nat}(hc:∀a,a<i->q∣c a)(hp:∀b,b<j->q∣p b):∀n,q∣pz c p n (i+j)-(if i<n then c i*p j else 0)
 | 0=>by show q∣0-(if i<0 then c i*p j else 0);rw[Yc ()];exact⟨0,()⟩
 | n+1=>by
  have ih:=CS hc hp n;show q∣pz c p n (i+j)+(if n<=i+j then c n*p (i+j-n) else 0)-(if i<n+1 then c i*p j else 0)
  rcases Nat.lt_trichotomy n i with z|z|z
  .rw[Yc (show ¬ i<n by nofun)] at ih
   rw[Yb (),Yc ()];have d:=Int.dvd_mul_of_dvd_left (c:=p (i+j-n)) (hc n z);have:=Int.dvd_add ih d;rw[show pz c p n (i+j)+c n*p (i+j-n)-0=pz c p n (i+j)-0+c n*p (i+j-n) by nofun]
   exact this
  .subst z;rw[Yc (show ¬ n<n by nofun)] at ih
   rw[Yb (),Yb (),show n+j-n=j by nofun]
   rw[show pz c p n (n+j)+c n*p j-c n*p j=pz c p n (n+j)-0 by nofun]
   exact ih
  .rw[Yb (show i<n by nofun)] at ih
   rw[Yb (show i<n+1 by nofun)]
   by_cases y:n<=i+j
   .rw[Yb y];have d:q∣c n*p (i+j-n):=Int.dvd_mul_of_dvd_right (hp (i+j-n) ());have:=Int.dvd_add ih d;rw[show pz c p n (i+j)+c n*p (i+j-n)-c i*p j=pz c p n (i+j)-c i*p j+c n*p (i+j-n) by nofun]
    exact this
   .rw[Yc y];rw[show pz c p n (i+j)+0-c i*p j=pz c p n (i+j)-c i*p j by nofun]
    exact ih
theorem rG{q:Int}{c:Nat->Int}(h:¬ ∀k,q∣c k):∃i,¬ q∣c i /\ ∀a,a<i->q∣c a:=by
 obtain⟨m,hm⟩ : ∃m,¬ q∣c m:=Classical.not_forall.mp h;induction m using Nat.strongRecOn with
 | ind m ih =>
  by_cases ex:∃a,a<m /\ ¬ q∣c a
  .obtain⟨a,am,ha⟩:=ex;exact ih a am ha
  .exact⟨m,hm,λa ha=>Xy λz=>ex ⟨a,ha,z⟩⟩
theorem Ix{q:Int}(hq:KF q) {c p:Nat->Int}{n:Nat}(bc:∀i,n<=i->c i=0)(h:∀k,q∣pz c p n k)(np:¬ ∀k,q∣p k):∀k,q∣c k:=Xy λnc=>by
 obtain⟨i,hi,mi⟩:=rG nc;obtain⟨j,hj,mj⟩:=rG np;have d:=CS mi mj n;have il:i<n:=Nat.lt_of_not_le λz=>hi (by rw[bc i z];exact⟨0,()⟩)
 rw[Yb il] at d;have:=Int.dvd_sub (h (i+j)) d;rw[show pz c p n (i+j)-(pz c p n (i+j)-c i*p j)=c i*p j by nofun] at this
 rcases hq.2 _ _ this with z|z
 .exact hi z
 .exact hj z
def jN(p:Nat->Int):Prop:=∀q:Int,(∀k,q∣p k)->q.natAbs=1
theorem KY{p:Nat->Int}(hp:jN p) {n:Nat}:∀(m:Nat)(S:Int)(c:Nat->Int),S.natAbs=m->S≠0->(∀i,n<=i->c i=0)->(∀k,S∣pz c p n k) -> ∀k,S∣c k:=by
 intro m;induction m using Nat.strongRecOn with
 | ind m ih =>
  intro S c e s0 bc h k;by_cases m1:m=1
  .have:S=1\/S = -1:=();rcases this with rfl|rfl
   .exact Int.one_dvd _
   .exact Int.neg_dvd.mpr (Int.one_dvd _)
  .obtain⟨q,pq,qd⟩:=IC m ();have qS:q∣S:=by
    rw[<-e] at qd;exact Int.dvd_natAbs.mp qd
   have qc:=Ix pq bc (λk=>XC qS (h k)) λz=>by
    have:=hp q z;have:=pq.1;nofun
   obtain⟨S',hS⟩:=qS;obtain⟨c',hc⟩ : ∃c':Nat->Int,∀k,c k=q*c' k:=⟨λk=>(qc k).choose,λk=>(qc k).choose_spec⟩;have q0:q≠0:=by have:=pq.1;nofun
   have s1:S'≠0:=λz=>s0 (by rw[hS,z,Xh])
   have lt:S'.natAbs<m:=by
    rw[<-e,hS,YU];have:2<=q.natAbs:=by have:=pq.1;nofun
    have:=XF S'.natAbs this;nofun
   have r:=ih _ lt S' c' rfl s1 (λi hi=>by
    have:=hc i;rw[bc i hi] at this;rcases Int.mul_eq_zero.mp this.symm with z|z
    .exact absurd z q0
    .exact z) (λk=>by
    have:=h k;rw[show c=λk=>q*c' k from funext hc,t5,hS] at this
    exact Int.dvd_of_mul_dvd_mul_left q0 this) k
   rw[hS,hc k];exact Int.mul_dvd_mul_left q r
def aQ(F:List Int)(x:Rat):Rat:=EV (fR F) x
theorem dD{F:List Int}(h:F.length<=20):Py (aQ F):=GK (cH F) h
theorem sN(x:Rat):aQ [] x=0:=ot (λi=>by show ((nz [] i:Int):Rat)=0;rw[aL (by simp)];rfl) x
theorem sD(c:Int)(x:Rat):aQ [c] x=(c:Rat):=by
 unfold aQ;rw[gJ (n:=1) (cH [c]) ∅];show 0+fR [c] 0*1=_;show 0+((nz [c] 0:Int):Rat)*1=_;rw[show nz [c] 0=c from rfl]
 grind
theorem oJ{F G:List Int}(lF:F.length<=20)(lG:G.length<=20)(h:∀x,aQ F x=aQ G x)(k:Nat):nz F k=nz G k:=by
 have:=kL ((cH F).mono lF) ((cH G).mono lG) h k;exact Rat.intCast_inj.mp this
theorem gN{F G:List Int}{c:Int}(h:∀k,nz F k=c*nz G k)(x:Rat):aQ F x=(c:Rat)*aQ G x:=by
 have e:∀k,fR F k=(λk=>0+(c:Rat)*fR G k) k:=λk=>by
  show ((nz F k:Int):Rat)=0+(c:Rat)*((nz G k:Int):Rat);rw[h k,Xb];grind
 unfold aQ;rw[cD e x,mv,ot (f:=λ_=>0) λ_=>rfl];grind
theorem nC{F Q G:List Int}(l:Q.length+G.length<=20)(e:∀k,nz F k=pz (nz Q) (nz G) Q.length k)(x:Rat):aQ F x=aQ Q x*aQ G x:=by
 have:=m5 (F:=F) (R:=[]) (S:=1) (T:=0) l (λk=>by rw[e k];nofun) x
 unfold aQ;have c1:((1:Int):Rat)=1:=rfl;have c0:((0:Int):Rat)=0:=rfl;rw[c1,c0] at this;grind
theorem Bh{F Q G:List Int}(l:Q.length+G.length<=20)(lF:F.length<=20)(e:∀x,aQ F x=aQ Q x*aQ G x)(k:Nat):nz F k=pz (nz Q) (nz G) Q.length k:=by
 have lz1:(lz 20 (λk=>pz (nz Q) (nz G) Q.length k)).length<=20:=by rw[fi];nofun
 have e1:∀k,nz (lz 20 (λk=>pz (nz Q) (nz G) Q.length k)) k=pz (nz Q) (nz G) Q.length k:=λk=>by
  by_cases z:k<20
  .exact Cy z
  .rw[aL (by rw[fi];nofun)]
   refine (Rat.intCast_inj.mp ?_);rw[iM];exact (gy (cH G) Q.length k ()).symm
 have:=oJ lF lz1 (λx=>by rw[e x,nC l e1]) k
 rw[this,e1]
def u9(P F:List Int):Prop:=∃A:List Int,A.length<=F.length/\A.length+P.length<=20 /\ ∀x,aQ F x=aQ A x*aQ P x
theorem rC{P F C:List Int}{S:Int}(hp:jN (nz P))(s0:S≠0)(lC:C.length<=F.length)(lF:F.length<=11)(lP:C.length+P.length<=20)(e:∀x,(S:Rat)*aQ F x=aQ C x*aQ P x):u9 P F:=by
 have c0:=aq s0;have k1:∀k,S*nz F k=pz (nz C) (nz P) C.length k:=λk=>by
  have:=Bh (F:=F.map λy=>S*y) (Q:=C) (G:=P) () (by rw[YD];nofun) (λx=>by rw[gN (G:=F) (c:=S) (λk=>dX k),e]) k
  rw[dX] at this;exact this
 have d:=KY hp _ S (nz C) rfl s0 (n:=C.length) (λi hi=>aL hi) λk=>⟨nz F k,(k1 k).symm⟩;obtain⟨A,lA,hA⟩ : ∃A:List Int,A.length=C.length /\ ∀k,nz C k=S*nz A k:=by
  refine⟨C.map (· / S),by simp,λk=>?_⟩
  by_cases z:k<C.length
  .have e1:(C.map (· / S))[k]? = some (C[k]/S):=by rw[YA,YK z];rfl
   rw[aX e1];have:=d k;rw[aX (YK z)] at this ⊢;exact (Int.mul_ediv_cancel' this).symm
  .rw[aL (),aL (by simp;nofun),Xh]
 refine⟨A,(),(),λx=>?_⟩;have:=e x;rw[gN hA] at this;have:(S:Rat)*(aQ F x-aQ A x*aQ P x)=0:=⋯;rcases Rat.mul_eq_zero.mp this with z|z
 .exact absurd z c0
 .grind
theorem pH.short{F G:List Int}{rows:List (List Int×List Int×Int×Int)}(h:pH F G rows):(fM G rows).length<=G.length /\ ∀row∈rows,(fM G rows).length<=row.1.length:=by
 induction h with
 | nought=>exact⟨Yq _,by simp⟩
 | last=>exact⟨Yq _,by simp⟩
 | @more F G R Q T S rows g0 gl s0 t0 r0 rl lr lq e hr ih =>
  have i1:(fM R rows).length<=R.length:=ih.1;refine⟨by show (fM R rows).length<=G.length;nofun,λrow iN=>?_⟩
  rcases YY.mp iN with rfl|z
  .exact i1
  .exact ih.2 row z
theorem pH.div{F G:List Int}{rows:List (List Int×List Int×Int×Int)}(h:pH F G rows):∀{P:List Int}{g:Int},jN (nz P)->P.length<=(fM G rows).length->G≠[]->F.length<=11->G.length<=F.length->G.length<=10->(∀k,nz (fM G rows) k=g*nz P k)->u9 P F/\u9 P G /\ ∀row∈rows,u9 P row.1:=by
 induction h with
 | nought=>intro P g _ _ z;exact absurd rfl z
 | @last F G Q S g0 gl s0 lq e =>
  intro P g hp lP _ lF lG l10 hl;have lP:P.length<=G.length:=lP;have hl:∀k,nz G k=g*nz P k:=hl;have gp:=List.length_pos_iff.mpr g0;have dG:u9 P G:=⟨[g],by simp;nofun,by simp;nofun,λx=>by rw[sD,gN hl]⟩
  refine⟨rC (C:=Q.map λy=>g*y) hp s0 (by rw[YD];nofun) lF (by rw[YD];nofun) λx=>?_,dG,by simp⟩
  rw[gN (G:=Q) (c:=g) λk=>dX k];have:=m5 (F:=F) (R:=[]) (S:=S) (T:=0) (show Q.length+G.length<=20 by nofun) (λk=>by rw[e k];nofun) x
  have c0:((0:Int):Rat)=0:=rfl;rw[c0] at this;show (S:Rat)*EV (fR F) x=_;rw[this];have z:EV (fR G) x=(g:Rat)*aQ P x:=gN hl x;rw[z];show EV (fR Q) x*_+_=(g:Rat)*EV (fR Q) x*_;grind
 | @more F G R Q T S rows g0 gl s0 t0 r0 rl lr lq e hr ih =>
  intro P g hp lP _ lF lG l10 hl;have lP:P.length<=(fM R rows).length:=lP;have sh:=hr.short.1;obtain⟨dG,dR,drs⟩:=ih hp lP r0 () () () hl;obtain⟨A,lA,lA2,eA⟩:=id dG;obtain⟨B,lB,lB2,eB⟩:=id dR;have gp:=List.length_pos_iff.mpr g0;have hC:∀k,nz (lz F.length λk=>pz (nz Q) (nz A) Q.length k+T*nz B k) k=pz (nz Q) (nz A) Q.length k+T*nz B k:=λk=>by
   by_cases z:k<F.length
   .exact Cy z
   .rw[aL (by rw[fi];nofun),aL (ns:=B) ()]
    have:pz (nz Q) (nz A) Q.length k=0:=by
     refine (Rat.intCast_inj.mp ?_);rw[iM];exact gy (cH A) Q.length k ()
    rw[this];nofun
  have eC:∀x,aQ (lz F.length λk=>pz (nz Q) (nz A) Q.length k+T*nz B k) x=aQ Q x*aQ A x+(T:Rat)*aQ B x:=λx=>by
   have:=m5 (F:=lz F.length λk=>pz (nz Q) (nz A) Q.length k+T*nz B k) (Q:=Q) (G:=A) (R:=B) (S:=1) (T:=T) () (λk=>by rw[hC k];nofun) x
   have c1:((1:Int):Rat)=1:=rfl;rw[c1,Rat.one_mul] at this;exact this
  refine⟨rC (C:=lz F.length λk=>pz (nz Q) (nz A) Q.length k+T*nz B k) hp s0 (by rw[fi];nofun) lF (by rw[fi];nofun) λx=>?_,dG,λrow iN=>?_⟩
  .have:=m5 (show Q.length+G.length<=20 by nofun) e x
   rw[eC];show (S:Rat)*EV (fR F) x=_;rw[this];have z1:=eA x;have z2:=eB x;unfold aQ at *
   grind
  .rcases YY.mp iN with rfl|z
   .exact dR
   .exact drs row z
def Co(l:Rat->Rat)(a b:Int):List (List Int×List Int×Int×Int)->List (List Int)->Prop
 | [],hs=>hs=[]
 | row::rows,[]=>False
 | row::rows,h::hs=>h.length<=11/\(∀x,((-a*row.2.2.1.sign*row.2.2.2.sign:Int):Rat)*aQ row.1 x=aQ h x*l x)/\Co l b (-a*row.2.2.1.sign*row.2.2.2.sign) rows hs
theorem fQ{n:Int}(h:n≠0):n.sign=1/\0<n\/n.sign = -1/\n<0:=by
 rcases Int.lt_trichotomy n 0 with z|z|z
 .exact .inr ⟨Int.sign_eq_neg_one_of_neg z,z⟩
 .exact absurd z h
 .exact .inl ⟨Int.sign_eq_one_of_pos z,z⟩
theorem pH.ch{R:Rat}(R0:0<=R) {l:Rat->Rat}(pl:Py l)(l0:∃x,l x≠0) {F G:List Int}{rows:List (List Int×List Int×Int×Int)}(h:pH F G rows):∀{a b g:Int}{hF hG:List Int}{hs:List (List Int)},(a=1\/a = -1)->(b=1\/b = -1)->g≠0->G≠[]->F.length<=11->G.length<=F.length->hF.length<=11->hG.length<=11->(∀x,(a:Rat)*aQ F x=aQ hF x*l x)->(∀x,(b:Rat)*aQ G x=aQ hG x*l x)->Co l a b rows hs->(∀x,aQ (fM G rows) x=(g:Rat)*l x)->Ch R (aQ hF) (aQ hG::hs.map aQ):=by
 have can:∀{f:Rat->Rat},Py f->(∀x,f x*l x=0) -> ∀x,f x=0:=λhf e=>Py.zero hf pl e l0;induction h with
 | nought=>intro a b g hF hG hs _ _ _ z;exact absurd rfl z
 | @last F G Q S g0 gl s0 lq e =>
  intro a b g hF hG hs ha hb hg _ lF lG l1 l2 eF eG hh hl;have hh:hs=[]:=hh;subst hh;have hl:∀x,aQ G x=(g:Rat)*l x:=hl;have c:∀x,aQ hG x=((b*g:Int):Rat):=λx=>by
   have:=can (f:=λx=>aQ hG x-((b*g:Int):Rat)) ((dD ()).sub (.const _)) (λx=>by
    have:=eG x;rw[hl x] at this;rw[Xb];grind) x
   grind
  refine .two ((dD ()).lip R0) (.one (c:=((b*g:Int):Rat)) (aq (Y9 () hg)) c)
 | @more F G R' Q T S rows g0 gl s0 t0 r0 rl lr lq e hr ih =>
  intro a b g hF hG hs ha hb hg _ lF lG l1 l2 eF eG hh hl;cases hs with
  | nil=>exact absurd hh (by simp[Co])
  | cons hR hs =>
   obtain⟨l3,eR,hh⟩:=hh;obtain⟨m,hm⟩ : ∃m,m = -a*T.sign*S.sign:=⟨_,rfl⟩;have hm':m=1\/m = -1:=by
    rw[hm];rcases fQ t0 with ⟨z,_⟩|⟨z,_⟩<;>rcases fQ s0 with ⟨y,_⟩|⟨y,_⟩<;>rcases ha with x|x<;>rw[x,y,z]<;>decide
   have eR:∀x,(m:Rat)*aQ R' x=aQ hR x*l x:=by rw[hm];exact eR
   have hh:Co l b m rows hs:=by rw[hm];exact hh
   have tail:=ih hb hm' hg r0 () () l2 l3 eG eR hh hl;show Ch R (aQ hF) (aQ hG::aQ hR::hs.map aQ);have rs:=m5 (show Q.length+G.length<=20 by nofun) e
   have s1:(S:Rat)*((S.sign:Int):Rat)=((S.natAbs:Int):Rat):=by
    rw[<-Xb];rcases fQ s0 with ⟨z,y⟩|⟨z,y⟩<;>rw[z]<;>congr 1<;>nofun
   have t1:(T:Rat)*((S.sign:Int):Rat)*(a:Rat) = -(((T.natAbs:Int):Rat)*(m:Rat)):=by
    rw[<-Xb,<-Xb,<-Xb,<-XG];congr 1
    rw[hm];rcases fQ s0 with ⟨z,y⟩|⟨z,y⟩<;>rcases fQ t0 with ⟨z2,y2⟩|⟨z2,y2⟩<;>rcases ha with x|x<;>rw[x,z,z2]<;>nofun
   have b1:(b:Rat)*(b:Rat)=1:=by rcases hb with x|x<;>rw[x]<;>decide +kernel
   refine .more (q:=λx=>((S.sign*a*b:Int):Rat)*aQ Q x) (a:=((S.natAbs:Int):Rat)) (b:=((T.natAbs:Int):Rat)) ((dD ()).lip R0) (((dD ()).sc _).bdd R0) (Rat.intCast_pos.mpr ()) (Rat.intCast_pos.mpr ()) (λx=>?_) tail;have:=can (f:=λx=>((S.natAbs:Int):Rat)*aQ hF x-((S.sign*a*b:Int):Rat)*aQ Q x*aQ hG x+((T.natAbs:Int):Rat)*aQ hR x) ((((dD ()).sc _).sub (((dD ()).sc _).mul (dD ()))).add ((dD ()).sc _)) (λx=>?_) x
   .grind
   have z1:=eF x;have z2:=eG x;have z3:=eR x;have z4:(S:Rat)*aQ F x=aQ Q x*aQ G x+(T:Rat)*aQ R' x:=rs x;rw[Xb,Xb];obtain⟨A,hA⟩ : ∃A:Rat,A=(a:Rat):=⟨_,rfl⟩;obtain⟨B,hB⟩ : ∃B:Rat,B=(b:Rat):=⟨_,rfl⟩;rw[<-hA] at z1 t1 ⊢;rw[<-hB] at z2 b1 ⊢;generalize ((S.natAbs:Int):Rat)=sa at s1 ⊢;generalize ((T.natAbs:Int):Rat)=ta at t1 ⊢;generalize ((S.sign:Int):Rat)=ss at s1 t1 ⊢;have e1:sa*aQ hF x*l x=(S:Rat)*ss*A*aQ F x:=by rw[s1];grind
   have e2:ss*A*B*aQ Q x*aQ hG x*l x=ss*A*aQ Q x*aQ G x:=by
    have:aQ hG x*l x=B*aQ G x:=z2.symm;grind
   have e3:ta*aQ hR x*l x = -((T:Rat)*ss*A)*aQ R' x:=by rw[t1];grind
   grind
theorem xL(x:Rat):∀F:List Int,eU (F.map λn:Int=>(n:Rat)) x=ga F x
 | []=>rfl
 | a::F=>by show (a:Rat)+x*_=(a:Rat)+x*_;rw[xL x F]
theorem jD{F:List Int}(h:F.length<=20)(x:Rat):aQ F x=ga F x:=by
 unfold aQ;rw[gJ (cH F) h,CK,<-xL];congr 1
 refine List.ext_getElem (by simp) λi h1 h2=>?_
 rw[List.getElem_map,List.getElem_map,List.getElem_range];show ((nz F i:Int):Rat)=_;rw[aX (YK (by simpa using h1))]
def fT(side:Int)(F:List Int):Int:=if F.length%2=1 then (nz F (F.length-1)).sign else side*(nz F (F.length-1)).sign
theorem Dx:∀F:List Int,F≠[]->nz F (F.length-1)≠0 -> ∃R c:Rat,0<R/\0<c/\(∀x,R<=x->c<=((fT 1 F:Int):Rat)*ga F x) /\ ∀x,x <= -R->c<=((fT (-1) F:Int):Rat)*ga F x
 | [],h,_=>absurd rfl h
 | [a],_,h=>by
  have h:a≠0:=h;have e:∀s,fT s [a]=a.sign:=λs=>rfl;have k:∀x,(1:Rat)<=((a.sign:Int):Rat)*ga [a] x:=λx=>by
   show (1:Rat)<=((a.sign:Int):Rat)*((a:Rat)+x*0);have z:((a.sign:Int):Rat)*(a:Rat)=((a.sign*a:Int):Rat):=by rw[Xb]
   have y:(1:Int)<=a.sign*a:=by rcases fQ h with ⟨q,r⟩|⟨q,r⟩<;>rw[q]<;>nofun
   have:((1:Int):Rat)<=((a.sign*a:Int):Rat):=Rat.intCast_le_intCast.mpr y;have c1:((1:Int):Rat)=1:=rfl;grind
  exact⟨1,1,∅,∅,λx _=>by rw[e];exact k x,λx _=>by rw[e];exact k x⟩
 | a::b::F,_,h=>by
  have ld:nz (a::b::F) ((a::b::F).length-1)=nz (b::F) ((b::F).length-1):=by
   simp only[Y5,Xk];rfl
  rw[ld] at h;obtain⟨R,c,R0,c0,h1,h2⟩:=Dx (b::F) (by simp) h
  obtain⟨t,t0,ht⟩:=iB.const (R:=0) (a:Rat);have ht:=ht 0 (by unfold Wi;grind)
  have tc:0<t/c:=by rw[Xx c0];grind
  have tcc:t/c*c=t:=⋯;have s1:fT 1 (a::b::F)=fT 1 (b::F):=by
   unfold fT;rw[ld,Xn];split<;>split<;>rfl
  have s2:fT (-1) (a::b::F) = -fT (-1) (b::F):=by
   unfold fT;rw[ld];simp only[Y5];by_cases z:(F.length+1)%2=1
   .rw[Yb z,Yc ()];nofun
   .rw[Yc z,Yb ()];nofun
  have sm:∀s:Int,(s=1\/s = -1)->Sm t ((s:Rat)*(a:Rat)):=λs hs=>by
   have c1:((1:Int):Rat)=1:=rfl;have c2:((-1:Int):Rat) = -1:=rfl;unfold Sm at *
   rcases hs with z|z
   .rw[z,c1];grind
   .rw[z,c2];grind
  have pm:∀s:Int,(s=1\/s = -1)->fT s (b::F)=1\/fT s (b::F) = -1:=λs hs=>by
   unfold fT;rcases fQ h with ⟨z,_⟩|⟨z,_⟩<;>rw[z]<;>rcases hs with y|y<;>rw[y]<;>split<;>nofun
  refine⟨R+1+t/c,c,⋯,c0,λx hx=>?_,λx hx=>?_⟩
  .rw[s1];show c<=_*((a:Rat)+x*ga (b::F) x);have k:=h1 x ⋯;have m:=Xq (show 0<=x by grind) (show 0<=((fT 1 (b::F):Int):Rat)*ga (b::F) x-c by grind)
   have m2:=Xq (Xw c0) (show 0<=x-(1+t/c) by grind)
   have s:=sm _ (pm 1 (.inl rfl));unfold Sm at s;grind
  .rw[s2,XG];show c<=_*((a:Rat)+x*ga (b::F) x);have k:=h2 x ⋯;have m:=Xq (show 0 <= -x by grind) (show 0<=((fT (-1) (b::F):Int):Rat)*ga (b::F) x-c by grind)
   have m2:=Xq (Xw c0) (show 0 <= -x-(1+t/c) by grind)
   have s:=sm _ (pm (-1) (.inr rfl));unfold Sm at s;grind
theorem DQ{F:List Int}{s:Int}(h:nz F (F.length-1)≠0)(hs:s=1\/s = -1):fT s F=1\/fT s F = -1:=by
 unfold fT;rcases fQ h with ⟨z,_⟩|⟨z,_⟩<;>rw[z]<;>rcases hs with y|y<;>rw[y]<;>split<;>nofun
theorem CZ{s:Int}{y c:Rat}(hs:s=1\/s = -1)(c0:0<c)(h:c<=(s:Rat)*y):sg y=s:=by
 have c1:((1:Int):Rat)=1:=rfl;have c2:((-1:Int):Rat) = -1:=rfl;rcases hs with z|z
 .rw[z,c1] at h;rw[z,dM ⋯]
 .rw[z,c2] at h;rw[z,gt ⋯]
theorem yH:∀hs:List (List Int),(∀F∈hs,F≠[]/\F.length<=20/\nz F (F.length-1)≠0) -> ∃R:Rat,0<R /\ ∀x,R<=x->hs.map (fT 1)=wY x (hs.map aQ)/\hs.map (fT (-1))=wY (-x) (hs.map aQ)
 | [],_=>⟨1,∅,λ_ _=>⟨rfl,rfl⟩⟩
 | F::hs,h=>by
  obtain⟨R,R0,k⟩:=yH hs λG hG=>h G (Yj _ hG);obtain⟨f0,fl,fz⟩:=h F Yi;obtain⟨R',c,R1,c0,h1,h2⟩:=Dx F f0 fz;refine⟨R+R',⋯,λx hx=>?_⟩;obtain⟨k1,k2⟩:=k x ⋯;have e1:=CZ (DQ fz (.inl rfl)) c0 (h1 x ⋯);have e2:=CZ (DQ fz (.inr rfl)) c0 (h2 (-x) ⋯);rw[<-jD fl] at e1 e2;exact⟨by show fT 1 F::_=sg (aQ F x)::_;rw[k1,e1];rfl,by show fT (-1) F::_=sg (aQ F (-x))::_;rw[k2,e2];rfl⟩
def aR.tot:aR->Nat
 | .line _=>1
 | .root _=>2
 | .none _=>0
def vK:List (aR×Nat)->Nat
 | []=>0
 | q::l=>q.1.tot+vK l
theorem aR.out(q:aR)(h:q.ok):∃R:Rat,0<R /\ ∀x,R<=x->q.A x=q.tot/\q.A (-x)=0:=by
 cases q with
 | none n=>exact⟨1,∅,λ_ _=>⟨rfl,rfl⟩⟩
 | line r =>
  obtain⟨t,t0,ht⟩:=iB.const (R:=0) r;have ht:=ht 0 (by unfold Wi;grind)
  refine⟨t+1,⋯,λx hx=>⟨Yb ?_,Yc ?_⟩⟩<;>(unfold Sm at ht;grind)
 | root n =>
  obtain⟨n0,_⟩:=h;refine⟨n+1,⋯,λx hx=>?_⟩;have m:=Xq (show 0<=x-(n+1) by grind) (show 0<=x by grind)
  have m2:=Xq (Xw n0) (show 0<=x by grind)
  refine⟨?_,?_⟩
  .show (if x*x<n then 1 else if x<0 then 0 else 2)=2
   rw[Yc ⋯,Yc (show ¬ x<0 by grind)]
  .show (if -x * -x<n then 1 else if -x<0 then 0 else 2)=0
   rw[Yc ⋯,Yb (show -x<0 by grind)]
theorem sE:∀l:List (aR×Nat),(∀q∈l,q.1.ok/\1<=q.2) -> ∃R:Rat,0<R /\ ∀x,R<=x->gD l x=vK l/\gD l (-x)=0
 | [],_=>⟨1,∅,λ_ _=>⟨rfl,rfl⟩⟩
 | q::l,h=>by
  obtain⟨R,R0,k⟩:=sE l λp hp=>h p (Yj _ hp);obtain⟨R',R1,k'⟩:=q.1.out (h q Yi).1;refine⟨R+R',⋯,λx hx=>?_⟩;obtain⟨a,b⟩:=k x ⋯;obtain⟨a',b'⟩:=k' x ⋯;exact⟨by show q.1.A x+gD l x=q.1.tot+vK l;rw[a,a'],by show q.1.A (-x)+gD l (-x)=0;rw[b,b']⟩
def sC(side:Int)(e:Option Rat)(hs:List (List Int)):List Int:=match e with
 | none=>hs.map (fT side)
 | some x=>wY x (hs.map aQ)
def Be(l:List (aR×Nat)):Option Rat->Nat
 | none=>0
 | some x=>gD l x
def vA(l:List (aR×Nat)):Option Rat->Nat
 | none=>vK l
 | some x=>gD l x
theorem xD{l:List (aR×Nat)}{h0 h1:List Int}{hs:List (List Int)}{κ:Rat}(ch:∀R:Rat,0<=R->Ch R (aQ h0) (aQ h1::hs.map aQ))(ok:∀q∈l,q.1.ok/\1<=q.2)(un:l.Pairwise λa b=>a.1≠b.1)(k0:0<κ)(id:∀x,κ*(aQ h1 x*di l x)=aQ h0 x*iu l x)(nz0:∀F∈h0::h1::hs,F≠[]/\F.length<=20/\nz F (F.length-1)≠0) {lo hi:Option Rat}(lt:∀a b,lo=some a->hi=some b->a<=b):chg 0 (sC (-1) lo (h0::h1::hs))+Be l lo=chg 0 (sC 1 hi (h0::h1::hs))+vA l hi:=by
 obtain⟨R1,p1,f1⟩:=yH _ nz0;obtain⟨R2,p2,f2⟩:=sE l ok;obtain⟨A,A0,hA⟩:=iB.const (R:=0) (lo.getD 0);obtain⟨B,B0,hB⟩:=iB.const (R:=0) (hi.getD 0);have hA:=hA 0 (by unfold Wi;grind)
 have hB:=hB 0 (by unfold Wi;grind)
 obtain⟨R,hR⟩ : ∃R,R=R1+R2+A+B:=⟨_,rfl⟩;have lg:wG R (aQ h1):=(dD (nz0 h1 (by simp)).2.1).lip ⋯
 have key:∀a b:Rat,Wi R a->Wi R b->a<=b->Vr a (aQ h0::aQ h1::hs.map aQ)+gD l a=Vr b (aQ h0::aQ h1::hs.map aQ)+gD l b:=λa b wa wb ab=>Ch.roots ⋯ (ch R ⋯) ok un lg k0 id wa wb ab;obtain⟨q1,q2⟩:=f1 R ⋯;obtain⟨q3,q4⟩:=f2 R ⋯;have e1:∃a,Wi R a/\chg 0 (sC (-1) lo (h0::h1::hs))=Vr a (aQ h0::aQ h1::hs.map aQ)/\Be l lo=gD l a/\(lo=none->a = -R) /\ ∀x,lo=some x->a=x:=by
  cases lo with
  | none=>exact⟨-R,by unfold Wi;grind,by show chg 0 (_)=chg 0 _;rw[show sC (-1) none (h0::h1::hs)=(h0::h1::hs).map (fT (-1)) from rfl,q2];rfl,q4.symm,λ_=>rfl,λx z=>by cases z⟩
  | some x=>exact⟨x,by have hA:Sm A x:=hA;unfold Sm at hA;unfold Wi;grind,rfl,rfl,(λz=>by cases z),(λy z=>by cases z;rfl)⟩
 have e2:∃b,Wi R b/\chg 0 (sC 1 hi (h0::h1::hs))=Vr b (aQ h0::aQ h1::hs.map aQ)/\vA l hi=gD l b/\(hi=none->b=R) /\ ∀x,hi=some x->b=x:=by
  cases hi with
  | none=>exact⟨R,by unfold Wi;grind,by show chg 0 (_)=chg 0 _;rw[show sC 1 none (h0::h1::hs)=(h0::h1::hs).map (fT 1) from rfl,q1];rfl,q3.symm,λ_=>rfl,λx z=>by cases z⟩
  | some x=>exact⟨x,by have hB:Sm B x:=hB;unfold Sm at hB;unfold Wi;grind,rfl,rfl,(λz=>by cases z),(λy z=>by cases z;rfl)⟩
 obtain⟨a,wa,x1,x2,x3,x4⟩:=e1;obtain⟨b,wb,y1,y2,y3,y4⟩:=e2;rw[x1,x2,y1,y2];refine key a b wa wb ?_;cases lo with
 | none=>rw[x3 rfl];exact wb.1
 | some u =>
  cases hi with
  | none=>rw[y3 rfl];exact wa.2
  | some v=>rw[x4 u rfl,y4 v rfl];exact lt u v rfl rfl
def ug:List (aR×Nat)->Rat->Rat
 | [],_=>1
 | q::l,x=>iw (q.1.p x) q.2*ug l x
def aR.deg:aR->Nat
 | .line _=>1
 | .root _=>2
 | .none _=>2
def fN:List (aR×Nat)->Nat
 | []=>0
 | q::l=>q.2*q.1.deg+fN l
def Dr(n:Nat)(f f':Rat->Rat):Prop:=∃u:Nat->Rat,Bd (n+1) u/\(∀x,EV u x=f x) /\ ∀x,EV (DF u) x=f' x
theorem Dr.mul{m n:Nat}{f f' g g':Rat->Rat}(h:Dr m f f')(k:Dr n g g')(l:m+n<=17):Dr (m+n) (λx=>f x*g x) (λx=>f' x*g x+f x*g' x):=by
 obtain⟨u,bu,e1,e2⟩:=h;obtain⟨v,bv,e3,e4⟩:=k;have ev:∀x,EV (λk=>pr u v (m+1) k) x=EV u x*EV v x:=λx=>IZ bu bv () x;refine⟨λk=>pr u v (m+1) k,λi hi=>gy bv _ _ (),λx=>by rw[ev,e1,e3],λx=>?_⟩
 rw[DT bv (m+1) u (λk=>pr u v (m+1) k) bu () (λi hi=>gy bv _ _ ()) ev x,e1,e2,e3,e4]
theorem Dr.const(c:Rat):Dr 0 (λ_=>c) (λ_=>0):=by
 refine⟨λk=>if k=0 then c else 0,λi hi=>Yc (),λx=>?_,λx=>?_⟩
 .rw[gJ (n:=1) (λk hk=>Yc ()) ∅];show 0+c*1=c;grind
 .refine ot (λi=>?_) x;show _*(if i+1=0 then c else 0)=(0:Rat)
  rw[Yc ()];grind
theorem Dr.quad(a b c:Rat):Dr 2 (λx=>a+b*x+c*(x*x)) (λx=>b+2*c*x):=by
 have p1:∀x:Rat,cQ x 1=x:=λx=>by show 1*x=x;grind
 have p2:∀x:Rat,cQ x 2=x*x:=λx=>by show 1*x*x=x*x;grind
 refine⟨λk=>if k=0 then a else if k=1 then b else if k=2 then c else 0,λi hi=>by show (if i=0 then a else if i=1 then b else if i=2 then c else 0)=0;rw[Yc (),Yc (),Yc ()],λx=>?_,λx=>?_⟩
 .rw[gJ (n:=3) (λi hi=>by show (if i=0 then a else if i=1 then b else if i=2 then c else 0)=0;rw[Yc (),Yc (),Yc ()]) ∅]
  show ((0+a*cQ x 0)+b*cQ x 1)+c*cQ x 2=_;rw[p1,p2];show ((0+a*1)+b*x)+c*(x*x)=_;grind
 .rw[gJ (n:=2) (λi hi=>by show _*(if i+1=0 then a else if i+1=1 then b else if i+1=2 then c else 0)=(0:Rat);rw[Yc (),Yc (),Yc ()];grind) ∅]
  show (0+(((0+1:Nat):Int):Rat)*b*cQ x 0)+(((1+1:Nat):Int):Rat)*c*cQ x 1=_;rw[p1];show (0+1*b*1)+2*c*x=_;grind
theorem Dr.congr{n:Nat}{f f' g g':Rat->Rat}(h:Dr n f f')(e:∀x,g x=f x)(e':∀x,g' x=f' x):Dr n g g':=by
 obtain⟨u,b,e1,e2⟩:=h;exact⟨u,b,λx=>(e1 x).trans (e x).symm,λx=>(e2 x).trans (e' x).symm⟩
theorem Dr.up{m n:Nat}{f f':Rat->Rat}(h:Dr m f f')(l:m<=n):Dr n f f':=by
 obtain⟨u,b,e⟩:=h;exact⟨u,b.mono (),e⟩
theorem aR.dr(q:aR):Dr q.deg q.p q.d:=by
 cases q with
 | line r =>
  obtain⟨u,bu,e1,e2⟩:=Dr.quad (-r) 1 0;refine⟨u,?_,λx=>?_,λx=>?_⟩
  .intro i hi;have:=kL (f:=u) (g:=λk=>if k=0 then -r else if k=1 then 1 else 0) (bu.mono ∅) (λi hi=>by show (if i=0 then -r else if i=1 then 1 else 0)=0;rw[Yc (),Yc ()]) (λx=>?_) i
   .have hi:2<=i:=hi;rw[this,Yc (),Yc ()]
   .rw[e1,gJ (n:=2) (λi hi=>by show (if i=0 then -r else if i=1 then 1 else 0)=0;rw[Yc (),Yc ()]) ∅]
    show _=(0 + -r*1)+1*(1*x);grind
  .rw[e1];show _=x-r;grind
  .rw[e2];show _=(1:Rat);grind
 | root n=>exact (Dr.quad (-n) 0 1).congr (λx=>by show x*x-n=_;grind) λx=>by show 2*x=_;grind
 | none n=>exact (Dr.quad n 0 1).congr (λx=>by show x*x+n=_;grind) λx=>by show 2*x=_;grind
theorem aR.drp(q:aR):∀k:Nat,k*q.deg<=17 -> ∃f',Dr (k*q.deg) (λx=>iw (q.p x) k) f' /\ ∀x,f' x*q.p x=((k:Nat):Rat)*q.d x*iw (q.p x) k
 | 0,_=>⟨λ_=>0,(Dr.const 1).up (),λx=>by show 0*q.p x=((0:Nat):Rat)*_*_;rw[show ((0:Nat):Rat)=0 from rfl];grind⟩
 | k+1,h=>by
  have hk:(k+1)*q.deg=q.deg+k*q.deg:=by rw[Xo];nofun
  obtain⟨f',d,e⟩:=aR.drp q k ();refine⟨_,hk▸(q.dr.mul d ()),λx=>?_⟩;have:=e x;show (q.d x*iw (q.p x) k+q.p x*f' x)*q.p x=((k+1:Nat):Rat)*q.d x*(q.p x*iw (q.p x) k);rw[Rat.natCast_add,show ((1:Nat):Rat)=1 from rfl]
  grind
theorem C2:∀l:List (aR×Nat),fN l<=17 -> ∃f',Dr (fN l) (ug l) f' /\ ∀x,f' x*di l x=ug l x*iu l x
 | [],_=>⟨λ_=>0,Dr.const 1,λx=>by show 0*1=1*(0:Rat);grind⟩
 | q::l,h=>by
  have h:q.2*q.1.deg+fN l<=17:=h;obtain⟨f',d,e⟩:=C2 l ();obtain⟨g',d2,e2⟩:=q.1.drp q.2 ();refine⟨_,d2.mul d h,λx=>?_⟩;have a:=e x;have b:=e2 x;show (g' x*ug l x+iw (q.1.p x) q.2*f' x)*(q.1.p x*di l x)=iw (q.1.p x) q.2*ug l x*(((q.2:Nat):Rat)*q.1.d x*di l x+q.1.p x*iu l x);have c1:g' x*ug l x*(q.1.p x*di l x)=(g' x*q.1.p x)*(ug l x*di l x):=⋯;have c2:iw (q.1.p x) q.2*f' x*(q.1.p x*di l x)=iw (q.1.p x) q.2*q.1.p x*(f' x*di l x):=⋯;rw[Rat.add_mul,c1,c2,a,b];grind
theorem A7{l:List (aR×Nat)}{W D:List Int}{c:Rat}(dl:fN l<=17)(lW:W.length<=11)(hD:∀k,nz D k=((k+1:Nat):Int)*nz W (k+1))(e:∀x,aQ W x=c*ug l x)(x:Rat):aQ D x*di l x=aQ W x*iu l x:=by
 obtain⟨f',⟨u,bu,e1,e2⟩,e3⟩:=C2 l dl;have eu:∀k,fR W k=(λk=>0+c*u k) k:=kL ((cH W).mono ()) (λi hi=>by show 0+c*u i=0;rw[bu i ()];grind) λx=>by
  rw[mv,ot (f:=λ_=>0) λ_=>rfl,e1];show aQ W x=_;rw[e x];grind
 have ed:∀k,fR D k=(λk=>0+c*DF u k) k:=λk=>by
  show ((nz D k:Int):Rat)=0+c*((((k+1:Nat):Int):Rat)*u (k+1));rw[hD k,Xb];have:=eu (k+1);have this:((nz W (k+1):Int):Rat)=0+c*u (k+1):=this;rw[this];grind
 have w:aQ D x=c*f' x:=by
  unfold aQ;rw[cD ed x,mv,ot (f:=λ_=>0) λ_=>rfl,e2];grind
 have:=e3 x;rw[w,e x];grind
def El(ms ns:List Int):Prop:=∃Q:List Int,∀k,nz ms k=pz (nz Q) (nz ns) Q.length k
theorem Av{ms qs rs ns:List Int}{n p:Nat}(ln:0<ns.length)(lr:rs.length=p+ns.length)(lq:qs.length=n)(e:∀k,nz ms k=pz (nz qs) (nz ns) n k+nz rs k)(h0:nz ns (ns.length-1)≠0)(ex:El ms ns):nz ns (ns.length-1)∣nz rs (p+(ns.length-1)):=by
 obtain⟨Q,eQ⟩:=ex;have key:∀k,pr (λi=>fR Q i-fR qs i) (fR ns) (Q.length+n) k=fR rs k:=λk=>by
  rw[xf,ki (cH Q),Nat.add_comm,ki (λi hi=>cH qs i ())];have e1:((nz ms k:Int):Rat)=((pz (nz Q) (nz ns) Q.length k:Int):Rat):=by rw[eQ k]
  have e2:((nz ms k:Int):Rat)=((pz (nz qs) (nz ns) n k+nz rs k:Int):Rat):=by rw[e k]
  rw[Xa,iM] at e2;rw[iM] at e1;show pr (λi=>((nz Q i:Int):Rat)) (λi=>((nz ns i:Int):Rat)) Q.length k-pr (λi=>((nz qs i:Int):Rat)) (λi=>((nz ns i:Int):Rat)) n k=((nz rs k:Int):Rat);grind
 have bd:Bd (Q.length+n) (λi=>fR Q i-fR qs i):=λi hi=>by
  show fR Q i-fR qs i=0;rw[cH Q i (),cH qs i ()];grind
 have hg:∀j,ns.length-1<j->fR ns j=0:=λj hj=>cH ns j ();have l0:fR ns (ns.length-1)≠0:=aq h0;have fin:(∀j,p<j->fR Q j-fR qs j=0)->nz ns (ns.length-1)∣nz rs (p+(ns.length-1)):=λhp=>by
  have a:=nJ hg hp (Q.length+n);rw[key] at a;by_cases z:p<Q.length+n
  .rw[Yb z] at a;refine⟨nz Q p-nz qs p,Rat.intCast_inj.mp ?_⟩;rw[Xb,Xc];show fR rs (p+(ns.length-1))=fR ns (ns.length-1)*(fR Q p-fR qs p);rw[a];grind
  .rw[Yc z] at a;refine⟨0,Rat.intCast_inj.mp ?_⟩;rw[Xh];exact a
 rcases Bd.tp bd with z|⟨t,ht,tz,tb⟩
 .exact fin λj _=>z j
 .have tb:∀j,t<j->fR Q j-fR qs j=0:=λj hj=>tb j ();have a:=nJ hg tb (Q.length+n);rw[key,Yb ht] at a;have tp:t<=p:=Nat.le_of_not_lt λy=>by
   rw[cH rs _ ()] at a;rcases Rat.mul_eq_zero.mp a.symm with w|w
   .exact tz w
   .exact l0 w
  exact fin λj hj=>tb j ()
theorem Ip{s:Rat}{N:Int}(h:s*s=(N:Rat)):∃k:Int,k*k=N:=by
 have d0:((s.den:Int):Rat)≠0:=aq (by have:=s.den_pos;nofun)
 have e:((s.num:Int):Rat)=s*((s.den:Int):Rat):=by
  have:=Rat.num_divInt_den s;rw[Rat.divInt_eq_div] at this;have z:(s.num:Rat)/((s.den:Int):Rat)=s:=this;grind
 have e2:((s.num*s.num:Int):Rat)=((N*(s.den*s.den):Int):Rat):=by
  rw[Xb,Xb,Xb,e];grind
 have e3:s.num*s.num=N*(s.den*s.den):=Rat.intCast_inj.mp e2;have dv:s.den∣s.num.natAbs*s.num.natAbs:=by
  rw[<-YU,e3];refine⟨N.natAbs*s.den,?_⟩;rw[YU,YU,XD];rw[Nat.mul_left_comm]
 have co:Nat.Coprime s.den s.num.natAbs:=s.reduced.symm;have d1:=co.dvd_of_dvd_mul_left dv;have:s.den∣1:=by
  have:=Nat.dvd_gcd (Nat.dvd_refl s.den) d1
  rwa [show Nat.gcd s.den s.num.natAbs=1 from co] at this
 have one:s.den=1:=Nat.dvd_one.mp this;rw[one] at e3;exact⟨s.num,()⟩
theorem pJ{u v:Int}(v0:v≠0)(h:∀k:Int,k*k≠u*v)(r:Rat):r*r≠(u:Rat)/(v:Rat):=λe=>by
 have c:=aq v0;obtain⟨k,hk⟩:=Ip (s:=(v:Rat)*r) (N:=u*v) (by rw[Xb];grind)
 exact h k hk
theorem xh{N:Int}{b:Nat}(hN:N<(b:Int)*b)(h:∀k:Nat,k<b->(k:Int)*k≠N)(k:Int):k*k≠N:=λe=>by
 have e1:(k.natAbs:Int)*k.natAbs=N:=by rw[<-e];exact Int.natAbs_mul_self' k
 by_cases z:k.natAbs<b
 .exact h _ z e1
 .have:b*b<=k.natAbs*k.natAbs:=Xp () ();have:((b*b:Nat):Int)<=((k.natAbs*k.natAbs:Nat):Int):=();rw[XH,XH] at this;nofun
def GI:List (Int×Int):=[(2,1),(3,1),(5,1),(6,1),(1,2),(7,4),(3,4)]
theorem A3{q:Int×Int}(h:q∈GI):0<wv q /\ ∀r:Rat,r*r≠wv q:=by
 have pos:∀{q:Int×Int},0<q.1->0<q.2->0<wv q:=λ{q} a b=>by
  unfold wv;rw[Xx (Rat.intCast_pos.mpr b)];have:=Rat.intCast_pos.mpr a;grind
 unfold GI at h;simp only[YY,YZ,Y0] at h;rcases h with rfl|rfl|rfl|rfl|rfl|rfl|rfl
 .exact⟨pos ∅ ∅,pJ ∅ (xh (b:=6) ∅ ∅)⟩
 .exact⟨pos ∅ ∅,pJ ∅ (xh (b:=6) ∅ ∅)⟩
 .exact⟨pos ∅ ∅,pJ ∅ (xh (b:=6) ∅ ∅)⟩
 .exact⟨pos ∅ ∅,pJ ∅ (xh (b:=6) ∅ ∅)⟩
 .exact⟨pos ∅ ∅,pJ ∅ (xh (b:=6) ∅ ∅)⟩
 .exact⟨pos ∅ ∅,pJ ∅ (xh (b:=6) ∅ ∅)⟩
 .exact⟨pos ∅ ∅,pJ ∅ (xh (b:=6) ∅ ∅)⟩
def eY(x:Rat):Rat:=if x<0 then -(x*x) else x*x
theorem C9{x y:Rat}(h:x<y):eY x<eY y:=by
 unfold eY;by_cases a:x<0
 .rw[Yb a];by_cases b:y<0
  .rw[Yb b];have:=Xv (show 0<y-x by grind) (show 0 < -x-y by grind)
   grind
  .rw[Yc b];have:=Xv (show 0 < -x by grind) (show 0 < -x by grind)
   have:=jm y;grind
 .rw[Yc a,Yc (show ¬ y<0 by grind)]
  have:=Xv (show 0<y-x by grind) (show 0<y+x by grind)
  grind
theorem pP{x y:Rat}:eY x<=eY y↔x<=y:=by
 refine⟨λh=>Rat.not_lt.mp λz=>?_,λh=>?_⟩
 .have:=C9 z;grind
 .by_cases e:x=y
  .rw[e];grind
  .have:=C9 (show x<y by grind)
   grind
def aR.mk:aR->List Rat
 | .line r=>[eY r]
 | .root n=>[-n,n]
 | .none _=>[]
theorem aR.A_mk{q:aR}(h:q.ok)(x:Rat):q.A x=((q.mk).filter λm=>decide (m<=eY x)).length:=by
 cases q with
 | none _=>rfl
 | line r =>
  show (if r<=x then 1 else 0)=([eY r].filter λm=>decide (m<=eY x)).length
  by_cases z:r<=x
  .rw[Yb z,Xz (by simpa using pP.mpr z)]
   rfl
  .rw[Yc z,XA (by simpa using λy=>z (pP.mp y))]
   rfl
 | root n =>
  obtain⟨n0,nn⟩:=h;show (if x*x<n then 1 else if x<0 then 0 else 2)=([-n,n].filter λm=>decide (m<=eY x)).length
  have p:=jm x;have ne:=nn x;by_cases a:x*x<n
  .have h1 : -n<=eY x:=by unfold eY;split<;>grind
   have h2:¬ n<=eY x:=by unfold eY;split<;>grind
   rw[Yb a,Xz (by simpa using h1),XA (by simpa using h2)]
   rfl
  .rw[Yc a];by_cases b:x<0
   .have h1:¬ -n<=eY x:=by unfold eY;rw[Yb b];grind
    have h2:¬ n<=eY x:=by unfold eY;rw[Yb b];grind
    rw[Yb b,XA (by simpa using h1),XA (by simpa using h2)]
    rfl
   .have h1 : -n<=eY x:=by unfold eY;rw[Yc b];grind
    have h2:n<=eY x:=by unfold eY;rw[Yc b];grind
    rw[Yc b,Xz (by simpa using h1),Xz (by simpa using h2)]
    rfl
def AV(l:List (aR×Nat)):List Rat:=l.flatMap λq=>q.1.mk
theorem pC{x:Rat}:∀{l:List (aR×Nat)},(∀q∈l,q.1.ok/\1<=q.2)->gD l x=((AV l).filter λm=>decide (m<=eY x)).length
 | [],_=>rfl
 | q::l,h=>by
  show q.1.A x+gD l x=((q.1.mk++AV l).filter _).length;rw[List.filter_append,YC,aR.A_mk (h q Yi).1,pC λp hp=>h p (Yj _ hp)]
theorem vR:∀l:List (aR×Nat),vK l=(AV l).length
 | []=>rfl
 | q::l=>by
  show q.1.tot+vK l=(q.1.mk++AV l).length;rw[YC,vR l];cases q.1<;>rfl
theorem A4{r n:Rat}(h:eY r=n\/eY r = -n)(n0:0<n):r*r=n:=by
 unfold eY at h;have:=jm r;split at h<;>grind
theorem vW{l:List (aR×Nat)}(ok:∀q∈l,q.1.ok/\1<=q.2)(un:l.Pairwise λa b=>a.1≠b.1):(AV l).Nodup:=by
 refine List.pairwise_flatMap.mpr ⟨λq hq=>?_,?_⟩
 .cases hq':q.1 with
  | line r=>exact List.pairwise_singleton _ _
  | none n=>exact .nil
  | root n =>
   have:=(ok q hq).1;rw[hq'] at this;have n0:=this.1;exact List.pairwise_cons.mpr ⟨λy hy=>by rw[XY.mp hy];grind,List.pairwise_singleton _ _⟩
 .refine List.Pairwise.imp_of_mem (R:=λa b=>a.1≠b.1) (λ{a b} ha hb n x hx y hy e=>?_) un;have oa:=(ok a ha).1;have ob:=(ok b hb).1;subst e;cases ea:a.1 with
  | none m=>rw[ea] at hx;cases hx
  | line r =>
   rw[ea] at hx;have hx:=XY.mp hx;cases eb:b.1 with
   | none m=>rw[eb] at hy;cases hy
   | line s =>
    rw[eb] at hy;have hy:=XY.mp hy;have z:eY r=eY s:=hx.symm.trans hy;have:r=s:=by
     have:=pP.mp (show eY r<=eY s by grind)
     have:=pP.mp (show eY s<=eY r by grind)
     grind
    exact n (by rw[ea,eb,this])
   | root m =>
    rw[eb] at hy ob;refine ob.2 r (A4 ?_ ob.1);rcases YY.mp hy with z|z
    .exact .inr (hx.symm.trans z)
    .exact .inl (hx.symm.trans (XY.mp z))
  | root m =>
   rw[ea] at hx oa;have hx:x = -m\/x=m:=by
    rcases YY.mp hx with z|z
    .exact .inl z
    .exact .inr (XY.mp z)
   cases eb:b.1 with
   | none m'=>rw[eb] at hy;cases hy
   | line s =>
    rw[eb] at hy;have hy:=XY.mp hy;refine oa.2 s (A4 ?_ oa.1);rcases hx with z|z
    .exact .inr (hy.symm.trans z)
    .exact .inl (hy.symm.trans z)
   | root m' =>
    rw[eb] at hy ob;have hy:x = -m'\/x=m':=by
     rcases YY.mp hy with z|z
     .exact .inl z
     .exact .inr (XY.mp z)
    have p1:=oa.1;have p2:=ob.1;have:m=m':=⋯;exact n (by rw[ea,eb,this])
def tj(lo hi:Option Rat)(m:Rat):Bool:=(match lo with|none=>true|some a=>decide (eY a<m)) && (match hi with|none=>true|some b=>!decide (eY b<m))
theorem u6{lo hi:Option Rat}(lt:∀a b,lo=some a->hi=some b->a<=b):∀ms:List Rat,(ms.filter (tj lo hi)).length+(match lo with|none=>0|some a=>(ms.filter λm=>decide (m<=eY a)).length)=(match hi with|none=>ms.length|some b=>(ms.filter λm=>decide (m<=eY b)).length)
 | []=>by cases lo<;>cases hi<;>rfl
 | m::ms=>by
  have ih:=u6 lt ms;have f1:∀(p:Rat->Bool),((m::ms).filter p).length=cond (p m) 1 0+(ms.filter p).length:=λp=>by
   cases z:p m with
   | true=>rw[Xz z,Y5];show _=1+_;nofun
   | false=>rw[XA (by rw[z];decide)];show _=0+_;nofun
  have n1:∀a:Rat,eY a<m->decide (m<=eY a)=false:=λa z=>Ya ⋯;have n2:∀a:Rat,¬ eY a<m->decide (m<=eY a)=true:=λa z=>YI ⋯;cases lo with
  | none =>
   cases hi with
   | none =>
    have ih:_+0=ms.length:=ih;rw[f1];show 1+_+0=ms.length+1;nofun
   | some b =>
    have ih:_+0=(ms.filter λm=>decide (m<=eY b)).length:=ih;rw[f1];show _+_+0=((m::ms).filter λm=>decide (m<=eY b)).length;rw[f1];have e:tj none (some b) m=decide (m<=eY b):=by
     show (true && !decide (eY b<m))=_;by_cases z:eY b<m
     .rw[YI z,n1 b z];rfl
     .rw[Ya z,n2 b z];rfl
    rw[e];nofun
  | some a =>
   cases hi with
   | none =>
    have ih:_+(ms.filter λm=>decide (m<=eY a)).length=ms.length:=ih;rw[f1];show _+_+((m::ms).filter λm=>decide (m<=eY a)).length=ms.length+1;rw[f1];have e:tj (some a) none m=decide (eY a<m):=by show (decide (eY a<m) && true)=_;rw[Bool.and_true]
    rw[e];by_cases z:eY a<m
    .rw[YI z,n1 a z];show 1+_+(0+_)=_;nofun
    .rw[Ya z,n2 a z];show 0+_+(1+_)=_;nofun
   | some b =>
    have ab:=pP.mpr (lt a b rfl rfl);have ih:_+(ms.filter λm=>decide (m<=eY a)).length=(ms.filter λm=>decide (m<=eY b)).length:=ih;rw[f1];show _+_+((m::ms).filter λm=>decide (m<=eY a)).length=((m::ms).filter λm=>decide (m<=eY b)).length;rw[f1,f1];have e:tj (some a) (some b) m=(decide (eY a<m) && !decide (eY b<m)):=rfl;rw[e];by_cases z:eY a<m
    .rw[YI z,n1 a z];by_cases y:eY b<m
     .rw[YI y,n1 b y];show 0+_+(0+_)=0+_;nofun
     .rw[Ya y,n2 b y];show 1+_+(0+_)=1+_;nofun
    .have y:¬ eY b<m:=⋯;rw[Ya z,n2 a z,Ya y,n2 b y];show 0+_+(1+_)=1+_;nofun
theorem zR{l:List (aR×Nat)}{ms:List Rat}{lo hi:Option Rat}(ok:∀q∈l,q.1.ok/\1<=q.2)(un:l.Pairwise λa b=>a.1≠b.1)(nd:ms.Nodup)(hm:∀v,v∈ms↔v∈AV l)(lt:∀a b,lo=some a->hi=some b->a<=b):(ms.filter (tj lo hi)).length+Be l lo=vA l hi:=by
 have p:ms.Perm (AV l):=(List.perm_ext_iff_of_nodup nd (vW ok un)).mpr hm;rw[(p.filter _).length_eq];have:=u6 lt (AV l);cases lo with
 | none =>
  cases hi with
  | none=>show _+0=vK l;rw[vR];exact this
  | some b=>show _+0=gD l b;rw[pC ok];exact this
 | some a =>
  cases hi with
  | none=>show _+gD l a=vK l;rw[vR,pC ok];exact this
  | some b=>show _+gD l a=gD l b;rw[pC ok,pC ok];exact this
def qT(a b:Int):List (List Int×List Int×Int×Int)->List (List Int)
 | []=>[]
 | row::rows=>(row.1.map λy=>(-a*row.2.2.1.sign*row.2.2.2.sign)*y)::qT b (-a*row.2.2.1.sign*row.2.2.2.sign) rows
def t8(a:Int):Prop:=a=1\/a = -1
theorem t8.next{a S T:Int}(h:t8 a)(s0:S≠0)(t0:T≠0):t8 (-a*T.sign*S.sign):=by
 unfold t8 at *
 rcases fQ t0 with ⟨z,_⟩|⟨z,_⟩<;>rcases fQ s0 with ⟨y,_⟩|⟨y,_⟩<;>rcases h with x|x<;>rw[x,y,z]<;>decide
theorem pH.ne{F G:List Int}{rows:List (List Int×List Int×Int×Int)}(h:pH F G rows):∀row∈rows,row.2.2.1≠0/\row.2.2.2≠0/\row.1≠[]/\nz row.1 (row.1.length-1)≠0:=by
 induction h with
 | nought=>simp
 | last=>simp
 | more g0 gl s0 t0 r0 rl lr lq e hr ih =>
  intro row iN;rcases YY.mp iN with rfl|z
  .exact⟨t0,s0,r0,rl⟩
  .exact ih row z
theorem jM:∀(rows:List (List Int×List Int×Int×Int))(a b:Int)(G G1:List Int),(∀row∈rows,row.2.2.1≠0/\row.2.2.2≠0)->t8 a->t8 b->(∀k,nz G1 k=b*nz G k)->G1.length=G.length -> ∃L s,(G1::qT a b rows).getLast? = some L/\t8 s/\(∀k,nz L k=s*nz (fM G rows) k)/\L.length=(fM G rows).length
 | [],a,b,G,G1,_,_,hb,h,hl=>⟨G1,b,rfl,hb,h,hl⟩
 | row::rows,a,b,G,G1,hn,ha,hb,h,hl=>by
  obtain⟨L,s,e,ps,hL⟩:=jM rows b (-a*row.2.2.1.sign*row.2.2.2.sign) row.1 (row.1.map λy=>(-a*row.2.2.1.sign*row.2.2.2.sign)*y) (λr hr=>hn r (Yj _ hr)) hb (ha.next (hn row Yi).2 (hn row Yi).1) (λk=>dX k) (by rw[YD])
  refine⟨L,s,?_,ps,hL⟩;show (G1::(row.1.map _)::qT b _ rows).getLast? = some L;rw[List.getLast?_cons_cons];exact e
theorem EB{W h P:List Int}(lW:W.length=1)(h0:h≠[])(hz:nz h (h.length-1)≠0)(P1:P.length=1)(Pz:nz P 0≠0)(e:∀k,nz W k=pz (nz h) (nz P) h.length k):∃c:Int,c≠0/\h=[c]:=by
 have hp:=List.length_pos_iff.mpr h0;have hg:∀j,0<j->fR P j=0:=λj hj=>cH P j ();have hf:∀j,h.length-1<j->fR h j=0:=λj hj=>cH h j ();have a:=nJ hg hf h.length;rw[Yb ()] at a;have b:((nz W (h.length-1):Int):Rat)=((pz (nz h) (nz P) h.length (h.length-1):Int):Rat):=by rw[<-e]
 rw[iM] at b;have l1:h.length=1:=Xy λn=>by
  rw[aL ()] at b;have z:fR h (h.length-1)*fR P 0=0:=a.symm.trans b.symm;rcases Rat.mul_eq_zero.mp z with y|y
  .exact aq hz y
  .exact aq Pz y
 match h,l1,hz with
 | [c],_,hz=>exact⟨c,hz,rfl⟩
theorem tf:∀(rows:List (List Int×List Int×Int×Int))(a b:Int),(∀row∈rows,row.2.2.1≠0/\row.2.2.2≠0)->t8 a->t8 b -> ∀F∈qT a b rows,∃row∈rows,∃s,t8 s/\F=row.1.map λy=>s*y
 | [],_,_,_,_,_,_,h=>by cases h
 | row::rows,a,b,hn,ha,hb,F,h=>by
  have hm:=ha.next (hn row Yi).2 (hn row Yi).1
  rcases YY.mp h with z|z
  .exact⟨row,Yi,_,hm,z⟩
  .obtain⟨r,hr,s,hs,e⟩:=tf rows b _ (λr hr=>hn r (Yj _ hr)) hb hm F z;exact⟨r,Yj _ hr,s,hs,e⟩
theorem u9.exq{P F:List Int}(h:u9 P F)(lF:F.length<=11) {s:Int}:El (F.map λy=>s*y) P:=by
 obtain⟨A,lA,lAP,e⟩:=h;refine⟨A.map λy=>s*y,Bh (by rw[YD];nofun) (by rw[YD];nofun) λx=>?_⟩
 rw[gN (G:=F) (c:=s) λk=>dX k,gN (G:=A) (c:=s) λk=>dX k,e x];grind
theorem Gp(F:List Int):(F.map λy=>1*y)=F:=by
 rw[show (λy:Int=>1*y)=id from funext λy=>Xn y,List.map_id]
inductive yn (P:List Int):List (List Int)->List (List Int)->Prop
 | nil:yn P [] []
 | cons {F h:List Int}{Fs hs:List (List Int)}:h.length<=11/\h.length+P.length<=20->h≠[]->nz h (h.length-1)≠0->(∀k,nz F k=pz (nz h) (nz P) h.length k)->yn P Fs hs->yn P (F::Fs) (h::hs)
theorem yn.all{P:List Int}{Fs hs:List (List Int)}(h:yn P Fs hs):∀x∈hs,x≠[]/\x.length<=20/\nz x (x.length-1)≠0:=by
 induction h with
 | nil=>simp
 | cons a b c _ _ ih =>
  intro x hx;rcases YY.mp hx with rfl|z
  .exact⟨b,(),c⟩
  .exact ih x z
theorem yn.hsOk{P:List Int}:∀{rows:List (List Int×List Int×Int×Int)}{a b:Int}{hs:List (List Int)},yn P (qT a b rows) hs->Co (aQ P) a b rows hs
 | [],a,b,hs,h=>by cases h;rfl
 | row::rows,a,b,hs,h=>by
  cases h with
  | cons l _ _ e t =>
   refine⟨l.1,λx=>?_,yn.hsOk t⟩;rw[<-nC () e,gN (G:=row.1) (c:=-a*row.2.2.1.sign*row.2.2.2.sign) λk=>dX k]
def CC(fs:List (Int×Int))(hs:List (List Int)):Prop:=(fs.length=1 /\ ∃c:Int,c≠0/\hs=[[c]]) \/ ∃(h0 h1:List Int)(tl:List (List Int))(κ:Rat),hs=h0::h1::tl/\(∀R:Rat,0<=R->Ch R (aQ h0) (aQ h1::tl.map aQ))/\0<κ /\ ∀(l:List (aR×Nat))(c:Rat),fN l<=17->(∀x,EV (cf fs) x=c*ug l x) -> ∀x,κ*(aQ h1 x*di l x)=aQ h0 x*iu l x
theorem zX{W O P L:List Int}{rows:List (List Int×List Int×Int×Int)}{g:Int}(rq:pH W O rows)(o0:O≠[])(lW:W.length<=11)(lO:O.length<=W.length)(lO10:O.length<=10)(hp:jN (nz P))(lP:P.length<=L.length)(hL:(O::qT 1 1 rows).getLast? = some L)(eL:∀k,nz L k=g*nz P k)(lr:∀row∈rows,row.1.length<=11):∀F∈W::O::qT 1 1 rows,El F P:=by
 have hn:∀row∈rows,row.2.2.1≠0/\row.2.2.2≠0:=λrow h=>⟨(rq.ne row h).1,(rq.ne row h).2.1⟩;obtain⟨L',s,e,ps,hs,lLs⟩:=jM rows 1 1 O O hn (.inl rfl) (.inl rfl) (λk=>by rw[Xn]) rfl
 rw[hL] at e;cases e;have el:∀k,nz (fM O rows) k=(s*g)*nz P k:=λk=>by
  have a:=hs k;rw[eL k] at a;have:s*(g*nz P k)=s*(s*nz (fM O rows) k):=by rw[a]
  rw[<-Y3,<-Y3,show s*s=1 by rcases ps with z|z<;>rw[z]<;>decide,Xn] at this
  exact this.symm
 obtain⟨dW,dO,dr⟩:=rq.div hp () o0 lW lO lO10 el;have one:∀{F:List Int},u9 P F->F.length<=11->El F P:=λ{F} d l=>by
  have:=d.exq l (s:=1)
  rwa [Gp] at this
 intro F hF;rcases YY.mp hF with rfl|hF
 .exact one dW lW
 .rcases YY.mp hF with rfl|hF
  .exact one dO ()
  .obtain⟨row,hr,s',_,rfl⟩:=tf rows 1 1 hn (.inl rfl) (.inl rfl) F hF;exact (dr row hr).exq (lr row hr)
theorem KN{fs:List (Int×Int)}{W O P L S:List Int}{rows:List (List Int×List Int×Int×Int)}{hs:List (List Int)}{g g':Int}{C:Rat}(rq:pH W O rows)(o0:O≠[])(lW:W.length<=11)(lO:O.length<=W.length)(p0:P≠[])(pz0:nz P (P.length-1)≠0)(lP:P.length<=11)(hL:(O::qT 1 1 rows).getLast? = some L)(g0:g≠0)(eL:∀k,nz L k=g*nz P k)(hW:∀k,fR W k=cf fs k*C)(hS:∀k,nz S k=((k+1:Nat):Int)*nz W (k+1))(gp:0<g')(hO:∀k,nz S k=g'*nz O k)(pt:yn P (W::O::qT 1 1 rows) hs):CC fs hs:=by
 have hn:∀row∈rows,row.2.2.1≠0/\row.2.2.2≠0:=λrow h=>⟨(rq.ne row h).1,(rq.ne row h).2.1⟩;obtain⟨L',s,e,ps,hs',_⟩:=jM rows 1 1 O O hn (.inl rfl) (.inl rfl) (λk=>by rw[Xn]) rfl
 rw[hL] at e;cases e;have s2:s*s=1:=by rcases ps with z|z<;>rw[z]<;>decide
 have el:∀k,nz (fM O rows) k=(s*g)*nz P k:=λk=>by
  have a:=hs' k;rw[eL k] at a;have:s*(g*nz P k)=s*(s*nz (fM O rows) k):=by rw[a]
  rw[<-Y3,<-Y3,s2,Xn] at this;exact this.symm
 have pl:Py (aQ P):=dD ();have l0:∃x,aQ P x≠0:=Xy λz=>pz0 (by
  have:=oJ (F:=P) (G:=[]) () (by simp) (λx=>by
   rw[sN];exact Xy λy=>z ⟨x,y⟩) (P.length-1)
  rw[this,aL (by simp)])
 cases pt with
 | @cons _ h0 _ _ a1 a2 a3 a4 pt =>
 cases pt with
 | @cons _ h1 _ tl b1 b2 b3 b4 pt =>
 have e0:∀x,aQ W x=aQ h0 x*aQ P x:=nC () a4;have e1:∀x,aQ O x=aQ h1 x*aQ P x:=nC () b4;have c1:((1:Int):Rat)=1:=rfl;refine .inr ⟨h0,h1,tl,(g':Rat),rfl,λR R0=>?_,Rat.intCast_pos.mpr gp,λl c dl el' x=>?_⟩
 .exact rq.ch R0 pl l0 (a:=1) (b:=1) (g:=s*g) (.inl rfl) (.inl rfl) (Y9 (by rcases ps with z|z<;>nofun) g0) o0 lW lO a1.1 b1.1 (λx=>by rw[c1,Rat.one_mul];exact e0 x) (λx=>by rw[c1,Rat.one_mul];exact e1 x) pt.hsOk λx=>gN el x
 .have eW:∀x,aQ W x=(c*C)*ug l x:=λx=>by
   have:aQ W x=EV (cf fs) x*C:=by
    unfold aQ;rw[cD (g:=λk=>0+C*cf fs k) (λk=>by rw[hW k];grind) x,mv,ot (f:=λ_=>0) λ_=>rfl]
    grind
   rw[this,el' x];grind
  have sid:=A7 dl lW hS eW;have key:=Py.zero (f:=λx=>(g':Rat)*(aQ h1 x*di l x)-aQ h0 x*iu l x) (g:=aQ P) ?_ pl (λx=>?_) l0 x
  .grind
  .have q1:∀l:List (aR×Nat),Py (di l)/\Py (iu l):=by
    have fp:∀q:aR,Py q.p/\Py q.d:=λq=>by
     cases q with
     | line r=>exact⟨(Py.id.sub (.const r)).congr λx=>rfl,(Py.const 1).congr λx=>rfl⟩
     | root n=>exact⟨((Py.id.mul Py.id).sub (.const n)).congr λx=>rfl,((Py.const 2).mul Py.id).congr λx=>rfl⟩
     | none n=>exact⟨((Py.id.mul Py.id).add (.const n)).congr λx=>rfl,((Py.const 2).mul Py.id).congr λx=>rfl⟩
    intro l;induction l with
    | nil=>exact⟨(Py.const 1).congr λx=>rfl,(Py.const 0).congr λx=>rfl⟩
    | cons q l ih=>exact⟨((fp q.1).1.mul ih.1).congr λx=>rfl,((((Py.const _).mul (fp q.1).2).mul ih.1).add ((fp q.1).1.mul ih.2)).congr λx=>rfl⟩
   exact (((dD ()).mul (q1 l).1).sc _).sub ((dD ()).mul (q1 l).2)
  .have z1:=sid x;have z2:aQ S x=(g':Rat)*aQ O x:=gN hO x;rw[z2,e0 x,e1 x] at z1;grind
theorem DX{fs:List (Int×Int)}{hs:List (List Int)}{l:List (aR×Nat)}{c:Rat}(h:CC fs hs)(all:∀x∈hs,x≠[]/\x.length<=20/\nz x (x.length-1)≠0)(ok:∀q∈l,q.1.ok/\1<=q.2)(un:l.Pairwise λa b=>a.1≠b.1)(dl:fN l<=17)(d1:fs.length=fN l+1)(e:∀x,EV (cf fs) x=c*ug l x) {lo hi:Option Rat}(lt:∀a b,lo=some a->hi=some b->a<=b):chg 0 (sC (-1) lo hs)+Be l lo=chg 0 (sC 1 hi hs)+vA l hi:=by
 rcases h with ⟨f1,a,a0,rfl⟩|⟨h0,h1,tl,κ,rfl,ch,k0,id⟩
 .have l0:l=[]:=by
   cases l with
   | nil=>rfl
   | cons q l =>
    have h1:fN (q::l)=q.2*q.1.deg+fN l:=rfl;have h2:=(ok q Yi).2;have h3:1<=q.1.deg:=by cases q.1<;>simp[aR.deg]
    have:=Xp h2 h3;nofun
  subst l0;have e1:∀x,Be [] x=0:=λx=>by cases x<;>rfl
  have e2:∀x,vA [] x=0:=λx=>by cases x<;>rfl
  have one:∀s:Int,chg 0 [s]=0:=λs=>by
   by_cases z:s=0
   .rw[z,GQ];rfl
   .rw[uO z];rfl
  have e3:∀(side:Int)(y:Option Rat),chg 0 (sC side y [[a]])=0:=λside y=>by
   cases y with
   | none=>exact one _
   | some x=>exact one _
  rw[e1,e2,e3,e3]
 .exact xD ch ok un k0 (id l c dl e) all lt
def vI(u v:Rat):Int:=if sg u*sg v = -1 then 1 else 0
def BN(R:Rat)(f g:Rat->Rat)(A:Rat->Int):Prop:=∃δ:Rat,0<δ /\ ∀c d,Wi R c->Wi R d->c<=d->d-c<=δ->(sg (f c)=sg (f d)/\sg (f c)≠0/\A c=A d)\/(sg (g c)=sg (g d)/\sg (g c)≠0/\vI (f c) (g c)+A c=vI (f d) (g d)+A d)
def Bz(f g:Rat->Rat):Prop:=∃u v,Py u/\Py v /\ ∀x,u x*f x+v x*g x=1
theorem Bz.symm{f g:Rat->Rat}(h:Bz f g):Bz g f:=by
 obtain⟨u,v,a,b,e⟩:=h;exact⟨v,u,b,a,λx=>by have:=e x;grind⟩
theorem Bz.mul{f g h:Rat->Rat}(pf:Py f)(pg:Py g)(ph:Py h)(a:Bz f g)(b:Bz f h):Bz f λx=>g x*h x:=by
 obtain⟨u,v,pu,pv,e⟩:=a;obtain⟨u',v',pu',pv',e'⟩:=b;refine⟨λx=>u x*(u' x*f x+v' x*h x)+v x*g x*u' x,λx=>v x*v' x,(pu.mul ((pu'.mul pf).add (pv'.mul ph))).add ((pv.mul pg).mul pu'),pv.mul pv',λx=>?_⟩;have e1:=e x;have e2:=e' x;have:(u x*f x+v x*g x)*(u' x*f x+v' x*h x)=1:=by rw[e1,e2];grind
 grind
theorem Bz.add{f g k:Rat->Rat}(pk:Py k)(h:Bz f g):Bz f λx=>g x+f x*k x:=by
 obtain⟨u,v,pu,pv,e⟩:=h;exact⟨λx=>u x-v x*k x,v,pu.sub (pv.mul pk),pv,λx=>by have:=e x;grind⟩
theorem Bz.congr{f g f' g':Rat->Rat}(h:Bz f g)(e1:∀x,f' x=f x)(e2:∀x,g' x=g x):Bz f' g':=by
 obtain⟨u,v,pu,pv,e⟩:=h;exact⟨u,v,pu,pv,λx=>by rw[e1,e2];exact e x⟩
theorem Bz.of{f g a b:Rat->Rat}{c:Rat}(pa:Py a)(pb:Py b)(c0:c≠0)(e:∀x,a x*f x+b x*g x=c):Bz f g :=
 ⟨λx=>1/c*a x,λx=>1/c*b x,pa.sc _,pb.sc _,λx=>by
  have:=e x;have:1/c*c=1:=⋯;grind⟩
theorem aR.pp:∀q:aR,Py q.p
 | .line r=>(Py.id.sub (.const r)).congr λ_=>rfl
 | .root n=>((Py.id.mul Py.id).sub (.const n)).congr λ_=>rfl
 | .none n=>((Py.id.mul Py.id).add (.const n)).congr λ_=>rfl
theorem aR.pd:∀q:aR,Py q.d
 | .line _=>(Py.const 1).congr λ_=>rfl
 | .root _=>((Py.const 2).mul Py.id).congr λ_=>rfl
 | .none _=>((Py.const 2).mul Py.id).congr λ_=>rfl
theorem jL:∀l:List (aR×Nat),Py (di l)
 | []=>(Py.const 1).congr λ_=>rfl
 | q::l=>(q.1.pp.mul (jL l)).congr λ_=>rfl
theorem m8:∀l:List (aR×Nat),Py (iu l)
 | []=>(Py.const 0).congr λ_=>rfl
 | q::l=>((((Py.const _).mul q.1.pd).mul (jL l)).add (q.1.pp.mul (m8 l))).congr λ_=>rfl
theorem aR.bz{q q':aR}(h:q.ok)(h':q'.ok)(n:q≠q'):Bz q.p q'.p:=by
 have none_none:∀m m':Rat,m≠m'->Bz (aR.none m).p (aR.none m').p:=λm m' n=>.of (a:=λ_=>1) (b:=λ_=>-1) (c:=m-m') (.const 1) (.const (-1)) (λz=>n ⋯) λx=>by
  show 1*(x*x+m) + -1*(x*x+m')=m-m';grind
 have line_none:∀r m:Rat,0<m->Bz (aR.line r).p (aR.none m).p:=λr m m0=>.of (a:=λx=>-(x+r)) (b:=λ_=>1) (c:=r*r+m) (((Py.id.add (.const r)).sc (-1)).congr λx=>by grind) (.const 1) (λz=>by have:=jm r;grind) λx=>by
  show -(x+r)*(x-r)+1*(x*x+m)=r*r+m;grind
 have root_none:∀n m:Rat,0<n->0<m->Bz (aR.root n).p (aR.none m).p:=λn m n0 m0=>.of (a:=λ_=>-1) (b:=λ_=>1) (c:=n+m) (.const (-1)) (.const 1) ⋯ λx=>by
  show -1*(x*x-n)+1*(x*x+m)=n+m;grind
 have line_root':∀r n:Rat,(∀r:Rat,r*r≠n)->Bz (aR.line r).p (aR.root n).p:=λr n hn=>.of (a:=λx=>-(x+r)) (b:=λ_=>1) (c:=r*r-n) (((Py.id.add (.const r)).sc (-1)).congr λx=>by grind) (.const 1) (λz=>hn r ⋯) λx=>by
  show -(x+r)*(x-r)+1*(x*x-n)=r*r-n;grind
 cases q with
 | line r =>
  cases q' with
  | line s=>exact .of (a:=λ_=>1) (b:=λ_=>-1) (c:=s-r) (.const 1) (.const (-1)) (λz=>n (by rw[show r=s by grind])) λx=>by show 1*(x-r) + -1*(x-s)=s-r;grind
  | root m=>exact line_root' r m h'.2
  | none m=>exact line_none r m h'
 | root m =>
  cases q' with
  | line s=>exact (line_root' s m h.2).symm
  | root m'=>exact .of (a:=λ_=>1) (b:=λ_=>-1) (c:=m'-m) (.const 1) (.const (-1)) (λz=>n (by rw[show m=m' by grind])) λx=>by show 1*(x*x-m) + -1*(x*x-m')=m'-m;grind
  | none m'=>exact root_none m m' h.1 h'
 | none m =>
  cases q' with
  | line s=>exact (line_none s m h).symm
  | root m'=>exact (root_none m' m h'.1 h).symm
  | none m'=>exact none_none m m' λz=>n (by rw[z])
theorem aR.bzd{q:aR}(h:q.ok):Bz q.p q.d:=by
 cases q with
 | line r=>exact .of (a:=λ_=>0) (b:=λ_=>1) (c:=1) (.const 0) (.const 1) ∅ λx=>by show 0*_+1*(1:Rat)=1;grind
 | root n =>
  have n0:=h.1;exact .of (a:=λ_=>-2) (b:=λx=>x) (c:=2*n) (.const (-2)) .id ⋯ λx=>by show -2*(x*x-n)+x*(2*x)=2*n;grind
 | none n =>
  have n0:0<n:=h;exact .of (a:=λ_=>2) (b:=λx=>-x) (c:=2*n) (.const 2) ((Py.id.sc (-1)).congr λx=>by grind) ⋯ λx=>by show 2*(x*x+n) + -x*(2*x)=2*n;grind
theorem Bz.sc{f g:Rat->Rat}{c:Rat}(c0:c≠0)(h:Bz f g):Bz f λx=>c*g x:=by
 obtain⟨u,v,pu,pv,e⟩:=h;exact⟨u,λx=>1/c*v x,pu,pv.sc _,λx=>by
  have:=e x;have:1/c*c=1:=⋯;grind⟩
theorem Cn{q:aR}(h:q.ok):∀{l:List (aR×Nat)},(∀p∈l,p.1.ok/\1<=p.2)->(∀p∈l,q≠p.1)->Bz q.p (di l)
 | [],_,_=>(Bz.of (a:=λ_=>0) (b:=λ_=>1) (c:=1) (g:=λ_=>1) (.const 0) (.const 1) ∅ λx=>by grind).congr (λ_=>rfl) λ_=>rfl
 | p::l,ok,n=>(Bz.mul q.pp p.1.pp (jL l) (aR.bz h (ok p Yi).1 (n p Yi)) (Cn h (λp' hp=>ok p' (Yj _ hp)) λp' hp=>n p' (Yj _ hp))).congr (λ_=>rfl) λ_=>rfl
theorem C5:∀{l:List (aR×Nat)},(∀q∈l,q.1.ok/\1<=q.2)->l.Pairwise (λa b=>a.1≠b.1)->Bz (di l) (iu l)
 | [],_,_=>⟨λ_=>1,λ_=>0,.const 1,.const 0,λx=>by show 1*1+0*0=(1:Rat);grind⟩
 | q::l,ok,un=>by
  obtain⟨u1,u2⟩:=List.pairwise_cons.mp un;have okl:∀p∈l,p.1.ok/\1<=p.2:=λp hp=>ok p (Yj _ hp);have ih:=C5 okl u2;have hq:=ok q Yi;have m0:((q.2:Nat):Rat)≠0:=λz=>by
   have h1:((1:Nat):Rat)<=((q.2:Nat):Rat):=Rat.natCast_le_natCast.mpr hq.2;have h2:((1:Nat):Rat)=1:=rfl;grind
  have b1:=Cn hq.1 okl λp hp=>u1 p hp;have x1:Bz q.1.p (iu (q::l)):=by
   have:=(((Bz.mul q.1.pp q.1.pd (jL l) (aR.bzd hq.1) b1).sc m0)).add (m8 l);exact this.congr (λ_=>rfl) λx=>by show ((q.2:Nat):Rat)*q.1.d x*di l x+q.1.p x*iu l x=_;grind
  have x2:Bz (di l) (iu (q::l)):=by
   have:=(Bz.mul (jL l) q.1.pp (m8 l) b1.symm ih).add ((q.1.pd.sc ((q.2:Nat):Rat)));exact this.congr (λ_=>rfl) λx=>by show ((q.2:Nat):Rat)*q.1.d x*di l x+q.1.p x*iu l x=_;grind
  exact (Bz.mul (m8 _) q.1.pp (jL l) x1.symm x2.symm).symm.congr (λ_=>rfl) λ_=>rfl
theorem qh:∀l:List Rat,∃l':List Rat,(∀x,eU l x=eU l' x)/\(l'=[] \/ ∃c,l'.getLast? = some c/\c≠0)
 | []=>⟨[],λ_=>rfl,.inl rfl⟩
 | a::l=>by
  obtain⟨l',e,h⟩:=qh l;rcases h with rfl|⟨c,hc,c0⟩
  .by_cases z:a=0
   .exact⟨[],λx=>by show a+x*eU l x=0;rw[e x];show a+x*0=0;grind,.inl rfl⟩
   .exact⟨[a],λx=>by show a+x*eU l x=a+x*0;rw[e x];rfl,.inr ⟨a,rfl,z⟩⟩
  .refine⟨a::l',λx=>by show a+x*eU l x=a+x*eU l' x;rw[e x],.inr ⟨c,?_,c0⟩⟩
   cases l' with
   | nil=>cases hc
   | cons b l'=>rw[List.getLast?_cons_cons];exact hc
theorem sQ:∀l:List Rat,(∃c,l.getLast? = some c/\c≠0) -> ∃R c:Rat,0<R/\0<c /\ ∀x,R<=x->Bg c (eU l x)/\(2<=l.length->Bg (c*x) (eU l x))
 | [],⟨_,h,_⟩=>by cases h
 | [a],⟨c,h,c0⟩=>by
  cases h;rcases cC a with ⟨z,_⟩|⟨z,_⟩|⟨z,_⟩
  .exact⟨1,a,∅,z,λx _=>⟨.inl (by show a<=a+x*0;grind),λh=>by simp at h⟩⟩
  .exact⟨1,-a,∅,⋯,λx _=>⟨.inr (by show a+x*0<=_;grind),λh=>by simp at h⟩⟩
  .exact absurd z c0
 | a::b::l,⟨c,h,c0⟩=>by
  rw[List.getLast?_cons_cons] at h;obtain⟨R,k,R0,k0,hk⟩:=sQ (b::l) ⟨c,h,c0⟩;obtain⟨t,t0,ht⟩:=iB.const (R:=0) a;have ht:=ht 0 (by unfold Wi;grind)
  have tk:0<2*t/k:=by rw[Xx k0];grind
  have tkk:2*t/k*k=2*t:=⋯;refine⟨R+1+2*t/k,k/2,⋯,⋯,λx hx=>?_⟩;have b1:=(hk x ⋯).1;have m:=Xq (Xw k0) (show 0<=x-(1+2*t/k) by grind)
  have b2:=(show Bg x x from .inl ⋯).mul b1 ⋯ (Xw k0)
  have b3:Bg (k/2*x) (a+x*eU (b::l) x):=by
   unfold Bg at b2 ⊢;unfold Sm at ht;grind
  refine⟨b3.mono ?_,λ_=>b3⟩;have:=Xq (show 0<=k/2 by grind) (show 0<=x-1 by grind)
  grind
theorem wS{w v:Rat->Rat}(pw:Py w)(pv:Py v)(e:∀x,w x*v x=1):∃c:Rat,c≠0 /\ ∀x,w x=c:=by
 obtain⟨lw,hw⟩:=pw;obtain⟨lv,hv⟩:=pv;obtain⟨w',ew,kw⟩:=qh lw;obtain⟨v',ev,kv⟩:=qh lv;have nw:w'≠[]:=λz=>by
  have:=e 0;rw[hw,ew,z] at this;have this:(0:Rat)*v 0=1:=this;grind
 have nv:v'≠[]:=λz=>by
  have:=e 0;rw[hv,ev,z] at this;have this:w 0*(0:Rat)=1:=this;grind
 obtain⟨R1,c1,R10,c10,h1⟩:=sQ w' (kw.resolve_left nw);obtain⟨R2,c2,R20,c20,h2⟩:=sQ v' (kv.resolve_left nv);by_cases l2:2<=w'.length
 .exfalso;have cc:=Xv c10 c20;have d0:0<2/(c1*c2):=by rw[Xx cc];grind
  have dd:2/(c1*c2)*(c1*c2)=2:=⋯;obtain⟨x,hx⟩ : ∃x,x=R1+R2+2/(c1*c2):=⟨_,rfl⟩;have b1:=(h1 x ⋯).2 l2;have b2:=(h2 x ⋯).1;have x0:0<x:=⋯;have b3:=b1.mul b2 (Xw (Xv c10 x0)) (Xw c20);have e1:=e x;rw[hw,hv,ew,ev] at e1;rw[e1] at b3;have:=Xq (Xw cc) (show 0<=x-2/(c1*c2) by grind)
  unfold Bg at b3;grind
 .clear h1 kw;match w',nw,l2,ew with
  | _::_::_,_,l2,_=>exact absurd (by simp) l2
  | [a],_,_,ew =>
   have ex:∀x,w x=a:=λx=>by rw[hw,ew x];show a+x*0=a;grind
   refine⟨a,λz=>?_,ex⟩;have:=e 0;rw[ex,z] at this;grind
theorem CL{l:List (aR×Nat)}{f g:Rat->Rat}{κ:Rat}(pf:Py f)(pg:Py g)(ok:∀q∈l,q.1.ok/\1<=q.2)(un:l.Pairwise λa b=>a.1≠b.1)(k0:0<κ)(id:∀x,κ*(g x*di l x)=f x*iu l x)(bz:Bz f g):∃c:Rat,c≠0 /\ ∀x,f x=c*di l x:=by
 obtain⟨u,v,pu,pv,e⟩:=bz;obtain⟨u',v',pu',pv',e'⟩:=C5 ok un;have p1:=jL l;have p2:=m8 l;have w1:∀x,di l x=f x*(u x*di l x+1/κ*(v x*iu l x)):=λx=>by
  have h1:=e x;have h2:=id x;have kk:1/κ*κ=1:=⋯;have:di l x=(u x*f x+v x*g x)*di l x:=by rw[h1];grind
  have h3:g x*di l x=1/κ*(f x*iu l x):=by
   rw[<-h2];grind
  grind
 have w2:∀x,f x=di l x*(u' x*f x+κ*(v' x*g x)):=λx=>by
  have h1:=e' x;have h2:=id x;have:f x=f x*(u' x*di l x+v' x*iu l x):=by rw[h1];grind
  grind
 have n0:∃x,di l x≠0:=Xy λz=>by
  have h1:=e' 0;have h2:∀x,di l x=0:=λx=>Xy λy=>z ⟨x,y⟩;have:∀(l:List (aR×Nat)),∃R:Rat,0<R /\ ∀x,R<=x->(∀q∈l,q.1.ok/\1<=q.2)->di l x≠0:=by
   intro l;induction l with
   | nil=>exact⟨1,∅,λx _ _=>by show (1:Rat)≠0;decide⟩
   | cons q l ih =>
    obtain⟨R,R0,hR⟩:=ih;obtain⟨R',R1,hR'⟩ : ∃R:Rat,0<R /\ ∀x,R<=x->q.1.ok->q.1.p x≠0:=by
     cases q.1 with
     | line r =>
      obtain⟨t,t0,ht⟩:=iB.const (R:=0) r;have ht:=ht 0 (by unfold Wi;grind)
      exact⟨t+1,⋯,λx hx _=>by show x-r≠0;unfold Sm at ht;grind⟩
     | root n=>exact⟨1,∅,λx _ o=>λy=>o.2 x (by have y:x*x-n=0:=y;grind)⟩
     | none n=>exact⟨1,∅,λx _ o=>λy=>by have y:x*x+n=0:=y;have o:0<n:=o;have:=jm x;grind⟩
    refine⟨R+R',⋯,λx hx ok y=>?_⟩;have y:q.1.p x*di l x=0:=y;rcases Rat.mul_eq_zero.mp y with z|z
    .exact hR' x ⋯ (ok q Yi).1 z
    .exact hR x ⋯ (λp hp=>ok p (Yj _ hp)) z
  obtain⟨R,R0,hR⟩:=this l;exact hR R ⋯ ok (h2 R)
 have pw:Py λx=>u x*di l x+1/κ*(v x*iu l x):=(pu.mul p1).add ((pv.mul p2).sc _);have pw2:Py λx=>u' x*f x+κ*(v' x*g x):=(pu'.mul pf).add ((pv'.mul pg).sc _);have prod:∀x,(u' x*f x+κ*(v' x*g x))*(u x*di l x+1/κ*(v x*iu l x))=1:=λx=>by
  have:=Py.zero (f:=λx=>(u' x*f x+κ*(v' x*g x))*(u x*di l x+1/κ*(v x*iu l x))-1) (g:=di l) ((pw2.mul pw).sub (.const 1)) p1 (λx=>by
   have a:=w1 x;have b:=w2 x;have:di l x=di l x*(u' x*f x+κ*(v' x*g x))*(u x*di l x+1/κ*(v x*iu l x)):=by rw[<-b];exact a
   grind) n0 x
  grind
 obtain⟨c,c0,hc⟩:=wS pw2 pw prod;exact⟨c,c0,λx=>by
  have a:=w2 x;have b:=hc x;have b:u' x*f x+κ*(v' x*g x)=c:=b;rw[b] at a;grind⟩
def mB(ms ns:List Int)(rows:List (List Int×List Int×Int×Int)):List (List Int):=if ns=[] then [ms] else ms::ns::qT 1 1 rows
theorem pH.bez{F G:List Int}{rows:List (List Int×List Int×Int×Int)}(h:pH F G rows)(lF:F.length<=11)(lG:G.length<=F.length)(g0:G≠[]):∃u v,Py u/\Py v /\ ∀x,u x*aQ F x+v x*aQ G x=aQ (fM G rows) x:=by
 induction h with
 | nought=>exact absurd rfl g0
 | @last F G Q S _ _ _ _ _=>exact⟨λ_=>0,λ_=>1,.const 0,.const 1,λx=>by show 0*aQ F x+1*aQ G x=aQ G x;grind⟩
 | @more F G R Q T S rows _ gl s0 t0 r0 rl lr lq e hr ih =>
  obtain⟨u,v,pu,pv,hx⟩:=ih () () r0;have t0':=aq t0;refine⟨λx=>(S:Rat)/(T:Rat)*v x,λx=>u x-1/(T:Rat)*(v x*aQ Q x),pv.sc _,pu.sub ((pv.mul (dD ())).sc _),λx=>?_⟩;have h1:=hx x;have h2:(S:Rat)*aQ F x=aQ Q x*aQ G x+(T:Rat)*aQ R x:=m5 (show Q.length+G.length<=20 by nofun) e x
  show _=aQ (fM R rows) x;rw[<-h1];have h3:aQ R x=(S:Rat)/(T:Rat)*aQ F x-1/(T:Rat)*(aQ Q x*aQ G x):=by
   have:(T:Rat)*aQ R x=(S:Rat)*aQ F x-aQ Q x*aQ G x:=⋯;have k:1/(T:Rat)*(T:Rat)=1:=⋯;have k2:(S:Rat)/(T:Rat)=1/(T:Rat)*(S:Rat):=⋯;rw[k2];grind
  rw[h3];grind
theorem E8{M a b:Rat}(ha : -M<=a)(hb:b<=M)(ab:a<=b):eY b-eY a<=2*M*(b-a):=by
 have M0:0<=M:=⋯;unfold eY;by_cases za:a<0
 .by_cases zb:b<0
  .rw[Yb za,Yb zb];have:=Xq (show 0<=b-a by grind) (show 0<=2*M+(a+b) by grind)
   grind
  .rw[Yb za,Yc zb];have h1:=Xq (show 0<=b by grind) (show 0<=M-b by grind)
   have h2:=Xq (show 0 <= -a by grind) (show 0<=M+a by grind)
   have h3:=Xq M0 (show 0<=b-a by grind)
   grind
 .rw[Yc za,Yc (show ¬ b<0 by grind)]
  have:=Xq (show 0<=b-a by grind) (show 0<=2*M-(a+b) by grind)
  grind
theorem uF{p q:Int×Int}{B:Nat}(fp:Fq p)(fq:Fq q)(bp:Bq B p)(bq:Bq B q)(lt:wv p<wv q):1<=(wv q-wv p)*(((2^(2*B):Nat):Int):Rat):=by
 have p2:(0:Rat)<(p.2:Rat):=Rat.intCast_pos.mpr fp.1;have q2:(0:Rat)<(q.2:Rat):=Rat.intCast_pos.mpr fq.1;have ep:wv p*(p.2:Rat)=(p.1:Rat):=XI ⋯;have eq:wv q*(q.2:Rat)=(q.1:Rat):=XI ⋯;have e:(wv q-wv p)*((p.2:Rat)*(q.2:Rat))=((q.1*p.2-p.1*q.2:Int):Rat):=by
  rw[Xc,Xb,Xb,<-ep,<-eq];grind
 have pq:=Xv p2 q2;have pos:0<q.1*p.2-p.1*q.2:=by
  rw[<-Rat.intCast_pos,<-e];exact Xv ⋯ pq
 have one:(1:Rat)<=(wv q-wv p)*((p.2:Rat)*(q.2:Rat)):=by
  rw[e];have:((1:Int):Rat)<=((q.1*p.2-p.1*q.2:Int):Rat):=Rat.intCast_le_intCast.mpr ();exact this
 have le:(p.2:Rat)*(q.2:Rat)<=(((2^(2*B):Nat):Int):Rat):=by
  rw[<-Xb];refine Rat.intCast_le_intCast.mpr ?_;have h1:p.2.natAbs<2^B:=bp.2;have h2:q.2.natAbs<2^B:=bq.2;have h3:p.2.natAbs*q.2.natAbs<=2^B*2^B:=Xp (Yh h1) (Yh h2);have h4:p.2*q.2=((p.2.natAbs*q.2.natAbs:Nat):Int):=by
   have a:=fp.1;have b:=fq.1;rw[show ((p.2.natAbs*q.2.natAbs:Nat):Int)=(p.2.natAbs:Int)*(q.2.natAbs:Int) by simp]
   rw[Int.natAbs_of_nonneg (),Int.natAbs_of_nonneg ()]
  rw[h4,show 2^(2*B)=2^B*2^B by rw[<-YV];congr 1;nofun]
  exact Int.ofNat_le.mpr h3
 have:=Xq (show 0<=wv q-wv p by grind) (show 0<=(((2^(2*B):Nat):Int):Rat)-(p.2:Rat)*(q.2:Rat) by grind)
 grind
theorem Gu{ρ y x A:Rat}(ρ0:0<ρ)(hy:2*ρ<=y)(hx:Sm y x)(A0:0<A):∀F:List Int,(∀k,k<F.length->Sm (A*iw ρ (F.length-k)) ((nz F k:Int):Rat))->Sm (A*iw y F.length-A*iw ρ F.length) (ga F x):=by
 intro F;induction F with
 | nil =>
  intro _;show Sm (A*1-A*1) (0:Rat);unfold Sm;grind
 | cons a F ih =>
  intro h;have h0:=h 0 (by simp)
  have h0:Sm (A*iw ρ (F.length+1)) (a:Rat):=h0;have i:=ih λk hk=>by
   have:=h (k+1) (by simp;nofun)
   rw[show (a::F).length-(k+1)=F.length-k by simp] at this
   exact this
  have y0:0<y:=⋯;have pρ:=fP ρ0 F.length;have m:=hx.mul i;show Sm (A*(y*iw y F.length)-A*(ρ*iw ρ F.length)) ((a:Rat)+x*ga F x);have h0:Sm (A*(ρ*iw ρ F.length)) (a:Rat):=h0;have ap:=Xv A0 pρ;have k:=Xq (Xw ap) (show 0<=y-2*ρ by grind)
  unfold Sm at *
  grind
theorem vE{c:Int}{x:Rat}:∀F:List Int,ga (F++[c]) x=ga F x+(c:Rat)*iw x F.length
 | []=>by show (c:Rat)+x*0=0+(c:Rat)*1;grind
 | a::F=>by
  show (a:Rat)+x*ga (F++[c]) x=(a:Rat)+x*ga F x+(c:Rat)*(x*iw x F.length);rw[vE F];grind
theorem vd{ρ x y:Rat}{c:Int}{F:List Int}(ρ0:0<ρ)(hy:2*ρ<=y)(hx:Sm y x)(bx:Bg y x)(c0:c≠0)(h:∀k,k<F.length->Sm (((c.natAbs:Int):Rat)*iw ρ (F.length-k)) ((nz F k:Int):Rat)):sg (ga (F++[c]) x)=sg ((c:Rat)*iw x F.length)/\sg (ga (F++[c]) x)≠0:=by
 have y0:0<y:=⋯;have A0:(0:Rat)<((c.natAbs:Int):Rat):=Rat.intCast_pos.mpr ();have s:=Gu ρ0 hy hx A0 F h;have bp:∀n,Bg (iw y n) (iw x n):=λn=>by
  induction n with
  | zero=>exact .inl (by show (1:Rat)<=1;grind)
  | succ n ih=>exact bx.mul ih (Xw y0) (Xw (fP y0 n))
 have bc:Bg ((c.natAbs:Int):Rat) (c:Rat):=by
  rcases Int.lt_or_gt_of_ne c0 with z|z
  .right
   rw[<-XG];exact Rat.intCast_le_intCast.mpr ()
  .left
   exact Rat.intCast_le_intCast.mpr ()
 have b:=bc.mul (bp F.length) (Xw A0) (Xw (fP y0 _));have ap:=Xv A0 (fP ρ0 F.length);rw[vE];generalize (c:Rat)*iw x F.length=M at b ⊢;generalize ((c.natAbs:Int):Rat)*iw y F.length=E at b s;generalize ((c.natAbs:Int):Rat)*iw ρ F.length=e at ap s;generalize ga F x=r at s;unfold Sm at s;unfold Bg at b;rcases b with b|b
 .rw[dM (show 0<r+M by grind),dM (show 0<M by grind)]
  exact⟨rfl,∅⟩
 .rw[gt (show r+M<0 by grind),gt (show M<0 by grind)]
  exact⟨rfl,∅⟩
theorem BN.const{R:Rat}{f g:Rat->Rat}{A:Rat->Int}(loc:BN R f g A) {a b:Rat}(wa:Wi R a)(wb:Wi R b)(ab:a<=b)(sa:∀x,a<=x->x<=b->sg (f x)=sg (f a)):A a=A b:=by
 obtain⟨δ,d0,h⟩:=loc;have step:∀c d,a<=c->d<=b->c<=d->d-c<=δ->A c=A d:=λc d ac db cd n=>by
  have wc:Wi R c:=by unfold Wi at *;grind
  have wd:Wi R d:=by unfold Wi at *;grind
  rcases h c d wc wd cd n with ⟨_,_,e⟩|⟨eg,_,e⟩
  .exact e
  .have ef:sg (f c)=sg (f d):=by rw[sa c ac ⋯,sa d ⋯ db]
   unfold vI at e;rw[ef,eg] at e;nofun
 have all:∀(n:Nat)(c:Rat),a<=c->c<=b->b-c<=(n:Rat)*δ->A c=A b:=by
  intro n;induction n with
  | zero =>
   intro c _ cb z;obtain rfl:c=b:=by
    have:((0:Nat):Rat)=0:=rfl;grind
   rfl
  | succ n ih =>
   intro c ac cb z;by_cases y:b-c<=δ
   .exact step c b ac ⋯ cb y
   .rw[step c (c+δ) ac ⋯ ⋯ ⋯];refine ih (c+δ) ⋯ ⋯ ?_;have:((n+1:Nat):Rat)=(n:Rat)+1:=by rw[Rat.natCast_add];rfl
    rw[this] at z;grind
 obtain⟨n,hn⟩ : ∃n:Nat,b-a<=(n:Rat)*δ:=by
  obtain⟨x,hx⟩ : ∃x,x=(b-a)/δ:=⟨_,rfl⟩;refine⟨(x.ceil).toNat,?_⟩;have h1:x<=((x.ceil:Int):Rat):=Rat.le_ceil;have h2:((x.ceil:Int):Rat)<=((x.ceil.toNat:Nat):Rat):=by
   rw[show ((x.ceil.toNat:Nat):Rat)=(((x.ceil.toNat:Nat):Int):Rat) from rfl]
   exact Rat.intCast_le_intCast.mpr (Int.self_le_toNat _)
  have h3:=Xq (Xw d0) (show 0<=((x.ceil.toNat:Nat):Rat)-x by grind)
  have h4:x*δ=b-a:=by rw[hx];grind
  grind
 exact all n a ⋯ ab hn
theorem Ge.toI{R:Rat}{f g:Rat->Rat}{A:Rat->Nat}(h:Ge R f g A):BN R f g λx=>((A x:Nat):Int):=by
 obtain⟨δ,d0,h⟩:=h;refine⟨δ,d0,λc d wc wd cd n=>?_⟩;rcases h c d wc wd cd n with ⟨a,b,e⟩|⟨a,b,e⟩
 .exact .inl ⟨a,b,Yn (λn:Nat=>(n:Int)) e⟩
 .refine .inr ⟨a,b,?_⟩;show vI (f c) (g c)+((A c:Nat):Int)=vI (f d) (g d)+((A d:Nat):Int);have k:∀x,((v1 f g x:Nat):Int)=vI (f x) (g x):=λx=>by
   unfold v1 vI;split<;>rfl
  rw[<-k,<-k];nofun
theorem xJ{y:Rat}:∀n,iw (-y) n=(if n%2=0 then 1 else -1)*iw y n
 | 0=>by show (1:Rat)=1*1;grind
 | n+1=>by
  show -y*iw (-y) n=_*(y*iw y n);rw[xJ n];by_cases z:n%2=0
  .rw[Yb z,Yc ()];grind
  .rw[Yc z,Yb ()];grind
theorem IW{l:List (aR×Nat)}{F h1:List Int}{c:Int}{g:Rat->Rat}{tl:List (Rat->Rat)}{κ ρ:Rat}(ch:∀R:Rat,0<=R->Ch R (aQ (F++[c])) (g::tl))(lg:∀R:Rat,0<=R->wG R g)(ok:∀q∈l,q.1.ok/\1<=q.2)(un:l.Pairwise λa b=>a.1≠b.1)(k0:0<κ)(id:∀x,κ*(g x*di l x)=aQ (F++[c]) x*iu l x)(lF:(F++[c]).length<=20)(ρ0:0<ρ)(c0:c≠0)(h:∀k,k<F.length->Sm (((c.natAbs:Int):Rat)*iw ρ (F.length-k)) ((nz F k:Int):Rat)):gD l (2*ρ)=vK l/\gD l (-(2*ρ))=0:=by
 obtain⟨R2,p2,f2⟩:=sE l ok;obtain⟨R,hR⟩ : ∃R,R=R2+2*ρ:=⟨_,rfl⟩;have R0:0<=R:=⋯;have nr:=(yf R0 ok un (ch R R0).lip (lg R R0) ((ch R R0).notBoth g tl rfl) k0 id).toI;obtain⟨o1,o2⟩:=f2 R ⋯;have up:∀x,2*ρ<=x->sg (aQ (F++[c]) x)=sg (c:Rat):=λx hx=>by
  rw[jD lF,(vd ρ0 hx (by unfold Sm;grind) (.inl ⋯) c0 h).1,je,dM (fP (show 0<x by grind) F.length),Yp]
 have dn:∀x,x <= -(2*ρ)->sg (aQ (F++[c]) x)=sg (c:Rat)*sg (if F.length%2=0 then 1 else -1:Rat):=λx hx=>by
  rw[jD lF,(vd (y:=-x) ρ0 ⋯ (by unfold Sm;grind) (.inr ⋯) c0 h).1,je,show iw x F.length=iw (- -x) F.length by rw[show - -x=x by grind],xJ,je,dM (fP (show 0 < -x by grind) F.length),Yp]
 have a1:=nr.const (a:=2*ρ) (b:=R) (by unfold Wi;grind) (by unfold Wi;grind) ⋯ λx h1 _=>by rw[up x h1,up (2*ρ) ⋯]
 have a2:=nr.const (a:=-R) (b:=-(2*ρ)) (by unfold Wi;grind) (by unfold Wi;grind) ⋯ λx _ h1=>by rw[dn x h1,dn (-R) ⋯]
 have a1:((gD l (2*ρ):Nat):Int)=((gD l R:Nat):Int):=a1;have a2:((gD l (-R):Nat):Int)=((gD l (-(2*ρ)):Nat):Int):=a2;rw[o1] at a1;rw[o2] at a2;nofun
theorem vC(E:Nat):∀k,iw ((((2^E:Nat):Int):Rat)/2) k*(((2^k:Nat):Int):Rat)=(((2^(E*k):Nat):Int):Rat)
 | 0=>by show (1:Rat)*((1:Int):Rat)=((1:Int):Rat);have:((1:Int):Rat)=1:=rfl;rw[this];grind
 | k+1=>by
  have ih:=vC E k;have e1:(((2^(k+1):Nat):Int):Rat)=2*(((2^k:Nat):Int):Rat):=by
   rw[show (2:Rat)=((2:Int):Rat) from rfl,<-Xb]
   congr 1
   rw[YW];nofun
  have e2:(((2^(E*(k+1)):Nat):Int):Rat)=(((2^E:Nat):Int):Rat)*(((2^(E*k):Nat):Int):Rat):=by
   rw[<-Xb];congr 1
   rw[Nat.mul_succ,YV,YH];rfl
  show (((2^E:Nat):Int):Rat)/2*iw _ k*_=_;rw[e1,e2,<-ih];grind
theorem xj{w c:Int}{b B k E:Nat}(hw:w.natAbs<2^b)(hc:2^(B-1)<=c.natAbs)(B1:1<=B)(k1:1<=k)(hE:1-((B:Int)-(b:Int)-1).fdiv (k:Int)<=(E:Int)):Sm (((c.natAbs:Int):Rat)*iw ((((2^E:Nat):Int):Rat)/2) k) (w:Rat):=by
 have q1:((B:Int)-(b:Int)-1).fdiv (k:Int)*(k:Int)<=(B:Int)-(b:Int)-1:=by
  rw[Int.fdiv_eq_ediv_of_nonneg _ ()];exact Int.ediv_mul_le _ ()
 have q2:((E*k:Nat):Int) >= (k:Int)-((B:Int)-(b:Int)-1):=by
  have m:=Int.mul_le_mul_of_nonneg_right hE (show (0:Int)<=(k:Int) by nofun)
  rw[Int.sub_mul,Xn] at m;rw[show ((E*k:Nat):Int)=(E:Int)*(k:Int) by simp]
  nofun
 have q3:b+k<=(B-1)+E*k:=();have h1:w.natAbs*2^k<=c.natAbs*2^(E*k):=by
  refine Yg (XF _ (Yh hw)) (Yg ?_ (XF _ hc));rw[<-YV,<-YV];exact YT ∅ q3
 have p:=vC E k;have t0:(0:Rat)<(((2^k:Nat):Int):Rat):=Rat.intCast_pos.mpr (by have:=Nat.two_pow_pos k;nofun)
 have h2:((w.natAbs:Int):Rat)*(((2^k:Nat):Int):Rat)<=((c.natAbs:Int):Rat)*(((2^(E*k):Nat):Int):Rat):=by
  rw[<-Xb,<-Xb];refine Rat.intCast_le_intCast.mpr ?_;rw[<-XH,<-XH];exact Int.ofNat_le.mpr h1
 rw[<-p] at h2;have h3:((w.natAbs:Int):Rat)<=((c.natAbs:Int):Rat)*iw ((((2^E:Nat):Int):Rat)/2) k:=by
  refine Rat.not_lt.mp λz=>?_;have:=Xv (show 0<((w.natAbs:Int):Rat)-((c.natAbs:Int):Rat)*iw ((((2^E:Nat):Int):Rat)/2) k by grind) t0
  grind
 have h4:(w:Rat)<=((w.natAbs:Int):Rat):=Rat.intCast_le_intCast.mpr ();have h5 : -((w.natAbs:Int):Rat)<=(w:Rat):=by
  rw[<-XG];exact Rat.intCast_le_intCast.mpr ()
 unfold Sm;grind
theorem Hj{α:Type}{l:List α}(nd:l.Nodup)(h:∀x∈l,∀y∈l,x=y):l.length<=1:=by
 match l,nd,h with
 | [],_,_=>simp
 | [_],_,_=>simp
 | a::b::l,nd,h =>
  obtain⟨n,_⟩:=List.nodup_cons.mp nd;exact absurd (by rw[h a (by simp) b (by simp)];simp) n
theorem Bv{ms:List Rat}{M a b:Rat}{B:Nat}(nd:ms.Nodup)(hm:∀m∈ms,∃q:Int×Int,m=wv q/\Fq q/\Bq B q)(ha : -M<=a)(hb:b<=M)(ab:a<=b)(sm:2*M*(b-a)*(((2^(2*B):Nat):Int):Rat)<=1):(ms.filter (tj (some a) (some b))).length<=1:=by
 refine Hj (nd.filter _) λx hx y hy=>?_;have key:∀x y:Rat,x∈ms.filter (tj (some a) (some b))->y∈ms.filter (tj (some a) (some b)) -> ¬ x<y:=λx y hx hy lt=>by
  obtain⟨hx1,hx2⟩:=List.mem_filter.mp hx;obtain⟨hy1,hy2⟩:=List.mem_filter.mp hy;simp only[tj,YX,decide_eq_true_eq,Bool.not_eq_true',decide_eq_false_iff_not] at hx2 hy2;obtain⟨p,rfl,fp,bp⟩:=hm x hx1;obtain⟨q,rfl,fq,bq⟩:=hm y hy1;have h1:=uF fp fq bp bq lt;have h2:=E8 ha hb ab;have t0:(0:Rat)<(((2^(2*B):Nat):Int):Rat):=Rat.intCast_pos.mpr (by have:=Nat.two_pow_pos (2*B);nofun)
  have h3:=Xv (show 0<2*M*(b-a)-(wv q-wv p) by grind) t0
  grind
 have a1:=key x y hx hy;have a2:=key y x hy hx;grind
def wt(J:Nat)(l:Nat):Nat:=2^(J+2-l)-1
end L2
namespace L2
open PySem PySem.Spec PyProof.Rows
section
variable {X:Cx}
theorem Gh:gh X (binaryOp .LShift) (rI (λi j=>0<=j/\(Builtin.Int.intBits i:Int)+j<=2^27) λi j=>.int (i*2^j.toNat)):=Ks λ_ _ _ _ _ _ _ hc q=>lshift_int hc.1 hc.2 q
def J8:V->List V->Hp->VK->Prop:=λx vs H Q=>∃i,x=.int i/\vs=[]/\Q (.int ((Builtin.Int.intBits i:Nat):Int)) H
theorem kD:K7 X "int.bit_length" J8:=by
 intro pins s σ H x vs v us Q I rx rv h;obtain⟨i,rfl,rfl,q⟩:=h;obtain⟨t,rfl⟩:=rx;cases rv;exact call_int_bit_length ⟨.int _,H,I.tok _,⟨_,rfl⟩,q⟩
end
theorem EU(w:Int):w.natAbs<2^Builtin.Int.intBits w:=by
 unfold Builtin.Int.intBits;by_cases z:w=0
 .subst z;decide
 .rw[Yc (by simpa using z)]
  exact Nat.lt_log2_self
theorem oB{w:Int}(z:w≠0):1<=Builtin.Int.intBits w/\2^(Builtin.Int.intBits w-1)<=w.natAbs:=by
 unfold Builtin.Int.intBits;rw[Yc (by simpa using z)]
 exact⟨(),Nat.log2_self_le ()⟩
theorem F5{w:Int}{n:Nat}(h:Bt n w):Builtin.Int.intBits w<=n:=by
 by_cases z:w=0
 .subst z;exact YS _
 .have:=oB z;have h:w.natAbs<2^n:=h;have h3:2^(Builtin.Int.intBits w-1)<2^n:=Nat.lt_of_le_of_lt this.2 h;have:=(Nat.pow_lt_pow_iff_right (by decide:1<2)).mp h3
  nofun
def p2(E:Nat):Rat:=(((2^E:Nat):Int):Rat)
theorem Bk(E:Nat):0<p2 E:=Rat.intCast_pos.mpr (by have:=Nat.two_pow_pos E;nofun)
def Mc(W:List Int)(E:Nat):Prop:=∀k,k<W.length-1->Sm ((((nz W (W.length-1)).natAbs:Int):Rat)*iw (p2 E/2) (W.length-1-k)) ((nz W k:Int):Rat)
structure Mh where
 lo:Int
 hi:Int
 bo:Int
 ls:List Int
 us:List Int
def Ku:List Int->Int
 | []=>0
 | [x]=>x
 | x::y::_=>if x≠0 then x else y
structure Me (hs:List (List Int))(A:Rat->Nat)(Sg:Int->Rat->Prop)(T B:Nat):Prop where
 far:chg 0 (hs.map (fT (-1)))=chg 0 (hs.map (fT 1))+T
 mid:∀x,chg 0 (hs.map (fT (-1)))=chg 0 (wY x (hs.map aQ))+A x
 bd:∀E h0 tl,hs=h0::tl->Mc h0 E->A (p2 E)=T/\A (-(p2 E))=0/\Sg (Ku (hs.map (fT (-1)))) (-(p2 E))
 fine:∀M a b,-M<=a->b<=M->a<=b->2*M*(b-a)*p2 (2*B)<=1->A b<=A a+1
 mono:∀a b,a<=b->A a<=A b
 two:T=0\/2<=hs.length
 at_:∀x,Sg (Ku (wY x (hs.map aQ))) x
theorem JF{l:List (aR×Nat)}(ok:∀q∈l,q.1.ok/\1<=q.2)(h:fN l=0):l=[]:=by
 cases l with
 | nil=>rfl
 | cons q l =>
  have h1:fN (q::l)=q.2*q.1.deg+fN l:=rfl;have h2:=(ok q Yi).2;have h3:1<=q.1.deg:=by cases q.1<;>simp[aR.deg]
  have:=Xp h2 h3;nofun
theorem Aw{h:List Int}(h0:h≠[]):∃(F:List Int)(c:Int),h=F++[c]/\c=nz h (h.length-1)/\F.length=h.length-1 /\ ∀k,k<F.length->nz F k=nz h k:=by
 refine⟨h.dropLast,h.getLast h0,(List.dropLast_concat_getLast h0).symm,?_,List.length_dropLast,λk hk=>?_⟩
 .have:=List.length_pos_iff.mpr h0;rw[aX (n:=h.getLast h0)];rw[YK (),List.getLast_eq_getElem]
 .rw[List.length_dropLast] at hk;have e:h[k]? = some h[k]:=YK ();rw[aX e];refine aX ?_;rw[List.getElem?_dropLast,Yb (),e]
theorem Hy{fs:List (Int×Int)}{hs:List (List Int)}{l:List (aR×Nat)}{c:Rat}{B:Nat}(h:CC fs hs)(all:∀x∈hs,x≠[]/\x.length<=20/\nz x (x.length-1)≠0)(ok:∀q∈l,q.1.ok/\1<=q.2)(un:l.Pairwise λa b=>a.1≠b.1)(dl:fN l<=17)(d1:fs.length=fN l+1)(e:∀x,EV (cf fs) x=c*ug l x)(hm:∀m∈AV l,∃q:Int×Int,m=wv q/\Fq q/\Bq B q):Me hs (gD l) (λ_ _=>True) (vK l) B:=by
 have cnt:=λlo hi lt=>DX h all ok un dl d1 e (lo:=lo) (hi:=hi) lt;have ins:=λ(a b:Rat)(ab:a<=b)=>zR (lo:=some a) (hi:=some b) ok un (vW ok un) (λv=>XJ) (λx y e1 e2=>by cases e1;cases e2;exact ab)
 refine⟨?_,λx=>?_,λE h0 tl hh rb=>?_,λM a b ha hb ab sm=>?_,λa b ab=>?_,?_,λ_=>trivial⟩
 .have:=cnt none none (λ_ _ z=>by cases z)
  exact this
 .have:=cnt none (some x) (λ_ _ z=>by cases z)
  exact this
 .rcases h with ⟨f1,a,a0,he⟩|⟨h0',h1,tl',κ,he,ch,k0,id⟩
  .have l0:=JF ok (show fN l=0 by nofun)
   subst l0;exact⟨rfl,rfl,trivial⟩
  .rw[he] at hh;cases hh;obtain⟨n0,n20,nz0⟩:=all h0 (by rw[he];simp)
   obtain⟨F,c',eF,ec,lF,nF⟩:=Aw n0;have l1:h1.length<=20:=(all h1 (by rw[he];simp)).2.1
   have c0:c'≠0:=by rw[ec];exact nz0
   have hp:(0:Rat)<p2 E/2:=by have:=Bk E;grind
   have ai:=IW (l:=l) (F:=F) (h1:=h1) (c:=c') (g:=aQ h1) (tl:=tl'.map aQ) (κ:=κ) (ρ:=p2 E/2) (by rw[<-eF];exact ch) (λR R0=>(dD l1).lip R0) ok un k0 (by rw[<-eF];exact id l c dl e) (by rw[<-eF];exact n20) hp c0 (λk hk=>by
    rw[nF k hk,lF,ec];exact rb k ())
   rw[show 2*(p2 E/2)=p2 E by grind] at ai
   exact⟨ai.1,ai.2,trivial⟩
 .have i:=ins a b ab;have o:=Bv (vW ok un) hm ha hb ab sm;have i:_+gD l a=gD l b:=i;nofun
 .have i:=ins a b ab;have i:_+gD l a=gD l b:=i;nofun
 .rcases h with ⟨f1,a,a0,he⟩|⟨h0',h1,tl',κ,he,ch,k0,id⟩
  .have l0:=JF ok (show fN l=0 by nofun)
   subst l0;exact .inl rfl
  .rw[he];exact .inr (by simp)
end L2
set_option maxHeartbeats 2000000
namespace L2
open PySem PySem.Spec PyProof.Rows
theorem pA{x:Rat}:∀{l:List (aR×Nat)},(∀q∈l,q.1.ok/\1<=q.2)->di l x=0 -> ∃q∈l,q.1=.line x
 | [],_,h=>absurd h (by show (1:Rat)≠0;decide)
 | q::l,ok,h=>by
  have h:q.1.p x*di l x=0:=h;rcases Rat.mul_eq_zero.mp h with z|z
  .refine⟨q,Yi,?_⟩;have o:=(ok q Yi).1;cases e:q.1 with
   | line r =>
    rw[e] at z;have z:x-r=0:=z;rw[show r=x by grind]
   | root n =>
    rw[e] at z o;have z:x*x-n=0:=z;exact absurd (show x*x=n by grind) (o.2 x)
   | none n =>
    rw[e] at z o;have z:x*x+n=0:=z;have o:0<n:=o;have:=jm x;grind
  .obtain⟨p,hp,e⟩:=pA (λp hp=>ok p (Yj _ hp)) z;exact⟨p,Yj _ hp,e⟩
theorem uo{x:Rat}:∀{l:List (aR×Nat)},(∃q∈l,q.1=.line x)->di l x=0
 | [],⟨_,h,_⟩=>by cases h
 | q::l,⟨p,hp,e⟩=>by
  show q.1.p x*di l x=0;rcases YY.mp hp with rfl|hp
  .rw[e];show (x-x)*_=0;grind
  .rw[uo ⟨p,hp,e⟩];grind
theorem KZ:∀l:List (aR×Nat),∃R:Rat,0<R /\ ∀R',R<=R' -> ∀q∈l,(∀r,q.1=.line r->Wi R' r) /\ ∀n,q.1=.root n->n+2<=R'
 | []=>⟨1,∅,λ_ _ _ h=>by cases h⟩
 | q::l=>by
  obtain⟨R,R0,h⟩:=KZ l;obtain⟨S,S0,hS⟩ : ∃S:Rat,0<S/\(∀r,q.1=.line r->Sm S r) /\ ∀n,q.1=.root n->n+2<=S:=by
   cases e:q.1 with
   | line r =>
    obtain⟨t,t0,ht⟩:=iB.const (R:=0) r;exact⟨t,t0,λr' er=>by cases er;exact ht 0 (by unfold Wi;grind),λn en=>by cases en⟩
   | root n =>
    obtain⟨t,t0,ht⟩:=iB.const (R:=0) n;have ht:=ht 0 (by unfold Wi;grind)
    exact⟨t+2,⋯,λr er=>(by cases er),λn' en=>by cases en;unfold Sm at ht;grind⟩
   | none n=>exact⟨1,∅,λr er=>(by cases er),λn' en=>by cases en⟩
  refine⟨R+S,⋯,λR' hR p hp=>?_⟩;rcases YY.mp hp with rfl|hp
  .refine⟨λr er=>?_,λn en=>?_⟩
   .have:=hS.1 r er;unfold Sm at this;unfold Wi;grind
   .have:=hS.2 n en;grind
  .exact h R' ⋯ p hp
theorem Jx{l:List (aR×Nat)}(ok:∀q∈l,q.1.ok/\1<=q.2)(un:l.Pairwise λa b=>a.1≠b.1):∃x,di l x≠0:=by
 have fin:∃x:Rat,∀q∈l,q.1 ≠ .line x:=by
  obtain⟨R,R0,h⟩:=KZ l;refine⟨R+1,λq hq z=>?_⟩;have:=(h R ⋯ q hq).1 _ z;unfold Wi at this;grind
 obtain⟨x,hx⟩:=fin;refine⟨x,λz=>?_⟩;obtain⟨q,hq,e⟩:=pA ok z;exact hx q hq e
def t9(A:Nat)(F:List Int):Prop:=∀y∈F,y.natAbs<=A
def fL:List Int->List Int->List Int
 | [],G=>G
 | F,[]=>F
 | a::F,b::G=>(a+b)::fL F G
theorem gv{x:Rat}:∀F G:List Int,ga (fL F G) x=ga F x+ga G x
 | [],G=>by show ga G x=0+ga G x;grind
 | a::F,[]=>by show ga (a::F) x=ga (a::F) x+0;grind
 | a::F,b::G=>by
  show ((a+b:Int):Rat)+x*ga (fL F G) x=((a:Int):Rat)+x*ga F x+(((b:Int):Rat)+x*ga G x);rw[gv F G,Xa];grind
theorem uR:∀F G:List Int,(fL F G).length<=max F.length G.length
 | [],G=>by show G.length<=_;nofun
 | a::F,[]=>by show (a::F).length<=_;nofun
 | a::F,b::G=>by
  have:=uR F G;show (fL F G).length+1<=max (F.length+1) (G.length+1);nofun
theorem oC{A B:Nat}:∀F G:List Int,t9 A F->t9 B G->t9 (A+B) (fL F G)
 | [],G,_,h=>λy hy=>by have:=h y hy;nofun
 | a::F,[],h,_=>λy hy=>by have:=h y hy;nofun
 | a::F,b::G,h,k=>λy hy=>by
  rcases YY.mp hy with rfl|hy
  .have h1:=h a Yi;have h2:=k b Yi;nofun
  .exact oC F G (λz hz=>h z (Yj _ hz)) (λz hz=>k z (Yj _ hz)) y hy
def cJ(c:Int)(F:List Int):List Int:=F.map λy=>c*y
theorem cS{c:Int}{x:Rat}:∀F:List Int,ga (cJ c F) x=(c:Rat)*ga F x
 | []=>by show (0:Rat)=(c:Rat)*0;grind
 | a::F=>by
  show ((c*a:Int):Rat)+x*ga (cJ c F) x=(c:Rat)*(((a:Int):Rat)+x*ga F x);rw[cS F,Xb];grind
theorem dI{A B:Nat}{c:Int}{F:List Int}(hc:c.natAbs<=B)(h:t9 A F):t9 (B*A) (cJ c F):=λy hy=>by
 obtain⟨z,hz,rfl⟩:=List.mem_map.mp hy;rw[YU];exact Xp hc (h z hz)
theorem gO{F:List Int}{x:Rat}:ga (0::F) x=x*ga F x:=by
 show ((0:Int):Rat)+x*ga F x=_;rw[show ((0:Int):Rat)=0 from rfl]
 grind
theorem gL{A:Nat}{F:List Int}(h:t9 A F):t9 A (0::F):=λy hy=>by
 rcases YY.mp hy with rfl|hy
 .exact YS _
 .exact h y hy
def aR.num:aR->Rat
 | .line r=>r
 | .root n=>n
 | .none n=>n
inductive LB:List (aR×Nat)->Nat->Prop
 | nil:LB [] 0
 | cons {q:aR}{m:Nat}{l:List (aR×Nat)}{a b:Nat}{ν:Int×Int}:q.num=wv ν->Fq ν->Bq b ν->LB l a->LB ((q,m)::l) (a+(b+2))
def oy:List (aR×Nat)->Nat
 | []=>0
 | q::l=>q.1.deg+oy l
theorem A6(a b:Nat):2^(a+(b+2))=4*(2^b*2^a):=by
 rw[YV,YV,YH (2^b) (2^2),Nat.mul_left_comm,YH (2^a)]
theorem FX{ν:Int×Int}(h:Fq ν):((ν.2:Int):Rat)*wv ν=((ν.1:Int):Rat):=by
 have:((ν.2:Int):Rat)≠0:=aq h.ne;unfold wv;grind
theorem LB.lists{l:List (aR×Nat)}{a:Nat}(h:LB l a)(hm:∀q∈l,q.2<=32):∃(D:Int)(Zp Zs:List Int),D≠0/\(∀x,ga Zp x=(D:Rat)*di l x)/\(∀x,ga Zs x=(D:Rat)*iu l x)/\t9 (2^a) Zp/\t9 (64*2^a) Zs/\Zp.length<=oy l+1/\Zs.length<=oy l+1:=by
 induction h with
 | nil=>exact⟨1,[1],[],∅,λx=>by show ((1:Int):Rat)+x*0=((1:Int):Rat)*1;grind,λx=>by show (0:Rat)=((1:Int):Rat)*0;grind,λy hy=>(by cases XY.mp hy;decide),λy hy=>(by cases hy),by simp[oy],by simp⟩
 | @cons q m l a b ν e f bq t ih =>
  obtain⟨D,Zp,Zs,D0,e1,e2,n1,n2,l1,l2⟩:=ih λp hp=>hm p (Yj _ hp);have m32:m<=32:=hm (q,m) Yi;obtain⟨u,v⟩:=ν;have wn:=FX f;have v0:v≠0:=f.ne;have hu:u.natAbs<=2^b:=Yh bq.1;have hv:v.natAbs<=2^b:=Yh bq.2;have wn:((v:Int):Rat)*q.num=((u:Int):Rat):=by rw[e];exact wn
  have hn:(-u).natAbs<=2^b:=();have h2:((2*(m:Int))*v).natAbs<=64*2^b:=by
   rw[YU];exact Xp () hv
  have h1:((m:Int)*v).natAbs<=64*2^b:=by
   rw[YU];exact Xp () hv
  have mc:(((m:Int):Int):Rat)=((m:Nat):Rat):=rfl;have c2:((2:Int):Rat)=2:=rfl;have bnd:∀{F G:List Int},t9 (2^b*2^a) F->t9 (2^b*2^a) G->t9 (2^(a+(b+2))) (fL F G):=λ{F G} hF hG y hy=>by
   have:=oC F G hF hG y hy;rw[A6];nofun
  have bnd2:∀{E F G:List Int},t9 (64*2^b*2^a) E->t9 (2^b*(64*2^a)) F->t9 (2^b*(64*2^a)) G->t9 (64*2^(a+(b+2))) (fL E (fL F G)):=λ{E F G} hE hF hG y hy=>by
   have:=oC E _ hE (oC F G hF hG) y hy;rw[A6];have k1:64*2^b*2^a=64*(2^b*2^a):=Nat.mul_assoc _ _ _;have k2:2^b*(64*2^a)=64*(2^b*2^a):=Nat.mul_left_comm _ _ _;rw[k1,k2] at this;nofun
  have Dv:D*v≠0:=Y9 D0 v0;have dc:((D*v:Int):Rat)=(D:Rat)*(v:Rat):=Xb ..;have shl:∀(F G:List Int)(n:Nat),F.length<=n->G.length<=n->(fL F G).length<=n:=λF G n x y=>by
   have:=uR F G;nofun
  have slen:∀(c:Int)(F:List Int),(cJ c F).length=F.length:=λc F=>YD _;have i1:=e1;cases q with
  | line r =>
   have wn:((v:Int):Rat)*r=((u:Int):Rat):=wn;refine⟨D*v,fL (cJ (-u) Zp) (0::cJ v Zp),fL (cJ ((m:Int)*v) Zp) (fL (cJ (-u) Zs) (0::cJ v Zs)),Dv,λx=>?_,λx=>?_,bnd (dI hn n1) (gL (dI hv n1)),bnd2 (dI h1 n1) (dI hn n2) (gL (dI hv n2)),shl _ _ _ ?_ ?_,shl _ _ _ ?_ (shl _ _ _ ?_ ?_)⟩
   .rw[gv,gO,cS,cS,e1,dc,XG,<-wn];show _=(D:Rat)*(v:Rat)*((x-r)*di l x);grind
   .rw[gv,gv,gO,cS,cS,cS,e1,e2,dc,XG,Xb,mc,<-wn];show _=(D:Rat)*(v:Rat)*(((m:Nat):Rat)*1*di l x+(x-r)*iu l x);grind
   all_goals
    simp only[Y5,slen];show _<=1+oy l+1;nofun
  | root n =>
   have wn:((v:Int):Rat)*n=((u:Int):Rat):=wn;refine⟨D*v,fL (cJ (-u) Zp) (0::0::cJ v Zp),fL (0::cJ ((2*(m:Int))*v) Zp) (fL (cJ (-u) Zs) (0::0::cJ v Zs)),Dv,λx=>?_,λx=>?_,bnd (dI hn n1) (gL (gL (dI hv n1))),bnd2 (gL (dI h2 n1)) (dI hn n2) (gL (gL (dI hv n2))),shl _ _ _ ?_ ?_,shl _ _ _ ?_ (shl _ _ _ ?_ ?_)⟩
   .rw[gv,gO,gO,cS,cS,e1,dc,XG,<-wn];show _=(D:Rat)*(v:Rat)*((x*x-n)*di l x);grind
   .rw[gv,gv,gO,gO,gO,cS,cS,cS,e1,e2,dc,XG,Xb,Xb,mc,c2,<-wn];show _=(D:Rat)*(v:Rat)*(((m:Nat):Rat)*(2*x)*di l x+(x*x-n)*iu l x);grind
   all_goals
    simp only[Y5,slen];show _<=2+oy l+1;nofun
  | none n =>
   have wn:((v:Int):Rat)*n=((u:Int):Rat):=wn;refine⟨D*v,fL (cJ u Zp) (0::0::cJ v Zp),fL (0::cJ ((2*(m:Int))*v) Zp) (fL (cJ u Zs) (0::0::cJ v Zs)),Dv,λx=>?_,λx=>?_,bnd (dI hu n1) (gL (gL (dI hv n1))),bnd2 (gL (dI h2 n1)) (dI hu n2) (gL (gL (dI hv n2))),shl _ _ _ ?_ ?_,shl _ _ _ ?_ (shl _ _ _ ?_ ?_)⟩
   .rw[gv,gO,gO,cS,cS,e1,dc,<-wn];show _=(D:Rat)*(v:Rat)*((x*x+n)*di l x);grind
   .rw[gv,gv,gO,gO,gO,cS,cS,cS,e1,e2,dc,Xb,Xb,mc,c2,<-wn];show _=(D:Rat)*(v:Rat)*(((m:Nat):Rat)*(2*x)*di l x+(x*x+n)*iu l x);grind
   all_goals
    simp only[Y5,slen];show _<=2+oy l+1;nofun
theorem yP{h Z:List Int}{c:Rat}{A:Nat}(hp:jN (nz h))(lh:h.length<=20)(lZ:Z.length<=20)(c0:c≠0)(e:∀x,ga Z x=c*aQ h x)(n:t9 A Z):t9 A h/\(nz h (h.length-1)≠0->h.length<=Z.length):=by
 have e1:∀k,((nz Z k:Int):Rat)*((c.den:Int):Rat)=((c.num:Int):Rat)*((nz h k:Int):Rat):=by
  have d0:((c.den:Int):Rat)≠0:=aq (by have:=c.den_pos;nofun)
  have ec:((c.num:Int):Rat)=c*((c.den:Int):Rat):=by
   have:=Rat.num_divInt_den c;rw[Rat.divInt_eq_div] at this;have z:(c.num:Rat)/((c.den:Int):Rat)=c:=this;grind
  intro k;have i:=oJ (F:=cJ (c.den:Int) Z) (G:=cJ c.num h) (by unfold cJ;rw[YD];exact lZ) (by unfold cJ;rw[YD];exact lh) (λx=>by
   rw[jD (F:=cJ (c.den:Int) Z) (by unfold cJ;rw[YD];exact lZ),cS,e x,jD (F:=cJ c.num h) (by unfold cJ;rw[YD];exact lh),cS,<-jD lh,ec]
   grind) k
  unfold cJ at i;rw[dX,dX] at i;rw[<-Xb,<-Xb,Y4,i]
 have e2:∀k,nz Z k*(c.den:Int)=c.num*nz h k:=λk=>by
  have:=e1 k;rw[<-Xb,<-Xb] at this;exact Rat.intCast_inj.mp this
 have co:Nat.Coprime c.den c.num.natAbs:=c.reduced.symm;have d1:∀k,(c.den:Int)∣nz h k:=λk=>by
  have:c.den∣c.num.natAbs*(nz h k).natAbs:=by
   rw[<-YU,<-e2 k,YU,XD];exact Nat.dvd_mul_left _ _
  have:=co.dvd_of_dvd_mul_left this;exact Int.ofNat_dvd_left.mpr this
 have one:c.den=1:=by
  have:=hp _ d1
  rwa [XD] at this
 have u0:c.num≠0:=λz=>c0 (Rat.num_eq_zero.mp z);refine⟨λy hy=>?_,λhz=>Nat.le_of_not_lt λlt=>?_⟩
 rotate_left
 .have:=e2 (h.length-1);rw[aL (ns:=Z) (),Int.zero_mul] at this;exact Y9 u0 hz this.symm
 obtain⟨k,hk⟩:=XM hy;have:=e2 k;rw[one,aX hk] at this;have this:nz Z k=c.num*y:=();have zk:(nz Z k).natAbs<=A:=by
  by_cases q:k<Z.length
  .rw[aX (YK q)];exact n _ (YJ q)
  .rw[aL ()];exact YS _
 rw[this,YU] at zk;have:1*y.natAbs<=c.num.natAbs*y.natAbs:=XF _ ();nofun
theorem CF{c p:Nat->Int}{q:Int}(h:∀k,q∣c k)(k:Nat):∀n,q∣pz c p n k
 | 0=>⟨0,by show (0:Int)=q*0;nofun⟩
 | n+1=>by
  show q∣pz c p n k+(if n<=k then c n*p (k-n) else 0)
  refine Int.dvd_add (CF h k n) ?_;split
  .exact Int.dvd_mul_of_dvd_left (h n)
  .exact⟨0,()⟩
theorem jN.left{W h P:List Int}(hp:jN (nz W))(e:∀k,nz W k=pz (nz h) (nz P) h.length k):jN (nz h):=λq hq=>hp q λk=>by
 rw[e];exact CF hq k _
theorem zn:∀{l:List (aR×Nat)},(∀q∈l,q.1.ok/\1<=q.2)->oy l<=fN l /\ ∀q∈l,q.2<=fN l
 | [],_=>⟨Yq _,λ_ h=>by cases h⟩
 | q::l,h=>by
  obtain⟨i1,i2⟩:=zn λp hp=>h p (Yj _ hp);have h1:=(h q Yi).2;have h3:1<=q.1.deg:=by cases q.1<;>simp[aR.deg]
  have m1:=XF q.1.deg h1;have m2:=XN q.2 h3;have e:fN (q::l)=q.2*q.1.deg+fN l:=rfl;have e2:oy (q::l)=q.1.deg+oy l:=rfl;refine⟨(),λp hp=>?_⟩;rcases YY.mp hp with rfl|hp
  .nofun
  .have:=i2 p hp;nofun
theorem uf:∀l:List (aR×Nat),oy l<=2*l.length
 | []=>Yq _
 | q::l=>by
  have:=uf l;have h3:q.1.deg<=2:=by cases q.1<;>simp[aR.deg]
  show q.1.deg+oy l<=2*(l.length+1);nofun
end L2
set_option maxHeartbeats 2000000
namespace L2
open PySem PySem.Spec PyProof.Rows
theorem ye{F h P:List Int}(f0:nz F (F.length-1)≠0)(h0:nz h (h.length-1)≠0)(p0:nz P (P.length-1)≠0)(e:∀k,nz F k=pz (nz h) (nz P) h.length k):F.length+1=h.length+P.length:=by
 have np:∀{L:List Int},nz L (L.length-1)≠0->0<L.length:=λ{L} z=>Nat.pos_of_ne_zero λy=>z (aL ());have lh:=np h0;have lp:=np p0;have lf:=np f0;have er:∀k,((nz F k:Int):Rat)=pr (fR h) (fR P) h.length k:=λk=>by
  rw[e,iM];rfl
 have hi:∀k,h.length+P.length<=k+1->nz F k=0:=λk hk=>by
  have:=er k;rw[gy (n:=P.length) (λi hi=>cH P i hi) _ _ ()] at this;exact Rat.intCast_inj.mp this
 have a:=nJ (f:=fR h) (g:=fR P) (d:=P.length-1) (i:=h.length-1) (λj hj=>cH P j ()) (λj hj=>cH h j ()) h.length;rw[Yb (),<-er] at a;have n1:nz F (h.length-1+(P.length-1))≠0:=λz=>by
  rw[z] at a;have z2:fR h (h.length-1)*fR P (P.length-1)=0:=a.symm;rcases Rat.mul_eq_zero.mp z2 with y|y
  .exact aq h0 y
  .exact aq p0 y
 have l1:h.length-1+(P.length-1)<F.length:=Nat.lt_of_not_le λz=>n1 (aL z);have l2:¬ h.length+P.length<=F.length-1+1:=λz=>f0 (hi _ z);nofun
def Lw(fs:List (Int×Int))(hs:List (List Int)):Prop:=CC fs hs/\(∀c:Int,hs=[[c]]->c.natAbs=1) /\ ∀h0 h1 tl,hs=h0::h1::tl->jN (nz h0)/\jN (nz h1)/\Bz (aQ h0) (aQ h1)/\h0.length<=11/\h1.length+1=h0.length
theorem FA{W O P L:List Int}{rows:List (List Int×List Int×Int×Int)}{hs:List (List Int)}{g:Int}(rq:pH W O rows)(o0:O≠[])(lW:W.length<=11)(lO:O.length+1=W.length)(wz:nz W (W.length-1)≠0)(oz:nz O (O.length-1)≠0)(pz0:nz P (P.length-1)≠0)(lP:P.length<=11)(hL:(O::qT 1 1 rows).getLast? = some L)(g0:g≠0)(eL:∀k,nz L k=g*nz P k)(pt:yn P (W::O::qT 1 1 rows) hs)(pW:jN (nz W))(pO:jN (nz O)):∀h0 h1 tl,hs=h0::h1::tl->jN (nz h0)/\jN (nz h1)/\Bz (aQ h0) (aQ h1)/\h0.length<=11/\h1.length+1=h0.length:=by
 have hn:∀row∈rows,row.2.2.1≠0/\row.2.2.2≠0:=λrow h=>⟨(rq.ne row h).1,(rq.ne row h).2.1⟩;obtain⟨L',s,e,ps,hs',_⟩:=jM rows 1 1 O O hn (.inl rfl) (.inl rfl) (λk=>by rw[Xn]) rfl
 rw[hL] at e;cases e;have s2:s*s=1:=by rcases ps with z|z<;>rw[z]<;>decide
 have el:∀k,nz (fM O rows) k=(s*g)*nz P k:=λk=>by
  have a:=hs' k;rw[eL k] at a;have:s*(g*nz P k)=s*(s*nz (fM O rows) k):=by rw[a]
  rw[<-Y3,<-Y3,s2,Xn] at this;exact this.symm
 have pl:Py (aQ P):=dD ();have l0:∃x,aQ P x≠0:=Xy λz=>pz0 (by
  have:=oJ (F:=P) (G:=[]) () (by simp) (λx=>by
   rw[sN];exact Xy λy=>z ⟨x,y⟩) (P.length-1)
  rw[this,aL (by simp)])
 intro h0 h1 tl hh;subst hh;cases pt with
 | @cons _ _ _ _ a1 a2 a3 a4 pt =>
 cases pt with
 | @cons _ _ _ _ b1 b2 b3 b4 pt =>
 have e0:∀x,aQ W x=aQ h0 x*aQ P x:=nC () a4;have e1:∀x,aQ O x=aQ h1 x*aQ P x:=nC () b4;obtain⟨u,v,pu,pv,eb⟩:=rq.bez lW () o0;have z:∀x,(u x*aQ h0 x+v x*aQ h1 x)-((s*g:Int):Rat)=0:=by
  refine Py.zero (f:=λx=>(u x*aQ h0 x+v x*aQ h1 x)-((s*g:Int):Rat)) (((pu.mul (dD ())).add (pv.mul (dD ()))).sub (.const _)) pl (λx=>?_) l0;have h:=eb x;rw[gN el x,e0 x,e1 x] at h;grind
 have q1:=ye wz a3 pz0 a4;have q2:=ye oz b3 pz0 b4;refine⟨pW.left a4,pO.left b4,Bz.of pu pv (c:=((s*g:Int):Rat)) (aq (Y9 (by rcases ps with z|z<;>nofun) g0)) λx=>by have:=z x;grind,a1.1,()⟩
theorem A8{c:Int}(h:jN (nz [c])):c.natAbs=1:=h c λk=>by
 cases k with
 | zero=>exact⟨1,by show c=c*1;nofun⟩
 | succ k=>exact⟨0,by rw[aL (by simp)];nofun⟩
end L2
set_option maxHeartbeats 2000000
namespace L2
open PySem PySem.Spec PyProof.Rows
def par(k:Nat):Int:=if k%2=0 then 1 else -1
theorem aR.A_le(q:aR)(x:Rat):q.A x<=q.tot:=by
 cases q with
 | line r=>show (if r<=x then 1 else 0)<=1;split<;>nofun
 | root n=>show (if x*x<n then 1 else if x<0 then 0 else 2)<=2;split;(· nofun);split<;>nofun
 | none n=>exact Yq _
theorem Dc(x:Rat):∀l:List (aR×Nat),gD l x<=vK l
 | []=>Yq _
 | q::l=>by
  have h1:=q.1.A_le x;have h2:=Dc x l;show q.1.A x+gD l x<=q.1.tot+vK l;nofun
def zv:List Int->Int->Int
 | [],_=>0
 | n::ns,x=>n+x*zv ns x
def zs:List Int->Int->Int
 | [],_=>0
 | n::ns,x=>zv ns x+x*zs ns x
theorem ma:∀(ns:List Int)(x d:Int),∃R,zv ns (x+d)=zv ns x+d*zs ns x+d*d*R
 | [],_,_=>⟨0,by simp[zv,zs]⟩
 | n::ns,x,d=>by
  obtain⟨R,h⟩:=ma ns x d;refine⟨zs ns x+(x+d)*R,?_⟩;show n+(x+d)*zv ns (x+d)=n+x*zv ns x+d*(zv ns x+x*zs ns x)+d*d*(zs ns x+(x+d)*R);rw[h];grind
theorem nD(m x:Int):∀(ns ms:List Int),(∀k,m∣nz ns k-nz ms k)->m∣zv ns x-zv ms x
 | [],[],_=>⟨0,by simp[zv]⟩
 | [],b::ms,h=>by
  obtain⟨c,hc⟩:=h 0;obtain⟨e,he⟩:=nD m x [] ms λk=>h (k+1);have hc:0-b=m*c:=hc;have he:0-zv ms x=m*e:=he;exact⟨c+x*e,by show 0-(b+x*zv ms x)=_;grind⟩
 | a::ns,[],h=>by
  obtain⟨c,hc⟩:=h 0;obtain⟨e,he⟩:=nD m x ns [] λk=>h (k+1);have hc:a-0=m*c:=hc;have he:zv ns x-0=m*e:=he;exact⟨c+x*e,by show a+x*zv ns x-0=_;grind⟩
 | a::ns,b::ms,h=>by
  obtain⟨c,hc⟩:=h 0;obtain⟨e,he⟩:=nD m x ns ms λk=>h (k+1);have hc:a-b=m*c:=hc;exact⟨c+x*e,by show a+x*zv ns x-(b+x*zv ms x)=_;grind⟩
theorem GU{ns ms:List Int}(h:∀k,nz ns k=nz ms k)(x:Int):zv ns x=zv ms x:=by
 obtain⟨c,hc⟩:=nD 0 x ns ms λk=>⟨0,by rw[h];nofun⟩
 nofun
def Du:Int->List Int->List Int
 | _,[]=>[]
 | j,n::ns=>j*n::Du (j+1) ns
theorem tD(x:Int):∀(ns:List Int)(j:Int),zv (Du j ns) x=j*zv ns x+x*zs ns x
 | [],j=>by simp[Du,zv,zs]
 | n::ns,j=>by
  show j*n+x*zv (Du (j+1) ns) x=j*(n+x*zv ns x)+x*(zv ns x+x*zs ns x);rw[tD x ns];grind
theorem sX:∀(ns:List Int)(j:Int)(k:Nat),nz (Du j ns) k=(j+k)*nz ns k
 | [],j,k=>by simp[Du,nz]
 | n::ns,j,0=>by show j*n=(j+((0:Nat):Int))*n;simp
 | n::ns,j,k+1=>by
  show nz (Du (j+1) ns) k=_;rw[sX ns];show _=(j+((k+1:Nat):Int))*nz ns k;rw[show j+((k+1:Nat):Int)=j+1+(k:Int) by nofun]
theorem GC{ns ms:List Int}(h:∀k,nz ms k=((k+1:Nat):Int)*nz ns (k+1))(x:Int):zv ms x=zs ns x:=by
 cases ns with
 | nil=>exact GU (ms:=[]) (λk=>by rw[h];simp[nz]) x
 | cons n ns =>
  have:=tD x ns 1;rw[GU (ns:=ms) (ms:=Du 1 ns) λk=>by
   rw[h,sX];show _=(1+(k:Int))*nz ns k;rw[show ((k+1:Nat):Int)=1+(k:Int) by nofun]
   rfl,this]
  show _=zv ns x+x*zs ns x;grind
theorem IG{ns ms:List Int}{m:Int}(h:∀k,m∣nz ns k-nz ms k)(x:Int):m∣zs ns x-zs ms x:=by
 have l:∀l:List Int,zs l x=zv (Du 1 l.tail) x:=λl=>by
  cases l with
  | nil=>rfl
  | cons a l =>
   rw[tD];show zv l x+x*zs l x=1*zv l x+x*zs l x;grind
 rw[l,l];refine nD m x _ _ λk=>?_;rw[sX,sX];have t:∀l:List Int,nz l.tail k=nz l (k+1):=λl=>by cases l<;>rfl
 rw[t,t];obtain⟨c,hc⟩:=h (k+1);exact⟨(1+k)*c,by rw[<-Int.mul_sub,hc];grind⟩
theorem mn(ns:List Int) {m x y:Int}(h:m∣x-y):m∣zv ns x-zv ns y:=by
 obtain⟨c,hc⟩:=h;obtain⟨R,e⟩:=ma ns y (x-y);rw[show y+(x-y)=x by nofun] at e
 exact⟨c*zs ns y+c*(x-y)*R,by rw[e,hc];grind⟩
theorem vG(ns:List Int) {m x y:Int}(h:m∣x-y):m∣zs ns x-zs ns y:=by
 have l:∀x,zs ns x=zv (Du 1 ns.tail) x:=λx=>by
  cases ns with
  | nil=>rfl
  | cons a l =>
   show zv l x+x*zs l x=zv (Du 1 l) x;rw[tD];grind
 rw[l,l];exact mn _ h
def HD(f g:Int->Int):Prop:=∀x d,∃R:Int,f (x+d)=f x+d*g x+d*d*R
theorem HD.zv(ns:List Int):HD (zv ns) (zs ns):=λx d=>ma ns x d
theorem HD.uniq{f g h:Int->Int}(a:HD f g)(b:HD f h)(x:Int):g x=h x:=by
 obtain⟨d,hd⟩ : ∃d:Int,d=(((g x-h x).natAbs+1:Nat):Int):=⟨_,rfl⟩;have d0:0<d:=();obtain⟨R,r⟩:=a x d;obtain⟨S,s⟩:=b x d;have e:d*(g x-h x)=d*(d*(S-R)):=⋯;have e:=Xl () e;have:d∣g x-h x:=⟨_,e⟩;have:=Int.natAbs_dvd_natAbs.mpr this;rcases Nat.eq_zero_or_pos (g x-h x).natAbs with z|z
 .nofun
 .have:=XE z this;nofun
theorem HD.mul{f g f' g':Int->Int}(a:HD f f')(b:HD g g'):HD (λx=>f x*g x) (λx=>f' x*g x+f x*g' x):=λx d=>by
 obtain⟨R,r⟩:=a x d;obtain⟨S,s⟩:=b x d;refine⟨f x*S+f' x*g' x+d*f' x*S+R*g x+d*R*g' x+d*d*R*S,?_⟩;show f (x+d)*g (x+d)=_;rw[r,s];grind
theorem HD.smul{f f':Int->Int}(c:Int)(a:HD f f'):HD (λx=>c*f x) (λx=>c*f' x):=λx d=>by
 obtain⟨R,r⟩:=a x d;exact⟨c*R,by show c*f (x+d)=_;rw[r];grind⟩
theorem Ft{a b m:Int}(h1:Int.gcd a m=1)(h2:Int.gcd b m=1):Int.gcd (a*b) m=1:=by
 unfold Int.gcd at *
 rw[YU];exact Nat.Coprime.mul_left h1 h2
theorem j3{a m:Int}(h:Int.gcd a m=1):∀k:Nat,Int.gcd a (m^k)=1
 | 0=>by simp
 | k+1=>by
  have i:=j3 h k;rw[Xs];rw[YL] at *
  exact Ft i h
theorem oM{a m n:Int}(h:Int.gcd a m=1)(d:n∣m):Int.gcd a n=1:=by
 have h1:=YO (a:=a) (b:=n);have h2:=YQ (a:=a) (b:=n);have:=Int.dvd_gcd (a:=a) (b:=m) h1 (XC h2 d);rw[h] at this;exact Nat.dvd_one.mp this
theorem oV{a b m:Int}(h:Int.gcd a m=1)(d:m∣b-a):Int.gcd b m=1:=by
 have h1:=YO (a:=b) (b:=m);have h2:=YQ (a:=b) (b:=m);have h3:((Int.gcd b m:Nat):Int)∣a:=by
  have:=Int.dvd_sub h1 (XC h2 d)
  rwa [show b-(b-a)=a by nofun] at this
 have:=Int.dvd_gcd h3 h2;rw[h] at this;exact Nat.dvd_one.mp this
theorem fZ{a b m:Int}(h:Int.gcd a m=1)(d:m∣a*b):m∣b:=by
 unfold Int.gcd at h;rw[<-Int.natAbs_dvd_natAbs] at d ⊢;rw[YU] at d;exact Y7 (Nat.Coprime.symm h) d
theorem zP{ns:List Int}{m M X Y:Int}{e:Nat}(hM:M∣m^e)(hx:M∣zv ns X)(hy:M∣zv ns Y)(hm:m∣Y-X)(hg:Int.gcd (zs ns X) m=1):M∣Y-X:=by
 obtain⟨R,r⟩:=ma ns X (Y-X);rw[show X+(Y-X)=Y by nofun] at r
 have g1:Int.gcd (zs ns X+(Y-X)*R) m=1:=oV hg (by
  rw[show zs ns X+(Y-X)*R-zs ns X=(Y-X)*R by nofun]
  exact XC hm (XO _ _))
 refine fZ (oM (j3 g1 e) hM) ?_;have:=Int.dvd_sub hy hx
 rwa [r,show zv ns X+(Y-X)*zs ns X+(Y-X)*(Y-X)*R-zv ns X=(zs ns X+(Y-X)*R)*(Y-X) by grind] at this
theorem Az{ns:List Int}{M x i:Int}(hx:M∣zv ns x)(hi:M∣zs ns x*i-1):M*M∣zv ns (x-zv ns x*i):=by
 obtain⟨a,ha⟩:=hx;obtain⟨b,hb⟩:=hi;obtain⟨R,r⟩:=ma ns x (-(zv ns x*i));rw[show x + -(zv ns x*i)=x-zv ns x*i by nofun] at r
 refine⟨-(a*b)+a*a*i*i*R,?_⟩;rw[r];have:zs ns x*i=1+M*b:=();have e1:zv ns x + -(zv ns x*i)*zs ns x = - (zv ns x*(M*b)):=⋯;rw[e1,ha];grind
theorem Dj{M s i:Int}(h:M∣s*i-1):M*M∣s*(i*(2-s*i))-1:=by
 obtain⟨b,hb⟩:=h;have e:s*i=1+M*b:=();refine⟨-(b*b),?_⟩;grind
theorem Cj(x:Int):∀ns:List Int,ga ns (x:Rat)=((zv ns x:Int):Rat)
 | []=>rfl
 | n::ns=>by
  show (n:Rat)+(x:Rat)*ga ns x=((n+x*zv ns x:Int):Rat);rw[Cj x ns,Xa,Xb]
def hv:List Int->Int->Int->Int
 | [],_,_=>0
 | n::ns,a,b=>n*b^ns.length+a*hv ns a b
theorem wW{M a b β:Int}(h:M∣b*β-1):∀ns:List Int,M∣b*hv ns a b-b^ns.length*zv ns (a*β)
 | []=>⟨0,by simp[hv,zv]⟩
 | n::ns=>by
  obtain⟨c,hc⟩:=wW (a:=a) h ns;obtain⟨e,he⟩:=h;refine⟨a*c-a*b^ns.length*zv ns (a*β)*e,?_⟩;show b*(n*b^ns.length+a*hv ns a b)-b^(ns.length+1)*(n+a*β*zv ns (a*β))=_;rw[Xs];have he:b*β=1+M*e:=();have e1:b^ns.length*b*(n+a*β*zv ns (a*β))=b^ns.length*b*n+a*b^ns.length*zv ns (a*β)*(b*β):=⋯;rw[e1,he];grind
theorem zI{a b:Int}:∀ns:List Int,ns≠[]->b∣hv ns a b-nz ns (ns.length-1)*a^(ns.length-1)
 | [],h=>absurd rfl h
 | [n],_=>⟨0,by
  show n*b^0+a*0-n*a^0=b*0;simp⟩
 | n::m::ns,_=>by
  obtain⟨c,hc⟩:=zI (a:=a) (b:=b) (m::ns) (by simp)
  refine⟨n*b^ns.length+a*c,?_⟩;have hc:hv (m::ns) a b-nz (m::ns) ns.length*a^ns.length=b*c:=hc;show n*b^(ns.length+1)+a*hv (m::ns) a b-nz (m::ns) ns.length*a^(ns.length+1)=_;rw[Xs,Xs];have e1:a*hv (m::ns) a b=a*(b*c)+nz (m::ns) ns.length*(a^ns.length*a):=by
   rw[<-hc];grind
  rw[e1];grind
theorem Dd{a b:Int}(b0:b≠0):∀ns:List Int,((b*hv ns a b:Int):Rat)=((b^ns.length:Int):Rat)*ga ns ((a:Rat)/(b:Rat))
 | []=>by
  show ((b*0:Int):Rat)=_*0;rw[Xh];grind
 | n::ns=>by
  have i:=Dd (a:=a) b0 ns;have b1:(b:Rat)≠0:=aq b0;show ((b*(n*b^ns.length+a*hv ns a b):Int):Rat)=((b^(ns.length+1):Int):Rat)*((n:Rat)+(a:Rat)/(b:Rat)*ga ns ((a:Rat)/(b:Rat)));rw[Xs,show b*(n*b^ns.length+a*hv ns a b)=b^ns.length*b*n+a*(b*hv ns a b) by grind,Xa,Xb a,i,Xb,Xb]
  generalize ga ns ((a:Rat)/(b:Rat))=E;generalize ((b^ns.length:Int):Rat)=C;rw[Xu];have:(b:Rat)*(b:Rat)⁻¹=1:=Rat.mul_inv_cancel _ b1;grind
theorem oP{a b:Int}{ns:List Int}(b0:b≠0):hv ns a b=0↔ga ns ((a:Rat)/(b:Rat))=0:=by
 have e:=Dd (a:=a) b0 ns;have p:((b^ns.length:Int):Rat)≠0:=aq (Xt b0);refine⟨λz=>?_,λz=>?_⟩
 .rw[z,Xh] at e;rcases Rat.mul_eq_zero.mp e.symm with y|y
  .exact absurd y p
  .exact y
 .rw[z,Rat.mul_zero] at e;have e:=Rat.intCast_eq_zero_iff.mp e;rcases Int.mul_eq_zero.mp e with y|y
  .exact absurd y b0
  .exact y
theorem jO{ns:List Int}{a b:Int}(n0:ns≠[])(h:hv ns a b=0)(g:Int.gcd a b=1):b∣nz ns (ns.length-1):=by
 have d:=zI (a:=a) (b:=b) ns n0;rw[h,Int.zero_sub] at d;have d:=Int.dvd_neg.mp d;rw[Y4] at d;rw[YL] at g;have:=j3 g (ns.length-1);rw[YL] at this;exact fZ this d
theorem L5:∀n m:Nat,∃u v:Int,u*n+v*m=(Nat.gcd n m:Nat):=λn m=>by
 induction n,m using Nat.gcd.induction with
 | H0 m=>exact⟨0,1,by simp⟩
 | H1 n m h ih =>
  obtain⟨u,v,e⟩:=ih;refine⟨v-u*((m/n:Nat):Int),u,?_⟩;rw[Nat.gcd_rec n m,<-e];have:=Nat.div_add_mod m n;have:(m:Int)=(n:Int)*((m/n:Nat):Int)+((m%n:Nat):Int):=by rw[<-XH,<-Int.natCast_add,this]
  grind
theorem vP{b m:Int}(h:Int.gcd b m=1):∃β,m∣b*β-1:=by
 obtain⟨u,v,e⟩:=L5 b.natAbs m.natAbs;unfold Int.gcd at h;rw[h] at e;rcases Int.natAbs_eq b with z|z<;>rcases Int.natAbs_eq m with y|y
 .exact⟨u,-v,⋯⟩
 .exact⟨u,v,⋯⟩
 .exact⟨-u,-v,⋯⟩
 .exact⟨-u,v,⋯⟩
def Sv(ns:List Int)(m:Int):Prop:=Int.gcd (nz ns (ns.length-1)) m=1 /\ ∀x,0<=x->x<m->m∣zv ns x->Int.gcd (zs ns x) m=1
structure HN (ns:List Int)(m x reach t:Int):Prop where
 ex:∃(M X:Int)(e:Nat),M∣m^e/\m∣M/\M∣zv ns X/\m∣X-x/\M∣t-X*nz ns (ns.length-1)/\2*reach<M /\ -M<2*t/\2*t<=M
theorem HN.left{ns:List Int}{m x reach t:Int}(h:HN ns m x reach t):m∣t-x*nz ns (ns.length-1):=by
 obtain⟨M,X,e,h1,h2,h3,h4,h5,_⟩:=h.ex;have a:=XC h2 h5;obtain⟨c,hc⟩:=a;obtain⟨d,hd⟩:=h4;exact⟨c+d*nz ns (ns.length-1),by
  have:X=x+m*d:=();rw[this] at hc;grind⟩
theorem AB{ns:List Int}{a b m:Int}(n0:ns≠[])(h:hv ns a b=0)(g:Int.gcd a b=1)(m1:1<=m)(hm:Int.gcd (nz ns (ns.length-1)) m=1):∃x,0<=x/\x<m/\m∣zv ns x/\m∣b*x-a:=by
 have hb:=jO n0 h g;have gb:Int.gcd b m=1:=by
  rw[YL] at hm ⊢;exact oM hm hb
 obtain⟨β,hβ⟩:=vP gb;have hd:=wW (a:=a) hβ ns;rw[h,Xh,Int.zero_sub] at hd;have hd:=Int.dvd_neg.mp hd;have pb:Int.gcd (b^ns.length) m=1:=by
  rw[YL];rw[YL] at gb;exact j3 gb _
 have hz:=fZ pb hd;have md:m∣a*β%m-a*β:=⟨-(a*β/m),by have:=Int.emod_add_mul_ediv (a*β) m;grind⟩
 refine⟨a*β%m,Int.emod_nonneg _ (),XQ _ (),?_,?_⟩
 .have:=Int.dvd_add (mn ns md) hz
  rwa [Int.sub_add_cancel] at this
 .obtain⟨c,hc⟩:=md;obtain⟨e,he⟩:=hβ;exact⟨b*c+a*e,by
   have e1:a*β%m=a*β+m*c:=();rw[e1];have:b*β=1+m*e:=();grind⟩
theorem EK{ns:List Int}{a b m x reach t:Int}(n0:ns≠[])(h:hv ns a b=0)(g:Int.gcd a b=1)(hm:Int.gcd (nz ns (ns.length-1)) m=1)(hs:Int.gcd (zs ns x) m=1)(hx:m∣b*x-a)(R:HN ns m x reach t) {c:Int}(hc:nz ns (ns.length-1)=b*c)(lo : -reach<=a*c)(hi:a*c<=reach):t=a*c:=by
 obtain⟨M,X,e,h1,h2,h3,h4,h5,h6,h7,h8⟩:=R.ex;have hb:=jO n0 h g;have gb:Int.gcd b m=1:=by
  rw[YL] at hm ⊢;exact oM hm hb
 have gM:Int.gcd b M=1:=oM (j3 gb e) h1;obtain⟨β,hβ⟩:=vP gM;have hd:=wW (a:=a) hβ ns;rw[h,Xh,Int.zero_sub] at hd;have hd:=Int.dvd_neg.mp hd;have pb:Int.gcd (b^ns.length) M=1:=by
  rw[YL];rw[YL] at gM;exact j3 gM _
 have hz:=fZ pb hd;obtain⟨k,hk⟩:=hβ;have eb:b*β=1+M*k:=();have yx:m∣a*β-X:=by
  refine fZ gb ?_;obtain⟨p,hp⟩:=hx;obtain⟨q,hq⟩:=h4;obtain⟨r,hr⟩:=h2;refine⟨a*r*k-p-b*q,?_⟩;have:b*(a*β-X)=a*(b*β)-b*X:=⋯;rw[this,eb,hr,show X=x+m*q by nofun]
  grind
 have hsX:Int.gcd (zs ns X) m=1:=oV hs (vG ns h4);have u:=zP h1 h3 hz yx hsX;have tt:M∣t-a*c:=by
  obtain⟨p,hp⟩:=u;obtain⟨q,hq⟩:=h5;refine⟨q-p*b*c+a*k*c,?_⟩;rw[hc] at hq;have e1:t=X*(b*c)+M*q:=();have e2:X=a*β-M*p:=();rw[e1,e2];have:(a*β-M*p)*(b*c)=a*c*(b*β)-M*p*b*c:=⋯;rw[this,eb];grind
 have:=Int.natAbs_dvd_natAbs.mpr tt;rcases Nat.eq_zero_or_pos (t-a*c).natAbs with z|z
 .nofun
 .have:=XE z this;nofun
inductive gT where
 | line (a b:Int)
 | quad (a b:Int)
def gT.g:gT->Int->Int
 | .line a b,x=>b*x-a
 | .quad a b,x=>b*(x*x)-a
def gT.d:gT->Int->Int
 | .line _ b,_=>b
 | .quad _ b,x=>2*b*x
def gT.e:gT->Int
 | .line _ b=>b
 | .quad a b=>2*b*a
def gT.b:gT->Int
 | .line _ b=>b
 | .quad _ b=>b
def gT.r:gT->gT->Int
 | .line a b,.line a' b'=>b*a'-a*b'
 | .line a b,.quad a' b'=>b'*(a*a)-b*b*a'
 | .quad a b,.line a' b'=>b*(a'*a')-b'*b'*a
 | .quad a b,.quad a' b'=>b*a'-a*b'
theorem gT.hd:∀q:gT,HD q.g q.d
 | .line a b=>λx d=>⟨0,by show b*(x+d)-a=b*x-a+d*b+d*d*0;grind⟩
 | .quad a b=>λx d=>⟨b,by show b*((x+d)*(x+d))-a=b*(x*x)-a+d*(2*b*x)+d*d*b;grind⟩
theorem gT.own{p x:Int}:∀q:gT,p∣q.g x->p∣q.d x->p∣q.e
 | .line a b,_,h=>h
 | .quad a b,⟨c,hc⟩,⟨e,he⟩=>by
  have hc:b*(x*x)-a=p*c:=hc;have he:2*b*x=p*e:=he;refine⟨e*(b*x)-2*b*c,?_⟩;show 2*b*a=_;have e1:2*b*a=2*b*x*(b*x)-2*b*(b*(x*x)-a):=⋯;rw[e1,hc,he];grind
theorem gT.two{p x:Int}:∀q q':gT,p∣q.g x->p∣q'.g x->p∣q.r q'
 | .line a b,.line a' b',⟨c,hc⟩,⟨e,he⟩=>by
  have hc:b*x-a=p*c:=hc;have he:b'*x-a'=p*e:=he;exact⟨c*b'-e*b,by
   show b*a'-a*b'=_;have e1:b*a'-a*b'=(b*x-a)*b'-(b'*x-a')*b:=⋯;rw[e1,hc,he];grind⟩
 | .line a b,.quad a' b',⟨c,hc⟩,⟨e,he⟩=>by
  have hc:b*x-a=p*c:=hc;have he:b'*(x*x)-a'=p*e:=he;exact⟨b*b*e-b'*c*(b*x+a),by
   show b'*(a*a)-b*b*a'=_;have e1:b'*(a*a)-b*b*a'=b*b*(b'*(x*x)-a')-b'*(b*x-a)*(b*x+a):=⋯;rw[e1,hc,he];grind⟩
 | .quad a b,.line a' b',⟨c,hc⟩,⟨e,he⟩=>by
  have hc:b*(x*x)-a=p*c:=hc;have he:b'*x-a'=p*e:=he;exact⟨b'*b'*c-b*e*(b'*x+a'),by
   show b*(a'*a')-b'*b'*a=_;have e1:b*(a'*a')-b'*b'*a=b'*b'*(b*(x*x)-a)-b*(b'*x-a')*(b'*x+a'):=⋯;rw[e1,hc,he];grind⟩
 | .quad a b,.quad a' b',⟨c,hc⟩,⟨e,he⟩=>by
  have hc:b*(x*x)-a=p*c:=hc;have he:b'*(x*x)-a'=p*e:=he;exact⟨c*b'-e*b,by
   show b*a'-a*b'=_;have e1:b*a'-a*b'=(b*(x*x)-a)*b'-(b'*(x*x)-a')*b:=⋯;rw[e1,hc,he];grind⟩
def Pg:List gT->Int->Int
 | [],_=>1
 | q::l,x=>q.g x*Pg l x
def Pd:List gT->Int->Int
 | [],_=>0
 | q::l,x=>q.d x*Pg l x+q.g x*Pd l x
def u4:List gT->Int
 | []=>1
 | q::l=>q.b*u4 l
def GP(q:gT):List gT->Int
 | []=>1
 | q'::l=>q.r q'*GP q l
def HQ:List gT->Int
 | []=>1
 | q::l=>q.e*GP q l*HQ l
theorem Gy:∀l:List gT,HD (Pg l) (Pd l)
 | []=>λx d=>⟨0,by show (1:Int)=1+d*0+d*d*0;grind⟩
 | q::l=>q.hd.mul (Gy l)
def J2(p:Int):Prop:=2<=p /\ ∀a b:Int,p∣a*b->p∣a\/p∣b
theorem vQ{p x:Int}(hp:J2 p):∀l:List gT,p∣Pg l x -> ∃q∈l,p∣q.g x
 | [],h=>by
  have h:p∣1:=h;have:=Int.natAbs_dvd_natAbs.mpr h;have:=hp.1;have:=Nat.dvd_one.mp (show p.natAbs∣1 by assumption)
  nofun
 | q::l,h=>by
  rcases hp.2 _ _ h with z|z
  .exact⟨q,Yi,z⟩
  .obtain⟨q',hq,e⟩:=vQ hp l z;exact⟨q',Yj _ hq,e⟩
theorem Bm{p x:Int}{q:gT}(h0:p∣q.g x):∀l:List gT,(∃q'∈l,p∣q'.g x)->p∣GP q l
 | [],⟨_,h,_⟩=>(by cases h)
 | q1::l,⟨q',h,e⟩=>by
  rcases YY.mp h with rfl|h
  .exact XC (gT.two q q' h0 e) (XO _ _)
  .exact XC (Bm h0 l ⟨q',h,e⟩) (XR _ _)
theorem uH{p x:Int}(hp:J2 p):∀l:List gT,¬ p∣HQ l->p∣Pg l x -> ¬ p∣Pd l x
 | [],_,h=>by
  obtain⟨_,h,_⟩:=vQ hp [] h;cases h
 | q::l,nb,h=>λhd=>by
  have nb1:¬ p∣q.e:=λz=>nb (XC z (XC (XO _ (GP q l)) (XO _ _)));have nb2:¬ p∣GP q l:=λz=>nb (XC z (XC (XR q.e _) (XO _ _)));have nb3:¬ p∣HQ l:=λz=>nb (XC z (XR _ _));have hd:p∣q.d x*Pg l x+q.g x*Pd l x:=hd;by_cases z:p∣q.g x
  .have h1:p∣q.d x*Pg l x:=by
    have:=Int.dvd_sub hd (XC z (XO _ (Pd l x)))
    rwa [show q.d x*Pg l x+q.g x*Pd l x-q.g x*Pd l x=q.d x*Pg l x by nofun] at this
   rcases hp.2 _ _ h1 with y|y
   .exact nb1 (q.own z y)
   .exact nb2 (Bm z l (vQ hp l y))
  .rcases hp.2 _ _ h with y|y
   .exact z y
   .have h1:p∣q.g x*Pd l x:=by
     have:=Int.dvd_sub hd (XC y (XR (q.d x) _))
     rwa [show q.d x*Pg l x+q.g x*Pd l x-q.d x*Pg l x=q.g x*Pd l x by nofun] at this
    rcases hp.2 _ _ h1 with w|w
    .exact z w
    .exact uH hp l nb3 y w
theorem Aj{ns:List Int}{l:List gT}{p:Int}(hp:J2 p)(e:∀x,u4 l*zv ns x=nz ns (ns.length-1)*Pg l x)(h1:¬ p∣nz ns (ns.length-1))(h2:¬ p∣HQ l):Sv ns p:=by
 have cop:∀a:Int,¬ p∣a->Int.gcd a p=1:=λa h=>by
  have d1:=YO (a:=a) (b:=p);obtain⟨c,hc⟩:=YQ (a:=a) (b:=p);have p0:=hp.1;rcases hp.2 _ _ (show p∣((Int.gcd a p:Nat):Int)*c by rw[<-hc];exact Int.dvd_refl _) with z|z
  .exact absurd (XC z d1) h
  .obtain⟨d,hd⟩:=z;rw[hd] at hc;have e1:p*(((Int.gcd a p:Nat):Int)*d)=p*1:=by rw[Yp];grind
   have e2:=Xl () e1;have:((Int.gcd a p:Nat):Int)∣1:=⟨d,e2.symm⟩;have:=Int.natAbs_dvd_natAbs.mpr this;exact Nat.dvd_one.mp (by simpa using this)
 refine⟨cop _ h1,λx _ _ hx=>cop _ λhz=>?_⟩;have hd:HD (λx=>u4 l*zv ns x) (λx=>u4 l*zs ns x):=(HD.zv ns).smul _;have hd2:HD (λx=>nz ns (ns.length-1)*Pg l x) (λx=>nz ns (ns.length-1)*Pd l x):=(Gy l).smul _;have ef:(λx=>u4 l*zv ns x)=λx=>nz ns (ns.length-1)*Pg l x:=funext e;rw[ef] at hd;have es:=hd.uniq hd2 x;have pg:p∣Pg l x:=by
  have:p∣nz ns (ns.length-1)*Pg l x:=by rw[<-e];exact XC hx (XR _ _)
  rcases hp.2 _ _ this with z|z
  .exact absurd z h1
  .exact z
 have pd:p∣Pd l x:=by
  have:p∣nz ns (ns.length-1)*Pd l x:=by
   have:=XC hz (XR (u4 l) _);have es:u4 l*zs ns x=nz ns (ns.length-1)*Pd l x:=es
   rwa [es] at this
  rcases hp.2 _ _ this with z|z
  .exact absurd z h1
  .exact z
 exact uH hp l h2 pg pd
def PL:List Nat:=[59,61,67,71,73,79,83,89,97,101,103,107,109,113,127,131,137,139,149,151,157,163,167,173,179,181,191,193,197,199,211,223,227,229,233,239,241,251,257,263,269,271,277,281,283,293,307,311,313,317,331,337,347,349,353,359,367,373,379,383,389,397,401,409,419,421,431,433,439,443,449,457,461,463,467,479,487,491,499,503,509,521,523,541,547,557,563,569,571,577,587,593,599,601,607,613,617,619,631,641,643,647,653,659,661,673,677,683,691,701,709,719,727,733,739,743,751,757,761,769,773,787,797,809,811,821,823,827,829,839,853,857,859,863,877,881,883,887,907,911,919,929,937,941,947,953,967,971,977,983,991,997,1009,1013,1019,1021,1031,1033,1039,1049,1051,1061,1063,1069,1087,1091,1093,1097,1103,1109,1117,1123,1129,1151,1153,1163,1171,1181,1187,1193,1201,1213,1217,1223,1229,1231,1237,1249,1259,1277,1279,1283,1289,1291,1297,1301,1303,1307,1319,1321,1327,1361,1367,1373,1381,1399,1409,1423,1427,1429,1433,1439,1447,1451,1453,1459,1471,1481,1483,1487,1489,1493,1499,1511,1523,1531,1543,1549,1553,1559,1567,1571,1579,1583,1597,1601,1607,1609,1613,1619,1621,1627,1637,1657,1663,1667,1669,1693,1697,1699,1709,1721,1723,1733,1741,1747,1753,1759,1777,1783,1787,1789,1801,1811,1823,1831,1847,1861,1867,1871,1873,1877,1879,1889,1901,1907,1913,1931,1933,1949,1951,1973,1979,1987,1993,1997,1999,2003,2011,2017,2027,2029,2039,2053,2063,2069,2081,2083,2087,2089,2099,2111,2113,2129,2131,2137,2141,2143,2153,2161,2179,2203,2207,2213,2221,2237,2239,2243,2251,2267,2269,2273,2281,2287,2293,2297,2309,2311,2333,2339,2341,2347,2351,2357,2371,2377,2381,2383,2389,2393,2399,2411,2417,2423,2437,2441,2447,2459,2467,2473,2477,2503,2521,2531,2539,2543,2549,2551,2557,2579,2591,2593,2609,2617,2621,2633,2647,2657,2659,2663,2671,2677,2683,2687,2689,2693,2699,2707,2711,2713,2719,2729,2731,2741,2749,2753,2767,2777,2789,2791,2797,2801,2803,2819,2833,2837,2843,2851,2857,2861,2879,2887,2897,2903,2909,2917,2927,2939,2953,2957,2963,2969,2971,2999,3001,3011,3019,3023]
def Md:Nat:=230843697339241380472092742683027581083278564571807941132288000000000000
theorem Mj:∀g,g<55->2<=g->g∣Md:=by decide +kernel
theorem Kr:PL.all (λp=>Nat.gcd p Md==1 && (Nat.ble 59 p && Nat.ble p 3024))=true:=by decide +kernel
theorem wX{p:Nat}(h:p∈PL):J2 (p:Int)/\(p:Int)<=3024:=by
 have a:=List.all_eq_true.mp Kr p h;simp only[YX,beq_iff_eq] at a;obtain⟨g1,lo,hi⟩:=a;have lo:=Nat.ble_eq.mp lo;have hi:=Nat.ble_eq.mp hi;have two:∀g,g∣p->g=1\/g=p:=λg hg=>by
  obtain⟨k,hk⟩:=hg;have small:∀g,g∣p->g<55->g=1:=λg hg h5=>by
   by_cases z:2<=g
   .have d:=Nat.dvd_gcd hg (Mj g h5 z);rw[g1] at d;exact Nat.dvd_one.mp d
   .rcases Nat.eq_zero_or_pos g with y|y
    .rw[y] at hg;have:=Nat.eq_zero_of_zero_dvd hg;nofun
    .nofun
  by_cases z:g<55
  .exact .inl (small g ⟨k,hk⟩ z)
  .by_cases y:k<55
   .have:=small k ⟨g,by rw[hk,YH]⟩ y
    rw[this] at hk;exact .inr ()
   .have:55*55<=g*k:=Xp () ();nofun
 refine⟨⟨(),λa b hab=>?_⟩,()⟩;have hab:=Int.natAbs_dvd_natAbs.mpr hab;rw[YU,XD] at hab;rcases two _ (Nat.gcd_dvd_left p a.natAbs) with z|z
 .right
  have:=Y7 z hab;exact Int.ofNat_dvd_left.mpr this
 .left
  have:=Nat.gcd_dvd_right p a.natAbs;rw[z] at this;exact Int.ofNat_dvd_left.mpr this
theorem vF{D:Nat}:∀l:List Nat,(∀p∈l,J2 (p:Int))->l.Pairwise (· < ·)->(∀p∈l,p∣D)->l.foldr (· * ·) 1∣D
 | [],_,_,_=>Nat.one_dvd _
 | p::l,hp,hw,hd=>by
  obtain⟨h1,h2⟩:=List.pairwise_cons.mp hw;have i:=vF l (λq hq=>hp q (Yj _ hq)) h2 λq hq=>hd q (Yj _ hq);show p*l.foldr (· * ·) 1∣D;refine Nat.Coprime.mul_dvd_of_dvd_of_dvd ?_ (hd p Yi) i;have pp:=hp p Yi;have no:∀l':List Nat,(∀q∈l',q∈l) -> ¬ (p:Int)∣((l'.foldr (· * ·) 1:Nat):Int):=λl' hl'=>by
   induction l' with
   | nil =>
    intro z;have:=Int.natCast_dvd_natCast.mp z;have:=Nat.dvd_one.mp this;have:=pp.1;nofun
   | cons q l' ih =>
    intro z;have z:(p:Int)∣((q*l'.foldr (· * ·) 1:Nat):Int):=z;rw[XH] at z;rcases pp.2 _ _ z with y|y
    .have ql:=hl' q Yi;have lt:=h1 q ql;obtain⟨c,hc⟩:=Int.natCast_dvd_natCast.mp y;have pq:=hp q (Yj _ ql);rcases pq.2 _ (c:Int) (by rw[<-XH,<-hc];exact Int.dvd_refl _) with w|w
     .have:=XE (by have:=pp.1;nofun) (Int.natCast_dvd_natCast.mp w)
      nofun
     .have cq:=Int.natCast_dvd_natCast.mp w;have c0:0<c:=by
       rcases Nat.eq_zero_or_pos c with v|v
       .rw[v] at hc;have:=pq.1;nofun
       .exact v
      have:=XE c0 cq;have:q*2<=c*p:=Xp this (by have:=pp.1;nofun)
      rw[hc] at this;have:=YH p c;have:=pp.1;nofun
    .exact ih (λq hq=>hl' q (Yj _ hq)) y
  have n:=no l λq hq=>hq;unfold Nat.Coprime;have d1:=Nat.gcd_dvd_left p (l.foldr (· * ·) 1);obtain⟨c,hc⟩:=d1;rcases pp.2 (Nat.gcd p (l.foldr (· * ·) 1):Nat) (c:Int) (by rw[<-XH,<-hc];exact Int.dvd_refl _) with w|w
  .exact absurd (XC w (Int.natCast_dvd_natCast.mpr (Nat.gcd_dvd_right _ _))) n
  .obtain⟨e,he⟩:=Int.natCast_dvd_natCast.mp w;have p0:=pp.1;have e1:p*(Nat.gcd p (l.foldr (· * ·) 1)*e)=p*1:=by
    rw[Nat.mul_one];have:p*(Nat.gcd p (l.foldr (· * ·) 1)*e)=Nat.gcd p (l.foldr (· * ·) 1)*(p*e):=by rw[Nat.mul_left_comm]
    rw[this,<-he,<-hc]
   have e2:=Nat.eq_of_mul_eq_mul_left () e1;exact Nat.eq_one_of_mul_eq_one_right e2
theorem Hx:2^4150<=PL.foldr (· * ·) 1:=by decide +kernel
theorem Ez:PL.Pairwise (· < ·):=by decide +kernel
theorem Cw{D:Int}(d0:D≠0)(hD:D.natAbs<2^4150):∃p:Int,J2 p/\p<=3024 /\ ¬ p∣D:=by
 refine Xy λh=>?_;have all:∀p∈PL,p∣D.natAbs:=λp hp=>Xy λz=>h ⟨p,(wX hp).1,(wX hp).2,λy=>z (Int.ofNat_dvd_left.mp y)⟩;have:=XE () (vF PL (λp hp=>(wX hp).1) Ez all);have:=Hx;nofun
end L2
set_option exponentiation.threshold 10000
namespace L2
open PySem PySem.Spec PyProof.Rows
def gT.sm:gT->Prop
 | .line a b=>a.natAbs<=2^70/\b.natAbs<=2^70
 | .quad a b=>a.natAbs<=2^70/\b.natAbs<=2^70
theorem cR{a b:Int}{m n:Nat}(h1:a.natAbs<=2^m)(h2:b.natAbs<=2^n):(a*b).natAbs<=2^(m+n):=by
 rw[YU,YV];exact Xp h1 h2
theorem oO{a b:Int}{m:Nat}(h1:a.natAbs<=2^m)(h2:b.natAbs<=2^m):(a-b).natAbs<=2^(m+1):=by
 rw[YW];nofun
theorem jy{a:Int}{m n:Nat}(h1:a.natAbs<=2^m)(h:m<=n):a.natAbs<=2^n:=Yg h1 (YT ∅ h)
theorem gT.e_sm:∀{q:gT},q.sm->q.e.natAbs<=2^141
 | .line a b,h=>jy h.2 ∅
 | .quad a b,h=>by
  show (2*b*a).natAbs<=_;have two:(2:Int).natAbs<=2^1:=∅;exact jy (cR (cR two h.2) h.1) ∅
theorem gT.r_sm:∀{q q':gT},q.sm->q'.sm->(q.r q').natAbs<=2^211
 | .line a b,.line a' b',h,k=>jy (oO (cR h.2 k.1) (cR h.1 k.2)) ∅
 | .line a b,.quad a' b',h,k=>oO (m:=210) (jy (cR k.2 (cR h.1 h.1)) ∅) (jy (cR (cR h.2 h.2) k.1) ∅)
 | .quad a b,.line a' b',h,k=>oO (m:=210) (jy (cR h.2 (cR k.1 k.1)) ∅) (jy (cR (cR k.2 k.2) h.1) ∅)
 | .quad a b,.quad a' b',h,k=>jy (oO (cR h.2 k.1) (cR h.1 k.2)) ∅
theorem GB{q:gT}(hq:q.sm):∀{l:List gT},(∀q∈l,q.sm)->(GP q l).natAbs<=2^(211*l.length)
 | [],_=>by show Int.natAbs 1<=2^0;decide
 | q'::l,h=>by
  have:=cR (gT.r_sm hq (h q' Yi)) (GB hq λp hp=>h p (Yj _ hp));show (q.r q'*GP q l).natAbs<=2^(211*(l.length+1));rw[show 211*(l.length+1)=211+211*l.length by nofun]
  exact this
def fb:Nat->Nat
 | 0=>0
 | n+1=>141+211*n+fb n
theorem DL:∀{l:List gT},(∀q∈l,q.sm)->(HQ l).natAbs<=2^fb l.length
 | [],_=>by decide
 | q::l,h=>by
  have hl:∀q∈l,q.sm:=λp hp=>h p (Yj _ hp);exact cR (cR (gT.e_sm (h q Yi)) (GB (h q Yi) hl)) (DL hl)
theorem KI:∀{n:Nat},n<=6->fb n<=4015
 | 0,_=>by decide
 | 1,_=>by decide
 | 2,_=>by decide
 | 3,_=>by decide
 | 4,_=>by decide
 | 5,_=>by decide
 | 6,_=>by decide
 | n+7,h=>by nofun
def qy(q:aR)(ν:Int×Int):gT:=match q with
 | .line _=>.line ν.1 ν.2
 | .root _=>.quad ν.1 ν.2
 | .none _=>.quad (-ν.1) ν.2
theorem wL{ν:Int×Int}(h:ν.2≠0):(ν.1:Rat)=wv ν*(ν.2:Rat):=by
 unfold wv;rw[XI (aq h)]
theorem IY{q:aR}{ν:Int×Int}(h:q.num=wv ν)(n0:ν.2≠0)(x:Int):(((qy q ν).g x:Int):Rat)=(((qy q ν).b:Int):Rat)*q.p (x:Rat):=by
 have t:=wL n0;cases q with
 | line r =>
  have h:r=wv ν:=h;show ((ν.2*x-ν.1:Int):Rat)=(ν.2:Rat)*((x:Rat)-r);rw[Xc,Xb,t,h];grind
 | root n =>
  have h:n=wv ν:=h;show ((ν.2*(x*x)-ν.1:Int):Rat)=(ν.2:Rat)*((x:Rat)*(x:Rat)-n);rw[Xc,Xb,Xb,t,h];grind
 | none n =>
  have h:n=wv ν:=h;show ((ν.2*(x*x) - -ν.1:Int):Rat)=(ν.2:Rat)*((x:Rat)*(x:Rat)+n);rw[Xc,Xb,Xb,XG,t,h];grind
theorem uu{a b a' b':Int}{r r':Rat}(b0:b≠0)(b1:b'≠0)(h:(a:Rat)=r*(b:Rat))(k:(a':Rat)=r'*(b':Rat))(ne:r≠r'):b*a'-a*b'≠0:=λz=>by
 have z:((b*a'-a*b':Int):Rat)=0:=by rw[z];rfl
 rw[Xc,Xb,Xb,h,k] at z;have c:=aq b0;have d:=aq b1;have e:((b:Rat)*(b':Rat))*(r'-r)=0:=⋯;rcases Rat.mul_eq_zero.mp e with y|y
 .rcases Rat.mul_eq_zero.mp y with w|w
  .exact c w
  .exact d w
 .exact ne ⋯
theorem x6{a b a' b':Int}{r n:Rat}(b0:b≠0)(b1:b'≠0)(h:(a:Rat)=r*(b:Rat))(k:(a':Rat)=n*(b':Rat))(ne:r*r≠n):b'*(a*a)-b*b*a'≠0:=λz=>by
 have z:((b'*(a*a)-b*b*a':Int):Rat)=0:=by rw[z];rfl
 rw[Xc,Xb,Xb,Xb,Xb,h,k] at z;have c:=aq b0;have d:=aq b1;have e:((b:Rat)*(b:Rat)*(b':Rat))*(r*r-n)=0:=⋯;rcases Rat.mul_eq_zero.mp e with y|y
 .rcases Rat.mul_eq_zero.mp y with w|w
  .rcases Rat.mul_eq_zero.mp w with v|v
   .exact c v
   .exact c v
  .exact d w
 .exact ne ⋯
theorem Jd{q q':aR}{ν ν':Int×Int}(h:q.num=wv ν)(h':q'.num=wv ν')(n0:ν.2≠0)(n1:ν'.2≠0)(ok:q.ok)(ok':q'.ok)(ne:q≠q'):(qy q ν).r (qy q' ν')≠0:=by
 have t:=wL n0;have t':=wL n1;have ng:∀{ν:Int×Int},(ν.1:Rat)=wv ν*(ν.2:Rat)->((-ν.1:Int):Rat) = -wv ν*(ν.2:Rat):=λt=>by rw[XG,t];grind
 cases q with
 | line r =>
  have h:r=wv ν:=h;cases q' with
  | line r' =>
   have h':r'=wv ν':=h';exact uu n0 n1 (h▸t) (h'▸t') λz=>ne (by rw[z])
  | root n =>
   have h':n=wv ν':=h';exact x6 n0 n1 (h▸t) (h'▸t') (ok'.2 r)
  | none n =>
   have h':n=wv ν':=h';refine x6 n0 n1 (h▸t) (ng t') λz=>?_;have o:(0:Rat)<n:=ok';have:=jm r;grind
 | root n =>
  have h:n=wv ν:=h;cases q' with
  | line r =>
   have h':r=wv ν':=h';exact x6 n1 n0 (h'▸t') (h▸t) (ok.2 r)
  | root n' =>
   have h':n'=wv ν':=h';exact uu n0 n1 (h▸t) (h'▸t') λz=>ne (by rw[z])
  | none n' =>
   have h':n'=wv ν':=h';refine uu n0 n1 (h▸t) (ng t') λz=>?_;have o:(0:Rat)<n:=ok.1;have o':(0:Rat)<n':=ok';grind
 | none n =>
  have h:n=wv ν:=h;cases q' with
  | line r =>
   have h':r=wv ν':=h';refine x6 n1 n0 (h'▸t') (ng t) λz=>?_;have o:(0:Rat)<n:=ok;have:=jm r;grind
  | root n' =>
   have h':n'=wv ν':=h';refine uu n0 n1 (ng t) (h'▸t') λz=>?_;have o:(0:Rat)<n:=ok;have o':(0:Rat)<n':=ok'.1;grind
  | none n' =>
   have h':n'=wv ν':=h';refine uu n0 n1 (ng t) (ng t') λz=>ne ?_;rw[show n=n' by grind]
theorem HY{q:aR}{ν:Int×Int}(h:q.num=wv ν)(n0:ν.2≠0)(ok:q.ok):(qy q ν).e≠0:=by
 have dF:∀{n:Rat},n=wv ν->0<n->ν.1≠0:=λe p z=>by
  have:wv ν=0:=by unfold wv;rw[z,Xu];show (0:Rat)*_=0;grind
  grind
 cases q with
 | line r=>exact n0
 | root n =>
  have:=dF h ok.1;exact Y9 (Y9 ∅ n0) this
 | none n =>
  have:=dF h ok;exact Y9 (Y9 ∅ n0) (by show -ν.1≠0;nofun)
theorem Fn{q:aR}{ν:Int×Int}{b:Nat}(h:Bq b ν)(hb:b<=70):(qy q ν).sm:=by
 have p:2^b<=2^70:=YT ∅ hb;have h1:ν.1.natAbs<=2^70:=Yg (Yh h.1) p;have h2:ν.2.natAbs<=2^70:=Yg (Yh h.2) p;cases q with
 | line r=>exact⟨h1,h2⟩
 | root n=>exact⟨h1,h2⟩
 | none n=>exact⟨by rw[Int.natAbs_neg];exact h1,h2⟩
def uV(q:gT)(P:List Int):List Int:=match q with
 | .line a b=>fL (cJ (-a) P) (0::cJ b P)
 | .quad a b=>fL (cJ (-a) P) (0::0::cJ b P)
def gT.dg:gT->Nat
 | .line _ _=>1
 | .quad _ _=>2
theorem sS:∀(F G:List Int)(k:Nat),nz (fL F G) k=nz F k+nz G k
 | [],G,k=>by
  have:nz [] k=0:=aL (by simp)
  show nz G k=nz [] k+nz G k;nofun
 | a::F,[],k=>by
  have:nz [] k=0:=aL (by simp)
  show nz (a::F) k=nz (a::F) k+nz [] k;nofun
 | a::F,b::G,0=>rfl
 | a::F,b::G,k+1=>sS F G k
theorem kM(c:Int):∀(F:List Int)(k:Nat),nz (cJ c F) k=c*nz F k
 | [],k=>by show nz [] k=c*nz [] k;rw[aL (by simp)];simp
 | a::F,0=>rfl
 | a::F,k+1=>kM c F k
theorem sV(x:Int):∀F G:List Int,zv (fL F G) x=zv F x+zv G x
 | [],G=>by show zv G x=0+zv G x;nofun
 | a::F,[]=>by show zv (a::F) x=zv (a::F) x+0;nofun
 | a::F,b::G=>by
  show a+b+x*zv (fL F G) x=a+x*zv F x+(b+x*zv G x);rw[sV x F G];grind
theorem kU(c x:Int):∀F:List Int,zv (cJ c F) x=c*zv F x
 | []=>by show (0:Int)=c*0;nofun
 | a::F=>by
  show c*a+x*zv (cJ c F) x=c*(a+x*zv F x);rw[kU c x F];grind
theorem Et(q:gT)(P:List Int)(x:Int):zv (uV q P) x=q.g x*zv P x:=by
 cases q with
 | line a b =>
  show zv (fL (cJ (-a) P) (0::cJ b P)) x=(b*x-a)*zv P x;rw[sV];show _+(0+x*zv (cJ b P) x)=_;rw[kU,kU];grind
 | quad a b =>
  show zv (fL (cJ (-a) P) (0::0::cJ b P)) x=(b*(x*x)-a)*zv P x;rw[sV];show _+(0+x*(0+x*zv (cJ b P) x))=_;rw[kU,kU];grind
theorem D9{q:gT}{P:List Int}{d:Nat}{c:Int}(h:nz P d=c)(k:∀i,d<i->nz P i=0):nz (uV q P) (d+q.dg)=q.b*c /\ ∀i,d+q.dg<i->nz (uV q P) i=0:=by
 cases q with
 | line a b =>
  have s:∀i,nz (uV (.line a b) P) (i+1) = -a*nz P (i+1)+b*nz P i:=λi=>by
   show nz (fL (cJ (-a) P) (0::cJ b P)) (i+1)=_;rw[sS,kM];show _+nz (cJ b P) i=_;rw[kM]
  refine⟨?_,λi hi=>?_⟩
  .show nz (uV (.line a b) P) (d+1)=b*c;rw[s,k (d+1) (),h];nofun
  .have hi:d+1<i:=hi;obtain⟨j,rfl⟩ : ∃j,i=j+1:=⟨i-1,()⟩;rw[s,k _ (),k _ ()];nofun
 | quad a b =>
  have s:∀i,nz (uV (.quad a b) P) (i+2) = -a*nz P (i+2)+b*nz P i:=λi=>by
   show nz (fL (cJ (-a) P) (0::0::cJ b P)) (i+2)=_;rw[sS,kM];show _+nz (cJ b P) i=_;rw[kM]
  refine⟨?_,λi hi=>?_⟩
  .show nz (uV (.quad a b) P) (d+2)=b*c;rw[s,k (d+2) (),h];nofun
  .have hi:d+2<i:=hi;obtain⟨j,rfl⟩ : ∃j,i=j+2:=⟨i-2,()⟩;rw[s,k _ (),k _ ()];nofun
theorem CW:∀F:List Int,(∀x,zv F x=0) -> ∀k,nz F k=0
 | [],_,k=>aL (by simp)
 | n::F,h,k=>by
  have h0:n=0:=by
   have:=h 0;have this:n+0*zv F 0=0:=this;nofun
  have h1:∀x,x≠0->zv F x=0:=λx x0=>by
   have:n+x*zv F x=0:=h x;rw[h0,XS] at this;rcases Int.mul_eq_zero.mp this with y|y
   .exact absurd y x0
   .exact y
  have h2:zv F 0=0:=by
   obtain⟨d,hd⟩ : ∃d:Int,d=(((zv F 0).natAbs+1:Nat):Int):=⟨_,rfl⟩;have z:=mn F (m:=d) (x:=0) (y:=d) ⟨-1,()⟩;rw[h1 d (),Int.sub_zero] at z;have:=Int.natAbs_dvd_natAbs.mpr z;rcases Nat.eq_zero_or_pos (zv F 0).natAbs with y|y
   .nofun
   .have:=XE y this;nofun
  have i:=CW F λx=>by
   by_cases z:x=0
   .rw[z];exact h2
   .exact h1 x z
  cases k with
  | zero=>exact h0
  | succ k=>exact i k
end L2
set_option exponentiation.threshold 10000
namespace L2
open PySem PySem.Spec PyProof.Rows
def FN(p:aR×(Int×Int)):Prop:=p.1.ok/\p.1.num=wv p.2/\Fq p.2 /\ ∃b,b<=70/\Bq b p.2
def ix(L:List (aR×(Int×Int))):List gT:=L.map λp=>qy p.1 p.2
def J5:List (aR×(Int×Int))->Rat->Rat
 | [],_=>1
 | p::L,x=>p.1.p x*J5 L x
theorem BA{q:aR×(Int×Int)}(hq:FN q):∀{L:List (aR×(Int×Int))},(∀p∈L,FN p/\q.1≠p.1)->GP (qy q.1 q.2) (ix L)≠0
 | [],_=>by show (1:Int)≠0;decide
 | p::L,h=>by
  obtain⟨⟨o,n,f,_⟩,ne⟩:=h p Yi;exact Y9 (Jd hq.2.1 n hq.2.2.1.ne f.ne hq.1 o ne) (BA hq λr hr=>h r (Yj _ hr))
theorem yF:∀{L:List (aR×(Int×Int))},(∀p∈L,FN p)->L.Pairwise (λa b=>a.1≠b.1)->HQ (ix L)≠0
 | [],_,_=>by show (1:Int)≠0;decide
 | p::L,h,u=>by
  obtain⟨u1,u2⟩:=List.pairwise_cons.mp u;have hp:=h p Yi;have hL:∀r∈L,FN r:=λr hr=>h r (Yj _ hr);exact Y9 (Y9 (HY hp.2.1 hp.2.2.1.ne hp.1) (BA hp λr hr=>⟨hL r hr,u1 r hr⟩)) (yF hL u2)
theorem I0{q:aR}{ν:Int×Int}(h:ν.2≠0):(qy q ν).b≠0:=by cases q<;>exact h
theorem G6:∀{L:List (aR×(Int×Int))},(∀p∈L,FN p)->u4 (ix L)≠0
 | [],_=>by show (1:Int)≠0;decide
 | p::L,h=>Y9 (I0 (h p Yi).2.2.1.ne) (G6 λr hr=>h r (Yj _ hr))
theorem BJ:∀{L:List (aR×(Int×Int))},(∀p∈L,FN p) -> ∀x:Int,((Pg (ix L) x:Int):Rat)=((u4 (ix L):Int):Rat)*J5 L (x:Rat)
 | [],_,x=>by show ((1:Int):Rat)=((1:Int):Rat)*1;grind
 | p::L,h,x=>by
  have hp:=h p Yi;have i:=BJ (λr hr=>h r (Yj _ hr)) x;show (((qy p.1 p.2).g x*Pg (ix L) x:Int):Rat)=(((qy p.1 p.2).b*u4 (ix L):Int):Rat)*(p.1.p (x:Rat)*J5 L (x:Rat));rw[Xb,Xb,IY hp.2.1 hp.2.2.1.ne,i];grind
theorem IU{L:List (aR×(Int×Int))}(h:∀p∈L,FN p):∀q∈ix L,q.sm:=λq hq=>by
 obtain⟨p,hp,rfl⟩:=List.mem_map.mp hq;obtain⟨_,_,_,b,hb,bb⟩:=h p hp;exact Fn bb hb
theorem va:∀L:List gT,∃(Z:List Int)(d:Nat),(∀x,zv Z x=Pg L x)/\nz Z d=u4 L /\ ∀i,d<i->nz Z i=0
 | []=>⟨[1],0,λx=>by show 1+x*0=1;nofun,rfl,λi hi=>aL (by simp;nofun)⟩
 | q::L=>by
  obtain⟨Z,d,h1,h2,h3⟩:=va L;obtain⟨k1,k2⟩:=D9 (q:=q) h2 h3;exact⟨uV q Z,d+q.dg,λx=>by rw[Et,h1];rfl,k1,k2⟩
theorem zj:∀{l:List (aR×Nat)},(∀q∈l,q.1.ok/\1<=q.2)->(∀q∈l,∃(ν:Int×Int)(b:Nat),q.1.num=wv ν/\Fq ν/\Bq b ν/\b<=70) -> ∃L:List (aR×(Int×Int)),(∀p∈L,FN p)/\L.map (·.1)=l.map (·.1) /\ ∀x,J5 L x=di l x
 | [],_,_=>⟨[],by simp,rfl,λ_=>rfl⟩
 | q::l,ok,h=>by
  obtain⟨L,h1,h2,h3⟩:=zj (λp hp=>ok p (Yj _ hp)) λp hp=>h p (Yj _ hp);obtain⟨ν,b,n,f,bb,b1⟩:=h q Yi;refine⟨(q.1,ν)::L,λp hp=>?_,by rw[YE,YE,h2],λx=>?_⟩
  .rcases YY.mp hp with rfl|hp
   .exact⟨(ok q Yi).1,n,f,b,b1,bb⟩
   .exact h1 p hp
  .show q.1.p x*J5 L x=q.1.p x*di l x;rw[h3]
theorem KM{h0:List Int}{l:List (aR×Nat)}{c0:Rat}(ok:∀q∈l,q.1.ok/\1<=q.2)(un:l.Pairwise λa b=>a.1≠b.1)(ll:l.length<=6)(nu:∀q∈l,∃(ν:Int×Int)(b:Nat),q.1.num=wv ν/\Fq ν/\Bq b ν/\b<=70)(cn:c0≠0)(z0:nz h0 (h0.length-1)≠0)(sm:(nz h0 (h0.length-1)).natAbs<=2^100)(len:h0.length<=20)(e:∀x,aQ h0 x=c0*di l x):∃m:Int,2<=m/\m<=3024/\Sv h0 m:=by
 obtain⟨L,hL,eL,pL⟩:=zj ok nu;have uL:L.Pairwise λa b=>a.1≠b.1:=by
  have:=(List.pairwise_map (R:=λa b:aR=>a≠b) (f:=λq:aR×Nat=>q.1)).mpr un;rw[<-eL] at this;exact List.pairwise_map.mp this
 have lL:(ix L).length<=6:=by
  have:=Yn List.length eL;rw[YD,YD] at this;unfold ix;rw[YD];nofun
 obtain⟨Z,d,hz,zd,zo⟩:=va (ix L);have B0:=G6 hL;have d0:(c0.den:Int)≠0:=by have:=c0.den_pos;nofun
 have n0:c0.num≠0:=λz=>cn (Rat.num_eq_zero.mp z);have d0r:((c0.den:Int):Rat)≠0:=aq d0;have ce:((c0.num:Int):Rat)=c0*((c0.den:Int):Rat):=by
  have:=Rat.num_divInt_den c0;rw[Rat.divInt_eq_div] at this;have z:(c0.num:Rat)/((c0.den:Int):Rat)=c0:=this;grind
 have fe:∀x:Int,(c0.den:Int)*u4 (ix L)*zv h0 x=c0.num*Pg (ix L) x:=λx=>by
  refine Rat.intCast_inj.mp ?_;rw[Xb,Xb,Xb,<-Cj,<-jD len,e,BJ hL,pL,ce];grind
 have ke:∀k,(c0.den:Int)*u4 (ix L)*nz h0 k=c0.num*nz Z k:=λk=>by
  have:=CW (fL (cJ ((c0.den:Int)*u4 (ix L)) h0) (cJ (-c0.num) Z)) (λx=>by
   rw[sV,kU,kU,fe,hz];grind) k
  rw[sS,kM,kM] at this;grind
 have dl:d=h0.length-1:=by
  have k1:=ke d;rw[zd] at k1;have hd:nz h0 d≠0:=λz=>by
   rw[z,Xh] at k1;exact Y9 n0 B0 k1.symm
  have h1:d<h0.length:=Xy λz=>hd (aL ());rcases Nat.lt_or_ge d (h0.length-1) with z|z
  .have k2:=ke (h0.length-1);rw[zo _ z,Xh] at k2;exact absurd k2 (Y9 (Y9 d0 B0) z0)
  .nofun
 have nl:c0.num=(c0.den:Int)*nz h0 (h0.length-1):=by
  have k1:=ke d;rw[zd,dl] at k1;have:u4 (ix L)*((c0.den:Int)*nz h0 (h0.length-1))=u4 (ix L)*c0.num:=⋯;exact (Xl B0 this).symm
 have ge:∀x,u4 (ix L)*zv h0 x=nz h0 (h0.length-1)*Pg (ix L) x:=λx=>by
  have f:=fe x;rw[nl] at f;exact Xl d0 ⋯
 have b0:=yF hL uL;obtain⟨p,hp,p3,nd⟩:=Cw (D:=nz h0 (h0.length-1)*HQ (ix L)) (Y9 z0 b0) (by
  have b:=Yg (DL (IU hL)) (YT ∅ (KI lL));have:=cR sm b;exact Nat.lt_of_le_of_lt this (Nat.pow_lt_pow_right ∅ ∅))
 exact⟨p,hp.1,p3,Aj hp ge (λz=>nd (XC z (XO _ _))) λz=>nd (XC z (XR _ _))⟩
end L2
set_option maxHeartbeats 2000000
namespace L2
open PySem PySem.Spec PyProof.Rows
theorem CP{f g:Nat->Int}{a b j k B:Nat}(ha:a<=10)(hb:b<=a)(jb:j<=b)(kj:k<=j)(hB:1<=B)(hf:∀i,(f i).natAbs<2^B)(hg:∀i,(g i).natAbs<2^B):(SR f g a b j k).natAbs<2^(87+20*B):=by
 by_cases h0:a+b-j=0
 .have:SR f g a b j k=1:=by
   unfold SR;rw[h0,show b-j=0 by nofun,show a-j=0 by nofun]
   have:Ej j k=[]:=List.length_eq_zero_iff.mp (by rw[CH kj];nofun)
   rw[show st (sh f) 0 0++(st (sh g) 0 0++Ej j k)=Ej j k from rfl,this]
   rfl
  rw[this];exact Nat.one_lt_two_pow ()
 obtain⟨C,hC⟩ : ∃C,C=2^B:=⟨_,rfl⟩;have c1:1<=C:=hC▸Nat.one_le_two_pow;have r:=Cz (M:=a+b-j) (C:=C) (rows:=st (sh f) 0 (b-j)++(st (sh g) 0 (a-j)++Ej j k)) (Nat.mul_pos () c1) (λr hr i=>by
  rcases List.mem_append.mp hr with z|z
  .obtain⟨i',_,rfl⟩:=kX z;exact AY (λi=>by have:=hf i;nofun) _ _
  .rcases List.mem_append.mp z with z|z
   .obtain⟨i',_,rfl⟩:=kX z;exact AY (λi=>by have:=hg i;nofun) _ _
   .obtain⟨i',_,rfl⟩:=List.mem_map.mp z;unfold kW;split<;>simp<;>nofun) (yN (a+b-j))
 have hl:(st (sh f) 0 (b-j)++(st (sh g) 0 (a-j)++Ej j k)).length=a+b-j:=by
  rw[YC,YC,tu,tu,CH kj];nofun
 rw[hl] at r;have e1:((a+b-j)*C)^(a+b-j)<=(20*C)^20:=Yg (Nat.pow_le_pow_left (XF _ ()) _) (YT () ());have e2:(20*C)^20<2^(87+20*B):=by
  rw[Nat.mul_pow,hC,<-Nat.pow_mul,YV,YH B 20];exact Nat.mul_lt_mul_of_pos_right ∅ Nat.one_le_two_pow
 unfold SR dt;nofun
structure qt (Z:Nat)(S1:Nat->Nat->Int)(F G:Nat->Int)(A B:Nat)(x h:Int):Prop where
 inv:qQ S1 F G A B x h
 a6:A<=10
 bS:∀j k,j<=B->k<=j->Bt Z (S1 j k)
 bF:∀k,Bt Z (F k)
 bG:∀k,Bt Z (G k)
 bx:Bt Z x
 bh:Bt Z h
 g1:G B≠0
 g0:∀k,B<k->G k=0
 f0:∀k,A<k->F k=0
theorem qt.first{F G:Nat->Int}{A B b:Nat}(h:B<=A)(ha:A<=10)(hb:1<=b)(bF:∀k,Bt b (F k))(bG:∀k,Bt b (G k))(g1:G B≠0)(g0:∀k,B<k->G k=0)(f0:∀k,A<k->F k=0):qt (87+20*b) (SR F G A B) F G A B 1 1 :=
 ⟨.first h,ha,λj k hj hk=>CP ha h hj hk hb bF bG,λk=>(bF k).mono (),λk=>(bG k).mono (),Bt.mono (m:=1) ∅ (),Bt.mono (m:=1) ∅ (),g1,g0,f0⟩
section
variable {Z:Nat}{S1:Nat->Nat->Int}{F G q R:Nat->Int}{A B:Nat}{x h:Int}
theorem qt.rest(I:qt Z S1 F G A B x h)(r0:∀k,B<=k->R k=0)(e:∀k,G B^(A-B+1)*F k=pz q G (A-B+1) k+R k) :
  ∃(r:Nat->Int)(h':Int),(∀k,R k=x*h^(A-B)*r k)/\(∀k,Bt Z (r k))/\(∀k,B<=k->r k=0)/\h'≠0/\Bt Z h'/\(A=B/\h'=h\/B<A/\h'*h^(A-B-1)=G B^(A-B)) /\
   ∀d,d<B->r d≠0->(∀k,d<k->r k=0)->qt Z S1 G r B d (G B) h':=by
 have e':∀k,G B^(A-B+1)*F k=cv q G (A-B+1) k+R k:=λk=>by rw[GY];exact e k
 have dv:∀k,∃y:Int,R k=x*h^(A-B)*y/\Bt Z y/\(B<=k->y=0):=λk=>by
  by_cases hk:k<B
  .have p:=I.inv.rest rfl I.g1 I.g0 r0 e' k hk;have b:=I.bS (B-1) k () ();rcases p with z|z
   .exact⟨_,z,b,λ_=>by nofun⟩
   .exact⟨- S1 (B-1) k,by rw[z,Int.mul_neg],b.pm (.inr rfl),λ_=>by nofun⟩
  .exact⟨0,by rw[r0 k (),Xh],mw,λ_=>rfl⟩
 have hi:∃h':Int,h'≠0/\Bt Z h'/\(A=B/\h'=h\/B<A/\h'*h^(A-B-1)=G B^(A-B)):=by
  by_cases ab:A=B
  .exact⟨h,I.inv.h0,I.bh,.inl ⟨ab,rfl⟩⟩
  .have ba:=I.inv.ba;have p:=I.inv.high rfl I.g0 ();have b:=I.bS B B () ();have nz:G B^(A-B)≠0:=Xt I.g1;rcases p with z|z
   .exact⟨S1 B B,λy=>nz (by rw[z,y,Xh]),b,.inr ⟨(),by rw[z,Y4]⟩⟩
   .exact⟨- S1 B B,λy=>nz (by rw[z,show S1 B B=0 by nofun,Xh];rfl),b.pm (.inr rfl),.inr ⟨(),by rw[z,Int.neg_mul,Y4]⟩⟩
 obtain⟨h',n0,bh',hh⟩:=hi;refine⟨λk=>(dv k).choose,h',λk=>(dv k).choose_spec.1,λk=>(dv k).choose_spec.2.1,λk hk=>(dv k).choose_spec.2.2 hk,n0,bh',hh,λd hd rd rz=>?_⟩;refine⟨I.inv.step (q:=q) rfl I.g1 I.g0 (λk=>?_) rz hd n0 hh,Yg I.inv.ba I.a6,λj k hj hk=>I.bS j k () hk,I.bG,λk=>(dv k).choose_spec.2.1,I.bG B,bh',rd,rz,I.g0⟩;rw[<-(dv k).choose_spec.1];exact e' k
end
def fW(b:Nat)(ns:List Int):Prop:=ns.length<=11/\(∀x∈ns,Bt b x)/\(ns≠[]->nz ns (ns.length-1)≠0)
theorem fW.up{b c:Nat}{l:List Int}(h:fW b l)(bc:b<=c):fW c l:=⟨h.1,λx hx=>(h.2.1 x hx).mono bc,h.2.2⟩
theorem AO{fs:List (Int×Int)}{h0 h1:List Int}{tl:List (List Int)}{l:List (aR×Nat)}{c:Rat}{a:Nat}(h:Lw fs (h0::h1::tl))(nz0:nz h0 (h0.length-1)≠0)(ok:∀q∈l,q.1.ok/\1<=q.2)(un:l.Pairwise λa b=>a.1≠b.1)(dl:fN l<=10)(ll:l.length<=6)(e:∀x,EV (cf fs) x=c*ug l x)(lb:LB l a):∃κ c0:Rat,0<κ/\c0≠0/\(∀x,aQ h0 x=c0*di l x)/\(∀x,κ*(aQ h1 x*di l x)=aQ h0 x*iu l x)/\h0.length<=11/\h1.length+1=h0.length/\(∀y∈h0,Bt (a+1) y) /\ ∀y∈h1,Bt (a+7) y:=by
 obtain⟨cc,_,more⟩:=h;obtain⟨p0,p1,bz,l9,l10⟩:=more h0 h1 tl rfl;rcases cc with ⟨_,c',_,z⟩|⟨h0',h1',tl',κ,z,ch,k0,id⟩
 .cases z
 cases z;have id:=id l c () e;obtain⟨c0,n0,e0⟩:=CL (dD ()) (dD ()) ok un k0 id bz;obtain⟨i1,i2⟩:=zn ok;have i3:=uf l;obtain⟨D,Zp,Zs,D0,ep,es,n1,n2,l1,l2⟩:=lb.lists λq hq=>by have:=i2 q hq;nofun
 have D0':=aq D0;obtain⟨b0,len⟩:=yP (Z:=Zp) (c:=(D:Rat)/c0) p0 () () (λz=>by
  have:(D:Rat)=0:=by
   have k:(D:Rat)/c0*c0=(D:Rat):=XI n0;rw[z] at k;grind
  exact D0' this) (λx=>by rw[ep,e0];grind) n1
 have e1:∀x,κ*aQ h1 x-c0*iu l x=0:=by
  refine Py.zero (f:=λx=>κ*aQ h1 x-c0*iu l x) (((dD ()).sc κ).sub ((m8 l).sc c0)) (jL l) (λx=>?_) (Jx ok un);have:=id x;rw[e0 x] at this;grind
 obtain⟨b1,_⟩:=yP (Z:=Zs) (c:=(D:Rat)*κ/c0) p1 () () (λz=>by
  have:(D:Rat)*κ=0:=by
   have k:(D:Rat)*κ/c0*c0=(D:Rat)*κ:=XI n0;rw[z] at k;grind
  rcases Rat.mul_eq_zero.mp this with y|y
  .exact D0' y
  .grind) (λx=>by
  rw[es];have:=e1 x;have h2:κ*aQ h1 x=c0*iu l x:=⋯;have h3:(D:Rat)*κ/c0*aQ h1 x=(D:Rat)/c0*(κ*aQ h1 x):=⋯;rw[h3,h2];grind) n2
 have pw:=Nat.two_pow_pos a;refine⟨κ,c0,k0,n0,e0,id,by have:=len nz0;nofun,l10,λy hy=>?_,λy hy=>?_⟩
 .have:=b0 y hy;show y.natAbs<2^(a+1);rw[YW];nofun
 .have:=b1 y hy;show y.natAbs<2^(a+7);rw[YV];have:(2:Nat)^7=128:=rfl;nofun
structure sw (fs:List (Int×Int))(l:List (aR×Nat)):Prop where
 ok:∀q∈l,q.1.ok/\1<=q.2
 un:l.Pairwise λa b=>a.1≠b.1
 dl:fN l<=10
 ln:fs.length=fN l+1
 ev:∃c:Rat,∀x,EV (cf fs) x=c*ug l x
 ll:l.length<=6
 lb:∃a,LB l a/\a<=67
 mks:∀m∈AV l,∃q:Int×Int,m=wv q/\Fq q/\Bq 300 q
theorem Gf{fs:List (Int×Int)}{hs:List (List Int)}{l:List (aR×Nat)}(h:Lw fs hs)(F:sw fs l)(all:∀x∈hs,x≠[]/\x.length<=20/\nz x (x.length-1)≠0):∃(h0 I:List Int)(tl:List (List Int))(n:Nat)(κ c0:Rat),hs=h0::tl/\(tl=[]/\I=[] \/ ∃tl',tl=I::tl')/\n<=10/\h0.length=n+1/\nz h0 n≠0/\I.length=n/\0<κ/\c0≠0/\(∀x,aQ h0 x=c0*di l x)/\(∀x,κ*(aQ I x*di l x)=aQ h0 x*iu l x)/\(∀y∈h0,Bt 98 y) /\ ∀y∈I,Bt 104 y:=by
 obtain⟨c,ev⟩:=F.ev;rcases id h.1 with ⟨f1,c',z,rfl⟩|⟨h0,h1,tl,κ',rfl,_⟩
 .have l0:=JF F.ok (show fN l=0 by have:=F.ln;nofun)
  subst l0;have one:=h.2.1 c' rfl;refine⟨[c'],[],[],0,1,(c':Rat),rfl,.inl ⟨rfl,rfl⟩,∅,rfl,z,rfl,∅,aq z,λx=>?_,λx=>?_,λy hy=>?_,by simp⟩
  .rw[sD];show (c':Rat)=(c':Rat)*1;grind
  .rw[sN];show (1:Rat)*(0*1)=_*0;grind
  .cases XY.mp hy;show c'.natAbs<2^98;rw[one];decide
 .obtain⟨a,lb,a97⟩:=F.lb;have nz0:=(all h0 (by simp)).2.2
  have n0:=List.length_pos_iff.mpr (all h0 (by simp)).1
  obtain⟨κ,c0,k0,n1,e0,id,l7,l1,b0,b1⟩:=AO h nz0 F.ok F.un F.dl F.ll ev lb;exact⟨h0,h1,h1::tl,h0.length-1,κ,c0,rfl,.inr ⟨tl,rfl⟩,(),(),nz0,(),k0,n1,e0,id,λy hy=>(b0 y hy).mono (),λy hy=>(b1 y hy).mono ()⟩
theorem lQ{a b m:Int}(h:m∣a-b):a%m=b%m:=Int.emod_eq_emod_iff_emod_sub_eq_zero.mpr (Int.emod_eq_zero_of_dvd h)
theorem e7(a m:Int):m∣a%m-a:=⟨-(a/m),by have:=Int.emod_add_mul_ediv a m;grind⟩
theorem zt(a m:Int):m∣a-a%m:=⟨a/m,by have:=Int.emod_add_mul_ediv a m;grind⟩
theorem Hn{z x w m:Int}:(z%m*x+w)%m=(w+x*z)%m:=by
 refine lQ ?_;obtain⟨c,hc⟩:=e7 z m;exact⟨c*x,by
  have:z%m=z+m*c:=();rw[this];grind⟩
theorem nX{a m:Int}:Int.gcd (a%m) m=1↔Int.gcd a m=1:=⟨λh=>oV h (zt a m),λh=>oV h (e7 a m)⟩
theorem mz{a m:Int}:a%m=0↔m∣a:=⟨Int.dvd_of_emod_eq_zero,Int.emod_eq_zero_of_dvd⟩
theorem ja{a m:Int}{n:Nat}(h:0<m)(b:Bt n m):Bt n (a%m):=by
 have h1:=Int.emod_nonneg a (show m≠0 by nofun)
 have h2:=XQ a h;unfold Bt at b ⊢;nofun
theorem FG{ns:List Int}{m:Int}(k:Nat):m∣nz (ns.map λn=>n%m) k-nz ns k:=by
 by_cases z:k<ns.length
 .have e1:(ns.map λn=>n%m)[k]? = some (ns[k]%m):=by rw[YA,YK z];rfl
  rw[aX e1,aX (YK z)];exact e7 _ _
 .rw[aL (by rw[YD];nofun),aL ()]
  exact⟨0,()⟩
structure DZ (ns:List Int)(m x M X i:Int):Prop where
 pw:∃e:Nat,M∣m^e
 mM:m∣M
 M2:2<=M
 root:M∣zv ns X
 on:m∣X-x
 inv:M∣zs ns X*i-1
 x0:0<=X
 x1:X<M
 i0:0<=i
 i1:i<M
theorem DZ.step{ns:List Int}{m x M X i:Int}(h:DZ ns m x M X i) {X' s i':Int}(hX:X'=(X-zv ns X%(M*M)*i)%(M*M))(hs:s=zs ns X'%(M*M))(hi:i'=i*(2-s*i)%(M*M)):DZ ns m x (M*M) X' i':=by
 have MM:2<=M*M:=by
  have:=Int.mul_le_mul h.M2 h.M2 () (by have:=h.M2;nofun)
  nofun
 have a1:M*M∣X'-(X-zv ns X*i):=by
  obtain⟨c,hc⟩:=e7 (X-zv ns X%(M*M)*i) (M*M);obtain⟨d,hd⟩:=e7 (zv ns X) (M*M);rw[<-hX] at hc;exact⟨c-d*i,by
   have e:zv ns X%(M*M)=zv ns X+M*M*d:=();rw[e] at hc;grind⟩
 have r1:M*M∣zv ns X':=by
  have a:=mn ns a1;have b:=Az h.root h.inv;have:=Int.dvd_add a b
  rwa [Int.sub_add_cancel] at this
 have xx:M∣X'-X:=by
  obtain⟨c,hc⟩:=a1;obtain⟨d,hd⟩:=h.root;exact⟨M*c-d*i,by rw[hd] at hc;grind⟩
 have sx:M∣s*i-1:=by
  obtain⟨c,hc⟩:=e7 (zs ns X') (M*M);obtain⟨d,hd⟩:=vG ns xx;obtain⟨e,he⟩:=h.inv;rw[<-hs] at hc;exact⟨M*c*i+d*i+e,by
   have e1:s=zs ns X'+M*M*c:=();have e2:zs ns X'=zs ns X+M*d:=();rw[e1,e2];grind⟩
 have iv:=Dj sx;have M0:=h.M2;obtain⟨e,pe⟩:=h.pw;refine⟨⟨e+e,?_⟩,XC h.mM (XO _ _),MM,r1,?_,?_,?_,?_,?_,?_⟩
 .rw[Int.pow_add];exact Int.mul_dvd_mul pe pe
 .have:=Int.dvd_add (XC h.mM xx) h.on
  rwa [show X'-X+(X-x)=X'-x by nofun] at this
 .obtain⟨c,hc⟩:=e7 (zs ns X') (M*M);obtain⟨d,hd⟩:=e7 (i*(2-s*i)) (M*M);obtain⟨f,hf⟩:=iv;rw[<-hs] at hc;rw[<-hi] at hd;refine⟨f+s*d-c*i',?_⟩;have e1:zs ns X'=s-M*M*c:=();have e2:i'=i*(2-s*i)+M*M*d:=();rw[e1];have:(s-M*M*c)*i'-1=s*i'-1-M*M*c*i':=⋯;rw[this,e2];grind
 .rw[hX];exact Int.emod_nonneg _ ()
 .rw[hX];exact XQ _ ()
 .rw[hi];exact Int.emod_nonneg _ ()
 .rw[hi];exact XQ _ ()
theorem DZ.first{ns:List Int}{m x i:Int}(m2:2<=m)(x0:0<=x)(x1:x<m)(hx:m∣zv ns x)(i0:0<=i)(i1:i<m)(hi:m∣i*(zs ns x%m)-1):DZ ns m x m x i:=by
 refine⟨⟨1,by rw[Xs,Xr,Xn];exact Int.dvd_refl _⟩,Int.dvd_refl _,m2,hx,⟨0,()⟩,?_,x0,x1,i0,i1⟩
 obtain⟨c,hc⟩:=hi;obtain⟨d,hd⟩:=e7 (zs ns x) m;exact⟨c-d*i,by
  have:zs ns x%m=zs ns x+m*d:=();rw[this] at hc;grind⟩
theorem DZ.told{ns:List Int}{m x M X i reach t:Int}(h:DZ ns m x M X i)(go:2*reach<M)(ht:t=if 2*(X*nz ns (ns.length-1)%M)<=M then X*nz ns (ns.length-1)%M else X*nz ns (ns.length-1)%M-M):HN ns m x reach t:=by
 have M0:=h.M2;obtain⟨e,pe⟩:=h.pw;have a:=Int.emod_nonneg (X*nz ns (ns.length-1)) (show M≠0 by nofun)
 have b:=XQ (X*nz ns (ns.length-1)) (show 0<M by nofun)
 have c:=e7 (X*nz ns (ns.length-1)) M;generalize hT:X*nz ns (ns.length-1)%M=T at *
 refine⟨M,X,e,pe,h.mM,h.root,h.on,?_,go,?_,?_⟩
 .rw[ht];split
  .exact c
  .obtain⟨d,hd⟩:=c;exact⟨d-1,by rw[Int.mul_sub,Yp,<-hd];nofun⟩
 .rw[ht];split<;>nofun
 .rw[ht];split<;>nofun
theorem nj.gen{c:TT}{tb:TS}{D:og}{σ:St}{H:Hp}(h:∀B:(St->Hp->Prop)->St->Hp->Prop,(∀N σ' H',tb { D with nx:=N,ct:=N,bk:=D.nx } σ' H'->B N σ' H')->nj c (λD' σ' H'=>B D'.nx σ' H') D σ H):nj c tb D σ H:=h (λN σ' H'=>tb { D with nx:=N,ct:=N,bk:=D.nx } σ' H') λ_ _ _ z=>z
end L2
namespace L2
open PySem PySem.Spec PyProof.Rows PySem.W
theorem Ak:bootBuiltins "sorted" = some (.builtin "sorted"):=by decide +kernel
theorem vB:∀{us:List Value}{ns:List Int},IntsAre us ns->bC (ns.map V.int) us:=by
 intro us ns h;induction h with
 | nil=>exact .nil
 | cons=>rename_i ih;exact .cons ⟨_,rfl⟩ ih
theorem oX{h:Heap}{vs:List Value}{out:Array Value}{b:Addr}{o:Obj}(e:h.get? b=some o):(sortedAll h vs out).get? b=some o:=by
 have lt:=Heap.lt_size e;have n1:∀k:Nat,h.objs.size+k≠b:=λk z=>by
  rw[<-z] at lt;exact absurd lt (Nat.not_lt.mpr (Nat.le_add_right _ _))
 unfold sortedAll sortedHeap;rw[Heap.get?_update_other _ _ (n1 1)];refine Heap.get?_push_of_some _ (Heap.get?_push_of_some _ ?_);rw[Heap.get?_update_other _ _ (n1 1)];refine Heap.get?_push_of_some _ ?_;rw[Heap.get?_update_other _ _ (show h.objs.size≠b from n1 0)]
 exact Heap.get?_push_of_some _ e
theorem qM{h:Heap}{vs:List Value}{out:Array Value}:∃n,(sortedAll h vs out).get? (h.objs.size+1)=some { cls:=.type "list",data:=.seq out n }:=by
 have sz:((h.push (seqObj "list" #[] 0)).update h.objs.size (Obj.mapSeq (· ++ vs.toArray))).objs.size=h.objs.size+1:=by
  rw[Heap.size_update,Heap.size_push]
 have e1:(((h.push (seqObj "list" #[] 0)).update h.objs.size (Obj.mapSeq (· ++ vs.toArray))).push (seqObj "list" vs.toArray 0)).get? (h.objs.size+1)=some (seqObj "list" vs.toArray 0):=by
  rw[<-sz];exact Heap.get?_push_size _ rfl
 unfold sortedAll sortedHeap;have e2:=Heap.get?_update_self (Obj.mapSeq λ_=>#[]) e1 rfl;have e3:=Heap.get?_push_of_some (seqObj "list" #[] 0) (Heap.get?_push_of_some (seqObj "tuple" vs.toArray 0) e2);have e4:=Heap.get?_update_self (Obj.mapSeq λ_=>out) e3 rfl;exact⟨_,e4⟩
theorem xt{X:Cx}:eV X (.builtin "sorted") (λxs H Q=>∃p,xs=[.ref p] /\ ∃ns:List Int,vw X.K H p=some (.lst (ns.map V.int))/\ns.length<64 /\ ∀ns':List Int,ns'.Perm ns->ns'.Pairwise (· <= ·)->Nw X.K H (.lst (ns'.map V.int)) Q):=by
 intro pins s σ H xs us Q I r h;obtain⟨p,rfl,ns,hp,l64,q⟩:=h;obtain⟨u,rfl,rx⟩:=ya r;cases rx;obtain⟨its,n,rv,e,_⟩:=I.lst (aH hp);have lv:=rv.length;rw[YD] at lv;refine sorted_ints (vs:=its) (ns:=ns) ⟨_,e,rfl,n,rfl⟩ (wK rv) () λout ns' hI hP hS=>?_;obtain⟨n',e'⟩:=qM (h:=s.heap) (vs:=its) (out:=out);have fr:=I.hok.fresh (Nat.le_succ s.heap.objs.size);have nk:=I.newK (Nat.le_succ s.heap.objs.size);have vo:=vB hI;have I2:aM X pins σ (upd H (s.heap.objs.size+1) (.lst (ns'.map V.int))) { s with heap:=sortedAll s.heap its out } :=
  I.laid (t':=s.toks) (λb o z=>oX z) (Nat.le_succ _) ⟨by rw[YD,hP.length_eq,sizeLine_eq];nofun,_,_,vo,by rw[e']⟩
 refine⟨.ref (s.heap.objs.size+1),_,I2,rfl,q ns' hP hS _ _ ?_ (mF (aC.upd fr)) (by rw[eo nk];exact dA)⟩
 rw[eo nk];exact fr
end L2
namespace L2
open PySem PySem.Spec PyProof.Rows
theorem ua{α:Type} [DecidableEq α]:∀{xs ys:List α},xs.Nodup->(∀x∈xs,x∈ys)->xs.length<=ys.length
 | [],_,_,_=>YS _
 | x::xs,ys,nd,h=>by
  obtain⟨n1,n2⟩:=List.nodup_cons.mp nd;have hx:=h x Yi;have:=ua (ys:=ys.erase x) n2 λy hy=>(List.mem_erase_of_ne (λe=>n1 (by rw[<-e];exact hy))).mpr (h y (Yj _ hy))
  rw[List.length_erase_of_mem hx] at this;have:=List.length_pos_of_mem hx;rw[Y5];nofun
theorem ul{x r:Rat}{m:Nat}:∀{l:List (aR×Nat)},gD l x=0->(aR.line r,m)∈l->x<r
 | [],_,h=>by cases h
 | q::l,z,h=>by
  have z:q.1.A x+gD l x=0:=z;rcases YY.mp h with rfl|h
  .have z:(if r<=x then 1 else 0)+gD l x=0:=z
   by_cases y:r<=x
   .rw[Yb y] at z;nofun
   .exact Rat.not_le.mp y
  .exact ul () h
theorem ub{x r:Rat}{m:Nat}:∀{l:List (aR×Nat)},gD l x=vK l->(aR.line r,m)∈l->r<=x
 | [],_,h=>by cases h
 | q::l,z,h=>by
  have z:q.1.A x+gD l x=q.1.tot+vK l:=z;have a:=aR.A_le q.1 x;have b:=Dc x l;rcases YY.mp h with rfl|h
  .have z:(if r<=x then 1 else 0)+gD l x=1+vK l:=z
   by_cases y:r<=x
   .exact y
   .rw[Yc y] at z;nofun
  .exact ub () h
structure jB (h0:List Int)(m reach:Int)(k:Nat)(rs:List (Int×Int)):Prop where
 each:∀p∈rs,0<=p.1/\p.1<m/\m∣zv h0 p.1/\HN h0 m p.1 reach p.2
 rise:rs.Pairwise λp q=>p.1<q.1
 all:∀x:Int,0<=x->x<k->m∣zv h0 x -> ∃t,(x,t)∈rs
def AE(h0:List Int)(L:Int)(rs:List (Int×Int)):List Int:=(rs.filter λp=>decide (hv h0 p.2 L=0)).map λp=>p.2*L.sign
theorem yV{t L:Int}(L0:L≠0):((t*L.sign:Int):Rat)/((L.natAbs:Int):Rat)=(t:Rat)/(L:Rat):=by
 have a:((L.natAbs:Int):Rat)≠0:=aq ();have b:=aq L0;rcases Int.lt_or_gt_of_ne L0 with z|z
 .have e:(L.natAbs:Int) = -L:=();rw[e,Int.sign_eq_neg_one_of_neg z,XG,Xb];have c:(((-1:Int):Int):Rat) = -1:=rfl;rw[c,Xu,Xu];have:(-(L:Rat))⁻¹ = -((L:Rat)⁻¹):=by
   have h1:(L:Rat)*(L:Rat)⁻¹=1:=Rat.mul_inv_cancel _ b;have n0 : -(L:Rat)≠0:=⋯;have h2 : -(L:Rat)*(-(L:Rat))⁻¹=1:=Rat.mul_inv_cancel _ n0;have h3:(L:Rat)*((-(L:Rat))⁻¹+(L:Rat)⁻¹)=0:=⋯;rcases Rat.mul_eq_zero.mp h3 with y|y
   .exact absurd y b
   .grind
  rw[this];grind
 .have e:(L.natAbs:Int)=L:=();rw[e,Int.sign_eq_one_of_pos z,Yp]
theorem rF{h0:List Int}{m reach:Int}{k:Nat}{rs:List (Int×Int)}(h:jB h0 m reach k rs)(L0:nz h0 (h0.length-1)≠0)(g:Int.gcd (nz h0 (h0.length-1)) m=1):(AE h0 (nz h0 (h0.length-1)) rs).Nodup:=by
 obtain⟨L,hL⟩ : ∃L,L=nz h0 (h0.length-1):=⟨_,rfl⟩;unfold AE;rw[<-hL] at L0 g ⊢;refine List.pairwise_map.mpr ?_;have mem:∀p∈rs.filter λp=>decide (hv h0 p.2 L=0),p∈rs:=λp hp=>(List.mem_filter.mp hp).1;refine (List.Pairwise.and_mem.mp (h.rise.filter _)).imp λ{p q} ⟨hp,hq,lt⟩ e=>?_;have s0:L.sign≠0:=λz=>L0 (Int.sign_eq_zero_iff_zero.mp z);have e2:p.2=q.2:=Y8 s0 e;obtain⟨p0,p1,_,pr⟩:=h.each p (mem p hp);obtain⟨q0,q1,_,qr⟩:=h.each q (mem q hq);have a:=pr.left;have b:=qr.left;rw[<-hL] at a b;have c:=Int.dvd_sub a b;rw[e2,show q.2-p.1*L-(q.2-q.1*L)=L*(q.1-p.1) by grind] at c
 have d:=fZ g c;have:=Int.le_of_dvd () d;nofun
theorem ud{h0:List Int}{L:Int}{rs:List (Int×Int)}(L0:L≠0):∀v∈AE h0 L rs,ga h0 ((v:Rat)/((L.natAbs:Int):Rat))=0:=λv hv'=>by
 obtain⟨p,hp,rfl⟩:=List.mem_map.mp hv';have:=XB (List.mem_filter.mp hp).2;rw[yV L0];exact (oP L0).mp this
theorem Gd{h0:List Int}{m reach:Int}{rs:List (Int×Int)}{r:Rat}{E:Nat}(h:jB h0 m reach m.toNat rs)(m2:2<=m)(n0:h0≠[])(L0:nz h0 (h0.length-1)≠0)(sv:Sv h0 m)(hr:ga h0 r=0)(lo : -(p2 E)<r)(hi:r<=p2 E)(he:reach=((nz h0 (h0.length-1)).natAbs:Int)*((2^E:Nat):Int)) :
  ∃v∈AE h0 (nz h0 (h0.length-1)) rs,(v:Rat)/(((nz h0 (h0.length-1)).natAbs:Int):Rat)=r:=by
 obtain⟨L,hL⟩ : ∃L,L=nz h0 (h0.length-1):=⟨_,rfl⟩;have b0:(r.den:Int)≠0:=by have:=r.den_pos;nofun
 have bp:0<(r.den:Int):=by have:=r.den_pos;nofun
 have re:(r.num:Rat)/((r.den:Int):Rat)=r:=by
  have:=Rat.num_divInt_den r
  rwa [Rat.divInt_eq_div] at this
 have gr:Int.gcd r.num (r.den:Int)=1:=r.reduced;have hz:hv h0 r.num (r.den:Int)=0:=(oP b0).mpr (by rw[re];exact hr)
 obtain⟨x,x0,x1,hx,hb⟩:=AB n0 hz gr () sv.1;obtain⟨t,ht⟩:=h.all x x0 () hx;obtain⟨_,_,_,R⟩:=h.each _ ht;obtain⟨c,hc⟩:=jO n0 hz gr;have d0:((r.den:Int):Rat)≠0:=aq b0;have dp:(0:Rat)<((r.den:Int):Rat):=Rat.intCast_pos.mpr bp;have nu:(r.num:Rat)=r*((r.den:Int):Rat):=by
  have:=XI (a:=(r.num:Rat)) d0;rw[re] at this;exact this.symm
 have two:p2 E=(((2^E:Nat):Int):Rat):=rfl;have dF:r.num.natAbs<=2^E*r.den:=by
  have h1:((r.num:Int):Rat)<=(((2^E:Nat):Int)*(r.den:Int):Int):=by
   rw[Xb,nu,<-two];exact Rat.mul_le_mul_of_nonneg_right hi (Xw dp)
  have h2:((-(((2^E:Nat):Int)*(r.den:Int)):Int):Rat)<=((r.num:Int):Rat):=by
   rw[XG,Xb,nu,<-two];have:=Rat.mul_le_mul_of_nonneg_right (Xw lo) (Xw dp);grind
  have h1:=Rat.intCast_le_intCast.mp h1;have h2:=Rat.intCast_le_intCast.mp h2;have e:((2^E*r.den:Nat):Int)=((2^E:Nat):Int)*(r.den:Int):=XH _ _;generalize ((2^E:Nat):Int)*(r.den:Int)=Z at *
  generalize 2^E*r.den=W at *
  nofun
 have ab:(r.num*c).natAbs<=reach.natAbs:=by
  rw[he,hc,YU,YU,XD,XD,YU,XD];have:=XF c.natAbs dF
  calc r.num.natAbs*c.natAbs<=2^E*r.den*c.natAbs:=this
   _=r.den*c.natAbs*2^E:=by rw[Nat.mul_assoc,YH]
 have rp:0<=reach:=by rw[he];exact Int.mul_nonneg (Int.natCast_nonneg _) (Int.natCast_nonneg _)
 have lo' : -reach<=r.num*c:=by clear he hc nu lo hi;nofun
 have hi':r.num*c<=reach:=by clear he hc nu lo hi;nofun
 have tq:=EK n0 hz gr sv.1 (sv.2 x x0 x1 hx) hb R hc lo' hi';have tq:t=r.num*c:=tq;have c0:c≠0:=λz=>L0 (by rw[hc,z,Xh])
 have tr:(t:Rat)/(L:Rat)=r:=by
  rw[hL,hc,tq,Xb,Xb,nu];have cr:=aq c0;rw[show r*((r.den:Int):Rat)*(c:Rat)=r*(((r.den:Int):Rat)*(c:Rat)) by grind]
  rw[Xu,Rat.mul_assoc,Rat.mul_inv_cancel _ (by
   intro z;rcases Rat.mul_eq_zero.mp z with y|y
   .exact d0 y
   .exact cr y),Rat.mul_one]
 refine⟨t*L.sign,?_,by rw[<-hL,yV (hL▸L0),tr]⟩
 rw[<-hL];exact List.mem_map.mpr ⟨(x,t),List.mem_filter.mpr ⟨ht,YI ((oP (hL▸L0)).mpr (by rw[tr];exact hr))⟩,rfl⟩
theorem LB.nu{l:List (aR×Nat)}{a:Nat}(h:LB l a):∀q∈l,∃(ν:Int×Int)(b:Nat),q.1.num=wv ν/\Fq ν/\Bq b ν/\b<=a:=by
 induction h with
 | nil=>simp
 | cons h1 h2 h3 h4 ih =>
  intro q hq;rcases YY.mp hq with rfl|hq
  .exact⟨_,_,h1,h2,h3,()⟩
  .obtain⟨ν,b,e1,e2,e3,e4⟩:=ih q hq;exact⟨ν,b,e1,e2,e3,()⟩
theorem ny{l:List (aR×Nat)}{h0:List Int}{c0 x:Rat}(ok:∀q∈l,q.1.ok/\1<=q.2)(len:h0.length<=20)(c0n:c0≠0)(e:∀x,aQ h0 x=c0*di l x):ga h0 x=0 ↔ ∃q∈l,q.1=.line x:=by
 rw[<-jD len,e];refine⟨λz=>pA ok ((Rat.mul_eq_zero.mp z).resolve_left c0n),λz=>?_⟩;rw[uo z,Rat.mul_zero]
structure m4 (l:List (aR×Nat))(ms:List (Int×Int)):Prop where
 fq:∀q∈ms,Fq q
 rise:ms.Pairwise λp q=>wv p<wv q
 just:∀r:Rat,(∃q∈ms,wv q=r) ↔ ∃q∈l,q.1=.line r
 len:ms.length<=l.length
theorem Fg{a b:Int}{d:Rat}(d0:d≠0)(h:(a:Rat)/d=(b:Rat)/d):a=b:=by
 have h1:=XI (a:=(a:Rat)) d0;have h2:=XI (a:=(b:Rat)) d0;rw[h,h2] at h1;exact (Rat.intCast_inj.mp h1).symm
theorem xQ{l:List (aR×Nat)}{h0:List Int}{c0:Rat}{m reach:Int}{k:Nat}{rs:List (Int×Int)}(ok:∀q∈l,q.1.ok/\1<=q.2)(len:h0.length<=20)(c0n:c0≠0)(e:∀x,aQ h0 x=c0*di l x)(h:jB h0 m reach k rs)(L0:nz h0 (h0.length-1)≠0)(g:Int.gcd (nz h0 (h0.length-1)) m=1):(AE h0 (nz h0 (h0.length-1)) rs).length<=l.length:=by
 have nd:=rF h L0 g;have d0:(((nz h0 (h0.length-1)).natAbs:Int):Rat)≠0:=aq ();have nd2:((AE h0 (nz h0 (h0.length-1)) rs).map λv:Int=>(v:Rat)/(((nz h0 (h0.length-1)).natAbs:Int):Rat)).Nodup:=List.pairwise_map.mpr (nd.imp λne e=>ne (Fg d0 e));have:=ua (ys:=l.map λq=>q.1.num) nd2 λx hx=>by
  obtain⟨v,hv',rfl⟩:=List.mem_map.mp hx;obtain⟨q,hq,e⟩:=(ny ok len c0n e).mp (ud L0 v hv');exact List.mem_map.mpr ⟨q,hq,by rw[e];rfl⟩
 rwa [YD,YD] at this
theorem BL{l:List (aR×Nat)}{h0:List Int}{c0:Rat}{m reach:Int}{rs:List (Int×Int)}{E:Nat}{ns:List Int}(ok:∀q∈l,q.1.ok/\1<=q.2)(len:h0.length<=20)(c0n:c0≠0)(e:∀x,aQ h0 x=c0*di l x)(h:jB h0 m reach m.toNat rs)(m2:2<=m)(L0:nz h0 (h0.length-1)≠0)(sv:Sv h0 m)(A1:gD l (p2 E)=vK l)(A0:gD l (-(p2 E))=0)(he:reach=((nz h0 (h0.length-1)).natAbs:Int)*((2^E:Nat):Int))(pm:ns.Perm (AE h0 (nz h0 (h0.length-1)) rs))(so:ns.Pairwise (· <= ·)):m4 l (ns.map λv=>lo v ((nz h0 (h0.length-1)).natAbs:Int)):=by
 have n0:h0≠[]:=λz=>L0 (by rw[z];rfl)
 have dz:((nz h0 (h0.length-1)).natAbs:Int)≠0:=();have d0:=aq dz;have dp:(0:Rat)<(((nz h0 (h0.length-1)).natAbs:Int):Rat):=Rat.intCast_pos.mpr ();have nd:ns.Nodup:=pm.nodup_iff.mpr (rF h L0 sv.1);refine⟨λq hq=>?_,List.pairwise_map.mpr ?_,λr=>⟨?_,?_⟩,?_⟩
 .obtain⟨v,_,rfl⟩:=List.mem_map.mp hq;exact iP dz
 .refine (so.and nd).imp λ{a b} ⟨le,ne⟩=>?_;rw[gS dz,gS dz,Xu,Xu];exact Rat.mul_lt_mul_of_pos_right (Rat.intCast_lt_intCast.mpr ()) (Rat.inv_pos.mpr dp)
 .rintro ⟨q,hq,rfl⟩;obtain⟨v,hv',rfl⟩:=List.mem_map.mp hq;rw[gS dz];exact (ny ok len c0n e).mp (ud L0 v (pm.mem_iff.mp hv'))
 .rintro ⟨q,hq,hr⟩;obtain⟨f,mu⟩:=q;have hr:f=.line r:=hr;subst hr;obtain⟨v,hv',ev⟩:=Gd h m2 n0 L0 sv ((ny ok len c0n e).mpr ⟨_,hq,rfl⟩) (ul A0 hq) (ub A1 hq) he;exact⟨_,List.mem_map.mpr ⟨v,pm.mem_iff.mpr hv',rfl⟩,by rw[gS dz,ev]⟩
 .rw[YD,pm.length_eq];exact xQ ok len c0n e h L0 sv.1
theorem jB.snoc{h0:List Int}{m reach t:Int}{k:Nat}{rs:List (Int×Int)}(h:jB h0 m reach k rs)(lt:∀p∈rs,p.1<k)(km:(k:Int)<m)(d:m∣zv h0 k)(R:HN h0 m k reach t):jB h0 m reach (k+1) (rs++[((k:Int),t)]):=by
 refine⟨λp hp=>?_,List.pairwise_append.mpr ⟨h.rise,List.pairwise_singleton _ _,λp hp q hq=>?_⟩,λx x0 x1 hx=>?_⟩
 .rcases List.mem_append.mp hp with q|q
  .exact h.each p q
  .rw[XY.mp q];exact⟨Int.natCast_nonneg _,km,d,R⟩
 .rw[XY.mp hq];exact lt p hp
 .by_cases z:x<k
  .obtain⟨t,ht⟩:=h.all x x0 z hx;exact⟨t,Yk _ ht⟩
  .have:x=k:=();subst this;exact⟨t,Ys _ Yi⟩
theorem jB.skip{h0:List Int}{m reach:Int}{k:Nat}{rs:List (Int×Int)}(h:jB h0 m reach k rs)(d:¬ m∣zv h0 k):jB h0 m reach (k+1) rs:=⟨h.each,h.rise,λx x0 x1 hx=>by
 by_cases z:x<k
 .exact h.all x x0 z hx
 .have:x=k:=();subst this;exact absurd hx d⟩
theorem u8{h0:List Int}{L:Int}{rs:List (Int×Int)}{q:Int×Int}:AE h0 L (rs++[q])=AE h0 L rs++if hv h0 q.2 L=0 then [q.2*L.sign] else []:=by
 unfold AE;rw[List.filter_append,XT];congr 1
 by_cases z:hv h0 q.2 L=0
 .simp[z]
 .simp[z]
theorem K4{ν:Int×Int}{b:Nat}(f:Fq ν)(hb:Bq b ν):∃q:Int×Int,eY (wv ν)=wv q/\Fq q/\Bq (b+b) q:=by
 obtain⟨n,d⟩:=ν;obtain⟨d0,g⟩:=f;have d0:0<d:=d0;have g:Int.gcd n d=1:=g;have dr:((d:Int):Rat)≠0:=aq ();have dp:(0:Rat)<((d:Int):Rat):=Rat.intCast_pos.mpr d0;have gg:Int.gcd (n*n) (d*d)=1:=by
  rw[Int.gcd_eq_natAbs_gcd_natAbs] at g ⊢;rw[YU,YU];have g:Nat.Coprime n.natAbs d.natAbs:=g;exact Nat.Coprime.mul_left (Nat.Coprime.mul_right g g) (Nat.Coprime.mul_right g g)
 have dd:0<d*d:=Y2 d0 d0;have b1:Bt (b+b) (n*n):=hb.1.mul hb.1;have b2:Bt (b+b) (d*d):=hb.2.mul hb.2;have w:wv (n*n,d*d)=wv (n,d)*wv (n,d):=by
  show ((n*n:Int):Rat)/((d*d:Int):Rat)=(n:Rat)/(d:Rat)*((n:Rat)/(d:Rat));rw[Xb,Xb];grind
 unfold eY;by_cases z:wv (n,d)<0
 .rw[Yb z];refine⟨(-(n*n),d*d),?_,⟨dd,?_⟩,⟨?_,b2⟩⟩
  .rw[<-w];show -(((n*n:Int):Rat)/((d*d:Int):Rat))=((-(n*n):Int):Rat)/((d*d:Int):Rat);rw[XG];grind
  .show Int.gcd (-(n*n)) (d*d)=1;rw[Int.neg_gcd];exact gg
  .show Bt _ (-(n*n));unfold Bt at b1 ⊢
   rwa [Int.natAbs_neg]
 .rw[Yc z];exact⟨(n*n,d*d),w.symm,⟨dd,gg⟩,⟨b1,b2⟩⟩
theorem FT{l:List (aR×Nat)}(nu:∀q∈l,∃(ν:Int×Int)(b:Nat),q.1.num=wv ν/\Fq ν/\Bq b ν/\b<=100):∀m∈AV l,∃q:Int×Int,m=wv q/\Fq q/\Bq 300 q:=λm hm=>by
 unfold AV at hm;obtain⟨q,hq,hm⟩:=List.mem_flatMap.mp hm;obtain⟨ν,b,e,f,hb,b100⟩:=nu q hq;obtain⟨k,_⟩:=q;cases k with
 | line r =>
  have e:r=wv ν:=e;have hm:m∈[eY r]:=hm;rw[XY.mp hm,e];obtain⟨p,h1,h2,h3⟩:=K4 f hb;exact⟨p,h1,h2,h3.mono ()⟩
 | root n =>
  have e:n=wv ν:=e;have hm:m∈[-n,n]:=hm;rcases YY.mp hm with rfl|hm
  .refine⟨(-ν.1,ν.2),?_,⟨f.1,?_⟩,⟨?_,hb.2.mono ()⟩⟩
   .rw[e];show -((ν.1:Rat)/(ν.2:Rat))=((-ν.1:Int):Rat)/(ν.2:Rat);rw[XG];grind
   .show Int.gcd (-ν.1) ν.2=1;rw[Int.neg_gcd];exact f.2
   .have:=hb.1.mono (show b<=300 by nofun)
    unfold Bt at this ⊢;show (-ν.1).natAbs<_
    rwa [Int.natAbs_neg]
  .rw[XY.mp hm];exact⟨ν,e,f,hb.mono ()⟩
 | none n=>cases hm
theorem zC:∀{xs ys:List Rat},xs.Pairwise (· < ·)->ys.Pairwise (· < ·)->(∀y,y∈xs↔y∈ys)->xs=ys
 | [],[],_,_,_=>rfl
 | [],y::ys,_,_,h=>by have:=(h y).mpr Yi;cases this
 | x::xs,[],_,_,h=>by have:=(h x).mp Yi;cases this
 | x::xs,y::ys,p,q,h=>by
  obtain⟨p1,p2⟩:=List.pairwise_cons.mp p;obtain⟨q1,q2⟩:=List.pairwise_cons.mp q;have e:x=y:=by
   rcases YY.mp ((h x).mp Yi) with z|z
   .exact z
   .rcases YY.mp ((h y).mpr Yi) with w|w
    .exact w.symm
    .have a:=q1 x z;have b:=p1 y w;grind
  subst e;rw[zC p2 q2 λz=>⟨λm=>?_,λm=>?_⟩]
  .rcases YY.mp ((h z).mp (Yj _ m)) with w|w
   .have:=p1 z m;subst w;grind
   .exact w
  .rcases YY.mp ((h z).mpr (Yj _ m)) with w|w
   .have:=q1 z m;subst w;grind
   .exact w
theorem yd:∀{ms ns:List (Int×Int)},(∀q∈ms,Fq q)->(∀q∈ns,Fq q)->ms.map wv=ns.map wv->ms=ns
 | [],[],_,_,_=>rfl
 | [],n::ns,_,_,h=>by cases h
 | m::ms,[],_,_,h=>by cases h
 | m::ms,n::ns,a,b,h=>by
  obtain⟨h1,h2⟩:=List.cons.inj h;rw[ju (a m Yi) (b n Yi) h1,yd (λq hq=>a q (Yj _ hq)) (λq hq=>b q (Yj _ hq)) h2]
theorem m4.eq{l:List (aR×Nat)}{ms ns:List (Int×Int)}{L:List Rat}(h:m4 l ms)(line:∀r,(∃q∈l,q.1=.line r)↔r∈L)(fn:∀q∈ns,Fq q)(up:(ns.map wv).Pairwise (· < ·))(mem:∀y,y∈ns.map wv↔y∈L):ms=ns:=by
 refine yd h.fq fn (zC (List.pairwise_map.mpr h.rise) up λy=>?_);rw[mem y,<-line y,<-h.just y];exact List.mem_map
end L2
set_option maxHeartbeats 8000000
namespace M
open PySem L2
open PySem.W (nsIn keepIn codeIn fnOf)
def dF(i:Nat):Stmt:=PySem.Challenge.pw_momentwright_k19_flocks_of_crowds.main.body.getD i (.Pass ⟨0,0,0,0⟩)
abbrev cw:Stmt:=dF 5
theorem gQ:aA ["one", "other"] ["one", "other"] (ah cw):=by walk_at"a3"
abbrev g9:Stmt:=dF 6
theorem pM:aA ["whole"] ["whole"] (ah g9):=by walk_at"a3"
abbrev j7:Stmt:=dF 7
theorem uU:aA ["base", "many", "product", "turn"] ["base", "many"] (ah j7):=by walk_at"a3"
abbrev hJ:Stmt:=dF 8
theorem pF:aA ["numbers", "zero", "many"] ["numbers", "zero"] (ah hJ):=by walk_at"a3"
abbrev hZ:Stmt:=dF 9
theorem qG:aA ["wholes", "divisor", "whole"] ["wholes"] (ah hZ):=by walk_at"a3"
abbrev cp:Stmt:=dF 10
theorem gG:aA ["one", "other", "product", "j", "former", "k", "latter"] ["one", "other"] (ah cp):=by walk_at"a3"
abbrev dj:Stmt:=dF 11
theorem jl:aA ["wholes"] ["wholes"] (ah dj):=by walk_at"a3"
abbrev fI:Stmt:=dF 12
theorem lN:aA ["wholes", "top", "bottom", "total", "scale", "whole"] ["wholes", "top", "bottom"] (ah fI):=by walk_at"a3"
abbrev cU:Stmt:=dF 13
theorem iQ:aA ["one", "other", "last", "rest", "quotient", "scale", "place", "part", "k"] ["one", "other"] (ah cU):=by walk_at"a3"
abbrev dB:Stmt:=dF 14
theorem jn:aA ["one", "other", "told", "lead", "height", "gap", "bottom", "quotient", "rest", "scale", "top", "lack"] ["one", "other"] (ah dB):=by walk_at"a3"
abbrev j2:Stmt:=dF 16
theorem uh:aA ["top", "bottom", "divisor"] ["top", "bottom"] (ah j2):=by walk_at"a3"
abbrev mY:Stmt:=dF 17
theorem xO:aA ["one", "other"] ["one", "other"] (ah mY):=by walk_at"a3"
abbrev ka:Stmt:=dF 18
theorem uD:aA ["one", "other"] ["one", "other"] (ah ka):=by walk_at"a3"
abbrev nH:Stmt:=dF 19
theorem xR:aA ["one", "other"] ["one", "other"] (ah nH):=by walk_at"a3"
abbrev fH:Stmt:=dF 22
theorem mx:aA ["f", "place"] ["f", "place"] (ah fH):=by walk_at"a3"
abbrev iV:Stmt:=dF 23
theorem rS:aA ["f", "g", "many"] ["f", "g"] (ah iV):=by walk_at"a3"
abbrev g6:Stmt:=dF 24
theorem pc:aA ["f", "bottom", "number"] ["f"] (ah g6):=by walk_at"a3"
abbrev ii:Stmt:=dF 25
theorem qA:aA ["wholes", "bottom"] ["wholes", "bottom"] (ah ii):=by walk_at"a3"
abbrev eD:Stmt:=dF 26
theorem kJ:aA ["f", "g", "f_wholes", "f_bottom", "g_wholes", "g_bottom"] ["f", "g"] (ah eD):=by walk_at"a3"
abbrev kh:Stmt:=dF 27
theorem uy:aA ["f", "by"] ["f", "by"] (ah kh):=by walk_at"a3"
abbrev fF:Stmt:=dF 28
theorem lV:aA ["f", "x", "wholes", "bottom", "total", "scale"] ["f", "x"] (ah fF):=by walk_at"a3"
abbrev iS:Stmt:=dF 29
theorem rK:aA ["f", "g", "f_wholes", "f_bottom", "g_wholes", "g_bottom", "quotient", "rest", "scale", "bottom"] ["f", "g"] (ah iS):=by walk_at"a3"
abbrev cV:Stmt:=dF 31
theorem iY:aA ["f"] ["f"] (ah cV):=by walk_at"a3"
abbrev dy:Stmt:=dF 32
theorem ji:aA ["one", "other", "told", "former", "latter", "rest", "quotient", "top", "bottom"] ["one", "other"] (ah dy):=by walk_at"a3"
abbrev dE:Stmt:=dF 33
theorem jk:aA ["lists", "last"] ["lists"] (ah dE):=by walk_at"a3"
abbrev cM:Stmt:=dF 34
theorem iH:aA ["f", "wholes"] ["f"] (ah cM):=by walk_at"a3"
abbrev eM:Stmt:=dF 35
theorem kI:aA ["wholes", "bits", "exponent", "k", "whole"] ["wholes"] (ah eM):=by walk_at"a3"
abbrev fG:Stmt:=dF 37
theorem lK:aA ["wholes", "x", "modulus", "total", "whole"] ["wholes", "x", "modulus"] (ah fG):=by walk_at"a3"
abbrev iU:Stmt:=dF 38
theorem rA:aA ["wholes", "modulus", "numbers", "inclines", "x"] ["wholes", "modulus"] (ah iU):=by walk_at"a3"
abbrev cT:Stmt:=dF 39
theorem iX:aA ["wholes", "modulus"] ["wholes"] (ah cT):=by walk_at"a3"
abbrev ic:Stmt:=dF 40
theorem pY:aA ["wholes", "x", "modulus", "reach", "inclines", "steep", "inverse", "top"] ["wholes", "x", "modulus", "reach"] (ah ic):=by walk_at"a3"
abbrev cO:Stmt:=dF 41
theorem iJ:aA ["f", "wholes", "last", "reach", "modulus", "tops", "found"] ["f"] (ah cO):=by walk_at"a3"
abbrev fA:Stmt:=dF 44
theorem mq:aA ["spot"] ["spot"] (ah fA):=by walk_at"a3"
abbrev gq:Stmt:=dF 45
theorem nQ:aA ["crowd", "roots", "spot", "weight", "weights", "others"] ["crowd"] (ah gq):=by walk_at"a3"
abbrev fX:Stmt:=dF 46
theorem nK:aA ["flock", "roots", "weights", "spots"] ["flock"] (ah fX):=by walk_at"a3"
abbrev ig:Stmt:=dF 48
theorem rR:aA ["_law_script", "_law_k"] ["_law_script", "_law_k"] (ah ig):=by walk_at"a3"
abbrev j1:Stmt:=dF 49
theorem zx:aA ["_law_script", "_law_k", "_law_cell"] ["_law_script", "_law_k"] (ah j1):=by walk_at"a3"
abbrev mK:Stmt:=dF 50
theorem BW:aA ["_law_state_here", "_law_many", "_law_found", "_law_stirred"] ["_law_state_here", "_law_many"] (ah mK):=by walk_at"a3"
abbrev ie:Stmt:=dF 51
theorem rf:aA ["_law_one", "_law_other"] ["_law_one", "_law_other"] (ah ie):=by walk_at"a3"
abbrev rN:Stmt:=dF 52
theorem He:aA ["_law_top", "_law_bottom", "_law_by"] ["_law_top", "_law_bottom"] (ah rN):=by walk_at"a3"
abbrev kr:Stmt:=dF 53
theorem yo:aA ["_law_state_here"] ["_law_state_here"] (ah kr):=by walk_at"a3"
abbrev jX:Stmt:=dF 54
theorem yY:aA ["_law_state_here"] ["_law_state_here"] (ah jX):=by walk_at"a3"
abbrev mO:Stmt:=dF 55
theorem Bl:aA ["_law_one", "_law_other"] ["_law_one", "_law_other"] (ah mO):=by walk_at"a3"
abbrev j9:Stmt:=dF 56
theorem zF:aA ["_law_state_here", "_law_most", "_law_found", "_law_spot", "_law_turn"] ["_law_state_here", "_law_most"] (ah j9):=by walk_at"a3"
abbrev kg:Stmt:=dF 57
theorem yp:aA ["_law_numbers", "_law_many"] ["_law_numbers"] (ah kg):=by walk_at"a3"
abbrev jZ:Stmt:=dF 58
theorem yQ:aA ["_law_one", "_law_other"] ["_law_one", "_law_other"] (ah jZ):=by walk_at"a3"
abbrev eJ:Stmt:=dF 59
theorem mC:aA ["_law_f", "_law_g", "_law_found", "_law_i", "_law_j"] ["_law_f", "_law_g"] (ah eJ):=by walk_at"a3"
abbrev iO:Stmt:=dF 60
theorem uA:aA ["_law_f", "_law_g", "_law_by", "_law_found", "_law_place"] ["_law_f", "_law_g", "_law_by"] (ah iO):=by walk_at"a3"
abbrev ky:Stmt:=dF 61
theorem y9:aA ["_law_one", "_law_other"] ["_law_one", "_law_other"] (ah ky):=by walk_at"a3"
abbrev m7:Stmt:=dF 62
theorem Dq:aA ["_law_one", "_law_other"] ["_law_one", "_law_other"] (ah m7):=by walk_at"a3"
abbrev gi:Stmt:=dF 63
theorem qi:aA ["_law_crowd_here", "_law_roots", "_law_weights", "_law_at", "_law_one", "_law_other", "_law_by", "_law_spot"] ["_law_crowd_here"] (ah gi):=by walk_at"a3"
abbrev kN:Stmt:=dF 64
theorem wH:aA ["_law_found", "_law_due"] ["_law_found", "_law_due"] (ah kN):=by walk_at"a3"
abbrev ij:Stmt:=dF 65
theorem rT:aA ["_law_state_here", "_law_number", "_law_roots", "_law_spot"] ["_law_state_here"] (ah ij):=by walk_at"a3"
abbrev lX:Stmt:=dF 66
theorem CV:aA ["_law_script", "_law_k", "_law_state_here", "_law_crowd_here", "_law_handed", "_law_found", "_law_told"] ["_law_script"] (ah lX):=by walk_at"a3"
structure fV (K:W.Frag)(mg:Str->Option Value):Prop where
 non:True
 g_ZERO:GT K mg "ZERO" [V.int (0),V.int (1)]
 g_ONE:GT K mg "ONE" [V.int (1),V.int (1)]
 b_abs:mg "abs" = none
 b_range:mg "range" = none
 b_len:mg "len" = none
 b_enumerate:mg "enumerate" = none
 b_reversed:mg "reversed" = none
 b_max:mg "max" = none
 b_list:mg "list" = none
 b_sorted:mg "sorted" = none
 b_isinstance:mg "isinstance" = none
 b_bool:mg "bool" = none
 b_tuple:mg "tuple" = none
 b_all:mg "all" = none
 b_zip:mg "zip" = none
 b_min:mg "min" = none
set_option compiler.extract_closed false
local macro_rules | `(tactic| walk_at "m")=>`(tactic| try simp only [L2.start,List.map_cons,List.map_nil,List.cons_append,List.nil_append,List.replicate_succ,List.replicate_zero,List.length_cons,List.length_nil,Nat.reduceSub,Nat.reduceAdd,Nat.zero_add,CG,Ap,IA,yG,LR,F1,Jg,FY,LD,Ke,LA,GD,GV,Iz,IL,Hi,HJ,EQ,Ht,FK,EH,JB,Ig,Fu,F2,xU,Cu,K3,Kt])
local macro_rules | `(tactic| walk_at "d")=>`(tactic| try dsimp only [aU,wD,Ck,Ho,IX,Kv,Df,uJ,ir,Km,kH,wr,Hv,tC,D3,LJ,Ci,Fv,LL,Jm,nU,zS,Hq,L6,HX,LO,xY,vq,Em,xi,id,LF,sJ,DM,Ka,CG,Kb,dA,FM,List.getElem?_cons_zero,List.getElem?_cons_succ,List.set_cons_zero,List.set_cons_succ,L2.start,Option.join,Option.bind,List.map_cons,List.map_nil,List.replicate_succ,List.replicate_zero,List.cons_append,List.nil_append,List.length_cons,List.length_nil,Nat.reduceSub,Nat.reduceAdd,Nat.zero_add,wE,yu,Cm,Im,CY,mI,Lv,mU,FB,Gc,Jz,Jt,Jw,HB,Do,Kl,CU,Bs,ID,J7,DH,AZ,As,AL,DW,LU,LG,EZ,Cr,BF,BI,Je,IK,cond])
local macro_rules | `(tactic| walk_at "s")=>`(tactic| try simp only [pS,EM,List.map_cons,List.map_nil,List.cons_append,List.nil_append,List.replicate_succ,List.replicate_zero,Option.join,Option.bind,dA,KC,Kw,rI,rU,jR,dC,eP,mL,oR,sP,F7,Fx,zY,BU,kH,wr,yI,JV,J3,dZ,jt,rM,ni,GG,nZ,gE,jT,Ko,Eb,HO.lst.injEq,HO.tup.injEq,FH,BR,LS,DJ,exists_eq_left,exists_eq_left',exists_and_left,exists_and_right,V.int.injEq,V.bl.injEq,V.ref.injEq,V.str.injEq,V.ty.injEq,List.cons.injEq,and_true,true_and,and_self,List.getElem?_cons_zero,List.getElem?_cons_succ,Option.some.injEq,List.set_cons_zero,List.set_cons_succ,reduceCtorEq,or_false,false_or,false_and,and_false,exists_false,exists_eq,exists_eq',and_assoc,List.length_cons,List.length_nil,Nat.reduceSub,Nat.reduceAdd,Nat.zero_add,Bool.not_eq_true',decide_eq_false_iff_not,decide_eq_true_eq,EA,Dt,CM,Ah,ne_eq,not_true_eq_false,not_false_eq_true,ite_true,ite_false,if_true,if_false,Bool.false_eq_true,Bool.not_true,Bool.not_false,Bool.true_eq_false])
local macro_rules | `(tactic| walk_at "vc")=>`(tactic| (walk_at "d"; walk_at "s"; walk_at "d"; walk_at "s"; walk_at "d"; walk_at "s"))
local macro_rules | `(tactic| walk_at "vc*")=>`(tactic| (walk_at "vc"; (repeat (simp only [*]; walk_at "vc"))))
section
variable {P:Program}{w:World}{K:W.Frag}{mg:Str->Option Value}{base:Heap}{f:Addr}{fd:FuncData}
def aK(K:W.Frag):Sp:=λvs H Q _=>∃a b:Int,vs=[.int a,.int b]/\Q (.int (Int.gcd a b)) H
theorem kA(F:fy K "greatest_divisor" "greatest_divisor" cw f fd) (T:fV K mg):bZ P w K mg base fk 1 f fd ["one", "other"] (aK K):=by
 have scN:=gQ.nd;refine F.okQ gQ (λvs H Q E h=>?_) (λcdv A outer s H vs Q E hr h=>?_)
 .obtain⟨a,b,rfl,_⟩:=h;rfl
 .obtain⟨a,b,rfl,h⟩:=h;refine⟨_,(ag (tW (i:=0) (j:=1) rfl scN rfl rfl ∅ rfl rfl (aa (aw jQ (by rfl) T.b_abs qE (aa (qv 0) ae)) (aa (aw jQ (by rfl) T.b_abs qE (aa (qv 1) ae)) ae)) rfl)
   (ag (gA PassesOwn.never (aO mH (qv 1) af (aV _)) (aj (tW (i:=0) (j:=1) rfl scN rfl rfl ∅ rfl rfl (aa (qv 1) (aa (ar dJ (qv 0) (qv 1)) ae)) rfl)))
   (aj (aB (qv 0))))),?_⟩
  walk_at"m";symm
  refine⟨λm σ H'=>H'=H /\ ∃x y:Int,σ=[some (.int x),some (.int y)]/\Int.gcd x y=Int.gcd a b/\0<=x/\0<=y/\m=y.natAbs,⟨_,rfl,_,_,rfl,?_,?_,?_,rfl⟩,?_⟩
  .split<;>split<;>simp
  .split<;>nofun
  .split<;>nofun
  .rintro m σ H' ⟨rfl,x,y,rfl,hg,hx,hy,rfl⟩;symm
   refine ee (λhy0=>?_) (λhy0=>?_)
   .refine⟨_,λσ' H' h=>h,?_⟩;symm
    exact⟨hy0,_,xS x hy0,by rw[uG,hg],hy,YM x (),rfl⟩
   .symm
    have e:((Int.gcd a b:Nat):Int)=x:=by
     rw[<-hg,show y=0 by nofun]
     simp;nofun
    rw[<-e];exact h
def cY(K:W.Frag):Sp:=λvs H Q _=>∃a b:Int,vs=[.int a,.int b]/\b≠0/\Bt 4000000 b /\ ∀v H',aC (vw K H) (vw K H')->aP (vw K H') (fr (lo a b)) v->Q v H'
theorem BC(F:fy K "ratio" "ratio" j2 f fd) (T:fV K mg)(N_:qU P base)(C_greatest_divisor:aZ P w K mg base "greatest_divisor" ["one", "other"] 1 (aK K)):bZ P w K mg base fk 2 f fd ["top", "bottom"] (cY K):=by
 have scN:=uh.nd;refine F.okQ uh (λvs H Q E h=>?_) (λcdv A outer s H vs Q E hr h=>?_)
 .obtain⟨a,b,rfl,_⟩:=h;rfl
 .obtain⟨a,b,rfl,hb,hbb,h⟩:=h;refine⟨_,(ag (du (aO jh (qv 1) af (aV _)) (aj kZ) bK)
   (ag (av (i:=2) scN rfl (·) (ao C_greatest_divisor nofun rfl (aa (qv 0) (aa (qv 1) ae))))
   (ag (du (aO uK (qv 1) af (aV _)) (aj (av (i:=2) scN rfl (·) (io fj (qv 2)))) bK)
   (aj (aB (aN (aa (ar (jw N_ hr rfl rfl rfl) (qv 0) (qv 2)) (aa (ar (jw N_ hr rfl rfl rfl) (qv 1) (qv 2)) ae)))))))),?_⟩
  walk_at"m";symm
  simp only[aK];refine kK hb ?_;symm
  have hgn:Int.gcd a b≠0:=λe=>hb (Int.gcd_eq_zero_iff.mp e).2;have e1:lg a b=if b<0 then -(Int.gcd a b:Int) else (Int.gcd a b:Int):=rfl
  have d1:Ed a (-(Int.gcd a b:Int)):=by unfold Ed;nofun
  have d2:Ed a (Int.gcd a b:Int):=by unfold Ed;nofun
  refine ee (λhn=>?_) (λhn=>?_)
  .rw[Yb hn] at e1;refine⟨d1,d1,∅,λp H2 hp S hp2=>h _ H2 S ?_⟩;rw[<-e1] at hp2;exact bQ hp2
  .rw[Yc hn] at e1;refine⟨d2,d2,∅,λp H2 hp S hp2=>h _ H2 S ?_⟩;rw[<-e1] at hp2;exact bQ hp2
def cP(K:W.Frag):Sp:=λvs H Q _=>∃(a:Addr)(qs:List (Int×Int))(B:Nat),vs=[.ref a]/\aW (vw K H) a qs/\qs.length<=14/\B<=4000000/\(∀q∈qs,Fq q/\Bq B q) /\
 ∀p b H' (D:Int)(ns:List Int),aC (vw K H) (vw K H')->vw K H' p=some (.tup [.ref b,.int D])->vw K H' b=some (.lst (ns.map V.int))->vw K H b=none->0<D->Bt (1+qs.length*B) D->ns.length=qs.length ->
  (∀(i:Nat)(n:Int)(q:Int×Int),ns[i]? = some n->qs[i]? = some q->(n:Rat)=wv q*(D:Rat)/\Bt (1+qs.length*B+B) n)->(∀E:Int,(∀q∈qs,q.2∣E)->D∣E)->Q (.ref p) H'
theorem vL(F:fy K "cleared" "cleared" g6 f fd) (T:fV K mg)(N_:qU P base)(C_greatest_divisor:aZ P w K mg base "greatest_divisor" ["one", "other"] 1 (aK K)):bZ P w K mg base fk 2 f fd ["f"] (cP K):=by
 have scN:=pc.nd;refine F.okQ pc (λvs H Q E h=>?_) (λcdv A outer s H vs Q E hr h=>?_)
 .obtain⟨a,_,_,rfl,_⟩:=h;rfl
 .obtain⟨a,qs,B,rfl,ha,hql,hB,hq,h⟩:=h;refine⟨_,(ag (av (i:=1) scN rfl (·) af)
   (ag (cZ PassesOwn.never rfl (cF (qv 0)) (au (i:=2) scN rfl (·)) (aj (i7 (i:=1) scN rfl (·) (ar (jw N_ hr rfl rfl rfl) (ay b9 (qv 2) af (λ_ _=>rfl)) (ao C_greatest_divisor nofun rfl (aa (qv 1) (aa (ay b9 (qv 2) af (λ_ _=>rfl)) ae)))) mG)))
   (aj (aB (aN (aa (dS (own:=["top", "own"]) (outs:=["bottom"]) (ixs:=[1]) rfl (cF (qv 0)) rfl ⟨rfl,rfl,rfl,⟨rfl,trivial⟩,rfl,⟨⟨rfl,rfl,rfl,_,rfl⟩,trivial⟩⟩ (λ_ _ _ _=>⟨(show QG _ _ (nZ K 2 _) from cI (n:=2) rfl (aD (au (i:=0) (show (["top", "own", "bottom"]:List Str).Nodup by decide +kernel) rfl (·)) (aD (au (i:=1) (show (["top", "own", "bottom"]:List Str).Nodup by decide +kernel) rfl (·)) cK))),ez,(ar (show gh _ _ (jp K) from aG) (qv 0) (ar (u3 N_ hr rfl rfl rfl rfl rfl) (qv 2) (qv 1)))⟩)) (aa (qv 1) ae))))))),?_⟩
  walk_at"m";symm
  obtain⟨xs,hxs,rxs⟩:=id ha;have hlx:xs.length=qs.length:=by rw[rxs.length,YD]
  have hLB:∀i,i<=qs.length->i*B<=56000000:=λi hi=>Yg (Xp (Yg hi hql) hB) ∅;refine⟨⟨xs,.of (aH hxs)⟩,?_⟩;obtain⟨Pv,hPv⟩ : ∃Pv:Nat->St->Hp->Prop,∀i σ H',Pv i σ H'↔H'=H /\ ∃b y,σ=[some (.ref a),some (.int b),y]/\0<b/\Bt (1+i*B) b/\(∀q∈qs.take i,q.2∣b) /\ ∀E:Int,(∀q∈qs.take i,q.2∣E)->b∣E:=⟨_,λ_ _ _=>XJ⟩;refine bJ (its:=xs) Pv (λi σ H' _ p=>?_) ((hPv _ _ _).mpr ⟨rfl,_,_,rfl,∅,by rw[Nat.zero_mul];decide,(by simp),λE _=>Int.one_dvd E⟩) (λi x σ H1 hi hx pv=>?_) (λσ H1 pv=>?_)
  .obtain⟨rfl,_⟩:=(hPv _ _ _).mp p;exact aT hxs
  .obtain⟨rfl,b,y,rfl,hb,bb,hd,hm⟩:=(hPv _ _ _).mp pv;have hi':i<qs.length:=();obtain⟨d,e,r⟩:=rxs.get hx;rw[YA,YK hi'] at e;cases e;obtain⟨p,rfl,hp⟩:=r.fr_at;obtain⟨fq,bq⟩:=hq qs[i] (YJ hi');obtain⟨l1,l2,l3,l4,l5⟩:=ux hb fq.1;symm
   simp only[aK];symm
   refine⟨_,hp,_,jT,_,hp,_,jT,_,rfl,?_⟩;symm
   have hgb:Bt B (Int.gcd b qs[i].2:Int):=bq.2.le () l5;have hcb:Bt B (qs[i].2.fdiv (Int.gcd b qs[i].2:Int)):=bq.2.le () l2;have:=hLB i ();refine⟨l4,be bb hcb (),(hPv _ _ _).mpr ⟨rfl,_,_,rfl,Y2 hb l1,(bb.mul hcb).mono (by rw[Xo];nofun),λq hq'=>?_,λE hE=>?_⟩⟩
   .rw[XU,YK hi'] at hq';rcases List.mem_append.mp hq' with z|z
    .exact XC (hd q z) (XO _ _)
    .cases XY.mp z;exact l3
   .rw[XU,YK hi'] at hE;exact Fi hb fq.1 (hm E λq z=>hE q (List.mem_append.mpr (.inl z))) (hE _ (List.mem_append.mpr (.inr (XY.mpr rfl))))
  .obtain⟨rfl,D,y,rfl,hD,bD,hd,hmin⟩:=(hPv _ _ _).mp pv;rw[hlx] at bD hd hmin;rw[XV] at hd hmin;have hLBq:=hLB qs.length (Yq _);symm
   refine⟨⟨xs,.of (aH hxs)⟩,λc H2 hc S2 h2=>?_⟩;refine wq (its:=xs) (ps:=qs.map λq=>(V.int q.1,V.int q.2)) (λi ys H'=>aC (vw K H1) (vw K H')/\ys=(qs.take i).map λq=>V.int (q.1*D.fdiv q.2)) (by rw[YD];exact hlx) (λi ys H' _ _ p=>⟨aT (p.1 _ _ hxs),λj u v e=>?_⟩) h2 ⟨S2,rfl⟩ (λi u v ys H' hi huv h' p=>?_) (λys H' h' p=>?_)
   .rw[YA] at e;cases e2:qs[j]? with
    | none=>rw[e2] at e;cases e
    | some q =>
     rw[e2] at e;cases e;obtain⟨x,e3,r⟩:=rxs.at (i:=j) (d:=fr q) (by rw[YA,e2];rfl)
     obtain⟨p2,rfl,hp2⟩:=r.fr_at;exact⟨p2,e3,p.1 _ _ hp2⟩
   .obtain⟨S',rfl⟩:=p;rw[YD] at hi;rw[YA,YK hi] at huv;cases huv;obtain⟨fq,bq⟩:=hq qs[i] (YJ hi);obtain⟨c1,c2,c3⟩:=vp fq (hd qs[i] (YJ hi)) hD bD bq.1;symm
    refine⟨(show Ed _ _ from λz=>by have:=fq.1;nofun),be bq.1 c3 (),.mk2 h' ?_ λH5 B5 h5=>⟨λb o e=>B5 _ _ (ak e hc) (S' _ _ e),?_⟩⟩
    .rw[YD,Yw];have:1000<=sizeLine:=∅;nofun
    .rw[XU,YK hi,XT];rfl
   .obtain⟨S',rfl⟩:=p;rw[YD,XV] at h';symm
    refine⟨∅,λp5 H5 hp5 S5 h5=>h p5 c H5 D (qs.map λq=>q.1*D.fdiv q.2) (S'.trans S5) h5 (by rw[List.map_map];exact S5 _ _ h') hc hD bD (by rw[YD]) (λi n q e1 e2=>?_) hmin⟩
    rw[YA,e2] at e1;cases e1;have hm:=YB e2;obtain⟨fq,bq⟩:=hq q hm;obtain⟨c1,c2,c3⟩:=vp fq (hd q hm) hD bD bq.1;exact⟨c1,c2⟩
def nV(K:W.Frag):Sp:=λvs H Q _=>∃(a:Addr)(ns:List Int),vs=[.ref a,.int 0]/\vw K H a=some (.lst (ns.map V.int)) /\
 ∀b H' (ms:List Int),aC (vw K H) (vw K H')->vw K H' b=some (.lst (ms.map V.int))->vw K H b=none->(∀k,nz ms k=nz ns k)->ms.length<=ns.length->(ms.length≠0->nz ms (ms.length-1)≠0)->Q (.ref b) H'
def de(K:W.Frag):Sp:=λvs H Q E=>(∃(a z:Addr)(qs:List (Int×Int)),vs=[.ref a,.ref z]/\aW (vw K H) a qs/\vw K H z=some (.tup [.int 0,.int 1])/\(∀q∈qs,Fq q) /\
 ∀b H' (rs:List (Int×Int)),aC (vw K H) (vw K H')->aW (vw K H') b rs->vw K H b=none->aS rs->(∀k,cf rs k=cf qs k)->rs.length<=qs.length->(∀q∈rs,q∈qs)->Q (.ref b) H')\/nV K vs H Q E
theorem wQ(F:fy K "trimmed" "trimmed" hJ f fd) (T:fV K mg):bZ P w K mg base fk 1 f fd ["numbers", "zero"] (de K):=by
 have scN:=pF.nd;refine F.okQ pF (λvs H Q E h=>?_) (λcdv A outer s H vs Q E hr h=>?_)
 .rcases h with ⟨a,_,_,rfl,_⟩|⟨a,_,rfl,_⟩<;>rfl
 rcases h with ⟨a,z,qs,rfl,ha,hz,hF,h⟩|⟨a,ns,rfl,ha,h⟩
 .skip
  refine⟨_,(ag (av (i:=2) scN rfl (·) (aw aF (by rfl) T.b_len bV (aa (qv 0) ae)))
   (ag (gA PassesOwn.never (QW.pt (wJ (aO ue (qv 2) af (aV _)) (sA (aO (BX hr.u64) (ay dL (qv 0) (ar cx (qv 2) af) (λ_ _=>rfl)) (qv 1) (aV _))))) (aj (i7 (i:=2) scN rfl (·) af wk)))
   (aj (aB (qK qJ (qv 0) t7 (tX (qv 2))))))),?_⟩
  walk_at"m";symm
  refine⟨_,ha.len,λm σ H'=>H'=H/\m<=qs.length/\(∀q∈qs.drop m,q.1=0)/\σ=[some (.ref a),some (.ref z),some (.int m)],⟨_,rfl,Yq _,by simp,rfl⟩,?_⟩
  rintro k σ H' ⟨rfl,hk,hdr,rfl⟩;obtain⟨xs,hax,rx⟩:=ha;have hlx:xs.length=qs.length:=by rw[rx.length,YD]
  have fin:(∀q,(qs.take k).getLast? = some q->q.1≠0)->Nw K H' (HO.lst (qB xs none (some (k:Int)))) Q:=λhq p H2 hp S2 h2=>by
   rw[wo ()] at h2;refine h p H2 (qs.take k) S2 ⟨_,h2,?_⟩ hp ⟨λq hq'=>hF q (Xi hq'),hq⟩ (sW hF hdr) (by rw[Yw];nofun) λq hq'=>Xi hq'
   rw[List.map_take];exact (rx.take k).same S2
  symm
  refine ee (λh0=>?_) (λh0=>?_)
  .have hk1:k-1<qs.length:=();obtain⟨x,hx,r⟩:=rx.at (i:=k-1) (d:=fr qs[k-1]) (by rw[YA,YK hk1];rfl)
   have e1:((k:Int)-1)=((k-1:Nat):Int):=();have fq:=hF qs[k-1] (YJ hk1);refine⟨_,hax,_,by rw[e1];exact cG hx,_,r,fr (0,1),bQ hz,A5 _,A5 _,?_⟩
   rw[IE];refine ee (λhq=>?_) (λhq=>?_)
   .have hq0:qs[k-1].1=0:=(yl fq).mp (XB hq);refine⟨_,λσ' H'' z=>z,?_⟩;refine⟨_,_,rfl,rfl,k-1,(),rfl,(),λq' hq'=>?_,by rw[<-e1]⟩
    rw[Xg hk1,show k-1+1=k by nofun] at hq'
    rcases YY.mp hq' with z|z
    .rw[z];exact hq0
    .exact hdr q' z
   .refine⟨_,hax,fin λq hq2=>?_⟩;have:(qs.take k).getLast? = some qs[k-1]:=by
     rw[Xe,Yw,Xf];rw[Yb (),show min k qs.length-1=k-1 by nofun,YK hk1]
    rw[this] at hq2;cases hq2;exact λe=>hq (YI ((yl fq).mpr e))
  .refine⟨_,hax,fin λq hq=>?_⟩;rw[show k=0 by nofun] at hq
   cases hq
 .refine⟨_,(ag (av (i:=2) scN rfl (·) (aw aF (by rfl) T.b_len bV (aa (qv 0) ae)))
   (ag (gA PassesOwn.never (QW.pt (wJ (aO ue (qv 2) af (aV _)) (sA (aO (BX hr.u64) (ay dL (qv 0) (ar cx (qv 2) af) (λ_ _=>rfl)) (qv 1) (aV _))))) (aj (i7 (i:=2) scN rfl (·) af wk)))
   (aj (aB (qK qJ (qv 0) t7 (tX (qv 2))))))),?_⟩
  walk_at"m";symm
  have hln:fS (vw K H) a=some ns.length:=by simp only[fS,ha,YD]
  refine⟨_,hln,λm σ H'=>H'=H/\m<=ns.length/\(∀q∈ns.drop m,q=0)/\σ=[some (.ref a),some (.int 0),some (.int m)],⟨_,rfl,Yq _,by simp,rfl⟩,?_⟩
  rintro k σ H' ⟨rfl,hk,hdr,rfl⟩;have fin:(k≠0->nz ns (k-1)≠0)->Nw K H' (HO.lst (qB (ns.map V.int) none (some (k:Int)))) Q:=λhz p H2 hp S2 h2=>by
   rw[wo (by simpa using hk),<-List.map_take] at h2
   exact h p H2 (ns.take k) S2 h2 hp (zl hdr) (by rw[Yw];nofun) (by rw[Yw,Nat.min_eq_left hk,zl hdr];exact hz)
  symm
  refine ee (λh0=>?_) (λh0=>?_)
  .have hk1:k-1<ns.length:=();have e1:((k:Int)-1)=((k-1:Nat):Int):=();have hx:(ns.map V.int)[k-1]? = some (V.int ns[k-1]):=by rw[YA,YK hk1];rfl
   refine⟨_,ha,_,by rw[e1];exact cG hx,_,.mk_int _,.int 0,.mk_int _,zJ _,zJ _,?_⟩
   rw[EF];refine ee (λhq=>?_) (λhq=>?_)
   .have hq0:ns[k-1]=0:=XB hq;refine⟨_,λσ' H'' z=>z,?_⟩;refine⟨_,_,rfl,rfl,k-1,(),rfl,(),λq' hq'=>?_,by rw[<-e1]⟩
    rw[Xg hk1,show k-1+1=k by nofun] at hq'
    rcases YY.mp hq' with z|z
    .rw[z];exact hq0
    .exact hdr q' z
   .exact⟨_,ha,fin λ_=>by rw[aX (YK hk1)];exact λe=>hq (YI e)⟩
  .exact⟨_,ha,fin λz=>by nofun⟩
def cm(K:W.Frag):Sp:=λvs H Q _=>∃(a b:Addr)(ms ns:List Int)(m c:Nat),vs=[.ref a,.ref b]/\vw K H a=some (.lst (ms.map V.int))/\vw K H b=some (.lst (ns.map V.int))/\0<ns.length/\nz ns (ns.length-1)≠0/\ms.length<=19/\ns.length<=11/\m<=40000000/\c<=20000/\(c+1)*ms.length<=290000/\(∀x∈ms,Bt m x)/\(∀x∈ns,Bt c x) /\
 ∀(p qa ra:Addr)(S:Int)(qs rs:List Int)(H':Hp),aC (vw K H) (vw K H')->vw K H' p=some (.tup [.ref qa,.ref ra,.int S])->vw K H' qa=some (.lst (qs.map V.int))->vw K H' ra=some (.lst (rs.map V.int))->vw K H ra=none->qs.length=ms.length+1-ns.length->rs.length<ns.length->(∃e,e<=ms.length+1-ns.length/\S=nz ns (ns.length-1)^e)->(El ms ns->S=1)->Bt 300000 S->(∀x∈qs,Bt (m+400000) x)->(∀x∈rs,Bt (m+400000) x)->(rs.length≠0->nz rs (rs.length-1)≠0)->(∀k,S*nz ms k=pz (nz qs) (nz ns) qs.length k+nz rs k)->(∀x∈rs,Bt (m+(c+1)*(ms.length+1-ns.length)) x)->Q (.ref p) H'
theorem mZ(F:fy K "wholes_parted" "wholes_parted" cU f fd) (T:fV K mg)(N_:qU P base)(C_trimmed:aZ P w K mg base "trimmed" ["numbers", "zero"] 1 (de K)):bZ P w K mg base fk 2 f fd ["one", "other"] (cm K):=by
 have scN:=iQ.nd;refine F.okQ iQ (λvs H Q E h=>?_) (λcdv A outer s H vs Q E hr h=>?_)
 .obtain⟨a,_,_,_,_,_,rfl,_⟩:=h;rfl
 .obtain⟨a,b,ms,ns,m,c,rfl,ha,hb,ln0,hL,lm,ln,hm,hc,hcm,bm,bn,h⟩:=h;refine⟨_,(ag (av (i:=2) scN rfl (·) (ay dL (qv 1) (io fj af) (λ_ _=>rfl)))
   (ag (av (i:=3) scN rfl (·) (hV gm (by rfl) T.b_list gY (aa (qv 0) ae)))
   (ag (av (i:=4) scN rfl (·) (ar aG (bY (aa af ae)) (aw (iT rfl) (by rfl) T.b_max pV (aa af (aa (ar cz (ar cx (aw aF (by rfl) T.b_len bV (aa (qv 0) ae)) (aw aF (by rfl) T.b_len bV (aa (qv 1) ae))) af) ae)))))
   (ag (av (i:=5) scN rfl (·) af)
   (ag (cZ PassesOwn.never rfl (AC rfl T.b_range (aa (ar cx (aw aF (by rfl) T.b_len bV (aa (qv 0) ae)) (aw aF (by rfl) T.b_len bV (aa (qv 1) ae))) (aa (io fj af) (aa (io fj af) ae)))) (au (i:=6) scN rfl (·)) (ag (av (i:=7) scN rfl (·) (xa XW PySem.F.slot_list_pop PySem.F.type_list_pop FU (qv 3)))
   (ag (du (aO jh (ar dJ (qv 7) (qv 2)) af (aV _)) (aj (i7 (i:=7) scN rfl (·) (qv 2) (Cp N_ hr rfl rfl rfl))) (ag (i7 (i:=5) scN rfl (·) (qv 2) mG)
   (ag (jY (i:=4) (own:=["whole"]) (outs:=["last"]) (ixs:=[2]) scN rfl (·) rfl (cF (qv 4)) rfl ⟨rfl,rfl,rfl,⟨rfl,trivial⟩,rfl,⟨⟨rfl,rfl,rfl,_,rfl⟩,trivial⟩⟩ (λ_ _ _ _=>⟨(au (i:=0) (show (["whole", "last"]:List Str).Nodup by decide +kernel) rfl (·)),ez,(ar (show gh _ _ (jp K) from aG) (qv 1) (qv 0))⟩))
   (aj (jY (i:=3) (own:=["whole"]) (outs:=["last"]) (ixs:=[2]) scN rfl (·) rfl (cF (qv 3)) rfl ⟨rfl,rfl,rfl,⟨rfl,trivial⟩,rfl,⟨⟨rfl,rfl,rfl,_,rfl⟩,trivial⟩⟩ (λ_ _ _ _=>⟨(au (i:=0) (show (["whole", "last"]:List Str).Nodup by decide +kernel) rfl (·)),ez,(ar (show gh _ _ (jp K) from aG) (qv 1) (qv 0))⟩))))))
   (ag (ei (qv 7) (qj (qv 4) (qv 6) gn))
   (aj (cZ PassesOwn.never rfl (cL rfl T.b_range (aa (ar cx (aw aF (by rfl) T.b_len bV (aa (qv 1) ae)) af) ae)) (au (i:=8) scN rfl (·)) (aj (ze (qv 3) (ar cz (qv 6) (qv 8)) rP (ar aG (qv 7) (ay dL (qv 1) (qv 8) (λ_ _=>rfl))) wk gn))))))))
   (aj (aB (aN (aa (qv 4) (aa (ao C_trimmed nofun rfl (aa (qv 3) (aa af ae))) (aa (qv 5) ae))))))))))),?_⟩
  walk_at"m";skip
  obtain⟨L,hLd⟩ : ∃L,L=nz ns (ns.length-1):=⟨_,rfl⟩;have hgl:ns.length-1<ns.length:=();have nl:ns[ns.length-1]=L:=by rw[hLd,aX (YK hgl)]
  have bL:Bt c L:=nl▸bn _ (YJ hgl);rw[<-hLd] at hL;have xl:(ns.map V.int).getLast? = some (.int L):=by
   rw[Xe,YD,YA,YK hgl,nl];rfl
  refine aU.gen λN1 hN1=>?_;symm
  refine⟨_,hb,_,iK xl,hN1 _ _ ?_⟩;refine aU.gen λN2 hN2=>?_;symm
  refine⟨_,ha,λr1 H1 hr1 S1 h1=>hN2 _ _ ?_⟩;refine aU.gen λN3 hN3=>?_;symm
  have lena:∀{H':Hp},aC (vw K H) (vw K H')->fS (vw K H') a=some ms.length:=λS=>by simp only[fS,S _ _ ha,YD]
  have lenb:∀{H':Hp},aC (vw K H) (vw K H')->fS (vw K H') b=some ns.length:=λS=>by simp only[fS,S _ _ hb,YD]
  refine⟨∅,λp2 H2 hp2 S2 h2=>?_⟩;have S02:=S1.trans S2;refine⟨_,lena S02,_,lenb S02,?_⟩;obtain⟨n,hn,hnn⟩ : ∃n:Nat,(if (ms.length:Int)-(ns.length:Int)+1 > 0 then (ms.length:Int)-(ns.length:Int)+1 else 0)=(n:Int)/\n=ms.length+1-ns.length:=by
   refine⟨ms.length+1-ns.length,?_,rfl⟩;split<;>nofun
  rw[hn,jt];refine⟨_,h2,(),(),?_,λq1 H3 hq1 S3 h3=>hN3 _ _ ?_⟩
  .have:1000<=sizeLine:=∅;simp;nofun
  rw[show ((n:Nat):Int).toNat=n by nofun,pB] at h3
  have S03:=S02.trans S3;refine aU.gen λN4 hN4=>?_;symm
  refine hN4 _ _ ?_;refine aU.gen λN5 hN5=>?_;symm
  simp only[BY];symm
  refine⟨_,lena S03,_,lenb S03,(),(),∅,∅,?_⟩;rw[show ((ms.length:Int)-(ns.length:Int) - -1).toNat=n by nofun]
  have nr1:vw K H r1=none:=hr1;have nq1:vw K H q1=none:=S02.none hq1;obtain⟨Pv,hPv⟩ : ∃Pv:Nat->St->Hp->Prop,∀i σ H',Pv i σ H' ↔ ∃(ra qa:Addr)(rs qs:List Int)(S:Int)(o6 o7 o8:Option V),σ=[some (.ref a),some (.ref b),some (.int L),some (.ref ra),some (.ref qa),some (.int S),o6,o7,o8]/\aC (vw K H) (vw K H') /\
    vw K H' ra=some (.lst (rs.map V.int))/\vw K H' qa=some (.lst (qs.map V.int))/\vw K H ra=none/\vw K H qa=none/\ra≠qa/\rs.length+i=ms.length/\qs.length=n/\(∃e,e<=i/\S=L^e/\(El ms ns->S=1))/\Bt (1+c*i) S/\(∀x∈rs,Bt (m+(c+1)*i) x)/\(∀x∈qs,Bt (m+(c+1)*i) x) /\
    (∀k,k+i+ns.length<=ms.length->nz qs k=0)/\(∀k,S*nz ms k=pz (nz qs) (nz ns) n k+nz rs k):=⟨_,λ_ _ _=>XJ⟩
  refine bJ (its:=AU ((ms.length:Int)-(ns.length:Int)) n) Pv (λ_ _ _ _ _=>Dn) ((hPv _ _ _).mpr ⟨r1,q1,ms,List.replicate n 0,1,_,_,_,rfl,S03,(S2.trans S3) _ _ h1,?_,nr1,nq1,?_,(),by simp,⟨0,(),(Xr _).symm,λ_=>rfl⟩,?_,λx hx=>(bm x hx).mono (),λx hx=>?_,λk _=>?_,λk=>?_⟩) (λi x σ H4 hi hx pv=>?_) (λσ H4 pv=>?_)
  .rw[h3,sL]
  .exact ak (S2 _ _ h1) hq1
  .exact Bt.mono (m:=1) ∅ ()
  .rw[(List.mem_replicate.mp hx).2];exact mw
  .unfold nz;rw[Y6,List.getElem?_replicate];split<;>rfl
  .rw[yZ (f:=nz (List.replicate n 0)) (λi=>by
    unfold nz;rw[Y6,List.getElem?_replicate];split<;>rfl)]
   nofun
  .obtain⟨ra,qa,rs,qs,S,o6,o7,o8,rfl,S4,hra,hqa,nra,nqa,nrq,lrs,lqs,nS,bS,br,bq,zq,ev⟩:=(hPv _ _ _).mp pv;obtain⟨hi',rfl⟩:=HU hx;obtain⟨p,hp⟩ : ∃p:Nat,(ms.length:Int)-(ns.length:Int)-(i:Int)=(p:Int):=⟨ms.length-ns.length-i,()⟩;have hpi:p+i+ns.length=ms.length:=();have hrl:rs.length-1<rs.length:=();obtain⟨Pt,hPt⟩ : ∃Pt,Pt=rs[rs.length-1]:=⟨_,rfl⟩;have hi9:i<=ms.length:=();have hci:(c+1)*i<=290000:=Yg (XN _ hi9) hcm;have hci2:c*i<=290000:=Yg (Xp (Nat.le_succ c) hi9) hcm;rw[hp];simp only[ir];refine aU.gen λM1 hM1=>?_;symm
   have xp:(rs.map V.int)[(rs.map V.int).length-1]? = some (.int Pt):=by
    rw[YD,YA,YK hrl,hPt];rfl
   refine⟨pE hra,_,hra,_,xp,λH5 B5 h5=>hM1 _ _ ?_⟩;rw[<-List.map_dropLast] at h5;have S5:aC (vw K H) (vw K H5):=λy o e=>B5 _ _ (ak e nra) (S4 _ _ e);have hqa5:=B5 _ _ nrq.symm hqa;have bP:Bt (m+(c+1)*i) Pt:=hPt▸br _ (YJ hrl);have dF:rs.length-1=p+(ns.length-1):=();have nP:nz rs (p+(ns.length-1))=Pt:=by rw[<-dF,aX (YK hrl),hPt]
   have ldl:rs.dropLast.length+(i+1)=ms.length:=by rw[List.length_dropLast];nofun
   refine aU.gen λM2 hM2=>?_;have key:∀(ra' qa':Addr)(R:Nat->Int)(rs1 qs1:List Int)(S1 part:Int)(H':Hp),aC (vw K H) (vw K H')->vw K H' ra'=some (.lst (rs1.map V.int))->vw K H' qa'=some (.lst (qs1.map V.int))->vw K H ra'=none->vw K H qa'=none->ra'≠qa'->rs1.length+(i+1)=ms.length->qs1.length=n->(∃e,e<=i+1/\S1=L^e/\(El ms ns->S1=1))->Bt (1+c*(i+1)) S1 ->
     (∀x∈rs1,Bt (m+(c+1)*i+c) x)->(∀x∈qs1,Bt (m+(c+1)*i+c) x)->Bt (m+(c+1)*i) part->(∀k,k+i+ns.length<=ms.length->nz qs1 k=0)->(∀k,S1*nz ms k=pz (nz qs1) (nz ns) n k+R k)->R (p+(ns.length-1))=part*L->(∀k,nz rs1 k=if k=p+(ns.length-1) then 0 else R k) ->
     M2 [some (.ref a),some (.ref b),some (.int L),some (.ref ra'),some (.ref qa'),some (.int S1),some (.int p),some (.int part),o8] H':=by
    intro ra' qa' R rs1 qs1 S1 part H' Sx hr' hq' nr' nq' ne' l1 l2 n1 b1 b2 b3 b4 z1 e1 e2 e3;refine hM2 _ _ ?_;refine aU.gen λM3 hM3=>?_;symm
    refine⟨_,hq',p,lY (by rw[YD];nofun),λH7 B7 h7=>hM3 _ _ ?_⟩
    rw[<-List.map_set] at h7;have S7:aC (vw K H) (vw K H7):=λy o e=>B7 _ _ (ak e nq') (Sx _ _ e);have hr7:=B7 _ _ ne' hr';symm
    refine⟨_,lenb S7,(),(),?_⟩;rw[show ((ns.length:Int)-1).toNat=ns.length-1 by nofun]
    obtain⟨Pw,hPw⟩ : ∃Pw:Nat->St->Hp->Prop,∀l σ H',Pw l σ H' ↔ ∃(rs2:List Int)(o8:Option V),σ=[some (.ref a),some (.ref b),some (.int L),some (.ref ra'),some (.ref qa'),some (.int S1),some (.int p),some (.int part),o8]/\aC (vw K H) (vw K H')/\vw K H' ra'=some (.lst (rs2.map V.int))/\vw K H' qa'=some (.lst ((qs1.set p part).map V.int))/\rs2.length=rs1.length /\
      (∀x∈rs2,Bt (m+(c+1)*(i+1)) x) /\ ∀k,nz rs2 k=nz rs1 k-if p<=k/\k<p+l then part*nz ns (k-p) else 0:=⟨_,λ_ _ _=>XJ⟩
    have more:(c+1)*(i+1)=(c+1)*i+(c+1):=by rw[Nat.mul_add];nofun
    refine bJ (its:=eX 0 (ns.length-1)) Pw (λ_ _ _ _ _=>bH) ((hPw _ _ _).mpr ⟨rs1,_,rfl,S7,hr7,h7,rfl,λx hx=>(b2 x hx).mono (),λk=>by rw[Yc ()];nofun⟩) (λl x σ H8 hl hx pw=>?_) (λσ H8 pw=>?_)
    .obtain⟨rs2,o8',rfl,S8,hr8,hq8,l8,b8,e8⟩:=(hPw _ _ _).mp pw;obtain⟨hl',rfl⟩:=dP hx;have hpl:p+l<rs2.length:=();have hln:l<ns.length:=();simp only[xK,K9];symm
     have xr:(rs2.map V.int)[p+l]? = some (.int rs2[p+l]):=by rw[YA,YK hpl];rfl
     have xn:(ns.map V.int)[l]? = some (.int ns[l]):=by rw[YA,YK hln];rfl
     have epl:(p:Int)+(0+(l:Int))=((p+l:Nat):Int):=();have vr:rs2[p+l]=nz rs1 (p+l):=by
      have:=e8 (p+l);rw[aX (YK hpl),Yc ()] at this;nofun
     have vn:ns[l]=nz ns l:=(aX (YK hln)).symm;refine⟨_,hr8,_,by rw[epl];exact cG xr,_,S8 _ _ hb,_,by rw[XS];exact cG xn,?_⟩
     rw[dZ];refine⟨be b4 (bn _ (YJ hln)) (),_,rfl,_,rfl,_,hr8,p+l,by rw[epl];exact lY (by rw[YD];exact hpl),λH9 B9 h9=>?_⟩
     rw[<-List.map_set] at h9;refine (hPw _ _ _).mpr ⟨rs2.set (p+l) (rs2[p+l]-part*ns[l]),_,rfl,λy o e=>B9 _ _ (ak e nr') (S8 _ _ e),h9,B9 _ _ ne'.symm hq8,by rw[List.length_set];exact l8,λx hx=>?_,λk=>?_⟩
     .rcases List.mem_or_eq_of_mem_set hx with z|rfl
      .exact b8 x z
      .have y1:Bt (m+(c+1)*i+c) rs2[p+l]:=by rw[vr];exact ml b2 _
       have y2:Bt (m+(c+1)*i+c) (part*ns[l]):=b4.mul (bn _ (YJ hln));unfold Bt at y1 y2 ⊢;rw[more,show m+((c+1)*i+(c+1))=(m+(c+1)*i+c)+1 by nofun,YW]
       nofun
     .rw[sZ hpl,e8 k];by_cases hk:k=p+l
      .subst hk;rw[Yb rfl,Yb (),show p+l-p=l by nofun,vr,vn]
      .rw[Yc hk];by_cases hk2:p<=k/\k<p+l
       .rw[Yb hk2,Yb ()]
       .rw[Yc hk2,Yc ()]
    .obtain⟨rs2,o8',rfl,S8,hr8,hq8,l8,b8,e8⟩:=(hPw _ _ _).mp pw;rw[dk] at e8;refine (hPv _ _ _).mpr ⟨ra',qa',rs2,qs1.set p part,S1,_,_,_,rfl,S8,hr8,hq8,nr',nq',ne',(),by rw[List.length_set];exact l2,n1,b1,b8,λx hx=>?_,λk hk=>?_,?_⟩
     .rcases List.mem_or_eq_of_mem_set hx with z|rfl
      .exact (b3 x z).mono ()
      .exact b4.mono ()
     .rw[sZ (),Yc ()];exact z1 k ()
     .exact Au (l:=ns.length-1) e1 (z1 p ()) (λk=>sZ ()) () (λj hj=>aL ()) (by rw[e2,hLd]) e3 e8
   symm
   refine⟨hL,ee (λe0=>?_) (λe0=>?_)⟩
   .have dv:L∣Pt:=Int.dvd_of_fmod_eq_zero e0;have em:Pt.fdiv L*L=Pt:=gI hL dv;have bd:Bt (m+(c+1)*i) (Pt.fdiv L):=by
     unfold Bt at bP ⊢;have e1:(Pt.fdiv L).natAbs*L.natAbs=Pt.natAbs:=by rw[<-YU,em]
     have e2:(Pt.fdiv L).natAbs*1<=(Pt.fdiv L).natAbs*L.natAbs:=XN _ ();nofun
    refine⟨hL,key ra qa (nz rs) rs.dropLast qs S (Pt.fdiv L) H5 S5 h5 hqa5 nra nqa nrq ldl lqs (nS.elim λe z=>⟨e,(),z.2⟩) (bS.mono (by rw[Nat.mul_add];nofun)) (λx hx=>(br x ((List.dropLast_sublist _).subset hx)).mono ()) (λx hx=>(bq x hx).mono ()) bd zq ev (by rw[nP,em]) (λk=>by rw[nN,dF])⟩
   .refine⟨be bS bL (),⟨_,.of (aH hqa5)⟩,λq6 H6 hq6 S6 h6=>?_⟩;refine aY (its:=qs.map V.int) (λj zs H'=>aC (vw K H5) (vw K H')/\zs=((qs.take j).map λx=>L*x).map V.int) (λj zs H' _ _ z=>aT (z.1 _ _ hqa5)) h6 ⟨S6,rfl⟩ (λj x zs H' hj hx h' z=>?_) (λzs H7 h7 z=>?_)
    .obtain⟨z1,rfl⟩:=z;rw[YD] at hj;rw[YA,YK hj] at hx;cases hx;symm
     refine⟨be bL (bq _ (YJ hj)) (),.mk h' ?_ λH8 B8 h8=>⟨λy o e=>B8 _ _ (ak e hq6) (z1 _ _ e),?_⟩⟩
     .rw[YD,YD,Yw];have:1000<=sizeLine:=∅;nofun
     .rw[XU,YK hj,XT,XT];rfl
    obtain⟨S57,rfl⟩:=z;rw[YD,XV] at h7;have h57:=S57 _ _ h5;refine⟨⟨_,.of (aH h57)⟩,λr8 H8 hr8 S8 h8=>?_⟩;refine aY (its:=rs.dropLast.map V.int) (λj zs H'=>aC (vw K H7) (vw K H')/\zs=((rs.dropLast.take j).map λx=>L*x).map V.int) (λj zs H' _ _ z=>aT (z.1 _ _ h57)) h8 ⟨S8,rfl⟩ (λj x zs H' hj hx h' z=>?_) (λzs H9 h9 z=>?_)
    .obtain⟨z1,rfl⟩:=z;rw[YD] at hj;rw[YA,YK hj] at hx;cases hx;symm
     refine⟨be bL (br _ ((List.dropLast_sublist _).subset (YJ hj))) (),.mk h' ?_ λH8 B8 h8=>⟨λy o e=>B8 _ _ (ak e hr8) (z1 _ _ e),?_⟩⟩
     .rw[YD,YD,Yw];have:1000<=sizeLine:=∅;nofun
     .rw[XU,YK hj,XT,XT];rfl
    obtain⟨S79,rfl⟩:=z;rw[YD,XV] at h9;have S07:=S5.trans S57;refine key r8 q6 (λk=>L*nz rs k) _ _ (S*L) Pt H9 (S07.trans S79) h9 (S79 _ _ h7) (S07.none hr8) (S5.none hq6) (ak h7 hr8).symm (by rw[YD];exact ldl) (by rw[YD];exact lqs) (nS.elim λe z=>⟨e+1,(),by rw[z.2.1,Xs],λex=>absurd (Int.fmod_eq_zero_of_dvd (by have dv:=Av ln0 (show rs.length=p+ns.length by nofun) lqs (λk=>by rw[<-ev k,z.2.2 ex,Xn]) (hLd▸hL) ex;rw[nP,<-hLd] at dv;exact dv)) e0⟩) ((bS.mul bL).mono (by rw[Nat.mul_add];nofun)) (λx hx=>?_) (λx hx=>?_) bP (λk hk=>?_) (λk=>?_) ?_ (λk=>?_)
    .obtain⟨y,hy,rfl⟩:=List.mem_map.mp hx;exact (bL.mul (br y ((List.dropLast_sublist _).subset hy))).mono ()
    .obtain⟨y,hy,rfl⟩:=List.mem_map.mp hx;exact (bL.mul (bq y hy)).mono ()
    .rw[dX,zq k hk];nofun
    .rw[show nz (qs.map λx=>L*x)=λk=>L*nz qs k from funext λk=>dX k,t5,<-Int.mul_add,<-ev k,Y4 S L,Y3]
    .show L*nz rs (p+(ns.length-1))=Pt*L;rw[nP,Y4]
    .rw[dX,nN,dF];split<;>simp
  .obtain⟨ra,qa,rs,qs,S,o6,o7,o8,rfl,S4,hra,hqa,nra,nqa,nrq,lrs,lqs,nS,bS,br,bq,zq,ev⟩:=(hPv _ _ _).mp pv;rw[Ga] at lrs nS bS br bq zq;refine hN5 _ _ ?_;symm
   simp only[de];refine .inr ?_;simp only[nV];symm
   refine⟨rs,hra,λd H5 ts S5 hd nd e5 l5 z5=>⟨∅,λp6 H6 hp6 S6 h6=>?_⟩⟩;have n9:n<=ms.length:=();have k1:c*n<=290000:=Yg (Xp (Nat.le_succ c) n9) hcm;have k2:(c+1)*n<=290000:=Yg (XN _ n9) hcm;refine h p6 qa d S qs ts H6 (S4.trans (S5.trans S6)) h6 ((S5.trans S6) _ _ hqa) (S6 _ _ hd) (S4.none nd) () () (nS.elim λe z=>⟨e,(),z.2.1.trans (by rw[hLd])⟩) (nS.elim λe z=>z.2.2) (bS.mono ()) (λx hx=>(bq x hx).mono ()) (λx hx=>?_) z5 (λk=>?_) (λx hx=>?_)
   .obtain⟨k,hk⟩:=XM hx;have e:=e5 k;rw[aX hk] at e;rw[e];exact (ml br k).mono ()
   .rw[lqs,e5 k];exact ev k
   .obtain⟨k,hk⟩:=XM hx;have e:=e5 k;rw[aX hk] at e;rw[e,show ms.length+1-ns.length=n by nofun]
    exact ml br k
def lT(K:W.Frag):Sp:=λvs H Q _=>∃(x:Int)(n b:Nat),vs=[.int x,.int n]/\n<=20/\b<=20000/\Bt b x/\Q (.int (x^n)) H
theorem Dp(F:fy K "power" "power" j7 f fd) (T:fV K mg):bZ P w K mg base fk 1 f fd ["base", "many"] (lT K):=by
 have scN:=uU.nd;refine F.okQ uU (λvs H Q E h=>?_) (λcdv A outer s H vs Q E hr h=>?_)
 .obtain⟨_,_,_,rfl,_⟩:=h;rfl
 .obtain⟨x,n,b,rfl,hn,hb,bx,h⟩:=h;refine⟨_,(ag (av (i:=2) scN rfl (·) af)
   (ag (cZ PassesOwn.never rfl (cL rfl T.b_range (aa (qv 1) ae)) (au (i:=3) scN rfl (·)) (aj (i7 (i:=2) scN rfl (·) (qv 0) mG)))
   (aj (aB (qv 2))))),?_⟩
  walk_at"m";symm
  refine⟨(),(),?_⟩;rw[show ((n:Nat):Int).toNat=n by nofun]
  obtain⟨Pv,hPv⟩ : ∃Pv:Nat->St->Hp->Prop,∀i σ H',Pv i σ H'↔H'=H /\ ∃o,σ=[some (.int x),some (.int n),some (.int (x^i)),o]:=⟨_,λ_ _ _=>XJ⟩;refine bJ (its:=eX 0 n) Pv (λ_ _ _ _ _=>bH) ((hPv _ _ _).mpr ⟨rfl,_,by rw[Xr]⟩) (λi y σ H1 hi hy pv=>?_) (λσ H1 pv=>?_)
  .obtain⟨rfl,o,rfl⟩:=(hPv _ _ _).mp pv;obtain⟨hi',rfl⟩:=dP hy;symm
   have b1:=bx.pow1 i;have:b*i<=20000*20:=Xp hb ();refine⟨be b1 bx (),(hPv _ _ _).mpr ⟨rfl,_,by rw[Xs]⟩⟩
  .obtain⟨rfl,o,rfl⟩:=(hPv _ _ _).mp pv;rw[dk];symm
   exact h
def fu(K:W.Frag):Sp:=λvs H Q _=>∃(a:Addr)(ns:List Int)(b:Nat),vs=[.ref a]/\vw K H a=some (.lst (ns.map V.int))/\ns.length<=40/\b<=20000/\(∀x∈ns,Bt b x)/\(ns≠[]->nz ns (ns.length-1)≠0) /\
 ∀d H' (ms:List Int)(g:Int),aC (vw K H) (vw K H')->vw K H' d=some (.lst (ms.map V.int))->vw K H d=none->ms.length=ns.length->0<g->(∀k,nz ns k=g*nz ms k)->(ns≠[]->jN (nz ms))->(∀x∈ms,Bt b x)->Q (.ref d) H'
theorem xw(F:fy K "lowered" "lowered" hZ f fd) (T:fV K mg)(N_:qU P base)(C_greatest_divisor:aZ P w K mg base "greatest_divisor" ["one", "other"] 1 (aK K)):bZ P w K mg base fk 2 f fd ["wholes"] (fu K):=by
 have scN:=qG.nd;refine F.okQ qG (λvs H Q E h=>?_) (λcdv A outer s H vs Q E hr h=>?_)
 .obtain⟨_,_,_,rfl,_⟩:=h;rfl
 .obtain⟨a,ns,b,rfl,ha,hl,hb,bn,nl,h⟩:=h;refine⟨_,(ag (av (i:=1) scN rfl (·) af)
   (ag (cZ PassesOwn.never rfl (cF (qv 0)) (au (i:=2) scN rfl (·)) (aj (av (i:=1) scN rfl (·) (ao C_greatest_divisor nofun rfl (aa (qv 1) (aa (qv 2) ae))))))
   (aj (aB (dS (own:=["whole"]) (outs:=["divisor"]) (ixs:=[1]) rfl (cF (qv 0)) rfl ⟨rfl,rfl,rfl,⟨rfl,trivial⟩,rfl,⟨⟨rfl,rfl,rfl,_,rfl⟩,trivial⟩⟩ (λ_ _ _ _=>⟨(au (i:=0) (show (["whole", "divisor"]:List Str).Nodup by decide +kernel) rfl (·)),ez,(ar (u3 N_ hr rfl rfl rfl rfl rfl) (qv 0) (qv 1))⟩)))))),?_⟩
  walk_at"m";refine aU.gen λN1 hN1=>?_;symm
  refine hN1 _ _ ?_;refine aU.gen λN2 hN2=>?_;symm
  refine⟨⟨_,.of (aH ha)⟩,?_⟩;obtain⟨Pv,hPv⟩ : ∃Pv:Nat->St->Hp->Prop,∀i σ H',Pv i σ H'↔H'=H /\ ∃(g:Int)(o:Option V),σ=[some (.ref a),some (.int g),o]/\(∀x∈ns.take i,g∣x)/\0<=g /\ ∀e:Int,(∀x∈ns.take i,e∣x)->e∣g:=⟨_,λ_ _ _=>XJ⟩;refine bJ (its:=ns.map V.int) Pv (λi σ H' _ p=>?_) ((hPv _ _ _).mpr ⟨rfl,_,_,rfl,by simp,∅,λe _=>Int.dvd_zero e⟩) (λi y σ H1 hi hy pv=>?_) (λσ H1 pv=>?_)
  .obtain⟨rfl,_⟩:=(hPv _ _ _).mp p;exact aT ha
  .obtain⟨rfl,g,o,rfl,hg,gp,hd⟩:=(hPv _ _ _).mp pv;rw[YD] at hi;rw[YA,YK hi] at hy;cases hy;symm
   simp only[aK];symm
   refine (hPv _ _ _).mpr ⟨rfl,_,_,rfl,λx hx=>?_,(),λe he=>?_⟩
   .rw[XU,YK hi] at hx;rcases List.mem_append.mp hx with z|z
    .exact XC (YO _ _) (hg x z)
    .cases XY.mp z;exact YQ _ _
   .rw[XU,YK hi] at he;exact Int.dvd_coe_gcd (hd e λx z=>he x (Yk _ z)) (he _ (Ys _ (XY.mpr rfl)))
  .obtain⟨rfl,g,o,rfl,hg,gp,hd⟩:=(hPv _ _ _).mp pv;rw[YD,XV] at hg hd;refine hN2 _ _ ?_;symm
   have hgn:ns≠[]->g≠0/\Bt b g:=λz=>by
    have lp:ns.length-1<ns.length:=by have:=List.length_pos_iff.mpr z;nofun
    have n1:=nl z;rw[aX (YK lp)] at n1;have d1:=hg _ (YJ lp);have b1:=bn _ (YJ lp);refine⟨λe=>n1 (by rw[e] at d1;exact Int.zero_dvd.mp d1),?_⟩
    have:=XE () (Int.natAbs_dvd_natAbs.mpr d1);unfold Bt at b1 ⊢;nofun
   refine⟨⟨_,.of (aH ha)⟩,λd H2 hnd S2 h2=>?_⟩;refine aY (its:=ns.map V.int) (λj zs H'=>aC (vw K H1) (vw K H')/\zs=((ns.take j).map λx=>x.fdiv g).map V.int) (λj zs H' _ _ z=>aT (z.1 _ _ ha)) h2 ⟨S2,rfl⟩ (λj x zs H' hj hx h' z=>?_) (λzs H3 h3 z=>?_)
   .obtain⟨z1,rfl⟩:=z;rw[YD] at hj;rw[YA,YK hj] at hx;cases hx;obtain⟨g1,g2⟩:=hgn (λe=>by rw[e] at hj;simp at hj)
    symm
    refine⟨g1,.mk h' ?_ λH8 B8 h8=>⟨λy o e=>B8 _ _ (ak e hnd) (z1 _ _ e),?_⟩⟩
    .rw[YD,YD,Yw];have:1000<=sizeLine:=∅;nofun
    .rw[XU,YK hj,XT,XT];rfl
   .obtain⟨z1,rfl⟩:=z;rw[YD,XV] at h3;by_cases e:ns=[]
    .subst e;exact h d H3 [] 1 z1 h3 hnd rfl ∅ (λk=>by rw[Xn]) (λz=>absurd rfl z) (by simp)
    obtain⟨g1,g2⟩:=hgn e;have em:∀x∈ns,x=g*x.fdiv g:=λx hx=>by rw[Y4];exact (gI g1 (hg x hx)).symm
    have nm:∀k,nz ns k=g*nz (ns.map λx=>x.fdiv g) k:=λk=>?_;refine h d H3 _ g z1 h3 hnd (by rw[YD]) () nm (λ_ q hq=>?_) (λx hx=>?_)
    .have d1:g*q∣g:=hd (g*q) λx hx=>by
      obtain⟨k,hk⟩:=XM hx;have e1:=nm k;rw[aX hk] at e1;rw[e1];exact Int.mul_dvd_mul_left g (hq k)
     obtain⟨c,hc⟩:=d1;have hc':g*1=g*(q*c):=by rw[Yp,<-Y3];exact hc
     have q1:1=q*c:=Xl g1 hc';have:=Yn Int.natAbs q1;rw[YU] at this;exact Nat.eq_one_of_mul_eq_one_right this.symm
    .obtain⟨y,hy,rfl⟩:=List.mem_map.mp hx;have e1:(g*y.fdiv g).natAbs=g.natAbs*(y.fdiv g).natAbs:=YU _ _;rw[<-em y hy] at e1;have e2:1*(y.fdiv g).natAbs<=g.natAbs*(y.fdiv g).natAbs:=XF _ ();have b1:=bn y hy;unfold Bt at b1 ⊢;nofun
    .cases ek:ns[k]? with
     | none =>
      have l:=List.getElem?_eq_none_iff.mp ek;rw[aL l,aL (by rw[YD];exact l),Xh]
     | some y =>
      rw[aX ek,aX (n:=y.fdiv g) (by rw[YA,ek];rfl)]
      exact em y (YB ek)
def qX(G:Hp)(t:Addr)(tv:List V)(rows:List (List Int×List Int×Int×Int)):Prop:=tv.length=rows.length /\ ∀(k:Nat) row,rows[k]? = some row -> ∃p ra qa:Addr,tv[k]? = some (.ref p)/\G p=some (.tup [.ref ra,.ref qa,.int row.2.2.1,.int row.2.2.2])/\G ra=some (.lst (row.1.map V.int))/\G qa=some (.lst (row.2.1.map V.int))/\ra≠t/\qa≠t
theorem qX.same{G G':Hp}{t:Addr}{tv:List V}{rows:List (List Int×List Int×Int×Int)}(h:qX G t tv rows)(S:aC G G'):qX G' t tv rows:=⟨h.1,λk row e=>by
 obtain⟨p,ra,qa,a,b,c,d,n⟩:=h.2 k row e;exact⟨p,ra,qa,a,S _ _ b,S _ _ c,S _ _ d,n⟩⟩
def Hw(row:List Int×List Int×Int×Int):Prop:=row.1.length<=11/\(∀x∈row.1,Bt 6102 x)/\Bt 200000 row.2.2.1/\Bt 200000 row.2.2.2/\row.2.1.length<=11/\1<=row.2.1.length /\ ∀x∈row.2.1,Bt 700000 x
def eZ(K:W.Frag):Sp:=λvs H Q _=>∃(a b:Addr)(ms ns:List Int),vs=[.ref a,.ref b]/\vw K H a=some (.lst (ms.map V.int))/\vw K H b=some (.lst (ns.map V.int))/\ms≠[]/\ns.length<=ms.length/\fW 300 ms/\fW 300 ns /\
 ∀(d:Addr)(H':Hp)(tv:List V) rows,aC (vw K H) (vw K H')->vw K H' d=some (.lst tv)->qX (vw K H') d tv rows->pH ms ns rows->rows.length<=11->(∀row∈rows,Hw row)->Q (.ref d) H'
theorem ox(F:fy K "wholes_rests" "wholes_rests" dB f fd) (T:fV K mg)(N_:qU P base)(C_power:aZ P w K mg base "power" ["base", "many"] 1 (lT K)) (C_wholes_parted:aZ P w K mg base "wholes_parted" ["one", "other"] 2 (cm K)):bZ P w K mg base fk 3 f fd ["one", "other"] (eZ K):=by
 have scN:=jn.nd;refine F.okQ jn (λvs H Q E h=>?_) (λcdv A outer s H vs Q E hr h=>?_)
 .obtain⟨_,_,_,_,rfl,_⟩:=h;rfl
 .obtain⟨a,b,ms,ns,rfl,ha,hb,m0,lmn,im,il,h⟩:=h;refine⟨_,(ag (av (i:=2) scN rfl (·) (bY ae))
   (ag (ei (aN (aa af (aa af ae))) (cI (n:=2) rfl (aD (au (i:=3) scN rfl (·)) (aD (au (i:=4) scN rfl (·)) cK))))
   (ag (gA PassesOwn.never (gC (qv 1) (λ_=>rfl)) (ag (av (i:=5) scN rfl (·) (ar cx (aw aF (by rfl) T.b_len bV (aa (qv 0) ae)) (aw aF (by rfl) T.b_len bV (aa (qv 1) ae))))
   (ag (av (i:=6) scN rfl (·) (ao C_power nofun rfl (aa (ay dL (qv 1) (io fj af) (λ_ _=>rfl)) (aa (ar cz (qv 5) af) ae))))
   (ag (ei (ao C_wholes_parted nofun rfl (aa (qv 0) (aa (qv 1) ae))) (cI (n:=3) rfl (aD (au (i:=7) scN rfl (·)) (aD (au (i:=8) scN rfl (·)) (aD (au (i:=9) scN rfl (·)) cK)))))
   (ag (av (i:=10) scN rfl (·) (ar aG (qv 3) (ao C_power nofun rfl (aa (qv 4) (aa (qv 5) ae)))))
   (ag (du (gC (qv 8) (λ_=>rfl)) (ag (av (i:=11) scN rfl (·) (ar (jw N_ hr rfl rfl rfl) (qv 6) (qv 9)))
   (ag (jY (i:=8) (own:=["whole"]) (outs:=["top", "lack"]) (ixs:=[10,11]) scN rfl (·) rfl (cF (qv 8)) rfl ⟨rfl,rfl,rfl,⟨rfl,⟨rfl,trivial⟩⟩,rfl,⟨⟨rfl,rfl,rfl,_,rfl⟩,⟨⟨rfl,rfl,rfl,_,rfl⟩,trivial⟩⟩⟩ (λ_ _ _ _=>⟨(au (i:=0) (show (["whole", "top", "lack"]:List Str).Nodup by decide +kernel) rfl (·)),ez,(ar (C4 N_ hr rfl rfl rfl rfl rfl) (ar (show gh _ _ (jp K) from aG) (qv 2) (qv 0)) (qv 1))⟩))
   (aj (lD (yA XW PySem.F.slot_list_append PySem.F.type_list_append jf (qv 2) (aa (aN (aa (qv 8) (aa (dS (own:=["whole"]) (outs:=["lack"]) (ixs:=[11]) rfl (cF (qv 7)) rfl ⟨rfl,rfl,rfl,⟨rfl,trivial⟩,rfl,⟨⟨rfl,rfl,rfl,_,rfl⟩,trivial⟩⟩ (λ_ _ _ _=>⟨(au (i:=0) (show (["whole", "lack"]:List Str).Nodup by decide +kernel) rfl (·)),ez,(ar (show gh _ _ (jp K) from aG) (qv 1) (qv 0))⟩)) (aa (qv 10) (aa (qv 6) ae))))) ae)))))) bK)
   (ag (tW (i:=0) (j:=1) rfl scN rfl rfl ∅ rfl rfl (aa (qv 1) (aa (qv 8) ae)) rfl)
   (ag (av (i:=3) scN rfl (·) (ay dL (qv 0) (io fj af) (λ_ _=>rfl)))
   (aj (du (aO ue (qv 5) af (aV _)) (aj (av (i:=4) scN rfl (·) (ar (jw N_ hr rfl rfl rfl) (ao C_power nofun rfl (aa (qv 3) (aa (qv 5) ae))) (ao C_power nofun rfl (aa (qv 4) (aa (ar cx (qv 5) af) ae)))))) bK))))))))))
   (aj (aB (qv 2)))))),?_⟩
  walk_at"m";skip
  refine aU.gen λN1 hN1=>?_;symm
  refine⟨∅,λt H1 ht S1 h1=>hN1 _ _ ?_⟩;refine aU.gen λN2 hN2=>?_;symm
  refine⟨∅,λp2 H2 hp2 S2 h2=>⟨_,rfl,_,h2,rfl,_,_,rfl,_,_,rfl,rfl,hN2 _ _ ?_⟩⟩;refine aU.gen λN3 hN3=>?_;symm
  have nt:vw K H t=none:=ht;have S02:=S1.trans S2;obtain⟨W,hW⟩ : ∃W:Nat->St->Hp->Prop,∀m σ H',W m σ H' ↔ ∃(oa ra:Addr)(Fs Gs:List Int)(tv:List V)(rows:List (List Int×List Int×Int×Int))(x g:Int)(o5 o6 o7 o8 o9 o10 o11:Option V),σ=[some (.ref oa),some (.ref ra),some (.ref t),some (.int x),some (.int g),o5,o6,o7,o8,o9,o10,o11]/\m=Gs.length/\aC (vw K H) (vw K H')/\vw K H' t=some (.lst tv)/\vw K H' oa=some (.lst (Fs.map V.int))/\vw K H' ra=some (.lst (Gs.map V.int))/\oa≠t/\ra≠t /\
    Fs≠[]/\tv.length+Gs.length<=11/\Gs.length<=Fs.length/\fW 6087 Fs/\fW 6087 Gs/\(∀r,pH Fs Gs r->pH ms ns (rows++r))/\(Gs≠[] -> ∃S1,qt 6087 S1 (nz Fs) (nz Gs) (Fs.length-1) (Gs.length-1) x g) /\
    qX (vw K H') t tv rows /\ ∀row∈rows,Hw row:=⟨_,λ_ _ _=>XJ⟩
  have btn:∀{n:Nat}{l:List Int},fW n l -> ∀k,Bt n (nz l k):=λi k=>ml i.2.1 k;have up:∀{l:List Int},fW 300 l->fW 6087 l:=λi=>i.up ∅;have lp:∀{l:List Int},l≠[]->0<l.length:=λh=>List.length_pos_iff.mpr h;refine⟨W,⟨_,(hW _ _ _).mpr ⟨a,b,ms,ns,[],[],1,1,_,_,_,_,_,_,_,rfl,rfl,S02,S2 _ _ h1,S02 _ _ ha,S02 _ _ hb,ak ha nt,ak hb nt,m0,by have:=il.1;simp;nofun,lmn,up im,up il,λr z=>z,λn0=>⟨_,qt.first (b:=300) () (by have:=im.1;nofun) ∅ (btn im) (btn il) (il.2.2 n0) (λk hk=>aL (by have:=lp n0;nofun)) (λk hk=>aL (by have:=lp m0;nofun))⟩,⟨rfl,by simp⟩,by simp⟩⟩,λm σ H3 hw=>?_⟩
  obtain⟨oa,ra,Fs,Gs,tv,rows,x,g,o5,o6,o7,o8,o9,o10,o11,rfl,rfl,S3,ht3,hF,hG,noa,nra,f0,lt7,lGF,iF,iG,gc,gs,rt,rwb⟩:=(hW _ _ _).mp hw;refine⟨_,rfl,_,i4 hG,ee (λhc=>⟨_,λσ' H' z=>z,?_⟩) (λhc=>hN3 _ _ ?_)⟩
  .have g0:Gs≠[]:=λz=>by rw[z] at hc;cases hc
   obtain⟨Sx,I⟩:=gs g0;have lg:=lp g0;obtain⟨δ,hδ⟩ : ∃δ,δ=Fs.length-Gs.length:=⟨_,rfl⟩;have hδ2:Fs.length-1-(Gs.length-1)=δ:=();have hgl:Gs.length-1<Gs.length:=();obtain⟨c,hcd⟩ : ∃c,c=nz Gs (Gs.length-1):=⟨_,rfl⟩;have hce:Gs[Gs.length-1]=c:=by rw[hcd,aX (YK hgl)]
   have bc:Bt 6087 c:=hcd▸btn iG _;have c0:c≠0:=hcd▸iG.2.2 g0;have xl:(Gs.map V.int).getLast? = some (.int c):=by
    rw[Xe,YD,YA,YK hgl,hce];rfl
   have lF7:=iF.1;refine aU.gen λM1 hM1=>?_;symm
   refine⟨Fs.length,by simp only[fS,hF,YD],Gs.length,by simp only[fS,hG,YD],hM1 _ _ ?_⟩
   rw[show (Fs.length:Int)-(Gs.length:Int)=(δ:Int) by nofun]
   refine aU.gen λM2 hM2=>?_;symm
   refine⟨_,hG,_,iK xl,⟨c,δ+1,6087,rfl,(),∅,bc,hM2 _ _ ?_⟩⟩;refine aU.gen λM3 hM3=>?_;symm
   simp only[cm];refine⟨oa,ra,Fs,Gs,6087,6087,rfl,hF,hG,lg,iG.2.2 g0,(),(),∅,∅,(),iF.2.1,iG.2.1,λp4 qa rb S qs rs H4 S4 h4 hqa hrb nrb lq lr hSe _ bS bq br lrz ev _=>⟨_,rfl,_,h4,rfl,_,_,rfl,_,_,rfl,_,_,rfl,rfl,hM3 _ _ ?_⟩⟩;obtain⟨e,he,hS⟩:=hSe;rw[<-hcd] at hS;have lq2:qs.length=δ+1:=();have S0:S≠0:=by rw[hS];exact Xt c0
   obtain⟨lack,hlack⟩ : ∃lack,lack=c^(δ+1-e):=⟨_,rfl⟩;have elk:c^(δ+1)=lack*S:=by rw[hlack,hS,<-Ld,show δ+1-e+e=δ+1 by nofun]
   obtain⟨dF,htop⟩ : ∃dF,dF=x*g^δ:=⟨_,rfl⟩;have top0:dF≠0:=by rw[htop];exact Y9 I.inv.x0 (Xt I.inv.h0)
   have δ6:6087*δ<=6087*10:=XN _ ();have btop:Bt 200000 dF:=by rw[htop];exact (I.bx.mul (I.bh.pow1 δ)).mono ()
   have black:Bt 200000 lack:=by
    rw[hlack];refine (bc.pow1 _).mono ?_;have:6087*(δ+1-e)<=6087*11:=XN _ ();nofun
   have bgam:Bt 200000 (c^(δ+1)):=by
    refine (bc.pow1 _).mono ?_;have:6087*(δ+1)<=6087*11:=XN _ ();nofun
   refine aU.gen λM4 hM4=>?_;symm
   simp only[lT];refine⟨g,δ,6087,rfl,(),∅,I.bh,?_⟩;rw[dZ];refine⟨be I.bx (I.bh.pow1 δ) (),hM4 _ _ ?_⟩;rw[<-htop];have ev2:∀k,c^(δ+1)*nz Fs k=pz (λi=>lack*nz qs i) (nz Gs) (δ+1) k+lack*nz rs k:=λk=>by
    rw[t5,<-Int.mul_add,<-lq2,<-ev k,<-Y3,<-elk,lq2]
   obtain⟨r,g',hR,bR,r0,ng',bg',hh,next⟩:=I.rest (q:=λi=>lack*nz qs i) (R:=λk=>lack*nz rs k) (λk hk=>by rw[aL (),Xh]) (λk=>by rw[<-hcd,hδ2];exact ev2 k)
   rw[hδ2,<-htop] at hR;rw[<-hcd,hδ2] at hh;rw[<-hcd] at next
   refine aU.gen λM5 hM5=>?_;have key:∀(rc:Addr)(Rs:List Int)(tv':List V)(rows':List (List Int×List Int×Int×Int))(H':Hp)(u7 u11:Option V),aC (vw K H) (vw K H')->vw K H' t=some (.lst tv')->vw K H' ra=some (.lst (Gs.map V.int))->vw K H' rc=some (.lst (Rs.map V.int))->rc≠t->Rs.length<Gs.length->tv'.length+Rs.length<=11->(∀k,nz Rs k=r k)->fW 6087 Rs->(∀r,pH Gs Rs r->pH ms ns (rows'++r))->qX (vw K H') t tv' rows'->(∀row∈rows',Hw row)->M5 [some (.ref oa),some (.ref ra),some (.ref t),some (.int x),some (.int g),some (.int δ),some (.int (c^(δ+1))),u7,some (.ref rc),some (.int S),some (.int dF),u11] H':=by
    intro rc Rs tv' rows' H' u7 u11 Sx' ht' hG' hR' nrc lR lt' eR iR gc' rt' rb';have fin:∀u7 u11:Option V,∃m',m'<Gs.length/\W m' [some (.ref ra),some (.ref rc),some (.ref t),some (.int c),some (.int g'),some (.int δ),some (.int (c^(δ+1))),u7,some (.ref rc),some (.int S),some (.int dF),u11] H':=λu7 u11=>by
     refine⟨Rs.length,lR,(hW _ _ _).mpr ⟨ra,rc,Gs,Rs,tv',rows',c,g',_,_,_,_,_,_,_,rfl,rfl,Sx',ht',hG',hR',nra,nrc,g0,lt',(),iG,iR,gc',λz=>?_,rt',rb'⟩⟩;have lz:=lp z;have e1:r=nz Rs:=funext λk=>(eR k).symm;have nx:=next (Rs.length-1) () (by rw[<-eR];exact iR.2.2 z) (λk hk=>by rw[<-eR];exact aL ())
     rw[e1] at nx;exact⟨_,nx⟩
    refine hM5 _ _ ?_;symm
    refine⟨_,hG',_,iK xl,ee (λh0=>?_) (λh0=>?_)⟩
    .rcases hh with ⟨z,_⟩|⟨_,z2⟩
     .nofun
     have δ5:6087*(δ-1)<=6087*10:=XN _ ();have u0:g^(δ-1)≠0:=Xt I.inv.h0;refine⟨c,δ,6087,rfl,(),∅,bc,⟨g,δ-1,6087,by rw[show ((δ:Int)-1)=((δ-1:Nat):Int) by nofun],(),∅,I.bh,_,rfl,_,rfl,u0,?_⟩⟩
     have e1:(c^δ).fdiv (g^(δ-1))=g':=Y8 u0 (by rw[gI u0 ⟨g',by rw[<-z2,Y4]⟩,z2])
     rw[e1];exact fin u7 u11
    .rcases hh with ⟨_,z⟩|⟨z,_⟩
     .rw[<-z];exact fin u7 u11
     .nofun
   have nt4:t≠rb:=ak ht3 nrb;symm
   refine⟨_,i4 hrb,ee (λhc2=>?_) (λhc2=>?_)⟩
   .have ef:(c^(δ+1)).fdiv S=lack:=Y8 S0 (by rw[gI S0 ⟨lack,by rw[elk,Y4]⟩,elk])
    rw[ef];have rs0:rs≠[]:=λz=>by rw[z] at hc2;cases hc2
    have lrs:=lp rs0;refine⟨S0,⟨_,.of (aH hrb)⟩,λd6 H6 hd6 S6 h6=>?_⟩;refine aY (its:=rs.map V.int) (λj zs H'=>aC (vw K H4) (vw K H')/\zs=((rs.take j).map λy=>(lack*y).fdiv dF).map V.int) (λj zs H' _ _ z=>aT (z.1 _ _ hrb)) h6 ⟨S6,rfl⟩ (λj y zs H' hj hy h' z=>?_) (λzs H7 h7 z=>?_)
    .obtain⟨z1,rfl⟩:=z;rw[YD] at hj;rw[YA,YK hj] at hy;cases hy;symm
     refine⟨be black (br _ (YJ hj)) (),top0,.mk h' ?_ λH8 B8 h8=>⟨λy o e=>B8 _ _ (ak e hd6) (z1 _ _ e),?_⟩⟩
     .rw[YD,YD,Yw];have:1000<=sizeLine:=∅;nofun
     .rw[XU,YK hj,XT,XT];rfl
    obtain⟨S47,rfl⟩:=z;rw[YD,XV] at h7;refine⟨pE (S47 _ _ (S4 _ _ ht3)),⟨_,.of (aH (S47 _ _ hqa))⟩,λd8 H8 hd8 S8 h8=>?_⟩;refine aY (its:=qs.map V.int) (λj zs H'=>aC (vw K H7) (vw K H')/\zs=((qs.take j).map λy=>lack*y).map V.int) (λj zs H' _ _ z=>aT (z.1 _ _ (S47 _ _ hqa))) h8 ⟨S8,rfl⟩ (λj y zs H' hj hy h' z=>?_) (λzs H9 h9 z=>?_)
    .obtain⟨z1,rfl⟩:=z;rw[YD] at hj;rw[YA,YK hj] at hy;cases hy;symm
     refine⟨be black (bq _ (YJ hj)) (),.mk h' ?_ λH8 B8 h8=>⟨λy o e=>B8 _ _ (ak e hd8) (z1 _ _ e),?_⟩⟩
     .rw[YD,YD,Yw];have:1000<=sizeLine:=∅;nofun
     .rw[XU,YK hj,XT,XT];rfl
    obtain⟨S79,rfl⟩:=z;have S49:=S47.trans S79;refine⟨∅,λp10 H10 hp10 S10 h10=>?_⟩;have ht10:=S10 _ _ (S49 _ _ (S4 _ _ ht3));refine⟨tv,ht10,?_,λH11 B11 h11=>?_⟩
    .have:1000<=sizeLine:=∅;nofun
    have nt6:t≠d6:=ak (S4 _ _ ht3) hd6;have nt10:p10≠t:=(ak (S49 _ _ (S4 _ _ ht3)) hp10).symm;have S410:=S49.trans S10;have hd7:=(S79.trans S10) _ _ h7;have lRs:(rs.map λy=>(lack*y).fdiv dF).length=rs.length:=YD _;have eR:∀k,nz (rs.map λy=>(lack*y).fdiv dF) k=r k:=λk=>by
     have q1:=hR k;cases ek:rs[k]? with
     | none =>
      have l:=List.getElem?_eq_none_iff.mp ek;rw[aL l,Xh] at q1;rw[aL (by rw[lRs];exact l)]
      rcases Int.mul_eq_zero.mp q1.symm with z|z
      .exact absurd z top0
      .exact z.symm
     | some y =>
      rw[aX ek] at q1;rw[aX (n:=(lack*y).fdiv dF) (by rw[YA,ek];rfl)]
      exact Y8 top0 (by rw[gI top0 ⟨_,q1⟩,q1,Y4])
    have R0:(rs.map λy=>(lack*y).fdiv dF)≠[]:=λz=>rs0 (List.map_eq_nil_iff.mp z);have Rl0:nz (rs.map λy=>(lack*y).fdiv dF) ((rs.map λy=>(lack*y).fdiv dF).length-1)≠0:=by
     rw[lRs,eR];intro z;have q1:=hR (rs.length-1);rw[z,Xh] at q1;rcases Int.mul_eq_zero.mp q1 with y|y
     .exact Xt c0 (hlack▸y)
     .exact lrz () y
    have Rb:∀x∈(rs.map λy=>(lack*y).fdiv dF),Bt 6087 x:=λx hx=>by
     obtain⟨k,hk⟩:=XM hx;rw[<-aX hk,eR];exact bR k
    have nzq:∀i,nz (qs.map λy=>lack*y) i=lack*nz qs i:=λi=>by
     cases ek:qs[i]? with
     | none =>
      have l:=List.getElem?_eq_none_iff.mp ek;rw[aL l,aL (by rw[YD];exact l),Xh]
     | some y=>rw[aX ek,aX (n:=lack*y) (by rw[YA,ek];rfl)]
    have ga:∀k,c^(δ+1)*nz Fs k=pz (nz (qs.map λy=>lack*y)) (nz Gs) (qs.map λy=>lack*y).length k+dF*nz (rs.map λy=>(lack*y).fdiv dF) k:=λk=>by
     rw[show nz (qs.map λy=>lack*y)=λi=>lack*nz qs i from funext nzq,YD,lq2,ev2 k,eR,hR k]
    rw[YD,XV] at h9;have hq10:=S10 _ _ h9;have nt8:d8≠t:=(ak ((S47) _ _ (S4 _ _ ht3)) hd8).symm;refine key d6 _ (tv++[.ref p10]) (rows++[(rs.map λy=>(lack*y).fdiv dF,qs.map λy=>lack*y,dF,c^(δ+1))]) H11 _ _ (λy o e=>B11 _ _ (ak e nt) ((S3.trans (S4.trans S410)) _ _ e)) h11 (B11 _ _ nra ((S4.trans S410) _ _ hG)) (B11 _ _ nt6.symm hd7) nt6.symm (by rw[lRs];exact lr) (by rw[lRs,YC];simp;nofun) eR ⟨by rw[lRs];nofun,Rb,λ_=>Rl0⟩ (λr' z=>?_) ⟨by simp[rt.1],λk row e=>?_⟩ (λrow iN=>?_)
    .rw[YG];exact gc _ (.more g0 (iG.2.2 g0) (Xt c0) top0 R0 Rl0 (by rw[lRs];exact lr) (by rw[YD];nofun) ga z)
    .by_cases hk:k<rows.length
     .rw[Yz hk] at e;obtain⟨p,ra',qa',a1,a2,a3,a4,a5,a6⟩:=rt.2 k row e;have S3z:=S4.trans S410;exact⟨p,ra',qa',by rw[Yz (by rw[rt.1];exact hk)];exact a1,B11 _ _ (λz=>by rw[z,ht3] at a2;cases a2) (S3z _ _ a2),B11 _ _ a5 (S3z _ _ a3),B11 _ _ a6 (S3z _ _ a4),a5,a6⟩
     .have hk2:k=rows.length:=by
       have:=(List.getElem?_eq_some_iff.mp e).1;simp at this;nofun
      subst hk2;rw[Yy (),Xj] at e;cases e;exact⟨p10,d6,d8,by rw[Yy (by rw[rt.1];nofun),rt.1,Xj];rfl,B11 _ _ nt10 h10,B11 _ _ nt6.symm hd7,B11 _ _ nt8 hq10,nt6.symm,nt8⟩
    .rcases List.mem_append.mp iN with z|z
     .exact rwb row z
     .cases XY.mp z;refine⟨by rw[lRs];nofun,λx hx=>(Rb x hx).mono ∅,btop,bgam,by rw[YD];nofun,by rw[YD];nofun,λx hx=>?_⟩
      obtain⟨y,hy,rfl⟩:=List.mem_map.mp hx;exact (black.mul (bq y hy)).mono ∅
   .have r1:rs=[]:=by
     cases rs with
     | nil=>rfl
     | cons _ _=>exact absurd rfl hc2
    subst r1;refine key rb [] tv rows H4 _ _ (S3.trans S4) (S4 _ _ ht3) (S4 _ _ hG) hrb nt4.symm (by simp;nofun) (by simp;nofun) (λk=>?_) ⟨by simp,by simp,λz=>absurd rfl z⟩ (λr' z=>?_) (rt.same S4) rwb
    .have:=hR k;rw[show nz [] k=0 from aL (by simp),Xh] at this
     rcases Int.mul_eq_zero.mp this.symm with z|z
     .exact absurd z top0
     .rw[show nz [] k=0 from aL (by simp),z]
    .have er:r'=[]:=by
      cases z with
      | nought=>rfl
      | last h _ _ _ _=>exact absurd rfl h
      | more h _ _ _ _ _ _ _ _ _=>exact absurd rfl h
     subst er;refine gc _ (.last g0 (iG.2.2 g0) S0 (Q:=qs) () λk=>?_);rw[ev k,show nz [] k=0 from aL (by simp)]
     nofun
  .have g1:Gs=[]:=by
    cases Gs with
    | nil=>rfl
    | cons _ _=>exact absurd rfl hc
   subst g1;symm
   have:=gc [] .nought;rw[Yv] at this;exact h t H3 tv rows S3 ht3 rt this (by rw[<-rt.1];nofun) rwb
def cu(K:W.Frag):Sp:=λvs H Q _=>∃(a:Addr)(ns:List Int),vs=[.ref a]/\vw K H a=some (.lst (ns.map V.int))/\ns.length<=11/\(∀x∈ns,Bt 240 x) /\
 ∀d H' (ms:List Int),aC (vw K H) (vw K H')->vw K H' d=some (.lst (ms.map V.int))->vw K H d=none->ms.length=ns.length-1->(∀k,nz ms k=((k+1:Nat):Int)*nz ns (k+1))->(∀x∈ms,Bt 250 x)->Q (.ref d) H'
theorem oq(F:fy K "wholes_slope" "wholes_slope" dj f fd) (T:fV K mg):bZ P w K mg base fk 1 f fd ["wholes"] (cu K):=by
 have scN:=jl.nd;refine F.okQ jl (λvs H Q E h=>?_) (λcdv A outer s H vs Q E hr h=>?_)
 .obtain⟨a,_,rfl,_⟩:=h;rfl
 .obtain⟨a,ns,rfl,ha,lf,hf,h⟩:=h;refine⟨_,(aj (aB (dS (own:=["k"]) (outs:=["wholes"]) (ixs:=[0]) rfl (rJ rfl T.b_range (aa af (aa (aw aF (by rfl) T.b_len bV (aa (qv 0) ae)) ae))) rfl ⟨rfl,rfl,rfl,⟨rfl,trivial⟩,rfl,⟨⟨rfl,rfl,rfl,_,rfl⟩,trivial⟩⟩ (λ_ _ _ _=>⟨(au (i:=0) (show (["k", "wholes"]:List Str).Nodup by decide +kernel) rfl (·)),ez,(ar (show gh _ _ (jp K) from aG) (qv 0) (ay (show AT _ (Gm K) from dL) (qv 1) (qv 0) (λ_ _=>rfl)))⟩)))),?_⟩
  walk_at"m";symm
  refine⟨ns.length,by simp only[fS,ha,YD],(),(),(),(),λd H1 hd S1 h1=>?_⟩
  rw[show ((ns.length:Int)-1).toNat=ns.length-1 by nofun]
  refine aY (its:=eX 1 (ns.length-1)) (λi zs H'=>aC (vw K H) (vw K H') /\ ∃ms:List Int,ms.length=i/\zs=ms.map V.int/\(∀x∈ms,Bt 250 x) /\ ∀(j:Nat)(x:Int),ms[j]? = some x->x=((j+1:Nat):Int)*nz ns (j+1))
   (λ_ _ _ _ _ _=>bH) h1 ⟨S1,[],rfl,rfl,by simp,by simp⟩ (λi x zs H2 hi hx h2 p=>?_) (λzs H2 h2 p=>?_)
  .obtain⟨S2,ms,lv,rfl,bv,hv⟩:=p;obtain⟨hi',rfl⟩:=dP hx;rw[show (1:Int)+(i:Int)=((i+1:Nat):Int) by nofun]
   have hi2:i+1<ns.length:=();have bi:Bt 5 ((i+1:Nat):Int):=by
    show (((i+1:Nat):Int)).natAbs<2^5;nofun
   have bn:=hf ns[i+1] (YJ hi2);symm
   refine⟨_,S2 _ _ ha,V.int ns[i+1],cG (by rw[YA,YK hi2];rfl),?_⟩
   rw[dZ];refine⟨be bi bn ∅,.mk h2 ?_ λH5 B5 h5=>⟨λb o e=>B5 _ _ (ak e hd) (S2 _ _ e),ms++[((i+1:Nat):Int)*ns[i+1]],by simp[lv],by simp,λq hq=>?_,λj q e=>?_⟩⟩
   .rw[YD,lv];have:1000<=sizeLine:=∅;nofun
   .rcases List.mem_append.mp hq with z|z
    .exact bv q z
    .cases XY.mp z;exact (bi.mul bn).mono ∅
   .by_cases hj:j<ms.length
    .rw[Yz hj] at e;exact hv j q e
    .have hj2:j=i:=by
      have:=(List.getElem?_eq_some_iff.mp e).1;simp at this;nofun
     subst hj2;rw[Yy (),lv,Xj] at e;cases e;rw[aX (YK hi2)]
  .obtain⟨S2,ms,lv,rfl,bv,hv⟩:=p;rw[dk] at lv;refine h d H2 ms S2 h2 hd lv (λk=>?_) bv;by_cases hk:k<ms.length
   .rw[aX (YK hk)];exact hv k _ (YK hk)
   .rw[aL (),aL (),Xh]
def eT(K:W.Frag):Sp:=λvs H Q _=>∃(a:Addr)(ns:List Int)(t b:Int)(W B:Nat),vs=[.ref a,.int t,.int b]/\vw K H a=some (.lst (ns.map V.int))/\ns.length<=40/\W<=1000000/\B<=10000/\(∀n∈ns,Bt W n)/\b≠0/\Bt B t/\Bt B b /\
 ∀p H' (u s:Int),aC (vw K H) (vw K H')->vw K H' p=some (.tup [.int u,.int s])->s≠0->(0<b->0<s)->(u:Rat)/(s:Rat)=ga ns ((t:Rat)/(b:Rat))->Bt (1+ns.length*B) s->Bt (W+1+ns.length*(B+2)) u->Q (.ref p) H'
theorem tT(F:fy K "wholes_at" "wholes_at" fI f fd) (T:fV K mg):bZ P w K mg base fk 1 f fd ["wholes", "top", "bottom"] (eT K):=by
 have scN:=lN.nd;refine F.okQ lN (λvs H Q E h=>?_) (λcdv A outer s H vs Q E hr h=>?_)
 .obtain⟨a,_,_,_,_,_,rfl,_⟩:=h;rfl
 .obtain⟨a,ns,t,b,W,B,rfl,ha,ln,hW,hB,bn,nb,bt,bb,h⟩:=h;refine⟨_,(ag (ei (aN (aa af (aa af ae))) (cI (n:=2) rfl (aD (au (i:=3) scN rfl (·)) (aD (au (i:=4) scN rfl (·)) cK))))
   (ag (cZ PassesOwn.never rfl (CO rfl T.b_reversed (aa (qv 0) ae)) (au (i:=5) scN rfl (·)) (ag (i7 (i:=4) scN rfl (·) (qv 2) mG)
   (aj (av (i:=3) scN rfl (·) (ar cz (ar aG (qv 3) (qv 1)) (ar aG (qv 5) (qv 4)))))))
   (aj (aB (aN (aa (qv 3) (aa (qv 4) ae))))))),?_⟩
  walk_at"m";symm
  refine⟨∅,λp0 H0 hp0 S0 h0=>⟨p0,rfl,_,h0,rfl,?_⟩⟩;symm
  simp only[Fc];symm
  replace h:=λp H' u s (S:aC (vw K H0) (vw K H'))=>h p H' u s (S0.trans S);replace ha:=S0 _ _ ha;clear S0 hp0 h0;refine⟨_,ha,?_⟩;have hLB:∀i,i<=ns.length->i*B<=400000/\i*(B+2)<=400080:=λi hi=>⟨Yg (Xp (Yg hi ln) hB) ∅,Yg (Xp (Yg hi ln) (show B+2<=10002 by nofun)) ∅⟩
  obtain⟨Pv,hPv⟩ : ∃Pv:Nat->St->Hp->Prop,∀j σ H',Pv j σ H'↔H'=H0 /\ ∃(u s:Int)(y:Option V),σ=[some (.ref a),some (.int t),some (.int b),some (.int u),some (.int s),y]/\s≠0/\(0<b->0<s)/\(u:Rat)/(s:Rat)=ga (ns.drop (ns.length-j)) ((t:Rat)/(b:Rat))/\Bt (1+j*B) s/\Bt (W+1+j*(B+2)) u:=⟨_,λ_ _ _=>XJ⟩;refine bJ (its:=(ns.map V.int).reverse) Pv (λj σ H' _ p=>?_) ((hPv _ _ _).mpr ⟨rfl,0,1,_,rfl,∅,λ_=>by decide,?_,?_,?_⟩) (λj x σ H1 hj hx pv=>?_) (λσ H1 pv=>?_)
  .obtain⟨rfl,_⟩:=(hPv _ _ _).mp p;exact q9 ha
  .rw[Nat.sub_zero,List.drop_length];show ((0:Int):Rat)/((1:Int):Rat)=0;have e0:((0:Int):Rat)=0:=rfl;rw[e0];grind
  .rw[Nat.zero_mul];decide
  .exact (show Bt 0 0 by decide).mono ()
  .obtain⟨rfl,u,s,y,rfl,s0,sp,hv,bs,bu⟩:=(hPv _ _ _).mp pv;simp only[List.length_reverse,YD] at hj;rw[List.getElem?_reverse (by rw[YD];exact hj),YD,YA,YK (show ns.length-1-j<ns.length by nofun)] at hx
   cases hx;have bw:=bn _ (YJ (show ns.length-1-j<ns.length by nofun))
   have hd:=qW hj;generalize ns[ns.length-1-j]'()=w at bw hd;obtain⟨q1,q2⟩:=hLB j ();have hjb:j*(B+2)=j*B+j*2:=Nat.mul_add j B 2;symm
   refine⟨be bs bb (),?_⟩;have bs':=bs.mul bb;symm
   refine⟨be bu bt (),be bw bs' (),?_⟩;refine (hPv _ _ _).mpr ⟨rfl,_,_,_,rfl,Y9 s0 nb,λhb0=>Y2 (sp hb0) hb0,?_,bs'.mono (by rw[Xo];nofun),((bu.mul bt).add (bw.mul bs')).mono (by rw[Xo];nofun)⟩
   rw[hd];show _=(w:Rat)+_*ga (ns.drop (ns.length-j)) _;rw[<-hv];have c1:=aq s0;have c2:=aq nb;simp only[Xa,Xb];grind
  .obtain⟨rfl,u,s,y,rfl,s0,sp,hv,bs,bu⟩:=(hPv _ _ _).mp pv;simp only[List.length_reverse,YD,Xj,List.drop_zero] at hv bs bu;symm
   exact⟨∅,λp5 H5 hp5 S5 h5=>h p5 H5 u s S5 h5 s0 sp hv bs bu⟩
def eH(K:W.Frag):Sp:=λvs H Q _=>∃(a:Addr)(xs:List V),vs=[.ref a]/\vw K H a=some (.lst xs)/\xs≠[] /\ ∀H',aC (vw K H) (vw K H')->Q .non H'
theorem mS(F:fy K "refuse_nought" "refuse_nought" cV f fd) (T:fV K mg):bZ P w K mg base fk 1 f fd ["f"] (eH K):=by
 have scN:=iY.nd;refine F.okQ iY (λvs H Q E h=>?_) (λcdv A outer s H vs Q E hr h=>?_)
 .obtain⟨_,_,rfl,_⟩:=h;rfl
 .obtain⟨a,xs,rfl,ha,x0,h⟩:=h;refine⟨_,(aj (du (jS (gC (qv 0) (λ_=>rfl))) (aj kZ) bK)),?_⟩;walk_at"m";symm
  refine⟨_,i4 ha,?_⟩;exact kK (by cases xs with|nil=>exact absurd rfl x0|cons _ _=>simp) (h H (aC.refl _))
def gu(K:W.Frag):Sp:=λvs H Q _=>∃n:Int,vs=[.int n]/\Q (.int n.sign) H
theorem vO(F:fy K "sign_of" "sign_of" g9 f fd) (T:fV K mg):bZ P w K mg base fk 1 f fd ["whole"] (gu K):=by
 have scN:=pM.nd;refine F.okQ pM (λvs H Q E h=>?_) (λcdv A outer s H vs Q E hr h=>?_)
 .obtain⟨_,rfl,_⟩:=h;rfl
 .obtain⟨n,rfl,h⟩:=h;refine⟨_,(ag (du (aO jh (qv 0) af (aV _)) (aj (aB af)) bK)
   (aj (aB (lj (aO ue (qv 0) af (aV _)) af (io fj af))))),?_⟩
  walk_at"m";refine aU.gen λN1 hN1=>?_;symm
  refine ee (λz=>?_) (λz=>hN1 _ _ ?_)
  .rw[z] at h;exact h
  .symm
   refine ee (λy=>?_) (λy=>?_)
   .rwa [Int.sign_eq_one_of_pos y] at h
   .rwa [Int.sign_eq_neg_one_of_neg ()] at h
def m6(G:Hp)(t:Addr)(Fs:List (List Int)):Prop:=∃xs,G t=some (.lst xs)/\xs.length=Fs.length /\ ∀(k:Nat) F,Fs[k]? = some F -> ∃l:Addr,xs[k]? = some (.ref l)/\l≠t/\G l=some (.lst (F.map V.int))
theorem m6.same{G G':Hp}{t:Addr}{Fs:List (List Int)}(h:m6 G t Fs)(S:aC G G'):m6 G' t Fs:=by
 obtain⟨xs,a,b,c⟩:=h;refine⟨xs,S _ _ a,b,λk F e=>?_⟩;obtain⟨l,e1,e2,e3⟩:=c k F e;exact⟨l,e1,e2,S _ _ e3⟩
theorem m6.snoc{G G':Hp}{t l:Addr}{xs:List V}{Fs:List (List Int)}{F:List Int}(h:m6 G t Fs)(hx:G t=some (.lst xs))(B:jg t G G')(nl:l≠t)(hl:G l=some (.lst (F.map V.int)))(e:G' t=some (.lst (xs++[.ref l]))):m6 G' t (Fs++[F]):=by
 obtain⟨ys,a,b,c⟩:=h;rw[hx] at a;cases a;refine⟨_,e,by simp[b],λk F' ek=>?_⟩
 by_cases hk:k<Fs.length
 .rw[Yz hk] at ek;obtain⟨m,e1,e2,e3⟩:=c k F' ek;exact⟨m,by rw[Yz ()];exact e1,e2,B _ _ e2 e3⟩
 .have hk2:k=Fs.length:=by
   have:=(List.getElem?_eq_some_iff.mp ek).1;simp at this;nofun
  subst hk2;rw[Yy (),Xj] at ek;cases ek;exact⟨l,by rw[Yy (),b,Xj];rfl,nl,B _ _ nl hl⟩
def fh(K:W.Frag):Sp:=λvs H Q _=>∃(a b:Addr)(ms ns:List Int),vs=[.ref a,.ref b]/\vw K H a=some (.lst (ms.map V.int))/\vw K H b=some (.lst (ns.map V.int))/\ms≠[]/\ns.length<=ms.length/\fW 300 ms/\fW 300 ns /\
 ∀(d:Addr)(H':Hp) rows,aC (vw K H) (vw K H')->m6 (vw K H') d (mB ms ns rows)->pH ms ns rows->rows.length<=11->(∀row∈rows,row.1.length<=11 /\ ∀x∈row.1,Bt 6102 x)->Q (.ref d) H'
theorem ow(F:fy K "signed_chain" "signed_chain" dy f fd) (T:fV K mg)(C_wholes_rests:aZ P w K mg base "wholes_rests" ["one", "other"] 3 (eZ K)) (C_sign_of:aZ P w K mg base "sign_of" ["whole"] 1 (gu K)):bZ P w K mg base fk 4 f fd ["one", "other"] (fh K):=by
 have scN:=ji.nd;refine F.okQ ji (λvs H Q E h=>?_) (λcdv A outer s H vs Q E hr h=>?_)
 .obtain⟨_,_,_,_,rfl,_⟩:=h;rfl
 .obtain⟨a,b,ms,ns,rfl,ha,hb,m0,lmn,im,il,h⟩:=h;refine⟨_,(ag (av (i:=2) scN rfl (·) (lj (gC (qv 1) (λ_=>rfl)) (bY (aa (qv 0) (aa (qv 1) ae))) (bY (aa (qv 0) ae))))
   (ag (Gj af (au (i:=3) scN rfl (·)) (au (i:=4) scN rfl (·)))
   (ag (cZ PassesOwn.never rfl (cF (ao C_wholes_rests nofun rfl (aa (qv 0) (aa (qv 1) ae)))) (cI (n:=4) rfl (aD (au (i:=5) scN rfl (·)) (aD (au (i:=6) scN rfl (·)) (aD (au (i:=7) scN rfl (·)) (aD (au (i:=8) scN rfl (·)) cK))))) (ag (ei (aN (aa (qv 4) (aa (ar aG (ar aG (io fj (qv 3)) (ao C_sign_of nofun rfl (aa (qv 7) ae))) (ao C_sign_of nofun rfl (aa (qv 8) ae))) ae))) (cI (n:=2) rfl (aD (au (i:=3) scN rfl (·)) (aD (au (i:=4) scN rfl (·)) cK))))
   (aj (lD (yA XW PySem.F.slot_list_append PySem.F.type_list_append jf (qv 2) (aa (dS (own:=["whole"]) (outs:=["latter"]) (ixs:=[4]) rfl (cF (qv 5)) rfl ⟨rfl,rfl,rfl,⟨rfl,trivial⟩,rfl,⟨⟨rfl,rfl,rfl,_,rfl⟩,trivial⟩⟩ (λ_ _ _ _=>⟨(au (i:=0) (show (["whole", "latter"]:List Str).Nodup by decide +kernel) rfl (·)),ez,(ar (show gh _ _ (jp K) from aG) (qv 1) (qv 0))⟩)) ae))))))
   (aj (aB (qv 2)))))),?_⟩
  walk_at"m";refine aU.gen λN1 hN1=>?_;have key:∀(t:Addr)(H1:Hp),aC (vw K H) (vw K H1)->vw K H t=none->m6 (vw K H1) t (mB ms ns [])->N1 [some (.ref a),some (.ref b),some (.ref t),none,none,none,none,none,none] H1:=λt H1 S1 ht l1=>hN1 _ _ ?_
  .symm
   refine⟨_,i4 hb,ee (λhc=>⟨∅,λt H1 ht S1 h1=>key t H1 S1 ht ?_⟩) (λhc=>⟨∅,λt H1 ht S1 h1=>key t H1 S1 ht ?_⟩)⟩
   .have n0:ns≠[]:=λz=>by rw[z] at hc;cases hc
    unfold mB;rw[Yc n0];refine⟨_,h1,rfl,λk F e=>?_⟩;match k,e with
    | 0,e=>cases e;exact⟨a,rfl,ak ha ht,S1 _ _ ha⟩
    | 1,e=>cases e;exact⟨b,rfl,ak hb ht,S1 _ _ hb⟩
   .have n0:ns=[]:=by
     cases ns with
     | nil=>rfl
     | cons _ _=>exact absurd rfl hc
    unfold mB;rw[Yb n0];refine⟨_,h1,rfl,λk F e=>?_⟩;match k,e with
    | 0,e=>cases e;exact⟨a,rfl,ak ha ht,S1 _ _ ha⟩
  clear hN1;refine aU.gen λN2 hN2=>?_;simp only[GJ];symm
  refine hN2 _ _ ?_;refine aU.gen λN3 hN3=>?_;symm
  simp only[eZ];refine⟨a,b,ms,ns,rfl,S1 _ _ ha,S1 _ _ hb,m0,lmn,im,il,λd H2 tv rows S2 h2 rr rst lrw rb=>⟨d,rfl,⟨_,.of (aH h2)⟩,?_⟩⟩;have S02:=S1.trans S2;have l2:=l1.same S2;obtain⟨ys,hys,lys,cys⟩:=id l2;have h0:(mB ms ns [])[0]? = some ms:=by
   unfold mB;split<;>rfl
  obtain⟨l0,y0,_,hz0⟩:=cys 0 ms h0;have ndt:d≠t:=λz=>by
   subst z;rw[h2] at hys;cases hys;have:0<tv.length:=(List.getElem?_eq_some_iff.mp y0).1;have hr0:0<rows.length:=by rw[<-rr.1];exact this
   obtain⟨p',_,_,q1,q2,_⟩:=rr.2 0 _ (YK hr0);rw[q1] at y0;cases y0;rw[hz0] at q2;cases q2
  have nint:∀(l:Addr)(is:List Int),vw K H2 l=some (.lst (is.map V.int))->l≠t:=λl is e z=>by
   subst z;rw[hys] at e;cases e;rw[YA] at y0;cases q:is[0]? with
   | none=>rw[q] at y0;cases y0
   | some _=>rw[q] at y0;cases y0
  have ntup:∀(l:Addr) us,vw K H2 l=some (.tup us)->l≠t:=λl us e z=>by
   subst z;rw[hys] at e;cases e
  obtain⟨Pv,hPv⟩ : ∃Pv:Nat->St->Hp->Prop,∀i σ H',Pv i σ H' ↔ ∃(o5 o6 o7 o8:Option V)(p q:Int)(dn:List (List Int)),σ=[some (.ref a),some (.ref b),some (.ref t),some (.int p),some (.int q),o5,o6,o7,o8]/\jg t (vw K H2) (vw K H')/\m6 (vw K H') t (mB ms ns []++dn)/\t8 p/\t8 q/\dn.length=i/\qT 1 1 rows=dn++qT p q (rows.drop i):=⟨_,λ_ _ _=>XJ⟩;refine bJ (its:=tv) Pv (λi σ H' _ q=>?_) ((hPv _ _ _).mpr ⟨_,_,_,_,1,1,[],rfl,λ_ _ _ z=>z,by rw[Yv];exact l2,.inl rfl,.inl rfl,rfl,rfl⟩) (λi x σ H9 hi hx pv=>?_) (λσ H9 pv=>?_)
  .obtain⟨_,_,_,_,_,_,_,_,B',_⟩:=(hPv _ _ _).mp q;exact aT (B' _ _ ndt h2)
  .obtain⟨o5,o6,o7,o8,p,q,dn,rfl,B9,l9,pp,pq,ldn,esc⟩:=(hPv _ _ _).mp pv;have hir:i<rows.length:=by rw[<-rr.1];exact hi
   obtain⟨row,iN⟩ : ∃row,rows[i]? = some row:=⟨_,YK hir⟩;obtain⟨p',ra,qa,t1,t2,t3,t4,_,_⟩:=rr.2 i row iN;rw[t1] at hx;cases hx;have hmem:=YB iN;obtain⟨rl,rbt,_⟩:=rb row hmem;obtain⟨T0,S0,_⟩:=rst.ne row hmem;symm
   refine⟨_,B9 _ _ (ntup _ _ t2) t2,rfl,_,_,rfl,_,_,rfl,_,_,rfl,_,_,rfl,rfl,?_⟩;simp only[gu];have pb:∀{y:Int},t8 y->Bt 2 y:=λh=>by rcases h with z|z<;>rw[z]<;>decide
   have sb:∀{y:Int},y≠0->t8 y.sign:=λh=>by
    rcases fQ h with ⟨z,_⟩|⟨z,_⟩
    .exact .inl z
    .exact .inr z
   have pn:t8 (-p):=by rcases pp with z|z<;>rw[z]<;>first|exact .inl rfl|exact .inr rfl
   have pm2:∀{x y:Int},t8 x->t8 y->t8 (x*y):=λh k=>by rcases h with z|z<;>rcases k with u|u<;>rw[z,u]<;>first|exact .inl rfl|exact .inr rfl
   have p1:=pm2 pn (sb T0);have p2:=pm2 p1 (sb S0);refine⟨_,rfl,?_⟩;rw[dZ];refine⟨be (pb pn) (pb (sb T0)) ∅,_,rfl,?_⟩;rw[dZ];obtain⟨μ,hμ⟩ : ∃μ,μ = -p*row.2.2.1.sign*row.2.2.2.sign:=⟨_,rfl⟩;rw[<-hμ] at p2 ⊢;refine⟨be (pb p1) (pb (sb S0)) ∅,∅,λu Ha hu Sa ha'=>⟨u,rfl,_,ha',rfl,_,_,rfl,_,_,rfl,rfl,?_⟩⟩;obtain⟨ws,hws,lws,cws⟩:=id l9;have hra:vw K Ha ra=some (.lst (row.1.map V.int)):=Sa _ _ (B9 _ _ (nint _ _ t3) t3);refine⟨pE (Sa _ _ hws),ra,rfl,⟨_,.of (aH hra)⟩,λd2 Hc hd2 Sc hdc=>?_⟩;refine aY (its:=row.1.map V.int) (λj zs H'=>aC (vw K Ha) (vw K H')/\zs=((row.1.take j).map λy=>μ*y).map V.int) (λj zs H' _ _ z=>aT (z.1 _ _ hra)) hdc ⟨Sc,rfl⟩ (λj y zs H' hj hy h' z=>?_) (λzs Hd hdd z=>?_)
   .obtain⟨z1,rfl⟩:=z;rw[YD] at hj;rw[YA,YK hj] at hy;cases hy;symm
    refine⟨be (pb p2) (rbt _ (YJ hj)) ∅,.mk h' ?_ λH8 B8 h8=>⟨λy o e=>B8 _ _ (ak e hd2) (z1 _ _ e),?_⟩⟩
    .rw[YD,YD,Yw];have:1000<=sizeLine:=∅;nofun
    .rw[XU,YK hj,XT,XT];rfl
   obtain⟨Sad,rfl⟩:=z;rw[YD,XV] at hdd;have S9d:=Sa.trans Sad;have nd2:d2≠t:=(ak (Sa _ _ hws) hd2).symm;refine⟨ws,S9d _ _ hws,?_,λHf Bf hf=>(hPv _ _ _).mpr ⟨_,_,_,_,q,μ,dn++[row.1.map λy=>μ*y],rfl,(B9.same_trans S9d).trans Bf,?_,pq,p2,by simp[ldn],?_⟩⟩
   .have l3:(mB ms ns []).length<=2:=by
     unfold mB;split<;>simp[qT]
    rw[lws,YC];have:1000<=sizeLine:=∅;nofun
   .rw[<-YG];exact (l9.same S9d).snoc (S9d _ _ hws) Bf nd2 hdd hf
   .rw[esc,YG];congr 1
    have ed:rows.drop i=row::rows.drop (i+1):=by
     rw[Xg hir];congr 1
     rw[YK hir] at iN;cases iN;rfl
    rw[ed,hμ];rfl
  .obtain⟨o5,o6,o7,o8,p,q,dn,rfl,B9,l9,pp,pq,ldn,esc⟩:=(hPv _ _ _).mp pv;refine hN3 _ _ ?_;symm
   refine h t H9 rows (λy o e=>B9 _ _ (ak e ht) (S02 _ _ e)) ?_ rst lrw λrow hr=>⟨(rb row hr).1,(rb row hr).2.1⟩;have e1:rows.drop tv.length=[]:=List.drop_eq_nil_of_le (by rw[rr.1];nofun)
   rw[e1] at esc;have e2:qT 1 1 rows=dn:=by rw[esc];exact Yv _
   have e3:mB ms ns rows=mB ms ns []++dn:=by
    unfold mB;by_cases n0:ns=[]
    .rw[Yb n0,Yb n0];subst n0;have:rows=[]:=by
      cases rst with
      | nought=>rfl
      | last n=>exact absurd rfl n
      | more n=>exact absurd rfl n
     subst this;rw[<-e2];rfl
    .rw[Yc n0,Yc n0,e2];rfl
   rw[e3];exact l9
theorem BP{P:List Int}{Fs hs:List (List Int)}{F h:List Int}(p:yn P Fs hs)(l:h.length<=11/\h.length+P.length<=20)(n:h≠[])(z:nz h (h.length-1)≠0)(e:∀k,nz F k=pz (nz h) (nz P) h.length k):yn P (Fs++[F]) (hs++[h]):=by
 induction p with
 | nil=>exact .cons l n z e .nil
 | cons a b c d _ ih=>exact .cons a b c d ih
theorem Cs{F h P:List Int}(f0:nz F (F.length-1)≠0)(p0:0<P.length)(lh:h.length=F.length+1-P.length)(lF:P.length<=F.length)(e:∀k,nz F k=pz (nz h) (nz P) h.length k):nz h (h.length-1)≠0:=λz=>f0 (by
 have hg:∀j,P.length-1<j->fR P j=0:=λj hj=>cH P j ();have hf:∀j,h.length-1<j->fR h j=0:=λj hj=>cH h j ();have a:=nJ hg hf h.length;rw[Yb (),show h.length-1+(P.length-1)=F.length-1 by nofun] at a
 have b:((nz F (F.length-1):Int):Rat)=((pz (nz h) (nz P) h.length (F.length-1):Int):Rat):=by rw[<-e]
 rw[iM] at b;have c:fR h (h.length-1)=0:=by show ((nz h (h.length-1):Int):Rat)=0;rw[z];rfl
 rw[c,Rat.zero_mul] at a;exact Rat.intCast_inj.mp (b.trans a))
theorem zZ{F h P rs:List Int}(p0:nz P (P.length-1)≠0)(pl:0<P.length)(lr:rs.length<P.length)(lz1:rs.length≠0->nz rs (rs.length-1)≠0)(e:∀k,nz F k=pz (nz h) (nz P) h.length k+nz rs k)(ex:El F P):rs=[]:=Xy λn=>by
 obtain⟨Q,eQ⟩:=ex;have ln:=List.length_pos_iff.mpr n;have r:=uS (q:=fR Q) (q':=fR h) (g:=fR P) (r:=λ_=>0) (r':=fR rs) (n:=Q.length) (n':=h.length) (d:=P.length-1) (λj hj=>cH P j ()) (aq p0) (λ_ _=>rfl) (λk hk=>cH rs k ()) (λk=>by
  have a:((nz F k:Int):Rat)=((pz (nz Q) (nz P) Q.length k:Int):Rat):=by rw[<-eQ]
  have b:((nz F k:Int):Rat)=((pz (nz h) (nz P) h.length k+nz rs k:Int):Rat):=by rw[<-e]
  rw[iM] at a;rw[Xa,iM] at b;show pr (λi=>((nz Q i:Int):Rat)) (λi=>((nz P i:Int):Rat)) Q.length k+0=pr (λi=>((nz h i:Int):Rat)) (λi=>((nz P i:Int):Rat)) h.length k+((nz rs k:Int):Rat);grind) (rs.length-1)
 exact absurd r.symm (aq (lz1 ()))
def Mb(B:Nat)(hs:List (List Int)):Prop:=hs.length<=14 /\ ∀F∈hs,F≠[]/\F.length<=20 /\ ∀x∈F,Bt B x
def ff(K:W.Frag):Sp:=λvs H Q _=>∃(a:Addr)(Fs:List (List Int))(L:List Int),vs=[.ref a]/\m6 (vw K H) a Fs/\Fs.getLast? = some L/\Fs.length<=14/\(∀F∈Fs,F≠[]/\F.length<=11/\nz F (F.length-1)≠0/\L.length<=F.length /\ ∀x∈F,Bt 6112 x)/\(∀(P:List Int)(g:Int),0<g->P.length=L.length->(∀k,nz L k=g*nz P k)->jN (nz P) -> ∀F∈Fs,El F P) /\
 ∀(d:Addr)(H':Hp)(P:List Int)(g:Int) hs,aC (vw K H) (vw K H')->m6 (vw K H') d hs->0<g->P.length=L.length->(∀k,nz L k=g*nz P k)->yn P Fs hs->Mb 600000 hs->Q (.ref d) H'
theorem oi(F:fy K "parted_chain" "parted_chain" dE f fd) (T:fV K mg)(C_lowered:aZ P w K mg base "lowered" ["wholes"] 2 (fu K)) (C_wholes_parted:aZ P w K mg base "wholes_parted" ["one", "other"] 2 (cm K)):bZ P w K mg base fk 3 f fd ["lists"] (ff K):=by
 have scN:=jk.nd;refine F.okQ jk (λvs H Q E h=>?_) (λcdv A outer s H vs Q E hr h=>?_)
 .obtain⟨_,_,_,rfl,_⟩:=h;rfl
 .obtain⟨a,Fs,L,rfl,ha,hL,l12,hF,hX,h⟩:=h;refine⟨_,(ag (av (i:=1) scN rfl (·) (ao C_lowered nofun rfl (aa (ay dL (qv 0) (io fj af) (λ_ _=>rfl)) ae)))
   (aj (aB (dS (own:=["one"]) (outs:=["last"]) (ixs:=[1]) rfl (cF (qv 0)) rfl ⟨rfl,rfl,rfl,⟨rfl,trivial⟩,rfl,⟨⟨rfl,rfl,rfl,_,rfl⟩,trivial⟩⟩ (λ_ _ _ _=>⟨(au (i:=0) (show (["one", "last"]:List Str).Nodup by decide +kernel) rfl (·)),ez,(ay (show AT _ (Dm K) from b9) (ao C_wholes_parted nofun rfl (aa (qv 0) (aa (qv 1) ae))) af (λ_ _=>rfl))⟩))))),?_⟩
  walk_at"m";obtain⟨xs,hxs,lxs,cxs⟩:=id ha;have lm:=List.mem_of_getLast? hL;obtain⟨L0,L9,Lz,_,Lb⟩:=hF L lm;have fp:0<Fs.length:=List.length_pos_of_mem lm;have eL:Fs[Fs.length-1]? = some L:=by rw[<-Xe];exact hL
  obtain⟨la,e1,_,e3⟩:=cxs _ L eL;have xl:xs.getLast? = some (.ref la):=by rw[Xe,lxs];exact e1
  refine aU.gen λN1 hN1=>?_;symm
  simp only[fu];refine⟨xs,hxs,_,iK xl,la,L,6112,rfl,e3,(),∅,Lb,λ_=>Lz,λp H1 P g S1 hp np lP g0 hg prm bP=>hN1 _ _ ?_⟩;symm
  refine⟨⟨_,.of (aH (S1 _ _ hxs))⟩,λd H2 hd S2 h2=>?_⟩;have L0':=List.length_pos_iff.mpr L0;have Pz:nz P (P.length-1)≠0:=λz=>Lz (by rw[hg,<-lP,z,Xh])
  have exq:=hX P g g0 lP hg (prm L0);refine aY (its:=xs) (λj zs H'=>aC (vw K H1) (vw K H') /\ ∃hs,m6 (vw K H') d hs/\yn P (Fs.take j) hs/\hs.length=j /\ ∀F∈hs,F≠[]/\F.length<=20 /\ ∀x∈F,Bt 600000 x) (λj zs H' _ _ z=>aT (z.1 _ _ (S1 _ _ hxs))) h2 ⟨S2,[],⟨[],h2,rfl,by simp⟩,.nil,rfl,by simp⟩ (λj x zs H' hj hx h' z=>?_) (λzs H3 h3 z=>?_)
  .obtain⟨z1,hs,lh,pt,ln,bh⟩:=z;have hj':j<Fs.length:=();obtain⟨l,f1,f2,f3⟩:=cxs j _ (YK hj');rw[hx] at f1;cases f1;have hm:=YJ hj';obtain⟨F0,F9,Fz,FL,Fb⟩:=hF _ hm;symm
   simp only[cm];refine⟨l,p,_,P,6112,6112,rfl,z1 _ _ (S1 _ _ f3),z1 _ _ hp,(),Pz,(),(),∅,∅,(),Fb,bP,λp4 qa ra S qs rs H4 S4 h4 hqa hra nra lq lr _ ex bS bq br lrz ev _=>⟨_,rfl,_,h4,_,gE,?_⟩⟩;have xF:=exq _ hm;have s1:S=1:=ex xF;subst s1;have ev':∀k,nz Fs[j] k=pz (nz qs) (nz P) qs.length k+nz rs k:=λk=>by rw[<-ev k,Xn]
   have rn:=zZ Pz () lr lrz ev' xF;subst rn;have ev2:∀k,nz Fs[j] k=pz (nz qs) (nz P) qs.length k:=λk=>by rw[ev' k,aL (by simp)];nofun
   have q0:0<qs.length:=();have nqd:qa≠d:=λe=>by
    subst e;rw[S4 _ _ h'] at hqa;cases hqa;obtain⟨ys,y1,y2,y3⟩:=lh;rw[h'] at y1;cases y1;rw[YD] at y2;have hh:0<hs.length:=();obtain⟨l',w1,_⟩:=y3 0 _ (YK hh);rw[YA,YK q0] at w1;cases w1
   refine .mk (S4 _ _ h') ?_ λH8 B8 h8=>⟨λy o e=>B8 _ _ (ak e hd) (S4 _ _ (z1 _ _ e)),hs++[qs],(lh.same S4).snoc (S4 _ _ h') B8 nqd hqa h8,?_,by simp[ln],λF hF'=>?_⟩
   .obtain⟨ys,y1,y2,_⟩:=lh;rw[h'] at y1;cases y1;have:1000<=sizeLine:=∅;nofun
   .rw[XU,YK hj'];exact BP pt ⟨(),()⟩ (List.length_pos_iff.mp q0) (Cs Fz () () () ev2) ev2
   .rcases List.mem_append.mp hF' with y|y
    .exact bh F y
    .rw[XY.mp y];exact⟨List.length_pos_iff.mp q0,(),λx hx=>(bq x hx).mono ∅⟩
  .obtain⟨z1,hs,lh,pt,ln,bh⟩:=z;rw[lxs,XV] at pt;exact h d H3 P g hs (S1.trans z1) lh g0 lP hg pt ⟨(),bh⟩
def dU(K:W.Frag):Sp:=λvs H Q _=>∃(a:Addr)(fs:List (Int×Int)),vs=[.ref a]/\aW (vw K H) a fs/\fs≠[]/\fs.length<=11/\aS fs/\Pb 220 (cf fs) /\
 ∀(d:Addr)(H':Hp) hs,aC (vw K H) (vw K H')->m6 (vw K H') d hs->Lw fs hs->(∀x∈hs,x≠[]/\x.length<=20/\nz x (x.length-1)≠0)->Mb 600000 hs->Q (.ref d) H'
theorem my(F:fy K "counting_chain" "counting_chain" cM f fd) (T:fV K mg)(C_lowered:aZ P w K mg base "lowered" ["wholes"] 2 (fu K)) (C_cleared:aZ P w K mg base "cleared" ["f"] 2 (cP K)) (C_parted_chain:aZ P w K mg base "parted_chain" ["lists"] 3 (ff K)) (C_signed_chain:aZ P w K mg base "signed_chain" ["one", "other"] 4 (fh K)) (C_wholes_slope:aZ P w K mg base "wholes_slope" ["wholes"] 1 (cu K)):bZ P w K mg base fk 5 f fd ["f"] (dU K):=by
 have scN:=iH.nd;refine F.okQ iH (λvs H Q E h=>?_) (λcdv A outer s H vs Q E hr h=>?_)
 .obtain⟨_,_,rfl,_⟩:=h;rfl
 .obtain⟨a,fs,rfl,ha,f0,lf,pf,bf,h⟩:=h;refine⟨_,(ag (av (i:=1) scN rfl (·) (ao C_lowered nofun rfl (aa (ay b9 (ao C_cleared nofun rfl (aa (qv 0) ae)) af (λ_ _=>rfl)) ae)))
   (aj (aB (ao C_parted_chain nofun rfl (aa (ao C_signed_chain nofun rfl (aa (qv 1) (aa (ao C_lowered nofun rfl (aa (ao C_wholes_slope nofun rfl (aa (qv 1) ae)) ae)) ae))) ae))))),?_⟩
  walk_at"m";refine aU.gen λN1 hN1=>?_;symm
  simp only[cP,fu];have bq:=bf.bq pf.1;refine⟨a,fs,220,rfl,ha,(),∅,λq z=>⟨pf.1 q z,bq q z⟩,λp b H2 D ns S2 h2 hb nb hD _ ln hn hm=>⟨_,rfl,_,h2,_,gE,?_⟩⟩;have hc2:=vM bf pf.1 hD hm ln λi n q e1 e2=>(hn i n q e1 e2).1;have cl:=jC ln λi n q e1 e2=>(hn i n q e1 e2).1;have D0:(D:Rat)≠0:=aq ();have lfp:0<fs.length:=List.length_pos_iff.mpr f0;have nl:nz ns (ns.length-1)≠0:=λz=>by
   have q1:=cl (ns.length-1);have q2:=zU pf f0;rw[z,ln] at q1;have:cf fs (fs.length-1)*(D:Rat)=0:=q1.symm;rcases Rat.mul_eq_zero.mp this with y|y
   .exact q2 y
   .exact D0 y
  refine⟨b,ns,230,rfl,hb,(),∅,λx z=>(hc2.2 x z).mono ∅,λ_=>nl,λwa H3 W g S3 hW nW lW g0 hg prW bW=>hN1 _ _ ?_⟩;have Wz:nz W (W.length-1)≠0:=λz=>nl (by rw[hg,<-lW,z,Xh])
  have W0:W≠[]:=λz=>by rw[z] at lW;simp at lW;nofun
  symm
  simp only[cu,fu];refine⟨wa,W,rfl,hW,(),λx z=>(bW x z).mono ∅,λsa H4 S S4 hS nS lS eS bS=>?_⟩;have Sz:S≠[]->nz S (S.length-1)≠0:=λz=>by
   have:=List.length_pos_iff.mpr z;rw[eS,show S.length-1+1=W.length-1 by nofun]
   exact Y9 () Wz
  refine⟨sa,S,250,rfl,hS,(),∅,bS,Sz,λoa H5 O g' S5 hO nO lO g0' hg' prO bO=>?_⟩;simp only[fh];have Oz:O≠[]->nz O (O.length-1)≠0:=λz y=>by
   have:=List.length_pos_iff.mpr z;have z2:S≠[]:=List.length_pos_iff.mp ();refine Sz z2 ?_;rw[hg',<-lO,y,Xh]
  have up:∀{x:Int}{n:Nat},n<=300->Bt n x->Bt 300 x:=λl b=>b.mono l;refine⟨wa,oa,W,O,rfl,(S4.trans S5) _ _ hW,hO,W0,(),⟨(),λx z=>up ∅ (bW x z),λ_=>Wz⟩,⟨(),λx z=>up ∅ (bO x z),Oz⟩,λd H6 rows S6 l6 rst lrw rb=>?_⟩;simp only[ff];have S06:=S2.trans (S3.trans (S4.trans (S5.trans S6)));have hW':∀k,fR W k=cf fs k*((D:Rat)/(g:Rat)):=λk=>by
   have e1:=cl k;rw[hg k,Xb] at e1;have c:=aq (show g≠0 by nofun)
   show ((nz W k:Int):Rat)=_;grind
  have hn:∀row∈rows,row.2.2.1≠0/\row.2.2.2≠0:=λrow z=>⟨(rst.ne row z).1,(rst.ne row z).2.1⟩;by_cases o0:O=[]
  .have lo:O.length=0:=by rw[o0];rfl
   have W1:W.length=1:=by
    have:=List.length_pos_iff.mpr W0;nofun
   have e6:mB W O rows=[W]:=Yb o0;rw[e6] at l6;refine⟨d,[W],W,rfl,l6,rfl,by simp,λF hF=>?_,λP g2 g20 lP hP prm F hF=>?_,λd7 H7 P g2 hs S7 l7 g20 lP hP pt lb=>?_⟩
   .rw[XY.mp hF];exact⟨W0,(),Wz,Yq _,λx z=>(bW x z).mono ∅⟩
   .rw[XY.mp hF];refine⟨[g2],Bh (by simp;nofun) () λx=>?_⟩
    rw[sD,gN hP]
   .refine h d7 H7 hs (S06.trans S7) l7 ?_ pt.all lb;cases pt with
    | @cons _ h1 _ _ a1 a2 a3 a4 pt =>
     cases pt with
     | nil =>
      have Pz:nz P 0≠0:=λz=>Wz (by rw[hP,W1,z,Xh])
      obtain⟨c,c0,rfl⟩:=EB W1 a2 a3 () Pz a4;exact⟨.inl ⟨(),c,c0,rfl⟩,λc' z=>by cases z;exact A8 ((prW (λz=>by rw[z] at ln;simp at ln;nofun)).left a4),λ_ _ _ z=>by cases z⟩
  .have e6:mB W O rows=W::O::qT 1 1 rows:=Yc o0;rw[e6] at l6;obtain⟨L,s',eL,ps,nL,lL⟩:=jM rows 1 1 O O hn (.inl rfl) (.inl rfl) (λk=>by rw[Xn]) rfl
   obtain⟨sh1,sh2⟩:=rst.short;have bnd:∀F∈W::O::qT 1 1 rows,F≠[]/\F.length<=11/\nz F (F.length-1)≠0/\L.length<=F.length /\ ∀x∈F,Bt 6112 x:=λF hF=>by
    rcases YY.mp hF with rfl|hF
    .exact⟨W0,(),Wz,(),λx z=>(bW x z).mono ∅⟩
    .rcases YY.mp hF with rfl|hF
     .exact⟨o0,(),Oz o0,(),λx z=>(bO x z).mono ∅⟩
     .obtain⟨row,hr,s2,ps2,rfl⟩:=tf rows 1 1 hn (.inl rfl) (.inl rfl) F hF;obtain⟨_,_,r0,rz⟩:=rst.ne row hr;obtain⟨r9,rb'⟩:=rb row hr;have:=sh2 row hr;refine⟨by simpa using r0,by rw[YD];exact r9,?_,by rw[YD];nofun,λx hx=>?_⟩
      .rw[YD,dX];exact Y9 (by rcases ps2 with z|z<;>rw[z]<;>decide) rz
      .obtain⟨y,hy,rfl⟩:=List.mem_map.mp hx;have:=rb' y hy;have b2:Bt 2 s2:=by rcases ps2 with z|z<;>rw[z]<;>decide
       exact (b2.mul this).mono ∅
   have lsl:(W::O::qT 1 1 rows).getLast? = some L:=by rw[List.getLast?_cons_cons];exact eL
   have lsc:∀(rs:List (List Int×List Int×Int×Int))(x y:Int),(qT x y rs).length=rs.length:=λrs=>by
    induction rs with
    | nil=>intro x y;rfl
    | cons r rs ih=>intro x y;show (qT _ _ rs).length+1=_;rw[ih];rfl
   have L9:L.length<=11:=();obtain⟨L0,_,Lz,_⟩:=bnd L (List.mem_of_getLast? lsl);refine⟨d,_,L,rfl,l6,lsl,by simp only[Y5,lsc];nofun,bnd,λP g2 g20 lP hP prm=>zX rst o0 () () () prm () eL hP λrow hr=>(rb row hr).1,λd7 H7 P g2 hs S7 l7 g20 lP hP pt lb=>h d7 H7 hs (S06.trans S7) l7 ?_ pt.all lb⟩
   have Pz:nz P (P.length-1)≠0:=λz=>Lz (by rw[hP,<-lP,z,Xh])
   have P0:P≠[]:=λz=>by
    have z2:P.length=0:=by rw[z];rfl
    have:=List.length_pos_iff.mpr L0;nofun
   refine⟨KN rst o0 () () P0 Pz () eL () hP hW' eS g0' hg' pt,λc' z=>(by cases pt with|cons _ _ _ _ pt=>cases pt with|cons _ _ _ _ pt=>cases z),FA rst o0 () () Wz (Oz o0) Pz () eL () hP pt (prW ?_) (prO ?_)⟩
   .exact λz=>by rw[z] at ln;simp at ln;nofun
   .exact λz=>o0 (List.length_eq_zero_iff.mp (by rw[lO,z];rfl))
def gw(K:W.Frag):Sp:=λvs H Q _=>∃(a:Addr)(W:List Int)(n:Nat),vs=[.ref a]/\vw K H a=some (.lst (W.map V.int))/\W≠[]/\W.length<=20/\nz W (W.length-1)≠0/\n<=100000/\(∀x∈W,Bt n x) /\
 ∀E:Nat,E<=n+2->Mc W E->Q (.int ((2^E:Nat):Int)) H
theorem D7{α:Type}{xs:List α}{k:Nat}{v:α}(hk:k<xs.length)(h:xs[xs.length-1-k]? = some v):jo xs (-1-(k:Int))=some v:=by
 unfold jo xG;rw[Yc (),Yb ()];show xs[(-1-(k:Int)+(xs.length:Int)).toNat]? = some v;rw[show (-1-(k:Int)+(xs.length:Int)).toNat=xs.length-1-k by nofun]
 exact h
theorem DB{x k:Int}{n:Nat}(h : -(n:Int)<=x)(k1:1<=k) : -(n:Int)<=x.fdiv k:=by
 rw[Int.fdiv_eq_ediv_of_nonneg _ ()];refine (Int.le_ediv_iff_mul_le ()).mpr ?_;have:=Int.mul_le_mul_of_nonneg_left k1 (show (0:Int)<=(n:Int) by nofun)
 rw[Int.neg_mul];nofun
theorem qN(F:fy K "root_bound" "root_bound" eM f fd) (T:fV K mg):bZ P w K mg base fk 1 f fd ["wholes"] (gw K):=by
 have scN:=kI.nd;refine F.okQ kI (λvs H Q E h=>?_) (λcdv A outer s H vs Q E hr h=>?_)
 .obtain⟨_,_,_,rfl,_⟩:=h;rfl
 .obtain⟨a,W,n,rfl,ha,w0,w20,wz,hn,bw,h⟩:=h;refine⟨_,(ag (av (i:=1) scN rfl (·) (xa PySem.F.plainAttrs_int PySem.F.slot_int_bit_length PySem.F.type_int_bit_length kD (ay dL (qv 0) (io fj af) (λ_ _=>rfl))))
   (ag (av (i:=2) scN rfl (·) af)
   (ag (cZ PassesOwn.never rfl (rJ rfl T.b_range (aa af (aa (aw aF (by rfl) T.b_len bV (aa (qv 0) ae)) ae))) (au (i:=3) scN rfl (·)) (ag (av (i:=4) scN rfl (·) (ay dL (qv 0) (ar cx (io fj af) (qv 3)) (λ_ _=>rfl)))
   (aj (du (aO mH (qv 4) af (aV _)) (aj (av (i:=2) scN rfl (·) (aw (iT rfl) (by rfl) T.b_max pV (aa (qv 2) (aa (ar cx af (ar jI (ar cx (ar cx (qv 1) (xa PySem.F.plainAttrs_int PySem.F.slot_int_bit_length PySem.F.type_int_bit_length kD (qv 4))) af) (qv 3))) ae))))) bK))))
   (aj (aB (ar Gh af (qv 2))))))),?_⟩
  walk_at"m";have wp:=List.length_pos_iff.mpr w0;have at_:∀k,k<W.length->(W.map V.int)[k]? = some (.int (nz W k)):=λk hk=>by
   rw[YA,YK hk,aX (YK hk)];rfl
  have xl:(W.map V.int).getLast? = some (.int (nz W (W.length-1))):=by
   rw[Xe,YD];exact at_ _ ()
  have bn:∀k,Builtin.Int.intBits (nz W k)<=n:=λk=>F5 (ml bw k);refine aU.gen λN1 hN1=>?_;symm
  refine⟨_,ha,_,iK xl,?_⟩;refine⟨rfl,_,rfl,rfl,hN1 _ _ ?_⟩;refine aU.gen λN2 hN2=>?_;symm
  refine hN2 _ _ ?_;refine aU.gen λN3 hN3=>?_;symm
  refine⟨W.length,by simp only[fS,ha,YD],(),(),(),(),?_⟩
  rw[show ((W.length:Int)-1).toNat=W.length-1 by nofun]
  obtain⟨Tm,hTm⟩ : ∃Tm:Nat->Nat->Prop,∀E k,Tm E k↔(nz W k=0\/1-(((Builtin.Int.intBits (nz W (W.length-1)):Nat):Int)-((Builtin.Int.intBits (nz W k):Nat):Int)-1).fdiv ((W.length-1-k:Nat):Int)<=(E:Int)):=⟨_,λ_ _=>XJ⟩;obtain⟨Pv,hPv⟩ : ∃Pv:Nat->St->Hp->Prop,∀i σ H',Pv i σ H'↔H'=H /\ ∃(E:Nat)(o3 o4:Option V),σ=[some (.ref a),some (.int ((Builtin.Int.intBits (nz W (W.length-1)):Nat):Int)),some (.int (E:Int)),o3,o4]/\E<=n+2 /\ ∀k,W.length-1-i<=k->k<W.length-1->Tm E k:=⟨_,λ_ _ _=>XJ⟩;refine bJ (its:=eX 1 (W.length-1)) Pv (λi σ H' _ p=>bH) ((hPv _ _ _).mpr ⟨rfl,0,_,_,rfl,(),λk h1 h2=>absurd h2 ()⟩) (λi y σ H1 hi hy pv=>?_) (λσ H1 pv=>?_)
  .obtain⟨rfl,E,o3,o4,rfl,eE,hk⟩:=(hPv _ _ _).mp pv;obtain⟨hi',rfl⟩:=dP hy;have ek:W.length-1-(W.length-1-(i+1))=i+1:=();refine aU.gen λN4 hN4=>?_;symm
   refine⟨_,ha,V.int (nz W (W.length-1-(i+1))),?_,hN4 _ _ ?_⟩
   .rw[show (-1:Int)-(1+(i:Int)) = -1-((i+1:Nat):Int) by nofun]
    refine D7 (by rw[YD];nofun) ?_
    rw[YD];exact at_ _ ()
   have keep:∀E':Nat,E<=E'->Tm E' (W.length-1-(i+1)) -> ∀k,W.length-1-(i+1)<=k->k<W.length-1->Tm E' k:=λE' le t k h1 h2=>by
    by_cases z:k=W.length-1-(i+1)
    .rw[z];exact t
    .rcases (hTm _ _).mp (hk k () h2) with y|y
     .exact (hTm _ _).mpr (.inl y)
     .exact (hTm _ _).mpr (.inr ())
   symm
   refine ee (λz=>?_) (λz=>(hPv (i+1) _ _).mpr ⟨rfl,E,_,_,rfl,eE,keep E (Yq _) ((hTm _ _).mpr (.inl (Classical.not_not.mp z)))⟩);have b1:=(oB wz).1;have b2:=bn (W.length-1-(i+1));have fl:=DB (n:=n) (x:=((Builtin.Int.intBits (nz W (W.length-1)):Nat):Int)-((Builtin.Int.intBits (nz W (W.length-1-(i+1))):Nat):Int)-1) (k:=1+(i:Int)) () ();refine⟨rfl,_,rfl,rfl,_,rfl,JS () (show (1+(i:Int)).natAbs<2^9000 from Yd (show _<2^5 by nofun) (YT ∅ ∅)),?_⟩
   obtain⟨v,hv⟩ : ∃v,v=1-(((Builtin.Int.intBits (nz W (W.length-1)):Nat):Int)-((Builtin.Int.intBits (nz W (W.length-1-(i+1))):Nat):Int)-1).fdiv (1+(i:Int)):=⟨_,rfl⟩;rw[<-hv];have tm:∀E':Nat,v<=(E':Int)->Tm E' (W.length-1-(i+1)):=λE' l=>(hTm _ _).mpr (.inr (by
    rw[ek,show ((i+1:Nat):Int)=1+(i:Int) by nofun,<-hv]
    exact l))
   by_cases q:v > (E:Int)
   .rw[Yb q];obtain⟨E',rfl⟩ : ∃E':Nat,v=(E':Int):=⟨v.toNat,()⟩;exact (hPv (i+1) _ _).mpr ⟨rfl,E',_,_,rfl,(),keep E' () (tm E' ())⟩
   .rw[Yc q];exact (hPv (i+1) _ _).mpr ⟨rfl,E,_,_,rfl,eE,keep E (Yq _) (tm E ())⟩
  .obtain⟨rfl,E,o3,o4,rfl,eE,hk⟩:=(hPv _ _ _).mp pv;refine hN3 _ _ ?_;symm
   refine⟨(),?_,?_⟩
   .have:Builtin.Int.intBits 1=1:=∅;rw[this];nofun
   .have e:=h E eE λk hk'=>?_
    .rw[show (1:Int)*2^((E:Int)).toNat=((2^E:Nat):Int) by rw[Xn,Int.toNat_natCast];simp]
     exact e
    .rcases (hTm _ _).mp (hk k (by rw[dk];nofun) hk') with y|y
     .rw[y];unfold Sm;have p1:(0:Rat)<p2 E/2:=by
       have:=Bk E;grind
      have p3:=Xv (show (0:Rat)<(((nz W (W.length-1)).natAbs:Int):Rat) from Rat.intCast_pos.mpr ()) (fP p1 (W.length-1-k))
      have c0:((0:Int):Rat)=0:=rfl;rw[c0];grind
     .exact xj (EU _) (oB wz).2 (oB wz).1 () y
def cA(K:W.Frag):Sp:=λvs H Q _=>∃(a:Addr)(ns:List Int)(x m:Int),vs=[.ref a,.int x,.int m]/\vw K H a=some (.lst (ns.map V.int))/\(∀n∈ns,Bt 1000 n)/\Bt 1000 x/\0<m/\Bt 1000 m/\Q (.int (zv ns x%m)) H
theorem tK(F:fy K "left_over" "left_over" fG f fd) (T:fV K mg):bZ P w K mg base fk 1 f fd ["wholes", "x", "modulus"] (cA K):=by
 have scN:=lK.nd;refine F.okQ lK (λvs H Q E h=>?_) (λcdv A outer s H vs Q E hr h=>?_)
 .obtain⟨a,_,_,_,rfl,_⟩:=h;rfl
 .obtain⟨a,ns,x,m,rfl,ha,bn,bx,m0,bm,h⟩:=h;refine⟨_,(ag (av (i:=3) scN rfl (·) af)
   (ag (cZ PassesOwn.never rfl (CO rfl T.b_reversed (aa (qv 0) ae)) (au (i:=4) scN rfl (·)) (aj (av (i:=3) scN rfl (·) (ar dJ (ar cz (ar aG (qv 3) (qv 1)) (qv 4)) (qv 2)))))
   (aj (aB (qv 3))))),?_⟩
  walk_at"m";symm
  simp only[Fc];symm
  refine⟨_,ha,?_⟩;obtain⟨Pv,hPv⟩ : ∃Pv:Nat->St->Hp->Prop,∀j σ H',Pv j σ H'↔H'=H /\ ∃(t:Int)(y:Option V),t=zv (ns.drop (ns.length-j)) x%m/\σ=[some (.ref a),some (.int x),some (.int m),some (.int t),y]:=⟨_,λ_ _ _=>XJ⟩;refine bJ (its:=(ns.map V.int).reverse) Pv (λj σ H' _ p=>?_) ((hPv _ _ _).mpr ⟨rfl,0,_,?_,rfl⟩) (λj y σ H1 hj hy pv=>?_) (λσ H1 pv=>?_)
  .obtain⟨rfl,_⟩:=(hPv _ _ _).mp p;exact q9 ha
  .rw[Nat.sub_zero,List.drop_length];exact (Int.zero_emod m).symm
  .obtain⟨rfl,t,y',et,rfl⟩:=(hPv _ _ _).mp pv;simp only[List.length_reverse,YD] at hj;rw[List.getElem?_reverse (by rw[YD];exact hj),YD,YA,YK (show ns.length-1-j<ns.length by nofun)] at hy
   cases hy;have bw:=bn _ (YJ (show ns.length-1-j<ns.length by nofun))
   have hd:=qW hj;generalize ns[ns.length-1-j]'()=w at bw hd;symm
   have bt:Bt 1000 t:=by rw[et];exact ja m0 bm
   refine⟨be bt bx ∅,(),(hPv _ _ _).mpr ⟨rfl,_,_,?_,rfl⟩⟩;rw[XX _ (),hd,et];show _=(w+x*zv (ns.drop (ns.length-j)) x)%m;rw[Hn]
  .obtain⟨rfl,t,y',et,rfl⟩:=(hPv _ _ _).mp pv;simp only[List.length_reverse,YD,Xj,List.drop_zero] at et;symm
   rw[et];exact h
theorem sB{ns:List Int}(h:ns≠[]):(ns.map V.int).getLast? = some (.int (nz ns (ns.length-1))):=by
 have l:=List.length_pos_iff.mpr h;rw[Xe,YD,YA,YK (show ns.length-1<ns.length by nofun),aX (YK (show ns.length-1<ns.length by nofun))]
 rfl
def j4(K:W.Frag):Sp:=λvs H Q _=>∃(a:Addr)(ns:List Int)(m:Int),vs=[.ref a,.int m]/\vw K H a=some (.lst (ns.map V.int))/\ns≠[]/\ns.length<=11/\2<=m/\m<=3024 /\
 ∀b (H':Hp),aC (vw K H) (vw K H')->(b=true↔Sv ns m)->Q (.bl b) H'
theorem Ac(F:fy K "serves" "serves" iU f fd) (T:fV K mg)(C_greatest_divisor:aZ P w K mg base "greatest_divisor" ["one", "other"] 1 (aK K)) (C_wholes_slope:aZ P w K mg base "wholes_slope" ["wholes"] 1 (cu K)) (C_left_over:aZ P w K mg base "left_over" ["wholes", "x", "modulus"] 1 (cA K)):bZ P w K mg base fk 2 f fd ["wholes", "modulus"] (j4 K):=by
 have scN:=rA.nd;refine F.okQ rA (λvs H Q E h=>?_) (λcdv A outer s H vs Q E hr h=>?_)
 .obtain⟨a,_,_,rfl,_⟩:=h;rfl
 .obtain⟨a,ns,m,rfl,ha,n0,ln,m2,m3,h⟩:=h;refine⟨_,(ag (du (aO mH (ao C_greatest_divisor nofun rfl (aa (ay dL (qv 0) (io fj af) (λ_ _=>rfl)) (aa (qv 1) ae))) af (aV _)) (aj (aB jE)) bK)
   (ag (jY (i:=2) (own:=["whole"]) (outs:=["modulus"]) (ixs:=[1]) scN rfl (·) rfl (cF (qv 0)) rfl ⟨rfl,rfl,rfl,⟨rfl,trivial⟩,rfl,⟨⟨rfl,rfl,rfl,_,rfl⟩,trivial⟩⟩ (λ_ _ _ _=>⟨(au (i:=0) (show (["whole", "modulus"]:List Str).Nodup by decide +kernel) rfl (·)),ez,(ar dJ (qv 0) (qv 1))⟩))
   (ag (av (i:=3) scN rfl (·) (ao C_wholes_slope nofun rfl (aa (qv 2) ae)))
   (ag (cZ PassesOwn.never rfl (cL rfl T.b_range (aa (qv 1) ae)) (au (i:=4) scN rfl (·)) (aj (du (aO jh (ao C_left_over nofun rfl (aa (qv 2) (aa (qv 4) (aa (qv 1) ae)))) af (aV _)) (aj (du (aO mH (ao C_greatest_divisor nofun rfl (aa (ao C_left_over nofun rfl (aa (qv 3) (aa (qv 4) (aa (qv 1) ae)))) (aa (qv 1) ae))) af (aV _)) (aj (aB jE)) bK)) bK)))
   (aj (aB jE)))))),?_⟩
  walk_at"m";have ln0:=List.length_pos_iff.mpr n0;have bm:Bt 200 m:=(show Bt 12 m by unfold Bt;nofun).mono ∅
  refine aU.gen λN1 hN1=>?_;symm
  simp only[aK];refine⟨_,ha,_,iK (sB n0),_,_,rfl,rfl,ee (λz=>?_) (λz=>hN1 _ _ ?_)⟩
  .refine h false H (aC.refl _) ⟨λy=>(by cases y),λsv=>absurd ?_ z⟩
   rw[sv.1];rfl
  clear hN1;have g1:Int.gcd (nz ns (ns.length-1)) m=1:=by
   have z:=Classical.not_not.mp z;injection z with z
   nofun
  refine aU.gen λN2 hN2=>?_;symm
  refine⟨⟨_,.of (aH ha)⟩,λc H1 hc S1 h1=>?_⟩;refine aY (its:=ns.map V.int) (λk zs H'=>aC (vw K H) (vw K H')/\zs=((ns.take k).map λn=>n%m).map V.int) (λk zs H' _ _ z=>aT (z.1 _ _ ha)) h1 ⟨S1,rfl⟩ (λk x zs H' hk hx h' z=>?_) (λzs H2 h2 z=>?_)
  .obtain⟨z1,rfl⟩:=z;have hk':k<ns.length:=by rwa [YD] at hk
   rw[YA,YK hk'] at hx;cases hx;symm
   refine⟨(),.mk h' ?_ λH3 B3 h3=>⟨λb o e=>B3 _ _ (ak e hc) (z1 _ _ e),?_⟩⟩
   .rw[YD,YD,Yw];have:1000<=sizeLine:=∅;nofun
   .rw[XU,YK hk',XX _ (),XT,XT];rfl
  obtain⟨z1,rfl⟩:=z;rw[YD,XV] at h2;refine hN2 _ _ ?_;clear hN2;obtain⟨ms,hms⟩ : ∃ms,ms=ns.map λn=>n%m:=⟨_,rfl⟩;rw[<-hms] at h2;have lms:ms.length=ns.length:=by rw[hms,YD]
  have mm:∀k,m∣nz ms k-nz ns k:=λk=>by rw[hms];exact FG k
  have bms:∀x∈ms,Bt 200 x:=λx hx=>by
   rw[hms] at hx;obtain⟨n,_,rfl⟩:=List.mem_map.mp hx;exact ja () bm
  refine aU.gen λN3 hN3=>?_;symm
  simp only[cu];refine⟨c,ms,rfl,h2,(),λx z=>(bms x z).mono ∅,λd H3 is S3 h3 nd3 lis eis bis=>hN3 _ _ ?_⟩;clear hN3;have zi:∀x,zv is x=zs ms x:=λx=>GC eis x;refine aU.gen λN4 hN4=>?_;symm
  obtain⟨Pv,hPv⟩ : ∃Pv:Nat->St->Hp->Prop,∀k σ H',Pv k σ H'↔H'=H3 /\ ∃y,σ=[some (.ref a),some (.int m),some (.ref c),some (.ref d),y] /\ ∀x:Int,0<=x->x<k->m∣zv ns x->Int.gcd (zs ns x) m=1:=⟨_,λ_ _ _=>XJ⟩;refine⟨(),(),bJ (its:=eX 0 _) Pv (λ_ _ _ _ _=>bH) ((hPv _ _ _).mpr ⟨rfl,_,rfl,λx _ _=>by nofun⟩) (λk y σ H4 hk hy pv=>?_) (λσ H4 pv=>?_)⟩
  .obtain⟨rfl,y',rfl,all⟩:=(hPv _ _ _).mp pv;obtain⟨hk',rfl⟩:=dP hy;have hx0:(0:Int)+(k:Int)=k:=();have bk:Bt 1000 ((0:Int)+(k:Int)):=(show Bt 12 ((0:Int)+(k:Int)) by unfold Bt;nofun).mono ∅
   have same:=lQ (nD m ((0:Int)+(k:Int)) _ _ mm);have same2:=lQ (IG mm ((0:Int)+(k:Int)));have next:(m∣zv ns (k:Int)->Int.gcd (zs ns (k:Int)) m=1)->Pv (k+1) [some (.ref a),some (.int m),some (.ref c),some (.ref d),some (.int (0+(k:Int)))] H4:=λq=>(hPv _ _ _).mpr ⟨rfl,_,rfl,λx x0 x1 hx=>by
    rcases (show x<k\/(k:Int)<=x by nofun) with z|z
    .exact all x x0 z hx
    .have:x=k:=();subst this;exact q hx⟩
   symm
   simp only[cA];refine⟨c,ms,_,m,rfl,S3 _ _ h2,λx z=>(bms x z).mono ∅,bk,(),bm.mono ∅,rfl,ee (λz=>?_) (λz=>?_)⟩
   .have z0:m∣zv ns (k:Int):=by
     injection z with z
     rw[same,hx0] at z;exact mz.mp z
    refine⟨d,is,_,m,rfl,h3,λx z=>(bis x z).mono ∅,bk,(),bm.mono ∅,?_⟩;simp only[aK];refine⟨_,_,rfl,rfl,ee (λw=>?_) (λw=>?_)⟩
    .refine h false H4 (z1.trans S3) ⟨λy=>(by cases y),λsv=>absurd ?_ w⟩
     have:=sv.2 k () () z0;rw[zi,same2,hx0,nX.mpr this];rfl
    .refine next λ_=>?_
     have w:=Classical.not_not.mp w;injection w with w
     rw[zi,same2,hx0] at w;exact nX.mp ()
   .refine next λq=>absurd ?_ z
    rw[same,hx0,mz.mpr q]
  .obtain⟨rfl,y',rfl,all⟩:=(hPv _ _ _).mp pv;refine hN4 _ _ ?_;symm
   refine h true H4 (z1.trans S3) ⟨λ_=>⟨g1,λx x0 x1 hx=>all x x0 ?_ hx⟩,λ_=>rfl⟩;have:(eX 0 m.toNat).length=m.toNat:=by simp[eX]
   nofun
def eO(K:W.Frag):Sp:=λvs H Q _=>∃(a:Addr)(ns:List Int),vs=[.ref a]/\vw K H a=some (.lst (ns.map V.int))/\ns≠[]/\ns.length<=11/\(∃m:Int,2<=m/\m<=3024/\Sv ns m) /\
 ∀(m:Int)(H':Hp),aC (vw K H) (vw K H')->2<=m->m<=3024->Sv ns m->Q (.int m) H'
theorem mJ(F:fy K "least_modulus" "least_modulus" cT f fd) (T:fV K mg)(C_serves:aZ P w K mg base "serves" ["wholes", "modulus"] 2 (j4 K)):bZ P w K mg base fk 3 f fd ["wholes"] (eO K):=by
 have scN:=iX.nd;refine F.okQ iX (λvs H Q E h=>?_) (λcdv A outer s H vs Q E hr h=>?_)
 .obtain⟨a,_,rfl,_⟩:=h;rfl
 .obtain⟨a,ns,rfl,ha,n0,ln,⟨M,M2,M3,sM⟩,h⟩:=h;refine⟨_,(ag (av (i:=1) scN rfl (·) af)
   (ag (gA PassesOwn.never (jS (oZ (ao C_serves nofun rfl (aa (qv 0) (aa (qv 1) ae))))) (aj (i7 (i:=1) scN rfl (·) af Ca)))
   (aj (aB (qv 1))))),?_⟩
  walk_at"m";symm
  obtain⟨Wm,hW⟩ : ∃Wm:Nat->St->Hp->Prop,∀k σ H',Wm k σ H' ↔ ∃m:Int,σ=[some (.ref a),some (.int m)]/\aC (vw K H) (vw K H')/\2<=m/\m<=M/\k=(M-m).toNat:=⟨_,λ_ _ _=>XJ⟩;refine⟨Wm,⟨_,(hW _ _ _).mpr ⟨2,rfl,aC.refl _,(),(),rfl⟩⟩,λk σ H' wm=>?_⟩;obtain⟨m,rfl,S1,m2,mM,rfl⟩:=(hW _ _ _).mp wm;symm
  simp only[j4];refine⟨a,ns,m,rfl,S1 _ _ ha,n0,ln,m2,(),λb H2 S2 hb=>⟨b,rfl,?_⟩⟩;refine ee (λz=>?_) (λz=>?_)
  .refine⟨λσ H3=>∃m',m'<(M-m).toNat/\Wm m' σ H3,λ_ _ z=>z,?_⟩;have ne:m≠M:=λe=>by
    rw[e] at hb;rw[hb.mpr sM] at z;cases z
   exact⟨_,_,rfl,rfl,_,(),(hW _ _ _).mpr ⟨m+1,rfl,S1.trans S2,(),(),rfl⟩⟩
  .exact h m H2 (S1.trans S2) m2 () (hb.mp (by simpa using z))
theorem JH{a b:Int}{n:Nat}(a0:0<=a)(h:a<=2*b)(k:Bt n b):Bt (n+1) a:=by
 unfold Bt at k ⊢;rw[YW];nofun
theorem KS{a b:Int}{n:Nat}(a0:0<=a)(h:a<b)(k:Bt n b):Bt n a:=by
 unfold Bt at k ⊢;nofun
theorem Ly{M r:Int}(M2:2<=M)(go:M<=2*r):(2*r+1-M*M).toNat<(2*r+1-M).toNat:=by
 have:=Int.mul_le_mul_of_nonneg_right M2 (show 0<=M by nofun)
 nofun
theorem Gv{M:Int}(M2:2<=M):0<M*M:=Y2 () ()
def kY(K:W.Frag):Sp:=λvs H Q _=>∃(a:Addr)(ns:List Int)(x m reach:Int),vs=[.ref a,.int x,.int m,.int reach]/\vw K H a=some (.lst (ns.map V.int))/\ns≠[]/\ns.length<=11/\(∀n∈ns,Bt 98 n)/\2<=m/\m<=3024/\0<=x/\x<m/\m∣zv ns x/\Int.gcd (zs ns x) m=1/\0<=reach/\Bt 300 reach /\
 ∀(t:Int)(H':Hp),aC (vw K H) (vw K H')->HN ns m x reach t->Bt 700 t->Q (.int t) H'
theorem xu(F:fy K "refined" "refined" ic f fd) (T:fV K mg)(C_wholes_slope:aZ P w K mg base "wholes_slope" ["wholes"] 1 (cu K)) (C_left_over:aZ P w K mg base "left_over" ["wholes", "x", "modulus"] 1 (cA K)):bZ P w K mg base fk 2 f fd ["wholes", "x", "modulus", "reach"] (kY K):=by
 have scN:=pY.nd;refine F.okQ pY (λvs H Q E h=>?_) (λcdv A outer s H vs Q E hr h=>?_)
 .obtain⟨a,_,_,_,_,rfl,_⟩:=h;rfl
 .obtain⟨a,ns,x,m,reach,rfl,ha,n0,ln,bn,m2,m3,x0,x1,hx,hg,r0,br,h⟩:=h;refine⟨_,(ag (av (i:=4) scN rfl (·) (ao C_wholes_slope nofun rfl (aa (qv 0) ae)))
   (ag (av (i:=5) scN rfl (·) (ao C_left_over nofun rfl (aa (qv 4) (aa (qv 1) (aa (qv 2) ae)))))
   (ag (av (i:=6) scN rfl (·) (ay dL (dS (own:=["k"]) (outs:=["modulus", "steep"]) (ixs:=[2,5]) rfl (cL rfl T.b_range (aa (qv 2) ae)) rfl ⟨rfl,rfl,rfl,⟨rfl,⟨rfl,trivial⟩⟩,rfl,⟨⟨rfl,rfl,rfl,_,rfl⟩,⟨⟨rfl,rfl,rfl,_,rfl⟩,trivial⟩⟩⟩ (λ_ _ _ _=>⟨(au (i:=0) (show (["k", "modulus", "steep"]:List Str).Nodup by decide +kernel) rfl (·)),(wT (aO jh (ar dJ (ar (show gh _ _ (jp K) from aG) (qv 0) (qv 2)) (qv 1)) af (aV _))),(qv 0)⟩)) af (λ_ _=>rfl)))
   (ag (gA PassesOwn.never (aO GH (qv 2) (ar aG af (qv 3)) (aV _)) (ag (i7 (i:=2) scN rfl (·) (qv 2) mG)
   (ag (av (i:=1) scN rfl (·) (ar dJ (ar cx (qv 1) (ar aG (ao C_left_over nofun rfl (aa (qv 0) (aa (qv 1) (aa (qv 2) ae)))) (qv 6))) (qv 2)))
   (aj (av (i:=6) scN rfl (·) (ar dJ (ar yh (qv 6) (ar cx af (ar aG (ao C_left_over nofun rfl (aa (qv 4) (aa (qv 1) (aa (qv 2) ae)))) (qv 6)))) (qv 2)))))))
   (ag (av (i:=7) scN rfl (·) (ar dJ (ar aG (qv 1) (ay dL (qv 0) (io fj af) (λ_ _=>rfl))) (qv 2)))
   (aj (aB (lj (aO GH (ar aG af (qv 7)) (qv 2) (aV _)) (qv 7) (ar cx (qv 7) (qv 2)))))))))),?_⟩
  walk_at"m";have bm:Bt 200 m:=(show Bt 12 m by unfold Bt;nofun).mono ∅
  have bx:Bt 200 x:=(show Bt 12 x by unfold Bt;nofun).mono ∅
  refine aU.gen λN1 hN1=>?_;symm
  simp only[cu];refine⟨a,ns,rfl,ha,ln,λy z=>(bn y z).mono ∅,λd H1 is S1 h1 nd lis eis bis=>hN1 _ _ ?_⟩;have zi:∀x,zv is x=zs ns x:=λx=>GC eis x;refine aU.gen λN2 hN2=>?_;symm
  simp only[cA];refine⟨d,is,x,m,rfl,h1,λy z=>(bis y z).mono ∅,bx.mono ∅,(),bm.mono ∅,hN2 _ _ ?_⟩;clear hN1 hN2;rw[zi];obtain⟨s1,hs1⟩ : ∃s1,s1=zs ns x%m:=⟨_,rfl⟩;rw[<-hs1];have bs:Bt 200 s1:=by rw[hs1];exact ja () bm
  refine aU.gen λN3 hN3=>?_;symm
  refine⟨(),(),λe H2 he S2 h2=>?_⟩;have one:∀y:Int,y.fmod m=1↔m∣y-1:=λy=>by
   rw[XX _ ()];refine⟨λz=>?_,λz=>?_⟩
   .have:=zt y m
    rwa [z] at this
   .rw[lQ z];exact Int.emod_eq_of_lt () ()
  refine aY (its:=eX 0 m.toNat) (λk zs H'=>aC (vw K H1) (vw K H') /\ ∃ks:List Int,zs=ks.map V.int/\ks.length<=k/\(∀i∈ks,0<=i/\i<m/\m∣i*s1-1) /\ ∀i:Int,0<=i->i<k->m∣i*s1-1->ks≠[]) (λ_ _ _ _ _ _=>bH) h2 ⟨S2,[],rfl,by simp,by simp,λi _ _=>by nofun⟩ (λk y zs H' hk hy h' z=>?_) (λzs H3 h3 z=>?_)
  .obtain⟨z1,ks,rfl,lk,all,ne⟩:=z;obtain⟨hk',rfl⟩:=dP hy;have bk:Bt 200 ((0:Int)+(k:Int)):=(show Bt 12 ((0:Int)+(k:Int)) by unfold Bt;nofun).mono ∅
   symm
   refine⟨be bk bs ∅,(),ee (λz=>.mk h' ?_ λH3 B3 h3=>⟨λb o e'=>B3 _ _ (ak e' he) (z1 _ _ e'),ks++[0+(k:Int)],?_,by simp;nofun,λi hi=>?_,λ_ _ _ _=>by simp⟩) (λz=>.mk h' ⟨z1,ks,rfl,(),all,λi i0 i1 hi=>?_⟩)⟩
   .rw[YD];have:3024<=sizeLine:=by decide +kernel
    nofun
   .rw[XT];rfl
   .rcases List.mem_append.mp hi with y|y
    .exact all i y
    .rw[XY.mp y];exact⟨(),(),(one _).mp z⟩
   .rcases (show i<k\/i=0+(k:Int) by nofun) with y|y
    .exact ne i i0 y hi
    .refine absurd ?_ z;rw[<-y,(one _).mpr hi]
  obtain⟨z1,ks,rfl,lk,all,ne⟩:=z;obtain⟨β,hβ⟩:=vP hg;have kne:ks≠[]:=by
   have md:=e7 β m;refine ne (β%m) (Int.emod_nonneg _ ()) ?_ ?_
   .have:=XQ β (show 0<m by nofun)
    have l:(eX 0 m.toNat).length=m.toNat:=by simp[eX]
    nofun
   .obtain⟨c,hc⟩:=md;obtain⟨f,hf⟩:=hβ;obtain⟨g,hg'⟩:=e7 (zs ns x) m;rw[<-hs1] at hg';refine⟨c*s1+β*g+f,?_⟩;have e1:β%m=β+m*c:=();have e2:s1=zs ns x+m*g:=();rw[e1];have:(β+m*c)*s1-1=β*s1+m*(c*s1)-1:=⋯;rw[this];have e3:β*s1=zs ns x*β+m*(β*g):=by rw[e2];grind
    rw[e3];grind
  obtain⟨i,ks',rfl⟩:=List.exists_cons_of_ne_nil kne;obtain⟨i0,i1,hi⟩:=all i Yi;refine⟨_,h3,_,gE,hN3 _ _ ?_⟩;clear hN3;have S13:=z1;have L0:DZ ns m x m x i:=DZ.first m2 x0 x1 hx i0 i1 (by rw[<-hs1];exact hi)
  refine aU.gen λN4 hN4=>?_;refine nj.gen λB hB=>?_;symm
  obtain⟨Wm,hW⟩ : ∃Wm:Nat->St->Hp->Prop,∀j σ H',Wm j σ H' ↔ ∃(M X i:Int)(o7:Option V),σ=[some (.ref a),some (.int X),some (.int M),some (.int reach),some (.ref d),some (.int s1),some (.int i),o7]/\aC (vw K H3) (vw K H')/\DZ ns m x M X i/\Bt 604 M/\j=(2*reach+1-M).toNat:=⟨_,λ_ _ _=>XJ⟩;refine⟨Wm,⟨_,(hW _ _ _).mpr ⟨m,x,i,_,rfl,aC.refl _,L0,bm.mono ∅,rfl⟩⟩,λj σ H4 wm=>?_⟩;obtain⟨M,X,i,o7,rfl,S4,Lf,bM,rfl⟩:=(hW _ _ _).mp wm;have M2:=Lf.M2;have small:∀{y:Int},0<=y->y<M->Bt 604 y:=λh1 h2=>KS h1 h2 bM;have bX:=small Lf.x0 Lf.x1;have bi:=small Lf.i0 Lf.i1;have a4:=S4 _ _ (S13 _ _ (S1 _ _ ha));have d4:=S4 _ _ (S13 _ _ h1);symm
  have MM0:0<M*M:=Gv M2;have M0:0<M:=Int.lt_of_lt_of_le ∅ M2;have ef:∀y:Int,y.fmod (M*M)=y%(M*M):=λy=>XX _ (YR MM0);have ne:¬ M*M=0:=Int.ne_of_gt MM0;have b2:Bt 2 2:=∅;refine⟨be b2 br (),ee (λgo=>?_) (λgo=>hN4 _ _ ?_)⟩
  .obtain⟨N0,hN0⟩ : ∃N0:St->Hp->Prop,∀σ H5,N0 σ H5 ↔ ∃m',m'<(2*reach+1-M).toNat/\Wm m' σ H5:=⟨_,λ_ _=>XJ⟩;refine⟨N0,λ_ _ z=>(hN0 _ _).mp z,hB _ _ _ ?_⟩;clear hB hN4;have bMs:Bt 301 M:=JH (YR M0) go br;have bMM:Bt 602 (M*M):=(bMs.mul bMs).mono ∅;have up:∀{y:Int},Bt 602 y->Bt 1000 y:=λh=>h.mono ∅;refine aU.gen λK1 hK1=>?_;symm
   refine⟨be bM bM ∅,hK1 _ _ ?_⟩;clear hK1;refine aU.gen λK2 hK2=>?_;symm
   simp only[cA];refine⟨a,ns,X,M*M,rfl,a4,λy z=>(bn y z).mono ∅,bX.mono ∅,MM0,up bMM,?_⟩;rw[dZ];refine⟨be (ja MM0 bMM) bi ∅,_,rfl,ne,hK2 _ _ ?_⟩;clear hK2;rw[ef];obtain⟨X',hX'⟩ : ∃X',X'=(X-zv ns X%(M*M)*i)%(M*M):=⟨_,rfl⟩;rw[<-hX'];have bX':Bt 602 X':=by rw[hX'];exact ja MM0 bMM
   dsimp only[uJ,D3,tC,Ci,nU,zS];dsimp only[wE,List.getElem?_cons_zero,List.getElem?_cons_succ,Option.join,Option.bind];simp only[cA];refine⟨d,is,X',M*M,rfl,d4,λy z=>(bis y z).mono ∅,up bX',MM0,up bMM,?_⟩;rw[zi];obtain⟨q,hq⟩ : ∃q,q=zs ns X'%(M*M):=⟨_,rfl⟩;rw[<-hq];have bq:Bt 602 q:=by rw[hq];exact ja MM0 bMM
   symm
   have Ls:=Lf.step hX' hq rfl;refine⟨be bq bi ∅,be bi (b2.sub (bq.mul bi)) ∅,ne,(hN0 _ _).mpr ⟨_,Ly M2 go,(hW _ _ _).mpr ⟨_,X',_,o7,?_,S4,Ls,bMM.mono ∅,rfl⟩⟩⟩;rw[ef]
  .clear hB hN4;refine aU.gen λN5 hN5=>?_;symm
   have b1000:∀{y:Int},Bt 604 y->Bt 1000 y:=λh=>h.mono ∅;have bl:Bt 98 (nz ns (ns.length-1)):=by
    have l:=List.length_pos_iff.mpr n0;rw[aX (YK (Nat.sub_lt l Nat.one_pos))];exact bn _ (YJ _)
   refine⟨_,a4,_,iK (sB n0),?_⟩;rw[dZ];refine⟨be bX bl ∅,_,rfl,Int.ne_of_gt M0,hN5 _ _ ?_⟩;clear hN5;rw[XX _ (YR M0)];have told:=λt ht=>Lf.told (reach:=reach) (t:=t) (Int.not_le.mp go) ht;have bT:Bt 604 (X*nz ns (ns.length-1)%M):=ja M0 bM;have S04:=S1.trans (S13.trans S4);symm
   refine⟨be b2 bT (),ee (λz=>?_) (λz=>?_)⟩
   .exact h _ H4 S04 (told _ (Yb z).symm) (bT.mono ∅)
   .exact h _ H4 S04 (told _ (Yc z).symm) ((bT.sub bM).mono ∅)
def dQ(K:W.Frag):Sp:=λvs H Q _=>∃(a:Addr)(fs:List (Int×Int))(l:List (aR×Nat)),vs=[.ref a]/\aW (vw K H) a fs/\fs≠[]/\fs.length<=11/\aS fs/\Pb 220 (cf fs)/\sw fs l /\
 ∀(d:Addr)(H':Hp) ms,aC (vw K H) (vw K H')->vw K H d=none->aW (vw K H') d ms->m4 l ms->Q (.ref d) H'
theorem lE(F:fy K "fraction_roots" "fraction_roots" cO f fd) (T:fV K mg)(C_refuse_nought:aZ P w K mg base "refuse_nought" ["f"] 1 (eH K)) (C_counting_chain:aZ P w K mg base "counting_chain" ["f"] 5 (dU K)) (C_root_bound:aZ P w K mg base "root_bound" ["wholes"] 1 (gw K)) (C_least_modulus:aZ P w K mg base "least_modulus" ["wholes"] 3 (eO K)) (C_left_over:aZ P w K mg base "left_over" ["wholes", "x", "modulus"] 1 (cA K)) (C_refined:aZ P w K mg base "refined" ["wholes", "x", "modulus", "reach"] 2 (kY K)) (C_wholes_at:aZ P w K mg base "wholes_at" ["wholes", "top", "bottom"] 1 (eT K)) (C_sign_of:aZ P w K mg base "sign_of" ["whole"] 1 (gu K)) (C_ratio:aZ P w K mg base "ratio" ["top", "bottom"] 2 (cY K)):bZ P w K mg base fk 6 f fd ["f"] (dQ K):=by
 have scN:=iJ.nd;refine F.okQ iJ (λvs H Q E h=>?_) (λcdv A outer s H vs Q E hr h=>?_)
 .obtain⟨_,_,_,rfl,_⟩:=h;rfl
 .obtain⟨a,fs,l,rfl,ha,f0,lf,pf,bf,FW,h⟩:=h;refine⟨_,(ag (lD (ao C_refuse_nought nofun rfl (aa (qv 0) ae)))
   (ag (av (i:=1) scN rfl (·) (ay dL (ao C_counting_chain nofun rfl (aa (qv 0) ae)) af (λ_ _=>rfl)))
   (ag (av (i:=2) scN rfl (·) (ay dL (qv 1) (io fj af) (λ_ _=>rfl)))
   (ag (av (i:=3) scN rfl (·) (ar aG (aw jQ (by rfl) T.b_abs qE (aa (qv 2) ae)) (ao C_root_bound nofun rfl (aa (qv 1) ae))))
   (ag (av (i:=4) scN rfl (·) (ao C_least_modulus nofun rfl (aa (qv 1) ae)))
   (ag (jY (i:=5) (own:=["x"]) (outs:=["wholes", "modulus", "reach"]) (ixs:=[1,4,3]) scN rfl (·) rfl (cL rfl T.b_range (aa (qv 4) ae)) rfl ⟨rfl,rfl,rfl,⟨rfl,⟨rfl,⟨rfl,trivial⟩⟩⟩,rfl,⟨⟨rfl,rfl,rfl,_,rfl⟩,⟨⟨rfl,rfl,rfl,_,rfl⟩,⟨⟨rfl,rfl,rfl,_,rfl⟩,trivial⟩⟩⟩⟩ (λ_ _ _ _=>⟨(au (i:=0) (show (["x", "wholes", "modulus", "reach"]:List Str).Nodup by decide +kernel) rfl (·)),(wT (aO jh (ao C_left_over nofun rfl (aa (qv 1) (aa (qv 0) (aa (qv 2) ae)))) af (aV _))),(ao C_refined nofun rfl (aa (qv 1) (aa (qv 0) (aa (qv 2) (aa (qv 3) ae)))))⟩))
   (ag (jY (i:=6) (own:=["top"]) (outs:=["last", "wholes"]) (ixs:=[2,1]) scN rfl (·) rfl (cF (qv 5)) rfl ⟨rfl,rfl,rfl,⟨rfl,⟨rfl,trivial⟩⟩,rfl,⟨⟨rfl,rfl,rfl,_,rfl⟩,⟨⟨rfl,rfl,rfl,_,rfl⟩,trivial⟩⟩⟩ (λ_ _ _ _=>⟨(au (i:=0) (show (["top", "last", "wholes"]:List Str).Nodup by decide +kernel) rfl (·)),(wT (aO jh (ay (show AT _ (Dm K) from b9) (ao C_wholes_at nofun rfl (aa (qv 2) (aa (qv 0) (aa (qv 1) ae)))) af (λ_ _=>rfl)) af (aV _))),(ar (show gh _ _ (jp K) from aG) (qv 0) (ao C_sign_of nofun rfl (aa (qv 1) ae)))⟩))
   (aj (aB (dS (own:=["top"]) (outs:=["last"]) (ixs:=[2]) rfl (cF (aw xt (by rfl) T.b_sorted Ak (aa (qv 6) ae))) rfl ⟨rfl,rfl,rfl,⟨rfl,trivial⟩,rfl,⟨⟨rfl,rfl,rfl,_,rfl⟩,trivial⟩⟩ (λ_ _ _ _=>⟨(au (i:=0) (show (["top", "last"]:List Str).Nodup by decide +kernel) rfl (·)),ez,(ao C_ratio nofun rfl (aa (qv 0) (aa (aw jQ (by rfl) T.b_abs qE (aa (qv 1) ae)) ae)))⟩))))))))))),?_⟩
  walk_at"m";obtain⟨xs,hxs,rxs⟩:=id ha;have lx:xs.length=fs.length:=by rw[rxs.length,YD]
  have x0:xs≠[]:=λz=>f0 (List.length_eq_zero_iff.mp (by rw[<-lx,z];rfl))
  refine aU.gen λN1 hN1=>?_;symm
  simp only[eH];refine⟨a,xs,rfl,hxs,x0,λH1 S1=>hN1 _ _ ?_⟩;clear hN1;refine aU.gen λN2 hN2=>?_;symm
  simp only[dU];refine⟨a,fs,rfl,ha.same S1,f0,lf,pf,bf,λd H2 hs S2 l2 cc all lb=>?_⟩;obtain⟨h0,I,tl,n,κ,c0,hh,tI,n10,lh0,nh0,lI,k0,cn0,e0,id0,bh0,bI⟩:=Gf cc FW all;obtain⟨c1,ev1⟩:=FW.ev;have PH:=Hy (B:=300) cc.1 all FW.ok FW.un (by have:=FW.dl;nofun) FW.ln ev1 FW.mks
  have nh0':nz h0 (h0.length-1)≠0:=by rw[lh0];exact nh0
  have hn0:h0≠[]:=λz=>by rw[z] at lh0;simp at lh0
  obtain⟨ys,hys,lys,cys⟩:=id l2;obtain⟨la,y0,_,hla⟩:=cys 0 h0 (by rw[hh];rfl)
  refine⟨_,rfl,_,hys,_,cG (j:=0) y0,hN2 _ _ ?_⟩;clear hN2;obtain⟨L,hL⟩ : ∃L,L=nz h0 (h0.length-1):=⟨_,rfl⟩;have bL:Bt 98 L:=by rw[hL];exact ml bh0 _
  have L0:L≠0:=by rw[hL];exact nh0'
  refine aU.gen λN3 hN3=>?_;symm
  refine⟨_,hla,_,iK (sB hn0),hN3 _ _ ?_⟩;clear hN3;rw[<-hL];refine aU.gen λN4 hN4=>?_;symm
  simp only[gw];refine⟨la,h0,98,rfl,hla,hn0,(),nh0',∅,bh0,λE hE rb=>?_⟩;obtain⟨A1,A0,_⟩:=PH.bd E h0 tl hh rb;rw[dZ,show (if L<0 then -L else L)=(L.natAbs:Int) by split<;>nofun]
  have bE:Bt 101 ((2^E:Nat):Int):=by
   have:=Nat.pow_lt_pow_right (a:=2) ∅ (show E<101 by nofun)
   unfold Bt
   rwa [XD]
  have bA:Bt 98 (L.natAbs:Int):=by
   unfold Bt at bL ⊢
   rwa [XD]
  refine⟨be bA bE,hN4 _ _ ?_⟩;clear hN4;obtain⟨reach,hre⟩ : ∃reach,reach=(L.natAbs:Int)*((2^E:Nat):Int):=⟨_,rfl⟩;have br:Bt 300 reach:=by rw[hre];exact (bA.mul bE).mono ∅
  have r0:0<=reach:=by rw[hre];exact Int.mul_nonneg (Int.natCast_nonneg _) (Int.natCast_nonneg _)
  rw[<-hre];obtain⟨a9,lb9,a97⟩:=FW.lb;refine aU.gen λN5 hN5=>?_;symm
  simp only[eO];refine⟨la,h0,rfl,hla,hn0,(),KM FW.ok FW.un FW.ll (λq hq=>?_) cn0 nh0' ?_ () e0,λm H3 S3 m2 m3 sv=>hN5 _ _ ?_⟩
  .obtain⟨ν,b,e1,e2,e3,e4⟩:=lb9.nu q hq;exact⟨ν,b,e1,e2,e3,()⟩
  .rw[<-hL];unfold Bt at bL;exact Yg (Yh bL) ∅
  clear hN5;refine aU.gen λN6 hN6=>?_;symm
  have bm:Bt 1000 m:=(show Bt 12 m by unfold Bt;nofun).mono ∅
  refine⟨(),(),λe H4 he S4 h4=>?_⟩;refine aY (its:=eX 0 m.toNat) (λk zs H'=>aC (vw K H3) (vw K H') /\ ∃rs:List (Int×Int),zs=(rs.map λp=>p.2).map V.int/\jB h0 m reach k rs/\rs.length<=k/\(∀p∈rs,p.1<k) /\ ∀p∈rs,Bt 700 p.2) (λ_ _ _ _ _ _=>bH) h4 ⟨S4,[],rfl,⟨by simp,.nil,λx _ _=>by nofun⟩,YS _,by simp,by simp⟩ (λk y zs H' hk hy h' z=>?_) (λzs H5 h5 z=>?_)
  .obtain⟨z1,rs,rfl,ok,lr,lt,br'⟩:=z;obtain⟨hk',rfl⟩:=dP hy;have hx0:(0:Int)+(k:Int)=k:=();rw[hx0];have bk:Bt 1000 (k:Int):=(show Bt 12 (k:Int) by unfold Bt;nofun).mono ∅
   symm
   simp only[cA];refine⟨la,h0,_,m,rfl,z1 _ _ (S3 _ _ hla),λx z=>(bh0 x z).mono ∅,bk,(),bm,rfl,ee (λz=>?_) (λz=>?_)⟩
   .have zd:m∣zv h0 (k:Int):=by
     injection z with z
     exact mz.mp z
    refine⟨la,h0,k,m,reach,rfl,z1 _ _ (S3 _ _ hla),hn0,(),bh0,m2,m3,(),(),zd,sv.2 k () () zd,r0,br,λt H6 S6 R bt=>?_⟩;refine .mk (S6 _ _ h') ?_ λH7 B7 h7=>⟨λb o x=>B7 _ _ (ak x he) (S6 _ _ (z1 _ _ x)),rs++[((k:Int),t)],by rw[XT,XT];rfl,ok.snoc lt () zd R,?_,λp hp=>?_,λp hp=>?_⟩
    .rw[YD,YD];have:5000<=sizeLine:=∅;nofun
    .rw[YC,List.length_singleton];nofun
    .rcases List.mem_append.mp hp with q|q
     .have:=lt p q;nofun
     .rw[XY.mp q];show (k:Int)<((k+1:Nat):Int);nofun
    .rcases List.mem_append.mp hp with q|q
     .exact br' p q
     .rw[XY.mp q];exact bt
   .have zd:¬ m∣zv h0 (k:Int):=λq=>z (by rw[mz.mpr q])
    exact .mk h' ⟨z1,rs,rfl,ok.skip zd,(),λp hp=>by have:=lt p hp;nofun,br'⟩
  obtain⟨z1,rs,rfl,ok,lr,lt,br'⟩:=z;rw[show (eX 0 m.toNat).length=m.toNat by simp[eX]] at ok lr
  refine hN6 _ _ ?_;clear hN6;refine aU.gen λN7 hN7=>?_;symm
  refine⟨⟨_,.of (aH h5)⟩,λe2 H6 he2 S6 h6=>?_⟩;refine aY (its:=(rs.map λp=>p.2).map V.int) (λk zs H'=>aC (vw K H5) (vw K H')/\zs=(AE h0 L (rs.take k)).map V.int) (λk zs H' _ _ z=>aT (z.1 _ _ h5)) h6 ⟨S6,rfl⟩ (λk y zs H' hk hy h' z=>?_) (λzs H7 h7 z=>?_)
  .obtain⟨w1,rfl⟩:=z;have hk':k<rs.length:=by rwa [YD,YD] at hk
   rw[YA,YA,YK hk'] at hy;cases hy;obtain⟨q,hq⟩ : ∃q,q=rs[k]:=⟨_,rfl⟩;have qm:q∈rs:=by rw[hq];exact YJ _
   have tk:rs.take (k+1)=rs.take k++[q]:=by rw[XU,YK hk',<-hq];rfl
   rw[<-hq];symm
   simp only[eT];refine⟨la,h0,q.2,L,98,1000,rfl,w1 _ _ (z1 _ _ (S3 _ _ hla)),(),∅,∅,bh0,L0,(br' q qm).mono ∅,bL.mono ∅,λp H8 u s S8 h8 s0 _ eq _ _=>?_⟩;have uz:u=0↔hv h0 q.2 L=0:=by
    rw[oP L0,<-eq];refine⟨λz=>by rw[z,Xu];exact Rat.zero_mul _,λz=>?_⟩
    have:=XI (a:=(u:Rat)) (aq s0);rw[z,Rat.zero_mul] at this;exact Rat.intCast_inj.mp this.symm
   have lk:(AE h0 L (rs.take k)).length<=k:=by
    unfold AE;rw[YD];exact Yg (List.length_filter_le _ _) (List.length_take_le _ _)
   refine⟨p,rfl,_,h8,_,rfl,rfl,ee (λz=>?_) (λz=>?_)⟩
   .have u0:u=0:=by injection z
    have hz:=uz.mp u0;simp only[gu];refine⟨L,rfl,?_⟩;rw[dZ];refine⟨yO (by unfold Bt;rw[Int.natAbs_sign];split<;>decide),.mk (S8 _ _ h') ?_ λH9 B9 h9=>⟨λb o x=>B9 _ _ (ak x he2) (S8 _ _ (w1 _ _ x)),?_⟩⟩
    .rw[YD];have:5000<=sizeLine:=∅;nofun
    .rw[tk,u8,Yb hz,XT];rfl
   .have nz:¬ hv h0 q.2 L=0:=λy=>z (by rw[uz.mpr y])
    refine .mk (S8 _ _ h') ⟨w1.trans S8,?_⟩;rw[tk,u8,Yc nz,Yv]
  obtain⟨w1,rfl⟩:=z;rw[YD,YD,XV] at h7;refine hN7 _ _ ?_;clear hN7;have fl:=xQ FW.ok () cn0 e0 ok nh0' sv.1;symm
  rw[<-hL] at fl;refine⟨_,h7,by have:=FW.ll;nofun,λns' pm so r H8 hr8 S8 h8=>⟨r,rfl,⟨_,.of (aH h8)⟩,λe3 H9 he3 S9 h9=>?_⟩⟩
  have Mz:(L.natAbs:Int)≠0:=();have ln':ns'.length<=6:=by
   rw[pm.length_eq];have:=FW.ll;nofun
  refine aY (its:=ns'.map V.int) (λk zs H'=>aC (vw K H8) (vw K H')/\aI (vw K H') (((ns'.take k).map λv=>lo v (L.natAbs:Int)).map fr) zs) (λk zs H' _ _ z=>aT (z.1 _ _ h8)) h9 ⟨S9,.mk_nil⟩ (λk y zs H' hk hy h' z=>?_) (λzs H10 h10 z=>?_)
  .obtain⟨w2,rz⟩:=z;have hk':k<ns'.length:=by rwa [YD] at hk
   rw[YA,YK hk'] at hy;cases hy;symm
   rw[show (if L<0 then -L else L)=(L.natAbs:Int) by split<;>nofun]
   simp only[cY];refine⟨_,_,rfl,Mz,bA.mono ∅,λv H11 S11 rv=>.mk (S11 _ _ h') ?_ λH12 B12 h12=>⟨λb o x=>B12 _ _ (ak x he3) (S11 _ _ (w2 _ _ x)),?_⟩⟩
   .rw[rz.length,YD,YD,Yw];have:5000<=sizeLine:=∅;nofun
   .have h'':=S11 _ _ h';have fl:∀us:List (Int×Int),D.flats (us.map fr)=true:=λus=>by
     induction us with
     | nil=>simp[D.flats]
     | cons a us ih=>simp[D.flats,fr,D.flat,ih]
    rw[XU,YK hk',XT,XT];exact (aI.flat_but h'' B12 _ _ (fl _) (rz.same S11)).snoc (aP.flat_but h'' B12 _ _ (eN _) rv)
  obtain⟨w2,rz⟩:=z;rw[YD,XV] at rz;rw[hL] at pm rz;have Sx:aC (vw K H) (vw K H8):=S1.trans (S2.trans (S3.trans (z1.trans (w1.trans S8))));refine h e3 H10 _ (Sx.trans w2) ?_ ⟨zs,h10,rz⟩ (BL FW.ok () cn0 e0 ok m2 nh0' sv A1 A0 (by rw[hre,hL]) pm so)
  cases x:vw K H e3 with
  | none=>rfl
  | some o=>rw[Sx _ _ x] at he3;cases he3
def oG(K:W.Frag):Sp:=λvs H Q _=>∃x y p q,vs=[x,y]/\aP (vw K H) (fr p) x/\aP (vw K H) (fr q) y/\p.2≠0/\q.2≠0/\Bq 1000000 p/\Bq 1000000 q/\Bt 4000000 (p.2*q.2) /\ ∀v H',aC (vw K H) (vw K H')->aP (vw K H') (fr (nA p q)) v->Q v H'
theorem Ey(F:fy K "plus" "plus" mY f fd) (T:fV K mg)(C_ratio:aZ P w K mg base "ratio" ["top", "bottom"] 2 (cY K)):bZ P w K mg base fk 3 f fd ["one", "other"] (oG K):=by
 have scN:=xO.nd;refine F.okQ xO (λvs H Q E h=>?_) (λcdv A outer s H vs Q E hr h=>?_)
 .obtain⟨_,_,_,_,rfl,_⟩:=h;rfl
 .obtain⟨x,y,p,q,rfl,hx,hy,np,nq,bp,bq,bb,h⟩:=h;refine⟨_,(aj (aB (ao C_ratio nofun rfl (aa (ar cz (ar aG (ay b9 (qv 0) af (λ_ _=>rfl)) (ay b9 (qv 1) af (λ_ _=>rfl))) (ar aG (ay b9 (qv 1) af (λ_ _=>rfl)) (ay b9 (qv 0) af (λ_ _=>rfl)))) (aa (ar aG (ay b9 (qv 0) af (λ_ _=>rfl)) (ay b9 (qv 1) af (λ_ _=>rfl))) ae))))),?_⟩
  walk_at"m";obtain⟨a,rfl,ha⟩:=hx.fr_at;obtain⟨b,rfl,hb⟩:=hy.fr_at;walk_at"vc*";simp only[cY];walk_at"vc*";exact⟨be bp.1 bq.2 ∅,be bq.1 bp.2 ∅,be bp.2 bq.2 ∅,Y9 np nq,h⟩
def mo(K:W.Frag):Sp:=λvs H Q _=>∃x y p q,vs=[x,y]/\aP (vw K H) (fr p) x/\aP (vw K H) (fr q) y/\p.2≠0/\q.2≠0/\Bq 1000000 p/\Bq 1000000 q/\Bt 4000000 (p.2*q.2) /\ ∀v H',aC (vw K H) (vw K H')->aP (vw K H') (fr (qo p q)) v->Q v H'
theorem Dl(F:fy K "times" "times" ka f fd) (T:fV K mg)(C_ratio:aZ P w K mg base "ratio" ["top", "bottom"] 2 (cY K)):bZ P w K mg base fk 3 f fd ["one", "other"] (mo K):=by
 have scN:=uD.nd;refine F.okQ uD (λvs H Q E h=>?_) (λcdv A outer s H vs Q E hr h=>?_)
 .obtain⟨_,_,_,_,rfl,_⟩:=h;rfl
 .obtain⟨x,y,p,q,rfl,hx,hy,np,nq,bp,bq,bb,h⟩:=h;refine⟨_,(aj (aB (ao C_ratio nofun rfl (aa (ar aG (ay b9 (qv 0) af (λ_ _=>rfl)) (ay b9 (qv 1) af (λ_ _=>rfl))) (aa (ar aG (ay b9 (qv 0) af (λ_ _=>rfl)) (ay b9 (qv 1) af (λ_ _=>rfl))) ae))))),?_⟩
  walk_at"m";obtain⟨a,rfl,ha⟩:=hx.fr_at;obtain⟨b,rfl,hb⟩:=hy.fr_at;walk_at"vc*";simp only[cY];walk_at"vc*";exact⟨be bp.1 bq.1 ∅,be bp.2 bq.2 ∅,Y9 np nq,h⟩
def oQ(K:W.Frag):Sp:=λvs H Q _=>∃x y p q,vs=[x,y]/\aP (vw K H) (fr p) x/\aP (vw K H) (fr q) y/\p.2≠0/\q.2≠0/\q.1≠0/\Bq 1000000 p/\Bq 1000000 q/\Bt 4000000 (p.2*q.1) /\ ∀v H',aC (vw K H) (vw K H')->aP (vw K H') (fr (tO p q)) v->Q v H'
theorem FR(F:fy K "over" "over" nH f fd) (T:fV K mg)(C_ratio:aZ P w K mg base "ratio" ["top", "bottom"] 2 (cY K)):bZ P w K mg base fk 3 f fd ["one", "other"] (oQ K):=by
 have scN:=xR.nd;refine F.okQ xR (λvs H Q E h=>?_) (λcdv A outer s H vs Q E hr h=>?_)
 .obtain⟨_,_,_,_,rfl,_⟩:=h;rfl
 .obtain⟨x,y,p,q,rfl,hx,hy,np,nq,n0,bp,bq,bb,h⟩:=h;refine⟨_,(ag (du (aO jh (ay b9 (qv 1) af (λ_ _=>rfl)) af (aV _)) (aj kZ) bK)
   (aj (aB (ao C_ratio nofun rfl (aa (ar aG (ay b9 (qv 0) af (λ_ _=>rfl)) (ay b9 (qv 1) af (λ_ _=>rfl))) (aa (ar aG (ay b9 (qv 0) af (λ_ _=>rfl)) (ay b9 (qv 1) af (λ_ _=>rfl))) ae)))))),?_⟩
  walk_at"m";obtain⟨a,rfl,ha⟩:=hx.fr_at;obtain⟨b,rfl,hb⟩:=hy.fr_at;walk_at"vc*";simp only[cY];walk_at"vc*";exact⟨be bp.1 bq.2 ∅,be bp.2 bq.1 ∅,Y9 np n0,h⟩
def gU(K:W.Frag):Sp:=λvs H Q _=>∃(a:Addr)(fs:List (Int×Int))(k:Nat),vs=[.ref a,.int k]/\aW (vw K H) a fs /\ ∀v q,aP (vw K H) (fr q) v->(k<fs.length->q∈fs)->(fs.length<=k->q=(0,1))->wv q=cf fs k->Q v H
theorem tP(F:fy K "number_of" "number_of" fH f fd) (T:fV K mg):bZ P w K mg base fk 1 f fd ["f", "place"] (gU K):=by
 have scN:=mx.nd;refine F.okQ mx (λvs H Q E h=>?_) (λcdv A outer s H vs Q E hr h=>?_)
 .obtain⟨a,_,_,rfl,_⟩:=h;rfl
 .obtain⟨a,fs,k,rfl,ha,h⟩:=h;obtain⟨z_ZERO,hg_ZERO,hv_ZERO⟩:=T.g_ZERO;refine⟨_,(aj (aB (lj (aO uK (qv 1) (aw aF (by rfl) T.b_len bV (aa (qv 0) ae)) (aV _)) (ay dL (qv 0) (qv 1) (λ_ _=>rfl)) (ku (v:=V.ref z_ZERO) rfl hg_ZERO rfl)))),?_⟩
  walk_at"m";symm
  obtain⟨xs,hxs,rxs⟩:=id ha;refine⟨_,ha.len,ee (λhk=>?_) (λhk=>?_)⟩
  .have hk':k<fs.length:=();obtain⟨x,hx,r⟩:=rxs.at (i:=k) (d:=fr fs[k]) (by rw[YA,YK hk'];rfl)
   exact⟨xs,hxs,x,cG hx,h x fs[k] r (λ_=>YJ hk') (λz=>by nofun) (bN (YK hk')).symm⟩
  .refine h _ (0,1) (bQ (hv_ZERO _)) (λz=>by nofun) (λ_=>rfl) ?_
   rw[aJ (),iA ∅]
def gf(K:W.Frag):Sp:=λvs H Q _=>∃(a:Addr)(ns:List Int)(d:Int),vs=[.ref a,.int d]/\vw K H a=some (.lst (ns.map V.int))/\ns.length<=100/\d≠0/\Bt 4000000 d /\
 ∀c H' (rs:List (Int×Int)),aC (vw K H) (vw K H')->aW (vw K H') c rs->vw K H c=none->aS rs->(∀k,cf rs k=((nz ns k:Int):Rat)/(d:Rat))->rs.length<=ns.length->(∀q∈rs,∃n∈ns,q=lo n d)->Q (.ref c) H'
theorem wP(F:fy K "divided" "divided" ii f fd) (T:fV K mg)(C_trimmed:aZ P w K mg base "trimmed" ["numbers", "zero"] 1 (de K)) (C_ratio:aZ P w K mg base "ratio" ["top", "bottom"] 2 (cY K)):bZ P w K mg base fk 3 f fd ["wholes", "bottom"] (gf K):=by
 have scN:=qA.nd;refine F.okQ qA (λvs H Q E h=>?_) (λcdv A outer s H vs Q E hr h=>?_)
 .obtain⟨a,_,_,rfl,_⟩:=h;rfl
 .obtain⟨a,ns,d,rfl,ha,ln,nd,bd,h⟩:=h;obtain⟨z_ZERO,hg_ZERO,hv_ZERO⟩:=T.g_ZERO;refine⟨_,(aj (aB (ao C_trimmed nofun rfl (aa (dS (own:=["whole"]) (outs:=["bottom"]) (ixs:=[1]) rfl (cF (qv 0)) rfl ⟨rfl,rfl,rfl,⟨rfl,trivial⟩,rfl,⟨⟨rfl,rfl,rfl,_,rfl⟩,trivial⟩⟩ (λ_ _ _ _=>⟨(au (i:=0) (show (["whole", "bottom"]:List Str).Nodup by decide +kernel) rfl (·)),ez,(ao C_ratio nofun rfl (aa (qv 0) (aa (qv 1) ae)))⟩)) (aa (ku (v:=V.ref z_ZERO) rfl hg_ZERO rfl) ae))))),?_⟩
  walk_at"m";symm
  refine⟨⟨_,.of (aH ha)⟩,λe H1 he S1 h1=>?_⟩;refine aY (its:=ns.map V.int) (λi zs H'=>aC (vw K H) (vw K H')/\aI (vw K H') (((ns.take i).map λn=>lo n d).map fr) zs)
   (λ_ _ H' _ _ p=>aT (p.1 _ _ ha)) h1 ⟨S1,.mk_nil⟩ (λi x zs H2 hi hx h2 p=>?_) (λzs H2 h2 p=>?_)
  .obtain⟨S2,rv⟩:=p;rw[YD] at hi;rw[YA,YK hi] at hx;cases hx;symm
   simp only[cY];symm
   refine⟨nd,bd.mono ∅,λv3 H3 S3 r3=>.mk (S3 _ _ h2) ?_ λH4 B4 h4=>⟨λb o e'=>B4 _ _ (ak e' he) (S3 _ _ (S2 _ _ e')),?_⟩⟩
   .rw[rv.length,YD,YD,Yw];have:1000<=sizeLine:=∅;nofun
   .rw[XU,YK hi,XT,XT];exact (aI.flat_but (S3 _ _ h2) B4 _ _ (iW _) (rv.same S3)).snoc (aP.flat_but (S3 _ _ h2) B4 _ _ (eN _) r3)
  .obtain⟨S2,rv⟩:=p;rw[YD,XV] at rv;symm
   simp only[de];refine .inl ?_;symm
   refine⟨_,⟨zs,h2,rv⟩,hv_ZERO _,λq hq=>?_,λc H3 rs S3 l3 n3 p3 c3 e3 m3=>h c H3 rs (S2.trans S3) l3 ?_ p3 (λk=>?_) ?_ λq hq=>?_⟩
   .obtain⟨n,_,rfl⟩:=List.mem_map.mp hq;exact iP nd
   .cases e':vw K H c with
    | none=>rfl
    | some o=>rw[S2 _ _ e'] at n3;cases n3
   .rw[c3 k];by_cases hk:k<ns.length
    .rw[aX (YK hk),bN (q:=lo ns[k] d) (by rw[YA,YK hk];rfl)]
     exact gS nd
    .rw[aJ (by rw[YD];nofun),aL ()]
     show 0=((0:Int):Rat)/(d:Rat);grind
   .rw[YD] at e3;exact e3
   .obtain⟨n,h1,h2⟩:=List.mem_map.mp (m3 q hq);exact⟨n,h1,h2.symm⟩
def cX(K:W.Frag):Sp:=λvs H Q _=>∃(a b:Addr)(ms ns:List Int)(m n:Nat),vs=[.ref a,.ref b]/\vw K H a=some (.lst (ms.map V.int))/\vw K H b=some (.lst (ns.map V.int))/\ms.length<=40/\ns.length<=40/\m<=40000000/\n<=40000000/\(∀x∈ms,Bt m x)/\(∀x∈ns,Bt n x) /\
 ∀c H' L,aC (vw K H) (vw K H')->vw K H' c=some (.lst ((lz L (pz (nz ms) (nz ns) ms.length)).map V.int))->vw K H c=none->L<=ms.length+ns.length->(ms≠[]->ns≠[]->L+1=ms.length+ns.length)->(∀k,L<=k->pz (nz ms) (nz ns) ms.length k=0)->Q (.ref c) H'
theorem jv(F:fy K "wholes_multiplied" "wholes_multiplied" cp f fd) (T:fV K mg):bZ P w K mg base fk 1 f fd ["one", "other"] (cX K):=by
 have scN:=gG.nd;refine F.okQ gG (λvs H Q E h=>?_) (λcdv A outer s H vs Q E hr h=>?_)
 .obtain⟨a,_,_,_,_,_,rfl,_⟩:=h;rfl
 .obtain⟨a,b,ms,ns,m,n,rfl,ha,hb,lm,ln,hm,hn,bm,bn,h⟩:=h;refine⟨_,(ag (du (QW.pt (u5 (jS (gC (qv 0) (λ_=>rfl))) (oY (jS (gC (qv 1) (λ_=>rfl)))))) (aj (aB (bY ae))) bK)
   (ag (av (i:=2) scN rfl (·) (ar aG (bY (aa af ae)) (ar cx (ar cz (aw aF (by rfl) T.b_len bV (aa (qv 0) ae)) (aw aF (by rfl) T.b_len bV (aa (qv 1) ae))) af)))
   (ag (cZ PassesOwn.never rfl (yr rfl T.b_enumerate (aa (qv 0) ae)) (cI (n:=2) rfl (aD (au (i:=3) scN rfl (·)) (aD (au (i:=4) scN rfl (·)) cK))) (aj (cZ PassesOwn.never rfl (yr rfl T.b_enumerate (aa (qv 1) ae)) (cI (n:=2) rfl (aD (au (i:=5) scN rfl (·)) (aD (au (i:=6) scN rfl (·)) cK))) (aj (ze (qv 2) (ar cz (qv 3) (qv 5)) rP (ar aG (qv 4) (qv 6)) Ca gn)))))
   (aj (aB (qv 2)))))),?_⟩
  walk_at"m";symm
  have lena:fS (vw K H) a=some ms.length:=by simp only[fS,ha,YD]
  have lenb:fS (vw K H) b=some ns.length:=by simp only[fS,hb,YD]
  refine⟨_,i4 ha,ee (λe=>?_) λe=>?_⟩
  .have e2:ms=[]:=by simpa using e
   subst e2;exact⟨∅,λc H2 hc S2 h2=>h c H2 0 S2 h2 hc (by simp) (λz=>absurd rfl z) λk _=>rfl⟩
  refine⟨_,i4 hb,ee (λe'=>?_) λe'=>?_⟩
  .have e2:ns=[]:=by simpa using e'
   subst e2;refine⟨∅,λc H2 hc S2 h2=>h c H2 0 S2 h2 hc (by simp) (λ_ z=>absurd rfl z) λk _=>?_⟩
   have z:∀j,pz (nz ms) (nz []) j k=0:=λj=>by
    induction j with
    | zero=>rfl
    | succ j ih =>
     show pz (nz ms) (nz []) j k+(if j<=k then nz ms j*nz [] (k-j) else 0)=0
     rw[ih,aL (ns:=[]) (by simp)]
     simp
   exact z _
  have em:0<ms.length:=by
   cases ms with
   | nil=>exact absurd rfl e
   | cons _ _=>simp
  have en:0<ns.length:=by
   cases ns with
   | nil=>exact absurd rfl e'
   | cons _ _=>simp
  refine⟨∅,λp1 H1 hp1 S1 h1=>⟨ms.length,(by simp only[fS,S1 _ _ ha,YD]),ns.length,(by simp only[fS,S1 _ _ hb,YD]),?_⟩⟩
  obtain⟨L,hL⟩ : ∃L,ms.length+ns.length=L+1:=⟨ms.length+ns.length-1,()⟩;rw[show (ms.length:Int)+(ns.length:Int)-1=((L:Nat):Int) by nofun,jt]
  refine⟨_,h1,(),(),?_,λc H2 hc S2 h2=>?_⟩
  .have:1000<=sizeLine:=∅;simp;nofun
  rw[show ((L:Nat):Int).toNat=L by nofun,Hz] at h2
  have S02:=S1.trans S2;have nc:vw K H c=none:=by
   cases e0:vw K H c with
   | none=>rfl
   | some o=>rw[S1 _ _ e0] at hc;cases hc
  simp only[xI];symm
  refine⟨⟨_,S02 _ _ ha⟩,?_⟩;obtain⟨Pv,hPv⟩ : ∃Pv:Nat->St->Hp->Prop,∀j σ H',Pv j σ H' ↔ ∃o3 o4 o5 o6,σ=[some (.ref a),some (.ref b),some (.ref c),o3,o4,o5,o6]/\aC (vw K H) (vw K H')/\vw K H' c=some (.lst (lz L λk=>V.int (pz (nz ms) (nz ns) j k))):=⟨_,λ_ _ _=>XJ⟩;refine vy (rows:=(ms.map V.int).mapIdx λi x=>[V.int i,x]) Pv (λj σ H' _ p=>?_) ((hPv _ _ _).mpr ⟨_,_,_,_,rfl,S02,h2⟩) (λj t σ H3 p H4 hj ht pv hp S4 h4=>?_) (λσ H3 pv=>?_)
  .obtain⟨_,_,_,_,_,S,_⟩:=(hPv _ _ _).mp p;exact⟨_,aH (S _ _ ha),rfl⟩
  .obtain⟨o3,o4,o5,o6,rfl,S3,h3⟩:=(hPv _ _ _).mp pv;rw[List.length_mapIdx,YD] at hj;rw[List.getElem?_mapIdx,YA,YK hj] at ht;cases ht;symm
   refine⟨_,h4,rfl,?_⟩;symm
   have S04:=S3.trans S4;simp only[xI];symm
   refine⟨⟨_,S04 _ _ hb⟩,?_⟩;obtain⟨Pw,hPw⟩ : ∃Pw:Nat->St->Hp->Prop,∀l σ H',Pw l σ H' ↔ ∃o5 o6,σ=[some (.ref a),some (.ref b),some (.ref c),some (.int j),some (.int ms[j]),o5,o6]/\aC (vw K H) (vw K H')/\vw K H' c=some (.lst (lz L λk=>V.int (qz (nz ms) (nz ns) j l k))):=⟨_,λ_ _ _=>XJ⟩;refine vy (rows:=(ns.map V.int).mapIdx λi x=>[V.int i,x]) Pw (λl σ H' _ p=>?_) ((hPw _ _ _).mpr ⟨_,_,rfl,S04,?_⟩) (λl t σ H5 p5 H6 hl ht pw hp5 S6 h6=>?_) (λσ H5 pw=>?_)
   .obtain⟨_,_,_,S,_⟩:=(hPw _ _ _).mp p;exact⟨_,aH (S _ _ hb),rfl⟩
   .rw[S4 _ _ h3];congr 2
    exact qD λk _=>by rw[LC]
   .obtain⟨o5,o6,rfl,S5,h5⟩:=(hPw _ _ _).mp pw;rw[List.length_mapIdx,YD] at hl;rw[List.getElem?_mapIdx,YA,YK hl] at ht;cases ht;symm
    refine⟨_,h6,rfl,?_⟩;symm
    simp only[xK,K9];symm
    have hx:=S6 _ _ h5;have b1:=bm ms[j] (YJ hj);have b2:=bn ns[l] (YJ hl);rw[show (j:Int)+(l:Int)=((j+l:Nat):Int) by nofun]
    have hjl:j+l<L:=();refine⟨_,hx,_,cG (kR hjl),be b1 b2 (),_,rfl,_,hx,j+l,by rw[fi];exact lY hjl,λH7 B7 h7=>(hPw _ _ _).mpr ⟨_,_,rfl,?_,?_⟩⟩
    .exact λx o e0=>B7 _ _ (ak e0 nc) (S6 _ _ (S5 _ _ e0))
    .rw[h7,Ii];congr 2
     refine qD λk hk=>?_;rw[KL,aX (YK hj),aX (YK hl)];split<;>rfl
   .obtain⟨o5,o6,rfl,S5,h5⟩:=(hPw _ _ _).mp pw;refine (hPv _ _ _).mpr ⟨_,_,_,_,rfl,S5,?_⟩;rw[h5,List.length_mapIdx,YD];congr 2
    refine qD λk hk=>?_;rw[HM λi hi=>aL hi]
  .obtain⟨o3,o4,o5,o6,rfl,S3,h3⟩:=(hPv _ _ _).mp pv;rw[List.length_mapIdx,YD] at h3;symm
   refine h c H3 L S3 (by rw[h3,JG]) nc () (λ_ _=>by nofun) λk hk=>?_
   have e1:=lH (f:=nz ms) (g:=nz ns) (F:=λi=>(nz ms i:Rat)) (G:=λi=>(nz ns i:Rat)) (c:=1) (d:=1) (λi=>by grind) (λi=>by grind) ms.length k
   rw[gy (n:=ns.length) (λi hi=>by rw[aL hi];rfl) ms.length k ()] at e1
   have e2:((pz (nz ms) (nz ns) ms.length k:Int):Rat)=((0:Int):Rat):=by rw[e1];grind
   exact Rat.intCast_inj.mp e2
def gx(K:W.Frag):Sp:=λvs H Q _=>∃(a b:Addr)(fs gs:List (Int×Int))(B:Nat),vs=[.ref a,.ref b]/\aW (vw K H) a fs/\aW (vw K H) b gs/\fs.length<=14/\gs.length<=14/\B<=20000/\fs.length*B+gs.length*B<=900000/\(∀q∈fs,Fq q/\Bq B q)/\(∀q∈gs,Fq q/\Bq B q) /\
 ∀c H' (rs:List (Int×Int)),aC (vw K H) (vw K H')->aW (vw K H') c rs->vw K H c=none->aS rs->(∀k,cf rs k=pr (cf fs) (cf gs) fs.length k)->rs.length<=fs.length+gs.length->(∀q∈rs,Bq (2+fs.length*B+gs.length*B+B+B+fs.length) q)->Q (.ref c) H'
theorem qR(F:fy K "multiplied" "multiplied" eD f fd) (T:fV K mg)(C_cleared:aZ P w K mg base "cleared" ["f"] 2 (cP K)) (C_divided:aZ P w K mg base "divided" ["wholes", "bottom"] 3 (gf K)) (C_wholes_multiplied:aZ P w K mg base "wholes_multiplied" ["one", "other"] 1 (cX K)):bZ P w K mg base fk 4 f fd ["f", "g"] (gx K):=by
 have scN:=kJ.nd;refine F.okQ kJ (λvs H Q E h=>?_) (λcdv A outer s H vs Q E hr h=>?_)
 .obtain⟨a,_,_,_,_,rfl,_⟩:=h;rfl
 .obtain⟨a,b,fs,gs,B,rfl,ha,hb,lf,lg',hB,hBB,hf,hg,h⟩:=h;refine⟨_,(ag (ei (ao C_cleared nofun rfl (aa (qv 0) ae)) (cI (n:=2) rfl (aD (au (i:=2) scN rfl (·)) (aD (au (i:=3) scN rfl (·)) cK))))
   (ag (ei (ao C_cleared nofun rfl (aa (qv 1) ae)) (cI (n:=2) rfl (aD (au (i:=4) scN rfl (·)) (aD (au (i:=5) scN rfl (·)) cK))))
   (aj (aB (ao C_divided nofun rfl (aa (ao C_wholes_multiplied nofun rfl (aa (qv 2) (aa (qv 4) ae))) (aa (ar aG (qv 3) (qv 5)) ae))))))),?_⟩
  walk_at"m";symm
  simp only[cP];symm
  refine⟨fs,ha,lf,B,Yg hB ∅,hf,λp1 a1 H1 D1 ms S1 h1 ha1 _ hD1 bD1 lm hm _=>⟨_,h1,rfl,?_⟩⟩;symm
  refine⟨gs,hb.same S1,lg',B,Yg hB ∅,hg,λp2 b1 H2 D2 ns S2 h2 hb1 _ hD2 bD2 ln hn _=>⟨_,h2,rfl,?_⟩⟩;symm
  simp only[cX];symm
  have bm:∀x∈ms,Bt (1+fs.length*B+B) x:=λx hx=>by
   obtain⟨i,hi⟩:=List.mem_iff_getElem?.mp hx;have hil:=(List.getElem?_eq_some_iff.mp hi).1;exact (hm i x _ hi (YK (show i<fs.length by nofun))).2
  have bn:∀x∈ns,Bt (1+gs.length*B+B) x:=λx hx=>by
   obtain⟨i,hi⟩:=List.mem_iff_getElem?.mp hx;have hil:=(List.getElem?_eq_some_iff.mp hi).1;exact (hn i x _ hi (YK (show i<gs.length by nofun))).2
  refine⟨ms,S2 _ _ ha1,ns,hb1,(),(),1+fs.length*B+B,(),1+gs.length*B+B,(),bm,bn,λc3 H3 L S3 h3 _ hL _ zL=>?_⟩;symm
  refine⟨be bD1 bD2 (),?_⟩;simp only[gf];symm
  have nz1:D1*D2≠0:=Y9 () ();have bz:=GO (ml bm) (ml bn) ms.length;refine⟨_,h3,by rw[fi];nofun,nz1,(bD1.mul bD2).mono (),λc4 H4 rs S4 l4 n4 p4 c4' e4 q4=>h c4 H4 rs (S1.trans (S2.trans (S3.trans S4))) l4 ?_ p4 (λk=>?_) (by rw[fi] at e4;nofun) λq hq=>?_⟩
  .cases e:vw K H c4 with
   | none=>rfl
   | some o=>rw[S3 _ _ (S2 _ _ (S1 _ _ e))] at n4;cases n4
  .rw[c4' k];have e1:nz (lz L (pz (nz ms) (nz ns) ms.length)) k=pz (nz ms) (nz ns) ms.length k:=by
    by_cases hk:k<L
    .exact Cy hk
    .rw[zL k (),aL (by rw[fi];nofun)]
   rw[e1,lH (jC lm λi n q e1 e2=>(hm i n q e1 e2).1) (jC ln λi n q e1 e2=>(hn i n q e1 e2).1),Xb,lm];have c1:=aq (show D1≠0 by nofun)
   have c2:=aq (show D2≠0 by nofun)
   grind
  .obtain⟨n,hn',rfl⟩:=q4 q hq;obtain⟨k,hk,rfl⟩:=List.mem_map.mp hn';exact lM nz1 ((bz k).mono ()) ((bD1.mul bD2).mono ())
def me(K:W.Frag):Sp:=λvs H Q _=>∃(a:Addr)(y:V)(fs:List (Int×Int))(c:Int×Int),vs=[.ref a,y]/\aW (vw K H) a fs/\aP (vw K H) (fr c) y/\fs.length<=40/\(∀q∈fs,Fq q/\Bq 100000 q)/\Fq c/\Bq 100000 c /\
 ∀d H' (rs:List (Int×Int)),aC (vw K H) (vw K H')->aW (vw K H') d rs->vw K H d=none->aS rs->(∀k,cf rs k=cf fs k*wv c)->rs.length<=fs.length->Q (.ref d) H'
theorem Cg(F:fy K "grown" "grown" kh f fd) (T:fV K mg)(C_trimmed:aZ P w K mg base "trimmed" ["numbers", "zero"] 1 (de K)) (C_times:aZ P w K mg base "times" ["one", "other"] 3 (mo K)):bZ P w K mg base fk 4 f fd ["f", "by"] (me K):=by
 have scN:=uy.nd;refine F.okQ uy (λvs H Q E h=>?_) (λcdv A outer s H vs Q E hr h=>?_)
 .obtain⟨a,_,_,_,rfl,_⟩:=h;rfl
 .obtain⟨a,y,fs,c,rfl,ha,hy,lf,hf,fc,bc,h⟩:=h;obtain⟨z_ZERO,hg_ZERO,hv_ZERO⟩:=T.g_ZERO;refine⟨_,(aj (aB (ao C_trimmed nofun rfl (aa (dS (own:=["number"]) (outs:=["by"]) (ixs:=[1]) rfl (cF (qv 0)) rfl ⟨rfl,rfl,rfl,⟨rfl,trivial⟩,rfl,⟨⟨rfl,rfl,rfl,_,rfl⟩,trivial⟩⟩ (λ_ _ _ _=>⟨(au (i:=0) (show (["number", "by"]:List Str).Nodup by decide +kernel) rfl (·)),ez,(ao C_times nofun rfl (aa (qv 0) (aa (qv 1) ae)))⟩)) (aa (ku (v:=V.ref z_ZERO) rfl hg_ZERO rfl) ae))))),?_⟩
  walk_at"m";symm
  obtain⟨xs,hxs,rxs⟩:=id ha;have hlx:xs.length=fs.length:=by rw[rxs.length,YD]
  refine⟨⟨xs,.of (aH hxs)⟩,λd H1 hd S1 h1=>?_⟩;refine aY (its:=xs) (λi zs H'=>aC (vw K H) (vw K H') /\ ∃vs:List (Int×Int),vs.length=i/\aI (vw K H') (vs.map fr) zs/\(∀q∈vs,Fq q) /\ ∀(j:Nat)(q:Int×Int),vs[j]? = some q->wv q=cf fs j*wv c)
   (λ_ _ H' _ _ p=>aT (p.1 _ _ hxs)) h1 ⟨S1,[],rfl,.mk_nil,by simp,by simp⟩ (λi x zs H2 hi hx h2 p=>?_) (λzs H2 h2 p=>?_)
  .obtain⟨S2,vs,lv,rv,fv,hv⟩:=p;have hi':i<fs.length:=();obtain⟨dd,e1,r1⟩:=rxs.get hx;rw[YA,YK hi'] at e1;cases e1;obtain⟨k1,k2⟩:=hf fs[i] (YJ hi');symm
   simp only[mo];symm
   refine⟨_,aP.same S2 _ _ r1,c,aP.same S2 _ _ hy,k1.ne,fc.ne,k2.mono ∅,bc.mono ∅,(k2.2.mul bc.2).mono ∅,λv3 H3 S3 r3=>.mk (S3 _ _ h2) ?_ λH4 B4 h4=>⟨λb o e=>B4 _ _ (ak e hd) (S3 _ _ (S2 _ _ e)),vs++[qo fs[i] c],by simp[lv],?_,λq hq=>?_,λj q e=>?_⟩⟩
   .rw[rv.length,YD,lv];have:1000<=sizeLine:=∅;nofun
   .rw[XT];exact (aI.flat_but (S3 _ _ h2) B4 _ _ (iW vs) (rv.same S3)).snoc (aP.flat_but (S3 _ _ h2) B4 _ _ (eN _) r3)
   .rcases List.mem_append.mp hq with z|z
    .exact fv q z
    .cases XY.mp z;exact oN k1 fc
   .by_cases hj:j<vs.length
    .rw[Yz hj] at e;exact hv j q e
    .have hj2:j=i:=by
      have:=(List.getElem?_eq_some_iff.mp e).1;simp at this;nofun
     subst hj2;rw[Yy (),lv,Xj] at e;cases e;rw[sG k1.ne fc.ne,bN (YK hi')]
  .obtain⟨S2,vs,lv,rv,fv,hv⟩:=p;symm
   simp only[de];refine .inl ?_;symm
   refine⟨vs,⟨zs,h2,rv⟩,hv_ZERO _,fv,λe H3 rs S3 l3 n3 p3 c3 e3 _=>h e H3 rs (S2.trans S3) l3 ?_ p3 (λk=>?_) ()⟩
   .cases e':vw K H e with
    | none=>rfl
    | some o=>rw[S2 _ _ e'] at n3;cases n3
   .rw[c3 k];by_cases hk:k<vs.length
    .rw[bN (YK hk)];exact hv k _ (YK hk)
    .rw[aJ (),aJ (qs:=fs) ()];grind
def jW(K:W.Frag):Sp:=λvs H Q _=>∃(a b:Addr)(fs gs:List (Int×Int)),vs=[.ref a,.ref b]/\aW (vw K H) a fs/\aW (vw K H) b gs/\fs.length<=40/\gs.length<=40/\(∀q∈fs,Fq q/\Bq 100000 q)/\(∀q∈gs,Fq q/\Bq 100000 q) /\
 ∀c H' (rs:List (Int×Int)),aC (vw K H) (vw K H')->aW (vw K H') c rs->vw K H c=none->aS rs->(∀k,cf rs k=cf fs k+cf gs k)->rs.length<=max fs.length gs.length->Q (.ref c) H'
theorem Af(F:fy K "summed" "summed" iV f fd) (T:fV K mg)(C_trimmed:aZ P w K mg base "trimmed" ["numbers", "zero"] 1 (de K)) (C_plus:aZ P w K mg base "plus" ["one", "other"] 3 (oG K)) (C_number_of:aZ P w K mg base "number_of" ["f", "place"] 1 (gU K)):bZ P w K mg base fk 4 f fd ["f", "g"] (jW K):=by
 have scN:=rS.nd;refine F.okQ rS (λvs H Q E h=>?_) (λcdv A outer s H vs Q E hr h=>?_)
 .obtain⟨a,_,_,_,rfl,_⟩:=h;rfl
 .obtain⟨a,b,fs,gs,rfl,ha,hb,lf,lg',hf,hg,h⟩:=h;obtain⟨z_ZERO,hg_ZERO,hv_ZERO⟩:=T.g_ZERO;refine⟨_,(ag (av (i:=2) scN rfl (·) (aw (iT rfl) (by rfl) T.b_max pV (aa (aw aF (by rfl) T.b_len bV (aa (qv 0) ae)) (aa (aw aF (by rfl) T.b_len bV (aa (qv 1) ae)) ae))))
   (aj (aB (ao C_trimmed nofun rfl (aa (dS (own:=["k"]) (outs:=["f", "g"]) (ixs:=[0,1]) rfl (cL rfl T.b_range (aa (qv 2) ae)) rfl ⟨rfl,rfl,rfl,⟨rfl,⟨rfl,trivial⟩⟩,rfl,⟨⟨rfl,rfl,rfl,_,rfl⟩,⟨⟨rfl,rfl,rfl,_,rfl⟩,trivial⟩⟩⟩ (λ_ _ _ _=>⟨(au (i:=0) (show (["k", "f", "g"]:List Str).Nodup by decide +kernel) rfl (·)),ez,(ao C_plus nofun rfl (aa (ao C_number_of nofun rfl (aa (qv 1) (aa (qv 0) ae))) (aa (ao C_number_of nofun rfl (aa (qv 2) (aa (qv 0) ae))) ae)))⟩)) (aa (ku (v:=V.ref z_ZERO) rfl hg_ZERO rfl) ae)))))),?_⟩
  walk_at"m";symm
  refine⟨_,ha.len,_,hb.len,?_⟩;obtain⟨n,hn,hnm⟩ : ∃n:Nat,(if (gs.length:Int) > (fs.length:Int) then (gs.length:Int) else (fs.length:Int))=(n:Int)/\n=max fs.length gs.length:=by
   refine⟨max fs.length gs.length,?_,rfl⟩;split<;>nofun
  rw[hn];refine⟨(),(),λc H1 hc S1 h1=>?_⟩;refine aY (its:=eX 0 (Int.toNat n)) (λi zs H'=>aC (vw K H) (vw K H') /\ ∃vs:List (Int×Int),vs.length=i/\aI (vw K H') (vs.map fr) zs/\(∀q∈vs,Fq q) /\ ∀(j:Nat)(q:Int×Int),vs[j]? = some q->wv q=cf fs j+cf gs j)
   (λ_ _ _ _ _ _=>bH) h1 ⟨S1,[],rfl,.mk_nil,by simp,by simp⟩ (λi x zs H2 hi hx h2 p=>?_) (λzs H2 h2 p=>?_)
  .obtain⟨S2,vs,lv,rv,fv,hv⟩:=p;obtain⟨hi',rfl⟩:=dP hx;rw[XS];symm
   simp only[gU];symm
   refine⟨fs,i,rfl,ha.same S2,λv1 q1 r1 m1 z1 w1=>?_⟩;refine⟨gs,i,rfl,hb.same S2,λv2 q2 r2 m2 z2 w2=>?_⟩;have k1:Fq q1/\Bq 100000 q1:=by
    by_cases hl:i<fs.length
    .exact hf q1 (m1 hl)
    .rw[z1 ()];exact⟨⟨∅,∅⟩,Bq.mono (m:=10) (q:=(0,1)) ⟨∅,∅⟩ ∅⟩
   have k2:Fq q2/\Bq 100000 q2:=by
    by_cases hl:i<gs.length
    .exact hg q2 (m2 hl)
    .rw[z2 ()];exact⟨⟨∅,∅⟩,Bq.mono (m:=10) (q:=(0,1)) ⟨∅,∅⟩ ∅⟩
   simp only[oG];symm
   refine⟨q1,r1,q2,r2,k1.1.ne,k2.1.ne,k1.2.mono ∅,k2.2.mono ∅,(k1.2.2.mul k2.2.2).mono ∅,λv3 H3 S3 r3=>.mk (S3 _ _ h2) ?_ λH4 B4 h4=>⟨λb o e=>B4 _ _ (ak e hc) (S3 _ _ (S2 _ _ e)),vs++[nA q1 q2],by simp[lv],?_,λq hq=>?_,λj q e=>?_⟩⟩
   .rw[rv.length,YD,lv];have:1000<=sizeLine:=∅;nofun
   .rw[XT];exact (aI.flat_but (S3 _ _ h2) B4 _ _ (iW vs) (rv.same S3)).snoc (aP.flat_but (S3 _ _ h2) B4 _ _ (eN _) r3)
   .rcases List.mem_append.mp hq with z|z
    .exact fv q z
    .cases XY.mp z;exact oU k1.1 k2.1
   .by_cases hj:j<vs.length
    .rw[Yz hj] at e;exact hv j q e
    .have hj2:j=i:=by
      have:=(List.getElem?_eq_some_iff.mp e).1;simp at this;nofun
     subst hj2;rw[Yy (),lv,Xj] at e;cases e;rw[tN k1.1.ne k2.1.ne,w1,w2]
  .obtain⟨S2,vs,lv,rv,fv,hv⟩:=p;rw[dk] at lv;symm
   simp only[de];refine .inl ?_;symm
   refine⟨vs,⟨zs,h2,rv⟩,hv_ZERO _,fv,λd H3 rs S3 l3 n3 p3 c3 e3 _=>h d H3 rs (S2.trans S3) l3 ?_ p3 (λk=>?_) ()⟩
   .cases e:vw K H d with
    | none=>rfl
    | some o=>rw[S2 _ _ e] at n3;cases n3
   .rw[c3 k];by_cases hk:k<vs.length
    .rw[bN (YK hk)];exact hv k _ (YK hk)
    .rw[aJ (),aJ (qs:=fs) (),aJ (qs:=gs) ()];grind
def eK(K:W.Frag):Sp:=λvs H Q _=>∃(a:Addr)(y:V)(fs:List (Int×Int))(c:Int×Int),vs=[.ref a,y]/\aW (vw K H) a fs/\aP (vw K H) (fr c) y/\fs.length<=8/\(∀q∈fs,Fq q/\Bq 20000 q)/\Fq c/\Bq 400 c /\
 ∀v H' q,aC (vw K H) (vw K H')->aP (vw K H') (fr q) v->Fq q->wv q=JZ fs (wv c)->Q v H'
theorem sT(F:fy K "number_at" "number_at" fF f fd) (T:fV K mg)(C_cleared:aZ P w K mg base "cleared" ["f"] 2 (cP K)) (C_wholes_at:aZ P w K mg base "wholes_at" ["wholes", "top", "bottom"] 1 (eT K)) (C_ratio:aZ P w K mg base "ratio" ["top", "bottom"] 2 (cY K)):bZ P w K mg base fk 3 f fd ["f", "x"] (eK K):=by
 have scN:=lV.nd;refine F.okQ lV (λvs H Q E h=>?_) (λcdv A outer s H vs Q E hr h=>?_)
 .obtain⟨a,_,_,_,rfl,_⟩:=h;rfl
 .obtain⟨a,y,fs,c,rfl,ha,hy,lf,hf,fc,bc,h⟩:=h;refine⟨_,(ag (ei (ao C_cleared nofun rfl (aa (qv 0) ae)) (cI (n:=2) rfl (aD (au (i:=2) scN rfl (·)) (aD (au (i:=3) scN rfl (·)) cK))))
   (ag (ei (ao C_wholes_at nofun rfl (aa (qv 2) (aa (ay b9 (qv 1) af (λ_ _=>rfl)) (aa (ay b9 (qv 1) af (λ_ _=>rfl)) ae)))) (cI (n:=2) rfl (aD (au (i:=4) scN rfl (·)) (aD (au (i:=5) scN rfl (·)) cK))))
   (aj (aB (ao C_ratio nofun rfl (aa (qv 4) (aa (ar aG (qv 3) (qv 5)) ae))))))),?_⟩
  walk_at"m";obtain⟨z,rfl,hz⟩:=hy.fr_at;symm
  simp only[cP];symm
  refine⟨fs,ha,(),20000,∅,hf,λp1 b1 H1 D ns S1 h1 hb1 _ hD bD ln hn _=>⟨_,h1,rfl,_,_,rfl,_,_,rfl,rfl,_,S1 _ _ hz,_,gE,_,S1 _ _ hz,_,jT,?_⟩⟩;simp only[eT];symm
  refine⟨ns,hb1,(),180001,∅,400,∅,λn hn'=>?_,fc.ne,bc.1,bc.2,λp2 H2 u s S2 h2 s0 sp hv bs bu=>⟨_,h2,rfl,_,_,rfl,_,_,rfl,rfl,?_⟩⟩
  .obtain⟨i,hi⟩:=List.mem_iff_getElem?.mp hn';have hil:=(List.getElem?_eq_some_iff.mp hi).1;exact (hn i n _ hi (YK (show i<fs.length by nofun))).2.mono ()
  symm
  refine⟨be bD bs (),?_⟩;simp only[cY];symm
  have hD0:D≠0:=();have nz:D*s≠0:=Y9 hD0 s0;refine⟨nz,(bD.mul bs).mono (),λv H3 S3 r3=>h v H3 _ (S1.trans (S2.trans S3)) r3 (iP nz) ?_⟩;have ec:=vb (D:=(D:Rat)) (x:=(c.1:Rat)/(c.2:Rat)) ln λi n q e1 e2=>(hn i n q e1 e2).1;rw[ec] at hv;have c1:=aq hD0;have c2:=aq s0;rw[gS nz,Xb];show _=JZ fs ((c.1:Rat)/(c.2:Rat));grind
def j8(K:W.Frag):Sp:=λvs H Q _=>∃(a b:Addr)(fs gs:List (Int×Int)),vs=[.ref a,.ref b]/\aW (vw K H) a fs/\aW (vw K H) b gs/\aS gs/\gs≠[]/\fs.length<=9/\gs.length<=9/\(∀q∈fs,Fq q/\Bq 200 q)/\(∀q∈gs,Fq q/\Bq 20 q) /\
 ∀(p c d:Addr)(H':Hp)(qs rs:List (Int×Int)),aC (vw K H) (vw K H')->vw K H' p=some (.tup [.ref c,.ref d])->aW (vw K H') c qs->aW (vw K H') d rs->aS qs->aS rs->rs.length<gs.length->(∀k,cf fs k=pr (cf qs) (cf gs) qs.length k+cf rs k)->qs.length<=fs.length+1-gs.length->Q (.ref p) H'
theorem zO(F:fy K "parted" "parted" iS f fd) (T:fV K mg)(C_cleared:aZ P w K mg base "cleared" ["f"] 2 (cP K)) (C_wholes_parted:aZ P w K mg base "wholes_parted" ["one", "other"] 2 (cm K)) (C_divided:aZ P w K mg base "divided" ["wholes", "bottom"] 3 (gf K)):bZ P w K mg base fk 4 f fd ["f", "g"] (j8 K):=by
 have scN:=rK.nd;refine F.okQ rK (λvs H Q E h=>?_) (λcdv A outer s H vs Q E hr h=>?_)
 .obtain⟨a,_,_,_,rfl,_⟩:=h;rfl
 .obtain⟨a,b,fs,gs,rfl,ha,hb,pg,g0,lf,lg',hf,hg,h⟩:=h;refine⟨_,(ag (du (jS (gC (qv 1) (λ_=>rfl))) (aj kZ) bK)
   (ag (ei (ao C_cleared nofun rfl (aa (qv 0) ae)) (cI (n:=2) rfl (aD (au (i:=2) scN rfl (·)) (aD (au (i:=3) scN rfl (·)) cK))))
   (ag (ei (ao C_cleared nofun rfl (aa (qv 1) ae)) (cI (n:=2) rfl (aD (au (i:=4) scN rfl (·)) (aD (au (i:=5) scN rfl (·)) cK))))
   (ag (ei (ao C_wholes_parted nofun rfl (aa (qv 2) (aa (qv 4) ae))) (cI (n:=3) rfl (aD (au (i:=6) scN rfl (·)) (aD (au (i:=7) scN rfl (·)) (aD (au (i:=8) scN rfl (·)) cK)))))
   (ag (av (i:=9) scN rfl (·) (ar aG (qv 8) (qv 3)))
   (aj (aB (aN (aa (ao C_divided nofun rfl (aa (dS (own:=["whole"]) (outs:=["g_bottom"]) (ixs:=[5]) rfl (cF (qv 6)) rfl ⟨rfl,rfl,rfl,⟨rfl,trivial⟩,rfl,⟨⟨rfl,rfl,rfl,_,rfl⟩,trivial⟩⟩ (λ_ _ _ _=>⟨(au (i:=0) (show (["whole", "g_bottom"]:List Str).Nodup by decide +kernel) rfl (·)),ez,(ar (show gh _ _ (jp K) from aG) (qv 0) (qv 1))⟩)) (aa (qv 9) ae))) (aa (ao C_divided nofun rfl (aa (qv 7) (aa (qv 9) ae))) ae)))))))))),?_⟩
  walk_at"m";skip
  have lg0:0<gs.length:=List.length_pos_iff.mpr g0;obtain⟨ys,hys,rys⟩:=id hb;have hly:ys.length=gs.length:=by rw[rys.length,YD]
  refine aU.gen λN1 hN1=>?_;symm
  refine⟨_,i4 hys,?_⟩;have hye:ys.isEmpty=false:=by
   cases ys with
   | nil=>simp at hly;nofun
   | cons y ys=>rfl
  rw[hye];symm
  refine hN1 _ _ ?_;refine aU.gen λN2 hN2=>?_;symm
  simp only[cP];symm
  refine⟨fs,ha,(),200,∅,hf,λp1 a1 H1 D1 ms S1 h1 ha1 _ hD1 bD1 lm hm _=>⟨_,h1,rfl,?_⟩⟩;symm
  refine hN2 _ _ ?_;refine aU.gen λN3 hN3=>?_;symm
  simp only[cP];symm
  refine⟨gs,hb.same S1,(),20,∅,hg,λp2 b1 H2 D2 ns S2 h2 hb1 _ hD2 bD2 ln hn _=>⟨_,h2,rfl,?_⟩⟩;symm
  refine hN3 _ _ ?_;refine aU.gen λN4 hN4=>?_;symm
  simp only[cm];have bm:∀x∈ms,Bt (1+fs.length*200+200) x:=λx hx=>by
   obtain⟨i,hi⟩:=List.mem_iff_getElem?.mp hx;have hil:=(List.getElem?_eq_some_iff.mp hi).1;exact (hm i x _ hi (YK (show i<fs.length by nofun))).2
  have bn:∀x∈ns,Bt (1+gs.length*20+20) x:=λx hx=>by
   obtain⟨i,hi⟩:=List.mem_iff_getElem?.mp hx;have hil:=(List.getElem?_eq_some_iff.mp hi).1;exact (hn i x _ hi (YK (show i<gs.length by nofun))).2
  have em:∀k,((nz ms k:Int):Rat)=cf fs k*(D1:Rat):=jC lm λi n q e1 e2=>(hm i n q e1 e2).1;have en:∀k,((nz ns k:Int):Rat)=cf gs k*(D2:Rat):=jC ln λi n q e1 e2=>(hn i n q e1 e2).1;have hgl:gs.length-1<gs.length:=();have ng:cf gs (gs.length-1)≠0:=by
   rw[bN (YK hgl)];exact λz=>pg.2 _ (by rw[Xe,YK hgl]) ((iA (pg.1 _ (YJ hgl)).ne).mp z)
  have m1:(D1:Rat)≠0:=aq ();have m2:(D2:Rat)≠0:=aq ();have nn:nz ns (ns.length-1)≠0:=λz=>by
   have e:=en (gs.length-1);rw[<-ln,z,ln] at e;have c0:((0:Int):Rat)=0:=rfl;rw[c0] at e;rcases Rat.mul_eq_zero.mp e.symm with y|y
   .exact ng y
   .exact m2 y
  refine⟨_,_,ms,ns,1+fs.length*200+200,1+gs.length*20+20,rfl,S2 _ _ ha1,hb1,(),nn,(),(),(),(),by have:=Xp (show 1+gs.length*20+20+1<=202 by nofun) (show ms.length<=9 by nofun);nofun,bm,bn,λp3 qa ra S qz rz H3 S3 h3 hqa hra _ lq lr hS _ _ bq br _ ev _=>?_⟩
  obtain⟨e,he,eS⟩:=hS;have nS:S≠0:=by rw[eS];exact Xt nn
  have bS:Bt 2000 S:=by
   rw[eS];exact (Bt.pow1 (ml bn _) e).mono (by have:=Xp (show 1+gs.length*20+20<=201 by nofun) (show e<=9 by nofun);nofun)
  symm
  refine⟨_,h3,rfl,?_⟩;symm
  refine hN4 _ _ ?_;refine aU.gen λN5 hN5=>?_;symm
  refine⟨be bS bD1 (),hN5 _ _ ?_⟩;symm
  refine⟨⟨_,.of (aH hqa)⟩,λq4 H4 hq4 S4 h4=>?_⟩;have nSD:S*D1≠0:=Y9 nS ();have bSD:Bt 4000000 (S*D1):=(bS.mul bD1).mono ();refine aY (its:=qz.map V.int) (λj zs H'=>aC (vw K H3) (vw K H')/\zs=((qz.take j).map λx=>D2*x).map V.int) (λj zs H' _ _ z=>aT (z.1 _ _ hqa)) h4 ⟨S4,rfl⟩ (λj x zs H' hj hx h' z=>?_) (λzs H5 h5 z=>?_)
  .obtain⟨z1,rfl⟩:=z;rw[YD] at hj;rw[YA,YK hj] at hx;cases hx;symm
   refine⟨be (bq _ (YJ hj)) bD2 (),.mk h' ?_ λH8 B8 h8=>⟨λy o e=>B8 _ _ (ak e hq4) (z1 _ _ e),?_⟩⟩
   .rw[YD,YD,Yw];have:1000<=sizeLine:=∅;nofun
   .rw[XU,YK hj,XT,XT,Y4];rfl
  obtain⟨S35,rfl⟩:=z;rw[YD,XV] at h5;simp only[gf];symm
  refine⟨_,h5,by rw[YD];nofun,nSD,bSD,λc6 H6 qs S6 l6 _ p6 w6 n6 _=>⟨_,(S35.trans S6) _ _ hra,(),nSD,bSD,λd7 H7 rs S7 l7 _ p7 w7 n7 _=>⟨∅,λp8 H8 hp8 S8 h8=>?_⟩⟩⟩
  have S08:=S1.trans (S2.trans (S3.trans (S35.trans (S6.trans (S7.trans S8)))));refine h p8 c6 d7 H8 qs rs S08 h8 (l6.same (S7.trans S8)) (l7.same S8) p6 p7 () (λk=>?_) (by rw[YD] at n6;nofun)
  have m3:(S:Rat)≠0:=aq nS;have eq:∀i,((nz qz i:Int):Rat)=cf qs i*((S:Rat)*(D1:Rat)/(D2:Rat)):=λi=>by
   rw[w6 i,dX,Xb,Xb];grind
  have e1:=lH (f:=nz qz) (g:=nz ns) (F:=cf qs) (G:=cf gs) (c:=(S:Rat)*(D1:Rat)/(D2:Rat)) (d:=(D2:Rat)) eq en qz.length k;have e2:((S*nz ms k:Int):Rat)=((pz (nz qz) (nz ns) qz.length k+nz rz k:Int):Rat):=by rw[ev k]
  rw[Xb,Xa,em k,e1] at e2;have e3:cf rs k=((nz rz k:Int):Rat)/((S:Rat)*(D1:Rat)):=by rw[w7 k,Xb]
  have e4:=ki (f:=cf qs) (g:=cf gs) (n:=qs.length) (λi hi=>aJ hi) (qz.length-qs.length) k;rw[YD] at n6;rw[show qs.length+(qz.length-qs.length)=qz.length by nofun] at e4
  rw[<-e4,e3];grind
def j6(K:W.Frag):Sp:=λvs H Q _=>∃a b:Int,vs=[.int a,.int b]/\Q (.int (Int.gcd a b)) H
theorem Ag(F:fy K "_law_divisor" "_law_divisor" ie f fd) (T:fV K mg):bZ P w K mg base fk 1 f fd ["_law_one", "_law_other"] (j6 K):=by
 have scN:=rf.nd;refine F.okQ rf (λvs H Q E h=>?_) (λcdv A outer s H vs Q E hr h=>?_)
 .obtain⟨a,b,rfl,_⟩:=h;rfl
 .obtain⟨a,b,rfl,h⟩:=h;refine⟨_,(ag (gA PassesOwn.never (aO mH (qv 1) af (aV _)) (aj (tW (i:=0) (j:=1) rfl scN rfl rfl ∅ rfl rfl (aa (qv 1) (aa (ar dJ (qv 0) (qv 1)) ae)) rfl)))
   (aj (aB (aw jQ (by rfl) T.b_abs qE (aa (qv 0) ae))))),?_⟩
  walk_at"m";symm
  refine⟨λm σ H'=>H'=H /\ ∃x y:Int,σ=[some (.int x),some (.int y)]/\Int.gcd x y=Int.gcd a b/\m=y.natAbs,⟨_,rfl,_,_,rfl,rfl,rfl⟩,?_⟩;rintro m σ H' ⟨rfl,x,y,rfl,hg,rfl⟩;symm
  refine ee (λhy0=>?_) (λhy0=>?_)
  .refine⟨_,λσ' H' h=>h,?_⟩;symm
   exact⟨hy0,_,xS x hy0,by rw[uG,hg],rfl⟩
  .symm
   have e:((Int.gcd a b:Nat):Int)=if x<0 then -x else x:=by
    rw[<-hg,show y=0 by nofun]
    simp;split<;>nofun
   rw[<-e];exact h
def iI(K:W.Frag):Sp:=λvs H Q _=>∃a b:Int,vs=[.int a,.int b]/\b≠0/\b.natAbs<2^9000 /\ ∀v H',aC (vw K H) (vw K H')->aP (vw K H') (fr (lo a b)) v->Q v H'
theorem KJ(F:fy K "_law_low" "_law_low" rN f fd) (T:fV K mg)(zCdivisor:aZ P w K mg base "_law_divisor" ["_law_one", "_law_other"] 1 (j6 K)):bZ P w K mg base fk 2 f fd ["_law_top", "_law_bottom"] (iI K):=by
 have scN:=He.nd;refine F.okQ He (λvs H Q E h=>?_) (λcdv A outer s H vs Q E hr h=>?_)
 .obtain⟨a,b,rfl,_⟩:=h;rfl
 .obtain⟨a,b,rfl,hb,hbb,h⟩:=h;refine⟨_,(ag (av (i:=2) scN rfl (·) (ao zCdivisor nofun rfl (aa (qv 0) (aa (qv 1) ae))))
   (ag (du (aO uK (qv 1) af (aV _)) (aj (av (i:=2) scN rfl (·) (ar cx af (qv 2)))) bK)
   (aj (aB (aN (aa (ar jI (qv 0) (qv 2)) (aa (ar jI (qv 1) (qv 2)) ae))))))),?_⟩
  walk_at"m";symm
  simp only[j6];symm
  have hlg:(Int.gcd a b).log2<9000:=by
   have h1:Int.gcd a b<=b.natAbs:=XE () (Int.gcd_dvd_natAbs_right a b);exact xb (y:=(Int.gcd a b:Int)) ()
  have hgn:Int.gcd a b≠0:=λe=>hb (Int.gcd_eq_zero_iff.mp e).2;have e1:lg a b=if b<0 then 0-(Int.gcd a b:Int) else (Int.gcd a b:Int):=by
   unfold lg;split<;>nofun
  have d1:zr a (0-(Int.gcd a b:Int)):=⟨(),by rw[show (0-(Int.gcd a b:Int)).natAbs=Int.gcd a b by nofun];exact hlg⟩
  have d2:zr a (Int.gcd a b:Int):=⟨(),by simpa using hlg⟩
  refine ee (λhn=>?_) (λhn=>?_)
  .rw[Yb hn] at e1;refine⟨d1,d1,∅,λp H2 hp S hp2=>?_⟩;refine h _ H2 S ?_;rw[<-e1] at hp2;simp only[fr,lo,aP,aI];exact⟨p,_,rfl,hp2,_,_,rfl,rfl,_,_,rfl,rfl,rfl⟩
  .rw[Yc hn] at e1;refine⟨d2,d2,∅,λp H2 hp S hp2=>?_⟩;refine h _ H2 S ?_;rw[<-e1] at hp2;simp only[fr,lo,aP,aI];exact⟨p,_,rfl,hp2,_,_,rfl,rfl,_,_,rfl,rfl,rfl⟩
def kl(K:W.Frag):Sp:=λvs H Q _=>∃(a:Addr)(ns:List Int)(k:Nat),vs=[.ref a,.int k]/\kB K H a (ns.map V.int) /\ ∀x:Int,Q (.int x) H
theorem Am(F:fy K "_law_cell_at" "_law_cell_at" ig f fd) (T:fV K mg):bZ P w K mg base fk 1 f fd ["_law_script", "_law_k"] (kl K):=by
 have scN:=rR.nd;refine F.okQ rR (λvs H Q E h=>?_) (λcdv A outer s H vs Q E hr h=>?_)
 .obtain⟨a,ns,k,rfl,_⟩:=h;rfl
 .obtain⟨a,ns,k,rfl,hS,h⟩:=h;refine⟨_,(ag (du (aO uK (qv 1) (aw i6 (by rfl) T.b_len bV (aa (qv 0) ae)) (aV _)) (aj (aB (ay zf (qv 0) (qv 1) (λ_ _=>rfl)))) bK)
   (aj (aB af))),?_⟩
  walk_at"m";symm
  refine⟨_,.inl hS.sq,ee (λhk=>?_) (λhk=>h 0)⟩;simp only[YD] at hk;have hk':k<ns.length:=();exact⟨_,hS.sq,_,cG (by rw[YA,YK hk'];rfl),h _⟩
def oT(K:W.Frag):Sp:=λvs H Q _=>∃(a:Addr)(ns:List Int)(k:Nat),vs=[.ref a,.int k]/\kB K H a (ns.map V.int) /\ ∀st H',vw K H st=none->aC (vw K H) (vw K H')->gj (vw K H') st->Q (.ref st) H'
theorem EN(F:fy K "_law_state" "_law_state" j1 f fd) (T:fV K mg)(zCcell_at:aZ P w K mg base "_law_cell_at" ["_law_script", "_law_k"] 1 (kl K)):bZ P w K mg base fk 2 f fd ["_law_script", "_law_k"] (oT K):=by
 have scN:=zx.nd;refine F.okQ zx (λvs H Q E h=>?_) (λcdv A outer s H vs Q E hr h=>?_)
 .obtain⟨a,ns,k,rfl,_⟩:=h;rfl
 .obtain⟨a,ns,k,rfl,hS,h⟩:=h;refine⟨_,(ag (av (i:=2) scN rfl (·) (ao zCcell_at nofun rfl (aa (qv 0) (aa (qv 1) ae))))
   (ag (du (aO KO (qv 2) (ar BK af af) (aV _)) (aj (aB (bY (aa (ar cx (qv 2) (ar BK af af)) (aa jE ae))))) bK)
   (aj (aB (bY (aa (ar dJ (qv 2) af) (aa jE ae))))))),?_⟩
  walk_at"m";symm
  simp only[kl];symm
  refine⟨⟨k,rfl⟩,⟨ns,hS⟩,λx=>⟨yE ∅,ee (λhx=>⟨yE ∅,∅,λp H2 hp S hp2=>h p H2 hp S ⟨_,_,hp2,λz=>by cases z⟩⟩) (λhx=>⟨∅,∅,λp H2 hp S hp2=>h p H2 hp S ⟨_,_,hp2,λ_=>?_⟩⟩)⟩⟩
  exact⟨YM x ∅,YN x ∅⟩
def ik(K:W.Frag):Sp:=λvs H Q _=>∃(st:Addr)(m:Int),vs=[.ref st,.int m]/\gj (vw K H) st/\0<m/\m<=2147483587 /\ ∀r H',0<=r->r<m->jg st (vw K H) (vw K H')->gj (vw K H') st->Q (.int r) H'
theorem Ic(F:fy K "_law_take" "_law_take" mK f fd) (T:fV K mg):bZ P w K mg base fk 1 f fd ["_law_state_here", "_law_many"] (ik K):=by
 have scN:=BW.nd;refine F.okQ BW (λvs H Q E h=>?_) (λcdv A outer s H vs Q E hr h=>?_)
 .obtain⟨a,ns,rfl,_⟩:=h;rfl
 .obtain⟨st,m,rfl,⟨x,b,hst,hx⟩,hm,hm2,h⟩:=h;refine⟨_,(ag (du (gC (ay dL (qv 0) af (λ_ _=>rfl)) (λ_=>rfl)) (ag (av (i:=2) scN rfl (·) (ar dJ (ay dL (qv 0) af (λ_ _=>rfl)) (qv 1)))
   (ag (ei (ar jI (ay dL (qv 0) af (λ_ _=>rfl)) (qv 1)) (qj (qv 0) af gn))
   (aj (aB (qv 2))))) bK)
   (ag (ei (ar dJ (ar cz (ar aG (ay dL (qv 0) af (λ_ _=>rfl)) af) af) af) (qj (qv 0) af gn))
   (ag (av (i:=3) scN rfl (·) (ar dJ (ar cz (ar cz (ar aG (ay dL (qv 0) af (λ_ _=>rfl)) (ay dL (qv 0) af (λ_ _=>rfl))) (ar aG af (ay dL (qv 0) af (λ_ _=>rfl)))) af) af))
   (ag (av (i:=3) scN rfl (·) (ar dJ (ar cz (ar aG (qv 3) (qv 3)) (ar aG af (qv 3))) af))
   (aj (aB (ar dJ (ar jI (qv 3) af) (qv 1)))))))),?_⟩
  walk_at"m";have hm0:m≠0:=();cases b with
  | true =>
   walk_at"vc*";refine⟨JS hm0 (by unfold Bt;nofun),λH2 B h2=>h _ _ (YM x hm) (YN x hm) B ⟨_,_,h2,λz=>by cases z⟩⟩
  | false =>
   walk_at"vc*";refine⟨yO ∅,∅,λH2 B h2=>?_⟩;have b1:Bt 31 ((x*48271+29).fmod 2147483647):=xX ∅ ∅;have b3:0<=(x*48271+29).fmod 2147483647/\(x*48271+29).fmod 2147483647<2147483647:=⟨YM _ ∅,YN _ ∅⟩;generalize (x*48271+29).fmod 2147483647=y at *
   walk_at"vc*";have b2:Bt 31 ((y*y+39373*y+7).fmod 2147483629):=xX ∅ ∅;generalize e2:(y*y+39373*y+7).fmod 2147483629=z at *
   refine⟨oI (b1.mono ∅),oI ∅,∅,oI (b2.mono ∅),oI ∅,∅,JS ∅ ∅,?_⟩;exact h _ _ (YM _ hm) (YN _ hm) B ⟨_,_,h2,λ_=>b3⟩
def j0(K:W.Frag):Sp:=λvs H Q _=>∃st:Addr,vs=[.ref st]/\gj (vw K H) st /\ ∀v H' q,jg st (vw K H) (vw K H')->gj (vw K H') st->aP (vw K H') (fr q) v->Fq q->Bt 10 q.1->Bt 10 q.2->Sx 36 q->Q v H'
theorem FC(F:fy K "_law_small" "_law_small" kr f fd) (T:fV K mg)(zClow:aZ P w K mg base "_law_low" ["_law_top", "_law_bottom"] 2 (iI K))
  (zCtake:aZ P w K mg base "_law_take" ["_law_state_here", "_law_many"] 1 (ik K)):bZ P w K mg base fk 3 f fd ["_law_state_here"] (j0 K):=by
 have scN:=yo.nd;refine F.okQ yo (λvs H Q E h=>?_) (λcdv A outer s H vs Q E hr h=>?_)
 .obtain⟨a,rfl,_⟩:=h;rfl
 .obtain⟨st,rfl,hst,h⟩:=h;refine⟨_,(aj (aB (ao zClow nofun rfl (aa (ar cx (ao zCtake nofun rfl (aa (qv 0) (aa af ae))) af) (aa (ar cz af (ay dL (bY (aa af (aa af (aa (ao zCtake nofun rfl (aa (qv 0) (aa af ae))) ae)))) (ao zCtake nofun rfl (aa (qv 0) (aa af ae))) (λ_ _=>rfl))) ae))))),?_⟩
  walk_at"m";symm
  simp only[ik,iI];symm
  refine⟨hst,∅,∅,λr1 H1 r10 r11 B1 S1=>⟨S1,∅,∅,λr2 H2 r20 r21 B2 S2=>⟨∅,?_⟩⟩⟩;intro p H3 hp S3 h3;refine⟨S2.same S3,∅,∅,λr4 H4 r40 r41 B4 S4=>?_⟩;have h4:=B4 _ _ (S2.ne hp) h3;obtain⟨v,hv,hm⟩:=xH (xs:=[V.int 0,V.int 0,V.int r2]) r40 (by simpa using r41)
  obtain⟨z,rfl,hz0,hz1⟩ : ∃z,v=.int z/\0<=z/\z<3:=by
   simp only[YY,YZ,Y0] at hm;rcases hm with rfl|rfl|rfl
   .exact⟨0,rfl,∅,∅⟩
   .exact⟨0,rfl,∅,∅⟩
   .exact⟨r2,rfl,r20,r21⟩
  symm
  refine⟨_,h4,_,hv,?_⟩;symm
  have hz:1+z≠0:=();have hb:(1+z).natAbs<2^10:=();refine⟨hz,Yd hb (YT ∅ ∅),λv H5 S5 r5=>?_⟩;have q2:=fK (a:=r1-6) hz;have q1:=fD (a:=r1-6) hz;have hl:lg (r1-6) (1+z)≠0:=DG hz;refine h v H5 _ (((B1.trans B2).same_trans S3).trans (B4.same_trans S5)) (S4.same S5) r5 (iP hz) ?_ ?_ (Sx.lo hz0 hz1 ())
  .unfold Bt;have:=YU (lo (r1-6) (1+z)).1 (lg (r1-6) (1+z));rw[q1] at this;have:=Y1 (lo (r1-6) (1+z)).1.natAbs (show 0<(lg (r1-6) (1+z)).natAbs by nofun)
   nofun
  .unfold Bt;have:=YU (lo (r1-6) (1+z)).2 (lg (r1-6) (1+z));rw[q2] at this;have:=Y1 (lo (r1-6) (1+z)).2.natAbs (show 0<(lg (r1-6) (1+z)).natAbs by nofun)
   nofun
def jV(K:W.Frag):Sp:=λvs H Q _=>∃st:Addr,vs=[.ref st]/\gj (vw K H) st /\ ∀v H' q,jg st (vw K H) (vw K H')->gj (vw K H') st->aP (vw K H') (fr q) v->Fq q->0<q.1->Bq 10 q->Sx 36 q->Q v H'
theorem Ew(F:fy K "_law_above" "_law_above" jX f fd) (T:fV K mg)(zClow:aZ P w K mg base "_law_low" ["_law_top", "_law_bottom"] 2 (iI K))
  (zCtake:aZ P w K mg base "_law_take" ["_law_state_here", "_law_many"] 1 (ik K)):bZ P w K mg base fk 3 f fd ["_law_state_here"] (jV K):=by
 have scN:=yY.nd;refine F.okQ yY (λvs H Q E h=>?_) (λcdv A outer s H vs Q E hr h=>?_)
 .obtain⟨a,rfl,_⟩:=h;rfl
 .obtain⟨st,rfl,hst,h⟩:=h;refine⟨_,(aj (aB (ao zClow nofun rfl (aa (ar cz af (ao zCtake nofun rfl (aa (qv 0) (aa af ae)))) (aa (ar cz af (ay dL (bY (aa af (aa af (aa (ao zCtake nofun rfl (aa (qv 0) (aa af ae))) ae)))) (ao zCtake nofun rfl (aa (qv 0) (aa af ae))) (λ_ _=>rfl))) ae))))),?_⟩
  walk_at"m";symm
  simp only[ik,iI];symm
  refine⟨hst,∅,∅,λr1 H1 r10 r11 B1 S1=>⟨S1,∅,∅,λr2 H2 r20 r21 B2 S2=>⟨∅,?_⟩⟩⟩;intro p H3 hp S3 h3;refine⟨S2.same S3,∅,∅,λr4 H4 r40 r41 B4 S4=>?_⟩;have h4:=B4 _ _ (S2.ne hp) h3;obtain⟨v,hv,hm⟩:=xH (xs:=[V.int 0,V.int 0,V.int r2]) r40 (by simpa using r41)
  obtain⟨z,rfl,hz0,hz1⟩ : ∃z,v=.int z/\0<=z/\z<3:=by
   simp only[YY,YZ,Y0] at hm;rcases hm with rfl|rfl|rfl
   .exact⟨0,rfl,∅,∅⟩
   .exact⟨0,rfl,∅,∅⟩
   .exact⟨r2,rfl,r20,r21⟩
  symm
  refine⟨_,h4,_,hv,?_⟩;symm
  have hz:1+z≠0:=();have hb:(1+z).natAbs<2^10:=();refine⟨hz,Yd hb (YT ∅ ∅),λv H5 S5 r5=>?_⟩;have q1:=fD (a:=1+r1) hz;have hl:0<lg (1+r1) (1+z):=BQ ();refine h v H5 _ (((B1.trans B2).same_trans S3).trans (B4.same_trans S5)) (S4.same S5) r5 (iP hz) ?_ (lM hz (by unfold Bt;nofun) hb) (Sx.lo hz0 hz1 ())
  refine Int.pos_of_mul_pos_left ?_ hl;rw[q1];nofun
def jG(K:W.Frag):Sp:=λvs H Q _=>∃x y p q,vs=[x,y]/\aP (vw K H) (fr p) x/\aP (vw K H) (fr q) y/\p.2≠0/\q.2≠0/\Bq 20000 p/\Bq 20000 q/\Bt 9000 (p.2*q.2) /\ ∀v H',aC (vw K H) (vw K H')->aP (vw K H') (fr (nA p q)) v->Q v H'
theorem JQ(F:fy K "_law_plus" "_law_plus" mO f fd) (T:fV K mg)(zClow:aZ P w K mg base "_law_low" ["_law_top", "_law_bottom"] 2 (iI K)):bZ P w K mg base fk 3 f fd ["_law_one", "_law_other"] (jG K):=by
 have scN:=Bl.nd;refine F.okQ Bl (λvs H Q E h=>?_) (λcdv A outer s H vs Q E hr h=>?_)
 .obtain⟨_,_,_,_,rfl,_⟩:=h;rfl
 .obtain⟨x,y,p,q,rfl,hx,hy,np,nq,bp,bq,bb,h⟩:=h;refine⟨_,(aj (aB (ao zClow nofun rfl (aa (ar cz (ar aG (ay b9 (qv 0) af (λ_ _=>rfl)) (ay b9 (qv 1) af (λ_ _=>rfl))) (ar aG (ay b9 (qv 1) af (λ_ _=>rfl)) (ay b9 (qv 0) af (λ_ _=>rfl)))) (aa (ar aG (ay b9 (qv 0) af (λ_ _=>rfl)) (ay b9 (qv 1) af (λ_ _=>rfl))) ae))))),?_⟩
  walk_at"m";obtain⟨a,rfl,ha⟩:=hx.fr_at;obtain⟨b,rfl,hb⟩:=hy.fr_at;walk_at"vc*";simp only[iI];walk_at"vc*";exact⟨be bp.1 bq.2 ∅,be bq.1 bp.2 ∅,be bp.2 bq.2 ∅,Y9 np nq,h⟩
def iE(K:W.Frag):Sp:=λvs H Q _=>∃x y p q,vs=[x,y]/\aP (vw K H) (fr p) x/\aP (vw K H) (fr q) y/\p.2≠0/\q.2≠0/\Bq 20000 p/\Bq 20000 q/\Bt 9000 (p.2*q.2) /\ ∀v H',aC (vw K H) (vw K H')->aP (vw K H') (fr (qo p q)) v->Q v H'
theorem FJ(F:fy K "_law_times" "_law_times" jZ f fd) (T:fV K mg)(zClow:aZ P w K mg base "_law_low" ["_law_top", "_law_bottom"] 2 (iI K)):bZ P w K mg base fk 3 f fd ["_law_one", "_law_other"] (iE K):=by
 have scN:=yQ.nd;refine F.okQ yQ (λvs H Q E h=>?_) (λcdv A outer s H vs Q E hr h=>?_)
 .obtain⟨_,_,_,_,rfl,_⟩:=h;rfl
 .obtain⟨x,y,p,q,rfl,hx,hy,np,nq,bp,bq,bb,h⟩:=h;refine⟨_,(aj (aB (ao zClow nofun rfl (aa (ar aG (ay b9 (qv 0) af (λ_ _=>rfl)) (ay b9 (qv 1) af (λ_ _=>rfl))) (aa (ar aG (ay b9 (qv 0) af (λ_ _=>rfl)) (ay b9 (qv 1) af (λ_ _=>rfl))) ae))))),?_⟩
  walk_at"m";obtain⟨a,rfl,ha⟩:=hx.fr_at;obtain⟨b,rfl,hb⟩:=hy.fr_at;walk_at"vc*";simp only[iI];walk_at"vc*";exact⟨be bp.1 bq.1 ∅,be bp.2 bq.2 ∅,Y9 np nq,h⟩
def oW(K:W.Frag):Sp:=λvs H Q _=>∃x y p q,vs=[x,y]/\aP (vw K H) (fr p) x/\aP (vw K H) (fr q) y/\p.2≠0/\q.2≠0/\Bq 20000 p/\Bq 20000 q/\Bt 9000 (p.2*q.2) /\ ∀v H',aC (vw K H) (vw K H')->aP (vw K H') (fr (xA p q)) v->Q v H'
theorem Fj(F:fy K "_law_minus" "_law_minus" ky f fd) (T:fV K mg)(zClow:aZ P w K mg base "_law_low" ["_law_top", "_law_bottom"] 2 (iI K)):bZ P w K mg base fk 3 f fd ["_law_one", "_law_other"] (oW K):=by
 have scN:=y9.nd;refine F.okQ y9 (λvs H Q E h=>?_) (λcdv A outer s H vs Q E hr h=>?_)
 .obtain⟨_,_,_,_,rfl,_⟩:=h;rfl
 .obtain⟨x,y,p,q,rfl,hx,hy,np,nq,bp,bq,bb,h⟩:=h;refine⟨_,(aj (aB (ao zClow nofun rfl (aa (ar cx (ar aG (ay b9 (qv 0) af (λ_ _=>rfl)) (ay b9 (qv 1) af (λ_ _=>rfl))) (ar aG (ay b9 (qv 1) af (λ_ _=>rfl)) (ay b9 (qv 0) af (λ_ _=>rfl)))) (aa (ar aG (ay b9 (qv 0) af (λ_ _=>rfl)) (ay b9 (qv 1) af (λ_ _=>rfl))) ae))))),?_⟩
  walk_at"m";obtain⟨a,rfl,ha⟩:=hx.fr_at;obtain⟨b,rfl,hb⟩:=hy.fr_at;walk_at"vc*";simp only[iI];walk_at"vc*";exact⟨be bp.1 bq.2 ∅,be bq.1 bp.2 ∅,be bp.2 bq.2 ∅,Y9 np nq,h⟩
def tF(K:W.Frag):Sp:=λvs H Q _=>∃x y p q,vs=[x,y]/\aP (vw K H) (fr p) x/\aP (vw K H) (fr q) y/\p.2≠0/\q.2≠0/\q.1≠0/\Bq 20000 p/\Bq 20000 q/\Bt 9000 (p.2*q.1) /\ ∀v H',aC (vw K H) (vw K H')->aP (vw K H') (fr (tO p q)) v->Q v H'
theorem IR(F:fy K "_law_over" "_law_over" m7 f fd) (T:fV K mg)(zClow:aZ P w K mg base "_law_low" ["_law_top", "_law_bottom"] 2 (iI K)):bZ P w K mg base fk 3 f fd ["_law_one", "_law_other"] (tF K):=by
 have scN:=Dq.nd;refine F.okQ Dq (λvs H Q E h=>?_) (λcdv A outer s H vs Q E hr h=>?_)
 .obtain⟨_,_,_,_,rfl,_⟩:=h;rfl
 .obtain⟨x,y,p,q,rfl,hx,hy,np,nq,n0,bp,bq,bb,h⟩:=h;refine⟨_,(aj (aB (ao zClow nofun rfl (aa (ar aG (ay b9 (qv 0) af (λ_ _=>rfl)) (ay b9 (qv 1) af (λ_ _=>rfl))) (aa (ar aG (ay b9 (qv 0) af (λ_ _=>rfl)) (ay b9 (qv 1) af (λ_ _=>rfl))) ae))))),?_⟩
  walk_at"m";obtain⟨a,rfl,ha⟩:=hx.fr_at;obtain⟨b,rfl,hb⟩:=hy.fr_at;walk_at"vc*";simp only[iI];walk_at"vc*";exact⟨be bp.1 bq.2 ∅,be bp.2 bq.1 ∅,Y9 np n0,h⟩
def kd(K:W.Frag):Sp:=λvs H Q _=>∃(a:Addr)(qs:List (Int×Int)),vs=[.ref a]/\aW (vw K H) a qs /\
 ∀b H' n,n<=qs.length->(∀q,(qs.take n).getLast? = some q->q.1≠0)->(∀q∈qs.drop n,q.1=0)->vw K H b=none->aC (vw K H) (vw K H')->aW (vw K H') b (qs.take n)->Q (.ref b) H'
theorem En(F:fy K "_law_clean" "_law_clean" kg f fd) (T:fV K mg):bZ P w K mg base fk 1 f fd ["_law_numbers"] (kd K):=by
 have scN:=yp.nd;refine F.okQ yp (λvs H Q E h=>?_) (λcdv A outer s H vs Q E hr h=>?_)
 .obtain⟨a,_,rfl,_⟩:=h;rfl
 .obtain⟨a,qs,rfl,ha,h⟩:=h;refine⟨_,(ag (av (i:=1) scN rfl (·) (aw aF (by rfl) T.b_len bV (aa (qv 0) ae)))
   (ag (gA PassesOwn.never (QW.pt (wJ (aO ue (qv 1) af (aV _)) (sA (aO jh (ay b9 (ay dL (qv 0) (ar cx (qv 1) af) (λ_ _=>rfl)) af (λ_ _=>rfl)) af (aV _))))) (aj (av (i:=1) scN rfl (·) (ar cx (qv 1) af))))
   (aj (aB (hV gm (by rfl) T.b_list gY (aa (qK qJ (qv 0) t7 (tX (qv 1))) ae)))))),?_⟩
  walk_at"m";symm
  refine⟨_,ha.len,λm σ H'=>H'=H/\m<=qs.length/\(∀q∈qs.drop m,q.1=0)/\σ=[some (.ref a),some (.int m)],⟨_,rfl,Yq _,by simp,rfl⟩,?_⟩
  rintro k σ H' ⟨rfl,hk,hdr,rfl⟩;obtain⟨xs,hax,rx⟩:=ha;have hlx:xs.length=qs.length:=by rw[rx.length,YD]
  have fin:(∀q,(qs.take k).getLast? = some q->q.1≠0)->Nw K H' (HO.lst (qB xs none (some (k:Int)))) λx H1=>∃p,x=V.ref p /\ ∃ys,vw K H1 p=some (HO.lst ys)/\Nw K H1 (HO.lst ys) Q:=λhq p H2 hp S2 h2=>by
   rw[wo ()] at h2;refine⟨p,rfl,_,h2,λp2 H3 hp2 S3 h3=>h p2 H3 k hk hq hdr ?_ (S2.trans S3) ⟨_,h3,?_⟩⟩
   .cases e:vw K H' p2 with
    | none=>rfl
    | some o=>rw[S2 _ _ e] at hp2;cases hp2
   .rw[List.map_take];exact (rx.take k).same (S2.trans S3)
  symm
  refine ee (λh0=>?_) (λh0=>?_)
  .have hk1:k-1<qs.length:=();obtain⟨x,hx,r⟩:=rx.at (i:=k-1) (d:=fr qs[k-1]) (by rw[YA,YK hk1];rfl)
   obtain⟨p,rfl,hp⟩:=r.fr_at;have e1:((k:Int)-1)=((k-1:Nat):Int):=();refine⟨_,hax,_,by rw[e1];exact cG hx,p,rfl,_,hp,_,gE,?_⟩
   symm
   refine ee (λhq=>?_) (λhq=>?_)
   .refine⟨_,λσ' H'' z=>z,k-1,(),rfl,(),λq' hq'=>?_,by rw[e1]⟩
    rw[Xg hk1,show k-1+1=k by nofun] at hq'
    rcases YY.mp hq' with z|z
    .rw[z];exact hq
    .exact hdr q' z
   .refine⟨_,hax,fin λq hq2=>?_⟩;have:(qs.take k).getLast? = some qs[k-1]:=by
     rw[Xe,Yw,Xf];rw[Yb (),show min k qs.length-1=k-1 by nofun,YK hk1]
    rw[this] at hq2;cases hq2;exact hq
  .refine⟨_,hax,fin λq hq=>?_⟩;rw[show k=0 by nofun] at hq
   cases hq
def li(K:W.Frag):Sp:=λvs H Q _=>∃(a b:Addr)(y:V)(fs gs:List (Int×Int))(c:Int×Int)(B:Nat),vs=[.ref a,.ref b,y]/\aW (vw K H) a fs/\aW (vw K H) b gs/\aP (vw K H) (fr c) y/\fs.length<=40/\gs.length<=40/\1<=B/\B<=1300/\(∀q∈fs,Fq q/\Bq B q)/\(∀q∈gs,Fq q/\Bq B q)/\Fq c/\Bq B c /\
 ∀d H' (rs:List (Int×Int)),aC (vw K H) (vw K H')->aW (vw K H') d rs->vw K H d=none->aS rs->(∀k,cf rs k=cf fs k+cf gs k*wv c)->rs.length<=max fs.length gs.length->(∀q∈rs,Bq (3*B+1) q)->Q (.ref d) H'
theorem AX(F:fy K "_law_summed" "_law_summed" iO f fd) (T:fV K mg)(zCclean:aZ P w K mg base "_law_clean" ["_law_numbers"] 1 (kd K)) (zCplus:aZ P w K mg base "_law_plus" ["_law_one", "_law_other"] 3 (jG K)) (zCtimes:aZ P w K mg base "_law_times" ["_law_one", "_law_other"] 3 (iE K)):bZ P w K mg base fk 4 f fd ["_law_f", "_law_g", "_law_by"] (li K):=by
 have scN:=uA.nd;refine F.okQ uA (λvs H Q E h=>?_) (λcdv A outer s H vs Q E hr h=>?_)
 .obtain⟨a,_,_,_,_,_,_,rfl,_⟩:=h;rfl
 .obtain⟨a,b,y,fs,gs,c,B,rfl,ha,hb,hy,lf,lg',hB0,hB,hf,hg,fc,bc,h⟩:=h;refine⟨_,(ag (av (i:=3) scN rfl (·) (ar cz (hV gm (by rfl) T.b_list gY (aa (qv 0) ae)) (ar aG (bY (aa (aN (aa af (aa af ae))) ae)) (aw (iT rfl) (by rfl) T.b_max pV (aa af (aa (ar cx (aw aF (by rfl) T.b_len bV (aa (qv 1) ae)) (aw aF (by rfl) T.b_len bV (aa (qv 0) ae))) ae))))))
   (ag (cZ PassesOwn.never rfl (cL rfl T.b_range (aa (aw aF (by rfl) T.b_len bV (aa (qv 1) ae)) ae)) (au (i:=4) scN rfl (·)) (aj (ei (ao zCplus nofun rfl (aa (ay dL (qv 3) (qv 4) (λ_ _=>rfl)) (aa (ao zCtimes nofun rfl (aa (ay dL (qv 1) (qv 4) (λ_ _=>rfl)) (aa (qv 2) ae))) ae))) (qj (qv 3) (qv 4) gn))))
   (aj (aB (ao zCclean nofun rfl (aa (qv 3) ae)))))),?_⟩
  walk_at"m";symm
  obtain⟨xs,hxs,rxs⟩:=id ha;obtain⟨ys,hys,rys⟩:=id hb;refine⟨xs,hxs,λp1 H1 hp1 S1 h1=>⟨∅,λp2 H2 hp2 S2 h2=>⟨∅,λp3 H3 hp3 S3 h3=>?_⟩⟩⟩;have S03:=S1.trans (S2.trans S3);refine⟨_,(hb.same S03).len,_,(ha.same S03).len,?_⟩;obtain⟨m,hm,hmm⟩ : ∃m:Nat,(if (gs.length:Int)-(fs.length:Int) > 0 then (gs.length:Int)-(fs.length:Int) else 0)=(m:Int)/\fs.length+m=max fs.length gs.length:=by
   refine⟨gs.length-fs.length,?_,()⟩;split<;>nofun
  rw[hm,jt];refine⟨_,h3,(),(),?_,λp4 H4 hp4 S4 h4=>?_⟩
  .have:1000<=sizeLine:=∅;simp;nofun
  rw[show ((m:Nat):Int).toNat=m by nofun,pB] at h4
  rw[ni];have S14:=S2.trans (S3.trans S4);refine⟨_,S14 _ _ h1,_,h4,?_,λe H5 he S5 h5=>?_⟩
  .have:1000<=sizeLine:=∅;rw[rxs.length];simp;nofun
  have S04:=S1.trans S14;have S05:=S04.trans S5;have r2:aP (vw K H5) (fr (0,1)) (.ref p2):=bQ ((S3.trans (S4.trans S5)) _ _ h2);have ne:vw K H e=none:=S04.none he;refine⟨_,(hb.same S05).len,(),(),?_⟩;obtain⟨Pv,hPv⟩ : ∃Pv:Nat->St->Hp->Prop,∀i σ H',Pv i σ H' ↔ ∃o4,σ=[some (.ref a),some (.ref b),some y,some (.ref e),o4]/\aC (vw K H) (vw K H') /\ ∃qs,aW (vw K H') e qs/\qs.length=max fs.length gs.length/\(∀q∈qs,Fq q/\Bq (3*B+1) q)/\(∀k,cf qs k=cf fs k+if k<i then cf gs k*wv c else 0)/\(∀k q,i<=k->qs[k]? = some q->Bq B q):=⟨_,λ_ _ _=>XJ⟩
  have hq0:∀q∈fs++List.replicate m (0,1),Fq q/\Bq B q:=λq hq=>by
   rcases List.mem_append.mp hq with z|z
   .exact hf q z
   .rw[(List.mem_replicate.mp z).2];exact⟨GL,Gw hB0⟩
  refine bJ (its:=eX 0 gs.length) Pv (λ_ _ _ _ _=>bH) ((hPv _ _ _).mpr ⟨_,rfl,S05,fs++List.replicate m (0,1),⟨_,h5,?_⟩,by simp;nofun,λq hq=>⟨(hq0 q hq).1,(hq0 q hq).2.mono ()⟩,λk=>?_,λk q _ e'=>(hq0 q (YB e')).2⟩) (λi x σ H6 hi hx pv=>?_) (λσ H6 pv=>?_)
  .rw[XT,sL];exact (rxs.same S05).app (aI.repl r2 m)
  .rw[JE,Yc ()];grind
  .obtain⟨o4,rfl,S6,qs,l6,n6,f6,c6,b6⟩:=(hPv _ _ _).mp pv;obtain⟨hi',rfl⟩:=dP hx;rw[XS];obtain⟨zs,hzs,rzs⟩:=id l6;have hiq:i<qs.length:=();obtain⟨x1,e1,r1⟩:=rzs.at (i:=i) (d:=fr qs[i]) (by rw[YA,YK hiq];rfl)
   obtain⟨x2,e2,r2⟩:=rys.at (i:=i) (d:=fr gs[i]) (by rw[YA,YK hi'];rfl)
   obtain⟨k1,k2⟩:=f6 qs[i] (YJ hiq);have k3:=b6 i qs[i] (Yq _) (YK hiq);obtain⟨g1,g2⟩:=hg gs[i] (YJ hi');symm
   refine⟨zs,hzs,x1,cG e1,ys,S6 _ _ hys,x2,cG e2,?_⟩;simp only[iE];symm
   refine⟨_,aP.same S6 _ _ r2,c,aP.same S6 _ _ hy,g1.ne,fc.ne,g2.mono (),bc.mono (),(g2.2.mul bc.2).mono (),λv3 H7 S7 r3=>?_⟩;have f3:=oN g1 fc;have b3:=y8 g1 fc g2 bc;simp only[jG];symm
   refine⟨_,aP.same S7 _ _ r1,_,r3,k1.ne,f3.ne,k3.mono (),b3.mono (),(k3.2.mul b3.2).mono (),λv4 H8 S8 r4=>?_⟩;have f4:=oU k1 f3;have b4:=tH k1 f3 k3 b3;have S68:=S7.trans S8;have hlz:zs.length=qs.length:=by rw[rzs.length,YD]
   refine⟨zs,S68 _ _ hzs,i,by rw[hlz];exact lY hiq,λH9 B9 h9=>(hPv _ _ _).mpr ⟨_,rfl,λx o e'=>B9 _ _ (ak e' ne) (S68 _ _ (S6 _ _ e')),qs.set i (nA qs[i] (qo gs[i] c)),aW.chg (S68 _ _ hzs) (rzs.same S68) r4 B9 h9,by rw[List.length_set];exact n6,λq hq=>?_,λk=>?_,λk q hk e'=>?_⟩⟩
   .rcases List.mem_or_eq_of_mem_set hq with z|z
    .exact f6 q z
    .rw[z];exact⟨f4,b4.mono ()⟩
   .rw[yw hiq];by_cases hk:k=i
    .subst hk;rw[Yb rfl,Yb (),tN k1.ne f3.ne,sG g1.ne fc.ne,<-bN (YK hiq),<-bN (YK hi'),c6 k,Yc ()];grind
    .rw[Yc hk,c6 k];by_cases hk2:k<i
     .rw[Yb hk2,Yb ()]
     .rw[Yc hk2,Yc ()]
   .rw[Yl ()] at e';exact b6 k q () e'
  .obtain⟨o4,rfl,S6,qs,l6,n6,f6,c6,b6⟩:=(hPv _ _ _).mp pv;rw[dk] at c6;symm
   simp only[kd];symm
   have hF:∀q∈qs,Fq q:=λq hq=>(f6 q hq).1;refine⟨qs,l6,λd H7 n hn hz hd hnd S7 l7=>h d H7 (qs.take n) (S6.trans S7) l7 (S6.none hnd) (vH hF hz) (λk=>?_) (by rw[Yw];nofun) λq hq=>(f6 q (Xi hq)).2⟩
   rw[sW hF hd k,c6 k];by_cases hk:k<gs.length
   .rw[Yb hk]
   .rw[Yc hk,aJ (qs:=gs) ()];grind
def iL(n:Nat)(K:W.Frag):Sp:=λvs H Q _=>∃x y d,vs=[x,y]/\aP (vw K H) d x/\aP (vw K H) d y/\d.sm n=true /\ ∀H',aC (vw K H) (vw K H')->Q (.bl true) H'
theorem JA{n:Nat}(F:fy K "_law_same" "_law_same" kN f fd) (T:fV K mg)(zCsame:aZ P w K mg base "_law_same" ["_law_found", "_law_due"] (n+1) (iL n K)):bZ P w K mg base fk (n+2) f fd ["_law_found", "_law_due"] (iL (n+1) K):=by
 have scN:=wH.nd;refine F.okQ wH (λvs H Q E h=>?_) (λcdv A outer s H vs Q E hr h=>?_)
 .obtain⟨a,_,_,rfl,_⟩:=h;rfl
 .obtain⟨x,y,d,rfl,hx,hy,hd,h⟩:=h;refine⟨_,(ag (du (oZ (aw qV (by rfl) T.b_isinstance da (aa (qv 1) (aa (aN (aa (iz (v:=V.ty "tuple") rfl T.b_tuple pU rfl) (aa (iz (v:=V.ty "list") rfl T.b_list gY rfl) ae))) ae)))) (ag (du (QW.pt (u5 (aO mH (aw fE (by rfl) T.b_isinstance da (aa (qv 0) (aa (iz (v:=V.ty "tuple") rfl T.b_tuple pU rfl) ae))) (aw fE (by rfl) T.b_isinstance da (aa (qv 1) (aa (iz (v:=V.ty "tuple") rfl T.b_tuple pU rfl) ae))) (aV _)) (oY (aO mH (aw fE (by rfl) T.b_isinstance da (aa (qv 0) (aa (iz (v:=V.ty "list") rfl T.b_list gY rfl) ae))) (aw fE (by rfl) T.b_isinstance da (aa (qv 1) (aa (iz (v:=V.ty "list") rfl T.b_list gY rfl) ae))) (aV _))))) (aj (aB jE)) bK)
   (ag (du (aO mH (aw aF (by rfl) T.b_len bV (aa (qv 0) ae)) (aw aF (by rfl) T.b_len bV (aa (qv 1) ae)) (aV _)) (aj (aB jE)) bK)
   (aj (aB (aw (AA rfl) (by rfl) T.b_all Hm (aa (dS (own:=["_law_one", "_law_other"]) (outs:=[]) (ixs:=[]) rfl (Iy rfl T.b_zip (aa (qv 0) (aa (qv 1) ae))) rfl ⟨rfl,rfl,rfl,trivial,rfl,trivial⟩ (λ_ _ _ _=>⟨(show QG _ _ (nZ K 2 _) from cI (n:=2) rfl (aD (au (i:=0) (show (["_law_one", "_law_other"]:List Str).Nodup by decide +kernel) rfl (·)) (aD (au (i:=1) (show (["_law_one", "_law_other"]:List Str).Nodup by decide +kernel) rfl (·)) cK))),ez,(ao zCsame nofun rfl (aa (qv 0) (aa (qv 1) ae)))⟩)) ae)))))) bK)
   (aj (aB (Ji (yU jh (qv 0) (qv 1) (aV _)) (Ih (yU jh (aw fE (by rfl) T.b_isinstance da (aa (qv 0) (aa (iz (v:=V.ty "bool") rfl T.b_bool yt rfl) ae))) (aw fE (by rfl) T.b_isinstance da (aa (qv 1) (aa (iz (v:=V.ty "bool") rfl T.b_bool yt rfl) ae))) (aV _))))))),?_⟩
  walk_at"m";have tx:=aP.ty hx;have ty:=aP.ty hy;walk_at"vc*";refine⟨∅,λp0 H1 hp0 S1 h1=>?_⟩;have hx1:=aP.same S1 _ _ hx;have hy1:=aP.same S1 _ _ hy;have tx1:=aP.ty hx1;have ty1:=aP.ty hy1;refine⟨d.ty,p0,rfl,h1,ty1,?_⟩;have seq:∀(b:Bool)(ds:List D)(p q:Addr)(xs ys:List V),qF K b H1 p xs->qF K b H1 q ys->aI (vw K H1) ds xs->aI (vw K H1) ds ys->ds.length<=1000->ds.all (D.sm n)=true ->
    Ev K (nU (wE 0) (nU (wE 1) zS)) [some (.ref p),some (.ref q)] H1 λJ H1=>∀(a:Addr)(H2:Hp),vw K H1 a=none->aC (vw K H1) (vw K H2)->vw K H2 a=some (HO.lst []) ->
     mP K J (nZ K 2 (kH (ir 0) (kH (ir 1) wr))) Em (Ci (iL n K) (nU (wE 0) (nU (wE 1) zS))) a [none,none] H2 λH1=>∃bs,vw K H1 a=some (HO.lst (List.map V.bl bs))/\Q (V.bl (bs.all id)) H1:=by
   intro b ds p q xs ys sp sq rx ry hl hs;simp only[Ev];symm
   refine⟨b,⟨xs,sp⟩,b,⟨ys,sq⟩,λc H2 hc S2 h2=>?_⟩;have lx:=rx.length;have ly:=ry.length;refine AI (ps:=xs.zip ys) (λi zs H'=>aC (vw K H1) (vw K H')/\zs=List.replicate i (V.bl true)) (λi zs H' _ _ pv=>⟨xs,ys,pv.1 _ _ sp,pv.1 _ _ sq,DN.symm⟩) h2 ⟨S2,rfl⟩ (λi u v zs H3 H4 hi huv h4 pv S4=>?_) (λzs H3 h3 pv=>?_)
   .obtain⟨S3,rfl⟩:=pv;obtain⟨d',hd',r1,r2⟩:=Hl rx ry huv;have S14:=S3.trans S4;symm
    simp only[iL];symm
    refine⟨d',aP.same S14 _ _ r1,aP.same S14 _ _ r2,List.all_eq_true.mp hs d' hd',λH5 S5=>.mk2 (S5 _ _ h4) ?_ λH6 B6 h6=>⟨λa o e=>B6 _ _ (ak e hc) (S5 _ _ (S14 _ _ e)),?_⟩⟩
    .rw[List.length_replicate];have:1000<=sizeLine:=∅;simp at hi;nofun
    .rw[<-List.replicate_succ',YF]
   .obtain⟨S3,rfl⟩:=pv;refine⟨List.replicate (xs.zip ys).length true,?_,?_⟩
    .rw[List.map_replicate];exact h3
    .have e:(List.replicate (xs.zip ys).length true).all id=true:=by simp
     rw[e];exact h _ (S1.trans S3)
  cases d with
  | tup ds =>
   obtain⟨p,xs,rfl,hp,rx⟩:=hx1.tup_at;obtain⟨q,ys,rfl,hq,ry⟩:=hy1.tup_at;have hsm:(decide (ds.length<=1000) && ds.all (D.sm n))=true:=hd;rw[YX] at hsm;have e:xs.length=ys.length:=by rw[rx.length,ry.length]
   exact Js (by simp[D.ty,kG]) ⟨_,tx1,_,ty1,kK (λz=>z rfl) ⟨_,tx1,_,ty1,kK (λz=>z rfl) ⟨p,rfl,xs.length,by simp only[fS,hp],q,rfl,ys.length,by simp only[fS,hq],kK (λz=>z (by rw[e])) (seq false ds p q xs ys hp hq rx ry (XB hsm.1) hsm.2)⟩⟩⟩
  | lst ds =>
   obtain⟨p,xs,rfl,hp,rx⟩:=hx1.lst_at;obtain⟨q,ys,rfl,hq,ry⟩:=hy1.lst_at;have hsm:(decide (ds.length<=1000) && ds.all (D.sm n))=true:=hd;rw[YX] at hsm;have e:xs.length=ys.length:=by rw[rx.length,ry.length]
   exact Js (by simp[D.ty,kG]) ⟨_,tx1,_,ty1,kK (λz=>z rfl) ⟨_,tx1,_,ty1,kK (λz=>z rfl) ⟨p,rfl,xs.length,by simp only[fS,hp],q,rfl,ys.length,by simp only[fS,hq],kK (λz=>z (by rw[e])) (seq true ds p q xs ys hp hq rx ry (XB hsm.1) hsm.2)⟩⟩⟩
  | dict=>cases hd
  | _ =>
   unfold aP at hx1 hy1;subst hx1 hy1;refine kK (by simp[D.ty,kG]) ⟨rfl,Js rfl ⟨_,tx1,_,ty1,?_⟩⟩
   have:=h H1 S1;simpa using this
theorem kF(F:fy K "_law_same" "_law_same" kN f fd) (T:fV K mg)(hm:mg "_law_same" = some (.ref f)) (hk:keepIn K (.ref f)=true)(hb:pX K fd ["_law_found", "_law_due"] []) :
  ∀n,aZ P w K mg base "_law_same" ["_law_found", "_law_due"] (n+1) (iL n K)
 | 0=>⟨f,fd,F.okQ wH (λvs H Q E h=>by obtain⟨_,_,d,_,_,_,z,_⟩:=h;cases d<;>cases z) (λcdv A outer s H vs Q E hr h=>by obtain⟨_,_,d,_,_,_,z,_⟩:=h;cases d<;>cases z),hm,hk,hb⟩
 | n+1=>⟨f,fd,JA F T (kF F T hm hk hb n),hm,hk,hb⟩
def eI(K:W.Frag):Sp:=λvs H Q _=>∃(a b:Addr)(fs gs:List (Int×Int))(B:Nat),vs=[.ref a,.ref b]/\aW (vw K H) a fs/\aW (vw K H) b gs/\fs.length<=40/\gs.length<=40/\1<=B/\B<=400/\fs.length*(2*B+1)<=8000/\(∀q∈fs,Fq q/\Bq B q)/\(∀q∈gs,Fq q/\Bq B q) /\
 ∀d H' (rs:List (Int×Int)),aC (vw K H) (vw K H')->aW (vw K H') d rs->vw K H d=none->aS rs->(∀k,cf rs k=pr (cf fs) (cf gs) fs.length k)->rs.length<=fs.length+gs.length->(∀q∈rs,Bq (1+fs.length*(2*B+1)) q)->Q (.ref d) H'
theorem t6(F:fy K "_law_multiplied" "_law_multiplied" eJ f fd) (T:fV K mg)(zCclean:aZ P w K mg base "_law_clean" ["_law_numbers"] 1 (kd K)) (zCplus:aZ P w K mg base "_law_plus" ["_law_one", "_law_other"] 3 (jG K)) (zCtimes:aZ P w K mg base "_law_times" ["_law_one", "_law_other"] 3 (iE K)):bZ P w K mg base fk 4 f fd ["_law_f", "_law_g"] (eI K):=by
 have scN:=mC.nd;refine F.okQ mC (λvs H Q E h=>?_) (λcdv A outer s H vs Q E hr h=>?_)
 .obtain⟨a,_,_,_,_,rfl,_⟩:=h;rfl
 .obtain⟨a,b,fs,gs,B,rfl,ha,hb,lf,lg',hB0,hB,hBB,hf,hg,h⟩:=h;refine⟨_,(ag (av (i:=2) scN rfl (·) (ar aG (bY (aa (aN (aa af (aa af ae))) ae)) (ar cz (aw aF (by rfl) T.b_len bV (aa (qv 0) ae)) (aw aF (by rfl) T.b_len bV (aa (qv 1) ae)))))
   (ag (cZ PassesOwn.never rfl (cL rfl T.b_range (aa (aw aF (by rfl) T.b_len bV (aa (qv 0) ae)) ae)) (au (i:=3) scN rfl (·)) (aj (cZ PassesOwn.never rfl (cL rfl T.b_range (aa (aw aF (by rfl) T.b_len bV (aa (qv 1) ae)) ae)) (au (i:=4) scN rfl (·)) (aj (ei (ao zCplus nofun rfl (aa (ay dL (qv 2) (ar cz (qv 3) (qv 4)) (λ_ _=>rfl)) (aa (ao zCtimes nofun rfl (aa (ay dL (qv 0) (qv 3) (λ_ _=>rfl)) (aa (ay dL (qv 1) (qv 4) (λ_ _=>rfl)) ae))) ae))) (qj (qv 2) (ar cz (qv 3) (qv 4)) gn))))))
   (aj (aB (ao zCclean nofun rfl (aa (qv 2) ae)))))),?_⟩
  walk_at"m";symm
  obtain⟨xs,hxs,rxs⟩:=id ha;obtain⟨ys,hys,rys⟩:=id hb;refine⟨∅,λp2 H2 hp2 S2 h2=>⟨∅,λp3 H3 hp3 S3 h3=>?_⟩⟩;have S03:=S2.trans S3;refine⟨_,(ha.same S03).len,_,(hb.same S03).len,?_⟩;rw[show (fs.length:Int)+(gs.length:Int)=((fs.length+gs.length:Nat):Int) by nofun,jt]
  refine⟨_,h3,(),(),?_,λe H5 he S5 h5=>?_⟩
  .have:1000<=sizeLine:=∅;simp;nofun
  rw[show ((fs.length+gs.length:Nat):Int).toNat=fs.length+gs.length by nofun,pB] at h5
  have S05:=S03.trans S5;have r2:aP (vw K H5) (fr (0,1)) (.ref p2):=bQ ((S3.trans S5) _ _ h2);have ne:vw K H e=none:=S03.none he;refine⟨_,(ha.same S05).len,(),(),?_⟩;obtain⟨n,hn⟩ : ∃n,n=fs.length+gs.length:=⟨_,rfl⟩;rw[<-hn] at h5;obtain⟨Pv,hPv⟩ : ∃Pv:Nat->St->Hp->Prop,∀i σ H',Pv i σ H' ↔ ∃o3 o4,σ=[some (.ref a),some (.ref b),some (.ref e),o3,o4]/\aC (vw K H) (vw K H') /\ ∃qs,aW (vw K H') e qs/\qs.length=n/\(∀q∈qs,Fq q/\Bq (1+i*(2*B+1)) q)/\(∀k,k<n->cf qs k=pr (cf fs) (cf gs) i k):=⟨_,λ_ _ _=>XJ⟩;refine bJ (its:=eX 0 fs.length) Pv (λ_ _ _ _ _=>bH) ((hPv _ _ _).mpr ⟨_,_,rfl,S05,List.replicate n (0,1),⟨_,h5,?_⟩,by simp,λq hq=>?_,λk hk=>?_⟩) (λi x σ H6 hi hx pv=>?_) (λσ H6 pv=>?_)
  .rw[sL];exact aI.repl r2 n
  .rw[(List.mem_replicate.mp hq).2];exact⟨GL,Gw ()⟩
  .rw[bN (List.getElem?_replicate_of_lt hk),G7];rfl
  .obtain⟨o3,o4,rfl,S6,qs,l6,n6,f6,c6⟩:=(hPv _ _ _).mp pv;obtain⟨hi',rfl⟩:=dP hx;rw[XS];have hiB:i*(2*B+1)+(2*B+1)<=8000:=by
    have:=XF (2*B+1) (show i+1<=fs.length by nofun)
    rw[Xo,Nat.one_mul] at this;nofun
   symm
   refine⟨_,(hb.same S6).len,(),(),?_⟩;obtain⟨Pw,hPw⟩ : ∃Pw:Nat->St->Hp->Prop,∀j σ H',Pw j σ H' ↔ ∃o4,σ=[some (.ref a),some (.ref b),some (.ref e),some (.int i),o4]/\aC (vw K H) (vw K H') /\ ∃qs,aW (vw K H') e qs/\qs.length=n/\(∀q∈qs,Fq q/\Bq (1+(i+1)*(2*B+1)) q)/\(∀k,k<n->cf qs k=qr (cf fs) (cf gs) i j k)/\(∀k q,i+j<=k->qs[k]? = some q->Bq (1+i*(2*B+1)) q):=⟨_,λ_ _ _=>XJ⟩;refine bJ (its:=eX 0 gs.length) Pw (λ_ _ _ _ _=>bH) ((hPw _ _ _).mpr ⟨_,rfl,S6,qs,l6,n6,λq hq=>⟨(f6 q hq).1,(f6 q hq).2.mono (by rw[Xo];nofun)⟩,λk hk=>?_,λk q _ e'=>(f6 q (YB e')).2⟩) (λj x σ H7 hj hx pw=>?_) (λσ H7 pw=>?_)
   .rw[LH];exact c6 k hk
   .obtain⟨o4,rfl,S7,ps,l7,n7,f7,c7,b7⟩:=(hPw _ _ _).mp pw;obtain⟨hj',rfl⟩:=dP hx;rw[XS];obtain⟨zs,hzs,rzs⟩:=id l7;have hiq:i+j<ps.length:=();obtain⟨x0,e0,r0⟩:=rzs.at (i:=i+j) (d:=fr ps[i+j]) (by rw[YA,YK hiq];rfl)
    obtain⟨x1,e1,r1⟩:=rxs.at (i:=i) (d:=fr fs[i]) (by rw[YA,YK hi'];rfl)
    obtain⟨x2,e2,r2'⟩:=rys.at (i:=j) (d:=fr gs[j]) (by rw[YA,YK hj'];rfl)
    obtain⟨k1,k2⟩:=f7 ps[i+j] (YJ hiq);have k3:=b7 (i+j) ps[i+j] (Yq _) (YK hiq);obtain⟨g1,g2⟩:=hg gs[j] (YJ hj');obtain⟨u1,u2⟩:=hf fs[i] (YJ hi');symm
    rw[show (i:Int)+(j:Int)=((i+j:Nat):Int) by nofun]
    refine⟨zs,hzs,x0,cG e0,xs,S7 _ _ hxs,x1,cG e1,ys,S7 _ _ hys,x2,cG e2,?_⟩;simp only[iE];symm
    refine⟨_,aP.same S7 _ _ r1,_,aP.same S7 _ _ r2',u1.ne,g1.ne,u2.mono (),g2.mono (),(u2.2.mul g2.2).mono (),λv3 H8 S8 r3=>?_⟩;have f3:=oN u1 g1;have b3:=y8 u1 g1 u2 g2;simp only[jG];symm
    refine⟨_,aP.same S8 _ _ r0,_,r3,k1.ne,f3.ne,k3.mono (),b3.mono (),(k3.2.mul b3.2).mono (),λv4 H9 S9 r4=>?_⟩;have f4:=oU k1 f3;have b4:=tH k1 f3 k3 b3;have S79:=S8.trans S9;have hlz:zs.length=ps.length:=by rw[rzs.length,YD]
    refine⟨zs,S79 _ _ hzs,i+j,by rw[hlz];exact lY hiq,λH10 B10 h10=>(hPw _ _ _).mpr ⟨_,rfl,λx o e'=>B10 _ _ (ak e' ne) (S79 _ _ (S7 _ _ e')),ps.set (i+j) (nA ps[i+j] (qo fs[i] gs[j])),aW.chg (S79 _ _ hzs) (rzs.same S79) r4 B10 h10,by rw[List.length_set];exact n7,λq hq=>?_,λk hk=>?_,λk q hk e'=>?_⟩⟩
    .rcases List.mem_or_eq_of_mem_set hq with z|z
     .exact f7 q z
     .rw[z];exact⟨f4,b4.mono (by rw[Xo];nofun)⟩
    .rw[yw hiq,J6];by_cases hk:k=i+j
     .rw[Yb hk,Yb hk,tN k1.ne f3.ne,sG u1.ne g1.ne,<-bN (YK hiq),<-bN (YK hi'),<-bN (YK hj'),c7 (i+j) ()]
     .rw[Yc hk,Yc hk,c7 k (by assumption)]
    .rw[Yl ()] at e';exact b7 k q () e'
   .obtain⟨o4,rfl,S7,ps,l7,n7,f7,c7,b7⟩:=(hPw _ _ _).mp pw;rw[dk] at c7;refine (hPv _ _ _).mpr ⟨_,_,rfl,S7,ps,l7,n7,f7,λk hk=>?_⟩;rw[c7 k hk,Jq λi hi=>aJ hi]
  .obtain⟨o3,o4,rfl,S6,qs,l6,n6,f6,c6⟩:=(hPv _ _ _).mp pv;rw[dk] at c6 f6;symm
   simp only[kd];symm
   have hF:∀q∈qs,Fq q:=λq hq=>(f6 q hq).1;refine⟨qs,l6,λd H7 n' hn' hz hd hnd S7 l7=>h d H7 (qs.take n') (S6.trans S7) l7 (S6.none hnd) (vH hF hz) (λk=>?_) (by rw[Yw];nofun) λq hq=>(f6 q (Xi hq)).2⟩
   rw[sW hF hd k];by_cases hk:k<n
   .exact c6 k hk
   .rw[aJ (),gy (n:=gs.length) (λi hi=>aJ hi) _ _ ()]
def oH(K:W.Frag):Sp:=λvs H Q _=>∃(st:Addr)(m:Nat),vs=[.ref st,.int m]/\m<=6/\gj (vw K H) st /\ ∀(a:Addr)(H':Hp)(cs:List gP),jg st (vw K H) (vw K H')->gj (vw K H') st->gW (vw K H') a (cs.map oh)->(∀c∈cs,Fq c.1/\Fq c.2/\0<c.2.1)->(∀c∈cs,Bq 100 c.1/\Bq 10 c.2)->(∀c∈cs,Sx 300 c.1/\Sx 36 c.2) ->
 (∀i c d,cs[i]? = some c->cs[i+1]? = some d->ww c.1 d.1=true)->cs.length<=m->vw K H a=none->Q (.ref a) H'
theorem Fo(F:fy K "_law_crowd" "_law_crowd" j9 f fd) (T:fV K mg)(zCsmall:aZ P w K mg base "_law_small" ["_law_state_here"] 3 (j0 K)) (zCabove:aZ P w K mg base "_law_above" ["_law_state_here"] 3 (jV K))
  (zCtake:aZ P w K mg base "_law_take" ["_law_state_here", "_law_many"] 1 (ik K)) (zCplus:aZ P w K mg base "_law_plus" ["_law_one", "_law_other"] 3 (jG K)):bZ P w K mg base fk 4 f fd ["_law_state_here", "_law_most"] (oH K):=by
 have scN:=zF.nd;refine F.okQ zF (λvs H Q E h=>?_) (λcdv A outer s H vs Q E hr h=>?_)
 .obtain⟨a,_,rfl,_⟩:=h;rfl
 .obtain⟨st,m,rfl,hm,hst,h⟩:=h;refine⟨_,(ag (av (i:=2) scN rfl (·) (bY ae))
   (ag (av (i:=3) scN rfl (·) (ao zCsmall nofun rfl (aa (qv 0) ae)))
   (ag (cZ PassesOwn.never rfl (cL rfl T.b_range (aa (ao zCtake nofun rfl (aa (qv 0) (aa (ar cz (qv 1) af) ae))) ae)) (au (i:=4) scN rfl (·)) (ag (lD (yA XW PySem.F.slot_list_append PySem.F.type_list_append jf (qv 2) (aa (aN (aa (qv 3) (aa (ao zCabove nofun rfl (aa (qv 0) ae)) ae))) ae)))
   (aj (av (i:=3) scN rfl (·) (ao zCplus nofun rfl (aa (qv 3) (aa (ao zCabove nofun rfl (aa (qv 0) ae)) ae)))))))
   (aj (aB (qv 2)))))),?_⟩
  walk_at"m";symm
  simp only[ik,j0];symm
  refine⟨∅,λa H1 ha S1 h1=>⟨hst.same S1,λv H2 q B2 S2 r2 f2 c1 c2 c5=>⟨S2,(),(),λn H3 n0 n1 B3 S3=>⟨(),(),?_⟩⟩⟩⟩;have nst:st≠a:=((hst.ne ha)).symm;have h3:=B3 _ _ nst.symm (B2 _ _ nst.symm h1);have hr2:aP (vw K H3) (fr q) v:=by
   obtain⟨_,_,z,_⟩:=id S2;exact aP.flat_but z B3 _ _ (eN q) r2
  refine bJ (its:=eX 0 n.toNat) (λi σ H'=>∃v y q cs,σ=[some (.ref st),some (.int m),some (.ref a),some v,y]/\jg st (vw K H) (vw K H')/\gj (vw K H') st/\gW (vw K H') a (cs.map oh)/\cs.length=i/\aP (vw K H') (fr q) v/\Fq q/\Bq (10+12*i) q/\Sx (36+36*i) q/\(∀c∈cs,Sx 300 c.1/\Sx 36 c.2) /\
   (∀c∈cs,Fq c.1/\Fq c.2/\0<c.2.1)/\(∀c∈cs,Bq 100 c.1/\Bq 10 c.2)/\(∀i c d,cs[i]? = some c->cs[i+1]? = some d->ww c.1 d.1=true) /\ ∀c,cs.getLast? = some c->ww c.1 q=true) (λ_ _ _ _ _=>bH)
   ⟨v,_,q,[],rfl,((S1.but st).trans B2).trans B3,S3,⟨[],h3,.mk_nil⟩,rfl,hr2,f2,⟨c1,c2⟩,c5,by simp,by simp,by simp,by simp,by simp⟩ ?_ ?_
  .rintro i x σ H4 hi hx ⟨v,y,q,cs,rfl,B4,S4,l4,hl,r4,f4,b4,x4,c6,c1,c2,c3,c4⟩;rw[dk] at hi;symm
   simp only[jV,jG];symm
   refine⟨l4.ty,S4,λw5 H5 q5 B5 S5 r5 f5 p5 b5 x5=>⟨∅,λp6 H6 hp6 S6 h6=>?_⟩⟩;have l6:gW (vw K H6) a (cs.map oh):=(l4.stBut (gd cs) (wM cs) S4 B5).same S6;have r46:aP (vw K H6) (fr q) v:=by
    obtain⟨_,_,z,_⟩:=id S4;exact aP.same S6 _ _ (aP.flat_but z B5 _ _ (eN q) r4)
   have r56:=aP.same S6 _ _ r5;obtain⟨xs,hxs,rxs⟩:=id l6;refine⟨xs,hxs,?_,λH7 B7 h7=>?_⟩
   .rw[rxs.length,YD];exact Yd (show cs.length<7 by nofun) ∅
   have S7:gj (vw K H7) st:=(S5.same S6).but hxs nst B7;have r47:=aP.flat_but hxs B7 _ _ (eN q) r46;have r57:=aP.flat_but hxs B7 _ _ (eN q5) r56;have ne6:p6≠a:=λe=>by
    obtain⟨_,z,_⟩:=l4.stBut (gd cs) (wM cs) S4 B5;rw[<-e,hp6] at z;cases z
   have h67:=B7 _ _ ne6 h6;have l7:gW (vw K H7) a ((cs++[(q,q5)]).map oh):=by
    refine⟨_,h7,?_⟩;rw[XT];exact (aI.flat_but hxs B7 _ _ (gd cs) rxs).snoc (.mk_spt h67 r47 r57)
   have B07:jg st (vw K H) (vw K H7):=λb o hb e=>B7 _ _ (ak e ha) (S6 _ _ (B5 _ _ hb (B4 _ _ hb e)));refine⟨S7,λw8 H8 q8 B8 S8 r8 f8 p8 b8 x8=>⟨q,?_⟩⟩;obtain⟨_,_,zst,_⟩:=id S7;have r48:=aP.flat_but zst B8 _ _ (eN q) r47;refine⟨r48,q8,r8,by have:=f4.1;nofun,by have:=f8.1;nofun,b4.mono (),b8.mono ∅,(b4.2.mul b8.2).mono (),λv9 H9 S9 r9=>?_⟩
   refine⟨(B07.trans B8).same_trans S9,S8.same S9,nA q q8,cs++[(q,q5)],(l7.stBut (gd _) (wM _) S7 B8).same S9,by simp[hl],r9,oU f4 f8,(tH f4 f8 b4 b8).mono (),(x4.add f4.ne f8.ne x8).mono (),?_,?_,?_,?_,?_⟩
   .intro c hc;rcases List.mem_append.mp hc with z|z
    .exact c6 c z
    .cases XY.mp z;exact⟨x4.mono (),x5⟩
   .intro c hc;rcases List.mem_append.mp hc with z|z
    .exact c1 c z
    .cases XY.mp z;exact⟨f4,f5,p5⟩
   .intro c hc;rcases List.mem_append.mp hc with z|z
    .exact c2 c z
    .cases XY.mp z;exact⟨b4.mono (),b5⟩
   .intro j c d e1 e2;by_cases hj:j+1<cs.length
    .rw[Yz ()] at e1;rw[Yz hj] at e2;exact c3 j c d e1 e2
    .have hj2:j+1=cs.length:=by
      have:=(List.getElem?_eq_some_iff.mp e2).1;simp at this;nofun
     rw[Yy (),hj2,Xj] at e2;cases e2;rw[Yz ()] at e1;refine c4 c ?_;rw[Xe,<-hj2];exact e1
   .intro c hc;rw[List.getLast?_concat] at hc;cases hc;exact FI f4 f8 p8
  .rintro σ H4 ⟨v,y,q,cs,rfl,B4,S4,l4,hl,r4,f4,b4,x4,c6,c1,c2,c3,c4⟩;symm
   exact h a H4 cs B4 S4 l4 c1 c2 c6 c3 (by rw[hl,dk];nofun) ha
structure L7 (K:W.Frag)(op:Int×Int->Int×Int->Int×Int)(p q:Int×Int)(x y:V)(H:Hp)(Q:VK):Prop where
 r1:aP (vw K H) (fr p) x
 r2:aP (vw K H) (fr q) y
 n1:p.2≠0
 n2:q.2≠0
 b1:Bq 20000 p
 b2:Bq 20000 q
 bb:Bt 9000 (p.2*q.2)
 k:∀v H',aC (vw K H) (vw K H')->aP (vw K H') (fr (op p q)) v->Q v H'
theorem Ct{p q:Int×Int}{x y:V}{H:Hp}{Q:VK}{E:XK}(h:L7 K qo p q x y H Q):iE K [x,y] H Q E:=⟨x,y,p,q,rfl,h.r1,h.r2,h.n1,h.n2,h.b1,h.b2,h.bb,h.k⟩
theorem Bj{p q:Int×Int}{x y:V}{H:Hp}{Q:VK}{E:XK}(h:L7 K xA p q x y H Q):oW K [x,y] H Q E:=⟨x,y,p,q,rfl,h.r1,h.r2,h.n1,h.n2,h.b1,h.b2,h.bb,h.k⟩
theorem uB:aS []:=⟨(λ_ z=>by cases z),(λ_ z=>by cases z)⟩
theorem jP{q:Int×Int}:wv (-q.1,q.2) = -(wv q):=by
 unfold wv;show ((-q.1:Int):Rat)/_=_;rw[XG];grind
theorem Cq{q:Int×Int}(h:Fq q):Fq (-q.1,q.2):=⟨h.1,by have:=h.2;simpa [Int.gcd,Int.natAbs_neg] using this⟩
theorem JL{n:Nat}{x:Int}(h:Bt n x):Bt n (-x):=by unfold Bt at *;rw[Int.natAbs_neg];exact h
theorem gR:wv (1,1)=1:=by
 show ((1:Int):Rat)/((1:Int):Rat)=1;have c1:((1:Int):Rat)=1:=rfl;rw[c1];grind
theorem jx:Fq (1,1):=⟨∅,∅⟩
theorem pD:Bq 1 (1,1):=⟨∅,∅⟩
theorem vT{p:Int×Int}{a b:Rat}(k:Nat):cf [p] k=wv p*Lp a b 0 k:=by
 rcases k with _|k
 .show wv p=wv p*1;grind
 .show (0:Rat)=wv p*0;grind
theorem yW:aS [(1,1)]:=⟨λq hq=>by rw[XY] at hq;subst hq;exact jx,λq hq=>by cases hq;decide⟩
theorem ko{q:Int×Int}(h:Fq q):Fq (0-q.1,q.2):=⟨h.1,by have:=h.2;rw[Int.zero_sub,Int.neg_gcd];exact this⟩
theorem oK{n:Nat}{q:Int×Int}(h:Bq n q):Bq n (0-q.1,q.2):=⟨by have:=h.1;unfold Bt at this ⊢;show (0-q.1).natAbs<_;nofun,h.2⟩
theorem qb{rs ts us:List (Int×Int)}{m n:Nat}(hr:aS rs)(ht:aS ts)(hu:aS us)(lr:rs.getLast? = some (1,1))(lt:ts.getLast? = some (1,1))(er:rs.length=m+1)(et:ts.length=n+1)(e:∀k,cf us k=pr (cf rs) (cf ts) rs.length k):us.getLast? = some (1,1)/\us.length=m+n+1:=by
 have r1:cf rs m=1:=by
  rw[Xe,er,Xk] at lr;rw[bN lr,gR]
 have t1:cf ts n=1:=by
  rw[Xe,et,Xk] at lt;rw[bN lt,gR]
 have u1:cf us (m+n)=1:=by
  rw[e,nJ (d:=n) (i:=m) (λj hj=>aJ ()) (λj hj=>aJ ()),Yb (),r1,t1];grind
 have l:us.length=m+n+1:=wI hu (by rw[u1];grind) λk hk=>by
  rw[e];exact gy (n:=n+1) (λi hi=>aJ ()) _ _ ()
 refine⟨?_,l⟩;rw[Xe,l,Xk,YK (show m+n<us.length by nofun)]
 rw[bN (YK (show m+n<us.length by nofun)),<-gR] at u1
 rw[ju (hu.1 _ (YJ _)) jx u1]
theorem mh{p:Int×Int}(h:Fq p):aS [p,(1,1)]:=⟨λq hq=>by
 rcases YY.mp hq with rfl|hq
 .exact h
 .rw[XY] at hq;subst hq;exact jx,λq hq=>by cases hq;show (1:Int)≠0;decide⟩
theorem Jv{p:Int×Int}{b:Nat}(h1:Sx b p)(hb:b<64):Pb 6 (cf [p]):=by
 obtain⟨m,e1,l1⟩:=h1;exact⟨6,∅,∅,wF e1 (show m.natAbs<2^6 by nofun)⟩
theorem kE{a b:Addr}{fs gs:List (Int×Int)}(B:Nat) {H:Hp}{Q:VK}{E:XK}(la:aW (vw K H) a fs)(lb:aW (vw K H) b gs)(l1:fs.length<=40)(l2:gs.length<=40)(h1:1<=B)(h2:B<=400)(h3:fs.length*(2*B+1)<=8000)(f1:∀q∈fs,Fq q/\Bq B q)(f2:∀q∈gs,Fq q/\Bq B q)
  (k:∀d H' (rs:List (Int×Int)),aC (vw K H) (vw K H')->aW (vw K H') d rs->vw K H d=none->aS rs->(∀k,cf rs k=pr (cf fs) (cf gs) fs.length k)->rs.length<=fs.length+gs.length->(∀q∈rs,Bq (1+fs.length*(2*B+1)) q)->Q (.ref d) H'):eI K [.ref a,.ref b] H Q E:=⟨a,b,fs,gs,B,rfl,la,lb,l1,l2,h1,h2,h3,f1,f2,k⟩
theorem zN{a b:Addr}{y:V}{fs gs:List (Int×Int)}{c:Int×Int}(B:Nat) {H:Hp}{Q:VK}{E:XK}(la:aW (vw K H) a fs)(lb:aW (vw K H) b gs)(ry:aP (vw K H) (fr c) y)(l1:fs.length<=40)(l2:gs.length<=40)(h1:1<=B)(h2:B<=1300)(f1:∀q∈fs,Fq q/\Bq B q)(f2:∀q∈gs,Fq q/\Bq B q)(fc:Fq c)(bc:Bq B c)
  (k:∀d H' (rs:List (Int×Int)),aC (vw K H) (vw K H')->aW (vw K H') d rs->vw K H d=none->aS rs->(∀k,cf rs k=cf fs k+cf gs k*wv c)->rs.length<=max fs.length gs.length->(∀q∈rs,Bq (3*B+1) q)->Q (.ref d) H'):li K [.ref a,.ref b,y] H Q E:=⟨a,b,y,fs,gs,c,B,rfl,la,lb,ry,l1,l2,h1,h2,f1,f2,fc,bc,k⟩
theorem FE{p q:Int×Int}{x y:V}{H:Hp}{Q:VK}{E:XK}(r1:aP (vw K H) (fr p) x)(r2:aP (vw K H) (fr q) y)(n1:p.2≠0)(n2:q.2≠0)(n3:q.1≠0)(b1:Bq 20000 p)(b2:Bq 20000 q)(bb:Bt 9000 (p.2*q.1))(k:∀v H',aC (vw K H) (vw K H')->aP (vw K H') (fr (tO p q)) v->Q v H'):tF K [x,y] H Q E:=⟨x,y,p,q,rfl,r1,r2,n1,n2,n3,b1,b2,bb,k⟩
theorem HR{H:Hp}{y:Addr}{i:Int}{v:V}{R:Int->V->Prop}(h:vw K H y=some (.tup [.int i,v]))(k:R i v):∃a,V.ref y=V.ref a /\ ∃xs,vw K H a=some (.tup xs) /\ ∃w,jo xs 0=some w /\ ∃n,w=V.int n /\ ∃a,V.ref y=V.ref a /\ ∃xs,vw K H a=some (.tup xs) /\ ∃w,jo xs 1=some w/\R n w:=⟨_,rfl,_,h,_,gE,_,rfl,_,rfl,_,h,_,jT,k⟩
theorem BD{H:Hp}{a y:Addr}{xs:List V}{i:Int}{u v:V}{R:V->Prop}(hx:vw K H a=some (.lst xs))(hl:jo xs i=some (.ref y))(h:vw K H y=some (.tup [u,v]))(k:R u):∃xs,vw K H a=some (.lst xs) /\ ∃w,jo xs i=some w /\ ∃p,w=V.ref p /\ ∃xs,vw K H p=some (.tup xs) /\ ∃w,jo xs 0=some w/\R w:=⟨_,hx,_,hl,_,rfl,_,h,_,gE,k⟩
theorem Kq{H:Hp}{a y:Addr}{xs:List V}{i:Int}{u v:V}{R:V->Prop}(hx:vw K H a=some (.lst xs))(hl:jo xs i=some (.ref y))(h:vw K H y=some (.tup [u,v]))(k:R v):∃xs,vw K H a=some (.lst xs) /\ ∃w,jo xs i=some w /\ ∃p,w=V.ref p /\ ∃xs,vw K H p=some (.tup xs) /\ ∃w,jo xs 1=some w/\R w:=⟨_,hx,_,hl,_,rfl,_,h,_,jT,k⟩
theorem Ia{H:Hp}{a y z:Addr}{xs:List V}{i n:Int}{u v:V}{R:Int->V->Prop}(hx:vw K H a=some (.lst xs))(hl:jo xs i=some (.ref y))(h:vw K H y=some (.tup [.ref z,v]))(hz:vw K H z=some (.tup [.int n,u]))(k:R n u) :
  ∃xs,vw K H a=some (.lst xs) /\ ∃w,jo xs i=some w /\ ∃p,w=V.ref p /\ ∃xs,vw K H p=some (.tup xs) /\ ∃w,jo xs 0=some w /\ ∃p,w=V.ref p /\ ∃xs,vw K H p=some (.tup xs) /\ ∃w,jo xs 0=some w /\ ∃n,w=V.int n /\
   ∃xs,vw K H a=some (.lst xs) /\ ∃w,jo xs i=some w /\ ∃p,w=V.ref p /\ ∃xs,vw K H p=some (.tup xs) /\ ∃w,jo xs 0=some w /\ ∃p,w=V.ref p /\ ∃xs,vw K H p=some (.tup xs) /\ ∃w,jo xs 1=some w/\R n w:=⟨_,hx,_,hl,_,rfl,_,h,_,gE,_,rfl,_,hz,_,gE,_,rfl,_,hx,_,hl,_,rfl,_,h,_,gE,_,rfl,_,hz,_,jT,k⟩
theorem su{q:Int×Int}(h:Sx 300 q):Pb 9 (cf [(0-q.1,q.2),(1,1)]):=by
 obtain⟨n,e,l⟩:=h;have c6:((6:Int):Rat)=6:=rfl;refine⟨6,∅,∅,CB (m:=-n) (n:=6) ?_ ?_ ?_ ∅⟩
 .rw[show (0-q.1) = -q.1 by nofun,jP (q:=q),e,XG,c6]
  grind
 .rw[gR,c6];grind
 .show (-n).natAbs<2^9;nofun
theorem rW{b:Nat}{q:Int×Int}(h:Sx b q)(f:Fq q)(hb:b<512):Bq 9 q:=by
 obtain⟨n,e,l⟩:=h;have c6:((6:Int):Rat)=6:=rfl;have h6:(6:Int)≠0:=∅;have:q=lo n 6:=ju f (iP h6) (by rw[gS h6,e,c6])
 rw[this];exact lM h6 (show n.natAbs<2^9 by nofun) ∅
theorem tE{a b:Nat}{f:Nat->Rat}{p q:Int×Int}(h1:Pb a f)(h2:Pb b (cf [p,q])):Pb (a+b+1) (lin (wv p) (wv q) f):=by
 obtain⟨D,hD,bD,oD⟩:=h1;obtain⟨E,hE,bE,oE⟩:=h2;obtain⟨m,em,bm⟩:=oE 0;obtain⟨n,en,bn⟩:=oE 1;have em:wv p=(m:Rat)/(E:Rat):=em;have en:wv q=(n:Rat)/(E:Rat):=en;have c1:=aq hD;have c2:=aq hE;refine⟨D*E,Y9 hD hE,(bD.mul bE).mono (),λk=>?_⟩;cases k with
 | zero =>
  obtain⟨x,ex,bx⟩:=oD 0;refine⟨x*m,?_,(bx.mul bm).mono ()⟩;show f 0*wv p=_;rw[ex,em,Xb,Xb];grind
 | succ k =>
  obtain⟨x,ex,bx⟩:=oD (k+1);obtain⟨y,ey,by'⟩:=oD k;refine⟨x*m+y*n,?_,((bx.mul bm).add (by'.mul bn)).mono ()⟩;show f (k+1)*wv p+f k*wv q=_;rw[ex,ey,em,en,Xa,Xb,Xb,Xb];grind
theorem BB{p q:Int×Int}(hp:Fq p)(hq:Fq q)(h:ww p q=true):wv p<wv q:=by
 unfold ww at h;have h:=XB h;have h1:((p.1*q.2:Int):Rat)<((q.1*p.2:Int):Rat):=Rat.intCast_lt_intCast.mpr h;have p2:(0:Rat)<((p.2:Int):Rat):=Rat.intCast_pos.mpr hp.1;have q2:(0:Rat)<((q.2:Int):Rat):=Rat.intCast_pos.mpr hq.1;rw[Xb,Xb] at h1;unfold wv;rw[Rat.div_lt_iff p2];have:(q.1:Rat)/(q.2:Rat)*(p.2:Rat)=((q.1:Rat)*(p.2:Rat))/(q.2:Rat):=⋯;rw[this,Xx q2];exact h1
theorem jc{cs:List gP}(fc:∀c∈cs,Fq c.1/\Fq c.2)(inc:∀i c d,cs[i]? = some c->cs[i+1]? = some d->ww c.1 d.1=true):∀(m i:Nat)(c d:gP),cs[i]? = some c->cs[i+m+1]? = some d->wv c.1<wv d.1
 | 0,i,c,d,h1,h2=>BB (fc c (YB h1)).1 (fc d (YB h2)).1 (inc i c d h1 h2)
 | m+1,i,c,d,h1,h2=>by
  have hl:=(List.getElem?_eq_some_iff.mp h2).1;obtain⟨e,he⟩ : ∃e,cs[i+m+1]? = some e:=⟨_,YK ()⟩;have a1:=jc fc inc m i c e h1 he;have a2:=BB (fc e (YB he)).1 (fc d (YB h2)).1 (inc (i+m+1) e d he h2);grind
theorem uI{cs:List gP}(fc:∀c∈cs,Fq c.1/\Fq c.2)(inc:∀i c d,cs[i]? = some c->cs[i+1]? = some d->ww c.1 d.1=true) {i j:Nat}{c d:gP}(hne:i≠j)(h1:cs[i]? = some c)(h2:cs[j]? = some d):wv c.1≠wv d.1:=by
 rcases Nat.lt_or_gt_of_ne hne with z|z
 .obtain⟨m,rfl⟩ : ∃m,j=i+m+1:=⟨j-i-1,()⟩;have:=jc fc inc m i c d h1 h2;grind
 .obtain⟨m,rfl⟩ : ∃m,i=j+m+1:=⟨i-j-1,()⟩;have:=jc fc inc m j d c h2 h1;grind
theorem Hu{p q t b:Int×Int}{n:Nat}(fp:Fq p)(fq:Fq q)(xp:Sx 300 p)(xq:Sx 300 q)(hne:wv p≠wv q)(hb:wv b=1/(wv p-wv q))(ht:wv t = -(wv q)*wv b):Pb 10 (cf [t,b]):=by
 obtain⟨m,em,lm⟩:=xp;obtain⟨k,ek,lk⟩:=xq;have hd:m-k≠0:=λz=>hne (by rw[em,ek,show m=k by nofun])
 have c1:=aq hd;rw[Xc] at c1;have c6:((6:Int):Rat)=6:=rfl;refine⟨m-k,hd,show (m-k).natAbs<2^10 by nofun,CB (m:=-k) (n:=6) ?_ ?_ (show (-k).natAbs<2^10 by nofun) ∅⟩
 .rw[ht,hb,em,ek,XG,Xc];grind
 .rw[hb,em,ek,Xc,c6];grind
theorem iD{cs:List gP}(fc:∀c∈cs,Fq c.1/\Fq c.2)(inc:∀i c d,cs[i]? = some c->cs[i+1]? = some d->ww c.1 d.1=true):(iZ cs).Nodup:=by
 rw[List.nodup_iff_pairwise_ne,List.pairwise_iff_getElem];intro i j hi hj hij;rw[fg] at hi hj;have e1:=jK (YK hi);have e2:=jK (YK hj);rw[YK (by rw[fg];exact hi)] at e1
 rw[YK (by rw[fg];exact hj)] at e2
 rw[Ym e1,Ym e2];exact uI fc inc () (YK hi) (YK hj)
theorem AM{cs:List gP}{n:Nat}(fc:∀c∈cs,Fq c.1/\Fq c.2)(inc:∀i c d,cs[i]? = some c->cs[i+1]? = some d->ww c.1 d.1=true)(hn:n<cs.length):vg cs n∉jH cs n:=yL hn (iD fc inc)
theorem si{c:Rat}{f:Nat->Rat}(x:Rat):EV (λk=>c*f k) x=c*EV f x:=by
 have:∀n,fm (λk=>c*f k) n x=c*fm f n x:=λn=>by
  induction n with
  | zero=>show (0:Rat)=c*0;grind
  | succ n ih =>
   show fm (λk=>c*f k) n x+c*f n*cQ x n=c*(fm f n x+f n*cQ x n);rw[ih];grind
 exact this 20
theorem BO(x:Rat):EV (cf []) x=0:=by
 rw[gJ (n:=0) (λk _=>A9 k) ∅];rfl
theorem GN(x:Rat):EV (cf [(1,1)]) x=1:=by
 rw[cD (vT (a:=0) (b:=0)),si,pN,gR];grind
theorem Ik(x:Rat):EV (DF (cf [(1,1)])) x=0:=by
 rw[gJ (n:=0) (λk _=>by unfold DF;rw[aJ (show [((1:Int),(1:Int))].length<=k+1 by show 1<=k+1;nofun)];grind) ∅]
 rfl
theorem FP{cs:List gP}{n i:Nat}(hn:n<cs.length):(jH cs n)[i]? = if i<n then (iZ cs)[i]? else (iZ cs)[i+1]?:=by
 unfold jH;by_cases h:i<n
 .rw[Yb h,Yz (by rw[Yw,fg];nofun),Xf,Yb h]
 .rw[Yc h,Yy (by rw[Yw,fg];nofun),Yw,fg,List.getElem?_drop,show n+1+(i-min n cs.length)=i+1 by nofun]
def i8(K:W.Frag):Sp:=λvs H Q _=>∃(a:Addr)(cs:List gP),vs=[.ref a]/\gW (vw K H) a (cs.map oh)/\cs.length<=6/\(∀c∈cs,Fq c.1/\Fq c.2)/\(∀c∈cs,Sx 300 c.1/\Sx 36 c.2)/\(∀i c d,cs[i]? = some c->cs[i+1]? = some d->ww c.1 d.1=true) /\
 ∀(p c d:Addr) H' (rs ws:List (Int×Int)),aC (vw K H) (vw K H')->vw K H' p=some (.tup [.ref c,.ref d])->aW (vw K H') c rs->aW (vw K H') d ws->aS rs->aS ws->rs.getLast? = some (1,1)->rs.length=cs.length+1->ws.length<=cs.length->Pb 71 (cf rs)->Pb 500 (cf ws)->(∀x,EV (cf rs) x=bB (iZ cs) x)->(∀x,EV (DF (cf rs)) x=kO (iZ cs) x)->(∀x,EV (cf ws) x=tG cs cs.length x)->Q (.ref p) H'
theorem xy(F:fy K "_law_flock_of" "_law_flock_of" gi f fd) (T:fV K mg)(zCmultiplied:aZ P w K mg base "_law_multiplied" ["_law_f", "_law_g"] 4 (eI K)) (zCover:aZ P w K mg base "_law_over" ["_law_one", "_law_other"] 3 (tF K)) (zCminus:aZ P w K mg base "_law_minus" ["_law_one", "_law_other"] 3 (oW K)) (zCtimes:aZ P w K mg base "_law_times" ["_law_one", "_law_other"] 3 (iE K)) (zCsummed:aZ P w K mg base "_law_summed" ["_law_f", "_law_g", "_law_by"] 4 (li K)):bZ P w K mg base fk 5 f fd ["_law_crowd_here"] (i8 K):=by
 have scN:=qi.nd;refine F.okQ qi (λvs H Q E h=>?_) (λcdv A outer s H vs Q E hr h=>?_)
 .obtain⟨_,_,rfl,_⟩:=h;rfl
 .obtain⟨a,cs,rfl,ha,lc,fc,xc,inc,h⟩:=h;refine⟨_,(ag (av (i:=1) scN rfl (·) (bY (aa (aN (aa af (aa af ae))) ae)))
   (ag (av (i:=2) scN rfl (·) (bY ae))
   (ag (cZ PassesOwn.never rfl (cL rfl T.b_range (aa (aw aF (by rfl) T.b_len bV (aa (qv 0) ae)) ae)) (au (i:=3) scN rfl (·)) (ag (av (i:=4) scN rfl (·) (bY (aa (ay b9 (ay dL (qv 0) (qv 3) (λ_ _=>rfl)) af (λ_ _=>rfl)) ae)))
   (ag (cZ PassesOwn.never rfl (cL rfl T.b_range (aa (aw aF (by rfl) T.b_len bV (aa (qv 0) ae)) ae)) (au (i:=5) scN rfl (·)) (aj (du (aO mH (qv 5) (qv 3) (aV _)) (ag (av (i:=6) scN rfl (·) (ao zCover nofun rfl (aa (aN (aa af (aa af ae))) (aa (ao zCminus nofun rfl (aa (ay b9 (ay dL (qv 0) (qv 3) (λ_ _=>rfl)) af (λ_ _=>rfl)) (aa (ay b9 (ay dL (qv 0) (qv 5) (λ_ _=>rfl)) af (λ_ _=>rfl)) ae))) ae))))
   (ag (av (i:=7) scN rfl (·) (ay b9 (ay dL (qv 0) (qv 5) (λ_ _=>rfl)) af (λ_ _=>rfl)))
   (aj (av (i:=4) scN rfl (·) (ao zCmultiplied nofun rfl (aa (qv 4) (aa (bY (aa (ao zCtimes nofun rfl (aa (qv 6) (aa (aN (aa (ar cx af (ay b9 (qv 7) af (λ_ _=>rfl))) (aa (ay b9 (qv 7) af (λ_ _=>rfl)) ae))) ae))) (aa (qv 6) ae))) ae))))))) bK)))
   (ag (av (i:=2) scN rfl (·) (ao zCsummed nofun rfl (aa (qv 2) (aa (qv 4) (aa (aN (aa af (aa af ae))) ae)))))
   (aj (av (i:=1) scN rfl (·) (ao zCmultiplied nofun rfl (aa (qv 1) (aa (bY (aa (aN (aa (ar cx af (ay b9 (ay b9 (ay dL (qv 0) (qv 3) (λ_ _=>rfl)) af (λ_ _=>rfl)) af (λ_ _=>rfl))) (aa (ay b9 (ay b9 (ay dL (qv 0) (qv 3) (λ_ _=>rfl)) af (λ_ _=>rfl)) af (λ_ _=>rfl)) ae))) (aa (aN (aa af (aa af ae))) ae))) ae)))))))))
   (aj (aB (aN (aa (qv 1) (aa (qv 2) ae)))))))),?_⟩
  walk_at"m";refine aU.gen λN1 hN1=>?_;symm
  refine⟨∅,λz1 H1 hz1 S1 h1=>⟨∅,λr0 H2 hr0 S2 h2=>hN1 _ _ ?_⟩⟩;refine aU.gen λN2 hN2=>?_;symm
  refine⟨∅,λw0 H3 hw0 S3 h3=>hN2 _ _ ?_⟩;refine aU.gen λN3 hN3=>?_;have S03:=S1.trans (S2.trans S3);obtain⟨xs,hxs,rxs⟩:=id ha;have lxs:xs.length=cs.length:=by rw[rxs.length,YD]
  have pick:∀(i:Nat)(H':Hp),aC (vw K H) (vw K H')->i<cs.length -> ∃(p:Addr)(u v:V)(c:gP),cs[i]? = some c/\jo xs (i:Int)=some (.ref p)/\vw K H' p=some (.tup [u,v])/\aP (vw K H') (fr c.1) u/\aP (vw K H') (fr c.2) v:=λi H' S hi=>by
   obtain⟨x,e⟩ : ∃x,xs[i]? = some x:=⟨_,YK ()⟩;obtain⟨d',hd',rx⟩:=(rxs.same S).get e;rw[YA,YK hi] at hd';cases hd';obtain⟨p,u,v,rfl,hp,ru,rv⟩:=aP.spt_at rx;exact⟨p,u,v,_,YK hi,cG e,hp,ru,rv⟩
  symm
  have ha3:∀{H':Hp},aC (vw K H) (vw K H')->fS (vw K H') a=some cs.length:=λS=>by
   unfold fS;rw[S _ _ hxs];show some xs.length=_;rw[lxs]
  refine⟨_,ha3 S03,(),(),?_⟩;obtain⟨B,hB,hB1,hB2⟩ : ∃B:Nat,7+11*(cs.length-1)<=B/\B<=73/\(cs.length<=4->B<=40):=⟨if cs.length<=4 then 40 else 73,by split<;>nofun,by split<;>nofun,λz=>by rw[Yb z];exact Yq _⟩
  have hBn:∀n,n<cs.length->B*n<=73*6:=λn hn=>Xp hB1 ();obtain⟨Pw,hPw⟩ : ∃Pw:Nat->St->Hp->Prop,∀n σ H',Pw n σ H' ↔ ∃(ra wa:Addr)(rs ws:List (Int×Int))(o3 o4 o5 o6 o7:Option V),σ=[some (.ref a),some (.ref ra),some (.ref wa),o3,o4,o5,o6,o7]/\aC (vw K H3) (vw K H')/\aW (vw K H') ra rs/\aS rs/\rs.getLast? = some (1,1)/\rs.length=n+1/\Pb (1+10*n) (cf rs)/\(∀x,EV (cf rs) x=bB ((iZ cs).take n) x)/\(∀x,EV (DF (cf rs)) x=kO ((iZ cs).take n) x) /\
   aW (vw K H') wa ws/\aS ws/\ws.length<=cs.length/\Pb (1+B*n) (cf ws)/\(∀x,EV (cf ws) x=tG cs n x):=⟨_,λ_ _ _=>XJ⟩
  refine bJ (its:=eX 0 _) Pw (λ_ _ _ _ _=>bH) ((hPw _ _ _).mpr ⟨r0,w0,[(1,1)],[],none,none,none,none,none,rfl,.rfl,⟨_,S3 _ _ h2,.mk_cons (bQ ((S2.trans S3) _ _ h1)) .mk_nil⟩,yW,rfl,rfl,⟨1,∅,∅,wF (m:=1) rfl ∅⟩,GN,Ik,⟨_,h3,.mk_nil⟩,uB,YS _,C0 (by rw[Nat.mul_zero];decide),BO⟩) (λn x σ H5 hn hx pw=>?_) (λσ H5 pw=>?_)
  .obtain⟨ra,wa,rs,ws,o3,o4,o5,o6,o7,rfl,S5,lr,pr',hl,len,pb,ev1,ev2,lw,pw',lenw,pbw,evw⟩:=(hPw _ _ _).mp pw;obtain⟨hn',rfl⟩:=dP hx;have hn2:n<cs.length:=();have S05:=S03.trans S5;obtain⟨pi,ui,vi,ci,eci,eai,hpi,rui,rvi⟩:=pick n H5 S05 hn2;have hci:=YB eci;obtain⟨fi1,fi2⟩:=fc ci hci;obtain⟨xi1,xi2⟩:=xc ci hci;have bi:=rW xi1 fi1 ∅;refine aU.gen λN5 hN5=>?_;symm
   rw[XS];refine Kq (S05 _ _ hxs) eai hpi ⟨∅,λu0 H6 hu0 S6 h6=>hN5 _ _ ?_⟩;have S06:=S05.trans S6;refine aU.gen λN6 hN6=>?_;symm
   refine⟨_,ha3 S06,(),(),?_⟩;have r6:aW (vw K H6) u0 [ci.2]:=⟨_,h6,.mk_cons (aP.same S6 _ _ rvi) .mk_nil⟩;obtain⟨cnt,hcnt⟩ : ∃cnt:Nat->Nat,∀j,cnt j=if j<=n then j else j-1:=⟨_,λ_=>rfl⟩
   obtain⟨Pi,hPi⟩ : ∃Pi:Nat->St->Hp->Prop,∀j σ H',Pi j σ H' ↔ ∃(oa:Addr)(os:List (Int×Int))(o5 o6 o7:Option V),σ=[some (.ref a),some (.ref ra),some (.ref wa),some (.int n),some (.ref oa),o5,o6,o7]/\aC (vw K H6) (vw K H')/\aW (vw K H') oa os/\(∀q∈os,Fq q)/\os.length<=1+cnt j/\Pb (6+11*cnt j) (cf os)/\(∀x,EV (cf os) x=HH cs n*bB ((jH cs n).take (cnt j)) x/bB ((jH cs n).take (cnt j)) (vg cs n)):=⟨_,λ_ _ _=>XJ⟩;have c0':cnt 0=0:=by rw[hcnt,Yb ()]
   refine bJ (its:=eX 0 _) Pi (λ_ _ _ _ _=>bH) ((hPi _ _ _).mpr ⟨u0,[ci.2],_,_,_,rfl,.rfl,r6,(λq hq=>by rw[XY] at hq;subst hq;exact fi2),by rw[c0'];show 1<=1+0;decide,by rw[c0'];exact Jv xi2 ∅,λy=>?_⟩) (λj x σ H7 hj hx pj=>?_) (λσ H7 pj=>?_)
   .rw[c0',cD (vT (a:=0) (b:=0)),vX eci];show EV (λk=>wv ci.2*Lp 0 0 0 k) y=wv ci.2*1/1;rw[si,pN];grind
   .obtain⟨oa,os,o5,o6,o7,rfl,S7,lo',fo,leno,pbo,evo⟩:=(hPi _ _ _).mp pj;rw[dk] at hj;obtain⟨hj',rfl⟩:=dP hx;have hj2:j<cs.length:=();have S07:=S06.trans S7;symm
    refine ee (λhne=>?_) (λheq=>?_)
    rotate_left
    .have hjn:j=n:=();subst hjn;have ce:cnt (j+1)=cnt j:=by rw[hcnt,hcnt,Yc (),Yb (Yq _)];nofun
     refine (hPi _ _ _).mpr ⟨oa,os,_,_,_,rfl,S7,lo',fo,?_,?_,?_⟩
     .rw[ce];exact leno
     .rw[ce];exact pbo
     .rw[ce];exact evo
    have hjn:j≠n:=();refine⟨∅,λt1 E1 ht1 V1 e1=>?_⟩;have S71:=S07.trans V1;obtain⟨pi',ui',vi',ci',eci',eai',hpi',rui',_⟩:=pick n E1 S71 hn2;rw[eci] at eci';cases eci';obtain⟨pj',uj,vj,cj,ecj,eaj,hpj,ruj,rvj⟩:=pick j E1 S71 hj2;have hcj:=YB ecj;obtain⟨fj1,fj2⟩:=fc cj hcj;obtain⟨xj1,xj2⟩:=xc cj hcj;have hne':=uI fc inc (Ne.symm hjn) eci ecj;have bj:=rW xj1 fj1 ∅;rw[XS];refine BD (S71 _ _ hxs) eai' hpi' (BD (S71 _ _ hxs) eaj hpj ?_);refine Bj (p:=ci.1) (q:=cj.1) ⟨rui',ruj,fi1.ne,fj1.ne,bi.mono ∅,bj.mono ∅,(bi.2.mul bj.2).mono ∅,λv2 E2 V2 r2=>?_⟩;obtain⟨dq,hdq⟩ : ∃dq,dq=xA ci.1 cj.1:=⟨_,rfl⟩;have fd':Fq dq:=by rw[hdq];exact FF fi1 fj1
    have bd':Bq 19 dq:=by rw[hdq];exact EC fi1 fj1 bi bj
    have wd':wv dq=wv ci.1-wv cj.1:=by rw[hdq,HP fi1.ne fj1.ne]
    rw[<-hdq] at r2;have d0:dq.1≠0:=λz=>hne' (by
     have:wv dq=0:=by
      unfold wv;have c0:((0:Int):Rat)=0:=rfl;rw[z,c0];grind
     rw[wd'] at this;grind)
    refine FE (p:=(1,1)) (q:=dq) (bQ (V2 _ _ e1)) r2 ∅ fd'.ne d0 (pD.mono ∅) (bd'.mono ∅) ((pD.2.mul bd'.1).mono ∅) λv3 E3 V3 r3'=>?_;obtain⟨bq',hbq'⟩ : ∃bq',bq'=tO (1,1) dq:=⟨_,rfl⟩;have fb':Fq bq':=by rw[hbq'];exact yk jx d0
    have bb':Bq 20 bq':=by rw[hbq'];exact xP jx d0 pD bd'
    have wb':wv bq'=1/(wv ci.1-wv cj.1):=by rw[hbq',DC jx.ne fd'.ne d0,gR,wd']
    rw[<-hbq'] at r3';have S13:=V2.trans V3;have S73:=S71.trans S13;obtain⟨yj,rfl,hyj⟩:=id ruj.fr_at;have hyj3:=S13 _ _ hyj;refine BD (S73 _ _ hxs) eaj (S13 _ _ hpj) ?_;refine HR hyj3 ⟨∅,λt4 E4 ht4 V4 e4=>?_⟩;have flj:=ko fj1;have blj:=oK bj;refine Ct (p:=bq') (q:=(0-cj.1.1,cj.1.2)) ⟨aP.same V4 _ _ r3',bQ e4,fb'.ne,flj.ne,bb'.mono ∅,blj.mono ∅,(bb'.2.mul blj.2).mono ∅,λv5 E5 V5 r5=>⟨∅,λl6 E6 hl6 V6 e6=>?_⟩⟩;obtain⟨tq,htq⟩ : ∃tq,tq=qo bq' (0-cj.1.1,cj.1.2):=⟨_,rfl⟩;have ft:Fq tq:=by rw[htq];exact oN fb' flj
    have wt:wv tq = -(wv cj.1)*wv bq':=by
     rw[htq,sG fb'.ne flj.ne,show (0-cj.1.1) = -cj.1.1 by nofun,jP (q:=cj.1)]
     grind
    rw[<-htq] at r5;have pbl:Pb 10 (cf [tq,bq']):=Hu (n:=0) fi1 fj1 xi1 xj1 hne' wb' wt;have ftb:∀q∈[tq,bq'],Fq q:=λq hq=>by
     rcases YY.mp hq with rfl|hq
     .exact ft
     .rw[XY] at hq;subst hq;exact fb'
    have V16:=V1.trans (S13.trans (V4.trans (V5.trans V6)));have cn:cnt j<=6/\cnt (j+1)=cnt j+1:=by
     rw[hcnt,hcnt];constructor
     .split<;>nofun
     .split<;>split<;>nofun
    refine kE (fs:=os) (gs:=[tq,bq']) 80 (lo'.same V16) ⟨_,e6,.mk_cons (aP.same V6 _ _ r5) (.mk_cons (aP.same (V4.trans (V5.trans V6)) _ _ r3') .mk_nil)⟩ () (by show 2<=40;decide) ∅ ∅ () (λq hq=>⟨fo q hq,(pbo.mono (b:=80) ()).bq fo q hq⟩) (λq hq=>⟨ftb q hq,(pbl.mono (b:=80) ∅).bq ftb q hq⟩) λd E7 us V7 ld nd pu eu lu _=>?_
    have eu':∀k,cf us k=lin (wv tq) (wv bq') (cf os) k:=λk=>by rw[eu,kT]
    have lus:us.length<=os.length+1:=IV pu λk hk=>by
     obtain⟨k,rfl⟩ : ∃m,k=m+1:=⟨k-1,()⟩;rw[eu'];show cf os (k+1)*_+cf os k*_=0;rw[aJ (show os.length<=k+1 by nofun),aJ (show os.length<=k by nofun)]
     grind
    refine (hPi _ _ _).mpr ⟨d,us,_,_,_,rfl,S7.trans (V16.trans V7),ld,pu.1,(),((tE pbo pbl).congr eu').mono (),λy=>?_⟩;have ho:(jH cs n)[cnt j]? = some (wv cj.1):=by
     rw[FP hn2,hcnt];by_cases hlt:j<=n
     .rw[Yb hlt,Yb (),jK ecj]
     .rw[Yc hlt,Yc (),show j-1+1=j by nofun,jK ecj]
    have tk:(jH cs n).take (cnt j+1)=(jH cs n).take (cnt j)++[wv cj.1]:=by
     rw[XU,ho];rfl
    have pn:bB ((jH cs n).take (cnt j)) (vg cs n)≠0:=pK λz=>AM fc inc hn2 (Xi z);rw[cn.2,cD eu',iq (aJ ()),evo,tk,gk,gk,wt,wb',jr eci];rw[jr eci] at pn;have hne2:wv ci.1-wv cj.1≠0:=⋯;generalize bB ((jH cs n).take (cnt j)) y=A1;generalize bB ((jH cs n).take (cnt j)) (wv ci.1)=A2 at pn ⊢;grind
   .obtain⟨oa,os,o5,o6,o7,rfl,S7,lo',fo,leno,pbo,evo⟩:=(hPi _ _ _).mp pj;rw[dk,show ((cs.length:Nat):Int).toNat=cs.length by nofun] at leno pbo evo
    have ce:cnt cs.length=cs.length-1:=by rw[hcnt,Yc ()]
    have ol:=yc (cs:=cs) hn2;have lo2:(jH cs n).take (cnt cs.length)=jH cs n:=List.take_of_length_le ();rw[lo2] at evo;rw[ce] at leno pbo;refine hN6 _ _ ?_;refine aU.gen λN7 hN7=>?_;symm
    refine⟨∅,λt1 E1 ht1 V1 e1=>?_⟩;have S57:=S6.trans (S7.trans V1);refine zN (fs:=ws) (gs:=os) (c:=(1,1)) 600 (lw.same S57) (lo'.same V1) (bQ e1) () () ∅ ∅ (λq hq=>⟨pw'.1 q hq,(pbw.mono (b:=600) (by have:=hBn n hn2;nofun)).bq pw'.1 q hq⟩) (λq hq=>⟨fo q hq,(pbo.mono (b:=600) ()).bq fo q hq⟩) jx (pD.mono ∅) λd E2 us V2 ld nd pu eu lu _=>hN7 _ _ ?_
    have S52:=S57.trans V2;obtain⟨pi2,ui2,vi2,ci2,eci2,eai2,hpi2,rui2,rvi2⟩:=pick n E2 (S05.trans S52) hn2;rw[eci] at eci2;cases eci2;obtain⟨yi,rfl,hyi⟩:=id rui2.fr_at;have lr2:=lr.same S52;symm
    refine Ia ((S05.trans S52) _ _ hxs) eai2 hpi2 hyi ⟨∅,λt3 E3 ht3 V3 e3=>⟨∅,λt4 E4 ht4 V4 e4=>⟨∅,λl5 E5 hl5 V5 e5=>?_⟩⟩⟩;have V35:=V3.trans (V4.trans V5);have bs:∀q∈rs,Fq q/\Bq 80 q:=λq hq=>⟨pr'.1 q hq,(pb.mono (b:=80) ()).bq pr'.1 q hq⟩;simp only[eI];refine⟨ra,l5,rs,[(0-ci.1.1,ci.1.2),(1,1)],80,rfl,lr2.same V35,⟨_,e5,.mk_cons (bQ ((V4.trans V5) _ _ e3)) (.mk_cons (bQ (V5 _ _ e4)) .mk_nil)⟩,(),by show 2<=40;decide,∅,∅,(),bs,λq hq=>?_,λd2 E6 us2 V6 ld2 nd2 pu2 eu2 lu2 _=>?_⟩
    .rcases YY.mp hq with rfl|hq
     .exact⟨ko fi1,(oK bi).mono ∅⟩
     .rw[XY] at hq;subst hq;exact⟨jx,pD.mono ∅⟩
    obtain⟨w1,w2⟩:=qb pr' (mh (ko fi1)) pu2 hl rfl len (n:=1) rfl eu2;have eu':∀k,cf us2 k=lin (-(wv ci.1)) 1 (cf rs) k:=λk=>by
     rw[eu2,kT,show (0-ci.1.1) = -ci.1.1 by nofun,jP (q:=ci.1),gR]
    have tk:(iZ cs).take (n+1)=(iZ cs).take n++[wv ci.1]:=by
     rw[XU,jK eci];rfl
    have V26:=V35.trans V6;refine (hPw _ _ _).mpr ⟨d2,d,us2,us,_,_,_,_,_,rfl,S5.trans (S52.trans V26),ld2,pu2,w1,w2,?_,λy=>?_,λy=>?_,ld.same V26,pu,(),((pbw.add pbo).congr λk=>by rw[eu,gR];grind).mono (by rw[Nat.mul_succ];nofun),λy=>?_⟩
    .refine ((tE pb (su xi1)).congr λk=>?_).mono ();rw[eu2,kT]
    .rw[cD eu',iq (aJ ()),ev1,tk,gk];grind
    .rw[cD (g:=λk=>lin (-(wv ci.1)) 1 (DF (cf rs)) k+cf rs k) (λk=>by rw[show DF (cf us2) k=DF (lin (-(wv ci.1)) 1 (cf rs)) k by unfold DF;rw[eu'],xg]),jA,iq (by unfold DF;rw[aJ ()];grind),ev1,ev2,tk,nY]
     grind
    .rw[cD (g:=λk=>cf ws k+cf os k) (λk=>by rw[eu,gR];grind),jA,evw,evo]
     rfl
  .obtain⟨ra,wa,rs,ws,o3,o4,o5,o6,o7,rfl,S5,lr,pr',hl,len,pb,ev1,ev2,lw,pw',lenw,pbw,evw⟩:=(hPw _ _ _).mp pw;rw[dk,show ((cs.length:Nat):Int).toNat=cs.length by nofun] at len pb ev1 ev2 pbw evw
   have tkA:(iZ cs).take cs.length=iZ cs:=List.take_of_length_le (by rw[fg];exact Yq _)
   rw[tkA] at ev1 ev2;refine hN3 _ _ ?_;symm
   exact⟨∅,λp H6 hp S6 h6=>h p ra wa H6 rs ws (S03.trans (S5.trans S6)) h6 (lr.same S6) (lw.same S6) pr' pw' hl len lenw (pb.mono ()) (pbw.mono (by have:=Xp hB1 (show cs.length<=6 by nofun);nofun)) ev1 ev2 evw⟩
def fJ(K:W.Frag):Sp:=λvs H Q _=>∃(y:V)(q:Int×Int),vs=[y]/\aP (vw K H) (fr q) y /\ ∀(b:Addr) H',aC (vw K H) (vw K H')->aW (vw K H') b [(-q.1,q.2),(1,1)]->Q (.ref b) H'
theorem sY(F:fy K "less_spot" "less_spot" fA f fd) (T:fV K mg):bZ P w K mg base fk 1 f fd ["spot"] (fJ K):=by
 have scN:=mq.nd;refine F.okQ mq (λvs H Q E h=>?_) (λcdv A outer s H vs Q E hr h=>?_)
 .obtain⟨_,_,rfl,_⟩:=h;rfl
 .obtain⟨y,q,rfl,hy,h⟩:=h;obtain⟨z_ONE,hg_ONE,hv_ONE⟩:=T.g_ONE;obtain⟨x,rfl,hx⟩:=hy.fr_at;refine⟨_,(aj (aB (bY (aa (aN (aa (io fj (ay b9 (qv 0) af (λ_ _=>rfl))) (aa (ay b9 (qv 0) af (λ_ _=>rfl)) ae))) (aa (ku (v:=V.ref z_ONE) rfl hg_ONE rfl) ae))))),?_⟩;walk_at"m";symm
  refine⟨_,hx,_,gE,_,rfl,_,hx,_,jT,∅,λp1 H1 hp1 S1 h1=>⟨∅,λp2 H2 hp2 S2 h2=>h p2 H2 (S1.trans S2) ⟨_,h2,.mk_cons (bQ (S2 _ _ h1)) (.mk_cons (bQ (hv_ONE _)) .mk_nil)⟩⟩⟩
theorem wA:∀(l:List Rat),(∀s∈l,∃q:Int×Int,s=wv q/\Sx 300 q)->Pb (1+10*l.length) (DY l)
 | [],_=>by
  have h:Pb 1 (cf [((1:Int),(1:Int))]):=⟨1,∅,∅,wF (m:=1) rfl ∅⟩;refine h.congr λk=>?_;rw[vT (a:=0) (b:=0),gR];show Lp 0 0 0 k=_;grind
 | s::l,h=>by
  obtain⟨q,rfl,x⟩:=h s Yi;have i:=wA l λt ht=>h t (Yj _ ht);refine ((tE i (su x)).congr λk=>?_).mono (by rw[Y5];nofun)
  show lin (-wv q) 1 (DY l) k=_;rw[show (0-q.1) = -q.1 by nofun,jP (q:=q),gR]
theorem yB{fs:List (Int×Int)}{l:List Rat}(h:fs.length<=20)(ll:l.length<=10)(e:∀x,EV (cf fs) x=bB l x)(k:Nat):cf fs k=DY l k :=
 kL (f:=cf fs) (g:=DY l) (λk hk=>aJ ()) (λk hk=>lU l k ()) (λx=>by rw[e,DK l ll]) k
theorem FV{qs ts rs:List (Int×Int)}{s:Int×Int}{P:Rat->Rat}(e:∀k,cf rs k=pr (cf qs) (cf [(0-s.1,s.2),(1,1)]) qs.length k+cf ts k)(lt:ts.length<2)(lq:qs.length<=10)(er:∀x,EV (cf rs) x=(x-wv s)*P x)(py:Py P)(x:Rat):EV (cf qs) x=P x:=by
 have ts0:∀x,EV (cf ts) x=cf ts 0:=λx=>by
  rw[gJ (n:=1) (λk hk=>aJ ()) ∅];show 0+cf ts 0*1=_;grind
 have a:∀x,(x-wv s)*P x=(x-wv s)*EV (cf qs) x+cf ts 0:=λx=>by
  rw[<-er,cD (g:=λk=>lin (-(wv s)) 1 (cf qs) k+cf ts k) (λk=>by rw[e,kT,show (0-s.1) = -s.1 by nofun,jP (q:=s),gR]),jA,iq (aJ ()),ts0]
  grind
 have z:cf ts 0=0:=by
  have:=a (wv s);grind
 have d:=Py.zero (f:=λx=>EV (cf qs) x-P x) (g:=λx=>x-wv s) ((GK (n:=qs.length) (λk hk=>aJ hk) ()).sub py) (Py.id.sub (Py.const _)) (λx=>by
  show (EV (cf qs) x-P x)*(x-wv s)=0;have:=a x;rw[z] at this;grind) ⟨wv s+1,by show wv s+1-wv s≠0;grind⟩ x
 have d:EV (cf qs) x-P x=0:=d;grind
theorem Br{cs:List gP}{i:Nat}(h:i<cs.length)(x:Rat):bB (iZ cs) x=(x-vg cs i)*bB (jH cs i) x:=by
 rw[rY h,mV];unfold jH;rw[mV];show _*((x-vg cs i)*_)=_;grind
theorem zE{s:Int×Int}(hs:Sx 300 s):∀(l:List Rat),(∀t∈l,∃q:Int×Int,t=wv q/\Sx 300 q) -> ∃m:Int,bB l (wv s)=(m:Rat)/(((6:Int)^l.length:Int):Rat)/\Bt (1+10*l.length) m
 | [],_=>⟨1,by show (1:Rat)=_;decide +kernel,∅⟩
 | t::l,h=>by
  obtain⟨q,rfl,y⟩:=h t Yi;obtain⟨m,e,b⟩:=zE hs l λu hu=>h u (Yj _ hu);obtain⟨n,en,ln⟩:=hs;obtain⟨k,ek,lk⟩:=y;refine⟨(n-k)*m,?_,((show Bt 10 (n-k) by unfold Bt;nofun).mul b).mono (by rw[Y5];nofun)⟩
  show (wv s-wv q)*bB l (wv s)=_;have c6:((6:Int):Rat)=6:=rfl;have p:(((6:Int)^l.length:Int):Rat)≠0:=aq (Xt ∅);rw[e,en,ek,Y5,Xs,Xb,Xb,Xc,c6];generalize (((6:Int)^l.length:Int):Rat)=p6 at p ⊢;grind
theorem Dy{cs:List gP}(h:∀c∈cs,Sx 300 c.1/\Sx 36 c.2)(i:Nat):∀t∈jH cs i,∃q:Int×Int,t=wv q/\Sx 300 q:=λt ht=>by
 have:t∈iZ cs:=by
  unfold jH at ht;rcases List.mem_append.mp ht with z|z
  .exact Xi z
  .exact List.mem_of_mem_drop z
 obtain⟨c,hc,rfl⟩:=List.mem_map.mp this;exact⟨c.1,rfl,(h c hc).1⟩
def gB(K:W.Frag):Sp:=λvs H Q _=>∃(a:Addr)(cs:List gP),vs=[.ref a]/\gW (vw K H) a (cs.map oh)/\cs.length<=6/\(∀c∈cs,Fq c.1/\Fq c.2)/\(∀c∈cs,Sx 300 c.1/\Sx 36 c.2)/\(∀i c d,cs[i]? = some c->cs[i+1]? = some d->ww c.1 d.1=true) /\
 ∀(p c d:Addr) H' (rs ws:List (Int×Int)),aC (vw K H) (vw K H')->vw K H' p=some (.tup [.ref c,.ref d])->aW (vw K H') c rs->aW (vw K H') d ws->vw K H c=none->aS rs->aS ws->rs.length=cs.length+1->ws.length<=cs.length->(∀x,EV (cf rs) x=bB (iZ cs) x)->(∀x,EV (cf ws) x=tG cs cs.length x)->Q (.ref p) H'
theorem uT(F:fy K "flock_of" "flock_of" gq f fd) (T:fV K mg)(C_multiplied:aZ P w K mg base "multiplied" ["f", "g"] 4 (gx K)) (C_less_spot:aZ P w K mg base "less_spot" ["spot"] 1 (fJ K)) (C_parted:aZ P w K mg base "parted" ["f", "g"] 4 (j8 K)) (C_summed:aZ P w K mg base "summed" ["f", "g"] 4 (jW K)) (C_grown:aZ P w K mg base "grown" ["f", "by"] 4 (me K)) (C_over:aZ P w K mg base "over" ["one", "other"] 3 (oQ K)) (C_number_at:aZ P w K mg base "number_at" ["f", "x"] 3 (eK K)):bZ P w K mg base fk 5 f fd ["crowd"] (gB K):=by
 have scN:=nQ.nd;refine F.okQ nQ (λvs H Q E h=>?_) (λcdv A outer s H vs Q E hr h=>?_)
 .obtain⟨_,_,rfl,_⟩:=h;rfl
 .obtain⟨a,cs,rfl,ha,lc,fc,xc,inc,h⟩:=h;obtain⟨z_ONE,hg_ONE,hv_ONE⟩:=T.g_ONE;refine⟨_,(ag (av (i:=1) scN rfl (·) (bY (aa (ku (v:=V.ref z_ONE) rfl hg_ONE rfl) ae)))
   (ag (cZ PassesOwn.never rfl (cF (qv 0)) (cI (n:=2) rfl (aD (au (i:=2) scN rfl (·)) (aD (au (i:=3) scN rfl (·)) cK))) (aj (av (i:=1) scN rfl (·) (ao C_multiplied nofun rfl (aa (qv 1) (aa (ao C_less_spot nofun rfl (aa (qv 2) ae)) ae))))))
   (ag (av (i:=4) scN rfl (·) (bY ae))
   (ag (cZ PassesOwn.never rfl (cF (qv 0)) (cI (n:=2) rfl (aD (au (i:=2) scN rfl (·)) (aD (au (i:=3) scN rfl (·)) cK))) (ag (av (i:=5) scN rfl (·) (ay b9 (ao C_parted nofun rfl (aa (qv 1) (aa (ao C_less_spot nofun rfl (aa (qv 2) ae)) ae))) af (λ_ _=>rfl)))
   (aj (av (i:=4) scN rfl (·) (ao C_summed nofun rfl (aa (qv 4) (aa (ao C_grown nofun rfl (aa (qv 5) (aa (ao C_over nofun rfl (aa (qv 3) (aa (ao C_number_at nofun rfl (aa (qv 5) (aa (qv 2) ae))) ae))) ae))) ae)))))))
   (aj (aB (aN (aa (qv 1) (aa (qv 4) ae))))))))),?_⟩
  walk_at"m";skip
  obtain⟨xs,hxs,rxs⟩:=id ha;have lxs:xs.length=cs.length:=by rw[rxs.length,YD]
  have pick:∀{i:Nat}{x:V}{H':Hp},aC (vw K H) (vw K H')->xs[i]? = some x -> ∃(p:Addr)(u v:V)(c:gP),cs[i]? = some c/\x=.ref p/\vw K H' p=some (.tup [u,v])/\aP (vw K H') (fr c.1) u/\aP (vw K H') (fr c.2) v:=λ{i x H'} S e=>by
   obtain⟨d',hd',rx⟩:=(rxs.same S).get e;have hi:i<cs.length:=by have:=(List.getElem?_eq_some_iff.mp e).1;nofun
   rw[YA,YK hi] at hd';cases hd';obtain⟨p,u,v,rfl,hp,ru,rv⟩:=aP.spt_at rx;exact⟨p,u,v,_,YK hi,rfl,hp,ru,rv⟩
  have two:∀q:Int×Int,Fq q->Sx 300 q -> ∀y∈[(-q.1,q.2),((1:Int),(1:Int))],Fq y/\Bq 20 y:=λq fq xq y hy=>by
   have b:=rW xq fq ∅;simp only[YY,YZ,Y0] at hy;rcases hy with rfl|rfl
   .exact⟨Cq fq,JL (b.1.mono ∅),b.2.mono ∅⟩
   .exact⟨jx,pD.mono ∅⟩
  refine aU.gen λN1 hN1=>?_;symm
  refine⟨∅,λr0 H1 hr0 S1 h1=>hN1 _ _ ?_⟩;clear hN1;refine aU.gen λN2 hN2=>?_;symm
  refine⟨⟨_,.of (aH (S1 _ _ hxs))⟩,?_⟩;obtain⟨Pv,hPv⟩ : ∃Pv:Nat->St->Hp->Prop,∀n σ H',Pv n σ H' ↔ ∃(ra:Addr)(rs:List (Int×Int))(o2 o3 o4 o5:Option V),σ=[some (.ref a),some (.ref ra),o2,o3,o4,o5]/\aC (vw K H) (vw K H')/\vw K H ra=none/\aW (vw K H') ra rs/\aS rs/\rs.getLast? = some (1,1)/\rs.length=n+1 /\ ∀x,EV (cf rs) x=bB ((iZ cs).take n) x:=⟨_,λ_ _ _=>XJ⟩;have bits:∀{n:Nat}{rs:List (Int×Int)},aS rs->rs.length=n+1->n<=cs.length->(∀x,EV (cf rs) x=bB ((iZ cs).take n) x) -> ∀q∈rs,Fq q/\Bq 100 q:=λ{n rs} po ln hn ev q hq=>by
   have pb:=wA ((iZ cs).take n) λt ht=>by
    obtain⟨c,hc,rfl⟩:=List.mem_map.mp (Xi ht);exact⟨c.1,rfl,(xc c hc).1⟩
   have l2:((iZ cs).take n).length<=6:=by rw[Yw,fg];nofun
   exact⟨po.1 q hq,((pb.congr (yB () () ev)).bq po.1 q hq).mono ()⟩
  refine bJ (its:=xs) Pv (λn σ H' _ z=>?_) ((hPv _ _ _).mpr ⟨r0,[(1,1)],_,_,_,_,rfl,S1,hr0,⟨_,h1,.mk_cons (bQ (hv_ONE _)) .mk_nil⟩,yW,rfl,rfl,GN⟩) (λn x σ H2 hn hx pv=>?_) (λσ H2 pv=>?_)
  .obtain⟨_,_,_,_,_,_,_,S',_⟩:=(hPv _ _ _).mp z;exact aT (S' _ _ hxs)
  .obtain⟨ra,rs,o2,o3,o4,o5,rfl,S2,nra,lr,po,hl,len,ev⟩:=(hPv _ _ _).mp pv;have hn2:n<cs.length:=();obtain⟨p,u,v,c,ec,rfl,hp,ru,rv⟩:=pick S2 hx;obtain⟨fc1,_⟩:=fc c (YB ec);obtain⟨xc1,_⟩:=xc c (YB ec);refine⟨_,rfl,_,hp,rfl,_,_,rfl,_,_,rfl,rfl,?_⟩;symm
   simp only[fJ];refine⟨u,c.1,rfl,ru,λb3 H3 S3 l3=>?_⟩;simp only[gx];refine⟨ra,b3,rs,_,100,rfl,lr.same S3,l3,(),by show 2<=14;decide,∅,by show rs.length*100+2*100<=_;nofun,bits po len () ev,λq hq=>⟨(two _ fc1 xc1 q hq).1,(two _ fc1 xc1 q hq).2.mono ∅⟩,λd H4 us S4 ld nd pu eu lu _=>?_⟩
   rw[show (-c.1.1)=0-c.1.1 by nofun] at eu
   obtain⟨w1,w2⟩:=qb po (mh (ko fc1)) pu hl rfl len (n:=1) rfl eu;refine (hPv _ _ _).mpr ⟨d,us,_,_,_,_,rfl,S2.trans (S3.trans S4),(S2.trans S3).none nd,ld,pu,w1,w2,λy=>?_⟩;rw[cD (g:=lin (-(wv c.1)) 1 (cf rs)) (λk=>by rw[eu,kT,show (0-c.1.1) = -c.1.1 by nofun,jP (q:=c.1),gR]),iq (aJ ()),ev,show (iZ cs).take (n+1)=(iZ cs).take n++[wv c.1] by rw[XU,jK ec];rfl,gk]
   grind
  .obtain⟨ra,rs,o2,o3,o4,o5,rfl,S2,nra,lr,po,hl,len,ev⟩:=(hPv _ _ _).mp pv;rw[lxs] at len ev;rw[List.take_of_length_le (by rw[fg];exact Yq _)] at ev
   have br:=bits po len (Yq _) (λx=>by rw[ev,List.take_of_length_le (by rw[fg];exact Yq _)])
   refine hN2 _ _ ?_;clear hN2;refine aU.gen λN3 hN3=>?_;symm
   refine⟨∅,λw0 H3 hw0 S3 h3=>hN3 _ _ ?_⟩;clear hN3;refine aU.gen λN4 hN4=>?_;have S03:=S2.trans S3;symm
   refine⟨⟨_,.of (aH (S03 _ _ hxs))⟩,?_⟩;obtain⟨Pw,hPw⟩ : ∃Pw:Nat->St->Hp->Prop,∀n σ H',Pw n σ H' ↔ ∃(wa:Addr)(ws:List (Int×Int))(o2 o3 o5:Option V),σ=[some (.ref a),some (.ref ra),o2,o3,some (.ref wa),o5]/\aC (vw K H3) (vw K H')/\aW (vw K H') wa ws/\aS ws/\ws.length<=cs.length/\Pb (1+200*n) (cf ws) /\ ∀x,EV (cf ws) x=tG cs n x:=⟨_,λ_ _ _=>XJ⟩;refine bJ (its:=xs) Pw (λn σ H' _ z=>?_) ((hPw _ _ _).mpr ⟨w0,[],_,_,_,rfl,.rfl,⟨_,h3,.mk_nil⟩,uB,YS _,C0 ∅,BO⟩) (λn x σ H4 hn hx pw=>?_) (λσ H4 pw=>?_)
   .obtain⟨_,_,_,_,_,_,S',_⟩:=(hPw _ _ _).mp z;exact aT ((S03.trans S') _ _ hxs)
   .obtain⟨wa,ws,o2,o3,o5,rfl,S4,lw,pw',lenw,pbw,evw⟩:=(hPw _ _ _).mp pw;have hn2:n<cs.length:=();have S04:=S03.trans S4;obtain⟨p,u,v,c,ec,rfl,hp,ru,rv⟩:=pick S04 hx;obtain⟨fc1,fc2⟩:=fc c (YB ec);obtain⟨xc1,xc2⟩:=xc c (YB ec);refine⟨_,rfl,_,hp,rfl,_,_,rfl,_,_,rfl,rfl,?_⟩;refine aU.gen λN5 hN5=>?_;symm
    simp only[fJ];refine⟨u,c.1,rfl,ru,λb5 H5 S5 l5=>?_⟩;simp only[j8];refine⟨ra,b5,rs,_,rfl,lr.same (S3.trans (S4.trans S5)),l5,mh (Cq fc1),by simp,(),by show 2<=9;decide,λq hq=>⟨(br q hq).1,(br q hq).2.mono ∅⟩,two _ fc1 xc1,λp6 c6 d6 H6 qs ts S6 h6 l6 _ pq _ lt eq lq=>⟨p6,rfl,_,h6,_,gE,hN5 _ _ ?_⟩⟩
    clear hN5;rw[show (-c.1.1)=0-c.1.1 by nofun] at eq
    have lqc:qs.length<=cs.length:=by
     have:qs.length<=rs.length+1-2:=lq;nofun
    have lqs:qs.length<=6:=();have eqs:=FV eq lt () (λx=>by rw[ev,Br hn2,jr ec]) (oo.prod (jH cs n)).py
    have ol:=yc (cs:=cs) hn2;have pbq:Pb 51 (cf qs):=((wA (jH cs n) (Dy xc n)).congr (yB () () eqs)).mono ();obtain⟨m,em,bm⟩:=zE xc1 (jH cs n) (Dy xc n);have ne:bB (jH cs n) (wv c.1)≠0:=by
     have:=Bc hn2 (iD fc inc)
     rwa [jr ec] at this
    have S46:=S5.trans S6;symm
    simp only[eK];refine⟨c6,u,qs,c.1,rfl,l6,aP.same S46 _ _ ru,(),λq hq=>⟨pq.1 q hq,(pbq.bq pq.1 q hq).mono ∅⟩,fc1,(rW xc1 fc1 ∅).mono ∅,λv7 H7 q7 S7 r7 f7 w7=>?_⟩;rw[sn (),eqs] at w7;have q70:q7.1≠0:=λz=>ne (by rw[<-w7];exact (iA f7.ne).mpr z)
    obtain⟨U,hU⟩ : ∃U:Int,U=(6:Int)^(jH cs n).length:=⟨_,rfl⟩;have U0:U≠0:=by rw[hU];exact Xt ∅
    have bU:Bt 20 U:=by rw[hU];exact (Bt.pow1 (show Bt 3 6 by decide) _).mono ()
    rw[<-hU] at em;have m0:m≠0:=λz=>ne (by
     have c0:((0:Int):Rat)=0:=rfl;rw[em,z,c0];grind)
    have b7:Bq 60 q7:=by
     rw[show q7=lo m U from ju f7 (iP U0) (by rw[gS U0,w7,em])]
     exact lM U0 (bm.mono ()) (bU.mono ∅)
    have bw:=rW xc2 fc2 ∅;simp only[oQ];refine⟨v,v7,c.2,q7,rfl,aP.same (S46.trans S7) _ _ rv,r7,fc2.ne,f7.ne,q70,bw.mono ∅,b7.mono ∅,(bw.2.mul b7.1).mono ∅,λv8 H8 S8 r8=>?_⟩;have f8:=yk fc2 q70;have b8:=xP fc2 q70 bw b7;have w8:=DC fc2.ne f7.ne q70;generalize tO c.2 q7=q8 at r8 f8 b8 w8;simp only[me];refine⟨c6,v8,qs,q8,rfl,l6.same (S7.trans S8),r8,(),λq hq=>⟨pq.1 q hq,(pbq.bq pq.1 q hq).mono ∅⟩,f8,b8.mono ∅,λd9 H9 gs S9 l9 n9 p9 e9 le9=>?_⟩;obtain⟨wn,ewn,lwn⟩:=xc2;have c6':((6:Int):Rat)=6:=rfl;have pbg:Pb 151 (cf gs):=by
     refine ((pbq.one (c:=wv q8) (m:=wn*U) (E:=6*m) (b:=100) (Y9 ∅ m0) ?_ (((show Bt 6 wn by unfold Bt;nofun).mul bU).mono ∅) (((show Bt 3 6 by decide).mul bm).mono ())).congr e9)
     have mr:=aq m0;have ur:=aq U0;rw[w8,w7,em,ewn,Xb,Xb,c6'];grind
    have S4a:=S46.trans (S7.trans (S8.trans S9));simp only[jW];refine⟨wa,d9,ws,gs,rfl,lw.same S4a,l9,(),(),λq hq=>⟨pw'.1 q hq,(pbw.bq pw'.1 q hq).mono ()⟩,λq hq=>⟨p9.1 q hq,(pbg.bq p9.1 q hq).mono ∅⟩,λd10 H10 us S10 l10 n10 p10 e10 le10=>?_⟩;refine (hPw _ _ _).mpr ⟨d10,us,_,_,_,rfl,S4.trans (S4a.trans S10),l10,p10,?_,((pbw.add pbg).congr e10).mono (),λy=>?_⟩
    .have:=Nat.max_le (a:=ws.length) (b:=gs.length) (c:=cs.length);nofun
    .rw[cD (g:=λk=>cf ws k+wv q8*cf qs k) (λk=>by rw[e10,e9];grind),jA,si,evw,eqs,w8,w7]
     show _=tG cs n y+HH cs n*bB (jH cs n) y/bB (jH cs n) (vg cs n);rw[vX ec,jr ec];grind
   .obtain⟨wa,ws,o2,o3,o5,rfl,S4,lw,pw',lenw,pbw,evw⟩:=(hPw _ _ _).mp pw;rw[lxs] at evw;refine hN4 _ _ ?_;symm
    exact⟨∅,λp H6 hp S6 h6=>h p ra wa H6 rs ws (S03.trans (S4.trans S6)) h6 (lr.same (S3.trans (S4.trans S6))) (lw.same S6) nra po pw' len lenw ev evw⟩
def gH(K:W.Frag):Sp:=λvs H Q _=>∃(p c d:Addr)(rs ws:List (Int×Int))(l:List (aR×Nat)),vs=[.ref p]/\vw K H p=some (.tup [.ref c,.ref d])/\aW (vw K H) c rs/\rs≠[]/\rs.length<=11/\aS rs/\Pb 220 (cf rs)/\sw rs l/\aW (vw K H) d ws/\ws.length<=8/\(∀q∈ws,Fq q/\Bq 20000 q) /\
 ∀ms,m4 l ms->(ms.length+1<rs.length -> ∀H',aC (vw K H) (vw K H')->Q .non H')/\(rs.length<=ms.length+1 -> ∀(a:Addr) H' (cs:List gP),aC (vw K H) (vw K H')->vw K H a=none->gW (vw K H') a (cs.map oh)->cs.map (λc=>c.1)=ms->(∀c∈cs,Fq c.2/\wv c.2=EV (cf ws) (wv c.1))->Q (.ref a) H')
theorem vt(F:fy K "crowd_of" "crowd_of" fX f fd) (T:fV K mg)(C_fraction_roots:aZ P w K mg base "fraction_roots" ["f"] 6 (dQ K)) (C_number_at:aZ P w K mg base "number_at" ["f", "x"] 3 (eK K)):bZ P w K mg base fk 7 f fd ["flock"] (gH K):=by
 have scN:=nK.nd;refine F.okQ nK (λvs H Q E h=>?_) (λcdv A outer s H vs Q E hr h=>?_)
 .obtain⟨_,_,_,_,_,_,rfl,_⟩:=h;rfl
 .obtain⟨p,c,d,rs,ws,l,rfl,hp,hc,r0,lr,po,pb,FW,hd,lw,bw,h⟩:=h;refine⟨_,(ag (ei (qv 0) (cI (n:=2) rfl (aD (au (i:=1) scN rfl (·)) (aD (au (i:=2) scN rfl (·)) cK))))
   (ag (av (i:=3) scN rfl (·) (ao C_fraction_roots nofun rfl (aa (qv 1) ae)))
   (ag (du (aO uK (aw aF (by rfl) T.b_len bV (aa (qv 3) ae)) (ar cx (aw aF (by rfl) T.b_len bV (aa (qv 1) ae)) af) (aV _)) (aj (aB CI)) bK)
   (aj (aB (dS (own:=["spot"]) (outs:=["weights"]) (ixs:=[2]) rfl (cF (qv 3)) rfl ⟨rfl,rfl,rfl,⟨rfl,trivial⟩,rfl,⟨⟨rfl,rfl,rfl,_,rfl⟩,trivial⟩⟩ (λ_ _ _ _=>⟨(au (i:=0) (show (["spot", "weights"]:List Str).Nodup by decide +kernel) rfl (·)),ez,(show QE _ _ (xY K _) from aN (aa (qv 0) (aa (ao C_number_at nofun rfl (aa (qv 1) (aa (qv 0) ae))) ae)))⟩))))))),?_⟩
  walk_at"m";skip
  refine aU.gen λN1 hN1=>?_;symm
  refine⟨_,hp,rfl,_,_,rfl,_,_,rfl,rfl,hN1 _ _ ?_⟩;clear hN1;refine aU.gen λN2 hN2=>?_;symm
  simp only[dQ];refine⟨c,rs,l,rfl,hc,r0,lr,po,pb,FW,λe H1 ms S1 ne le ft=>hN2 _ _ ?_⟩;clear hN2;obtain⟨h1,h2⟩:=h ms ft;obtain⟨xs,hxs,rxs⟩:=id le;have lxs:xs.length=ms.length:=by rw[rxs.length,YD]
  obtain⟨ys,hys,rys⟩:=id hc;have lys:ys.length=rs.length:=by rw[rys.length,YD]
  have rp:=List.length_pos_iff.mpr r0;symm
  refine⟨xs.length,by simp only[fS,hxs],ys.length,by simp only[fS,S1 _ _ hys],?_⟩
  refine ee (λhlt=>h1 () _ S1) λhge=>?_;refine⟨⟨_,.of (aH hxs)⟩,λa H2 ha S2 h2'=>?_⟩;have fx:∀q∈ms,Fq q/\Bq 300 q:=λq hq=>by
   have fq:=ft.fq q hq;obtain⟨g,hg,e⟩:=(ft.just (wv q)).mp ⟨q,hq,rfl⟩;obtain⟨b,lb,_⟩:=FW.lb;obtain⟨ν,b',e1,f1,b1,l1⟩:=lb.nu g hg;rw[e] at e1;have e1:wv q=wv ν:=e1;rw[ju fq f1 e1];exact⟨f1,b1.mono ()⟩
  refine aY (its:=xs) (λk zs H'=>aC (vw K H1) (vw K H') /\ ∃cs:List gP,aI (vw K H') (cs.map oh) zs/\cs.map (λc=>c.1)=ms.take k /\ ∀c∈cs,Fq c.2/\wv c.2=EV (cf ws) (wv c.1)) (λk zs H' _ _ z=>aT (z.1 _ _ hxs)) h2' ⟨S2,[],.mk_nil,rfl,by simp⟩ (λk y zs H' hk hy h' z=>?_) (λzs H3 h3 z=>?_)
  .obtain⟨z1,cs,rc,ec,oc⟩:=z;have hk':k<ms.length:=();obtain⟨y',ey,ry⟩:=rxs.at (i:=k) (d:=fr ms[k]) (by rw[YA,YK hk'];rfl)
   rw[hy] at ey;cases ey;obtain⟨fq,bq⟩:=fx _ (YJ hk');symm
   simp only[eK];refine⟨d,y,ws,ms[k],rfl,(hd.same S1).same z1,aP.same z1 _ _ ry,lw,bw,fq,bq.mono ∅,λv H4 q S4 r4 f4 w4=>?_⟩;rw[sn ()] at w4;refine⟨∅,λp5 H5 hp5 S5 h5=>?_⟩;have z5:=z1.trans (S4.trans S5);refine .mk ((S4.trans S5) _ _ h') ?_ λH6 B6 h6=>?_
   .have:=rc.length;have e2:=Yn List.length ec;rw[YD,Yw] at e2;rw[YD] at this;have:1000<=sizeLine:=∅;have:=FW.ll;have:=ft.len;nofun
   .have sa:aC (vw K H1) (vw K H6):=λb o e=>B6 _ _ (ak e ha) (z5 _ _ e);refine⟨sa,cs++[(ms[k],q)],?_,?_,λc hc=>?_⟩
    .rw[XT];have r5:=rc.same (S4.trans S5);exact (aI.flat_but ((S4.trans S5) _ _ h') B6 _ _ (gd cs) r5).snoc (aP.flat_but ((S4.trans S5) _ _ h') B6 _ _ (show (oh _).flat=true by simp[oh,fr,D.flat,D.flats]) (.mk_tup h5 (.mk_cons (aP.same z5 _ _ ry) (.mk_cons (aP.same S5 _ _ r4) .mk_nil))))
    .rw[XT,ec,XU,YK hk'];rfl
    .rcases List.mem_append.mp hc with z|z
     .exact oc c z
     .rw[XY.mp z];exact⟨f4,w4⟩
  .obtain⟨z1,cs,rc,ec,oc⟩:=z;refine h2 () a H3 cs (S1.trans z1) (S1.none ha) ⟨zs,h3,rc⟩ ?_ oc;rw[ec,lxs,XV]
theorem sH{rs:List (Int×Int)}{l:List (aR×Nat)}{a:Nat}(ok:∀q∈l,q.1.ok/\1<=q.2)(un:l.Pairwise λa b=>a.1≠b.1)(lb:LB l a)(ha:a<=67)(ll:l.length<=6)(dl:fN l<=10)(ln:rs.length=fN l+1)(ev:∀x,EV (cf rs) x=ug l x):sw rs l :=
 ⟨ok,un,dl,ln,⟨1,λx=>by rw[ev];grind⟩,ll,⟨a,lb,ha⟩,FT λq hq=>by
  obtain⟨ν,b,e1,e2,e3,e4⟩:=lb.nu q hq;exact⟨ν,b,e1,e2,e3,()⟩⟩
def GA(cs:List gP):List (aR×Nat):=cs.map λc=>(aR.line (wv c.1),1)
theorem y6(x:Rat):∀cs:List gP,ug (GA cs) x=bB (iZ cs) x
 | []=>rfl
 | c::cs=>by
  show (x-wv c.1)*1*ug (GA cs) x=(x-wv c.1)*bB (iZ cs) x;rw[y6 x cs];grind
theorem qI:∀cs:List gP,fN (GA cs)=cs.length
 | []=>rfl
 | c::cs=>by
  show 1*1+fN (GA cs)=cs.length+1;rw[qI cs];nofun
theorem Bp:∀{cs:List gP},(∀c∈cs,Fq c.1/\Bq 9 c.1)->LB (GA cs) (11*cs.length)
 | [],_=>.nil
 | c::cs,h=>by
  have:=LB.cons (q:=.line (wv c.1)) (m:=1) (ν:=c.1) (b:=9) rfl (h c Yi).1 (h c Yi).2 (Bp λd hd=>h d (Yj _ hd));rw[Y5,show 11*(cs.length+1)=11*cs.length+(9+2) by nofun]
  exact this
theorem ED{cs:List gP}{rs:List (Int×Int)}(lc:cs.length<=6)(fc:∀c∈cs,Fq c.1/\Fq c.2)(xc:∀c∈cs,Sx 300 c.1/\Sx 36 c.2)(inc:∀i c d,cs[i]? = some c->cs[i+1]? = some d->ww c.1 d.1=true)(ln:rs.length=cs.length+1)(ev:∀x,EV (cf rs) x=bB (iZ cs) x):sw rs (GA cs):=by
 refine sH (λq hq=>?_) ?_ (Bp λc hc=>⟨(fc c hc).1,rW (xc c hc).1 (fc c hc).1 ∅⟩) () ?_ ?_ ?_ λx=>by rw[ev,y6]
 .obtain⟨c,hc,rfl⟩:=List.mem_map.mp hq;exact⟨trivial,Yq _⟩
 .have nd:=iD fc inc;rw[List.nodup_iff_pairwise_ne] at nd;refine List.pairwise_map.mpr ((List.pairwise_map.mp nd).imp λh z=>h ?_);injection z
 .show (cs.map _).length<=6;rw[YD];exact lc
 .rw[qI];nofun
 .rw[qI,ln]
theorem zA{cs:List gP}{ms:List (Int×Int)}(fc:∀c∈cs,Fq c.1/\Fq c.2)(inc:∀i c d,cs[i]? = some c->cs[i+1]? = some d->ww c.1 d.1=true)(ft:m4 (GA cs) ms):ms=cs.map λc=>c.1:=by
 have e:(cs.map λc=>c.1).map wv=iZ cs:=by rw[List.map_map];rfl
 refine ft.eq (L:=iZ cs) (λr=>⟨λ⟨q,hq,z⟩=>?_,λh=>?_⟩) (λq hq=>?_) ?_ λy=>by rw[e]
 .obtain⟨c,hc,rfl⟩:=List.mem_map.mp hq;injection z with z
  exact List.mem_map.mpr ⟨c,hc,z⟩
 .obtain⟨c,hc,rfl⟩:=List.mem_map.mp h;exact⟨_,List.mem_map.mpr ⟨c,hc,rfl⟩,rfl⟩
 .obtain⟨c,hc,rfl⟩:=List.mem_map.mp hq;exact (fc c hc).1
 .rw[e];unfold iZ;refine List.pairwise_map.mpr (List.pairwise_iff_getElem.mpr λi j hi hj hij=>?_);obtain⟨m,rfl⟩ : ∃m,j=i+m+1:=⟨j-i-1,()⟩;exact jc fc inc m i _ _ (YK hi) (YK hj)
def LK(G:Hp)(z:V)(rs ws:List (Int×Int))(l:List (aR×Nat)):Prop:=∃(p c d:Addr),z=.ref p/\G p=some (.tup [.ref c,.ref d])/\aW G c rs/\rs≠[]/\rs.length<=11/\aS rs/\Pb 220 (cf rs)/\sw rs l/\l.length+1<rs.length/\aW G d ws/\ws.length<=8 /\ ∀q∈ws,Fq q/\Bq 20000 q
theorem tZ{n:Int×Int}(h:n∈GI):Fq n/\Bq 6 n:=by
 have:∀n∈GI,(0<n.2/\Int.gcd n.1 n.2=1)/\n.1.natAbs<2^6/\n.2.natAbs<2^6:=∅;exact this n h
theorem zm{n:Int×Int}(x:Rat):EV (cf [(0-n.1,n.2),(0,1),(1,1)]) x=x*x-wv n:=by
 rw[<-sn (by show 3<=20;decide)]
 show wv (0-n.1,n.2)+x*(wv (0,1)+x*(wv (1,1)+x*0))=_;have z:wv (0,1)=0:=by decide +kernel
 rw[z,gR,show (0-n.1) = -n.1 by nofun,jP (q:=n)]
 grind
theorem tY{n:Int×Int}(h:n∈GI):Pb 10 (cf [(0-n.1,n.2),(0,1),(1,1)]):=by
 obtain⟨f,b⟩:=tZ h;refine⟨n.2,f.ne,b.2.mono ∅,λk=>?_⟩;have c:=aq f.ne;have c0:((0:Int):Rat)=0:=rfl;have c1:((1:Int):Rat)=1:=rfl;rcases k with _|_|_|k
 .refine⟨0-n.1,rfl,(oK b).1.mono ∅⟩
 .refine⟨0,?_,Ki⟩;show ((0:Int):Rat)/((1:Int):Rat)=_;rw[c0];grind
 .refine⟨n.2,?_,b.2.mono ∅⟩;show ((1:Int):Rat)/((1:Int):Rat)=_;rw[c1];grind
 .refine⟨0,?_,Ki⟩;rw[aJ (by simp),c0]
  grind
theorem zc{n:Int×Int}(f:Fq n):aS [(0-n.1,n.2),(0,1),(1,1)]:=⟨λq hq=>by
 simp only[YY,YZ,Y0] at hq;rcases hq with rfl|rfl|rfl
 .exact ko f
 .exact⟨∅,∅⟩
 .exact jx,λq hq=>by cases hq;show (1:Int)≠0;decide⟩
theorem Ad{n:Int×Int}(h:n∈GI):sw [(0-n.1,n.2),(0,1),(1,1)] [(aR.root (wv n),1)]:=by
 obtain⟨f,b⟩:=tZ h;refine sH (λq hq=>?_) (.cons (by simp) .nil) (.cons (ν:=n) (b:=6) rfl f b .nil) ∅ (by show 1<=6;decide) (by show 1*2+0<=10;decide) rfl λx=>?_
 .rw[XY.mp hq];exact⟨A3 h,Yq _⟩
 .rw[zm];show _=(x*x-wv n)*1*1;grind
theorem EY{n s:Int×Int}{us:List (Int×Int)}(h:n∈GI)(fs:Fq s)(bs:Bq 10 s)(ln:us.length=4)(ev:∀x,EV (cf us) x=(x*x-wv n)*(x-wv s)):sw us [(aR.root (wv n),1),(aR.line (wv s),1)]:=by
 obtain⟨f,b⟩:=tZ h;refine sH (λq hq=>?_) (.cons (λq hq=>?_) (.cons (by simp) .nil)) (.cons (ν:=n) (b:=6) rfl f b (.cons (ν:=s) (b:=10) rfl fs bs .nil)) ∅ (by show 2<=6;decide) (by show 1*2+(1*1+0)<=10;decide) ln λx=>?_
 .simp only[YY,YZ,Y0] at hq;rcases hq with rfl|rfl
  .exact⟨A3 h,Yq _⟩
  .exact⟨trivial,Yq _⟩
 .rw[XY.mp hq];intro z;cases z
 .rw[ev];show _=(x*x-wv n)*1*((x-wv s)*1*1);grind
def kc(K:W.Frag):Sp:=λvs H Q _=>∃(st:Addr),vs=[.ref st]/\gj (vw K H) st /\ ∀(z:V) H' rs ws l,jg st (vw K H) (vw K H')->gj (vw K H') st->LK (vw K H') z rs ws l->Q z H'
theorem zQ(F:fy K "_law_strange" "_law_strange" ij f fd) (T:fV K mg)(zCtake:aZ P w K mg base "_law_take" ["_law_state_here", "_law_many"] 1 (ik K)) (zCsmall:aZ P w K mg base "_law_small" ["_law_state_here"] 3 (j0 K)) (zCmultiplied:aZ P w K mg base "_law_multiplied" ["_law_f", "_law_g"] 4 (eI K)) (zCabove:aZ P w K mg base "_law_above" ["_law_state_here"] 3 (jV K)):bZ P w K mg base fk 5 f fd ["_law_state_here"] (kc K):=by
 have scN:=rT.nd;refine F.okQ rT (λvs H Q E h=>?_) (λcdv A outer s H vs Q E hr h=>?_)
 .obtain⟨_,rfl,_⟩:=h;rfl
 .obtain⟨st,rfl,hst,h⟩:=h;refine⟨_,(ag (av (i:=1) scN rfl (·) (ay dL (bY (aa (aN (aa af (aa af ae))) (aa (aN (aa af (aa af ae))) (aa (aN (aa af (aa af ae))) (aa (aN (aa af (aa af ae))) (aa (aN (aa af (aa af ae))) ae)))))) (ao zCtake nofun rfl (aa (qv 0) (aa af ae))) (λ_ _=>rfl)))
   (ag (av (i:=2) scN rfl (·) (bY (aa (aN (aa (ar cx af (ay b9 (qv 1) af (λ_ _=>rfl))) (aa (ay b9 (qv 1) af (λ_ _=>rfl)) ae))) (aa (aN (aa af (aa af ae))) (aa (aN (aa af (aa af ae))) ae)))))
   (ym (du (aO jh (ao zCtake nofun rfl (aa (qv 0) (aa af ae))) af (aV _)) (ag (av (i:=3) scN rfl (·) (ao zCsmall nofun rfl (aa (qv 0) ae)))
   (aj (av (i:=2) scN rfl (·) (ao zCmultiplied nofun rfl (aa (qv 2) (aa (bY (aa (aN (aa (ar cx af (ay b9 (qv 3) af (λ_ _=>rfl))) (aa (ay b9 (qv 3) af (λ_ _=>rfl)) ae))) (aa (aN (aa af (aa af ae))) ae))) ae)))))) bK)
   (aj (aB (aN (aa (qv 2) (aa (bY (aa (ao zCabove nofun rfl (aa (qv 0) ae)) ae)) ae)))))))),?_⟩
  walk_at"m";skip
  refine aU.gen λM1 hM1=>?_;symm
  simp only[ik];refine⟨∅,λp1 G1 hp1 T1 g1=>⟨∅,λp2 G2 hp2 T2 g2=>⟨∅,λp3 G3 hp3 T3 g3=>⟨∅,λp4 G4 hp4 T4 g4=>⟨∅,λp5 G5 hp5 T5 g5=>⟨∅,λl8 G8 hp8 T8 g8=>?_⟩⟩⟩⟩⟩⟩;have T48:=T5.trans T8;have T38:=T4.trans T48;have T28:=T3.trans T38;have T18:=T2.trans T28;have T08:=T1.trans T18;have st8:=hst.same T08;refine⟨st,5,rfl,st8,∅,∅,λr5 H5 q0 q1 B5 S5=>⟨l8,rfl,r5,rfl,_,B5 _ _ (hst.same (T1.trans (T2.trans (T3.trans (T4.trans T5)))) |>.ne hp8) g8,?_⟩⟩
  obtain⟨_,_,z8,_⟩:=id st8;have rr:∀{p:Addr}{q:Int×Int},vw K G8 p=some (.tup [.int q.1,.int q.2])->aP (vw K H5) (fr q) (.ref p):=λe=>aP.flat_but z8 B5 _ _ (eN _) (bQ e);obtain⟨v5,nb,e5,r5',n5⟩ : ∃(v5:V)(nb:Int×Int),jo [V.ref p1,V.ref p2,V.ref p3,V.ref p4,V.ref p5] r5=some v5/\aP (vw K H5) (fr nb) v5/\nb∈GI:=by
   have:r5=0\/r5=1\/r5=2\/r5=3\/r5=4:=();rcases this with rfl|rfl|rfl|rfl|rfl
   .exact⟨_,(2,1),rfl,rr (T18 _ _ g1),∅⟩
   .exact⟨_,(3,1),rfl,rr (T28 _ _ g2),∅⟩
   .exact⟨_,(5,1),rfl,rr (T38 _ _ g3),∅⟩
   .exact⟨_,(1,2),rfl,rr (T48 _ _ g4),∅⟩
   .exact⟨_,(7,4),rfl,rr (T8 _ _ g5),∅⟩
  obtain⟨fn,bn⟩:=tZ n5;refine⟨v5,e5,hM1 _ _ ?_⟩;clear hM1;have B05:jg st (vw K H) (vw K H5):=(T08.but st).trans B5;refine aU.gen λM2 hM2=>?_;obtain⟨y5,rfl,hy5⟩:=id r5'.fr_at;symm
  refine⟨_,hy5,_,gE,_,rfl,_,hy5,_,jT,∅,λa6 H6 ha6 S6 h6=>⟨∅,λb7 H7 hb7 S7 h7=>⟨∅,λc8 H8 hc8 S8' h8=>⟨∅,λd9 H9 hd9 S9 h9=>hM2 _ _ ?_⟩⟩⟩⟩;clear hM2;have S59:=S6.trans (S7.trans (S8'.trans S9));have st9:=S5.same S59;have lr9:aW (vw K H9) d9 [(0-nb.1,nb.2),(0,1),(1,1)]:=⟨_,h9,.mk_cons (bQ ((S7.trans (S8'.trans S9)) _ _ h6)) (.mk_cons (bQ ((S8'.trans S9) _ _ h7)) (.mk_cons (bQ (S9 _ _ h8)) .mk_nil))⟩;have B09:jg st (vw K H) (vw K H9):=B05.trans (S59.but st);obtain⟨Rc,hRc⟩ : ∃Rc:St->Hp->Prop,∀σ G,Rc σ G ↔ ∃(o3:Option V)(c:Addr)(rs:List (Int×Int))(l:List (aR×Nat)),σ=[some (.ref st),some (.ref y5),some (.ref c),o3]/\jg st (vw K H) (vw K G)/\gj (vw K G) st/\aW (vw K G) c rs/\rs≠[]/\rs.length<=11/\aS rs/\Pb 220 (cf rs)/\sw rs l/\l.length+1<rs.length:=⟨_,λ_ _=>XJ⟩;refine Aq.mk Rc ?_ ?_
  .symm
   simp only[ik];refine⟨st,2,rfl,st9,∅,∅,λr10 H10 u0 u1 B10 S10=>⟨rfl,?_⟩⟩;have lr10:=lr9.stBut st9 B10;have B0a:=B09.trans B10;refine ee (λ_=>?_) (λ_=>(hRc _ _).mpr ⟨_,d9,_,_,rfl,B0a,S10,lr10,by simp,by show 3<=11;decide,zc fn,(tY n5).mono ∅,Ad n5,by show 1+1<3;decide⟩)
   simp only[j0];refine⟨st,rfl,S10,λv11 H11 q11 B11 S11 r11 f11 c1 c2 c5=>?_⟩;obtain⟨y11,rfl,hy11⟩:=id r11.fr_at;refine⟨_,rfl,_,hy11,_,gE,_,rfl,_,rfl,_,hy11,_,jT,∅,λa12 H12 ha12 S12 h12=>⟨∅,λb13 H13 hb13 S13 h13=>⟨∅,λl14 H14 hl14 S14 h14=>?_⟩⟩⟩;have S114:=S12.trans (S13.trans S14);have lr14:=(lr10.stBut S10 B11).same S114;have sq:Sx 300 q11:=by
    obtain⟨n,e,l⟩:=c5;exact⟨n,e,()⟩
   have pr':=zc fn;have pb':=(tY n5).bq pr'.1;have fl:=ko f11;have bl:=oK (n:=10) (q:=q11) ⟨c1,c2⟩;refine kE (fs:=[(0-nb.1,nb.2),(0,1),(1,1)]) (gs:=[(0-q11.1,q11.2),(1,1)]) 20 lr14 ⟨_,h14,.mk_cons (bQ ((S13.trans S14) _ _ h12)) (.mk_cons (bQ (S14 _ _ h13)) .mk_nil)⟩ (by show 3<=40;decide) (by show 2<=40;decide) ∅ ∅ (by show 3*(2*20+1)<=8000;decide) (λq hq=>⟨pr'.1 q hq,(pb' q hq).mono ∅⟩) (λq hq=>?_) λd15 H15 us S15 ld nd pu eu lu _=>?_
   .rcases YY.mp hq with rfl|hq
    .exact⟨fl,bl.mono ∅⟩
    .rw[XY] at hq;subst hq;exact⟨jx,pD.mono ∅⟩
   obtain⟨w1,w2⟩:=qb pr' (mh fl) pu rfl rfl (m:=2) rfl (n:=1) rfl eu;have w2:us.length=4:=w2;refine (hRc _ _).mpr ⟨_,d15,us,_,rfl,B0a.trans (B11.trans ((S114.trans S15).but st)),S11.same (S114.trans S15),ld,(λz=>by rw[z] at w2;cases w2),(),pu,((tE (tY n5) (su sq)).congr λk=>?_).mono ∅,EY n5 f11 ⟨c1,c2⟩ w2 λx=>?_,by rw[w2];show 2+1<4;decide⟩
   .rw[eu];exact kT k
   .rw[cD (g:=lin (-(wv q11)) 1 (cf [(0-nb.1,nb.2),(0,1),(1,1)])) (λk=>by rw[eu,show (0-q11.1) = -q11.1 by nofun];refine (kT (fs:=[(0-nb.1,nb.2),(0,1),(1,1)]) k).trans ?_;rw[jP (q:=q11),gR]),iq (aJ (by simp)),zm]
    grind
  .rintro σ G hr';obtain⟨o3,c,rs,l,rfl,B,S,lr,r0,r11,po,pb,fw,ll⟩:=(hRc _ _).mp hr';symm
   simp only[jV];refine⟨st,rfl,S,λv1 G1 q B1 S1 r1 f1 p1 b1 x1=>⟨∅,λl2 G2 hl2 S2 h2=>⟨∅,λp3 G3 hp3 S3 h3=>h _ G3 rs [q] l (B.trans (B1.trans ((S2.trans S3).but st))) (S1.same (S2.trans S3)) ⟨p3,c,l2,rfl,h3,(lr.stBut S B1).same (S2.trans S3),r0,r11,po,pb,fw,ll,⟨_,S3 _ _ h2,.mk_cons (aP.same (S2.trans S3) _ _ r1) .mk_nil⟩,by show 1<=8;decide,λy hy=>?_⟩⟩⟩⟩
   rw[XY.mp hy];exact⟨f1,b1.mono ∅⟩
theorem CQ{ps us:List (Int×Int)}(h1:ps.length<=1000)(h2:us.length<=1000):(D.tup [.lst (ps.map fr),.lst (us.map fr)]).sm 5=true:=by
 show (decide (2<=1000) && ((D.lst (ps.map fr)).sm 4 && ((D.lst (us.map fr)).sm 4 && true)))=true;rw[Cv (n:=1) h1,Cv (n:=1) h2];rfl
theorem sR(fs gs:List (Int×Int)):(D.tup [.lst (fs.map fr),.lst (gs.map fr)]).cmp:=by
 obtain⟨h1,h2⟩:=vS fs;obtain⟨h3,h4⟩:=vS gs;unfold D.cmp;simp only[D.py,D.pys,PyData.canLay0,PyData.canLayAll0,PyData.depth,PyData.depthAll,h1,h3];exact⟨∅,()⟩
theorem Ep{cs:List gP}(h:cs.length<=1000):(D.lst (cs.map oh)).sm 5=true:=by
 show (decide ((cs.map oh).length<=1000) && (cs.map oh).all (D.sm 4))=true;rw[YD,YI h,Bool.true_and];refine List.all_eq_true.mpr λd hd=>?_;obtain⟨c,_,rfl⟩:=List.mem_map.mp hd;rfl
theorem oA{rs ws:List (Int×Int)}{f:Rat->Rat}(p:aS rs)(q:aS ws)(l1:rs.length<=20)(l2:ws.length<=20)(e1:∀x,EV (cf rs) x=f x)(e2:∀x,EV (cf ws) x=f x):rs=ws :=
 By p q λk=>kL (f:=cf rs) (g:=cf ws) (λk hk=>aJ ()) (λk hk=>aJ ()) (λx=>by rw[e1,e2]) k
theorem gZ{G:Hp}{p c d:Addr}{rs ws:List (Int×Int)}(h:G p=some (.tup [.ref c,.ref d]))(l:aW G c rs)(m:aW G d ws):aP G (.tup [.lst (rs.map fr),.lst (ws.map fr)]) (.ref p):=.mk_tup h (.mk_cons l.rep (.mk_cons m.rep .mk_nil))
theorem wl{cs cs':List gP}(nd:(iZ cs).Nodup)(fc:∀c∈cs,Fq c.1/\Fq c.2)(e:cs'.map (λc=>c.1)=cs.map λc=>c.1)(h:∀c∈cs',Fq c.2/\wv c.2=tG cs cs.length (wv c.1)):cs'=cs:=by
 have el:cs'.length=cs.length:=by
  have:=Yn List.length e
  rwa [YD,YD] at this
 refine List.ext_getElem el λi h1 h2=>?_;have e1:cs'[i].1=cs[i].1:=by
  have:=Yn (λl=>l[i]?) e;simp only[YA,YK h1,YK h2,Option.map_some] at this;exact Ym this
 obtain⟨f,w⟩:=h _ (YJ h1);have s:=jr (YK h2);rw[e1,<-s,rQ nd h2 _ (Yq _),Yb h2,vX (YK h2)] at w;exact Prod.ext e1 (ju f (fc _ (YJ h2)).2 w)
def spLaw(K:W.Frag):Sp:=λvs H Q _=>∃(a:Addr)(ns:List Int),vs=[.ref a]/\kB K H a (ns.map V.int)/\ns.length<=63 /\ ∀H',Q (.bl true) H'
theorem JP(F:fy K "law" "law" lX f fd) (T:fV K mg)
  (zCstate:aZ P w K mg base "_law_state" ["_law_script", "_law_k"] 2 (oT K)) (zCcrowd:aZ P w K mg base "_law_crowd" ["_law_state_here", "_law_most"] 4 (oH K)) (zCsame:aZ P w K mg base "_law_same" ["_law_found", "_law_due"] 6 (iL 5 K)) (zCflock_of:aZ P w K mg base "_law_flock_of" ["_law_crowd_here"] 5 (i8 K)) (C_flock_of:aZ P w K mg base "flock_of" ["crowd"] 5 (gB K)) (C_crowd_of:aZ P w K mg base "crowd_of" ["flock"] 7 (gH K)) (zCstrange:aZ P w K mg base "_law_strange" ["_law_state_here"] 5 (kc K)):bZ P w K mg base fk 10 f fd ["_law_script"] (spLaw K):=by
 have scN:=CV.nd;refine F.okQ CV (λvs H Q E h=>?_) (λcdv A outer s H vs Q E hr h=>?_)
 .obtain⟨a,_,rfl,_⟩:=h;rfl
 .obtain⟨a,ns,rfl,hS,hl,h⟩:=h;refine⟨_,(ym (cZ PassesOwn.never rfl (cL rfl T.b_range (aa (aw (iT rfl) (by rfl) T.b_max pV (aa af (aa (aw (AR rfl) (by rfl) T.b_min HC (aa (aw i6 (by rfl) T.b_len bV (aa (qv 0) ae)) (aa af ae))) ae))) ae)) (au (i:=1) scN rfl (·)) (ag (av (i:=2) scN rfl (·) (ao zCstate nofun rfl (aa (qv 0) (aa (qv 1) ae))))
   (ag (av (i:=3) scN rfl (·) (ao zCcrowd nofun rfl (aa (qv 2) (aa af ae))))
   (ag (av (i:=4) scN rfl (·) (hV gm (by rfl) T.b_list gY (aa (qv 3) ae)))
   (ag (av (i:=5) scN rfl (·) (ao C_flock_of nofun rfl (aa (qv 4) ae)))
   (ag (du (QW.pt (u5 (jS (oZ (ao zCsame nofun rfl (aa (qv 5) (aa (ao zCflock_of nofun rfl (aa (qv 3) ae)) ae))))) (oY (aO (Da hr.u64) (qv 4) (qv 3) (aV _))))) (aj (aB jE)) bK)
   (ag (av (i:=6) scN rfl (·) (aN (aa (hV gm (by rfl) T.b_list gY (aa (ay b9 (qv 5) af (λ_ _=>rfl)) ae)) (aa (hV gm (by rfl) T.b_list gY (aa (ay b9 (qv 5) af (λ_ _=>rfl)) ae)) ae))))
   (ag (du (QW.pt (u5 (jS (oZ (ao zCsame nofun rfl (aa (ao C_crowd_of nofun rfl (aa (qv 5) ae)) (aa (qv 3) ae))))) (oY (aO (Da hr.u64) (qv 5) (qv 6) (aV _))))) (aj (aB jE)) bK)
   (ag (lD (yA XW PySem.F.slot_list_append PySem.F.type_list_append jf (ay b9 (qv 5) af (λ_ _=>rfl)) (aa (aN (aa af (aa af ae))) ae)))
   (aj (du (QW.pt (u5 (jS (oZ (ao zCsame nofun rfl (aa (ao C_flock_of nofun rfl (aa (qv 3) ae)) (aa (qv 6) ae))))) (oY (aO F4 (ao C_crowd_of nofun rfl (aa (ao zCstrange nofun rfl (aa (qv 2) ae)) ae)) CI (aV _))))) (aj (aB jE)) bK)))))))))))
   (aj (aB jE))),?_⟩
  walk_at"m";skip
  refine Aq.mk (λσ H2=>∃o1 o2 o3 o4 o5 o6,σ=[some (.ref a),o1,o2,o3,o4,o5,o6]) ?_ ?_
  .symm
   refine⟨_,.inl hS.sq,?_⟩;simp only[YD];obtain⟨Pv,hPv⟩ : ∃Pv:Nat->St->Hp->Prop,∀k σ H',Pv k σ H' ↔ ∃o1 o2 o3 o4 o5 o6,σ=[some (.ref a),o1,o2,o3,o4,o5,o6]/\aC (vw K H) (vw K H'):=⟨_,λ_ _ _=>XJ⟩;refine⟨by repeat' split<;>nofun,by repeat' split<;>nofun,bJ (its:=eX 0 _) Pv (λ_ _ _ _ _=>bH) ((hPv _ _ _).mpr ⟨_,_,_,_,_,_,rfl,.rfl⟩) (λi x σ H1 hi hx pv=>?_) (λσ H1 pv=>?_)⟩
   .obtain⟨o1,o2,o3,o4,o5,o6,rfl,s1⟩:=(hPv _ _ _).mp pv;obtain⟨hi',rfl⟩:=dP hx;refine aU.gen λN1 hN1=>?_;symm
    simp only[oT];symm
    refine⟨⟨i,by simp⟩,⟨ns,hS.same s1⟩,λst H2 hst0 s2 st2=>hN1 _ _ ?_⟩
    clear hN1;refine aU.gen λN2 hN2=>?_;symm
    simp only[oH];refine⟨st,6,rfl,∅,st2,λca H3 cs B3 st3 lc f3 b3 x3 inc nc nca=>hN2 _ _ ?_⟩;clear hN2;have fc:∀c∈cs,Fq c.1/\Fq c.2:=λc hc=>⟨(f3 c hc).1,(f3 c hc).2.1⟩;have s13:aC (vw K H1) (vw K H3):=λb o e=>B3 _ _ (ak e hst0) (s2 _ _ e);refine aU.gen λN3 hN3=>?_;symm
    obtain⟨xs,hxs,rxs⟩:=id lc;refine⟨xs,hxs,λhd H4 hhd S4 h4=>hN3 _ _ ?_⟩;clear hN3;have lh4:gW (vw K H4) hd (cs.map oh):=⟨xs,h4,rxs.same S4⟩;have lc4:=lc.same S4;have st4:=st3.same S4;have s14:=s13.trans S4;clear lc;refine aU.gen λN4 hN4=>?_;symm
    simp only[gB];refine⟨hd,cs,rfl,lh4,nc,fc,x3,inc,λp5 c5 d5 H5 rs ws S5 h5 lr5 lw5 nc5 po pw ln lnw ev evw=>hN4 _ _ ?_⟩;clear hN4;refine aU.gen λN5 hN5=>?_;symm
    simp only[i8];refine⟨ca,cs,rfl,lc4.same S5,nc,fc,x3,inc,λp6 c6 d6 H6 rs' ws' S6 h6 lr6 lw6 po' pw' hl' ln' lnw' pbr pbw ev' _ evw'=>?_⟩;have er:rs=rs':=oA po po' () () ev ev';subst er;have ew:ws=ws':=oA pw pw' () () evw evw';subst ew;have S56:=S5.trans S6;simp only[iL];refine⟨_,_,_,rfl,gZ (S6 _ _ h5) (lr5.same S6) (lw5.same S6),gZ h6 lr6 lw6,CQ () (),λH7 S7=>⟨true,rfl,?_⟩⟩;have S57:=S56.trans S7;refine kK ∅ ⟨_,(lh4.same S57).rep,_,(lc4.same S57).rep,qx cs,qx cs,?_⟩;rw[vm (qx cs)];refine kK ∅ (hN5 _ _ ?_);clear hN5;have h7:=(S6.trans S7) _ _ h5;have lr7:=lr5.same (S6.trans S7);have lw7:=lw5.same (S6.trans S7);have nc7:vw K H1 c5=none:=s14.none nc5;have s17:=s14.trans S57;have st7:=st4.same S57;have lc7:=lc4.same S57;have nca5:ca≠c5:=by
     obtain⟨_,e,_⟩:=lc4;exact ak e nc5
    have nst5:st≠c5:=(st4.ne nc5).symm;clear h5 lr5 lw5 lc4 st4 S56 S5 S6 S7 lr6 lw6 h6 S57 lh4;obtain⟨us,hus,rus⟩:=id lr7;obtain⟨vs,hvs,rvs⟩:=id lw7;refine aU.gen λN6 hN6=>?_;symm
    refine⟨_,h7,_,gE,_,rfl,us,hus,λc8 H8 hc8 S8 h8=>⟨_,S8 _ _ h7,_,jT,_,rfl,vs,S8 _ _ hvs,λd9 H9 hd9 S9 h9=>⟨∅,λp10 H10 hp10 S10 h10=>hN6 _ _ ?_⟩⟩⟩;clear hN6;have S710:=S8.trans (S9.trans S10);have lc8:aW (vw K H10) c8 rs:=⟨us,(S9.trans S10) _ _ h8,rus.same S710⟩;have ld9:aW (vw K H10) d9 ws:=⟨vs,S10 _ _ h9,rvs.same S710⟩;refine aU.gen λN7 hN7=>?_;symm
    simp only[gH];have FW:=ED nc fc x3 inc ln ev;have pbR:Pb 220 (cf rs):=pbr.mono ∅;refine⟨p5,c5,d5,rs,ws,GA cs,rfl,S710 _ _ h7,lr7.same S710,(λz=>by rw[z] at ln;cases ln),(),po,pbR,FW,lw7.same S710,(),λq hq=>⟨pw.1 q hq,(pbw.bq pw.1 q hq).mono ∅⟩,λms ft=>⟨λhlt=>?_,λ_ a11 H11 cs' S11 na11 l11 e11 w11=>?_⟩⟩
    .rw[zA fc inc ft,YD,ln] at hlt;nofun
    have ec:cs'=cs:=wl (iD fc inc) fc (e11.trans (zA fc inc ft)) λc hc=>⟨(w11 c hc).1,by rw[(w11 c hc).2,evw]⟩
    subst ec;clear e11 w11;have S711:=S710.trans S11;simp only[iL];refine⟨_,_,_,rfl,l11.rep,(lc7.same S711).rep,Ep (),λH12 S12=>⟨true,rfl,?_⟩⟩;have S1012:=S11.trans S12;have S712:=S711.trans S12;refine kK ∅ ⟨_,gZ (S712 _ _ h7) (lr7.same S712) (lw7.same S712),_,gZ (S1012 _ _ h10) (lc8.same S1012) (ld9.same S1012),sR _ _,sR _ _,?_⟩;rw[vm (sR _ _)];refine kK ∅ (hN7 _ _ ?_);clear hN7;have h12:=S712 _ _ h7;have hus12:=S712 _ _ hus;have ht12:=S1012 _ _ h10;have lc12:=lc7.same S712;have n8:c8≠c5:=(ak hus hc8).symm;have n9:d9≠c5:=(ak (S8 _ _ hus) hd9).symm;have n10:p10≠c5:=(ak ((S8.trans S9) _ _ hus) hp10).symm;have lus:us.length=rs.length:=by rw[rus.length,YD]
    have l8:=lc8.same S1012;have l9:=ld9.same S1012;refine aU.gen λN8 hN8=>?_;symm
    have sz:1000<=sizeLine:=∅;refine⟨_,h12,_,gE,pE hus12,∅,λa13 H13 ha13 S13 h13=>⟨c5,rfl,us,S13 _ _ hus12,(),λH14 B14 h14=>hN8 _ _ ?_⟩⟩;clear hN8;have l8':=(l8.same S13).but (S13 _ _ hus12) n8 B14;have l9':=(l9.same S13).but (S13 _ _ hus12) n9 B14;have lc14:=gW.but (lc12.same S13) (gd _) (S13 _ _ hus12) nca5 B14;have ht14:=B14 _ _ n10 (S13 _ _ ht12);have st12:=st7.same S712;have st14:gj (vw K H14) st:=(st12.same S13).but (S13 _ _ hus12) nst5 B14;have s14':aC (vw K H1) (vw K H14):=λb o x=>B14 _ _ (ak x nc7) ((s17.trans (S712.trans S13)) _ _ x);symm
    simp only[gB];refine⟨ca,_,rfl,lc14,nc,fc,x3,inc,λp15 c15 d15 H15 rs2 ws2 S15 h15 lr15 lw15 _ po2 pw2 ln2 lnw2 ev2 evw2=>?_⟩;have er:rs=rs2:=oA po po2 () () ev ev2;subst er;have ew:ws=ws2:=oA pw pw2 () () evw evw2;subst ew;simp only[iL];refine⟨_,_,_,rfl,gZ h15 lr15 lw15,gZ (S15 _ _ ht14) (l8'.same S15) (l9'.same S15),CQ () (),λH16 S16=>⟨true,rfl,kK ∅ ?_⟩⟩;have S1416:=S15.trans S16;simp only[kc];refine⟨st,rfl,st14.same S1416,λz H17 rs3 ws3 l3 B17 st17 sg=>?_⟩;obtain⟨p18,c18,d18,rfl,h18,lr18,r18,ln18,po18,pb18,FW18,ll18,lw18,lnw18,bw18⟩:=sg;simp only[gH];refine⟨p18,c18,d18,rs3,ws3,l3,rfl,h18,lr18,r18,ln18,po18,pb18,FW18,lw18,lnw18,bw18,λms ft=>⟨λ_ H19 S19=>?_,λhge=>?_⟩⟩
    .exact kK (λz=>z trivial) ((hPv _ _ _).mpr ⟨_,_,_,_,_,_,rfl,s1.trans λb o x=>S19 _ _ (B17 _ _ (ak x hst0) (S1416 _ _ (s14' _ _ x)))⟩)
    .have:=ft.len;nofun
   .obtain⟨o1,o2,o3,o4,o5,o6,rfl,s1⟩:=(hPv _ _ _).mp pv;exact⟨o1,o2,o3,o4,o5,o6,rfl⟩
  .rintro σ H2 ⟨o1,o2,o3,o4,o5,o6,rfl⟩;symm
   exact h H2
end
theorem all_mk{l:PySem.W.OpenLaw}{w:World}{K:W.Frag}{h:Heap}{mg:Str->Option Value}{fa f0 f1 f2 f3 f4 f5 f6 f7 f8 f9 f10 f11 f12 f13 f14 f15 f16 f17 f18 f19 f20 f21 f22 f23 f24 f25 f26 f27 f28 f29 f30 f31 f32 f33 f34 f35 f36 f37 f38 f39 f40 f41 f42 f43 f44 f45 f46 f47 f48 f49 f50 f51 f52 f53:Addr}(X:K.In h)(G:h.Ns mainGlobals mg)(hfa:mg "law" = some (.ref fa)) (hst:l.prog.given.tree=none)
  {od0 an0 od1 an1 od2 an2 od3 an3 od4 an4 od5 an5 od6 an6 od7 an7 od8 an8 od9 an9 od10 an10 od11 an11 od12 an12 od13 an13 od14 an14 od15 an15 od16 an16 od17 an17 od18 an18 od19 an19 od20 an20 od21 an21 od22 an22 od23 an23 od24 an24 od25 an25 od26 an26 od27 an27 od28 an28 od29 an29 od30 an30 od31 an31 od32 an32 od33 an33 od34 an34 od35 an35 od36 an36 od37 an37 od38 an38 od39 an39 od40 an40 od41 an41 od42 an42 od43 an43 od44 an44 od45 an45 od46 an46 od47 an47 od48 an48 od49 an49 od50 an50 od51 an51 od52 an52 od53 an53:Option Addr}{sl0 sl1 sl2 sl3 sl4 sl5 sl6 sl7 sl8 sl9 sl10 sl11 sl12 sl13 sl14 sl15 sl16 sl17 sl18 sl19 sl20 sl21 sl22 sl23 sl24 sl25 sl26 sl27 sl28 sl29 sl30 sl31 sl32 sl33 sl34 sl35 sl36 sl37 sl38 sl39 sl40 sl41 sl42 sl43 sl44 sl45 sl46 sl47 sl48 sl49 sl50 sl51 sl52 sl53:Array (Option Value)}
  {oc0 kV0 dc0 pm0 cd0 ct0 oc1 kV1 dc1 pm1 cd1 ct1 oc2 kV2 dc2 pm2 cd2 ct2 oc3 kV3 dc3 pm3 cd3 ct3 oc4 kV4 dc4 pm4 cd4 ct4 oc5 kV5 dc5 pm5 cd5 ct5 oc6 kV6 dc6 pm6 cd6 ct6 oc7 kV7 dc7 pm7 cd7 ct7 oc8 kV8 dc8 pm8 cd8 ct8 oc9 kV9 dc9 pm9 cd9 ct9 oc10 kV10 dc10 pm10 cd10 ct10 oc11 kV11 dc11 pm11 cd11 ct11 oc12 kV12 dc12 pm12 cd12 ct12 oc13 kV13 dc13 pm13 cd13 ct13 oc14 kV14 dc14 pm14 cd14 ct14 oc15 kV15 dc15 pm15 cd15 ct15 oc16 kV16 dc16 pm16 cd16 ct16 oc17 kV17 dc17 pm17 cd17 ct17 oc18 kV18 dc18 pm18 cd18 ct18 oc19 kV19 dc19 pm19 cd19 ct19 oc20 kV20 dc20 pm20 cd20 ct20 oc21 kV21 dc21 pm21 cd21 ct21 oc22 kV22 dc22 pm22 cd22 ct22 oc23 kV23 dc23 pm23 cd23 ct23 oc24 kV24 dc24 pm24 cd24 ct24 oc25 kV25 dc25 pm25 cd25 ct25 oc26 kV26 dc26 pm26 cd26 ct26 oc27 kV27 dc27 pm27 cd27 ct27 oc28 kV28 dc28 pm28 cd28 ct28 oc29 kV29 dc29 pm29 cd29 ct29 oc30 kV30 dc30 pm30 cd30 ct30 oc31 kV31 dc31 pm31 cd31 ct31 oc32 kV32 dc32 pm32 cd32 ct32 oc33 kV33 dc33 pm33 cd33 ct33 oc34 kV34 dc34 pm34 cd34 ct34 oc35 kV35 dc35 pm35 cd35 ct35 oc36 kV36 dc36 pm36 cd36 ct36 oc37 kV37 dc37 pm37 cd37 ct37 oc38 kV38 dc38 pm38 cd38 ct38 oc39 kV39 dc39 pm39 cd39 ct39 oc40 kV40 dc40 pm40 cd40 ct40 oc41 kV41 dc41 pm41 cd41 ct41 oc42 kV42 dc42 pm42 cd42 ct42 oc43 kV43 dc43 pm43 cd43 ct43 oc44 kV44 dc44 pm44 cd44 ct44 oc45 kV45 dc45 pm45 cd45 ct45 oc46 kV46 dc46 pm46 cd46 ct46 oc47 kV47 dc47 pm47 cd47 ct47 oc48 kV48 dc48 pm48 cd48 ct48 oc49 kV49 dc49 pm49 cd49 ct49 oc50 kV50 dc50 pm50 cd50 ct50 oc51 kV51 dc51 pm51 cd51 ct51 oc52 kV52 dc52 pm52 cd52 ct52 oc53 kV53 dc53 pm53 cd53 ct53:Value}
  (a0:nsIn K mainGlobals "greatest_divisor" = some (some (.ref f0))) (l0:K.lookup f0=some ⟨oc0,od0,.func (fnOf "greatest_divisor" "greatest_divisor" (az cw) (ax cw) (ah cw) .none kV0 dc0 pm0 an0 cd0 ct0),sl0⟩) (c0:codeIn K cd0 "greatest_divisor" = true) (k0:keepIn K (.ref f0)=true)
  (a1:nsIn K mainGlobals "sign_of" = some (some (.ref f1))) (l1:K.lookup f1=some ⟨oc1,od1,.func (fnOf "sign_of" "sign_of" (az g9) (ax g9) (ah g9) .none kV1 dc1 pm1 an1 cd1 ct1),sl1⟩) (c1:codeIn K cd1 "sign_of" = true) (k1:keepIn K (.ref f1)=true)
  (a2:nsIn K mainGlobals "power" = some (some (.ref f2))) (l2:K.lookup f2=some ⟨oc2,od2,.func (fnOf "power" "power" (az j7) (ax j7) (ah j7) .none kV2 dc2 pm2 an2 cd2 ct2),sl2⟩) (c2:codeIn K cd2 "power" = true) (k2:keepIn K (.ref f2)=true)
  (a3:nsIn K mainGlobals "trimmed" = some (some (.ref f3))) (l3:K.lookup f3=some ⟨oc3,od3,.func (fnOf "trimmed" "trimmed" (az hJ) (ax hJ) (ah hJ) .none kV3 dc3 pm3 an3 cd3 ct3),sl3⟩) (c3:codeIn K cd3 "trimmed" = true) (k3:keepIn K (.ref f3)=true)
  (a4:nsIn K mainGlobals "lowered" = some (some (.ref f4))) (l4:K.lookup f4=some ⟨oc4,od4,.func (fnOf "lowered" "lowered" (az hZ) (ax hZ) (ah hZ) .none kV4 dc4 pm4 an4 cd4 ct4),sl4⟩) (c4:codeIn K cd4 "lowered" = true) (k4:keepIn K (.ref f4)=true)
  (a5:nsIn K mainGlobals "wholes_multiplied" = some (some (.ref f5))) (l5:K.lookup f5=some ⟨oc5,od5,.func (fnOf "wholes_multiplied" "wholes_multiplied" (az cp) (ax cp) (ah cp) .none kV5 dc5 pm5 an5 cd5 ct5),sl5⟩) (c5:codeIn K cd5 "wholes_multiplied" = true) (k5:keepIn K (.ref f5)=true)
  (a6:nsIn K mainGlobals "wholes_slope" = some (some (.ref f6))) (l6:K.lookup f6=some ⟨oc6,od6,.func (fnOf "wholes_slope" "wholes_slope" (az dj) (ax dj) (ah dj) .none kV6 dc6 pm6 an6 cd6 ct6),sl6⟩) (c6:codeIn K cd6 "wholes_slope" = true) (k6:keepIn K (.ref f6)=true)
  (a7:nsIn K mainGlobals "wholes_at" = some (some (.ref f7))) (l7:K.lookup f7=some ⟨oc7,od7,.func (fnOf "wholes_at" "wholes_at" (az fI) (ax fI) (ah fI) .none kV7 dc7 pm7 an7 cd7 ct7),sl7⟩) (c7:codeIn K cd7 "wholes_at" = true) (k7:keepIn K (.ref f7)=true)
  (a8:nsIn K mainGlobals "wholes_parted" = some (some (.ref f8))) (l8:K.lookup f8=some ⟨oc8,od8,.func (fnOf "wholes_parted" "wholes_parted" (az cU) (ax cU) (ah cU) .none kV8 dc8 pm8 an8 cd8 ct8),sl8⟩) (c8:codeIn K cd8 "wholes_parted" = true) (k8:keepIn K (.ref f8)=true)
  (a9:nsIn K mainGlobals "wholes_rests" = some (some (.ref f9))) (l9:K.lookup f9=some ⟨oc9,od9,.func (fnOf "wholes_rests" "wholes_rests" (az dB) (ax dB) (ah dB) .none kV9 dc9 pm9 an9 cd9 ct9),sl9⟩) (c9:codeIn K cd9 "wholes_rests" = true) (k9:keepIn K (.ref f9)=true)
  (a10:nsIn K mainGlobals "ratio" = some (some (.ref f10))) (l10:K.lookup f10=some ⟨oc10,od10,.func (fnOf "ratio" "ratio" (az j2) (ax j2) (ah j2) .none kV10 dc10 pm10 an10 cd10 ct10),sl10⟩) (c10:codeIn K cd10 "ratio" = true) (k10:keepIn K (.ref f10)=true)
  (a11:nsIn K mainGlobals "plus" = some (some (.ref f11))) (l11:K.lookup f11=some ⟨oc11,od11,.func (fnOf "plus" "plus" (az mY) (ax mY) (ah mY) .none kV11 dc11 pm11 an11 cd11 ct11),sl11⟩) (c11:codeIn K cd11 "plus" = true) (k11:keepIn K (.ref f11)=true)
  (a12:nsIn K mainGlobals "times" = some (some (.ref f12))) (l12:K.lookup f12=some ⟨oc12,od12,.func (fnOf "times" "times" (az ka) (ax ka) (ah ka) .none kV12 dc12 pm12 an12 cd12 ct12),sl12⟩) (c12:codeIn K cd12 "times" = true) (k12:keepIn K (.ref f12)=true)
  (a13:nsIn K mainGlobals "over" = some (some (.ref f13))) (l13:K.lookup f13=some ⟨oc13,od13,.func (fnOf "over" "over" (az nH) (ax nH) (ah nH) .none kV13 dc13 pm13 an13 cd13 ct13),sl13⟩) (c13:codeIn K cd13 "over" = true) (k13:keepIn K (.ref f13)=true)
  (a14:nsIn K mainGlobals "number_of" = some (some (.ref f14))) (l14:K.lookup f14=some ⟨oc14,od14,.func (fnOf "number_of" "number_of" (az fH) (ax fH) (ah fH) .none kV14 dc14 pm14 an14 cd14 ct14),sl14⟩) (c14:codeIn K cd14 "number_of" = true) (k14:keepIn K (.ref f14)=true)
  (a15:nsIn K mainGlobals "summed" = some (some (.ref f15))) (l15:K.lookup f15=some ⟨oc15,od15,.func (fnOf "summed" "summed" (az iV) (ax iV) (ah iV) .none kV15 dc15 pm15 an15 cd15 ct15),sl15⟩) (c15:codeIn K cd15 "summed" = true) (k15:keepIn K (.ref f15)=true)
  (a16:nsIn K mainGlobals "cleared" = some (some (.ref f16))) (l16:K.lookup f16=some ⟨oc16,od16,.func (fnOf "cleared" "cleared" (az g6) (ax g6) (ah g6) .none kV16 dc16 pm16 an16 cd16 ct16),sl16⟩) (c16:codeIn K cd16 "cleared" = true) (k16:keepIn K (.ref f16)=true)
  (a17:nsIn K mainGlobals "divided" = some (some (.ref f17))) (l17:K.lookup f17=some ⟨oc17,od17,.func (fnOf "divided" "divided" (az ii) (ax ii) (ah ii) .none kV17 dc17 pm17 an17 cd17 ct17),sl17⟩) (c17:codeIn K cd17 "divided" = true) (k17:keepIn K (.ref f17)=true)
  (a18:nsIn K mainGlobals "multiplied" = some (some (.ref f18))) (l18:K.lookup f18=some ⟨oc18,od18,.func (fnOf "multiplied" "multiplied" (az eD) (ax eD) (ah eD) .none kV18 dc18 pm18 an18 cd18 ct18),sl18⟩) (c18:codeIn K cd18 "multiplied" = true) (k18:keepIn K (.ref f18)=true)
  (a19:nsIn K mainGlobals "grown" = some (some (.ref f19))) (l19:K.lookup f19=some ⟨oc19,od19,.func (fnOf "grown" "grown" (az kh) (ax kh) (ah kh) .none kV19 dc19 pm19 an19 cd19 ct19),sl19⟩) (c19:codeIn K cd19 "grown" = true) (k19:keepIn K (.ref f19)=true)
  (a20:nsIn K mainGlobals "number_at" = some (some (.ref f20))) (l20:K.lookup f20=some ⟨oc20,od20,.func (fnOf "number_at" "number_at" (az fF) (ax fF) (ah fF) .none kV20 dc20 pm20 an20 cd20 ct20),sl20⟩) (c20:codeIn K cd20 "number_at" = true) (k20:keepIn K (.ref f20)=true)
  (a21:nsIn K mainGlobals "parted" = some (some (.ref f21))) (l21:K.lookup f21=some ⟨oc21,od21,.func (fnOf "parted" "parted" (az iS) (ax iS) (ah iS) .none kV21 dc21 pm21 an21 cd21 ct21),sl21⟩) (c21:codeIn K cd21 "parted" = true) (k21:keepIn K (.ref f21)=true)
  (a22:nsIn K mainGlobals "refuse_nought" = some (some (.ref f22))) (l22:K.lookup f22=some ⟨oc22,od22,.func (fnOf "refuse_nought" "refuse_nought" (az cV) (ax cV) (ah cV) .none kV22 dc22 pm22 an22 cd22 ct22),sl22⟩) (c22:codeIn K cd22 "refuse_nought" = true) (k22:keepIn K (.ref f22)=true)
  (a23:nsIn K mainGlobals "signed_chain" = some (some (.ref f23))) (l23:K.lookup f23=some ⟨oc23,od23,.func (fnOf "signed_chain" "signed_chain" (az dy) (ax dy) (ah dy) .none kV23 dc23 pm23 an23 cd23 ct23),sl23⟩) (c23:codeIn K cd23 "signed_chain" = true) (k23:keepIn K (.ref f23)=true)
  (a24:nsIn K mainGlobals "parted_chain" = some (some (.ref f24))) (l24:K.lookup f24=some ⟨oc24,od24,.func (fnOf "parted_chain" "parted_chain" (az dE) (ax dE) (ah dE) .none kV24 dc24 pm24 an24 cd24 ct24),sl24⟩) (c24:codeIn K cd24 "parted_chain" = true) (k24:keepIn K (.ref f24)=true)
  (a25:nsIn K mainGlobals "counting_chain" = some (some (.ref f25))) (l25:K.lookup f25=some ⟨oc25,od25,.func (fnOf "counting_chain" "counting_chain" (az cM) (ax cM) (ah cM) .none kV25 dc25 pm25 an25 cd25 ct25),sl25⟩) (c25:codeIn K cd25 "counting_chain" = true) (k25:keepIn K (.ref f25)=true)
  (a26:nsIn K mainGlobals "root_bound" = some (some (.ref f26))) (l26:K.lookup f26=some ⟨oc26,od26,.func (fnOf "root_bound" "root_bound" (az eM) (ax eM) (ah eM) .none kV26 dc26 pm26 an26 cd26 ct26),sl26⟩) (c26:codeIn K cd26 "root_bound" = true) (k26:keepIn K (.ref f26)=true)
  (a27:nsIn K mainGlobals "left_over" = some (some (.ref f27))) (l27:K.lookup f27=some ⟨oc27,od27,.func (fnOf "left_over" "left_over" (az fG) (ax fG) (ah fG) .none kV27 dc27 pm27 an27 cd27 ct27),sl27⟩) (c27:codeIn K cd27 "left_over" = true) (k27:keepIn K (.ref f27)=true)
  (a28:nsIn K mainGlobals "serves" = some (some (.ref f28))) (l28:K.lookup f28=some ⟨oc28,od28,.func (fnOf "serves" "serves" (az iU) (ax iU) (ah iU) .none kV28 dc28 pm28 an28 cd28 ct28),sl28⟩) (c28:codeIn K cd28 "serves" = true) (k28:keepIn K (.ref f28)=true)
  (a29:nsIn K mainGlobals "least_modulus" = some (some (.ref f29))) (l29:K.lookup f29=some ⟨oc29,od29,.func (fnOf "least_modulus" "least_modulus" (az cT) (ax cT) (ah cT) .none kV29 dc29 pm29 an29 cd29 ct29),sl29⟩) (c29:codeIn K cd29 "least_modulus" = true) (k29:keepIn K (.ref f29)=true)
  (a30:nsIn K mainGlobals "refined" = some (some (.ref f30))) (l30:K.lookup f30=some ⟨oc30,od30,.func (fnOf "refined" "refined" (az ic) (ax ic) (ah ic) .none kV30 dc30 pm30 an30 cd30 ct30),sl30⟩) (c30:codeIn K cd30 "refined" = true) (k30:keepIn K (.ref f30)=true)
  (a31:nsIn K mainGlobals "fraction_roots" = some (some (.ref f31))) (l31:K.lookup f31=some ⟨oc31,od31,.func (fnOf "fraction_roots" "fraction_roots" (az cO) (ax cO) (ah cO) .none kV31 dc31 pm31 an31 cd31 ct31),sl31⟩) (c31:codeIn K cd31 "fraction_roots" = true) (k31:keepIn K (.ref f31)=true)
  (a32:nsIn K mainGlobals "less_spot" = some (some (.ref f32))) (l32:K.lookup f32=some ⟨oc32,od32,.func (fnOf "less_spot" "less_spot" (az fA) (ax fA) (ah fA) .none kV32 dc32 pm32 an32 cd32 ct32),sl32⟩) (c32:codeIn K cd32 "less_spot" = true) (k32:keepIn K (.ref f32)=true)
  (a33:nsIn K mainGlobals "flock_of" = some (some (.ref f33))) (l33:K.lookup f33=some ⟨oc33,od33,.func (fnOf "flock_of" "flock_of" (az gq) (ax gq) (ah gq) .none kV33 dc33 pm33 an33 cd33 ct33),sl33⟩) (c33:codeIn K cd33 "flock_of" = true) (k33:keepIn K (.ref f33)=true)
  (a34:nsIn K mainGlobals "crowd_of" = some (some (.ref f34))) (l34:K.lookup f34=some ⟨oc34,od34,.func (fnOf "crowd_of" "crowd_of" (az fX) (ax fX) (ah fX) .none kV34 dc34 pm34 an34 cd34 ct34),sl34⟩) (c34:codeIn K cd34 "crowd_of" = true) (k34:keepIn K (.ref f34)=true)
  (a35:nsIn K mainGlobals "_law_cell_at" = some (some (.ref f35))) (l35:K.lookup f35=some ⟨oc35,od35,.func (fnOf "_law_cell_at" "_law_cell_at" (az ig) (ax ig) (ah ig) .none kV35 dc35 pm35 an35 cd35 ct35),sl35⟩) (c35:codeIn K cd35 "_law_cell_at" = true) (k35:keepIn K (.ref f35)=true)
  (a36:nsIn K mainGlobals "_law_state" = some (some (.ref f36))) (l36:K.lookup f36=some ⟨oc36,od36,.func (fnOf "_law_state" "_law_state" (az j1) (ax j1) (ah j1) .none kV36 dc36 pm36 an36 cd36 ct36),sl36⟩) (c36:codeIn K cd36 "_law_state" = true) (k36:keepIn K (.ref f36)=true)
  (a37:nsIn K mainGlobals "_law_take" = some (some (.ref f37))) (l37:K.lookup f37=some ⟨oc37,od37,.func (fnOf "_law_take" "_law_take" (az mK) (ax mK) (ah mK) .none kV37 dc37 pm37 an37 cd37 ct37),sl37⟩) (c37:codeIn K cd37 "_law_take" = true) (k37:keepIn K (.ref f37)=true)
  (a38:nsIn K mainGlobals "_law_divisor" = some (some (.ref f38))) (l38:K.lookup f38=some ⟨oc38,od38,.func (fnOf "_law_divisor" "_law_divisor" (az ie) (ax ie) (ah ie) .none kV38 dc38 pm38 an38 cd38 ct38),sl38⟩) (c38:codeIn K cd38 "_law_divisor" = true) (k38:keepIn K (.ref f38)=true)
  (a39:nsIn K mainGlobals "_law_low" = some (some (.ref f39))) (l39:K.lookup f39=some ⟨oc39,od39,.func (fnOf "_law_low" "_law_low" (az rN) (ax rN) (ah rN) .none kV39 dc39 pm39 an39 cd39 ct39),sl39⟩) (c39:codeIn K cd39 "_law_low" = true) (k39:keepIn K (.ref f39)=true)
  (a40:nsIn K mainGlobals "_law_small" = some (some (.ref f40))) (l40:K.lookup f40=some ⟨oc40,od40,.func (fnOf "_law_small" "_law_small" (az kr) (ax kr) (ah kr) .none kV40 dc40 pm40 an40 cd40 ct40),sl40⟩) (c40:codeIn K cd40 "_law_small" = true) (k40:keepIn K (.ref f40)=true)
  (a41:nsIn K mainGlobals "_law_above" = some (some (.ref f41))) (l41:K.lookup f41=some ⟨oc41,od41,.func (fnOf "_law_above" "_law_above" (az jX) (ax jX) (ah jX) .none kV41 dc41 pm41 an41 cd41 ct41),sl41⟩) (c41:codeIn K cd41 "_law_above" = true) (k41:keepIn K (.ref f41)=true)
  (a42:nsIn K mainGlobals "_law_plus" = some (some (.ref f42))) (l42:K.lookup f42=some ⟨oc42,od42,.func (fnOf "_law_plus" "_law_plus" (az mO) (ax mO) (ah mO) .none kV42 dc42 pm42 an42 cd42 ct42),sl42⟩) (c42:codeIn K cd42 "_law_plus" = true) (k42:keepIn K (.ref f42)=true)
  (a43:nsIn K mainGlobals "_law_crowd" = some (some (.ref f43))) (l43:K.lookup f43=some ⟨oc43,od43,.func (fnOf "_law_crowd" "_law_crowd" (az j9) (ax j9) (ah j9) .none kV43 dc43 pm43 an43 cd43 ct43),sl43⟩) (c43:codeIn K cd43 "_law_crowd" = true) (k43:keepIn K (.ref f43)=true)
  (a44:nsIn K mainGlobals "_law_clean" = some (some (.ref f44))) (l44:K.lookup f44=some ⟨oc44,od44,.func (fnOf "_law_clean" "_law_clean" (az kg) (ax kg) (ah kg) .none kV44 dc44 pm44 an44 cd44 ct44),sl44⟩) (c44:codeIn K cd44 "_law_clean" = true) (k44:keepIn K (.ref f44)=true)
  (a45:nsIn K mainGlobals "_law_times" = some (some (.ref f45))) (l45:K.lookup f45=some ⟨oc45,od45,.func (fnOf "_law_times" "_law_times" (az jZ) (ax jZ) (ah jZ) .none kV45 dc45 pm45 an45 cd45 ct45),sl45⟩) (c45:codeIn K cd45 "_law_times" = true) (k45:keepIn K (.ref f45)=true)
  (a46:nsIn K mainGlobals "_law_multiplied" = some (some (.ref f46))) (l46:K.lookup f46=some ⟨oc46,od46,.func (fnOf "_law_multiplied" "_law_multiplied" (az eJ) (ax eJ) (ah eJ) .none kV46 dc46 pm46 an46 cd46 ct46),sl46⟩) (c46:codeIn K cd46 "_law_multiplied" = true) (k46:keepIn K (.ref f46)=true)
  (a47:nsIn K mainGlobals "_law_summed" = some (some (.ref f47))) (l47:K.lookup f47=some ⟨oc47,od47,.func (fnOf "_law_summed" "_law_summed" (az iO) (ax iO) (ah iO) .none kV47 dc47 pm47 an47 cd47 ct47),sl47⟩) (c47:codeIn K cd47 "_law_summed" = true) (k47:keepIn K (.ref f47)=true)
  (a48:nsIn K mainGlobals "_law_minus" = some (some (.ref f48))) (l48:K.lookup f48=some ⟨oc48,od48,.func (fnOf "_law_minus" "_law_minus" (az ky) (ax ky) (ah ky) .none kV48 dc48 pm48 an48 cd48 ct48),sl48⟩) (c48:codeIn K cd48 "_law_minus" = true) (k48:keepIn K (.ref f48)=true)
  (a49:nsIn K mainGlobals "_law_over" = some (some (.ref f49))) (l49:K.lookup f49=some ⟨oc49,od49,.func (fnOf "_law_over" "_law_over" (az m7) (ax m7) (ah m7) .none kV49 dc49 pm49 an49 cd49 ct49),sl49⟩) (c49:codeIn K cd49 "_law_over" = true) (k49:keepIn K (.ref f49)=true)
  (a50:nsIn K mainGlobals "_law_flock_of" = some (some (.ref f50))) (l50:K.lookup f50=some ⟨oc50,od50,.func (fnOf "_law_flock_of" "_law_flock_of" (az gi) (ax gi) (ah gi) .none kV50 dc50 pm50 an50 cd50 ct50),sl50⟩) (c50:codeIn K cd50 "_law_flock_of" = true) (k50:keepIn K (.ref f50)=true)
  (a51:nsIn K mainGlobals "_law_same" = some (some (.ref f51))) (l51:K.lookup f51=some ⟨oc51,od51,.func (fnOf "_law_same" "_law_same" (az kN) (ax kN) (ah kN) .none kV51 dc51 pm51 an51 cd51 ct51),sl51⟩) (c51:codeIn K cd51 "_law_same" = true) (k51:keepIn K (.ref f51)=true)
  (a52:nsIn K mainGlobals "_law_strange" = some (some (.ref f52))) (l52:K.lookup f52=some ⟨oc52,od52,.func (fnOf "_law_strange" "_law_strange" (az ij) (ax ij) (ah ij) .none kV52 dc52 pm52 an52 cd52 ct52),sl52⟩) (c52:codeIn K cd52 "_law_strange" = true) (k52:keepIn K (.ref f52)=true)
  (a53:nsIn K mainGlobals "law" = some (some (.ref f53))) (l53:K.lookup f53=some ⟨oc53,od53,.func (fnOf "law" "law" (az lX) (ax lX) (ah lX) .none kV53 dc53 pm53 an53 cd53 ct53),sl53⟩) (c53:codeIn K cd53 "law" = true) (k53:keepIn K (.ref f53)=true)
  {ga0 ga1:Addr}{go0 go1:Obj}
  (u0:nsIn K mainGlobals "ZERO" = some (some (.ref ga0))) (v0:K.lookup ga0=some go0)(w0:xm go0=some (.tup [V.int (0),V.int (1)]))
  (u1:nsIn K mainGlobals "ONE" = some (some (.ref ga1))) (v1:K.lookup ga1=some go1)(w1:xm go1=some (.tup [V.int (1),V.int (1)]))
  (z0:nsIn K mainGlobals "abs" = some none)
  (z1:nsIn K mainGlobals "range" = some none)
  (z2:nsIn K mainGlobals "len" = some none)
  (z3:nsIn K mainGlobals "enumerate" = some none)
  (z4:nsIn K mainGlobals "reversed" = some none)
  (z5:nsIn K mainGlobals "max" = some none)
  (z6:nsIn K mainGlobals "list" = some none)
  (z7:nsIn K mainGlobals "sorted" = some none)
  (z8:nsIn K mainGlobals "isinstance" = some none)
  (z9:nsIn K mainGlobals "bool" = some none)
  (z10:nsIn K mainGlobals "tuple" = some none)
  (z11:nsIn K mainGlobals "all" = some none)
  (z12:nsIn K mainGlobals "zip" = some none)
  (z13:nsIn K mainGlobals "min" = some none)
  : ∃fd:FuncData,(∀(s:Shared)(v:Value),BindsTo s fd ⟨[v],[]⟩ [("_law_script",v)]) /\ ∀base:Heap,K.In base->base.Ns mainGlobals mg->xz mg base->base.NoSeer->bZ l.prog w K mg base fk 10 fa fd ["_law_script"] (spLaw K):=by
 have e:=hfa.symm.trans (XZ X G a53);cases e;have T:fV K mg:=⟨trivial,GT.mk (XZ X G u0) v0 w0,GT.mk (XZ X G u1) v1 w1,X0 X G z0,X0 X G z1,X0 X G z2,X0 X G z3,X0 X G z4,X0 X G z5,X0 X G z6,X0 X G z7,X0 X G z8,X0 X G z9,X0 X G z10,X0 X G z11,X0 X G z12,X0 X G z13⟩;refine⟨fnOf "law" "law" (az lX) (ax lX) (ah lX) .none kV53 dc53 pm53 an53 cd53 ct53,λs v=>.of_eq rfl,λbase kb nb hB hSe=>?_⟩;have N_:qU l.prog base:=⟨hSe,hst⟩;have F_greatest_divisor:=aE (st:=cw) l0 c0 k0;have C_greatest_divisor:aZ l.prog w K mg base "greatest_divisor" ["one", "other"] 1 (aK K):=⟨_,_,kA F_greatest_divisor T ,XZ X G a0,k0,(F_greatest_divisor.binds λ_ _ _ _ _ _ us hl=>ck (g:=λus=>bindArgs _ ⟨us,[]⟩) (z:=λus=>pure (List.zip _ us)) us hl λ_ _=>rfl)⟩;have F_sign_of:=aE (st:=g9) l1 c1 k1;have C_sign_of:aZ l.prog w K mg base "sign_of" ["whole"] 1 (gu K):=⟨_,_,vO F_sign_of T ,XZ X G a1,k1,(F_sign_of.binds λ_ _ _ _ _ _ us hl=>dN (g:=λus=>bindArgs _ ⟨us,[]⟩) (z:=λus=>pure (List.zip _ us)) us hl λ_=>rfl)⟩;have F_power:=aE (st:=j7) l2 c2 k2;have C_power:aZ l.prog w K mg base "power" ["base", "many"] 1 (lT K):=⟨_,_,Dp F_power T ,XZ X G a2,k2,(F_power.binds λ_ _ _ _ _ _ us hl=>ck (g:=λus=>bindArgs _ ⟨us,[]⟩) (z:=λus=>pure (List.zip _ us)) us hl λ_ _=>rfl)⟩;have F_trimmed:=aE (st:=hJ) l3 c3 k3;have C_trimmed:aZ l.prog w K mg base "trimmed" ["numbers", "zero"] 1 (de K):=⟨_,_,wQ F_trimmed T ,XZ X G a3,k3,(F_trimmed.binds λ_ _ _ _ _ _ us hl=>ck (g:=λus=>bindArgs _ ⟨us,[]⟩) (z:=λus=>pure (List.zip _ us)) us hl λ_ _=>rfl)⟩;have F_lowered:=aE (st:=hZ) l4 c4 k4;have C_lowered:aZ l.prog w K mg base "lowered" ["wholes"] 2 (fu K):=⟨_,_,xw F_lowered T (N_:=N_) (C_greatest_divisor:=C_greatest_divisor),XZ X G a4,k4,(F_lowered.binds λ_ _ _ _ _ _ us hl=>dN (g:=λus=>bindArgs _ ⟨us,[]⟩) (z:=λus=>pure (List.zip _ us)) us hl λ_=>rfl)⟩;have F_wholes_multiplied:=aE (st:=cp) l5 c5 k5;have C_wholes_multiplied:aZ l.prog w K mg base "wholes_multiplied" ["one", "other"] 1 (cX K):=⟨_,_,jv F_wholes_multiplied T ,XZ X G a5,k5,(F_wholes_multiplied.binds λ_ _ _ _ _ _ us hl=>ck (g:=λus=>bindArgs _ ⟨us,[]⟩) (z:=λus=>pure (List.zip _ us)) us hl λ_ _=>rfl)⟩;have F_wholes_slope:=aE (st:=dj) l6 c6 k6;have C_wholes_slope:aZ l.prog w K mg base "wholes_slope" ["wholes"] 1 (cu K):=⟨_,_,oq F_wholes_slope T ,XZ X G a6,k6,(F_wholes_slope.binds λ_ _ _ _ _ _ us hl=>dN (g:=λus=>bindArgs _ ⟨us,[]⟩) (z:=λus=>pure (List.zip _ us)) us hl λ_=>rfl)⟩;have F_wholes_at:=aE (st:=fI) l7 c7 k7;have C_wholes_at:aZ l.prog w K mg base "wholes_at" ["wholes", "top", "bottom"] 1 (eT K):=⟨_,_,tT F_wholes_at T ,XZ X G a7,k7,(F_wholes_at.binds λ_ _ _ _ _ _ us hl=>wu (g:=λus=>bindArgs _ ⟨us,[]⟩) (z:=λus=>pure (List.zip _ us)) us hl λ_ _ _=>rfl)⟩;have F_wholes_parted:=aE (st:=cU) l8 c8 k8;have C_wholes_parted:aZ l.prog w K mg base "wholes_parted" ["one", "other"] 2 (cm K):=⟨_,_,mZ F_wholes_parted T (N_:=N_) (C_trimmed:=C_trimmed),XZ X G a8,k8,(F_wholes_parted.binds λ_ _ _ _ _ _ us hl=>ck (g:=λus=>bindArgs _ ⟨us,[]⟩) (z:=λus=>pure (List.zip _ us)) us hl λ_ _=>rfl)⟩;have F_wholes_rests:=aE (st:=dB) l9 c9 k9;have C_wholes_rests:aZ l.prog w K mg base "wholes_rests" ["one", "other"] 3 (eZ K):=⟨_,_,ox F_wholes_rests T (N_:=N_) (C_power:=C_power) (C_wholes_parted:=C_wholes_parted),XZ X G a9,k9,(F_wholes_rests.binds λ_ _ _ _ _ _ us hl=>ck (g:=λus=>bindArgs _ ⟨us,[]⟩) (z:=λus=>pure (List.zip _ us)) us hl λ_ _=>rfl)⟩;have F_ratio:=aE (st:=j2) l10 c10 k10;have C_ratio:aZ l.prog w K mg base "ratio" ["top", "bottom"] 2 (cY K):=⟨_,_,BC F_ratio T (N_:=N_) (C_greatest_divisor:=C_greatest_divisor),XZ X G a10,k10,(F_ratio.binds λ_ _ _ _ _ _ us hl=>ck (g:=λus=>bindArgs _ ⟨us,[]⟩) (z:=λus=>pure (List.zip _ us)) us hl λ_ _=>rfl)⟩;have F_plus:=aE (st:=mY) l11 c11 k11;have C_plus:aZ l.prog w K mg base "plus" ["one", "other"] 3 (oG K):=⟨_,_,Ey F_plus T (C_ratio:=C_ratio),XZ X G a11,k11,(F_plus.binds λ_ _ _ _ _ _ us hl=>ck (g:=λus=>bindArgs _ ⟨us,[]⟩) (z:=λus=>pure (List.zip _ us)) us hl λ_ _=>rfl)⟩;have F_times:=aE (st:=ka) l12 c12 k12;have C_times:aZ l.prog w K mg base "times" ["one", "other"] 3 (mo K):=⟨_,_,Dl F_times T (C_ratio:=C_ratio),XZ X G a12,k12,(F_times.binds λ_ _ _ _ _ _ us hl=>ck (g:=λus=>bindArgs _ ⟨us,[]⟩) (z:=λus=>pure (List.zip _ us)) us hl λ_ _=>rfl)⟩
 have F_over:=aE (st:=nH) l13 c13 k13;have C_over:aZ l.prog w K mg base "over" ["one", "other"] 3 (oQ K):=⟨_,_,FR F_over T (C_ratio:=C_ratio),XZ X G a13,k13,(F_over.binds λ_ _ _ _ _ _ us hl=>ck (g:=λus=>bindArgs _ ⟨us,[]⟩) (z:=λus=>pure (List.zip _ us)) us hl λ_ _=>rfl)⟩;have F_number_of:=aE (st:=fH) l14 c14 k14;have C_number_of:aZ l.prog w K mg base "number_of" ["f", "place"] 1 (gU K):=⟨_,_,tP F_number_of T ,XZ X G a14,k14,(F_number_of.binds λ_ _ _ _ _ _ us hl=>ck (g:=λus=>bindArgs _ ⟨us,[]⟩) (z:=λus=>pure (List.zip _ us)) us hl λ_ _=>rfl)⟩;have F_summed:=aE (st:=iV) l15 c15 k15;have C_summed:aZ l.prog w K mg base "summed" ["f", "g"] 4 (jW K):=⟨_,_,Af F_summed T (C_trimmed:=C_trimmed) (C_plus:=C_plus) (C_number_of:=C_number_of),XZ X G a15,k15,(F_summed.binds λ_ _ _ _ _ _ us hl=>ck (g:=λus=>bindArgs _ ⟨us,[]⟩) (z:=λus=>pure (List.zip _ us)) us hl λ_ _=>rfl)⟩;have F_cleared:=aE (st:=g6) l16 c16 k16;have C_cleared:aZ l.prog w K mg base "cleared" ["f"] 2 (cP K):=⟨_,_,vL F_cleared T (N_:=N_) (C_greatest_divisor:=C_greatest_divisor),XZ X G a16,k16,(F_cleared.binds λ_ _ _ _ _ _ us hl=>dN (g:=λus=>bindArgs _ ⟨us,[]⟩) (z:=λus=>pure (List.zip _ us)) us hl λ_=>rfl)⟩;have F_divided:=aE (st:=ii) l17 c17 k17;have C_divided:aZ l.prog w K mg base "divided" ["wholes", "bottom"] 3 (gf K):=⟨_,_,wP F_divided T (C_trimmed:=C_trimmed) (C_ratio:=C_ratio),XZ X G a17,k17,(F_divided.binds λ_ _ _ _ _ _ us hl=>ck (g:=λus=>bindArgs _ ⟨us,[]⟩) (z:=λus=>pure (List.zip _ us)) us hl λ_ _=>rfl)⟩;have F_multiplied:=aE (st:=eD) l18 c18 k18;have C_multiplied:aZ l.prog w K mg base "multiplied" ["f", "g"] 4 (gx K):=⟨_,_,qR F_multiplied T (C_divided:=C_divided) (C_wholes_multiplied:=C_wholes_multiplied) (C_cleared:=C_cleared),XZ X G a18,k18,(F_multiplied.binds λ_ _ _ _ _ _ us hl=>ck (g:=λus=>bindArgs _ ⟨us,[]⟩) (z:=λus=>pure (List.zip _ us)) us hl λ_ _=>rfl)⟩;have F_grown:=aE (st:=kh) l19 c19 k19;have C_grown:aZ l.prog w K mg base "grown" ["f", "by"] 4 (me K):=⟨_,_,Cg F_grown T (C_trimmed:=C_trimmed) (C_times:=C_times),XZ X G a19,k19,(F_grown.binds λ_ _ _ _ _ _ us hl=>ck (g:=λus=>bindArgs _ ⟨us,[]⟩) (z:=λus=>pure (List.zip _ us)) us hl λ_ _=>rfl)⟩;have F_number_at:=aE (st:=fF) l20 c20 k20;have C_number_at:aZ l.prog w K mg base "number_at" ["f", "x"] 3 (eK K):=⟨_,_,sT F_number_at T (C_ratio:=C_ratio) (C_wholes_at:=C_wholes_at) (C_cleared:=C_cleared),XZ X G a20,k20,(F_number_at.binds λ_ _ _ _ _ _ us hl=>ck (g:=λus=>bindArgs _ ⟨us,[]⟩) (z:=λus=>pure (List.zip _ us)) us hl λ_ _=>rfl)⟩;have F_parted:=aE (st:=iS) l21 c21 k21;have C_parted:aZ l.prog w K mg base "parted" ["f", "g"] 4 (j8 K):=⟨_,_,zO F_parted T (C_divided:=C_divided) (C_wholes_parted:=C_wholes_parted) (C_cleared:=C_cleared),XZ X G a21,k21,(F_parted.binds λ_ _ _ _ _ _ us hl=>ck (g:=λus=>bindArgs _ ⟨us,[]⟩) (z:=λus=>pure (List.zip _ us)) us hl λ_ _=>rfl)⟩;have F_refuse_nought:=aE (st:=cV) l22 c22 k22;have C_refuse_nought:aZ l.prog w K mg base "refuse_nought" ["f"] 1 (eH K):=⟨_,_,mS F_refuse_nought T ,XZ X G a22,k22,(F_refuse_nought.binds λ_ _ _ _ _ _ us hl=>dN (g:=λus=>bindArgs _ ⟨us,[]⟩) (z:=λus=>pure (List.zip _ us)) us hl λ_=>rfl)⟩;have F_signed_chain:=aE (st:=dy) l23 c23 k23;have C_signed_chain:aZ l.prog w K mg base "signed_chain" ["one", "other"] 4 (fh K):=⟨_,_,ow F_signed_chain T (C_wholes_rests:=C_wholes_rests) (C_sign_of:=C_sign_of),XZ X G a23,k23,(F_signed_chain.binds λ_ _ _ _ _ _ us hl=>ck (g:=λus=>bindArgs _ ⟨us,[]⟩) (z:=λus=>pure (List.zip _ us)) us hl λ_ _=>rfl)⟩;have F_parted_chain:=aE (st:=dE) l24 c24 k24;have C_parted_chain:aZ l.prog w K mg base "parted_chain" ["lists"] 3 (ff K):=⟨_,_,oi F_parted_chain T (C_wholes_parted:=C_wholes_parted) (C_lowered:=C_lowered),XZ X G a24,k24,(F_parted_chain.binds λ_ _ _ _ _ _ us hl=>dN (g:=λus=>bindArgs _ ⟨us,[]⟩) (z:=λus=>pure (List.zip _ us)) us hl λ_=>rfl)⟩;have F_counting_chain:=aE (st:=cM) l25 c25 k25;have C_counting_chain:aZ l.prog w K mg base "counting_chain" ["f"] 5 (dU K):=⟨_,_,my F_counting_chain T (C_parted_chain:=C_parted_chain) (C_signed_chain:=C_signed_chain) (C_lowered:=C_lowered) (C_wholes_slope:=C_wholes_slope) (C_cleared:=C_cleared),XZ X G a25,k25,(F_counting_chain.binds λ_ _ _ _ _ _ us hl=>dN (g:=λus=>bindArgs _ ⟨us,[]⟩) (z:=λus=>pure (List.zip _ us)) us hl λ_=>rfl)⟩
 have F_root_bound:=aE (st:=eM) l26 c26 k26;have C_root_bound:aZ l.prog w K mg base "root_bound" ["wholes"] 1 (gw K):=⟨_,_,qN F_root_bound T ,XZ X G a26,k26,(F_root_bound.binds λ_ _ _ _ _ _ us hl=>dN (g:=λus=>bindArgs _ ⟨us,[]⟩) (z:=λus=>pure (List.zip _ us)) us hl λ_=>rfl)⟩;have F_left_over:=aE (st:=fG) l27 c27 k27;have C_left_over:aZ l.prog w K mg base "left_over" ["wholes", "x", "modulus"] 1 (cA K):=⟨_,_,tK F_left_over T ,XZ X G a27,k27,(F_left_over.binds λ_ _ _ _ _ _ us hl=>wu (g:=λus=>bindArgs _ ⟨us,[]⟩) (z:=λus=>pure (List.zip _ us)) us hl λ_ _ _=>rfl)⟩;have F_serves:=aE (st:=iU) l28 c28 k28;have C_serves:aZ l.prog w K mg base "serves" ["wholes", "modulus"] 2 (j4 K):=⟨_,_,Ac F_serves T (C_left_over:=C_left_over) (C_greatest_divisor:=C_greatest_divisor) (C_wholes_slope:=C_wholes_slope),XZ X G a28,k28,(F_serves.binds λ_ _ _ _ _ _ us hl=>ck (g:=λus=>bindArgs _ ⟨us,[]⟩) (z:=λus=>pure (List.zip _ us)) us hl λ_ _=>rfl)⟩;have F_least_modulus:=aE (st:=cT) l29 c29 k29;have C_least_modulus:aZ l.prog w K mg base "least_modulus" ["wholes"] 3 (eO K):=⟨_,_,mJ F_least_modulus T (C_serves:=C_serves),XZ X G a29,k29,(F_least_modulus.binds λ_ _ _ _ _ _ us hl=>dN (g:=λus=>bindArgs _ ⟨us,[]⟩) (z:=λus=>pure (List.zip _ us)) us hl λ_=>rfl)⟩;have F_refined:=aE (st:=ic) l30 c30 k30;have C_refined:aZ l.prog w K mg base "refined" ["wholes", "x", "modulus", "reach"] 2 (kY K):=⟨_,_,xu F_refined T (C_left_over:=C_left_over) (C_wholes_slope:=C_wholes_slope),XZ X G a30,k30,(F_refined.binds λ_ _ _ _ _ _ us hl=>Jr (g:=λus=>bindArgs _ ⟨us,[]⟩) (z:=λus=>pure (List.zip _ us)) us hl λ_ _ _ _=>rfl)⟩;have F_fraction_roots:=aE (st:=cO) l31 c31 k31;have C_fraction_roots:aZ l.prog w K mg base "fraction_roots" ["f"] 6 (dQ K):=⟨_,_,lE F_fraction_roots T (C_ratio:=C_ratio) (C_sign_of:=C_sign_of) (C_wholes_at:=C_wholes_at) (C_refined:=C_refined) (C_left_over:=C_left_over) (C_least_modulus:=C_least_modulus) (C_root_bound:=C_root_bound) (C_counting_chain:=C_counting_chain) (C_refuse_nought:=C_refuse_nought),XZ X G a31,k31,(F_fraction_roots.binds λ_ _ _ _ _ _ us hl=>dN (g:=λus=>bindArgs _ ⟨us,[]⟩) (z:=λus=>pure (List.zip _ us)) us hl λ_=>rfl)⟩;have F_less_spot:=aE (st:=fA) l32 c32 k32;have C_less_spot:aZ l.prog w K mg base "less_spot" ["spot"] 1 (fJ K):=⟨_,_,sY F_less_spot T ,XZ X G a32,k32,(F_less_spot.binds λ_ _ _ _ _ _ us hl=>dN (g:=λus=>bindArgs _ ⟨us,[]⟩) (z:=λus=>pure (List.zip _ us)) us hl λ_=>rfl)⟩;have F_flock_of:=aE (st:=gq) l33 c33 k33;have C_flock_of:aZ l.prog w K mg base "flock_of" ["crowd"] 5 (gB K):=⟨_,_,uT F_flock_of T (C_summed:=C_summed) (C_grown:=C_grown) (C_over:=C_over) (C_number_at:=C_number_at) (C_parted:=C_parted) (C_less_spot:=C_less_spot) (C_multiplied:=C_multiplied),XZ X G a33,k33,(F_flock_of.binds λ_ _ _ _ _ _ us hl=>dN (g:=λus=>bindArgs _ ⟨us,[]⟩) (z:=λus=>pure (List.zip _ us)) us hl λ_=>rfl)⟩;have F_crowd_of:=aE (st:=fX) l34 c34 k34;have C_crowd_of:aZ l.prog w K mg base "crowd_of" ["flock"] 7 (gH K):=⟨_,_,vt F_crowd_of T (C_number_at:=C_number_at) (C_fraction_roots:=C_fraction_roots),XZ X G a34,k34,(F_crowd_of.binds λ_ _ _ _ _ _ us hl=>dN (g:=λus=>bindArgs _ ⟨us,[]⟩) (z:=λus=>pure (List.zip _ us)) us hl λ_=>rfl)⟩;have zFcell_at:=aE (st:=ig) l35 c35 k35;have zCcell_at:aZ l.prog w K mg base "_law_cell_at" ["_law_script", "_law_k"] 1 (kl K):=⟨_,_,Am zFcell_at T ,XZ X G a35,k35,(zFcell_at.binds λ_ _ _ _ _ _ us hl=>ck (g:=λus=>bindArgs _ ⟨us,[]⟩) (z:=λus=>pure (List.zip _ us)) us hl λ_ _=>rfl)⟩;have zFstate:=aE (st:=j1) l36 c36 k36;have zCstate:aZ l.prog w K mg base "_law_state" ["_law_script", "_law_k"] 2 (oT K):=⟨_,_,EN zFstate T (zCcell_at:=zCcell_at),XZ X G a36,k36,(zFstate.binds λ_ _ _ _ _ _ us hl=>ck (g:=λus=>bindArgs _ ⟨us,[]⟩) (z:=λus=>pure (List.zip _ us)) us hl λ_ _=>rfl)⟩;have zFtake:=aE (st:=mK) l37 c37 k37;have zCtake:aZ l.prog w K mg base "_law_take" ["_law_state_here", "_law_many"] 1 (ik K):=⟨_,_,Ic zFtake T ,XZ X G a37,k37,(zFtake.binds λ_ _ _ _ _ _ us hl=>ck (g:=λus=>bindArgs _ ⟨us,[]⟩) (z:=λus=>pure (List.zip _ us)) us hl λ_ _=>rfl)⟩
 have zFdivisor:=aE (st:=ie) l38 c38 k38;have zCdivisor:aZ l.prog w K mg base "_law_divisor" ["_law_one", "_law_other"] 1 (j6 K):=⟨_,_,Ag zFdivisor T ,XZ X G a38,k38,(zFdivisor.binds λ_ _ _ _ _ _ us hl=>ck (g:=λus=>bindArgs _ ⟨us,[]⟩) (z:=λus=>pure (List.zip _ us)) us hl λ_ _=>rfl)⟩;have zFlow:=aE (st:=rN) l39 c39 k39;have zClow:aZ l.prog w K mg base "_law_low" ["_law_top", "_law_bottom"] 2 (iI K):=⟨_,_,KJ zFlow T (zCdivisor:=zCdivisor),XZ X G a39,k39,(zFlow.binds λ_ _ _ _ _ _ us hl=>ck (g:=λus=>bindArgs _ ⟨us,[]⟩) (z:=λus=>pure (List.zip _ us)) us hl λ_ _=>rfl)⟩;have zFsmall:=aE (st:=kr) l40 c40 k40;have zCsmall:aZ l.prog w K mg base "_law_small" ["_law_state_here"] 3 (j0 K):=⟨_,_,FC zFsmall T (zClow:=zClow) (zCtake:=zCtake),XZ X G a40,k40,(zFsmall.binds λ_ _ _ _ _ _ us hl=>dN (g:=λus=>bindArgs _ ⟨us,[]⟩) (z:=λus=>pure (List.zip _ us)) us hl λ_=>rfl)⟩;have zFabove:=aE (st:=jX) l41 c41 k41;have zCabove:aZ l.prog w K mg base "_law_above" ["_law_state_here"] 3 (jV K):=⟨_,_,Ew zFabove T (zClow:=zClow) (zCtake:=zCtake),XZ X G a41,k41,(zFabove.binds λ_ _ _ _ _ _ us hl=>dN (g:=λus=>bindArgs _ ⟨us,[]⟩) (z:=λus=>pure (List.zip _ us)) us hl λ_=>rfl)⟩;have zFplus:=aE (st:=mO) l42 c42 k42;have zCplus:aZ l.prog w K mg base "_law_plus" ["_law_one", "_law_other"] 3 (jG K):=⟨_,_,JQ zFplus T (zClow:=zClow),XZ X G a42,k42,(zFplus.binds λ_ _ _ _ _ _ us hl=>ck (g:=λus=>bindArgs _ ⟨us,[]⟩) (z:=λus=>pure (List.zip _ us)) us hl λ_ _=>rfl)⟩;have zFcrowd:=aE (st:=j9) l43 c43 k43;have zCcrowd:aZ l.prog w K mg base "_law_crowd" ["_law_state_here", "_law_most"] 4 (oH K):=⟨_,_,Fo zFcrowd T (zCtake:=zCtake) (zCplus:=zCplus) (zCabove:=zCabove) (zCsmall:=zCsmall),XZ X G a43,k43,(zFcrowd.binds λ_ _ _ _ _ _ us hl=>ck (g:=λus=>bindArgs _ ⟨us,[]⟩) (z:=λus=>pure (List.zip _ us)) us hl λ_ _=>rfl)⟩;have zFclean:=aE (st:=kg) l44 c44 k44;have zCclean:aZ l.prog w K mg base "_law_clean" ["_law_numbers"] 1 (kd K):=⟨_,_,En zFclean T ,XZ X G a44,k44,(zFclean.binds λ_ _ _ _ _ _ us hl=>dN (g:=λus=>bindArgs _ ⟨us,[]⟩) (z:=λus=>pure (List.zip _ us)) us hl λ_=>rfl)⟩;have zFtimes:=aE (st:=jZ) l45 c45 k45;have zCtimes:aZ l.prog w K mg base "_law_times" ["_law_one", "_law_other"] 3 (iE K):=⟨_,_,FJ zFtimes T (zClow:=zClow),XZ X G a45,k45,(zFtimes.binds λ_ _ _ _ _ _ us hl=>ck (g:=λus=>bindArgs _ ⟨us,[]⟩) (z:=λus=>pure (List.zip _ us)) us hl λ_ _=>rfl)⟩;have zFmultiplied:=aE (st:=eJ) l46 c46 k46;have zCmultiplied:aZ l.prog w K mg base "_law_multiplied" ["_law_f", "_law_g"] 4 (eI K):=⟨_,_,t6 zFmultiplied T (zCclean:=zCclean) (zCplus:=zCplus) (zCtimes:=zCtimes),XZ X G a46,k46,(zFmultiplied.binds λ_ _ _ _ _ _ us hl=>ck (g:=λus=>bindArgs _ ⟨us,[]⟩) (z:=λus=>pure (List.zip _ us)) us hl λ_ _=>rfl)⟩;have zFsummed:=aE (st:=iO) l47 c47 k47;have zCsummed:aZ l.prog w K mg base "_law_summed" ["_law_f", "_law_g", "_law_by"] 4 (li K):=⟨_,_,AX zFsummed T (zCclean:=zCclean) (zCplus:=zCplus) (zCtimes:=zCtimes),XZ X G a47,k47,(zFsummed.binds λ_ _ _ _ _ _ us hl=>wu (g:=λus=>bindArgs _ ⟨us,[]⟩) (z:=λus=>pure (List.zip _ us)) us hl λ_ _ _=>rfl)⟩;have zFminus:=aE (st:=ky) l48 c48 k48;have zCminus:aZ l.prog w K mg base "_law_minus" ["_law_one", "_law_other"] 3 (oW K):=⟨_,_,Fj zFminus T (zClow:=zClow),XZ X G a48,k48,(zFminus.binds λ_ _ _ _ _ _ us hl=>ck (g:=λus=>bindArgs _ ⟨us,[]⟩) (z:=λus=>pure (List.zip _ us)) us hl λ_ _=>rfl)⟩;have zFover:=aE (st:=m7) l49 c49 k49;have zCover:aZ l.prog w K mg base "_law_over" ["_law_one", "_law_other"] 3 (tF K):=⟨_,_,IR zFover T (zClow:=zClow),XZ X G a49,k49,(zFover.binds λ_ _ _ _ _ _ us hl=>ck (g:=λus=>bindArgs _ ⟨us,[]⟩) (z:=λus=>pure (List.zip _ us)) us hl λ_ _=>rfl)⟩;have zFflock_of:=aE (st:=gi) l50 c50 k50;have zCflock_of:aZ l.prog w K mg base "_law_flock_of" ["_law_crowd_here"] 5 (i8 K):=⟨_,_,xy zFflock_of T (zCmultiplied:=zCmultiplied) (zCsummed:=zCsummed) (zCtimes:=zCtimes) (zCover:=zCover) (zCminus:=zCminus),XZ X G a50,k50,(zFflock_of.binds λ_ _ _ _ _ _ us hl=>dN (g:=λus=>bindArgs _ ⟨us,[]⟩) (z:=λus=>pure (List.zip _ us)) us hl λ_=>rfl)⟩;have zFsame:=aE (st:=kN) l51 c51 k51
 have zCsame:aZ l.prog w K mg base "_law_same" ["_law_found", "_law_due"] 6 (iL 5 K):=kF zFsame T (XZ X G a51) k51 (zFsame.binds λ_ _ _ _ _ _ us hl=>ck (g:=λus=>bindArgs _ ⟨us,[]⟩) (z:=λus=>pure (List.zip _ us)) us hl λ_ _=>rfl) 5;have zFstrange:=aE (st:=ij) l52 c52 k52;have zCstrange:aZ l.prog w K mg base "_law_strange" ["_law_state_here"] 5 (kc K):=⟨_,_,zQ zFstrange T (zCabove:=zCabove) (zCtake:=zCtake) (zCmultiplied:=zCmultiplied) (zCsmall:=zCsmall),XZ X G a52,k52,(zFstrange.binds λ_ _ _ _ _ _ us hl=>dN (g:=λus=>bindArgs _ ⟨us,[]⟩) (z:=λus=>pure (List.zip _ us)) us hl λ_=>rfl)⟩;have F_law:=aE (st:=lX) l53 c53 k53;exact JP F_law T (C_crowd_of:=C_crowd_of) (zCstrange:=zCstrange) (zCsame:=zCsame) (C_flock_of:=C_flock_of) (zCflock_of:=zCflock_of) (zCcrowd:=zCcrowd) (zCstate:=zCstate)
theorem walk{l:PySem.W.OpenLaw}{q:Program}{loose:List Str}{XP:(Str->Option Value)->Heap->Prop}{YP:World->Heap->Prop}{d:DefRec}{K:Params->W.Frag}(hn:l.most=some 63)(hdf:d.params.defaults=[])(hi:PyProof.Rows.importsNone q=true)
  (hY:∀(w:World)(h:Heap),YP w h->(K w.params).In h /\ ∀q∈([]:List (Addr×Addr)),PySem.W.codeHdIn (K w.params) q.1 q.2=true/\(K w.params).lookup q.2=none/\h.get? q.2=some (PySem.W.tabObj #[]))
  (F:∀(w:World)(mg:Str->Option Value)(fa:Addr)(h:Heap),(K w.params).In h->h.Ns mainGlobals mg->mg d.name=some (.ref fa) ->
   ∃fd:FuncData,(∀(s:Shared)(u:Value),BindsTo s fd ⟨[u],[]⟩ [("_law_script",u)]) /\ ∀base:Heap,(K w.params).In base->base.Ns mainGlobals mg->xz mg base->base.NoSeer->bZ l.prog w (K w.params) mg base fk 10 fa fd ["_law_script"] (spLaw (K w.params))) :
  PySem.W.WalkO q loose XP YP l.row.toRowW d [] (λf vs=>PySem.call f vs) :=
 L2.walk_ofM (ts:=λ_=>[]) (n:=63) (k:=10) (x:="_law_script") (CX:=λ_=>fk) (sp:=λw=>spLaw (K w.params)) hn ∅ hdf ⟨rfl,∅,∅⟩ hi hY F (λ_ _ a ns hl hT hK hS=>⟨a,ns,rfl,.of hS hK,hl,λ_=>rfl⟩) λ_ _ _ _ _ z=>z
end M
open PySem PySem.W PyProof.Rows
theorem Zz:True:=trivial
namespace PySem.W.Fast
theorem tw8091122189271160784:True:=Zz
theorem tw11314026854211180432:True:=Zz
theorem tw7956486555736675996:True:=Zz
theorem tw1162407831390813045:True:=Zz
theorem tw943344365964919462:True:=Zz
theorem tw12155506927747136503:True:=Zz
theorem tw1768925880672034946:True:=Zz
theorem tw5247432782345115966:True:=Zz
theorem tw6963435838691818287:True:=Zz
theorem tw6933928374991718369:True:=Zz
theorem tw17056079812714897887:True:=Zz
theorem tw9631552245526539337:True:=Zz
theorem tw11554689907071751843:True:=Zz
theorem tw8959931459660138675:True:=Zz
theorem tw6259328926511388919:True:=Zz
theorem tw3736147304065934626:True:=Zz
theorem tw9264352557408335649:True:=Zz
theorem tw6971026812137682459:True:=Zz
theorem tw16543030640907337358:True:=Zz
theorem tw11398737551430905315:True:=Zz
theorem tw7192094560994806917:True:=Zz
theorem tw17012955192342328980:True:=Zz
theorem tw15870071176765272360:True:=Zz
theorem tw2769802839047915280:True:=Zz
theorem tw11472418298324229259:True:=Zz
theorem tw16598933070832104581:True:=Zz
theorem tw2698505960441850456:True:=Zz
theorem tw10306843684954240909:True:=Zz
theorem tw10613747489691601942:True:=Zz
theorem tw11837401440681384977:True:=Zz
theorem tw17918309674716230512:True:=Zz
theorem tw6566637046993439764:True:=Zz
theorem tw985989981688704339:True:=Zz
theorem tw15516668732121895276:True:=Zz
theorem tw2476594469944924450:True:=Zz
theorem tw17425443463406628543:True:=Zz
theorem tw18043634779347780356:True:=Zz
theorem tw8488247082110665253:True:=Zz
theorem tw2227921742659891397:True:=Zz
theorem tw2838602533442719077:True:=Zz
theorem tw10791671351907057324:True:=Zz
theorem tw11537982215619598978:True:=Zz
theorem tw6570800451506393595:True:=Zz
theorem tw625300999080001776:True:=Zz
theorem tw14715040282211995760:True:=Zz
theorem tw5618244963215065871:True:=Zz
theorem tw13626559687715797827:True:=Zz
theorem tw9611846065784081488:True:=Zz
theorem tw13281072180626490277:True:=Zz
theorem tw2708661074262282881:True:=Zz
theorem tw11218634369417276384:True:=Zz
theorem tw13253056690066952636:True:=Zz
theorem tw16875636027491447723:True:=Zz
theorem tw15201737429321371155:True:=Zz
theorem tw10265418757931711194:True:=Zz
theorem tw11611597837232267397:True:=Zz
theorem tw11507372791365400246:True:=Zz
theorem tw15816210385131507887:True:=Zz
theorem tw18103178008974161664:True:=Zz
theorem tw12302601701097793867:True:=Zz
theorem tw18312225153501620337:True:=Zz
theorem tw1502528428374141:True:=Zz
theorem tw7554633444375331336:True:=Zz
theorem tw8679234334120112185:True:=Zz
theorem tw7255365401659469119:True:=Zz
theorem tw15823972769055581586:True:=Zz
theorem tw1768801382892566369:True:=Zz
theorem tw15973847599127121709:True:=Zz
theorem tw3656605515379227309:True:=Zz
theorem tw4526850516278006565:True:=Zz
theorem tw14492905385927392569:True:=Zz
theorem tw12171305699387880028:True:=Zz
theorem tw9050081369833191264:True:=Zz
theorem tw17081717454411753594:True:=Zz
theorem tw14010811918084331075:True:=Zz
theorem tw15960618766021296147:True:=Zz
theorem tw12745024921468793899:True:=Zz
theorem tw9720334349498517907:True:=Zz
theorem tw11459308380437313895:True:=Zz
theorem tw16143045329170814428:True:=Zz
theorem tw17415837080637308323:True:=Zz
theorem tw14887860177717344051:True:=Zz
theorem tw8835757701332572490:True:=Zz
theorem tw2628394863352806547:True:=Zz
theorem tw18131022535794915245:True:=Zz
theorem tw13114859686585120276:True:=Zz
theorem tw6970934629931443200:True:=Zz
theorem tw418635145493351805:True:=Zz
theorem tw9093895072542154181:True:=Zz
theorem tw12516132955340123396:True:=Zz
theorem tw6192211396508987481:True:=Zz
theorem tw5519134311099604681:True:=Zz
theorem tw16611090939210624069:True:=Zz
theorem tw16113555185138883910:True:=Zz
theorem tw9728194140938748261:True:=Zz
theorem tw7286265846595208292:True:=Zz
theorem tw17454536553548228658:True:=Zz
theorem tw9293545733726766388:True:=Zz
theorem tw7471502634913202697:True:=Zz
theorem tw36695692276036691:True:=Zz
theorem tw5102521820005439779:True:=Zz
theorem tw17275952500877165012:True:=Zz
theorem tw8467012961146872249:True:=Zz
theorem tw16314186069211497581:True:=Zz
theorem tw18445244180160470893:True:=Zz
theorem tw15786617886765013003:True:=Zz
theorem tw11566448769467804957:True:=Zz
theorem tw7480448997605519796:True:=Zz
theorem tw1981750176502774852:True:=Zz
theorem tw5391235546724206875:True:=Zz
end PySem.W.Fast
set_option maxRecDepth 100000 in
set_option maxHeartbeats 0 in
theorem PySem.Challenge.cw_momentwright_k19_flocks_of_crowds_holds : PySem.Challenge.rw_momentwright_k19_flocks_of_crowds.Holds := by
 w_on;o_law;k_head;(case hw=>w_witness2)
 k_fill
 refine M.walk (l:=PySem.Challenge.rw_momentwright_k19_flocks_of_crowds) rfl rfl ?hi (fun w h Y=>⟨PySem.W.kIn_of Y,fun q hq=>by cases hq⟩) ?F
 case hi=>exact (by decide +kernel)
 case F =>
  intro w mg fa h KX G hmg
  refine' M.all_mk KX G hmg rfl ?a0 ?l0 ?c0 ?k0 ?a1 ?l1 ?c1 ?k1 ?a2 ?l2 ?c2 ?k2 ?a3 ?l3 ?c3 ?k3 ?a4 ?l4 ?c4 ?k4 ?a5 ?l5 ?c5 ?k5 ?a6 ?l6 ?c6 ?k6 ?a7 ?l7 ?c7 ?k7 ?a8 ?l8 ?c8 ?k8 ?a9 ?l9 ?c9 ?k9 ?a10 ?l10 ?c10 ?k10 ?a11 ?l11 ?c11 ?k11 ?a12 ?l12 ?c12 ?k12 ?a13 ?l13 ?c13 ?k13 ?a14 ?l14 ?c14 ?k14 ?a15 ?l15 ?c15 ?k15 ?a16 ?l16 ?c16 ?k16 ?a17 ?l17 ?c17 ?k17 ?a18 ?l18 ?c18 ?k18 ?a19 ?l19 ?c19 ?k19 ?a20 ?l20 ?c20 ?k20 ?a21 ?l21 ?c21 ?k21 ?a22 ?l22 ?c22 ?k22 ?a23 ?l23 ?c23 ?k23 ?a24 ?l24 ?c24 ?k24 ?a25 ?l25 ?c25 ?k25 ?a26 ?l26 ?c26 ?k26 ?a27 ?l27 ?c27 ?k27 ?a28 ?l28 ?c28 ?k28 ?a29 ?l29 ?c29 ?k29 ?a30 ?l30 ?c30 ?k30 ?a31 ?l31 ?c31 ?k31 ?a32 ?l32 ?c32 ?k32 ?a33 ?l33 ?c33 ?k33 ?a34 ?l34 ?c34 ?k34 ?a35 ?l35 ?c35 ?k35 ?a36 ?l36 ?c36 ?k36 ?a37 ?l37 ?c37 ?k37 ?a38 ?l38 ?c38 ?k38 ?a39 ?l39 ?c39 ?k39 ?a40 ?l40 ?c40 ?k40 ?a41 ?l41 ?c41 ?k41 ?a42 ?l42 ?c42 ?k42 ?a43 ?l43 ?c43 ?k43 ?a44 ?l44 ?c44 ?k44 ?a45 ?l45 ?c45 ?k45 ?a46 ?l46 ?c46 ?k46 ?a47 ?l47 ?c47 ?k47 ?a48 ?l48 ?c48 ?k48 ?a49 ?l49 ?c49 ?k49 ?a50 ?l50 ?c50 ?k50 ?a51 ?l51 ?c51 ?k51 ?a52 ?l52 ?c52 ?k52 ?a53 ?l53 ?c53 ?k53  ?u0 ?v0 ?w0 ?u1 ?v1 ?w1 ?z0 ?z1 ?z2 ?z3 ?z4 ?z5 ?z6 ?z7 ?z8 ?z9 ?z10 ?z11 ?z12 ?z13
  (case a0=>k_is);(case l0=>k_is);(case c0=>k_is);(case k0=>k_is)
  (case a1=>k_is);(case l1=>k_is);(case c1=>k_is);(case k1=>k_is)
  (case a2=>k_is);(case l2=>k_is);(case c2=>k_is);(case k2=>k_is)
  (case a3=>k_is);(case l3=>k_is);(case c3=>k_is);(case k3=>k_is)
  (case a4=>k_is);(case l4=>k_is);(case c4=>k_is);(case k4=>k_is)
  (case a5=>k_is);(case l5=>k_is);(case c5=>k_is);(case k5=>k_is)
  (case a6=>k_is);(case l6=>k_is);(case c6=>k_is);(case k6=>k_is)
  (case a7=>k_is);(case l7=>k_is);(case c7=>k_is);(case k7=>k_is)
  (case a8=>k_is);(case l8=>k_is);(case c8=>k_is);(case k8=>k_is)
  (case a9=>k_is);(case l9=>k_is);(case c9=>k_is);(case k9=>k_is)
  (case a10=>k_is);(case l10=>k_is);(case c10=>k_is);(case k10=>k_is)
  (case a11=>k_is);(case l11=>k_is);(case c11=>k_is);(case k11=>k_is)
  (case a12=>k_is);(case l12=>k_is);(case c12=>k_is);(case k12=>k_is)
  (case a13=>k_is);(case l13=>k_is);(case c13=>k_is);(case k13=>k_is)
  (case a14=>k_is);(case l14=>k_is);(case c14=>k_is);(case k14=>k_is)
  (case a15=>k_is);(case l15=>k_is);(case c15=>k_is);(case k15=>k_is)
  (case a16=>k_is);(case l16=>k_is);(case c16=>k_is);(case k16=>k_is)
  (case a17=>k_is);(case l17=>k_is);(case c17=>k_is);(case k17=>k_is)
  (case a18=>k_is);(case l18=>k_is);(case c18=>k_is);(case k18=>k_is)
  (case a19=>k_is);(case l19=>k_is);(case c19=>k_is);(case k19=>k_is)
  (case a20=>k_is);(case l20=>k_is);(case c20=>k_is);(case k20=>k_is)
  (case a21=>k_is);(case l21=>k_is);(case c21=>k_is);(case k21=>k_is)
  (case a22=>k_is);(case l22=>k_is);(case c22=>k_is);(case k22=>k_is)
  (case a23=>k_is);(case l23=>k_is);(case c23=>k_is);(case k23=>k_is)
  (case a24=>k_is);(case l24=>k_is);(case c24=>k_is);(case k24=>k_is)
  (case a25=>k_is);(case l25=>k_is);(case c25=>k_is);(case k25=>k_is)
  (case a26=>k_is);(case l26=>k_is);(case c26=>k_is);(case k26=>k_is)
  (case a27=>k_is);(case l27=>k_is);(case c27=>k_is);(case k27=>k_is)
  (case a28=>k_is);(case l28=>k_is);(case c28=>k_is);(case k28=>k_is)
  (case a29=>k_is);(case l29=>k_is);(case c29=>k_is);(case k29=>k_is)
  (case a30=>k_is);(case l30=>k_is);(case c30=>k_is);(case k30=>k_is)
  (case a31=>k_is);(case l31=>k_is);(case c31=>k_is);(case k31=>k_is)
  (case a32=>k_is);(case l32=>k_is);(case c32=>k_is);(case k32=>k_is)
  (case a33=>k_is);(case l33=>k_is);(case c33=>k_is);(case k33=>k_is)
  (case a34=>k_is);(case l34=>k_is);(case c34=>k_is);(case k34=>k_is)
  (case a35=>k_is);(case l35=>k_is);(case c35=>k_is);(case k35=>k_is)
  (case a36=>k_is);(case l36=>k_is);(case c36=>k_is);(case k36=>k_is)
  (case a37=>k_is);(case l37=>k_is);(case c37=>k_is);(case k37=>k_is)
  (case a38=>k_is);(case l38=>k_is);(case c38=>k_is);(case k38=>k_is)
  (case a39=>k_is);(case l39=>k_is);(case c39=>k_is);(case k39=>k_is)
  (case a40=>k_is);(case l40=>k_is);(case c40=>k_is);(case k40=>k_is)
  (case a41=>k_is);(case l41=>k_is);(case c41=>k_is);(case k41=>k_is)
  (case a42=>k_is);(case l42=>k_is);(case c42=>k_is);(case k42=>k_is)
  (case a43=>k_is);(case l43=>k_is);(case c43=>k_is);(case k43=>k_is)
  (case a44=>k_is);(case l44=>k_is);(case c44=>k_is);(case k44=>k_is)
  (case a45=>k_is);(case l45=>k_is);(case c45=>k_is);(case k45=>k_is)
  (case a46=>k_is);(case l46=>k_is);(case c46=>k_is);(case k46=>k_is)
  (case a47=>k_is);(case l47=>k_is);(case c47=>k_is);(case k47=>k_is)
  (case a48=>k_is);(case l48=>k_is);(case c48=>k_is);(case k48=>k_is)
  (case a49=>k_is);(case l49=>k_is);(case c49=>k_is);(case k49=>k_is)
  (case a50=>k_is);(case l50=>k_is);(case c50=>k_is);(case k50=>k_is)
  (case a51=>k_is);(case l51=>k_is);(case c51=>k_is);(case k51=>k_is)
  (case a52=>k_is);(case l52=>k_is);(case c52=>k_is);(case k52=>k_is)
  (case a53=>k_is);(case l53=>k_is);(case c53=>k_is);(case k53=>k_is)
  (case u0=>k_is);(case v0=>k_is);(case w0=>rfl)
  (case u1=>k_is);(case v1=>k_is);(case w1=>rfl)
  (case z0=>k_is)
  (case z1=>k_is)
  (case z2=>k_is)
  (case z3=>k_is)
  (case z4=>k_is)
  (case z5=>k_is)
  (case z6=>k_is)
  (case z7=>k_is)
  (case z8=>k_is)
  (case z9=>k_is)
  (case z10=>k_is)
  (case z11=>k_is)
  (case z12=>k_is)
  (case z13=>k_is)
#print axioms PySem.Challenge.cw_momentwright_k19_flocks_of_crowds_holds

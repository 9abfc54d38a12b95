import PyProof.Rows.All
import Wide.All
import OpenK.AllK
import Wide.FinOn
import Lean
import PyProof.EqAt
import PyProof.EqKinds
import PyProof.TupleCall
import PySem.Challenge.RW_momentwright_k15_stretches_told
set_option compiler.extract_closed false
set_option genSizeOf false
set_option genSizeOfSpec false
local macro_rules | `(tactic| walk_at "o")=>`(tactic| first | ((repeat (rename (_:Int)≠_=>h; clear h)); (repeat (rename (_:Nat)≠_=>h; clear h)); (repeat (rename _ ∨ _=>h; clear h)); lia) | lia | omega)
set_option hygiene false in
local macro_rules | `(nofun)=>`(hr.mono (by walk_at "a2"))
local macro_rules | `(())=>`(by walk_at "o")
local macro_rules | `(∅)=>`(by decide)
local macro_rules | `(⋯)=>`(by grind)
local macro_rules | `((·))=>`(by walk_at "a1")
local macro_rules | `(tactic| nofun)=>`(tactic| walk_at "o")
local macro_rules | `(tactic| symm)=>`(tactic| walk_at "vc")
local macro_rules | `(tactic| walk_at "a1")=>`(tactic| first | exact Or.inl rfl | exact Or.inr rfl)
local macro_rules | `(tactic| walk_at "a2")=>`(tactic| first | decide | walk_at "o")
local macro_rules | `(tactic| walk_at "a3")=>`(tactic| exact ⟨rfl,rfl,rfl,by decide +kernel,rfl,by decide +kernel,by decide +kernel⟩)
set_option Elab.async false
set_option linter.all false
set_option maxRecDepth 100000
theorem Ya:type_of% @List.getElem?_eq_getElem:=@List.getElem?_eq_getElem
theorem Yb:type_of% @List.length_map:=@List.length_map
theorem Yc:type_of% @if_neg:=@if_neg
theorem Yd:type_of% @List.getElem?_map:=@List.getElem?_map
theorem Ye:type_of% @Rat.intCast_mul:=@Rat.intCast_mul
theorem Yf:type_of% @List.mem_cons_of_mem:=@List.mem_cons_of_mem
theorem Yg:type_of% @PySem.W.mg_of:=@PySem.W.mg_of
theorem Yh:type_of% @if_pos:=@if_pos
theorem Yi:type_of% @Nat.le_refl:=@Nat.le_refl
theorem Yj:type_of% @List.mem_cons_self:=@List.mem_cons_self
theorem Yk:type_of% @Rat.mul_nonneg:=@Rat.mul_nonneg
theorem Yl:type_of% @Rat.le_of_lt:=@Rat.le_of_lt
theorem Ym:type_of% @Nat.lt_of_lt_of_le:=@Nat.lt_of_lt_of_le
theorem Yn:type_of% @List.size_toArray:=@List.size_toArray
theorem Yo:type_of% @List.getElem_mem:=@List.getElem_mem
theorem Yp:type_of% @List.map_append:=@List.map_append
theorem Yq:type_of% @Rat.mul_pos:=@Rat.mul_pos
theorem Yr:type_of% @List.mem_of_getElem?:=@List.mem_of_getElem?
theorem Ys:type_of% @List.filter_cons_of_pos:=@List.filter_cons_of_pos
theorem Yt:type_of% @List.length_append:=@List.length_append
theorem Yu:type_of% @Classical.byContradiction:=@Classical.byContradiction
theorem Yv:type_of% @List.length_cons:=@List.length_cons
theorem Yw:type_of% @List.take_add_one:=@List.take_add_one
theorem Yx:type_of% @List.getElem?_append_right:=@List.getElem?_append_right
theorem Yy:type_of% @List.getLast?_eq_getElem?:=@List.getLast?_eq_getElem?
theorem Yz:type_of% @Nat.le_trans:=@Nat.le_trans
theorem YA:type_of% @List.getElem?_append_left:=@List.getElem?_append_left
theorem YB:type_of% @List.filter_cons_of_neg:=@List.filter_cons_of_neg
theorem YC:type_of% @List.length_take:=@List.length_take
theorem YD:type_of% @Int.mul_zero:=@Int.mul_zero
theorem YE:type_of% @Rat.div_mul_cancel:=@Rat.div_mul_cancel
theorem YF:type_of% @List.getD_eq_getElem?_getD:=@List.getD_eq_getElem?_getD
theorem YG:type_of% @Int.natAbs_mul:=@Int.natAbs_mul
theorem YH:type_of% @Int.mul_ne_zero:=@Int.mul_ne_zero
theorem YI:type_of% @Bool.false_ne_true:=@Bool.false_ne_true
theorem YJ:type_of% @PySem.F.plainAttrs_list:=@PySem.F.plainAttrs_list
theorem YK:type_of% @Int.one_mul:=@Int.one_mul
theorem YL:type_of% @List.mem_append_right:=@List.mem_append_right
theorem YM:type_of% @Int.mul_assoc:=@Int.mul_assoc
theorem YN:type_of% @List.not_mem_nil:=@List.not_mem_nil
theorem YO:type_of% @Option.some.inj:=@Option.some.inj
theorem YQ:type_of% @List.map_cons:=@List.map_cons
theorem YR:type_of% @Nat.ne_of_lt:=@Nat.ne_of_lt
theorem YS:type_of% @List.append_assoc:=@List.append_assoc
theorem YT:type_of% @PySem.W.mg_none_of:=@PySem.W.mg_none_of
theorem YU:type_of% @PySem.mem_of_lookup:=@PySem.mem_of_lookup
theorem YV:type_of% @PySem.F.type_list_append:=@PySem.F.type_list_append
theorem YW:type_of% @PySem.F.slot_list_append:=@PySem.F.slot_list_append
theorem YX:type_of% @Nat.mul_le_mul_left:=@Nat.mul_le_mul_left
theorem YY:type_of% @List.mem_cons:=@List.mem_cons
theorem YZ:type_of% @decide_eq_false:=@decide_eq_false
theorem Y0:type_of% @List.take_length:=@List.take_length
theorem Y1:type_of% @decide_eq_true:=@decide_eq_true
theorem Y2:type_of% @Int.mul_comm:=@Int.mul_comm
theorem Y3:type_of% @PySem.W.kia_one:=@PySem.W.kia_one
theorem Y4:type_of% @Nat.two_pow_pos:=@Nat.two_pow_pos
theorem Y5:type_of% @Rat.lt_div_iff:=@Rat.lt_div_iff
theorem Y6:type_of% @Nat.mul_le_mul:=@Nat.mul_le_mul
theorem Y7:type_of% @Nat.zero_le:=@Nat.zero_le
theorem Y8:type_of% @Nat.pow_le_pow_right:=@Nat.pow_le_pow_right
theorem Y9:type_of% @Rat.intCast_add:=@Rat.intCast_add
theorem Xa:type_of% @List.replicate_succ:=@List.replicate_succ
theorem Xb:type_of% @congrArg:=@congrArg
theorem Xc:type_of% @PyProof.Rows.callWith_type1:=@PyProof.Rows.callWith_type1
theorem Xd:type_of% @Nat.zero_add:=@Nat.zero_add
theorem Xe:type_of% @Nat.pow_succ:=@Nat.pow_succ
theorem Xf:type_of% @Nat.mul_le_mul_right:=@Nat.mul_le_mul_right
theorem Xg:type_of% @List.getElem?_take:=@List.getElem?_take
theorem Xh:type_of% @Rat.intCast_neg:=@Rat.intCast_neg
theorem Xi:type_of% @List.append_nil:=@List.append_nil
theorem Xj:type_of% @Int.fmod_nonneg_of_pos:=@Int.fmod_nonneg_of_pos
theorem Xk:type_of% @Bool.and_eq_true:=@Bool.and_eq_true
theorem Xl:type_of% @List.drop_eq_getElem_cons:=@List.drop_eq_getElem_cons
theorem Xm:type_of% @of_decide_eq_true:=@of_decide_eq_true
theorem Xn:type_of% @Iff.rfl:=@Iff.rfl
theorem Xo:type_of% @Nat.sub_self:=@Nat.sub_self
theorem Xp:type_of% @Int.pow_ne_zero:=@Int.pow_ne_zero
theorem Xq:type_of% @List.getElem?_of_mem:=@List.getElem?_of_mem
theorem Xr:type_of% @Nat.lt_irrefl:=@Nat.lt_irrefl
theorem Xs:type_of% @List.take_of_length_le:=@List.take_of_length_le
theorem Xt:type_of% @Nat.pow_add:=@Nat.pow_add
theorem Xu:type_of% @Nat.le_mul_of_pos_right:=@Nat.le_mul_of_pos_right
theorem Xv:type_of% @Int.toNat_natCast:=@Int.toNat_natCast
theorem Xw:type_of% @List.nil_append:=@List.nil_append
theorem Xx:type_of% @List.length_nil:=@List.length_nil
theorem Xy:type_of% @or_false:=@or_false
theorem Xz:type_of% @List.length_reverse:=@List.length_reverse
theorem XA:type_of% @List.filterMap_cons:=@List.filterMap_cons
theorem XB:type_of% @List.map_nil:=@List.map_nil
theorem XC:type_of% @List.cons_append:=@List.cons_append
theorem XD:type_of% @Int.natAbs_natCast:=@Int.natAbs_natCast
theorem XE:type_of% @Int.fmod_lt_of_pos:=@Int.fmod_lt_of_pos
theorem XF:type_of% @Nat.le_of_lt:=@Nat.le_of_lt
theorem XG:type_of% @List.mem_append_left:=@List.mem_append_left
theorem XH:type_of% @Int.gcd_dvd_right:=@Int.gcd_dvd_right
theorem XI:type_of% @Ne.symm:=@Ne.symm
theorem XJ:type_of% @Rat.div_def:=@Rat.div_def
theorem XM:type_of% @Nat.add_mul:=@Nat.add_mul
theorem XN:type_of% @Int.mul_one:=@Int.mul_one
theorem XO:type_of% @Nat.mul_comm:=@Nat.mul_comm
theorem XQ:type_of% @Int.pow_zero:=@Int.pow_zero
theorem XR:type_of% @Int.pow_succ:=@Int.pow_succ
theorem XS:type_of% @Rat.intCast_sub:=@Rat.intCast_sub
theorem XT:type_of% @List.find?_cons:=@List.find?_cons
theorem XU:type_of% @Bool.eq_iff_iff:=@Bool.eq_iff_iff
theorem XV:type_of% @Int.mul_pos:=@Int.mul_pos
theorem XW:type_of% @List.perm_middle:=@List.perm_middle
namespace L2
open PySem PySem.Spec PyProof.Rows
abbrev gU:=Sum Int Str
def sk:gU->Value->Bool
 | .inl k,v=>Value.isInt k v
 | .inr x,v=>Value.isStrOf x v
def Lr(w:World):gU->Int
 | .inl k=>hashInt k
 | .inr x=>hashStr w x
theorem cG:∀{k:gU}{v:Value},sk k v=true->(∃i t,k=Sum.inl i/\v=Value.int i t)\/(∃x t,k=Sum.inr x/\v=Value.str x t)
 | .inl i,v,h=>by
  obtain⟨t,e⟩:=Value.isInt_shape (k:=i) (v:=v) h;exact .inl ⟨i,t,rfl,e⟩
 | .inr x,v,h=>by
  obtain⟨t,e⟩:=Value.isStrOf_shape (x:=x) (v:=v) h;exact .inr ⟨x,t,rfl,e⟩
theorem AA(i:Int)(t:Tok):sk (.inl i) (.int i t)=true:=by simp[sk,Value.isInt]
theorem Ak(x:Str)(t:Tok):sk (.inr x) (.str x t)=true:=by simp[sk,Value.isStrOf]
theorem Jy(a b:Int):decide ((Sum.inl a:gU)=Sum.inl b)=(a==b):=by
 by_cases e:a=b
 .subst e;simp
 .have h:¬ (Sum.inl a:gU)=Sum.inl b:=λq=>e (Sum.inl.inj q);rw[YZ h];exact (beq_eq_false_iff_ne.mpr e).symm
theorem Jx(a b:Str):decide ((Sum.inr a:gU)=Sum.inr b)=decide (a=b):=by
 by_cases e:a=b
 .subst e;simp
 .have h:¬ (Sum.inr a:gU)=Sum.inr b:=λq=>e (Sum.inr.inj q);rw[YZ h,YZ e]
theorem HM(a:Int)(b:Str):decide ((Sum.inl a:gU)=Sum.inr b)=false:=YZ (λq=>nomatch q)
theorem HH(a:Str)(b:Int):decide ((Sum.inr a:gU)=Sum.inl b)=false:=YZ (λq=>nomatch q)
def de(prog:Program)(w:World):PySem.KeyKind prog w gU where
 is:=sk
 hash:=Lr w
 inj:=λv a b ha hb=>by
  rcases cG ha with ⟨i,t,rfl,rfl⟩|⟨x,t,rfl,rfl⟩
  .rcases cG hb with ⟨j,u,rfl,e⟩|⟨y,u,rfl,e⟩
   .injection e with e1 _;rw[e1]
   .exact nomatch e
  .rcases cG hb with ⟨j,u,rfl,e⟩|⟨y,u,rfl,e⟩
   .exact nomatch e
   .injection e with e1 _;rw[e1]
 byValue:=λk v h=>by
  rcases cG h with ⟨i,t,rfl,rfl⟩|⟨x,t,rfl,rfl⟩<;>rfl
 pyHash:=λhv h=>by
  rcases cG hv with ⟨i,t,rfl,rfl⟩|⟨x,t,rfl,rfl⟩
  .exact wpAny_pyHash_int h
  .exact wpAny_pyHash_str h
 eqBool:=λhu hv h=>by
  rcases cG hu with ⟨i,t,rfl,rfl⟩|⟨x,t,rfl,rfl⟩
  .rcases cG hv with ⟨j,u,rfl,rfl⟩|⟨y,u,rfl,rfl⟩
   .rw[Jy] at h;exact wpAny_eqBool_int h
   .rw[HM] at h;exact SeqAt.EqAt.int_str i t y u _ _ _ _ h
  .rcases cG hv with ⟨j,u,rfl,rfl⟩|⟨y,u,rfl,rfl⟩
   .rw[HH] at h;exact SeqAt.EqAt.str_int x t j u _ _ _ _ h
   .rw[Jx] at h;exact wpAny_eqBool_str h
 «strs»:=λk x t v h=>by
  rcases cG h with ⟨i,u,rfl,e⟩|⟨y,u,rfl,e⟩
  .exact nomatch e
  .injection e with e1 _
   subst e1;cases v<;>rfl
theorem vR(prog:Program)(w:World)(i:Int)(t:Tok):(de prog w).is (.inl i) (.int i t)=true:=AA i t
theorem uP(prog:Program)(w:World)(x:Str)(t:Tok):(de prog w).is (.inr x) (.str x t)=true:=Ak x t
inductive V where
 | non|bl (b:Bool)|int (i:Int)|str (x:Str)|byt (b:Array UInt8)|flt (b:UInt64)|ref (a:Addr)|ty (n:String)
 deriving DecidableEq
def bH:V->Value->Prop
 | .non,u=>u=Value.none
 | .bl b,u=>u=Value.bool b
 | .int i,u=>∃t,u=Value.int i t
 | .str x,u=>∃t,u=Value.str x t
 | .byt b,u=>∃t,u=Value.bytes b t
 | .flt b,u=>∃t,u=Value.float b t
 | .ref a,u=>u=Value.ref a
 | .ty n,u=>u=Value.type n
abbrev aY:List V->List Value->Prop:=Paired bH
theorem aY.length{xs:List V}{us:List Value}(r:aY xs us):xs.length=us.length:=Paired.length r
theorem aY.get:∀{xs:List V}{us:List Value}{i:Nat}{x:V},aY xs us->xs[i]? = some x -> ∃u,us[i]? = some u/\bH x u
 | _,_,_,_,.nil,e=>by simp at e
 | _,_,0,_,.cons r _,e=>by simp at e;subst e;exact⟨_,rfl,r⟩
 | _,_,i+1,x,.cons _ t,e=>by
  obtain⟨u,h1,h2⟩:=aY.get (i:=i) (x:=x) t (by simpa using e)
  exact⟨u,by simpa using h1,h2⟩
theorem aY.set{x:V}{u:Value}(r:bH x u):∀{xs:List V}{us:List Value}(i:Nat),aY xs us->aY (xs.set i x) (us.set i u)
 | _,_,_,.nil=>.nil
 | _,_,0,.cons _ t=>.cons r t
 | _,_,i+1,.cons q t=>.cons q (aY.set r i t)
theorem aY.append:∀{xs ys:List V}{us ws:List Value},aY xs us->aY ys ws->aY (xs++ys) (us++ws)
 | _,_,_,_,.nil,s=>s
 | _,_,_,_,.cons r t,s=>.cons r (aY.append t s)
theorem aY.take:∀{xs:List V}{us:List Value}(n:Nat),aY xs us->aY (xs.take n) (us.take n)
 | _,_,0,_=>.nil
 | _,_,_+1,.nil=>.nil
 | _,_,n+1,.cons r t=>.cons r (aY.take n t)
theorem aY.drop:∀{xs:List V}{us:List Value}(n:Nat),aY xs us->aY (xs.drop n) (us.drop n)
 | _,_,0,r=>r
 | _,_,_+1,.nil=>.nil
 | _,_,n+1,.cons _ t=>aY.drop n t
def ud:Option V->Option Value->Prop
 | some v,some u=>bH v u
 | none,none=>True
 | _,_=>False
def KV{κ:Type}:List (κ×V)->List (κ×Value)->Prop:=Paired λ(p:κ×V)(q:κ×Value)=>p.1=q.1/\bH p.2 q.2
def kV:gU->V
 | .inl i=>.int i
 | .inr x=>.str x
inductive HO where
 /-- a list -/
 | lst (xs:List V)
 /-- a tuple (never changes) -/
 | tup (xs:List V)
 /-- a dict whose keys are ints and texts;one whose keys are tuples of ints and texts (the empty one is both) -/
 | dK (kvs:List (gU×V))|dT (kvs:List (List gU×V))
 /-- a set of ints: its members,its size -/
 | set (S:Int->Bool)(n:Nat)
 /-- an instance of the class at C,its dict at dx,its attributes -/
 | ins (C dx:Addr)(fs:List (Str×V))
 /-- the dict of the instance at x -/
 | own (x:Addr)
 /-- the dict of an exception -/
 | xd (fs:List (Str×V))
 /-- a bound method,f of x -/
 | met (f x:Addr)
 /-- a range object lo,lo+1,.. below hi -/
 | rng (lo hi:Int)
 /-- a thing that is known to the object (the script;a dict while a loop walks it): read,never written while it is so -/
 | frz (o:Obj)(u:HO)
 /-- a code object's table -/
 | tbl (ps:Array Value)
 /-- any other thing,by what is true of its one object (a def of one's own: SetO a S n:=HO.ext λh=>..) -/
 | ext (φ:Heap->Prop)
abbrev Hp:=Addr->Option HO
def upd(H:Hp)(a:Addr)(o:HO):Hp:=λb=>if b=a then some o else H b
theorem bj{H:Hp}{a:Addr}{o:HO}:upd H a o a=some o:=by unfold upd;rw[Yh rfl]
theorem aT{H:Hp}{a b:Addr}{o:HO}(h:b≠a):upd H a o b=H b:=by unfold upd;rw[Yc h]
theorem BQ{H:Hp}{a b:Addr}{o u:HO}(h:H a=some o)(h':H b=some u)(d:o≠u):a≠b:=by
 intro e;subst e;rw[h] at h';exact d (YO h')
theorem aj{H:Hp}{a b:Addr}{o:HO}(h:H a=some o)(h':H b=none):a≠b:=by
 intro e;subst e;rw[h] at h';cases h'
section
variable (P:Program)(w:World)
def cA(H:Hp)(h:Heap)(a:Addr):HO->Prop
 | .lst xs=>xs.length<=sizeLine /\ ∃(its:List Value)(n:Nat),aY xs its/\h.get? a=some { cls:=.type "list",data:=.seq its.toArray n }
 | .tup xs=>xs.length<=sizeLine /\ ∃its:List Value,aY xs its/\IsTup h a its.toArray
 | .dK kvs=>kvs.length<=sizeLine/\(a==sysModules)=false /\ ∃vs,KV kvs vs/\h.DictOf (de P w) a vs
 | .dT kvs=>kvs.length<=sizeLine/\(a==sysModules)=false /\ ∃xs:List (List gU×Addr×Value),
   Paired (λ(p:List gU×V)(q:List gU×Addr×Value)=>p.1=q.1/\H q.2.1=some (.tup (p.1.map kV))/\bH p.2 q.2.2) kvs xs /\
   ∃o es ep,h.get? a=some o/\o.ExactDict/\o.data=.dict es ep/\es.toList=xs.map (entryOfKey (tupleKind (de P w)))/\(xs.map (·.1)).Nodup
 | .set S n=>h.SetOf (intKind P w) a S n
 | .ins C dx fs=>H dx=some (.own a)/\fs.length<=1000/\dx≠a/\h.get? a=some (PySem.W.instObj C dx) /\
   ∃mA,h.Ns1 dx mA/\(∀f,ud (fs.lookup f) (mA f))/\PySem.Within mA (fs.map (·.1))
 | .own _=>∃o,h.get? a=some o
 | .xd fs=>∃mA,h.Ns1 a mA /\ ∀f,ud (fs.lookup f) (mA f)
 | .rng lo hi=>∃t u v,h.get? a=some { cls:=.type "range",data:=.fields #[.int lo t,.int hi u,.int 1 v] }
 | .frz o u=>h.get? a=some o/\cA H h a u
 | .tbl ps=>h.get? a=some { cls:=.none,data:=.fields ps }
 | .met f x=>h.get? a=some (PySem.W.methodObj (.ref f) (.ref x))
 | .ext φ=>φ h/\(∃o,h.get? a=some o) /\ ∀h1 h2:Heap,φ h1->(∀o,h1.get? a=some o->h2.get? a=some o)->φ h2
def jY(H:Hp)(h:Heap):Prop:=∀a o,H a=some o->cA P w H h a o
end
section
variable {P:Program}{w:World}{H H':Hp}{h h':Heap}{a:Addr}{o:HO}
theorem cA.lt(x:cA P w H h a o):a<h.objs.size:=by
 cases o with
 | lst xs=>obtain⟨_,_,_,_,e⟩:=x;exact Heap.lt_size e
 | tup xs=>obtain⟨_,_,_,p⟩:=x;exact p.lt
 | dK kvs=>obtain⟨_,_,_,_,o,_,_,e,_⟩:=x;exact Heap.lt_size e
 | dT kvs=>obtain⟨_,_,_,_,o,_,_,e,_⟩:=x;exact Heap.lt_size e
 | set S n=>obtain⟨o,_,_,_,e,_⟩:=x;exact Heap.lt_size e
 | ins C dx fs=>obtain⟨_,_,_,e,_⟩:=x;exact Heap.lt_size e
 | own y=>obtain⟨_,e⟩:=x;exact Heap.lt_size e
 | xd fs=>obtain⟨_,⟨_,_,_,e,_⟩,_⟩:=x;exact Heap.lt_size e
 | rng lo hi=>obtain⟨_,_,_,e⟩:=x;exact Heap.lt_size e
 | frz ob u=>obtain⟨e,_⟩:=x;exact Heap.lt_size e
 | tbl ps=>exact Heap.lt_size (show h.get? a=some _ from x)
 | met f y=>exact Heap.lt_size (show h.get? a=some _ from x)
 | ext φ=>obtain⟨_,⟨_,e⟩,_⟩:=x;exact Heap.lt_size e
theorem Paired.mapP{α β:Type}{F G:α->β->Prop}:∀{l₁:List α}{l₂:List β},Paired F l₁ l₂->(∀a b,F a b->G a b)->Paired G l₁ l₂
 | _,_,.nil,_=>.nil
 | _,_,.cons r t,f=>.cons (f _ _ r) (Paired.mapP t f)
theorem cA.stay(x:cA P w H h a o)(k:∀b u,(b=a\/H b=some (.own a))->h.get? b=some u->h'.get? b=some u)
  (ho:∀b,H b=some (.own a)->H' b=some (.own a))(ht:∀b xs,H b=some (.tup xs)->H' b=some (.tup xs)):cA P w H' h' a o:=by
 induction o with
 | lst xs=>obtain⟨z,its,n,r,e⟩:=x;exact⟨z,its,n,r,k _ _ (.inl rfl) e⟩
 | tup xs=>obtain⟨z,its,r,ob,e,c⟩:=x;exact⟨z,its,r,ob,k _ _ (.inl rfl) e,c⟩
 | dK kvs=>obtain⟨z,y,vs,r,ob,es,ep,e,c⟩:=x;exact⟨z,y,vs,r,ob,es,ep,k _ _ (.inl rfl) e,c⟩
 | dT kvs =>
  obtain⟨z,y,xs,r,ob,es,ep,e,c⟩:=x;exact⟨z,y,xs,Paired.mapP r λp q z=>⟨z.1,ht _ _ z.2.1,z.2.2⟩,ob,es,ep,k _ _ (.inl rfl) e,c⟩
 | set S n=>obtain⟨ob,es,ep,t,e,c⟩:=x;exact⟨ob,es,ep,t,k _ _ (.inl rfl) e,c⟩
 | ins C dx fs =>
  obtain⟨d,z,ne,e,mA,⟨od,es,ep,e2,c⟩,r⟩:=x;exact⟨ho _ d,z,ne,k _ _ (.inl rfl) e,mA,⟨od,es,ep,k _ _ (.inr d) e2,c⟩,r⟩
 | own y=>obtain⟨ob,e⟩:=x;exact⟨ob,k _ _ (.inl rfl) e⟩
 | xd fs=>obtain⟨mA,⟨od,es,ep,e,c⟩,r⟩:=x;exact⟨mA,⟨od,es,ep,k _ _ (.inl rfl) e,c⟩,r⟩
 | rng lo hi=>obtain⟨t,u,v,e⟩:=x;exact⟨t,u,v,k _ _ (.inl rfl) e⟩
 | frz ob u ih=>obtain⟨e,q⟩:=x;exact⟨k _ _ (.inl rfl) e,ih q⟩
 | tbl ps =>
  have e:h.get? a=some { cls:=.none,data:=.fields ps }:=x;show h'.get? a=some { cls:=.none,data:=.fields ps };exact k a _ (.inl rfl) e
 | met f y =>
  have e:h.get? a=some (PySem.W.methodObj (.ref f) (.ref y)):=x;show h'.get? a=some (PySem.W.methodObj (.ref f) (.ref y));exact k a _ (.inl rfl) e
 | ext φ=>obtain⟨p,⟨o,e⟩,st⟩:=x;exact⟨st _ _ p λo q=>k _ _ (.inl rfl) q,⟨o,k _ _ (.inl rfl) e⟩,st⟩
theorem jY.lt(x:jY P w H h)(e:H a=some o):a<h.objs.size:=(x a o e).lt
theorem jY.fresh(x:jY P w H h)(e:h.objs.size<=a):H a=none:=by
 cases q:H a with
 | none=>rfl
 | some u=>exact absurd (Ym (x.lt q) e) (Xr _)
theorem jY.kept(x:jY P w H h)(k:∀b u,h.get? b=some u->h'.get? b=some u):jY P w H h':=λa o e =>
 (x a o e).stay (λb u _ q=>k b u q) (λ_ q=>q) λ_ _ q=>q
theorem jY.laid(x:jY P w H h)(k:∀b u,h.get? b=some u->h'.get? b=some u)(hp:h.objs.size<=a)(new:cA P w (upd H a o) h' a o):jY P w (upd H a o) h':=λb u e=>by
 have hn:=x.fresh hp;by_cases hb:b=a
 .subst hb;rw[bj] at e;cases e;exact new
 .rw[aT hb] at e;exact (x b u e).stay (λc v _ q=>k c v q) (λc q=>by rw[aT (aj q hn)];exact q) λc xs q=>by rw[aT (aj q hn)];exact q
end
def Rd(H:Hp)(a:Addr)(u:HO):Prop:=H a=some u \/ ∃o,H a=some (.frz o u)
theorem Rd.ok{P:Program}{w:World}{H:Hp}{h:Heap}{a:Addr}{u:HO}(r:Rd H a u)(x:jY P w H h):cA P w H h a u:=by
 rcases r with r|⟨o,r⟩
 .exact x a u r
 .obtain⟨_,q⟩:=x a _ r;exact q
def J5:Option HO->Prop
 | some (.lst _)=>True
 | some (.dK _)=>True
 | some (.dT _)=>True
 | some (.set _ _)=>True
 | some (.ins _ _ _)=>True
 | some (.ext _)=>True
 | _=>False
section
variable {P:Program}{w:World}{H:Hp}{h h':Heap}{x e:Addr}{o':HO}
theorem jY.write(ok:jY P w H h)(mu:J5 (H x))(he:e=x\/H e=some (.own x))(k:∀b u,b≠e->h.get? b=some u->h'.get? b=some u)(heo:∃u,h'.get? e=some u)
  (new:cA P w (upd H x o') h' x o'):jY P w (upd H x o') h':=λb u q=>by
 have nown:∀c y,H c=some (.own y)->c≠x:=λc y r z=>by subst z;rw[r] at mu;exact mu
 have ntup:∀c xs,H c=some (.tup xs)->c≠x:=λc xs r z=>by subst z;rw[r] at mu;exact mu
 by_cases hb:b=x
 .subst hb;rw[bj] at q;cases q;exact new
 .rw[aT hb] at q;by_cases hbe:b=e
  .have q':H b=some (.own x):=by
    rcases he with z|z
    .exact absurd (hbe.trans z) hb
    .rw[hbe];exact z
   rw[q] at q';cases q';obtain⟨v,hv⟩:=heo;exact⟨v,by rw[hbe];exact hv⟩
  .refine (ok b u q).stay (λc v hc r=>k c v ?_ r) (λc r=>by rw[aT (nown c b r)];exact r) λc xs r=>by rw[aT (ntup c xs r)];exact r
   rcases hc with rfl|hc
   .exact hbe
   .rintro rfl;rcases he with z|z
    .exact nown c b hc z
    .rw[hc] at z;cases z;exact hb rfl
end
structure Un (fs ex:List Addr)(H H':Hp)(h h':Heap):Prop where
 keep:∀b o,h.get? b=some o->H b=none->b∉fs->b∉ex->h'.get? b=some o
 slot:∀b o,h.get? b=some o->H b=none->b∈fs->b∉ex -> ∃sl,h'.get? b=some { o with slots:=sl }
 free:∀b o,h.get? b=some o->H b=none->b∉ex->H' b=none
 there:∀b o,h.get? b=some o->b∉ex -> ∃o',h'.get? b=some o'
 tups:∀b xs,H b=some (.tup xs)->H' b=some (.tup xs)
 frzs:∀b o u,H b=some (.frz o u)->H' b=some (.frz o u)
 tbls:∀b ps,H b=some (.tbl ps) -> ∃more,H' b=some (.tbl (ps++more))
section
variable {fs fs' ex ex':List Addr}{H H1 H2:Hp}{h h1 h2 h':Heap}{a x e:Addr}{o:HO}
theorem Un.any(u:Un fs ex H H1 h h1) {b:Addr}{ob:Obj}(q:h.get? b=some ob)(n:H b=none)(hx:b∉ex):∃sl,h1.get? b=some { ob with slots:=sl }:=by
 by_cases hb:b∈fs
 .exact u.slot b ob q n hb hx
 .exact⟨ob.slots,u.keep b ob q n hb hx⟩
theorem Un.kept(k:∀b u,h.get? b=some u->h'.get? b=some u):Un fs ex H H h h' :=
 ⟨λb ob q _ _ _=>k b ob q,λb ob q _ _ _=>⟨ob.slots,k b ob q⟩,λ_ _ _ n _=>n,λb ob q _=>⟨ob,k b ob q⟩,λ_ _ q=>q,λ_ _ _ q=>q,λ_ ps q=>⟨#[],by rw[q];simp⟩⟩
theorem Un.refl:Un fs ex H H h h:=Un.kept λ_ _ q=>q
theorem Un.laid(k:∀b u,h.get? b=some u->h'.get? b=some u)(hp:h.objs.size<=a)(hn:H a=none):Un fs ex H (upd H a o) h h' where
 keep:=λb u q _ _ _=>k b u q
 slot:=λb u q _ _ _=>⟨u.slots,k b u q⟩
 free:=λb u q n _=>by rw[aT (YR (Ym (Heap.lt_size q) hp))];exact n
 there:=λb u q _=>⟨u,k b u q⟩
 tups:=λb xs q=>by rw[aT (aj q hn)];exact q
 frzs:=λb u xs q=>by rw[aT (aj q hn)];exact q
 tbls:=λb ps q=>⟨#[],by rw[aT (aj q hn),q];simp⟩
theorem Un.write(mu:J5 (H x))(he:e=x\/H e=some (.own x))(k:∀b u,b≠e->h.get? b=some u->h'.get? b=some u)(heo:∃u,h'.get? e=some u):Un fs ex H (upd H x o) h h':=by
 have hx:∀b,H b=none->b≠x:=λb n z=>by subst z;rw[n] at mu;exact mu
 have hb:∀b,H b=none->b≠e:=λb n z=>by
  subst z;rcases he with r|r
  .exact hx b n r
  .rw[n] at r;cases r
 have hm:∀b u,H b=some u -> ¬ J5 (some u)->b≠x:=λb u q nm z=>by subst z;rw[q] at mu;exact nm mu
 refine⟨λb u q n _ _=>k b u (hb b n) q,λb u q n _ _=>⟨u.slots,k b u (hb b n) q⟩,λb u q n _=>by rw[aT (hx b n)];exact n,λb u q _=>?_,
  λb xs q=>by rw[aT (hm b _ q λz=>z)];exact q,λb u xs q=>by rw[aT (hm b _ q λz=>z)];exact q,λb ps q=>⟨#[],by rw[aT (hm b _ q λz=>z),q];simp⟩⟩
 by_cases hbe:b=e
 .subst hbe;exact heo
 .exact⟨u,k b u hbe q⟩
end
def K6(h:Heap)(H:Hp):List Addr:=(List.range h.objs.size).filter λa=>(H a).isSome
def pB(h:Heap)(H:Hp):Heap:=PySem.W.hideAll h (K6 h H)
theorem Aj(h:Heap)(H:Hp):(pB h H).objs.size=h.objs.size:=PySem.W.hideAll_size _ _
theorem BP{h:Heap}{H:Hp}{b:Addr}{o:Obj}(e:h.get? b=some o)(n:H b=none):(pB h H).get? b=some o :=
 PySem.W.hideAll_get _ e λhm=>by
  have q:(H b).isSome=true:=(List.mem_filter.mp hm).2;rw[n] at q;simp at q
theorem Eb{h:Heap}{H:Hp}{b:Addr}{o:Obj}(e:(pB h H).get? b=some o):h.get? b=some o/\H b=none:=by
 have e':h.get? b=some o:=PySem.W.of_hideAll (K6 h H) e;refine⟨e',?_⟩;cases q:H b with
 | none=>rfl
 | some x =>
  have hm:b∈K6 h H:=List.mem_filter.mpr ⟨List.mem_range.mpr (Heap.lt_size e'),by simp[q]⟩
  have z:(pB h H).get? b=none:=PySem.W.hideAll_none (K6 h H) hm;rw[z] at e;cases e
def Ft(g h:Heap)(L:Addr):List (Addr×Obj):=(List.range h.objs.size).filterMap λa=>if a=L\/(g.get? a).isSome=true then none else (h.get? a).map λo=>(a,o)
def rest(g h:Heap)(L d:Addr):List (Addr×Obj):=(Ft g h L).filter λp=>decide (p.1≠d)
structure Mod (K:W.Frag)(mg:Str->Option Value)(base:Heap):Prop where
 kin:K.In base
 glob:base.Ns mainGlobals mg
 blt:∃mb,base.Ns builtinsNs mb /\ ∀x:Str,x ≠ "__name__" -> mb x=bootBuiltins x
 nolimit:base.NoLimit
set_option genInjectivity false in
structure Cx where
 prog:Program
 w:World
 K:W.Frag
 mg:Str->Option Value
 base:Heap
 A:Around
 N:List Str
 s₀:Shared
 H₀:Hp
 env:Env
 outer:List Env
 stack:List Env
 ex:List Addr
 fn:Str->Bool
 calm:Bool
 pn:List (Addr×Obj)
 xe:Value->Shared->Prop
def iJ(l:List Env):List Addr:=l.filterMap (·.frame)
abbrev Cx.fs (X:Cx):List Addr:=iJ X.outer
def GL(sc:Scope)(x:Str):Prop:=sc.names.lookup x=some .local\/sc.names.lookup x=some .cell\/sc.names.lookup x=some .free
def DT(sc:Scope)(x:Str):Prop:=sc.names.lookup x=some .local\/sc.names.lookup x=some .cell
def J6(env:Env)(h:Heap)(m:Str->Option Value)(x:Str)(u:Value):Prop :=
 (env.kindOf x=some .local/\m x=some u)\/((env.kindOf x=some .cell\/env.kindOf x=some .free) /\ ∃c,env.cells.lookup x=some c/\h.IsCell c (some u))
structure Cx.Ok (X:Cx):Prop where
 mod:Mod X.K X.mg X.base
 kind:X.env.scope.kind=.function
 glob:X.env.globals=mainGlobals
 blt:X.env.builtins=builtinsNs
 above:X.s₀.heap.objs.size<=X.env.locals
 inj:∀x y c,X.env.cells.lookup x=some c->X.env.cells.lookup y=some c->x=y
 has:∀x,(X.env.kindOf x=some .cell\/X.env.kindOf x=some .free) -> ∃c,X.env.cells.lookup x=some c
 cab:∀x c,X.fn x=true->X.env.cells.lookup x=some c->X.s₀.heap.objs.size<=c
 hd:X.calm=true->X.A.handled=none
 frames:X.A.frames=some X.stack
 stk:X.stack=X.outer\/(X.stack=X.env::X.outer/\X.env.frame=some X.env.locals)
 exf:∀b∈X.ex,b≠X.env.locals /\ ∀x c,X.env.cells.lookup x=some c->c≠b
 bs:∀b o,X.base.get? b=some o->X.s₀.heap.get? b=some o/\X.H₀ b=none
 bsz:X.base.objs.size<=X.s₀.heap.objs.size
 noex:∀b o,X.base.get? b=some o->b∉X.ex
 exfs:∀b∈X.ex,b∉X.fs
 funs:X.s₀.heap.FunFrames X.base X.outer
 frf:∀b∈X.fs,X.H₀ b=none
structure aJ (X:Cx)(pins:List (Addr×Obj))(σ:List (Option V))(H:Hp)(s:Shared):Prop where
 ok:X.Ok
 os:s.os=X.s₀.os
 bare:AllBare s.gens
 base:Un X.fs X.ex X.H₀ H X.s₀.heap s.heap
 loc:∃m,s.heap.Ns X.env.locals m /\ ∀(i:Nat)(x:Str)(v:V),X.N[i]? = some x->σ[i]? = some (some v)->GL X.env.scope x -> ∃u,bH v u/\J6 X.env s.heap m x u
 cell:∀x c,X.env.cells.lookup x=some c -> ∃v,s.heap.IsCell c v
 free:H X.env.locals=none
 freeC:∀x c,X.env.cells.lookup x=some c->H c=none
 pin:∀p∈X.pn++pins,s.heap.get? p.1=some p.2/\H p.1=none/\p.1≠X.env.locals/\p.1∉X.fs /\ ∀v,p.2.data ≠ .cell v
 hok:jY X.prog X.w H s.heap
 len:σ.length=X.N.length
section
variable {X:Cx}{pins:List (Addr×Obj)}{σ:List (Option V)}{H H':Hp}{s:Shared}{h':Heap}
theorem Cx.Ok.nofr(ok:X.Ok){b:Addr}{o:Obj}(e:X.base.get? b=some o):b∉X.fs:=λhb=>by
 have:=(ok.funs.mem hb).1;rw[e] at this;cases this
theorem aJ.bs(I:aJ X pins σ H s):∀b o,X.base.get? b=some o->s.heap.get? b=some o/\H b=none:=λb o e =>
 ⟨I.base.keep b o (I.ok.bs b o e).1 (I.ok.bs b o e).2 (I.ok.nofr e) (I.ok.noex b o e),I.base.free b o (I.ok.bs b o e).1 (I.ok.bs b o e).2 (I.ok.noex b o e)⟩
theorem aJ.bk(I:aJ X pins σ H s):∀b o,X.base.get? b=some o->s.heap.get? b=some o:=λb o e=>(I.bs b o e).1
theorem aJ.mod(I:aJ X pins σ H s):Mod X.K X.mg X.base:=I.ok.mod
theorem aJ.kIn(I:aJ X pins σ H s):X.K.In s.heap:=I.ok.mod.kin.keeps I.bk
theorem aJ.nolimit(I:aJ X pins σ H s):s.heap.NoLimit:=I.ok.mod.nolimit.keeps I.bk
theorem aJ.lt(I:aJ X pins σ H s):X.env.locals<s.heap.objs.size:=let ⟨_,hn,_⟩:=I.loc;hn.lt
theorem aJ.sz(I:aJ X pins σ H s):X.s₀.heap.objs.size<=s.heap.objs.size:=Yz I.ok.above (XF I.lt)
theorem aJ.nofs(I:aJ X pins σ H s) {a:Addr}(h:s.heap.objs.size<=a):a∉X.fs:=λhb=>by
 obtain⟨_,o,ho,_⟩:=I.ok.funs.mem hb;exact absurd (Ym (Heap.lt_size ho) (Yz I.sz h)) (Xr _)
theorem aJ.cne(I:aJ X pins σ H s):∀x c,X.env.cells.lookup x=some c->c≠X.env.locals:=λx c e z=>by
 obtain⟨v,o,ho,hd⟩:=I.cell x c e;obtain⟨m,⟨o',es,ep,ho',hd',_⟩,_⟩:=I.loc;rw[z,ho'] at ho;cases ho;rw[hd'] at hd;cases hd
theorem aJ.funs(I:aJ X pins σ H s):s.heap.FunFrames X.base X.outer:=by
 have all:∀(l:List Env),(∀b∈iJ l,b∈X.fs)->X.s₀.heap.FunFrames X.base l->s.heap.FunFrames X.base l:=by
  intro l;induction l with
  | nil=>intro _ _;trivial
  | cons env r ih =>
   intro hs hl;obtain⟨hk,⟨L,o,hf,hn,ho,hd⟩,hr⟩:=hl;have hL:L∈X.fs:=hs L (by unfold iJ;rw[XA,hf];exact Yj)
   obtain⟨sl,e⟩:=I.base.slot L o ho (I.ok.frf L hL) hL λz=>I.ok.exfs L z hL;exact⟨hk,⟨L,_,hf,hn,e,hd⟩,ih (λb hb=>hs b (by unfold iJ;rw[XA,hf];exact Yf _ hb)) hr⟩
 exact all X.outer (λ_ hb=>hb) I.ok.funs
theorem aJ.stack(I:aJ X pins σ H s):s.heap.FunFrames X.base X.stack:=by
 rcases I.ok.stk with e|⟨e,hf⟩
 .rw[e];exact I.funs
 .rw[e];obtain⟨m,hn,_⟩:=I.loc;refine .cons (by rw[I.ok.kind];decide) hf hn ?_ I.funs
  exact Heap.get?_none_of_le (Yz I.ok.bsz I.ok.above)
theorem aJ.stkSub(I:aJ X pins σ H s):∀b∈iJ X.stack,b∈X.env.locals::X.fs:=λb hb=>by
 rcases I.ok.stk with e|⟨e,hf⟩
 .rw[e] at hb;exact Yf _ hb
 .rw[e] at hb;unfold iJ at hb;rw[XA,hf] at hb;exact hb
theorem aJ.stkFree(I:aJ X pins σ H s):∀b∈iJ X.stack,H b=none:=λb hb=>by
 rcases YY.mp (I.stkSub b hb) with e|hb
 .rw[e];exact I.free
 .obtain⟨_,o,ho,_⟩:=I.ok.funs.mem hb;exact I.base.free b o ho (I.ok.frf b hb) λz=>I.ok.exfs b z hb
theorem aJ.step{g':Array GenState}{t':Nat}{d':Drawn}{ch:List Addr}(I:aJ X pins σ H s)
  (hch:∀b∈ch,(b∈X.ex\/X.s₀.heap.objs.size<=b)/\b≠X.env.locals/\(∀x c,X.env.cells.lookup x=some c->c≠b) /\ ∀p∈X.pn++pins,p.1≠b)
  (keep:∀b o,b≠X.env.locals->b∉X.fs->b∉ch->s.heap.get? b=some o->H b=none->h'.get? b=some o)
  (slot:∀b o,b≠X.env.locals->b∈X.fs->b∉ch->s.heap.get? b=some o->H b=none -> ∃sl,h'.get? b=some { o with slots:=sl })(free:∀b o,b∉ch->s.heap.get? b=some o->H b=none->H' b=none)
  (there:∀b o,b∉ch->s.heap.get? b=some o -> ∃o',h'.get? b=some o')
  (tups:∀b xs,H b=some (.tup xs)->H' b=some (.tup xs))(frzs:∀b o u,H b=some (.frz o u)->H' b=some (.frz o u))(tbls:∀b ps,H b=some (.tbl ps) -> ∃more,H' b=some (.tbl (ps++more)))
  (ns:∀m,s.heap.Ns X.env.locals m->h'.Ns X.env.locals m)(hok:jY X.prog X.w H' h')(hg:AllBare g') :
  aJ X pins σ H' { s with heap:=h',gens:=g',drawn:=d',toks:=t' }:=by
 have neL:∀b o,X.s₀.heap.get? b=some o->b≠X.env.locals:=λb o e=>YR (Ym (Heap.lt_size e) I.ok.above);have neC:∀b o,X.s₀.heap.get? b=some o->b∉X.ex->b∉ch:=λb o e hx hb=>by
  rcases (hch b hb).1 with z|z
  .exact hx z
  .exact absurd (Ym (Heap.lt_size e) z) (Xr _)
 have cellK:∀x c,X.env.cells.lookup x=some c -> ∀v,s.heap.IsCell c v->h'.IsCell c v:=λx c e v ⟨o,ho,hd⟩=>by
  have nch:c∉ch:=λz=>(hch c z).2.2.1 x c e rfl;by_cases hc:c∈X.fs
  .obtain⟨sl,q⟩:=slot c o (I.cne x c e) hc nch ho (I.freeC x c e);exact⟨_,q,hd⟩
  .exact⟨o,keep c o (I.cne x c e) hc nch ho (I.freeC x c e),hd⟩
 refine⟨I.ok,I.os,hg,⟨λb o e n hb hx=>?_,λb o e n hb hx=>?_,λb o e n hx=>?_,λb o e hx=>?_,λb xs e=>tups b xs (I.base.tups b xs e),λb o xs e=>frzs b o xs (I.base.frzs b o xs e),λb ps e=>?_⟩,?_,λx c e=>?_,?_,λx c e=>?_,λp hp=>?_,hok,I.len⟩
 .exact keep b o (neL b o e) hb (neC b o e hx) (I.base.keep b o e n hb hx) (I.base.free b o e n hx)
 .obtain⟨sl,e1⟩:=I.base.slot b o e n hb hx;obtain⟨sl',e2⟩:=slot b _ (neL b o e) hb (neC b o e hx) e1 (I.base.free b o e n hx);exact⟨sl',e2⟩
 .obtain⟨o',e1⟩:=I.base.there b o e hx;exact free b o' (neC b o e hx) e1 (I.base.free b o e n hx)
 .obtain⟨o',e1⟩:=I.base.there b o e hx;exact there b o' (neC b o e hx) e1
 .obtain⟨m1,e1⟩:=I.base.tbls b ps e;obtain⟨m2,e2⟩:=tbls b _ e1;exact⟨m1++m2,by rw[e2,Array.append_assoc]⟩
 .obtain⟨m,hn,hl⟩:=I.loc;refine⟨m,ns m hn,λi x v e1 e2 e3=>?_⟩;obtain⟨u,r,l⟩:=hl i x v e1 e2 e3;refine⟨u,r,?_⟩;rcases l with l|⟨k,c,e,z⟩
  .exact .inl l
  .exact .inr ⟨k,c,e,cellK x c e _ z⟩
 .obtain⟨v,z⟩:=I.cell x c e;exact⟨v,cellK x c e v z⟩
 .obtain⟨m,⟨o,_,_,ho,_⟩,_⟩:=I.loc;exact free _ o (λz=>(hch _ z).2.1 rfl) ho I.free
 .obtain⟨v,o,ho,hd⟩:=I.cell x c e;exact free c o (λz=>(hch c z).2.2.1 x c e rfl) ho (I.freeC x c e)
 .obtain⟨e,n,ne,nf,d⟩:=I.pin p hp;have nch:p.1∉ch:=λz=>(hch p.1 z).2.2.2 p hp rfl;exact⟨keep p.1 p.2 ne nf nch e n,free p.1 p.2 nch e n,ne,nf,d⟩
theorem aJ.un{t':Nat}(I:aJ X pins σ H s)(u:Un X.fs [] H H' s.heap h')(hok:jY X.prog X.w H' h'):aJ X pins σ H' { s with heap:=h',toks:=t' }:=by
 obtain⟨m,⟨o,es,ep,ho,r⟩,_⟩:=id I.loc;obtain⟨sl,hL⟩:=u.any ho I.free (by simp)
 exact I.step (g':=s.gens) (d':=s.drawn) (ch:=[]) (λ_ z=>nomatch z) (λb o _ hb _ e n=>u.keep b o e n hb (by simp)) (λb o _ hb _ e n=>u.slot b o e n hb (by simp)) (λb o _ e n=>u.free b o e n (by simp)) (λb o _ e=>u.there b o e (by simp)) u.tups u.frzs u.tbls (λm' hm=>by
  obtain⟨o',es',ep',ho',r'⟩:=hm;rw[ho] at ho';cases ho';exact⟨_,es',ep',hL,r'⟩) hok I.bare
theorem aJ.call{g':Array GenState}{t':Nat}{d':Drawn}{ch:List Addr}(I:aJ X pins σ H s)(u:Un (iJ X.stack) ch H H' s.heap h')(hok:jY X.prog X.w H' h')(hg:AllBare g')
  (hch:∀b∈ch,(b∈X.ex\/X.s₀.heap.objs.size<=b)/\b≠X.env.locals/\(∀x c,X.env.cells.lookup x=some c->c≠b) /\ ∀p∈X.pn++pins,p.1≠b) :
  aJ X pins σ H' { s with heap:=h',gens:=g',drawn:=d',toks:=t' }:=by
 obtain⟨m,⟨o,es,ep,ho,r⟩,_⟩:=id I.loc;obtain⟨sl,hL⟩:=u.any ho I.free λz=>(hch _ z).2.1 rfl;exact I.step (ch:=ch) hch (λb o hL hb hc e n=>u.keep b o e n (λz=>(YY.mp (I.stkSub b z)).elim hL hb) hc) (λb o _ _ hc e n=>u.any e n hc) (λb o hc e n=>u.free b o e n hc) (λb o hc e=>u.there b o e hc) u.tups u.frzs u.tbls (λm' hm=>by
  obtain⟨o',es',ep',ho',r'⟩:=hm;rw[ho] at ho';cases ho';exact⟨_,es',ep',hL,r'⟩) hok hg
theorem aJ.turned{t':Nat}{it:Addr}(I:aJ X pins σ H s)(k:∀b o,b≠it->s.heap.get? b=some o->h'.get? b=some o)(hn:H it=none)(hL:it≠X.env.locals)
  (h1:it∈X.ex\/X.s₀.heap.objs.size<=it)(h2:∀x c,X.env.cells.lookup x=some c->c≠it)(h3:∀p∈X.pn++pins,p.1≠it):aJ X pins σ H { s with heap:=h',toks:=t' }:=by
 have nit:∀b u,H b=some u->b≠it:=λb u e z=>by rw[z,hn] at e;cases e
 refine I.step (g':=s.gens) (d':=s.drawn) (ch:=[it]) (λb hb=>?_) (λb o _ _ hc e _=>k b o (λz=>hc (by simp[z])) e) (λb o _ _ hc e _=>⟨o.slots,k b o (λz=>hc (by simp[z])) e⟩) (λ_ _ _ _ n=>n)
  (λb o hc e=>⟨o,k b o (λz=>hc (by simp[z])) e⟩) (λ_ _ e=>e) (λ_ _ _ e=>e) (λb ps e=>⟨#[],by rw[e];simp⟩) (λm hm=>?_) (λb u e=>?_) I.bare
 .have e:b=it:=by simpa using hb
  subst e;exact⟨h1,hL,h2,h3⟩
 .obtain⟨o,es,ep,ho,r⟩:=hm;exact⟨o,es,ep,k _ o (XI hL) ho,r⟩
 .refine (I.hok b u e).stay (λc v hc q=>k c v ?_ q) (λ_ q=>q) λ_ _ q=>q;rcases hc with z|z
  .rw[z];exact nit b u e
  .exact nit c _ z
theorem aJ.tok(I:aJ X pins σ H s)(t:Nat):aJ X pins σ H { s with toks:=t }:=I.un (h':=s.heap) (t':=t) Un.refl I.hok
theorem aJ.kept{t':Nat}(I:aJ X pins σ H s)(k:∀b u,s.heap.get? b=some u->h'.get? b=some u):aJ X pins σ H { s with heap:=h',toks:=t' }:=I.un (Un.kept k) (I.hok.kept k)
theorem aJ.laid{a:Addr}{o:HO}{t':Nat}(I:aJ X pins σ H s)(k:∀b u,s.heap.get? b=some u->h'.get? b=some u)(hp:s.heap.objs.size<=a)(new:cA X.prog X.w (upd H a o) h' a o) :
  aJ X pins σ (upd H a o) { s with heap:=h',toks:=t' }:=I.un (Un.laid k hp (I.hok.fresh hp)) (I.hok.laid k hp new)
theorem aJ.write{x e:Addr}{o:HO}{t':Nat}(I:aJ X pins σ H s)(mu:J5 (H x))(he:e=x\/H e=some (.own x))(k:∀b u,b≠e->s.heap.get? b=some u->h'.get? b=some u)(heo:∃u,h'.get? e=some u)
  (new:cA X.prog X.w (upd H x o) h' x o):aJ X pins σ (upd H x o) { s with heap:=h',toks:=t' }:=I.un (Un.write mu he k heo) (I.hok.write mu he k heo new)
theorem aJ.pins_of{pins':List (Addr×Obj)}(I:aJ X pins σ H s)(h:∀p∈pins',s.heap.get? p.1=some p.2/\H p.1=none/\p.1≠X.env.locals/\p.1∉X.fs /\ ∀v,p.2.data ≠ .cell v):aJ X pins' σ H s :=
 ⟨I.ok,I.os,I.bare,I.base,I.loc,I.cell,I.free,I.freeC,λp hp=>(List.mem_append.mp hp).elim (λz=>I.pin p (XG _ z)) (h p),I.hok,I.len⟩
theorem uW{N:List Str}(hN:N.Nodup) {i j:Nat}{x:Str}(a:N[i]? = some x)(b:N[j]? = some x):i=j:=by
 obtain⟨h1,e1⟩:=List.getElem?_eq_some_iff.mp a;obtain⟨h2,e2⟩:=List.getElem?_eq_some_iff.mp b;exact (List.getElem_inj hN).mp (e1.trans e2.symm)
theorem rR{M:Model}{A:Around}{E:Value->Shared->Prop}{i:Nat}{x:Str}{v:V}{u:Value}{Q:Unit->Shared->Prop}(I:aJ X pins σ H s)(hN:X.N.Nodup)(hi:X.N[i]? = some x)(hx:DT X.env.scope x)(r:bH v u)
  (h:∀s',aJ X pins (σ.set i (some v)) H s'->(∃a,Heap.SameBut a s.heap s'.heap/\(a=X.env.locals\/X.env.cells.lookup x=some a))->Q PUnit.unit s')(hf:X.fn x=true\/X.env.scope.names.lookup x=some .local:=by first|exact .inl rfl|exact .inr rfl|assumption):wpAny M A (storeName X.env x u) Q E s:=by
 obtain⟨m,hn,hl⟩:=id I.loc;have hcls:(X.env.scope.kind == .class || (X.env.scope.kind == .module && X.env.locals != X.env.globals))=false:=by rw[I.ok.kind];rfl
 have hiσ:i<σ.length:=by rw[I.len];exact (List.getElem?_eq_some_iff.mp hi).1
 have cne:=I.cne;have tracked:∀{a:Addr}{h':Heap},(∃o,s.heap.get? a=some o/\H a=none)->Heap.SameBut a s.heap h'->jY X.prog X.w H h':=λ{a h'} ha hs b ob e=>by
  obtain⟨_,_,hfree⟩:=ha;refine (I.hok b ob e).stay (λc w' hc q=>(hs.2 c ?_).trans q) (λ_ q=>q) λ_ _ q=>q;rintro rfl;rcases hc with rfl|hc
  .rw[hfree] at e;cases e
  .rw[hfree] at hc;cases hc
 rcases hx with hk|hk
 .refine wpAny_storeName_local hk hn (λh' hn' hs=>?_) hcls;obtain⟨oL,_,_,hoL,_⟩:=id hn;refine h _ ⟨I.ok,I.os,I.bare,⟨λb o e n hb hx=>?_,λb o e n hb hx=>?_,I.base.free,λb o e hx=>?_,I.base.tups,I.base.frzs,I.base.tbls⟩,⟨_,hn',λj y v' e1 e2 e3=>?_⟩,λy c e=>?_,I.free,I.freeC,λp hp=>?_,tracked ⟨oL,hoL,I.free⟩ hs,by simpa using I.len⟩ ⟨_,hs,.inl rfl⟩
  .exact (hs.2 b (YR (Ym (Heap.lt_size e) I.ok.above))).trans (I.base.keep b o e n hb hx)
  .obtain⟨sl,e1⟩:=I.base.slot b o e n hb hx;exact⟨sl,(hs.2 b (YR (Ym (Heap.lt_size e) I.ok.above))).trans e1⟩
  .obtain⟨o',e1⟩:=I.base.there b o e hx;exact⟨o',(hs.2 b (YR (Ym (Heap.lt_size e) I.ok.above))).trans e1⟩
  .by_cases hj:j=i
   .subst hj;rw[hi] at e1;cases e1;rw[List.getElem?_set_self hiσ] at e2;cases e2;exact⟨u,r,.inl ⟨hk,by simp⟩⟩
   .rw[List.getElem?_set_ne (XI hj)] at e2;obtain⟨u',r',q⟩:=hl j y v' e1 e2 e3;refine⟨u',r',?_⟩;rcases q with ⟨k,e⟩|⟨k,c,e,z⟩
    .refine .inl ⟨k,?_⟩;have:y≠x:=λe=>hj (uW hN e1 (e▸hi));simp[this,e]
    .exact .inr ⟨k,c,e,z.sameBut hs (cne y c e)⟩
  .obtain⟨w',z⟩:=I.cell y c e;exact⟨w',z.sameBut hs (cne y c e)⟩
  .obtain⟨e,n,ne,nf,d⟩:=I.pin p hp;exact⟨(hs.2 p.1 ne).trans e,n,ne,nf,d⟩
 .have hfn:X.fn x=true:=by
   rcases hf with z|z
   .exact z
   .rw[z] at hk;cases hk
  obtain⟨c,hc⟩:=I.ok.has x (.inl hk);obtain⟨w',z⟩:=I.cell x c hc;refine wpAny_storeName_cell I.ok.kind hk hc z (λh' hc' hs=>?_);obtain⟨oc,hoc,hocd⟩:=id z;refine h { s with heap:=h' } ⟨I.ok,I.os,I.bare,⟨λb o e n hb hx=>?_,λb o e n hb hx=>?_,I.base.free,λb o e hx=>?_,I.base.tups,I.base.frzs,I.base.tbls⟩,⟨m,hn.sameBut hs (XI (cne x c hc)),λj y v' e1 e2 e3=>?_⟩,λy c' e=>?_,I.free,I.freeC,λp hp=>?_,tracked ⟨oc,hoc,I.freeC x c hc⟩ hs,by simpa using I.len⟩ ⟨c,hs,.inr hc⟩
  .exact (hs.2 b (YR (Ym (Heap.lt_size e) (I.ok.cab x c hfn hc)))).trans (I.base.keep b o e n hb hx)
  .obtain⟨sl,e1⟩:=I.base.slot b o e n hb hx;exact⟨sl,(hs.2 b (YR (Ym (Heap.lt_size e) (I.ok.cab x c hfn hc)))).trans e1⟩
  .obtain⟨o',e1⟩:=I.base.there b o e hx;exact⟨o',(hs.2 b (YR (Ym (Heap.lt_size e) (I.ok.cab x c hfn hc)))).trans e1⟩
  .by_cases hj:j=i
   .subst hj;rw[hi] at e1;cases e1;rw[List.getElem?_set_self hiσ] at e2;cases e2;exact⟨u,r,.inr ⟨.inl hk,c,hc,hc'⟩⟩
   .rw[List.getElem?_set_ne (XI hj)] at e2;obtain⟨u',r',q⟩:=hl j y v' e1 e2 e3;refine⟨u',r',?_⟩;rcases q with q|⟨k,c',e,z'⟩
    .exact .inl q
    .refine .inr ⟨k,c',e,z'.sameBut hs ?_⟩;rintro rfl;exact hj (uW hN e1 (I.ok.inj _ _ _ e hc▸hi))
  .by_cases hcc:c'=c
   .subst hcc;exact⟨_,hc'⟩
   .obtain⟨w2,z2⟩:=I.cell y c' e;exact⟨w2,z2.sameBut hs hcc⟩
  .obtain⟨e,n,ne,nf,d⟩:=I.pin p hp;refine⟨(hs.2 p.1 ?_).trans e,n,ne,nf,d⟩;intro q;rw[q,hoc] at e;have q':oc=p.2:=YO e;exact d w' (by rw[<-q'];exact hocd)
theorem iC{M:Model}{A:Around}{E:Value->Shared->Prop}{i:Nat}{x:Str}{v:V}{u:Value}{Q:Unit->Shared->Prop}(I:aJ X pins σ H s)(hN:X.N.Nodup)(hi:X.N[i]? = some x)(hx:DT X.env.scope x)(r:bH v u)
  (h:∀s',aJ X pins (σ.set i (some v)) H s'->Q PUnit.unit s')(hf:X.fn x=true\/X.env.scope.names.lookup x=some .local:=by first|exact .inl rfl|exact .inr rfl|assumption):wpAny M A (storeName X.env x u) Q E s :=
 rR I hN hi hx r (λs' I' _=>h s' I') hf
theorem aJ.call'{s':Shared}{ch:List Addr}(I:aJ X pins σ H s)(ho:s'.os=s.os)(u:Un (iJ X.stack) ch H H' s.heap s'.heap)(hok:jY X.prog X.w H' s'.heap)(hg:AllBare s'.gens)
  (hch:∀b∈ch,(b∈X.ex\/X.s₀.heap.objs.size<=b)/\b≠X.env.locals/\(∀x c,X.env.cells.lookup x=some c->c≠b) /\ ∀p∈X.pn++pins,p.1≠b):aJ X pins σ H' s':=by
 obtain⟨h',g',d',t',o'⟩:=s';have e:o'=s.os:=ho;subst e;exact I.call (g':=g') (t':=t') (d':=d') u hok hg hch
end
abbrev XK:=Value->Option Addr->Hp->Prop
abbrev St:=List (Option V)
abbrev VK:=V->Hp->Prop
abbrev TE:=St->Hp->VK->Prop
abbrev TT:=St->Hp->(Bool->Hp->Prop)->Prop
abbrev TA:=St->Hp->(List V->Hp->Prop)->Prop
structure lU where
 nx:St->Hp->Prop
 rt:VK
 bk:St->Hp->Prop:=λ_ _=>False
 ct:St->Hp->Prop:=λ_ _=>False
abbrev TS:=lU->St->Hp->Prop
def EP(X:Cx)(pins:List (Addr×Obj))(σ:St)(Q:VK)(u:Value)(s':Shared):Prop:=∃v H',aJ X pins σ H' s'/\bH v u/\Q v H'
def TP(X:Cx)(pins:List (Addr×Obj))(σ:St)(Q:Bool->Hp->Prop)(b:Bool)(s':Shared):Prop:=∃H',aJ X pins σ H' s'/\Q b H'
def AP(X:Cx)(pins:List (Addr×Obj))(σ:St)(Q:List V->Hp->Prop)(us:List Value)(s':Shared):Prop:=∃vs H',aJ X pins σ H' s'/\aY vs us/\Q vs H'
def SP(X:Cx)(pins:List (Addr×Obj))(D:lU)(f:Flow)(s':Shared):Prop :=
 match f with
 | .next=>∃σ' H',aJ X pins σ' H' s'/\D.nx σ' H'
 | .brk=>∃σ' H',aJ X pins σ' H' s'/\D.bk σ' H'
 | .cont=>∃σ' H',aJ X pins σ' H' s'/\D.ct σ' H'
 | .ret u=>∃v σ' H',aJ X pins σ' H' s'/\bH v u/\D.rt v H'
def PE(X:Cx)(e:Expr)(t:TE):Prop :=
 ∀(pins:List (Addr×Obj))(s:Shared)(σ:St)(H:Hp)(Q:VK),aJ X pins σ H s->t σ H Q->wpAny (model X.prog X.w) X.A (eval e X.env) (EP X pins σ Q) X.xe s
def PT(X:Cx)(e:Expr)(t:TT):Prop :=
 ∀(pins:List (Addr×Obj))(s:Shared)(σ:St)(H:Hp)(Q:Bool->Hp->Prop),aJ X pins σ H s->t σ H Q->wpAny (model X.prog X.w) X.A (isTrue e X.env (eval e X.env)) (TP X pins σ Q) X.xe s
def PW(X:Cx)(e:Expr)(t:TT):Prop :=
 ∀(whole:Sem Value)(pins:List (Addr×Obj))(s:Shared)(σ:St)(H:Hp)(Q:Bool->Hp->Prop),aJ X pins σ H s->t σ H Q->wpAny (model X.prog X.w) X.A (isTrue e X.env whole) (TP X pins σ Q) X.xe s
theorem PW.pt{X:Cx}{e:Expr}{t:TT}(h:PW X e t):PT X e t:=h _
def PA(X:Cx)(es:List Expr)(t:TA):Prop :=
 ∀(pos:Pos)(pins:List (Addr×Obj))(s:Shared)(σ:St)(H:Hp)(Q:List V->Hp->Prop),aJ X pins σ H s->t σ H Q->wpAny (model X.prog X.w) X.A (spliced (backTo pos (starEach es X.env))) (AP X pins σ Q) X.xe s
def PS(X:Cx)(st:Stmt)(t:TS):Prop :=
 ∀(pins:List (Addr×Obj))(s:Shared)(σ:St)(H:Hp)(D:lU),aJ X pins σ H s->t D σ H->wpAny (model X.prog X.w) X.A (exec st X.env) (SP X pins D) X.xe s
def sC(X:Cx)(st:List Stmt)(t:TS):Prop :=
 ∀(pins:List (Addr×Obj))(s:Shared)(σ:St)(H:Hp)(D:lU),aJ X pins σ H s->t D σ H->wpAny (model X.prog X.w) X.A (execs st X.env) (SP X pins D) X.xe s
theorem cD{α:Type}{t:Sem α}{Q Q':α->Shared->Prop}{M:Model}{A:Around}{E:Value->Shared->Prop}{s:Shared}(h:wpAny M A t Q E s)(hQ:∀a s,Q a s->Q' a s):wpAny M A t Q' E s:=wpAny_mono h hQ λ_ _ x=>x
section
variable {X:Cx}
def tVar(i:Nat):TE:=λσ H Q=>∃v,σ[i]? = some (some v)/\Q v H
def tC(v:V):TE:=λ_ H Q=>Q v H
theorem Bj{i:Nat}{x:Str}{pos:Pos}(hN:X.N[i]? = some x)(hv:GL X.env.scope x)(hd:(x==("__debug__" : Str))=false:=by decide) (hcd:(x==("__classdict__" : Str))=false:=by decide):PE X (.Name x pos) (tVar i):=by
 intro pins s σ H Q I h;obtain⟨v,e,h⟩:=h;obtain⟨m,hn,hl⟩:=I.loc;obtain⟨u,r,l⟩:=hl i x v hN e hv;have fin:EP X pins σ Q u s:=⟨v,H,I,r,h⟩;rcases l with ⟨hk,hm⟩|⟨hk,c,hc,hcell⟩
 .exact wpAny_Name (wpAny_loadName_local I.ok.kind hk hn hm fin) hd
 .rcases hk with hk|hk
  .exact wpAny_Name (wpAny_loadName_cell I.ok.kind hk hc hcell fin) hd
  .exact wpAny_Name (wpAny_loadName_free I.ok.kind hk hc hcell fin hcd) hd
theorem Ir {i j pos}:PE X (.Constant (.int i) j pos) (tC (.int i)):=λ_ _ _ H _ I h=>wpAny_Constant_int ⟨.int i,H,I.tok _,⟨_,rfl⟩,h⟩
theorem KH {b j pos}:PE X (.Constant (.bool b) j pos) (tC (.bl b)):=λ_ _ _ H _ I h=>Constant_bool ⟨.bl b,H,I,rfl,h⟩
theorem IF {j pos}:PE X (.Constant .none j pos) (tC .non):=λ_ _ _ H _ I h=>Constant_none ⟨.non,H,I,rfl,h⟩
theorem Iq {x j pos}:PE X (.Constant (.str x) j pos) (tC (.str x)):=λ_ _ _ H _ I h=>Calls.Constant_str ⟨.str x,H,I.tok _,⟨_,rfl⟩,h⟩
def Gl(X:Cx)(x:Str):Prop:=X.env.kindOf x=some .globalImplicit
theorem jU{E:Value->Shared->Prop}{pins:List (Addr×Obj)}{s:Shared}{σ:St}{H:Hp}{x:Str}{u:Value}{pos:Pos}{Q:Value->Shared->Prop}(I:aJ X pins σ H s)(hg:Gl X x)(hm:X.mg x=some u)(h:Q u s)
  (hd:(x==("__debug__" : Str))=false:=by decide):wpAny (model X.prog X.w) X.A (eval (.Name x pos) X.env) Q E s :=
 Calls.Name_function_global I.ok.kind hg (Calls.loadGlobal_global (by rw[I.ok.glob];exact I.mod.glob.keeps I.bk) hm h) hd
theorem jz{E:Value->Shared->Prop}{pins:List (Addr×Obj)}{s:Shared}{σ:St}{H:Hp}{x:Str}{u:Value}{pos:Pos}{Q:Value->Shared->Prop}(I:aJ X pins σ H s)(hg:Gl X x)(hm:X.mg x=none)(hv:bootBuiltins x=some u)(h:Q u s)
  (hn:x ≠ "__name__":=by decide) (hd:(x==("__debug__" : Str))=false:=by decide):wpAny (model X.prog X.w) X.A (eval (.Name x pos) X.env) Q E s:=by
 obtain⟨mb,h1,h2⟩:=I.mod.blt;exact Calls.Name_function_global I.ok.kind hg (Calls.loadGlobal_builtin (by rw[I.ok.glob];exact I.mod.glob.keeps I.bk) hm (by rw[I.ok.blt];exact h1.keeps I.bk) ((h2 x hn).trans hv) h) hd
theorem DY{x:Str}{v:V}{u:Value}{pos:Pos}(hg:Gl X x)(hm:X.mg x=some u)(r:bH v u)(hd:(x==("__debug__" : Str))=false:=by decide):PE X (.Name x pos) (tC v) :=
 λ_ _ _ H _ I h=>jU I hg hm ⟨v,H,I,r,h⟩ hd
theorem Et{x:Str}{v:V}{u:Value}{pos:Pos}(hg:Gl X x)(hm:X.mg x=none)(hv:bootBuiltins x=some u)(r:bH v u)(hn:x ≠ "__name__":=by decide) (hd:(x==("__debug__" : Str))=false:=by decide):PE X (.Name x pos) (tC v) :=
 λ_ _ _ H _ I h=>jz I hg hm hv ⟨v,H,I,r,h⟩ hn hd
variable {a b:Expr}{ta tb:TE}{pos:Pos}
def tB(t:TE):TT:=λσ H Q=>t σ H λx H1=>∃c,x=.bl c/\Q c H1
theorem HX{e:Expr}{t:TE}(h:PE X e t)(he:∀whole,isTrue e X.env whole=(do let v <-whole;standAt e.pos;holding [v] (truthy v)):=by intro _;rfl):PT X e (tB t):=by
 intro pins s σ H Q I hw;refine isTrue_plain (cD (h pins s σ H _ I hw) λv s1 ⟨x,H1,I1,r1,q1⟩=>?_) (he _);obtain⟨d,rfl,q⟩:=q1;cases r1;exact wpAny_truthy_bool ⟨H1,I1,q⟩
variable {tA tB':TT}{rest:List Expr}
def Hn(t u:TT):TT:=λσ H Q=>t σ H λc H1=>if c=true then u σ H1 Q else Q false H1
def LL(t u:TT):TT:=λσ H Q=>t σ H λc H1=>if c=true then Q true H1 else u σ H1 Q
def IL(t:TT):TT:=λσ H Q=>t σ H λc H1=>Q (!c) H1
theorem Ew(ha:PT X a tA):PW X (.BoolOp .And [a] pos) tA:=by
 intro wh pins s σ H Q I h;refine isTrue_and (cD (ha pins s σ H Q I h) λc s1 e=>?_);cases c with
 | true=>exact isTrue_and_nil e
 | false=>exact e
theorem Jd(ha:PT X a tA):PW X (.BoolOp .Or [a] pos) tA:=by
 intro wh pins s σ H Q I h;refine isTrue_or (cD (ha pins s σ H Q I h) λc s1 e=>?_);cases c with
 | false=>exact isTrue_or_nil e
 | true=>exact e
theorem Jq(ha:PT X a tA)(hb:PW X (.BoolOp .And (b::rest) pos) tB'):PW X (.BoolOp .And (a::b::rest) pos) (Hn tA tB'):=by
 intro wh pins s σ H Q I h;refine isTrue_and (cD (ha pins s σ H _ I h) λc s1 ⟨H1,I1,q1⟩=>?_);cases c with
 | true=>exact hb wh pins s1 σ H1 Q I1 q1
 | false=>exact⟨H1,I1,q1⟩
theorem J2(ha:PT X a tA)(hb:PW X (.BoolOp .Or (b::rest) pos) tB'):PW X (.BoolOp .Or (a::b::rest) pos) (LL tA tB'):=by
 intro wh pins s σ H Q I h;refine isTrue_or (cD (ha pins s σ H _ I h) λc s1 ⟨H1,I1,q1⟩=>?_);cases c with
 | true=>exact⟨H1,I1,q1⟩
 | false=>exact hb wh pins s1 σ H1 Q I1 q1
theorem Ig(ha:PT X a tA):PT X (.UnaryOp .Not a pos) (IL tA):=by
 intro pins s σ H Q I h;exact isTrue_not (ha pins s σ H (λc H1=>Q (!c) H1) I h)
def yD(ta tb:TE):TE:=λσ H Q=>ta σ H λx H1=>∃c,x=.bl c/\if c=true then tb σ H1 Q else Q (.bl false) H1
def ED(ta tb:TE):TE:=λσ H Q=>ta σ H λx H1=>∃c,x=.bl c/\if c=true then Q (.bl true) H1 else tb σ H1 Q
def zw(ta:TE):TE:=λσ H Q=>ta σ H λx H1=>∃c,x=.bl c/\Q (.bl (!c)) H1
theorem GS {op}{t:TE}(h:PE X a t):PE X (.BoolOp op [a] pos) t:=λpins s σ H Q I hw=>BoolOp_one (h pins s σ H Q I hw)
theorem Jv(ha:PE X a ta)(hb:PE X (.BoolOp .And (b::rest) pos) tb):PE X (.BoolOp .And (a::b::rest) pos) (yD ta tb):=by
 intro pins s σ H Q I h;refine BoolOp_and (cD (ha pins s σ H _ I h) λv s1 ⟨x,H1,I1,r1,q1⟩=>?_);obtain⟨c,rfl,q1⟩:=q1;cases r1;refine wpAny_truthy_bool ?_;cases c with
 | true=>exact hb pins s1 σ H1 Q I1 q1
 | false=>exact⟨.bl false,H1,I1,rfl,q1⟩
theorem KO(ha:PE X a ta)(hb:PE X (.BoolOp .Or (b::rest) pos) tb):PE X (.BoolOp .Or (a::b::rest) pos) (ED ta tb):=by
 intro pins s σ H Q I h;refine BoolOp_or (cD (ha pins s σ H _ I h) λv s1 ⟨x,H1,I1,r1,q1⟩=>?_);obtain⟨c,rfl,q1⟩:=q1;cases r1;refine wpAny_truthy_bool ?_;cases c with
 | false=>exact hb pins s1 σ H1 Q I1 q1
 | true=>exact⟨.bl true,H1,I1,rfl,q1⟩
theorem GM(ha:PE X a ta):PE X (.UnaryOp .Not a pos) (zw ta):=by
 intro pins s σ H Q I h;refine UnaryOp_ (cD (ha pins s σ H _ I h) λv s1 ⟨x,H1,I1,r1,q1⟩=>?_);obtain⟨c,rfl,q1⟩:=q1;cases r1;exact not_of (wpAny_truthy_bool ⟨.bl (!c),H1,I1,rfl,q1⟩)
def K3(t:TT)(ta tb:TE):TE:=λσ H Q=>t σ H λc H1=>if c=true then ta σ H1 Q else tb σ H1 Q
theorem AL{c:Expr}(hc:PT X c tA)(ha:PE X a ta)(hb:PE X b tb):PE X (.IfExp c a b pos) (K3 tA ta tb):=by
 intro pins s σ H Q I h;refine wpAny_IfExp (cD (hc pins s σ H _ I h) λd s1 ⟨H1,I1,q1⟩=>?_);cases d with
 | true=>exact ha pins s1 σ H1 Q I1 q1
 | false=>exact hb pins s1 σ H1 Q I1 q1
end
def jq(K:W.Frag)(H:Hp)(a:Addr)(xs:List V):Prop :=
 Rd H a (.lst xs) \/
  ∃(o:Obj)(its:Array Value)(n:Nat),K.lookup a=some o/\o.cls=.type "list" /\ o.dict=none/\o.data=.seq its n/\its.size<=sizeLine/\aY xs its.toList
def wD(K:W.Frag)(H:Hp)(a:Addr)(xs:List V):Prop :=
 Rd H a (.tup xs) \/
  ∃(o:Obj)(its:Array Value)(n:Nat),K.lookup a=some o/\o.cls=.type "tuple" /\ o.data=.seq its n/\its.size<=sizeLine/\aY xs its.toList
def Kw:Value->Option V
 | .none=>some .non
 | .bool b=>some (.bl b)
 | .int i _=>some (.int i)
 | .str x _=>some (.str x)
 | .bytes b _=>some (.byt b)
 | .float b _=>some (.flt b)
 | .ref a=>some (.ref a)
 | .type n=>some (.ty n)
 | _=>none
theorem bH.abs{x:V}{u:Value}(r:bH x u):Kw u=some x:=by
 cases x with
 | non=>cases r;rfl
 | bl _=>cases r;rfl
 | int _=>obtain⟨t,rfl⟩:=r;rfl
 | str _=>obtain⟨t,rfl⟩:=r;rfl
 | byt _=>obtain⟨t,rfl⟩:=r;rfl
 | flt _=>obtain⟨t,rfl⟩:=r;rfl
 | ref _=>cases r;rfl
 | ty _=>cases r;rfl
theorem bH.inj{x y:V}{u:Value}(r:bH x u)(q:bH y u):x=y:=YO (r.abs.symm.trans q.abs)
theorem aY.inj:∀{xs ys:List V}{us:List Value},aY xs us->aY ys us->xs=ys
 | _,_,_,.nil,.nil=>rfl
 | _,_,_,.cons r t,.cons r' t'=>by rw[r.inj r',aY.inj t t']
section
variable {X:Cx}{pins:List (Addr×Obj)}{σ:St}{H:Hp}{s:Shared}{a:Addr}{xs ys:List V}
theorem jq.of{K:W.Frag}(h:H a=some (.lst xs)):jq K H a xs:=.inl (.inl h)
theorem wD.of{K:W.Frag}(h:H a=some (.tup xs)):wD K H a xs:=.inl (.inl h)
theorem aJ.list(I:aJ X pins σ H s)(h:jq X.K H a xs):∃its:List Value,aY xs its/\PlainL s.heap a its.toArray/\xs.length<=sizeLine:=by
 rcases h with h|⟨o,its,n,hk,hc,hd,hs,hz,r⟩
 .obtain⟨z,its,n,r,e⟩:=h.ok I.hok;exact⟨its,r,⟨_,n,e,rfl,rfl,rfl⟩,z⟩
 .refine⟨its.toList,r,⟨o,n,I.kIn a o hk,hc,hd,by simpa using hs⟩,?_⟩
  have e:=r.length;simp only[Array.length_toList] at e;nofun
theorem aJ.tuple(I:aJ X pins σ H s)(h:wD X.K H a xs):∃its:List Value,aY xs its/\IsTup s.heap a its.toArray/\xs.length<=sizeLine:=by
 rcases h with h|⟨o,its,n,hk,hc,hs,hz,r⟩
 .obtain⟨z,its,r,p⟩:=h.ok I.hok;exact⟨its,r,p,z⟩
 .refine⟨its.toList,r,⟨o,I.kIn a o hk,hc,n,by simpa using hs⟩,?_⟩
  have e:=r.length;simp only[Array.length_toList] at e;nofun
theorem aJ.list_inj(I:aJ X pins σ H s)(h:jq X.K H a xs)(h':jq X.K H a ys):xs=ys:=by
 obtain⟨its,r,⟨o,n,e,_,_,d⟩,_⟩:=I.list h;obtain⟨its',r',⟨o',n',e',_,_,d'⟩,_⟩:=I.list h';rw[e] at e';cases e';rw[d] at d';injection d' with d1 _
 have:its=its':=by simpa using Xb Array.toList d1
 subst this;exact r.inj r'
end
abbrev Cx.wish (X:Cx)(E:Value->Shared->Prop):Cx:={ X with xe:=E }
abbrev Cx.nox (X:Cx):Cx:=X.wish λ_ _=>False
theorem Cx.Ok.wish{X:Cx}(ok:X.Ok)(E:Value->Shared->Prop):(X.wish E).Ok :=
 ⟨ok.mod,ok.kind,ok.glob,ok.blt,ok.above,ok.inj,ok.has,ok.cab,ok.hd,ok.frames,ok.stk,ok.exf,ok.bs,ok.bsz,ok.noex,ok.exfs,ok.funs,ok.frf⟩
theorem Cx.Ok.unwish{X:Cx}{E:Value->Shared->Prop}(ok:(X.wish E).Ok):X.Ok :=
 ⟨ok.mod,ok.kind,ok.glob,ok.blt,ok.above,ok.inj,ok.has,ok.cab,ok.hd,ok.frames,ok.stk,ok.exf,ok.bs,ok.bsz,ok.noex,ok.exfs,ok.funs,ok.frf⟩
section
variable {X:Cx}{pins:List (Addr×Obj)}{σ:St}{H:Hp}{s:Shared}{E:Value->Shared->Prop}
theorem aJ.wish(I:aJ X pins σ H s)(E:Value->Shared->Prop):aJ (X.wish E) pins σ H s:=⟨I.ok.wish E,I.os,I.bare,I.base,I.loc,I.cell,I.free,I.freeC,I.pin,I.hok,I.len⟩
theorem aJ.unwish(I:aJ (X.wish E) pins σ H s):aJ X pins σ H s:=⟨I.ok.unwish,I.os,I.bare,I.base,I.loc,I.cell,I.free,I.freeC,I.pin,I.hok,I.len⟩
theorem SP.unwish{D:lU}{f:Flow}{s':Shared}(h:SP (X.wish E) pins D f s'):SP X pins D f s':=by
 cases f with
 | next=>obtain⟨σ',H',I,q⟩:=h;exact⟨σ',H',I.unwish,q⟩
 | brk=>obtain⟨σ',H',I,q⟩:=h;exact⟨σ',H',I.unwish,q⟩
 | cont=>obtain⟨σ',H',I,q⟩:=h;exact⟨σ',H',I.unwish,q⟩
 | ret u=>obtain⟨v,σ',H',I,r,q⟩:=h;exact⟨v,σ',H',I.unwish,r,q⟩
theorem sC.nox{st:List Stmt}{t:TS}(h:sC X.nox st t):sC X st t:=λpins s σ H D I hw =>
 wpAny_mono (h pins s σ H D (I.wish _) hw) (λ_ _ q=>q.unwish) λ_ _ z=>False.elim z
end
section
variable {X:Cx}{st:Stmt}{rest:List Stmt}{t u:TS}{e:Expr}{te:TE}{pos:Pos}
def CZ:TS:=λD σ H=>D.nx σ H
def aR(t u:TS):TS:=λD σ H=>t { D with nx:=u D } σ H
theorem Fk:sC X [] CZ:=λ_ _ σ H _ I h=>wpAny_execs_nil ⟨σ,H,I,h⟩
theorem AY(h1:PS X st t)(h2:sC X rest u):sC X (st::rest) (aR t u):=by
 intro pins s σ H D I h;refine wpAny_execs_cons (cD (h1 pins s σ H { D with nx:=u D } I h) λf s1 q=>?_)
 cases f with
 | next =>
  obtain⟨σ',H',I',q⟩:=q;exact h2 pins s1 σ' H' D I' q
 | ret v=>exact q
 | brk=>exact q
 | cont=>exact q
theorem Eu(h1:PS X st t):sC X [st] t:=by
 intro pins s σ H D I h;refine wpAny_execs_cons (cD (h1 pins s σ H D I h) λf s1 q=>?_);cases f with
 | next=>exact wpAny_execs_nil q
 | ret v=>exact q
 | brk=>exact q
 | cont=>exact q
theorem aJ.quiet{pins:List (Addr×Obj)}{σ:St}{H:Hp}{s:Shared}(I:aJ X pins σ H s):interactive X.env=false:=by simp[interactive,I.ok.kind]
def Ca(te:TE):TS:=λD σ H=>te σ H λ_ H1=>D.nx σ H1
theorem ES(he:PE X e te)(hs:swapsWith e none pos.line X.env=pure false:=by rfl):PS X (.Expr e pos) (Ca te):=by
 intro pins s σ H D I h;exact wpAny_Expr_any (cD (he pins s σ H _ I h) λv s1 ⟨x,H1,I1,r1,q1⟩=>⟨σ,H1,I1,q1⟩) I.quiet hs
def HW(te:TE):TS:=λD σ H=>te σ H D.rt
theorem IQ(he:PE X e te):PS X (.Return (some e) pos) (HW te):=by
 intro pins s σ H D I h;exact wpAny_Return_some (cD (he pins s σ H _ I h) λv s1 ⟨x,H1,I1,r1,q1⟩=>⟨x,σ,H1,I1,r1,q1⟩)
def Kx:TS:=λD _ H=>D.rt .non H
def Ck(c:TT)(t u:TS):TS:=λD σ H=>c σ H λb H1=>if b=true then t D σ H1 else u D σ H1
theorem KI{c:Expr}{a b:List Stmt}{tc:TT}(hc:PT X c tc)(ha:sC X a t)(hb:sC X b u):PS X (.If c a b pos) (Ck tc t u):=by
 intro pins s σ H D I h;refine wpAny_If (cD (hc pins s σ H _ I h) λd s1 ⟨H1,I1,q1⟩=>?_);cases d with
 | true=>exact ha pins s1 σ H1 D I1 q1
 | false=>exact hb pins s1 σ H1 D I1 q1
def pM:TS:=λ_ _ _=>False
theorem DD:PS X st pM:=λ_ _ _ _ _ _ h=>h.elim
theorem zS{sts:List Stmt}:sC X sts pM:=λ_ _ _ _ _ _ h=>h.elim
end
abbrev TG:=V->St->Hp->(St->Hp->Prop)->Prop
abbrev AB:=List V->St->Hp->(St->Hp->Prop)->Prop
def PG(X:Cx)(target:Expr)(t:TG):Prop :=
 ∀(pins:List (Addr×Obj))(s:Shared)(σ:St)(H:Hp)(v:V)(u:Value)(Q:St->Hp->Prop),aJ X pins σ H s->bH v u->t v σ H Q ->
  wpAny (model X.prog X.w) X.A (assign target X.env u) (λ_ s'=>∃σ' H',aJ X pins σ' H' s'/\Q σ' H') X.xe s
def JI(X:Cx)(ts:List Expr)(t:AB):Prop :=
 ∀(pins:List (Addr×Obj))(s:Shared)(σ:St)(H:Hp)(vs:List V)(us:List Value)(Q:St->Hp->Prop),aJ X pins σ H s->aY vs us->t vs σ H Q ->
  wpAny (model X.prog X.w) X.A (assignInOrder ((assignEach ts X.env).map (·.2)) us) (λ_ s'=>∃σ' H',aJ X pins σ' H' s'/\Q σ' H') X.xe s
abbrev xG:=V->V->V->Hp->(Hp->Prop)->Prop
def zV(X:Cx)(t:xG):Prop :=
 ∀(pins:List (Addr×Obj))(s:Shared)(σ:St)(H:Hp)(o i v:V)(ov iv u:Value)(Q:Hp->Prop),aJ X pins σ H s->bH o ov->bH i iv->bH v u->t o i v H Q ->
  wpAny (model X.prog X.w) X.A (setItem ov iv u) (λ_ s'=>∃H',aJ X pins σ H' s'/\Q H') X.xe s
abbrev DQ:=V->V->Hp->VK->Prop
def Gv(X:Cx)(op:Operator)(t:DQ):Prop :=
 ∀(pins:List (Addr×Obj))(s:Shared)(σ:St)(H:Hp)(x y:V)(v u:Value)(Q:VK),aJ X pins σ H s->bH x v->bH y u->t x y H Q ->
  wpAny (model X.prog X.w) X.A (inplaceOp op v u) (EP X pins σ Q) X.xe s
section
variable {X:Cx}{pos:Pos}
def jy(i:Nat):TG:=λv σ H Q=>Q (σ.set i (some v)) H
theorem FP{i:Nat}{x:Str}(hN:X.N.Nodup)(hi:X.N[i]? = some x)(hx:DT X.env.scope x)(hf:X.fn x=true\/X.env.scope.names.lookup x=some .local:=by first|exact .inl rfl|exact .inr rfl|assumption):PG X (.Name x pos) (jy i):=by
 intro pins s σ H v u Q I r h;exact wpAny_assign_Name (iC I hN hi hx r (λs' I'=>⟨_,H,I',h⟩) hf)
def Cf:AB:=λvs σ H Q=>vs=[]/\Q σ H
def rQ(t:TG)(u:AB):AB:=λvs σ H Q=>∃v r,vs=v::r/\t v σ H λσ' H'=>u r σ' H' Q
theorem F2:JI X [] Cf:=by
 intro pins s σ H vs us Q I r h;obtain⟨e,h⟩:=h;subst e;cases r;exact assignInOrder_nil ⟨σ,H,I,h⟩
theorem CA{e:Expr}{es:List Expr}{t:TG}{u:AB}(h1:PG X e t)(h2:JI X es u)
  (hs:(assignEach (e::es) X.env).map (·.2)=assign e X.env::(assignEach es X.env).map (·.2):=by rfl):JI X (e::es) (rQ t u):=by
 intro pins s σ H vs us Q I r h;obtain⟨v,vr,e1,h⟩:=h;subst e1;cases r with
 | cons r rr =>
  rw[hs];refine assignInOrder_cons (cD (h1 pins s σ H _ _ _ I r h) λ_ s1 ⟨σ1,H1,I1,q1⟩=>?_);exact h2 pins s1 σ1 H1 _ _ Q I1 rr q1
def J0(K:W.Frag)(n:Nat)(t:AB):TG:=λv σ H Q=>∃a xs,v=.ref a/\wD K H a xs/\xs.length=n/\t xs σ H Q
theorem JB{es:List Expr}{k:Nat}{t:AB}{n:Nat}(hc:X.calm=true)(h:JI X es t)
  (hn:(assignEach es X.env).length=n:=by rfl)(hst:(assignEach es X.env).findIdx? (·.1)=none:=by rfl):PG X (.Tuple es k pos) (J0 X.K n t):=by
 intro pins s σ H v u Q I r hw;obtain⟨a,xs,e1,hq,hl,hw⟩:=hw;subst e1;cases r;obtain⟨its,rv,ht,hz⟩:=I.tuple hq;refine assign_Tuple_tuple (I.ok.hd hc) ht (by simp[hn,<-hl,rv.length]) hst λh' hx=>?_
 have I1:aJ X pins σ H { s with heap:=h' }:=I.kept (t':=s.toks) λb o e=>hx b o (YR (Heap.lt_size e)) e
 exact h pins _ σ H xs _ Q I1 (by simpa using rv) hw
def IK(to ti:TE)(t:xG):TG:=λv σ H Q=>to σ H λo H1=>ti σ H1 λi H2=>t o i v H2 λH3=>Q σ H3
theorem Jw{o i:Expr}{to ti:TE}{t:xG}(ho:PE X o to)(hi:PE X i ti)(hs:zV X t)
  (ha:∀v,assign (.Subscript o i pos) X.env v=(do
   let ov <-holding [v] (eval o X.env)
   let iv <-holding [v,ov] (eval i X.env)
   standAt pos
   holding [v,ov,iv] (setItem ov iv v)
   release [v,ov,iv] []):=by intro _;rfl):PG X (.Subscript o i pos) (IK to ti t):=by
 intro pins s σ H v u Q I r h;rw[ha];refine wpAny_bind (wpAny_holding (cD (ho pins s σ H _ I h) λov s1 ⟨x,H1,I1,r1,q1⟩=>?_));refine wpAny_bind (wpAny_holding (cD (hi pins s1 σ H1 _ I1 q1) λiv s2 ⟨y,H2,I2,r2,q2⟩=>?_));refine wpAny_bind (wpAny_standAt (wpAny_bind (wpAny_holding (cD (hs pins s2 σ H2 x y v ov iv u _ I2 r1 r2 r q2) λ_ s3 ⟨H3,I3,q3⟩=>?_))));exact wpAny_release ⟨σ,H3,I3,q3⟩
def sQ(te:TE)(g:TG):TS:=λD σ H=>te σ H λx H1=>g x σ H1 D.nx
theorem HZ{tg e:Expr}{te:TE}{g:TG}(he:PE X e te)(hg:PG X tg g)(hs:swapsWithSole [tg] e pos.line X.env=pure false:=by rfl)(hw:swappedStores [tg] e X.env=pure none:=by rfl)
  (h1:(assignEach [tg] X.env).map (·.2)=[assign tg X.env]:=by rfl):PS X (.Assign [tg] e pos) (sQ te g):=by
 intro pins s σ H D I h;refine wpAny_Assign_stores (cD (he pins s σ H _ I h) λv s1 ⟨x,H1,I1,r1,q1⟩=>?_) hs hw;rw[h1];exact cD (hg pins s1 σ H1 x v _ I1 r1 q1) λ_ s2 q=>q
theorem IA{i:Nat}{x:Str}{e:Expr}{te:TE}{pos':Pos}(hN:X.N.Nodup)(hi:X.N[i]? = some x)(hx:DT X.env.scope x)(he:PE X e te)(hs:swapsWith e (some (.Name x pos')) pos.line X.env=pure false:=by rfl)(hf:X.fn x=true\/X.env.scope.names.lookup x=some .local:=by first|exact .inl rfl|exact .inr rfl|assumption) :
  PS X (.Assign [.Name x pos'] e pos) (sQ te (jy i)):=by
 intro pins s σ H D I h;refine wpAny_Assign_Name (cD (he pins s σ H _ I h) λv s1 ⟨y,H1,I1,r1,q1⟩=>?_) hs;exact iC I1 hN hi hx r1 (λs2 I2=>⟨_,H1,I2,q1⟩) hf
def Ga(i j:Nat)(ta:TA):TS:=λD σ H=>ta σ H λvs H1=>∃v w,vs=[v,w]/\D.nx ((σ.set i (some v)).set j (some w)) H1
theorem Hi{i j:Nat}{x y:Str}{a b:Expr}{ta:TA}{px py pt:Pos} {kt k2 pt2}(hc:X.calm=true)(hN:X.N.Nodup)(hi:X.N[i]? = some x)(hj:X.N[j]? = some y)(hij:i≠j)
  (hx:X.env.scope.names.lookup x=some .local)(hy:X.env.scope.names.lookup y=some .local)(ha:PA X [a,b] ta)
  (hw:swappedStores [.Tuple [.Name x px,.Name y py] kt pt] (.Tuple [a,b] k2 pt2) X.env=pure (some [x,y]))
  (hs:swapsWithSole [.Tuple [.Name x px,.Name y py] kt pt] (.Tuple [a,b] k2 pt2) pos.line X.env=pure false:=by rfl) :
  PS X (.Assign [.Tuple [.Name x px,.Name y py] kt pt] (.Tuple [a,b] k2 pt2) pos) (Ga i j ta):=by
 intro pins s σ H D I h;rw[exec_Assign_arm];refine wpAny_bind (wpAny_standAt ?_);rw[hs];refine wpAny_bind (wpAny_pure ?_);rw[Yc ∅];refine wpAny_bind (Tuple_ (cD (ha _ pins s σ H _ I h) λus s1 ⟨vs,H1,I1,r1,q1⟩=>?_));obtain⟨v,w,e1,q1⟩:=q1;subst e1;obtain⟨u1,u2,rfl,rv,rw'⟩ : ∃u1 u2,us=[u1,u2]/\bH v u1/\bH w u2:=by
  cases r1 with
  | cons p q =>
   cases q with
   | cons p' q' =>
    cases q';exact⟨_,_,rfl,p,p'⟩
 refine wpAny_newObj_type ?_ (by show 2<=sizeLine;decide)
 have I2:aJ X pins σ H1 { s1 with heap:=s1.heap.push { cls:=.type "tuple",data:=.seq [u1,u2].toArray } }:=I1.kept (t':=s1.toks) λb o e=>Heap.get?_push_of_some _ e
 rw[hw];refine wpAny_bind (wpAny_pure ?_);show wpAny (model X.prog X.w) X.A (do rule "assign.swapped-stores";let items <-unpackItems (.ref s1.heap.objs.size) 2 none;assignInOrder [λv=>bindName X.env y v,λv=>bindName X.env x v] items.reverse;pure Flow.next) _ _ _
 refine wpAny_bind (wpAny_rule (wpAny_bind (unpackItems_tuple (items:=#[u1,u2]) (I.ok.hd hc) (IsTup.new s1.heap _) λh' hx'=>?_)));have I3:=I2.kept (h':=h') (t':=s1.toks) λb o e=>hx' b o (YR (Heap.lt_size e)) e;show wpAny _ _ (assignInOrder [λv=>bindName X.env y v,λv=>bindName X.env x v] [u2,u1] >>= λ_=>pure Flow.next) _ _ _
 refine wpAny_bind (assignInOrder_cons (wpAny_bindName (iC I3 hN hj (.inl hy) rw' (λs2 I4=>?_) (.inr hy))));refine assignInOrder_cons (wpAny_bindName (iC I4 hN hi (.inl hx) rv (λs3 I5=>assignInOrder_nil (wpAny_pure ?_)) (.inr hx)));rw[List.set_comm _ _ (XI hij)] at I5;exact⟨_,H1,I5,q1⟩
def GJ(i:Nat)(te:TE)(ti:DQ):TS:=λD σ H=>∃x,σ[i]? = some (some x)/\te σ H λy H1=>ti x y H1 λz H2=>D.nx (σ.set i (some z)) H2
theorem GO{i:Nat}{x:Str}{e:Expr}{te:TE}{op:Operator}{ti:DQ}{pos':Pos}(hN:X.N.Nodup)(hi:X.N[i]? = some x)(hx:DT X.env.scope x)(he:PE X e te)(ho:Gv X op ti)(hf:X.fn x=true\/X.env.scope.names.lookup x=some .local:=by first|exact .inl rfl|exact .inr rfl|assumption) :
  PS X (.AugAssign (.Name x pos') op e pos) (GJ i te ti):=by
 intro pins s σ H D I h;obtain⟨v,e1,h⟩:=h;obtain⟨m,hn,hl⟩:=I.loc;have vis:GL X.env.scope x:=by rcases hx with k|k;exact .inl k;exact .inr (.inl k)
 obtain⟨u,r,l⟩:=hl i x v hi e1 vis;refine wpAny_AugAssign_Name ?_;have go:wpAny (model X.prog X.w) X.A (eval e X.env) (λw s₂=>wpAny (model X.prog X.w) X.A (inplaceOp op u w) (λr s₃=>wpAny (model X.prog X.w) X.A (storeName X.env x r) (λ_=>SP X pins D .next) X.xe s₃) X.xe s₂) X.xe s:=by
  refine cD (he pins s σ H _ I h) λw s1 ⟨y,H1,I1,r1,q1⟩=>?_;refine cD (ho pins s1 σ H1 v y u w _ I1 r r1 q1) λz s2 ⟨zv,H2,I2,r2,q2⟩=>?_;exact iC I2 hN hi hx r2 (λs3 I3=>⟨_,H2,I3,q2⟩) hf
 rcases l with ⟨hk,hm⟩|⟨hk,c,hc,hcell⟩
 .exact wpAny_loadName_local I.ok.kind hk hn hm go
 .rcases hk with hk|hk
  .exact wpAny_loadName_cell I.ok.kind hk hc hcell go
  .rcases hx with k|k
   .have:X.env.scope.names.lookup x=some .free:=hk;rw[k] at this;cases this
   .have:X.env.scope.names.lookup x=some .free:=hk;rw[k] at this;cases this
def AU(to ti te:TE)(tget:V->V->Hp->VK->Prop)(tip:DQ)(tset:xG):TS:=λD σ H=>to σ H λo H1=>ti σ H1 λi H2=>tget o i H2 λx H3=>te σ H3 λy H4=>tip x y H4 λz H5=>tset o i z H5 λH6=>D.nx σ H6
def HF(X:Cx)(t:V->V->Hp->VK->Prop):Prop :=
 ∀(pins:List (Addr×Obj))(s:Shared)(σ:St)(H:Hp)(o i:V)(ov iv:Value)(Q:VK),aJ X pins σ H s->bH o ov->bH i iv->t o i H Q ->
  wpAny (model X.prog X.w) X.A (getItem ov iv) (EP X pins σ Q) X.xe s
theorem EY{o i e:Expr}{to ti te:TE}{tget:V->V->Hp->VK->Prop}{tip:DQ}{tset:xG}{op:Operator}{tpos:Pos}(ho:PE X o to)(hi:PE X i ti)(hg:HF X tget)(he:PE X e te)(hp:Gv X op tip)(hs:zV X tset)
  (ha:∀ov iv new,augStore i ov iv new=(do holding [new,ov,iv] (setItem ov iv new);release [new,ov,iv] [];pure .next):=by intros;rfl):PS X (.AugAssign (.Subscript o i tpos) op e pos) (AU to ti te tget tip tset):=by
 intro pins s σ H D I h;refine wpAny_AugAssign_SubscriptAny (cD (ho pins s σ H _ I h) λov s1 ⟨x1,H1,I1,r1,q1⟩=>?_) ha;refine cD (hi pins s1 σ H1 _ I1 q1) λiv s2 ⟨x2,H2,I2,r2,q2⟩=>?_;refine cD (hg pins s2 σ H2 x1 x2 ov iv _ I2 r1 r2 q2) λold s3 ⟨x3,H3,I3,r3,q3⟩=>?_;refine cD (he pins s3 σ H3 _ I3 q3) λv s4 ⟨x4,H4,I4,r4,q4⟩=>?_;refine cD (hp pins s4 σ H4 x3 x4 old v _ I4 r3 r4 q4) λnew s5 ⟨x5,H5,I5,r5,q5⟩=>?_;exact cD (hs pins s5 σ H5 x1 x2 x5 ov iv new _ I5 r1 r2 r5 q5) λ_ s6 ⟨H6,I6,q6⟩=>⟨σ,H6,I6,q6⟩
def LS(f:Int->Int->Int):DQ:=λx y H Q=>∃i j,x=.int i/\y=.int j/\Q (.int (f i j)) H
theorem Hk:Gv X .Add (LS λi j=>i+j):=by
 intro pins s σ H x y v u Q I r1 r2 h;obtain⟨i,j,e1,e2,q⟩:=h;subst e1;subst e2;obtain⟨t,rfl⟩:=r1;obtain⟨t',rfl⟩:=r2;exact iadd_int ⟨.int _,H,I.tok _,⟨_,rfl⟩,q⟩
theorem xE:Gv X .Sub (LS λi j=>i-j):=by
 intro pins s σ H x y v u Q I r1 r2 h;obtain⟨i,j,e1,e2,q⟩:=h;subst e1;subst e2;obtain⟨t,rfl⟩:=r1;obtain⟨t',rfl⟩:=r2;exact isub_int ⟨.int _,H,I.tok _,⟨_,rfl⟩,q⟩
end
section
variable {X:Cx}{pos:Pos}
def BR(c:TT)(tb:TS):TS:=λD σ H=>∃W:Nat->St->Hp->Prop,(∃m,W m σ H) /\ ∀m σ H,W m σ H ->
 c σ H λb H1=>if b=true then ∃N:St->Hp->Prop,(∀σ' H',N σ' H' -> ∃m',m'<m/\W m' σ' H')/\tb { D with nx:=N,ct:=N,bk:=D.nx } σ H1 else D.nx σ H1
theorem Cy{c:Expr}{body:List Stmt}{tc:TT}{tb:TS}(hp:PassesOwn (model X.prog X.w) X.A X.env X.xe)(hc:PT X c tc)(hb:sC X body tb):PS X (.While c body [] pos) (BR tc tb):=by
 intro pins s σ H D I h;obtain⟨W,⟨m0,w0⟩,turn⟩:=h;refine wpAny_While (codeAny_whileLoop (λn s'=>∃σ' H',aJ X pins σ' H' s'/\W n σ' H') ?_ m0 ⟨σ,H,I,w0⟩);rintro n s1 ⟨σ1,H1,I1,w1⟩;refine wpAny_passesOwn hp (cD (hc pins s1 σ1 H1 _ I1 (turn n σ1 H1 w1)) λb s2 ⟨H2,I2,q2⟩=>?_);cases b with
 | true =>
  obtain⟨N,hN,q2⟩:=q2;rw[Yh rfl];refine wpAny_passesOwn hp (cD (hb pins s2 σ1 H2 _ I2 q2) λf s3 q3=>?_);cases f with
  | next =>
   obtain⟨σ3,H3,I3,n3⟩:=q3;obtain⟨m',hm,w3⟩:=hN σ3 H3 n3;exact⟨m',hm,σ3,H3,I3,w3⟩
  | cont =>
   obtain⟨σ3,H3,I3,n3⟩:=q3;obtain⟨m',hm,w3⟩:=hN σ3 H3 n3;exact⟨m',hm,σ3,H3,I3,w3⟩
  | brk=>exact q3
  | ret v=>exact q3
 | false =>
  rw[Yc YI];exact wpAny_execs_nil ⟨σ1,H2,I2,q2⟩
end
structure It where
 go:Nat->Hp->Prop
 yld:Nat->Hp->V->Hp->Prop
 stop:Nat->Hp->Prop
def qK(X:Cx)(pins:List (Addr×Obj))(H:Hp)(b:Addr):Prop :=
 H b=none/\b≠X.env.locals/\b∉X.fs/\(b∈X.ex\/X.s₀.heap.objs.size<=b)/\(∀x c,X.env.cells.lookup x=some c->c≠b) /\ ∀p∈X.pn++pins,p.1≠b
theorem aJ.fpOk{X:Cx}{pins:List (Addr×Obj)}{σ:St}{H H':Hp}{s:Shared}{b:Addr}(I:aJ X pins σ H s)(hb:s.heap.objs.size<=b)(hn:H' b=none):qK X pins H' b:=by
 refine⟨hn,Nat.ne_of_gt (Ym I.lt hb),I.nofs hb,.inr (Yz I.sz hb),λx c e z=>?_,λp hp z=>?_⟩
 .obtain⟨v,q⟩:=I.cell x c e;exact absurd (Ym q.lt (by rw[z];exact hb)) (Xr _)
 .exact absurd (Ym (Heap.lt_size (I.pin p hp).1) (by rw[z];exact hb)) (Xr _)
structure zG (P:Program)(w:World)(K:W.Frag)(tg:Expr)(J:It)(fp:List Addr)(it:Addr)(tn:Nat->Heap->Prop):Prop where
 mem:it∈fp
 obj:∀i h,tn i h -> ∀b∈fp,∃o,h.get? b=some o /\ ∀v,o.data ≠ .cell v
 keep:∀i h h',tn i h->(∀b∈fp,∀o,h.get? b=some o->h'.get? b=some o)->tn i h'
 item:∀(X:Cx),X.prog=P->X.w=w->X.K=K->X.calm=true -> ∀(i:Nat)(pins:List (Addr×Obj))(s:Shared)(σ:St)(H:Hp)(E:Value->Shared->Prop),aJ X pins σ H s->(∀b∈fp,qK X pins H b)->tn i s.heap->J.go i H ->
  wpAny (model P w) X.A (pyNext (.ref it)) (λr s1=>∃u,r=some u /\
   wpAny (model P w) X.A (letOwnedTupleGo tg (.ref it) u) (λ_ s2=>∃x H',aJ X pins σ H' s2/\bH x u/\J.yld i H x H'/\tn (i+1) s2.heap /\ ∀b∈fp,H' b=none) E s1) E s
 done:∀(X:Cx),X.prog=P->X.w=w->X.K=K->X.calm=true -> ∀(i:Nat)(pins:List (Addr×Obj))(s:Shared)(σ:St)(H:Hp)(E:Value->Shared->Prop),aJ X pins σ H s->(∀b∈fp,qK X pins H b)->tn i s.heap->J.stop i H ->
  wpAny (model P w) X.A (pyNext (.ref it)) (λr s1=>r=none/\aJ X pins σ H s1) E s
 self:∀(A:Around)(i:Nat)(s:Shared)(Q:Value->Shared->Prop)(E:Value->Shared->Prop),tn i s.heap->Q (.ref it) s->wpAny (model P w) A (pyIter (.ref it)) Q E s
abbrev TI:=St->Hp->(It->Hp->Prop)->Prop
def LY(X:Cx)(pins:List (Addr×Obj))(σ:St)(tg:Expr)(R:It->Hp->Prop)(itv:Value)(s2:Shared):Prop :=
 ∃(it:Addr)(fp:List Addr)(tn:Nat->Heap->Prop)(J:It)(H':Hp),itv=.ref it/\aJ X pins σ H' s2/\zG X.prog X.w X.K tg J fp it tn/\tn 0 s2.heap/\(∀b∈fp,qK X pins H' b)/\R J H'
def PI(X:Cx)(tg iter:Expr)(wi:TI):Prop :=
 ∀(pins:List (Addr×Obj))(s:Shared)(σ:St)(H:Hp)(R:It->Hp->Prop),aJ X pins σ H s->wi σ H R ->
  wpAny (model X.prog X.w) X.A (eval iter X.env) (λv s1=>wpAny (model X.prog X.w) X.A (pyIter v) (LY X pins σ tg R) X.xe s1) X.xe s
theorem xV{M:Model}{A:Around}{E:Value->Shared->Prop}{s:Shared}{tg:Expr}{it:Addr}{u:Value}{o:Obj}{n:String}{vs:Array Value}{Q:Unit->Shared->Prop}(ho:s.heap.get? it=some o)(hc:o.cls=.type n)(hd:o.data=.fields vs)
  (hn:["enumerate", "zip", "dict_itemiterator", "dict_reverseitemiterator", "odict_iterator", "itertools.zip_longest", "itertools.pairwise"].contains n=false) (hQ:Q PUnit.unit s):wpAny M A (letOwnedTupleGo tg (.ref it) u) Q E s:=by
 unfold letOwnedTupleGo;cases tg<;>first
  | exact wpAny_pure hQ
  | (cases u<;>first
    | exact wpAny_pure hQ
    | (refine wpAny_bind (wpAny_load ho ?_)
       rw[hc,hd];show wpAny M A (if (["enumerate", "zip", "dict_itemiterator", "dict_reverseitemiterator", "odict_iterator", "itertools.zip_longest", "itertools.pairwise"].contains n && vs[0]? == some (rawInt _))=true then _ else _) Q E s
       rw[Yc (by intro h;rw[hn,Bool.false_and] at h;cases h)]
       exact wpAny_pure hQ))
def Lh(K:W.Frag)(a:Addr):It :=
 ⟨λi H=>∃xs x,jq K H a xs/\xs[i]? = some x,λi H x H'=>H'=H /\ ∀xs,jq K H a xs->xs[i]? = some x,λi H=>∃xs,jq K H a xs/\xs.length<=i⟩
def L8(K:W.Frag)(a:Addr):It :=
 ⟨λi H=>∃xs x,wD K H a xs/\xs[i]? = some x,λi H x H'=>H'=H /\ ∀xs,wD K H a xs->xs[i]? = some x,λi H=>∃xs,wD K H a xs/\xs.length<=i⟩
def JM(lo:Int)(n:Nat):It:=⟨λi _=>i<n,λi H x H'=>H'=H/\x=.int (lo+i),λi _=>n<=i⟩
theorem Am{P:Program}{w:World}{K:W.Frag}{tg:Expr}(a it:Addr):zG P w K tg (Lh K a) [it] it (λi h=>h.IsListIter it a i) where
 mem:=by simp
 obj:=λi h st b hb=>by
  have e:b=it:=by simpa using hb
  subst e;obtain⟨o,e,c,d⟩:=st;exact⟨o,e,λv z=>by rw[d] at z;cases z⟩
 keep:=λi h h' st k=>st.at λo e=>k it (by simp) o e
 item:=by
  intro X hP hw hK hc i pins s σ H E I hf st hg;subst hP hw hK;obtain⟨xs,x,hq,hx⟩:=hg;obtain⟨its,rv,p,hz⟩:=I.list hq;obtain⟨u,hu,ru⟩:=rv.get hx;obtain⟨f0,f1,f2,f3,f4,f5⟩:=hf it (by simp)
  refine wpAny_pyNext_list_item st p.isList (x:=u) (by simpa using hu) λh' st' sb=>?_
  have I1:aJ X pins σ H { s with heap:=h' }:=I.turned (t':=s.toks) (λb o hb e=>(sb.2 b hb).trans e) f0 f1 f3 f4 f5
  obtain⟨o,e,c,d⟩:=id st';exact⟨u,rfl,xV (s:={ s with heap:=h' }) e c d ∅ ⟨x,H,I1,ru,⟨rfl,λys hy=>by rw[I.list_inj hy hq];exact hx⟩,st',λb hb=>(hf b hb).1⟩⟩
 done:=by
  intro X hP hw hK hc i pins s σ H E I hf st hg;subst hP hw hK;obtain⟨xs,hq,hx⟩:=hg;obtain⟨its,rv,p,hz⟩:=I.list hq;obtain⟨f0,f1,f2,f3,f4,f5⟩:=hf it (by simp)
  have hl:=rv.length;exact wpAny_pyNext_list_end (I.ok.hd hc) st p.isList (by simp;nofun) λh' eb=>⟨rfl,I.turned (t':=s.toks) (λb o hb e=>eb b o hb e) f0 f1 f3 f4 f5⟩
 self:=λ_ _ _ _ _ st h=>wpAny_pyIter_listiter st h
theorem xN{P:Program}{w:World}{K:W.Frag}{tg:Expr}(it:Addr)(lo:Int)(n:Nat):zG P w K tg (JM lo n) [it] it (λi h=>IsRangeIter h it (lo+(i:Nat)*1) ((n:Int)-(i:Nat)) 1) where
 mem:=by simp
 obj:=λi h st b hb=>by
  have e:b=it:=by simpa using hb
  subst e;exact⟨_,st,λv z=>by
   have z':Data.fields _=Data.cell v:=z;cases z'⟩
 keep:=λi h h' st k=>k it (by simp) _ st
 item:=by
  intro X hP hw hK hc i pins s σ H E I hf st hg;subst hP hw hK;obtain⟨f0,f1,f2,f3,f4,f5⟩:=hf it (by simp)
  have W:=Walks.range (prog:=X.prog) (w:=X.w) (I.ok.hd hc) it lo 1 n;refine W.item i s _ _ hg st λv h' tk hv st' kk=>?_;obtain⟨t,rfl⟩:=hv;have I1:aJ X pins σ H { s with heap:=h',toks:=tk }:=I.turned (λb o hb e=>kk b o (by simpa using hb) e) f0 f1 f3 f4 f5
  refine⟨_,rfl,xV (s:={ s with heap:=h',toks:=tk }) (n:="range_iterator") st' rfl rfl ∅ ⟨.int (lo+i),H,I1,⟨t,?_⟩,⟨rfl,rfl⟩,st',λb hb=>(hf b hb).1⟩⟩
  rw[XN]
 done:=by
  intro X hP hw hK hc i pins s σ H E I hf st hg;subst hP hw hK;obtain⟨f0,f1,f2,f3,f4,f5⟩:=hf it (by simp)
  exact wpAny_pyNext_range_end (I.ok.hd hc) st (by have:n<=i:=hg;nofun) λh' eb=>⟨rfl,I.turned (t':=s.toks) (λb o hb e=>eb b o hb e) f0 f1 f3 f4 f5⟩
 self:=λ_ _ _ _ _ st h=>wpAny_pyIter_rangeiter st h
section
variable {X:Cx}{tg:Expr}
def yV(K:W.Frag)(tl:TE):TI:=λσ H R=>tl σ H λx H1=>∃a,x=.ref a/\(∃xs,jq K H1 a xs)/\R (Lh K a) H1
def LP(K:W.Frag)(tl:TE):TI:=λσ H R=>tl σ H λx H1=>∃a,x=.ref a/\(∃xs,wD K H1 a xs)/\R (L8 K a) H1
theorem F6{l:Expr}{tl:TE}(hl:PE X l tl):PI X tg l (yV X.K tl):=by
 intro pins s σ H R I h;refine cD (hl pins s σ H _ I h) λv s1 ⟨x,H1,I1,r1,q1⟩=>?_;obtain⟨a,e,⟨xs,hq⟩,q⟩:=q1;subst e;cases r1;obtain⟨its,rv,p,hz⟩:=I1.list hq;refine wpAny_pyIter_list p.isList ?_;refine⟨s1.heap.objs.size,[s1.heap.objs.size],_,_,H1,rfl,I1.kept (t':=s1.toks) λb o e=>Heap.get?_push_of_some _ e,Am a _,⟨_,Heap.get?_push_size _ rfl,rfl,rfl⟩,λb hb=>?_,q⟩;have e:b=s1.heap.objs.size:=by simpa using hb
 subst e;exact I1.fpOk (Yi _) (I1.hok.fresh (Yi _))
theorem vZ{pins:List (Addr×Obj)}{σ:St}{H:Hp}{s:Shared}{R:It->Hp->Prop}{E:Value->Shared->Prop}{lo hi:Int}{t u v:Tok}{tk:Nat}(I:aJ X pins σ H s)(h1 : -(2^62)<=lo)(h2:lo<2^62)(h3 : -(2^62)<=hi)(h4:hi<2^62)
  (q:R (JM lo (hi-lo).toNat) H):wpAny (model X.prog X.w) X.A (pyIter (.ref s.heap.objs.size)) (LY X pins σ tg R) E { s with heap:=s.heap.push { cls:=.type "range",data:=.fields #[.int lo t,.int hi u,.int 1 v] },toks:=tk }:=by
 refine wpAny_pyIter_range (IsRange.new ..) (small_one h1 h2 h3 h4) ?_;have I1:aJ X pins σ H { s with heap:=s.heap.push { cls:=.type "range",data:=.fields #[.int lo t,.int hi u,.int 1 v] },toks:=tk }:=I.kept λb o e=>Heap.get?_push_of_some _ e
 refine⟨(s.heap.push { cls:=.type "range",data:=.fields #[.int lo t,.int hi u,.int 1 v] }).objs.size,[(s.heap.push { cls:=.type "range",data:=.fields #[.int lo t,.int hi u,.int 1 v] }).objs.size],_,_,H,rfl,
  I1.kept (t':=tk) λb o e=>Heap.get?_push_of_some _ e,xN _ lo (hi-lo).toNat,?_,λb hb=>?_,q⟩
 .have e1:lo+((0:Nat):Int)*1=lo:=by simp
  have e2:(((hi-lo).toNat:Nat):Int)-((0:Nat):Int)=Builtin.Range.rangeSize lo hi 1:=by rw[rangeSize_one];split<;>nofun
  show IsRangeIter _ _ (lo+((0:Nat):Int)*1) ((((hi-lo).toNat:Nat):Int)-((0:Nat):Int)) 1;rw[e1,e2];exact Heap.get?_push_size _ rfl
 .have e:b=(s.heap.push { cls:=.type "range",data:=.fields #[.int lo t,.int hi u,.int 1 v] }).objs.size:=by simpa using hb
  subst e;exact I1.fpOk (Yi _) (I1.hok.fresh (Yi _))
def xT(ta:TA):TI:=λσ H R=>ta σ H λvs H1=>∃j:Int,vs=[.int j] /\ -(2^62)<=j/\j<2^62/\R (JM 0 j.toNat) H1
def De(ta:TA):TI:=λσ H R=>ta σ H λvs H1=>∃i j:Int,vs=[.int i,.int j]/\(-(2^62)<=i/\i<2^62 /\ -(2^62)<=j/\j<2^62)/\R (JM i (j-i).toNat) H1
theorem Aq{a:Expr}{ta:TA}{p pos:Pos}(hg:Gl X "range") (hm:X.mg "range" = none) (ha:PA X [a] ta)(hs:starEach [a] X.env=[(false,eval a X.env)]:=by rfl):PI X tg (.Call (.Name "range" p) [a] [] pos) (xT ta):=by
 intro pins s σ H R I h;refine Call_ (jz I hg hm boot_range (Xc (cD (ha pos pins s σ H _ I h) λus s1 ⟨vs,H1,I1,r1,q1⟩=>?_) hs rfl));obtain⟨j,e,q1,q2,q⟩:=q1;subst e;cases r1 with
 | cons r rr =>
  cases rr;obtain⟨t,rfl⟩:=r;exact call_range_1 (vZ I1 () () q1 q2 (by simpa using q))
theorem At{a b:Expr}{ta:TA}{p pos:Pos}(hg:Gl X "range") (hm:X.mg "range" = none) (ha:PA X [a,b] ta)(hs:starEach [a,b] X.env=[(false,eval a X.env),(false,eval b X.env)]:=by rfl)(hs2:starEach [b] X.env=[(false,eval b X.env)]:=by rfl) :
  PI X tg (.Call (.Name "range" p) [a,b] [] pos) (De ta):=by
 intro pins s σ H R I h;refine Call_ (jz I hg hm boot_range (Xc (cD (ha pos pins s σ H _ I h) λus s1 ⟨vs,H1,I1,r1,q1⟩=>?_) (by rw[hs,hs2]) (by rw[hs2];rfl)))
 obtain⟨i,j,e,⟨q1,q2,q3,q4⟩,q⟩:=q1;subst e;cases r1 with
 | cons r rr =>
  cases rr with
  | cons r' rr =>
   cases rr;obtain⟨t,rfl⟩:=r;obtain⟨t',rfl⟩:=r';exact call_range_2 (vZ I1 q1 q2 q3 q4 q)
def Jk(wi:TI)(g:TG)(tb:TS):TS:=λD σ H=>wi σ H λJ H1=>∃W:Nat->Nat->St->Hp->Prop,(∃m,W 0 m σ H1) /\ ∀i m σ H,W i m σ H ->
 (J.stop i H/\D.nx σ H)\/(J.go i H /\ ∃N:St->Hp->Prop,(∀σ' H',N σ' H' -> ∃m',m'<m/\W (i+1) m' σ' H') /\ ∀x H',J.yld i H x H'->g x σ H' λσ2 H2=>tb { D with nx:=N,ct:=N,bk:=D.nx } σ2 H2)
def oM(fp:List Addr)(h:Heap):List (Addr×Obj):=fp.filterMap λb=>(h.get? b).map λo=>(b,o)
theorem ja{fp:List Addr}{h:Heap}{b:Addr}{o:Obj}(hb:b∈fp)(e:h.get? b=some o):(b,o)∈oM fp h:=List.mem_filterMap.mpr ⟨b,hb,by rw[e];rfl⟩
theorem zM{fp:List Addr}{h:Heap}{p:Addr×Obj}(hp:p∈oM fp h):p.1∈fp/\h.get? p.1=some p.2:=by
 obtain⟨b,hb,e⟩:=List.mem_filterMap.mp hp;cases q:h.get? b with
 | none=>rw[q] at e;cases e
 | some o =>
  rw[q] at e;have e':(b,o)=p:=YO e;subst e';exact⟨hb,q⟩
theorem aJ.pinned{pins:List (Addr×Obj)}{σ:St}{H:Hp}{s:Shared}{fp:List Addr}(I:aJ X pins σ H s)(hf:∀b∈fp,qK X pins H b)(ho:∀b∈fp,∃o,s.heap.get? b=some o /\ ∀v,o.data ≠ .cell v):aJ X (pins++oM fp s.heap) σ H s :=
 I.pins_of λp hp=>(List.mem_append.mp hp).elim (λz=>I.pin p (YL _ z)) λz=>by
  obtain⟨hb,e⟩:=zM z;obtain⟨f0,f1,f2,_⟩:=hf p.1 hb;obtain⟨o,e',d⟩:=ho p.1 hb;rw[e] at e';cases e';exact⟨e,f0,f1,f2,d⟩
theorem aJ.unpinned{pins pl:List (Addr×Obj)}{σ:St}{H:Hp}{s:Shared}(I:aJ X (pins++pl) σ H s):aJ X pins σ H s:=I.pins_of λp hp=>I.pin p (YL _ (XG _ hp))
theorem HY{iter:Expr}{body:List Stmt}{wi:TI}{g:TG}{tb:TS}{pos:Pos}(hp:PassesOwn (model X.prog X.w) X.A X.env X.xe)(hc:X.calm=true)(hi:PI X tg iter wi)(hg:PG X tg g)(hb:sC X body tb)
  (hs:∀x,foldedSetIterable iter X.env x=pure x:=by intro _;rfl):PS X (.For tg iter body [] pos) (Jk wi g tb):=by
 intro pins s σ H D I h;refine wpAny_For (cD (hi pins s σ H _ I h) λv s1 h1=>cD h1 λitv s2 h2=>?_) hs;obtain⟨it,fp,tn,J,H2,e,I2,T,st2,f2,W,⟨m0,w0⟩,turn⟩:=h2;subst e;have stat:∀{H':Hp},(∀b∈fp,H' b=none) -> ∀b∈fp,qK X pins H' b:=λhn b hb=>⟨hn b hb,(f2 b hb).2⟩;refine codeAny_forLoop_any (λn s'=>∃i σ' H',aJ X pins σ' H' s'/\tn i s'.heap/\(∀b∈fp,H' b=none)/\W i n σ' H') ?_ m0 ⟨0,σ,H2,I2,st2,λb hb=>(f2 b hb).1,w0⟩;rintro n s3 ⟨i,σ3,H3,I3,st3,fr3,w3⟩;rcases turn i n σ3 H3 w3 with ⟨stop,qn⟩|⟨go,N,hN,step⟩
 .refine wpAny_passesOwn hp (cD (T.done X rfl rfl rfl hc i pins s3 σ3 H3 X.xe I3 (stat fr3) st3 stop) λr s4 ⟨hr,I4⟩=>?_);subst hr;exact wpAny_execs_nil ⟨σ3,H3,I4,qn⟩
 .refine wpAny_passesOwn hp (cD (T.item X rfl rfl rfl hc i pins s3 σ3 H3 X.xe I3 (stat fr3) st3 go) λr s4 ⟨u,hr,h4⟩=>?_);subst hr;refine wpAny_passesOwn hp (cD h4 λ_ s5 ⟨x,H5,I5,r5,y5,st5,fr5⟩=>?_);have I5':=I5.pinned (stat fr5) (T.obj _ _ st5);refine wpAny_passesOwn hp (cD (hg _ s5 σ3 H5 x u _ I5' r5 (step x H5 y5)) λ_ s6 ⟨σ6,H6,I6,q6⟩=>?_);refine wpAny_passesOwn hp (cD (hb _ s6 σ6 H6 _ I6 q6) λf s7 q7=>?_);have again:∀{σ7:St}{H7:Hp},aJ X (pins++oM fp s5.heap) σ7 H7 s7->N σ7 H7 -> ∃m,m<n /\ ∃i σ' H',aJ X pins σ' H' s7/\tn i s7.heap/\(∀b∈fp,H' b=none)/\W i m σ' H':=λ{σ7 H7} I7 n7=>by
   obtain⟨m',hm,w7⟩:=hN σ7 H7 n7;refine⟨m',hm,i+1,σ7,H7,I7.unpinned,T.keep _ _ _ st5 λb hb o e=>(I7.pin (b,o) (YL _ (YL _ (ja hb e)))).1,λb hb=>?_,w7⟩;obtain⟨o,e,d⟩:=T.obj _ _ st5 b hb;exact (I7.pin (b,o) (YL _ (YL _ (ja hb e)))).2.1
  cases f with
  | next=>obtain⟨σ7,H7,I7,n7⟩:=q7;exact again I7 n7
  | cont=>obtain⟨σ7,H7,I7,n7⟩:=q7;exact again I7 n7
  | brk=>obtain⟨σ7,H7,I7,q7⟩:=q7;exact⟨σ7,H7,I7.unpinned,q7⟩
  | ret v=>obtain⟨x7,σ7,H7,I7,r7,q7⟩:=q7;exact⟨x7,σ7,H7,I7.unpinned,r7,q7⟩
end
abbrev R2:=V->V->Hp->VK->Prop
def fk(X:Cx)(f:Value->Value->Sem Value)(r:R2):Prop :=
 ∀(pins:List (Addr×Obj))(s:Shared)(σ:St)(H:Hp)(x y:V)(v u:Value)(Q:VK),aJ X pins σ H s->bH x v->bH y u->r x y H Q ->
  wpAny (model X.prog X.w) X.A (f v u) (EP X pins σ Q) X.xe s
def K8(X:Cx)(f:Value->Sem Value)(r:V->Hp->VK->Prop):Prop :=
 ∀(pins:List (Addr×Obj))(s:Shared)(σ:St)(H:Hp)(x:V)(v:Value)(Q:VK),aJ X pins σ H s->bH x v->r x H Q ->
  wpAny (model X.prog X.w) X.A (f v) (EP X pins σ Q) X.xe s
def dM(X:Cx)(f:Value)(r:List V->Hp->VK->Prop):Prop :=
 ∀(pins:List (Addr×Obj))(s:Shared)(σ:St)(H:Hp)(xs:List V)(us:List Value)(Q:VK),aJ X pins σ H s->aY xs us->r xs H Q ->
  wpAny (model X.prog X.w) X.A (call f us) (EP X pins σ Q) X.xe s
def LN(X:Cx)(r:V->Hp->(Bool->Hp->Prop)->Prop):Prop :=
 ∀(pins:List (Addr×Obj))(s:Shared)(σ:St)(H:Hp)(x:V)(v:Value)(Q:Bool->Hp->Prop),aJ X pins σ H s->bH x v->r x H Q ->
  wpAny (model X.prog X.w) X.A (truthy v) (TP X pins σ Q) X.xe s
def AD(r:R2)(ta tb:TE):TE:=λσ H Q=>ta σ H λx H1=>tb σ H1 λy H2=>r x y H2 Q
def La(r:V->Hp->VK->Prop)(ta:TE):TE:=λσ H Q=>ta σ H λx H1=>r x H1 Q
def rI(C:Int->Int->Prop)(g:Int->Int->V):R2:=λx y H Q=>∃i j,x=.int i/\y=.int j/\C i j/\Q (g i j) H
def yZ(g:Int->Int->V):R2:=λx y H Q=>∃i j,x=.int i/\y=.int j/\Q (g i j) H
def rU(g:Int->V):V->Hp->VK->Prop:=λx H Q=>∃i,x=.int i/\Q (g i) H
section
variable {X:Cx}{a b c:Expr}{ta tb tc:TE}{pos:Pos}
theorem GP(ha:PE X a ta)(hb:PE X b tb) {pins:List (Addr×Obj)}{s:Shared}{σ:St}{H:Hp}{R:V->V->Hp->Prop}(I:aJ X pins σ H s)
  (h:ta σ H λx H1=>tb σ H1 λy H2=>R x y H2) {Q:Value->Shared->Prop}{f:Value->Value->Sem Value}
  (hf:∀v u s2 x y H2,aJ X pins σ H2 s2->bH x v->bH y u->R x y H2->wpAny (model X.prog X.w) X.A (f v u) Q X.xe s2) :
  wpAny (model X.prog X.w) X.A (eval a X.env) (λv s₁=>wpAny (model X.prog X.w) X.A (eval b X.env) (λu s₂=>wpAny (model X.prog X.w) X.A (f v u) Q X.xe s₂) X.xe s₁) X.xe s:=by
 refine cD (ha pins s σ H _ I h) λv s1 ⟨x,H1,I1,r1,q1⟩=>?_;refine cD (hb pins s1 σ H1 _ I1 q1) λu s2 ⟨y,H2,I2,r2,q2⟩=>?_;exact hf v u s2 x y H2 I2 r1 r2 q2
theorem KJ{op:Operator}{r:R2}(ho:fk X (binaryOp op) r)(ha:PE X a ta)(hb:PE X b tb):PE X (.BinOp a op b pos) (AD r ta tb):=by
 intro pins s σ H Q I h;exact wpAny_BinOp (GP ha hb I h λv u s2 x y H2 I2 rx ry q=>ho pins s2 σ H2 x y v u Q I2 rx ry q)
theorem Kc{op:UnaryOp}{r:V->Hp->VK->Prop}(ho:K8 X (unaryOp op) r)(ha:PE X a ta):PE X (.UnaryOp op a pos) (La r ta):=by
 intro pins s σ H Q I h;exact UnaryOp_ (cD (ha pins s σ H _ I h) λv s1 ⟨x,H1,I1,r1,q1⟩=>ho pins s1 σ H1 x v Q I1 r1 q1)
theorem JK{f:Value->Value->Sem Value}{C:Int->Int->Prop}{g:Int->Int->Int}
  (rule:∀(i j:Int)(t u:Tok)(s:Shared)(Q:Value->Shared->Prop)(E:Value->Shared->Prop),C i j->Q (.int (g i j) s.toks) { s with toks:=s.toks+1 } -> wpAny (model X.prog X.w) X.A (f (.int i t) (.int j u)) Q E s) :
  fk X f (rI C λi j=>.int (g i j)):=by
 intro pins s σ H x y v u Q I rx ry h;obtain⟨i,j,rfl,rfl,hc,q⟩:=h;obtain⟨t,rfl⟩:=rx;obtain⟨t',rfl⟩:=ry;exact rule i j t t' s _ _ hc ⟨.int (g i j),H,I.tok _,⟨_,rfl⟩,q⟩
theorem Kv{f:Value->Value->Sem Value}{g:Int->Int->Int}
  (rule:∀(i j:Int)(t u:Tok)(s:Shared)(Q:Value->Shared->Prop)(E:Value->Shared->Prop),Q (.int (g i j) s.toks) { s with toks:=s.toks+1 } -> wpAny (model X.prog X.w) X.A (f (.int i t) (.int j u)) Q E s) :
  fk X f (yZ λi j=>.int (g i j)):=by
 intro pins s σ H x y v u Q I rx ry h;obtain⟨i,j,rfl,rfl,q⟩:=h;obtain⟨t,rfl⟩:=rx;obtain⟨t',rfl⟩:=ry;exact rule i j t t' s _ _ ⟨.int (g i j),H,I.tok _,⟨_,rfl⟩,q⟩
theorem Er{f:Value->Value->Sem Value}{g:Int->Int->Bool}
  (rule:∀(i j:Int)(t u:Tok)(s:Shared)(Q:Value->Shared->Prop)(E:Value->Shared->Prop),Q (.bool (g i j)) s->wpAny (model X.prog X.w) X.A (f (.int i t) (.int j u)) Q E s) :
  fk X f (yZ λi j=>.bl (g i j)):=by
 intro pins s σ H x y v u Q I rx ry h;obtain⟨i,j,rfl,rfl,q⟩:=h;obtain⟨t,rfl⟩:=rx;obtain⟨t',rfl⟩:=ry;exact rule i j t t' s _ _ ⟨.bl (g i j),H,I,rfl,q⟩
def K4(i j:Int):Prop:=0<=j/\j<=1000000/\i.natAbs<2^64
theorem GQ:fk X (binaryOp .Add) (yZ λi j=>.int (i+j)):=Kv λ_ _ _ _ _ _ _ q=>add_int q
theorem cj:fk X (binaryOp .Sub) (yZ λi j=>.int (i-j)):=Kv λ_ _ _ _ _ _ _ q=>sub_int q
theorem FD:fk X (binaryOp .Mod) (rI (λ_ j=>j≠0) λi j=>.int (i.fmod j)):=JK λ_ _ _ _ _ _ _ hc q=>mod_int' hc q
theorem w6:fk X (binaryOp .Pow) (rI K4 λi j=>.int (i^j.toNat)):=JK λ_ _ _ _ _ _ _ hc q=>pow_int_small hc.1 hc.2.1 hc.2.2 q
theorem L7{f:Value->Sem Value}{g:Int->Int}
  (rule:∀(i:Int)(t:Tok)(s:Shared)(Q:Value->Shared->Prop)(E:Value->Shared->Prop),Q (.int (g i) s.toks) { s with toks:=s.toks+1 } -> wpAny (model X.prog X.w) X.A (f (.int i t)) Q E s) :
  K8 X f (rU λi=>.int (g i)):=by
 intro pins s σ H x v Q I rx h;obtain⟨i,rfl,q⟩:=h;obtain⟨t,rfl⟩:=rx;exact rule i t s _ _ ⟨.int (g i),H,I.tok _,⟨_,rfl⟩,q⟩
theorem cT:K8 X (unaryOp .USub) (rU λi=>.int (-i)):=L7 λ_ _ _ _ _ q=>neg_int q
end
def An:V->V->Bool
 | .non,.non=>true | .non,.int _=>true | .int _,.non=>true | .non,.bl _=>true | .bl _,.non=>true | .non,.str _=>true | .str _,.non=>true
 | .int _,.int _=>true | .bl _,.bl _=>true | .str _,.str _=>true | .byt _,.byt _=>true
 | .int _,.str _=>true | .str _,.int _=>true | .bl _,.str _=>true | .str _,.bl _=>true
 | _,_=>false
def JP:R2:=λx y H Q=>An x y=true/\Q (.bl (decide (x=y))) H
def JH:R2:=λx y H Q=>An x y=true/\Q (.bl (!decide (x=y))) H
theorem yT{i j:Int}:decide (V.int i=V.int j)=(i==j):=by
 rw[XU];simp
theorem Dw{i j:Bool}:decide (V.bl i=V.bl j)=(i==j):=by
 rw[XU];simp
theorem yu{i j:Str}:decide (V.str i=V.str j)=(i==j):=by
 rw[XU];simp
theorem zf{i j:Array UInt8}:decide (V.byt i=V.byt j)=(i.toList==j.toList):=by
 rw[XU];cases i;cases j;simp
section
variable {X:Cx}{a b c:Expr}{ta tb tc:TE}{pos:Pos}
theorem bJ{pins:List (Addr×Obj)}{σ:St}{H:Hp}{s:Shared}{Q:VK}{k k':Bool}(I:aJ X pins σ H s)(q:Q (.bl k) H)(e:k=k'):EP X pins σ Q (.bool k') s:=by
 subst e;exact⟨.bl k,H,I,rfl,q⟩
theorem gF:fk X (compareOp .Eq) JP:=by
 intro pins s σ H x y v u Q I rx ry h;obtain⟨hs,q⟩:=h;cases x with
 | non =>
  cases rx;cases y with
  | non=>cases ry;exact PySem.EqNone.eq_none_none (bJ I q (by simp))
  | bl j=>cases ry;exact PySem.EqNone.eq_none_bool (bJ I q (by simp))
  | int j=>obtain⟨t',rfl⟩:=ry;exact PySem.EqNone.eq_none_int (bJ I q (by simp))
  | str j=>obtain⟨t',rfl⟩:=ry;exact PySem.EqNone.eq_none_str (bJ I q (by simp))
  | _=>exact absurd (show false=true from hs) YI
 | bl i =>
  cases rx;cases y with
  | non=>cases ry;exact PySem.EqNone.eq_bool_none (bJ I q (by simp))
  | bl j=>cases ry;exact eq_bool (bJ I q Dw)
  | str j=>obtain⟨t',rfl⟩:=ry;exact PySem.EqMixed.eq_bool_str (bJ I q (by simp))
  | _=>exact absurd (show false=true from hs) YI
 | int i =>
  obtain⟨t,rfl⟩:=rx;cases y with
  | non=>cases ry;exact PySem.EqNone.eq_int_none (bJ I q (by simp))
  | int j=>obtain⟨t',rfl⟩:=ry;exact eq_int (bJ I q yT)
  | str j=>obtain⟨t',rfl⟩:=ry;exact PySem.EqMixed.eq_int_str (bJ I q (by simp))
  | _=>exact absurd (show false=true from hs) YI
 | str i =>
  obtain⟨t,rfl⟩:=rx;cases y with
  | non=>cases ry;exact PySem.EqNone.eq_str_none (bJ I q (by simp))
  | bl j=>cases ry;exact PySem.EqMixed.eq_str_bool (bJ I q (by simp))
  | int j=>obtain⟨t',rfl⟩:=ry;exact PySem.EqMixed.eq_str_int (bJ I q (by simp))
  | str j=>obtain⟨t',rfl⟩:=ry;exact eq_str (bJ I q yu)
  | _=>exact absurd (show false=true from hs) YI
 | byt i =>
  obtain⟨t,rfl⟩:=rx;cases y with
  | byt j=>obtain⟨t',rfl⟩:=ry;exact PySem.W.eq_bytes (bJ I q zf)
  | _=>exact absurd (show false=true from hs) YI
 | _=>cases y<;>exact absurd (show false=true from hs) YI
theorem ie:fk X (compareOp .NotEq) JH:=by
 intro pins s σ H x y v u Q I rx ry h;obtain⟨hs,q⟩:=h;cases x with
 | non =>
  cases rx;cases y with
  | non=>cases ry;exact PySem.EqNone.ne_none_none (bJ I q (by simp))
  | bl j=>cases ry;exact PySem.EqNone.ne_none_bool (bJ I q (by simp))
  | int j=>obtain⟨t',rfl⟩:=ry;exact PySem.EqNone.ne_none_int (bJ I q (by simp))
  | str j=>obtain⟨t',rfl⟩:=ry;exact PySem.EqNone.ne_none_str (bJ I q (by simp))
  | _=>exact absurd (show false=true from hs) YI
 | bl i =>
  cases rx;cases y with
  | non=>cases ry;exact PySem.EqNone.ne_bool_none (bJ I q (by simp))
  | bl j=>cases ry;exact ne_bool (bJ I q (Xb not Dw))
  | str j=>obtain⟨t',rfl⟩:=ry;exact PySem.EqMixed.ne_bool_str (bJ I q (by simp))
  | _=>exact absurd (show false=true from hs) YI
 | int i =>
  obtain⟨t,rfl⟩:=rx;cases y with
  | non=>cases ry;exact PySem.EqNone.ne_int_none (bJ I q (by simp))
  | int j=>obtain⟨t',rfl⟩:=ry;exact ne_int (bJ I q (Xb not yT))
  | str j=>obtain⟨t',rfl⟩:=ry;exact PySem.EqMixed.ne_int_str (bJ I q (by simp))
  | _=>exact absurd (show false=true from hs) YI
 | str i =>
  obtain⟨t,rfl⟩:=rx;cases y with
  | non=>cases ry;exact PySem.EqNone.ne_str_none (bJ I q (by simp))
  | bl j=>cases ry;exact PySem.EqMixed.ne_str_bool (bJ I q (by simp))
  | int j=>obtain⟨t',rfl⟩:=ry;exact PySem.EqMixed.ne_str_int (bJ I q (by simp))
  | str j=>obtain⟨t',rfl⟩:=ry;exact ne_str (bJ I q (Xb not yu))
  | _=>exact absurd (show false=true from hs) YI
 | byt i =>
  obtain⟨t,rfl⟩:=rx;cases y with
  | byt j=>obtain⟨t',rfl⟩:=ry;exact PySem.W.ne_bytes (bJ I q (Xb not zf))
  | _=>exact absurd (show false=true from hs) YI
 | _=>cases y<;>exact absurd (show false=true from hs) YI
theorem qP:fk X (compareOp .Lt) (yZ λi j=>.bl (decide (i<j))):=Er λ_ _ _ _ _ _ _ q=>lt_int q
theorem KG:fk X (compareOp .LtE) (yZ λi j=>.bl (decide (i<=j))):=Er λ_ _ _ _ _ _ _ q=>le_int q
theorem kr:fk X (compareOp .Gt) (yZ λi j=>.bl (decide (j<i))):=Er λ_ _ _ _ _ _ _ q=>gt_int q
theorem KC:fk X (compareOp .GtE) (yZ λi j=>.bl (decide (j<=i))):=Er λ_ _ _ _ _ _ _ q=>ge_int q
theorem uj:fk X (compareOp .Is) (λx y H Q=>y=.non/\Q (.bl (decide (x=.non))) H):=by
 intro pins s σ H x y v u Q I rx ry h;obtain⟨rfl,q⟩:=h;cases ry;refine is_none_gen (bJ I q ?_);cases x<;>first
  | (cases rx;rfl)
  | (obtain⟨t,rfl⟩:=rx;rfl)
theorem fk.or{f:Value->Value->Sem Value}{r r':R2}(h:fk X f r)(h':fk X f r'):fk X f (λx y H Q=>r x y H Q\/r' x y H Q):=by
 intro pins s σ H x y v u Q I rx ry q;rcases q with q|q
 .exact h pins s σ H x y v u Q I rx ry q
 .exact h' pins s σ H x y v u Q I rx ry q
theorem aK(b:Expr){op:CmpOp}(h:op ≠ .In:=by decide)(h2:op ≠ .NotIn:=by decide):behindInMarks op b=false:=by
 have e1:(op==CmpOp.In)=false:=by cases op<;>first|rfl|exact absurd rfl h
 have e2:(op==CmpOp.NotIn)=false:=by cases op<;>first|rfl|exact absurd rfl h2
 cases b<;>simp[behindInMarks,e1,e2]
theorem E4{op:CmpOp}{r:R2}(ho:fk X (compareOp op) r)(ha:PE X a ta)(hb:PE X b tb)(hm:behindInMarks op b=false):PE X (.Compare a [op] [b] pos) (AD r ta tb):=by
 intro pins s σ H Q I h;exact wpAny_Compare1 (GP ha hb I h λv u s2 x y H2 I2 rx ry q=>ho pins s2 σ H2 x y v u Q I2 rx ry q) hm
def zd(t:TE):TT:=λσ H Q=>t σ H λx H'=>∃k,x=.bl k/\Q k H'
theorem El{op:CmpOp}{r:R2}(ho:fk X (compareOp op) r)(ha:PE X a ta)(hb:PE X b tb)(hm:behindInMarks op b=false):PT X (.Compare a [op] [b] pos) (zd (AD r ta tb)):=by
 intro pins s σ H Q I h;refine wpAny_isTrue_Compare1 (cD (ha pins s σ H _ I h) λv s1 ⟨x,H1,I1,r1,q1⟩=>cD (hb pins s1 σ H1 _ I1 q1) λu s2 ⟨y,H2,I2,r2,q2⟩ =>
  cD (ho pins s2 σ H2 x y v u _ I2 r1 r2 q2) λc s3 ⟨z,H3,I3,r3,k,e,q3⟩=>?_) hm
 subst e;cases r3;exact wpAny_truthy_bool ⟨H3,I3,q3⟩
def w8(K:W.Frag)(x:V)(H:Hp)(k:Bool):Prop :=
 match x with
 | .non=>k=false
 | .bl b=>k=b
 | .int i=>k=(i != 0)
 | .str y=>y.length<=sizeLine/\k=((y.length:Int) != 0)
 | .byt y=>y.size<=sizeLine/\k=((y.size:Int) != 0)
 | .ref p=>(∃xs,jq K H p xs/\k = !xs.isEmpty)\/(∃xs,wD K H p xs/\k = !xs.isEmpty) \/ ∃kvs,H p=some (.dK kvs)/\k = !kvs.isEmpty
 | _=>False
theorem xi{κ:Type}{kvs:List (κ×V)}{vs:List (κ×Value)}(r:KV kvs vs):(!vs.isEmpty) = !kvs.isEmpty:=by
 cases r<;>rfl
theorem qi{xs:List V}{its:List Value}(r:aY xs its):(!its.toArray.isEmpty) = !xs.isEmpty:=by
 cases r<;>simp
theorem mJ:(sizeLine:Nat)<2^63:=by rw[sizeLine_eq];decide
theorem Hs:LN X (λx H Q=>∃k,w8 X.K x H k/\Q k H):=by
 intro pins s σ H x v Q I rx h;obtain⟨k,e,q⟩:=h;have hl:=mJ;have hs:sizeLine=16777216:=sizeLine_eq;cases x with
 | non =>
  cases rx;have e':k=false:=e;subst e';exact truthy_none ⟨H,I,q⟩
 | bl b =>
  cases rx;have e':k=b:=e;subst e';exact wpAny_truthy_bool ⟨H,I,q⟩
 | int i =>
  obtain⟨t,rfl⟩:=rx;have e':k=(i != 0):=e;subst e';exact PySem.P.truthy_int ⟨H,I,q⟩
 | str y =>
  obtain⟨t,rfl⟩:=rx;obtain⟨hy,e'⟩ : y.length<=sizeLine/\k=((y.length:Int) != 0):=e;subst e';exact PySem.P.truthy_str () ⟨H,I.tok _,q⟩
 | byt y =>
  obtain⟨t,rfl⟩:=rx;obtain⟨hy,e'⟩ : y.size<=sizeLine/\k=((y.size:Int) != 0):=e;subst e';exact PySem.W.truthy_bytes () ⟨H,I.tok _,q⟩
 | ref p =>
  cases rx;have e':(∃xs,jq X.K H p xs/\k = !xs.isEmpty)\/(∃xs,wD X.K H p xs/\k = !xs.isEmpty) \/ ∃kvs,H p=some (.dK kvs)/\k = !kvs.isEmpty:=e;rcases e' with ⟨xs,hx,e'⟩|⟨xs,hx,e'⟩|⟨kvs,hx,e'⟩
  .subst e';obtain⟨its,r,pl,hz⟩:=I.list hx;have hlen:=r.length;exact wpAny_truthy_list pl.isList (by simp only[Yn];nofun) ⟨H,I.tok _,by rw[qi r];exact q⟩
  .subst e';obtain⟨its,r,pl,hz⟩:=I.tuple hx;have hlen:=r.length;exact truthy_tuple pl (by simp only[Yn];nofun) ⟨H,I.tok _,by rw[qi r];exact q⟩
  .subst e';obtain⟨hz,hS,vs,r,m⟩ : kvs.length<=sizeLine/\(p==sysModules)=false /\ ∃vs,KV kvs vs/\s.heap.DictOf (de X.prog X.w) p vs:=I.hok p _ hx;have hlen:kvs.length=vs.length:=Paired.length r;exact wpAny_truthy_dict hS m () ⟨H,I.tok _,by rw[xi r];exact q⟩
 | _=>exact (show False from e).elim
theorem Co(ha:PE X a ta)(he:∀whole,isTrue a X.env whole=(do let v <-whole;standAt a.pos;holding [v] (truthy v))) :
  PT X a (λσ H Q=>ta σ H λx H'=>∃k,w8 X.K x H' k/\Q k H'):=by
 intro pins s σ H Q I h;exact isTrue_plain (cD (ha pins s σ H _ I h) λv s1 ⟨x,H1,I1,r1,q1⟩=>Hs pins s1 σ H1 x v Q I1 r1 q1) (he _)
theorem yi{x:V}{us:List Value}(r:aY [x] us):∃u,us=[u]/\bH x u:=by
 cases r with
 | cons r1 r2=>cases r2;exact⟨_,rfl,r1⟩
theorem yp{x y:V}{us:List Value}(r:aY [x,y] us):∃u w',us=[u,w']/\bH x u/\bH y w':=by
 cases r with
 | cons r1 r2 =>
  cases r2 with
  | cons r3 r4=>cases r4;exact⟨_,_,rfl,r1,r3⟩
theorem me:dM X (.builtin "abs") (λxs H Q=>∃i,xs=[.int i]/\Q (.int (if i<0 then -i else i)) H):=by
 intro pins s σ H xs us Q I r h;obtain⟨i,rfl,q⟩:=h;obtain⟨u,rfl,t,rfl⟩:=yi r;exact call_abs_int λu tk=>⟨.int (if i<0 then -i else i),H,I.tok _,⟨_,rfl⟩,q⟩
theorem mO(hc:X.calm=true):dM X (.builtin "max") (λxs H Q=>∃i j,xs=[.int i,.int j]/\Q (.int (if j > i then j else i)) H):=by
 intro pins s σ H xs us Q I r h;obtain⟨i,j,rfl,q⟩:=h;obtain⟨u,w',rfl,⟨t,rfl⟩,⟨t',rfl⟩⟩:=yp r;refine max_two_ints (I.ok.hd hc) λh' tk k=>⟨_,H,I.kept k,?_,q⟩;by_cases hj:j > i
 .rw[Yh hj,Yh hj];exact⟨_,rfl⟩
 .rw[Yc hj,Yc hj];exact⟨_,rfl⟩
theorem rJ(hc:X.calm=true):dM X (.builtin "min") (λxs H Q=>∃i j,xs=[.int i,.int j]/\Q (.int (if j<i then j else i)) H):=by
 intro pins s σ H xs us Q I r h;obtain⟨i,j,rfl,q⟩:=h;obtain⟨u,w',rfl,⟨t,rfl⟩,⟨t',rfl⟩⟩:=yp r;refine min_two_ints (I.ok.hd hc) λh' tk k=>⟨_,H,I.kept k,?_,q⟩;by_cases hj:j<i
 .rw[Yh hj,Yh hj];exact⟨_,rfl⟩
 .rw[Yc hj,Yc hj];exact⟨_,rfl⟩
end
structure HR (h:Heap)(x dx C:Addr)(mA:Str->Option Value):Prop where
 obj:h.get? x=some (PySem.W.instObj C dx)
 ns:h.Ns1 dx mA
 ne:dx≠x
theorem zN{h:Heap}{dx:Addr}{mA:Str->Option Value}(n:h.Ns1 dx mA):∃od,h.get? dx=some od /\ ∀name,PySem.W.lookIn name od=some (mA name):=by
 obtain⟨o,es,ep,ho,hd,hk,_,hm⟩:=n;refine⟨o,ho,λname=>?_⟩;have e:=hm name;unfold nsFind findBy at e;rw[<-Array.find?_toList] at e;unfold PySem.W.lookIn;rw[hd];dsimp only;split
 .rename_i y q
  rw[q] at e;exact Xb some e
 .rename_i q
  rw[q] at e;have a:es.toList.any (·.refKey)=false:=by
   rw[List.any_eq_false];intro y hy;obtain⟨z,t,hkey⟩:=hk y (Array.mem_toList_iff.mp hy);simp[DictEntry.refKey,hkey]
  have a':¬ es.toList.any (·.refKey)=true:=by rw[a];exact YI
  rw[Yc a'];exact Xb some e
theorem HR.look{h:Heap}{x dx C:Addr}{mA:Str->Option Value}(I:HR h x dx C mA):∃od,PySem.W.InstAt h x (PySem.W.instObj C dx) C (some od) /\ ∀name,PySem.W.lookIn name od=some (mA name) :=
 let ⟨od,ho,hl⟩:=zN I.ns
 ⟨od,⟨I.obj,rfl,rfl,ho⟩,hl⟩
theorem ud.some_of{v:V}{o:Option Value}(r:ud (some v) o):∃u,o=some u/\bH v u:=by
 cases o with
 | none=>exact (show False from r).elim
 | some u=>exact⟨u,rfl,r⟩
section
variable {P:Program}{w:World}{H H':Hp}{h h':Heap}{a C dx:Addr}{fs fs':List (Str×V)}
theorem Fm(hok:jY P w H h)(e:H a=some (.ins C dx fs)):∃mA,HR h a dx C mA/\(∀f,ud (fs.lookup f) (mA f))/\PySem.Within mA (fs.map (·.1))/\fs.length<=1000/\H dx=some (.own a):=by
 obtain⟨d,z,ne,ob,mA,n,r,q⟩:=(show cA P w H h a (.ins C dx fs) from hok a _ e)
 exact⟨mA,⟨ob,n,ne⟩,r,q,z,d⟩
end
structure LR (K:W.Frag)(C:Addr):Prop where
 pg:PySem.W.plainGet K C Str.empty=true
 hd:PySem.W.hasDictIn K C=true
 po:PySem.W.plainOver K C=true
 sa:PySem.W.findIn K (.ref C) "__setattr__" = some (some (.builtin "object.__setattr__"))
theorem LR.get{K:W.Frag}{C:Addr}(c:LR K C)(f:Str):PySem.W.plainGet K C f=true:=c.pg
section
variable {X:Cx}{pins:List (Addr×Obj)}{σ:St}{H:Hp}{s:Shared}{A:Around}{E:Value->Shared->Prop}{Q:Value->Shared->Prop}{c:Value}{b:Bool}
inductive nY (K:W.Frag)(H:Hp):V->Value->Prop where
 | non:nY K H .non (.type "NoneType")
 | bl (x:Bool):nY K H (.bl x) (.type "bool")
 | int (i:Int):nY K H (.int i) (.type "int")
 | str (x:Str):nY K H (.str x) (.type "str")
 | flt (x:UInt64):nY K H (.flt x) (.type "float")
 | lst {a:Addr}{xs:List V}(e:H a=some (.lst xs)):nY K H (.ref a) (.type "list")
 | frz {a:Addr}{o:Obj}{xs:List V}(e:H a=some (.frz o (.lst xs))):nY K H (.ref a) (.type "list")
 | tup {a:Addr}{xs:List V}(e:H a=some (.tup xs)):nY K H (.ref a) (.type "tuple")
 | dK {a:Addr}{kvs:List (gU×V)}(e:H a=some (.dK kvs)):nY K H (.ref a) (.type "dict")
 | dT {a:Addr}{kvs:List (List gU×V)}(e:H a=some (.dT kvs)):nY K H (.ref a) (.type "dict")
 | ins {a C dx:Addr}{fs:List (Str×V)}(e:H a=some (.ins C dx fs))(cl:LR K C)(ha:PySem.W.findIn K (.ref C) "__class__" = some (some (.builtin "object.__class__")))
   (hn:PySem.W.specialIn K (.builtin "object.__class__") "__get__" = some (some (.builtin "getset_descriptor.__get__"))) (htk:PySem.W.takesIn K (.builtin "object.__class__")=some true)
   (hm:PySem.W.mroIn K C (.type "object")=some true):nY K H (.ref a) (.ref C)
theorem fw{x:V}{u t:Value}(I:aJ X pins σ H s)(rx:bH x u)(ty:nY X.K H x t)(e:PySem.W.kitOne X.K t c=some b)(h:∀tk,Q (.bool b) { s with toks:=tk }) :
  wpAny (model X.prog X.w) A (call (.builtin "isinstance") [u,c]) Q E s:=by
 cases ty with
 | non=>cases (show u=Value.none from rx);exact Y3 PySem.W.kitx_none I.kIn True.intro e (λz=>nomatch z) h
 | bl y=>cases (show u=Value.bool y from rx);exact Y3 PySem.W.kitx_bool I.kIn True.intro e (λz=>nomatch z) h
 | int i=>obtain⟨t,q⟩:=(show ∃t,u=Value.int i t from rx);cases q;exact Y3 PySem.W.kitx_int I.kIn True.intro e (λz=>nomatch z) h
 | str y=>obtain⟨t,q⟩:=(show ∃t,u=Value.str y t from rx);cases q;exact Y3 PySem.W.kitx_str I.kIn True.intro e (λz=>nomatch z) h
 | flt y=>obtain⟨t,q⟩:=(show ∃t,u=Value.float y t from rx);cases q;exact Y3 PySem.W.kitx_float I.kIn True.intro e (λz=>nomatch z) h
 | @lst a xs ea =>
  cases (show u=Value.ref a from rx)
  obtain⟨_,_,n,_,h1⟩:=(show cA X.prog X.w H s.heap a (.lst xs) from I.hok a _ ea)
  exact Y3 PySem.W.kitx_list I.kIn ⟨_,h1,rfl⟩ e (λz=>nomatch z) h
 | @frz a ob xs ea =>
  cases (show u=Value.ref a from rx)
  obtain⟨_,_,_,n,_,h1⟩:=(show cA X.prog X.w H s.heap a (.frz ob (.lst xs)) from I.hok a _ ea)
  exact Y3 PySem.W.kitx_list I.kIn ⟨_,h1,rfl⟩ e (λz=>nomatch z) h
 | @tup a xs ea =>
  cases (show u=Value.ref a from rx)
  obtain⟨_,_,_,p⟩:=(show cA X.prog X.w H s.heap a (.tup xs) from I.hok a _ ea)
  obtain⟨o,h1,h2,_⟩:=p;exact Y3 PySem.W.kitx_tuple I.kIn ⟨o,h1,h2⟩ e (λz=>nomatch z) h
 | @dK a kvs ea =>
  cases (show u=Value.ref a from rx)
  obtain⟨_,_,vs,_,p⟩:=(show cA X.prog X.w H s.heap a (.dK kvs) from I.hok a _ ea)
  obtain⟨o,es,ep,h1,h2,_⟩:=p;exact Y3 PySem.W.kitx_dict I.kIn ⟨o,h1,h2.1⟩ e (λz=>nomatch z) h
 | @dT a kvs ea =>
  cases (show u=Value.ref a from rx)
  obtain⟨_,_,xs,_,o,es,ep,h1,h2,_⟩:=(show cA X.prog X.w H s.heap a (.dT kvs) from I.hok a _ ea)
  exact Y3 PySem.W.kitx_dict I.kIn ⟨o,h1,h2.1⟩ e (λz=>nomatch z) h
 | @ins a C dx fs ea cl ha hn htk hm =>
  cases (show u=Value.ref a from rx)
  obtain⟨mA,O,_⟩:=Fm I.hok ea;obtain⟨od,J,_⟩:=O.look;exact Y3 (PySem.W.kitx_own (cl.get _) cl.hd ha hn htk hm) I.kIn J e (λz=>nomatch z) h
end
structure cN (k:Nat)(A:Around):Prop where
 hd:A.handled=none
 dp:A.depth+3*k+105<recursionLimit
 un:A.units+16*k+200<cLine
theorem cN.mono{j k:Nat}{A:Around}(r:cN k A)(h:j<=k):cN j A:=⟨r.hd,by have:=r.dp;nofun,by have:=r.un;nofun⟩
theorem cN.deeper{k:Nat}{A:Around}(r:cN (k+1) A)(env:Env):cN k (A.deeper env) :=
 ⟨r.hd,by have:=r.dp;show A.depth+1+3*k+105<_;nofun,by have:=r.un;show A.units+3+16*k+200<_;nofun⟩
theorem cN.depth{k:Nat}{A:Around}(r:cN k A):A.depth<recursionLimit:=by have:=r.dp;nofun
def uL:TA:=λ_ H Q=>Q [] H
def jH(ta:TE)(tr:TA):TA:=λσ H Q=>ta σ H λx H1=>tr σ H1 λxs H2=>Q (x::xs) H2
section
variable {X:Cx}{e:Expr}{es:List Expr}{te:TE}{t:TA}{pos:Pos}
theorem Jm:PA X [] uL:=λ_ _ _ _ H Q I h=>Calls.spliced_nil ⟨[],H,I,.nil,h⟩
theorem D2(ha:PE X e te)(hr:PA X es t)(hs:starEach (e::es) X.env=(false,eval e X.env)::starEach es X.env:=by rfl):PA X (e::es) (jH te t):=by
 intro pos pins s σ H Q I h;rw[hs];show wpAny _ _ (spliced ((false,eval e X.env)::backTo pos (starEach es X.env))) _ _ s;refine Calls.spliced_cons (cD (ha pins s σ H _ I h) λu s1 ⟨x,H1,I1,r1,q1⟩=>?_);exact cD (hr pos pins s1 σ H1 _ I1 q1) λus s2 ⟨xs,H2,I2,r2,q2⟩=>⟨x::xs,H2,I2,.cons r1 r2,q2⟩
end
abbrev Sp:=List V->Hp->VK->XK->Prop
abbrev wK:=List Env->Hp->Shared->XK->Value->Shared->Prop
structure qE (P:Program)(w:World)(K:W.Frag)(mg:Str->Option Value)(base:Heap)(A:Around)(outer:List Env)(s:Shared)(H:Hp):Prop where
 frames:A.frames=some outer
 mod:Mod K mg base
 bs:∀b o,base.get? b=some o->s.heap.get? b=some o/\H b=none
 bsz:base.objs.size<=s.heap.objs.size
 funs:s.heap.FunFrames base outer
 frf:∀b∈iJ outer,H b=none
 hok:jY P w H s.heap
 bare:AllBare s.gens
def CE(outer:List Env)(P:Program)(w:World)(H:Hp)(s:Shared)(Q:VK)(u:Value)(s':Shared):Prop :=
 ∃v H',s'.os=s.os/\AllBare s'.gens/\Un (iJ outer) [] H H' s.heap s'.heap/\jY P w H' s'.heap/\bH v u/\Q v H'
def CR(CX:wK)(outer:List Env)(P:Program)(w:World)(H:Hp)(s:Shared)(Q:VK)(E:XK)(r:Result)(s':Shared):Prop :=
 match r with
 | .ok (.ret u)=>CE outer P w H s Q u s'
 | .ok _=>False
 | .error e=>CX outer H s E e s'
structure a9 (P:Program)(w:World)(K:W.Frag)(mg:Str->Option Value)(base:Heap)(CX:wK)(k:Nat)(f:Addr)(fd:FuncData)(ps:List Str)(sp:Sp):Prop where
 len:∀vs H Q E,sp vs H Q E->vs.length=ps.length
 run:∀(A:Around)(outer:List Env)(s:Shared)(H:Hp)(args:Args)(us:List Value)(vs:List V)(Q:VK)(E:XK),cN k A->qE P w K mg base A outer s H->BindsTo s fd args (ps.zip us)->aY vs us->sp vs H Q E ->
  codeAny (model P w) A (.call (.ref f) args) (CR CX outer P w H s Q E) s
section
variable {X:Cx}{pins:List (Addr×Obj)}{σ:St}{H:Hp}{s s':Shared}
theorem aJ.env0(I:aJ X pins σ H s):qE X.prog X.w X.K X.mg X.base X.A X.stack s H :=
 ⟨I.ok.frames,I.ok.mod,I.bs,Yz I.ok.bsz I.sz,I.stack,I.stkFree,I.hok,I.bare⟩
theorem aJ.after{Q:VK}{u:Value}(I:aJ X pins σ H s)(h:CE X.stack X.prog X.w H s Q u s'):EP X pins σ Q u s':=by
 obtain⟨v,H',os,bare,un,hok,r,q⟩:=h;obtain⟨hh,g,d,t,os'⟩:=s';obtain rfl:os'=s.os:=os;exact⟨v,H',I.call (h':=hh) (g':=g) (d':=d) (t':=t) (ch:=[]) un hok bare (λb z=>absurd z (by simp)),r,q⟩
end
def Ke(sp:Sp)(dvs:List V)(E:XK)(t:TA):TE:=λσ H Q=>t σ H λvs H1=>sp (vs++dvs) H1 Q E
def lD(K:W.Frag)(fd:FuncData)(ps:List Str)(ds:List Value):Prop :=
 ∀(s:Shared)(us:List Value),K.In s.heap->(us++ds).length=ps.length->BindsTo s fd ⟨us,[]⟩ (ps.zip (us++ds))
theorem lD.all{K:W.Frag}{fd:FuncData}{ps:List Str}(h:∀us:List Value,us.length=ps.length->bindArgs fd ⟨us,[]⟩=pure (ps.zip us)):lD K fd ps []:=λs us _ hl=>by
 rw[Xi] at hl ⊢;exact .of_eq (h us hl)
def wI(CX:wK)(X:Cx)(E:XK):Prop:=∀(pins:List (Addr×Obj))(σ:St)(H:Hp)(s:Shared)(e:Value)(s':Shared),aJ X pins σ H s->CX X.stack H s E e s'->X.xe e s'
section
variable {X:Cx}{CX:wK}{k:Nat}{f C:Addr}{fd:FuncData}{ps:List Str}{sp:Sp}{dvs:List V}{ds:List Value}{E:XK}{x m:Str}{p pos apos:Pos}{e o:Expr}{es:List Expr}{ta:TE}{t:TA}
theorem ID{pins:List (Addr×Obj)}{σ:St}{H:Hp}{s:Shared}{Q:VK}{us:List Value}{vs:List V}(F:a9 X.prog X.w X.K X.mg X.base CX k f fd ps sp)(hr:cN k X.A)(hb:lD X.K fd ps ds)(hd:aY dvs ds)(hx:wI CX X E)
  (I:aJ X pins σ H s)(r:aY vs us)(h:sp (vs++dvs) H Q E):wpAny (model X.prog X.w) X.A (call (.ref f) us) (EP X pins σ Q) X.xe s:=by
 have r2:aY (vs++dvs) (us++ds):=r.append hd;have hl:(us++ds).length=ps.length:=by rw[<-r2.length];exact F.len _ _ _ _ h
 refine wpAny_call (codeAny_mono (F.run X.A X.stack s H ⟨us,[]⟩ (us++ds) (vs++dvs) Q E hr I.env0 (hb s us I.kIn hl) r2 h) λr s' hq=>?_);cases r with
 | error e=>exact hx pins σ H s e s' I hq
 | ok fl =>
  cases fl with
  | ret u=>exact I.after hq
  | next=>exact False.elim hq
  | brk=>exact False.elim hq
  | cont=>exact False.elim hq
theorem E8(F:a9 X.prog X.w X.K X.mg X.base CX k f fd ps sp)(hr:cN k X.A)(hg:Gl X x)(hm:X.mg x=some (.ref f))(hk:PySem.W.keepIn X.K (.ref f)=true)(hb:lD X.K fd ps ds)(hd:aY dvs ds)(hx:wI CX X E)
  (ha:PA X (e::es) t)(hdb:(x==("__debug__" : Str))=false:=by decide) (he:starEach (e::es) X.env=(false,eval e X.env)::starEach es X.env:=by rfl)(hpl:(backTo pos (starEach es X.env)).any (·.1)=false:=by rfl) :
  PE X (.Call (.Name x p) (e::es) [] pos) (Ke sp dvs E t):=by
 intro pins s σ H Q I h;refine wpAny_Call_Name_kw (jU I hg hm ?_ hdb);refine PySem.W.callWith_K (h₀:=X.base) I.ok.mod.kin hk (cD (ha pos pins s σ H _ I h) λus s1 ⟨vs,H1,I1,r,q⟩=>⟨I1.kIn,?_⟩) he hpl;exact ID F hr hb hd hx I1 r q
end
structure aA (N P:List Str)(sc:Scope):Prop where
 kind:sc.kind=.function
 co:sc.isCoroutine=false
 gen:sc.isGenerator=false
 nd:N.Nodup
 pre:N.take P.length=P
 par:∀x∈P,sc.names.lookup x=some .local\/sc.names.lookup x=some .cell
 nofree:∀y∈sc.names,y.2 ≠ .free
theorem rH{kindOf:Str->Option NameKind}{x:Str}:∀{binds:List (Str×Value)}{m:Str->Option Value},(∀v,(x,v)∉binds)->bindL kindOf binds m x=m x
 | [],_,_=>rfl
 | (n,v)::r,m,h=>by
  unfold bindL;rw[rH λw hw=>h w (Yf _ hw)];split
  .have:x≠n:=by rintro rfl;exact h v Yj
   simp[this]
  .rfl
theorem rG{kindOf:Str->Option NameKind}{x:Str}:∀{binds:List (Str×Value)}{m:Str->Option Value},(∀v,(x,v)∉binds)->bindC kindOf binds m x=m x
 | [],_,_=>rfl
 | (n,v)::r,m,h=>by
  unfold bindC;rw[rG λw hw=>h w (Yf _ hw)];split
  .rfl
  .have:x≠n:=by rintro rfl;exact h v Yj
   simp[this]
theorem re{kindOf:Str->Option NameKind}{x:Str}{v:Value}:∀{P:List Str}{vs:List Value}{i:Nat}{m:Str->Option Value},P.Nodup->P[i]? = some x->vs[i]? = some v->kindOf x=some .local ->
  bindL kindOf (P.zip vs) m x=some v
 | [],_,_,_,_,h,_,_=>by simp at h
 | _::_,[],_,_,_,_,h,_=>by simp at h
 | p::P,w::vs,0,m,nd,h1,h2,hk=>by
  simp at h1 h2;subst h1;subst h2;show bindL kindOf ((p,w)::P.zip vs) m p=_;unfold bindL;rw[rH λv hv=>(List.nodup_cons.mp nd).1 (List.of_mem_zip hv).1,Yh hk];simp
 | p::P,w::vs,i+1,m,nd,h1,h2,hk=>by
  show bindL kindOf ((p,w)::P.zip vs) m x=_;unfold bindL;exact re (i:=i) (List.nodup_cons.mp nd).2 (by simpa using h1) (by simpa using h2) hk
theorem sj{kindOf:Str->Option NameKind}{x:Str}{v:Value}:∀{P:List Str}{vs:List Value}{i:Nat}{m:Str->Option Value},P.Nodup->P[i]? = some x->vs[i]? = some v->kindOf x≠some .local ->
  bindC kindOf (P.zip vs) m x=some v
 | [],_,_,_,_,h,_,_=>by simp at h
 | _::_,[],_,_,_,_,h,_=>by simp at h
 | p::P,w::vs,0,m,nd,h1,h2,hk=>by
  simp at h1 h2;subst h1;subst h2;show bindC kindOf ((p,w)::P.zip vs) m p=_;unfold bindC;rw[rG λv hv=>(List.nodup_cons.mp nd).1 (List.of_mem_zip hv).1,Yc hk];simp
 | p::P,w::vs,i+1,m,nd,h1,h2,hk=>by
  show bindC kindOf ((p,w)::P.zip vs) m x=_;unfold bindC;exact sj (i:=i) (List.nodup_cons.mp nd).2 (by simpa using h1) (by simpa using h2) hk
def start(N:List Str)(vs:List V):St:=vs.map some++List.replicate (N.length-vs.length) none
def fT(CX:wK)(P:Program)(w:World)(K:W.Frag)(mg:Str->Option Value)(base:Heap)(N:List Str)(qual:Str)(scope:Scope)(f:Addr)(cd:Value)(A:Around)(outer:List Env)(s:Shared)(H:Hp)(E:XK):Cx where
 prog:=P
 w:=w
 K:=K
 mg:=mg
 base:=base
 A:=A.deeper (envOfC qual scope s.heap.objs.size f cd)
 N:=N
 s₀:=s
 H₀:=H
 env:=envOfC qual scope s.heap.objs.size f cd
 outer:=outer
 stack:=envOfC qual scope s.heap.objs.size f cd::outer
 ex:=[]
 calm:=true
 fn:=λ_=>true
 pn:=[]
 xe:=λe s'=>wpAny (model P w) (A.deeper (envOfC qual scope s.heap.objs.size f cd)) (leaving (envOfC qual scope s.heap.objs.size f cd) e) (λ_ s''=>CX outer H s E e s'') (λe' s''=>CX outer H s E e' s'') s'
theorem vO{sc:Scope}{n:Nat}{x:Str}(h:sc.names.lookup x=some .cell):∃c,(cellsFrom n sc.names []).lookup x=some c:=by
 have q:=PySem.W.cellsFrom_some sc.names n [] (.inl h);exact Option.isSome_iff_exists.mp q
theorem qZ{CX:wK}{P:Program}{w:World}{K:W.Frag}{mg:Str->Option Value}{base:Heap}{N ps:List Str}{qual:Str}{scope:Scope}{f:Addr}{cd:Value}{A:Around}{outer:List Env}{s s1:Shared}{H:Hp}{E:XK}{us:List Value}{vs:List V}
  (S:aA N ps scope)(hd:A.handled=none)(e0:qE P w K mg base A outer s H)(hl:vs.length=ps.length)(r:aY vs us)
  (x:InCallC s s.heap.objs.size (bindL (envOfC qual scope s.heap.objs.size f cd).kindOf (ps.zip us) λ_=>none) (cellsFrom (s.heap.objs.size+1) scope.names []) (bindC (envOfC qual scope s.heap.objs.size f cd).kindOf (ps.zip us) λ_=>none) s1) :
  aJ (fT CX P w K mg base N qual scope f cd A outer s H E) [] (start N vs) H s1:=by
 have hpl:ps.length<=N.length:=by have:=Xb List.length S.pre;rw[YC] at this;nofun
 obtain⟨h1,tk,rfl,hk⟩:=x.done;have noA:∀b:Addr,b∉(fT CX P w K mg base N qual scope f cd A outer s H E).ex:=λb z=>absurd (show b∈([]:List Addr) from z) (by simp)
 refine⟨⟨e0.mod,S.kind,rfl,rfl,Yi _,λy z c h1 h2=>?_,λy hy=>?_,λy c _ h=>?_,λ_=>hd,Around.frames_deeper e0.frames,.inr ⟨rfl,rfl⟩,λb z=>absurd z (noA b),e0.bs,e0.bsz,λb _ _=>noA b,λb z=>absurd z (noA b),e0.funs,e0.frf⟩,
  rfl,e0.bare,Un.kept hk,⟨_,x.toInCall.ns,λi y v h1 h2 h3=>?_⟩,λy c h=>⟨_,x.cell y c h⟩,e0.hok.fresh (Yi _),λy c h=>?_,λp hp=>absurd (show p∈([]:List (Addr×Obj)) from hp) (by simp),e0.hok.kept hk,?_⟩
 .exact name_of_addr x.apart (YU h1) (YU h2)
 .have hy:scope.names.lookup y=some .cell\/scope.names.lookup y=some .free:=hy;rcases hy with hy|hy
  .exact vO hy
  .exact absurd rfl (S.nofree _ (YU hy))
 .exact XF (x.above y c (YU h))
 .have hi:i<vs.length:=by
   unfold start at h2;by_cases hi:i<vs.length
   .exact hi
   .rw[Yx (by simpa using hi)] at h2
    rw[List.getElem?_replicate] at h2;split at h2<;>cases h2
  have ha:vs[i]? = some v:=by
   unfold start at h2;rw[YA (by simpa using hi),Yd] at h2
   cases e:vs[i]? with
   | none=>rw[e] at h2;cases h2
   | some a=>rw[e] at h2;cases h2;rfl
  obtain⟨u,hu,rv⟩:=r.get ha;have hp:ps[i]? = some y:=by
   rw[<-S.pre,List.getElem?_take_of_lt ()];exact h1
  have ndP:ps.Nodup:=by rw[<-S.pre];exact S.nd.sublist (List.take_sublist _ _)
  refine⟨u,rv,?_⟩;rcases S.par y (Yr hp) with k|k
  .exact .inl ⟨k,re ndP hp hu k⟩
  .obtain⟨c,e⟩:=vO (n:=s.heap.objs.size+1) k;refine .inr ⟨.inl k,c,e,?_⟩;have q:=x.cell y c e;rw[sj ndP hp hu (by show scope.names.lookup y≠_;rw[k];decide)] at q
   exact q
 .exact e0.hok.fresh (XF (x.above y c (YU h)))
 .unfold start;show _=N.length;rw[Yt,Yb,List.length_replicate];nofun
theorem BL{CX:wK}{P:Program}{w:World}{K:W.Frag}{mg:Str->Option Value}{base:Heap}{k:Nat}{f:Addr}{name qual:Str}{params:Arguments}{body:List Stmt}{scope:Scope}{dV kV doc pm cdv ct oc:Value}{an od:Option Addr}
  {osl:Array (Option Value)}{N ps:List Str}{sp:Sp}(lk:K.lookup f=some ⟨oc,od,.func (PySem.W.fnOf name qual params body scope dV kV doc pm an cdv ct),osl⟩)(hcd:PySem.W.codeIn K cdv qual=true)(S:aA N ps scope)
  (len:∀vs H Q E,sp vs H Q E->vs.length=ps.length)
  (hbody:∀(A:Around)(outer:List Env)(s:Shared)(H:Hp)(vs:List V)(Q:VK)(E:XK),cN k (A.deeper (envOfC qual scope s.heap.objs.size f cdv))->sp vs H Q E ->
   ∃t,sC (fT CX P w K mg base N qual scope f cdv A outer s H E) body t/\t { nx:=λ_ H'=>Q .non H',rt:=Q } (start N vs) H) :
  a9 P w K mg base CX (k+1) f (PySem.W.fnOf name qual params body scope dV kV doc pm an cdv ct) ps sp:=by
 refine⟨len,λA outer s H args us vs Q E hr e0 hb r hsp=>?_⟩;have hl:=len _ _ _ _ hsp;have KX:K.In s.heap:=e0.mod.kin.keeps λb o e=>(e0.bs b o e).1;have lim:s.heap.NoLimit:=e0.mod.nolimit.keeps λb o e=>(e0.bs b o e).1;have hkind:∀y∈ps.zip us,scope.names.lookup y.1=some .local\/(scope.names.lookup y.1=some .cell/\((cellsFrom (s.heap.objs.size+1) scope.names []).lookup y.1).isSome=true):=λ⟨n,v⟩ hy=>by
  rcases S.par n (List.of_mem_zip hy).1 with q|q
  .exact .inl q
  .exact .inr ⟨q,PySem.W.cellsFrom_some _ _ _ (.inl q)⟩
 refine codeAny_call_function hr.depth (KX _ _ lk) rfl S.co S.gen rfl (PySem.W.codeRec_of KX hcd) (hb _ _ _ _ ?_);refine wpAny_newFunctionEnv_cells S.kind hkind λenv he s1 x=>?_;subst he;refine⟨lim.keeps x.toInCall.keep,codeAny_func ?_⟩;obtain⟨t,ht,hq⟩:=hbody A outer s H vs Q E (hr.deeper _) hsp;have I:aJ (fT CX P w K mg base N qual scope f cdv A outer s H E) [] (start N vs) H s1:=qZ S hr.hd e0 hl r x;refine wpAny_mono (ht [] s1 (start N vs) H _ I hq) (λfl s' hs=>?_) λe s' hs=>hs;have fin:∀{σ':St}{H':Hp}{v:V}{u:Value},aJ (fT CX P w K mg base N qual scope f cdv A outer s H E) [] σ' H' s'->bH v u->Q v H'->CE outer P w H s Q u s' :=
  λ{σ' H' v u} J rv q=>⟨v,H',J.os,J.bare,J.base,J.hok,rv,q⟩
 cases fl with
 | ret u =>
  obtain⟨v,σ',H',J,rv,q⟩:=hs;exact fin J rv q
 | next =>
  obtain⟨σ',H',J,q⟩:=hs;exact fin (v:=V.non) (u:=Value.none) J rfl q
 | brk =>
  obtain⟨_,_,_,q⟩:=hs;exact False.elim q
 | cont =>
  obtain⟨_,_,_,q⟩:=hs;exact False.elim q
section
variable {X:Cx}{x:Str}{p pos:Pos}{e:Expr}{es:List Expr}{t:TA}{id T:String}{r:List V->Hp->VK->Prop}
def DS(r:List V->Hp->VK->Prop)(t:TA):TE:=λσ H Q=>t σ H λvs H1=>r vs H1 Q
theorem Cc(hc:dM X (.builtin id) r)(hg:Gl X x)(hm:X.mg x=none)(hv:bootBuiltins x=some (.builtin id))(ha:PA X (e::es) t)(hn:x ≠ "__name__":=by decide) (hdb:(x==("__debug__" : Str))=false:=by decide)
  (he:starEach (e::es) X.env=(false,eval e X.env)::starEach es X.env:=by rfl)(hpl:(backTo pos (starEach es X.env)).any (·.1)=false:=by rfl):PE X (.Call (.Name x p) (e::es) [] pos) (DS r t):=by
 intro pins s σ H Q I h;refine wpAny_Call_Name_kw (jz I hg hm hv ?_ hn hdb);exact PyProof.Rows.callWith_builtin1 (cD (ha pos pins s σ H _ I h) λus s1 ⟨vs,H1,I1,r1,q1⟩=>hc pins s1 σ H1 vs us Q I1 r1 q1) he hpl
theorem zZ(hc:dM X (.type T) r)(hg:Gl X x)(hm:X.mg x=none)(hv:bootBuiltins x=some (.type T))(ha:PA X (e::es) t)(hn:x ≠ "__name__":=by decide) (hdb:(x==("__debug__" : Str))=false:=by decide)
  (he:starEach (e::es) X.env=(false,eval e X.env)::starEach es X.env:=by rfl)(hpl:(backTo pos (starEach es X.env)).any (·.1)=false:=by rfl):PE X (.Call (.Name x p) (e::es) [] pos) (DS r t):=by
 intro pins s σ H Q I h;refine wpAny_Call_Name_kw (jz I hg hm hv ?_ hn hdb);exact Xc (cD (ha pos pins s σ H _ I h) λus s1 ⟨vs,H1,I1,r1,q1⟩=>hc pins s1 σ H1 vs us Q I1 r1 q1) he hpl
end
end L2
namespace HT
open PySem PyProof.Rows
section
open PySem.SeqAt
open PySem.AutoSeq1 (wpAny_loadPart')
open PySem.MeetsSeq PySem.MeetsSeq2 PySem.MeetsSeq3
end
section
variable {prog:Program}{w:World}{A:Around}{E:Value->Shared->Prop}{s:Shared}
def sIx(n d:Nat):Option Int->Nat
 | none=>d
 | some v=>if v<0 then (v+(n:Int)).toNat else min v.toNat n
theorem yN(n d k:Nat):sIx n d (some (k:Int))=min k n:=by
 show (if (k:Int)<0 then ((k:Int)+(n:Int)).toNat else min (k:Int).toNat n)=min k n
 rw[Yc (),Xv]
end
end HT
namespace L2
open PySem PySem.Spec PyProof.Rows
abbrev TO:=St->Hp->(Option Int->Hp->Prop)->Prop
def PO(X:Cx)(e:Option Expr)(t:TO):Prop :=
 ∀(pins:List (Addr×Obj))(s:Shared)(σ:St)(H:Hp)(Q:Option Int->Hp->Prop),aJ X pins σ H s->t σ H Q ->
  wpAny (model X.prog X.w) X.A (evalPart e X.env) (λu s'=>∃o H',aJ X pins σ H' s'/\IsPart u o/\Q o H') X.xe s
def ug:TO:=λ_ H Q=>Q none H
def uZ(t:TE):TO:=λσ H Q=>t σ H λx H1=>∃i,x=.int i/\Q (some i) H1
section
variable {X:Cx}{e:Expr}{te:TE}{lo hi:Option Expr}{tl th:TO}{pos p2:Pos}
theorem Fe:PO X none ug:=by
 intro pins s σ H Q I h;rw[evalPart_none];exact wpAny_pure ⟨none,H,I,.none,h⟩
theorem ET(h:PE X e te):PO X (some e) (uZ te):=by
 intro pins s σ H Q I hw;rw[evalPart_some];refine cD (h pins s σ H _ I hw) λu s1 ⟨x,H1,I1,r1,q1⟩=>?_;obtain⟨i,rfl,q⟩:=q1;obtain⟨t,rfl⟩:=r1;exact⟨some i,H1,I1,.int i t,q⟩
def DR(X:Cx)(r:V->Option Int->Option Int->Hp->VK->Prop):Prop :=
 ∀(pins:List (Addr×Obj))(s:Shared)(σ:St)(H:Hp)(x:V)(v vl vu:Value)(lo hi:Option Int)(sl:Addr)(Q:VK),aJ X pins σ H s->bH x v->s.heap.IsSliceOf sl vl vu .none->IsPart vl lo->IsPart vu hi->r x lo hi H Q ->
  ∃T id,typeLookup (.type T) "__getitem__" = pure (some (.builtin id))/\s.TypeIs v T/\wpAny (model X.prog X.w) X.A (getItem v (.ref sl)) (EP X pins σ Q) X.xe s
def Li(r:V->Option Int->Option Int->Hp->VK->Prop)(te:TE)(tl th:TO):TE:=λσ H Q=>te σ H λx H1=>tl σ H1 λl H2=>th σ H2 λu H3=>r x l u H3 Q
theorem Da{r:V->Option Int->Option Int->Hp->VK->Prop}(hr:DR X r)(he:PE X e te)(hl:PO X lo tl)(hu:PO X hi th):PE X (.Subscript e (.Slice lo hi none p2) pos) (Li r te tl th):=by
 intro pins s σ H Q I h;refine Subscript_ (cD (he pins s σ H _ I h) λv s1 ⟨x,H1,I1,r1,q1⟩=>?_);refine wpAny_Slice (cD (hl pins s1 σ H1 _ I1 q1) λvl s2 ⟨l,H2,I2,pl,q2⟩=>cD (hu pins s2 σ H2 _ I2 q2) λvu s3 ⟨u,H3,I3,pu,q3⟩=>?_);rw[evalPart_none];refine wpAny_pure ?_;have I4:aJ X pins σ H3 { s3 with heap:=s3.heap.push { cls:=.type "slice",data:=.fields #[vl,vu,.none] } }:=I3.kept (t':=s3.toks) λb ob q=>Heap.get?_push_of_some _ q
 obtain⟨T,id,hT,ht,hg⟩:=hr pins { s3 with heap:=s3.heap.push { cls:=.type "slice",data:=.fields #[vl,vu,.none] } } σ H3 x v vl vu l u s3.heap.objs.size Q I4 r1 (Heap.IsSliceOf.new ..) pl pu q3;show wpAny (model X.prog X.w) X.A (subscriptTail e (.Slice lo hi none p2) v (.ref s3.heap.objs.size)) (EP X pins σ Q) X.xe { s3 with heap:=s3.heap.push { cls:=.type "slice",data:=.fields #[vl,vu,.none] } }
 exact tail_any (ops:=[.ref s3.heap.objs.size,v]) ht hT hg (by with_unfolding_all rfl)
def nj(xs:List V)(lo hi:Option Int):List V:=(xs.drop (HT.sIx xs.length 0 lo)).take (HT.sIx xs.length xs.length hi-HT.sIx xs.length 0 lo)
theorem uH(xs:List V)(lo hi:Option Int):(nj xs lo hi).length<=xs.length:=by
 unfold nj;rw[YC,List.length_drop];nofun
end
def xt(n:Nat)(i:Int):Option Nat:=if 0<=i then (if i<n then some i.toNat else none) else if -(n:Int)<=i then some (i+n).toNat else none
def pK{α:Type}(xs:List α)(i:Int):Option α:=(xt xs.length i).bind λj=>xs[j]?
theorem xS{n:Nat}{i:Int}{j:Nat}(h:xt n i=some j):seqIndex? i n=some j/\j<n /\ -(n:Int)<=i/\i<n:=by
 unfold xt at h;by_cases h0:0<=i
 .rw[Yh h0] at h;by_cases h1:i<n
  .rw[Yh h1] at h;have e:i.toNat=j:=YO h;exact⟨by rw[seqIndex_of h0 h1,e],(),(),h1⟩
  .rw[Yc h1] at h;cases h
 .rw[Yc h0] at h;by_cases h1 : -(n:Int)<=i
  .rw[Yh h1] at h;have e:(i+n).toNat=j:=YO h;exact⟨by rw[seqIndex_neg () h1,e],(),h1,()⟩
  .rw[Yc h1] at h;cases h
theorem tL{α:Type}{xs:List α}{i:Int}{v:α}(h:pK xs i=some v):∃j,seqIndex? i xs.length=some j/\xs[j]? = some v/\j<xs.length /\ -(xs.length:Int)<=i/\i<xs.length:=by
 unfold pK at h;cases e:xt xs.length i with
 | none=>rw[e] at h;cases h
 | some j =>
  rw[e] at h;obtain⟨h1,h2,h3,h4⟩:=xS e;exact⟨j,h1,h,h2,h3,h4⟩
theorem bB{α:Type}{xs:List α}{j:Nat}{v:α}(h:xs[j]? = some v):pK xs (j:Int)=some v:=by
 have hj:j<xs.length:=(List.getElem?_eq_some_iff.mp h).1;have e:xt xs.length (j:Int)=some j:=by
  unfold xt;rw[Yh (),Yh ()];simp
 unfold pK;rw[e];exact h
theorem BC{α:Type}(xs:List α)(v:α):pK (xs++[v]) (-1)=some v:=by
 have hl:(xs++[v]).length=xs.length+1:=by simp
 have e:xt (xs++[v]).length (-1)=some xs.length:=by
  unfold xt;rw[hl,Yc ∅,Yh ()];congr 1
  nofun
 unfold pK;rw[e];show (xs++[v])[xs.length]? = some v;simp
def yy(b:Expr):Prop:=∀o i,subscripted b false o i=operate [o,i] (getItem o i)
def wl(X:Cx)(r:R2):Prop :=
 ∀(value slice:Expr)(pins:List (Addr×Obj))(s:Shared)(σ:St)(H:Hp)(x y:V)(v u:Value)(Q:VK),aJ X pins σ H s->bH x v->bH y u->r x y H Q ->
  subscripted slice false v u=operate [v,u] (getItem v u)->wpAny (model X.prog X.w) X.A (subscriptTail value slice v u) (EP X pins σ Q) X.xe s
def JY(X:Cx)(id:String)(r:V->List V->Hp->VK->Prop):Prop :=
 ∀(pins:List (Addr×Obj))(s:Shared)(σ:St)(H:Hp)(x:V)(xs:List V)(v:Value)(us:List Value)(Q:VK),aJ X pins σ H s->bH x v->aY xs us->r x xs H Q ->
  wpAny (model X.prog X.w) X.A (call (.builtin id) (v::us)) (EP X pins σ Q) X.xe s
section
variable {X:Cx}{a b:Expr}{ta tb:TE}{pos:Pos}
theorem Kt{r:R2}(hr:wl X r)(ha:PE X a ta)(hb:PE X b tb)(hs:yy b):PE X (.Subscript a b pos) (AD r ta tb):=by
 intro pins s σ H Q I h;exact Subscript_ (GP ha hb I h λv u s2 x y H2 I2 rx ry q=>hr a b pins s2 σ H2 x y v u Q I2 rx ry q (hs _ _))
def JX(K:W.Frag):R2:=λx y H Q=>∃p xs i v,x=.ref p/\y=.int i/\jq K H p xs/\pK xs i=some v/\Q v H
def JU(K:W.Frag):R2:=λx y H Q=>∃p xs i v,x=.ref p/\y=.int i/\wD K H p xs/\pK xs i=some v/\Q v H
theorem yQ:wl X (JX X.K):=by
 intro value slice pins s σ H x y v u Q I rx ry h hs;obtain⟨p,xs,i,z,rfl,rfl,hq,he,q⟩:=h;cases rx;obtain⟨t,rfl⟩:=ry;obtain⟨its,r,pl,hz⟩:=I.list hq;obtain⟨j,h1,h2,h3,h4,h5⟩:=tL he;obtain⟨w,ew,rw'⟩:=r.get h2;have hl:=r.length;have hn:=mJ;have fin:EP X pins σ Q w s:=⟨z,H,I,rw',q⟩;by_cases h0:0<=i
 .have hj:i.toNat=j:=by
   rw[seqIndex_of h0 h5] at h1;exact YO h1
  exact item_listR pl.isList h0 () (by rw[hj];simpa using ew) fin hs
 .have hj:(i+(its.toArray.size:Int)).toNat=j:=by
   rw[seqIndex_neg () h4] at h1;rw[Yn,<-hl];exact YO h1
  exact subscriptTail_builtinR (x:=w) pl.isList.typeIs slot_list_getitem.lookup
   (wpAny_getItem_list_neg (Q:=λr s'=>r=w/\EP X pins σ Q r s') pl.isList () (by rw[Yn]<;>nofun) () (by rw[hj];simpa using ew) ⟨rfl,fin⟩) hs
theorem Hy:wl X (JU X.K):=by
 intro value slice pins s σ H x y v u Q I rx ry h hs;obtain⟨p,xs,i,z,rfl,rfl,hq,he,q⟩:=h;cases rx;obtain⟨t,rfl⟩:=ry;obtain⟨its,r,pl,hz⟩:=I.tuple hq;obtain⟨j,h1,h2,h3,h4,h5⟩:=tL he;obtain⟨w,ew,rw'⟩:=r.get h2;have hl:=r.length;have hn:=mJ;have fin:EP X pins σ Q w s:=⟨z,H,I,rw',q⟩;exact subscriptTail_builtinR (x:=w) pl.typeIs slot_tuple_getitem.lookup
  (getItem_tuple (j:=j) (Q:=λr s'=>r=w/\EP X pins σ Q r s') pl () () (by rw[Yn,<-hl];exact h1) (by simpa using ew) ⟨rfl,fin⟩) hs
theorem wF(its:List Value)(n j:Nat)(u:Value):Obj.mapSeq (·.setIfInBounds j u) { cls:=.type "list",data:=.seq its.toArray n } = { cls:=.type "list",data:=.seq (its.set j u).toArray n }:=by
 simp[Obj.mapSeq]
theorem aJ.lst{pins:List (Addr×Obj)}{σ:St}{H:Hp}{s:Shared}{p:Addr}{xs:List V}(I:aJ X pins σ H s)(h:H p=some (.lst xs)) :
  ∃(its:List Value)(n:Nat),aY xs its/\s.heap.get? p=some { cls:=.type "list",data:=.seq its.toArray n } /\ xs.length<=sizeLine:=by
 obtain⟨z,its,n,r,e⟩:=I.hok p _ h;exact⟨its,n,r,e,z⟩
theorem aJ.lstUpd{pins:List (Addr×Obj)}{σ:St}{H:Hp}{s:Shared}{p:Addr}{xs ys:List V}{its its':List Value}{n n':Nat}{f:Obj->Obj}(I:aJ X pins σ H s)(h:H p=some (.lst xs))
  (ho:s.heap.get? p=some { cls:=.type "list",data:=.seq its.toArray n }) (hf:f { cls:=.type "list",data:=.seq its.toArray n } = { cls:=.type "list",data:=.seq its'.toArray n' }) (r:aY ys its')(hz:ys.length<=sizeLine)(t:Nat) :
  aJ X pins σ (upd H p (.lst ys)) { s with heap:=s.heap.update p f,toks:=t }:=by
 have e:(s.heap.update p f).get? p=some { cls:=.type "list",data:=.seq its'.toArray n' }:=by
  rw[Heap.get?_update_self f ho (by rw[hf]<;>rfl),hf]
 refine I.write (x:=p) (e:=p) (by rw[h];trivial) (.inl rfl) (λb u hb q=>(Heap.get?_update_other _ _ (XI hb)).trans q) ⟨_,e⟩ ?_
 exact⟨hz,its',n',r,e⟩
def Ka:V->V->V->Hp->(Hp->Prop)->Prop:=λo i v H Q=>∃p xs k j,o=.ref p/\i=.int k/\H p=some (.lst xs)/\xt xs.length k=some j/\Q (upd H p (.lst (xs.set j v)))
theorem Cn:zV X Ka:=by
 intro pins s σ H o i v ov iv u Q I ro ri rv h;obtain⟨p,xs,k,j,rfl,rfl,hp,hj,q⟩:=h;cases ro;obtain⟨t,rfl⟩:=ri;obtain⟨its,n,r,ho,hz⟩:=I.lst hp;obtain⟨h1,h2,h3,h4⟩:=xS hj;have hl:=r.length;have hn:=mJ;have I':aJ X pins σ (upd H p (.lst (xs.set j v))) { s with heap:=s.heap.update p (Obj.mapSeq (·.setIfInBounds j u)) } :=
  I.lstUpd hp ho (wF its n j u) (r.set rv j) (by rw[List.length_set];exact hz) s.toks
 by_cases h0:0<=k
 .have hk:k.toNat=j:=by
   rw[seqIndex_of h0 h4] at h1;exact YO h1
  exact PySem.W.ki_setAt ho h0 () (by rw[Yn,<-hl];exact h4) (by rw[hk];exact⟨_,I',q⟩)
 .have hk:(k+(its.toArray.size:Int)).toNat=j:=by
   rw[seqIndex_neg () h3] at h1;rw[Yn,<-hl];exact YO h1
  exact PySem.W.ki_setBack ho () (by rw[Yn,<-hl];exact h3) () (by rw[hk];exact⟨_,I',q⟩)
theorem tU(lo hi:Option Int)(n:Nat):(sliceBounds lo hi none n).1=((HT.sIx n 0 lo:Nat):Int)/\(sliceBounds lo hi none n).2.1=((HT.sIx n n hi:Nat):Int)/\(sliceBounds lo hi none n).2.2=1:=by
 refine⟨?_,?_,rfl⟩
 .cases lo with
  | none=>simp[sliceBounds,HT.sIx]
  | some i =>
   simp only[sliceBounds,HT.sIx,Option.getD_none,show (1:Int) > 0 by decide,if_true]
   by_cases h:i<0
   .simp only[h,if_true]<;>nofun
   .simp only[h,if_false]<;>nofun
 .cases hi with
  | none=>simp[sliceBounds,HT.sIx]
  | some i =>
   simp only[sliceBounds,HT.sIx,Option.getD_none,show (1:Int) > 0 by decide,if_true]
   by_cases h:i<0
   .simp only[h,if_true]<;>nofun
   .simp only[h,if_false]<;>nofun
theorem qM(its:List Value)(lo hi:Option Int):slicePick its.toArray lo hi none=((its.drop (HT.sIx its.length 0 lo)).take (HT.sIx its.length its.length hi-HT.sIx its.length 0 lo)).toArray:=by
 obtain⟨h1,h2,h3⟩:=tU lo hi its.toArray.size;unfold slicePick;rw[h1,h2,h3];simp only[sliceRange_one,pick_run,Yn]<;>rfl
def LO(K:W.Frag):V->Option Int->Option Int->Hp->VK->Prop:=λx lo hi H Q=>∃a xs,x=.ref a/\jq K H a xs /\ ∀p,H p=none->Q (.ref p) (upd H p (.lst (nj xs lo hi)))
theorem FM:DR X (LO X.K):=by
 intro pins s σ H x v vl vu lo hi sl Q I rx hs pl pu h;obtain⟨a,xs,rfl,hx,q⟩:=h;cases rx;obtain⟨its,r,ht,hz⟩:=I.list hx;have hlen:=r.length;refine⟨"list",_,slot_list_getitem.lookup,ht.isList.typeIs,?_⟩;refine wpAny_getItem_list_slice ht.isList hs pl pu .none (by simp) ?_ (by rw[Yn]<;>nofun)
 rw[qM,<-hlen];refine⟨.ref s.heap.objs.size,_,I.laid (t':=s.toks) (o:=.lst (nj xs lo hi)) (λb ob q=>Heap.get?_push_of_some _ q) (Yi _) ?_,rfl,q _ (I.hok.fresh (Yi _))⟩;exact⟨Yz (uH xs lo hi) hz,_,0,(r.drop (HT.sIx xs.length 0 lo)).take (HT.sIx xs.length xs.length hi-HT.sIx xs.length 0 lo),Heap.get?_push_size _ rfl⟩
theorem jc:dM X (.builtin "len") (λxs H Q=>∃p ys,xs=[.ref p]/\(jq X.K H p ys\/wD X.K H p ys)/\Q (.int ys.length) H):=by
 intro pins s σ H xs us Q I r h;obtain⟨p,ys,rfl,hq,q⟩:=h;obtain⟨u,rfl,rx⟩:=yi r;cases rx;have hn:=mJ;rcases hq with hq|hq
 .obtain⟨its,r',pl,hz⟩:=I.list hq;have hlen:=r'.length;exact Calls.call_len_list pl.isList (by simp only[Yn]<;>nofun) ⟨.int ys.length,H,I.tok _,⟨s.toks+1,by rw[Yn,hlen]⟩,q⟩
 .obtain⟨its,r',pl,hz⟩:=I.tuple hq;have hlen:=r'.length;exact len_tuple pl (by simp only[Yn]<;>nofun) ⟨.int ys.length,H,I.tok _,⟨s.toks+1,by rw[Yn,hlen]⟩,q⟩
theorem tN:dM X (.type "list") (λxs H Q=>∃p ys,xs=[.ref p]/\(jq X.K H p ys\/wD X.K H p ys) /\ ∀l,H l=none->Q (.ref l) (upd H l (.lst ys))):=by
 intro pins s σ H xs us Q I r h;obtain⟨p,ys,rfl,hq,q⟩:=h;obtain⟨u,rfl,rx⟩:=yi r;cases rx;have fin:∀(its:List Value),aY ys its->ys.length<=sizeLine -> ∀(h':Heap)(c':Nat),(∀b o',s.heap.get? b=some o'->h'.get? b=some o') ->
   h'.get? s.heap.objs.size=some { cls:=.type "list",dict:=none,data:=.seq its.toArray c',slots:=#[] } -> EP X pins σ Q (.ref s.heap.objs.size) { s with heap:=h' }:=λits r' hz h' c' kp e =>
  ⟨.ref s.heap.objs.size,_,I.laid (t':=s.toks) kp (Yi _) (show cA X.prog X.w _ h' _ (.lst ys) from ⟨hz,its,c',r',e⟩),rfl,q _ (I.hok.fresh (Yi _))⟩
 rcases hq with hq|hq
 .obtain⟨its,r',pl,hz⟩:=I.list hq;have hlen:=r'.length;obtain⟨o,ho,hc,n,hd⟩:=pl.isList;exact call_list_seq p (.inl rfl) ho hc hd (λh' c' kp e=>fin its r' hz h' c' kp e) (by simp only[Yn]<;>nofun)
 .obtain⟨its,r',pl,hz⟩:=I.tuple hq;have hlen:=r'.length;obtain⟨o,ho,hc,n,hd⟩:=pl;exact call_list_seq p (.inr rfl) ho hc hd (λh' c' kp e=>fin its r' hz h' c' kp e) (by simp only[Yn]<;>nofun)
theorem qD:dM X (.type "tuple") (λxs H Q=>∃p ys,xs=[.ref p]/\((jq X.K H p ys /\ ∀l,H l=none->Q (.ref l) (upd H l (.tup ys)))\/(wD X.K H p ys/\Q (.ref p) H))):=by
 intro pins s σ H xs us Q I r h;obtain⟨p,ys,rfl,h⟩:=h;obtain⟨u,rfl,rx⟩:=yi r;cases rx;rcases h with ⟨hq,q⟩|⟨hq,q⟩
 .obtain⟨its,r',pl,hz⟩:=I.list hq;have hlen:=r'.length;refine call_tuple_list pl.isList (λh' kp=>?_) (by simp only[Yn]<;>nofun)
  have I1:aJ X pins σ H { s with heap:=h' }:=I.kept (t':=s.toks) kp
  have I2:aJ X pins σ (upd H h'.objs.size (.tup ys)) { s with heap:=h'.push { cls:=.type "tuple",data:=.seq its.toArray } } :=
   I1.laid (t':=s.toks) (λb o e=>Heap.get?_push_of_some _ e) (Yi _) (show cA X.prog X.w _ _ _ (.tup ys) from ⟨hz,its,r',IsTup.new _ _⟩)
  exact⟨.ref h'.objs.size,_,I2,rfl,q _ (I1.hok.fresh (Yi _))⟩
 .obtain⟨its,r',pl,hz⟩:=I.tuple hq;exact call_tuple_same pl ⟨.ref p,H,I,rfl,q⟩
def JO(K:W.Frag)(T:String)(x:V)(H:Hp):Prop:=match x with
 | .str _=>T = "str"
 | .int _=>T = "int"
 | .ref p=>(T = "list" /\ ∃xs,jq K H p xs)\/(T = "tuple" /\ ∃o,K.lookup p=some o/\o.cls=.type "tuple" /\ o.dict=none) \/
   (T = "dict" /\ ((∃kvs,H p=some (.dK kvs)) \/ ∃kvs,H p=some (.dT kvs)))\/(T = "set" /\ ∃S n,H p=some (.set S n))
 | _=>False
theorem Dq{pins:List (Addr×Obj)}{σ:St}{H:Hp}{s:Shared}{T:String}{x:V}{v:Value}(I:aJ X pins σ H s)(r:bH x v)(ty:JO X.K T x H) :
  s.TypeIs v T /\ ∀a,v=.ref a -> ∃ob,s.heap.get? a=some ob/\ob.dict=none:=by
 cases x with
 | str z =>
  obtain⟨t,rfl⟩:=r;cases (show T = "str" from ty)
  exact⟨typeIs_str s z t,λ_ e=>nomatch e⟩
 | int i =>
  obtain⟨t,rfl⟩:=r;cases (show T = "int" from ty)
  exact⟨typeIs_int s i t,λ_ e=>nomatch e⟩
 | ref p =>
  cases r;rcases ty with ⟨rfl,xs,hq⟩|⟨rfl,o,hk,hc,hd⟩|⟨rfl,hk⟩|⟨rfl,S,n,hk⟩
  .obtain⟨its,_,pl,_⟩:=I.list hq;refine⟨pl.isList.typeIs,λa e=>?_⟩;cases e;obtain⟨o,n,e,c,hd,_⟩:=pl;exact⟨o,e,hd⟩
  .refine⟨⟨o,I.kIn p o hk,hc⟩,λa e=>?_⟩;cases e;exact⟨o,I.kIn _ o hk,hd⟩
  .have z:∃o,s.heap.get? p=some o/\o.ExactDict:=by
    rcases hk with ⟨kvs,hk⟩|⟨kvs,hk⟩
    .obtain⟨_,_,_,_,o,_,_,e,ex,_⟩:=I.hok p _ hk;exact⟨o,e,ex⟩
    .obtain⟨_,_,_,_,o,_,_,e,ex,_⟩:=I.hok p _ hk;exact⟨o,e,ex⟩
   obtain⟨o,e,ex⟩:=z;refine⟨⟨o,e,ex.1⟩,λa e2=>?_⟩;cases e2;exact⟨o,e,ex.2.1⟩
  .obtain⟨o,_,_,_,e,ex,_⟩:=I.hok p _ hk;refine⟨⟨o,e,ex.1⟩,λa e2=>?_⟩;cases e2;exact⟨o,e,ex.2.1⟩
 | _=>exact False.elim ty
def Jl(K:W.Frag)(T:String)(r:V->List V->Hp->VK->Prop)(to:TE):TE:=λσ H Q=>to σ H λx H1=>JO K T x H1/\r x [] H1 Q
def Ll(K:W.Frag)(T:String)(r:V->List V->Hp->VK->Prop)(to:TE)(t:TA):TE:=λσ H Q=>to σ H λx H1=>JO K T x H1/\t σ H1 λxs H2=>r x xs H2 Q
variable {o e:Expr}{es:List Expr}{to:TE}{t:TA}{name:Str}{apos cpos:Pos}{T id:String}{r:V->List V->Hp->VK->Prop}
theorem Jr(pa:PlainAttrs T)(slot:Slot T name id)(hty:typeOf (.builtin id)=pure (.type "method_descriptor")) (hm:JY X id r)(ho:PE X o to)
  (hbase:attributeBase o name X.env (eval o X.env)=eval o X.env:=by rfl)(hline:(apos.endLine==cpos.line)=true:=by rfl):PE X (.Call (.Attribute o name apos) [] [] cpos) (Jl X.K T r to):=by
 intro pins s σ H Q I h;refine wpAny_Call_method0_late hbase hline (cD (ho pins s σ H _ I h) λv s1 ⟨x,H1,I1,r1,ty,q1⟩=>?_);obtain⟨h1,h2⟩:=Dq I1 r1 ty;exact⟨T,id,pa,slot,hty,h1,h2,Calls.callWith_builtin rfl (PySem.evalArgs_none (hm pins s1 σ H1 x [] v [] Q I1 r1 .nil q1))⟩
theorem Kh(pa:PlainAttrs T)(slot:Slot T name id)(hty:typeOf (.builtin id)=pure (.type "method_descriptor")) (hm:JY X id r)(ho:PE X o to)(ha:PA X (e::es) t)
  (hbase:attributeBase o name X.env (eval o X.env)=eval o X.env:=by rfl)
  (hfew:((backTo cpos (starEach (e::es) X.env)).all (λx=>!x.1) && (backToKw cpos (keywordEach [] X.env)).all (λx=>x.1.isSome)
   && decide ((e::es).length+([]:List Keyword).length+(if ([]:List Keyword).isEmpty then 0 else 1)<30))=true:=by rfl)
  (hline:(apos.endLine==cpos.line)=true:=by rfl)(hs:starEach (e::es) X.env=(false,eval e X.env)::starEach es X.env:=by rfl)(hplain:(backTo cpos (starEach es X.env)).any (·.1)=false:=by rfl) :
  PE X (.Call (.Attribute o name apos) (e::es) [] cpos) (Ll X.K T r to t):=by
 intro pins s σ H Q I h;refine wpAny_Call_method_late hbase hfew hline rfl (cD (ho pins s σ H _ I h) λv s1 ⟨x,H1,I1,r1,ty,q1⟩=>?_);obtain⟨h1,h2⟩:=Dq I1 r1 ty;refine⟨T,id,pa,slot,hty,h1,h2,?_⟩;have hA:=ha cpos pins s1 σ H1 _ I1 q1;rw[hs] at hA ⊢;refine Calls.callWith_builtin (by show (false || (backTo cpos (starEach es X.env)).any (·.1))=false;rw[hplain]<;>rfl) (Calls.evalArgs_plain ?_)
 exact cD hA λus s2 ⟨vs,H2,I2,r2,q2⟩=>hm pins s2 σ H2 x vs v us Q I2 r1 r2 q2
end
def KR(X:Cx)(id:String)(r:V->List V->Hp->VK->Prop):Prop :=
 ∀(pins:List (Addr×Obj))(s:Shared)(σ:St)(H:Hp)(x:V)(xs:List V)(v:Value)(us:List Value)(Q:VK),aJ X pins σ H s->bH x v->aY xs us->r x xs H Q ->
  wpAny (model X.prog X.w) X.A (call (.builtin id) (v::us)) (EP X pins σ Q) X.xe s
theorem aY.one:∀{x:V}{us:List Value},aY [x] us -> ∃u,us=[u]/\bH x u
 | _,_,.cons r .nil=>⟨_,rfl,r⟩
theorem aY.zero:∀{us:List Value},aY [] us->us=[]
 | _,.nil=>rfl
theorem aY.dropLast{xs:List V}{us:List Value}(h:aY xs us):aY xs.dropLast us.dropLast:=by
 induction h with
 | nil=>exact .nil
 | cons r t ih =>
  cases t with
  | nil=>exact .nil
  | cons q t'=>exact .cons r ih
theorem aY.reverse{xs:List V}{us:List Value}(h:aY xs us):aY xs.reverse us.reverse:=by
 induction h with
 | nil=>exact .nil
 | cons r t ih=>rw[List.reverse_cons,List.reverse_cons];exact aY.append ih (.cons r .nil)
theorem aY.rep{xs:List V}{us:List Value}(h:aY xs us):∀k:Nat,aY (List.replicate k xs).flatten (List.replicate k us).flatten
 | 0=>.nil
 | k+1=>by
  rw[Xa,Xa,List.flatten_cons,List.flatten_cons];exact aY.append h (aY.rep h k)
theorem wR{α:Type}(l:List α):l.eraseIdx (l.length-1)=l.dropLast:=by
 induction l with
 | nil=>rfl
 | cons a r ih =>
  cases r with
  | nil=>rfl
  | cons b r =>
   have e:(a::b::r).length-1=((b::r).length-1)+1:=by
    have h1:(a::b::r).length=r.length+2:=rfl;have h2:(b::r).length=r.length+1:=rfl;nofun
   rw[e,List.eraseIdx_cons_succ,ih]
   all_goals rfl
theorem rS(its:List Value):∀(k:Nat)(acc:List Value),
  List.foldl (λx1 x2=>x1++x2) acc.toArray (List.replicate k its.toArray)=(acc++(List.replicate k its).flatten).toArray
 | 0,acc=>by simp
 | k+1,acc=>by
  have e:acc.toArray++its.toArray=(acc++its).toArray:=by simp
  have e2:(acc++its)++(List.replicate k its).flatten=acc++(List.replicate (k+1) its).flatten:=by
   rw[Xa,List.flatten_cons,YS]
  rw[<-e2,<-rS its k (acc++its),<-e,Xa,List.foldl_cons]
section
variable {X:Cx}{pins:List (Addr×Obj)}{σ:St}{H:Hp}{s:Shared}{l b:Addr}{xs ys zs:List V}
theorem aJ.lset{its its':List Value}{n:Nat}{f:Array Value->Array Value}{t':Nat}(I:aJ X pins σ H s)(hH:H l=some (.lst xs))
  (e:s.heap.get? l=some { cls:=.type "list",data:=.seq its.toArray n }) (hf:f its.toArray=its'.toArray)(hv:aY ys its')(hz:ys.length<=sizeLine) :
  aJ X pins σ (upd H l (.lst ys)) { s with heap:=s.heap.update l (Obj.mapSeq f),toks:=t' }:=by
 have q:=PySem.IsL.update e f;rw[hf] at q;refine I.write (x:=l) (e:=l) (by rw[hH];exact trivial) (.inl rfl) (λb' u hb hu=>(Heap.get?_update_other s.heap (Obj.mapSeq f) (XI hb)).trans hu) ⟨_,q⟩ ?_
 exact⟨hz,its',_,hv,q⟩
theorem aJ.lnew{its:List Value}{t':Nat}(I:aJ X pins σ H s)(hv:aY ys its)(hz:ys.length<=sizeLine) :
  aJ X pins σ (upd H s.heap.objs.size (.lst ys)) { s with heap:=s.heap.push { cls:=.type "list",data:=.seq its.toArray },toks:=t' } :=
 I.laid (λ_ _ q=>Heap.get?_push_of_some _ q) (Yi _) ⟨hz,its,0,hv,Heap.get?_push_size _ rfl⟩
theorem aJ.fresh(I:aJ X pins σ H s):H s.heap.objs.size=none:=I.hok.fresh (Yi _)
theorem aJ.lstM(I:aJ X pins σ H s)(hH:H l=some (.lst xs)):xs.length<=sizeLine /\ ∃(its:List Value)(n:Nat),aY xs its/\xs.length=its.length/\s.heap.get? l=some { cls:=.type "list",data:=.seq its.toArray n }:=by
 obtain⟨z,its,n,r,e⟩:=I.hok l _ hH;exact⟨z,its,n,r,r.length,e⟩
theorem BG{n:Nat}(h:n<=sizeLine):Builtin.List.listTooLong n=false:=by
 unfold Builtin.List.listTooLong;exact YZ ()
end
section
variable {X:Cx}
def FJ:V->List V->Hp->VK->Prop:=λx vs H Q=>∃l xs y,x=.ref l/\vs=[y]/\H l=some (.lst xs)/\xs.length<sizeLine/\Q .non (upd H l (.lst (xs++[y])))
theorem qW:KR X "list.append" FJ:=by
 intro pins s σ H x vs v us Q I rx rv h;obtain⟨l,xs,y,rfl,rfl,hH,hz,q⟩:=h;cases rx;obtain⟨u,rfl,ru⟩:=rv.one;obtain⟨z,its,n,r,hl,e⟩:=I.lstM hH;refine call_meets F.slot_list_append ⟨_,e,rfl⟩ F.entry_list_append (F.args_list_append_2 _ _) (PySem.list_append l its.toArray n u (by rw[Yn];nofun)) ⟨e,?_⟩
 refine⟨.non,_,I.lset (its':=its++[u]) hH e (by simp) (r.append (.cons ru .nil)) ?_,rfl,q⟩
 rw[Yt,List.length_singleton];nofun
def Ly:V->List V->Hp->VK->Prop:=λx vs H Q=>∃l xs y,x=.ref l/\vs=[]/\H l=some (.lst xs)/\xs[xs.length-1]? = some y/\Q y (upd H l (.lst xs.dropLast))
theorem IM:KR X "list.pop" Ly:=by
 intro pins s σ H x vs v us Q I rx rv h;obtain⟨l,xs,y,rfl,rfl,hH,hy,q⟩:=h;cases rx;have hus:=rv.zero;subst hus;obtain⟨z,its,n,r,hl,e⟩:=I.lstM hH;obtain⟨u,hu,ru⟩:=r.get hy;have hy':its.toArray[its.toArray.size-1]? = some u:=by
  show its.toArray[its.length-1]? = some u;rw[<-Array.getElem?_toList,<-hl];exact hu
 refine call_meets F.slot_list_pop ⟨_,e,rfl⟩ F.entry_list_pop (F.args_list_pop_1 _) (MeetsSeq.list_pop_last l its.toArray n u hy' (by rw[Yn];nofun)) ⟨e,?_⟩
 refine⟨y,_,I.lset (its':=its.dropLast) hH e ?_ r.dropLast ?_,ru,q⟩
 .show its.toArray.eraseIdxIfInBounds (its.toArray.size-1)=its.dropLast.toArray;rw[Yn,List.eraseIdxIfInBounds_toArray,wR]
 .rw[List.length_dropLast];nofun
def LF:R2:=λx y H Q=>∃l b xs zs,x=.ref l/\y=.ref b/\H l=some (.lst xs)/\H b=some (.lst zs)/\xs.length+zs.length<=sizeLine /\ ∀p,H p=none->Q (.ref p) (upd H p (.lst (xs++zs)))
theorem IE:fk X (binaryOp .Add) LF:=by
 intro pins s σ H x y v u Q I rx ry h;obtain⟨l,b,xs,zs,rfl,rfl,hH,hB,hz,q⟩:=h;cases rx;cases ry;obtain⟨z,its,n,r,hl,e⟩:=I.lstM hH;obtain⟨z2,its2,n2,r2,hl2,e2⟩:=I.lstM hB;refine PySem.P.add_list e e2 ?_ (by rw[Yn,Yn];nofun)
 have ea:its.toArray++its2.toArray=(its++its2).toArray:=by simp
 rw[ea];exact⟨.ref _,_,I.lnew (t':=s.toks) (r.append r2) (by rw[Yt];nofun),rfl,q _ I.fresh⟩
def Lw:R2:=λx y H Q=>∃l k xs,x=.ref l/\y=.int k/\H l=some (.lst xs) /\ -(2^63)<=k/\k<2^63/\xs.length*k.toNat<=sizeLine /\
 ∀p,H p=none->Q (.ref p) (upd H p (.lst (List.replicate k.toNat xs).flatten))
theorem Fn{α:Type}(xs:List α)(k:Nat):(List.replicate k xs).flatten.length=k*xs.length:=by
 induction k with
 | zero=>simp
 | succ k ih=>rw[Xa,List.flatten_cons,Yt,ih,Nat.succ_mul,Nat.add_comm]
theorem Jc:fk X (binaryOp .Mult) Lw:=by
 intro pins s σ H x y v u Q I rx ry h;obtain⟨l,k,xs,rfl,rfl,hH,h1,h2,hz,q⟩:=h;cases rx;obtain⟨t,rfl⟩:=ry;obtain⟨z,its,n,r,hl,e⟩:=I.lstM hH;have hlen:its.toArray.size*k.toNat<=sizeLine:=by rw[Yn,<-hl];exact hz
 have hcap:¬ its.toArray.size*k.toNat > (2^63-1)/8:=by
  have:(sizeLine:Nat)<=(2^63-1)/8:=∅;nofun
 have hfit:¬ (!Builtin.List.listFitsIndex k)=true:=by
  rw[fitsIndex_both h1 h2];exact YI
 have hlong:¬ Builtin.List.listTooLong (its.toArray.size*k.toNat)=true:=by
  rw[BG hlen];exact YI
 have hnew:List.foldl (λx1 x2=>x1++x2) #[] (List.replicate (if its.toArray.isEmpty=true then 0 else k.toNat) its.toArray)=(List.replicate k.toNat its).flatten.toArray:=by
  have f0:∀m:Nat,List.foldl (λx1 x2=>x1++x2) #[] (List.replicate m its.toArray)=(List.replicate m its).flatten.toArray:=λm=>by
   have:=rS its m [];rw[Xw] at this;exact this
  rw[f0];cases its with
  | nil=>simp
  | cons a r'=>rw[Yc (by simp)]
 refine wpAny_binaryOp_repeat_ref (T:="list") (U:="int") ∅ ⟨_,e,rfl⟩ (λs'=>typeIs_int s' k t) noFill_list_mul F.fills_int_mul F.slot_int_rmul repeat_list F.slot_int_index.lookup
  (call_meets F.slot_int_rmul (typeIs_int s k t) F.entry_int_rmul (F.args_int_rmul_2 _ _) (int___rmul___int_list k t l its.toArray n)
   ⟨e,rfl,⟨_,e,rfl⟩,call_meets F.slot_list_mul ⟨_,e,rfl⟩ F.entry_list_mul (F.args_list_mul_2 _ _) (AutoListH.list___mul___list_int_3 l its.toArray n k t hfit hcap hlong) ⟨e,?_⟩⟩)
 rw[hnew];exact⟨.ref _,_,I.lnew (t':=s.toks) (r.rep k.toNat) (by rw[Fn,XO];exact hz),rfl,q _ I.fresh⟩
end
end L2
namespace Att
open PySem PySem.W PySem.Calls PyProof.Rows
theorem oe{P:Params}{h:Heap}:∀(ns:List Int)(vs:List Value),WellAll P h vs (ns.map WData.int)->IntsAre vs ns:=by
 intro ns;induction ns with
 | nil =>
  intro vs w;rw[XB] at w;cases w;exact .nil
 | cons n ns ih =>
  intro vs w;rw[YQ] at w;cases w with
  | cons a b =>
   cases a;exact .cons _ _ (ih _ b)
theorem zJ{l:OpenLaw}{n:Nat}(hn:l.most=some n) {P:Params}{h:Heap}{args:List WData}{vals:List Value}
  (hpre:l.row.toRowW.claim.pre args=true)(hwl:WellAll P h vals args) :
  ∃a vs ns,vals=[Value.ref a]/\args=[WData.list (ns.map WData.int)]/\h.get? a=some { cls:=.type "list",data:=.seq vs.toArray } /\ IntsAre vs ns/\ns.length<=n:=by
 have hsh:WShape.hasAll [] args [.list .int]=true:=(pre_splitW hpre).1;have hc:l.pre.holds [] { args:=args } = true:=(pre_splitW hpre).2;obtain⟨d,r,rfl,h1,h2⟩:=hasAllW_cons hsh;obtain rfl:=hasAllW_nil h2;obtain⟨xs,rfl,h3⟩:=hasW_list h1;obtain⟨ns,rfl⟩:=items_int h3;have hlen:ns.length<=n:=by
  unfold OpenLaw.pre at hc;have h4:(WTm.not (.lt (.lit (.int (n:Int))) (.len (.arg 0)))).holds [] { args:=[.list (ns.map .int)] } = true:=by
   have h4:=(holds_andW hc).1;rw[hn] at h4;exact h4
  have h5:=condW_of h4 (w_not (w_lt w_lit (w_len_list (w_arg rfl))));rw[Yb] at h5;refine Nat.le_of_not_lt λq=>?_;have q':(n:Int)<((ns.length:Nat):Int):=()
  first
   | (rw[Y1 q'] at h5;exact absurd h5 ∅)
   | (simp at h5;nofun)
 cases hwl with
 | cons w1 w2 =>
  cases w2;cases w1 with
  | list ho hall=>exact⟨_,_,ns,rfl,rfl,ho,oe ns _ hall,hlen⟩
theorem zU(l:OpenLaw)(args:List WData):l.row.toRowW.claim.post args (.bool true) args=true :=
 postW_of (r:=l.row.toRowW) (X:=(true==true))
  (show WShape.has [] (.bool true) .bool=true by first|rfl|decide|simp[WShape.has,WShape.arms,WShape.armsAll])
  (show (WTm.eq .res (.lit (.bool true))).value [] { args:=args,res:=some (.bool true),after:=args } = some (.bool (true==true)) from w_eq_bool (w_res rfl) w_lit) rfl
theorem attach_call{l:OpenLaw}{n:Nat}{q:Program}{loose:List Str}{XP:(Str->Option Value)->Heap->Prop}{YP:World->Heap->Prop}{d:DefRec}
  (hn:l.most=some n)(hdf:d.params.defaults=[])
  (call:∀(w:World)(s₀ s₁:Shared)(mg mb:Str->Option Value)(fa:Addr)(o:Obj)(pm cd doc:Value)(a:Addr)(vs:List Value)(ns:List Int),
   Ground q loose [] XP w s₀ mg mb s₁.heap->YP w s₁.heap ->
   s₁.heap.get? fa=some o->o.data=.func (docDef d.name d.params d.body d.scope pm cd doc)->s₁.heap.CodeRec cd d.name->mg d.name=some (.ref fa) ->
   s₁.heap.get? a=some { cls:=.type "list",data:=.seq vs.toArray } -> IntsAre vs ns->ns.length<=n->s₁.gens = #[] ->
   codeAny (model l.prog w) callerA (.call (.ref fa) ⟨[.ref a],[]⟩) (λr s'=>r=.ok (.ret (.bool true))/\OldK s₁.heap s'.heap/\s'.os=s₁.os/\AllBare s'.gens) s₁) :
  WalkO q loose XP YP l.row.toRowW d [] (λf vs=>PySem.call f vs):=by
 intro w s₀ s₁ mg mb G Y fa o pm cd doc dV kV ho hd hcd hD hmg hg args vals as hpre hlay hrd hwl hlo;obtain rfl:dV=.none:=Dflts.none hD hdf;obtain rfl:kV=.none:=Dflts.noKw hD;obtain⟨a,vs,ns,rfl,rfl,hobj,hints,hlen⟩:=zJ hn hpre hwl;refine enter_call (codeAny_mono (call w s₀ s₁ mg mb fa o pm cd doc a vs ns G Y ho (fd_plain hd) hcd hmg hobj hints hlen hg) λr s' hq=>?_);obtain⟨rfl,h2,h3,h4⟩:=hq;exact⟨.inl ⟨.bool true,.bool true,[],rfl,λ_=>rfl,.bool true,zU l _,λ_=>⟨List.Pairwise.nil,λ_ hm=>(nomatch hm)⟩⟩,h2,h3,h4⟩
end Att
namespace L2
open PySem PySem.Spec PyProof.Rows
theorem qT:∀{vs:List Value}{ns:List Int},IntsAre vs ns->aY (ns.map V.int) vs
 | _,_,.nil=>.nil
 | _,_,.cons n t h=>.cons ⟨t,rfl⟩ (qT h)
def fM(s:Stmt):Arguments:=match s with
 | .FunctionDef _ a _ _ _ _ _ _ _ _=>a
 | _=>{ posonlyargs:=[],args:=[],vararg:=none,kwonlyargs:=[],kw_defaults:=[],kwarg:=none,defaults:=[] }
def di(s:Stmt):List Stmt:=match s with
 | .FunctionDef _ _ b _ _ _ _ _ _ _=>b
 | _=>[]
def ak(s:Stmt):Scope:=match s with
 | .FunctionDef _ _ _ _ _ _ sc _ _ _=>sc
 | _=>{ kind:=.function,names:=[],isGenerator:=false,isCoroutine:=false }
abbrev dC:wK:=λ_ _ _ _ _ _=>False
abbrev E0:XK:=λ_ _ _=>False
theorem KN{X:Cx}:wI dC X E0:=λ_ _ _ _ _ _ _ h=>h.elim
structure dA (K:W.Frag)(x qual:Str)(st:Stmt)(f:Addr)(fd:FuncData):Prop where
 ex:∃(oc:Value)(od:Option Addr)(kV doc pm:Value)(an:Option Addr)(cdv ct:Value)(osl:Array (Option Value)),
  fd=PySem.W.fnOf x qual (fM st) (di st) (ak st) .none kV doc pm an cdv ct/\K.lookup f=some ⟨oc,od,.func fd,osl⟩/\PySem.W.codeIn K cdv qual=true
 kp:PySem.W.keepIn K (.ref f)=true
section
variable {P:Program}{w:World}{K:W.Frag}{mg:Str->Option Value}{base:Heap}
theorem dA.ok{x qual:Str}{st:Stmt}{f:Addr}{fd:FuncData}{N ps:List Str}{k:Nat}{sp:Sp}(F:dA K x qual st f fd)(S:aA N ps (ak st))(len:∀vs H Q E,sp vs H Q E->vs.length=ps.length)
  (hbody:∀(cdv:Value)(A:Around)(outer:List Env)(s:Shared)(H:Hp)(vs:List V)(Q:VK)(E:XK),cN k (A.deeper (envOfC qual (ak st) s.heap.objs.size f cdv))->sp vs H Q E ->
   ∃t,sC (fT dC P w K mg base N qual (ak st) f cdv A outer s H E).nox (di st) t/\t { nx:=λ_ H'=>Q .non H',rt:=Q } (start N vs) H):a9 P w K mg base dC (k+1) f fd ps sp:=by
 obtain⟨oc,od,kV,doc,pm,an,cdv,ct,osl,rfl,lk,hcd⟩:=F.ex;refine BL lk hcd S len λA outer s H vs Q E hr hsp=>?_;obtain⟨t,h,q⟩:=hbody cdv A outer s H vs Q E hr hsp;exact⟨t,h.nox,q⟩
theorem dA.binds{x qual:Str}{st:Stmt}{f:Addr}{fd:FuncData}{ps:List Str}(F:dA K x qual st f fd)
  (h:∀(kV doc pm:Value)(an:Option Addr)(cdv ct:Value)(us:List Value),us.length=ps.length->bindArgs (PySem.W.fnOf x qual (fM st) (di st) (ak st) .none kV doc pm an cdv ct) ⟨us,[]⟩=pure (ps.zip us)):lD K fd ps []:=by
 obtain⟨oc,od,kV,doc,pm,an,cdv,ct,osl,rfl,lk,hcd⟩:=F.ex;exact .all (h kV doc pm an cdv ct)
theorem CK{x qual:Str}{st:Stmt}{f:Addr}{oc:Value}{od an:Option Addr}{osl:Array (Option Value)}{kV doc pm cdv ct:Value}(l:K.lookup f=some ⟨oc,od,.func (PySem.W.fnOf x qual (fM st) (di st) (ak st) .none kV doc pm an cdv ct),osl⟩)
  (c:PySem.W.codeIn K cdv qual=true)(k:PySem.W.keepIn K (.ref f)=true):dA K x qual st f (PySem.W.fnOf x qual (fM st) (di st) (ak st) .none kV doc pm an cdv ct):=⟨⟨oc,od,kV,doc,pm,an,cdv,ct,osl,rfl,l,c⟩,k⟩
end
section
variable {X:Cx}
theorem pv(i:Nat){x:Str}{pos:Pos}(hN:X.N[i]? = some x:=by rfl)(hv:GL X.env.scope x:=by first|exact Or.inl rfl|exact Or.inr (Or.inl rfl)|exact Or.inr (Or.inr rfl))(hd:(x==("__debug__" : Str))=false:=by decide)
  (hcd:(x==("__classdict__" : Str))=false:=by decide):PE X (.Name x pos) (tVar i):=Bj hN hv hd hcd
end
theorem be{c A B:Prop} [Decidable c] (h1:c->A)(h2:¬ c->B):if c then A else B:=by
 by_cases h:c
 .rw[Yh h];exact h1 h
 .rw[Yc h];exact h2 h
def az(H H':Hp):Prop:=∀b o,H b=some o->H' b=some o
theorem az.refl(H:Hp):az H H:=λ_ _ h=>h
theorem az.trans{H H1 H2:Hp}(a:az H H1)(b:az H1 H2):az H H2:=λc o h=>b c o (a c o h)
theorem az.free{H H':Hp}(e:az H H') {l:Addr}(h:H' l=Option.none):H l=Option.none:=by
 cases q:H l with
 | none=>rfl
 | some o =>
  rw[e l o q] at h;cases h
structure cy (P:Program)(w:World)(K:W.Frag)(mg:Str->Option Value)(base:Heap)(x:Str)(ps:List Str)(k:Nat)(sp:Sp):Prop where
 ex:∃f fd,a9 P w K mg base dC k f fd ps sp/\mg x=some (.ref f)/\PySem.W.keepIn K (.ref f)=true/\lD K fd ps []
section
variable {X:Cx}{x:Str}{p pos:Pos}{e:Expr}{es:List Expr}{t:TA}{ps:List Str}{k:Nat}{sp:Sp}
def CY(sp:Sp)(t:TA):TE:=λσ H Q=>t σ H λvs H1=>sp vs H1 Q E0
theorem JF(C:cy X.prog X.w X.K X.mg X.base x ps k sp)(hr:cN k X.A)(hg:Gl X x)(ha:PA X (e::es) t)(hdb:(x==("__debug__" : Str))=false:=by decide)
  (he:starEach (e::es) X.env=(false,eval e X.env)::starEach es X.env:=by rfl)(hpl:(backTo pos (starEach es X.env)).any (·.1)=false:=by rfl) :
  PE X (.Call (.Name x p) (e::es) [] pos) (CY sp t):=by
 obtain⟨f,fd,F,hm,hk,hb⟩:=C.ex;intro pins s σ H Q I h;refine E8 (E:=E0) (dvs:=[]) F hr hg hm hk hb .nil KN ha hdb he hpl pins s σ H Q I ?_;show t σ H λvs H1=>sp (vs++[]) H1 Q E0;have e:(λ(vs:List V) H1=>sp (vs++[]) H1 Q E0)=λvs H1=>sp vs H1 Q E0:=by
  funext vs H1;rw[Xi]
 rw[e];exact h
end
section
variable {X:Cx}
theorem FR:fk X (binaryOp .Mult) (rI IntMulOk λi j=>.int (i*j)):=JK λ_ _ _ _ _ _ _ hc q=>mul_int q hc
def Gp(_ j:Int):Prop:=j≠0/\j.natAbs.log2<9000
theorem oI:fk X (binaryOp .FloorDiv) (rI Gp λi j=>.int (i.fdiv j)):=JK λ_ _ _ _ _ _ _ hc q=>floordiv_int hc.1 q (.inl (PyProof.noPylong_of_log2 hc.2))
theorem gA:fk X (binaryOp .Mod) (rI (λ_ j=>j≠0) λi j=>.int (i.fmod j)):=FD
theorem zR:fk X (compareOp .IsNot) (λx y H Q=>∃b c,x=.bl b/\y=.bl c/\Q (.bl (b != c)) H):=by
 intro pins s σ H x y v u Q I rx ry h;obtain⟨b,c,rfl,rfl,q⟩:=h;cases rx;cases ry;exact isnot_bool ⟨.bl _,H,I,rfl,q⟩
end
theorem xB{CX:wK}{P:Program}{w:World}{K:W.Frag}{mg:Str->Option Value}{base:Heap}{N:List Str}{qual:Str}{scope:Scope}{f:Addr}{cd:Value}{A:Around}{outer:List Env}{s:Shared}{H:Hp}{E:XK} :
  (fT CX P w K mg base N qual scope f cd A outer s H E).K=K:=rfl
def Az:List Value->Option (List V)
 | []=>some []
 | u::us=>match Kw u,Az us with
  | some x,some xs=>some (x::xs)
  | _,_=>none
theorem rW:∀{us:List Value}{xs:List V},Az us=some xs->aY xs us
 | [],xs,h=>by cases h;exact .nil
 | u::us,xs,h=>by
  unfold Az at h;split at h
  .rename_i x ys e1 e2
   cases h;refine .cons ?_ (rW e2);cases u<;>first|(cases e1;first|exact rfl|exact⟨_,rfl⟩)|cases e1
  .cases h
def EK(o:Obj):Option HO:=match o.data with
 | .seq its _=>if o.cls=.type "tuple" /\ its.size<=sizeLine then (Az its.toList).map HO.tup else none
 | _=>none
def vw(K:W.Frag)(H:Hp):Hp:=λa=>match K.lookup a with
 | some o=>EK o
 | none=>H a
theorem BO{o:Obj}{u:HO}(h:EK o=some u):∃xs,u=.tup xs:=by
 unfold EK at h;split at h
 .split at h
  .cases e:Az _ with
   | none=>rw[e] at h;cases h
   | some xs=>rw[e] at h;cases h;exact⟨xs,rfl⟩
  .cases h
 .cases h
theorem cX{K:W.Frag}{H:Hp}{a:Addr}(hk:K.lookup a=none):vw K H a=H a:=by
 unfold vw;rw[hk]
theorem oT{K:W.Frag}{H:Hp}{a:Addr}{xs:List V}(h:vw K H a=some (.tup xs)):wD K H a xs:=by
 unfold vw at h;split at h
 .rename_i o ho
  unfold EK at h;split at h
  .rename_i its n hd
   split at h
   .rename_i hc
    cases e:Az its.toList with
    | none=>rw[e] at h;cases h
    | some ys =>
     rw[e] at h;cases h;exact .inr ⟨o,its,n,ho,hc.1,hd,hc.2,rW e⟩
   .cases h
  .cases h
 .exact .of h
theorem i5{K:W.Frag}{H:Hp}{a:Addr}{u:HO}(h:vw K H a=some u)(hu:∀xs,u ≠ .tup xs):H a=some u:=by
 unfold vw at h;split at h
 .obtain⟨xs,rfl⟩:=BO h;exact absurd rfl (hu xs)
 .exact h
theorem aM{K:W.Frag}{H:Hp}{a:Addr}{xs:List V}(h:vw K H a=some (.lst xs)):H a=some (.lst xs):=i5 h λ_ e=>by cases e
theorem lJ{K:W.Frag}{H H':Hp}(S:az H H'):az (vw K H) (vw K H'):=λb o e=>by
 unfold vw at e ⊢;split at e
 .exact e
 .exact S _ _ e
def eN(l:Addr)(H H':Hp):Prop:=∀b o,b≠l->H b=some o->H' b=some o
theorem sV{K:W.Frag}{l:Addr}{H H':Hp}(S:eN l H H'):eN l (vw K H) (vw K H'):=λb o hb e=>by
 unfold vw at e ⊢;split at e
 .exact e
 .exact S _ _ hb e
theorem aJ.noK{X:Cx}{pins:List (Addr×Obj)}{σ:St}{H:Hp}{s:Shared}{p:Addr}{o:HO}(I:aJ X pins σ H s)(h:H p=some o):X.K.lookup p=none:=by
 cases e:X.K.lookup p with
 | none=>rfl
 | some ob =>
  have:=(I.bs p ob (I.mod.kin p ob e)).2;rw[h] at this;cases this
theorem aJ.newK{X:Cx}{pins:List (Addr×Obj)}{σ:St}{H:Hp}{s:Shared}{p:Addr}(I:aJ X pins σ H s)(hp:s.heap.objs.size<=p):X.K.lookup p=none:=by
 cases e:X.K.lookup p with
 | none=>rfl
 | some o=>exact absurd (Ym (Heap.lt_size (I.kIn p o e)) hp) (Xr _)
def Kf(K:W.Frag)(v:V)(H:Hp):Prop:=∀p o,v=.ref p->H p=some o->K.lookup p=none
section
variable {X:Cx}
theorem fk.kf{f:Value->Value->Sem Value}{r:R2}(h:fk X f r):fk X f (λx y H Q=>r x y H λv H'=>Kf X.K v H'->Q v H'):=λpins s σ H x y v u Q I rx ry q =>
 cD (h pins s σ H x y v u _ I rx ry q) λu' s' ⟨v',H',I',r',q'⟩=>⟨v',H',I',r',q' λp o _ hp=>I'.noK hp⟩
theorem dM.kf{f:Value}{r:List V->Hp->VK->Prop}(h:dM X f r):dM X f (λxs H Q=>r xs H λv H'=>Kf X.K v H'->Q v H'):=λpins s σ H xs us Q I rs q =>
 cD (h pins s σ H xs us _ I rs q) λu' s' ⟨v',H',I',r',q'⟩=>⟨v',H',I',r',q' λp o _ hp=>I'.noK hp⟩
theorem DR.kf{r:V->Option Int->Option Int->Hp->VK->Prop}(h:DR X r):DR X (λx a b H Q=>r x a b H λv H'=>Kf X.K v H'->Q v H'):=by
 intro pins s σ H x v vl vu lo hi sl Q I rx hs pl pu q;obtain⟨T,id,e1,e2,e3⟩:=h pins s σ H x v vl vu lo hi sl _ I rx hs pl pu q;exact⟨T,id,e1,e2,cD e3 λu' s' ⟨v',H',I',r',q'⟩=>⟨v',H',I',r',q' λp o _ hp=>I'.noK hp⟩⟩
end
theorem az.upd{H:Hp}{p:Addr}{o:HO}(hp:H p=none):az H (upd H p o):=λb u e=>by
 rw[aT (aj e hp)];exact e
theorem eN.upd{H:Hp}{l:Addr}{o:HO}:eN l H (upd H l o):=λb u hb e=>by
 rw[aT hb];exact e
theorem az.but{H H':Hp}(h:az H H')(l:Addr):eN l H H':=λb o _ e=>h b o e
theorem eN.trans{l:Addr}{H H1 H2:Hp}(a:eN l H H1)(b:eN l H1 H2):eN l H H2:=λc o hc h=>b c o hc (a c o hc h)
theorem aJ.big{X:Cx}{pins:List (Addr×Obj)}{σ:St}{H:Hp}{s:Shared}(I:aJ X pins σ H s):sysModules<s.heap.objs.size:=by
 have h:mainGlobals<s.heap.objs.size:=(I.mod.glob.keeps I.bk).lt;exact Nat.lt_trans ∅ h
theorem vH{P:Program}{w:World}{H:Hp}(h:Heap)(hb:sysModules<h.objs.size):cA P w H (h.push { cls:=.type "dict",data:=.dict #[] }) h.objs.size (.dK []) :=
 ⟨Y7 _,beq_eq_false_iff_ne.mpr (XI (YR hb)),[],.nil,Heap.DictOf.new h⟩
def GY:TE:=λ_ H Q=>∀p,H p=none->Q (.ref p) (upd H p (.dK []))
theorem CV{X:Cx}{pos:Pos}:PE X (.Dict [] [] pos) GY:=λpins s σ H Q I h =>
 wpAny_Dict_empty ⟨.ref s.heap.objs.size,_,I.laid (a:=s.heap.objs.size) (o:=.dK []) (t':=s.toks) (λ_ _ q=>Heap.get?_push_of_some _ q) (Yi _) (vH s.heap I.big),rfl,h _ (I.hok.fresh (Yi _))⟩
def JS(H:Hp):V->Option String
 | .non=>some "NoneType"
 | .bl _=>some "bool"
 | .int _=>some "int"
 | .str _=>some "str"
 | .ref a=>match H a with
  | some (.lst _)=>some "list"
  | some (.frz _ (.lst _))=>some "list"
  | some (.tup _)=>some "tuple"
  | some (.dK _)=>some "dict"
  | _=>none
 | _=>none
def ft(n c:String):Bool:=n==c || (n == "bool" && c == "int")
def GK(n:String):Prop:=n = "NoneType" \/ n = "bool" \/ n = "int" \/ n = "str" \/ n = "list" \/ n = "tuple" \/ n = "dict"
def rN(c:String):Prop:=c = "bool" \/ c = "int" \/ c = "list" \/ c = "tuple" \/ c = "str" \/ c = "dict"
theorem eK{K:W.Frag}{n c:String}(hn:GK n)(hc:rN c):PySem.W.kitOne K (.type n) (.type c)=some (ft n c):=by
 rcases hn with rfl|rfl|rfl|rfl|rfl|rfl|rfl<;>rcases hc with rfl|rfl|rfl|rfl|rfl|rfl<;>rfl
section
variable {X:Cx}
theorem ce:dM X (.builtin "isinstance") (λxs H Q=>∃x c n,xs=[x,.ty c]/\rN c/\JS (vw X.K H) x=some n/\Q (.bl (ft n c)) H):=by
 intro pins s σ H xs us Q I r h;obtain⟨x,c,n,rfl,hc,hn,q⟩:=h;obtain⟨u,w',rfl,rx,ry⟩:=yp r;cases ry;have fin:∀tk,EP X pins σ Q (.bool (ft n c)) { s with toks:=tk }:=λtk=>⟨.bl _,H,I.tok tk,rfl,q⟩
 cases x with
 | non=>cases hn;exact fw I rx .non (eK (.inl rfl) hc) fin
 | bl b=>cases hn;exact fw I rx (.bl b) (eK (.inr (.inl rfl)) hc) fin
 | int b=>cases hn;exact fw I rx (.int b) (eK (.inr (.inr (.inl rfl))) hc) fin
 | str b=>cases hn;exact fw I rx (.str b) (eK (.inr (.inr (.inr (.inl rfl)))) hc) fin
 | flt b=>cases hn
 | byt b=>cases hn
 | ty b=>cases hn
 | ref a =>
  unfold JS at hn;dsimp only at hn;split at hn
  .rename_i e;cases hn;exact fw I rx (.lst (aM e)) (eK (.inr (.inr (.inr (.inr (.inl rfl))))) hc) fin
  .rename_i e;cases hn;exact fw I rx (.frz (i5 e λ_ z=>by cases z)) (eK (.inr (.inr (.inr (.inr (.inl rfl))))) hc) fin
  .rename_i ys e
   cases hn;cases (show u=Value.ref a from rx)
   obtain⟨its,rv,p,hz⟩:=I.tuple (oT e);obtain⟨o,h1,h2,_⟩:=p;exact Y3 PySem.W.kitx_tuple I.kIn ⟨o,h1,h2⟩ (eK (.inr (.inr (.inr (.inr (.inr (.inl rfl)))))) hc) (λz=>nomatch z) fin
  .rename_i e;cases hn;exact fw I rx (.dK (i5 e λ_ z=>by cases z)) (eK (.inr (.inr (.inr (.inr (.inr (.inr rfl)))))) hc) fin
  .cases hn
end
theorem FT:rN "int":=.inr (.inl rfl)
theorem DO:rN "bool":=.inl rfl
theorem CI:rN "list":=.inr (.inr (.inl rfl))
theorem zT:rN "tuple":=.inr (.inr (.inr (.inl rfl)))
theorem uo:bootBuiltins "abs" = some (.builtin "abs"):=by decide +kernel
theorem bK:bootBuiltins "len" = some (.builtin "len"):=by decide +kernel
theorem aI:bootBuiltins "isinstance" = some (.builtin "isinstance"):=by decide +kernel
theorem xf:bootBuiltins "max" = some (.builtin "max"):=by decide +kernel
theorem DH:bootBuiltins "min" = some (.builtin "min"):=by decide +kernel
theorem DA:bootBuiltins "int" = some (.type "int"):=by decide +kernel
theorem tK:bootBuiltins "bool" = some (.type "bool"):=by decide +kernel
theorem md:bootBuiltins "list" = some (.type "list"):=by decide +kernel
theorem jD:bootBuiltins "tuple" = some (.type "tuple"):=by decide +kernel
theorem tH:bootBuiltins "enumerate" = some (.type "enumerate"):=by decide +kernel
theorem wk:bootBuiltins "reversed" = some (.type "reversed"):=by decide +kernel
section
variable {X:Cx}
theorem wl.imp{r r':R2}(h:wl X r)(hi:∀x y H Q,r' x y H Q->r x y H Q):wl X r':=λv sl pins s σ H x y vv u Q I rx ry q hs=>h v sl pins s σ H x y vv u Q I rx ry (hi _ _ _ _ q) hs
theorem dM.imp{f:Value}{r r':List V->Hp->VK->Prop}(h:dM X f r)(hi:∀xs H Q,r' xs H Q->r xs H Q):dM X f r':=λpins s σ H xs us Q I rs q=>h pins s σ H xs us Q I rs (hi _ _ _ q)
def vQ(K:W.Frag):R2:=λx y H Q=>∃p i,x=.ref p/\y=.int i /\ ∃xs,vw K H p=some (.lst xs) /\ ∃v,pK xs i=some v/\Q v H
def Bl(K:W.Frag):R2:=λx y H Q=>∃p i,x=.ref p/\y=.int i /\ ∃xs,vw K H p=some (.tup xs) /\ ∃v,pK xs i=some v/\Q v H
theorem cO:wl X (vQ X.K):=yQ.imp λ_ _ _ _ ⟨p,i,e1,e2,xs,e3,v,e4,q⟩=>⟨p,xs,i,v,e1,e2,.of (aM e3),e4,q⟩
theorem a8:wl X (Bl X.K):=Hy.imp λ_ _ _ _ ⟨p,i,e1,e2,xs,e3,v,e4,q⟩=>⟨p,xs,i,v,e1,e2,oT e3,e4,q⟩
def fA(H:Hp)(p:Addr):Option Nat:=match H p with
 | some (.lst xs)=>some xs.length
 | some (.frz _ (.lst xs))=>some xs.length
 | some (.tup xs)=>some xs.length
 | _=>none
theorem aQ:dM X (.builtin "len") (λxs H Q=>∃p,xs=[.ref p] /\ ∃n:Nat,fA (vw X.K H) p=some n/\Q (.int n) H):=jc.imp λxs H Q ⟨p,e,n,hn,q⟩=>by
 unfold fA at hn;split at hn
 .rename_i ys hp
  cases hn;exact⟨p,ys,e,.inl (.of (aM hp)),q⟩
 .rename_i o ys hp
  cases hn;exact⟨p,ys,e,.inl (.inl (.inr ⟨o,i5 hp λ_ z=>by cases z⟩)),q⟩
 .rename_i ys hp
  cases hn;exact⟨p,ys,e,.inr (oT hp),q⟩
 .cases hn
def vT(K:W.Frag)(n:Nat)(t:AB):TG:=λv σ H Q=>∃a,v=.ref a /\ ∃xs,vw K H a=some (.tup xs)/\xs.length=n/\t xs σ H Q
theorem F1{es:List Expr}{k:Nat}{t:AB}{n:Nat}{pos:Pos}(hc:X.calm=true)(h:JI X es t)
  (hn:(assignEach es X.env).length=n:=by rfl)(hst:(assignEach es X.env).findIdx? (·.1)=none:=by rfl):PG X (.Tuple es k pos) (vT X.K n t) :=
 λpins s σ H v u Q I r ⟨a,e,xs,hx,hl,q⟩=>JB hc h hn hst pins s σ H v u Q I r ⟨a,xs,e,oT hx,hl,q⟩
theorem cZ{α:Type}{x:α}{xs:List α}:pK (x::xs) 0=some x:=bB (j:=0) rfl
theorem eM{α:Type}{x y:α}{xs:List α}:pK (x::y::xs) 1=some y:=bB (j:=1) rfl
theorem J9{α:Type}{x y z:α}{xs:List α}:pK (x::y::z::xs) 2=some z:=bB (j:=2) rfl
theorem zC{α:Type}{xs:List α}{r:Int}(h0:0<=r)(h1:r<xs.length):∃v,pK xs r=some v/\v∈xs:=by
 have h2:r.toNat<xs.length:=();refine⟨xs[r.toNat],?_,Yo h2⟩;have e:=bB (xs:=xs) (j:=r.toNat) (v:=xs[r.toNat]) (Ya h2);rw[show ((r.toNat:Nat):Int)=r by nofun] at e
 exact e
theorem eN.same_trans{H H1 H2:Hp}{st:Addr}(b:eN st H H1)(s:az H1 H2):eN st H H2:=b.trans (s.but st)
theorem EZ:xt 2 0=some 0:=rfl
theorem Ec{K:W.Frag}{b k:Bool}{H:Hp}:w8 K (.bl b) H k=(k=b):=rfl
theorem BZ{K:W.Frag}{i:Int}{k:Bool}{H:Hp}:w8 K (.int i) H k=(k=(i != 0)):=rfl
theorem yU{i j:Int}(h:0<=j/\j<=1000000/\i.natAbs<2^64):K4 i j:=h
end
def Nw(K:W.Frag)(H:Hp)(o:HO)(Q:VK):Prop:=∀p H2,vw K H p=none->az (vw K H) (vw K H2)->vw K H2 p=some o->Q (.ref p) H2
theorem Nw.ok{K:W.Frag}{H:Hp}{o:HO}{Q:VK}(h:Nw K H o Q) {p:Addr}(hk:K.lookup p=none)(hp:H p=none):Q (.ref p) (upd H p o) :=
 h p _ (by rw[cX hk];exact hp) (lJ (az.upd hp)) (by rw[cX hk];exact bj)
theorem Nw.al{K:W.Frag}{H:Hp}{o:HO}{Q:VK}(h:Nw K H o Q):∀p,H p=none->Kf K (.ref p) (upd H p o)->Q (.ref p) (upd H p o):=λp hp hk=>h.ok (hk p _ rfl bj) hp
def rD(K:W.Frag)(t:TA):TE:=λσ H Q=>t σ H λxs H1=>xs.length<=sizeLine/\Nw K H1 (.tup xs) Q
def qj(K:W.Frag)(t:TA):TE:=λσ H Q=>t σ H λxs H1=>xs.length<=sizeLine/\Nw K H1 (.lst xs) Q
def zB(K:W.Frag):TE:=λ_ H Q=>Nw K H (.dK []) Q
section
variable {X:Cx}{es:List Expr}{t:TA}{pos:Pos}
theorem EN {x1}(h:PA X es t):PE X (.Tuple es x1 pos) (rD X.K t):=by
 intro pins s σ H Q I hq;refine wpAny_Tuple_spliced (cD (h pos pins s σ H _ I hq) λus s1 ⟨xs,H1,I1,r,z,q⟩=>⟨by rw[<-r.length];exact z,?_⟩)
 have hf:H1 s1.heap.objs.size=none:=I1.hok.fresh (Yi _);refine⟨.ref s1.heap.objs.size,upd H1 s1.heap.objs.size (.tup xs),I1.laid (t':=s1.toks) (λb u e=>Heap.get?_push_of_some _ e) (Yi _) ?_,rfl,q.ok (I1.newK (Yi _)) hf⟩;exact⟨z,us,r,⟨_,Heap.get?_push_size _ rfl,rfl,_,rfl⟩⟩
theorem Ek(h:PA X es t):PE X (.List es pos) (qj X.K t):=by
 intro pins s σ H Q I hq;refine wpAny_List_spliced (cD (h pos pins s σ H _ I hq) λus s1 ⟨xs,H1,I1,r,z,q⟩=>⟨by rw[<-r.length];exact z,?_⟩)
 have hf:H1 s1.heap.objs.size=none:=I1.hok.fresh (Yi _);refine⟨.ref s1.heap.objs.size,upd H1 s1.heap.objs.size (.lst xs),I1.laid (t':=s1.toks) (λb u e=>Heap.get?_push_of_some _ e) (Yi _) ?_,rfl,q.ok (I1.newK (Yi _)) hf⟩;exact⟨z,us,0,r,Heap.get?_push_size _ rfl⟩
theorem EF:PE X (.Dict [] [] pos) (zB X.K):=λpins s σ H Q I h=>cD (CV pins s σ H (λv H'=>Kf X.K v H'->Q v H') I h.al) λu' s' ⟨v',H',I',r',q'⟩=>⟨v',H',I',r',q' λp o _ hp=>I'.noK hp⟩
theorem fk.imp{f:Value->Value->Sem Value}{r r':R2}(h:fk X f r)(hi:∀x y H Q,r' x y H Q->r x y H Q):fk X f r':=λpins s σ H x y v u Q I rx ry q=>h pins s σ H x y v u Q I rx ry (hi _ _ _ _ q)
def xR(K:W.Frag):R2:=λx y H Q=>∃l b,x=.ref l/\y=.ref b /\ ∃xs,vw K H l=some (.lst xs) /\ ∃zs,vw K H b=some (.lst zs)/\xs.length+zs.length<=sizeLine/\Nw K H (.lst (xs++zs)) Q
theorem Ge:fk X (binaryOp .Add) (xR X.K):=IE.kf.imp λ_ _ _ _ ⟨l,b,e1,e2,xs,h1,zs,h2,z,q⟩=>⟨l,b,xs,zs,e1,e2,aM h1,aM h2,z,q.al⟩
def yd(K:W.Frag):R2:=λx y H Q=>∃l k,x=.ref l/\y=.int k /\ ∃xs,vw K H l=some (.lst xs) /\ -(2^63)<=k/\k<2^63/\xs.length*k.toNat<=sizeLine/\Nw K H (.lst (List.replicate k.toNat xs).flatten) Q
theorem EX:fk X (binaryOp .Mult) (yd X.K):=Jc.kf.imp λ_ _ _ _ ⟨l,k,e1,e2,xs,h1,z1,z2,z3,q⟩=>⟨l,k,xs,e1,e2,aM h1,z1,z2,z3,q.al⟩
def i8(K:W.Frag):R2:=λx y H Q=>rI IntMulOk (λi j=>.int (i*j)) x y H Q\/yd K x y H Q
def jr(K:W.Frag):R2:=λx y H Q=>yZ (λi j=>.int (i+j)) x y H Q\/xR K x y H Q
theorem aS:fk X (binaryOp .Mult) (i8 X.K):=FR.or EX
theorem aV:fk X (binaryOp .Add) (jr X.K):=GQ.or Ge
theorem dF{K:W.Frag}{i j:Int}{H:Hp}{Q:VK}:i8 K (.int i) (.int j) H Q=(IntMulOk i j/\Q (.int (i*j)) H):=by
 simp[i8,rI,yd]
theorem lT{K:W.Frag}{l:Addr}{j:Int}{H:Hp}{Q:VK}:i8 K (.ref l) (.int j) H Q = ∃xs,vw K H l=some (.lst xs) /\ -(2^63)<=j/\j<2^63/\xs.length*j.toNat<=sizeLine/\Nw K H (.lst (List.replicate j.toNat xs).flatten) Q:=by
 simp[i8,rI,yd]
theorem iL{K:W.Frag}{i j:Int}{H:Hp}{Q:VK}:jr K (.int i) (.int j) H Q=Q (.int (i+j)) H:=by
 simp[jr,yZ,xR]
theorem j6{K:W.Frag}{l b:Addr}{H:Hp}{Q:VK}:jr K (.ref l) (.ref b) H Q = ∃xs,vw K H l=some (.lst xs) /\ ∃zs,vw K H b=some (.lst zs)/\xs.length+zs.length<=sizeLine/\Nw K H (.lst (xs++zs)) Q:=by
 simp[jr,yZ,xR]
theorem kQ:dM X (.type "list") (λxs H Q=>∃p,xs=[.ref p] /\ ∃ys,vw X.K H p=some (.lst ys)/\Nw X.K H (.lst ys) Q):=tN.kf.imp λ_ _ _ ⟨p,e,ys,h,q⟩=>⟨p,ys,e,.inl (.of (aM h)),q.al⟩
theorem vW:dM X (.type "tuple") (λxs H Q=>∃p,xs=[.ref p] /\ ∃ys,vw X.K H p=some (.lst ys)/\Nw X.K H (.tup ys) Q):=qD.kf.imp λ_ _ _ ⟨p,e,ys,h,q⟩=>⟨p,ys,e,.inl ⟨.of (aM h),q.al⟩⟩
theorem DR.imp{r r':V->Option Int->Option Int->Hp->VK->Prop}(h:DR X r)(hi:∀x a b H Q,r' x a b H Q->r x a b H Q):DR X r':=by
 intro value p2 pins s σ H x lo hi' v vl vh sl Q
 intros
 apply h<;>first|assumption|(apply hi;assumption)
def Hr(K:W.Frag):V->Option Int->Option Int->Hp->VK->Prop:=λx lo hi H Q=>∃a,x=.ref a /\ ∃xs,vw K H a=some (.lst xs)/\Nw K H (.lst (nj xs lo hi)) Q
theorem gO:DR X (Hr X.K):=FM.kf.imp λ_ _ _ _ _ ⟨a,e,xs,h,q⟩=>⟨a,xs,e,.of (aM h),q.al⟩
def Df(K:W.Frag)(H:Hp)(l:Addr)(o:HO)(Q:Hp->Prop):Prop:=∀H2,eN l (vw K H) (vw K H2)->vw K H2 l=some o->Q H2
theorem Df.ok{K:W.Frag}{H:Hp}{l:Addr}{o:HO}{Q:Hp->Prop}(h:Df K H l o Q)(hk:K.lookup l=none):Q (upd H l o):=h _ (sV eN.upd) (by rw[cX hk];exact bj)
def AZ(K:W.Frag):V->V->V->Hp->(Hp->Prop)->Prop:=λo i v H Q=>∃p k,o=.ref p/\i=.int k /\ ∃xs,vw K H p=some (.lst xs) /\ ∃j,xt xs.length k=some j/\Df K H p (.lst (xs.set j v)) Q
theorem iM:zV X (AZ X.K):=λpins s σ H o i v ov iv u Q I ro ri rv ⟨p,k,e1,e2,xs,h,j,e3,q⟩=>Cn pins s σ H o i v ov iv u Q I ro ri rv ⟨p,xs,k,j,e1,e2,aM h,e3,q.ok (I.noK (aM h))⟩
def Cp(K:W.Frag):V->List V->Hp->VK->Prop:=λx vs H Q=>∃l y,x=.ref l/\vs=[y] /\ ∃xs,vw K H l=some (.lst xs)/\xs.length<sizeLine/\Df K H l (.lst (xs++[y])) (Q .non)
theorem c8:KR X "list.append" (Cp X.K):=λpins s σ H x vs v us Q I rx rv ⟨l,y,e1,e2,xs,h,z,q⟩=>qW pins s σ H x vs v us Q I rx rv ⟨l,xs,y,e1,e2,aM h,z,q.ok (I.noK (aM h))⟩
def Go(K:W.Frag):V->List V->Hp->VK->Prop:=λx vs H Q=>∃l,x=.ref l/\vs=[] /\ ∃xs,vw K H l=some (.lst xs) /\ ∃y,xs[xs.length-1]? = some y/\Df K H l (.lst xs.dropLast) (Q y)
theorem yx:KR X "list.pop" (Go X.K):=λpins s σ H x vs v us Q I rx rv ⟨l,e1,e2,xs,h,y,e3,q⟩=>IM pins s σ H x vs v us Q I rx rv ⟨l,xs,y,e1,e2,aM h,e3,q.ok (I.noK (aM h))⟩
end
def Bi(J:It)(g:TG)(tb:TS)(D:lU)(σ:St)(H1:Hp):Prop:=∃W:Nat->Nat->St->Hp->Prop,(∃m,W 0 m σ H1) /\ ∀i m σ H,W i m σ H ->
 (J.stop i H/\D.nx σ H)\/(J.go i H /\ ∃N:St->Hp->Prop,(∀σ' H',N σ' H' -> ∃m',m'<m/\W (i+1) m' σ' H') /\ ∀x H',J.yld i H x H'->g x σ H' λσ2 H2=>tb { D with nx:=N,ct:=N,bk:=D.nx } σ2 H2)
theorem Fg(wi:TI)(g:TG)(tb:TS)(D:lU)(σ:St)(H:Hp):Jk wi g tb D σ H=wi σ H λJ H1=>Bi J g tb D σ H1:=rfl
inductive D where
 | non|bl (b:Bool)|int (i:Int)|str (x:Str)|dict|tup (ds:List D)|lst (ds:List D)
mutual
def aD(H:Hp):D->V->Prop
 | .non,v=>v=.non
 | .bl b,v=>v=.bl b
 | .int i,v=>v=.int i
 | .str x,v=>v=.str x
 | .dict,v=>∃a kvs,v=.ref a/\H a=some (.dK kvs)
 | .tup ds,v=>∃a xs,v=.ref a/\H a=some (.tup xs)/\aH H ds xs
 | .lst ds,v=>∃a xs,v=.ref a/\H a=some (.lst xs)/\aH H ds xs
def aH(H:Hp):List D->List V->Prop
 | [],xs=>xs=[]
 | d::ds,xs=>∃x r,xs=x::r/\aD H d x/\aH H ds r
end
mutual
theorem aD.same{H H':Hp}(S:az H H'):∀(d:D)(v:V),aD H d v->aD H' d v
 | .non,v,h=>by unfold aD at h ⊢;exact h
 | .bl b,v,h=>by unfold aD at h ⊢;exact h
 | .int i,v,h=>by unfold aD at h ⊢;exact h
 | .str x,v,h=>by unfold aD at h ⊢;exact h
 | .dict,v,h=>by
  unfold aD at h ⊢;obtain⟨a,kvs,e,h⟩:=h;exact⟨a,kvs,e,S _ _ h⟩
 | .tup ds,v,h=>by
  unfold aD at h ⊢;obtain⟨a,xs,e,h,r⟩:=h;exact⟨a,xs,e,S _ _ h,aH.same S ds xs r⟩
 | .lst ds,v,h=>by
  unfold aD at h ⊢;obtain⟨a,xs,e,h,r⟩:=h;exact⟨a,xs,e,S _ _ h,aH.same S ds xs r⟩
theorem aH.same{H H':Hp}(S:az H H'):∀(ds:List D)(xs:List V),aH H ds xs->aH H' ds xs
 | [],xs,h=>by unfold aH at h ⊢;exact h
 | d::ds,xs,h=>by
  unfold aH at h ⊢;obtain⟨x,r,e,h1,h2⟩:=h;exact⟨x,r,e,aD.same S d x h1,aH.same S ds r h2⟩
end
theorem aH.get{H:Hp}:∀{ds:List D}{xs:List V}{i:Nat}{x:V},aH H ds xs->xs[i]? = some x -> ∃d,ds[i]? = some d/\aD H d x
 | [],xs,i,x,h,e=>by
  unfold aH at h;subst h;simp at e
 | d::ds,xs,i,x,h,e=>by
  unfold aH at h;obtain⟨y,r,rfl,h1,h2⟩:=h;cases i with
  | zero =>
   have e':y=x:=by simpa using e
   subst e';exact⟨d,by simp,h1⟩
  | succ i =>
   obtain⟨d',e1,e2⟩:=aH.get (i:=i) h2 (by simpa using e)
   exact⟨d',by simpa using e1,e2⟩
theorem aH.length{H:Hp}:∀{ds:List D}{xs:List V},aH H ds xs->xs.length=ds.length
 | [],xs,h=>by
  unfold aH at h;subst h;rfl
 | d::ds,xs,h=>by
  unfold aH at h;obtain⟨y,r,rfl,_,h2⟩:=h;simp[aH.length h2]
def D.ty:D->String
 | .non=>"NoneType" | .bl _=>"bool" | .int _=>"int" | .str _=>"str" | .dict=>"dict" | .tup _=>"tuple" | .lst _=>"list"
theorem aD.ty{H:Hp}{d:D}{v:V}(h:aD H d v):JS H v=some d.ty:=by
 cases d<;>unfold aD at h
 .subst h;rfl
 .subst h;rfl
 .subst h;rfl
 .subst h;rfl
 .obtain⟨a,kvs,rfl,h⟩:=h;simp only[JS,h,D.ty]
 .obtain⟨a,xs,rfl,h,_⟩:=h;simp only[JS,h,D.ty]
 .obtain⟨a,xs,rfl,h,_⟩:=h;simp only[JS,h,D.ty]
theorem uV(a b:Int):Int.gcd b (a.fmod b)=Int.gcd a b:=by
 rw[Int.fmod_def,Int.gcd_comm a b];have:a-b*a.fdiv b=a+b*(- a.fdiv b):=by rw[Int.mul_neg];nofun
 rw[this];simp
theorem yv(a:Int){b:Int}(hb:b≠0):(a.fmod b).natAbs<b.natAbs:=by
 rcases Int.lt_or_gt_of_ne hb with h|h
 .obtain⟨n,rfl⟩ : ∃n:Nat,b=Int.negSucc n:=⟨(-b-1).toNat,()⟩;cases a with
  | ofNat m =>
   cases m with
   | zero=>simp[Int.fmod]
   | succ m =>
    show (Int.subNatNat (m%(n+1)) n).natAbs<n+1;have:=Nat.mod_lt m (show 0<n+1 by nofun)
    rw[Int.subNatNat_eq_coe];generalize m%(n+1)=z at *
    nofun
  | negSucc m =>
   show (-((((m+1)%(n+1):Nat)):Int)).natAbs<n+1;have:=Nat.mod_lt (m+1) (show 0<n+1 by nofun)
   generalize (m+1)%(n+1)=z at *
   nofun
 .have h1:=Xj a h;have h2:=XE a h;nofun
def lg(a b:Int):Int:=if b<0 then -(Int.gcd a b:Int) else (Int.gcd a b:Int)
def lo(a b:Int):Int×Int:=(a.fdiv (lg a b),b.fdiv (lg a b))
def fr(q:Int×Int):D:=.tup [.int q.1,.int q.2]
def Fq(q:Int×Int):Prop:=0<q.2/\Int.gcd q.1 q.2=1
theorem Bc{a b:Int}(hb:b≠0):lg a b≠0:=by
 have h:Int.gcd a b≠0:=λe=>hb (Int.gcd_eq_zero_iff.mp e).2;unfold lg;split<;>nofun
theorem vx(a b:Int):lg a b∣a:=by
 unfold lg;split
 .exact Int.neg_dvd.mpr (Int.gcd_dvd_left ..)
 .exact Int.gcd_dvd_left ..
theorem sG(a b:Int):lg a b∣b:=by
 unfold lg;split
 .exact Int.neg_dvd.mpr (XH ..)
 .exact XH ..
theorem fU{a b:Int}(hb:b≠0):(lo a b).1*lg a b=a:=by
 show a.fdiv (lg a b)*lg a b=a;exact Int.fdiv_mul_cancel (vx a b)
theorem gD{a b:Int}(hb:b≠0):(lo a b).2*lg a b=b:=by
 show b.fdiv (lg a b)*lg a b=b;exact Int.fdiv_mul_cancel (sG a b)
theorem Ap(a b:Int):(lg a b).natAbs=Int.gcd a b:=by
 unfold lg;split<;>nofun
theorem kh{a b:Int}(hb:b≠0):Fq (lo a b):=by
 have h1:=fU (a:=a) hb;have h2:=gD (a:=a) hb;have hg:0<Int.gcd a b:=Nat.pos_of_ne_zero λe=>hb (Int.gcd_eq_zero_iff.mp e).2;constructor
 .by_cases hn:b<0
  .have e:lg a b = -(Int.gcd a b:Int):=Yh hn;rw[e] at h2;rcases Int.lt_trichotomy (lo a b).2 0 with h|h|h
   .have:=Int.mul_nonneg_of_nonpos_of_nonpos (Int.le_of_lt h) (show -(Int.gcd a b:Int)<=0 by nofun)
    nofun
   .rw[h] at h2;nofun
   .exact h
  .have e:lg a b=(Int.gcd a b:Int):=Yc hn;rw[e] at h2;rcases Int.lt_trichotomy (lo a b).2 0 with h|h|h
   .have:=Int.mul_nonpos_of_nonpos_of_nonneg (Int.le_of_lt h) (show 0<=(Int.gcd a b:Int) by nofun)
    nofun
   .rw[h] at h2;nofun
   .exact h
 .have e:Int.gcd ((lo a b).1*lg a b) ((lo a b).2*lg a b)=Int.gcd (lo a b).1 (lo a b).2*(lg a b).natAbs:=Int.gcd_mul_right ..;rw[h1,h2,Ap] at e;have:1*Int.gcd a b=Int.gcd (lo a b).1 (lo a b).2*Int.gcd a b:=();exact (Nat.eq_of_mul_eq_mul_right hg this).symm
mutual
def D.noSt:D->Bool
 | .lst [.int _,.bl _]=>false
 | .lst ds=>D.noSts ds
 | .tup ds=>D.noSts ds
 | _=>true
def D.noSts:List D->Bool
 | []=>true
 | d::ds=>d.noSt && D.noSts ds
end
def dS(H:Hp)(st:Addr):Prop:=∃x b,H st=some (.lst [.int x,.bl b])/\(b=false->0<=x/\x<2147483647)
theorem Cz{ds:List D}(h:D.noSt (.lst ds)=true):D.noSts ds=true /\ ∀i b,ds≠[.int i,.bl b]:=by
 unfold D.noSt at h;split at h
 .cases h
 .rename_i hne e
  cases e;exact⟨h,λi b z=>hne i b (by rw[z])⟩
 .rename_i e;cases e
 .rename_i e _;exact (e _ rfl).elim
theorem aD.lst_st{H:Hp}{ds:List D}{x:Int}{b:Bool}(h:aH H ds [.int x,.bl b]):ds=[.int x,.bl b]:=by
 match ds with
 | []=>unfold aH at h;cases h
 | [d] =>
  unfold aH at h;obtain⟨_,_,e,_,h⟩:=h;unfold aH at h;subst h;cases e
 | d1::d2::d3::r =>
  have:=aH.length h;simp at this
 | [d1,d2] =>
  unfold aH at h;obtain⟨_,_,e,h1,h⟩:=h;cases e;unfold aH at h;obtain⟨_,_,e,h2,h⟩:=h;cases e;have e1:d1=.int x:=by
   cases d1<;>unfold aD at h1<;>first|(cases h1;rfl)|(obtain⟨_,_,e,_⟩:=h1;cases e)|cases h1
  have e2:d2=.bl b:=by
   cases d2<;>unfold aD at h2<;>first|(cases h2;rfl)|(obtain⟨_,_,e,_⟩:=h2;cases e)|cases h2
  rw[e1,e2]
mutual
theorem aD.but{H H':Hp}{st:Addr}(S:eN st H H')(hst:dS H st):∀(d:D)(v:V),d.noSt=true->aD H d v->aD H' d v
 | .non,v,_,h=>by unfold aD at h ⊢;exact h
 | .bl b,v,_,h=>by unfold aD at h ⊢;exact h
 | .int i,v,_,h=>by unfold aD at h ⊢;exact h
 | .str x,v,_,h=>by unfold aD at h ⊢;exact h
 | .dict,v,_,h=>by
  unfold aD at h ⊢;obtain⟨a,kvs,e,h⟩:=h;obtain⟨_,_,hs,_⟩:=hst;exact⟨a,kvs,e,S _ _ (BQ h hs (by intro z;cases z)) h⟩
 | .tup ds,v,hn,h=>by
  unfold aD at h ⊢;obtain⟨a,xs,e,h,r⟩:=h;obtain⟨x,b,hs,hb⟩:=id hst;exact⟨a,xs,e,S _ _ (BQ h hs (by intro z;cases z)) h,aH.but S hst ds xs (by unfold D.noSt at hn;exact hn) r⟩
 | .lst ds,v,hn,h=>by
  unfold aD at h ⊢;obtain⟨a,xs,e,h,r⟩:=h;obtain⟨x,b,hs,hb⟩:=id hst;obtain⟨hn1,hn2⟩:=Cz hn;refine⟨a,xs,e,S _ _ (BQ h hs λz=>?_) h,aH.but S hst ds xs hn1 r⟩;cases z;exact hn2 _ _ (aD.lst_st r)
theorem aH.but{H H':Hp}{st:Addr}(S:eN st H H')(hst:dS H st):∀(ds:List D)(xs:List V),D.noSts ds=true->aH H ds xs->aH H' ds xs
 | [],xs,_,h=>by unfold aH at h ⊢;exact h
 | d::ds,xs,hn,h=>by
  unfold D.noSts at hn;rw[Xk] at hn;unfold aH at h ⊢;obtain⟨x,r,e,h1,h2⟩:=h;exact⟨x,r,e,aD.but S hst d x hn.1 h1,aH.but S hst ds r hn.2 h2⟩
end
theorem dS.same{H H':Hp}{st:Addr}(h:dS H st)(S:az H H'):dS H' st:=by
 obtain⟨x,b,e,k⟩:=h;exact⟨x,b,S _ _ e,k⟩
theorem dS.ne{H:Hp}{st p:Addr}(h:dS H st)(hp:H p=none):p≠st:=by
 obtain⟨x,b,e,k⟩:=h;exact (aj e hp).symm
theorem eY(q:Int×Int):(fr q).noSt=true:=by simp[fr,D.noSt,D.noSts]
def D.isInt:D->Bool
 | .int _=>true
 | _=>false
def D.frac:D->Bool
 | .tup [.int t,.int b]=>decide (0<b) && decide (Int.gcd t b=1)
 | _=>false
theorem ox{q:Int×Int}(h:Fq q):(fr q).frac=true:=by
 simp[fr,D.frac,h.1,h.2]
theorem aD.tup_at{H:Hp}{ds:List D}{v:V}(h:aD H (.tup ds) v):∃a xs,v=.ref a/\H a=some (.tup xs)/\aH H ds xs:=by
 unfold aD at h;exact h
theorem aD.lst_at{H:Hp}{ds:List D}{v:V}(h:aD H (.lst ds) v):∃a xs,v=.ref a/\H a=some (.lst xs)/\aH H ds xs:=by
 unfold aD at h;exact h
theorem aH.nil_at{H:Hp}{xs:List V}(h:aH H [] xs):xs=[]:=by
 unfold aH at h;exact h
theorem aH.cons_at{H:Hp}{d:D}{ds:List D}{xs:List V}(h:aH H (d::ds) xs):∃x r,xs=x::r/\aD H d x/\aH H ds r:=by
 unfold aH at h;exact h
theorem aD.int_at{H:Hp}{i:Int}{v:V}(h:aD H (.int i) v):v=.int i:=by
 unfold aD at h;exact h
theorem aH.pair{H:Hp}{ds:List D}{xs:List V}(h:aH H ds xs)(hl:xs.length=2):∃d1 d2 x1 x2,ds=[d1,d2]/\xs=[x1,x2]/\aD H d1 x1/\aD H d2 x2:=by
 have e:=h.length;match ds,e with
 | [],e=>rw[hl] at e;cases e
 | [_],e=>rw[hl] at e;cases e
 | _::_::_::_,e=>rw[hl] at e;cases e
 | [d1,d2],_ =>
  obtain⟨x1,r,rfl,h1,h⟩:=h.cons_at;obtain⟨x2,r,rfl,h2,h⟩:=h.cons_at;cases h.nil_at;exact⟨_,_,_,_,rfl,rfl,h1,h2⟩
theorem aD.mk_int{H:Hp}(i:Int):aD H (.int i) (.int i):=by unfold aD;rfl
theorem aD.mk_str{H:Hp}(i:Str):aD H (.str i) (.str i):=by unfold aD;rfl
theorem aH.mk_nil{H:Hp}:aH H [] []:=by unfold aH;rfl
theorem aH.mk_cons{H:Hp}{d:D}{ds:List D}{x:V}{xs:List V}(h1:aD H d x)(h2:aH H ds xs):aH H (d::ds) (x::xs):=by unfold aH;exact⟨_,_,rfl,h1,h2⟩
theorem aD.mk_tup{H:Hp}{a:Addr}{ds:List D}{xs:List V}(h:H a=some (.tup xs))(r:aH H ds xs):aD H (.tup ds) (.ref a):=by unfold aD;exact⟨_,_,rfl,h,r⟩
theorem aD.mk_lst{H:Hp}{a:Addr}{ds:List D}{xs:List V}(h:H a=some (.lst xs))(r:aH H ds xs):aD H (.lst ds) (.ref a):=by unfold aD;exact⟨_,_,rfl,h,r⟩
theorem aD.fr_at{H:Hp}{q:Int×Int}{v:V}(h:aD H (fr q) v):∃a,v=.ref a/\H a=some (.tup [.int q.1,.int q.2]):=by
 obtain⟨a,xs,e,ha,r⟩:=h.tup_at;obtain⟨x1,r1,rfl,h1,r⟩:=r.cons_at;obtain⟨x2,r2,rfl,h2,r⟩:=r.cons_at;cases r.nil_at;rw[h1.int_at,h2.int_at] at ha;exact⟨a,e,ha⟩
theorem D.frac_tup{ds:List D}(h:(D.tup ds).frac=true):∃a b,ds=[.int a,.int b]/\Fq (a,b):=by
 unfold D.frac at h;split at h
 .rename_i t b e
  cases e;simp at h;exact⟨_,_,rfl,h.1,h.2⟩
 .cases h
abbrev Bt (n:Nat)(x:Int):Prop:=x.natAbs<2^n
theorem Bt.ib{n:Nat}{x:Int}(h:Bt n x):Builtin.Int.intBits x<=n:=by
 unfold Builtin.Int.intBits;split
 .exact Y7 _
 .rename_i h0
  have h1:x.natAbs≠0:=by
   intro e;apply h0
   have:x=0:=();rw[this];rfl
  have:=(Nat.log2_lt h1).mpr h;nofun
theorem bV{m n:Nat}{x y:Int}(hx:Bt m x)(hy:Bt n y)(h:m+n<=134217728:=by decide):IntMulOk x y:=PySem.IntMulOk.of_le hx.ib hy.ib h
theorem Bt.mono{m n:Nat}{x:Int}(hx:Bt m x)(h:m<=n):Bt n x:=Ym hx (Y8 ∅ h)
theorem Bt.mul{m n:Nat}{x y:Int}(hx:Bt m x)(hy:Bt n y):Bt (m+n) (x*y):=by
 unfold Bt;rw[YG,Xt];exact Nat.mul_lt_mul'' hx hy
theorem Bt.add{m n:Nat}{x y:Int}(hx:Bt m x)(hy:Bt n y):Bt (max m n+1) (x+y):=by
 have h1:=hx.mono (Nat.le_max_left m n);have h2:=hy.mono (Nat.le_max_right m n);unfold Bt at *
 rw[Xe];have:=Int.natAbs_add_le x y;nofun
theorem Bt.sub{m n:Nat}{x y:Int}(hx:Bt m x)(hy:Bt n y):Bt (max m n+1) (x-y):=by
 have h1:=hx.mono (Nat.le_max_left m n);have h2:=hy.mono (Nat.le_max_right m n);unfold Bt at *
 rw[Xe];have:=Int.natAbs_sub_le x y;nofun
theorem Za{x y:Int}{X:Nat}(a:x.natAbs<X)(b:y.natAbs<X):(x+y).natAbs<X*2:=by
 have:=Int.natAbs_add_le x y;nofun
theorem Zb{x y:Int}{X:Nat}(a:x.natAbs<X)(b:y.natAbs<X):(x-y).natAbs<X*2:=by
 have:=Int.natAbs_sub_le x y;nofun
theorem Zc{x y:Int}{X:Nat}(a:x.natAbs<=X)(b:y.natAbs<=X):(x+y).natAbs<=2*X:=by
 have:=Int.natAbs_add_le x y;nofun
theorem Ia{x y:Int}(h:y≠0)(hb:Bt 9000 y):Gp x y:=⟨h,by
 by_cases h0:y.natAbs=0
 .rw[h0];decide +kernel
 .exact (Nat.log2_lt h0).mpr hb⟩
theorem zh{x k:Int}{n:Nat}(hk:0<k)(h:k.natAbs<=2^n):Bt n (x.fmod k):=by
 have h1:=Xj x hk;have h2:=XE x hk;unfold Bt;nofun
theorem oF{x y:Int}(hx:Bt 64 x):IntMulOk x y:=.of_left hx.ib
theorem FW{x y:Int}(hy:Bt 64 y):IntMulOk x y:=.of_right hy.ib
end L2
namespace L2
theorem m4{c A B:Prop} [Decidable c] (hc:c)(h:A):if c then A else B:=by rw[Yh hc];exact h
theorem iZ{c A B:Prop} [Decidable c] (hc:¬ c)(h:B):if c then A else B:=by rw[Yc hc];exact h
end L2
namespace L2
theorem D.isInt_of{d:D}(h:¬ d.isInt=false):∃i,d=.int i:=by
 cases d<;>first|exact⟨_,rfl⟩|exact absurd rfl h
theorem yk{t b:Int}(h:b<1):(D.tup [.int t,.int b]).frac=false:=by
 simp only[D.frac,YZ (show ¬ (0:Int)<b by nofun),Bool.false_and]
theorem yJ{t b:Int}(h:0<b):(D.tup [.int t,.int b]).frac=decide (((Int.gcd t b:Nat):Int)=1):=by
 simp only[D.frac,Y1 h,Bool.true_and];apply decide_eq_decide.mpr
 nofun
end L2
namespace L2
open PySem
mutual
def D.ib:D->Bool
 | .int i=>decide (i.natAbs<2^200)
 | .tup ds=>D.ibs ds
 | .lst ds=>D.ibs ds
 | _=>true
def D.ibs:List D->Bool
 | []=>true
 | d::ds=>d.ib && D.ibs ds
end
theorem yn{ds:List D}(h:D.noSts ds=true)(hn:∀i b,ds≠[.int i,.bl b]):D.noSt (.lst ds)=true:=by
 unfold D.noSt;split
 .rename_i e;cases e;exact absurd rfl (hn _ _)
 .rename_i e;cases e;exact h
 .rename_i e;cases e
 .rfl
end L2
namespace L2
open PySem PySem.Spec PyProof.Rows
section
variable {prog:Program}{w:World}{A:Around}{R:Result->Shared->Prop}{s:Shared}
theorem sS{elt target iter:Expr}{ifs:List Expr}{scope:Scope}{pos:Pos}{it acc:Value}{env:Env}{EE:Value->Shared->Prop}(hEE:EE=notedBy (model prog w) A env λe s'=>R (.error e) s')(Iv:Nat->Shared->Prop)
  (turn:∀n s,Iv n s->wpAny (model prog w) A (pyNext it) (λr s1=>match r with
   | none=>R (.ok .next) s1
   | some v=>wpAny (model prog w) A (letOwnedTupleGo target it v) (λ_ s2=>wpAny (model prog w) A (assign target env v) (λ_ s3 =>
     wpAny (model prog w) A (forIn ifs true λc r=>if r=true then do let ok <-isTrue c env (eval c env);pure (ForInStep.yield ok) else pure (ForInStep.yield r)) (λok s4 =>
      if ok=true then wpAny (model prog w) A (eval elt env) (λx s5=>wpAny (model prog w) A (call (.builtin "list.append") [acc,x]) (λ_ s6=>∃m,m<n/\Iv m s6) EE s5) EE s4
      else ∃m,m<n/\Iv m s4) EE s3) EE s2) EE s1) EE s)
  (n:Nat)(h:Iv n s):codeAny (model prog w) A (.compLoop (.ListComp elt [⟨target,iter,ifs,0⟩] scope pos) 0 it acc env) R s:=by
 subst hEE;refine codeAny_loop rfl Iv (λn s hI=>?_) n h;show wpAny _ A ((compTurn (.ListComp elt [⟨target,iter,ifs,0⟩] scope pos) 0 it acc env).onRaise (λx=>do noteFrame x env;theTreesLotGoes x)) _ _ s
 refine wpAny_noted ?_;rw[compTurn_list];refine wpAny_bind (wpAny_standAt (wpAny_bind (wpAny_mono (turn n s hI) (λr s1 h1=>?_) λ_ _ h'=>h')));cases r with
 | none=>exact wpAny_pure h1
 | some v =>
  refine wpAny_bind (wpAny_mono h1 (λ_ s2 h2=>?_) λ_ _ h'=>h');refine wpAny_bind (wpAny_mono h2 (λ_ s3 h3=>wpAny_bind (wpAny_mono h3 (λok s4 h4=>?_) λ_ _ h'=>h')) λ_ _ h'=>h');cases ok with
  | false=>exact wpAny_pure ⟨rfl,h4⟩
  | true=>exact wpAny_bind (wpAny_bind (wpAny_mono h4 (λx s5 h5=>wpAny_bind (wpAny_mono h5 (λ_ s6 h6=>wpAny_pure (wpAny_pure ⟨rfl,h6⟩)) λ_ _ h'=>h')) λ_ _ h'=>h'))
end
def nJ(X:Cx)(scope:Scope)(cl:List (Str×Addr))(N:List Str)(C:Addr)(s:Shared)(H:Hp)(ex:List Addr):Cx :=
 { X with N:=N,s₀:=s,H₀:=H,env:=compEnvC scope cl C X.env,outer:=X.stack,ex:=ex,fn:=λ_=>false,pn:=[],xe:=λ_ _=>False }
def vb(X:Cx)(scope:Scope)(cl:List (Str×Addr)):List Str->List Nat->Prop
 | [],[]=>True
 | x::xs,j::js=>(X.N[j]? = some x /\ X.env.kindOf x = some .cell /\ (relabel scope X.env).names.lookup x = some .cell /\ (∃c,cl.lookup x = some c)) /\ vb X scope cl xs js
 | _,_=>False
theorem vb.length{X:Cx}{scope:Scope}{cl:List (Str×Addr)}:∀{xs:List Str}{js:List Nat},vb X scope cl xs js->js.length=xs.length
 | [],[],_=>rfl
 | _::_,_::_,h=>by simp[vb.length h.2]
 | [],_::_,h=>h.elim
 | _::_,[],h=>h.elim
theorem vb.get{X:Cx}{scope:Scope}{cl:List (Str×Addr)}:∀{xs:List Str}{js:List Nat}{k j:Nat}{x:Str},vb X scope cl xs js->xs[k]? = some x->js[k]? = some j ->
  X.N[j]? = some x /\ X.env.kindOf x = some .cell /\ (relabel scope X.env).names.lookup x = some .cell /\ ∃c,cl.lookup x = some c
 | [],_,_,_,_,_,e,_=>by simp at e
 | _::_,[],_,_,_,_,_,e=>by simp at e
 | x::xs,j::js,0,_,_,h,e1,e2=>by
  simp at e1 e2;subst e1;subst e2;exact h.1
 | x::xs,j::js,k+1,_,_,h,e1,e2=>vb.get (k:=k) h.2 (by simpa using e1) (by simpa using e2)
def lc(X:Cx):List (Str×Addr)->Prop
 | []=>True
 | p::r=>X.env.cells.lookup p.1=some p.2/\lc X r
theorem lc.mem{X:Cx}:∀{cl:List (Str×Addr)},lc X cl -> ∀p∈cl,X.env.cells.lookup p.1=some p.2
 | [],_,p,hp=>by cases hp
 | q::r,h,p,hp=>by
  rcases YY.mp hp with rfl|hp
  .exact h.1
  .exact lc.mem h.2 p hp
structure qp (X:Cx)(scope:Scope)(cl:List (Str×Addr))(own outs:List Str)(ixs:List Nat):Prop where
 nocell:(scope.names.all λy=>y.2 != .cell)=true
 kind:scope.kind=.function
 names:(scope.names.all λy=>y.2 != .local || scope.names.lookup y.1==some .local)=true
 cells:lc X cl
 has:((relabel scope X.env).names.all λy=>!(y.2 == .cell || y.2 == .free) || (cl.lookup y.1).isSome) = true
 outs:vb X scope cl outs ixs
def PF(X:Cx)(ifs:List Expr)(t:TT):Prop :=
 ∀(pins:List (Addr×Obj))(s:Shared)(σ:St)(H:Hp)(Q:Bool->Hp->Prop),aJ X pins σ H s->t σ H Q ->
  wpAny (model X.prog X.w) X.A (forIn ifs true λc r=>if r=true then do let ok <-isTrue c X.env (eval c X.env);pure (ForInStep.yield ok) else pure (ForInStep.yield r)) (TP X pins σ Q) X.xe s
def IN:TT:=λ_ H Q=>Q true H
theorem IP{X:Cx}:PF X [] IN:=λ_ _ _ H _ I h=>wpAny_tests_nil ⟨H,I,h⟩
theorem Iz{X:Cx}{c:Expr}{t:TT}(h:PT X c t):PF X [c] t:=λpins s σ H Q I q=>wpAny_tests_one (h pins s σ H Q I q)
def um(K:W.Frag)(J:It)(g:TG)(tif:TT)(te:TE)(a:Addr)(σ0:St)(H0:Hp)(Q:Hp->Prop):Prop:=∃W:Nat->Nat->St->Hp->Prop,(∃m,W 0 m σ0 H0) /\ ∀i m σ H,W i m σ H ->
 (J.stop i H/\Q H)\/(J.go i H /\ ∃N:St->Hp->Prop,(∀σ' H',N σ' H' -> ∃m',m'<m/\W (i+1) m' σ' H') /\ ∀x H',J.yld i H x H'->g x σ H' λσ2 H2=>tif σ2 H2 λb H3=>if b=true then te σ2 H3 λv H4=>∃xs,vw K H4 a=some (.lst xs)/\xs.length<sizeLine /\
  ∀H5,eN a (vw K H4) (vw K H5)->vw K H5 a=some (.lst (xs++[v]))->N σ2 H5 else N σ2 H3)
def xC(σ:St)(ixs:List Nat):St:=ixs.map λj=>(σ[j]?).join
def uS(K:W.Frag)(wi:TI)(n:Nat)(ixs:List Nat)(g:TG)(tif:TT)(te:TE):TE:=λσ H Q=>wi σ H λJ H1=>∀a H2,vw K H1 a=none->az (vw K H1) (vw K H2)->vw K H2 a=some (.lst [])->um K J g tif te a (List.replicate n none++xC σ ixs) H2 (Q (.ref a))
section
variable {X:Cx}
theorem rf{tg iter elt:Expr}{ifs:List Expr}{scope:Scope}{pos ipos:Pos}{wi:TI}{g:TG}{tif:TT}{te:TE}{cl:List (Str×Addr)}{own outs:List Str}{ixs:List Nat}{use:Option (Value->Sem Unit)}{Qv:Value->Shared->Prop}
  (hc:X.calm=true)(hi:PI X tg iter wi)(hclos:closureFor scope X.env=pure cl)(S:qp X scope cl own outs ixs)
  {G:Shared->Hp->List Addr->Prop}(hb:∀C s H ex,G s H ex->PG (nJ X scope cl (own++outs) C s H ex) tg g/\PF (nJ X scope cl (own++outs) C s H ex) ifs tif/\PE (nJ X scope cl (own++outs) C s H ex) elt te)
  (hs:∀x,foldedSetIterable iter X.env x=pure x) {pins:List (Addr×Obj)}{s:Shared}{σ:St}{H:Hp}(hG:∀s2 H1 H2 fp,aJ X pins σ H2 s2->(∀b∈fp,qK X pins H1 b)->G s2 H2 fp)(I:aJ X pins σ H s)(Qd:Addr->Hp->Prop)
  (hfin:∀(a C:Addr)(H':Hp)(s4:Shared)(m:Str->Option Value),aJ X pins σ H' s4->qK X pins H' C->s4.heap.Ns C m->Qd a H'->compPost (model X.prog X.w) X.A X.xe use Qv (.ref a) C (.ok .next) s4)
  (h:wi σ H λJ H1=>∀a H2,vw X.K H1 a=none->az (vw X.K H1) (vw X.K H2)->vw X.K H2 a=some (.lst [])->um X.K J g tif te a (List.replicate own.length none++xC σ ixs) H2 (Qd a)) :
  wpAny (model X.prog X.w) X.A (comprehension (.ListComp elt [⟨tg,iter,ifs,0⟩] scope pos) scope X.env ipos (newList []) false (eval iter X.env) use) Qv X.xe s:=by
 have Snc:∀y∈scope.names,y.2 ≠ .cell:=λy hy z=>by
  have:=List.all_eq_true.mp S.nocell y hy;rw[z] at this;cases this
 have Snm:∀y∈scope.names,y.2=.local->scope.names.lookup y.1=some .local:=λy hy z=>by
  have:=List.all_eq_true.mp S.names y hy;rw[z] at this;simpa using this
 have Shs:∀y∈(relabel scope X.env).names,(y.2=.cell \/ y.2=.free) -> (cl.lookup y.1).isSome = true:=λy hy z=>by
  have:=List.all_eq_true.mp S.has y hy;rcases z with z|z
  .rw[z] at this;simpa using this
  .rw[z] at this;simpa using this
 refine wpAny_comprehension_free (use:=use) rfl hs hclos S.kind Snm (wpAny_mono (hi pins s σ H _ I h) (λxv s1 h1=>wpAny_mono h1 (λitv s2 h2=>?_) λ_ _ e=>e) λ_ _ e=>e);obtain⟨it,fp,tn,J,H1,rfl,I1,T,st1,f1,q⟩:=h2;refine wpAny_newObj_type (wpAny_newFunctionEnv Snc (by intro y hy;simp at hy) (λh₁ hns₁ hsb₁=>?_) S.kind)
 dsimp only at hns₁ hsb₁ ⊢;have I2:aJ X pins σ (upd H1 s2.heap.objs.size (.lst [])) { s2 with heap:=s2.heap.push { cls:=.type "list",dict:=none,data:=.seq ([]:List Value).toArray } }:=I1.lnew (t':=s2.toks) .nil (Y7 _)
 have q2:=q s2.heap.objs.size (upd H1 s2.heap.objs.size (.lst [])) (by rw[cX (I1.newK (Yi _))];exact I1.fresh) (lJ (az.upd I1.fresh)) (by rw[cX (I1.newK (Yi _))];exact bj)
 have fr2:∀b∈fp,(upd H1 s2.heap.objs.size (.lst [])) b=none:=λb hb=>by
  obtain⟨o,ho,_⟩:=T.obj _ _ st1 b hb;rw[aT (YR (Heap.lt_size ho))];exact (f1 b hb).1
 generalize hH2:upd H1 s2.heap.objs.size (.lst [])=H2 at I2 q2 fr2;generalize hs3:s2.heap.push { cls:=.type "list",dict:=none,data:=.seq ([]:List Value).toArray } = hp3 at I2 hns₁ hsb₁ ⊢;have old23:∀b o,s2.heap.get? b=some o->hp3.get? b=some o:=λb o e=>hs3▸Heap.get?_push_of_some _ e;have ltC:∀{b:Addr}{o:Obj},hp3.get? b=some o->b≠hp3.objs.size:=λe=>YR (Heap.lt_size e);have old:∀b o,hp3.get? b=some o->h₁.get? b=some o:=λb o e=>hsb₁.extBut b o (ltC e) (Heap.get?_push_of_some _ e);have clc:∀x c,cl.lookup x=some c->X.env.cells.lookup x=some c:=λx c e=>S.cells.mem (x,c) (YU e);obtain⟨W,⟨m0,w0⟩,turn⟩:=q2;have fpo:∀b∈fp,∃o,hp3.get? b=some o:=λb hb=>by
  obtain⟨o,ho,_⟩:=T.obj _ _ st1 b hb;exact⟨o,old23 b o ho⟩
 have ok:(nJ X scope cl (own++outs) hp3.objs.size { s2 with heap:=hp3 } H2 fp).Ok:=by
  refine⟨I.ok.mod,S.kind,I.ok.glob,I.ok.blt,Yi _,λx y c e1 e2=>I.ok.inj x y c (clc x c e1) (clc y c e2),λx hx=>?_,λx c hf _=>(by cases hf),I.ok.hd,I.ok.frames,.inl rfl,λb hb=>⟨?_,λx c e=>?_⟩,I2.bs,Yz I.ok.bsz I2.sz,λb o e hb=>?_,λb hb hz=>?_,I2.stack,I2.stkFree⟩
  .have hx':(relabel scope X.env).names.lookup x = some .cell \/ (relabel scope X.env).names.lookup x = some .free:=hx;have:(cl.lookup x).isSome=true:=by
    rcases hx' with e|e
    .exact Shs _ (YU e) (.inl rfl)
    .exact Shs _ (YU e) (.inr rfl)
   exact Option.isSome_iff_exists.mp this
  .obtain⟨o,ho⟩:=fpo b hb;exact ltC ho
  .exact (f1 b hb).2.2.2.2.1 x c (clc x c e)
  .rcases (f1 b hb).2.2.2.1 with z|z
   .exact I.ok.noex b o e z
   .exact absurd (Ym (Heap.lt_size e) (Yz I.ok.bsz z)) (Xr _)
  .rcases YY.mp (I2.stkSub b hz) with z|z
   .exact (f1 b hb).2.1 z
   .exact (f1 b hb).2.2.1 z
 have I4:aJ (nJ X scope cl (own++outs) hp3.objs.size { s2 with heap:=hp3 } H2 fp) [] (List.replicate own.length none++xC σ ixs) H2 { s2 with heap:=h₁,toks:=s2.toks+([]:List (Str×Value)).length }:=by
  refine⟨ok,rfl,I2.bare,Un.kept old,⟨_,hns₁,λi x v e1 e2 e3=>?_⟩,λx c e=>?_,I2.hok.fresh (Yi _),λx c e=>I2.freeC x c (clc x c e),λp hp=>by simp[nJ] at hp,I2.hok.kept old,?_⟩
  .have e1':(own++outs)[i]? = some x:=e1;have hi':own.length<=i:=by
    by_cases hlt:i<own.length
    .rw[YA (by simpa using hlt),List.getElem?_replicate,Yh hlt] at e2
     cases e2
    .nofun
   rw[Yx (by simpa using hi')] at e2
   rw[Yx hi'] at e1';rw[List.length_replicate] at e2;unfold xC at e2;rw[Yd] at e2;cases ej:ixs[i-own.length]? with
   | none=>rw[ej] at e2;cases e2
   | some j =>
    rw[ej] at e2;obtain⟨hN,hk,hr,c,hcl⟩:=S.outs.get e1' ej;have e4:(σ[j]?).join=some v:=YO e2;have e5:σ[j]? = some (some v):=by
     cases es:σ[j]? with
     | none=>rw[es] at e4;cases e4
     | some o=>rw[es] at e4;exact Xb some e4
    obtain⟨m,hn,hl⟩:=I2.loc;obtain⟨u,ru,l⟩:=hl j x v hN e5 (.inr (.inl hk));refine⟨u,ru,.inr ⟨.inl hr,c,hcl,?_⟩⟩;rcases l with ⟨z,_⟩|⟨_,c',hc',cell⟩
    .rw[hk] at z;cases z
    .rw[clc x c hcl] at hc';cases hc';obtain⟨o,ho,hd⟩:=cell;exact⟨o,old _ _ ho,hd⟩
  .obtain⟨v,o,ho,hd⟩:=I2.cell x c (clc x c e);exact⟨v,o,old _ _ ho,hd⟩
  .show (List.replicate own.length none++xC σ ixs).length=(own++outs).length;unfold xC;rw[Yt,Yt,List.length_replicate,Yb,S.outs.length]
 obtain⟨hg,hf,he⟩:=hb hp3.objs.size { s2 with heap:=hp3 } H2 fp (hG _ _ _ _ I2 f1);have stat:∀{H':Hp},(∀b∈fp,H' b=none) -> ∀b∈fp,qK (nJ X scope cl (own++outs) hp3.objs.size { s2 with heap:=hp3 } H2 fp) [] H' b:=λhn b hb =>
  ⟨hn b hb,(ok.exf b hb).1,ok.exfs b hb,.inl hb,(ok.exf b hb).2,λp hp=>by simp[nJ] at hp⟩
 have noE:∀{α:Type}{t:Sem α}{Q':α->Shared->Prop}{s':Shared}{E':Value->Shared->Prop},wpAny (model X.prog X.w) X.A t Q' (λ_ _=>False) s'->wpAny (model X.prog X.w) X.A t Q' E' s':=λh=>wpAny_mono h (λ_ _ z=>z) λ_ _ z=>z.elim;have loop:codeAny (model X.prog X.w) X.A (.compLoop (.ListComp elt [⟨tg,iter,ifs,0⟩] scope pos) 0 (.ref it) (.ref s2.heap.objs.size) (compEnvC scope cl hp3.objs.size X.env))
   (compPost (model X.prog X.w) X.A X.xe use Qv (.ref s2.heap.objs.size) hp3.objs.size) { s2 with heap:=h₁,toks:=s2.toks+([]:List (Str×Value)).length }:=by
  refine sS rfl (λn s'=>∃i σ' H',aJ (nJ X scope cl (own++outs) hp3.objs.size { s2 with heap:=hp3 } H2 fp) [] σ' H' s'/\tn i s'.heap/\(∀b∈fp,H' b=none)/\W i n σ' H') ?_ m0
   ⟨0,_,H2,I4,T.keep _ _ _ st1 λb hb o e=>old b o (old23 b o e),fr2,w0⟩
  rintro n s' ⟨i,σ',H',I',st',fr',w'⟩;rcases turn i n σ' H' w' with ⟨stop,qn⟩|⟨go,N,hN,step⟩
  .refine cD (T.done (nJ X scope cl (own++outs) hp3.objs.size { s2 with heap:=hp3 } H2 fp) rfl rfl rfl hc i [] s' σ' H' _ I' (stat fr') st' stop) λr s4 ⟨hr,I4'⟩=>?_
   subst hr;obtain⟨m,hn,_⟩:=I4'.loc;have kC:∀b o,b≠hp3.objs.size->s4.heap.get? b=some o->s4.heap.get? b=some o:=λb o hb e=>e;have tC:∀b u,H' b=some u->b≠hp3.objs.size:=λb u e z=>by
    have:=I4'.free;rw[z] at e;rw[show H' hp3.objs.size=none from this] at e
    cases e
   have base:=I4'.base;have un:Un (iJ X.stack) fp H2 H' hp3 s4.heap:=⟨λb o e n1 hb hx=>kC b o (ltC e) (base.keep b o e n1 hb hx),λb o e n1 hb hx=>by
     obtain⟨sl,z⟩:=base.slot b o e n1 hb hx;exact⟨sl,kC b _ (ltC e) z⟩,base.free,λb o e hx=>by
     obtain⟨o',z⟩:=base.there b o e hx;exact⟨o',kC b o' (ltC e) z⟩,base.tups,base.frzs,base.tbls⟩
   exact hfin _ _ H' s4 m (I2.call' (s':=s4) (ch:=fp) I4'.os un I4'.hok I4'.bare (λb hb=>⟨(f1 b hb).2.2.2.1,(f1 b hb).2.1,(f1 b hb).2.2.2.2.1,(f1 b hb).2.2.2.2.2⟩)) (I2.fpOk (Yi _) I4'.free) hn qn
  .refine cD (T.item (nJ X scope cl (own++outs) hp3.objs.size { s2 with heap:=hp3 } H2 fp) rfl rfl rfl hc i [] s' σ' H' _ I' (stat fr') st' go) λr s4 ⟨u,hr,h4⟩=>?_
   subst hr;refine cD h4 λ_ s5 ⟨x,H5,I5,r5,y5,st5,fr5⟩=>?_;have I5':=I5.pinned (stat fr5) (T.obj _ _ st5);have back:∀{σ7:St}{H7:Hp}{s7:Shared},aJ (nJ X scope cl (own++outs) hp3.objs.size { s2 with heap:=hp3 } H2 fp) ([]++oM fp s5.heap) σ7 H7 s7 -> ∀m',m'<n->W (i+1) m' σ7 H7 ->
     ∃m,m<n /\ ∃i σ' H',aJ (nJ X scope cl (own++outs) hp3.objs.size { s2 with heap:=hp3 } H2 fp) [] σ' H' s7/\tn i s7.heap/\(∀b∈fp,H' b=none)/\W i m σ' H':=λ{σ7 H7 s7} I7 m' hm w7=>by
    refine⟨m',hm,i+1,σ7,H7,I7.unpinned,T.keep _ _ _ st5 λb hb o e=>(I7.pin (b,o) (YL _ (YL _ (ja hb e)))).1,λb hb=>?_,w7⟩;obtain⟨o,e,d⟩:=T.obj _ _ st5 b hb;exact (I7.pin (b,o) (YL _ (YL _ (ja hb e)))).2.1
   refine cD (noE (hg _ s5 σ' H5 x u _ I5' r5 (step x H5 y5))) λ_ s6 ⟨σ6,H6,I6,q6⟩=>?_;refine cD (noE (hf _ s6 σ6 H6 _ I6 q6)) λok s7 ⟨H7,I7,q7⟩=>?_;cases ok with
   | false =>
    rw[Yc YI] at q7 ⊢;obtain⟨m',hm,w7⟩:=hN _ _ q7;exact back I7 m' hm w7
   | true =>
    rw[Yh rfl] at q7 ⊢;refine cD (noE (he _ s7 σ6 H7 _ I7 q7)) λv s8 ⟨xv,H8,I8,r8,q8⟩=>?_;obtain⟨xs,hxs,hz,q8⟩:=q8;refine cD (noE (qW _ s8 σ6 H8 (.ref s2.heap.objs.size) [xv] _ [v] (λ_ H9=>N σ6 H9) I8 rfl (.cons r8 .nil) ⟨_,xs,xv,rfl,rfl,aM hxs,hz,q8 _ (sV eN.upd) ((cX (show X.K.lookup _=none from I8.noK (aM hxs))).trans bj)⟩)) λ_ s9 ⟨_,H9,I9,_,n9⟩=>?_
    obtain⟨m',hm,w9⟩:=hN _ _ n9;exact back I9 m' hm w9
 exact codeAny_compStart_list loop (T.self _ 0 _ _ _ (T.keep _ _ _ st1 λb hb o e=>old b o (old23 b o e)) loop)
theorem D7{tg iter elt:Expr}{ifs:List Expr}{scope:Scope}{pos:Pos}{wi:TI}{g:TG}{tif:TT}{te:TE}{cl:List (Str×Addr)}{own outs:List Str}{ixs:List Nat}
  (hc:X.calm=true)(hi:PI X tg iter wi)(hclos:closureFor scope X.env=pure cl)(S:qp X scope cl own outs ixs)
  (hb:∀C s H ex,PG (nJ X scope cl (own++outs) C s H ex) tg g/\PF (nJ X scope cl (own++outs) C s H ex) ifs tif/\PE (nJ X scope cl (own++outs) C s H ex) elt te)
  (hs:∀x,foldedSetIterable iter X.env x=pure x:=by intro _;rfl) :
  PE X (.ListComp elt [⟨tg,iter,ifs,0⟩] scope pos) (uS X.K wi own.length ixs g tif te):=by
 intro pins s σ H Q I h;rw[eval_ListComp];refine rf (G:=λ_ _ _=>True) hc hi hclos S (λC s H ex _=>hb C s H ex) hs (λ_ _ _ _ _ _=>trivial) I (λa H'=>Q (.ref a) H') (λa C H' s4 m J4 fC hn q=>⟨m,hn,λh' hsb=>?_⟩) h;obtain⟨f0,f1,f2,f3,f4,f5⟩:=fC;exact⟨.ref a,H',J4.turned (t':=s4.toks) (λb o hb e=>hsb.extBut b o hb e) f0 f1 f3 f4 f5,rfl,q⟩
theorem Ee{tg iter elt:Expr}{ifs:List Expr}{scope:Scope}{pos spos py:Pos}{y:Str}{i:Nat}{wi:TI}{g:TG}{tif:TT}{te:TE}{cl:List (Str×Addr)}{own outs:List Str}{ixs:List Nat}
  (hN:X.N.Nodup)(hy:X.N[i]? = some y)(hx:DT X.env.scope y)(hc:X.calm=true)(hi:PI X tg iter wi)(hclos:closureFor scope X.env=pure cl)(S:qp X scope cl own outs ixs)
  (hb:∀C s H ex,PG (nJ X scope cl (own++outs) C s H ex) tg g/\PF (nJ X scope cl (own++outs) C s H ex) ifs tif/\PE (nJ X scope cl (own++outs) C s H ex) elt te)
  (hsw:swapsWith (.ListComp elt [⟨tg,iter,ifs,0⟩] scope pos) (some (.Name y py)) spos.line X.env=pure true:=by rfl)
  (hs:∀x,foldedSetIterable iter X.env x=pure x:=by intro _;rfl)(hf:X.fn y=true\/X.env.scope.names.lookup y=some .local:=by first|exact .inl rfl|exact .inr rfl|assumption) :
  PS X (.Assign [.Name y py] (.ListComp elt [⟨tg,iter,ifs,0⟩] scope pos) spos) (sQ (uS X.K wi own.length ixs g tif te) (jy i)):=by
 intro pins s σ H D I h;rw[exec_Assign_Name_used _ _ _ _ hsw];refine wpAny_bind (wpAny_standAt (wpAny_bind ?_));show wpAny _ X.A (do let _ <-comprehension (.ListComp elt [⟨tg,iter,ifs,0⟩] scope pos) scope X.env _ (newList []) false (eval iter X.env) (some (assign (.Name y py) X.env))) _ _ s
 refine wpAny_bind (wpAny_mono (rf (use:=some (assign (.Name y py) X.env)) (Qv:=λ_ s'=>SP X pins D .next s') (G:=λ_ _ _=>True) hc hi hclos S (λC s H ex _=>hb C s H ex) hs (λ_ _ _ _ _ _=>trivial) I (λa H'=>D.nx (σ.set i (some (.ref a))) H') (λa C H' s4 m J4 fC hn q=>?_) h) (λ_ s' hq=>wpAny_pure (wpAny_pure hq)) λ_ _ e=>e)
 obtain⟨f0,f1,f2,f3,f4,f5⟩:=fC;refine wpAny_assign_Name (rR J4 hN hy hx (v:=.ref a) rfl (λs5 I5 hsame=>?_) hf);obtain⟨b,sb,hb'⟩:=hsame;have nb:C≠b:=λe=>by
  rcases hb' with z|z
  .exact f1 (e.trans z)
  .exact f4 _ _ z e.symm
 exact⟨m,hn.sameBut sb nb,λh' hsb=>⟨_,H',I5.turned (t':=s5.toks) (λb o hb e=>hsb.extBut b o hb e) f0 f1 f3 f4 f5,q⟩⟩
end
theorem Kg{X:Cx}{scope:Scope}{cl:List (Str×Addr)}{N:List Str}{C:Addr}{s:Shared}{H:Hp}{ex:List Addr}:(nJ X scope cl N C s H ex).K=X.K:=rfl
mutual
def D.py:D->PyData
 | .non=>.none
 | .bl b=>.bool b
 | .int i=>.int i
 | .str x=>.str x
 | .dict=>.dict []
 | .tup ds=>.tuple (D.pys ds)
 | .lst ds=>.list (D.pys ds)
def D.pys:List D->List PyData
 | []=>[]
 | d::ds=>d.py::D.pys ds
end
def D.cmp(d:D):Prop:=d.py.canLay0=true/\d.py.depth<=30
def qQ(d e:D):Bool:=PyData.eqv d.py e.py
section
variable {X:Cx}{pins:List (Addr×Obj)}{σ:St}{H:Hp}{s:Shared}
mutual
theorem aD.reads(I:aJ X pins σ H s):∀(d:D)(v:V)(u:Value),aD (vw X.K H) d v->bH v u->d.py.canLay0=true -> ∃as,Reads s.heap u d.py as
 | .non,v,u,h,r,_=>by
  unfold aD at h;subst h;cases r;exact⟨_,by unfold D.py;exact .none⟩
 | .bl b,v,u,h,r,_=>by
  unfold aD at h;subst h;cases r;exact⟨_,by unfold D.py;exact .bool b⟩
 | .int i,v,u,h,r,_=>by
  unfold aD at h;subst h;obtain⟨t,rfl⟩:=r;exact⟨_,by unfold D.py;exact .int i t⟩
 | .str x,v,u,h,r,_=>by
  unfold aD at h;subst h;obtain⟨t,rfl⟩:=r;exact⟨_,by unfold D.py;exact .str x t⟩
 | .dict,v,u,h,r,hc=>by
  unfold D.py PyData.canLay0 at hc;cases hc
 | .tup ds,v,u,h,r,hc=>by
  obtain⟨a,xs,rfl,ha,rs⟩:=h.tup_at;cases r;unfold D.py at hc ⊢;obtain⟨its,rv,p,hz⟩:=I.tuple (oT ha);obtain⟨o,h1,h2,n,h3⟩:=p;obtain⟨as,ra⟩:=aH.reads I ds xs its rs rv (by unfold PyData.canLay0 at hc;exact hc)
  exact⟨_,.tuple h1 h2 h3 (by simpa using ra)⟩
 | .lst ds,v,u,h,r,hc=>by
  obtain⟨a,xs,rfl,ha,rs⟩:=h.lst_at;cases r;unfold D.py at hc ⊢;obtain⟨its,rv,p,hz⟩:=I.list (jq.of (K:=X.K) (aM ha));obtain⟨o,n,h1,h2,h3,h4⟩:=p;obtain⟨as,ra⟩:=aH.reads I ds xs its rs rv (by unfold PyData.canLay0 at hc;exact hc)
  exact⟨_,.list h1 h2 h4 (by simpa using ra)⟩
theorem aH.reads(I:aJ X pins σ H s):∀(ds:List D)(xs:List V)(us:List Value),aH (vw X.K H) ds xs->aY xs us->PyData.canLayAll0 (D.pys ds)=true -> ∃as,ReadsAll s.heap us (D.pys ds) as
 | [],xs,us,h,r,_=>by
  cases h.nil_at;cases r;exact⟨_,by unfold D.pys;exact .nil⟩
 | d::ds,xs,us,h,r,hc=>by
  obtain⟨x,ys,rfl,h1,h2⟩:=h.cons_at;cases r with
  | cons r1 r2 =>
   unfold D.pys PyData.canLayAll0 at hc;rw[Xk] at hc;obtain⟨as,ra⟩:=aD.reads I d x _ h1 r1 hc.1;obtain⟨bs,rb⟩:=aH.reads I ds ys _ h2 r2 hc.2;exact⟨_,by unfold D.pys;exact .cons ra rb⟩
end
end
def D8(K:W.Frag)(neg:Bool):R2:=λx y H Q=>∃d e,aD (vw K H) d x/\aD (vw K H) e y/\d.cmp/\e.cmp/\Q (.bl (if neg then !qQ d e else qQ d e)) H
section
variable {X:Cx}
theorem xj(hu:X.A.units+64<cLine):fk X (compareOp .Eq) (D8 X.K false):=by
 intro pins s σ H x y v u Q I rx ry h;obtain⟨d,e,h1,h2,c1,c2,q⟩:=h;obtain⟨as,r1⟩:=aD.reads I d x v h1 rx c1.1;obtain⟨bs,r2⟩:=aD.reads I e y u h2 ry c2.1;exact SeqAt.compareEq_reads r1 r2 c1.1 c2.1 (by have:=c1.2;nofun) ⟨.bl _,H,I,rfl,q⟩
theorem BS(hu:X.A.units+64<cLine):fk X (compareOp .NotEq) (D8 X.K true):=by
 intro pins s σ H x y v u Q I rx ry h;obtain⟨d,e,h1,h2,c1,c2,q⟩:=h;obtain⟨as,r1⟩:=aD.reads I d x v h1 rx c1.1;obtain⟨bs,r2⟩:=aD.reads I e y u h2 ry c2.1;exact SeqAt.compareNe_reads r1 r2 c1.1 c2.1 (by have:=c1.2;nofun) ⟨.bl _,H,I,rfl,q⟩
end
def ko(K:W.Frag)(H:Hp)(a:Addr)(xs:List V):Prop:=(K.lookup a=none/\Rd H a (.lst xs)) \/
 ∃(o:Obj)(its:Array Value)(n:Nat),K.lookup a=some o/\o.cls=.type "list" /\ o.dict=none/\o.data=.seq its n/\its.size<=sizeLine/\aY xs its.toList
theorem ko.sq{K:W.Frag}{H:Hp}{a:Addr}{xs:List V}(h:ko K H a xs):jq K H a xs:=h.imp (λz=>z.2) λz=>z
theorem ko.of{K:W.Frag}{H:Hp}{a:Addr}{xs:List V}(h:jq K H a xs)(hk:H a≠none->K.lookup a=none):ko K H a xs:=by
 rcases h with h|h
 .refine .inl ⟨hk ?_,h⟩;rcases h with h|⟨o,h⟩<;>rw[h]<;>simp
 .exact .inr h
end L2
namespace L2
open PySem PySem.Spec PyProof.Rows
mutual
def D.flat:D->Bool
 | .lst _=>false
 | .tup ds=>D.flats ds
 | _=>true
def D.flats:List D->Bool
 | []=>true
 | d::ds=>d.flat && D.flats ds
end
section
variable {H H':Hp}{l:Addr}{xs:List V}
mutual
theorem aD.flat_but(hl:H l=some (.lst xs))(S:eN l H H'):∀(d:D)(v:V),d.flat=true->aD H d v->aD H' d v
 | .non,v,_,h=>by unfold aD at h ⊢;exact h
 | .bl b,v,_,h=>by unfold aD at h ⊢;exact h
 | .int i,v,_,h=>by unfold aD at h ⊢;exact h
 | .str x,v,_,h=>by unfold aD at h ⊢;exact h
 | .dict,v,_,h=>by
  unfold aD at h ⊢;obtain⟨a,kvs,rfl,h⟩:=h;exact⟨a,kvs,rfl,S _ _ (λe=>by rw[e,hl] at h;cases h) h⟩
 | .tup ds,v,hf,h=>by
  obtain⟨a,ys,rfl,h,rs⟩:=h.tup_at;unfold D.flat at hf;exact .mk_tup (S _ _ (λe=>by rw[e,hl] at h;cases h) h) (aH.flat_but hl S ds ys hf rs)
 | .lst ds,v,hf,h=>by unfold D.flat at hf;cases hf
theorem aH.flat_but(hl:H l=some (.lst xs))(S:eN l H H'):∀(ds:List D)(ys:List V),D.flats ds=true->aH H ds ys->aH H' ds ys
 | [],ys,_,h=>by cases h.nil_at;exact .mk_nil
 | d::ds,ys,hf,h=>by
  obtain⟨y,r,rfl,h1,h2⟩:=h.cons_at;unfold D.flats at hf;rw[Xk] at hf;exact .mk_cons (aD.flat_but hl S d y hf.1 h1) (aH.flat_but hl S ds r hf.2 h2)
end
end
theorem dX(q:Int×Int):(fr q).flat=true:=by simp[fr,D.flat,D.flats]
theorem iP:∀(qs:List (Int×Int)),D.flats (qs.map fr)=true
 | []=>by simp[D.flats]
 | q::qs=>by
  rw[YQ];unfold D.flats;rw[dX,iP qs];rfl
theorem aH.app{H:Hp}:∀{ds es:List D}{xs ys:List V},aH H ds xs->aH H es ys->aH H (ds++es) (xs++ys)
 | [],es,xs,ys,h,g=>by cases h.nil_at;exact g
 | d::ds,es,xs,ys,h,g=>by
  obtain⟨x,r,rfl,h1,h2⟩:=h.cons_at;exact .mk_cons h1 (aH.app h2 g)
theorem aH.snoc{H:Hp}{ds:List D}{xs:List V}{d:D}{x:V}(h:aH H ds xs)(g:aD H d x):aH H (ds++[d]) (xs++[x]):=h.app (.mk_cons g .mk_nil)
theorem aH.at{H:Hp}{ds:List D}{xs:List V}(h:aH H ds xs) {i:Nat}{d:D}(hd:ds[i]? = some d):∃x,xs[i]? = some x/\aD H d x:=by
 have hi:i<ds.length:=(List.getElem?_eq_some_iff.mp hd).1;have hi':i<xs.length:=by rw[h.length];exact hi
 obtain⟨d',e,r⟩:=h.get (Ya hi');rw[hd] at e;cases e;exact⟨_,Ya hi',r⟩
theorem aH.take{H:Hp}:∀{ds:List D}{xs:List V}(n:Nat),aH H ds xs->aH H (ds.take n) (xs.take n)
 | ds,xs,0,h=>by simp;exact .mk_nil
 | [],xs,n+1,h=>by cases h.nil_at;exact .mk_nil
 | d::ds,xs,n+1,h=>by
  obtain⟨x,r,rfl,h1,h2⟩:=h.cons_at;exact .mk_cons h1 (h2.take n)
theorem aH.drop{H:Hp}:∀{ds:List D}{xs:List V}(n:Nat),aH H ds xs->aH H (ds.drop n) (xs.drop n)
 | ds,xs,0,h=>h
 | [],xs,n+1,h=>by cases h.nil_at;exact .mk_nil
 | d::ds,xs,n+1,h=>by
  obtain⟨x,r,rfl,h1,h2⟩:=h.cons_at;exact h2.drop n
def cF(G:Hp)(a:Addr)(qs:List (Int×Int)):Prop:=∃xs,G a=some (.lst xs)/\aH G (qs.map fr) xs
section
variable {G G':Hp}{a l:Addr}{qs:List (Int×Int)}{xs:List V}
theorem cF.same(h:cF G a qs)(S:az G G'):cF G' a qs:=by
 obtain⟨ys,h1,h2⟩:=h;exact⟨ys,S _ _ h1,h2.same S⟩
theorem cF.but(h:cF G a qs)(hl:G l=some (.lst xs))(hn:a≠l)(S:eN l G G'):cF G' a qs:=by
 obtain⟨ys,h1,h2⟩:=h;exact⟨ys,S _ _ hn h1,aH.flat_but hl S _ _ (iP qs) h2⟩
theorem cF.rep(h:cF G a qs):aD G (.lst (qs.map fr)) (.ref a):=by
 obtain⟨ys,h1,h2⟩:=h;exact .mk_lst h1 h2
theorem cF.len(h:cF G a qs):fA G a=some qs.length:=by
 obtain⟨ys,h1,h2⟩:=h;unfold fA;rw[h1];simp only[h2.length,Yb]
theorem cF.ne_st{st:Addr}(h:cF G a qs)(hst:dS G st):a≠st:=by
 rintro rfl;obtain⟨ys,h1,h2⟩:=h;obtain⟨x,b,h3,_⟩:=hst;rw[h1] at h3;cases h3;cases qs with
 | nil=>cases h2.nil_at
 | cons q qs =>
  obtain⟨y,r,e,h4,h5⟩:=aH.cons_at h2;cases e;obtain⟨c,e,_⟩:=h4.fr_at;cases e
theorem cF.stBut{st:Addr}(h:cF G a qs)(hst:dS G st)(S:eN st G G'):cF G' a qs:=by
 obtain⟨x,b,h3,_⟩:=hst;exact h.but h3 (h.ne_st ⟨x,b,h3,by assumption⟩) S
theorem dS.but{st:Addr}(h:dS G st)(hl:G l=some (.lst xs))(hn:st≠l)(S:eN l G G'):dS G' st:=by
 obtain⟨x,b,h3,h4⟩:=h;exact⟨x,b,S _ _ hn h3,h4⟩
end
theorem qY{CX:wK}{P:Program}{w:World}{K:W.Frag}{mg:Str->Option Value}{base:Heap}{N:List Str}{qual:Str}{scope:Scope}{f:Addr}{cd:Value}{A:Around}{outer:List Env}{s:Shared}{H:Hp}{E:XK} :
  (fT CX P w K mg base N qual scope f cd A outer s H E).nox.K=K:=rfl
def AR(t u:TS):TS:=λD σ H=>∃R:St->Hp->Prop,(∀σ' H',R σ' H'->u D σ' H')/\t { D with nx:=R } σ H
theorem AR.mk{t u:TS}{D:lU}{σ:St}{H:Hp}(R:St->Hp->Prop)(h1:t { D with nx:=R } σ H)(h2:∀σ' H',R σ' H'->u D σ' H'):AR t u D σ H:=⟨R,h2,h1⟩
theorem EJ{X:Cx}{st:Stmt}{rest:List Stmt}{t u:TS}(h1:PS X st t)(h2:sC X rest u):sC X (st::rest) (AR t u):=by
 rintro pins s σ H D I ⟨R,hR,h⟩;refine wpAny_execs_cons (cD (h1 pins s σ H { D with nx:=R } I h) λf s1 q=>?_)
 cases f with
 | next =>
  obtain⟨σ',H',I',q⟩:=q;exact h2 pins s1 σ' H' D I' (hR _ _ q)
 | ret v=>exact q
 | brk=>exact q
 | cont=>exact q
def pN(J:It)(H:Hp)(its:List V):Prop:=(∀i,i<its.length->J.go i H)/\(∀i x H',i<its.length->J.yld i H x H'->H'=H/\its[i]? = some x)/\J.stop its.length H
def gJ(lo:Int)(n:Nat):List V:=(List.range n).map λ(k:Nat)=>V.int (lo+k)
theorem bT{lo:Int}{n:Nat}{H:Hp}:pN (JM lo n) H (gJ lo n):=by
 refine⟨λi hi=>by show i<n;simpa [gJ] using hi,λi x H' hi y=>⟨y.1,?_⟩,by show n<=(gJ lo n).length;simp[gJ]⟩
 have hi':i<n:=by simpa [gJ] using hi
 rw[y.2];simp[gJ,hi']
theorem aX{K:W.Frag}{H:Hp}{a:Addr}{xs:List V}(h:vw K H a=some (.lst xs)):pN (Lh K a) H xs :=
 ⟨λi hi=>⟨xs,xs[i],.of (aM h),by simp[hi]⟩,λi x H' _ y=>⟨y.1,y.2 xs (.of (aM h))⟩,⟨xs,.of (aM h),Yi _⟩⟩
theorem aZ{J:It}{its:List V}{g:TG}{tb:TS}{D:lU}{σ:St}{H:Hp}(Pv:Nat->St->Hp->Prop)(hl:∀i σ H,i<=its.length->Pv i σ H->pN J H its)(h0:Pv 0 σ H)
  (hs:∀i x σ H,i<its.length->its[i]? = some x->Pv i σ H->g x σ H λσ2 H2=>tb { D with nx:=Pv (i+1),ct:=Pv (i+1),bk:=D.nx } σ2 H2)(hd:∀σ H,Pv its.length σ H->D.nx σ H):Bi J g tb D σ H:=by
 refine⟨λi m σ H=>m=its.length-i/\i<=its.length/\Pv i σ H,⟨its.length,by simp,Y7 _,h0⟩,?_⟩
 rintro i m σ H ⟨rfl,hi,p⟩;obtain⟨q1,q2,q3⟩:=hl i σ H hi p;by_cases hlt:i<its.length
 .refine .inr ⟨q1 i hlt,Pv (i+1),λσ' H' p'=>⟨its.length-(i+1),(),rfl,hlt,p'⟩,λx H' y=>?_⟩;obtain⟨e,y2⟩:=q2 i x H' hlt y;subst e;exact hs i x σ _ hlt y2 p
 .have e:i=its.length:=();subst e;exact .inl ⟨q3,hd σ H p⟩
def CN(K:W.Frag)(a:Addr)(σr:St)(Pv:List V->Hp->Prop):St->Hp->Prop:=λσ H=>(∃y,σ=y::σr) /\ ∃xs,vw K H a=some (.lst xs)/\Pv xs H
def Iu(K:W.Frag)(a:Addr)(N:Hp->Prop):V->Hp->Prop:=λv H4=>∃xs,vw K H4 a=some (.lst xs)/\xs.length<sizeLine /\ ∀H5,eN a (vw K H4) (vw K H5)->vw K H5 a=some (.lst (xs++[v]))->N H5
theorem bZ{K:W.Frag}{J:It}{its:List V}{tif:TT}{te:TE}{a:Addr}{x0:Option V}{σr:St}{H0:Hp}{Q:Hp->Prop}(Pv:Nat->List V->Hp->Prop)
  (hl:∀i xs H,i<=its.length->vw K H a=some (.lst xs)->Pv i xs H->pN J H its)(ha:vw K H0 a=some (.lst []))(h0:Pv 0 [] H0)
  (hs:∀i x xs H,i<its.length->its[i]? = some x->vw K H a=some (.lst xs)->Pv i xs H->tif (some x::σr) H λb H3=>if b=true then te (some x::σr) H3 (Iu K a (CN K a σr (Pv (i+1)) (some x::σr))) else CN K a σr (Pv (i+1)) (some x::σr) H3)
  (hd:∀xs H,vw K H a=some (.lst xs)->Pv its.length xs H->Q H):um K J (jy 0) tif te a (x0::σr) H0 Q:=by
 refine⟨λi m σ H=>m=its.length-i/\i<=its.length/\CN K a σr (Pv i) σ H,⟨its.length,by simp,Y7 _,⟨_,rfl⟩,_,ha,h0⟩,?_⟩
 rintro i m σ H ⟨rfl,hi,⟨y,rfl⟩,xs,hxs,p⟩;obtain⟨q1,q2,q3⟩:=hl i xs H hi hxs p;by_cases hlt:i<its.length
 .refine .inr ⟨q1 i hlt,CN K a σr (Pv (i+1)),λσ' H' p'=>⟨its.length-(i+1),(),rfl,hlt,p'⟩,λx H' y=>?_⟩;obtain⟨e,y2⟩:=q2 i x H' hlt y;subst e;exact hs i x xs _ hlt y2 hxs p
 .have e:i=its.length:=();subst e;exact .inl ⟨q3,hd xs H hxs p⟩
theorem Iu.mk{K:W.Frag}{a:Addr}{σr:St}{Pv:List V->Hp->Prop}{x:Option V}{v:V}{H:Hp}{xs:List V}(h:vw K H a=some (.lst xs))(hz:xs.length<sizeLine)
  (q:∀H5,eN a (vw K H) (vw K H5)->vw K H5 a=some (.lst (xs++[v]))->Pv (xs++[v]) H5):Iu K a (CN K a σr Pv (x::σr)) v H:=⟨xs,h,hz,λH5 B h5=>⟨⟨_,rfl⟩,_,h5,q H5 B h5⟩⟩
theorem CN.mk{K:W.Frag}{a:Addr}{σr:St}{Pv:List V->Hp->Prop}{x:Option V}{H:Hp}{xs:List V}(h:vw K H a=some (.lst xs))(q:Pv xs H):CN K a σr Pv (x::σr) H:=⟨⟨_,rfl⟩,_,h,q⟩
theorem gB{lo:Int}{n i:Nat}{x:V}(h:(gJ lo n)[i]? = some x):i<n/\x=.int (lo+i):=by
 have hi:i<n:=by simpa [gJ] using (List.getElem?_eq_some_iff.mp h).1
 simp[gJ,hi] at h;exact⟨hi,h.symm⟩
theorem dk{lo:Int}{n:Nat}:(gJ lo n).length=n:=by simp[gJ]
theorem yN{n d:Nat}{k:Nat}(h:k<=n):HT.sIx n d (some (k:Int))=k:=by
 unfold HT.sIx;simp only[Xv];rw[Yc ()];nofun
theorem xq{xs:List V}{k:Nat}(h:k<=xs.length):nj xs none (some (k:Int))=xs.take k:=by
 unfold nj;rw[yN h];simp[HT.sIx]
theorem iV{α:Type}{xs:List α}{x:α}(h:xs.getLast? = some x):pK xs (-1)=some x:=by
 obtain⟨ys,rfl⟩:=List.getLast?_eq_some_iff.mp h;exact BC ys x
def Iy(K:W.Frag)(neg:Bool):R2:=λx y H Q=>∃p q,x=.ref p/\y=.ref q /\ ∃xs,vw K H p=some (.lst xs)/\vw K H q=some (.lst [])/\Q (.bl (if neg then !xs.isEmpty else xs.isEmpty)) H
section
variable {X:Cx}
theorem BA(hu:X.A.units<cLine):fk X (compareOp .NotEq) (Iy X.K true):=by
 intro pins s σ H x y v u Q I rx ry h;obtain⟨p,q,rfl,rfl,xs,h1,h2,k⟩:=h;cases rx;cases ry;obtain⟨its,r,⟨o,n,e1,e2,e3,e4⟩,_⟩:=I.list (jq.of (K:=X.K) (aM h1));obtain⟨its2,r2,⟨o2,n2,f1,f2,f3,f4⟩,_⟩:=I.list (jq.of (K:=X.K) (aM h2));cases r2;have fin:EP X pins σ Q (.bool !xs.isEmpty) s:=⟨.bl _,H,I,rfl,k⟩;cases xs with
 | nil =>
  cases r;exact SeqAt.RcNeAt.lists (e:=λ_=>true) ⟨_,e1,e2,_,e4⟩ ⟨_,f1,f2,_,f4⟩ rfl hu (λj h1=>absurd h1 (by simp)) _ _ _ _ fin
 | cons x xs =>
  cases r;exact SeqAt.RcNeAt.lists_lengths ⟨_,e1,e2,_,e4⟩ ⟨_,f1,f2,_,f4⟩ (by simp) hu _ _ _ _ fin
end
theorem cN.ul{k:Nat}{A:Around}(r:cN k A):A.units<cLine:=by have:=r.un;nofun
theorem cN.u64{k:Nat}{A:Around}(r:cN k A):A.units+64<cLine:=by have:=r.un;nofun
theorem ww(p q:Int×Int):qQ (fr p) (fr q)=decide (p=q):=by
 unfold qQ fr D.py D.pys D.pys D.pys D.py;simp only[PyData.eqv,PyData.eqvAll];rw[XU];simp[Prod.ext_iff]
theorem xw(q:Int×Int):(fr q).cmp:=by
 unfold D.cmp fr D.py D.pys D.pys D.pys D.py;exact⟨rfl,Nat.le_of_ble_eq_true rfl⟩
theorem bU{H:Hp}{a:Addr}{i j:Int}(h:H a=some (.tup [.int i,.int j])):aD H (fr (i,j)) (.ref a):=.mk_tup h (.mk_cons (.mk_int _) (.mk_cons (.mk_int _) .mk_nil))
end L2
namespace L2
open PySem PySem.Spec PyProof.Rows
theorem aH.repl{H:Hp}{d:D}{x:V}(h:aD H d x):∀n,aH H (List.replicate n d) (List.replicate n x)
 | 0=>.mk_nil
 | n+1=>.mk_cons h (aH.repl h n)
theorem az.rfl{H:Hp}:az H H:=λ_ _ z=>z
end L2
set_option autoImplicit true
namespace L2
open PySem PySem.Spec PyProof.Rows
structure QE (X:Cx)(e:Expr)(t:TE):Prop where
 h:PE X e t
structure QT (X:Cx)(e:Expr)(t:TT):Prop where
 h:PT X e t
structure QW (X:Cx)(e:Expr)(t:TT):Prop where
 h:PW X e t
structure QA (X:Cx)(e:List Expr)(t:TA):Prop where
 h:PA X e t
structure QS (X:Cx)(e:Stmt)(t:TS):Prop where
 h:PS X e t
structure wo (X:Cx)(e:List Stmt)(t:TS):Prop where
 h:sC X e t
structure QG (X:Cx)(e:Expr)(t:TG):Prop where
 h:PG X e t
structure Lc (X:Cx)(e:List Expr)(t:AB):Prop where
 h:JI X e t
structure QF (X:Cx)(e:List Expr)(t:TT):Prop where
 h:PF X e t
structure QO (X:Cx)(e:Option Expr)(t:TO):Prop where
 h:PO X e t
structure QI (X:Cx)(tg e:Expr)(t:TI):Prop where
 h:PI X tg e t
section
variable {X:Cx}{pos p p2 apos cpos pos':Pos}{a b e o l:Expr}{es rest:List Expr}{te ta tb to:TE}{tA tB':TT}{st:Stmt}{rest':List Stmt}{lo hi:Option Expr}{id:String}
theorem dD {b j pos}:QE X (.Constant (.bool b) j pos) (tC (.bl b)):=⟨KH ⟩
theorem af {i j pos}:QE X (.Constant (.int i) j pos) (tC (.int i)):=⟨Ir ⟩
theorem gR {j pos}:QE X (.Constant .none j pos) (tC .non):=⟨IF ⟩
theorem fe {x j pos}:QE X (.Constant (.str x) j pos) (tC (.str x)):=⟨Iq ⟩
theorem gw{x:Str}{v:V}{u:Value}{pos:Pos}(hg:Gl X x)(hm:X.mg x=some u)(r:bH v u)(hd:(x==("__debug__" : Str))=false:=by decide):QE X (.Name x pos) (tC v):=⟨DY (hg:=hg) (hm:=hm) (r:=r) (hd:=hd)⟩
theorem dZ{x:Str}{v:V}{u:Value}{pos:Pos}(hg:Gl X x)(hm:X.mg x=none)(hv:bootBuiltins x=some u)(r:bH v u)(hn:x ≠ "__name__":=by decide) (hd:(x==("__debug__" : Str))=false:=by decide):QE X (.Name x pos) (tC v):=⟨Et (hg:=hg) (hm:=hm) (hv:=hv) (r:=r) (hn:=hn) (hd:=hd)⟩
theorem aq{op:Operator}{r:R2}(ho:fk X (binaryOp op) r)(ha:QE X a ta)(hb:QE X b tb):QE X (.BinOp a op b pos) (AD r ta tb):=⟨KJ (ho:=ho) (ha:=ha.h) (hb:=hb.h)⟩
theorem eJ{op:UnaryOp}{r:V->Hp->VK->Prop}(ho:K8 X (unaryOp op) r)(ha:QE X a ta):QE X (.UnaryOp op a pos) (La r ta):=⟨Kc (ho:=ho) (ha:=ha.h)⟩
theorem xD(ha:QE X a ta):QE X (.UnaryOp .Not a pos) (zw ta):=⟨GM (ha:=ha.h)⟩
theorem uw(ha:QE X a ta)(hb:QE X (.BoolOp .And (b::rest) pos) tb):QE X (.BoolOp .And (a::b::rest) pos) (yD ta tb):=⟨Jv (ha:=ha.h) (hb:=hb.h)⟩
theorem Ky(ha:QE X a ta)(hb:QE X (.BoolOp .Or (b::rest) pos) tb):QE X (.BoolOp .Or (a::b::rest) pos) (ED ta tb):=⟨KO (ha:=ha.h) (hb:=hb.h)⟩
theorem pI {op}{t:TE}(h:QE X a t):QE X (.BoolOp op [a] pos) t:=⟨GS (h:=h.h)⟩
theorem gY{op:CmpOp}{r:R2}(ho:fk X (compareOp op) r)(ha:QE X a ta)(hb:QE X b tb)(hm:behindInMarks op b=false):QE X (.Compare a [op] [b] pos) (AD r ta tb):=⟨E4 (ho:=ho) (ha:=ha.h) (hb:=hb.h) (hm:=hm)⟩
theorem eX{c:Expr}(hc:QT X c tA)(ha:QE X a ta)(hb:QE X b tb):QE X (.IfExp c a b pos) (K3 tA ta tb):=⟨AL (hc:=hc.h) (ha:=ha.h) (hb:=hb.h)⟩
theorem aE {x1}(h:QA X es t):QE X (.Tuple es x1 pos) (rD X.K t):=⟨EN (h:=h.h)⟩
theorem aL(h:QA X es t):QE X (.List es pos) (qj X.K t):=⟨Ek (h:=h.h)⟩
theorem Ff  : QE X (.Dict [] [] pos) (zB X.K):=⟨EF ⟩
theorem gT{r:V->Option Int->Option Int->Hp->VK->Prop}(hr:DR X r)(he:QE X e te)(hl:QO X lo tl)(hu:QO X hi th):QE X (.Subscript e (.Slice lo hi none p2) pos) (Li r te tl th):=⟨Da (hr:=hr) (he:=he.h) (hl:=hl.h) (hu:=hu.h)⟩
theorem jf  : QO X none ug:=⟨Fe ⟩
theorem ii(h:QE X e te):QO X (some e) (uZ te):=⟨ET (h:=h.h)⟩
theorem ay{r:R2}(hr:wl X r)(ha:QE X a ta)(hb:QE X b tb)(hs:yy b):QE X (.Subscript a b pos) (AD r ta tb):=⟨Kt (hr:=hr) (ha:=ha.h) (hb:=hb.h) (hs:=hs)⟩
theorem ao(C:cy X.prog X.w X.K X.mg X.base x ps k sp)(hr:cN k X.A)(hg:Gl X x)(ha:QA X (e::es) t)(hdb:(x==("__debug__" : Str))=false:=by decide) (he:starEach (e::es) X.env=(false,eval e X.env)::starEach es X.env:=by rfl)(hpl:(backTo pos (starEach es X.env)).any (·.1)=false:=by rfl) :
  QE X (.Call (.Name x p) (e::es) [] pos) (CY sp t):=⟨JF (C:=C) (hr:=hr) (hg:=hg) (ha:=ha.h) (hdb:=hdb) (he:=he) (hpl:=hpl)⟩
theorem aw(hc:dM X (.builtin id) r)(hg:Gl X x)(hm:X.mg x=none)(hv:bootBuiltins x=some (.builtin id))(ha:QA X (e::es) t)(hn:x ≠ "__name__":=by decide) (hdb:(x==("__debug__" : Str))=false:=by decide) (he:starEach (e::es) X.env=(false,eval e X.env)::starEach es X.env:=by rfl)(hpl:(backTo pos (starEach es X.env)).any (·.1)=false:=by rfl):QE X (.Call (.Name x p) (e::es) [] pos) (DS r t):=⟨Cc (hc:=hc) (hg:=hg) (hm:=hm) (hv:=hv) (ha:=ha.h) (hn:=hn) (hdb:=hdb) (he:=he) (hpl:=hpl)⟩
theorem jS(hc:dM X (.type T) r)(hg:Gl X x)(hm:X.mg x=none)(hv:bootBuiltins x=some (.type T))(ha:QA X (e::es) t)(hn:x ≠ "__name__":=by decide) (hdb:(x==("__debug__" : Str))=false:=by decide) (he:starEach (e::es) X.env=(false,eval e X.env)::starEach es X.env:=by rfl)(hpl:(backTo pos (starEach es X.env)).any (·.1)=false:=by rfl):QE X (.Call (.Name x p) (e::es) [] pos) (DS r t):=⟨zZ (hc:=hc) (hg:=hg) (hm:=hm) (hv:=hv) (ha:=ha.h) (hn:=hn) (hdb:=hdb) (he:=he) (hpl:=hpl)⟩
theorem kg(pa:PlainAttrs T)(slot:Slot T name id)(hty:typeOf (.builtin id)=pure (.type "method_descriptor")) (hm:JY X id r)(ho:QE X o to)(ha:QA X (e::es) t)(hbase:attributeBase o name X.env (eval o X.env)=eval o X.env:=by rfl)(hfew:((backTo cpos (starEach (e::es) X.env)).all (λx=>!x.1) && (backToKw cpos (keywordEach [] X.env)).all (λx=>x.1.isSome)
   && decide ((e::es).length+([]:List Keyword).length+(if ([]:List Keyword).isEmpty then 0 else 1)<30))=true:=by rfl) (hline:(apos.endLine==cpos.line)=true:=by rfl)(hs:starEach (e::es) X.env=(false,eval e X.env)::starEach es X.env:=by rfl)(hplain:(backTo cpos (starEach es X.env)).any (·.1)=false:=by rfl) :
  QE X (.Call (.Attribute o name apos) (e::es) [] cpos) (Ll X.K T r to t):=⟨Kh (pa:=pa) (slot:=slot) (hty:=hty) (hm:=hm) (ho:=ho.h) (ha:=ha.h) (hbase:=hbase) (hfew:=hfew) (hline:=hline) (hs:=hs) (hplain:=hplain)⟩
theorem t8(pa:PlainAttrs T)(slot:Slot T name id)(hty:typeOf (.builtin id)=pure (.type "method_descriptor")) (hm:JY X id r)(ho:QE X o to)(hbase:attributeBase o name X.env (eval o X.env)=eval o X.env:=by rfl)(hline:(apos.endLine==cpos.line)=true:=by rfl):QE X (.Call (.Attribute o name apos) [] [] cpos) (Jl X.K T r to):=⟨Jr (pa:=pa) (slot:=slot) (hty:=hty) (hm:=hm) (ho:=ho.h) (hbase:=hbase) (hline:=hline)⟩
theorem ae  : QA X [] uL:=⟨Jm ⟩
theorem aa(ha:QE X e te)(hr:QA X es t)(hs:starEach (e::es) X.env=(false,eval e X.env)::starEach es X.env:=by rfl):QA X (e::es) (jH te t):=⟨D2 (ha:=ha.h) (hr:=hr.h) (hs:=hs)⟩
theorem aF{op:CmpOp}{r:R2}(ho:fk X (compareOp op) r)(ha:QE X a ta)(hb:QE X b tb)(hm:behindInMarks op b=false):QT X (.Compare a [op] [b] pos) (zd (AD r ta tb)):=⟨El (ho:=ho) (ha:=ha.h) (hb:=hb.h) (hm:=hm)⟩
theorem cE(ha:QT X a tA):QT X (.UnaryOp .Not a pos) (IL tA):=⟨Ig (ha:=ha.h)⟩
theorem QW.pt{X:Cx}{e:Expr}{t:TT}(h:QW X e t):QT X e t:=⟨PW.pt (h:=h.h)⟩
theorem iW(ha:QT X a tA):QW X (.BoolOp .And [a] pos) tA:=⟨Ew (ha:=ha.h)⟩
theorem kJ(ha:QT X a tA)(hb:QW X (.BoolOp .And (b::rest) pos) tB'):QW X (.BoolOp .And (a::b::rest) pos) (Hn tA tB'):=⟨Jq (ha:=ha.h) (hb:=hb.h)⟩
theorem gn(ha:QT X a tA):QW X (.BoolOp .Or [a] pos) tA:=⟨Jd (ha:=ha.h)⟩
theorem fo(ha:QT X a tA)(hb:QW X (.BoolOp .Or (b::rest) pos) tB'):QW X (.BoolOp .Or (a::b::rest) pos) (LL tA tB'):=⟨J2 (ha:=ha.h) (hb:=hb.h)⟩
theorem dE(ha:QE X a ta)(he:∀whole,isTrue a X.env whole=(do let v <-whole;standAt a.pos;holding [v] (truthy v))) :
  QT X a (λσ H Q=>ta σ H λx H'=>∃k,w8 X.K x H' k/\Q k H'):=⟨Co (ha:=ha.h) (he:=he)⟩
theorem cw{e:Expr}{t:TE}(h:QE X e t)(he:∀whole,isTrue e X.env whole=(do let v <-whole;standAt e.pos;holding [v] (truthy v)):=by intro _;rfl):QT X e (tB t):=⟨HX (h:=h.h) (he:=he)⟩
theorem av{i:Nat}{x:Str}(hN:X.N.Nodup)(hi:X.N[i]? = some x)(hx:DT X.env.scope x)(hf:X.fn x=true\/X.env.scope.names.lookup x=some .local:=by first|exact .inl rfl|exact .inr rfl|assumption):QG X (.Name x pos) (jy i):=⟨FP (hN:=hN) (hi:=hi) (hx:=hx) (hf:=hf)⟩
theorem cR{es:List Expr}{k:Nat}{t:AB}{n:Nat}{pos:Pos}(hc:X.calm=true)(h:Lc X es t)(hn:(assignEach es X.env).length=n:=by rfl)(hst:(assignEach es X.env).findIdx? (·.1)=none:=by rfl):QG X (.Tuple es k pos) (vT X.K n t):=⟨F1 (hc:=hc) (h:=h.h) (hn:=hn) (hst:=hst)⟩
theorem cS  : Lc X [] Cf:=⟨F2 ⟩
theorem aC{e:Expr}{es:List Expr}{t:TG}{u:AB}(h1:QG X e t)(h2:Lc X es u)(hs:(assignEach (e::es) X.env).map (·.2)=assign e X.env::(assignEach es X.env).map (·.2):=by rfl):Lc X (e::es) (rQ t u):=⟨CA (h1:=h1.h) (h2:=h2.h) (hs:=hs)⟩
theorem t5{o i:Expr}{to ti:TE}{t:xG}(ho:QE X o to)(hi:QE X i ti)(hs:zV X t)(ha:∀v,assign (.Subscript o i pos) X.env v=(do
   let ov <-holding [v] (eval o X.env)
   let iv <-holding [v,ov] (eval i X.env)
   standAt pos
   holding [v,ov,iv] (setItem ov iv v)
   release [v,ov,iv] []):=by intro _;rfl):QG X (.Subscript o i pos) (IK to ti t):=⟨Jw (ho:=ho.h) (hi:=hi.h) (hs:=hs) (ha:=ha)⟩
theorem dq{a:Expr}{ta:TA}{p pos:Pos}(hg:Gl X "range") (hm:X.mg "range" = none) (ha:QA X [a] ta)(hs:starEach [a] X.env=[(false,eval a X.env)]:=by rfl):QI X tg (.Call (.Name "range" p) [a] [] pos) (xT ta):=⟨Aq (hg:=hg) (hm:=hm) (ha:=ha.h) (hs:=hs)⟩
theorem rP{a b:Expr}{ta:TA}{p pos:Pos}(hg:Gl X "range") (hm:X.mg "range" = none) (ha:QA X [a,b] ta)(hs:starEach [a,b] X.env=[(false,eval a X.env),(false,eval b X.env)]:=by rfl)(hs2:starEach [b] X.env=[(false,eval b X.env)]:=by rfl) :
  QI X tg (.Call (.Name "range" p) [a,b] [] pos) (De ta):=⟨At (hg:=hg) (hm:=hm) (ha:=ha.h) (hs:=hs) (hs2:=hs2)⟩
theorem ci{l:Expr}{tl:TE}(hl:QE X l tl):QI X tg l (yV X.K tl):=⟨F6 (hl:=hl.h)⟩
theorem aB(he:QE X e te):QS X (.Return (some e) pos) (HW te):=⟨IQ (he:=he.h)⟩
theorem ei(he:QE X e te)(hs:swapsWith e none pos.line X.env=pure false:=by rfl):QS X (.Expr e pos) (Ca te):=⟨ES (he:=he.h) (hs:=hs)⟩
theorem bC{c:Expr}{a b:List Stmt}{tc:TT}(hc:QT X c tc)(ha:wo X a t)(hb:wo X b u):QS X (.If c a b pos) (Ck tc t u):=⟨KI (hc:=hc.h) (ha:=ha.h) (hb:=hb.h)⟩
theorem fY{c:Expr}{body:List Stmt}{tc:TT}{tb:TS}(hp:PassesOwn (model X.prog X.w) X.A X.env X.xe)(hc:QT X c tc)(hb:wo X body tb):QS X (.While c body [] pos) (BR tc tb):=⟨Cy (hp:=hp) (hc:=hc.h) (hb:=hb.h)⟩
theorem cL{iter:Expr}{body:List Stmt}{wi:TI}{g:TG}{tb:TS}{pos:Pos}(hp:PassesOwn (model X.prog X.w) X.A X.env X.xe)(hc:X.calm=true)(hi:QI X tg iter wi)(hg:QG X tg g)(hb:wo X body tb)(hs:∀x,foldedSetIterable iter X.env x=pure x:=by intro _;rfl):QS X (.For tg iter body [] pos) (Jk wi g tb):=⟨HY (hp:=hp) (hc:=hc) (hi:=hi.h) (hg:=hg.h) (hb:=hb.h) (hs:=hs)⟩
theorem ax{i:Nat}{x:Str}{e:Expr}{te:TE}{pos':Pos}(hN:X.N.Nodup)(hi:X.N[i]? = some x)(hx:DT X.env.scope x)(he:QE X e te)(hs:swapsWith e (some (.Name x pos')) pos.line X.env=pure false:=by rfl)(hf:X.fn x=true\/X.env.scope.names.lookup x=some .local:=by first|exact .inl rfl|exact .inr rfl|assumption) :
  QS X (.Assign [.Name x pos'] e pos) (sQ te (jy i)):=⟨IA (hN:=hN) (hi:=hi) (hx:=hx) (he:=he.h) (hs:=hs) (hf:=hf)⟩
theorem sw{i j:Nat}{x y:Str}{a b:Expr}{ta:TA}{px py pt:Pos} {kt k2 pt2}(hc:X.calm=true)(hN:X.N.Nodup)(hi:X.N[i]? = some x)(hj:X.N[j]? = some y)(hij:i≠j)(hx:X.env.scope.names.lookup x=some .local)(hy:X.env.scope.names.lookup y=some .local)(ha:QA X [a,b] ta)(hw:swappedStores [.Tuple [.Name x px,.Name y py] kt pt] (.Tuple [a,b] k2 pt2) X.env=pure (some [x,y]))(hs:swapsWithSole [.Tuple [.Name x px,.Name y py] kt pt] (.Tuple [a,b] k2 pt2) pos.line X.env=pure false:=by rfl) :
  QS X (.Assign [.Tuple [.Name x px,.Name y py] kt pt] (.Tuple [a,b] k2 pt2) pos) (Ga i j ta):=⟨Hi (hc:=hc) (hN:=hN) (hi:=hi) (hj:=hj) (hij:=hij) (hx:=hx) (hy:=hy) (ha:=ha.h) (hw:=hw) (hs:=hs)⟩
theorem eD{tg e:Expr}{te:TE}{g:TG}(he:QE X e te)(hg:QG X tg g)(hs:swapsWithSole [tg] e pos.line X.env=pure false:=by rfl)(hw:swappedStores [tg] e X.env=pure none:=by rfl)(h1:(assignEach [tg] X.env).map (·.2)=[assign tg X.env]:=by rfl):QS X (.Assign [tg] e pos) (sQ te g):=⟨HZ (he:=he.h) (hg:=hg.h) (hs:=hs) (hw:=hw) (h1:=h1)⟩
theorem jE{i:Nat}{x:Str}{e:Expr}{te:TE}{op:Operator}{ti:DQ}{pos':Pos}(hN:X.N.Nodup)(hi:X.N[i]? = some x)(hx:DT X.env.scope x)(he:QE X e te)(ho:Gv X op ti)(hf:X.fn x=true\/X.env.scope.names.lookup x=some .local:=by first|exact .inl rfl|exact .inr rfl|assumption) :
  QS X (.AugAssign (.Name x pos') op e pos) (GJ i te ti):=⟨GO (hN:=hN) (hi:=hi) (hx:=hx) (he:=he.h) (ho:=ho) (hf:=hf)⟩
theorem Ed{o i e:Expr}{to ti te:TE}{tget:V->V->Hp->VK->Prop}{tip:DQ}{tset:xG}{op:Operator}{tpos:Pos}(ho:QE X o to)(hi:QE X i ti)(hg:HF X tget)(he:QE X e te)(hp:Gv X op tip)(hs:zV X tset)(ha:∀ov iv new,augStore i ov iv new=(do holding [new,ov,iv] (setItem ov iv new);release [new,ov,iv] [];pure .next):=by intros;rfl):QS X (.AugAssign (.Subscript o i tpos) op e pos) (AU to ti te tget tip tset):=⟨EY (ho:=ho.h) (hi:=hi.h) (hg:=hg) (he:=he.h) (hp:=hp) (hs:=hs) (ha:=ha)⟩
theorem aP  : wo X [] CZ:=⟨Fk ⟩
theorem ah(h1:QS X st t):wo X [st] t:=⟨Eu (h1:=h1.h)⟩
theorem ag(h1:QS X st t)(h2:wo X rest' u):wo X (st::rest') (aR t u):=⟨AY (h1:=h1.h) (h2:=h2.h)⟩
theorem Ey{X:Cx}{st:Stmt}{rest':List Stmt}{t u:TS}(h1:QS X st t)(h2:wo X rest' u):wo X (st::rest') (AR t u):=⟨EJ (h1:=h1.h) (h2:=h2.h)⟩
theorem gh{X:Cx}:QF X [] IN:=⟨IP ⟩
theorem BV{X:Cx}{c:Expr}{t:TT}(h:QT X c t):QF X [c] t:=⟨Iz (h:=h.h)⟩
theorem qv(i:Nat){x:Str}{pos:Pos}(hN:X.N[i]? = some x:=by rfl)(hv:GL X.env.scope x:=by first|exact Or.inl rfl|exact Or.inr (Or.inl rfl)|exact Or.inr (Or.inr rfl))(hd:(x==("__debug__" : Str))=false:=by decide) (hcd:(x==("__classdict__" : Str))=false:=by decide):QE X (.Name x pos) (tVar i):=⟨pv (i:=i) (hN:=hN) (hv:=hv) (hd:=hd) (hcd:=hcd)⟩
theorem eO{tg iter elt:Expr}{ifs:List Expr}{scope:Scope}{wi:TI}{g:TG}{tif:TT}{te:TE}{cl:List (Str×Addr)}{own outs:List Str}{ixs:List Nat}
  (hc:X.calm=true)(hi:QI X tg iter wi)(hclos:closureFor scope X.env=pure cl)(S:qp X scope cl own outs ixs)
  (hb:∀C s H ex,QG (nJ X scope cl (own++outs) C s H ex) tg g/\QF (nJ X scope cl (own++outs) C s H ex) ifs tif/\QE (nJ X scope cl (own++outs) C s H ex) elt te)
  (hs:∀x,foldedSetIterable iter X.env x=pure x:=by intro _;rfl):QE X (.ListComp elt [⟨tg,iter,ifs,0⟩] scope pos) (uS X.K wi own.length ixs g tif te) :=
 ⟨D7 hc hi.h hclos S (λC s H ex=>⟨(hb C s H ex).1.h,(hb C s H ex).2.1.h,(hb C s H ex).2.2.h⟩) hs⟩
theorem ut{tg iter elt:Expr}{ifs:List Expr}{scope:Scope}{spos py:Pos}{y:Str}{i:Nat}{wi:TI}{g:TG}{tif:TT}{te:TE}{cl:List (Str×Addr)}{own outs:List Str}{ixs:List Nat}
  (hN:X.N.Nodup)(hy:X.N[i]? = some y)(hx:DT X.env.scope y)(hc:X.calm=true)(hi:QI X tg iter wi)(hclos:closureFor scope X.env=pure cl)(S:qp X scope cl own outs ixs)
  (hb:∀C s H ex,QG (nJ X scope cl (own++outs) C s H ex) tg g/\QF (nJ X scope cl (own++outs) C s H ex) ifs tif/\QE (nJ X scope cl (own++outs) C s H ex) elt te)
  (hsw:swapsWith (.ListComp elt [⟨tg,iter,ifs,0⟩] scope pos) (some (.Name y py)) spos.line X.env=pure true:=by rfl)
  (hs:∀x,foldedSetIterable iter X.env x=pure x:=by intro _;rfl)(hf:X.fn y=true\/X.env.scope.names.lookup y=some .local:=by first|exact .inl rfl|exact .inr rfl|assumption) :
  QS X (.Assign [.Name y py] (.ListComp elt [⟨tg,iter,ifs,0⟩] scope pos) spos) (sQ (uS X.K wi own.length ixs g tif te) (jy i)) :=
 ⟨Ee hN hy hx hc hi.h hclos S (λC s H ex=>⟨(hb C s H ex).1.h,(hb C s H ex).2.1.h,(hb C s H ex).2.2.h⟩) hsw hs hf⟩
end
section
variable {P:Program}{w:World}{K:W.Frag}{mg:Str->Option Value}{base:Heap}
theorem dA.okQ{x qual:Str}{st:Stmt}{f:Addr}{fd:FuncData}{N ps:List Str}{k:Nat}{sp:Sp}(F:dA K x qual st f fd)(S:aA N ps (ak st))(len:∀vs H Q E,sp vs H Q E->vs.length=ps.length)
  (hbody:∀(cdv:Value)(A:Around)(outer:List Env)(s:Shared)(H:Hp)(vs:List V)(Q:VK)(E:XK),cN k (A.deeper (envOfC qual (ak st) s.heap.objs.size f cdv))->sp vs H Q E ->
   ∃t,wo (fT dC P w K mg base N qual (ak st) f cdv A outer s H E).nox (di st) t/\t { nx:=λ_ H'=>Q .non H',rt:=Q } (start N vs) H):a9 P w K mg base dC (k+1) f fd ps sp :=
 F.ok S len λcdv A outer s H vs Q E hr h=>(hbody cdv A outer s H vs Q E hr h).imp λt z=>⟨z.1.h,z.2⟩
end
section
variable {X:Cx}{pins:List (Addr×Obj)}{σ:St}{H:Hp}{s:Shared}{h':Heap}
theorem aJ.turnT{t':Nat}{ch:List Addr}{T:Addr}{xs:List V}{its:List Value}(I:aJ X pins σ H s)(k:∀b o,b∉ch->s.heap.get? b=some o->h'.get? b=some o)(hf:∀b∈ch,qK X pins H b)
  (hT:s.heap.objs.size<=T)(hz:xs.length<=sizeLine)(rv:aY xs its)(ht:IsTup h' T its.toArray):aJ X pins σ (upd H T (.tup xs)) { s with heap:=h',toks:=t' }:=by
 have hn:H T=none:=I.hok.fresh hT;have nT:∀b o,s.heap.get? b=some o->b≠T:=λb o e=>YR (Ym (Heap.lt_size e) hT);refine I.step (g':=s.gens) (d':=s.drawn) (ch:=ch) (λb hb=>?_) (λb o _ _ hc e _=>k b o hc e) (λb o _ _ hc e _=>⟨o.slots,k b o hc e⟩) (λb o _ e n=>?_)
  (λb o hc e=>⟨o,k b o hc e⟩) (λb ys e=>?_) (λb o u e=>?_) (λb ps e=>⟨#[],?_⟩) (λm hm=>?_) (λb u e=>?_) I.bare
 .obtain⟨_,f1,_,f3,f4,f5⟩:=hf b hb;exact⟨f3,f1,f4,f5⟩
 .rw[aT (nT b o e)];exact n
 .rw[aT (aj e hn)];exact e
 .rw[aT (aj e hn)];exact e
 .rw[aT (aj e hn),e];simp
 .obtain⟨o,es,ep,ho,r⟩:=hm;exact⟨o,es,ep,k _ o (λz=>(hf _ z).2.1 rfl) ho,r⟩
 .by_cases hb:b=T
  .subst hb;rw[bj] at e;cases e;exact⟨hz,its,rv,ht⟩
  .rw[aT hb] at e;have nch:∀c v,H c=some v->c∉ch:=λc v z hc=>by
    rw[(hf c hc).1] at z;cases z
   refine (I.hok b u e).stay (λc v hc q=>k c v ?_ q) (λc q=>?_) λc ys q=>?_
   .rcases hc with z|z
    .rw[z];exact nch b u e
    .exact nch c _ z
   .rw[aT (aj q hn)];exact q
   .rw[aT (aj q hn)];exact q
end
def Lu(K:W.Frag)(R:Hp->List (List V)->Prop):It :=
 ⟨λi H=>∃ys t,R H ys/\ys[i]? = some t,λi H x H'=>∃p t,x=.ref p/\vw K H p=none/\az (vw K H) (vw K H')/\vw K H' p=some (.tup t) /\ ∀ys,R H ys->ys[i]? = some t,λi H=>∃ys,R H ys/\ys.length=i⟩
def Gr(K:W.Frag)(a:Addr):Hp->List (List V)->Prop:=λH ys=>∃xs,H a=some (.lst xs)/\ys=xs.mapIdx λi x=>[V.int i,x]
theorem zQ{P:Program}{w:World}{K:W.Frag}{elts:List Expr}{x1:Nat}{pos:Pos}(a e it:Addr)(hne:e≠it)(ha:a≠e)(ha2:a≠it) :
  zG P w K (.Tuple elts x1 pos) (Lu K (Gr K a)) [e,it] e (λi h=>(∃old,IsEnum h e it (i:Int) old)/\h.IsListIter it a i) where
 mem:=by simp
 obj:=λi h st b hb=>by
  obtain⟨⟨old,h1⟩,o,h2,c,d⟩:=st;simp only[YY,YN,Xy] at hb;rcases hb with rfl|rfl
  .exact⟨_,h1,λv z=>by cases z⟩
  .exact⟨o,h2,λv z=>by rw[d] at z;cases z⟩
 keep:=λi h h' st k=>by
  obtain⟨⟨old,h1⟩,h2⟩:=st;exact⟨⟨old,k e (by simp) _ h1⟩,h2.at λo z=>k it (by simp) o z⟩
 item:=by
  intro X hP hw hK hc i pins s σ H E I hf st hg;subst hP hw hK;obtain⟨⟨old,h1⟩,h2⟩:=st;obtain⟨ys,t,⟨xs,hxs,rfl⟩,ht⟩:=hg;rw[List.getElem?_mapIdx] at ht;cases hx:xs[i]? with
  | none=>rw[hx] at ht;cases ht
  | some x =>
   rw[hx] at ht;cases ht;obtain⟨its,rv,p,hz⟩:=I.list (jq.of (K:=X.K) hxs);obtain⟨u,hu,ru⟩:=rv.get hx;refine wpAny_pyNext_enum_item h1 h2 p.isList (x:=u) (by simpa using hu) hne λh3 heo hit ht3 hz3 hk3=>⟨_,rfl,?_⟩
   refine wpAny_letOwnedTupleGo_enum (s:={ s with heap:=h3,toks:=s.toks+1 }) heo λh4 he4 hs4=>?_
   have hes:e<s.heap.objs.size:=Heap.lt_size h1;have ht4:=hs4.extBut _ _ (Nat.ne_of_gt hes) ht3;have k4:∀b o,b∉[e,it]->s.heap.get? b=some o->h4.get? b=some o:=λb o hb z=>by
    simp only[YY,YN,Xy,not_or] at hb;exact hs4.extBut _ _ hb.1 (hk3 b o hb.1 hb.2 z)
   have I4:aJ X pins σ (upd H s.heap.objs.size (.tup [.int i,x])) { s with heap:=h4,toks:=s.toks+1 } :=
    I.turnT (its:=[.int i s.toks,u]) k4 hf (Yi _) (show 2<=sizeLine by decide) (.cons ⟨_,rfl⟩ (.cons ru .nil)) ⟨_,ht4,rfl,_,rfl⟩
   have fr:=I.hok.fresh (Yi s.heap.objs.size);have nk:=I.newK (Yi s.heap.objs.size);refine⟨.ref s.heap.objs.size,_,I4,rfl,⟨_,_,rfl,by rw[cX nk];exact fr,lJ (az.upd fr),by rw[cX nk];exact bj,?_⟩,⟨⟨_,he4⟩,hit.extBut hs4.extBut hne.symm⟩,λb hb=>?_⟩
   .rintro ys ⟨zs,hzs,rfl⟩;rw[hxs] at hzs;cases hzs;rw[List.getElem?_mapIdx,hx];rfl
   .have:b<s.heap.objs.size:=by
     simp only[YY,YN,Xy] at hb;rcases hb with rfl|rfl
     .exact hes
     .obtain⟨_,z,_⟩:=h2;exact Heap.lt_size z
    rw[aT (YR this)];exact (hf b hb).1
 done:=by
  intro X hP hw hK hc i pins s σ H E I hf st hg;subst hP hw hK;obtain⟨⟨old,h1⟩,h2⟩:=st;obtain⟨ys,⟨xs,hxs,rfl⟩,hl⟩:=hg;obtain⟨its,rv,p,hz⟩:=I.list (jq.of (K:=X.K) hxs);have hl':=rv.length;rw[List.length_mapIdx] at hl;obtain⟨f0,f1,f2,f3,f4,f5⟩:=hf it (by simp)
  exact wpAny_pyNext_enum_end (I.ok.hd hc) h1 h2 p.isList (by simp;nofun) λh' eb=>⟨rfl,I.turned (t':=s.toks) (λb o hb z=>eb b o hb z) f0 f1 f3 f4 f5⟩
 self:=λ_ _ _ _ _ st h=>by
  obtain⟨⟨old,h1⟩,_⟩:=st;exact wpAny_pyIter_enum h1 h
def C8(K:W.Frag)(ta:TA):TI:=λσ H R=>ta σ H λvs H1=>∃a,vs=[.ref a]/\(∃xs,vw K H1 a=some (.lst xs))/\R (Lu K (Gr K a)) H1
theorem E7{X:Cx}{elts:List Expr}{x1:Nat}{tp p pos:Pos}{a:Expr}{ta:TA}(hg:Gl X "enumerate") (hm:X.mg "enumerate" = none) (ha:PA X [a] ta)(hs:starEach [a] X.env=[(false,eval a X.env)]:=by rfl) :
  PI X (.Tuple elts x1 tp) (.Call (.Name "enumerate" p) [a] [] pos) (C8 X.K ta):=by
 intro pins s σ H R I h;refine Call_ (jz I hg hm tH (Xc (cD (ha pos pins s σ H _ I h) λus s1 ⟨vs,H1,I1,r1,q1⟩=>?_) hs rfl));obtain⟨b,e,⟨xs,hx⟩,q⟩:=q1;subst e;cases r1 with
 | cons r rr =>
  cases rr;cases r;have hx':=aM hx;obtain⟨hz,its,n,rv,ho⟩:=I1.hok b _ hx';refine call_enumerate_1 ho λh2 he hit hsz hk=>?_;refine wpAny_pyIter_enum (s:={ s1 with heap:=h2 }) he ?_
  have hb:b<s1.heap.objs.size:=Heap.lt_size ho;refine⟨_,[s1.heap.objs.size+1,s1.heap.objs.size],_,_,H1,rfl,I1.kept (t':=s1.toks) hk,zQ b _ _ (Nat.ne_of_gt (Nat.lt_succ_self _)) (YR (Nat.lt_succ_of_lt hb)) (YR hb),⟨⟨_,he⟩,hit⟩,λc hc=>?_,q⟩;have hc':s1.heap.objs.size<=c:=by
   simp only[YY,YN,Xy] at hc;rcases hc with z|z
   .rw[z];exact Nat.le_succ _
   .rw[z];exact Yi _
  exact I1.fpOk hc' (I1.hok.fresh hc')
theorem Cr{K:W.Frag}{R:Hp->List (List V)->Prop}{rows:List (List V)}{g:TG}{tb:TS}{D:lU}{σ:St}{H:Hp}(Pv:Nat->St->Hp->Prop)(hl:∀i σ H,i<=rows.length->Pv i σ H->R H rows)(h0:Pv 0 σ H)
  (hs:∀i t σ H p H',i<rows.length->rows[i]? = some t->Pv i σ H->vw K H p=none->az (vw K H) (vw K H')->vw K H' p=some (.tup t)->g (.ref p) σ H' λσ2 H2=>tb { D with nx:=Pv (i+1),ct:=Pv (i+1),bk:=D.nx } σ2 H2)
  (hd:∀σ H,Pv rows.length σ H->D.nx σ H):Bi (Lu K R) g tb D σ H:=by
 refine⟨λi m σ H=>m=rows.length-i/\i<=rows.length/\Pv i σ H,⟨rows.length,by simp,Y7 _,h0⟩,?_⟩
 rintro i m σ H ⟨rfl,hi,p⟩;have q:=hl i σ H hi p;by_cases hlt:i<rows.length
 .refine .inr ⟨⟨rows,rows[i],q,by simp[hlt]⟩,Pv (i+1),λσ' H' p'=>⟨rows.length-(i+1),(),rfl,hlt,p'⟩,λx H' y=>?_⟩
  obtain⟨a,t,rfl,y1,y2,y3,y4⟩:=y;exact hs i t σ H a H' hlt (y4 rows q) p y1 y2 y3
 .have e:i=rows.length:=();subst e;exact .inl ⟨⟨rows,q,rfl⟩,hd σ H p⟩
theorem vB{α β:Type}{f g:α->Option β}:∀{l:List α},(∀x∈l,f x=g x)->l.filterMap f=l.filterMap g
 | [],_=>rfl
 | a::l,h=>by
  rw[XA,XA,h a (by simp),vB λx hx=>h x (by simp[hx])]
theorem CH(its:List Value):slicePick its.toArray none none (some (-1))=its.reverse.toArray:=by
 unfold slicePick;simp only[sliceBounds,Option.getD_some,Yn];have hn:¬ ((-1:Int) > 0):=∅;simp only[Yc hn];unfold sliceRange;simp only[Yc hn];have e:(if ((its.length:Int)-1 > -1) then ((its.length:Int)-1 - -1 - -1-1)/(- -1) else 0).toNat=its.length:=by
  rw[show (- -1:Int)=1 by decide,Int.ediv_one]
  split<;>nofun
 rw[e];congr 1
 rw[List.filterMap_map];apply List.ext_getElem?
 intro i;have key:(List.range its.length).filterMap ((λx=>its.toArray[x]?) ∘ λ(k:Nat)=>((its.length:Int)-1 + -1*(k:Int)).toNat)=(List.range its.length).filterMap λk=>its.reverse[k]?:=by
  apply vB
  intro k hk;have hk':k<its.length:=List.mem_range.mp hk;simp only[Function.comp];rw[List.getElem?_reverse hk'];simp only[List.getElem?_toArray];congr 1
  nofun
 rw[key];congr 1
 have h2:∀(l:List Value),(List.range l.length).filterMap (λk=>l[k]?)=l:=λl=>by
  induction l with
  | nil=>rfl
  | cons x xs ih =>
   rw[Yv,List.range_succ_eq_map,XA];simp only[List.getElem?_cons_zero,List.filterMap_map];congr 1
 have:=h2 its.reverse
 rwa [Xz] at this
def HK(K:W.Frag)(te:TE)(ts:TO):TE:=λσ H Q=>te σ H λx H1=>ts σ H1 λk H2=>k=some (-1) /\ ∃a,x=.ref a /\ ∃xs,vw K H2 a=some (.lst xs)/\Nw K H2 (.lst xs.reverse) Q
theorem Hw{X:Cx}{e st:Expr}{te:TE}{ts:TO}{p2 pos:Pos}(he:PE X e te)(hst:PO X (some st) ts):PE X (.Subscript e (.Slice none none (some st) p2) pos) (HK X.K te ts):=by
 intro pins s σ H Q I h;refine Subscript_ (cD (he pins s σ H _ I h) λv s1 ⟨x,H1,I1,r1,q1⟩=>?_);refine wpAny_Slice ?_;rw[evalPart_none];refine wpAny_pure (wpAny_pure (cD (hst pins s1 σ H1 _ I1 q1) λvk s3 ⟨k,H3,I3,pk,q3⟩=>?_));obtain⟨rfl,a,rfl,xs,hx,q⟩:=q3;cases r1;have I4:aJ X pins σ H3 { s3 with heap:=s3.heap.push { cls:=.type "slice",data:=.fields #[.none,.none,vk] } }:=I3.kept (t':=s3.toks) λb ob q=>Heap.get?_push_of_some _ q
 obtain⟨its,r,ht,hz⟩:=I4.list (jq.of (K:=X.K) (aM hx));have hlen:=r.length;refine tail_any (ops:=[.ref a,.ref s3.heap.objs.size]) ht.isList.typeIs slot_list_getitem.lookup ?_ (by with_unfolding_all rfl)
 refine wpAny_getItem_list_slice ht.isList (Heap.IsSliceOf.new ..) .none .none pk ∅ ?_ (by rw[Yn]<;>nofun)
 rw[CH];generalize s3.heap.push { cls:=.type "slice",data:=.fields #[.none,.none,vk] } = hp at I4 ht;refine⟨.ref hp.objs.size,_,I4.laid (t':=s3.toks) (o:=.lst xs.reverse) (λb ob q=>Heap.get?_push_of_some _ q) (Yi _) ?_,rfl,q.ok (I4.newK (Yi _)) (I4.hok.fresh (Yi _))⟩;exact⟨by rw[Xz];exact hz,_,0,r.reverse,Heap.get?_push_size _ rfl⟩
theorem Ij{X:Cx}{e st:Expr}{te:TE}{ts:TO}{p2 pos:Pos}(he:QE X e te)(hst:QO X (some st) ts):QE X (.Subscript e (.Slice none none (some st) p2) pos) (HK X.K te ts):=⟨Hw he.h hst.h⟩
theorem Fa{X:Cx}{elts:List Expr}{x1:Nat}{tp p pos:Pos}{a:Expr}{ta:TA}(hg:Gl X "enumerate") (hm:X.mg "enumerate" = none) (ha:QA X [a] ta)(hs:starEach [a] X.env=[(false,eval a X.env)]:=by rfl) :
  QI X (.Tuple elts x1 tp) (.Call (.Name "enumerate" p) [a] [] pos) (C8 X.K ta):=⟨E7 hg hm ha.h hs⟩
def Bq(n:Nat)(q:Int×Int):Prop:=Bt n q.1/\Bt n q.2
theorem Bq.mono{m n:Nat}{q:Int×Int}(h:Bq m q)(hl:m<=n):Bq n q:=⟨h.1.mono hl,h.2.mono hl⟩
def Jb(p q:Int×Int):Bool:=decide (p.1*q.2<q.1*p.2)
def kR(p q:Int×Int):Int×Int:=lo (p.1*q.2+q.1*p.2) (p.2*q.2)
theorem Ja{a b:Int}(hb:0<b):0<lg a b:=by
 unfold lg;rw[Yc ()];have:Int.gcd a b≠0:=λe=>by
  have:=(Int.gcd_eq_zero_iff.mp e).2;nofun
 nofun
theorem nI{a b:Int}{n:Nat}(hb:b≠0)(h1:Bt n a)(h2:Bt n b):Bq n (lo a b):=by
 have e1:=fU (a:=a) hb;have e2:=gD (a:=a) hb;have hl:0<(lg a b).natAbs:=by have:=Bc (a:=a) hb;nofun
 constructor
 .unfold Bt at *
  have:=YG (lo a b).1 (lg a b);rw[e1] at this;have:=Xu (lo a b).1.natAbs hl;nofun
 .unfold Bt at *
  have:=YG (lo a b).2 (lg a b);rw[e2] at this;have:=Xu (lo a b).2.natAbs hl;nofun
theorem yw{p q:Int×Int}(hp:Fq p)(hq:Fq q):Fq (kR p q):=kh (by have:=XV hp.1 hq.1;nofun)
theorem tj{p q:Int×Int}{m n:Nat}(hp:Fq p)(hq:Fq q)(h1:Bq m p)(h2:Bq n q):Bq (m+n+1) (kR p q):=by
 refine nI (by have:=XV hp.1 hq.1;nofun) ?_ ?_
 .have:=(h1.1.mul h2.2).add (h2.1.mul h1.2);exact this.mono ()
 .exact (h1.2.mul h2.2).mono ()
def gy(G:Hp)(a:Addr)(ds:List D):Prop:=∃xs,G a=some (.lst xs)/\aH G ds xs
section
variable {G G':Hp}{a l:Addr}{ds:List D}{xs:List V}
theorem gy.same(h:gy G a ds)(S:az G G'):gy G' a ds:=by
 obtain⟨ys,h1,h2⟩:=h;exact⟨ys,S _ _ h1,h2.same S⟩
theorem gy.but(h:gy G a ds)(hf:D.flats ds=true)(hl:G l=some (.lst xs))(hn:a≠l)(S:eN l G G'):gy G' a ds:=by
 obtain⟨ys,h1,h2⟩:=h;exact⟨ys,S _ _ hn h1,aH.flat_but hl S _ _ hf h2⟩
theorem gy.rep(h:gy G a ds):aD G (.lst ds) (.ref a):=by
 obtain⟨ys,h1,h2⟩:=h;exact .mk_lst h1 h2
theorem gy.ne_st{st:Addr}(h:gy G a ds)(hd:∀i b,ds≠[.int i,.bl b])(hst:dS G st):a≠st:=by
 rintro rfl;obtain⟨ys,h1,h2⟩:=h;obtain⟨x,b,h3,_⟩:=hst;rw[h1] at h3;cases h3;exact hd _ _ (aD.lst_st h2)
theorem gy.stBut{st:Addr}(h:gy G a ds)(hf:D.flats ds=true)(hd:∀i b,ds≠[.int i,.bl b])(hst:dS G st)(S:eN st G G'):gy G' a ds:=by
 obtain⟨x,b,h3,h4⟩:=id hst;exact h.but hf h3 (h.ne_st hd hst) S
end
theorem kD{K:W.Frag}{H:Hp}{p:Addr}{xs:List V}(h:vw K H p=some (.lst xs)):JO K "list" (.ref p) H:=.inl ⟨rfl,xs,.of (aM h)⟩
theorem gy.ty{K:W.Frag}{H:Hp}{p:Addr}{ds:List D}(h:gy (vw K H) p ds):JO K "list" (.ref p) H:=by
 obtain⟨xs,h,_⟩:=h;exact kD h
abbrev LK:=(Int×Int)×(Int×Int)
def J8(K:W.Frag)(a:Addr)(σr:St)(Pv:List V->Hp->Prop):St->Hp->Prop:=λσ H=>(∃y z,σ=y::z::σr) /\ ∃xs,vw K H a=some (.lst xs)/\Pv xs H
theorem Iu.mk2{K:W.Frag}{a:Addr}{σr:St}{Pv:List V->Hp->Prop}{x y:Option V}{v:V}{H:Hp}{xs:List V}(h:vw K H a=some (.lst xs))(hz:xs.length<sizeLine)
  (q:∀H5,eN a (vw K H) (vw K H5)->vw K H5 a=some (.lst (xs++[v]))->Pv (xs++[v]) H5):Iu K a (J8 K a σr Pv (x::y::σr)) v H:=⟨xs,h,hz,λH5 B h5=>⟨⟨_,_,rfl⟩,_,h5,q H5 B h5⟩⟩
def wv(q:Int×Int):Rat:=(q.1:Rat)/(q.2:Rat)
theorem aG{b:Int}(h:b≠0):(b:Rat)≠0:=by simpa using h
theorem kc{a b:Int}(hb:b≠0):wv (lo a b)=(a:Rat)/(b:Rat):=by
 have e1:=fU (a:=a) hb;have e2:=gD (a:=a) hb;have hg:=aG (Bc (a:=a) hb);have hd:(lo a b).2≠0:=by have:=(kh (a:=a) hb).1;nofun
 have hd':=aG hd;have c1:((lo a b).1:Rat)*(lg a b:Rat)=(a:Rat):=by
  have:=Xb (λi:Int=>(i:Rat)) e1;simpa using this
 have c2:((lo a b).2:Rat)*(lg a b:Rat)=(b:Rat):=by
  have:=Xb (λi:Int=>(i:Rat)) e2;simpa using this
 unfold wv;rw[<-c1,<-c2];grind
theorem zn{a b c:Int}(h:b∣a*c)(hg:Int.gcd a b=1):b∣c:=by
 have h1:b.natAbs∣a.natAbs*c.natAbs:=by
  rw[<-YG];exact Int.natAbs_dvd_natAbs.mpr h
 have h2:Nat.Coprime b.natAbs a.natAbs:=by
  unfold Nat.Coprime;rw[Nat.gcd_comm];exact hg
 exact Int.natAbs_dvd_natAbs.mp (Nat.Coprime.dvd_of_dvd_mul_left h2 h1)
theorem xb{p q:Int×Int}(hp:Fq p)(hq:Fq q)(h:wv p=wv q):p=q:=by
 have h1:=aG (show p.2≠0 by have:=hp.1;nofun)
 have h2:=aG (show q.2≠0 by have:=hq.1;nofun)
 have e:p.1*q.2=q.1*p.2:=by
  unfold wv at h;have:(p.1:Rat)*(q.2:Rat)=(q.1:Rat)*(p.2:Rat):=⋯;have h3:((p.1*q.2:Int):Rat)=((q.1*p.2:Int):Rat):=by simpa using this
  exact Rat.intCast_inj.mp h3
 have d1:p.2∣q.2:=by
  have:p.2∣p.1*q.2:=⟨q.1,by rw[e,Y2]⟩
  exact zn this hp.2
 have d2:q.2∣p.2:=by
  have:q.2∣q.1*p.2:=⟨p.1,by rw[<-e,Y2]⟩
  exact zn this hq.2
 have e2:p.2=q.2:=Int.dvd_antisymm (Int.le_of_lt hp.1) (Int.le_of_lt hq.1) d1 d2;rw[e2] at e;have e1:p.1=q.1:=Int.eq_of_mul_eq_mul_right (by have:=hq.1;nofun) e
 exact Prod.ext e1 e2
theorem HI{p q:Int×Int}(hp:p.2≠0)(hq:q.2≠0):wv (kR p q)=wv p+wv q:=by
 unfold kR;rw[kc (YH hp hq)];unfold wv;have h1:=aG hp;have h2:=aG hq;simp only[Y9,Ye];grind
def zF(p q:Int×Int):Int×Int:=lo (p.1*q.1) (p.2*q.2)
theorem yj{p q:Int×Int}(hp:Fq p)(hq:Fq q):Fq (zF p q):=kh (by have:=XV hp.1 hq.1;nofun)
theorem xP{p q:Int×Int}{m n:Nat}(hp:Fq p)(hq:Fq q)(h1:Bq m p)(h2:Bq n q):Bq (m+n) (zF p q):=nI (by have:=XV hp.1 hq.1;nofun) (h1.1.mul h2.1) (h1.2.mul h2.2)
theorem CW{p q:Int×Int}(hp:p.2≠0)(hq:q.2≠0):wv (zF p q)=wv p*wv q:=by
 unfold zF;rw[kc (YH hp hq)];unfold wv;have h1:=aG hp;have h2:=aG hq;simp only[Ye];grind
section
variable {X:Cx}
theorem oj:Gv X .Mult (λx y H Q=>∃i j,x=.int i/\y=.int j/\IntMulOk i j/\Q (.int (i*j)) H):=by
 intro pins s σ H x y v u Q I r1 r2 h;obtain⟨i,j,rfl,rfl,m,q⟩:=h;obtain⟨t,rfl⟩:=r1;obtain⟨t',rfl⟩:=r2;exact imul_int ⟨.int _,H,I.tok _,⟨_,rfl⟩,q⟩ m
theorem vi{st:Stmt}:QS X st pM:=⟨DD⟩
end
theorem wH{K:W.Frag}{J:It}{its:List V}{ps:List (V×V)}{tif:TT}{te:TE}{a:Addr}{x0 x1:Option V}{σr:St}{H0:Hp}{Q:Hp->Prop}(Pv:Nat->List V->Hp->Prop)(hlen:its.length=ps.length)
  (hl:∀i xs H,i<=its.length->vw K H a=some (.lst xs)->Pv i xs H->pN J H its /\ ∀(j:Nat)(x y:V),ps[j]? = some (x,y) -> ∃p:Addr,its[j]? = some (V.ref p)/\vw K H p=some (HO.tup [x,y]))(ha:vw K H0 a=some (.lst []))(h0:Pv 0 [] H0)
  (hs:∀i x y xs H,i<ps.length->ps[i]? = some (x,y)->vw K H a=some (.lst xs)->Pv i xs H->tif (some x::some y::σr) H λb H3=>if b=true then te (some x::some y::σr) H3 (Iu K a (J8 K a σr (Pv (i+1)) (some x::some y::σr))) else J8 K a σr (Pv (i+1)) (some x::some y::σr) H3)
  (hd:∀xs H,vw K H a=some (.lst xs)->Pv ps.length xs H->Q H):um K J (vT K 2 (rQ (jy 0) (rQ (jy 1) Cf))) tif te a (x0::x1::σr) H0 Q:=by
 refine⟨λi m σ H=>m=ps.length-i/\i<=ps.length/\J8 K a σr (Pv i) σ H,⟨ps.length,by simp,Y7 _,⟨_,_,rfl⟩,_,ha,h0⟩,?_⟩
 rintro i m σ H ⟨rfl,hi,⟨y,z,rfl⟩,xs,hxs,p⟩;obtain⟨⟨q1,q2,q3⟩,q4⟩:=hl i xs H () hxs p;by_cases hlt:i<ps.length
 .refine .inr ⟨q1 i (),J8 K a σr (Pv (i+1)),λσ' H' p'=>⟨ps.length-(i+1),(),rfl,hlt,p'⟩,λx H' y=>?_⟩;obtain⟨e,y2⟩:=q2 i x H' () y;subst e;obtain⟨b,e1,e2⟩:=q4 i _ _ (Ya hlt);rw[e1] at y2;cases y2;exact⟨b,rfl,_,e2,rfl,_,_,rfl,_,_,rfl,rfl,hs i _ _ xs _ hlt (Ya hlt) hxs p⟩
 .have e:i=ps.length:=();subst e;exact .inl ⟨hlen▸q3,hd xs H hxs p⟩
theorem fX{g q:Int}(hg:g≠0)(h:g∣q):q.fdiv g*g=q:=by
 obtain⟨m,rfl⟩:=h;rw[Y2 g m,Int.mul_fdiv_cancel m hg]
theorem xW{a b:Int}(ha:0<=a)(hb:1<=b):a<=a*b:=by
 have:=Int.mul_le_mul_of_nonneg_left hb ha;nofun
theorem uR{b q:Int}(hb:0<b)(hq:0<q):0<q.fdiv (Int.gcd b q:Int)/\q.fdiv (Int.gcd b q:Int)<=q/\q∣b*q.fdiv (Int.gcd b q:Int)/\(Int.gcd b q:Int)≠0/\(Int.gcd b q:Int)<=q:=by
 have hg:(Int.gcd b q:Int)≠0:=by
  have:Int.gcd b q≠0:=λe=>by
   have:=(Int.gcd_eq_zero_iff.mp e).2;nofun
  nofun
 have hg0:0<(Int.gcd b q:Int):=();have e:=fX hg (XH b q);have hle:(Int.gcd b q:Int)<=q:=Int.le_of_dvd hq (XH b q);generalize q.fdiv (Int.gcd b q:Int)=c at e;obtain⟨m,hm⟩:=Int.gcd_dvd_left b q;have hc:0<c:=by
  refine Int.pos_of_mul_pos_left ?_ hg0;rw[e];exact hq
 refine⟨hc,?_,⟨m,?_⟩,hg,hle⟩
 .rw[<-e];exact xW () ()
 .rw[<-e];generalize (Int.gcd b q:Int)=g at *
  rw[hm];rw[Int.mul_right_comm,Y2 c g]
theorem Bt.le{n:Nat}{x y:Int}(h:Bt n y)(h0:0<=x)(hl:x<=y):Bt n x:=by
 unfold Bt at *
 nofun
theorem uM{q:Int×Int}{D:Int}{m n:Nat}(hq:Fq q)(hd:q.2∣D)(hD:0<D)(b1:Bt m D)(b2:Bt n q.1):((q.1*D.fdiv q.2:Int):Rat)=wv q*(D:Rat)/\Bt (m+n) (q.1*D.fdiv q.2)/\Bt m (D.fdiv q.2):=by
 have h2:q.2≠0:=by have:=hq.1;nofun
 have e:=fX h2 hd;have hp:0<D.fdiv q.2:=by
  refine Int.pos_of_mul_pos_left ?_ hq.1;rw[e];exact hD
 have hle:D.fdiv q.2<=D:=by
  have:=xW (Int.le_of_lt hp) (show 1<=q.2 by have:=hq.1;nofun)
  rw[e] at this;exact this
 have bm:=b1.le (Int.le_of_lt hp) hle;refine⟨?_,(b2.mul bm).mono (),bm⟩;generalize D.fdiv q.2=c at *
 have h3:=aG h2;rw[<-e];unfold wv;simp only[Ye];grind
def cJ(x:Rat):Nat->Rat
 | 0=>1
 | k+1=>cJ x k*x
theorem rA(x:Rat)(k:Nat):cJ x (k+1)=cJ x k*x:=rfl
theorem pD{d:D}(h:d.cmp):qQ d d=true:=SeqAt.eqv_refl _ h.1
def LU(K:W.Frag)(a:Addr)(n:Nat):It :=
 ⟨λi H=>∃xs,jq K H a xs/\xs.length=n/\i<n,λi H x H'=>H'=H /\ ∀xs,jq K H a xs->xs[n-1-i]? = some x,λi _=>i=n⟩
theorem BE{P:Program}{w:World}{K:W.Frag}{tg:Expr}(a it:Addr)(n:Nat):zG P w K tg (LU K a n) [it] it (λi h=>h.IsRevIter it a ((n:Int)-1-(i:Int))) where
 mem:=by simp
 obj:=λi h st b hb=>by
  have e:b=it:=by simpa using hb
  subst e;obtain⟨o,e,c,d⟩:=st;exact⟨o,e,λv z=>by rw[d] at z;cases z⟩
 keep:=λi h h' st k=>st.at λo e=>k it (by simp) o e
 item:=by
  intro X hP hw hK hc i pins s σ H E I hf st hg;subst hP hw hK;obtain⟨xs,hq,hl,hi⟩:=hg;obtain⟨its,rv,p,hz⟩:=I.list hq;have hx:xs[n-1-i]? = some (xs[n-1-i]'()):=Ya ();obtain⟨u,hu,ru⟩:=rv.get hx;obtain⟨f0,f1,f2,f3,f4,f5⟩:=hf it (by simp)
  have e:(n:Int)-1-(i:Int)=((n-1-i:Nat):Int):=();have st2:s.heap.IsRevIter it a ((n-1-i:Nat):Int):=e▸st;refine wpAny_pyNext_rev_item st2 p.isList (x:=u) (by simpa using hu) λh' st' sb=>?_
  have I1:aJ X pins σ H { s with heap:=h' }:=I.turned (t':=s.toks) (λb o hb e=>(sb.2 b hb).trans e) f0 f1 f3 f4 f5
  obtain⟨o,e1,c,d⟩:=id st';refine⟨u,rfl,xV (s:={ s with heap:=h' }) e1 c d ∅ ⟨_,H,I1,ru,⟨rfl,λys hy=>by rw[I.list_inj hy hq];exact hx⟩,?_,λb hb=>(hf b hb).1⟩⟩
  rw[show (n:Int)-1-((i+1:Nat):Int)=((n-1-i:Nat):Int)-1 by nofun]
  exact st'
 done:=by
  intro X hP hw hK hc i pins s σ H E I hf st hg;subst hP hw hK;have hg':i=n:=hg;subst hg';obtain⟨f0,f1,f2,f3,f4,f5⟩:=hf it (by simp)
  have st2:s.heap.IsRevIter it a (-1):=by
   have e:(i:Int)-1-(i:Int) = -1:=();exact e▸st
  exact wpAny_pyNext_rev_end (I.ok.hd hc) st2 λh' eb=>⟨rfl,I.turned (t':=s.toks) (λb o hb e=>eb b o hb e) f0 f1 f3 f4 f5⟩
 self:=λ_ _ _ _ _ st h=>wpAny_pyIter_revIter st h
def IY(K:W.Frag)(ta:TA):TI:=λσ H R=>ta σ H λvs H1=>∃a,vs=[.ref a] /\ ∃xs,vw K H1 a=some (.lst xs)/\R (LU K a xs.length) H1
theorem IW{X:Cx}{tg:Expr}{p pos:Pos}{a:Expr}{ta:TA}(hg:Gl X "reversed") (hm:X.mg "reversed" = none) (ha:PA X [a] ta)(hs:starEach [a] X.env=[(false,eval a X.env)]:=by rfl) :
  PI X tg (.Call (.Name "reversed" p) [a] [] pos) (IY X.K ta):=by
 intro pins s σ H R I h;refine Call_ (jz I hg hm wk (Xc (cD (ha pos pins s σ H _ I h) λus s1 ⟨vs,H1,I1,r1,q1⟩=>?_) hs rfl));obtain⟨b,e,xs,hx,q⟩:=q1;subst e;cases r1 with
 | cons r rr =>
  cases rr;cases r;obtain⟨its,rv,pl,hz⟩:=I1.list (jq.of (K:=X.K) (aM hx));have hl:=rv.length;refine call_reversed_list pl.isList ?_;have st:(s1.heap.push (revObj b ((its.toArray.size:Int)-1))).IsRevIter s1.heap.objs.size b ((its.toArray.size:Int)-1):=⟨_,Heap.get?_push_size _ rfl,rfl,rfl⟩;refine wpAny_pyIter_revIter (s:={ s1 with heap:=s1.heap.push (revObj b ((its.toArray.size:Int)-1)) }) st ?_
  refine⟨_,[s1.heap.objs.size],_,_,H1,rfl,I1.kept (t':=s1.toks) λc o e=>Heap.get?_push_of_some _ e,BE b _ xs.length,?_,λc hc=>?_,q⟩
  .show Heap.IsRevIter _ _ _ _;have e:(xs.length:Int)-1-((0:Nat):Int)=(its.toArray.size:Int)-1:=by simp;nofun
   rw[e];exact st
  .have e:c=s1.heap.objs.size:=by simpa using hc
   subst e;exact I1.fpOk (Yi _) (I1.hok.fresh (Yi _))
theorem HJ{X:Cx}{tg:Expr}{p pos:Pos}{a:Expr}{ta:TA}(hg:Gl X "reversed") (hm:X.mg "reversed" = none) (ha:QA X [a] ta)(hs:starEach [a] X.env=[(false,eval a X.env)]:=by rfl) :
  QI X tg (.Call (.Name "reversed" p) [a] [] pos) (IY X.K ta):=⟨IW hg hm ha.h hs⟩
theorem Ag{K:W.Frag}{H:Hp}{a:Addr}{xs:List V}(h:vw K H a=some (.lst xs)):pN (LU K a xs.length) H xs.reverse:=by
 refine⟨λi hi=>⟨xs,.of (aM h),rfl,by simpa using hi⟩,λi x H' hi y=>⟨y.1,?_⟩,by show xs.reverse.length=xs.length;simp⟩
 rw[List.getElem?_reverse (by simpa using hi)]
 exact y.2 xs (.of (aM h))
def lE(p q:Int×Int):Int×Int:=lo (p.1*q.2-q.1*p.2) (p.2*q.2)
theorem zc{p q:Int×Int}(hp:Fq p)(hq:Fq q):Fq (lE p q):=kh (by have:=XV hp.1 hq.1;nofun)
theorem oq{p q:Int×Int}{m n:Nat}(hp:Fq p)(hq:Fq q)(h1:Bq m p)(h2:Bq n q):Bq (m+n+1) (lE p q):=by
 refine nI (by have:=XV hp.1 hq.1;nofun) ?_ ((h1.2.mul h2.2).mono ())
 exact ((h1.1.mul h2.2).sub (h2.1.mul h1.2)).mono ()
theorem Br{p q:Int×Int}(hp:p.2≠0)(hq:q.2≠0):wv (lE p q)=wv p-wv q:=by
 unfold lE;rw[kc (YH hp hq)];unfold wv;have h1:=aG hp;have h2:=aG hq;simp only[XS,Ye];grind
theorem oD{q:Int×Int}(hq:q.2≠0):wv q=0↔q.1=0:=by
 have h2:=aG hq;unfold wv;constructor
 .intro h;have:(q.1:Rat)=0:=⋯;simpa using this
 .intro h;have:(q.1:Rat)=0:=by rw[h];rfl
  rw[this];grind
def cf(qs:List (Int×Int))(k:Nat):Rat:=match qs[k]? with
 | some q=>wv q
 | none=>0
def eP(qs:List (Int×Int)):Prop:=(∀q∈qs,Fq q) /\ ∀q,qs.getLast? = some q->q.1≠0
theorem Fq.ne{q:Int×Int}(h:Fq q):q.2≠0:=by have:=h.1;nofun
theorem d5{qs:List (Int×Int)}{k:Nat}{q:Int×Int}(h:qs[k]? = some q):cf qs k=wv q:=by unfold cf;rw[h]
theorem cH{qs:List (Int×Int)}{k:Nat}(h:qs.length<=k):cf qs k=0:=by unfold cf;rw[List.getElem?_eq_none h]
theorem y9{qs:List (Int×Int)}{n:Nat}(hF:∀q∈qs,Fq q)(hz:∀q∈qs.drop n,q.1=0)(k:Nat):cf (qs.take n) k=cf qs k:=by
 by_cases hk:k<n
 .unfold cf;rw[Xg,Yh hk]
 .unfold cf;rw[Xg,Yc hk];cases e:qs[k]? with
  | none=>rfl
  | some q =>
   have hm:q∈qs.drop n:=Yr (i:=k-n) (by rw[List.getElem?_drop,show n+(k-n)=k by nofun];exact e)
   exact ((oD (hF q (Yr e)).ne).mpr (hz q hm)).symm
theorem yG{q:Int×Int}(h:Fq q):q=(0,1)↔q.1=0:=by
 constructor
 .rintro rfl;rfl
 .intro e;obtain⟨h1,h2⟩:=h;rw[e] at h2;have:q.2.natAbs=1:=by simpa using h2
  exact Prod.ext e (by show q.2=1;nofun)
def ig:List Int->Rat->Rat
 | [],_=>0
 | n::ns,x=>(n:Rat)+x*ig ns x
theorem zL{α:Type}{l:List α}{j:Nat}(h:j<l.length):l.drop (l.length-(j+1))=l[l.length-1-j]'()::l.drop (l.length-j):=by
 rw[Xl (show l.length-(j+1)<l.length by nofun)]
 have e1:l.length-(j+1)=l.length-1-j:=();have e2:l.length-(j+1)+1=l.length-j:=();simp only[e1,e2];congr 2
 nofun
def pz(f g:Nat->Int):Nat->Nat->Int
 | 0,_=>0
 | j+1,k=>pz f g j k+if j<=k then f j*g (k-j) else 0
def pr(f g:Nat->Rat):Nat->Nat->Rat
 | 0,_=>0
 | j+1,k=>pr f g j k+if j<=k then f j*g (k-j) else 0
theorem yt{f g:Nat->Int}{F G:Nat->Rat}{c d:Rat}(hf:∀i,(f i:Rat)=F i*c)(hg:∀i,(g i:Rat)=G i*d):∀j k,((pz f g j k:Int):Rat)=pr F G j k*(c*d)
 | 0,k=>by
  show ((0:Int):Rat)=0*(c*d);grind
 | j+1,k=>by
  show (((pz f g j k+if j<=k then f j*g (k-j) else 0:Int)):Rat)=(pr F G j k+if j<=k then F j*G (k-j) else 0)*(c*d)
  rw[Y9,yt hf hg j k];split
  .rw[Ye,hf,hg];grind
  .grind
theorem iT{n:Nat}:Bt n 0:=by
 show (0:Int).natAbs<2^n;exact Y4 n
def qr(f g:Nat->Rat)(j l k:Nat):Rat:=pr f g j k+if j<=k/\k-j<l then f j*g (k-j) else 0
theorem Ln(f g:Nat->Rat)(j k:Nat):qr f g j 0 k=pr f g j k:=by
 unfold qr;rw[Yc ()];grind
theorem JT(f g:Nat->Rat)(j l k:Nat):qr f g j (l+1) k=if k=j+l then qr f g j l (j+l)+f j*g l else qr f g j l k:=by
 by_cases h:k=j+l
 .subst h;rw[Yh rfl];unfold qr;rw[Yh (),Yc (),show j+l-j=l by nofun]
  grind
 .rw[Yc h];unfold qr;by_cases h2:j<=k/\k-j<l
  .rw[Yh h2,Yh ()]
  .rw[Yc h2,Yc ()]
theorem Hu{f g:Nat->Rat}{n:Nat}(hg:∀i,n<=i->g i=0)(j k:Nat):qr f g j n k=pr f g (j+1) k:=by
 show _=pr f g j k+if j<=k then f j*g (k-j) else 0
 unfold qr;by_cases h:j<=k
 .rw[Yh h];by_cases h2:k-j<n
  .rw[Yh ⟨h,h2⟩]
  .rw[Yc (),hg _ ()];grind
 .rw[Yc h,Yc ()]
theorem gz{f g:Nat->Rat}{n:Nat}(hg:∀i,n<=i->g i=0):∀(j k:Nat),j+n<=k+1->pr f g j k=0
 | 0,k,_=>rfl
 | j+1,k,h=>by
  show pr f g j k+(if j<=k then f j*g (k-j) else 0)=0
  rw[gz hg j k ()];by_cases h1:j<=k
  .rw[Yh h1,hg _ ()];grind
  .rw[Yc h1];grind
def lz{α:Type}(n:Nat)(h:Nat->α):List α:=(List.range n).map h
theorem sP{α:Type}{n:Nat}{h:Nat->α}:(lz n h).length=n:=by simp[lz]
theorem Dg{α:Type}{n:Nat}{h:Nat->α}{i:Nat}(hi:i<n):(lz n h)[i]? = some (h i):=by simp[lz,hi]
def nz(ns:List Int)(k:Nat):Int:=ns.getD k 0
theorem bA{ns:List Int}{k:Nat}{n:Int}(h:ns[k]? = some n):nz ns k=n:=by simp[nz,YF,h]
theorem a7{ns:List Int}{k:Nat}(h:ns.length<=k):nz ns k=0:=by simp[nz,YF,List.getElem?_eq_none h]
theorem uE{ns:List Int}{m:Nat}(h:∀n∈ns,Bt m n)(k:Nat):Bt m (nz ns k):=by
 cases e:ns[k]? with
 | none=>rw[a7 (List.getElem?_eq_none_iff.mp e)];exact iT
 | some n=>rw[bA e];exact h n (Yr e)
theorem Gn{n k:Nat}{h:Nat->Int}(hk:k<n):nz (lz n h) k=h k:=bA (Dg hk)
theorem AK{qs:List (Int×Int)}{ns:List Int}{D:Rat}(hl:ns.length=qs.length)(h:∀(i:Nat)(n:Int)(q:Int×Int),ns[i]? = some n->qs[i]? = some q->(n:Rat)=wv q*D)(i:Nat):((nz ns i:Int):Rat)=cf qs i*D:=by
 by_cases hi:i<qs.length
 .have e1:=Ya hi;have e2:=Ya (show i<ns.length by nofun)
  rw[bA e2,d5 e1];exact h i _ _ e2 e1
 .rw[a7 (),cH ()];show ((0:Int):Rat)=0*D;grind
theorem aH.set{H:Hp}:∀{ds:List D}{xs:List V}(i:Nat) {d:D}{x:V},aH H ds xs->aD H d x->aH H (ds.set i d) (xs.set i x)
 | [],xs,i,d,x,h,g=>by
  cases h.nil_at;exact .mk_nil
 | d0::ds,xs,i,d,x,h,g=>by
  obtain⟨x0,r,rfl,h1,h2⟩:=h.cons_at;cases i with
  | zero=>exact .mk_cons g h2
  | succ i=>exact .mk_cons h1 (h2.set i g)
theorem Gb{qs:List (Int×Int)}{i k:Nat}{q:Int×Int}(hi:i<qs.length):cf (qs.set i q) k=if k=i then wv q else cf qs k:=by
 by_cases h:k=i
 .subst h;rw[Yh rfl,d5 (List.getElem?_set_self hi)]
 .rw[Yc h];unfold cf;rw[List.getElem?_set_ne (XI h)]
theorem t7{n k:Nat}(h:k<n):xt n (k:Int)=some k:=by
 unfold xt;simp;nofun
theorem zI{X:Cx}:HF X (λo i H Q=>∃p k,o=.ref p/\i=.int k /\ ∃xs,vw X.K H p=some (.lst xs) /\ ∃v,pK xs k=some v/\Q v H):=by
 intro pins s σ H x y v u Q I rx ry h;obtain⟨p,k,rfl,rfl,xs,hx,z,he,q⟩:=h;cases rx;obtain⟨t,rfl⟩:=ry;obtain⟨its,r,pl,hz⟩:=I.list (jq.of (K:=X.K) (aM hx));obtain⟨j,h1,h2,h3,h4,h5⟩:=tL he;obtain⟨w,ew,rw'⟩:=r.get h2;have hl:=r.length;have hn:=mJ;have fin:EP X pins σ Q w s:=⟨z,H,I,rw',q⟩;by_cases h0:0<=k
 .have hj:k.toNat=j:=by
   rw[seqIndex_of h0 h5] at h1;exact YO h1
  exact wpAny_getItem_list pl.isList h0 () (by rw[hj];simpa using ew) fin
 .have hj:(k+(its.toArray.size:Int)).toNat=j:=by
   rw[seqIndex_neg () h4] at h1;rw[Yn,<-hl];exact YO h1
  exact wpAny_getItem_list_neg pl.isList () (by rw[Yn]<;>nofun) () (by rw[hj];simpa using ew) fin
theorem i7{K:W.Frag}{H:Hp}{p:Addr}{xs:List V}(h:vw K H p=some (.lst xs)):w8 K (.ref p) H (!xs.isEmpty):=.inl ⟨xs,.of (aM h),rfl⟩
theorem az.none{G G':Hp}{c:Addr}(S:az G G')(h:G' c=none):G c=none:=by
 cases e:G c with
 | none=>rfl
 | some o=>rw[S _ _ e] at h;cases h
theorem Gw:Fq (0,1):=⟨∅,∅⟩
theorem y7:wv (0,1)=0:=(oD (q:=(0,1)) ∅).mpr rfl
theorem vz{α:Type}(n:Nat)(x:α):(List.replicate n [x]).flatten=List.replicate n x:=by simp
theorem yS{α β:Type}(f:α->β)(n:Nat)(x:α):(List.replicate n x).map f=List.replicate n (f x):=by simp
theorem CP{qs:List (Int×Int)}{n:Nat}(hF:∀q∈qs,Fq q)(hz:∀q,(qs.take n).getLast? = some q->q.1≠0):eP (qs.take n):=⟨λq hq=>hF q (List.mem_of_mem_take hq),hz⟩
theorem cF.chg{G G':Hp}{e:Addr}{qs:List (Int×Int)}{xs:List V}{i:Nat}{q:Int×Int}{v:V}(h:G e=some (.lst xs))(r:aH G (qs.map fr) xs)(rv:aD G (fr q) v)(B:eN e G G')(h':G' e=some (.lst (xs.set i v))):cF G' e (qs.set i q):=by
 refine⟨_,h',?_⟩;have r':=aH.flat_but h B _ _ (iP qs) r;have:=r'.set i (aD.flat_but h B _ _ (dX q) rv);rw[List.map_set];exact this
theorem Km(q:Int×Int):(fr q).py=.tuple [.int q.1,.int q.2]:=by
 unfold fr;simp only[D.py,D.pys]
theorem BW:∀(qs:List (Int×Int)),PyData.canLayAll0 (D.pys (qs.map fr))=true/\PyData.depthAll (D.pys (qs.map fr))<=4
 | []=>by
  simp only[XB,D.pys];exact⟨rfl,by simp[PyData.depthAll]⟩
 | c::cs=>by
  obtain⟨h1,h2⟩:=BW cs;simp only[YQ,D.pys,Km,PyData.canLayAll0,PyData.canLay0,h1,PyData.depthAll,PyData.depth];refine⟨∅,?_⟩;nofun
theorem ol(fs:List (Int×Int)):(D.lst (fs.map fr)).cmp:=by
 obtain⟨h1,h2⟩:=BW fs;unfold D.cmp;simp only[D.py,PyData.canLay0,PyData.depth];exact⟨h1,()⟩
structure Ai (outer:List Env)(H H':Hp)(h:Heap)(B:Heap):Prop where
 b1:∀b,H' b≠none -> ∃o,B.get? b=some o
 b2:∀b o,h.get? b=some o->H b=none->b∉iJ outer->B.get? b=some o
 b3:∀b o,h.get? b=some o->b∉iJ outer -> ∃o',B.get? b=some o'
def mw(P:Program)(w:World):wK:=λouter H s E e s' =>
 ∃(a C:Addr)(a0:Value)(B:Heap)(H':Hp),e=.ref a/\s'.os=s.os/\AllBare s'.gens/\Un (iJ outer) [] H H' s.heap s'.heap/\jY P w H' s'.heap /\
  Heap.FlyingW B outer a (.ref C) a0 s'.heap/\Ai outer H H' s.heap B/\E (.ref C) none H'
theorem cA.there{P:Program}{w:World}{H:Hp}{h:Heap}{a:Addr}{o:HO}(x:cA P w H h a o):∃ob,h.get? a=some ob:=by
 cases o with
 | lst xs=>obtain⟨_,_,_,_,e⟩:=x;exact⟨_,e⟩
 | tup xs=>obtain⟨_,_,_,_,e,_⟩:=x;exact⟨_,e⟩
 | dK kvs=>obtain⟨_,_,_,_,o,_,_,e,_⟩:=x;exact⟨_,e⟩
 | dT kvs=>obtain⟨_,_,_,_,o,_,_,e,_⟩:=x;exact⟨_,e⟩
 | set S n=>obtain⟨o,_,_,_,e,_⟩:=x;exact⟨_,e⟩
 | ins C dx fs=>obtain⟨_,_,_,e,_⟩:=x;exact⟨_,e⟩
 | own y=>obtain⟨_,e⟩:=x;exact⟨_,e⟩
 | xd fs=>obtain⟨_,⟨_,_,_,e,_⟩,_⟩:=x;exact⟨_,e⟩
 | rng lo hi=>obtain⟨_,_,_,e⟩:=x;exact⟨_,e⟩
 | frz ob u=>obtain⟨e,_⟩:=x;exact⟨_,e⟩
 | tbl ps=>exact⟨_,show h.get? a=some _ from x⟩
 | met f y=>exact⟨_,show h.get? a=some _ from x⟩
 | ext φ=>obtain⟨_,e,_⟩:=x;exact e
theorem jC{P:Program}{w:World}{H:Hp}{h h':Heap}(x:jY P w H h)(k:∀b u,H b≠none->h.get? b=some u->h'.get? b=some u):jY P w H h':=λa o e =>
 (x a o e).stay (λb u hb q=>k b u (by
  rcases hb with rfl|z
  .rw[e];simp
  .rw[z];simp) q) (λ_ q=>q) λ_ _ q=>q
section
variable {X:Cx}{pins:List (Addr×Obj)}{σ:St}{H H':Hp}{s s':Shared}
theorem aJ.nofrs(I:aJ X pins σ H s) {b:Addr}(h:H b≠none):b∉iJ X.stack:=λz=>h (I.stkFree b z)
theorem aJ.flyB(I:aJ X pins σ H s)(hx:X.ex=[])(hs:X.stack=X.env::X.outer)(hfr:X.env.frame=some X.env.locals) {B:Heap}(F:Ai X.stack H H' s.heap B):Ai X.outer X.H₀ H' X.s₀.heap B:=by
 have nL:∀b o,X.s₀.heap.get? b=some o->b∉iJ X.outer->b∉iJ X.stack:=λb o e n z=>by
  rcases YY.mp (I.stkSub b z) with q|q
  .exact absurd (Ym (Heap.lt_size e) (q▸I.ok.above)) (Xr _)
  .exact n q
 have nx:∀b,b∉X.ex:=λb z=>by rw[hx] at z;exact absurd z (by simp)
 refine⟨F.b1,λb o e n nb=>?_,λb o e nb=>?_⟩
 .exact F.b2 b o (I.base.keep b o e n nb (nx b)) (I.base.free b o e n (nx b)) (nL b o e nb)
 .obtain⟨o',e'⟩:=I.base.there b o e (nx b);exact F.b3 b o' e' (nL b o e nb)
theorem aJ.flyUn(I:aJ X pins σ H s)(hx:X.ex=[])(hs:X.stack=X.env::X.outer)(hfr:X.env.frame=some X.env.locals) {B h h':Heap}(F:Ai X.stack H H' s.heap B)(u:Un (iJ X.stack) [] H H' s.heap h)(hB:B.StaysIn h')(up:h.UpToSlots h'):Un (iJ X.outer) [] X.H₀ H' X.s₀.heap h':=by
 have FB:=I.flyB hx hs hfr F;have nx:∀b,b∉X.ex:=λb z=>by rw[hx] at z;exact absurd z (by simp)
 have n0:∀b:Addr,b∉([]:List Addr):=λb z=>absurd z (by simp)
 have frame:∀b,b∈iJ X.outer -> ∀o,X.s₀.heap.get? b=some o -> ∃sl,h'.get? b=some { o with slots:=sl }:=λb hb o e=>by
  have hfree:=I.ok.frf b hb;obtain⟨sl,e1⟩:=I.base.slot b o e hfree hb (nx b);have h1:=I.base.free b o e hfree (nx b);obtain⟨sl2,e2⟩:=u.any e1 h1 (n0 b);obtain⟨_,o',e3,hd⟩:=I.ok.funs.mem hb;rw[e] at e3;cases e3;obtain⟨sl3,e4⟩:=up b _ e2 hd;exact⟨sl3,e4⟩
 refine⟨λb o e n nb _=>hB b o (FB.b2 b o e n nb),λb o e n nb _=>frame b nb o e,λb o e n _=>?_,λb o e _=>?_,λb xs e=>u.tups b xs (I.base.tups b xs e),λb o v e=>u.frzs b o v (I.base.frzs b o v e),λb ps e=>?_⟩
 .obtain⟨o',e1⟩:=I.base.there b o e (nx b);exact u.free b o' e1 (I.base.free b o e n (nx b)) (n0 b)
 .by_cases hb:b∈iJ X.outer
  .obtain⟨sl,q⟩:=frame b hb o e;exact⟨_,q⟩
  .obtain⟨o',q⟩:=FB.b3 b o e hb;exact⟨o',hB b o' q⟩
 .obtain⟨m1,e1⟩:=I.base.tbls b ps e;obtain⟨m2,e2⟩:=u.tbls b _ e1;exact⟨m1++m2,by rw[e2,Array.append_assoc]⟩
theorem aJ.raised{E:XK}{e C:Addr}{vs:List Value}{h':Heap}{Q':Value->Shared->Prop}{M:Model}(I:aJ X pins σ H s)(hx:X.ex=[])(hs:X.stack=X.env::X.outer)(hfr:X.env.frame=some X.env.locals)
  (hm:Heap.MadeExcOf s.heap h' e (.ref C) vs)(hE:E (.ref C) none H) {g:Array GenState}{d:Drawn}{t:Tok}{os:OsState}(hos:os=s.os)(hg:AllBare g) :
  wpAny M X.A (leaving X.env (.ref e)) (λ_ s''=>mw X.prog X.w X.outer X.H₀ X.s₀ E (.ref e) s'') Q' ⟨h',g,d,t,os⟩:=by
 have hfr':X.A.frames=some (X.env::X.outer):=by rw[I.ok.frames,hs]
 have hin:∀env∈X.stack,∀b,env.frame=some b->b∈iJ X.stack:=λenv he b hb=>List.mem_filterMap.mpr ⟨env,he,hb⟩;have st:=I.stack;have FF:=PySem.W.funFrames_hide st hin;have hkb:(PySem.W.hideAll s.heap (iJ X.stack)).StaysIn s.heap:=λb o q=>PySem.W.of_hideAll _ q;have FF2:s.heap.FunFrames (PySem.W.hideAll s.heap (iJ X.stack)) (X.env::X.outer):=by
  have z:=FF;rw[show X.stack=X.env::X.outer from hs] at z ⊢
  exact z
 refine wpAny_leaves_madeW (s:=⟨h',g,d,t,os⟩) hfr' hfr hkb FF2 hm λh2 t2 fl tup nt up=>?_;have up2:s.heap.UpToSlots h2:=(Heap.UpToSlots.of_keeps hm.keeps).trans up;have getB:∀b o,s.heap.get? b=some o->b∉iJ X.stack->(PySem.W.hideAll s.heap (iJ X.stack)).get? b=some o:=λb o e n=>PySem.W.hideAll_get _ e n;have F:Ai X.stack H H s.heap (PySem.W.hideAll s.heap (iJ X.stack)):=⟨λb hb=>by
  cases q:H b with
  | none=>exact absurd q hb
  | some u =>
   obtain⟨o,ho⟩:=(I.hok b u q).there;exact⟨o,getB b o ho (I.nofrs hb)⟩,λb o e _ nb=>getB b o e nb,λb o e nb=>⟨o,getB b o e nb⟩⟩
 refine⟨e,C,.ref t2,_,H,rfl,?_,?_,?_,?_,fl,I.flyB hx hs hfr F,hE⟩
 .show os=_;rw[hos];exact I.os
 .exact hg
 .exact I.flyUn hx hs hfr F (h:=s.heap) ⟨λ_ _ q _ _ _=>q,λ_ o q _ _ _=>⟨o.slots,q⟩,λ_ _ _ q _=>q,λ_ o q _=>⟨o,q⟩,λ_ _ q=>q,λ_ _ _ q=>q,λb ps q=>⟨#[],by rw[q];simp⟩⟩ fl.1 up2
 .exact jC I.hok λb u hb q=>fl.1 b u (getB b u q (I.nofrs hb))
theorem aJ.passed{E E':XK}{e:Value}{Q':Value->Shared->Prop}{M:Model}(I:aJ X pins σ H s)(hx:X.ex=[])(hs:X.stack=X.env::X.outer)(hfr:X.env.frame=some X.env.locals)
  (h:mw X.prog X.w X.stack H s E e s')(hE:∀c o H',E c o H'->E' c o H'):wpAny M X.A (leaving X.env e) (λ_ s''=>mw X.prog X.w X.outer X.H₀ X.s₀ E' e s'') Q' s':=by
 obtain⟨a,C,a0,B,H',rfl,os,gb,un,hok,fl,F,q⟩:=h;have hfr':X.A.frames=some (X.env::X.outer):=by rw[I.ok.frames,hs]
 rw[hs] at fl;refine wpAny_leaves_onW hfr' hfr fl λh2 fl2 up=>?_;refine⟨a,C,a0,B,H',rfl,os.trans I.os,gb,I.flyUn hx hs hfr F un fl2.1 up,jC hok λb u hb z=>?_,fl2,I.flyB hx hs hfr F,hE _ _ _ q⟩;obtain⟨o,ho⟩:=F.b1 b hb;have e1:=fl.1 b o ho;rw[z] at e1;cases e1;exact fl2.1 b _ ho
end
abbrev Gu:List Value:=[.type "ValueError",.type "Exception",.type "BaseException",.type "object"]
def uk(K:W.Frag)(C:Addr):Prop:=PySem.W.excIn K C Gu "ValueError.__new__" = true
theorem uk.obj{K:W.Frag}{h:Heap}{C:Addr}(KX:K.In h)(z:uk K C):∃tl N nm qn bs y1 sn sb ab cl dd j0 j1 j2 j3 j5 mN,
  h.get? C=some (excClassObj nm qn C N bs tl y1 sn sb ab cl dd j0 j1 j2 j3 j5 "ValueError.__new__")/\h.Ns N mN/\mN "__init__" = none/\OwnTail h Gu tl:=by
 unfold uk PySem.W.excIn at z;split at z
 case h_2=>cases z
 case h_1 ob dct cdt sls look =>
  split at z
  case h_2=>cases z
  case h_1 C2 tl j0 j1 j2 j3 nid j5 hmro hsls =>
   rw[Xk,Xk,Xk,Xk,Xk] at z;obtain⟨⟨⟨⟨⟨z1,z2⟩,z3⟩,z4⟩,z5⟩,z6⟩:=z;have c1:=beq_iff_eq.mp z1;have c2:=beq_iff_eq.mp z2;have c6:=beq_iff_eq.mp z6;subst c1 c2;have c3:cdt.hasDel=false:=by simpa using z3
   have c7:sls = #[j0,j1,j2,j3,some (.builtin "ValueError.__new__"),j5]:=by
    cases sls with
    | mk l=>exact Xb Array.mk hsls
   have G:=KX _ _ look;cases cdt with
   | mk nm bs mro ns qn hd sn sb ab cl del =>
    cases hmro;cases c3;rw[c7] at G;exact⟨tl,ns,nm,qn,bs,hd,sn,sb,ab,cl,dct,j0,j1,j2,j3,j5,_,G,.of_isNs (PySem.W.isNs_of_in KX z5),PySem.W.nsMap_none_of_in KX z5 c6,PySem.W.tail_of_in KX z4⟩
def w5(E:XK)(C:Addr)(t:TA):TS:=λ_ σ H=>t σ H λvs H1=>vs.length<=1000/\E (.ref C) none H1
section
variable {P:Program}{w:World}{K:W.Frag}{mg:Str->Option Value}{base:Heap}{N:List Str}{qual:Str}{scope:Scope}{f:Addr}{cd:Value}{A:Around}{outer:List Env}{s₀:Shared}{H₀:Hp}{E:XK}{C:Addr}
theorem BK{x:Str}{np cpos pos:Pos}{e:Expr}{es:List Expr}{t:TA}(z:uk K C)(hg:Gl (fT (mw P w) P w K mg base N qual scope f cd A outer s₀ H₀ E) x)(hm:mg x=some (.ref C))
  (ha:PA (fT (mw P w) P w K mg base N qual scope f cd A outer s₀ H₀ E) (e::es) t)(hdb:(x==("__debug__" : Str))=false:=by decide)
  (he:starEach (e::es) (envOfC qual scope s₀.heap.objs.size f cd)=(false,eval e (envOfC qual scope s₀.heap.objs.size f cd))::starEach es (envOfC qual scope s₀.heap.objs.size f cd):=by rfl)(hpl:(backTo cpos (starEach es (envOfC qual scope s₀.heap.objs.size f cd))).any (·.1)=false:=by rfl) :
  PS (fT (mw P w) P w K mg base N qual scope f cd A outer s₀ H₀ E) (.Raise (some (.Call (.Name x np) (e::es) [] cpos)) none pos) (w5 E C t):=by
 intro pins s σ H D I h;obtain⟨tl,N',nm,qn,bs,y1,sn,sb,ab,cl,dd,j0,j1,j2,j3,j5,mN,hC,hN,hni,T⟩:=z.obj I.ok.mod.kin;refine wpAny_Raise_call_subU (nm:=nm) (q:=qn) (C:=C) (N:=N') (bs:=bs) (bm:=tl) (hdct:=y1) (sn:=sn) (sub:=sb) (ab:=ab) (col:=cl) (dd:=dd) (k0:=j0) (k1:=j1) (k2:=j2) (k3:=j3) (k5:=j5)
  PySem.F.excBase_ValueError ∅ PySem.F.excBase_ValueError (mN:=mN) (T.hasType ∅) (I.ok.hd rfl) ?_ hni (jU I hg hm ⟨rfl,?_⟩ hdb)
 .show (backTo cpos (starEach (e::es) (envOfC qual scope s₀.heap.objs.size f cd))).any (·.1)=false;rw[he];show (false || (backTo cpos (starEach es (envOfC qual scope s₀.heap.objs.size f cd))).any (·.1))=false
  rw[hpl];rfl
 .have go:=ha cpos pins s σ H _ I h;show wpAny _ _ (evalArgs (.ref C) true (backTo cpos (starEach (e::es) (envOfC qual scope s₀.heap.objs.size f cd))) []) _ _ _;have go':wpAny (model P w) (A.deeper (envOfC qual scope s₀.heap.objs.size f cd)) (spliced (backTo cpos (starEach (e::es) (envOfC qual scope s₀.heap.objs.size f cd)))) _ _ s:=go;rw[he] at go' ⊢;refine Calls.evalArgs_plain (cD go' λus s1 ⟨vs,H1,I1,r,q⟩=>?_);obtain⟨hl,q⟩:=q;refine⟨rfl,?_,I1.bk _ _ hC,hN.keeps I1.bk,T.keeps I1.bk,λh' ea hm'=>?_⟩
  .show us.length<=sizeLine;rw[<-r.length];exact Yz hl ∅
  .exact I1.raised rfl rfl rfl hm' q rfl I1.bare
end
end L2
namespace L2
open PySem PySem.Spec PySem.Calls PyProof.Rows PySem.W PySem.Builtin PySem.Builtin.ObjectAttr PySem.Builtin.Getset_descriptor
section
variable {prog:Program}{w:World}{A:Around}{E:Value->Shared->Prop}{K:Frag}{x C:Addr}{ob:Obj}{hh:Heap}{g:Array GenState}{d:Drawn}{t:Nat}{os:OsState}
structure uB (K:Frag)(C:Addr):Prop where
 ga:findIn K (.ref C) "__getattribute__" = some (some (.builtin "BaseException.__getattribute__"))
 gt:findIn K (.ref C) "__getattr__" = some none
 cl:findIn K (.ref C) "__class__" = some (some (.builtin "object.__class__"))
 mo:mroIn K C (.type "object")=some true
 mb:mroIn K C (.type "BaseException")=some true
 ic:(clsIn K C).isSome=true
theorem GR{R:Result->Shared->Prop}{tp:Value}(Z:uB K C)(X:K.In hh)(hx:hh.get? x=some ob)(hc:ob.cls=.ref C)
  (h:R (.ok (.ret (.ref C))) ⟨hh,g,d,t,os⟩):codeAny (model prog w) A (.call (.builtin "getset_descriptor.__get__") ⟨[.builtin "object.__class__",.ref x,tp],[]⟩) R ⟨hh,g,d,t,os⟩:=by
 have L0:Looks (model prog w) hh (typeOf (.ref x)) (.ref C):=hc▸(Looks.ld hx).andThen .now;have L1:=looks_mroIn (M:=model prog w) X Z.mo;refine codeAny_call_builtin KF.slot_gs.plain KF.entry_gs (KF.slot_gs.check _ _ _ _ _ _ _ _ KF.type_class (KF.args_gs _ _ _) ?_);unfold Builtin.«getset_descriptor.__get__»;unfold descrGet;rw[dga_obj];refine wpAny_bind (wpAny_pure ?_);unfold descrGetter;unfold descrCheckInstance;unfold descrNameAndClass;unfold isInstance;simp only[KF.owner_class]
 repeat lk
 refine And.intro (Code.quiet_builtin _ (by decide +kernel)) (codeAny_builtin KF.entry_class ?_)
 unfold Builtin.«object.__class__»;unfold shownTypeOf
 repeat lk
 exact h
theorem Dm{tk:Tok}{Q:Fin->Shared->Prop}(Z:uB K C)(X:K.In hh)(hx:hh.get? x=some ob)(hc:ob.cls=.ref C)(hq:Q (.done (.ret (.ref C))) ⟨hh,g,d,t,os⟩) :
  wpAny (model prog w) A (Builtin.«object.__getattribute__» ⟨[.ref x,.str "__class__" tk],[]⟩) Q E ⟨hh,g,d,t,os⟩:=by
 have hT5:(⟨hh,g,d,t,os⟩ : Shared).TypeIs (.builtin "object.__class__") "getset_descriptor":=F.typeOf_object_class;have f5:=F.typeOf_object_class;have f6:=F.slot_gs_get.lookup;have f7:=F.slot_gs_set.lookup;have L0:Looks (model prog w) hh (typeOf (.ref x)) (.ref C):=hc▸(Looks.ld hx).andThen .now;have L2:=looks_findIn (M:=model prog w) X Z.cl
 repeat (any_goals (first|assumption|(with_reducible refine L0.at ?_)|(with_reducible refine L2.at ?_)|(with_reducible refine wpAny_loadPart_at hx ?_;rw[hc])|wp_step))
 refine GR Z X hx hc ?_
 repeat (any_goals (first|assumption|wp_step))
theorem Cb{M:Model}{nv:Value}{Q:Unit->Shared->Prop}(Z:uB K C)(X:K.In hh)(hx:hh.get? x=some ob)(hc:ob.cls=.ref C)(hq:Q PUnit.unit ⟨hh,g,d,t,os⟩) :
  wpAny M A (checkBuiltinCall "BaseException.__getattribute__" ⟨[.ref x,nv],[]⟩) Q E ⟨hh,g,d,t,os⟩:=by
 have b1:splitId "BaseException.__getattribute__" = some ("BaseException", "__getattribute__")/\builtinKind "BaseException.__getattribute__" = some .slot:=⟨by decide +kernel,by decide +kernel⟩
 have b3:=F.args_bexc_ga (.ref x) nv;have L0:Looks M hh (typeOf (.ref x)) (.ref C):=hc▸(Looks.ld hx).andThen .now;have L1:=looks_mroIn (M:=M) X Z.mb;have LI:Looks M hh (isInstance (.ref x) (.type "BaseException")) true:=L0.andThen L1;simp only[checkBuiltinCall,b1.1,b1.2];refine wpAny_bind (LI.at ?_)
 repeat (any_goals (first|assumption|wp_step))
theorem D4{tk:Tok}{R:Result->Shared->Prop}(Z:uB K C)(X:K.In hh)(hx:hh.get? x=some ob)(hc:ob.cls=.ref C)(h:R (.ok (.ret (.ref C))) ⟨hh,g,d,t,os⟩) :
  codeAny (model prog w) A (.call (.builtin "BaseException.__getattribute__") ⟨[.ref x,.str "__class__" tk],[]⟩) R ⟨hh,g,d,t,os⟩ :=
 codeAny_call_builtin F.attr_ValueError.ga.plain F.entry_bexc_ga (Cb Z X hx hc (Dm Z X hx hc h))
theorem Ku{tk:Tok}{Q:Value->Shared->Prop}(Z:uB K C)(X:K.In hh)(hx:hh.get? x=some ob)(hc:ob.cls=.ref C)(hq:Q (.ref C) ⟨hh,g,d,t,os⟩) :
  wpAny (model prog w) A (getAttrBy (.ref x) (.str "__class__" tk) false) Q E ⟨hh,g,d,t,os⟩:=by
 have b3:=F.attr_ValueError.ga.bind (.ref x);have y2:(Value.builtin "BaseException.__getattribute__" == Value.builtin "object.__getattribute__")=false:=by decide +kernel
 have y1:(onTheHeap (Value.ref C) && (Value.builtin "BaseException.__getattribute__" == Value.builtin "object.__getattribute__"))=false:=by rw[y2,Bool.and_false]
 have L0:Looks (model prog w) hh (typeOf (.ref x)) (.ref C):=hc▸(Looks.ld hx).andThen .now;have L1:=looks_findIn (M:=model prog w) X Z.ga;have L2:=looks_findIn (M:=model prog w) X Z.gt;unfold getAttrBy;refine wpAny_holding (wpAny_bind (L0.at (wpAny_bind (L1.at ?_))));show wpAny _ _ (if (onTheHeap (Value.ref C) && (Value.builtin "BaseException.__getattribute__" == Value.builtin "object.__getattribute__"))=true then _ else getAttrByItsOwn _ _ _ _ _ _) _ _ _
 rw[Yc (by rw[y1];simp)]
 unfold getAttrByItsOwn hookBefore;rw[Yh (show onTheHeap (Value.ref C)=true from rfl)]
 refine wpAny_bind (L2.at ?_);unfold callGetattribute boundAndCalled
 repeat (any_goals (first|assumption|wp_step))
 refine D4 Z X hx hc ?_
 repeat (any_goals (first|assumption|wp_step))
theorem Fi{Q:Option Value->Shared->Prop}(Z:uB K C)(X:K.In hh)(hx:hh.get? x=some ob)(hc:ob.cls=.ref C)(hq:Q (some (.ref C)) ⟨hh,g,d,t+1,os⟩) :
  wpAny (model prog w) A (getAttr? (.ref x) "__class__") Q E ⟨hh,g,d,t,os⟩:=by
 unfold getAttr?;unfold getAttrBy?;refine wpAny_bind (wpAny_mkText (wpAny_bind (wpAny_attempt (Ku Z X hx hc ?_))));exact wpAny_pure hq
def BF(x C:Addr)(h:Heap):Prop:=∃ob,h.get? x=some ob/\ob.cls=.ref C
theorem BD(Z:uB K C):KitX K (.ref x) (.ref C) (BF x C) where
 ty:=λ_ _ _ ⟨_,h1,h2⟩=>h2▸(Looks.ld h1).andThen .now
 it:=λM h X _=>by
  have z:=Z.ic;cases e:clsIn K C with
  | none=>rw[e] at z;cases z
  | some cd =>
   unfold clsIn at e;split at e
   .rename_i look
    intro A1 Q1 E1 s1 k1 q1;unfold isType;unfold loadHead;refine wpAny_bind (wpAny_loadPart (k1 _ _ (X _ _ look)) (wpAny_pure ?_));exact q1
   .cases e
 ne:=λh tp dd its n sl X htp=>by
  rw[Bool.eq_false_iff];intro q;have e1:C=tp:=by
   have:=beq_iff_eq.mp q;cases this;rfl
  subst e1;have z:=Z.ic;unfold clsIn at z;split at z
  .rename_i look
   have e2:=X _ _ look;rw[htp] at e2;cases e2
  .cases z
 ca:=λ{_ _ _ _ _ s} X ⟨_,h1,h2⟩ k=>by
  obtain⟨hp,g1,d1,t1,os1⟩:=s;exact Fi Z X h1 h2 k
end
end L2
namespace L2
open PySem PySem.Spec PyProof.Rows
def PX(X:Cx)(e:Expr)(t:St->Hp->XK->Prop):Prop :=
 ∀(pins:List (Addr×Obj))(s:Shared)(σ:St)(H:Hp)(E:XK),aJ X pins σ H s->t σ H E->wpAny (model X.prog X.w) X.A (eval e X.env) (λ_ _=>False) (λev s'=>∃s1 H1,aJ X pins σ H1 s1/\mw X.prog X.w X.stack H1 s1 E ev s') s
def JJ(x C:Addr):HO:=.ext (BF x C)
section
variable {X:Cx}{pins:List (Addr×Obj)}{σ:St}{H H':Hp}{s s':Shared}
theorem aJ.landed{B h:Heap}(I:aJ X pins σ H s)(F:Ai X.stack H H' s.heap B)(u:Un (iJ X.stack) [] H H' s.heap s'.heap)(hok:jY X.prog X.w H' s'.heap)(hs':B.StaysIn s'.heap)(hB:B.StaysIn h)(up:s'.heap.UpToSlots h)(hos:s'.os=s.os)(hg:AllBare s'.gens) :
  aJ X pins σ H' { s' with heap:=h }:=by
 obtain⟨h1,g1,d1,t1,os1⟩:=s';have e0:os1=s.os:=hos;subst e0;have n0:∀b:Addr,b∉([]:List Addr):=λb z=>absurd z (by simp)
 have slots:∀b,b∈iJ X.stack -> ∀o,s.heap.get? b=some o->H b=none -> ∃sl,h.get? b=some { o with slots:=sl }:=λb hb o e n=>by
  obtain⟨sl,e1⟩:=u.any e n (n0 b);obtain⟨_,o',e3,hd⟩:=I.stack.mem hb;rw[e] at e3;cases e3;obtain⟨sl2,e2⟩:=up b _ e1 hd;exact⟨sl2,e2⟩
 have nst:∀b,b≠X.env.locals->b∉X.fs->b∉iJ X.stack:=λb h1 h2 z=>(YY.mp (I.stkSub b z)).elim h1 h2;have hfin:jY X.prog X.w H' h:=jC hok λb v hb z=>by
  obtain⟨o,ho⟩:=F.b1 b hb;have e1:=hs' b o ho;have e2:h1.get? b=some v:=z;rw[e2] at e1;cases e1;exact hB b _ ho
 have key:=I.step (h':=h) (g':=g1) (d':=d1) (t':=t1) (ch:=[]) (λ_ z=>nomatch z) (λb o hL hf _ e n=>hB b o (F.b2 b o e n (nst b hL hf)))
  (λb o hL hf _ e n=>?_) (λb o _ e n=>u.free b o e n (n0 b)) (λb o _ e=>?_) u.tups u.frzs u.tbls (λm hm=>?_) hfin hg
 .exact key
 .by_cases hb:b∈iJ X.stack
  .exact slots b hb o e n
  .exact⟨o.slots,hB b o (F.b2 b o e n hb)⟩
 .by_cases hb:b∈iJ X.stack
  .obtain⟨sl,q⟩:=slots b hb o e (I.stkFree b hb);exact⟨_,q⟩
  .obtain⟨o',q⟩:=F.b3 b o e hb;exact⟨o',hB b o' q⟩
 .obtain⟨o,es,ep,ho,hd,r⟩:=hm;by_cases hb:X.env.locals∈iJ X.stack
  .obtain⟨sl,q⟩:=slots _ hb o ho I.free;exact⟨_,es,ep,q,hd,r⟩
  .exact⟨o,es,ep,hB _ o (F.b2 _ o ho I.free hb),hd,r⟩
theorem aJ.track{a:Addr}{o:HO}(I:aJ X pins σ H s)(ha:H a=none)(h0:X.s₀.heap.get? a=none)(hL:a≠X.env.locals)(hc:∀x c,X.env.cells.lookup x=some c->c≠a)(hp:∀p∈X.pn++pins,p.1≠a)
  (new:cA X.prog X.w (upd H a o) s.heap a o):aJ X pins σ (upd H a o) s:=by
 have ne:∀b u,H b=some u->b≠a:=λb u e z=>by rw[z,ha] at e;cases e
 refine⟨I.ok,I.os,I.bare,⟨I.base.keep,I.base.slot,λb ob e n hx=>?_,I.base.there,λb xs e=>?_,λb ob v e=>?_,λb ps e=>?_⟩,I.loc,I.cell,?_,λx c e=>?_,λp hp'=>?_,λb u e=>?_,I.len⟩
 .have:b≠a:=λz=>by rw[z,h0] at e;cases e
  rw[aT this];exact I.base.free b ob e n hx
 .have q:=I.base.tups b xs e;rw[aT (ne b _ q)];exact q
 .have q:=I.base.frzs b ob v e;rw[aT (ne b _ q)];exact q
 .obtain⟨m,q⟩:=I.base.tbls b ps e;exact⟨m,by rw[aT (ne b _ q)];exact q⟩
 .rw[aT (XI hL)];exact I.free
 .rw[aT (hc x c e)];exact I.freeC x c e
 .obtain⟨q1,q2,q3⟩:=I.pin p hp';exact⟨q1,by rw[aT (hp p hp')];exact q2,q3⟩
 .by_cases hb:b=a
  .subst hb;rw[bj] at e;cases e;exact new
  .rw[aT hb] at e;exact (I.hok b u e).stay (λ_ _ _ q=>q) (λc q=>by rw[aT (ne c _ q)];exact q) λc xs q=>by rw[aT (ne c _ q)];exact q
abbrev Cx.marked (X:Cx)(v:Value):Cx:={ X with A:=X.A.mark (some v),calm:=false,xe:=λ_ _=>False }
theorem aJ.mark(I:aJ X pins σ H s)(v:Value):aJ (X.marked v) pins σ H s :=
 ⟨⟨I.ok.mod,I.ok.kind,I.ok.glob,I.ok.blt,I.ok.above,I.ok.inj,I.ok.has,I.ok.cab,(λz=>nomatch z),I.ok.frames,I.ok.stk,I.ok.exf,I.ok.bs,I.ok.bsz,I.ok.noex,I.ok.exfs,I.ok.funs,I.ok.frf⟩,I.os,I.bare,I.base,I.loc,I.cell,I.free,I.freeC,I.pin,I.hok,I.len⟩
theorem aJ.unmark{v:Value}(I:aJ (X.marked v) pins σ H s)(ok:X.Ok):aJ X pins σ H s:=⟨ok,I.os,I.bare,I.base,I.loc,I.cell,I.free,I.freeC,I.pin,I.hok,I.len⟩
theorem aJ.unset{i:Nat}{n:Str}{h:Heap}{v:Option Value}{m:Str->Option Value}{t:Tok}(I:aJ X pins σ H s)(hN:X.N.Nodup)(hi:X.N[i]? = some n)
  (hm:s.heap.Ns X.env.locals m)(hl:∀(j:Nat)(x:Str)(w:V),X.N[j]? = some x->σ[j]? = some (some w)->GL X.env.scope x -> ∃u,bH w u/\J6 X.env s.heap m x u)
  (hn:h.Ns X.env.locals (λx=>if x=n then v else m x))(hs:Heap.SameBut X.env.locals s.heap h):aJ X pins (σ.set i none) H { s with heap:=h,toks:=t }:=by
 have sm:∀b o,b≠X.env.locals->s.heap.get? b=some o->h.get? b=some o:=λb o hb e=>(hs.2 b hb).trans e;have cellK:∀x c,X.env.cells.lookup x=some c -> ∀w,s.heap.IsCell c w->h.IsCell c w:=λx c e w ⟨o,ho,hd⟩=>⟨o,sm c o (I.cne x c e) ho,hd⟩;refine⟨I.ok,I.os,I.bare,⟨λb o e n' hb hx=>?_,λb o e n' hb hx=>?_,I.base.free,λb o e hx=>?_,I.base.tups,I.base.frzs,I.base.tbls⟩,⟨_,hn,λj x w e1 e2 e3=>?_⟩,λx c e=>?_,I.free,I.freeC,λp hp=>?_,λb u e=>?_,by rw[List.length_set];exact I.len⟩
 .have neL:b≠X.env.locals:=YR (Ym (Heap.lt_size e) I.ok.above);exact sm b o neL (I.base.keep b o e n' hb hx)
 .have neL:b≠X.env.locals:=YR (Ym (Heap.lt_size e) I.ok.above);obtain⟨sl,q⟩:=I.base.slot b o e n' hb hx;exact⟨sl,sm b _ neL q⟩
 .have neL:b≠X.env.locals:=YR (Ym (Heap.lt_size e) I.ok.above);obtain⟨o',q⟩:=I.base.there b o e hx;exact⟨o',sm b _ neL q⟩
 .have hij:j≠i:=λz=>by
   subst z;rw[List.getElem?_set_self (by rw[I.len];exact (List.getElem?_eq_some_iff.mp hi).1)] at e2
   cases e2
  rw[List.getElem?_set_ne (XI hij)] at e2;have hxn:x≠n:=λz=>by
   subst z;exact hij ((List.getElem?_inj (List.getElem?_eq_some_iff.mp e1).1 hN).mp (e1.trans hi.symm))
  obtain⟨u,r,l⟩:=hl j x w e1 e2 e3;refine⟨u,r,?_⟩;rcases l with ⟨k,q⟩|⟨k,c,q,z⟩
  .exact .inl ⟨k,(Yc hxn).trans q⟩
  .exact .inr ⟨k,c,q,cellK x c q _ z⟩
 .obtain⟨w,z⟩:=I.cell x c e;exact⟨w,cellK x c e w z⟩
 .obtain⟨q1,q2,q3,q4,q5⟩:=I.pin p hp;exact⟨sm _ _ q3 q1,q2,q3,q4,q5⟩
 .refine (I.hok b u e).stay (λc w hc q=>sm c w (λz=>?_) q) (λ_ q=>q) λ_ _ q=>q;subst z;rcases hc with z|z
  .rw[<-z,I.free] at e;cases e
  .rw[I.free] at z;cases z
end
def Ip(K:W.Frag)(C0:Addr)(i:Nat)(tb:St->Hp->XK->Prop)(ts:TS):TS:=λD σ H =>
 tb σ H λc _ H1=>∃C,c=.ref C/\PySem.W.exmOne K (.ref C) (.ref C0)=some true /\ ∀a H2,vw K H1 a=none->az (vw K H1) (vw K H2)->vw K H2 a=some (JJ a C)->ts { nx:=λσ2 H2=>D.nx (σ2.set i none) H2,rt:=λ_ _=>False } (σ.set i (some (.ref a))) H2
section
variable {X:Cx}
theorem Jh{e:Expr}{cls n:Str}{b0:Stmt}{suite:List Stmt}{p1 np hp pos:Pos}{C0:Addr}{i:Nat}{tb:St->Hp->XK->Prop}{ts:TS}(hx0:X.ex=[])(hs:X.stack=X.env::X.outer)(hfr:X.env.frame=some X.env.locals)
  (hb:PX X e tb)(hN:X.N.Nodup)(hi:X.N[i]? = some n)(hloc:X.env.scope.names.lookup n=some .local)(hg:Gl X cls)(hm:X.mg cls=some (.ref C0))(hsu:∀v,sC (X.marked v) (b0::suite) ts)
  (hdb:(cls==("__debug__" : Str))=false:=by decide) (hsw:swapsWith e none p1.line X.env=pure false:=by rfl) :
  PS X (.Try [.Expr e p1] [.ExceptHandler (some (.Name cls np)) (some n) (b0::suite) hp] [] [] pos) (Ip X.K C0 i tb ts):=by
 intro pins s σ H D I h;obtain⟨E1,hE1⟩ : ∃E1:XK,E1=λc _ H1=>∃C,c=.ref C/\PySem.W.exmOne X.K (.ref C) (.ref C0)=some true /\ ∀a H2,vw X.K H1 a=none->az (vw X.K H1) (vw X.K H2)->vw X.K H2 a=some (JJ a C)->ts { nx:=λσ2 H2=>D.nx (σ2.set i none) H2,rt:=λ_ _=>False } (σ.set i (some (.ref a))) H2:=⟨_,rfl⟩;have h':tb σ H E1:=by rw[hE1];exact h
 refine wpAny_Try_except (wpAny_mono (Q:=λ_ _=>False) (E:=λev s'=>∃s1 H1,aJ X pins σ H1 s1/\mw X.prog X.w X.stack H1 s1 E1 ev s') ?_ (λ_ _ z=>z.elim) λev s' hx=>?_)
 .refine wpAny_execs_cons (wpAny_Expr_any (cD (hb pins s σ H E1 I h') λ_ _ z=>z.elim) I.quiet hsw)
 .obtain⟨s1,H1,I1,a,C,a0,B,H',rfl,os,gb,un,hok,fl,F,q⟩:=hx;rw[hE1] at q;obtain⟨C',ec,hex,q⟩:=q;cases ec;have hfr':X.A.frames=some (X.env::X.outer):=by rw[I1.ok.frames,hs]
  have fl0:=fl;rw[hs] at fl;have nB:B.get? a=none:=fl0.2.1;obtain⟨oa,va,ga,ca,da,_⟩:=fl0.first
  have n1:s1.heap.get? a=none:=by
   cases z:s1.heap.get? a with
   | none=>rfl
   | some o =>
    by_cases hf:a∈iJ X.stack
    .obtain⟨_,o',e3,hd⟩:=fl0.2.2.1.mem hf;rw[ga] at e3;cases e3;exact absurd da (hd _)
    .obtain⟨o',q'⟩:=F.b3 a o z hf;rw[nB] at q';cases q'
  have n0:X.s₀.heap.get? a=none:=by
   cases z:X.s₀.heap.get? a with
   | none=>rfl
   | some o =>
    obtain⟨o',q'⟩:=I1.base.there a o z (by rw[hx0];simp)
    rw[n1] at q';cases q'
  have nH:H' a=none:=by
   cases z:H' a with
   | none=>rfl
   | some u =>
    obtain⟨o',q'⟩:=F.b1 a (by rw[z];simp)
    rw[nB] at q';cases q'
  have nL:a≠X.env.locals:=λz=>by
   obtain⟨m,⟨o,_,_,ho,_⟩,_⟩:=I1.loc;rw[<-z,n1] at ho;cases ho
  have nC:∀x c,X.env.cells.lookup x=some c->c≠a:=λx c e' z=>by
   obtain⟨v,o,ho,_⟩:=I1.cell x c e';rw[z,n1] at ho;cases ho
  have nP:∀p∈X.pn++pins,p.1≠a:=λp hp' z=>by
   have ho:=(I1.pin p hp').1;rw[z,n1] at ho;cases ho
  refine wpAny_looks_onW hfr' hfr fl λh4 held4 up4=>?_;refine wpAny_landsW held4 λh5 fl5 up5=>?_;have up45:=up4.trans up5;have I5:=I1.landed F un hok fl0.1 fl5.1 up45 os gb;refine wpAny_handleBy_cons (codeAny_handlers_test ?_) (by intro z;cases z)
  refine jU (X:=X.marked (.ref a)) (I5.mark (.ref a)) hg hm ?_ hdb;obtain⟨o5,g5,c5⟩:=fl5.there;have LT:PySem.W.Looks (model X.prog X.w) h5 (typeOf (.ref a)) (.ref C):=c5▸(PySem.W.Looks.ld g5).andThen .now;refine (PySem.W.exm_one I5.kIn LT hex).here ?_;refine codeAny_handlers_suite_as ?_;refine lands_againW fl5 λh6 fl6 up6=>?_;have I6:=I1.landed F un hok fl0.1 fl6.1 (up45.trans up6) os gb;obtain⟨o6,g6,c6⟩:=fl6.there;have I7:=I6.track (a:=a) (o:=JJ a C) nH n0 nL nC nP ⟨⟨o6,g6,c6⟩,⟨o6,g6⟩,λha hb ⟨o,e1,e2⟩ k=>⟨o,k o e1,e2⟩⟩;have hKa:X.K.lookup a=none:=by
   cases z:X.K.lookup a with
   | none=>rfl
   | some ob =>
    have e1:=I1.bk a ob (I1.ok.mod.kin a ob z);rw[n1] at e1;cases e1
  have hv1:vw X.K H' a=none:=(cX hKa).trans nH;have hv2:vw X.K (upd H' a (JJ a C)) a=some (JJ a C):=(cX hKa).trans bj;refine iC I7 hN hi (.inl hloc) (v:=.ref a) rfl (λs8 I8=>?_) (.inr hloc);refine wpAny_mono ((hsu (.ref a)) pins s8 _ _ _ (I8.mark (.ref a)) (q a _ hv1 (lJ (az.upd nH)) hv2)) (λf s9 z=>?_) λ_ _ z=>z.elim;cases f with
  | next =>
   obtain⟨σ9,H9,I9,q9⟩:=z;have I9':=I9.unmark I.ok;obtain⟨m,hn,hl⟩:=id I9'.loc;refine wpAny_nameGoes_keeps hloc hn (by rw[I.ok.kind];rfl) λh10 v10 hn10 hs10=>?_
   exact⟨_,H9,I9'.unset hN hi hn hl hn10 hs10,q9⟩
  | brk=>obtain⟨_,_,_,z⟩:=z;exact z.elim
  | cont=>obtain⟨_,_,_,z⟩:=z;exact z.elim
  | ret u=>obtain⟨_,_,_,_,_,z⟩:=z;exact z.elim
end
theorem mw.imp{P:Program}{w:World}{outer:List Env}{H:Hp}{s s':Shared}{E E':XK}{e:Value}(h:mw P w outer H s E e s')(k:∀c o H',E c o H'->E' c o H'):mw P w outer H s E' e s':=by
 obtain⟨a,C,a0,B,H',h1,h2,h3,h4,h5,h6,h7,h8⟩:=h;exact⟨a,C,a0,B,H',h1,h2,h3,h4,h5,h6,h7,k _ _ _ h8⟩
structure Ko (P:Program)(w:World)(K:W.Frag)(mg:Str->Option Value)(base:Heap)(k:Nat)(p C:Addr)(s:Shared)(H:Hp)(outer:List Env):Prop where
 fn:∃oc od fd sl,s.heap.get? p=some ⟨oc,od,.func fd,sl⟩
 free:H p=none
 nof:p∉iJ outer
 run:∀(A':Around)(outer':List Env)(s':Shared),cN k A'->qE P w K mg base A' outer' s' H->(∀b o,s.heap.get? b=some o->H b=none->b∉iJ outer->s'.heap.get? b=some o) ->
  codeAny (model P w) A' (.call (.ref p) ⟨[],[]⟩) (CR (mw P w) outer' P w H s' (λ_ _=>False) (λc o H'=>c=.ref C/\o=none/\az (vw K H) (vw K H'))) s'
theorem IH{X:Cx}{k i:Nat}{x:Str}{p C:Addr}{p1 p2:Pos}(hx0:X.ex=[])(L:Ko X.prog X.w X.K X.mg X.base k p C X.s₀ X.H₀ X.outer)(hr:cN k X.A)(hi:X.N[i]? = some x)(hv:GL X.env.scope x)
  (hd:(x==("__debug__" : Str))=false:=by decide) (hcd:(x==("__classdict__" : Str))=false:=by decide) :
  PX X (.Call (.Name x p1) [] [] p2) (λσ H E=>H=X.H₀/\σ[i]? = some (some (.ref p)) /\ ∀H',az (vw X.K X.H₀) (vw X.K H')->E (.ref C) none H'):=by
 intro pins s σ H E I h;obtain⟨rfl,hσ,hE⟩:=h;have nx:∀b,b∉X.ex:=λb z=>by rw[hx0] at z;exact absurd z (by simp)
 refine wpAny_Call_Name_kw ?_;refine cD (Bj (X:=X.wish λev s'=>∃s1 H1,aJ X pins σ H1 s1/\mw X.prog X.w X.stack H1 s1 E ev s') hi hv hd hcd pins s σ X.H₀ (λv H1=>v=.ref p/\H1=X.H₀) (I.wish _) ⟨.ref p,hσ,rfl,rfl⟩) (λu s1 z=>?_);obtain⟨v,H1,I1,r,rfl,rfl⟩:=z;have I1:=I1.unwish;cases r;have keep:∀b o,X.s₀.heap.get? b=some o->X.H₀ b=none->b∉iJ X.outer->s1.heap.get? b=some o:=λb o e n nf=>I1.base.keep b o e n nf (nx b);obtain⟨oc,od,fd,sl,hfn⟩:=L.fn;refine PySem.W.callWith_F0 ⟨oc,od,fd,sl,keep _ _ hfn L.free L.nof⟩ ?_;refine wpAny_call (codeAny_mono (L.run X.A X.stack s1 hr I1.env0 keep) λr s' hq=>?_);cases r with
 | error e =>
  have hq':mw X.prog X.w X.stack X.H₀ s1 (λc o H'=>c=.ref C/\o=none/\az (vw X.K X.H₀) (vw X.K H')) e s':=hq;exact⟨s1,X.H₀,I1,hq'.imp λc o H' ⟨q1,q2,q3⟩=>by subst q1 q2;exact hE H' q3⟩
 | ok fl =>
  cases fl with
  | ret u=>obtain⟨_,_,_,_,_,_,_,z⟩:=hq;exact z.elim
  | next=>exact False.elim hq
  | brk=>exact False.elim hq
  | cont=>exact False.elim hq
theorem JD{CX:wK}{P:Program}{w:World}{K:W.Frag}{mg:Str->Option Value}{base:Heap}{k:Nat}{f:Addr}{name qual:Str}{params:Arguments}{body:List Stmt}{scope:Scope}{dV kV doc pm cdv ct oc:Value}{an od:Option Addr}
  {osl:Array (Option Value)}{N ps:List Str}{A:Around}{outer:List Env}{s:Shared}{H:Hp}{args:Args}{us:List Value}{vs:List V}{Q:VK}{E:XK}
  (lk:K.lookup f=some ⟨oc,od,.func (PySem.W.fnOf name qual params body scope dV kV doc pm an cdv ct),osl⟩)(hcd:PySem.W.codeIn K cdv qual=true)(S:aA N ps scope)
  (hr:cN (k+1) A)(e0:qE P w K mg base A outer s H)(hb:BindsTo s (PySem.W.fnOf name qual params body scope dV kV doc pm an cdv ct) args (ps.zip us))(r:aY vs us)(hl:vs.length=ps.length)
  (hbody:cN k (A.deeper (envOfC qual scope s.heap.objs.size f cdv)) -> ∃t,sC (fT CX P w K mg base N qual scope f cdv A outer s H E) body t/\t { nx:=λ_ H'=>Q .non H',rt:=Q } (start N vs) H) :
  codeAny (model P w) A (.call (.ref f) args) (CR CX outer P w H s Q E) s:=by
 have KX:K.In s.heap:=e0.mod.kin.keeps λb o e=>(e0.bs b o e).1;have lim:s.heap.NoLimit:=e0.mod.nolimit.keeps λb o e=>(e0.bs b o e).1;have hkind:∀y∈ps.zip us,scope.names.lookup y.1=some .local\/(scope.names.lookup y.1=some .cell/\((cellsFrom (s.heap.objs.size+1) scope.names []).lookup y.1).isSome=true):=λ⟨n,v⟩ hy=>by
  rcases S.par n (List.of_mem_zip hy).1 with q|q
  .exact .inl q
  .exact .inr ⟨q,PySem.W.cellsFrom_some _ _ _ (.inl q)⟩
 refine codeAny_call_function hr.depth (KX _ _ lk) rfl S.co S.gen rfl (PySem.W.codeRec_of KX hcd) (hb _ _ _ _ ?_);refine wpAny_newFunctionEnv_cells S.kind hkind λenv he s1 x=>?_;subst he;refine⟨lim.keeps x.toInCall.keep,codeAny_func ?_⟩;obtain⟨t,ht,hq⟩:=hbody (hr.deeper _);have I:aJ (fT CX P w K mg base N qual scope f cdv A outer s H E) [] (start N vs) H s1:=qZ S hr.hd e0 hl r x;refine wpAny_mono (ht [] s1 (start N vs) H _ I hq) (λfl s' hs=>?_) λe s' hs=>hs;have fin:∀{σ':St}{H':Hp}{v:V}{u:Value},aJ (fT CX P w K mg base N qual scope f cdv A outer s H E) [] σ' H' s'->bH v u->Q v H'->CE outer P w H s Q u s' :=
  λ{σ' H' v u} J rv q=>⟨v,H',J.os,J.bare,J.base,J.hok,rv,q⟩
 cases fl with
 | ret u =>
  obtain⟨v,σ',H',J,rv,q⟩:=hs;exact fin J rv q
 | next =>
  obtain⟨σ',H',J,q⟩:=hs;exact fin (v:=V.non) (u:=Value.none) J rfl q
 | brk =>
  obtain⟨_,_,_,q⟩:=hs;exact False.elim q
 | cont =>
  obtain⟨_,_,_,q⟩:=hs;exact False.elim q
def uF(c:Addr)(qual:Str):HO:=.ext (λh=>h.CodeRec (.ref c) qual)
def cY(H:Hp)(P:Addr)(qual:Str):Prop:=∃ps,H P=some (.tbl ps)/\TriplesOk ps.toList /\ ∀pos cv,codeAmong pos ps.toList=some cv -> ∃c,cv=.ref c/\H c=some (uF c qual)
theorem qH{pos:Pos}{a b:Int}{c cv:Value}(l:List Value)(h:TriplesOk l)(z:codeAmong pos (l++[rawInt a,rawInt b,c])=some cv):codeAmong pos l=some cv\/cv=c:=by
 fun_induction TriplesOk l with
 | case1 =>
  simp only[Xw,codeAmong,rawInt] at z;split at z
  .exact .inr (YO z).symm
  .cases z
 | case2 a' t b' u x rest ih =>
  simp only[XC,codeAmong] at z ⊢;by_cases hh:(a'==(pos.line:Int) && b'==(pos.col:Int))=true
  .rw[Yh hh] at z ⊢;exact .inl z
  .rw[Yc hh] at z ⊢;exact ih h z
 | case3 l h1 h2=>exact h.elim
theorem aJ.tabbed{X:Cx}{pins:List (Addr×Obj)}{σ:St}{H:Hp}{s:Shared}{P c':Addr}{qual:Str}{ps more:Array Value}{h2:Heap}{t':Nat}(I:aJ X pins σ H s)(hP:H P=some (.tbl ps))(hx:Heap.ExtBut P s.heap h2)(hc:s.heap.objs.size<=c')
  (hr:h2.CodeRec (.ref c') qual)(hP2:h2.get? P=some { cls:=.none,data:=.fields (ps++more) }):aJ X pins σ (upd (upd H P (.tbl (ps++more))) c' (uF c' qual)) { s with heap:=h2,toks:=t' }:=by
 have nc:H c'=none:=I.hok.fresh hc;have cP:c'≠P:=λz=>by rw[z,hP] at nc;cases nc
 have nP:∀b,H b=none->b≠P:=λb n z=>by rw[z,hP] at n;cases n
 have old:∀b o,s.heap.get? b=some o->b≠c':=λb o e z=>by rw[z] at e;exact absurd (Ym (Heap.lt_size e) hc) (Xr _)
 have Kn:∀b u,H b=some u->(∀q,u ≠ .tbl q)->upd (upd H P (.tbl (ps++more))) c' (uF c' qual) b=some u:=λb u e nt=>by
  rw[aT (aj e nc),aT (λz=>by rw[z,hP] at e;cases e;exact nt _ rfl)]
  exact e
 refine I.step (h':=h2) (g':=s.gens) (d':=s.drawn) (t':=t') (ch:=[]) (λ_ z=>nomatch z) (λb o _ _ _ e n=>hx b o (nP b n) e) (λb o _ _ _ e n=>⟨o.slots,hx b o (nP b n) e⟩) (λb o _ e n=>?_) (λb o _ e=>?_)
  (λb xs e=>Kn b _ e (λ_ z=>by cases z)) (λb o u e=>Kn b _ e (λ_ z=>by cases z)) (λb qs e=>?_) (λm hm=>?_) (λb u e=>?_) I.bare
 .rw[aT (old b o e),aT (nP b n)];exact n
 .by_cases hb:b=P
  .exact⟨_,by rw[hb];exact hP2⟩
  .exact⟨o,hx b o hb e⟩
 .by_cases hb:b=P
  .subst hb;rw[hP] at e;cases e;exact⟨more,by rw[aT (XI cP),bj]⟩
  .exact⟨#[],by rw[aT (aj e nc),aT hb,e];simp⟩
 .obtain⟨o,es,ep,ho,r⟩:=hm;exact⟨o,es,ep,hx _ o (nP _ I.free) ho,r⟩
 .by_cases hb:b=c'
  .subst hb;rw[bj] at e;cases e;obtain⟨c2,oc,vs,t,e1,e2,e3⟩:=id hr;cases e1;exact⟨hr,⟨_,e2⟩,λha hb ⟨c3,o3,v3,t3,q1,q2,q3⟩ k=>by cases q1;exact⟨_,o3,v3,t3,rfl,k o3 q2,q3⟩⟩
  .rw[aT hb] at e;by_cases hp:b=P
   .subst hp;rw[bj] at e;cases e;exact hP2
   .rw[aT hp] at e;refine (I.hok b u e).stay (λc v hc' q=>hx c v (λz=>?_) q) (λc q=>Kn c _ q λ_ z=>by cases z) λc xs q=>Kn c _ q λ_ z=>by cases z
    rcases hc' with z2|z2
    .exact hp (z2.symm.trans z)
    .rw[z,hP] at z2;cases z2
theorem uz{env:Env}:∀(l:List (Str×NameKind))(acc:List (Str×Addr)),(∀q∈l,q.2=.free -> ∃c,env.cells.lookup q.1=some c)->(∀x∈acc,env.cells.lookup x.1=some x.2) ->
  ∃r,(forIn l acc (λ(x:Str×NameKind)(cs:List (Str×Addr))=>(if (x.2==NameKind.free)=true then do let c <-cellOf env x.1;pure (ForInStep.yield ((x.1,c)::cs)) else pure (ForInStep.yield cs):Sem (ForInStep (List (Str×Addr))))):Sem (List (Str×Addr)))=pure r /\
   (∀x∈r,env.cells.lookup x.1=some x.2)/\(∀q∈l,q.2=.free -> ∃c,(q.1,c)∈r) /\ ∀x∈acc,x∈r
 | [],acc,_,ha=>⟨acc,rfl,ha,by simp,λ_ z=>z⟩
 | q::l,acc,h,ha=>by
  obtain⟨n,kd⟩:=q;rw[List.forIn_cons];by_cases hk:kd=.free
  .subst hk;obtain⟨c,hc⟩:=h (n,.free) (by simp) rfl
   obtain⟨r,e1,e2,e3,e4⟩:=uz (env:=env) l ((n,c)::acc) (λq hq=>h q (by simp[hq])) (λx hx=>by
    rcases YY.mp hx with z|z
    .rw[z];exact hc
    .exact ha x z)
   refine⟨r,?_,e2,λq hq hf=>?_,λx hx=>e4 x (by simp[hx])⟩
   .simp only[cellOf,hc,pure_bind,beq_self_eq_true,if_true];exact e1
   .rcases YY.mp hq with z|z
    .rw[z];exact⟨c,e4 _ (by simp)⟩
    .exact e3 q z hf
  .obtain⟨r,e1,e2,e3,e4⟩:=uz (env:=env) l acc (λq hq=>h q (by simp[hq])) ha
   refine⟨r,?_,e2,λq hq hf=>?_,e4⟩
   .have:(kd==NameKind.free)=false:=by simpa using hk
    simp only[this,Bool.false_eq_true,if_false,pure_bind];exact e1
   .rcases YY.mp hq with z|z
    .rw[z] at hf;exact absurd hf hk
    .exact e3 q z hf
theorem FS{env:Env}{scope:Scope}(h:∀q∈scope.names,q.2=.free -> ∃c,env.cells.lookup q.1=some c):∃r,closureFor scope env=pure r/\(∀x∈r,env.cells.lookup x.1=some x.2)/\(∀q∈scope.names,q.2=.free -> ∃c,(q.1,c)∈r):=by
 obtain⟨r,e1,e2,e3,_⟩:=uz (env:=env) scope.names [] h (by simp)
 refine⟨r,?_,e2,e3⟩;unfold closureFor;have e1':=e1
 first
  | (rw[<-e1];simp;done)
  | (simp only[bind_pure];rw[<-e1];rfl)
  | (show (forIn scope.names [] _ >>= pure)=_;rw[bind_pure];rw[<-e1];rfl)
structure yf (X:Cx)(c P:Addr):Prop where
 code:X.env.code=.ref c
 hd:PySem.W.CodeHd X.base c P
 bi:∃bm o,X.mg "__builtins__" = some (.ref bm)/\bm≠builtinsNs/\bm≠mainGlobals/\X.base.get? bm=some o/\o.cls=.type "module" /\ o.dict=some builtinsNs/\o.data=.plain
abbrev kA (X:Cx):Str:=X.env.qual ++ "<lambda>"
theorem C3{X:Cx}{pins:List (Addr×Obj)}{σ:St}{H:Hp}{s:Shared}{params:Arguments}{body:Expr}{scope:Scope}{pos:Pos}{c P:Addr}{M':Model}{A':Around}{Q:Value->Shared->Prop}{E:Value->Shared->Prop}
  (M:yf X c P)(hdef:defaultsOf params X.env=([],[]))(I:aJ X pins σ H s)(hT:cY H P (kA X))(hfree:∀q∈scope.names,q.2=.free->X.env.kindOf q.1=some .cell)
  (k:∀(p c':Addr)(pm ctv:Value)(clos:List (Str×Addr))(H1:Hp)(s1:Shared),(∀x∈clos,X.env.cells.lookup x.1=some x.2)->(∀q∈scope.names,q.2=.free -> ∃c,(q.1,c)∈clos)->aJ X pins σ H1 s1->eN P H H1->cY H1 P (kA X) ->
   s1.heap.get? p=some (PySem.W.kla_obj "<lambda>" (kA X) params body scope clos pm c' ctv)->H1 p=none->s.heap.objs.size<=p->H1 c'=some (uF c' (kA X))->Q (.ref p) s1) :
  wpAny M' A' (eval (.Lambda params body scope pos) X.env) Q E s:=by
 obtain⟨clos,hcl,hc1,hc2⟩:=FS (env:=X.env) (scope:=scope) λq hq hf=>I.ok.has q.1 (.inl (hfree q hq hf));refine PySem.W.kla_eval hdef ?_;obtain⟨ps,hP,ht,hall⟩:=hT;have oP:s.heap.get? P=some (PySem.W.tabObj ps):=I.hok P _ hP;obtain⟨bm,o,b1,b2,b3,b4,b5,b6,b7⟩:=M.bi;have bP:bm≠P:=λz=>by
  have:=(I.bs bm o b4).2;rw[z,hP] at this;cases this
 have gP:mainGlobals≠P:=λz=>by
  obtain⟨og,_,_,eg,_⟩:=I.mod.glob;have:=(I.bs _ og eg).2;rw[z,hP] at this;cases this
 have hb:s.heap.BuiltinsAt X.mg P:=⟨bm,o,b1,b2,b3,bP,I.bk _ _ b4,b5,b6,b7⟩;cases hh:codeAmong pos ps.toList with
 | none =>
  refine PySem.W.kla_makeFunction hcl I.ok.glob (I.mod.glob.keeps I.bk) M.code (M.hd.keeps I.bk) oP ht hh gP hb λc' ctv h' tk hx hge hlt hrec htb=>?_;have I1:=I.tabbed (t':=tk) hP hx hge hrec htb;have I2:=I1.kept (t':=tk) (h':=h'.push (PySem.W.kla_obj "<lambda>" (kA X) params body scope clos ((X.mg "__name__").getD .none) c' ctv)) λb o e=>Heap.get?_push_of_some _ e;have nc:H c'=none:=I.hok.fresh hge;have cP:c'≠P:=λz=>by rw[z,hP] at nc;cases nc
  have hle:s.heap.objs.size<=h'.objs.size:=Yz hge (XF hlt);refine k _ c' _ ctv clos _ _ hc1 hc2 I2 (λb o hb e=>?_) ⟨_,by rw[aT (XI cP),bj],?_,λpos' cv z=>?_⟩ (Heap.get?_push_size _ rfl) (I1.hok.fresh (Yi _)) hle bj
  .rw[aT (aj e nc),aT hb];exact e
  .rw[Array.toList_append];exact TriplesOk_snoc _ _ _ _ ht
  .rw[Array.toList_append] at z;rcases qH _ ht z with q|q
   .obtain⟨c2,e2,e3⟩:=hall pos' cv q;refine⟨c2,e2,?_⟩;rw[aT (aj e3 nc),aT (λz=>by rw[z,hP] at e3;cases e3)]
    exact e3
   .exact⟨c',q,bj⟩
 | some cv =>
  obtain⟨c',rfl,hcO⟩:=hall pos cv hh;refine PySem.W.kla_makeFunctionHit hcl I.ok.glob (I.mod.glob.keeps I.bk) M.code (M.hd.keeps I.bk) oP ht hh hb λctv h' tk hk hsz=>?_;have I1:=I.kept (t':=tk) (h':=h') hk;have I2:=I1.kept (t':=tk) (h':=h'.push (PySem.W.kla_obj "<lambda>" (kA X) params body scope clos ((X.mg "__name__").getD .none) c' ctv)) λb o e=>Heap.get?_push_of_some _ e;exact k _ c' _ ctv clos _ _ hc1 hc2 I2 (λb o _ e=>e) ⟨ps,hP,ht,hall⟩ (Heap.get?_push_size _ rfl) (I1.hok.fresh (Yi _)) hsz hcO
def rZ(P:Program)(w:World)(K:W.Frag)(mg:Str->Option Value)(base:Heap)(N:List Str)(qual:Str)(scope:Scope)(p:Addr)(cd:Value)(cl:List (Str×Addr))(A:Around)(outer:List Env)(s:Shared)(H:Hp):Cx where
 prog:=P
 w:=w
 K:=K
 mg:=mg
 base:=base
 A:=A.deeper (PySem.W.envX qual scope s.heap.objs.size p cd cl)
 N:=N
 s₀:=s
 H₀:=H
 env:=PySem.W.envX qual scope s.heap.objs.size p cd cl
 outer:=outer
 stack:=PySem.W.envX qual scope s.heap.objs.size p cd cl::outer
 ex:=[]
 fn:=λ_=>false
 calm:=true
 pn:=[]
 xe:=λ_ _=>False
theorem ki{cl:List (Str×Addr)}{f:Str->Option Addr}(h:∀x∈cl,f x.1=some x.2) {n:Str}{c:Addr}(hm:(n,c)∈cl):cl.lookup n=some c:=by
 induction cl with
 | nil=>cases hm
 | cons q r ih =>
  obtain⟨m,d⟩:=q;rw[List.lookup_cons];by_cases e:n=m
  .subst e;have h1:=h (n,d) (by simp)
   have h2:=h (n,c) hm;rw[h1] at h2;cases h2;simp
  .have:(n==m)=false:=by simpa using e
   rw[this];refine ih (λx hx=>h x (by simp[hx])) ?_
   rcases YY.mp hm with z|z
   .cases z;exact absurd rfl e
   .exact z
theorem gM{cl:List (Str×Addr)}{n:Str}{c:Addr}(h:cl.lookup n=some c):(n,c)∈cl:=by
 induction cl with
 | nil=>cases h
 | cons q r ih =>
  obtain⟨m,d⟩:=q;rw[List.lookup_cons] at h;by_cases e:(n==m)=true
  .rw[e] at h;cases h;rw[eq_of_beq e];simp
  .have:(n==m)=false:=by simpa using e
   rw[this] at h;exact Yf _ (ih h)
theorem Gd{P:Program}{w:World}{K:W.Frag}{mg:Str->Option Value}{base:Heap}{N:List Str}{qual:Str}{scope:Scope}{p:Addr}{cd:Value}{cl:List (Str×Addr)}{A:Around}{outer:List Env}{s:Shared}{H:Hp}{σ:St}{h1:Heap}{t:Nat}{g:Str->Option Addr}
  (hk:scope.kind=.function)(hh:A.handled=none)(e0:qE P w K mg base A outer s H)(hg:∀x∈cl,g x.1=some x.2)(hinj:∀x y c,g x=some c->g y=some c->x=y)(hfr:∀q∈scope.names,q.2=.free -> ∃c,(q.1,c)∈cl)(hnc:∀q∈scope.names,q.2 ≠ .cell)
  (hns:h1.Ns s.heap.objs.size (λ_=>none))(keep:∀b o,s.heap.get? b=some o->h1.get? b=some o)(hcell:∀x c,cl.lookup x=some c->H c=none /\ ∃v,s.heap.IsCell c v)
  (hloc:∀(i:Nat)(x:Str)(v:V),N[i]? = some x->σ[i]? = some (some v)->scope.names.lookup x=some .free /\ ∃u c,bH v u/\cl.lookup x=some c/\s.heap.IsCell c (some u))(hlen:σ.length=N.length) :
  aJ (rZ P w K mg base N qual scope p cd cl A outer s H) [] σ H { s with heap:=h1,toks:=t }:=by
 have noA:∀b:Addr,b∉(rZ P w K mg base N qual scope p cd cl A outer s H).ex:=λb z=>absurd (show b∈([]:List Addr) from z) (by simp)
 refine⟨⟨e0.mod,hk,rfl,rfl,Yi _,λx y c h1 h2=>?_,λx hx=>?_,(λx c h=>nomatch h),λ_=>hh,Around.frames_deeper e0.frames,.inr ⟨rfl,rfl⟩,λb z=>absurd z (noA b),e0.bs,e0.bsz,λb _ _=>noA b,λb z=>absurd z (noA b),e0.funs,e0.frf⟩,
  rfl,e0.bare,Un.kept keep,⟨_,hns,λi x v h1 h2 h3=>?_⟩,λx c h=>?_,e0.hok.fresh (Yi _),λx c h=>(hcell x c h).1,λq hq=>absurd (show q∈([]:List (Addr×Obj)) from hq) (by simp),e0.hok.kept keep,hlen⟩
 .exact hinj x y c (hg _ (gM h1)) (hg _ (gM h2))
 .have hx':scope.names.lookup x=some .cell\/scope.names.lookup x=some .free:=hx;rcases hx' with z|z
  .exact absurd rfl (hnc _ (YU z))
  .obtain⟨c,hc⟩:=hfr _ (YU z) rfl;exact⟨c,ki hg hc⟩
 .obtain⟨hf,u,c,r,hc,o,ho,hd⟩:=hloc i x v h1 h2;exact⟨u,r,.inr ⟨.inr hf,c,hc,o,keep _ _ ho,hd⟩⟩
 .obtain⟨_,v,o,ho,hd⟩:=hcell x c h;exact⟨v,o,keep _ _ ho,hd⟩
theorem IJ{X:Cx}{pins:List (Addr×Obj)}{σ σl:St}{H:Hp}{s:Shared}{params:Arguments}{body:Expr}{scope:Scope}{qual:Str}{p c' C:Addr}{pm ctv:Value}{clos:List (Str×Addr)}{Nl:List Str}{k:Nat}{tl:St->Hp->XK->Prop}
  (hfn:∀x,X.fn x=true)(I:aJ X pins σ H s)(hc1:∀x∈clos,X.env.cells.lookup x.1=some x.2)(hc2:∀q∈scope.names,q.2=.free -> ∃c,(q.1,c)∈clos)
  (hp:s.heap.get? p=some (PySem.W.kla_obj "<lambda>" qual params body scope clos pm c' ctv)) (hpn:H p=none)(hpf:p∉iJ X.stack)(hco:H c'=some (uF c' qual))
  (hk:scope.kind=.function)(hnc:∀q∈scope.names,q.2 ≠ .cell)(hsc:scope.isCoroutine=false/\scope.isGenerator=false)(hbind:bindArgs (PySem.W.kla_fn "<lambda>" qual params body scope clos pm (.ref c') ctv) ⟨[],[]⟩=pure [])
  (hN:∀(i:Nat)(x:Str)(v:V),Nl[i]? = some x->σl[i]? = some (some v)->scope.names.lookup x=some .free/\X.env.kindOf x=some .cell /\ ∃j:Nat,X.N[j]? = some x/\σ[j]? = some (some v))(hlen:σl.length=Nl.length)
  (hb:∀(A':Around)(outer':List Env)(s':Shared),cN k (A'.deeper (PySem.W.envX qual scope s'.heap.objs.size p (.ref c') clos))->PX (rZ X.prog X.w X.K X.mg X.base Nl qual scope p (.ref c') clos A' outer' s' H) body tl)
  (ht:tl σl H λc o H'=>c=.ref C/\o=none/\az (vw X.K H) (vw X.K H')):Ko X.prog X.w X.K X.mg X.base (k+1) p C s H X.stack:=by
 have cells:∀x c,clos.lookup x=some c->X.env.cells.lookup x=some c:=λx c h=>hc1 _ (gM h);have cfree:∀x c,X.env.cells.lookup x=some c->c∉iJ X.stack:=λx c e z=>by
  rcases YY.mp (I.stkSub c z) with q|q
  .exact I.cne x c e q
  .obtain⟨_,o,ho,_⟩:=I.ok.funs.mem q;exact absurd (Ym (Heap.lt_size ho) (I.ok.cab x c (hfn x) e)) (Xr _)
 refine⟨⟨_,_,_,_,hp⟩,hpn,hpf,λA' outer' s' hr e0 keep=>?_⟩;have KX:X.K.In s'.heap:=e0.mod.kin.keeps λb o e=>(e0.bs b o e).1;have lim:s'.heap.NoLimit:=e0.mod.nolimit.keeps λb o e=>(e0.bs b o e).1;have hrec:s'.heap.CodeRec (.ref c') qual:=(e0.hok c' _ hco).1;have cellAt:∀x c v,X.env.cells.lookup x=some c->s.heap.IsCell c v->s'.heap.IsCell c v:=λx c v e ⟨o,ho,hd⟩=>⟨o,keep c o ho (I.freeC x c e) (cfree x c e),hd⟩;refine PySem.W.kla_callFunE hr.depth (keep _ _ hp hpn hpf) rfl hsc.1 hsc.2 rfl hrec ?_;rw[hbind];refine wpAny_pure (wpAny_newFunctionEnv hnc (λy hy=>absurd hy (by simp)) (λh1 hns hsb=>⟨lim.fresh _ hsb,?_⟩) hk)
 show codeAny _ _ (.expr body (PySem.W.envX qual scope s'.heap.objs.size p (.ref c') clos)) _ _;have kp:∀b o,s'.heap.get? b=some o->h1.get? b=some o:=λb o e=>hsb.extBut b o (YR (Heap.lt_size e)) (Heap.get?_push_of_some _ e);have J:aJ (rZ X.prog X.w X.K X.mg X.base Nl qual scope p (.ref c') clos A' outer' s' H) [] σl H { s' with heap:=h1,toks:=s'.toks+([]:List (Str×Value)).length }:=by
  refine Gd (g:=λx=>X.env.cells.lookup x) hk hr.hd e0 hc1 (λx y c h1 h2=>I.ok.inj x y c h1 h2) hc2 hnc (by simpa using hns) kp (λx c e=>⟨I.freeC x c (cells x c e),?_⟩) (λi x v e1 e2=>?_) hlen
  .obtain⟨v,z⟩:=I.cell x c (cells x c e);exact⟨v,cellAt x c v (cells x c e) z⟩
  .obtain⟨f1,f2,j,f3,f4⟩:=hN i x v e1 e2;obtain⟨m,hn,hl⟩:=I.loc;obtain⟨u,r,l⟩:=hl j x v f3 f4 (.inr (.inl f2));refine⟨f1,u,?_⟩;rcases l with ⟨z,_⟩|⟨_,c,hc,hz⟩
   .rw[f2] at z;cases z
   .obtain⟨c2,hm⟩:=hc2 _ (YU f1) rfl;have l2:=ki (f:=λx=>X.env.cells.lookup x) hc1 hm;have e3:=cells _ _ l2;rw[hc] at e3;cases e3;exact⟨c,r,l2,cellAt x c _ hc hz⟩
 refine PySem.W.kla_codeExpr (wpAny_mono ((hb A' outer' s' (hr.deeper _)) [] _ σl H _ J ht) (λ_ _ z=>z.elim) λev s2 z=>?_);obtain⟨s3,H3,J3,z⟩:=z;exact J3.passed rfl rfl rfl z λ_ _ _ q=>q
def LA:V->Value->Prop
 | .ref a,u=>u=.ref a
 | .ty n,u=>u=.type n
 | _,_=>False
theorem b9{X:Cx}:dM X (.builtin "isinstance") (λxs H Q=>∃p c,xs=[.ref p,c] /\ ∃C,vw X.K H p=some (JJ p C)/\uB X.K C /\ ∃cv,LA c cv /\ ∃b,PySem.W.kitOne X.K (.ref C) cv=some b/\Q (.bl b) H):=by
 intro pins s σ H xs us Q I r h;obtain⟨p,c,rfl,C,hp,Z,cv,hc,b,hk,q⟩:=h;obtain⟨u,w',rfl,rx,ry⟩:=yp r;cases rx;have e1:w'=cv:=by
  cases c with
  | ref a=>exact (show w'=Value.ref a from ry).trans hc.symm
  | ty n=>exact (show w'=Value.type n from ry).trans hc.symm
  | non=>exact hc.elim
  | bl _=>exact hc.elim
  | int _=>exact hc.elim
  | str _=>exact hc.elim
  | byt _=>exact hc.elim
  | flt _=>exact hc.elim
 subst e1;have hx:BF p C s.heap:=(I.hok p _ (i5 hp (λ_ z=>by cases z))).1
 exact Y3 (BD Z) I.kIn hx hk (by intro z;cases z) λtk=>⟨.bl b,H,I.tok tk,rfl,q⟩
def AO:List Str:=["NoFraction", "NoPolynomial", "NoSums", "NoFlock", "NoWalk", "NoSum", "NoDeed", "NoText", "NoRow"]
structure zE (K:W.Frag)(mg:Str->Option Value)(C:Addr)(i:Nat):Prop where
 cls:uB K C
 kinds:∀(j:Nat)(n:Str),AO[j]? = some n -> ∃c,mg n=some (.ref c)/\PySem.W.kitOne K (.ref C) (.ref c)=some (decide (j=i))
 mom:∃c,mg "MomentError" = some (.ref c)/\PySem.W.exmOne K (.ref C) (.ref c)=some true
 ve:PySem.W.kitOne K (.ref C) (.type "ValueError")=some true
structure zg (P:Program)(w:World)(K:W.Frag)(mg:Str->Option Value)(base:Heap)(kl:Nat):Prop where
 ex:∃f,mg "_law_refused" = some (.ref f)/\PySem.W.keepIn K (.ref f)=true /\ ∀(A:Around)(outer:List Env)(s:Shared)(H:Hp)(p C:Addr)(i:Nat)(Q:VK),cN (kl+1) A->qE P w K mg base A outer s H->Ko P w K mg base kl p C s H outer->zE K mg C i->i<9 ->
  (∀q H',az (vw K H) (vw K H')->vw K H q=none->vw K H' q=some (.lst [.int i])->Q (.ref q) H')->codeAny (model P w) A (.call (.ref f) ⟨[.ref p],[]⟩) (CR dC outer P w H s Q E0) s
theorem aJ.vwT{X:Cx}{pins:List (Addr×Obj)}{σ:St}{H:Hp}{s:Shared}{b:Addr}{o:HO}(I:aJ X pins σ H s)(e:H b=some o):vw X.K H b=some o:=by
 have hk:X.K.lookup b=none:=by
  cases z:X.K.lookup b with
  | none=>rfl
  | some ob =>
   have:=(I.bs b ob (I.ok.mod.kin b ob z)).2;rw[e] at this;cases this
 rw[cX hk];exact e
theorem cY.raw{K:W.Frag}{H:Hp}{P:Addr}{qual:Str}(h:cY (vw K H) P qual):cY H P qual:=by
 obtain⟨ps,h1,h2,h3⟩:=h;refine⟨ps,i5 h1 (λ_ z=>by cases z),h2,λpos cv z=>?_⟩
 obtain⟨c,e1,e2⟩:=h3 pos cv z;exact⟨c,e1,i5 e2 (λ_ z=>by cases z)⟩
theorem aJ.tabV{X:Cx}{pins:List (Addr×Obj)}{σ:St}{H:Hp}{s:Shared}{P:Addr}{qual:Str}(I:aJ X pins σ H s)(h:cY H P qual):cY (vw X.K H) P qual:=by
 obtain⟨ps,h1,h2,h3⟩:=h;refine⟨ps,I.vwT h1,h2,λpos cv z=>?_⟩;obtain⟨c,e1,e2⟩:=h3 pos cv z;exact⟨c,e1,I.vwT e2⟩
def yP(K:W.Frag)(P:Addr)(qual:Str)(ixs:List Nat)(C:Addr)(i:Nat)(tl:St->Hp->XK->Prop):TE:=λσ H Q=>cY (vw K H) P qual /\ ∀H1,eN P (vw K H) (vw K H1)->cY (vw K H1) P qual -> ∃σl:St,σl=ixs.map (λj=>(σ[j]?).join)/\tl σl H1 (λc o H'=>c=.ref C/\o=none/\az (vw K H1) (vw K H')) /\
 ∀q H',az (vw K H1) (vw K H')->vw K H1 q=none->vw K H' q=some (.lst [.int i])->Q (.ref q) H'
theorem EO{X:Cx}{params:Arguments}{body:Expr}{scope:Scope}{c P C:Addr}{kl i:Nat}{p1 lpos pos:Pos}{Nl:List Str}{ixs:List Nat}{tl:St->Hp->XK->Prop}
  (R:zg X.prog X.w X.K X.mg X.base (kl+1))(M:yf X c P)(hr:cN (kl+2) X.A)(hg:Gl X "_law_refused") (Z:zE X.K X.mg C i)(hi:i<9)(hfn:∀x,X.fn x=true)(hdef:defaultsOf params X.env=([],[]))
  (hfree:∀q∈scope.names,q.2=.free->X.env.kindOf q.1=some .cell)(hk:scope.kind=.function)(hnc:∀q∈scope.names,q.2 ≠ .cell)(hsc:scope.isCoroutine=false/\scope.isGenerator=false)
  (hbind:∀clos pm c' ctv,bindArgs (PySem.W.kla_fn "<lambda>" (kA X) params body scope clos pm (.ref c') ctv) ⟨[],[]⟩=pure []) (hlen:ixs.length=Nl.length)(hNl:∀(j:Nat)(x:Str),Nl[j]? = some x->scope.names.lookup x=some .free /\ ∃l,ixs[j]? = some l/\X.N[l]? = some x)
  (hb:∀(p c':Addr)(clos:List (Str×Addr))(H1:Hp)(A':Around)(outer':List Env)(s':Shared),cN kl (A'.deeper (PySem.W.envX (kA X) scope s'.heap.objs.size p (.ref c') clos))->PX (rZ X.prog X.w X.K X.mg X.base Nl (kA X) scope p (.ref c') clos A' outer' s' H1) body tl)
  (he:starEach [Expr.Lambda params body scope lpos] X.env=[(false,eval (.Lambda params body scope lpos) X.env)]:=by rfl) :
  PE X (.Call (.Name "_law_refused" p1) [.Lambda params body scope lpos] [] pos) (yP X.K P (kA X) ixs C i tl):=by
 intro pins s σ H Q I h;obtain⟨hT,h⟩:=h;obtain⟨f,hm,hkp,run⟩:=R.ex;refine wpAny_Call_Name_kw (jU I hg hm ?_ ∅);refine PySem.W.callWith_K (h₀:=X.base) I.ok.mod.kin hkp ?_ he rfl;rw[he];show wpAny _ _ (spliced [(false,eval (.Lambda params body scope lpos) X.env)]) _ _ s;refine Calls.spliced_cons (C3 M hdef I (cY.raw hT) hfree λp c' pm ctv clos H1 s1 hc1 hc2 I1 B1 T1 hp hpn hps hco=>?_);refine Calls.spliced_nil ⟨I1.kIn,?_⟩;obtain⟨σl,eσ,ht,fin⟩:=h H1 (sV B1) (I1.tabV T1);have hpf:p∉iJ X.stack:=λz=>by
  rcases YY.mp (I.stkSub p z) with q|q
  .exact absurd (Ym I.lt (q▸hps)) (Xr _)
  .exact I.nofs hps q
 have L:Ko X.prog X.w X.K X.mg X.base (kl+1) p C s1 H1 X.stack:=by
  refine IJ (σl:=σl) (Nl:=Nl) hfn I1 hc1 hc2 hp hpn hpf hco hk hnc hsc (hbind clos pm c' ctv) (λj x v e1 e2=>?_) (by rw[eσ,Yb];exact hlen) (λA' outer' s' hr'=>hb p c' clos H1 A' outer' s' hr') ht
  obtain⟨a1,l,a2,a3⟩:=hNl j x e1;rw[eσ,Yd,a2] at e2;have e3:(σ[l]?).join=some v:=by
   have e4:some ((σ[l]?).join)=some (some v):=e2;exact YO e4
  refine⟨a1,hfree _ (YU a1) rfl,l,a3,?_⟩;cases e5:σ[l]? with
  | none=>rw[e5] at e3;cases e3
  | some w=>rw[e5] at e3;cases w with
   | none=>cases e3
   | some w=>cases e3;rfl
 refine wpAny_call (codeAny_mono (run X.A X.stack s1 H1 p C i Q hr I1.env0 L Z hi fin) λr s' hq=>?_);cases r with
 | error e=>exact False.elim hq
 | ok fl =>
  cases fl with
  | ret u=>exact I1.after hq
  | next=>exact False.elim hq
  | brk=>exact False.elim hq
  | cont=>exact False.elim hq
def rK(G G':Hp):Prop:=∀b o,G b=some o->(∀ps,o ≠ .tbl ps)->G' b=some o
theorem rK.of{G G':Hp}(S:az G G'):rK G G':=λb o e _=>S b o e
theorem rK.trans{G G1 G2:Hp}(a:rK G G1)(b:rK G1 G2):rK G G2:=λc o e n=>b c o (a c o e n) n
theorem rK.rfl{G:Hp}:rK G G:=λ_ _ e _=>e
theorem rK.but{G G':Hp}{P:Addr}{ps:Array Value}(h:G P=some (.tbl ps))(B:eN P G G'):rK G G':=λb o e n=>B b o (λz=>by rw[z,h] at e;cases e;exact n _ _root_.rfl) e
theorem cY.same{G G':Hp}{P:Addr}{qual:Str}(h:cY G P qual)(S:az G G'):cY G' P qual:=by
 obtain⟨ps,h1,h2,h3⟩:=h;refine⟨ps,S _ _ h1,h2,λpos cv z=>?_⟩;obtain⟨c,e1,e2⟩:=h3 pos cv z;exact⟨c,e1,S _ _ e2⟩
theorem cY.start{G:Hp}{P:Addr}{qual:Str}(h:G P=some (.tbl #[])):cY G P qual:=⟨#[],h,trivial,λpos cv z=>by cases z⟩
theorem ko.smT{K:W.Frag}{H H':Hp}{a:Addr}{xs:List V}(h:ko K H a xs)(S:rK (vw K H) (vw K H')):ko K H' a xs:=by
 rcases h with ⟨hk,h⟩|h
 .refine .inl ⟨hk,?_⟩;rcases h with h|⟨o,h⟩
  .have:=S a _ (by rw[cX hk];exact h) (λ_ z=>by cases z)
   rw[cX hk] at this;exact .inl this
  .have:=S a _ (by rw[cX hk];exact h) (λ_ z=>by cases z)
   rw[cX hk] at this;exact .inr ⟨o,this⟩
 .exact .inr h
structure Lv (K:W.Frag)(mg:Str->Option Value)(base:Heap)(fd:FuncData)(c P:Addr):Prop where
 code:fd.code=.ref c
 hd:PySem.W.CodeHd base c P
 bi:∃bm o,mg "__builtins__" = some (.ref bm)/\bm≠builtinsNs/\bm≠mainGlobals/\base.get? bm=some o/\o.cls=.type "module" /\ o.dict=some builtinsNs/\o.data=.plain
theorem uQ{P:Program}{w:World}{K:W.Frag}{mg:Str->Option Value}{base:Heap}{N:List Str}{qual:Str}{scope:Scope}{f:Addr}{cdv:Value}{A:Around}{outer:List Env}{s:Shared}{H:Hp}{E:XK}{fd:FuncData}{c Pt:Addr}(h:fd.code=cdv)(k:Lv K mg base fd c Pt) :
  yf ((fT dC P w K mg base N qual scope f cdv A outer s H E).nox) c Pt:=⟨h▸k.code,k.hd,k.bi⟩
structure Al (P:Program)(w:World)(K:W.Frag)(mg:Str->Option Value)(base:Heap)(x:Str)(ps:List Str)(k:Nat)(sp:Sp):Prop where
 ex:∃f fd,a9 P w K mg base (mw P w) k f fd ps sp/\mg x=some (.ref f)/\PySem.W.keepIn K (.ref f)=true/\lD K fd ps []
structure QX (X:Cx)(e:Expr)(t:St->Hp->XK->Prop):Prop where
 h:PX X e t
def uG(sp:Sp)(t:TA):St->Hp->XK->Prop:=λσ H E=>t σ H λvs H1=>sp vs H1 (λ_ _=>False) E
theorem ub{X:Cx}{x:Str}{p pos:Pos}{e:Expr}{es:List Expr}{t:TA}{ps:List Str}{k:Nat}{sp:Sp}(C:Al X.prog X.w X.K X.mg X.base x ps k sp)(hr:cN k X.A)(hg:Gl X x)(ha:∀E,QA (X.wish E) (e::es) t)(hdb:(x==("__debug__" : Str))=false:=by decide)
  (he:starEach (e::es) X.env=(false,eval e X.env)::starEach es X.env:=by rfl)(hpl:(backTo pos (starEach es X.env)).any (·.1)=false:=by rfl) :
  QX X (.Call (.Name x p) (e::es) [] pos) (uG sp t):=⟨by
 obtain⟨f,fd,F,hm,hk,hb⟩:=C.ex;intro pins s σ H E I h;refine wpAny_Call_Name_kw (jU I hg hm ?_ hdb);have ha':=(ha λev s'=>∃s1 H1,aJ X pins σ H1 s1/\mw X.prog X.w X.stack H1 s1 E ev s').h pos pins s σ H _ (I.wish _) h;refine PySem.W.callWith_K (h₀:=X.base) I.ok.mod.kin hk (cD ha' λus s1 ⟨vs,H1,I1,r,q⟩=>⟨I1.kIn,?_⟩) he hpl;have I1:=I1.unwish;have hl:us.length=ps.length:=by rw[<-r.length];exact F.len _ _ _ _ q
 have hb':=hb s1 us I1.kIn (by simpa using hl)
 rw[Xi] at hb';refine wpAny_call (codeAny_mono (F.run X.A X.stack s1 H1 ⟨us,[]⟩ us vs _ E hr I1.env0 hb' r q) λr s' hq=>?_);cases r with
 | error e=>exact⟨s1,H1,I1,hq⟩
 | ok fl =>
  cases fl with
  | ret u=>obtain⟨_,_,_,_,_,_,_,z⟩:=hq;exact z.elim
  | next=>exact False.elim hq
  | brk=>exact False.elim hq
  | cont=>exact False.elim hq⟩
section
variable {P:Program}{w:World}{K:W.Frag}{mg:Str->Option Value}{base:Heap}
theorem dA.okX{x qual:Str}{st:Stmt}{f:Addr}{fd:FuncData}{N ps:List Str}{k:Nat}{sp:Sp}(F:dA K x qual st f fd)(S:aA N ps (ak st))(len:∀vs H Q E,sp vs H Q E->vs.length=ps.length)
  (hbody:∀(cdv:Value)(A:Around)(outer:List Env)(s:Shared)(H:Hp)(vs:List V)(Q:VK)(E:XK),cN k (A.deeper (envOfC qual (ak st) s.heap.objs.size f cdv))->sp vs H Q E ->
   ∃t,wo (fT (mw P w) P w K mg base N qual (ak st) f cdv A outer s H E) (di st) t/\t { nx:=λ_ H'=>Q .non H',rt:=Q } (start N vs) H):a9 P w K mg base (mw P w) (k+1) f fd ps sp:=by
 obtain⟨oc,od,kV,doc,pm,an,cdv,ct,osl,rfl,lk,hcd⟩:=F.ex;refine BL lk hcd S len λA outer s H vs Q E hr hsp=>?_;obtain⟨t,h,q⟩:=hbody cdv A outer s H vs Q E hr hsp;exact⟨t,h.h,q⟩
theorem Db{N:List Str}{qual:Str}{scope:Scope}{f:Addr}{cd:Value}{A:Around}{outer:List Env}{s₀:Shared}{H₀:Hp}{E:XK}{C:Addr}{x:Str}{np cpos pos:Pos}{e:Expr}{es:List Expr}{t:TA}(z:uk K C)(hg:Gl (fT (mw P w) P w K mg base N qual scope f cd A outer s₀ H₀ E) x)(hm:mg x=some (.ref C))
  (ha:QA (fT (mw P w) P w K mg base N qual scope f cd A outer s₀ H₀ E) (e::es) t)(hdb:(x==("__debug__" : Str))=false:=by decide)
  (he:starEach (e::es) (envOfC qual scope s₀.heap.objs.size f cd)=(false,eval e (envOfC qual scope s₀.heap.objs.size f cd))::starEach es (envOfC qual scope s₀.heap.objs.size f cd):=by rfl)(hpl:(backTo cpos (starEach es (envOfC qual scope s₀.heap.objs.size f cd))).any (·.1)=false:=by rfl) :
  QS (fT (mw P w) P w K mg base N qual scope f cd A outer s₀ H₀ E) (.Raise (some (.Call (.Name x np) (e::es) [] cpos)) none pos) (w5 E C t):=⟨BK z hg hm ha.h hdb he hpl⟩
end
section
variable {X:Cx}
theorem Ie{e:Expr}{cls n:Str}{b0:Stmt}{suite:List Stmt}{p1 np hp pos:Pos}{C0:Addr}{i:Nat}{tb:St->Hp->XK->Prop}{ts:TS}(hx0:X.ex=[])(hs:X.stack=X.env::X.outer)(hfr:X.env.frame=some X.env.locals)
  (hb:PX X e tb)(hN:X.N.Nodup)(hi:X.N[i]? = some n)(hloc:X.env.scope.names.lookup n=some .local)(hg:Gl X cls)(hm:X.mg cls=some (.ref C0))(hsu:∀v,wo (X.marked v) (b0::suite) ts)
  (hdb:(cls==("__debug__" : Str))=false:=by decide) (hsw:swapsWith e none p1.line X.env=pure false:=by rfl) :
  QS X (.Try [.Expr e p1] [.ExceptHandler (some (.Name cls np)) (some n) (b0::suite) hp] [] [] pos) (Ip X.K C0 i tb ts):=⟨Jh hx0 hs hfr hb hN hi hloc hg hm (λv=>(hsu v).h) hdb hsw⟩
theorem ye{params:Arguments}{body:Expr}{scope:Scope}{c P C:Addr}{kl i:Nat}{p1 lpos pos:Pos}{Nl:List Str}{ixs:List Nat}{tl:St->Hp->XK->Prop}
  (R:zg X.prog X.w X.K X.mg X.base (kl+1))(M:yf X c P)(hr:cN (kl+2) X.A)(hg:Gl X "_law_refused") (Z:zE X.K X.mg C i)(hi:i<9)(hfn:∀x,X.fn x=true)(hdef:defaultsOf params X.env=([],[]))
  (hfree:∀q∈scope.names,q.2=.free->X.env.kindOf q.1=some .cell)(hk:scope.kind=.function)(hnc:∀q∈scope.names,q.2 ≠ .cell)(hsc:scope.isCoroutine=false/\scope.isGenerator=false)
  (hbind:∀clos pm c' ctv,bindArgs (PySem.W.kla_fn "<lambda>" (kA X) params body scope clos pm (.ref c') ctv) ⟨[],[]⟩=pure []) (hlen:ixs.length=Nl.length)(hNl:∀(j:Nat)(x:Str),Nl[j]? = some x->scope.names.lookup x=some .free /\ ∃l,ixs[j]? = some l/\X.N[l]? = some x)
  (hb:∀(p c':Addr)(clos:List (Str×Addr))(H1:Hp)(A':Around)(outer':List Env)(s':Shared),cN kl (A'.deeper (PySem.W.envX (kA X) scope s'.heap.objs.size p (.ref c') clos))->QX (rZ X.prog X.w X.K X.mg X.base Nl (kA X) scope p (.ref c') clos A' outer' s' H1) body tl)
  (he:starEach [Expr.Lambda params body scope lpos] X.env=[(false,eval (.Lambda params body scope lpos) X.env)]:=by rfl) :
  QE X (.Call (.Name "_law_refused" p1) [.Lambda params body scope lpos] [] pos) (yP X.K P (kA X) ixs C i tl) :=
 ⟨EO R M hr hg Z hi hfn hdef hfree hk hnc hsc hbind hlen hNl (λp c' clos H1 A' outer' s' hr'=>(hb p c' clos H1 A' outer' s' hr').h) he⟩
end
def xJ(mg:Str->Option Value)(base:Heap):Prop:=∃bm o,mg "__builtins__" = some (.ref bm)/\bm≠builtinsNs/\bm≠mainGlobals/\base.get? bm=some o/\o.cls=.type "module" /\ o.dict=some builtinsNs/\o.data=.plain
def JV(ts:List (Addr×Addr))(H:Hp):Prop:=∀b,H b=none\/(∃o xs,H b=some (.frz o (.lst xs)))\/(H b=some (.tbl #[]) /\ ∃q∈ts,q.2=b)
theorem Au{P:Program}{w:World}{K:W.Frag}{mg mb:Str->Option Value}{CX:wK}{k:Nat}{fa a:Addr}{fd:FuncData}{x:Str}{sp:Sp}{s₁:Shared}{vs:List Value}{ns:List Int}{ts:List (Addr×Addr)}
  (KX:K.In s₁.heap)(hns:s₁.heap.Ns mainGlobals mg)(hb:s₁.heap.Ns builtinsNs mb)(hbb:∀x:Str,x ≠ "__name__" -> mb x=bootBuiltins x) (hlim:s₁.heap.NoLimit)(hg:s₁.gens = #[])
  (ha:s₁.heap.get? a=some { cls:=.type "list",data:=.seq vs.toArray }) (hi:IntsAre vs ns)(hl:ns.length<=sizeLine)(hr:cN k callerA)(hT:∀q∈ts,PySem.W.codeHdIn K q.1 q.2=true/\K.lookup q.2=none/\s₁.heap.get? q.2=some (PySem.W.tabObj #[]))
  (hB:xJ mg s₁.heap)(hSr:s₁.heap.NoSeer)(F:∀base:Heap,K.In base->base.Ns mainGlobals mg->xJ mg base->base.NoSeer->a9 P w K mg base CX k fa fd [x] sp)(hbind:∀(s:Shared)(u:Value),BindsTo s fd ⟨[u],[]⟩ [(x,u)])
  (hsp:∀H:Hp,(∀q∈ts,vw K H q.2=some (.tbl #[]))->(H a≠none->K.lookup a=none)->jq K H a (ns.map V.int)->sp [.ref a] H (λv _=>v=.bl true) λ_ _ _=>False)
  (hCX:∀H e s',CX [] H s₁ (λ_ _ _=>False) e s'->False) :
  codeAny (model P w) callerA (.call (.ref fa) ⟨[.ref a],[]⟩) (λr s'=>r=.ok (.ret (.bool true))/\OldK s₁.heap s'.heap/\s'.os=s₁.os/\AllBare s'.gens) s₁:=by
 have rv:=qT hi;have lenV:=hi.length;have na:∀q∈ts,q.2≠a:=λq hq z=>by
  have:=(hT q hq).2.2;rw[z,ha] at this;cases this
 have core:∀H:Hp,JV ts H->(∀q∈ts,H q.2=some (.tbl #[]))->jq K H a (ns.map V.int)->jY P w H s₁.heap->(∀b,H b≠none->b=a \/ ∃q∈ts,q.2=b)->(H a≠none->K.lookup a=none) ->
   codeAny (model P w) callerA (.call (.ref fa) ⟨[.ref a],[]⟩) (λr s'=>r=.ok (.ret (.bool true))/\OldK s₁.heap s'.heap/\s'.os=s₁.os/\AllBare s'.gens) s₁:=by
  intro H hO hTT hS hok hA hK;have base_of:∀{b:Addr}{o:Obj},s₁.heap.get? b=some o->H b=none->(pB s₁.heap H).get? b=some o:=λe n=>BP e n;have noA:∀{b:Addr}{o:Obj}{es:Array DictEntry}{ep:Nat},s₁.heap.get? b=some o->o.data=.dict es ep->H b=none:=λ{b o es ep} e d=>by
   cases q:H b with
   | none=>rfl
   | some u =>
    rcases hA b (by rw[q];simp) with e'|⟨y,hy,e'⟩
    .subst e';rw[ha] at e;cases e;have d':Data.seq vs.toArray _=Data.dict es ep:=d;cases d'
    .subst e';rw[(hT y hy).2.2] at e;cases e;have d':Data.fields (#[]:Array Value)=Data.dict es ep:=d;cases d'
  have nsK:∀{b:Addr}{m:Str->Option Value},s₁.heap.Ns b m->(pB s₁.heap H).Ns b m:=λ{b m} ⟨o,es,ep,e,d,r⟩=>⟨o,es,ep,base_of e (noA e d),d,r⟩;have hKb:K.In (pB s₁.heap H):=λb o e=>base_of (KX b o e) (by
   cases q:H b with
   | none=>rfl
   | some u =>
    rcases hA b (by rw[q];simp) with e'|⟨y,hy,e'⟩
    .subst e';rw[hK (by rw[q];simp)] at e;cases e
    .subst e';rw[(hT y hy).2.1] at e;cases e)
  have hM:Mod K mg (pB s₁.heap H):=⟨hKb,nsK hns,⟨mb,nsK hb,hbb⟩,let ⟨mc,h1,h2⟩:=hlim;⟨mc,nsK h1,h2⟩⟩;have e0:qE P w K mg (pB s₁.heap H) callerA [] s₁ H:=⟨rfl,hM,λb o e=>Eb e,Nat.le_of_eq (Aj _ _),trivial,λb hb=>absurd (show b∈([]:List Addr) from hb) (by simp),hok,.of_eq hg⟩
  have hBb:xJ mg (pB s₁.heap H):=by
   obtain⟨bm,ob,b1,b2,b3,b4,b5,b6,b7⟩:=hB;refine⟨bm,ob,b1,b2,b3,base_of b4 ?_,b5,b6,b7⟩;cases q:H bm with
   | none=>rfl
   | some u =>
    rcases hA bm (by rw[q];simp) with e'|⟨y,hy,e'⟩
    .rw[e',ha] at b4;cases b4;simp at b5
    .rw[<-e',(hT y hy).2.2] at b4;cases b4;cases b5
  have hSb:(pB s₁.heap H).NoSeer:=by
   refine⟨let ⟨mc,a,b⟩:=hSr.statics;⟨mc,nsK a,b⟩,let ⟨mm,a,b⟩:=hSr.mods;⟨mm,nsK a,b⟩,let ⟨mb,a,b⟩:=hSr.imp;⟨mb,nsK a,b⟩,?_⟩;obtain⟨mg',bm,ob,b1,b2,b4,b5,b6⟩:=hSr.main;refine⟨mg',bm,ob,nsK b1,b2,base_of b4 ?_,b5,b6⟩;cases q:H bm with
   | none=>rfl
   | some u =>
    rcases hA bm (by rw[q];simp) with e'|⟨y,hy,e'⟩
    .rw[e',ha] at b4;cases b4;simp at b5
    .rw[<-e',(hT y hy).2.2] at b4;cases b4;cases b5
  refine codeAny_mono ((F _ hKb (nsK hns) hBb hSb).run callerA [] s₁ H ⟨[.ref a],[]⟩ [.ref a] [.ref a] _ _ hr e0 (hbind s₁ (.ref a)) (.cons rfl .nil) (hsp H (λq hq=>(cX (hT q hq).2.1).trans (hTT q hq)) hK hS)) λr s' h=>?_;cases r with
  | error e=>exact (hCX H e s' h).elim
  | ok fl =>
   cases fl with
   | next=>exact False.elim h
   | brk=>exact False.elim h
   | cont=>exact False.elim h
   | ret u =>
    obtain⟨v,H',os,bare,un,hok',r',q⟩:=h;have q':v=.bl true:=q;subst q';obtain rfl:u=Value.bool true:=r';have key:∀b o,s₁.heap.get? b=some o->s'.heap.get? b=some o\/((∃y∈ts,y.2=b)/\o=PySem.W.tabObj #[] /\ ∃more,s'.heap.get? b=some (PySem.W.tabObj more)):=λb o e=>by
     cases q:H b with
     | none=>exact .inl (un.keep b o e q (by intro z;exact absurd (show b∈([]:List Addr) from z) (by simp)) (by simp))
     | some u =>
      rcases hO b with z|⟨ob,xs,z⟩|⟨z,y,hy,e'⟩
      .rw[q] at z;cases z
      .have z2:=un.frzs b ob _ z;obtain⟨e1,_⟩:=hok b _ z;obtain⟨e2,_⟩:=hok' b _ z2;rw[e] at e1;cases e1;exact .inl e2
      .obtain⟨more,z2⟩:=un.tbls b #[] z;have e1:s₁.heap.get? b=some (PySem.W.tabObj #[]):=hok b _ z;have e2:s'.heap.get? b=some (PySem.W.tabObj (#[]++more)):=hok' b _ z2;rw[e] at e1;cases e1;exact .inr ⟨⟨y,hy,e'⟩,rfl,_,e2⟩
    refine⟨rfl,⟨λb o e=>?_,λb o e=>?_⟩,os,bare⟩
    .rcases key b o e with z|⟨⟨y,hy,e'⟩,z1,more,z2⟩
     .exact .inl z
     .subst z1 e';have cd:=PySem.W.codeHd_of_K KX (hT y hy).1;exact .inr (.inl ⟨(cd.tab (hT y hy).2.2).isCodeTable,rfl,#[],more,rfl,by rw[z2];simp⟩)
    .rcases key b o e with z|⟨_,_,more,z2⟩
     .exact⟨o,z⟩
     .exact⟨_,z2⟩
 have dec:∀b,Decidable (∃q∈ts,q.2=b):=λb=>Classical.propDecidable _;have tabH:∀q∈ts,cA P w (λ_=>none) s₁.heap q.2 (.tbl #[]):=λq hq=>(hT q hq).2.2;cases hk:K.lookup a with
 | some o =>
  have e:=KX a o hk;rw[ha] at e;cases e;refine core (λb=>@ite _ (∃q∈ts,q.2=b) (dec b) (some (.tbl #[])) none) (λb=>?_) (λq hq=>Yh ⟨q,hq,rfl⟩) (.inr ⟨_,vs.toArray,_,hk,rfl,rfl,rfl,by rw[Yn,lenV];exact hl,by simpa using rv⟩) (λb u z=>?_) (λb z=>?_) λz=>?_
  .by_cases hb:∃q∈ts,q.2=b
   .exact .inr (.inr ⟨Yh hb,hb⟩)
   .exact .inl (Yc hb)
  .by_cases hb:∃q∈ts,q.2=b
   .have z':=(Yh hb).symm.trans z;cases z';obtain⟨q,hq,rfl⟩:=hb;exact (hT q hq).2.2
   .have z':=(Yc hb).symm.trans z;cases z'
  .by_cases hb:∃q∈ts,q.2=b
   .exact .inr hb
   .exact absurd (Yc hb) z
  .have:¬ ∃q∈ts,q.2=a:=λ⟨q,hq,e⟩=>na q hq e;exact absurd (Yc this) z
 | none =>
  have ia:¬ ∃q∈ts,q.2=a:=λ⟨q,hq,e⟩=>na q hq e;refine core (λb=>if b=a then some (.frz { cls:=.type "list",data:=.seq vs.toArray } (.lst (ns.map V.int))) else @ite _ (∃q∈ts,q.2=b) (dec b) (some (.tbl #[])) none) (λb=>?_) (λq hq=>?_) (.inl (.inr ⟨{ cls:=.type "list",data:=.seq vs.toArray },Yh rfl⟩)) (λb u z=>?_) (λb z=>?_) λ_=>hk
  .by_cases hb:b=a
   .exact .inr (.inl ⟨_,_,Yh hb⟩)
   .by_cases hb2:∃q∈ts,q.2=b
    .exact .inr (.inr ⟨(Yc hb).trans (Yh hb2),hb2⟩)
    .exact .inl ((Yc hb).trans (Yc hb2))
  .exact (Yc (na q hq)).trans (Yh ⟨q,hq,rfl⟩)
  .by_cases hb:b=a
   .have z':=(Yh hb).symm.trans z;cases z';subst hb;exact⟨ha,by rw[Yb];exact hl,vs,_,rv,ha⟩
   .by_cases hb2:∃q∈ts,q.2=b
    .have z':=((Yc hb).trans (Yh hb2)).symm.trans z;cases z';obtain⟨q,hq,rfl⟩:=hb2;exact (hT q hq).2.2
    .have z':=((Yc hb).trans (Yc hb2)).symm.trans z;cases z'
  .by_cases hb:b=a
   .exact .inl hb
   .by_cases hb2:∃q∈ts,q.2=b
    .exact .inr hb2
    .exact absurd ((Yc hb).trans (Yc hb2)) z
theorem walk_ofM{l:PySem.W.OpenLaw}{n k:Nat}{q:Program}{loose:List Str}{XP:(Str->Option Value)->Heap->Prop}{YP:World->Heap->Prop}{d:DefRec}{K:Params->W.Frag}{CX:World->wK}{sp:World->Sp}{x:Str}(ts:World->List (Addr×Addr))
  (hn:l.most=some n)(hn2:n<=sizeLine)(hdf:d.params.defaults=[])(hr:cN k callerA)(hi:importsNone q=true)
  (hY:∀(w:World)(h:Heap),YP w h->(K w.params).In h /\ ∀q∈ts w,PySem.W.codeHdIn (K w.params) q.1 q.2=true/\(K w.params).lookup q.2=none/\h.get? q.2=some (PySem.W.tabObj #[]))
  (F:∀(w:World)(mg:Str->Option Value)(fa:Addr)(h:Heap),(K w.params).In h->h.Ns mainGlobals mg->mg d.name=some (.ref fa) ->
   ∃fd:FuncData,(∀(s:Shared)(u:Value),BindsTo s fd ⟨[u],[]⟩ [(x,u)]) /\
    ∀base:Heap,(K w.params).In base->base.Ns mainGlobals mg->xJ mg base->base.NoSeer->a9 l.prog w (K w.params) mg base (CX w) k fa fd [x] (sp w))
  (hsp:∀(w:World)(H:Hp)(a:Addr)(ns:List Int),ns.length<=n->(∀q∈ts w,vw (K w.params) H q.2=some (.tbl #[]))->(H a≠none->(K w.params).lookup a=none)->jq (K w.params) H a (ns.map V.int)->sp w [.ref a] H (λv _=>v=.bl true) λ_ _ _=>False)
  (hCX:∀(w:World)(H:Hp)(s:Shared)(e:Value)(s':Shared),CX w [] H s (λ_ _ _=>False) e s'->False) :
  PySem.W.WalkO q loose XP YP l.row.toRowW d [] (λf vs=>PySem.call f vs):=by
 refine Att.attach_call hn hdf λw s₀ s₁ mg mb fa o pm cd doc a vs ns G Y ho hd hcd hmg hobj hints hlen hg=>?_;obtain⟨KX,hT⟩:=hY w _ Y;obtain⟨fd,hb,hF⟩:=F w mg fa _ KX G.T.g hmg;have hB:xJ mg s₁.heap:=by
  obtain⟨bm,ob,b1,b2,b3,b4,b5,b6⟩:=G.T.bmain;refine⟨bm,ob,b1,b2,λz=>?_,b3,b4,b5,b6⟩;obtain⟨o,es,ep,e,hd',_⟩:=G.T.g;rw[z,e] at b3;cases b3;rw[hd'] at b6;cases b6
 exact Au KX G.T.g G.T.b G.T.builtins G.T.nolimit hg hobj hints (Yz hlen hn2) hr hT hB (G.T.seer hi) hF hb (λH hTT hK hS=>hsp w H a ns hlen hTT hK hS) λH e s'=>hCX w H s₁ e s'
section
variable {P:Program}{w:World}{K:W.Frag}{mg:Str->Option Value}{base:Heap}
theorem dA.okM{x qual:Str}{st:Stmt}{f:Addr}{fd:FuncData}{N ps:List Str}{k:Nat}{sp:Sp}(F:dA K x qual st f fd)(S:aA N ps (ak st))(len:∀vs H Q E,sp vs H Q E->vs.length=ps.length)
  (hbody:∀(cdv:Value)(A:Around)(outer:List Env)(s:Shared)(H:Hp)(vs:List V)(Q:VK)(E:XK),fd.code=cdv->cN k (A.deeper (envOfC qual (ak st) s.heap.objs.size f cdv))->sp vs H Q E ->
   ∃t,wo (fT dC P w K mg base N qual (ak st) f cdv A outer s H E).nox (di st) t/\t { nx:=λ_ H'=>Q .non H',rt:=Q } (start N vs) H):a9 P w K mg base dC (k+1) f fd ps sp:=by
 obtain⟨oc,od,kV,doc,pm,an,cdv,ct,osl,rfl,lk,hcd⟩:=F.ex;refine BL lk hcd S len λA outer s H vs Q E hr hsp=>?_;obtain⟨t,h,q⟩:=hbody cdv A outer s H vs Q E rfl hr hsp;exact⟨t,h.h.nox,q⟩
theorem dA.runQ{x qual:Str}{st:Stmt}{f:Addr}{fd:FuncData}{N ps:List Str}{k:Nat}{A:Around}{outer:List Env}{s:Shared}{H:Hp}{us:List Value}{vs:List V}{Q:VK}{E:XK}(F:dA K x qual st f fd)(S:aA N ps (ak st))(hr:cN (k+1) A)(e0:qE P w K mg base A outer s H)
  (hb:lD K fd ps [])(r:aY vs us)(hl:vs.length=ps.length)
  (hbody:∀cdv,cN k (A.deeper (envOfC qual (ak st) s.heap.objs.size f cdv)) -> ∃t,wo (fT dC P w K mg base N qual (ak st) f cdv A outer s H E).nox (di st) t/\t { nx:=λ_ H'=>Q .non H',rt:=Q } (start N vs) H) :
  codeAny (model P w) A (.call (.ref f) ⟨us,[]⟩) (CR dC outer P w H s Q E) s:=by
 obtain⟨oc,od,kV,doc,pm,an,cdv,ct,osl,rfl,lk,hcd⟩:=F.ex;have KX:K.In s.heap:=e0.mod.kin.keeps λb o e=>(e0.bs b o e).1;have hb':=hb s us KX (by rw[Xi,<-r.length];exact hl)
 rw[Xi] at hb';refine JD lk hcd S hr e0 hb' r hl λhr'=>?_;obtain⟨t,h,q⟩:=hbody cdv hr';exact⟨t,h.h.nox,q⟩
end
theorem xO{X:Cx}{scope sc:Scope}(h:X.env.scope=sc)(z:scope.names.all (λq=>q.2 != .free || sc.names.lookup q.1==some .cell)=true):∀q∈scope.names,q.2=.free->X.env.kindOf q.1=some .cell:=λq hq hf=>by
 have h2:=List.all_eq_true.mp z q hq;rw[Bool.or_eq_true] at h2;rcases h2 with h2|h2
 .rw[hf] at h2;cases h2
 .show X.env.scope.names.lookup q.1=_;rw[h];exact beq_iff_eq.mp h2
theorem rh{scope:Scope}(z:scope.names.all (λq=>q.2 != .cell)=true):∀q∈scope.names,q.2 ≠ .cell:=λq hq e=>by
 have h2:=List.all_eq_true.mp z q hq;rw[e] at h2;cases h2
theorem qI:bootBuiltins "ValueError" = some (.type "ValueError"):=by decide +kernel
def F4(K:W.Frag)(ta:TE):TT:=λσ H Q=>ta σ H λx H'=>∃k,w8 K x H' k/\Q k H'
abbrev DP (n:Str):Str:=n ++ ".<locals>." ++ "<lambda>"
theorem iE(i:Int):(D.lst [.int i]).cmp:=by
 unfold D.cmp D.py D.pys D.pys D.py;exact⟨rfl,Nat.le_of_ble_eq_true rfl⟩
theorem cY.butL{G G':Hp}{P l:Addr}{qual:Str}{xs:List V}(h:cY G P qual)(hl:G l=some (.lst xs))(B:eN l G G'):cY G' P qual:=by
 obtain⟨ps,h1,h2,h3⟩:=h;refine⟨ps,B _ _ (λz=>by rw[z,hl] at h1;cases h1) h1,h2,λpos cv z=>?_⟩
 obtain⟨c,e1,e2⟩:=h3 pos cv z;exact⟨c,e1,B _ _ (λz=>by rw[z,hl] at e2;cases e2) e2⟩
theorem cY.smT{G G':Hp}{P:Addr}{qual:Str}(h:cY G P qual)(B:eN P G G')(T:cY G' P qual):rK G G':=by
 obtain⟨ps,h1,_⟩:=h;exact rK.but h1 B
section
variable {P:Program}{w:World}{K:W.Frag}{mg:Str->Option Value}{base:Heap}
def Cm(E:XK)(t:St->Hp->XK->Prop):TS:=λ_ σ H=>t σ H E
end
def cz(f g:Nat->Rat):Nat->Rat
 | 0=>0
 | n+1=>cz f g n+f n*g n
def Sx(b:Nat)(q:Int×Int):Prop:=∃n:Int,wv q=(n:Rat)/6/\n.natAbs<=b
theorem Sx.lo{a z:Int}{b:Nat}(h0:0<=z)(h3:z<3)(ha:6*a.natAbs<=b):Sx b (lo a (1+z)):=by
 have hz:1+z≠0:=();have c1:((1:Int):Rat)=1:=rfl;have c2:((2:Int):Rat)=2:=rfl;have c3:((3:Int):Rat)=3:=rfl;have c6:((6:Int):Rat)=6:=rfl;rcases (show z=0\/z=1\/z=2 by nofun) with rfl|rfl|rfl
 .refine⟨6*a,?_,()⟩;rw[kc hz,show (1:Int)+0=1 from rfl,Ye,c1,c6]
  grind
 .refine⟨3*a,?_,()⟩;rw[kc hz,show (1:Int)+1=2 from rfl,Ye,c2,c3]
  grind
 .refine⟨2*a,?_,()⟩;rw[kc hz,show (1:Int)+2=3 from rfl,Ye,c2,c3]
  grind
theorem aR.gen{t u:TS}{D:lU}{σ:St}{H:Hp}(h:∀N:St->Hp->Prop,(∀σ' H',u D σ' H'->N σ' H')->t { D with nx:=N } σ H):aR t u D σ H:=h (u D) λ_ _ z=>z
theorem lM(a b:Int):Builtin.Range.rangeSize a b (-1)=if b<a then a-b else 0:=by
 unfold Builtin.Range.rangeSize;simp only[show ¬ ((-1:Int) > 0) by decide,if_false,Int.neg_neg,Int.ediv_one]
 split<;>(try split)<;>nofun
theorem Dz{a b:Int}(ha : -(2^61)<=a)(ha':a<2^61)(hb : -(2^61)<=b)(hb':b<2^61):Builtin.Range.small a b (-1)=true:=by
 unfold Builtin.Range.small;rw[lM];simp only[Builtin.Range.rangeFitsLong,Xk,Bool.or_eq_true,decide_eq_true_eq,beq_iff_eq,show ¬ ((-1:Int) > 0) by decide,if_false]
 split<;>nofun
def LW(lo:Int)(n:Nat):It:=⟨λi _=>i<n,λi H x H'=>H'=H/\x=.int (lo-i),λi _=>n<=i⟩
theorem FI{P:Program}{w:World}{K:W.Frag}{tg:Expr}(it:Addr)(lo:Int)(n:Nat):zG P w K tg (LW lo n) [it] it (λj hp=>IsRangeIter hp it (lo+(j:Nat)*(-1)) ((n:Int)-(j:Nat)) (-1)) where
 mem:=List.mem_singleton.mpr rfl
 obj:=λj hp st b hb=>by
  cases List.mem_singleton.mp hb;refine⟨_,st,λv z=>?_⟩;exact Data.noConfusion (show Data.fields _=Data.cell v from z)
 keep:=λ_ _ _ st k=>k it (List.mem_singleton.mpr rfl) _ st
 item:=by
  intro Y hP hw hK hc j pins s σ H E J hf st hg;subst hP hw hK;obtain⟨g0,g1,g2,g3,g4,g5⟩:=hf it (List.mem_singleton.mpr rfl);refine (Walks.range (prog:=Y.prog) (w:=Y.w) (J.ok.hd hc) it lo (-1) n).item j s _ _ hg st λv hp tk hv st1 kk=>?_;obtain⟨t,rfl⟩:=hv;have J1:aJ Y pins σ H { s with heap:=hp,toks:=tk }:=J.turned (λb o hb e=>kk b o (λz=>hb (List.mem_singleton.mp z)) e) g0 g1 g3 g4 g5
  refine⟨_,rfl,xV (s:={ s with heap:=hp,toks:=tk }) (n:="range_iterator") st1 rfl rfl ∅ ⟨.int (lo-j),H,J1,⟨t,?_⟩,⟨rfl,rfl⟩,st1,λb hb=>(hf b hb).1⟩⟩
  rw[show lo+(j:Nat)*(-1)=lo-(j:Int) by nofun]
 done:=by
  intro Y hP hw hK hc j pins s σ H E J hf st hg;subst hP hw hK;obtain⟨g0,g1,g2,g3,g4,g5⟩:=hf it (List.mem_singleton.mpr rfl);have hj:n<=j:=hg;exact wpAny_pyNext_range_end (J.ok.hd hc) st () λhp eb=>⟨rfl,J.turned (t':=s.toks) (λb o hb e=>eb b o hb e) g0 g1 g3 g4 g5⟩
 self:=λ_ _ _ _ _ st h=>wpAny_pyIter_rangeiter st h
section
variable {X:Cx}{tg:Expr}
def Cs(ta:TA):TI:=λσ H R=>ta σ H λvs H1=>∃i j:Int,vs=[.int i,.int j,.int (-1)]/\(-(2^61)<=i/\i<2^61 /\ -(2^61)<=j/\j<2^61)/\R (LW i (i-j).toNat) H1
theorem zP{a b c:Expr}{ta:TA}{p pos:Pos}(hg:Gl X "range") (hm:X.mg "range" = none) (ha:PA X [a,b,c] ta)(hs:starEach [a,b,c] X.env=[(false,eval a X.env),(false,eval b X.env),(false,eval c X.env)]:=by rfl)
  (hs2:starEach [b,c] X.env=[(false,eval b X.env),(false,eval c X.env)]:=by rfl):PI X tg (.Call (.Name "range" p) [a,b,c] [] pos) (Cs ta):=by
 intro pins s σ H R I h;refine Call_ (jz I hg hm boot_range (Xc (cD (ha pos pins s σ H _ I h) λus s1 ⟨vs,H1,I1,r1,q1⟩=>?_) (by rw[hs,hs2]) (by rw[hs2];rfl)))
 obtain⟨i,j,e,⟨q1,q2,q3,q4⟩,q⟩:=q1;subst e;cases r1 with
 | cons ri rr =>
  cases rr with
  | cons rj rr =>
   cases rr with
   | cons rk rr =>
    cases rr;obtain⟨t1,rfl⟩:=ri;obtain⟨t2,rfl⟩:=rj;obtain⟨t3,rfl⟩:=rk;refine call_range_3 ∅ ?_ (.inl (PyProof.noPylong_of_log2 (by decide +kernel)))
    refine wpAny_pyIter_range (IsRange.new ..) (Dz q1 q2 q3 q4) ?_;have J:aJ X pins σ H1 { s1 with heap:=s1.heap.push { cls:=.type "range",data:=.fields #[.int i t1,.int j t2,.int (-1) t3] },toks:=s1.toks }:=I1.kept λb o e=>Heap.get?_push_of_some _ e
    obtain⟨a1,ha1⟩ : ∃a1,a1=(s1.heap.push { cls:=.type "range",data:=.fields #[.int i t1,.int j t2,.int (-1) t3] }).objs.size:=⟨_,rfl⟩;refine⟨_,[_],_,_,H1,rfl,J.kept (t':=s1.toks) λb o e=>Heap.get?_push_of_some _ e,FI _ i (i-j).toNat,?_,λb hb=>?_,q⟩
    .have e1:i+((0:Nat):Int)*(-1)=i:=by simp
     have e2:(((i-j).toNat:Nat):Int)-((0:Nat):Int)=Builtin.Range.rangeSize i j (-1):=by rw[lM];split<;>nofun
     show IsRangeIter _ _ (i+((0:Nat):Int)*(-1)) ((((i-j).toNat:Nat):Int)-((0:Nat):Int)) (-1);rw[e1,e2];exact Heap.get?_push_size _ rfl
    .cases List.mem_singleton.mp hb;exact J.fpOk (Yi _) (J.hok.fresh (Yi _))
theorem As{a b c:Expr}{ta:TA}{p pos:Pos}(hg:Gl X "range") (hm:X.mg "range" = none) (ha:QA X [a,b,c] ta)(hs:starEach [a,b,c] X.env=[(false,eval a X.env),(false,eval b X.env),(false,eval c X.env)]:=by rfl)
  (hs2:starEach [b,c] X.env=[(false,eval b X.env),(false,eval c X.env)]:=by rfl):QI X tg (.Call (.Name "range" p) [a,b,c] [] pos) (Cs ta):=⟨zP hg hm ha.h hs hs2⟩
end
def AE(lo:Int)(n:Nat):List V:=(List.range n).map λ(k:Nat)=>V.int (lo-k)
theorem Ei{lo:Int}{n:Nat}:(AE lo n).length=n:=by simp[AE]
theorem I0{lo:Int}{n i:Nat}{x:V}(h:(AE lo n)[i]? = some x):i<n/\x=.int (lo-i):=by
 have hi:i<n:=by
  have:=(List.getElem?_eq_some_iff.mp h).1;simpa [AE] using this
 refine⟨hi,?_⟩;simp[AE,hi] at h;exact h.symm
theorem BM{lo:Int}{n:Nat}{H:Hp}:pN (LW lo n) H (AE lo n):=by
 refine⟨λi hi=>by show i<n;simpa [AE] using hi,λi x H' hi y=>⟨y.1,?_⟩,by show n<=(AE lo n).length;simp[AE]⟩
 have hi':i<n:=by simpa [AE] using hi
 obtain⟨_,rfl⟩:=y;simp[AE,hi']
theorem nD{f g:Nat->Rat}{d i:Nat}(hg:∀j,d<j->g j=0)(hf:∀j,i<j->f j=0):∀n,pr f g n (i+d)=if i<n then f i*g d else 0
 | 0=>by simp[pr]
 | n+1=>by
  have ih:=nD hg hf n;show pr f g n (i+d)+(if n<=i+d then f n*g (i+d-n) else 0)=_
  rw[ih];rcases Nat.lt_trichotomy i n with h|h|h
  .rw[hf n h,Yh h,Yh (show i<n+1 by nofun)]
   split<;>grind
  .subst h;rw[Yc (),Yh (),Yh (),show i+d-i=d by nofun]
   grind
  .rw[Yc (),Yh (),Yc (),hg _ ()];grind
theorem xI{f f' g:Nat->Rat}:∀n k,pr (λi=>f i-f' i) g n k=pr f g n k-pr f' g n k
 | 0,_=>by
  show (0:Rat)=0-0;grind
 | n+1,k=>by
  show pr _ g n k+(if n<=k then (f n-f' n)*g (k-n) else 0)=(pr f g n k+if n<=k then f n*g (k-n) else 0)-(pr f' g n k+if n<=k then f' n*g (k-n) else 0)
  rw[xI n k];split<;>grind
theorem lX{f g:Nat->Rat}{n:Nat}(hf:∀i,n<=i->f i=0):∀m k,pr f g (n+m) k=pr f g n k
 | 0,_=>rfl
 | m+1,k=>by
  show pr f g (n+m) k+(if n+m<=k then f (n+m)*g (k-(n+m)) else 0)=_
  rw[lX hf m k,hf (n+m) ()];split<;>grind
theorem A2{e g r:Nat->Rat}{n d:Nat}(he:∀i,n<=i->e i=0)(hg:∀j,d<j->g j=0)(hd:g d≠0)(hr:∀k,d<=k->r k=0)(h:∀k,pr e g n k=r k):∀i,e i=0:=by
 have step:∀m i,n<=i+m->e i=0:=by
  intro m;induction m with
  | zero=>intro i hi;exact he i hi
  | succ m ih =>
   intro i hi;by_cases hin:n<=i
   .exact he i hin
   have hab:∀j,i<j->e j=0:=λj hj=>ih j ();have e1:=nD hg hab n;rw[Yh (),h,hr _ ()] at e1;rcases Rat.mul_eq_zero.mp e1.symm with z|z
   .exact z
   .exact absurd z hd
 intro i;exact step n i ()
theorem wQ{q q' g r r':Nat->Rat}{n n' d:Nat}(hq:∀i,n<=i->q i=0)(hq':∀i,n'<=i->q' i=0)(hg:∀j,d<j->g j=0)(hd:g d≠0)(hr:∀k,d<=k->r k=0)(hr':∀k,d<=k->r' k=0)
  (h:∀k,pr q g n k+r k=pr q' g n' k+r' k):(∀i,q i=q' i) /\ ∀k,r k=r' k:=by
 have a:∀k,pr q g (n+n') k=pr q g n k:=λk=>lX hq n' k;have b:∀k,pr q' g (n+n') k=pr q' g n' k:=λk=>by rw[Nat.add_comm];exact lX hq' n k
 have z:=A2 (e:=λi=>q i-q' i) (g:=g) (r:=λk=>r' k-r k) (n:=n+n') (d:=d) (λi hi=>by
  show q i-q' i=0;rw[hq i (),hq' i ()];grind) hg hd (λk hk=>by
  show r' k-r k=0;rw[hr k hk,hr' k hk];grind) (λk=>by
  rw[xI,a,b];have:=h k;grind)
 have e:∀i,q i=q' i:=λi=>by
  have:q i-q' i=0:=z i;grind
 refine⟨e,λk=>?_⟩;have e2:pr q g n k=pr q' g n' k:=by
  rw[<-a,<-b,show q=q' from funext e]
 have:=h k;grind
theorem Jz{rs:List (Int×Int)}(h:eP rs) {m:Nat}(hz:∀k,m<=k->cf rs k=0):rs.length<=m:=by
 refine Nat.le_of_not_lt λhm=>?_;have hl:rs.length-1<rs.length:=();have e:rs.getLast? = some rs[rs.length-1]:=by rw[Yy,Ya hl]
 have z:=hz (rs.length-1) ();rw[d5 (Ya hl)] at z;exact h.2 _ e ((oD (h.1 _ (Yo hl)).ne).mp z)
theorem FC(m n:Int):qQ (.int m) (.int n)=decide (m=n):=by
 unfold qQ D.py;simp only[PyData.eqv];rw[XU];simp
theorem xZ(i:Int):(D.int i).cmp:=by
 unfold D.cmp D.py;exact⟨rfl,Nat.le_of_ble_eq_true rfl⟩
theorem ym{ns:List Int}{m:Nat}(h:∀n∈ns.drop m,n=0)(k:Nat):nz (ns.take m) k=nz ns k:=by
 unfold nz;rw[YF,YF,Xg];by_cases hk:k<m
 .rw[Yh hk]
 .rw[Yc hk];cases e:ns[k]? with
  | none=>rfl
  | some n =>
   have:n∈ns.drop m:=by
    have e2:(ns.drop m)[k-m]? = some n:=by rw[List.getElem?_drop,show m+(k-m)=k by nofun];exact e
    exact Yr e2
   rw[h n this];rfl
def Dv(D:Int)(b:Nat)(qs:List (Int×Int)):Prop:=∃F:Nat->Int,(∀k,cf qs k=(F k:Rat)/(D:Rat)) /\ ∀k,Bt b (F k)
theorem Dc{f g:Nat->Int}{i:Nat}{c:Int}(h0:f i=0):∀n k,pz (λj=>if j=i then c else f j) g n k=pz f g n k+if i<n/\i<=k then c*g (k-i) else 0
 | 0,k=>by
  show (0:Int)=0+_;rw[Yc ()];rfl
 | n+1,k=>by
  show pz _ g n k+(if n<=k then (if n=i then c else f n)*g (k-n) else 0)=(pz f g n k+if n<=k then f n*g (k-n) else 0)+_
  rw[Dc h0 n k];rcases Nat.lt_trichotomy n i with h|h|h
  .simp only[Yc (show ¬ (i<n/\i<=k) by nofun),Yc (show ¬ n=i by nofun),Yc (show ¬ (i<n+1/\i<=k) by nofun)]
   nofun
  .subst h;rw[h0];by_cases hk:n<=k
   .simp only[Yh hk,Yh (show n<n+1/\n<=k from ⟨(),hk⟩),Yc (show ¬ (n<n/\n<=k) by nofun),Int.zero_mul,if_true]
    try nofun
   .simp only[Yc hk,Yc (show ¬ (n<n+1/\n<=k) by nofun),Yc (show ¬ (n<n/\n<=k) by nofun)]
  .simp only[Yc (show ¬ n=i by nofun)]
   by_cases hk:i<=k
   .simp only[Yh (show i<n/\i<=k from ⟨h,hk⟩),Yh (show i<n+1/\i<=k from ⟨(),hk⟩)]
    nofun
   .simp only[Yc (show ¬ (i<n/\i<=k) by nofun),Yc (show ¬ (i<n+1/\i<=k) by nofun)]
    nofun
theorem sE{f g:Nat->Int}{c:Int}:∀n k,pz (λj=>c*f j) g n k=c*pz f g n k
 | 0,_=>by show (0:Int)=c*0;nofun
 | n+1,k=>by
  show pz _ g n k+(if n<=k then c*f n*g (k-n) else 0)=c*(pz f g n k+if n<=k then f n*g (k-n) else 0)
  rw[sE n k];split
  .rw[Int.mul_add,YM]
  .simp
theorem yc{f g:Nat->Int}(h:∀i,f i=0):∀n k,pz f g n k=0
 | 0,_=>rfl
 | n+1,k=>by
  show pz f g n k+(if n<=k then f n*g (k-n) else 0)=0
  rw[yc h n k,h n];simp
theorem sI{ns:List Int}{i k:Nat}{v:Int}(hi:i<ns.length):nz (ns.set i v) k=if k=i then v else nz ns k:=by
 unfold nz;rw[YF,YF,List.getElem?_set];by_cases h:i=k
 .subst h;simp[hi]
 .rw[Yc h,Yc (λz=>h z.symm)]
theorem dH{ns:List Int}{c:Int}(k:Nat):nz (ns.map λx=>c*x) k=c*nz ns k:=by
 unfold nz;rw[YF,YF,Yd];cases ns[k]?<;>simp
theorem nK{ns:List Int}(k:Nat):nz ns.dropLast k=if k=ns.length-1 then 0 else nz ns k:=by
 unfold nz;rw[YF,YF,List.getElem?_dropLast];by_cases h:k<ns.length-1
 .rw[Yh h,Yc ()]
 .rw[Yc h];by_cases h2:k=ns.length-1
  .rw[Yh h2];rfl
  .rw[Yc h2,List.getElem?_eq_none ()]
theorem Ae{ms:Nat->Int}{S P:Int}{Q Q' N R R1 R2:Nat->Int}{n p l:Nat}(h:∀k,S*ms k=pz Q N n k+R k)(h0:Q p=0)(hQ:∀k,Q' k=if k=p then P else Q k)(hp:p<n)(hN:∀j,l<j->N j=0)
  (ht:R (p+l)=P*N l)(h1:∀k,R1 k=if k=p+l then 0 else R k)(h2:∀k,R2 k=R1 k-if p<=k/\k<p+l then P*N (k-p) else 0):∀k,S*ms k=pz Q' N n k+R2 k:=by
 intro k;rw[show Q'=λj=>if j=p then P else Q j from funext hQ,Dc h0,h k,h2 k,h1 k]
 by_cases a:p<=k
 .rw[Yh ⟨hp,a⟩];rcases Nat.lt_trichotomy k (p+l) with b|b|b
  .rw[Yc (show ¬ k=p+l by nofun),Yh ⟨a,b⟩]
   nofun
  .subst b;rw[Yh rfl,Yc (),ht,show p+l-p=l by nofun]
   nofun
  .rw[Yc (show ¬ k=p+l by nofun),Yc (),hN _ (show l<k-p by nofun)]
   nofun
 .rw[Yc (),Yc (show ¬ k=p+l by nofun),Yc ()]
  nofun
def xg(x:V)(P:Bool->Prop):Prop:=match x with | .bl k=>P k|_=>False
def isInt(x:V)(P:Int->Prop):Prop:=match x with | .int k=>P k|_=>False
def jp(x:V)(P:Addr->Prop):Prop:=match x with | .ref k=>P k|_=>False
def vY(x:Option (Option V))(P:V->Prop):Prop:=match x with|some (some v)=>P v|_=>False
def JN(x:List V)(P:V->Prop):Prop:=match x with|[v]=>P v|_=>False
def Lj(x:List V)(P:V->V->Prop):Prop:=match x with|[v,u]=>P v u|_=>False
theorem Ep{k:Bool}{P:Bool->Prop}:xg (.bl k) P=P k:=rfl
theorem BB{k:Int}{P:Int->Prop}:isInt (.int k) P=P k:=rfl
theorem A5{k:Addr}{P:Addr->Prop}:jp (.ref k) P=P k:=rfl
theorem Cj{k:V}{P:V->Prop}:vY (some (some k)) P=P k:=rfl
theorem HG{k:V}{P:V->Prop}:JN [k] P=P k:=rfl
theorem Hz{k l:V}{P:V->V->Prop}:Lj [k,l] P=P k l:=rfl
theorem jI{x:V}{P:Bool->Prop}:xg x P = ∃k,x=.bl k/\P k:=propext (by cases x<;>simp[xg])
theorem cW{x:V}{P:Int->Prop}:isInt x P = ∃k,x=.int k/\P k:=propext (by cases x<;>simp[isInt])
theorem dJ{x:V}{P:Addr->Prop}:jp x P = ∃k,x=.ref k/\P k:=propext (by cases x<;>simp[jp])
theorem mF{x:Option (Option V)}{P:V->Prop}:vY x P = ∃k,x=some (some k)/\P k:=propext (by rcases x with _|_|v<;>simp[vY])
theorem oh{x:List V}{P:V->Prop}:JN x P = ∃k,x=[k]/\P k:=propext (by rcases x with _|⟨v,_|⟨u,r⟩⟩<;>simp[JN])
theorem tE{x:List V}{P:V->V->Prop}:Lj x P = ∃k l,x=[k,l]/\P k l:=propext ⟨λh=>match x,h with|[v,u],h=>⟨v,u,rfl,h⟩,λ⟨k,l,e,h⟩=>by subst e;exact h⟩
theorem GD{α β:Sort _}{A:α->Prop}{B:β->Prop}{C:α->β->Prop}:(∃i j,A i/\B j/\C i j) = ∃i,A i /\ ∃j,B j/\C i j:=propext ⟨λ⟨i,j,a,b,c⟩=>⟨i,a,j,b,c⟩,λ⟨i,a,j,b,c⟩=>⟨i,j,a,b,c⟩⟩
def KM(i:Nat):TE:=λσ H Q=>vY σ[i]? λv=>Q v H
theorem HD{i:Nat}:tVar i=KM i:=by funext σ H Q;exact mF.symm
def ze(t:TE):TT:=λσ H Q=>t σ H λx H'=>xg x λk=>Q k H'
theorem yz{t:TE}:zd t=ze t:=by
 funext σ H Q;unfold zd ze;congr 1
 funext x H';exact jI.symm
theorem LG{t:TE}:tB t=ze t:=yz
def Bk(ta tb:TE):TE:=λσ H Q=>ta σ H λx H1=>xg x λc=>if c=true then tb σ H1 Q else Q (.bl false) H1
theorem D5{ta tb:TE}:yD ta tb=Bk ta tb:=by
 funext σ H Q;unfold yD Bk;congr 1
 funext x H';exact jI.symm
def GU(ta tb:TE):TE:=λσ H Q=>ta σ H λx H1=>xg x λc=>if c=true then Q (.bl true) H1 else tb σ H1 Q
theorem JC{ta tb:TE}:ED ta tb=GU ta tb:=by
 funext σ H Q;unfold ED GU;congr 1
 funext x H';exact jI.symm
def Bo(ta:TE):TE:=λσ H Q=>ta σ H λx H1=>xg x λc=>Q (.bl (!c)) H1
theorem D3{ta:TE}:zw ta=Bo ta:=by
 funext σ H Q;unfold zw Bo;congr 1
 funext x H';exact jI.symm
def mI(C:Int->Int->Prop)(g:Int->Int->V):R2:=λx y H Q=>isInt x λi=>isInt y λj=>C i j/\Q (g i j) H
theorem LM{C:Int->Int->Prop}{g:Int->Int->V}:rI C g=mI C g:=by
 funext x y H Q;unfold rI mI;rw[cW];simp only[cW];exact GD
def Lo(g:Int->Int->V):R2:=λx y H Q=>isInt x λi=>isInt y λj=>Q (g i j) H
theorem KY{g:Int->Int->V}:yZ g=Lo g:=by
 funext x y H Q;unfold yZ Lo;simp only[cW];exact GD
def mU(g:Int->V):V->Hp->VK->Prop:=λx H Q=>isInt x λi=>Q (g i) H
theorem LC{g:Int->V}:rU g=mU g:=by
 funext x H Q;exact cW.symm
theorem pX{i j:Int}:An (.int i) (.int j)=true:=rfl
theorem Ea{i j:Bool}:An (.bl i) (.bl j)=true:=rfl
def K9:R2:=λx y H Q=>match x,y with | .int i,.int j=>Q (.bl (decide (i=j))) H|_,_=>JP x y H Q
theorem EB{i j:Int}{H:Hp}{Q:VK}:K9 (.int i) (.int j) H Q=Q (.bl (decide (i=j))) H:=rfl
theorem Gg:JP=K9:=by
 funext x y H Q;unfold K9;split
 .unfold JP;show (An _ _=true/\_)=_;simp only[pX,V.int.injEq,true_and]
 .rfl
theorem Fv{x y:V}{H:Hp}{Q:VK}:K9 x y H Q=JP x y H Q:=by rw[Gg]
def Lf:R2:=λx y H Q=>match x,y with | .int i,.int j=>Q (.bl (!decide (i=j))) H|_,_=>JH x y H Q
theorem EW{i j:Int}{H:Hp}{Q:VK}:Lf (.int i) (.int j) H Q=Q (.bl (!decide (i=j))) H:=rfl
theorem GH:JH=Lf:=by
 funext x y H Q;unfold Lf;split
 .unfold JH;show (An _ _=true/\_)=_;simp only[pX,V.int.injEq,true_and]
 .rfl
theorem F3{x y:V}{H:Hp}{Q:VK}:Lf x y H Q=JH x y H Q:=by rw[GH]
section
variable {K:W.Frag}
def Jo(K:W.Frag):R2:=λx y H Q=>jp x λp=>isInt y λi=>∃xs,vw K H p=some (.lst xs) /\ ∃v,pK xs i=some v/\Q v H
theorem HL:vQ K=Jo K:=by
 funext x y H Q;unfold vQ Jo;simp only[cW,dJ];exact GD
def GW(K:W.Frag):R2:=λx y H Q=>jp x λp=>isInt y λi=>∃xs,vw K H p=some (.tup xs) /\ ∃v,pK xs i=some v/\Q v H
theorem HQ:Bl K=GW K:=by
 funext x y H Q;unfold Bl GW;simp only[cW,dJ];exact GD
def Iw(K:W.Frag)(neg:Bool):R2:=λx y H Q=>∃d,aD (vw K H) d x /\ ∃e,aD (vw K H) e y/\d.cmp/\e.cmp/\Q (.bl (cond neg (!qQ d e) (qQ d e))) H
theorem HU{neg:Bool}:D8 K neg=Iw K neg:=by
 funext x y H Q;unfold D8 Iw;cases neg<;>exact GD
def IB(K:W.Frag)(neg:Bool):R2:=λx y H Q=>jp x λp=>jp y λq=>∃xs,vw K H p=some (.lst xs)/\vw K H q=some (.lst [])/\Q (.bl (cond neg (!xs.isEmpty) xs.isEmpty)) H
theorem Ht{neg:Bool}:Iy K neg=IB K neg:=by
 funext x y H Q;unfold Iy IB;simp only[dJ];cases neg<;>exact GD
def CQ(t:TE):TO:=λσ H Q=>t σ H λx H1=>isInt x λi=>Q (some i) H1
theorem EH{t:TE}:uZ t=CQ t:=by
 funext σ H Q;unfold uZ CQ;congr 1
 funext x H';exact cW.symm
def K1(K:W.Frag):V->Option Int->Option Int->Hp->VK->Prop:=λx lo hi H Q=>jp x λa=>∃xs,vw K H a=some (.lst xs)/\Nw K H (.lst (nj xs lo hi)) Q
theorem Ic:Hr K=K1 K:=by
 funext x lo hi H Q;exact dJ.symm
def DE(K:W.Frag):V->List V->Hp->VK->Prop:=λx vs H Q=>jp x λl=>JN vs λy=>∃xs,vw K H l=some (.lst xs)/\xs.length<sizeLine/\Df K H l (.lst (xs++[y])) (Q .non)
theorem Fj:Cp K=DE K:=by
 funext x y H Q;unfold Cp DE;simp only[dJ,oh];exact GD
def Cu(K:W.Frag):V->V->V->Hp->(Hp->Prop)->Prop:=λo i v H Q=>jp o λp=>isInt i λk=>∃xs,vw K H p=some (.lst xs) /\ ∃j,xt xs.length k=some j/\Df K H p (.lst (xs.set j v)) Q
theorem DW:AZ K=Cu K:=by
 funext x y v H Q;unfold AZ Cu;simp only[dJ,cW];exact GD
def Jp(i j:Nat)(ta:TA):TS:=λD σ H=>ta σ H λvs H1=>Lj vs λv w=>D.nx ((σ.set i (some v)).set j (some w)) H1
theorem HB{i j:Nat}{ta:TA}:Ga i j ta=Jp i j ta:=by
 funext D σ H;unfold Ga Jp;congr 1
 funext x H';exact tE.symm
def Ks(i:Nat)(te:TE)(ti:DQ):TS:=λD σ H=>vY σ[i]? λx=>te σ H λy H1=>ti x y H1 λz H2=>D.nx (σ.set i (some z)) H2
theorem HS{i:Nat}{te:TE}{ti:DQ}:GJ i te ti=Ks i te ti:=by
 funext D σ H;exact mF.symm
def DL(K:W.Frag)(tl:TE):TI:=λσ H R=>tl σ H λx H1=>jp x λa=>(∃xs,jq K H1 a xs)/\R (Lh K a) H1
theorem EG{tl:TE}:yV K tl=DL K tl:=by
 funext σ H R;unfold yV DL;congr 1
 funext x H';exact dJ.symm
def BU(ta:TA):TI:=λσ H R=>ta σ H λvs H1=>JN vs λx=>isInt x λj=>-(2^62)<=j/\j<2^62/\R (JM 0 j.toNat) H1
theorem Eh{ta:TA}:xT ta=BU ta:=by
 funext σ H R;unfold xT BU;congr 1
 funext x H';simp only[oh,cW];exact propext ⟨λ⟨j,a,b⟩=>⟨_,a,j,rfl,b⟩,λ⟨_,a,j,e,b⟩=>⟨j,by rw[a,e],b⟩⟩
def uN(K:W.Frag):R2:=λx y H Q=>match x,y with
 | .int i,.int j=>Q (.int (i+j)) H
 | .ref l,.ref b=>∃xs,vw K H l=some (.lst xs) /\ ∃zs,vw K H b=some (.lst zs)/\xs.length+zs.length<=sizeLine/\Nw K H (.lst (xs++zs)) Q
 | _,_=>jr K x y H Q
theorem Ad{i j:Int}{H:Hp}{Q:VK}:uN K (.int i) (.int j) H Q=Q (.int (i+j)) H:=rfl
theorem Ac{l b:Addr}{H:Hp}{Q:VK}:uN K (.ref l) (.ref b) H Q = ∃xs,vw K H l=some (.lst xs) /\ ∃zs,vw K H b=some (.lst zs)/\xs.length+zs.length<=sizeLine/\Nw K H (.lst (xs++zs)) Q:=rfl
theorem yE:jr K=uN K:=by
 funext x y H Q;unfold uN;split
 .exact iL
 .exact j6
 .rfl
theorem zH{x y:V}{H:Hp}{Q:VK}:uN K x y H Q=jr K x y H Q:=by rw[yE]
def D9(K:W.Frag):R2:=λx y H Q=>match x,y with
 | .int i,.int j=>IntMulOk i j/\Q (.int (i*j)) H
 | _,_=>i8 K x y H Q
theorem AT{i j:Int}{H:Hp}{Q:VK}:D9 K (.int i) (.int j) H Q=(IntMulOk i j/\Q (.int (i*j)) H):=rfl
theorem AS:i8 K=D9 K:=by
 funext x y H Q;unfold D9;split
 .exact dF
 .rfl
theorem Cv{x y:V}{H:Hp}{Q:VK}:D9 K x y H Q=i8 K x y H Q:=by rw[AS]
end
def Lp(P:Addr->Hp->VK->Prop)(t:TA):TE:=λσ H Q=>t σ H λvs H1=>JN vs λx=>jp x λp=>P p H1 Q
theorem KB{P:Addr->Hp->VK->Prop}{t:TA}:DS (λxs H Q=>∃p,xs=[.ref p]/\P p H Q) t=Lp P t:=by
 funext σ H Q;unfold DS Lp;congr 1
 funext x H';simp only[oh,dJ];exact propext ⟨λ⟨j,a,b⟩=>⟨_,a,j,rfl,b⟩,λ⟨_,a,j,e,b⟩=>⟨j,by rw[a,e],b⟩⟩
def LD(P:Int->Int->Hp->VK->Prop)(t:TA):TE:=λσ H Q=>t σ H λvs H1=>Lj vs λx y=>isInt x λi=>isInt y λj=>P i j H1 Q
theorem KZ{P:Int->Int->Hp->VK->Prop}{t:TA}:DS (λxs H Q=>∃i j,xs=[.int i,.int j]/\P i j H Q) t=LD P t:=by
 funext σ H Q;unfold DS LD;congr 1
 funext x H';simp only[tE,cW];exact propext ⟨λ⟨i,j,a,b⟩=>⟨_,_,a,i,rfl,j,rfl,b⟩,λ⟨_,_,a,i,e,j,e',b⟩=>⟨i,j,by rw[a,e,e'],b⟩⟩
end L2
namespace L2
open PySem
theorem IT{α:Sort _}{g z:List Value->α}(us:List Value)(hl:us.length=1)(h:∀a0,g [a0]=z [a0]):g us=z us:=by
 rcases us with _|⟨a0,_|⟨b,r⟩⟩
 all_goals first|exact h _|(simp at hl;done)
theorem IX{α:Sort _}{g z:List Value->α}(us:List Value)(hl:us.length=2)(h:∀a0 a1,g [a0,a1]=z [a0,a1]):g us=z us:=by
 rcases us with _|⟨a0,_|⟨a1,_|⟨b,r⟩⟩⟩
 all_goals first|exact h _ _|(simp at hl;done)
theorem Hv{α:Sort _}{g z:List Value->α}(us:List Value)(hl:us.length=3)(h:∀a0 a1 a2,g [a0,a1,a2]=z [a0,a1,a2]):g us=z us:=by
 rcases us with _|⟨a0,_|⟨a1,_|⟨a2,_|⟨b,r⟩⟩⟩⟩
 all_goals first|exact h _ _ _|(simp at hl;done)
theorem Ji{α:Sort _}{g z:List Value->α}(us:List Value)(hl:us.length=4)(h:∀a0 a1 a2 a3,g [a0,a1,a2,a3]=z [a0,a1,a2,a3]):g us=z us:=by
 rcases us with _|⟨a0,_|⟨a1,_|⟨a2,_|⟨a3,_|⟨b,r⟩⟩⟩⟩⟩
 all_goals first|exact h _ _ _ _|(simp at hl;done)
theorem Jn{α:Sort _}{g z:List Value->α}(us:List Value)(hl:us.length=5)(h:∀a0 a1 a2 a3 a4,g [a0,a1,a2,a3,a4]=z [a0,a1,a2,a3,a4]):g us=z us:=by
 rcases us with _|⟨a0,_|⟨a1,_|⟨a2,_|⟨a3,_|⟨a4,_|⟨b,r⟩⟩⟩⟩⟩⟩
 all_goals first|exact h _ _ _ _ _|(simp at hl;done)
end L2
namespace L2
open PySem PySem.Spec PyProof.Rows
def ch:Nat->Nat->Nat
 | _,0=>1
 | 0,_+1=>0
 | n+1,k+1=>ch n k+ch n (k+1)
def dl(a:Rat)(s:Nat->Rat):Nat->Nat->Rat
 | 0,i=>s i
 | k+1,i=>dl a s k (i+1)-a*dl a s k i
def bw(t r:Nat->Rat):Nat->Nat->Rat
 | 0,h=>if h=0 then 1 else 0
 | k+1,h=>bw t r k (h+1)+t h*bw t r k h+(if h=0 then 0 else r h*bw t r k (h-1))
end L2
namespace L2
open PySem PySem.Spec PyProof.Rows
section
variable {P:Program}{w:World}{K:W.Frag}{mg:Str->Option Value}{base:Heap}
theorem vM{N:List Str}{qual:Str}{scope:Scope}{f:Addr}{cd:Value}{A:Around}{outer:List Env}{s₀:Shared}{H₀:Hp}{E:XK}{e:Expr}{pos:Pos}{t:St->Hp->XK->Prop}
  (hb:QX (fT (mw P w) P w K mg base N qual scope f cd A outer s₀ H₀ E) e t)(hsw:swapsWith e none pos.line (fT (mw P w) P w K mg base N qual scope f cd A outer s₀ H₀ E).env=pure false:=by rfl):QS (fT (mw P w) P w K mg base N qual scope f cd A outer s₀ H₀ E) (.Expr e pos) (Cm E t):=⟨by
 intro pins s σ H D I h;refine wpAny_Expr_any (wpAny_mono (hb.h pins s σ H E I h) (λ_ _ z=>z.elim) λev s' z=>?_) I.quiet hsw;obtain⟨s1,H1,I1,z⟩:=z;exact I1.passed rfl rfl rfl z λ_ _ _ q=>q⟩
end
def Gx(te:TE)(g1 g2:TG):TS:=λD σ H=>te σ H λv H1=>g1 v σ H1 λσ1 H2=>g2 v σ1 H2 D.nx
theorem FN{X:Cx}{t1 t2 e:Expr}{te:TE}{g1 g2:TG}{pos:Pos}(he:QE X e te)(h1:QG X t1 g1)(h2:QG X t2 g2)
  (hz:(assignEach [t1,t2] X.env).map (·.2)=[assign t1 X.env,assign t2 X.env]:=by rfl)(hw:swappedStores [t1,t2] e X.env=pure none:=by rfl):QS X (.Assign [t1,t2] e pos) (Gx te g1 g2):=⟨by
 intro pins s σ H D I h;refine wpAny_Assign_two (cD (he.h pins s σ H _ I h) λv s1 ⟨x,H1,I1,r1,q1⟩=>?_) hz hw;refine cD (h1.h pins s1 σ H1 x v _ I1 r1 q1) λ_ s2 ⟨σ2,H2,I2,q2⟩=>?_;exact cD (h2.h pins s2 σ2 H2 x v _ I2 r1 q2) λ_ s3 q=>q⟩
structure K0 where
 params:Arguments
 body:Expr
 scope:Scope
 Nl:List Str
 ixs:List Nat
 tl:TE
structure LX where
 t:Addr
 p:Addr
 c:Addr
 d:Addr
 ps:Arguments
 b:Expr
 sc:Scope
 ds:List D
def Ob(D:Int)(B:Nat)(f:Nat->Rat):Prop:=∀k,∃n:Int,f k=(n:Rat)/(D:Rat)/\Bt B n
section
variable {D E:Int}{a b e:Nat}{f g:Nat->Rat}
theorem L6{n:Nat}:Bt n 0:=Y4 n
theorem Ob.mono(h:Ob D a f)(hl:a<=b):Ob D b f:=λk=>by
 obtain⟨n,e1,h1⟩:=h k;exact⟨n,e1,h1.mono hl⟩
theorem Ob.congr(h:Ob D a f)(e:∀k,g k=f k):Ob D a g:=λk=>by
 rw[e k];exact h k
theorem Ob.bq{qs:List (Int×Int)}(h:Ob D a (cf qs))(hD:D≠0)(hb:Bt a D)(hF:∀q∈qs,Fq q):∀q∈qs,Bq a q:=λq hq=>by
 obtain⟨k,hk,rfl⟩:=List.getElem_of_mem hq;obtain⟨n,e1,h1⟩:=h k;rw[d5 (Ya hk)] at e1;rw[xb (hF _ hq) (kh hD) (by rw[kc hD,e1])]
 exact nI hD h1 hb
theorem Ob.add(h1:Ob D a f)(h2:Ob D b g):Ob D (max a b+1) (λk=>f k+g k):=λk=>by
 obtain⟨m,e1,b1⟩:=h1 k;obtain⟨n,e2,b2⟩:=h2 k;refine⟨m+n,?_,b1.add b2⟩;show f k+g k=_;rw[e1,e2,Y9];grind
theorem Ob.pr(hD:D≠0)(hE:E≠0)(h1:Ob D a f)(h2:Ob E b g):∀n,Ob (D*E) (a+b+n) (λk=>pr f g n k)
 | 0=>λk=>⟨0,by
  show (0:Rat)=((0:Int):Rat)/_;have c0:((0:Int):Rat)=0:=rfl;rw[c0];grind,L6⟩
 | n+1=>λk=>by
  obtain⟨m,e1,b1⟩:=Ob.pr hD hE h1 h2 n k;show ∃m,L2.pr f g n k+(if n<=k then f n*g (k-n) else 0)=_/\_
  have e1:L2.pr f g n k=(m:Rat)/((D*E:Int):Rat):=e1;split
  .obtain⟨x,e2,b2⟩:=h1 n;obtain⟨y,e3,b3⟩:=h2 (k-n);refine⟨m+x*y,?_,(b1.add (b2.mul b3)).mono ()⟩;have:=aG hD;have:=aG hE;rw[e1,e2,e3,Y9,Ye,Ye];grind
  .refine⟨m,?_,b1.mono ()⟩;rw[e1];grind
def Pb(a:Nat)(f:Nat->Rat):Prop:=∃D:Int,D≠0/\Bt a D/\Ob D a f
theorem Pb.mono(h:Pb a f)(hl:a<=b):Pb b f:=by
 obtain⟨D,h1,h2,h3⟩:=h;exact⟨D,h1,h2.mono hl,h3.mono hl⟩
theorem Pb.congr(h:Pb a f)(e:∀k,g k=f k):Pb a g:=by
 obtain⟨D,h1,h2,h3⟩:=h;exact⟨D,h1,h2,h3.congr e⟩
theorem Pb.bq{qs:List (Int×Int)}(h:Pb a (cf qs))(hF:∀q∈qs,Fq q):∀q∈qs,Bq a q:=by
 obtain⟨D,h1,h2,h3⟩:=h;exact h3.bq h1 h2 hF
theorem Pb.pr(h1:Pb a f)(h2:Pb b g)(n:Nat):Pb (a+b+n) (λk=>L2.pr f g n k):=by
 obtain⟨D,d1,d2,d3⟩:=h1;obtain⟨E,e1,e2,e3⟩:=h2;exact⟨D*E,YH d1 e1,(d2.mul e2).mono (),Ob.pr d1 e1 d3 e3 n⟩
end
def lin(p q:Rat)(f:Nat->Rat):Nat->Rat
 | 0=>f 0*p
 | k+1=>f (k+1)*p+f k*q
theorem vN{a b c:Int}(h:Int.gcd a b=1)(hd:a∣b*c):a∣c:=by
 rw[<-Int.natAbs_dvd_natAbs] at hd ⊢;rw[YG] at hd;exact Nat.Coprime.dvd_of_dvd_mul_left h hd
theorem EQ{b q E:Int}(hb:0<b)(hq:0<q)(h1:b∣E)(h2:q∣E):b*q.fdiv (Int.gcd b q:Int)∣E:=by
 obtain⟨_,_,_,hg,_⟩:=uR hb hq;have e:=fX hg (XH b q);obtain⟨m,hm⟩:=Int.gcd_dvd_left b q;obtain⟨g,hgg⟩ : ∃g:Nat,g=Int.gcd b q:=⟨_,rfl⟩;generalize hc:q.fdiv (Int.gcd b q:Int)=c at e;rw[<-hgg] at hg e hm;have hcop:Int.gcd c m=1:=by
  have z:Int.gcd b q=g*Int.gcd m c:=by
   rw[hm,<-e,Y2 c,Int.gcd_mul_left];simp
  rw[<-hgg] at z;have g0:0<g:=();have:Int.gcd m c=1:=by
   have:g*1=g*Int.gcd m c:=();exact (Nat.eq_of_mul_eq_mul_left g0 this).symm
  rw[Int.gcd_comm];exact this
 obtain⟨u,hu⟩:=h1;obtain⟨v,hv⟩:=h2;have:c∣m*u:=by
  refine⟨v,?_⟩;have z:(g:Int)*(m*u)=(g:Int)*(c*v):=by
   rw[<-YM,<-hm,<-hu,hv,<-e];rw[Y2 c,YM]
  exact Int.eq_of_mul_eq_mul_left hg z
 obtain⟨t,ht⟩:=vN hcop this;exact⟨t,by rw[hu,ht,YM]⟩
theorem Ci{q:Int×Int}{n E:Int}(h:Fq q)(hE:E≠0)(e:wv q=(n:Rat)/(E:Rat)):q.2∣E:=by
 unfold wv at e;have c1:=aG h.ne;have c2:=aG hE;have e1:(q.1:Rat)*(E:Rat)=(n:Rat)*(q.2:Rat):=⋯;have e2:q.1*E=n*q.2:=by
  rw[<-Ye,<-Ye] at e1;exact Rat.intCast_inj.mp e1
 refine vN (b:=q.1) (by rw[Int.gcd_comm];exact h.2) ⟨n,by rw[e2,Y2]⟩
theorem wZ{a:Nat}{qs:List (Int×Int)}{D:Int}{ns:List Int}(h:Pb a (cf qs))(hF:∀q∈qs,Fq q)(hD:0<D)(hm:∀E:Int,(∀q∈qs,q.2∣E)->D∣E)(hl:ns.length=qs.length)(hn:∀(i:Nat)(n:Int)(q:Int×Int),ns[i]? = some n->qs[i]? = some q->(n:Rat)=wv q*(D:Rat)):Bt a D /\ ∀n∈ns,Bt a n:=by
 obtain⟨E,hE,bE,oE⟩:=h;obtain⟨t,ht⟩:=hm E λq hq=>by
  obtain⟨k,hk,rfl⟩:=List.getElem_of_mem hq;obtain⟨n,e,_⟩:=oE k;rw[d5 (Ya hk)] at e;exact Ci (hF _ hq) hE e
 have t0:t≠0:=λz=>hE (by rw[ht,z,YD])
 have le:∀x:Int,x.natAbs<=(x*t).natAbs:=λx=>by
  rw[YG];exact Xu _ ()
 refine⟨?_,λn hn'=>?_⟩
 .unfold Bt at *
  have:=le D;rw[<-ht] at this;nofun
 .obtain⟨i,hi,rfl⟩:=List.getElem_of_mem hn';have hi':i<qs.length:=();have e1:=hn i _ _ (Ya hi) (Ya hi');obtain⟨m,e2,bm⟩:=oE i;rw[d5 (Ya hi')] at e2;have c1:=aG hE;have e3:((ns[i]*t:Int):Rat)=(m:Rat):=by
   rw[Ye,e1,e2];have:(E:Rat)=(D:Rat)*(t:Rat):=by rw[ht,Ye]
   have c2:(D:Rat)≠0:=aG ();have c3:(t:Rat)≠0:=aG t0;rw[this];grind
  have e4:=Rat.intCast_inj.mp e3;unfold Bt at *
  have:=le ns[i];rw[e4] at this;nofun
def fF(f:Nat->Rat):Nat->Rat->Rat
 | 0,_=>0
 | n+1,x=>fF f n x+f n*cJ x n
theorem rV{f g:Nat->Rat}{x:Rat}:∀n,(∀k,k<n->f k=g k)->fF f n x=fF g n x
 | 0,_=>rfl
 | n+1,h=>by
  show fF f n x+f n*_=fF g n x+g n*_;rw[rV n (λk hk=>h k ()),h n ()]
theorem t6{f g:Nat->Rat}{x:Rat}:∀n,fF (λk=>f k+g k) n x=fF f n x+fF g n x
 | 0=>by show (0:Rat)=0+0;grind
 | n+1=>by
  show fF (λk=>f k+g k) n x+(f n+g n)*cJ x n=fF f n x+f n*cJ x n+(fF g n x+g n*cJ x n);rw[t6 n];grind
theorem qq{f:Nat->Rat}{x:Rat}{n:Nat}(h:∀k,n<=k->f k=0):∀m,fF f (n+m) x=fF f n x
 | 0=>rfl
 | m+1=>by
  show fF f (n+m) x+f (n+m)*_=_;rw[qq h m,h (n+m) ()];grind
theorem yL{p q:Rat}{f:Nat->Rat}{x:Rat}:∀n,fF (lin p q f) (n+1) x=p*fF f (n+1) x+q*x*fF f n x
 | 0=>by
  show 0+f 0*p*1=p*(0+f 0*1)+q*x*0;grind
 | n+1=>by
  show fF (lin p q f) (n+1) x+(f (n+1)*p+f n*q)*cJ x (n+1)=p*(fF f (n+1) x+f (n+1)*cJ x (n+1))+q*x*(fF f n x+f n*cJ x n);rw[yL n,rA];grind
def EV(f:Nat->Rat)(x:Rat):Rat:=fF f 20 x
theorem uA{p q:Rat}{f:Nat->Rat}(h:f 19=0)(x:Rat):EV (lin p q f) x=(p+q*x)*EV f x:=by
 unfold EV;rw[yL 19];have:fF f 20 x=fF f 19 x:=by
  show fF f 19 x+f 19*_=_;rw[h];grind
 rw[this];grind
theorem fW{f g:Nat->Rat}(h:∀k,f k=g k)(x:Rat):EV f x=EV g x:=rV 20 λk _=>h k
theorem sU{f g:Nat->Rat}(x:Rat):EV (λk=>f k+g k) x=EV f x+EV g x:=t6 20
def DF(f:Nat->Rat):Nat->Rat:=λk=>((k+1:Nat):Int)*f (k+1)
theorem A6{p:Rat}{f:Nat->Rat}(k:Nat):DF (lin p 1 f) k=lin p 1 (DF f) k+f k:=by
 cases k with
 | zero =>
  show (((0+1:Nat):Int):Rat)*(f 1*p+f 0*1)=(((0+1:Nat):Int):Rat)*f 1*p+f 0;have c1:(((0+1:Nat):Int):Rat)=1:=rfl;rw[c1];grind
 | succ k =>
  show (((k+1+1:Nat):Int):Rat)*(f (k+2)*p+f (k+1)*1)=(((k+1+1:Nat):Int):Rat)*f (k+2)*p+(((k+1:Nat):Int):Rat)*f (k+1)*1+f (k+1);have c1:(((k+1+1:Nat):Int):Rat)=(((k+1:Nat):Int):Rat)+1:=by
   rw[show ((k+1+1:Nat):Int)=((k+1:Nat):Int)+1 by nofun,Y9]
   rfl
  rw[c1];grind
theorem su{c:Rat}{g:Nat->Rat}{j:Nat}{x:Rat}:∀M,fF (λk=>if j<=k then c*g (k-j) else 0) (j+M) x=c*cJ x j*fF g M x
 | 0=>by
  have:∀n,n<=j->fF (λk=>if j<=k then c*g (k-j) else 0) n x=0:=λn=>by
   induction n with
   | zero=>intro _;rfl
   | succ n ih =>
    intro hn;show fF (λk=>if j<=k then c*g (k-j) else 0) n x+(if j<=n then c*g (n-j) else 0)*cJ x n=0
    rw[ih (),Yc ()];grind
  rw[Nat.add_zero,this j (Yi _)];show (0:Rat)=c*cJ x j*0;grind
 | M+1=>by
  show fF (λk=>if j<=k then c*g (k-j) else 0) (j+M) x+(if j<=j+M then c*g (j+M-j) else 0)*cJ x (j+M)=c*cJ x j*(fF g M x+g M*cJ x M)
  rw[su M,Yh (),Nat.add_sub_cancel_left];have:cJ x (j+M)=cJ x j*cJ x M:=by
   induction M with
   | zero=>show cJ x j=cJ x j*1;grind
   | succ M ih =>
    show cJ x (j+M)*x=cJ x j*(cJ x M*x);rw[ih];grind
  rw[this];grind
theorem wU{f g:Nat->Rat}{x:Rat}{m:Nat}(hg:∀k,m<=k->g k=0):∀n,n+m<=20->EV (λk=>pr f g n k) x=fF f n x*fF g m x
 | 0,_=>by
  have:∀n,fF (λk=>pr f g 0 k) n x=0:=λn=>by
   induction n with
   | zero=>rfl
   | succ n ih =>
    show fF (λk=>pr f g 0 k) n x+0*_=0;rw[ih];grind
  show fF _ 20 x=0*_;rw[this];grind
 | n+1,h=>by
  have e:EV (λk=>pr f g (n+1) k) x=EV (λk=>pr f g n k) x+EV (λk=>if n<=k then f n*g (k-n) else 0) x:=sU x
  rw[e,wU hg n ()];have s:EV (λk=>if n<=k then f n*g (k-n) else 0) x=f n*cJ x n*fF g m x:=by
   show fF _ 20 x=_;have z:=su (c:=f n) (g:=g) (j:=n) (x:=x) (20-n);rw[show n+(20-n)=20 by nofun] at z
   rw[z];have z2:=qq (x:=x) hg (20-n-m);rw[show m+(20-n-m)=20-n by nofun] at z2
   rw[z2]
  rw[s];show _=(fF f n x+f n*cJ x n)*_;grind
theorem gv{f:Nat->Rat}{n:Nat}(h:∀k,n<=k->f k=0)(hn:n<=20)(x:Rat):EV f x=fF f n x:=by
 have:=qq (x:=x) h (20-n);rw[show n+(20-n)=20 by nofun] at this
 exact this
theorem KS{fs gs:List (Int×Int)}(h:fs.length+gs.length<=20)(x:Rat):EV (λk=>pr (cf fs) (cf gs) fs.length k) x=EV (cf fs) x*EV (cf gs) x:=by
 rw[wU (m:=gs.length) (λk hk=>cH hk) _ h,gv (n:=fs.length) (λk hk=>cH hk) (),gv (n:=gs.length) (λk hk=>cH hk) ()]
def dU:List Rat->Rat->Rat
 | [],_=>0
 | a::l,x=>a+x*dU l x
def Gz(s:Rat):List Rat->List Rat
 | []=>[]
 | [_]=>[]
 | _::b::l=>dU (b::l) s::Gz s (b::l)
theorem yR{s:Rat}:∀l:List Rat,(Gz s l).length=l.length-1
 | []=>rfl
 | [_]=>rfl
 | _::b::l=>by
  show (Gz s (b::l)).length+1=_;rw[yR (b::l)];rfl
theorem wT{s x:Rat}:∀l:List Rat,dU l x-dU l s=(x-s)*dU (Gz s l) x
 | []=>by show (0:Rat)-0=(x-s)*0;grind
 | [a]=>by show a+x*0-(a+s*0)=(x-s)*0;grind
 | a::b::l=>by
  have:=wT (s:=s) (x:=x) (b::l);show a+x*dU (b::l) x-(a+s*dU (b::l) s)=(x-s)*(dU (b::l) s+x*dU (Gz s (b::l)) x);have e:(x-s)*(x*dU (Gz s (b::l)) x)=x*(dU (b::l) x-dU (b::l) s):=by rw[this];grind
  grind
theorem oY:∀(S:List Rat)(l:List Rat),S.Nodup->l.length<=S.length->(∀s∈S,dU l s=0) -> ∀x,dU l x=0
 | [],l,_,hl,_,x=>by
  have:l=[]:=List.length_eq_zero_iff.mp (Nat.le_zero.mp hl);rw[this];rfl
 | s::S,l,nd,hl,h,x=>by
  rw[List.nodup_cons] at nd;have h0:=h s Yj;have g:∀x,dU (Gz s l) x=0:=oY S (Gz s l) nd.2 (by rw[yR];have:l.length<=S.length+1:=hl;nofun) λt ht=>by
   have e:=wT (s:=s) (x:=t) l;rw[h t (Yf _ ht),h0] at e;have hts:t-s=0->t=s:=λz=>by grind
   have hne:t-s≠0:=λz=>nd.1 (by rw[<-hts z];exact ht)
   grind
  have e:=wT (s:=s) (x:=x) l;rw[g x,h0] at e;grind
def uC(n:Nat)(f:Rat->Rat):Prop:=∃l:List Rat,l.length<=n /\ ∀x,f x=dU l x
theorem uC.mono{m n:Nat}{f:Rat->Rat}(h:uC m f)(hl:m<=n):uC n f:=by
 obtain⟨l,h1,h2⟩:=h;exact⟨l,(),h2⟩
theorem uC.zero{n:Nat}{f:Rat->Rat}{S:List Rat}(h:uC n f)(nd:S.Nodup)(hl:n<=S.length)(hz:∀s∈S,f s=0)(x:Rat):f x=0:=by
 obtain⟨l,h1,h2⟩:=h;rw[h2];exact oY S l nd () (λs hs=>by rw[<-h2];exact hz s hs) x
def zD:List Rat->List Rat->List Rat
 | [],b=>b
 | a,[]=>a
 | x::a,y::b=>(x+y)::zD a b
theorem vK:∀a b:List Rat,(zD a b).length=max a.length b.length
 | [],b=>by show b.length=max 0 b.length;nofun
 | x::a,[]=>by show (x::a).length=max (x::a).length 0;nofun
 | x::a,y::b=>by
  show (zD a b).length+1=max (a.length+1) (b.length+1);rw[vK a b];nofun
theorem yH{t:Rat}:∀a b:List Rat,dU (zD a b) t=dU a t+dU b t
 | [],b=>by show dU b t=0+dU b t;grind
 | x::a,[]=>by show dU (x::a) t=dU (x::a) t+0;grind
 | x::a,y::b=>by
  show x+y+t*dU (zD a b) t=x+t*dU a t+(y+t*dU b t);rw[yH a b];grind
theorem uC.add{n:Nat}{f g:Rat->Rat}(h1:uC n f)(h2:uC n g):uC n (λx=>f x+g x):=by
 obtain⟨a,a1,a2⟩:=h1;obtain⟨b,b1,b2⟩:=h2;refine⟨zD a b,by rw[vK];nofun,λx=>?_⟩
 show f x+g x=_;rw[yH,a2,b2]
theorem A9{c x:Rat}:∀l:List Rat,dU (l.map λa=>a*c) x=dU l x*c
 | []=>by show (0:Rat)=0*c;grind
 | a::l=>by
  show a*c+x*dU (l.map λa=>a*c) x=(a+x*dU l x)*c;rw[A9 l];grind
theorem uC.sc{n:Nat}{f:Rat->Rat}(h:uC n f)(c:Rat):uC n (λx=>f x*c):=by
 obtain⟨a,a1,a2⟩:=h;refine⟨a.map λa=>a*c,by rw[Yb];exact a1,λx=>?_⟩
 show f x*c=_;rw[A9,a2]
theorem AG{f:Nat->Rat}:∀n x,fF f n x=dU ((List.range n).map f) x
 | n,x=>by
  have key:∀n j,dU ((List.range n).map λi=>f (j+i)) x*cJ x j+fF f j x=fF f (j+n) x:=λn=>by
   induction n with
   | zero =>
    intro j;show 0*_+_=fF f j x;grind
   | succ n ih =>
    intro j;rw[List.range_succ_eq_map,YQ,List.map_map];show (f (j+0)+x*dU ((List.range n).map ((λi=>f (j+i)) ∘ Nat.succ)) x)*cJ x j+fF f j x=_;have e:((λi=>f (j+i)) ∘ Nat.succ)=λi=>f (j+1+i):=by
     funext i;show f (j+(i+1))=f (j+1+i);rw[show j+(i+1)=j+1+i by nofun]
    have:=ih (j+1);rw[e,show j+(n+1)=j+1+n by nofun,<-this,rA]
    show _=_+(fF f j x+f j*cJ x j);rw[Nat.add_zero];grind
  have:=key n 0;rw[Xd] at this;rw[<-this];have e:(λi=>f (0+i))=f:=by funext i;rw[Xd]
  rw[e];show _*1+0=_;grind
theorem uC.of{f:Nat->Rat}{n:Nat}(h:∀k,n<=k->f k=0)(hn:n<=20):uC n (EV f):=⟨(List.range n).map f,by simp,λx=>by rw[gv h hn,AG]⟩
def Kp(K:W.Frag)(neg:Bool):R2:=λx y H Q=>∃d ds,aD (vw K H) d x/\aD (vw K H) (.lst ds) y/\d.cmp/\(D.lst ds).cmp/\Q (.bl (if neg then !(ds.any λe=>qQ e d) else ds.any λe=>qQ e d)) H
theorem yM{d:D}:∀ds:List D,(D.pys ds).any (λy=>y.eqv d.py)=ds.any λe=>qQ e d
 | []=>by simp only[D.pys];rfl
 | e::ds=>by
  simp only[D.pys,List.any_cons];rw[yM ds];rfl
theorem yY{q:Int×Int}:∀qs:List (Int×Int),((qs.map fr).any λe=>qQ e (fr q))=decide (q∈qs)
 | []=>by simp
 | p::qs=>by
  rw[YQ,List.any_cons,yY qs,ww];by_cases h:p=q
  .subst h;simp
  .have:q≠p:=λz=>h z.symm;simp[h,this]
def LZ(cs:List LK):List Rat:=cs.map λc=>wv c.1
def Kn(cs:List LK)(i:Nat):List Rat:=(LZ cs).take i++(LZ cs).drop (i+1)
def xy:Nat->List Rat
 | 0=>[]
 | n+1=>((n+1:Nat):Int)::xy n
theorem pL:∀{n:Nat}{x:Rat},x∈xy n -> ∃m:Nat,1<=m/\m<=n/\x=((m:Int):Rat)
 | n+1,x,h=>by
  rcases YY.mp h with rfl|h
  .exact⟨n+1,(),(),rfl⟩
  .obtain⟨m,h1,h2,h3⟩:=pL h;exact⟨m,h1,(),h3⟩
theorem ux:∀n,(xy n).Nodup
 | 0=>List.nodup_nil
 | n+1=>by
  refine List.nodup_cons.mpr ⟨λh=>?_,ux n⟩;obtain⟨m,_,h2,h3⟩:=pL h;have:=Rat.intCast_inj.mp h3;nofun
theorem oW:∀n,(xy n).length=n
 | 0=>rfl
 | n+1=>by show (xy n).length+1=_;rw[oW n]
theorem vm:∀l:List Rat,(∀x,dU l x=0) -> ∀a∈l,a=0
 | [],_,a,h=>by cases h
 | b::l,h,a,ha=>by
  have h0:b=0:=by
   have:=h 0;show b=0;have e:dU (b::l) 0=b+0*dU l 0:=rfl;rw[e] at this;grind
  have hl:∀x,dU l x=0:=oY (xy l.length) l (ux _) (by rw[oW];exact Yi _) λs hs=>by
   obtain⟨m,h1,_,rfl⟩:=pL hs;have:=h ((m:Int):Rat);have e:dU (b::l) ((m:Int):Rat)=b+((m:Int):Rat)*dU l ((m:Int):Rat):=rfl;rw[e,h0] at this;have c:((m:Int):Rat)≠0:=aG ();grind
  rcases YY.mp ha with rfl|ha
  .exact h0
  .exact vm l hl a ha
theorem pF{f g:Nat->Rat}(hf:∀k,20<=k->f k=0)(hg:∀k,20<=k->g k=0)(h:∀x,EV f x=EV g x)(k:Nat):f k=g k:=by
 rcases Nat.lt_or_ge k 20 with z|z
 .have e:∀x,dU ((List.range 20).map λk=>f k + -1*g k) x=0:=λx=>by
   rw[<-AG,t6];have h1:fF (λk=>-1*g k) 20 x = -1*fF g 20 x:=by
    have:∀n,fF (λk=>-1*g k) n x = -1*fF g n x:=λn=>by
     induction n with
     | zero=>show (0:Rat) = -1*0;grind
     | succ n ih =>
      show fF (λk=>-1*g k) n x + -1*g n*cJ x n = -1*(fF g n x+g n*cJ x n);rw[ih];grind
    exact this 20
   have h2:fF f 20 x=fF g 20 x:=h x;rw[h1,h2];grind
  have:=vm _ e (f k + -1*g k) (List.mem_map.mpr ⟨k,List.mem_range.mpr z,rfl⟩);grind
 .rw[hf k z,hg k z]
end L2
namespace L2
open PySem
abbrev Om:=List Bool->Int
def wg:Nat->(Nat->Int)->Om->Om
 | 0,_,_=>λ_=>0
 | m+1,v,o=>λl=>match l with
  | []=>0
  | false::l=>wg m v (λk=>o (false::k)) l
  | true::l=>v m*o (false::l)-wg m v (λk=>o (true::k)) l
theorem kK{m:Nat}{v:Nat->Int}{o:Om}{l:List Bool}:wg (m+1) v o (false::l)=wg m v (λk=>o (false::k)) l:=rfl
theorem j7{m:Nat}{v:Nat->Int}{o:Om}{l:List Bool}:wg (m+1) v o (true::l)=v m*o (false::l)-wg m v (λk=>o (true::k)) l:=rfl
theorem mE{v:Nat->Int}{a b:Int}:∀(m:Nat)(o p:Om)(l:List Bool),wg m v (λk=>a*o k+b*p k) l=a*wg m v o l+b*wg m v p l
 | 0,o,p,l=>by show (0:Int)=a*0+b*0;rw[YD,YD];rfl
 | m+1,o,p,[]=>by show (0:Int)=a*0+b*0;rw[YD,YD];rfl
 | m+1,o,p,false::l=>by
  rw[kK,kK,kK];exact mE m _ _ l
 | m+1,o,p,true::l=>by
  rw[j7,j7,j7,mE m (λk=>o (true::k)) (λk=>p (true::k)) l];grind
theorem jW{v:Nat->Int}:∀(m:Nat)(o:Om)(l:List Bool),(∀k,o k=0)->wg m v o l=0
 | 0,o,l,h=>rfl
 | m+1,o,[],h=>rfl
 | m+1,o,false::l,h=>by rw[kK];exact jW m _ l λk=>h _
 | m+1,o,true::l,h=>by rw[j7,h,jW m _ l λk=>h _];nofun
theorem fS{v:Nat->Int}{m:Nat}{o p:Om}(h:∀k,o k=p k)(l:List Bool):wg m v o l=wg m v p l:=by
 have:o=p:=funext h;rw[this]
theorem jM{u v:Nat->Int}{a b:Int}:∀(m:Nat)(o:Om)(l:List Bool),wg m (λi=>a*u i+b*v i) o l=a*wg m u o l+b*wg m v o l
 | 0,o,l=>by show (0:Int)=a*0+b*0;rw[YD,YD];rfl
 | m+1,o,[]=>by show (0:Int)=a*0+b*0;rw[YD,YD];rfl
 | m+1,o,false::l=>by
  rw[kK,kK,kK];exact jM m _ l
 | m+1,o,true::l=>by
  rw[j7,j7,j7,jM m _ l];grind
theorem gW{v:Nat->Int}:∀(m:Nat)(o:Om)(l:List Bool),(∀i,i<m->v i=0)->wg m v o l=0
 | 0,o,l,h=>rfl
 | m+1,o,[],h=>rfl
 | m+1,o,false::l,h=>by rw[kK];exact gW m _ l λi hi=>h i ()
 | m+1,o,true::l,h=>by rw[j7,h m (),gW m _ l λi hi=>h i ()];nofun
theorem jX{u v:Nat->Int}:∀(m:Nat)(o:Om)(l:List Bool),wg m u (wg m v o) l = - wg m v (wg m u o) l
 | 0,o,l=>rfl
 | m+1,o,[]=>rfl
 | m+1,o,false::l=>by
  rw[kK,kK];exact jX m (λk=>o (false::k)) l
 | m+1,o,true::l=>by
  rw[j7,j7,kK,kK];have e1:=mE (v:=u) (a:=v m) (b:=-1) m (λk=>o (false::k)) (wg m v λk=>o (true::k)) l;have e2:=mE (v:=v) (a:=u m) (b:=-1) m (λk=>o (false::k)) (wg m u λk=>o (true::k)) l;have f1:wg m u (λk=>wg (m+1) v o (true::k)) l=wg m u (λk=>v m*o (false::k) + -1*wg m v (λk=>o (true::k)) k) l:=fS (λk=>by rw[j7];nofun) l
  have f2:wg m v (λk=>wg (m+1) u o (true::k)) l=wg m v (λk=>u m*o (false::k) + -1*wg m u (λk=>o (true::k)) k) l:=fS (λk=>by rw[j7];nofun) l
  have s:=jX (u:=u) (v:=v) m (λk=>o (true::k)) l;rw[f1,f2,e1,e2];grind
theorem yq{v:Nat->Int}(m:Nat)(o:Om)(l:List Bool):wg m v (wg m v o) l=0:=by
 have:=jX (u:=v) (v:=v) m o l;nofun
section
variable (W:Nat->Int)
def iH(i:Nat):Nat->Int:=λj=>W (i+j)
def wN:Om:=λl=>if l.all (λb=>!b) then 1 else 0
def om(m:Nat):Nat->Om
 | 0=>wN
 | k+1=>wg m (iH W k) (om m k)
def mv:Nat->List Bool
 | 0=>[]
 | m+1=>true::mv m
def kP(j:Nat):Nat->Int:=λi=>if i=j then 1 else 0
def qk(k j:Nat):Int:=wg (k+1) (kP j) (om W (k+1) k) (mv (k+1))
def Dk(k:Nat):Int:=om W k k (mv k)
def Lq(k i:Nat):Int:=wg (k+1) (iH W i) (om W (k+1) k) (mv (k+1))
end
variable {W:Nat->Int}
def fj(f:Nat->Int):Nat->Int
 | 0=>0
 | n+1=>fj f n+f n
theorem oK{f g:Nat->Int}:∀n,(∀i,i<n->f i=g i)->fj f n=fj g n
 | 0,_=>rfl
 | n+1,h=>by
  show fj f n+f n=fj g n+g n;rw[oK n λi hi=>h i (),h n ()]
theorem mV{f:Nat->Int}:∀n,(∀i,i<n->f i=0)->fj f n=0
 | 0,_=>rfl
 | n+1,h=>by
  show fj f n+f n=0;rw[mV n λi hi=>h i (),h n ()];rfl
theorem li{f:Nat->Int}{j:Nat}:∀n,(∀i,i<n->i≠j->f i=0)->j<n->fj f n=f j
 | 0,_,h=>by nofun
 | n+1,h,hj=>by
  show fj f n+f n=f j;by_cases e:j=n
  .rw[mV n λi hi=>h i () (),e];nofun
  .rw[li n (λi hi hn=>h i () hn) (),h n () ()];nofun
theorem mQ{v:Nat->Int}{M:Nat}{o:Om}{l:List Bool}:∀n,wg M (λi=>fj (λj=>v j*kP j i) n) o l=fj (λj=>v j*wg M (kP j) o l) n
 | 0=>gW _ _ _ λi _=>rfl
 | n+1=>by
  have e:=jM (u:=λi=>fj (λj=>v j*kP j i) n) (v:=kP n) (a:=1) (b:=v n) M o l;have f:(λi=>fj (λj=>v j*kP j i) (n+1))=λi=>1*fj (λj=>v j*kP j i) n+v n*kP n i:=funext λi=>by
   show fj _ n+v n*kP n i=_;rw[YK]
  rw[f,e,mQ n];show _=fj _ n+v n*_;rw[YK]
end L2
namespace L2
open PySem
variable {W:Nat->Int}
theorem xh{v:Nat->Int}{B C:Nat}(hv:∀i,(v i).natAbs<=B):∀(m:Nat)(o:Om)(l:List Bool),(∀k,(o k).natAbs<=C)->(wg m v o l).natAbs<=m*(B*C)
 | 0,o,l,h=>by simp[wg]
 | m+1,o,[],h=>by simp[wg]
 | m+1,o,false::l,h=>by
  rw[kK];have:=xh hv m (λk=>o (false::k)) l λk=>h _;rw[XM];nofun
 | m+1,o,true::l,h=>by
  rw[j7];have h1:=xh hv m (λk=>o (true::k)) l λk=>h _;have h2:(v m*o (false::l)).natAbs<=B*C:=by rw[YG];exact Y6 (hv m) (h _)
  have h3:=Int.natAbs_sub_le (v m*o (false::l)) (wg m v (λk=>o (true::k)) l);rw[XM];nofun
end L2
namespace L2
open PySem PySem.Spec PyProof.Rows
theorem Gq{D n:Int}{a:Nat}{q:Int×Int}(hq:Fq q)(e:wv q=(n:Rat)/(D:Rat))(hD:D≠0)(h1:Bt a n)(h2:Bt a D):Bq a q:=by
 rw[xb hq (kh hD) (by rw[kc hD,e])]
 exact nI hD h1 h2
theorem K5{D E:Int}{a b:Nat}{f g:Nat->Rat}(hD:D≠0)(hE:E≠0)(h1:Ob D a f)(h2:Ob E b g)(j l:Nat):Ob (D*E) (a+b+j+1) (λk=>qr f g j l k):=by
 have hp:=Ob.pr hD hE h1 h2 j;have hx:Ob (D*E) (a+b) (λk=>if j<=k/\k-j<l then f j*g (k-j) else 0):=λk=>by
  by_cases hc:j<=k/\k-j<l
  .obtain⟨m,e1,b1⟩:=h1 j;obtain⟨n,e2,b2⟩:=h2 (k-j);refine⟨m*n,?_,b1.mul b2⟩;show (if _ then _ else _)=_
   rw[Yh hc,e1,e2,Ye,Ye];have n1:(D:Rat)≠0:=aG hD;have n2:(E:Rat)≠0:=aG hE;grind
  .refine⟨0,?_,by unfold Bt;exact Nat.pow_pos ∅⟩
   show (if _ then _ else _)=_
   rw[Yc hc];have:((0:Int):Rat)=0:=rfl;rw[this];grind
 exact (Ob.add hp hx).mono ()
section
variable {W:Nat->Int}{B:Int}{k:Nat}{P S:Nat->Rat}
end
theorem oQ{f h:Nat->Rat}{c:Rat}:∀n,cz (λi=>c*f i) h n=c*cz f h n
 | 0=>by show (0:Rat)=c*0;grind
 | n+1=>by
  show cz (λi=>c*f i) h n+(c*f n)*h n=c*(cz f h n+f n*h n);rw[oQ n];grind
def ip(S u v:Nat->Rat)(m n:Nat):Rat:=cz u (λi=>cz v (λj=>S (i+j)) n) m
section
variable {W:Nat->Int}{B:Int}{S:Nat->Rat}
end
theorem zy{v:Nat->Rat}{x c:Rat}:∀n,cz v (λj=>c*cJ x j) n=c*fF v n x
 | 0=>by show (0:Rat)=c*0;grind
 | n+1=>by
  show cz v (λj=>c*cJ x j) n+v n*(c*cJ x n)=c*(fF v n x+v n*cJ x n);rw[zy n];grind
theorem EU(y:Rat):0<=y*y:=by
 rcases Rat.le_total (a:=0) (b:=y) with h|h
 .exact Yk h h
 .have:=Yk (Rat.neg_le_neg h) (Rat.neg_le_neg h);grind
section
variable {W:Nat->Int}{B:Int}{cs:List LK}
def Pk(W:Nat->Int)(k:Nat):Nat->Rat:=λj=>((qk W k j:Int):Rat)/((Dk W k:Int):Rat)
end
theorem aH.rev{H:Hp}:∀{ds:List D}{xs:List V},aH H ds xs->aH H ds.reverse xs.reverse
 | [],xs,h=>by
  rw[h.nil_at];exact .mk_nil
 | d::ds,xs,h=>by
  obtain⟨x,r,rfl,h1,h2⟩:=h.cons_at;rw[List.reverse_cons,List.reverse_cons];exact (aH.rev h2).snoc h1
end L2
namespace L2
open PySem PyProof.Rows
theorem Ls{i:Int}(h:0<=i):Builtin.bitAnd i 1=i%2:=by
 rw[PyProof.Rows.bitAnd_pp h ∅];show ((i.toNat &&& 1:Nat):Int)=_;rw[Nat.and_one_is_mod];nofun
section
variable {X:Cx}
theorem Ez:fk X (binaryOp .BitAnd) (rI (λi j=>0<=i/\j=1) λi j=>.int (i%2)):=JK λi j _ _ _ _ _ hc q=>by
 obtain⟨h0,rfl⟩:=hc;refine and_int ?_;rw[Ls h0];exact q
end
end L2
namespace L2
open PySem PySem.Spec PyProof.Rows
structure Lm where
 p:Addr
 c:Addr
 ps:Arguments
 b:Expr
 sc:Scope
structure pV (P:Program)(base:Heap):Prop where
 seer:base.NoSeer
 tree:P.given.tree=none
def zW(_ j:Int):Prop:=j≠0
theorem gS{X:Cx}{k:Nat}(N:pV X.prog X.base)(hr:cN k X.A)(hst:X.stack=X.env::X.outer)(hgen:X.env.scope.isGenerator=false)(hco:X.env.scope.isCoroutine=false) :
  fk X (binaryOp .FloorDiv) (rI zW λi j=>.int (i.fdiv j)):=by
 intro pins s σ H x y v u Q I rx ry h;obtain⟨i,j,rfl,rfl,hc,q⟩:=h;obtain⟨t,rfl⟩:=rx;obtain⟨t',rfl⟩:=ry;refine floordiv_int hc ⟨.int (i.fdiv j),H,I.tok _,⟨_,rfl⟩,q⟩ (.inr ?_);refine PySem.PylongRoom.of I.nolimit ?_ (PySem.SeerAt.of (N.seer.keeps I.bk) N.tree (I.ok.frames.trans (Xb some hst)) hgen hco I.ok.blt I.ok.glob);have:=hr.dp;show X.A.depth+100<recursionLimit;nofun
end L2
namespace L2
open PySem
def hR(W:Nat->Int)(B:Int)(k:Nat):Rat:=((Dk W (k+1):Int):Rat)/((Dk W k*B:Int):Rat)
theorem CJ{v:Nat->Rat}{x:Rat}:EV v x=cz v (λj=>1*cJ x j) 20:=by
 rw[zy];unfold EV;grind
def tb:Nat->Nat
 | 0=>1
 | k+1=>tb k+(360*k+280)
def dw(M:Nat):List (Nat->Int)->Om
 | []=>wN
 | r::rs=>wg M r (dw M rs)
def dt(M:Nat)(rows:List (Nat->Int)):Int:=dw M rows (mv M)
theorem JG{v:Nat->Int}{m:Nat}{o p:Om}(h:∀k,o k = - p k)(l:List Bool):wg m v o l = - wg m v p l:=by
 have e:=mE (v:=v) (a:=-1) (b:=0) m p p l;rw[<-fS (o:=o) (p:=λk=>-1*p k+0*p k) (λk=>by rw[h];nofun) l] at e
 nofun
theorem yA{v:Nat->Int}{a:Int}{m:Nat}{o p:Om}(h:∀k,o k=a*p k)(l:List Bool):wg m v o l=a*wg m v p l:=by
 have e:=mE (v:=v) (a:=a) (b:=0) m p p l;rw[<-fS (o:=o) (p:=λk=>a*p k+0*p k) (λk=>by rw[h];nofun) l] at e
 nofun
theorem Jt{u v:Nat->Int}{m:Nat}{o:Om}{l:List Bool}(h:∀i,i<m->u i=v i):wg m u o l=wg m v o l:=by
 have e:=jM (u:=u) (v:=v) (a:=1) (b:=-1) m o l;rw[gW m o l λi hi=>by rw[h i hi];nofun] at e
 nofun
def Pm(x y:Int):Prop:=x=y\/x = -y
theorem Pm.rfl'{x:Int}:Pm x x:=.inl rfl
theorem Pm.symm{x y:Int}(h:Pm x y):Pm y x:=by rcases h with e|e<;>unfold Pm<;>nofun
theorem Pm.trans{x y z:Int}(h:Pm x y)(g:Pm y z):Pm x z:=by rcases h with e|e<;>rcases g with f|f<;>unfold Pm<;>nofun
theorem Pm.mul{x y:Int}(h:Pm x y)(a:Int):Pm (a*x) (a*y):=by
 rcases h with e|e
 .exact .inl (by rw[e])
 .exact .inr (by rw[e,Int.mul_neg])
theorem Pm.of_mul{a x y:Int}(h:Pm (a*x) (a*y))(ha:a≠0):Pm x y:=by
 rcases h with e|e
 .exact .inl (Int.eq_of_mul_eq_mul_left ha e)
 .exact .inr (Int.eq_of_mul_eq_mul_left ha (by rw[e,Int.mul_neg]))
theorem xz{M:Nat}{x:Nat->Int}:∀{rows:List (Nat->Int)},x∈rows -> ∀l,wg M x (dw M rows) l=0
 | [],h,_=>by cases h
 | y::rs,h,l=>by
  show wg M x (wg M y (dw M rs)) l=0;rcases YY.mp h with rfl|z
  .exact yq M _ l
  .rw[jX,jW M _ l λk=>xz z k];rfl
theorem E3{M:Nat}{a b:List (Nat->Int)}(h:a.Perm b):(∀l,dw M a l=dw M b l) \/ ∀l,dw M a l = - dw M b l:=by
 induction h with
 | nil=>exact .inl λ_=>rfl
 | cons x _ ih =>
  rcases ih with e|e
  .exact .inl λl=>fS e l
  .exact .inr λl=>JG e l
 | swap x y l=>exact .inr λk=>jX M _ k
 | trans _ _ ih1 ih2 =>
  rcases ih1 with e|e<;>rcases ih2 with f|f
  .exact .inl λl=>by rw[e,f]
  .exact .inr λl=>by rw[e,f]
  .exact .inr λl=>by rw[e,f]
  .exact .inl λl=>by rw[e,f];nofun
theorem tM{M:Nat}{a b:List (Nat->Int)}(h:a.Perm b):Pm (dt M a) (dt M b):=by
 rcases E3 (M:=M) h with e|e
 .exact .inl (e _)
 .exact .inr (e _)
theorem vJ{m:Nat}:∀(rs:List (Nat->Int))(l:List Bool),dw (m+1) rs (false::l)=dw m rs l
 | [],l=>by simp[dw,wN]
 | r::rs,l=>by
  show wg (m+1) r (dw (m+1) rs) (false::l)=wg m r (dw m rs) l;rw[kK];exact fS (λk=>vJ rs k) l
theorem xY{m:Nat}:∀{rs:List (Nat->Int)},(∀r∈rs,r m=0) -> ∀l,dw (m+1) rs (true::l)=0
 | [],_,l=>by simp[dw,wN]
 | r::rs,h,l=>by
  show wg (m+1) r (dw (m+1) rs) (true::l)=0;rw[j7,h r Yj,jW m _ l λk=>xY (λx hx=>h x (Yf _ hx)) k];nofun
theorem Ho{m:Nat}{r:Nat->Int}{rs:List (Nat->Int)}(h:∀x∈rs,x m=0):dt (m+1) (r::rs)=r m*dt m rs:=by
 show wg (m+1) r (dw (m+1) rs) (true::mv m)=r m*dw m rs (mv m);rw[j7,vJ,jW m _ _ λk=>xY h k];nofun
def st(g:Nat->Nat->Int)(lo:Nat):Nat->List (Nat->Int)
 | 0=>[]
 | n+1=>g (lo+n)::st g lo n
theorem kE{g:Nat->Nat->Int}{lo:Nat}{x:Nat->Int}:∀{n:Nat},x∈st g lo n -> ∃i,i<n/\x=g (lo+i)
 | 0,h=>by cases h
 | n+1,h=>by
  rcases YY.mp h with rfl|z
  .exact⟨n,(),rfl⟩
  .obtain⟨i,hi,e⟩:=kE z;exact⟨i,(),e⟩
theorem CD{g:Nat->Nat->Int}{lo i:Nat}:∀{n:Nat},i<n->g (lo+i)∈st g lo n
 | 0,h=>by nofun
 | n+1,h=>by
  by_cases e:i=n
  .rw[e];exact Yj
  .exact Yf _ (CD ())
theorem wC(g:Nat->Nat->Int)(lo n:Nat):∀m,st g lo (n+m)=st g (lo+n) m++st g lo n
 | 0=>rfl
 | m+1=>by
  show g (lo+(n+m))::st g lo (n+m)=g (lo+n+m)::(st g (lo+n) m++st g lo n);rw[wC g lo n m,Nat.add_assoc]
theorem jF{g:Nat->Nat->Int}{c:Int}{d0 lo:Nat}{X:List (Nat->Int)}(h1:∀i,g i (d0+i)=c)(h2:∀i k,d0+i<k->g i k=0)(hX:∀x∈X,∀k,d0+lo<=k->x k=0):∀n,dt (d0+lo+n) (st g lo n++X)=c^n*dt (d0+lo) X
 | 0=>by show dt (d0+lo) X=c^0*_;rw[XQ,YK]
 | n+1=>by
  show dt (d0+lo+n+1) (g (lo+n)::(st g lo n++X))=_;rw[Ho,jF h1 h2 hX n,show d0+lo+n=d0+(lo+n) by nofun,h1,XR,Y2 (c^n) c,YM]
  intro x hx;rcases List.mem_append.mp hx with z|z
  .obtain⟨i,hi,rfl⟩:=kE z;exact h2 _ _ ()
  .exact hX x z _ ()
def vE(M:Nat)(X:List (Nat->Int))(v:Nat->Int):Prop:=∀rows:List (Nat->Int),(∀x∈X,x∈rows) -> ∀l,wg M v (dw M rows) l=0
theorem vE.mem{M:Nat}{X:List (Nat->Int)}{v:Nat->Int}(h:v∈X):vE M X v:=λrows hr l=>xz (hr v h) l
theorem vE.zero{M:Nat}{X:List (Nat->Int)}:vE M X λ_=>0:=λrows _ l=>gW M _ l λ_ _=>rfl
theorem vE.lin{M:Nat}{X:List (Nat->Int)}{u v:Nat->Int}{a b:Int}(hu:vE M X u)(hv:vE M X v):vE M X λk=>a*u k+b*v k:=λrows hr l=>by
 rw[jM,hu rows hr l,hv rows hr l];nofun
theorem vE.sum{M:Nat}{X:List (Nat->Int)}{q:Nat->Int}{g:Nat->Nat->Int}:∀n,(∀i,i<n->g i∈X)->vE M X λk=>fj (λi=>q i*g i k) n
 | 0,_=>vE.zero
 | n+1,h=>by
  have e:=vE.lin (a:=1) (b:=q n) (vE.sum (q:=q) n λi hi=>h i ()) (vE.mem (M:=M) (h n ()));have f:(λk=>1*fj (λi=>q i*g i k) n+q n*g n k)=λk=>fj (λi=>q i*g i k) (n+1):=by
   funext k;show 1*_+_=fj _ n+q n*g n k;nofun
  rw[f] at e;exact e
theorem C6{M:Nat}{f r:Nat->Nat->Int}{c b:Int}{X:List (Nat->Int)}:∀n,(∀i,i<n -> ∃v,vE M X v /\ ∀k,c*f i k=b*r i k+v k) -> ∀l,c^n*dw M (st f 0 n++X) l=b^n*dw M (st r 0 n++X) l
 | 0,_,l=>by rw[XQ,XQ];rfl
 | n+1,h,l=>by
  have ih:=C6 n λi hi=>h i ();obtain⟨v,hv,e⟩:=h n ();show c^(n+1)*wg M (f (0+n)) (dw M (st f 0 n++X)) l=b^(n+1)*wg M (r (0+n)) (dw M (st r 0 n++X)) l;rw[Xd];have e1:c^n*wg M (f n) (dw M (st f 0 n++X)) l=b^n*wg M (f n) (dw M (st r 0 n++X)) l:=by
   rw[<-yA (o:=λk=>c^n*dw M (st f 0 n++X) k) (λ_=>rfl) l,<-yA (o:=λk=>b^n*dw M (st r 0 n++X) k) (λ_=>rfl) l];exact fS ih l
  have e2:c*wg M (f n) (dw M (st r 0 n++X)) l=b*wg M (r n) (dw M (st r 0 n++X)) l:=by
   have a1:=jM (u:=f n) (v:=f n) (a:=c) (b:=0) M (dw M (st r 0 n++X)) l;have a2:=jM (u:=r n) (v:=v) (a:=b) (b:=1) M (dw M (st r 0 n++X)) l;rw[hv _ (λx hx=>YL _ hx) l] at a2;have a3:(λi=>c*f n i+0*f n i)=λi=>b*r n i+1*v i:=by
    funext k;have:=e k;nofun
   rw[a3,a2] at a1;nofun
  rw[XR,XR,Y2 (c^n) c,YM,e1,Int.mul_left_comm,e2,YM]
theorem Ib{M:Nat}{f r:Nat->Nat->Int}{c b:Int}{X:List (Nat->Int)}(n:Nat)(h:∀i,i<n -> ∃v,vE M X v /\ ∀k,c*f i k=b*r i k+v k):c^n*dt M (st f 0 n++X)=b^n*dt M (st r 0 n++X):=C6 n h _
def sh(f:Nat->Int)(i k:Nat):Int:=if i<=k then f (k-i) else 0
def Ej(j k:Nat):List (Nat->Int):=((List.range (j+1)).filter λi=>decide (i≠k)).map kP
theorem wX{j k:Nat}{x:Nat->Int}(h:x∈Ej j k) {m:Nat}(hm:j<m):x m=0:=by
 obtain⟨i,hi,rfl⟩:=List.mem_map.mp h;have:=List.mem_range.mp (List.mem_filter.mp hi).1;exact Yc ()
theorem Dj:∀n,st kP 0 n=((List.range n).reverse).map kP
 | 0=>rfl
 | n+1=>by
  rw[List.range_succ,List.reverse_append];show kP (0+n)::st kP 0 n=kP n::_;rw[Dj n,Xd];rfl
theorem F7(n:Nat):dt n (st kP 0 n)=1:=by
 have e:=jF (g:=kP) (c:=1) (d0:=0) (lo:=0) (X:=[]) (λi=>by rw[Xd];exact Yh rfl) (λi k h=>Yc ()) (λx hx=>by cases hx) n
 rw[Xi,Int.one_pow,Xd,Xd] at e;rw[e];rfl
theorem yK{j k:Nat}(h:k<=j):(kP k::Ej j k).Perm (st kP 0 (j+1)):=by
 rw[Dj];show (List.map kP (k::(List.range (j+1)).filter λi=>decide (i≠k))).Perm _;refine List.Perm.map _ (List.Perm.trans ?_ (List.reverse_perm _).symm);have nd:(List.range (j+1)).Nodup:=List.nodup_range;have e:(List.range (j+1)).filter (λi=>decide (i≠k))=(List.range (j+1)).erase k:=by
  rw[nd.erase_eq_filter];congr 1
  funext i;by_cases z:i=k
  .simp[z]
  .simp[z]
 rw[e];exact (List.perm_cons_erase (List.mem_range.mpr ())).symm
theorem Dp{j k:Nat}{R:Nat->Int}(h:k<=j):Pm (dt (j+1) (R::Ej j k)) (R k):=by
 have e:dt (j+1) (R::Ej j k)=R k*dt (j+1) (kP k::Ej j k):=by
  show wg (j+1) R (dw (j+1) (Ej j k)) (mv (j+1))=R k*wg (j+1) (kP k) (dw (j+1) (Ej j k)) (mv (j+1));have e1:wg (j+1) R (dw (j+1) (Ej j k)) (mv (j+1))=wg (j+1) (λi=>fj (λa=>R a*kP a i) (j+1)) (dw (j+1) (Ej j k)) (mv (j+1)):=Jt λi hi=>by
   rw[li (j:=i) (j+1) (λa _ ha=>by rw[show kP a i=0 from Yc (λz=>ha z.symm)];nofun) hi,show kP i i=1 from Yh rfl]
   nofun
  rw[e1,mQ];refine li (j+1) (λi hi hn=>?_) ();have z:kP i∈Ej j k:=List.mem_map.mpr ⟨i,List.mem_filter.mpr ⟨List.mem_range.mpr hi,Y1 hn⟩,rfl⟩;rw[xz z];nofun
 rw[e];have p:=(tM (M:=j+1) (yK h)).mul (R k);rw[F7,XN] at p;exact p
def SR(f g:Nat->Int)(a b j k:Nat):Int:=dt (a+b-j) (st (sh f) 0 (b-j)++(st (sh g) 0 (a-j)++Ej j k))
theorem xu{f:Nat->Int}{a i:Nat}:sh f i (a+i)=f a:=by
 unfold sh;rw[Yh (),show a+i-i=a by nofun]
theorem mY{f:Nat->Int}{a:Nat}(h:∀k,a<k->f k=0) {i k:Nat}(hk:a+i<k):sh f i k=0:=by
 unfold sh;rw[Yh ()];exact h _ ()
def cv(q g:Nat->Int)(n k:Nat):Int:=fj (λt=>q t*sh g t k) n
theorem GV{q g:Nat->Int}{i n:Nat}:∀k,sh (cv q g n) i k=fj (λt=>q t*sh g (i+t) k) n:=λk=>by
 unfold sh;by_cases h:i<=k
 .rw[Yh h];refine oK n λt _=>?_;show q t*(if t<=k-i then g (k-i-t) else 0)=q t*(if i+t<=k then g (k-(i+t)) else 0)
  by_cases z:t<=k-i
  .rw[Yh z,Yh (),show k-i-t=k-(i+t) by nofun]
  .rw[Yc z,Yc ()]
 .rw[Yc h];refine (mV n λt _=>?_).symm;rw[Yc ()];exact YD _
theorem Cw{f g q r:Nat->Int}{a b j k:Nat}{γ β:Int}(ab:b<=a)(jb:j<=b)(e:∀k,γ*f k=cv q g (a-b+1) k+β*r k) :
  γ^(b-j)*SR f g a b j k=β^(b-j)*dt (a+b-j) (st (sh r) 0 (b-j)++(st (sh g) 0 (a-j)++Ej j k)):=by
 refine Ib (b-j) λi hi=>⟨λk=>fj (λt=>q t*sh g (i+t) k) (a-b+1),vE.sum (g:=λt=>sh g (i+t)) _ λt ht=>XG _ ?_,λk=>?_⟩
 .have:=CD (g:=sh g) (lo:=0) (i:=i+t) (n:=a-j) ()
  rwa [Xd] at this
 .show γ*sh f i k=β*sh r i k+fj (λt=>q t*sh g (i+t) k) (a-b+1);rw[<-GV];unfold sh;by_cases h:i<=k
  .rw[Yh h,Yh h,Yh h,e];nofun
  .rw[Yc h,Yc h,Yc h];nofun
theorem Eo{f g q r:Nat->Int}{a b d j k:Nat}{γ β c:Int}(ab:b<=a)(db:d<b)(jd:j<=d)(hg:g b=c)(g0:∀k,b<k->g k=0)(r0:∀k,d<k->r k=0)(e:∀k,γ*f k=cv q g (a-b+1) k+β*r k) :
  Pm (γ^(b-j)*SR f g a b j k) (β^(b-j)*(c^(a-d)*SR g r b d j k)):=by
 rw[Cw ab () e];refine Pm.mul ?_ _;have p:(st (sh r) 0 (b-j)++(st (sh g) 0 (a-j)++Ej j k)).Perm (st (sh g) (d-j) (a-d)++(st (sh g) 0 (d-j)++(st (sh r) 0 (b-j)++Ej j k))):=by
  have s:=wC (sh g) 0 (d-j) (a-d);rw[show d-j+(a-d)=a-j by nofun,Xd] at s
  rw[s,<-YS,<-YS,<-YS,<-YS];refine List.Perm.append_right _ ?_;rw[YS,YS];exact (List.perm_append_comm).trans (by rw[YS])
 refine (tM p).trans ?_;rw[show a+b-j=b+(d-j)+(a-d) by nofun,jF (d0:=b) (c:=c) (λi=>by rw[xu];exact hg) (λi k h=>mY g0 h) ?_ (a-d)]
 .rw[show b+(d-j)=b+d-j by nofun]
  exact Pm.rfl'
 .intro x hx k hk;rcases List.mem_append.mp hx with z|z
  .obtain⟨i,hi,rfl⟩:=kE z;exact mY g0 ()
  .rcases List.mem_append.mp z with z|z
   .obtain⟨i,hi,rfl⟩:=kE z;exact mY r0 ()
   .exact wX z ()
theorem zp(x:Int):x^1=x:=by rw[XR,XQ,YK]
theorem EI{f g q r:Nat->Int}{a b k:Nat}{c:Int}(ab:b<=a)(hb:1<=b)(hk:k<b)(hg:g b=c)(hc:c≠0)(g0:∀k,b<k->g k=0)(r0:∀k,b<=k->r k=0)(e:∀k,c^(a-b+1)*f k=cv q g (a-b+1) k+r k) :
  Pm (SR f g a b (b-1) k) (r k):=by
 refine Pm.of_mul (a:=c^(a-b+1)) ?_ (Xp hc);have s:=Cw (j:=b-1) (k:=k) (q:=q) (g:=g) (f:=f) (γ:=c^(a-b+1)) (β:=1) ab () (r:=r) (λk=>by rw[e k];nofun)
 rw[show b-(b-1)=1 by nofun,zp,zp,YK] at s
 rw[s,show a+b-(b-1)=b+0+(a-b+1) by nofun,show a-(b-1)=a-b+1 by nofun]
 have p:(st (sh r) 0 1++(st (sh g) 0 (a-b+1)++Ej (b-1) k)).Perm (st (sh g) 0 (a-b+1)++(sh r 0::Ej (b-1) k)):=by
  show (sh r (0+0)::(st (sh g) 0 (a-b+1)++Ej (b-1) k)).Perm _;exact XW.symm
 refine (tM p).trans ?_;rw[jF (d0:=b) (c:=c) (λi=>by rw[xu];exact hg) (λi k h=>mY g0 h) ?_ (a-b+1)]
 .refine Pm.mul ?_ _;have d:=Dp (j:=b-1) (k:=k) (R:=sh r 0) ();rw[show b-1+1=b+0 by nofun] at d
  refine d.trans (.inl ?_);show sh r 0 k=r k;unfold sh;rw[Yh (),Nat.sub_zero]
 .intro x hx m hm;rcases YY.mp hx with rfl|z
  .unfold sh;rw[Yh ()];exact r0 _ ()
  .exact wX z ()
theorem F8{f g:Nat->Int}{a b:Nat}{c:Int}(ab:b<a)(hg:g b=c)(g0:∀k,b<k->g k=0):Pm (SR f g a b b b) (c^(a-b)):=by
 unfold SR;rw[show b-b=0 by nofun]
 show Pm (dt (a+b-b) (st (sh g) 0 (a-b)++Ej b b)) _;obtain⟨n,hn⟩ : ∃n,a-b=n+1:=⟨a-b-1,()⟩;have s:=wC (sh g) 0 1 n;rw[show 1+n=n+1 by nofun] at s
 rw[hn,s,show a+b-b=b+1+n by nofun,YS,jF (d0:=b) (lo:=1) (c:=c) (λi=>by rw[xu];exact hg) (λi k h=>mY g0 h) ?_ n]
 .rw[XR];refine Pm.mul ?_ _;have d:=Dp (j:=b) (k:=b) (R:=sh g 0) ();have e:sh g 0 b=c:=by
   unfold sh;rw[Yh (),Nat.sub_zero,hg]
  rw[e] at d;exact d
 .intro x hx m hm;rcases List.mem_append.mp hx with z|z
  .obtain⟨i,hi,rfl⟩:=kE z;exact mY g0 ()
  .exact wX z ()
theorem Bv{M C:Nat}(hM:1<=M*C):∀{rows:List (Nat->Int)},(∀r∈rows,∀i,(r i).natAbs<=C) -> ∀l,(dw M rows l).natAbs<=(M*C)^rows.length
 | [],_,l=>by
  show (wN l).natAbs<=1;unfold wN;split<;>decide
 | r::rs,h,l=>by
  have ih:=Bv hM (λx hx=>h x (Yf _ hx));have:=xh (h r Yj) M (dw M rs) l ih;show (wg M r (dw M rs) l).natAbs<=(M*C)^(rs.length+1);rw[Xe,XO _ (M*C),Nat.mul_assoc];exact this
theorem sv{g:Nat->Nat->Int}{lo:Nat}:∀n,(st g lo n).length=n
 | 0=>rfl
 | n+1=>by
  show (st g lo n).length+1=n+1;rw[sv n]
theorem Cd{j k:Nat}(h:k<=j):(Ej j k).length=j:=by
 have:=(yK h).length_eq;rw[sv] at this;simp at this;exact this
theorem AX{f:Nat->Int}{C:Nat}(h:∀i,(f i).natAbs<=C)(i k:Nat):(sh f i k).natAbs<=C:=by
 unfold sh;split
 .exact h _
 .exact Y7 _
theorem K7(a:Int)(m n:Nat):a^(m+n)=a^m*a^n:=Int.pow_add a m n
theorem imp(a b:Int)(n:Nat):(a*b)^n=a^n*b^n:=Int.mul_pow
theorem Lg(a:Int)(m n:Nat):(a^m)^n=a^(m*n):=Int.pow_mul.symm
theorem Lx{h h' c:Int}{e m:Nat}(H:h'*h^e=c^(e+1)):h^((e+1)*(m+1))*c^(e+1+(m+1))*h'^m=c^((e+2)*(m+1))*h^(e+1+m):=by
 have k:h'^m*h^(e*m)=c^((e+1)*m):=by rw[<-Lg,<-imp,H,Lg]
 have e1:(e+1)*(m+1)=e*m+(e+1+m):=by simp only[Nat.mul_add,XM];nofun
 have e2:(e+2)*(m+1)=(e+1)*m+(e+1+(m+1)):=by simp only[Nat.mul_add,XM];nofun
 rw[e1,e2,K7 h,K7 c ((e+1)*m),<-k];generalize h^(e*m)=u;generalize h^(e+1+m)=v;generalize c^(e+1+(m+1))=w;generalize h'^m=z;grind
structure qG (S1:Nat->Nat->Int)(F G:Nat->Int)(A B:Nat)(x h:Int):Prop where
 ba:B<=A
 x0:x≠0
 h0:h≠0
 one:A=B->h=1
 main:∀j k,j<=B->k<=j->Pm (SR F G A B j k) (x^(B-j)*(h^(A-j-1)*S1 j k))
theorem qG.first{F G:Nat->Int}{A B:Nat}(h:B<=A):qG (SR F G A B) F G A B 1 1:=⟨h,∅,∅,λ_=>rfl,λj k _ _=>.inl (by rw[Int.one_pow,Int.one_pow,YK,YK])⟩
section
variable {S1:Nat->Nat->Int}{F G q R r:Nat->Int}{A B d:Nat}{x h c h':Int}
theorem qG.rest(I:qG S1 F G A B x h)(hg:G B=c)(hc:c≠0)(g0:∀k,B<k->G k=0)(r0:∀k,B<=k->R k=0)(e:∀k,c^(A-B+1)*F k=cv q G (A-B+1) k+R k)(k:Nat)(hk:k<B):Pm (R k) (x*h^(A-B)*S1 (B-1) k):=by
 have s:=(EI I.ba () hk hg hc g0 r0 e).symm.trans (I.main (B-1) k () ());rw[show B-(B-1)=1 by nofun,zp,show A-(B-1)-1=A-B by have:=I.ba;nofun,<-YM] at s
 exact s
theorem qG.high(I:qG S1 F G A B x h)(hg:G B=c)(g0:∀k,B<k->G k=0)(ab:B<A):Pm (c^(A-B)) (h^(A-B-1)*S1 B B):=by
 have s:=(F8 (f:=F) ab hg g0).symm.trans (I.main B B () ());rw[show B-B=0 by nofun,XQ,YK] at s
 exact s
theorem qG.step(I:qG S1 F G A B x h)(hg:G B=c)(hc:c≠0)(g0:∀k,B<k->G k=0)(e:∀k,c^(A-B+1)*F k=cv q G (A-B+1) k+x*h^(A-B)*r k)(r0:∀k,d<k->r k=0)(hd:d<B)(n0:h'≠0)(hh:A=B/\h'=h\/B<A/\h'*h^(A-B-1)=c^(A-B)):qG S1 G r B d c h':=by
 refine⟨(),hc,n0,λz=>by nofun,λj k hj hk=>?_⟩
 have ab:=I.ba;have s:=Eo (k:=k) I.ba hd hj hg g0 r0 e;have m:=(I.main j k () hk).mul ((c^(A-B+1))^(B-j));have p:=s.symm.trans m;refine Pm.of_mul (a:=(x*h^(A-B))^(B-j)*c^(A-d)) ?_ (YH (Xp (YH I.x0 (Xp I.h0))) (Xp hc));rw[YM];refine p.trans (.inl ?_);obtain⟨n,hn⟩ : ∃n,B-j=n+1:=⟨B-j-1,()⟩;rw[show B-j-1=n by nofun,hn,imp,Lg,Lg,show A-j-1=A-B+n by nofun]
 have key:h^((A-B)*(n+1))*c^(A-d)*(c^(d-j)*h'^n)=c^((A-B+1)*(n+1))*h^(A-B+n):=by
  have e1:c^(A-d)*c^(d-j)=c^(A-B+(n+1)):=by rw[<-K7];congr 1;nofun
  rw[YM,<-YM (c^(A-d)),e1,<-YM];rcases hh with ⟨z1,z2⟩|⟨z1,z2⟩
  .have h1:=I.one z1;rw[z2,h1,Int.one_pow,Int.one_pow,Int.one_pow,show A-B=0 by nofun,YK,XN,XN]
   congr 1
   nofun
  .obtain⟨e',he⟩ : ∃e',A-B=e'+1:=⟨A-B-1,()⟩;rw[show A-B-1=e' by nofun,he] at z2
   rw[he];exact Lx z2
 generalize h^((A-B)*(n+1))=u at *
 generalize h^(A-B+n)=v at *
 generalize c^((A-B+1)*(n+1))=w at *
 generalize c^(A-d)=y at *
 generalize c^(d-j)=y' at *
 generalize h'^n=z at *
 generalize x^(n+1)=t at *
 generalize S1 j k=S at *
 have k2:t*(u*y*(y'*z))*S=t*(w*v)*S:=by rw[key]
 grind
end
theorem qx{f f' g:Nat->Rat}:∀n,(∀i,i<n->f i=f' i) -> ∀k,pr f g n k=pr f' g n k
 | 0,_,_=>rfl
 | n+1,h,k=>by
  show pr f g n k+(if n<=k then f n*g (k-n) else 0)=pr f' g n k+(if n<=k then f' n*g (k-n) else 0)
  rw[qx n (λi hi=>h i ()) k,h n ()]
theorem vD{q q' g r r':Nat->Rat}{n n' d:Nat}(hg:∀j,d<j->g j=0)(hd:g d≠0)(hr:∀k,d<=k->r k=0)(hr':∀k,d<=k->r' k=0)
  (h:∀k,pr q g n k+r k=pr q' g n' k+r' k):∀k,r k=r' k :=
 (wQ (q:=λi=>if i<n then q i else 0) (q':=λi=>if i<n' then q' i else 0) (n:=n) (n':=n') (λi hi=>Yc ()) (λi hi=>Yc ()) hg hd hr hr' λk=>by
  rw[qx n (f':=q) (λi hi=>Yh hi),qx n' (f':=q') (λi hi=>Yh hi)];exact h k).2
theorem Gi{q g:Nat->Int}{k:Nat}:∀n,cv q g n k=pz q g n k
 | 0=>rfl
 | n+1=>by
  show cv q g n k+q n*sh g n k=pz q g n k+if n<=k then q n*g (k-n) else 0
  rw[Gi n];unfold sh;split
  .rfl
  .rw[YD]
theorem Bt.pm{n:Nat}{x y:Int}(h:Bt n x)(p:Pm y x):Bt n y:=by
 unfold Bt at *
 rcases p with e|e<;>rw[e]
 .exact h
 .rw[Int.natAbs_neg];exact h
theorem Bt.pow{b:Nat}{x:Int}(h:Bt b x):∀n,1<=n->Bt (b*n) (x^n)
 | 0,h0=>by nofun
 | 1,_=>by rw[zp,Nat.mul_one];exact h
 | n+2,_=>by
  rw[XR,Nat.mul_succ];exact (Bt.pow h (n+1) ()).mul h
theorem Bt.pow1{b:Nat}{x:Int}(h:Bt b x)(n:Nat):Bt (b*n+1) (x^n):=by
 cases n with
 | zero=>rw[XQ];exact Bt.mono (m:=1) ∅ ()
 | succ n=>exact (Bt.pow h (n+1) ()).mono ()
theorem ix{q g:Nat->Int}{n k:Nat}:((pz q g n k:Int):Rat)=pr (λi=>(q i:Rat)) (λi=>(g i:Rat)) n k:=by
 rw[yt (F:=λi=>(q i:Rat)) (G:=λi=>(g i:Rat)) (c:=1) (d:=1) (λi=>by grind) (λi=>by grind)]
 grind
def ff(ns:List Int)(k:Nat):Rat:=((nz ns k:Int):Rat)
theorem Fd{l:List Int}{k:Nat}(h:l.length<=k):ff l k=0:=by
 show ((nz l k:Int):Rat)=0;rw[a7 h];rfl
end L2
namespace L2
open PySem PySem.Spec PyProof.Rows
theorem AM{X:Cx}{k:Nat}{env:Env}{l:List Env}(N:pV X.prog X.base)(hr:cN k X.A)(hst:X.stack=env::l)(hgen:env.scope.isGenerator=false)(hco:env.scope.isCoroutine=false)(hb:env.builtins=builtinsNs)(hg:env.globals=mainGlobals) :
  fk X (binaryOp .FloorDiv) (rI zW λi j=>.int (i.fdiv j)):=by
 intro pins s σ H x y v u Q I rx ry h;obtain⟨i,j,rfl,rfl,hc,q⟩:=h;obtain⟨t,rfl⟩:=rx;obtain⟨t',rfl⟩:=ry;refine floordiv_int hc ⟨.int (i.fdiv j),H,I.tok _,⟨_,rfl⟩,q⟩ (.inr ?_);refine PySem.PylongRoom.of I.nolimit ?_ (PySem.SeerAt.of (N.seer.keeps I.bk) N.tree (I.ok.frames.trans (Xb some hst)) hgen hco hb hg);have:=hr.dp;show X.A.depth+100<recursionLimit;nofun
theorem FV{f g:Nat->Int}{a b j k B:Nat}(ha:a<=8)(hb:b<=a)(jb:j<=b)(kj:k<=j)(hB:1<=B)(hf:∀i,(f i).natAbs<2^B)(hg:∀i,(g i).natAbs<2^B):(SR f g a b j k).natAbs<2^(65+16*B):=by
 by_cases h0:a+b-j=0
 .have:SR f g a b j k=1:=by
   unfold SR;rw[h0,show b-j=0 by nofun,show a-j=0 by nofun]
   have:Ej j k=[]:=List.length_eq_zero_iff.mp (by rw[Cd kj];nofun)
   rw[show st (sh f) 0 0++(st (sh g) 0 0++Ej j k)=Ej j k from rfl,this]
   rfl
  rw[this];exact Nat.one_lt_two_pow ()
 obtain⟨C,hC⟩ : ∃C,C=2^B:=⟨_,rfl⟩;have c1:1<=C:=hC▸Nat.one_le_two_pow;have r:=Bv (M:=a+b-j) (C:=C) (rows:=st (sh f) 0 (b-j)++(st (sh g) 0 (a-j)++Ej j k)) (Nat.mul_pos () c1) (λr hr i=>by
  rcases List.mem_append.mp hr with z|z
  .obtain⟨i',_,rfl⟩:=kE z;exact AX (λi=>by have:=hf i;nofun) _ _
  .rcases List.mem_append.mp z with z|z
   .obtain⟨i',_,rfl⟩:=kE z;exact AX (λi=>by have:=hg i;nofun) _ _
   .obtain⟨i',_,rfl⟩:=List.mem_map.mp z;unfold kP;split<;>simp<;>nofun) (mv (a+b-j))
 have hl:(st (sh f) 0 (b-j)++(st (sh g) 0 (a-j)++Ej j k)).length=a+b-j:=by
  rw[Yt,Yt,sv,sv,Cd kj];nofun
 rw[hl] at r;have e1:((a+b-j)*C)^(a+b-j)<=(16*C)^16:=Yz (Nat.pow_le_pow_left (Xf _ ()) _) (Y8 () ());have e2:(16*C)^16<2^(65+16*B):=by
  rw[Nat.mul_pow,hC,<-Nat.pow_mul,Xt,XO B 16];exact Nat.mul_lt_mul_of_pos_right ∅ Nat.one_le_two_pow
 unfold SR dt;nofun
structure wJ (Z:Nat)(S1:Nat->Nat->Int)(F G:Nat->Int)(A B:Nat)(x h:Int):Prop where
 inv:qG S1 F G A B x h
 a6:A<=8
 bS:∀j k,j<=B->k<=j->Bt Z (S1 j k)
 bF:∀k,Bt Z (F k)
 bG:∀k,Bt Z (G k)
 bx:Bt Z x
 bh:Bt Z h
 g1:G B≠0
 g0:∀k,B<k->G k=0
 f0:∀k,A<k->F k=0
theorem wJ.first{F G:Nat->Int}{A B b:Nat}(h:B<=A)(ha:A<=8)(hb:1<=b)(bF:∀k,Bt b (F k))(bG:∀k,Bt b (G k))(g1:G B≠0)(g0:∀k,B<k->G k=0)(f0:∀k,A<k->F k=0):wJ (65+16*b) (SR F G A B) F G A B 1 1 :=
 ⟨.first h,ha,λj k hj hk=>FV ha h hj hk hb bF bG,λk=>(bF k).mono (),λk=>(bG k).mono (),Bt.mono (m:=1) ∅ (),Bt.mono (m:=1) ∅ (),g1,g0,f0⟩
section
variable {Z:Nat}{S1:Nat->Nat->Int}{F G q R:Nat->Int}{A B:Nat}{x h:Int}
theorem wJ.rest(I:wJ Z S1 F G A B x h)(r0:∀k,B<=k->R k=0)(e:∀k,G B^(A-B+1)*F k=pz q G (A-B+1) k+R k) :
  ∃(r:Nat->Int)(h':Int),(∀k,R k=x*h^(A-B)*r k)/\(∀k,Bt Z (r k))/\(∀k,B<=k->r k=0)/\h'≠0/\Bt Z h'/\(A=B/\h'=h\/B<A/\h'*h^(A-B-1)=G B^(A-B)) /\
   ∀d,d<B->r d≠0->(∀k,d<k->r k=0)->wJ Z S1 G r B d (G B) h':=by
 have e':∀k,G B^(A-B+1)*F k=cv q G (A-B+1) k+R k:=λk=>by rw[Gi];exact e k
 have dv:∀k,∃y:Int,R k=x*h^(A-B)*y/\Bt Z y/\(B<=k->y=0):=λk=>by
  by_cases hk:k<B
  .have p:=I.inv.rest rfl I.g1 I.g0 r0 e' k hk;have b:=I.bS (B-1) k () ();rcases p with z|z
   .exact⟨_,z,b,λ_=>by nofun⟩
   .exact⟨- S1 (B-1) k,by rw[z,Int.mul_neg],b.pm (.inr rfl),λ_=>by nofun⟩
  .exact⟨0,by rw[r0 k (),YD],iT,λ_=>rfl⟩
 have hi:∃h':Int,h'≠0/\Bt Z h'/\(A=B/\h'=h\/B<A/\h'*h^(A-B-1)=G B^(A-B)):=by
  by_cases ab:A=B
  .exact⟨h,I.inv.h0,I.bh,.inl ⟨ab,rfl⟩⟩
  .have ba:=I.inv.ba;have p:=I.inv.high rfl I.g0 ();have b:=I.bS B B () ();have nz:G B^(A-B)≠0:=Xp I.g1;rcases p with z|z
   .exact⟨S1 B B,λy=>nz (by rw[z,y,YD]),b,.inr ⟨(),by rw[z,Y2]⟩⟩
   .exact⟨- S1 B B,λy=>nz (by rw[z,show S1 B B=0 by nofun,YD];rfl),b.pm (.inr rfl),.inr ⟨(),by rw[z,Int.neg_mul,Y2]⟩⟩
 obtain⟨h',n0,bh',hh⟩:=hi;refine⟨λk=>(dv k).choose,h',λk=>(dv k).choose_spec.1,λk=>(dv k).choose_spec.2.1,λk hk=>(dv k).choose_spec.2.2 hk,n0,bh',hh,λd hd rd rz=>?_⟩;refine⟨I.inv.step (q:=q) rfl I.g1 I.g0 (λk=>?_) rz hd n0 hh,Yz I.inv.ba I.a6,λj k hj hk=>I.bS j k () hk,I.bG,λk=>(dv k).choose_spec.2.1,I.bG B,bh',rd,rz,I.g0⟩;rw[<-(dv k).choose_spec.1];exact e' k
end
def iI(b:Nat)(ns:List Int):Prop:=ns.length<=9/\(∀x∈ns,Bt b x)/\(ns≠[]->nz ns (ns.length-1)≠0)
theorem iI.up{b c:Nat}{l:List Int}(h:iI b l)(bc:b<=c):iI c l:=⟨h.1,λx hx=>(h.2.1 x hx).mono bc,h.2.2⟩
theorem rX{q:List (Int×Int)}(h:eP q)(n:q≠[]):cf q (q.length-1)≠0:=by
 have hl:0<q.length:=List.length_pos_iff.mpr n;have e:q[q.length-1]? = some (q[q.length-1]'()):=Ya ();rw[d5 e];intro z;refine h.2 _ (by rw[Yy,e]) ?_
 exact (oD (h.1 _ (Yo _)).ne).mp z
def ab(a b:Rat):List (List Int×List Int×Int×Int)->Nat->Rat×Rat
 | _,0=>(a,b)
 | [],_+1=>(a,b)
 | row::rows,n+1=>ab b (-(a*(row.2.2.1:Rat))/(row.2.2.2:Rat)) rows n
theorem uT{X:Cx}{k:Nat}{env:Env}{l:List Env}(N:pV X.prog X.base)(hr:cN k X.A)(hst:X.stack=env::l)(hgen:env.scope.isGenerator=false)(hco:env.scope.isCoroutine=false)(hb:env.builtins=builtinsNs)(hg:env.globals=mainGlobals) :
  fk X (binaryOp .FloorDiv) (rI zW λi j=>.int (i.fdiv j)):=by
 intro pins s σ H x y v u Q I rx ry h;obtain⟨i,j,rfl,rfl,hc,q⟩:=h;obtain⟨t,rfl⟩:=rx;obtain⟨t',rfl⟩:=ry;refine floordiv_int hc ⟨.int (i.fdiv j),H,I.tok _,⟨_,rfl⟩,q⟩ (.inr ?_);refine PySem.PylongRoom.of I.nolimit ?_ (PySem.SeerAt.of (N.seer.keeps I.bk) N.tree (I.ok.frames.trans (Xb some hst)) hgen hco hb hg);have:=hr.dp;show X.A.depth+100<recursionLimit;nofun
end L2
namespace L2
open PySem
section
variable {S u u' v v':Nat->Rat}{m n:Nat}
end
section
variable {W:Nat->Int}{B:Int}{S:Nat->Rat}
theorem jk(c:Rat):0<=c*c:=EU c
end
end L2
namespace L2
open PySem PySem.Spec PyProof.Rows
theorem AI{X:Cx}{k:Nat}(N:pV X.prog X.base)(hr:cN k X.A)(hst:X.stack=X.env::X.outer)(hgen:X.env.scope.isGenerator=false)(hco:X.env.scope.isCoroutine=false) :
  Gv X .FloorDiv (λx y H Q=>∃i j,x=.int i/\y=.int j/\zW i j/\Q (.int (i.fdiv j)) H):=by
 intro pins s σ H x y v u Q I r1 r2 h;obtain⟨i,j,rfl,rfl,m,q⟩:=h;obtain⟨t,rfl⟩:=r1;obtain⟨t',rfl⟩:=r2;refine ifloordiv_int m ⟨.int _,H,I.tok _,⟨_,rfl⟩,q⟩ (.inr ?_);refine PySem.PylongRoom.of I.nolimit ?_ (PySem.SeerAt.of (N.seer.keeps I.bk) N.tree (I.ok.frames.trans (Xb some hst)) hgen hco I.ok.blt I.ok.glob);have:=hr.dp;show X.A.depth+100<recursionLimit;nofun
def Bd(n:Nat)(f:Nat->Rat):Prop:=∀i,n<=i->f i=0
def Tp(d:Nat)(f:Nat->Rat):Prop:=f d≠0/\Bd (d+1) f
theorem Bd.mono{m n:Nat}{f:Nat->Rat}(h:Bd m f)(l:m<=n):Bd n f:=λi hi=>h i ()
theorem Bd.tp:∀{n:Nat}{f:Nat->Rat},Bd n f->(∀i,f i=0) \/ ∃d,d<n/\Tp d f
 | 0,f,h=>.inl λi=>h i (Y7 _)
 | n+1,f,h=>by
  by_cases e:f n=0
  .rcases Bd.tp (n:=n) (f:=f) (λi hi=>by
    by_cases z:i=n
    .rw[z,e]
    .exact h i ()) with z|⟨d,hd,t⟩
   .exact .inl z
   .exact .inr ⟨d,(),t⟩
  .exact .inr ⟨n,(),e,h⟩
theorem nQ{f:Nat->Rat}(h:∀i,f i=0)(x:Rat):EV f x=0:=by
 rw[gv (n:=0) (λk _=>h k) ∅];rfl
theorem lY{f g:Nat->Rat}{c:Rat}(x:Rat):EV (λi=>f i+c*g i) x=EV f x+c*EV g x:=by
 have:EV (λi=>c*g i) x=c*EV g x:=by rw[CJ,CJ (v:=g),oQ]
 rw[sU,this]
theorem Bd.pr{m n:Nat}{f g:Nat->Rat}(hg:Bd n g):Bd (m+n) (λk=>L2.pr f g m k):=λk hk=>gz hg _ _ ()
theorem Hm{m n:Nat}{f g:Nat->Rat}(hf:Bd m f)(hg:Bd n g)(h:m+n<=20)(x:Rat):EV (λk=>pr f g m k) x=EV f x*EV g x:=by
 rw[wU hg m h,gv hf (),gv hg ()]
theorem GG{f g:Nat->Rat}{c:Rat}(k:Nat):DF (λi=>f i+c*g i) k=DF f k+c*DF g k:=by
 show (((k+1:Nat):Int):Rat)*(f (k+1)+c*g (k+1))=(((k+1:Nat):Int):Rat)*f (k+1)+c*((((k+1:Nat):Int):Rat)*g (k+1));grind
theorem Bm{g:Nat->Rat}{m:Nat}(bg:Bd m g):∀(n:Nat)(f h:Nat->Rat),Bd n f->n+m<=19->Bd 20 h->(∀x,EV h x=EV f x*EV g x) -> ∀x,EV (DF h) x=EV (DF f) x*EV g x+EV f x*EV (DF g) x
 | 0,f,h,bf,l,bh,e,x=>by
  have f0:∀i,f i=0:=λi=>bf i (Y7 _);have h0:∀i,h i=0:=pF bh (g:=λ_=>0) (λ_ _=>rfl) λx=>by rw[e x,nQ f0,nQ (f:=λ_=>0) λ_=>rfl];grind
  rw[nQ (f:=DF h) λi=>by show _*h (i+1)=0;rw[h0];grind,nQ (f:=DF f) λi=>by show _*f (i+1)=0;rw[f0];grind,nQ f0]
  grind
 | n+1,f,h,bf,l,bh,e,x=>by
  obtain⟨f1,hf1⟩ : ∃f1:Nat->Rat,∀k,f1 k=f (k+1):=⟨_,λ_=>rfl⟩;have b1:Bd n f1:=λi hi=>by rw[hf1,bf _ ()]
  obtain⟨one,h1⟩ : ∃one:Nat->Rat,∀k,one k=if k=0 then 1 else 0:=⟨_,λ_=>rfl⟩
  have one1:∀x,EV one x=1:=λx=>by
   rw[gv (n:=1) (λk hk=>by rw[h1,Yc ()]) ∅]
   show 0+one 0*1=(1:Rat);rw[h1,Yh rfl];grind
  have ef:∀k,f k=lin 0 1 f1 k+f 0*one k:=λk=>by
   cases k with
   | zero=>show f 0=f1 0*0+f 0*one 0;rw[h1,Yh rfl];grind
   | succ k=>show f (k+1)=f1 (k+1)*0+f1 k*1+f 0*one (k+1);rw[h1,Yc (),hf1];grind
  have z1:f1 19=0:=b1 _ ();have vf:∀x,EV f x=x*EV f1 x+f 0:=λx=>by rw[fW ef,lY,uA z1,one1];grind
  have df:∀x,EV (DF f) x=x*EV (DF f1) x+EV f1 x:=λx=>by
   have:∀k,DF f k=lin 0 1 (DF f1) k+f1 k:=λk=>by
    rw[show f=λk=>lin 0 1 f1 k+f 0*one k from funext ef,GG,A6]
    have:DF one k=0:=by show _*one (k+1)=0;rw[h1,Yc ()];grind
    rw[this];grind
   rw[fW this,sU,uA (by show _*f1 20=0;rw[b1 _ ()];grind)]
   grind
  obtain⟨u,hu⟩ : ∃u:Nat->Rat,u=λk=>pr f1 g n k:=⟨_,rfl⟩;have bu:Bd 19 u:=by rw[hu];exact (Bd.pr bg).mono ()
  have vu:∀x,EV u x=EV f1 x*EV g x:=λx=>by rw[hu,Hm b1 bg ()]
  have ih:=Bm bg n f1 u b1 () (bu.mono ()) vu;have eh:∀k,h k=lin 0 1 u k+f 0*g k:=pF bh (λk hk=>by
   obtain⟨j,rfl⟩ : ∃j,k=j+1:=⟨k-1,()⟩;show u (j+1)*0+u j*1+f 0*g (j+1)=0;rw[bu j (),bg _ ()];grind) λx=>by rw[e x,vf,lY,uA (bu 19 ()),vu];grind
  have dh:EV (DF h) x=x*EV (DF u) x+EV u x+f 0*EV (DF g) x:=by
   have:∀k,DF h k=(λk=>lin 0 1 (DF u) k+u k) k+f 0*DF g k:=λk=>by
    rw[show h=λk=>lin 0 1 u k+f 0*g k from funext eh,GG,A6]
   rw[fW this,lY,sU,uA (by show _*u 20=0;rw[bu _ ()];grind)]
   grind
  rw[dh,ih,vu,df,vf];grind
inductive pQ:List Int->List Int->List (List Int×List Int×Int×Int)->Prop
 | nought {F:List Int}:pQ F [] []
 | last {F G Q:List Int}{S:Int}:G≠[]->nz G (G.length-1)≠0->S≠0->Q.length+G.length=F.length+1->(∀k,S*nz F k=pz (nz Q) (nz G) Q.length k)->pQ F G []
 | more {F G R Q:List Int}{T S:Int}{rows:List (List Int×List Int×Int×Int)}:G≠[]->nz G (G.length-1)≠0->S≠0->T≠0->R≠[]->nz R (R.length-1)≠0->R.length<G.length->Q.length+G.length=F.length+1->(∀k,S*nz F k=pz (nz Q) (nz G) Q.length k+T*nz R k)->pQ G R rows->pQ F G ((R,Q,T,S)::rows)
def fR(G:List Int):List (List Int×List Int×Int×Int)->List Int
 | []=>G
 | row::rows=>fR row.1 rows
theorem ck(l:List Int):Bd l.length (ff l):=λi hi=>Fd hi
theorem mz{F G R Q:List Int}{S T:Int}(lq:Q.length+G.length<=20)(e:∀k,S*nz F k=pz (nz Q) (nz G) Q.length k+T*nz R k)(x:Rat):(S:Rat)*EV (ff F) x=EV (ff Q) x*EV (ff G) x+(T:Rat)*EV (ff R) x:=by
 have c:∀k,(λk=>0+(S:Rat)*ff F k) k=(λk=>pr (ff Q) (ff G) Q.length k) k+(T:Rat)*ff R k:=λk=>by
  have:=e k;have z:((S*nz F k:Int):Rat)=((pz (nz Q) (nz G) Q.length k+T*nz R k:Int):Rat):=by rw[this]
  rw[Ye,Y9,Ye,ix] at z;show 0+(S:Rat)*((nz F k:Int):Rat)=pr (λi=>((nz Q i:Int):Rat)) (λi=>((nz G i:Int):Rat)) Q.length k+(T:Rat)*((nz R k:Int):Rat);grind
 have h1:=fW c x;rw[lY,lY,Hm (ck Q) (ck G) lq,nQ (f:=λ_=>0) λ_=>rfl] at h1;grind
structure Hf (K:W.Frag)(x:Str)(st:Stmt):Prop where
 ex:∃f fd,dA K x x st f fd/\PySem.W.nsIn K mainGlobals x=some (some (.ref f))
theorem Hf.of{K:W.Frag}{x:Str}{st:Stmt}{f:Addr}{oc:Value}{od an:Option Addr}{osl:Array (Option Value)}{kV doc pm cdv ct:Value}(a:PySem.W.nsIn K mainGlobals x=some (some (.ref f)))(l:K.lookup f=some ⟨oc,od,.func (PySem.W.fnOf x x (fM st) (di st) (ak st) .none kV doc pm an cdv ct),osl⟩)(c:PySem.W.codeIn K cdv x=true)(k:PySem.W.keepIn K (.ref f)=true):Hf K x st:=⟨_,_,CK l c k,a⟩
structure Ef (P:Program)(w:World)(K:W.Frag)(mg:Str->Option Value)(base:Heap):Prop where
 ex:∃h:Heap,K.In h/\h.Ns mainGlobals mg
section
variable {P:Program}{w:World}{K:W.Frag}{mg:Str->Option Value}{base:Heap}{x:Str}{st:Stmt}{ps:List Str}{n:Nat}{sp:Sp}
theorem Hf.at_(hf:Hf K x st)(E:Ef P w K mg base):∃f fd,dA K x x st f fd/\mg x=some (.ref f)/\PySem.W.keepIn K (.ref f)=true:=by
 obtain⟨f,fd,F,a⟩:=hf.ex;obtain⟨h,X,G⟩:=E.ex;exact⟨f,fd,F,Yg X G a,F.kp⟩
theorem Hf.cal(hf:Hf K x st)(E:Ef P w K mg base)(ok:∀{f:Addr}{fd:FuncData},dA K x x st f fd->a9 P w K mg base dC n f fd ps sp)
  (b:∀(kV doc pm:Value)(an:Option Addr)(cdv ct:Value)(us:List Value),us.length=ps.length->bindArgs (PySem.W.fnOf x x (fM st) (di st) (ak st) .none kV doc pm an cdv ct) ⟨us,[]⟩=pure (ps.zip us):=by walk_at"bd"):cy P w K mg base x ps n sp:=by
 obtain⟨f,fd,F,a,k⟩:=hf.at_ E;exact⟨f,fd,ok F,a,k,F.binds b⟩
theorem Hf.calX(hf:Hf K x st)(E:Ef P w K mg base)(ok:∀{f:Addr}{fd:FuncData},dA K x x st f fd->a9 P w K mg base (mw P w) n f fd ps sp)
  (b:∀(kV doc pm:Value)(an:Option Addr)(cdv ct:Value)(us:List Value),us.length=ps.length->bindArgs (PySem.W.fnOf x x (fM st) (di st) (ak st) .none kV doc pm an cdv ct) ⟨us,[]⟩=pure (ps.zip us):=by walk_at"bd"):Al P w K mg base x ps n sp:=by
 obtain⟨f,fd,F,a,k⟩:=hf.at_ E;exact⟨f,fd,ok F,a,k,F.binds b⟩
end
def sg(x:Rat):Int:=if 0<x then 1 else if x<0 then -1 else 0
theorem cn{x:Rat}(h:0<x):sg x=1:=Yh h
theorem dN{x:Rat}(h:x<0):sg x = -1:=by
 unfold sg;rw[Yc ⋯,Yh h]
theorem tT:sg 0=0:=by decide +kernel
theorem cg(x:Rat):(0<x/\sg x=1)\/(x<0/\sg x = -1)\/(x=0/\sg x=0):=by
 by_cases h:0<x
 .exact .inl ⟨h,cn h⟩
 .by_cases h2:x<0
  .exact .inr (.inl ⟨h2,dN h2⟩)
  .obtain rfl:x=0:=⋯;exact .inr (.inr ⟨rfl,tT⟩)
theorem Im{x:Rat}:sg x=1↔0<x:=by
 refine⟨λh=>?_,cn⟩;rcases cg x with ⟨a,_⟩|⟨_,b⟩|⟨_,b⟩
 .exact a
 .nofun
 .nofun
theorem Du{x:Rat}:sg x = -1↔x<0:=by
 refine⟨λh=>?_,dN⟩;rcases cg x with ⟨_,b⟩|⟨a,_⟩|⟨_,b⟩
 .nofun
 .exact a
 .nofun
theorem fD{x:Rat}:sg x=0↔x=0:=by
 refine⟨λh=>?_,λh=>by rw[h];exact tT⟩
 rcases cg x with ⟨_,b⟩|⟨_,b⟩|⟨a,_⟩
 .nofun
 .nofun
 .exact a
theorem dP{x y:Rat}:sg (x*y)=sg x*sg y:=by
 rcases cg x with ⟨a,e⟩|⟨a,e⟩|⟨a,e⟩<;>rcases cg y with ⟨b,f⟩|⟨b,f⟩|⟨b,f⟩<;>rw[e,f]
 .exact cn (Yq a b)
 .exact dN (by have:=Yq a (show 0 < -y by grind);grind)
 .rw[b];exact fD.mpr ⋯
 .exact dN (by have:=Yq (show 0 < -x by grind) b;grind)
 .exact cn (by have:=Yq (show 0 < -x by grind) (show 0 < -y by grind);grind)
 .rw[b];exact fD.mpr ⋯
 .rw[a];exact fD.mpr ⋯
 .rw[a];exact fD.mpr ⋯
 .rw[a];exact fD.mpr ⋯
def Sm(e x:Rat):Prop:=-e<=x/\x<=e
theorem Sm.mono{a b x:Rat}(h:Sm a x)(l:a<=b):Sm b x:=by
 unfold Sm at h ⊢;grind
theorem Sm.mul{B e q g:Rat}(h:Sm B q)(h2:Sm e g):Sm (B*e) (q*g):=by
 obtain⟨a1,a2⟩:=h;obtain⟨b1,b2⟩:=h2;have p1:=Yk (show 0<=B-q by grind) (show 0<=e+g by grind)
 have p2:=Yk (show 0<=B+q by grind) (show 0<=e-g by grind)
 have p3:=Yk (show 0<=B-q by grind) (show 0<=e-g by grind)
 have p4:=Yk (show 0<=B+q by grind) (show 0<=e+g by grind)
 constructor
 .grind
 .grind
theorem Sm.add{a b x y:Rat}(h:Sm a x)(h2:Sm b y):Sm (a+b) (x+y):=by
 unfold Sm at *
 grind
theorem Sm.sub{a b x y:Rat}(h:Sm a x)(h2:Sm b y):Sm (a+b) (x-y):=by
 unfold Sm at *
 grind
def Wi(R x:Rat):Prop:=-R<=x/\x<=R
def hU(R:Rat)(f:Rat->Rat):Prop:=∃B:Rat,0<B /\ ∀x,Wi R x->Sm B (f x)
def wG(R:Rat)(f:Rat->Rat):Prop:=∃L:Rat,0<L /\ ∀x y,Wi R x->Wi R y->x<=y->Sm (L*(y-x)) (f y-f x)
theorem pi{u v e:Rat}(h:Sm e (v-u))(n:¬ (sg u=sg v/\sg u≠0)):Sm e u/\Sm e v:=by
 unfold Sm at *
 rcases cg u with ⟨a,e1⟩|⟨a,e1⟩|⟨a,e1⟩<;>rcases cg v with ⟨b,e2⟩|⟨b,e2⟩|⟨b,e2⟩<;>first|(exfalso;exact n ⟨e1.trans e2.symm,λz=>absurd (e1.symm.trans z) ∅⟩)|grind
def chg:Int->List Int->Nat
 | _,[]=>0
 | l,s::r=>if s=0 then chg l r else (if s = -l then 1 else 0)+chg s r
theorem yC{l:Int}{r:List Int}:chg l (0::r)=chg l r:=Yh rfl
theorem qg{l s:Int}{r:List Int}(h:s≠0):chg l (s::r)=(if s = -l then 1 else 0)+chg s r:=Yc h
theorem v8{s:Int}{r:List Int}(h:s≠0):chg 0 (s::r)=chg s r:=by
 rw[qg h,Yc (),Xd]
def iS(x:Rat)(l:List (Rat->Rat)):List Int:=l.map λf=>sg (f x)
inductive Ch (R:Rat):(Rat->Rat)->List (Rat->Rat)->Prop
 | one {f:Rat->Rat}{c:Rat}:c≠0->(∀x,f x=c)->Ch R f []
 | two {f g:Rat->Rat}:wG R f->Ch R g []->Ch R f [g]
 | more {f g h q:Rat->Rat}{a b:Rat}{l:List (Rat->Rat)}:wG R f->hU R q->0<a->0<b->(∀x,a*f x=q x*g x-b*h x)->Ch R g (h::l)->Ch R f (g::h::l)
theorem Ch.lip{R:Rat}{f:Rat->Rat}{l:List (Rat->Rat)}(h:Ch R f l):wG R f:=by
 cases h with
 | one _ e=>exact⟨1,∅,λx y _ _ l=>by rw[e,e];unfold Sm;grind⟩
 | two h _=>exact h
 | more h _ _ _ _ _=>exact h
def fQ(R:Rat)(f g:Rat->Rat):Prop:=∃e:Rat,0<e /\ ∀x,Wi R x->Sm e (f x)->Sm e (g x)->False
theorem Ch.notBoth{R:Rat}{f:Rat->Rat}{l:List (Rat->Rat)}(h:Ch R f l):∀g r,l=g::r->fQ R f g:=by
 induction h with
 | one _ _=>intro g r e;cases e
 | @two f g _ hg =>
  intro g' r e;cases e;cases hg with
  | @one _ c c0 ec =>
   rcases cg c with ⟨a,_⟩|⟨a,_⟩|⟨a,_⟩
   .exact⟨c/2,⋯,λx _ _ s=>by rw[ec] at s;unfold Sm at s;grind⟩
   .exact⟨-c/2,⋯,λx _ _ s=>by rw[ec] at s;unfold Sm at s;grind⟩
   .exact absurd a c0
 | @more f g h q a b l _ hq a0 b0 e _ ih =>
  intro g' r e';cases e';obtain⟨B,B0,hB⟩:=hq;obtain⟨ε,ε0,hε⟩:=ih h l rfl;have s0:0<B+a+b:=⋯;have t0:0<b/(B+a+b):=by rw[Y5 s0];grind
  refine⟨ε*(b/(B+a+b)),Yq ε0 t0,λx wx sf sg'=>hε x wx ?_ ?_⟩
  .refine sg'.mono ?_;have t1:b/(B+a+b)<=1:=Rat.not_lt.mp λz=>by rw[Y5 s0] at z;grind
   have:=Yk (Yl ε0) (show 0<=1-b/(B+a+b) by grind)
   grind
  .obtain⟨t,ht⟩ : ∃t,t=ε*(b/(B+a+b)):=⟨_,rfl⟩;rw[<-ht] at sf sg';have tt:t*(B+a+b)=ε*b:=by rw[ht];grind
   have s1:=((hB x wx).mul sg').sub (Sm.mul (B:=a) (q:=a) ⟨⋯,⋯⟩ sf);have e1:q x*g x-a*f x=b*h x:=by have:=e x;grind
   rw[e1] at s1;obtain⟨u1,u2⟩:=s1;have tp:0<t:=by rw[ht];exact Yq ε0 t0
   have tb:=Yq tp b0;have k:B*t+a*t<=b*ε:=⋯;constructor
   .refine Rat.not_lt.mp λz=>?_;have:=Yq b0 (show 0 < -ε-h x by grind)
    grind
   .refine Rat.not_lt.mp λz=>?_;have:=Yq b0 (show 0<h x-ε by grind)
    grind
theorem Bh{R a b:Rat}{f g h q:Rat->Rat}(hq:hU R q)(a0:0<a)(b0:0<b)(e:∀x,a*f x=q x*g x-b*h x)(nb:fQ R g h):∃η:Rat,0<η /\ ∀x,Wi R x->Sm η (g x)->sg (f x) = -sg (h x)/\sg (h x)≠0:=by
 obtain⟨B,B0,hB⟩:=hq;obtain⟨ε,ε0,hε⟩:=nb;have s0:0<B+b:=⋯;have t0:0<b/(B+b):=by rw[Y5 s0];grind
 refine⟨ε*(b/(B+b)),Yq ε0 t0,λx wx s=>?_⟩;have t1:b/(B+b)<=1:=Rat.not_lt.mp λz=>by rw[Y5 s0] at z;grind
 have s2:Sm ε (g x):=s.mono (by
  have:=Yk (Yl ε0) (show 0<=1-b/(B+b) by grind)
  grind)
 have nh:¬ Sm ε (h x):=λz=>hε x wx s2 z;obtain⟨t,ht⟩ : ∃t,t=ε*(b/(B+b)):=⟨_,rfl⟩;rw[<-ht] at s;have tt:t*(B+b)=ε*b:=by rw[ht];grind
 have tp:0<t:=by rw[ht];exact Yq ε0 t0
 have s1:=(hB x wx).mul s;have e1:=e x;have tb:=Yq tp b0;obtain⟨u1,u2⟩:=s1;by_cases hp:ε<h x
 .have p1:=Yq b0 (show 0<h x-ε by grind)
  have fn:f x<0:=Rat.not_le.mp λz=>by
   have:=Yk (Yl a0) z;grind
  exact⟨by rw[dN fn,cn ⋯],by rw[cn ⋯];decide⟩
 .have hn:h x < -ε:=by
   unfold Sm at nh;grind
  have p1:=Yq b0 (show 0 < -ε-h x by grind)
  have fp:0<f x:=Rat.not_le.mp λz=>by
   have:=Yk (Yl a0) (show 0 <= -f x by grind)
   grind
  exact⟨by rw[cn fp,dN ⋯];decide,by rw[dN ⋯];decide⟩
def Gf(R:Rat)(f:Rat->Rat)(l:List (Rat->Rat)):Prop:=∃δ:Rat,0<δ /\ ∀c d,Wi R c->Wi R d->c<=d->d-c<=δ->sg (f c)=sg (f d)->sg (f c)≠0->chg (sg (f c)) (iS c l)=chg (sg (f d)) (iS d l)
theorem qJ{a b c:Rat}(h1:0<a)(h2:0<b)(h3:0<c):∃m:Rat,0<m/\m<=a/\m<=b/\m<=c:=by
 by_cases x:a<=b
 .by_cases y:a<=c
  .exact⟨a,h1,⋯,x,y⟩
  .exact⟨c,h3,⋯,⋯,⋯⟩
 .by_cases y:b<=c
  .exact⟨b,h2,⋯,⋯,y⟩
  .exact⟨c,h3,⋯,⋯,⋯⟩
theorem wG.near{R:Rat}{f:Rat->Rat}(h:wG R f) {e:Rat}(e0:0<e):∃δ:Rat,0<δ /\ ∀c d,Wi R c->Wi R d->c<=d->d-c<=δ->Sm e (f d-f c):=by
 obtain⟨L,L0,hL⟩:=h;have p:0<e/L:=by rw[Y5 L0];grind
 refine⟨e/L,p,λc d wc wd l n=>(hL c d wc wd l).mono ?_⟩;have:=Yk (Yl L0) (show 0<=e/L-(d-c) by grind)
 have z:L*(e/L)=e:=⋯;grind
theorem yg{s t:Int}{r:List Int}(hs:s=1\/s = -1)(ht:t=0\/t=1\/t = -1):chg s (t::(-s)::r)=1+chg (-s) r:=by
 rcases hs with rfl|rfl<;>rcases ht with rfl|rfl|rfl<;>simp[chg]
theorem eT(x:Rat):sg x=0\/sg x=1\/sg x = -1:=by
 rcases cg x with ⟨_,e⟩|⟨_,e⟩|⟨_,e⟩
 .exact .inr (.inl e)
 .exact .inr (.inr e)
 .exact .inl e
theorem Ch.keeps{R:Rat}{f:Rat->Rat}{l:List (Rat->Rat)}(h:Ch R f l):Gf R f l /\ ∀g r,l=g::r->Gf R g r:=by
 induction h with
 | one _ _=>exact⟨⟨1,∅,λ_ _ _ _ _ _ _ _=>rfl⟩,λg r e=>by cases e⟩
 | @two f g lf hg ih =>
  refine⟨?_,λg' r e=>by cases e;exact ih.1⟩
  cases hg with
  | @one _ c c0 ec =>
   refine⟨1,∅,λc' d' _ _ _ _ e _=>?_⟩;show chg _ [sg (g c')]=chg _ [sg (g d')];rw[ec,ec,e]
 | @more f g h q a b l lf hq a0 b0 e hg ih =>
  refine⟨?_,λg' r e=>by cases e;exact ih.1⟩
  obtain⟨η,η0,op⟩:=Bh hq a0 b0 e (hg.notBoth h l rfl);obtain⟨δ1,d1,k1⟩:=ih.1;obtain⟨δ2,d2,k2⟩:=ih.2 h l rfl;obtain⟨δ3,d3,k3⟩:=hg.lip.near η0;obtain⟨δ,d0,m1,m2,m3⟩:=qJ d1 d2 d3;refine⟨δ,d0,λc d wc wd cd n ef nf=>?_⟩;show chg _ (sg (g c)::iS c (h::l))=chg _ (sg (g d)::iS d (h::l));by_cases same:sg (g c)=sg (g d)/\sg (g c)≠0
  .rw[qg same.2,qg (by rw[<-same.1];exact same.2),k1 c d wc wd cd ⋯ same.1 same.2,same.1,ef]
  .obtain⟨sc,sd⟩:=pi (k3 c d wc wd cd ⋯) same;obtain⟨oc,nc⟩:=op c wc sc;obtain⟨od,nd⟩:=op d wd sd;have hh:sg (h c)=sg (h d):=();have sf:sg (f d)=1\/sg (f d) = -1:=by
    have:=eT (f d);nofun
   show chg _ (sg (g c)::sg (h c)::iS c l)=chg _ (sg (g d)::sg (h d)::iS d l);have e1:sg (h c) = -sg (f d):=();have e2:sg (h d) = -sg (f d):=();have k:=k2 c d wc wd cd ⋯ hh nc;rw[e1,e2] at k;rw[ef,e1,e2,yg sf (eT _),yg sf (eT _),k]
def Vr(x:Rat)(l:List (Rat->Rat)):Nat:=chg 0 (iS x l)
def v1(f g:Rat->Rat)(x:Rat):Nat:=if sg (f x)*sg (g x) = -1 then 1 else 0
theorem DN{f g:Rat->Rat}{l:List (Rat->Rat)}{x:Rat}(h:sg (g x)≠0):Vr x (f::g::l)=v1 f g x+chg (sg (g x)) (iS x l):=by
 show chg 0 (sg (f x)::sg (g x)::iS x l)=_;unfold v1;rcases eT (f x) with e|e|e
 .rw[e,yC,v8 h,Int.zero_mul,Yc ∅,Xd]
 .rw[e,v8 ∅,qg h,YK]
 .rw[e,v8 ∅,qg h];have:=eT (g x);rcases this with z|z|z<;>rw[z]<;>rfl
theorem AJ{f:Rat->Rat}{l:List (Rat->Rat)}{x:Rat}(h:sg (f x)≠0):Vr x (f::l)=chg (sg (f x)) (iS x l):=v8 h
def FO(R:Rat)(f g:Rat->Rat)(A:Rat->Nat):Prop:=∃δ:Rat,0<δ /\ ∀c d,Wi R c->Wi R d->c<=d->d-c<=δ->(sg (f c)=sg (f d)/\sg (f c)≠0/\A c=A d)\/(sg (g c)=sg (g d)/\sg (g c)≠0/\v1 f g c+A c=v1 f g d+A d)
theorem Ch.counts{R:Rat}{f g:Rat->Rat}{l:List (Rat->Rat)}{A:Rat->Nat}(h:Ch R f (g::l))(loc:FO R f g A) {a b:Rat}(wa:Wi R a)(wb:Wi R b)(ab:a<=b):Vr a (f::g::l)+A a=Vr b (f::g::l)+A b:=by
 obtain⟨δ1,d1,k1⟩:=h.keeps.1;obtain⟨δ2,d2,k2⟩:=h.keeps.2 g l rfl;obtain⟨δ3,d3,k3⟩:=loc;obtain⟨δ,d0,m1,m2,m3⟩:=qJ d1 d2 d3;have step:∀c d,Wi R c->Wi R d->c<=d->d-c<=δ->Vr c (f::g::l)+A c=Vr d (f::g::l)+A d:=λc d wc wd cd n=>by
  rcases k3 c d wc wd cd ⋯ with ⟨e,nz,ea⟩|⟨e,nz,ea⟩
  .rw[AJ nz,AJ (by rw[<-e];exact nz),k1 c d wc wd cd ⋯ e nz,ea]
  .rw[DN nz,DN (by rw[<-e];exact nz),k2 c d wc wd cd ⋯ e nz]
   nofun
 have all:∀(n:Nat)(c:Rat),Wi R c->c<=b->b-c<=(n:Rat)*δ->Vr c (f::g::l)+A c=Vr b (f::g::l)+A b:=by
  intro n;induction n with
  | zero =>
   intro c _ cb z;obtain rfl:c=b:=by
    have:((0:Nat):Rat)=0:=rfl;grind
   rfl
  | succ n ih =>
   intro c wc cb z;by_cases y:b-c<=δ
   .exact step c b wc wb cb y
   .have wc':Wi R (c+δ):=by unfold Wi at *;grind
    rw[step c (c+δ) wc wc' ⋯ ⋯];refine ih (c+δ) wc' ⋯ ?_;have:((n+1:Nat):Rat)=(n:Rat)+1:=by rw[Rat.natCast_add];rfl
    rw[this] at z;grind
 obtain⟨n,hn⟩ : ∃n:Nat,b-a<=(n:Rat)*δ:=by
  obtain⟨x,hx⟩ : ∃x,x=(b-a)/δ:=⟨_,rfl⟩;refine⟨(x.ceil).toNat,?_⟩;have h1:x<=((x.ceil:Int):Rat):=Rat.le_ceil;have h2:((x.ceil:Int):Rat)<=((x.ceil.toNat:Nat):Rat):=by
   rw[show ((x.ceil.toNat:Nat):Rat)=(((x.ceil.toNat:Nat):Int):Rat) from rfl]
   exact Rat.intCast_le_intCast.mpr (Int.self_le_toNat _)
  have h3:=Yk (Yl d0) (show 0<=((x.ceil.toNat:Nat):Rat)-x by grind)
  have h4:x*δ=b-a:=by rw[hx];grind
  grind
 exact all n a wa ab hn
inductive aU where
 | line (r:Rat)
 | root (n:Rat)
 | none (n:Rat)
def aU.ok:aU->Prop
 | .line _=>True
 | .root n=>0<n /\ ∀r:Rat,r*r≠n
 | .none n=>0<n
def aU.p:aU->Rat->Rat
 | .line r,x=>x-r
 | .root n,x=>x*x-n
 | .none n,x=>x*x+n
def aU.d:aU->Rat->Rat
 | .line _,_=>1
 | .root _,x=>2*x
 | .none _,x=>2*x
def aU.A:aU->Rat->Nat
 | .line r,x=>if r<=x then 1 else 0
 | .root n,x=>if x*x<n then 1 else if x<0 then 0 else 2
 | .none _,_=>0
def cq:List (aU×Nat)->Rat->Rat
 | [],_=>1
 | q::l,x=>q.1.p x*cq l x
def fP:List (aU×Nat)->Rat->Rat
 | [],_=>0
 | q::l,x=>((q.2:Nat):Rat)*q.1.d x*cq l x+q.1.p x*fP l x
def bQ:List (aU×Nat)->Rat->Nat
 | [],_=>0
 | q::l,x=>q.1.A x+bQ l x
theorem oJ{l l':List (aU×Nat)}(h:l.Perm l')(x:Rat):cq l x=cq l' x:=by
 induction h with
 | nil=>rfl
 | cons q _ ih=>show q.1.p x*_=q.1.p x*_;rw[ih]
 | swap a b l=>show b.1.p x*(a.1.p x*cq l x)=a.1.p x*(b.1.p x*cq l x);grind
 | trans _ _ h1 h2=>rw[h1,h2]
theorem uY{l l':List (aU×Nat)}(h:l.Perm l')(x:Rat):fP l x=fP l' x:=by
 induction h with
 | nil=>rfl
 | cons q h ih=>show _*_*cq _ x+q.1.p x*fP _ x=_*_*cq _ x+q.1.p x*fP _ x;rw[ih,oJ h]
 | swap a b l =>
  show ((b.2:Nat):Rat)*b.1.d x*(a.1.p x*cq l x)+b.1.p x*(((a.2:Nat):Rat)*a.1.d x*cq l x+a.1.p x*fP l x)=((a.2:Nat):Rat)*a.1.d x*(b.1.p x*cq l x)+a.1.p x*(((b.2:Nat):Rat)*b.1.d x*cq l x+b.1.p x*fP l x);grind
 | trans _ _ h1 h2=>rw[h1,h2]
theorem jK{l l':List (aU×Nat)}(h:l.Perm l')(x:Rat):bQ l x=bQ l' x:=by
 induction h with
 | nil=>rfl
 | cons q _ ih=>show q.1.A x+_=q.1.A x+_;rw[ih]
 | swap a b l=>show b.1.A x+(a.1.A x+bQ l x)=a.1.A x+(b.1.A x+bQ l x);nofun
 | trans _ _ h1 h2=>rw[h1,h2]
theorem hU.const{R:Rat}(c:Rat):hU R λ_=>c:=by
 rcases cg c with ⟨a,_⟩|⟨a,_⟩|⟨a,_⟩
 .exact⟨c,a,λx _=>by unfold Sm;grind⟩
 .exact⟨-c,⋯,λx _=>by unfold Sm;grind⟩
 .exact⟨1,∅,λx _=>by unfold Sm;grind⟩
theorem hU.id{R:Rat}(h:0<=R):hU R λx=>x:=⟨R+1,⋯,λx w=>by unfold Sm;unfold Wi at w;grind⟩
theorem hU.mul{R:Rat}{f g:Rat->Rat}(h:hU R f)(h2:hU R g):hU R λx=>f x*g x:=by
 obtain⟨a,a0,ha⟩:=h;obtain⟨b,b0,hb⟩:=h2;exact⟨a*b,Yq a0 b0,λx w=>(ha x w).mul (hb x w)⟩
theorem hU.add{R:Rat}{f g:Rat->Rat}(h:hU R f)(h2:hU R g):hU R λx=>f x+g x:=by
 obtain⟨a,a0,ha⟩:=h;obtain⟨b,b0,hb⟩:=h2;exact⟨a+b,⋯,λx w=>(ha x w).add (hb x w)⟩
theorem hU.congr{R:Rat}{f g:Rat->Rat}(h:hU R f)(e:∀x,g x=f x):hU R g:=by
 obtain⟨a,a0,ha⟩:=h;exact⟨a,a0,λx w=>by rw[e];exact ha x w⟩
theorem aU.bp{R:Rat}(h:0<=R):∀q:aU,hU R q.p
 | .line r=>((hU.id h).add (.const (-r))).congr λx=>by show x-r=x + -r;grind
 | .root n=>(((hU.id h).mul (.id h)).add (.const (-n))).congr λx=>by show x*x-n=x*x + -n;grind
 | .none n=>((hU.id h).mul (.id h)).add (.const n)
theorem aU.bd{R:Rat}(h:0<=R):∀q:aU,hU R q.d
 | .line _=>.const 1
 | .root _=>(hU.const 2).mul (.id h)
 | .none _=>(hU.const 2).mul (.id h)
theorem uv{R:Rat}(h:0<=R):∀l:List (aU×Nat),hU R (cq l)
 | []=>.const 1
 | q::l=>(q.1.bp h).mul (uv h l)
theorem sF{R:Rat}(h:0<=R):∀l:List (aU×Nat),hU R (fP l)
 | []=>.const 0
 | q::l=>(((hU.const _).mul (q.1.bd h)).mul (uv h l)).add ((q.1.bp h).mul (sF h l))
theorem aU.lip{R:Rat}(h:0<=R):∀q:aU,wG R q.p
 | .line r=>⟨1,∅,λx y _ _ l=>by show Sm _ (y-r-(x-r));unfold Sm;grind⟩
 | .root n=>⟨2*R+1,⋯,λx y wx wy l=>by
   show Sm _ (y*y-n-(x*x-n));have s:Sm (2*R+1) (x+y):=by unfold Sm;unfold Wi at wx wy;grind
   have:=s.mul (show Sm (y-x) (y-x) by unfold Sm;grind)
   rwa [show y*y-n-(x*x-n)=(x+y)*(y-x) by grind]⟩
 | .none n=>⟨2*R+1,⋯,λx y wx wy l=>by
   show Sm _ (y*y+n-(x*x+n));have s:Sm (2*R+1) (x+y):=by unfold Sm;unfold Wi at wx wy;grind
   have:=s.mul (show Sm (y-x) (y-x) by unfold Sm;grind)
   rwa [show y*y+n-(x*x+n)=(x+y)*(y-x) by grind]⟩
theorem wG.bdd{R:Rat}(h:0<=R) {f:Rat->Rat}(lf:wG R f):hU R f:=by
 obtain⟨L,L0,hL⟩:=lf;obtain⟨a,a0,ha⟩:=hU.const (R:=R) (f 0);have w0:Wi R 0:=by unfold Wi;grind
 have lr:=Yk (Yl L0) h;refine⟨a+L*R,⋯,λx wx=>?_⟩;have h0:=ha x wx;by_cases y:0<=x
 .have:=hL 0 x w0 wx y;have m:=Yk (Yl L0) (show 0<=R-x by unfold Wi at wx;grind)
  unfold Sm at *
  grind
 .have:=hL x 0 wx w0 ⋯;have m:=Yk (Yl L0) (show 0<=R+x by unfold Wi at wx;grind)
  unfold Sm at *
  grind
def Bg(e x:Rat):Prop:=e<=x\/x <= -e
theorem Bg.of{e x:Rat}(h:¬ Sm e x):Bg e x:=by
 unfold Sm at h;unfold Bg;grind
theorem Bg.no{a b x:Rat}(h:Bg a x)(l:b<a):¬ Sm b x:=by
 unfold Bg at h;unfold Sm;grind
theorem Bg.mul{a b x y:Rat}(h:Bg a x)(h2:Bg b y)(a0:0<=a)(b0:0<=b):Bg (a*b) (x*y):=by
 rcases h with h|h<;>rcases h2 with k|k
 .left
  have:=Yk (show 0<=x-a by grind) (show 0<=y by grind)
  have:=Yk a0 (show 0<=y-b by grind)
  grind
 .right
  have:=Yk (show 0<=x-a by grind) (show 0 <= -y by grind)
  have:=Yk a0 (show 0 <= -y-b by grind)
  grind
 .right
  have:=Yk (show 0 <= -x-a by grind) (show 0<=y by grind)
  have:=Yk a0 (show 0<=y-b by grind)
  grind
 .left
  have:=Yk (show 0 <= -x-a by grind) (show 0 <= -y by grind)
  have:=Yk a0 (show 0 <= -y-b by grind)
  grind
theorem Bg.ne{e x:Rat}(h:Bg e x)(e0:0<e):sg x≠0:=λz=>by
 have:=fD.mp z;unfold Bg at h;grind
def dQ(e:Rat):Nat->Rat
 | 0=>1
 | k+1=>e*dQ e k
theorem eV{e:Rat}(h:0<e):∀k,0<dQ e k
 | 0=>by show (0:Rat)<1;decide
 | k+1=>Yq h (eV h k)
theorem sJ{e x:Rat}(e0:0<e):∀{l:List (aU×Nat)},(∀q∈l,¬ Sm e (q.1.p x))->Bg (dQ e l.length) (cq l x)
 | [],_=>.inl (by show (1:Rat)<=1;grind)
 | q::l,h=>(Bg.of (h q Yj)).mul (sJ e0 λq' hq=>h q' (Yf _ hq)) (Yl e0) (Yl (eV e0 _))
theorem Ct{α:Type}{P:α->Rat->Prop}(mono:∀a e e',P a e->0<e'->e'<=e->P a e'):∀l:List α,(∀a∈l,∃e:Rat,0<e/\P a e) -> ∃e:Rat,0<e /\ ∀a∈l,P a e
 | [],_=>⟨1,∅,λ_ h=>by cases h⟩
 | a::l,h=>by
  obtain⟨e,e0,he⟩:=h a Yj;obtain⟨f,f0,hf⟩:=Ct mono l λb hb=>h b (Yf _ hb);obtain⟨m,m0,m1,m2,_⟩:=qJ e0 f0 f0;refine⟨m,m0,λb hb=>?_⟩;rcases YY.mp hb with rfl|hb
  .exact mono _ _ _ he m0 m1
  .exact mono _ _ _ (hf b hb) m0 m2
theorem apart{R:Rat}(R0:0<=R) {f g a b:Rat->Rat}{c:Rat}(ha:hU R a)(hb:hU R b)(c0:c≠0)(e:∀x,a x*f x+b x*g x=c):fQ R f g:=by
 obtain⟨A,A0,hA⟩:=ha;obtain⟨B,B0,hB⟩:=hb;obtain⟨k,k0,hk⟩ : ∃k:Rat,0<k/\(k<=c\/k <= -c):=by
  rcases cg c with ⟨z,_⟩|⟨z,_⟩|⟨z,_⟩
  .exact⟨c,z,.inl ⋯⟩
  .exact⟨-c,⋯,.inr ⋯⟩
  .exact absurd z c0
 have s0:0<A+B:=⋯;have t0:0<k/2/(A+B):=by rw[Y5 s0];grind
 refine⟨k/2/(A+B),t0,λx wx sf sg'=>?_⟩;have s1:=((hA x wx).mul sf).add ((hB x wx).mul sg');rw[e] at s1;have:A*(k/2/(A+B))+B*(k/2/(A+B))=k/2:=⋯;rw[this] at s1;unfold Sm at s1;grind
theorem fQ.symm{R:Rat}{f g:Rat->Rat}(h:fQ R f g):fQ R g f:=by
 obtain⟨e,e0,h⟩:=h;exact⟨e,e0,λx w a b=>h x w b a⟩
theorem tJ{R n:Rat}{g:Rat->Rat}(n0:0<n):fQ R (aU.none n).p g:=⟨n/2,⋯,λx _ s _=>by
 have s:Sm (n/2) (x*x+n):=s;have:0<=x*x:=jk x;unfold Sm at s;grind⟩
theorem rM{R r n:Rat}(R0:0<=R)(hn:∀r:Rat,r*r≠n):fQ R (aU.line r).p (aU.root n).p:=by
 refine apart R0 (a:=λx=>-(x+r)) (b:=λ_=>1) (c:=r*r-n) ((((hU.id R0).add (.const r)).mul (.const (-1))).congr λx=>by grind) (.const 1) (λz=>hn r ⋯) λx=>?_
 show -(x+r)*(x-r)+1*(x*x-n)=r*r-n;grind
theorem aU.apart{R:Rat}(R0:0<=R) {q q':aU}(h:q.ok)(h':q'.ok)(n:q≠q'):fQ R q.p q'.p:=by
 cases q with
 | none m=>exact tJ h
 | line r =>
  cases q' with
  | none m=>exact (tJ h').symm
  | line s =>
   refine L2.apart R0 (a:=λ_=>1) (b:=λ_=>-1) (c:=s-r) (.const 1) (.const (-1)) (λz=>n (by rw[show r=s by grind])) λx=>?_
   show 1*(x-r) + -1*(x-s)=s-r;grind
  | root m=>exact rM R0 h'.2
 | root m =>
  cases q' with
  | none m'=>exact (tJ h').symm
  | line s=>exact (rM R0 h.2).symm
  | root m' =>
   refine L2.apart R0 (a:=λ_=>1) (b:=λ_=>-1) (c:=m'-m) (.const 1) (.const (-1)) (λz=>n (by rw[show m=m' by grind])) λx=>?_
   show 1*(x*x-m) + -1*(x*x-m')=m'-m;grind
def aU.wd:aU->Rat->Prop
 | .line _,_=>True
 | .root n,e=>e<=1/\e<=n/4
 | .none n,e=>e<=n/4
theorem aU.steep(q:aU)(h:q.ok):∃e:Rat,0<e/\q.wd e /\ ∀x,Sm e (q.p x)->Bg e (q.d x):=by
 cases q with
 | line r=>exact⟨1,∅,trivial,λx _=>.inl (by show (1:Rat)<=1;grind)⟩
 | none n =>
  have n0:0<n:=h;refine⟨n/4,⋯,by show n/4<=n/4;grind,λx s=>?_⟩
  have s:Sm (n/4) (x*x+n):=s;have:=jk x;unfold Sm at s;grind
 | root n =>
  obtain⟨n0,_⟩:=h;obtain⟨m,m0,m1,m2,_⟩:=qJ (show (0:Rat)<1 by decide) (show 0<n/4 by grind) (show 0<n/4 by grind)
  refine⟨m,m0,⟨m1,m2⟩,λx s=>?_⟩;have s:Sm m (x*x-n):=s;show Bg m (2*x);refine Bg.of λz=>?_;have:=z.mul z;have k:=Yk (Yl m0) (show 0<=1-m by grind)
  unfold Sm at *
  grind
theorem DZ{a b e:Rat}(h:Bg (2*e) a)(k:Sm e b)(e0:0<e):sg (a+b)=sg a/\Bg e (a+b):=by
 unfold Sm at k;rcases h with h|h
 .exact⟨by rw[cn ⋯,cn ⋯],.inl ⋯⟩
 .exact⟨by rw[dN ⋯,dN ⋯],.inr ⋯⟩
theorem Bg.mono{a b x:Rat}(h:Bg a x)(l:b<=a):Bg b x:=by
 unfold Bg at *
 grind
def Kj(R:Rat)(l:List (aU×Nat))(q:aU×Nat)(e:Rat):Prop:=q.1.wd e /\ ∃l',l.Perm (q::l') /\ ∀x,Wi R x->Sm e (q.1.p x)->Bg e (fP l x)/\Bg e (cq l' x)/\sg (fP l x)=sg (q.1.d x)*sg (cq l' x)/\sg (q.1.d x)≠0 /\ ∀q'∈l',¬ Sm e (q'.1.p x)
theorem Kj.mono{R:Rat}{l:List (aU×Nat)}{q:aU×Nat}{e e':Rat}(h:Kj R l q e)(e0:0<e')(le:e'<=e):Kj R l q e':=by
 obtain⟨hw,l',p,h⟩:=h;refine⟨?_,l',p,λx wx s=>?_⟩
 .cases hq:q.1 with
  | line _=>trivial
  | root n=>rw[hq] at hw;exact⟨by have:=hw.1;grind,by have:=hw.2;grind⟩
  | none n =>
   rw[hq] at hw;have hw:e<=n/4:=hw;show e'<=n/4;grind
 .obtain⟨a,b,c,d,f⟩:=h x wx (s.mono le);exact⟨a.mono le,b.mono le,c,d,λq' hq z=>f q' hq (z.mono le)⟩
theorem FG{R:Rat}(R0:0<=R) {l:List (aU×Nat)}(ok:∀q∈l,q.1.ok/\1<=q.2)(un:l.Pairwise λa b=>a.1≠b.1) {q:aU×Nat}(hq:q∈l):∃e:Rat,0<e/\Kj R l q e:=by
 obtain⟨l',p⟩ : ∃l',l.Perm (q::l'):=by
  obtain⟨s,t,rfl⟩:=List.append_of_mem hq;exact⟨s++t,XW⟩
 have un':=(p.pairwise_iff (λh=>XI h)).mp un;obtain⟨uq,_⟩:=List.pairwise_cons.mp un';have ok':∀q'∈l',q'.1.ok/\1<=q'.2:=λq' h=>ok q' (p.mem_iff.mpr (Yf _ h));obtain⟨η,η0,hη⟩:=Ct (P:=λ(q':aU×Nat) e=>∀x,Wi R x->Sm e (q.1.p x)->Sm e (q'.1.p x)->False) (λa e e' h _ le x w s1 s2=>h x w (s1.mono le) (s2.mono le)) l' λq' h=>by
  obtain⟨e,e0,he⟩:=aU.apart R0 (ok q hq).1 (ok' q' h).1 (uq q' h);exact⟨e,e0,he⟩
 obtain⟨σ,σ0,hw,hσ⟩:=q.1.steep (ok q hq).1;obtain⟨M,M0,hM⟩:=sF R0 l';have π0:=eV η0 l'.length;obtain⟨π,hπ⟩ : ∃π,π=dQ η l'.length:=⟨_,rfl⟩;rw[<-hπ] at π0;have sp:=Yq σ0 π0;have sp2:0<σ*π/2/M:=by rw[Y5 M0];grind
 obtain⟨t1,t10,t11,t12,t13⟩:=qJ η0 σ0 sp2;obtain⟨e,e0,e1,e2,e3⟩:=qJ t10 (show 0<σ*π/2 by grind) π0
 refine⟨e,e0,?_,l',p,λx wx s=>?_⟩
 .cases hq':q.1 with
  | line _=>trivial
  | root n=>rw[hq'] at hw;exact⟨by have:=hw.1;grind,by have:=hw.2;grind⟩
  | none n =>
   rw[hq'] at hw;have hw:σ<=n/4:=hw;show e<=n/4;grind
 have b1:Bg σ (q.1.d x):=hσ x (s.mono ⋯);have b2:Bg π (cq l' x):=by
  rw[hπ];exact sJ η0 λq' h z=>hη q' h x wx (s.mono ⋯) z
 have b3:=b1.mul b2 (Yl σ0) (Yl π0);have m1:(1:Rat)<=((q.2:Nat):Rat):=by
  have:=(ok q hq).2;have z:((1:Nat):Rat)<=((q.2:Nat):Rat):=Rat.natCast_le_natCast.mpr this;exact z
 have b4:Bg (σ*π) (((q.2:Nat):Rat)*q.1.d x*cq l' x):=by
  have:=(show Bg 1 ((q.2:Nat):Rat) from .inl m1).mul b3 ∅ (Yl sp)
  rw[Rat.one_mul] at this
  rwa [Rat.mul_assoc]
 have s2:=s.mul (hM x wx);have le:e*M<=σ*π/2:=by
  have k:e<=σ*π/2/M:=⋯;have:=Yk (Yl M0) (show 0<=σ*π/2/M-e by grind)
  have z:M*(σ*π/2/M)=σ*π/2:=⋯;grind
 have e5:fP l x=((q.2:Nat):Rat)*q.1.d x*cq l' x+q.1.p x*fP l' x:=uY p x;obtain⟨n1,n2⟩:=DZ (e:=σ*π/2) (b4.mono ⋯) (s2.mono le) ⋯;rw[<-e5] at n1 n2;refine⟨n2.mono e2,b2.mono e3,?_,b1.ne σ0,λq' h z=>hη q' h x wx (s.mono ⋯) (z.mono ⋯)⟩;rw[n1,dP,dP,cn (show 0<((q.2:Nat):Rat) by grind),YK]
theorem aU.same{q:aU}{e c d:Rat}(h:q.ok)(hw:q.wd e)(cd:c<=d)(n:d-c<=e)(s:sg (q.p c)=sg (q.p d))(s0:sg (q.p c)≠0):q.A c=q.A d:=by
 cases q with
 | none _=>rfl
 | line r =>
  show (if r<=c then 1 else 0)=(if r<=d then 1 else 0)
  have s:sg (c-r)=sg (d-r):=s;have s0:sg (c-r)≠0:=s0;rcases cg (c-r) with ⟨a,e1⟩|⟨a,e1⟩|⟨a,e1⟩
  .rw[Yh ⋯,Yh ⋯]
  .rw[e1] at s;have:=Du.mp s.symm;rw[Yc ⋯,Yc ⋯]
  .exact absurd e1 s0
 | root m =>
  obtain⟨m0,_⟩:=h;obtain⟨w1,w2⟩:=hw;show (if c*c<m then 1 else if c<0 then 0 else 2)=(if d*d<m then 1 else if d<0 then 0 else 2)
  have s:sg (c*c-m)=sg (d*d-m):=s;have s0:sg (c*c-m)≠0:=s0;rcases cg (c*c-m) with ⟨a,e1⟩|⟨a,e1⟩|⟨a,e1⟩
  .rw[e1] at s;have b:=Im.mp s.symm;rw[Yc (show ¬ c*c<m by grind),Yc (show ¬ d*d<m by grind)]
   by_cases z:c<0
   .rw[Yh z,Yh];refine Rat.not_le.mp λy=>?_;have k1:=Yk y (show 0<=e-d by grind)
    have k2:=Yk (show 0<=e by grind) (show 0<=1-d by grind)
    grind
   .rw[Yc z,Yc (show ¬ d<0 by grind)]
  .rw[e1] at s;have b:=Du.mp s.symm;rw[Yh (show c*c<m by grind),Yh (show d*d<m by grind)]
  .exact absurd e1 s0
theorem aU.passed{q:aU}{e c d:Rat}(h:q.ok)(hw:q.wd e)(e0:0<e)(cd:c<=d)(n:d-c<=e)(sc:Sm e (q.p c))(sd:Sm e (q.p d)):(if sg (q.p c)*sg (q.d c) = -1 then 1 else 0)+q.A c=(if sg (q.p d)*sg (q.d d) = -1 then 1 else 0)+q.A d:=by
 cases q with
 | none m =>
  have hw:e<=m/4:=hw;have h:0<m:=h;have sc:Sm e (c*c+m):=sc;have:=jk c;unfold Sm at sc;grind
 | line r =>
  have key:∀x:Rat,(if sg (x-r)*sg (1:Rat) = -1 then 1 else 0)+(if r<=x then 1 else 0)=(1:Nat):=λx=>by
   rw[cn (show (0:Rat)<1 by decide),XN]
   rcases cg (x-r) with ⟨a,e1⟩|⟨a,e1⟩|⟨a,e1⟩
   .rw[e1,Yc ∅,Yh ⋯]
   .rw[e1,Yh rfl,Yc ⋯]
   .rw[e1,Yc ∅,Yh ⋯]
  exact (key c).trans (key d).symm
 | root m =>
  obtain⟨m0,nm⟩:=h;obtain⟨w1,w2⟩:=hw;have sc:Sm e (c*c-m):=sc;have sd:Sm e (d*d-m):=sd;have key:∀x:Rat,(x<0->(if sg (x*x-m)*sg (2*x) = -1 then 1 else 0)+(if x*x<m then 1 else if x<0 then 0 else 2)=(1:Nat))/\(0<x->(if sg (x*x-m)*sg (2*x) = -1 then 1 else 0)+(if x*x<m then 1 else if x<0 then 0 else 2)=(2:Nat)):=λx=>by
   refine⟨λy=>?_,λy=>?_⟩
   .rw[dN (show 2*x<0 by grind)]
    rcases cg (x*x-m) with ⟨a,e1⟩|⟨a,e1⟩|⟨a,e1⟩
    .rw[e1,Yh ∅,Yc ⋯,Yh y]
    .rw[e1,Yc ∅,Yh ⋯]
    .exact absurd (show x*x=m by grind) (nm x)
   .rw[cn (show 0<2*x by grind)]
    rcases cg (x*x-m) with ⟨a,e1⟩|⟨a,e1⟩|⟨a,e1⟩
    .rw[e1,Yc ∅,Yc ⋯,Yc ⋯]
    .rw[e1,Yh ∅,Yh ⋯]
    .exact absurd (show x*x=m by grind) (nm x)
  have c0:c≠0:=λz=>by
   rw[z] at sc;unfold Sm at sc;grind
  have d0:d≠0:=λz=>by
   rw[z] at sd;unfold Sm at sd;grind
  show (if sg (c*c-m)*sg (2*c) = -1 then 1 else 0)+(if c*c<m then 1 else if c<0 then 0 else 2)=(if sg (d*d-m)*sg (2*d) = -1 then 1 else 0)+(if d*d<m then 1 else if d<0 then 0 else 2)
  by_cases z:c<0
  .have dn:d<0:=Rat.not_le.mp λy=>by
    have k1:=Yk y (show 0<=e-d by grind)
    have k2:=Yk (show 0<=e by grind) (show 0<=1-d by grind)
    unfold Sm at sd;grind
   rw[(key c).1 z,(key d).1 dn]
  .rw[(key c).2 ⋯,(key d).2 ⋯]
theorem oX{e c d:Rat}(cd:c<=d)(n:d-c<=e):∀{l:List (aU×Nat)},(∀q∈l,q.1.ok/\q.1.wd e/\sg (q.1.p c)=sg (q.1.p d)/\sg (q.1.p c)≠0)->bQ l c=bQ l d
 | [],_=>rfl
 | q::l,h=>by
  obtain⟨a,b,s,s0⟩:=h q Yj;show q.1.A c+bQ l c=q.1.A d+bQ l d;rw[aU.same a b cd n s s0,oX cd n λq' h'=>h q' (Yf _ h')]
theorem ou{u v e:Rat}(h:Sm e (v-u))(n:¬ Sm e u):sg u=sg v/\sg u≠0:=Yu λz=>n (pi h z).1
theorem yh{R:Rat}(R0:0<=R) {l:List (aU×Nat)}{f g:Rat->Rat}{κ:Rat}(ok:∀q∈l,q.1.ok/\1<=q.2)(un:l.Pairwise λa b=>a.1≠b.1)(lf:wG R f)(lg:wG R g)(nb:fQ R f g)(k0:0<κ)(id:∀x,κ*(g x*cq l x)=f x*fP l x):FO R f g (bQ l):=by
 obtain⟨θ,θ0,hθ⟩:=Ct (P:=Kj R l) (λq e e' h h0 le=>h.mono h0 le) l λq hq=>FG R0 ok un hq;obtain⟨ε,ε0,hε⟩:=nb;obtain⟨G,G0,hG⟩:=lg.bdd R0;obtain⟨P,P0,hP⟩:=sF R0 l;obtain⟨τ,τ0,τθ,hτ⟩ : ∃τ:Rat,0<τ/\τ<=θ /\ ∀q∈l,∀x,Wi R x->Sm τ (q.1.p x)->Sm ε (f x):=by
  obtain⟨τ,τ0,h⟩:=Ct (P:=λ(q:aU×Nat) t=>t<=θ /\ ∀x,Wi R x->Sm t (q.1.p x)->Sm ε (f x)) (λq e e' h _ le=>⟨⋯,λx w s=>h.2 x w (s.mono le)⟩) l λq hq=>by
   obtain⟨_,l',p,hx⟩:=hθ q hq;obtain⟨H,H0,hH⟩:=uv R0 l';have z0:=Yq k0 (Yq G0 H0);have z1:0<θ*ε/2/(κ*(G*H)):=by rw[Y5 z0];have:=Yq θ0 ε0;grind
   obtain⟨t,t0,t1,t2,_⟩:=qJ θ0 z1 z1;refine⟨t,t0,t1,λx w s=>?_⟩;obtain⟨b1,_⟩:=hx x w (s.mono t1);refine Yu λnf=>?_;have nf:=Bg.of nf;have e1:=id x;rw[oJ p x] at e1;have e1:κ*(g x*(q.1.p x*cq l' x))=f x*fP l x:=e1;have m1:=((hG x w).mul (s.mul (hH x w)));have m2:=(show Sm κ κ by unfold Sm;grind).mul m1
   rw[e1] at m2;have b2:=nf.mul b1 (Yl ε0) (Yl θ0);have m3:κ*(G*(t*H))<=θ*ε/2:=by
    have:=Yk (Yl z0) (show 0<=θ*ε/2/(κ*(G*H))-t by grind)
    have z:κ*(G*H)*(θ*ε/2/(κ*(G*H)))=θ*ε/2:=⋯;grind
   refine b2.no ?_ (m2.mono m3);have:=Yq θ0 ε0;grind
  cases l with
  | nil=>exact⟨θ,θ0,⋯,λq hq=>by cases hq⟩
  | cons q0 l0=>exact⟨τ,τ0,(h q0 Yj).1,λq hq=>(h q hq).2⟩
 obtain⟨φ,φ0,hφ⟩ : ∃φ:Rat,0<φ /\ ∀x,Wi R x->(∀q∈l,¬ Sm (τ/2) (q.1.p x)) -> ¬ Sm φ (f x):=by
  have h2:0<τ/2:=⋯;have π0:=eV h2 l.length;have z0:=Yq k0 (Yq ε0 π0);have z1:0<κ*(ε*dQ (τ/2) l.length)/2/P:=by rw[Y5 P0];grind
  obtain⟨φ,φ0,f1,f2,_⟩:=qJ ε0 z1 z1;refine⟨φ,φ0,λx w h s=>?_⟩;have bg:=Bg.of λz=>hε x w (s.mono f1) z;have b1:=(show Bg κ κ from .inl ⋯).mul (bg.mul (sJ h2 h) (Yl ε0) (Yl π0)) (Yl k0) (Yl (Yq ε0 π0))
  have m1:=s.mul (hP x w);rw[<-id] at m1;refine b1.no ?_ m1;have:=Yk (Yl P0) (show 0<=κ*(ε*dQ (τ/2) l.length)/2/P-φ by grind)
  have z:P*(κ*(ε*dQ (τ/2) l.length)/2/P)=κ*(ε*dQ (τ/2) l.length)/2:=⋯;grind
 obtain⟨δ1,p1,h1⟩:=lf.near φ0;obtain⟨δ2,p2,h2⟩:=lg.near ε0;obtain⟨δ3,p3,h3⟩:=Ct (P:=λ(q:aU×Nat) t=>∀c d,Wi R c->Wi R d->c<=d->d-c<=t->Sm (τ/2) (q.1.p d-q.1.p c)) (λq e e' h _ le c d wc wd cd n=>h c d wc wd cd ⋯) l λq _=>(q.1.lip R0).near ⋯;obtain⟨δ4,p4,a1,a2,a3⟩:=qJ p1 p2 p3;obtain⟨δ,p,b1,b2,_⟩:=qJ p4 θ0 θ0;refine⟨δ,p,λc d wc wd cd n=>?_⟩;have hp:∀q∈l,Sm (τ/2) (q.1.p d-q.1.p c):=λq hq=>h3 q hq c d wc wd cd ⋯;by_cases ex:∃q∈l,Sm (τ/2) (q.1.p c)
 .obtain⟨q,hq,s⟩:=ex;right
  have sc:Sm τ (q.1.p c):=s.mono ⋯;have sd:Sm τ (q.1.p d):=by
   have:=hp q hq;unfold Sm at *
   grind
  have ng:=ou (h2 c d wc wd cd ⋯) λz=>hε c wc (hτ q hq c wc sc) z;refine⟨ng.1,ng.2,?_⟩;obtain⟨hw,l',pm,hx⟩:=hθ q hq;have v:∀x,Wi R x->Sm τ (q.1.p x)->v1 f g x=if sg (q.1.p x)*sg (q.1.d x) = -1 then 1 else 0:=λx wx sx=>by
   obtain⟨_,q2,q3,q4,_⟩:=hx x wx (sx.mono τθ);have q5:=q2.ne θ0;have q6:sg (g x)≠0:=λz=>hε x wx (hτ q hq x wx sx) (by rw[fD.mp z];unfold Sm;grind)
   have e1:=Xb sg (id x);rw[oJ pm x,dP,cn k0,YK,dP,dP,q3] at e1;have e1:sg (g x)*sg (q.1.p x*cq l' x)=sg (f x)*(sg (q.1.d x)*sg (cq l' x)):=e1;rw[dP] at e1;have e2:sg (f x)*sg (g x)=sg (q.1.p x)*sg (q.1.d x):=by
    rcases eT (cq l' x) with z1|z1|z1<;>rcases eT (g x) with z2|z2|z2<;>rcases eT (q.1.d x) with z3|z3|z3<;>rw[z1,z2,z3] at e1<;>rw[z2,z3]<;>nofun
   unfold v1;rw[e2]
  rw[v c wc sc,v d wd sd,jK pm c,jK pm d];show _+(q.1.A c+bQ l' c)=_+(q.1.A d+bQ l' d);have ps:=aU.passed (ok q hq).1 hw θ0 cd ⋯ (sc.mono τθ) (sd.mono τθ);have pa:bQ l' c=bQ l' d:=oX cd (show d-c<=θ by grind) λq' h'=>by
   have hq':q'∈l:=pm.mem_iff.mpr (Yf _ h');obtain⟨_,_,_,_,nq⟩:=hx c wc (sc.mono τθ);obtain⟨y1,y2⟩:=ou ((hp q' hq').mono (show τ/2<=θ by grind)) (nq q' h')
   exact⟨(ok q' hq').1,(hθ q' hq').1,y1,y2⟩
  nofun
 .left
  have al:∀q∈l,¬ Sm (τ/2) (q.1.p c):=λq hq s=>ex ⟨q,hq,s⟩;have nf:=ou (h1 c d wc wd cd ⋯) (hφ c wc al);refine⟨nf.1,nf.2,oX cd (show d-c<=θ by grind) λq hq=>?_⟩
  obtain⟨y1,y2⟩:=ou (hp q hq) (al q hq);exact⟨(ok q hq).1,(hθ q hq).1,y1,y2⟩
theorem Ch.roots{R:Rat}(R0:0<=R) {l:List (aU×Nat)}{f g:Rat->Rat}{fs:List (Rat->Rat)}{κ:Rat}(h:Ch R f (g::fs))(ok:∀q∈l,q.1.ok/\1<=q.2)(un:l.Pairwise λa b=>a.1≠b.1)(lg:wG R g)(k0:0<κ)(id:∀x,κ*(g x*cq l x)=f x*fP l x) {a b:Rat}(wa:Wi R a)(wb:Wi R b)(ab:a<=b):Vr a (f::g::fs)+bQ l a=Vr b (f::g::fs)+bQ l b :=
 h.counts (yh R0 ok un h.lip lg (h.notBoth g fs rfl) k0 id) wa wb ab
def Py(f:Rat->Rat):Prop:=∃l:List Rat,∀x,f x=dU l x
theorem Py.congr{f g:Rat->Rat}(h:Py f)(e:∀x,g x=f x):Py g:=by
 obtain⟨l,h⟩:=h;exact⟨l,λx=>(e x).trans (h x)⟩
theorem Py.isP{f:Rat->Rat}(h:Py f):∃n,uC n f:=by
 obtain⟨l,h⟩:=h;exact⟨l.length,l,Yi _,h⟩
theorem uC.py{n:Nat}{f:Rat->Rat}(h:uC n f):Py f:=by
 obtain⟨l,_,h⟩:=h;exact⟨l,h⟩
theorem Py.const(c:Rat):Py λ_=>c:=⟨[c],λx=>by show c=c+x*0;grind⟩
theorem Py.id:Py λx=>x:=⟨[0,1],λx=>by show x=0+x*(1+x*0);grind⟩
theorem Py.add{f g:Rat->Rat}(h:Py f)(k:Py g):Py λx=>f x+g x:=by
 obtain⟨m,hm⟩:=h.isP;obtain⟨n,hn⟩:=k.isP;exact ((hm.mono (Nat.le_max_left m n)).add (hn.mono (Nat.le_max_right m n))).py
theorem Py.shift{f:Rat->Rat}(h:Py f):Py λx=>x*f x:=by
 obtain⟨l,h⟩:=h;exact⟨0::l,λx=>by show x*f x=0+x*dU l x;rw[h];grind⟩
theorem Py.sc{f:Rat->Rat}(h:Py f)(c:Rat):Py λx=>c*f x:=by
 obtain⟨n,hn⟩:=h.isP;exact (hn.sc c).py.congr λx=>by grind
theorem Py.mul{f g:Rat->Rat}(h:Py f)(k:Py g):Py λx=>f x*g x:=by
 obtain⟨l,h⟩:=h;have:∀l:List Rat,Py λx=>dU l x*g x:=by
  intro l;induction l with
  | nil=>exact (Py.const 0).congr λx=>by show 0*g x=0;grind
  | cons a l ih=>exact ((k.sc a).add ih.shift).congr λx=>by show (a+x*dU l x)*g x=a*g x+x*(dU l x*g x);grind
 exact (this l).congr λx=>by rw[h]
theorem Py.sub{f g:Rat->Rat}(h:Py f)(k:Py g):Py λx=>f x-g x:=(h.add (k.sc (-1))).congr λx=>by grind
theorem JW{n:Nat}{u:Nat->Rat}(h:Bd n u)(l:n<=20):Py (EV u):=(uC.of h l).py
theorem tR{R:Rat}(R0:0<=R):∀l:List Rat,hU R (dU l)
 | []=>.const 0
 | a::l=>(hU.const a).add ((hU.id R0).mul (tR R0 l))
theorem yF{R:Rat}(R0:0<=R):∀l:List Rat,wG R (dU l)
 | []=>⟨1,∅,λx y _ _ h=>by show Sm _ (0-0);unfold Sm;grind⟩
 | a::l=>by
  obtain⟨L,L0,hL⟩:=yF R0 l;obtain⟨B,B0,hB⟩:=tR R0 l;have rl:=Yk R0 (Yl L0);refine⟨R*L+B,⋯,λx y wx wy h=>?_⟩;show Sm _ (a+y*dU l y-(a+x*dU l x));have s1:=(show Sm R y from wy).mul (hL x y wx wy h)
  have s2:=(show Sm (y-x) (y-x) by unfold Sm;grind).mul (hB x wx)
  have:=s1.add s2;rw[show a+y*dU l y-(a+x*dU l x)=y*(dU l y-dU l x)+(y-x)*dU l x by grind]
  exact this.mono ⋯
theorem Py.bdd{R:Rat}(R0:0<=R) {f:Rat->Rat}(h:Py f):hU R f:=by
 obtain⟨l,h⟩:=h;exact (tR R0 l).congr h
theorem Py.lip{R:Rat}(R0:0<=R) {f:Rat->Rat}(h:Py f):wG R f:=by
 obtain⟨l,h⟩:=h;obtain⟨L,L0,hL⟩:=yF R0 l;exact⟨L,L0,λx y wx wy k=>by rw[h,h];exact hL x y wx wy k⟩
theorem Py.zero{f g:Rat->Rat}(hf:Py f)(hg:Py g)(e:∀x,f x*g x=0)(n:∃x,g x≠0):∀x,f x=0:=by
 obtain⟨m,pm⟩:=hf.isP;obtain⟨k,pk⟩:=hg.isP;obtain⟨S,hS⟩ : ∃S,S=xy (m+k):=⟨_,rfl⟩;have nd:S.Nodup:=hS▸ux _;have ln:S.length=m+k:=hS▸oW _;have sp:(S.filter λx=>decide (f x=0)).length+(S.filter λx=>!decide (f x=0)).length=S.length:=by
  clear nd ln hS;induction S with
  | nil=>rfl
  | cons a S ih =>
   by_cases z:f a=0
   .rw[Ys (by simpa using z),YB (by simpa using z),Yv,Yv]
    nofun
   .rw[YB (by simpa using z),Ys (by simpa using z),Yv,Yv]
    nofun
 by_cases a:m<=(S.filter λx=>decide (f x=0)).length
 .exact pm.zero (nd.sublist List.filter_sublist) a λs hs=>Xm (List.mem_filter.mp hs).2
 .obtain⟨x0,hx0⟩:=n;refine absurd (pk.zero (nd.sublist (List.filter_sublist (p:=λx=>!decide (f x=0)))) () (λs hs=>?_) x0) hx0;have z:=(List.mem_filter.mp hs).2;rcases Rat.mul_eq_zero.mp (e s) with y|y
  .rw[y] at z;simp at z
  .exact y
def Kl(q:Int):Prop:=2<=q /\ ∀a b:Int,q∣a*b->q∣a\/q∣b
theorem GX:∀n:Nat,2<=n -> ∃q:Int,Kl q/\q∣(n:Int):=by
 intro n;induction n using Nat.strongRecOn with
 | ind n ih =>
  intro h2;by_cases ex:∃d,2<=d/\d<n/\d∣n
  .obtain⟨d,d2,dn,dd⟩:=ex;obtain⟨q,pq,qd⟩:=ih d dn d2;exact⟨q,pq,Int.dvd_trans qd (Int.natCast_dvd_natCast.mpr dd)⟩
  .refine⟨n,⟨(),λa b h=>?_⟩,Int.dvd_refl _⟩;have h':n∣a.natAbs*b.natAbs:=by
    have:=Int.natAbs_dvd_natAbs.mpr h
    rwa [YG,XD] at this
   have g1:=Nat.gcd_dvd_left n a.natAbs;have g2:=Nat.gcd_dvd_right n a.natAbs;by_cases z:Nat.gcd n a.natAbs=1
   .right
    have:=Nat.Coprime.dvd_of_dvd_mul_left (show Nat.Coprime n a.natAbs from z) h'
    exact Int.natAbs_dvd_natAbs.mp (by rwa [XD])
   .left
    have gp:0<Nat.gcd n a.natAbs:=Nat.gcd_pos_of_pos_left _ ();have le:=Nat.le_of_dvd () g1;have:Nat.gcd n a.natAbs=n:=Yu λy=>ex ⟨_,(),(),g1⟩;rw[this] at g2;exact Int.natAbs_dvd_natAbs.mp (by rwa [XD])
theorem C4{c p:Nat->Int}{q:Int}{i j:Nat}(hc:∀a,a<i->q∣c a)(hp:∀b,b<j->q∣p b):∀n,q∣pz c p n (i+j)-(if i<n then c i*p j else 0)
 | 0=>by show q∣0-(if i<0 then c i*p j else 0);rw[Yc ()];exact⟨0,()⟩
 | n+1=>by
  have ih:=C4 hc hp n;show q∣pz c p n (i+j)+(if n<=i+j then c n*p (i+j-n) else 0)-(if i<n+1 then c i*p j else 0)
  rcases Nat.lt_trichotomy n i with z|z|z
  .rw[Yc (show ¬ i<n by nofun)] at ih
   rw[Yh (),Yc ()];have d:=Int.dvd_mul_of_dvd_left (c:=p (i+j-n)) (hc n z);have:=Int.dvd_add ih d;rw[show pz c p n (i+j)+c n*p (i+j-n)-0=pz c p n (i+j)-0+c n*p (i+j-n) by nofun]
   exact this
  .subst z;rw[Yc (show ¬ n<n by nofun)] at ih
   rw[Yh (),Yh (),show n+j-n=j by nofun]
   rw[show pz c p n (n+j)+c n*p j-c n*p j=pz c p n (n+j)-0 by nofun]
   exact ih
  .rw[Yh (show i<n by nofun)] at ih
   rw[Yh (show i<n+1 by nofun)]
   by_cases y:n<=i+j
   .rw[Yh y];have d:q∣c n*p (i+j-n):=Int.dvd_mul_of_dvd_right (hp (i+j-n) ());have:=Int.dvd_add ih d;rw[show pz c p n (i+j)+c n*p (i+j-n)-c i*p j=pz c p n (i+j)-c i*p j+c n*p (i+j-n) by nofun]
    exact this
   .rw[Yc y];rw[show pz c p n (i+j)+0-c i*p j=pz c p n (i+j)-c i*p j by nofun]
    exact ih
theorem qN{q:Int}{c:Nat->Int}(h:¬ ∀k,q∣c k):∃i,¬ q∣c i /\ ∀a,a<i->q∣c a:=by
 obtain⟨m,hm⟩ : ∃m,¬ q∣c m:=Classical.not_forall.mp h;induction m using Nat.strongRecOn with
 | ind m ih =>
  by_cases ex:∃a,a<m /\ ¬ q∣c a
  .obtain⟨a,am,ha⟩:=ex;exact ih a am ha
  .exact⟨m,hm,λa ha=>Yu λz=>ex ⟨a,ha,z⟩⟩
theorem Hq{q:Int}(hq:Kl q) {c p:Nat->Int}{n:Nat}(bc:∀i,n<=i->c i=0)(h:∀k,q∣pz c p n k)(np:¬ ∀k,q∣p k):∀k,q∣c k:=Yu λnc=>by
 obtain⟨i,hi,mi⟩:=qN nc;obtain⟨j,hj,mj⟩:=qN np;have d:=C4 mi mj n;have il:i<n:=Nat.lt_of_not_le λz=>hi (by rw[bc i z];exact⟨0,()⟩)
 rw[Yh il] at d;have:=Int.dvd_sub (h (i+j)) d;rw[show pz c p n (i+j)-(pz c p n (i+j)-c i*p j)=c i*p j by nofun] at this
 rcases hq.2 _ _ this with z|z
 .exact hi z
 .exact hj z
def jJ(p:Nat->Int):Prop:=∀q:Int,(∀k,q∣p k)->q.natAbs=1
theorem Kr{p:Nat->Int}(hp:jJ p) {n:Nat}:∀(m:Nat)(S:Int)(c:Nat->Int),S.natAbs=m->S≠0->(∀i,n<=i->c i=0)->(∀k,S∣pz c p n k) -> ∀k,S∣c k:=by
 intro m;induction m using Nat.strongRecOn with
 | ind m ih =>
  intro S c e s0 bc h k;by_cases m1:m=1
  .have:S=1\/S = -1:=();rcases this with rfl|rfl
   .exact Int.one_dvd _
   .exact Int.neg_dvd.mpr (Int.one_dvd _)
  .obtain⟨q,pq,qd⟩:=GX m ();have qS:q∣S:=by
    rw[<-e] at qd;exact Int.dvd_natAbs.mp qd
   have qc:=Hq pq bc (λk=>Int.dvd_trans qS (h k)) λz=>by
    have:=hp q z;have:=pq.1;nofun
   obtain⟨S',hS⟩:=qS;obtain⟨c',hc⟩ : ∃c':Nat->Int,∀k,c k=q*c' k:=⟨λk=>(qc k).choose,λk=>(qc k).choose_spec⟩;have q0:q≠0:=by have:=pq.1;nofun
   have s1:S'≠0:=λz=>s0 (by rw[hS,z,YD])
   have lt:S'.natAbs<m:=by
    rw[<-e,hS,YG];have:2<=q.natAbs:=by have:=pq.1;nofun
    have:=Xf S'.natAbs this;nofun
   have r:=ih _ lt S' c' rfl s1 (λi hi=>by
    have:=hc i;rw[bc i hi] at this;rcases Int.mul_eq_zero.mp this.symm with z|z
    .exact absurd z q0
    .exact z) (λk=>by
    have:=h k;rw[show c=λk=>q*c' k from funext hc,sE,hS] at this
    exact Int.dvd_of_mul_dvd_mul_left q0 this) k
   rw[hS,hc k];exact Int.mul_dvd_mul_left q r
def aN(F:List Int)(x:Rat):Rat:=EV (ff F) x
theorem cK{F:List Int}(h:F.length<=20):Py (aN F):=JW (ck F) h
theorem oi(x:Rat):aN [] x=0:=nQ (λi=>by show ((nz [] i:Int):Rat)=0;rw[a7 (by simp)];rfl) x
theorem tf(c:Int)(x:Rat):aN [c] x=(c:Rat):=by
 unfold aN;rw[gv (n:=1) (ck [c]) ∅];show 0+ff [c] 0*1=_;show 0+((nz [c] 0:Int):Rat)*1=_;rw[show nz [c] 0=c from rfl]
 grind
theorem oH{F G:List Int}(lF:F.length<=20)(lG:G.length<=20)(h:∀x,aN F x=aN G x)(k:Nat):nz F k=nz G k:=by
 have:=pF ((ck F).mono lF) ((ck G).mono lG) h k;exact Rat.intCast_inj.mp this
theorem gf{F G:List Int}{c:Int}(h:∀k,nz F k=c*nz G k)(x:Rat):aN F x=(c:Rat)*aN G x:=by
 have e:∀k,ff F k=(λk=>0+(c:Rat)*ff G k) k:=λk=>by
  show ((nz F k:Int):Rat)=0+(c:Rat)*((nz G k:Int):Rat);rw[h k,Ye];grind
 unfold aN;rw[fW e x,lY,nQ (f:=λ_=>0) λ_=>rfl];grind
theorem mS{F Q G:List Int}(l:Q.length+G.length<=20)(e:∀k,nz F k=pz (nz Q) (nz G) Q.length k)(x:Rat):aN F x=aN Q x*aN G x:=by
 have:=mz (F:=F) (R:=[]) (S:=1) (T:=0) l (λk=>by rw[e k];nofun) x
 unfold aN;have c1:((1:Int):Rat)=1:=rfl;have c0:((0:Int):Rat)=0:=rfl;rw[c1,c0] at this;grind
theorem C9{F Q G:List Int}(l:Q.length+G.length<=20)(lF:F.length<=20)(e:∀x,aN F x=aN Q x*aN G x)(k:Nat):nz F k=pz (nz Q) (nz G) Q.length k:=by
 have lz1:(lz 20 (λk=>pz (nz Q) (nz G) Q.length k)).length<=20:=by rw[sP];nofun
 have e1:∀k,nz (lz 20 (λk=>pz (nz Q) (nz G) Q.length k)) k=pz (nz Q) (nz G) Q.length k:=λk=>by
  by_cases z:k<20
  .exact Gn z
  .rw[a7 (by rw[sP];nofun)]
   refine (Rat.intCast_inj.mp ?_);rw[ix];exact (gz (ck G) Q.length k ()).symm
 have:=oH lF lz1 (λx=>by rw[e x,mS l e1]) k
 rw[this,e1]
def vg(P F:List Int):Prop:=∃A:List Int,A.length<=F.length /\ ∀x,aN F x=aN A x*aN P x
theorem rY{P F C:List Int}{S:Int}(hp:jJ (nz P))(s0:S≠0)(lC:C.length<=F.length)(lF:F.length<=9)(lP:P.length<=9)(e:∀x,(S:Rat)*aN F x=aN C x*aN P x):vg P F:=by
 have c0:=aG s0;have k1:∀k,S*nz F k=pz (nz C) (nz P) C.length k:=λk=>by
  have:=C9 (F:=F.map λy=>S*y) (Q:=C) (G:=P) () (by rw[Yb];nofun) (λx=>by rw[gf (G:=F) (c:=S) (λk=>dH k),e]) k
  rw[dH] at this;exact this
 have d:=Kr hp _ S (nz C) rfl s0 (n:=C.length) (λi hi=>a7 hi) λk=>⟨nz F k,(k1 k).symm⟩;obtain⟨A,lA,hA⟩ : ∃A:List Int,A.length=C.length /\ ∀k,nz C k=S*nz A k:=by
  refine⟨C.map (· / S),by simp,λk=>?_⟩
  by_cases z:k<C.length
  .have e1:(C.map (· / S))[k]? = some (C[k]/S):=by rw[Yd,Ya z];rfl
   rw[bA e1];have:=d k;rw[bA (Ya z)] at this ⊢;exact (Int.mul_ediv_cancel' this).symm
  .rw[a7 (),a7 (by simp;nofun),YD]
 refine⟨A,(),λx=>?_⟩;have:=e x;rw[gf hA] at this;have:(S:Rat)*(aN F x-aN A x*aN P x)=0:=⋯;rcases Rat.mul_eq_zero.mp this with z|z
 .exact absurd z c0
 .grind
theorem pQ.div{F G:List Int}{rows:List (List Int×List Int×Int×Int)}(h:pQ F G rows):∀{P:List Int}{g:Int},jJ (nz P)->P.length<=9->G≠[]->F.length<=9->G.length<=F.length->(∀k,nz (fR G rows) k=g*nz P k)->vg P F/\vg P G /\ ∀row∈rows,vg P row.1:=by
 induction h with
 | nought=>intro P g _ _ z;exact absurd rfl z
 | @last F G Q S g0 gl s0 lq e =>
  intro P g hp lP _ lF lG hl;have hl:∀k,nz G k=g*nz P k:=hl;have gp:=List.length_pos_iff.mpr g0;have dG:vg P G:=⟨[g],by simp;nofun,λx=>by rw[tf,gf hl]⟩
  refine⟨rY (C:=Q.map λy=>g*y) hp s0 (by rw[Yb];nofun) lF lP λx=>?_,dG,by simp⟩
  rw[gf (G:=Q) (c:=g) λk=>dH k];have:=mz (F:=F) (R:=[]) (S:=S) (T:=0) (show Q.length+G.length<=20 by nofun) (λk=>by rw[e k];nofun) x
  have c0:((0:Int):Rat)=0:=rfl;rw[c0] at this;show (S:Rat)*EV (ff F) x=_;rw[this];have z:EV (ff G) x=(g:Rat)*aN P x:=gf hl x;rw[z];show EV (ff Q) x*_+_=(g:Rat)*EV (ff Q) x*_;grind
 | @more F G R Q T S rows g0 gl s0 t0 r0 rl lr lq e hr ih =>
  intro P g hp lP _ lF lG hl;obtain⟨dG,dR,drs⟩:=ih hp lP r0 () () hl;obtain⟨A,lA,eA⟩:=id dG;obtain⟨B,lB,eB⟩:=id dR;have gp:=List.length_pos_iff.mpr g0;have hC:∀k,nz (lz F.length λk=>pz (nz Q) (nz A) Q.length k+T*nz B k) k=pz (nz Q) (nz A) Q.length k+T*nz B k:=λk=>by
   by_cases z:k<F.length
   .exact Gn z
   .rw[a7 (by rw[sP];nofun),a7 (ns:=B) ()]
    have:pz (nz Q) (nz A) Q.length k=0:=by
     refine (Rat.intCast_inj.mp ?_);rw[ix];exact gz (ck A) Q.length k ()
    rw[this];nofun
  have eC:∀x,aN (lz F.length λk=>pz (nz Q) (nz A) Q.length k+T*nz B k) x=aN Q x*aN A x+(T:Rat)*aN B x:=λx=>by
   have:=mz (F:=lz F.length λk=>pz (nz Q) (nz A) Q.length k+T*nz B k) (Q:=Q) (G:=A) (R:=B) (S:=1) (T:=T) () (λk=>by rw[hC k];nofun) x
   have c1:((1:Int):Rat)=1:=rfl;rw[c1,Rat.one_mul] at this;exact this
  refine⟨rY (C:=lz F.length λk=>pz (nz Q) (nz A) Q.length k+T*nz B k) hp s0 (by rw[sP];nofun) lF lP λx=>?_,dG,λrow iH=>?_⟩
  .have:=mz (show Q.length+G.length<=20 by nofun) e x
   rw[eC];show (S:Rat)*EV (ff F) x=_;rw[this];have z1:=eA x;have z2:=eB x;unfold aN at *
   grind
  .rcases YY.mp iH with rfl|z
   .exact dR
   .exact drs row z
def CL(l:Rat->Rat)(a b:Int):List (List Int×List Int×Int×Int)->List (List Int)->Prop
 | [],hs=>hs=[]
 | row::rows,[]=>False
 | row::rows,h::hs=>h.length<=9/\(∀x,((-a*row.2.2.1.sign*row.2.2.2.sign:Int):Rat)*aN row.1 x=aN h x*l x)/\CL l b (-a*row.2.2.1.sign*row.2.2.2.sign) rows hs
theorem eU{n:Int}(h:n≠0):n.sign=1/\0<n\/n.sign = -1/\n<0:=by
 rcases Int.lt_trichotomy n 0 with z|z|z
 .exact .inr ⟨Int.sign_eq_neg_one_of_neg z,z⟩
 .exact absurd z h
 .exact .inl ⟨Int.sign_eq_one_of_pos z,z⟩
theorem pQ.ch{R:Rat}(R0:0<=R) {l:Rat->Rat}(pl:Py l)(l0:∃x,l x≠0) {F G:List Int}{rows:List (List Int×List Int×Int×Int)}(h:pQ F G rows):∀{a b g:Int}{hF hG:List Int}{hs:List (List Int)},(a=1\/a = -1)->(b=1\/b = -1)->g≠0->G≠[]->F.length<=9->G.length<=F.length->hF.length<=9->hG.length<=9->(∀x,(a:Rat)*aN F x=aN hF x*l x)->(∀x,(b:Rat)*aN G x=aN hG x*l x)->CL l a b rows hs->(∀x,aN (fR G rows) x=(g:Rat)*l x)->Ch R (aN hF) (aN hG::hs.map aN):=by
 have can:∀{f:Rat->Rat},Py f->(∀x,f x*l x=0) -> ∀x,f x=0:=λhf e=>Py.zero hf pl e l0;induction h with
 | nought=>intro a b g hF hG hs _ _ _ z;exact absurd rfl z
 | @last F G Q S g0 gl s0 lq e =>
  intro a b g hF hG hs ha hb hg _ lF lG l1 l2 eF eG hh hl;have hh:hs=[]:=hh;subst hh;have hl:∀x,aN G x=(g:Rat)*l x:=hl;have c:∀x,aN hG x=((b*g:Int):Rat):=λx=>by
   have:=can (f:=λx=>aN hG x-((b*g:Int):Rat)) ((cK ()).sub (.const _)) (λx=>by
    have:=eG x;rw[hl x] at this;rw[Ye];grind) x
   grind
  refine .two ((cK ()).lip R0) (.one (c:=((b*g:Int):Rat)) (aG (YH () hg)) c)
 | @more F G R' Q T S rows g0 gl s0 t0 r0 rl lr lq e hr ih =>
  intro a b g hF hG hs ha hb hg _ lF lG l1 l2 eF eG hh hl;cases hs with
  | nil=>exact absurd hh (by simp[CL])
  | cons hR hs =>
   obtain⟨l3,eR,hh⟩:=hh;obtain⟨m,hm⟩ : ∃m,m = -a*T.sign*S.sign:=⟨_,rfl⟩;have hm':m=1\/m = -1:=by
    rw[hm];rcases eU t0 with ⟨z,_⟩|⟨z,_⟩<;>rcases eU s0 with ⟨y,_⟩|⟨y,_⟩<;>rcases ha with x|x<;>rw[x,y,z]<;>decide
   have eR:∀x,(m:Rat)*aN R' x=aN hR x*l x:=by rw[hm];exact eR
   have hh:CL l b m rows hs:=by rw[hm];exact hh
   have tail:=ih hb hm' hg r0 () () l2 l3 eG eR hh hl;show Ch R (aN hF) (aN hG::aN hR::hs.map aN);have rs:=mz (show Q.length+G.length<=20 by nofun) e
   have s1:(S:Rat)*((S.sign:Int):Rat)=((S.natAbs:Int):Rat):=by
    rw[<-Ye];rcases eU s0 with ⟨z,y⟩|⟨z,y⟩<;>rw[z]<;>congr 1<;>nofun
   have t1:(T:Rat)*((S.sign:Int):Rat)*(a:Rat) = -(((T.natAbs:Int):Rat)*(m:Rat)):=by
    rw[<-Ye,<-Ye,<-Ye,<-Xh];congr 1
    rw[hm];rcases eU s0 with ⟨z,y⟩|⟨z,y⟩<;>rcases eU t0 with ⟨z2,y2⟩|⟨z2,y2⟩<;>rcases ha with x|x<;>rw[x,z,z2]<;>nofun
   have b1:(b:Rat)*(b:Rat)=1:=by rcases hb with x|x<;>rw[x]<;>decide +kernel
   refine .more (q:=λx=>((S.sign*a*b:Int):Rat)*aN Q x) (a:=((S.natAbs:Int):Rat)) (b:=((T.natAbs:Int):Rat)) ((cK ()).lip R0) (((cK ()).sc _).bdd R0) (Rat.intCast_pos.mpr ()) (Rat.intCast_pos.mpr ()) (λx=>?_) tail;have:=can (f:=λx=>((S.natAbs:Int):Rat)*aN hF x-((S.sign*a*b:Int):Rat)*aN Q x*aN hG x+((T.natAbs:Int):Rat)*aN hR x) ((((cK ()).sc _).sub (((cK ()).sc _).mul (cK ()))).add ((cK ()).sc _)) (λx=>?_) x
   .grind
   have z1:=eF x;have z2:=eG x;have z3:=eR x;have z4:(S:Rat)*aN F x=aN Q x*aN G x+(T:Rat)*aN R' x:=rs x;rw[Ye,Ye];obtain⟨A,hA⟩ : ∃A:Rat,A=(a:Rat):=⟨_,rfl⟩;obtain⟨B,hB⟩ : ∃B:Rat,B=(b:Rat):=⟨_,rfl⟩;rw[<-hA] at z1 t1 ⊢;rw[<-hB] at z2 b1 ⊢;generalize ((S.natAbs:Int):Rat)=sa at s1 ⊢;generalize ((T.natAbs:Int):Rat)=ta at t1 ⊢;generalize ((S.sign:Int):Rat)=ss at s1 t1 ⊢;have e1:sa*aN hF x*l x=(S:Rat)*ss*A*aN F x:=by rw[s1];grind
   have e2:ss*A*B*aN Q x*aN hG x*l x=ss*A*aN Q x*aN G x:=by
    have:aN hG x*l x=B*aN G x:=z2.symm;grind
   have e3:ta*aN hR x*l x = -((T:Rat)*ss*A)*aN R' x:=by rw[t1];grind
   grind
theorem yO(x:Rat):∀F:List Int,dU (F.map λn:Int=>(n:Rat)) x=ig F x
 | []=>rfl
 | a::F=>by show (a:Rat)+x*_=(a:Rat)+x*_;rw[yO x F]
theorem jw{F:List Int}(h:F.length<=20)(x:Rat):aN F x=ig F x:=by
 unfold aN;rw[gv (ck F) h,AG,<-yO];congr 1
 refine List.ext_getElem (by simp) λi h1 h2=>?_
 rw[List.getElem_map,List.getElem_map,List.getElem_range];show ((nz F i:Int):Rat)=_;rw[bA (Ya (by simpa using h1))]
def cx(side:Int)(F:List Int):Int:=if F.length%2=1 then (nz F (F.length-1)).sign else side*(nz F (F.length-1)).sign
theorem BX:∀F:List Int,F≠[]->nz F (F.length-1)≠0 -> ∃R c:Rat,0<R/\0<c/\(∀x,R<=x->c<=((cx 1 F:Int):Rat)*ig F x) /\ ∀x,x <= -R->c<=((cx (-1) F:Int):Rat)*ig F x
 | [],h,_=>absurd rfl h
 | [a],_,h=>by
  have h:a≠0:=h;have e:∀s,cx s [a]=a.sign:=λs=>rfl;have k:∀x,(1:Rat)<=((a.sign:Int):Rat)*ig [a] x:=λx=>by
   show (1:Rat)<=((a.sign:Int):Rat)*((a:Rat)+x*0);have z:((a.sign:Int):Rat)*(a:Rat)=((a.sign*a:Int):Rat):=by rw[Ye]
   have y:(1:Int)<=a.sign*a:=by rcases eU h with ⟨q,r⟩|⟨q,r⟩<;>rw[q]<;>nofun
   have:((1:Int):Rat)<=((a.sign*a:Int):Rat):=Rat.intCast_le_intCast.mpr y;have c1:((1:Int):Rat)=1:=rfl;grind
  exact⟨1,1,∅,∅,λx _=>by rw[e];exact k x,λx _=>by rw[e];exact k x⟩
 | a::b::F,_,h=>by
  have ld:nz (a::b::F) ((a::b::F).length-1)=nz (b::F) ((b::F).length-1):=by
   simp only[Yv,Nat.add_sub_cancel];rfl
  rw[ld] at h;obtain⟨R,c,R0,c0,h1,h2⟩:=BX (b::F) (by simp) h
  obtain⟨t,t0,ht⟩:=hU.const (R:=0) (a:Rat);have ht:=ht 0 (by unfold Wi;grind)
  have tc:0<t/c:=by rw[Y5 c0];grind
  have tcc:t/c*c=t:=⋯;have s1:cx 1 (a::b::F)=cx 1 (b::F):=by
   unfold cx;rw[ld,YK];split<;>split<;>rfl
  have s2:cx (-1) (a::b::F) = -cx (-1) (b::F):=by
   unfold cx;rw[ld];simp only[Yv];by_cases z:(F.length+1)%2=1
   .rw[Yh z,Yc ()];nofun
   .rw[Yc z,Yh ()];nofun
  have sm:∀s:Int,(s=1\/s = -1)->Sm t ((s:Rat)*(a:Rat)):=λs hs=>by
   have c1:((1:Int):Rat)=1:=rfl;have c2:((-1:Int):Rat) = -1:=rfl;unfold Sm at *
   rcases hs with z|z
   .rw[z,c1];grind
   .rw[z,c2];grind
  have pm:∀s:Int,(s=1\/s = -1)->cx s (b::F)=1\/cx s (b::F) = -1:=λs hs=>by
   unfold cx;rcases eU h with ⟨z,_⟩|⟨z,_⟩<;>rw[z]<;>rcases hs with y|y<;>rw[y]<;>split<;>nofun
  refine⟨R+1+t/c,c,⋯,c0,λx hx=>?_,λx hx=>?_⟩
  .rw[s1];show c<=_*((a:Rat)+x*ig (b::F) x);have k:=h1 x ⋯;have m:=Yk (show 0<=x by grind) (show 0<=((cx 1 (b::F):Int):Rat)*ig (b::F) x-c by grind)
   have m2:=Yk (Yl c0) (show 0<=x-(1+t/c) by grind)
   have s:=sm _ (pm 1 (.inl rfl));unfold Sm at s;grind
  .rw[s2,Xh];show c<=_*((a:Rat)+x*ig (b::F) x);have k:=h2 x ⋯;have m:=Yk (show 0 <= -x by grind) (show 0<=((cx (-1) (b::F):Int):Rat)*ig (b::F) x-c by grind)
   have m2:=Yk (Yl c0) (show 0 <= -x-(1+t/c) by grind)
   have s:=sm _ (pm (-1) (.inr rfl));unfold Sm at s;grind
theorem A4{F:List Int}{s:Int}(h:nz F (F.length-1)≠0)(hs:s=1\/s = -1):cx s F=1\/cx s F = -1:=by
 unfold cx;rcases eU h with ⟨z,_⟩|⟨z,_⟩<;>rw[z]<;>rcases hs with y|y<;>rw[y]<;>split<;>nofun
theorem A7{s:Int}{y c:Rat}(hs:s=1\/s = -1)(c0:0<c)(h:c<=(s:Rat)*y):sg y=s:=by
 have c1:((1:Int):Rat)=1:=rfl;have c2:((-1:Int):Rat) = -1:=rfl;rcases hs with z|z
 .rw[z,c1] at h;rw[z,cn ⋯]
 .rw[z,c2] at h;rw[z,dN ⋯]
theorem sy:∀hs:List (List Int),(∀F∈hs,F≠[]/\F.length<=20/\nz F (F.length-1)≠0) -> ∃R:Rat,0<R /\ ∀x,R<=x->hs.map (cx 1)=iS x (hs.map aN)/\hs.map (cx (-1))=iS (-x) (hs.map aN)
 | [],_=>⟨1,∅,λ_ _=>⟨rfl,rfl⟩⟩
 | F::hs,h=>by
  obtain⟨R,R0,k⟩:=sy hs λG hG=>h G (Yf _ hG);obtain⟨f0,fl,fz⟩:=h F Yj;obtain⟨R',c,R1,c0,h1,h2⟩:=BX F f0 fz;refine⟨R+R',⋯,λx hx=>?_⟩;obtain⟨k1,k2⟩:=k x ⋯;have e1:=A7 (A4 fz (.inl rfl)) c0 (h1 x ⋯);have e2:=A7 (A4 fz (.inr rfl)) c0 (h2 (-x) ⋯);rw[<-jw fl] at e1 e2;exact⟨by show cx 1 F::_=sg (aN F x)::_;rw[k1,e1];rfl,by show cx (-1) F::_=sg (aN F (-x))::_;rw[k2,e2];rfl⟩
def aU.tot:aU->Nat
 | .line _=>1
 | .root _=>2
 | .none _=>0
def jj:List (aU×Nat)->Nat
 | []=>0
 | q::l=>q.1.tot+jj l
theorem aU.out(q:aU)(h:q.ok):∃R:Rat,0<R /\ ∀x,R<=x->q.A x=q.tot/\q.A (-x)=0:=by
 cases q with
 | none n=>exact⟨1,∅,λ_ _=>⟨rfl,rfl⟩⟩
 | line r =>
  obtain⟨t,t0,ht⟩:=hU.const (R:=0) r;have ht:=ht 0 (by unfold Wi;grind)
  refine⟨t+1,⋯,λx hx=>⟨Yh ?_,Yc ?_⟩⟩<;>(unfold Sm at ht;grind)
 | root n =>
  obtain⟨n0,_⟩:=h;refine⟨n+1,⋯,λx hx=>?_⟩;have m:=Yk (show 0<=x-(n+1) by grind) (show 0<=x by grind)
  have m2:=Yk (Yl n0) (show 0<=x by grind)
  refine⟨?_,?_⟩
  .show (if x*x<n then 1 else if x<0 then 0 else 2)=2
   rw[Yc ⋯,Yc (show ¬ x<0 by grind)]
  .show (if -x * -x<n then 1 else if -x<0 then 0 else 2)=0
   rw[Yc ⋯,Yh (show -x<0 by grind)]
theorem ot:∀l:List (aU×Nat),(∀q∈l,q.1.ok/\1<=q.2) -> ∃R:Rat,0<R /\ ∀x,R<=x->bQ l x=jj l/\bQ l (-x)=0
 | [],_=>⟨1,∅,λ_ _=>⟨rfl,rfl⟩⟩
 | q::l,h=>by
  obtain⟨R,R0,k⟩:=ot l λp hp=>h p (Yf _ hp);obtain⟨R',R1,k'⟩:=q.1.out (h q Yj).1;refine⟨R+R',⋯,λx hx=>?_⟩;obtain⟨a,b⟩:=k x ⋯;obtain⟨a',b'⟩:=k' x ⋯;exact⟨by show q.1.A x+bQ l x=q.1.tot+jj l;rw[a,a'],by show q.1.A (-x)+bQ l (-x)=0;rw[b,b']⟩
def gj(side:Int)(e:Option Rat)(hs:List (List Int)):List Int:=match e with
 | none=>hs.map (cx side)
 | some x=>iS x (hs.map aN)
def CS(l:List (aU×Nat)):Option Rat->Nat
 | none=>0
 | some x=>bQ l x
def vG(l:List (aU×Nat)):Option Rat->Nat
 | none=>jj l
 | some x=>bQ l x
theorem wu{l:List (aU×Nat)}{h0 h1:List Int}{hs:List (List Int)}{κ:Rat}(ch:∀R:Rat,0<=R->Ch R (aN h0) (aN h1::hs.map aN))(ok:∀q∈l,q.1.ok/\1<=q.2)(un:l.Pairwise λa b=>a.1≠b.1)(k0:0<κ)(id:∀x,κ*(aN h1 x*cq l x)=aN h0 x*fP l x)(nz0:∀F∈h0::h1::hs,F≠[]/\F.length<=20/\nz F (F.length-1)≠0) {lo hi:Option Rat}(lt:∀a b,lo=some a->hi=some b->a<=b):chg 0 (gj (-1) lo (h0::h1::hs))+CS l lo=chg 0 (gj 1 hi (h0::h1::hs))+vG l hi:=by
 obtain⟨R1,p1,f1⟩:=sy _ nz0;obtain⟨R2,p2,f2⟩:=ot l ok;obtain⟨A,A0,hA⟩:=hU.const (R:=0) (lo.getD 0);obtain⟨B,B0,hB⟩:=hU.const (R:=0) (hi.getD 0);have hA:=hA 0 (by unfold Wi;grind)
 have hB:=hB 0 (by unfold Wi;grind)
 obtain⟨R,hR⟩ : ∃R,R=R1+R2+A+B:=⟨_,rfl⟩;have lg:wG R (aN h1):=(cK (nz0 h1 (by simp)).2.1).lip ⋯
 have key:∀a b:Rat,Wi R a->Wi R b->a<=b->Vr a (aN h0::aN h1::hs.map aN)+bQ l a=Vr b (aN h0::aN h1::hs.map aN)+bQ l b:=λa b wa wb ab=>Ch.roots ⋯ (ch R ⋯) ok un lg k0 id wa wb ab;obtain⟨q1,q2⟩:=f1 R ⋯;obtain⟨q3,q4⟩:=f2 R ⋯;have e1:∃a,Wi R a/\chg 0 (gj (-1) lo (h0::h1::hs))=Vr a (aN h0::aN h1::hs.map aN)/\CS l lo=bQ l a/\(lo=none->a = -R) /\ ∀x,lo=some x->a=x:=by
  cases lo with
  | none=>exact⟨-R,by unfold Wi;grind,by show chg 0 (_)=chg 0 _;rw[show gj (-1) none (h0::h1::hs)=(h0::h1::hs).map (cx (-1)) from rfl,q2];rfl,q4.symm,λ_=>rfl,λx z=>by cases z⟩
  | some x=>exact⟨x,by have hA:Sm A x:=hA;unfold Sm at hA;unfold Wi;grind,rfl,rfl,(λz=>by cases z),(λy z=>by cases z;rfl)⟩
 have e2:∃b,Wi R b/\chg 0 (gj 1 hi (h0::h1::hs))=Vr b (aN h0::aN h1::hs.map aN)/\vG l hi=bQ l b/\(hi=none->b=R) /\ ∀x,hi=some x->b=x:=by
  cases hi with
  | none=>exact⟨R,by unfold Wi;grind,by show chg 0 (_)=chg 0 _;rw[show gj 1 none (h0::h1::hs)=(h0::h1::hs).map (cx 1) from rfl,q1];rfl,q3.symm,λ_=>rfl,λx z=>by cases z⟩
  | some x=>exact⟨x,by have hB:Sm B x:=hB;unfold Sm at hB;unfold Wi;grind,rfl,rfl,(λz=>by cases z),(λy z=>by cases z;rfl)⟩
 obtain⟨a,wa,x1,x2,x3,x4⟩:=e1;obtain⟨b,wb,y1,y2,y3,y4⟩:=e2;rw[x1,x2,y1,y2];refine key a b wa wb ?_;cases lo with
 | none=>rw[x3 rfl];exact wb.1
 | some u =>
  cases hi with
  | none=>rw[y3 rfl];exact wa.2
  | some v=>rw[x4 u rfl,y4 v rfl];exact lt u v rfl rfl
def jZ:List (aU×Nat)->Rat->Rat
 | [],_=>1
 | q::l,x=>dQ (q.1.p x) q.2*jZ l x
def aU.deg:aU->Nat
 | .line _=>1
 | .root _=>2
 | .none _=>2
def cQ:List (aU×Nat)->Nat
 | []=>0
 | q::l=>q.2*q.1.deg+cQ l
def Dr(n:Nat)(f f':Rat->Rat):Prop:=∃u:Nat->Rat,Bd (n+1) u/\(∀x,EV u x=f x) /\ ∀x,EV (DF u) x=f' x
theorem Dr.mul{m n:Nat}{f f' g g':Rat->Rat}(h:Dr m f f')(k:Dr n g g')(l:m+n<=17):Dr (m+n) (λx=>f x*g x) (λx=>f' x*g x+f x*g' x):=by
 obtain⟨u,bu,e1,e2⟩:=h;obtain⟨v,bv,e3,e4⟩:=k;have ev:∀x,EV (λk=>pr u v (m+1) k) x=EV u x*EV v x:=λx=>Hm bu bv () x;refine⟨λk=>pr u v (m+1) k,λi hi=>gz bv _ _ (),λx=>by rw[ev,e1,e3],λx=>?_⟩
 rw[Bm bv (m+1) u (λk=>pr u v (m+1) k) bu () (λi hi=>gz bv _ _ ()) ev x,e1,e2,e3,e4]
theorem Dr.const(c:Rat):Dr 0 (λ_=>c) (λ_=>0):=by
 refine⟨λk=>if k=0 then c else 0,λi hi=>Yc (),λx=>?_,λx=>?_⟩
 .rw[gv (n:=1) (λk hk=>Yc ()) ∅];show 0+c*1=c;grind
 .refine nQ (λi=>?_) x;show _*(if i+1=0 then c else 0)=(0:Rat)
  rw[Yc ()];grind
theorem Dr.quad(a b c:Rat):Dr 2 (λx=>a+b*x+c*(x*x)) (λx=>b+2*c*x):=by
 have p1:∀x:Rat,cJ x 1=x:=λx=>by show 1*x=x;grind
 have p2:∀x:Rat,cJ x 2=x*x:=λx=>by show 1*x*x=x*x;grind
 refine⟨λk=>if k=0 then a else if k=1 then b else if k=2 then c else 0,λi hi=>by show (if i=0 then a else if i=1 then b else if i=2 then c else 0)=0;rw[Yc (),Yc (),Yc ()],λx=>?_,λx=>?_⟩
 .rw[gv (n:=3) (λi hi=>by show (if i=0 then a else if i=1 then b else if i=2 then c else 0)=0;rw[Yc (),Yc (),Yc ()]) ∅]
  show ((0+a*cJ x 0)+b*cJ x 1)+c*cJ x 2=_;rw[p1,p2];show ((0+a*1)+b*x)+c*(x*x)=_;grind
 .rw[gv (n:=2) (λi hi=>by show _*(if i+1=0 then a else if i+1=1 then b else if i+1=2 then c else 0)=(0:Rat);rw[Yc (),Yc (),Yc ()];grind) ∅]
  show (0+(((0+1:Nat):Int):Rat)*b*cJ x 0)+(((1+1:Nat):Int):Rat)*c*cJ x 1=_;rw[p1];show (0+1*b*1)+2*c*x=_;grind
theorem Dr.congr{n:Nat}{f f' g g':Rat->Rat}(h:Dr n f f')(e:∀x,g x=f x)(e':∀x,g' x=f' x):Dr n g g':=by
 obtain⟨u,b,e1,e2⟩:=h;exact⟨u,b,λx=>(e1 x).trans (e x).symm,λx=>(e2 x).trans (e' x).symm⟩
theorem Dr.up{m n:Nat}{f f':Rat->Rat}(h:Dr m f f')(l:m<=n):Dr n f f':=by
 obtain⟨u,b,e⟩:=h;exact⟨u,b.mono (),e⟩
theorem aU.dr(q:aU):Dr q.deg q.p q.d:=by
 cases q with
 | line r =>
  obtain⟨u,bu,e1,e2⟩:=Dr.quad (-r) 1 0;refine⟨u,?_,λx=>?_,λx=>?_⟩
  .intro i hi;have:=pF (f:=u) (g:=λk=>if k=0 then -r else if k=1 then 1 else 0) (bu.mono ∅) (λi hi=>by show (if i=0 then -r else if i=1 then 1 else 0)=0;rw[Yc (),Yc ()]) (λx=>?_) i
   .have hi:2<=i:=hi;rw[this,Yc (),Yc ()]
   .rw[e1,gv (n:=2) (λi hi=>by show (if i=0 then -r else if i=1 then 1 else 0)=0;rw[Yc (),Yc ()]) ∅]
    show _=(0 + -r*1)+1*(1*x);grind
  .rw[e1];show _=x-r;grind
  .rw[e2];show _=(1:Rat);grind
 | root n=>exact (Dr.quad (-n) 0 1).congr (λx=>by show x*x-n=_;grind) λx=>by show 2*x=_;grind
 | none n=>exact (Dr.quad n 0 1).congr (λx=>by show x*x+n=_;grind) λx=>by show 2*x=_;grind
theorem aU.drp(q:aU):∀k:Nat,k*q.deg<=17 -> ∃f',Dr (k*q.deg) (λx=>dQ (q.p x) k) f' /\ ∀x,f' x*q.p x=((k:Nat):Rat)*q.d x*dQ (q.p x) k
 | 0,_=>⟨λ_=>0,(Dr.const 1).up (),λx=>by show 0*q.p x=((0:Nat):Rat)*_*_;rw[show ((0:Nat):Rat)=0 from rfl];grind⟩
 | k+1,h=>by
  have hk:(k+1)*q.deg=q.deg+k*q.deg:=by rw[XM];nofun
  obtain⟨f',d,e⟩:=aU.drp q k ();refine⟨_,hk▸(q.dr.mul d ()),λx=>?_⟩;have:=e x;show (q.d x*dQ (q.p x) k+q.p x*f' x)*q.p x=((k+1:Nat):Rat)*q.d x*(q.p x*dQ (q.p x) k);rw[Rat.natCast_add,show ((1:Nat):Rat)=1 from rfl]
  grind
theorem Dl:∀l:List (aU×Nat),cQ l<=17 -> ∃f',Dr (cQ l) (jZ l) f' /\ ∀x,f' x*cq l x=jZ l x*fP l x
 | [],_=>⟨λ_=>0,Dr.const 1,λx=>by show 0*1=1*(0:Rat);grind⟩
 | q::l,h=>by
  have h:q.2*q.1.deg+cQ l<=17:=h;obtain⟨f',d,e⟩:=Dl l ();obtain⟨g',d2,e2⟩:=q.1.drp q.2 ();refine⟨_,d2.mul d h,λx=>?_⟩;have a:=e x;have b:=e2 x;show (g' x*jZ l x+dQ (q.1.p x) q.2*f' x)*(q.1.p x*cq l x)=dQ (q.1.p x) q.2*jZ l x*(((q.2:Nat):Rat)*q.1.d x*cq l x+q.1.p x*fP l x);have c1:g' x*jZ l x*(q.1.p x*cq l x)=(g' x*q.1.p x)*(jZ l x*cq l x):=⋯;have c2:dQ (q.1.p x) q.2*f' x*(q.1.p x*cq l x)=dQ (q.1.p x) q.2*q.1.p x*(f' x*cq l x):=⋯;rw[Rat.add_mul,c1,c2,a,b];grind
theorem DI{l:List (aU×Nat)}{W D:List Int}{c:Rat}(dl:cQ l<=17)(lW:W.length<=9)(hD:∀k,nz D k=((k+1:Nat):Int)*nz W (k+1))(e:∀x,aN W x=c*jZ l x)(x:Rat):aN D x*cq l x=aN W x*fP l x:=by
 obtain⟨f',⟨u,bu,e1,e2⟩,e3⟩:=Dl l dl;have eu:∀k,ff W k=(λk=>0+c*u k) k:=pF ((ck W).mono ()) (λi hi=>by show 0+c*u i=0;rw[bu i ()];grind) λx=>by
  rw[lY,nQ (f:=λ_=>0) λ_=>rfl,e1];show aN W x=_;rw[e x];grind
 have ed:∀k,ff D k=(λk=>0+c*DF u k) k:=λk=>by
  show ((nz D k:Int):Rat)=0+c*((((k+1:Nat):Int):Rat)*u (k+1));rw[hD k,Ye];have:=eu (k+1);have this:((nz W (k+1):Int):Rat)=0+c*u (k+1):=this;rw[this];grind
 have w:aN D x=c*f' x:=by
  unfold aN;rw[fW ed x,lY,nQ (f:=λ_=>0) λ_=>rfl,e2];grind
 have:=e3 x;rw[w,e x];grind
def Fw(ms ns:List Int):Prop:=∃Q:List Int,∀k,nz ms k=pz (nz Q) (nz ns) Q.length k
theorem zY{ms qs rs ns:List Int}{n p:Nat}(ln:0<ns.length)(lr:rs.length=p+ns.length)(lq:qs.length=n)(e:∀k,nz ms k=pz (nz qs) (nz ns) n k+nz rs k)(h0:nz ns (ns.length-1)≠0)(ex:Fw ms ns):nz ns (ns.length-1)∣nz rs (p+(ns.length-1)):=by
 obtain⟨Q,eQ⟩:=ex;have key:∀k,pr (λi=>ff Q i-ff qs i) (ff ns) (Q.length+n) k=ff rs k:=λk=>by
  rw[xI,lX (ck Q),Nat.add_comm,lX (λi hi=>ck qs i ())];have e1:((nz ms k:Int):Rat)=((pz (nz Q) (nz ns) Q.length k:Int):Rat):=by rw[eQ k]
  have e2:((nz ms k:Int):Rat)=((pz (nz qs) (nz ns) n k+nz rs k:Int):Rat):=by rw[e k]
  rw[Y9,ix] at e2;rw[ix] at e1;show pr (λi=>((nz Q i:Int):Rat)) (λi=>((nz ns i:Int):Rat)) Q.length k-pr (λi=>((nz qs i:Int):Rat)) (λi=>((nz ns i:Int):Rat)) n k=((nz rs k:Int):Rat);grind
 have bd:Bd (Q.length+n) (λi=>ff Q i-ff qs i):=λi hi=>by
  show ff Q i-ff qs i=0;rw[ck Q i (),ck qs i ()];grind
 have hg:∀j,ns.length-1<j->ff ns j=0:=λj hj=>ck ns j ();have l0:ff ns (ns.length-1)≠0:=aG h0;have fin:(∀j,p<j->ff Q j-ff qs j=0)->nz ns (ns.length-1)∣nz rs (p+(ns.length-1)):=λhp=>by
  have a:=nD hg hp (Q.length+n);rw[key] at a;by_cases z:p<Q.length+n
  .rw[Yh z] at a;refine⟨nz Q p-nz qs p,Rat.intCast_inj.mp ?_⟩;rw[Ye,XS];show ff rs (p+(ns.length-1))=ff ns (ns.length-1)*(ff Q p-ff qs p);rw[a];grind
  .rw[Yc z] at a;refine⟨0,Rat.intCast_inj.mp ?_⟩;rw[YD];exact a
 rcases Bd.tp bd with z|⟨t,ht,tz,tb⟩
 .exact fin λj _=>z j
 .have tb:∀j,t<j->ff Q j-ff qs j=0:=λj hj=>tb j ();have a:=nD hg tb (Q.length+n);rw[key,Yh ht] at a;have tp:t<=p:=Nat.le_of_not_lt λy=>by
   rw[ck rs _ ()] at a;rcases Rat.mul_eq_zero.mp a.symm with w|w
   .exact tz w
   .exact l0 w
  exact fin λj hj=>tb j ()
theorem II{s:Rat}{N:Int}(h:s*s=(N:Rat)):∃k:Int,k*k=N:=by
 have d0:((s.den:Int):Rat)≠0:=aG (by have:=s.den_pos;nofun)
 have e:((s.num:Int):Rat)=s*((s.den:Int):Rat):=by
  have:=Rat.num_divInt_den s;rw[Rat.divInt_eq_div] at this;have z:(s.num:Rat)/((s.den:Int):Rat)=s:=this;grind
 have e2:((s.num*s.num:Int):Rat)=((N*(s.den*s.den):Int):Rat):=by
  rw[Ye,Ye,Ye,e];grind
 have e3:s.num*s.num=N*(s.den*s.den):=Rat.intCast_inj.mp e2;have dv:s.den∣s.num.natAbs*s.num.natAbs:=by
  rw[<-YG,e3];refine⟨N.natAbs*s.den,?_⟩;rw[YG,YG,XD];rw[Nat.mul_left_comm]
 have co:Nat.Coprime s.den s.num.natAbs:=s.reduced.symm;have d1:=co.dvd_of_dvd_mul_left dv;have:s.den∣1:=by
  have:=Nat.dvd_gcd (Nat.dvd_refl s.den) d1
  rwa [show Nat.gcd s.den s.num.natAbs=1 from co] at this
 have one:s.den=1:=Nat.dvd_one.mp this;rw[one] at e3;exact⟨s.num,()⟩
theorem pE{u v:Int}(v0:v≠0)(h:∀k:Int,k*k≠u*v)(r:Rat):r*r≠(u:Rat)/(v:Rat):=λe=>by
 have c:=aG v0;obtain⟨k,hk⟩:=II (s:=(v:Rat)*r) (N:=u*v) (by rw[Ye];grind)
 exact h k hk
theorem wB{N:Int}{b:Nat}(hN:N<(b:Int)*b)(h:∀k:Nat,k<b->(k:Int)*k≠N)(k:Int):k*k≠N:=λe=>by
 have e1:(k.natAbs:Int)*k.natAbs=N:=by rw[<-e];exact Int.natAbs_mul_self' k
 by_cases z:k.natAbs<b
 .exact h _ z e1
 .have:b*b<=k.natAbs*k.natAbs:=Y6 () ();have:((b*b:Nat):Int)<=((k.natAbs*k.natAbs:Nat):Int):=();rw[Int.natCast_mul,Int.natCast_mul] at this;nofun
def KL:List (Int×Int):=[(2,1),(3,1),(5,1),(6,1),(1,2),(7,4),(3,4)]
theorem Dy{q:Int×Int}(h:q∈KL):0<wv q /\ ∀r:Rat,r*r≠wv q:=by
 have pos:∀{q:Int×Int},0<q.1->0<q.2->0<wv q:=λ{q} a b=>by
  unfold wv;rw[Y5 (Rat.intCast_pos.mpr b)];have:=Rat.intCast_pos.mpr a;grind
 unfold KL at h;simp only[YY,YN,Xy] at h;rcases h with rfl|rfl|rfl|rfl|rfl|rfl|rfl
 .exact⟨pos ∅ ∅,pE ∅ (wB (b:=6) ∅ ∅)⟩
 .exact⟨pos ∅ ∅,pE ∅ (wB (b:=6) ∅ ∅)⟩
 .exact⟨pos ∅ ∅,pE ∅ (wB (b:=6) ∅ ∅)⟩
 .exact⟨pos ∅ ∅,pE ∅ (wB (b:=6) ∅ ∅)⟩
 .exact⟨pos ∅ ∅,pE ∅ (wB (b:=6) ∅ ∅)⟩
 .exact⟨pos ∅ ∅,pE ∅ (wB (b:=6) ∅ ∅)⟩
 .exact⟨pos ∅ ∅,pE ∅ (wB (b:=6) ∅ ∅)⟩
theorem xU{e:Rat}(a:Nat):∀b,dQ e (a+b)=dQ e a*dQ e b
 | 0=>by show dQ e a=dQ e a*1;grind
 | b+1=>by
  show e*dQ e (a+b)=dQ e a*(e*dQ e b);rw[xU a b];grind
theorem C1{l l':List (aU×Nat)}(h:l.Perm l')(x:Rat):jZ l x=jZ l' x:=by
 induction h with
 | nil=>rfl
 | cons q _ ih=>show dQ (q.1.p x) q.2*_=dQ (q.1.p x) q.2*_;rw[ih]
 | swap a b l=>show dQ (b.1.p x) b.2*(dQ (a.1.p x) a.2*jZ l x)=dQ (a.1.p x) a.2*(dQ (b.1.p x) b.2*jZ l x);grind
 | trans _ _ h1 h2=>rw[h1,h2]
theorem Aw{l l':List (aU×Nat)}(h:l.Perm l'):cQ l=cQ l':=by
 induction h with
 | nil=>rfl
 | cons q _ ih=>show q.2*q.1.deg+_=q.2*q.1.deg+_;rw[ih]
 | swap a b l=>show b.2*b.1.deg+(a.2*a.1.deg+cQ l)=a.2*a.1.deg+(b.2*b.1.deg+cQ l);nofun
 | trans _ _ h1 h2=>rw[h1,h2]
def cp(x:Rat):Rat:=if x<0 then -(x*x) else x*x
theorem wL{x y:Rat}(h:x<y):cp x<cp y:=by
 unfold cp;by_cases a:x<0
 .rw[Yh a];by_cases b:y<0
  .rw[Yh b];have:=Yq (show 0<y-x by grind) (show 0 < -x-y by grind)
   grind
  .rw[Yc b];have:=Yq (show 0 < -x by grind) (show 0 < -x by grind)
   have:=jk y;grind
 .rw[Yc a,Yc (show ¬ y<0 by grind)]
  have:=Yq (show 0<y-x by grind) (show 0<y+x by grind)
  grind
theorem kB{x y:Rat}:cp x<=cp y↔x<=y:=by
 refine⟨λh=>Rat.not_lt.mp λz=>?_,λh=>?_⟩
 .have:=wL z;grind
 .by_cases e:x=y
  .rw[e];grind
  .have:=wL (show x<y by grind)
   grind
def aU.mk:aU->List Rat
 | .line r=>[cp r]
 | .root n=>[-n,n]
 | .none _=>[]
theorem aU.A_mk{q:aU}(h:q.ok)(x:Rat):q.A x=((q.mk).filter λm=>decide (m<=cp x)).length:=by
 cases q with
 | none _=>rfl
 | line r =>
  show (if r<=x then 1 else 0)=([cp r].filter λm=>decide (m<=cp x)).length
  by_cases z:r<=x
  .rw[Yh z,Ys (by simpa using kB.mpr z)]
   rfl
  .rw[Yc z,YB (by simpa using λy=>z (kB.mp y))]
   rfl
 | root n =>
  obtain⟨n0,nn⟩:=h;show (if x*x<n then 1 else if x<0 then 0 else 2)=([-n,n].filter λm=>decide (m<=cp x)).length
  have p:=jk x;have ne:=nn x;by_cases a:x*x<n
  .have h1 : -n<=cp x:=by unfold cp;split<;>grind
   have h2:¬ n<=cp x:=by unfold cp;split<;>grind
   rw[Yh a,Ys (by simpa using h1),YB (by simpa using h2)]
   rfl
  .rw[Yc a];by_cases b:x<0
   .have h1:¬ -n<=cp x:=by unfold cp;rw[Yh b];grind
    have h2:¬ n<=cp x:=by unfold cp;rw[Yh b];grind
    rw[Yh b,YB (by simpa using h1),YB (by simpa using h2)]
    rfl
   .have h1 : -n<=cp x:=by unfold cp;rw[Yc b];grind
    have h2:n<=cp x:=by unfold cp;rw[Yc b];grind
    rw[Yc b,Ys (by simpa using h1),Ys (by simpa using h2)]
    rfl
def m7(l:List (aU×Nat)):List Rat:=l.flatMap λq=>q.1.mk
theorem jL{x:Rat}:∀{l:List (aU×Nat)},(∀q∈l,q.1.ok/\1<=q.2)->bQ l x=((m7 l).filter λm=>decide (m<=cp x)).length
 | [],_=>rfl
 | q::l,h=>by
  show q.1.A x+bQ l x=((q.1.mk++m7 l).filter _).length;rw[List.filter_append,Yt,aU.A_mk (h q Yj).1,jL λp hp=>h p (Yf _ hp)]
theorem tP:∀l:List (aU×Nat),jj l=(m7 l).length
 | []=>rfl
 | q::l=>by
  show q.1.tot+jj l=(q.1.mk++m7 l).length;rw[Yt,tP l];cases q.1<;>rfl
theorem Ce{r n:Rat}(h:cp r=n\/cp r = -n)(n0:0<n):r*r=n:=by
 unfold cp at h;have:=jk r;split at h<;>grind
theorem mM{l:List (aU×Nat)}(ok:∀q∈l,q.1.ok/\1<=q.2)(un:l.Pairwise λa b=>a.1≠b.1):(m7 l).Nodup:=by
 refine List.pairwise_flatMap.mpr ⟨λq hq=>?_,?_⟩
 .cases hq':q.1 with
  | line r=>exact List.pairwise_singleton _ _
  | none n=>exact .nil
  | root n =>
   have:=(ok q hq).1;rw[hq'] at this;have n0:=this.1;exact List.pairwise_cons.mpr ⟨λy hy=>by rw[List.mem_singleton.mp hy];grind,List.pairwise_singleton _ _⟩
 .refine List.Pairwise.imp_of_mem (R:=λa b=>a.1≠b.1) (λ{a b} ha hb n x hx y hy e=>?_) un;have oa:=(ok a ha).1;have ob:=(ok b hb).1;subst e;cases ea:a.1 with
  | none m=>rw[ea] at hx;cases hx
  | line r =>
   rw[ea] at hx;have hx:=List.mem_singleton.mp hx;cases eb:b.1 with
   | none m=>rw[eb] at hy;cases hy
   | line s =>
    rw[eb] at hy;have hy:=List.mem_singleton.mp hy;have z:cp r=cp s:=hx.symm.trans hy;have:r=s:=by
     have:=kB.mp (show cp r<=cp s by grind)
     have:=kB.mp (show cp s<=cp r by grind)
     grind
    exact n (by rw[ea,eb,this])
   | root m =>
    rw[eb] at hy ob;refine ob.2 r (Ce ?_ ob.1);rcases YY.mp hy with z|z
    .exact .inr (hx.symm.trans z)
    .exact .inl (hx.symm.trans (List.mem_singleton.mp z))
  | root m =>
   rw[ea] at hx oa;have hx:x = -m\/x=m:=by
    rcases YY.mp hx with z|z
    .exact .inl z
    .exact .inr (List.mem_singleton.mp z)
   cases eb:b.1 with
   | none m'=>rw[eb] at hy;cases hy
   | line s =>
    rw[eb] at hy;have hy:=List.mem_singleton.mp hy;refine oa.2 s (Ce ?_ oa.1);rcases hx with z|z
    .exact .inr (hy.symm.trans z)
    .exact .inl (hy.symm.trans z)
   | root m' =>
    rw[eb] at hy ob;have hy:x = -m'\/x=m':=by
     rcases YY.mp hy with z|z
     .exact .inl z
     .exact .inr (List.mem_singleton.mp z)
    have p1:=oa.1;have p2:=ob.1;have:m=m':=⋯;exact n (by rw[ea,eb,this])
def mh(lo hi:Option Rat)(m:Rat):Bool:=(match lo with|none=>true|some a=>decide (cp a<m)) && (match hi with|none=>true|some b=>!decide (cp b<m))
theorem vL{lo hi:Option Rat}(lt:∀a b,lo=some a->hi=some b->a<=b):∀ms:List Rat,(ms.filter (mh lo hi)).length+(match lo with|none=>0|some a=>(ms.filter λm=>decide (m<=cp a)).length)=(match hi with|none=>ms.length|some b=>(ms.filter λm=>decide (m<=cp b)).length)
 | []=>by cases lo<;>cases hi<;>rfl
 | m::ms=>by
  have ih:=vL lt ms;have f1:∀(p:Rat->Bool),((m::ms).filter p).length=cond (p m) 1 0+(ms.filter p).length:=λp=>by
   cases z:p m with
   | true=>rw[Ys z,Yv];show _=1+_;nofun
   | false=>rw[YB (by rw[z];decide)];show _=0+_;nofun
  have n1:∀a:Rat,cp a<m->decide (m<=cp a)=false:=λa z=>YZ ⋯;have n2:∀a:Rat,¬ cp a<m->decide (m<=cp a)=true:=λa z=>Y1 ⋯;cases lo with
  | none =>
   cases hi with
   | none =>
    have ih:_+0=ms.length:=ih;rw[f1];show 1+_+0=ms.length+1;nofun
   | some b =>
    have ih:_+0=(ms.filter λm=>decide (m<=cp b)).length:=ih;rw[f1];show _+_+0=((m::ms).filter λm=>decide (m<=cp b)).length;rw[f1];have e:mh none (some b) m=decide (m<=cp b):=by
     show (true && !decide (cp b<m))=_;by_cases z:cp b<m
     .rw[Y1 z,n1 b z];rfl
     .rw[YZ z,n2 b z];rfl
    rw[e];nofun
  | some a =>
   cases hi with
   | none =>
    have ih:_+(ms.filter λm=>decide (m<=cp a)).length=ms.length:=ih;rw[f1];show _+_+((m::ms).filter λm=>decide (m<=cp a)).length=ms.length+1;rw[f1];have e:mh (some a) none m=decide (cp a<m):=by show (decide (cp a<m) && true)=_;rw[Bool.and_true]
    rw[e];by_cases z:cp a<m
    .rw[Y1 z,n1 a z];show 1+_+(0+_)=_;nofun
    .rw[YZ z,n2 a z];show 0+_+(1+_)=_;nofun
   | some b =>
    have ab:=kB.mpr (lt a b rfl rfl);have ih:_+(ms.filter λm=>decide (m<=cp a)).length=(ms.filter λm=>decide (m<=cp b)).length:=ih;rw[f1];show _+_+((m::ms).filter λm=>decide (m<=cp a)).length=((m::ms).filter λm=>decide (m<=cp b)).length;rw[f1,f1];have e:mh (some a) (some b) m=(decide (cp a<m) && !decide (cp b<m)):=rfl;rw[e];by_cases z:cp a<m
    .rw[Y1 z,n1 a z];by_cases y:cp b<m
     .rw[Y1 y,n1 b y];show 0+_+(0+_)=0+_;nofun
     .rw[YZ y,n2 b y];show 1+_+(0+_)=1+_;nofun
    .have y:¬ cp b<m:=⋯;rw[YZ z,n2 a z,YZ y,n2 b y];show 0+_+(1+_)=1+_;nofun
theorem mD{l:List (aU×Nat)}{ms:List Rat}{lo hi:Option Rat}(ok:∀q∈l,q.1.ok/\1<=q.2)(un:l.Pairwise λa b=>a.1≠b.1)(nd:ms.Nodup)(hm:∀v,v∈ms↔v∈m7 l)(lt:∀a b,lo=some a->hi=some b->a<=b):(ms.filter (mh lo hi)).length+CS l lo=vG l hi:=by
 have p:ms.Perm (m7 l):=(List.perm_ext_iff_of_nodup nd (mM ok un)).mpr hm;rw[(p.filter _).length_eq];have:=vL lt (m7 l);cases lo with
 | none =>
  cases hi with
  | none=>show _+0=jj l;rw[tP];exact this
  | some b=>show _+0=bQ l b;rw[jL ok];exact this
 | some a =>
  cases hi with
  | none=>show _+bQ l a=jj l;rw[tP,jL ok];exact this
  | some b=>show _+bQ l a=bQ l b;rw[jL ok,jL ok];exact this
def qL(a b:Int):List (List Int×List Int×Int×Int)->List (List Int)
 | []=>[]
 | row::rows=>(row.1.map λy=>(-a*row.2.2.1.sign*row.2.2.2.sign)*y)::qL b (-a*row.2.2.1.sign*row.2.2.2.sign) rows
def tx(a:Int):Prop:=a=1\/a = -1
theorem tx.next{a S T:Int}(h:tx a)(s0:S≠0)(t0:T≠0):tx (-a*T.sign*S.sign):=by
 unfold tx at *
 rcases eU t0 with ⟨z,_⟩|⟨z,_⟩<;>rcases eU s0 with ⟨y,_⟩|⟨y,_⟩<;>rcases h with x|x<;>rw[x,y,z]<;>decide
theorem pQ.ne{F G:List Int}{rows:List (List Int×List Int×Int×Int)}(h:pQ F G rows):∀row∈rows,row.2.2.1≠0/\row.2.2.2≠0/\row.1≠[]/\nz row.1 (row.1.length-1)≠0:=by
 induction h with
 | nought=>simp
 | last=>simp
 | more g0 gl s0 t0 r0 rl lr lq e hr ih =>
  intro row iH;rcases YY.mp iH with rfl|z
  .exact⟨t0,s0,r0,rl⟩
  .exact ih row z
theorem jO:∀(rows:List (List Int×List Int×Int×Int))(a b:Int)(G G1:List Int),(∀row∈rows,row.2.2.1≠0/\row.2.2.2≠0)->tx a->tx b->(∀k,nz G1 k=b*nz G k)->G1.length=G.length -> ∃L s,(G1::qL a b rows).getLast? = some L/\tx s/\(∀k,nz L k=s*nz (fR G rows) k)/\L.length=(fR G rows).length
 | [],a,b,G,G1,_,_,hb,h,hl=>⟨G1,b,rfl,hb,h,hl⟩
 | row::rows,a,b,G,G1,hn,ha,hb,h,hl=>by
  obtain⟨L,s,e,ps,hL⟩:=jO rows b (-a*row.2.2.1.sign*row.2.2.2.sign) row.1 (row.1.map λy=>(-a*row.2.2.1.sign*row.2.2.2.sign)*y) (λr hr=>hn r (Yf _ hr)) hb (ha.next (hn row Yj).2 (hn row Yj).1) (λk=>dH k) (by rw[Yb])
  refine⟨L,s,?_,ps,hL⟩;show (G1::(row.1.map _)::qL b _ rows).getLast? = some L;rw[List.getLast?_cons_cons];exact e
theorem pQ.short{F G:List Int}{rows:List (List Int×List Int×Int×Int)}(h:pQ F G rows):(fR G rows).length<=G.length /\ ∀row∈rows,(fR G rows).length<=row.1.length:=by
 induction h with
 | nought=>exact⟨Yi _,by simp⟩
 | last=>exact⟨Yi _,by simp⟩
 | @more F G R Q T S rows g0 gl s0 t0 r0 rl lr lq e hr ih =>
  have i1:(fR R rows).length<=R.length:=ih.1;refine⟨by show (fR R rows).length<=G.length;nofun,λrow iH=>?_⟩
  rcases YY.mp iH with rfl|z
  .exact i1
  .exact ih.2 row z
theorem FA{W h P:List Int}(lW:W.length=1)(h0:h≠[])(hz:nz h (h.length-1)≠0)(P1:P.length=1)(Pz:nz P 0≠0)(e:∀k,nz W k=pz (nz h) (nz P) h.length k):∃c:Int,c≠0/\h=[c]:=by
 have hp:=List.length_pos_iff.mpr h0;have hg:∀j,0<j->ff P j=0:=λj hj=>ck P j ();have hf:∀j,h.length-1<j->ff h j=0:=λj hj=>ck h j ();have a:=nD hg hf h.length;rw[Yh ()] at a;have b:((nz W (h.length-1):Int):Rat)=((pz (nz h) (nz P) h.length (h.length-1):Int):Rat):=by rw[<-e]
 rw[ix] at b;have l1:h.length=1:=Yu λn=>by
  rw[a7 ()] at b;have z:ff h (h.length-1)*ff P 0=0:=a.symm.trans b.symm;rcases Rat.mul_eq_zero.mp z with y|y
  .exact aG hz y
  .exact aG Pz y
 match h,l1,hz with
 | [c],_,hz=>exact⟨c,hz,rfl⟩
theorem tG:∀(rows:List (List Int×List Int×Int×Int))(a b:Int),(∀row∈rows,row.2.2.1≠0/\row.2.2.2≠0)->tx a->tx b -> ∀F∈qL a b rows,∃row∈rows,∃s,tx s/\F=row.1.map λy=>s*y
 | [],_,_,_,_,_,_,h=>by cases h
 | row::rows,a,b,hn,ha,hb,F,h=>by
  have hm:=ha.next (hn row Yj).2 (hn row Yj).1
  rcases YY.mp h with z|z
  .exact⟨row,Yj,_,hm,z⟩
  .obtain⟨r,hr,s,hs,e⟩:=tG rows b _ (λr hr=>hn r (Yf _ hr)) hb hm F z;exact⟨r,Yf _ hr,s,hs,e⟩
theorem vg.exq{P F:List Int}(h:vg P F)(lF:F.length<=9)(lP:P.length<=9) {s:Int}:Fw (F.map λy=>s*y) P:=by
 obtain⟨A,lA,e⟩:=h;refine⟨A.map λy=>s*y,C9 (by rw[Yb];nofun) (by rw[Yb];nofun) λx=>?_⟩
 rw[gf (G:=F) (c:=s) λk=>dH k,gf (G:=A) (c:=s) λk=>dH k,e x];grind
theorem Fy(F:List Int):(F.map λy=>1*y)=F:=by
 rw[show (λy:Int=>1*y)=id from funext λy=>YK y,List.map_id]
inductive xQ (P:List Int):List (List Int)->List (List Int)->Prop
 | nil:xQ P [] []
 | cons {F h:List Int}{Fs hs:List (List Int)}:h.length<=9->h≠[]->nz h (h.length-1)≠0->(∀k,nz F k=pz (nz h) (nz P) h.length k)->xQ P Fs hs->xQ P (F::Fs) (h::hs)
theorem xQ.all{P:List Int}{Fs hs:List (List Int)}(h:xQ P Fs hs):∀x∈hs,x≠[]/\x.length<=20/\nz x (x.length-1)≠0:=by
 induction h with
 | nil=>simp
 | cons a b c _ _ ih =>
  intro x hx;rcases YY.mp hx with rfl|z
  .exact⟨b,(),c⟩
  .exact ih x z
theorem xQ.hsOk{P:List Int}(lP:P.length<=9):∀{rows:List (List Int×List Int×Int×Int)}{a b:Int}{hs:List (List Int)},xQ P (qL a b rows) hs->CL (aN P) a b rows hs
 | [],a,b,hs,h=>by cases h;rfl
 | row::rows,a,b,hs,h=>by
  cases h with
  | cons l _ _ e t =>
   refine⟨l,λx=>?_,xQ.hsOk lP t⟩;rw[<-mS () e,gf (G:=row.1) (c:=-a*row.2.2.1.sign*row.2.2.2.sign) λk=>dH k]
def CC(fs:List (Int×Int))(hs:List (List Int)):Prop:=(fs.length=1 /\ ∃c:Int,c≠0/\hs=[[c]]) \/ ∃(h0 h1:List Int)(tl:List (List Int))(κ:Rat),hs=h0::h1::tl/\(∀R:Rat,0<=R->Ch R (aN h0) (aN h1::tl.map aN))/\0<κ /\ ∀(l:List (aU×Nat))(c:Rat),cQ l<=17->(∀x,EV (cf fs) x=c*jZ l x) -> ∀x,κ*(aN h1 x*cq l x)=aN h0 x*fP l x
theorem zO{W O P L:List Int}{rows:List (List Int×List Int×Int×Int)}{g:Int}(rq:pQ W O rows)(o0:O≠[])(lW:W.length<=9)(lO:O.length<=W.length)(hp:jJ (nz P))(lP:P.length<=9)(hL:(O::qL 1 1 rows).getLast? = some L)(eL:∀k,nz L k=g*nz P k)(lr:∀row∈rows,row.1.length<=9):∀F∈W::O::qL 1 1 rows,Fw F P:=by
 have hn:∀row∈rows,row.2.2.1≠0/\row.2.2.2≠0:=λrow h=>⟨(rq.ne row h).1,(rq.ne row h).2.1⟩;obtain⟨L',s,e,ps,hs,_⟩:=jO rows 1 1 O O hn (.inl rfl) (.inl rfl) (λk=>by rw[YK]) rfl
 rw[hL] at e;cases e;have el:∀k,nz (fR O rows) k=(s*g)*nz P k:=λk=>by
  have a:=hs k;rw[eL k] at a;have:s*(g*nz P k)=s*(s*nz (fR O rows) k):=by rw[a]
  rw[<-YM,<-YM,show s*s=1 by rcases ps with z|z<;>rw[z]<;>decide,YK] at this
  exact this.symm
 obtain⟨dW,dO,dr⟩:=rq.div hp lP o0 lW lO el;have one:∀{F:List Int},vg P F->F.length<=9->Fw F P:=λ{F} d l=>by
  have:=d.exq l lP (s:=1)
  rwa [Fy] at this
 intro F hF;rcases YY.mp hF with rfl|hF
 .exact one dW lW
 .rcases YY.mp hF with rfl|hF
  .exact one dO ()
  .obtain⟨row,hr,s',_,rfl⟩:=tG rows 1 1 hn (.inl rfl) (.inl rfl) F hF;exact (dr row hr).exq (lr row hr) lP
theorem KE{fs:List (Int×Int)}{W O P L S:List Int}{rows:List (List Int×List Int×Int×Int)}{hs:List (List Int)}{g g':Int}{C:Rat}(rq:pQ W O rows)(o0:O≠[])(lW:W.length<=9)(lO:O.length<=W.length)(p0:P≠[])(pz0:nz P (P.length-1)≠0)(lP:P.length<=9)(hL:(O::qL 1 1 rows).getLast? = some L)(g0:g≠0)(eL:∀k,nz L k=g*nz P k)(hW:∀k,ff W k=cf fs k*C)(hS:∀k,nz S k=((k+1:Nat):Int)*nz W (k+1))(gp:0<g')(hO:∀k,nz S k=g'*nz O k)(pt:xQ P (W::O::qL 1 1 rows) hs):CC fs hs:=by
 have hn:∀row∈rows,row.2.2.1≠0/\row.2.2.2≠0:=λrow h=>⟨(rq.ne row h).1,(rq.ne row h).2.1⟩;obtain⟨L',s,e,ps,hs',_⟩:=jO rows 1 1 O O hn (.inl rfl) (.inl rfl) (λk=>by rw[YK]) rfl
 rw[hL] at e;cases e;have s2:s*s=1:=by rcases ps with z|z<;>rw[z]<;>decide
 have el:∀k,nz (fR O rows) k=(s*g)*nz P k:=λk=>by
  have a:=hs' k;rw[eL k] at a;have:s*(g*nz P k)=s*(s*nz (fR O rows) k):=by rw[a]
  rw[<-YM,<-YM,s2,YK] at this;exact this.symm
 have pl:Py (aN P):=cK ();have l0:∃x,aN P x≠0:=Yu λz=>pz0 (by
  have:=oH (F:=P) (G:=[]) () (by simp) (λx=>by
   rw[oi];exact Yu λy=>z ⟨x,y⟩) (P.length-1)
  rw[this,a7 (by simp)])
 cases pt with
 | @cons _ h0 _ _ a1 a2 a3 a4 pt =>
 cases pt with
 | @cons _ h1 _ tl b1 b2 b3 b4 pt =>
 have e0:∀x,aN W x=aN h0 x*aN P x:=mS () a4;have e1:∀x,aN O x=aN h1 x*aN P x:=mS () b4;have c1:((1:Int):Rat)=1:=rfl;refine .inr ⟨h0,h1,tl,(g':Rat),rfl,λR R0=>?_,Rat.intCast_pos.mpr gp,λl c dl el' x=>?_⟩
 .exact rq.ch R0 pl l0 (a:=1) (b:=1) (g:=s*g) (.inl rfl) (.inl rfl) (YH (by rcases ps with z|z<;>nofun) g0) o0 lW lO a1 b1 (λx=>by rw[c1,Rat.one_mul];exact e0 x) (λx=>by rw[c1,Rat.one_mul];exact e1 x) (pt.hsOk lP) λx=>gf el x
 .have eW:∀x,aN W x=(c*C)*jZ l x:=λx=>by
   have:aN W x=EV (cf fs) x*C:=by
    unfold aN;rw[fW (g:=λk=>0+C*cf fs k) (λk=>by rw[hW k];grind) x,lY,nQ (f:=λ_=>0) λ_=>rfl]
    grind
   rw[this,el' x];grind
  have sid:=DI dl lW hS eW;have key:=Py.zero (f:=λx=>(g':Rat)*(aN h1 x*cq l x)-aN h0 x*fP l x) (g:=aN P) ?_ pl (λx=>?_) l0 x
  .grind
  .have q1:∀l:List (aU×Nat),Py (cq l)/\Py (fP l):=by
    have fp:∀q:aU,Py q.p/\Py q.d:=λq=>by
     cases q with
     | line r=>exact⟨(Py.id.sub (.const r)).congr λx=>rfl,(Py.const 1).congr λx=>rfl⟩
     | root n=>exact⟨((Py.id.mul Py.id).sub (.const n)).congr λx=>rfl,((Py.const 2).mul Py.id).congr λx=>rfl⟩
     | none n=>exact⟨((Py.id.mul Py.id).add (.const n)).congr λx=>rfl,((Py.const 2).mul Py.id).congr λx=>rfl⟩
    intro l;induction l with
    | nil=>exact⟨(Py.const 1).congr λx=>rfl,(Py.const 0).congr λx=>rfl⟩
    | cons q l ih=>exact⟨((fp q.1).1.mul ih.1).congr λx=>rfl,((((Py.const _).mul (fp q.1).2).mul ih.1).add ((fp q.1).1.mul ih.2)).congr λx=>rfl⟩
   exact (((cK ()).mul (q1 l).1).sc _).sub ((cK ()).mul (q1 l).2)
  .have z1:=sid x;have z2:aN S x=(g':Rat)*aN O x:=gf hO x;rw[z2,e0 x,e1 x] at z1;grind
theorem uO{fs:List (Int×Int)}{hs:List (List Int)}{l:List (aU×Nat)}{c:Rat}(h:CC fs hs)(all:∀x∈hs,x≠[]/\x.length<=20/\nz x (x.length-1)≠0)(ok:∀q∈l,q.1.ok/\1<=q.2)(un:l.Pairwise λa b=>a.1≠b.1)(dl:cQ l<=17)(d1:fs.length=cQ l+1)(e:∀x,EV (cf fs) x=c*jZ l x) {lo hi:Option Rat}(lt:∀a b,lo=some a->hi=some b->a<=b):chg 0 (gj (-1) lo hs)+CS l lo=chg 0 (gj 1 hi hs)+vG l hi:=by
 rcases h with ⟨f1,a,a0,rfl⟩|⟨h0,h1,tl,κ,rfl,ch,k0,id⟩
 .have l0:l=[]:=by
   cases l with
   | nil=>rfl
   | cons q l =>
    have h1:cQ (q::l)=q.2*q.1.deg+cQ l:=rfl;have h2:=(ok q Yj).2;have h3:1<=q.1.deg:=by cases q.1<;>simp[aU.deg]
    have:=Y6 h2 h3;nofun
  subst l0;have e1:∀x,CS [] x=0:=λx=>by cases x<;>rfl
  have e2:∀x,vG [] x=0:=λx=>by cases x<;>rfl
  have one:∀s:Int,chg 0 [s]=0:=λs=>by
   by_cases z:s=0
   .rw[z,yC];rfl
   .rw[v8 z];rfl
  have e3:∀(side:Int)(y:Option Rat),chg 0 (gj side y [[a]])=0:=λside y=>by
   cases y with
   | none=>exact one _
   | some x=>exact one _
  rw[e1,e2,e3,e3]
 .exact wu ch ok un k0 (id l c dl e) all lt
def vI(u v:Rat):Int:=if sg u*sg v = -1 then 1 else 0
def Do(R:Rat)(f g:Rat->Rat)(A:Rat->Int):Prop:=∃δ:Rat,0<δ /\ ∀c d,Wi R c->Wi R d->c<=d->d-c<=δ->(sg (f c)=sg (f d)/\sg (f c)≠0/\A c=A d)\/(sg (g c)=sg (g d)/\sg (g c)≠0/\vI (f c) (g c)+A c=vI (f d) (g d)+A d)
def Bz(f g:Rat->Rat):Prop:=∃u v,Py u/\Py v /\ ∀x,u x*f x+v x*g x=1
theorem Bz.symm{f g:Rat->Rat}(h:Bz f g):Bz g f:=by
 obtain⟨u,v,a,b,e⟩:=h;exact⟨v,u,b,a,λx=>by have:=e x;grind⟩
theorem Bz.mul{f g h:Rat->Rat}(pf:Py f)(pg:Py g)(ph:Py h)(a:Bz f g)(b:Bz f h):Bz f λx=>g x*h x:=by
 obtain⟨u,v,pu,pv,e⟩:=a;obtain⟨u',v',pu',pv',e'⟩:=b;refine⟨λx=>u x*(u' x*f x+v' x*h x)+v x*g x*u' x,λx=>v x*v' x,(pu.mul ((pu'.mul pf).add (pv'.mul ph))).add ((pv.mul pg).mul pu'),pv.mul pv',λx=>?_⟩;have e1:=e x;have e2:=e' x;have:(u x*f x+v x*g x)*(u' x*f x+v' x*h x)=1:=by rw[e1,e2];grind
 grind
theorem Bz.add{f g k:Rat->Rat}(pk:Py k)(h:Bz f g):Bz f λx=>g x+f x*k x:=by
 obtain⟨u,v,pu,pv,e⟩:=h;exact⟨λx=>u x-v x*k x,v,pu.sub (pv.mul pk),pv,λx=>by have:=e x;grind⟩
theorem Bz.congr{f g f' g':Rat->Rat}(h:Bz f g)(e1:∀x,f' x=f x)(e2:∀x,g' x=g x):Bz f' g':=by
 obtain⟨u,v,pu,pv,e⟩:=h;exact⟨u,v,pu,pv,λx=>by rw[e1,e2];exact e x⟩
theorem Bz.of{f g a b:Rat->Rat}{c:Rat}(pa:Py a)(pb:Py b)(c0:c≠0)(e:∀x,a x*f x+b x*g x=c):Bz f g :=
 ⟨λx=>1/c*a x,λx=>1/c*b x,pa.sc _,pb.sc _,λx=>by
  have:=e x;have:1/c*c=1:=⋯;grind⟩
theorem aU.pp:∀q:aU,Py q.p
 | .line r=>(Py.id.sub (.const r)).congr λ_=>rfl
 | .root n=>((Py.id.mul Py.id).sub (.const n)).congr λ_=>rfl
 | .none n=>((Py.id.mul Py.id).add (.const n)).congr λ_=>rfl
theorem aU.pd:∀q:aU,Py q.d
 | .line _=>(Py.const 1).congr λ_=>rfl
 | .root _=>((Py.const 2).mul Py.id).congr λ_=>rfl
 | .none _=>((Py.const 2).mul Py.id).congr λ_=>rfl
theorem iY:∀l:List (aU×Nat),Py (cq l)
 | []=>(Py.const 1).congr λ_=>rfl
 | q::l=>(q.1.pp.mul (iY l)).congr λ_=>rfl
theorem kI:∀l:List (aU×Nat),Py (fP l)
 | []=>(Py.const 0).congr λ_=>rfl
 | q::l=>((((Py.const _).mul q.1.pd).mul (iY l)).add (q.1.pp.mul (kI l))).congr λ_=>rfl
theorem aU.bz{q q':aU}(h:q.ok)(h':q'.ok)(n:q≠q'):Bz q.p q'.p:=by
 have none_none:∀m m':Rat,m≠m'->Bz (aU.none m).p (aU.none m').p:=λm m' n=>.of (a:=λ_=>1) (b:=λ_=>-1) (c:=m-m') (.const 1) (.const (-1)) (λz=>n ⋯) λx=>by
  show 1*(x*x+m) + -1*(x*x+m')=m-m';grind
 have line_none:∀r m:Rat,0<m->Bz (aU.line r).p (aU.none m).p:=λr m m0=>.of (a:=λx=>-(x+r)) (b:=λ_=>1) (c:=r*r+m) (((Py.id.add (.const r)).sc (-1)).congr λx=>by grind) (.const 1) (λz=>by have:=jk r;grind) λx=>by
  show -(x+r)*(x-r)+1*(x*x+m)=r*r+m;grind
 have root_none:∀n m:Rat,0<n->0<m->Bz (aU.root n).p (aU.none m).p:=λn m n0 m0=>.of (a:=λ_=>-1) (b:=λ_=>1) (c:=n+m) (.const (-1)) (.const 1) ⋯ λx=>by
  show -1*(x*x-n)+1*(x*x+m)=n+m;grind
 have line_root':∀r n:Rat,(∀r:Rat,r*r≠n)->Bz (aU.line r).p (aU.root n).p:=λr n hn=>.of (a:=λx=>-(x+r)) (b:=λ_=>1) (c:=r*r-n) (((Py.id.add (.const r)).sc (-1)).congr λx=>by grind) (.const 1) (λz=>hn r ⋯) λx=>by
  show -(x+r)*(x-r)+1*(x*x-n)=r*r-n;grind
 cases q with
 | line r =>
  cases q' with
  | line s=>exact .of (a:=λ_=>1) (b:=λ_=>-1) (c:=s-r) (.const 1) (.const (-1)) (λz=>n (by rw[show r=s by grind])) λx=>by show 1*(x-r) + -1*(x-s)=s-r;grind
  | root m=>exact line_root' r m h'.2
  | none m=>exact line_none r m h'
 | root m =>
  cases q' with
  | line s=>exact (line_root' s m h.2).symm
  | root m'=>exact .of (a:=λ_=>1) (b:=λ_=>-1) (c:=m'-m) (.const 1) (.const (-1)) (λz=>n (by rw[show m=m' by grind])) λx=>by show 1*(x*x-m) + -1*(x*x-m')=m'-m;grind
  | none m'=>exact root_none m m' h.1 h'
 | none m =>
  cases q' with
  | line s=>exact (line_none s m h).symm
  | root m'=>exact (root_none m' m h'.1 h).symm
  | none m'=>exact none_none m m' λz=>n (by rw[z])
theorem aU.bzd{q:aU}(h:q.ok):Bz q.p q.d:=by
 cases q with
 | line r=>exact .of (a:=λ_=>0) (b:=λ_=>1) (c:=1) (.const 0) (.const 1) ∅ λx=>by show 0*_+1*(1:Rat)=1;grind
 | root n =>
  have n0:=h.1;exact .of (a:=λ_=>-2) (b:=λx=>x) (c:=2*n) (.const (-2)) .id ⋯ λx=>by show -2*(x*x-n)+x*(2*x)=2*n;grind
 | none n =>
  have n0:0<n:=h;exact .of (a:=λ_=>2) (b:=λx=>-x) (c:=2*n) (.const 2) ((Py.id.sc (-1)).congr λx=>by grind) ⋯ λx=>by show 2*(x*x+n) + -x*(2*x)=2*n;grind
theorem Bz.sc{f g:Rat->Rat}{c:Rat}(c0:c≠0)(h:Bz f g):Bz f λx=>c*g x:=by
 obtain⟨u,v,pu,pv,e⟩:=h;exact⟨u,λx=>1/c*v x,pu,pv.sc _,λx=>by
  have:=e x;have:1/c*c=1:=⋯;grind⟩
theorem Bx{q:aU}(h:q.ok):∀{l:List (aU×Nat)},(∀p∈l,p.1.ok/\1<=p.2)->(∀p∈l,q≠p.1)->Bz q.p (cq l)
 | [],_,_=>(Bz.of (a:=λ_=>0) (b:=λ_=>1) (c:=1) (g:=λ_=>1) (.const 0) (.const 1) ∅ λx=>by grind).congr (λ_=>rfl) λ_=>rfl
 | p::l,ok,n=>(Bz.mul q.pp p.1.pp (iY l) (aU.bz h (ok p Yj).1 (n p Yj)) (Bx h (λp' hp=>ok p' (Yf _ hp)) λp' hp=>n p' (Yf _ hp))).congr (λ_=>rfl) λ_=>rfl
theorem BJ:∀{l:List (aU×Nat)},(∀q∈l,q.1.ok/\1<=q.2)->l.Pairwise (λa b=>a.1≠b.1)->Bz (cq l) (fP l)
 | [],_,_=>⟨λ_=>1,λ_=>0,.const 1,.const 0,λx=>by show 1*1+0*0=(1:Rat);grind⟩
 | q::l,ok,un=>by
  obtain⟨u1,u2⟩:=List.pairwise_cons.mp un;have okl:∀p∈l,p.1.ok/\1<=p.2:=λp hp=>ok p (Yf _ hp);have ih:=BJ okl u2;have hq:=ok q Yj;have m0:((q.2:Nat):Rat)≠0:=λz=>by
   have h1:((1:Nat):Rat)<=((q.2:Nat):Rat):=Rat.natCast_le_natCast.mpr hq.2;have h2:((1:Nat):Rat)=1:=rfl;grind
  have b1:=Bx hq.1 okl λp hp=>u1 p hp;have x1:Bz q.1.p (fP (q::l)):=by
   have:=(((Bz.mul q.1.pp q.1.pd (iY l) (aU.bzd hq.1) b1).sc m0)).add (kI l);exact this.congr (λ_=>rfl) λx=>by show ((q.2:Nat):Rat)*q.1.d x*cq l x+q.1.p x*fP l x=_;grind
  have x2:Bz (cq l) (fP (q::l)):=by
   have:=(Bz.mul (iY l) q.1.pp (kI l) b1.symm ih).add ((q.1.pd.sc ((q.2:Nat):Rat)));exact this.congr (λ_=>rfl) λx=>by show ((q.2:Nat):Rat)*q.1.d x*cq l x+q.1.p x*fP l x=_;grind
  exact (Bz.mul (kI _) q.1.pp (iY l) x1.symm x2.symm).symm.congr (λ_=>rfl) λ_=>rfl
theorem oS:∀l:List Rat,∃l':List Rat,(∀x,dU l x=dU l' x)/\(l'=[] \/ ∃c,l'.getLast? = some c/\c≠0)
 | []=>⟨[],λ_=>rfl,.inl rfl⟩
 | a::l=>by
  obtain⟨l',e,h⟩:=oS l;rcases h with rfl|⟨c,hc,c0⟩
  .by_cases z:a=0
   .exact⟨[],λx=>by show a+x*dU l x=0;rw[e x];show a+x*0=0;grind,.inl rfl⟩
   .exact⟨[a],λx=>by show a+x*dU l x=a+x*0;rw[e x];rfl,.inr ⟨a,rfl,z⟩⟩
  .refine⟨a::l',λx=>by show a+x*dU l x=a+x*dU l' x;rw[e x],.inr ⟨c,?_,c0⟩⟩
   cases l' with
   | nil=>cases hc
   | cons b l'=>rw[List.getLast?_cons_cons];exact hc
theorem sN:∀l:List Rat,(∃c,l.getLast? = some c/\c≠0) -> ∃R c:Rat,0<R/\0<c /\ ∀x,R<=x->Bg c (dU l x)/\(2<=l.length->Bg (c*x) (dU l x))
 | [],⟨_,h,_⟩=>by cases h
 | [a],⟨c,h,c0⟩=>by
  cases h;rcases cg a with ⟨z,_⟩|⟨z,_⟩|⟨z,_⟩
  .exact⟨1,a,∅,z,λx _=>⟨.inl (by show a<=a+x*0;grind),λh=>by simp at h⟩⟩
  .exact⟨1,-a,∅,⋯,λx _=>⟨.inr (by show a+x*0<=_;grind),λh=>by simp at h⟩⟩
  .exact absurd z c0
 | a::b::l,⟨c,h,c0⟩=>by
  rw[List.getLast?_cons_cons] at h;obtain⟨R,k,R0,k0,hk⟩:=sN (b::l) ⟨c,h,c0⟩;obtain⟨t,t0,ht⟩:=hU.const (R:=0) a;have ht:=ht 0 (by unfold Wi;grind)
  have tk:0<2*t/k:=by rw[Y5 k0];grind
  have tkk:2*t/k*k=2*t:=⋯;refine⟨R+1+2*t/k,k/2,⋯,⋯,λx hx=>?_⟩;have b1:=(hk x ⋯).1;have m:=Yk (Yl k0) (show 0<=x-(1+2*t/k) by grind)
  have b2:=(show Bg x x from .inl ⋯).mul b1 ⋯ (Yl k0)
  have b3:Bg (k/2*x) (a+x*dU (b::l) x):=by
   unfold Bg at b2 ⊢;unfold Sm at ht;grind
  refine⟨b3.mono ?_,λ_=>b3⟩;have:=Yk (show 0<=k/2 by grind) (show 0<=x-1 by grind)
  grind
theorem xA{w v:Rat->Rat}(pw:Py w)(pv:Py v)(e:∀x,w x*v x=1):∃c:Rat,c≠0 /\ ∀x,w x=c:=by
 obtain⟨lw,hw⟩:=pw;obtain⟨lv,hv⟩:=pv;obtain⟨w',ew,kw⟩:=oS lw;obtain⟨v',ev,kv⟩:=oS lv;have nw:w'≠[]:=λz=>by
  have:=e 0;rw[hw,ew,z] at this;have this:(0:Rat)*v 0=1:=this;grind
 have nv:v'≠[]:=λz=>by
  have:=e 0;rw[hv,ev,z] at this;have this:w 0*(0:Rat)=1:=this;grind
 obtain⟨R1,c1,R10,c10,h1⟩:=sN w' (kw.resolve_left nw);obtain⟨R2,c2,R20,c20,h2⟩:=sN v' (kv.resolve_left nv);by_cases l2:2<=w'.length
 .exfalso;have cc:=Yq c10 c20;have d0:0<2/(c1*c2):=by rw[Y5 cc];grind
  have dd:2/(c1*c2)*(c1*c2)=2:=⋯;obtain⟨x,hx⟩ : ∃x,x=R1+R2+2/(c1*c2):=⟨_,rfl⟩;have b1:=(h1 x ⋯).2 l2;have b2:=(h2 x ⋯).1;have x0:0<x:=⋯;have b3:=b1.mul b2 (Yl (Yq c10 x0)) (Yl c20);have e1:=e x;rw[hw,hv,ew,ev] at e1;rw[e1] at b3;have:=Yk (Yl cc) (show 0<=x-2/(c1*c2) by grind)
  unfold Bg at b3;grind
 .clear h1 kw;match w',nw,l2,ew with
  | _::_::_,_,l2,_=>exact absurd (by simp) l2
  | [a],_,_,ew =>
   have ex:∀x,w x=a:=λx=>by rw[hw,ew x];show a+x*0=a;grind
   refine⟨a,λz=>?_,ex⟩;have:=e 0;rw[ex,z] at this;grind
theorem DB{l:List (aU×Nat)}{f g:Rat->Rat}{κ:Rat}(pf:Py f)(pg:Py g)(ok:∀q∈l,q.1.ok/\1<=q.2)(un:l.Pairwise λa b=>a.1≠b.1)(k0:0<κ)(id:∀x,κ*(g x*cq l x)=f x*fP l x)(bz:Bz f g):∃c:Rat,c≠0 /\ ∀x,f x=c*cq l x:=by
 obtain⟨u,v,pu,pv,e⟩:=bz;obtain⟨u',v',pu',pv',e'⟩:=BJ ok un;have p1:=iY l;have p2:=kI l;have w1:∀x,cq l x=f x*(u x*cq l x+1/κ*(v x*fP l x)):=λx=>by
  have h1:=e x;have h2:=id x;have kk:1/κ*κ=1:=⋯;have:cq l x=(u x*f x+v x*g x)*cq l x:=by rw[h1];grind
  have h3:g x*cq l x=1/κ*(f x*fP l x):=by
   rw[<-h2];grind
  grind
 have w2:∀x,f x=cq l x*(u' x*f x+κ*(v' x*g x)):=λx=>by
  have h1:=e' x;have h2:=id x;have:f x=f x*(u' x*cq l x+v' x*fP l x):=by rw[h1];grind
  grind
 have n0:∃x,cq l x≠0:=Yu λz=>by
  have h1:=e' 0;have h2:∀x,cq l x=0:=λx=>Yu λy=>z ⟨x,y⟩;have:∀(l:List (aU×Nat)),∃R:Rat,0<R /\ ∀x,R<=x->(∀q∈l,q.1.ok/\1<=q.2)->cq l x≠0:=by
   intro l;induction l with
   | nil=>exact⟨1,∅,λx _ _=>by show (1:Rat)≠0;decide⟩
   | cons q l ih =>
    obtain⟨R,R0,hR⟩:=ih;obtain⟨R',R1,hR'⟩ : ∃R:Rat,0<R /\ ∀x,R<=x->q.1.ok->q.1.p x≠0:=by
     cases q.1 with
     | line r =>
      obtain⟨t,t0,ht⟩:=hU.const (R:=0) r;have ht:=ht 0 (by unfold Wi;grind)
      exact⟨t+1,⋯,λx hx _=>by show x-r≠0;unfold Sm at ht;grind⟩
     | root n=>exact⟨1,∅,λx _ o=>λy=>o.2 x (by have y:x*x-n=0:=y;grind)⟩
     | none n=>exact⟨1,∅,λx _ o=>λy=>by have y:x*x+n=0:=y;have o:0<n:=o;have:=jk x;grind⟩
    refine⟨R+R',⋯,λx hx ok y=>?_⟩;have y:q.1.p x*cq l x=0:=y;rcases Rat.mul_eq_zero.mp y with z|z
    .exact hR' x ⋯ (ok q Yj).1 z
    .exact hR x ⋯ (λp hp=>ok p (Yf _ hp)) z
  obtain⟨R,R0,hR⟩:=this l;exact hR R ⋯ ok (h2 R)
 have pw:Py λx=>u x*cq l x+1/κ*(v x*fP l x):=(pu.mul p1).add ((pv.mul p2).sc _);have pw2:Py λx=>u' x*f x+κ*(v' x*g x):=(pu'.mul pf).add ((pv'.mul pg).sc _);have prod:∀x,(u' x*f x+κ*(v' x*g x))*(u x*cq l x+1/κ*(v x*fP l x))=1:=λx=>by
  have:=Py.zero (f:=λx=>(u' x*f x+κ*(v' x*g x))*(u x*cq l x+1/κ*(v x*fP l x))-1) (g:=cq l) ((pw2.mul pw).sub (.const 1)) p1 (λx=>by
   have a:=w1 x;have b:=w2 x;have:cq l x=cq l x*(u' x*f x+κ*(v' x*g x))*(u x*cq l x+1/κ*(v x*fP l x)):=by rw[<-b];exact a
   grind) n0 x
  grind
 obtain⟨c,c0,hc⟩:=xA pw2 pw prod;exact⟨c,c0,λx=>by
  have a:=w2 x;have b:=hc x;have b:u' x*f x+κ*(v' x*g x)=c:=b;rw[b] at a;grind⟩
def mq(ms ns:List Int)(rows:List (List Int×List Int×Int×Int)):List (List Int):=if ns=[] then [ms] else ms::ns::qL 1 1 rows
theorem wO:∀(s:List Int)(l:Int),chg l s<=s.length
 | [],_=>Yi 0
 | a::s,l=>by
  by_cases z:a=0
  .rw[z,yC];have:=wO s l;simp;nofun
  .rw[qg z];have:=wO s a;simp;split<;>nofun
theorem pQ.bez{F G:List Int}{rows:List (List Int×List Int×Int×Int)}(h:pQ F G rows)(lF:F.length<=9)(lG:G.length<=F.length)(g0:G≠[]):∃u v,Py u/\Py v /\ ∀x,u x*aN F x+v x*aN G x=aN (fR G rows) x:=by
 induction h with
 | nought=>exact absurd rfl g0
 | @last F G Q S _ _ _ _ _=>exact⟨λ_=>0,λ_=>1,.const 0,.const 1,λx=>by show 0*aN F x+1*aN G x=aN G x;grind⟩
 | @more F G R Q T S rows _ gl s0 t0 r0 rl lr lq e hr ih =>
  obtain⟨u,v,pu,pv,hx⟩:=ih () () r0;have t0':=aG t0;refine⟨λx=>(S:Rat)/(T:Rat)*v x,λx=>u x-1/(T:Rat)*(v x*aN Q x),pv.sc _,pu.sub ((pv.mul (cK ())).sc _),λx=>?_⟩;have h1:=hx x;have h2:(S:Rat)*aN F x=aN Q x*aN G x+(T:Rat)*aN R x:=mz (show Q.length+G.length<=20 by nofun) e x
  show _=aN (fR R rows) x;rw[<-h1];have h3:aN R x=(S:Rat)/(T:Rat)*aN F x-1/(T:Rat)*(aN Q x*aN G x):=by
   have:(T:Rat)*aN R x=(S:Rat)*aN F x-aN Q x*aN G x:=⋯;have k:1/(T:Rat)*(T:Rat)=1:=⋯;have k2:(S:Rat)/(T:Rat)=1/(T:Rat)*(S:Rat):=⋯;rw[k2];grind
  rw[h3];grind
theorem EC{M a b:Rat}(ha : -M<=a)(hb:b<=M)(ab:a<=b):cp b-cp a<=2*M*(b-a):=by
 have M0:0<=M:=⋯;unfold cp;by_cases za:a<0
 .by_cases zb:b<0
  .rw[Yh za,Yh zb];have:=Yk (show 0<=b-a by grind) (show 0<=2*M+(a+b) by grind)
   grind
  .rw[Yh za,Yc zb];have h1:=Yk (show 0<=b by grind) (show 0<=M-b by grind)
   have h2:=Yk (show 0 <= -a by grind) (show 0<=M+a by grind)
   have h3:=Yk M0 (show 0<=b-a by grind)
   grind
 .rw[Yc za,Yc (show ¬ b<0 by grind)]
  have:=Yk (show 0<=b-a by grind) (show 0<=2*M-(a+b) by grind)
  grind
theorem uU{p q:Int×Int}{B:Nat}(fp:Fq p)(fq:Fq q)(bp:Bq B p)(bq:Bq B q)(lt:wv p<wv q):1<=(wv q-wv p)*(((2^(2*B):Nat):Int):Rat):=by
 have p2:(0:Rat)<(p.2:Rat):=Rat.intCast_pos.mpr fp.1;have q2:(0:Rat)<(q.2:Rat):=Rat.intCast_pos.mpr fq.1;have ep:wv p*(p.2:Rat)=(p.1:Rat):=YE ⋯;have eq:wv q*(q.2:Rat)=(q.1:Rat):=YE ⋯;have e:(wv q-wv p)*((p.2:Rat)*(q.2:Rat))=((q.1*p.2-p.1*q.2:Int):Rat):=by
  rw[XS,Ye,Ye,<-ep,<-eq];grind
 have pq:=Yq p2 q2;have pos:0<q.1*p.2-p.1*q.2:=by
  rw[<-Rat.intCast_pos,<-e];exact Yq ⋯ pq
 have one:(1:Rat)<=(wv q-wv p)*((p.2:Rat)*(q.2:Rat)):=by
  rw[e];have:((1:Int):Rat)<=((q.1*p.2-p.1*q.2:Int):Rat):=Rat.intCast_le_intCast.mpr ();exact this
 have le:(p.2:Rat)*(q.2:Rat)<=(((2^(2*B):Nat):Int):Rat):=by
  rw[<-Ye];refine Rat.intCast_le_intCast.mpr ?_;have h1:p.2.natAbs<2^B:=bp.2;have h2:q.2.natAbs<2^B:=bq.2;have h3:p.2.natAbs*q.2.natAbs<=2^B*2^B:=Y6 (XF h1) (XF h2);have h4:p.2*q.2=((p.2.natAbs*q.2.natAbs:Nat):Int):=by
   have a:=fp.1;have b:=fq.1;rw[show ((p.2.natAbs*q.2.natAbs:Nat):Int)=(p.2.natAbs:Int)*(q.2.natAbs:Int) by simp]
   rw[Int.natAbs_of_nonneg (),Int.natAbs_of_nonneg ()]
  rw[h4,show 2^(2*B)=2^B*2^B by rw[<-Xt];congr 1;nofun]
  exact Int.ofNat_le.mpr h3
 have:=Yk (show 0<=wv q-wv p by grind) (show 0<=(((2^(2*B):Nat):Int):Rat)-(p.2:Rat)*(q.2:Rat) by grind)
 grind
theorem Eg{ρ y x A:Rat}(ρ0:0<ρ)(hy:2*ρ<=y)(hx:Sm y x)(A0:0<A):∀F:List Int,(∀k,k<F.length->Sm (A*dQ ρ (F.length-k)) ((nz F k:Int):Rat))->Sm (A*dQ y F.length-A*dQ ρ F.length) (ig F x):=by
 intro F;induction F with
 | nil =>
  intro _;show Sm (A*1-A*1) (0:Rat);unfold Sm;grind
 | cons a F ih =>
  intro h;have h0:=h 0 (by simp)
  have h0:Sm (A*dQ ρ (F.length+1)) (a:Rat):=h0;have i:=ih λk hk=>by
   have:=h (k+1) (by simp;nofun)
   rw[show (a::F).length-(k+1)=F.length-k by simp] at this
   exact this
  have y0:0<y:=⋯;have pρ:=eV ρ0 F.length;have m:=hx.mul i;show Sm (A*(y*dQ y F.length)-A*(ρ*dQ ρ F.length)) ((a:Rat)+x*ig F x);have h0:Sm (A*(ρ*dQ ρ F.length)) (a:Rat):=h0;have ap:=Yq A0 pρ;have k:=Yk (Yl ap) (show 0<=y-2*ρ by grind)
  unfold Sm at *
  grind
theorem vo{c:Int}{x:Rat}:∀F:List Int,ig (F++[c]) x=ig F x+(c:Rat)*dQ x F.length
 | []=>by show (c:Rat)+x*0=0+(c:Rat)*1;grind
 | a::F=>by
  show (a:Rat)+x*ig (F++[c]) x=(a:Rat)+x*ig F x+(c:Rat)*(x*dQ x F.length);rw[vo F];grind
theorem vS{ρ x y:Rat}{c:Int}{F:List Int}(ρ0:0<ρ)(hy:2*ρ<=y)(hx:Sm y x)(bx:Bg y x)(c0:c≠0)(h:∀k,k<F.length->Sm (((c.natAbs:Int):Rat)*dQ ρ (F.length-k)) ((nz F k:Int):Rat)):sg (ig (F++[c]) x)=sg ((c:Rat)*dQ x F.length)/\sg (ig (F++[c]) x)≠0:=by
 have y0:0<y:=⋯;have A0:(0:Rat)<((c.natAbs:Int):Rat):=Rat.intCast_pos.mpr ();have s:=Eg ρ0 hy hx A0 F h;have bp:∀n,Bg (dQ y n) (dQ x n):=λn=>by
  induction n with
  | zero=>exact .inl (by show (1:Rat)<=1;grind)
  | succ n ih=>exact bx.mul ih (Yl y0) (Yl (eV y0 n))
 have bc:Bg ((c.natAbs:Int):Rat) (c:Rat):=by
  rcases Int.lt_or_gt_of_ne c0 with z|z
  .right
   rw[<-Xh];exact Rat.intCast_le_intCast.mpr ()
  .left
   exact Rat.intCast_le_intCast.mpr ()
 have b:=bc.mul (bp F.length) (Yl A0) (Yl (eV y0 _));have ap:=Yq A0 (eV ρ0 F.length);rw[vo];generalize (c:Rat)*dQ x F.length=M at b ⊢;generalize ((c.natAbs:Int):Rat)*dQ y F.length=E at b s;generalize ((c.natAbs:Int):Rat)*dQ ρ F.length=e at ap s;generalize ig F x=r at s;unfold Sm at s;unfold Bg at b;rcases b with b|b
 .rw[cn (show 0<r+M by grind),cn (show 0<M by grind)]
  exact⟨rfl,∅⟩
 .rw[dN (show r+M<0 by grind),dN (show M<0 by grind)]
  exact⟨rfl,∅⟩
theorem Do.const{R:Rat}{f g:Rat->Rat}{A:Rat->Int}(loc:Do R f g A) {a b:Rat}(wa:Wi R a)(wb:Wi R b)(ab:a<=b)(sa:∀x,a<=x->x<=b->sg (f x)=sg (f a)):A a=A b:=by
 obtain⟨δ,d0,h⟩:=loc;have step:∀c d,a<=c->d<=b->c<=d->d-c<=δ->A c=A d:=λc d ac db cd n=>by
  have wc:Wi R c:=by unfold Wi at *;grind
  have wd:Wi R d:=by unfold Wi at *;grind
  rcases h c d wc wd cd n with ⟨_,_,e⟩|⟨eg,_,e⟩
  .exact e
  .have ef:sg (f c)=sg (f d):=by rw[sa c ac ⋯,sa d ⋯ db]
   unfold vI at e;rw[ef,eg] at e;nofun
 have all:∀(n:Nat)(c:Rat),a<=c->c<=b->b-c<=(n:Rat)*δ->A c=A b:=by
  intro n;induction n with
  | zero =>
   intro c _ cb z;obtain rfl:c=b:=by
    have:((0:Nat):Rat)=0:=rfl;grind
   rfl
  | succ n ih =>
   intro c ac cb z;by_cases y:b-c<=δ
   .exact step c b ac ⋯ cb y
   .rw[step c (c+δ) ac ⋯ ⋯ ⋯];refine ih (c+δ) ⋯ ⋯ ?_;have:((n+1:Nat):Rat)=(n:Rat)+1:=by rw[Rat.natCast_add];rfl
    rw[this] at z;grind
 obtain⟨n,hn⟩ : ∃n:Nat,b-a<=(n:Rat)*δ:=by
  obtain⟨x,hx⟩ : ∃x,x=(b-a)/δ:=⟨_,rfl⟩;refine⟨(x.ceil).toNat,?_⟩;have h1:x<=((x.ceil:Int):Rat):=Rat.le_ceil;have h2:((x.ceil:Int):Rat)<=((x.ceil.toNat:Nat):Rat):=by
   rw[show ((x.ceil.toNat:Nat):Rat)=(((x.ceil.toNat:Nat):Int):Rat) from rfl]
   exact Rat.intCast_le_intCast.mpr (Int.self_le_toNat _)
  have h3:=Yk (Yl d0) (show 0<=((x.ceil.toNat:Nat):Rat)-x by grind)
  have h4:x*δ=b-a:=by rw[hx];grind
  grind
 exact all n a ⋯ ab hn
theorem FO.toI{R:Rat}{f g:Rat->Rat}{A:Rat->Nat}(h:FO R f g A):Do R f g λx=>((A x:Nat):Int):=by
 obtain⟨δ,d0,h⟩:=h;refine⟨δ,d0,λc d wc wd cd n=>?_⟩;rcases h c d wc wd cd n with ⟨a,b,e⟩|⟨a,b,e⟩
 .exact .inl ⟨a,b,Xb (λn:Nat=>(n:Int)) e⟩
 .refine .inr ⟨a,b,?_⟩;show vI (f c) (g c)+((A c:Nat):Int)=vI (f d) (g d)+((A d:Nat):Int);have k:∀x,((v1 f g x:Nat):Int)=vI (f x) (g x):=λx=>by
   unfold v1 vI;split<;>rfl
  rw[<-k,<-k];nofun
theorem zA{y:Rat}:∀n,dQ (-y) n=(if n%2=0 then 1 else -1)*dQ y n
 | 0=>by show (1:Rat)=1*1;grind
 | n+1=>by
  show -y*dQ (-y) n=_*(y*dQ y n);rw[zA n];by_cases z:n%2=0
  .rw[Yh z,Yc ()];grind
  .rw[Yc z,Yh ()];grind
theorem Ii{l:List (aU×Nat)}{F h1:List Int}{c:Int}{g:Rat->Rat}{tl:List (Rat->Rat)}{κ ρ:Rat}(ch:∀R:Rat,0<=R->Ch R (aN (F++[c])) (g::tl))(lg:∀R:Rat,0<=R->wG R g)(ok:∀q∈l,q.1.ok/\1<=q.2)(un:l.Pairwise λa b=>a.1≠b.1)(k0:0<κ)(id:∀x,κ*(g x*cq l x)=aN (F++[c]) x*fP l x)(lF:(F++[c]).length<=20)(ρ0:0<ρ)(c0:c≠0)(h:∀k,k<F.length->Sm (((c.natAbs:Int):Rat)*dQ ρ (F.length-k)) ((nz F k:Int):Rat)):bQ l (2*ρ)=jj l/\bQ l (-(2*ρ))=0:=by
 obtain⟨R2,p2,f2⟩:=ot l ok;obtain⟨R,hR⟩ : ∃R,R=R2+2*ρ:=⟨_,rfl⟩;have R0:0<=R:=⋯;have nr:=(yh R0 ok un (ch R R0).lip (lg R R0) ((ch R R0).notBoth g tl rfl) k0 id).toI;obtain⟨o1,o2⟩:=f2 R ⋯;have up:∀x,2*ρ<=x->sg (aN (F++[c]) x)=sg (c:Rat):=λx hx=>by
  rw[jw lF,(vS ρ0 hx (by unfold Sm;grind) (.inl ⋯) c0 h).1,dP,cn (eV (show 0<x by grind) F.length),XN]
 have dn:∀x,x <= -(2*ρ)->sg (aN (F++[c]) x)=sg (c:Rat)*sg (if F.length%2=0 then 1 else -1:Rat):=λx hx=>by
  rw[jw lF,(vS (y:=-x) ρ0 ⋯ (by unfold Sm;grind) (.inr ⋯) c0 h).1,dP,show dQ x F.length=dQ (- -x) F.length by rw[show - -x=x by grind],zA,dP,cn (eV (show 0 < -x by grind) F.length),XN]
 have a1:=nr.const (a:=2*ρ) (b:=R) (by unfold Wi;grind) (by unfold Wi;grind) ⋯ λx h1 _=>by rw[up x h1,up (2*ρ) ⋯]
 have a2:=nr.const (a:=-R) (b:=-(2*ρ)) (by unfold Wi;grind) (by unfold Wi;grind) ⋯ λx _ h1=>by rw[dn x h1,dn (-R) ⋯]
 have a1:((bQ l (2*ρ):Nat):Int)=((bQ l R:Nat):Int):=a1;have a2:((bQ l (-R):Nat):Int)=((bQ l (-(2*ρ)):Nat):Int):=a2;rw[o1] at a1;rw[o2] at a2;nofun
theorem vy(E:Nat):∀k,dQ ((((2^E:Nat):Int):Rat)/2) k*(((2^k:Nat):Int):Rat)=(((2^(E*k):Nat):Int):Rat)
 | 0=>by show (1:Rat)*((1:Int):Rat)=((1:Int):Rat);have:((1:Int):Rat)=1:=rfl;rw[this];grind
 | k+1=>by
  have ih:=vy E k;have e1:(((2^(k+1):Nat):Int):Rat)=2*(((2^k:Nat):Int):Rat):=by
   rw[show (2:Rat)=((2:Int):Rat) from rfl,<-Ye]
   congr 1
   rw[Xe];nofun
  have e2:(((2^(E*(k+1)):Nat):Int):Rat)=(((2^E:Nat):Int):Rat)*(((2^(E*k):Nat):Int):Rat):=by
   rw[<-Ye];congr 1
   rw[Nat.mul_succ,Xt,XO];rfl
  show (((2^E:Nat):Int):Rat)/2*dQ _ k*_=_;rw[e1,e2,<-ih];grind
theorem xM{w c:Int}{b B k E:Nat}(hw:w.natAbs<2^b)(hc:2^(B-1)<=c.natAbs)(B1:1<=B)(k1:1<=k)(hE:1-((B:Int)-(b:Int)-1).fdiv (k:Int)<=(E:Int)):Sm (((c.natAbs:Int):Rat)*dQ ((((2^E:Nat):Int):Rat)/2) k) (w:Rat):=by
 have q1:((B:Int)-(b:Int)-1).fdiv (k:Int)*(k:Int)<=(B:Int)-(b:Int)-1:=by
  rw[Int.fdiv_eq_ediv_of_nonneg _ ()];exact Int.ediv_mul_le _ ()
 have q2:((E*k:Nat):Int) >= (k:Int)-((B:Int)-(b:Int)-1):=by
  have m:=Int.mul_le_mul_of_nonneg_right hE (show (0:Int)<=(k:Int) by nofun)
  rw[Int.sub_mul,YK] at m;rw[show ((E*k:Nat):Int)=(E:Int)*(k:Int) by simp]
  nofun
 have q3:b+k<=(B-1)+E*k:=();have h1:w.natAbs*2^k<=c.natAbs*2^(E*k):=by
  refine Yz (Xf _ (XF hw)) (Yz ?_ (Xf _ hc));rw[<-Xt,<-Xt];exact Y8 ∅ q3
 have p:=vy E k;have t0:(0:Rat)<(((2^k:Nat):Int):Rat):=Rat.intCast_pos.mpr (by have:=Y4 k;nofun)
 have h2:((w.natAbs:Int):Rat)*(((2^k:Nat):Int):Rat)<=((c.natAbs:Int):Rat)*(((2^(E*k):Nat):Int):Rat):=by
  rw[<-Ye,<-Ye];refine Rat.intCast_le_intCast.mpr ?_;rw[<-Int.natCast_mul,<-Int.natCast_mul];exact Int.ofNat_le.mpr h1
 rw[<-p] at h2;have h3:((w.natAbs:Int):Rat)<=((c.natAbs:Int):Rat)*dQ ((((2^E:Nat):Int):Rat)/2) k:=by
  refine Rat.not_lt.mp λz=>?_;have:=Yq (show 0<((w.natAbs:Int):Rat)-((c.natAbs:Int):Rat)*dQ ((((2^E:Nat):Int):Rat)/2) k by grind) t0
  grind
 have h4:(w:Rat)<=((w.natAbs:Int):Rat):=Rat.intCast_le_intCast.mpr ();have h5 : -((w.natAbs:Int):Rat)<=(w:Rat):=by
  rw[<-Xh];exact Rat.intCast_le_intCast.mpr ()
 unfold Sm;grind
theorem GT{α:Type}{l:List α}(nd:l.Nodup)(h:∀x∈l,∀y∈l,x=y):l.length<=1:=by
 match l,nd,h with
 | [],_,_=>simp
 | [_],_,_=>simp
 | a::b::l,nd,h =>
  obtain⟨n,_⟩:=List.nodup_cons.mp nd;exact absurd (by rw[h a (by simp) b (by simp)];simp) n
theorem CU{ms:List Rat}{M a b:Rat}{B:Nat}(nd:ms.Nodup)(hm:∀m∈ms,∃q:Int×Int,m=wv q/\Fq q/\Bq B q)(ha : -M<=a)(hb:b<=M)(ab:a<=b)(sm:2*M*(b-a)*(((2^(2*B):Nat):Int):Rat)<=1):(ms.filter (mh (some a) (some b))).length<=1:=by
 refine GT (nd.filter _) λx hx y hy=>?_;have key:∀x y:Rat,x∈ms.filter (mh (some a) (some b))->y∈ms.filter (mh (some a) (some b)) -> ¬ x<y:=λx y hx hy lt=>by
  obtain⟨hx1,hx2⟩:=List.mem_filter.mp hx;obtain⟨hy1,hy2⟩:=List.mem_filter.mp hy;simp only[mh,Xk,decide_eq_true_eq,Bool.not_eq_true',decide_eq_false_iff_not] at hx2 hy2;obtain⟨p,rfl,fp,bp⟩:=hm x hx1;obtain⟨q,rfl,fq,bq⟩:=hm y hy1;have h1:=uU fp fq bp bq lt;have h2:=EC ha hb ab;have t0:(0:Rat)<(((2^(2*B):Nat):Int):Rat):=Rat.intCast_pos.mpr (by have:=Y4 (2*B);nofun)
  have h3:=Yq (show 0<2*M*(b-a)-(wv q-wv p) by grind) t0
  grind
 have a1:=key x y hx hy;have a2:=key y x hy hx;grind
def wt(J:Nat)(l:Nat):Nat:=2^(J+2-l)-1
theorem Io{J l:Nat}(h:l<=J+1):1<=wt J l:=by
 unfold wt;have:2^1<=2^(J+2-l):=Y8 ∅ ();nofun
theorem JA{J l:Nat}(h:l<=J):wt J (l+1)+wt J (l+1)<wt J l:=by
 unfold wt;rw[show J+2-l=(J+2-(l+1))+1 by nofun,Xe]
 have:=Y4 (J+2-(l+1));nofun
def KD(n:Rat)(a b:Int)(x:Rat):Int:=if x*x<n then a else if x<0 then 0 else a+b
section
variable {κ:Type} [DecidableEq κ]
def ql(kvs:List (κ×V))(k:κ):Option V:=(kvs.find? λkv=>decide (kv.1=k)).map (·.2)
def uX(kvs:List (κ×V))(k:κ)(v:V):List (κ×V) :=
 if (kvs.any λkv=>decide (kv.1=k))=true then kvs.map (λkv=>if kv.1=k then (kv.1,v) else kv) else kvs++[(k,v)]
theorem vq{p:κ×V}{r:List (κ×V)}{k:κ}(e:p.1=k):ql (p::r) k=some p.2:=by simp[ql,XT,e]
theorem uK{p:κ×V}{r:List (κ×V)}{k:κ}(e:¬ p.1=k):ql (p::r) k=ql r k:=by simp[ql,XT,e]
theorem uI(kvs:List (κ×V))(k:κ)(v:V):(uX kvs k v).length<=kvs.length+1:=by
 unfold uX;split
 .rw[Yb];nofun
 .rw[Yt,Yv,Xx];nofun
theorem KV.val{kvs:List (κ×V)}{vs:List (κ×Value)}(r:KV kvs vs)(k:κ):ud (ql kvs k) (valueAt vs k):=by
 unfold KV at r;induction r with
 | nil=>exact True.intro
 | @cons p q ps qs h t ih =>
  obtain⟨h1,h2⟩:=h;by_cases e:p.1=k
  .have e':q.1=k:=h1.symm.trans e;have b:valueAt (q::qs) k=some q.2:=by simp[valueAt,XT,e']
   rw[vq e,b];exact h2
  .have e':¬ q.1=k:=λz=>e (h1.trans z);have b:valueAt (q::qs) k=valueAt qs k:=by simp[valueAt,XT,e']
   rw[uK e,b];exact ih
theorem KV.any{kvs:List (κ×V)}{vs:List (κ×Value)}(r:KV kvs vs)(k:κ):(kvs.any λkv=>decide (kv.1=k))=vs.any λkv=>decide (kv.1=k):=by
 unfold KV at r;induction r with
 | nil=>rfl
 | cons h t ih=>rw[List.any_cons,List.any_cons,ih,h.1]
theorem KV.repl{kvs:List (κ×V)}{vs:List (κ×Value)}(r:KV kvs vs)(k:κ) {y:V}{u:Value}(ry:bH y u) :
  KV (kvs.map λkv=>if kv.1=k then (kv.1,y) else kv) (vs.map λkv=>if kv.1=k then (kv.1,u) else kv):=by
 unfold KV at r ⊢;induction r with
 | nil=>exact .nil
 | @cons p q ps qs h t ih =>
  rw[YQ,YQ];refine .cons ?_ ih;obtain⟨h1,h2⟩:=h;by_cases e:p.1=k
  .rw[Yh e,Yh (h1.symm.trans e)];exact⟨h1,ry⟩
  .rw[Yc e,Yc (λz=>e (h1.trans z))];exact⟨h1,h2⟩
theorem KV.put{kvs:List (κ×V)}{vs:List (κ×Value)}(r:KV kvs vs)(k:κ) {y:V}{u:Value}(ry:bH y u):KV (uX kvs k y) (stored vs k u):=by
 unfold uX stored;rw[r.any k];by_cases e:(vs.any λkv=>decide (kv.1=k))=true
 .rw[Yh e,Yh e];exact r.repl k ry
 .rw[Yc e,Yc e];exact Paired.snoc r ⟨rfl,ry⟩
end
theorem Dt{P:Program}{w:World}{k:gU}{u:Value}(r:bH (kV k) u):(de P w).is k u=true:=by
 cases k with
 | inl i=>obtain⟨t,e⟩:=(show ∃t,u=Value.int i t from r);subst e;exact vR P w i t
 | inr x=>obtain⟨t,e⟩:=(show ∃t,u=Value.str x t from r);subst e;exact uP P w x t
theorem qO{P:Program}{w:World}:∀{ks:List gU}{us:List Value},aY (ks.map kV) us->ItemsAre (de P w) ks us
 | [],_,r=>by rw[XB] at r;cases r;exact .nil
 | k::ks,_,r=>by
  rw[YQ] at r;cases r with
  | cons h t=>exact .cons (Dt h) (qO t)
abbrev KT (H:Hp):List (List gU×V)->List (List gU×Addr×Value)->Prop:=Paired λp q=>p.1=q.1/\H q.2.1=some (.tup (p.1.map kV))/\bH p.2 q.2.2
theorem KT.val{H:Hp}{kvs:List (List gU×V)}{xs:List (List gU×Addr×Value)}(r:KT H kvs xs)(k:List gU):ud (ql kvs k) ((atKey xs k).map (·.2)):=by
 induction r with
 | nil=>exact True.intro
 | @cons p q ps qs h t ih =>
  obtain⟨h1,_,h2⟩:=h;by_cases e:p.1=k
  .have e':q.1=k:=h1.symm.trans e;have b:atKey (q::qs) k=some q.2:=by simp[atKey,XT,e']
   rw[vq e,b];exact h2
  .have e':¬ q.1=k:=λz=>e (h1.trans z);have b:atKey (q::qs) k=atKey qs k:=by simp[atKey,XT,e']
   rw[uK e,b];exact ih
section
variable {P:Program}{w:World}{H:Hp}{h:Heap}{a:Addr}
theorem Gk{u:HO}(ok:jY P w H h)(e:Rd H a u):cA P w H h a u:=e.ok ok
theorem CT{kvs:List (gU×V)}(ok:jY P w H h)(e:Rd H a (.dK kvs)):kvs.length<=sizeLine/\(a==sysModules)=false /\ ∃vs,KV kvs vs/\h.DictOf (de P w) a vs :=
 show cA P w H h a (.dK kvs) from Gk ok e
theorem Kb{kvs:List (gU×V)}(ok:jY P w H h)(e:H a=some (.dK kvs)):kvs.length<=sizeLine/\(a==sysModules)=false /\ ∃vs,KV kvs vs/\h.DictOf (de P w) a vs:=CT ok (.inl e)
theorem BH{ks:List gU}(ok:jY P w H h)(e:H a=some (.tup (ks.map kV))):(tupleKind (de P w)).is h ks a:=by
 obtain⟨_,its,r,o,h1,h2,n,h3⟩:=(show cA P w H h a (.tup (ks.map kV)) from ok a _ e)
 exact⟨o,its.toArray,n,h1,h2,h3,by simpa using qO r⟩
theorem Gm{kvs:List (List gU×V)}(ok:jY P w H h)(e:Rd H a (.dT kvs)):kvs.length<=sizeLine/\(a==sysModules)=false /\
  ∃xs,KT H kvs xs/\h.DictOfH (tupleKind (de P w)) a xs:=by
 obtain⟨z,y,xs,r,o,es,ep,h1,h2,h3,h4,h5⟩:=(show cA P w H h a (.dT kvs) from Gk ok e)
 refine⟨z,y,xs,r,o,es,ep,h1,h2,h3,h4,λx hx=>?_,h5⟩;have all:∀{l:List (List gU×V)}{m:List (List gU×Addr×Value)},KT H l m -> ∀x∈m,(tupleKind (de P w)).is h x.1 x.2.1:=by
  intro l m q;induction q with
  | nil=>intro x hx;exact nomatch hx
  | @cons p q ps qs hq t ih =>
   intro x hx;rcases YY.mp hx with e|hx
   .subst e;exact BH ok (by rw[<-hq.1];exact hq.2.1)
   .exact ih x hx
 exact all r x hx
end
def HA(H:Hp)(a:Addr)(y:V)(r:Option V):Prop :=
 (∃kvs k,Rd H a (.dK kvs)/\y=kV k/\r=ql kvs k) \/ ∃kvs k b,Rd H a (.dT kvs)/\y=.ref b/\H b=some (.tup (k.map kV))/\r=ql kvs k
section
variable {X:Cx}{pins:List (Addr×Obj)}{σ:St}{H:Hp}{s:Shared}{a:Addr}{y v:V}{u r:Value}{o:Option V}{A:Around}{E:Value->Shared->Prop}
theorem zK{Q:Value->Shared->Prop}(hu:A.units+1<cLine)(I:aJ X pins σ H s)(g:HA H a y (some v))(ry:bH y u)(h:∀w' s',aJ X pins σ H s'->bH v w'->Q w' s') :
  wpAny (model X.prog X.w) A (getItem (.ref a) u) Q E s:=by
 rcases g with ⟨kvs,k,e,ey,l⟩|⟨kvs,k,b,e,ey,eb,l⟩
 .subst ey;obtain⟨z,hd,vs,rel,dd⟩:=CT I.hok e;obtain⟨w',hw,rw'⟩:=ud.some_of (v:=v) (o:=valueAt vs k) (by rw[l];exact rel.val k)
  exact wpAny_getItem_of (Dt ry) dd.mapOf hw (h w' _ (I.tok _) rw')
 .subst ey;cases (show u=Value.ref b from ry)
  obtain⟨z,hd,xs,rel,dd⟩:=Gm I.hok e;obtain⟨w',hw,rw'⟩:=ud.some_of (v:=v) (o:=(atKey xs k).map (·.2)) (by rw[l];exact rel.val k)
  obtain⟨p,hp,hp2⟩:=Option.map_eq_some_iff.mp hw;refine wpAny_getItem_heap (tupleKind_room_in1 hu) (BH I.hok eb) dd hp ?_;rw[hp2];exact h w' _ (I.tok _) rw'
theorem EM{h':Heap}{t':Nat}{ob:HO}(I:aJ X pins σ H s)(mu:J5 (H a))(hs:Heap.SameBut a s.heap h')(he:∃q,h'.get? a=some q)(new:cA X.prog X.w (upd H a ob) h' a ob) :
  aJ X pins σ (upd H a ob) { s with heap:=h',toks:=t' } :=
 I.write (x:=a) (e:=a) mu (.inl rfl) (λb q hb z=>(hs.2 b hb).trans z) he new
theorem Ix{P:Program}{w:World}{H':Hp}{h':Heap}{kvs:List (gU×V)}{vs:List (gU×Value)}(z:kvs.length<=sizeLine)(hd:(a==sysModules)=false)(rel:KV kvs vs)(dd:h'.DictOf (de P w) a vs) :
  cA P w H' h' a (.dK kvs):=⟨z,hd,vs,rel,dd⟩
end
def KP(i:Expr):Prop:=∀ov iv,subscripted i false ov iv=operate [ov,iv] (getItem ov iv)
theorem Em{prog:Program}{w:World}{A:Around}{E:Value->Shared->Prop}{s:Shared}{env:Env}{value slice:Expr}{pos:Pos}{T id:String}{Q:Value->Shared->Prop}
  (hl:typeLookup (.type T) "__getitem__" = pure (some (.builtin id))) (hs:KP slice)
  (h:wpAny (model prog w) A (eval value env) (λo s₁=>wpAny (model prog w) A (eval slice env) (λi s₂=>s₂.TypeIs o T/\wpAny (model prog w) A (getItem o i) Q E s₂) E s₁) E s) :
  wpAny (model prog w) A (eval (.Subscript value slice pos) env) Q E s:=by
 refine Subscript_ (wpAny_mono h (λo s₁ h₁=>wpAny_mono h₁ (λi s₂ h₂=>?_) λ_ _ x=>x) λ_ _ x=>x);obtain⟨hT,h₂⟩:=h₂;unfold subscriptTail;refine wpAny_bind ?_;rw[getitemInPython_of_ne hT.not_modules];refine wpAny_bind (wpAny_specialOf hT hl ?_);have fin:wpAny (model prog w) A (subscripted slice false o i) (λr s₃=>wpAny (model prog w) A (letTemporaryGo value o r >>= λ_=>pure r) Q E s₃) E s₂:=by
  rw[hs o i];exact wpAny_operating (wpAny_mono h₂ (λr s₃ h₃=>wpAny_bind (wpAny_letTemporaryGo (wpAny_pure h₃))) λ_ _ x=>x)
 first
  | exact wpAny_pure (wpAny_bind fin)
  | exact wpAny_bind (wpAny_pure (wpAny_bind fin))
  | exact wpAny_bind fin
theorem vd{X:Cx}{pins:List (Addr×Obj)}{σ:St}{H:Hp}{s:Shared}{a:Addr}{y:V}{o:Option V}(I:aJ X pins σ H s)(g:HA H a y o):s.TypeIs (.ref a) "dict":=by
 rcases g with ⟨kvs,k,e,_,_⟩|⟨kvs,k,b,e,_,_,_⟩
 .obtain⟨_,_,vs,_,dd⟩:=CT I.hok e;exact dd.typeIs
 .obtain⟨_,_,xs,_,dd⟩:=Gm I.hok e;exact dd.typeIs
def uf:List (TE×TE)->St->Hp->(List (V×V)->Hp->Prop)->Prop
 | [],_,H,Q=>Q [] H
 | (tk,tv)::r,σ,H,Q=>tk σ H λx H1=>tv σ H1 λy H2=>uf r σ H2 λps H3=>Q ((x,y)::ps) H3
abbrev VV:List (V×V)->List (Value×Value)->Prop:=Paired λp q=>bH p.1 q.1/\bH p.2 q.2
def Le(X:Cx)(pos:Pos)(keys:List (Option Expr))(values:List Expr)(mv:List (TE×TE)):Prop :=
 ∀(pins:List (Addr×Obj))(s:Shared)(σ:St)(H:Hp)(Q:List (V×V)->Hp->Prop),aJ X pins σ H s->uf mv σ H Q ->
  wpAny (model X.prog X.w) X.A (evalPairs (pairTrees keys values X.env pos)) (λvs s'=>∃ps H',aJ X pins σ H' s'/\VV ps vs/\Q ps H') X.xe s
theorem F5{X:Cx}{pos:Pos}:Le X pos [] [] []:=λpins s σ H Q I h=>pairTrees_nil_walk ⟨[],H,I,.nil,h⟩
theorem Bu{X:Cx}{pos:Pos}{k v:Expr}{ks:List (Option Expr)}{vs:List Expr}{tk tv:TE}{mv:List (TE×TE)}(hk:PE X k tk)(hv:PE X v tv)(hr:Le X pos ks vs mv) :
  Le X pos (some k::ks) (v::vs) ((tk,tv)::mv):=λpins s σ H Q I h =>
 pairTrees_cons_walk (cD (hk pins s σ H _ I h) λu s1 ⟨x,H1,I1,rx,q1⟩=>cD (hv pins s1 σ H1 _ I1 q1) λw2 s2 ⟨y,H2,I2,ry,q2⟩ =>
  cD (hr pins s2 σ H2 _ I2 q2) λws s3 ⟨ps,H3,I3,rel,q3⟩=>⟨(x,y)::ps,H3,I3,.cons ⟨rx,ry⟩ rel,q3⟩)
def mX(kvs more:List (gU×V)):List (gU×V):=more.foldl (λacc kv=>uX acc kv.1 kv.2) kvs
theorem KV.merge:∀{more:List (gU×V)}{rs:List (gU×Value)}{kvs:List (gU×V)}{vs:List (gU×Value)},KV more rs->KV kvs vs->KV (mX kvs more) (merged vs rs):=by
 intro more rs kvs vs r;unfold KV at r;induction r generalizing kvs vs with
 | nil=>intro q;exact q
 | @cons p q ps qs h t ih =>
  intro r0;have e:KV (uX kvs p.1 p.2) (stored vs q.1 q.2):=by
   have:=r0.put p.1 h.2;rw[<-h.1];exact this
  exact ih e
theorem ke:∀(more kvs:List (gU×V)),(mX kvs more).length<=kvs.length+more.length
 | [],kvs=>by show kvs.length<=kvs.length+0;nofun
 | p::r,kvs=>by
  have h1:=ke r (uX kvs p.1 p.2);have h2:=uI kvs p.1 p.2;show (mX (uX kvs p.1 p.2) r).length<=_;rw[Yv];nofun
theorem pJ{P:Program}{w:World}:∀{kvs:List (gU×V)}{ws:List (Value×Value)},VV (kvs.map λkv=>(kV kv.1,kv.2)) ws -> ∃rs,Carries (de P w) ws rs/\KV kvs rs
 | [],_,r=>by rw[XB] at r;cases r;exact⟨[],True.intro,.nil⟩
 | p::kvs,_,r=>by
  rw[YQ] at r;cases r with
  | @cons a b as bs h t =>
   obtain⟨rs,c,q⟩:=pJ (P:=P) (w:=w) t;obtain⟨b1,b2⟩:=b;exact⟨(p.1,b2)::rs,⟨Dt h.1,rfl,c⟩,.cons ⟨rfl,h.2⟩ q⟩
section
variable {X:Cx}
def DG(K:W.Frag)(mv:List (TE×TE)):TE:=λσ H Q=>∀p H1,vw K H p=none->az (vw K H) (vw K H1)->vw K H1 p=some (.dK [])->uf mv σ H1 λps H2=>vw K H2 p=some (.dK []) /\ ∃kvs:List (gU×V),ps=kvs.map (λkv=>(kV kv.1,kv.2))/\kvs.length<=15 /\
 ∀H3,eN p (vw K H2) (vw K H3)->vw K H3 p=some (.dK (mX [] kvs))->Q (.ref p) H3
structure Ld (X:Cx)(pos:Pos)(keys:List (Option Expr))(values:List Expr)(mv:List (TE×TE)):Prop where
 h:Le X pos keys values mv
theorem FE{pos:Pos}:Ld X pos [] [] []:=⟨F5⟩
theorem pc{pos:Pos}{k v:Expr}{ks:List (Option Expr)}{vs:List Expr}{tk tv:TE}{mv:List (TE×TE)}(hk:QE X k tk)(hv:QE X v tv)(hr:Ld X pos ks vs mv):Ld X pos (some k::ks) (v::vs) ((tk,tv)::mv):=⟨Bu hk.h hv.h hr.h⟩
theorem Fo{pos:Pos}{keys:List (Option Expr)}{values:List Expr}{mv:List (TE×TE)}(h:Ld X pos keys values mv)(hall:keys.all (·.isSome)=true)(hl:keys.length=values.length)(h0:keys≠[])
  (h15:keys.length<=15):QE X (.Dict keys values pos) (DG X.K mv):=⟨by
 intro pins s σ H Q I q;have hn:=I.hok.fresh (Yi s.heap.objs.size);have hk:=I.newK (Yi s.heap.objs.size);have I1:=I.laid (a:=s.heap.objs.size) (o:=.dK []) (h':=s.heap.push { cls:=.type "dict",data:=.dict #[] }) (t':=s.toks) (λ_ _ q=>Heap.get?_push_of_some _ q) (Yi _) (vH s.heap I.big);have q1:=q _ _ (by rw[cX hk];exact hn) (lJ (az.upd (o:=.dK []) hn)) (by rw[cX hk];exact bj)
 refine wpAny_Dict_walk (knd:=de X.prog X.w) hall hl h0 h15 (cD (h.h pins _ σ _ _ I1 q1) λws s2 ⟨ps,H2,I2,rel,e,kvs,ep,lk,q2⟩=>?_);subst ep;have e':H2 s.heap.objs.size=some (.dK []):=(cX hk).symm.trans e;obtain⟨rs,c,rk⟩:=pJ (P:=X.prog) (w:=X.w) rel;obtain⟨z,hd,vs0,r0,dd⟩:=Kb I2.hok e';cases r0;refine⟨rs,c,dd,λh' dd' hs=>⟨.ref s.heap.objs.size,_,?_,rfl,q2 _ (sV eN.upd) (by rw[cX hk];exact bj)⟩⟩
 have hz:(mX [] kvs).length<=sizeLine:=by
  have h1:=ke kvs [];rw[Xx] at h1;rw[sizeLine_eq];nofun
 have he:∃q,h'.get? s.heap.objs.size=some q:=let ⟨q,_,_,hq,_⟩:=dd';⟨q,hq⟩;exact EM I2 (by rw[e'];exact True.intro) hs he (Ix hz hd (rk.merge .nil) dd')⟩
def Cg(K:W.Frag)(td ty:TE):TE:=λσ H Q=>td σ H λx H1=>ty σ H1 λy H2=>∃a,x=.ref a /\ ∃kvs k,vw K H2 a=some (.dK kvs)/\y=kV k /\ ∃v,ql kvs k=some v/\Q v H2
theorem E5{o i:Expr}{pos:Pos}{td ty:TE}(hu:X.A.units+64<cLine)(ho:QE X o td)(hi:QE X i ty)(hs:KP i):QE X (.Subscript o i pos) (Cg X.K td ty):=⟨by
 intro pins s σ H Q I h;refine Em PySem.F.slot_dict_getitem.lookup hs (cD (ho.h pins s σ H _ I h) λu s1 ⟨x,H1,I1,rx,q1⟩=>cD (hi.h pins s1 σ H1 _ I1 q1) λiv s2 ⟨y,H2,I2,ry,a,ex,kvs,k,ha,ey,v,hv,q2⟩=>?_);subst ex;obtain rfl:u=Value.ref a:=rx;have g:HA H2 a y (some v):=.inl ⟨kvs,k,.inl (i5 ha λ_ z=>by cases z),ey,hv.symm⟩
 exact⟨vd I2 g,zK () I2 g ry λw' s3 I3 rw'=>⟨v,H2,I3,rw',q2⟩⟩⟩
end
end L2
namespace L2
open PySem PySem.Spec PyProof.Rows PySem.W PySem.Calls
theorem Ao{X:Cx}(hu:X.A.units+64<cLine):fk X (compareOp .NotIn) (Kp X.K true):=by
 intro pins s σ H x y v u Q I rx ry h;obtain⟨d,ds,h1,h2,c1,c2,q⟩:=h;obtain⟨as,r1⟩:=aD.reads I d x v h1 rx c1.1;obtain⟨bs,r2⟩:=aD.reads I (.lst ds) y u h2 ry c2.1;unfold D.py at r2;have e1:=c2.1;have e2:=c2.2;unfold D.py at e1 e2;refine SeqAt.notIn_list_reads r2 r1 (by unfold PyData.canLay0 at e1;exact e1) c1.1 (by have:=c1.2;nofun) ⟨.bl _,H,I,rfl,?_⟩
 rw[yM];exact q
def Ki(xs:List V)(k:Nat)(y:V):List V:=xs.take k++y::xs.drop k
def Gy(K:W.Frag):V->List V->Hp->VK->Prop:=λx vs H Q=>∃l k y,x=.ref l/\vs=[.int k,y] /\ ∃xs,vw K H l=some (.lst xs)/\xs.length<sizeLine/\0<=k/\k.toNat<=xs.length/\Df K H l (.lst (Ki xs k.toNat y)) (Q .non)
theorem si:∀{ys:List V}{acc:List Value},aY ys acc -> ∀k:Nat,aY (ys.take k) (acc.take k)
 | _,_,.nil,k=>by simp;exact .nil
 | _,_,.cons _ _,0=>.nil
 | _,_,.cons r t,k+1=>.cons r (si t k)
theorem rC:∀{ys:List V}{acc:List Value},aY ys acc -> ∀k:Nat,aY (ys.drop k) (acc.drop k)
 | _,_,.nil,k=>by simp;exact .nil
 | _,_,.cons r t,0=>.cons r t
 | _,_,.cons _ t,k+1=>rC t k
theorem wS{X:Cx}:KR X "list.insert" (Gy X.K):=by
 intro pins s σ H x vs v us Q I rx rv h;obtain⟨l,k,y,rfl,rfl,xs,h1,hz,k0,k1,q⟩:=h;have e':H l=some (.lst xs):=i5 h1 λ_ z=>by cases z
 cases rx;cases rv with
 | cons r rr =>
  cases rr with
  | @cons _ u _ _ ru rr' =>
   cases rr';obtain⟨t,rfl⟩:=r;obtain⟨z,its,n,rr,hl,e⟩:=I.lstM e';have sl:xs.length<2^62:=Ym hz ∅;refine call_meets F.slot_list_insert ⟨_,e,rfl⟩ F.entry_list_insert (F.args_list_insert_3 _ _ _) (PySem.AutoSeq1.list_insert_list_int_val_1 l its.toArray n k t u ?_ (by rw[Yn];nofun)) ⟨e,?_⟩
   .have a1:decide (-(2^63:Int)<=k)=true:=Y1 ();have a2:decide (k<(2^63:Int))=true:=Y1 ();simp[Builtin.List.listFitsIndex];nofun
   .refine⟨.non,_,I.lset (its':=its.take k.toNat++u::its.drop k.toNat) e' e ?_ (aY.append (si rr k.toNat) (.cons ru (rC rr k.toNat))) ?_,rfl,q.ok (I.noK e')⟩
    .show (its.toArray.extract 0 (if k<0 then (k+(its.toArray.size:Int)).toNat else min k.toNat its.toArray.size)).push u++its.toArray.extract (if k<0 then (k+(its.toArray.size:Int)).toNat else min k.toNat its.toArray.size)=_
     rw[Yc (),Nat.min_eq_left (by rw[Yn];nofun)]
     exact kl_ins_eq its k.toNat u
    .rw[Yt,Yv,YC,List.length_drop];nofun
end L2
namespace L2
open PySem PySem.Spec PyProof.Rows
section
variable {X:Cx}
theorem ER:fk X (binaryOp .LShift) (rI (λi j=>0<=j/\(Builtin.Int.intBits i:Int)+j<=2^27) λi j=>.int (i*2^j.toNat)):=JK λ_ _ _ _ _ _ _ hc q=>lshift_int hc.1 hc.2 q
def Kk:V->List V->Hp->VK->Prop:=λx vs H Q=>∃i,x=.int i/\vs=[]/\Q (.int ((Builtin.Int.intBits i:Nat):Int)) H
theorem kq:JY X "int.bit_length" Kk:=by
 intro pins s σ H x vs v us Q I rx rv h;obtain⟨i,rfl,rfl,q⟩:=h;obtain⟨t,rfl⟩:=rx;cases rv;exact call_int_bit_length ⟨.int _,H,I.tok _,⟨_,rfl⟩,q⟩
end
theorem EA(w:Int):w.natAbs<2^Builtin.Int.intBits w:=by
 unfold Builtin.Int.intBits;by_cases z:w=0
 .subst z;decide
 .rw[Yc (by simpa using z)]
  exact Nat.lt_log2_self
theorem oy{w:Int}(z:w≠0):1<=Builtin.Int.intBits w/\2^(Builtin.Int.intBits w-1)<=w.natAbs:=by
 unfold Builtin.Int.intBits;rw[Yc (by simpa using z)]
 exact⟨(),Nat.log2_self_le ()⟩
theorem FQ{w:Int}{n:Nat}(h:Bt n w):Builtin.Int.intBits w<=n:=by
 by_cases z:w=0
 .subst z;exact Y7 _
 .have:=oy z;have h:w.natAbs<2^n:=h;have h3:2^(Builtin.Int.intBits w-1)<2^n:=Nat.lt_of_le_of_lt this.2 h;have:=(Nat.pow_lt_pow_iff_right (by decide:1<2)).mp h3
  nofun
def p2(E:Nat):Rat:=(((2^E:Nat):Int):Rat)
theorem sW(E:Nat):0<p2 E:=Rat.intCast_pos.mpr (by have:=Y4 E;nofun)
theorem sA(a b:Nat):p2 (a+b)=p2 a*p2 b:=by
 unfold p2;rw[<-Ye,<-Int.natCast_mul,Xt]
theorem JZ{a b:Nat}(h:a<=b):p2 a<=p2 b:=Rat.intCast_le_intCast.mpr (Int.ofNat_le.mpr (Y8 ∅ h))
theorem Lk:p2 1=2:=rfl
def LQ(W:List Int)(E:Nat):Prop:=∀k,k<W.length-1->Sm ((((nz W (W.length-1)).natAbs:Int):Rat)*dQ (p2 E/2) (W.length-1-k)) ((nz W k:Int):Rat)
structure ka where
 lo:Int
 hi:Int
 bo:Int
 ls:List Int
 us:List Int
def ka.a(e:ka):Rat:=(e.lo:Rat)/(e.bo:Rat)
def ka.b(e:ka):Rat:=(e.hi:Rat)/(e.bo:Rat)
def qt:List Int->Int
 | []=>0
 | [x]=>x
 | x::y::_=>if x≠0 then x else y
structure Gj (hs:List (List Int))(A:Rat->Nat)(Sg:Int->Rat->Prop)(T B:Nat):Prop where
 far:chg 0 (hs.map (cx (-1)))=chg 0 (hs.map (cx 1))+T
 mid:∀x,chg 0 (hs.map (cx (-1)))=chg 0 (iS x (hs.map aN))+A x
 bd:∀E h0 tl,hs=h0::tl->LQ h0 E->A (p2 E)=T/\A (-(p2 E))=0/\Sg (qt (hs.map (cx (-1)))) (-(p2 E))
 fine:∀M a b,-M<=a->b<=M->a<=b->2*M*(b-a)*p2 (2*B)<=1->A b<=A a+1
 mono:∀a b,a<=b->A a<=A b
 two:T=0\/2<=hs.length
 at_:∀x,Sg (qt (iS x (hs.map aN))) x
structure qz (hs:List (List Int))(A:Rat->Nat)(Sg:Int->Rat->Prop)(C E J:Nat)(e:ka)(lev:Nat):Prop where
 bo:e.bo=((2^lev:Nat):Int)
 wid:e.hi-e.lo=((2^(E+1):Nat):Int)
 lob : -((2^(E+lev):Nat):Int)<=e.lo
 hib:e.hi<=((2^(E+lev):Nat):Int)
 lv:lev<=J
 cl:chg 0 e.ls+A e.a=C
 cu:chg 0 e.us+A e.b=C
 sg:Sg (qt e.ls) e.a
 ll:e.ls.length=hs.length
 lu:e.us.length=hs.length
section
variable {hs:List (List Int)}{A:Rat->Nat}{Sg:Int->Rat->Prop}{T B C E J:Nat}{e:ka}{lev:Nat}
theorem qz.bp(h:qz hs A Sg C E J e lev):(0:Rat)<(e.bo:Rat):=by
 rw[h.bo];exact sW lev
theorem qz.lt(h:qz hs A Sg C E J e lev):e.a<e.b:=by
 have b:=h.bp;have w:=h.wid;have l:(e.lo:Rat)<(e.hi:Rat):=Rat.intCast_lt_intCast.mpr (by have:=Y4 (E+1);nofun)
 unfold ka.a ka.b;have h1:(e.lo:Rat)/(e.bo:Rat)*(e.bo:Rat)=(e.lo:Rat):=YE ⋯;have h2:(e.hi:Rat)/(e.bo:Rat)*(e.bo:Rat)=(e.hi:Rat):=YE ⋯;refine Rat.not_le.mp λz=>?_;have:=Yk (show 0<=(e.lo:Rat)/(e.bo:Rat)-(e.hi:Rat)/(e.bo:Rat) by grind) (Yl b)
 grind
theorem qz.in_(h:qz hs A Sg C E J e lev) : -(p2 E)<=e.a/\e.b<=p2 E:=by
 have b:=h.bp;have h1:e.a*(e.bo:Rat)=(e.lo:Rat):=YE ⋯;have h2:e.b*(e.bo:Rat)=(e.hi:Rat):=YE ⋯;have k1 : -(p2 (E+lev))<=(e.lo:Rat):=by
  unfold p2;rw[<-Xh];exact Rat.intCast_le_intCast.mpr h.lob
 have k2:(e.hi:Rat)<=p2 (E+lev):=Rat.intCast_le_intCast.mpr h.hib;have eb:(e.bo:Rat)=p2 lev:=by rw[h.bo];rfl
 rw[sA,<-eb] at k1 k2;generalize (e.bo:Rat)=d at *
 generalize p2 E=m at *
 generalize e.a=x at *
 generalize e.b=y at *
 constructor
 .refine Rat.not_lt.mp λz=>?_;have:=Yq (show 0 < -m-x by grind) b
  grind
 .refine Rat.not_lt.mp λz=>?_;have:=Yq (show 0<y-m by grind) b
  grind
theorem qz.diff(h:qz hs A Sg C E J e lev):(e.b-e.a)*p2 lev=p2 (E+1):=by
 have b:=h.bp;have h1:e.a*(e.bo:Rat)=(e.lo:Rat):=YE ⋯;have h2:e.b*(e.bo:Rat)=(e.hi:Rat):=YE ⋯;have eb:(e.bo:Rat)=p2 lev:=by rw[h.bo];rfl
 have w:(e.hi:Rat)-(e.lo:Rat)=p2 (E+1):=by
  rw[<-XS,h.wid];rfl
 rw[<-eb];grind
theorem qz.room(H:Gj hs A Sg T B)(hJ:J=2*E+2+2*B)(h:qz hs A Sg C E J e lev)(many:chg 0 e.us+1<chg 0 e.ls):lev+1<=J:=by
 refine Nat.lt_of_not_le λz=>?_;obtain⟨i1,i2⟩:=h.in_;have f:=H.fine (p2 E) e.a e.b i1 i2 (Yl h.lt) ?_
 .have:=h.cl;have:=h.cu;nofun
 .have d:=h.diff;have q:=JZ z;rw[hJ,show 2*E+2+2*B=1+(E+((E+1)+2*B)) by nofun,sA,Lk,sA,sA] at q
  have l0:=sW lev;refine Rat.not_lt.mp λy=>?_;have:=Yq (show 0<2*p2 E*(e.b-e.a)*p2 (2*B)-1 by grind) l0
  have k:2*p2 E*(e.b-e.a)*p2 (2*B)*p2 lev=2*p2 E*p2 (E+1)*p2 (2*B):=by
   rw[<-d];grind
  grind
def ka.low(e:ka)(m:List Int):ka:=⟨2*e.lo,e.lo+e.hi,2*e.bo,e.ls,m⟩
def ka.up(e:ka)(m:List Int):ka:=⟨e.lo+e.hi,2*e.hi,2*e.bo,m,e.us⟩
theorem sB{x y:Int}(h:(y:Rat)≠0):((2*x:Int):Rat)/((2*y:Int):Rat)=(x:Rat)/(y:Rat):=by
 rw[Ye,Ye];have:((2:Int):Rat)=2:=rfl;rw[this];have h1:(x:Rat)/(y:Rat)*(y:Rat)=(x:Rat):=YE h;have h2:2*(x:Rat)/(2*(y:Rat))*(2*(y:Rat))=2*(x:Rat):=YE ⋯;have h3:(2*(x:Rat)/(2*(y:Rat))-(x:Rat)/(y:Rat))*(y:Rat)=0:=⋯;rcases Rat.mul_eq_zero.mp h3 with z|z
 .grind
 .exact absurd z h
def ka.m(e:ka):Rat:=((e.lo+e.hi:Int):Rat)/((2*e.bo:Int):Rat)
theorem qz.halves(H:Gj hs A Sg T B)(hC:C=chg 0 (hs.map (cx (-1))))(h:qz hs A Sg C E J e lev)(r:lev+1<=J) :
  qz hs A Sg C E J (e.low (iS e.m (hs.map aN))) (lev+1)/\qz hs A Sg C E J (e.up (iS e.m (hs.map aN))) (lev+1)/\(e.low (iS e.m (hs.map aN))).a=e.a/\(e.low (iS e.m (hs.map aN))).b=e.m/\(e.up (iS e.m (hs.map aN))).a=e.m/\(e.up (iS e.m (hs.map aN))).b=e.b:=by
 have b0:(e.bo:Rat)≠0:=by have:=h.bp;grind
 have e1:(e.low (iS e.m (hs.map aN))).a=e.a:=sB b0;have e2:(e.up (iS e.m (hs.map aN))).b=e.b:=sB b0;have lm:(iS e.m (hs.map aN)).length=hs.length:=by simp[iS]
 have cm:chg 0 (iS e.m (hs.map aN))+A e.m=C:=by rw[hC,H.mid e.m]
 have w:=h.wid;have l1:=h.lob;have l2:=h.hib;have p1:((2^(lev+1):Nat):Int)=2*((2^lev:Nat):Int):=by rw[Xe];nofun
 have p3:((2^(E+(lev+1)):Nat):Int)=2*((2^(E+lev):Nat):Int):=by rw[<-Nat.add_assoc,Xe];nofun
 have p4:=Y4 (E+1);have bo:=h.bo;refine⟨⟨?_,?_,?_,?_,r,?_,cm,?_,h.ll,lm⟩,⟨?_,?_,?_,?_,r,cm,?_,H.at_ _,lm,h.lu⟩,e1,rfl,rfl,e2⟩
 .show 2*e.bo=_;nofun
 .show e.lo+e.hi-2*e.lo=_;nofun
 .show _<=2*e.lo;nofun
 .show e.lo+e.hi<=_;nofun
 .rw[e1];exact h.cl
 .rw[e1];exact h.sg
 .show 2*e.bo=_;nofun
 .show 2*e.hi-(e.lo+e.hi)=_;nofun
 .show _<=e.lo+e.hi;nofun
 .show 2*e.hi<=_;nofun
 .rw[e2];exact h.cu
theorem qz.first{h0:List Int}{tl:List (List Int)}(H:Gj hs A Sg T B)(hh:hs=h0::tl)(rb:LQ h0 E):qz hs A Sg (chg 0 (hs.map (cx (-1)))) E J ⟨-((2^E:Nat):Int),((2^E:Nat):Int),1,hs.map (cx (-1)),hs.map (cx 1)⟩ 0:=by
 obtain⟨b1,b2,b3⟩:=H.bd E h0 tl hh rb;have one:((1:Int):Rat)=1:=rfl;have ea:ka.a ⟨-((2^E:Nat):Int),((2^E:Nat):Int),1,hs.map (cx (-1)),hs.map (cx 1)⟩ = -(p2 E):=by
  show ((-((2^E:Nat):Int):Int):Rat)/((1:Int):Rat)=_;rw[one,Xh];show -(p2 E)/1=_;grind
 have eb:ka.b ⟨-((2^E:Nat):Int),((2^E:Nat):Int),1,hs.map (cx (-1)),hs.map (cx 1)⟩=p2 E:=by
  show (((2^E:Nat):Int):Rat)/((1:Int):Rat)=_;rw[one];show p2 E/1=_;grind
 refine⟨rfl,?_,Int.le_refl _,Int.le_refl _,Y7 _,?_,?_,?_,by simp,by simp⟩
 .show ((2^E:Nat):Int) - -((2^E:Nat):Int)=_;rw[Xe];nofun
 .rw[ea,b2];rfl
 .rw[eb,b1];exact H.far.symm
 .rw[ea];exact b3
inductive K2 (hs:List (List Int))(A:Rat->Nat)(Sg:Int->Rat->Prop)(C E J:Nat):Rat->List (ka×Nat)->Prop
 | nil:K2 hs A Sg C E J (p2 E) []
 | cons {e:ka}{lev:Nat}{es:List (ka×Nat)}:qz hs A Sg C E J e lev->es.length<=lev->K2 hs A Sg C E J e.b es->K2 hs A Sg C E J e.a ((e,lev)::es)
def AC(J:Nat):List (ka×Nat)->Nat
 | []=>0
 | e::es=>wt J e.2+AC J es
structure j8 where
 lo:Int
 hi:Int
 bo:Int
 sn:Int
def j8.a(p:j8):Rat:=(p.lo:Rat)/(p.bo:Rat)
def j8.b(p:j8):Rat:=(p.hi:Rat)/(p.bo:Rat)
structure JR (A:Rat->Nat)(Sg:Int->Rat->Prop)(N:Nat)(p:j8)(i:Nat):Prop where
 bo:0<p.bo
 bb:Bt N p.bo
 bl:Bt N p.lo
 bh:Bt N p.hi
 lt:p.a<p.b
 al:A p.a=i
 au:A p.b=i+1
 sg:Sg p.sn p.a
def Fx(A:Rat->Nat)(Sg:Int->Rat->Prop)(N:Nat)(ps:List j8)(x:Rat):Prop:=A x=ps.length/\(∀(i:Nat)(p:j8),ps[i]? = some p->JR A Sg N p i/\p.b<=x) /\ ∀(i j:Nat)(p q:j8),ps[i]? = some p->ps[j]? = some q->i<j->p.b<=q.a
theorem Fx.next{N:Nat}{ps:List j8}{x y:Rat}(h:Fx A Sg N ps x)(l:x<=y)(e:A y=A x):Fx A Sg N ps y :=
 ⟨e.trans h.1,λi p k=>⟨(h.2.1 i p k).1,by have:=(h.2.1 i p k).2;grind⟩,h.2.2⟩
theorem Fx.snoc{N:Nat}{ps:List j8}{p:j8}(h:Fx A Sg N ps p.a)(ok:JR A Sg N p ps.length):Fx A Sg N (ps++[p]) p.b:=by
 have split:∀i q,(ps++[p])[i]? = some q->ps[i]? = some q\/(i=ps.length/\q=p):=λi q k=>by
  by_cases z:i<ps.length
  .rw[YA z] at k;exact .inl k
  .have z2:=(List.getElem?_eq_some_iff.mp k).1;have:i=ps.length:=by simp at z2;nofun
   subst this;rw[Yx (Yi _),Xo] at k;cases k;exact .inr ⟨rfl,rfl⟩
 refine⟨by rw[ok.au];simp,λi q k=>?_,λi j q r k1 k2 lt=>?_⟩
 .rcases split i q k with z|⟨rfl,rfl⟩
  .obtain⟨a,b⟩:=h.2.1 i q z;exact⟨a,by have:=ok.lt;grind⟩
  .exact⟨ok,⋯⟩
 .rcases split i q k1 with z|⟨rfl,rfl⟩
  .rcases split j r k2 with y|⟨rfl,rfl⟩
   .exact h.2.2 i j q r z y lt
   .exact (h.2.1 i q z).2
  .have z2:=(List.getElem?_eq_some_iff.mp k2).1;simp at z2;nofun
theorem qz.bits(h:qz hs A Sg C E J e lev):Bt (E+J+1) e.bo/\Bt (E+J+1) e.lo/\Bt (E+J+1) e.hi:=by
 have w:=h.wid;have l1:=h.lob;have l2:=h.hib;have bo:=h.bo;have lv:=h.lv;have p4:=Y4 (E+1);have q1:2^(E+lev)<2^(E+J+1):=Nat.pow_lt_pow_right ∅ ();have q2:2^lev<2^(E+J+1):=Nat.pow_lt_pow_right ∅ ();refine⟨?_,?_,?_⟩
 .show e.bo.natAbs<_;rw[bo];exact q2
 .show e.lo.natAbs<_;nofun
 .show e.hi.natAbs<_;nofun
theorem qz.place(H:Gj hs A Sg T B) {N i:Nat}(h:qz hs A Sg C E J e lev)(many:chg 0 e.ls=chg 0 e.us+1)(hN:E+J+1<=N)(hi:A e.a=i):JR A Sg N ⟨e.lo,e.hi,e.bo,qt e.ls⟩ i:=by
 obtain⟨b1,b2,b3⟩:=h.bits;have cl:=h.cl;have cu:=h.cu;refine⟨?_,b1.mono hN,b2.mono hN,b3.mono hN,h.lt,hi,?_,h.sg⟩
 .show 0<e.bo;rw[h.bo];have:=Y4 lev;nofun
 .show A e.b=i+1;nofun
end
theorem HE{l:List (aU×Nat)}(ok:∀q∈l,q.1.ok/\1<=q.2)(h:cQ l=0):l=[]:=by
 cases l with
 | nil=>rfl
 | cons q l =>
  have h1:cQ (q::l)=q.2*q.1.deg+cQ l:=rfl;have h2:=(ok q Yj).2;have h3:1<=q.1.deg:=by cases q.1<;>simp[aU.deg]
  have:=Y6 h2 h3;nofun
theorem Ax{h:List Int}(h0:h≠[]):∃(F:List Int)(c:Int),h=F++[c]/\c=nz h (h.length-1)/\F.length=h.length-1 /\ ∀k,k<F.length->nz F k=nz h k:=by
 refine⟨h.dropLast,h.getLast h0,(List.dropLast_concat_getLast h0).symm,?_,List.length_dropLast,λk hk=>?_⟩
 .have:=List.length_pos_iff.mpr h0;rw[bA (n:=h.getLast h0)];rw[Ya (),List.getLast_eq_getElem]
 .rw[List.length_dropLast] at hk;have e:h[k]? = some h[k]:=Ya ();rw[bA e];refine bA ?_;rw[List.getElem?_dropLast,Yh (),e]
theorem Je{fs:List (Int×Int)}{hs:List (List Int)}{l:List (aU×Nat)}{c:Rat}{B:Nat}(h:CC fs hs)(all:∀x∈hs,x≠[]/\x.length<=20/\nz x (x.length-1)≠0)(ok:∀q∈l,q.1.ok/\1<=q.2)(un:l.Pairwise λa b=>a.1≠b.1)(dl:cQ l<=17)(d1:fs.length=cQ l+1)(e:∀x,EV (cf fs) x=c*jZ l x)(hm:∀m∈m7 l,∃q:Int×Int,m=wv q/\Fq q/\Bq B q):Gj hs (bQ l) (λ_ _=>True) (jj l) B:=by
 have cnt:=λlo hi lt=>uO h all ok un dl d1 e (lo:=lo) (hi:=hi) lt;have ins:=λ(a b:Rat)(ab:a<=b)=>mD (lo:=some a) (hi:=some b) ok un (mM ok un) (λv=>Xn) (λx y e1 e2=>by cases e1;cases e2;exact ab)
 refine⟨?_,λx=>?_,λE h0 tl hh rb=>?_,λM a b ha hb ab sm=>?_,λa b ab=>?_,?_,λ_=>trivial⟩
 .have:=cnt none none (λ_ _ z=>by cases z)
  exact this
 .have:=cnt none (some x) (λ_ _ z=>by cases z)
  exact this
 .rcases h with ⟨f1,a,a0,he⟩|⟨h0',h1,tl',κ,he,ch,k0,id⟩
  .have l0:=HE ok (show cQ l=0 by nofun)
   subst l0;exact⟨rfl,rfl,trivial⟩
  .rw[he] at hh;cases hh;obtain⟨n0,n20,nz0⟩:=all h0 (by rw[he];simp)
   obtain⟨F,c',eF,ec,lF,nF⟩:=Ax n0;have l1:h1.length<=20:=(all h1 (by rw[he];simp)).2.1
   have c0:c'≠0:=by rw[ec];exact nz0
   have hp:(0:Rat)<p2 E/2:=by have:=sW E;grind
   have ai:=Ii (l:=l) (F:=F) (h1:=h1) (c:=c') (g:=aN h1) (tl:=tl'.map aN) (κ:=κ) (ρ:=p2 E/2) (by rw[<-eF];exact ch) (λR R0=>(cK l1).lip R0) ok un k0 (by rw[<-eF];exact id l c dl e) (by rw[<-eF];exact n20) hp c0 (λk hk=>by
    rw[nF k hk,lF,ec];exact rb k ())
   rw[show 2*(p2 E/2)=p2 E by grind] at ai
   exact⟨ai.1,ai.2,trivial⟩
 .have i:=ins a b ab;have o:=CU (mM ok un) hm ha hb ab sm;have i:_+bQ l a=bQ l b:=i;nofun
 .have i:=ins a b ab;have i:_+bQ l a=bQ l b:=i;nofun
 .rcases h with ⟨f1,a,a0,he⟩|⟨h0',h1,tl',κ,he,ch,k0,id⟩
  .have l0:=HE ok (show cQ l=0 by nofun)
   subst l0;exact .inl rfl
  .rw[he];exact .inr (by simp)
def LH(σ:Rat->Int):aU->Rat->Int
 | .line r,x=>if r<=x then σ (cp r) else 0
 | .root n,x=>KD n (σ (-n)) (σ n) x
 | .none _,_=>0
def Kz(σ:Rat->Int):List (aU×Nat)->Rat->Int
 | [],_=>0
 | q::l,x=>LH σ q.1 x+Kz σ l x
def i9:List Int->Int
 | []=>0
 | x::l=>x+i9 l
theorem pj:∀l l':List Int,i9 (l++l')=i9 l+i9 l'
 | [],l'=>by show i9 l'=0+i9 l';nofun
 | x::l,l'=>by
  show x+i9 (l++l')=x+i9 l+i9 l';rw[pj l l'];nofun
theorem qU{l l':List Int}(h:l.Perm l'):i9 l=i9 l':=by
 induction h with
 | nil=>rfl
 | cons q _ ih=>show q+_=q+_;rw[ih]
 | swap a b l=>show b+(a+i9 l)=a+(b+i9 l);nofun
 | trans _ _ h1 h2=>rw[h1,h2]
theorem Hg{σ:Rat->Int}{q:aU}(h:q.ok)(x:Rat):LH σ q x=i9 (((q.mk).filter λm=>decide (m<=cp x)).map σ):=by
 cases q with
 | none _=>rfl
 | line r =>
  show (if r<=x then σ (cp r) else 0)=i9 (([cp r].filter λm=>decide (m<=cp x)).map σ)
  by_cases z:r<=x
  .rw[Yh z,Ys (by simpa using kB.mpr z)]
   show _=σ (cp r)+0;nofun
  .rw[Yc z,YB (by simpa using λy=>z (kB.mp y))]
   rfl
 | root n =>
  obtain⟨n0,nn⟩:=h;show (if x*x<n then σ (-n) else if x<0 then 0 else σ (-n)+σ n)=i9 (([-n,n].filter λm=>decide (m<=cp x)).map σ)
  have p:=jk x;have ne:=nn x;by_cases a:x*x<n
  .have h1 : -n<=cp x:=by unfold cp;split<;>grind
   have h2:¬ n<=cp x:=by unfold cp;split<;>grind
   rw[Yh a,Ys (by simpa using h1),YB (by simpa using h2)]
   show _=σ (-n)+0;nofun
  .rw[Yc a];by_cases b:x<0
   .have h1:¬ -n<=cp x:=by unfold cp;rw[Yh b];grind
    have h2:¬ n<=cp x:=by unfold cp;rw[Yh b];grind
    rw[Yh b,YB (by simpa using h1),YB (by simpa using h2)]
    rfl
   .have h1 : -n<=cp x:=by unfold cp;rw[Yc b];grind
    have h2:n<=cp x:=by unfold cp;rw[Yc b];grind
    rw[Yc b,Ys (by simpa using h1),Ys (by simpa using h2)]
    show _=σ (-n)+(σ n+0);nofun
theorem xk{σ:Rat->Int}{x:Rat}:∀{l:List (aU×Nat)},(∀q∈l,q.1.ok/\1<=q.2)->Kz σ l x=i9 (((m7 l).filter λm=>decide (m<=cp x)).map σ)
 | [],_=>rfl
 | q::l,h=>by
  show LH σ q.1 x+Kz σ l x=i9 (((q.1.mk++m7 l).filter _).map σ);rw[List.filter_append,Yp,pj,Hg (h q Yj).1,xk λp hp=>h p (Yf _ hp)]
theorem tQ{y:Rat}:∀{ms:List Rat},ms.Pairwise (· < ·)->ms.filter (λm=>decide (m<=y))=ms.take (ms.filter λm=>decide (m<=y)).length
 | [],_=>rfl
 | m::ms,h=>by
  obtain⟨h1,h2⟩:=List.pairwise_cons.mp h;by_cases z:m<=y
  .rw[Ys (by simpa using z),Yv,List.take_succ_cons,<-tQ h2]
  .have:(m::ms).filter (λm=>decide (m<=y))=[]:=by
    refine List.filter_eq_nil_iff.mpr λa ha=>?_;rcases YY.mp ha with rfl|w
    .simpa using z
    .have:=h1 a w;have:¬ a<=y:=⋯;simpa using this
   rw[this];rfl
theorem D6{l:List (aU×Nat)}{ms:List Rat}{σ:Rat->Int}{a b:Rat}{i:Nat}(ok:∀q∈l,q.1.ok/\1<=q.2)(un:l.Pairwise λa b=>a.1≠b.1)(up:ms.Pairwise (· < ·))(hm:∀v,v∈ms↔v∈m7 l)(ha:bQ l a=i)(hb:bQ l b=i+1):∃m,ms[i]? = some m/\cp a<m/\m<=cp b/\Kz σ l b=Kz σ l a+σ m:=by
 have nd:ms.Nodup:=up.imp λ{x y} h e=>by rw[e] at h;exact Rat.lt_irrefl h
 have p:ms.Perm (m7 l):=(List.perm_ext_iff_of_nodup nd (mM ok un)).mpr hm;rw[jL ok,<-((p.filter _).length_eq)] at ha hb;rw[xk ok,xk ok,<-qU ((p.filter _).map σ),<-qU ((p.filter _).map σ)];have e1:=tQ (y:=cp a) up;have e2:=tQ (y:=cp b) up;rw[ha] at e1;rw[hb] at e2;have hl:i<ms.length:=by
  have:=Xb List.length e2;rw[hb,YC] at this;nofun
 have eg:ms[i]? = some ms[i]:=Ya hl;have mt:ms[i]∈ms.take (i+1):=by
  rw[Yw,eg];exact YL _ Yj
 refine⟨ms[i],eg,?_,?_,?_⟩
 .refine Rat.not_le.mp λz=>?_;have:ms[i]∈ms.filter λm=>decide (m<=cp a):=List.mem_filter.mpr ⟨Yo hl,by simpa using z⟩
  rw[e1] at this;obtain⟨j,hj,ej⟩:=List.getElem_of_mem this;rw[YC] at hj;rw[List.getElem_take] at ej;have:=(List.pairwise_iff_getElem.mp up) j i () hl ();rw[ej] at this;exact Rat.lt_irrefl this
 .rw[<-e2] at mt;have:=(List.mem_filter.mp mt).2;simpa using this
 .rw[e1,e2,Yw,eg];show i9 ((ms.take i++[ms[i]]).map σ)=_;rw[Yp,pj];show _+(σ ms[i]+0)=_;nofun
end L2
set_option maxHeartbeats 2000000
namespace L2
open PySem PySem.Spec PyProof.Rows
theorem FZ{m:Nat}(h:1<=m):(0:Rat)<(m:Rat):=by
 have h1:((1:Nat):Rat)<=(m:Rat):=Rat.natCast_le_natCast.mpr h;have h2:((1:Nat):Rat)=1:=rfl;grind
theorem jx{x:Rat}:∀{l:List (aU×Nat)},(∀q∈l,q.1.ok/\1<=q.2)->cq l x=0 -> ∃q∈l,q.1=.line x
 | [],_,h=>absurd h (by show (1:Rat)≠0;decide)
 | q::l,ok,h=>by
  have h:q.1.p x*cq l x=0:=h;rcases Rat.mul_eq_zero.mp h with z|z
  .refine⟨q,Yj,?_⟩;have o:=(ok q Yj).1;cases e:q.1 with
   | line r =>
    rw[e] at z;have z:x-r=0:=z;rw[show r=x by grind]
   | root n =>
    rw[e] at z o;have z:x*x-n=0:=z;exact absurd (show x*x=n by grind) (o.2 x)
   | none n =>
    rw[e] at z o;have z:x*x+n=0:=z;have o:0<n:=o;have:=jk x;grind
  .obtain⟨p,hp,e⟩:=jx (λp hp=>ok p (Yf _ hp)) z;exact⟨p,Yf _ hp,e⟩
theorem KW:∀l:List (aU×Nat),∃R:Rat,0<R /\ ∀R',R<=R' -> ∀q∈l,(∀r,q.1=.line r->Wi R' r) /\ ∀n,q.1=.root n->n+2<=R'
 | []=>⟨1,∅,λ_ _ _ h=>by cases h⟩
 | q::l=>by
  obtain⟨R,R0,h⟩:=KW l;obtain⟨S,S0,hS⟩ : ∃S:Rat,0<S/\(∀r,q.1=.line r->Sm S r) /\ ∀n,q.1=.root n->n+2<=S:=by
   cases e:q.1 with
   | line r =>
    obtain⟨t,t0,ht⟩:=hU.const (R:=0) r;exact⟨t,t0,λr' er=>by cases er;exact ht 0 (by unfold Wi;grind),λn en=>by cases en⟩
   | root n =>
    obtain⟨t,t0,ht⟩:=hU.const (R:=0) n;have ht:=ht 0 (by unfold Wi;grind)
    exact⟨t+2,⋯,λr er=>(by cases er),λn' en=>by cases en;unfold Sm at ht;grind⟩
   | none n=>exact⟨1,∅,λr er=>(by cases er),λn' en=>by cases en⟩
  refine⟨R+S,⋯,λR' hR p hp=>?_⟩;rcases YY.mp hp with rfl|hp
  .refine⟨λr er=>?_,λn en=>?_⟩
   .have:=hS.1 r er;unfold Sm at this;unfold Wi;grind
   .have:=hS.2 n en;grind
  .exact h R' ⋯ p hp
theorem A8{l:List (aU×Nat)}(ok:∀q∈l,q.1.ok/\1<=q.2)(un:l.Pairwise λa b=>a.1≠b.1):∃x,cq l x≠0:=by
 have fin:∃x:Rat,∀q∈l,q.1 ≠ .line x:=by
  obtain⟨R,R0,h⟩:=KW l;refine⟨R+1,λq hq z=>?_⟩;have:=(h R ⋯ q hq).1 _ z;unfold Wi at this;grind
 obtain⟨x,hx⟩:=fin;refine⟨x,λz=>?_⟩;obtain⟨q,hq,e⟩:=jx ok z;exact hx q hq e
def uD(A:Nat)(F:List Int):Prop:=∀y∈F,y.natAbs<=A
def i4:List Int->List Int->List Int
 | [],G=>G
 | F,[]=>F
 | a::F,b::G=>(a+b)::i4 F G
theorem fL{x:Rat}:∀F G:List Int,ig (i4 F G) x=ig F x+ig G x
 | [],G=>by show ig G x=0+ig G x;grind
 | a::F,[]=>by show ig (a::F) x=ig (a::F) x+0;grind
 | a::F,b::G=>by
  show ((a+b:Int):Rat)+x*ig (i4 F G) x=((a:Int):Rat)+x*ig F x+(((b:Int):Rat)+x*ig G x);rw[fL F G,Y9];grind
theorem wf:∀F G:List Int,(i4 F G).length<=max F.length G.length
 | [],G=>by show G.length<=_;nofun
 | a::F,[]=>by show (a::F).length<=_;nofun
 | a::F,b::G=>by
  have:=wf F G;show (i4 F G).length+1<=max (F.length+1) (G.length+1);nofun
theorem oA{A B:Nat}:∀F G:List Int,uD A F->uD B G->uD (A+B) (i4 F G)
 | [],G,_,h=>λy hy=>by have:=h y hy;nofun
 | a::F,[],h,_=>λy hy=>by have:=h y hy;nofun
 | a::F,b::G,h,k=>λy hy=>by
  rcases YY.mp hy with rfl|hy
  .exact Nat.le_trans (Int.natAbs_add_le a b) (Nat.add_le_add (h a Yj) (k b Yj))
  .exact oA F G (λz hz=>h z (Yf _ hz)) (λz hz=>k z (Yf _ hz)) y hy
def fi(c:Int)(F:List Int):List Int:=F.map λy=>c*y
theorem cC{c:Int}{x:Rat}:∀F:List Int,ig (fi c F) x=(c:Rat)*ig F x
 | []=>by show (0:Rat)=(c:Rat)*0;grind
 | a::F=>by
  show ((c*a:Int):Rat)+x*ig (fi c F) x=(c:Rat)*(((a:Int):Rat)+x*ig F x);rw[cC F,Ye];grind
theorem c9{A B:Nat}{c:Int}{F:List Int}(hc:c.natAbs<=B)(h:uD A F):uD (B*A) (fi c F):=λy hy=>by
 obtain⟨z,hz,rfl⟩:=List.mem_map.mp hy;rw[YG];exact Y6 hc (h z hz)
theorem gd{F:List Int}{x:Rat}:ig (0::F) x=x*ig F x:=by
 show ((0:Int):Rat)+x*ig F x=_;rw[show ((0:Int):Rat)=0 from rfl]
 grind
theorem gk{A:Nat}{F:List Int}(h:uD A F):uD A (0::F):=λy hy=>by
 rcases YY.mp hy with rfl|hy
 .exact Y7 _
 .exact h y hy
def aU.num:aU->Rat
 | .line r=>r
 | .root n=>n
 | .none n=>n
inductive LB:List (aU×Nat)->Nat->Prop
 | nil:LB [] 0
 | cons {q:aU}{m:Nat}{l:List (aU×Nat)}{a b:Nat}{ν:Int×Int}:q.num=wv ν->Fq ν->Bq b ν->LB l a->LB ((q,m)::l) (a+(b+2))
theorem LB.perm{l l':List (aU×Nat)}(p:l.Perm l'):∀{a},LB l a->LB l' a:=by
 induction p with
 | nil=>exact λh=>h
 | cons q _ ih =>
  intro a h;cases h with
  | cons e f b t=>exact .cons e f b (ih t)
 | swap q r l =>
  intro a h;cases h with
  | @cons _ m1 _ a1 b1 _ e f b t =>
   cases t with
   | @cons _ m2 _ a2 b2 _ e' f' b' t' =>
    have:=LB.cons (m:=m2) e' f' b' (LB.cons (m:=m1) e f b t');rw[show a2+(b2+2)+(b1+2)=a2+(b1+2)+(b2+2) by nofun]
    exact this
 | trans _ _ h1 h2=>exact λh=>h2 (h1 h)
def nR:List (aU×Nat)->Nat
 | []=>0
 | q::l=>q.1.deg+nR l
theorem Dh(a b:Nat):2^(a+(b+2))=4*(2^b*2^a):=by
 rw[Xt,Xt,XO (2^b) (2^2),Nat.mul_left_comm,XO (2^a)]
theorem E2{ν:Int×Int}(h:Fq ν):((ν.2:Int):Rat)*wv ν=((ν.1:Int):Rat):=by
 have:((ν.2:Int):Rat)≠0:=aG h.ne;unfold wv;grind
theorem LB.lists{l:List (aU×Nat)}{a:Nat}(h:LB l a)(hm:∀q∈l,q.2<=32):∃(D:Int)(Zp Zs:List Int),D≠0/\(∀x,ig Zp x=(D:Rat)*cq l x)/\(∀x,ig Zs x=(D:Rat)*fP l x)/\uD (2^a) Zp/\uD (64*2^a) Zs/\Zp.length<=nR l+1/\Zs.length<=nR l+1:=by
 induction h with
 | nil=>exact⟨1,[1],[],∅,λx=>by show ((1:Int):Rat)+x*0=((1:Int):Rat)*1;grind,λx=>by show (0:Rat)=((1:Int):Rat)*0;grind,λy hy=>(by cases List.mem_singleton.mp hy;decide),λy hy=>(by cases hy),by simp[nR],by simp⟩
 | @cons q m l a b ν e f bq t ih =>
  obtain⟨D,Zp,Zs,D0,e1,e2,n1,n2,l1,l2⟩:=ih λp hp=>hm p (Yf _ hp);have m32:m<=32:=hm (q,m) Yj;obtain⟨u,v⟩:=ν;have wn:=E2 f;have v0:v≠0:=f.ne;have hu:u.natAbs<=2^b:=XF bq.1;have hv:v.natAbs<=2^b:=XF bq.2;have wn:((v:Int):Rat)*q.num=((u:Int):Rat):=by rw[e];exact wn
  have hn:(-u).natAbs<=2^b:=by rw[Int.natAbs_neg];exact hu
  have h2:((2*(m:Int))*v).natAbs<=64*2^b:=by
   rw[YG];exact Y6 () hv
  have h1:((m:Int)*v).natAbs<=64*2^b:=by
   rw[YG];exact Y6 () hv
  have mc:(((m:Int):Int):Rat)=((m:Nat):Rat):=rfl;have c2:((2:Int):Rat)=2:=rfl;have bnd:∀{F G:List Int},uD (2^b*2^a) F->uD (2^b*2^a) G->uD (2^(a+(b+2))) (i4 F G):=λ{F G} hF hG y hy=>by
   have:=oA F G hF hG y hy;rw[Dh];nofun
  have bnd2:∀{E F G:List Int},uD (64*2^b*2^a) E->uD (2^b*(64*2^a)) F->uD (2^b*(64*2^a)) G->uD (64*2^(a+(b+2))) (i4 E (i4 F G)):=λ{E F G} hE hF hG y hy=>by
   have:=oA E _ hE (oA F G hF hG) y hy;rw[Dh];have k1:64*2^b*2^a=64*(2^b*2^a):=Nat.mul_assoc _ _ _;have k2:2^b*(64*2^a)=64*(2^b*2^a):=Nat.mul_left_comm _ _ _;rw[k1,k2] at this;nofun
  have Dv:D*v≠0:=YH D0 v0;have dc:((D*v:Int):Rat)=(D:Rat)*(v:Rat):=Ye ..;have shl:∀(F G:List Int)(n:Nat),F.length<=n->G.length<=n->(i4 F G).length<=n:=λF G n x y=>by
   have:=wf F G;nofun
  have slen:∀(c:Int)(F:List Int),(fi c F).length=F.length:=λc F=>Yb _;have i1:=e1;cases q with
  | line r =>
   have wn:((v:Int):Rat)*r=((u:Int):Rat):=wn;refine⟨D*v,i4 (fi (-u) Zp) (0::fi v Zp),i4 (fi ((m:Int)*v) Zp) (i4 (fi (-u) Zs) (0::fi v Zs)),Dv,λx=>?_,λx=>?_,bnd (c9 hn n1) (gk (c9 hv n1)),bnd2 (c9 h1 n1) (c9 hn n2) (gk (c9 hv n2)),shl _ _ _ ?_ ?_,shl _ _ _ ?_ (shl _ _ _ ?_ ?_)⟩
   .rw[fL,gd,cC,cC,e1,dc,Xh,<-wn];show _=(D:Rat)*(v:Rat)*((x-r)*cq l x);grind
   .rw[fL,fL,gd,cC,cC,cC,e1,e2,dc,Xh,Ye,mc,<-wn];show _=(D:Rat)*(v:Rat)*(((m:Nat):Rat)*1*cq l x+(x-r)*fP l x);grind
   all_goals
    simp only[Yv,slen];show _<=1+nR l+1;nofun
  | root n =>
   have wn:((v:Int):Rat)*n=((u:Int):Rat):=wn;refine⟨D*v,i4 (fi (-u) Zp) (0::0::fi v Zp),i4 (0::fi ((2*(m:Int))*v) Zp) (i4 (fi (-u) Zs) (0::0::fi v Zs)),Dv,λx=>?_,λx=>?_,bnd (c9 hn n1) (gk (gk (c9 hv n1))),bnd2 (gk (c9 h2 n1)) (c9 hn n2) (gk (gk (c9 hv n2))),shl _ _ _ ?_ ?_,shl _ _ _ ?_ (shl _ _ _ ?_ ?_)⟩
   .rw[fL,gd,gd,cC,cC,e1,dc,Xh,<-wn];show _=(D:Rat)*(v:Rat)*((x*x-n)*cq l x);grind
   .rw[fL,fL,gd,gd,gd,cC,cC,cC,e1,e2,dc,Xh,Ye,Ye,mc,c2,<-wn];show _=(D:Rat)*(v:Rat)*(((m:Nat):Rat)*(2*x)*cq l x+(x*x-n)*fP l x);grind
   all_goals
    simp only[Yv,slen];show _<=2+nR l+1;nofun
  | none n =>
   have wn:((v:Int):Rat)*n=((u:Int):Rat):=wn;refine⟨D*v,i4 (fi u Zp) (0::0::fi v Zp),i4 (0::fi ((2*(m:Int))*v) Zp) (i4 (fi u Zs) (0::0::fi v Zs)),Dv,λx=>?_,λx=>?_,bnd (c9 hu n1) (gk (gk (c9 hv n1))),bnd2 (gk (c9 h2 n1)) (c9 hu n2) (gk (gk (c9 hv n2))),shl _ _ _ ?_ ?_,shl _ _ _ ?_ (shl _ _ _ ?_ ?_)⟩
   .rw[fL,gd,gd,cC,cC,e1,dc,<-wn];show _=(D:Rat)*(v:Rat)*((x*x+n)*cq l x);grind
   .rw[fL,fL,gd,gd,gd,cC,cC,cC,e1,e2,dc,Ye,Ye,mc,c2,<-wn];show _=(D:Rat)*(v:Rat)*(((m:Nat):Rat)*(2*x)*cq l x+(x*x+n)*fP l x);grind
   all_goals
    simp only[Yv,slen];show _<=2+nR l+1;nofun
theorem yX{h Z:List Int}{c:Rat}{A:Nat}(hp:jJ (nz h))(lh:h.length<=20)(lZ:Z.length<=20)(c0:c≠0)(e:∀x,ig Z x=c*aN h x)(n:uD A Z):uD A h/\(nz h (h.length-1)≠0->h.length<=Z.length):=by
 have e1:∀k,((nz Z k:Int):Rat)*((c.den:Int):Rat)=((c.num:Int):Rat)*((nz h k:Int):Rat):=by
  have d0:((c.den:Int):Rat)≠0:=aG (by have:=c.den_pos;nofun)
  have ec:((c.num:Int):Rat)=c*((c.den:Int):Rat):=by
   have:=Rat.num_divInt_den c;rw[Rat.divInt_eq_div] at this;have z:(c.num:Rat)/((c.den:Int):Rat)=c:=this;grind
  intro k;have i:=oH (F:=fi (c.den:Int) Z) (G:=fi c.num h) (by unfold fi;rw[Yb];exact lZ) (by unfold fi;rw[Yb];exact lh) (λx=>by
   rw[jw (F:=fi (c.den:Int) Z) (by unfold fi;rw[Yb];exact lZ),cC,e x,jw (F:=fi c.num h) (by unfold fi;rw[Yb];exact lh),cC,<-jw lh,ec]
   grind) k
  unfold fi at i;rw[dH,dH] at i;rw[<-Ye,<-Ye,Y2,i]
 have e2:∀k,nz Z k*(c.den:Int)=c.num*nz h k:=λk=>by
  have:=e1 k;rw[<-Ye,<-Ye] at this;exact Rat.intCast_inj.mp this
 have co:Nat.Coprime c.den c.num.natAbs:=c.reduced.symm;have d1:∀k,(c.den:Int)∣nz h k:=λk=>by
  have:c.den∣c.num.natAbs*(nz h k).natAbs:=by
   rw[<-YG,<-e2 k,YG,XD];exact Nat.dvd_mul_left _ _
  have:=co.dvd_of_dvd_mul_left this;exact Int.ofNat_dvd_left.mpr this
 have one:c.den=1:=by
  have:=hp _ d1
  rwa [XD] at this
 have u0:c.num≠0:=λz=>c0 (Rat.num_eq_zero.mp z);refine⟨λy hy=>?_,λhz=>Nat.le_of_not_lt λlt=>?_⟩
 rotate_left
 .have:=e2 (h.length-1);rw[a7 (ns:=Z) (),Int.zero_mul] at this;exact YH u0 hz this.symm
 obtain⟨k,hk⟩:=Xq hy;have:=e2 k;rw[one,bA hk] at this;have this:nz Z k=c.num*y:=();have zk:(nz Z k).natAbs<=A:=by
  by_cases q:k<Z.length
  .rw[bA (Ya q)];exact n _ (Yo q)
  .rw[a7 ()];exact Y7 _
 rw[this,YG] at zk;have:1*y.natAbs<=c.num.natAbs*y.natAbs:=Xf _ ();nofun
theorem DJ{c p:Nat->Int}{q:Int}(h:∀k,q∣c k)(k:Nat):∀n,q∣pz c p n k
 | 0=>⟨0,by show (0:Int)=q*0;nofun⟩
 | n+1=>by
  show q∣pz c p n k+(if n<=k then c n*p (k-n) else 0)
  refine Int.dvd_add (DJ h k n) ?_;split
  .exact Int.dvd_mul_of_dvd_left (h n)
  .exact⟨0,()⟩
theorem jJ.left{W h P:List Int}(hp:jJ (nz W))(e:∀k,nz W k=pz (nz h) (nz P) h.length k):jJ (nz h):=λq hq=>hp q λk=>by
 rw[e];exact DJ hq k _
theorem se:∀xs:List ((aU×Nat)×Nat),(∀x∈xs,x.1.1.ok/\1<=x.1.2 /\ ∃ν,x.1.1.num=wv ν/\Fq ν/\Bq x.2 ν) -> ∃l:List (aU×Nat),(∀q∈l,q.1.ok/\1<=q.2)/\l.Pairwise (λa b=>a.1≠b.1)/\(∀x,jZ (xs.map (·.1)) x=jZ l x)/\cQ l=cQ (xs.map (·.1))/\(∀f,(∃m,(f,m)∈l) ↔ ∃m,(f,m)∈xs.map (·.1))/\l.length<=xs.length /\ ∃a,LB l a/\a<=(xs.map λx=>x.2+2).sum
 | [],_=>⟨[],by simp,.nil,λ_=>rfl,rfl,λf=>by simp,Yi _,0,.nil,by simp⟩
 | q::es,h=>by
  obtain⟨l,ok,un,e,d,m,ll,a,lb,la⟩:=se es λp hp=>h p (Yf _ hp);obtain⟨⟨q,n0⟩,b⟩:=q;obtain⟨hq1,hq2,ν,hν,fν,bν⟩:=h _ Yj;have sm:((((q,n0),b)::es).map λx:(aU×Nat)×Nat=>x.2+2).sum=(b+2)+(es.map λx=>x.2+2).sum:=by simp
  by_cases ex:∃n,(q,n)∈l
  .obtain⟨n,hn⟩:=ex;obtain⟨l',p⟩ : ∃l',l.Perm ((q,n)::l'):=by
    obtain⟨s,t,rfl⟩:=List.append_of_mem hn;exact⟨s++t,XW⟩
   have un':=(p.pairwise_iff (λh=>XI h)).mp un;obtain⟨u1,u2⟩:=List.pairwise_cons.mp un';have lb':=lb.perm p;refine⟨(q,n0+n)::l',λp' hp=>?_,List.pairwise_cons.mpr ⟨u1,u2⟩,λx=>?_,?_,λf=>?_,?_,a,?_,()⟩
   .rcases YY.mp hp with rfl|z
    .exact⟨hq1,by have hq2:1<=n0:=hq2;show 1<=n0+n;nofun⟩
    .exact ok p' (p.mem_iff.mpr (Yf _ z))
   .show dQ (q.p x) n0*jZ (es.map (·.1)) x=dQ (q.p x) (n0+n)*jZ l' x;rw[e,C1 p,xU];show _*(dQ (q.p x) n*jZ l' x)=_;grind
   .have:=Aw p;have z:cQ l=n*q.deg+cQ l':=this;show (n0+n)*q.deg+cQ l'=n0*q.deg+cQ (es.map (·.1));rw[XM];nofun
   .refine⟨λ⟨k,hk⟩=>?_,λ⟨k,hk⟩=>?_⟩
    .rcases YY.mp hk with z|z
     .cases z;exact⟨n0,Yj⟩
     .obtain⟨k',hk'⟩:=(m f).mp ⟨k,p.mem_iff.mpr (Yf _ z)⟩;exact⟨k',Yf _ hk'⟩
    .have z:f=q \/ ∃k,(f,k)∈l:=by
      rcases YY.mp hk with z|z
      .cases z;exact .inl rfl
      .exact .inr ((m f).mpr ⟨k,z⟩)
     rcases z with rfl|⟨k',hk'⟩
     .exact⟨_,Yj⟩
     .rcases YY.mp (p.mem_iff.mp hk') with y|y
      .cases y;exact⟨_,Yj⟩
      .exact⟨k',Yf _ y⟩
   .have:=p.length_eq;simp at this ⊢;nofun
   .cases lb' with
    | cons e f b t=>exact .cons e f b t
  .refine⟨(q,n0)::l,λp' hp=>?_,List.pairwise_cons.mpr ⟨λp' hp z=>ex ⟨p'.2,by have z:q=p'.1:=z;rw[z];exact hp⟩,un⟩,λx=>?_,?_,λf=>?_,by simp;nofun,a+(b+2),.cons hν fν bν lb,()⟩
   .rcases YY.mp hp with rfl|z
    .exact⟨hq1,hq2⟩
    .exact ok p' z
   .show _*jZ (es.map (·.1)) x=_*jZ l x;rw[e]
   .show _+cQ l=_+cQ (es.map (·.1));rw[d]
   .refine⟨λ⟨k,hk⟩=>?_,λ⟨k,hk⟩=>?_⟩
    .rcases YY.mp hk with z|z
     .exact⟨k,z▸Yj⟩
     .obtain⟨k',hk'⟩:=(m f).mp ⟨k,z⟩;exact⟨k',Yf _ hk'⟩
    .rcases YY.mp hk with z|z
     .exact⟨k,z▸Yj⟩
     .obtain⟨k',hk'⟩:=(m f).mpr ⟨k,z⟩;exact⟨k',Yf _ hk'⟩
theorem zm:∀{l:List (aU×Nat)},(∀q∈l,q.1.ok/\1<=q.2)->nR l<=cQ l /\ ∀q∈l,q.2<=cQ l
 | [],_=>⟨Yi _,λ_ h=>by cases h⟩
 | q::l,h=>by
  obtain⟨i1,i2⟩:=zm λp hp=>h p (Yf _ hp);have h1:=(h q Yj).2;have h3:1<=q.1.deg:=by cases q.1<;>simp[aU.deg]
  have m1:=Xf q.1.deg h1;have m2:=YX q.2 h3;have e:cQ (q::l)=q.2*q.1.deg+cQ l:=rfl;have e2:nR (q::l)=q.1.deg+nR l:=rfl;refine⟨(),λp hp=>?_⟩;rcases YY.mp hp with rfl|hp
  .nofun
  .have:=i2 p hp;nofun
theorem v9:∀l:List (aU×Nat),nR l<=2*l.length
 | []=>Yi _
 | q::l=>by
  have:=v9 l;have h3:q.1.deg<=2:=by cases q.1<;>simp[aU.deg]
  show q.1.deg+nR l<=2*(l.length+1);nofun
end L2
set_option maxHeartbeats 2000000
namespace L2
open PySem PySem.Spec PyProof.Rows
theorem zo{F h P:List Int}(f0:nz F (F.length-1)≠0)(h0:nz h (h.length-1)≠0)(p0:nz P (P.length-1)≠0)(e:∀k,nz F k=pz (nz h) (nz P) h.length k):F.length+1=h.length+P.length:=by
 have np:∀{L:List Int},nz L (L.length-1)≠0->0<L.length:=λ{L} z=>Nat.pos_of_ne_zero λy=>z (a7 ());have lh:=np h0;have lp:=np p0;have lf:=np f0;have er:∀k,((nz F k:Int):Rat)=pr (ff h) (ff P) h.length k:=λk=>by
  rw[e,ix];rfl
 have hi:∀k,h.length+P.length<=k+1->nz F k=0:=λk hk=>by
  have:=er k;rw[gz (n:=P.length) (λi hi=>ck P i hi) _ _ ()] at this;exact Rat.intCast_inj.mp this
 have a:=nD (f:=ff h) (g:=ff P) (d:=P.length-1) (i:=h.length-1) (λj hj=>ck P j ()) (λj hj=>ck h j ()) h.length;rw[Yh (),<-er] at a;have n1:nz F (h.length-1+(P.length-1))≠0:=λz=>by
  rw[z] at a;have z2:ff h (h.length-1)*ff P (P.length-1)=0:=a.symm;rcases Rat.mul_eq_zero.mp z2 with y|y
  .exact aG h0 y
  .exact aG p0 y
 have l1:h.length-1+(P.length-1)<F.length:=Nat.lt_of_not_le λz=>n1 (a7 z);have l2:¬ h.length+P.length<=F.length-1+1:=λz=>f0 (hi _ z);nofun
def LV(fs:List (Int×Int))(hs:List (List Int)):Prop:=CC fs hs/\(∀c:Int,hs=[[c]]->c.natAbs=1) /\ ∀h0 h1 tl,hs=h0::h1::tl->jJ (nz h0)/\jJ (nz h1)/\Bz (aN h0) (aN h1)/\h0.length<=9/\h1.length+1=h0.length
theorem Ex{W O P L:List Int}{rows:List (List Int×List Int×Int×Int)}{hs:List (List Int)}{g:Int}(rq:pQ W O rows)(o0:O≠[])(lW:W.length<=9)(lO:O.length+1=W.length)(wz:nz W (W.length-1)≠0)(oz:nz O (O.length-1)≠0)(pz0:nz P (P.length-1)≠0)(lP:P.length<=9)(hL:(O::qL 1 1 rows).getLast? = some L)(g0:g≠0)(eL:∀k,nz L k=g*nz P k)(pt:xQ P (W::O::qL 1 1 rows) hs)(pW:jJ (nz W))(pO:jJ (nz O)):∀h0 h1 tl,hs=h0::h1::tl->jJ (nz h0)/\jJ (nz h1)/\Bz (aN h0) (aN h1)/\h0.length<=9/\h1.length+1=h0.length:=by
 have hn:∀row∈rows,row.2.2.1≠0/\row.2.2.2≠0:=λrow h=>⟨(rq.ne row h).1,(rq.ne row h).2.1⟩;obtain⟨L',s,e,ps,hs',_⟩:=jO rows 1 1 O O hn (.inl rfl) (.inl rfl) (λk=>by rw[YK]) rfl
 rw[hL] at e;cases e;have s2:s*s=1:=by rcases ps with z|z<;>rw[z]<;>decide
 have el:∀k,nz (fR O rows) k=(s*g)*nz P k:=λk=>by
  have a:=hs' k;rw[eL k] at a;have:s*(g*nz P k)=s*(s*nz (fR O rows) k):=by rw[a]
  rw[<-YM,<-YM,s2,YK] at this;exact this.symm
 have pl:Py (aN P):=cK ();have l0:∃x,aN P x≠0:=Yu λz=>pz0 (by
  have:=oH (F:=P) (G:=[]) () (by simp) (λx=>by
   rw[oi];exact Yu λy=>z ⟨x,y⟩) (P.length-1)
  rw[this,a7 (by simp)])
 intro h0 h1 tl hh;subst hh;cases pt with
 | @cons _ _ _ _ a1 a2 a3 a4 pt =>
 cases pt with
 | @cons _ _ _ _ b1 b2 b3 b4 pt =>
 have e0:∀x,aN W x=aN h0 x*aN P x:=mS () a4;have e1:∀x,aN O x=aN h1 x*aN P x:=mS () b4;obtain⟨u,v,pu,pv,eb⟩:=rq.bez lW () o0;have z:∀x,(u x*aN h0 x+v x*aN h1 x)-((s*g:Int):Rat)=0:=by
  refine Py.zero (f:=λx=>(u x*aN h0 x+v x*aN h1 x)-((s*g:Int):Rat)) (((pu.mul (cK ())).add (pv.mul (cK ()))).sub (.const _)) pl (λx=>?_) l0;have h:=eb x;rw[gf el x,e0 x,e1 x] at h;grind
 have q1:=zo wz a3 pz0 a4;have q2:=zo oz b3 pz0 b4;refine⟨pW.left a4,pO.left b4,Bz.of pu pv (c:=((s*g:Int):Rat)) (aG (YH (by rcases ps with z|z<;>nofun) g0)) λx=>by have:=z x;grind,a1,()⟩
theorem Bb{fs:List (Int×Int)}{h0 h1:List Int}{tl:List (List Int)}{l:List (aU×Nat)}{c:Rat}{a:Nat}(h:LV fs (h0::h1::tl))(nz0:nz h0 (h0.length-1)≠0)(ok:∀q∈l,q.1.ok/\1<=q.2)(un:l.Pairwise λa b=>a.1≠b.1)(dl:cQ l<=8)(ll:l.length<=3)(e:∀x,EV (cf fs) x=c*jZ l x)(lb:LB l a):∃κ c0:Rat,0<κ/\c0≠0/\(∀x,aN h0 x=c0*cq l x)/\(∀x,κ*(aN h1 x*cq l x)=aN h0 x*fP l x)/\h0.length<=7/\h1.length+1=h0.length/\(∀y∈h0,Bt (a+1) y) /\ ∀y∈h1,Bt (a+7) y:=by
 obtain⟨cc,_,more⟩:=h;obtain⟨p0,p1,bz,l9,l10⟩:=more h0 h1 tl rfl;rcases cc with ⟨_,c',_,z⟩|⟨h0',h1',tl',κ,z,ch,k0,id⟩
 .cases z
 cases z;have id:=id l c () e;obtain⟨c0,n0,e0⟩:=DB (cK ()) (cK ()) ok un k0 id bz;obtain⟨i1,i2⟩:=zm ok;have i3:=v9 l;obtain⟨D,Zp,Zs,D0,ep,es,n1,n2,l1,l2⟩:=lb.lists λq hq=>by have:=i2 q hq;nofun
 have D0':=aG D0;obtain⟨b0,len⟩:=yX (Z:=Zp) (c:=(D:Rat)/c0) p0 () () (λz=>by
  have:(D:Rat)=0:=by
   have k:(D:Rat)/c0*c0=(D:Rat):=YE n0;rw[z] at k;grind
  exact D0' this) (λx=>by rw[ep,e0];grind) n1
 have e1:∀x,κ*aN h1 x-c0*fP l x=0:=by
  refine Py.zero (f:=λx=>κ*aN h1 x-c0*fP l x) (((cK ()).sc κ).sub ((kI l).sc c0)) (iY l) (λx=>?_) (A8 ok un);have:=id x;rw[e0 x] at this;grind
 obtain⟨b1,_⟩:=yX (Z:=Zs) (c:=(D:Rat)*κ/c0) p1 () () (λz=>by
  have:(D:Rat)*κ=0:=by
   have k:(D:Rat)*κ/c0*c0=(D:Rat)*κ:=YE n0;rw[z] at k;grind
  rcases Rat.mul_eq_zero.mp this with y|y
  .exact D0' y
  .grind) (λx=>by
  rw[es];have:=e1 x;have h2:κ*aN h1 x=c0*fP l x:=⋯;have h3:(D:Rat)*κ/c0*aN h1 x=(D:Rat)/c0*(κ*aN h1 x):=⋯;rw[h3,h2];grind) n2
 have pw:=Y4 a;refine⟨κ,c0,k0,n0,e0,id,by have:=len nz0;nofun,l10,λy hy=>?_,λy hy=>?_⟩
 .have:=b0 y hy;show y.natAbs<2^(a+1);rw[Xe];nofun
 .have:=b1 y hy;show y.natAbs<2^(a+7);rw[Xt];have:(2:Nat)^7=128:=rfl;nofun
theorem Dx{c:Int}(h:jJ (nz [c])):c.natAbs=1:=h c λk=>by
 cases k with
 | zero=>exact⟨1,by show c=c*1;nofun⟩
 | succ k=>exact⟨0,by rw[a7 (by simp)];nofun⟩
structure Fp (fs:List (Int×Int))(l:List (aU×Nat)):Prop where
 ok:∀q∈l,q.1.ok/\1<=q.2
 un:l.Pairwise λa b=>a.1≠b.1
 dl:cQ l<=8
 ln:fs.length=cQ l+1
 ev:∃c:Rat,∀x,EV (cf fs) x=c*jZ l x
 ll:l.length<=3
 lb:∃a,LB l a/\a<=57
 mks:∀m∈m7 l,∃q:Int×Int,m=wv q/\Fq q/\Bq 300 q
theorem Hj{fs:List (Int×Int)}{hs:List (List Int)}{l:List (aU×Nat)}(h:LV fs hs)(F:Fp fs l)(all:∀x∈hs,x≠[]/\x.length<=20/\nz x (x.length-1)≠0):∃(h0 I:List Int)(tl:List (List Int))(n:Nat)(κ c0:Rat),hs=h0::tl/\(tl=[]/\I=[] \/ ∃tl',tl=I::tl')/\n<=6/\h0.length=n+1/\nz h0 n≠0/\I.length=n/\0<κ/\c0≠0/\(∀x,aN h0 x=c0*cq l x)/\(∀x,κ*(aN I x*cq l x)=aN h0 x*fP l x)/\(∀y∈h0,Bt 60 y) /\ ∀y∈I,Bt 66 y:=by
 obtain⟨c,ev⟩:=F.ev;rcases id h.1 with ⟨f1,c',z,rfl⟩|⟨h0,h1,tl,κ',rfl,_⟩
 .have l0:=HE F.ok (show cQ l=0 by have:=F.ln;nofun)
  subst l0;have one:=h.2.1 c' rfl;refine⟨[c'],[],[],0,1,(c':Rat),rfl,.inl ⟨rfl,rfl⟩,∅,rfl,z,rfl,∅,aG z,λx=>?_,λx=>?_,λy hy=>?_,by simp⟩
  .rw[tf];show (c':Rat)=(c':Rat)*1;grind
  .rw[oi];show (1:Rat)*(0*1)=_*0;grind
  .cases List.mem_singleton.mp hy;show c'.natAbs<2^60;rw[one];decide
 .obtain⟨a,lb,a57⟩:=F.lb;have nz0:=(all h0 (by simp)).2.2
  have n0:=List.length_pos_iff.mpr (all h0 (by simp)).1
  obtain⟨κ,c0,k0,n1,e0,id,l7,l1,b0,b1⟩:=Bb h nz0 F.ok F.un F.dl F.ll ev lb;exact⟨h0,h1,h1::tl,h0.length-1,κ,c0,rfl,.inr ⟨tl,rfl⟩,(),(),nz0,(),k0,n1,e0,id,λy hy=>(b0 y hy).mono (),λy hy=>(b1 y hy).mono ()⟩
theorem qR{l:List (aU×Nat)}{ms:List Rat}(ok:∀q∈l,q.1.ok/\1<=q.2)(un:l.Pairwise λa b=>a.1≠b.1)(up:ms.Pairwise (· < ·))(hm:∀v,v∈ms↔v∈m7 l):ms.length=jj l:=by
 have nd:ms.Nodup:=up.imp λ{x y} h e=>by rw[e] at h;exact Rat.lt_irrefl h
 rw[tP];exact ((List.perm_ext_iff_of_nodup nd (mM ok un)).mpr hm).length_eq
end L2
set_option maxHeartbeats 2000000
namespace L2
open PySem PySem.Spec PyProof.Rows
def par(k:Nat):Int:=if k%2=0 then 1 else -1
theorem zr(a b:Nat):par (a+b)=par a*par b:=by
 unfold par;by_cases x:a%2=0<;>by_cases y:b%2=0
 .rw[Yh x,Yh y,Yh ()];rfl
 .rw[Yh x,Yc y,Yc ()];rfl
 .rw[Yc x,Yh y,Yc ()];rfl
 .rw[Yc x,Yc y,Yh ()];rfl
theorem aU.A_le(q:aU)(x:Rat):q.A x<=q.tot:=by
 cases q with
 | line r=>show (if r<=x then 1 else 0)<=1;split<;>nofun
 | root n=>show (if x*x<n then 1 else if x<0 then 0 else 2)<=2;split;(· nofun);split<;>nofun
 | none n=>exact Yi _
theorem sM(x:Rat):∀l:List (aU×Nat),bQ l x<=jj l
 | []=>Yi _
 | q::l=>by
  have h1:=q.1.A_le x;have h2:=sM x l;show q.1.A x+bQ l x<=q.1.tot+jj l;nofun
theorem aU.sg_par{q:aU}(h:q.ok){x:Rat}(n:q.p x≠0):sg (q.p x)=par (q.tot-q.A x):=by
 cases q with
 | line r =>
  have n:x-r≠0:=n;show sg (x-r)=par (1-if r<=x then 1 else 0)
  by_cases z:r<=x
  .rw[Yh z,cn ⋯];rfl
  .rw[Yc z,dN ⋯];rfl
 | root m =>
  have ne:=h.2 x;show sg (x*x-m)=par (2-if x*x<m then 1 else if x<0 then 0 else 2)
  by_cases z:x*x<m
  .rw[Yh z,dN ⋯];rfl
  .rw[Yc z,cn ⋯];split<;>rfl
 | none m =>
  have h:0<m:=h;have:=jk x;exact cn (show 0<x*x+m by grind)
theorem oN{x:Rat}:∀{l:List (aU×Nat)},(∀q∈l,q.1.ok/\1<=q.2)->cq l x≠0->sg (cq l x)=par (jj l-bQ l x)
 | [],_,_=>cn (by show (0:Rat)<1;decide)
 | q::l,ok,n=>by
  have n:q.1.p x*cq l x≠0:=n;have n1:q.1.p x≠0:=λz=>n (by rw[z];grind)
  have n2:cq l x≠0:=λz=>n (by rw[z];grind)
  have h1:=q.1.A_le x;have h2:=sM x l;show sg (q.1.p x*cq l x)=par (q.1.tot+jj l-(q.1.A x+bQ l x));rw[dP,aU.sg_par (ok q Yj).1 n1,oN (λp hp=>ok p (Yf _ hp)) n2,<-zr];congr 1
  nofun
theorem Hh{x:Rat}{l:List (aU×Nat)}(ok:∀q∈l,q.1.ok/\1<=q.2)(un:l.Pairwise λa b=>a.1≠b.1)(z:cq l x=0):sg (fP l x)=par (jj l-bQ l x):=by
 obtain⟨q,hq,e⟩:=jx ok z;obtain⟨l',pm⟩ : ∃l',l.Perm (q::l'):=by
  obtain⟨s,t,rfl⟩:=List.append_of_mem hq;exact⟨s++t,XW⟩
 have un':=(pm.pairwise_iff (λh=>XI h)).mp un;obtain⟨uq,_⟩:=List.pairwise_cons.mp un';have ok':∀p∈l',p.1.ok/\1<=p.2:=λp hp=>ok p (pm.mem_iff.mpr (Yf _ hp));have n':cq l' x≠0:=λy=>by
  obtain⟨p,hp,e'⟩:=jx ok' y;exact uq p hp (by rw[e,e'])
 have pt:∀{l l':List (aU×Nat)},l.Perm l'->jj l=jj l':=λh=>by
  induction h with
  | nil=>rfl
  | cons q _ ih=>show q.1.tot+_=q.1.tot+_;rw[ih]
  | swap a b l=>show b.1.tot+(a.1.tot+jj l)=a.1.tot+(b.1.tot+jj l);nofun
  | trans _ _ h1 h2=>rw[h1,h2]
 rw[uY pm x,pt pm,jK pm x];show sg (((q.2:Nat):Rat)*q.1.d x*cq l' x+q.1.p x*fP l' x)=par (q.1.tot+jj l'-(q.1.A x+bQ l' x));have m0:=FZ (ok q hq).2;rw[e];show sg (((q.2:Nat):Rat)*1*cq l' x+(x-x)*fP l' x)=par (1+jj l'-((if x<=x then 1 else 0)+bQ l' x))
 rw[Yh Rat.le_refl,show ((q.2:Nat):Rat)*1*cq l' x+(x-x)*fP l' x=((q.2:Nat):Rat)*cq l' x by grind,dP,cn m0,YK,oN ok' n']
 congr 1
 nofun
def wM(c0:Rat)(l:List (aU×Nat))(s:Int)(x:Rat):Prop:=s=sg c0*par (jj l-bQ l x)
theorem HN{h0 I:List Int}{tl:List (List Int)}{l:List (aU×Nat)}{κ c0:Rat}(ok:∀q∈l,q.1.ok/\1<=q.2)(un:l.Pairwise λa b=>a.1≠b.1)(lI:I.length<=20)(tI:tl=[]/\I=[] \/ ∃tl',tl=I::tl')(k0:0<κ)(n0:c0≠0)(e0:∀x,aN h0 x=c0*cq l x)(id:∀x,κ*(aN I x*cq l x)=aN h0 x*fP l x)(x:Rat):wM c0 l (qt (iS x ((h0::tl).map aN))) x:=by
 have e1:∀x,κ*aN I x-c0*fP l x=0:=by
  refine Py.zero (f:=λx=>κ*aN I x-c0*fP l x) (((cK lI).sc κ).sub ((kI l).sc c0)) (iY l) (λx=>?_) (A8 ok un);have:=id x;rw[e0 x] at this;grind
 have first:cq l x≠0->sg (aN h0 x)=sg c0*par (jj l-bQ l x):=λn=>by
  rw[e0,dP,oN ok n]
 have second:cq l x=0->sg (aN I x)=sg c0*par (jj l-bQ l x):=λz=>by
  have h:κ*aN I x=c0*fP l x:=by have:=e1 x;grind
  have h2:=Xb sg h;rw[dP,dP,cn k0,YK,Hh ok un z] at h2;exact h2
 unfold wM;by_cases z:cq l x=0
 .have s0:sg (aN h0 x)=0:=by rw[e0,z];exact fD.mpr ⋯
  rcases tI with ⟨rfl,rfl⟩|⟨tl',rfl⟩
  .have:=second z;rw[oi,tT] at this;show sg (aN h0 x)=_;rw[s0,this]
  .show (if sg (aN h0 x)≠0 then sg (aN h0 x) else sg (aN I x))=_
   rw[Yc (λy=>y s0)];exact second z
 .have s0:sg (aN h0 x)≠0:=λy=>by
   have:=fD.mp y;rw[e0] at this;rcases Rat.mul_eq_zero.mp this with w|w
   .exact n0 w
   .exact z w
  rcases tI with ⟨rfl,rfl⟩|⟨tl',rfl⟩
  .exact first z
  .show (if sg (aN h0 x)≠0 then sg (aN h0 x) else sg (aN I x))=_
   rw[Yh s0];exact first z
theorem GZ{hs:List (List Int)}{l:List (aU×Nat)}{c0:Rat}{B:Nat}(H:Gj hs (bQ l) (λ_ _=>True) (jj l) B)(all:∀x∈hs,x≠[]/\x.length<=20/\nz x (x.length-1)≠0)(ok:∀q∈l,q.1.ok/\1<=q.2)(at_:∀x,wM c0 l (qt (iS x (hs.map aN))) x):Gj hs (bQ l) (wM c0 l) (jj l) B:=by
 refine⟨H.far,H.mid,λE h0 tl hh rb=>?_,H.fine,H.mono,H.two,at_⟩;obtain⟨a,b,_⟩:=H.bd E h0 tl hh rb;refine⟨a,b,?_⟩;obtain⟨R1,p1,f1⟩:=sy hs all;obtain⟨R2,p2',f2⟩:=ot l ok;have g1:=(f1 (R1+R2) ⋯).2;have g2:=(f2 (R1+R2) ⋯).2;have:=at_ (-(R1+R2));unfold wM at this ⊢;rw[g1,this,g2,b]
theorem Fl{l:List (aU×Nat)}{h0:List Int}{c0:Rat}{i:Nat}{a m b:Rat}{s:Int}(ok:∀q∈l,q.1.ok/\1<=q.2)(n0:c0≠0)(e0:∀x,aN h0 x=c0*cq l x)(mono:∀a b,a<=b->bQ l a<=bQ l b)(am:a<m)(mb:m<=b)(ha:bQ l a=i)(hb:bQ l b=i+1)(hs:wM c0 l s a):(sg (aN h0 m)=s->bQ l m=i/\wM c0 l s m)/\(sg (aN h0 m)≠s->bQ l m=i+1):=by
 have t1:=sM b l;have k1:=mono a m (Yl am);have k2:=mono m b mb;unfold wM at hs ⊢;have sp:s≠0:=by
  rw[hs];refine YH (λz=>n0 (fD.mp z)) ?_;unfold par;split<;>decide
 refine⟨λz=>?_,λz=>?_⟩
 .have nz:cq l m≠0:=λy=>by
   rw[e0,y] at z;exact sp (by rw[<-z];exact fD.mpr ⋯)
  have:bQ l m=i:=Yu λw=>by
   have e:bQ l m=i+1:=();have h:=z;rw[e0,dP,oN ok nz,hs,ha,e] at h;have p:par (jj l-i)=par (jj l-(i+1))*par 1:=by
    rw[<-zr];congr 1
    nofun
   rw[p] at h;have q1:par 1 = -1:=rfl;rw[q1] at h;have pp:par (jj l-(i+1))=1\/par (jj l-(i+1)) = -1:=by unfold par;split<;>simp
   have cc:sg c0=1\/sg c0 = -1:=by
    rcases eT c0 with y|y|y
    .exact absurd (fD.mp y) n0
    .exact .inl y
    .exact .inr y
   rcases pp with y|y<;>rcases cc with x|x<;>rw[x,y] at h<;>revert h<;>decide
  exact⟨this,by rw[this,hs,ha]⟩
 .refine Yu λw=>?_;have e:bQ l m=i:=();by_cases y:cq l m=0
  .-- then a root lies at the middle,above the low end
   obtain⟨q,hq,eq⟩:=jx ok y
   .have lt:=am;have:∀l:List (aU×Nat),(∀q∈l,q.1.ok/\1<=q.2)->q∈l->bQ l a<bQ l m:=by
     intro l okl hq;have le:∀(l:List (aU×Nat)),(∀q∈l,q.1.ok/\1<=q.2)->bQ l a<=bQ l m:=λl ok=>by
      rw[jL ok,jL ok];have f:∀ms:List Rat,(ms.filter λx=>decide (x<=cp a)).length<=(ms.filter λx=>decide (x<=cp m)).length:=λms=>by
       induction ms with
       | nil=>exact Yi _
       | cons x ms ih =>
        have sl:=wL lt;by_cases u:x<=cp a
        .rw[Ys (by simpa using u),Ys (by simpa using (show x<=cp m by grind))]
         simp only[Yv];nofun
        .rw[YB (by simpa using u)]
         by_cases v:x<=cp m
         .rw[Ys (by simpa using v)]
          simp only[Yv];nofun
         .rw[YB (by simpa using v)]
          exact ih
      exact f _
     obtain⟨l',pm⟩ : ∃l',l.Perm (q::l'):=by
      obtain⟨s,t,rfl⟩:=List.append_of_mem hq;exact⟨s++t,XW⟩
     rw[jK pm a,jK pm m];have:=le l' λp hp=>okl p (pm.mem_iff.mpr (Yf _ hp));show q.1.A a+bQ l' a<q.1.A m+bQ l' m;rw[eq];show (if m<=a then 1 else 0)+bQ l' a<(if m<=m then 1 else 0)+bQ l' m
     rw[Yc ⋯,Yh Rat.le_refl];nofun
    have:=this l ok hq;nofun
  .exact z (by rw[e0,dP,oN ok y,hs,ha,e])
def TD(K:W.Frag)(σ:St)(H0:Hp)(t:TE)(d:D):Prop:=∀H (Q:VK),az (vw K H0) (vw K H)->(∀v H',az (vw K H) (vw K H')->aD (vw K H') d v->Q v H')->t σ H Q
def KQ(K:W.Frag)(σ:St)(H0:Hp)(t:TA)(ds:List D):Prop:=∀H (Q:List V->Hp->Prop),az (vw K H0) (vw K H)->(∀vs H',az (vw K H) (vw K H')->aH (vw K H') ds vs->Q vs H')->t σ H Q
section
variable {K:W.Frag}{σ:St}{H0:Hp}{t u:TE}{ta:TA}{d:D}{ds es:List D}
theorem fZ{i:Nat}{v:V}(hs:σ[i]? = some (some v))(h:aD (vw K H0) d v):TD K σ H0 (tVar i) d:=λH Q S k=>⟨v,hs,k v H .rfl (aD.same S _ _ h)⟩
theorem IR{x:Str}:TD K σ H0 (tC (.str x)) (.str x):=λH Q S k=>k _ H .rfl (by unfold aD;rfl)
theorem xK:TD K σ H0 (tC .non) .non:=λH Q S k=>k _ H .rfl (by unfold aD;rfl)
theorem Dn{i:Int}:TD K σ H0 (tC (.int i)) (.int i):=λH Q S k=>k _ H .rfl (by unfold aD;rfl)
theorem Fc:TD K σ H0 (zB K) .dict:=λH Q S k=>λp H2 hp S2 h2=>k _ H2 S2 (by unfold aD;exact⟨p,_,rfl,h2⟩)
theorem dz:KQ K σ H0 uL []:=λH Q S k=>k [] H .rfl .mk_nil
theorem aO(h1:TD K σ H0 t d)(h2:KQ K σ H0 ta ds):KQ K σ H0 (jH t ta) (d::ds):=λH Q S k =>
 h1 H _ S λv H1 S1 r1=>h2 H1 _ (S.trans S1) λvs H2 S2 r2=>k (v::vs) H2 (S1.trans S2) (.mk_cons (aD.same S2 _ _ r1) r2)
theorem ur(h:KQ K σ H0 ta ds)(hl:ds.length<=1000):TD K σ H0 (rD K ta) (.tup ds):=λH Q S k =>
 h H _ S λvs H1 S1 r1=>⟨by rw[r1.length];exact Yz hl ∅,λp H2 hp S2 h2=>k _ H2 (S1.trans S2) (.mk_tup h2 (r1.same S2))⟩
theorem iB(h:KQ K σ H0 ta ds)(hl:ds.length<=1000):TD K σ H0 (qj K ta) (.lst ds):=λH Q S k =>
 h H _ S λvs H1 S1 r1=>⟨by rw[r1.length];exact Yz hl ∅,λp H2 hp S2 h2=>k _ H2 (S1.trans S2) (.mk_lst h2 (r1.same S2))⟩
theorem ow(h1:TD K σ H0 t (.lst ds))(h2:TD K σ H0 u (.lst es))(hl:ds.length+es.length<=1000):TD K σ H0 (AD (jr K) t u) (.lst (ds++es)):=λH Q S k =>
 h1 H _ S λv H1 S1 r1=>h2 H1 _ (S.trans S1) λw H2 S2 r2=>by
  obtain⟨a,xs,rfl,ha,ra⟩:=(aD.same S2 _ _ r1).lst_at;obtain⟨b,ys,rfl,hb,rb⟩:=r2.lst_at;rw[j6];refine⟨xs,ha,ys,hb,?_,λp H3 hp S3 h3=>k _ H3 (S1.trans (S2.trans S3)) (.mk_lst h3 ((ra.same S3).app (rb.same S3)))⟩;rw[ra.length,rb.length];exact Yz hl ∅
theorem C5{g:TG}{D:lU}(h1:TD K σ H0 t d)(h:∀v H',az (vw K H0) (vw K H')->aD (vw K H') d v->g v σ H' D.nx):sQ t g D σ H0:=h1 H0 _ .rfl h
end
def pC(ds:List D)(lo hi:Option Int):List D:=(ds.drop (HT.sIx ds.length 0 lo)).take (HT.sIx ds.length ds.length hi-HT.sIx ds.length 0 lo)
theorem kW{ds:List D}{lo hi:Option Int}{d:D}(h:d∈pC ds lo hi):d∈ds:=List.mem_of_mem_drop (List.mem_of_mem_take h)
theorem DM(ds:List D)(lo hi:Option Int):(pC ds lo hi).length<=ds.length:=by
 unfold pC;rw[YC,List.length_drop];nofun
theorem aH.cutE{H:Hp}{ds:List D}{xs:List V}(lo hi:Option Int)(h:aH H ds xs):aH H (pC ds lo hi) (nj xs lo hi):=by
 have:=h.length;unfold pC nj;rw[this];exact (h.drop _).take _
section
variable {K:W.Frag}{σ:St}{H0:Hp}{t u:TE}{ta:TA}{d:D}{ds es:List D}
theorem sY{tl th:TO}{lo hi:Option Int}(h:TD K σ H0 t (.lst ds))(h1:∀H (Q:Option Int->Hp->Prop),Q lo H->tl σ H Q)(h2:∀H (Q:Option Int->Hp->Prop),Q hi H->th σ H Q):TD K σ H0 (Li (Hr K) t tl th) (.lst (pC ds lo hi)):=λH Q S k =>
 h H _ S λv H1 S1 r1=>h1 H1 _ (h2 H1 _ (by
  obtain⟨a,xs,rfl,ha,ra⟩:=r1.lst_at;exact⟨a,rfl,xs,ha,λp H2 hp S2 h2=>k _ H2 (S1.trans S2) (.mk_lst h2 ((ra.same S2).cutE _ _))⟩))
theorem HC(h:TD K σ H0 t (.lst ds)):TD K σ H0 (HK K t (uZ (La (rU λi=>.int (-i)) (tC (.int 1))))) (.lst ds.reverse):=λH Q S k =>
 h H _ S λv H1 S1 r1=>by
  obtain⟨a,xs,rfl,ha,ra⟩:=r1.lst_at;exact⟨1,rfl,-1,rfl,rfl,a,rfl,xs,ha,λp H2 hp S2 h2=>k _ H2 (S1.trans S2) (.mk_lst h2 (ra.same S2).rev)⟩
theorem GN(h:TD K σ H0 t (.lst ds)):TD K σ H0 (DS (λxs H Q=>∃p,xs=[V.ref p] /\ ∃ys,vw K H p=some (HO.lst ys)/\Nw K H (HO.tup ys) Q) (jH t uL)) (.tup ds):=λH Q S k =>
 h H _ S λv H1 S1 r1=>by
  obtain⟨a,xs,rfl,ha,ra⟩:=r1.lst_at;exact⟨a,rfl,xs,ha,λp H2 hp S2 h2=>k _ H2 (S1.trans S2) (.mk_tup h2 (ra.same S2))⟩
theorem pY{g:TG}{E:lU}(h1:TD K σ H0 t (.lst ds))(h2:TD K σ H0 u (.lst es))(hl:ds.length+es.length<=1000)(h:∀p H',az (vw K H0) (vw K H')->vw K H0 p=none->aD (vw K H') (.lst (ds++es)) (.ref p)->g (.ref p) σ H' E.nx):sQ (AD (jr K) t u) g E σ H0 :=
 h1 H0 _ .rfl λv H1 S1 r1=>h2 H1 _ S1 λw H2 S2 r2=>by
  obtain⟨a,xs,rfl,ha,ra⟩:=(aD.same S2 _ _ r1).lst_at;obtain⟨b,ys,rfl,hb,rb⟩:=r2.lst_at;rw[j6];refine⟨xs,ha,ys,hb,?_,λp H3 hp S3 h3=>h p H3 (S1.trans (S2.trans S3)) ((S1.trans S2).none hp) (.mk_lst h3 ((ra.same S3).app (rb.same S3)))⟩;rw[ra.length,rb.length];exact Yz hl ∅
theorem Fu{n:Nat}(h:TD K σ H0 t (.lst [d]))(hn:n<=1000):TD K σ H0 (AD (i8 K) t (tC (.int (n:Int)))) (.lst (List.replicate n d)):=λH Q S k =>
 h H _ S λv H1 S1 r1=>by
  obtain⟨a,xs,rfl,ha,ra⟩:=r1.lst_at;obtain⟨x,xs',rfl,rx,rxs⟩:=ra.cons_at;cases rxs.nil_at;show i8 K (V.ref a) (V.int (n:Int)) H1 _;rw[lT];have sz:1000<=sizeLine:=∅;refine⟨_,ha,(),(),by simp;nofun,λp H2 hp S2 h2=>k _ H2 (S1.trans S2) (.mk_lst h2 ?_)⟩
  rw[Xv,show (List.replicate n [x]).flatten=List.replicate n x by rw[List.flatten_replicate_singleton]]
  exact aH.repl (aD.same S2 _ _ rx) _
end
theorem K3.gen{t:TT}{u v:TS}{D:lU}{σ:St}{H:Hp}(h:∀B:St->Hp->Prop,(∀σ' H',u D σ' H'->B σ' H')->Ck t (λ_ σ' H'=>B σ' H') v D σ H):Ck t u v D σ H:=h (u D) λ_ _ z=>z
def qy(e:D):Prop:=e.noSt=true /\ ∀i,e ≠ .int i
theorem mf:∀{ds:List D},(∀d∈ds,d.noSt=true)->D.noSts ds=true
 | [],_=>rfl
 | d::ds,h=>by
  unfold D.noSts;rw[h d Yj,mf λe he=>h e (Yf _ he)];rfl
theorem qy.tup{ds:List D}(h:∀d∈ds,d.noSt=true):qy (.tup ds):=⟨by unfold D.noSt;exact mf h,λi z=>by cases z⟩
theorem qy.lst{ds:List D}(h:∀d∈ds,qy d):qy (.lst ds):=⟨yn (mf λd hd=>(h d hd).1) λi b z=>(h (.int i) (by rw[z];simp)).2 i rfl,λi z=>by cases z⟩
theorem qy.fr(q:Int×Int):qy (fr q):=⟨eY q,λi z=>by cases z⟩
theorem qy.non:qy .non:=⟨by simp[D.noSt],λi z=>by cases z⟩
end L2
set_option maxHeartbeats 8000000
namespace M
open PySem L2
open PySem.W (nsIn keepIn codeIn fnOf)
def dj(i:Nat):Stmt:=PySem.Challenge.pw_momentwright_k15_stretches_told.main.body.getD i (.Pass ⟨0,0,0,0⟩)
abbrev kN:Stmt:=dj 12
theorem nM:aA ["thing"] ["thing"] (ak kN):=by walk_at"a3"
abbrev eI:Stmt:=dj 13
theorem gu:aA ["one", "other"] ["one", "other"] (ak eI):=by walk_at"a3"
abbrev mZ:Stmt:=dj 14
theorem pP:aA ["whole"] ["whole"] (ak mZ):=by walk_at"a3"
abbrev uy:Stmt:=dj 15
theorem vX:aA ["base", "many", "product", "turn"] ["base", "many"] (ak uy):=by walk_at"a3"
abbrev ny:Stmt:=dj 16
theorem qw:aA ["numbers", "zero", "many"] ["numbers", "zero"] (ak ny):=by walk_at"a3"
abbrev mT:Stmt:=dj 17
theorem qh:aA ["wholes", "divisor", "whole"] ["wholes"] (ak mT):=by walk_at"a3"
abbrev gK:Stmt:=dj 18
theorem jn:aA ["wholes"] ["wholes"] (ak gK):=by walk_at"a3"
abbrev jG:Stmt:=dj 19
theorem kT:aA ["wholes", "top", "bottom", "total", "scale", "whole"] ["wholes", "top", "bottom"] (ak jG):=by walk_at"a3"
abbrev gq:Stmt:=dj 20
theorem iN:aA ["one", "other", "last", "rest", "quotient", "scale", "place", "part", "k"] ["one", "other"] (ak gq):=by walk_at"a3"
abbrev gI:Stmt:=dj 21
theorem ji:aA ["one", "other", "told", "lead", "height", "gap", "bottom", "quotient", "rest", "scale", "top", "lack"] ["one", "other"] (ak gI):=by walk_at"a3"
abbrev iw:Stmt:=dj 23
theorem jA:aA ["thing", "top", "bottom"] ["thing"] (ak iw):=by walk_at"a3"
abbrev tZ:Stmt:=dj 24
theorem u4:aA ["top", "bottom", "divisor"] ["top", "bottom"] (ak tZ):=by walk_at"a3"
abbrev tS:Stmt:=dj 25
theorem u5:aA ["one", "other"] ["one", "other"] (ak tS):=by walk_at"a3"
abbrev nA:Stmt:=dj 26
theorem oR:aA ["one", "other"] ["one", "other"] (ak nA):=by walk_at"a3"
abbrev mB:Stmt:=dj 28
theorem oU:aA ["f", "bottom", "number"] ["f"] (ak mB):=by walk_at"a3"
abbrev dY:Stmt:=dj 30
theorem dL:aA ["f"] ["f"] (ak dY):=by walk_at"a3"
abbrev gH:Stmt:=dj 31
theorem jo:aA ["one", "other", "told", "former", "latter", "rest", "quotient", "top", "bottom"] ["one", "other"] (ak gH):=by walk_at"a3"
abbrev gN:Stmt:=dj 32
theorem jm:aA ["lists", "last"] ["lists"] (ak gN):=by walk_at"a3"
abbrev fJ:Stmt:=dj 33
theorem hZ:aA ["f", "wholes"] ["f"] (ak fJ):=by walk_at"a3"
abbrev kF:Stmt:=dj 34
theorem nN:aA ["lists", "top", "bottom"] ["lists", "top", "bottom"] (ak kF):=by walk_at"a3"
abbrev jt:Stmt:=dj 35
theorem kZ:aA ["lists", "side"] ["lists", "side"] (ak jt):=by walk_at"a3"
abbrev my:Stmt:=dj 36
theorem pU:aA ["signs", "told", "last", "sign"] ["signs"] (ak my):=by walk_at"a3"
abbrev gg:Stmt:=dj 37
theorem iO:aA ["lists", "low", "high", "lows", "highs"] ["lists", "low", "high"] (ak gg):=by walk_at"a3"
abbrev jh:Stmt:=dj 38
theorem km:aA ["wholes", "bits", "exponent", "k", "whole"] ["wholes"] (ak jh):=by walk_at"a3"
abbrev pG:Stmt:=dj 39
theorem sr:aA ["lists", "bound", "told", "waiting", "low", "high", "bottom", "lows", "highs", "many", "middle"] ["lists"] (ak pG):=by walk_at"a3"
abbrev oZ:Stmt:=dj 41
theorem rF:aA ["wholes", "place", "low", "high", "bottom", "sign"] ["wholes", "place"] (ak oZ):=by walk_at"a3"
abbrev kH:Stmt:=dj 42
theorem nG:aA ["wholes", "place", "width", "low", "high", "bottom", "sign"] ["wholes", "place", "width"] (ak kH):=by walk_at"a3"
abbrev gZ:Stmt:=dj 43
theorem gE:aA ["f", "width", "lists"] ["f", "width"] (ak gZ):=by walk_at"a3"
abbrev i0:Stmt:=dj 44
theorem ku:aA ["thing", "width", "low", "high"] ["thing", "width"] (ak i0):=by walk_at"a3"
abbrev dI:Stmt:=dj 45
theorem dy:aA ["f", "width", "thing", "lists", "place", "one"] ["f", "width", "thing"] (ak dI):=by walk_at"a3"
abbrev mK:Stmt:=dj 47
theorem rB:aA ["_law_script", "_law_k"] ["_law_script", "_law_k"] (ak mK):=by walk_at"a3"
abbrev sD:Stmt:=dj 48
theorem zz:aA ["_law_script", "_law_k", "_law_cell"] ["_law_script", "_law_k"] (ak sD):=by walk_at"a3"
abbrev wA:Stmt:=dj 49
theorem Ds:aA ["_law_state_here", "_law_many", "_law_found", "_law_stirred"] ["_law_state_here", "_law_many"] (ak wA):=by walk_at"a3"
abbrev mW:Stmt:=dj 50
theorem rE:aA ["_law_one", "_law_other"] ["_law_one", "_law_other"] (ak mW):=by walk_at"a3"
abbrev CG:Stmt:=dj 51
theorem GC:aA ["_law_top", "_law_bottom", "_law_by"] ["_law_top", "_law_bottom"] (ak CG):=by walk_at"a3"
abbrev sO:Stmt:=dj 52
theorem yW:aA ["_law_state_here"] ["_law_state_here"] (ak sO):=by walk_at"a3"
abbrev tX:Stmt:=dj 53
theorem yI:aA ["_law_state_here"] ["_law_state_here"] (ak tX):=by walk_at"a3"
abbrev m9:Stmt:=dj 54
theorem rp:aA ["_law_state_here", "_law_most", "_law_found", "_law_near", "_law_turn", "_law_number", "_law_kind", "_law_many", "_law_by"] ["_law_state_here", "_law_most"] (ak m9):=by walk_at"a3"
abbrev sH:Stmt:=dj 55
theorem yl:aA ["_law_numbers", "_law_many"] ["_law_numbers"] (ak sH):=by walk_at"a3"
abbrev xL:Stmt:=dj 56
theorem AV:aA ["_law_one", "_law_other"] ["_law_one", "_law_other"] (ak xL):=by walk_at"a3"
abbrev sR:Stmt:=dj 57
theorem zi:aA ["_law_one", "_law_other"] ["_law_one", "_law_other"] (ak sR):=by walk_at"a3"
abbrev je:Stmt:=dj 58
theorem lH:aA ["_law_f", "_law_g", "_law_found", "_law_i", "_law_j"] ["_law_f", "_law_g"] (ak je):=by walk_at"a3"
abbrev i6:Stmt:=dj 59
theorem kX:aA ["_law_factors_here", "_law_found", "_law_kind", "_law_number", "_law_many", "_law_lesser", "_law_one", "_law_turn"] ["_law_factors_here"] (ak i6):=by walk_at"a3"
abbrev qe:Stmt:=dj 60
theorem vV:aA ["_law_x"] ["_law_x"] (ak qe):=by walk_at"a3"
abbrev xc:Stmt:=dj 61
theorem A3:aA ["_law_one", "_law_other"] ["_law_one", "_law_other"] (ak xc):=by walk_at"a3"
abbrev tW:Stmt:=dj 62
theorem yB:aA ["_law_factors_here", "_law_found", "_law_kind", "_law_number", "_law_many", "_law_some", "_law_one"] ["_law_factors_here"] (ak tW):=by walk_at"a3"
abbrev pR:Stmt:=dj 63
theorem vP:aA ["_law_marks_here", "_law_low_here", "_law_high", "_law_found", "_law_one", "_law_is_above"] ["_law_marks_here", "_law_low_here", "_law_high"] (ak pR):=by walk_at"a3"
abbrev ui:Stmt:=dj 64
theorem x6:aA ["_law_one", "_law_other"] ["_law_one", "_law_other"] (ak ui):=by walk_at"a3"
abbrev sL:Stmt:=dj 65
theorem xX:aA ["_law_thing"] ["_law_thing"] (ak sL):=by walk_at"a3"
abbrev ir:Stmt:=dj 66
theorem kn:aA ["_law_thing"] ["_law_thing"] (ak ir):=by walk_at"a3"
abbrev mC:Stmt:=dj 67
theorem qV:aA ["_law_call", "_law_error", "e", "_law_kinds"] ["_law_call"] (ak mC):=by walk_at"a3"
abbrev Di:Stmt:=dj 68
theorem GA:aA ["_law_marks_here", "_law_width", "_law_thing", "_law_at", "_law_one", "_law_wide"] ["_law_marks_here", "_law_width", "_law_thing"] (ak Di):=by walk_at"a3"
abbrev wr:Stmt:=dj 69
theorem CO:aA ["_law_state_here", "_law_told", "_law_width", "_law_some", "_law_at", "_law_low_here", "_law_high", "_law_by", "_law_odd"] ["_law_state_here", "_law_told", "_law_width"] (ak wr):=by walk_at"a3"
abbrev gL:Stmt:=dj 70
theorem Bp:aA ["_law_script", "_law_k", "_law_state_here", "_law_factors_here", "_law_f", "_law_marks_here", "_law_width", "_law_found", "_law_turn", "_law_thing", "_law_told"] ["_law_script"] (ak gL):=by walk_at"a3"
structure fh (K:W.Frag)(mg:Str->Option Value):Prop where
 non:True
 b_isinstance:mg "isinstance" = none
 b_bool:mg "bool" = none
 b_int:mg "int" = none
 b_abs:mg "abs" = none
 b_range:mg "range" = none
 b_len:mg "len" = none
 b_reversed:mg "reversed" = none
 b_max:mg "max" = none
 b_list:mg "list" = none
 b_tuple:mg "tuple" = none
 b_enumerate:mg "enumerate" = none
 b_min:mg "min" = none
 b_ValueError:mg "ValueError" = none
set_option compiler.extract_closed false
local macro_rules | `(tactic| walk_at "m")=>`(tactic| try simp only [L2.start,List.map_cons,List.map_nil,List.cons_append,List.nil_append,List.replicate_succ,List.replicate_zero,List.length_cons,List.length_nil,Nat.reduceSub,Nat.reduceAdd,Nat.zero_add,xB,qY,HD,yz,LG,D5,JC,D3,LM,KY,LC,Gg,GH,HL,HQ,HU,Ht,EH,Ic,Fj,DW,HB,HS,EG,Eh,yE,AS,KB,KZ])
local macro_rules | `(tactic| walk_at "d")=>`(tactic| try dsimp only [aR,pM,CZ,Ck,HW,Kx,Ca,sQ,jy,J0,rQ,Cf,IK,tC,AD,La,CY,DS,Ll,Jl,jH,uL,Hn,LL,IL,K3,rD,uS,IN,xC,id,Li,ug,qj,zB,xB,Kg,bj,Fg,List.getElem?_cons_zero,List.getElem?_cons_succ,List.set_cons_zero,List.set_cons_succ,L2.start,Option.join,Option.bind,List.map_cons,List.map_nil,List.replicate_succ,List.replicate_zero,List.cons_append,List.nil_append,List.length_cons,List.length_nil,Nat.reduceSub,Nat.reduceAdd,Nat.zero_add,KM,ze,Bk,GU,Bo,mI,Lo,mU,EB,EW,Jo,GW,Iw,IB,CQ,K1,DE,Cu,Jp,Ks,DL,BU,Ad,Ac,AT,Lp,LD,Ep,BB,A5,Cj,HG,Hz,cond])
local macro_rules | `(tactic| walk_at "s")=>`(tactic| try simp only [pX,Ea,List.map_cons,List.map_nil,List.cons_append,List.nil_append,List.replicate_succ,List.replicate_zero,Option.join,Option.bind,bj,JX,JU,rI,rU,jI,cW,dJ,mF,oh,tE,Fv,F3,zH,Cv,rQ,Cf,yZ,JP,JH,dF,lT,iL,j6,Go,vT,cZ,eM,J9,EZ,HO.lst.injEq,HO.tup.injEq,Ec,BZ,LP,De,exists_eq_left,exists_eq_left',exists_and_left,exists_and_right,V.int.injEq,V.bl.injEq,V.ref.injEq,V.str.injEq,V.ty.injEq,List.cons.injEq,and_true,true_and,and_self,List.getElem?_cons_zero,List.getElem?_cons_succ,Option.some.injEq,List.set_cons_zero,List.set_cons_succ,reduceCtorEq,or_false,false_or,false_and,and_false,exists_false,exists_eq,exists_eq',and_assoc,List.length_cons,List.length_nil,Nat.reduceSub,Nat.reduceAdd,Nat.zero_add,Bool.not_eq_true',decide_eq_false_iff_not,decide_eq_true_eq,FT,DO,CI,zT,ne_eq,not_true_eq_false,not_false_eq_true,ite_true,ite_false,if_true,if_false,Bool.false_eq_true,Bool.not_true,Bool.not_false,Bool.true_eq_false])
local macro_rules | `(tactic| walk_at "vc")=>`(tactic| (walk_at "d"; walk_at "s"; walk_at "d"; walk_at "s"; walk_at "d"; walk_at "s"))
local macro_rules | `(tactic| walk_at "vc*")=>`(tactic| (walk_at "vc"; (repeat (simp only [*]; walk_at "vc"))))
section
variable {P:Program}{w:World}{K:W.Frag}{mg:Str->Option Value}{base:Heap}{f:Addr}{fd:FuncData}
def aW(K:W.Frag):Sp:=λvs H Q _=>∃a b:Int,vs=[.int a,.int b]/\Q (.int (Int.gcd a b)) H
theorem j9(F:dA K "greatest_divisor" "greatest_divisor" eI f fd) (T:fh K mg):a9 P w K mg base dC 1 f fd ["one", "other"] (aW K):=by
 have scN:=gu.nd;refine F.okQ gu (λvs H Q E h=>?_) (λcdv A outer s H vs Q E hr h=>?_)
 .obtain⟨a,b,rfl,_⟩:=h;rfl
 .obtain⟨a,b,rfl,h⟩:=h;refine⟨_,(ag (sw (i:=0) (j:=1) rfl scN rfl rfl ∅ rfl rfl (aa (aw me (by rfl) T.b_abs uo (aa (qv 0) ae)) (aa (aw me (by rfl) T.b_abs uo (aa (qv 1) ae)) ae)) rfl)
   (ag (fY PassesOwn.never (aF ie (qv 1) af (aK _)) (ah (sw (i:=0) (j:=1) rfl scN rfl rfl ∅ rfl rfl (aa (qv 1) (aa (aq gA (qv 0) (qv 1)) ae)) rfl)))
   (ah (aB (qv 0))))),?_⟩
  walk_at"m";symm
  refine⟨λm σ H'=>H'=H /\ ∃x y:Int,σ=[some (.int x),some (.int y)]/\Int.gcd x y=Int.gcd a b/\0<=x/\0<=y/\m=y.natAbs,⟨_,rfl,_,_,rfl,?_,?_,?_,rfl⟩,?_⟩
  .split<;>split<;>simp
  .split<;>nofun
  .split<;>nofun
  .rintro m σ H' ⟨rfl,x,y,rfl,hg,hx,hy,rfl⟩;symm
   refine be (λhy0=>?_) (λhy0=>?_)
   .refine⟨_,λσ' H' h=>h,?_⟩;symm
    exact⟨hy0,_,yv x hy0,by rw[uV,hg],hy,Xj x (),rfl⟩
   .symm
    have e:((Int.gcd a b:Nat):Int)=x:=by
     rw[<-hg,show y=0 by nofun]
     simp;nofun
    rw[<-e];exact h
def jP(K:W.Frag):Sp:=λvs H Q _=>∃a b:Int,vs=[.int a,.int b]/\b≠0/\Bt 4000000 b /\ ∀v H',az (vw K H) (vw K H')->aD (vw K H') (fr (lo a b)) v->Q v H'
theorem C7(F:dA K "ratio" "ratio" tZ f fd) (T:fh K mg)(N_:pV P base)(C_greatest_divisor:cy P w K mg base "greatest_divisor" ["one", "other"] 1 (aW K)):a9 P w K mg base dC 2 f fd ["top", "bottom"] (jP K):=by
 have scN:=u4.nd;refine F.okQ u4 (λvs H Q E h=>?_) (λcdv A outer s H vs Q E hr h=>?_)
 .obtain⟨a,b,rfl,_⟩:=h;rfl
 .obtain⟨a,b,rfl,hb,hbb,h⟩:=h;refine⟨_,(ag (bC (aF gF (qv 1) af (aK _)) (ah vi) aP)
   (ag (ax (i:=2) scN rfl (·) (ao C_greatest_divisor nofun rfl (aa (qv 0) (aa (qv 1) ae))))
   (ag (bC (aF qP (qv 1) af (aK _)) (ah (ax (i:=2) scN rfl (·) (eJ cT (qv 2)))) aP)
   (ah (aB (aE (aa (aq (gS N_ hr rfl rfl rfl) (qv 0) (qv 2)) (aa (aq (gS N_ hr rfl rfl rfl) (qv 1) (qv 2)) ae)))))))),?_⟩
  walk_at"m";symm
  simp only[aW];refine iZ hb ?_;symm
  have hgn:Int.gcd a b≠0:=λe=>hb (Int.gcd_eq_zero_iff.mp e).2;have e1:lg a b=if b<0 then -(Int.gcd a b:Int) else (Int.gcd a b:Int):=rfl
  have d1:zW a (-(Int.gcd a b:Int)):=by unfold zW;nofun
  have d2:zW a (Int.gcd a b:Int):=by unfold zW;nofun
  refine be (λhn=>?_) (λhn=>?_)
  .rw[Yh hn] at e1;refine⟨d1,d1,∅,λp H2 hp S hp2=>h _ H2 S ?_⟩;rw[<-e1] at hp2;exact bU hp2
  .rw[Yc hn] at e1;refine⟨d2,d2,∅,λp H2 hp S hp2=>h _ H2 S ?_⟩;rw[<-e1] at hp2;exact bU hp2
def kL(K:W.Frag):Sp:=λvs H Q _=>∃(a:Addr)(qs:List (Int×Int))(B:Nat),vs=[.ref a]/\cF (vw K H) a qs/\qs.length<=14/\B<=4000000/\(∀q∈qs,Fq q/\Bq B q) /\
 ∀p b H' (D:Int)(ns:List Int),az (vw K H) (vw K H')->vw K H' p=some (.tup [.ref b,.int D])->vw K H' b=some (.lst (ns.map V.int))->vw K H b=none->0<D->Bt (1+qs.length*B) D->ns.length=qs.length ->
  (∀(i:Nat)(n:Int)(q:Int×Int),ns[i]? = some n->qs[i]? = some q->(n:Rat)=wv q*(D:Rat)/\Bt (1+qs.length*B+B) n)->(∀E:Int,(∀q∈qs,q.2∣E)->D∣E)->Q (.ref p) H'
theorem wP(F:dA K "cleared" "cleared" mB f fd) (T:fh K mg)(N_:pV P base)(C_greatest_divisor:cy P w K mg base "greatest_divisor" ["one", "other"] 1 (aW K)):a9 P w K mg base dC 2 f fd ["f"] (kL K):=by
 have scN:=oU.nd;refine F.okQ oU (λvs H Q E h=>?_) (λcdv A outer s H vs Q E hr h=>?_)
 .obtain⟨a,_,_,rfl,_⟩:=h;rfl
 .obtain⟨a,qs,B,rfl,ha,hql,hB,hq,h⟩:=h;refine⟨_,(ag (ax (i:=1) scN rfl (·) af)
   (ag (cL PassesOwn.never rfl (ci (qv 0)) (av (i:=2) scN rfl (·)) (ah (jE (i:=1) scN rfl (·) (aq (gS N_ hr rfl rfl rfl) (ay a8 (qv 2) af (λ_ _=>rfl)) (ao C_greatest_divisor nofun rfl (aa (qv 1) (aa (ay a8 (qv 2) af (λ_ _=>rfl)) ae)))) oj)))
   (ah (aB (aE (aa (eO (own:=["top", "own"]) (outs:=["bottom"]) (ixs:=[1]) rfl (ci (qv 0)) rfl ⟨rfl,rfl,rfl,⟨rfl,trivial⟩,rfl,⟨⟨rfl,rfl,rfl,_,rfl⟩,trivial⟩⟩ (λ_ _ _ _=>⟨(show QG _ _ (vT K 2 _) from cR (n:=2) rfl (aC (av (i:=0) (show (["top", "own", "bottom"]:List Str).Nodup by decide +kernel) rfl (·)) (aC (av (i:=1) (show (["top", "own", "bottom"]:List Str).Nodup by decide +kernel) rfl (·)) cS))),gh,(aq (show fk _ _ (i8 K) from aS) (qv 0) (aq (uT N_ hr rfl rfl rfl rfl rfl) (qv 2) (qv 1)))⟩)) (aa (qv 1) ae))))))),?_⟩
  walk_at"m";symm
  obtain⟨xs,hxs,rxs⟩:=id ha;have hlx:xs.length=qs.length:=by rw[rxs.length,Yb]
  have hLB:∀i,i<=qs.length->i*B<=56000000:=λi hi=>Yz (Y6 (Yz hi hql) hB) ∅;refine⟨⟨xs,.of (aM hxs)⟩,?_⟩;obtain⟨Pv,hPv⟩ : ∃Pv:Nat->St->Hp->Prop,∀i σ H',Pv i σ H'↔H'=H /\ ∃b y,σ=[some (.ref a),some (.int b),y]/\0<b/\Bt (1+i*B) b/\(∀q∈qs.take i,q.2∣b) /\ ∀E:Int,(∀q∈qs.take i,q.2∣E)->b∣E:=⟨_,λ_ _ _=>Xn⟩;refine aZ (its:=xs) Pv (λi σ H' _ p=>?_) ((hPv _ _ _).mpr ⟨rfl,_,_,rfl,∅,by rw[Nat.zero_mul];decide,(by simp),λE _=>Int.one_dvd E⟩) (λi x σ H1 hi hx pv=>?_) (λσ H1 pv=>?_)
  .obtain⟨rfl,_⟩:=(hPv _ _ _).mp p;exact aX hxs
  .obtain⟨rfl,b,y,rfl,hb,bb,hd,hm⟩:=(hPv _ _ _).mp pv;have hi':i<qs.length:=();obtain⟨d,e,r⟩:=rxs.get hx;rw[Yd,Ya hi'] at e;cases e;obtain⟨p,rfl,hp⟩:=r.fr_at;obtain⟨fq,bq⟩:=hq qs[i] (Yo hi');obtain⟨l1,l2,l3,l4,l5⟩:=uR hb fq.1;symm
   simp only[aW];symm
   refine⟨_,hp,_,eM,_,hp,_,eM,_,rfl,?_⟩;symm
   have hgb:Bt B (Int.gcd b qs[i].2:Int):=bq.2.le () l5;have hcb:Bt B (qs[i].2.fdiv (Int.gcd b qs[i].2:Int)):=bq.2.le () l2;have:=hLB i ();refine⟨l4,bV bb hcb (),(hPv _ _ _).mpr ⟨rfl,_,_,rfl,XV hb l1,(bb.mul hcb).mono (by rw[XM];nofun),λq hq'=>?_,λE hE=>?_⟩⟩
   .rw[Yw,Ya hi'] at hq';rcases List.mem_append.mp hq' with z|z
    .exact Int.dvd_trans (hd q z) (Int.dvd_mul_right _ _)
    .cases List.mem_singleton.mp z;exact l3
   .rw[Yw,Ya hi'] at hE;exact EQ hb fq.1 (hm E λq z=>hE q (List.mem_append.mpr (.inl z))) (hE _ (List.mem_append.mpr (.inr (List.mem_singleton.mpr rfl))))
  .obtain⟨rfl,D,y,rfl,hD,bD,hd,hmin⟩:=(hPv _ _ _).mp pv;rw[hlx] at bD hd hmin;rw[Y0] at hd hmin;have hLBq:=hLB qs.length (Yi _);symm
   refine⟨⟨xs,.of (aM hxs)⟩,λc H2 hc S2 h2=>?_⟩;refine wH (its:=xs) (ps:=qs.map λq=>(V.int q.1,V.int q.2)) (λi ys H'=>az (vw K H1) (vw K H')/\ys=(qs.take i).map λq=>V.int (q.1*D.fdiv q.2)) (by rw[Yb];exact hlx) (λi ys H' _ _ p=>⟨aX (p.1 _ _ hxs),λj u v e=>?_⟩) h2 ⟨S2,rfl⟩ (λi u v ys H' hi huv h' p=>?_) (λys H' h' p=>?_)
   .rw[Yd] at e;cases e2:qs[j]? with
    | none=>rw[e2] at e;cases e
    | some q =>
     rw[e2] at e;cases e;obtain⟨x,e3,r⟩:=rxs.at (i:=j) (d:=fr q) (by rw[Yd,e2];rfl)
     obtain⟨p2,rfl,hp2⟩:=r.fr_at;exact⟨p2,e3,p.1 _ _ hp2⟩
   .obtain⟨S',rfl⟩:=p;rw[Yb] at hi;rw[Yd,Ya hi] at huv;cases huv;obtain⟨fq,bq⟩:=hq qs[i] (Yo hi);obtain⟨c1,c2,c3⟩:=uM fq (hd qs[i] (Yo hi)) hD bD bq.1;symm
    refine⟨(show zW _ _ from λz=>by have:=fq.1;nofun),bV bq.1 c3 (),.mk2 h' ?_ λH5 B5 h5=>⟨λb o e=>B5 _ _ (aj e hc) (S' _ _ e),?_⟩⟩
    .rw[Yb,YC];have:1000<=sizeLine:=∅;nofun
    .rw[Yw,Ya hi,Yp];rfl
   .obtain⟨S',rfl⟩:=p;rw[Yb,Y0] at h';symm
    refine⟨∅,λp5 H5 hp5 S5 h5=>h p5 c H5 D (qs.map λq=>q.1*D.fdiv q.2) (S'.trans S5) h5 (by rw[List.map_map];exact S5 _ _ h') hc hD bD (by rw[Yb]) (λi n q e1 e2=>?_) hmin⟩
    rw[Yd,e2] at e1;cases e1;have hm:=Yr e2;obtain⟨fq,bq⟩:=hq q hm;obtain⟨c1,c2,c3⟩:=uM fq (hd q hm) hD bD bq.1;exact⟨c1,c2⟩
def nE(K:W.Frag):Sp:=λvs H Q _=>∃(a:Addr)(ns:List Int),vs=[.ref a,.int 0]/\vw K H a=some (.lst (ns.map V.int)) /\
 ∀b H' (ms:List Int),az (vw K H) (vw K H')->vw K H' b=some (.lst (ms.map V.int))->vw K H b=none->(∀k,nz ms k=nz ns k)->ms.length<=ns.length->(ms.length≠0->nz ms (ms.length-1)≠0)->Q (.ref b) H'
def kG(K:W.Frag):Sp:=λvs H Q E=>(∃(a z:Addr)(qs:List (Int×Int)),vs=[.ref a,.ref z]/\cF (vw K H) a qs/\vw K H z=some (.tup [.int 0,.int 1])/\(∀q∈qs,Fq q) /\
 ∀b H' (rs:List (Int×Int)),az (vw K H) (vw K H')->cF (vw K H') b rs->vw K H b=none->eP rs->(∀k,cf rs k=cf qs k)->rs.length<=qs.length->(∀q∈rs,q∈qs)->Q (.ref b) H')\/nE K vs H Q E
theorem wV(F:dA K "trimmed" "trimmed" ny f fd) (T:fh K mg):a9 P w K mg base dC 1 f fd ["numbers", "zero"] (kG K):=by
 have scN:=qw.nd;refine F.okQ qw (λvs H Q E h=>?_) (λcdv A outer s H vs Q E hr h=>?_)
 .rcases h with ⟨a,_,_,rfl,_⟩|⟨a,_,rfl,_⟩<;>rfl
 rcases h with ⟨a,z,qs,rfl,ha,hz,hF,h⟩|⟨a,ns,rfl,ha,h⟩
 .skip
  refine⟨_,(ag (ax (i:=2) scN rfl (·) (aw aQ (by rfl) T.b_len bK (aa (qv 0) ae)))
   (ag (fY PassesOwn.never (QW.pt (kJ (aF kr (qv 2) af (aK _)) (iW (aF (xj hr.u64) (ay cO (qv 0) (aq cj (qv 2) af) (λ_ _=>rfl)) (qv 1) (aK _))))) (ah (jE (i:=2) scN rfl (·) af xE)))
   (ah (aB (gT gO (qv 0) jf (ii (qv 2))))))),?_⟩
  walk_at"m";symm
  refine⟨_,ha.len,λm σ H'=>H'=H/\m<=qs.length/\(∀q∈qs.drop m,q.1=0)/\σ=[some (.ref a),some (.ref z),some (.int m)],⟨_,rfl,Yi _,by simp,rfl⟩,?_⟩
  rintro k σ H' ⟨rfl,hk,hdr,rfl⟩;obtain⟨xs,hax,rx⟩:=ha;have hlx:xs.length=qs.length:=by rw[rx.length,Yb]
  have fin:(∀q,(qs.take k).getLast? = some q->q.1≠0)->Nw K H' (HO.lst (nj xs none (some (k:Int)))) Q:=λhq p H2 hp S2 h2=>by
   rw[xq ()] at h2;refine h p H2 (qs.take k) S2 ⟨_,h2,?_⟩ hp ⟨λq hq'=>hF q (List.mem_of_mem_take hq'),hq⟩ (y9 hF hdr) (by rw[YC];nofun) λq hq'=>List.mem_of_mem_take hq'
   rw[List.map_take];exact (rx.take k).same S2
  symm
  refine be (λh0=>?_) (λh0=>?_)
  .have hk1:k-1<qs.length:=();obtain⟨x,hx,r⟩:=rx.at (i:=k-1) (d:=fr qs[k-1]) (by rw[Yd,Ya hk1];rfl)
   have e1:((k:Int)-1)=((k-1:Nat):Int):=();have fq:=hF qs[k-1] (Yo hk1);refine⟨_,hax,_,by rw[e1];exact bB hx,_,r,fr (0,1),bU hz,xw _,xw _,?_⟩
   rw[ww];refine be (λhq=>?_) (λhq=>?_)
   .have hq0:qs[k-1].1=0:=(yG fq).mp (Xm hq);refine⟨_,λσ' H'' z=>z,?_⟩;refine⟨_,_,rfl,rfl,k-1,(),rfl,(),λq' hq'=>?_,by rw[<-e1]⟩
    rw[Xl hk1,show k-1+1=k by nofun] at hq'
    rcases YY.mp hq' with z|z
    .rw[z];exact hq0
    .exact hdr q' z
   .refine⟨_,hax,fin λq hq2=>?_⟩;have:(qs.take k).getLast? = some qs[k-1]:=by
     rw[Yy,YC,Xg];rw[Yh (),show min k qs.length-1=k-1 by nofun,Ya hk1]
    rw[this] at hq2;cases hq2;exact λe=>hq (Y1 ((yG fq).mpr e))
  .refine⟨_,hax,fin λq hq=>?_⟩;rw[show k=0 by nofun] at hq
   cases hq
 .refine⟨_,(ag (ax (i:=2) scN rfl (·) (aw aQ (by rfl) T.b_len bK (aa (qv 0) ae)))
   (ag (fY PassesOwn.never (QW.pt (kJ (aF kr (qv 2) af (aK _)) (iW (aF (xj hr.u64) (ay cO (qv 0) (aq cj (qv 2) af) (λ_ _=>rfl)) (qv 1) (aK _))))) (ah (jE (i:=2) scN rfl (·) af xE)))
   (ah (aB (gT gO (qv 0) jf (ii (qv 2))))))),?_⟩
  walk_at"m";symm
  have hln:fA (vw K H) a=some ns.length:=by simp only[fA,ha,Yb]
  refine⟨_,hln,λm σ H'=>H'=H/\m<=ns.length/\(∀q∈ns.drop m,q=0)/\σ=[some (.ref a),some (.int 0),some (.int m)],⟨_,rfl,Yi _,by simp,rfl⟩,?_⟩
  rintro k σ H' ⟨rfl,hk,hdr,rfl⟩;have fin:(k≠0->nz ns (k-1)≠0)->Nw K H' (HO.lst (nj (ns.map V.int) none (some (k:Int)))) Q:=λhz p H2 hp S2 h2=>by
   rw[xq (by simpa using hk),<-List.map_take] at h2
   exact h p H2 (ns.take k) S2 h2 hp (ym hdr) (by rw[YC];nofun) (by rw[YC,Nat.min_eq_left hk,ym hdr];exact hz)
  symm
  refine be (λh0=>?_) (λh0=>?_)
  .have hk1:k-1<ns.length:=();have e1:((k:Int)-1)=((k-1:Nat):Int):=();have hx:(ns.map V.int)[k-1]? = some (V.int ns[k-1]):=by rw[Yd,Ya hk1];rfl
   refine⟨_,ha,_,by rw[e1];exact bB hx,_,.mk_int _,.int 0,.mk_int _,xZ _,xZ _,?_⟩
   rw[FC];refine be (λhq=>?_) (λhq=>?_)
   .have hq0:ns[k-1]=0:=Xm hq;refine⟨_,λσ' H'' z=>z,?_⟩;refine⟨_,_,rfl,rfl,k-1,(),rfl,(),λq' hq'=>?_,by rw[<-e1]⟩
    rw[Xl hk1,show k-1+1=k by nofun] at hq'
    rcases YY.mp hq' with z|z
    .rw[z];exact hq0
    .exact hdr q' z
   .exact⟨_,ha,fin λ_=>by rw[bA (Ya hk1)];exact λe=>hq (Y1 e)⟩
  .exact⟨_,ha,fin λz=>by nofun⟩
def cV(K:W.Frag):Sp:=λvs H Q _=>∃(a b:Addr)(ms ns:List Int)(m c:Nat),vs=[.ref a,.ref b]/\vw K H a=some (.lst (ms.map V.int))/\vw K H b=some (.lst (ns.map V.int))/\0<ns.length/\nz ns (ns.length-1)≠0/\ms.length<=19/\ns.length<=9/\m<=40000000/\c<=20000/\(c+1)*ms.length<=290000/\(∀x∈ms,Bt m x)/\(∀x∈ns,Bt c x) /\
 ∀(p qa ra:Addr)(S:Int)(qs rs:List Int)(H':Hp),az (vw K H) (vw K H')->vw K H' p=some (.tup [.ref qa,.ref ra,.int S])->vw K H' qa=some (.lst (qs.map V.int))->vw K H' ra=some (.lst (rs.map V.int))->vw K H ra=none->qs.length=ms.length+1-ns.length->rs.length<ns.length->(∃e,e<=ms.length+1-ns.length/\S=nz ns (ns.length-1)^e)->(Fw ms ns->S=1)->Bt 300000 S->(∀x∈qs,Bt (m+400000) x)->(∀x∈rs,Bt (m+400000) x)->(rs.length≠0->nz rs (rs.length-1)≠0)->(∀k,S*nz ms k=pz (nz qs) (nz ns) qs.length k+nz rs k)->(∀x∈rs,Bt (m+(c+1)*(ms.length+1-ns.length)) x)->Q (.ref p) H'
theorem mR(F:dA K "wholes_parted" "wholes_parted" gq f fd) (T:fh K mg)(N_:pV P base)(C_trimmed:cy P w K mg base "trimmed" ["numbers", "zero"] 1 (kG K)):a9 P w K mg base dC 2 f fd ["one", "other"] (cV K):=by
 have scN:=iN.nd;refine F.okQ iN (λvs H Q E h=>?_) (λcdv A outer s H vs Q E hr h=>?_)
 .obtain⟨a,_,_,_,_,_,rfl,_⟩:=h;rfl
 .obtain⟨a,b,ms,ns,m,c,rfl,ha,hb,ln0,hL,lm,ln,hm,hc,hcm,bm,bn,h⟩:=h;refine⟨_,(ag (ax (i:=2) scN rfl (·) (ay cO (qv 1) (eJ cT af) (λ_ _=>rfl)))
   (ag (ax (i:=3) scN rfl (·) (jS kQ (by rfl) T.b_list md (aa (qv 0) ae)))
   (ag (ax (i:=4) scN rfl (·) (aq aS (aL (aa af ae)) (aw (mO rfl) (by rfl) T.b_max xf (aa af (aa (aq aV (aq cj (aw aQ (by rfl) T.b_len bK (aa (qv 0) ae)) (aw aQ (by rfl) T.b_len bK (aa (qv 1) ae))) af) ae)))))
   (ag (ax (i:=5) scN rfl (·) af)
   (ag (cL PassesOwn.never rfl (As rfl T.b_range (aa (aq cj (aw aQ (by rfl) T.b_len bK (aa (qv 0) ae)) (aw aQ (by rfl) T.b_len bK (aa (qv 1) ae))) (aa (eJ cT af) (aa (eJ cT af) ae)))) (av (i:=6) scN rfl (·)) (ag (ax (i:=7) scN rfl (·) (t8 YJ PySem.F.slot_list_pop PySem.F.type_list_pop yx (qv 3)))
   (ag (bC (aF gF (aq gA (qv 7) (qv 2)) af (aK _)) (ah (jE (i:=7) scN rfl (·) (qv 2) (AI N_ hr rfl rfl rfl))) (ag (jE (i:=5) scN rfl (·) (qv 2) oj)
   (ag (ut (i:=4) (own:=["whole"]) (outs:=["last"]) (ixs:=[2]) scN rfl (·) rfl (ci (qv 4)) rfl ⟨rfl,rfl,rfl,⟨rfl,trivial⟩,rfl,⟨⟨rfl,rfl,rfl,_,rfl⟩,trivial⟩⟩ (λ_ _ _ _=>⟨(av (i:=0) (show (["whole", "last"]:List Str).Nodup by decide +kernel) rfl (·)),gh,(aq (show fk _ _ (i8 K) from aS) (qv 1) (qv 0))⟩))
   (ah (ut (i:=3) (own:=["whole"]) (outs:=["last"]) (ixs:=[2]) scN rfl (·) rfl (ci (qv 3)) rfl ⟨rfl,rfl,rfl,⟨rfl,trivial⟩,rfl,⟨⟨rfl,rfl,rfl,_,rfl⟩,trivial⟩⟩ (λ_ _ _ _=>⟨(av (i:=0) (show (["whole", "last"]:List Str).Nodup by decide +kernel) rfl (·)),gh,(aq (show fk _ _ (i8 K) from aS) (qv 1) (qv 0))⟩))))))
   (ag (eD (qv 7) (t5 (qv 4) (qv 6) iM))
   (ah (cL PassesOwn.never rfl (dq rfl T.b_range (aa (aq cj (aw aQ (by rfl) T.b_len bK (aa (qv 1) ae)) af) ae)) (av (i:=8) scN rfl (·)) (ah (Ed (qv 3) (aq aV (qv 6) (qv 8)) zI (aq aS (qv 7) (ay cO (qv 1) (qv 8) (λ_ _=>rfl))) xE iM))))))))
   (ah (aB (aE (aa (qv 4) (aa (ao C_trimmed nofun rfl (aa (qv 3) (aa af ae))) (aa (qv 5) ae))))))))))),?_⟩
  walk_at"m";skip
  obtain⟨L,hLd⟩ : ∃L,L=nz ns (ns.length-1):=⟨_,rfl⟩;have hgl:ns.length-1<ns.length:=();have nl:ns[ns.length-1]=L:=by rw[hLd,bA (Ya hgl)]
  have bL:Bt c L:=nl▸bn _ (Yo hgl);rw[<-hLd] at hL;have xl:(ns.map V.int).getLast? = some (.int L):=by
   rw[Yy,Yb,Yd,Ya hgl,nl];rfl
  refine aR.gen λN1 hN1=>?_;symm
  refine⟨_,hb,_,iV xl,hN1 _ _ ?_⟩;refine aR.gen λN2 hN2=>?_;symm
  refine⟨_,ha,λr1 H1 hr1 S1 h1=>hN2 _ _ ?_⟩;refine aR.gen λN3 hN3=>?_;symm
  have lena:∀{H':Hp},az (vw K H) (vw K H')->fA (vw K H') a=some ms.length:=λS=>by simp only[fA,S _ _ ha,Yb]
  have lenb:∀{H':Hp},az (vw K H) (vw K H')->fA (vw K H') b=some ns.length:=λS=>by simp only[fA,S _ _ hb,Yb]
  refine⟨∅,λp2 H2 hp2 S2 h2=>?_⟩;have S02:=S1.trans S2;refine⟨_,lena S02,_,lenb S02,?_⟩;obtain⟨n,hn,hnn⟩ : ∃n:Nat,(if (ms.length:Int)-(ns.length:Int)+1 > 0 then (ms.length:Int)-(ns.length:Int)+1 else 0)=(n:Int)/\n=ms.length+1-ns.length:=by
   refine⟨ms.length+1-ns.length,?_,rfl⟩;split<;>nofun
  rw[hn,lT];refine⟨_,h2,(),(),?_,λq1 H3 hq1 S3 h3=>hN3 _ _ ?_⟩
  .have:1000<=sizeLine:=∅;simp;nofun
  rw[show ((n:Nat):Int).toNat=n by nofun,vz] at h3
  have S03:=S02.trans S3;refine aR.gen λN4 hN4=>?_;symm
  refine hN4 _ _ ?_;refine aR.gen λN5 hN5=>?_;symm
  simp only[Cs];symm
  refine⟨_,lena S03,_,lenb S03,(),(),∅,∅,?_⟩;rw[show ((ms.length:Int)-(ns.length:Int) - -1).toNat=n by nofun]
  have nr1:vw K H r1=none:=hr1;have nq1:vw K H q1=none:=S02.none hq1;obtain⟨Pv,hPv⟩ : ∃Pv:Nat->St->Hp->Prop,∀i σ H',Pv i σ H' ↔ ∃(ra qa:Addr)(rs qs:List Int)(S:Int)(o6 o7 o8:Option V),σ=[some (.ref a),some (.ref b),some (.int L),some (.ref ra),some (.ref qa),some (.int S),o6,o7,o8]/\az (vw K H) (vw K H') /\
    vw K H' ra=some (.lst (rs.map V.int))/\vw K H' qa=some (.lst (qs.map V.int))/\vw K H ra=none/\vw K H qa=none/\ra≠qa/\rs.length+i=ms.length/\qs.length=n/\(∃e,e<=i/\S=L^e/\(Fw ms ns->S=1))/\Bt (1+c*i) S/\(∀x∈rs,Bt (m+(c+1)*i) x)/\(∀x∈qs,Bt (m+(c+1)*i) x) /\
    (∀k,k+i+ns.length<=ms.length->nz qs k=0)/\(∀k,S*nz ms k=pz (nz qs) (nz ns) n k+nz rs k):=⟨_,λ_ _ _=>Xn⟩
  refine aZ (its:=AE ((ms.length:Int)-(ns.length:Int)) n) Pv (λ_ _ _ _ _=>BM) ((hPv _ _ _).mpr ⟨r1,q1,ms,List.replicate n 0,1,_,_,_,rfl,S03,(S2.trans S3) _ _ h1,?_,nr1,nq1,?_,(),by simp,⟨0,(),(XQ _).symm,λ_=>rfl⟩,?_,λx hx=>(bm x hx).mono (),λx hx=>?_,λk _=>?_,λk=>?_⟩) (λi x σ H4 hi hx pv=>?_) (λσ H4 pv=>?_)
  .rw[h3,yS]
  .exact aj (S2 _ _ h1) hq1
  .exact Bt.mono (m:=1) ∅ ()
  .rw[(List.mem_replicate.mp hx).2];exact iT
  .unfold nz;rw[YF,List.getElem?_replicate];split<;>rfl
  .rw[yc (f:=nz (List.replicate n 0)) (λi=>by
    unfold nz;rw[YF,List.getElem?_replicate];split<;>rfl)]
   nofun
  .obtain⟨ra,qa,rs,qs,S,o6,o7,o8,rfl,S4,hra,hqa,nra,nqa,nrq,lrs,lqs,nS,bS,br,bq,zq,ev⟩:=(hPv _ _ _).mp pv;obtain⟨hi',rfl⟩:=I0 hx;obtain⟨p,hp⟩ : ∃p:Nat,(ms.length:Int)-(ns.length:Int)-(i:Int)=(p:Int):=⟨ms.length-ns.length-i,()⟩;have hpi:p+i+ns.length=ms.length:=();have hrl:rs.length-1<rs.length:=();obtain⟨Pt,hPt⟩ : ∃Pt,Pt=rs[rs.length-1]:=⟨_,rfl⟩;have hi9:i<=ms.length:=();have hci:(c+1)*i<=290000:=Yz (YX _ hi9) hcm;have hci2:c*i<=290000:=Yz (Y6 (Nat.le_succ c) hi9) hcm;rw[hp];simp only[jy];refine aR.gen λM1 hM1=>?_;symm
   have xp:(rs.map V.int)[(rs.map V.int).length-1]? = some (.int Pt):=by
    rw[Yb,Yd,Ya hrl,hPt];rfl
   refine⟨kD hra,_,hra,_,xp,λH5 B5 h5=>hM1 _ _ ?_⟩;rw[<-List.map_dropLast] at h5;have S5:az (vw K H) (vw K H5):=λy o e=>B5 _ _ (aj e nra) (S4 _ _ e);have hqa5:=B5 _ _ nrq.symm hqa;have bP:Bt (m+(c+1)*i) Pt:=hPt▸br _ (Yo hrl);have dj:rs.length-1=p+(ns.length-1):=();have nP:nz rs (p+(ns.length-1))=Pt:=by rw[<-dj,bA (Ya hrl),hPt]
   have ldl:rs.dropLast.length+(i+1)=ms.length:=by rw[List.length_dropLast];nofun
   refine aR.gen λM2 hM2=>?_;have key:∀(ra' qa':Addr)(R:Nat->Int)(rs1 qs1:List Int)(S1 part:Int)(H':Hp),az (vw K H) (vw K H')->vw K H' ra'=some (.lst (rs1.map V.int))->vw K H' qa'=some (.lst (qs1.map V.int))->vw K H ra'=none->vw K H qa'=none->ra'≠qa'->rs1.length+(i+1)=ms.length->qs1.length=n->(∃e,e<=i+1/\S1=L^e/\(Fw ms ns->S1=1))->Bt (1+c*(i+1)) S1 ->
     (∀x∈rs1,Bt (m+(c+1)*i+c) x)->(∀x∈qs1,Bt (m+(c+1)*i+c) x)->Bt (m+(c+1)*i) part->(∀k,k+i+ns.length<=ms.length->nz qs1 k=0)->(∀k,S1*nz ms k=pz (nz qs1) (nz ns) n k+R k)->R (p+(ns.length-1))=part*L->(∀k,nz rs1 k=if k=p+(ns.length-1) then 0 else R k) ->
     M2 [some (.ref a),some (.ref b),some (.int L),some (.ref ra'),some (.ref qa'),some (.int S1),some (.int p),some (.int part),o8] H':=by
    intro ra' qa' R rs1 qs1 S1 part H' Sx hr' hq' nr' nq' ne' l1 l2 n1 b1 b2 b3 b4 z1 e1 e2 e3;refine hM2 _ _ ?_;refine aR.gen λM3 hM3=>?_;symm
    refine⟨_,hq',p,t7 (by rw[Yb];nofun),λH7 B7 h7=>hM3 _ _ ?_⟩
    rw[<-List.map_set] at h7;have S7:az (vw K H) (vw K H7):=λy o e=>B7 _ _ (aj e nq') (Sx _ _ e);have hr7:=B7 _ _ ne' hr';symm
    refine⟨_,lenb S7,(),(),?_⟩;rw[show ((ns.length:Int)-1).toNat=ns.length-1 by nofun]
    obtain⟨Pw,hPw⟩ : ∃Pw:Nat->St->Hp->Prop,∀l σ H',Pw l σ H' ↔ ∃(rs2:List Int)(o8:Option V),σ=[some (.ref a),some (.ref b),some (.int L),some (.ref ra'),some (.ref qa'),some (.int S1),some (.int p),some (.int part),o8]/\az (vw K H) (vw K H')/\vw K H' ra'=some (.lst (rs2.map V.int))/\vw K H' qa'=some (.lst ((qs1.set p part).map V.int))/\rs2.length=rs1.length /\
      (∀x∈rs2,Bt (m+(c+1)*(i+1)) x) /\ ∀k,nz rs2 k=nz rs1 k-if p<=k/\k<p+l then part*nz ns (k-p) else 0:=⟨_,λ_ _ _=>Xn⟩
    have more:(c+1)*(i+1)=(c+1)*i+(c+1):=by rw[Nat.mul_add];nofun
    refine aZ (its:=gJ 0 (ns.length-1)) Pw (λ_ _ _ _ _=>bT) ((hPw _ _ _).mpr ⟨rs1,_,rfl,S7,hr7,h7,rfl,λx hx=>(b2 x hx).mono (),λk=>by rw[Yc ()];nofun⟩) (λl x σ H8 hl hx pw=>?_) (λσ H8 pw=>?_)
    .obtain⟨rs2,o8',rfl,S8,hr8,hq8,l8,b8,e8⟩:=(hPw _ _ _).mp pw;obtain⟨hl',rfl⟩:=gB hx;have hpl:p+l<rs2.length:=();have hln:l<ns.length:=();simp only[AU,LS];symm
     have xr:(rs2.map V.int)[p+l]? = some (.int rs2[p+l]):=by rw[Yd,Ya hpl];rfl
     have xn:(ns.map V.int)[l]? = some (.int ns[l]):=by rw[Yd,Ya hln];rfl
     have epl:(p:Int)+(0+(l:Int))=((p+l:Nat):Int):=();have vr:rs2[p+l]=nz rs1 (p+l):=by
      have:=e8 (p+l);rw[bA (Ya hpl),Yc ()] at this;nofun
     have vn:ns[l]=nz ns l:=(bA (Ya hln)).symm;refine⟨_,hr8,_,by rw[epl];exact bB xr,_,S8 _ _ hb,_,by rw[Int.zero_add];exact bB xn,?_⟩
     rw[dF];refine⟨bV b4 (bn _ (Yo hln)) (),_,rfl,_,rfl,_,hr8,p+l,by rw[epl];exact t7 (by rw[Yb];exact hpl),λH9 B9 h9=>?_⟩
     rw[<-List.map_set] at h9;refine (hPw _ _ _).mpr ⟨rs2.set (p+l) (rs2[p+l]-part*ns[l]),_,rfl,λy o e=>B9 _ _ (aj e nr') (S8 _ _ e),h9,B9 _ _ ne'.symm hq8,by rw[List.length_set];exact l8,λx hx=>?_,λk=>?_⟩
     .rcases List.mem_or_eq_of_mem_set hx with z|rfl
      .exact b8 x z
      .have y1:Bt (m+(c+1)*i+c) rs2[p+l]:=by rw[vr];exact uE b2 _
       have y2:Bt (m+(c+1)*i+c) (part*ns[l]):=b4.mul (bn _ (Yo hln));unfold Bt at y1 y2 ⊢;rw[more,show m+((c+1)*i+(c+1))=(m+(c+1)*i+c)+1 by nofun,Xe]
       exact Zb y1 y2
     .rw[sI hpl,e8 k];by_cases hk:k=p+l
      .subst hk;rw[Yh rfl,Yh (),show p+l-p=l by nofun,vr,vn]
      .rw[Yc hk];by_cases hk2:p<=k/\k<p+l
       .rw[Yh hk2,Yh ()]
       .rw[Yc hk2,Yc ()]
    .obtain⟨rs2,o8',rfl,S8,hr8,hq8,l8,b8,e8⟩:=(hPw _ _ _).mp pw;rw[dk] at e8;refine (hPv _ _ _).mpr ⟨ra',qa',rs2,qs1.set p part,S1,_,_,_,rfl,S8,hr8,hq8,nr',nq',ne',(),by rw[List.length_set];exact l2,n1,b1,b8,λx hx=>?_,λk hk=>?_,?_⟩
     .rcases List.mem_or_eq_of_mem_set hx with z|rfl
      .exact (b3 x z).mono ()
      .exact b4.mono ()
     .rw[sI (),Yc ()];exact z1 k ()
     .exact Ae (l:=ns.length-1) e1 (z1 p ()) (λk=>sI ()) () (λj hj=>a7 ()) (by rw[e2,hLd]) e3 e8
   symm
   refine⟨hL,be (λe0=>?_) (λe0=>?_)⟩
   .have dv:L∣Pt:=Int.dvd_of_fmod_eq_zero e0;have em:Pt.fdiv L*L=Pt:=fX hL dv;have bd:Bt (m+(c+1)*i) (Pt.fdiv L):=by
     unfold Bt at bP ⊢;have e1:(Pt.fdiv L).natAbs*L.natAbs=Pt.natAbs:=by rw[<-YG,em]
     have e2:(Pt.fdiv L).natAbs*1<=(Pt.fdiv L).natAbs*L.natAbs:=YX _ ();nofun
    refine⟨hL,key ra qa (nz rs) rs.dropLast qs S (Pt.fdiv L) H5 S5 h5 hqa5 nra nqa nrq ldl lqs (nS.elim λe z=>⟨e,(),z.2⟩) (bS.mono (by rw[Nat.mul_add];nofun)) (λx hx=>(br x ((List.dropLast_sublist _).subset hx)).mono ()) (λx hx=>(bq x hx).mono ()) bd zq ev (by rw[nP,em]) (λk=>by rw[nK,dj])⟩
   .refine⟨bV bS bL (),⟨_,.of (aM hqa5)⟩,λq6 H6 hq6 S6 h6=>?_⟩;refine bZ (its:=qs.map V.int) (λj zs H'=>az (vw K H5) (vw K H')/\zs=((qs.take j).map λx=>L*x).map V.int) (λj zs H' _ _ z=>aX (z.1 _ _ hqa5)) h6 ⟨S6,rfl⟩ (λj x zs H' hj hx h' z=>?_) (λzs H7 h7 z=>?_)
    .obtain⟨z1,rfl⟩:=z;rw[Yb] at hj;rw[Yd,Ya hj] at hx;cases hx;symm
     refine⟨bV bL (bq _ (Yo hj)) (),.mk h' ?_ λH8 B8 h8=>⟨λy o e=>B8 _ _ (aj e hq6) (z1 _ _ e),?_⟩⟩
     .rw[Yb,Yb,YC];have:1000<=sizeLine:=∅;nofun
     .rw[Yw,Ya hj,Yp,Yp];rfl
    obtain⟨S57,rfl⟩:=z;rw[Yb,Y0] at h7;have h57:=S57 _ _ h5;refine⟨⟨_,.of (aM h57)⟩,λr8 H8 hr8 S8 h8=>?_⟩;refine bZ (its:=rs.dropLast.map V.int) (λj zs H'=>az (vw K H7) (vw K H')/\zs=((rs.dropLast.take j).map λx=>L*x).map V.int) (λj zs H' _ _ z=>aX (z.1 _ _ h57)) h8 ⟨S8,rfl⟩ (λj x zs H' hj hx h' z=>?_) (λzs H9 h9 z=>?_)
    .obtain⟨z1,rfl⟩:=z;rw[Yb] at hj;rw[Yd,Ya hj] at hx;cases hx;symm
     refine⟨bV bL (br _ ((List.dropLast_sublist _).subset (Yo hj))) (),.mk h' ?_ λH8 B8 h8=>⟨λy o e=>B8 _ _ (aj e hr8) (z1 _ _ e),?_⟩⟩
     .rw[Yb,Yb,YC];have:1000<=sizeLine:=∅;nofun
     .rw[Yw,Ya hj,Yp,Yp];rfl
    obtain⟨S79,rfl⟩:=z;rw[Yb,Y0] at h9;have S07:=S5.trans S57;refine key r8 q6 (λk=>L*nz rs k) _ _ (S*L) Pt H9 (S07.trans S79) h9 (S79 _ _ h7) (S07.none hr8) (S5.none hq6) (aj h7 hr8).symm (by rw[Yb];exact ldl) (by rw[Yb];exact lqs) (nS.elim λe z=>⟨e+1,(),by rw[z.2.1,XR],λex=>absurd (Int.fmod_eq_zero_of_dvd (by have dv:=zY ln0 (show rs.length=p+ns.length by nofun) lqs (λk=>by rw[<-ev k,z.2.2 ex,YK]) (hLd▸hL) ex;rw[nP,<-hLd] at dv;exact dv)) e0⟩) ((bS.mul bL).mono (by rw[Nat.mul_add];nofun)) (λx hx=>?_) (λx hx=>?_) bP (λk hk=>?_) (λk=>?_) ?_ (λk=>?_)
    .obtain⟨y,hy,rfl⟩:=List.mem_map.mp hx;exact (bL.mul (br y ((List.dropLast_sublist _).subset hy))).mono ()
    .obtain⟨y,hy,rfl⟩:=List.mem_map.mp hx;exact (bL.mul (bq y hy)).mono ()
    .rw[dH,zq k hk];nofun
    .rw[show nz (qs.map λx=>L*x)=λk=>L*nz qs k from funext λk=>dH k,sE,<-Int.mul_add,<-ev k,Y2 S L,YM]
    .show L*nz rs (p+(ns.length-1))=Pt*L;rw[nP,Y2]
    .rw[dH,nK,dj];split<;>simp
  .obtain⟨ra,qa,rs,qs,S,o6,o7,o8,rfl,S4,hra,hqa,nra,nqa,nrq,lrs,lqs,nS,bS,br,bq,zq,ev⟩:=(hPv _ _ _).mp pv;rw[Ei] at lrs nS bS br bq zq;refine hN5 _ _ ?_;symm
   simp only[kG];refine .inr ?_;simp only[nE];symm
   refine⟨rs,hra,λd H5 ts S5 hd nd e5 l5 z5=>⟨∅,λp6 H6 hp6 S6 h6=>?_⟩⟩;have n9:n<=ms.length:=();have k1:c*n<=290000:=Yz (Y6 (Nat.le_succ c) n9) hcm;have k2:(c+1)*n<=290000:=Yz (YX _ n9) hcm;refine h p6 qa d S qs ts H6 (S4.trans (S5.trans S6)) h6 ((S5.trans S6) _ _ hqa) (S6 _ _ hd) (S4.none nd) () () (nS.elim λe z=>⟨e,(),z.2.1.trans (by rw[hLd])⟩) (nS.elim λe z=>z.2.2) (bS.mono ()) (λx hx=>(bq x hx).mono ()) (λx hx=>?_) z5 (λk=>?_) (λx hx=>?_)
   .obtain⟨k,hk⟩:=Xq hx;have e:=e5 k;rw[bA hk] at e;rw[e];exact (uE br k).mono ()
   .rw[lqs,e5 k];exact ev k
   .obtain⟨k,hk⟩:=Xq hx;have e:=e5 k;rw[bA hk] at e;rw[e,show ms.length+1-ns.length=n by nofun]
    exact uE br k
def pT(K:W.Frag):Sp:=λvs H Q _=>∃(x:Int)(n b:Nat),vs=[.int x,.int n]/\n<=20/\b<=20000/\Bt b x/\Q (.int (x^n)) H
theorem AH(F:dA K "power" "power" uy f fd) (T:fh K mg):a9 P w K mg base dC 1 f fd ["base", "many"] (pT K):=by
 have scN:=vX.nd;refine F.okQ vX (λvs H Q E h=>?_) (λcdv A outer s H vs Q E hr h=>?_)
 .obtain⟨_,_,_,rfl,_⟩:=h;rfl
 .obtain⟨x,n,b,rfl,hn,hb,bx,h⟩:=h;refine⟨_,(ag (ax (i:=2) scN rfl (·) af)
   (ag (cL PassesOwn.never rfl (dq rfl T.b_range (aa (qv 1) ae)) (av (i:=3) scN rfl (·)) (ah (jE (i:=2) scN rfl (·) (qv 0) oj)))
   (ah (aB (qv 2))))),?_⟩
  walk_at"m";symm
  refine⟨(),(),?_⟩;rw[show ((n:Nat):Int).toNat=n by nofun]
  obtain⟨Pv,hPv⟩ : ∃Pv:Nat->St->Hp->Prop,∀i σ H',Pv i σ H'↔H'=H /\ ∃o,σ=[some (.int x),some (.int n),some (.int (x^i)),o]:=⟨_,λ_ _ _=>Xn⟩;refine aZ (its:=gJ 0 n) Pv (λ_ _ _ _ _=>bT) ((hPv _ _ _).mpr ⟨rfl,_,by rw[XQ]⟩) (λi y σ H1 hi hy pv=>?_) (λσ H1 pv=>?_)
  .obtain⟨rfl,o,rfl⟩:=(hPv _ _ _).mp pv;obtain⟨hi',rfl⟩:=gB hy;symm
   have b1:=bx.pow1 i;have:b*i<=20000*20:=Y6 hb ();refine⟨bV b1 bx (),(hPv _ _ _).mpr ⟨rfl,_,by rw[XR]⟩⟩
  .obtain⟨rfl,o,rfl⟩:=(hPv _ _ _).mp pv;rw[dk];symm
   exact h
def fG(K:W.Frag):Sp:=λvs H Q _=>∃(a:Addr)(ns:List Int)(b:Nat),vs=[.ref a]/\vw K H a=some (.lst (ns.map V.int))/\ns.length<=40/\b<=20000/\(∀x∈ns,Bt b x)/\(ns≠[]->nz ns (ns.length-1)≠0) /\
 ∀d H' (ms:List Int)(g:Int),az (vw K H) (vw K H')->vw K H' d=some (.lst (ms.map V.int))->vw K H d=none->ms.length=ns.length->0<g->(∀k,nz ns k=g*nz ms k)->(ns≠[]->jJ (nz ms))->(∀x∈ms,Bt b x)->Q (.ref d) H'
theorem wY(F:dA K "lowered" "lowered" mT f fd) (T:fh K mg)(N_:pV P base)(C_greatest_divisor:cy P w K mg base "greatest_divisor" ["one", "other"] 1 (aW K)):a9 P w K mg base dC 2 f fd ["wholes"] (fG K):=by
 have scN:=qh.nd;refine F.okQ qh (λvs H Q E h=>?_) (λcdv A outer s H vs Q E hr h=>?_)
 .obtain⟨_,_,_,rfl,_⟩:=h;rfl
 .obtain⟨a,ns,b,rfl,ha,hl,hb,bn,nl,h⟩:=h;refine⟨_,(ag (ax (i:=1) scN rfl (·) af)
   (ag (cL PassesOwn.never rfl (ci (qv 0)) (av (i:=2) scN rfl (·)) (ah (ax (i:=1) scN rfl (·) (ao C_greatest_divisor nofun rfl (aa (qv 1) (aa (qv 2) ae))))))
   (ah (aB (eO (own:=["whole"]) (outs:=["divisor"]) (ixs:=[1]) rfl (ci (qv 0)) rfl ⟨rfl,rfl,rfl,⟨rfl,trivial⟩,rfl,⟨⟨rfl,rfl,rfl,_,rfl⟩,trivial⟩⟩ (λ_ _ _ _=>⟨(av (i:=0) (show (["whole", "divisor"]:List Str).Nodup by decide +kernel) rfl (·)),gh,(aq (uT N_ hr rfl rfl rfl rfl rfl) (qv 0) (qv 1))⟩)))))),?_⟩
  walk_at"m";refine aR.gen λN1 hN1=>?_;symm
  refine hN1 _ _ ?_;refine aR.gen λN2 hN2=>?_;symm
  refine⟨⟨_,.of (aM ha)⟩,?_⟩;obtain⟨Pv,hPv⟩ : ∃Pv:Nat->St->Hp->Prop,∀i σ H',Pv i σ H'↔H'=H /\ ∃(g:Int)(o:Option V),σ=[some (.ref a),some (.int g),o]/\(∀x∈ns.take i,g∣x)/\0<=g /\ ∀e:Int,(∀x∈ns.take i,e∣x)->e∣g:=⟨_,λ_ _ _=>Xn⟩;refine aZ (its:=ns.map V.int) Pv (λi σ H' _ p=>?_) ((hPv _ _ _).mpr ⟨rfl,_,_,rfl,by simp,∅,λe _=>Int.dvd_zero e⟩) (λi y σ H1 hi hy pv=>?_) (λσ H1 pv=>?_)
  .obtain⟨rfl,_⟩:=(hPv _ _ _).mp p;exact aX ha
  .obtain⟨rfl,g,o,rfl,hg,gp,hd⟩:=(hPv _ _ _).mp pv;rw[Yb] at hi;rw[Yd,Ya hi] at hy;cases hy;symm
   simp only[aW];symm
   refine (hPv _ _ _).mpr ⟨rfl,_,_,rfl,λx hx=>?_,(),λe he=>?_⟩
   .rw[Yw,Ya hi] at hx;rcases List.mem_append.mp hx with z|z
    .exact Int.dvd_trans (Int.gcd_dvd_left _ _) (hg x z)
    .cases List.mem_singleton.mp z;exact XH _ _
   .rw[Yw,Ya hi] at he;exact Int.dvd_coe_gcd (hd e λx z=>he x (XG _ z)) (he _ (YL _ (List.mem_singleton.mpr rfl)))
  .obtain⟨rfl,g,o,rfl,hg,gp,hd⟩:=(hPv _ _ _).mp pv;rw[Yb,Y0] at hg hd;refine hN2 _ _ ?_;symm
   have hgn:ns≠[]->g≠0/\Bt b g:=λz=>by
    have lp:ns.length-1<ns.length:=by have:=List.length_pos_iff.mpr z;nofun
    have n1:=nl z;rw[bA (Ya lp)] at n1;have d1:=hg _ (Yo lp);have b1:=bn _ (Yo lp);refine⟨λe=>n1 (by rw[e] at d1;exact Int.zero_dvd.mp d1),?_⟩
    have:=Nat.le_of_dvd () (Int.natAbs_dvd_natAbs.mpr d1);unfold Bt at b1 ⊢;nofun
   refine⟨⟨_,.of (aM ha)⟩,λd H2 hnd S2 h2=>?_⟩;refine bZ (its:=ns.map V.int) (λj zs H'=>az (vw K H1) (vw K H')/\zs=((ns.take j).map λx=>x.fdiv g).map V.int) (λj zs H' _ _ z=>aX (z.1 _ _ ha)) h2 ⟨S2,rfl⟩ (λj x zs H' hj hx h' z=>?_) (λzs H3 h3 z=>?_)
   .obtain⟨z1,rfl⟩:=z;rw[Yb] at hj;rw[Yd,Ya hj] at hx;cases hx;obtain⟨g1,g2⟩:=hgn (λe=>by rw[e] at hj;simp at hj)
    symm
    refine⟨g1,.mk h' ?_ λH8 B8 h8=>⟨λy o e=>B8 _ _ (aj e hnd) (z1 _ _ e),?_⟩⟩
    .rw[Yb,Yb,YC];have:1000<=sizeLine:=∅;nofun
    .rw[Yw,Ya hj,Yp,Yp];rfl
   .obtain⟨z1,rfl⟩:=z;rw[Yb,Y0] at h3;by_cases e:ns=[]
    .subst e;exact h d H3 [] 1 z1 h3 hnd rfl ∅ (λk=>by rw[YK]) (λz=>absurd rfl z) (by simp)
    obtain⟨g1,g2⟩:=hgn e;have em:∀x∈ns,x=g*x.fdiv g:=λx hx=>by rw[Y2];exact (fX g1 (hg x hx)).symm
    have nm:∀k,nz ns k=g*nz (ns.map λx=>x.fdiv g) k:=λk=>?_;refine h d H3 _ g z1 h3 hnd (by rw[Yb]) () nm (λ_ q hq=>?_) (λx hx=>?_)
    .have d1:g*q∣g:=hd (g*q) λx hx=>by
      obtain⟨k,hk⟩:=Xq hx;have e1:=nm k;rw[bA hk] at e1;rw[e1];exact Int.mul_dvd_mul_left g (hq k)
     obtain⟨c,hc⟩:=d1;have hc':g*1=g*(q*c):=by rw[XN,<-YM];exact hc
     have q1:1=q*c:=Int.eq_of_mul_eq_mul_left g1 hc';have:=Xb Int.natAbs q1;rw[YG] at this;exact Nat.eq_one_of_mul_eq_one_right this.symm
    .obtain⟨y,hy,rfl⟩:=List.mem_map.mp hx;have e1:(g*y.fdiv g).natAbs=g.natAbs*(y.fdiv g).natAbs:=YG _ _;rw[<-em y hy] at e1;have e2:1*(y.fdiv g).natAbs<=g.natAbs*(y.fdiv g).natAbs:=Xf _ ();have b1:=bn y hy;unfold Bt at b1 ⊢;nofun
    .cases ek:ns[k]? with
     | none =>
      have l:=List.getElem?_eq_none_iff.mp ek;rw[a7 l,a7 (by rw[Yb];exact l),YD]
     | some y =>
      rw[bA ek,bA (n:=y.fdiv g) (by rw[Yd,ek];rfl)]
      exact em y (Yr ek)
def rO(G:Hp)(t:Addr)(tv:List V)(rows:List (List Int×List Int×Int×Int)):Prop:=tv.length=rows.length /\ ∀(k:Nat) row,rows[k]? = some row -> ∃p ra qa:Addr,tv[k]? = some (.ref p)/\G p=some (.tup [.ref ra,.ref qa,.int row.2.2.1,.int row.2.2.2])/\G ra=some (.lst (row.1.map V.int))/\G qa=some (.lst (row.2.1.map V.int))/\ra≠t/\qa≠t
theorem rO.same{G G':Hp}{t:Addr}{tv:List V}{rows:List (List Int×List Int×Int×Int)}(h:rO G t tv rows)(S:az G G'):rO G' t tv rows:=⟨h.1,λk row e=>by
 obtain⟨p,ra,qa,a,b,c,d,n⟩:=h.2 k row e;exact⟨p,ra,qa,a,S _ _ b,S _ _ c,S _ _ d,n⟩⟩
def HP(row:List Int×List Int×Int×Int):Prop:=row.1.length<=9/\(∀x∈row.1,Bt 17840 x)/\Bt 200000 row.2.2.1/\Bt 200000 row.2.2.2/\row.2.1.length<=9/\1<=row.2.1.length /\ ∀x∈row.2.1,Bt 700000 x
def gm(K:W.Frag):Sp:=λvs H Q _=>∃(a b:Addr)(ms ns:List Int),vs=[.ref a,.ref b]/\vw K H a=some (.lst (ms.map V.int))/\vw K H b=some (.lst (ns.map V.int))/\ms≠[]/\ns.length<=ms.length/\iI 1110 ms/\iI 1110 ns /\
 ∀(d:Addr)(H':Hp)(tv:List V) rows,az (vw K H) (vw K H')->vw K H' d=some (.lst tv)->rO (vw K H') d tv rows->pQ ms ns rows->rows.length<=9->(∀row∈rows,HP row)->Q (.ref d) H'
theorem nX(F:dA K "wholes_rests" "wholes_rests" gI f fd) (T:fh K mg)(N_:pV P base)(C_power:cy P w K mg base "power" ["base", "many"] 1 (pT K)) (C_wholes_parted:cy P w K mg base "wholes_parted" ["one", "other"] 2 (cV K)):a9 P w K mg base dC 3 f fd ["one", "other"] (gm K):=by
 have scN:=ji.nd;refine F.okQ ji (λvs H Q E h=>?_) (λcdv A outer s H vs Q E hr h=>?_)
 .obtain⟨_,_,_,_,rfl,_⟩:=h;rfl
 .obtain⟨a,b,ms,ns,rfl,ha,hb,m0,lmn,im,il,h⟩:=h;refine⟨_,(ag (ax (i:=2) scN rfl (·) (aL ae))
   (ag (eD (aE (aa af (aa af ae))) (cR (n:=2) rfl (aC (av (i:=3) scN rfl (·)) (aC (av (i:=4) scN rfl (·)) cS))))
   (ag (fY PassesOwn.never (dE (qv 1) (λ_=>rfl)) (ag (ax (i:=5) scN rfl (·) (aq cj (aw aQ (by rfl) T.b_len bK (aa (qv 0) ae)) (aw aQ (by rfl) T.b_len bK (aa (qv 1) ae))))
   (ag (ax (i:=6) scN rfl (·) (ao C_power nofun rfl (aa (ay cO (qv 1) (eJ cT af) (λ_ _=>rfl)) (aa (aq aV (qv 5) af) ae))))
   (ag (eD (ao C_wholes_parted nofun rfl (aa (qv 0) (aa (qv 1) ae))) (cR (n:=3) rfl (aC (av (i:=7) scN rfl (·)) (aC (av (i:=8) scN rfl (·)) (aC (av (i:=9) scN rfl (·)) cS)))))
   (ag (ax (i:=10) scN rfl (·) (aq aS (qv 3) (ao C_power nofun rfl (aa (qv 4) (aa (qv 5) ae)))))
   (ag (bC (dE (qv 8) (λ_=>rfl)) (ag (ax (i:=11) scN rfl (·) (aq (gS N_ hr rfl rfl rfl) (qv 6) (qv 9)))
   (ag (ut (i:=8) (own:=["whole"]) (outs:=["top", "lack"]) (ixs:=[10,11]) scN rfl (·) rfl (ci (qv 8)) rfl ⟨rfl,rfl,rfl,⟨rfl,⟨rfl,trivial⟩⟩,rfl,⟨⟨rfl,rfl,rfl,_,rfl⟩,⟨⟨rfl,rfl,rfl,_,rfl⟩,trivial⟩⟩⟩ (λ_ _ _ _=>⟨(av (i:=0) (show (["whole", "top", "lack"]:List Str).Nodup by decide +kernel) rfl (·)),gh,(aq (AM N_ hr rfl rfl rfl rfl rfl) (aq (show fk _ _ (i8 K) from aS) (qv 2) (qv 0)) (qv 1))⟩))
   (ah (ei (kg YJ YW YV c8 (qv 2) (aa (aE (aa (qv 8) (aa (eO (own:=["whole"]) (outs:=["lack"]) (ixs:=[11]) rfl (ci (qv 7)) rfl ⟨rfl,rfl,rfl,⟨rfl,trivial⟩,rfl,⟨⟨rfl,rfl,rfl,_,rfl⟩,trivial⟩⟩ (λ_ _ _ _=>⟨(av (i:=0) (show (["whole", "lack"]:List Str).Nodup by decide +kernel) rfl (·)),gh,(aq (show fk _ _ (i8 K) from aS) (qv 1) (qv 0))⟩)) (aa (qv 10) (aa (qv 6) ae))))) ae)))))) aP)
   (ag (sw (i:=0) (j:=1) rfl scN rfl rfl ∅ rfl rfl (aa (qv 1) (aa (qv 8) ae)) rfl)
   (ag (ax (i:=3) scN rfl (·) (ay cO (qv 0) (eJ cT af) (λ_ _=>rfl)))
   (ah (bC (aF kr (qv 5) af (aK _)) (ah (ax (i:=4) scN rfl (·) (aq (gS N_ hr rfl rfl rfl) (ao C_power nofun rfl (aa (qv 3) (aa (qv 5) ae))) (ao C_power nofun rfl (aa (qv 4) (aa (aq cj (qv 5) af) ae)))))) aP))))))))))
   (ah (aB (qv 2)))))),?_⟩
  walk_at"m";skip
  refine aR.gen λN1 hN1=>?_;symm
  refine⟨∅,λt H1 ht S1 h1=>hN1 _ _ ?_⟩;refine aR.gen λN2 hN2=>?_;symm
  refine⟨∅,λp2 H2 hp2 S2 h2=>⟨_,rfl,_,h2,rfl,_,_,rfl,_,_,rfl,rfl,hN2 _ _ ?_⟩⟩;refine aR.gen λN3 hN3=>?_;symm
  have nt:vw K H t=none:=ht;have S02:=S1.trans S2;obtain⟨W,hW⟩ : ∃W:Nat->St->Hp->Prop,∀m σ H',W m σ H' ↔ ∃(oa ra:Addr)(Fs Gs:List Int)(tv:List V)(rows:List (List Int×List Int×Int×Int))(x g:Int)(o5 o6 o7 o8 o9 o10 o11:Option V),σ=[some (.ref oa),some (.ref ra),some (.ref t),some (.int x),some (.int g),o5,o6,o7,o8,o9,o10,o11]/\m=Gs.length/\az (vw K H) (vw K H')/\vw K H' t=some (.lst tv)/\vw K H' oa=some (.lst (Fs.map V.int))/\vw K H' ra=some (.lst (Gs.map V.int))/\oa≠t/\ra≠t /\
    Fs≠[]/\tv.length+Gs.length<=9/\Gs.length<=Fs.length/\iI 17825 Fs/\iI 17825 Gs/\(∀r,pQ Fs Gs r->pQ ms ns (rows++r))/\(Gs≠[] -> ∃S1,wJ 17825 S1 (nz Fs) (nz Gs) (Fs.length-1) (Gs.length-1) x g) /\
    rO (vw K H') t tv rows /\ ∀row∈rows,HP row:=⟨_,λ_ _ _=>Xn⟩
  have btn:∀{n:Nat}{l:List Int},iI n l -> ∀k,Bt n (nz l k):=λi k=>uE i.2.1 k;have up:∀{l:List Int},iI 1110 l->iI 17825 l:=λi=>i.up ∅;have lp:∀{l:List Int},l≠[]->0<l.length:=λh=>List.length_pos_iff.mpr h;refine⟨W,⟨_,(hW _ _ _).mpr ⟨a,b,ms,ns,[],[],1,1,_,_,_,_,_,_,_,rfl,rfl,S02,S2 _ _ h1,S02 _ _ ha,S02 _ _ hb,aj ha nt,aj hb nt,m0,by have:=il.1;simp;nofun,lmn,up im,up il,λr z=>z,λn0=>⟨_,wJ.first (b:=1110) () (by have:=im.1;nofun) ∅ (btn im) (btn il) (il.2.2 n0) (λk hk=>a7 (by have:=lp n0;nofun)) (λk hk=>a7 (by have:=lp m0;nofun))⟩,⟨rfl,by simp⟩,by simp⟩⟩,λm σ H3 hw=>?_⟩
  obtain⟨oa,ra,Fs,Gs,tv,rows,x,g,o5,o6,o7,o8,o9,o10,o11,rfl,rfl,S3,ht3,hF,hG,noa,nra,f0,lt7,lGF,iF,iG,gc,gs,rt,rwb⟩:=(hW _ _ _).mp hw;refine⟨_,rfl,_,i7 hG,be (λhc=>⟨_,λσ' H' z=>z,?_⟩) (λhc=>hN3 _ _ ?_)⟩
  .have g0:Gs≠[]:=λz=>by rw[z] at hc;cases hc
   obtain⟨Sx,I⟩:=gs g0;have lg:=lp g0;obtain⟨δ,hδ⟩ : ∃δ,δ=Fs.length-Gs.length:=⟨_,rfl⟩;have hδ2:Fs.length-1-(Gs.length-1)=δ:=();have hgl:Gs.length-1<Gs.length:=();obtain⟨c,hcd⟩ : ∃c,c=nz Gs (Gs.length-1):=⟨_,rfl⟩;have hce:Gs[Gs.length-1]=c:=by rw[hcd,bA (Ya hgl)]
   have bc:Bt 17825 c:=hcd▸btn iG _;have c0:c≠0:=hcd▸iG.2.2 g0;have xl:(Gs.map V.int).getLast? = some (.int c):=by
    rw[Yy,Yb,Yd,Ya hgl,hce];rfl
   have lF7:=iF.1;refine aR.gen λM1 hM1=>?_;symm
   refine⟨Fs.length,by simp only[fA,hF,Yb],Gs.length,by simp only[fA,hG,Yb],hM1 _ _ ?_⟩
   rw[show (Fs.length:Int)-(Gs.length:Int)=(δ:Int) by nofun]
   refine aR.gen λM2 hM2=>?_;symm
   refine⟨_,hG,_,iV xl,⟨c,δ+1,17825,rfl,(),∅,bc,hM2 _ _ ?_⟩⟩;refine aR.gen λM3 hM3=>?_;symm
   simp only[cV];refine⟨oa,ra,Fs,Gs,17825,17825,rfl,hF,hG,lg,iG.2.2 g0,(),(),∅,∅,(),iF.2.1,iG.2.1,λp4 qa rb S qs rs H4 S4 h4 hqa hrb nrb lq lr hSe _ bS bq br lrz ev _=>⟨_,rfl,_,h4,rfl,_,_,rfl,_,_,rfl,_,_,rfl,rfl,hM3 _ _ ?_⟩⟩;obtain⟨e,he,hS⟩:=hSe;rw[<-hcd] at hS;have lq2:qs.length=δ+1:=();have S0:S≠0:=by rw[hS];exact Xp c0
   obtain⟨lack,hlack⟩ : ∃lack,lack=c^(δ+1-e):=⟨_,rfl⟩;have elk:c^(δ+1)=lack*S:=by rw[hlack,hS,<-K7,show δ+1-e+e=δ+1 by nofun]
   obtain⟨dj,htop⟩ : ∃dj,dj=x*g^δ:=⟨_,rfl⟩;have top0:dj≠0:=by rw[htop];exact YH I.inv.x0 (Xp I.inv.h0)
   have δ6:17825*δ<=17825*8:=YX _ ();have btop:Bt 200000 dj:=by rw[htop];exact (I.bx.mul (I.bh.pow1 δ)).mono ()
   have black:Bt 200000 lack:=by
    rw[hlack];refine (bc.pow1 _).mono ?_;have:17825*(δ+1-e)<=17825*9:=YX _ ();nofun
   have bgam:Bt 200000 (c^(δ+1)):=by
    refine (bc.pow1 _).mono ?_;have:17825*(δ+1)<=17825*9:=YX _ ();nofun
   refine aR.gen λM4 hM4=>?_;symm
   simp only[pT];refine⟨g,δ,17825,rfl,(),∅,I.bh,?_⟩;rw[dF];refine⟨bV I.bx (I.bh.pow1 δ) (),hM4 _ _ ?_⟩;rw[<-htop];have IZ:∀k,c^(δ+1)*nz Fs k=pz (λi=>lack*nz qs i) (nz Gs) (δ+1) k+lack*nz rs k:=λk=>by
    rw[sE,<-Int.mul_add,<-lq2,<-ev k,<-YM,<-elk,lq2]
   obtain⟨r,g',hR,bR,r0,ng',bg',hh,next⟩:=I.rest (q:=λi=>lack*nz qs i) (R:=λk=>lack*nz rs k) (λk hk=>by rw[a7 (),YD]) (λk=>by rw[<-hcd,hδ2];exact IZ k)
   rw[hδ2,<-htop] at hR;rw[<-hcd,hδ2] at hh;rw[<-hcd] at next
   refine aR.gen λM5 hM5=>?_;have key:∀(rc:Addr)(Rs:List Int)(tv':List V)(rows':List (List Int×List Int×Int×Int))(H':Hp)(u7 u11:Option V),az (vw K H) (vw K H')->vw K H' t=some (.lst tv')->vw K H' ra=some (.lst (Gs.map V.int))->vw K H' rc=some (.lst (Rs.map V.int))->rc≠t->Rs.length<Gs.length->tv'.length+Rs.length<=9->(∀k,nz Rs k=r k)->iI 17825 Rs->(∀r,pQ Gs Rs r->pQ ms ns (rows'++r))->rO (vw K H') t tv' rows'->(∀row∈rows',HP row)->M5 [some (.ref oa),some (.ref ra),some (.ref t),some (.int x),some (.int g),some (.int δ),some (.int (c^(δ+1))),u7,some (.ref rc),some (.int S),some (.int dj),u11] H':=by
    intro rc Rs tv' rows' H' u7 u11 Sx' ht' hG' hR' nrc lR lt' eR iR gc' rt' rb';have fin:∀u7 u11:Option V,∃m',m'<Gs.length/\W m' [some (.ref ra),some (.ref rc),some (.ref t),some (.int c),some (.int g'),some (.int δ),some (.int (c^(δ+1))),u7,some (.ref rc),some (.int S),some (.int dj),u11] H':=λu7 u11=>by
     refine⟨Rs.length,lR,(hW _ _ _).mpr ⟨ra,rc,Gs,Rs,tv',rows',c,g',_,_,_,_,_,_,_,rfl,rfl,Sx',ht',hG',hR',nra,nrc,g0,lt',(),iG,iR,gc',λz=>?_,rt',rb'⟩⟩;have lz:=lp z;have e1:r=nz Rs:=funext λk=>(eR k).symm;have nx:=next (Rs.length-1) () (by rw[<-eR];exact iR.2.2 z) (λk hk=>by rw[<-eR];exact a7 ())
     rw[e1] at nx;exact⟨_,nx⟩
    refine hM5 _ _ ?_;symm
    refine⟨_,hG',_,iV xl,be (λh0=>?_) (λh0=>?_)⟩
    .rcases hh with ⟨z,_⟩|⟨_,z2⟩
     .nofun
     have δ5:17825*(δ-1)<=17825*8:=YX _ ();have u0:g^(δ-1)≠0:=Xp I.inv.h0;refine⟨c,δ,17825,rfl,(),∅,bc,⟨g,δ-1,17825,by rw[show ((δ:Int)-1)=((δ-1:Nat):Int) by nofun],(),∅,I.bh,_,rfl,_,rfl,u0,?_⟩⟩
     have e1:(c^δ).fdiv (g^(δ-1))=g':=Int.eq_of_mul_eq_mul_right u0 (by rw[fX u0 ⟨g',by rw[<-z2,Y2]⟩,z2])
     rw[e1];exact fin u7 u11
    .rcases hh with ⟨_,z⟩|⟨z,_⟩
     .rw[<-z];exact fin u7 u11
     .nofun
   have nt4:t≠rb:=aj ht3 nrb;symm
   refine⟨_,i7 hrb,be (λhc2=>?_) (λhc2=>?_)⟩
   .have ef:(c^(δ+1)).fdiv S=lack:=Int.eq_of_mul_eq_mul_right S0 (by rw[fX S0 ⟨lack,by rw[elk,Y2]⟩,elk])
    rw[ef];have rs0:rs≠[]:=λz=>by rw[z] at hc2;cases hc2
    have lrs:=lp rs0;refine⟨S0,⟨_,.of (aM hrb)⟩,λd6 H6 hd6 S6 h6=>?_⟩;refine bZ (its:=rs.map V.int) (λj zs H'=>az (vw K H4) (vw K H')/\zs=((rs.take j).map λy=>(lack*y).fdiv dj).map V.int) (λj zs H' _ _ z=>aX (z.1 _ _ hrb)) h6 ⟨S6,rfl⟩ (λj y zs H' hj hy h' z=>?_) (λzs H7 h7 z=>?_)
    .obtain⟨z1,rfl⟩:=z;rw[Yb] at hj;rw[Yd,Ya hj] at hy;cases hy;symm
     refine⟨bV black (br _ (Yo hj)) (),top0,.mk h' ?_ λH8 B8 h8=>⟨λy o e=>B8 _ _ (aj e hd6) (z1 _ _ e),?_⟩⟩
     .rw[Yb,Yb,YC];have:1000<=sizeLine:=∅;nofun
     .rw[Yw,Ya hj,Yp,Yp];rfl
    obtain⟨S47,rfl⟩:=z;rw[Yb,Y0] at h7;refine⟨kD (S47 _ _ (S4 _ _ ht3)),⟨_,.of (aM (S47 _ _ hqa))⟩,λd8 H8 hd8 S8 h8=>?_⟩;refine bZ (its:=qs.map V.int) (λj zs H'=>az (vw K H7) (vw K H')/\zs=((qs.take j).map λy=>lack*y).map V.int) (λj zs H' _ _ z=>aX (z.1 _ _ (S47 _ _ hqa))) h8 ⟨S8,rfl⟩ (λj y zs H' hj hy h' z=>?_) (λzs H9 h9 z=>?_)
    .obtain⟨z1,rfl⟩:=z;rw[Yb] at hj;rw[Yd,Ya hj] at hy;cases hy;symm
     refine⟨bV black (bq _ (Yo hj)) (),.mk h' ?_ λH8 B8 h8=>⟨λy o e=>B8 _ _ (aj e hd8) (z1 _ _ e),?_⟩⟩
     .rw[Yb,Yb,YC];have:1000<=sizeLine:=∅;nofun
     .rw[Yw,Ya hj,Yp,Yp];rfl
    obtain⟨S79,rfl⟩:=z;have S49:=S47.trans S79;refine⟨∅,λp10 H10 hp10 S10 h10=>?_⟩;have ht10:=S10 _ _ (S49 _ _ (S4 _ _ ht3));refine⟨tv,ht10,?_,λH11 B11 h11=>?_⟩
    .have:1000<=sizeLine:=∅;nofun
    have nt6:t≠d6:=aj (S4 _ _ ht3) hd6;have nt10:p10≠t:=(aj (S49 _ _ (S4 _ _ ht3)) hp10).symm;have S410:=S49.trans S10;have hd7:=(S79.trans S10) _ _ h7;have lRs:(rs.map λy=>(lack*y).fdiv dj).length=rs.length:=Yb _;have eR:∀k,nz (rs.map λy=>(lack*y).fdiv dj) k=r k:=λk=>by
     have q1:=hR k;cases ek:rs[k]? with
     | none =>
      have l:=List.getElem?_eq_none_iff.mp ek;rw[a7 l,YD] at q1;rw[a7 (by rw[lRs];exact l)]
      rcases Int.mul_eq_zero.mp q1.symm with z|z
      .exact absurd z top0
      .exact z.symm
     | some y =>
      rw[bA ek] at q1;rw[bA (n:=(lack*y).fdiv dj) (by rw[Yd,ek];rfl)]
      exact Int.eq_of_mul_eq_mul_right top0 (by rw[fX top0 ⟨_,q1⟩,q1,Y2])
    have R0:(rs.map λy=>(lack*y).fdiv dj)≠[]:=λz=>rs0 (List.map_eq_nil_iff.mp z);have Rl0:nz (rs.map λy=>(lack*y).fdiv dj) ((rs.map λy=>(lack*y).fdiv dj).length-1)≠0:=by
     rw[lRs,eR];intro z;have q1:=hR (rs.length-1);rw[z,YD] at q1;rcases Int.mul_eq_zero.mp q1 with y|y
     .exact Xp c0 (hlack▸y)
     .exact lrz () y
    have Rb:∀x∈(rs.map λy=>(lack*y).fdiv dj),Bt 17825 x:=λx hx=>by
     obtain⟨k,hk⟩:=Xq hx;rw[<-bA hk,eR];exact bR k
    have nzq:∀i,nz (qs.map λy=>lack*y) i=lack*nz qs i:=λi=>by
     cases ek:qs[i]? with
     | none =>
      have l:=List.getElem?_eq_none_iff.mp ek;rw[a7 l,a7 (by rw[Yb];exact l),YD]
     | some y=>rw[bA ek,bA (n:=lack*y) (by rw[Yd,ek];rfl)]
    have ig:∀k,c^(δ+1)*nz Fs k=pz (nz (qs.map λy=>lack*y)) (nz Gs) (qs.map λy=>lack*y).length k+dj*nz (rs.map λy=>(lack*y).fdiv dj) k:=λk=>by
     rw[show nz (qs.map λy=>lack*y)=λi=>lack*nz qs i from funext nzq,Yb,lq2,IZ k,eR,hR k]
    rw[Yb,Y0] at h9;have hq10:=S10 _ _ h9;have nt8:d8≠t:=(aj ((S47) _ _ (S4 _ _ ht3)) hd8).symm;refine key d6 _ (tv++[.ref p10]) (rows++[(rs.map λy=>(lack*y).fdiv dj,qs.map λy=>lack*y,dj,c^(δ+1))]) H11 _ _ (λy o e=>B11 _ _ (aj e nt) ((S3.trans (S4.trans S410)) _ _ e)) h11 (B11 _ _ nra ((S4.trans S410) _ _ hG)) (B11 _ _ nt6.symm hd7) nt6.symm (by rw[lRs];exact lr) (by rw[lRs,Yt];simp;nofun) eR ⟨by rw[lRs];nofun,Rb,λ_=>Rl0⟩ (λr' z=>?_) ⟨by simp[rt.1],λk row e=>?_⟩ (λrow iH=>?_)
    .rw[YS];exact gc _ (.more g0 (iG.2.2 g0) (Xp c0) top0 R0 Rl0 (by rw[lRs];exact lr) (by rw[Yb];nofun) ig z)
    .by_cases hk:k<rows.length
     .rw[YA hk] at e;obtain⟨p,ra',qa',a1,a2,a3,a4,a5,a6⟩:=rt.2 k row e;have S3z:=S4.trans S410;exact⟨p,ra',qa',by rw[YA (by rw[rt.1];exact hk)];exact a1,B11 _ _ (λz=>by rw[z,ht3] at a2;cases a2) (S3z _ _ a2),B11 _ _ a5 (S3z _ _ a3),B11 _ _ a6 (S3z _ _ a4),a5,a6⟩
     .have hk2:k=rows.length:=by
       have:=(List.getElem?_eq_some_iff.mp e).1;simp at this;nofun
      subst hk2;rw[Yx (),Xo] at e;cases e;exact⟨p10,d6,d8,by rw[Yx (by rw[rt.1];nofun),rt.1,Xo];rfl,B11 _ _ nt10 h10,B11 _ _ nt6.symm hd7,B11 _ _ nt8 hq10,nt6.symm,nt8⟩
    .rcases List.mem_append.mp iH with z|z
     .exact rwb row z
     .cases List.mem_singleton.mp z;refine⟨by rw[lRs];nofun,λx hx=>(Rb x hx).mono ∅,btop,bgam,by rw[Yb];nofun,by rw[Yb];nofun,λx hx=>?_⟩
      obtain⟨y,hy,rfl⟩:=List.mem_map.mp hx;exact (black.mul (bq y hy)).mono ∅
   .have r1:rs=[]:=by
     cases rs with
     | nil=>rfl
     | cons _ _=>exact absurd rfl hc2
    subst r1;refine key rb [] tv rows H4 _ _ (S3.trans S4) (S4 _ _ ht3) (S4 _ _ hG) hrb nt4.symm (by simp;nofun) (by simp;nofun) (λk=>?_) ⟨by simp,by simp,λz=>absurd rfl z⟩ (λr' z=>?_) (rt.same S4) rwb
    .have:=hR k;rw[show nz [] k=0 from a7 (by simp),YD] at this
     rcases Int.mul_eq_zero.mp this.symm with z|z
     .exact absurd z top0
     .rw[show nz [] k=0 from a7 (by simp),z]
    .have er:r'=[]:=by
      cases z with
      | nought=>rfl
      | last h _ _ _ _=>exact absurd rfl h
      | more h _ _ _ _ _ _ _ _ _=>exact absurd rfl h
     subst er;refine gc _ (.last g0 (iG.2.2 g0) S0 (Q:=qs) () λk=>?_);rw[ev k,show nz [] k=0 from a7 (by simp)]
     nofun
  .have g1:Gs=[]:=by
    cases Gs with
    | nil=>rfl
    | cons _ _=>exact absurd rfl hc
   subst g1;symm
   have:=gc [] .nought;rw[Xi] at this;exact h t H3 tv rows S3 ht3 rt this (by rw[<-rt.1];nofun) rwb
def gi(K:W.Frag):Sp:=λvs H Q _=>∃(a:Addr)(ns:List Int),vs=[.ref a]/\vw K H a=some (.lst (ns.map V.int))/\ns.length<=9/\(∀x∈ns,Bt 200 x) /\
 ∀d H' (ms:List Int),az (vw K H) (vw K H')->vw K H' d=some (.lst (ms.map V.int))->vw K H d=none->ms.length=ns.length-1->(∀k,nz ms k=((k+1:Nat):Int)*nz ns (k+1))->(∀x∈ms,Bt 220 x)->Q (.ref d) H'
theorem nZ(F:dA K "wholes_slope" "wholes_slope" gK f fd) (T:fh K mg):a9 P w K mg base dC 1 f fd ["wholes"] (gi K):=by
 have scN:=jn.nd;refine F.okQ jn (λvs H Q E h=>?_) (λcdv A outer s H vs Q E hr h=>?_)
 .obtain⟨a,_,rfl,_⟩:=h;rfl
 .obtain⟨a,ns,rfl,ha,lf,hf,h⟩:=h;refine⟨_,(ah (aB (eO (own:=["k"]) (outs:=["wholes"]) (ixs:=[0]) rfl (rP rfl T.b_range (aa af (aa (aw aQ (by rfl) T.b_len bK (aa (qv 0) ae)) ae))) rfl ⟨rfl,rfl,rfl,⟨rfl,trivial⟩,rfl,⟨⟨rfl,rfl,rfl,_,rfl⟩,trivial⟩⟩ (λ_ _ _ _=>⟨(av (i:=0) (show (["k", "wholes"]:List Str).Nodup by decide +kernel) rfl (·)),gh,(aq (show fk _ _ (i8 K) from aS) (qv 0) (ay (show wl _ (vQ K) from cO) (qv 1) (qv 0) (λ_ _=>rfl)))⟩)))),?_⟩
  walk_at"m";symm
  refine⟨ns.length,by simp only[fA,ha,Yb],(),(),(),(),λd H1 hd S1 h1=>?_⟩
  rw[show ((ns.length:Int)-1).toNat=ns.length-1 by nofun]
  refine bZ (its:=gJ 1 (ns.length-1)) (λi zs H'=>az (vw K H) (vw K H') /\ ∃ms:List Int,ms.length=i/\zs=ms.map V.int/\(∀x∈ms,Bt 220 x) /\ ∀(j:Nat)(x:Int),ms[j]? = some x->x=((j+1:Nat):Int)*nz ns (j+1))
   (λ_ _ _ _ _ _=>bT) h1 ⟨S1,[],rfl,rfl,by simp,by simp⟩ (λi x zs H2 hi hx h2 p=>?_) (λzs H2 h2 p=>?_)
  .obtain⟨S2,ms,lv,rfl,bv,hv⟩:=p;obtain⟨hi',rfl⟩:=gB hx;rw[show (1:Int)+(i:Int)=((i+1:Nat):Int) by nofun]
   have hi2:i+1<ns.length:=();have bi:Bt 5 ((i+1:Nat):Int):=by
    show (((i+1:Nat):Int)).natAbs<2^5;nofun
   have bn:=hf ns[i+1] (Yo hi2);symm
   refine⟨_,S2 _ _ ha,V.int ns[i+1],bB (by rw[Yd,Ya hi2];rfl),?_⟩
   rw[dF];refine⟨bV bi bn ∅,.mk h2 ?_ λH5 B5 h5=>⟨λb o e=>B5 _ _ (aj e hd) (S2 _ _ e),ms++[((i+1:Nat):Int)*ns[i+1]],by simp[lv],by simp,λq hq=>?_,λj q e=>?_⟩⟩
   .rw[Yb,lv];have:1000<=sizeLine:=∅;nofun
   .rcases List.mem_append.mp hq with z|z
    .exact bv q z
    .cases List.mem_singleton.mp z;exact (bi.mul bn).mono ∅
   .by_cases hj:j<ms.length
    .rw[YA hj] at e;exact hv j q e
    .have hj2:j=i:=by
      have:=(List.getElem?_eq_some_iff.mp e).1;simp at this;nofun
     subst hj2;rw[Yx (),lv,Xo] at e;cases e;rw[bA (Ya hi2)]
  .obtain⟨S2,ms,lv,rfl,bv,hv⟩:=p;rw[dk] at lv;refine h d H2 ms S2 h2 hd lv (λk=>?_) bv;by_cases hk:k<ms.length
   .rw[bA (Ya hk)];exact hv k _ (Ya hk)
   .rw[a7 (),a7 (),YD]
def eZ(K:W.Frag):Sp:=λvs H Q _=>∃(a:Addr)(ns:List Int)(t b:Int)(W B:Nat),vs=[.ref a,.int t,.int b]/\vw K H a=some (.lst (ns.map V.int))/\ns.length<=40/\W<=1000000/\B<=10000/\(∀n∈ns,Bt W n)/\b≠0/\Bt B t/\Bt B b /\
 ∀p H' (u s:Int),az (vw K H) (vw K H')->vw K H' p=some (.tup [.int u,.int s])->s≠0->(0<b->0<s)->(u:Rat)/(s:Rat)=ig ns ((t:Rat)/(b:Rat))->Bt (1+ns.length*B) s->Bt (W+1+ns.length*(B+2)) u->Q (.ref p) H'
theorem tF(F:dA K "wholes_at" "wholes_at" jG f fd) (T:fh K mg):a9 P w K mg base dC 1 f fd ["wholes", "top", "bottom"] (eZ K):=by
 have scN:=kT.nd;refine F.okQ kT (λvs H Q E h=>?_) (λcdv A outer s H vs Q E hr h=>?_)
 .obtain⟨a,_,_,_,_,_,rfl,_⟩:=h;rfl
 .obtain⟨a,ns,t,b,W,B,rfl,ha,ln,hW,hB,bn,nb,bt,bb,h⟩:=h;refine⟨_,(ag (eD (aE (aa af (aa af ae))) (cR (n:=2) rfl (aC (av (i:=3) scN rfl (·)) (aC (av (i:=4) scN rfl (·)) cS))))
   (ag (cL PassesOwn.never rfl (HJ rfl T.b_reversed (aa (qv 0) ae)) (av (i:=5) scN rfl (·)) (ag (jE (i:=4) scN rfl (·) (qv 2) oj)
   (ah (ax (i:=3) scN rfl (·) (aq aV (aq aS (qv 3) (qv 1)) (aq aS (qv 5) (qv 4)))))))
   (ah (aB (aE (aa (qv 3) (aa (qv 4) ae))))))),?_⟩
  walk_at"m";symm
  refine⟨∅,λp0 H0 hp0 S0 h0=>⟨p0,rfl,_,h0,rfl,?_⟩⟩;symm
  simp only[IY];symm
  replace h:=λp H' u s (S:az (vw K H0) (vw K H'))=>h p H' u s (S0.trans S);replace ha:=S0 _ _ ha;clear S0 hp0 h0;refine⟨_,ha,?_⟩;have hLB:∀i,i<=ns.length->i*B<=400000/\i*(B+2)<=400080:=λi hi=>⟨Yz (Y6 (Yz hi ln) hB) ∅,Yz (Y6 (Yz hi ln) (show B+2<=10002 by nofun)) ∅⟩
  obtain⟨Pv,hPv⟩ : ∃Pv:Nat->St->Hp->Prop,∀j σ H',Pv j σ H'↔H'=H0 /\ ∃(u s:Int)(y:Option V),σ=[some (.ref a),some (.int t),some (.int b),some (.int u),some (.int s),y]/\s≠0/\(0<b->0<s)/\(u:Rat)/(s:Rat)=ig (ns.drop (ns.length-j)) ((t:Rat)/(b:Rat))/\Bt (1+j*B) s/\Bt (W+1+j*(B+2)) u:=⟨_,λ_ _ _=>Xn⟩;refine aZ (its:=(ns.map V.int).reverse) Pv (λj σ H' _ p=>?_) ((hPv _ _ _).mpr ⟨rfl,0,1,_,rfl,∅,λ_=>by decide,?_,?_,?_⟩) (λj x σ H1 hj hx pv=>?_) (λσ H1 pv=>?_)
  .obtain⟨rfl,_⟩:=(hPv _ _ _).mp p;exact Ag ha
  .rw[Nat.sub_zero,List.drop_length];show ((0:Int):Rat)/((1:Int):Rat)=0;have e0:((0:Int):Rat)=0:=rfl;rw[e0];grind
  .rw[Nat.zero_mul];decide
  .exact (show Bt 0 0 by decide).mono ()
  .obtain⟨rfl,u,s,y,rfl,s0,sp,hv,bs,bu⟩:=(hPv _ _ _).mp pv;simp only[Xz,Yb] at hj;rw[List.getElem?_reverse (by rw[Yb];exact hj),Yb,Yd,Ya (show ns.length-1-j<ns.length by nofun)] at hx
   cases hx;have bw:=bn _ (Yo (show ns.length-1-j<ns.length by nofun))
   have hd:=zL hj;generalize ns[ns.length-1-j]'()=w at bw hd;obtain⟨q1,q2⟩:=hLB j ();have hjb:j*(B+2)=j*B+j*2:=Nat.mul_add j B 2;symm
   refine⟨bV bs bb (),?_⟩;have bs':=bs.mul bb;symm
   refine⟨bV bu bt (),bV bw bs' (),?_⟩;refine (hPv _ _ _).mpr ⟨rfl,_,_,_,rfl,YH s0 nb,λhb0=>XV (sp hb0) hb0,?_,bs'.mono (by rw[XM];nofun),((bu.mul bt).add (bw.mul bs')).mono (by rw[XM];nofun)⟩
   rw[hd];show _=(w:Rat)+_*ig (ns.drop (ns.length-j)) _;rw[<-hv];have c1:=aG s0;have c2:=aG nb;simp only[Y9,Ye];grind
  .obtain⟨rfl,u,s,y,rfl,s0,sp,hv,bs,bu⟩:=(hPv _ _ _).mp pv;simp only[Xz,Yb,Xo,List.drop_zero] at hv bs bu;symm
   exact⟨∅,λp5 H5 hp5 S5 h5=>h p5 H5 u s S5 h5 s0 sp hv bs bu⟩
def bY(K:W.Frag):Sp:=λvs H Q _=>∃(a:Addr)(xs:List V),vs=[.ref a]/\vw K H a=some (.lst xs)/\xs≠[] /\ ∀H',az (vw K H) (vw K H')->Q .non H'
theorem mG(F:dA K "refuse_nought" "refuse_nought" dY f fd) (T:fh K mg):a9 P w K mg base dC 1 f fd ["f"] (bY K):=by
 have scN:=dL.nd;refine F.okQ dL (λvs H Q E h=>?_) (λcdv A outer s H vs Q E hr h=>?_)
 .obtain⟨_,_,rfl,_⟩:=h;rfl
 .obtain⟨a,xs,rfl,ha,x0,h⟩:=h;refine⟨_,(ah (bC (cE (dE (qv 0) (λ_=>rfl))) (ah vi) aP)),?_⟩;walk_at"m";symm
  refine⟨_,i7 ha,?_⟩;exact iZ (by cases xs with|nil=>exact absurd rfl x0|cons _ _=>simp) (h H (az.refl _))
def cI(C:Addr)(K:W.Frag):Sp:=λvs H _ E=>∃(a:Addr),vs=[.ref a]/\vw K H a=some (.lst []) /\ ∀H',az (vw K H) (vw K H')->E (.ref C) none H'
theorem lj{C:Addr}(F:dA K "refuse_nought" "refuse_nought" dY f fd) (T:fh K mg)(zx_NoPolynomial:uk K C)(hgx_NoPolynomial:mg "NoPolynomial" = some (.ref C)):a9 P w K mg base (mw P w) 1 f fd ["f"] (cI C K):=by
 have scN:=dL.nd;refine F.okX dL (λvs H Q E h=>?_) (λcdv A outer s H vs Q E hr h=>?_)
 .obtain⟨_,rfl,_⟩:=h;rfl
 .obtain⟨a,rfl,ha,h⟩:=h;refine⟨_,(ah (bC (cE (dE (qv 0) (λ_=>rfl))) (ah (Db zx_NoPolynomial rfl hgx_NoPolynomial (aa fe ae))) aP)),?_⟩;walk_at"m";symm
  refine⟨_,i7 ha,?_⟩;refine m4 rfl ?_;simp only[w5];symm
  exact⟨∅,h H (az.refl _)⟩
def dB(K:W.Frag):Sp:=λvs H Q _=>∃n:Int,vs=[.int n]/\Q (.int n.sign) H
theorem xx(F:dA K "sign_of" "sign_of" mZ f fd) (T:fh K mg):a9 P w K mg base dC 1 f fd ["whole"] (dB K):=by
 have scN:=pP.nd;refine F.okQ pP (λvs H Q E h=>?_) (λcdv A outer s H vs Q E hr h=>?_)
 .obtain⟨_,rfl,_⟩:=h;rfl
 .obtain⟨n,rfl,h⟩:=h;refine⟨_,(ag (bC (aF gF (qv 0) af (aK _)) (ah (aB af)) aP)
   (ah (aB (eX (aF kr (qv 0) af (aK _)) af (eJ cT af))))),?_⟩
  walk_at"m";refine aR.gen λN1 hN1=>?_;symm
  refine be (λz=>?_) (λz=>hN1 _ _ ?_)
  .rw[z] at h;exact h
  .symm
   refine be (λy=>?_) (λy=>?_)
   .rwa [Int.sign_eq_one_of_pos y] at h
   .rwa [Int.sign_eq_neg_one_of_neg ()] at h
def jN(G:Hp)(t:Addr)(Fs:List (List Int)):Prop:=∃xs,G t=some (.lst xs)/\xs.length=Fs.length /\ ∀(k:Nat) F,Fs[k]? = some F -> ∃l:Addr,xs[k]? = some (.ref l)/\l≠t/\G l=some (.lst (F.map V.int))
theorem jN.same{G G':Hp}{t:Addr}{Fs:List (List Int)}(h:jN G t Fs)(S:az G G'):jN G' t Fs:=by
 obtain⟨xs,a,b,c⟩:=h;refine⟨xs,S _ _ a,b,λk F e=>?_⟩;obtain⟨l,e1,e2,e3⟩:=c k F e;exact⟨l,e1,e2,S _ _ e3⟩
theorem jN.snoc{G G':Hp}{t l:Addr}{xs:List V}{Fs:List (List Int)}{F:List Int}(h:jN G t Fs)(hx:G t=some (.lst xs))(B:eN t G G')(nl:l≠t)(hl:G l=some (.lst (F.map V.int)))(e:G' t=some (.lst (xs++[.ref l]))):jN G' t (Fs++[F]):=by
 obtain⟨ys,a,b,c⟩:=h;rw[hx] at a;cases a;refine⟨_,e,by simp[b],λk F' ek=>?_⟩
 by_cases hk:k<Fs.length
 .rw[YA hk] at ek;obtain⟨m,e1,e2,e3⟩:=c k F' ek;exact⟨m,by rw[YA ()];exact e1,e2,B _ _ e2 e3⟩
 .have hk2:k=Fs.length:=by
   have:=(List.getElem?_eq_some_iff.mp ek).1;simp at this;nofun
  subst hk2;rw[Yx (),Xo] at ek;cases ek;exact⟨l,by rw[Yx (),b,Xo];rfl,nl,B _ _ nl hl⟩
def gQ(K:W.Frag):Sp:=λvs H Q _=>∃(a:Addr)(ss:List Int),vs=[.ref a]/\vw K H a=some (.lst (ss.map V.int))/\Q (.int ((chg 0 ss:Nat):Int)) H
theorem wE(F:dA K "changes" "changes" my f fd) (T:fh K mg):a9 P w K mg base dC 1 f fd ["signs"] (gQ K):=by
 have scN:=pU.nd;refine F.okQ pU (λvs H Q E h=>?_) (λcdv A outer s H vs Q E hr h=>?_)
 .obtain⟨_,_,rfl,_⟩:=h;rfl
 .obtain⟨a,ss,rfl,ha,h⟩:=h;refine⟨_,(ag (ax (i:=1) scN rfl (·) af)
   (ag (ax (i:=2) scN rfl (·) af)
   (ag (cL PassesOwn.never rfl (ci (qv 0)) (av (i:=3) scN rfl (·)) (ah (bC (aF ie (qv 3) af (aK _)) (ag (bC (aF gF (qv 3) (eJ cT (qv 2)) (aK _)) (ah (jE (i:=1) scN rfl (·) af Hk)) aP)
   (ah (ax (i:=2) scN rfl (·) (qv 3)))) aP)))
   (ah (aB (qv 1)))))),?_⟩
  walk_at"m";refine aR.gen λN1 hN1=>?_;symm
  refine hN1 _ _ ?_;refine aR.gen λN2 hN2=>?_;symm
  refine hN2 _ _ ?_;refine aR.gen λN3 hN3=>?_;symm
  refine⟨⟨_,.of (aM ha)⟩,?_⟩;obtain⟨Pv,hPv⟩ : ∃Pv:Nat->St->Hp->Prop,∀i σ H',Pv i σ H'↔H'=H /\ ∃(n:Nat)(l:Int)(o:Option V),σ=[some (.ref a),some (.int n),some (.int l),o]/\n+chg l (ss.drop i)=chg 0 ss:=⟨_,λ_ _ _=>Xn⟩;refine aZ (its:=ss.map V.int) Pv (λi σ H' _ p=>?_) ((hPv _ _ _).mpr ⟨rfl,0,0,_,rfl,by rw[List.drop_zero];nofun⟩) (λi y σ H1 hi hy pv=>?_) (λσ H1 pv=>?_)
  .obtain⟨rfl,_⟩:=(hPv _ _ _).mp p;exact aX ha
  .obtain⟨rfl,n,l,o,rfl,e⟩:=(hPv _ _ _).mp pv;rw[Yb] at hi;rw[Yd,Ya hi] at hy;cases hy;rw[Xl hi] at e;symm
   refine be (λz=>?_) (λz=>(hPv _ _ _).mpr ⟨rfl,n,l,_,rfl,?_⟩)
   .rw[qg z] at e;refine be (λy=>?_) (λy=>?_)
    .rw[Yh y] at e;exact⟨_,_,rfl,rfl,(hPv (i+1) _ _).mpr ⟨rfl,n+1,ss[i],_,rfl,()⟩⟩
    .rw[Yc y] at e;exact (hPv (i+1) _ _).mpr ⟨rfl,n,ss[i],_,rfl,()⟩
   .have z:ss[i]=0:=Classical.not_not.mp z;rw[z,yC] at e;exact e
  .obtain⟨rfl,n,l,o,rfl,e⟩:=(hPv _ _ _).mp pv;rw[Yb,List.drop_length] at e;have e:n+0=chg 0 ss:=e;refine hN3 _ _ ?_;symm
   rw[<-e] at h;exact h
theorem zt{u s:Int}{y:Rat}(s0:0<s)(e:(u:Rat)/(s:Rat)=y):u.sign=sg y:=by
 have c:=aG (show s≠0 by nofun)
 have sp:(0:Rat)<(s:Rat):=Rat.intCast_pos.mpr s0;have e:(u:Rat)=y*(s:Rat):=⋯;rcases Int.lt_trichotomy u 0 with z|z|z
 .rw[Int.sign_eq_neg_one_of_neg z,dN];have:(u:Rat)<((0:Int):Rat):=Rat.intCast_lt_intCast.mpr z;refine Rat.not_le.mp λw=>?_;have:=Yk w (Yl sp);have c0:((0:Int):Rat)=0:=rfl;grind
 .rw[z];refine (fD.mpr ?_).symm;have c0:((0:Int):Rat)=0:=rfl;rw[z,c0] at e;rcases Rat.mul_eq_zero.mp e.symm with w|w
  .exact w
  .exact absurd w c
 .rw[Int.sign_eq_one_of_pos z,cn];have:(0:Rat)<(u:Rat):=Rat.intCast_pos.mpr z;refine Rat.not_le.mp λw=>?_;have:=Yk (show 0 <= -y by grind) (Yl sp)
  grind
def JL(B:Nat)(hs:List (List Int)):Prop:=hs.length<=12 /\ ∀F∈hs,F≠[]/\F.length<=20 /\ ∀x∈F,Bt B x
def gX(K:W.Frag):Sp:=λvs H Q _=>∃(a:Addr)(hs:List (List Int))(t b:Int),vs=[.ref a,.int t,.int b]/\jN (vw K H) a hs/\JL 600000 hs/\0<b/\Bt 9000 t/\Bt 9000 b /\
 ∀d H',az (vw K H) (vw K H')->vw K H d=none->vw K H' d=some (.lst ((iS ((t:Rat)/(b:Rat)) (hs.map aN)).map V.int))->Q (.ref d) H'
theorem vU(F:dA K "signs_of" "signs_of" kF f fd) (T:fh K mg)(C_sign_of:cy P w K mg base "sign_of" ["whole"] 1 (dB K)) (C_wholes_at:cy P w K mg base "wholes_at" ["wholes", "top", "bottom"] 1 (eZ K)):a9 P w K mg base dC 2 f fd ["lists", "top", "bottom"] (gX K):=by
 have scN:=nN.nd;refine F.okQ nN (λvs H Q E h=>?_) (λcdv A outer s H vs Q E hr h=>?_)
 .obtain⟨_,_,_,_,rfl,_⟩:=h;rfl
 .obtain⟨a,hs,t,b,rfl,ha,lb,b0,bt,bb,h⟩:=h;refine⟨_,(ah (aB (eO (own:=["one"]) (outs:=["top", "bottom"]) (ixs:=[1,2]) rfl (ci (qv 0)) rfl ⟨rfl,rfl,rfl,⟨rfl,⟨rfl,trivial⟩⟩,rfl,⟨⟨rfl,rfl,rfl,_,rfl⟩,⟨⟨rfl,rfl,rfl,_,rfl⟩,trivial⟩⟩⟩ (λ_ _ _ _=>⟨(av (i:=0) (show (["one", "top", "bottom"]:List Str).Nodup by decide +kernel) rfl (·)),gh,(ao C_sign_of nofun rfl (aa (ay (show wl _ (Bl K) from a8) (ao C_wholes_at nofun rfl (aa (qv 0) (aa (qv 1) (aa (qv 2) ae)))) af (λ_ _=>rfl)) ae))⟩)))),?_⟩
  walk_at"m";obtain⟨xs,hxs,lxs,cxs⟩:=id ha;symm
  refine⟨⟨_,.of (aM hxs)⟩,λd H2 hd S2 h2=>?_⟩;refine bZ (its:=xs) (λj zs H'=>az (vw K H) (vw K H')/\zs=(iS ((t:Rat)/(b:Rat)) ((hs.take j).map aN)).map V.int) (λj zs H' _ _ z=>aX (z.1 _ _ hxs)) h2 ⟨S2,rfl⟩ (λj x zs H' hj hx h' z=>?_) (λzs H3 h3 z=>?_)
  .obtain⟨z1,rfl⟩:=z;have hj':j<hs.length:=();obtain⟨l,e1,_,e3⟩:=cxs j _ (Ya hj');rw[hx] at e1;cases e1;obtain⟨f0,fl,fb⟩:=lb.2 _ (Yo hj');symm
   simp only[eZ,dB];refine⟨l,_,t,b,600000,9000,rfl,z1 _ _ e3,(),∅,∅,fb,(),bt,bb,λp H4 u s S4 h4 s0 sp ev _ _=>⟨p,rfl,_,h4,_,cZ,u,rfl,?_⟩⟩;refine .mk (S4 _ _ h') ?_ λH8 B8 h8=>⟨λy o e=>B8 _ _ (aj e hd) (S4 _ _ (z1 _ _ e)),?_⟩
   .have:=lb.1;have:1000<=sizeLine:=∅;simp[iS];nofun
   .rw[zt (sp b0) ev,<-jw fl,Yw,Ya hj',Yp];unfold iS;rw[Yp,Yp];rfl
  .obtain⟨z1,rfl⟩:=z;refine h d H3 z1 hd ?_;rw[h3,lxs,Y0]
def gC(K:W.Frag):Sp:=λvs H Q _=>∃(a:Addr)(hs:List (List Int))(side:Int),vs=[.ref a,.int side]/\jN (vw K H) a hs/\JL 600000 hs/\tx side /\
 ∀d H',az (vw K H) (vw K H')->vw K H' d=some (.lst ((hs.map (cx side)).map V.int))->Q (.ref d) H'
theorem t9(F:dA K "signs_far" "signs_far" jt f fd) (T:fh K mg)(C_sign_of:cy P w K mg base "sign_of" ["whole"] 1 (dB K)):a9 P w K mg base dC 2 f fd ["lists", "side"] (gC K):=by
 have scN:=kZ.nd;refine F.okQ kZ (λvs H Q E h=>?_) (λcdv A outer s H vs Q E hr h=>?_)
 .obtain⟨_,_,_,rfl,_⟩:=h;rfl
 .obtain⟨a,hs,side,rfl,ha,lb,ps,h⟩:=h;refine⟨_,(ah (aB (eO (own:=["one"]) (outs:=["side"]) (ixs:=[1]) rfl (ci (qv 0)) rfl ⟨rfl,rfl,rfl,⟨rfl,trivial⟩,rfl,⟨⟨rfl,rfl,rfl,_,rfl⟩,trivial⟩⟩ (λ_ _ _ _=>⟨(av (i:=0) (show (["one", "side"]:List Str).Nodup by decide +kernel) rfl (·)),gh,(eX (show QT _ _ (F4 K _) from dE (aq Ez (aw (show dM _ _ (λxs H Q=>∃p,xs=[V.ref p] /\ ∃n:Nat,fA (vw K H) p=some n/\Q (V.int n) H) from aQ) (by rfl) T.b_len bK (aa (qv 0) ae)) af) (λ_=>rfl)) (ao C_sign_of nofun rfl (aa (ay (show wl _ (vQ K) from cO) (qv 0) (eJ cT af) (λ_ _=>rfl)) ae)) (aq (show fk _ _ (i8 K) from aS) (qv 1) (ao C_sign_of nofun rfl (aa (ay (show wl _ (vQ K) from cO) (qv 0) (eJ cT af) (λ_ _=>rfl)) ae))))⟩)))),?_⟩
  walk_at"m";obtain⟨xs,hxs,lxs,cxs⟩:=id ha;symm
  refine⟨⟨_,.of (aM hxs)⟩,λd H2 hd S2 h2=>?_⟩;refine bZ (its:=xs) (λj zs H'=>az (vw K H) (vw K H')/\zs=((hs.take j).map (cx side)).map V.int) (λj zs H' _ _ z=>aX (z.1 _ _ hxs)) h2 ⟨S2,rfl⟩ (λj x zs H' hj hx h' z=>?_) (λzs H3 h3 z=>?_)
  .obtain⟨z1,rfl⟩:=z;have hj':j<hs.length:=();obtain⟨l,e1,_,e3⟩:=cxs j _ (Ya hj');rw[hx] at e1;cases e1;obtain⟨f0,fl,fb⟩:=lb.2 _ (Yo hj');symm
   simp only[F4];symm
   have e3':=z1 _ _ e3;have fp:=List.length_pos_iff.mpr f0;have xl:(hs[j].map V.int).getLast? = some (.int (nz hs[j] (hs[j].length-1))):=by
    rw[Yy,Yb,Yd,Ya (show hs[j].length-1<hs[j].length by nofun),bA (Ya (show hs[j].length-1<hs[j].length by nofun))]
    rfl
   have fin:Iu K d (CN K d [some (V.int side)] (λzs H'=>az (vw K H) (vw K H')/\zs=List.map V.int (List.map (cx side) (List.take (j+1) hs))) [some (V.ref l),some (V.int side)]) (.int (cx side hs[j])) H':=by
    refine .mk h' ?_ λH8 B8 h8=>⟨λy o e=>B8 _ _ (aj e hd) (z1 _ _ e),?_⟩
    .have:=lb.1;have:1000<=sizeLine:=∅;simp;nofun
    .rw[Yw,Ya hj',Yp,Yp];rfl
   refine⟨hs[j].length,by simp only[fA,e3',Yb],(),be (λz=>⟨_,e3',_,iV xl,_,rfl,?_⟩) (λz=>⟨_,e3',_,iV xl,_,rfl,?_⟩)⟩
   .have o:hs[j].length%2=1:=by
     have:((hs[j].length:Nat):Int)%2≠0:=by simpa using z
     nofun
    have e:cx side hs[j]=(nz hs[j] (hs[j].length-1)).sign:=Yh o;rw[e] at fin;exact fin
   .have o:¬ hs[j].length%2=1:=λy=>by
     have:((hs[j].length:Nat):Int)%2=0:=by simpa using z
     nofun
    have e:cx side hs[j]=side*(nz hs[j] (hs[j].length-1)).sign:=Yc o;rw[e] at fin;show i8 K (V.int side) (V.int _) H' _;rw[dF];refine⟨bV (m:=2) (n:=2) ?_ ?_ ∅,fin⟩
    .rcases ps with y|y<;>rw[y]<;>decide
    .rcases Int.lt_trichotomy (nz hs[j] (hs[j].length-1)) 0 with y|y|y
     .rw[Int.sign_eq_neg_one_of_neg y];decide
     .rw[y];decide
     .rw[Int.sign_eq_one_of_pos y];decide
  .obtain⟨z1,rfl⟩:=z;refine h d H3 z1 ?_;rw[h3,lxs,Y0]
def f9(K:W.Frag):Sp:=λvs H Q _=>∃(a b:Addr)(ms ns:List Int),vs=[.ref a,.ref b]/\vw K H a=some (.lst (ms.map V.int))/\vw K H b=some (.lst (ns.map V.int))/\ms≠[]/\ns.length<=ms.length/\iI 1110 ms/\iI 1110 ns /\
 ∀(d:Addr)(H':Hp) rows,az (vw K H) (vw K H')->jN (vw K H') d (mq ms ns rows)->pQ ms ns rows->rows.length<=9->(∀row∈rows,row.1.length<=9 /\ ∀x∈row.1,Bt 17840 x)->Q (.ref d) H'
theorem nV(F:dA K "signed_chain" "signed_chain" gH f fd) (T:fh K mg)(C_wholes_rests:cy P w K mg base "wholes_rests" ["one", "other"] 3 (gm K)) (C_sign_of:cy P w K mg base "sign_of" ["whole"] 1 (dB K)):a9 P w K mg base dC 4 f fd ["one", "other"] (f9 K):=by
 have scN:=jo.nd;refine F.okQ jo (λvs H Q E h=>?_) (λcdv A outer s H vs Q E hr h=>?_)
 .obtain⟨_,_,_,_,rfl,_⟩:=h;rfl
 .obtain⟨a,b,ms,ns,rfl,ha,hb,m0,lmn,im,il,h⟩:=h;refine⟨_,(ag (ax (i:=2) scN rfl (·) (eX (dE (qv 1) (λ_=>rfl)) (aL (aa (qv 0) (aa (qv 1) ae))) (aL (aa (qv 0) ae))))
   (ag (FN af (av (i:=3) scN rfl (·)) (av (i:=4) scN rfl (·)))
   (ag (cL PassesOwn.never rfl (ci (ao C_wholes_rests nofun rfl (aa (qv 0) (aa (qv 1) ae)))) (cR (n:=4) rfl (aC (av (i:=5) scN rfl (·)) (aC (av (i:=6) scN rfl (·)) (aC (av (i:=7) scN rfl (·)) (aC (av (i:=8) scN rfl (·)) cS))))) (ag (eD (aE (aa (qv 4) (aa (aq aS (aq aS (eJ cT (qv 3)) (ao C_sign_of nofun rfl (aa (qv 7) ae))) (ao C_sign_of nofun rfl (aa (qv 8) ae))) ae))) (cR (n:=2) rfl (aC (av (i:=3) scN rfl (·)) (aC (av (i:=4) scN rfl (·)) cS))))
   (ah (ei (kg YJ YW YV c8 (qv 2) (aa (eO (own:=["whole"]) (outs:=["latter"]) (ixs:=[4]) rfl (ci (qv 5)) rfl ⟨rfl,rfl,rfl,⟨rfl,trivial⟩,rfl,⟨⟨rfl,rfl,rfl,_,rfl⟩,trivial⟩⟩ (λ_ _ _ _=>⟨(av (i:=0) (show (["whole", "latter"]:List Str).Nodup by decide +kernel) rfl (·)),gh,(aq (show fk _ _ (i8 K) from aS) (qv 1) (qv 0))⟩)) ae))))))
   (ah (aB (qv 2)))))),?_⟩
  walk_at"m";refine aR.gen λN1 hN1=>?_;have key:∀(t:Addr)(H1:Hp),az (vw K H) (vw K H1)->vw K H t=none->jN (vw K H1) t (mq ms ns [])->N1 [some (.ref a),some (.ref b),some (.ref t),none,none,none,none,none,none] H1:=λt H1 S1 ht l1=>hN1 _ _ ?_
  .symm
   refine⟨_,i7 hb,be (λhc=>⟨∅,λt H1 ht S1 h1=>key t H1 S1 ht ?_⟩) (λhc=>⟨∅,λt H1 ht S1 h1=>key t H1 S1 ht ?_⟩)⟩
   .have n0:ns≠[]:=λz=>by rw[z] at hc;cases hc
    unfold mq;rw[Yc n0];refine⟨_,h1,rfl,λk F e=>?_⟩;match k,e with
    | 0,e=>cases e;exact⟨a,rfl,aj ha ht,S1 _ _ ha⟩
    | 1,e=>cases e;exact⟨b,rfl,aj hb ht,S1 _ _ hb⟩
   .have n0:ns=[]:=by
     cases ns with
     | nil=>rfl
     | cons _ _=>exact absurd rfl hc
    unfold mq;rw[Yh n0];refine⟨_,h1,rfl,λk F e=>?_⟩;match k,e with
    | 0,e=>cases e;exact⟨a,rfl,aj ha ht,S1 _ _ ha⟩
  clear hN1;refine aR.gen λN2 hN2=>?_;simp only[Gx];symm
  refine hN2 _ _ ?_;refine aR.gen λN3 hN3=>?_;symm
  simp only[gm];refine⟨a,b,ms,ns,rfl,S1 _ _ ha,S1 _ _ hb,m0,lmn,im,il,λd H2 tv rows S2 h2 rr rst lrw rb=>⟨d,rfl,⟨_,.of (aM h2)⟩,?_⟩⟩;have S02:=S1.trans S2;have l2:=l1.same S2;obtain⟨ys,hys,lys,cys⟩:=id l2;have h0:(mq ms ns [])[0]? = some ms:=by
   unfold mq;split<;>rfl
  obtain⟨l0,y0,_,hz0⟩:=cys 0 ms h0;have ndt:d≠t:=λz=>by
   subst z;rw[h2] at hys;cases hys;have:0<tv.length:=(List.getElem?_eq_some_iff.mp y0).1;have hr0:0<rows.length:=by rw[<-rr.1];exact this
   obtain⟨p',_,_,q1,q2,_⟩:=rr.2 0 _ (Ya hr0);rw[q1] at y0;cases y0;rw[hz0] at q2;cases q2
  have nint:∀(l:Addr)(is:List Int),vw K H2 l=some (.lst (is.map V.int))->l≠t:=λl is e z=>by
   subst z;rw[hys] at e;cases e;rw[Yd] at y0;cases q:is[0]? with
   | none=>rw[q] at y0;cases y0
   | some _=>rw[q] at y0;cases y0
  have ntup:∀(l:Addr) us,vw K H2 l=some (.tup us)->l≠t:=λl us e z=>by
   subst z;rw[hys] at e;cases e
  obtain⟨Pv,hPv⟩ : ∃Pv:Nat->St->Hp->Prop,∀i σ H',Pv i σ H' ↔ ∃(o5 o6 o7 o8:Option V)(p q:Int)(dn:List (List Int)),σ=[some (.ref a),some (.ref b),some (.ref t),some (.int p),some (.int q),o5,o6,o7,o8]/\eN t (vw K H2) (vw K H')/\jN (vw K H') t (mq ms ns []++dn)/\tx p/\tx q/\dn.length=i/\qL 1 1 rows=dn++qL p q (rows.drop i):=⟨_,λ_ _ _=>Xn⟩;refine aZ (its:=tv) Pv (λi σ H' _ q=>?_) ((hPv _ _ _).mpr ⟨_,_,_,_,1,1,[],rfl,λ_ _ _ z=>z,by rw[Xi];exact l2,.inl rfl,.inl rfl,rfl,rfl⟩) (λi x σ H9 hi hx pv=>?_) (λσ H9 pv=>?_)
  .obtain⟨_,_,_,_,_,_,_,_,B',_⟩:=(hPv _ _ _).mp q;exact aX (B' _ _ ndt h2)
  .obtain⟨o5,o6,o7,o8,p,q,dn,rfl,B9,l9,pp,pq,ldn,esc⟩:=(hPv _ _ _).mp pv;have hir:i<rows.length:=by rw[<-rr.1];exact hi
   obtain⟨row,iH⟩ : ∃row,rows[i]? = some row:=⟨_,Ya hir⟩;obtain⟨p',ra,qa,t1,t2,t3,t4,_,_⟩:=rr.2 i row iH;rw[t1] at hx;cases hx;have hmem:=Yr iH;obtain⟨rl,rbt,_⟩:=rb row hmem;obtain⟨T0,S0,_⟩:=rst.ne row hmem;symm
   refine⟨_,B9 _ _ (ntup _ _ t2) t2,rfl,_,_,rfl,_,_,rfl,_,_,rfl,_,_,rfl,rfl,?_⟩;simp only[dB];have pb:∀{y:Int},tx y->Bt 2 y:=λh=>by rcases h with z|z<;>rw[z]<;>decide
   have sb:∀{y:Int},y≠0->tx y.sign:=λh=>by
    rcases eU h with ⟨z,_⟩|⟨z,_⟩
    .exact .inl z
    .exact .inr z
   have pn:tx (-p):=by rcases pp with z|z<;>rw[z]<;>first|exact .inl rfl|exact .inr rfl
   have pm2:∀{x y:Int},tx x->tx y->tx (x*y):=λh k=>by rcases h with z|z<;>rcases k with u|u<;>rw[z,u]<;>first|exact .inl rfl|exact .inr rfl
   have p1:=pm2 pn (sb T0);have p2:=pm2 p1 (sb S0);refine⟨_,rfl,?_⟩;rw[dF];refine⟨bV (pb pn) (pb (sb T0)) ∅,_,rfl,?_⟩;rw[dF];obtain⟨μ,hμ⟩ : ∃μ,μ = -p*row.2.2.1.sign*row.2.2.2.sign:=⟨_,rfl⟩;rw[<-hμ] at p2 ⊢;refine⟨bV (pb p1) (pb (sb S0)) ∅,∅,λu Ha hu Sa ha'=>⟨u,rfl,_,ha',rfl,_,_,rfl,_,_,rfl,rfl,?_⟩⟩;obtain⟨ws,hws,lws,cws⟩:=id l9;have hra:vw K Ha ra=some (.lst (row.1.map V.int)):=Sa _ _ (B9 _ _ (nint _ _ t3) t3);refine⟨kD (Sa _ _ hws),ra,rfl,⟨_,.of (aM hra)⟩,λd2 Hc hd2 Sc hdc=>?_⟩;refine bZ (its:=row.1.map V.int) (λj zs H'=>az (vw K Ha) (vw K H')/\zs=((row.1.take j).map λy=>μ*y).map V.int) (λj zs H' _ _ z=>aX (z.1 _ _ hra)) hdc ⟨Sc,rfl⟩ (λj y zs H' hj hy h' z=>?_) (λzs Hd hdd z=>?_)
   .obtain⟨z1,rfl⟩:=z;rw[Yb] at hj;rw[Yd,Ya hj] at hy;cases hy;symm
    refine⟨bV (pb p2) (rbt _ (Yo hj)) ∅,.mk h' ?_ λH8 B8 h8=>⟨λy o e=>B8 _ _ (aj e hd2) (z1 _ _ e),?_⟩⟩
    .rw[Yb,Yb,YC];have:1000<=sizeLine:=∅;nofun
    .rw[Yw,Ya hj,Yp,Yp];rfl
   obtain⟨Sad,rfl⟩:=z;rw[Yb,Y0] at hdd;have S9d:=Sa.trans Sad;have nd2:d2≠t:=(aj (Sa _ _ hws) hd2).symm;refine⟨ws,S9d _ _ hws,?_,λHf Bf hf=>(hPv _ _ _).mpr ⟨_,_,_,_,q,μ,dn++[row.1.map λy=>μ*y],rfl,(B9.same_trans S9d).trans Bf,?_,pq,p2,by simp[ldn],?_⟩⟩
   .have l3:(mq ms ns []).length<=2:=by
     unfold mq;split<;>simp[qL]
    rw[lws,Yt];have:1000<=sizeLine:=∅;nofun
   .rw[<-YS];exact (l9.same S9d).snoc (S9d _ _ hws) Bf nd2 hdd hf
   .rw[esc,YS];congr 1
    have ed:rows.drop i=row::rows.drop (i+1):=by
     rw[Xl hir];congr 1
     rw[Ya hir] at iH;cases iH;rfl
    rw[ed,hμ];rfl
  .obtain⟨o5,o6,o7,o8,p,q,dn,rfl,B9,l9,pp,pq,ldn,esc⟩:=(hPv _ _ _).mp pv;refine hN3 _ _ ?_;symm
   refine h t H9 rows (λy o e=>B9 _ _ (aj e ht) (S02 _ _ e)) ?_ rst lrw λrow hr=>⟨(rb row hr).1,(rb row hr).2.1⟩;have e1:rows.drop tv.length=[]:=List.drop_eq_nil_of_le (by rw[rr.1];nofun)
   rw[e1] at esc;have e2:qL 1 1 rows=dn:=by rw[esc];exact Xi _
   have e3:mq ms ns rows=mq ms ns []++dn:=by
    unfold mq;by_cases n0:ns=[]
    .rw[Yh n0,Yh n0];subst n0;have:rows=[]:=by
      cases rst with
      | nought=>rfl
      | last n=>exact absurd rfl n
      | more n=>exact absurd rfl n
     subst this;rw[<-e2];rfl
    .rw[Yc n0,Yc n0,e2];rfl
   rw[e3];exact l9
theorem AF{P:List Int}{Fs hs:List (List Int)}{F h:List Int}(p:xQ P Fs hs)(l:h.length<=9)(n:h≠[])(z:nz h (h.length-1)≠0)(e:∀k,nz F k=pz (nz h) (nz P) h.length k):xQ P (Fs++[F]) (hs++[h]):=by
 induction p with
 | nil=>exact .cons l n z e .nil
 | cons a b c d _ ih=>exact .cons a b c d ih
theorem Bn{F h P:List Int}(f0:nz F (F.length-1)≠0)(p0:0<P.length)(lh:h.length=F.length+1-P.length)(lF:P.length<=F.length)(e:∀k,nz F k=pz (nz h) (nz P) h.length k):nz h (h.length-1)≠0:=λz=>f0 (by
 have hg:∀j,P.length-1<j->ff P j=0:=λj hj=>ck P j ();have hf:∀j,h.length-1<j->ff h j=0:=λj hj=>ck h j ();have a:=nD hg hf h.length;rw[Yh (),show h.length-1+(P.length-1)=F.length-1 by nofun] at a
 have b:((nz F (F.length-1):Int):Rat)=((pz (nz h) (nz P) h.length (F.length-1):Int):Rat):=by rw[<-e]
 rw[ix] at b;have c:ff h (h.length-1)=0:=by show ((nz h (h.length-1):Int):Rat)=0;rw[z];rfl
 rw[c,Rat.zero_mul] at a;exact Rat.intCast_inj.mp (b.trans a))
theorem zX{F h P rs:List Int}(p0:nz P (P.length-1)≠0)(pl:0<P.length)(lr:rs.length<P.length)(lz1:rs.length≠0->nz rs (rs.length-1)≠0)(e:∀k,nz F k=pz (nz h) (nz P) h.length k+nz rs k)(ex:Fw F P):rs=[]:=Yu λn=>by
 obtain⟨Q,eQ⟩:=ex;have ln:=List.length_pos_iff.mpr n;have r:=vD (q:=ff Q) (q':=ff h) (g:=ff P) (r:=λ_=>0) (r':=ff rs) (n:=Q.length) (n':=h.length) (d:=P.length-1) (λj hj=>ck P j ()) (aG p0) (λ_ _=>rfl) (λk hk=>ck rs k ()) (λk=>by
  have a:((nz F k:Int):Rat)=((pz (nz Q) (nz P) Q.length k:Int):Rat):=by rw[<-eQ]
  have b:((nz F k:Int):Rat)=((pz (nz h) (nz P) h.length k+nz rs k:Int):Rat):=by rw[<-e]
  rw[ix] at a;rw[Y9,ix] at b;show pr (λi=>((nz Q i:Int):Rat)) (λi=>((nz P i:Int):Rat)) Q.length k+0=pr (λi=>((nz h i:Int):Rat)) (λi=>((nz P i:Int):Rat)) h.length k+((nz rs k:Int):Rat);grind) (rs.length-1)
 exact absurd r.symm (aG (lz1 ()))
def gr(K:W.Frag):Sp:=λvs H Q _=>∃(a:Addr)(Fs:List (List Int))(L:List Int),vs=[.ref a]/\jN (vw K H) a Fs/\Fs.getLast? = some L/\Fs.length<=12/\(∀F∈Fs,F≠[]/\F.length<=9/\nz F (F.length-1)≠0/\L.length<=F.length /\ ∀x∈F,Bt 17850 x)/\(∀(P:List Int)(g:Int),0<g->P.length=L.length->(∀k,nz L k=g*nz P k)->jJ (nz P) -> ∀F∈Fs,Fw F P) /\
 ∀(d:Addr)(H':Hp)(P:List Int)(g:Int) hs,az (vw K H) (vw K H')->jN (vw K H') d hs->0<g->P.length=L.length->(∀k,nz L k=g*nz P k)->xQ P Fs hs->JL 600000 hs->Q (.ref d) H'
theorem nU(F:dA K "parted_chain" "parted_chain" gN f fd) (T:fh K mg)(C_lowered:cy P w K mg base "lowered" ["wholes"] 2 (fG K)) (C_wholes_parted:cy P w K mg base "wholes_parted" ["one", "other"] 2 (cV K)):a9 P w K mg base dC 3 f fd ["lists"] (gr K):=by
 have scN:=jm.nd;refine F.okQ jm (λvs H Q E h=>?_) (λcdv A outer s H vs Q E hr h=>?_)
 .obtain⟨_,_,_,rfl,_⟩:=h;rfl
 .obtain⟨a,Fs,L,rfl,ha,hL,l12,hF,hX,h⟩:=h;refine⟨_,(ag (ax (i:=1) scN rfl (·) (ao C_lowered nofun rfl (aa (ay cO (qv 0) (eJ cT af) (λ_ _=>rfl)) ae)))
   (ah (aB (eO (own:=["one"]) (outs:=["last"]) (ixs:=[1]) rfl (ci (qv 0)) rfl ⟨rfl,rfl,rfl,⟨rfl,trivial⟩,rfl,⟨⟨rfl,rfl,rfl,_,rfl⟩,trivial⟩⟩ (λ_ _ _ _=>⟨(av (i:=0) (show (["one", "last"]:List Str).Nodup by decide +kernel) rfl (·)),gh,(ay (show wl _ (Bl K) from a8) (ao C_wholes_parted nofun rfl (aa (qv 0) (aa (qv 1) ae))) af (λ_ _=>rfl))⟩))))),?_⟩
  walk_at"m";obtain⟨xs,hxs,lxs,cxs⟩:=id ha;have lm:=List.mem_of_getLast? hL;obtain⟨L0,L9,Lz,_,Lb⟩:=hF L lm;have fp:0<Fs.length:=List.length_pos_of_mem lm;have eL:Fs[Fs.length-1]? = some L:=by rw[<-Yy];exact hL
  obtain⟨la,e1,_,e3⟩:=cxs _ L eL;have xl:xs.getLast? = some (.ref la):=by rw[Yy,lxs];exact e1
  refine aR.gen λN1 hN1=>?_;symm
  simp only[fG];refine⟨xs,hxs,_,iV xl,la,L,17850,rfl,e3,(),∅,Lb,λ_=>Lz,λp H1 P g S1 hp np lP g0 hg prm bP=>hN1 _ _ ?_⟩;symm
  refine⟨⟨_,.of (aM (S1 _ _ hxs))⟩,λd H2 hd S2 h2=>?_⟩;have L0':=List.length_pos_iff.mpr L0;have Pz:nz P (P.length-1)≠0:=λz=>Lz (by rw[hg,<-lP,z,YD])
  have exq:=hX P g g0 lP hg (prm L0);refine bZ (its:=xs) (λj zs H'=>az (vw K H1) (vw K H') /\ ∃hs,jN (vw K H') d hs/\xQ P (Fs.take j) hs/\hs.length=j /\ ∀F∈hs,F≠[]/\F.length<=20 /\ ∀x∈F,Bt 600000 x) (λj zs H' _ _ z=>aX (z.1 _ _ (S1 _ _ hxs))) h2 ⟨S2,[],⟨[],h2,rfl,by simp⟩,.nil,rfl,by simp⟩ (λj x zs H' hj hx h' z=>?_) (λzs H3 h3 z=>?_)
  .obtain⟨z1,hs,lh,pt,ln,bh⟩:=z;have hj':j<Fs.length:=();obtain⟨l,f1,f2,f3⟩:=cxs j _ (Ya hj');rw[hx] at f1;cases f1;have hm:=Yo hj';obtain⟨F0,F9,Fz,FL,Fb⟩:=hF _ hm;symm
   simp only[cV];refine⟨l,p,_,P,17850,17850,rfl,z1 _ _ (S1 _ _ f3),z1 _ _ hp,(),Pz,(),(),∅,∅,(),Fb,bP,λp4 qa ra S qs rs H4 S4 h4 hqa hra nra lq lr _ ex bS bq br lrz ev _=>⟨_,rfl,_,h4,_,cZ,?_⟩⟩;have xF:=exq _ hm;have s1:S=1:=ex xF;subst s1;have ev':∀k,nz Fs[j] k=pz (nz qs) (nz P) qs.length k+nz rs k:=λk=>by rw[<-ev k,YK]
   have rn:=zX Pz () lr lrz ev' xF;subst rn;have IZ:∀k,nz Fs[j] k=pz (nz qs) (nz P) qs.length k:=λk=>by rw[ev' k,a7 (by simp)];nofun
   have q0:0<qs.length:=();have nqd:qa≠d:=λe=>by
    subst e;rw[S4 _ _ h'] at hqa;cases hqa;obtain⟨ys,y1,y2,y3⟩:=lh;rw[h'] at y1;cases y1;rw[Yb] at y2;have hh:0<hs.length:=();obtain⟨l',w1,_⟩:=y3 0 _ (Ya hh);rw[Yd,Ya q0] at w1;cases w1
   refine .mk (S4 _ _ h') ?_ λH8 B8 h8=>⟨λy o e=>B8 _ _ (aj e hd) (S4 _ _ (z1 _ _ e)),hs++[qs],(lh.same S4).snoc (S4 _ _ h') B8 nqd hqa h8,?_,by simp[ln],λF hF'=>?_⟩
   .obtain⟨ys,y1,y2,_⟩:=lh;rw[h'] at y1;cases y1;have:1000<=sizeLine:=∅;nofun
   .rw[Yw,Ya hj'];exact AF pt () (List.length_pos_iff.mp q0) (Bn Fz () () () IZ) IZ
   .rcases List.mem_append.mp hF' with y|y
    .exact bh F y
    .rw[List.mem_singleton.mp y];exact⟨List.length_pos_iff.mp q0,(),λx hx=>(bq x hx).mono ∅⟩
  .obtain⟨z1,hs,lh,pt,ln,bh⟩:=z;rw[lxs,Y0] at pt;exact h d H3 P g hs (S1.trans z1) lh g0 lP hg pt ⟨(),bh⟩
def bM(K:W.Frag):Sp:=λvs H Q _=>∃(a:Addr)(fs:List (Int×Int)),vs=[.ref a]/\cF (vw K H) a fs/\fs≠[]/\fs.length<=9/\eP fs/\Pb 185 (cf fs) /\
 ∀(d:Addr)(H':Hp) hs,az (vw K H) (vw K H')->jN (vw K H') d hs->LV fs hs->(∀x∈hs,x≠[]/\x.length<=20/\nz x (x.length-1)≠0)->JL 600000 hs->Q (.ref d) H'
theorem lV(F:dA K "counting_chain" "counting_chain" fJ f fd) (T:fh K mg)(C_lowered:cy P w K mg base "lowered" ["wholes"] 2 (fG K)) (C_cleared:cy P w K mg base "cleared" ["f"] 2 (kL K)) (C_parted_chain:cy P w K mg base "parted_chain" ["lists"] 3 (gr K)) (C_signed_chain:cy P w K mg base "signed_chain" ["one", "other"] 4 (f9 K)) (C_wholes_slope:cy P w K mg base "wholes_slope" ["wholes"] 1 (gi K)):a9 P w K mg base dC 5 f fd ["f"] (bM K):=by
 have scN:=hZ.nd;refine F.okQ hZ (λvs H Q E h=>?_) (λcdv A outer s H vs Q E hr h=>?_)
 .obtain⟨_,_,rfl,_⟩:=h;rfl
 .obtain⟨a,fs,rfl,ha,f0,lf,pf,bf,h⟩:=h;refine⟨_,(ag (ax (i:=1) scN rfl (·) (ao C_lowered nofun rfl (aa (ay a8 (ao C_cleared nofun rfl (aa (qv 0) ae)) af (λ_ _=>rfl)) ae)))
   (ah (aB (ao C_parted_chain nofun rfl (aa (ao C_signed_chain nofun rfl (aa (qv 1) (aa (ao C_lowered nofun rfl (aa (ao C_wholes_slope nofun rfl (aa (qv 1) ae)) ae)) ae))) ae))))),?_⟩
  walk_at"m";refine aR.gen λN1 hN1=>?_;symm
  simp only[kL,fG];have bq:=bf.bq pf.1;refine⟨a,fs,185,rfl,ha,(),∅,λq z=>⟨pf.1 q z,bq q z⟩,λp b H2 D ns S2 h2 hb nb hD _ ln hn hm=>⟨_,rfl,_,h2,_,cZ,?_⟩⟩;have hc2:=wZ bf pf.1 hD hm ln λi n q e1 e2=>(hn i n q e1 e2).1;have cl:=AK ln λi n q e1 e2=>(hn i n q e1 e2).1;have D0:(D:Rat)≠0:=aG ();have lfp:0<fs.length:=List.length_pos_iff.mpr f0;have nl:nz ns (ns.length-1)≠0:=λz=>by
   have q1:=cl (ns.length-1);have q2:=rX pf f0;rw[z,ln] at q1;have:cf fs (fs.length-1)*(D:Rat)=0:=q1.symm;rcases Rat.mul_eq_zero.mp this with y|y
   .exact q2 y
   .exact D0 y
  refine⟨b,ns,200,rfl,hb,(),∅,λx z=>(hc2.2 x z).mono ∅,λ_=>nl,λwa H3 W g S3 hW nW lW g0 hg prW bW=>hN1 _ _ ?_⟩;have Wz:nz W (W.length-1)≠0:=λz=>nl (by rw[hg,<-lW,z,YD])
  have W0:W≠[]:=λz=>by rw[z] at lW;simp at lW;nofun
  symm
  simp only[gi,fG];refine⟨wa,W,rfl,hW,(),λx z=>(bW x z).mono ∅,λsa H4 S S4 hS nS lS eS bS=>?_⟩;have Sz:S≠[]->nz S (S.length-1)≠0:=λz=>by
   have:=List.length_pos_iff.mpr z;rw[eS,show S.length-1+1=W.length-1 by nofun]
   exact YH () Wz
  refine⟨sa,S,220,rfl,hS,(),∅,bS,Sz,λoa H5 O g' S5 hO nO lO g0' hg' prO bO=>?_⟩;simp only[f9];have Oz:O≠[]->nz O (O.length-1)≠0:=λz y=>by
   have:=List.length_pos_iff.mpr z;have z2:S≠[]:=List.length_pos_iff.mp ();refine Sz z2 ?_;rw[hg',<-lO,y,YD]
  have up:∀{x:Int}{n:Nat},n<=1110->Bt n x->Bt 1110 x:=λl b=>b.mono l;refine⟨wa,oa,W,O,rfl,(S4.trans S5) _ _ hW,hO,W0,(),⟨(),λx z=>up ∅ (bW x z),λ_=>Wz⟩,⟨(),λx z=>up ∅ (bO x z),Oz⟩,λd H6 rows S6 l6 rst lrw rb=>?_⟩;simp only[gr];have S06:=S2.trans (S3.trans (S4.trans (S5.trans S6)));have hW':∀k,ff W k=cf fs k*((D:Rat)/(g:Rat)):=λk=>by
   have e1:=cl k;rw[hg k,Ye] at e1;have c:=aG (show g≠0 by nofun)
   show ((nz W k:Int):Rat)=_;grind
  have hn:∀row∈rows,row.2.2.1≠0/\row.2.2.2≠0:=λrow z=>⟨(rst.ne row z).1,(rst.ne row z).2.1⟩;by_cases o0:O=[]
  .have lo:O.length=0:=by rw[o0];rfl
   have W1:W.length=1:=by
    have:=List.length_pos_iff.mpr W0;nofun
   have e6:mq W O rows=[W]:=Yh o0;rw[e6] at l6;refine⟨d,[W],W,rfl,l6,rfl,by simp,λF hF=>?_,λP g2 g20 lP hP prm F hF=>?_,λd7 H7 P g2 hs S7 l7 g20 lP hP pt lb=>?_⟩
   .rw[List.mem_singleton.mp hF];exact⟨W0,(),Wz,Yi _,λx z=>(bW x z).mono ∅⟩
   .rw[List.mem_singleton.mp hF];refine⟨[g2],C9 (by simp;nofun) () λx=>?_⟩
    rw[tf,gf hP]
   .refine h d7 H7 hs (S06.trans S7) l7 ?_ pt.all lb;cases pt with
    | @cons _ h1 _ _ a1 a2 a3 a4 pt =>
     cases pt with
     | nil =>
      have Pz:nz P 0≠0:=λz=>Wz (by rw[hP,W1,z,YD])
      obtain⟨c,c0,rfl⟩:=FA W1 a2 a3 () Pz a4;exact⟨.inl ⟨(),c,c0,rfl⟩,λc' z=>by cases z;exact Dx ((prW (λz=>by rw[z] at ln;simp at ln;nofun)).left a4),λ_ _ _ z=>by cases z⟩
  .have e6:mq W O rows=W::O::qL 1 1 rows:=Yc o0;rw[e6] at l6;obtain⟨L,s',eL,ps,nL,lL⟩:=jO rows 1 1 O O hn (.inl rfl) (.inl rfl) (λk=>by rw[YK]) rfl
   obtain⟨sh1,sh2⟩:=rst.short;have bnd:∀F∈W::O::qL 1 1 rows,F≠[]/\F.length<=9/\nz F (F.length-1)≠0/\L.length<=F.length /\ ∀x∈F,Bt 17850 x:=λF hF=>by
    rcases YY.mp hF with rfl|hF
    .exact⟨W0,(),Wz,(),λx z=>(bW x z).mono ∅⟩
    .rcases YY.mp hF with rfl|hF
     .exact⟨o0,(),Oz o0,(),λx z=>(bO x z).mono ∅⟩
     .obtain⟨row,hr,s2,ps2,rfl⟩:=tG rows 1 1 hn (.inl rfl) (.inl rfl) F hF;obtain⟨_,_,r0,rz⟩:=rst.ne row hr;obtain⟨r9,rb'⟩:=rb row hr;have:=sh2 row hr;refine⟨by simpa using r0,by rw[Yb];exact r9,?_,by rw[Yb];nofun,λx hx=>?_⟩
      .rw[Yb,dH];exact YH (by rcases ps2 with z|z<;>rw[z]<;>decide) rz
      .obtain⟨y,hy,rfl⟩:=List.mem_map.mp hx;have:=rb' y hy;have b2:Bt 2 s2:=by rcases ps2 with z|z<;>rw[z]<;>decide
       exact (b2.mul this).mono ∅
   have lsl:(W::O::qL 1 1 rows).getLast? = some L:=by rw[List.getLast?_cons_cons];exact eL
   have lsc:∀(rs:List (List Int×List Int×Int×Int))(x y:Int),(qL x y rs).length=rs.length:=λrs=>by
    induction rs with
    | nil=>intro x y;rfl
    | cons r rs ih=>intro x y;show (qL _ _ rs).length+1=_;rw[ih];rfl
   have L9:L.length<=9:=();obtain⟨L0,_,Lz,_⟩:=bnd L (List.mem_of_getLast? lsl);refine⟨d,_,L,rfl,l6,lsl,by simp only[Yv,lsc];nofun,bnd,λP g2 g20 lP hP prm=>zO rst o0 () () prm () eL hP λrow hr=>(rb row hr).1,λd7 H7 P g2 hs S7 l7 g20 lP hP pt lb=>h d7 H7 hs (S06.trans S7) l7 ?_ pt.all lb⟩
   have Pz:nz P (P.length-1)≠0:=λz=>Lz (by rw[hP,<-lP,z,YD])
   have P0:P≠[]:=λz=>by
    have z2:P.length=0:=by rw[z];rfl
    have:=List.length_pos_iff.mpr L0;nofun
   refine⟨KE rst o0 () () P0 Pz () eL () hP hW' eS g0' hg' pt,λc' z=>(by cases pt with|cons _ _ _ _ pt=>cases pt with|cons _ _ _ _ pt=>cases z),Ex rst o0 () () Wz (Oz o0) Pz () eL () hP pt (prW ?_) (prO ?_)⟩
   .exact λz=>by rw[z] at ln;simp at ln;nofun
   .exact λz=>o0 (List.length_eq_zero_iff.mp (by rw[lO,z];rfl))
def iq(K:W.Frag):Sp:=λvs H Q _=>∃(a:Addr)(W:List Int)(n:Nat),vs=[.ref a]/\vw K H a=some (.lst (W.map V.int))/\W≠[]/\W.length<=20/\nz W (W.length-1)≠0/\n<=100000/\(∀x∈W,Bt n x) /\
 ∀E:Nat,E<=n+2->LQ W E->Q (.int ((2^E:Nat):Int)) H
theorem FU{α:Type}{xs:List α}{k:Nat}{v:α}(hk:k<xs.length)(h:xs[xs.length-1-k]? = some v):pK xs (-1-(k:Int))=some v:=by
 unfold pK xt;rw[Yc (),Yh ()];show xs[(-1-(k:Int)+(xs.length:Int)).toNat]? = some v;rw[show (-1-(k:Int)+(xs.length:Int)).toNat=xs.length-1-k by nofun]
 exact h
theorem By{x k:Int}{n:Nat}(h : -(n:Int)<=x)(k1:1<=k) : -(n:Int)<=x.fdiv k:=by
 rw[Int.fdiv_eq_ediv_of_nonneg _ ()];refine (Int.le_ediv_iff_mul_le ()).mpr ?_;have:=Int.mul_le_mul_of_nonneg_left k1 (show (0:Int)<=(n:Int) by nofun)
 rw[Int.neg_mul];nofun
theorem qC(F:dA K "root_bound" "root_bound" jh f fd) (T:fh K mg):a9 P w K mg base dC 1 f fd ["wholes"] (iq K):=by
 have scN:=km.nd;refine F.okQ km (λvs H Q E h=>?_) (λcdv A outer s H vs Q E hr h=>?_)
 .obtain⟨_,_,_,rfl,_⟩:=h;rfl
 .obtain⟨a,W,n,rfl,ha,w0,w20,wz,hn,bw,h⟩:=h;refine⟨_,(ag (ax (i:=1) scN rfl (·) (t8 PySem.F.plainAttrs_int PySem.F.slot_int_bit_length PySem.F.type_int_bit_length kq (ay cO (qv 0) (eJ cT af) (λ_ _=>rfl))))
   (ag (ax (i:=2) scN rfl (·) af)
   (ag (cL PassesOwn.never rfl (rP rfl T.b_range (aa af (aa (aw aQ (by rfl) T.b_len bK (aa (qv 0) ae)) ae))) (av (i:=3) scN rfl (·)) (ag (ax (i:=4) scN rfl (·) (ay cO (qv 0) (aq cj (eJ cT af) (qv 3)) (λ_ _=>rfl)))
   (ah (bC (aF ie (qv 4) af (aK _)) (ah (ax (i:=2) scN rfl (·) (aw (mO rfl) (by rfl) T.b_max xf (aa (qv 2) (aa (aq cj af (aq oI (aq cj (aq cj (qv 1) (t8 PySem.F.plainAttrs_int PySem.F.slot_int_bit_length PySem.F.type_int_bit_length kq (qv 4))) af) (qv 3))) ae))))) aP))))
   (ah (aB (aq ER af (qv 2))))))),?_⟩
  walk_at"m";have wp:=List.length_pos_iff.mpr w0;have at_:∀k,k<W.length->(W.map V.int)[k]? = some (.int (nz W k)):=λk hk=>by
   rw[Yd,Ya hk,bA (Ya hk)];rfl
  have xl:(W.map V.int).getLast? = some (.int (nz W (W.length-1))):=by
   rw[Yy,Yb];exact at_ _ ()
  have bn:∀k,Builtin.Int.intBits (nz W k)<=n:=λk=>FQ (uE bw k);refine aR.gen λN1 hN1=>?_;symm
  refine⟨_,ha,_,iV xl,?_⟩;refine⟨rfl,_,rfl,rfl,hN1 _ _ ?_⟩;refine aR.gen λN2 hN2=>?_;symm
  refine hN2 _ _ ?_;refine aR.gen λN3 hN3=>?_;symm
  refine⟨W.length,by simp only[fA,ha,Yb],(),(),(),(),?_⟩
  rw[show ((W.length:Int)-1).toNat=W.length-1 by nofun]
  obtain⟨Tm,hTm⟩ : ∃Tm:Nat->Nat->Prop,∀E k,Tm E k↔(nz W k=0\/1-(((Builtin.Int.intBits (nz W (W.length-1)):Nat):Int)-((Builtin.Int.intBits (nz W k):Nat):Int)-1).fdiv ((W.length-1-k:Nat):Int)<=(E:Int)):=⟨_,λ_ _=>Xn⟩;obtain⟨Pv,hPv⟩ : ∃Pv:Nat->St->Hp->Prop,∀i σ H',Pv i σ H'↔H'=H /\ ∃(E:Nat)(o3 o4:Option V),σ=[some (.ref a),some (.int ((Builtin.Int.intBits (nz W (W.length-1)):Nat):Int)),some (.int (E:Int)),o3,o4]/\E<=n+2 /\ ∀k,W.length-1-i<=k->k<W.length-1->Tm E k:=⟨_,λ_ _ _=>Xn⟩;refine aZ (its:=gJ 1 (W.length-1)) Pv (λi σ H' _ p=>bT) ((hPv _ _ _).mpr ⟨rfl,0,_,_,rfl,(),λk h1 h2=>absurd h2 ()⟩) (λi y σ H1 hi hy pv=>?_) (λσ H1 pv=>?_)
  .obtain⟨rfl,E,o3,o4,rfl,eE,hk⟩:=(hPv _ _ _).mp pv;obtain⟨hi',rfl⟩:=gB hy;have ek:W.length-1-(W.length-1-(i+1))=i+1:=();refine aR.gen λN4 hN4=>?_;symm
   refine⟨_,ha,V.int (nz W (W.length-1-(i+1))),?_,hN4 _ _ ?_⟩
   .rw[show (-1:Int)-(1+(i:Int)) = -1-((i+1:Nat):Int) by nofun]
    refine FU (by rw[Yb];nofun) ?_
    rw[Yb];exact at_ _ ()
   have keep:∀E':Nat,E<=E'->Tm E' (W.length-1-(i+1)) -> ∀k,W.length-1-(i+1)<=k->k<W.length-1->Tm E' k:=λE' le t k h1 h2=>by
    by_cases z:k=W.length-1-(i+1)
    .rw[z];exact t
    .rcases (hTm _ _).mp (hk k () h2) with y|y
     .exact (hTm _ _).mpr (.inl y)
     .exact (hTm _ _).mpr (.inr ())
   symm
   refine be (λz=>?_) (λz=>(hPv (i+1) _ _).mpr ⟨rfl,E,_,_,rfl,eE,keep E (Yi _) ((hTm _ _).mpr (.inl (Classical.not_not.mp z)))⟩);have b1:=(oy wz).1;have b2:=bn (W.length-1-(i+1));have fl:=By (n:=n) (x:=((Builtin.Int.intBits (nz W (W.length-1)):Nat):Int)-((Builtin.Int.intBits (nz W (W.length-1-(i+1))):Nat):Int)-1) (k:=1+(i:Int)) () ();refine⟨rfl,_,rfl,rfl,_,rfl,Ia () (show (1+(i:Int)).natAbs<2^9000 from Ym (show _<2^5 by nofun) (Y8 ∅ ∅)),?_⟩
   obtain⟨v,hv⟩ : ∃v,v=1-(((Builtin.Int.intBits (nz W (W.length-1)):Nat):Int)-((Builtin.Int.intBits (nz W (W.length-1-(i+1))):Nat):Int)-1).fdiv (1+(i:Int)):=⟨_,rfl⟩;rw[<-hv];have tm:∀E':Nat,v<=(E':Int)->Tm E' (W.length-1-(i+1)):=λE' l=>(hTm _ _).mpr (.inr (by
    rw[ek,show ((i+1:Nat):Int)=1+(i:Int) by nofun,<-hv]
    exact l))
   by_cases q:v > (E:Int)
   .rw[Yh q];obtain⟨E',rfl⟩ : ∃E':Nat,v=(E':Int):=⟨v.toNat,()⟩;exact (hPv (i+1) _ _).mpr ⟨rfl,E',_,_,rfl,(),keep E' () (tm E' ())⟩
   .rw[Yc q];exact (hPv (i+1) _ _).mpr ⟨rfl,E,_,_,rfl,eE,keep E (Yi _) (tm E ())⟩
  .obtain⟨rfl,E,o3,o4,rfl,eE,hk⟩:=(hPv _ _ _).mp pv;refine hN3 _ _ ?_;symm
   refine⟨(),?_,?_⟩
   .have:Builtin.Int.intBits 1=1:=∅;rw[this];nofun
   .have e:=h E eE λk hk'=>?_
    .rw[show (1:Int)*2^((E:Int)).toNat=((2^E:Nat):Int) by rw[YK,Xv];simp]
     exact e
    .rcases (hTm _ _).mp (hk k (by rw[dk];nofun) hk') with y|y
     .rw[y];unfold Sm;have p1:(0:Rat)<p2 E/2:=by
       have:=sW E;grind
      have p3:=Yq (show (0:Rat)<(((nz W (W.length-1)).natAbs:Int):Rat) from Rat.intCast_pos.mpr ()) (eV p1 (W.length-1-k))
      have c0:((0:Int):Rat)=0:=rfl;rw[c0];grind
     .exact xM (EA _) (oy wz).2 (oy wz).1 () y
def iK(G:Hp)(v:V)(e:ka):Prop:=∃p la ua:Addr,v=.ref p/\G p=some (.tup [.int e.lo,.int e.hi,.int e.bo,.ref la,.ref ua])/\G la=some (.lst (e.ls.map V.int))/\G ua=some (.lst (e.us.map V.int))/\e.ls≠[]/\e.us≠[]
theorem iK.same{G G':Hp}{v:V}{e:ka}(h:iK G v e)(S:az G G'):iK G' v e:=by
 obtain⟨p,la,ua,r,a,b,c,d⟩:=h;exact⟨p,la,ua,r,S _ _ a,S _ _ b,S _ _ c,d⟩
def iz(xs:List V):Prop:=∀v∈xs,∃p:Addr,v=.ref p
theorem oC{G:Hp}{l t:Addr}{ns:List Int}{xs:List V}(h:G l=some (.lst (ns.map V.int)))(n0:ns≠[])(ht:G t=some (.lst xs))(ar:iz xs):l≠t:=λe=>by
 subst e;rw[h] at ht;cases ht;cases ns with
 | nil=>exact n0 rfl
 | cons a ns =>
  obtain⟨p,z⟩:=ar (.int a) (by simp)
  cases z
theorem sT{G:Hp}{l t:Addr}{ys xs:List V}(h:G l=some (.tup ys))(ht:G t=some (.lst xs)):l≠t:=λe=>by
 subst e;rw[h] at ht;cases ht
theorem iK.but{G G':Hp}{v:V}{e:ka}{t:Addr}{xs:List V}(h:iK G v e)(B:eN t G G')(ht:G t=some (.lst xs))(ar:iz xs):iK G' v e:=by
 obtain⟨p,la,ua,r,a,b,c,d1,d2⟩:=h;exact⟨p,la,ua,r,B _ _ (sT a ht) a,B _ _ (oC b d1 ht ar) b,B _ _ (oC c d2 ht ar) c,d1,d2⟩
inductive mr (G:Hp):List V->List (ka×Nat)->Prop
 | nil:mr G [] []
 | cons {v:V}{e:ka}{l:Nat}{vs:List V}{es:List (ka×Nat)}:iK G v e->mr G vs es->mr G (v::vs) ((e,l)::es)
theorem mr.map{G G':Hp}{vs:List V}{es:List (ka×Nat)}(h:mr G vs es)(f:∀v e,iK G v e->iK G' v e):mr G' vs es:=by
 induction h with
 | nil=>exact .nil
 | cons a _ ih=>exact .cons (f _ _ a) ih
theorem mr.refs{G:Hp}{vs:List V}{es:List (ka×Nat)}(h:mr G vs es):iz vs:=by
 induction h with
 | nil=>intro v hv;cases hv
 | cons a _ ih =>
  intro v hv;rcases YY.mp hv with rfl|z
  .obtain⟨p,_,_,r,_⟩:=a;exact⟨p,r⟩
  .exact ih v z
theorem mr.len{G:Hp}{vs:List V}{es:List (ka×Nat)}(h:mr G vs es):vs.length=es.length:=by
 induction h with
 | nil=>rfl
 | cons a _ ih=>simp[ih]
theorem iz.rev{xs:List V}(h:iz xs):iz xs.reverse:=λv hv=>h v (List.mem_reverse.mp hv)
def fB(G:Hp)(t:Addr)(ps:List j8):Prop:=∃xs,G t=some (.lst xs)/\xs.length=ps.length /\ ∀(k:Nat)(p:j8),ps[k]? = some p -> ∃q:Addr,xs[k]? = some (.ref q)/\G q=some (.tup [.int p.lo,.int p.hi,.int p.bo,.int p.sn])
theorem fB.refs{G:Hp}{t:Addr}{ps:List j8}{xs:List V}(h:fB G t ps)(hx:G t=some (.lst xs)):iz xs/\xs.length=ps.length:=by
 obtain⟨ys,a,b,c⟩:=h;rw[hx] at a;cases a;refine⟨λv hv=>?_,b⟩;obtain⟨k,hk⟩:=Xq hv;have:k<ps.length:=by
  have:=(List.getElem?_eq_some_iff.mp hk).1;nofun
 obtain⟨q,e,_⟩:=c k _ (Ya this);rw[hk] at e;cases e;exact⟨q,rfl⟩
theorem fB.same{G G':Hp}{t:Addr}{ps:List j8}(h:fB G t ps)(S:az G G'):fB G' t ps:=by
 obtain⟨ys,a,b,c⟩:=h;refine⟨ys,S _ _ a,b,λk p e=>?_⟩;obtain⟨q,e1,e2⟩:=c k p e;exact⟨q,e1,S _ _ e2⟩
theorem fB.but{G G':Hp}{t w:Addr}{ps:List j8}{xs:List V}(h:fB G t ps)(B:eN w G G')(n:t≠w)(hw:G w=some (.lst xs)):fB G' t ps:=by
 obtain⟨ys,a,b,c⟩:=h;refine⟨ys,B _ _ n a,b,λk p e=>?_⟩;obtain⟨q,e1,e2⟩:=c k p e;exact⟨q,e1,B _ _ (sT e2 hw) e2⟩
theorem fB.snoc{G G':Hp}{t q:Addr}{ps:List j8}{p:j8}{xs:List V}(h:fB G t ps)(hx:G t=some (.lst xs))(B:eN t G G')(hq:G q=some (.tup [.int p.lo,.int p.hi,.int p.bo,.int p.sn]))(e:G' t=some (.lst (xs++[.ref q]))):fB G' t (ps++[p]):=by
 obtain⟨ys,a,b,c⟩:=h;rw[hx] at a;cases a;refine⟨_,e,by simp[b],λk p' ek=>?_⟩
 by_cases hk:k<ps.length
 .rw[YA hk] at ek;obtain⟨m,e1,e2⟩:=c k p' ek;exact⟨m,by rw[YA ()];exact e1,B _ _ (sT e2 hx) e2⟩
 .have hk2:k=ps.length:=by
   have:=(List.getElem?_eq_some_iff.mp ek).1;simp at this;nofun
  subst hk2;rw[Yx (),Xo] at ek;cases ek;exact⟨q,by rw[Yx (),b,Xo];rfl,B _ _ (sT hq hx) hq⟩
def jQ(K:W.Frag):Sp:=λvs H Q _=>∃(d:Addr)(hs:List (List Int))(h0:List Int)(tl:List (List Int))(A:Rat->Nat)(Sg:Int->Rat->Prop)(T B n:Nat),vs=[.ref d]/\jN (vw K H) d hs/\JL 600000 hs/\hs=h0::tl/\nz h0 (h0.length-1)≠0/\(∀x∈h0,Bt n x)/\n<=1000/\B<=500/\Gj hs A Sg T B /\
 ∀(t:Addr)(H':Hp)(ps:List j8)(x:Rat),az (vw K H) (vw K H')->fB (vw K H') t ps->vw K H t=none->ps.length=T->Fx A Sg (3*n+9+2*B) ps x->Q (.ref t) H'
theorem Ab(F:dA K "places" "places" pG f fd) (T:fh K mg)(C_root_bound:cy P w K mg base "root_bound" ["wholes"] 1 (iq K)) (C_signs_far:cy P w K mg base "signs_far" ["lists", "side"] 2 (gC K)) (C_signs_of:cy P w K mg base "signs_of" ["lists", "top", "bottom"] 2 (gX K)) (C_changes:cy P w K mg base "changes" ["signs"] 1 (gQ K)):a9 P w K mg base dC 3 f fd ["lists"] (jQ K):=by
 have scN:=sr.nd;refine F.okQ sr (λvs H Q E h=>?_) (λcdv A outer s H vs Q E hr h=>?_)
 .obtain⟨_,_,_,_,_,_,_,_,_,rfl,_⟩:=h;rfl
 .obtain⟨d,hs,h0,tl,N,Sg,T0,B,n,rfl,hd,lb,hh,hz,hb,n1,b1,PH,h⟩:=h;refine⟨_,(ag (ax (i:=1) scN rfl (·) (ao C_root_bound nofun rfl (aa (ay cO (qv 0) af (λ_ _=>rfl)) ae)))
   (ag (ax (i:=2) scN rfl (·) (aL ae))
   (ag (ax (i:=3) scN rfl (·) (aL (aa (aE (aa (eJ cT (qv 1)) (aa (qv 1) (aa af (aa (ao C_signs_far nofun rfl (aa (qv 0) (aa (eJ cT af) ae))) (aa (ao C_signs_far nofun rfl (aa (qv 0) (aa af ae))) ae)))))) ae)))
   (ag (fY PassesOwn.never (dE (qv 3) (λ_=>rfl)) (ag (eD (t8 YJ PySem.F.slot_list_pop PySem.F.type_list_pop yx (qv 3)) (cR (n:=5) rfl (aC (av (i:=4) scN rfl (·)) (aC (av (i:=5) scN rfl (·)) (aC (av (i:=6) scN rfl (·)) (aC (av (i:=7) scN rfl (·)) (aC (av (i:=8) scN rfl (·)) cS)))))))
   (ag (ax (i:=9) scN rfl (·) (aq cj (ao C_changes nofun rfl (aa (qv 7) ae)) (ao C_changes nofun rfl (aa (qv 8) ae))))
   (ah (bC (aF gF (qv 9) af (aK _)) (ah (ei (kg YJ YW YV c8 (qv 2) (aa (aE (aa (qv 4) (aa (qv 5) (aa (qv 6) (aa (eX (aF ie (ay cO (qv 7) af (λ_ _=>rfl)) af (aK _)) (ay cO (qv 7) af (λ_ _=>rfl)) (ay cO (qv 7) af (λ_ _=>rfl))) ae))))) ae)))) (ah (bC (aF kr (qv 9) af (aK _)) (ag (ax (i:=10) scN rfl (·) (ao C_signs_of nofun rfl (aa (qv 0) (aa (aq aV (qv 4) (qv 5)) (aa (aq aS af (qv 6)) ae)))))
   (ag (ei (kg YJ YW YV c8 (qv 3) (aa (aE (aa (aq aV (qv 4) (qv 5)) (aa (aq aS af (qv 5)) (aa (aq aS af (qv 6)) (aa (qv 10) (aa (qv 8) ae)))))) ae)))
   (ah (ei (kg YJ YW YV c8 (qv 3) (aa (aE (aa (aq aS af (qv 4)) (aa (aq aV (qv 4) (qv 5)) (aa (aq aS af (qv 6)) (aa (qv 7) (aa (qv 10) ae)))))) ae)))))) aP)))))))
   (ah (aB (qv 2))))))),?_⟩
  walk_at"m";obtain⟨xs,hxs,lxs,cxs⟩:=id hd;obtain⟨l0,e1,ne1,e3⟩:=cxs 0 h0 (by rw[hh];rfl)
  obtain⟨h00,h020,_⟩:=lb.2 h0 (by rw[hh];simp)
  refine aR.gen λN1 hN1=>?_;symm
  simp only[iq];refine⟨xs,hxs,_,bB (j:=0) e1,l0,h0,n,rfl,e3,h00,h020,hz,(),hb,λE0 hE rb=>hN1 _ _ ?_⟩;refine aR.gen λN2 hN2=>?_;symm
  refine⟨Y7 _,λt H2 ht S2 h2=>hN2 _ _ ?_⟩;refine aR.gen λN3 hN3=>?_;symm
  simp only[gC];refine⟨d,hs,-1,rfl,hd.same S2,lb,.inr rfl,λla H3 S3 h3=>⟨d,hs,1,rfl,(hd.same S2).same S3,lb,.inl rfl,λua H4 S4 h4=>?_⟩⟩;refine⟨∅,λp H5 hp S5 h5=>⟨∅,λwq H6 hwq S6 h6=>hN3 _ _ ?_⟩⟩;clear hN1 hN2 hN3;obtain⟨C,hC⟩ : ∃C,C=chg 0 (hs.map (cx (-1))):=⟨_,rfl⟩;obtain⟨J,hJ⟩ : ∃J,J=2*E0+2+2*B:=⟨_,rfl⟩;have ok0:=qz.first (J:=J) PH hh rb
  rw[<-hC] at ok0;have hs0:hs≠[]:=by rw[hh];simp
  have S26:=S3.trans (S4.trans (S5.trans S6));have S46:=S5.trans S6;have h26:=S26 _ _ h2;have nwt:t≠wq:=aj (S3.trans (S4.trans S5) _ _ h2) hwq;have hC12:C<=12:=by
   rw[hC];have:=wO (hs.map (cx (-1))) 0;rw[Yb] at this;have:=lb.1;nofun
  refine aR.gen λN4 hN4=>?_;symm
  obtain⟨W,hW⟩ : ∃W:Nat->St->Hp->Prop,∀m σ H',W m σ H' ↔ ∃(o4 o5 o6 o7 o8 o9 o10:Option V)(x:Rat)(vs:List V)(es:List (ka×Nat))(ps:List j8),σ=[some (.ref d),some (.int ((2^E0:Nat):Int)),some (.ref t),some (.ref wq),o4,o5,o6,o7,o8,o9,o10]/\az (vw K H) (vw K H')/\vw K H' wq=some (.lst vs.reverse)/\mr (vw K H') vs es/\fB (vw K H') t ps/\K2 hs N Sg C E0 J x es/\Fx N Sg (3*n+9+2*B) ps x/\m=AC J es:=⟨_,λ_ _ _=>Xn⟩;refine⟨W,⟨_,(hW _ _ _).mpr ⟨_,_,_,_,_,_,_,_,[.ref p],[(_,0)],[],rfl,S2.trans S26,h6,.cons ⟨p,la,ua,rfl,S6 _ _ h5,S4.trans S46 _ _ h3,S46 _ _ h4,by simpa using hs0,by simpa using hs0⟩ .nil,⟨[],h26,rfl,by simp⟩,.cons ok0 (Yi _) ?_,⟨?_,by simp,by simp⟩,rfl⟩⟩,λm σ H' wm=>?_⟩
  .have:ka.b ⟨-((2^E0:Nat):Int),((2^E0:Nat):Int),1,hs.map (cx (-1)),hs.map (cx 1)⟩=p2 E0:=by
    show (((2^E0:Nat):Int):Rat)/((1:Int):Rat)=_;rw[show ((1:Int):Rat)=1 from rfl]
    show p2 E0/1=_;grind
   rw[this];exact .nil
  .have:=ok0.cl;have e:chg 0 (hs.map (cx (-1)))=C:=hC.symm;show N _=0;have this:chg 0 (hs.map (cx (-1)))+N _=C:=this;nofun
  obtain⟨o4,o5,o6,o7,o8,o9,o10,x,vs,es,ps,rfl,S0,hw,En,Pl,St,To,rfl⟩:=(hW _ _ _).mp wm;clear wm;symm
  cases En with
  | nil =>
   refine⟨_,i7 hw,?_⟩;show N4 _ _;refine hN4 _ _ ?_;symm
   cases St with
   | nil=>exact h t H' ps _ S0 Pl (by
     cases e:vw K H t with
     | none=>rfl
     | some o=>rw[e] at ht;cases ht) (by
     rw[<-To.1];exact (PH.bd E0 h0 tl hh rb).1) To
  | @cons v e lev vs es Ev En =>
   cases St with
   | cons eok lle St =>
   refine⟨_,i7 hw,?_⟩;refine m4 (by simp) ?_
   obtain⟨p1,la1,ua1,rfl,q1,q2,q3,ne2,ne3⟩:=id Ev;have er:(V.ref p1::vs).reverse=vs.reverse++[V.ref p1]:=by simp
   rw[er] at hw;refine⟨λσ H2=>∃m',m'<AC J ((e,lev)::es)/\W m' σ H2,λσ' H2 z=>z,.inl ⟨rfl,_,jq.of (aM hw)⟩,_,hw,V.ref p1,by simp,λH7 B7 h7=>?_⟩
   rw[List.dropLast_concat] at h7;have ar7:iz (vs.reverse++[V.ref p1]):=by rw[<-er];exact (mr.cons Ev En:mr _ _ ((e,lev)::es)).refs.rev
   obtain⟨p1',la1',ua1',ep,r1,r2,r3,_⟩:=Ev.but B7 hw ar7;cases ep;have En7:=En.map λv e z=>iK.but (G':=vw K H7) z B7 hw ar7;have Pl7:=Pl.but B7 nwt hw;have S07:az (vw K H) (vw K H7):=λy o z=>B7 _ _ (λee=>by
    subst ee;have:=(S2.trans (S3.trans (S4.trans S5))) _ _ z;rw[hwq] at this;cases this) (S0 _ _ z)
   refine⟨p1,rfl,_,r1,rfl,_,_,rfl,_,_,rfl,_,_,rfl,_,_,rfl,_,_,rfl,rfl,?_⟩;simp only[gQ];refine⟨la1',e.ls,rfl,r2,ua1',e.us,rfl,r3,?_⟩;have lse:2<=hs.length -> ∃s0 s1 r,e.ls=s0::s1::r:=λl2=>by
    have:=eok.ll;match hq:e.ls with
    | []=>rw[hq] at this;simp at this;nofun
    | [_]=>rw[hq] at this;simp at this;nofun
    | s0::s1::r=>exact⟨s0,s1,r,rfl⟩
   have cl:=eok.cl;have cu:=eok.cu;have wp:1<=wt J lev:=Io (by have:=eok.lv;nofun)
   have mn:=PH.mono _ _ (Yl eok.lt);refine⟨_,rfl,_,rfl,be (λone=>?_) (λn1'=>?_)⟩
   .have T2:2<=hs.length:=by
     rcases PH.two with z|z
     .have a1:=PH.mono _ _ eok.in_.2;rw[(PH.bd E0 h0 tl hh rb).1] at a1;nofun
     .exact z
    have fin:Nw K H7 (HO.tup [V.int e.lo,V.int e.hi,V.int e.bo,V.int (qt e.ls)]) λx H1=>∃xs,vw K H1 t=some (HO.lst xs)/\xs.length<sizeLine/\Df K H1 t (HO.lst (xs++[x])) λH1=>∃m',m'<AC J ((e,lev)::es)/\W m' [some (V.ref d),some (V.int ((2^E0:Nat):Int)),some (V.ref t),some (V.ref wq),some (V.int e.lo),some (V.int e.hi),some (V.int e.bo),some (V.ref la1'),some (V.ref ua1'),some (V.int (((chg 0 e.ls:Nat):Int)-((chg 0 e.us:Nat):Int))),o10] H1:=by
     intro q H8 hq S8 h8;obtain⟨ys,y1,y2,y3⟩:=id Pl7;have Pl8:=Pl7.same S8;refine⟨ys,S8 _ _ y1,?_,λH9 B9 h9=>⟨AC J es,?_,(hW _ _ _).mpr ⟨_,_,_,_,_,_,_,e.b,vs,es,ps++[⟨e.lo,e.hi,e.bo,qt e.ls⟩],rfl,?_,B9 _ _ (XI nwt) (S8 _ _ h7),?_,Pl8.snoc (S8 _ _ y1) B9 h8 h9,St,?_,rfl⟩⟩⟩
     .rw[y2,<-To.1];have:1000<=sizeLine:=∅;nofun
     .show AC J es<wt J lev+AC J es;nofun
     .exact λy o z=>B9 _ _ (λee=>by
       subst ee;rw[ht] at z;cases z) (S8 _ _ (S07 _ _ z))
     .exact En7.map λv e z=>iK.but (z.same S8) B9 (S8 _ _ y1) (Pl8.refs (S8 _ _ y1)).1
     .exact Fx.snoc (p:=⟨e.lo,e.hi,e.bo,qt e.ls⟩) To (eok.place PH () () To.1)
    obtain⟨s0,s1,r,els⟩:=lse T2;have r2':=r2;rw[els] at r2';obtain⟨yst,yst1,_⟩:=id Pl7;refine⟨.inl ⟨rfl,_,jq.of (aM yst1)⟩,_,rfl,_,r2',V.int s0,cZ,rfl,be (λz=>?_) (λz=>?_)⟩
    .refine⟨_,rfl,_,r2',V.int s0,cZ,∅,?_⟩;have:qt e.ls=s0:=by
      rw[els];exact Yh λy=>z (by rw[y])
     rw[this] at fin;exact fin
    .refine⟨_,rfl,_,r2',V.int s1,eM,∅,?_⟩;have:qt e.ls=s1:=by
      rw[els];refine Yc λy=>z λw=>?_;cases w;exact y rfl
     rw[this] at fin;exact fin
   .refine be (λmore=>?_) (λnone_=>⟨AC J es,?_,(hW _ _ _).mpr ⟨_,_,_,_,_,_,_,e.b,vs,es,ps,rfl,S07,h7,En7,Pl7,St,To.next (Yl eok.lt) (),rfl⟩⟩)
    .have rm:=eok.room PH hJ ();obtain⟨ok1,ok2,ea1,eb1,ea2,eb2⟩:=eok.halves PH hC rm;obtain⟨bt1,bt2,bt3⟩:=eok.bits;have b2:Bt 2 2:=∅;have up:∀{y:Int},Bt (E0+J+1) y->Bt 8000 y:=λz=>z.mono ();have m2:∀{y:Int},Bt (E0+J+1) y->IntMulOk 2 y:=λz=>bV b2 (up z) ∅;have bs:Bt 9000 (e.lo+e.hi):=by
      have:=ok1.bits.2.2;exact Bt.mono (n:=9000) (show Bt (E0+J+1) (e.lo+e.hi) from this) ()
     have bb:Bt 9000 (2*e.bo):=Bt.mono (n:=9000) (show Bt (E0+J+1) (2*e.bo) from ok1.bits.1) ()
     have bp:0<2*e.bo:=by
      rw[eok.bo];have:=Y4 lev;nofun
     simp only[iL,dF];refine⟨m2 bt1,?_⟩;simp only[gX];refine⟨d,hs,_,_,rfl,hd.same S07,lb,bp,bs,bb,λma H8 S8 _ h8=>?_⟩;have h8:vw K H8 ma=some (.lst ((iS e.m (hs.map aN)).map V.int)):=h8;have wq8:=S8 _ _ h7;have lv:vs.length<=3100:=by
      rw[En7.len];have:=eok.lv;nofun
     have s10:10000<=sizeLine:=∅;refine⟨.inl ⟨rfl,_,jq.of (aM wq8)⟩,m2 bt3,m2 bt1,∅,λqa H9 hqa S9 h9=>⟨_,S9 _ _ wq8,?_,λH10 B10 h10=>⟨.inl ⟨rfl,_,jq.of (aM h10)⟩,m2 bt2,m2 bt1,∅,λqb H11 hqb S11 h11=>⟨_,S11 _ _ h10,?_,λH12 B12 h12=>?_⟩⟩⟩⟩
     .rw[Xz];nofun
     .rw[Yt,Xz];simp;nofun
     have sn0:iS e.m (hs.map aN)≠[]:=by rw[hh];simp[iS]
     have Eu9:iK (vw K H9) (.ref qa) (e.up (iS e.m (hs.map aN))):=⟨qa,ma,ua1',rfl,h9,S9 _ _ h8,S9 _ _ (S8 _ _ r3),sn0,ne3⟩;have ar9:iz vs.reverse:=En7.refs.rev;have Eu10:=Eu9.but B10 (S9 _ _ wq8) ar9;have En9:=En7.map (G':=vw K H9) λv e z=>(z.same S8).same S9;have En10:=En9.map (G':=vw K H10) λv e z=>z.but B10 (S9 _ _ wq8) ar9;have ar10:iz (vs.reverse++[.ref qa]):=λv hv=>by
      rcases List.mem_append.mp hv with z|z
      .exact ar9 v z
      .exact⟨qa,List.mem_singleton.mp z⟩
     have la10:vw K H10 la1'=some (.lst (e.ls.map V.int)):=B10 _ _ (oC (S9 _ _ (S8 _ _ r2)) ne2 (S9 _ _ wq8) ar9) (S9 _ _ (S8 _ _ r2));have ma10:vw K H10 ma=some (.lst ((iS e.m (hs.map aN)).map V.int)):=B10 _ _ (oC (S9 _ _ h8) sn0 (S9 _ _ wq8) ar9) (S9 _ _ h8);have El11:iK (vw K H11) (.ref qb) (e.low (iS e.m (hs.map aN))):=⟨qb,la1',ma,rfl,h11,S11 _ _ la10,S11 _ _ ma10,ne2,sn0⟩;have El12:=El11.but B12 (S11 _ _ h10) ar10;have En12:=(mr.cons (l:=lev+1) Eu10 En10).map (G':=vw K H12) λv e z=>(z.same S11).but B12 (S11 _ _ h10) ar10;have Pl12:=((((Pl7.same S8).same S9).but B10 nwt (S9 _ _ wq8)).same S11).but B12 nwt (S11 _ _ h10);have nw:∀y o,vw K H y=some o->y≠wq:=λy o z ee=>by
      subst ee;have:=(S2.trans (S3.trans (S4.trans S5))) _ _ z;rw[hwq] at this;cases this
     have St':K2 hs N Sg C E0 J e.a ((e.low (iS e.m (hs.map aN)),lev+1)::(e.up (iS e.m (hs.map aN)),lev+1)::es):=by
      rw[<-ea1];refine .cons ok1 (by simp;nofun) ?_
      rw[eb1,<-ea2];refine .cons ok2 () ?_;rw[eb2];exact St
     refine⟨_,?_,(hW _ _ _).mpr ⟨_,_,_,_,_,_,_,e.a,.ref qb :: .ref qa::vs,_,ps,rfl,λy o z=>B12 _ _ (nw y o z) (S11 _ _ (B10 _ _ (nw y o z) (S9 _ _ (S8 _ _ (S07 _ _ z))))),?_,.cons El12 En12,Pl12,St',To,rfl⟩⟩
     .have:=JA (J:=J) (l:=lev) eok.lv;show wt J (lev+1)+(wt J (lev+1)+AC J es)<wt J lev+AC J es;nofun
     .rw[h12];simp
    .show AC J es<wt J lev+AC J es;nofun
def mL(K:W.Frag):Sp:=λvs H Q _=>∃(a q:Addr)(W:List Int)(p:j8)(N:Nat),vs=[.ref a,.ref q]/\vw K H a=some (.lst (W.map V.int))/\W.length<=20/\(∀x∈W,Bt 1000 x)/\vw K H q=some (.tup [.int p.lo,.int p.hi,.int p.bo,.int p.sn])/\0<p.bo/\N<=5000/\Bt N p.lo/\Bt N p.hi/\Bt N p.bo /\
 ∀(q':Addr)(p':j8) H',az (vw K H) (vw K H')->vw K H' q'=some (.tup [.int p'.lo,.int p'.hi,.int p'.bo,.int p'.sn])->p'=(if sg (aN W (((p.lo+p.hi:Int):Rat)/((2*p.bo:Int):Rat)))=p.sn then ⟨p.lo+p.hi,2*p.hi,2*p.bo,p.sn⟩ else ⟨2*p.lo,p.lo+p.hi,2*p.bo,p.sn⟩)->Q (.ref q') H'
theorem Ar(F:dA K "halved" "halved" oZ f fd) (T:fh K mg)(C_sign_of:cy P w K mg base "sign_of" ["whole"] 1 (dB K)) (C_wholes_at:cy P w K mg base "wholes_at" ["wholes", "top", "bottom"] 1 (eZ K)):a9 P w K mg base dC 2 f fd ["wholes", "place"] (mL K):=by
 have scN:=rF.nd;refine F.okQ rF (λvs H Q E h=>?_) (λcdv A outer s H vs Q E hr h=>?_)
 .obtain⟨_,_,_,_,_,rfl,_⟩:=h;rfl
 .obtain⟨a,q,W,p,N,rfl,ha,lW,bW,hq,b0,hN,bl,bh,bb,h⟩:=h;refine⟨_,(ag (eD (qv 1) (cR (n:=4) rfl (aC (av (i:=2) scN rfl (·)) (aC (av (i:=3) scN rfl (·)) (aC (av (i:=4) scN rfl (·)) (aC (av (i:=5) scN rfl (·)) cS))))))
   (ag (bC (aF gF (ao C_sign_of nofun rfl (aa (ay a8 (ao C_wholes_at nofun rfl (aa (qv 0) (aa (aq aV (qv 2) (qv 3)) (aa (aq aS af (qv 4)) ae)))) af (λ_ _=>rfl)) ae)) (qv 5) (aK _)) (ah (aB (aE (aa (aq aV (qv 2) (qv 3)) (aa (aq aS af (qv 3)) (aa (aq aS af (qv 4)) (aa (qv 5) ae))))))) aP)
   (ah (aB (aE (aa (aq aS af (qv 2)) (aa (aq aV (qv 2) (qv 3)) (aa (aq aS af (qv 4)) (aa (qv 5) ae))))))))),?_⟩
  walk_at"m";refine aR.gen λN1 hN1=>?_;symm
  refine⟨_,hq,rfl,_,_,rfl,_,_,rfl,_,_,rfl,_,_,rfl,rfl,hN1 _ _ ?_⟩;clear hN1;have b2:Bt 2 2:=∅;have m2:∀{y:Int},Bt N y->IntMulOk 2 y:=λz=>bV b2 (z.mono (n:=5000) hN) ∅;have bs:Bt (N+1) (p.lo+p.hi):=by
   unfold Bt at bl bh ⊢;rw[Xe];exact Za bl bh
  have bb2:Bt (N+1) (2*p.bo):=by
   unfold Bt at bb ⊢;rw[Xe];nofun
  refine aR.gen λN2 hN2=>?_;symm
  refine⟨m2 bb,?_⟩;simp only[eZ,dB];refine⟨a,W,_,_,1000,5001,rfl,ha,(),∅,∅,bW,(),bs.mono (),bb2.mono (),λr H1 u s S1 h1 s0 sp ev _ _=>⟨r,rfl,_,h1,_,cZ,u,rfl,rfl,?_⟩⟩;have us:=zt (sp ()) ev;rw[<-jw lW] at us;refine be (λz=>?_) (λz=>hN2 _ _ ?_)
  .refine⟨m2 bh,m2 bb,∅,λq' H2 hq' S2 h2=>h q' ⟨p.lo+p.hi,2*p.hi,2*p.bo,p.sn⟩ H2 (S1.trans S2) h2 ?_⟩;have z:u.sign=p.sn:=by injection z
   rw[Yh (by rw[<-us];exact z)]
  .symm
   refine⟨m2 bl,m2 bb,∅,λq' H2 hq' S2 h2=>h q' ⟨2*p.lo,p.lo+p.hi,2*p.bo,p.sn⟩ H2 (S1.trans S2) h2 ?_⟩;rw[Yc λy=>z (by rw[us,y])]
def ik(K:W.Frag):Sp:=λvs H Q _=>∃(a q:Addr)(wd:V)(W:List Int)(p:j8)(N:Nat)(l:List (aU×Nat))(c0:Rat)(i:Nat)(g:Int×Int),vs=[.ref a,.ref q,wd]/\vw K H a=some (.lst (W.map V.int))/\W.length<=20/\(∀x∈W,Bt 1000 x)/\vw K H q=some (.tup [.int p.lo,.int p.hi,.int p.bo,.int p.sn])/\N<=1000/\JR (bQ l) (wM c0 l) N p i/\(∀q∈l,q.1.ok/\1<=q.2)/\c0≠0/\(∀x,aN W x=c0*cq l x)/\(∀a b,a<=b->bQ l a<=bQ l b)/\aD (vw K H) (fr g) wd/\0<g.1/\0<g.2/\Bq 20 g /\
 ∀(r:Addr)(x y:V)(u v:Int×Int) H',az (vw K H) (vw K H')->vw K H' r=some (.tup [x,y])->aD (vw K H') (fr u) x->aD (vw K H') (fr v) y->Fq u->Fq v->Bq (2*N+22) u->Bq (2*N+22) v->wv u<wv v->bQ l (wv u)=i->bQ l (wv v)=i+1->wv v-wv u<=wv g->p.a<=wv u->wv v<=p.b->Q (.ref r) H'
structure DU (l:List (aU×Nat))(c0:Rat)(N i:Nat)(p p':j8):Prop where
 b0:0<p'.bo
 lo:p'.lo.natAbs<=2^N*p'.bo.natAbs
 hi:p'.hi.natAbs<=2^N*p'.bo.natAbs
 wd:p'.hi-p'.lo=p.hi-p.lo
 bo:p'.bo.natAbs<2^(N+22)
 al:bQ l p'.a=i
 au:bQ l p'.b=i+1
 lt:p'.a<p'.b
 sgn:wM c0 l p'.sn p'.a
 ge:p.a<=p'.a
 le:p'.b<=p.b
theorem DU.bt{l:List (aU×Nat)}{c0:Rat}{N i:Nat}{p p':j8}(h:DU l c0 N i p p'):Bt (2*N+22) p'.lo/\Bt (2*N+22) p'.hi/\Bt (2*N+22) p'.bo:=by
 have e:2^(2*N+22)=2^N*2^(N+22):=by rw[<-Xt];congr 1;nofun
 have p1:=Y4 N;have m:=Nat.mul_lt_mul_of_pos_left h.bo p1;have one:p'.bo.natAbs<=2^N*p'.bo.natAbs:=Nat.le_mul_of_pos_left _ p1;unfold Bt;rw[e];have a:=h.lo;have b:=h.hi;exact⟨(),(),()⟩
theorem DU.first{l:List (aU×Nat)}{c0:Rat}{N i:Nat}{p:j8}(h:JR (bQ l) (wM c0 l) N p i):DU l c0 N i p p:=by
 have b0:=h.bo;have one:1<=p.bo.natAbs:=();have m:2^N*1<=2^N*p.bo.natAbs:=YX _ one;have bl:p.lo.natAbs<2^N:=h.bl;have bh:p.hi.natAbs<2^N:=h.bh;have bb:p.bo.natAbs<2^N:=h.bb;exact⟨b0,(),(),rfl,Ym bb (Y8 ∅ ()),h.al,h.au,h.lt,h.sg,Rat.le_refl,Rat.le_refl⟩
theorem Jj{p:j8}(b0:0<p.bo):((p.lo+p.hi:Int):Rat)/((2*p.bo:Int):Rat)=(p.a+p.b)/2/\((2*p.hi:Int):Rat)/((2*p.bo:Int):Rat)=p.b/\((2*p.lo:Int):Rat)/((2*p.bo:Int):Rat)=p.a:=by
 have n0:(p.bo:Rat)≠0:=aG ();refine⟨?_,sB n0,sB n0⟩;unfold j8.a j8.b;rw[Y9,Ye,show ((2:Int):Rat)=2 from rfl]
 have h1:(p.lo:Rat)/(p.bo:Rat)*(p.bo:Rat)=(p.lo:Rat):=YE n0;have h2:(p.hi:Rat)/(p.bo:Rat)*(p.bo:Rat)=(p.hi:Rat):=YE n0;generalize (p.lo:Rat)/(p.bo:Rat)=u at *
 generalize (p.hi:Rat)/(p.bo:Rat)=v at *
 rw[<-h1,<-h2];grind
theorem DU.step{l:List (aU×Nat)}{c0:Rat}{N i:Nat}{p q q':j8}{W:List Int}{g:Int×Int}(ok:∀q∈l,q.1.ok/\1<=q.2)(n0:c0≠0)(e0:∀x,aN W x=c0*cq l x)(mono:∀a b,a<=b->bQ l a<=bQ l b)(hp:JR (bQ l) (wM c0 l) N p i)(g0:0<g.1)(bg:Bq 20 g)(h:DU l c0 N i p q)(go:(q.hi-q.lo)*g.2 > g.1*q.bo)(e:q'=(if sg (aN W (((q.lo+q.hi:Int):Rat)/((2*q.bo:Int):Rat)))=q.sn then ⟨q.lo+q.hi,2*q.hi,2*q.bo,q.sn⟩ else ⟨2*q.lo,q.lo+q.hi,2*q.bo,q.sn⟩)):DU l c0 N i p q'/\q'.bo=2*q.bo:=by
 obtain⟨e1,e2,e3⟩:=Jj h.b0;have lt:=h.lt;have b0:=h.b0;have hi:=Fl (a:=q.a) (m:=(q.a+q.b)/2) (b:=q.b) ok n0 e0 mono ⋯ ⋯ h.al h.au h.sgn;have lo1:=h.lo;have hi1:=h.hi;have wd:=h.wd;have n2:(2*q.bo).natAbs=2*q.bo.natAbs:=Int.natAbs_mul _ _;have bo2:(2*q.bo).natAbs<2^(N+22):=by
  have bl:p.lo.natAbs<2^N:=hp.bl;have bh:p.hi.natAbs<2^N:=hp.bh;have b2:g.2.natAbs<2^20:=bg.2;rw[wd] at go;have k1:q.bo<=g.1*q.bo:=by
   have:=Int.mul_le_mul_of_nonneg_right (show 1<=g.1 by nofun) (show 0<=q.bo by nofun)
   nofun
  have k2:((p.hi-p.lo)*g.2).natAbs<2^(N+1)*2^20:=by
   rw[YG];refine Nat.mul_lt_mul'' ?_ b2;rw[Xe];exact Zb bh bl
  rw[n2,show N+22=(N+1+20)+1 by nofun,Xe,Xt]
  nofun
 have m2:2^N*(2*q.bo).natAbs=2*(2^N*q.bo.natAbs):=by rw[n2,Nat.mul_left_comm]
 have ge:=h.ge;have le:=h.le;rw[e1] at e;by_cases z:sg (aN W ((q.a+q.b)/2))=q.sn
 .rw[Yh z] at e;subst e;obtain⟨a1,a2⟩:=hi.1 z;refine⟨⟨?_,?_,?_,?_,bo2,?_,?_,?_,?_,?_,?_⟩,rfl⟩
  .show 0<2*q.bo;nofun
  .show (q.lo+q.hi).natAbs<=_;rw[m2];exact Zc lo1 hi1
  .show (2*q.hi).natAbs<=_;rw[m2,Int.natAbs_mul];exact Nat.mul_le_mul_left 2 hi1
  .show 2*q.hi-(q.lo+q.hi)=_;nofun
  .show bQ l (((q.lo+q.hi:Int):Rat)/((2*q.bo:Int):Rat))=i;rw[e1];exact a1
  .show bQ l (((2*q.hi:Int):Rat)/((2*q.bo:Int):Rat))=i+1;rw[e2];exact h.au
  .show ((q.lo+q.hi:Int):Rat)/((2*q.bo:Int):Rat)<((2*q.hi:Int):Rat)/((2*q.bo:Int):Rat);rw[e1,e2];grind
  .show wM c0 l q.sn (((q.lo+q.hi:Int):Rat)/((2*q.bo:Int):Rat));rw[e1];exact a2
  .show p.a<=((q.lo+q.hi:Int):Rat)/((2*q.bo:Int):Rat);rw[e1];grind
  .show ((2*q.hi:Int):Rat)/((2*q.bo:Int):Rat)<=p.b;rw[e2];exact le
 .rw[Yc z] at e;subst e;have a1:=hi.2 z;refine⟨⟨?_,?_,?_,?_,bo2,?_,?_,?_,?_,?_,?_⟩,rfl⟩
  .show 0<2*q.bo;nofun
  .show (2*q.lo).natAbs<=_;rw[m2,Int.natAbs_mul];exact Nat.mul_le_mul_left 2 lo1
  .show (q.lo+q.hi).natAbs<=_;rw[m2];exact Zc lo1 hi1
  .show q.lo+q.hi-2*q.lo=_;nofun
  .show bQ l (((2*q.lo:Int):Rat)/((2*q.bo:Int):Rat))=i;rw[e3];exact h.al
  .show bQ l (((q.lo+q.hi:Int):Rat)/((2*q.bo:Int):Rat))=i+1;rw[e1];exact a1
  .show ((2*q.lo:Int):Rat)/((2*q.bo:Int):Rat)<((q.lo+q.hi:Int):Rat)/((2*q.bo:Int):Rat);rw[e1,e3];grind
  .show wM c0 l q.sn (((2*q.lo:Int):Rat)/((2*q.bo:Int):Rat));rw[e3];exact h.sgn
  .show p.a<=((2*q.lo:Int):Rat)/((2*q.bo:Int):Rat);rw[e3];exact ge
  .show ((q.lo+q.hi:Int):Rat)/((2*q.bo:Int):Rat)<=p.b;rw[e1];grind
theorem vF(F:dA K "narrowed" "narrowed" kH f fd) (T:fh K mg)(C_halved:cy P w K mg base "halved" ["wholes", "place"] 2 (mL K)) (C_ratio:cy P w K mg base "ratio" ["top", "bottom"] 2 (jP K)):a9 P w K mg base dC 3 f fd ["wholes", "place", "width"] (ik K):=by
 have scN:=nG.nd;refine F.okQ nG (λvs H Q E h=>?_) (λcdv A outer s H vs Q E hr h=>?_)
 .obtain⟨_,_,_,_,_,_,_,_,_,_,rfl,_⟩:=h;rfl
 .obtain⟨a,q,wd,W,p,N,l,c0,i,g,rfl,ha,lW,bW,hq,hN,hp,ok,n0,e0,mono,rg,g0,g1,bg,h⟩:=h;refine⟨_,(ag (eD (qv 1) (cR (n:=4) rfl (aC (av (i:=3) scN rfl (·)) (aC (av (i:=4) scN rfl (·)) (aC (av (i:=5) scN rfl (·)) (aC (av (i:=6) scN rfl (·)) cS))))))
   (ag (fY PassesOwn.never (aF kr (aq aS (aq cj (qv 4) (qv 3)) (ay a8 (qv 2) af (λ_ _=>rfl))) (aq aS (ay a8 (qv 2) af (λ_ _=>rfl)) (qv 5)) (aK _)) (ag (ax (i:=1) scN rfl (·) (ao C_halved nofun rfl (aa (qv 0) (aa (qv 1) ae))))
   (ah (eD (qv 1) (cR (n:=4) rfl (aC (av (i:=3) scN rfl (·)) (aC (av (i:=4) scN rfl (·)) (aC (av (i:=5) scN rfl (·)) (aC (av (i:=6) scN rfl (·)) cS)))))))))
   (ah (aB (aE (aa (ao C_ratio nofun rfl (aa (qv 3) (aa (qv 5) ae))) (aa (ao C_ratio nofun rfl (aa (qv 4) (aa (qv 5) ae))) ae))))))),?_⟩
  walk_at"m";obtain⟨ga,rfl,hga⟩:=id rg.fr_at;refine aR.gen λN1 hN1=>?_;symm
  refine⟨_,hq,rfl,_,_,rfl,_,_,rfl,_,_,rfl,_,_,rfl,rfl,hN1 _ _ ?_⟩;clear hN1;refine aR.gen λN2 hN2=>?_;symm
  obtain⟨Wm,hW⟩ : ∃Wm:Nat->St->Hp->Prop,∀m σ H',Wm m σ H' ↔ ∃(qa:Addr)(p':j8),σ=[some (.ref a),some (.ref qa),some (.ref ga),some (.int p'.lo),some (.int p'.hi),some (.int p'.bo),some (.int p'.sn)]/\az (vw K H) (vw K H')/\vw K H' qa=some (.tup [.int p'.lo,.int p'.hi,.int p'.bo,.int p'.sn])/\DU l c0 N i p p'/\m=((p.hi-p.lo)*g.2-p'.bo).toNat:=⟨_,λ_ _ _=>Xn⟩;refine⟨Wm,⟨_,(hW _ _ _).mpr ⟨q,p,rfl,az.refl _,hq,DU.first hp,rfl⟩⟩,λm σ H' wm=>?_⟩
  obtain⟨qa,p',rfl,S1,hqa,nr,rfl⟩:=(hW _ _ _).mp wm;obtain⟨bl,bh,bb⟩:=nr.bt;have hga1:=S1 _ _ hga;symm
  have bd:Bt (2*N+23) (p'.hi-p'.lo):=by
   unfold Bt at bl bh ⊢;rw[show 2*N+23=(2*N+22)+1 by nofun,Xe]
   exact Zb bh bl
  refine⟨_,hga1,_,eM,?_⟩;rw[dF];refine⟨bV (bd.mono (n:=5000) ()) bg.2 ∅,_,hga1,_,cZ,?_⟩;rw[dF];refine⟨bV bg.1 (bb.mono (n:=5000) ()) ∅,_,rfl,_,rfl,be (λgo=>?_) (λgo=>hN2 _ _ ?_)⟩
  .refine⟨λσ H2=>∃m',m'<((p.hi-p.lo)*g.2-p'.bo).toNat/\Wm m' σ H2,λ_ _ z=>z,?_⟩;simp only[mL];refine⟨a,qa,W,p',2*N+22,rfl,S1 _ _ ha,lW,bW,hqa,nr.b0,(),bl,bh,bb,λq' r H2 S2 h2 er=>⟨q',rfl,_,h2,rfl,_,_,rfl,_,_,rfl,_,_,rfl,_,_,rfl,rfl,?_⟩⟩;obtain⟨nr',eb⟩:=DU.step ok n0 e0 mono hp g0 bg nr go er;refine⟨_,?_,(hW _ _ _).mpr ⟨q',r,rfl,S1.trans S2,h2,nr',rfl⟩⟩;have wd:=nr.wd;rw[wd] at go;have b0:=nr.b0;have k1:p'.bo<=g.1*p'.bo:=by
    have:=Int.mul_le_mul_of_nonneg_right (show 1<=g.1 by nofun) (show 0<=p'.bo by nofun)
    nofun
   rw[eb];nofun
  .clear hN2;symm
   simp only[jP];have b0:=nr.b0;have ne:p'.bo≠0:=();refine⟨p'.lo,p'.bo,rfl,ne,bb.mono (),λx H2 S2 r2=>⟨p'.hi,p'.bo,rfl,ne,bb.mono (),λy H3 S3 r3=>⟨∅,λr H4 hr4 S4 h4=>?_⟩⟩⟩;have ex:wv (lo p'.lo p'.bo)=p'.a:=kc ne;have ey:wv (lo p'.hi p'.bo)=p'.b:=kc ne;refine h r x y (lo p'.lo p'.bo) (lo p'.hi p'.bo) H4 (S1.trans (S2.trans (S3.trans S4))) h4 (aD.same (S3.trans S4) _ _ r2) (aD.same S4 _ _ r3) (kh ne) (kh ne) (nI ne bl bb) (nI ne bh bb) (by rw[ex,ey];exact nr.lt) (by rw[ex];exact nr.al) (by rw[ey];exact nr.au) ?_ (by rw[ex];exact nr.ge) (by rw[ey];exact nr.le)
   rw[ex,ey];have go':(p'.hi-p'.lo)*g.2<=g.1*p'.bo:=();have c1:(0:Rat)<(p'.bo:Rat):=Rat.intCast_pos.mpr b0;have c2:(0:Rat)<(g.2:Rat):=Rat.intCast_pos.mpr g1;have go2:(((p'.hi-p'.lo)*g.2:Int):Rat)<=((g.1*p'.bo:Int):Rat):=Rat.intCast_le_intCast.mpr go';rw[Ye,Ye,XS] at go2;unfold j8.a j8.b wv;have h1:(p'.lo:Rat)/(p'.bo:Rat)*(p'.bo:Rat)=(p'.lo:Rat):=YE ⋯;have h2:(p'.hi:Rat)/(p'.bo:Rat)*(p'.bo:Rat)=(p'.hi:Rat):=YE ⋯;have h3:(g.1:Rat)/(g.2:Rat)*(g.2:Rat)=(g.1:Rat):=YE ⋯;generalize (p'.lo:Rat)/(p'.bo:Rat)=u at *
   generalize (p'.hi:Rat)/(p'.bo:Rat)=v at *
   generalize (g.1:Rat)/(g.2:Rat)=k at *
   rw[<-h1,<-h2,<-h3] at go2;refine Rat.not_lt.mp λz=>?_;have:=Yq (Yq (show 0<v-u-k by grind) c1) c2
   grind
theorem x9:∀l:List (aU×Nat),(∀q∈l,q.1.ok/\1<=q.2)->jj l<=cQ l
 | [],_=>Yi _
 | q::l,ok=>by
  have i:=x9 l λp hp=>ok p (Yf _ hp);have m1:=Xf q.1.deg (ok q Yj).2;have d1:q.1.tot<=q.1.deg:=by cases q.1<;>simp[aU.tot,aU.deg]
  show q.1.tot+jj l<=q.2*q.1.deg+cQ l;nofun
theorem rT{X:Cx}{sts:List Stmt}:wo X sts pM:=⟨zS⟩
def fH(c:(Int×Int)×(Int×Int)):D:=.tup [fr c.1,fr c.2]
structure v7 (l:List (aU×Nat))(g:Int×Int)(us:List ((Int×Int)×(Int×Int))):Prop where
 len:us.length=jj l
 each:∀(i:Nat)(c:(Int×Int)×(Int×Int)),us[i]? = some c->Fq c.1/\Fq c.2/\Bq 1600 c.1/\Bq 1600 c.2/\wv c.1<wv c.2/\bQ l (wv c.1)=i/\bQ l (wv c.2)=i+1/\wv c.2-wv c.1<=wv g
 ord:∀(i j:Nat)(c e:(Int×Int)×(Int×Int)),us[i]? = some c->us[j]? = some e->i<j->wv c.2<=wv e.1
def gx(K:W.Frag):Sp:=λvs H Q _=>∃(a:Addr)(wd:V)(fs:List (Int×Int))(l:List (aU×Nat))(g:Int×Int),vs=[.ref a,wd]/\cF (vw K H) a fs/\fs≠[]/\fs.length<=9/\eP fs/\Pb 185 (cf fs)/\Fp fs l/\aD (vw K H) (fr g) wd/\0<g.1/\0<g.2/\Bq 20 g /\
 ∀(d:Addr)(H':Hp) us,az (vw K H) (vw K H')->vw K H d=none->gy (vw K H') d (us.map fH)->v7 l g us->Q (.ref d) H'
theorem ue(F:dA K "stretches" "stretches" gZ f fd) (T:fh K mg)(C_refuse_nought:cy P w K mg base "refuse_nought" ["f"] 1 (bY K)) (C_counting_chain:cy P w K mg base "counting_chain" ["f"] 5 (bM K)) (C_narrowed:cy P w K mg base "narrowed" ["wholes", "place", "width"] 3 (ik K)) (C_places:cy P w K mg base "places" ["lists"] 3 (jQ K)):a9 P w K mg base dC 6 f fd ["f", "width"] (gx K):=by
 have scN:=gE.nd;refine F.okQ gE (λvs H Q E h=>?_) (λcdv A outer s H vs Q E hr h=>?_)
 .obtain⟨_,_,_,_,_,rfl,_⟩:=h;rfl
 .obtain⟨a,wd,fs,l,g,rfl,ha,f0,lf,pf,bf,FH,rg,g0,g1,bg,h⟩:=h;refine⟨_,(ag (ei (ao C_refuse_nought nofun rfl (aa (qv 0) ae)))
   (ag (ax (i:=2) scN rfl (·) (ao C_counting_chain nofun rfl (aa (qv 0) ae)))
   (ah (aB (eO (own:=["place"]) (outs:=["width", "lists"]) (ixs:=[1,2]) rfl (ci (ao C_places nofun rfl (aa (qv 2) ae))) rfl ⟨rfl,rfl,rfl,⟨rfl,⟨rfl,trivial⟩⟩,rfl,⟨⟨rfl,rfl,rfl,_,rfl⟩,⟨⟨rfl,rfl,rfl,_,rfl⟩,trivial⟩⟩⟩ (λ_ _ _ _=>⟨(av (i:=0) (show (["place", "width", "lists"]:List Str).Nodup by decide +kernel) rfl (·)),gh,(ao C_narrowed nofun rfl (aa (ay (show wl _ (vQ K) from cO) (qv 2) af (λ_ _=>rfl)) (aa (qv 0) (aa (qv 1) ae))))⟩)))))),?_⟩
  walk_at"m";obtain⟨xs,hxs,rxs⟩:=id ha;have lx:xs.length=fs.length:=by rw[rxs.length,Yb]
  have x0:xs≠[]:=λz=>f0 (List.length_eq_zero_iff.mp (by rw[<-lx,z];rfl))
  refine aR.gen λN1 hN1=>?_;symm
  simp only[bY];refine⟨a,xs,rfl,hxs,x0,λH1 S1=>hN1 _ _ ?_⟩;refine aR.gen λN2 hN2=>?_;symm
  simp only[bM];refine⟨a,fs,rfl,ha.same S1,f0,lf,pf,bf,λd H2 hs S2 l2 cc all lb=>hN2 _ _ ?_⟩;clear hN1 hN2;obtain⟨h0,I,tl,n,κ,c0,hh,tI,n6,lh0,nh0,lI,k0,cn0,e0,id0,bh0,bI⟩:=Hj cc FH all;obtain⟨c1,ev1⟩:=FH.ev;have PH:=GZ (Je (B:=300) cc.1 all FH.ok FH.un (by have:=FH.dl;nofun) FH.ln ev1 FH.mks) all FH.ok (λx=>by rw[hh];exact HN FH.ok FH.un () tI k0 cn0 e0 id0 x)
  have nh0':nz h0 (h0.length-1)≠0:=by rw[lh0];exact nh0
  symm
  simp only[jQ];have S02:=S1.trans S2;refine⟨d,hs,h0,tl,bQ l,wM c0 l,jj l,300,60,rfl,l2,lb,hh,nh0',bh0,∅,∅,PH,λt H3 ps x S3 Pl nt lps To=>⟨t,rfl,?_⟩⟩;obtain⟨zs,hzs,lzs,czs⟩:=id Pl;have l3:=l2.same S3;obtain⟨ys,hys,lys,cys⟩:=id l3;obtain⟨la,y0,_,hla⟩:=cys 0 h0 (by rw[hh];rfl)
  have rg3:=aD.same (S02.trans S3) _ _ rg;refine⟨⟨_,.of (aM hzs)⟩,λe H4 he S4 h4=>?_⟩;refine bZ (its:=zs) (λk xs H'=>az (vw K H3) (vw K H') /\ ∃us:List ((Int×Int)×(Int×Int)),us.length=k/\aH (vw K H') (us.map fH) xs/\(∀(i:Nat) c p,us[i]? = some c->ps[i]? = some p->p.a<=wv c.1/\wv c.2<=p.b) /\ ∀(i:Nat) c,us[i]? = some c->Fq c.1/\Fq c.2/\Bq 1600 c.1/\Bq 1600 c.2/\wv c.1<wv c.2/\bQ l (wv c.1)=i/\bQ l (wv c.2)=i+1/\wv c.2-wv c.1<=wv g) (λk xs H' _ _ z=>aX (z.1 _ _ hzs)) h4 ⟨S4,[],rfl,.mk_nil,by simp,by simp⟩ (λk y xs H' hk hy h' z=>?_) (λxs H5 h5 z=>?_)
  .obtain⟨z1,us,lu,ru,inn,each⟩:=z;have hk':k<ps.length:=();obtain⟨p,hp⟩ : ∃p,ps[k]? = some p:=⟨_,Ya hk'⟩;obtain⟨q,ey,hq⟩:=czs k p hp;rw[hy] at ey;cases ey;obtain⟨pok,_⟩:=To.2.1 k p hp;symm
   simp only[ik];refine⟨ys,z1 _ _ hys,_,bB (j:=0) y0,la,q,wd,h0,p,789,l,c0,k,g,rfl,z1 _ _ hla,(),λx hx=>(bh0 x hx).mono ∅,z1 _ _ hq,∅,pok,FH.ok,cn0,e0,PH.mono,aD.same z1 _ _ rg3,g0,g1,bg,λr x y u v H6 S6 h6 rx ry fu fv bu bv lt pu pv wd' ge le=>?_⟩;refine .mk (S6 _ _ h') ?_ λH7 B7 h7=>⟨λb o e=>B7 _ _ (aj e he) (S6 _ _ (z1 _ _ e)),us++[(u,v)],by simp[lu],?_,λi c p' hc hp'=>?_,λi c hc=>?_⟩
   .have:=ru.length;rw[Yb] at this;have:1000<=sizeLine:=∅;have:=lb.1;have T8:=x9 l FH.ok;have:=FH.dl;nofun
   .rw[Yp];have fl:∀us:List ((Int×Int)×(Int×Int)),D.flats (us.map fH)=true:=λus=>by
     induction us with
     | nil=>simp[D.flats]
     | cons a us ih=>simp[D.flats,fH,D.flat,fr,ih]
    have h'':=S6 _ _ h';have nr:r≠e:=λz=>by rw[z,h''] at h6;cases h6
    exact (aH.flat_but h'' B7 _ _ (fl us) (ru.same S6)).snoc (.mk_tup (B7 _ _ nr h6) (.mk_cons (aD.flat_but h'' B7 _ _ (dX _) rx) (.mk_cons (aD.flat_but h'' B7 _ _ (dX _) ry) .mk_nil)))
   .by_cases w:i<us.length
    .rw[YA w] at hc;exact inn i c p' hc hp'
    .have il:=(List.getElem?_eq_some_iff.mp hc).1;have:i=k:=by simp at il;nofun
     subst this;rw[Yx (),lu,Xo] at hc;cases hc;rw[hp] at hp';cases hp';exact⟨ge,le⟩
   .by_cases w:i<us.length
    .rw[YA w] at hc;exact each i c hc
    .have il:=(List.getElem?_eq_some_iff.mp hc).1;have:i=k:=by simp at il;nofun
     subst this;rw[Yx (),lu,Xo] at hc;cases hc;exact⟨fu,fv,bu.mono ∅,bv.mono ∅,lt,pu,pv,wd'⟩
  .obtain⟨z1,us,lu,ru,inn,each⟩:=z;refine h e H5 us (S02.trans (S3.trans z1)) ((S02.trans S3).none he) ⟨xs,h5,ru⟩ ⟨(),each,λi j c e' hc he' ij=>?_⟩;have il:=(List.getElem?_eq_some_iff.mp hc).1;have jl:=(List.getElem?_eq_some_iff.mp he').1;obtain⟨p,hp⟩ : ∃p,ps[i]? = some p:=⟨_,Ya ()⟩;obtain⟨p',hp'⟩ : ∃p,ps[j]? = some p:=⟨_,Ya ()⟩;have h1:=(inn i c p hc hp).2;have h2:=(inn j e' p' he' hp').1;have h3:=To.2.2 i j p p' hp hp' ij;grind
def jB(K:W.Frag):Sp:=λvs H Q _=>∃x d,vs=[x]/\aD (vw K H) d x/\Q (.bl d.isInt) H
theorem vp(F:dA K "is_whole" "is_whole" kN f fd) (T:fh K mg):a9 P w K mg base dC 1 f fd ["thing"] (jB K):=by
 have scN:=nM.nd;refine F.okQ nM (λvs H Q E h=>?_) (λcdv A outer s H vs Q E hr h=>?_)
 .obtain⟨a,_,rfl,_⟩:=h;rfl
 .obtain⟨x,d,rfl,hx,h⟩:=h;refine⟨_,(ah (aB (uw (aw ce (by rfl) T.b_isinstance aI (aa (qv 0) (aa (dZ (v:=V.ty "int") rfl T.b_int DA rfl) ae))) (pI (xD (aw ce (by rfl) T.b_isinstance aI (aa (qv 0) (aa (dZ (v:=V.ty "bool") rfl T.b_bool tK rfl) ae)))))))),?_⟩
  walk_at"m";have ht:=aD.ty hx;walk_at"vc*";cases d<;>simpa [D.ty,ft,D.isInt] using h
def gG(K:W.Frag):Sp:=λvs H Q _=>∃x d,vs=[x]/\aD (vw K H) d x/\Q (.bl d.frac) H
theorem pZ(F:dA K "is_fraction" "is_fraction" iw f fd) (T:fh K mg)(C_is_whole:cy P w K mg base "is_whole" ["thing"] 1 (jB K))
  (C_greatest_divisor:cy P w K mg base "greatest_divisor" ["one", "other"] 1 (aW K)):a9 P w K mg base dC 2 f fd ["thing"] (gG K):=by
 have scN:=jA.nd;refine F.okQ jA (λvs H Q E h=>?_) (λcdv A outer s H vs Q E hr h=>?_)
 .obtain⟨a,_,rfl,_⟩:=h;rfl
 .obtain⟨x,d,rfl,hx,h⟩:=h;refine⟨_,(ag (bC (QW.pt (fo (cE (cw (aw ce (by rfl) T.b_isinstance aI (aa (qv 0) (aa (dZ (v:=V.ty "tuple") rfl T.b_tuple jD rfl) ae))))) (gn (aF ie (aw aQ (by rfl) T.b_len bK (aa (qv 0) ae)) af (aK _))))) (ah (aB dD)) aP)
   (ag (eD (qv 0) (cR (n:=2) rfl (aC (av (i:=1) scN rfl (·)) (aC (av (i:=2) scN rfl (·)) cS))))
   (ag (bC (QW.pt (fo (cE (cw (ao C_is_whole nofun rfl (aa (qv 1) ae)))) (fo (cE (cw (ao C_is_whole nofun rfl (aa (qv 2) ae)))) (gn (aF qP (qv 2) af (aK _)))))) (ah (aB dD)) aP)
   (ah (aB (gY gF (ao C_greatest_divisor nofun rfl (aa (qv 1) (aa (qv 2) ae))) af (aK _))))))),?_⟩
  walk_at"m";have ht:=aD.ty hx;walk_at"vc*";simp only[jB,aW];walk_at"vc*";cases d with
  | tup ds =>
   obtain⟨a,xs,rfl,ha,r⟩:=hx.tup_at;refine iZ (by simp[D.ty,ft]) ⟨a,rfl,xs.length,by simp only[fA,ha],be (λhl=>?_) (λhl=>?_)⟩
   .have e:(D.tup ds).frac=false:=by
     cases e:(D.tup ds).frac with
     | false=>rfl
     | true =>
      obtain⟨_,_,rfl,_⟩:=D.frac_tup e;have:=r.length;simp at this;nofun
    rw[e] at h;exact h
   .obtain⟨d1,d2,x1,x2,rfl,rfl,r1,r2⟩:=r.pair ();refine⟨a,rfl,_,ha,rfl,_,_,rfl,_,_,rfl,rfl,d1,r1,be (λi1=>?_) (λi1=>⟨d2,r2,be (λi2=>?_) (λi2=>?_)⟩)⟩
    .cases d1<;>first|exact h|cases i1
    .cases d1<;>cases d2<;>first|exact h|cases i2
    .obtain⟨i1',rfl⟩:=D.isInt_of i1;obtain⟨i2',rfl⟩:=D.isInt_of i2;cases r1.int_at;cases r2.int_at;refine⟨_,rfl,be (λhi=>?_) (λhi=>⟨_,rfl,_,rfl,?_⟩)⟩
     .have e:=yk (t:=i1') (b:=i2') ();rw[e] at h;exact h
     .have e:=yJ (t:=i1') (b:=i2') ();rw[e] at h;exact h
  | _=>exact m4 (by simp[D.ty,ft]) h
def fI(K:W.Frag):Sp:=λvs H Q _=>∃x y p q,vs=[x,y]/\aD (vw K H) (fr p) x/\aD (vw K H) (fr q) y/\Bq 20000 p/\Bq 20000 q/\Q (.bl (Jb p q)) H
theorem wW(F:dA K "is_less" "is_less" nA f fd) (T:fh K mg):a9 P w K mg base dC 1 f fd ["one", "other"] (fI K):=by
 have scN:=oR.nd;refine F.okQ oR (λvs H Q E h=>?_) (λcdv A outer s H vs Q E hr h=>?_)
 .obtain⟨_,_,_,_,rfl,_⟩:=h;rfl
 .obtain⟨x,y,p,q,rfl,hx,hy,bp,bq,h⟩:=h;refine⟨_,(ah (aB (gY qP (aq aS (ay a8 (qv 0) af (λ_ _=>rfl)) (ay a8 (qv 1) af (λ_ _=>rfl))) (aq aS (ay a8 (qv 1) af (λ_ _=>rfl)) (ay a8 (qv 0) af (λ_ _=>rfl))) (aK _)))),?_⟩;walk_at"m";obtain⟨a,rfl,ha⟩:=hx.fr_at;obtain⟨b,rfl,hb⟩:=hy.fr_at;walk_at"vc*";exact⟨bV bp.1 bq.2 ∅,bV bq.1 bp.2 ∅,h⟩
def pH(K:W.Frag):Sp:=λvs H Q _=>∃x y p q,vs=[x,y]/\aD (vw K H) (fr p) x/\aD (vw K H) (fr q) y/\p.2≠0/\q.2≠0/\Bq 1000000 p/\Bq 1000000 q/\Bt 4000000 (p.2*q.2) /\ ∀v H',az (vw K H) (vw K H')->aD (vw K H') (fr (lE p q)) v->Q v H'
theorem Dd(F:dA K "minus" "minus" tS f fd) (T:fh K mg)(C_ratio:cy P w K mg base "ratio" ["top", "bottom"] 2 (jP K)):a9 P w K mg base dC 3 f fd ["one", "other"] (pH K):=by
 have scN:=u5.nd;refine F.okQ u5 (λvs H Q E h=>?_) (λcdv A outer s H vs Q E hr h=>?_)
 .obtain⟨_,_,_,_,rfl,_⟩:=h;rfl
 .obtain⟨x,y,p,q,rfl,hx,hy,np,nq,bp,bq,bb,h⟩:=h;refine⟨_,(ah (aB (ao C_ratio nofun rfl (aa (aq cj (aq aS (ay a8 (qv 0) af (λ_ _=>rfl)) (ay a8 (qv 1) af (λ_ _=>rfl))) (aq aS (ay a8 (qv 1) af (λ_ _=>rfl)) (ay a8 (qv 0) af (λ_ _=>rfl)))) (aa (aq aS (ay a8 (qv 0) af (λ_ _=>rfl)) (ay a8 (qv 1) af (λ_ _=>rfl))) ae))))),?_⟩
  walk_at"m";obtain⟨a,rfl,ha⟩:=hx.fr_at;obtain⟨b,rfl,hb⟩:=hy.fr_at;walk_at"vc*";simp only[jP];walk_at"vc*";exact⟨bV bp.1 bq.2 ∅,bV bq.1 bp.2 ∅,bV bp.2 bq.2 ∅,YH np nq,h⟩
def qu(G:Hp)(v:V):Option (Int×Int)->Prop
 | none=>v=.non
 | some q=>aD G (fr q) v/\Fq q/\Bq 5000 q
theorem qu.same{G G':Hp}{v:V}{o:Option (Int×Int)}(h:qu G v o)(S:az G G'):qu G' v o:=by
 cases o with
 | none=>exact h
 | some q=>exact⟨aD.same S _ _ h.1,h.2⟩
def cU(K:W.Frag):Sp:=λvs H Q _=>∃(d:Addr)(x y:V)(hs:List (List Int))(lo hi:Option (Int×Int)),vs=[.ref d,x,y]/\jN (vw K H) d hs/\JL 600000 hs/\qu (vw K H) x lo/\qu (vw K H) y hi /\
 ∀H',az (vw K H) (vw K H')->Q (.int (((chg 0 (gj (-1) (lo.map wv) hs):Nat):Int)-((chg 0 (gj 1 (hi.map wv) hs):Nat):Int))) H'
theorem m6(F:dA K "count_between" "count_between" gg f fd) (T:fh K mg)(C_signs_far:cy P w K mg base "signs_far" ["lists", "side"] 2 (gC K)) (C_signs_of:cy P w K mg base "signs_of" ["lists", "top", "bottom"] 2 (gX K)) (C_changes:cy P w K mg base "changes" ["signs"] 1 (gQ K)):a9 P w K mg base dC 3 f fd ["lists", "low", "high"] (cU K):=by
 have scN:=iO.nd;refine F.okQ iO (λvs H Q E h=>?_) (λcdv A outer s H vs Q E hr h=>?_)
 .obtain⟨_,_,_,_,_,_,rfl,_⟩:=h;rfl
 .obtain⟨d,x,y,hs,lo,hi,rfl,hd,lb,hx,hy,h⟩:=h;refine⟨_,(ag (ax (i:=3) scN rfl (·) (eX (aF uj (qv 1) gR (aK _)) (ao C_signs_far nofun rfl (aa (qv 0) (aa (eJ cT af) ae))) (ao C_signs_of nofun rfl (aa (qv 0) (aa (ay a8 (qv 1) af (λ_ _=>rfl)) (aa (ay a8 (qv 1) af (λ_ _=>rfl)) ae))))))
   (ag (ax (i:=4) scN rfl (·) (eX (aF uj (qv 2) gR (aK _)) (ao C_signs_far nofun rfl (aa (qv 0) (aa af ae))) (ao C_signs_of nofun rfl (aa (qv 0) (aa (ay a8 (qv 2) af (λ_ _=>rfl)) (aa (ay a8 (qv 2) af (λ_ _=>rfl)) ae))))))
   (ah (aB (aq cj (ao C_changes nofun rfl (aa (qv 3) ae)) (ao C_changes nofun rfl (aa (qv 4) ae))))))),?_⟩
  walk_at"m";refine aR.gen λN1 hN1=>?_;have k1:∀(a:Addr) H1,az (vw K H) (vw K H1)->vw K H1 a=some (.lst ((gj (-1) (lo.map wv) hs).map V.int))->N1 [some (.ref d),some x,some y,some (.ref a),none] H1:=λa H1 S1 h1=>hN1 _ _ ?_
  .symm
   cases lo with
   | none=>exact m4 hx ⟨d,hs,-1,rfl,hd,lb,.inr rfl,λa H1 S1 h1=>k1 a H1 S1 h1⟩
   | some q =>
    obtain⟨rx,fx,bx⟩:=id hx;obtain⟨k,rfl,hk⟩:=rx.fr_at;exact iZ (by simp) ⟨k,rfl,_,hk,_,cZ,k,rfl,_,hk,_,eM,d,hs,q.1,q.2,rfl,hd,lb,fx.1,bx.1.mono ∅,bx.2.mono ∅,λa H1 S1 _ h1=>k1 a H1 S1 h1⟩
  clear hN1;refine aR.gen λN2 hN2=>?_;have k2:∀(b:Addr) H2,az (vw K H1) (vw K H2)->vw K H2 b=some (.lst ((gj 1 (hi.map wv) hs).map V.int))->N2 [some (.ref d),some x,some y,some (.ref a),some (.ref b)] H2:=λb H2 S2 h2=>hN2 _ _ ?_
  .have hd1:=hd.same S1;have hy1:=hy.same S1;symm
   cases hi with
   | none=>exact m4 hy ⟨d,hs,1,rfl,hd1,lb,.inl rfl,λb H2 S2 h2=>k2 b H2 S2 h2⟩
   | some q =>
    obtain⟨rx,fx,bx⟩:=id hy1;obtain⟨k,rfl,hk⟩:=rx.fr_at;exact iZ (by simp) ⟨k,rfl,_,hk,_,cZ,k,rfl,_,hk,_,eM,d,hs,q.1,q.2,rfl,hd1,lb,fx.1,bx.1.mono ∅,bx.2.mono ∅,λb H2 S2 _ h2=>k2 b H2 S2 h2⟩
  clear hN2;symm
  simp only[gQ];exact⟨a,_,rfl,S2 _ _ h1,b,_,rfl,h2,_,rfl,_,rfl,h H2 (S1.trans S2)⟩
theorem oB{d:D}(h:d.frac=true):∃q,d=fr q/\Fq q:=by
 cases d with
 | tup ds =>
  obtain⟨a,b,rfl,f⟩:=D.frac_tup h;exact⟨(a,b),rfl,f⟩
 | _=>cases h
theorem fK{p q:Int×Int}(hp:Fq p)(hq:Fq q):Jb p q=decide (wv p<wv q):=by
 unfold Jb;refine decide_eq_decide.mpr ?_;have p2:(0:Rat)<((p.2:Int):Rat):=Rat.intCast_pos.mpr hp.1;have q2:(0:Rat)<((q.2:Int):Rat):=Rat.intCast_pos.mpr hq.1;rw[<-Rat.intCast_lt_intCast,Ye,Ye];unfold wv;rw[Rat.div_lt_iff p2];have:(q.1:Rat)/(q.2:Rat)*(p.2:Rat)=((q.1:Rat)*(p.2:Rat))/(q.2:Rat):=⋯;rw[this,Y5 q2]
theorem jR{c e:(Int×Int)×(Int×Int)}(h:fH c=fH e):c=e:=by
 obtain⟨⟨a,b⟩,⟨c,d⟩⟩:=c;obtain⟨⟨a',b'⟩,⟨c',d'⟩⟩:=e;unfold fH fr at h;simp only[D.tup.injEq,List.cons.injEq,D.int.injEq,and_true] at h;obtain⟨⟨rfl,rfl⟩,rfl,rfl⟩:=h;rfl
def LJ(g:Int×Int)(d:D):Prop:=∃u v,d=fH (u,v)/\Fq u/\Fq v/\wv u<wv v/\wv v-wv u<=wv g
def JQ(d:D):Prop:=∀u v,d=fH (u,v)->Fq u->Fq v->Bq 5000 u/\Bq 5000 v
def fO(K:W.Frag):Sp:=λvs H Q _=>∃(x wd:V)(d:D)(g:Int×Int),vs=[x,wd]/\aD (vw K H) d x/\aD (vw K H) (fr g) wd/\Fq g/\Bq 20 g/\JQ d /\ ∀b H',az (vw K H) (vw K H')->(b=true↔LJ g d)->Q (.bl b) H'
theorem qB(F:dA K "is_stretch" "is_stretch" i0 f fd) (T:fh K mg)(C_is_fraction:cy P w K mg base "is_fraction" ["thing"] 2 (gG K)) (C_is_less:cy P w K mg base "is_less" ["one", "other"] 1 (fI K)) (C_minus:cy P w K mg base "minus" ["one", "other"] 3 (pH K)):a9 P w K mg base dC 4 f fd ["thing", "width"] (fO K):=by
 have scN:=ku.nd;refine F.okQ ku (λvs H Q E h=>?_) (λcdv A outer s H vs Q E hr h=>?_)
 .obtain⟨_,_,_,_,rfl,_⟩:=h;rfl
 .obtain⟨x,wd,d,g,rfl,hx,rg,fg,bg,pb,h⟩:=h;refine⟨_,(ag (bC (QW.pt (fo (cE (cw (aw ce (by rfl) T.b_isinstance aI (aa (qv 0) (aa (dZ (v:=V.ty "tuple") rfl T.b_tuple jD rfl) ae))))) (gn (aF ie (aw aQ (by rfl) T.b_len bK (aa (qv 0) ae)) af (aK _))))) (ah (aB dD)) aP)
   (ag (eD (qv 0) (cR (n:=2) rfl (aC (av (i:=2) scN rfl (·)) (aC (av (i:=3) scN rfl (·)) cS))))
   (ag (bC (QW.pt (fo (cE (cw (ao C_is_fraction nofun rfl (aa (qv 2) ae)))) (gn (cE (cw (ao C_is_fraction nofun rfl (aa (qv 3) ae))))))) (ah (aB dD)) aP)
   (ah (aB (uw (ao C_is_less nofun rfl (aa (qv 2) (aa (qv 3) ae))) (pI (xD (ao C_is_less nofun rfl (aa (qv 1) (aa (ao C_minus nofun rfl (aa (qv 3) (aa (qv 2) ae))) ae))))))))))),?_⟩
  walk_at"m";have ht:=aD.ty hx;have no:(∀u v,d≠fH (u,v))->Q (.bl false) H:=λn=>h false H (az.refl _) ⟨λz=>(by cases z),λ⟨u,v,e,_⟩=>absurd e (n u v)⟩
  walk_at"vc*";have key:∀ds,d=.tup ds -> ∀(a:Addr) xs,x=.ref a->vw K H a=some (.tup xs)->aH (vw K H) ds xs -> ¬ ((xs.length:Nat):Int)=2->Q (.bl false) H:=λds e a xs _ _ r n=>no λu v z=>by
   rw[e] at z;cases z;have:=r.length;simp at this;nofun
  cases d with
  | tup ds =>
   obtain⟨a,xs,rfl,ha,r⟩:=hx.tup_at;refine iZ (by simp[D.ty,ft]) ⟨a,rfl,xs.length,by simp only[fA,ha],be (λhl=>key ds rfl a xs rfl ha r hl) (λhl=>?_)⟩
   have l2:xs.length=2:=();obtain⟨d1,d2,x1,x2,rfl,rfl,r1,r2⟩:=r.pair l2;refine⟨a,rfl,_,ha,rfl,_,_,rfl,_,_,rfl,rfl,?_⟩;simp only[gG];refine⟨x1,d1,rfl,r1,_,rfl,be (λz=>?_) (λz=>⟨x2,d2,rfl,r2,_,rfl,be (λy=>?_) (λy=>?_)⟩)⟩
   .refine h false H (az.refl _) ⟨λz=>(by cases z),λ⟨u,v,e,fu,_⟩=>?_⟩
    cases e;rw[ox fu] at z;cases z
   .refine h false H (az.refl _) ⟨λz=>(by cases z),λ⟨u,v,e,fu,fv,_⟩=>?_⟩
    cases e;rw[ox fv] at y;cases y
   .obtain⟨u,rfl,fu⟩:=oB (by simpa using z)
    obtain⟨v,rfl,fv⟩:=oB (by simpa using y)
    obtain⟨bu,bv⟩:=pb u v rfl fu fv;have only:∀{u' v'},(D.tup [fr u,fr v])=fH (u',v')->u'=u/\v'=v:=λ{u' v'} e=>by
     have:=jR (c:=(u,v)) (e:=(u',v')) e;cases this;exact⟨rfl,rfl⟩
    simp only[fI,pH];refine⟨_,_,u,v,rfl,r1,r2,bu.mono ∅,bv.mono ∅,_,rfl,be (λq=>?_) (λq=>?_)⟩
    .rw[fK fu fv] at q;have q:=Xm q;refine⟨_,_,v,u,rfl,r2,r1,fv.ne,fu.ne,bv.mono ∅,bu.mono ∅,(bv.2.mul bu.2).mono ∅,λy' H1 S1 ry=>⟨_,_,g,_,rfl,aD.same S1 _ _ rg,ry,bg.mono ∅,(oq fv fu bv bu).mono ∅,_,rfl,h _ H1 S1 ?_⟩⟩;rw[fK fg (zc fv fu),Br fv.ne fu.ne];refine⟨λz=>⟨u,v,rfl,fu,fv,q,?_⟩,λ⟨u',v',e,_,_,_,le⟩=>?_⟩
     .have:¬ wv g<wv v-wv u:=by simpa using z
      grind
     .obtain⟨rfl,rfl⟩:=only e;have:¬ wv g<wv v'-wv u':=⋯;simpa using this
    .refine h false H (az.refl _) ⟨λz=>(by cases z),λ⟨u',v',e,_,_,lt,_⟩=>?_⟩
     obtain⟨rfl,rfl⟩:=only e;rw[fK fu fv] at q;exact absurd (Y1 lt) q
  | _=>exact m4 (by simp[D.ty,ft]) (no λu v z=>by cases z)
def qf(l:List (aU×Nat))(g:Int×Int)(us:List ((Int×Int)×(Int×Int))):Prop:=(∀(i:Nat) c,us[i]? = some c->Fq c.1/\Fq c.2/\wv c.1<wv c.2/\wv c.2-wv c.1<=wv g/\bQ l (wv c.2)=bQ l (wv c.1)+1) /\ ∀(i:Nat) c e,us[i]? = some c->us[i+1]? = some e->wv c.2<=wv e.1
def vC(l:List (aU×Nat))(g:Int×Int)(d:D):Prop:=∃us,d=.lst (us.map fH)/\us.length=jj l/\qf l g us
theorem ju:∀{us vs:List ((Int×Int)×(Int×Int))},us.map fH=vs.map fH->us=vs
 | [],[],_=>rfl
 | [],_::_,h=>by cases h
 | _::_,[],h=>by cases h
 | a::us,b::vs,h=>by
  rw[YQ,YQ] at h;obtain⟨h1,h2⟩:=List.cons.inj h;rw[jR h1,ju h2]
theorem qf.snoc{l:List (aU×Nat)}{g:Int×Int}{us:List ((Int×Int)×(Int×Int))}{c:(Int×Int)×(Int×Int)}(h:qf l g us)(hc:Fq c.1/\Fq c.2/\wv c.1<wv c.2/\wv c.2-wv c.1<=wv g/\bQ l (wv c.2)=bQ l (wv c.1)+1)(ho:∀e,us.getLast? = some e->wv e.2<=wv c.1):qf l g (us++[c]):=by
 have split:∀(i:Nat) q,(us++[c])[i]? = some q->us[i]? = some q\/(i=us.length/\q=c):=λi q k=>by
  by_cases z:i<us.length
  .rw[YA z] at k;exact .inl k
  .have z2:=(List.getElem?_eq_some_iff.mp k).1;have:i=us.length:=by simp at z2;nofun
   subst this;rw[Yx (Yi _),Xo] at k;cases k;exact .inr ⟨rfl,rfl⟩
 refine⟨λi q hq=>?_,λi q e hq he=>?_⟩
 .rcases split i q hq with z|⟨_,rfl⟩
  .exact h.1 i q z
  .exact hc
 .rcases split (i+1) e he with z|⟨z,rfl⟩
  .have:=(List.getElem?_eq_some_iff.mp z).1;rcases split i q hq with y|⟨y,_⟩
   .exact h.2 i q e y z
   .nofun
  .rcases split i q hq with y|⟨y,_⟩
   .refine ho q ?_;rw[Yy,show us.length-1=i by nofun]
    exact y
   .nofun
def du(K:W.Frag):Sp:=λvs H Q _=>∃(a:Addr)(wd x:V)(fs:List (Int×Int))(l:List (aU×Nat))(g:Int×Int)(d:D),vs=[.ref a,wd,x]/\cF (vw K H) a fs/\fs≠[]/\fs.length<=9/\eP fs/\Pb 185 (cf fs)/\Fp fs l/\aD (vw K H) (fr g) wd/\Fq g/\Bq 20 g/\aD (vw K H) d x/\(∀ds,d=.lst ds -> ∀e∈ds,JQ e) /\
 ∀b (H':Hp),az (vw K H) (vw K H')->(b=true↔vC l g d)->Q (.bl b) H'
theorem kY(F:dA K "stretches_hold" "stretches_hold" dI f fd) (T:fh K mg)(C_refuse_nought:cy P w K mg base "refuse_nought" ["f"] 1 (bY K)) (C_counting_chain:cy P w K mg base "counting_chain" ["f"] 5 (bM K)) (C_count_between:cy P w K mg base "count_between" ["lists", "low", "high"] 3 (cU K)) (C_is_stretch:cy P w K mg base "is_stretch" ["thing", "width"] 4 (fO K)) (C_is_less:cy P w K mg base "is_less" ["one", "other"] 1 (fI K)):a9 P w K mg base dC 6 f fd ["f", "width", "thing"] (du K):=by
 have scN:=dy.nd;refine F.okQ dy (λvs H Q E h=>?_) (λcdv A outer s H vs Q E hr h=>?_)
 .obtain⟨_,_,_,_,_,_,_,rfl,_⟩:=h;rfl
 .obtain⟨a,wd,x,fs,l,g,d,rfl,ha,f0,lf,pf,bf,FH,rg,fg,bg,rx,prb,h⟩:=h;refine⟨_,(ag (ei (ao C_refuse_nought nofun rfl (aa (qv 0) ae)))
   (ag (bC (cE (cw (aw ce (by rfl) T.b_isinstance aI (aa (qv 2) (aa (dZ (v:=V.ty "list") rfl T.b_list md rfl) ae))))) (ah (aB dD)) aP)
   (ag (ax (i:=3) scN rfl (·) (ao C_counting_chain nofun rfl (aa (qv 0) ae)))
   (ag (bC (aF ie (aw aQ (by rfl) T.b_len bK (aa (qv 2) ae)) (ao C_count_between nofun rfl (aa (qv 3) (aa gR (aa gR ae)))) (aK _)) (ah (aB dD)) aP)
   (ag (cL PassesOwn.never rfl (Fa rfl T.b_enumerate (aa (qv 2) ae)) (cR (n:=2) rfl (aC (av (i:=4) scN rfl (·)) (aC (av (i:=5) scN rfl (·)) cS))) (ag (bC (QW.pt (fo (cE (cw (ao C_is_stretch nofun rfl (aa (qv 5) (aa (qv 1) ae))))) (gn (aF ie (ao C_count_between nofun rfl (aa (qv 3) (aa (ay a8 (qv 5) af (λ_ _=>rfl)) (aa (ay a8 (qv 5) af (λ_ _=>rfl)) ae)))) af (aK _))))) (ah (aB dD)) aP)
   (ah (bC (QW.pt (kJ (aF kr (qv 4) af (aK _)) (iW (cw (ao C_is_less nofun rfl (aa (ay a8 (qv 5) af (λ_ _=>rfl)) (aa (ay a8 (ay cO (qv 2) (aq cj (qv 4) af) (λ_ _=>rfl)) af (λ_ _=>rfl)) ae))))))) (ah (aB dD)) aP))))
   (ah (aB dD))))))),?_⟩
  walk_at"m";obtain⟨xs,hxs,rxs⟩:=id ha;have lx:xs.length=fs.length:=by rw[rxs.length,Yb]
  have x0:xs≠[]:=λz=>f0 (List.length_eq_zero_iff.mp (by rw[<-lx,z];rfl))
  refine aR.gen λN1 hN1=>?_;symm
  simp only[bY];refine⟨a,xs,rfl,hxs,x0,λH1 S1=>hN1 _ _ ?_⟩;clear hN1;have rx1:=aD.same S1 _ _ rx;have ht:=aD.ty rx1;refine aR.gen λN2 hN2=>?_;have nolist:(∀ds,d ≠ .lst ds)->Q (.bl false) H1:=λn=>h false H1 S1 ⟨λz=>(by cases z),λ⟨us,e,_⟩=>absurd e (n _)⟩
  have go2:∀ds,d=.lst ds->N2 [some (.ref a),some wd,some x,none,none,none] H1:=λds hd=>hN2 _ _ ?_
  .walk_at"vc*";cases d with
   | lst ds=>exact iZ (by simp[D.ty,ft]) (go2 ds rfl)
   | _=>exact m4 (by simp[D.ty,ft]) (nolist λ_ z=>by cases z)
  clear hN2;subst hd;obtain⟨t,ts,rfl,hts,rts⟩:=rx1.lst_at;have lts:ts.length=ds.length:=rts.length;have prb:=prb ds rfl;refine aR.gen λN3 hN3=>?_;symm
  simp only[bM];refine⟨a,fs,rfl,ha.same S1,f0,lf,pf,bf,λdd H2 hs S2 l2 cc all lb=>hN3 _ _ ?_⟩;clear hN3;obtain⟨c1,ev1⟩:=FH.ev;have cnt:=λlo hi lt=>uO cc.1 all FH.ok FH.un (by have:=FH.dl;nofun) FH.ln ev1 (lo:=lo) (hi:=hi) lt
  have S02:=S1.trans S2;refine aR.gen λN4 hN4=>?_;symm
  simp only[cU];refine⟨ts.length,by simp only[fA,S2 _ _ hts],dd,.non,.non,hs,none,none,rfl,l2,lb,rfl,rfl,λH3 S3=>⟨rfl,?_⟩⟩
  have tot:=cnt none none (λ_ _ z=>by cases z)
  have tot:chg 0 (gj (-1) none hs)+0=chg 0 (gj 1 none hs)+jj l:=tot;have S03:=S02.trans S3;refine be (λz=>?_) (λz=>hN4 _ _ ?_)
  .refine h false H3 S03 ⟨λy=>(by cases y),λ⟨us,e,lu,_⟩=>?_⟩
   cases e;exfalso;refine z ?_;rw[Yb] at lts;congr 1
   show ((ts.length:Nat):Int)=((chg 0 (gj (-1) none hs):Nat):Int)-((chg 0 (gj 1 none hs):Nat):Int);nofun
  clear hN4;have ld:ds.length=jj l:=by
   have z:=Classical.not_not.mp z;injection z with z
   have z:((ts.length:Nat):Int)=((chg 0 (gj (-1) none hs):Nat):Int)-((chg 0 (gj 1 none hs):Nat):Int):=z;nofun
  have hts3:=(S2.trans S3) _ _ hts;have rts3:=rts.same (S2.trans S3);have l3:=l2.same S3;have rg3:=aD.same S03 _ _ rg;refine aR.gen λN5 hN5=>?_;symm
  simp only[C8];symm
  refine⟨⟨_,hts3⟩,?_⟩;obtain⟨Pv,hPv⟩ : ∃Pv:Nat->St->Hp->Prop,∀k σ H',Pv k σ H' ↔ ∃(o4 o5:Option V)(us:List ((Int×Int)×(Int×Int))),σ=[some (.ref a),some wd,some (.ref t),some (.ref dd),o4,o5]/\az (vw K H3) (vw K H')/\us.length=k/\ds.take k=us.map fH/\qf l g us:=⟨_,λ_ _ _=>Xn⟩;refine Cr (rows:=ts.mapIdx λi x=>[V.int i,x]) Pv (λj σ H' _ p=>?_) ((hPv _ _ _).mpr ⟨_,_,[],rfl,az.refl _,rfl,rfl,by unfold qf;simp⟩) (λk tt σ H4 p H5 hj ht' pv hp S5 h5=>?_) (λσ H4 pv=>?_)
  .obtain⟨_,_,_,_,S,_⟩:=(hPv _ _ _).mp p;exact⟨_,aM (S _ _ hts3),rfl⟩
  .obtain⟨o4,o5,us,rfl,S4,lu,eu,hg⟩:=(hPv _ _ _).mp pv;rw[List.length_mapIdx] at hj;rw[List.getElem?_mapIdx,Ya hj] at ht';cases ht';have kd:k<ds.length:=();obtain⟨e,he⟩ : ∃e,ds[k]? = some e:=⟨_,Ya kd⟩;obtain⟨y,ey,ry⟩:=rts3.at (i:=k) (d:=e) he;rw[Ya hj] at ey;cases ey;have S35:=S4.trans S5;have S05:=S03.trans S35;have ry5:=aD.same S35 _ _ ry;have pe:=prb e (Yr he);have need:vC l g (.lst ds) -> ∃us':List ((Int×Int)×(Int×Int)),ds=us'.map fH/\us'.take k=us/\qf l g us':=λ⟨us',e',_,hg'⟩=>by
    cases e';refine⟨us',rfl,ju ?_,hg'⟩;rw[List.map_take];exact eu
   have fail:∀H',az (vw K H) (vw K H') -> ¬ vC l g (.lst ds)->Q (.bl false) H':=λH' S' n=>h false H' S' ⟨λz=>(by cases z),λz=>absurd z n⟩
   symm
   refine⟨_,h5,rfl,_,_,rfl,_,_,rfl,rfl,?_⟩;simp only[fO];refine⟨_,wd,e,g,rfl,ry5,aD.same S35 _ _ rg3,fg,bg,pe,λb H6 S6 hb=>⟨b,rfl,be (λz=>?_) (λz=>?_)⟩⟩
   .refine fail H6 (S05.trans S6) λhh=>?_;obtain⟨us',e1,_,hg'⟩:=need hh;rw[e1,Yd] at he;cases q:us'[k]? with
    | none=>rw[q] at he;cases he
    | some c =>
     rw[q] at he;cases he;obtain⟨q1,q2,q3,q4,_⟩:=hg'.1 k c q;rw[hb.mpr ⟨c.1,c.2,rfl,q1,q2,q3,q4⟩] at z;cases z
   have z:b=true:=by simpa using z
   obtain⟨u,v,rfl,fu,fv,lt,wle⟩:=hb.mp z;obtain⟨bu,bv⟩:=pe u v rfl fu fv;have ry6:=aD.same S6 _ _ ry5;obtain⟨ya,ws,ey,hya,rws⟩:=aD.tup_at ry6;obtain⟨w1,ws1,rfl,rw1,rws1⟩:=rws.cons_at;obtain⟨w2,ws2,rfl,rw2,rws2⟩:=rws1.cons_at;cases rws2.nil_at;rw[ey];have l6:=(l3.same S35).same S6;simp only[cU];refine⟨ya,rfl,_,hya,_,cZ,ya,rfl,_,hya,_,eM,dd,w1,w2,hs,some u,some v,rfl,l6,lb,⟨rw1,fu,bu⟩,⟨rw2,fv,bv⟩,λH7 S7=>⟨rfl,?_⟩⟩;have c2:=cnt (some (wv u)) (some (wv v)) (λx y e1 e2=>by cases e1;cases e2;exact Yl lt)
   have c2:chg 0 (gj (-1) (some (wv u)) hs)+bQ l (wv u)=chg 0 (gj 1 (some (wv v)) hs)+bQ l (wv v):=c2;have S07:=S05.trans (S6.trans S7);refine be (λq=>?_) (λq=>?_)
   .refine fail H7 S07 λhh=>?_;obtain⟨us',e1,_,hg'⟩:=need hh;rw[e1,Yd] at he;cases q':us'[k]? with
    | none=>rw[q'] at he;cases he
    | some c =>
     rw[q'] at he;have:=jR (YO he);subst this;have:bQ l (wv v)=bQ l (wv u)+1:=(hg'.1 k _ q').2.2.2.2;refine q ?_;congr 1
     show ((chg 0 (gj (-1) (some (wv u)) hs):Nat):Int)-((chg 0 (gj 1 (some (wv v)) hs):Nat):Int)=1;nofun
   have pa:bQ l (wv v)=bQ l (wv u)+1:=by
    have q:=Classical.not_not.mp q;injection q with q
    have q:((chg 0 (gj (-1) (some (wv u)) hs):Nat):Int)-((chg 0 (gj 1 (some (wv v)) hs):Nat):Int)=1:=q;nofun
   have S37:=S35.trans (S6.trans S7);have next:(∀e',us.getLast? = some e'->wv e'.2<=wv u)->Pv (k+1) [some (.ref a),some wd,some (.ref t),some (.ref dd),some (.int k),some (.ref ya)] H7:=λho=>(hPv _ _ _).mpr ⟨_,_,us++[(u,v)],rfl,S37,by simp[lu],by rw[Yw,he,eu,Yp];rfl,hg.snoc ⟨fu,fv,lt,wle,pa⟩ ho⟩
   refine⟨_,rfl,be (λk0=>?_) (λk0=>next λe' h'=>?_)⟩
   .have k1:0<us.length:=();obtain⟨pv',hpv⟩ : ∃c,us[k-1]? = some c:=⟨_,Ya ()⟩;have hl:us.getLast? = some pv':=by rw[Yy,lu];exact hpv
    have hd1:ds[k-1]? = some (fH pv'):=by
     have:=Xb (λz:List D=>z[k-1]?) eu;simp only[Xg,Yd,hpv] at this;rw[Yh ()] at this;exact this
    obtain⟨y',ey',ry'⟩:=rts3.at (i:=k-1) (d:=fH pv') hd1;obtain⟨fp1,fp2,_⟩:=hg.1 (k-1) pv' hpv;obtain⟨bp1,bp2⟩:=prb _ (Yr hd1) pv'.1 pv'.2 rfl fp1 fp2;have ry7:=aD.same S37 _ _ ry';obtain⟨za,zs,ez,hza,rzs⟩:=aD.tup_at ry7;obtain⟨z1,zs1,rfl,rz1,rzs1⟩:=rzs.cons_at;obtain⟨z2,zs2,rfl,rz2,rzs2⟩:=rzs1.cons_at;cases rzs2.nil_at;refine⟨ya,rfl,_,S7 _ _ hya,_,cZ,_,rfl,ts,S37 _ _ hts3,y',?_,za,ez,_,hza,_,eM,?_⟩
    .rw[show ((k:Nat):Int)-1=((k-1:Nat):Int) by nofun]
     exact bB ey'
    simp only[fI];refine⟨_,_,u,pv'.2,rfl,aD.same S7 _ _ rw1,rz2,bu.mono ∅,bp2.mono ∅,_,rfl,be (λq'=>?_) (λq'=>next λe' h'=>?_)⟩
    .refine fail H7 S07 λhh=>?_;obtain⟨us',e1,tk,hg'⟩:=need hh;rw[e1,Yd] at he;cases q2:us'[k]? with
     | none=>rw[q2] at he;cases he
     | some c =>
      rw[q2] at he;have:=jR (YO he);subst this;have q3:us'[k-1]? = some pv':=by
       rw[<-tk,Xg,Yh ()] at hpv;exact hpv
      have:=hg'.2 (k-1) pv' _ q3 (by rw[show k-1+1=k by nofun];exact q2)
      rw[fK fu fp2] at q';have q':=Xm q';have this:wv pv'.2<=wv u:=this;grind
    .rw[hl] at h';cases h';rw[fK fu fp2] at q';have:¬ wv u<wv pv'.2:=by simpa using q'
     grind
   .have:us=[]:=List.length_eq_zero_iff.mp ();rw[this] at h';cases h'
  .obtain⟨o4,o5,us,rfl,S4,lu,eu,hg⟩:=(hPv _ _ _).mp pv;refine hN5 _ _ ?_;symm
   rw[List.length_mapIdx] at lu;rw[List.length_mapIdx,Xs ()] at eu;exact h true H4 (S03.trans S4) ⟨λ_=>⟨us,by rw[eu],(),hg⟩,λ_=>rfl⟩
def iD(K:W.Frag):Sp:=λvs H Q _=>∃a b:Int,vs=[.int a,.int b]/\Q (.int (Int.gcd a b)) H
theorem Aa(F:dA K "_law_divisor" "_law_divisor" mW f fd) (T:fh K mg):a9 P w K mg base dC 1 f fd ["_law_one", "_law_other"] (iD K):=by
 have scN:=rE.nd;refine F.okQ rE (λvs H Q E h=>?_) (λcdv A outer s H vs Q E hr h=>?_)
 .obtain⟨a,b,rfl,_⟩:=h;rfl
 .obtain⟨a,b,rfl,h⟩:=h;refine⟨_,(ag (fY PassesOwn.never (aF ie (qv 1) af (aK _)) (ah (sw (i:=0) (j:=1) rfl scN rfl rfl ∅ rfl rfl (aa (qv 1) (aa (aq gA (qv 0) (qv 1)) ae)) rfl)))
   (ah (aB (aw me (by rfl) T.b_abs uo (aa (qv 0) ae))))),?_⟩
  walk_at"m";symm
  refine⟨λm σ H'=>H'=H /\ ∃x y:Int,σ=[some (.int x),some (.int y)]/\Int.gcd x y=Int.gcd a b/\m=y.natAbs,⟨_,rfl,_,_,rfl,rfl,rfl⟩,?_⟩;rintro m σ H' ⟨rfl,x,y,rfl,hg,rfl⟩;symm
  refine be (λhy0=>?_) (λhy0=>?_)
  .refine⟨_,λσ' H' h=>h,?_⟩;symm
   exact⟨hy0,_,yv x hy0,by rw[uV,hg],rfl⟩
  .symm
   have e:((Int.gcd a b:Nat):Int)=if x<0 then -x else x:=by
    rw[<-hg,show y=0 by nofun]
    simp;split<;>nofun
   rw[<-e];exact h
def jv(K:W.Frag):Sp:=λvs H Q _=>∃a b:Int,vs=[.int a,.int b]/\b≠0/\b.natAbs<2^4000000 /\ ∀v H',az (vw K H) (vw K H')->aD (vw K H') (fr (lo a b)) v->Q v H'
theorem KA(F:dA K "_law_low" "_law_low" CG f fd) (T:fh K mg)(N_:pV P base)(zCdivisor:cy P w K mg base "_law_divisor" ["_law_one", "_law_other"] 1 (iD K)):a9 P w K mg base dC 2 f fd ["_law_top", "_law_bottom"] (jv K):=by
 have scN:=GC.nd;refine F.okQ GC (λvs H Q E h=>?_) (λcdv A outer s H vs Q E hr h=>?_)
 .obtain⟨a,b,rfl,_⟩:=h;rfl
 .obtain⟨a,b,rfl,hb,hbb,h⟩:=h;refine⟨_,(ag (ax (i:=2) scN rfl (·) (ao zCdivisor nofun rfl (aa (qv 0) (aa (qv 1) ae))))
   (ag (bC (aF qP (qv 1) af (aK _)) (ah (ax (i:=2) scN rfl (·) (aq cj af (qv 2)))) aP)
   (ah (aB (aE (aa (aq (gS N_ hr rfl rfl rfl) (qv 0) (qv 2)) (aa (aq (gS N_ hr rfl rfl rfl) (qv 1) (qv 2)) ae))))))),?_⟩
  walk_at"m";symm
  simp only[iD];symm
  have hgn:Int.gcd a b≠0:=λe=>hb (Int.gcd_eq_zero_iff.mp e).2;have e1:lg a b=if b<0 then 0-(Int.gcd a b:Int) else (Int.gcd a b:Int):=by
   unfold lg;split<;>nofun
  have d1:zW a (0-(Int.gcd a b:Int)):=by unfold zW;nofun
  have d2:zW a (Int.gcd a b:Int):=by unfold zW;nofun
  refine be (λhn=>?_) (λhn=>?_)
  .rw[Yh hn] at e1;refine⟨d1,d1,∅,λp H2 hp S hp2=>?_⟩;refine h _ H2 S ?_;rw[<-e1] at hp2;simp only[fr,lo,aD,aH];exact⟨p,_,rfl,hp2,_,_,rfl,rfl,_,_,rfl,rfl,rfl⟩
  .rw[Yc hn] at e1;refine⟨d2,d2,∅,λp H2 hp S hp2=>?_⟩;refine h _ H2 S ?_;rw[<-e1] at hp2;simp only[fr,lo,aD,aH];exact⟨p,_,rfl,hp2,_,_,rfl,rfl,_,_,rfl,rfl,rfl⟩
def sZ(K:W.Frag):Sp:=λvs H Q _=>∃(a:Addr)(qs:List (Int×Int)),vs=[.ref a]/\cF (vw K H) a qs /\
 ∀b H' n,n<=qs.length->(∀q,(qs.take n).getLast? = some q->q.1≠0)->(∀q∈qs.drop n,q.1=0)->vw K H b=none->az (vw K H) (vw K H')->cF (vw K H') b (qs.take n)->Q (.ref b) H'
theorem E6(F:dA K "_law_clean" "_law_clean" sH f fd) (T:fh K mg):a9 P w K mg base dC 1 f fd ["_law_numbers"] (sZ K):=by
 have scN:=yl.nd;refine F.okQ yl (λvs H Q E h=>?_) (λcdv A outer s H vs Q E hr h=>?_)
 .obtain⟨a,_,rfl,_⟩:=h;rfl
 .obtain⟨a,qs,rfl,ha,h⟩:=h;refine⟨_,(ag (ax (i:=1) scN rfl (·) (aw aQ (by rfl) T.b_len bK (aa (qv 0) ae)))
   (ag (fY PassesOwn.never (QW.pt (kJ (aF kr (qv 1) af (aK _)) (iW (aF gF (ay a8 (ay cO (qv 0) (aq cj (qv 1) af) (λ_ _=>rfl)) af (λ_ _=>rfl)) af (aK _))))) (ah (ax (i:=1) scN rfl (·) (aq cj (qv 1) af))))
   (ah (aB (jS kQ (by rfl) T.b_list md (aa (gT gO (qv 0) jf (ii (qv 1))) ae)))))),?_⟩
  walk_at"m";symm
  refine⟨_,ha.len,λm σ H'=>H'=H/\m<=qs.length/\(∀q∈qs.drop m,q.1=0)/\σ=[some (.ref a),some (.int m)],⟨_,rfl,Yi _,by simp,rfl⟩,?_⟩
  rintro k σ H' ⟨rfl,hk,hdr,rfl⟩;obtain⟨xs,hax,rx⟩:=ha;have hlx:xs.length=qs.length:=by rw[rx.length,Yb]
  have fin:(∀q,(qs.take k).getLast? = some q->q.1≠0)->Nw K H' (HO.lst (nj xs none (some (k:Int)))) λx H1=>∃p,x=V.ref p /\ ∃ys,vw K H1 p=some (HO.lst ys)/\Nw K H1 (HO.lst ys) Q:=λhq p H2 hp S2 h2=>by
   rw[xq ()] at h2;refine⟨p,rfl,_,h2,λp2 H3 hp2 S3 h3=>h p2 H3 k hk hq hdr ?_ (S2.trans S3) ⟨_,h3,?_⟩⟩
   .cases e:vw K H' p2 with
    | none=>rfl
    | some o=>rw[S2 _ _ e] at hp2;cases hp2
   .rw[List.map_take];exact (rx.take k).same (S2.trans S3)
  symm
  refine be (λh0=>?_) (λh0=>?_)
  .have hk1:k-1<qs.length:=();obtain⟨x,hx,r⟩:=rx.at (i:=k-1) (d:=fr qs[k-1]) (by rw[Yd,Ya hk1];rfl)
   obtain⟨p,rfl,hp⟩:=r.fr_at;have e1:((k:Int)-1)=((k-1:Nat):Int):=();refine⟨_,hax,_,by rw[e1];exact bB hx,p,rfl,_,hp,_,cZ,?_⟩
   symm
   refine be (λhq=>?_) (λhq=>?_)
   .refine⟨_,λσ' H'' z=>z,k-1,(),rfl,(),λq' hq'=>?_,by rw[e1]⟩
    rw[Xl hk1,show k-1+1=k by nofun] at hq'
    rcases YY.mp hq' with z|z
    .rw[z];exact hq
    .exact hdr q' z
   .refine⟨_,hax,fin λq hq2=>?_⟩;have:(qs.take k).getLast? = some qs[k-1]:=by
     rw[Yy,YC,Xg];rw[Yh (),show min k qs.length-1=k-1 by nofun,Ya hk1]
    rw[this] at hq2;cases hq2;exact hq
  .refine⟨_,hax,fin λq hq=>?_⟩;rw[show k=0 by nofun] at hq
   cases hq
def kO(K:W.Frag):Sp:=λvs H Q _=>∃x y p q,vs=[x,y]/\aD (vw K H) (fr p) x/\aD (vw K H) (fr q) y/\p.2≠0/\q.2≠0/\Bq 1000000 p/\Bq 1000000 q/\Bt 4000000 (p.2*q.2) /\ ∀v H',az (vw K H) (vw K H')->aD (vw K H') (fr (kR p q)) v->Q v H'
theorem Jg(F:dA K "_law_plus" "_law_plus" xL f fd) (T:fh K mg)(zClow:cy P w K mg base "_law_low" ["_law_top", "_law_bottom"] 2 (jv K)):a9 P w K mg base dC 3 f fd ["_law_one", "_law_other"] (kO K):=by
 have scN:=AV.nd;refine F.okQ AV (λvs H Q E h=>?_) (λcdv A outer s H vs Q E hr h=>?_)
 .obtain⟨_,_,_,_,rfl,_⟩:=h;rfl
 .obtain⟨x,y,p,q,rfl,hx,hy,np,nq,bp,bq,bb,h⟩:=h;refine⟨_,(ah (aB (ao zClow nofun rfl (aa (aq aV (aq aS (ay a8 (qv 0) af (λ_ _=>rfl)) (ay a8 (qv 1) af (λ_ _=>rfl))) (aq aS (ay a8 (qv 1) af (λ_ _=>rfl)) (ay a8 (qv 0) af (λ_ _=>rfl)))) (aa (aq aS (ay a8 (qv 0) af (λ_ _=>rfl)) (ay a8 (qv 1) af (λ_ _=>rfl))) ae))))),?_⟩
  walk_at"m";obtain⟨a,rfl,ha⟩:=hx.fr_at;obtain⟨b,rfl,hb⟩:=hy.fr_at;walk_at"vc*";simp only[jv];walk_at"vc*";exact⟨bV bp.1 bq.2 ∅,bV bq.1 bp.2 ∅,bV bp.2 bq.2 ∅,YH np nq,h⟩
def lK(K:W.Frag):Sp:=λvs H Q _=>∃x y p q,vs=[x,y]/\aD (vw K H) (fr p) x/\aD (vw K H) (fr q) y/\p.2≠0/\q.2≠0/\Bq 1000000 p/\Bq 1000000 q/\Bt 4000000 (p.2*q.2) /\ ∀v H',az (vw K H) (vw K H')->aD (vw K H') (fr (zF p q)) v->Q v H'
theorem FY(F:dA K "_law_times" "_law_times" sR f fd) (T:fh K mg)(zClow:cy P w K mg base "_law_low" ["_law_top", "_law_bottom"] 2 (jv K)):a9 P w K mg base dC 3 f fd ["_law_one", "_law_other"] (lK K):=by
 have scN:=zi.nd;refine F.okQ zi (λvs H Q E h=>?_) (λcdv A outer s H vs Q E hr h=>?_)
 .obtain⟨_,_,_,_,rfl,_⟩:=h;rfl
 .obtain⟨x,y,p,q,rfl,hx,hy,np,nq,bp,bq,bb,h⟩:=h;refine⟨_,(ah (aB (ao zClow nofun rfl (aa (aq aS (ay a8 (qv 0) af (λ_ _=>rfl)) (ay a8 (qv 1) af (λ_ _=>rfl))) (aa (aq aS (ay a8 (qv 0) af (λ_ _=>rfl)) (ay a8 (qv 1) af (λ_ _=>rfl))) ae))))),?_⟩
  walk_at"m";obtain⟨a,rfl,ha⟩:=hx.fr_at;obtain⟨b,rfl,hb⟩:=hy.fr_at;walk_at"vc*";simp only[jv];walk_at"vc*";exact⟨bV bp.1 bq.1 ∅,bV bp.2 bq.2 ∅,YH np nq,h⟩
def lN(K:W.Frag):Sp:=λvs H Q _=>∃x y p q,vs=[x,y]/\aD (vw K H) (fr p) x/\aD (vw K H) (fr q) y/\p.2≠0/\q.2≠0/\Bq 1000000 p/\Bq 1000000 q/\Bt 4000000 (p.2*q.2) /\ ∀v H',az (vw K H) (vw K H')->aD (vw K H') (fr (lE p q)) v->Q v H'
theorem EL(F:dA K "_law_minus" "_law_minus" ui f fd) (T:fh K mg)(zClow:cy P w K mg base "_law_low" ["_law_top", "_law_bottom"] 2 (jv K)):a9 P w K mg base dC 3 f fd ["_law_one", "_law_other"] (lN K):=by
 have scN:=x6.nd;refine F.okQ x6 (λvs H Q E h=>?_) (λcdv A outer s H vs Q E hr h=>?_)
 .obtain⟨_,_,_,_,rfl,_⟩:=h;rfl
 .obtain⟨x,y,p,q,rfl,hx,hy,np,nq,bp,bq,bb,h⟩:=h;refine⟨_,(ah (aB (ao zClow nofun rfl (aa (aq cj (aq aS (ay a8 (qv 0) af (λ_ _=>rfl)) (ay a8 (qv 1) af (λ_ _=>rfl))) (aq aS (ay a8 (qv 1) af (λ_ _=>rfl)) (ay a8 (qv 0) af (λ_ _=>rfl)))) (aa (aq aS (ay a8 (qv 0) af (λ_ _=>rfl)) (ay a8 (qv 1) af (λ_ _=>rfl))) ae))))),?_⟩
  walk_at"m";obtain⟨a,rfl,ha⟩:=hx.fr_at;obtain⟨b,rfl,hb⟩:=hy.fr_at;walk_at"vc*";simp only[jv];walk_at"vc*";exact⟨bV bp.1 bq.2 ∅,bV bq.1 bp.2 ∅,bV bp.2 bq.2 ∅,YH np nq,h⟩
def mP(K:W.Frag):Sp:=λvs H Q _=>∃(a:Addr)(ns:List Int)(k:Nat),vs=[.ref a,.int k]/\ko K H a (ns.map V.int) /\ ∀x:Int,Q (.int x) H
theorem Ay(F:dA K "_law_cell_at" "_law_cell_at" mK f fd) (T:fh K mg):a9 P w K mg base dC 1 f fd ["_law_script", "_law_k"] (mP K):=by
 have scN:=rB.nd;refine F.okQ rB (λvs H Q E h=>?_) (λcdv A outer s H vs Q E hr h=>?_)
 .obtain⟨a,ns,k,rfl,_⟩:=h;rfl
 .obtain⟨a,ns,k,rfl,hS,h⟩:=h;refine⟨_,(ag (bC (aF qP (qv 1) (aw jc (by rfl) T.b_len bK (aa (qv 0) ae)) (aK _)) (ah (aB (ay yQ (qv 0) (qv 1) (λ_ _=>rfl)))) aP)
   (ah (aB af))),?_⟩
  walk_at"m";symm
  refine⟨_,.inl hS.sq,be (λhk=>?_) (λhk=>h 0)⟩;simp only[Yb] at hk;have hk':k<ns.length:=();exact⟨_,hS.sq,_,bB (by rw[Yd,Ya hk'];rfl),h _⟩
def uu(K:W.Frag):Sp:=λvs H Q _=>∃(a:Addr)(ns:List Int)(k:Nat),vs=[.ref a,.int k]/\ko K H a (ns.map V.int) /\ ∀st H',vw K H st=none->az (vw K H) (vw K H')->dS (vw K H') st->Q (.ref st) H'
theorem DV(F:dA K "_law_state" "_law_state" sD f fd) (T:fh K mg)(zCcell_at:cy P w K mg base "_law_cell_at" ["_law_script", "_law_k"] 1 (mP K)):a9 P w K mg base dC 2 f fd ["_law_script", "_law_k"] (uu K):=by
 have scN:=zz.nd;refine F.okQ zz (λvs H Q E h=>?_) (λcdv A outer s H vs Q E hr h=>?_)
 .obtain⟨a,ns,k,rfl,_⟩:=h;rfl
 .obtain⟨a,ns,k,rfl,hS,h⟩:=h;refine⟨_,(ag (ax (i:=2) scN rfl (·) (ao zCcell_at nofun rfl (aa (qv 0) (aa (qv 1) ae))))
   (ag (bC (aF KC (qv 2) (aq w6 af af) (aK _)) (ah (aB (aL (aa (aq cj (qv 2) (aq w6 af af)) (aa dD ae))))) aP)
   (ah (aB (aL (aa (aq gA (qv 2) af) (aa dD ae))))))),?_⟩
  walk_at"m";symm
  simp only[mP];symm
  refine⟨⟨k,rfl⟩,⟨ns,hS⟩,λx=>⟨yU ∅,be (λhx=>⟨yU ∅,∅,λp H2 hp S hp2=>h p H2 hp S ⟨_,_,hp2,λz=>by cases z⟩⟩) (λhx=>⟨∅,∅,λp H2 hp S hp2=>h p H2 hp S ⟨_,_,hp2,λ_=>?_⟩⟩)⟩⟩
  exact⟨Xj x ∅,XE x ∅⟩
def fE(K:W.Frag):Sp:=λvs H Q _=>∃(st:Addr)(m:Int),vs=[.ref st,.int m]/\dS (vw K H) st/\0<m/\m<=2147483587 /\ ∀r H',0<=r->r<m->eN st (vw K H) (vw K H')->dS (vw K H') st->Q (.int r) H'
theorem IV(F:dA K "_law_take" "_law_take" wA f fd) (T:fh K mg):a9 P w K mg base dC 1 f fd ["_law_state_here", "_law_many"] (fE K):=by
 have scN:=Ds.nd;refine F.okQ Ds (λvs H Q E h=>?_) (λcdv A outer s H vs Q E hr h=>?_)
 .obtain⟨a,ns,rfl,_⟩:=h;rfl
 .obtain⟨st,m,rfl,⟨x,b,hst,hx⟩,hm,hm2,h⟩:=h;refine⟨_,(ag (bC (dE (ay cO (qv 0) af (λ_ _=>rfl)) (λ_=>rfl)) (ag (ax (i:=2) scN rfl (·) (aq gA (ay cO (qv 0) af (λ_ _=>rfl)) (qv 1)))
   (ag (eD (aq oI (ay cO (qv 0) af (λ_ _=>rfl)) (qv 1)) (t5 (qv 0) af iM))
   (ah (aB (qv 2))))) aP)
   (ag (eD (aq gA (aq aV (aq aS (ay cO (qv 0) af (λ_ _=>rfl)) af) af) af) (t5 (qv 0) af iM))
   (ag (ax (i:=3) scN rfl (·) (aq gA (aq aV (aq aV (aq aS (ay cO (qv 0) af (λ_ _=>rfl)) (ay cO (qv 0) af (λ_ _=>rfl))) (aq aS af (ay cO (qv 0) af (λ_ _=>rfl)))) af) af))
   (ag (ax (i:=3) scN rfl (·) (aq gA (aq aV (aq aS (qv 3) (qv 3)) (aq aS af (qv 3))) af))
   (ah (aB (aq gA (aq oI (qv 3) af) (qv 1)))))))),?_⟩
  walk_at"m";have hm0:m≠0:=();cases b with
  | true =>
   walk_at"vc*";refine⟨Ia hm0 (by unfold Bt;nofun),λH2 B h2=>h _ _ (Xj x hm) (XE x hm) B ⟨_,_,h2,λz=>by cases z⟩⟩
  | false =>
   walk_at"vc*";refine⟨FW ∅,∅,λH2 B h2=>?_⟩;have b1:Bt 31 ((x*48271+29).fmod 2147483647):=zh ∅ ∅;have b3:0<=(x*48271+29).fmod 2147483647/\(x*48271+29).fmod 2147483647<2147483647:=⟨Xj _ ∅,XE _ ∅⟩;generalize (x*48271+29).fmod 2147483647=y at *
   walk_at"vc*";have b2:Bt 31 ((y*y+39373*y+7).fmod 2147483629):=zh ∅ ∅;generalize e2:(y*y+39373*y+7).fmod 2147483629=z at *
   refine⟨oF (b1.mono ∅),oF ∅,∅,oF (b2.mono ∅),oF ∅,∅,Ia ∅ ∅,?_⟩;exact h _ _ (Xj _ hm) (XE _ hm) B ⟨_,_,h2,λ_=>b3⟩
def jV(K:W.Frag):Sp:=λvs H Q _=>∃st:Addr,vs=[.ref st]/\dS (vw K H) st /\ ∀v H' q,eN st (vw K H) (vw K H')->dS (vw K H') st->aD (vw K H') (fr q) v->Fq q->Bt 10 q.1->Bt 10 q.2->Sx 36 q->Q v H'
theorem Fh(F:dA K "_law_small" "_law_small" sO f fd) (T:fh K mg)(zClow:cy P w K mg base "_law_low" ["_law_top", "_law_bottom"] 2 (jv K))
  (zCtake:cy P w K mg base "_law_take" ["_law_state_here", "_law_many"] 1 (fE K)):a9 P w K mg base dC 3 f fd ["_law_state_here"] (jV K):=by
 have scN:=yW.nd;refine F.okQ yW (λvs H Q E h=>?_) (λcdv A outer s H vs Q E hr h=>?_)
 .obtain⟨a,rfl,_⟩:=h;rfl
 .obtain⟨st,rfl,hst,h⟩:=h;refine⟨_,(ah (aB (ao zClow nofun rfl (aa (aq cj (ao zCtake nofun rfl (aa (qv 0) (aa af ae))) af) (aa (aq aV af (ay cO (aL (aa af (aa af (aa (ao zCtake nofun rfl (aa (qv 0) (aa af ae))) ae)))) (ao zCtake nofun rfl (aa (qv 0) (aa af ae))) (λ_ _=>rfl))) ae))))),?_⟩
  walk_at"m";symm
  simp only[fE,jv];symm
  refine⟨hst,∅,∅,λr1 H1 r10 r11 B1 S1=>⟨S1,∅,∅,λr2 H2 r20 r21 B2 S2=>⟨∅,?_⟩⟩⟩;intro p H3 hp S3 h3;refine⟨S2.same S3,∅,∅,λr4 H4 r40 r41 B4 S4=>?_⟩;have h4:=B4 _ _ (S2.ne hp) h3;obtain⟨v,hv,hm⟩:=zC (xs:=[V.int 0,V.int 0,V.int r2]) r40 (by simpa using r41)
  obtain⟨z,rfl,hz0,hz1⟩ : ∃z,v=.int z/\0<=z/\z<3:=by
   simp only[YY,YN,Xy] at hm;rcases hm with rfl|rfl|rfl
   .exact⟨0,rfl,∅,∅⟩
   .exact⟨0,rfl,∅,∅⟩
   .exact⟨r2,rfl,r20,r21⟩
  symm
  refine⟨_,h4,_,hv,?_⟩;symm
  have hz:1+z≠0:=();have hb:(1+z).natAbs<2^10:=();refine⟨hz,Ym hb (Y8 ∅ ∅),λv H5 S5 r5=>?_⟩;have q2:=gD (a:=r1-6) hz;have q1:=fU (a:=r1-6) hz;have hl:lg (r1-6) (1+z)≠0:=Bc hz;refine h v H5 _ (((B1.trans B2).same_trans S3).trans (B4.same_trans S5)) (S4.same S5) r5 (kh hz) ?_ ?_ (Sx.lo hz0 hz1 ())
  .unfold Bt;have:=YG (lo (r1-6) (1+z)).1 (lg (r1-6) (1+z));rw[q1] at this;have:=Xu (lo (r1-6) (1+z)).1.natAbs (show 0<(lg (r1-6) (1+z)).natAbs by nofun)
   nofun
  .unfold Bt;have:=YG (lo (r1-6) (1+z)).2 (lg (r1-6) (1+z));rw[q2] at this;have:=Xu (lo (r1-6) (1+z)).2.natAbs (show 0<(lg (r1-6) (1+z)).natAbs by nofun)
   nofun
def sX(K:W.Frag):Sp:=λvs H Q _=>∃st:Addr,vs=[.ref st]/\dS (vw K H) st /\ ∀v H' q,eN st (vw K H) (vw K H')->dS (vw K H') st->aD (vw K H') (fr q) v->Fq q->0<q.1->Bq 10 q->Sx 36 q->Q v H'
theorem FX(F:dA K "_law_above" "_law_above" tX f fd) (T:fh K mg)(zClow:cy P w K mg base "_law_low" ["_law_top", "_law_bottom"] 2 (jv K))
  (zCtake:cy P w K mg base "_law_take" ["_law_state_here", "_law_many"] 1 (fE K)):a9 P w K mg base dC 3 f fd ["_law_state_here"] (sX K):=by
 have scN:=yI.nd;refine F.okQ yI (λvs H Q E h=>?_) (λcdv A outer s H vs Q E hr h=>?_)
 .obtain⟨a,rfl,_⟩:=h;rfl
 .obtain⟨st,rfl,hst,h⟩:=h;refine⟨_,(ah (aB (ao zClow nofun rfl (aa (aq aV af (ao zCtake nofun rfl (aa (qv 0) (aa af ae)))) (aa (aq aV af (ay cO (aL (aa af (aa af (aa (ao zCtake nofun rfl (aa (qv 0) (aa af ae))) ae)))) (ao zCtake nofun rfl (aa (qv 0) (aa af ae))) (λ_ _=>rfl))) ae))))),?_⟩
  walk_at"m";symm
  simp only[fE,jv];symm
  refine⟨hst,∅,∅,λr1 H1 r10 r11 B1 S1=>⟨S1,∅,∅,λr2 H2 r20 r21 B2 S2=>⟨∅,?_⟩⟩⟩;intro p H3 hp S3 h3;refine⟨S2.same S3,∅,∅,λr4 H4 r40 r41 B4 S4=>?_⟩;have h4:=B4 _ _ (S2.ne hp) h3;obtain⟨v,hv,hm⟩:=zC (xs:=[V.int 0,V.int 0,V.int r2]) r40 (by simpa using r41)
  obtain⟨z,rfl,hz0,hz1⟩ : ∃z,v=.int z/\0<=z/\z<3:=by
   simp only[YY,YN,Xy] at hm;rcases hm with rfl|rfl|rfl
   .exact⟨0,rfl,∅,∅⟩
   .exact⟨0,rfl,∅,∅⟩
   .exact⟨r2,rfl,r20,r21⟩
  symm
  refine⟨_,h4,_,hv,?_⟩;symm
  have hz:1+z≠0:=();have hb:(1+z).natAbs<2^10:=();refine⟨hz,Ym hb (Y8 ∅ ∅),λv H5 S5 r5=>?_⟩;have q1:=fU (a:=1+r1) hz;have hl:0<lg (1+r1) (1+z):=Ja ();refine h v H5 _ (((B1.trans B2).same_trans S3).trans (B4.same_trans S5)) (S4.same S5) r5 (kh hz) ?_ (nI hz (by unfold Bt;nofun) hb) (Sx.lo hz0 hz1 ())
  refine Int.pos_of_mul_pos_left ?_ hl;rw[q1];nofun
def uh(K:W.Frag):Sp:=λvs H Q _=>∃x d,vs=[x]/\aD (vw K H) d x/\Q (.bl d.isInt) H
theorem FK(F:dA K "_law_whole" "_law_whole" sL f fd) (T:fh K mg):a9 P w K mg base dC 1 f fd ["_law_thing"] (uh K):=by
 have scN:=xX.nd;refine F.okQ xX (λvs H Q E h=>?_) (λcdv A outer s H vs Q E hr h=>?_)
 .obtain⟨a,_,rfl,_⟩:=h;rfl
 .obtain⟨x,d,rfl,hx,h⟩:=h;refine⟨_,(ah (aB (uw (aw ce (by rfl) T.b_isinstance aI (aa (qv 0) (aa (dZ (v:=V.ty "int") rfl T.b_int DA rfl) ae))) (pI (xD (aw ce (by rfl) T.b_isinstance aI (aa (qv 0) (aa (dZ (v:=V.ty "bool") rfl T.b_bool tK rfl) ae)))))))),?_⟩
  walk_at"m";have ht:=aD.ty hx;walk_at"vc*";cases d<;>simpa [D.ty,ft,D.isInt] using h
def iy(K:W.Frag):Sp:=λvs H Q _=>∃x d,vs=[x]/\aD (vw K H) d x/\Q (.bl d.frac) H
theorem qA(F:dA K "_law_is_fraction" "_law_is_fraction" ir f fd) (T:fh K mg)
  (zCdivisor:cy P w K mg base "_law_divisor" ["_law_one", "_law_other"] 1 (iD K)) (zCwhole:cy P w K mg base "_law_whole" ["_law_thing"] 1 (uh K)):a9 P w K mg base dC 2 f fd ["_law_thing"] (iy K):=by
 have scN:=kn.nd;refine F.okQ kn (λvs H Q E h=>?_) (λcdv A outer s H vs Q E hr h=>?_)
 .obtain⟨a,_,rfl,_⟩:=h;rfl
 .obtain⟨x,d,rfl,hx,h⟩:=h;refine⟨_,(ag (bC (QW.pt (fo (cE (cw (aw ce (by rfl) T.b_isinstance aI (aa (qv 0) (aa (dZ (v:=V.ty "tuple") rfl T.b_tuple jD rfl) ae))))) (fo (aF ie (aw aQ (by rfl) T.b_len bK (aa (qv 0) ae)) af (aK _)) (fo (cE (cw (ao zCwhole nofun rfl (aa (ay a8 (qv 0) af (λ_ _=>rfl)) ae)))) (gn (cE (cw (ao zCwhole nofun rfl (aa (ay a8 (qv 0) af (λ_ _=>rfl)) ae))))))))) (ah (aB dD)) aP)
   (ah (aB (uw (gY kr (ay a8 (qv 0) af (λ_ _=>rfl)) af (aK _)) (pI (gY gF (ao zCdivisor nofun rfl (aa (ay a8 (qv 0) af (λ_ _=>rfl)) (aa (ay a8 (qv 0) af (λ_ _=>rfl)) ae))) af (aK _))))))),?_⟩
  walk_at"m";have ht:=aD.ty hx;walk_at"vc*";simp only[uh,iD];walk_at"vc*";cases d with
  | tup ds =>
   obtain⟨a,xs,rfl,ha,r⟩:=hx.tup_at;refine iZ (by simp[D.ty,ft]) ⟨a,rfl,xs.length,by simp only[fA,ha],be (λhl=>?_) (λhl=>?_)⟩
   .have e:(D.tup ds).frac=false:=by
     cases e:(D.tup ds).frac with
     | false=>rfl
     | true =>
      obtain⟨_,_,rfl,_⟩:=D.frac_tup e;have:=r.length;simp at this;nofun
    rw[e] at h;exact h
   .obtain⟨d1,d2,x1,x2,rfl,rfl,r1,r2⟩:=r.pair ();refine⟨a,rfl,_,ha,_,cZ,d1,r1,be (λi1=>?_) (λi1=>⟨a,rfl,_,ha,_,eM,d2,r2,be (λi2=>?_) (λi2=>?_)⟩)⟩
    .cases d1<;>first|exact h|cases i1
    .cases d1<;>cases d2<;>first|exact h|cases i2
    .obtain⟨i1',rfl⟩:=D.isInt_of i1;obtain⟨i2',rfl⟩:=D.isInt_of i2;cases r1.int_at;cases r2.int_at;refine⟨a,rfl,_,ha,_,eM,_,rfl,be (λhi=>⟨a,rfl,_,ha,_,cZ,a,rfl,_,ha,_,eM,?_⟩) (λhi=>?_)⟩
     .have e:=yJ (t:=i1') (b:=i2') ();rw[e] at h;exact⟨_,rfl,_,rfl,h⟩
     .have e:=yk (t:=i1') (b:=i2') ();rw[e] at h;exact h
  | _=>exact m4 (by simp[D.ty,ft]) h
def iX(K:W.Frag):Sp:=λvs H Q _=>∃(a b:Addr)(fs gs:List (Int×Int))(A B:Nat),vs=[.ref a,.ref b]/\cF (vw K H) a fs/\cF (vw K H) b gs/\fs.length<=40/\gs.length<=40/\A+B<=400000/\(∀q∈fs,Fq q)/\(∀q∈gs,Fq q)/\Pb A (cf fs)/\Pb B (cf gs) /\
 ∀d H' (rs:List (Int×Int)),az (vw K H) (vw K H')->cF (vw K H') d rs->vw K H d=none->eP rs->(∀k,cf rs k=pr (cf fs) (cf gs) fs.length k)->rs.length<=fs.length+gs.length->Q (.ref d) H'
theorem tY(F:dA K "_law_multiplied" "_law_multiplied" je f fd) (T:fh K mg)(zCclean:cy P w K mg base "_law_clean" ["_law_numbers"] 1 (sZ K)) (zCplus:cy P w K mg base "_law_plus" ["_law_one", "_law_other"] 3 (kO K)) (zCtimes:cy P w K mg base "_law_times" ["_law_one", "_law_other"] 3 (lK K)):a9 P w K mg base dC 4 f fd ["_law_f", "_law_g"] (iX K):=by
 have scN:=lH.nd;refine F.okQ lH (λvs H Q E h=>?_) (λcdv A outer s H vs Q E hr h=>?_)
 .obtain⟨a,_,_,_,_,_,rfl,_⟩:=h;rfl
 .obtain⟨a,b,fs,gs,A',B,rfl,ha,hb,lf,lg',hAB,hf,hg,⟨D1,d1,d2,d3⟩,⟨E1,e1',e2',e3'⟩,h⟩:=h;have bf:=Ob.bq d3 d1 d2 hf;have bg:=Ob.bq e3' e1' e2' hg;have hX:=YH d1 e1';have bX:=d2.mul e2';refine⟨_,(ag (ax (i:=2) scN rfl (·) (aq aS (aL (aa (aE (aa af (aa af ae))) ae)) (aq aV (aw aQ (by rfl) T.b_len bK (aa (qv 0) ae)) (aw aQ (by rfl) T.b_len bK (aa (qv 1) ae)))))
   (ag (cL PassesOwn.never rfl (dq rfl T.b_range (aa (aw aQ (by rfl) T.b_len bK (aa (qv 0) ae)) ae)) (av (i:=3) scN rfl (·)) (ah (cL PassesOwn.never rfl (dq rfl T.b_range (aa (aw aQ (by rfl) T.b_len bK (aa (qv 1) ae)) ae)) (av (i:=4) scN rfl (·)) (ah (eD (ao zCplus nofun rfl (aa (ay cO (qv 2) (aq aV (qv 3) (qv 4)) (λ_ _=>rfl)) (aa (ao zCtimes nofun rfl (aa (ay cO (qv 0) (qv 3) (λ_ _=>rfl)) (aa (ay cO (qv 1) (qv 4) (λ_ _=>rfl)) ae))) ae))) (t5 (qv 2) (aq aV (qv 3) (qv 4)) iM))))))
   (ah (aB (ao zCclean nofun rfl (aa (qv 2) ae)))))),?_⟩
  walk_at"m";symm
  obtain⟨xs,hxs,rxs⟩:=id ha;obtain⟨ys,hys,rys⟩:=id hb;refine⟨∅,λp2 H2 hp2 S2 h2=>⟨∅,λp3 H3 hp3 S3 h3=>?_⟩⟩;have S03:=S2.trans S3;refine⟨_,(ha.same S03).len,_,(hb.same S03).len,?_⟩;rw[show (fs.length:Int)+(gs.length:Int)=((fs.length+gs.length:Nat):Int) by nofun,lT]
  refine⟨_,h3,(),(),?_,λe H5 he S5 h5=>?_⟩
  .have:1000<=sizeLine:=∅;simp;nofun
  rw[show ((fs.length+gs.length:Nat):Int).toNat=fs.length+gs.length by nofun,vz] at h5
  have S05:=S03.trans S5;have r2:aD (vw K H5) (fr (0,1)) (.ref p2):=bU ((S3.trans S5) _ _ h2);have ne:vw K H e=none:=S03.none he;refine⟨_,(ha.same S05).len,(),(),?_⟩;obtain⟨n,hn⟩ : ∃n,n=fs.length+gs.length:=⟨_,rfl⟩;rw[<-hn] at h5;obtain⟨Pv,hPv⟩ : ∃Pv:Nat->St->Hp->Prop,∀i σ H',Pv i σ H' ↔ ∃o3 o4,σ=[some (.ref a),some (.ref b),some (.ref e),o3,o4]/\az (vw K H) (vw K H') /\ ∃qs,cF (vw K H') e qs/\qs.length=n/\(∀q∈qs,Fq q)/\(∀k,k<n->cf qs k=pr (cf fs) (cf gs) i k):=⟨_,λ_ _ _=>Xn⟩;refine aZ (its:=gJ 0 fs.length) Pv (λ_ _ _ _ _=>bT) ((hPv _ _ _).mpr ⟨_,_,rfl,S05,List.replicate n (0,1),⟨_,h5,?_⟩,by simp,λq hq=>?_,λk hk=>?_⟩) (λi x σ H6 hi hx pv=>?_) (λσ H6 pv=>?_)
  .rw[yS];exact aH.repl r2 n
  .rw[(List.mem_replicate.mp hq).2];exact Gw
  .rw[d5 (List.getElem?_replicate_of_lt hk),y7];rfl
  .obtain⟨o3,o4,rfl,S6,qs,l6,n6,f6,c6⟩:=(hPv _ _ _).mp pv;obtain⟨hi',rfl⟩:=gB hx;rw[Int.zero_add];symm
   refine⟨_,(hb.same S6).len,(),(),?_⟩;obtain⟨Pw,hPw⟩ : ∃Pw:Nat->St->Hp->Prop,∀j σ H',Pw j σ H' ↔ ∃o4,σ=[some (.ref a),some (.ref b),some (.ref e),some (.int i),o4]/\az (vw K H) (vw K H') /\ ∃qs,cF (vw K H') e qs/\qs.length=n/\(∀q∈qs,Fq q)/\(∀k,k<n->cf qs k=qr (cf fs) (cf gs) i j k):=⟨_,λ_ _ _=>Xn⟩;refine aZ (its:=gJ 0 gs.length) Pw (λ_ _ _ _ _=>bT) ((hPw _ _ _).mpr ⟨_,rfl,S6,qs,l6,n6,f6,λk hk=>?_⟩) (λj x σ H7 hj hx pw=>?_) (λσ H7 pw=>?_)
   .rw[Ln];exact c6 k hk
   .obtain⟨o4,rfl,S7,ps,l7,n7,f7,c7⟩:=(hPw _ _ _).mp pw;obtain⟨hj',rfl⟩:=gB hx;rw[Int.zero_add];obtain⟨zs,hzs,rzs⟩:=id l7;have hiq:i+j<ps.length:=();obtain⟨x0,e0,r0⟩:=rzs.at (i:=i+j) (d:=fr ps[i+j]) (by rw[Yd,Ya hiq];rfl)
    obtain⟨x1,e1,r1⟩:=rxs.at (i:=i) (d:=fr fs[i]) (by rw[Yd,Ya hi'];rfl)
    obtain⟨x2,e2,r2'⟩:=rys.at (i:=j) (d:=fr gs[j]) (by rw[Yd,Ya hj'];rfl)
    have k1:=f7 ps[i+j] (Yo hiq);have k3:Bq (A'+B+100) ps[i+j]:=by
     obtain⟨m,em,bm⟩:=K5 d1 e1' d3 e3' i j (i+j);have em':qr (cf fs) (cf gs) i j (i+j)=_:=em;refine Gq k1 (n:=m) (by rw[<-em',<-c7 (i+j) (),d5 (Ya hiq)]) hX (bm.mono ()) (bX.mono ())
    have g1:=hg gs[j] (Yo hj');have g2:=bg gs[j] (Yo hj');have u1:=hf fs[i] (Yo hi');have u2:=bf fs[i] (Yo hi');symm
    rw[show (i:Int)+(j:Int)=((i+j:Nat):Int) by nofun]
    refine⟨zs,hzs,x0,bB e0,xs,S7 _ _ hxs,x1,bB e1,ys,S7 _ _ hys,x2,bB e2,?_⟩;simp only[lK];symm
    refine⟨_,aD.same S7 _ _ r1,_,aD.same S7 _ _ r2',u1.ne,g1.ne,u2.mono (),g2.mono (),(u2.2.mul g2.2).mono (),λv3 H8 S8 r3=>?_⟩;have f3:=yj u1 g1;have b3:=xP u1 g1 u2 g2;simp only[kO];symm
    refine⟨_,aD.same S8 _ _ r0,_,r3,k1.ne,f3.ne,k3.mono (),b3.mono (),(k3.2.mul b3.2).mono (),λv4 H9 S9 r4=>?_⟩;have f4:=yw k1 f3;have S79:=S8.trans S9;have hlz:zs.length=ps.length:=by rw[rzs.length,Yb]
    refine⟨zs,S79 _ _ hzs,i+j,by rw[hlz];exact t7 hiq,λH10 B10 h10=>(hPw _ _ _).mpr ⟨_,rfl,λx o e'=>B10 _ _ (aj e' ne) (S79 _ _ (S7 _ _ e')),ps.set (i+j) (kR ps[i+j] (zF fs[i] gs[j])),cF.chg (S79 _ _ hzs) (rzs.same S79) r4 B10 h10,by rw[List.length_set];exact n7,λq hq=>?_,λk hk=>?_⟩⟩
    .rcases List.mem_or_eq_of_mem_set hq with z|z
     .exact f7 q z
     .rw[z];exact f4
    .rw[Gb hiq,JT];by_cases hk:k=i+j
     .rw[Yh hk,Yh hk,HI k1.ne f3.ne,CW u1.ne g1.ne,<-d5 (Ya hiq),<-d5 (Ya hi'),<-d5 (Ya hj'),c7 (i+j) ()]
     .rw[Yc hk,Yc hk,c7 k (by assumption)]
   .obtain⟨o4,rfl,S7,ps,l7,n7,f7,c7⟩:=(hPw _ _ _).mp pw;rw[dk] at c7;refine (hPv _ _ _).mpr ⟨_,_,rfl,S7,ps,l7,n7,f7,λk hk=>?_⟩;rw[c7 k hk,Hu λi hi=>cH hi]
  .obtain⟨o3,o4,rfl,S6,qs,l6,n6,f6,c6⟩:=(hPv _ _ _).mp pv;rw[dk] at c6;symm
   simp only[sZ];symm
   have hF:∀q∈qs,Fq q:=f6;refine⟨qs,l6,λd H7 n' hn' hz hd hnd S7 l7=>h d H7 (qs.take n') (S6.trans S7) l7 (S6.none hnd) (CP hF hz) (λk=>?_) (by rw[YC];nofun)⟩
   rw[y9 hF hd k];by_cases hk:k<n
   .exact c6 k hk
   .rw[cH (),gz (n:=gs.length) (λi hi=>cH hi) _ _ ()]
theorem Af(F:dA K "_law_refused" "_law_refused" mC f fd) (T:fh K mg) {A:Around}{outer:List Env}{s:Shared}{H:Hp}{p C:Addr}{i kl:Nat}{Q:VK}(hb:lD K fd ["_law_call"] []) (hr0:cN (kl+1) A)(e0:qE P w K mg base A outer s H)(L_:Ko P w K mg base kl p C s H outer)(Z:zE K mg C i)(hi:i<9)
  (h:∀q H',az (vw K H) (vw K H')->vw K H q=none->vw K H' q=some (.lst [.int i])->Q (.ref q) H'):codeAny (model P w) A (.call (.ref f) ⟨[.ref p],[]⟩) (CR dC outer P w H s Q E0) s:=by
 have scN:=qV.nd;refine F.runQ qV hr0 e0 hb (vs:=[.ref p]) (.cons rfl .nil) rfl λcdv hr=>?_;have hrL:=hr;obtain⟨z_NoFraction,hg_NoFraction,k0⟩:=Z.kinds 0 _ rfl;obtain⟨z_NoPolynomial,hg_NoPolynomial,k1⟩:=Z.kinds 1 _ rfl;obtain⟨z_NoSums,hg_NoSums,k2⟩:=Z.kinds 2 _ rfl;obtain⟨z_NoFlock,hg_NoFlock,k3⟩:=Z.kinds 3 _ rfl;obtain⟨z_NoWalk,hg_NoWalk,k4⟩:=Z.kinds 4 _ rfl;obtain⟨z_NoSum,hg_NoSum,k5⟩:=Z.kinds 5 _ rfl;obtain⟨z_NoDeed,hg_NoDeed,k6⟩:=Z.kinds 6 _ rfl;obtain⟨z_NoText,hg_NoText,k7⟩:=Z.kinds 7 _ rfl;obtain⟨z_NoRow,hg_NoRow,k8⟩:=Z.kinds 8 _ rfl;obtain⟨cM,hg_MomentError,kM⟩:=Z.mom;refine⟨_,(ag (ax (i:=1) scN rfl (·) gR)
   (ag (Ie (i:=2) rfl rfl rfl (IH (i:=0) rfl L_ hrL rfl (Or.inl rfl)) scN rfl rfl rfl hg_MomentError (λ_=>(ah (ax (i:=1) scN rfl (·) (qv 2)))))
   (ag (ax (i:=3) scN rfl (·) (aL (aa (aw b9 (by rfl) T.b_isinstance aI (aa (qv 1) (aa (gw (v:=V.ref z_NoFraction) rfl hg_NoFraction rfl) ae))) (aa (aw b9 (by rfl) T.b_isinstance aI (aa (qv 1) (aa (gw (v:=V.ref z_NoPolynomial) rfl hg_NoPolynomial rfl) ae))) (aa (aw b9 (by rfl) T.b_isinstance aI (aa (qv 1) (aa (gw (v:=V.ref z_NoSums) rfl hg_NoSums rfl) ae))) ae)))))
   (ag (ax (i:=3) scN rfl (·) (aq aV (qv 3) (aL (aa (aw b9 (by rfl) T.b_isinstance aI (aa (qv 1) (aa (gw (v:=V.ref z_NoFlock) rfl hg_NoFlock rfl) ae))) (aa (aw b9 (by rfl) T.b_isinstance aI (aa (qv 1) (aa (gw (v:=V.ref z_NoWalk) rfl hg_NoWalk rfl) ae))) (aa (aw b9 (by rfl) T.b_isinstance aI (aa (qv 1) (aa (gw (v:=V.ref z_NoSum) rfl hg_NoSum rfl) ae))) ae))))))
   (ag (ax (i:=3) scN rfl (·) (aq aV (qv 3) (aL (aa (aw b9 (by rfl) T.b_isinstance aI (aa (qv 1) (aa (gw (v:=V.ref z_NoDeed) rfl hg_NoDeed rfl) ae))) (aa (aw b9 (by rfl) T.b_isinstance aI (aa (qv 1) (aa (gw (v:=V.ref z_NoText) rfl hg_NoText rfl) ae))) (aa (aw b9 (by rfl) T.b_isinstance aI (aa (qv 1) (aa (gw (v:=V.ref z_NoRow) rfl hg_NoRow rfl) ae))) ae))))))
   (ag (bC (cE (cw (aw b9 (by rfl) T.b_isinstance aI (aa (qv 1) (aa (dZ (v:=V.ty "ValueError") rfl T.b_ValueError qI rfl) ae))))) (ah (aB gR)) aP)
   (ah (aB (eO (own:=["_law_k"]) (outs:=["_law_kinds"]) (ixs:=[3]) rfl (dq rfl T.b_range (aa af ae)) rfl ⟨rfl,rfl,rfl,⟨rfl,trivial⟩,rfl,⟨⟨rfl,rfl,rfl,_,rfl⟩,trivial⟩⟩ (λ_ _ _ _=>⟨(av (i:=0) (show (["_law_k", "_law_kinds"]:List Str).Nodup by decide +kernel) rfl (·)),(BV (show QT _ _ (F4 K _) from dE (ay (show wl _ (vQ K) from cO) (qv 1) (qv 0) (λ_ _=>rfl)) (λ_=>rfl))),(qv 0)⟩)))))))))),?_⟩
 walk_at"m";symm
 simp only[Ip];refine⟨rfl,rfl,λH1 S1=>⟨C,rfl,kM,λa H2 hna S2 hx=>?_⟩⟩;symm
 refine⟨C,hx,Z.cls,_,rfl,_,k0,C,hx,Z.cls,_,rfl,_,k1,C,hx,Z.cls,_,rfl,_,k2,∅,λp3 H3 _ S3 h3=>?_⟩;have hx3:=S3 _ _ hx;symm
 refine⟨C,hx3,Z.cls,_,rfl,_,k3,C,hx3,Z.cls,_,rfl,_,k4,C,hx3,Z.cls,_,rfl,_,k5,∅,λp4 H4 _ S4 h4=>?_⟩;symm
 refine⟨_,S4 _ _ h3,_,h4,(show 6<=sizeLine by decide),λp5 H5 _ S5 h5=>?_⟩
 have hx5:=S5 _ _ (S4 _ _ hx3);symm
 refine⟨C,hx5,Z.cls,_,rfl,_,k6,C,hx5,Z.cls,_,rfl,_,k7,C,hx5,Z.cls,_,rfl,_,k8,∅,λp6 H6 _ S6 h6=>?_⟩;symm
 refine⟨_,S6 _ _ h5,_,h6,(show 9<=sizeLine by decide),λp7 H7 _ S7 h7=>?_⟩
 have hx7:=S7 _ _ (S6 _ _ hx5);symm
 refine⟨C,hx7,Z.cls,_,rfl,_,Z.ve,?_⟩;symm
 have e9:vw K H7 p7=some (.lst (lz 9 λj=>V.bl (decide (j=i)))):=h7;have S07:az (vw K H) (vw K H7):=S1.trans (S2.trans (S3.trans (S4.trans (S5.trans (S6.trans S7)))));refine⟨∅,∅,λc H8 hc S8 h8=>?_⟩;refine bZ (its:=gJ 0 9) (λj zs H'=>az (vw K H7) (vw K H')/\zs=if i<j then [V.int i] else []) (λ_ _ _ _ _ _=>bT) h8 ⟨S8,by rw[Yc ()]⟩ (λj x zs H9 hj hx' h9 pv=>?_) (λzs H9 h9 pv=>?_)
 .obtain⟨S9,rfl⟩:=pv;obtain⟨hj',rfl⟩:=gB hx';rw[Int.zero_add];simp only[F4];symm
  refine⟨_,S9 _ _ e9,_,bB (Dg hj'),_,rfl,?_⟩;refine be (λe=>?_) (λe=>?_)
  .have eji:j=i:=Xm e;subst eji;rw[Yc ()] at h9;refine .mk h9 ∅ λH10 B10 h10=>⟨λb o e'=>B10 _ _ (aj e' hc) (S9 _ _ e'),?_⟩;rw[Yh ()];rfl
  .have eji:j≠i:=λz=>e (Y1 z);refine⟨⟨_,rfl⟩,_,h9,S9,?_⟩;by_cases hij:i<j
   .rw[Yh hij,Yh ()]
   .rw[Yc hij,Yc ()]
 .obtain⟨S9,rfl⟩:=pv;rw[dk,Yh ()] at h9;exact h c H9 (S07.trans S9) (S07.free hc) h9
def kS:Nat->Str
 | 0=>"line"
 | 1=>"root"
 | _=>"none"
abbrev oG:=Nat×(Int×Int)×Nat×Nat
def yb(c:oG):D:=.tup [.str (kS c.1),fr c.2.1,.int c.2.2.1]
def Av(c:oG):Prop:=c.1<=2/\Fq c.2.1/\Bq c.2.2.2 c.2.1/\(c.1≠0->c.2.1∈KL)/\1<=c.2.2.1/\c.2.2.2<=100
def rL(c:oG):Nat:=(if c.1=0 then 1 else 2)*c.2.2.1
def yo(c:oG):Nat:=(c.2.2.2+12)*c.2.2.1
def J7(c:oG):Nat:=c.2.2.2+2
def u8(its:List oG):Prop:=∀c∈its.take 1,yo c<=54/\rL c<=4
theorem u8.snoc{its:List oG}{c:oG}(h:u8 its)(hc:yo c<=54/\rL c<=4):u8 (its++[c]):=by
 cases its with
 | nil=>intro x hx;cases List.mem_singleton.mp hx;exact hc
 | cons a its=>exact h
theorem u8.snoc2{its:List oG}{c e:oG}(h:u8 its)(hc:yo c<=54/\rL c<=4):u8 (its++[c]++[e]):=by
 cases its with
 | nil=>intro x hx;cases List.mem_singleton.mp hx;exact hc
 | cons a its=>exact h
theorem fV:∀(cs:List oG),D.flats (cs.map yb)=true
 | []=>by simp[D.flats]
 | c::cs=>by
  have:=fV cs;simp[D.flats,yb,D.flat,fr,this]
theorem uJ(cs:List oG):∀i b,cs.map yb≠[.int i,.bl b]:=λi b e=>by
 cases cs with
 | nil=>cases e
 | cons c cs =>
  rw[YQ] at e;cases (List.cons.inj e).1
theorem GI{q:Int×Int}(f:Fq q)(h:Sx 36 q):Bq 6 q:=by
 obtain⟨n,e,hn⟩:=h;refine Gq (D:=6) (n:=n) f e ∅ ?_ ∅;unfold Bt;nofun
def ni(K:W.Frag):Sp:=λvs H Q _=>∃(st:Addr),vs=[.ref st,.int 2]/\dS (vw K H) st /\
 ∀(p t:Addr)(v:V) H' (its:List oG)(q:Int×Int),eN st (vw K H) (vw K H')->dS (vw K H') st->vw K H' p=some (.tup [.ref t,v])->gy (vw K H') t (its.map yb)->vw K H t=none->aD (vw K H') (fr q) v->Fq q->q.1≠0->Bq 6 q->(∀c∈its,Av c)->(its.map rL).sum<=8->(its.map yo).sum<=157->(its.map J7).sum<=55->its.length<=3->u8 its->Q (.ref p) H'
theorem Ah(F:dA K "_law_factors" "_law_factors" m9 f fd) (T:fh K mg)(zCtake:cy P w K mg base "_law_take" ["_law_state_here", "_law_many"] 1 (fE K)) (zCsmall:cy P w K mg base "_law_small" ["_law_state_here"] 3 (jV K)) (zCplus:cy P w K mg base "_law_plus" ["_law_one", "_law_other"] 3 (kO K)):a9 P w K mg base dC 4 f fd ["_law_state_here", "_law_most"] (ni K):=by
 have scN:=rp.nd;refine F.okQ rp (λvs H Q E h=>?_) (λcdv A outer s H vs Q E hr h=>?_)
 .obtain⟨_,rfl,_⟩:=h;rfl
 .obtain⟨st,rfl,hst,h⟩:=h;refine⟨_,(ag (ax (i:=2) scN rfl (·) (aL ae))
   (ag (ax (i:=3) scN rfl (·) (gY gF (ao zCtake nofun rfl (aa (qv 0) (aa af ae))) af (aK _)))
   (ag (cL PassesOwn.never rfl (dq rfl T.b_range (aa (ao zCtake nofun rfl (aa (qv 0) (aa (aq aV (qv 1) af) ae))) ae)) (av (i:=4) scN rfl (·)) (ag (ax (i:=5) scN rfl (·) (ay cO (aL (aa (aE (aa af (aa af ae))) (aa (aE (aa af (aa af ae))) (aa (aE (aa af (aa af ae))) (aa (aE (aa af (aa af ae))) (aa (aE (aa af (aa af ae))) (aa (aE (aa af (aa af ae))) (aa (aE (aa af (aa af ae))) ae)))))))) (ao zCtake nofun rfl (aa (qv 0) (aa af ae))) (λ_ _=>rfl)))
   (ag (ax (i:=6) scN rfl (·) (ay cO (aL (aa fe (aa fe (aa fe (aa fe ae))))) (ao zCtake nofun rfl (aa (qv 0) (aa af ae))) (λ_ _=>rfl)))
   (ag (ax (i:=7) scN rfl (·) (aq aV af (ay cO (aL (aa af (aa af (aa af (aa af (aa af (aa af ae))))))) (ao zCtake nofun rfl (aa (qv 0) (aa af ae))) (λ_ _=>rfl))))
   (ag (bC (aF gF (qv 6) fe (aK _)) (ah (ax (i:=5) scN rfl (·) (ao zCsmall nofun rfl (aa (qv 0) ae)))) aP)
   (ag (ei (kg YJ YW YV c8 (qv 2) (aa (aE (aa (qv 6) (aa (qv 5) (aa (eX (aF gF (qv 6) fe (aK _)) (qv 7) (aw (rJ rfl) (by rfl) T.b_min DH (aa (qv 7) (aa af ae)))) ae)))) ae)))
   (ah (bC (QW.pt (kJ (dE (qv 3) (λ_=>rfl)) (iW (aF gF (qv 6) fe (aK _))))) (ag (ei (kg YJ YW YV c8 (qv 2) (aa (aE (aa (qv 6) (aa (ao zCplus nofun rfl (aa (qv 5) (aa (aE (aa af (aa (aq w6 af af) ae))) ae))) (aa af ae)))) ae)))
   (ah (ax (i:=3) scN rfl (·) dD))) aP))))))))
   (ag (ax (i:=8) scN rfl (·) (ao zCsmall nofun rfl (aa (qv 0) ae)))
   (ah (aB (aE (aa (qv 2) (aa (eX (aF ie (ay a8 (qv 8) af (λ_ _=>rfl)) af (aK _)) (qv 8) (aE (aa (eJ cT af) (aa af ae)))) ae))))))))),?_⟩
  walk_at"m";skip
  refine aR.gen λN1 hN1=>?_;symm
  refine⟨∅,λt H1 ht S1 h1=>hN1 _ _ ?_⟩;have nst:st≠t:=(hst.ne ht).symm;refine aR.gen λN2 hN2=>?_;symm
  simp only[fE];refine⟨st,4,rfl,hst.same S1,∅,∅,λr2 H2 _ _ B2 S2=>⟨rfl,hN2 _ _ ?_⟩⟩;refine aR.gen λN3 hN3=>?_;symm
  refine⟨st,3,rfl,S2,∅,∅,λn H3 n0 n1 B3 S3=>⟨n,rfl,(),(),?_⟩⟩;have h3:=B3 _ _ nst.symm (B2 _ _ nst.symm h1);have B03:eN st (vw K H) (vw K H3):=((S1.but st).trans B2).trans B3;obtain⟨Pv,hPv⟩ : ∃Pv:Nat->St->Hp->Prop,∀i σ H',Pv i σ H' ↔ ∃(b:Bool)(o4 o5 o6 o7 o8:Option V)(its:List oG),σ=[some (.ref st),some (.int 2),some (.ref t),some (.bl b),o4,o5,o6,o7,o8]/\eN st (vw K H) (vw K H')/\dS (vw K H') st/\gy (vw K H') t (its.map yb)/\(∀c∈its,Av c)/\(its.map rL).sum<=4*i/\(its.map yo).sum+(if b=true then 49 else 0)<=54*i+49/\(its.map J7).sum+(if b=true then 39 else 0)<=8*i+39/\its.length+(if b=true then 1 else 0)<=i+1/\u8 its:=⟨_,λ_ _ _=>Xn⟩
  refine aZ (its:=gJ 0 n.toNat) Pv (λ_ _ _ _ _=>bT) ((hPv _ _ _).mpr ⟨_,_,_,_,_,_,[],rfl,B03,S3,⟨[],h3,.mk_nil⟩,by simp,by simp,by split<;>simp,by split<;>simp,by split<;>simp,λ_ h=>by cases h⟩) (λi x σ H4 hi hx pv=>?_) (λσ H4 pv=>?_)
  .obtain⟨b,o4,o5,o6,o7,o8,its,rfl,B4,S4,l4,ok4,dg4,cs4,bt4,ln4,fs4⟩:=(hPv _ _ _).mp pv;rw[dk] at hi;refine aR.gen λM1 hM1=>?_;symm
   refine⟨∅,λp1 G1 hp1 T1 g1=>⟨∅,λp2 G2 hp2 T2 g2=>⟨∅,λp3 G3 hp3 T3 g3=>⟨∅,λp4 G4 hp4 T4 g4=>⟨∅,λp5 G5 hp5 T5 g5=>⟨∅,λp6 G6 hp6 T6 g6=>⟨∅,λp7 G7 hp7 T7 g7=>⟨∅,λl8 G8 hp8 T8 g8=>?_⟩⟩⟩⟩⟩⟩⟩⟩;have T68:=T7.trans T8;have T58:=T6.trans T68;have T48:=T5.trans T58;have T38:=T4.trans T48;have T28:=T3.trans T38;have T18:=T2.trans T28;have T08:=T1.trans T18;have st8:=S4.same T08;refine⟨st,7,rfl,st8,∅,∅,λr5 H5 q0 q1 B5 S5=>⟨l8,rfl,r5,rfl,_,B5 _ _ (S4.same (T1.trans (T2.trans (T3.trans (T4.trans (T5.trans (T6.trans T7))))) ) |>.ne hp8) g8,?_⟩⟩
   obtain⟨_,_,z8,_⟩:=id st8;have rr:∀{p:Addr}{q:Int×Int},vw K G8 p=some (.tup [.int q.1,.int q.2])->aD (vw K H5) (fr q) (.ref p):=λe=>aD.flat_but z8 B5 _ _ (dX _) (bU e);obtain⟨v5,nb5,e5,r5',f5,b5,n5⟩ : ∃(v5:V)(nb5:Int×Int),pK [V.ref p1,V.ref p2,V.ref p3,V.ref p4,V.ref p5,V.ref p6,V.ref p7] r5=some v5/\aD (vw K H5) (fr nb5) v5/\Fq nb5/\Bq 6 nb5/\nb5∈KL:=by
    have:r5=0\/r5=1\/r5=2\/r5=3\/r5=4\/r5=5\/r5=6:=();rcases this with rfl|rfl|rfl|rfl|rfl|rfl|rfl
    .exact⟨_,(2,1),rfl,rr (T18 _ _ g1),⟨∅,∅⟩,⟨∅,∅⟩,∅⟩
    .exact⟨_,(3,1),rfl,rr (T28 _ _ g2),⟨∅,∅⟩,⟨∅,∅⟩,∅⟩
    .exact⟨_,(5,1),rfl,rr (T38 _ _ g3),⟨∅,∅⟩,⟨∅,∅⟩,∅⟩
    .exact⟨_,(6,1),rfl,rr (T48 _ _ g4),⟨∅,∅⟩,⟨∅,∅⟩,∅⟩
    .exact⟨_,(1,2),rfl,rr (T58 _ _ g5),⟨∅,∅⟩,⟨∅,∅⟩,∅⟩
    .exact⟨_,(7,4),rfl,rr (T68 _ _ g6),⟨∅,∅⟩,⟨∅,∅⟩,∅⟩
    .exact⟨_,(3,4),rfl,rr (T8 _ _ g7),⟨∅,∅⟩,⟨∅,∅⟩,∅⟩
   refine⟨v5,e5,hM1 _ _ ?_⟩;have B45:eN st (vw K H4) (vw K H5):=(T08.but st).trans B5;have l5:=(l4.same T08).stBut (fV _) (uJ _) st8 B5;refine aR.gen λM2 hM2=>?_;symm
   refine⟨∅,λl9 G9 hp9 T9 g9=>⟨st,4,rfl,S5.same T9,∅,∅,λr6 H6 u0 u1 B6 S6=>⟨l9,rfl,r6,rfl,_,B6 _ _ (S5.ne hp9) g9,?_⟩⟩⟩;obtain⟨kd,hkd,e6⟩ : ∃kd:Nat,kd<=2/\pK [V.str (Str.ofString "line"),V.str (Str.ofString "line"),V.str (Str.ofString "root"),V.str (Str.ofString "none")] r6=some (.str (kS kd)):=by
    have:r6=0\/r6=1\/r6=2\/r6=3:=();rcases this with rfl|rfl|rfl|rfl
    .exact⟨0,∅,rfl⟩
    .exact⟨0,∅,rfl⟩
    .exact⟨1,∅,rfl⟩
    .exact⟨2,∅,rfl⟩
   refine⟨_,e6,hM2 _ _ ?_⟩;have B46:eN st (vw K H4) (vw K H6):=(B45.same_trans T9).trans B6;have l6:=(l5.same T9).stBut (fV _) (uJ _) (S5.same T9) B6;have r6':aD (vw K H6) (fr nb5) v5:=by
    obtain⟨_,_,z,_⟩:=id (S5.same T9);exact aD.flat_but z B6 _ _ (dX _) (aD.same T9 _ _ r5')
   refine aR.gen λM3 hM3=>?_;symm
   refine⟨∅,λl10 G10 hp10 T10 g10=>⟨st,6,rfl,S6.same T10,∅,∅,λr7 H7 w0 w1 B7 S7=>⟨l10,rfl,r7,rfl,_,B7 _ _ (S6.ne hp10) g10,?_⟩⟩⟩;obtain⟨mn,m1,m3,e7⟩ : ∃mn:Nat,1<=mn/\mn<=3/\pK [V.int 0,V.int 0,V.int 0,V.int 1,V.int 1,V.int 2] r7=some (.int ((mn:Int)-1)):=by
    have:r7=0\/r7=1\/r7=2\/r7=3\/r7=4\/r7=5:=();rcases this with rfl|rfl|rfl|rfl|rfl|rfl
    .exact⟨1,∅,∅,rfl⟩
    .exact⟨1,∅,∅,rfl⟩
    .exact⟨1,∅,∅,rfl⟩
    .exact⟨2,∅,∅,rfl⟩
    .exact⟨2,∅,∅,rfl⟩
    .exact⟨3,∅,∅,rfl⟩
   refine⟨_,e7,?_⟩;rw[iL,show (1:Int)+((mn:Int)-1)=(mn:Int) by nofun]
   refine hM3 _ _ ?_;have B47:eN st (vw K H4) (vw K H7):=(B46.same_trans T10).trans B7;have l7:=(l6.same T10).stBut (fV _) (uJ _) (S6.same T10) B7;have r7':aD (vw K H7) (fr nb5) v5:=by
    obtain⟨_,_,z,_⟩:=id (S6.same T10);exact aD.flat_but z B7 _ _ (dX _) (aD.same T10 _ _ r6')
   refine aR.gen λM4 hM4=>?_;have kline:kS kd=Str.ofString "line" ↔ kd=0:=by
    have:kd=0\/kd=1\/kd=2:=();rcases this with rfl|rfl|rfl
    .exact⟨λ_=>rfl,λ_=>rfl⟩
    .exact⟨λz=>absurd z ∅,λz=>by cases z⟩
    .exact⟨λz=>absurd z ∅,λz=>by cases z⟩
   have key:∀(v:V)(nb:Int×Int)(H8:Hp),eN st (vw K H4) (vw K H8)->dS (vw K H8) st->gy (vw K H8) t (its.map yb)->aD (vw K H8) (fr nb) v->Fq nb->Bq 6 nb->(kd≠0->nb∈KL)->M4 [some (.ref st),some (.int 2),some (.ref t),some (.bl b),some x,some v,some (.str (kS kd)),some (.int mn),o8] H8:=by
    intro v nb H8 B48 S8 l8 r8 f8 b8 ns8;refine hM4 _ _ ?_;refine aR.gen λM5 hM5=>?_;have app:∀mm:Nat,mm<=3->(kd≠0->mm<=2)->1<=mm->(3<=sizeLine/\Nw K H8 (.tup [.str (kS kd),v,.int mm]) λx1 H1=>∃xs,vw K H1 t=some (.lst xs)/\xs.length<sizeLine/\Df K H1 t (.lst (xs++[x1])) λH1=>M5 [some (.ref st),some (.int 2),some (.ref t),some (.bl b),some x,some v,some (.str (kS kd)),some (.int mn),o8] H1):=by
     intro mm mm3 mm2 mm1;refine⟨∅,λp9 H9 hp9 S9 h9=>?_⟩;obtain⟨xs,hxs,rxs⟩:=id (l8.same S9);have lxs:xs.length=its.length:=by rw[rxs.length,Yb]
     refine⟨xs,hxs,?_,λHa Ba ha=>hM5 _ _ ?_⟩
     .have:1000<=sizeLine:=∅;nofun
     have np:p9≠t:=λe=>by rw[e,hxs] at h9;cases h9
     have Sa:dS (vw K Ha) st:=(S8.same S9).but hxs nst Ba;have ra:aD (vw K Ha) (fr nb) v:=aD.flat_but hxs Ba _ _ (dX _) (aD.same S9 _ _ r8);have la:gy (vw K Ha) t ((its++[(kd,nb,mm,6)]).map yb):=by
      refine⟨_,ha,?_⟩;rw[Yp];exact (aH.flat_but hxs Ba _ _ (fV its) rxs).snoc (.mk_tup (Ba _ _ np h9) (.mk_cons (.mk_str _) (.mk_cons ra (.mk_cons (.mk_int _) .mk_nil))))
     have B0a:eN st (vw K H) (vw K Ha):=λc o hc e=>Ba _ _ (aj e ht) (S9 _ _ (B48 _ _ hc (B4 _ _ hc e)));have ok':∀c∈its++[(kd,nb,mm,6)],Av c:=λc hc=>by
      rcases List.mem_append.mp hc with z|z
      .exact ok4 c z
      .cases List.mem_singleton.mp z;exact⟨hkd,f8,b8,ns8,mm1,show 6<=100 by decide⟩
     have d0:rL (kd,nb,mm,6)<=if kd=0 then 3 else 4:=by
      unfold rL;show (if kd=0 then 1 else 2)*mm<=_
      by_cases z:kd=0
      .rw[Yh z,Yh z];nofun
      .rw[Yc z,Yc z];have:=mm2 z;nofun
     have c0:yo (kd,nb,mm,6)<=54:=by
      show (6+12)*mm<=54;nofun
     symm
     have sm:∀(g:oG->Nat)(xs:List oG)(c:oG),((xs++[c]).map g).sum=(xs.map g).sum+g c:=λg xs c=>by simp
     have d4:rL (kd,nb,mm,6)<=4:=Yz d0 (by split<;>nofun)
     have b0:J7 (kd,nb,mm,6)=8:=rfl;have fin:Pv (i+1) [some (.ref st),some (.int 2),some (.ref t),some (.bl b),some x,some v,some (.str (kS kd)),some (.int mn),o8] Ha:=by
      refine (hPv _ _ _).mpr ⟨b,_,_,_,_,_,its++[(kd,nb,mm,6)],rfl,B0a,Sa,la,ok',?_,?_,?_,?_,fs4.snoc ⟨c0,d4⟩⟩
      .rw[sm];nofun
      .rw[sm];nofun
      .rw[sm];nofun
      .rw[Yt];simp;nofun
     refine be (λzb=>⟨rfl,be (λzk=>?_) (λ_=>fin)⟩) (λ_=>fin);have zb:b=true:=by simpa using zb
     rw[zb] at cs4 bt4 ln4;rw[Yh rfl] at cs4 bt4 ln4;have k0:kd=0:=kline.mp zk;rw[Yh k0] at d0;refine⟨la.ty,⟨∅,∅⟩,∅,λpb Hb hpb Sb hb=>?_⟩;have fN:Fq (1,10^Int.toNat 9):=⟨∅,∅⟩;have bN:Bq 30 (1,10^Int.toNat 9):=⟨∅,∅⟩;simp only[kO];refine⟨v,.ref pb,nb,(1,10^Int.toNat 9),rfl,aD.same Sb _ _ ra,bU hb,f8.ne,fN.ne,b8.mono ∅,bN.mono ∅,(b8.2.mul bN.2).mono ∅,λv2 Hc Sc rc=>⟨∅,λpd Hd hpd Sd hd=>?_⟩⟩;have S1d:=Sb.trans (Sc.trans Sd);obtain⟨ys,hys,rys⟩:=id (la.same S1d);have lys:ys.length=its.length+1:=by rw[rys.length,Yb,Yt];rfl
     refine⟨ys,hys,?_,λHe Be he=>?_⟩
     .have:1000<=sizeLine:=∅;nofun
     have npd:pd≠t:=λe=>by rw[e,hys] at hd;cases hd
     have Se:dS (vw K He) st:=(Sa.same S1d).but hys nst Be;have rce:aD (vw K He) (fr (kR nb (1,10^Int.toNat 9))) v2:=aD.flat_but hys Be _ _ (dX _) (aD.same Sd _ _ rc);have le:gy (vw K He) t ((its++[(kd,nb,mm,6)]++[(kd,kR nb (1,10^Int.toNat 9),1,37)]).map yb):=by
      refine⟨_,he,?_⟩;rw[Yp];exact (aH.flat_but hys Be _ _ (fV _) rys).snoc (.mk_tup (Be _ _ npd hd) (.mk_cons (.mk_str _) (.mk_cons rce (.mk_cons (.mk_int _) .mk_nil))))
     have B0e:eN st (vw K H) (vw K He):=λc o hc e=>Be _ _ (aj e ht) (S1d _ _ (B0a _ _ hc e));refine (hPv _ _ _).mpr ⟨false,_,_,_,_,_,_,rfl,B0e,Se,le,λc hc=>?_,?_,?_,?_,?_,fs4.snoc2 ⟨c0,d4⟩⟩
     .rcases List.mem_append.mp hc with z|z
      .exact ok' c z
      .cases List.mem_singleton.mp z;exact⟨hkd,yw f8 fN,(tj f8 fN b8 bN).mono (Yi 37),λk=>absurd k0 k,Yi 1,show 37<=100 by decide⟩
     .rw[sm,sm];have:rL (kd,kR nb (1,10^Int.toNat 9),1,37)=1:=by
       unfold rL;rw[Yh k0];rfl
      nofun
     .rw[sm,sm];have:yo (kd,kR nb (1,10^Int.toNat 9),1,37)=49:=rfl;rw[Yc ∅];nofun
     .rw[sm,sm];have:J7 (kd,kR nb (1,10^Int.toNat 9),1,37)=39:=rfl;rw[Yc ∅];nofun
     .rw[Yt,Yt,Yc ∅];simp;nofun
    symm
    refine⟨l8.ty,rfl,be (λz=>app mn m3 (λk0=>absurd (kline.mp z) k0) m1) (λz=>?_)⟩;by_cases h2:(2:Int)<(mn:Int)
    .rw[Yh h2];exact app 2 ∅ (λ_=>by decide) ∅
    .rw[Yc h2];exact app mn m3 (λ_=>by nofun) m1
   symm
   refine⟨rfl,be (λz=>?_) (λz=>key v5 nb5 H7 B47 S7 l7 r7' f5 b5 λ_=>n5)⟩;simp only[jV];exact⟨st,rfl,S7,λv H8 q B8 S8 r8 f8 _ _ x8=>key v q H8 (B47.trans B8) S8 (l7.stBut (fV _) (uJ _) S7 B8) r8 f8 (GI f8 x8) λk=>absurd (kline.mp z) k⟩
  .obtain⟨b,o4,o5,o6,o7,o8,its,rfl,B4,S4,l4,ok4,dg4,cs4,bt4,ln4,fs4⟩:=(hPv _ _ _).mp pv;rw[dk] at dg4 cs4 bt4 ln4;have cs4':=Yz (Nat.le_add_right _ _) cs4;have bt4':=Yz (Nat.le_add_right _ _) bt4;have ln4':=Yz (Nat.le_add_right _ _) ln4;refine hN3 _ _ ?_;symm
   simp only[jV];refine⟨st,rfl,S4,λv H5 q B5 S5 r5 f5 c1 c2 x5=>?_⟩;obtain⟨a5,rfl,h5⟩:=r5.fr_at;have l5:=l4.stBut (fV _) (uJ _) S4 B5;have B05:=B4.trans B5;refine⟨a5,rfl,_,h5,_,cZ,rfl,?_⟩;refine be (λz=>⟨∅,λp H6 hp S6 h6=>h p t (.ref a5) H6 its q (B05.same_trans S6) (S5.same S6) h6 (l5.same S6) ht (aD.same S6 _ _ r5) f5 (λe=>z (by rw[e])) (GI f5 x5) ok4 () () () () fs4⟩) (λz=>⟨∅,λp6 H6 hp6 S6 h6=>⟨∅,λp H7 hp S7 h7=>h p t (.ref p6) H7 its (-3,2) (B05.same_trans (S6.trans S7)) (S5.same (S6.trans S7)) h7 (l5.same (S6.trans S7)) ht (bU (S7 _ _ h6)) ⟨∅,∅⟩ ∅ ⟨∅,∅⟩ ok4 () () () () fs4⟩⟩)
theorem AW{D:Int}(h:D≠0):(0:Rat)=((0:Int):Rat)/(D:Rat):=by
 have c0:((0:Int):Rat)=0:=rfl;have:=aG h;rw[c0,XJ];grind
theorem Gh{D:Int}(h:D≠0):wv (1,1)=(D:Rat)/(D:Rat):=by
 show ((1:Int):Rat)/((1:Int):Rat)=_;have c1:((1:Int):Rat)=1:=rfl;have:=aG h;rw[c1,XJ,XJ];grind
theorem sK:wv (1,1)≠0:=by
 show ((1:Int):Rat)/((1:Int):Rat)≠0;have c1:((1:Int):Rat)=1:=rfl;rw[c1];grind
theorem y7:wv (0,1)=0:=by
 show ((0:Int):Rat)/((1:Int):Rat)=0;have c1:((1:Int):Rat)=1:=rfl;have c0:((0:Int):Rat)=0:=rfl;rw[c1,c0];grind
theorem Kq{y:Int×Int}{b:Nat}(fy:Fq y)(hb:Bq b y):eP [y,(1,1)]/\Pb b (cf [y,(1,1)]):=by
 refine⟨⟨λq hq=>?_,λq hq=>?_⟩,y.2,fy.ne,hb.2,λk=>?_⟩
 .rcases YY.mp hq with rfl|z
  .exact fy
  .cases List.mem_singleton.mp z;exact⟨∅,∅⟩
 .cases hq;exact Int.one_ne_zero
 .match k with
  | 0=>exact⟨y.1,rfl,hb.1⟩
  | 1=>exact⟨y.2,Gh fy.ne,hb.2⟩
  | k+2=>exact⟨0,by rw[cH (by simp)];exact AW fy.ne,iT⟩
theorem Es{y:Int×Int}{b:Nat}(fy:Fq y)(hb:Bq b y):eP [y,(0,1),(1,1)]/\Pb b (cf [y,(0,1),(1,1)]):=by
 refine⟨⟨λq hq=>?_,λq hq=>?_⟩,y.2,fy.ne,hb.2,λk=>?_⟩
 .rcases YY.mp hq with rfl|z
  .exact fy
  .rcases YY.mp z with rfl|z
   .exact Gw
   .cases List.mem_singleton.mp z;exact⟨∅,∅⟩
 .cases hq;exact Int.one_ne_zero
 .match k with
  | 0=>exact⟨y.1,rfl,hb.1⟩
  | 1=>exact⟨0,y7.trans (AW fy.ne),iT⟩
  | 2=>exact⟨y.2,Gh fy.ne,hb.2⟩
  | k+3=>exact⟨0,by rw[cH (by simp)];exact AW fy.ne,iT⟩
def fc(c:oG):aU:=if c.1=0 then .line (wv c.2.1) else if c.1=1 then .root (wv c.2.1) else .none (wv c.2.1)
def tq(c:oG):aU×Nat:=(fc c,c.2.2.1)
theorem IZ{y:Int×Int}(x:Rat):EV (cf [y,(1,1)]) x=wv y+x:=by
 rw[gv (n:=2) (λi hi=>cH (by simpa using hi)) ∅]
 show (0+wv y*1)+wv (1,1)*(1*x)=wv y+x;have:wv (1,1)=1:=by
  show ((1:Int):Rat)/((1:Int):Rat)=1;have c1:((1:Int):Rat)=1:=rfl;rw[c1];grind
 grind
theorem L5{y:Int×Int}(x:Rat):EV (cf [y,(0,1),(1,1)]) x=wv y+x*x:=by
 rw[gv (n:=3) (λi hi=>cH (by simpa using hi)) ∅]
 show ((0+wv y*1)+wv (0,1)*(1*x))+wv (1,1)*(1*x*x)=wv y+x*x;have:wv (1,1)=1:=by
  show ((1:Int):Rat)/((1:Int):Rat)=1;have c1:((1:Int):Rat)=1:=rfl;rw[c1];grind
 have:wv (0,1)=0:=y7;grind
theorem tD(q:Int×Int):wv (0-q.1,q.2) = -wv q:=by
 show ((0-q.1:Int):Rat)/(q.2:Rat) = -((q.1:Rat)/(q.2:Rat));rw[XS,show ((0:Int):Rat)=0 from rfl,XJ,XJ]
 grind
theorem u9{q:aU×Nat}{x:Rat}:∀l:List (aU×Nat),jZ (l++[q]) x=jZ l x*dQ (q.1.p x) q.2
 | []=>by show dQ _ _*1=1*_;grind
 | a::l=>by
  show _*jZ (l++[q]) x=_*jZ l x*_;rw[u9 l];grind
theorem qo:∀its:List oG,cQ (its.map tq)=(its.map rL).sum
 | []=>rfl
 | c::its=>by
  show c.2.2.1*(fc c).deg+cQ (its.map tq)=rL c+(its.map rL).sum;rw[qo its];congr 1
  unfold rL fc;split
  .rw[XO];rfl
  .split<;>(rw[XO];rfl)
def jg(K:W.Frag):Sp:=λvs H Q _=>∃(p t:Addr)(v:V)(its:List oG)(q:Int×Int),vs=[.ref p]/\vw K H p=some (.tup [.ref t,v])/\gy (vw K H) t (its.map yb)/\aD (vw K H) (fr q) v/\Fq q/\q.1≠0/\Bq 6 q/\(∀c∈its,Av c)/\(its.map rL).sum<=12/\(its.map yo).sum<=211/\its.length<=5 /\
 ∀d H' (fs:List (Int×Int)),az (vw K H) (vw K H')->vw K H d=none->cF (vw K H') d fs->fs≠[]->fs.length<=13->eP fs->Pb (6+(its.map yo).sum) (cf fs)->fs.length=cQ (its.map tq)+1->(∀x,EV (cf fs) x=wv q*jZ (its.map tq) x)->Q (.ref d) H'
theorem tV(F:dA K "_law_of_factors" "_law_of_factors" i6 f fd) (T:fh K mg)(zCmultiplied:cy P w K mg base "_law_multiplied" ["_law_f", "_law_g"] 4 (iX K)):a9 P w K mg base dC 5 f fd ["_law_factors_here"] (jg K):=by
 have scN:=kX.nd;refine F.okQ kX (λvs H Q E h=>?_) (λcdv A outer s H vs Q E hr h=>?_)
 .obtain⟨_,_,_,_,_,rfl,_⟩:=h;rfl
 .obtain⟨p,t,v,its,q,rfl,hp,ht,rv,fq,q0,bq,ok,dg,cs,ln,h⟩:=h;refine⟨_,(ag (ax (i:=1) scN rfl (·) (aL (aa (ay a8 (qv 0) af (λ_ _=>rfl)) ae)))
   (ag (cL PassesOwn.never rfl (ci (ay a8 (qv 0) af (λ_ _=>rfl))) (cR (n:=3) rfl (aC (av (i:=2) scN rfl (·)) (aC (av (i:=3) scN rfl (·)) (aC (av (i:=4) scN rfl (·)) cS)))) (ag (ax (i:=5) scN rfl (·) (aE (aa (aq cj af (ay a8 (qv 3) af (λ_ _=>rfl))) (aa (ay a8 (qv 3) af (λ_ _=>rfl)) ae))))
   (ag (ax (i:=6) scN rfl (·) (E5 hr.u64 (Fo (pc fe (aL (aa (qv 5) (aa (aE (aa af (aa af ae))) ae))) (pc fe (aL (aa (qv 5) (aa (aE (aa af (aa af ae))) (aa (aE (aa af (aa af ae))) ae)))) (pc fe (aL (aa (qv 3) (aa (aE (aa af (aa af ae))) (aa (aE (aa af (aa af ae))) ae)))) FE))) rfl rfl ∅ ∅) (qv 2) (λ_ _=>rfl)))
   (ah (cL PassesOwn.never rfl (dq rfl T.b_range (aa (qv 4) ae)) (av (i:=7) scN rfl (·)) (ah (ax (i:=1) scN rfl (·) (ao zCmultiplied nofun rfl (aa (qv 1) (aa (qv 6) ae))))))))))
   (ah (aB (qv 1))))),?_⟩
  walk_at"m";skip
  refine aR.gen λN1 hN1=>?_;symm
  refine⟨_,hp,_,eM,∅,λd0 H1 hd0 S1 h1=>hN1 _ _ ?_⟩;refine aR.gen λN2 hN2=>?_;symm
  obtain⟨ts,hts,rts⟩:=id ht;refine⟨_,S1 _ _ hp,_,cZ,t,rfl,⟨_,.of (aM (S1 _ _ hts))⟩,?_⟩;obtain⟨Pv,hPv⟩ : ∃Pv:Nat->St->Hp->Prop,∀i σ H',Pv i σ H' ↔ ∃(d:Addr)(o2 o3 o4 o5 o6 o7:Option V)(fs:List (Int×Int)),σ=[some (.ref p),some (.ref d),o2,o3,o4,o5,o6,o7]/\az (vw K H) (vw K H')/\vw K H d=none/\cF (vw K H') d fs/\fs≠[]/\eP fs/\fs.length=1+((its.take i).map rL).sum/\Pb (6+((its.take i).map yo).sum) (cf fs)/\(∀x,EV (cf fs) x=wv q*jZ ((its.take i).map tq) x):=⟨_,λ_ _ _=>Xn⟩;refine aZ (its:=ts) Pv (λi σ H' _ z=>?_) ((hPv _ _ _).mpr ⟨d0,_,_,_,_,_,_,[q],rfl,S1,hd0,⟨_,h1,.mk_cons (aD.same S1 _ _ rv) .mk_nil⟩,by simp,⟨by simpa using fq,by simpa using q0⟩,by simp,?_,λx=>?_⟩) (λi x σ H2 hi hx pv=>?_) (λσ H2 pv=>?_)
  .obtain⟨_,_,_,_,_,_,_,_,_,S',_⟩:=(hPv _ _ _).mp z;exact aX (S' _ _ hts)
  .refine⟨q.2,fq.ne,bq.2.mono (),λk=>?_⟩;cases k with
   | zero=>exact⟨q.1,rfl,bq.1.mono ()⟩
   | succ k =>
    refine⟨0,?_,iT⟩;rw[cH (by simp)]
    have c0:((0:Int):Rat)=0:=rfl;have:=aG fq.ne;rw[c0,XJ];grind
  .rw[gv (n:=1) (λi hi=>cH (by simpa using hi)) ∅]
   show 0+wv q*1=wv q*1;grind
  .obtain⟨d,o2,o3,o4,o5,o6,o7,fs,rfl,S2,nd,ld,f0,pf,lf,bf,ev⟩:=(hPv _ _ _).mp pv;have hi':i<its.length:=by rw[<-Yb (f:=yb),<-rts.length];exact hi
   obtain⟨c,hc⟩ : ∃c,its[i]? = some c:=⟨_,Ya hi'⟩;obtain⟨x',ex,rx⟩:=rts.at (i:=i) (d:=yb c) (by rw[Yd,hc];rfl)
   rw[hx] at ex;cases ex;obtain⟨kd,nb,mn,b⟩:=c;obtain⟨hk,fn,bn,_,_⟩:=ok _ (Yr hc);obtain⟨xa,us,rfl,hxa,rus⟩:=aD.tup_at (aD.same S2 _ _ rx);obtain⟨u1,us1,rfl,ru1,rus1⟩ : ∃x r,us=x::r/\aD (vw K H2) (.str (kS kd)) x/\aH (vw K H2) [fr nb,.int mn] r:=by
    unfold aH at rus;exact rus
   obtain⟨u2,us2,rfl,ru2,rus2⟩ : ∃x r,us1=x::r/\aD (vw K H2) (fr nb) x/\aH (vw K H2) [.int mn] r:=by
    unfold aH at rus1;exact rus1
   obtain⟨u3,us3,rfl,ru3,rus3⟩ : ∃x r,us2=x::r/\aD (vw K H2) (.int mn) x/\aH (vw K H2) [] r:=by
    unfold aH at rus2;exact rus2
   have:us3=[]:=by
    unfold aH at rus3;exact rus3
   subst this;obtain⟨na,rfl,hna⟩:=ru2.fr_at;have:u1=.str (kS kd):=by
    unfold aD at ru1;exact ru1
   subst this;have:u3=.int mn:=ru3.int_at;subst this;symm
   refine⟨_,hxa,rfl,_,_,rfl,_,_,rfl,_,_,rfl,rfl,na,rfl,_,hna,_,cZ,_,rfl,na,rfl,_,hna,_,eM,∅,λla H3 hla S3 h3=>?_⟩;simp only[Cg,DG,uf];symm
   intro pd G1 hpd T1 g1;refine⟨∅,λa1 G2 k2 T2 g2=>⟨∅,λl1 G3 k3 T3 g3=>⟨∅,λa2 G4 k4 T4 g4=>⟨∅,λa3 G5 k5 T5 g5=>⟨∅,λl2 G6 k6 T6 g6=>⟨∅,λa4 G7 k7 T7 g7=>⟨∅,λa5 G8 k8 T8 g8=>⟨∅,λl3 G9 k9 T9 g9=>?_⟩⟩⟩⟩⟩⟩⟩⟩;have U8:=T9;have U7:=T8.trans U8;have U6:=T7.trans U7;have U5:=T6.trans U6;have U4:=T5.trans U5;have U3:=T4.trans U4;have U2:=T3.trans U3;have U1:=T2.trans U2;refine⟨U1 _ _ g1,[(Sum.inr "line",.ref l1),(Sum.inr "root",.ref l2),(Sum.inr "none",.ref l3)],rfl,(show 3<=15 by decide),λH4 B4 h4=>⟨_,h4,Sum.inr (kS kd),rfl,?_⟩⟩
   have S24:az (vw K H2) (vw K H4):=λy o e=>B4 _ _ (aj (S3 _ _ e) hpd) (U1 _ _ (T1 _ _ (S3 _ _ e)));have nd3:∀{y:Addr}{xs:List V},vw K G9 y=some (.tup xs)->vw K H4 y=some (.tup xs):=λe=>B4 _ _ (λz=>by rw[z,U1 _ _ g1] at e;cases e) e
   have ndl:∀{y:Addr}{xs:List V},vw K G9 y=some (.lst xs)->vw K H4 y=some (.lst xs):=λe=>B4 _ _ (λz=>by rw[z,U1 _ _ g1] at e;cases e) e
   have fl:Fq (0-nb.1,nb.2):=⟨fn.1,by have:=fn.2;rw[Int.zero_sub,Int.neg_gcd];exact this⟩
   have bl:Bq b (0-nb.1,nb.2):=⟨by have z:Bt b nb.1:=bn.1;unfold Bt at z ⊢;show (0-nb.1).natAbs<_;rw[Int.zero_sub,Int.natAbs_neg];exact z,bn.2⟩
   have rla:aD (vw K H4) (fr (0-nb.1,nb.2)) (.ref la):=bU (nd3 (U1 _ _ (T1 _ _ h3)));have rna:aD (vw K H4) (fr nb) (.ref na):=bU (nd3 (U1 _ _ (T1 _ _ (S3 _ _ hna))));obtain⟨oa,one,eo,lo',po,bo,ln1,tp,evo⟩ : ∃(oa:Addr)(one:List (Int×Int)),ql (mX [] [((Sum.inr "line" : gU),V.ref l1),(Sum.inr "root",.ref l2),(Sum.inr "none",.ref l3)]) (Sum.inr (kS kd))=some (.ref oa)/\cF (vw K H4) oa one/\eP one/\Pb b (cf one)/\one.length=1+(if kd=0 then 1 else 2)/\cf one (one.length-1)≠0 /\ ∀x,EV (cf one) x=(fc (kd,nb,mn,b)).p x:=by
    have:kd=0\/kd=1\/kd=2:=by
     have:kd<=2:=hk;nofun
    rcases this with rfl|rfl|rfl
    .exact⟨l1,[(0-nb.1,nb.2),(1,1)],rfl,⟨_,ndl (U3 _ _ g3),.mk_cons rla (.mk_cons (bU (nd3 (U2 _ _ g2))) .mk_nil)⟩,(Kq fl bl).1,(Kq fl bl).2,rfl,sK,λx=>by rw[IZ,tD];show _=x-wv nb;grind⟩
    .exact⟨l2,[(0-nb.1,nb.2),(0,1),(1,1)],rfl,⟨_,ndl (U6 _ _ g6),.mk_cons rla (.mk_cons (bU (nd3 (U4 _ _ g4))) (.mk_cons (bU (nd3 (U5 _ _ g5))) .mk_nil))⟩,(Es fl bl).1,(Es fl bl).2,rfl,sK,λx=>by rw[L5,tD];show _=x*x-wv nb;grind⟩
    .exact⟨l3,[nb,(0,1),(1,1)],rfl,⟨_,ndl g9,.mk_cons rna (.mk_cons (bU (nd3 (U7 _ _ g7))) (.mk_cons (bU (nd3 (U8 _ _ g8))) .mk_nil))⟩,(Es fn bn).1,(Es fn bn).2,rfl,sK,λx=>by rw[L5];show _=x*x+wv nb;grind⟩
   refine⟨_,eo,?_⟩;have smd:∀g:oG->Nat,((its.take (i+1)).map g).sum=((its.take i).map g).sum+g (kd,nb,mn,b):=λg=>by
    rw[Yw,hc];simp
   have tot:∀g:oG->Nat,((its.take (i+1)).map g).sum<=(its.map g).sum:=λg=>by
    have:=Xb (λl=>(l.map g).sum) (List.take_append_drop (i+1) its);simp only[Yp,List.sum_append] at this;nofun
   have d1:=smd rL;have c1:=smd yo;have d2:=tot rL;have c2:=tot yo;have ed:rL (kd,nb,mn,b)=(if kd=0 then 1 else 2)*mn:=rfl
   have ec:yo (kd,nb,mn,b)=(b+12)*mn:=rfl;obtain⟨un,hun⟩ : ∃un,un=(if kd=0 then 1 else 2):=⟨_,rfl⟩
   rw[<-hun] at ed ln1;have m174:mn<=211:=by
    have:mn<=(b+12)*mn:=Nat.le_mul_of_pos_left _ ();nofun
   refine⟨(),(),?_⟩;obtain⟨Pw,hPw⟩ : ∃Pw:Nat->St->Hp->Prop,∀j σ H',Pw j σ H' ↔ ∃(d:Addr)(o7:Option V)(fs:List (Int×Int)),σ=[some (.ref p),some (.ref d),some (.str (kS kd)),some (.ref na),some (.int mn),some (.ref la),some (.ref oa),o7]/\az (vw K H4) (vw K H')/\vw K H d=none/\cF (vw K H') d fs/\fs≠[]/\eP fs/\fs.length=1+((its.take i).map rL).sum+un*j/\Pb (6+((its.take i).map yo).sum+(b+12)*j) (cf fs)/\(∀x,EV (cf fs) x=wv q*jZ ((its.take i).map tq) x*dQ ((fc (kd,nb,mn,b)).p x) j):=⟨_,λ_ _ _=>Xn⟩;have S04:=S2.trans S24;refine aZ (its:=gJ 0 mn) Pw (λ_ _ _ _ _=>bT) ((hPw _ _ _).mpr ⟨d,_,fs,rfl,λ_ _ z=>z,nd,ld.same S24,f0,pf,by rw[Nat.mul_zero];nofun,by rw[Nat.mul_zero];exact bf,λx=>by rw[ev x];show _=_*1;grind⟩) (λj x σ H5 hj hx pw=>?_) (λσ H5 pw=>?_)
   .obtain⟨d',o7',fs',rfl,S5,nd',ld',f0',pf',lf',bf',ev'⟩:=(hPw _ _ _).mp pw;rw[dk] at hj;have j1:un*(j+1)<=un*mn:=YX _ hj;have j2:(b+12)*(j+1)<=(b+12)*mn:=YX _ hj;have j3:un*(j+1)=un*j+un:=Nat.mul_succ _ _;have j4:(b+12)*(j+1)=(b+12)*j+(b+12):=Nat.mul_succ _ _;have un1:1<=un:=by rw[hun];split<;>nofun
    symm
    simp only[iX];have l1:0<fs'.length:=List.length_pos_iff.mpr f0';refine⟨d',oa,fs',one,_,b,rfl,ld',lo'.same S5,(),(),(),pf'.1,po.1,bf',bo,λe H6 rs S6 le ne' pr' cr _=>?_⟩;have tz:cf rs (fs'.length-1+(one.length-1))≠0:=λz=>by
     have q1:=nD (f:=cf fs') (g:=cf one) (d:=one.length-1) (i:=fs'.length-1) (λj hj=>cH ()) (λj hj=>cH ()) fs'.length;rw[<-cr,z,Yh ()] at q1;rcases Rat.mul_eq_zero.mp q1.symm with y|y
     .exact rX pf' f0' y
     .exact tp y
    have lr1:fs'.length-1+(one.length-1)<rs.length:=Nat.lt_of_not_le λz=>tz (cH z);have lr2:rs.length<=fs'.length+one.length-1:=Jz pr' λk hk=>by
     rw[cr k];exact gz (n:=one.length) (λi hi=>cH hi) _ _ ()
    refine (hPw _ _ _).mpr ⟨e,_,rs,rfl,S5.trans S6,(S04.trans S5).none ne',le,λz=>by rw[z] at lr1;simp at lr1,pr',(),?_,λx=>?_⟩
    .exact ((bf'.pr bo fs'.length).congr cr).mono ()
    .rw[fW cr x,KS (),ev' x,evo x];show _=_*(_*dQ _ j);grind
   .obtain⟨d',o7',fs',rfl,S5,nd',ld',f0',pf',lf',bf',ev'⟩:=(hPw _ _ _).mp pw;rw[dk] at lf' bf' ev';exact (hPv _ _ _).mpr ⟨d',_,_,_,_,_,_,fs',rfl,S04.trans S5,nd',ld',f0',pf',by rw[d1,ed];nofun,bf'.mono (by rw[c1,ec];nofun),λx=>by rw[ev' x,Yw,hc];show _=wv q*jZ ((its.take i++[(kd,nb,mn,b)]).map tq) x;rw[Yp];show _=wv q*jZ (_++[tq (kd,nb,mn,b)]) x;rw[u9,<-Rat.mul_assoc];rfl⟩
  .obtain⟨d,o2,o3,o4,o5,o6,o7,fs,rfl,S2,nd,ld,f0,pf,lf,bf,ev⟩:=(hPv _ _ _).mp pv;have e1:its.take ts.length=its:=Xs (by rw[rts.length,Yb];nofun)
   rw[e1] at lf bf ev;refine hN2 _ _ ?_;symm
   exact h d H2 fs S2 nd ld f0 () pf (bf.mono ()) (by rw[qo];nofun) ev
def mH(K:W.Frag):Sp:=λvs H Q _=>∃x y p q,vs=[x,y]/\aD (vw K H) (fr p) x/\aD (vw K H) (fr q) y/\Bq 20000 p/\Bq 20000 q/\Q (.bl (Jb p q)) H
theorem Hl(F:dA K "_law_less" "_law_less" xc f fd) (T:fh K mg):a9 P w K mg base dC 1 f fd ["_law_one", "_law_other"] (mH K):=by
 have scN:=A3.nd;refine F.okQ A3 (λvs H Q E h=>?_) (λcdv A outer s H vs Q E hr h=>?_)
 .obtain⟨_,_,_,_,rfl,_⟩:=h;rfl
 .obtain⟨x,y,p,q,rfl,hx,hy,bp,bq,h⟩:=h;refine⟨_,(ah (aB (gY qP (aq aS (ay a8 (qv 0) af (λ_ _=>rfl)) (ay a8 (qv 1) af (λ_ _=>rfl))) (aq aS (ay a8 (qv 1) af (λ_ _=>rfl)) (ay a8 (qv 0) af (λ_ _=>rfl))) (aK _)))),?_⟩;walk_at"m";obtain⟨a,rfl,ha⟩:=hx.fr_at;obtain⟨b,rfl,hb⟩:=hy.fr_at;walk_at"vc*";exact⟨bV bp.1 bq.2 ∅,bV bq.1 bp.2 ∅,h⟩
theorem Ih{q:Int×Int}(h:Fq q):Fq ((if q.1<0 then -q.1 else q.1),q.2):=by
 refine⟨h.1,?_⟩;have:=h.2;show Int.gcd (if q.1<0 then -q.1 else q.1) q.2=1
 split
 .rw[Int.neg_gcd];exact this
 .exact this
def kU(K:W.Frag):Sp:=λvs H Q _=>∃(x:V)(q:Int×Int)(n:Nat),vs=[x]/\n<=6000/\aD (vw K H) (fr q) x/\Fq q/\Bq n q /\ ∀v H' (r:Int×Int),az (vw K H) (vw K H')->aD (vw K H') (fr r) v->Fq r->Bq (n+n) r->wv r=cp (wv q)->Q v H'
theorem BN(F:dA K "_law_signed" "_law_signed" qe f fd) (T:fh K mg)(zCtimes:cy P w K mg base "_law_times" ["_law_one", "_law_other"] 3 (lK K)):a9 P w K mg base dC 4 f fd ["_law_x"] (kU K):=by
 have scN:=vV.nd;refine F.okQ vV (λvs H Q E h=>?_) (λcdv A outer s H vs Q E hr h=>?_)
 .obtain⟨_,_,_,rfl,_⟩:=h;rfl
 .obtain⟨x,q,n,rfl,hn,hx,fq,bq,h⟩:=h;refine⟨_,(ah (aB (ao zCtimes nofun rfl (aa (qv 0) (aa (aE (aa (aw me (by rfl) T.b_abs uo (aa (ay a8 (qv 0) af (λ_ _=>rfl)) ae)) (aa (ay a8 (qv 0) af (λ_ _=>rfl)) ae))) ae))))),?_⟩
  walk_at"m";obtain⟨k,rfl,hk⟩:=id hx.fr_at;symm
  refine⟨_,hk,_,cZ,_,rfl,_,hk,_,eM,∅,λp1 H1 hp1 S1 h1=>?_⟩;simp only[lK];have fa:=Ih fq;have ba:Bq n ((if q.1<0 then -q.1 else q.1),q.2):=⟨by have:=bq.1;unfold Bt at this ⊢;show (if q.1<0 then -q.1 else q.1).natAbs<_;split;(rw[Int.natAbs_neg];exact this);exact this,bq.2⟩
  refine⟨_,_,q,_,rfl,aD.same S1 _ _ hx,bU h1,fq.ne,fa.ne,bq.mono (),ba.mono (),(bq.2.mul ba.2).mono (),λv H2 S2 r2=>h v H2 _ (S1.trans S2) r2 (yj fq fa) (xP fq fa bq ba) ?_⟩;rw[CW fq.ne fa.ne];have p2:(0:Rat)<(q.2:Rat):=Rat.intCast_pos.mpr fq.1;have ab:wv ((if q.1<0 then -q.1 else q.1),q.2)=if wv q<0 then -wv q else wv q:=by
   have s1:wv q<0↔q.1<0:=by
    refine⟨λz=>?_,λz=>?_⟩
    .refine Yu λy=>?_;have c:(0:Rat)<=(q.1:Rat):=Rat.intCast_nonneg.mpr ();unfold wv at z;rw[Rat.div_lt_iff p2] at z;grind
    .unfold wv;rw[Rat.div_lt_iff p2];have c:(q.1:Rat)<((0:Int):Rat):=Rat.intCast_lt_intCast.mpr z;have c0:((0:Int):Rat)=0:=rfl;grind
   by_cases z:q.1<0
   .rw[Yh (s1.mpr z)];show (((if q.1<0 then -q.1 else q.1):Int):Rat)/_=_
    rw[Yh z,Xh];unfold wv;rw[XJ,XJ];grind
   .rw[Yc λy=>z (s1.mp y)];show (((if q.1<0 then -q.1 else q.1):Int):Rat)/_=_
    rw[Yc z];rfl
  rw[ab];unfold cp;by_cases z:wv q<0
  .rw[Yh z,Yh z];grind
  .rw[Yc z,Yc z]
def we(ms:List (Int×Int))(L:List Rat):Prop:=(∀q∈ms,Fq q/\Bq 300 q)/\(ms.map wv).Pairwise (· < ·) /\ ∀y,y∈ms.map wv↔y∈L
theorem we.has{ms:List (Int×Int)}{L:List Rat}{r:Int×Int}(h:we ms L)(hr:r∈ms):we ms (L++[wv r]):=by
 obtain⟨a,b,c⟩:=h;refine⟨a,b,λy=>⟨λz=>XG _ ((c y).mp z),λz=>?_⟩⟩;rcases List.mem_append.mp z with w|w
 .exact (c y).mpr w
 .rw[List.mem_singleton.mp w];exact List.mem_map.mpr ⟨r,hr,rfl⟩
def iQ(ms:List (Int×Int))(r:Rat):Nat:=(ms.filter λq=>decide (wv q<r)).length
theorem qX{r:Rat}:∀{ms:List (Int×Int)},(ms.map wv).Pairwise (· < ·)->(∀q∈ms.take (iQ ms r),wv q<r) /\ ∀q∈ms.drop (iQ ms r),¬ wv q<r
 | [],_=>⟨λ_ h=>(by simp at h),λ_ h=>(by simp at h)⟩
 | q::ms,up=>by
  obtain⟨u1,u2⟩:=List.pairwise_cons.mp up;obtain⟨i1,i2⟩:=qX (r:=r) u2;unfold iQ at *
  by_cases z:wv q<r
  .rw[Ys (by simpa using z),Yv,List.take_succ_cons,List.drop_succ_cons]
   refine⟨λp hp=>?_,i2⟩;rcases YY.mp hp with rfl|hp
   .exact z
   .exact i1 p hp
  .have no:∀p∈q::ms,¬ wv p<r:=λp hp=>by
    rcases YY.mp hp with rfl|hp
    .exact z
    .have:=u1 (wv p) (List.mem_map.mpr ⟨p,hp,rfl⟩);grind
   have:(q::ms).filter (λq=>decide (wv q<r))=[]:=List.filter_eq_nil_iff.mpr λp hp=>by simpa using no p hp
   rw[this];exact⟨λ_ h=>(by simp at h),no⟩
theorem we.ins{ms:List (Int×Int)}{L:List Rat}{r:Int×Int}(h:we ms L)(fr':Fq r)(br:Bq 300 r)(hr:r∉ms):we (ms.take (iQ ms (wv r))++r::ms.drop (iQ ms (wv r))) (L++[wv r]):=by
 obtain⟨a,b,c⟩:=h;obtain⟨l1,l2⟩:=qX (r:=wv r) b;generalize iQ ms (wv r)=n at *
 have p:(ms.take n++r::ms.drop n).Perm (r::ms):=by
  have:=XW (a:=r) (l₁:=ms.take n) (l₂:=ms.drop n)
  rwa [List.take_append_drop] at this
 have pm:=p.map wv;refine⟨λq hq=>?_,?_,λy=>?_⟩
 .rcases YY.mp (p.mem_iff.mp hq) with rfl|z
  .exact⟨fr',br⟩
  .exact a q z
 .have b':(ms.map wv).Pairwise (· < ·):=b;rw[<-List.take_append_drop n ms,Yp] at b';obtain⟨b1,b2,b3⟩:=List.pairwise_append.mp b';rw[Yp,YQ];refine List.pairwise_append.mpr ⟨b1,List.pairwise_cons.mpr ⟨λy hy=>?_,b2⟩,λx hx y hy=>?_⟩
  .obtain⟨q,hq,rfl⟩:=List.mem_map.mp hy;have n1:=l2 q hq;have qm:q∈ms:=List.mem_of_mem_drop hq;have n2:wv q≠wv r:=λe=>hr (xb (a q qm).1 fr' e▸qm);grind
  .obtain⟨q,hq,rfl⟩:=List.mem_map.mp hx;have n1:=l1 q hq;rcases YY.mp hy with rfl|hy
   .exact n1
   .exact b3 _ (List.mem_map.mpr ⟨q,hq,rfl⟩) y hy
 .rw[pm.mem_iff,YQ,YY,List.mem_append,c y,List.mem_singleton];exact or_comm
theorem oV{ms:List (Int×Int)}{q:Int×Int}{r:Rat}:iQ (ms++[q]) r=iQ ms r+if wv q<r then 1 else 0:=by
 unfold iQ;rw[List.filter_append,Yt];congr 1
 by_cases z:wv q<r
 .rw[Yh z,Ys (by simpa using z)]
  rfl
 .rw[Yc z,YB (by simpa using z)]
  rfl
def tO(K:W.Frag):Sp:=λvs H Q _=>∃(p t:Addr)(v:V)(its:List oG),vs=[.ref p]/\vw K H p=some (.tup [.ref t,v])/\gy (vw K H) t (its.map yb)/\(∀c∈its,Av c/\c.2.2.2<=100)/\its.length<=4 /\
 ∀d H' (ms:List (Int×Int)),az (vw K H) (vw K H')->vw K H d=none->cF (vw K H') d ms->(∀q∈ms,Fq q/\Bq 300 q)->(ms.map wv).Pairwise (· < ·)->(∀y,y∈ms.map wv↔y∈m7 (its.map tq))->ms.length<=8->Q (.ref d) H'
theorem DX(F:dA K "_law_marks" "_law_marks" tW f fd) (T:fh K mg)(zCsigned:cy P w K mg base "_law_signed" ["_law_x"] 4 (kU K)) (zCless:cy P w K mg base "_law_less" ["_law_one", "_law_other"] 1 (mH K)):a9 P w K mg base dC 5 f fd ["_law_factors_here"] (tO K):=by
 have scN:=yB.nd;refine F.okQ yB (λvs H Q E h=>?_) (λcdv A outer s H vs Q E hr h=>?_)
 .obtain⟨_,_,_,_,rfl,_⟩:=h;rfl
 .obtain⟨p,t,v,its,rfl,hp,ht,ok,ln,h⟩:=h;refine⟨_,(ag (ax (i:=1) scN rfl (·) (aL ae))
   (ag (cL PassesOwn.never rfl (ci (ay a8 (qv 0) af (λ_ _=>rfl))) (cR (n:=3) rfl (aC (av (i:=2) scN rfl (·)) (aC (av (i:=3) scN rfl (·)) (aC (av (i:=4) scN rfl (·)) cS)))) (ag (ax (i:=5) scN rfl (·) (eX (aF gF (qv 2) fe (aK _)) (aL (aa (ao zCsigned nofun rfl (aa (qv 3) ae)) ae)) (aL ae)))
   (ag (bC (aF gF (qv 2) fe (aK _)) (ah (ax (i:=5) scN rfl (·) (aL (aa (aE (aa (aq cj af (ay a8 (qv 3) af (λ_ _=>rfl))) (aa (ay a8 (qv 3) af (λ_ _=>rfl)) ae))) (aa (qv 3) ae))))) aP)
   (ah (cL PassesOwn.never rfl (ci (qv 5)) (av (i:=6) scN rfl (·)) (ah (bC (aF (Ao hr.u64) (qv 6) (qv 1) (by rfl)) (ah (ei (kg YJ PySem.F.slot_list_insert PySem.F.type_list_insert wS (qv 1) (aa (aw aQ (by rfl) T.b_len bK (aa (eO (own:=["_law_other"]) (outs:=["_law_one"]) (ixs:=[6]) rfl (ci (qv 1)) rfl ⟨rfl,rfl,rfl,⟨rfl,trivial⟩,rfl,⟨⟨rfl,rfl,rfl,_,rfl⟩,trivial⟩⟩ (λ_ _ _ _=>⟨(av (i:=0) (show (["_law_other", "_law_one"]:List Str).Nodup by decide +kernel) rfl (·)),(BV (cw (ao zCless nofun rfl (aa (qv 0) (aa (qv 1) ae))))),(qv 0)⟩)) ae)) (aa (qv 6) ae))))) aP)))))))
   (ah (aB (qv 1))))),?_⟩
  walk_at"m";skip
  refine aR.gen λN1 hN1=>?_;symm
  refine⟨∅,λd H1 hd S1 h1=>hN1 _ _ ?_⟩;refine aR.gen λN2 hN2=>?_;symm
  obtain⟨ts,hts,rts⟩:=id ht;refine⟨_,S1 _ _ hp,_,cZ,t,rfl,⟨_,.of (aM (S1 _ _ hts))⟩,?_⟩;have ndp:∀{b:Addr}{o:HO},vw K H b=some o->b≠d:=λe=>aj e hd;obtain⟨Pv,hPv⟩ : ∃Pv:Nat->St->Hp->Prop,∀i σ H',Pv i σ H' ↔ ∃(o2 o3 o4 o5 o6:Option V)(ms:List (Int×Int)),σ=[some (.ref p),some (.ref d),o2,o3,o4,o5,o6]/\az (vw K H) (vw K H')/\cF (vw K H') d ms/\we ms (m7 ((its.take i).map tq))/\ms.length<=2*i:=⟨_,λ_ _ _=>Xn⟩;refine aZ (its:=ts) Pv (λi σ H' _ z=>?_) ((hPv _ _ _).mpr ⟨_,_,_,_,_,[],rfl,S1,⟨[],h1,.mk_nil⟩,⟨by simp,by simp,λy=>by simp[m7]⟩,by simp⟩) (λi x σ H2 hi hx pv=>?_) (λσ H2 pv=>?_)
  .obtain⟨_,_,_,_,_,_,_,S',_⟩:=(hPv _ _ _).mp z;exact aX (S' _ _ hts)
  .obtain⟨o2,o3,o4,o5,o6,ms,rfl,S2,ld,mk,lm⟩:=(hPv _ _ _).mp pv;have hi':i<its.length:=by rw[<-Yb (f:=yb),<-rts.length];exact hi
   obtain⟨c,hc⟩ : ∃c,its[i]? = some c:=⟨_,Ya hi'⟩;obtain⟨x',ex,rx⟩:=rts.at (i:=i) (d:=yb c) (by rw[Yd,hc];rfl)
   rw[hx] at ex;cases ex;obtain⟨⟨hk,fn,bn,hns,_⟩,b100⟩:=ok _ (Yr hc);obtain⟨kd,nb,mn,b⟩:=c;obtain⟨xa,us,rfl,hxa,rus⟩:=aD.tup_at (aD.same S2 _ _ rx);obtain⟨u1,us1,rfl,ru1,rus1⟩:=rus.cons_at;obtain⟨u2,us2,rfl,ru2,rus2⟩:=rus1.cons_at;obtain⟨u3,us3,rfl,ru3,rus3⟩:=rus2.cons_at;cases rus3.nil_at;obtain⟨na,rfl,hna⟩:=id ru2.fr_at;have:u1=.str (kS kd):=by
    unfold aD at ru1;exact ru1
   subst this;have:u3=.int mn:=ru3.int_at;subst this;have bn':Bq 100 nb:=bn.mono b100;refine⟨_,rfl,_,hxa,rfl,_,_,rfl,_,_,rfl,_,_,rfl,rfl,?_⟩;have hk2:kd=0\/kd=1\/kd=2:=by
    have:kd<=2:=hk;nofun
   have kline:kS kd=Str.ofString "line" ↔ kd=0:=by
    rcases hk2 with rfl|rfl|rfl
    .exact⟨λ_=>rfl,λ_=>rfl⟩
    .exact⟨λz=>absurd z ∅,λz=>by cases z⟩
    .exact⟨λz=>absurd z ∅,λz=>by cases z⟩
   have kroot:kS kd=Str.ofString "root" ↔ kd=1:=by
    rcases hk2 with rfl|rfl|rfl
    .exact⟨λz=>absurd z ∅,λz=>by cases z⟩
    .exact⟨λ_=>rfl,λ_=>rfl⟩
    .exact⟨λz=>absurd z ∅,λz=>by cases z⟩
   have emk:m7 ((its.take (i+1)).map tq)=m7 ((its.take i).map tq)++(fc (kd,nb,mn,b)).mk:=by
    rw[Yw,hc];show m7 ((its.take i++[(kd,nb,mn,b)]).map tq)=_;rw[Yp];unfold m7;rw[List.flatMap_append];simp[tq]
   refine aR.gen λM1 hM1=>?_;have k1:∀(sa:Addr)(H3:Hp)(rs:List (Int×Int)),az (vw K H2) (vw K H3)->cF (vw K H3) sa rs->vw K H2 sa=none->(kd≠1->rs.map wv=(fc (kd,nb,mn,b)).mk)->(∀q∈rs,Fq q/\Bq 300 q)->rs.length<=1->M1 [some (.ref p),some (.ref d),some (.str (kS kd)),some (.ref na),some (.int mn),some (.ref sa),o6] H3:=by
    intro sa H3 rs S3 ls nsa ers brs lrs;refine hM1 _ _ ?_;refine aR.gen λM2 hM2=>?_;have key:∀(sa:Addr)(H4:Hp)(rs:List (Int×Int)),az (vw K H2) (vw K H4)->cF (vw K H4) sa rs->vw K H2 sa=none->rs.map wv=(fc (kd,nb,mn,b)).mk->(∀q∈rs,Fq q/\Bq 300 q)->rs.length<=2->M2 [some (.ref p),some (.ref d),some (.str (kS kd)),some (.ref na),some (.int mn),some (.ref sa),o6] H4:=by
     intro sa H4 rs S4 ls nsa ers brs lrs;refine hM2 _ _ ?_;symm
     obtain⟨ss,hss,rss⟩:=id ls;have lss:ss.length=rs.length:=by rw[rss.length,Yb]
     have nsd:sa≠d:=by
      obtain⟨ys,hys,_⟩:=id ld;exact (aj hys nsa).symm
     obtain⟨Pw,hPw⟩ : ∃Pw:Nat->St->Hp->Prop,∀j σ H',Pw j σ H' ↔ ∃(o6:Option V)(ms':List (Int×Int)),σ=[some (.ref p),some (.ref d),some (.str (kS kd)),some (.ref na),some (.int mn),some (.ref sa),o6]/\az (vw K H) (vw K H')/\vw K H' sa=some (.lst ss)/\aH (vw K H') (rs.map fr) ss/\cF (vw K H') d ms'/\we ms' (m7 ((its.take i).map tq)++(rs.take j).map wv)/\ms'.length<=2*i+j:=⟨_,λ_ _ _=>Xn⟩;refine⟨⟨_,.of (aM hss)⟩,aZ (its:=ss) Pw (λj σ H' _ z=>?_) ((hPw _ _ _).mpr ⟨_,ms,rfl,S2.trans S4,hss,rss,ld.same S4,by rw[List.take_zero,XB,Xi];exact mk,()⟩) (λj y σ H5 hj hy pw=>?_) (λσ H5 pw=>?_)⟩
     .obtain⟨_,_,_,_,z1,_⟩:=(hPw _ _ _).mp z;exact aX z1
     .obtain⟨o6',ms',rfl,S5,hs5,rs5,ld5,mk5,lm5⟩:=(hPw _ _ _).mp pw;have hj':j<rs.length:=();obtain⟨r,hr⟩ : ∃r,rs[j]? = some r:=⟨_,Ya hj'⟩;obtain⟨y',ey,ry⟩:=rs5.at (i:=j) (d:=fr r) (by rw[Yd,hr];rfl)
      rw[hy] at ey;cases ey;obtain⟨fr1,br1⟩:=brs r (Yr hr);have et:(rs.take (j+1)).map wv=(rs.take j).map wv++[wv r]:=by rw[Yw,hr];simp
      obtain⟨xs,hxs,rxs⟩:=id ld5;symm
      simp only[Kp];refine⟨_,_,ry,ld5.rep,xw r,ol ms',!decide (r∈ms'),by rw[Yh trivial,yY],be (λz=>?_) (λz=>?_)⟩
      .have nr:r∉ms':=by simpa using z
       refine⟨kD hxs,⟨_,.of (aM hxs)⟩,λa6 H6 ha6 S6 h6=>?_⟩;have lxs:xs.length=ms'.length:=by rw[rxs.length,Yb]
       refine bZ (its:=xs) (λk zs H'=>az (vw K H5) (vw K H')/\zs.length=iQ (ms'.take k) (wv r)) (λk zs H' _ _ w=>aX (w.1 _ _ hxs)) h6 ⟨S6,rfl⟩ (λk x zs H' hk hx h' w=>?_) (λzs H7 h7 w=>?_)
       .obtain⟨w1,w2⟩:=w;have hk':k<ms'.length:=();obtain⟨x',ex,rx'⟩:=rxs.at (i:=k) (d:=fr ms'[k]) (by rw[Yd,Ya hk'];rfl)
        rw[hx] at ex;cases ex;have bm:=(mk5.1 _ (Yo hk')).2;have fm:=(mk5.1 _ (Yo hk')).1;have et':ms'.take (k+1)=ms'.take k++[ms'[k]]:=by rw[Yw,Ya hk'];rfl
        have zl:zs.length<=k:=by
         rw[w2];refine Yz (List.length_filter_le _ _) ?_;rw[YC];nofun
        symm
        simp only[mH];refine⟨_,_,ms'[k],r,rfl,aD.same w1 _ _ rx',aD.same w1 _ _ ry,bm.mono ∅,br1.mono ∅,_,rfl,be (λy=>.mk h' ?_ λH8 B8 h8=>⟨λb o e=>B8 _ _ (aj e ha6) (w1 _ _ e),?_⟩) (λy=>.mk h' ⟨w1,?_⟩)⟩
        .have:1000<=sizeLine:=∅;nofun
        .rw[fK fm fr1] at y;rw[et',oV,Yh (by simpa using y),Yt,w2]
         rfl
        .rw[fK fm fr1] at y;rw[et',oV,Yc (by simpa using y),w2]
         rfl
       .obtain⟨w1,w2⟩:=w;rw[Xs ()] at w2;have zl:iQ ms' (wv r)<=ms'.length:=List.length_filter_le _ _;refine⟨zs.length,by simp only[fA,h7],?_⟩
        simp only[Gy];refine⟨d,_,_,rfl,rfl,xs,w1 _ _ hxs,?_,(),by rw[Xv];nofun,λH8 B8 h8=>?_⟩
        .have:1000<=sizeLine:=∅;nofun
        rw[Xv,w2] at h8;have hx7:=w1 _ _ hxs;refine (hPw _ _ _).mpr ⟨_,ms'.take (iQ ms' (wv r))++r::ms'.drop (iQ ms' (wv r)),rfl,λb o e=>B8 _ _ (ndp e) (w1 _ _ (S5 _ _ e)),B8 _ _ nsd (w1 _ _ hs5),aH.flat_but hx7 B8 _ _ (iP _) (rs5.same w1),⟨_,h8,?_⟩,by rw[et,<-YS];exact mk5.ins fr1 br1 nr,by rw[Yt,Yv,YC,List.length_drop];nofun⟩
        have r8:=aH.flat_but hx7 B8 _ _ (iP _) (rxs.same w1);have y8:=aD.flat_but hx7 B8 _ _ (dX _) (aD.same w1 _ _ ry);unfold Ki;rw[Yp,YQ,List.map_take,List.map_drop];exact (r8.take _).app (.mk_cons y8 (r8.drop _))
      .have yr:r∈ms':=by simpa using z
       exact (hPw _ _ _).mpr ⟨_,ms',rfl,S5,hs5,rs5,ld5,by rw[et,<-YS];exact mk5.has yr,()⟩
     .obtain⟨o6',ms',rfl,S5,hs5,rs5,ld5,mk5,lm5⟩:=(hPw _ _ _).mp pw;rw[Xs (l:=rs) (),ers,<-emk] at mk5;exact (hPv _ _ _).mpr ⟨_,_,_,_,_,ms',rfl,S5,ld5,mk5,()⟩
    symm
    refine⟨rfl,be (λz=>?_) (λz=>key sa H3 rs S3 ls nsa (ers λy=>z (kroot.mpr y)) brs ())⟩;have k1:=kroot.mp z;have hna3:=S3 _ _ hna;refine⟨_,hna3,_,cZ,_,rfl,_,hna3,_,eM,∅,λp5 H5 hp5 S5 h5=>⟨∅,λl6 H6 hl6 S6 h6=>key l6 H6 [(0-nb.1,nb.2),nb] (S3.trans (S5.trans S6)) ⟨_,h6,.mk_cons (bU (S6 _ _ h5)) (.mk_cons (bU ((S5.trans S6) _ _ hna3)) .mk_nil)⟩ ((S3.trans S5).none hl6) ?_ (λq hq=>?_) (by simp)⟩⟩
    .rw[k1];show [wv (0-nb.1,nb.2),wv nb]=[-wv nb,wv nb];rw[tD]
    .simp only[YY,YN,Xy] at hq;rcases hq with rfl|rfl
     .exact⟨⟨fn.1,by have:=fn.2;rw[Int.zero_sub,Int.neg_gcd];exact this⟩,⟨by have z:Bt 100 nb.1:=bn'.1;exact Bt.mono (m:=100) (by unfold Bt at z ⊢;show (0-nb.1).natAbs<_;rw[Int.zero_sub,Int.natAbs_neg];exact z) ∅,bn'.2.mono ∅⟩⟩
     .exact⟨fn,bn'.mono ∅⟩
   symm
   refine⟨rfl,be (λz=>?_) (λz=>⟨∅,λl3 H3 hl3 S3 h3=>k1 l3 H3 [] S3 ⟨_,h3,.mk_nil⟩ hl3 (λn1=>?_) (by simp) (by simp)⟩)⟩
   .have k0:=kline.mp z;simp only[kU];refine⟨_,nb,100,rfl,∅,ru2,fn,bn',λv3 H3 r S3 r3 f3 b3 w3=>⟨∅,λl4 H4 hl4 S4 h4=>k1 l4 H4 [r] (S3.trans S4) ⟨_,h4,.mk_cons (aD.same S4 _ _ r3) .mk_nil⟩ (S3.none hl4) (λ_=>?_) (by simpa using ⟨f3,b3.mono ∅⟩) (by simp)⟩⟩
    rw[k0];show [wv r]=[cp (wv nb)];rw[w3]
   .have k2:kd=2:=by
     have:kd≠0:=λy=>z (kline.mpr y);nofun
    rw[k2];rfl
  .obtain⟨o2,o3,o4,o5,o6,ms,rfl,S2,ld,mk,lm⟩:=(hPv _ _ _).mp pv;have e1:its.take ts.length=its:=Xs (by rw[rts.length,Yb];nofun)
   rw[e1] at mk;refine hN2 _ _ ?_;symm
   exact h d H2 ms S2 hd ld mk.1 mk.2.1 mk.2.2 (by have:=rts.length;rw[Yb] at this;nofun)
def flt(lo hi:Option (Int×Int))(ms:List (Int×Int)):List (Int×Int):=ms.filter λm=>mh (lo.map wv) (hi.map wv) (wv m)
def pA(K:W.Frag):Sp:=λvs H Q _=>∃(d:Addr)(x y:V)(ms:List (Int×Int))(lo hi:Option (Int×Int)),vs=[.ref d,x,y]/\cF (vw K H) d ms/\(∀q∈ms,Fq q/\Bq 300 q)/\ms.length<=8/\qu (vw K H) x lo/\qu (vw K H) y hi /\
 ∀(e:Addr) H',az (vw K H) (vw K H')->cF (vw K H') e (flt lo hi ms)->Q (.ref e) H'
theorem AQ(F:dA K "_law_inside" "_law_inside" pR f fd) (T:fh K mg)(zCless:cy P w K mg base "_law_less" ["_law_one", "_law_other"] 1 (mH K)) (zCsigned:cy P w K mg base "_law_signed" ["_law_x"] 4 (kU K)):a9 P w K mg base dC 5 f fd ["_law_marks_here", "_law_low_here", "_law_high"] (pA K):=by
 have scN:=vP.nd;refine F.okQ vP (λvs H Q E h=>?_) (λcdv A outer s H vs Q E hr h=>?_)
 .obtain⟨_,_,_,_,_,_,rfl,_⟩:=h;rfl
 .obtain⟨d,x,y,ms,lo,hi,rfl,hd,fm,lm,hx,hy,h⟩:=h;refine⟨_,(ag (ax (i:=3) scN rfl (·) (aL ae))
   (ag (cL PassesOwn.never rfl (ci (qv 0)) (av (i:=4) scN rfl (·)) (ag (ax (i:=5) scN rfl (·) (Ky (gY uj (qv 1) gR (aK _)) (pI (ao zCless nofun rfl (aa (ao zCsigned nofun rfl (aa (qv 1) ae)) (aa (qv 4) ae))))))
   (ah (bC (QW.pt (kJ (dE (qv 5) (λ_=>rfl)) (iW (QW.pt (fo (aF uj (qv 2) gR (aK _)) (gn (cE (cw (ao zCless nofun rfl (aa (ao zCsigned nofun rfl (aa (qv 2) ae)) (aa (qv 4) ae))))))))))) (ah (ei (kg YJ YW YV c8 (qv 3) (aa (qv 4) ae)))) aP))))
   (ah (aB (qv 3))))),?_⟩
  walk_at"m";skip
  obtain⟨xs,hxs,rxs⟩:=id hd;have lxs:xs.length=ms.length:=by rw[rxs.length,Yb]
  refine aR.gen λN1 hN1=>?_;symm
  refine⟨∅,λe H1 he S1 h1=>hN1 _ _ ?_⟩;refine aR.gen λN2 hN2=>?_;symm
  obtain⟨Pv,hPv⟩ : ∃Pv:Nat->St->Hp->Prop,∀i σ H',Pv i σ H' ↔ ∃(o4 o5:Option V),σ=[some (.ref d),some x,some y,some (.ref e),o4,o5]/\az (vw K H) (vw K H')/\cF (vw K H') e (flt lo hi (ms.take i)):=⟨_,λ_ _ _=>Xn⟩;refine⟨⟨_,.of (aM (S1 _ _ hxs))⟩,aZ (its:=xs) Pv (λi σ H' _ z=>?_) ((hPv _ _ _).mpr ⟨_,_,rfl,S1,[],h1,.mk_nil⟩) (λi v σ H2 hi' hv pv=>?_) (λσ H2 pv=>?_)⟩
  .obtain⟨_,_,_,S',_⟩:=(hPv _ _ _).mp z;exact aX (S' _ _ hxs)
  .obtain⟨o4,o5,rfl,S2,ls2⟩:=(hPv _ _ _).mp pv;have him:i<ms.length:=();obtain⟨m,hm⟩ : ∃m,ms[i]? = some m:=⟨_,Ya him⟩;obtain⟨v',ev,rv⟩:=rxs.at (i:=i) (d:=fr m) (by rw[Yd,hm];rfl)
   rw[hv] at ev;cases ev;obtain⟨fm1,bm1⟩:=fm m (Yr hm);have et:flt lo hi (ms.take (i+1))=flt lo hi (ms.take i)++(if mh (lo.map wv) (hi.map wv) (wv m)=true then [m] else []):=by
    unfold flt;rw[Yw,hm];show (ms.take i++[m]).filter _=_;rw[List.filter_append];congr 1
    by_cases z:mh (lo.map wv) (hi.map wv) (wv m)=true
    .rw[Ys (by exact z),Yh z];rfl
    .rw[YB (by exact z),Yc z];rfl
   have ne:∀{b:Addr}{o:HO},vw K H b=some o->b≠e:=λz=>aj z he;refine aR.gen λM1 hM1=>?_;obtain⟨lb,hlb⟩ : ∃b,b=(match lo.map wv with|none=>true|some a=>decide (cp a<wv m)):=⟨_,rfl⟩
   obtain⟨hb,hhb⟩ : ∃b,b=(match hi.map wv with|none=>true|some a=>!decide (cp a<wv m)):=⟨_,rfl⟩
   have ein:mh (lo.map wv) (hi.map wv) (wv m)=(lb && hb):=by rw[hlb,hhb];rfl
   rw[ein] at et;have k1:∀H3,az (vw K H2) (vw K H3)->M1 [some (.ref d),some x,some y,some (.ref e),some v,some (.bl lb)] H3:=λH3 S3=>hM1 _ _ ?_
   .symm
    cases lo with
    | none =>
     rw[show (true:Bool)=lb from hlb.symm]
     exact m4 hx (k1 H2 .rfl)
    | some q =>
     obtain⟨rx,fx,bx⟩:=id (hx.same S2);obtain⟨kx,rfl,hkx⟩:=id rx.fr_at;refine iZ (by simp) ⟨_,q,5000,rfl,∅,rx,fx,bx,λv3 H3 r S3 r3 f3 b3 w3=>⟨_,_,r,m,rfl,r3,aD.same (S2.trans S3) _ _ rv,b3.mono ∅,bm1.mono ∅,?_⟩⟩
     have:Jb r m=lb:=by rw[hlb,fK f3 fm1,w3];rfl
     rw[this];exact k1 H3 S3
   clear hM1;have S03:=S2.trans S3;have no:∀H4,az (vw K H3) (vw K H4)->(lb && hb)=false->Pv (i+1) [some (.ref d),some x,some y,some (.ref e),some v,some (.bl lb)] H4:=λH4 S4 z=>(hPv _ _ _).mpr ⟨_,_,rfl,S03.trans S4,by rw[et,Yc (by rw[z];decide),Xi];exact (ls2.same S3).same S4⟩
   have yes:∀H4,az (vw K H3) (vw K H4)->(lb && hb)=true->JO K "list" (V.ref e) H4 /\ ∃xs,vw K H4 e=some (.lst xs)/\xs.length<sizeLine/\Df K H4 e (.lst (xs++[v])) λH1=>Pv (i+1) [some (.ref d),some x,some y,some (.ref e),some v,some (.bl lb)] H1:=λH4 S4 z=>by
    obtain⟨zs,h4,rz⟩:=id ((ls2.same S3).same S4);refine⟨kD h4,zs,h4,?_,λH5 B5 h5=>(hPv _ _ _).mpr ⟨_,_,rfl,λb o w=>B5 _ _ (ne w) ((S03.trans S4) _ _ w),_,h5,?_⟩⟩
    .have q1:(flt lo hi (ms.take i)).length<=(ms.take i).length:=List.length_filter_le _ _;have q2:=rz.length;rw[Yb] at q2;rw[YC] at q1;have:1000<=sizeLine:=∅;nofun
    .rw[et,Yh z,Yp];exact (aH.flat_but h4 B5 _ _ (iP _) rz).snoc (aD.flat_but h4 B5 _ _ (dX _) (aD.same (S03.trans S4) _ _ rv))
   symm
   refine be (λz=>?_) (λz=>no H3 .rfl (by rw[Bool.eq_false_iff.mpr z,Bool.false_and]))
   cases hi with
   | none=>exact m4 hy (yes H3 .rfl (by rw[z,hhb];rfl))
   | some q =>
    obtain⟨ry,fy,by'⟩:=id (hy.same S03);obtain⟨ky,rfl,hky⟩:=id ry.fr_at;refine iZ (by simp) ⟨_,q,5000,rfl,∅,ry,fy,by',λv4 H4 r S4 r4 f4 b4 w4=>⟨_,_,r,m,rfl,r4,aD.same (S03.trans S4) _ _ rv,b4.mono ∅,bm1.mono ∅,_,rfl,?_⟩⟩
    have e2:hb = !Jb r m:=by rw[hhb,fK f4 fm1,w4];rfl
    exact be (λw=>yes H4 S4 (by rw[z,e2,w];rfl)) (λw=>no H4 S4 (by rw[e2,show Jb r m=true by simpa using w,z];rfl))
  .obtain⟨o4,o5,rfl,S2,ls2⟩:=(hPv _ _ _).mp pv;rw[lxs,Y0] at ls2;refine hN2 _ _ ?_;symm
   exact h e H2 S2 ls2
theorem Bw{m:Int×Int}:∀{qs:List (Int×Int)},qQ (.lst (qs.map fr)) (.lst [fr m])=true->qs=[m]
 | [],h=>by
  unfold qQ D.py at h;simp[D.pys,PyData.eqv,PyData.eqvAll] at h
 | [q],h=>by
  have e:qQ (.lst ([q].map fr)) (.lst [fr m])=(qQ (fr q) (fr m) && true):=by
   unfold qQ;simp only[YQ,XB,D.py,D.pys,PyData.eqv,PyData.eqvAll]
  rw[e,Bool.and_true,ww] at h;rw[Xm h]
 | q::r::qs,h=>by
  unfold qQ at h;simp[D.py,D.pys,PyData.eqv,PyData.eqvAll] at h
def p8(ms:List (Int×Int))(g:Int×Int)(us:List ((Int×Int)×(Int×Int))):Prop:=(∀(i:Nat) c m,us[i]? = some c->ms[i]? = some m->Fq c.1/\Fq c.2/\wv c.1<wv c.2/\wv c.2-wv c.1<=wv g/\flt (some c.1) (some c.2) ms=[m]) /\ ∀(i:Nat) c e,us[i]? = some c->us[i+1]? = some e->wv c.2<=wv e.1
def DK(ms:List (Int×Int))(g:Int×Int)(d:D):Prop:=∃us,d=.lst (us.map fH)/\us.length=ms.length/\p8 ms g us
theorem p8.snoc{ms:List (Int×Int)}{g:Int×Int}{us:List ((Int×Int)×(Int×Int))}{c:(Int×Int)×(Int×Int)}(h:p8 ms g us)(hc:∀m,ms[us.length]? = some m->Fq c.1/\Fq c.2/\wv c.1<wv c.2/\wv c.2-wv c.1<=wv g/\flt (some c.1) (some c.2) ms=[m])(ho:∀e,us.getLast? = some e->wv e.2<=wv c.1):p8 ms g (us++[c]):=by
 have split:∀(i:Nat) q,(us++[c])[i]? = some q->us[i]? = some q\/(i=us.length/\q=c):=λi q k=>by
  by_cases z:i<us.length
  .rw[YA z] at k;exact .inl k
  .have z2:=(List.getElem?_eq_some_iff.mp k).1;have:i=us.length:=by simp at z2;nofun
   subst this;rw[Yx (Yi _),Xo] at k;cases k;exact .inr ⟨rfl,rfl⟩
 refine⟨λi q m hq hm=>?_,λi q e hq he=>?_⟩
 .rcases split i q hq with z|⟨rfl,rfl⟩
  .exact h.1 i q m z hm
  .exact hc m hm
 .rcases split (i+1) e he with z|⟨z,rfl⟩
  .have:=(List.getElem?_eq_some_iff.mp z).1;rcases split i q hq with y|⟨y,_⟩
   .exact h.2 i q e y z
   .nofun
  .rcases split i q hq with y|⟨y,_⟩
   .refine ho q ?_;rw[Yy,show us.length-1=i by nofun]
    exact y
   .nofun
theorem Ju{lo hi:Option (Int×Int)}{ms:List (Int×Int)}:(flt lo hi ms).map wv=(ms.map wv).filter (mh (lo.map wv) (hi.map wv)):=by
 unfold flt;rw[List.filter_map];rfl
theorem zx{l:List (aU×Nat)}{ms:List (Int×Int)}{u v:Int×Int}(ok:∀q∈l,q.1.ok/\1<=q.2)(un:l.Pairwise λa b=>a.1≠b.1)(up:(ms.map wv).Pairwise (· < ·))(hm:∀y,y∈ms.map wv↔y∈m7 l)(lt:wv u<wv v):(flt (some u) (some v) ms).length+bQ l (wv u)=bQ l (wv v):=by
 have nd:(ms.map wv).Nodup:=up.imp λ{x y} h e=>by rw[e] at h;exact Rat.lt_irrefl h
 have i:=mD (lo:=some (wv u)) (hi:=some (wv v)) ok un nd hm (λx y e1 e2=>by cases e1;cases e2;exact Yl lt)
 have e:=Xb List.length (Ju (lo:=some u) (hi:=some v) (ms:=ms));rw[Yb] at e;rw[e];exact i
theorem Bs{l:List (aU×Nat)}{ms:List (Int×Int)}{g:Int×Int}{d:D}(ok:∀q∈l,q.1.ok/\1<=q.2)(un:l.Pairwise λa b=>a.1≠b.1)(up:(ms.map wv).Pairwise (· < ·))(hm:∀y,y∈ms.map wv↔y∈m7 l)(fm:∀q∈ms,Fq q)(mono:∀a b,a<=b->bQ l a<=bQ l b):DK ms g d↔vC l g d:=by
 have lm:=qR ok un up hm;rw[Yb] at lm;refine⟨λ⟨us,e,lu,h1,h2⟩=>⟨us,e,(),λi c hc=>?_,h2⟩,λ⟨us,e,lu,h1,h2⟩=>⟨us,e,(),λi c m hc hm'=>?_,h2⟩⟩
 .have il:=(List.getElem?_eq_some_iff.mp hc).1;obtain⟨q1,q2,q3,q4,q5⟩:=h1 i c _ hc (Ya ());have:=zx ok un up hm q3;rw[q5] at this;exact⟨q1,q2,q3,q4,by simp at this;nofun⟩
 .-- the roots below a low end
  have ge:∀(k:Nat) c,us[k]? = some c->k<=bQ l (wv c.1):=by
   intro k;induction k with
   | zero=>intro c _;exact Y7 _
   | succ k ih =>
    intro c hc;have kl:=(List.getElem?_eq_some_iff.mp hc).1;have hk:us[k]? = some us[k]:=Ya ();have a:=ih _ hk;have b:=(h1 k _ hk).2.2.2.2;have o:=mono _ _ (h2 k _ c hk hc);nofun
  have le:∀(j k:Nat) c,k+j+1=us.length->us[k]? = some c->bQ l (wv c.1)<=k:=by
   intro j;induction j with
   | zero =>
    intro k c e hc;have b:=(h1 k c hc).2.2.2.2;have t:=sM (wv c.2) l;nofun
   | succ j ih =>
    intro k c e hc;have hk:us[k+1]? = some us[k+1]:=Ya ();have a:=ih (k+1) _ () hk;have b:=(h1 k c hc).2.2.2.2;have o:=mono _ _ (h2 k c _ hc hk);nofun
  have il:=(List.getElem?_eq_some_iff.mp hc).1;obtain⟨q1,q2,q3,q4,q5⟩:=h1 i c hc;have pa:bQ l (wv c.1)=i:=Nat.le_antisymm (le (us.length-i-1) i c () hc) (ge i c hc);obtain⟨y,ey,y1,y2,_⟩:=D6 (σ:=λ_=>0) ok un up hm pa (show bQ l (wv c.2)=i+1 by nofun)
  have fl:=zx ok un up hm q3;have one:(flt (some c.1) (some c.2) ms).length=1:=();obtain⟨z,hz⟩:=List.length_eq_one_iff.mp one;have em:m∈flt (some c.1) (some c.2) ms:=by
   unfold flt;refine List.mem_filter.mpr ⟨Yr hm',?_⟩;rw[Yd,hm'] at ey;cases ey;show (decide (cp (wv c.1)<wv m) && !decide (cp (wv c.2)<wv m))=true;rw[Y1 y1,YZ (show ¬ cp (wv c.2)<wv m by grind)]
   rfl
  rw[hz] at em ⊢;rw[List.mem_singleton.mp em];exact⟨q1,q2,q3,q4,rfl⟩
def vA(K:W.Frag):Sp:=λvs H Q _=>∃(da:Addr)(wd x:V)(ms:List (Int×Int))(g:Int×Int)(d:D),vs=[.ref da,wd,x]/\cF (vw K H) da ms/\(∀q∈ms,Fq q/\Bq 300 q)/\ms.length<=8/\aD (vw K H) (fr g) wd/\Fq g/\Bq 20 g/\aD (vw K H) d x/\(∀ds,d=.lst ds -> ∀e∈ds,JQ e) /\
 ∀b (H':Hp),az (vw K H) (vw K H')->(b=true↔DK ms g d)->Q (.bl b) H'
theorem KU(F:dA K "_law_due" "_law_due" Di f fd) (T:fh K mg)(zCis_fraction:cy P w K mg base "_law_is_fraction" ["_law_thing"] 2 (iy K)) (zCminus:cy P w K mg base "_law_minus" ["_law_one", "_law_other"] 3 (lN K)) (zCless:cy P w K mg base "_law_less" ["_law_one", "_law_other"] 1 (mH K)) (zCinside:cy P w K mg base "_law_inside" ["_law_marks_here", "_law_low_here", "_law_high"] 5 (pA K)):a9 P w K mg base dC 6 f fd ["_law_marks_here", "_law_width", "_law_thing"] (vA K):=by
 have scN:=GA.nd;refine F.okQ GA (λvs H Q E h=>?_) (λcdv A outer s H vs Q E hr h=>?_)
 .obtain⟨_,_,_,_,_,_,rfl,_⟩:=h;rfl
 .obtain⟨da,wd,x,ms,g,d,rfl,hda,fm,lm,rg,fg,bg,rx,prb,h⟩:=h;refine⟨_,(ag (bC (QW.pt (fo (cE (cw (aw ce (by rfl) T.b_isinstance aI (aa (qv 2) (aa (dZ (v:=V.ty "list") rfl T.b_list md rfl) ae))))) (gn (aF ie (aw aQ (by rfl) T.b_len bK (aa (qv 2) ae)) (aw aQ (by rfl) T.b_len bK (aa (qv 0) ae)) (aK _))))) (ah (aB dD)) aP)
   (ag (cL PassesOwn.never rfl (dq rfl T.b_range (aa (aw aQ (by rfl) T.b_len bK (aa (qv 2) ae)) ae)) (av (i:=3) scN rfl (·)) (ag (ax (i:=4) scN rfl (·) (ay cO (qv 2) (qv 3) (λ_ _=>rfl)))
   (ag (bC (QW.pt (fo (cE (cw (aw ce (by rfl) T.b_isinstance aI (aa (qv 4) (aa (dZ (v:=V.ty "tuple") rfl T.b_tuple jD rfl) ae))))) (fo (aF ie (aw aQ (by rfl) T.b_len bK (aa (qv 4) ae)) af (aK _)) (fo (cE (cw (ao zCis_fraction nofun rfl (aa (ay a8 (qv 4) af (λ_ _=>rfl)) ae)))) (gn (cE (cw (ao zCis_fraction nofun rfl (aa (ay a8 (qv 4) af (λ_ _=>rfl)) ae))))))))) (ah (aB dD)) aP)
   (ag (ax (i:=5) scN rfl (·) (ao zCminus nofun rfl (aa (ay a8 (qv 4) af (λ_ _=>rfl)) (aa (ay a8 (qv 4) af (λ_ _=>rfl)) ae))))
   (ag (bC (QW.pt (fo (aF KG (ay a8 (qv 5) af (λ_ _=>rfl)) af (aK _)) (fo (cw (ao zCless nofun rfl (aa (qv 1) (aa (qv 5) ae)))) (gn (aF (BS hr.u64) (ao zCinside nofun rfl (aa (qv 0) (aa (ay a8 (qv 4) af (λ_ _=>rfl)) (aa (ay a8 (qv 4) af (λ_ _=>rfl)) ae)))) (aL (aa (ay cO (qv 0) (qv 3) (λ_ _=>rfl)) ae)) (aK _)))))) (ah (aB dD)) aP)
   (ah (bC (QW.pt (kJ (aF kr (qv 3) af (aK _)) (iW (cw (ao zCless nofun rfl (aa (ay a8 (qv 4) af (λ_ _=>rfl)) (aa (ay a8 (ay cO (qv 2) (aq cj (qv 3) af) (λ_ _=>rfl)) af (λ_ _=>rfl)) ae))))))) (ah (aB dD)) aP)))))))
   (ah (aB dD)))),?_⟩
  walk_at"m";skip
  have ht:=aD.ty rx;obtain⟨xs,hxs,rxs⟩:=id hda;have lxs:xs.length=ms.length:=by rw[rxs.length,Yb]
  have fail:∀H',az (vw K H) (vw K H') -> ¬ DK ms g d->Q (.bl false) H':=λH' S' n=>h false H' S' ⟨λz=>(by cases z),λz=>absurd z n⟩
  refine aR.gen λN1 hN1=>?_;have go:∀ds (t:Addr) ts,d=.lst ds->x=.ref t->vw K H t=some (.lst ts)->aH (vw K H) ds ts->ds.length=ms.length->N1 [some (.ref da),some wd,some x,none,none,none] H:=λds t ts hd ex hts rts ld=>hN1 _ _ ?_
  .walk_at"vc*";cases d with
   | lst ds =>
    obtain⟨t,ts,rfl,hts,rts⟩:=rx.lst_at;refine iZ (by simp[D.ty,ft]) ⟨t,rfl,ts.length,by simp only[fA,hts],xs.length,by simp only[fA,hxs],be (λz=>?_) (λz=>go ds t ts rfl rfl hts rts ?_)⟩
    .refine fail H (az.refl _) λ⟨us,e,lu,_⟩=>z ?_;cases e;have:=rts.length;rw[Yb] at this;nofun
    .have:=rts.length;nofun
   | _=>exact m4 (by simp[D.ty,ft]) (fail H (az.refl _) λ⟨us,e,_⟩=>by cases e)
  clear hN1;subst hd ex;have prb:=prb ds rfl;have lts:ts.length=ds.length:=rts.length;refine aR.gen λN2 hN2=>?_;symm
  have lim:1000<=sizeLine:=∅;refine⟨ts.length,by simp only[fA,hts],(),(),?_⟩
  rw[Xv];obtain⟨Pv,hPv⟩ : ∃Pv:Nat->St->Hp->Prop,∀k σ H',Pv k σ H' ↔ ∃(o3 o4 o5:Option V)(us:List ((Int×Int)×(Int×Int))),σ=[some (.ref da),some wd,some (.ref t),o3,o4,o5]/\az (vw K H) (vw K H')/\us.length=k/\ds.take k=us.map fH/\p8 ms g us:=⟨_,λ_ _ _=>Xn⟩;refine aZ (its:=gJ 0 ts.length) Pv (λ_ _ _ _ _=>bT) ((hPv _ _ _).mpr ⟨_,_,_,[],rfl,az.refl _,rfl,rfl,by unfold p8;simp⟩) (λk y σ H1 hk hy pv=>?_) (λσ H1 pv=>?_)
  .obtain⟨o3,o4,o5,us,rfl,S1,lu,eu,hg⟩:=(hPv _ _ _).mp pv;obtain⟨hk',rfl⟩:=gB hy;have kd:k<ds.length:=();obtain⟨e,he⟩ : ∃e,ds[k]? = some e:=⟨_,Ya kd⟩;obtain⟨y,ey,ry⟩:=rts.at (i:=k) (d:=e) he;have ry1:=aD.same S1 _ _ ry;have pe:=prb e (Yr he);obtain⟨m,hm⟩ : ∃m,ms[k]? = some m:=⟨_,Ya ()⟩;obtain⟨xm,exm,rxm⟩:=rxs.at (i:=k) (d:=fr m) (by rw[Yd,hm];rfl)
   have need:DK ms g (.lst ds) -> ∃us':List ((Int×Int)×(Int×Int)),ds=us'.map fH/\us'.take k=us/\p8 ms g us':=λ⟨us',e',_,hg'⟩=>by
    cases e';refine⟨us',rfl,ju ?_,hg'⟩;rw[List.map_take];exact eu
   have at_:DK ms g (.lst ds) -> ∃u v,e=fH (u,v)/\Fq u/\Fq v/\wv u<wv v/\wv v-wv u<=wv g/\flt (some u) (some v) ms=[m] /\ ∀c,us.getLast? = some c->wv c.2<=wv u:=λhh=>by
    obtain⟨us',e1,tk,hg'⟩:=need hh;rw[e1,Yd] at he;cases q:us'[k]? with
    | none=>rw[q] at he;cases he
    | some c =>
     rw[q] at he;cases he;obtain⟨q1,q2,q3,q4,q5⟩:=hg'.1 k c m q hm;refine⟨c.1,c.2,rfl,q1,q2,q3,q4,q5,λp hp=>?_⟩;rw[Yy,lu] at hp;have k0:0<k:=by
      have:=(List.getElem?_eq_some_iff.mp hp).1;nofun
     have q6:us'[k-1]? = some p:=by
      rw[<-tk,Xg,Yh ()] at hp;exact hp
     exact hg'.2 (k-1) p c q6 (by rw[show k-1+1=k by nofun];exact q)
   refine aR.gen λM1 hM1=>?_;symm
   refine⟨ts,S1 _ _ hts,y,?_,hM1 _ _ ?_⟩
   .rw[show (0:Int)+((k:Nat):Int)=((k:Nat):Int) by nofun]
    exact bB ey
   clear hM1;refine aR.gen λM2 hM2=>?_;have go2:∀u v (ya:Addr) w1 w2,e=fH (u,v)->Fq u->Fq v->y=.ref ya->vw K H1 ya=some (.tup [w1,w2])->aD (vw K H1) (fr u) w1->aD (vw K H1) (fr v) w2->M2 [some (.ref da),some wd,some (.ref t),some (.int (0+(k:Int))),some y,o5] H1:=λu v ya w1 w2 e1 fu fv e2 hya r1 r2=>hM2 _ _ ?_
   .have ht1:=aD.ty ry1;walk_at"vc*";cases e with
    | tup es =>
     obtain⟨ya,ws,rfl,hya,rws⟩:=ry1.tup_at;refine iZ (by simp[D.ty,ft]) ⟨ya,rfl,ws.length,by simp only[fA,hya],be (λz=>?_) (λz=>?_)⟩
     .refine fail H1 S1 λhh=>?_;obtain⟨u,v,e1,_⟩:=at_ hh;cases e1;have:=rws.length;simp at this;nofun
     .obtain⟨d1,d2,w1,w2,rfl,rfl,r1,r2⟩:=rws.pair ();simp only[iy];refine⟨ya,rfl,_,hya,_,cZ,w1,d1,rfl,r1,_,rfl,be (λz=>?_) (λz=>⟨ya,rfl,_,hya,_,eM,w2,d2,rfl,r2,_,rfl,be (λz2=>?_) (λz2=>?_)⟩)⟩
      .refine fail H1 S1 λhh=>?_;obtain⟨u,v,e1,fu,_⟩:=at_ hh;cases e1;rw[ox fu] at z;cases z
      .refine fail H1 S1 λhh=>?_;obtain⟨u,v,e1,fu,fv,_⟩:=at_ hh;cases e1;rw[ox fv] at z2;cases z2
      .obtain⟨u,rfl,fu⟩:=oB (by simpa using z)
       obtain⟨v,rfl,fv⟩:=oB (by simpa using z2)
       exact go2 u v ya w1 w2 rfl fu fv rfl hya r1 r2
    | _=>exact m4 (by simp[D.ty,ft]) (fail H1 S1 λhh=>by
      obtain⟨u,v,e1,_⟩:=at_ hh;cases e1)
   clear hM2;subst e1 e2;obtain⟨bu,bv⟩:=pe u v rfl fu fv;have only:∀{u' v'},fH (u,v)=fH (u',v')->u'=u/\v'=v:=λ{u' v'} e=>by
    have:=jR e;cases this;exact⟨rfl,rfl⟩
   refine aR.gen λM3 hM3=>?_;symm
   simp only[lN];refine⟨_,hya,_,eM,_,hya,_,cZ,w2,w1,v,u,rfl,r2,r1,fv.ne,fu.ne,bv.mono ∅,bu.mono ∅,(bv.2.mul bu.2).mono ∅,λwi H2 S2 rwi=>hM3 _ _ ?_⟩;clear hM3;have fs:=zc fv fu;have bs:=oq fv fu bv bu;have es:=Br fv.ne fu.ne;obtain⟨wa,rfl,hwa⟩:=id rwi.fr_at;have S02:=S1.trans S2;refine aR.gen λM4 hM4=>?_;symm
   have p2:(0:Rat)<((lE v u).2:Rat):=Rat.intCast_pos.mpr fs.1;have enum:(((lE v u).1:Int):Rat)=(wv v-wv u)*(((lE v u).2:Int):Rat):=by
    rw[<-es];unfold wv;exact (YE ⋯).symm
   refine⟨_,hwa,_,cZ,_,rfl,be (λz=>?_) (λz=>?_)⟩
   .refine fail H2 S02 λhh=>?_;obtain⟨u',v',e1,_,_,lt,_⟩:=at_ hh;obtain⟨rfl,rfl⟩:=only e1;have:=Yq (show 0<wv v'-wv u' by grind) p2
    rw[<-enum] at this;have:=Rat.intCast_pos.mp this;nofun
   have lt:wv u<wv v:=Rat.not_le.mp λw=>by
    have h1:(0:Rat)<(((lE v u).1:Int):Rat):=Rat.intCast_pos.mpr ();have:=Yk (show 0<=wv u-wv v by grind) (Yl p2)
    grind
   simp only[mH];refine⟨_,_,g,lE v u,rfl,aD.same S02 _ _ rg,rwi,bg.mono ∅,bs.mono ∅,_,rfl,be (λz2=>?_) (λz2=>?_)⟩
   .refine fail H2 S02 λhh=>?_;obtain⟨u',v',e1,_,_,_,le,_⟩:=at_ hh;obtain⟨rfl,rfl⟩:=only e1;rw[fK fg fs,es] at z2;have:=Xm z2;grind
   have wle:wv v-wv u<=wv g:=by
    rw[fK fg fs,es] at z2;have:¬ wv g<wv v-wv u:=by simpa using z2
    grind
   simp only[pA];refine⟨_,S2 _ _ hya,_,cZ,_,S2 _ _ hya,_,eM,da,w1,w2,ms,some u,some v,rfl,hda.same S02,fm,lm,⟨aD.same S2 _ _ r1,fu,bu⟩,⟨aD.same S2 _ _ r2,fv,bv⟩,λe' H3 S3 ls3=>⟨xs,(S02.trans S3) _ _ hxs,xm,?_,∅,λn4 H4 hn4 S4 h4=>⟨_,aD.same S4 _ _ ls3.rep,_,.mk_lst h4 (.mk_cons (aD.same (S02.trans (S3.trans S4)) _ _ rxm) .mk_nil),ol _,ol [m],?_⟩⟩⟩
   .rw[show (0:Int)+((k:Nat):Int)=((k:Nat):Int) by nofun]
    exact bB exm
   have S04:=S02.trans (S3.trans S4);by_cases fl:flt (some u) (some v) ms=[m]
   rotate_left
   .refine m4 ?_ (fail H4 S04 λhh=>?_)
    .refine Bool.eq_false_iff.mpr λw=>fl (Bw ?_);exact w
    .obtain⟨u',v',e1,_,_,_,_,f,_⟩:=at_ hh;obtain⟨rfl,rfl⟩:=only e1;exact fl f
   rw[fl,show qQ (D.lst ([m].map fr)) (D.lst [fr m])=true from pD (ol [m])]
   refine iZ ∅ (hM4 _ _ ?_);clear hM4;have next:(∀e',us.getLast? = some e'->wv e'.2<=wv u)->Pv (k+1) [some (.ref da),some wd,some (.ref t),some (.int (0+(k:Int))),some (.ref ya),some (.ref wa)] H4:=λho=>(hPv _ _ _).mpr ⟨_,_,_,us++[(u,v)],rfl,S04,by simp[lu],by rw[Yw,he,eu,Yp];rfl,hg.snoc (λm' hm'=>by
    rw[lu,hm] at hm';cases hm';exact⟨fu,fv,lt,wle,fl⟩) ho⟩
   symm
   refine be (λk0=>?_) (λk0=>next λe' h'=>?_)
   .have k1:0<us.length:=();obtain⟨pv',hpv⟩ : ∃c,us[k-1]? = some c:=⟨_,Ya ()⟩;have hl:us.getLast? = some pv':=by rw[Yy,lu];exact hpv
    have hd1:ds[k-1]? = some (fH pv'):=by
     have:=Xb (λz:List D=>z[k-1]?) eu;simp only[Xg,Yd,hpv] at this;rw[Yh ()] at this;exact this
    obtain⟨y',ey',ry'⟩:=rts.at (i:=k-1) (d:=fH pv') hd1;obtain⟨m1,hm1⟩ : ∃m,ms[k-1]? = some m:=⟨_,Ya ()⟩;obtain⟨fp1,fp2,_⟩:=hg.1 (k-1) pv' m1 hpv hm1;obtain⟨bp1,bp2⟩:=prb _ (Yr hd1) pv'.1 pv'.2 rfl fp1 fp2;have ry7:=aD.same S04 _ _ ry';obtain⟨za,zs,ez,hza,rzs⟩:=aD.tup_at ry7;obtain⟨z1,zs1,rfl,rz1,rzs1⟩:=rzs.cons_at;obtain⟨z2',zs2,rfl,rz2,rzs2⟩:=rzs1.cons_at;cases rzs2.nil_at;have S14:=S2.trans (S3.trans S4);refine⟨_,S14 _ _ hya,_,cZ,ts,S04 _ _ hts,y',?_,za,ez,_,hza,_,eM,?_⟩
    .rw[show (0:Int)+((k:Nat):Int)-1=((k-1:Nat):Int) by nofun]
     exact bB ey'
    refine⟨_,_,u,pv'.2,rfl,aD.same S14 _ _ r1,rz2,bu.mono ∅,bp2.mono ∅,_,rfl,be (λq'=>?_) (λq'=>next λe' h'=>?_)⟩
    .refine fail H4 S04 λhh=>?_;obtain⟨u',v',e1,_,_,_,_,_,o⟩:=at_ hh;obtain⟨rfl,rfl⟩:=only e1;have:=o pv' hl;rw[fK fu fp2] at q';have q':=Xm q';grind
    .rw[hl] at h';cases h';rw[fK fu fp2] at q';have:¬ wv u<wv pv'.2:=by simpa using q'
     grind
   .have:us=[]:=List.length_eq_zero_iff.mp ();rw[this] at h';cases h'
  .obtain⟨o3,o4,o5,us,rfl,S1,lu,eu,hg⟩:=(hPv _ _ _).mp pv;rw[dk] at lu eu;refine hN2 _ _ ?_;symm
   rw[Xs ()] at eu;exact h true H1 S1 ⟨λ_=>⟨us,by rw[eu],(),hg⟩,λ_=>rfl⟩
def iA(C:Addr)(K:W.Frag):Sp:=λvs H _ E=>∃(a:Addr)(y:V),vs=[.ref a,y]/\vw K H a=some (.lst []) /\ ∀H',az (vw K H) (vw K H')->E (.ref C) none H'
theorem qF{C:Addr}(F:dA K "stretches" "stretches" gZ f fd) (T:fh K mg)(zx_NoPolynomial:uk K C)(hgx_NoPolynomial:mg "NoPolynomial" = some (.ref C)) (C_refuse_nought:cy P w K mg base "refuse_nought" ["f"] 1 (bY K)) (C_counting_chain:cy P w K mg base "counting_chain" ["f"] 5 (bM K)) (C_narrowed:cy P w K mg base "narrowed" ["wholes", "place", "width"] 3 (ik K)) (C_places:cy P w K mg base "places" ["lists"] 3 (jQ K))
  (CX_refuse_nought:Al P w K mg base "refuse_nought" ["f"] 1 (cI C K)):a9 P w K mg base (mw P w) 6 f fd ["f", "width"] (iA C K):=by
 have scN:=gE.nd;refine F.okX gE (λvs H Q E h=>?_) (λcdv A outer s H vs Q E hr h=>?_)
 .obtain⟨_,_,rfl,_⟩:=h;rfl
 .obtain⟨a,y,rfl,ha,h⟩:=h;refine⟨_,(ag (vM (ub CX_refuse_nought (hr.mono ∅) rfl (λ_=>(aa (qv 0) ae))))
   rT),?_⟩
  walk_at"m";refine aR.gen λN1 hN1=>?_;simp only[Cm,uG];symm
  simp only[cI];exact⟨a,rfl,ha,h⟩
def eH(C:Addr)(K:W.Frag):Sp:=λvs H _ E=>∃(a:Addr)(y z:V),vs=[.ref a,y,z]/\vw K H a=some (.lst []) /\ ∀H',az (vw K H) (vw K H')->E (.ref C) none H'
theorem kz{C:Addr}(F:dA K "stretches_hold" "stretches_hold" dI f fd) (T:fh K mg)(zx_NoPolynomial:uk K C)(hgx_NoPolynomial:mg "NoPolynomial" = some (.ref C)) (C_refuse_nought:cy P w K mg base "refuse_nought" ["f"] 1 (bY K)) (C_counting_chain:cy P w K mg base "counting_chain" ["f"] 5 (bM K)) (C_count_between:cy P w K mg base "count_between" ["lists", "low", "high"] 3 (cU K)) (C_is_stretch:cy P w K mg base "is_stretch" ["thing", "width"] 4 (fO K)) (C_is_less:cy P w K mg base "is_less" ["one", "other"] 1 (fI K))
  (CX_refuse_nought:Al P w K mg base "refuse_nought" ["f"] 1 (cI C K)):a9 P w K mg base (mw P w) 6 f fd ["f", "width", "thing"] (eH C K):=by
 have scN:=dy.nd;refine F.okX dy (λvs H Q E h=>?_) (λcdv A outer s H vs Q E hr h=>?_)
 .obtain⟨_,_,_,rfl,_⟩:=h;rfl
 .obtain⟨a,y,z,rfl,ha,h⟩:=h;refine⟨_,(ag (vM (ub CX_refuse_nought (hr.mono ∅) rfl (λ_=>(aa (qv 0) ae))))
   rT),?_⟩
  walk_at"m";refine aR.gen λN1 hN1=>?_;simp only[Cm,uG];symm
  simp only[cI];exact⟨a,rfl,ha,h⟩
def IC(e:D):Prop:=qy e/\JQ e
def pS(d:D):Prop:=d.noSt=true /\ ∀ds,d=.lst ds -> ∀e∈ds,JQ e
theorem pS.lst{ds:List D}(h:∀e∈ds,IC e):pS (.lst ds):=⟨(qy.lst λe he=>(h e he).1).1,λes z e he=>by cases z;exact (h e he).2⟩
theorem pS.no{d:D}(n:d.noSt=true)(h:∀ds,d ≠ .lst ds):pS d:=⟨n,λds z=>absurd z (h ds)⟩
theorem iU{c:(Int×Int)×(Int×Int)}(h1:Bq 5000 c.1)(h2:Bq 5000 c.2):IC (fH c):=⟨qy.tup λd hd=>by
 simp only[YY,YN,Xy] at hd;rcases hd with rfl|rfl<;>exact eY _,λu v e fu fv=>by
 have:=jR e;cases this;exact⟨h1,h2⟩⟩
theorem oO{e:D}(h:qy e)(n:∀a b,e ≠ .tup [a,b]):IC e:=⟨h,λu v z=>absurd z (n _ _)⟩
def lQ(ts:List D)(g:Int×Int):List D:=[.lst ts.reverse,.lst (ts++pC ts (some (-1)) none),.lst (pC ts (some 1) none),.tup ts,.non,.lst [.non],.dict,.lst [.tup [fr g,fr g]]]++[.lst (ts++[.tup []]),.int 0,.str "0"]
theorem DC{ts:List D}{g:Int×Int}(h:∀e∈ts,IC e)(bg:Bq 20 g):∀d∈lQ ts g,pS d:=λd hd=>by
 simp only[lQ,XC,Xw,YY,YN,Xy] at hd;have one:∀{e:D},IC e->pS (.lst [e]):=λk=>pS.lst λx hx=>by rw[List.mem_singleton.mp hx];exact k
 rcases hd with rfl|rfl|rfl|rfl|rfl|rfl|rfl|rfl|rfl|rfl|rfl
 .exact pS.lst λe he=>h e (List.mem_reverse.mp he)
 .exact pS.lst λe he=>by
   rcases List.mem_append.mp he with z|z
   .exact h e z
   .exact h e (kW z)
 .exact pS.lst λe he=>h e (kW he)
 .exact pS.no (qy.tup λe he=>(h e he).1.1).1 λ_ z=>by cases z
 .exact pS.no qy.non.1 λ_ z=>by cases z
 .exact one (oO qy.non λ_ _ z=>by cases z)
 .exact pS.no (by simp[D.noSt]) λ_ z=>by cases z
 .exact one (iU (c:=(g,g)) (bg.mono ∅) (bg.mono ∅))
 .exact pS.lst λe he=>by
   rcases List.mem_append.mp he with z|z
   .exact h e z
   .rw[List.mem_singleton.mp z];exact oO (qy.tup λ_ y=>by cases y) λ_ _ y=>by cases y
 .exact pS.no (by simp[D.noSt]) λ_ z=>by cases z
 .exact pS.no (by simp[D.noSt]) λ_ z=>by cases z
def E9(u v g b:Int×Int):List D:=[fH (v,v),fH (lE u g,v),fH (u,kR v b),fH (kR u b,v)]++[fH (v,u),.lst [fr u,fr v],.tup [fr u,fr v,fr v],.tup [fr u,.int 1],.non,fH (lE v g,v)]
theorem Gc{u v g b:Int×Int}(fu:Fq u)(fv:Fq v)(fg:Fq g)(fb:Fq b)(bu:Bq 1600 u)(bv:Bq 1600 v)(bg:Bq 20 g)(bb:Bq 10 b):∀e∈E9 u v g b,IC e:=λe he=>by
 simp only[E9,XC,Xw,YY,YN,Xy] at he;have b1:Bq 5000 u:=bu.mono ∅;have b2:Bq 5000 v:=bv.mono ∅;rcases he with rfl|rfl|rfl|rfl|rfl|rfl|rfl|rfl|rfl|rfl
 .exact iU b2 b2
 .exact iU ((oq fu fg bu bg).mono ∅) b2
 .exact iU b1 ((tj fv fb bv bb).mono ∅)
 .exact iU ((tj fu fb bu bb).mono ∅) b2
 .exact iU b2 b1
 .exact oO (qy.lst λx hx=>by
   simp only[YY,YN,Xy] at hx;rcases hx with rfl|rfl<;>exact qy.fr _) λ_ _ z=>by cases z
 .exact oO (qy.tup λx hx=>by
   simp only[YY,YN,Xy] at hx;rcases hx with rfl|rfl|rfl<;>exact eY _) λ_ _ z=>by cases z
 .exact⟨qy.tup λx hx=>by
   simp only[YY,YN,Xy] at hx;rcases hx with rfl|rfl
   .exact eY _
   .simp[D.noSt],λu' v' z=>by
   injection z with z
   injection z with _ z
   injection z with z _
   cases z⟩
 .exact oO qy.non λ_ _ z=>by cases z
 .exact iU ((oq fv fg bv bg).mono ∅) b2
def xH(K:W.Frag):Sp:=λvs H Q _=>∃(st t:Addr)(wd:V)(us:List ((Int×Int)×(Int×Int)))(g:Int×Int),vs=[.ref st,.ref t,wd]/\dS (vw K H) st/\gy (vw K H) t (us.map fH)/\us.length<=8/\(∀c∈us,Fq c.1/\Fq c.2/\Bq 1600 c.1/\Bq 1600 c.2)/\aD (vw K H) (fr g) wd/\Fq g/\Bq 20 g /\
 ∀v H' d,eN st (vw K H) (vw K H')->dS (vw K H') st->aD (vw K H') d v->pS d->Q v H'
theorem Ik(F:dA K "_law_bent" "_law_bent" wr f fd) (T:fh K mg)(zCtake:cy P w K mg base "_law_take" ["_law_state_here", "_law_many"] 1 (fE K)) (zCsmall:cy P w K mg base "_law_small" ["_law_state_here"] 3 (jV K)) (zCminus:cy P w K mg base "_law_minus" ["_law_one", "_law_other"] 3 (lN K)) (zCplus:cy P w K mg base "_law_plus" ["_law_one", "_law_other"] 3 (kO K)):a9 P w K mg base dC 4 f fd ["_law_state_here", "_law_told", "_law_width"] (xH K):=by
 have scN:=CO.nd;refine F.okQ CO (λvs H Q E h=>?_) (λcdv A outer s H vs Q E hr h=>?_)
 .obtain⟨_,_,_,_,_,rfl,_⟩:=h;rfl
 .obtain⟨st,t,wd,us,g,rfl,hst,ht,lu,hu,rg,fg,bg,h⟩:=h;refine⟨_,((ag (ax (i:=3) scN rfl (·) (aL (aa (Ij (qv 1) (ii (eJ cT af))) (aa (aq aV (qv 1) (gT gO (qv 1) (ii (eJ cT af)) jf)) (aa (gT gO (qv 1) (ii af) jf) (aa (jS vW (by rfl) T.b_tuple jD (aa (qv 1) ae)) (aa gR (aa (aL (aa gR ae)) (aa Ff (aa (aL (aa (aE (aa (qv 2) (aa (qv 2) ae))) ae)) ae))))))))))
   (ag (ax (i:=3) scN rfl (·) (aq aV (qv 3) (aL (aa (aq aV (qv 1) (aL (aa (aE ae) ae))) (aa af (aa fe ae))))))
   (ag (bC (aF (BA hr.ul) (qv 1) (aL ae) (aK _)) (ag (ax (i:=4) scN rfl (·) (ao zCtake nofun rfl (aa (qv 0) (aa (aw aQ (by rfl) T.b_len bK (aa (qv 1) ae)) ae))))
   (ag (eD (ay cO (qv 1) (qv 4) (λ_ _=>rfl)) (cR (n:=2) rfl (aC (av (i:=5) scN rfl (·)) (aC (av (i:=6) scN rfl (·)) cS))))
   (ag (ax (i:=7) scN rfl (·) (ao zCsmall nofun rfl (aa (qv 0) ae)))
   (ag (ax (i:=8) scN rfl (·) (aL (aa (aE (aa (qv 6) (aa (qv 6) ae))) (aa (aE (aa (ao zCminus nofun rfl (aa (qv 5) (aa (qv 2) ae))) (aa (qv 6) ae))) (aa (aE (aa (qv 5) (aa (ao zCplus nofun rfl (aa (qv 6) (aa (qv 7) ae))) ae))) (aa (aE (aa (ao zCplus nofun rfl (aa (qv 5) (aa (qv 7) ae))) (aa (qv 6) ae))) ae))))))
   (ag (ax (i:=8) scN rfl (·) (aq aV (qv 8) (aL (aa (aE (aa (qv 6) (aa (qv 5) ae))) (aa (aL (aa (qv 5) (aa (qv 6) ae))) (aa (aE (aa (qv 5) (aa (qv 6) (aa (qv 6) ae)))) (aa (aE (aa (qv 5) (aa af ae))) (aa gR (aa (aE (aa (ao zCminus nofun rfl (aa (qv 6) (aa (qv 2) ae))) (aa (qv 6) ae))) ae)))))))))
   (ag (ax (i:=8) scN rfl (·) (ay cO (qv 8) (ao zCtake nofun rfl (aa (qv 0) (aa af ae))) (λ_ _=>rfl)))
   (ah (ax (i:=3) scN rfl (·) (aq aV (qv 3) (aq aS (aL (aa (aq aV (aq aV (gT gO (qv 1) jf (ii (qv 4))) (aL (aa (qv 8) ae))) (gT gO (qv 1) (ii (aq aV (qv 4) af)) jf)) ae)) af)))))))))) aP)
   (ah (aB (ay cO (qv 3) (ao zCtake nofun rfl (aa (qv 0) (aa (aw aQ (by rfl) T.b_len bK (aa (qv 3) ae)) ae))) (λ_ _=>rfl)))))))),?_⟩
  simp only[qY,xB,L2.start,YQ,XB,XC,Xw,Xa,List.replicate_zero,Yv,Xx,Nat.reduceSub,Nat.reduceAdd,Xd];obtain⟨xs,hxs,rxs⟩:=id ht;have lm:(us.map fH).length=us.length:=Yb ..;have lx:xs.length=us.length:=by rw[rxs.length,lm]
  have rt:aD (vw K H) (.lst (us.map fH)) (.ref t):=.mk_lst hxs rxs;have iu:∀e∈us.map fH,IC e:=λe he=>by
   obtain⟨c,hc,rfl⟩:=List.mem_map.mp he;obtain⟨_,_,b1,b2⟩:=hu c hc;exact iU (b1.mono ∅) (b2.mono ∅)
  have nt:(D.lst (us.map fH)).noSt=true:=(pS.lst iu).1;have tt:∀{σ:St}{i:Nat}{H0:Hp},az (vw K H) (vw K H0)->σ[i]? = some (some (.ref t))->TD K σ H0 (L2.tVar i) (.lst (us.map fH)):=λS e=>fZ e (aD.same S _ _ rt);have tw:∀{σ:St}{i:Nat}{H0:Hp},az (vw K H) (vw K H0)->σ[i]? = some (some wd)->TD K σ H0 (L2.tVar i) (fr g):=λS e=>fZ e (aD.same S _ _ rg);have cl:=DM (us.map fH);refine aR.gen λN1 hN1=>?_;refine C5 (iB (aO (HC (tt .rfl rfl)) (aO (ow (tt .rfl rfl) (sY (tt .rfl rfl) (lo:=some (-1)) (hi:=none) (λH Q q=>⟨1,rfl,-1,rfl,q⟩) (λH Q q=>q)) (by have:=cl (some (-1)) none;nofun)) (aO (sY (tt .rfl rfl) (lo:=some 1) (hi:=none) (λH Q q=>⟨1,rfl,q⟩) (λH Q q=>q)) (aO (GN (tt .rfl rfl)) (aO xK (aO (iB (aO xK dz) (by simp)) (aO Fc (aO (iB (aO (ur (aO (tw .rfl rfl) (aO (tw .rfl rfl) dz)) (by simp)) dz) (by simp)) dz)))))))) (by simp)) λv1 H1 S1 r1=>hN1 _ _ ?_
  refine aR.gen λN2 hN2=>?_;refine pY (fZ rfl r1) (iB (aO (ow (tt S1 rfl) (iB (aO (ur dz (by simp)) dz) (by simp)) (by simp;nofun)) (aO Dn (aO IR dz))) (by simp)) (by simp) λl2 H2 S2 nl2 r2=>hN2 _ _ ?_
  clear hN1 hN2;have S02:=S1.trans S2;have r2:aD (vw K H2) (.lst (lQ (us.map fH) g)) (.ref l2):=r2;have st2:=hst.same S02;have noL:∀{ds es:List D}{d:D},ds=.lst es::d::ds.drop 2->(∀e∈ds,pS e)->(D.lst ds).noSt=true:=λe k=>yn (mf λx hx=>(k x hx).1) λi b z=>by rw[z] at e;cases e
  refine aR.gen λN3 hN3=>?_;have fin:∀(S:List D)(l:Addr)(o4 o5 o6 o7 o8:Option V) H',eN st (vw K H) (vw K H')->dS (vw K H') st->aD (vw K H') (.lst S) (.ref l)->(∀d∈S,pS d)->(D.lst S).noSt=true->0<S.length->S.length<=1000->N3 [some (.ref st),some (.ref t),some wd,some (.ref l),o4,o5,o6,o7,o8] H':=λS l o4 o5 o6 o7 o8 H' B' st' r' ok nS l0 l9=>hN3 _ _ ?_
  .clear hN3;refine K3.gen λB hB=>?_;walk_at"m";symm
   refine⟨Y7 _,λp3 H3 hp3 S3 h3=>⟨p3,rfl,xs,(S02.trans S3) _ _ hxs,h3,?_⟩⟩;have S03:=S02.trans S3;have r3:=aD.same S3 _ _ r2;have b0:=DC iu bg;refine be (λhe=>hB _ _ ?_) (λhe=>fin _ _ _ _ _ _ _ H3 (S03.but st) (hst.same S03) r3 b0 (noL rfl b0) (by simp[lQ]) (by simp[lQ]))
   clear hB;have u0:0<us.length:=by
    rcases Nat.eq_zero_or_pos us.length with z|z
    .rw[List.length_eq_zero_iff.mp (show xs.length=0 by nofun)] at he
     cases he
    .exact z
   refine aR.gen λM1 hM1=>?_;walk_at"m";symm
   simp only[fE];refine⟨xs.length,by simp only[fA,S03 _ _ hxs],st,_,rfl,hst.same S03,(),(),λr H4 r0 r1 B4 st4=>hM1 _ _ ?_⟩
   obtain⟨j,rfl⟩ : ∃j:Nat,r=(j:Int):=⟨r.toNat,()⟩;have B04:eN st (vw K H) (vw K H4):=(S03.but st).trans B4;obtain⟨_,ys,e,hys,rys⟩:=(rt.but B04 hst _ _ nt).lst_at;cases e;obtain⟨cc,hc⟩ : ∃cc,us[j]? = some cc:=⟨_,Ya ()⟩;obtain⟨fu,fv,bu,bv⟩:=hu cc (Yr hc);obtain⟨y,ey,ry⟩:=rys.at (i:=j) (d:=fH cc) (by rw[Yd,hc];rfl)
   obtain⟨ya,ws,rfl,hya,rws⟩:=aD.tup_at ry;obtain⟨w1,ws1,rfl,rw1,rws1⟩:=rws.cons_at;obtain⟨w2,ws2,rfl,rw2,rws2⟩:=rws1.cons_at;cases rws2.nil_at;refine aR.gen λM2 hM2=>?_;walk_at"m";symm
   refine⟨ys,hys,_,bB ey,ya,rfl,_,hya,rfl,_,_,rfl,_,_,rfl,rfl,hM2 _ _ ?_⟩;clear hM1 hM2;refine aR.gen λM3 hM3=>?_;walk_at"m";symm
   simp only[jV];refine⟨st,rfl,st4,λb5 H5 qb B5 st5 rb fb b1 b2 sxb=>hM3 _ _ ?_⟩;clear hM3;have B05:=B04.trans B5;have ru5:=rw1.but B5 st4 _ _ (eY _);have rv5:=rw2.but B5 st4 _ _ (eY _);have rg5:=rg.but B05 hst _ _ (eY _);have rt5:=rt.but B05 hst _ _ nt;have rs5:=(r3.but B4 (hst.same S03) _ _ (noL rfl b0)).but B5 st4 _ _ (noL rfl b0);have tu:∀{σ:St}{i:Nat}{H0:Hp},az (vw K H5) (vw K H0)->σ[i]? = some (some w1)->TD K σ H0 (L2.tVar i) (fr cc.1):=λS e=>fZ e (aD.same S _ _ ru5);have tv:∀{σ:St}{i:Nat}{H0:Hp},az (vw K H5) (vw K H0)->σ[i]? = some (some w2)->TD K σ H0 (L2.tVar i) (fr cc.2):=λS e=>fZ e (aD.same S _ _ rv5);have tg:∀{σ:St}{i:Nat}{H0:Hp},az (vw K H5) (vw K H0)->σ[i]? = some (some wd)->TD K σ H0 (L2.tVar i) (fr g):=λS e=>fZ e (aD.same S _ _ rg5);have tb:∀{σ:St}{i:Nat}{H0:Hp},az (vw K H5) (vw K H0)->σ[i]? = some (some b5)->TD K σ H0 (L2.tVar i) (fr qb):=λS e=>fZ e (aD.same S _ _ rb);have bb:Bq 10 qb:=⟨b1,b2⟩;have two:∀{σ:St}{H0:Hp}{t u:TE}{d e:D},TD K σ H0 t d->TD K σ H0 u e->TD K σ H0 (rD K (jH t (jH u uL))) (.tup [d,e]):=λh1 h2=>ur (aO h1 (aO h2 dz)) (by simp)
   have big:∀{p:Int×Int},Bq 1600 p->Bq 1000000 p /\ ∀{q},Bq 20 q->Bq 1000000 q/\Bt 4000000 (p.2*q.2):=λhp=>⟨hp.mono ∅,λhq=>⟨hq.mono ∅,(hp.2.mul hq.2).mono ∅⟩⟩;have mi:∀{σ:St}{H0:Hp}{t u:TE}{p q:Int×Int},TD K σ H0 t (fr p)->TD K σ H0 u (fr q)->Fq p->Fq q->Bq 1600 p->Bq 20 q->TD K σ H0 (CY (lN K) (jH t (jH u uL))) (fr (lE p q)):=λ{σ H0 t u p q} h1 h2 fp fq bp bq=>λH Q S k=>h1 H _ S λv1 H1 S1 r1=>h2 H1 _ (S.trans S1) λv2 H2 S2 r2=>by
    obtain⟨z1,z2⟩:=big bp;obtain⟨z3,z4⟩:=z2 bq;exact⟨v1,v2,p,q,rfl,aD.same S2 _ _ r1,r2,fp.ne,fq.ne,z1,z3,z4,λv H3 S3 r3=>k v H3 (S1.trans (S2.trans S3)) r3⟩
   have pl':∀{σ:St}{H0:Hp}{t u:TE}{p q:Int×Int},TD K σ H0 t (fr p)->TD K σ H0 u (fr q)->Fq p->Fq q->Bq 1600 p->Bq 20 q->TD K σ H0 (CY (kO K) (jH t (jH u uL))) (fr (kR p q)):=λ{σ H0 t u p q} h1 h2 fp fq bp bq=>λH Q S k=>h1 H _ S λv1 H1 S1 r1=>h2 H1 _ (S.trans S1) λv2 H2 S2 r2=>by
    obtain⟨z1,z2⟩:=big bp;obtain⟨z3,z4⟩:=z2 bq;exact⟨v1,v2,p,q,rfl,aD.same S2 _ _ r1,r2,fp.ne,fq.ne,z1,z3,z4,λv H3 S3 r3=>k v H3 (S1.trans (S2.trans S3)) r3⟩
   have bb20:Bq 20 qb:=bb.mono ∅;refine aR.gen λM4 hM4=>?_;refine C5 (iB (aO (two (tv .rfl rfl) (tv .rfl rfl)) (aO (two (mi (tu .rfl rfl) (tg .rfl rfl) fu fg bu bg) (tv .rfl rfl)) (aO (two (tu .rfl rfl) (pl' (tv .rfl rfl) (tb .rfl rfl) fv fb bv bb20)) (aO (two (pl' (tu .rfl rfl) (tb .rfl rfl) fu fb bu bb20) (tv .rfl rfl)) dz)))) (by simp)) λv6 H6 S6 r6=>hM4 _ _ ?_
   clear hM4;refine aR.gen λM5 hM5=>?_;refine pY (fZ rfl r6) (iB (aO (two (tv S6 rfl) (tu S6 rfl)) (aO (iB (aO (tu S6 rfl) (aO (tv S6 rfl) dz)) (by simp)) (aO (ur (aO (tu S6 rfl) (aO (tv S6 rfl) (aO (tv S6 rfl) dz))) (by simp)) (aO (two (tu S6 rfl) Dn) (aO xK (aO (two (mi (tv S6 rfl) (tg S6 rfl) fv fg bv bg) (tv S6 rfl)) dz)))))) (by simp)) (by simp) λl7 H7 S7 nl7 r7=>hM5 _ _ ?_
   clear hM5;have S57:=S6.trans S7;have st7:=st5.same S57;have r7:aD (vw K H7) (.lst (E9 cc.1 cc.2 g qb)) (.ref l7):=r7;have oo:=Gc fu fv fg fb bu bv bg bb;have no7:(D.lst (E9 cc.1 cc.2 g qb)).noSt=true:=(pS.lst oo).1;refine aR.gen λM6 hM6=>?_;walk_at"m";symm
   simp only[fE];refine⟨st,10,rfl,st7,∅,∅,λr H8 r0 r1 B8 st8=>?_⟩;obtain⟨k,rfl⟩ : ∃k:Nat,r=(k:Int):=⟨r.toNat,()⟩;obtain⟨_,zs,e,hzs,rzs⟩:=(r7.but B8 st7 _ _ no7).lst_at;cases e;have lz:zs.length=10:=rzs.length;obtain⟨od,hod,rod⟩:=rzs.get (Ya (show k<zs.length by nofun))
   refine⟨_,rfl,_,hzs,_,bB (Ya ()),hM6 _ _ ?_⟩;clear hM6;have io:=oo od (Yr hod);have rt8:=(aD.same S57 _ _ rt5).but B8 st7 _ _ nt;have rs8:=(aD.same S57 _ _ rs5).but B8 st7 _ _ (noL rfl b0);have B08:eN st (vw K H) (vw K H8):=B05.trans ((S57.but st).trans B8);have len:∀lo hi,(pC (us.map fH) lo hi).length<=8:=λlo hi=>by have:=cl lo hi;nofun
   have c1:=len none (some (j:Int));have c2:=len (some ((j:Int)+1)) none;refine pY (fZ rfl rs8) (Fu (n:=9) (iB (aO (ow (ow (sY (fZ rfl rt8) (lo:=none) (hi:=some (j:Int)) (λH Q q=>q) (λH Q q=>⟨_,rfl,_,rfl,q⟩)) (iB (aO (fZ rfl rod) dz) (by simp)) (by simp only[Yv,Xx];nofun)) (sY (fZ rfl rt8) (lo:=some ((j:Int)+1)) (hi:=none) (λH Q q=>by
    refine⟨_,rfl,?_⟩;show jr K (.int (j:Int)) (.int 1) H _;rw[iL];exact⟨_,rfl,q⟩) (λH Q q=>q)) (by simp only[Yv,Xx,Yt];nofun)) dz) (by simp)) (by simp)) (by simp[lQ]) λl9 H9 S9 nl9 r9=>?_
   have ok9:∀d∈lQ (us.map fH) g++List.replicate 9 (.lst (pC (us.map fH) none (some (j:Int))++[od]++pC (us.map fH) (some ((j:Int)+1)) none)),pS d:=λd hd=>by
    rcases List.mem_append.mp hd with z|z
    .exact b0 d z
    .rw[List.eq_of_mem_replicate z];refine pS.lst λe he=>?_;rcases List.mem_append.mp he with z|z
     .rcases List.mem_append.mp z with z|z
      .exact iu e (kW z)
      .rw[List.mem_singleton.mp z];exact io
     .exact iu e (kW z)
   exact fin _ l9 _ _ _ _ _ H9 (B08.trans (S9.but st)) (st8.same S9) r9 ok9 (noL rfl ok9) (by simp[lQ]) (by simp[lQ])
  clear hN3;obtain⟨_,ys,e,hys,rys⟩:=r'.lst_at;cases e;have ly:=rys.length;walk_at"m";symm
  simp only[fE];refine⟨ys.length,by simp only[fA,hys],st,_,rfl,st',(),(),λr H9 r0 r1 B9 st9=>?_⟩
  obtain⟨j,rfl⟩ : ∃j:Nat,r=(j:Int):=⟨r.toNat,()⟩;obtain⟨_,zs,e,hzs,rzs⟩:=(r'.but B9 st' _ _ nS).lst_at;cases e;have lz:=rzs.length;obtain⟨d,hd,rd⟩:=rzs.get (Ya (show j<zs.length by nofun))
  exact⟨_,rfl,_,hzs,_,bB (Ya ()),h _ H9 d (B'.trans B9) st9 rd (ok d (Yr hd))⟩
theorem uc{G G':Hp}{Pt st:Addr}{qual:Str}(h:cY G Pt qual)(hst:dS G st)(B:eN st G G'):cY G' Pt qual:=by
 obtain⟨x,b,e,z⟩:=hst;exact h.butL e B
theorem m5:∀us:List ((Int×Int)×(Int×Int)),D.flats (us.map fH)=true
 | []=>by simp[D.flats]
 | c::us=>by
  have:=m5 us;simp[D.flats,fH,D.flat,fr,this]
theorem BI{us:List ((Int×Int)×(Int×Int))}(h:∀c∈us,Bq 5000 c.1/\Bq 5000 c.2):∀ds,D.lst (us.map fH)=.lst ds -> ∀e∈ds,JQ e:=λds z e he=>by
 cases z;obtain⟨c,hc,rfl⟩:=List.mem_map.mp he;exact (iU (h c hc).1 (h c hc).2).2
theorem v7.hold{l:List (aU×Nat)}{g:Int×Int}{us:List ((Int×Int)×(Int×Int))}(h:v7 l g us):vC l g (.lst (us.map fH)):=⟨us,rfl,h.len,λi c hc=>by
 obtain⟨a,b,_,_,e,p,q,w⟩:=h.each i c hc;exact⟨a,b,e,w,()⟩,λi c e hc he=>h.ord i (i+1) c e hc he ()⟩
theorem v7.all{l:List (aU×Nat)}{g:Int×Int}{us:List ((Int×Int)×(Int×Int))}(h:v7 l g us):∀c∈us,Fq c.1/\Fq c.2/\Bq 1600 c.1/\Bq 1600 c.2:=λc hc=>by
 obtain⟨i,hi⟩:=Xq hc;obtain⟨a,b,c',d,_⟩:=h.each i c hi;exact⟨a,b,c',d⟩
def spLaw(K:W.Frag):Sp:=λvs H Q _=>∃(a:Addr)(ns:List Int),vs=[.ref a]/\ko K H a (ns.map V.int)/\ns.length<=63/\cY (vw K H) 484 (DP "law") /\ ∀H',Q (.bl true) H'
theorem JE{c CF:Addr}(F:dA K "law" "law" gL f fd) (T:fh K mg)(M_:Lv K mg base fd c 484)(R_:zg P w K mg base 8)(Z_:zE K mg CF 1)
  (zCstate:cy P w K mg base "_law_state" ["_law_script", "_law_k"] 2 (uu K)) (zCfactors:cy P w K mg base "_law_factors" ["_law_state_here", "_law_most"] 4 (ni K)) (zCof_factors:cy P w K mg base "_law_of_factors" ["_law_factors_here"] 5 (jg K)) (zCmarks:cy P w K mg base "_law_marks" ["_law_factors_here"] 5 (tO K)) (zCabove:cy P w K mg base "_law_above" ["_law_state_here"] 3 (sX K)) (zCtake:cy P w K mg base "_law_take" ["_law_state_here", "_law_many"] 1 (fE K)) (C_stretches:cy P w K mg base "stretches" ["f", "width"] 6 (gx K)) (zCdue:cy P w K mg base "_law_due" ["_law_marks_here", "_law_width", "_law_thing"] 6 (vA K)) (C_stretches_hold:cy P w K mg base "stretches_hold" ["f", "width", "thing"] 6 (du K)) (zCbent:cy P w K mg base "_law_bent" ["_law_state_here", "_law_told", "_law_width"] 4 (xH K)) (CX_stretches:Al P w K mg base "stretches" ["f", "width"] 6 (iA CF K)) (CX_stretches_hold:Al P w K mg base "stretches_hold" ["f", "width", "thing"] 6 (eH CF K)):a9 P w K mg base dC 10 f fd ["_law_script"] (spLaw K):=by
 have scN:=Bp.nd;refine F.okM Bp (λvs H Q E h=>?_) (λcdv A outer s H vs Q E hcode hr h=>?_)
 .obtain⟨a,_,rfl,_⟩:=h;rfl
 .obtain⟨a,ns,rfl,hS,hl,hT1,h⟩:=h;refine⟨_,(Ey (cL PassesOwn.never rfl (dq rfl T.b_range (aa (aw (mO rfl) (by rfl) T.b_max xf (aa af (aa (aw (rJ rfl) (by rfl) T.b_min DH (aa (aw jc (by rfl) T.b_len bK (aa (qv 0) ae)) (aa af ae))) ae))) ae)) (av (i:=1) scN rfl (·)) (ag (ax (i:=2) scN rfl (·) (ao zCstate nofun rfl (aa (qv 0) (aa (qv 1) ae))))
   (ag (ax (i:=3) scN rfl (·) (ao zCfactors nofun rfl (aa (qv 2) (aa af ae))))
   (ag (ax (i:=4) scN rfl (·) (ao zCof_factors nofun rfl (aa (qv 3) ae)))
   (ag (ax (i:=5) scN rfl (·) (ao zCmarks nofun rfl (aa (qv 3) ae)))
   (ag (ax (i:=6) scN rfl (·) (ay cO (aL (aa (aE (aa af (aa af ae))) (aa (aE (aa af (aa af ae))) (aa (aE (aa af (aa af ae))) (aa (aE (aa af (aa af ae))) (aa (ao zCabove nofun rfl (aa (qv 2) ae)) ae)))))) (ao zCtake nofun rfl (aa (qv 2) (aa af ae))) (λ_ _=>rfl)))
   (ag (ax (i:=7) scN rfl (·) (ao C_stretches nofun rfl (aa (qv 4) (aa (qv 6) ae))))
   (ag (bC (QW.pt (fo (cE (cw (ao zCdue nofun rfl (aa (qv 5) (aa (qv 6) (aa (qv 7) ae)))))) (gn (aF zR (ao C_stretches_hold nofun rfl (aa (qv 4) (aa (qv 6) (aa (qv 7) ae)))) dD (aK _))))) (ah (aB dD)) aP)
   (ag (cL PassesOwn.never rfl (dq rfl T.b_range (aa af ae)) (av (i:=8) scN rfl (·)) (ag (ax (i:=9) scN rfl (·) (ao zCbent nofun rfl (aa (qv 2) (aa (jS kQ (by rfl) T.b_list md (aa (qv 7) ae)) (aa (qv 6) ae)))))
   (ag (ax (i:=10) scN rfl (·) (ao C_stretches_hold nofun rfl (aa (qv 4) (aa (qv 6) (aa (qv 9) ae)))))
   (ah (bC (QW.pt (fo (cE (cw (aw ce (by rfl) T.b_isinstance aI (aa (qv 10) (aa (dZ (v:=V.ty "bool") rfl T.b_bool tK rfl) ae))))) (gn (aF ie (qv 10) (ao zCdue nofun rfl (aa (qv 5) (aa (qv 6) (aa (qv 9) ae)))) (aK _))))) (ah (aB dD)) aP)))))
   (ag (ei (kg YJ YW YV c8 (qv 7) (aa af ae)))
   (ag (bC (cE (cw (ao zCdue nofun rfl (aa (qv 5) (aa (qv 6) (aa (ao C_stretches nofun rfl (aa (qv 4) (aa (qv 6) ae))) ae)))))) (ah (aB dD)) aP)
   (ah (bC (aF (BS hr.u64) (ye (Nl:=["_law_width"]) (ixs:=[6]) (kl:=7) R_ (uQ hcode M_) nofun rfl Z_ ∅ (λ_=>rfl) rfl (xO (sc:=ak gL) rfl (by decide +kernel)) rfl (rh (by decide +kernel)) ⟨rfl,rfl⟩ (λ_ _ _ _=>rfl) rfl (λj x hx=>by rcases j with _|j<;>first|(cases hx;exact⟨rfl,_,rfl,rfl⟩)|cases hx) (λ_ _ _ _ _ _ _ hrl=>ub CX_stretches_hold (hrl.mono ∅) rfl (λ_=>(aa (show QE _ _ (qj K _) from aL ae) (aa (qv 0) (aa (show QE _ _ (qj K _) from aL ae) ae)))))) (aL (aa af ae)) (aK _)) (ah (aB dD)) aP)))))))))))))
   (ah (aB (gY (xj hr.u64) (ye (Nl:=[]) (ixs:=[]) (kl:=7) R_ (uQ hcode M_) nofun rfl Z_ ∅ (λ_=>rfl) rfl (xO (sc:=ak gL) rfl (by decide +kernel)) rfl (rh (by decide +kernel)) ⟨rfl,rfl⟩ (λ_ _ _ _=>rfl) rfl (λj x hx=>by rcases j with j<;>first|(cases hx;exact⟨rfl,_,rfl,rfl⟩)|cases hx) (λ_ _ _ _ _ _ _ hrl=>ub CX_stretches (hrl.mono ∅) rfl (λ_=>(aa (show QE _ _ (qj K _) from aL ae) (aa (show QE _ _ (rD K _) from aE (aa af (aa af ae))) ae))))) (aL (aa af ae)) (aK _))))),?_⟩
  walk_at"m";obtain⟨X1,hX1⟩ : ∃X1,fT dC P w K mg base ["_law_script", "_law_k", "_law_state_here", "_law_factors_here", "_law_f", "_law_marks_here", "_law_width", "_law_found", "_law_turn", "_law_thing", "_law_told"] "law" (ak gL) f cdv A outer s H E=X1:=⟨_,rfl⟩;have hq:kA X1.nox=DP "law":=by rw[<-hX1];rfl
  skip
  refine AR.mk (λσ H2=>∃o1 o2 o3 o4 o5 o6 o7 o8 o9 o10,σ=[some (.ref a),o1,o2,o3,o4,o5,o6,o7,o8,o9,o10]/\cY (vw K H2) 484 (DP "law")) ?_ ?_
  .symm
   refine⟨_,.inl hS.sq,?_⟩;simp only[Yb];obtain⟨Pv,hPv⟩ : ∃Pv:Nat->St->Hp->Prop,∀k σ H',Pv k σ H' ↔ ∃o1 o2 o3 o4 o5 o6 o7 o8 o9 o10,σ=[some (.ref a),o1,o2,o3,o4,o5,o6,o7,o8,o9,o10]/\rK (vw K H) (vw K H')/\cY (vw K H') 484 (DP "law"):=⟨_,λ_ _ _=>Xn⟩;refine⟨by repeat' split<;>nofun,by repeat' split<;>nofun,aZ (its:=gJ 0 _) Pv (λ_ _ _ _ _=>bT) ((hPv _ _ _).mpr ⟨_,_,_,_,_,_,_,_,_,_,rfl,.rfl,hT1⟩) (λi x σ H1 hi hx pv=>?_) (λσ H1 pv=>?_)⟩
   .obtain⟨o1,o2,o3,o4,o5,o6,o7,o8,o9,o10,rfl,s1,T1⟩:=(hPv _ _ _).mp pv;obtain⟨hi',rfl⟩:=gB hx;refine aR.gen λN1 hN1=>?_;symm
    simp only[uu];symm
    refine⟨⟨i,by simp⟩,⟨ns,hS.smT s1⟩,λst H2 hst0 s2 st2=>hN1 _ _ ?_⟩
    refine aR.gen λN2 hN2=>?_;symm
    simp only[ni];refine⟨st,rfl,st2,λp3 t3 v3 H3 its3 q3 B3 st3 h3 l3 nt3 r3 f3 q30 bq3 ok3 dg3 cs3 bt3 ln3 fs3=>hN2 _ _ ?_⟩;clear hN1 hN2;have T3:cY (vw K H3) 484 (DP "law"):=uc (T1.same s2) st2 B3;have s13:rK (vw K H1) (vw K H3):=rK.of λb o e=>B3 _ _ (aj e hst0) (s2 _ _ e);refine aR.gen λN4 hN4=>?_;symm
    simp only[jg];refine⟨p3,t3,v3,its3,q3,rfl,h3,l3,r3,f3,q30,bq3,ok3,(),(),(),λd8 H8 fs S8 nd8 l8 f80 lf8 pf8 bf8 dl8 ev8=>hN4 _ _ ?_⟩;refine aR.gen λN5 hN5=>?_;symm
    simp only[tO];have ok3':∀c∈its3,Av c/\c.2.2.2<=100:=λc hc=>⟨ok3 c hc,(ok3 c hc).2.2.2.2.2⟩;refine⟨p3,t3,v3,its3,rfl,S8 _ _ h3,l3.same S8,ok3',(),λd9 H9 ms S9 nd9 l9 fm9 up9 mk9 lm9=>hN5 _ _ ?_⟩;clear hN4 hN5;obtain⟨l,okl,unl,el,dgl,ml,ll,al,lbl,ale⟩:=se (its3.map λc=>(tq c,c.2.2.2)) λx hx=>by
     obtain⟨c,hc,rfl⟩:=List.mem_map.mp hx;obtain⟨k1,kf,kb,k4,k5,_⟩:=ok3 c hc;refine⟨?_,k5,c.2.1,?_,kf,kb⟩
     .show (fc c).ok;unfold fc;split
      .trivial
      .split
       .exact Dy (k4 (by assumption))
       .exact (Dy (k4 (by assumption))).1
     .show (fc c).num=wv c.2.1;unfold fc;split
      .rfl
      .split<;>rfl
    have em:(its3.map λc=>(tq c,c.2.2.2)).map (·.1)=its3.map tq:=by rw[List.map_map];rfl
    have es:(its3.map λc=>(tq c,c.2.2.2)).map (λx:(aU×Nat)×Nat=>x.2+2)=its3.map J7:=by rw[List.map_map];rfl
    rw[em] at el dgl ml;rw[es] at ale;rw[Yb] at ll;have mk':∀y,y∈ms.map wv↔y∈m7 l:=λy=>by
     rw[mk9 y];unfold m7;rw[List.mem_flatMap,List.mem_flatMap];refine⟨λ⟨q,hq,hy⟩=>?_,λ⟨q,hq,hy⟩=>?_⟩
     .obtain⟨m,hm⟩:=(ml q.1).mpr ⟨q.2,hq⟩;exact⟨_,hm,hy⟩
     .obtain⟨m,hm⟩:=(ml q.1).mp ⟨q.2,hq⟩;exact⟨_,hm,hy⟩
    have d3:=qo its3;have FH:Fp fs l:=⟨okl,unl,(),(),⟨wv q3,λx=>by rw[ev8,el]⟩,(),⟨al,lbl,()⟩,λm hm=>by
     obtain⟨q,hq,rfl⟩:=List.mem_map.mp ((mk' m).mpr hm);exact⟨q,rfl,fm9 q hq⟩⟩
    have S39:=S8.trans S9;have lf9:fs.length<=9:=by have:=FH.ln;have:=FH.dl;nofun
    have bf9:Pb 185 (cf fs):=bf8.mono ();have l89:=l8.same S9;have T9:=T3.same S39;have st9:=st3.same S39;have s19:rK (vw K H1) (vw K H9):=s13.trans (rK.of S39);refine aR.gen λN6 hN6=>?_;symm
    simp only[sX,fE];refine⟨∅,λe1 G1 he1 U1 g1=>⟨∅,λe2 G2 he2 U2 g2=>⟨∅,λe3 G3 he3 U3 g3=>⟨∅,λe4 G4 he4 U4 g4=>?_⟩⟩⟩⟩;have U34:=U3.trans U4;have U24:=U2.trans U34;have U04:=U1.trans U24;have stG4:=st9.same U04;refine⟨st,rfl,stG4,λab G5 qa B5 stG5 ra fa a0 ba _=>⟨∅,λlw G6 hlw U6 g6=>⟨st,5,rfl,stG5.same U6,∅,∅,λr G7 r0 r1 B7 stG7=>?_⟩⟩⟩;obtain⟨k,rfl⟩ : ∃k:Nat,r=(k:Int):=⟨r.toNat,()⟩;have fb:∀{i j:Int}{b:Addr},vw K G4 b=some (.tup [.int i,.int j])->aD (vw K G6) (fr (i,j)) (.ref b):=λe=>aD.same U6 _ _ ((bU e).but B5 stG4 _ _ (eY _));obtain⟨qs,hqs⟩ : ∃qs:List (Int×Int),qs=[(3,1),(1,2),(1,30),(1,1000),qa]:=⟨_,rfl⟩;have fqs:∀q∈qs,Fq q/\0<q.1/\Bq 20 q:=λq hq=>by
     rw[hqs] at hq;simp only[YY,YN,Xy] at hq;rcases hq with rfl|rfl|rfl|rfl|rfl
     .exact⟨⟨∅,∅⟩,∅,⟨∅,∅⟩⟩
     .exact⟨⟨∅,∅⟩,∅,⟨∅,∅⟩⟩
     .exact⟨⟨∅,∅⟩,∅,⟨∅,∅⟩⟩
     .exact⟨⟨∅,∅⟩,∅,⟨∅,∅⟩⟩
     .exact⟨fa,a0,ba.mono ∅⟩
    have lqs:qs.length=5:=by rw[hqs];rfl
    have lw6:cF (vw K G6) lw qs:=by
     rw[hqs];exact⟨_,g6,.mk_cons (fb (U24 _ _ g1)) (.mk_cons (fb (U34 _ _ g2)) (.mk_cons (fb (U4 _ _ g3)) (.mk_cons (fb g4) (.mk_cons (aD.same U6 _ _ ra) .mk_nil))))⟩
    obtain⟨ws,hws,rws⟩:=lw6.stBut (stG5.same U6) B7;obtain⟨g,hg⟩ : ∃g,qs[k]? = some g:=⟨_,Ya ()⟩;obtain⟨fg,g0,bg⟩:=fqs g (Yr hg);obtain⟨wd,ewd,rg⟩:=rws.at (i:=k) (d:=fr g) (by rw[Yd,hg];rfl)
    refine⟨_,rfl,_,rfl,_,hws,_,bB ewd,hN6 _ _ ?_⟩;clear hN6;have B97:eN st (vw K H9) (vw K G7):=(U04.but st).trans (B5.trans ((U6.but st).trans B7));have l87:=l89.stBut st9 B97;have l97:=l9.stBut st9 B97;have T7:=uc T9 st9 B97;have S19:az (vw K H1) (vw K H9):=λb o e=>S39 _ _ (B3 _ _ (aj e hst0) (s2 _ _ e));have S17:az (vw K H1) (vw K G7):=λb o e=>B97 _ _ (aj e hst0) (S19 _ _ e);have mono:∀a b,a<=b->bQ l a<=bQ l b:=λa b ab=>by
     have i:=mD (lo:=some a) (hi:=some b) okl unl (mM okl unl) (λv=>Xn) (λx y e1 e2=>by cases e1;cases e2;exact ab)
     have i:_+bQ l a=bQ l b:=i;nofun
    have dh:=λd=>Bs (g:=g) (d:=d) okl unl up9 mk' (λq hq=>(fm9 q hq).1) mono;refine aR.gen λN7 hN7=>?_;symm
    simp only[gx];refine⟨d8,wd,fs,l,g,rfl,l87,f80,lf9,pf8,bf9,FH,rg,g0,fg.1,bg,λd10 G8 us U8 nd10 l10 so=>hN7 _ _ ?_⟩;clear hN7;have al:=so.all;have prb:=BI λc hc=>⟨(al c hc).2.2.1.mono ∅,(al c hc).2.2.2.mono ∅⟩;have l88:=l87.same U8;have l98:=l97.same U8;have rg8:=aD.same U8 _ _ rg;have stG8:=stG7.same U8;have T8:=T7.same U8;refine aR.gen λN8 hN8=>?_;symm
    simp only[vA,du];refine⟨d9,wd,_,ms,g,.lst (us.map fH),rfl,l98,fm9,lm9,rg8,fg,bg,l10.rep,prb,λb G9 U9 hb=>?_⟩;have hb:b=true:=hb.mpr ((dh _).mpr so.hold);subst hb;have S09:=U9;refine⟨true,rfl,iZ ∅ ⟨d8,wd,_,fs,l,g,.lst (us.map fH),rfl,l88.same U9,f80,lf9,pf8,bf9,FH,aD.same U9 _ _ rg8,fg,bg,aD.same U9 _ _ l10.rep,prb,λb G10 U10 hb=>?_⟩⟩;have hb:b=true:=hb.mpr so.hold;subst hb;refine⟨true,rfl,iZ ∅ (hN8 _ _ ?_)⟩;clear hN8;have U810:=U9.trans U10;have l8x:=l88.same U810;have l9x:=l98.same U810;have rgx:=aD.same U810 _ _ rg8;have stx:=stG8.same U810;have Tx:=T8.same U810;have l10x:=l10.same U810;have noU:∀i b,us.map fH≠[.int i,.bl b]:=λi b z=>by
     cases us with
     | nil=>cases z
     | cons c us=>cases (List.cons.inj z).1
    have nu:us.length<=8:=by
     have:=so.len;have:=qR okl unl up9 mk';rw[Yb] at this;nofun
    refine aR.gen λN9 hN9=>?_;symm
    obtain⟨Pw,hPw⟩ : ∃Pw:Nat->St->Hp->Prop,∀j σ H',Pw j σ H' ↔ ∃o8 o9 o10,σ=[some (.ref a),some (.int (0+i)),some (.ref st),some (.ref p3),some (.ref d8),some (.ref d9),some wd,some (.ref d10),o8,o9,o10]/\eN st (vw K G10) (vw K H')/\dS (vw K H') st:=⟨_,λ_ _ _=>Xn⟩;refine⟨∅,∅,aZ (its:=gJ 0 _) Pw (λ_ _ _ _ _=>bT) ((hPw _ _ _).mpr ⟨_,_,_,rfl,λ_ _ _ z=>z,stx⟩) (λj x σ H11 hj hx pw=>?_) (λσ H11 pw=>?_)⟩
    .obtain⟨o8,o9,o10,rfl,B11,st11⟩:=(hPw _ _ _).mp pw;refine aR.gen λM1 hM1=>?_;symm
     have l11:=l10x.stBut (m5 us) noU stx B11;have g11:=rgx.but B11 stx _ _ (eY _);obtain⟨ys,hys,rys⟩:=id l11;refine⟨_,hys,λc12 H12 hc12 S12 h12=>?_⟩;simp only[xH];refine⟨st,c12,wd,us,g,rfl,st11.same S12,⟨ys,h12,rys.same S12⟩,nu,al,aD.same S12 _ _ g11,fg,bg,λv H13 d B13 st13 rd td=>hM1 _ _ ?_⟩;clear hM1;have B13':=B11.trans ((S12.but st).trans B13);refine aR.gen λM2 hM2=>?_;symm
     simp only[du];have g13:=rgx.but B13' stx _ _ (eY _);refine⟨d8,wd,v,fs,l,g,d,rfl,l8x.stBut stx B13',f80,lf9,pf8,bf9,FH,g13,fg,bg,rd,td.2,λb H14 S14 hb=>hM2 _ _ ?_⟩;clear hM2;symm
     simp only[vA];refine⟨_,rfl,iZ (by simp[ft]) ⟨d9,wd,v,ms,g,d,rfl,(l9x.stBut stx B13').same S14,fm9,lm9,aD.same S14 _ _ g13,fg,bg,aD.same S14 _ _ rd,td.2,λb' H15 S15 hb'=>?_⟩⟩
     have eb:b=b':=XU.mpr (hb.trans ((dh d).symm.trans hb'.symm));subst eb;exact⟨rfl,iZ (by simp) ((hPw _ _ _).mpr ⟨_,_,_,rfl,B13'.trans ((S14.trans S15).but st),st13.same (S14.trans S15)⟩)⟩
    .obtain⟨o8,o9,o10,rfl,B11,st11⟩:=(hPw _ _ _).mp pw;refine hN9 _ _ ?_;clear hN9;refine aR.gen λN10 hN10=>?_;symm
     have l11:=l10x.stBut (m5 us) noU stx B11;obtain⟨ys,hys,rys⟩:=id l11;have lys:ys.length=us.length:=by rw[rys.length,Yb]
     have sz:1000<=sizeLine:=∅;refine⟨kD hys,ys,hys,(),λH12 B12 h12=>hN10 _ _ ?_⟩;clear hN10;have n1:vw K H1 d10=none:=S17.none nd10;have nst:st≠d10:=(l10x.ne_st noU stx).symm;have nd8:d8≠d10:=by
      obtain⟨_,e,_⟩:=l87;exact aj e nd10
     have nd9:d9≠d10:=by
      obtain⟨_,e,_⟩:=l97;exact aj e nd10
     have l8y:=(l8x.stBut stx B11).but hys nd8 B12;have l9y:=(l9x.stBut stx B11).but hys nd9 B12;have rgy:=aD.flat_but hys B12 _ _ (dX _) (rgx.but B11 stx _ _ (eY _));have Ty:=(uc Tx stx B11).butL hys B12;have S1y:az (vw K H1) (vw K H12):=λb o e=>B12 _ _ (aj e n1) (B11 _ _ (aj e hst0) (U810 _ _ (U8 _ _ (S17 _ _ e))));refine aR.gen λN11 hN11=>?_;symm
     simp only[gx,vA];refine⟨d8,wd,fs,l,g,rfl,l8y,f80,lf9,pf8,bf9,FH,rgy,g0,fg.1,bg,λd13 H13 us' S13 nd13 l13 so'=>⟨d9,wd,_,ms,g,.lst (us'.map fH),rfl,l9y.same S13,fm9,lm9,aD.same S13 _ _ rgy,fg,bg,l13.rep,BI λc hc=>⟨(so'.all c hc).2.2.1.mono ∅,(so'.all c hc).2.2.2.mono ∅⟩,λb H14 S14 hb=>?_⟩⟩;have hb:b=true:=hb.mpr ((dh _).mpr so'.hold);subst hb;have S1z:=S1y.trans (S13.trans S14);have Tz:=Ty.same (S13.trans S14);refine⟨true,rfl,iZ ∅ (hN11 _ _ ?_)⟩;clear hN11;symm
     simp only[yP,uG];refine⟨Tz,λH3' B3' T3'=>⟨_,rfl,?_,λc4 H4' S4' hn4 h4'=>?_⟩⟩
     .symm
      simp only[eH];exact⟨∅,λn5 H5 hn5 S5 h5=>⟨∅,λn6 H6 hn6 S6 h6=>⟨n5,_,_,rfl,S6 _ _ h5,λH' S'=>⟨trivial,trivial,S5.trans (S6.trans S')⟩⟩⟩⟩
     .refine⟨∅,λc5 H5' hn5 S5' h5'=>?_⟩;have d1:aD (vw K H5') (.lst [.int 1]) (.ref c4):=.mk_lst (S5' _ _ h4') (.mk_cons (.mk_int _) .mk_nil);have d2:aD (vw K H5') (.lst [.int 1]) (.ref c5):=.mk_lst h5' (.mk_cons (.mk_int _) .mk_nil);refine⟨_,d1,_,d2,iE 1,iE 1,?_⟩;rw[pD (iE 1)];exact iZ ∅ ((hPv _ _ _).mpr ⟨_,_,_,_,_,_,_,_,_,_,rfl,(s1.trans (rK.of S1z)).trans ((Tz.smT B3' T3').trans (rK.of (S4'.trans S5'))),T3'.same (S4'.trans S5')⟩)
   .obtain⟨o1,o2,o3,o4,o5,o6,o7,o8,o9,o10,rfl,s1,T1⟩:=(hPv _ _ _).mp pv;exact⟨⟨o1,o2,o3,o4,o5,o6,o7,o8,o9,o10,rfl⟩,T1⟩
  .rintro σ H2 ⟨o1,o2,o3,o4,o5,o6,o7,o8,o9,o10,rfl,T2⟩;symm
   simp only[yP,uG];refine⟨T2,λH3 B3 T3=>⟨_,rfl,?_,λc4 H4 S4 hn4 h4=>?_⟩⟩
   .symm
    simp only[iA];exact⟨∅,λn5 H5 hn5 S5 h5=>⟨∅,λn6 H6 hn6 S6 h6=>⟨n5,_,rfl,S6 _ _ h5,λH' S'=>⟨trivial,trivial,S5.trans (S6.trans S')⟩⟩⟩⟩
   .refine⟨∅,λc5 H5 hn5 S5 h5=>?_⟩;have d1:aD (vw K H5) (.lst [.int 1]) (.ref c4):=.mk_lst (S5 _ _ h4) (.mk_cons (.mk_int _) .mk_nil);have d2:aD (vw K H5) (.lst [.int 1]) (.ref c5):=.mk_lst h5 (.mk_cons (.mk_int _) .mk_nil);refine⟨_,d1,_,d2,iE 1,iE 1,?_⟩;rw[pD (iE 1)];exact h H5
end
local macro_rules | `(tactic| walk_at "bd")=>`(tactic| (intro _ _ _ _ _ _ us hl; first | exact IT (g:=fun us=>bindArgs _ ⟨us,[]⟩) (z:=fun us=>pure (List.zip _ us)) us hl fun _=>rfl | exact IX (g:=fun us=>bindArgs _ ⟨us,[]⟩) (z:=fun us=>pure (List.zip _ us)) us hl fun _ _=>rfl | exact Hv (g:=fun us=>bindArgs _ ⟨us,[]⟩) (z:=fun us=>pure (List.zip _ us)) us hl fun _ _ _=>rfl | exact Ji (g:=fun us=>bindArgs _ ⟨us,[]⟩) (z:=fun us=>pure (List.zip _ us)) us hl fun _ _ _ _=>rfl | exact Jn (g:=fun us=>bindArgs _ ⟨us,[]⟩) (z:=fun us=>pure (List.zip _ us)) us hl fun _ _ _ _ _=>rfl))
theorem all_mk{l:PySem.W.OpenLaw}{w:World}{K:W.Frag}{h:Heap}{mg:Str->Option Value}{fa f53:Addr}(X:K.In h)(G:h.Ns mainGlobals mg)(hfa:mg "law" = some (.ref fa)) (hst:l.prog.given.tree=none)
  {od53 an53:Option Addr}{sl53:Array (Option Value)}
  {oc53 kV53 dc53 pm53 cd53 ct53:Value}
  (h0:Hf K "is_whole" kN)
  (h1:Hf K "greatest_divisor" eI)
  (h2:Hf K "sign_of" mZ)
  (h3:Hf K "power" uy)
  (h4:Hf K "trimmed" ny)
  (h5:Hf K "lowered" mT)
  (h6:Hf K "wholes_slope" gK)
  (h7:Hf K "wholes_at" jG)
  (h8:Hf K "wholes_parted" gq)
  (h9:Hf K "wholes_rests" gI)
  (h10:Hf K "is_fraction" iw)
  (h11:Hf K "ratio" tZ)
  (h12:Hf K "minus" tS)
  (h13:Hf K "is_less" nA)
  (h14:Hf K "cleared" mB)
  (h15:Hf K "refuse_nought" dY)
  (h16:Hf K "signed_chain" gH)
  (h17:Hf K "parted_chain" gN)
  (h18:Hf K "counting_chain" fJ)
  (h19:Hf K "signs_of" kF)
  (h20:Hf K "signs_far" jt)
  (h21:Hf K "changes" my)
  (h22:Hf K "count_between" gg)
  (h23:Hf K "root_bound" jh)
  (h24:Hf K "places" pG)
  (h25:Hf K "halved" oZ)
  (h26:Hf K "narrowed" kH)
  (h27:Hf K "stretches" gZ)
  (h28:Hf K "is_stretch" i0)
  (h29:Hf K "stretches_hold" dI)
  (h30:Hf K "_law_cell_at" mK)
  (h31:Hf K "_law_state" sD)
  (h32:Hf K "_law_take" wA)
  (h33:Hf K "_law_divisor" mW)
  (h34:Hf K "_law_low" CG)
  (h35:Hf K "_law_small" sO)
  (h36:Hf K "_law_above" tX)
  (h37:Hf K "_law_factors" m9)
  (h38:Hf K "_law_clean" sH)
  (h39:Hf K "_law_plus" xL)
  (h40:Hf K "_law_times" sR)
  (h41:Hf K "_law_multiplied" je)
  (h42:Hf K "_law_of_factors" i6)
  (h43:Hf K "_law_signed" qe)
  (h44:Hf K "_law_less" xc)
  (h45:Hf K "_law_marks" tW)
  (h46:Hf K "_law_inside" pR)
  (h47:Hf K "_law_minus" ui)
  (h48:Hf K "_law_whole" sL)
  (h49:Hf K "_law_is_fraction" ir)
  (h50:Hf K "_law_refused" mC)
  (h51:Hf K "_law_due" Di)
  (h52:Hf K "_law_bent" wr)
  (a53:nsIn K mainGlobals "law" = some (some (.ref f53))) (l53:K.lookup f53=some ⟨oc53,od53,.func (fnOf "law" "law" (fM gL) (di gL) (ak gL) .none kV53 dc53 pm53 an53 cd53 ct53),sl53⟩) (c53:codeIn K cd53 "law" = true) (k53:keepIn K (.ref f53)=true)
  (z0:nsIn K mainGlobals "isinstance" = some none)
  (z1:nsIn K mainGlobals "bool" = some none)
  (z2:nsIn K mainGlobals "int" = some none)
  (z3:nsIn K mainGlobals "abs" = some none)
  (z4:nsIn K mainGlobals "range" = some none)
  (z5:nsIn K mainGlobals "len" = some none)
  (z6:nsIn K mainGlobals "reversed" = some none)
  (z7:nsIn K mainGlobals "max" = some none)
  (z8:nsIn K mainGlobals "list" = some none)
  (z9:nsIn K mainGlobals "tuple" = some none)
  (z10:nsIn K mainGlobals "enumerate" = some none)
  (z11:nsIn K mainGlobals "min" = some none)
  (z12:nsIn K mainGlobals "ValueError" = some none)
  {e0 e1 e2 e3 e4 e5 e6 e7 e8 em:Addr}
  (n0:nsIn K mainGlobals "NoFraction" = some (some (.ref e0)))
  (n1:nsIn K mainGlobals "NoPolynomial" = some (some (.ref e1)))
  (n2:nsIn K mainGlobals "NoSums" = some (some (.ref e2)))
  (n3:nsIn K mainGlobals "NoFlock" = some (some (.ref e3)))
  (n4:nsIn K mainGlobals "NoWalk" = some (some (.ref e4)))
  (n5:nsIn K mainGlobals "NoSum" = some (some (.ref e5)))
  (n6:nsIn K mainGlobals "NoDeed" = some (some (.ref e6)))
  (n7:nsIn K mainGlobals "NoText" = some (some (.ref e7)))
  (n8:nsIn K mainGlobals "NoRow" = some (some (.ref e8)))
  (nm:nsIn K mainGlobals "MomentError" = some (some (.ref em))) (xo:uk K e1)
  (q0:PySem.W.kitOne K (.ref e1) (.ref e0)=some false)
  (q1:PySem.W.kitOne K (.ref e1) (.ref e1)=some true)
  (q2:PySem.W.kitOne K (.ref e1) (.ref e2)=some false)
  (q3:PySem.W.kitOne K (.ref e1) (.ref e3)=some false)
  (q4:PySem.W.kitOne K (.ref e1) (.ref e4)=some false)
  (q5:PySem.W.kitOne K (.ref e1) (.ref e5)=some false)
  (q6:PySem.W.kitOne K (.ref e1) (.ref e6)=some false)
  (q7:PySem.W.kitOne K (.ref e1) (.ref e7)=some false)
  (q8:PySem.W.kitOne K (.ref e1) (.ref e8)=some false)
  (qm:PySem.W.exmOne K (.ref e1) (.ref em)=some true)(qv:PySem.W.kitOne K (.ref e1) (.type "ValueError")=some true)
  (y1:PySem.W.findIn K (.ref e1) "__getattribute__" = some (some (.builtin "BaseException.__getattribute__"))) (y2:PySem.W.findIn K (.ref e1) "__getattr__" = some none) (y3:PySem.W.findIn K (.ref e1) "__class__" = some (some (.builtin "object.__class__")))
  (y4:PySem.W.mroIn K e1 (.type "object")=some true) (y5:PySem.W.mroIn K e1 (.type "BaseException")=some true) (y6:(PySem.W.clsIn K e1).isSome=true)
  (m53:cd53=.ref 488)(o53:PySem.W.codeHdIn K 488 484=true)
  : ∃fd:FuncData,(∀(s:Shared)(v:Value),BindsTo s fd ⟨[v],[]⟩ [("_law_script",v)]) /\ ∀base:Heap,K.In base->base.Ns mainGlobals mg->xJ mg base->base.NoSeer->a9 l.prog w K mg base dC 10 fa fd ["_law_script"] (spLaw K):=by
 have e:=hfa.symm.trans (Yg X G a53);cases e;have T:fh K mg:=⟨trivial,YT X G z0,YT X G z1,YT X G z2,YT X G z3,YT X G z4,YT X G z5,YT X G z6,YT X G z7,YT X G z8,YT X G z9,YT X G z10,YT X G z11,YT X G z12⟩;have Z_:zE K mg e1 1:=by
  refine⟨⟨y1,y2,y3,y4,y5,y6⟩,λj n hn=>?_,⟨em,Yg X G nm,qm⟩,qv⟩;rcases j with _|_|_|_|_|_|_|_|_|j
  .cases hn;exact⟨e0,Yg X G n0,q0⟩
  .cases hn;exact⟨e1,Yg X G n1,q1⟩
  .cases hn;exact⟨e2,Yg X G n2,q2⟩
  .cases hn;exact⟨e3,Yg X G n3,q3⟩
  .cases hn;exact⟨e4,Yg X G n4,q4⟩
  .cases hn;exact⟨e5,Yg X G n5,q5⟩
  .cases hn;exact⟨e6,Yg X G n6,q6⟩
  .cases hn;exact⟨e7,Yg X G n7,q7⟩
  .cases hn;exact⟨e8,Yg X G n8,q8⟩
  .cases hn
 refine⟨fnOf "law" "law" (fM gL) (di gL) (ak gL) .none kV53 dc53 pm53 an53 cd53 ct53,λs v=>.of_eq rfl,λbase kb nb hB hSe=>?_⟩;have N_:pV l.prog base:=⟨hSe,hst⟩;have E_:Ef l.prog w K mg base:=⟨h,X,G⟩;have hX:=Yg X G n1;have C_is_whole:=h0.cal E_ λF=>vp F T;have C_greatest_divisor:=h1.cal E_ λF=>j9 F T;have C_sign_of:=h2.cal E_ λF=>xx F T;have C_power:=h3.cal E_ λF=>AH F T;have C_trimmed:=h4.cal E_ λF=>wV F T;have C_lowered:=h5.cal E_ λF=>wY F T N_ C_greatest_divisor;have C_wholes_slope:=h6.cal E_ λF=>nZ F T;have C_wholes_at:=h7.cal E_ λF=>tF F T;have C_wholes_parted:=h8.cal E_ λF=>mR F T N_ C_trimmed;have C_wholes_rests:=h9.cal E_ λF=>nX F T N_ C_power C_wholes_parted;have C_is_fraction:=h10.cal E_ λF=>pZ F T C_is_whole C_greatest_divisor;have C_ratio:=h11.cal E_ λF=>C7 F T N_ C_greatest_divisor;have C_minus:=h12.cal E_ λF=>Dd F T C_ratio;have C_is_less:=h13.cal E_ λF=>wW F T;have C_cleared:=h14.cal E_ λF=>wP F T N_ C_greatest_divisor;have C_refuse_nought:=h15.cal E_ λF=>mG F T;have CX_refuse_nought:=h15.calX E_ λF=>lj F T xo hX;have C_signed_chain:=h16.cal E_ λF=>nV F T C_wholes_rests C_sign_of;have C_parted_chain:=h17.cal E_ λF=>nU F T C_lowered C_wholes_parted;have C_counting_chain:=h18.cal E_ λF=>lV F T C_lowered C_cleared C_parted_chain C_signed_chain C_wholes_slope;have C_signs_of:=h19.cal E_ λF=>vU F T C_sign_of C_wholes_at;have C_signs_far:=h20.cal E_ λF=>t9 F T C_sign_of;have C_changes:=h21.cal E_ λF=>wE F T;have C_count_between:=h22.cal E_ λF=>m6 F T C_signs_far C_signs_of C_changes;have C_root_bound:=h23.cal E_ λF=>qC F T;have C_places:=h24.cal E_ λF=>Ab F T C_root_bound C_signs_far C_signs_of C_changes;have C_halved:=h25.cal E_ λF=>Ar F T C_sign_of C_wholes_at;have C_narrowed:=h26.cal E_ λF=>vF F T C_halved C_ratio;have C_stretches:=h27.cal E_ λF=>ue F T C_refuse_nought C_counting_chain C_narrowed C_places;have CX_stretches:=h27.calX E_ λF=>qF F T xo hX C_refuse_nought C_counting_chain C_narrowed C_places CX_refuse_nought;have C_is_stretch:=h28.cal E_ λF=>qB F T C_is_fraction C_is_less C_minus;have C_stretches_hold:=h29.cal E_ λF=>kY F T C_refuse_nought C_counting_chain C_count_between C_is_stretch C_is_less;have CX_stretches_hold:=h29.calX E_ λF=>kz F T xo hX C_refuse_nought C_counting_chain C_count_between C_is_stretch C_is_less CX_refuse_nought;have zCcell_at:=h30.cal E_ λF=>Ay F T;have zCstate:=h31.cal E_ λF=>DV F T zCcell_at;have zCtake:=h32.cal E_ λF=>IV F T;have zCdivisor:=h33.cal E_ λF=>Aa F T;have zClow:=h34.cal E_ λF=>KA F T N_ zCdivisor;have zCsmall:=h35.cal E_ λF=>Fh F T zClow zCtake;have zCabove:=h36.cal E_ λF=>FX F T zClow zCtake;have zCplus:=h39.cal E_ λF=>Jg F T zClow;have zCfactors:=h37.cal E_ λF=>Ah F T zCtake zCsmall zCplus;have zCclean:=h38.cal E_ λF=>E6 F T;have zCtimes:=h40.cal E_ λF=>FY F T zClow;have zCmultiplied:=h41.cal E_ λF=>tY F T zCclean zCplus zCtimes;have zCof_factors:=h42.cal E_ λF=>tV F T zCmultiplied;have zCsigned:=h43.cal E_ λF=>BN F T zCtimes;have zCless:=h44.cal E_ λF=>Hl F T;have zCmarks:=h45.cal E_ λF=>DX F T zCsigned zCless;have zCinside:=h46.cal E_ λF=>AQ F T zCless zCsigned;have zCminus:=h47.cal E_ λF=>EL F T zClow;have zCwhole:=h48.cal E_ λF=>FK F T;have zCis_fraction:=h49.cal E_ λF=>qA F T zCdivisor zCwhole;have R_:zg l.prog w K mg base 8:=by
  obtain⟨_,_,F,a,k⟩:=h50.at_ E_;exact⟨_,a,k,λA outer s H p C i Q hr e0 L Z hi hq=>Af F T (F.binds (by walk_at"bd")) hr e0 L Z hi hq⟩
 have zCdue:=h51.cal E_ λF=>KU F T zCis_fraction zCminus zCless zCinside;have zCbent:=h52.cal E_ λF=>Ik F T zCtake zCsmall zCminus zCplus;have M_law:Lv K mg base (fnOf "law" "law" (fM gL) (di gL) (ak gL) .none kV53 dc53 pm53 an53 cd53 ct53) 488 484:=⟨m53,PySem.W.codeHd_of_K kb o53,hB⟩;have F_law:=CK (st:=gL) l53 c53 k53;exact JE F_law T M_law R_ Z_ zCstate zCfactors zCof_factors zCmarks zCabove zCtake C_stretches zCdue C_stretches_hold zCbent CX_stretches CX_stretches_hold
theorem walk{l:PySem.W.OpenLaw}{q:Program}{loose:List Str}{XP:(Str->Option Value)->Heap->Prop}{YP:World->Heap->Prop}{d:DefRec}{K:Params->W.Frag}(hn:l.most=some 63)(hdf:d.params.defaults=[])(hi:PyProof.Rows.importsNone q=true)
  (hY:∀(w:World)(h:Heap),YP w h->(K w.params).In h /\ ∀q∈([(488,484)]:List (Addr×Addr)),PySem.W.codeHdIn (K w.params) q.1 q.2=true/\(K w.params).lookup q.2=none/\h.get? q.2=some (PySem.W.tabObj #[]))
  (F:∀(w:World)(mg:Str->Option Value)(fa:Addr)(h:Heap),(K w.params).In h->h.Ns mainGlobals mg->mg d.name=some (.ref fa) ->
   ∃fd:FuncData,(∀(s:Shared)(u:Value),BindsTo s fd ⟨[u],[]⟩ [("_law_script",u)]) /\ ∀base:Heap,(K w.params).In base->base.Ns mainGlobals mg->xJ mg base->base.NoSeer->a9 l.prog w (K w.params) mg base dC 10 fa fd ["_law_script"] (spLaw (K w.params))) :
  PySem.W.WalkO q loose XP YP l.row.toRowW d [] (λf vs=>PySem.call f vs) :=
 L2.walk_ofM (ts:=λ_=>[(488,484)]) (n:=63) (k:=10) (x:="_law_script") (CX:=λ_=>dC) (sp:=λw=>spLaw (K w.params)) hn ∅ hdf ⟨rfl,∅,∅⟩ hi hY F (λ_ _ a ns hl hT hK hS=>⟨a,ns,rfl,.of hS hK,hl,.start (hT (488,484) (by simp)),λ_=>rfl⟩) λ_ _ _ _ _ z=>z
end M
open PySem PySem.W PyProof.Rows
theorem Zz:True:=trivial
namespace PySem.W.Fast
theorem tw12466852918830029236:True:=Zz
theorem tw359719275995547844:True:=Zz
theorem tw3917363023444122315:True:=Zz
theorem tw4703098776657538530:True:=Zz
theorem tw6280184873418879337:True:=Zz
theorem tw8600990257058308608:True:=Zz
theorem tw15635070544111418144:True:=Zz
theorem tw6088679859670488701:True:=Zz
theorem tw15737292714920076582:True:=Zz
theorem tw12148987015966631799:True:=Zz
theorem tw12955205343528542062:True:=Zz
theorem tw2148473763890579973:True:=Zz
theorem tw1106848154686374819:True:=Zz
theorem tw17467402204374243831:True:=Zz
theorem tw4939816659329848247:True:=Zz
theorem tw14060224829481027588:True:=Zz
theorem tw17096643960369862766:True:=Zz
theorem tw13689991498334303802:True:=Zz
theorem tw17637996136117842000:True:=Zz
theorem tw5869127028088857376:True:=Zz
theorem tw526416558011797576:True:=Zz
theorem tw2901580000875772394:True:=Zz
theorem tw1146337200814738681:True:=Zz
theorem tw17876018724869930920:True:=Zz
theorem tw12571711104302615488:True:=Zz
theorem tw11963941609550876306:True:=Zz
theorem tw4163645103560643826:True:=Zz
theorem tw4894651868107101402:True:=Zz
theorem tw17452870312919995081:True:=Zz
theorem tw9549877806729521488:True:=Zz
theorem tw13678891945623698738:True:=Zz
theorem tw6736154417067386981:True:=Zz
theorem tw16620792399160786998:True:=Zz
theorem tw11091839230997606735:True:=Zz
theorem tw8820107036951035224:True:=Zz
theorem tw5102402220382538169:True:=Zz
theorem tw110899112554613435:True:=Zz
theorem tw15491325212599902619:True:=Zz
theorem tw1143113366687723314:True:=Zz
theorem tw12682439800957356956:True:=Zz
theorem tw3420674714513877700:True:=Zz
theorem tw350467174053128589:True:=Zz
theorem tw13705186677414986282:True:=Zz
theorem tw16922273616780208808:True:=Zz
theorem tw7000826146789452959:True:=Zz
theorem tw4645846551439881093:True:=Zz
theorem tw6623777992869389322:True:=Zz
theorem tw6866103052811390649:True:=Zz
theorem tw7159873575605350100:True:=Zz
theorem tw6811334791166160063:True:=Zz
theorem tw16720795096935976161:True:=Zz
theorem tw16621235406588699753:True:=Zz
theorem tw5612498625647353475:True:=Zz
theorem tw13323596413185164868:True:=Zz
theorem tw12509175478893955745:True:=Zz
theorem tw2176295830809584731:True:=Zz
theorem tw13082041126564295970:True:=Zz
theorem tw4084167362605398831:True:=Zz
theorem tw15163370799807648044:True:=Zz
theorem tw6291668564741598858:True:=Zz
theorem tw6613646536661059798:True:=Zz
theorem tw12419920874501235944:True:=Zz
theorem tw2607487164698431000:True:=Zz
theorem tw3137122623826322592:True:=Zz
theorem tw16750530215957890440:True:=Zz
theorem tw17011206963637529228:True:=Zz
theorem tw339525494613573758:True:=Zz
theorem tw8681567526305504054:True:=Zz
theorem tw4488603204196874243:True:=Zz
theorem tw7467938136708634801:True:=Zz
theorem tw11979513072145058917:True:=Zz
theorem tw13852936779398292263:True:=Zz
theorem tw6140491716414993020:True:=Zz
theorem tw2096965403083331722:True:=Zz
theorem tw2853413742845512571:True:=Zz
theorem tw4779625265470571483:True:=Zz
theorem tw14619820596282277144:True:=Zz
theorem tw11772552174303243968:True:=Zz
theorem tw5929578844454605042:True:=Zz
theorem tw11414147002524012357:True:=Zz
theorem tw15719473307927596417:True:=Zz
theorem tw6473050056816952779:True:=Zz
theorem tw11121818478826261573:True:=Zz
theorem tw13301730387328309247:True:=Zz
theorem tw5067454124933164072:True:=Zz
theorem tw3752579052429869366:True:=Zz
theorem tw852229328278947167:True:=Zz
theorem tw8338436555363249439:True:=Zz
theorem tw865447425886769607:True:=Zz
theorem tw8745232615000212306:True:=Zz
theorem tw2212613605918370674:True:=Zz
theorem tw16672059837006227099:True:=Zz
theorem tw11918568100214258649:True:=Zz
theorem tw12613077887307791775:True:=Zz
theorem tw4561444195454334902:True:=Zz
theorem tw14652938772296131460:True:=Zz
theorem tw6160467318061465689:True:=Zz
theorem tw17622866379384379755:True:=Zz
theorem tw16495382896513860104:True:=Zz
theorem tw17437322883637211040:True:=Zz
theorem tw1508732251237604593:True:=Zz
theorem tw7774980170168653722:True:=Zz
theorem tw7611799112670613491:True:=Zz
theorem tw6383849291303549149:True:=Zz
theorem tw5339915490380383492:True:=Zz
theorem tw5536887291215104089:True:=Zz
theorem tw15916726238622172242:True:=Zz
theorem tw13973833627562327211:True:=Zz
theorem tw5853995956297094213:True:=Zz
theorem tw6300124813328843457:True:=Zz
theorem tw16660973349440586170:True:=Zz
theorem tw1557273510174815813:True:=Zz
theorem tw12013551141163517873:True:=Zz
theorem tw5399148485470393567:True:=Zz
theorem tw17978738645829575165:True:=Zz
theorem tw18109741433688863257:True:=Zz
theorem tw1041358073934437690:True:=Zz
theorem tw1500580942630502228:True:=Zz
theorem tw17058436753358666405:True:=Zz
theorem tw16100714499047613242:True:=Zz
theorem tw17634318908617552704:True:=Zz
theorem tw1709820575722706337:True:=Zz
theorem tw12173569374691685876:True:=Zz
theorem tw1983915878361861195:True:=Zz
theorem tw17595896078255848592:True:=Zz
theorem tw16583256115541525489:True:=Zz
theorem tw8647548310062290844:True:=Zz
theorem tw5061331428176199374:True:=Zz
theorem tw15569613217914290532:True:=Zz
theorem tw9423844983279831188:True:=Zz
theorem tw203798009010048001:True:=Zz
theorem tw17720246962006038486:True:=Zz
theorem tw1647012355487453499:True:=Zz
theorem tw9824293892419662068:True:=Zz
theorem tw4920683546830486060:True:=Zz
theorem tw17323943316679229994:True:=Zz
theorem tw17722163878175989827:True:=Zz
theorem tw13368762966039299040:True:=Zz
theorem tw7691713524796014883:True:=Zz
theorem tw13441742496379054580:True:=Zz
theorem tw8738705709888944960:True:=Zz
theorem tw4354139133772589793:True:=Zz
theorem tw4025723488315932383:True:=Zz
theorem tw7468875893911131063:True:=Zz
theorem tw15017369181333526848:True:=Zz
theorem tw3006823415825771454:True:=Zz
theorem tw2117417545432038700:True:=Zz
theorem tw10682385074859900097:True:=Zz
theorem tw2010092392553327344:True:=Zz
theorem tw11892672238918901554:True:=Zz
theorem tw2424277615396287616:True:=Zz
theorem tw14707704074922743898:True:=Zz
theorem tw13252227493142142963:True:=Zz
theorem tw10160090296000383919:True:=Zz
theorem tw12084639827832501969:True:=Zz
theorem tw9045564955091119892:True:=Zz
theorem tw16946427968876705295:True:=Zz
theorem tw10787840131290570107:True:=Zz
theorem tw10152092935468058292:True:=Zz
theorem tw14944333142994304624:True:=Zz
theorem tw3333418252899654687:True:=Zz
theorem tw12655648321331129854:True:=Zz
theorem tw14457219921281635800:True:=Zz
theorem tw1459302031096635860:True:=Zz
theorem tw11167834830404625427:True:=Zz
theorem tw11181620188672858776:True:=Zz
theorem tw1527029305298562655:True:=Zz
theorem tw2509512686156679929:True:=Zz
theorem tw6406432095312860518:True:=Zz
theorem tw2182776827274783662:True:=Zz
theorem tw17927296656508567761:True:=Zz
theorem tw2368722053799160464:True:=Zz
theorem tw6167553037282072751:True:=Zz
theorem tw15302955013986085649:True:=Zz
theorem tw4005694424697849651:True:=Zz
theorem tw11632544927716508259:True:=Zz
theorem tw54784407435026207:True:=Zz
theorem tw6756487099010599546:True:=Zz
theorem tw8891869455249207853:True:=Zz
theorem tw6381396556952603608:True:=Zz
theorem tw12113609035497055133:True:=Zz
theorem tw3021868560914787765:True:=Zz
theorem tw10443709913343576329:True:=Zz
theorem tw9092863778357423983:True:=Zz
theorem tw16876275614426163641:True:=Zz
theorem tw14000227076994378745:True:=Zz
theorem tw16838780188389557748:True:=Zz
theorem tw10881437298487936130:True:=Zz
theorem tw2871131477276600617:True:=Zz
theorem tw9871300401062409577:True:=Zz
theorem tw1839445975158319759:True:=Zz
theorem tw8782627922782052295:True:=Zz
theorem tw4320103921469258799:True:=Zz
theorem tw4469189492166171481:True:=Zz
theorem tw3587009366094832901:True:=Zz
theorem tw6495149422405162089:True:=Zz
theorem tw8635515025796169175:True:=Zz
theorem tw1496380111464103963:True:=Zz
theorem tw9058184662048821018:True:=Zz
theorem tw16073719758119383588:True:=Zz
theorem tw10675060391440109096:True:=Zz
theorem tw4014042028493832915:True:=Zz
theorem tw13186392010830321313:True:=Zz
theorem tw7633985714964200510:True:=Zz
theorem tw14754870375820990937:True:=Zz
theorem tw9900166029400035684:True:=Zz
theorem tw15767969662453222396:True:=Zz
theorem tw11467361713770248175:True:=Zz
theorem tw15478729307671155194:True:=Zz
theorem tw14736226708805575198:True:=Zz
theorem tw11074103220695408345:True:=Zz
theorem tw9530740949952584703:True:=Zz
theorem tw3062688965182782436:True:=Zz
theorem tw16302285740740777631:True:=Zz
theorem tw3720561268681601759:True:=Zz
theorem tw15868630075711535659:True:=Zz
theorem tw9879189310557587934:True:=Zz
theorem tw16029843257755894460:True:=Zz
theorem tw11691266307654392048:True:=Zz
theorem tw7075849330477854009:True:=Zz
theorem tw10246226454406414748:True:=Zz
theorem tw11454606611470260445:True:=Zz
theorem tw500247750396537385:True:=Zz
theorem tw15810716673464091763:True:=Zz
theorem tw13833986835649411108:True:=Zz
theorem tw12650924401707482828:True:=Zz
theorem tw5470735239368523693:True:=Zz
theorem tw12251887666456927568:True:=Zz
theorem tw3340940896056999284:True:=Zz
theorem tw3012520154987009892:True:=Zz
theorem tw8959224151285309617:True:=Zz
theorem tw7774779296739980065:True:=Zz
theorem tw2934667983164461501:True:=Zz
theorem tw2927433592101309608:True:=Zz
theorem tw8330032992723078056:True:=Zz
theorem tw5749733149866430943:True:=Zz
theorem tw53773443018705164:True:=Zz
theorem tw15246722513675389364:True:=Zz
theorem tw11206167020520906697:True:=Zz
theorem tw3973343284323367756:True:=Zz
theorem tw1237416722023545874:True:=Zz
theorem tw12021331928114230633:True:=Zz
theorem tw13871467828462908832:True:=Zz
theorem tw12407368946137178830:True:=Zz
theorem tw2455105989548003038:True:=Zz
theorem tw13646807247960990948:True:=Zz
theorem tw4109799802459334177:True:=Zz
theorem tw11072519150911658165:True:=Zz
theorem tw13674057827446046203:True:=Zz
theorem tw16137826267298720611:True:=Zz
theorem tw5247418043986285369:True:=Zz
theorem tw15411818542632085957:True:=Zz
theorem tw10159884338124821240:True:=Zz
theorem tw6104760594197402361:True:=Zz
theorem tw6103031611703262139:True:=Zz
theorem tw17479261435677189493:True:=Zz
theorem tw6805726877254836299:True:=Zz
theorem tw4188574351213453201:True:=Zz
theorem tw13294475758238826427:True:=Zz
theorem tw6668565312261972378:True:=Zz
theorem tw10879102369023094671:True:=Zz
theorem tw7476178152324248660:True:=Zz
theorem tw4238108856410386115:True:=Zz
theorem tw5393704842159511394:True:=Zz
theorem tw1115300175186720372:True:=Zz
theorem tw9007017699684692472:True:=Zz
theorem tw14004547094344511066:True:=Zz
theorem tw9089471717195528444:True:=Zz
theorem tw406103009137879857:True:=Zz
theorem tw10093769672716397350:True:=Zz
theorem tw11544499004223726260:True:=Zz
theorem tw3551448926768315950:True:=Zz
theorem tw1037344147991754391:True:=Zz
theorem tw17922765567032348633:True:=Zz
theorem tw5852268261305700500:True:=Zz
theorem tw15368758558877131505:True:=Zz
theorem tw9411565293413885166:True:=Zz
theorem tw16580648777249002591:True:=Zz
theorem tw12359247269016337119:True:=Zz
theorem tw14362003077649384733:True:=Zz
theorem tw15106011725966414719:True:=Zz
theorem tw13241498395244908380:True:=Zz
theorem tw4327678434002433918:True:=Zz
theorem tw14341468392703174085:True:=Zz
theorem tw601256049736878989:True:=Zz
theorem tw10342884690454319287:True:=Zz
theorem tw9984414768211912623:True:=Zz
theorem tw12489491974151230308:True:=Zz
theorem tw18017682051956161624:True:=Zz
theorem tw4096405639344691926:True:=Zz
theorem tw12739217322950634631:True:=Zz
theorem tw18106906287551989401:True:=Zz
theorem tw12032795331594379208:True:=Zz
theorem tw16898987000717756529:True:=Zz
theorem tw5132667442738693911:True:=Zz
theorem tw4188966734905013570:True:=Zz
theorem tw5893016610758134188:True:=Zz
theorem tw8105529211817173863:True:=Zz
theorem tw1654828305867804170:True:=Zz
theorem tw9752302406961403012:True:=Zz
theorem tw17391177615048975197:True:=Zz
theorem tw9021827779532067575:True:=Zz
theorem tw18331389743449783083:True:=Zz
theorem tw15386334363006385023:True:=Zz
theorem tw11003225651518259235:True:=Zz
theorem tw15602411632964588982:True:=Zz
theorem tw18245927213812240345:True:=Zz
theorem tw18130723640942171844:True:=Zz
theorem tw8304612639697608111:True:=Zz
theorem tw6988845457393532942:True:=Zz
theorem tw9456191547905938534:True:=Zz
theorem tw397025098900952913:True:=Zz
theorem tw1501641916936855467:True:=Zz
theorem tw4585483684464581574:True:=Zz
theorem tw13909621121833048497:True:=Zz
theorem tw17807272748698648366:True:=Zz
theorem tw1387580356763457159:True:=Zz
theorem tw5875601312870772752:True:=Zz
theorem tw16362492723815001737:True:=Zz
theorem tw3284493298835082323:True:=Zz
theorem tw6031030346088365110:True:=Zz
theorem tw2069401365667564152:True:=Zz
theorem tw864461334412054640:True:=Zz
theorem tw5881226819331486570:True:=Zz
theorem tw14955181331285774538:True:=Zz
theorem tw13914876111847664578:True:=Zz
theorem tw6531460432829591202:True:=Zz
theorem tw8111230049907719993:True:=Zz
theorem tw5154022467420835009:True:=Zz
theorem tw2425527990094706982:True:=Zz
theorem tw17411802160434073109:True:=Zz
theorem tw13328543150855488719:True:=Zz
theorem tw17856370700848452445:True:=Zz
theorem tw2401729511602558736:True:=Zz
theorem tw4207523333737603934:True:=Zz
theorem tw1645789839935166532:True:=Zz
theorem tw57085950127367815:True:=Zz
theorem tw12744175578156973260:True:=Zz
theorem tw12599552240980251535:True:=Zz
theorem tw4593569935301232709:True:=Zz
theorem tw1065471274010576113:True:=Zz
theorem tw8224177052110140845:True:=Zz
theorem tw11445835873332907329:True:=Zz
theorem tw1060150986343928940:True:=Zz
theorem tw5387949465204928400:True:=Zz
theorem tw7334033286134381378:True:=Zz
theorem tw1979410415607971223:True:=Zz
theorem tw1288507672044755766:True:=Zz
theorem tw6018521997977065116:True:=Zz
theorem tw18274931545108269702:True:=Zz
theorem tw5021470220127811281:True:=Zz
theorem tw10417956651730300634:True:=Zz
theorem tw3014682433110766248:True:=Zz
theorem tw15360133314412945002:True:=Zz
theorem tw16657407074817801402:True:=Zz
theorem tw13880837227948085271:True:=Zz
theorem tw14782436739450978780:True:=Zz
theorem tw10502926556500538909:True:=Zz
theorem tw7504538245034985037:True:=Zz
theorem tw1260540233400899423:True:=Zz
theorem tw14012982989099235029:True:=Zz
theorem tw17071735383410354993:True:=Zz
theorem tw9564948398108844213:True:=Zz
theorem tw17731771359803244153:True:=Zz
theorem tw13399184022994683432:True:=Zz
theorem tw4034778206175536915:True:=Zz
theorem tw787954237820528642:True:=Zz
theorem tw13286837909709427339:True:=Zz
theorem tw6460624982822423443:True:=Zz
theorem tw17517564886589964258:True:=Zz
theorem tw12675150219282387269:True:=Zz
theorem tw3605292990302653764:True:=Zz
theorem tw7434013762781614423:True:=Zz
theorem tw8103890001346698777:True:=Zz
theorem tw9622403002475114319:True:=Zz
theorem tw4167052816059617092:True:=Zz
theorem tw12569438660403587230:True:=Zz
theorem tw16612372236122756226:True:=Zz
theorem tw7715284284810740077:True:=Zz
theorem tw15243613648991604904:True:=Zz
theorem tw10091440032854526879:True:=Zz
theorem tw15961620011562624032:True:=Zz
theorem tw12155711039656696796:True:=Zz
theorem tw8682036120714641195:True:=Zz
theorem tw13740471659036991259:True:=Zz
theorem tw12636014841905768644:True:=Zz
theorem tw14646347721835637316:True:=Zz
theorem tw7243735551806926420:True:=Zz
theorem tw16194505786854303082:True:=Zz
theorem tw13335487674250610598:True:=Zz
theorem tw12276731393665157735:True:=Zz
theorem tw8379385407213804069:True:=Zz
theorem tw11132548573268792082:True:=Zz
theorem tw10363377175188546503:True:=Zz
theorem tw12600880497248319736:True:=Zz
theorem tw5066011509388846254:True:=Zz
theorem tw14008218055624911628:True:=Zz
theorem tw11349310939511065409:True:=Zz
theorem tw6178582889574051203:True:=Zz
theorem tw10462390830321610227:True:=Zz
theorem tw10447630985757943602:True:=Zz
theorem tw4953560029304829752:True:=Zz
theorem tw11757569305202076933:True:=Zz
theorem tw8164796476471247461:True:=Zz
theorem tw10336650033886994760:True:=Zz
theorem tw8972195429258547808:True:=Zz
theorem tw1658206708599709260:True:=Zz
theorem tw5417090946817553552:True:=Zz
theorem tw1968363317457260440:True:=Zz
theorem tw11925296353891647585:True:=Zz
theorem tw1651929997820283322:True:=Zz
theorem tw10169919127123794516:True:=Zz
theorem tw17474364795986482873:True:=Zz
theorem tw11155464367945381728:True:=Zz
theorem tw4014268059899262023:True:=Zz
theorem tw3952962400937222651:True:=Zz
theorem tw8768548012793975268:True:=Zz
theorem tw11631981041744012534:True:=Zz
theorem tw12491205378162730239:True:=Zz
theorem tw7356197331141728416:True:=Zz
theorem tw13908304496078759249:True:=Zz
theorem tw9349394997231680722:True:=Zz
theorem tw17621725413455008118:True:=Zz
theorem tw7352444496948011701:True:=Zz
theorem tw4806874505095401253:True:=Zz
theorem tw16841686862300980134:True:=Zz
theorem tw6303018391753372227:True:=Zz
theorem tw14704920690662887974:True:=Zz
theorem tw1488393970562436553:True:=Zz
theorem tw2531737397204105601:True:=Zz
theorem tw9176467740180804697:True:=Zz
theorem tw15041228141950241568:True:=Zz
theorem tw9208705768332358887:True:=Zz
theorem tw7436899540568403817:True:=Zz
theorem tw6700946152354160841:True:=Zz
theorem tw475122690097720612:True:=Zz
theorem tw15002474921666772255:True:=Zz
theorem tw16731985648224253093:True:=Zz
theorem tw5607749656189144014:True:=Zz
theorem tw7798691253147017272:True:=Zz
theorem tw14264867339313053398:True:=Zz
theorem tw17269615268156065616:True:=Zz
theorem tw12825661561218700272:True:=Zz
theorem tw12425889967453828698:True:=Zz
theorem tw9517044973871830903:True:=Zz
theorem tw9070348281941891292:True:=Zz
theorem tw2925227137858241889:True:=Zz
theorem tw10365564473661247286:True:=Zz
theorem tw8158312699233218602:True:=Zz
theorem tw9415101243321604485:True:=Zz
theorem tw8712308442858412734:True:=Zz
theorem tw17844158564098150937:True:=Zz
theorem tw1798804523181741637:True:=Zz
theorem tw9584983553889659565:True:=Zz
theorem tw6911946979546360504:True:=Zz
theorem tw13776001857637062144:True:=Zz
theorem tw1958538240612343696:True:=Zz
theorem tw18036957037973462174:True:=Zz
theorem tw13537282376367339189:True:=Zz
theorem tw5790746888396226132:True:=Zz
theorem tw347219592944792254:True:=Zz
theorem tw9535345352973462023:True:=Zz
theorem tw13601769129420366874:True:=Zz
theorem tw7283466074899366247:True:=Zz
theorem tw1340416841413639607:True:=Zz
theorem tw4589938008973340015:True:=Zz
theorem tw8789875321646062085:True:=Zz
theorem tw18440985675501292512:True:=Zz
theorem tw18112907905887185063:True:=Zz
theorem tw1025627750776064138:True:=Zz
theorem tw8020135141812026022:True:=Zz
theorem tw5058967601257825928:True:=Zz
theorem tw7766161140990312520:True:=Zz
end PySem.W.Fast
set_option maxRecDepth 100000 in
set_option maxHeartbeats 0 in
theorem PySem.Challenge.cw_momentwright_k15_stretches_told_holds : PySem.Challenge.rw_momentwright_k15_stretches_told.Holds := by
 w_on;o_law;k_head;(case hw=>w_witness2)
 k_fill
 refine M.walk (l:=PySem.Challenge.rw_momentwright_k15_stretches_told) rfl rfl ?hi (fun w h Y=>⟨PySem.W.km_in_of Y,?T⟩) ?F
 case hi=>exact (by decide +kernel)
 case T =>
  have hT:=PySem.W.km_tabs_of Y
  intro q hq
  simp only[List.mem_cons,List.not_mem_nil,or_false] at hq
  rcases hq with rfl
  ·exact⟨by kernel_rfl,by kernel_rfl,hT _ (by simp)⟩
 case F =>
  intro w mg fa h KX G hmg
  refine' M.all_mk KX G hmg rfl ?h0 ?h1 ?h2 ?h3 ?h4 ?h5 ?h6 ?h7 ?h8 ?h9 ?h10 ?h11 ?h12 ?h13 ?h14 ?h15 ?h16 ?h17 ?h18 ?h19 ?h20 ?h21 ?h22 ?h23 ?h24 ?h25 ?h26 ?h27 ?h28 ?h29 ?h30 ?h31 ?h32 ?h33 ?h34 ?h35 ?h36 ?h37 ?h38 ?h39 ?h40 ?h41 ?h42 ?h43 ?h44 ?h45 ?h46 ?h47 ?h48 ?h49 ?h50 ?h51 ?h52 ?a53 ?l53 ?c53 ?k53   ?z0 ?z1 ?z2 ?z3 ?z4 ?z5 ?z6 ?z7 ?z8 ?z9 ?z10 ?z11 ?z12 ?n0 ?n1 ?n2 ?n3 ?n4 ?n5 ?n6 ?n7 ?n8 ?nm ?xo ?q0 ?q1 ?q2 ?q3 ?q4 ?q5 ?q6 ?q7 ?q8 ?qm ?qv ?y1 ?y2 ?y3 ?y4 ?y5 ?y6 ?m53 ?o53
  any_goals (refine' L2.Hf.of ?a ?l ?c ?k;(case a=>k_is);(case l=>k_is);(case c=>k_is);(case k=>k_is))
  (case a53=>k_is);(case l53=>k_is);(case c53=>k_is);(case k53=>k_is)
  (case z0=>k_is)
  (case z1=>k_is)
  (case z2=>k_is)
  (case z3=>k_is)
  (case z4=>k_is)
  (case z5=>k_is)
  (case z6=>k_is)
  (case z7=>k_is)
  (case z8=>k_is)
  (case z9=>k_is)
  (case z10=>k_is)
  (case z11=>k_is)
  (case z12=>k_is)
  (case n0=>k_is)
  (case n1=>k_is)
  (case n2=>k_is)
  (case n3=>k_is)
  (case n4=>k_is)
  (case n5=>k_is)
  (case n6=>k_is)
  (case n7=>k_is)
  (case n8=>k_is)
  (case nm=>k_is)
  (case xo=>show PySem.W.excIn _ _ _ _=true;kernel_rfl)
  (case q0=>kernel_rfl)
  (case q1=>kernel_rfl)
  (case q2=>kernel_rfl)
  (case q3=>kernel_rfl)
  (case q4=>kernel_rfl)
  (case q5=>kernel_rfl)
  (case q6=>kernel_rfl)
  (case q7=>kernel_rfl)
  (case q8=>kernel_rfl)
  (case qm=>kernel_rfl)
  (case qv=>kernel_rfl)
  (case y1=>kernel_rfl)
  (case y2=>kernel_rfl)
  (case y3=>kernel_rfl)
  (case y4=>kernel_rfl)
  (case y5=>kernel_rfl)
  (case y6=>kernel_rfl)
  (case m53=>rfl)
  (case o53=>kernel_rfl)
#print axioms PySem.Challenge.cw_momentwright_k15_stretches_told_holds
